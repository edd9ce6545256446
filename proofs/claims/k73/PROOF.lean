import PyProof.Rows.All
import Wide.All
import OpenK.AllK
import Wide.FinOn
import Lean
import PyProof.EqAt
import PyProof.EqKinds
import PyProof.TupleCall
import PySem.Challenge.RW_beatplans_k73_rings_that_are_refused
set_option compiler.extract_closed false
set_option Elab.async false
set_option linter.all false
set_option maxRecDepth 100000
namespace L2
open PySem PySem.Spec PyProof.Rows

noncomputable abbrev Key:=Sum Int Str
noncomputable def jeK:Key->Value->Bool
 | .inl k,v=>Value.isInt k v
 | .inr x,v=>Value.isStrOf x v
noncomputable def keyH (w:World):Key->Int
 | .inl k=>hashInt k
 | .inr x=>hashStr w x
theorem jao:∀ {k:Key} {v:Value},jeK k v=true->(∃ i t,k=Sum.inl i/\v=Value.int i t)\/(∃ x t,k=Sum.inr x/\v=Value.str x t)
 | .inl i,v,h=>by
  obtain ⟨t,e⟩:=Value.isInt_shape (k:=i) (v:=v) h
  exact .inl ⟨i,t,rfl,e⟩
 | .inr x,v,h=>by
  obtain ⟨t,e⟩:=Value.isStrOf_shape (x:=x) (v:=v) h
  exact .inr ⟨x,t,rfl,e⟩
theorem jfo (i:Int)(t:Tok):jeK (.inl i) (.int i t)=true:=by simp [jeK,Value.isInt]
theorem jfn (x:Str)(t:Tok):jeK (.inr x) (.str x t)=true:=by simp [jeK,Value.isStrOf]
theorem jjD (a b:Int):decide ((Sum.inl a:Key)=Sum.inl b)=(a == b):=by
 by_cases e:a=b
 ·subst e; simp
 ·have h:¬ (Sum.inl a:Key)=Sum.inl b:=fun q=>e (Sum.inl.inj q)
  rw [decide_eq_false h]
  exact (beq_eq_false_iff_ne.mpr e).symm
theorem jjA (a b:Str):decide ((Sum.inr a:Key)=Sum.inr b)=decide (a=b):=by
 by_cases e:a=b
 ·subst e; simp
 ·have h:¬ (Sum.inr a:Key)=Sum.inr b:=fun q=>e (Sum.inr.inj q)
  rw [decide_eq_false h,decide_eq_false e]
theorem jjC (a:Int)(b:Str):decide ((Sum.inl a:Key)=Sum.inr b)=false:=decide_eq_false (fun q=>nomatch q)
theorem jjB (a:Str)(b:Int):decide ((Sum.inr a:Key)=Sum.inl b)=false:=decide_eq_false (fun q=>nomatch q)

noncomputable def jap (prog:Program)(w:World):PySem.KeyKind prog w Key where
 is:=jeK
 hash:=keyH w
 inj:=fun v a b ha hb=>by
  rcases jao ha with ⟨i,t,rfl,rfl⟩ | ⟨x,t,rfl,rfl⟩
  ·rcases jao hb with ⟨j,u,rfl,e⟩ | ⟨y,u,rfl,e⟩
   ·injection e with e1 _; rw [e1]
   ·exact nomatch e
  ·rcases jao hb with ⟨j,u,rfl,e⟩ | ⟨y,u,rfl,e⟩
   ·exact nomatch e
   ·injection e with e1 _; rw [e1]
 byValue:=fun k v h=>by
  rcases jao h with ⟨i,t,rfl,rfl⟩ | ⟨x,t,rfl,rfl⟩ <;> rfl
 pyHash:=fun hv h=>by
  rcases jao hv with ⟨i,t,rfl,rfl⟩ | ⟨x,t,rfl,rfl⟩
  ·exact wpAny_pyHash_int h
  ·exact wpAny_pyHash_str h
 eqBool:=fun hu hv h=>by
  rcases jao hu with ⟨i,t,rfl,rfl⟩ | ⟨x,t,rfl,rfl⟩
  ·rcases jao hv with ⟨j,u,rfl,rfl⟩ | ⟨y,u,rfl,rfl⟩
   ·rw [jjD] at h; exact wpAny_eqBool_int h
   ·rw [jjC] at h; exact SeqAt.EqAt.int_str i t y u _ _ _ _ h
  ·rcases jao hv with ⟨j,u,rfl,rfl⟩ | ⟨y,u,rfl,rfl⟩
   ·rw [jjB] at h; exact SeqAt.EqAt.str_int x t j u _ _ _ _ h
   ·rw [jjA] at h; exact wpAny_eqBool_str h
 «strs»:=fun k x t v h=>by
  rcases jao h with ⟨i,u,rfl,e⟩ | ⟨y,u,rfl,e⟩
  ·exact nomatch e
  ·injection e with e1 _
   subst e1
   cases v <;> rfl

theorem jdL (prog:Program)(w:World)(i:Int)(t:Tok):(jap prog w).is (.inl i) (.int i t)=true:=jfo i t
theorem jdK (prog:Program)(w:World)(x:Str)(t:Tok):(jap prog w).is (.inr x) (.str x t)=true:=jfn x t

inductive V where
 | non | bl (b:Bool) | int (i:Int) | str (x:Str) | byt (b:Array UInt8) | flt (b:UInt64) | ref (a:Addr) | ty (n:String)
 deriving DecidableEq

noncomputable def RelV:V->Value->Prop
 | .non,u=>u=Value.none
 | .bl b,u=>u=Value.bool b
 | .int i,u=>∃ t,u=Value.int i t
 | .str x,u=>∃ t,u=Value.str x t
 | .byt b,u=>∃ t,u=Value.bytes b t
 | .flt b,u=>∃ t,u=Value.float b t
 | .ref a,u=>u=Value.ref a
 | .ty n,u=>u=Value.type n

noncomputable abbrev Vals:List V->List Value->Prop:=Paired RelV
theorem Vals.length {xs:List V}{us:List Value}(r:Vals xs us):xs.length=us.length:=Paired.length r
theorem Vals.get:∀ {xs:List V} {us:List Value} {i:Nat} {x:V},Vals xs us->xs[i]?=some x->∃ u,us[i]?=some u/\RelV x u
 | _,_,_,_,.nil,e=>by simp at e
 | _,_,0,_,.cons r _,e=>by simp at e; subst e; exact ⟨_,rfl,r⟩
 | _,_,i + 1,x,.cons _ t,e=>by
  obtain ⟨u,h1,h2⟩:=Vals.get (i:=i) (x:=x) t (by simpa using e)
  exact ⟨u,by simpa using h1,h2⟩
theorem Vals.set {x:V}{u:Value}(r:RelV x u):∀ {xs:List V} {us:List Value} (i:Nat),Vals xs us->Vals (xs.set i x) (us.set i u)
 | _,_,_,.nil=>.nil
 | _,_,0,.cons _ t=>.cons r t
 | _,_,i + 1,.cons q t=>.cons q (Vals.set r i t)
theorem Vals.append:∀ {xs ys:List V} {us ws:List Value},Vals xs us->Vals ys ws->Vals (xs++ys) (us++ws)
 | _,_,_,_,.nil,s=>s
 | _,_,_,_,.cons r t,s=>.cons r (Vals.append t s)
theorem Vals.take:∀ {xs:List V} {us:List Value} (n:Nat),Vals xs us->Vals (xs.take n) (us.take n)
 | _,_,0,_=>.nil
 | _,_,_ + 1,.nil=>.nil
 | _,_,n + 1,.cons r t=>.cons r (Vals.take n t)
theorem Vals.drop:∀ {xs:List V} {us:List Value} (n:Nat),Vals xs us->Vals (xs.drop n) (us.drop n)
 | _,_,0,r=>r
 | _,_,_ + 1,.nil=>.nil
 | _,_,n + 1,.cons _ t=>Vals.drop n t
noncomputable def RelO:Option V->Option Value->Prop
 | some v,some u=>RelV v u
 | none,none=>True
 | _,_=>False
noncomputable def KV {κ:Type}:List (κ×V)->List (κ×Value)->Prop:=Paired fun (p:κ×V) (q:κ×Value)=>p.1=q.1/\RelV p.2 q.2

noncomputable def kV:Key->V
 | .inl i=>.int i
 | .inr x=>.str x

inductive HO where
 | lst (xs:List V)
 | tup (xs:List V)
 | dK (kvs:List (Key×V)) | dT (kvs:List (List Key×V))
 | set (S:Int->Bool) (n:Nat)
 | ins (C dx:Addr) (fs:List (Str×V))
 | own (x:Addr)
 | xd (fs:List (Str×V))
 | met (f x:Addr)
 | rng (lo hi:Int)
 | frz (o:Obj) (u:HO)
 | tbl (ps:Array Value)
 | ext (φ:Heap->Prop)

noncomputable abbrev Hp:=Addr->Option HO
noncomputable def upd (H:Hp)(a:Addr)(o:HO):Hp:=fun b=>if b=a then some o else H b
theorem jae {H:Hp}{a:Addr}{o:HO}:upd H a o a=some o:=by unfold upd; rw [if_pos rfl]
theorem jac {H:Hp}{a b:Addr}{o:HO}(h:b≠a):upd H a o b=H b:=by unfold upd; rw [if_neg h]
theorem jla {H:Hp}{a b:Addr}{o u:HO}(h:H a=some o)(h':H b=some u)(d:o≠u):a≠b:=by
 intro e; subst e; rw [h] at h'; exact d (Option.some.inj h')
theorem jad {H:Hp}{a b:Addr}{o:HO}(h:H a=some o)(h':H b=none):a≠b:=by
 intro e; subst e; rw [h] at h'; cases h'

noncomputable def TupD (h:Heap)(a:Addr)(items:Array Value):Prop:=∃ o,h.get? a=some o/\o.cls=.type "tuple" /\ ∃ n,o.data=.seq items n/\o.dict=none
theorem TupD.tup {h:Heap}{a:Addr}{items:Array Value}(x:TupD h a items):IsTup h a items:=let ⟨o,e,c,n,d,_⟩:=x; ⟨o,e,c,n,d⟩
theorem TupD.new (h:Heap)(items:Array Value):TupD (h.push { cls:=.type "tuple",data:=.seq items }) h.objs.size items:=⟨_,Heap.get?_push_size _ rfl,rfl,_,rfl,rfl⟩
section
variable (P:Program)(w:World)
noncomputable def jay (H : Hp)(h : Heap)(a : Addr) : HO -> Prop
  | .lst xs => xs.length <= sizeLine /\ ∃ (its : List Value) (n : Nat), Vals xs its /\ h.get? a = some { cls := .type "list", data := .seq its.toArray n }
  | .tup xs => xs.length <= sizeLine /\ ∃ its : List Value, Vals xs its /\ TupD h a its.toArray
  | .dK kvs => kvs.length <= sizeLine /\ (a == sysModules) = false /\ ∃ vs, KV kvs vs /\ h.DictOf (jap P w) a vs
  | .dT kvs => kvs.length <= sizeLine /\ (a == sysModules) = false /\ ∃ xs : List (List Key × Addr × Value),
      Paired (fun (p : List Key × V) (q : List Key × Addr × Value) => p.1 = q.1 /\ H q.2.1 = some (.tup (p.1.map kV)) /\ RelV p.2 q.2.2) kvs xs /\
      ∃ o es ep, h.get? a = some o /\ o.ExactDict /\ o.data = .dict es ep /\ es.toList = xs.map (entryOfKey (tupleKind (jap P w))) /\ (xs.map (·.1)).Nodup
  | .set S n => h.SetOf (intKind P w) a S n
  | .ins C dx fs => H dx = some (.own a) /\ fs.length <= 1000 /\ dx ≠ a /\ h.get? a = some (PySem.W.instObj C dx) /\
      ∃ mA, h.Ns1 dx mA /\ (∀ f, RelO (fs.lookup f) (mA f)) /\ PySem.Within mA (fs.map (·.1))
  | .own _ => ∃ o, h.get? a = some o
  | .xd fs => ∃ mA, h.Ns1 a mA /\ ∀ f, RelO (fs.lookup f) (mA f)
  | .rng lo hi => ∃ t u v, h.get? a = some { cls := .type "range", data := .fields #[.int lo t, .int hi u, .int 1 v] }
  | .frz o u => h.get? a = some o /\ jay H h a u
  | .tbl ps => h.get? a = some { cls := .none, data := .fields ps }
  | .met f x => h.get? a = some (PySem.W.methodObj (.ref f) (.ref x))
  | .ext φ => φ h /\ (∃ o, h.get? a = some o) /\ ∀ h1 h2 : Heap, φ h1 -> (∀ o, h1.get? a = some o -> h2.get? a = some o) -> φ h2
noncomputable def HOk (H:Hp)(h:Heap):Prop:=∀ a o,H a=some o->jay P w H h a o
end

section
variable {P:Program}{w:World}{H H':Hp}{h h':Heap}{a:Addr}{o:HO}
theorem jay.lt (x:jay P w H h a o):a < h.objs.size:=by
 cases o with
 | lst xs=>obtain ⟨_,_,_,_,e⟩:=x; exact Heap.lt_size e
 | tup xs=>obtain ⟨_,_,_,p⟩:=x; exact p.tup.lt
 | dK kvs=>obtain ⟨_,_,_,_,o,_,_,e,_⟩:=x; exact Heap.lt_size e
 | dT kvs=>obtain ⟨_,_,_,_,o,_,_,e,_⟩:=x; exact Heap.lt_size e
 | set S n=>obtain ⟨o,_,_,_,e,_⟩:=x; exact Heap.lt_size e
 | ins C dx fs=>obtain ⟨_,_,_,e,_⟩:=x; exact Heap.lt_size e
 | own y=>obtain ⟨_,e⟩:=x; exact Heap.lt_size e
 | xd fs=>obtain ⟨_,⟨_,_,_,e,_⟩,_⟩:=x; exact Heap.lt_size e
 | rng lo hi=>obtain ⟨_,_,_,e⟩:=x; exact Heap.lt_size e
 | frz ob u=>obtain ⟨e,_⟩:=x; exact Heap.lt_size e
 | tbl ps=>exact Heap.lt_size (show h.get? a=some _ from x)
 | met f y=>exact Heap.lt_size (show h.get? a=some _ from x)
 | ext φ=>obtain ⟨_,⟨_,e⟩,_⟩:=x; exact Heap.lt_size e
theorem Paired.mapP {α β:Type}{F G:α->β->Prop}:∀ {l₁:List α} {l₂:List β},Paired F l₁ l₂->(∀ a b,F a b->G a b)->Paired G l₁ l₂
 | _,_,.nil,_=>.nil
 | _,_,.cons r t,f=>.cons (f _ _ r) (Paired.mapP t f)
theorem jay.stay (x:jay P w H h a o)(k:∀ b u,(b=a\/H b=some (.own a))->h.get? b=some u->h'.get? b=some u)
  (ho:∀ b,H b=some (.own a)->H' b=some (.own a)) (ht:∀ b xs,H b=some (.tup xs)->H' b=some (.tup xs)):jay P w H' h' a o:=by
 induction o with
 | lst xs=>obtain ⟨z,its,n,r,e⟩:=x; exact ⟨z,its,n,r,k _ _ (.inl rfl) e⟩
 | tup xs=>obtain ⟨z,its,r,ob,e,c⟩:=x; exact ⟨z,its,r,ob,k _ _ (.inl rfl) e,c⟩
 | dK kvs=>obtain ⟨z,y,vs,r,ob,es,ep,e,c⟩:=x; exact ⟨z,y,vs,r,ob,es,ep,k _ _ (.inl rfl) e,c⟩
 | dT kvs=>
  obtain ⟨z,y,xs,r,ob,es,ep,e,c⟩:=x
  exact ⟨z,y,xs,Paired.mapP r fun p q z=>⟨z.1,ht _ _ z.2.1,z.2.2⟩,ob,es,ep,k _ _ (.inl rfl) e,c⟩
 | set S n=>obtain ⟨ob,es,ep,t,e,c⟩:=x; exact ⟨ob,es,ep,t,k _ _ (.inl rfl) e,c⟩
 | ins C dx fs=>
  obtain ⟨d,z,ne,e,mA,⟨od,es,ep,e2,c⟩,r⟩:=x
  exact ⟨ho _ d,z,ne,k _ _ (.inl rfl) e,mA,⟨od,es,ep,k _ _ (.inr d) e2,c⟩,r⟩
 | own y=>obtain ⟨ob,e⟩:=x; exact ⟨ob,k _ _ (.inl rfl) e⟩
 | xd fs=>obtain ⟨mA,⟨od,es,ep,e,c⟩,r⟩:=x; exact ⟨mA,⟨od,es,ep,k _ _ (.inl rfl) e,c⟩,r⟩
 | rng lo hi=>obtain ⟨t,u,v,e⟩:=x; exact ⟨t,u,v,k _ _ (.inl rfl) e⟩
 | frz ob u ih=>obtain ⟨e,q⟩:=x; exact ⟨k _ _ (.inl rfl) e,ih q⟩
 | tbl ps=>
  have e:h.get? a=some { cls:=.none,data:=.fields ps }:=x
  show h'.get? a=some { cls:=.none,data:=.fields ps }
  exact k a _ (.inl rfl) e
 | met f y=>
  have e:h.get? a=some (PySem.W.methodObj (.ref f) (.ref y)):=x
  show h'.get? a=some (PySem.W.methodObj (.ref f) (.ref y))
  exact k a _ (.inl rfl) e
 | ext φ=>obtain ⟨p,⟨o,e⟩,st⟩:=x; exact ⟨st _ _ p fun o q=>k _ _ (.inl rfl) q,⟨o,k _ _ (.inl rfl) e⟩,st⟩
theorem HOk.lt (x:HOk P w H h)(e:H a=some o):a < h.objs.size:=(x a o e).lt
theorem HOk.fresh (x:HOk P w H h)(e:h.objs.size<=a):H a=none:=by
 cases q:H a with
 | none=>rfl
 | some u=>exact absurd (Nat.lt_of_lt_of_le (x.lt q) e) (Nat.lt_irrefl _)
theorem HOk.kept (x:HOk P w H h)(k:∀ b u,h.get? b=some u->h'.get? b=some u):HOk P w H h':=fun a o e=>
 (x a o e).stay (fun b u _ q=>k b u q) (fun _ q=>q) fun _ _ q=>q
theorem HOk.laid (x:HOk P w H h)(k:∀ b u,h.get? b=some u->h'.get? b=some u)(hp:h.objs.size<=a)(new:jay P w (upd H a o) h' a o):HOk P w (upd H a o) h':=fun b u e=>by
 have hn:=x.fresh hp
 by_cases hb:b=a
 ·subst hb; rw [jae] at e; cases e; exact new
 ·rw [jac hb] at e
  exact (x b u e).stay (fun c v _ q=>k c v q) (fun c q=>by rw [jac (jad q hn)]; exact q) fun c xs q=>by rw [jac (jad q hn)]; exact q
end

noncomputable def Rd (H:Hp)(a:Addr)(u:HO):Prop:=H a=some u\/∃ o,H a=some (.frz o u)
theorem Rd.ok {P:Program}{w:World}{H:Hp}{h:Heap}{a:Addr}{u:HO}(r:Rd H a u)(x:HOk P w H h):jay P w H h a u:=by
 rcases r with r | ⟨o,r⟩
 ·exact x a u r
 ·obtain ⟨_,q⟩:=x a _ r
  exact q
noncomputable def Mut:Option HO->Prop
 | some (.lst _)=>True
 | some (.dK _)=>True
 | some (.dT _)=>True
 | some (.set _ _)=>True
 | some (.ins _ _ _)=>True
 | some (.ext _)=>True
 | _=>False
section
variable {P:Program}{w:World}{H:Hp}{h h':Heap}{x e:Addr}{o':HO}
theorem HOk.write (ok : HOk P w H h)(mu : Mut (H x))(he : e = x \/ H e = some (.own x))(k : ∀ b u, b ≠ e -> h.get? b = some u -> h'.get? b = some u)(heo : ∃ u, h'.get? e = some u)
    (new : jay P w (upd H x o') h' x o') : HOk P w (upd H x o') h' := fun b u q => by
  have nown : ∀ c y, H c = some (.own y) -> c ≠ x := fun c y r z => by subst z; rw [r] at mu; exact mu
  have ntup : ∀ c xs, H c = some (.tup xs) -> c ≠ x := fun c xs r z => by subst z; rw [r] at mu; exact mu
  by_cases hb : b = x
  · subst hb; rw [jae] at q; cases q; exact new
  · rw [jac hb] at q
    by_cases hbe : b = e
    · have q' : H b = some (.own x) := by
        rcases he with z | z
        · exact absurd (hbe.trans z) hb
        · rw [hbe]; exact z
      rw [q] at q'; cases q'
      obtain ⟨v, hv⟩ := heo
      exact ⟨v, by rw [hbe]; exact hv⟩
    · refine (ok b u q).stay (fun c v hc r => k c v ?_ r) (fun c r => by rw [jac (nown c b r)]; exact r) fun c xs r => by rw [jac (ntup c xs r)]; exact r
      rcases hc with rfl | hc
      · exact hbe
      · rintro rfl
        rcases he with z | z
        · exact nown c b hc z
        · rw [hc] at z; cases z; exact hb rfl
end

structure Un (fs ex:List Addr)(H H':Hp)(h h':Heap):Prop where
 keep:∀ b o,h.get? b=some o->H b=none->b∉fs->b∉ex->h'.get? b=some o
 slot:∀ b o,h.get? b=some o->H b=none->b∈fs->b∉ex->∃ sl,h'.get? b=some { o with slots:=sl }
 free:∀ b o,h.get? b=some o->H b=none->b∉ex->H' b=none
 there:∀ b o,h.get? b=some o->b∉ex->∃ o',h'.get? b=some o'
 tups:∀ b xs,H b=some (.tup xs)->H' b=some (.tup xs)
 frzs:∀ b o u,H b=some (.frz o u)->H' b=some (.frz o u)
 tbls:∀ b ps,H b=some (.tbl ps)->∃ more,H' b=some (.tbl (ps++more))
section
variable {fs fs' ex ex':List Addr}{H H1 H2:Hp}{h h1 h2 h':Heap}{a x e:Addr}{o:HO}
theorem Un.any (u:Un fs ex H H1 h h1){b:Addr}{ob:Obj}(q:h.get? b=some ob)(n:H b=none)(hx:b∉ex):∃ sl,h1.get? b=some { ob with slots:=sl }:=by
 by_cases hb:b∈fs
 ·exact u.slot b ob q n hb hx
 ·exact ⟨ob.slots,u.keep b ob q n hb hx⟩
theorem Un.trans (a:Un fs ex H H1 h h1)(b:Un fs ex H1 H2 h1 h2):Un fs ex H H2 h h2 where
 keep:=fun c ob q n hc hx=>b.keep c ob (a.keep c ob q n hc hx) (a.free c ob q n hx) hc hx
 slot:=fun c ob q n hc hx=>by
  obtain ⟨sl,e1⟩:=a.slot c ob q n hc hx
  obtain ⟨sl',e2⟩:=b.slot c _ e1 (a.free c ob q n hx) hc hx
  exact ⟨sl',e2⟩
 free:=fun c ob q n hx=>by
  obtain ⟨o',e1⟩:=a.there c ob q hx
  exact b.free c o' e1 (a.free c ob q n hx) hx
 there:=fun c ob q hx=>by
  obtain ⟨o',e1⟩:=a.there c ob q hx
  exact b.there c o' e1 hx
 tups:=fun c xs q=>b.tups c xs (a.tups c xs q)
 frzs:=fun c ob xs q=>b.frzs c ob xs (a.frzs c ob xs q)
 tbls:=fun c ps q=>by
  obtain ⟨m1,e1⟩:=a.tbls c ps q
  obtain ⟨m2,e2⟩:=b.tbls c _ e1
  exact ⟨m1++m2,by rw [e2,Array.append_assoc]⟩
theorem Un.kept (k:∀ b u,h.get? b=some u->h'.get? b=some u):Un fs ex H H h h':=
 ⟨fun b ob q _ _ _=>k b ob q,fun b ob q _ _ _=>⟨ob.slots,k b ob q⟩,fun _ _ _ n _=>n,fun b ob q _=>⟨ob,k b ob q⟩,fun _ _ q=>q,fun _ _ _ q=>q,fun _ ps q=>⟨#[],by rw [q]; simp⟩⟩
theorem Un.refl:Un fs ex H H h h:=Un.kept fun _ _ q=>q
theorem Un.laid (k:∀ b u,h.get? b=some u->h'.get? b=some u)(hp:h.objs.size<=a)(hn:H a=none):Un fs ex H (upd H a o) h h' where
 keep:=fun b u q _ _ _=>k b u q
 slot:=fun b u q _ _ _=>⟨u.slots,k b u q⟩
 free:=fun b u q n _=>by rw [jac (Nat.ne_of_lt (Nat.lt_of_lt_of_le (Heap.lt_size q) hp))]; exact n
 there:=fun b u q _=>⟨u,k b u q⟩
 tups:=fun b xs q=>by rw [jac (jad q hn)]; exact q
 frzs:=fun b u xs q=>by rw [jac (jad q hn)]; exact q
 tbls:=fun b ps q=>⟨#[],by rw [jac (jad q hn),q]; simp⟩
theorem Un.write (mu:Mut (H x))(he:e=x\/H e=some (.own x))(k:∀ b u,b≠e->h.get? b=some u->h'.get? b=some u)(heo:∃ u,h'.get? e=some u):Un fs ex H (upd H x o) h h':=by
 have hx:∀ b,H b=none->b≠x:=fun b n z=>by subst z; rw [n] at mu; exact mu
 have hb:∀ b,H b=none->b≠e:=fun b n z=>by
  subst z
  rcases he with r | r
  ·exact hx b n r
  ·rw [n] at r; cases r
 have hm:∀ b u,H b=some u->¬ Mut (some u)->b≠x:=fun b u q nm z=>by subst z; rw [q] at mu; exact nm mu
 refine ⟨fun b u q n _ _=>k b u (hb b n) q,fun b u q n _ _=>⟨u.slots,k b u (hb b n) q⟩,fun b u q n _=>by rw [jac (hx b n)]; exact n,fun b u q _=>?_,
  fun b xs q=>by rw [jac (hm b _ q fun z=>z)]; exact q,fun b u xs q=>by rw [jac (hm b _ q fun z=>z)]; exact q,fun b ps q=>⟨#[],by rw [jac (hm b _ q fun z=>z),q]; simp⟩⟩
 by_cases hbe:b=e
 ·subst hbe; exact heo
 ·exact ⟨u,k b u hbe q⟩
end

noncomputable def trk (h:Heap)(H:Hp):List Addr:=(List.range h.objs.size).filter fun a=>(H a).isSome
noncomputable def hidT (h:Heap)(H:Hp):Heap:=PySem.W.hideAll h (trk h H)
theorem jft (h:Heap)(H:Hp):(hidT h H).objs.size=h.objs.size:=PySem.W.hideAll_size _ _
theorem jgj {h:Heap}{H:Hp}{b:Addr}{o:Obj}(e:h.get? b=some o)(n:H b=none):(hidT h H).get? b=some o:=
 PySem.W.hideAll_get _ e fun hm=>by
  have q:(H b).isSome=true:=(List.mem_filter.mp hm).2
  rw [n] at q; simp at q
theorem jhQ {h:Heap}{H:Hp}{b:Addr}{o:Obj}(e:(hidT h H).get? b=some o):h.get? b=some o/\H b=none:=by
 have e':h.get? b=some o:=PySem.W.of_hideAll (trk h H) e
 refine ⟨e',?_⟩
 cases q:H b with
 | none=>rfl
 | some x=>
  have hm:b∈trk h H:=List.mem_filter.mpr ⟨List.mem_range.mpr (Heap.lt_size e'),by simp [q]⟩
  have z:(hidT h H).get? b=none:=PySem.W.hideAll_none (trk h H) hm
  rw [z] at e; cases e

noncomputable def jim (g h:Heap)(L:Addr):List (Addr×Obj):=(List.range h.objs.size).filterMap fun a=>if a=L\/(g.get? a).isSome=true then none else (h.get? a).map fun o=>(a,o)
noncomputable def rest (g h:Heap)(L d:Addr):List (Addr×Obj):=(jim g h L).filter fun p=>decide (p.1≠d)

structure Mod (K:PySem.W.Frag)(mg:Str->Option Value)(base:Heap):Prop where
 kin:K.In base
 glob:base.Ns mainGlobals mg
 blt:∃ mb,base.Ns builtinsNs mb/\∀ x:Str,x ≠ "__name__" -> mb x=bootBuiltins x
 nolimit:base.NoLimit
 sys:∃ o,K.lookup sysModules=some o/\o.cls=.type "dict"

structure Cx where
 prog:Program
 w:World
 K:PySem.W.Frag
 mg:Str->Option Value
 base:Heap
 A:Around
 N:List Str
 s₀:Shared
 H₀:Hp
 env:Env
 outer:List Env
 stack:List Env
 ex:List Addr
 fn:Str->Bool
 calm:Bool
 pn:List (Addr×Obj)
 xe:Value->Shared->Prop
noncomputable def frs (l:List Env):List Addr:=l.filterMap (·.frame)
noncomputable abbrev Cx.fs (X:Cx):List Addr:=frs X.outer

noncomputable def Vis (sc:Scope)(x:Str):Prop:=sc.names.lookup x=some .local\/sc.names.lookup x=some .cell\/sc.names.lookup x=some .free
noncomputable def Loc (sc:Scope)(x:Str):Prop:=sc.names.lookup x=some .local\/sc.names.lookup x=some .cell
noncomputable def Look (env:Env)(h:Heap)(m:Str->Option Value)(x:Str)(u:Value):Prop:=
 (env.kindOf x=some .local/\m x=some u)\/((env.kindOf x=some .cell\/env.kindOf x=some .free)/\∃ c,env.cells.lookup x=some c/\h.IsCell c (some u))

structure Cx.Ok (X:Cx):Prop where
 mod:Mod X.K X.mg X.base
 kind:X.env.scope.kind=.function
 glob:X.env.globals=mainGlobals
 blt:X.env.builtins=builtinsNs
 above:X.s₀.heap.objs.size<=X.env.locals
 inj:∀ x y c,X.env.cells.lookup x=some c->X.env.cells.lookup y=some c->x=y
 has:∀ x,(X.env.kindOf x=some .cell\/X.env.kindOf x=some .free)->∃ c,X.env.cells.lookup x=some c
 cab:∀ x c,X.fn x=true->X.env.cells.lookup x=some c->X.s₀.heap.objs.size<=c
 hd:X.calm=true->X.A.handled=none
 frames:X.A.frames=some X.stack
 stk:X.stack=X.outer\/(X.stack=X.env::X.outer/\X.env.frame=some X.env.locals)
 exf:∀ b∈X.ex,b≠X.env.locals/\∀ x c,X.env.cells.lookup x=some c->c≠b
 bs:∀ b o,X.base.get? b=some o->X.s₀.heap.get? b=some o/\X.H₀ b=none
 bsz:X.base.objs.size<=X.s₀.heap.objs.size
 noex:∀ b o,X.base.get? b=some o->b∉X.ex
 exfs:∀ b∈X.ex,b∉X.fs
 funs:X.s₀.heap.FunFrames X.base X.outer
 frf:∀ b∈X.fs,X.H₀ b=none

structure Inv (X:Cx)(pins:List (Addr×Obj))(σ:List (Option V))(H:Hp)(s:Shared):Prop where
 ok:X.Ok
 os:s.os=X.s₀.os
 bare:AllBare s.gens
 base:Un X.fs X.ex X.H₀ H X.s₀.heap s.heap
 loc:∃ m,s.heap.Ns X.env.locals m/\∀ (i:Nat) (x:Str) (v:V),X.N[i]?=some x->σ[i]?=some (some v)->Vis X.env.scope x->∃ u,RelV v u/\Look X.env s.heap m x u
 cell:∀ x c,X.env.cells.lookup x=some c->∃ v,s.heap.IsCell c v
 free:H X.env.locals=none
 freeC:∀ x c,X.env.cells.lookup x=some c->H c=none
 pin:∀ p∈X.pn++pins,s.heap.get? p.1=some p.2/\H p.1=none/\p.1≠X.env.locals/\p.1∉X.fs/\∀ v,p.2.data≠.cell v
 hok:HOk X.prog X.w H s.heap
 len:σ.length=X.N.length

section
variable {X:Cx}{pins:List (Addr×Obj)}{σ:List (Option V)}{H H':Hp}{s:Shared}{h':Heap}

theorem Cx.Ok.nofr (ok:X.Ok){b:Addr}{o:Obj}(e:X.base.get? b=some o):b∉X.fs:=fun hb=>by
 have:=(ok.funs.mem hb).1
 rw [e] at this; cases this
theorem Inv.bs (I:Inv X pins σ H s):∀ b o,X.base.get? b=some o->s.heap.get? b=some o/\H b=none:=fun b o e=>
 ⟨I.base.keep b o (I.ok.bs b o e).1 (I.ok.bs b o e).2 (I.ok.nofr e) (I.ok.noex b o e),I.base.free b o (I.ok.bs b o e).1 (I.ok.bs b o e).2 (I.ok.noex b o e)⟩
theorem Inv.bk (I:Inv X pins σ H s):∀ b o,X.base.get? b=some o->s.heap.get? b=some o:=fun b o e=>(I.bs b o e).1
theorem Inv.mod (I:Inv X pins σ H s):Mod X.K X.mg X.base:=I.ok.mod
theorem Inv.kIn (I:Inv X pins σ H s):X.K.In s.heap:=I.ok.mod.kin.keeps I.bk
theorem Inv.lt (I:Inv X pins σ H s):X.env.locals < s.heap.objs.size:=let ⟨_,hn,_⟩:=I.loc; hn.lt
theorem Inv.sz (I:Inv X pins σ H s):X.s₀.heap.objs.size<=s.heap.objs.size:=Nat.le_trans I.ok.above (Nat.le_of_lt I.lt)
theorem Inv.nofs (I:Inv X pins σ H s){a:Addr}(h:s.heap.objs.size<=a):a∉X.fs:=fun hb=>by
 obtain ⟨_,o,ho,_⟩:=I.ok.funs.mem hb
 exact absurd (Nat.lt_of_lt_of_le (Heap.lt_size ho) (Nat.le_trans I.sz h)) (Nat.lt_irrefl _)
theorem Inv.cne (I:Inv X pins σ H s):∀ x c,X.env.cells.lookup x=some c->c≠X.env.locals:=fun x c e z=>by
 obtain ⟨v,o,ho,hd⟩:=I.cell x c e
 obtain ⟨m,⟨o',es,ep,ho',hd',_⟩,_⟩:=I.loc
 rw [z,ho'] at ho; cases ho; rw [hd'] at hd; cases hd
theorem Inv.funs (I:Inv X pins σ H s):s.heap.FunFrames X.base X.outer:=by
 have all:∀ (l:List Env),(∀ b∈frs l,b∈X.fs)->X.s₀.heap.FunFrames X.base l->s.heap.FunFrames X.base l:=by
  intro l
  induction l with
  | nil=>intro _ _; trivial
  | cons env r ih=>
   intro hs hl
   obtain ⟨hk,⟨L,o,hf,hn,ho,hd⟩,hr⟩:=hl
   have hL:L∈X.fs:=hs L (by unfold frs; rw [List.filterMap_cons,hf]; exact List.mem_cons_self)
   obtain ⟨sl,e⟩:=I.base.slot L o ho (I.ok.frf L hL) hL fun z=>I.ok.exfs L z hL
   exact ⟨hk,⟨L,_,hf,hn,e,hd⟩,ih (fun b hb=>hs b (by unfold frs; rw [List.filterMap_cons,hf]; exact List.mem_cons_of_mem _ hb)) hr⟩
 exact all X.outer (fun _ hb=>hb) I.ok.funs

theorem Inv.stack (I:Inv X pins σ H s):s.heap.FunFrames X.base X.stack:=by
 rcases I.ok.stk with e | ⟨e,hf⟩
 ·rw [e]; exact I.funs
 ·rw [e]
  obtain ⟨m,hn,_⟩:=I.loc
  refine .cons (by rw [I.ok.kind]; decide) hf hn ?_ I.funs
  exact Heap.get?_none_of_le (Nat.le_trans I.ok.bsz I.ok.above)
theorem Inv.stkSub (I:Inv X pins σ H s):∀ b∈frs X.stack,b∈X.env.locals::X.fs:=fun b hb=>by
 rcases I.ok.stk with e | ⟨e,hf⟩
 ·rw [e] at hb; exact List.mem_cons_of_mem _ hb
 ·rw [e] at hb
  unfold frs at hb
  rw [List.filterMap_cons,hf] at hb
  exact hb
theorem Inv.stkFree (I:Inv X pins σ H s):∀ b∈frs X.stack,H b=none:=fun b hb=>by
 rcases List.mem_cons.mp (I.stkSub b hb) with e | hb
 ·rw [e]; exact I.free
 ·obtain ⟨_,o,ho,_⟩:=I.ok.funs.mem hb
  exact I.base.free b o ho (I.ok.frf b hb) fun z=>I.ok.exfs b z hb

theorem Inv.step {g':Array GenState}{t':Nat}{d':Drawn}{ch:List Addr}(I:Inv X pins σ H s)
  (hch:∀ b∈ch,(b∈X.ex\/X.s₀.heap.objs.size<=b)/\b≠X.env.locals/\(∀ x c,X.env.cells.lookup x=some c->c≠b)/\∀ p∈X.pn++pins,p.1≠b)
  (keep:∀ b o,b≠X.env.locals->b∉X.fs->b∉ch->s.heap.get? b=some o->H b=none->h'.get? b=some o)
  (slot:∀ b o,b≠X.env.locals->b∈X.fs->b∉ch->s.heap.get? b=some o->H b=none->∃ sl,h'.get? b=some { o with slots:=sl }) (free:∀ b o,b∉ch->s.heap.get? b=some o->H b=none->H' b=none)
  (there:∀ b o,b∉ch->s.heap.get? b=some o->∃ o',h'.get? b=some o')
  (tups:∀ b xs,H b=some (.tup xs)->H' b=some (.tup xs)) (frzs:∀ b o u,H b=some (.frz o u)->H' b=some (.frz o u)) (tbls:∀ b ps,H b=some (.tbl ps)->∃ more,H' b=some (.tbl (ps++more)))
  (ns:∀ m,s.heap.Ns X.env.locals m->h'.Ns X.env.locals m) (hok:HOk X.prog X.w H' h') (hg:AllBare g') :
  Inv X pins σ H' { s with heap:=h',gens:=g',drawn:=d',toks:=t' }:=by
 have neL:∀ b o,X.s₀.heap.get? b=some o->b≠X.env.locals:=fun b o e=>Nat.ne_of_lt (Nat.lt_of_lt_of_le (Heap.lt_size e) I.ok.above)
 have neC:∀ b o,X.s₀.heap.get? b=some o->b∉X.ex->b∉ch:=fun b o e hx hb=>by
  rcases (hch b hb).1 with z | z
  ·exact hx z
  ·exact absurd (Nat.lt_of_lt_of_le (Heap.lt_size e) z) (Nat.lt_irrefl _)
 have cellK:∀ x c,X.env.cells.lookup x=some c->∀ v,s.heap.IsCell c v->h'.IsCell c v:=fun x c e v ⟨o,ho,hd⟩=>by
  have nch:c∉ch:=fun z=>(hch c z).2.2.1 x c e rfl
  by_cases hc:c∈X.fs
  ·obtain ⟨sl,q⟩:=slot c o (I.cne x c e) hc nch ho (I.freeC x c e)
   exact ⟨_,q,hd⟩
  ·exact ⟨o,keep c o (I.cne x c e) hc nch ho (I.freeC x c e),hd⟩
 refine ⟨I.ok,I.os,hg,⟨fun b o e n hb hx=>?_,fun b o e n hb hx=>?_,fun b o e n hx=>?_,fun b o e hx=>?_,fun b xs e=>tups b xs (I.base.tups b xs e),fun b o xs e=>frzs b o xs (I.base.frzs b o xs e),fun b ps e=>?_⟩,?_,fun x c e=>?_,?_,fun x c e=>?_,fun p hp=>?_,hok,I.len⟩
 ·exact keep b o (neL b o e) hb (neC b o e hx) (I.base.keep b o e n hb hx) (I.base.free b o e n hx)
 ·obtain ⟨sl,e1⟩:=I.base.slot b o e n hb hx
  obtain ⟨sl',e2⟩:=slot b _ (neL b o e) hb (neC b o e hx) e1 (I.base.free b o e n hx)
  exact ⟨sl',e2⟩
 ·obtain ⟨o',e1⟩:=I.base.there b o e hx
  exact free b o' (neC b o e hx) e1 (I.base.free b o e n hx)
 ·obtain ⟨o',e1⟩:=I.base.there b o e hx
  exact there b o' (neC b o e hx) e1
 ·obtain ⟨m1,e1⟩:=I.base.tbls b ps e
  obtain ⟨m2,e2⟩:=tbls b _ e1
  exact ⟨m1++m2,by rw [e2,Array.append_assoc]⟩
 ·obtain ⟨m,hn,hl⟩:=I.loc
  refine ⟨m,ns m hn,fun i x v e1 e2 e3=>?_⟩
  obtain ⟨u,r,l⟩:=hl i x v e1 e2 e3
  refine ⟨u,r,?_⟩
  rcases l with l | ⟨k,c,e,z⟩
  ·exact .inl l
  ·exact .inr ⟨k,c,e,cellK x c e _ z⟩
 ·obtain ⟨v,z⟩:=I.cell x c e
  exact ⟨v,cellK x c e v z⟩
 ·obtain ⟨m,⟨o,_,_,ho,_⟩,_⟩:=I.loc
  exact free _ o (fun z=>(hch _ z).2.1 rfl) ho I.free
 ·obtain ⟨v,o,ho,hd⟩:=I.cell x c e
  exact free c o (fun z=>(hch c z).2.2.1 x c e rfl) ho (I.freeC x c e)
 ·obtain ⟨e,n,ne,nf,d⟩:=I.pin p hp
  have nch:p.1∉ch:=fun z=>(hch p.1 z).2.2.2 p hp rfl
  exact ⟨keep p.1 p.2 ne nf nch e n,free p.1 p.2 nch e n,ne,nf,d⟩
theorem Inv.un {t':Nat}(I:Inv X pins σ H s)(u:Un X.fs [] H H' s.heap h')(hok:HOk X.prog X.w H' h'):Inv X pins σ H' { s with heap:=h',toks:=t' }:=by
 obtain ⟨m,⟨o,es,ep,ho,r⟩,_⟩:=id I.loc
 obtain ⟨sl,hL⟩:=u.any ho I.free (by simp)
 exact I.step (g':=s.gens) (d':=s.drawn) (ch:=[]) (fun _ z=>nomatch z) (fun b o _ hb _ e n=>u.keep b o e n hb (by simp)) (fun b o _ hb _ e n=>u.slot b o e n hb (by simp)) (fun b o _ e n=>u.free b o e n (by simp)) (fun b o _ e=>u.there b o e (by simp)) u.tups u.frzs u.tbls (fun m' hm=>by
  obtain ⟨o',es',ep',ho',r'⟩:=hm
  rw [ho] at ho'; cases ho'
  exact ⟨_,es',ep',hL,r'⟩) hok I.bare
theorem Inv.call {g':Array GenState}{t':Nat}{d':Drawn}{ch:List Addr}(I:Inv X pins σ H s)(u:Un (frs X.stack) ch H H' s.heap h')(hok:HOk X.prog X.w H' h')(hg:AllBare g')
  (hch:∀ b∈ch,(b∈X.ex\/X.s₀.heap.objs.size<=b)/\b≠X.env.locals/\(∀ x c,X.env.cells.lookup x=some c->c≠b)/\∀ p∈X.pn++pins,p.1≠b) :
  Inv X pins σ H' { s with heap:=h',gens:=g',drawn:=d',toks:=t' }:=by
 obtain ⟨m,⟨o,es,ep,ho,r⟩,_⟩:=id I.loc
 obtain ⟨sl,hL⟩:=u.any ho I.free fun z=>(hch _ z).2.1 rfl
 exact I.step (ch:=ch) hch (fun b o hL hb hc e n=>u.keep b o e n (fun z=>(List.mem_cons.mp (I.stkSub b z)).elim hL hb) hc) (fun b o _ _ hc e n=>u.any e n hc) (fun b o hc e n=>u.free b o e n hc) (fun b o hc e=>u.there b o e hc) u.tups u.frzs u.tbls (fun m' hm=>by
  obtain ⟨o',es',ep',ho',r'⟩:=hm
  rw [ho] at ho'; cases ho'
  exact ⟨_,es',ep',hL,r'⟩) hok hg
theorem Inv.turned {t':Nat}{it:Addr}(I:Inv X pins σ H s)(k:∀ b o,b≠it->s.heap.get? b=some o->h'.get? b=some o)(hn:H it=none)(hL:it≠X.env.locals)
  (h1:it∈X.ex\/X.s₀.heap.objs.size<=it) (h2:∀ x c,X.env.cells.lookup x=some c->c≠it) (h3:∀ p∈X.pn++pins,p.1≠it):Inv X pins σ H { s with heap:=h',toks:=t' }:=by
 have nit:∀ b u,H b=some u->b≠it:=fun b u e z=>by rw [z,hn] at e; cases e
 refine I.step (g':=s.gens) (d':=s.drawn) (ch:=[it]) (fun b hb=>?_) (fun b o _ _ hc e _=>k b o (fun z=>hc (by simp [z])) e) (fun b o _ _ hc e _=>⟨o.slots,k b o (fun z=>hc (by simp [z])) e⟩) (fun _ _ _ _ n=>n)
  (fun b o hc e=>⟨o,k b o (fun z=>hc (by simp [z])) e⟩) (fun _ _ e=>e) (fun _ _ _ e=>e) (fun b ps e=>⟨#[],by rw [e]; simp⟩) (fun m hm=>?_) (fun b u e=>?_) I.bare
 ·have e:b=it:=by simpa using hb
  subst e
  exact ⟨h1,hL,h2,h3⟩
 ·obtain ⟨o,es,ep,ho,r⟩:=hm
  exact ⟨o,es,ep,k _ o (Ne.symm hL) ho,r⟩
 ·refine (I.hok b u e).stay (fun c v hc q=>k c v ?_ q) (fun _ q=>q) fun _ _ q=>q
  rcases hc with z | z
  ·rw [z]; exact nit b u e
  ·exact nit c _ z
theorem Inv.tok (I:Inv X pins σ H s)(t:Nat):Inv X pins σ H { s with toks:=t }:=I.un (h':=s.heap) (t':=t) Un.refl I.hok
theorem Inv.kept {t':Nat}(I:Inv X pins σ H s)(k:∀ b u,s.heap.get? b=some u->h'.get? b=some u):Inv X pins σ H { s with heap:=h',toks:=t' }:=I.un (Un.kept k) (I.hok.kept k)
theorem Inv.laid {a:Addr}{o:HO}{t':Nat}(I:Inv X pins σ H s)(k:∀ b u,s.heap.get? b=some u->h'.get? b=some u)(hp:s.heap.objs.size<=a)(new:jay X.prog X.w (upd H a o) h' a o) :
  Inv X pins σ (upd H a o) { s with heap:=h',toks:=t' }:=I.un (Un.laid k hp (I.hok.fresh hp)) (I.hok.laid k hp new)
theorem Inv.write {x e:Addr}{o:HO}{t':Nat}(I:Inv X pins σ H s)(mu:Mut (H x))(he:e=x\/H e=some (.own x))(k:∀ b u,b≠e->s.heap.get? b=some u->h'.get? b=some u)(heo:∃ u,h'.get? e=some u)
  (new:jay X.prog X.w (upd H x o) h' x o):Inv X pins σ (upd H x o) { s with heap:=h',toks:=t' }:=I.un (Un.write mu he k heo) (I.hok.write mu he k heo new)
theorem Inv.pins_of {pins':List (Addr×Obj)}(I:Inv X pins σ H s)(h:∀ p∈pins',s.heap.get? p.1=some p.2/\H p.1=none/\p.1≠X.env.locals/\p.1∉X.fs/\∀ v,p.2.data≠.cell v):Inv X pins' σ H s:=
 ⟨I.ok,I.os,I.bare,I.base,I.loc,I.cell,I.free,I.freeC,fun p hp=>(List.mem_append.mp hp).elim (fun z=>I.pin p (List.mem_append_left _ z)) (h p),I.hok,I.len⟩

theorem jcL {N:List Str}(hN:N.Nodup){i j:Nat}{x:Str}(a:N[i]?=some x)(b:N[j]?=some x):i=j:=by
 obtain ⟨h1,e1⟩:=List.getElem?_eq_some_iff.mp a
 obtain ⟨h2,e2⟩:=List.getElem?_eq_some_iff.mp b
 exact (List.getElem_inj hN).mp (e1.trans e2.symm)

theorem jcY {M : Model}{A : Around}{E : Value -> Shared -> Prop}{i : Nat}{x : Str}{v : V}{u : Value}{Q : Unit -> Shared -> Prop}(I : Inv X pins σ H s)(hN : X.N.Nodup)(hi : X.N[i]? = some x)(hx : Loc X.env.scope x)(r : RelV v u)
    (h : ∀ s', Inv X pins (σ.set i (some v)) H s' -> (∃ a, Heap.SameBut a s.heap s'.heap /\ (a = X.env.locals \/ X.env.cells.lookup x = some a)) -> Q () s') (hf : X.fn x = true \/ X.env.scope.names.lookup x = some .local := by first | exact .inl rfl | exact .inr rfl | assumption) : wpAny M A (storeName X.env x u) Q E s := by
  obtain ⟨m, hn, hl⟩ := id I.loc
  have hcls : (X.env.scope.kind == .class || (X.env.scope.kind == .module && X.env.locals != X.env.globals)) = false := by rw [I.ok.kind]; rfl
  have hiσ : i < σ.length := by rw [I.len]; exact (List.getElem?_eq_some_iff.mp hi).1
  have cne := I.cne
  have tracked : ∀ {a : Addr} {h' : Heap}, (∃ o, s.heap.get? a = some o /\ H a = none) -> Heap.SameBut a s.heap h' -> HOk X.prog X.w H h' := fun {a h'} ha hs b ob e => by
    obtain ⟨_, _, hfree⟩ := ha
    refine (I.hok b ob e).stay (fun c w' hc q => (hs.2 c ?_).trans q) (fun _ q => q) fun _ _ q => q
    rintro rfl
    rcases hc with rfl | hc
    · rw [hfree] at e; cases e
    · rw [hfree] at hc; cases hc
  rcases hx with hk | hk
  · refine wpAny_storeName_local hk hn (fun h' hn' hs => ?_) hcls
    obtain ⟨oL, _, _, hoL, _⟩ := id hn
    refine h _ ⟨I.ok, I.os, I.bare, ⟨fun b o e n hb hx => ?_, fun b o e n hb hx => ?_, I.base.free, fun b o e hx => ?_, I.base.tups, I.base.frzs, I.base.tbls⟩, ⟨_, hn', fun j y v' e1 e2 e3 => ?_⟩, fun y c e => ?_, I.free, I.freeC, fun p hp => ?_, tracked ⟨oL, hoL, I.free⟩ hs, by simpa using I.len⟩ ⟨_, hs, .inl rfl⟩
    · exact (hs.2 b (Nat.ne_of_lt (Nat.lt_of_lt_of_le (Heap.lt_size e) I.ok.above))).trans (I.base.keep b o e n hb hx)
    · obtain ⟨sl, e1⟩ := I.base.slot b o e n hb hx
      exact ⟨sl, (hs.2 b (Nat.ne_of_lt (Nat.lt_of_lt_of_le (Heap.lt_size e) I.ok.above))).trans e1⟩
    · obtain ⟨o', e1⟩ := I.base.there b o e hx
      exact ⟨o', (hs.2 b (Nat.ne_of_lt (Nat.lt_of_lt_of_le (Heap.lt_size e) I.ok.above))).trans e1⟩
    · by_cases hj : j = i
      · subst hj
        rw [hi] at e1; cases e1
        rw [List.getElem?_set_self hiσ] at e2
        cases e2
        exact ⟨u, r, .inl ⟨hk, by simp⟩⟩
      · rw [List.getElem?_set_ne (Ne.symm hj)] at e2
        obtain ⟨u', r', q⟩ := hl j y v' e1 e2 e3
        refine ⟨u', r', ?_⟩
        rcases q with ⟨k, e⟩ | ⟨k, c, e, z⟩
        · refine .inl ⟨k, ?_⟩
          have : y ≠ x := fun e => hj (jcL hN e1 (e ▸ hi))
          simp [this, e]
        · exact .inr ⟨k, c, e, z.sameBut hs (cne y c e)⟩
    · obtain ⟨w', z⟩ := I.cell y c e
      exact ⟨w', z.sameBut hs (cne y c e)⟩
    · obtain ⟨e, n, ne, nf, d⟩ := I.pin p hp
      exact ⟨(hs.2 p.1 ne).trans e, n, ne, nf, d⟩
  · have hfn : X.fn x = true := by
      rcases hf with z | z
      · exact z
      · rw [z] at hk; cases hk
    obtain ⟨c, hc⟩ := I.ok.has x (.inl hk)
    obtain ⟨w', z⟩ := I.cell x c hc
    refine wpAny_storeName_cell I.ok.kind hk hc z (fun h' hc' hs => ?_)
    obtain ⟨oc, hoc, hocd⟩ := id z
    refine h { s with heap := h' } ⟨I.ok, I.os, I.bare, ⟨fun b o e n hb hx => ?_, fun b o e n hb hx => ?_, I.base.free, fun b o e hx => ?_, I.base.tups, I.base.frzs, I.base.tbls⟩, ⟨m, hn.sameBut hs (Ne.symm (cne x c hc)), fun j y v' e1 e2 e3 => ?_⟩, fun y c' e => ?_, I.free, I.freeC, fun p hp => ?_, tracked ⟨oc, hoc, I.freeC x c hc⟩ hs, by simpa using I.len⟩ ⟨c, hs, .inr hc⟩
    · exact (hs.2 b (Nat.ne_of_lt (Nat.lt_of_lt_of_le (Heap.lt_size e) (I.ok.cab x c hfn hc)))).trans (I.base.keep b o e n hb hx)
    · obtain ⟨sl, e1⟩ := I.base.slot b o e n hb hx
      exact ⟨sl, (hs.2 b (Nat.ne_of_lt (Nat.lt_of_lt_of_le (Heap.lt_size e) (I.ok.cab x c hfn hc)))).trans e1⟩
    · obtain ⟨o', e1⟩ := I.base.there b o e hx
      exact ⟨o', (hs.2 b (Nat.ne_of_lt (Nat.lt_of_lt_of_le (Heap.lt_size e) (I.ok.cab x c hfn hc)))).trans e1⟩
    · by_cases hj : j = i
      · subst hj
        rw [hi] at e1; cases e1
        rw [List.getElem?_set_self hiσ] at e2
        cases e2
        exact ⟨u, r, .inr ⟨.inl hk, c, hc, hc'⟩⟩
      · rw [List.getElem?_set_ne (Ne.symm hj)] at e2
        obtain ⟨u', r', q⟩ := hl j y v' e1 e2 e3
        refine ⟨u', r', ?_⟩
        rcases q with q | ⟨k, c', e, z'⟩
        · exact .inl q
        · refine .inr ⟨k, c', e, z'.sameBut hs ?_⟩
          rintro rfl
          exact hj (jcL hN e1 (I.ok.inj _ _ _ e hc ▸ hi))
    · by_cases hcc : c' = c
      · subst hcc; exact ⟨_, hc'⟩
      · obtain ⟨w2, z2⟩ := I.cell y c' e
        exact ⟨w2, z2.sameBut hs hcc⟩
    · obtain ⟨e, n, ne, nf, d⟩ := I.pin p hp
      refine ⟨(hs.2 p.1 ?_).trans e, n, ne, nf, d⟩
      intro q
      rw [q, hoc] at e
      have q' : oc = p.2 := Option.some.inj e
      exact d w' (by rw [<- q']; exact hocd)
theorem jbf {M:Model}{A:Around}{E:Value->Shared->Prop}{i:Nat}{x:Str}{v:V}{u:Value}{Q:Unit->Shared->Prop}(I:Inv X pins σ H s)(hN:X.N.Nodup)(hi:X.N[i]?=some x)(hx:Loc X.env.scope x)(r:RelV v u)
  (h:∀ s',Inv X pins (σ.set i (some v)) H s'->Q () s') (hf:X.fn x=true\/X.env.scope.names.lookup x=some .local:=by first | exact .inl rfl | exact .inr rfl | assumption):wpAny M A (storeName X.env x u) Q E s:=
 jcY I hN hi hx r (fun s' I' _=>h s' I') hf
theorem Inv.call' {s':Shared}{ch:List Addr}(I:Inv X pins σ H s)(ho:s'.os=s.os)(u:Un (frs X.stack) ch H H' s.heap s'.heap)(hok:HOk X.prog X.w H' s'.heap)(hg:AllBare s'.gens)
  (hch:∀ b∈ch,(b∈X.ex\/X.s₀.heap.objs.size<=b)/\b≠X.env.locals/\(∀ x c,X.env.cells.lookup x=some c->c≠b)/\∀ p∈X.pn++pins,p.1≠b):Inv X pins σ H' s':=by
 obtain ⟨h',g',d',t',o'⟩:=s'
 have e:o'=s.os:=ho
 subst e
 exact I.call (g':=g') (t':=t') (d':=d') u hok hg hch
end

noncomputable abbrev XK:=Value->Option Addr->Hp->Prop
noncomputable abbrev St:=List (Option V)
noncomputable abbrev VK:=V->Hp->Prop
noncomputable abbrev TE:=St->Hp->VK->Prop
noncomputable abbrev TT:=St->Hp->(Bool->Hp->Prop)->Prop
noncomputable abbrev TA:=St->Hp->(List V->Hp->Prop)->Prop
structure Ends where
 nx:St->Hp->Prop
 rt:VK
 bk:St->Hp->Prop:=fun _ _=>False
 ct:St->Hp->Prop:=fun _ _=>False
noncomputable abbrev TS:=Ends->St->Hp->Prop

noncomputable def EP (X:Cx)(pins:List (Addr×Obj))(σ:St)(Q:VK)(u:Value)(s':Shared):Prop:=∃ v H',Inv X pins σ H' s'/\RelV v u/\Q v H'
noncomputable def TP (X:Cx)(pins:List (Addr×Obj))(σ:St)(Q:Bool->Hp->Prop)(b:Bool)(s':Shared):Prop:=∃ H',Inv X pins σ H' s'/\Q b H'
noncomputable def AP (X:Cx)(pins:List (Addr×Obj))(σ:St)(Q:List V->Hp->Prop)(us:List Value)(s':Shared):Prop:=∃ vs H',Inv X pins σ H' s'/\Vals vs us/\Q vs H'
noncomputable def SP (X:Cx)(pins:List (Addr×Obj))(D:Ends)(f:Flow)(s':Shared):Prop:=
 match f with
 | .next=>∃ σ' H',Inv X pins σ' H' s'/\D.nx σ' H'
 | .brk=>∃ σ' H',Inv X pins σ' H' s'/\D.bk σ' H'
 | .cont=>∃ σ' H',Inv X pins σ' H' s'/\D.ct σ' H'
 | .ret u=>∃ v σ' H',Inv X pins σ' H' s'/\RelV v u/\D.rt v H'

noncomputable def PE (X:Cx)(e:Expr)(t:TE):Prop:=
 ∀ (pins:List (Addr×Obj)) (s:Shared) (σ:St) (H:Hp) (Q:VK),Inv X pins σ H s->t σ H Q->wpAny (model X.prog X.w) X.A (eval e X.env) (EP X pins σ Q) X.xe s
noncomputable def PT (X:Cx)(e:Expr)(t:TT):Prop:=
 ∀ (pins:List (Addr×Obj)) (s:Shared) (σ:St) (H:Hp) (Q:Bool->Hp->Prop),Inv X pins σ H s->t σ H Q->wpAny (model X.prog X.w) X.A (isTrue e X.env (eval e X.env)) (TP X pins σ Q) X.xe s
noncomputable def PW (X:Cx)(e:Expr)(t:TT):Prop:=
 ∀ (whole:Sem Value) (pins:List (Addr×Obj)) (s:Shared) (σ:St) (H:Hp) (Q:Bool->Hp->Prop),Inv X pins σ H s->t σ H Q->wpAny (model X.prog X.w) X.A (isTrue e X.env whole) (TP X pins σ Q) X.xe s
theorem PW.pt {X:Cx}{e:Expr}{t:TT}(h:PW X e t):PT X e t:=h _
noncomputable def PA (X:Cx)(es:List Expr)(t:TA):Prop:=
 ∀ (pos:Pos) (pins:List (Addr×Obj)) (s:Shared) (σ:St) (H:Hp) (Q:List V->Hp->Prop),Inv X pins σ H s->t σ H Q->wpAny (model X.prog X.w) X.A (spliced (backTo pos (starEach es X.env))) (AP X pins σ Q) X.xe s
noncomputable def PS (X:Cx)(st:Stmt)(t:TS):Prop:=
 ∀ (pins:List (Addr×Obj)) (s:Shared) (σ:St) (H:Hp) (D:Ends),Inv X pins σ H s->t D σ H->wpAny (model X.prog X.w) X.A (exec st X.env) (SP X pins D) X.xe s
noncomputable def PSs (X:Cx)(st:List Stmt)(t:TS):Prop:=
 ∀ (pins:List (Addr×Obj)) (s:Shared) (σ:St) (H:Hp) (D:Ends),Inv X pins σ H s->t D σ H->wpAny (model X.prog X.w) X.A (execs st X.env) (SP X pins D) X.xe s
theorem thn {α:Type}{t:Sem α}{Q Q':α->Shared->Prop}{M:Model}{A:Around}{E:Value->Shared->Prop}{s:Shared}(h:wpAny M A t Q E s)(hQ:∀ a s,Q a s->Q' a s):wpAny M A t Q' E s:=wpAny_mono h hQ fun _ _ x=>x
section
variable {X:Cx}

noncomputable def tVar (i:Nat):TE:=fun σ H Q=>∃ v,σ[i]?=some (some v)/\Q v H
noncomputable def tC (v:V):TE:=fun _ H Q=>Q v H
theorem jbi {i:Nat}{x:Str}{pos:Pos}(hN:X.N[i]?=some x)(hv:Vis X.env.scope x)(hd:(x == ("__debug__" : Str))=false:=by decide)(hcd:(x == ("__classdict__" : Str))=false:=by decide):PE X (.Name x pos) (tVar i):=by
 intro pins s σ H Q I h
 obtain ⟨v,e,h⟩:=h
 obtain ⟨m,hn,hl⟩:=I.loc
 obtain ⟨u,r,l⟩:=hl i x v hN e hv
 have fin:EP X pins σ Q u s:=⟨v,H,I,r,h⟩
 rcases l with ⟨hk,hm⟩ | ⟨hk,c,hc,hcell⟩
 ·exact wpAny_Name (wpAny_loadName_local I.ok.kind hk hn hm fin) hd
 ·rcases hk with hk | hk
  ·exact wpAny_Name (wpAny_loadName_cell I.ok.kind hk hc hcell fin) hd
  ·exact wpAny_Name (wpAny_loadName_free I.ok.kind hk hc hcell fin hcd) hd
theorem ji7 {i j pos}:PE X (.Constant (.int i) j pos) (tC (.int i)):=fun _ _ _ H _ I h=>wpAny_Constant_int ⟨.int i,H,I.tok _,⟨_,rfl⟩,h⟩
theorem ji8 {b j pos}:PE X (.Constant (.bool b) j pos) (tC (.bl b)):=fun _ _ _ H _ I h=>Constant_bool ⟨.bl b,H,I,rfl,h⟩
theorem ji5 {j pos}:PE X (.Constant .none j pos) (tC .non):=fun _ _ _ H _ I h=>Constant_none ⟨.non,H,I,rfl,h⟩
theorem jgF {x j pos}:PE X (.Constant (.str x) j pos) (tC (.str x)):=fun _ _ _ H _ I h=>Calls.Constant_str ⟨.str x,H,I.tok _,⟨_,rfl⟩,h⟩

noncomputable def Gl (X:Cx)(x:Str):Prop:=X.env.kindOf x=some .globalImplicit
theorem jbZ {E:Value->Shared->Prop}{pins:List (Addr×Obj)}{s:Shared}{σ:St}{H:Hp}{x:Str}{u:Value}{pos:Pos}{Q:Value->Shared->Prop}(I:Inv X pins σ H s)(hg:Gl X x)(hm:X.mg x=some u)(h:Q u s)
  (hd:(x == ("__debug__" : Str))=false:=by decide):wpAny (model X.prog X.w) X.A (eval (.Name x pos) X.env) Q E s:=
 Calls.Name_function_global I.ok.kind hg (Calls.loadGlobal_global (by rw [I.ok.glob]; exact I.mod.glob.keeps I.bk) hm h) hd
theorem jei {E:Value->Shared->Prop}{pins:List (Addr×Obj)}{s:Shared}{σ:St}{H:Hp}{x:Str}{u:Value}{pos:Pos}{Q:Value->Shared->Prop}(I:Inv X pins σ H s)(hg:Gl X x)(hm:X.mg x=none)(hv:bootBuiltins x=some u)(h:Q u s)
  (hn:x ≠ "__name__" := by decide) (hd:(x == ("__debug__" : Str))=false:=by decide):wpAny (model X.prog X.w) X.A (eval (.Name x pos) X.env) Q E s:=by
 obtain ⟨mb,h1,h2⟩:=I.mod.blt
 exact Calls.Name_function_global I.ok.kind hg (Calls.loadGlobal_builtin (by rw [I.ok.glob]; exact I.mod.glob.keeps I.bk) hm (by rw [I.ok.blt]; exact h1.keeps I.bk) ((h2 x hn).trans hv) h) hd
theorem jhA {x:Str}{v:V}{u:Value}{pos:Pos}(hg:Gl X x)(hm:X.mg x=some u)(r:RelV v u)(hd:(x == ("__debug__" : Str))=false:=by decide):PE X (.Name x pos) (tC v):=
 fun _ _ _ H _ I h=>jbZ I hg hm ⟨v,H,I,r,h⟩ hd
theorem jhD {x:Str}{v:V}{u:Value}{pos:Pos}(hg:Gl X x)(hm:X.mg x=none)(hv:bootBuiltins x=some u)(r:RelV v u)(hn:x ≠ "__name__" := by decide)(hd:(x == ("__debug__" : Str))=false:=by decide):PE X (.Name x pos) (tC v):=
 fun _ _ _ H _ I h=>jei I hg hm hv ⟨v,H,I,r,h⟩ hn hd

variable {a b:Expr}{ta tb:TE}{pos:Pos}
noncomputable def tB (t:TE):TT:=fun σ H Q=>t σ H fun x H1=>∃ c,x=.bl c/\Q c H1
theorem jiR {e:Expr}{t:TE}(h:PE X e t)(he:∀ whole,isTrue e X.env whole=(do let v <- whole; standAt e.pos; holding [v] (truthy v)):=by intro _; rfl):PT X e (tB t):=by
 intro pins s σ H Q I hw
 refine isTrue_plain (thn (h pins s σ H _ I hw) fun v s1 ⟨x,H1,I1,r1,q1⟩=>?_) (he _)
 obtain ⟨d,rfl,q⟩:=q1
 cases r1
 exact wpAny_truthy_bool ⟨H1,I1,q⟩

variable {tA tB':TT}{rest:List Expr}
noncomputable def tAnd (t u:TT):TT:=fun σ H Q=>t σ H fun c H1=>if c=true then u σ H1 Q else Q false H1
noncomputable def tOr (t u:TT):TT:=fun σ H Q=>t σ H fun c H1=>if c=true then Q true H1 else u σ H1 Q
noncomputable def tNot (t:TT):TT:=fun σ H Q=>t σ H fun c H1=>Q (!c) H1
theorem pw_and1 (ha:PT X a tA):PW X (.BoolOp .And [a] pos) tA:=by
 intro wh pins s σ H Q I h
 refine isTrue_and (thn (ha pins s σ H Q I h) fun c s1 e=>?_)
 cases c with
 | true=>exact isTrue_and_nil e
 | false=>exact e
theorem pw_or1 (ha:PT X a tA):PW X (.BoolOp .Or [a] pos) tA:=by
 intro wh pins s σ H Q I h
 refine isTrue_or (thn (ha pins s σ H Q I h) fun c s1 e=>?_)
 cases c with
 | false=>exact isTrue_or_nil e
 | true=>exact e
theorem pw_and (ha:PT X a tA)(hb:PW X (.BoolOp .And (b::rest) pos) tB'):PW X (.BoolOp .And (a::b::rest) pos) (tAnd tA tB'):=by
 intro wh pins s σ H Q I h
 refine isTrue_and (thn (ha pins s σ H _ I h) fun c s1 ⟨H1,I1,q1⟩=>?_)
 cases c with
 | true=>exact hb wh pins s1 σ H1 Q I1 q1
 | false=>exact ⟨H1,I1,q1⟩
theorem pw_or (ha:PT X a tA)(hb:PW X (.BoolOp .Or (b::rest) pos) tB'):PW X (.BoolOp .Or (a::b::rest) pos) (tOr tA tB'):=by
 intro wh pins s σ H Q I h
 refine isTrue_or (thn (ha pins s σ H _ I h) fun c s1 ⟨H1,I1,q1⟩=>?_)
 cases c with
 | true=>exact ⟨H1,I1,q1⟩
 | false=>exact hb wh pins s1 σ H1 Q I1 q1
theorem jiS (ha:PT X a tA):PT X (.UnaryOp .Not a pos) (tNot tA):=by
 intro pins s σ H Q I h
 exact isTrue_not (ha pins s σ H (fun c H1=>Q (!c) H1) I h)
noncomputable def jkS (ta tb:TE):TE:=fun σ H Q=>ta σ H fun x H1=>∃ c,x=.bl c/\if c=true then tb σ H1 Q else Q (.bl false) H1
noncomputable def tOrV (ta tb:TE):TE:=fun σ H Q=>ta σ H fun x H1=>∃ c,x=.bl c/\if c=true then Q (.bl true) H1 else tb σ H1 Q
noncomputable def jkM (ta:TE):TE:=fun σ H Q=>ta σ H fun x H1=>∃ c,x=.bl c/\Q (.bl (!c)) H1
theorem jeg {op}{t:TE}(h:PE X a t):PE X (.BoolOp op [a] pos) t:=fun pins s σ H Q I hw=>BoolOp_one (h pins s σ H Q I hw)
theorem ji9 (ha:PE X a ta)(hb:PE X (.BoolOp .And (b::rest) pos) tb):PE X (.BoolOp .And (a::b::rest) pos) (jkS ta tb):=by
 intro pins s σ H Q I h
 refine BoolOp_and (thn (ha pins s σ H _ I h) fun v s1 ⟨x,H1,I1,r1,q1⟩=>?_)
 obtain ⟨c,rfl,q1⟩:=q1
 cases r1
 refine wpAny_truthy_bool ?_
 cases c with
 | true=>exact hb pins s1 σ H1 Q I1 q1
 | false=>exact ⟨.bl false,H1,I1,rfl,q1⟩
theorem jk3 (ha:PE X a ta)(hb:PE X (.BoolOp .Or (b::rest) pos) tb):PE X (.BoolOp .Or (a::b::rest) pos) (tOrV ta tb):=by
 intro pins s σ H Q I h
 refine BoolOp_or (thn (ha pins s σ H _ I h) fun v s1 ⟨x,H1,I1,r1,q1⟩=>?_)
 obtain ⟨c,rfl,q1⟩:=q1
 cases r1
 refine wpAny_truthy_bool ?_
 cases c with
 | false=>exact hb pins s1 σ H1 Q I1 q1
 | true=>exact ⟨.bl true,H1,I1,rfl,q1⟩
theorem ji4 (ha:PE X a ta):PE X (.UnaryOp .Not a pos) (jkM ta):=by
 intro pins s σ H Q I h
 refine UnaryOp_ (thn (ha pins s σ H _ I h) fun v s1 ⟨x,H1,I1,r1,q1⟩=>?_)
 obtain ⟨c,rfl,q1⟩:=q1
 cases r1
 exact not_of (wpAny_truthy_bool ⟨.bl (!c),H1,I1,rfl,q1⟩)
noncomputable def tIf (t:TT)(ta tb:TE):TE:=fun σ H Q=>t σ H fun c H1=>if c=true then ta σ H1 Q else tb σ H1 Q
theorem jga {c:Expr}(hc:PT X c tA)(ha:PE X a ta)(hb:PE X b tb):PE X (.IfExp c a b pos) (tIf tA ta tb):=by
 intro pins s σ H Q I h
 refine wpAny_IfExp (thn (hc pins s σ H _ I h) fun d s1 ⟨H1,I1,q1⟩=>?_)
 cases d with
 | true=>exact ha pins s1 σ H1 Q I1 q1
 | false=>exact hb pins s1 σ H1 Q I1 q1
end

noncomputable def SqL (K:PySem.W.Frag)(H:Hp)(a:Addr)(xs:List V):Prop:=
 Rd H a (.lst xs)\/
  ∃ (o:Obj) (its:Array Value) (n:Nat),K.lookup a=some o/\o.cls=.type "list" /\ o.dict=none/\o.data=.seq its n/\its.size<=sizeLine/\Vals xs its.toList
noncomputable def SqT (K:PySem.W.Frag)(H:Hp)(a:Addr)(xs:List V):Prop:=
 Rd H a (.tup xs)\/
  ∃ (o:Obj) (its:Array Value) (n:Nat),K.lookup a=some o/\o.cls=.type "tuple" /\ o.data=.seq its n/\its.size<=sizeLine/\Vals xs its.toList
noncomputable def absV:Value->Option V
 | .none=>some .non
 | .bool b=>some (.bl b)
 | .int i _=>some (.int i)
 | .str x _=>some (.str x)
 | .bytes b _=>some (.byt b)
 | .float b _=>some (.flt b)
 | .ref a=>some (.ref a)
 | .type n=>some (.ty n)
 | _=>none
theorem RelV.abs {x:V}{u:Value}(r:RelV x u):absV u=some x:=by
 cases x with
 | non=>cases r; rfl
 | bl _=>cases r; rfl
 | int _=>obtain ⟨t,rfl⟩:=r; rfl
 | str _=>obtain ⟨t,rfl⟩:=r; rfl
 | byt _=>obtain ⟨t,rfl⟩:=r; rfl
 | flt _=>obtain ⟨t,rfl⟩:=r; rfl
 | ref _=>cases r; rfl
 | ty _=>cases r; rfl
theorem RelV.inj {x y:V}{u:Value}(r:RelV x u)(q:RelV y u):x=y:=Option.some.inj (r.abs.symm.trans q.abs)
theorem Vals.inj:∀ {xs ys:List V} {us:List Value},Vals xs us->Vals ys us->xs=ys
 | _,_,_,.nil,.nil=>rfl
 | _,_,_,.cons r t,.cons r' t'=>by rw [r.inj r',Vals.inj t t']
section
variable {X:Cx}{pins:List (Addr×Obj)}{σ:St}{H:Hp}{s:Shared}{a:Addr}{xs ys:List V}
theorem SqL.of {K:PySem.W.Frag}(h:H a=some (.lst xs)):SqL K H a xs:=.inl (.inl h)
theorem SqT.of {K:PySem.W.Frag}(h:H a=some (.tup xs)):SqT K H a xs:=.inl (.inl h)
theorem Inv.list (I:Inv X pins σ H s)(h:SqL X.K H a xs):∃ its:List Value,Vals xs its/\PlainL s.heap a its.toArray/\xs.length<=sizeLine:=by
 rcases h with h | ⟨o,its,n,hk,hc,hd,hs,hz,r⟩
 ·obtain ⟨z,its,n,r,e⟩:=h.ok I.hok
  exact ⟨its,r,⟨_,n,e,rfl,rfl,rfl⟩,z⟩
 ·refine ⟨its.toList,r,⟨o,n,I.kIn a o hk,hc,hd,by simpa using hs⟩,?_⟩
  have e:=r.length
  simp only [Array.length_toList] at e
  omega
theorem Inv.tuple (I:Inv X pins σ H s)(h:SqT X.K H a xs):∃ its:List Value,Vals xs its/\IsTup s.heap a its.toArray/\xs.length<=sizeLine:=by
 rcases h with h | ⟨o,its,n,hk,hc,hs,hz,r⟩
 ·obtain ⟨z,its,r,p⟩:=h.ok I.hok
  exact ⟨its,r,p.tup,z⟩
 ·refine ⟨its.toList,r,⟨o,I.kIn a o hk,hc,n,by simpa using hs⟩,?_⟩
  have e:=r.length
  simp only [Array.length_toList] at e
  omega
theorem Inv.list_inj (I:Inv X pins σ H s)(h:SqL X.K H a xs)(h':SqL X.K H a ys):xs=ys:=by
 obtain ⟨its,r,⟨o,n,e,_,_,d⟩,_⟩:=I.list h
 obtain ⟨its',r',⟨o',n',e',_,_,d'⟩,_⟩:=I.list h'
 rw [e] at e'; cases e'
 rw [d] at d'
 injection d' with d1 _
 have:its=its':=by simpa using congrArg Array.toList d1
 subst this
 exact r.inj r'
theorem Inv.tuple_inj (I:Inv X pins σ H s)(h:SqT X.K H a xs)(h':SqT X.K H a ys):xs=ys:=by
 obtain ⟨its,r,⟨o,e,_,n,d⟩,_⟩:=I.tuple h
 obtain ⟨its',r',⟨o',e',_,n',d'⟩,_⟩:=I.tuple h'
 rw [e] at e'; cases e'
 rw [d] at d'
 injection d' with d1 _
 have:its=its':=by simpa using congrArg Array.toList d1
 subst this
 exact r.inj r'
end

noncomputable abbrev Cx.wish (X:Cx)(E:Value->Shared->Prop):Cx:={ X with xe:=E }
noncomputable abbrev Cx.nox (X:Cx):Cx:=X.wish fun _ _=>False
theorem Cx.Ok.wish {X:Cx}(ok:X.Ok)(E:Value->Shared->Prop):(X.wish E).Ok:=
 ⟨ok.mod,ok.kind,ok.glob,ok.blt,ok.above,ok.inj,ok.has,ok.cab,ok.hd,ok.frames,ok.stk,ok.exf,ok.bs,ok.bsz,ok.noex,ok.exfs,ok.funs,ok.frf⟩
theorem Cx.Ok.unwish {X:Cx}{E:Value->Shared->Prop}(ok:(X.wish E).Ok):X.Ok:=
 ⟨ok.mod,ok.kind,ok.glob,ok.blt,ok.above,ok.inj,ok.has,ok.cab,ok.hd,ok.frames,ok.stk,ok.exf,ok.bs,ok.bsz,ok.noex,ok.exfs,ok.funs,ok.frf⟩
section
variable {X:Cx}{pins:List (Addr×Obj)}{σ:St}{H:Hp}{s:Shared}{E:Value->Shared->Prop}
theorem Inv.wish (I:Inv X pins σ H s)(E:Value->Shared->Prop):Inv (X.wish E) pins σ H s:=⟨I.ok.wish E,I.os,I.bare,I.base,I.loc,I.cell,I.free,I.freeC,I.pin,I.hok,I.len⟩
theorem Inv.unwish (I:Inv (X.wish E) pins σ H s):Inv X pins σ H s:=⟨I.ok.unwish,I.os,I.bare,I.base,I.loc,I.cell,I.free,I.freeC,I.pin,I.hok,I.len⟩
theorem SP.unwish {D:Ends}{f:Flow}{s':Shared}(h:SP (X.wish E) pins D f s'):SP X pins D f s':=by
 cases f with
 | next=>obtain ⟨σ',H',I,q⟩:=h; exact ⟨σ',H',I.unwish,q⟩
 | brk=>obtain ⟨σ',H',I,q⟩:=h; exact ⟨σ',H',I.unwish,q⟩
 | cont=>obtain ⟨σ',H',I,q⟩:=h; exact ⟨σ',H',I.unwish,q⟩
 | ret u=>obtain ⟨v,σ',H',I,r,q⟩:=h; exact ⟨v,σ',H',I.unwish,r,q⟩
end

section
variable {X:Cx}{st:Stmt}{rest:List Stmt}{t u:TS}{e:Expr}{te:TE}{pos:Pos}
noncomputable def jkO:TS:=fun D σ H=>D.nx σ H
noncomputable def tSeq (t u:TS):TS:=fun D σ H=>t { D with nx:=u D } σ H
theorem jdE:PSs X [] jkO:=fun _ _ σ H _ I h=>wpAny_execs_nil ⟨σ,H,I,h⟩
theorem jcG (h1:PS X st t)(h2:PSs X rest u):PSs X (st::rest) (tSeq t u):=by
 intro pins s σ H D I h
 refine wpAny_execs_cons (thn (h1 pins s σ H { D with nx:=u D } I h) fun f s1 q=>?_)
 cases f with
 | next=>
  obtain ⟨σ',H',I',q⟩:=q
  exact h2 pins s1 σ' H' D I' q
 | ret v=>exact q
 | brk=>exact q
 | cont=>exact q
theorem jho (h1:PS X st t):PSs X [st] t:=by
 intro pins s σ H D I h
 refine wpAny_execs_cons (thn (h1 pins s σ H D I h) fun f s1 q=>?_)
 cases f with
 | next=>exact wpAny_execs_nil q
 | ret v=>exact q
 | brk=>exact q
 | cont=>exact q
theorem Inv.quiet {pins:List (Addr×Obj)}{σ:St}{H:Hp}{s:Shared}(I:Inv X pins σ H s):interactive X.env=false:=by simp [interactive,I.ok.kind]
noncomputable def jkP (te:TE):TS:=fun D σ H=>te σ H fun _ H1=>D.nx σ H1
theorem jhp (he:PE X e te)(hs:swapsWith e none pos.line X.env=pure false:=by rfl):PS X (.Expr e pos) (jkP te):=by
 intro pins s σ H D I h
 exact wpAny_Expr_any (thn (he pins s σ H _ I h) fun v s1 ⟨x,H1,I1,r1,q1⟩=>⟨σ,H1,I1,q1⟩) I.quiet hs
noncomputable def tRet (te:TE):TS:=fun D σ H=>te σ H D.rt
theorem jiT (he:PE X e te):PS X (.Return (some e) pos) (tRet te):=by
 intro pins s σ H D I h
 exact wpAny_Return_some (thn (he pins s σ H _ I h) fun v s1 ⟨x,H1,I1,r1,q1⟩=>⟨x,σ,H1,I1,r1,q1⟩)
noncomputable def tIfS (c:TT)(t u:TS):TS:=fun D σ H=>c σ H fun b H1=>if b=true then t D σ H1 else u D σ H1
theorem jiW {c:Expr}{a b:List Stmt}{tc:TT}(hc:PT X c tc)(ha:PSs X a t)(hb:PSs X b u):PS X (.If c a b pos) (tIfS tc t u):=by
 intro pins s σ H D I h
 refine wpAny_If (thn (hc pins s σ H _ I h) fun d s1 ⟨H1,I1,q1⟩=>?_)
 cases d with
 | true=>exact ha pins s1 σ H1 D I1 q1
 | false=>exact hb pins s1 σ H1 D I1 q1
end

noncomputable abbrev TG:=V->St->Hp->(St->Hp->Prop)->Prop
noncomputable abbrev TGs:=List V->St->Hp->(St->Hp->Prop)->Prop
noncomputable def PG (X:Cx)(target:Expr)(t:TG):Prop:=
 ∀ (pins:List (Addr×Obj)) (s:Shared) (σ:St) (H:Hp) (v:V) (u:Value) (Q:St->Hp->Prop),Inv X pins σ H s->RelV v u->t v σ H Q->
  wpAny (model X.prog X.w) X.A (assign target X.env u) (fun _ s'=>∃ σ' H',Inv X pins σ' H' s'/\Q σ' H') X.xe s
noncomputable def PGs (X:Cx)(ts:List Expr)(t:TGs):Prop:=
 ∀ (pins:List (Addr×Obj)) (s:Shared) (σ:St) (H:Hp) (vs:List V) (us:List Value) (Q:St->Hp->Prop),Inv X pins σ H s->Vals vs us->t vs σ H Q->
  wpAny (model X.prog X.w) X.A (assignInOrder ((assignEach ts X.env).map (·.2)) us) (fun _ s'=>∃ σ' H',Inv X pins σ' H' s'/\Q σ' H') X.xe s
noncomputable abbrev TSet:=V->V->V->Hp->(Hp->Prop)->Prop
noncomputable def PSet (X:Cx)(t:TSet):Prop:=
 ∀ (pins:List (Addr×Obj)) (s:Shared) (σ:St) (H:Hp) (o i v:V) (ov iv u:Value) (Q:Hp->Prop),Inv X pins σ H s->RelV o ov->RelV i iv->RelV v u->t o i v H Q->
  wpAny (model X.prog X.w) X.A (setItem ov iv u) (fun _ s'=>∃ H',Inv X pins σ H' s'/\Q H') X.xe s
noncomputable abbrev TIp:=V->V->Hp->VK->Prop
noncomputable def PIp (X:Cx)(op:Operator)(t:TIp):Prop:=
 ∀ (pins:List (Addr×Obj)) (s:Shared) (σ:St) (H:Hp) (x y:V) (v u:Value) (Q:VK),Inv X pins σ H s->RelV x v->RelV y u->t x y H Q->
  wpAny (model X.prog X.w) X.A (inplaceOp op v u) (EP X pins σ Q) X.xe s
section
variable {X:Cx}{pos:Pos}
noncomputable def jfv (i:Nat):TG:=fun v σ H Q=>Q (σ.set i (some v)) H
theorem jdH {i:Nat}{x:Str}(hN:X.N.Nodup)(hi:X.N[i]?=some x)(hx:Loc X.env.scope x)(hf:X.fn x=true\/X.env.scope.names.lookup x=some .local:=by first | exact .inl rfl | exact .inr rfl | assumption):PG X (.Name x pos) (jfv i):=by
 intro pins s σ H v u Q I r h
 exact wpAny_assign_Name (jbf I hN hi hx r (fun s' I'=>⟨_,H,I',h⟩) hf)
noncomputable def gNil:TGs:=fun vs σ H Q=>vs=[]/\Q σ H
noncomputable def jlm (t:TG)(u:TGs):TGs:=fun vs σ H Q=>∃ v r,vs=v::r/\t v σ H fun σ' H'=>u r σ' H' Q
theorem jhx:PGs X [] gNil:=by
 intro pins s σ H vs us Q I r h
 obtain ⟨e,h⟩:=h
 subst e
 cases r
 exact assignInOrder_nil ⟨σ,H,I,h⟩
theorem jf8 {e:Expr}{es:List Expr}{t:TG}{u:TGs}(h1:PG X e t)(h2:PGs X es u)
  (hs:(assignEach (e::es) X.env).map (·.2)=assign e X.env::(assignEach es X.env).map (·.2):=by rfl):PGs X (e::es) (jlm t u):=by
 intro pins s σ H vs us Q I r h
 obtain ⟨v,vr,e1,h⟩:=h
 subst e1
 cases r with
 | cons r rr=>
  rw [hs]
  refine assignInOrder_cons (thn (h1 pins s σ H _ _ _ I r h) fun _ s1 ⟨σ1,H1,I1,q1⟩=>?_)
  exact h2 pins s1 σ1 H1 _ _ Q I1 rr q1
noncomputable def gTup (K:PySem.W.Frag)(n:Nat)(t:TGs):TG:=fun v σ H Q=>∃ a xs,v=.ref a/\SqT K H a xs/\xs.length=n/\t xs σ H Q
theorem ji1 {es:List Expr}{k:Nat}{t:TGs}{n:Nat}(hc:X.calm=true)(h:PGs X es t)
  (hn:(assignEach es X.env).length=n:=by rfl) (hst:(assignEach es X.env).findIdx? (·.1)=none:=by rfl):PG X (.Tuple es k pos) (gTup X.K n t):=by
 intro pins s σ H v u Q I r hw
 obtain ⟨a,xs,e1,hq,hl,hw⟩:=hw
 subst e1
 cases r
 obtain ⟨its,rv,ht,hz⟩:=I.tuple hq
 refine assign_Tuple_tuple (I.ok.hd hc) ht (by simp [hn,<- hl,rv.length]) hst fun h' hx=>?_
 have I1:Inv X pins σ H { s with heap:=h' }:=I.kept (t':=s.toks) fun b o e=>hx b o (Nat.ne_of_lt (Heap.lt_size e)) e
 exact h pins _ σ H xs _ Q I1 (by simpa using rv) hw
noncomputable def gSub (to ti:TE)(t:TSet):TG:=fun v σ H Q=>to σ H fun o H1=>ti σ H1 fun i H2=>t o i v H2 fun H3=>Q σ H3
theorem ji2 {o i:Expr}{to ti:TE}{t:TSet}(ho:PE X o to)(hi:PE X i ti)(hs:PSet X t)
  (ha:∀ v,assign (.Subscript o i pos) X.env v=(do
   let ov <- holding [v] (eval o X.env)
   let iv <- holding [v,ov] (eval i X.env)
   standAt pos
   holding [v,ov,iv] (setItem ov iv v)
   release [v,ov,iv] []):=by intro _; rfl):PG X (.Subscript o i pos) (gSub to ti t):=by
 intro pins s σ H v u Q I r h
 rw [ha]
 refine wpAny_bind (wpAny_holding (thn (ho pins s σ H _ I h) fun ov s1 ⟨x,H1,I1,r1,q1⟩=>?_))
 refine wpAny_bind (wpAny_holding (thn (hi pins s1 σ H1 _ I1 q1) fun iv s2 ⟨y,H2,I2,r2,q2⟩=>?_))
 refine wpAny_bind (wpAny_standAt (wpAny_bind (wpAny_holding (thn (hs pins s2 σ H2 x y v ov iv u _ I2 r1 r2 r q2) fun _ s3 ⟨H3,I3,q3⟩=>?_))))
 exact wpAny_release ⟨σ,H3,I3,q3⟩
noncomputable def tAsg (te:TE)(g:TG):TS:=fun D σ H=>te σ H fun x H1=>g x σ H1 D.nx
theorem je8 {tg e:Expr}{te:TE}{g:TG}(he:PE X e te)(hg:PG X tg g)(hs:swapsWithSole [tg] e pos.line X.env=pure false:=by rfl)(hw:swappedStores [tg] e X.env=pure none:=by rfl)
  (h1:(assignEach [tg] X.env).map (·.2)=[assign tg X.env]:=by rfl):PS X (.Assign [tg] e pos) (tAsg te g):=by
 intro pins s σ H D I h
 refine wpAny_Assign_stores (thn (he pins s σ H _ I h) fun v s1 ⟨x,H1,I1,r1,q1⟩=>?_) hs hw
 rw [h1]
 exact thn (hg pins s1 σ H1 x v _ I1 r1 q1) fun _ s2 q=>q
noncomputable def tPar (i j:Nat)(ta:TA):TS:=fun D σ H=>ta σ H fun vs H1=>∃ v w,vs=[v,w]/\D.nx ((σ.set i (some v)).set j (some w)) H1
theorem jiU {i j:Nat}{x y:Str}{a b:Expr}{ta:TA}{px py pt:Pos}{kt k2 pt2}(hc:X.calm=true)(hN:X.N.Nodup)(hi:X.N[i]?=some x)(hj:X.N[j]?=some y)(hij:i≠j)
  (hx:X.env.scope.names.lookup x=some .local) (hy:X.env.scope.names.lookup y=some .local) (ha:PA X [a,b] ta)
  (hw:swappedStores [.Tuple [.Name x px,.Name y py] kt pt] (.Tuple [a,b] k2 pt2) X.env=pure (some [x,y]))
  (hs:swapsWithSole [.Tuple [.Name x px,.Name y py] kt pt] (.Tuple [a,b] k2 pt2) pos.line X.env=pure false:=by rfl) :
  PS X (.Assign [.Tuple [.Name x px,.Name y py] kt pt] (.Tuple [a,b] k2 pt2) pos) (tPar i j ta):=by
 intro pins s σ H D I h
 rw [exec_Assign_arm]
 refine wpAny_bind (wpAny_standAt ?_)
 rw [hs]
 refine wpAny_bind (wpAny_pure ?_)
 rw [if_neg (by decide)]
 refine wpAny_bind (Tuple_ (thn (ha _ pins s σ H _ I h) fun us s1 ⟨vs,H1,I1,r1,q1⟩=>?_))
 obtain ⟨v,w,e1,q1⟩:=q1
 subst e1
 obtain ⟨u1,u2,rfl,rv,rw'⟩:∃ u1 u2,us=[u1,u2]/\RelV v u1/\RelV w u2:=by
  cases r1 with
  | cons p q=>
   cases q with
   | cons p' q'=>
    cases q'
    exact ⟨_,_,rfl,p,p'⟩
 refine wpAny_newObj_type ?_ (by show 2<=sizeLine; decide)
 have I2:Inv X pins σ H1 { s1 with heap:=s1.heap.push { cls:=.type "tuple",data:=.seq [u1,u2].toArray } }:=I1.kept (t':=s1.toks) fun b o e=>Heap.get?_push_of_some _ e
 rw [hw]
 refine wpAny_bind (wpAny_pure ?_)
 show wpAny (model X.prog X.w) X.A (do rule "assign.swapped-stores"; let items <- unpackItems (.ref s1.heap.objs.size) 2 none; assignInOrder [fun v=>bindName X.env y v,fun v=>bindName X.env x v] items.reverse; pure Flow.next) _ _ _
 refine wpAny_bind (wpAny_rule (wpAny_bind (unpackItems_tuple (items:=#[u1,u2]) (I.ok.hd hc) (IsTup.new s1.heap _) fun h' hx'=>?_)))
 have I3:=I2.kept (h':=h') (t':=s1.toks) fun b o e=>hx' b o (Nat.ne_of_lt (Heap.lt_size e)) e
 show wpAny _ _ (assignInOrder [fun v=>bindName X.env y v,fun v=>bindName X.env x v] [u2,u1] >>= fun _=>pure Flow.next) _ _ _
 refine wpAny_bind (assignInOrder_cons (wpAny_bindName (jbf I3 hN hj (.inl hy) rw' (fun s2 I4=>?_) (.inr hy))))
 refine assignInOrder_cons (wpAny_bindName (jbf I4 hN hi (.inl hx) rv (fun s3 I5=>assignInOrder_nil (wpAny_pure ?_)) (.inr hx)))
 rw [List.set_comm _ _ (Ne.symm hij)] at I5
 exact ⟨_,H1,I5,q1⟩
noncomputable def tAug (i:Nat)(te:TE)(ti:TIp):TS:=fun D σ H=>∃ x,σ[i]?=some (some x)/\te σ H fun y H1=>ti x y H1 fun z H2=>D.nx (σ.set i (some z)) H2
theorem jiY {i:Nat}{x:Str}{e:Expr}{te:TE}{op:Operator}{ti:TIp}{pos':Pos}(hN:X.N.Nodup)(hi:X.N[i]?=some x)(hx:Loc X.env.scope x)(he:PE X e te)(ho:PIp X op ti)(hf:X.fn x=true\/X.env.scope.names.lookup x=some .local:=by first | exact .inl rfl | exact .inr rfl | assumption) :
  PS X (.AugAssign (.Name x pos') op e pos) (tAug i te ti):=by
 intro pins s σ H D I h
 obtain ⟨v,e1,h⟩:=h
 obtain ⟨m,hn,hl⟩:=I.loc
 have vis:Vis X.env.scope x:=by rcases hx with k | k; exact .inl k; exact .inr (.inl k)
 obtain ⟨u,r,l⟩:=hl i x v hi e1 vis
 refine wpAny_AugAssign_Name ?_
 have go:wpAny (model X.prog X.w) X.A (eval e X.env) (fun w s₂=>wpAny (model X.prog X.w) X.A (inplaceOp op u w) (fun r s₃=>wpAny (model X.prog X.w) X.A (storeName X.env x r) (fun _=>SP X pins D .next) X.xe s₃) X.xe s₂) X.xe s:=by
  refine thn (he pins s σ H _ I h) fun w s1 ⟨y,H1,I1,r1,q1⟩=>?_
  refine thn (ho pins s1 σ H1 v y u w _ I1 r r1 q1) fun z s2 ⟨zv,H2,I2,r2,q2⟩=>?_
  exact jbf I2 hN hi hx r2 (fun s3 I3=>⟨_,H2,I3,q2⟩) hf
 rcases l with ⟨hk,hm⟩ | ⟨hk,c,hc,hcell⟩
 ·exact wpAny_loadName_local I.ok.kind hk hn hm go
 ·rcases hk with hk | hk
  ·exact wpAny_loadName_cell I.ok.kind hk hc hcell go
  ·rcases hx with k | k
   ·have:X.env.scope.names.lookup x=some .free:=hk
    rw [k] at this; cases this
   ·have:X.env.scope.names.lookup x=some .free:=hk
    rw [k] at this; cases this
noncomputable def PGet (X:Cx)(t:V->V->Hp->VK->Prop):Prop:=
 ∀ (pins:List (Addr×Obj)) (s:Shared) (σ:St) (H:Hp) (o i:V) (ov iv:Value) (Q:VK),Inv X pins σ H s->RelV o ov->RelV i iv->t o i H Q->
  wpAny (model X.prog X.w) X.A (getItem ov iv) (EP X pins σ Q) X.xe s
end

section
variable {X:Cx}{pos:Pos}
end

structure It where
 go:Nat->Hp->Prop
 yld:Nat->Hp->V->Hp->Prop
 stop:Nat->Hp->Prop
noncomputable def FpOk (X:Cx)(pins:List (Addr×Obj))(H:Hp)(b:Addr):Prop:=
 H b=none/\b≠X.env.locals/\b∉X.fs/\(b∈X.ex\/X.s₀.heap.objs.size<=b)/\(∀ x c,X.env.cells.lookup x=some c->c≠b)/\∀ p∈X.pn++pins,p.1≠b
theorem Inv.fpOk {X:Cx}{pins:List (Addr×Obj)}{σ:St}{H H':Hp}{s:Shared}{b:Addr}(I:Inv X pins σ H s)(hb:s.heap.objs.size<=b)(hn:H' b=none):FpOk X pins H' b:=by
 refine ⟨hn,Nat.ne_of_gt (Nat.lt_of_lt_of_le I.lt hb),I.nofs hb,.inr (Nat.le_trans I.sz hb),fun x c e z=>?_,fun p hp z=>?_⟩
 ·obtain ⟨v,q⟩:=I.cell x c e
  exact absurd (Nat.lt_of_lt_of_le q.lt (by rw [z]; exact hb)) (Nat.lt_irrefl _)
 ·exact absurd (Nat.lt_of_lt_of_le (Heap.lt_size (I.pin p hp).1) (by rw [z]; exact hb)) (Nat.lt_irrefl _)
structure Turn (P:Program)(w:World)(K:PySem.W.Frag)(tg:Expr)(J:It)(fp:List Addr)(it:Addr)(tn:Nat->Heap->Prop):Prop where
 mem:it∈fp
 obj:∀ i h,tn i h->∀ b∈fp,∃ o,h.get? b=some o/\∀ v,o.data≠.cell v
 keep:∀ i h h',tn i h->(∀ b∈fp,∀ o,h.get? b=some o->h'.get? b=some o)->tn i h'
 item:∀ (X:Cx),X.prog=P->X.w=w->X.K=K->X.calm=true->∀ (i:Nat) (pins:List (Addr×Obj)) (s:Shared) (σ:St) (H:Hp) (E:Value->Shared->Prop),Inv X pins σ H s->(∀ b∈fp,FpOk X pins H b)->tn i s.heap->J.go i H->
  wpAny (model P w) X.A (pyNext (.ref it)) (fun r s1=>∃ u,r=some u/\
   wpAny (model P w) X.A (letOwnedTupleGo tg (.ref it) u) (fun _ s2=>∃ x H',Inv X pins σ H' s2/\RelV x u/\J.yld i H x H'/\tn (i + 1) s2.heap/\∀ b∈fp,H' b=none) E s1) E s
 done:∀ (X:Cx),X.prog=P->X.w=w->X.K=K->X.calm=true->∀ (i:Nat) (pins:List (Addr×Obj)) (s:Shared) (σ:St) (H:Hp) (E:Value->Shared->Prop),Inv X pins σ H s->(∀ b∈fp,FpOk X pins H b)->tn i s.heap->J.stop i H->
  wpAny (model P w) X.A (pyNext (.ref it)) (fun r s1=>r=none/\Inv X pins σ H s1) E s
 self:∀ (A:Around) (i:Nat) (s:Shared) (Q:Value->Shared->Prop) (E:Value->Shared->Prop),tn i s.heap->Q (.ref it) s->wpAny (model P w) A (pyIter (.ref it)) Q E s
noncomputable abbrev TI:=St->Hp->(It->Hp->Prop)->Prop
noncomputable def PIE (X:Cx)(pins:List (Addr×Obj))(σ:St)(tg:Expr)(R:It->Hp->Prop)(itv:Value)(s2:Shared):Prop:=
 ∃ (it:Addr) (fp:List Addr) (tn:Nat->Heap->Prop) (J:It) (H':Hp),itv=.ref it/\Inv X pins σ H' s2/\Turn X.prog X.w X.K tg J fp it tn/\tn 0 s2.heap/\(∀ b∈fp,FpOk X pins H' b)/\R J H'
noncomputable def PI (X:Cx)(tg iter:Expr)(wi:TI):Prop:=
 ∀ (pins:List (Addr×Obj)) (s:Shared) (σ:St) (H:Hp) (R:It->Hp->Prop),Inv X pins σ H s->wi σ H R->
  wpAny (model X.prog X.w) X.A (eval iter X.env) (fun v s1=>wpAny (model X.prog X.w) X.A (pyIter v) (PIE X pins σ tg R) X.xe s1) X.xe s

theorem jh6 {M : Model}{A : Around}{E : Value -> Shared -> Prop}{s : Shared}{tg : Expr}{it : Addr}{u : Value}{o : Obj}{n : String}{vs : Array Value}{Q : Unit -> Shared -> Prop}(ho : s.heap.get? it = some o)(hc : o.cls = .type n)(hd : o.data = .fields vs)
    (hn : ["enumerate", "zip", "dict_itemiterator", "dict_reverseitemiterator", "odict_iterator", "itertools.zip_longest", "itertools.pairwise"].contains n = false) (hQ : Q () s) : wpAny M A (letOwnedTupleGo tg (.ref it) u) Q E s := by
  unfold letOwnedTupleGo
  cases tg <;> first
    | exact wpAny_pure hQ
    | (cases u <;> first
        | exact wpAny_pure hQ
        | (refine wpAny_bind (wpAny_load ho ?_)
           rw [hc, hd]
           show wpAny M A (if (["enumerate", "zip", "dict_itemiterator", "dict_reverseitemiterator", "odict_iterator", "itertools.zip_longest", "itertools.pairwise"].contains n && vs[0]? == some (rawInt _)) = true then _ else _) Q E s
           rw [if_neg (by intro h; rw [hn, Bool.false_and] at h; cases h)]
           exact wpAny_pure hQ))

noncomputable def Itl (K:PySem.W.Frag)(a:Addr):It:=
 ⟨fun i H=>∃ xs x,SqL K H a xs/\xs[i]?=some x,fun i H x H'=>H'=H/\∀ xs,SqL K H a xs->xs[i]?=some x,fun i H=>∃ xs,SqL K H a xs/\xs.length<=i⟩
noncomputable def Itt (K:PySem.W.Frag)(a:Addr):It:=
 ⟨fun i H=>∃ xs x,SqT K H a xs/\xs[i]?=some x,fun i H x H'=>H'=H/\∀ xs,SqT K H a xs->xs[i]?=some x,fun i H=>∃ xs,SqT K H a xs/\xs.length<=i⟩
noncomputable def Itr (lo:Int)(n:Nat):It:=⟨fun i _=>i < n,fun i H x H'=>H'=H/\x=.int (lo + i),fun i _=>n<=i⟩
theorem jeU {P:Program}{w:World}{K:PySem.W.Frag}{tg:Expr}(a it:Addr):Turn P w K tg (Itl K a) [it] it (fun i h=>h.IsListIter it a i) where
 mem:=by simp
 obj:=fun i h st b hb=>by
  have e:b=it:=by simpa using hb
  subst e
  obtain ⟨o,e,c,d⟩:=st
  exact ⟨o,e,fun v z=>by rw [d] at z; cases z⟩
 keep:=fun i h h' st k=>st.at fun o e=>k it (by simp) o e
 item:=by
  intro X hP hw hK hc i pins s σ H E I hf st hg
  subst hP hw hK
  obtain ⟨xs,x,hq,hx⟩:=hg
  obtain ⟨its,rv,p,hz⟩:=I.list hq
  obtain ⟨u,hu,ru⟩:=rv.get hx
  obtain ⟨f0,f1,f2,f3,f4,f5⟩:=hf it (by simp)
  refine wpAny_pyNext_list_item st p.isList (x:=u) (by simpa using hu) fun h' st' sb=>?_
  have I1:Inv X pins σ H { s with heap:=h' }:=I.turned (t':=s.toks) (fun b o hb e=>(sb.2 b hb).trans e) f0 f1 f3 f4 f5
  obtain ⟨o,e,c,d⟩:=id st'
  exact ⟨u,rfl,jh6 (s:={ s with heap:=h' }) e c d (by decide) ⟨x,H,I1,ru,⟨rfl,fun ys hy=>by rw [I.list_inj hy hq]; exact hx⟩,st',fun b hb=>(hf b hb).1⟩⟩
 done:=by
  intro X hP hw hK hc i pins s σ H E I hf st hg
  subst hP hw hK
  obtain ⟨xs,hq,hx⟩:=hg
  obtain ⟨its,rv,p,hz⟩:=I.list hq
  obtain ⟨f0,f1,f2,f3,f4,f5⟩:=hf it (by simp)
  have hl:=rv.length
  exact wpAny_pyNext_list_end (I.ok.hd hc) st p.isList (by simp; omega) fun h' eb=>⟨rfl,I.turned (t':=s.toks) (fun b o hb e=>eb b o hb e) f0 f1 f3 f4 f5⟩
 self:=fun _ _ _ _ _ st h=>wpAny_pyIter_listiter st h
theorem jeu {P:Program}{w:World}{K:PySem.W.Frag}{tg:Expr}(a it:Addr):Turn P w K tg (Itt K a) [it] it (fun i h=>h.IsTupleIter it a i) where
 mem:=by simp
 obj:=fun i h st b hb=>by
  have e:b=it:=by simpa using hb
  subst e
  obtain ⟨o,e,c,d⟩:=st
  exact ⟨o,e,fun v z=>by rw [d] at z; cases z⟩
 keep:=fun i h h' st k=>st.at fun o e=>k it (by simp) o e
 item:=by
  intro X hP hw hK hc i pins s σ H E I hf st hg
  subst hP hw hK
  obtain ⟨xs,x,hq,hx⟩:=hg
  obtain ⟨its,rv,p,hz⟩:=I.tuple hq
  obtain ⟨u,hu,ru⟩:=rv.get hx
  obtain ⟨f0,f1,f2,f3,f4,f5⟩:=hf it (by simp)
  refine wpAny_pyNext_tuple_item st (show s.heap.IsTuple a its.toArray from p) (x:=u) (by simpa using hu) fun h' st' sb=>?_
  have I1:Inv X pins σ H { s with heap:=h' }:=I.turned (t':=s.toks) (fun b o hb e=>(sb.2 b hb).trans e) f0 f1 f3 f4 f5
  obtain ⟨o,e,c,d⟩:=id st'
  exact ⟨u,rfl,jh6 (s:={ s with heap:=h' }) e c d (by decide) ⟨x,H,I1,ru,⟨rfl,fun ys hy=>by rw [I.tuple_inj hy hq]; exact hx⟩,st',fun b hb=>(hf b hb).1⟩⟩
 done:=by
  intro X hP hw hK hc i pins s σ H E I hf st hg
  subst hP hw hK
  obtain ⟨xs,hq,hx⟩:=hg
  obtain ⟨its,rv,p,hz⟩:=I.tuple hq
  obtain ⟨f0,f1,f2,f3,f4,f5⟩:=hf it (by simp)
  have hl:=rv.length
  exact wpAny_pyNext_tuple_end (I.ok.hd hc) st (show s.heap.IsTuple a its.toArray from p) (by simp; omega) fun h' eb=>⟨rfl,I.turned (t':=s.toks) (fun b o hb e=>eb b o hb e) f0 f1 f3 f4 f5⟩
 self:=fun _ _ _ _ _ st h=>wpAny_pyIter_tupleiter st h
theorem jev {P:Program}{w:World}{K:PySem.W.Frag}{tg:Expr}(it:Addr)(lo:Int)(n:Nat):Turn P w K tg (Itr lo n) [it] it (fun i h=>IsRangeIter h it (lo + (i:Nat) * 1) ((n:Int) - (i:Nat)) 1) where
 mem:=by simp
 obj:=fun i h st b hb=>by
  have e:b=it:=by simpa using hb
  subst e
  exact ⟨_,st,fun v z=>by
   have z':Data.fields _=Data.cell v:=z
   cases z'⟩
 keep:=fun i h h' st k=>k it (by simp) _ st
 item:=by
  intro X hP hw hK hc i pins s σ H E I hf st hg
  subst hP hw hK
  obtain ⟨f0,f1,f2,f3,f4,f5⟩:=hf it (by simp)
  have W:=Walks.range (prog:=X.prog) (w:=X.w) (I.ok.hd hc) it lo 1 n
  refine W.item i s _ _ hg st fun v h' tk hv st' kk=>?_
  obtain ⟨t,rfl⟩:=hv
  have I1:Inv X pins σ H { s with heap:=h',toks:=tk }:=I.turned (fun b o hb e=>kk b o (by simpa using hb) e) f0 f1 f3 f4 f5
  refine ⟨_,rfl,jh6 (s:={ s with heap:=h',toks:=tk }) (n := "range_iterator") st' rfl rfl (by decide) ⟨.int (lo + i),H,I1,⟨t,?_⟩,⟨rfl,rfl⟩,st',fun b hb=>(hf b hb).1⟩⟩
  rw [Int.mul_one]
 done:=by
  intro X hP hw hK hc i pins s σ H E I hf st hg
  subst hP hw hK
  obtain ⟨f0,f1,f2,f3,f4,f5⟩:=hf it (by simp)
  exact wpAny_pyNext_range_end (I.ok.hd hc) st (by have:n<=i:=hg; omega) fun h' eb=>⟨rfl,I.turned (t':=s.toks) (fun b o hb e=>eb b o hb e) f0 f1 f3 f4 f5⟩
 self:=fun _ _ _ _ _ st h=>wpAny_pyIter_rangeiter st h
section
variable {X:Cx}{tg:Expr}
theorem jf1 {pins:List (Addr×Obj)}{σ:St}{H:Hp}{s:Shared}{R:It->Hp->Prop}{E:Value->Shared->Prop}{lo hi:Int}{t u v:Tok}{tk:Nat}(I:Inv X pins σ H s)(h1:-(2 ^ 62)<=lo)(h2:lo < 2 ^ 62)(h3:-(2 ^ 62)<=hi)(h4:hi < 2 ^ 62)
  (q:R (Itr lo (hi - lo).toNat) H):wpAny (model X.prog X.w) X.A (pyIter (.ref s.heap.objs.size)) (PIE X pins σ tg R) E { s with heap:=s.heap.push { cls:=.type "range",data:=.fields #[.int lo t,.int hi u,.int 1 v] },toks:=tk }:=by
 refine wpAny_pyIter_range (IsRange.new ..) (small_one h1 h2 h3 h4) ?_
 have I1:Inv X pins σ H { s with heap:=s.heap.push { cls:=.type "range",data:=.fields #[.int lo t,.int hi u,.int 1 v] },toks:=tk }:=I.kept fun b o e=>Heap.get?_push_of_some _ e
 refine ⟨(s.heap.push { cls:=.type "range",data:=.fields #[.int lo t,.int hi u,.int 1 v] }).objs.size,[(s.heap.push { cls:=.type "range",data:=.fields #[.int lo t,.int hi u,.int 1 v] }).objs.size],_,_,H,rfl,
  I1.kept (t':=tk) fun b o e=>Heap.get?_push_of_some _ e,jev _ lo (hi - lo).toNat,?_,fun b hb=>?_,q⟩
 ·have e1:lo + ((0:Nat):Int) * 1=lo:=by simp
  have e2:(((hi - lo).toNat:Nat):Int) - ((0:Nat):Int)=Builtin.Range.rangeSize lo hi 1:=by rw [rangeSize_one]; split <;> omega
  show IsRangeIter _ _ (lo + ((0:Nat):Int) * 1) ((((hi - lo).toNat:Nat):Int) - ((0:Nat):Int)) 1
  rw [e1,e2]
  exact Heap.get?_push_size _ rfl
 ·have e:b=(s.heap.push { cls:=.type "range",data:=.fields #[.int lo t,.int hi u,.int 1 v] }).objs.size:=by simpa using hb
  subst e
  exact I1.fpOk (Nat.le_refl _) (I1.hok.fresh (Nat.le_refl _))
noncomputable def jlj (ta:TA):TI:=fun σ H R=>ta σ H fun vs H1=>∃ j:Int,vs=[.int j]/\-(2 ^ 62)<=j/\j < 2 ^ 62/\R (Itr 0 j.toNat) H1
theorem jfc {a:Expr}{ta:TA}{p pos:Pos}(hg:Gl X "range")(hm:X.mg "range" = none)(ha:PA X [a] ta)(hs:starEach [a] X.env=[(false,eval a X.env)]:=by rfl):PI X tg (.Call (.Name "range" p) [a] [] pos) (jlj ta):=by
 intro pins s σ H R I h
 refine Call_ (jei I hg hm boot_range (PyProof.Rows.callWith_type1 (thn (ha pos pins s σ H _ I h) fun us s1 ⟨vs,H1,I1,r1,q1⟩=>?_) hs rfl))
 obtain ⟨j,e,q1,q2,q⟩:=q1
 subst e
 cases r1 with
 | cons r rr=>
  cases rr
  obtain ⟨t,rfl⟩:=r
  exact call_range_1 (jf1 I1 (by omega) (by omega) q1 q2 (by simpa using q))
noncomputable def tFor (wi:TI)(g:TG)(tb:TS):TS:=fun D σ H=>wi σ H fun J H1=>∃ W:Nat->Nat->St->Hp->Prop,(∃ m,W 0 m σ H1)/\∀ i m σ H,W i m σ H->
 (J.stop i H/\D.nx σ H)\/(J.go i H/\∃ N:St->Hp->Prop,(∀ σ' H',N σ' H'->∃ m',m' < m/\W (i + 1) m' σ' H')/\∀ x H',J.yld i H x H'->g x σ H' fun σ2 H2=>tb { D with nx:=N,ct:=N,bk:=D.nx } σ2 H2)
noncomputable def jc2 (fp:List Addr)(h:Heap):List (Addr×Obj):=fp.filterMap fun b=>(h.get? b).map fun o=>(b,o)
theorem ja0 {fp:List Addr}{h:Heap}{b:Addr}{o:Obj}(hb:b∈fp)(e:h.get? b=some o):(b,o)∈jc2 fp h:=List.mem_filterMap.mpr ⟨b,hb,by rw [e]; rfl⟩
theorem jff {fp:List Addr}{h:Heap}{p:Addr×Obj}(hp:p∈jc2 fp h):p.1∈fp/\h.get? p.1=some p.2:=by
 obtain ⟨b,hb,e⟩:=List.mem_filterMap.mp hp
 cases q:h.get? b with
 | none=>rw [q] at e; cases e
 | some o=>
  rw [q] at e
  have e':(b,o)=p:=Option.some.inj e
  subst e'
  exact ⟨hb,q⟩
theorem Inv.pinned {pins:List (Addr×Obj)}{σ:St}{H:Hp}{s:Shared}{fp:List Addr}(I:Inv X pins σ H s)(hf:∀ b∈fp,FpOk X pins H b)(ho:∀ b∈fp,∃ o,s.heap.get? b=some o/\∀ v,o.data≠.cell v):Inv X (pins++jc2 fp s.heap) σ H s:=
 I.pins_of fun p hp=>(List.mem_append.mp hp).elim (fun z=>I.pin p (List.mem_append_right _ z)) fun z=>by
  obtain ⟨hb,e⟩:=jff z
  obtain ⟨f0,f1,f2,_⟩:=hf p.1 hb
  obtain ⟨o,e',d⟩:=ho p.1 hb
  rw [e] at e'; cases e'
  exact ⟨e,f0,f1,f2,d⟩
theorem Inv.unpinned {pins pl:List (Addr×Obj)}{σ:St}{H:Hp}{s:Shared}(I:Inv X (pins++pl) σ H s):Inv X pins σ H s:=I.pins_of fun p hp=>I.pin p (List.mem_append_right _ (List.mem_append_left _ hp))
theorem jiX {iter:Expr}{body:List Stmt}{wi:TI}{g:TG}{tb:TS}{pos:Pos}(hp:PassesOwn (model X.prog X.w) X.A X.env X.xe)(hc:X.calm=true)(hi:PI X tg iter wi)(hg:PG X tg g)(hb:PSs X body tb)
  (hs:∀ x,foldedSetIterable iter X.env x=pure x:=by intro _; rfl):PS X (.For tg iter body [] pos) (tFor wi g tb):=by
 intro pins s σ H D I h
 refine wpAny_For (thn (hi pins s σ H _ I h) fun v s1 h1=>thn h1 fun itv s2 h2=>?_) hs
 obtain ⟨it,fp,tn,J,H2,e,I2,T,st2,f2,W,⟨m0,w0⟩,turn⟩:=h2
 subst e
 have stat:∀ {H':Hp},(∀ b∈fp,H' b=none)->∀ b∈fp,FpOk X pins H' b:=fun hn b hb=>⟨hn b hb,(f2 b hb).2⟩
 refine codeAny_forLoop_any (fun n s'=>∃ i σ' H',Inv X pins σ' H' s'/\tn i s'.heap/\(∀ b∈fp,H' b=none)/\W i n σ' H') ?_ m0 ⟨0,σ,H2,I2,st2,fun b hb=>(f2 b hb).1,w0⟩
 rintro n s3 ⟨i,σ3,H3,I3,st3,fr3,w3⟩
 rcases turn i n σ3 H3 w3 with ⟨stop,qn⟩ | ⟨go,N,hN,step⟩
 ·refine wpAny_passesOwn hp (thn (T.done X rfl rfl rfl hc i pins s3 σ3 H3 X.xe I3 (stat fr3) st3 stop) fun r s4 ⟨hr,I4⟩=>?_)
  subst hr
  exact wpAny_execs_nil ⟨σ3,H3,I4,qn⟩
 ·refine wpAny_passesOwn hp (thn (T.item X rfl rfl rfl hc i pins s3 σ3 H3 X.xe I3 (stat fr3) st3 go) fun r s4 ⟨u,hr,h4⟩=>?_)
  subst hr
  refine wpAny_passesOwn hp (thn h4 fun _ s5 ⟨x,H5,I5,r5,y5,st5,fr5⟩=>?_)
  have I5':=I5.pinned (stat fr5) (T.obj _ _ st5)
  refine wpAny_passesOwn hp (thn (hg _ s5 σ3 H5 x u _ I5' r5 (step x H5 y5)) fun _ s6 ⟨σ6,H6,I6,q6⟩=>?_)
  refine wpAny_passesOwn hp (thn (hb _ s6 σ6 H6 _ I6 q6) fun f s7 q7=>?_)
  have again:∀ {σ7:St} {H7:Hp},Inv X (pins++jc2 fp s5.heap) σ7 H7 s7->N σ7 H7->∃ m,m < n/\∃ i σ' H',Inv X pins σ' H' s7/\tn i s7.heap/\(∀ b∈fp,H' b=none)/\W i m σ' H':=fun {σ7 H7} I7 n7=>by
   obtain ⟨m',hm,w7⟩:=hN σ7 H7 n7
   refine ⟨m',hm,i + 1,σ7,H7,I7.unpinned,T.keep _ _ _ st5 fun b hb o e=>(I7.pin (b,o) (List.mem_append_right _ (List.mem_append_right _ (ja0 hb e)))).1,fun b hb=>?_,w7⟩
   obtain ⟨o,e,d⟩:=T.obj _ _ st5 b hb
   exact (I7.pin (b,o) (List.mem_append_right _ (List.mem_append_right _ (ja0 hb e)))).2.1
  cases f with
  | next=>obtain ⟨σ7,H7,I7,n7⟩:=q7; exact again I7 n7
  | cont=>obtain ⟨σ7,H7,I7,n7⟩:=q7; exact again I7 n7
  | brk=>obtain ⟨σ7,H7,I7,q7⟩:=q7; exact ⟨σ7,H7,I7.unpinned,q7⟩
  | ret v=>obtain ⟨x7,σ7,H7,I7,r7,q7⟩:=q7; exact ⟨x7,σ7,H7,I7.unpinned,r7,q7⟩
end


noncomputable abbrev R2:=V->V->Hp->VK->Prop
noncomputable def OpR (X:Cx)(f:Value->Value->Sem Value)(r:R2):Prop:=
 ∀ (pins:List (Addr×Obj)) (s:Shared) (σ:St) (H:Hp) (x y:V) (v u:Value) (Q:VK),Inv X pins σ H s->RelV x v->RelV y u->r x y H Q->
  wpAny (model X.prog X.w) X.A (f v u) (EP X pins σ Q) X.xe s
noncomputable def UnR (X:Cx)(f:Value->Sem Value)(r:V->Hp->VK->Prop):Prop:=
 ∀ (pins:List (Addr×Obj)) (s:Shared) (σ:St) (H:Hp) (x:V) (v:Value) (Q:VK),Inv X pins σ H s->RelV x v->r x H Q->
  wpAny (model X.prog X.w) X.A (f v) (EP X pins σ Q) X.xe s
noncomputable def jaM (X:Cx)(f:Value)(r:List V->Hp->VK->Prop):Prop:=
 ∀ (pins:List (Addr×Obj)) (s:Shared) (σ:St) (H:Hp) (xs:List V) (us:List Value) (Q:VK),Inv X pins σ H s->Vals xs us->r xs H Q->
  wpAny (model X.prog X.w) X.A (call f us) (EP X pins σ Q) X.xe s
noncomputable def TruR (X:Cx)(r:V->Hp->(Bool->Hp->Prop)->Prop):Prop:=
 ∀ (pins:List (Addr×Obj)) (s:Shared) (σ:St) (H:Hp) (x:V) (v:Value) (Q:Bool->Hp->Prop),Inv X pins σ H s->RelV x v->r x H Q->
  wpAny (model X.prog X.w) X.A (truthy v) (TP X pins σ Q) X.xe s

noncomputable def tOp (r:R2)(ta tb:TE):TE:=fun σ H Q=>ta σ H fun x H1=>tb σ H1 fun y H2=>r x y H2 Q
noncomputable def tUn (r:V->Hp->VK->Prop)(ta:TE):TE:=fun σ H Q=>ta σ H fun x H1=>r x H1 Q
noncomputable def rI (C:Int->Int->Prop)(g:Int->Int->V):R2:=fun x y H Q=>∃ i j,x=.int i/\y=.int j/\C i j/\Q (g i j) H
noncomputable def rI0 (g:Int->Int->V):R2:=fun x y H Q=>∃ i j,x=.int i/\y=.int j/\Q (g i j) H
noncomputable def rU (g:Int->V):V->Hp->VK->Prop:=fun x H Q=>∃ i,x=.int i/\Q (g i) H

section
variable {X:Cx}{a b c:Expr}{ta tb tc:TE}{pos:Pos}

theorem binT (ha:PE X a ta)(hb:PE X b tb){pins:List (Addr×Obj)}{s:Shared}{σ:St}{H:Hp}{R:V->V->Hp->Prop}(I:Inv X pins σ H s)
  (h:ta σ H fun x H1=>tb σ H1 fun y H2=>R x y H2) {Q:Value->Shared->Prop} {f:Value->Value->Sem Value}
  (hf:∀ v u s2 x y H2,Inv X pins σ H2 s2->RelV x v->RelV y u->R x y H2->wpAny (model X.prog X.w) X.A (f v u) Q X.xe s2) :
  wpAny (model X.prog X.w) X.A (eval a X.env) (fun v s₁=>wpAny (model X.prog X.w) X.A (eval b X.env) (fun u s₂=>wpAny (model X.prog X.w) X.A (f v u) Q X.xe s₂) X.xe s₁) X.xe s:=by
 refine thn (ha pins s σ H _ I h) fun v s1 ⟨x,H1,I1,r1,q1⟩=>?_
 refine thn (hb pins s1 σ H1 _ I1 q1) fun u s2 ⟨y,H2,I2,r2,q2⟩=>?_
 exact hf v u s2 x y H2 I2 r1 r2 q2

theorem jk4 {op:Operator}{r:R2}(ho:OpR X (binaryOp op) r)(ha:PE X a ta)(hb:PE X b tb):PE X (.BinOp a op b pos) (tOp r ta tb):=by
 intro pins s σ H Q I h
 exact wpAny_BinOp (binT ha hb I h fun v u s2 x y H2 I2 rx ry q=>ho pins s2 σ H2 x y v u Q I2 rx ry q)
theorem jk2 {op:UnaryOp}{r:V->Hp->VK->Prop}(ho:UnR X (unaryOp op) r)(ha:PE X a ta):PE X (.UnaryOp op a pos) (tUn r ta):=by
 intro pins s σ H Q I h
 exact UnaryOp_ (thn (ha pins s σ H _ I h) fun v s1 ⟨x,H1,I1,r1,q1⟩=>ho pins s1 σ H1 x v Q I1 r1 q1)
theorem opI {f:Value->Value->Sem Value}{C:Int->Int->Prop}{g:Int->Int->Int}
  (rule:∀ (i j:Int) (t u:Tok) (s:Shared) (Q:Value->Shared->Prop) (E:Value->Shared->Prop),C i j->Q (.int (g i j) s.toks) { s with toks:=s.toks + 1 }->wpAny (model X.prog X.w) X.A (f (.int i t) (.int j u)) Q E s) :
  OpR X f (rI C fun i j=>.int (g i j)):=by
 intro pins s σ H x y v u Q I rx ry h
 obtain ⟨i,j,rfl,rfl,hc,q⟩:=h
 obtain ⟨t,rfl⟩:=rx
 obtain ⟨t',rfl⟩:=ry
 exact rule i j t t' s _ _ hc ⟨.int (g i j),H,I.tok _,⟨_,rfl⟩,q⟩
theorem opI0 {f:Value->Value->Sem Value}{g:Int->Int->Int}
  (rule:∀ (i j:Int) (t u:Tok) (s:Shared) (Q:Value->Shared->Prop) (E:Value->Shared->Prop),Q (.int (g i j) s.toks) { s with toks:=s.toks + 1 }->wpAny (model X.prog X.w) X.A (f (.int i t) (.int j u)) Q E s) :
  OpR X f (rI0 fun i j=>.int (g i j)):=by
 intro pins s σ H x y v u Q I rx ry h
 obtain ⟨i,j,rfl,rfl,q⟩:=h
 obtain ⟨t,rfl⟩:=rx
 obtain ⟨t',rfl⟩:=ry
 exact rule i j t t' s _ _ ⟨.int (g i j),H,I.tok _,⟨_,rfl⟩,q⟩
theorem opB0 {f:Value->Value->Sem Value}{g:Int->Int->Bool}
  (rule:∀ (i j:Int) (t u:Tok) (s:Shared) (Q:Value->Shared->Prop) (E:Value->Shared->Prop),Q (.bool (g i j)) s->wpAny (model X.prog X.w) X.A (f (.int i t) (.int j u)) Q E s) :
  OpR X f (rI0 fun i j=>.bl (g i j)):=by
 intro pins s σ H x y v u Q I rx ry h
 obtain ⟨i,j,rfl,rfl,q⟩:=h
 obtain ⟨t,rfl⟩:=rx
 obtain ⟨t',rfl⟩:=ry
 exact rule i j t t' s _ _ ⟨.bl (g i j),H,I,rfl,q⟩

noncomputable def CDiv (i j:Int):Prop:=0 < j/\j < 1073741824
noncomputable def CPow (i j:Int):Prop:=0<=j/\j<=1000000/\i.natAbs < 2 ^ 64
noncomputable def CMul (i j:Int):Prop:=(-(2 ^ 64) < i/\i < 2 ^ 64)\/(-(2 ^ 64) < j/\j < 2 ^ 64)
theorem CMul.ok {i j:Int}(h:CMul i j):IntMulOk i j:=by
 rcases h with ⟨h1,h2⟩ | ⟨h1,h2⟩
 ·exact .of_left (intBits_le_64 h1 h2)
 ·exact .of_right (intBits_le_64 h1 h2)
theorem jjp:OpR X (binaryOp .Add) (rI0 fun i j=>.int (i + j)):=opI0 fun _ _ _ _ _ _ _ q=>add_int q
theorem jjh:OpR X (binaryOp .Sub) (rI0 fun i j=>.int (i - j)):=opI0 fun _ _ _ _ _ _ _ q=>sub_int q
theorem jjl:OpR X (binaryOp .Mult) (rI CMul fun i j=>.int (i * j)):=opI fun _ _ _ _ _ _ _ hc q=>mul_int q hc.ok
theorem jhJ:OpR X (binaryOp .FloorDiv) (rI CDiv fun i j=>.int (i / j)):=opI fun i j _ _ _ _ _ hc q=>by
 have h1:(0:Int) < j:=hc.1
 have h2:j < 1073741824:=hc.2
 exact floordiv_int (by omega) (by rw [Int.fdiv_eq_ediv_of_nonneg i (by omega)]; exact q) (.inl (PyProof.noPylong_small (by omega)))
theorem jjm:OpR X (binaryOp .Mod) (rI (fun _ j=>0 < j) fun i j=>.int (i % j)):=opI fun i j _ _ _ _ _ hc q=>by
 have h1:(0:Int) < j:=hc
 exact mod_int' (by omega) (by rw [Int.fmod_eq_emod_of_nonneg i (by omega)]; exact q)
theorem jjj:OpR X (binaryOp .Pow) (rI CPow fun i j=>.int (i ^ j.toNat)):=opI fun _ _ _ _ _ _ _ hc q=>pow_int_small hc.1 hc.2.1 hc.2.2 q
theorem jh3:OpR X (inplaceOp .Add) (rI0 fun i j=>.int (i + j)):=opI0 fun _ _ _ _ _ _ _ q=>iadd_int q
theorem unI {f:Value->Sem Value}{g:Int->Int}
  (rule:∀ (i:Int) (t:Tok) (s:Shared) (Q:Value->Shared->Prop) (E:Value->Shared->Prop),Q (.int (g i) s.toks) { s with toks:=s.toks + 1 }->wpAny (model X.prog X.w) X.A (f (.int i t)) Q E s) :
  UnR X f (rU fun i=>.int (g i)):=by
 intro pins s σ H x v Q I rx h
 obtain ⟨i,rfl,q⟩:=h
 obtain ⟨t,rfl⟩:=rx
 exact rule i t s _ _ ⟨.int (g i),H,I.tok _,⟨_,rfl⟩,q⟩
theorem jip:UnR X (unaryOp .USub) (rU fun i=>.int (-i)):=unI fun _ _ _ _ _ q=>neg_int q
end

noncomputable def scal:V->V->Bool
 | .non,.non=>true | .non,.int _=>true | .int _,.non=>true | .non,.bl _=>true | .bl _,.non=>true | .non,.str _=>true | .str _,.non=>true
 | .int _,.int _=>true | .bl _,.bl _=>true | .str _,.str _=>true | .byt _,.byt _=>true
 | .int _,.str _=>true | .str _,.int _=>true | .bl _,.str _=>true | .str _,.bl _=>true
 | _,_=>false
noncomputable def rEq:R2:=fun x y H Q=>scal x y=true/\Q (.bl (decide (x=y))) H
noncomputable def rNe:R2:=fun x y H Q=>scal x y=true/\Q (.bl (!decide (x=y))) H

theorem jfz {i j:Int}:decide (V.int i=V.int j)=(i == j):=by
 rw [Bool.eq_iff_iff]
 simp
theorem jgZ {i j:Bool}:decide (V.bl i=V.bl j)=(i == j):=by
 rw [Bool.eq_iff_iff]
 simp
theorem jfy {i j:Str}:decide (V.str i=V.str j)=(i == j):=by
 rw [Bool.eq_iff_iff]
 simp
theorem jfA {i j:Array UInt8}:decide (V.byt i=V.byt j)=(i.toList == j.toList):=by
 rw [Bool.eq_iff_iff]
 cases i
 cases j
 simp

section
variable {X:Cx}{a b c:Expr}{ta tb tc:TE}{pos:Pos}
theorem jaj {pins:List (Addr×Obj)}{σ:St}{H:Hp}{s:Shared}{Q:VK}{k k':Bool}(I:Inv X pins σ H s)(q:Q (.bl k) H)(e:k=k'):EP X pins σ Q (.bool k') s:=by
 subst e
 exact ⟨.bl k,H,I,rfl,q⟩
theorem jk9:OpR X (compareOp .Eq) rEq:=by
 intro pins s σ H x y v u Q I rx ry h
 obtain ⟨hs,q⟩:=h
 cases x with
 | non=>
  cases rx
  cases y with
  | non=>cases ry; exact PySem.EqNone.eq_none_none (jaj I q (by simp))
  | bl j=>cases ry; exact PySem.EqNone.eq_none_bool (jaj I q (by simp))
  | int j=>obtain ⟨t',rfl⟩:=ry; exact PySem.EqNone.eq_none_int (jaj I q (by simp))
  | str j=>obtain ⟨t',rfl⟩:=ry; exact PySem.EqNone.eq_none_str (jaj I q (by simp))
  | _=>exact absurd (show false=true from hs) Bool.false_ne_true
 | bl i=>
  cases rx
  cases y with
  | non=>cases ry; exact PySem.EqNone.eq_bool_none (jaj I q (by simp))
  | bl j=>cases ry; exact eq_bool (jaj I q jgZ)
  | str j=>obtain ⟨t',rfl⟩:=ry; exact PySem.EqMixed.eq_bool_str (jaj I q (by simp))
  | _=>exact absurd (show false=true from hs) Bool.false_ne_true
 | int i=>
  obtain ⟨t,rfl⟩:=rx
  cases y with
  | non=>cases ry; exact PySem.EqNone.eq_int_none (jaj I q (by simp))
  | int j=>obtain ⟨t',rfl⟩:=ry; exact eq_int (jaj I q jfz)
  | str j=>obtain ⟨t',rfl⟩:=ry; exact PySem.EqMixed.eq_int_str (jaj I q (by simp))
  | _=>exact absurd (show false=true from hs) Bool.false_ne_true
 | str i=>
  obtain ⟨t,rfl⟩:=rx
  cases y with
  | non=>cases ry; exact PySem.EqNone.eq_str_none (jaj I q (by simp))
  | bl j=>cases ry; exact PySem.EqMixed.eq_str_bool (jaj I q (by simp))
  | int j=>obtain ⟨t',rfl⟩:=ry; exact PySem.EqMixed.eq_str_int (jaj I q (by simp))
  | str j=>obtain ⟨t',rfl⟩:=ry; exact eq_str (jaj I q jfy)
  | _=>exact absurd (show false=true from hs) Bool.false_ne_true
 | byt i=>
  obtain ⟨t,rfl⟩:=rx
  cases y with
  | byt j=>obtain ⟨t',rfl⟩:=ry; exact PySem.W.eq_bytes (jaj I q jfA)
  | _=>exact absurd (show false=true from hs) Bool.false_ne_true
 | _=>cases y <;> exact absurd (show false=true from hs) Bool.false_ne_true
theorem jk7:OpR X (compareOp .NotEq) rNe:=by
 intro pins s σ H x y v u Q I rx ry h
 obtain ⟨hs,q⟩:=h
 cases x with
 | non=>
  cases rx
  cases y with
  | non=>cases ry; exact PySem.EqNone.ne_none_none (jaj I q (by simp))
  | bl j=>cases ry; exact PySem.EqNone.ne_none_bool (jaj I q (by simp))
  | int j=>obtain ⟨t',rfl⟩:=ry; exact PySem.EqNone.ne_none_int (jaj I q (by simp))
  | str j=>obtain ⟨t',rfl⟩:=ry; exact PySem.EqNone.ne_none_str (jaj I q (by simp))
  | _=>exact absurd (show false=true from hs) Bool.false_ne_true
 | bl i=>
  cases rx
  cases y with
  | non=>cases ry; exact PySem.EqNone.ne_bool_none (jaj I q (by simp))
  | bl j=>cases ry; exact ne_bool (jaj I q (congrArg not jgZ))
  | str j=>obtain ⟨t',rfl⟩:=ry; exact PySem.EqMixed.ne_bool_str (jaj I q (by simp))
  | _=>exact absurd (show false=true from hs) Bool.false_ne_true
 | int i=>
  obtain ⟨t,rfl⟩:=rx
  cases y with
  | non=>cases ry; exact PySem.EqNone.ne_int_none (jaj I q (by simp))
  | int j=>obtain ⟨t',rfl⟩:=ry; exact ne_int (jaj I q (congrArg not jfz))
  | str j=>obtain ⟨t',rfl⟩:=ry; exact PySem.EqMixed.ne_int_str (jaj I q (by simp))
  | _=>exact absurd (show false=true from hs) Bool.false_ne_true
 | str i=>
  obtain ⟨t,rfl⟩:=rx
  cases y with
  | non=>cases ry; exact PySem.EqNone.ne_str_none (jaj I q (by simp))
  | bl j=>cases ry; exact PySem.EqMixed.ne_str_bool (jaj I q (by simp))
  | int j=>obtain ⟨t',rfl⟩:=ry; exact PySem.EqMixed.ne_str_int (jaj I q (by simp))
  | str j=>obtain ⟨t',rfl⟩:=ry; exact ne_str (jaj I q (congrArg not jfy))
  | _=>exact absurd (show false=true from hs) Bool.false_ne_true
 | byt i=>
  obtain ⟨t,rfl⟩:=rx
  cases y with
  | byt j=>obtain ⟨t',rfl⟩:=ry; exact PySem.W.ne_bytes (jaj I q (congrArg not jfA))
  | _=>exact absurd (show false=true from hs) Bool.false_ne_true
 | _=>cases y <;> exact absurd (show false=true from hs) Bool.false_ne_true

theorem jk8:OpR X (compareOp .Lt) (rI0 fun i j=>.bl (decide (i < j))):=opB0 fun _ _ _ _ _ _ _ q=>lt_int q
theorem OpR.or {f:Value->Value->Sem Value}{r r':R2}(h:OpR X f r)(h':OpR X f r'):OpR X f (fun x y H Q=>r x y H Q\/r' x y H Q):=by
 intro pins s σ H x y v u Q I rx ry q
 rcases q with q | q
 ·exact h pins s σ H x y v u Q I rx ry q
 ·exact h' pins s σ H x y v u Q I rx ry q

theorem jhC {op:CmpOp}{r:R2}(ho:OpR X (compareOp op) r)(ha:PE X a ta)(hb:PE X b tb)(hm:behindInMarks op b=false):PE X (.Compare a [op] [b] pos) (tOp r ta tb):=by
 intro pins s σ H Q I h
 exact wpAny_Compare1 (binT ha hb I h fun v u s2 x y H2 I2 rx ry q=>ho pins s2 σ H2 x y v u Q I2 rx ry q) hm
noncomputable def jkJ (t:TE):TT:=fun σ H Q=>t σ H fun x H'=>∃ k,x=.bl k/\Q k H'
theorem jhn {op:CmpOp}{r:R2}(ho:OpR X (compareOp op) r)(ha:PE X a ta)(hb:PE X b tb)(hm:behindInMarks op b=false):PT X (.Compare a [op] [b] pos) (jkJ (tOp r ta tb)):=by
 intro pins s σ H Q I h
 refine wpAny_isTrue_Compare1 (thn (ha pins s σ H _ I h) fun v s1 ⟨x,H1,I1,r1,q1⟩=>thn (hb pins s1 σ H1 _ I1 q1) fun u s2 ⟨y,H2,I2,r2,q2⟩=>
  thn (ho pins s2 σ H2 x y v u _ I2 r1 r2 q2) fun c s3 ⟨z,H3,I3,r3,k,e,q3⟩=>?_) hm
 subst e
 cases r3
 exact wpAny_truthy_bool ⟨H3,I3,q3⟩
noncomputable def TruV (K:PySem.W.Frag)(x:V)(H:Hp)(k:Bool):Prop:=
 match x with
 | .non=>k=false
 | .bl b=>k=b
 | .int i=>k=(i != 0)
 | .str y=>y.length<=sizeLine/\k=((y.length:Int) != 0)
 | .byt y=>y.size<=sizeLine/\k=((y.size:Int) != 0)
 | .ref p=>(∃ xs,SqL K H p xs/\k = !xs.isEmpty)\/(∃ xs,SqT K H p xs/\k = !xs.isEmpty)\/∃ kvs,H p=some (.dK kvs)/\k = !kvs.isEmpty
 | _=>False
theorem jeL {κ:Type}{kvs:List (κ×V)}{vs:List (κ×Value)}(r:KV kvs vs):(!vs.isEmpty) = !kvs.isEmpty:=by
 cases r <;> rfl
theorem jcs {xs:List V}{its:List Value}(r:Vals xs its):(!its.toArray.isEmpty) = !xs.isEmpty:=by
 cases r <;> simp
theorem jcq:(sizeLine:Nat) < 2 ^ 63:=by rw [sizeLine_eq]; decide
theorem jeV:TruR X (fun x H Q=>∃ k,TruV X.K x H k/\Q k H):=by
 intro pins s σ H x v Q I rx h
 obtain ⟨k,e,q⟩:=h
 have hl:=jcq
 have hs:sizeLine=16777216:=sizeLine_eq
 cases x with
 | non=>
  cases rx
  have e':k=false:=e
  subst e'
  exact truthy_none ⟨H,I,q⟩
 | bl b=>
  cases rx
  have e':k=b:=e
  subst e'
  exact wpAny_truthy_bool ⟨H,I,q⟩
 | int i=>
  obtain ⟨t,rfl⟩:=rx
  have e':k=(i != 0):=e
  subst e'
  exact PySem.P.truthy_int ⟨H,I,q⟩
 | str y=>
  obtain ⟨t,rfl⟩:=rx
  obtain ⟨hy,e'⟩:y.length<=sizeLine/\k=((y.length:Int) != 0):=e
  subst e'
  exact PySem.P.truthy_str (by omega) ⟨H,I.tok _,q⟩
 | byt y=>
  obtain ⟨t,rfl⟩:=rx
  obtain ⟨hy,e'⟩:y.size<=sizeLine/\k=((y.size:Int) != 0):=e
  subst e'
  exact PySem.W.truthy_bytes (by omega) ⟨H,I.tok _,q⟩
 | ref p=>
  cases rx
  have e':(∃ xs,SqL X.K H p xs/\k = !xs.isEmpty)\/(∃ xs,SqT X.K H p xs/\k = !xs.isEmpty)\/∃ kvs,H p=some (.dK kvs)/\k = !kvs.isEmpty:=e
  rcases e' with ⟨xs,hx,e'⟩ | ⟨xs,hx,e'⟩ | ⟨kvs,hx,e'⟩
  ·subst e'
   obtain ⟨its,r,pl,hz⟩:=I.list hx
   have hlen:=r.length
   exact wpAny_truthy_list pl.isList (by simp only [List.size_toArray]; omega) ⟨H,I.tok _,by rw [jcs r]; exact q⟩
  ·subst e'
   obtain ⟨its,r,pl,hz⟩:=I.tuple hx
   have hlen:=r.length
   exact truthy_tuple pl (by simp only [List.size_toArray]; omega) ⟨H,I.tok _,by rw [jcs r]; exact q⟩
  ·subst e'
   obtain ⟨hz,hS,vs,r,m⟩:kvs.length<=sizeLine/\(p == sysModules)=false/\∃ vs,KV kvs vs/\s.heap.DictOf (jap X.prog X.w) p vs:=I.hok p _ hx
   have hlen:kvs.length=vs.length:=Paired.length r
   exact wpAny_truthy_dict hS m (by omega) ⟨H,I.tok _,by rw [jeL r]; exact q⟩
 | _=>exact (show False from e).elim
theorem jf3 (ha:PE X a ta)(he:∀ whole,isTrue a X.env whole=(do let v <- whole; standAt a.pos; holding [v] (truthy v))) :
  PT X a (fun σ H Q=>ta σ H fun x H'=>∃ k,TruV X.K x H' k/\Q k H'):=by
 intro pins s σ H Q I h
 exact isTrue_plain (thn (ha pins s σ H _ I h) fun v s1 ⟨x,H1,I1,r1,q1⟩=>jeV pins s1 σ H1 x v Q I1 r1 q1) (he _)

theorem jeC:OpR X (binaryOp .Add) (fun x y H Q=>∃ i j,x=.str i/\y=.str j/\i.length + j.length<=sizeLine/\Q (.str (i++j)) H):=by
 intro pins s σ H x y v u Q I rx ry h
 obtain ⟨i,j,rfl,rfl,hz,q⟩:=h
 obtain ⟨t,rfl⟩:=rx
 obtain ⟨t',rfl⟩:=ry
 exact add_str (fun t' tk=>⟨.str (i++j),H,I.tok _,⟨_,rfl⟩,q⟩) hz
theorem jcA {x:V}{us:List Value}(r:Vals [x] us):∃ u,us=[u]/\RelV x u:=by
 cases r with
 | cons r1 r2=>cases r2; exact ⟨_,rfl,r1⟩
theorem jkq {x y:V}{us:List Value}(r:Vals [x,y] us):∃ u w',us=[u,w']/\RelV x u/\RelV y w':=by
 cases r with
 | cons r1 r2=>
  cases r2 with
  | cons r3 r4=>cases r4; exact ⟨_,_,rfl,r1,r3⟩
theorem jfH (hc:X.calm=true):jaM X (.builtin "min") (fun xs H Q=>∃ i j,xs=[.int i,.int j]/\Q (.int (if j < i then j else i)) H):=by
 intro pins s σ H xs us Q I r h
 obtain ⟨i,j,rfl,q⟩:=h
 obtain ⟨u,w',rfl,⟨t,rfl⟩,⟨t',rfl⟩⟩:=jkq r
 refine min_two_ints (I.ok.hd hc) fun h' tk k=>⟨_,H,I.kept k,?_,q⟩
 by_cases hj:j < i
 ·rw [if_pos hj,if_pos hj]; exact ⟨_,rfl⟩
 ·rw [if_neg hj,if_neg hj]; exact ⟨_,rfl⟩
theorem jfM:jaM X (.type "int") (fun xs H Q=>(∃ i,xs=[.int i]/\Q (.int i) H)\/∃ k,xs=[.bl k]/\Q (.int (if k then 1 else 0)) H):=by
 intro pins s σ H xs us Q I r h
 rcases h with ⟨i,rfl,q⟩ | ⟨k,rfl,q⟩
 ·obtain ⟨u,rfl,t,rfl⟩:=jcA r
  exact call_int_int ⟨.int i,H,I,⟨_,rfl⟩,q⟩
 ·obtain ⟨u,rfl,r1⟩:=jcA r
  cases r1
  exact call_int_bool ⟨.int (if k then 1 else 0),H,I.tok _,⟨_,rfl⟩,q⟩
noncomputable def LenV (K:PySem.W.Frag)(x:V)(H:Hp)(n:Nat):Prop:=
 match x with
 | .str y=>y.length<=sizeLine/\n=y.length
 | .byt y=>y.size<=sizeLine/\n=y.size
 | .ref p=>(∃ xs,SqL K H p xs/\n=xs.length)\/∃ xs,SqT K H p xs/\n=xs.length
 | _=>False
theorem jgt:jaM X (.builtin "len") (fun xs H Q=>∃ x n,xs=[x]/\LenV X.K x H n/\Q (.int n) H):=by
 intro pins s σ H xs us Q I r h
 obtain ⟨x,n,rfl,e,q⟩:=h
 obtain ⟨u,rfl,rx⟩:=jcA r
 have hl:=jcq
 have hs:sizeLine=16777216:=sizeLine_eq
 cases x with
 | str y=>
  obtain ⟨t,rfl⟩:=rx
  obtain ⟨hy,e'⟩:y.length<=sizeLine/\n=y.length:=e
  subst e'
  exact len_str (by omega) ⟨.int _,H,I.tok _,⟨_,rfl⟩,q⟩
 | byt y=>
  obtain ⟨t,rfl⟩:=rx
  obtain ⟨hy,e'⟩:y.size<=sizeLine/\n=y.size:=e
  subst e'
  exact PySem.W.len_bytes (by omega) ⟨.int _,H,I.tok _,⟨_,rfl⟩,q⟩
 | ref p=>
  cases rx
  have e':(∃ xs,SqL X.K H p xs/\n=xs.length)\/∃ xs,SqT X.K H p xs/\n=xs.length:=e
  rcases e' with ⟨xs,hx,e'⟩ | ⟨xs,hx,e'⟩
  ·subst e'
   obtain ⟨its,r',pl,hz⟩:=I.list hx
   have hlen:=r'.length
   exact Calls.call_len_list pl.isList (by simp only [List.size_toArray]; omega) ⟨.int xs.length,H,I.tok _,⟨_,by simp only [List.size_toArray]; rw [hlen]⟩,q⟩
  ·subst e'
   obtain ⟨its,r',pl,hz⟩:=I.tuple hx
   have hlen:=r'.length
   exact len_tuple pl (by simp only [List.size_toArray]; omega) ⟨.int xs.length,H,I.tok _,⟨_,by simp only [List.size_toArray]; rw [hlen]⟩,q⟩
 | _=>exact (show False from e).elim
end

structure ObjM (h:Heap)(x dx C:Addr)(mA:Str->Option Value):Prop where
 obj:h.get? x=some (PySem.W.instObj C dx)
 ns:h.Ns1 dx mA
 ne:dx≠x

section
variable {prog:Program}{w:World}{A:Around}{E:Value->Shared->Prop}{s:Shared}{K:PySem.W.Frag}{x dx C f:Addr}{mA:Str->Option Value}{name:Str}{v:Value}

end

noncomputable def putF (f:Str)(v:V):List (Str×V)->List (Str×V)
 | []=>[(f,v)]
 | (g,x)::r=>if g=f then (g,v)::r else (g,x)::putF f v r
theorem jbY (f g:Str)(v:V):∀ fs:List (Str×V),(putF f v fs).lookup g=if g=f then some v else fs.lookup g
 | []=>by
  show List.lookup g [(f,v)]=_
  by_cases h:g=f
  ·have hb:(g == f)=true:=beq_iff_eq.mpr h
   simp only [List.lookup,hb,if_pos h]
  ·have hb:(g == f)=false:=beq_eq_false_iff_ne.mpr h
   simp only [List.lookup,hb,if_neg h]
 | (k,x)::r=>by
  have ih:=jbY f g v r
  rw [show putF f v ((k,x)::r)=(if k=f then (k,v)::r else (k,x)::putF f v r) from rfl]
  by_cases hk:k=f
  ·rw [if_pos hk]
   by_cases h:g=k
   ·have hb:(g == k)=true:=beq_iff_eq.mpr h
    simp only [List.lookup,hb,if_pos (h.trans hk)]
   ·have hb:(g == k)=false:=beq_eq_false_iff_ne.mpr h
    simp only [List.lookup,hb,if_neg (fun e:g=f=>h (e.trans hk.symm))]
  ·rw [if_neg hk]
   by_cases h:g=k
   ·have hb:(g == k)=true:=beq_iff_eq.mpr h
    simp only [List.lookup,hb,if_neg (fun e:g=f=>hk (h.symm.trans e))]
   ·have hb:(g == k)=false:=beq_eq_false_iff_ne.mpr h
    simp only [List.lookup,hb]
    exact ih
theorem RelO.some_of {v:V}{o:Option Value}(r:RelO (some v) o):∃ u,o=some u/\RelV v u:=by
 cases o with
 | none=>exact (show False from r).elim
 | some u=>exact ⟨u,rfl,r⟩
theorem RelO.none_of {o:Option Value}(r:RelO none o):o=none:=by
 cases o with
 | none=>rfl
 | some u=>exact (show False from r).elim
section
variable {P:Program}{w:World}{H H':Hp}{h h':Heap}{a C dx:Addr}{fs fs':List (Str×V)}
end

structure Cls (K:PySem.W.Frag)(C:Addr):Prop where
 pg:PySem.W.plainGet K C Str.empty=true
 hd:PySem.W.hasDictIn K C=true
 po:PySem.W.plainOver K C=true
 sa:PySem.W.findIn K (.ref C) "__setattr__" = some (some (.builtin "object.__setattr__"))
structure Con (K:PySem.W.Frag)(C:Addr)(f:Str)(v:V)(u:Value):Prop where
 at_:PySem.W.findIn K (.ref C) f=some (some u)
 rel:RelV v u
 get:PySem.W.specialIn K u "__get__" = some none
 cp:PySem.W.copiedNames.contains f=false
structure Meth (K:PySem.W.Frag)(C:Addr)(m:Str)(f:Addr):Prop where
 at_:PySem.W.findIn K (.ref C) m=some (some (.ref f))
 fn:PySem.W.isFn K (.ref f)=true
 kp:PySem.W.keepIn K (.ref f)=true

section
variable {X:Cx}{pins:List (Addr×Obj)}{σ:St}{H:Hp}{s:Shared}{a C dx:Addr}{fs:List (Str×V)}{f:Str}{v:V}{A:Around}{E:Value->Shared->Prop}

theorem jik {prog:Program}{w:World}{env:Env}{e:Expr}{f:Str}{pos:Pos}{s:Shared}{Q:Value->Shared->Prop}(hb:attributeBase e f env (eval e env)=eval e env)
  (h:wpAny (model prog w) A (eval e env) (fun o s₁=>wpAny (model prog w) A (getAttr o f true) Q E s₁) E s):wpAny (model prog w) A (eval (.Attribute e f pos) env) Q E s:=
 Attribute_any_ h (by rw [arm_eval_Attribute,hb])
end

section
variable {X:Cx}{o e value:Expr}{f:Str}{pos pos' tpos:Pos}{ta tv:TE}
end

section
variable {X:Cx}{pins:List (Addr×Obj)}{σ:St}{H:Hp}{s:Shared}{A:Around}{E:Value->Shared->Prop}{Q:Value->Shared->Prop}{c:Value}{b:Bool}
inductive TyOf (K : PySem.W.Frag)(H : Hp) : V -> Value -> Prop where
  | non : TyOf K H .non (.type "NoneType")
  | bl (x : Bool) : TyOf K H (.bl x) (.type "bool")
  | int (i : Int) : TyOf K H (.int i) (.type "int")
  | str (x : Str) : TyOf K H (.str x) (.type "str")
  | flt (x : UInt64) : TyOf K H (.flt x) (.type "float")
  | lst {a : Addr} {xs : List V} (e : H a = some (.lst xs)) : TyOf K H (.ref a) (.type "list")
  | frz {a : Addr} {o : Obj} {xs : List V} (e : H a = some (.frz o (.lst xs))) : TyOf K H (.ref a) (.type "list")
  | tup {a : Addr} {xs : List V} (e : H a = some (.tup xs)) : TyOf K H (.ref a) (.type "tuple")
  | dK {a : Addr} {kvs : List (Key × V)} (e : H a = some (.dK kvs)) : TyOf K H (.ref a) (.type "dict")
  | dT {a : Addr} {kvs : List (List Key × V)} (e : H a = some (.dT kvs)) : TyOf K H (.ref a) (.type "dict")
  | ins {a C dx : Addr} {fs : List (Str × V)} (e : H a = some (.ins C dx fs)) (cl : Cls K C) (ha : PySem.W.findIn K (.ref C) "__class__" = some (some (.builtin "object.__class__")))
      (hn : PySem.W.specialIn K (.builtin "object.__class__") "__get__" = some (some (.builtin "getset_descriptor.__get__"))) (htk : PySem.W.takesIn K (.builtin "object.__class__") = some true)
      (hm : PySem.W.mroIn K C (.type "object") = some true) : TyOf K H (.ref a) (.ref C)
end

structure Room (k:Nat)(A:Around):Prop where
 hd:A.handled=none
 dp:A.depth + k + 20 < recursionLimit
 un:A.units + 8 * k + 200 < cLine
 gd:A.guards=some []
theorem Room.mono {j k:Nat}{A:Around}(r:Room k A)(h:j<=k):Room j A:=⟨r.hd,by have:=r.dp; omega,by have:=r.un; omega,r.gd⟩
theorem Room.deeper {k:Nat}{A:Around}(r:Room (k + 1) A)(env:Env):Room k (A.deeper env):=
 ⟨r.hd,by have:=r.dp; show A.depth + 1 + k + 20 < _; omega,by have:=r.un; show A.units + 3 + 8 * k + 200 < _; omega,r.gd⟩
theorem jeI {A:Around}{C:Addr}{us:List Value}{kw:List (Str×Value)}:(A.under (.builtin "type.__call__" ⟨.ref C::us,kw⟩)).depth=A.depth + 1:=by
 first | rfl | simp [Around.under,Code.weight,Code.isCreation,Code.isGuard,Code.isCaller,Code.frames,Code.isFrame,guardIds]
theorem jeH {A:Around}{C:Addr}{us:List Value}{kw:List (Str×Value)}:(A.under (.builtin "type.__call__" ⟨.ref C::us,kw⟩)).units=A.units + 1:=by
 first | rfl | simp [Around.under,Code.cUnits,Code.frames,Code.isFrame]
theorem Room.make {k:Nat}{A:Around}(r:Room (k + 1) A)(C:Addr)(us:List Value)(kw:List (Str×Value)):Room k (A.under (.builtin "type.__call__" ⟨.ref C::us,kw⟩)):=
 ⟨r.hd,by have:=r.dp; rw [jeI]; omega,by have:=r.un; rw [jeH]; omega,r.gd⟩
theorem Room.depth {k:Nat}{A:Around}(r:Room k A):A.depth < recursionLimit:=by have:=r.dp; omega
theorem Room.units {k:Nat}{A:Around}(r:Room k A):A.units + 64 < cLine:=by have:=r.un; omega
theorem Room.units0 {k:Nat}{A:Around}(r:Room k A):A.units < cLine:=by have:=r.un; omega

noncomputable def tNil:TA:=fun _ H Q=>Q [] H
noncomputable def jkR (ta:TE)(tr:TA):TA:=fun σ H Q=>ta σ H fun x H1=>tr σ H1 fun xs H2=>Q (x::xs) H2
section
variable {X:Cx}{e:Expr}{es:List Expr}{te:TE}{t:TA}{pos:Pos}
theorem jcm:PA X [] tNil:=fun _ _ _ _ H Q I h=>Calls.spliced_nil ⟨[],H,I,.nil,h⟩
theorem jaN (ha:PE X e te)(hr:PA X es t)(hs:starEach (e::es) X.env=(false,eval e X.env)::starEach es X.env:=by rfl):PA X (e::es) (jkR te t):=by
 intro pos pins s σ H Q I h
 rw [hs]
 show wpAny _ _ (spliced ((false,eval e X.env)::backTo pos (starEach es X.env))) _ _ s
 refine Calls.spliced_cons (thn (ha pins s σ H _ I h) fun u s1 ⟨x,H1,I1,r1,q1⟩=>?_)
 exact thn (hr pos pins s1 σ H1 _ I1 q1) fun us s2 ⟨xs,H2,I2,r2,q2⟩=>⟨x::xs,H2,I2,.cons r1 r2,q2⟩

noncomputable def tTup (t:TA):TE:=fun σ H Q=>t σ H fun xs H1=>xs.length<=sizeLine/\∀ p,H1 p=none->Q (.ref p) (upd H1 p (.tup xs))
noncomputable def tLst (t:TA):TE:=fun σ H Q=>t σ H fun xs H1=>xs.length<=sizeLine/\∀ p,H1 p=none->Q (.ref p) (upd H1 p (.lst xs))
theorem jfd {x1}(h:PA X es t):PE X (.Tuple es x1 pos) (tTup t):=by
 intro pins s σ H Q I hq
 refine wpAny_Tuple_spliced (thn (h pos pins s σ H _ I hq) fun us s1 ⟨xs,H1,I1,r,z,q⟩=>⟨by rw [<- r.length]; exact z,?_⟩)
 have hf:H1 s1.heap.objs.size=none:=I1.hok.fresh (Nat.le_refl _)
 refine ⟨.ref s1.heap.objs.size,upd H1 s1.heap.objs.size (.tup xs),I1.laid (t':=s1.toks) (fun b u e=>Heap.get?_push_of_some _ e) (Nat.le_refl _) ?_,rfl,q _ hf⟩
 exact ⟨z,us,r,⟨_,Heap.get?_push_size _ rfl,rfl,_,rfl,rfl⟩⟩
theorem jgG (h:PA X es t):PE X (.List es pos) (tLst t):=by
 intro pins s σ H Q I hq
 refine wpAny_List_spliced (thn (h pos pins s σ H _ I hq) fun us s1 ⟨xs,H1,I1,r,z,q⟩=>⟨by rw [<- r.length]; exact z,?_⟩)
 have hf:H1 s1.heap.objs.size=none:=I1.hok.fresh (Nat.le_refl _)
 refine ⟨.ref s1.heap.objs.size,upd H1 s1.heap.objs.size (.lst xs),I1.laid (t':=s1.toks) (fun b u e=>Heap.get?_push_of_some _ e) (Nat.le_refl _) ?_,rfl,q _ hf⟩
 exact ⟨z,us,0,r,Heap.get?_push_size _ rfl⟩
end

noncomputable abbrev Sp:=List V->Hp->VK->XK->Prop
noncomputable abbrev CXT:=List Env->Hp->Shared->XK->Value->Shared->Prop

structure Env0 (P:Program)(w:World)(K:PySem.W.Frag)(mg:Str->Option Value)(base:Heap)(A:Around)(outer:List Env)(s:Shared)(H:Hp):Prop where
 frames:A.frames=some outer
 mod:Mod K mg base
 bs:∀ b o,base.get? b=some o->s.heap.get? b=some o/\H b=none
 bsz:base.objs.size<=s.heap.objs.size
 funs:s.heap.FunFrames base outer
 frf:∀ b∈frs outer,H b=none
 hok:HOk P w H s.heap
 bare:AllBare s.gens
noncomputable def CE (outer:List Env)(P:Program)(w:World)(H:Hp)(s:Shared)(Q:VK)(u:Value)(s':Shared):Prop:=
 ∃ v H',s'.os=s.os/\AllBare s'.gens/\Un (frs outer) [] H H' s.heap s'.heap/\HOk P w H' s'.heap/\RelV v u/\Q v H'
noncomputable def CR (CX:CXT)(outer:List Env)(P:Program)(w:World)(H:Hp)(s:Shared)(Q:VK)(E:XK)(r:Result)(s':Shared):Prop:=
 match r with
 | .ok (.ret u)=>CE outer P w H s Q u s'
 | .ok _=>False
 | .error e=>CX outer H s E e s'
structure FnOk (P:Program)(w:World)(K:PySem.W.Frag)(mg:Str->Option Value)(base:Heap)(CX:CXT)(k:Nat)(f:Addr)(fd:FuncData)(ps:List Str)(sp:Sp):Prop where
 len:∀ vs H Q E,sp vs H Q E->vs.length=ps.length
 run:∀ (A:Around) (outer:List Env) (s:Shared) (H:Hp) (args:Args) (us:List Value) (vs:List V) (Q:VK) (E:XK),Room k A->Env0 P w K mg base A outer s H->BindsTo s fd args (ps.zip us)->Vals vs us->sp vs H Q E->
  codeAny (model P w) A (.call (.ref f) args) (CR CX outer P w H s Q E) s
theorem Env0.make {P:Program}{w:World}{K:PySem.W.Frag}{mg:Str->Option Value}{base:Heap}{A:Around}{outer:List Env}{s:Shared}{H:Hp}(e:Env0 P w K mg base A outer s H)(C:Addr)(us:List Value)(kw:List (Str×Value)) :
  Env0 P w K mg base (A.under (.builtin "type.__call__" ⟨.ref C::us,kw⟩)) outer s H:=⟨by first | exact e.frames | (simpa [Around.under,Code.envs,Code.isFrame,pushEnvs] using e.frames),e.mod,e.bs,e.bsz,e.funs,e.frf,e.hok,e.bare⟩
section
variable {X:Cx}{pins:List (Addr×Obj)}{σ:St}{H:Hp}{s s':Shared}
theorem Inv.env0 (I:Inv X pins σ H s):Env0 X.prog X.w X.K X.mg X.base X.A X.stack s H:=
 ⟨I.ok.frames,I.ok.mod,I.bs,Nat.le_trans I.ok.bsz I.sz,I.stack,I.stkFree,I.hok,I.bare⟩
theorem Inv.after {Q:VK}{u:Value}(I:Inv X pins σ H s)(h:CE X.stack X.prog X.w H s Q u s'):EP X pins σ Q u s':=by
 obtain ⟨v,H',os,bare,un,hok,r,q⟩:=h
 obtain ⟨hh,g,d,t,os'⟩:=s'
 obtain rfl:os'=s.os:=os
 exact ⟨v,H',I.call (h':=hh) (g':=g) (d':=d) (t':=t) (ch:=[]) un hok bare (fun b z=>absurd z (by simp)),r,q⟩
end

noncomputable def Binds (K:PySem.W.Frag)(fd:FuncData)(ps:List Str)(ds:List Value):Prop:=
 ∀ (s:Shared) (us:List Value),K.In s.heap->(us++ds).length=ps.length->BindsTo s fd ⟨us,[]⟩ (ps.zip (us++ds))
theorem Binds.all {K:PySem.W.Frag}{fd:FuncData}{ps:List Str}(h:∀ us:List Value,us.length=ps.length->bindArgs fd ⟨us,[]⟩=pure (ps.zip us)):Binds K fd ps []:=fun s us _ hl=>by
 rw [List.append_nil] at hl ⊢
 exact .of_eq (h us hl)

section
variable {X:Cx}{CX:CXT}{k:Nat}{f C:Addr}{fd:FuncData}{ps:List Str}{sp:Sp}{dvs:List V}{ds:List Value}{E:XK}{x m:Str}{p pos apos:Pos}{e o:Expr}{es:List Expr}{ta:TE}{t:TA}

structure Mk (K:PySem.W.Frag)(C f:Addr):Prop where
 makes:PySem.W.makesIn K C=true
 init:PySem.W.findIn K (.ref C) "__init__" = some (some (.ref f))
 fn:PySem.W.isFn K (.ref f)=true
 kp:PySem.W.keepIn K (.ref C)=true

end

noncomputable def PK (X:Cx)(kws:List Keyword)(t:TA):Prop:=
 ∀ (pos:Pos) (pins:List (Addr×Obj)) (s:Shared) (σ:St) (H:Hp) (Q:List V->Hp->Prop),Inv X pins σ H s->t σ H Q->wpAny (model X.prog X.w) X.A (evalAll ((backToKw pos (keywordEach kws X.env)).map (·.2))) (AP X pins σ Q) X.xe s
section
variable {X:Cx}{CX:CXT}{k:Nat}{f C:Addr}{fd:FuncData}{ps ks:List Str}{sp:Sp}{E:XK}{x m:Str}{p pos apos kpos:Pos}{e o:Expr}{es:List Expr}{kws:List Keyword}{te ta:TE}{t tk:TA}{nm:Option Str}
theorem pk_nil:PK X [] tNil:=fun _ _ _ _ H Q I h=>wpAny_evalAll_nil ⟨[],H,I,.nil,h⟩
structure KBinds (K:PySem.W.Frag)(fd:FuncData)(ps ks:List Str)(g:List Value->List Value->List Value)(gV:List V->List V->List V):Prop where
 to:∀ (s:Shared) (us ws:List Value),K.In s.heap->(g us ws).length=ps.length->BindsTo s fd ⟨us,ks.zip ws⟩ (ps.zip (g us ws))
 rel:∀ {vs:List V} {us:List Value} {zs:List V} {ws:List Value},Vals vs us->Vals zs ws->Vals (gV vs zs) (g us ws)
variable {g:List Value->List Value->List Value}{gV:List V->List V->List V}
end

structure FnScope (N P:List Str)(sc:Scope):Prop where
 kind:sc.kind=.function
 co:sc.isCoroutine=false
 gen:sc.isGenerator=false
 nd:N.Nodup
 pre:N.take P.length=P
 par:∀ x∈P,sc.names.lookup x=some .local\/sc.names.lookup x=some .cell
 nofree:∀ y∈sc.names,y.2≠.free

theorem jdq {kindOf:Str->Option NameKind}{x:Str}:∀ {binds:List (Str×Value)} {m:Str->Option Value},(∀ v,(x,v)∉binds)->bindL kindOf binds m x=m x
 | [],_,_=>rfl
 | (n,v)::r,m,h=>by
  unfold bindL
  rw [jdq fun w hw=>h w (List.mem_cons_of_mem _ hw)]
  split
  ·have:x≠n:=by rintro rfl; exact h v List.mem_cons_self
   simp [this]
  ·rfl
theorem jds {kindOf:Str->Option NameKind}{x:Str}:∀ {binds:List (Str×Value)} {m:Str->Option Value},(∀ v,(x,v)∉binds)->bindC kindOf binds m x=m x
 | [],_,_=>rfl
 | (n,v)::r,m,h=>by
  unfold bindC
  rw [jds fun w hw=>h w (List.mem_cons_of_mem _ hw)]
  split
  ·rfl
  ·have:x≠n:=by rintro rfl; exact h v List.mem_cons_self
   simp [this]
theorem jdr {kindOf:Str->Option NameKind}{x:Str}{v:Value}:∀ {P:List Str} {vs:List Value} {i:Nat} {m:Str->Option Value},P.Nodup->P[i]?=some x->vs[i]?=some v->kindOf x=some .local->
  bindL kindOf (P.zip vs) m x=some v
 | [],_,_,_,_,h,_,_=>by simp at h
 | _::_,[],_,_,_,_,h,_=>by simp at h
 | p::P,w::vs,0,m,nd,h1,h2,hk=>by
  simp at h1 h2; subst h1; subst h2
  show bindL kindOf ((p,w)::P.zip vs) m p=_
  unfold bindL
  rw [jdq fun v hv=>(List.nodup_cons.mp nd).1 (List.of_mem_zip hv).1,if_pos hk]
  simp
 | p::P,w::vs,i + 1,m,nd,h1,h2,hk=>by
  show bindL kindOf ((p,w)::P.zip vs) m x=_
  unfold bindL
  exact jdr (i:=i) (List.nodup_cons.mp nd).2 (by simpa using h1) (by simpa using h2) hk
theorem jdt {kindOf:Str->Option NameKind}{x:Str}{v:Value}:∀ {P:List Str} {vs:List Value} {i:Nat} {m:Str->Option Value},P.Nodup->P[i]?=some x->vs[i]?=some v->kindOf x≠some .local->
  bindC kindOf (P.zip vs) m x=some v
 | [],_,_,_,_,h,_,_=>by simp at h
 | _::_,[],_,_,_,_,h,_=>by simp at h
 | p::P,w::vs,0,m,nd,h1,h2,hk=>by
  simp at h1 h2; subst h1; subst h2
  show bindC kindOf ((p,w)::P.zip vs) m p=_
  unfold bindC
  rw [jds fun v hv=>(List.nodup_cons.mp nd).1 (List.of_mem_zip hv).1,if_neg hk]
  simp
 | p::P,w::vs,i + 1,m,nd,h1,h2,hk=>by
  show bindC kindOf ((p,w)::P.zip vs) m x=_
  unfold bindC
  exact jdt (i:=i) (List.nodup_cons.mp nd).2 (by simpa using h1) (by simpa using h2) hk

noncomputable def start (N:List Str)(vs:List V):St:=vs.map some++List.replicate (N.length - vs.length) none

noncomputable def cxOf (CX:CXT)(P:Program)(w:World)(K:PySem.W.Frag)(mg:Str->Option Value)(base:Heap)(N:List Str)(qual:Str)(scope:Scope)(f:Addr)(cd:Value)(A:Around)(outer:List Env)(s:Shared)(H:Hp)(E:XK):Cx where
 prog:=P
 w:=w
 K:=K
 mg:=mg
 base:=base
 A:=A.deeper (envOfC qual scope s.heap.objs.size f cd)
 N:=N
 s₀:=s
 H₀:=H
 env:=envOfC qual scope s.heap.objs.size f cd
 outer:=outer
 stack:=envOfC qual scope s.heap.objs.size f cd::outer
 ex:=[]
 calm:=true
 fn:=fun _=>true
 pn:=[]
 xe:=fun e s'=>wpAny (model P w) (A.deeper (envOfC qual scope s.heap.objs.size f cd)) (leaving (envOfC qual scope s.heap.objs.size f cd) e) (fun _ s''=>CX outer H s E e s'') (fun e' s''=>CX outer H s E e' s'') s'

theorem jcQ {sc:Scope}{n:Nat}{x:Str}(h:sc.names.lookup x=some .cell):∃ c,(cellsFrom n sc.names []).lookup x=some c:=by
 have q:=PySem.W.cellsFrom_some sc.names n [] (.inl h)
 exact Option.isSome_iff_exists.mp q

theorem jdf {CX : CXT}{P : Program}{w : World}{K : PySem.W.Frag}{mg : Str -> Option Value}{base : Heap}{N ps : List Str}{qual : Str}{scope : Scope}{f : Addr}{cd : Value}{A : Around}{outer : List Env}{s s1 : Shared}{H : Hp}{E : XK}{us : List Value}{vs : List V}
    (S : FnScope N ps scope) (hd : A.handled = none) (e0 : Env0 P w K mg base A outer s H) (hl : vs.length = ps.length) (r : Vals vs us)
    (x : InCallC s s.heap.objs.size (bindL (envOfC qual scope s.heap.objs.size f cd).kindOf (ps.zip us) fun _ => none) (cellsFrom (s.heap.objs.size + 1) scope.names []) (bindC (envOfC qual scope s.heap.objs.size f cd).kindOf (ps.zip us) fun _ => none) s1) :
    Inv (cxOf CX P w K mg base N qual scope f cd A outer s H E) [] (start N vs) H s1 := by
  have hpl : ps.length <= N.length := by have := congrArg List.length S.pre; rw [List.length_take] at this; omega
  obtain ⟨h1, tk, rfl, hk⟩ := x.done
  have noA : ∀ b : Addr, b ∉ (cxOf CX P w K mg base N qual scope f cd A outer s H E).ex := fun b z => absurd (show b ∈ ([] : List Addr) from z) (by simp)
  refine ⟨⟨e0.mod, S.kind, rfl, rfl, Nat.le_refl _, fun y z c h1 h2 => ?_, fun y hy => ?_, fun y c _ h => ?_, fun _ => hd, Around.frames_deeper e0.frames, .inr ⟨rfl, rfl⟩, fun b z => absurd z (noA b), e0.bs, e0.bsz, fun b _ _ => noA b, fun b z => absurd z (noA b), e0.funs, e0.frf⟩,
    rfl, e0.bare, Un.kept hk, ⟨_, x.toInCall.ns, fun i y v h1 h2 h3 => ?_⟩, fun y c h => ⟨_, x.cell y c h⟩, e0.hok.fresh (Nat.le_refl _), fun y c h => ?_, fun p hp => absurd (show p ∈ ([] : List (Addr × Obj)) from hp) (by simp), e0.hok.kept hk, ?_⟩
  · exact name_of_addr x.apart (PySem.mem_of_lookup h1) (PySem.mem_of_lookup h2)
  · have hy : scope.names.lookup y = some .cell \/ scope.names.lookup y = some .free := hy
    rcases hy with hy | hy
    · exact jcQ hy
    · exact absurd rfl (S.nofree _ (PySem.mem_of_lookup hy))
  · exact Nat.le_of_lt (x.above y c (PySem.mem_of_lookup h))
  · have hi : i < vs.length := by
      unfold start at h2
      by_cases hi : i < vs.length
      · exact hi
      · rw [List.getElem?_append_right (by simpa using hi)] at h2
        rw [List.getElem?_replicate] at h2
        split at h2 <;> cases h2
    have ha : vs[i]? = some v := by
      unfold start at h2
      rw [List.getElem?_append_left (by simpa using hi), List.getElem?_map] at h2
      cases e : vs[i]? with
      | none => rw [e] at h2; cases h2
      | some a => rw [e] at h2; cases h2; rfl
    obtain ⟨u, hu, rv⟩ := r.get ha
    have hp : ps[i]? = some y := by
      rw [<- S.pre, List.getElem?_take_of_lt (by omega)]; exact h1
    have ndP : ps.Nodup := by rw [<- S.pre]; exact S.nd.sublist (List.take_sublist _ _)
    refine ⟨u, rv, ?_⟩
    rcases S.par y (List.mem_of_getElem? hp) with k | k
    · exact .inl ⟨k, jdr ndP hp hu k⟩
    · obtain ⟨c, e⟩ := jcQ (n := s.heap.objs.size + 1) k
      refine .inr ⟨.inl k, c, e, ?_⟩
      have q := x.cell y c e
      rw [jdt ndP hp hu (by show scope.names.lookup y ≠ _; rw [k]; decide)] at q
      exact q
  · exact e0.hok.fresh (Nat.le_of_lt (x.above y c (PySem.mem_of_lookup h)))
  · unfold start
    show _ = N.length
    rw [List.length_append, List.length_map, List.length_replicate]
    omega

theorem jlp {CX:CXT}{P:Program}{w:World}{K:PySem.W.Frag}{mg:Str->Option Value}{base:Heap}{k:Nat}{f:Addr}{name qual:Str}{params:Arguments}{body:List Stmt}{scope:Scope}{dV kV doc pm cdv ct oc:Value}{an od:Option Addr}
  {osl:Array (Option Value)} {N ps:List Str} {sp:Sp} (lk:K.lookup f=some ⟨oc,od,.func (PySem.W.fnOf name qual params body scope dV kV doc pm an cdv ct),osl⟩) (hcd:PySem.W.codeIn K cdv qual=true) (S:FnScope N ps scope)
  (len:∀ vs H Q E,sp vs H Q E->vs.length=ps.length)
  (hbody:∀ (A:Around) (outer:List Env) (s:Shared) (H:Hp) (vs:List V) (Q:VK) (E:XK),Room k (A.deeper (envOfC qual scope s.heap.objs.size f cdv))->sp vs H Q E->
   ∃ t,PSs (cxOf CX P w K mg base N qual scope f cdv A outer s H E) body t/\t { nx:=fun _ H'=>Q .non H',rt:=Q } (start N vs) H) :
  FnOk P w K mg base CX (k + 1) f (PySem.W.fnOf name qual params body scope dV kV doc pm an cdv ct) ps sp:=by
 refine ⟨len,fun A outer s H args us vs Q E hr e0 hb r hsp=>?_⟩
 have hl:=len _ _ _ _ hsp
 have KX:K.In s.heap:=e0.mod.kin.keeps fun b o e=>(e0.bs b o e).1
 have lim:s.heap.NoLimit:=e0.mod.nolimit.keeps fun b o e=>(e0.bs b o e).1
 have hkind:∀ y∈ps.zip us,scope.names.lookup y.1=some .local\/(scope.names.lookup y.1=some .cell/\((cellsFrom (s.heap.objs.size + 1) scope.names []).lookup y.1).isSome=true):=fun ⟨n,v⟩ hy=>by
  rcases S.par n (List.of_mem_zip hy).1 with q | q
  ·exact .inl q
  ·exact .inr ⟨q,PySem.W.cellsFrom_some _ _ _ (.inl q)⟩
 refine codeAny_call_function hr.depth (KX _ _ lk) rfl S.co S.gen rfl (PySem.W.codeRec_of KX hcd) (hb _ _ _ _ ?_)
 refine wpAny_newFunctionEnv_cells S.kind hkind fun env he s1 x=>?_
 subst he
 refine ⟨lim.keeps x.toInCall.keep,codeAny_func ?_⟩
 obtain ⟨t,ht,hq⟩:=hbody A outer s H vs Q E (hr.deeper _) hsp
 have I:Inv (cxOf CX P w K mg base N qual scope f cdv A outer s H E) [] (start N vs) H s1:=jdf S hr.hd e0 hl r x
 refine wpAny_mono (ht [] s1 (start N vs) H _ I hq) (fun fl s' hs=>?_) fun e s' hs=>hs
 have fin:∀ {σ':St} {H':Hp} {v:V} {u:Value},Inv (cxOf CX P w K mg base N qual scope f cdv A outer s H E) [] σ' H' s'->RelV v u->Q v H'->CE outer P w H s Q u s':=
  fun {σ' H' v u} J rv q=>⟨v,H',J.os,J.bare,J.base,J.hok,rv,q⟩
 cases fl with
 | ret u=>
  obtain ⟨v,σ',H',J,rv,q⟩:=hs
  exact fin J rv q
 | next=>
  obtain ⟨σ',H',J,q⟩:=hs
  exact fin (v:=V.non) (u:=Value.none) J rfl q
 | brk=>
  obtain ⟨_,_,_,q⟩:=hs
  exact False.elim q
 | cont=>
  obtain ⟨_,_,_,q⟩:=hs
  exact False.elim q
section
variable {X:Cx}{x:Str}{p pos:Pos}{e:Expr}{es:List Expr}{t:TA}{id T:String}{r:List V->Hp->VK->Prop}

noncomputable def tCB (r:List V->Hp->VK->Prop)(t:TA):TE:=fun σ H Q=>t σ H fun vs H1=>r vs H1 Q
theorem jbI (hc:jaM X (.builtin id) r)(hg:Gl X x)(hm:X.mg x=none)(hv:bootBuiltins x=some (.builtin id))(ha:PA X (e::es) t)(hn:x ≠ "__name__" := by decide)(hdb:(x == ("__debug__" : Str))=false:=by decide)
  (he:starEach (e::es) X.env=(false,eval e X.env)::starEach es X.env:=by rfl) (hpl:(backTo pos (starEach es X.env)).any (·.1)=false:=by rfl):PE X (.Call (.Name x p) (e::es) [] pos) (tCB r t):=by
 intro pins s σ H Q I h
 refine wpAny_Call_Name_kw (jei I hg hm hv ?_ hn hdb)
 exact PyProof.Rows.callWith_builtin1 (thn (ha pos pins s σ H _ I h) fun us s1 ⟨vs,H1,I1,r1,q1⟩=>hc pins s1 σ H1 vs us Q I1 r1 q1) he hpl
theorem jbN (hc:jaM X (.type T) r)(hg:Gl X x)(hm:X.mg x=none)(hv:bootBuiltins x=some (.type T))(ha:PA X (e::es) t)(hn:x ≠ "__name__" := by decide)(hdb:(x == ("__debug__" : Str))=false:=by decide)
  (he:starEach (e::es) X.env=(false,eval e X.env)::starEach es X.env:=by rfl) (hpl:(backTo pos (starEach es X.env)).any (·.1)=false:=by rfl):PE X (.Call (.Name x p) (e::es) [] pos) (tCB r t):=by
 intro pins s σ H Q I h
 refine wpAny_Call_Name_kw (jei I hg hm hv ?_ hn hdb)
 exact PyProof.Rows.callWith_type1 (thn (ha pos pins s σ H _ I h) fun us s1 ⟨vs,H1,I1,r1,q1⟩=>hc pins s1 σ H1 vs us Q I1 r1 q1) he hpl
end
end L2

namespace HT
open PySem PyProof.Rows

noncomputable def lexLt:List Int->List Int->Bool
 | [],[]=>false
 | [],_::_=>true
 | _::_,[]=>false
 | x::xs,y::ys=>if x=y then lexLt xs ys else decide (x < y)
section
open PySem.SeqAt
open PySem.AutoSeq1 (wpAny_loadPart')
open PySem.MeetsSeq PySem.MeetsSeq2 PySem.MeetsSeq3

end

section
variable {prog:Program}{w:World}{A:Around}{E:Value->Shared->Prop}{s:Shared}

theorem cat_tup {t b : Addr}{vs ws : List Value}{Q : Value -> Shared -> Prop}(ht : IsTup s.heap t vs.toArray)(hb : IsTup s.heap b ws.toArray)(hv : vs ≠ [])
    (h1 : ws = [] -> Q (.ref t) s) (h2 : ws ≠ [] -> Q (.ref s.heap.objs.size) { s with heap := s.heap.push { cls := .type "tuple", data := .seq (vs ++ ws).toArray } })
    (hsz : vs.length + ws.length <= sizeLine) : wpAny (model prog w) A (binaryOp .Add (.ref t) (.ref b)) Q E s := by
  obtain ⟨⟨cls, dd, data, sl⟩, ho, hc, n, hd⟩ := id ht
  obtain ⟨⟨cls2, dd2, data2, sl2⟩, ho2, hc2, n2, hd2⟩ := id hb
  simp only at hc hd hc2 hd2
  subst hc hd hc2 hd2
  have e : vs.toArray ++ ws.toArray = (vs ++ ws).toArray := by simp
  by_cases hw : ws = []
  · exact concat_meets ⟨_, ho, rfl⟩ ⟨_, ho2, rfl⟩ noFill_tuple_add seq_tuple_add PySem.F.slot_tuple_add PySem.F.entry_tuple_add (PySem.F.args_tuple_add_2 _ _)
      (tuple_addW1 t b vs.toArray ws.toArray n n2 dd dd2 sl sl2 (by simpa using hv) (by simp [hw])) ⟨ho, ho2, h1 hw⟩
  · refine concat_meets ⟨_, ho, rfl⟩ ⟨_, ho2, rfl⟩ noFill_tuple_add seq_tuple_add PySem.F.slot_tuple_add PySem.F.entry_tuple_add (PySem.F.args_tuple_add_2 _ _)
      (tuple_addW2 t b vs.toArray ws.toArray n n2 dd dd2 sl sl2 (by simpa using hv) (by simpa using hw) (by rw [List.size_toArray, List.size_toArray]; exact hsz)) ⟨ho, ho2, ?_⟩
    rw [e]
    exact h2 hw

noncomputable def sIx (n d:Nat):Option Int->Nat
 | none=>d
 | some v=>if v < 0 then (v + (n:Int)).toNat else min v.toNat n
theorem sIx_none (n d:Nat):sIx n d none=d:=rfl
theorem sIx_nat (n d k:Nat):sIx n d (some (k:Int))=min k n:=by
 show (if (k:Int) < 0 then ((k:Int) + (n:Int)).toNat else min (k:Int).toNat n)=min k n
 rw [if_neg (by omega),Int.toNat_natCast]
theorem jiI (n d:Nat)(hd:d<=n)(o:Option Int):sIx n d o<=n:=by
 cases o with
 | none=>exact hd
 | some v=>
  show (if v < 0 then (v + (n:Int)).toNat else min v.toNat n)<=n
  by_cases hv:v < 0
  ·rw [if_pos hv]; omega
  ·rw [if_neg hv]; exact Nat.min_le_right _ _
theorem jfG (v:Int)(n d:Nat):(if v < 0 then max (v + (n:Int)) 0 else min v (n:Int))=((sIx n d (some v):Nat):Int):=by
 show (if v < 0 then max (v + (n:Int)) 0 else min v (n:Int))=(((if v < 0 then (v + (n:Int)).toNat else min v.toNat n):Nat):Int)
 by_cases hv:v < 0
 ·simp only [if_pos hv]; omega
 ·simp only [if_neg hv]; omega
theorem jeQ (lo hi:Option Int)(n:Nat):Builtin.Slice.sliceAdjust lo hi 1 (n:Int)=(((sIx n 0 lo:Nat):Int),((sIx n n hi:Nat):Int)):=by
 have h1:¬ ((1:Int) < 0):=by omega
 unfold Builtin.Slice.sliceAdjust
 simp only [h1,if_false]
 refine Prod.ext ?_ ?_
 ·cases lo with
  | none=>rfl
  | some v=>exact jfG v n 0
 ·cases hi with
  | none=>rfl
  | some v=>exact jfG v n n
theorem jeA (i j:Nat):Builtin.Slice.slicePlaces (i:Int) (j:Int) 1=j - i:=by
 unfold Builtin.Slice.slicePlaces
 have h1:(1:Int) > 0:=by omega
 simp only [h1,if_true,Int.ediv_one]
 split <;> omega
theorem jaK {v:Value}{o:Option Int}{Q:Option Int->Shared->Prop}(p:IsPart v o)(h:Q o s):wpAny (model prog w) A (Builtin.Slice.slicePartIndex v) Q E s:=by
 cases p with
 | none=>exact slicePart_none h
 | int i t=>exact slicePart_int h
theorem jaP {sl:Addr}{vl vu:Value}{lo hi:Option Int}{n:Nat}{Q:Int×Int×Nat->Shared->Prop}(hs:s.heap.IsSliceOf sl vl vu .none)(pl:IsPart vl lo)(pu:IsPart vu hi)
  (h:Q (((sIx n 0 lo:Nat):Int),1,sIx n n hi - sIx n 0 lo) s):wpAny (model prog w) A (Builtin.Slice.sliceApplied (.ref sl) (pure (n:Int))) Q E s:=by
 obtain ⟨os,hos,hcs,hds⟩:=id hs
 unfold Builtin.Slice.sliceApplied Builtin.Slice.sliceFields
 refine wpAny_bind (wpAny_bind (wpAny_field hos hds (x:=vl) rfl (wpAny_bind (wpAny_field hos hds (x:=vu) rfl (wpAny_bind (wpAny_field hos hds (x:=.none) rfl (wpAny_pure ?_)))))))
 refine wpAny_bind (slicePart_none ?_)
 show wpAny _ _ (if ((1:Int) == 0)=true then _ else _) _ _ s
 rw [if_neg (by decide)]
 refine wpAny_bind (jaK pl (wpAny_bind (jaK pu (wpAny_bind (wpAny_pure ?_)))))
 show wpAny _ _ (match Builtin.Slice.sliceAdjust lo hi 1 (n:Int) with | (lo,hi)=>pure (lo,(1:Int),Builtin.Slice.slicePlaces lo hi 1)) _ _ s
 rw [jeQ lo hi n]
 show wpAny _ _ (pure (((sIx n 0 lo:Nat):Int),(1:Int),Builtin.Slice.slicePlaces ((sIx n 0 lo:Nat):Int) ((sIx n n hi:Nat):Int) 1)) _ _ s
 rw [jeA]
 exact wpAny_pure h
theorem jf7 (xs:Array Value)(i k:Nat):((List.range k).filterMap fun (m:Nat)=>xs[((i:Int) + (m:Int) * 1).toNat]?).toArray=((xs.toList.drop i).take k).toArray:=by
 have e:(fun (m:Nat)=>xs[((i:Int) + (m:Int) * 1).toNat]?)=fun m=>xs[i + m]?:=by
  funext m
  have:((i:Int) + (m:Int) * 1).toNat=i + m:=by omega
  rw [this]
 rw [e]
 have:=pick_run xs i k
 rw [List.filterMap_map] at this
 have e2:((fun x=>xs[x]?) ∘ fun x=>i + x)=fun m=>xs[i + m]?:=rfl
 rw [e2] at this
 rw [this]

theorem getItem_tuple_cut {t sl:Addr}{items:Array Value}{vl vu:Value}{lo hi:Option Int}{Q:Value->Shared->Prop}(ht:IsTup s.heap t items)(hs:s.heap.IsSliceOf sl vl vu .none)(pl:IsPart vl lo)(pu:IsPart vu hi)
  (hw:¬ (sIx items.size 0 lo=0/\sIx items.size items.size hi=items.size))
  (h:Q (.ref s.heap.objs.size) { s with heap:=s.heap.push { cls:=.type "tuple",data:=.seq ((items.toList.drop (sIx items.size 0 lo)).take (sIx items.size items.size hi - sIx items.size 0 lo)).toArray } })
  (hsz:items.size<=sizeLine):wpAny (model prog w) A (getItem (.ref t) (.ref sl)) Q E s:=by
 have htake:sizeOk (.seq ((items.toList.drop (sIx items.size 0 lo)).take (sIx items.size items.size hi - sIx items.size 0 lo)).toArray):=by
  show ((items.toList.drop (sIx items.size 0 lo)).take (sIx items.size items.size hi - sIx items.size 0 lo)).toArray.size<=sizeLine
  rw [List.size_toArray,List.length_take,List.length_drop,Array.length_toList]
  omega
 have hj:sIx items.size items.size hi<=items.size:=jiI _ _ (Nat.le_refl _) hi
 obtain ⟨os,hos,hcs,hds⟩:=id hs
 have hTs:s.TypeIs (.ref sl) "slice" := ⟨os,hos,hcs⟩
 unfold getItem
 try with_reducible refine wpAny_holding ?_
 first | refine wpAny_bind (wpAny_pure ?_) | skip
 refine wpAny_bind (wpAny_sequenceKey ht.typeIs (by decide) ?_)
 refine wpAny_bind (wpAny_callSpecial?_slot (name:=Str.ofString "__getitem__") ht.typeIs PyProof.Rows.slot_tuple_getitem
  (wpAny_call_entry PyProof.Rows.slot_tuple_getitem ht.typeIs entry_tuple_getitem ?_ (args_tuple_getitem _ _)))
 show wpAny _ _ (Builtin.Tuple.tupleItemsOf (.ref t) >>= _) _ _ s
 refine wpAny_bind (tupleItemsOf_ ht ?_)
 refine wpAny_bind (wpAny_typeOf hTs ?_)
 rw [if_pos (by decide)]
 refine wpAny_bind (jaP hs pl pu ?_)
 have hno:¬ ((((sIx items.size 0 lo:Nat):Int) == 0 && (1:Int) == 1 && (sIx items.size items.size hi - sIx items.size 0 lo) == items.size)=true):=by
  intro q
  rw [Bool.and_eq_true,Bool.and_eq_true] at q
  have q1:((sIx items.size 0 lo:Nat):Int)=0:=eq_of_beq q.1.1
  have q2:sIx items.size items.size hi - sIx items.size 0 lo=items.size:=eq_of_beq q.2
  exact hw ⟨by omega,by omega⟩
 show wpAny _ _ (if (((sIx items.size 0 lo:Nat):Int) == 0 && (1:Int) == 1 && (sIx items.size items.size hi - sIx items.size 0 lo) == items.size)=true then _ else _) _ _ s
 rw [if_neg hno,jf7]
 first
  | exact wpAny_bind (m:=Builtin.Tuple.tupleExact _) (wpAny_newObj_type (wpAny_pure ⟨_,rfl,wpAny_pure h⟩) htake)
  | exact wpAny_bind (m:=Builtin.Tuple.tupleExact _) (wpAny_newObj_type (wpAny_bind (wpAny_pure (wpAny_pure ⟨_,rfl,wpAny_pure h⟩))) htake)
  | exact wpAny_bind (wpAny_bind (m:=Builtin.Tuple.tupleExact _) (wpAny_newObj_type (wpAny_pure (wpAny_pure ⟨_,rfl,wpAny_pure h⟩)) htake))
  | exact wpAny_bind (wpAny_bind (m:=Builtin.Tuple.tupleExact _) (wpAny_newObj_type (wpAny_pure ⟨_,rfl,wpAny_pure h⟩) htake))
end
end HT

namespace L2
open PySem PySem.Spec PyProof.Rows

noncomputable abbrev TO:=St->Hp->(Option Int->Hp->Prop)->Prop
noncomputable def PO (X:Cx)(e:Option Expr)(t:TO):Prop:=
 ∀ (pins:List (Addr×Obj)) (s:Shared) (σ:St) (H:Hp) (Q:Option Int->Hp->Prop),Inv X pins σ H s->t σ H Q->
  wpAny (model X.prog X.w) X.A (evalPart e X.env) (fun u s'=>∃ o H',Inv X pins σ H' s'/\IsPart u o/\Q o H') X.xe s
noncomputable def jha:TO:=fun _ H Q=>Q none H
noncomputable def jkL (t:TE):TO:=fun σ H Q=>t σ H fun x H1=>∃ i,x=.int i/\Q (some i) H1

section
variable {X:Cx}{e:Expr}{te:TE}{lo hi:Option Expr}{tl th:TO}{pos p2:Pos}

theorem jhs:PO X none jha:=by
 intro pins s σ H Q I h
 rw [evalPart_none]
 exact wpAny_pure ⟨none,H,I,.none,h⟩
theorem jhr (h:PE X e te):PO X (some e) (jkL te):=by
 intro pins s σ H Q I hw
 rw [evalPart_some]
 refine thn (h pins s σ H _ I hw) fun u s1 ⟨x,H1,I1,r1,q1⟩=>?_
 obtain ⟨i,rfl,q⟩:=q1
 obtain ⟨t,rfl⟩:=r1
 exact ⟨some i,H1,I1,.int i t,q⟩

noncomputable def SlR (X:Cx)(r:V->Option Int->Option Int->Hp->VK->Prop):Prop:=
 ∀ (pins:List (Addr×Obj)) (s:Shared) (σ:St) (H:Hp) (x:V) (v vl vu:Value) (lo hi:Option Int) (sl:Addr) (Q:VK),Inv X pins σ H s->RelV x v->s.heap.IsSliceOf sl vl vu .none->IsPart vl lo->IsPart vu hi->r x lo hi H Q->
  ∃ T id,typeLookup (.type T) "__getitem__" = pure (some (.builtin id))/\s.TypeIs v T/\wpAny (model X.prog X.w) X.A (getItem v (.ref sl)) (EP X pins σ Q) X.xe s
theorem SlR.or {r r':V->Option Int->Option Int->Hp->VK->Prop}(h:SlR X r)(h':SlR X r'):SlR X (fun x lo hi H Q=>r x lo hi H Q\/r' x lo hi H Q):=by
 intro pins s σ H x v vl vu lo hi sl Q I rx hs pl pu q
 rcases q with q | q
 ·exact h pins s σ H x v vl vu lo hi sl Q I rx hs pl pu q
 ·exact h' pins s σ H x v vl vu lo hi sl Q I rx hs pl pu q
noncomputable def tSl (r:V->Option Int->Option Int->Hp->VK->Prop)(te:TE)(tl th:TO):TE:=fun σ H Q=>te σ H fun x H1=>tl σ H1 fun l H2=>th σ H2 fun u H3=>r x l u H3 Q
theorem jf9 {r:V->Option Int->Option Int->Hp->VK->Prop}(hr:SlR X r)(he:PE X e te)(hl:PO X lo tl)(hu:PO X hi th):PE X (.Subscript e (.Slice lo hi none p2) pos) (tSl r te tl th):=by
 intro pins s σ H Q I h
 refine Subscript_ (thn (he pins s σ H _ I h) fun v s1 ⟨x,H1,I1,r1,q1⟩=>?_)
 refine wpAny_Slice (thn (hl pins s1 σ H1 _ I1 q1) fun vl s2 ⟨l,H2,I2,pl,q2⟩=>thn (hu pins s2 σ H2 _ I2 q2) fun vu s3 ⟨u,H3,I3,pu,q3⟩=>?_)
 rw [evalPart_none]
 refine wpAny_pure ?_
 have I4:Inv X pins σ H3 { s3 with heap:=s3.heap.push { cls:=.type "slice",data:=.fields #[vl,vu,.none] } }:=I3.kept (t':=s3.toks) fun b ob q=>Heap.get?_push_of_some _ q
 obtain ⟨T,id,hT,ht,hg⟩:=hr pins { s3 with heap:=s3.heap.push { cls:=.type "slice",data:=.fields #[vl,vu,.none] } } σ H3 x v vl vu l u s3.heap.objs.size Q I4 r1 (Heap.IsSliceOf.new ..) pl pu q3
 show wpAny (model X.prog X.w) X.A (subscriptTail e (.Slice lo hi none p2) v (.ref s3.heap.objs.size)) (EP X pins σ Q) X.xe { s3 with heap:=s3.heap.push { cls:=.type "slice",data:=.fields #[vl,vu,.none] } }
 exact tail_any (ops:=[.ref s3.heap.objs.size,v]) ht hT hg (by with_unfolding_all rfl)

noncomputable def cutV (xs:List V)(lo hi:Option Int):List V:=(xs.drop (HT.sIx xs.length 0 lo)).take (HT.sIx xs.length xs.length hi - HT.sIx xs.length 0 lo)
theorem jb9 (xs:List V)(lo hi:Option Int):(cutV xs lo hi).length<=xs.length:=by
 unfold cutV
 rw [List.length_take,List.length_drop]
 omega
noncomputable def rSlT (K:PySem.W.Frag):V->Option Int->Option Int->Hp->VK->Prop:=fun x lo hi H Q=>∃ a xs,x=.ref a/\SqT K H a xs/\
 ¬ (HT.sIx xs.length 0 lo=0/\HT.sIx xs.length xs.length hi=xs.length)/\∀ p,H p=none->Q (.ref p) (upd H p (.tup (cutV xs lo hi)))
theorem jiB:SlR X (rSlT X.K):=by
 intro pins s σ H x v vl vu lo hi sl Q I rx hs pl pu h
 obtain ⟨a,xs,rfl,hx,hw,q⟩:=h
 cases rx
 obtain ⟨its,r,ht,hz⟩:=I.tuple hx
 have hlen:its.toArray.size=xs.length:=by rw [List.size_toArray]; exact r.length.symm
 refine ⟨"tuple",_,PyProof.Rows.slot_tuple_getitem.lookup,ht.typeIs,?_⟩
 refine HT.getItem_tuple_cut ht hs pl pu (by rw [hlen]; exact hw) ?_ (by rw [hlen]; exact hz)
 rw [hlen]
 refine ⟨.ref s.heap.objs.size,_,I.laid (t':=s.toks) (o:=.tup (cutV xs lo hi)) (fun b ob q=>Heap.get?_push_of_some _ q) (Nat.le_refl _) ?_,rfl,q _ (I.hok.fresh (Nat.le_refl _))⟩
 exact ⟨Nat.le_trans (jb9 xs lo hi) hz,_,(r.drop (HT.sIx xs.length 0 lo)).take (HT.sIx xs.length xs.length hi - HT.sIx xs.length 0 lo),TupD.new _ _⟩

noncomputable def jkZ (K:PySem.W.Frag):R2:=fun x y H Q=>∃ a b xs ys,x=.ref a/\y=.ref b/\SqT K H a xs/\SqT K H b ys/\xs≠[]/\xs.length + ys.length<=sizeLine/\
 (ys=[]->Q (.ref a) H)/\(ys≠[]->∀ p,H p=none->Q (.ref p) (upd H p (.tup (xs++ys))))
theorem Vals.nil_iff {xs:List V}{us:List Value}(r:Vals xs us):us=[]↔xs=[]:=by
 cases r with
 | nil=>simp
 | cons _ _=>simp
theorem jhK:OpR X (binaryOp .Add) (jkZ X.K):=by
 intro pins s σ H x y v u Q I rx ry h
 obtain ⟨a,b,xs,ys,rfl,rfl,ha,hb,hx,hz,q1,q2⟩:=h
 cases rx
 cases ry
 obtain ⟨its,r1,p1,_⟩:=I.tuple ha
 obtain ⟨its2,r2,p2,_⟩:=I.tuple hb
 refine HT.cat_tup p1 p2 (fun z=>hx (r1.nil_iff.mp z)) (fun z=>⟨.ref a,H,I,rfl,q1 (r2.nil_iff.mp z)⟩) (fun z=>?_) (by rw [<- r1.length,<- r2.length]; exact hz)
 refine ⟨.ref s.heap.objs.size,_,I.laid (t':=s.toks) (o:=.tup (xs++ys)) (fun b ob q=>Heap.get?_push_of_some _ q) (Nat.le_refl _) ?_,rfl,q2 (fun w=>z (r2.nil_iff.mpr w)) _ (I.hok.fresh (Nat.le_refl _))⟩
 exact ⟨by rw [List.length_append]; exact hz,_,r1.append r2,TupD.new _ _⟩
end

noncomputable def ixN (n:Nat)(i:Int):Option Nat:=if 0<=i then (if i < n then some i.toNat else none) else if -(n:Int)<=i then some (i + n).toNat else none
noncomputable def atI {α:Type}(xs:List α)(i:Int):Option α:=(ixN xs.length i).bind fun j=>xs[j]?
theorem jfq {n:Nat}{i:Int}{j:Nat}(h:ixN n i=some j):seqIndex? i n=some j/\j < n/\-(n:Int)<=i/\i < n:=by
 unfold ixN at h
 by_cases h0:0<=i
 ·rw [if_pos h0] at h
  by_cases h1:i < n
  ·rw [if_pos h1] at h
   have e:i.toNat=j:=Option.some.inj h
   exact ⟨by rw [seqIndex_of h0 h1,e],by omega,by omega,h1⟩
  ·rw [if_neg h1] at h; cases h
 ·rw [if_neg h0] at h
  by_cases h1:-(n:Int)<=i
  ·rw [if_pos h1] at h
   have e:(i + n).toNat=j:=Option.some.inj h
   exact ⟨by rw [seqIndex_neg (by omega) h1,e],by omega,h1,by omega⟩
  ·rw [if_neg h1] at h; cases h
theorem jdZ {α:Type}{xs:List α}{i:Int}{v:α}(h:atI xs i=some v):∃ j,seqIndex? i xs.length=some j/\xs[j]?=some v/\j < xs.length/\-(xs.length:Int)<=i/\i < xs.length:=by
 unfold atI at h
 cases e:ixN xs.length i with
 | none=>rw [e] at h; cases h
 | some j=>
  rw [e] at h
  obtain ⟨h1,h2,h3,h4⟩:=jfq e
  exact ⟨j,h1,h,h2,h3,h4⟩
theorem jbx {α:Type}{xs:List α}{j:Nat}{v:α}(h:xs[j]?=some v):atI xs (j:Int)=some v:=by
 have hj:j < xs.length:=(List.getElem?_eq_some_iff.mp h).1
 have e:ixN xs.length (j:Int)=some j:=by
  unfold ixN
  rw [if_pos (by omega),if_pos (by omega)]; simp
 unfold atI; rw [e]; exact h
noncomputable def jd3 (b:Expr):Prop:=∀ o i,subscripted b false o i=operate [o,i] (getItem o i)
noncomputable def IxR (X:Cx)(r:R2):Prop:=
 ∀ (value slice:Expr) (pins:List (Addr×Obj)) (s:Shared) (σ:St) (H:Hp) (x y:V) (v u:Value) (Q:VK),Inv X pins σ H s->RelV x v->RelV y u->r x y H Q->
  subscripted slice false v u=operate [v,u] (getItem v u)->wpAny (model X.prog X.w) X.A (subscriptTail value slice v u) (EP X pins σ Q) X.xe s
noncomputable def MtR (X:Cx)(id:String)(r:V->List V->Hp->VK->Prop):Prop:=
 ∀ (pins:List (Addr×Obj)) (s:Shared) (σ:St) (H:Hp) (x:V) (xs:List V) (v:Value) (us:List Value) (Q:VK),Inv X pins σ H s->RelV x v->Vals xs us->r x xs H Q->
  wpAny (model X.prog X.w) X.A (call (.builtin id) (v::us)) (EP X pins σ Q) X.xe s
section
variable {X:Cx}{a b:Expr}{ta tb:TE}{pos:Pos}
theorem IxR.or {r r':R2}(h:IxR X r)(h':IxR X r'):IxR X (fun x y H Q=>r x y H Q\/r' x y H Q):=by
 intro value slice pins s σ H x y v u Q I rx ry q hs
 rcases q with q | q
 ·exact h value slice pins s σ H x y v u Q I rx ry q hs
 ·exact h' value slice pins s σ H x y v u Q I rx ry q hs
theorem jk6 {r:R2}(hr:IxR X r)(ha:PE X a ta)(hb:PE X b tb)(hs:jd3 b):PE X (.Subscript a b pos) (tOp r ta tb):=by
 intro pins s σ H Q I h
 exact Subscript_ (binT ha hb I h fun v u s2 x y H2 I2 rx ry q=>hr a b pins s2 σ H2 x y v u Q I2 rx ry q (hs _ _))

noncomputable def rIxL (K:PySem.W.Frag):R2:=fun x y H Q=>∃ p xs i v,x=.ref p/\y=.int i/\SqL K H p xs/\atI xs i=some v/\Q v H
noncomputable def rIxT (K:PySem.W.Frag):R2:=fun x y H Q=>∃ p xs i v,x=.ref p/\y=.int i/\SqT K H p xs/\atI xs i=some v/\Q v H
noncomputable def rIxS:R2:=fun x y H Q=>∃ z i c,x=.str z/\y=.int i/\z.length<=sizeLine/\atI z.cps.toList i=some c/\Q (.str ⟨#[c]⟩) H
theorem jh0 : IxR X (rIxL X.K) := by
  intro value slice pins s σ H x y v u Q I rx ry h hs
  obtain ⟨p, xs, i, z, rfl, rfl, hq, he, q⟩ := h
  cases rx
  obtain ⟨t, rfl⟩ := ry
  obtain ⟨its, r, pl, hz⟩ := I.list hq
  obtain ⟨j, h1, h2, h3, h4, h5⟩ := jdZ he
  obtain ⟨w, ew, rw'⟩ := r.get h2
  have hl := r.length
  have hn := jcq
  have fin : EP X pins σ Q w s := ⟨z, H, I, rw', q⟩
  by_cases h0 : 0 <= i
  · have hj : i.toNat = j := by
      rw [seqIndex_of h0 h5] at h1
      exact Option.some.inj h1
    exact item_listR pl.isList h0 (by omega) (by rw [hj]; simpa using ew) fin hs
  · have hj : (i + (its.toArray.size : Int)).toNat = j := by
      rw [seqIndex_neg (by omega) h4] at h1
      rw [List.size_toArray, <- hl]
      exact Option.some.inj h1
    exact subscriptTail_builtinR (x := w) pl.isList.typeIs slot_list_getitem.lookup
      (wpAny_getItem_list_neg (Q := fun r s' => r = w /\ EP X pins σ Q r s') pl.isList (by omega) (by rw [List.size_toArray] <;> omega) (by omega) (by rw [hj]; simpa using ew) ⟨rfl, fin⟩) hs
theorem jjH:IxR X (rIxT X.K):=by
 intro value slice pins s σ H x y v u Q I rx ry h hs
 obtain ⟨p,xs,i,z,rfl,rfl,hq,he,q⟩:=h
 cases rx
 obtain ⟨t,rfl⟩:=ry
 obtain ⟨its,r,pl,hz⟩:=I.tuple hq
 obtain ⟨j,h1,h2,h3,h4,h5⟩:=jdZ he
 obtain ⟨w,ew,rw'⟩:=r.get h2
 have hl:=r.length
 have hn:=jcq
 have fin:EP X pins σ Q w s:=⟨z,H,I,rw',q⟩
 exact subscriptTail_builtinR (x:=w) pl.typeIs slot_tuple_getitem.lookup
  (getItem_tuple (j:=j) (Q:=fun r s'=>r=w/\EP X pins σ Q r s') pl (by omega) (by omega) (by rw [List.size_toArray,<- hl]; exact h1) (by simpa using ew) ⟨rfl,fin⟩) hs
theorem jjI:IxR X rIxS:=by
 intro value slice pins s σ H x y v u Q I rx ry h hs
 obtain ⟨z,i,c,rfl,rfl,hz,he,q⟩:=h
 obtain ⟨t,rfl⟩:=rx
 obtain ⟨t',rfl⟩:=ry
 obtain ⟨j,h1,h2,h3,h4,h5⟩:=jdZ he
 have hl:z.cps.toList.length=z.length:=by simp [Str.length]
 rw [hl] at h1 h4 h5
 have hn:=jcq
 exact tail_any (typeIs_str s z t) slot_str_getitem.lookup (getItem_str (c:=c) (by
  have e1:decide (i < -(2 ^ 63:Int))=false:=decide_eq_false (by omega)
  have e2:decide (i ≥ 2 ^ 63)=false:=decide_eq_false (by omega)
  rw [e1,e2,Bool.or_false]) (by rw [h1]; simpa using h2) ⟨.str ⟨#[c]⟩,H,I.tok _,⟨_,rfl⟩,q⟩) hs
noncomputable def rIx (K:PySem.W.Frag):R2:=fun x y H Q=>rIxL K x y H Q\/rIxT K x y H Q\/rIxS x y H Q
theorem jjJ:IxR X (rIx X.K):=jh0.or (jjH.or jjI)

theorem jeG (its:List Value)(n j:Nat)(u:Value):Obj.mapSeq (·.setIfInBounds j u) { cls:=.type "list",data:=.seq its.toArray n }={ cls:=.type "list",data:=.seq (its.set j u).toArray n }:=by
 simp [Obj.mapSeq]
theorem Inv.lst {pins:List (Addr×Obj)}{σ:St}{H:Hp}{s:Shared}{p:Addr}{xs:List V}(I:Inv X pins σ H s)(h:H p=some (.lst xs)) :
  ∃ (its:List Value) (n:Nat),Vals xs its/\s.heap.get? p=some { cls:=.type "list",data:=.seq its.toArray n }/\xs.length<=sizeLine:=by
 obtain ⟨z,its,n,r,e⟩:=I.hok p _ h
 exact ⟨its,n,r,e,z⟩
theorem Inv.lstUpd {pins:List (Addr×Obj)}{σ:St}{H:Hp}{s:Shared}{p:Addr}{xs ys:List V}{its its':List Value}{n n':Nat}{f:Obj->Obj}(I:Inv X pins σ H s)(h:H p=some (.lst xs))
  (ho:s.heap.get? p=some { cls:=.type "list",data:=.seq its.toArray n }) (hf:f { cls:=.type "list",data:=.seq its.toArray n }={ cls:=.type "list",data:=.seq its'.toArray n' }) (r:Vals ys its') (hz:ys.length<=sizeLine) (t:Nat) :
  Inv X pins σ (upd H p (.lst ys)) { s with heap:=s.heap.update p f,toks:=t }:=by
 have e:(s.heap.update p f).get? p=some { cls:=.type "list",data:=.seq its'.toArray n' }:=by
  rw [Heap.get?_update_self f ho (by rw [hf] <;> rfl),hf]
 refine I.write (x:=p) (e:=p) (by rw [h]; trivial) (.inl rfl) (fun b u hb q=>(Heap.get?_update_other _ _ (Ne.symm hb)).trans q) ⟨_,e⟩ ?_
 exact ⟨hz,its',n',r,e⟩
noncomputable def jiO:V->V->V->Hp->(Hp->Prop)->Prop:=fun o i v H Q=>∃ p xs k j,o=.ref p/\i=.int k/\H p=some (.lst xs)/\ixN xs.length k=some j/\Q (upd H p (.lst (xs.set j v)))
theorem jfX : PSet X jiO := by
  intro pins s σ H o i v ov iv u Q I ro ri rv h
  obtain ⟨p, xs, k, j, rfl, rfl, hp, hj, q⟩ := h
  cases ro
  obtain ⟨t, rfl⟩ := ri
  obtain ⟨its, n, r, ho, hz⟩ := I.lst hp
  obtain ⟨h1, h2, h3, h4⟩ := jfq hj
  have hl := r.length
  have hn := jcq
  have I' : Inv X pins σ (upd H p (.lst (xs.set j v))) { s with heap := s.heap.update p (Obj.mapSeq (·.setIfInBounds j u)) } :=
    I.lstUpd hp ho (jeG its n j u) (r.set rv j) (by rw [List.length_set]; exact hz) s.toks
  by_cases h0 : 0 <= k
  · have hk : k.toNat = j := by
      rw [seqIndex_of h0 h4] at h1
      exact Option.some.inj h1
    exact PySem.W.ki_setAt ho h0 (by omega) (by rw [List.size_toArray, <- hl]; exact h4) (by rw [hk]; exact ⟨_, I', q⟩)
  · have hk : (k + (its.toArray.size : Int)).toNat = j := by
      rw [seqIndex_neg (by omega) h3] at h1
      rw [List.size_toArray, <- hl]
      exact Option.some.inj h1
    exact PySem.W.ki_setBack ho (by omega) (by rw [List.size_toArray, <- hl]; exact h3) (by omega) (by rw [hk]; exact ⟨_, I', q⟩)

theorem jc0 (lo hi:Option Int)(n:Nat):(sliceBounds lo hi none n).1=((HT.sIx n 0 lo:Nat):Int)/\(sliceBounds lo hi none n).2.1=((HT.sIx n n hi:Nat):Int)/\(sliceBounds lo hi none n).2.2=1:=by
 refine ⟨?_,?_,rfl⟩
 ·cases lo with
  | none=>simp [sliceBounds,HT.sIx]
  | some i=>
   simp only [sliceBounds,HT.sIx,Option.getD_none,show (1:Int) > 0 by decide,if_true]
   by_cases h:i < 0
   ·simp only [h,if_true] <;> omega
   ·simp only [h,if_false] <;> omega
 ·cases hi with
  | none=>simp [sliceBounds,HT.sIx]
  | some i=>
   simp only [sliceBounds,HT.sIx,Option.getD_none,show (1:Int) > 0 by decide,if_true]
   by_cases h:i < 0
   ·simp only [h,if_true] <;> omega
   ·simp only [h,if_false] <;> omega
theorem jcD (its:List Value)(lo hi:Option Int):slicePick its.toArray lo hi none=((its.drop (HT.sIx its.length 0 lo)).take (HT.sIx its.length its.length hi - HT.sIx its.length 0 lo)).toArray:=by
 obtain ⟨h1,h2,h3⟩:=jc0 lo hi its.toArray.size
 unfold slicePick
 rw [h1,h2,h3]
 simp only [sliceRange_one,pick_run,List.size_toArray] <;> rfl
noncomputable def rSlL (K:PySem.W.Frag):V->Option Int->Option Int->Hp->VK->Prop:=fun x lo hi H Q=>∃ a xs,x=.ref a/\SqL K H a xs/\∀ p,H p=none->Q (.ref p) (upd H p (.lst (cutV xs lo hi)))
theorem jhf:SlR X (rSlL X.K):=by
 intro pins s σ H x v vl vu lo hi sl Q I rx hs pl pu h
 obtain ⟨a,xs,rfl,hx,q⟩:=h
 cases rx
 obtain ⟨its,r,ht,hz⟩:=I.list hx
 have hlen:=r.length
 refine ⟨"list",_,slot_list_getitem.lookup,ht.isList.typeIs,?_⟩
 refine wpAny_getItem_list_slice ht.isList hs pl pu .none (by simp) ?_ (by rw [List.size_toArray] <;> omega)
 rw [jcD,<- hlen]
 refine ⟨.ref s.heap.objs.size,_,I.laid (t':=s.toks) (o:=.lst (cutV xs lo hi)) (fun b ob q=>Heap.get?_push_of_some _ q) (Nat.le_refl _) ?_,rfl,q _ (I.hok.fresh (Nat.le_refl _))⟩
 exact ⟨Nat.le_trans (jb9 xs lo hi) hz,_,0,(r.drop (HT.sIx xs.length 0 lo)).take (HT.sIx xs.length xs.length hi - HT.sIx xs.length 0 lo),Heap.get?_push_size _ rfl⟩

noncomputable def jbF:V->Bool
 | .non=>true
 | .bl _=>true
 | .int _=>true
 | .str _=>true
 | _=>false
noncomputable def eqV:V->V->Bool
 | .non,.non=>true
 | .bl a,.bl b=>a == b
 | .bl a,.int b=>(if a then 1 else 0) == b
 | .int a,.bl b=>a == (if b then 1 else 0)
 | .int a,.int b=>a == b
 | .str a,.str b=>a == b
 | _,_=>false
theorem jjT {A:Around}{s:Shared}{y x:V}{u v:Value}(ry:RelV y u)(rx:RelV x v)(fy:jbF y=true)(fx:jbF x=true):SeqAt.EqAt A s u v (eqV y x):=by
 cases y with
 | non=>
  cases ry
  cases x with
  | non=>cases rx; exact SeqAt.EqAt.same _
  | bl b=>cases rx; exact SeqAt.EqAt.none_bool b
  | int b=>obtain ⟨t,rfl⟩:=rx; exact SeqAt.EqAt.none_int b t
  | str b=>obtain ⟨t,rfl⟩:=rx; exact SeqAt.EqAt.none_str b t
  | _=>exact absurd (show false=true from fx) Bool.false_ne_true
 | bl a=>
  cases ry
  cases x with
  | non=>cases rx; exact SeqAt.EqAt.bool_none a
  | bl b=>cases rx; exact SeqAt.EqAt.bool_bool a b
  | int b=>obtain ⟨t,rfl⟩:=rx; exact SeqAt.EqAt.bool_int a b t
  | str b=>obtain ⟨t,rfl⟩:=rx; exact SeqAt.EqAt.bool_str a b t
  | _=>exact absurd (show false=true from fx) Bool.false_ne_true
 | int a=>
  obtain ⟨t',rfl⟩:=ry
  cases x with
  | non=>cases rx; exact SeqAt.EqAt.int_none a t'
  | bl b=>cases rx; exact SeqAt.EqAt.int_bool a t' b
  | int b=>obtain ⟨t,rfl⟩:=rx; exact SeqAt.EqAt.int_int a t' b t
  | str b=>obtain ⟨t,rfl⟩:=rx; exact SeqAt.EqAt.int_str a t' b t
  | _=>exact absurd (show false=true from fx) Bool.false_ne_true
 | str a=>
  obtain ⟨t',rfl⟩:=ry
  cases x with
  | non=>cases rx; exact SeqAt.EqAt.str_none a t'
  | bl b=>cases rx; exact SeqAt.EqAt.str_bool a t' b
  | int b=>obtain ⟨t,rfl⟩:=rx; exact SeqAt.EqAt.str_int a t' b t
  | str b=>obtain ⟨t,rfl⟩:=rx; exact SeqAt.EqAt.str_str a t' b t
  | _=>exact absurd (show false=true from fx) Bool.false_ne_true
 | _=>exact absurd (show false=true from fy) Bool.false_ne_true
noncomputable def eqU (x:V)(u:Value):Bool:=match u with
 | .none=>eqV .non x
 | .bool b=>eqV (.bl b) x
 | .int i _=>eqV (.int i) x
 | .str z _=>eqV (.str z) x
 | _=>false
theorem jgW {x y:V}{u:Value}(r:RelV y u)(f:jbF y=true):eqU x u=eqV y x:=by
 cases y with
 | non=>cases r; rfl
 | bl b=>cases r; rfl
 | int i=>obtain ⟨t,rfl⟩:=r; rfl
 | str z=>obtain ⟨t,rfl⟩:=r; rfl
 | _=>exact absurd (show false=true from f) Bool.false_ne_true
theorem jd1 {x:V}:∀ {xs:List V} {us:List Value},Vals xs us->xs.all jbF=true->us.any (eqU x)=xs.any fun y=>eqV y x
 | _,_,.nil,_=>rfl
 | y::xs,u::us,.cons r t,f=>by
  rw [List.all_cons,Bool.and_eq_true] at f
  rw [List.any_cons,List.any_cons,jgW r f.1,jd1 t f.2]
theorem jcM {A:Around}{s:Shared}{x:V}{v:Value}(rx:RelV x v)(fx:jbF x=true):∀ {xs:List V} {us:List Value},Vals xs us->xs.all jbF=true->∀ u∈us,SeqAt.EqAt A s u v (eqU x u)
 | _,_,.nil,_=>fun u hu=>by cases hu
 | y::xs,u::us,.cons r t,f=>fun u' hu=>by
  rw [List.all_cons,Bool.and_eq_true] at f
  rcases List.mem_cons.mp hu with rfl | hu
  ·rw [jgW r f.1]; exact jjT r rx f.1 fx
  ·exact jcM rx fx t f.2 u' hu
noncomputable def inV (x:V)(xs:List V):Bool:=xs.any fun y=>eqV y x
noncomputable def rIn (K:PySem.W.Frag)(neg:Bool):R2:=fun x y H Q=>∃ p xs,y=.ref p/\(SqL K H p xs\/SqT K H p xs)/\jbF x=true/\xs.all jbF=true/\Q (.bl (if neg then !inV x xs else inV x xs)) H
theorem jc3:OpR X (compareOp .NotIn) (rIn X.K true):=by
 intro pins s σ H x y v u Q I rx ry h
 obtain ⟨p,xs,rfl,hq,fx,fs,q⟩:=h
 cases ry
 rcases hq with hq | hq
 ·obtain ⟨its,r,pl,hz⟩:=I.list hq
  refine SeqAt.notIn_listAt (eqU x) pl.isList (fun w hw=>jcM rx fx r fs w (by simpa using hw)) ⟨.bl _,H,I,rfl,?_⟩
  rw [show its.toArray.any (eqU x)=its.any (eqU x) by simp,jd1 r fs]
  exact q
 ·obtain ⟨its,r,pl,hz⟩:=I.tuple hq
  refine SeqAt.notIn_tupleAt (eqU x) pl (fun w hw=>jcM rx fx r fs w (by simpa using hw)) ⟨.bl _,H,I,rfl,?_⟩
  rw [show its.toArray.any (eqU x)=its.any (eqU x) by simp,jd1 r fs]
  exact q
theorem jaM.or {f:Value}{r r':List V->Hp->VK->Prop}(h:jaM X f r)(h':jaM X f r'):jaM X f (fun xs H Q=>r xs H Q\/r' xs H Q):=by
 intro pins s σ H xs us Q I rs q
 rcases q with q | q
 ·exact h pins s σ H xs us Q I rs q
 ·exact h' pins s σ H xs us Q I rs q
theorem jdp : jaM X (.type "list") (fun xs H Q => ∃ p ys, xs = [.ref p] /\ (SqL X.K H p ys \/ SqT X.K H p ys) /\ ∀ l, H l = none -> Q (.ref l) (upd H l (.lst ys))) := by
  intro pins s σ H xs us Q I r h
  obtain ⟨p, ys, rfl, hq, q⟩ := h
  obtain ⟨u, rfl, rx⟩ := jcA r
  cases rx
  have fin : ∀ (its : List Value), Vals ys its -> ys.length <= sizeLine -> ∀ (h' : Heap) (c' : Nat), (∀ b o', s.heap.get? b = some o' -> h'.get? b = some o') ->
      h'.get? s.heap.objs.size = some { cls := .type "list", dict := none, data := .seq its.toArray c', slots := #[] } -> EP X pins σ Q (.ref s.heap.objs.size) { s with heap := h' } := fun its r' hz h' c' kp e =>
    ⟨.ref s.heap.objs.size, _, I.laid (t' := s.toks) kp (Nat.le_refl _) (show jay X.prog X.w _ h' _ (.lst ys) from ⟨hz, its, c', r', e⟩), rfl, q _ (I.hok.fresh (Nat.le_refl _))⟩
  rcases hq with hq | hq
  · obtain ⟨its, r', pl, hz⟩ := I.list hq
    have hlen := r'.length
    obtain ⟨o, ho, hc, n, hd⟩ := pl.isList
    exact call_list_seq p (.inl rfl) ho hc hd (fun h' c' kp e => fin its r' hz h' c' kp e) (by simp only [List.size_toArray] <;> omega)
  · obtain ⟨its, r', pl, hz⟩ := I.tuple hq
    have hlen := r'.length
    obtain ⟨o, ho, hc, n, hd⟩ := pl
    exact call_list_seq p (.inr rfl) ho hc hd (fun h' c' kp e => fin its r' hz h' c' kp e) (by simp only [List.size_toArray] <;> omega)
theorem jcR:jaM X (.type "tuple") (fun xs H Q=>∃ p ys,xs=[.ref p]/\((SqL X.K H p ys/\∀ l,H l=none->Q (.ref l) (upd H l (.tup ys)))\/(SqT X.K H p ys/\Q (.ref p) H))):=by
 intro pins s σ H xs us Q I r h
 obtain ⟨p,ys,rfl,h⟩:=h
 obtain ⟨u,rfl,rx⟩:=jcA r
 cases rx
 rcases h with ⟨hq,q⟩ | ⟨hq,q⟩
 ·obtain ⟨its,r',pl,hz⟩:=I.list hq
  have hlen:=r'.length
  refine call_tuple_list pl.isList (fun h' kp=>?_) (by simp only [List.size_toArray] <;> omega)
  have I1:Inv X pins σ H { s with heap:=h' }:=I.kept (t':=s.toks) kp
  have I2:Inv X pins σ (upd H h'.objs.size (.tup ys)) { s with heap:=h'.push { cls:=.type "tuple",data:=.seq its.toArray } }:=
   I1.laid (t':=s.toks) (fun b o e=>Heap.get?_push_of_some _ e) (Nat.le_refl _) (show jay X.prog X.w _ _ _ (.tup ys) from ⟨hz,its,r',TupD.new _ _⟩)
  exact ⟨.ref h'.objs.size,_,I2,rfl,q _ (I1.hok.fresh (Nat.le_refl _))⟩
 ·obtain ⟨its,r',pl,hz⟩:=I.tuple hq
  exact call_tuple_same pl ⟨.ref p,H,I,rfl,q⟩

noncomputable def tyV (K : PySem.W.Frag)(T : String)(x : V)(H : Hp) : Prop := match x with
  | .str _ => T = "str"
  | .int _ => T = "int"
  | .ref p => (T = "list" /\ ∃ xs, SqL K H p xs) \/ (T = "tuple" /\ ∃ o, K.lookup p = some o /\ o.cls = .type "tuple" /\ o.dict = none) \/
      (T = "dict" /\ ((∃ kvs, H p = some (.dK kvs)) \/ ∃ kvs, H p = some (.dT kvs))) \/ (T = "set" /\ ∃ S n, H p = some (.set S n)) \/ (T = "tuple" /\ ∃ xs, H p = some (.tup xs))
  | _ => False
theorem jgz {pins : List (Addr × Obj)}{σ : St}{H : Hp}{s : Shared}{T : String}{x : V}{v : Value}(I : Inv X pins σ H s)(r : RelV x v)(ty : tyV X.K T x H) :
    s.TypeIs v T /\ ∀ a, v = .ref a -> ∃ ob, s.heap.get? a = some ob /\ ob.dict = none := by
  cases x with
  | str z =>
    obtain ⟨t, rfl⟩ := r
    cases (show T = "str" from ty)
    exact ⟨typeIs_str s z t, fun _ e => nomatch e⟩
  | int i =>
    obtain ⟨t, rfl⟩ := r
    cases (show T = "int" from ty)
    exact ⟨typeIs_int s i t, fun _ e => nomatch e⟩
  | ref p =>
    cases r
    rcases ty with ⟨rfl, xs, hq⟩ | ⟨rfl, o, hk, hc, hd⟩ | ⟨rfl, hk⟩ | ⟨rfl, S, n, hk⟩ | ⟨rfl, xs, hk⟩
    · obtain ⟨its, _, pl, _⟩ := I.list hq
      refine ⟨pl.isList.typeIs, fun a e => ?_⟩
      cases e
      obtain ⟨o, n, e, c, hd, _⟩ := pl
      exact ⟨o, e, hd⟩
    · refine ⟨⟨o, I.kIn p o hk, hc⟩, fun a e => ?_⟩
      cases e
      exact ⟨o, I.kIn _ o hk, hd⟩
    · have z : ∃ o, s.heap.get? p = some o /\ o.ExactDict := by
        rcases hk with ⟨kvs, hk⟩ | ⟨kvs, hk⟩
        · obtain ⟨_, _, _, _, o, _, _, e, ex, _⟩ := I.hok p _ hk
          exact ⟨o, e, ex⟩
        · obtain ⟨_, _, _, _, o, _, _, e, ex, _⟩ := I.hok p _ hk
          exact ⟨o, e, ex⟩
      obtain ⟨o, e, ex⟩ := z
      refine ⟨⟨o, e, ex.1⟩, fun a e2 => ?_⟩
      cases e2
      exact ⟨o, e, ex.2.1⟩
    · obtain ⟨o, _, _, _, e, ex, _⟩ := I.hok p _ hk
      refine ⟨⟨o, e, ex.1⟩, fun a e2 => ?_⟩
      cases e2
      exact ⟨o, e, ex.2.1⟩
    · obtain ⟨_, its, r, o, e, c, n, d, hd⟩ := (show jay X.prog X.w H s.heap p (.tup xs) from I.hok p _ hk)
      refine ⟨⟨o, e, c⟩, fun a e2 => ?_⟩
      cases e2
      exact ⟨o, e, hd⟩
  | _ => exact False.elim ty
variable {o e:Expr}{es:List Expr}{to:TE}{t:TA}{name:Str}{apos cpos:Pos}{T id:String}{r:V->List V->Hp->VK->Prop}
end

noncomputable def MtM (X:Cx)(id:String)(r:V->List V->Hp->VK->Prop):Prop:=
 ∀ (pins:List (Addr×Obj)) (s:Shared) (σ:St) (H:Hp) (x:V) (xs:List V) (v:Value) (us:List Value) (Q:VK),Inv X pins σ H s->RelV x v->Vals xs us->r x xs H Q->
  wpAny (model X.prog X.w) X.A (call (.builtin id) (v::us)) (EP X pins σ Q) X.xe s

theorem Vals.one:∀ {x:V} {us:List Value},Vals [x] us->∃ u,us=[u]/\RelV x u
 | _,_,.cons r .nil=>⟨_,rfl,r⟩
theorem Vals.two:∀ {x y:V} {us:List Value},Vals [x,y] us->∃ u v,us=[u,v]/\RelV x u/\RelV y v
 | _,_,_,.cons r (.cons q .nil)=>⟨_,_,rfl,r,q⟩
theorem Vals.rep {xs:List V}{us:List Value}(h:Vals xs us):∀ k:Nat,Vals (List.replicate k xs).flatten (List.replicate k us).flatten
 | 0=>.nil
 | k + 1=>by
  rw [List.replicate_succ,List.replicate_succ,List.flatten_cons,List.flatten_cons]
  exact Vals.append h (Vals.rep h k)
theorem jb2 (its:List Value):∀ (k:Nat) (acc:List Value),
  List.foldl (fun x1 x2=>x1++x2) acc.toArray (List.replicate k its.toArray)=(acc++(List.replicate k its).flatten).toArray
 | 0,acc=>by simp
 | k + 1,acc=>by
  have e:acc.toArray++its.toArray=(acc++its).toArray:=by simp
  have e2:(acc++its)++(List.replicate k its).flatten=acc++(List.replicate (k + 1) its).flatten:=by
   rw [List.replicate_succ,List.flatten_cons,List.append_assoc]
  rw [<- e2,<- jb2 its k (acc++its),<- e,List.replicate_succ,List.foldl_cons]

section
variable {X:Cx}{pins:List (Addr×Obj)}{σ:St}{H:Hp}{s:Shared}{l b:Addr}{xs ys zs:List V}

theorem Inv.lset {its its':List Value}{n:Nat}{f:Array Value->Array Value}{t':Nat}(I:Inv X pins σ H s)(hH:H l=some (.lst xs))
  (e:s.heap.get? l=some { cls:=.type "list",data:=.seq its.toArray n }) (hf:f its.toArray=its'.toArray) (hv:Vals ys its') (hz:ys.length<=sizeLine) :
  Inv X pins σ (upd H l (.lst ys)) { s with heap:=s.heap.update l (Obj.mapSeq f),toks:=t' }:=by
 have q:=PySem.IsL.update e f
 rw [hf] at q
 refine I.write (x:=l) (e:=l) (by rw [hH]; exact trivial) (.inl rfl) (fun b' u hb hu=>(Heap.get?_update_other s.heap (Obj.mapSeq f) (Ne.symm hb)).trans hu) ⟨_,q⟩ ?_
 exact ⟨hz,its',_,hv,q⟩
theorem Inv.lnew {its:List Value}{t':Nat}(I:Inv X pins σ H s)(hv:Vals ys its)(hz:ys.length<=sizeLine) :
  Inv X pins σ (upd H s.heap.objs.size (.lst ys)) { s with heap:=s.heap.push { cls:=.type "list",data:=.seq its.toArray },toks:=t' }:=
 I.laid (fun _ _ q=>Heap.get?_push_of_some _ q) (Nat.le_refl _) ⟨hz,its,0,hv,Heap.get?_push_size _ rfl⟩
theorem Inv.fresh (I:Inv X pins σ H s):H s.heap.objs.size=none:=I.hok.fresh (Nat.le_refl _)
theorem Inv.lstM (I:Inv X pins σ H s)(hH:H l=some (.lst xs)):xs.length<=sizeLine/\∃ (its:List Value) (n:Nat),Vals xs its/\xs.length=its.length/\s.heap.get? l=some { cls:=.type "list",data:=.seq its.toArray n }:=by
 obtain ⟨z,its,n,r,e⟩:=I.hok l _ hH
 exact ⟨z,its,n,r,r.length,e⟩

theorem jgf {n:Nat}(h:n<=sizeLine):Builtin.List.listTooLong n=false:=by
 unfold Builtin.List.listTooLong
 exact decide_eq_false (by omega)
end

section
variable {X:Cx}

noncomputable def jhm:V->List V->Hp->VK->Prop:=fun x vs H Q=>∃ l xs y,x=.ref l/\vs=[y]/\H l=some (.lst xs)/\xs.length < sizeLine/\Q .non (upd H l (.lst (xs++[y])))
theorem jdb:MtM X "list.append" jhm:=by
 intro pins s σ H x vs v us Q I rx rv h
 obtain ⟨l,xs,y,rfl,rfl,hH,hz,q⟩:=h
 cases rx
 obtain ⟨u,rfl,ru⟩:=rv.one
 obtain ⟨z,its,n,r,hl,e⟩:=I.lstM hH
 refine call_meets F.slot_list_append ⟨_,e,rfl⟩ F.entry_list_append (F.args_list_append_2 _ _) (PySem.list_append l its.toArray n u (by rw [List.size_toArray]; omega)) ⟨e,?_⟩
 refine ⟨.non,_,I.lset (its':=its++[u]) hH e (by simp) (r.append (.cons ru .nil)) ?_,rfl,q⟩
 rw [List.length_append,List.length_singleton]
 omega

noncomputable def rCat:R2:=fun x y H Q=>∃ l b xs zs,x=.ref l/\y=.ref b/\H l=some (.lst xs)/\H b=some (.lst zs)/\xs.length + zs.length<=sizeLine/\∀ p,H p=none->Q (.ref p) (upd H p (.lst (xs++zs)))
theorem jjo:OpR X (binaryOp .Add) rCat:=by
 intro pins s σ H x y v u Q I rx ry h
 obtain ⟨l,b,xs,zs,rfl,rfl,hH,hB,hz,q⟩:=h
 cases rx
 cases ry
 obtain ⟨z,its,n,r,hl,e⟩:=I.lstM hH
 obtain ⟨z2,its2,n2,r2,hl2,e2⟩:=I.lstM hB
 refine PySem.P.add_list e e2 ?_ (by rw [List.size_toArray,List.size_toArray]; omega)
 have ea:its.toArray++its2.toArray=(its++its2).toArray:=by simp
 rw [ea]
 exact ⟨.ref _,_,I.lnew (t':=s.toks) (r.append r2) (by rw [List.length_append]; omega),rfl,q _ I.fresh⟩
noncomputable def rRep:R2:=fun x y H Q=>∃ l k xs,x=.ref l/\y=.int k/\H l=some (.lst xs)/\-(2 ^ 63)<=k/\k < 2 ^ 63/\xs.length * k.toNat<=sizeLine/\
 ∀ p,H p=none->Q (.ref p) (upd H p (.lst (List.replicate k.toNat xs).flatten))
theorem jfk {α:Type}(xs:List α)(k:Nat):(List.replicate k xs).flatten.length=k * xs.length:=by
 induction k with
 | zero=>simp
 | succ k ih=>rw [List.replicate_succ,List.flatten_cons,List.length_append,ih,Nat.succ_mul,Nat.add_comm]
theorem jji:OpR X (binaryOp .Mult) rRep:=by
 intro pins s σ H x y v u Q I rx ry h
 obtain ⟨l,k,xs,rfl,rfl,hH,h1,h2,hz,q⟩:=h
 cases rx
 obtain ⟨t,rfl⟩:=ry
 obtain ⟨z,its,n,r,hl,e⟩:=I.lstM hH
 have hlen:its.toArray.size * k.toNat<=sizeLine:=by rw [List.size_toArray,<- hl]; exact hz
 have hcap:¬ its.toArray.size * k.toNat > (2 ^ 63 - 1) / 8:=by
  have:(sizeLine:Nat)<=(2 ^ 63 - 1) / 8:=by decide
  omega
 have hfit:¬ (!Builtin.List.listFitsIndex k)=true:=by
  rw [fitsIndex_both h1 h2]
  exact Bool.false_ne_true
 have hlong:¬ Builtin.List.listTooLong (its.toArray.size * k.toNat)=true:=by
  rw [jgf hlen]
  exact Bool.false_ne_true
 have hnew:List.foldl (fun x1 x2=>x1++x2) #[] (List.replicate (if its.toArray.isEmpty=true then 0 else k.toNat) its.toArray)=(List.replicate k.toNat its).flatten.toArray:=by
  have f0:∀ m:Nat,List.foldl (fun x1 x2=>x1++x2) #[] (List.replicate m its.toArray)=(List.replicate m its).flatten.toArray:=fun m=>by
   have:=jb2 its m []
   rw [List.nil_append] at this
   exact this
  rw [f0]
  cases its with
  | nil=>simp
  | cons a r'=>rw [if_neg (by simp)]
 refine wpAny_binaryOp_repeat_ref (T := "list") (U := "int") (by decide) ⟨_,e,rfl⟩ (fun s'=>typeIs_int s' k t) noFill_list_mul F.fills_int_mul F.slot_int_rmul repeat_list F.slot_int_index.lookup
  (call_meets F.slot_int_rmul (typeIs_int s k t) F.entry_int_rmul (F.args_int_rmul_2 _ _) (int___rmul___int_list k t l its.toArray n)
   ⟨e,rfl,⟨_,e,rfl⟩,call_meets F.slot_list_mul ⟨_,e,rfl⟩ F.entry_list_mul (F.args_list_mul_2 _ _) (AutoListH.list___mul___list_int_3 l its.toArray n k t hfit hcap hlong) ⟨e,?_⟩⟩)
 rw [hnew]
 exact ⟨.ref _,_,I.lnew (t':=s.toks) (r.rep k.toNat) (by rw [jfk,Nat.mul_comm]; exact hz),rfl,q _ I.fresh⟩

end

section
variable {prog:Program}{w:World}{A:Around}{E:Value->Shared->Prop}{s:Shared}
end

section
variable {X:Cx}
end

section
variable {κ:Type}[DecidableEq κ]
noncomputable def valV (kvs:List (κ×V))(k:κ):Option V:=(kvs.find? fun kv=>decide (kv.1=k)).map (·.2)
noncomputable def putK (kvs:List (κ×V))(k:κ)(v:V):List (κ×V):=
 if (kvs.any fun kv=>decide (kv.1=k))=true then kvs.map (fun kv=>if kv.1=k then (kv.1,v) else kv) else kvs++[(k,v)]
noncomputable def jmt (kvs:List (κ×V))(k:κ):List (κ×V):=kvs.filter fun kv=>decide (kv.1≠k)

theorem jbG {p:κ×V}{r:List (κ×V)}{k:κ}(e:p.1=k):valV (p::r) k=some p.2:=by simp [valV,List.find?_cons,e]
theorem jbH {p:κ×V}{r:List (κ×V)}{k:κ}(e:¬ p.1=k):valV (p::r) k=valV r k:=by simp [valV,List.find?_cons,e]
theorem jd4 (k:κ):∀ kvs:List (κ×V),(kvs.any fun kv=>decide (kv.1=k))=(valV kvs k).isSome
 | []=>rfl
 | p::r=>by
  rw [List.any_cons]
  by_cases e:p.1=k
  ·simp only [jbG e,decide_eq_true e,Bool.true_or,Option.isSome_some]
  ·rw [jbH e,decide_eq_false e,Bool.false_or]; exact jd4 k r
theorem jbb (kvs:List (κ×V))(k:κ)(v:V):(putK kvs k v).length<=kvs.length + 1:=by
 unfold putK
 split
 ·rw [List.length_map]; omega
 ·rw [List.length_append,List.length_cons,List.length_nil]; omega
theorem RelO.isSome_eq {o:Option V}{u:Option Value}(r:RelO o u):o.isSome=u.isSome:=by
 cases o with
 | none=>cases u with
  | none=>rfl
  | some _=>exact (show False from r).elim
 | some _=>cases u with
  | none=>exact (show False from r).elim
  | some _=>rfl
theorem KV.val {kvs:List (κ×V)}{vs:List (κ×Value)}(r:KV kvs vs)(k:κ):RelO (valV kvs k) (valueAt vs k):=by
 unfold KV at r
 induction r with
 | nil=>exact True.intro
 | @cons p q ps qs h t ih=>
  obtain ⟨h1,h2⟩:=h
  by_cases e:p.1=k
  ·have e':q.1=k:=h1.symm.trans e
   have b:valueAt (q::qs) k=some q.2:=by simp [valueAt,List.find?_cons,e']
   rw [jbG e,b]; exact h2
  ·have e':¬ q.1=k:=fun z=>e (h1.trans z)
   have b:valueAt (q::qs) k=valueAt qs k:=by simp [valueAt,List.find?_cons,e']
   rw [jbH e,b]; exact ih
theorem KV.any {kvs:List (κ×V)}{vs:List (κ×Value)}(r:KV kvs vs)(k:κ):(kvs.any fun kv=>decide (kv.1=k))=vs.any fun kv=>decide (kv.1=k):=by
 unfold KV at r
 induction r with
 | nil=>rfl
 | cons h t ih=>rw [List.any_cons,List.any_cons,ih,h.1]
theorem KV.repl {kvs:List (κ×V)}{vs:List (κ×Value)}(r:KV kvs vs)(k:κ){y:V}{u:Value}(ry:RelV y u) :
  KV (kvs.map fun kv=>if kv.1=k then (kv.1,y) else kv) (vs.map fun kv=>if kv.1=k then (kv.1,u) else kv):=by
 unfold KV at r ⊢
 induction r with
 | nil=>exact .nil
 | @cons p q ps qs h t ih=>
  rw [List.map_cons,List.map_cons]
  refine .cons ?_ ih
  obtain ⟨h1,h2⟩:=h
  by_cases e:p.1=k
  ·rw [if_pos e,if_pos (h1.symm.trans e)]; exact ⟨h1,ry⟩
  ·rw [if_neg e,if_neg (fun z=>e (h1.trans z))]; exact ⟨h1,h2⟩
theorem KV.put {kvs:List (κ×V)}{vs:List (κ×Value)}(r:KV kvs vs)(k:κ){y:V}{u:Value}(ry:RelV y u):KV (putK kvs k y) (stored vs k u):=by
 unfold putK stored
 rw [r.any k]
 by_cases e:(vs.any fun kv=>decide (kv.1=k))=true
 ·rw [if_pos e,if_pos e]; exact r.repl k ry
 ·rw [if_neg e,if_neg e]; exact Paired.snoc r ⟨rfl,ry⟩
theorem KV.length {kvs:List (κ×V)}{vs:List (κ×Value)}(r:KV kvs vs):kvs.length=vs.length:=Paired.length r
end

theorem jgh {P:Program}{w:World}{k:Key}{u:Value}(r:RelV (kV k) u):(jap P w).is k u=true:=by
 cases k with
 | inl i=>obtain ⟨t,e⟩:=(show ∃ t,u=Value.int i t from r); subst e; exact jdL P w i t
 | inr x=>obtain ⟨t,e⟩:=(show ∃ t,u=Value.str x t from r); subst e; exact jdK P w x t
theorem jde {P:Program}{w:World}:∀ {ks:List Key} {us:List Value},Vals (ks.map kV) us->ItemsAre (jap P w) ks us
 | [],_,r=>by rw [List.map_nil] at r; cases r; exact .nil
 | k::ks,_,r=>by
  rw [List.map_cons] at r
  cases r with
  | cons h t=>exact .cons (jgh h) (jde t)

noncomputable abbrev KT (H:Hp):List (List Key×V)->List (List Key×Addr×Value)->Prop:=Paired fun p q=>p.1=q.1/\H q.2.1=some (.tup (p.1.map kV))/\RelV p.2 q.2.2
theorem KT.val {H:Hp}{kvs:List (List Key×V)}{xs:List (List Key×Addr×Value)}(r:KT H kvs xs)(k:List Key):RelO (valV kvs k) ((atKey xs k).map (·.2)):=by
 induction r with
 | nil=>exact True.intro
 | @cons p q ps qs h t ih=>
  obtain ⟨h1,_,h2⟩:=h
  by_cases e:p.1=k
  ·have e':q.1=k:=h1.symm.trans e
   have b:atKey (q::qs) k=some q.2:=by simp [atKey,List.find?_cons,e']
   rw [jbG e,b]; exact h2
  ·have e':¬ q.1=k:=fun z=>e (h1.trans z)
   have b:atKey (q::qs) k=atKey qs k:=by simp [atKey,List.find?_cons,e']
   rw [jbH e,b]; exact ih
theorem KT.repl {H:Hp}{kvs:List (List Key×V)}{xs:List (List Key×Addr×Value)}(r:KT H kvs xs)(k:List Key){y:V}{u:Value}(ry:RelV y u) :
  KT H (kvs.map fun kv=>if kv.1=k then (kv.1,y) else kv) (xs.map (putAt k u)):=by
 induction r with
 | nil=>exact .nil
 | @cons p q ps qs h t ih=>
  rw [List.map_cons,List.map_cons]
  refine .cons ?_ ih
  obtain ⟨h1,h2,h3⟩:=h
  unfold putAt
  by_cases e:p.1=k
  ·rw [if_pos e,if_pos (h1.symm.trans e)]; exact ⟨h1,h2,ry⟩
  ·rw [if_neg e,if_neg (fun z=>e (h1.trans z))]; exact ⟨h1,h2,h3⟩
theorem KT.put {H:Hp}{kvs:List (List Key×V)}{xs:List (List Key×Addr×Value)}(r:KT H kvs xs)(k:List Key){b:Addr}{y:V}{u:Value}(hb:H b=some (.tup (k.map kV)))(ry:RelV y u) :
  KT H (putK kvs k y) (storedH xs k b u):=by
 have e:(kvs.any fun kv=>decide (kv.1=k))=(atKey xs k).isSome:=by
  rw [jd4,(r.val k).isSome_eq,Option.isSome_map]
 unfold putK storedH
 rw [e]
 by_cases q:(atKey xs k).isSome=true
 ·rw [if_pos q,if_pos q]; exact r.repl k ry
 ·rw [if_neg q,if_neg q]; exact Paired.snoc r ⟨rfl,hb,ry⟩
theorem KT.keeps {H H':Hp}{kvs:List (List Key×V)}{xs:List (List Key×Addr×Value)}(r:KT H kvs xs)(ht:∀ b ys,H b=some (.tup ys)->H' b=some (.tup ys)):KT H' kvs xs:=
 Paired.mapP r fun _ _ z=>⟨z.1,ht _ _ z.2.1,z.2.2⟩

section
variable {P:Program}{w:World}{H:Hp}{h:Heap}{a:Addr}
theorem jiN {u:HO}(ok:HOk P w H h)(e:Rd H a u):jay P w H h a u:=e.ok ok
theorem jgo {kvs:List (Key×V)}(ok:HOk P w H h)(e:Rd H a (.dK kvs)):kvs.length<=sizeLine/\(a == sysModules)=false/\∃ vs,KV kvs vs/\h.DictOf (jap P w) a vs:=
 show jay P w H h a (.dK kvs) from jiN ok e
theorem jjW {kvs:List (Key×V)}(ok:HOk P w H h)(e:H a=some (.dK kvs)):kvs.length<=sizeLine/\(a == sysModules)=false/\∃ vs,KV kvs vs/\h.DictOf (jap P w) a vs:=jgo ok (.inl e)
theorem jfm {ks:List Key}(ok:HOk P w H h)(e:H a=some (.tup (ks.map kV))):(tupleKind (jap P w)).is h ks a:=by
 obtain ⟨_,its,r,o,h1,h2,n,h3,_⟩:=(show jay P w H h a (.tup (ks.map kV)) from ok a _ e)
 exact ⟨o,its.toArray,n,h1,h2,h3,by simpa using jde r⟩
theorem jih {kvs:List (List Key×V)}(ok:HOk P w H h)(e:Rd H a (.dT kvs)):kvs.length<=sizeLine/\(a == sysModules)=false/\
  ∃ xs,KT H kvs xs/\h.DictOfH (tupleKind (jap P w)) a xs:=by
 obtain ⟨z,y,xs,r,o,es,ep,h1,h2,h3,h4,h5⟩:=(show jay P w H h a (.dT kvs) from jiN ok e)
 refine ⟨z,y,xs,r,o,es,ep,h1,h2,h3,h4,fun x hx=>?_,h5⟩
 have all:∀ {l:List (List Key×V)} {m:List (List Key×Addr×Value)},KT H l m->∀ x∈m,(tupleKind (jap P w)).is h x.1 x.2.1:=by
  intro l m q
  induction q with
  | nil=>intro x hx; exact nomatch hx
  | @cons p q ps qs hq t ih=>
   intro x hx
   rcases List.mem_cons.mp hx with e | hx
   ·subst e
    exact jfm ok (by rw [<- hq.1]; exact hq.2.1)
   ·exact ih x hx
 exact all r x hx
theorem jlq {kvs:List (List Key×V)}(ok:HOk P w H h)(e:H a=some (.dT kvs)):kvs.length<=sizeLine/\(a == sysModules)=false/\
  ∃ xs,KT H kvs xs/\h.DictOfH (tupleKind (jap P w)) a xs:=jih ok (.inl e)
end

noncomputable def DGet (H:Hp)(a:Addr)(y:V)(r:Option V):Prop:=
 (∃ kvs k,Rd H a (.dK kvs)/\y=kV k/\r=valV kvs k)\/∃ kvs k b,Rd H a (.dT kvs)/\y=.ref b/\H b=some (.tup (k.map kV))/\r=valV kvs k
noncomputable def DPut (H:Hp)(a:Addr)(y v:V)(H':Hp):Prop:=
 (∃ kvs k,H a=some (.dK kvs)/\y=kV k/\kvs.length < sizeLine/\H'=upd H a (.dK (putK kvs k v)))\/
 ∃ kvs k b,H a=some (.dT kvs)/\y=.ref b/\H b=some (.tup (k.map kV))/\kvs.length < sizeLine/\H'=upd H a (.dT (putK kvs k v))
theorem DGet.k {H:Hp}{a:Addr}{kvs:List (Key×V)}{k:Key}(e:H a=some (.dK kvs)):DGet H a (kV k) (valV kvs k):=.inl ⟨kvs,k,.inl e,rfl,rfl⟩
theorem DGet.t {H:Hp}{a b:Addr}{kvs:List (List Key×V)}{k:List Key}(e:H a=some (.dT kvs))(eb:H b=some (.tup (k.map kV))):DGet H a (.ref b) (valV kvs k):=.inr ⟨kvs,k,b,.inl e,rfl,eb,rfl⟩
theorem DPut.k {H:Hp}{a:Addr}{kvs:List (Key×V)}{k:Key}{v:V}(e:H a=some (.dK kvs))(hl:kvs.length < sizeLine):DPut H a (kV k) v (upd H a (.dK (putK kvs k v))):=.inl ⟨kvs,k,e,rfl,hl,rfl⟩
theorem DPut.t {H:Hp}{a b:Addr}{kvs:List (List Key×V)}{k:List Key}{v:V}(e:H a=some (.dT kvs))(eb:H b=some (.tup (k.map kV)))(hl:kvs.length < sizeLine) :
  DPut H a (.ref b) v (upd H a (.dT (putK kvs k v))):=.inr ⟨kvs,k,b,e,rfl,eb,hl,rfl⟩

section
variable {X:Cx}{pins:List (Addr×Obj)}{σ:St}{H:Hp}{s:Shared}{a:Addr}{y v:V}{u r:Value}{o:Option V}{A:Around}{E:Value->Shared->Prop}

theorem Inv.big (I:Inv X pins σ H s):sysModules < s.heap.objs.size:=by
 have h:mainGlobals < s.heap.objs.size:=(I.mod.glob.keeps I.bk).lt
 exact Nat.lt_trans (by decide) h

theorem jfD {Q:Value->Shared->Prop}(hu:A.units + 1 < cLine)(I:Inv X pins σ H s)(g:DGet H a y (some v))(ry:RelV y u)(h:∀ w' s',Inv X pins σ H s'->RelV v w'->Q w' s') :
  wpAny (model X.prog X.w) A (getItem (.ref a) u) Q E s:=by
 rcases g with ⟨kvs,k,e,ey,l⟩ | ⟨kvs,k,b,e,ey,eb,l⟩
 ·subst ey
  obtain ⟨z,hd,vs,rel,dd⟩:=jgo I.hok e
  obtain ⟨w',hw,rw'⟩:=RelO.some_of (v:=v) (o:=valueAt vs k) (by rw [l]; exact rel.val k)
  exact wpAny_getItem_of (jgh ry) dd.mapOf hw (h w' _ (I.tok _) rw')
 ·subst ey
  cases (show u=Value.ref b from ry)
  obtain ⟨z,hd,xs,rel,dd⟩:=jih I.hok e
  obtain ⟨w',hw,rw'⟩:=RelO.some_of (v:=v) (o:=(atKey xs k).map (·.2)) (by rw [l]; exact rel.val k)
  obtain ⟨p,hp,hp2⟩:=Option.map_eq_some_iff.mp hw
  refine wpAny_getItem_heap (tupleKind_room_in1 hu) (jfm I.hok eb) dd hp ?_
  rw [hp2]
  exact h w' _ (I.tok _) rw'
theorem jdX {h':Heap}{t':Nat}{ob:HO}(I:Inv X pins σ H s)(mu:Mut (H a))(hs:Heap.SameBut a s.heap h')(he:∃ q,h'.get? a=some q)(new:jay X.prog X.w (upd H a ob) h' a ob) :
  Inv X pins σ (upd H a ob) { s with heap:=h',toks:=t' }:=
 I.write (x:=a) (e:=a) mu (.inl rfl) (fun b q hb z=>(hs.2 b hb).trans z) he new
theorem jgY {P:Program}{w:World}{H':Hp}{h':Heap}{kvs:List (Key×V)}{vs:List (Key×Value)}(z:kvs.length<=sizeLine)(hd:(a == sysModules)=false)(rel:KV kvs vs)(dd:h'.DictOf (jap P w) a vs) :
  jay P w H' h' a (.dK kvs):=⟨z,hd,vs,rel,dd⟩
theorem jfC {H':Hp}{Q:Unit->Shared->Prop}(hu:A.units + 1 < cLine)(I:Inv X pins σ H s)(g:DPut H a y v H')(ry:RelV y u)(rv:RelV v r)(h:∀ s',Inv X pins σ H' s'->Q () s') :
  wpAny (model X.prog X.w) A (setItem (.ref a) u r) Q E s:=by
 rcases g with ⟨kvs,k,e,ey,l,eH⟩ | ⟨kvs,k,b,e,ey,eb,l,eH⟩
 ·subst ey eH
  obtain ⟨z,hd,vs,rel,dd⟩:=jjW I.hok e
  have hz:vs.length<=sizeLine:=by rw [<- rel.length]; exact z
  have hl:(putK kvs k v).length<=sizeLine:=by have:=jbb kvs k v; omega
  refine wpAny_setItem_pairs (hsz:=hz) (jgh ry) dd fun h' dd' hs=>h _ ?_
  have he:∃ q,h'.get? a=some q:=let ⟨q,_,_,hq,_⟩:=dd'; ⟨q,hq⟩
  exact jdX I (by rw [e]; exact True.intro) hs he (jgY hl hd (rel.put k rv) dd')
 ·subst ey eH
  cases (show u=Value.ref b from ry)
  obtain ⟨z,hd,xs,rel,dd⟩:=jlq I.hok e
  have hz:xs.length<=sizeLine:=by rw [<- Paired.length rel]; exact z
  have hl:(putK kvs k v).length<=sizeLine:=by have:=jbb kvs k v; omega
  refine wpAny_setItem_heap (hsz:=hz) (tupleKind_room_in1 hu) (jfm I.hok eb) dd fun h' dd' hs=>h _ ?_
  obtain ⟨q,es,ep,hq,h2,h3,h4,_,h5⟩:=dd'
  refine jdX I (by rw [e]; exact True.intro) hs ⟨q,hq⟩ ⟨hl,hd,_,(rel.put k eb rv).keeps fun c ys ec=>?_,q,es,ep,hq,h2,h3,h4,h5⟩
  rw [jac (jla ec e (fun z=>nomatch z))]
  exact ec
end

section
variable {X:Cx}{pins:List (Addr×Obj)}{σ:St}{H:Hp}{s:Shared}{a:Addr}{kvs:List (Key×V)}{k:Key}{u:Value}{A:Around}{E:Value->Shared->Prop}
theorem jlr {Q:Value->Shared->Prop}(I:Inv X pins σ H s)(e:Rd H a (.dK kvs))(h:∀ t s',Inv X pins σ H s'->Q (.int kvs.length t) s'):wpAny (model X.prog X.w) A (call (.builtin "len") [.ref a]) Q E s:=by
 obtain ⟨z,hd,vs,rel,dd⟩:=jgo I.hok e
 refine call_len_dict hd dd (by rw [<- rel.length]; rw [sizeLine_eq] at z; omega) ?_
 rw [<- rel.length]
 exact h _ _ (I.tok _)
end

theorem jdW {X:Cx}{pins:List (Addr×Obj)}{σ:St}{H:Hp}{s:Shared}{a:Addr}{y:V}{o:Option V}(I:Inv X pins σ H s)(g:DGet H a y o):s.TypeIs (.ref a) "dict" := by
 rcases g with ⟨kvs,k,e,_,_⟩ | ⟨kvs,k,b,e,_,_,_⟩
 ·obtain ⟨_,_,vs,_,dd⟩:=jgo I.hok e
  exact dd.typeIs
 ·obtain ⟨_,_,xs,_,dd⟩:=jih I.hok e
  exact dd.typeIs
section
variable {X:Cx}{o i e value:Expr}{pos pos' tpos:Pos}{td ty tv:TE}
end

theorem jeq {P:Program}{w:World}{H:Hp}(h:Heap)(hb:sysModules < h.objs.size):jay P w H (h.push { cls:=.type "dict",data:=.dict #[] }) h.objs.size (.dK []):=
 ⟨Nat.zero_le _,beq_eq_false_iff_ne.mpr (Ne.symm (Nat.ne_of_lt hb)),[],.nil,Heap.DictOf.new h⟩
noncomputable def jix:TE:=fun _ H Q=>∀ p,H p=none->Q (.ref p) (upd H p (.dK []))
section
variable {X:Cx}{pos:Pos}
theorem jgb:PE X (.Dict [] [] pos) jix:=fun pins s σ H Q I h=>
 wpAny_Dict_empty ⟨.ref s.heap.objs.size,_,I.laid (a:=s.heap.objs.size) (o:=.dK []) (t':=s.toks) (fun _ _ q=>Heap.get?_push_of_some _ q) (Nat.le_refl _) (jeq s.heap I.big),rfl,h _ (I.hok.fresh (Nat.le_refl _))⟩
end

noncomputable def jea:List (TE×TE)->St->Hp->(List (V×V)->Hp->Prop)->Prop
 | [],_,H,Q=>Q [] H
 | (tk,tv)::r,σ,H,Q=>tk σ H fun x H1=>tv σ H1 fun y H2=>jea r σ H2 fun ps H3=>Q ((x,y)::ps) H3
noncomputable abbrev VV:List (V×V)->List (Value×Value)->Prop:=Paired fun p q=>RelV p.1 q.1/\RelV p.2 q.2
noncomputable def PPs (X:Cx)(pos:Pos)(keys:List (Option Expr))(values:List Expr)(trs:List (TE×TE)):Prop:=
 ∀ (pins:List (Addr×Obj)) (s:Shared) (σ:St) (H:Hp) (Q:List (V×V)->Hp->Prop),Inv X pins σ H s->jea trs σ H Q->
  wpAny (model X.prog X.w) X.A (evalPairs (pairTrees keys values X.env pos)) (fun vs s'=>∃ ps H',Inv X pins σ H' s'/\VV ps vs/\Q ps H') X.xe s
theorem jhq {X:Cx}{pos:Pos}:PPs X pos [] [] []:=fun pins s σ H Q I h=>pairTrees_nil_walk ⟨[],H,I,.nil,h⟩
theorem jf5 {X:Cx}{pos:Pos}{k v:Expr}{ks:List (Option Expr)}{vs:List Expr}{tk tv:TE}{trs:List (TE×TE)}(hk:PE X k tk)(hv:PE X v tv)(hr:PPs X pos ks vs trs) :
  PPs X pos (some k::ks) (v::vs) ((tk,tv)::trs):=fun pins s σ H Q I h=>
 pairTrees_cons_walk (thn (hk pins s σ H _ I h) fun u s1 ⟨x,H1,I1,rx,q1⟩=>thn (hv pins s1 σ H1 _ I1 q1) fun w2 s2 ⟨y,H2,I2,ry,q2⟩=>
  thn (hr pins s2 σ H2 _ I2 q2) fun ws s3 ⟨ps,H3,I3,rel,q3⟩=>⟨(x,y)::ps,H3,I3,.cons ⟨rx,ry⟩ rel,q3⟩)

noncomputable def jbX (kvs more:List (Key×V)):List (Key×V):=more.foldl (fun acc kv=>putK acc kv.1 kv.2) kvs
theorem KV.merge:∀ {more:List (Key×V)} {rs:List (Key×Value)} {kvs:List (Key×V)} {vs:List (Key×Value)},KV more rs->KV kvs vs->KV (jbX kvs more) (merged vs rs):=by
 intro more rs kvs vs r
 unfold KV at r
 induction r generalizing kvs vs with
 | nil=>intro q; exact q
 | @cons p q ps qs h t ih=>
  intro r0
  have e:KV (putK kvs p.1 p.2) (stored vs q.1 q.2):=by
   have:=r0.put p.1 h.2
   rw [<- h.1]; exact this
  exact ih e
theorem jbm:∀ (more kvs:List (Key×V)),(jbX kvs more).length<=kvs.length + more.length
 | [],kvs=>by show kvs.length<=kvs.length + 0; omega
 | p::r,kvs=>by
  have h1:=jbm r (putK kvs p.1 p.2)
  have h2:=jbb kvs p.1 p.2
  show (jbX (putK kvs p.1 p.2) r).length<=_
  rw [List.length_cons]; omega
theorem jcz {P:Program}{w:World}:∀ {kvs:List (Key×V)} {ws:List (Value×Value)},VV (kvs.map fun kv=>(kV kv.1,kv.2)) ws->∃ rs,Carries (jap P w) ws rs/\KV kvs rs
 | [],_,r=>by rw [List.map_nil] at r; cases r; exact ⟨[],True.intro,.nil⟩
 | p::kvs,_,r=>by
  rw [List.map_cons] at r
  cases r with
  | @cons a b as bs h t=>
   obtain ⟨rs,c,q⟩:=jcz (P:=P) (w:=w) t
   obtain ⟨b1,b2⟩:=b
   exact ⟨(p.1,b2)::rs,⟨jgh h.1,rfl,c⟩,.cons ⟨rfl,h.2⟩ q⟩
noncomputable def jkQ (trs:List (TE×TE)):TE:=fun σ H Q=>∀ p,H p=none->jea trs σ (upd H p (.dK [])) fun ps H2=>H2 p=some (.dK [])/\∃ kvs:List (Key×V),ps=kvs.map (fun kv=>(kV kv.1,kv.2))/\kvs.length<=15/\Q (.ref p) (upd H2 p (.dK (jbX [] kvs)))
theorem jhB {X:Cx}{pos:Pos}{keys:List (Option Expr)}{values:List Expr}{trs:List (TE×TE)}(h:PPs X pos keys values trs)(hall:keys.all (·.isSome)=true)(hl:keys.length=values.length)(h0:keys≠[])
  (h15:keys.length<=15):PE X (.Dict keys values pos) (jkQ trs):=by
 intro pins s σ H Q I q
 have hn:=I.hok.fresh (Nat.le_refl s.heap.objs.size)
 have I1:=I.laid (a:=s.heap.objs.size) (o:=.dK []) (h':=s.heap.push { cls:=.type "dict",data:=.dict #[] }) (t':=s.toks) (fun _ _ q=>Heap.get?_push_of_some _ q) (Nat.le_refl _) (jeq s.heap I.big)
 refine wpAny_Dict_walk (knd:=jap X.prog X.w) hall hl h0 h15 (thn (h pins _ σ _ _ I1 (q _ hn)) fun ws s2 ⟨ps,H2,I2,rel,e,kvs,ep,lk,q2⟩=>?_)
 subst ep
 obtain ⟨rs,c,rk⟩:=jcz (P:=X.prog) (w:=X.w) rel
 obtain ⟨z,hd,vs0,r0,dd⟩:=jjW I2.hok e
 cases r0
 refine ⟨rs,c,dd,fun h' dd' hs=>⟨.ref s.heap.objs.size,_,?_,rfl,q2⟩⟩
 have hz:(jbX [] kvs).length<=sizeLine:=by
  have h1:=jbm kvs []
  rw [List.length_nil] at h1
  rw [sizeLine_eq]; omega
 have he:∃ q,h'.get? s.heap.objs.size=some q:=let ⟨q,_,_,hq,_⟩:=dd'; ⟨q,hq⟩
 exact jdX I2 (by rw [e]; exact True.intro) hs he (jgY hz hd (rk.merge .nil) dd')

structure M1 (X:Cx)(o:Expr)(m:Str)(apos:Pos)(e:Expr)(cpos:Pos):Prop where
 base:attributeBase o m X.env (eval o X.env)=eval o X.env
 few:((backTo cpos (starEach [e] X.env)).all (fun x=>!x.1) && (backToKw cpos (keywordEach [] X.env)).all (fun x=>x.1.isSome)
  && decide (([e]:List Expr).length + ([]:List Keyword).length + (if ([]:List Keyword).isEmpty then 0 else 1) < 30))=true
 line:(apos.endLine == cpos.line)=true
 trees:backTo cpos (starEach [e] X.env)=[(false,eval e X.env)]
structure M2 (X:Cx)(o:Expr)(m:Str)(apos:Pos)(e f:Expr)(cpos:Pos):Prop where
 base:attributeBase o m X.env (eval o X.env)=eval o X.env
 few:((backTo cpos (starEach [e,f] X.env)).all (fun x=>!x.1) && (backToKw cpos (keywordEach [] X.env)).all (fun x=>x.1.isSome)
  && decide (([e,f]:List Expr).length + ([]:List Keyword).length + (if ([]:List Keyword).isEmpty then 0 else 1) < 30))=true
 line:(apos.endLine == cpos.line)=true
 trees:backTo cpos (starEach [e,f] X.env)=[(false,eval e X.env),(false,eval f X.env)]

section
variable {X:Cx}{pins:List (Addr×Obj)}{σ:St}{H:Hp}{s:Shared}{a:Addr}{y d:V}{u r:Value}{o:Option V}{A:Around}{E:Value->Shared->Prop}
end

section
variable {X:Cx}{o e f:Expr}{apos cpos:Pos}{td ty tx:TE}
end

section
variable {X:Cx}{pins:List (Addr×Obj)}{σ:St}{H:Hp}{s:Shared}{a:Addr}{kvs:List (Key×V)}{A:Around}{E:Value->Shared->Prop}
end

section
variable {X:Cx}{pins:List (Addr×Obj)}{σ:St}{H:Hp}{s:Shared}{a:Addr}{y:V}{u:Value}{A:Around}{E:Value->Shared->Prop}
end
end L2

namespace Att
open PySem PySem.W PySem.Calls PyProof.Rows

theorem jb0 {P:Params}{h:Heap}:∀ (ns:List Int) (vs:List Value),WellAll P h vs (ns.map WData.int)->IntsAre vs ns:=by
 intro ns
 induction ns with
 | nil=>
  intro vs w
  rw [List.map_nil] at w
  cases w
  exact .nil
 | cons n ns ih=>
  intro vs w
  rw [List.map_cons] at w
  cases w with
  | cons a b=>
   cases a
   exact .cons _ _ (ih _ b)

theorem je3 {l:OpenLaw}{n:Nat}(hn:l.most=some n){P:Params}{h:Heap}{args:List WData}{vals:List Value}
  (hpre:l.row.toRowW.claim.pre args=true) (hwl:WellAll P h vals args) :
  ∃ a vs ns,vals=[Value.ref a]/\args=[WData.list (ns.map WData.int)]/\h.get? a=some { cls:=.type "list",data:=.seq vs.toArray }/\IntsAre vs ns/\ns.length<=n:=by
 have hsh:WShape.hasAll [] args [.list .int]=true:=(pre_splitW hpre).1
 have hc:l.pre.holds [] { args:=args }=true:=(pre_splitW hpre).2
 obtain ⟨d,r,rfl,h1,h2⟩:=hasAllW_cons hsh
 obtain rfl:=hasAllW_nil h2
 obtain ⟨xs,rfl,h3⟩:=hasW_list h1
 obtain ⟨ns,rfl⟩:=items_int h3
 have hlen:ns.length<=n:=by
  unfold OpenLaw.pre at hc
  have h4:(WTm.not (.lt (.lit (.int (n:Int))) (.len (.arg 0)))).holds [] { args:=[.list (ns.map .int)] }=true:=by
   have h4:=(holds_andW hc).1
   rw [hn] at h4
   exact h4
  have h5:=condW_of h4 (w_not (w_lt w_lit (w_len_list (w_arg rfl))))
  rw [List.length_map] at h5
  refine Nat.le_of_not_lt fun q=>?_
  have q':(n:Int) < ((ns.length:Nat):Int):=by omega
  first
   | (rw [decide_eq_true q'] at h5; exact absurd h5 (by decide))
   | (simp at h5; omega)
 cases hwl with
 | cons w1 w2=>
  cases w2
  cases w1 with
  | list ho hall=>exact ⟨_,_,ns,rfl,rfl,ho,jb0 ns _ hall,hlen⟩

theorem jfa (l:OpenLaw)(args:List WData):l.row.toRowW.claim.post args (.bool true) args=true:=
 postW_of (r:=l.row.toRowW) (X:=(true == true))
  (show WShape.has [] (.bool true) .bool=true by first | rfl | decide | simp [WShape.has,WShape.arms,WShape.armsAll])
  (show (WTm.eq .res (.lit (.bool true))).value [] { args:=args,res:=some (.bool true),after:=args }=some (.bool (true == true)) from w_eq_bool (w_res rfl) w_lit) rfl

theorem attach_call {l:OpenLaw}{n:Nat}{q:Program}{loose:List Str}{XP:(Str->Option Value)->Heap->Prop}{YP:World->Heap->Prop}{d:DefRec}
  (hn:l.most=some n) (hdf:d.params.defaults=[])
  (call:∀ (w:World) (s₀ s₁:Shared) (mg mb:Str->Option Value) (fa:Addr) (o:Obj) (pm cd doc:Value) (a:Addr) (vs:List Value) (ns:List Int),
   Ground q loose [] XP w s₀ mg mb s₁.heap->YP w s₁.heap->
   s₁.heap.get? fa=some o->o.data=.func (docDef d.name d.params d.body d.scope pm cd doc)->s₁.heap.CodeRec cd d.name->mg d.name=some (.ref fa)->
   s₁.heap.get? a=some { cls:=.type "list",data:=.seq vs.toArray }->IntsAre vs ns->ns.length<=n->s₁.gens=#[]->
   codeAny (model l.prog w) callerA (.call (.ref fa) ⟨[.ref a],[]⟩) (fun r s'=>r=.ok (.ret (.bool true))/\OldK s₁.heap s'.heap/\s'.os=s₁.os/\AllBare s'.gens) s₁) :
  WalkO q loose XP YP l.row.toRowW d [] (fun f vs=>PySem.call f vs):=by
 intro w s₀ s₁ mg mb G Y fa o pm cd doc dV kV ho hd hcd hD hmg hg args vals as hpre hlay hrd hwl hlo
 obtain rfl:dV=.none:=Dflts.none hD hdf
 obtain rfl:kV=.none:=Dflts.noKw hD
 obtain ⟨a,vs,ns,rfl,rfl,hobj,hints,hlen⟩:=je3 hn hpre hwl
 refine enter_call (codeAny_mono (call w s₀ s₁ mg mb fa o pm cd doc a vs ns G Y ho (fd_plain hd) hcd hmg hobj hints hlen hg) fun r s' hq=>?_)
 obtain ⟨rfl,h2,h3,h4⟩:=hq
 exact ⟨.inl ⟨.bool true,.bool true,[],rfl,fun _=>rfl,.bool true,jfa l _,fun _=>⟨List.Pairwise.nil,fun _ hm=>(nomatch hm)⟩⟩,h2,h3,h4⟩

section
variable {prog:Program}{w:World}{A:Around}{E:Value->Shared->Prop}{s:Shared}{K:Frag}

end
end Att

namespace L2
open PySem PySem.Spec PyProof.Rows

theorem jcU:∀ {vs:List Value} {ns:List Int},IntsAre vs ns->Vals (ns.map V.int) vs
 | _,_,.nil=>.nil
 | _,_,.cons n t h=>.cons ⟨t,rfl⟩ (jcU h)

noncomputable def Only (H:Hp):Prop:=∀ b,H b=none\/∃ o xs,H b=some (.frz o (.lst xs))

theorem law_call {P : Program}{w : World}{K : PySem.W.Frag}{mg mb : Str -> Option Value}{CX : CXT}{k : Nat}{fa a : Addr}{fd : FuncData}{x : Str}{sp : Sp}{s₁ : Shared}{vs : List Value}{ns : List Int}
    (KX : K.In s₁.heap) (hsys : ∃ o, K.lookup sysModules = some o /\ o.cls = .type "dict") (hns : s₁.heap.Ns mainGlobals mg) (hb : s₁.heap.Ns builtinsNs mb) (hbb : ∀ x : Str, x ≠ "__name__" -> mb x = bootBuiltins x) (hlim : s₁.heap.NoLimit) (hg : s₁.gens = #[])
    (ha : s₁.heap.get? a = some { cls := .type "list", data := .seq vs.toArray }) (hi : IntsAre vs ns) (hl : ns.length <= sizeLine) (hr : Room k callerA)
    (F : ∀ base : Heap, K.In base -> base.Ns mainGlobals mg -> FnOk P w K mg base CX k fa fd [x] sp) (hbind : ∀ (s : Shared) (u : Value), BindsTo s fd ⟨[u], []⟩ [(x, u)])
    (hsp : ∀ H : Hp, Only H -> SqL K H a (ns.map V.int) -> sp [.ref a] H (fun v _ => v = .bl true) fun _ _ _ => False)
    (hCX : ∀ H e s', CX [] H s₁ (fun _ _ _ => False) e s' -> False) :
    codeAny (model P w) callerA (.call (.ref fa) ⟨[.ref a], []⟩) (fun r s' => r = .ok (.ret (.bool true)) /\ OldK s₁.heap s'.heap /\ s'.os = s₁.os /\ AllBare s'.gens) s₁ := by
  have rv := jcU hi
  have lenV := hi.length
  have core : ∀ H : Hp, Only H -> SqL K H a (ns.map V.int) -> HOk P w H s₁.heap -> (∀ b, H b ≠ none -> b = a) -> (H a ≠ none -> K.lookup a = none) ->
      codeAny (model P w) callerA (.call (.ref fa) ⟨[.ref a], []⟩) (fun r s' => r = .ok (.ret (.bool true)) /\ OldK s₁.heap s'.heap /\ s'.os = s₁.os /\ AllBare s'.gens) s₁ := by
    intro H hO hS hok hA hK
    have jcd : ∀ {b : Addr} {o : Obj}, s₁.heap.get? b = some o -> H b = none -> (hidT s₁.heap H).get? b = some o := fun e n => jgj e n
    have noA : ∀ {b : Addr} {o : Obj} {es : Array DictEntry} {ep : Nat}, s₁.heap.get? b = some o -> o.data = .dict es ep -> H b = none := fun {b o es ep} e d => by
      cases q : H b with
      | none => rfl
      | some u =>
        have e' : b = a := hA b (by rw [q]; simp)
        subst e'
        rw [ha] at e; cases e
        have d' : Data.seq vs.toArray _ = Data.dict es ep := d
        cases d'
    have nsK : ∀ {b : Addr} {m : Str -> Option Value}, s₁.heap.Ns b m -> (hidT s₁.heap H).Ns b m := fun {b m} ⟨o, es, ep, e, d, r⟩ => ⟨o, es, ep, jcd e (noA e d), d, r⟩
    have hKb : K.In (hidT s₁.heap H) := fun b o e => jcd (KX b o e) (by
      cases q : H b with
      | none => rfl
      | some u =>
        have e' : b = a := hA b (by rw [q]; simp)
        subst e'
        rw [hK (by rw [q]; simp)] at e; cases e)
    have hM : Mod K mg (hidT s₁.heap H) := ⟨hKb, nsK hns, ⟨mb, nsK hb, hbb⟩, let ⟨mc, h1, h2⟩ := hlim; ⟨mc, nsK h1, h2⟩, hsys⟩
    have e0 : Env0 P w K mg (hidT s₁.heap H) callerA [] s₁ H := ⟨rfl, hM, fun b o e => jhQ e, Nat.le_of_eq (jft _ _), trivial, fun b hb => absurd (show b ∈ ([] : List Addr) from hb) (by simp), hok, .of_eq hg⟩
    refine codeAny_mono ((F _ hKb (nsK hns)).run callerA [] s₁ H ⟨[.ref a], []⟩ [.ref a] [.ref a] _ _ hr e0 (hbind s₁ (.ref a)) (.cons rfl .nil) (hsp H hO hS)) fun r s' h => ?_
    cases r with
    | error e => exact (hCX H e s' h).elim
    | ok fl =>
      cases fl with
      | next => exact False.elim h
      | brk => exact False.elim h
      | cont => exact False.elim h
      | ret u =>
        obtain ⟨v, H', os, bare, un, hok', r', q⟩ := h
        have q' : v = .bl true := q
        subst q'
        obtain rfl : u = Value.bool true := r'
        refine ⟨rfl, OldK.of_keep fun b o e => ?_, os, bare⟩
        cases q : H b with
        | none => exact un.keep b o e q (by intro z; exact absurd (show b ∈ ([] : List Addr) from z) (by simp)) (by simp)
        | some u =>
          rcases hO b with z | ⟨ob, xs, z⟩
          · rw [q] at z; cases z
          · have z2 := un.frzs b ob _ z
            obtain ⟨e1, _⟩ := hok b _ z
            obtain ⟨e2, _⟩ := hok' b _ z2
            rw [e] at e1; cases e1
            exact e2
  cases hk : K.lookup a with
  | some o =>
    have e := KX a o hk
    rw [ha] at e
    cases e
    refine core (fun _ => none) (fun _ => .inl rfl) (.inr ⟨_, vs.toArray, _, hk, rfl, rfl, rfl, by rw [List.size_toArray, lenV]; exact hl, by simpa using rv⟩) (fun b u z => by have z' : (none : Option HO) = some u := z; cases z') (fun b z => absurd rfl z) fun z => absurd rfl z
  | none =>
    refine core (fun b => if b = a then some (.frz { cls := .type "list", data := .seq vs.toArray } (.lst (ns.map V.int))) else none) (fun b => ?_) (.inl (.inr ⟨{ cls := .type "list", data := .seq vs.toArray }, if_pos rfl⟩)) (fun b u z => ?_) (fun b z => ?_) fun _ => hk
    · by_cases hb : b = a
      · exact .inr ⟨_, _, if_pos hb⟩
      · exact .inl (if_neg hb)
    · by_cases hb : b = a
      · have z' := (if_pos hb).symm.trans z
        cases z'
        subst hb
        exact ⟨ha, by rw [List.length_map]; exact hl, vs, _, rv, ha⟩
      · have z' := (if_neg hb).symm.trans z
        cases z'
    · by_cases hb : b = a
      · exact hb
      · exact absurd (if_neg hb) z

theorem walk_of {l:PySem.W.OpenLaw}{n k:Nat}{q:Program}{loose:List Str}{XP:(Str->Option Value)->Heap->Prop}{YP:World->Heap->Prop}{d:DefRec}{K:Params->PySem.W.Frag}{CX:World->CXT}{sp:World->Sp}{x:Str}
  (hn:l.most=some n) (hn2:n<=sizeLine) (hdf:d.params.defaults=[]) (hr:Room k callerA)
  (hY:∀ (w:World) (h:Heap),YP w h->(K w.params).In h) (hsy:∀ w:World,∃ o,(K w.params).lookup sysModules=some o/\o.cls=.type "dict")
  (F:∀ (w:World) (mg:Str->Option Value) (fa:Addr) (h:Heap),(K w.params).In h->h.Ns mainGlobals mg->mg d.name=some (.ref fa)->
   ∃ fd:FuncData,(∀ (s:Shared) (u:Value),BindsTo s fd ⟨[u],[]⟩ [(x,u)])/\
    ∀ base:Heap,(K w.params).In base->base.Ns mainGlobals mg->FnOk l.prog w (K w.params) mg base (CX w) k fa fd [x] (sp w))
  (hsp:∀ (w:World) (H:Hp) (a:Addr) (ns:List Int),ns.length<=n->Only H->SqL (K w.params) H a (ns.map V.int)->sp w [.ref a] H (fun v _=>v=.bl true) fun _ _ _=>False)
  (hCX:∀ (w:World) (H:Hp) (s:Shared) (e:Value) (s':Shared),CX w [] H s (fun _ _ _=>False) e s'->False) :
  PySem.W.WalkO q loose XP YP l.row.toRowW d [] (fun f vs=>PySem.call f vs):=by
 refine Att.attach_call hn hdf fun w s₀ s₁ mg mb fa o pm cd doc a vs ns G Y ho hd hcd hmg hobj hints hlen hg=>?_
 have KX:=hY w _ Y
 obtain ⟨fd,hb,hF⟩:=F w mg fa _ KX G.T.g hmg
 exact law_call KX (hsy w) G.T.g G.T.b G.T.builtins G.T.nolimit hg hobj hints (Nat.le_trans hlen hn2) hr hF hb (fun H hO hS=>hsp w H a ns hlen hO hS) fun H e s'=>hCX w H s₁ e s'

noncomputable def jal (s:Stmt)(j:Nat):Stmt:=match s with
 | .ClassDef _ _ _ body _ _ _ _ _ _ _=>body.getD j (.Pass ⟨0,0,0,0⟩)
 | _=>.Pass ⟨0,0,0,0⟩
def defArgs (s:Stmt):Arguments:=match s with
 | .FunctionDef _ a _ _ _ _ _ _ _ _=>a
 | _=>{ posonlyargs:=[],args:=[],vararg:=none,kwonlyargs:=[],kw_defaults:=[],kwarg:=none,defaults:=[] }
def defBody (s:Stmt):List Stmt:=match s with
 | .FunctionDef _ _ b _ _ _ _ _ _ _=>b
 | _=>[]
def defScope (s:Stmt):Scope:=match s with
 | .FunctionDef _ _ _ _ _ _ sc _ _ _=>sc
 | _=>{ kind:=.function,names:=[],isGenerator:=false,isCoroutine:=false }

noncomputable abbrev CX0:CXT:=fun _ _ _ _ _ _=>False
noncomputable abbrev E0:XK:=fun _ _ _=>False
structure Fun (K:PySem.W.Frag)(x qual:Str)(st:Stmt)(f:Addr)(fd:FuncData):Prop where
 ex:∃ (oc:Value) (od:Option Addr) (kV doc pm:Value) (an:Option Addr) (cdv ct:Value) (osl:Array (Option Value)),
  fd=PySem.W.fnOf x qual (defArgs st) (defBody st) (defScope st) .none kV doc pm an cdv ct/\K.lookup f=some ⟨oc,od,.func fd,osl⟩/\PySem.W.codeIn K cdv qual=true
 kp:PySem.W.keepIn K (.ref f)=true
section
variable {P:Program}{w:World}{K:PySem.W.Frag}{mg:Str->Option Value}{base:Heap}
theorem Fun.binds {x qual:Str}{st:Stmt}{f:Addr}{fd:FuncData}{ps:List Str}(F:Fun K x qual st f fd)
  (h:∀ (kV doc pm:Value) (an:Option Addr) (cdv ct:Value) (us:List Value),us.length=ps.length->bindArgs (PySem.W.fnOf x qual (defArgs st) (defBody st) (defScope st) .none kV doc pm an cdv ct) ⟨us,[]⟩=pure (ps.zip us)):Binds K fd ps []:=by
 obtain ⟨oc,od,kV,doc,pm,an,cdv,ct,osl,rfl,lk,hcd⟩:=F.ex
 exact .all (h kV doc pm an cdv ct)
theorem jai {x qual:Str}{st:Stmt}{f:Addr}{oc:Value}{od an:Option Addr}{osl:Array (Option Value)}{kV doc pm cdv ct:Value}(l:K.lookup f=some ⟨oc,od,.func (PySem.W.fnOf x qual (defArgs st) (defBody st) (defScope st) .none kV doc pm an cdv ct),osl⟩)
  (c:PySem.W.codeIn K cdv qual=true) (k:PySem.W.keepIn K (.ref f)=true):Fun K x qual st f (PySem.W.fnOf x qual (defArgs st) (defBody st) (defScope st) .none kV doc pm an cdv ct):=⟨⟨oc,od,kV,doc,pm,an,cdv,ct,osl,rfl,l,c⟩,k⟩
end
theorem jlk {A:Around}{k:Nat}(hr:Room k A):A.units + 1 < cLine:=Nat.lt_of_le_of_lt (Nat.add_le_add_left (by decide:1<=64) _) hr.units
section
variable {X:Cx}
end

theorem iteF {A B:Prop}(h:B):if false=true then A else B:=by
 rw [if_neg Bool.false_ne_true]
 exact h
theorem iteT {A B:Prop}(h:A):if true=true then A else B:=by
 rw [if_pos rfl]
 exact h
noncomputable def Same (H H':Hp):Prop:=∀ b o,H b=some o->H' b=some o
section
variable {X:Cx}
theorem jfI:jaM X (.builtin "len") (fun xs H Q=>∃ a kvs,xs=[V.ref a]/\H a=some (.dK kvs)/\Q (.int kvs.length) H):=by
 intro pins s σ H xs us Q I r h
 obtain ⟨a,kvs,rfl,ha,q⟩:=h
 obtain ⟨u,rfl,ru⟩:=jcA r
 cases ru
 exact jlr I (.inl ha) fun t s' I'=>⟨.int kvs.length,H,I',⟨t,rfl⟩,q⟩
end
section
variable {κ:Type}[DecidableEq κ]
end
end L2

namespace L2
open PySem PySem.Spec PyProof.Rows
set_option maxHeartbeats 4000000

section
variable {prog:Program}{w:World}{A:Around}{R:Result->Shared->Prop}{s:Shared}
noncomputable def jdI (env:Env)(ifs:List Expr):Sem Bool:=forIn ifs true fun c r=>ite (r=true) (isTrue c env (eval c env) >>= fun b=>pure (.yield b)) (pure (.yield r))
noncomputable def jbO (ip:Pos)(tg:Expr)(ifs:List Expr)(it:Value)(env:Env)(em:Sem Unit)(next:Code):Sem Fin:=
 standAt ip >>= fun _=>pyNext it >>= fun r=>match r with
  | none=>pure (.done .next)
  | some v=>letOwnedTupleGo tg it v >>= fun _=>assign tg env v >>= fun _=>jdI env ifs >>= fun ok=>ite (ok=true) (em >>= fun _=>again next) (again next)
noncomputable def jg8 (M:Model)(A:Around)(tg:Expr)(ifs:List Expr)(it:Value)(env:Env)(em:Sem Unit)(fin:Shared->Prop)(less:Shared->Prop):Option Value->Shared->Prop
 | none,s=>fin s
 | some v,s=>wpAny M A (letOwnedTupleGo tg it v) (fun _ s=>wpAny M A (assign tg env v) (fun _ s=>wpAny M A (jdI env ifs) (fun ok s=>if ok=true then wpAny M A em (fun _ s=>less s) (fun _ _=>False) s else less s) (fun _ _=>False) s) (fun _ _=>False) s) (fun _ _=>False) s
theorem jdo {elt:Expr}{gens:List Comprehension}{scope:Scope}{pos:Pos}{dp:Nat}{target:Expr}{ip:Pos}{ifs:List Expr}{it acc:Value}{env:Env}{em:Sem Unit}(I:Nat->Shared->Prop)
  (hct:compTurn (.ListComp elt gens scope pos) dp it acc env=jbO ip target ifs it env em (.compLoop (.ListComp elt gens scope pos) dp it acc env))
  (turn:∀ k t,I k t->wpAny (model prog w) A (pyNext it) (jg8 (model prog w) A target ifs it env em (R (.ok .next)) fun t=>∃ m,m < k/\I m t) (fun _ _=>False) t)
  (n:Nat) (h:I n s):codeAny (model prog w) A (.compLoop (.ListComp elt gens scope pos) dp it acc env) R s:=by
 have no:∀ {Z:Value->Shared->Prop} (e:Value) (t:Shared),False->Z e t:=fun _ _ f=>f.elim
 refine codeAny_loop rfl I (fun k t hk=>wpAny_noted (m:=compTurn (.ListComp elt gens scope pos) dp it acc env) (hct ▸ ?_)) n h
 refine wpAny_bind (wpAny_standAt (wpAny_bind (wpAny_mono (turn k t hk) (fun r t1 p=>?_) no)))
 match r,p with
 | none,p=>exact wpAny_pure p
 | some v,p=>
  refine wpAny_bind (wpAny_mono p (fun _ t2 p=>wpAny_bind (wpAny_mono p (fun _ t3 p=>wpAny_bind (wpAny_mono p (fun ok t4 p=>?_) no)) no)) no)
  match ok,p with
  | false,p=>exact wpAny_pure ⟨rfl,p⟩
  | true,p=>exact wpAny_bind (wpAny_mono p (fun _ t5 p=>wpAny_pure ⟨rfl,p⟩) no)
end

theorem jaY (env:Env):∀ (names:List (Str×NameKind)) (acc:List (Str×Addr)),(∀ y∈names,y.2=.free->∃ c,env.cells.lookup y.1=some c)->
  ∃ cl:List (Str×Addr),(forIn names acc (fun (y:Str×NameKind) (cs:List (Str×Addr))=>(if (y.2 == NameKind.free)=true then (do let c <- cellOf env y.1; pure (ForInStep.yield ((y.1,c)::cs))) else pure (ForInStep.yield cs):Sem (ForInStep (List (Str×Addr))))):Sem (List (Str×Addr)))=pure cl/\
   (∀ x c,(x,c)∈cl->(x,c)∈acc\/(env.cells.lookup x=some c/\(x,NameKind.free)∈names))/\(∀ p∈acc,p∈cl)/\(∀ y∈names,y.2=.free->∃ c,(y.1,c)∈cl)
 | [],acc,_=>⟨acc,rfl,fun _ _ h=>.inl h,fun _ h=>h,fun _ h=>nomatch h⟩
 | (n,k)::r,acc,h=>by
  by_cases hk:k=.free
  ·subst hk
   obtain ⟨c,hc⟩:=h (n,.free) List.mem_cons_self rfl
   obtain ⟨cl,e,h1,h2,h3⟩:=jaY env r ((n,c)::acc) fun y hy=>h y (List.mem_cons_of_mem _ hy)
   refine ⟨cl,?_,fun x d hd=>?_,fun p hp=>h2 p (List.mem_cons_of_mem _ hp),fun y hy hf=>?_⟩
   ·rw [List.forIn_cons]
    have:(cellOf env n:Sem Addr)=pure c:=by unfold cellOf; rw [hc]
    simp only [beq_self_eq_true,if_true,this,pure_bind]
    exact e
   ·rcases h1 x d hd with z | ⟨z,z'⟩
    ·rcases List.mem_cons.mp z with z | z
     ·cases z; exact .inr ⟨hc,List.mem_cons_self⟩
     ·exact .inl z
    ·exact .inr ⟨z,List.mem_cons_of_mem _ z'⟩
   ·rcases List.mem_cons.mp hy with z | z
    ·subst z; exact ⟨c,h2 _ List.mem_cons_self⟩
    ·exact h3 y z hf
  ·obtain ⟨cl,e,h1,h2,h3⟩:=jaY env r acc fun y hy=>h y (List.mem_cons_of_mem _ hy)
   have hb:(k == NameKind.free)=false:=by simpa using hk
   refine ⟨cl,?_,fun x d hd=>?_,h2,fun y hy hf=>?_⟩
   ·rw [List.forIn_cons]
    simp only [hb,Bool.false_eq_true,if_false,pure_bind]
    exact e
   ·rcases h1 x d hd with z | ⟨z,z'⟩
    ·exact .inl z
    ·exact .inr ⟨z,List.mem_cons_of_mem _ z'⟩
   ·rcases List.mem_cons.mp hy with z | z
    ·subst z; exact absurd hf hk
    ·exact h3 y z hf
theorem jbl {β:Type}:∀ {l:List (Str×β)} {x:Str} {c:β},(x,c)∈l->∃ d,l.lookup x=some d/\(x,d)∈l
 | (n,k)::r,x,c,h=>by
  cases hx:x == n with
  | true=>
   refine ⟨k,by simp only [List.lookup_cons,hx],?_⟩
   rw [eq_of_beq hx]; exact List.mem_cons_self
  | false=>
   rcases List.mem_cons.mp h with z | z
   ·cases z; simp at hx
   ·obtain ⟨d,e,m⟩:=jbl z
    exact ⟨d,by simp only [List.lookup_cons,hx]; exact e,List.mem_cons_of_mem _ m⟩
theorem jcy {scope:Scope}{env:Env}(h:∀ y∈scope.names,y.2=.free->∃ c,env.cells.lookup y.1=some c) :
  ∃ cl:List (Str×Addr),closureFor scope env=pure cl/\(∀ x c,cl.lookup x=some c->env.cells.lookup x=some c)/\(∀ y∈scope.names,y.2=.free->∃ c,cl.lookup y.1=some c):=by
 obtain ⟨cl,e,h1,_,h3⟩:=jaY env scope.names [] h
 refine ⟨cl,?_,fun x c hx=>?_,fun y hy hf=>?_⟩
 ·unfold closureFor
  rw [<- e]
  simp only [bind_pure]
 ·rcases h1 x c (PySem.mem_of_lookup hx) with z | ⟨z,_⟩
  ·exact nomatch z
  ·exact z
 ·obtain ⟨c,hc⟩:=h3 y hy hf
  obtain ⟨d,e,_⟩:=jbl hc
  exact ⟨d,e⟩

noncomputable def jak (X:Cx)(N:List Str)(scope:Scope)(cl:List (Str×Addr))(C:Addr)(s₀:Shared)(H₀:Hp)(fp:List Addr):Cx where
 prog:=X.prog
 w:=X.w
 K:=X.K
 mg:=X.mg
 base:=X.base
 A:=X.A
 N:=N
 s₀:=s₀
 H₀:=H₀
 env:=compEnvC scope cl C X.env
 outer:=X.stack
 stack:=X.stack
 ex:=fp
 fn:=fun x=>scope.names.lookup x == some .cell
 calm:=X.calm
 pn:=[]
 xe:=fun _ _=>False

noncomputable def cOk (oN:List Str)(on:List (Str×NameKind))(N:List Str)(pick:List (Option Nat))(scope:Scope):Bool:=
 decide (scope.kind=.function) && scope.names.all (fun y=>y.2 != .cell || scope.names.lookup y.1 == some .cell) && scope.names.all (fun y=>y.2 != .local || scope.names.lookup y.1 == some .local)
  && scope.names.all (fun y=>y.2 != .free || (scope.names.lookup y.1 == some .free && (on.lookup y.1 == some .cell || on.lookup y.1 == some .free)))
  && pick.length == N.length && (N.zip pick).all (fun p=>match p.2 with | none=>true | some j=>oN[j]? == some p.1 && scope.names.lookup p.1 == some .free)

structure CScope (X:Cx)(N:List Str)(pick:List (Option Nat))(scope:Scope):Prop where
 kind:scope.kind=.function
 cells:∀ y∈scope.names,y.2=.cell->scope.names.lookup y.1=some .cell
 names:∀ y∈scope.names,y.2=.local->scope.names.lookup y.1=some .local
 fre:∀ y∈scope.names,y.2=.free->scope.names.lookup y.1=some .free/\(X.env.kindOf y.1=some .cell\/X.env.kindOf y.1=some .free)
 len:pick.length=N.length
 caps:∀ (i j:Nat) (x:Str),N[i]?=some x->pick[i]?=some (some j)->X.N[j]?=some x/\scope.names.lookup x=some .free
theorem jbz (f:Str->NameKind->NameKind):∀ (names:List (Str×NameKind)) (x:Str),(names.map fun y=>(y.1,f y.1 y.2)).lookup x=(names.lookup x).map (f x)
 | [],_=>rfl
 | (n,k)::r,x=>by
  rw [List.map_cons,List.lookup_cons,List.lookup_cons,jbz f r x]
  by_cases e:x=n
  ·subst e; rw [beq_self_eq_true]; rfl
  ·rw [beq_false_of_ne e]
noncomputable def jgQ (env:Env)(n:Str)(k:NameKind):NameKind:=if (k == NameKind.free && env.scope.kind == .function && env.kindOf n == some .cell) then .cell else k
theorem jbg (env:Env)(names:List (Str×NameKind))(x:Str) :
  (names.map fun (n,k)=>if (k == NameKind.free && env.scope.kind == .function && env.kindOf n == some .cell) then (n,NameKind.cell) else (n,k)).lookup x=(names.lookup x).map (jgQ env x):=by
 rw [<- jbz (jgQ env)]
 congr 2
 funext y
 show ite _ _ _=(y.1,ite _ _ _)
 split <;> rfl
theorem jaF {env:Env}{names:List (Str×NameKind)}{x:Str}(h:names.lookup x=some .free) :
  (names.map fun (n,k)=>if (k == NameKind.free && env.scope.kind == .function && env.kindOf n == some .cell) then (n,NameKind.cell) else (n,k)).lookup x=some .cell\/
  (names.map fun (n,k)=>if (k == NameKind.free && env.scope.kind == .function && env.kindOf n == some .cell) then (n,NameKind.cell) else (n,k)).lookup x=some .free:=by
 rw [jbg,h]
 show some (ite _ _ _)=_\/some (ite _ _ _)=_
 split
 ·exact .inl rfl
 ·exact .inr rfl
theorem jar {env:Env}{q:NameKind}(hq:q≠.free){names:List (Str×NameKind)}{x:Str}(h:names.lookup x=some q) :
  (names.map fun (n,k)=>if (k == NameKind.free && env.scope.kind == .function && env.kindOf n == some .cell) then (n,NameKind.cell) else (n,k)).lookup x=some q:=by
 rw [jbg,h]
 show some (ite _ _ _)=_
 rw [beq_false_of_ne hq]
 rfl
theorem jaV {env:Env}:∀ {names:List (Str×NameKind)} {x:Str},
  ((names.map fun (n,k)=>if (k == NameKind.free && env.scope.kind == .function && env.kindOf n == some .cell) then (n,NameKind.cell) else (n,k)).lookup x=some .cell\/
  (names.map fun (n,k)=>if (k == NameKind.free && env.scope.kind == .function && env.kindOf n == some .cell) then (n,NameKind.cell) else (n,k)).lookup x=some .free)->(x,NameKind.free)∈names\/(x,NameKind.cell)∈names
 | [],_,h=>by simp at h
 | (n,k)::r,x,h=>by
  have ih:_->_:=@jaV env r x
  have h':List.lookup x ((if (k == NameKind.free && env.scope.kind == .function && env.kindOf n == some .cell)=true then (n,NameKind.cell) else (n,k))::r.map fun (n,k)=>if (k == NameKind.free && env.scope.kind == .function && env.kindOf n == some .cell) then (n,NameKind.cell) else (n,k))=some .cell\/List.lookup x ((if (k == NameKind.free && env.scope.kind == .function && env.kindOf n == some .cell)=true then (n,NameKind.cell) else (n,k))::r.map fun (n,k)=>if (k == NameKind.free && env.scope.kind == .function && env.kindOf n == some .cell) then (n,NameKind.cell) else (n,k))=some .free:=h
  by_cases hk:k=.free
  ·cases hx:x == n with
   | true=>rw [eq_of_beq hx,hk]; exact .inl List.mem_cons_self
   | false=>
    refine (ih ?_).imp (List.mem_cons_of_mem _) (List.mem_cons_of_mem _)
    by_cases hcc:(k == NameKind.free && env.scope.kind == .function && env.kindOf n == some .cell)=true
    ·rw [if_pos hcc] at h'; simpa only [List.lookup_cons,hx] using h'
    ·rw [if_neg hcc] at h'; simpa only [List.lookup_cons,hx] using h'
  ·have hb:(k == NameKind.free)=false:=by simpa using hk
   rw [if_neg (by simp [hb])] at h'
   cases hx:x == n with
   | true=>
    simp only [List.lookup_cons,hx] at h'
    rcases h' with z | z
    ·rw [eq_of_beq hx,Option.some.inj z]; exact .inr List.mem_cons_self
    ·exact absurd (Option.some.inj z) hk
   | false=>exact (ih (by simpa only [List.lookup_cons,hx] using h')).imp (List.mem_cons_of_mem _) (List.mem_cons_of_mem _)

theorem jav:∀ (names:List (Str×NameKind)) (n:Nat) (acc:List (Str×Addr)),cellsFrom n names acc=cellsFrom n names []++acc
 | [],_,_=>rfl
 | (x,k)::r,n,acc=>by
  unfold cellsFrom
  split
  ·rw [jav r (n + 1) ((x,n)::acc),jav r (n + 1) [(x,n)],List.append_assoc]; rfl
  ·exact jav r n acc
theorem jaD:∀ (names:List (Str×NameKind)) (n:Nat) {x:Str} {c:Addr},(x,c)∈cellsFrom n names []->(x,NameKind.cell)∈names
 | [],_,_,_,h=>nomatch h
 | (y,k)::r,n,x,c,h=>by
  unfold cellsFrom at h
  split at h
  ·rename_i hk
   rw [jav] at h
   rcases List.mem_append.mp h with h | h
   ·exact List.mem_cons_of_mem _ (jaD r _ h)
   ·have e:(x,c)=(y,n):=by simpa using h
    cases e
    rw [eq_of_beq hk]; exact List.mem_cons_self
  ·exact List.mem_cons_of_mem _ (jaD r _ h)
theorem jcp {β:Type}:∀ (l m:List (Str×β)) (x:Str),(l++m).lookup x=(l.lookup x).or (m.lookup x)
 | [],_,_=>by simp
 | (n,k)::r,m,x=>by
  rw [List.cons_append,List.lookup_cons,List.lookup_cons]
  cases hx:x == n with
  | true=>simp
  | false=>exact jcp r m x
structure BCells (scope:Scope)(cl cs:List (Str×Addr))(lo:Nat)(h:Heap):Prop where
 lk:∀ x c,cs.lookup x=some c->((x,NameKind.cell)∈scope.names/\lo < c/\h.IsCell c none)\/((x,NameKind.cell)∉scope.names/\cl.lookup x=some c)
 own:∀ x,scope.names.lookup x=some .cell->∃ c,cs.lookup x=some c/\lo < c
 old:∀ x c,(x,NameKind.cell)∉scope.names->cl.lookup x=some c->cs.lookup x=some c
 inj:∀ x y c,cs.lookup x=some c->cs.lookup y=some c->lo < c->x=y
theorem jfN {scope:Scope}{cl:List (Str×Addr)}{h:Heap}{lo:Nat}(hl:h.objs.size=lo + 1)(S:∀ y∈scope.names,y.2=.cell->scope.names.lookup y.1=some .cell)(hcl:∀ x c,cl.lookup x=some c->c<=lo):BCells scope cl (cellsFrom (lo + 1) scope.names cl) lo (pushCells h scope.names):=by
 have ok:=cellsFrom_ok scope.names h (lo + 1) [] ⟨fun _ _ hm=>(nomatch hm),List.Pairwise.nil⟩ (by omega)
 rw [hl] at ok
 have look:∀ x,(cellsFrom (lo + 1) scope.names cl).lookup x=((cellsFrom (lo + 1) scope.names []).lookup x).or (cl.lookup x):=fun x=>by rw [jav,jcp]
 have own:∀ x,(x,NameKind.cell)∈scope.names->∃ c,(cellsFrom (lo + 1) scope.names []).lookup x=some c:=fun x hx=>jcQ (S _ hx rfl)
 refine ⟨fun x c e=>?_,fun x hx=>?_,fun x c hx hc=>?_,fun x y c e1 e2 hc=>?_⟩
 ·rw [look] at e
  by_cases hx:(x,NameKind.cell)∈scope.names
  ·obtain ⟨c',e'⟩:=own x hx
   rw [e',Option.some_or] at e
   have e:c'=c:=Option.some.inj e
   subst e
   obtain ⟨z1,z2⟩:=ok.empty x c' (PySem.mem_of_lookup e')
   exact .inl ⟨hx,z2,z1⟩
  ·cases q:(cellsFrom (lo + 1) scope.names []).lookup x with
   | some c'=>exact absurd (jaD _ _ (PySem.mem_of_lookup q)) hx
   | none=>rw [q,Option.none_or] at e; exact .inr ⟨hx,e⟩
 ·obtain ⟨c,e⟩:=own x (PySem.mem_of_lookup hx)
  exact ⟨c,by rw [look,e,Option.some_or],(ok.empty x c (PySem.mem_of_lookup e)).2⟩
 ·rw [look]
  cases q:(cellsFrom (lo + 1) scope.names []).lookup x with
  | some c'=>exact absurd (jaD _ _ (PySem.mem_of_lookup q)) hx
  | none=>rw [Option.none_or]; exact hc
 ·rw [look] at e1 e2
  have new:∀ x,((cellsFrom (lo + 1) scope.names []).lookup x).or (cl.lookup x)=some c->(cellsFrom (lo + 1) scope.names []).lookup x=some c:=fun x e=>by
   cases q:(cellsFrom (lo + 1) scope.names []).lookup x with
   | some c'=>rw [q,Option.some_or] at e; exact e
   | none=>
    rw [q,Option.none_or] at e
    exact absurd (Nat.lt_of_lt_of_le hc (hcl x c e)) (Nat.lt_irrefl _)
  exact name_of_addr ok.apart (PySem.mem_of_lookup (new x e1)) (PySem.mem_of_lookup (new y e2))
theorem jbd {M:Model}{A:Around}{E:Value->Shared->Prop}{s:Shared}{scope:Scope}{globals:Addr}{cl:List (Str×Addr)}{qual:Str}{env:Env}{Q:Env->Shared->Prop}
  (hQ:Q (newEnv scope s.heap.objs.size globals (cellsFrom (s.heap.objs.size + 1) scope.names cl) qual none .none (some env) builtinsNs) { s with heap:=pushCells (s.heap.push { cls:=.type "dict",data:=.dict #[] }) scope.names }) :
  wpAny M A (newFunctionEnv scope globals cl [] qual none .none (some env)) Q E s:=by
 have sz:(s.heap.push { cls:=.type "dict",data:=.dict #[] }).objs.size=s.heap.objs.size + 1:=Heap.size_push ..
 unfold newFunctionEnv
 rw [if_pos (by rfl)]
 refine wpAny_bind (wpAny_alloc (wpAny_bind (wpAny_layCells _ (fun x k c=>by by_cases e:(k == NameKind.cell)=true <;> simp [e]) _ _ _ _ ?_)))
 rw [show Heap.objs (Shared.heap _)=(s.heap.push { cls:=.type "dict",data:=.dict #[] }).objs from rfl,sz]
 exact wpAny_bind (wpAny_pure (wpAny_pure hQ))

section
variable {X:Cx}{N:List Str}{scope:Scope}{cl:List (Str×Addr)}{C:Addr}{s₀:Shared}{H₀:Hp}{fp:List Addr}
theorem glc {x:Str}(h:scope.names.lookup x=some .globalImplicit):Gl (jak X N scope cl C s₀ H₀ fp) x:=jar (by decide) h
end

noncomputable def PIfs (X:Cx)(ifs:List Expr)(t:TT):Prop:=
 ∀ (pins:List (Addr×Obj)) (s:Shared) (σ:St) (H:Hp) (Q:Bool->Hp->Prop),Inv X pins σ H s->t σ H Q->
  wpAny (model X.prog X.w) X.A (jdI X.env ifs) (TP X pins σ Q) X.xe s
noncomputable def jkN:TT:=fun _ H Q=>Q true H
theorem jhw {X:Cx}:PIfs X [] jkN:=fun _ _ _ H _ I h=>wpAny_tests_nil ⟨H,I,h⟩
theorem jhv {X:Cx}{c:Expr}{t:TT}(h:PT X c t):PIfs X [c] t:=fun pins s σ H Q I q=>wpAny_tests_one (h pins s σ H Q I q)

noncomputable abbrev TEm:=St->List V->Hp->(St->List V->Hp->Prop)->Prop
noncomputable def jfR (J:It)(g:TG)(tt:TT)(tem:TEm)(QQ:St->List V->Hp->Prop)(τ0:St)(ys0:List V)(H1:Hp):Prop:=∃ W:Nat->Nat->St->List V->Hp->Prop,
 (∃ m,W 0 m τ0 ys0 H1)/\∀ i m τ ys H,W i m τ ys H->
  (J.stop i H/\QQ τ ys H)\/(J.go i H/\∀ x H',J.yld i H x H'->g x τ H' fun τ2 H2=>tt τ2 H2 fun b H3=>if b=true then tem τ2 ys H3 fun τ3 ys' H4=>∃ m',m' < m/\W (i + 1) m' τ3 ys' H4
   else ∃ m',m' < m/\W (i + 1) m' τ2 ys H3)
noncomputable def emA (te:TE)(D:Addr):TEm:=fun τ ys H Q=>te τ H fun v H4=>H4 D=some (.lst ys)/\ys.length < sizeLine/\Q τ (ys++[v]) (upd H4 D (.lst (ys++[v])))
noncomputable def LcGG (J:It)(g:TG)(tt:TT)(tem:Addr->TEm)(D:Addr)(τ0:St)(Q:VK)(H1:Hp):Prop:=jfR J g tt (tem D) (fun _ _ H=>Q (.ref D) H) τ0 [] (upd H1 D (.lst []))
noncomputable def PEm (Y:Cx)(em:Sem Unit)(tem:TEm):Prop:=∀ (pins:List (Addr×Obj)) (s:Shared) (τ:St) (ys:List V) (H:Hp) (Q:St->List V->Hp->Prop),Inv Y pins τ H s->tem τ ys H Q->
 wpAny (model Y.prog Y.w) Y.A em (fun _ s'=>∃ τ' ys' H',Inv Y pins τ' H' s'/\Q τ' ys' H') Y.xe s
noncomputable def tLcG (pick:List (Option Nat))(wi:TI)(g:TG)(tt:TT)(tem:Addr->TEm):TE:=fun σ H Q=>wi σ H fun J H1=>∀ D,H1 D=none->LcGG J g tt tem D (pick.map fun o=>o.bind fun j=>(σ[j]?).join) Q H1
noncomputable abbrev tLc (pick:List (Option Nat))(wi:TI)(g:TG)(tt:TT)(te:TE):TE:=tLcG pick wi g tt (emA te)
section
variable {X:Cx}{N:List Str}{pick:List (Option Nat)}{scope:Scope}{pins:List (Addr×Obj)}{σ:St}{s s3:Shared}{H H3:Hp}

theorem jeN {cl cs : List (Str × Addr)}{fp : List Addr}{h₁ : Heap}{tk : Nat}{mB : Str -> Option Value}(S : CScope X N pick scope)(I3 : Inv X pins σ H3 s3)(hf : ∀ b ∈ fp, FpOk X pins H3 b)(hlt : ∀ b ∈ fp, b < s3.heap.objs.size)
    (c1 : ∀ x c, cl.lookup x = some c -> X.env.cells.lookup x = some c) (c2 : ∀ y ∈ scope.names, y.2 = .free -> ∃ c, cl.lookup y.1 = some c) (B : BCells scope cl cs s3.heap.objs.size h₁)
    (hns : h₁.Ns s3.heap.objs.size mB) (hk : ∀ b o, s3.heap.get? b = some o -> h₁.get? b = some o) :
    Inv (jak X N scope cs s3.heap.objs.size s3 H3 fp) [] (pick.map fun o => o.bind fun j => (σ[j]?).join) H3 { s3 with heap := h₁, toks := tk } := by
  have fsub : ∀ b ∈ frs X.stack, b ∈ X.env.locals :: X.fs := I3.stkSub
  have oc : ∀ x c, cs.lookup x = some c -> X.env.cells.lookup x = some c \/ s3.heap.objs.size < c := fun x c e => by
    rcases B.lk x c e with ⟨_, z, _⟩ | ⟨_, z⟩
    · exact .inr z
    · exact .inl (c1 x c z)
  have has : ∀ x, ((x, NameKind.free) ∈ scope.names \/ (x, NameKind.cell) ∈ scope.names) -> ∃ c, cs.lookup x = some c := fun x hx => by
    by_cases hc : (x, NameKind.cell) ∈ scope.names
    · obtain ⟨c, e, _⟩ := B.own x (S.cells _ hc rfl)
      exact ⟨c, e⟩
    · rcases hx with hx | hx
      · obtain ⟨c, e⟩ := c2 _ hx rfl
        exact ⟨c, B.old x c hc e⟩
      · exact absurd hx hc
  refine ⟨⟨I3.ok.mod, S.kind, I3.ok.glob, I3.ok.blt, Nat.le_refl _, fun x y c e1 e2 => ?_, fun x hx => has x (jaV hx), fun x c z e => ?_, I3.ok.hd, I3.ok.frames, .inl rfl, fun b hb => ⟨Nat.ne_of_lt (hlt b hb), fun x c e => ?_⟩,
      I3.bs, Nat.le_trans I3.ok.bsz I3.sz, fun b o e hb => ?_, fun b hb hm => ?_, I3.stack, I3.stkFree⟩,
    rfl, I3.bare, Un.kept hk, ⟨_, hns, fun i x v e1 e2 e3 => ?_⟩, fun x c e => ?_, I3.hok.fresh (Nat.le_refl _), fun x c e => ?_, fun p hp => absurd (show p ∈ ([] : List (Addr × Obj)) from hp) (by simp), I3.hok.kept hk, ?_⟩
  · by_cases hc : s3.heap.objs.size < c
    · exact B.inj x y c e1 e2 hc
    · exact I3.ok.inj x y c ((oc x c e1).resolve_right hc) ((oc y c e2).resolve_right hc)
  · have z' : scope.names.lookup x = some .cell := eq_of_beq z
    rcases B.lk x c e with ⟨_, y, _⟩ | ⟨y, _⟩
    · exact Nat.le_of_lt y
    · exact absurd (PySem.mem_of_lookup z') y
  · rcases oc x c e with z | z
    · exact (hf b hb).2.2.2.2.1 x c z
    · intro q
      rw [q] at z
      exact absurd (Nat.lt_trans z (hlt b hb)) (Nat.lt_irrefl _)
  · rcases (hf b hb).2.2.2.1 with z | z
    · exact I3.ok.noex b o e z
    · exact absurd (Nat.lt_of_lt_of_le (Heap.lt_size e) (Nat.le_trans I3.ok.bsz z)) (Nat.lt_irrefl _)
  · rcases List.mem_cons.mp (fsub b hm) with z | z
    · exact (hf b hb).2.1 z
    · exact (hf b hb).2.2.1 z
  · -- a captured name
    have e2' : ∃ j, pick[i]? = some (some j) /\ σ[j]? = some (some v) := by
      rw [List.getElem?_map] at e2
      cases q : pick[i]? with
      | none => rw [q] at e2; cases e2
      | some o =>
        rw [q] at e2
        cases o with
        | none => simp at e2
        | some j =>
          simp at e2
          refine ⟨j, rfl, ?_⟩
          cases q2 : σ[j]? with
          | none => rw [q2] at e2; cases e2
          | some w' => rw [q2] at e2; simp at e2; rw [e2]
    obtain ⟨j, ej, ev⟩ := e2'
    obtain ⟨hN, hfr⟩ := S.caps i j x e1 ej
    have hmem : (x, NameKind.free) ∈ scope.names := PySem.mem_of_lookup hfr
    have hnc : (x, NameKind.cell) ∉ scope.names := fun z => by
      have := S.cells _ z rfl
      rw [hfr] at this; cases this
    obtain ⟨_, hkind⟩ := S.fre _ hmem rfl
    obtain ⟨m, hn, hl⟩ := I3.loc
    obtain ⟨u, r, l⟩ := hl j x v hN ev (hkind.elim (fun z => .inr (.inl z)) fun z => .inr (.inr z))
    refine ⟨u, r, .inr ⟨?_, ?_⟩⟩
    · exact jaF (env := X.env) hfr
    · obtain ⟨c, hc⟩ := c2 _ hmem rfl
      have hc' := c1 _ _ hc
      rcases l with ⟨z, _⟩ | ⟨_, c', e, o, ho, hd⟩
      · rcases hkind with y | y
        · rw [y] at z; cases z
        · rw [y] at z; cases z
      · have : c' = c := by rw [hc'] at e; exact (Option.some.inj e).symm
        subst this
        exact ⟨c', B.old x c' hnc hc, o, hk _ _ ho, hd⟩
  · rcases B.lk x c e with ⟨_, _, z⟩ | ⟨_, z⟩
    · exact ⟨none, z⟩
    · obtain ⟨v, o, ho, hd⟩ := I3.cell x c (c1 x c z)
      exact ⟨v, o, hk _ _ ho, hd⟩
  · rcases oc x c e with z | z
    · exact I3.freeC x c z
    · exact I3.hok.fresh (Nat.le_of_lt z)
  · rw [List.length_map]
    exact S.len

theorem jgq {cl:List (Str×Addr)}{fp:List Addr}{C:Addr}{τ:St}{H':Hp}{s':Shared}{pins':List (Addr×Obj)}(I3:Inv X pins σ H3 s3)(hf:∀ b∈fp,FpOk X pins H3 b)(J:Inv (jak X N scope cl C s3 H3 fp) pins' τ H' s') :
  Inv X pins σ H' s':=I3.call' J.os J.base J.hok J.bare fun b hb=>⟨(hf b hb).2.2.2.1,(hf b hb).2.1,(hf b hb).2.2.2.2.1,(hf b hb).2.2.2.2.2⟩

theorem jhV {Y:Cx}{elt tg:Expr}{gens:List Comprehension}{pos ip:Pos}{ifs:List Expr}{dp:Nat}{acc:Value}{em:Sem Unit}{g:TG}{tt:TT}{tem:TEm}{J:It}{fp:List Addr}{it:Addr}{tn:Nat->Heap->Prop}{QQ:St->List V->Hp->Prop}{τ0:St}{ys0:List V}
  (yc:Y.calm=true) (yxe:Y.xe=fun _ _=>False)
  (hct:compTurn (.ListComp elt gens scope pos) dp (.ref it) acc Y.env=jbO ip tg ifs (.ref it) Y.env em (.compLoop (.ListComp elt gens scope pos) dp (.ref it) acc Y.env))
  (yg:PG Y tg g) (yi:PIfs Y ifs tt) (ym:PEm Y em tem) (J0:Inv Y pins τ0 H s) (T:Turn Y.prog Y.w Y.K tg J fp it tn) (t0:tn 0 s.heap) (f0:∀ b∈fp,FpOk Y pins H b) (hW:jfR J g tt tem QQ τ0 ys0 H) :
  codeAny (model Y.prog Y.w) Y.A (.compLoop (.ListComp elt gens scope pos) dp (.ref it) acc Y.env) (fun r s'=>r=.ok .next/\∃ τ' ys' H',Inv Y pins τ' H' s'/\QQ τ' ys' H') s:=by
 obtain ⟨W,⟨m0,w0⟩,turn⟩:=hW
 have stat:∀ {H':Hp},(∀ b∈fp,H' b=none)->∀ b∈fp,FpOk Y pins H' b:=fun hn b hb=>⟨hn b hb,(f0 b hb).2⟩
 refine jdo (fun n s'=>∃ i τ ys H',Inv Y pins τ H' s'/\tn i s'.heap/\(∀ b∈fp,H' b=none)/\W i n τ ys H') hct ?_ m0 ⟨0,_,ys0,_,J0,t0,fun b hb=>(f0 b hb).1,w0⟩
 rintro n s4 ⟨i,τ,ys,H4,J4,t4,fr4,w4⟩
 rcases turn i n τ ys H4 w4 with ⟨stop,q⟩ | ⟨go,step⟩
 ·refine wpAny_mono (T.done Y rfl rfl rfl yc i pins s4 τ H4 (fun _ _=>False) J4 (stat fr4) t4 stop) (fun r s5 ⟨hr,J5⟩=>?_) fun _ _ f=>f
  subst hr
  exact ⟨rfl,τ,ys,H4,J5,q⟩
 ·refine wpAny_mono (T.item Y rfl rfl rfl yc i pins s4 τ H4 (fun _ _=>False) J4 (stat fr4) t4 go) (fun r s5 ⟨u,hr,h5⟩=>?_) fun _ _ f=>f
  subst hr
  refine wpAny_mono h5 (fun _ s6 ⟨x,H6,J6,r6,y6,t6,fr6⟩=>?_) fun _ _ f=>f
  have J6':=J6.pinned (stat fr6) (T.obj _ _ t6)
  have ag:=yg _ s6 τ H6 x u _ J6' r6 (step x H6 y6)
  rw [yxe] at ag
  refine wpAny_mono ag (fun _ s7 ⟨τ7,H7,J7,q7⟩=>?_) fun _ _ f=>f
  have ai:=yi _ s7 τ7 H7 _ J7 q7
  rw [yxe] at ai
  refine wpAny_mono ai (fun ok s8 ⟨H8,J8,q8⟩=>?_) fun _ _ f=>f
  have again:∀ {τ9:St} {H9:Hp} {s9:Shared} {zs:List V},Inv Y (pins++jc2 fp s6.heap) τ9 H9 s9->(∃ m',m' < n/\W (i + 1) m' τ9 zs H9)->∃ m,m < n/\∃ i τ ys H',Inv Y pins τ H' s9/\tn i s9.heap/\(∀ b∈fp,H' b=none)/\W i m τ ys H':=fun {τ9 H9 s9 zs} J9 ⟨m',hm,w9⟩=>by
   refine ⟨m',hm,i + 1,τ9,zs,H9,J9.unpinned,T.keep _ _ _ t6 fun b hb o e=>(J9.pin (b,o) (List.mem_append_right _ (List.mem_append_right _ (ja0 hb e)))).1,fun b hb=>?_,w9⟩
   obtain ⟨o,e,d⟩:=T.obj _ _ t6 b hb
   exact (J9.pin (b,o) (List.mem_append_right _ (List.mem_append_right _ (ja0 hb e)))).2.1
  cases ok with
  | false=>exact again J8 q8
  | true=>
   have am:=ym _ s8 τ7 ys H8 _ J8 q8
   rw [yxe] at am
   exact wpAny_mono am (fun _ s9 ⟨τ9,zs,H9,J9,q9⟩=>again J9 q9) fun _ _ f=>f
theorem jgX {Y:Cx}{elt:Expr}{te:TE}{D:Addr}(yxe:Y.xe=fun _ _=>False)(he:PE Y elt te):PEm Y (do let _ <- call (.builtin "list.append") [.ref D,<- eval elt Y.env]) (emA te D):=by
 intro pins s τ ys H Q J q
 have ae:=he _ s τ H _ J q
 refine wpAny_bind (wpAny_mono ae (fun v s9 ⟨z,H9,J9,r9,hD9,hz9,q9⟩=>?_) fun _ _ f=>f)
 have aa:=jdb (X:=Y) _ s9 τ H9 (.ref D) [z] (.ref D) [v] (fun x H'=>H'=upd H9 D (.lst (ys++[z]))) J9 rfl (.cons r9 .nil) ⟨_,ys,z,rfl,rfl,hD9,hz9,rfl⟩
 refine wpAny_bind (wpAny_mono aa (fun _ s10 ⟨_,H10,J10,_,e10⟩=>?_) fun _ _ f=>f)
 subst e10
 exact wpAny_pure ⟨τ,_,_,J10,q9⟩
theorem jej {tg iter elt:Expr}{ifs:List Expr}{rest:List Comprehension}{pos:Pos}{g:TG}{tt:TT}{tem:Addr->TEm}{em:Addr->Env->Sem Unit}{J:It}{fp:List Addr}{it:Addr}{tn:Nat->Heap->Prop}{cl:List (Str×Addr)}{Q:VK}{E:Value->Shared->Prop}{RR:Value->Addr->Result->Shared->Prop}
  (hc:X.calm=true) (S:CScope X N pick scope) (c1:∀ x c,cl.lookup x=some c->X.env.cells.lookup x=some c) (c2:∀ y∈scope.names,y.2=.free->∃ c,cl.lookup y.1=some c)
  (hg:∀ cl C s₀ H₀ fp,PG (jak X N scope cl C s₀ H₀ fp) tg g) (hi:∀ cl C s₀ H₀ fp,PIfs (jak X N scope cl C s₀ H₀ fp) ifs tt) (he:∀ D cl C s₀ H₀ fp,PEm (jak X N scope cl C s₀ H₀ fp) (em D (jak X N scope cl C s₀ H₀ fp).env) (tem D))
  (hct:∀ (it:Value) (D:Addr) (env:Env),compTurn (.ListComp elt (⟨tg,iter,ifs,0⟩::rest) scope pos) 0 it (.ref D) env=jbO iter.pos tg ifs it env (em D env) (.compLoop (.ListComp elt (⟨tg,iter,ifs,0⟩::rest) scope pos) 0 it (.ref D) env))
  (I2:Inv X pins σ H s) (T:Turn X.prog X.w X.K tg J fp it tn) (st:tn 0 s.heap) (hf:∀ b∈fp,FpOk X pins H b)
  (hW:∀ D,H D=none->LcGG J g tt tem D (pick.map fun o=>o.bind fun j=>(σ[j]?).join) Q H)
  (hRR:∀ D C H' s',Inv X pins σ H' s'->(∃ m,s'.heap.Ns C m)->FpOk X pins H' C->Q (.ref D) H'->RR (.ref D) C (.ok .next) s') :
  wpAny (model X.prog X.w) X.A (newList []) (fun acc s₃=>wpAny (model X.prog X.w) X.A (newFunctionEnv scope X.env.globals cl [] X.env.qual none .none (some X.env)) (fun cenv s₄=>
   codeAny (model X.prog X.w) X.A (.compStart (.ListComp elt (⟨tg,iter,ifs,0⟩::rest) scope pos) 0 (.ref it) acc { cenv with scope:=relabel scope X.env }) (RR acc cenv.locals) s₄) E s₃) E s:=by
 have hD:H s.heap.objs.size=none:=I2.hok.fresh (Nat.le_refl _)
 have hlt:∀ b∈fp,b < s.heap.objs.size:=fun b hb=>let ⟨o,e,_⟩:=T.obj _ _ st b hb; Heap.lt_size e
 refine wpAny_newObj_type (jbd ?_)
 have I3:Inv X pins σ (upd H s.heap.objs.size (.lst [])) { s with heap:=s.heap.push { cls:=.type "list",dict:=none,data:=.seq ([]:List Value).toArray } }:=
  I2.laid (t':=s.toks) (fun b u e=>Heap.get?_push_of_some _ e) (Nat.le_refl _) ⟨Nat.zero_le _,[],0,.nil,Heap.get?_push_size _ rfl⟩
 generalize hs3:({ s with heap:=s.heap.push { cls:=.type "list",dict:=none,data:=.seq ([]:List Value).toArray } }:Shared)=s3 at I3 ⊢
 have hsz:s3.heap.objs.size=s.heap.objs.size + 1:=by rw [<- hs3]; exact Heap.size_push ..
 have hf3:∀ b∈fp,FpOk X pins (upd H s.heap.objs.size (.lst [])) b:=fun b hb=>⟨by rw [jac (Nat.ne_of_lt (hlt b hb))]; exact (hf b hb).1,(hf b hb).2⟩
 have hsz':(s3.heap.push { cls:=.type "dict",data:=.dict #[] }).objs.size=s3.heap.objs.size + 1:=Heap.size_push ..
 have hk:∀ b o,s3.heap.get? b=some o->(pushCells (s3.heap.push { cls:=.type "dict",data:=.dict #[] }) scope.names).get? b=some o:=fun b o e=>pushCells_keeps _ _ b o (Heap.get?_push_of_some _ e)
 have hns₁:(pushCells (s3.heap.push { cls:=.type "dict",data:=.dict #[] }) scope.names).Ns s3.heap.objs.size fun _=>none:=(Heap.Ns.new s3.heap (.type "dict")).keeps (pushCells_keeps _ _)
 have B:=jfN (cl:=cl) hsz' S.cells fun x c e=>by
  obtain ⟨v,z⟩:=I3.cell x c (c1 x c e)
  exact Nat.le_of_lt z.lt
 generalize pushCells (s3.heap.push { cls:=.type "dict",data:=.dict #[] }) scope.names=h₁ at hk hns₁ B ⊢
 generalize cellsFrom (s3.heap.objs.size + 1) scope.names cl=cs at B ⊢
 have c1':∀ x c,cs.lookup x=some c->X.env.cells.lookup x=some c\/s3.heap.objs.size < c:=fun x c e=>by
  rcases B.lk x c e with ⟨_,z,_⟩ | ⟨_,z⟩
  ·exact .inr z
  ·exact .inl (c1 x c z)
 have st1:tn 0 h₁:=T.keep _ _ _ st fun b _ o e=>hk b o (by rw [<- hs3]; exact Heap.get?_push_of_some _ e)
 have IY:Inv (jak X N scope cs s3.heap.objs.size s3 (upd H s.heap.objs.size (.lst [])) fp) [] (pick.map fun o=>o.bind fun j=>(σ[j]?).join) (upd H s.heap.objs.size (.lst [])) { s3 with heap:=h₁ }:=
  jeN (tk:=s3.toks) S I3 hf3 (fun b hb=>Nat.lt_of_lt_of_le (hlt b hb) (by omega)) c1 c2 B hns₁ hk
 generalize hY:jak X N scope cs s3.heap.objs.size s3 (upd H s.heap.objs.size (.lst [])) fp=Y at IY
 have yg:PG Y tg g:=hY ▸ hg _ _ _ _ _
 have yi:PIfs Y ifs tt:=hY ▸ hi _ _ _ _ _
 have ye:PEm Y (em s.heap.objs.size Y.env) (tem s.heap.objs.size):=hY ▸ he _ _ _ _ _ _
 have yprog:Y.prog=X.prog:=by rw [<- hY]; rfl
 have yw:Y.w=X.w:=by rw [<- hY]; rfl
 have yK:Y.K=X.K:=by rw [<- hY]; rfl
 have yA:Y.A=X.A:=by rw [<- hY]; rfl
 have yc:Y.calm=true:=by rw [<- hY]; exact hc
 have yenv:Y.env=compEnvC scope cs s3.heap.objs.size X.env:=by rw [<- hY]; rfl
 have yex:∀ b,b∈Y.ex↔b∈fp:=fun b=>by rw [<- hY]; rfl
 have yxe:Y.xe=fun _ _=>False:=by rw [<- hY]; rfl
 have ypn:Y.pn=[]:=by rw [<- hY]; rfl
 have yfs:∀ b,b∈Y.fs->b∈X.env.locals::X.fs:=fun b hb=>I3.stkSub b (by rw [<- hY] at hb; exact hb)
 have stat:∀ {H':Hp},(∀ b∈fp,H' b=none)->∀ b∈fp,FpOk Y [] H' b:=fun hn b hb=>by
  refine ⟨hn b hb,?_,fun hm=>?_,.inl ((yex b).mpr hb),fun x c e=>?_,fun p hp=>?_⟩
  ·rw [yenv]
   show b≠s3.heap.objs.size
   exact Nat.ne_of_lt (Nat.lt_of_lt_of_le (hlt b hb) (by omega))
  ·rcases List.mem_cons.mp (yfs b hm) with z | z
   ·exact (hf b hb).2.1 z
   ·exact (hf b hb).2.2.1 z
  ·rw [yenv] at e
   rcases c1' x c e with z | z
   ·exact (hf b hb).2.2.2.2.1 x c z
   ·intro q
    rw [q] at z
    exact absurd (Nat.lt_trans z (Nat.lt_of_lt_of_le (hlt b hb) (by omega))) (Nat.lt_irrefl _)
  ·rw [ypn] at hp; simp at hp
 have fin:∀ {τ:St} {H':Hp} {s':Shared},Inv Y [] τ H' s'->Q (.ref s.heap.objs.size) H'->RR (.ref s.heap.objs.size) s3.heap.objs.size (.ok .next) s':=fun {τ H' s'} J q=>by
  have fr:H' s3.heap.objs.size=none:=by have:=J.free; rw [yenv] at this; exact this
  obtain ⟨m,hn,_⟩:=J.loc
  rw [yenv] at hn
  exact hRR _ _ H' s' (jgq I3 hf3 (hY ▸ J)) ⟨m,hn⟩ (I3.fpOk (Nat.le_refl _) fr) q
 have hn:∀ b∈fp,upd H s.heap.objs.size (.lst []) b=none:=fun b hb=>(hf3 b hb).1
 have lp:=jhV (pins:=[]) (s:={ s3 with heap:=h₁ }) (acc:=.ref s.heap.objs.size) (ifs:=ifs) (em:=em s.heap.objs.size Y.env) yc yxe (hct (.ref it) s.heap.objs.size Y.env) yg yi ye IY (by rw [yprog,yw,yK]; exact T) st1 (stat hn) (hW _ hD)
 rw [yprog,yw,yA,yenv] at lp
 have lp:=codeAny_mono lp (R':=RR (.ref s.heap.objs.size) s3.heap.objs.size) fun r s' ⟨hr,τ',ys',H',I',q'⟩=>by subst hr; exact fin I' q'
 show codeAny (model X.prog X.w) X.A (.compStart (.ListComp elt (⟨tg,iter,ifs,0⟩::rest) scope pos) 0 (.ref it) (.ref s.heap.objs.size) (compEnvC scope cs s3.heap.objs.size X.env)) (RR (.ref s.heap.objs.size) s3.heap.objs.size) _
 exact codeAny_compStart_list lp (T.self _ 0 _ _ _ st1 lp)

theorem ji6 {tg iter elt:Expr}{ifs:List Expr}{pos:Pos}{wi:TI}{g:TG}{tt:TT}{rest:List Comprehension}{tem:Addr->TEm}{em:Addr->Env->Sem Unit}(hc:X.calm=true)(S:CScope X N pick scope)(hw:PI X tg iter wi)
  (hg:∀ cl C s₀ H₀ fp,PG (jak X N scope cl C s₀ H₀ fp) tg g) (hi:∀ cl C s₀ H₀ fp,PIfs (jak X N scope cl C s₀ H₀ fp) ifs tt) (he:∀ D cl C s₀ H₀ fp,PEm (jak X N scope cl C s₀ H₀ fp) (em D (jak X N scope cl C s₀ H₀ fp).env) (tem D))
  (hct:∀ (it:Value) (D:Addr) (env:Env),compTurn (.ListComp elt (⟨tg,iter,ifs,0⟩::rest) scope pos) 0 it (.ref D) env=jbO iter.pos tg ifs it env (em D env) (.compLoop (.ListComp elt (⟨tg,iter,ifs,0⟩::rest) scope pos) 0 it (.ref D) env))
  (hs:∀ x,foldedSetIterable iter X.env x=pure x:=by intro _; rfl):PE X (.ListComp elt (⟨tg,iter,ifs,0⟩::rest) scope pos) (tLcG pick wi g tt tem):=by
 intro pins s σ H Q I h
 obtain ⟨cl,hclos,c1,c2⟩:=jcy (scope:=scope) (env:=X.env) fun y hy hf=>I.ok.has _ (S.fre y hy hf).2
 rw [eval_ListComp]
 refine wpAny_comprehension_free (use:=none) rfl hs hclos S.kind S.names (thn (hw pins s σ H _ I h) fun v s1 h1=>thn h1 fun itv s2 h2=>?_)
 obtain ⟨it,fp,tn,J,H2,e,I2,T,st2,f2,hW⟩:=h2
 subst e
 refine jej (RR:=fun acc C=>compPost (model X.prog X.w) X.A X.xe none (EP X pins σ Q) acc C) hc S c1 c2 hg hi he hct I2 T st2 f2 hW fun D C H' s' J' ⟨m,hn⟩ fC q=>?_
 refine ⟨m,hn,fun h' hs'=>⟨.ref D,H',?_,rfl,q⟩⟩
 exact J'.turned (t':=s'.toks) (it:=C) (fun b o hb e=>hs'.extBut b o hb e) fC.1 fC.2.1 fC.2.2.2.1 fC.2.2.2.2.1 fC.2.2.2.2.2

theorem jiV {tg iter elt:Expr}{ifs:List Expr}{pos py spos:Pos}{wi:TI}{g:TG}{tt:TT}{rest:List Comprehension}{tem:Addr->TEm}{em:Addr->Env->Sem Unit}{i:Nat}{y:Str}(hN:X.N.Nodup)(hi':X.N[i]?=some y)(hy:X.env.scope.names.lookup y=some .local)(hc:X.calm=true)(S:CScope X N pick scope)(hw:PI X tg iter wi)
  (hg:∀ cl C s₀ H₀ fp,PG (jak X N scope cl C s₀ H₀ fp) tg g) (hi:∀ cl C s₀ H₀ fp,PIfs (jak X N scope cl C s₀ H₀ fp) ifs tt) (he:∀ D cl C s₀ H₀ fp,PEm (jak X N scope cl C s₀ H₀ fp) (em D (jak X N scope cl C s₀ H₀ fp).env) (tem D))
  (hct:∀ (it:Value) (D:Addr) (env:Env),compTurn (.ListComp elt (⟨tg,iter,ifs,0⟩::rest) scope pos) 0 it (.ref D) env=jbO iter.pos tg ifs it env (em D env) (.compLoop (.ListComp elt (⟨tg,iter,ifs,0⟩::rest) scope pos) 0 it (.ref D) env))
  (hsw:swapsWith (.ListComp elt (⟨tg,iter,ifs,0⟩::rest) scope pos) (some (.Name y py)) spos.line X.env=pure true) (hs:∀ x,foldedSetIterable iter X.env x=pure x:=by intro _; rfl) :
  PS X (.Assign [.Name y py] (.ListComp elt (⟨tg,iter,ifs,0⟩::rest) scope pos) spos) (tAsg (tLcG pick wi g tt tem) (jfv i)):=by
 intro pins s σ H D0 I h
 obtain ⟨cl,hclos,c1,c2⟩:=jcy (scope:=scope) (env:=X.env) fun y hy hf=>I.ok.has _ (S.fre y hy hf).2
 rw [exec_Assign_Name_used _ _ _ _ hsw]
 refine wpAny_bind (wpAny_standAt (wpAny_bind ?_))
 show wpAny _ _ (do let _ <- comprehension (.ListComp elt (⟨tg,iter,ifs,0⟩::rest) scope pos) scope X.env _ (newList []) false (eval iter X.env) (some (assign (.Name y py) X.env))) _ _ s
 refine wpAny_bind (thn (wpAny_comprehension_free (use:=some (assign (.Name y py) X.env)) (Q:=fun _ s'=>SP X pins D0 .next s') rfl hs hclos S.kind S.names
  (thn (hw pins s σ H _ I h) fun v s1 h1=>thn h1 fun itv s2 h2=>?_)) fun _ s' hq=>wpAny_pure (wpAny_pure hq))
 obtain ⟨it,fp,tn,J,H2,e,I2,T,st2,f2,hW⟩:=h2
 subst e
 refine jej (Q:=fun x H1=>jfv i x σ H1 D0.nx) (RR:=fun acc C=>compPost (model X.prog X.w) X.A X.xe (some (assign (.Name y py) X.env)) (fun _ s'=>SP X pins D0 .next s') acc C) hc S c1 c2 hg hi he hct I2 T st2 f2 hW fun D C H' s' J' ⟨m,hn⟩ fC q=>?_
 show wpAny _ _ (assign (.Name y py) X.env (.ref D)) _ _ _
 refine wpAny_assign_Name (jcY (v:=.ref D) J' hN hi' (.inl hy) rfl (fun s'' J'' ⟨a,sb,ha⟩=>?_) (.inr hy))
 have hne:C≠a:=by
  rcases ha with z | z
  ·rw [z]; exact fC.2.1
  ·exact fun e=>fC.2.2.2.2.1 y a z e.symm
 refine ⟨m,hn.sameBut sb hne,fun h' hs'=>?_⟩
 refine ⟨_,H',J''.turned (t':=s''.toks) (it:=C) (fun b o hb e=>hs'.extBut b o hb e) fC.1 fC.2.1 fC.2.2.2.1 fC.2.2.2.2.1 fC.2.2.2.2.2,q⟩
theorem jk5 {tg iter elt:Expr}{ifs:List Expr}{pos:Pos}{wi:TI}{g:TG}{tt:TT}{te:TE}(hc:X.calm=true)(S:CScope X N pick scope)(hw:PI X tg iter wi)
  (hg:∀ cl C s₀ H₀ fp,PG (jak X N scope cl C s₀ H₀ fp) tg g) (hi:∀ cl C s₀ H₀ fp,PIfs (jak X N scope cl C s₀ H₀ fp) ifs tt) (he:∀ cl C s₀ H₀ fp,PE (jak X N scope cl C s₀ H₀ fp) elt te)
  (hs:∀ x,foldedSetIterable iter X.env x=pure x:=by intro _; rfl):PE X (.ListComp elt [⟨tg,iter,ifs,0⟩] scope pos) (tLc pick wi g tt te):=
 ji6 (em:=fun D env=>do let _ <- call (.builtin "list.append") [.ref D,<- eval elt env]) (rest:=[]) hc S hw hg hi (fun D cl C s₀ H₀ fp=>jgX rfl (he cl C s₀ H₀ fp)) (fun _ _ _=>rfl) hs
theorem jk1 {tg iter elt:Expr}{ifs:List Expr}{pos:Pos}{wi:TI}{g:TG}{tt:TT}{te:TE}{py spos:Pos}{i:Nat}{y:Str}(hN:X.N.Nodup)(hi':X.N[i]?=some y)(hy:X.env.scope.names.lookup y=some .local)(hc:X.calm=true)(S:CScope X N pick scope)(hw:PI X tg iter wi)
  (hg:∀ cl C s₀ H₀ fp,PG (jak X N scope cl C s₀ H₀ fp) tg g) (hi:∀ cl C s₀ H₀ fp,PIfs (jak X N scope cl C s₀ H₀ fp) ifs tt) (he:∀ cl C s₀ H₀ fp,PE (jak X N scope cl C s₀ H₀ fp) elt te)
  (hsw:swapsWith (.ListComp elt [⟨tg,iter,ifs,0⟩] scope pos) (some (.Name y py)) spos.line X.env=pure true) (hs:∀ x,foldedSetIterable iter X.env x=pure x:=by intro _; rfl):PS X (.Assign [.Name y py] (.ListComp elt [⟨tg,iter,ifs,0⟩] scope pos) spos) (tAsg (tLc pick wi g tt te) (jfv i)):=
 jiV (em:=fun D env=>do let _ <- call (.builtin "list.append") [.ref D,<- eval elt env]) (rest:=[]) hN hi' hy hc S hw hg hi (fun D cl C s₀ H₀ fp=>jgX rfl (he cl C s₀ H₀ fp)) (fun _ _ _=>rfl) hsw hs
end

mutual
inductive DV (K:PySem.W.Frag)(H:Hp):V->PyData->Prop
 | non:DV K H .non .none
 | bl (b:Bool):DV K H (.bl b) (.bool b)
 | int (i:Int):DV K H (.int i) (.int i)
 | str (x:Str):DV K H (.str x) (.str x)
 | tup {a:Addr} {xs:List V} {ds:List PyData}:SqT K H a xs->DVs K H xs ds->DV K H (.ref a) (.tuple ds)
 | lst {a:Addr} {xs:List V} {ds:List PyData}:Rd H a (.lst xs)->DVs K H xs ds->DV K H (.ref a) (.list ds)
 | dic {a:Addr}:H a=some (.dK [])->DV K H (.ref a) (.dict [])
inductive DVs (K:PySem.W.Frag)(H:Hp):List V->List PyData->Prop
 | nil:DVs K H [] []
 | cons {x:V} {d:PyData} {xs:List V} {ds:List PyData}:DV K H x d->DVs K H xs ds->DVs K H (x::xs) (d::ds)
end
section
variable {K:PySem.W.Frag}{H H':Hp}
end
mutual
noncomputable def noL:PyData->Bool
 | .list _=>false
 | .tuple xs=>noLs xs
 | .dict _=>false
 | .none | .bool _ | .int _ | .str _=>true
noncomputable def noLs:List PyData->Bool
 | []=>true
 | x::r=>noL x && noLs r
end
section
variable {K:PySem.W.Frag}{H H':Hp}
noncomputable def TK (H H':Hp):Prop:=∀ b xs,H b=some (.tup xs)->H' b=some (.tup xs)
end

theorem Inv.noSys {X:Cx}{pins:List (Addr×Obj)}{σ:St}{H:Hp}{s:Shared}(I:Inv X pins σ H s){a:Addr}{o:Obj}(h:s.heap.get? a=some o)(c:o.cls=.type "list"):sysModules≠a:=fun e=>by
 obtain ⟨o',l,c'⟩:=I.mod.sys
 have:=I.kIn _ _ l
 rw [e,h] at this
 cases this
 rw [c] at c'
 exact absurd c' (by decide)
mutual
theorem DV.reads2 {X:Cx}{pins:List (Addr×Obj)}{σ:St}{H:Hp}{s:Shared}(I:Inv X pins σ H s):∀ {x:V} {d:PyData} {u:Value},DV X.K H x d->RelV x u->∃ as,Reads s.heap u d as/\sysModules∉as
 | _,_,_,.non,r=>by cases r; exact ⟨_,.none,by simp⟩
 | _,_,_,.bl b,r=>by cases r; exact ⟨_,.bool b,by simp⟩
 | _,_,_,.int i,r=>by obtain ⟨t,rfl⟩:=r; exact ⟨_,.int i t,by simp⟩
 | _,_,_,.str x,r=>by obtain ⟨t,rfl⟩:=r; exact ⟨_,.str x t,by simp⟩
 | _,_,_,.tup e h,r=>by
  cases r
  obtain ⟨its,rv,⟨o,ho,hc,n,hd⟩,_⟩:=I.tuple e
  obtain ⟨as,q,z⟩:=DVs.reads2 I h rv
  exact ⟨_,.tuple ho hc hd q,z⟩
 | _,_,_,@DV.lst _ _ a _ _ e h,r=>by
  cases r
  obtain ⟨its,rv,⟨o,n,ho,hc,_,hd⟩,_⟩:=I.list (.inl e)
  obtain ⟨as,q,z⟩:=DVs.reads2 I h rv
  refine ⟨_,.list ho hc hd q,fun hm=>?_⟩
  rcases List.mem_cons.mp hm with hm | hm
  ·exact I.noSys ho hc hm
  ·exact z hm
 | _,_,_,@DV.dic _ _ a e,r=>by
  cases r
  obtain ⟨_,hS,vs,kv,o,es,ep,ho,hx,hd,_,hp,_⟩:([]:List (Key×V)).length<=sizeLine/\(a == sysModules)=false/\∃ vs,KV [] vs/\s.heap.DictOf (jap X.prog X.w) a vs:=I.hok a _ e
  have e0:es.toList=[]:=by
   cases kv
   revert hp
   cases es.toList with
   | nil=>exact fun _=>rfl
   | cons x r=>exact fun hp=>(nomatch hp)
  refine ⟨_,.dict (kvs:=[]) (as:=[]) (bs:=[]) ho hx.1 hd (by rw [e0]; exact .nil) (by rw [e0]; exact .nil),fun hm=>?_⟩
  have:sysModules=a:=by simpa using hm
  rw [<- this] at hS
  exact absurd hS (by simp)
theorem DVs.reads2 {X:Cx}{pins:List (Addr×Obj)}{σ:St}{H:Hp}{s:Shared}(I:Inv X pins σ H s):∀ {xs:List V} {ds:List PyData} {us:List Value},DVs X.K H xs ds->Vals xs us->∃ as,ReadsAll s.heap us ds as/\sysModules∉as
 | _,_,_,.nil,r=>by cases r; exact ⟨_,.nil,by simp⟩
 | _,_,_,.cons a b,r=>by
  cases r with
  | cons r rr=>
   obtain ⟨as,q,z⟩:=DV.reads2 I a r
   obtain ⟨bs,q',z'⟩:=DVs.reads2 I b rr
   exact ⟨_,.cons q q',by rw [List.mem_append,not_or]; exact ⟨z,z'⟩⟩
end
theorem DV.reads {X:Cx}{pins:List (Addr×Obj)}{σ:St}{H:Hp}{s:Shared}(I:Inv X pins σ H s){x:V}{d:PyData}{u:Value}(h:DV X.K H x d)(r:RelV x u):∃ as,Reads s.heap u d as:=let ⟨as,q,_⟩:=DV.reads2 I h r; ⟨as,q⟩
structure Fits (n k:Nat)(d:PyData):Prop where
 sh:d.showable=true
 ln:d.shown.length<=n
 dp:d.depth<=k
theorem Fits.mono {n n' k k':Nat}{d:PyData}(h:Fits n k d)(h1:n<=n')(h2:k<=k'):Fits n' k' d:=⟨h.sh,Nat.le_trans h.ln h1,Nat.le_trans h.dp h2⟩
theorem Fits.int {i:Int}(h:i.natAbs < 2 ^ 1000):Fits 1921 0 (.int i):=by
 have hl:i.natAbs.log2 < 1920:=by
  by_cases z:i.natAbs=0
  ·rw [z]; decide
  ·exact Nat.lt_of_lt_of_le ((Nat.log2_lt z).mpr h) (by decide)
 refine ⟨by simp [PyData.showable,hl],?_,Nat.le_refl _⟩
 simp only [PyData.shown]
 exact int_text_len_1921 hl
theorem Fits.str {x:Str}{m:Nat}(h:x.length<=m)(hc:∀ c∈x.cps.toList,c < 16 ^ 8):Fits (10 * m + 2) 0 (.str x):=by
 refine ⟨rfl,?_,Nat.le_refl _⟩
 simp only [PyData.shown]
 exact Nat.le_trans (StrLaws.reprText_len x hc) (by omega)
theorem jef {ts:List Str}{n:Nat}(h:∀ t∈ts,t.length<=n):piled ts<=ts.length * (n + 2):=by
 induction ts with
 | nil=>simp [piled]
 | cons t r ih=>
  have h1:=h t List.mem_cons_self
  have h2:=ih fun q hq=>h q (List.mem_cons_of_mem _ hq)
  rw [piled_cons,List.length_cons,Nat.add_mul]
  omega
theorem jaU:∀ {ds:List PyData} {t:Str},t∈PyData.shownAll ds->∃ d∈ds,t=d.shown
 | [],_,h=>by simp [PyData.shownAll] at h
 | d::r,t,h=>by
  simp only [PyData.shownAll,List.mem_cons] at h
  rcases h with h | h
  ·exact ⟨d,List.mem_cons_self,h⟩
  ·obtain ⟨e,he,q⟩:=jaU h
   exact ⟨e,List.mem_cons_of_mem _ he,q⟩
theorem jaE:∀ ds:List PyData,(PyData.shownAll ds).length=ds.length
 | []=>rfl
 | _::r=>by simp [PyData.shownAll,jaE r]
theorem jhX (ts:List Str):(Str.join ", " ts).length<=piled ts:=by
 rcases Classical.em (ts=[]) with rfl | hz
 ·exact Nat.zero_le _
 ·exact Nat.le_of_add_right_le (Nat.le_of_eq (join_length_add ts hz))
theorem jcW {ts:List Str}{n:Nat}(h:∀ t∈ts,t.length<=n):(tupleText ts).length<=ts.length * (n + 2) + 3:=by
 have hp:=Nat.le_trans (jhX ts) (jef h)
 have two:∀ b:Bool,((((if b=true then ",)" else ")"):String):Str)).length<=2:=by decide
 have z:=two (ts.length == 1)
 have one:(("(" : String):Str).length=1:=rfl
 simp only [tupleText,strLen_append] at z ⊢
 omega
theorem jbM:∀ (ts:List Str) (k:Nat) (acc:Str),(textFrom k acc ts).length<=acc.length + piled ts
 | [],_,_=>Nat.le_refl _
 | t::r,k,acc=>by
  have two:(((if k > 0 then ", " else "" : String):Str)).length<=2:=by split <;> decide
  have ih:=jbM r (k + 1) (acc++(if k > 0 then ", " else "" : String)++t)
  simp only [strLen_append] at ih
  rw [piled_cons]
  exact Nat.le_trans ih (by omega)
theorem jdM {ts:List Str}{n:Nat}(h:∀ t∈ts,t.length<=n):(listText ts).length<=ts.length * (n + 2) + 3:=by
 have hp:=Nat.le_trans (jbM ts 0 "[") (Nat.add_le_add_left (jef h) _)
 have one:(("[" : String):Str).length=1/\(("]" : String):Str).length=1:=⟨rfl,rfl⟩
 simp only [listText,strLen_append]
 omega
theorem jaJ:∀ {ds:List PyData},(∀ d∈ds,d.showable=true)->PyData.showableAll ds=true
 | [],_=>rfl
 | d::r,h=>by simp [PyData.showableAll,h d List.mem_cons_self,jaJ fun q hq=>h q (List.mem_cons_of_mem _ hq)]
theorem jbc:∀ {ds:List PyData} {k:Nat},(∀ d∈ds,d.depth<=k)->PyData.depthAll ds<=k
 | [],_,_=>Nat.zero_le _
 | d::r,k,h=>by
  simp only [PyData.depthAll]
  exact Nat.max_le.mpr ⟨h d List.mem_cons_self,jbc fun q hq=>h q (List.mem_cons_of_mem _ hq)⟩
theorem Fits.tup {n k:Nat}{ds:List PyData}(h:∀ d∈ds,Fits n k d):Fits (ds.length * (n + 2) + 3) (k + 1) (.tuple ds):=by
 refine ⟨?_,?_,?_⟩
 ·simp only [PyData.showable]; exact jaJ fun d hd=>(h d hd).sh
 ·simp only [PyData.shown]
  have:=jcW (ts:=PyData.shownAll ds) (n:=n) fun t ht=>by obtain ⟨d,hd,e⟩:=jaU ht; rw [e]; exact (h d hd).ln
  rw [jaE] at this
  exact this
 ·simp only [PyData.depth]
  exact Nat.succ_le_succ (jbc fun d hd=>(h d hd).dp)
theorem Fits.lst {n k:Nat}{ds:List PyData}(h:∀ d∈ds,Fits n k d):Fits (ds.length * (n + 2) + 3) (k + 1) (.list ds):=by
 refine ⟨?_,?_,?_⟩
 ·simp only [PyData.showable]; exact jaJ fun d hd=>(h d hd).sh
 ·simp only [PyData.shown]
  have:=jdM (ts:=PyData.shownAll ds) (n:=n) fun t ht=>by obtain ⟨d,hd,e⟩:=jaU ht; rw [e]; exact (h d hd).ln
  rw [jaE] at this
  exact this
 ·simp only [PyData.depth]
  exact Nat.succ_le_succ (jbc fun d hd=>(h d hd).dp)
theorem Fits.tupLe {n k m N:Nat}{ds:List PyData}(hl:ds.length<=m)(h:∀ d∈ds,Fits n k d)(hN:m * (n + 2) + 3<=N):Fits N (k + 1) (.tuple ds):=
 (Fits.tup h).mono (Nat.le_trans (Nat.add_le_add_right (Nat.mul_le_mul_right _ hl) _) hN) (Nat.le_refl _)
theorem Fits.lstLe {n k m N:Nat}{ds:List PyData}(hl:ds.length<=m)(h:∀ d∈ds,Fits n k d)(hN:m * (n + 2) + 3<=N):Fits N (k + 1) (.list ds):=
 (Fits.lst h).mono (Nat.le_trans (Nat.add_le_add_right (Nat.mul_le_mul_right _ hl) _) hN) (Nat.le_refl _)

noncomputable def jkW (K:PySem.W.Frag):List V->Hp->VK->Prop:=fun xs H Q=>∃ x d,xs=[x]/\DV K H x d/\Fits 16000000 60 d/\Q (.str d.shown) H
theorem jeO {X:Cx}{k:Nat}(hr:Room k X.A):jaM X (.builtin "repr") (jkW X.K):=by
 intro pins s σ H xs us Q I r h
 obtain ⟨x,d,rfl,dv,ft,q⟩:=h
 obtain ⟨u,rfl,ru⟩:=jcA r
 have hu:=hr.un
 have done:∀ (h':Heap) (u':Tok) (tk:Nat),(∀ b o,s.heap.get? b=some o->h'.get? b=some o)->EP X pins σ Q (.str d.shown u') { s with heap:=h',toks:=tk }:=fun h' u' tk hk=>
  ⟨.str d.shown,H,I.kept (t':=tk) hk,⟨u',rfl⟩,q⟩
 have hz:d.shown.length<=sizeLine:=Nat.le_trans ft.ln (by decide)
 cases dv with
 | non=>cases ru; exact P.repr_of_none (done _ _ _ fun _ _ e=>e)
 | bl b=>cases ru; exact P.repr_of_bool (by have:=done s.heap s.toks (s.toks + 1) fun _ _ e=>e; simp only [PyData.shown] at this; exact this)
 | int i=>
  obtain ⟨t,rfl⟩:=ru
  refine P.repr_of_int (by simpa [PyData.showable] using ft.sh) ?_
  have:=done s.heap s.toks (s.toks + 1) fun _ _ e=>e
  simp only [PyData.shown] at this
  exact this
 | str x=>
  obtain ⟨t,rfl⟩:=ru
  simp only [PyData.shown] at hz
  refine P.repr_of_str ?_ hz
  have:=done s.heap s.toks (s.toks + 1) fun _ _ e=>e
  simp only [PyData.shown] at this
  exact this
 | @tup a xs ds e hd=>
  obtain ⟨as,rd,hsy⟩:=DV.reads2 I (DV.tup e hd) ru
  cases ru
  exact repr_of_reads' rd ft.sh (fun _=>hsy) hr.gd (by have:=ft.dp; omega) (fun _ _ e=>e) (fun h' u' tk hk=>done h' u' tk hk) hz
 | @lst a xs ds e hd=>
  obtain ⟨as,rd,hsy⟩:=DV.reads2 I (DV.lst e hd) ru
  cases ru
  exact repr_of_reads' rd ft.sh (fun _=>hsy) hr.gd (by have:=ft.dp; omega) (fun _ _ e=>e) (fun h' u' tk hk=>done h' u' tk hk) hz
 | @dic a e=>
  obtain ⟨as,rd,hsy⟩:=DV.reads2 I (DV.dic e) ru
  cases ru
  exact repr_of_reads' rd ft.sh (fun _=>hsy) hr.gd (by have:=ft.dp; omega) (fun _ _ e=>e) (fun h' u' tk hk=>done h' u' tk hk) hz
section
variable {X:Cx}{k:Nat}{x:Str}{ps:List Str}{sp:Sp}{e:Expr}{es:List Expr}{t:TA}{p pos:Pos}
end
noncomputable def Sm (f:Addr)(H H':Hp):Prop:=∀ b o,b≠f->H b=some o->H' b=some o
noncomputable def LcW (n k:Nat)(caps:St)(Pv:Nat->List V->Hp->Prop):Nat->Nat->St->List V->Hp->Prop:=fun i m τ ys H=>m=n - i/\i<=n/\(∃ os:St,os.length=k/\τ=os++caps)/\Pv i ys H
noncomputable def LcN (D:Addr)(n k:Nat)(caps:St)(Pv:Nat->List V->Hp->Prop)(i:Nat)(ys:List V)(τ:St)(v:V)(H:Hp):Prop:=
 H D=some (.lst ys)/\ys.length < sizeLine/\∃ m',m' < n - i/\LcW n k caps Pv (i + 1) m' τ (ys++[v]) (upd H D (.lst (ys++[v])))
noncomputable def LcS (n k:Nat)(caps:St)(Pv:Nat->List V->Hp->Prop)(i:Nat)(ys:List V)(τ:St)(H:Hp):Prop:=∃ m',m' < n - i/\LcW n k caps Pv (i + 1) m' τ ys H
section
variable {g:TG}{tt:TT}{te:TE}{Q:VK}{τ0:St}{H:Hp}{D:Addr}
end
section
variable {X:Cx}
end
section
variable {X:Cx}{es:List Expr}{te:TE}{t:TA}
end
section
variable {X:Cx}{N:List Str}{scope:Scope}{cl:List (Str×Addr)}{C:Addr}{s₀:Shared}{H₀:Hp}{fp:List Addr}
end
theorem jbe:∀ {ns:List Int} {us:List Value},Vals (ns.map V.int) us->∃ ys:List (Int×Tok),us=(ys.map fun p=>Value.int p.1 p.2)/\ys.map (·.1)=ns
 | [],us,r=>by cases r; exact ⟨[],rfl,rfl⟩
 | n::ns,us,r=>by
  cases r with
  | cons h r=>
   obtain ⟨t,rfl⟩:=h
   obtain ⟨ys,rfl,e⟩:=jbe r
   exact ⟨(n,t)::ys,rfl,by simp [e]⟩
section
variable {X:Cx}
theorem jgs (hc:X.calm=true):jaM X (.builtin "sum") (fun xs H Q=>∃ (p:Addr) (ns:List Int),xs=[.ref p]/\SqL X.K H p (ns.map V.int)/\Q (.int ns.sum) H):=by
 intro pins s σ H xs us Q I r h
 obtain ⟨p,ns,rfl,hq,q⟩:=h
 obtain ⟨u,rfl,rx⟩:=jcA r
 cases rx
 obtain ⟨its,r',pl,hz⟩:=I.list hq
 obtain ⟨ys,rfl,e⟩:=jbe r'
 have hl:s.heap.IsList p (intItems ys.toArray):=by
  have:=pl.isList
  simpa [intItems] using this
 refine sum_intListG (I.ok.hd hc) hl fun h' tk t' k=>⟨.int ns.sum,H,I.kept k,⟨t',?_⟩,q⟩
 rw [preSum_eq,List.take_of_length_le (by simp),<- e]
end
section
variable {X:Cx}{N:List Str}{scope:Scope}{cl:List (Str×Addr)}{C:Addr}{s₀:Shared}{H₀:Hp}{fp:List Addr}
end
theorem fm_rev (xs:List Value):∀ n,n<=xs.length->(List.range n).filterMap (fun k=>xs[xs.length - 1 - k]?)=(xs.drop (xs.length - n)).reverse
 | 0,_=>by simp
 | n + 1,h=>by
  rw [List.range_succ,List.filterMap_append,fm_rev xs n (by omega)]
  have hk:xs.length - 1 - n < xs.length:=by omega
  have:xs.drop (xs.length - (n + 1))=xs[xs.length - 1 - n]::xs.drop (xs.length - n):=by
   rw [show xs.length - (n + 1)=xs.length - 1 - n by omega,List.drop_eq_getElem_cons hk,show xs.length - 1 - n + 1=xs.length - n by omega]
  rw [this,List.reverse_cons]
  simp [List.getElem?_eq_getElem hk]
theorem Vals.rev {xs:List V}{us:List Value}(r:Vals xs us):Vals xs.reverse us.reverse:=by
 induction r with
 | nil=>exact .nil
 | cons h r ih=>rw [List.reverse_cons,List.reverse_cons]; exact ih.append (.cons h .nil)
section
variable {X:Cx}{e st:Expr}{te tst:TE}{pos p2:Pos}
end
end L2
namespace HT
open PySem PySem.Spec PyProof.Rows
section
variable {prog:Program}{w:World}{A:Around}{E:Value->Shared->Prop}{s:Shared}
theorem getItem_tuple_all {t sl:Addr}{items:Array Value}{vl vu:Value}{lo hi:Option Int}{Q:Value->Shared->Prop}(ht:IsTup s.heap t items)(hs:s.heap.IsSliceOf sl vl vu .none)(pl:IsPart vl lo)(pu:IsPart vu hi)
  (hw:sIx items.size 0 lo=0/\sIx items.size items.size hi=items.size) (h:Q (.ref t) s):wpAny (model prog w) A (getItem (.ref t) (.ref sl)) Q E s:=by
 obtain ⟨os,hos,hcs,hds⟩:=id hs
 have hTs:s.TypeIs (.ref sl) "slice" := ⟨os,hos,hcs⟩
 unfold getItem
 try with_reducible refine wpAny_holding ?_
 first | refine wpAny_bind (wpAny_pure ?_) | skip
 refine wpAny_bind (wpAny_sequenceKey ht.typeIs (by decide) ?_)
 refine wpAny_bind (wpAny_callSpecial?_slot (name:=Str.ofString "__getitem__") ht.typeIs PyProof.Rows.slot_tuple_getitem
  (wpAny_call_entry PyProof.Rows.slot_tuple_getitem ht.typeIs entry_tuple_getitem ?_ (args_tuple_getitem _ _)))
 show wpAny _ _ (Builtin.Tuple.tupleItemsOf (.ref t) >>= _) _ _ s
 refine wpAny_bind (tupleItemsOf_ ht ?_)
 refine wpAny_bind (wpAny_typeOf hTs ?_)
 rw [if_pos (by decide)]
 refine wpAny_bind (jaP hs pl pu ?_)
 have hyes:((((sIx items.size 0 lo:Nat):Int) == 0 && (1:Int) == 1 && (sIx items.size items.size hi - sIx items.size 0 lo) == items.size)=true):=by
  rw [hw.1,hw.2]
  simp
 show wpAny _ _ (if (((sIx items.size 0 lo:Nat):Int) == 0 && (1:Int) == 1 && (sIx items.size items.size hi - sIx items.size 0 lo) == items.size)=true then _ else _) _ _ s
 rw [if_pos hyes]
 refine wpAny_bind (m:=Builtin.Tuple.tupleIsExact (.ref t)) ?_
 unfold Builtin.Tuple.tupleIsExact
 refine wpAny_bind (wpAny_typeOf ht.typeIs (wpAny_pure ?_))
 rw [if_pos (by decide)]
 exact wpAny_bind (wpAny_rule (wpAny_pure ⟨_,rfl,wpAny_pure h⟩))
end
end HT
namespace L2
open PySem PySem.Spec PyProof.Rows
section
variable {X:Cx}
noncomputable def rSlW (K:PySem.W.Frag):V->Option Int->Option Int->Hp->VK->Prop:=fun x lo hi H Q=>∃ a xs,x=.ref a/\SqT K H a xs/\
 (HT.sIx xs.length 0 lo=0/\HT.sIx xs.length xs.length hi=xs.length)/\Q (.ref a) H
theorem jhd:SlR X (rSlW X.K):=by
 intro pins s σ H x v vl vu lo hi sl Q I rx hs pl pu h
 obtain ⟨a,xs,rfl,hx,hw,q⟩:=h
 cases rx
 obtain ⟨its,r,ht,hz⟩:=I.tuple hx
 have hlen:its.toArray.size=xs.length:=by rw [List.size_toArray]; exact r.length.symm
 refine ⟨"tuple",_,PyProof.Rows.slot_tuple_getitem.lookup,ht.typeIs,?_⟩
 exact HT.getItem_tuple_all ht hs pl pu (by rw [hlen]; exact hw) ⟨.ref a,H,I,rfl,q⟩
theorem jhe:SlR X (fun x lo hi H Q=>rSlT X.K x lo hi H Q\/rSlW X.K x lo hi H Q):=SlR.or jiB jhd
end
section
variable {X:Cx}
end
end L2
namespace HT
open PySem PySem.Spec PyProof.Rows
section
variable {prog:Program}{w:World}{A:Around}{E:Value->Shared->Prop}{s:Shared}
theorem jbD {sl:Addr}{t:Tok}{n:Nat}{Q:Int×Int×Nat->Shared->Prop}(hs:s.heap.IsSliceOf sl .none .none (.int (-1) t))(h:Q ((n:Int) - 1,-1,n) s):wpAny (model prog w) A (Builtin.Slice.sliceApplied (.ref sl) (pure (n:Int))) Q E s:=by
 obtain ⟨os,hos,hcs,hds⟩:=id hs
 unfold Builtin.Slice.sliceApplied Builtin.Slice.sliceFields
 refine wpAny_bind (wpAny_bind (wpAny_field hos hds (x:=.none) rfl (wpAny_bind (wpAny_field hos hds (x:=.none) rfl (wpAny_bind (wpAny_field hos hds (x:=.int (-1) t) rfl (wpAny_pure ?_)))))))
 refine wpAny_bind (jaK (.int (-1) t) ?_)
 show wpAny _ _ (if ((-1:Int) == 0)=true then _ else _) _ _ s
 rw [if_neg (by decide)]
 refine wpAny_bind (jaK .none (wpAny_bind (jaK .none (wpAny_bind (wpAny_pure ?_)))))
 have e1:Builtin.Slice.sliceAdjust none none (-1) (n:Int)=((n:Int) - 1,-1):=rfl
 have e2:Builtin.Slice.slicePlaces ((n:Int) - 1) (-1) (-1)=n:=by
  unfold Builtin.Slice.slicePlaces
  rw [if_neg (by omega),show (- -1:Int)=1 from rfl,Int.ediv_one]
  split <;> omega
 show wpAny _ _ (match Builtin.Slice.sliceAdjust none none (-1) (n:Int) with | (lo,hi)=>pure (lo,(-1:Int),Builtin.Slice.slicePlaces lo hi (-1))) _ _ s
 rw [e1]
 show wpAny _ _ (pure ((n:Int) - 1,(-1:Int),Builtin.Slice.slicePlaces ((n:Int) - 1) (-1) (-1))) _ _ s
 rw [e2]
 exact wpAny_pure h
theorem jf6 (xs:List Value):((List.range xs.length).filterMap fun (k:Nat)=>xs.toArray[((xs.length:Int) - 1 + (k:Int) * (-1)).toNat]?).toArray=xs.reverse.toArray:=by
 have:=L2.fm_rev xs xs.length (Nat.le_refl _)
 rw [Nat.sub_self,List.drop_zero] at this
 rw [<- this]
 congr 1
 refine congrArg (fun f=>List.filterMap f (List.range xs.length)) (funext fun k=>?_)
 rw [show ((xs.length:Int) - 1 + (k:Int) * (-1)).toNat=xs.length - 1 - k by omega]
 simp
theorem getItem_tuple_rev {t sl:Addr}{its:List Value}{tk:Tok}{Q:Value->Shared->Prop}(ht:IsTup s.heap t its.toArray)(hs:s.heap.IsSliceOf sl .none .none (.int (-1) tk))
  (h:Q (.ref s.heap.objs.size) { s with heap:=s.heap.push { cls:=.type "tuple",data:=.seq its.reverse.toArray } }) (hsz:its.length<=sizeLine):wpAny (model prog w) A (getItem (.ref t) (.ref sl)) Q E s:=by
 have htake:sizeOk (.seq its.reverse.toArray):=by
  show its.reverse.toArray.size<=sizeLine
  rw [List.size_toArray,List.length_reverse]
  exact hsz
 obtain ⟨os,hos,hcs,hds⟩:=id hs
 have hTs:s.TypeIs (.ref sl) "slice" := ⟨os,hos,hcs⟩
 unfold getItem
 try with_reducible refine wpAny_holding ?_
 first | refine wpAny_bind (wpAny_pure ?_) | skip
 refine wpAny_bind (wpAny_sequenceKey ht.typeIs (by decide) ?_)
 refine wpAny_bind (wpAny_callSpecial?_slot (name:=Str.ofString "__getitem__") ht.typeIs PyProof.Rows.slot_tuple_getitem
  (wpAny_call_entry PyProof.Rows.slot_tuple_getitem ht.typeIs entry_tuple_getitem ?_ (args_tuple_getitem _ _)))
 show wpAny _ _ (Builtin.Tuple.tupleItemsOf (.ref t) >>= _) _ _ s
 refine wpAny_bind (tupleItemsOf_ ht ?_)
 refine wpAny_bind (wpAny_typeOf hTs ?_)
 rw [if_pos (by decide)]
 refine wpAny_bind (jbD (n:=its.length) hs ?_)
 have hno:¬ ((((its.length:Int) - 1) == 0 && (-1:Int) == 1 && its.length == its.toArray.size)=true):=by simp
 show wpAny _ _ (if (((its.length:Int) - 1) == 0 && (-1:Int) == 1 && its.length == its.toArray.size)=true then _ else _) _ _ s
 rw [if_neg hno,jf6]
 first
  | exact wpAny_bind (m:=Builtin.Tuple.tupleExact _) (wpAny_newObj_type (wpAny_pure ⟨_,rfl,wpAny_pure h⟩) htake)
  | exact wpAny_bind (m:=Builtin.Tuple.tupleExact _) (wpAny_newObj_type (wpAny_bind (wpAny_pure (wpAny_pure ⟨_,rfl,wpAny_pure h⟩))) htake)
  | exact wpAny_bind (wpAny_bind (m:=Builtin.Tuple.tupleExact _) (wpAny_newObj_type (wpAny_pure (wpAny_pure ⟨_,rfl,wpAny_pure h⟩)) htake))
  | exact wpAny_bind (wpAny_bind (m:=Builtin.Tuple.tupleExact _) (wpAny_newObj_type (wpAny_pure ⟨_,rfl,wpAny_pure h⟩) htake))
end
end HT
namespace L2
open PySem PySem.Spec PyProof.Rows
section
variable {X:Cx}{e st:Expr}{te tst:TE}{pos p2:Pos}
noncomputable def jkK (K:PySem.W.Frag)(te tst:TE):TE:=fun σ H Q=>te σ H fun x H1=>tst σ H1 fun y H2=>∃ a xs,x=.ref a/\SqT K H2 a xs/\y=.int (-1)/\∀ p,H2 p=none->Q (.ref p) (upd H2 p (.tup xs.reverse))
theorem jhz (he:PE X e te)(hs:PE X st tst):PE X (.Subscript e (.Slice none none (some st) p2) pos) (jkK X.K te tst):=by
 intro pins s σ H Q I h
 refine Subscript_ (thn (he pins s σ H _ I h) fun v s1 ⟨x,H1,I1,r1,q1⟩=>?_)
 refine wpAny_Slice ?_
 rw [evalPart_none,evalPart_some]
 refine wpAny_pure (wpAny_pure ?_)
 refine thn (hs pins s1 σ H1 _ I1 q1) fun u s3 ⟨y,H3,I3,r3,q3⟩=>?_
 have I4:Inv X pins σ H3 { s3 with heap:=s3.heap.push { cls:=.type "slice",data:=.fields #[.none,.none,u] } }:=I3.kept (t':=s3.toks) fun b ob q=>Heap.get?_push_of_some _ q
 obtain ⟨a,xs,rfl,hx,rfl,q⟩:=q3
 cases r1
 obtain ⟨t,rfl⟩:=r3
 obtain ⟨its,r,ht,hz⟩:=I4.tuple hx
 have hlen:=r.length
 show wpAny (model X.prog X.w) X.A (subscriptTail e (.Slice none none (some st) p2) (.ref a) (.ref s3.heap.objs.size)) (EP X pins σ Q) X.xe { s3 with heap:=s3.heap.push { cls:=.type "slice",data:=.fields #[.none,.none,.int (-1) t] } }
 refine tail_any (ops:=[.ref a,.ref s3.heap.objs.size]) ht.typeIs PyProof.Rows.slot_tuple_getitem.lookup ?_ (by with_unfolding_all rfl)
 refine HT.getItem_tuple_rev ht (Heap.IsSliceOf.new ..) ?_ (by rw [<- hlen]; exact hz)
 refine ⟨.ref _,_,I4.laid (t':=s3.toks) (o:=.tup xs.reverse) (fun b ob q=>Heap.get?_push_of_some _ q) (Nat.le_refl _) ?_,rfl,q _ (I4.hok.fresh (Nat.le_refl _))⟩
 exact ⟨by rw [List.length_reverse]; exact hz,_,r.rev,TupD.new _ _⟩
end
section
variable {X:Cx}{N:List Str}{scope:Scope}{cl:List (Str×Addr)}{C:Addr}{s₀:Shared}{H₀:Hp}{fp:List Addr}
end
end L2

namespace L2
open PySem PySem.Spec PyProof.Rows
set_option maxHeartbeats 4000000
section
variable {X:Cx}{pos:Pos}
noncomputable def jk0 (K:PySem.W.Frag):R2:=fun x y H Q=>∃ a b xs ys,x=.ref a/\y=.ref b/\SqT K H a xs/\SqT K H b ys/\xs.length + ys.length<=sizeLine/\
 (xs=[]->Q (.ref b) H)/\(xs≠[]->ys=[]->Q (.ref a) H)/\(xs≠[]->ys≠[]->∀ p,H p=none->Q (.ref p) (upd H p (.tup (xs++ys))))
theorem jhL:OpR X (binaryOp .Add) (jk0 X.K):=by
 intro pins s σ H x y v u Q I rx ry h
 obtain ⟨a,b,xs,ys,rfl,rfl,ha,hb,hz,q0,q1,q2⟩:=h
 by_cases hx:xs=[]
 ·cases rx
  cases ry
  obtain ⟨its,r1,p1,_⟩:=I.tuple ha
  obtain ⟨its2,r2,p2,_⟩:=I.tuple hb
  have hv:its=[]:=r1.nil_iff.mpr hx
  subst hv
  obtain ⟨⟨cls,dd,data,sl⟩,ho,hc,n,hd⟩:=id p1
  obtain ⟨⟨cls2,dd2,data2,sl2⟩,ho2,hc2,n2,hd2⟩:=id p2
  simp only at hc hd hc2 hd2
  subst hc hd hc2 hd2
  exact concat_meets ⟨_,ho,rfl⟩ ⟨_,ho2,rfl⟩ noFill_tuple_add seq_tuple_add PySem.F.slot_tuple_add PySem.F.entry_tuple_add (PySem.F.args_tuple_add_2 _ _)
   (tuple_addW0 a b _ its2.toArray n n2 dd dd2 sl sl2 rfl) ⟨ho,ho2,⟨.ref b,H,I,rfl,q0 hx⟩⟩
 ·exact jhK pins s σ H _ _ _ _ Q I rx ry ⟨a,b,xs,ys,rfl,rfl,ha,hb,hx,hz,q1 hx,q2 hx⟩
theorem jeB {k:Nat}(hr:Room k X.A):OpR X (compareOp .Eq) (fun x y H Q=>∃ a b xs,x=.ref a/\y=.ref b/\SqT X.K H a xs/\SqT X.K H b []/\Q (.bl xs.isEmpty) H):=by
 intro pins s σ H x y v u Q I rx ry h
 obtain ⟨a,b,xs,rfl,rfl,ha,hb,q⟩:=h
 cases rx; cases ry
 obtain ⟨its,rv,pa,_⟩:=I.tuple ha
 obtain ⟨its2,rv2,pb,_⟩:=I.tuple hb
 cases rv2
 have hu:X.A.units < cLine:=hr.units0
 have e:((List.range (min its.toArray.size ([]:List Value).toArray.size)).all (fun _=>true) && its.toArray.size == ([]:List Value).toArray.size)=xs.isEmpty:=by
  cases rv <;> simp
 refine EqBoolInt.of_rc (SeqAt.RcAt.tuples (e:=fun _=>true) (show s.heap.IsTuple a its.toArray from pa) (show s.heap.IsTuple b ([]:List Value).toArray from pb) hu fun j _ h2=>?_) ?_
 ·simp at h2
 ·rw [e]
  exact ⟨.bl xs.isEmpty,H,I,rfl,q⟩
end
section
variable {X:Cx}{N:List Str}{scope:Scope}{cl:List (Str×Addr)}{C:Addr}{s₀:Shared}{H₀:Hp}{fp:List Addr}
end
theorem jbK:∀ {ys:List Str} {us:List Value},Vals (ys.map V.str) us->StrsAre us ys
 | [],_,.nil=>.nil
 | y::r,_,.cons ⟨t,e⟩ q=>by subst e; exact .cons y t (jbK q)
section
variable {X:Cx}
noncomputable def jkY (K:PySem.W.Frag):V->List V->Hp->VK->Prop:=fun x vs H Q=>∃ (z:Str) (p:Addr) (ys:List Str),x=.str z/\vs=[.ref p]/\(SqL K H p (ys.map V.str)\/SqT K H p (ys.map V.str))/\z.length<=16/\(ys.map (·.length)).sum + ys.length<=1048576/\Q (.str (Str.join z ys)) H
theorem mt_join:MtR X "str.join" (jkY X.K):=by
 intro pins s σ H x vs v us Q I rx rv h
 obtain ⟨z,p,ys,rfl,rfl,hq,h1,h2,q⟩:=h
 obtain ⟨t,rfl⟩:=rx
 obtain ⟨u,rfl,ru⟩:=Vals.one rv
 cases ru
 rcases hq with hq | hq
 ·obtain ⟨its,r',pl,hz⟩:=I.list hq
  exact join_listW pl.isList (by simpa using jbK r') h1 h2 fun t' k=>⟨.str (Str.join z ys),H,I.tok k,⟨t',by rw [<- StrLaws.glued_eq_join]; rfl⟩,q⟩
 ·obtain ⟨its,r',pl,hz⟩:=I.tuple hq
  exact join_tupleW pl (by simpa using jbK r') h1 h2 fun t' k=>⟨.str (Str.join z ys),H,I.tok k,⟨t',by rw [<- StrLaws.glued_eq_join]; rfl⟩,q⟩
end
section
variable {X:Cx}{N:List Str}{scope:Scope}{cl:List (Str×Addr)}{C:Addr}{s₀:Shared}{H₀:Hp}{fp:List Addr}
end
theorem jcf:∀ (ts:List Str) (c:Nat),c∈(Str.join "" ts).cps.toList↔∃ t∈ts,c∈t.cps.toList:=fun ts c=>by
 rw [mem_join]
 constructor
 ·rintro (h | ⟨_,h⟩)
  ·exact h
  ·exact absurd h (by show ¬ c∈(([]:List Nat)); simp)
 ·exact .inl
theorem ja7:∀ (ts:List Str),(∀ t∈ts,t.length=1)->(Str.join "" ts).length=ts.length
 | [],_=>rfl
 | [x],h=>h x (by simp)
 | x::y::r,h=>by
  have ih:=ja7 (y::r) fun t ht=>h t (List.mem_cons_of_mem _ ht)
  have h1:=h x (by simp)
  show (x ++ "" ++ Str.join "" (y::r)).length=_
  have e:(x ++ "" ++ Str.join "" (y::r)).length=x.length + (Str.join "" (y::r)).length:=by
   show (x.cps++("" : Str).cps++(Str.join "" (y::r)).cps).size=_
   rw [Array.size_append,Array.size_append]
   show x.cps.size + 0 + _=_
   rfl
  rw [e,ih,h1,List.length_cons,List.length_cons,List.length_cons]
  omega
section
variable {X:Cx}
noncomputable def jiQ (K:PySem.W.Frag)(neg:Bool):R2:=fun x y H Q=>∃ d e,DV K H x d/\DV K H y e/\d.canLay0=true/\e.canLay0=true/\d.depth<=100/\Q (.bl (if neg then !PyData.eqv d e else PyData.eqv d e)) H
theorem jjk {k:Nat}(hr:Room k X.A):OpR X (compareOp .NotEq) (jiQ X.K true):=by
 intro pins s σ H x y v u Q I rx ry h
 obtain ⟨d,e,hd,he,c1,c2,hk,q⟩:=h
 obtain ⟨as,ra⟩:=hd.reads I rx
 obtain ⟨bs,rb⟩:=he.reads I ry
 exact SeqAt.compareNe_reads ra rb c1 c2 (by have:=hr.un; omega) ⟨.bl _,H,I,rfl,q⟩
theorem jjn {k:Nat}(hr:Room k X.A):OpR X (compareOp .Eq) (jiQ X.K false):=by
 intro pins s σ H x y v u Q I rx ry h
 obtain ⟨d,e,hd,he,c1,c2,hk,q⟩:=h
 obtain ⟨as,ra⟩:=hd.reads I rx
 obtain ⟨bs,rb⟩:=he.reads I ry
 exact SeqAt.compareEq_reads ra rb c1 c2 (by have:=hr.un; omega) ⟨.bl _,H,I,rfl,q⟩
end
section
variable {X:Cx}{N:List Str}{scope:Scope}{cl:List (Str×Addr)}{C:Addr}{s₀:Shared}{H₀:Hp}{fp:List Addr}
end
mutual
noncomputable def noB:PyData->Bool
 | .none=>true
 | .bool _=>false
 | .int _=>true
 | .str _=>true
 | .list ds=>noBs ds
 | .tuple ds=>noBs ds
 | .dict _=>false
noncomputable def noBs:List PyData->Bool
 | []=>true
 | d::r=>noB d && noBs r
end
mutual
theorem jjR:∀ {d e:PyData},noB d=true->noB e=true->PyData.eqv d e=true->d=e
 | .none,.none,_,_,_=>rfl
 | .int i,.int j,_,_,h=>by rw [PyData.eqv] at h; rw [eq_of_beq h]
 | .str i,.str j,_,_,h=>by rw [PyData.eqv] at h; rw [eq_of_beq h]
 | .list xs,.list ys,h1,h2,h=>by rw [PyData.eqv] at h; rw [noB] at h1 h2; rw [jdV h1 h2 h]
 | .tuple xs,.tuple ys,h1,h2,h=>by rw [PyData.eqv] at h; rw [noB] at h1 h2; rw [jdV h1 h2 h]
 | .bool _,_,h,_,_=>by rw [noB] at h; cases h
 | .dict _,_,h,_,_=>by rw [noB] at h; cases h
 | .none,.bool _,_,h,_ | .int _,.bool _,_,h,_ | .str _,.bool _,_,h,_ | .list _,.bool _,_,h,_ | .tuple _,.bool _,_,h,_=>by rw [noB] at h; cases h
 | .none,.dict _,_,h,_ | .int _,.dict _,_,h,_ | .str _,.dict _,_,h,_ | .list _,.dict _,_,h,_ | .tuple _,.dict _,_,h,_=>by rw [noB] at h; cases h
 | .none,.int _,_,_,h | .none,.str _,_,_,h | .none,.list _,_,_,h | .none,.tuple _,_,_,h=>by rw [PyData.eqv] at h; cases h
 | .int _,.none,_,_,h | .int _,.str _,_,_,h | .int _,.list _,_,_,h | .int _,.tuple _,_,_,h=>by rw [PyData.eqv] at h; cases h
 | .str _,.none,_,_,h | .str _,.int _,_,_,h | .str _,.list _,_,_,h | .str _,.tuple _,_,_,h=>by rw [PyData.eqv] at h; cases h
 | .list _,.none,_,_,h | .list _,.int _,_,_,h | .list _,.str _,_,_,h | .list _,.tuple _,_,_,h=>by rw [PyData.eqv] at h; cases h
 | .tuple _,.none,_,_,h | .tuple _,.int _,_,_,h | .tuple _,.str _,_,_,h | .tuple _,.list _,_,_,h=>by rw [PyData.eqv] at h; cases h
theorem jdV:∀ {ds es:List PyData},noBs ds=true->noBs es=true->PyData.eqvAll ds es=true->ds=es
 | [],[],_,_,_=>rfl
 | d::r,e::q,h1,h2,h=>by
  rw [noBs,Bool.and_eq_true] at h1 h2
  rw [PyData.eqvAll,Bool.and_eq_true] at h
  rw [jjR h1.1 h2.1 h.1,jdV h1.2 h2.2 h.2]
 | [],_::_,_,_,h=>by rw [PyData.eqvAll] at h; cases h
 | _::_,[],_,_,h=>by rw [PyData.eqvAll] at h; cases h
end
section
variable {X:Cx}
end
section
variable {X:Cx}{N:List Str}{scope:Scope}{cl:List (Str×Addr)}{C:Addr}{s₀:Shared}{H₀:Hp}{fp:List Addr}
end
theorem jeM (ds:List PyData):PyData.eqvAll ds []=ds.isEmpty:=by
 cases ds <;> rfl
theorem jbE:fillsNumberSlot (.type "tuple") "mul" = pure false:=
 PySem.fillsNumberSlot_seq (id := "tuple.__mul__") (r:=some (.builtin "tuple.__rmul__")) F.slot_tuple_mul.lookup (by decide +kernel) F.slot_tuple_rmul.lookup (by decide +kernel)
theorem jc1:seqRepeat? (.type "tuple")=pure (some (.builtin "tuple.__mul__")):=by
 unfold seqRepeat?
 rw [PySem.seqSlot_of (T := "tuple") (name := "__mul__") (id := "tuple.__mul__") F.slot_tuple_mul.lookup (by decide +kernel),PySem.seqSlot_of (T := "tuple") (name := "__rmul__") (id := "tuple.__rmul__") F.slot_tuple_rmul.lookup (by decide +kernel)]
 rfl
theorem jch (a:Int)(t:Tok)(l:Addr)(items:Array Value)(n:Nat)(dd:Option Addr)(sl:Array (Option Value)) :
  Meets (Builtin.«int.__rmul__» ⟨[.int a t,.ref l],[]⟩) (fun _ R s=>s.heap.get? l=some { cls:=.type "tuple",dict:=dd,data:=.seq items n,slots:=sl }/\R (.ok (.ret Value.notImplemented)) s):=
 .of_wp fun prog w A R s h=>by obtain ⟨hp,g,d,tk,os⟩:=s; obtain ⟨hl,h⟩:=h; wp_walk; exact ⟨_,rfl,h⟩
theorem jew (l:Addr)(items:Array Value)(n:Nat)(dd:Option Addr)(sl:Array (Option Value))(x:Int)(t:Tok)(hx:2<=x)(hx2:x < 2 ^ 62)(h0:items.isEmpty=false)(hsz:items.size * x.toNat<=sizeLine) :
  Meets (Builtin.«tuple.__mul__» ⟨[.ref l,.int x t],[]⟩)
   (fun A R s=>s.heap.get? l=some { cls:=.type "tuple",dict:=dd,data:=.seq items n,slots:=sl }/\R (.ok (.ret (.ref s.heap.objs.size))) { s with heap:=s.heap.push { cls:=.type "tuple",data:=.seq ((List.replicate x.toNat items).foldl (·++·) #[]) } }):=
 .of_wp fun prog w A R s h=>by
  obtain ⟨hp,g,d,tk,os⟩:=s; obtain ⟨hl,h⟩:=h
  have c1:(decide (x < -2 ^ 63) || decide (x ≥ 2 ^ 63))=false:=by simp; omega
  have c2:(items.isEmpty || x == 1)=false:=by rw [h0]; simp; omega
  have c3:(decide (x<=0) || items.isEmpty)=false:=by rw [h0]; simp; omega
  have hz:(items.size:Int) * x=((items.size * x.toNat:Nat):Int):=by rw [Int.natCast_mul,Int.toNat_of_nonneg (by omega)]
  have h63:(sizeLine:Nat)<=(2 ^ 63 - 1) / 8:=by decide
  wp_walk using wpAny_loadPart' hl
  simp only [c1,Bool.false_eq_true,if_false]
  wp_walk using wpAny_loadPart' hl
  simp only [c2,c3,Bool.false_eq_true,if_false]
  rw [if_neg (by rw [hz]; omega)]
  have c4:Builtin.Tuple.tupleTooMany ((items.size:Int) * x)=false:=by
   rw [hz]
   unfold Builtin.Tuple.tupleTooMany
   exact decide_eq_false (by omega)
  simp only [c4,Bool.false_eq_true,if_false]
  have hs:(List.foldl (fun x1 x2=>x1++x2) #[] (List.replicate x.toNat items)).size<=sizeLine:=by
   rw [AutoListH.size_joined]
   simp only [List.size_toArray,List.length_nil,Nat.zero_add]
   rw [Nat.mul_comm]
   exact hsz
  revert hs h
  generalize List.foldl (fun x1 x2=>x1++x2) #[] (List.replicate x.toNat items)=G
  intro h hs
  wp_walk
  exact ⟨_,rfl,h⟩
theorem jex (l:Addr)(items:Array Value)(n:Nat)(dd:Option Addr)(sl:Array (Option Value))(t:Tok) :
  Meets (Builtin.«tuple.__mul__» ⟨[.ref l,.int 1 t],[]⟩)
   (fun A R s=>s.heap.get? l=some { cls:=.type "tuple",dict:=dd,data:=.seq items n,slots:=sl }/\R (.ok (.ret (.ref l))) s):=
 .of_wp fun prog w A R s h=>by
  obtain ⟨hp,g,d,tk,os⟩:=s; obtain ⟨hl,h⟩:=h
  have c1:(decide ((1:Int) < -2 ^ 63) || decide ((1:Int) ≥ 2 ^ 63))=false:=by decide
  have c2:(items.isEmpty || (1:Int) == 1)=true:=by simp
  wp_walk using wpAny_loadPart' hl
  exact ⟨_,rfl,h⟩
section
variable {X:Cx}
noncomputable def jkX (K:PySem.W.Frag):R2:=fun x y H Q=>∃ l k xs,x=.ref l/\y=.int k/\SqT K H l xs/\xs≠[]/\1<=k/\k < 2 ^ 62/\xs.length * k.toNat<=sizeLine/\(k=1->Q (.ref l) H)/\(k≠1->∀ p,H p=none->Q (.ref p) (upd H p (.tup (List.replicate k.toNat xs).flatten)))
theorem jhI:OpR X (binaryOp .Mult) (jkX X.K):=by
 intro pins s σ H x y v u Q I rx ry h
 obtain ⟨l,k,xs,rfl,rfl,hH,h0,h1,h2,hz,q1,q2⟩:=h
 cases rx
 obtain ⟨t,rfl⟩:=ry
 obtain ⟨its,r,pl,_⟩:=I.tuple hH
 have hl:=r.length
 obtain ⟨⟨cls,dd,data,sl⟩,e,hc,n,hd⟩:=id pl
 simp only at hc hd
 subst hc hd
 have hne:its≠[]:=fun z=>h0 (r.nil_iff.mp z)
 refine wpAny_binaryOp_repeat_ref (T := "tuple") (U := "int") (by decide) ⟨_,e,rfl⟩ (fun s'=>typeIs_int s' k t) jbE F.fills_int_mul F.slot_int_rmul jc1 F.slot_int_index.lookup
  (call_meets F.slot_int_rmul (typeIs_int s k t) F.entry_int_rmul (F.args_int_rmul_2 _ _) (jch k t l its.toArray n dd sl) ⟨e,rfl,⟨_,e,rfl⟩,?_⟩)
 by_cases hk:k=1
 ·subst hk
  exact call_meets F.slot_tuple_mul ⟨_,e,rfl⟩ F.entry_tuple_mul (F.args_tuple_mul_2 _ _) (jex l its.toArray n dd sl t) ⟨e,⟨.ref l,H,I,rfl,q1 rfl⟩⟩
 ·refine call_meets F.slot_tuple_mul ⟨_,e,rfl⟩ F.entry_tuple_mul (F.args_tuple_mul_2 _ _) (jew l its.toArray n dd sl k t (by omega) h2 (by simpa using hne) (by rw [List.size_toArray,<- hl]; exact hz)) ⟨e,?_⟩
  have f0:=jb2 its k.toNat []
  rw [List.nil_append] at f0
  rw [f0]
  refine ⟨.ref s.heap.objs.size,_,I.laid (t':=s.toks) (o:=.tup (List.replicate k.toNat xs).flatten) (fun b ob q=>Heap.get?_push_of_some _ q) (Nat.le_refl _) ?_,rfl,q2 hk _ (I.hok.fresh (Nat.le_refl _))⟩
  exact ⟨by rw [jfk,Nat.mul_comm]; exact hz,_,r.rep k.toNat,TupD.new _ _⟩
theorem jcj:∀ {bs:List Bool} {us:List Value} {i:Nat} {v:Value},Vals (bs.map V.bl) us->us[i]?=some v->∃ b,bs[i]?=some b/\v=.bool b
 | b::r,_,0,v,.cons e q,h=>by
  cases e
  exact ⟨b,rfl,(Option.some.inj h).symm⟩
 | b::r,_,i + 1,v,.cons e q,h=>jcj (bs:=r) (i:=i) q (by simpa using h)
 | [],_,i,v,.nil,h=>by simp at h
theorem jeP {pins:List (Addr×Obj)}{s:Shared}{σ:St}{H:Hp}{p:Addr}{bs:List Bool}(hc:X.calm=true)(I:Inv X pins σ H s)(hq:SqL X.K H p (bs.map V.bl))(d:Bool) :
  ∃ its fp wr P S,s.heap.IsList p its/\Walks X.prog X.w X.A.in1 s.heap.objs.size fp wr bs.length P S/\S 0 (s.heap.push ⟨.type "list_iterator",none,.fields #[.ref p,.int 0 0],#[]⟩)/\TruthOf X.prog X.w X.A.in1 P (fun i=>(bs[i]?).getD d)/\
   ∀ h':Heap,(∀ b o,b∉wr->(s.heap.push ⟨.type "list_iterator",none,.fields #[.ref p,.int 0 0],#[]⟩).get? b=some o->h'.get? b=some o)->∀ b o,s.heap.get? b=some o->h'.get? b=some o:=by
 obtain ⟨its,r',pl,-⟩:=I.list hq
 have n:its.toArray.size=bs.length:=by simpa using r'.length.symm
 obtain ⟨o,ho,-⟩:=id pl.isList
 have W:=Walks.list (prog:=X.prog) (w:=X.w) (A:=X.A.in1) (I.ok.hd hc) s.heap.objs.size p (Nat.ne_of_lt (Heap.lt_size ho)) its.toArray
 rw [n] at W
 refine ⟨its.toArray,_,_,_,_,pl.isList,W,⟨⟨_,Heap.get?_push_size _ rfl,rfl,rfl⟩,pl.isList.push _⟩,fun i v t Q E hP hQ=>?_,fun h' hk b o e=>hk b o (fun m=>?_) (Heap.get?_push_of_some _ e)⟩
 ·obtain ⟨b,e,rfl⟩:=jcj (i:=i) (v:=v) r' (by simpa using hP)
  exact wpAny_truthy_bool (by simpa only [e,Option.getD] using hQ)
 ·exact absurd (Heap.lt_size e) (by rw [List.mem_singleton.mp m]; exact Nat.lt_irrefl _)
theorem jgu (hc:X.calm=true):jaM X (.builtin "any") (fun xs H Q=>∃ (p:Addr) (bs:List Bool),xs=[.ref p]/\SqL X.K H p (bs.map V.bl)/\Q (.bl (bs.any id)) H):=by
 rintro pins s σ H xs us Q I r ⟨p,bs,rfl,hq,q⟩
 obtain ⟨u,rfl,rx⟩:=jcA r
 cases rx
 obtain ⟨its,fp,wr,P,S,hl,W,st,tr,kp⟩:=jeP hc I hq false
 exact call_any_walk (wpAny_pyIter_list hl ⟨_,fp,wr,_,P,S,_,rfl,W,st,tr,fun h' tk hk=>⟨.bl _,H,I.kept (kp h' hk),congrArg Value.bool (LSm.range_any bs),q⟩⟩)
end
section
variable {X:Cx}
end
end L2

namespace L2
open PySem PySem.Spec PyProof.Rows
open Sem (wp)
open AutoSeq1 (wpAny_loadPart')
set_option maxHeartbeats 4000000
section
variable {prog:Program}{w:World}{A:Around}{E:Value->Shared->Prop}{s:Shared}
end
section
variable {X:Cx}{pins:List (Addr×Obj)}{σ:St}{H:Hp}{s:Shared}{h':Heap}
end
section
variable {X:Cx}
end
end L2

namespace L2
open PySem PySem.Spec PyProof.Rows
set_option maxHeartbeats 4000000
section
variable {X:Cx}
end
section
variable {prog:Program}{w:World}{A:Around}{R:Result->Shared->Prop}{I:Addr}{fp wr:List Addr}{n:Nat}{P:Nat->Value->Prop}{St:Nat->Heap->Prop}
end
section
variable {prog:Program}{w:World}{A:Around}{E:Value->Shared->Prop}{s:Shared}
end

noncomputable def jjZ (ks:List (List Int)):Nat:=argBest (fun i j=>HT.lexLt (ks.getD i []) (ks.getD j [])) (ks.length - 1)
section
variable {X:Cx}
end
end L2

namespace L2
open PySem PySem.Spec PyProof.Rows PySem.W
set_option maxHeartbeats 4000000
section
variable {n:Nat}{lt:Nat->Nat->Bool}{cmp:Nat->Nat->(Bool->Shared->Prop)->Shared->Prop}{s:Shared}
structure Asks (n:Nat)(lt:Nat->Nat->Bool)(cmp:Nat->Nat->(Bool->Shared->Prop)->Shared->Prop)(s:Shared):Prop where
 ask:∀ i j C,i < n->j < n->C (lt i j) s->cmp i j C s
 tr:∀ i j k,i < n->j < n->k < n->lt i j=true->lt j k=true->lt i k=true
 tot:∀ i j,i < n->j < n->i≠j->lt i j=true\/lt j i=true
 ir:∀ i,i < n->lt i i=false
noncomputable def gD (p:Array Nat)(k:Nat):Nat:=p.getD k 0
structure Arr (n:Nat)(p:Array Nat):Prop where
 z:p.size=n
 b:∀ i,i < n->gD p i < n
 inj:∀ i j,i < n->j < n->gD p i=gD p j->i=j
 pm:p.toList.Perm (List.range n)
noncomputable def Asc (lt:Nat->Nat->Bool)(p:Array Nat)(m:Nat):Prop:=∀ i,i + 1 < m->lt (gD p i) (gD p (i + 1))=true
end
end L2

namespace L2
open PySem PySem.Spec PyProof.Rows PySem.W
open PySem.AutoSeq1 (wpAny_loadPart')
open PySem.MeetsSeq PySem.MeetsSeq2 PySem.MeetsSeq3
set_option maxHeartbeats 4000000
end L2

namespace L2
open PySem PySem.Spec PyProof.Rows PySem.W
set_option maxHeartbeats 4000000

section
variable {prog:Program}{w:World}{A:Around}{E:Value->Shared->Prop}{s:Shared}{κ:SortKind}{S:Keyed->Prop}{ρ:Keyed->Int}
end
section
variable {ρ:Keyed->Int}
noncomputable def Srt (ρ:Keyed->Int)(l:List Keyed):Prop:=l.Pairwise fun x y=>ρ x<=ρ y
structure Mg (ρ:Keyed->Int)(a b out xs ys:List Keyed):Prop where
 sx:Srt ρ (out++xs)
 sy:Srt ρ (out++ys)
 pm:(out++xs++ys).Perm (a++b)
variable {a b out xs ys x1 y1:List Keyed}
end
section
variable {α:Type}{a:Array α}{i k:Nat}{x:α}
end
section
noncomputable abbrev T2:=Option (Array Keyed)×Array Keyed×Nat×Nat×Nat×Nat×Nat
noncomputable abbrev T1:=Option (Array Keyed)×Array Keyed×Nat×Nat×Nat×Nat
end
structure Fr (st st':SortSt):Prop where
 k:kindOf st'=kindOf st
 a:arrOf st'=arrOf st
 p:pendingOf st'=pendingOf st
 f:failedOf st'=failedOf st
noncomputable def Fin2 (ρ:Keyed->Int)(a b zs:Array Keyed):Prop:=Srt ρ zs.toList/\zs.toList.Perm (a.toList++b.toList)
structure Two2 (S:Keyed->Prop)(ρ:Keyed->Int)(a b:Array Keyed):Prop where
 sa:∀ (i:Nat) (x:Keyed),a[i]?=some x->S x
 sb:∀ (i:Nat) (x:Keyed),b[i]?=some x->S x
 oa:Srt ρ a.toList
 ob:Srt ρ b.toList
 last:∀ x,a[a.size - 1]?=some x->∀ y∈b.toList,ρ y<=ρ x
 first:∀ y,b[0]?=some y->∀ x∈a.toList,ρ y<=ρ x
 na:0 < a.size
 nb:0 < b.size
structure Lo (ρ:Keyed->Int)(a b out:Array Keyed)(ia ib:Nat):Prop where
 m:Mg ρ a.toList b.toList out.toList (a.toList.drop ia) (b.toList.drop ib)
 ia:ia + 1 < a.size
 ib:ib < b.size
section
variable {S:Keyed->Prop}{ρ:Keyed->Int}{a b out:Array Keyed}{ia ib k:Nat}{x y:Keyed}
end
section
variable {prog:Program}{w:World}{A:Around}{E:Value->Shared->Prop}{s:Shared}{κ:SortKind}{S:Keyed->Prop}{ρ:Keyed->Int}{a b out:Array Keyed}{ia ib g ac bc m:Nat}{st0 st:SortSt}{Q:ForInStep T2->SortSt->Prop}
structure Out2 (ρ:Keyed->Int)(a b:Array Keyed)(st0:SortSt)(m:Nat)(Q:ForInStep T2->SortSt->Prop):Prop where
 fin:∀ zs d st',Fr st0 st'->Fin2 ρ a b zs->Q (.done (some zs,d)) st'
 go:∀ out ia ib g ac bc st',Fr st0 st'->Lo ρ a b out ia ib->m<=ia + ib->Q (.done (none,out,ia,ib,g,ac,bc)) st'/\Q (.yield (none,out,ia,ib,g,ac,bc)) st'
end
section
noncomputable abbrev H2:=Option (Array Keyed)×Nat×Nat×Array Keyed×Nat×Nat×Nat
noncomputable abbrev H1:=Option (Array Keyed)×Nat×Nat×Array Keyed×Nat×Nat
end
structure Mh (ρ:Keyed->Int)(a b xs ys o:List Keyed):Prop where
 sx:Srt ρ (xs++o)
 sy:Srt ρ (ys++o)
 pm:(xs++ys++o).Perm (a++b)
section
variable {ρ:Keyed->Int}{a b o xs ys x1 y1:List Keyed}
end
section
variable {α:Type}{a:Array α}{i k:Nat}{x:α}
end
structure Hi (ρ:Keyed->Int)(a b out:Array Keyed)(na nb:Nat):Prop where
 m:Mh ρ a.toList b.toList (a.toList.take na) (b.toList.take nb) out.toList.reverse
 a0:0 < na
 b1:1 < nb
 la:na<=a.size
 lb:nb<=b.size
section
variable {S:Keyed->Prop}{ρ:Keyed->Int}{a b out:Array Keyed}{na nb k:Nat}{x y:Keyed}
end
section
variable {prog:Program}{w:World}{A:Around}{E:Value->Shared->Prop}{s:Shared}{κ:SortKind}{S:Keyed->Prop}{ρ:Keyed->Int}{a b out:Array Keyed}{na nb g ac bc m:Nat}{st0 st:SortSt}{Q:ForInStep H2->SortSt->Prop}
structure Oh2 (ρ:Keyed->Int)(a b:Array Keyed)(st0:SortSt)(m:Nat)(Q:ForInStep H2->SortSt->Prop):Prop where
 fin:∀ zs d st',Fr st0 st'->Fin2 ρ a b zs->Q (.done (some zs,d)) st'
 go:∀ na nb out g ac bc st',Fr st0 st'->Hi ρ a b out na nb->na + nb<=m->Q (.done (none,na,nb,out,g,ac,bc)) st'/\Q (.yield (none,na,nb,out,g,ac,bc)) st'
end
section
variable {α:Type}
end
section
variable {prog:Program}{w:World}{A:Around}{E:Value->Shared->Prop}{s:Shared}{κ:SortKind}{S:Keyed->Prop}{ρ:Keyed->Int}
structure Base2 (κ:SortKind)(S:Keyed->Prop)(st:SortSt):Prop where
 k:kindOf st=κ
 f:failedOf st=none
 S:∀ x∈(arrOf st).toList,S x
end
noncomputable def kk (ρ:Keyed->Int)(xs:Array Keyed)(i:Nat):Int:=match xs[i]? with
 | some x=>ρ x
 | none=>0
noncomputable def Up2 (ρ:Keyed->Int)(xs:Array Keyed)(l h:Nat):Prop:=∀ i j,l<=i->i<=j->j < h->kk ρ xs i<=kk ρ xs j
structure Ch (l:Nat)(st st':SortSt):Prop where
 e:st'=setArr st (arrOf st')
 pm:(arrOf st').Perm (arrOf st)
 pre:∀ i,i < l->(arrOf st')[i]?=(arrOf st)[i]?
section
end
section
variable {prog:Program}{w:World}{A:Around}{E:Value->Shared->Prop}{s:Shared}{κ:SortKind}{S:Keyed->Prop}{ρ:Keyed->Int}{l n h:Nat}{st:SortSt}
end
noncomputable def starts:Nat->List (List Keyed)->List (Nat×Nat)
 | _,[]=>[]
 | b,r::rs=>(b,r.length)::starts (b + r.length) rs
noncomputable abbrev prd (p:Nat×Nat×Nat):Nat×Nat:=(p.1,p.2.1)
structure Rws (ρ:Keyed->Int)(st:SortSt)(rs:List (List Keyed))(rest:List Keyed):Prop where
 ar:(arrOf st).toList=rs.flatten++rest
 pd:(pendingOf st).toList.map prd=starts 0 rs
 ok:∀ r∈rs,r≠[]/\Srt ρ r
section
variable {prog:Program}{w:World}{A:Around}{E:Value->Shared->Prop}{s:Shared}{κ:SortKind}{S:Keyed->Prop}{ρ:Keyed->Int}{st:SortSt}{rs:List (List Keyed)}{rest:List Keyed}
end
section
variable {prog:Program}{w:World}{A:Around}{E:Value->Shared->Prop}{s:Shared}{κ:SortKind}{S:Keyed->Prop}{ρ:Keyed->Int}{st:SortSt}{rs:List (List Keyed)}{rest:List Keyed}
end
section
variable {prog:Program}{w:World}{A:Around}{s:Shared}
open Classical in
end
section
variable {prog:Program}{w:World}{A:Around}{E:Value->Shared->Prop}{s:Shared}
end

section
variable {X:Cx}
end
section
variable {X:Cx}
open Classical in
noncomputable def eD (h:Heap)(d:PyData)(w:Value):Bool:=decide (∃ e as,e.canLay0=true/\Reads h w e as/\PyData.eqv e d=true)
open Classical in
end
section
variable {X:Cx}
end
end L2

namespace L2
open PySem PySem.Spec PyProof.Rows
set_option maxHeartbeats 4000000
section
variable {prog:Program}{w:World}{A:Around}{R:Result->Shared->Prop}{I:Addr}{fp wr:List Addr}{n:Nat}{P:Nat->Value->Prop}{St:Nat->Heap->Prop}
end
section
variable {prog:Program}{w:World}{A:Around}{E:Value->Shared->Prop}{s:Shared}
end

section
variable {X:Cx}
end
end L2

namespace L2
open PySem PySem.Spec PyProof.Rows PySem.SeqAt PySem.MeetsSeq
set_option maxHeartbeats 4000000
theorem ja4 (l:Addr)(es:Array DictEntry)(n:Nat)(dd:Option Addr)(sl:Array (Option Value))(b:Str)(u:Tok) :
  Meets (Builtin.«dict.__eq__» ⟨[.ref l,.str b u],[]⟩) (fun _ R s=>s.heap.get? l=some { cls:=.type "dict",dict:=dd,data:=.dict es n,slots:=sl }/\R (.ok (.ret .notImplemented)) s):=
 .of_wp fun prog w A R s h=>by obtain ⟨hp,g,d,tk,os⟩:=s; obtain ⟨hl,h⟩:=h; have f1:=F.sub_str_dict; wp_walk using wpAny_loadPart' hl; exact ⟨_,rfl,h⟩
theorem ja2 (b:Str)(u:Tok)(l:Addr)(es:Array DictEntry)(n:Nat)(dd:Option Addr)(sl:Array (Option Value)) :
  Meets (Builtin.«str.__eq__» ⟨[.str b u,.ref l],[]⟩) (fun _ R s=>s.heap.get? l=some { cls:=.type "dict",dict:=dd,data:=.dict es n,slots:=sl }/\R (.ok (.ret .notImplemented)) s):=
 .of_wp fun prog w A R s h=>by obtain ⟨hp,g,d,tk,os⟩:=s; obtain ⟨hl,h⟩:=h; wp_walk using wpAny_loadPart' hl,wpAny_load hl; exact ⟨_,rfl,h⟩
section
variable {X:Cx}
theorem jdD {A:Around}{s:Shared}{l:Addr}{o:Obj}{es:Array DictEntry}{n:Nat}(b:Str)(u:Tok)(ho:s.heap.get? l=some o)(hc:o.cls=.type "dict")(hd:o.data=.dict es n)(hu:A.units < cLine):RcAt A s (.ref l) (.str b u) false:=fun prog w E Q h=>by
 obtain ⟨cls,dd,data,sl⟩:=o
 simp only at hc hd
 subst hc hd
 exact rc_eq_decline_or (k:=false) ⟨_,ho,rfl⟩ (typeIs_str s b u) (by decide) F.sub_str_dict F.slot_dict_eq F.slot_str_eq_refl
  (fun _ hq=>call_meets F.slot_dict_eq ⟨_,ho,rfl⟩ F.entry_dict_eq (F.args_dict_eq_2 _ _) (ja4 l es n dd sl b u) ⟨ho,hq⟩)
  (fun _ hq=>call_meets F.slot_str_eq_refl (typeIs_str s b u) F.entry_str_eq (F.args_str_eq_2 _ _) (ja2 b u l es n dd sl) ⟨ho,hq⟩)
  (fun _ hq=>wpAny_of_eq (rfl:isSame (.ref l) (.str b u)=pure false) hq) (.inr hu) h
noncomputable def jf2:R2:=fun x y H Q=>∃ a z kvs,x=.ref a/\y=.str z/\H a=some (.dK kvs)/\Q (.bl false) H
theorem jcI {k:Nat}(hr:Room k X.A):OpR X (compareOp .Eq) jf2:=by
 intro pins s σ H x y v u Q I rx ry h
 obtain ⟨a,z,kvs,rfl,rfl,ha,q⟩:=h
 cases rx
 obtain ⟨t,rfl⟩:=ry
 obtain ⟨_,_,vs,_,o,es,ep,ho,hx,hd,_⟩:kvs.length<=sizeLine/\(a == sysModules)=false/\∃ vs,KV kvs vs/\s.heap.DictOf (jap X.prog X.w) a vs:=I.hok a _ ha
 exact jdD z t ho hx.1 hd (by have:=hr.un; omega) X.prog X.w X.xe _ ⟨.bl false,H,I,rfl,q⟩
end
noncomputable def rSlS:V->Option Int->Option Int->Hp->VK->Prop:=fun x lo hi H Q=>∃ z,x=.str z/\z.length<=sizeLine/\Q (.str (Txt.slice z lo hi)) H
section
variable {X:Cx}
theorem jiC:SlR X rSlS:=by
 intro pins s σ H x v vl vu lo hi sl Q I rx hs pl pu h
 obtain ⟨z,rfl,hz,q⟩:=h
 obtain ⟨t,rfl⟩:=rx
 refine ⟨"str",_,F.slot_str_getitem.lookup,typeIs_str _ _ _,?_⟩
 obtain ⟨o,ho,hc,hd⟩:=hs
 have fin:∀ t' k,EP X pins σ Q (.str (Txt.slice z lo hi) t') { s with toks:=k }:=fun t' k=>⟨.str _,H,I.tok _,⟨_,rfl⟩,q⟩
 cases pl with
 | none=>
  cases pu with
  | none=>exact wpAny_getItem_str_slice (l:=none) (u:=none) (st:=none) ⟨o,ho,hc,hd⟩ rfl (post_val_or_str ⟨Nat.le_trans (Txt.slice_le z _ _) hz,fin⟩)
  | int j uj=>exact wpAny_getItem_str_slice (l:=none) (u:=some (j,uj)) (st:=none) ⟨o,ho,hc,hd⟩ rfl (post_val_or_str ⟨Nat.le_trans (Txt.slice_le z _ _) hz,fin⟩)
 | int i ui=>
  cases pu with
  | none=>exact wpAny_getItem_str_slice (l:=some (i,ui)) (u:=none) (st:=none) ⟨o,ho,hc,hd⟩ rfl (post_val_or_str ⟨Nat.le_trans (Txt.slice_le z _ _) hz,fin⟩)
  | int j uj=>exact wpAny_getItem_str_slice (l:=some (i,ui)) (u:=some (j,uj)) (st:=none) ⟨o,ho,hc,hd⟩ rfl (post_val_or_str ⟨Nat.le_trans (Txt.slice_le z _ _) hz,fin⟩)
theorem jhM:OpR X (binaryOp .Add) (fun x y H Q=>∃ b j,x=.bl b/\y=.int j/\Q (.int ((if b=true then (1:Int) else 0) + j)) H):=by
 intro pins s σ H x y v u Q I rx ry h
 obtain ⟨b,j,rfl,rfl,q⟩:=h
 cases rx
 obtain ⟨t,rfl⟩:=ry
 exact PySem.IntBool.add_bool_int ⟨.int _,H,I.tok _,⟨_,rfl⟩,q⟩
theorem jhH:OpR X (binaryOp .Sub) (fun x y H Q=>(∃ b j,x=.bl b/\y=.int j/\Q (.int ((if b=true then (1:Int) else 0) - j)) H)\/∃ i b,x=.int i/\y=.bl b/\Q (.int (i - if b=true then (1:Int) else 0)) H):=by
 intro pins s σ H x y v u Q I rx ry h
 rcases h with ⟨b,j,rfl,rfl,q⟩ | ⟨i,b,rfl,rfl,q⟩
 ·cases rx
  obtain ⟨t,rfl⟩:=ry
  exact PySem.IntBool.sub_bool_int ⟨.int _,H,I.tok _,⟨_,rfl⟩,q⟩
 ·cases ry
  obtain ⟨t,rfl⟩:=rx
  exact PySem.IntBool.sub_int_bool ⟨.int _,H,I.tok _,⟨_,rfl⟩,q⟩
noncomputable def jhl (K:PySem.W.Frag):R2:=fun x y H Q=>∃ a z xs,x=.ref a/\y=.str z/\(SqT K H a xs\/SqL K H a xs)/\Q (.bl false) H
theorem jc4 {k:Nat}(hr:Room k X.A):OpR X (compareOp .Eq) (jhl X.K):=by
 intro pins s σ H x y v u Q I rx ry h
 obtain ⟨a,z,xs,rfl,rfl,ha,q⟩:=h
 cases rx
 obtain ⟨t,rfl⟩:=ry
 have hu:X.A.units < cLine:=hr.units0
 rcases ha with ha | ha
 ·obtain ⟨its,rv,pa,_⟩:=I.tuple ha
  exact SeqAt.RcAt.tuple_str z t (show s.heap.IsTuple a its.toArray from pa) hu X.prog X.w X.xe _ ⟨.bl false,H,I,rfl,q⟩
 ·obtain ⟨its,rv,pa,_⟩:=I.list ha
  exact SeqAt.RcAt.list_str z t pa.isList hu X.prog X.w X.xe _ ⟨.bl false,H,I,rfl,q⟩
end
end L2

namespace L2
open PySem PySem.Spec PyProof.Rows
open AutoSeq1 (wpAny_loadPart')
set_option maxHeartbeats 4000000
section
variable {prog:Program}{w:World}{A:Around}{E:Value->Shared->Prop}{s:Shared}
end
section
variable {X:Cx}
end
end L2

namespace L2
open PySem PySem.Spec PyProof.Rows PySem.W
set_option maxHeartbeats 4000000
structure Lies (lo:Nat)(pn:List (Addr×Obj))(H:Hp)(h:Heap)(e:Addr)(cls:Value)(dx:Option Addr):Prop where
 ob:∃ oe vs,h.get? e=some oe/\oe.cls=cls/\oe.dict=dx/\oe.data=.fields vs/\
  (vs[1]?=some .none\/∃ T oT ts,vs[1]?=some (.ref T)/\T≠e/\h.get? T=some oT/\oT.data=.fields ts/\ts[3]?=some .none/\H T=none/\lo<=T/\∀ p∈pn,p.1≠T)
 hn:H e=none
 le:lo<=e
 pn:∀ p∈pn,p.1≠e
section
variable {M:Model}{A:Around}{E:Value->Shared->Prop}{s:Shared}
theorem jbh {h:Heap}{a:Addr}{o:Obj}{vs:Array Value}(i:Nat)(x:Value)(ho:h.get? a=some o)(hd:o.data=.fields vs) :
  (∃ o',(h.update a (Obj.mapFields (·.setIfInBounds i x))).get? a=some o'/\o'.cls=o.cls/\o'.dict=o.dict/\o'.data=.fields (vs.setIfInBounds i x))/\∀ b,b≠a->(h.update a (Obj.mapFields (·.setIfInBounds i x))).get? b=h.get? b:=by
 have z:=Obj.data_mapFields hd (·.setIfInBounds i x)
 refine ⟨⟨_,Heap.get?_update_self _ ho (Obj.isFreed_of_fields z),Obj.cls_mapFields _ _,?_,z⟩,fun b hb=>Heap.get?_update_other _ _ (Ne.symm hb)⟩
 unfold Obj.mapFields
 split <;> rfl
theorem jep {base:Heap}{env:Env}{outer:List Env}{L e:Addr}{oe:Obj}{vs:Array Value}{head:Value}{had:Bool}{Q:Unit->Shared->Prop}
  (hfr:A.frames=some (env::outer)) (hl:s.heap.FunFrames base (env::outer)) (hf:env.frame=some L) (he:s.heap.get? e=some oe) (hd:oe.data=.fields vs) (hsz:1 < vs.size)
  (h:∀ (h':Heap) (T:Addr) (oe' oT:Obj) (vs' ts:Array Value),(∀ b o,b∉frs (env::outer)->b≠e->s.heap.get? b=some o->h'.get? b=some o)->(∀ b o,b∈frs (env::outer)->b≠e->s.heap.get? b=some o->∃ sl,h'.get? b=some { o with slots:=sl })->
   s.heap.objs.size<=T->h'.get? e=some oe'->oe'.cls=oe.cls->oe'.dict=oe.dict->oe'.data=.fields vs'->vs'[1]?=some (.ref T)->h'.get? T=some oT->oT.data=.fields ts->ts[3]?=some .none->Q () { s with heap:=h' }) :
  wpAny M A (do let a <- frameOf env; let pl <- entryPlaceOf L had; let b <- EntryCells.newEntry head a .none (rawInt L) .none pl; setField (.ref e) 1 b) (fun _ s'=>wpAny M A (setFlight (.ref e) none) Q E s') E s:=by
 have out:e∉frs (env::outer):=fun m=>by
  rcases hl.mem m with ⟨-,o,ho,no⟩
  exact no vs (by rw [<- hd,Option.some.inj (he.symm.trans ho)])
 refine wpAny_bind (wpAny_frameOf_fun hfr hl hf fun h1 fs=>wpAny_bind (wpAny_entryPlaceOf fun pl hpl=>wpAny_bind (wpAny_newObj_type ?_ (hpl.sizeOk5 _ _ _ _ _))))
 have n3:3 < ([head,.ref L,.none,rawInt L,.none]++(if pl.isEmpty then List.replicate 6 Value.none else pl)).toArray.size:=by
  rw [List.size_toArray,List.length_append]
  exact Nat.lt_add_right _ (Nat.lt_of_sub_pos (Nat.zero_lt_succ 1))
 generalize eot:(⟨.type "traceback",none,.fields ([head,.ref L,.none,rawInt L,.none]++(if pl.isEmpty then List.replicate 6 Value.none else pl)).toArray,#[]⟩:Obj)=ot
 have dt:ot.data=.fields ([head,.ref L,.none,rawInt L,.none]++(if pl.isEmpty then List.replicate 6 Value.none else pl)).toArray:=by rw [<- eot]
 have g1:h1.get? e=some oe:=by rw [fs.2.1 e out,he]
 have new:=Heap.get?_push_size h1 (Obj.isFreed_of_fields dt)
 have ne:h1.objs.size≠e:=fun z=>Nat.lt_irrefl _ (z ▸ Heap.lt_size g1)
 obtain ⟨⟨o2,g2,c2,d2,v2⟩,r2⟩:=jbh 1 (.ref h1.objs.size) (Heap.get?_push_of_some ot g1) hd
 have g2':=(r2 _ ne).trans new
 obtain ⟨⟨o3,g3,c3,d3,v3⟩,r3⟩:=jbh 3 .none g2' dt
 refine wpAny_setField (Heap.get?_push_of_some ot g1) hd hsz (wpAny_bind (wpAny_field g2 v2 (Array.getElem?_setIfInBounds_self_of_lt hsz) ?_))
 rw [if_pos (by rfl)]
 refine wpAny_setField g2' dt n3 ?_
 have keep:∀ b o,b≠e->h1.get? b=some o->_:=fun b o hb g=>(r3 b (Nat.ne_of_lt (Heap.lt_size g))).trans ((r2 b hb).trans (Heap.get?_push_of_some ot g))
 refine h _ h1.objs.size o2 o3 _ _ (fun b o hb hbe g=>keep b o hbe (by rw [fs.2.1 b hb,g])) (fun b o _ hbe g=>?_) (Nat.le_of_eq fs.1.symm) ((r3 e (Ne.symm ne)).trans g2) c2 d2 v2 (Array.getElem?_setIfInBounds_self_of_lt hsz) g3 v3 (Array.getElem?_setIfInBounds_self_of_lt n3)
 rcases fs.2.2 b o g with ⟨sl,q⟩
 exact ⟨sl,keep b _ hbe q⟩
end
section
variable {X:Cx}{pins:List (Addr×Obj)}{σ:St}{H:Hp}{s:Shared}
theorem Inv.left {h':Heap}{ch:List Addr}(I:Inv X pins σ H s)(hH:∀ b∈ch,H b=none)(hlo:∀ b∈ch,X.s₀.heap.objs.size<=b)(hd:∀ b∈ch,∃ o vs,s.heap.get? b=some o/\o.data=.fields vs)(hp:∀ b∈ch,∀ p∈X.pn++pins,p.1≠b)
  (k:∀ b o,b∉frs X.stack->b∉ch->s.heap.get? b=some o->h'.get? b=some o) (sl:∀ b o,b∈frs X.stack->b∉ch->s.heap.get? b=some o->∃ t,h'.get? b=some { o with slots:=t }):Inv X pins σ H { s with heap:=h' }:=by
 have u:Un (frs X.stack) ch H H s.heap h':=by
  refine ⟨fun b o e _ hb hc=>k b o hb hc e,fun b o e _ hb hc=>sl b o hb hc e,fun _ _ _ n _=>n,fun b o e hc=>?_,fun _ _ e=>e,fun _ _ _ e=>e,fun b ps e=>⟨#[],by rw [e]; simp⟩⟩
  by_cases hb:b∈frs X.stack
  ·obtain ⟨t,q⟩:=sl b o hb hc e
   exact ⟨_,q⟩
  ·exact ⟨o,k b o hb hc e⟩
 have tr:∀ b u,H b=some u->b∉frs X.stack/\b∉ch:=fun b u e=>⟨fun z=>(by rw [I.stkFree b z] at e; cases e),fun z=>(by rw [hH b z] at e; cases e)⟩
 have hok:HOk X.prog X.w H h':=fun a o e=>(I.hok a o e).stay (fun b v hb q=>by
  rcases hb with z | z
  ·subst z; exact k b v (tr b _ e).1 (tr b _ e).2 q
  ·exact k b v (tr b _ z).1 (tr b _ z).2 q) (fun _ q=>q) fun _ _ q=>q
 refine I.call (g':=s.gens) (d':=s.drawn) (t':=s.toks) u hok I.bare fun b hb=>⟨.inr (hlo b hb),fun z=>?_,fun x c e z=>?_,hp b hb⟩
 ·obtain ⟨o,vs,g,d⟩:=hd b hb
  obtain ⟨m,⟨o',_,_,ho,r⟩,_⟩:=I.loc
  rw [z,ho] at g
  cases g
  have:=r.1
  rw [this] at d; cases d
 ·obtain ⟨o,vs,g,d⟩:=hd b hb
  obtain ⟨v,o',ho,hc⟩:=I.cell x c e
  rw [z,g] at ho
  cases ho
  rw [d] at hc; cases hc
theorem jgO {M:Model}{E:Value->Shared->Prop}{ea:Addr}{cls:Value}{dx:Option Addr}{Q:Unit->Shared->Prop}(I:Inv X [] σ H s)(hst:X.stack=X.env::X.outer)(hf:X.env.frame=some X.env.locals)
  (l:Lies X.s₀.heap.objs.size X.pn H s.heap ea cls dx) (q:∀ h',Inv X [] σ H { s with heap:=h' }->Lies X.s₀.heap.objs.size X.pn H h' ea cls dx->Q () { s with heap:=h' }):wpAny M X.A (noteFrame (.ref ea) X.env) (fun _ s'=>wpAny M X.A (setFlight (.ref ea) none) Q E s') E s:=by
 obtain ⟨oe,vs,he,hc,hdx,hd,ht⟩:=l.ob
 have hfr:X.A.frames=some (X.env::X.outer):=by rw [<- hst]; exact I.ok.frames
 have hl:s.heap.FunFrames X.base (X.env::X.outer):=by rw [<- hst]; exact I.stack
 have pe:∀ p∈X.pn++[],p.1≠ea:=fun p hp=>l.pn p (by simpa using hp)
 unfold noteFrame
 simp only [hf]
 rcases ht with h1 | ⟨T,oT,ts,h1,hTe,hT,hdT,h3,nT,lT,pT⟩
 ·refine wpAny_bind (wpAny_field he hd h1 ?_)
  rw [if_neg (by decide)]
  refine jep hfr hl hf he hd (Array.getElem?_eq_some_iff.mp h1).1 fun h' T' oe' oT' vs' ts' k sl zT g1 c1 c2 c3 c4 g2 c5 c6=>?_
  rw [<- hst] at k sl
  have J:Inv X [] σ H { s with heap:=h' }:=I.left (ch:=[ea]) (fun b hb=>by rw [List.mem_singleton.mp hb]; exact l.hn) (fun b hb=>by rw [List.mem_singleton.mp hb]; exact l.le) (fun b hb=>by rw [List.mem_singleton.mp hb]; exact ⟨oe,vs,he,hd⟩) (fun b hb=>by rw [List.mem_singleton.mp hb]; exact pe)
   (fun b o hb hc e=>k b o hb (fun z=>hc (by simp [z])) e) fun b o hb hc e=>sl b o hb (fun z=>hc (by simp [z])) e
  refine q h' J ⟨⟨oe',vs',g1,c1.trans hc,c2.trans hdx,c3,.inr ⟨T',oT',ts',c4,?_,g2,c5,c6,I.hok.fresh zT,Nat.le_trans I.sz zT,fun p hp z=>?_⟩⟩,l.hn,l.le,l.pn⟩
  ·exact fun z=>absurd (Heap.lt_size he) (Nat.not_lt.mpr (z ▸ zT))
  ·exact absurd (Heap.lt_size (I.pin p (by simpa using hp)).1) (Nat.not_lt.mpr (z ▸ zT))
 ·have old:(Value.none == rawInt X.env.locals)=false:=rfl
  refine wpAny_bind (wpAny_field he hd h1 ?_)
  rw [if_pos (by rfl)]
  refine wpAny_bind (wpAny_field hT hdT h3 ?_)
  rw [old,if_neg Bool.false_ne_true]
  refine wpAny_bind (wpAny_setField hT hdT (Array.getElem?_eq_some_iff.mp h3).1 ?_)
  have other:=(jbh 3 .none hT hdT).2
  have I1:Inv X [] σ H { s with heap:=s.heap.update T (Obj.mapFields (·.setIfInBounds 3 Value.none)) }:=I.left (ch:=[T]) (fun b hb=>by rw [List.mem_singleton.mp hb]; exact nT) (fun b hb=>by rw [List.mem_singleton.mp hb]; exact lT) (fun b hb=>by rw [List.mem_singleton.mp hb]; exact ⟨oT,ts,hT,hdT⟩) (fun b hb p hp=>by rw [List.mem_singleton.mp hb]; exact pT p (by simpa using hp))
   (fun b o _ hc e=>(other b (by simpa using hc)).trans e) fun b o _ hc e=>⟨o.slots,(other b (by simpa using hc)).trans e⟩
  have he1:=(other ea (Ne.symm hTe)).trans he
  have hl1:(s.heap.update T (Obj.mapFields (·.setIfInBounds 3 Value.none))).FunFrames X.base (X.env::X.outer):=by rw [<- hst]; exact I1.stack
  refine jep (s:={ s with heap:=s.heap.update T (Obj.mapFields (·.setIfInBounds 3 Value.none)) }) hfr hl1 hf he1 hd (Array.getElem?_eq_some_iff.mp h1).1 fun h' T' oe' oT' vs' ts' k sl zT g1 c1 c2 c3 c4 g2 c5 c6=>?_
  rw [<- hst] at k sl
  have J:Inv X [] σ H { s with heap:=h' }:=Inv.left (s:={ s with heap:=s.heap.update T (Obj.mapFields (·.setIfInBounds 3 Value.none)) }) (ch:=[ea]) I1 (fun b hb=>by rw [List.mem_singleton.mp hb]; exact l.hn) (fun b hb=>by rw [List.mem_singleton.mp hb]; exact l.le) (fun b hb=>by rw [List.mem_singleton.mp hb]; exact ⟨oe,vs,he1,hd⟩) (fun b hb=>by rw [List.mem_singleton.mp hb]; exact pe)
   (fun b o hb hc e=>k b o hb (fun z=>hc (by simp [z])) e) fun b o hb hc e=>sl b o hb (fun z=>hc (by simp [z])) e
  refine q h' J ⟨⟨oe',vs',g1,c1.trans hc,c2.trans hdx,c3,.inr ⟨T',oT',ts',c4,?_,g2,c5,c6,I1.hok.fresh zT,Nat.le_trans I1.sz zT,fun p hp z=>?_⟩⟩,l.hn,l.le,l.pn⟩
  ·exact fun z=>absurd (Heap.lt_size he1) (Nat.not_lt.mpr (z ▸ zT))
  ·exact absurd (Heap.lt_size (I1.pin p (by simpa using hp)).1) (Nat.not_lt.mpr (z ▸ zT))
end
noncomputable def CX1 (P:Program)(w:World):CXT:=fun outer H s E e s'=>∃ (ea:Addr) (H':Hp) (cls:Value) (dx:Option Addr),e=.ref ea/\s'.os=s.os/\AllBare s'.gens/\Un (frs outer) [] H H' s.heap s'.heap/\HOk P w H' s'.heap/\Lies s.heap.objs.size [] H' s'.heap ea cls dx/\E cls dx H'
section
variable {X:Cx}{pins:List (Addr×Obj)}{σ:St}{H:Hp}{s s':Shared}{e:Value}{E:XK}
theorem CX1.back (I:Inv X pins σ H s)(h:CX1 X.prog X.w X.stack H s E e s'):∃ (ea:Addr) (H':Hp) (cls:Value) (dx:Option Addr),e=.ref ea/\Inv X pins σ H' s'/\Lies X.s₀.heap.objs.size X.pn H' s'.heap ea cls dx/\E cls dx H':=by
 obtain ⟨ea,H',cls,dx,rfl,os,bare,un,hok,l,q⟩:=h
 have pn:∀ b,s.heap.objs.size<=b->∀ p∈X.pn,p.1≠b:=fun b hb p hp z=>absurd (Heap.lt_size (I.pin p (List.mem_append_left _ hp)).1) (Nat.not_lt.mpr (z ▸ hb))
 refine ⟨ea,H',cls,dx,rfl,I.call' (ch:=[]) os un hok bare (fun b z=>absurd z (by simp)),⟨?_,l.hn,Nat.le_trans I.sz l.le,pn ea l.le⟩,q⟩
 obtain ⟨oe,vs,he,hc,hdx,hd,ht⟩:=l.ob
 refine ⟨oe,vs,he,hc,hdx,hd,ht.imp id ?_⟩
 rintro ⟨T,oT,ts,h1,h2,h3,h4,h5,h6,h7,_⟩
 exact ⟨T,oT,ts,h1,h2,h3,h4,h5,h6,Nat.le_trans I.sz h7,pn T h7⟩
end
end L2

namespace L2
open PySem PySem.Spec PyProof.Rows PySem.W
open Builtin Builtin.ObjectAttr
set_option maxHeartbeats 4000000
section
variable {M:Model}{A:Around}{E:Value->Shared->Prop}{h:Heap}{g:Array GenState}{d:Drawn}{t:Nat}{os:OsState}
variable {nm q:Str}{C N D:Addr}{bs bmB:List Value}{hdct:Bool}{sn:List Str}{sub:List Value}{ab:Bool}{col:Option Bool}{dd:Option Addr}{k0 k1 k2 k3 k5:Option Value}{B newId:String}{mN mD:Str->Option Value}{name:Str}
structure Two (h:Heap)(C N D:Addr)(mN mD:Str->Option Value)(bmB:List Value)(newId:String):Prop where
 cls:∃ nm q bs sn sub ab col dd k0 k1 k2 k3 k5,h.get? C=some (excClassObj nm q C N bs (.ref D::bmB) true sn sub ab col dd k0 k1 k2 k3 k5 newId)
 ns:h.Ns N mN
 low:∃ c0 dd cd sl,h.get? D=some { cls:=c0,dict:=dd,data:=.cls cd,slots:=sl }/\h.Ns cd.ns mD
theorem Two.keeps {h':Heap}(T:Two h C N D mN mD bmB newId)(k:∀ b o,h.get? b=some o->h'.get? b=some o):Two h' C N D mN mD bmB newId:=by
 obtain ⟨⟨nm,q,bs,sn,sub,ab,col,dd,k0,k1,k2,k3,k5,e⟩,n,c0,dd',cd,sl,e2,n2⟩:=T
 exact ⟨⟨nm,q,bs,sn,sub,ab,col,dd,k0,k1,k2,k3,k5,k _ _ e⟩,n.keeps k,c0,dd',cd,sl,k _ _ e2,n2.keeps k⟩
theorem Two.look {y:Option Value}{Q:Option Value->Shared->Prop}(T:Two h C N D mN mD bmB newId)(hB:typeLookup (.type B) name=pure y)(hm:mroOf (.type B)=pure bmB)(hN:mN name=none)(hD:mD name=none)(hq:Q y ⟨h,g,d,t,os⟩) :
  wpAny M A (typeLookup (.ref C) name) Q E ⟨h,g,d,t,os⟩:=by
 obtain ⟨⟨nm,q,bs,sn,sub,ab,col,dd,k0,k1,k2,k3,k5,e⟩,n,c0,dd',cd,sl,e2,n2⟩:=T
 have hr:lookupAlong bmB name=pure y:=by rw [typeLookup_eq,hm] at hB; exact hB
 rw [typeLookup_eq]
 refine wpAny_bind (wpAny_mroOf_exc e ?_)
 rw [lookupAlong_cons]
 refine wpAny_bind (wpAny_classOwn_exc e n ?_)
 rw [hN]
 show wpAny M A (lookupAlong (.ref D::bmB) name) Q E _
 rw [lookupAlong_cons]
 refine wpAny_bind (wpAny_classOwn_cls e2 n2 ?_)
 rw [hD]
 show wpAny M A (lookupAlong bmB name) Q E _
 rw [hr]
 exact wpAny_pure hq
theorem Two.own {v:Value}{Q:Option Value->Shared->Prop}(T:Two h C N D mN mD bmB newId)(hN:mN name=some v)(hq:Q (some v) ⟨h,g,d,t,os⟩):wpAny M A (typeLookup (.ref C) name) Q E ⟨h,g,d,t,os⟩:=by
 obtain ⟨⟨nm,q,bs,sn,sub,ab,col,dd,k0,k1,k2,k3,k5,e⟩,n,_⟩:=T
 rw [typeLookup_eq]
 refine wpAny_bind (wpAny_mroOf_exc e ?_)
 rw [lookupAlong_cons]
 refine wpAny_bind (wpAny_classOwn_exc e n ?_)
 rw [hN]
 exact wpAny_pure hq
end
section
variable {prog:Program}{w:World}{A:Around}{E:Value->Shared->Prop}{h:Heap}{g:Array GenState}{d:Drawn}{t:Nat}{os:OsState}
variable {C N D x:Addr}{bmB:List Value}{B newId sa owner:String}{mN mD mA:Str->Option Value}{name:Str}{v:Value}
theorem Two.check {M:Model}{o:Obj}{nameV:Value}{Q:Unit->Shared->Prop}(T:Two h C N D mN mD bmB newId)(SF:StoreFacts B bmB sa owner)(hx:h.get? x=some o)(hc:o.cls=.ref C)(hq:Q () ⟨h,g,d,t,os⟩) :
  wpAny M A (checkBuiltinCall sa ⟨[.ref x,nameV,v],[]⟩) Q E ⟨h,g,d,t,os⟩:=by
 obtain ⟨⟨nm,q,bs,sn,sub,ab,col,dd,k0,k1,k2,k3,k5,e⟩,_⟩:=T
 have hb:(Value.ref C::.ref D::bmB).contains (.type owner)=true:=by rw [List.contains_cons,List.contains_cons,SF.hasOwner,Bool.or_true,Bool.or_true]
 have fin:wpAny M A (match Manifest.signature? sa with | some sig=>Bind.checkArgs sa sig ⟨[.ref x,nameV,v],[]⟩ | _=>pure ()) Q E ⟨h,g,d,t,os⟩:=by
  have ok:=SF.args (.ref x) nameV v
  unfold argsOk at ok
  generalize Manifest.signature? sa=z at ok ⊢
  cases z with
  | some sig=>exact wpAny_of_eq ok hq
  | none=>exact wpAny_pure hq
 unfold checkBuiltinCall
 rw [SF.kind,SF.split]
 refine wpAny_bind (m:=isInstance _ _) ?_
 unfold isInstance
 repeat (first | (with_reducible refine wpAny_loadPart_at hx ?_; rw [hc]) | (with_reducible refine wpAny_isSubtype_exc e ?_; rw [hb]) | wp_step)
 exact fin
theorem Two.tail (T:Two h C N D mN mD bmB newId)(hD:mD "__init__" = none):OwnTail h bmB (.ref D::bmB):=by
 obtain ⟨_,_,c0,dd',cd,sl,e2,n2⟩:=T
 exact .own e2 n2 hD .base
theorem Two.made {initId:String}{rest:List Value}{fI:Addr}{oI:Obj}{Q:Fin->Shared->Prop}(T:Two h C N D mN mD bmB newId)(F:ExcBaseFacts B newId initId bmB)(hD:mD "__init__" = none)(hi:mN "__init__" = some (.ref fI))(hfI:h.get? fI=some oI)(hfc:oI.cls=.type "function")(hr:rest.length<=sizeLine)
  (hq:∀ h' e,Heap.MadeExcOf h h' e (.ref C) rest->h.objs.size<=e->wpAny (model prog w) A (call (.ref fI) (.ref e::rest)) (fun r s'=>r=.none/\Q (.done (.ret (.ref e))) s') E ⟨h',g,d,t,os⟩) :
  wpAny (model prog w) A (Builtin.«type.__call__» ⟨.ref C::rest,[]⟩) Q E ⟨h,g,d,t,os⟩:=by
 have tl:=T.tail hD
 obtain ⟨nm,q,bs,sn,sub,ab,col,dd,k0,k1,k2,k3,k5,e⟩:=T.cls
 repeat (first | with_reducible refine wpAny_loadPart_at e ?_ | with_reducible refine wpAny_madeBy_exc e ?_ | wp_step)
 refine codeAny_call_builtin_code (Code.quiet_builtin _ F.quiet) (wpAny_check_new_subT F tl e (codeAny_exc_new_subT F tl e ?_ hr))
 show wpAny _ _ _ _ _ _
 generalize hh:(h.push { cls:=.type "tuple",data:=.seq rest.toArray }).push { cls:=.ref C,data:=.fields #[.ref h.objs.size,.none,.none,.none,.bool false,.none] }=h1
 have k:∀ b o,h.get? b=some o->h1.get? b=some o:=fun b o z=>by rw [<- hh]; exact Heap.get?_push_of_some _ (Heap.get?_push_of_some _ z)
 have T1:=T.keeps k
 have g1:h1.get? (h.objs.size + 1)=some { cls:=.ref C,data:=.fields #[.ref h.objs.size,.none,.none,.none,.bool false,.none] }:=by rw [<- hh]; heap_get
 have g2:h1.get? h.objs.size=some { cls:=.type "tuple",data:=.seq rest.toArray }:=by rw [<- hh]; exact Heap.get?_push_of_some _ (Heap.get?_push_at rfl rfl)
 have hc:(Value.ref C::.ref D::bmB).contains (.ref C)=true:=by simp
 have e1:=k _ _ e
 unfold isInstance
 repeat (first | with_reducible refine wpAny_loadPart_at g1 ?_ | (with_reducible refine wpAny_isSubtype_exc e1 ?_; rw [hc]) | wp_step)
 show wpAny _ _ (typeLookup (.ref C) _) _ _ _
 refine T1.own hi ?_
 refine wpAny_holding (wpAny_bind ?_)
 unfold bindSpecial
 refine wpAny_bind (wpAny_typeOf (T := "function") ⟨_,k _ _ hfI,hfc⟩ ?_)
 rw [if_pos (by decide)]
 refine wpAny_pure (wpAny_bind (wpAny_mono (hq _ (h.objs.size + 1) ⟨k,Heap.get?_none_of_le (Nat.le_succ _),h.objs.size,g1,Heap.get?_none_of_le (Nat.le_refl _),g2⟩ (Nat.le_succ _)) (fun r s' z=>?_) fun _ _ z=>z))
 obtain ⟨rfl,z⟩:=z
 wp_walk
 exact z
theorem Two.make {initId:String}{rest:List Value}{fI:Addr}{oI:Obj}{Q:Value->Shared->Prop}(T:Two h C N D mN mD bmB newId)(F:ExcBaseFacts B newId initId bmB)(hD:mD "__init__" = none)(hi:mN "__init__" = some (.ref fI))(hfI:h.get? fI=some oI)(hfc:oI.cls=.type "function")(hr:rest.length<=sizeLine)
  (hq:∀ h' e,Heap.MadeExcOf h h' e (.ref C) rest->h.objs.size<=e->wpAny (model prog w) (A.under (.builtin "type.__call__" ⟨.ref C::rest,[]⟩)) (call (.ref fI) (.ref e::rest)) (fun r s'=>r=.none/\Q (.ref e) s') E ⟨h',g,d,t,os⟩) :
  wpAny (model prog w) A (call (.ref C) rest) Q E ⟨h,g,d,t,os⟩:=by
 obtain ⟨nm,q,bs,sn,sub,ab,col,dd,k0,k1,k2,k3,k5,e⟩:=T.cls
 have f1:=tc_lookup
 have f2:=tc_bind (.ref C)
 have ty:(⟨h,g,d,t,os⟩:Shared).TypeIs (.ref C) "type" := ⟨_,e,rfl⟩
 refine wpAny_call (codeAny_of_tree ?_)
 show wpAny _ _ (callAny (.ref C) _) _ _ _
 repeat (any_goals (first | assumption | with_reducible refine wpAny_loadPart_at e ?_ | wp_step))
 refine ⟨rfl,codeAny_call_builtin_at (Code.quiet_builtin _ (by decide +kernel)) entry_typeCall (wpAny_check_type_call_sub e (T.made (hr:=hr) F hD hi hfI hfc fun h' e' hm hz=>?_))⟩
 exact hq h' e' hm hz
structure Reads (B:String)(bmB:List Value):Prop where
 ga:Slot B "__getattribute__" "BaseException.__getattribute__"
 mro:mroOf (.type B)=pure bmB
 no:typeLookup (.type B) "__getattr__" = pure none
 has:bmB.contains (.type "BaseException")=true
theorem Two.gaCheck {M:Model}{o:Obj}{nameV:Value}{Q:Unit->Shared->Prop}(T:Two h C N D mN mD bmB newId)(R:Reads B bmB)(hx:h.get? x=some o)(hc:o.cls=.ref C)(hq:Q () ⟨h,g,d,t,os⟩) :
  wpAny M A (checkBuiltinCall "BaseException.__getattribute__" ⟨[.ref x,nameV],[]⟩) Q E ⟨h,g,d,t,os⟩:=by
 obtain ⟨nm,q,bs,sn,sub,ab,col,dd,k0,k1,k2,k3,k5,e⟩:=T.cls
 have c1:builtinKind "BaseException.__getattribute__" = some .slot:=by decide +kernel
 have c2:splitId "BaseException.__getattribute__" = some ("BaseException", "__getattribute__"):=by decide +kernel
 have hb:(Value.ref C::.ref D::bmB).contains (.type "BaseException")=true:=by rw [List.contains_cons,List.contains_cons,R.has,Bool.or_true,Bool.or_true]
 have ha:=F.args_bexc_ga (.ref x) nameV
 simp only [checkBuiltinCall,c1,c2]
 refine wpAny_bind ?_
 unfold isInstance
 repeat (first | (with_reducible refine wpAny_loadPart_at hx ?_; rw [hc]) | (with_reducible refine wpAny_isSubtype_exc e ?_; rw [hb]) | wp_step)
 exact hq
theorem Two.gaEntry {o:Obj}{dx:Addr}{tk:Tok}{Q:Fin->Shared->Prop}(T:Two h C N D mN mD bmB newId)(R:Reads B bmB)(hx:h.get? x=some o)(hc:o.cls=.ref C)(hnc:∀ c,o.data≠.cls c)(hd:o.dict=some dx)(hns:h.Ns dx mA)(hv:mA name=some v)
  (hB:typeLookup (.type B) name=pure none) (n1:mN name=none) (n2:mD name=none) (hq:Q (.done (.ret v)) ⟨h,g,d,t,os⟩) :
  wpAny (model prog w) A (Builtin.«object.__getattribute__» ⟨[.ref x,.str name tk],[]⟩) Q E ⟨h,g,d,t,os⟩:=by
 obtain ⟨nm,q,bs,sn,sub,ab,col,dd,k0,k1,k2,k3,k5,e⟩:=T.cls
 unfold Builtin.«object.__getattribute__»
 repeat (first | (with_reducible refine wpAny_loadPart_at hx ?_; rw [hc]) | (with_reducible refine T.look hB R.mro n1 n2 ?_) | wp_step)
 split
 ·rename_i c z
  exact absurd z (hnc c)
 unfold instanceDict
 repeat (first | (with_reducible refine wpAny_loadPart_at hx ?_; rw [hc]) | with_reducible refine wpAny_loadPart_at e ?_ | wp_step)
 rw [hd]
 repeat (first | (with_reducible refine wpAny_nsGet hns ?_; rw [hv]) | wp_step)
 exact hq
theorem Two.get {o:Obj}{dx:Addr}{expr:Bool}{Q:Value->Shared->Prop}(T:Two h C N D mN mD bmB newId)(R:Reads B bmB)(hx:h.get? x=some o)(hc:o.cls=.ref C)(hnc:∀ c,o.data≠.cls c)(hd:o.dict=some dx)(hns:h.Ns dx mA)(hv:mA name=some v)(hh:handedOut v=pure v)
  (hB:typeLookup (.type B) name=pure none) (g1:mN "__getattribute__" = none) (g2:mD "__getattribute__" = none) (a1:mN "__getattr__" = none) (a2:mD "__getattr__" = none) (n1:mN name=none) (n2:mD name=none) (hq:Q v ⟨h,g,d,t + 1,os⟩) :
  wpAny (model prog w) A (getAttr (.ref x) name expr) Q E ⟨h,g,d,t,os⟩:=by
 have f3:=R.ga.bind (.ref x)
 have c0:(expr && onTheHeap (Value.builtin "BaseException.__getattribute__"))=false:=by cases expr <;> rfl
 have c2:(Value.builtin "BaseException.__getattribute__" == Value.builtin "object.__getattribute__")=false:=by decide +kernel
 have c1:(onTheHeap (Value.ref C) && Value.builtin "BaseException.__getattribute__" == Value.builtin "object.__getattribute__")=false:=by rw [c2]; rfl
 unfold getAttr
 repeat (any_goals (first | assumption | (with_reducible refine wpAny_loadPart_at hx ?_; rw [hc]) | (with_reducible refine T.look R.ga.lookup R.mro g1 g2 ?_) | (with_reducible refine T.look R.no R.mro a1 a2 ?_) | wp_step))
 refine codeAny_call_builtin R.ga.plain F.entry_bexc_ga (T.gaCheck R hx hc (T.gaEntry R hx hc hnc hd hns hv hB n1 n2 ?_))
 repeat (any_goals (first | assumption | wp_step))
 all_goals first | exact hq | (rw [hh]; exact wpAny_pure hq) | skip
theorem jdg {M:Model}{s:Shared}{dx:Addr}{tk:Tok}{mB:Str->Option Value}{ns:List Str}{Q:Fin->Shared->Prop}(n1:s.heap.Ns1 dx mB)(hw:Within mB ns)(hl:ns.length < sizeLine)
  (hq:∀ h' tk',h'.Ns1 dx (fun y=>if y=name then some v else mB y)->Heap.SameBut dx s.heap h'->Q (.done (.ret .none)) { s with heap:=h',toks:=tk' }) :
  wpAny M A (storeInDict dx (.str name tk) name v) Q E s:=by
 refine wpAny_bind (m:=newKeyGuard _ _ _) (wpAny_pure (wpAny_bind (wpAny_nsSet1 n1 fun h' n2 sb=>?_)))
 rcases n2.count (Within.cons name v hw) with ⟨o,es,ep,ho,hd,le⟩
 have room:es.size<=sizeLine:=Nat.le_trans le (by rw [List.length_cons]; exact hl)
 refine wpAny_bind (wpAny_lookBehind ho (hd ▸ pastItsLine_dict (Nat.le_succ_of_le room)) ?_)
 exact wpAny_pure (hq h' _ n2 sb)
theorem Two.put {tk:Tok}{Q:Fin->Shared->Prop}{o:Obj}{ns:List Str}(T:Two h C N D mN mD bmB newId)(SF:StoreFacts B bmB sa owner)(n1:mN name=none)(n2:mD name=none)(hB:typeLookup (.type B) name=pure none)(hx:h.get? x=some o)(hc:o.cls=.ref C)(hnc:∀ c,o.data≠.cls c)
  (hd:(o.dict=none/\∀ n,mA n=none)\/∃ dx,o.dict=some dx/\dx≠x/\h.Ns1 dx mA) (hw:Within mA ns) (hl:ns.length < sizeLine)
  (hq:∀ h' tk' dx,(o.dict=some dx\/(o.dict=none/\dx=h.objs.size))->dx≠x->h'.get? x=some { o with dict:=some dx }->h'.Ns1 dx (fun y=>if y=name then some v else mA y)->(∀ b u,b≠x->b≠dx->h.get? b=some u->h'.get? b=some u)->Q (.done (.ret .none)) ⟨h',g,d,tk',os⟩) :
  wpAny (model prog w) A (Builtin.«object.__setattr__» ⟨[.ref x,.str name tk,v],[]⟩) Q E ⟨h,g,d,t,os⟩:=by
 obtain ⟨nm,q,bs,sn,sub,ab,col,dd,k0,k1,k2,k3,k5,e⟩:=T.cls
 have ps:=SF.passes (.ref x)
 unfold Builtin.«object.__setattr__»
 repeat (first | rw [refuse_eq] | (rw [refuseLoop_ref,refuseLoop_ref,ps]) | (with_reducible refine wpAny_loadPart_at hx ?_; rw [hc]) | with_reducible refine wpAny_mroOf_exc e ?_ | (with_reducible refine T.look hB SF.mro n1 n2 ?_) | with_reducible refine wpAny_loadPart_at e ?_ | wp_step)
 rcases hd with ⟨dn,ma⟩ | ⟨dx,de,dne,dns⟩
 ·rw [dn,if_neg (by simp [typeHasDict])]
  split
  ·rename_i z
   cases z
  split
  ·rename_i c z
   exact absurd z (hnc c)
  ·have xs:x≠h.objs.size:=Nat.ne_of_lt (Heap.lt_size hx)
   have x1:=Heap.get?_push_of_some { cls:=.type "dict",data:=.dict #[] } hx
   refine wpAny_bind (wpAny_alloc' (wpAny_bind (wpAny_update' x1 (wpAny_pure ?_))))
   have fr:({ cls:=o.cls,dict:=some h.objs.size,data:=o.data,slots:=o.slots }:Obj).isFreed=false:=by
    have:=(Heap.get?_some_iff.mp hx).2
    obtain ⟨c1,c2,c3,c4⟩:=o
    cases c3 <;> first | rfl | exact this
   have x2:=Heap.get?_update_self (fun o=>({ cls:=o.cls,dict:=some h.objs.size,data:=o.data,slots:=o.slots }:Obj)) x1 fr
   have d2:((h.push { cls:=.type "dict",data:=.dict #[] }).update x fun o=>{ cls:=o.cls,dict:=some h.objs.size,data:=o.data,slots:=o.slots }).get? h.objs.size=some { cls:=.type "dict",data:=.dict #[] }:=(Heap.get?_update_ne _ _ _ _ xs.symm).trans (Heap.get?_push_at rfl rfl)
   have k2:∀ b u,b≠x->h.get? b=some u->((h.push { cls:=.type "dict",data:=.dict #[] }).update x fun o=>{ cls:=o.cls,dict:=some h.objs.size,data:=o.data,slots:=o.slots }).get? b=some u:=fun b u z e=>(Heap.get?_update_ne _ _ _ _ z).trans (Heap.get?_push_of_some _ e)
   generalize ((h.push { cls:=.type "dict",data:=.dict #[] }).update x fun o=>{ cls:=o.cls,dict:=some h.objs.size,data:=o.data,slots:=o.slots })=h2 at x2 d2 k2 ⊢
   have nd:h2.Ns h.objs.size (fun _=>none):=⟨_,#[],_,d2,rfl,fun e he=>absurd he (by simp),fun _=>rfl⟩
   refine jdg (Heap.Ns1.of_empty nd) Within.nil (Nat.zero_lt_of_lt hl) fun h' tk' hn' hs=>?_
   refine hq h' tk' h.objs.size (.inr ⟨dn,rfl⟩) xs.symm ((hs.2 x xs).trans x2) ?_ fun b u z1 z2 z=>(hs.2 b z2).trans (k2 b u z1 z)
   obtain ⟨o',es,ep,e1,e2,e3,eu,e4⟩:=hn'
   exact ⟨o',es,ep,e1,e2,e3,eu,fun y=>by rw [e4 y]; by_cases hy:y=name <;> simp [hy,ma]⟩
 ·rw [de]
  refine wpAny_pure (jdg dns hw hl fun h' tk' hn' hs=>?_)
  refine hq h' tk' dx (.inl de) dne ?_ hn' fun b u z1 z2 z=>(hs.2 b z2).trans z
  rw [hs.2 x dne.symm,hx,<- de]
theorem Two.set {Q:Unit->Shared->Prop}{o:Obj}{ns:List Str}(T:Two h C N D mN mD bmB newId)(SF:StoreFacts B bmB sa owner)(s1:mN "__setattr__" = none)(s2:mD "__setattr__" = none)(n1:mN name=none)(n2:mD name=none)(hB:typeLookup (.type B) name=pure none)(hx:h.get? x=some o)(hc:o.cls=.ref C)(hnc:∀ c,o.data≠.cls c)
  (hd:(o.dict=none/\∀ n,mA n=none)\/∃ dx,o.dict=some dx/\dx≠x/\h.Ns1 dx mA) (hw:Within mA ns) (hl:ns.length < sizeLine)
  (hq:∀ h' tk' dx,(o.dict=some dx\/(o.dict=none/\dx=h.objs.size))->dx≠x->h'.get? x=some { o with dict:=some dx }->h'.Ns1 dx (fun y=>if y=name then some v else mA y)->(∀ b u,b≠x->b≠dx->h.get? b=some u->h'.get? b=some u)->Q () ⟨h',g,d,tk',os⟩) :
  wpAny (model prog w) A (setAttr (.ref x) name v) Q E ⟨h,g,d,t,os⟩:=by
 have f3:=SF.slot.bind (.ref x)
 unfold setAttr callSpecial? specialOf
 repeat (any_goals (first | assumption | (with_reducible refine wpAny_loadPart_at hx ?_; rw [hc]) | (with_reducible refine T.look SF.slot.lookup SF.mro s1 s2 ?_) | wp_step))
 refine codeAny_call_builtin SF.slot.plain SF.entry (T.check SF hx hc (T.put SF n1 n2 hB hx hc hnc hd hw hl fun h' tk' dx z1 z2 z3 z4 z5=>?_))
 repeat (any_goals (first | assumption | wp_step))
 exact hq h' tk' dx z1 z2 z3 z4 z5
end
theorem jaQ:Reads "ValueError" [.type "ValueError",.type "Exception",.type "BaseException",.type "object"] where
 ga:=.of (owner := "BaseException") (n := "__getattribute__") (by rw [typeLookup_type,builtinLookup_eq_fast]; kernel_rfl) (by decide +kernel) (by decide +kernel) (by decide +kernel)
  (by first | exact .inl (by decide +kernel) | exact .inr (by decide +kernel)) (by rw [isSubtype_type]; kernel_rfl)
 mro:=by kernel_rfl
 no:=by rw [typeLookup_type,builtinLookup_eq_fast]; kernel_rfl
 has:=by decide
section
variable {X:Cx}{pins:List (Addr×Obj)}{σ:St}{H:Hp}{s:Shared}
theorem Inv.sooner {sb:Shared}(I:Inv X pins σ H s)(k:∀ b o,sb.heap.get? b=some o->X.s₀.heap.get? b=some o)(ho:sb.os=X.s₀.os)(hz:sb.heap.objs.size<=X.s₀.heap.objs.size)(hb:∀ b o,X.base.get? b=some o->sb.heap.get? b=some o/\X.H₀ b=none)(hbz:X.base.objs.size<=sb.heap.objs.size)(hf:sb.heap.FunFrames X.base X.outer) :
  Inv { X with s₀:=sb } pins σ H s:=by
 refine ⟨⟨I.ok.mod,I.ok.kind,I.ok.glob,I.ok.blt,Nat.le_trans hz I.ok.above,I.ok.inj,I.ok.has,fun x c h e=>Nat.le_trans hz (I.ok.cab x c h e),I.ok.hd,I.ok.frames,I.ok.stk,I.ok.exf,hb,hbz,I.ok.noex,I.ok.exfs,hf,I.ok.frf⟩,I.os.trans ho.symm,I.bare,(Un.kept k).trans I.base,I.loc,I.cell,I.free,I.freeC,I.pin,I.hok,I.len⟩
theorem Inv.xput {h':Heap}{t':Nat}{e dx:Addr}{oe:Obj}{vs:Array Value}{fs:List (Str×V)}(I:Inv X pins σ H s)(hH:H e=none)(hlo:X.s₀.heap.objs.size<=e)(ge:s.heap.get? e=some oe)(gd:oe.data=.fields vs)(hp:∀ p∈X.pn++pins,p.1≠e)
  (hdx:s.heap.objs.size<=dx\/∃ fs0,H dx=some (.xd fs0)) (k:∀ b u,b≠e->b≠dx->s.heap.get? b=some u->h'.get? b=some u) (new:jay X.prog X.w (upd H dx (.xd fs)) h' dx (.xd fs)):Inv X pins σ (upd H dx (.xd fs)) { s with heap:=h',toks:=t' }:=by
 have nt:∀ b o,s.heap.get? b=some o->H b=none->b≠dx:=fun b o g n z=>by
  rcases hdx with q | ⟨fs0,q⟩
  ·rw [z] at g; exact absurd (Heap.lt_size g) (Nat.not_lt.mpr q)
  ·rw [z,q] at n; cases n
 have ne:∀ b u,H b=some u->b≠e:=fun b u g z=>by rw [z,hH] at g; cases g
 have nx:∀ b u,H b=some u->(∀ f0,u≠.xd f0)->b≠dx:=fun b u g hu z=>by
  rcases hdx with q | ⟨fs0,q⟩
  ·rw [z,I.hok.fresh q] at g; cases g
  ·rw [z,q] at g; cases g; exact hu fs0 rfl
 obtain ⟨od,god⟩:∃ o,h'.get? dx=some o:=by obtain ⟨_,⟨o,_,_,z,_⟩,_⟩:=new; exact ⟨o,z⟩
 obtain ⟨m0,⟨oL,esL,epL,gL,rL⟩,hLk⟩:=id I.loc
 have hLe:X.env.locals≠e:=fun z=>by
  rw [z,ge] at gL
  cases gL
  have:=rL.1
  rw [gd] at this; cases this
 refine I.step (g':=s.gens) (d':=s.drawn) (ch:=[e]) (fun b hb=>?_) (fun b o _ _ hc g n=>k b o (fun z=>hc (by simp [z])) (nt b o g n) g) (fun b o _ _ hc g n=>⟨o.slots,k b o (fun z=>hc (by simp [z])) (nt b o g n) g⟩) (fun b o _ g n=>by rw [jac (nt b o g n)]; exact n)
  (fun b o hc g=>?_) (fun b ys g=>by rw [jac (nx b _ g fun _ z=>nomatch z)]; exact g) (fun b o u g=>by rw [jac (nx b _ g fun _ z=>nomatch z)]; exact g) (fun b ps g=>⟨#[],by rw [jac (nx b _ g fun _ z=>nomatch z),g]; simp⟩) (fun m hm=>?_) (fun a o g=>?_) I.bare
 ·have z:b=e:=by simpa using hb
  subst z
  refine ⟨.inr hlo,Ne.symm hLe,fun x c q z=>?_,hp⟩
  obtain ⟨v,o',ho,hc⟩:=I.cell x c q
  rw [z,ge] at ho
  cases ho
  rw [gd] at hc; cases hc
 ·by_cases z:b=dx
  ·exact ⟨od,z ▸ god⟩
  ·exact ⟨o,k b o (fun z=>hc (by simp [z])) z g⟩
 ·obtain ⟨o,es,ep,ho,r⟩:=hm
  exact ⟨o,es,ep,k _ o hLe (nt _ o ho I.free) ho,r⟩
 ·by_cases z:a=dx
  ·subst z
   rw [jae] at g
   cases g
   exact new
  ·rw [jac z] at g
   refine (I.hok a o g).stay (fun b v hb q=>?_) (fun b q=>by rw [jac (nx b _ q fun _ z=>nomatch z)]; exact q) fun b ys q=>by rw [jac (nx b _ q fun _ z=>nomatch z)]; exact q
   rcases hb with z' | z'
   ·subst z'; exact k b v (ne b _ g) z q
   ·exact k b v (ne b _ z') (nx b _ z' fun _ z=>nomatch z) q
theorem jdd {g:Str}:∀ {fs:List (Str×V)},g∉fs.map (·.1)->fs.lookup g=none
 | [],_=>rfl
 | (a,v)::r,h=>by
  rw [List.lookup_cons]
  have:(g == a)=false:=by
   rw [beq_eq_false_iff_ne]
   exact fun z=>h (by rw [z]; simp)
  rw [this]
  exact jdd fun z=>h (by simp at z ⊢; exact .inr z)
theorem xset {A:Around}{E:Value->Shared->Prop}{Q:Unit->Shared->Prop}{C N D e:Addr}{bmB:List Value}{B newId sa owner:String}{mN mD:Str->Option Value}{f:Str}{v:V}{u:Value}{oe:Obj}{vs:Array Value}{fs:List (Str×V)}(I:Inv X pins σ H s)(T:Two s.heap C N D mN mD bmB newId)(SF:StoreFacts B bmB sa owner)
  (s1:mN "__setattr__" = none) (s2:mD "__setattr__" = none) (n1:mN f=none) (n2:mD f=none) (hB:typeLookup (.type B) f=pure none) (hH:H e=none) (hlo:X.s₀.heap.objs.size<=e) (ge:s.heap.get? e=some oe) (hc:oe.cls=.ref C) (gd:oe.data=.fields vs) (hp:∀ p∈X.pn++pins,p.1≠e)
  (hd:(oe.dict=none/\fs=[])\/∃ dx,oe.dict=some dx/\H dx=some (.xd fs)) (hl:fs.length < 1000) (ru:RelV v u)
  (q:∀ s' dx,Inv X pins σ (upd H dx (.xd (putF f v fs))) s'->s'.heap.get? e=some { oe with dict:=some dx }->(∀ b u,b≠e->b≠dx->s.heap.get? b=some u->s'.heap.get? b=some u)->(oe.dict=some dx\/(oe.dict=none/\H dx=none))->Q () s') :
  wpAny (model X.prog X.w) A (setAttr (.ref e) f u) Q E s:=by
 have nc:∀ c,oe.data≠.cls c:=fun c z=>by rw [gd] at z; cases z
 have fin:∀ (mA:Str->Option Value) (h':Heap) (tk:Nat) (dx:Addr),(∀ g,RelO (fs.lookup g) (mA g))->(s.heap.objs.size<=dx\/∃ fs0,H dx=some (.xd fs0))->(oe.dict=some dx\/(oe.dict=none/\H dx=none))->h'.get? e=some { oe with dict:=some dx }->h'.Ns1 dx (fun y=>if y=f then some u else mA y)->(∀ b u,b≠e->b≠dx->s.heap.get? b=some u->h'.get? b=some u)->Q () { s with heap:=h',toks:=tk }:=fun mA h' tk dx r z0 z1 z2 z3 z4=>by
  refine q _ dx (I.xput hH hlo ge gd hp z0 z4 ⟨_,z3,fun g=>?_⟩) z2 z4 z1
  rw [jbY]
  by_cases hg:g=f
  ·rw [if_pos hg,if_pos hg]; exact ru
  ·rw [if_neg hg,if_neg hg]; exact r g
 obtain ⟨hh,gg,dr,tk,os⟩:=s
 rcases hd with ⟨dn,rfl⟩ | ⟨dx,de,hx⟩
 ·refine T.set (mA:=fun _=>none) (ns:=[]) SF s1 s2 n1 n2 hB ge hc nc (.inl ⟨dn,fun _=>rfl⟩) Within.nil (by rw [sizeLine_eq]; decide) fun h' tk' dx z1 z2 z3 z4 z5=>?_
  rcases z1 with z1 | ⟨_,rfl⟩
  ·rw [dn] at z1; cases z1
  ·exact fin (fun _=>none) h' tk' _ (fun g=>True.intro) (.inl (Nat.le_refl _)) (.inr ⟨dn,I.hok.fresh (Nat.le_refl _)⟩) z3 z4 z5
 ·obtain ⟨mA,n,r⟩:=(show jay X.prog X.w H hh dx (.xd fs) from I.hok dx _ hx)
  refine T.set (mA:=mA) (ns:=fs.map (·.1)) SF s1 s2 n1 n2 hB ge hc nc (.inr ⟨dx,de,fun z=>(by rw [z,hH] at hx; cases hx),n⟩) (fun g hg=>?_) (by rw [List.length_map,sizeLine_eq]; omega) fun h' tk' dx' z1 z2 z3 z4 z5=>?_
  ·refine Classical.byContradiction fun z=>hg ?_
   have:=r g
   rw [jdd z] at this
   exact RelO.none_of this
  ·rcases z1 with z1 | ⟨z1,_⟩
   ·have z:dx'=dx:=by rw [de] at z1; exact (Option.some.inj z1).symm
    subst z
    exact fin _ h' tk' _ r (.inr ⟨fs,hx⟩) (.inl de) z3 z4 z5
   ·rw [de] at z1; cases z1
theorem xstep {Q:Flow->Shared->Prop}{C N D e:Addr}{bmB:List Value}{B newId sa owner:String}{mN mD:Str->Option Value}{f self a:Str}{v:V}{oe:Obj}{vs:Array Value}{fs:List (Str×V)}{i j:Nat}{p1 p2 p3 pos:Pos}(I:Inv X [(e,oe)] σ H s)(hpn:X.pn=[])(T:Two X.base C N D mN mD bmB newId)(SF:StoreFacts B bmB sa owner)
  (s1:mN "__setattr__" = none) (s2:mD "__setattr__" = none) (n1:mN f=none) (n2:mD f=none) (hB:typeLookup (.type B) f=pure none) (hlo:X.s₀.heap.objs.size<=e) (hc:oe.cls=.ref C) (gd:oe.data=.fields vs) (hd:(oe.dict=none/\fs=[])\/∃ dx,oe.dict=some dx/\H dx=some (.xd fs)) (hl:fs.length < 1000)
  (hs:PE X (.Name self p1) (tVar i)) (ha:PE X (.Name a p3) (tVar j)) (hi:σ[i]?=some (some (.ref e))) (hj:σ[j]?=some (some v)) (hsw:swapsWith (.Name a p3) (some (.Attribute (.Name self p1) f p2)) pos.line X.env=pure false)
  (q:∀ s' dx,Inv X [(e,{ oe with dict:=some dx })] σ (upd H dx (.xd (putF f v fs))) s'->(oe.dict=some dx\/(oe.dict=none/\H dx=none))->Q .next s') :
  wpAny (model X.prog X.w) X.A (exec (.Assign [.Attribute (.Name self p1) f p2] (.Name a p3) pos) X.env) Q X.xe s:=by
 refine plainObj_wpAny_Assign_Attribute (thn (ha _ s σ H (fun y H1=>y=v/\H1=H) I ⟨v,hj,rfl,rfl⟩) fun u s3 ⟨y,H1,I1,ry,hy,hH1⟩=>?_) hsw
 subst hy
 subst hH1
 refine thn (hs _ s3 σ H1 (fun z H2=>z=.ref e/\H2=H1) I1 ⟨_,hi,rfl,rfl⟩) fun ov s4 ⟨z,H2,I2,rz,hz,hH2⟩=>?_
 subst hz
 subst hH2
 obtain rfl:ov=Value.ref e:=rz
 obtain ⟨ge,hH,hL,hfs,hcl⟩:=I2.pin (e,oe) (by simp)
 have J:Inv X [] σ H2 s4:=I2.pins_of fun p hp=>absurd hp (by simp)
 refine xset J (T.keeps I2.bk) SF s1 s2 n1 n2 hB hH hlo ge hc gd (fun p hp=>by rw [hpn] at hp; simp at hp) hd hl ry fun s5 dx J5 g5 k5 z5=>?_
 refine q s5 dx (J5.pins_of fun p hp=>?_) z5
 obtain rfl:p=(e,{ oe with dict:=some dx }):=by simpa using hp
 refine ⟨g5,?_,hL,hfs,fun v z=>hcl v z⟩
 show upd H2 dx _ e=none
 rw [jac,hH]
 rintro rfl
 rcases z5 with z5 | z5
 ·rcases hd with ⟨w0,_⟩ | ⟨dx',w1,w2⟩
  ·rw [w0] at z5; cases z5
  ·rw [w1] at z5
   cases z5
   rw [hH] at w2; cases w2
 ·have:=J5.free
  obtain ⟨_,_,_⟩:=J5.hok e _ jae
  rename_i mA n r
  obtain ⟨o',es,ep,g',d',_⟩:=n
  rw [g5] at g'
  cases g'
  rw [show ({ oe with dict:=some e }:Obj).data=oe.data from rfl,gd] at d'
  cases d'
end
theorem jgi {CX:CXT}{P:Program}{w:World}{K:PySem.W.Frag}{mg:Str->Option Value}{base:Heap}{k:Nat}{f:Addr}{name qual:Str}{params:Arguments}{body:List Stmt}{scope:Scope}{dV kV doc pm cdv ct oc:Value}{an od:Option Addr}{osl:Array (Option Value)}{N ps:List Str}
  {A:Around} {outer:List Env} {s sb:Shared} {H:Hp} {E:XK} {args:Args} {us:List Value} {vs:List V} {e:Addr} {oe:Obj} {R:Result->Shared->Prop}
  (lk:K.lookup f=some ⟨oc,od,.func (PySem.W.fnOf name qual params body scope dV kV doc pm an cdv ct),osl⟩) (hcd:PySem.W.codeIn K cdv qual=true) (S:FnScope N ps scope) (hr:Room (k + 1) A) (e0:Env0 P w K mg base A outer s H)
  (hb:BindsTo s (PySem.W.fnOf name qual params body scope dV kV doc pm an cdv ct) args (ps.zip us)) (r:Vals vs us) (hl:vs.length=ps.length) (ge:s.heap.get? e=some oe) (hH:H e=none) (hnc:∀ v,oe.data≠.cell v) (hfr:e∉frs outer)
  (kb:∀ b o,sb.heap.get? b=some o->s.heap.get? b=some o) (hos:sb.os=s.os) (hz:sb.heap.objs.size<=s.heap.objs.size) (hbs:∀ b o,base.get? b=some o->sb.heap.get? b=some o/\H b=none) (hbz:base.objs.size<=sb.heap.objs.size) (hfn:sb.heap.FunFrames base outer)
  (hbody:∀ s1,Inv { cxOf CX P w K mg base N qual scope f cdv A outer s H E with s₀:=sb } [(e,oe)] (start N vs) H s1->wpAny (model P w) (A.deeper (envOfC qual scope s.heap.objs.size f cdv)) (execs body (envOfC qual scope s.heap.objs.size f cdv)) (fun fl s'=>fl=.next/\R (.ok (.ret .none)) s') (fun _ _=>False) s1) :
  codeAny (model P w) A (.call (.ref f) args) R s:=by
 have KX:K.In s.heap:=e0.mod.kin.keeps fun b o z=>(e0.bs b o z).1
 have lim:s.heap.NoLimit:=e0.mod.nolimit.keeps fun b o z=>(e0.bs b o z).1
 have kind:∀ y∈ps.zip us,scope.names.lookup y.1=some .local\/(scope.names.lookup y.1=some .cell/\((cellsFrom (s.heap.objs.size + 1) scope.names []).lookup y.1).isSome=true):=fun ⟨n,v⟩ hy=>by
  rcases S.par n (List.of_mem_zip hy).1 with q | q
  ·exact .inl q
  ·exact .inr ⟨q,PySem.W.cellsFrom_some _ _ _ (.inl q)⟩
 refine codeAny_call_function hr.depth (KX _ _ lk) rfl S.co S.gen rfl (PySem.W.codeRec_of KX hcd) (hb _ _ _ _ ?_)
 refine wpAny_newFunctionEnv_cells S.kind kind fun env he s1 x=>?_
 subst he
 refine ⟨lim.keeps x.toInCall.keep,codeAny_func ?_⟩
 have I:Inv (cxOf CX P w K mg base N qual scope f cdv A outer s H E) [] (start N vs) H s1:=jdf S hr.hd e0 hl r x
 have I1:Inv { cxOf CX P w K mg base N qual scope f cdv A outer s H E with s₀:=sb } [] (start N vs) H s1:=I.sooner kb hos hz hbs hbz hfn
 have I2:Inv { cxOf CX P w K mg base N qual scope f cdv A outer s H E with s₀:=sb } [(e,oe)] (start N vs) H s1:=I1.pins_of fun p hp=>by
  obtain rfl:p=(e,oe):=by simpa using hp
  exact ⟨x.toInCall.keep _ _ ge,hH,Nat.ne_of_lt (Heap.lt_size ge),hfr,hnc⟩
 refine wpAny_mono (hbody s1 I2) (fun fl s' ⟨z,h⟩=>?_) fun _ _ z=>z.elim
 subst z
 exact h
section
variable {X:Cx}{pins:List (Addr×Obj)}{σ:St}{H:Hp}{s:Shared}
noncomputable def jdv (X:Cx)(C:Addr)(s:Shared)(H:Hp)(Nm:List Str)(qual:Str)(scope:Scope)(fI:Addr)(cdv:Value)(body:List Stmt)(vs:List V)(fs:List (Str×V)):Prop:=
 ∀ (A':Around) (sM s1:Shared) (e t:Addr),Inv { cxOf (CX1 X.prog X.w) X.prog X.w X.K X.mg X.base Nm qual scope fI cdv A' X.stack sM H (fun _ _ _=>False) with s₀:=s } [(e,{ cls:=.ref C,data:=.fields #[.ref t,.none,.none,.none,.bool false,.none] })] (start Nm (.ref e::vs)) H s1->s.heap.objs.size<=e->
  wpAny (model X.prog X.w) (A'.deeper (envOfC qual scope sM.heap.objs.size fI cdv)) (execs body (envOfC qual scope sM.heap.objs.size fI cdv)) (fun fl s'=>fl=.next/\∃ dx,H dx=none/\Inv { cxOf (CX1 X.prog X.w) X.prog X.w X.K X.mg X.base Nm qual scope fI cdv A' X.stack sM H (fun _ _ _=>False) with s₀:=s } [(e,{ cls:=.ref C,dict:=some dx,data:=.fields #[.ref t,.none,.none,.none,.bool false,.none] })] (start Nm (.ref e::vs)) (upd H dx (.xd fs)) s') (fun _ _=>False) s1
theorem xmake {Q:Value->Shared->Prop}{C N D fI:Addr}{bmB:List Value}{B newId initId:String}{mN mD:Str->Option Value}{k:Nat}{name qual:Str}{params:Arguments}{body:List Stmt}{scope:Scope}{dV kV doc pm cdv ct:Value}{an od:Option Addr}{osl:Array (Option Value)}{Nm ps:List Str}{us:List Value}{vs:List V}{fs:List (Str×V)}
  (I:Inv X pins σ H s) (T:Two X.base C N D mN mD bmB newId) (F:ExcBaseFacts B newId initId bmB) (hD:mD "__init__" = none) (hi:mN "__init__" = some (.ref fI)) (lk:X.K.lookup fI=some ⟨.type "function",od,.func (PySem.W.fnOf name qual params body scope dV kV doc pm an cdv ct),osl⟩) (hcd:PySem.W.codeIn X.K cdv qual=true) (S:FnScope Nm ps scope) (hr:Room (k + 2) X.A)
  (hb:Binds X.K (PySem.W.fnOf name qual params body scope dV kV doc pm an cdv ct) ps []) (r:Vals vs us) (hl:vs.length + 1=ps.length) (hz:us.length<=sizeLine) (hbody:jdv X C s H Nm qual scope fI cdv body vs fs)
  (q:∀ e dx s',H dx=none->Inv X pins σ (upd H dx (.xd fs)) s'->Lies X.s₀.heap.objs.size X.pn (upd H dx (.xd fs)) s'.heap e (.ref C) (some dx)->(∃ t,s'.heap.get? e=some { cls:=.ref C,dict:=some dx,data:=.fields #[.ref t,.none,.none,.none,.bool false,.none] })->Q (.ref e) s'):wpAny (model X.prog X.w) X.A (call (.ref C) us) Q X.xe s:=by
 obtain ⟨hh,gg,dr,tk,os⟩:=s
 have I0:=I
 refine (T.keeps I.bk).make F hD hi (I.kIn _ _ lk) rfl hz fun h' e hm he=>?_
 obtain ⟨t,ge,_,_⟩:=hm.there
 have e0:=I.env0.make C us []
 have e1:Env0 X.prog X.w X.K X.mg X.base (X.A.under (.builtin "type.__call__" ⟨.ref C::us,[]⟩)) X.stack ⟨h',gg,dr,tk,os⟩ H:=⟨e0.frames,e0.mod,fun b o z=>⟨hm.keeps _ _ (e0.bs b o z).1,(e0.bs b o z).2⟩,Nat.le_trans e0.bsz (Nat.le_of_lt (Nat.lt_of_le_of_lt he (Heap.lt_size ge))),e0.funs.of_keeps fun b o z _=>⟨o,hm.keeps _ _ z,rfl⟩,e0.frf,e0.hok.kept hm.keeps,e0.bare⟩
 have hH:H e=none:=I.hok.fresh he
 refine wpAny_call ?_
 refine jgi (k:=k) (CX:=CX1 X.prog X.w) (E:=fun _ _ _=>False) (sb:=⟨hh,gg,dr,tk,os⟩) (us:=.ref e::us) (vs:=.ref e::vs) lk hcd S (hr.make C us []) e1 ?_ (.cons rfl r) (by simpa using hl) ge hH (fun v z=>by cases z) (fun z=>?_) hm.keeps rfl (Nat.le_of_lt (Nat.lt_of_le_of_lt he (Heap.lt_size ge))) e0.bs e0.bsz e0.funs fun s1 J=>?_
 ·have:=hb ⟨h',gg,dr,tk,os⟩ (.ref e::us) (e1.mod.kin.keeps fun b o z=>(e1.bs b o z).1) (by simp; have:=r.length; omega)
  simpa using this
 ·obtain ⟨_,o,ho,_⟩:=e0.funs.mem z
  exact absurd (Heap.lt_size ho) (Nat.not_lt.mpr he)
 ·refine wpAny_mono (hbody _ _ s1 e t J he) (fun fl s' ⟨z,dx,hdx,J'⟩=>⟨z,rfl,?_⟩) fun _ _ z=>z
  have Ix:Inv X pins σ (upd H dx (.xd fs)) s':=I.call' (ch:=[]) J'.os J'.base J'.hok J'.bare fun b z=>absurd z (by simp)
  obtain ⟨g1,g2,_⟩:=J'.pin _ (List.mem_append_right _ (List.mem_singleton.mpr rfl))
  refine q e dx s' hdx Ix ⟨⟨_,_,g1,rfl,rfl,rfl,.inl rfl⟩,g2,Nat.le_trans I.sz he,fun p hp z=>?_⟩ ⟨t,g1⟩
  exact absurd (Heap.lt_size (I.pin p (List.mem_append_left _ hp)).1) (Nat.not_lt.mpr (z ▸ he))
end
section
variable {X:Cx}{H:Hp}{s:Shared}{C N D fI:Addr}{bmB:List Value}{B newId sa owner:String}{mN mD:Str->Option Value}{qual self f a f2 a2:Str}{scope:Scope}{cdv:Value}{p1 p2 p3 pos q1 q2 q3 qos:Pos}{v v2:V}
theorem jli (T:Two X.base C N D mN mD bmB newId)(SF:StoreFacts B bmB sa owner)(s1:mN "__setattr__" = none)(s2:mD "__setattr__" = none)(n1:mN f=none)(n2:mD f=none)(hB:typeLookup (.type B) f=pure none)
  (h0:Vis scope self) (h1:Vis scope a) (d0:(self == ("__debug__" : Str))=false) (d1:(a == ("__debug__" : Str))=false) (c0:(self == ("__classdict__" : Str))=false) (c1:(a == ("__classdict__" : Str))=false)
  (sw:∀ env,swapsWith (.Name a p3) (some (.Attribute (.Name self p1) f p2)) pos.line env=pure false) :
  jdv X C s H [self,a] qual scope fI cdv [.Assign [.Attribute (.Name self p1) f p2] (.Name a p3) pos] [v] [(f,v)]:=by
 intro A' sM s1' e t J he
 have J':=J.wish fun _ _=>False
 refine wpAny_execs_cons (xstep (X:=Cx.wish _ fun _ _=>False) (i:=0) (j:=1) (fs:=[]) J' rfl T SF s1 s2 n1 n2 hB he rfl rfl (.inl ⟨rfl,rfl⟩) (by decide) (jbi rfl h0 d0 c0) (jbi rfl h1 d1 c1) rfl rfl (sw _) fun s' dx K z=>?_)
 refine wpAny_pure ⟨rfl,dx,?_,K.unwish⟩
 rcases z with z | z
 ·cases z
 ·exact z.2
theorem jlh (T:Two X.base C N D mN mD bmB newId)(SF:StoreFacts B bmB sa owner)(s1:mN "__setattr__" = none)(s2:mD "__setattr__" = none)(n1:mN f=none)(n2:mD f=none)(hB:typeLookup (.type B) f=pure none)(m1:mN f2=none)(m2:mD f2=none)(hB2:typeLookup (.type B) f2=pure none)(hne:f≠f2)
  (h0:Vis scope self) (h1:Vis scope a) (h2:Vis scope a2) (d0:(self == ("__debug__" : Str))=false) (d1:(a == ("__debug__" : Str))=false) (d2:(a2 == ("__debug__" : Str))=false) (c0:(self == ("__classdict__" : Str))=false) (c1:(a == ("__classdict__" : Str))=false) (c2:(a2 == ("__classdict__" : Str))=false)
  (sw:∀ env,swapsWith (.Name a p3) (some (.Attribute (.Name self p1) f p2)) pos.line env=pure false) (sw2:∀ env,swapsWith (.Name a2 q3) (some (.Attribute (.Name self q1) f2 q2)) qos.line env=pure false) :
  jdv X C s H [self,a,a2] qual scope fI cdv [.Assign [.Attribute (.Name self p1) f p2] (.Name a p3) pos,.Assign [.Attribute (.Name self q1) f2 q2] (.Name a2 q3) qos] [v,v2] [(f,v),(f2,v2)]:=by
 intro A' sM s1' e t J he
 have J':=J.wish fun _ _=>False
 refine wpAny_execs_cons (xstep (X:=Cx.wish _ fun _ _=>False) (i:=0) (j:=1) (fs:=[]) J' rfl T SF s1 s2 n1 n2 hB he rfl rfl (.inl ⟨rfl,rfl⟩) (by decide) (jbi rfl h0 d0 c0) (jbi rfl h1 d1 c1) rfl rfl (sw _) fun s' dx K z=>?_)
 have hn:H dx=none:=by
  rcases z with z | z
  ·cases z
  ·exact z.2
 refine wpAny_execs_cons (xstep (X:=Cx.wish _ fun _ _=>False) (i:=0) (j:=2) (fs:=[(f,v)]) K rfl T SF s1 s2 m1 m2 hB2 he rfl rfl (.inr ⟨dx,rfl,jae⟩) (by simp) (jbi rfl h0 d0 c0) (jbi rfl h2 d2 c2) rfl rfl (sw2 _) fun s'' dx' K2 z2=>?_)
 have e1:dx'=dx:=by
  rcases z2 with z2 | z2
  ·exact (Option.some.inj z2).symm
  ·exact nomatch z2.1
 subst e1
 have K3:=K2.unwish
 have e2:putF f2 v2 [(f,v)]=[(f,v),(f2,v2)]:=by show (if f=f2 then _ else _)=_; rw [if_neg hne]; rfl
 have e3:upd (upd H dx' (.xd (putF f v []))) dx' (.xd (putF f2 v2 [(f,v)]))=upd H dx' (.xd [(f,v),(f2,v2)]):=by
  rw [e2]
  funext b
  by_cases hb:b=dx'
  ·rw [hb,jae,jae]
  ·rw [jac hb,jac hb,jac hb]
 rw [e3] at K3
 exact wpAny_pure ⟨rfl,dx',hn,K3⟩
end
section
variable {M:Model}{A:Around}{E:Value->Shared->Prop}{env:Env}{C N D:Addr}{bmB:List Value}{newId:String}{mN mD:Str->Option Value}
theorem Two.raise {s:Shared}{x:Sem Value}{Q:Flow->Shared->Prop}(hbase:bmB.contains (.type "BaseException")=true)(hh:A.handled=none)
  (h:wpAny M A x (fun v s1=>∃ e t dx,v=.ref e/\Two s1.heap C N D mN mD bmB newId/\s1.heap.get? e=some { cls:=.ref C,dict:=some dx,data:=.fields #[.ref t,.none,.none,.none,.bool false,.none] }/\E (.ref e) s1) E s):wpAny M A (raiseStmt env (some x) none) Q E s:=by
 have hb:(Value.ref C::.ref D::bmB).contains (.type "BaseException")=true:=by rw [List.contains_cons,List.contains_cons,hbase,Bool.or_true,Bool.or_true]
 unfold raiseStmt
 refine wpAny_bind (wpAny_mono h (fun v s1 h1=>?_) fun _ _ z=>z)
 obtain ⟨e,t,dx,rfl,T,he,hE⟩:=h1
 obtain ⟨nm,q,bs,sn,sub,ab,col,dd,k0,k1,k2,k3,k5,hC⟩:=T.cls
 obtain ⟨hp,g,d,tk,os⟩:=s1
 repeat (first | with_reducible refine wpAny_loadPart_at he ?_ | with_reducible refine wpAny_loadPart_at hC ?_ | (with_reducible refine wpAny_isSubtype_exc hC ?_; rw [hb]) | wp_step)
 exact wpAny_raiseNew_none hh hE
end
noncomputable def jgB (X:Cx)(C:Addr)(n:Nat)(mk:List V->List (Str×V))(t:TA):TS:=fun _ σ H=>t σ H fun vs H1=>vs.length=n/\∀ (pins:List (Addr×Obj)) (e dx:Addr) (s':Shared),H1 dx=none->Inv X pins σ (upd H1 dx (.xd (mk vs))) s'->Lies X.s₀.heap.objs.size X.pn (upd H1 dx (.xd (mk vs))) s'.heap e (.ref C) (some dx)->X.xe (.ref e) s'
theorem jf4 {X:Cx}{C N D fI:Addr}{bmB:List Value}{B newId initId:String}{mN mD:Str->Option Value}{k:Nat}{name qual x:Str}{params:Arguments}{body:List Stmt}{scope:Scope}{dV kV doc pm cdv ct:Value}{an od:Option Addr}{osl:Array (Option Value)}{Nm ps:List Str}{mk:List V->List (Str×V)}{t:TA}{a0:Expr}{as:List Expr}{p cpos pos:Pos}{n:Nat}
  (T:Two X.base C N D mN mD bmB newId) (F:ExcBaseFacts B newId initId bmB) (hD:mD "__init__" = none) (hi:mN "__init__" = some (.ref fI)) (lk:X.K.lookup fI=some ⟨.type "function",od,.func (PySem.W.fnOf name qual params body scope dV kV doc pm an cdv ct),osl⟩) (hcd:PySem.W.codeIn X.K cdv qual=true) (S:FnScope Nm ps scope) (hr:Room (k + 2) X.A)
  (hb:Binds X.K (PySem.W.fnOf name qual params body scope dV kV doc pm an cdv ct) ps []) (hn:n + 1=ps.length) (hn8:n<=8) (hbase:bmB.contains (.type "BaseException")=true) (hg:Gl X x) (hm:X.mg x=some (.ref C)) (hk:PySem.W.keepIn X.K (.ref C)=true) (ha:PA X (a0::as) t) (hbody:∀ (vs:List V) (s:Shared) (H:Hp),vs.length=n->jdv X C s H Nm qual scope fI cdv body vs (mk vs))
  (hdb:(x == ("__debug__" : Str))=false:=by decide) (he:starEach (a0::as) X.env=(false,eval a0 X.env)::starEach as X.env:=by rfl) (hpl:(backTo cpos (starEach as X.env)).any (·.1)=false:=by rfl) :
  PS X (.Raise (some (.Call (.Name x p) (a0::as) [] cpos)) none pos) (jgB X C n mk t):=by
 intro pins s σ H D0 I h
 have go:wpAny (model X.prog X.w) X.A (eval (.Call (.Name x p) (a0::as) [] cpos) X.env) (fun v s1=>∃ e t dx,v=.ref e/\Two s1.heap C N D mN mD bmB newId/\s1.heap.get? e=some { cls:=.ref C,dict:=some dx,data:=.fields #[.ref t,.none,.none,.none,.bool false,.none] }/\X.xe (.ref e) s1) X.xe s:=by
  refine wpAny_Call_Name_kw (jbZ I hg hm ?_ hdb)
  refine PySem.W.callWith_K (h₀:=X.base) I.ok.mod.kin hk (thn (ha cpos pins s σ H _ I h) fun us s1 ⟨vs,H1,I1,r,hl,q⟩=>⟨I1.kIn,?_⟩) he hpl
  refine xmake (k:=k) I1 T F hD hi lk hcd S hr hb r (by omega) (by have:=r.length; rw [sizeLine_eq,List.nil_append]; omega) (hbody vs s1 H1 hl) fun e dx s' z1 J l ⟨t',g⟩=>?_
  exact ⟨e,t',dx,rfl,T.keeps J.bk,g,q pins e dx s' z1 J l⟩
 rw [arm_exec_Raise]
 first
  | exact wpAny_bind (wpAny_standAt (Two.raise hbase hr.hd (wpAny_bind (wpAny_mono go (fun v s1 z=>wpAny_bind (wpAny_standAt (wpAny_pure z))) fun _ _ z=>z))))
  | (simp only [evalOpt,Option.map]; exact wpAny_bind (wpAny_standAt (Two.raise hbase hr.hd (wpAny_bind (wpAny_mono go (fun v s1 z=>wpAny_bind (wpAny_standAt (wpAny_pure z))) fun _ _ z=>z)))))
theorem jfh {X:Cx}{pins:List (Addr×Obj)}{σ:St}{H:Hp}{s:Shared}{M:Model}{A:Around}{E:Value->Shared->Prop}{i:Nat}{x:Str}{pos:Pos}{Q:Unit->Shared->Prop}(I:Inv X pins σ H s)(hN:X.N.Nodup)(hi:X.N[i]?=some x)(hk:X.env.scope.names.lookup x=some .local)
  (h:∀ s',Inv X pins (σ.set i none) H s'->Q () s'):wpAny M A (do bindName X.env x .none; unbindBehindTheSuite X.env x pos) Q E s:=by
 obtain ⟨m,hn,hl⟩:=id I.loc
 have hcls:(X.env.scope.kind == .class || (X.env.scope.kind == .module && X.env.locals != X.env.globals))=false:=by rw [I.ok.kind]; rfl
 have hiσ:i < σ.length:=by rw [I.len]; exact (List.getElem?_eq_some_iff.mp hi).1
 have cne:=I.cne
 refine wpAny_nameGoes_keeps hk hn hcls fun h' v hn' hs=>?_
 have lt0:∀ b o,X.s₀.heap.get? b=some o->b≠X.env.locals:=fun b o e=>Nat.ne_of_lt (Nat.lt_of_lt_of_le (Heap.lt_size e) I.ok.above)
 have tr:HOk X.prog X.w H h':=fun b ob e=>by
  refine (I.hok b ob e).stay (fun c w' hc q=>(hs.2 c ?_).trans q) (fun _ q=>q) fun _ _ q=>q
  rintro rfl
  rcases hc with rfl | hc
  ·rw [I.free] at e; cases e
  ·rw [I.free] at hc; cases hc
 refine h _ ⟨I.ok,I.os,I.bare,⟨fun b o e n hb hx=>(hs.2 b (lt0 b o e)).trans (I.base.keep b o e n hb hx),fun b o e n hb hx=>?_,I.base.free,fun b o e hx=>?_,I.base.tups,I.base.frzs,I.base.tbls⟩,⟨_,hn',fun j y v' e1 e2 e3=>?_⟩,fun y c e=>?_,I.free,I.freeC,fun p hp=>?_,tr,by simpa using I.len⟩
 ·obtain ⟨sl,e1⟩:=I.base.slot b o e n hb hx
  exact ⟨sl,(hs.2 b (lt0 b o e)).trans e1⟩
 ·obtain ⟨o',e1⟩:=I.base.there b o e hx
  exact ⟨o',(hs.2 b (lt0 b o e)).trans e1⟩
 ·by_cases hj:j=i
  ·subst hj
   rw [List.getElem?_set_self hiσ] at e2
   cases e2
  ·rw [List.getElem?_set_ne (Ne.symm hj)] at e2
   have hy:y≠x:=fun z=>hj (jcL hN e1 (z ▸ hi))
   obtain ⟨u,r,l⟩:=hl j y v' e1 e2 e3
   refine ⟨u,r,l.imp (fun z=>⟨z.1,by show (if y=x then v else m y)=some u; rw [if_neg hy]; exact z.2⟩) fun z=>⟨z.1,?_⟩⟩
   obtain ⟨c,ec,o,ho,hd⟩:=z.2
   exact ⟨c,ec,o,(hs.2 c (cne y c ec)).trans ho,hd⟩
 ·obtain ⟨w',o,ho,hd⟩:=I.cell y c e
  exact ⟨w',o,(hs.2 c (cne y c e)).trans ho,hd⟩
 ·obtain ⟨p1,p2,p3,p4⟩:=I.pin p hp
  exact ⟨(hs.2 p.1 p3).trans p1,p2,p3,p4⟩
end L2

namespace L2
open PySem PySem.Spec PyProof.Rows PySem.W
set_option maxHeartbeats 4000000
section
variable {M:Model}{A:Around}{E:Value->Shared->Prop}{h:Heap}{g:Array GenState}{d:Drawn}{t:Nat}{os:OsState}
variable {nm q nm' q':Str}{C N D ND e:Addr}{bs bm bs' bm':List Value}{hdct hdct':Bool}{sn sn':List Str}{sub sub':List Value}{ab ab':Bool}{col col':Option Bool}{dd dd':Option Addr}{k0 k1 k2 k3 k5 l0 l1 l2 l3 l5:Option Value}{newId newId':String}{oe:Obj}
theorem jdU {Q:Bool->Shared->Prop}(hC:h.get? C=some (excClassObj nm q C N bs bm hdct sn sub ab col dd k0 k1 k2 k3 k5 newId))(hD:h.get? D=some (excClassObj nm' q' D ND bs' bm' hdct' sn' sub' ab' col' dd' l0 l1 l2 l3 l5 newId'))(he:h.get? e=some oe)(hcls:oe.cls=.ref C)(hb:bm'.contains (.type "BaseException")=true)
  (hq:Q ((Value.ref C::bm).contains (.ref D)) ⟨h,g,d,t,os⟩):wpAny M A (excMatches (.ref e) (.ref D)) Q E ⟨h,g,d,t,os⟩:=by
 have hB:(Value.ref D::bm').contains (.type "BaseException")=true:=by rw [List.contains_cons,hb,Bool.or_true]
 have f:=tc_notTuple
 obtain ⟨b,eb⟩:∃ b,b=(Value.ref C::bm).contains (.ref D):=⟨_,rfl⟩
 rw [<- eb] at hq
 unfold excMatches
 repeat (first | (with_reducible refine wpAny_loadPart_at he ?_; rw [hcls]) | with_reducible refine wpAny_loadPart_at hD ?_ | (with_reducible refine wpAny_isSubtype_exc hD ?_; rw [hB]) | (with_reducible refine wpAny_isSubtype_exc hC ?_; rw [<- eb]) | wp_step)
 cases b with
 | true=>wp_walk; exact hq
 | false=>wp_walk; exact hq
end
section
variable {X:Cx}{pins:List (Addr×Obj)}{σ:St}{H:Hp}{s:Shared}
theorem jdi {M:Model}{A:Around}{E:Value->Shared->Prop}{ea:Addr}{cls:Value}{dx:Option Addr}{Q:Unit->Shared->Prop}(I:Inv X [] σ H s)(l:Lies X.s₀.heap.objs.size X.pn H s.heap ea cls dx)
  (q:∀ h',Inv X [] σ H { s with heap:=h' }->Lies X.s₀.heap.objs.size X.pn H h' ea cls dx->Q () { s with heap:=h' }):wpAny M A (setFlight (.ref ea) none) Q E s:=by
 obtain ⟨oe,vs,he,hc,hdx,hd,ht⟩:=l.ob
 rcases ht with h1 | ⟨T,oT,ts,h1,hTe,hT,hdT,h3,nT,lT,pT⟩
 ·unfold setFlight
  refine wpAny_bind (wpAny_field he hd h1 ?_)
  rw [if_neg (by decide)]
  exact wpAny_pure (q s.heap I l)
 ·have sz:=(Array.getElem?_eq_some_iff.mp h3).1
  refine wpAny_setFlight_none he hd h1 hT hdT sz ?_
  have other:=(jbh 3 .none hT hdT).2
  have d3:=Obj.data_mapFields hdT (·.setIfInBounds 3 Value.none)
  refine q _ (I.left (ch:=[T]) (fun b hb=>by rw [List.mem_singleton.mp hb]; exact nT) (fun b hb=>by rw [List.mem_singleton.mp hb]; exact lT) (fun b hb=>by rw [List.mem_singleton.mp hb]; exact ⟨oT,ts,hT,hdT⟩) (fun b hb p hp=>by rw [List.mem_singleton.mp hb]; exact pT p (by simpa using hp))
   (fun b o _ hc e=>(other b (by simpa using hc)).trans e) fun b o _ hc e=>⟨o.slots,(other b (by simpa using hc)).trans e⟩) ⟨⟨oe,vs,(other ea (Ne.symm hTe)).trans he,hc,hdx,hd,.inr ⟨T,_,_,h1,hTe,Heap.get?_update_self _ hT (Obj.isFreed_of_fields d3),d3,by simp [sz],nT,lT,pT⟩⟩,l.hn,l.le,l.pn⟩
noncomputable def Cx.tryC (X:Cx)(pins:List (Addr×Obj))(xe:Value->Shared->Prop):Cx:={ X with pn:=X.pn++pins,xe:=xe }
theorem Inv.tryIn {xe:Value->Shared->Prop}(I:Inv X pins σ H s):Inv (X.tryC pins xe) [] σ H s:=
 ⟨⟨I.ok.mod,I.ok.kind,I.ok.glob,I.ok.blt,I.ok.above,I.ok.inj,I.ok.has,I.ok.cab,I.ok.hd,I.ok.frames,I.ok.stk,I.ok.exf,I.ok.bs,I.ok.bsz,I.ok.noex,I.ok.exfs,I.ok.funs,I.ok.frf⟩,I.os,I.bare,I.base,I.loc,I.cell,I.free,I.freeC,fun p hp=>I.pin p (by simpa [Cx.tryC] using hp),I.hok,I.len⟩
theorem Inv.tryOut {xe:Value->Shared->Prop}{pins':List (Addr×Obj)}(I:Inv (X.tryC pins xe) pins' σ H s):Inv X pins σ H s:=
 ⟨⟨I.ok.mod,I.ok.kind,I.ok.glob,I.ok.blt,I.ok.above,I.ok.inj,I.ok.has,I.ok.cab,I.ok.hd,I.ok.frames,I.ok.stk,I.ok.exf,I.ok.bs,I.ok.bsz,I.ok.noex,I.ok.exfs,I.ok.funs,I.ok.frf⟩,I.os,I.bare,I.base,I.loc,I.cell,I.free,I.freeC,fun p hp=>I.pin p (by simp only [Cx.tryC]; exact List.mem_append_left _ hp),I.hok,I.len⟩
noncomputable def Cx.inH (X:Cx)(e:Value)(p:List (Addr×Obj)):Cx:={ X with A:=X.A.mark (some e),calm:=false,pn:=X.pn++p,xe:=fun _ _=>False }
theorem Inv.hIn {e:Value}{p:List (Addr×Obj)}(I:Inv X [] σ H s)(hp:∀ q∈p,s.heap.get? q.1=some q.2/\H q.1=none/\q.1≠X.env.locals/\q.1∉X.fs/\∀ v,q.2.data≠.cell v):Inv (X.inH e p) [] σ H s:=
 ⟨⟨I.ok.mod,I.ok.kind,I.ok.glob,I.ok.blt,I.ok.above,I.ok.inj,I.ok.has,I.ok.cab,(fun z=>(nomatch z)),I.ok.frames,I.ok.stk,I.ok.exf,I.ok.bs,I.ok.bsz,I.ok.noex,I.ok.exfs,I.ok.funs,I.ok.frf⟩,I.os,I.bare,I.base,I.loc,I.cell,I.free,I.freeC,
  fun q hq=>by
   have:q∈X.pn++p:=by simpa [Cx.inH] using hq
   rcases List.mem_append.mp this with z | z
   ·exact I.pin q (List.mem_append_left _ z)
   ·exact hp q z,I.hok,I.len⟩
theorem Inv.hOut {e:Value}{p pins':List (Addr×Obj)}(ok:X.Ok)(I:Inv (X.inH e p) pins' σ H s):Inv X [] σ H s:=
 ⟨ok,I.os,I.bare,I.base,I.loc,I.cell,I.free,I.freeC,fun q hq=>I.pin q (by simp only [Cx.inH]; rw [List.append_nil] at hq; exact List.mem_append_left _ (List.mem_append_left _ hq)),I.hok,I.len⟩
theorem Lies.pinned {ea:Addr}{cls:Value}{dx:Option Addr}(I:Inv X [] σ H s)(l:Lies X.s₀.heap.objs.size X.pn H s.heap ea cls dx):∃ oe,s.heap.get? ea=some oe/\oe.cls=cls/\oe.dict=dx/\(∃ vs,oe.data=.fields vs)/\
  ∀ q∈[(ea,oe)],s.heap.get? q.1=some q.2/\H q.1=none/\q.1≠X.env.locals/\q.1∉X.fs/\∀ v,q.2.data≠.cell v:=by
 obtain ⟨oe,vs,he,hc,hdx,hd,_⟩:=l.ob
 refine ⟨oe,he,hc,hdx,⟨vs,hd⟩,fun q hq=>?_⟩
 rw [List.mem_singleton.mp hq]
 refine ⟨he,l.hn,fun z=>?_,fun z=>?_,fun v z=>by rw [show (ea,oe).2.data=oe.data from rfl,hd] at z; cases z⟩
 ·obtain ⟨m,⟨o,es,ep,ho,hdd,_⟩,_⟩:=I.loc
  rw [<- z,he] at ho
  cases ho
  rw [hd] at hdd; cases hdd
 ·obtain ⟨_,o,ho,_⟩:=I.ok.funs.mem z
  exact absurd (Heap.lt_size ho) (Nat.not_lt.mpr l.le)
end
noncomputable def XL (M:Model)(A:Around)(env:Env)(R:Value->Shared->Prop):Value->Shared->Prop:=fun e s'=>wpAny M A (noteFrame e env) (fun _ s''=>wpAny M A (setFlight e none) (fun _ s3=>R e s3) R s'') R s'
theorem jiZ {M:Model}{A:Around}{env:Env}{R:Value->Shared->Prop}:PassesOwn M A env (XL M A env R):=PassesOwn.looking
section
variable {P:Program}{w:World}{K:PySem.W.Frag}{mg:Str->Option Value}{base:Heap}
noncomputable abbrev cx1 (P:Program)(w:World)(K:PySem.W.Frag)(mg:Str->Option Value)(base:Heap)(N:List Str)(qual:Str)(scope:Scope)(f:Addr)(cd:Value)(A:Around)(outer:List Env)(s:Shared)(H:Hp)(E:XK):Cx:=
 (cxOf (CX1 P w) P w K mg base N qual scope f cd A outer s H E).wish (XL (model P w) (A.deeper (envOfC qual scope s.heap.objs.size f cd)) (envOfC qual scope s.heap.objs.size f cd) fun e s'=>CX1 P w outer H s E e s')
theorem Fun.okX {x qual:Str}{st:Stmt}{f:Addr}{fd:FuncData}{N ps:List Str}{k:Nat}{sp:Sp}(F:Fun K x qual st f fd)(S:FnScope N ps (defScope st))(len:∀ vs H Q E,sp vs H Q E->vs.length=ps.length)
  (hbody:∀ (cdv:Value) (A:Around) (outer:List Env) (s:Shared) (H:Hp) (vs:List V) (Q:VK) (E:XK),Room k (A.deeper (envOfC qual (defScope st) s.heap.objs.size f cdv))->sp vs H Q E->
   ∃ t,PSs (cx1 P w K mg base N qual (defScope st) f cdv A outer s H E) (defBody st) t/\t { nx:=fun _ H'=>Q .non H',rt:=Q } (start N vs) H):FnOk P w K mg base (CX1 P w) (k + 1) f fd ps sp:=by
 obtain ⟨oc,od,kV,doc,pm,an,cdv,ct,osl,rfl,lk,hcd⟩:=F.ex
 refine jlp lk hcd S len fun A outer s H vs Q E hr hsp=>?_
 obtain ⟨t,h,q⟩:=hbody cdv A outer s H vs Q E hr hsp
 refine ⟨t,fun pins s1 σ H1 D I hw=>?_,q⟩
 refine wpAny_mono (h pins s1 σ H1 D (I.wish _) hw) (fun _ _ q=>q.unwish) fun e s' z=>?_
 show wpAny _ _ (leaving _ e) _ _ s'
 unfold leaving
 exact wpAny_bind z
theorem CX1.out1 {N:List Str}{qual:Str}{scope:Scope}{f:Addr}{cd:Value}{A:Around}{outer:List Env}{s s':Shared}{H H':Hp}{E:XK}{pins:List (Addr×Obj)}{σ:St}{ea:Addr}{cls:Value}{dx:Option Addr}
  (I:Inv (cx1 P w K mg base N qual scope f cd A outer s H E) pins σ H' s') (l:Lies s.heap.objs.size [] H' s'.heap ea cls dx) (q:E cls dx H'):(cx1 P w K mg base N qual scope f cd A outer s H E).xe (.ref ea) s':=by
 have I0:Inv (cxOf (CX1 P w) P w K mg base N qual scope f cd A outer s H E) [] σ H' s':=I.unwish.pins_of fun p hp=>absurd hp (by simp)
 refine jgO (X:=cxOf (CX1 P w) P w K mg base N qual scope f cd A outer s H E) (E:=fun e s'=>CX1 P w outer H s E e s') I0 rfl rfl l fun h' J l'=>?_
 exact ⟨ea,H',cls,dx,rfl,J.os,J.bare,J.base,J.hok,l',q⟩
end
end L2

namespace L2
open PySem PySem.Spec PyProof.Rows PySem.W
open Builtin Builtin.ObjectAttr
set_option maxHeartbeats 4000000
theorem jci:typeLookup (.type "ValueError") "__class__" = pure (some (.builtin "object.__class__")):=by rw [typeLookup_type,builtinLookup_eq_fast]; kernel_rfl
theorem jjO:typeLookup (.type "getset_descriptor") "__get__" = pure (some (.builtin "getset_descriptor.__get__")):=by rw [typeLookup_type,builtinLookup_eq_fast]; kernel_rfl
theorem jjN:typeLookup (.type "getset_descriptor") "__set__" = pure (some (.builtin "getset_descriptor.__set__")):=by rw [typeLookup_type,builtinLookup_eq_fast]; kernel_rfl
theorem jfu:builtinKind "object.__class__" = some .getset:=by decide +kernel
noncomputable abbrev bmV:List Value:=[.type "ValueError",.type "Exception",.type "BaseException",.type "object"]
section
variable {prog:Program}{w:World}{A:Around}{E:Value->Shared->Prop}{h:Heap}{g:Array GenState}{d:Drawn}{t:Nat}{os:OsState}
variable {C N D x:Addr}{bmB:List Value}{B newId sa owner:String}{mN mD mA:Str->Option Value}{name:Str}{v:Value}
theorem Two.gaClass {o od:Obj}{dx:Addr}{K:Frag}{tk:Tok}{Q:Fin->Shared->Prop}(hK:K.In h)(hm:mroIn K C (.type "object")=some true)(T:Two h C N D mN mD bmB newId)(R:Reads B bmB)(hx:h.get? x=some o)(hc:o.cls=.ref C)(hnc:notCls o=true)(hdx:o.dict=some dx)(hod:h.get? dx=some od)
  (hB:typeLookup (.type B) "__class__" = pure (some (.builtin "object.__class__"))) (n1:mN "__class__" = none) (n2:mD "__class__" = none) (hq:Q (.done (.ret (.ref C))) ⟨h,g,d,t,os⟩) :
  wpAny (model prog w) A (Builtin.«object.__getattribute__» ⟨[.ref x,.str "__class__" tk],[]⟩) Q E ⟨h,g,d,t,os⟩:=by
 obtain ⟨nm,q,bs,sn,sub,ab,col,dd,k0,k1,k2,k3,k5,e⟩:=T.cls
 unfold Builtin.«object.__getattribute__»
 repeat (first | (with_reducible refine wpAny_loadPart_at hx ?_; rw [hc]) | (with_reducible refine T.look hB R.mro n1 n2 ?_) | wp_step)
 rw [jfu]
 dsimp only
 rw [jjO]
 repeat (first | (with_reducible refine wpAny_loadPart_at hx ?_; rw [hc]) | wp_step)
 rw [jfu]
 dsimp only
 rw [jjN]
 repeat (first | (with_reducible refine wpAny_loadPart_at hx ?_; rw [hc]) | wp_step)
 refine PySem.W.class_get (K:=K) hK (ox:=o) (od:=some od) ⟨hx,hc,hnc,by rw [hdx]; exact hod⟩ hm ?_
 exact wpAny_pure hq
theorem Two.cattr {o od:Obj}{dx:Addr}{K:Frag}{Q:Option Value->Shared->Prop}(hK:K.In h)(hm:mroIn K C (.type "object")=some true)(T:Two h C N D mN mD bmB newId)(R:Reads B bmB)(hx:h.get? x=some o)(hc:o.cls=.ref C)(hnc:notCls o=true)(hdx:o.dict=some dx)(hod:h.get? dx=some od)
  (hB:typeLookup (.type B) "__class__" = pure (some (.builtin "object.__class__"))) (g1:mN "__getattribute__" = none) (g2:mD "__getattribute__" = none) (a1:mN "__getattr__" = none) (a2:mD "__getattr__" = none) (n1:mN "__class__" = none) (n2:mD "__class__" = none) (hq:Q (some (.ref C)) ⟨h,g,d,t + 1,os⟩) :
  wpAny (model prog w) A (getAttr? (.ref x) "__class__") Q E ⟨h,g,d,t,os⟩:=by
 have f3:=R.ga.bind (.ref x)
 unfold getAttr? getAttrBy? getAttrBy
 repeat (any_goals (first | assumption | (with_reducible refine wpAny_loadPart_at hx ?_; rw [hc]) | (with_reducible refine T.look R.ga.lookup R.mro g1 g2 ?_) | (with_reducible refine T.look R.no R.mro a1 a2 ?_) | wp_step))
 refine codeAny_call_builtin R.ga.plain F.entry_bexc_ga (T.gaCheck R hx hc (T.gaClass hK hm R hx hc hnc hdx hod hB n1 n2 ?_))
 repeat (any_goals (first | assumption | wp_step))
end
noncomputable def jel:List DictEntry->Option (List Str)
 | []=>some []
 | e::r=>match e.key,jel r with
  | .str x _,some l=>some (x::l)
  | _,_=>none
noncomputable def ja6 (K:Frag)(N:Addr):Option (List Str):=match K.lookup N with
 | some ⟨_,_,.dict es _,_⟩=>jel es.toList
 | _=>none
theorem jcr:∀ {es:List DictEntry} {ks:List Str},jel es=some ks->(∀ e∈es,∃ n t,e.key=.str n t)/\∀ x,x∉ks->es.find? (fun e=>e.key.isStr x)=none
 | [],_,_=>⟨fun _ h=>absurd h (by simp),fun _ _=>rfl⟩
 | e::r,ks,h=>by
  unfold jel at h
  split at h
  ·rename_i x t l hk hr
   cases h
   obtain ⟨h1,h2⟩:=jcr hr
   refine ⟨fun e' he=>?_,fun y hy=>?_⟩
   ·rcases List.mem_cons.mp he with rfl | he
    ·exact ⟨_,_,hk⟩
    ·exact h1 e' he
   ·have hn:y≠x:=fun z=>hy (by simp [z])
    have:e.key.isStr y=false:=by rw [hk]; simp [Value.isStr,Ne.symm hn]
    rw [List.find?_cons,this]
    exact h2 y fun z=>hy (by simp [z])
  ·cases h
theorem jjs {K:Frag}{N:Addr}{ks:List Str}(e:ja6 K N=some ks):∃ m:Str->Option Value,(∀ h,K.In h->h.Ns N m)/\(∀ x,x∉ks->m x=none)/\∀ x v,nsIn K N x=some (some v)->m x=some v:=by
 unfold ja6 at e
 split at e
 ·rename_i c dd es ep sl lk
  obtain ⟨h1,h2⟩:=jcr e
  refine ⟨nsFind es,fun h hK=>⟨_,es,ep,hK _ _ lk,rfl,fun e he=>h1 e (by simpa using he),fun _=>rfl⟩,fun x hx=>?_,fun x v hv=>?_⟩
  ·unfold nsFind findBy
   rw [<- Array.find?_toList,h2 x hx]; rfl
  ·unfold nsIn at hv
   rw [lk] at hv
   dsimp only at hv
   unfold nsFind findBy
   rw [<- Array.find?_toList]
   split at hv
   ·rename_i e' he'
    rw [he']
    cases hv; rfl
   ·split at hv <;> cases hv
 ·cases e
noncomputable def offN:List Str:=["__setattr__", "__getattribute__", "__getattr__", "__class__", "word", "at", "row"]
structure XBase (K:Frag)(mg:Str->Option Value)(D:Addr)(mD:Str->Option Value):Prop where
 m:mg "PlanError" = some (.ref D)
 kp:keepIn K (.ref D)=true
 lk:∃ q ND bs hd sn sub ab col dd k0 k1 k2 k3 k5 nid,K.lookup D=some (excClassObj "PlanError" q D ND bs bmV hd sn sub ab col dd k0 k1 k2 k3 k5 nid)/\∀ h,K.In h->h.Ns ND mD
 no:∀ y∈offN,mD y=none
 ni:mD "__init__" = none
structure XCls (K:Frag)(mg:Str->Option Value)(x:Str)(fs:List Str)(C:Addr):Prop where
 m:mg x=some (.ref C)
 kp:keepIn K (.ref C)=true
 ex:∃ (D N fI:Addr) (mN mD:Str->Option Value),XBase K mg D mD/\(∃ q bs sn sub ab col dd k0 k1 k2 k3 k5,K.lookup C=some (excClassObj x q C N bs (.ref D::bmV) true sn sub ab col dd k0 k1 k2 k3 k5 "ValueError.__new__"))/\(∀ h,K.In h->h.Ns N mN)/\(∀ y∈offN,mN y=none)/\
  mN "__init__" = some (.ref fI)/\∃ (st:Stmt) (qual:Str) (fd:FuncData),L2.Fun K "__init__" qual st fI fd/\(∃ od osl,K.lookup fI=some ⟨.type "function",od,.func fd,osl⟩)/\FnScope ("self" :: fs) ("self" :: fs) (defScope st)/\Binds K fd ("self" :: fs) []/\(∀ y∈(("self" : Str)::fs),(defScope st).names.lookup y=some .local)/\
  ((∃ f p1 p2 p3 pos,fs=[f]/\defBody st=[.Assign [.Attribute (.Name "self" p1) f p2] (.Name f p3) pos])\/∃ f f2 p1 p2 p3 pos q1 q2 q3 qos,fs=[f,f2]/\f≠f2/\defBody st=[.Assign [.Attribute (.Name "self" p1) f p2] (.Name f p3) pos,.Assign [.Attribute (.Name "self" q1) f2 q2] (.Name f2 q3) qos])
theorem XBase.get {K:Frag}{mg:Str->Option Value}{D:Addr}{mD:Str->Option Value}(B:XBase K mg D mD){h:Heap}(hK:K.In h):∃ c0 dd cd sl,h.get? D=some { cls:=c0,dict:=dd,data:=.cls cd,slots:=sl }/\h.Ns cd.ns mD:=by
 obtain ⟨q,ND,bs,hd,sn,sub,ab,col,dd,k0,k1,k2,k3,k5,nid,lk,n⟩:=B.lk
 exact ⟨_,_,_,_,hK _ _ lk,n h hK⟩
section
variable {K:Frag}{mg:Str->Option Value}{x:Str}{fs:List Str}{C:Addr}
theorem XCls.name (c:XCls K mg x fs C):∃ cd,clsIn K C=some cd/\cd.name=x/\typeIn K (.ref C)=some (.type "type")/\∃ D mD,XBase K mg D mD/\cd.mro=.ref C::.ref D::bmV:=by
 obtain ⟨D,N,fI,mN,mD,B,⟨q,bs,sn,sub,ab,col,dd,k0,k1,k2,k3,k5,lk⟩,_⟩:=c.ex
 refine ⟨_,by unfold clsIn; rw [lk],rfl,by show Option.map (fun x=>x.cls) (List.lookup _ K)=_; rw [lk]; rfl,D,mD,B,rfl⟩
theorem XBase.nm {D:Addr}{mD:Str->Option Value}(B:XBase K mg D mD):∃ cd,clsIn K D=some cd/\cd.name = "PlanError" /\ typeIn K (.ref D)=some (.type "type"):=by
 obtain ⟨q,ND,bs,hd,sn,sub,ab,col,dd,k0,k1,k2,k3,k5,nid,lk,n⟩:=B.lk
 exact ⟨_,by unfold clsIn; rw [lk],rfl,by show Option.map (fun x=>x.cls) (List.lookup _ K)=_; rw [lk]; rfl⟩
theorem jfl (c : XCls K mg x fs C){x' : Str}{fs' : List Str}{C' : Addr}(c' : XCls K mg x' fs' C')(hp : x' ≠ "PlanError") : kitOne K (.ref C) (.ref C') = some (decide (x = x')) := by
  obtain ⟨cd, h1, h2, h3, D, mD, B, hm⟩ := c.name
  obtain ⟨cd', h1', h2', h3', _⟩ := c'.name
  unfold kitOne
  by_cases e : C = C'
  · subst e
    rw [h1] at h1'
    cases h1'
    rw [if_pos (by simp), <- h2, <- h2']
    simp
  · have hx : x ≠ x' := fun z => by
      subst z
      have := c.m.symm.trans c'.m
      simp at this
      exact e this
    rw [if_neg (by simpa using e)]
    unfold kitCls subIn mroIn
    dsimp only
    rw [h1', h3', h1]
    have hD : D ≠ C' := fun z => by
      subst z
      obtain ⟨cd2, g1, g2, _⟩ := B.nm
      rw [h1'] at g1
      cases g1
      exact hp (h2'.symm.trans g2)
    simp [hm, hx, Ne.symm e, Ne.symm hD]
theorem jjz (c:XCls K mg x fs C):kitOne K (.ref C) (.type "ValueError")=some true:=by
 obtain ⟨cd,h1,h2,h3,D,mD,B,hm⟩:=c.name
 unfold kitOne
 rw [if_neg (by simp)]
 unfold kitCls subIn mroIn
 dsimp only
 rw [if_pos (by decide +kernel),h1]
 simp [hm]
end
theorem jgT:∀ f∈[("word" : Str), "at", "row"],typeLookup (.type "ValueError") f=pure none:=by
 intro f hf
 simp only [List.mem_cons,List.not_mem_nil,or_false] at hf
 rcases hf with rfl | rfl | rfl <;> (rw [typeLookup_type,builtinLookup_eq_fast]; kernel_rfl)
noncomputable def fldN:List Str:=["word", "at", "row"]
theorem jdS:∀ f∈fldN,f∈offN:=by decide
section
variable {K:Frag}{mg:Str->Option Value}{x:Str}{fs:List Str}{C:Addr}
structure XPin (X:Cx)(ea C dx:Addr):Prop where
 ex:∃ oe vs,(ea,oe)∈X.pn/\oe.cls=.ref C/\oe.dict=some dx/\oe.data=.fields vs
theorem Inv.xobj {X:Cx}{pins:List (Addr×Obj)}{σ:St}{H:Hp}{s:Shared}{ea C dx:Addr}{l:List (Str×V)}(I:Inv X pins σ H s)(p:XPin X ea C dx)(hl:H dx=some (.xd l)) :
  ∃ oe vs od mA,s.heap.get? ea=some oe/\oe.cls=.ref C/\oe.dict=some dx/\oe.data=.fields vs/\s.heap.get? dx=some od/\s.heap.Ns dx mA/\∀ f,RelO (l.lookup f) (mA f):=by
 obtain ⟨oe,vs,hp,h1,h2,h3⟩:=p.ex
 obtain ⟨mA,n,r⟩:=(show jay X.prog X.w H s.heap dx (.xd l) from I.hok dx _ hl)
 obtain ⟨od,es,ep,g,gd,sk,_,nf⟩:=n
 exact ⟨oe,vs,od,mA,(I.pin _ (List.mem_append_left _ hp)).1,h1,h2,h3,g,⟨od,es,ep,g,gd,sk,nf⟩,r⟩
theorem XCls.two (c:XCls K mg x fs C){h:Heap}(hK:K.In h):∃ N D mN mD,Two h C N D mN mD bmV "ValueError.__new__" /\ (∀ y∈offN,mN y=none/\mD y=none)/\mroIn K C (.type "object")=some true:=by
 obtain ⟨D,N,fI,mN,mD,B,⟨q,bs,sn,sub,ab,col,dd,k0,k1,k2,k3,k5,lk⟩,hn,ho,_⟩:=c.ex
 refine ⟨N,D,mN,mD,⟨⟨_,_,_,_,_,_,_,_,_,_,_,_,_,hK _ _ lk⟩,hn h hK,B.get hK⟩,fun y hy=>⟨ho y hy,B.no y hy⟩,?_⟩
 unfold mroIn clsIn
 rw [lk]
 simp
theorem jcN (c:XCls K mg x fs C){ea dx:Addr}{oe od:Obj}{vs:Array Value}(h1:oe.cls=.ref C)(h2:oe.dict=some dx)(h3:oe.data=.fields vs):KitX K (.ref ea) (.ref C) (fun h=>h.get? ea=some oe/\h.get? dx=some od):=by
 have hnc:notCls oe=true:=by unfold notCls; rw [h3]
 refine ⟨fun M h hK hh=>?_,fun M h hK hh=>?_,fun h tp dd its n sl hK ht=>?_,fun {prog w A E Q s} hK hh hq=>?_⟩
 ·intro A Q E s k q
  obtain ⟨hp,g,d,t,os⟩:=s
  have g1:=k _ _ hh.1
  show wpAny M A (typeOf (.ref ea)) Q E _
  unfold typeOf
  repeat (first | (with_reducible refine wpAny_loadPart_at g1 ?_; rw [h1]) | wp_step)
  exact q
 ·intro A Q E s k q
  obtain ⟨hp,g,d,t,os⟩:=s
  obtain ⟨D,N,fI,mN,mD,B,⟨q',bs,sn,sub,ab,col,dd,k0,k1,k2,k3,k5,lk⟩,_⟩:=c.ex
  have g1:=k _ _ (hK _ _ lk)
  unfold isType
  repeat (first | with_reducible refine wpAny_loadPart_at g1 ?_ | wp_step)
  exact q
 ·obtain ⟨D,N,fI,mN,mD,B,⟨q',bs,sn,sub,ab,col,dd',k0,k1,k2,k3,k5,lk⟩,_⟩:=c.ex
  have g1:=hK _ _ lk
  by_cases z:C=tp
  ·subst z
   rw [ht] at g1
   simp at g1
  ·simpa using z
 ·obtain ⟨hp,g,d,t,os⟩:=s
  obtain ⟨N,D,mN,mD,T,off,hm⟩:=c.two hK
  have o1:=off "__getattribute__" (by decide)
  have o2:=off "__getattr__" (by decide)
  have o3:=off "__class__" (by decide)
  exact T.cattr hK hm jaQ hh.1 h1 hnc h2 hh.2 jci o1.1 o1.2 o2.1 o2.2 o3.1 o3.2 hq
end
section
variable {X:Cx}{mg:Str->Option Value}{x:Str}{fs:List Str}{C ea dx:Addr}
theorem jfL {x':Str}{fs':List Str}{C':Addr}(c:XCls X.K mg x fs C)(c':XCls X.K mg x' fs' C')(hp:x' ≠ "PlanError")(p:XPin X ea C dx):jaM X (.builtin "isinstance") (fun xs H Q=>xs=[.ref ea,.ref C']/\(∃ l,H dx=some (.xd l))/\Q (.bl (decide (x=x'))) H):=by
 intro pins s σ H xs us Q I r h
 obtain ⟨rfl,⟨l,hl⟩,q⟩:=h
 obtain ⟨u,v,rfl,ru,rv⟩:=Vals.two r
 cases ru; cases rv
 obtain ⟨oe,vs,od,mA,g1,g2,g3,g4,g5,_⟩:=I.xobj p hl
 exact kia_one (jcN c g2 g3 g4) I.kIn ⟨g1,g5⟩ (jfl c c' hp) (fun z=>(nomatch z)) fun tk=>⟨.bl _,H,I.tok tk,rfl,q⟩
theorem jfJ (c:XCls X.K mg x fs C)(p:XPin X ea C dx):jaM X (.builtin "isinstance") (fun xs H Q=>xs=[.ref ea,.ty "ValueError"]/\(∃ l,H dx=some (.xd l))/\Q (.bl true) H):=by
 intro pins s σ H xs us Q I r h
 obtain ⟨rfl,⟨l,hl⟩,q⟩:=h
 obtain ⟨u,v,rfl,ru,rv⟩:=Vals.two r
 cases ru; cases rv
 obtain ⟨oe,vs,od,mA,g1,g2,g3,g4,g5,_⟩:=I.xobj p hl
 exact kia_one (jcN c g2 g3 g4) I.kIn ⟨g1,g5⟩ (jjz c) (fun z=>(nomatch z)) fun tk=>⟨.bl true,H,I.tok tk,rfl,q⟩
inductive XMany (X:Cx)(mg:Str->Option Value):List Str->List Addr->Prop
 | nil:XMany X mg [] []
 | cons {x:Str} {fs:List Str} {C:Addr} {xs:List Str} {Cs:List Addr}:XCls X.K mg x fs C->x ≠ "PlanError" -> XMany X mg xs Cs->XMany X mg (x::xs) (C::Cs)
theorem jek (c:XCls X.K mg x fs C):∀ {xs:List Str} {Cs:List Addr},XMany X mg xs Cs->kitAny X.K (.ref C) (Cs.map .ref)=some (xs.contains x)
 | _,_,.nil=>rfl
 | _,_,.cons (x:=x') (C:=C') c' hp r=>by
  have h1:=jfl c c' hp
  have h2:=jek c r
  by_cases e:x=x'
  ·subst e
   simp only [List.map_cons,kitAny]
   rw [h1]
   simp
  ·simp only [List.map_cons,kitAny]
   rw [h1,h2]
   simp [e]
theorem jfK {xs:List Str}{Cs:List Addr}(c:XCls X.K mg x fs C)(cs:XMany X mg xs Cs)(p:XPin X ea C dx):jaM X (.builtin "isinstance") (fun as H Q=>∃ tp,as=[.ref ea,.ref tp]/\H tp=some (.tup (Cs.map .ref))/\(∃ l,H dx=some (.xd l))/\Q (.bl (xs.contains x)) H):=by
 intro pins s σ H as us Q I r h
 obtain ⟨tp,rfl,ht,⟨l,hl⟩,q⟩:=h
 obtain ⟨u,v,rfl,ru,rv⟩:=Vals.two r
 cases ru; cases rv
 obtain ⟨oe,vs,od,mA,g1,g2,g3,g4,g5,_⟩:=I.xobj p hl
 obtain ⟨z,us,ru,o,t1,t2,t3,t4,t5⟩:=(show jay X.prog X.w H s.heap tp (.tup (Cs.map .ref)) from I.hok tp _ ht)
 have hus:us=Cs.map .ref:=by
  clear ht t4 z t5 t1 t2
  generalize Cs=Ds at ru
  induction Ds generalizing us with
  | nil=>cases ru; rfl
  | cons a r ih=>
   cases ru with
   | cons h1 h2=>cases h1; rw [ih _ h2]; rfl
 subst hus
 have hk:=jek c cs
 obtain ⟨oc,od',dt,sl⟩:=o
 obtain rfl:oc=Value.type "tuple" := t2
 obtain rfl:dt=Data.seq (List.map Value.ref Cs).toArray t3:=t4
 exact kia_tup (jcN c g2 g3 g4) I.kIn ⟨g1,g5⟩ t1 hk (fun z=>(nomatch z)) fun tk=>⟨.bl _,H,I.tok tk,rfl,q⟩
theorem jdQ {v:V}{u:Value}(r:RelV v u):handedOut u=pure u:=by
 cases v with
 | non=>cases r; rfl
 | bl _=>cases r; rfl
 | int _=>obtain ⟨_,rfl⟩:=r; rfl
 | str _=>obtain ⟨_,rfl⟩:=r; rfl
 | byt _=>obtain ⟨_,rfl⟩:=r; rfl
 | flt _=>obtain ⟨_,rfl⟩:=r; rfl
 | ref _=>cases r; rfl
 | ty _=>cases r; rfl
theorem jhy {e:Expr}{f:Str}{pos:Pos}{te:TE}(c:XCls X.K mg x fs C)(p:XPin X ea C dx)(hf:f∈fldN)(he:PE X e te)(hb:attributeBase e f X.env (eval e X.env)=eval e X.env) :
  PE X (.Attribute e f pos) (fun σ H Q=>te σ H fun v H1=>v=.ref ea/\∃ l u,H1 dx=some (.xd l)/\l.lookup f=some u/\Q u H1):=by
 intro pins s σ H Q I h
 refine jik hb (thn (he pins s σ H _ I h) fun u s1 ⟨v,H1,I1,rv,ev,l,w,hl,hlk,q⟩=>?_)
 subst ev
 cases rv
 obtain ⟨oe,vs,od,mA,g1,g2,g3,g4,g5,g6,g7⟩:=I1.xobj p hl
 obtain ⟨N,D,mN,mD,T,off,hm⟩:=c.two I1.kIn
 obtain ⟨u',hu,ru⟩:=RelO.some_of (v:=w) (o:=mA f) (by rw [<- hlk]; exact g7 f)
 have o1:=off "__getattribute__" (by decide)
 have o2:=off "__getattr__" (by decide)
 have o3:=off f (jdS f hf)
 obtain ⟨hp,gg,d,t,os⟩:=s1
 exact T.get jaQ g1 g2 (fun cd z=>by rw [g4] at z; cases z) g3 g6 hu (jdQ ru) (jgT f hf) o1.1 o1.2 o2.1 o2.2 o3.1 o3.2 ⟨w,H1,I1.tok _,ru,q⟩
theorem je7 {k:Nat}{t:TA}{a0:Expr}{as:List Expr}{p cpos pos:Pos}(c:XCls X.K mg x fs C)(hfs:∀ f∈fs,f∈fldN)(hr:Room (k + 2) X.A)(hg:Gl X x)(hmg:X.mg x=some (.ref C))(ha:PA X (a0::as) t)
  (hdb:(x == ("__debug__" : Str))=false) (he:starEach (a0::as) X.env=(false,eval a0 X.env)::starEach as X.env) (hpl:(backTo cpos (starEach as X.env)).any (·.1)=false) :
  PS X (.Raise (some (.Call (.Name x p) (a0::as) [] cpos)) none pos) (jgB X C fs.length (fun vs=>fs.zip vs) t):=by
 intro pins s σ H D0 I h
 have hK:X.K.In X.base:=I.ok.mod.kin
 obtain ⟨D,N,fI,mN,mD,B,⟨q,bs,sn,sub,ab,col,dd,k0,k1,k2,k3,k5,lk⟩,hn,ho,hi,st,qual,fd,F0,⟨od,osl,lkI⟩,S,hb,hloc,hbody⟩:=c.ex
 obtain ⟨oc,od',kV,doc,pm,an,cdv,ct,osl',rfl,lkI',hcd⟩:=F0.ex
 have T:Two X.base C N D mN mD bmV "ValueError.__new__" := ⟨⟨_,_,_,_,_,_,_,_,_,_,_,_,_,hK _ _ lk⟩,hn _ hK,B.get hK⟩
 have set0:mN "__setattr__" = none/\mD "__setattr__" = none:=⟨ho _ (by decide),B.no _ (by decide)⟩
 have fd0:∀ f∈fs,mN f=none/\mD f=none/\typeLookup (.type "ValueError") f=pure none:=fun f hf=>⟨ho _ (jdS f (hfs f hf)),B.no _ (jdS f (hfs f hf)),jgT f (hfs f hf)⟩
 have nm:∀ f∈fldN,(f == ("__debug__" : Str))=false/\(f == ("__classdict__" : Str))=false:=by decide
 have go:∀ (vs:List V) (s:Shared) (H:Hp),vs.length=fs.length->jdv X C s H (("self" : Str)::fs) qual (defScope st) fI cdv (defBody st) vs (fs.zip vs):=by
  intro vs s H hl
  rcases hbody with ⟨f,p1,p2,p3,pos,rfl,hbd⟩ | ⟨f,f2,p1,p2,p3,pos,q1,q2,q3,qos,rfl,hne,hbd⟩
  ·rw [hbd]
   obtain ⟨v,rfl⟩:∃ v,vs=[v]:=by
    match vs,hl with
    | [v],_=>exact ⟨v,rfl⟩
   have a1:=fd0 f (by simp)
   have b1:=nm f (hfs f (by simp))
   exact jli T F.store_ValueError set0.1 set0.2 a1.1 a1.2.1 a1.2.2 (.inl (hloc _ (by simp))) (.inl (hloc _ (by simp))) (by decide) b1.1 (by decide) b1.2 (fun _=>rfl)
  ·rw [hbd]
   obtain ⟨v,v2,rfl⟩:∃ v v2,vs=[v,v2]:=by
    match vs,hl with
    | [v,v2],_=>exact ⟨v,v2,rfl⟩
   have a1:=fd0 f (by simp)
   have a2:=fd0 f2 (by simp)
   have b1:=nm f (hfs f (by simp))
   have b2:=nm f2 (hfs f2 (by simp))
   exact jlh T F.store_ValueError set0.1 set0.2 a1.1 a1.2.1 a1.2.2 a2.1 a2.2.1 a2.2.2 hne (.inl (hloc _ (by simp))) (.inl (hloc _ (by simp))) (.inl (hloc _ (by simp))) (by decide) b1.1 b2.1 (by decide) b1.2 b2.2 (fun _=>rfl) (fun _=>rfl)
 have hn8:fs.length<=8:=by
  rcases hbody with ⟨f,p1,p2,p3,pos,rfl,hbd⟩ | ⟨f,f2,p1,p2,p3,pos,q1,q2,q3,qos,rfl,hne,hbd⟩ <;> simp
 exact jf4 T F.excBase_ValueError B.ni hi lkI hcd S hr hb (by simp) hn8 (by decide) hg hmg c.kp ha go hdb he hpl pins s σ H D0 I h
theorem jeF {M:Model}{A:Around}{E:Value->Shared->Prop}{s:Shared}{Q:Bool->Shared->Prop}{oe:Obj}{D':Addr}{mD':Str->Option Value}(c:XCls X.K mg x fs C)(B':XBase X.K mg D' mD')(hK:X.K.In s.heap)(he:s.heap.get? ea=some oe)(hcls:oe.cls=.ref C)
  (hq:Q true s):wpAny M A (excMatches (.ref ea) (.ref D')) Q E s:=by
 obtain ⟨D,N,fI,mN,mD,B,⟨q,bs,sn,sub,ab,col,dd,k0,k1,k2,k3,k5,lk⟩,_⟩:=c.ex
 have e:D=D':=by have:=B.m.symm.trans B'.m; simpa using this
 subst e
 obtain ⟨q,ND,bs,hd,sn,sub,ab,col,dd,k0,k1,k2,k3,k5,nid,lk2,n⟩:=B.lk
 obtain ⟨h,g,d,t,os⟩:=s
 refine jdU (hK _ _ lk) (hK _ _ lk2) he hcls (by decide) ?_
 have e:(Value.ref C::.ref D::bmV).contains (.ref D)=true:=by simp
 rw [e]
 exact hq
end
end L2

namespace L2
open PySem PySem.Spec PyProof.Rows
section
variable {prog:Program}{w:World}{A:Around}{E:Value->Shared->Prop}{s:Shared}{d it:Addr}{o:Obj}{es:Array DictEntry}{ep i:Nat}
end
end L2

namespace Z
open PySem L2
set_option maxHeartbeats 4000000
inductive U where
 | non | bl (b:Bool) | int (i:Int) | str (x:Str) | tup (xs:List U) | loc (a:Addr) | fn (n:Nat) | ty (n:String)
 | exc (c:Nat) (fs:List U) | own (n:Nat) | clo (n:Nat) (cs:List U)
inductive MO where
 | lst (xs:List U) | fro (xs:List U) | dK (kvs:List (Key×U)) | dT (kvs:List (List Key×U)) | frd (o:Obj) (kvs:List (List Key×U))
noncomputable abbrev Gp:=Addr->Option MO
noncomputable def gup (G:Gp)(a:Addr)(o:MO):Gp:=fun b=>if b=a then some o else G b
structure New (G:Gp)(p:Addr)(o:MO)(G':Gp):Prop where
 no:G p=none
 eq:G'=gup G p o
structure Put (G:Gp)(a:Addr)(o:MO)(G':Gp):Prop where
 eq:G'=gup G a o
structure XV where
 c:Nat
 fs:List U
noncomputable abbrev Sg:=List (Option U)
noncomputable abbrev K1:=U->Gp->Prop
noncomputable abbrev KX:=XV->Gp->Prop
noncomputable def newO (G:Gp)(o:MO)(Q:K1):Prop:=∀ p G',New G p o G'->Q (.loc p) G'
noncomputable def putO (G:Gp)(a:Addr)(o:MO)(Q:Gp->Prop):Prop:=∀ G',Put G a o G'->Q G'
theorem newO.at {G:Gp}{o:MO}{Q:K1}(h:newO G o Q):∀ p,G p=none->Q (.loc p) (gup G p o):=fun p hp=>h p _ ⟨hp,rfl⟩
theorem putO.at {G:Gp}{a:Addr}{o:MO}{Q:Gp->Prop}(h:putO G a o Q):Q (gup G a o):=h _ ⟨rfl⟩
structure En where
 nx:Sg->Gp->Prop
 rt:K1
 ex:XV->Sg->Gp->Prop
noncomputable def lsG (G:Gp)(a:Addr):Option (List U):=match G a with
 | some (.lst xs)=>some xs
 | some (.fro xs)=>some xs
 | _=>none
noncomputable def kU:U->Option Key
 | .int i=>some (.inl i)
 | .str x=>some (.inr x)
 | _=>none
noncomputable def kUs:List U->Option (List Key)
 | []=>some []
 | u::r=>match kU u,kUs r with
  | some k,some ks=>some (k::ks)
  | _,_=>none
noncomputable def Ku:Key->U
 | .inl i=>.int i
 | .inr x=>.str x
section
variable {κ α:Type}[DecidableEq κ]
noncomputable def dGet (kvs:List (κ×α))(k:κ):Option α:=(kvs.find? fun kv=>decide (kv.1=k)).map (·.2)
noncomputable def dPut (kvs:List (κ×α))(k:κ)(v:α):List (κ×α):=
 if (kvs.any fun kv=>decide (kv.1=k))=true then kvs.map (fun kv=>if kv.1=k then (kv.1,v) else kv) else kvs++[(k,v)]
noncomputable def jb8 (more:List (κ×α)):List (κ×α):=more.foldl (fun acc kv=>dPut acc kv.1 kv.2) []
end
noncomputable def cut {α:Type}(xs:List α)(lo hi:Option Int):List α:=(xs.drop (HT.sIx xs.length 0 lo)).take (HT.sIx xs.length xs.length hi - HT.sIx xs.length 0 lo)
mutual
inductive DU (G:Gp):U->PyData->Prop
 | non:DU G .non .none
 | bl (b:Bool):DU G (.bl b) (.bool b)
 | int (i:Int):DU G (.int i) (.int i)
 | str (x:Str):DU G (.str x) (.str x)
 | tup {us:List U} {ds:List PyData}:DUs G us ds->DU G (.tup us) (.tuple ds)
 | lst {a:Addr} {us:List U} {ds:List PyData}:lsG G a=some us->DUs G us ds->DU G (.loc a) (.list ds)
 | dic {a:Addr}:G a=some (.dK [])->DU G (.loc a) (.dict [])
inductive DUs (G:Gp):List U->List PyData->Prop
 | nil:DUs G [] []
 | cons {u:U} {d:PyData} {us:List U} {ds:List PyData}:DU G u d->DUs G us ds->DUs G (u::us) (d::ds)
end
noncomputable def addU:U->U->Gp->K1->Prop
 | .int i,.int j,G,Q=>Q (.int (i + j)) G
 | .str x,.str y,G,Q=>x.length + y.length<=sizeLine/\Q (.str (x++y)) G
 | .tup xs,.tup ys,G,Q=>xs.length + ys.length<=sizeLine/\Q (.tup (xs++ys)) G
 | .loc a,.loc b,G,Q=>∃ xs ys,G a=some (.lst xs)/\G b=some (.lst ys)/\xs.length + ys.length<=sizeLine/\newO G (.lst (xs++ys)) Q
 | .bl b,.int j,G,Q=>Q (.int ((if b=true then (1:Int) else 0) + j)) G
 | _,_,_,_=>False
noncomputable def subU:U->U->Gp->K1->Prop
 | .int i,.int j,G,Q=>Q (.int (i - j)) G
 | .bl b,.int j,G,Q=>Q (.int ((if b=true then (1:Int) else 0) - j)) G
 | .int i,.bl b,G,Q=>Q (.int (i - if b=true then (1:Int) else 0)) G
 | _,_,_,_=>False
noncomputable def mulU:U->U->Gp->K1->Prop
 | .int i,.int j,G,Q=>CMul i j/\Q (.int (i * j)) G
 | .loc a,.int k,G,Q=>∃ xs,G a=some (.lst xs)/\-(2 ^ 63)<=k/\k < 2 ^ 63/\xs.length * k.toNat<=sizeLine/\newO G (.lst (List.replicate k.toNat xs).flatten) Q
 | .tup xs,.int k,G,Q=>xs≠[]/\1<=k/\k < 2 ^ 62/\xs.length * k.toNat<=sizeLine/\Q (.tup (List.replicate k.toNat xs).flatten) G
 | _,_,_,_=>False
noncomputable def jif:U->U->Gp->K1->Prop
 | .int i,.int j,G,Q=>0 < j/\j < 1073741824/\Q (.int (i / j)) G
 | _,_,_,_=>False
noncomputable def modU:U->U->Gp->K1->Prop
 | .int i,.int j,G,Q=>0 < j/\Q (.int (i % j)) G
 | _,_,_,_=>False
noncomputable def powU:U->U->Gp->K1->Prop
 | .int i,.int j,G,Q=>CPow i j/\Q (.int (i ^ j.toNat)) G
 | _,_,_,_=>False
noncomputable def binU:Operator->U->U->Gp->K1->Prop
 | .Add=>addU
 | .Sub=>subU
 | .Mult=>mulU
 | .FloorDiv=>jif
 | .Mod=>modU
 | .Pow=>powU
 | _=>fun _ _ _ _=>False
noncomputable def jdP:Operator->U->U->Gp->K1->Prop
 | .Add,.int i,.int j,G,Q=>Q (.int (i + j)) G
 | _,_,_,_,_=>False
noncomputable def negU:U->Gp->K1->Prop
 | .int i,G,Q=>Q (.int (-i)) G
 | _,_,_=>False
noncomputable def Small (d:PyData):Prop:=d.canLay0=true/\d.depth<=100
noncomputable def eqU:U->U->Gp->(Bool->Prop)->Prop
 | .non,.non,_,k=>k true
 | .non,.bl _,_,k=>k false
 | .non,.int _,_,k=>k false
 | .non,.str _,_,k=>k false
 | .bl _,.non,_,k=>k false
 | .bl a,.bl b,_,k=>k (decide (a=b))
 | .bl _,.str _,_,k=>k false
 | .int _,.non,_,k=>k false
 | .int i,.int j,_,k=>k (decide (i=j))
 | .int _,.str _,_,k=>k false
 | .str _,.non,_,k=>k false
 | .str _,.bl _,_,k=>k false
 | .str _,.int _,_,k=>k false
 | .str x,.str y,_,k=>k (decide (x=y))
 | x,y,G,k=>∃ d e,DU G x d/\DU G y e/\Small d/\Small e/\k (PyData.eqv d e)
noncomputable def eqQ:U->U->Gp->(Bool->Prop)->Prop
 | .loc a,.str y,G,k=>(∃ kvs,G a=some (.dK kvs)/\k false)\/(∃ xs,G a=some (.lst xs)/\k false)\/eqU (.loc a) (.str y) G k
 | .tup xs,.tup [],_,k=>k xs.isEmpty
 | .tup _,.str _,_,k=>k false
 | x,y,G,k=>eqU x y G k
noncomputable def flat:U->Bool
 | .non | .bl _ | .int _ | .str _=>true
 | _=>false
noncomputable def eqF:U->U->Bool
 | .non,.non=>true
 | .bl a,.bl b=>a == b
 | .bl a,.int b=>(if a then 1 else 0) == b
 | .int a,.bl b=>a == (if b then 1 else 0)
 | .int a,.int b=>a == b
 | .str a,.str b=>a == b
 | _,_=>false
noncomputable def inU:U->U->Gp->(Bool->Prop)->Prop
 | x,.tup ys,_,k=>flat x=true/\ys.all flat=true/\k (ys.any fun y=>eqF y x)
 | x,.loc a,G,k=>match G a with
  | some (.lst ys)=>flat x=true/\ys.all flat=true/\k (ys.any fun y=>eqF y x)
  | _=>False
 | _,_,_,_=>False
noncomputable def ordU:CmpOp->U->U->(Bool->Prop)->Prop
 | .Lt,.int i,.int j,k=>k (decide (i < j))
 | _,_,_,_=>False
noncomputable def cmpU:CmpOp->U->U->Gp->(Bool->Prop)->Prop
 | .Eq,x,y,G,k=>eqQ x y G k
 | .NotEq,x,y,G,k=>eqU x y G fun b=>k (!b)
 | .Is,_,_,_,_=>False
 | .IsNot,_,_,_,_=>False
 | .In,_,_,_,_=>False
 | .NotIn,x,y,G,k=>inU x y G fun b=>k (!b)
 | o,x,y,_,k=>ordU o x y k
noncomputable def truU:U->Gp->(Bool->Prop)->Prop
 | .non,_,k=>k false
 | .bl b,_,k=>k b
 | .int i,_,k=>k (i != 0)
 | .str x,_,k=>x.length<=sizeLine/\k ((x.length:Int) != 0)
 | .tup xs,_,k=>k (!xs.isEmpty)
 | .loc a,G,k=>match G a with
  | some (.lst xs)=>k (!xs.isEmpty)
  | some (.fro xs)=>k (!xs.isEmpty)
  | some (.dK kvs)=>k (!kvs.isEmpty)
  | _=>False
 | _,_,_=>False
noncomputable def ixU:U->U->Gp->K1->Prop
 | .tup xs,.int i,G,Q=>match atI xs i with
  | some u=>Q u G
  | none=>False
 | .str x,.int i,G,Q=>x.length<=sizeLine/\match atI x.cps.toList i with
  | some c=>Q (.str ⟨#[c]⟩) G
  | none=>False
 | .loc a,y,G,Q=>match G a with
  | some (.lst xs)=>(match y with | .int i=>(match atI xs i with | some u=>Q u G | none=>False) | _=>False)
  | some (.fro xs)=>(match y with | .int i=>(match atI xs i with | some u=>Q u G | none=>False) | _=>False)
  | some (.dK kvs)=>(match kU y with | some k=>(match dGet kvs k with | some u=>Q u G | none=>False) | none=>False)
  | some (.dT kvs)=>(match y with | .tup ys=>(match kUs ys with | some k=>(match dGet kvs k with | some u=>Q u G | none=>False) | none=>False) | _=>False)
  | _=>False
 | _,_,_,_=>False
noncomputable def slU:U->Option Int->Option Int->Gp->K1->Prop
 | .tup xs,lo,hi,G,Q=>Q (.tup (cut xs lo hi)) G
 | .str x,lo,hi,G,Q=>x.length<=sizeLine/\Q (.str (Txt.slice x lo hi)) G
 | .loc a,lo,hi,G,Q=>match lsG G a with
  | some xs=>newO G (.lst (cut xs lo hi)) Q
  | none=>False
 | _,_,_,_,_=>False
noncomputable def revU:U->U->Gp->K1->Prop
 | .tup xs,.int i,G,Q=>i=-1/\Q (.tup xs.reverse) G
 | _,_,_,_=>False
noncomputable def jlg:U->U->Gp->K1->Prop
 | .loc a,.int i,G,Q=>(match G a with
  | some (.lst xs)=>0<=i/\(match xs[i.toNat]? with | some u=>Q u G | none=>False)
  | _=>False)
 | _,_,_,_=>False
noncomputable def setU:U->U->U->Gp->(Gp->Prop)->Prop
 | .loc a,y,v,G,Q=>match G a with
  | some (.lst xs)=>(match y with | .int i=>(match ixN xs.length i with | some j=>putO G a (.lst (xs.set j v)) Q | none=>False) | _=>False)
  | some (.dK kvs)=>(match kU y with | some k=>kvs.length < sizeLine/\putO G a (.dK (dPut kvs k v)) Q | none=>False)
  | some (.dT kvs)=>(match y with | .tup ys=>(match kUs ys with | some k=>kvs.length < sizeLine/\putO G a (.dT (dPut kvs k v)) Q | none=>False) | _=>False)
  | _=>False
 | _,_,_,_,_=>False
inductive Blt | len | repr | min | max | sum | all | any | sorted | int | str | isi
 deriving DecidableEq
inductive Mth | append | extend | insert | pop | reverse | index | join | get
 deriving DecidableEq
noncomputable def jcg:List U->Option (List Int)
 | []=>some []
 | .int i::r=>(match jcg r with | some l=>some (i::l) | none=>none)
 | _=>none
noncomputable def jdC:List U->Option (List Str)
 | []=>some []
 | .str x::r=>(match jdC r with | some l=>some (x::l) | none=>none)
 | _=>none
noncomputable def jcb:List U->Option (List Bool)
 | []=>some []
 | .bl x::r=>(match jcb r with | some l=>some (x::l) | none=>none)
 | _=>none
noncomputable def lenU:List U->Gp->K1->Prop
 | [.tup xs],G,Q=>Q (.int xs.length) G
 | [.str x],G,Q=>x.length<=sizeLine/\Q (.int x.length) G
 | [.loc a],G,Q=>(match G a with
  | some (.lst xs)=>Q (.int xs.length) G
  | some (.fro xs)=>Q (.int xs.length) G
  | some (.dK kvs)=>Q (.int kvs.length) G
  | _=>False)
 | _,_,_=>False
noncomputable def jcE:List U->Gp->K1->Prop
 | [u],G,Q=>∃ d,DU G u d/\Fits 16000000 60 d/\Q (.str d.shown) G
 | _,_,_=>False
noncomputable def minU:List U->Gp->K1->Prop
 | [.int i,.int j],G,Q=>Q (.int (if j < i then j else i)) G
 | _,_,_=>False
noncomputable def jjv (xs:List U)(G:Gp)(Q:K1):Prop:=match jcg xs with
 | some ns=>ns≠[]/\∀ z∈ns,(∀ y∈ns,y<=z)->Q (.int z) G
 | none=>False
noncomputable def maxU:List U->Gp->K1->Prop
 | [.int i,.int j],G,Q=>Q (.int (if j > i then j else i)) G
 | [.loc a],G,Q=>(match G a with
  | some (.lst xs)=>jjv xs G Q
  | _=>False)
 | [.tup xs],G,Q=>jjv xs G Q
 | _,_,_=>False
noncomputable def sumU:List U->Gp->K1->Prop
 | [.loc a],G,Q=>(match G a with
  | some (.lst xs)=>(match jcg xs with | some ns=>Q (.int ns.sum) G | none=>False)
  | _=>False)
 | _,_,_=>False
noncomputable def anyU:List U->Gp->K1->Prop
 | [.loc a],G,Q=>(match G a with
  | some (.lst xs)=>(match jcb xs with | some bs=>Q (.bl (bs.any id)) G | none=>False)
  | _=>False)
 | _,_,_=>False
noncomputable def intU:List U->Gp->K1->Prop
 | [.int i],G,Q=>Q (.int i) G
 | [.bl b],G,Q=>Q (.int (if b then 1 else 0)) G
 | _,_,_=>False
noncomputable def mkDU:U->Gp->K1->Prop
 | .loc a,G,Q=>(match G a with
  | some (.dK kvs)=>∃ ns:List Int,kvs.map (·.1)=ns.map (fun z=>(Sum.inl z:Key))/\newO G (.lst (ns.map .int)) Q
  | _=>False)
 | _,_,_=>False
noncomputable def jlb:U->Gp->K1->Prop
 | .loc a,G,Q=>(match G a with
  | some (.lst us)=>∃ ks:List (List Int),(us=ks.map (fun k=>U.tup (k.map .int))\/∃ ns:List Int,us=ns.map .int/\ks=ns.map fun n=>[n])/\(us=[]->Q .non G)/\∀ u,us[jjZ ks]?=some u->Q u G
  | _=>False)
 | _,_,_=>False
noncomputable def jlc:U->Gp->K1->Prop
 | .loc a,G,Q=>(match G a with
  | some (.lst us)=>∃ ns:List Int,us=ns.map .int/\(ns=[]->Q (.int 0) G)/\∀ z∈ns,(∀ y∈ns,y<=z)->Q (.int z) G
  | _=>False)
 | _,_,_=>False
noncomputable def bltU:Blt->List U->Gp->K1->Prop
 | .len=>lenU
 | .repr=>jcE
 | .min=>minU
 | .max=>fun _ _ _=>False
 | .sum=>sumU
 | .all=>fun _ _ _=>False
 | .any=>anyU
 | .sorted=>fun _ _ _=>False
 | .int=>intU
 | .str=>fun _ _ _=>False
 | .isi=>fun _ _ _=>False
noncomputable def jd0:U->List U->Gp->K1->Prop
 | .loc a,[v],G,Q=>(match G a with
  | some (.lst xs)=>xs.length < sizeLine/\putO G a (.lst (xs++[v])) (Q .non)
  | _=>False)
 | _,_,_,_=>False
noncomputable def jhY:U->List U->Gp->K1->Prop
 | .str z,[.loc a],G,Q=>(match G a with
  | some (.lst xs)=>(match jdC xs with | some ys=>z.length<=16/\(ys.map (·.length)).sum + ys.length<=1048576/\Q (.str (Str.join z ys)) G | none=>False)
  | _=>False)
 | _,_,_,_=>False
noncomputable def jbk:Mth->U->List U->Gp->K1->Prop
 | .append=>jd0
 | .extend=>fun _ _ _ _=>False
 | .insert=>fun _ _ _ _=>False
 | .pop=>fun _ _ _ _=>False
 | .reverse=>fun _ _ _ _=>False
 | .index=>fun _ _ _ _=>False
 | .join=>jhY
 | .get=>fun _ _ _ _=>False
noncomputable def mtU:Mth->U->Gp->Option (String×String)
 | .append,x,G=>(match x with | .loc a=>(match G a with | some (.lst _)=>some ("list", "list.append") | _=>none) | _=>none)
 | .extend,_,_=>none
 | .insert,_,_=>none
 | .pop,_,_=>none
 | .reverse,_,_=>none
 | .index,_,_=>none
 | .join,x,_=>(match x with | .str _=>some ("str", "str.join") | _=>none)
 | .get,_,_=>none
noncomputable def clsA:List (Str×List Str):=[("PlanError",[]),("NoPaper",["word", "at"]),("TooMany",["word"]),("NoRing",["word"]),("NoText",["row", "word"]),("NoRow",["row"])]
noncomputable def clsN (c:Nat):Str:=(clsA.getD c ("",[])).1
noncomputable def clsF (c:Nat):List Str:=(clsA.getD c ("",[])).2
inductive HL where
 | is1 (c:Nat) | isi (cs:List Nat) | isiV | v (i:Nat)
inductive HA where
 | str (x:Str) | att (f:Str)
inductive HV where
 | cond (k:Bool) (a:Bool×HL) (as:List (Bool×HL)) | one (a:HA) | bl (b:Bool) | tup (as:List HA) | lst (as:List HA)
inductive HS where
 | asg (i:Nat) (e:HV) | ifa (k:Bool) (a:Bool×HL) (as:List (Bool×HL)) (i:Nat) (e:HV)
section
variable (x:XV)
noncomputable def litH (ς:Sg):HL->Option Bool
 | .is1 c=>some (decide (x.c=c))
 | .isi cs=>some (cs.contains x.c)
 | .isiV=>some true
 | .v i=>match ς[i]? with
  | some (some (.bl b))=>some b
  | _=>none
noncomputable def lit1 (ς:Sg)(p:Bool×HL):Option Bool:=match litH x ς p.2 with
 | some b=>some (if p.1=true then !b else b)
 | none=>none
noncomputable def jaL (ς:Sg)(k:Bool):Bool×HL->List (Bool×HL)->Option Bool
 | a,[]=>lit1 x ς a
 | a,b::r=>match lit1 x ς a with
  | some t=>if t=k then jaL ς k b r else some t
  | none=>none
noncomputable def atH:HA->Option U
 | .str y=>some (.str y)
 | .att f=>((clsF x.c).zip x.fs).lookup f
noncomputable def atsH:List HA->Option (List U)
 | []=>some []
 | a::r=>match atH x a,atsH r with
  | some u,some us=>some (u::us)
  | _,_=>none
noncomputable def hvH (ς:Sg):HV->Gp->K1->Prop
 | .cond k a as,G,Q=>match jaL x ς k a as with
  | some b=>Q (.bl b) G
  | none=>False
 | .one a,G,Q=>match atH x a with
  | some u=>Q u G
  | none=>False
 | .bl b,G,Q=>Q (.bl b) G
 | .tup as,G,Q=>match atsH x as with
  | some us=>Q (.tup us) G
  | none=>False
 | .lst as,G,Q=>match atsH x as with
  | some us=>newO G (.lst us) Q
  | none=>False
noncomputable def hsH:List HS->Sg->Gp->(Sg->Gp->Prop)->Prop
 | [],ς,G,k=>k ς G
 | .asg i e::r,ς,G,k=>hvH x ς e G fun u G1=>hsH r (ς.set i (some u)) G1 k
 | .ifa q a as i e::r,ς,G,k=>match jaL x ς q a as with
  | some true=>hvH x ς e G fun u G1=>hsH r (ς.set i (some u)) G1 k
  | some false=>hsH r ς G k
  | none=>False
end
mutual
inductive E where
 | v (i:Nat) | non | bl (b:Bool) | int (i:Int) | str (x:Str) | g (n:Nat)
 | bin (o:Operator) (a b:E) | neg (a:E) | not (a:E) | bop (k:Bool) (a:E) (es:Es)
 | cmp (o:CmpOp) (a b:E) | cmp2 (o p:CmpOp) (a b c:E) | ife (c a b:E)
 | tup (es:Es) | lst (es:Es) | dic (es:Es) | dicT
 | ix (a b:E) | sl (a:E) (lo hi:Eo) | rev (a st:E)
 | call (n:Nat) (es:Es) | app (i:Nat) (es:Es) | blt (b:Blt) (es:Es) | meth (m:Mth) (o:E) (es:Es)
 | ty (n:String)
 | lc (pick:List (Option Nat)) (t:Tg) (it:It) (ifs:Es) (e:E) | lc2 (pick:List (Option Nat)) (t:Tg) (it:It) (ifs:Es) (t2:Tg) (it2:It) (ifs2:Es) (e:E) | mkL (e:E) | mkT (e:E) | rngL (a:E) | rngT (a:E) | rngL2 (a b:E) | minD (e:E) | maxD (e:E) | mkD (e:E)
inductive Eo where
 | no | so (e:E)
inductive Es where
 | nil | cons (e:E) (es:Es)
inductive Tg where
 | n (i:Nat) | t (ts:Tgs)
inductive Tgs where
 | nil | cons (t:Tg) (ts:Tgs)
inductive It where
 | e (e:E) | r1 (e:E) | r2 (a b:E) | enum (e:E) | dk (e:E)
end
mutual
inductive S where
 | pass | expr (e:E) | asg (t:Tg) (e:E) | asgC (i:Nat) (e:E) | setS (o i e:E) | par (is:List Nat) (es:Es) | aug (i:Nat) (o:Operator) (e:E) | augS (o i:E) (p:Operator) (e:E)
 | ite (c:E) (a b:Ss) | fr (t:Tg) (it:It) (b:Ss) | wh (c:E) (b:Ss) | ret (e:E) | retN
 | never | raise (c:Nat) (es:Es) | tr (b:Ss) (c:Nat) (n:Nat) (h:List HS)
inductive Ss where
 | nil | cons (s:S) (ss:Ss)
end
mutual
noncomputable def tgU:Tg->U->Sg->(Sg->Prop)->Prop
 | .n i,u,ς,k=>k (ς.set i (some u))
 | .t ts,u,ς,k=>match u with
  | .tup us=>tgsU ts us ς k
  | _=>False
noncomputable def tgsU:Tgs->List U->Sg->(Sg->Prop)->Prop
 | .nil,us,ς,k=>us=[]/\k ς
 | .cons t ts,us,ς,k=>match us with
  | []=>False
  | u::r=>tgU t u ς fun ς'=>tgsU ts r ς' k
end
noncomputable abbrev Cl:=Nat->List U->Gp->K1->KX->Prop
noncomputable def slot (ς:Sg)(i:Nat)(k:U->Prop):Prop:=match ς[i]? with
 | some (some u)=>k u
 | _=>False
noncomputable def ja9 (pick:List (Option Nat))(ς:Sg):Sg:=pick.map fun o=>o.bind fun j=>(ς[j]?).join
noncomputable def jca (ok:Gp->Prop)(b:U->Gp->(Option U->Gp->Prop)->Prop):List U->List U->Gp->(List U->Gp->Prop)->Prop
 | [],acc,G,k=>ok G/\k acc G
 | x::xs,acc,G,k=>ok G/\b x G fun o G'=>jca ok b xs (match o with | some u=>acc++[u] | none=>acc) G' k
noncomputable def jij (ok:Gp->Prop)(b:U->List U->Gp->(List U->Gp->Prop)->Prop):List U->List U->Gp->(List U->Gp->Prop)->Prop
 | [],acc,G,k=>ok G/\k acc G
 | x::xs,acc,G,k=>ok G/\b x acc G fun acc' G'=>jij ok b xs acc' G' k
noncomputable def forL (ok:Gp->Prop)(b:U->Sg->Gp->(Sg->Gp->Prop)->Prop):List U->Sg->Gp->(Sg->Gp->Prop)->Prop
 | [],ς,G,k=>ok G/\k ς G
 | x::xs,ς,G,k=>ok G/\b x ς G fun ς' G'=>forL ok b xs ς' G' k
noncomputable def rngU (i:Int)(n:Nat):List U:=(List.range n).map fun k:Nat=>.int (i + k)
noncomputable def jjU:Nat->List U->List U
 | _,[]=>[]
 | n,u::r=>.tup [.int n,u]::jjU (n + 1) r
noncomputable def itU:U->Gp->(List U->(Gp->Prop)->Prop)->Prop
 | .tup xs,_,k=>k xs fun _=>True
 | .loc a,G,k=>match lsG G a with
  | some xs=>k xs fun G'=>lsG G' a=some xs
  | none=>False
 | _,_,_=>False
noncomputable def jio:U->Gp->(List U->(Gp->Prop)->Gp->Prop)->Prop
 | .loc a,G,Q=>match G a with
  | some (.dT kvs)=>∀ o G',Put G a (.frd o kvs) G'->Q (kvs.map fun p=>.tup (p.1.map Ku)) (fun G'=>G' a=some (.frd o kvs)) G'
  | _=>False
 | _,_,_=>False
noncomputable def glU (gs:List U)(n:Nat)(k:U->Prop):Prop:=match gs[n]? with
 | some u=>k u
 | none=>False
noncomputable abbrev UE:=Sg->Gp->K1->KX->Prop
noncomputable abbrev UT:=Sg->Gp->(Bool->Gp->Prop)->KX->Prop
noncomputable abbrev UA:=Sg->Gp->(List U->Gp->Prop)->KX->Prop
noncomputable def truT (t:UE):UT:=fun ς G Q X=>t ς G (fun x G1=>truU x G1 fun b=>Q b G1) X
noncomputable abbrev tp (t:UE):UE×UT:=(t,truT t)
noncomputable def comb:Bool->UE×UT->UE×UT->UE×UT
 | true,p,q=>(fun ς G Q X=>p.1 ς G (fun x G1=>truU x G1 fun c=>if c=true then q.1 ς G1 Q X else Q x G1) X,fun ς G Q X=>p.2 ς G (fun c G1=>if c=true then q.2 ς G1 Q X else Q false G1) X)
 | false,p,q=>(fun ς G Q X=>p.1 ς G (fun x G1=>truU x G1 fun c=>if c=true then Q x G1 else q.1 ς G1 Q X) X,fun ς G Q X=>p.2 ς G (fun c G1=>if c=true then Q true G1 else q.2 ς G1 Q X) X)
section
variable (gs:List U)(Δ:Cl)
mutual
noncomputable def den : E -> UE × UT
  | .v i => tp fun ς G Q _ => slot ς i fun u => Q u G
  | .non => tp fun _ G Q _ => Q .non G
  | .bl b => tp fun _ G Q _ => Q (.bl b) G
  | .int i => tp fun _ G Q _ => Q (.int i) G
  | .str x => tp fun _ G Q _ => Q (.str x) G
  | .g n => tp fun _ G Q _ => glU gs n fun u => Q u G
  | .bin o a b => tp fun ς G Q X => (den a).1 ς G (fun x G1 => (den b).1 ς G1 (fun y G2 => binU o x y G2 Q) X) X
  | .neg a => tp fun ς G Q X => (den a).1 ς G (fun x G1 => negU x G1 Q) X
  | .not a => (fun ς G Q X => (den a).1 ς G (fun x G1 => truU x G1 fun b => Q (.bl (!b)) G1) X,
      fun ς G Q X => (den a).2 ς G (fun b G1 => Q (!b) G1) X)
  | .bop k a es => denB k (den a) es
  | .cmp o a b => tp fun ς G Q X => (den a).1 ς G (fun x G1 => (den b).1 ς G1 (fun y G2 => cmpU o x y G2 fun c => Q (.bl c) G2) X) X
  | .cmp2 o p a b c => tp fun ς G Q X => (den a).1 ς G (fun x G1 => (den b).1 ς G1 (fun y G2 => cmpU o x y G2 fun t => if t = true then (den c).1 ς G2 (fun z G3 => cmpU p y z G3 fun t' => Q (.bl t') G3) X else Q (.bl false) G2) X) X
  | .ife c a b => (fun ς G Q X => (den c).2 ς G (fun t G1 => if t = true then (den a).1 ς G1 Q X else (den b).1 ς G1 Q X) X,
      fun ς G Q X => (den c).2 ς G (fun t G1 => if t = true then (den a).2 ς G1 Q X else (den b).2 ς G1 Q X) X)
  | .tup es => tp fun ς G Q X => jaG es ς G (fun us G1 => us.length <= sizeLine /\ Q (.tup us) G1) X
  | .lst es => tp fun ς G Q X => jaG es ς G (fun us G1 => us.length <= sizeLine /\ newO G1 (.lst us) Q) X
  | .dic es => tp fun ς G Q X => denD es ς G (fun kvs G1 => kvs.length <= 15 /\ newO G1 (.dK (jb8 kvs)) Q) X
  | .dicT => tp fun _ G Q _ => newO G (.dT []) Q
  | .ix a b => tp fun ς G Q X => (den a).1 ς G (fun x G1 => (den b).1 ς G1 (fun y G2 => ixU x y G2 Q) X) X
  | .sl a lo hi => tp fun ς G Q X => (den a).1 ς G (fun x G1 => denO lo ς G1 (fun l G2 => denO hi ς G2 (fun h G3 => slU x l h G3 Q) X) X) X
  | .rev a b => tp fun ς G Q X => (den a).1 ς G (fun x G1 => (den b).1 ς G1 (fun y G2 => revU x y G2 Q) X) X
  | .call n es => tp fun ς G Q X => jaG es ς G (fun us G1 => Δ n us G1 Q X) X
  | .app _ _ => tp fun _ _ _ _ => False
  | .blt b es => tp fun ς G Q X => jaG es ς G (fun us G1 => bltU b us G1 Q) X
  | .meth m o es => tp fun ς G Q X => (den o).1 ς G (fun x G1 => match mtU m x G1 with
      | some _ => jaG es ς G1 (fun us G2 => jbk m x us G2 Q) X
      | none => False) X
  | .ty n => tp fun _ G Q _ => Q (.ty n) G
  | .lc pick t it ifs e => tp fun ς G Q X => denI it ς G (fun xs ok G1 => xs.length <= sizeLine /\ jca ok (fun x G2 k => tgU t x (ja9 pick ς) fun τ => denC ifs τ G2 (fun b G3 => if b = true then (den e).1 τ G3 (fun u G4 => k (some u) G4) (fun _ _ => False) else k none G3)) xs [] G1
      fun us G5 => newO G5 (.lst us) Q) X
  | .lc2 pick t it ifs t2 it2 ifs2 e => tp fun ς G Q X => denI it ς G (fun xs ok G1 => jij ok (fun x acc G2 k => tgU t x (ja9 pick ς) fun τ => denC ifs τ G2 (fun b G3 => if b = true then denI it2 τ G3 (fun ys ok2 G4 => acc.length + ys.length <= sizeLine /\ jca ok2 (fun y G5 k5 => tgU t2 y τ fun τ' => denC ifs2 τ' G5 (fun b2 G6 => if b2 = true then (den e).1 τ' G6 (fun u G7 => k5 (some u) G7) (fun _ _ => False) else k5 none G6)) ys acc G4 k) (fun _ _ => False) else k acc G3)) xs [] G1
      fun us G5 => newO G5 (.lst us) Q) X
  | .mkD e => tp fun ς G Q X => (den e).1 ς G (fun x G1 => mkDU x G1 Q) X
  | .maxD e => tp fun ς G Q X => (den e).1 ς G (fun x G1 => jlc x G1 Q) X
  | .minD e => tp fun ς G Q X => (den e).1 ς G (fun x G1 => jlb x G1 Q) X
  | .mkL e => tp fun ς G Q X => (den e).1 ς G (fun x G1 => itU x G1 fun xs _ => newO G1 (.lst xs) Q) X
  | .mkT e => tp fun ς G Q X => (den e).1 ς G (fun x G1 => itU x G1 fun xs _ => Q (.tup xs) G1) X
  | .rngL e => tp fun ς G Q X => (den e).1 ς G (fun x G1 => match x with
      | .int j => 0 <= j /\ j <= 1000000 /\ newO G1 (.lst (rngU 0 j.toNat)) Q
      | _ => False) X
  | .rngT e => tp fun ς G Q X => (den e).1 ς G (fun x G1 => match x with
      | .int j => 0 <= j /\ j <= 1000000 /\ Q (.tup (rngU 0 j.toNat)) G1
      | _ => False) X
  | .rngL2 a b => tp fun ς G Q X => (den a).1 ς G (fun x G1 => (den b).1 ς G1 (fun y G2 => match x, y with
      | .int i, .int j => 0 <= i /\ i <= j /\ j <= 1000000000 /\ j - i <= 1000000 /\ newO G2 (.lst (rngU i (j - i).toNat)) Q
      | _, _ => False) X) X
noncomputable def denB (k : Bool)(p : UE × UT) : Es -> UE × UT
  | .nil => p
  | .cons e es => comb k p (denB k (den e) es)
noncomputable def denC : Es -> Sg -> Gp -> (Bool -> Gp -> Prop) -> Prop
  | .nil, _, G, Q => Q true G
  | .cons e es, ς, G, Q => (den e).2 ς G (fun b G1 => if b = true then denC es ς G1 Q else Q false G1) (fun _ _ => False)
noncomputable def denO : Eo -> Sg -> Gp -> (Option Int -> Gp -> Prop) -> KX -> Prop
  | .no, _, G, Q, _ => Q none G
  | .so e, ς, G, Q, X => (den e).1 ς G (fun x G1 => match x with | .int i => Q (some i) G1 | _ => False) X
noncomputable def jaG : Es -> Sg -> Gp -> (List U -> Gp -> Prop) -> KX -> Prop
  | .nil, _, G, Q, _ => Q [] G
  | .cons e es, ς, G, Q, X => (den e).1 ς G (fun x G1 => jaG es ς G1 (fun xs G2 => Q (x :: xs) G2) X) X
noncomputable def denD : Es -> Sg -> Gp -> (List (Key × U) -> Gp -> Prop) -> KX -> Prop
  | .nil, _, G, Q, _ => Q [] G
  | .cons e (.cons f es), ς, G, Q, X => (den e).1 ς G (fun x G1 => (den f).1 ς G1 (fun y G2 => match kU x with
      | some k => denD es ς G2 (fun kvs G3 => Q ((k, y) :: kvs) G3) X
      | none => False) X) X
  | .cons _ .nil, _, _, _, _ => False
noncomputable def denI : It -> Sg -> Gp -> (List U -> (Gp -> Prop) -> Gp -> Prop) -> KX -> Prop
  | .e e, ς, G, Q, X => (den e).1 ς G (fun x G1 => itU x G1 fun xs ok => Q xs ok G1) X
  | .r1 e, ς, G, Q, X => (den e).1 ς G (fun x G1 => match x with
      | .int j => -(2 ^ 62) <= j /\ j < 2 ^ 62 /\ Q (rngU 0 j.toNat) (fun _ => True) G1
      | _ => False) X
  | .r2 a b, ς, G, Q, X => (den a).1 ς G (fun x G1 => (den b).1 ς G1 (fun y G2 => match x, y with
      | .int i, .int j => -(2 ^ 62) <= i /\ i < 2 ^ 62 /\ -(2 ^ 62) <= j /\ j < 2 ^ 62 /\ Q (rngU i (j - i).toNat) (fun _ => True) G2
      | _, _ => False) X) X
  | .enum e, ς, G, Q, X => (den e).1 ς G (fun x G1 => match x with
      | .tup xs => Q (jjU 0 xs) (fun _ => True) G1
      | _ => False) X
  | .dk e, ς, G, Q, X => (den e).1 ς G (fun x G1 => jio x G1 Q) X
end
noncomputable def denE (e:E):UE:=(den gs Δ e).1
noncomputable def denT (e:E):UT:=(den gs Δ e).2
mutual
noncomputable def denS : S -> En -> Sg -> Gp -> Prop
  | .pass, D, ς, G => D.nx ς G
  | .expr e, D, ς, G => denE gs Δ e ς G (fun _ G1 => D.nx ς G1) fun x G1 => D.ex x ς G1
  | .asg t e, D, ς, G => denE gs Δ e ς G (fun u G1 => tgU t u ς fun ς' => D.nx ς' G1) fun x G1 => D.ex x ς G1
  | .asgC i e, D, ς, G => denE gs Δ e ς G (fun u G1 => D.nx (ς.set i (some u)) G1) fun x G1 => D.ex x ς G1
  | .setS o i e, D, ς, G => denE gs Δ e ς G (fun v G1 => denE gs Δ o ς G1 (fun x G2 => denE gs Δ i ς G2 (fun y G3 => setU x y v G3 fun G4 => D.nx ς G4) fun x G1 => D.ex x ς G1) fun x G1 => D.ex x ς G1) fun x G1 => D.ex x ς G1
  | .par is es, D, ς, G => jaG gs Δ es ς G (fun us G1 => us.length = is.length /\ D.nx ((is.zip us).foldl (fun s p => s.set p.1 (some p.2)) ς) G1) fun x G1 => D.ex x ς G1
  | .aug i o e, D, ς, G => slot ς i fun x => denE gs Δ e ς G (fun y G1 => jdP o x y G1 fun z G2 => D.nx (ς.set i (some z)) G2) fun x G1 => D.ex x ς G1
  | .augS o i p e, D, ς, G => denE gs Δ o ς G (fun x G1 => denE gs Δ i ς G1 (fun y G2 => jlg x y G2 fun a G3 => denE gs Δ e ς G3 (fun b G4 => jdP p a b G4 fun z G5 => setU x y z G5 fun G6 => D.nx ς G6) fun x G1 => D.ex x ς G1) fun x G1 => D.ex x ς G1) fun x G1 => D.ex x ς G1
  | .ite c a b, D, ς, G => denT gs Δ c ς G (fun t G1 => if t = true then jax a D ς G1 else jax b D ς G1) fun x G1 => D.ex x ς G1
  | .fr t it b, D, ς, G => denI gs Δ it ς G (fun xs ok G1 => forL ok (fun x ς1 G2 k => tgU t x ς1 fun ς2 => jax b { D with nx := k } ς2 G2) xs ς G1 D.nx) fun x G1 => D.ex x ς G1
  | .wh c b, D, ς, G => ∃ W : Nat -> Sg -> Gp -> Prop, (∃ m, W m ς G) /\ ∀ m ς1 G1, W m ς1 G1 ->
      denT gs Δ c ς1 G1 (fun t G2 => if t = true then jax b { D with nx := fun ς' G' => ∃ m', m' < m /\ W m' ς' G' } ς1 G2 else D.nx ς1 G2) fun x G1 => D.ex x ς1 G1
  | .ret e, D, ς, G => denE gs Δ e ς G D.rt fun x G1 => D.ex x ς G1
  | .retN, D, _, G => D.rt .non G
  | .never, _, _, _ => False
  | .raise c es, D, ς, G => jaG gs Δ es ς G (fun us G1 => us.length = (clsF c).length /\ D.ex ⟨c, us⟩ ς G1) fun x G1 => D.ex x ς G1
  | .tr b c n h, D, ς, G => jax b { D with ex := fun x ς1 G1 => (c = 0 \/ x.c = c) /\ hsH x h (ς1.set n none) G1 fun ς2 G2 => D.nx (ς2.set n none) G2 } ς G
noncomputable def jax : Ss -> En -> Sg -> Gp -> Prop
  | .nil, D, ς, G => D.nx ς G
  | .cons s ss, D, ς, G => denS s { D with nx := fun ς' G' => jax ss D ς' G' } ς G
end
end
structure Fun where
 name:Str
 ps:List Str
 N:List Str
 body:Ss
structure Tab where
 funs:List Fun
 gs:List U
 gn:List Str:=[]
 cs:List Nat:=[]
noncomputable def jan (n:Nat)(us:List U):Sg:=us.map some++List.replicate (n - us.length) none
noncomputable def jab (T:Tab):Nat->Cl
 | 0,_,_,_,_,_=>False
 | k + 1,n,us,G,Q,X=>match T.funs[n]? with
  | some d=>us.length=d.ps.length/\jax T.gs (jab T k) d.body ⟨fun _ G'=>Q .non G',Q,fun x _ G'=>X x G'⟩ (jan d.N.length us) G
  | none=>False
mutual
noncomputable def RU (K:PySem.W.Frag)(H:Hp):U->V->Prop
 | .non,v=>v=.non
 | .bl b,v=>v=.bl b
 | .int i,v=>v=.int i
 | .str x,v=>v=.str x
 | .tup xs,v=>∃ a vs,v=.ref a/\H a=some (.tup vs)/\RUs K H xs vs
 | .loc a,v=>v=.ref a
 | .fn _,_=>False
 | .ty n,v=>v=.ty n
 | .exc _ _,_=>False
 | .own _,_=>False
 | .clo _ _,_=>False
noncomputable def RUs (K:PySem.W.Frag)(H:Hp):List U->List V->Prop
 | [],vs=>vs=[]
 | u::us,vs=>∃ v vr,vs=v::vr/\RU K H u v/\RUs K H us vr
end
noncomputable def RKs {κ:Type}(K:PySem.W.Frag)(H:Hp):List (κ×U)->List (κ×V)->Prop
 | [],l=>l=[]
 | (k,u)::r,l=>∃ v l',l=(k,v)::l'/\RU K H u v/\RKs K H r l'
noncomputable def MOk (K:PySem.W.Frag)(H:Hp)(a:Addr):MO->Prop
 | .lst us=>∃ vs,H a=some (.lst vs)/\RUs K H us vs
 | .fro us=>∃ o vs,H a=some (.frz o (.lst vs))/\RUs K H us vs
 | .dK kvs=>∃ l,H a=some (.dK l)/\RKs K H kvs l
 | .dT kvs=>∃ l,H a=some (.dT l)/\RKs K H kvs l
 | .frd o kvs=>∃ l,H a=some (.frz o (.dT l))/\RKs K H kvs l
noncomputable def HR (K:PySem.W.Frag)(H:Hp)(G:Gp):Prop:=∀ a o,G a=some o->MOk K H a o
noncomputable def Fr (H:Hp)(G:Gp)(H':Hp)(G':Gp):Prop:=∀ a o,H a=some o->G a=none->H' a=some o/\G' a=none
noncomputable def SR (K:PySem.W.Frag)(H:Hp)(ς:Sg)(σ:St):Prop:=ς.length=σ.length/\∀ (i:Nat) (u:U),ς[i]?=some (some u)->∃ v,σ[i]?=some (some v)/\RU K H u v
section
variable {K:PySem.W.Frag}{H H' H1 H2:Hp}{G G' G1 G2:Gp}
theorem Fr.refl (H:Hp)(G:Gp):Fr H G H G:=fun _ _ h g=>⟨h,g⟩
theorem Fr.trans (a:Fr H G H1 G1)(b:Fr H1 G1 H2 G2):Fr H G H2 G2:=fun c o h g=>let ⟨h1,g1⟩:=a c o h g; b c o h1 g1
noncomputable def TS (H H':Hp):Prop:=∀ a xs,H a=some (.tup xs)->H' a=some (.tup xs)
mutual
theorem RU.ts (t:TS H H'):∀ {u:U} {v:V},RU K H u v->RU K H' u v
 | .non,_,h=>h
 | .bl _,_,h=>h
 | .int _,_,h=>h
 | .str _,_,h=>h
 | .tup xs,_,h=>by
  obtain ⟨a,vs,e,q,r⟩:=h
  exact ⟨a,vs,e,t _ _ q,RUs.ts t r⟩
 | .loc _,_,h=>h
 | .fn _,_,h=>h
 | .ty _,_,h=>h
 | .exc _ _,_,h=>h
 | .own _,_,h=>h
 | .clo _ _,_,h=>h
theorem RUs.ts (t:TS H H'):∀ {us:List U} {vs:List V},RUs K H us vs->RUs K H' us vs
 | [],_,h=>h
 | _::_,_,h=>by
  obtain ⟨v,vr,e,r,rs⟩:=h
  exact ⟨v,vr,e,RU.ts t r,RUs.ts t rs⟩
end
theorem RKs.ts {κ:Type}(t:TS H H'):∀ {kvs:List (κ×U)} {l:List (κ×V)},RKs K H kvs l->RKs K H' kvs l
 | [],_,h=>h
 | (_,_)::_,_,h=>by
  obtain ⟨v,l',e,r,rs⟩:=h
  exact ⟨v,l',e,r.ts t,RKs.ts t rs⟩
theorem SR.ts {ς:Sg}{σ:St}(t:TS H H')(h:SR K H ς σ):SR K H' ς σ:=⟨h.1,fun i u e=>let ⟨v,e1,r⟩:=h.2 i u e; ⟨v,e1,r.ts t⟩⟩
theorem HR.tupNone (h:HR K H G){a:Addr}{xs:List V}(e:H a=some (.tup xs)):G a=none:=by
 cases q:G a with
 | none=>rfl
 | some o=>
  have m:=h a o q
  cases o with
  | lst us=>obtain ⟨_,e2,_⟩:=m; rw [e] at e2; cases e2
  | fro us=>obtain ⟨_,_,e2,_⟩:=m; rw [e] at e2; cases e2
  | dK us=>obtain ⟨_,e2,_⟩:=m; rw [e] at e2; cases e2
  | dT us=>obtain ⟨_,e2,_⟩:=m; rw [e] at e2; cases e2
  | frd _ us=>obtain ⟨_,e2,_⟩:=m; rw [e] at e2; cases e2
theorem Fr.ts (f:Fr H G H' G')(h:HR K H G):TS H H':=fun a xs e=>(f a _ e (h.tupNone e)).1
theorem MOk.there {a:Addr}{o:MO}(m:MOk K H a o):∃ ho,H a=some ho:=by
 cases o with
 | lst _=>obtain ⟨_,e,_⟩:=m; exact ⟨_,e⟩
 | fro _=>obtain ⟨_,_,e,_⟩:=m; exact ⟨_,e⟩
 | dK _=>obtain ⟨_,e,_⟩:=m; exact ⟨_,e⟩
 | dT _=>obtain ⟨_,e,_⟩:=m; exact ⟨_,e⟩
 | frd _ _=>obtain ⟨_,e,_⟩:=m; exact ⟨_,e⟩
theorem MOk.keep {a:Addr}{o:MO}(m:MOk K H a o)(e:H' a=H a)(t:TS H H'):MOk K H' a o:=by
 cases o with
 | lst _=>obtain ⟨vs,q,r⟩:=m; exact ⟨vs,e.trans q,r.ts t⟩
 | fro _=>obtain ⟨ob,vs,q,r⟩:=m; exact ⟨ob,vs,e.trans q,r.ts t⟩
 | dK _=>obtain ⟨l,q,r⟩:=m; exact ⟨l,e.trans q,r.ts t⟩
 | dT _=>obtain ⟨l,q,r⟩:=m; exact ⟨l,e.trans q,r.ts t⟩
 | frd _ _=>obtain ⟨l,q,r⟩:=m; exact ⟨l,e.trans q,r.ts t⟩
theorem HR.nope (h:HR K H G){a:Addr}(e:H a=none):G a=none:=by
 cases q:G a with
 | none=>rfl
 | some o=>
  obtain ⟨_,e2⟩:=(h a o q).there
  rw [e] at e2; cases e2
theorem jaq {a:Addr}{o:MO}:gup G a o a=some o:=by unfold gup; rw [if_pos rfl]
theorem jaX {a b:Addr}{o:MO}(h:b≠a):gup G a o b=G b:=by unfold gup; rw [if_neg h]
theorem TS.new {p:Addr}{o:HO}(e:H p=none):TS H (upd H p o):=fun a xs h=>by rw [jac (jad h e)]; exact h
theorem HR.newT (h:HR K H G){p:Addr}{xs:List V}(e:H p=none):HR K (upd H p (.tup xs)) G:=fun a o q=>by
 have m:=h a o q
 obtain ⟨ho,e2⟩:=m.there
 exact m.keep (jac (jad e2 e)) (TS.new e)
theorem Fr.new {p:Addr}{o:HO}(e:H p=none):Fr H G (upd H p o) G:=fun a ob h g=>⟨by rw [jac (jad h e)]; exact h,g⟩
theorem HR.newO (h:HR K H G){p:Addr}{o:HO}{mo:MO}(e:H p=none)(m:MOk K (upd H p o) p mo):HR K (upd H p o) (gup G p mo):=fun a ob q=>by
 by_cases z:a=p
 ·subst z
  rw [jaq] at q
  cases q
  exact m
 ·rw [jaX z] at q
  exact (h a ob q).keep (jac z) (TS.new e)
theorem Fr.newO {p:Addr}{o:HO}{mo:MO}(e:H p=none):Fr H G (upd H p o) (gup G p mo):=fun a ob h g=>by
 have z:a≠p:=jad h e
 exact ⟨by rw [jac z]; exact h,by rw [jaX z]; exact g⟩
theorem TS.write (h:HR K H G){p:Addr}{o:HO}{mo:MO}(g:G p=some mo):TS H (upd H p o):=fun a xs e=>by
 have z:a≠p:=fun z=>by subst z; rw [h.tupNone e] at g; cases g
 rw [jac z]; exact e
theorem HR.write (h:HR K H G){p:Addr}{o:HO}{mo mo':MO}(g:G p=some mo)(m:MOk K (upd H p o) p mo'):HR K (upd H p o) (gup G p mo'):=fun a ob q=>by
 by_cases z:a=p
 ·subst z
  rw [jaq] at q
  cases q
  exact m
 ·rw [jaX z] at q
  exact (h a ob q).keep (jac z) (TS.write h g)
theorem Fr.write {p:Addr}{o:HO}{mo mo':MO}(g:G p=some mo):Fr H G (upd H p o) (gup G p mo'):=fun a ob h n=>by
 have z:a≠p:=fun z=>by subst z; rw [n] at g; cases g
 exact ⟨by rw [jac z]; exact h,by rw [jaX z]; exact n⟩
theorem RUs.length:∀ {us:List U} {vs:List V},RUs K H us vs->us.length=vs.length
 | [],_,h=>by cases h; rfl
 | _::_,_,h=>by
  obtain ⟨v,vr,rfl,_,rs⟩:=h
  simp [rs.length]
theorem RUs.append:∀ {us ws:List U} {vs xs:List V},RUs K H us vs->RUs K H ws xs->RUs K H (us++ws) (vs++xs)
 | [],_,_,_,h,h'=>by cases h; exact h'
 | _::_,_,_,_,h,h'=>by
  obtain ⟨v,vr,rfl,r,rs⟩:=h
  exact ⟨v,vr++_,rfl,r,rs.append h'⟩
theorem RUs.get:∀ {us:List U} {vs:List V} {i:Nat} {u:U},RUs K H us vs->us[i]?=some u->∃ v,vs[i]?=some v/\RU K H u v
 | [],_,_,_,_,e=>by simp at e
 | _::_,_,0,_,h,e=>by
  obtain ⟨v,vr,rfl,r,_⟩:=h
  simp at e; subst e
  exact ⟨v,rfl,r⟩
 | _::_,_,i + 1,_,h,e=>by
  obtain ⟨v,vr,rfl,_,rs⟩:=h
  obtain ⟨w,h1,h2⟩:=rs.get (i:=i) (by simpa using e)
  exact ⟨w,by simpa using h1,h2⟩
theorem RUs.take:∀ {us:List U} {vs:List V} (n:Nat),RUs K H us vs->RUs K H (us.take n) (vs.take n)
 | _,_,0,_=>rfl
 | [],_,_ + 1,h=>by cases h; rfl
 | _::_,_,n + 1,h=>by
  obtain ⟨v,vr,rfl,r,rs⟩:=h
  exact ⟨v,vr.take n,rfl,r,rs.take n⟩
theorem RUs.drop:∀ {us:List U} {vs:List V} (n:Nat),RUs K H us vs->RUs K H (us.drop n) (vs.drop n)
 | _,_,0,h=>h
 | [],_,_ + 1,h=>by cases h; rfl
 | _::_,_,n + 1,h=>by
  obtain ⟨v,vr,rfl,_,rs⟩:=h
  exact rs.drop n
theorem RUs.set {u:U}{v:V}(r:RU K H u v):∀ {us:List U} {vs:List V} (i:Nat),RUs K H us vs->RUs K H (us.set i u) (vs.set i v)
 | [],_,_,h=>by cases h; rfl
 | _::_,_,0,h=>by
  obtain ⟨w,vr,rfl,_,rs⟩:=h
  exact ⟨v,vr,rfl,r,rs⟩
 | _::_,_,i + 1,h=>by
  obtain ⟨w,vr,rfl,q,rs⟩:=h
  exact ⟨w,vr.set i v,rfl,q,rs.set r i⟩
theorem RUs.reverse:∀ {us:List U} {vs:List V},RUs K H us vs->RUs K H us.reverse vs.reverse
 | [],_,h=>by cases h; rfl
 | _::_,_,h=>by
  obtain ⟨v,vr,rfl,r,rs⟩:=h
  rw [List.reverse_cons,List.reverse_cons]
  exact rs.reverse.append ⟨v,[],rfl,r,rfl⟩
theorem RUs.rep {us:List U}{vs:List V}(h:RUs K H us vs):∀ k:Nat,RUs K H (List.replicate k us).flatten (List.replicate k vs).flatten
 | 0=>rfl
 | k + 1=>by
  rw [List.replicate_succ,List.replicate_succ,List.flatten_cons,List.flatten_cons]
  exact h.append (h.rep k)
theorem RUs.atI {us:List U}{vs:List V}{i:Int}{u:U}(h:RUs K H us vs)(e:atI us i=some u):∃ v,L2.atI vs i=some v/\RU K H u v:=by
 unfold L2.atI at e ⊢
 rw [h.length] at e
 cases q:ixN vs.length i with
 | none=>rw [q] at e; cases e
 | some j=>
  rw [q] at e
  exact h.get e
theorem RUs.cut {us:List U}{vs:List V}(h:RUs K H us vs)(lo hi:Option Int):RUs K H (Z.cut us lo hi) (cutV vs lo hi):=by
 unfold Z.cut cutV
 rw [h.length]
 exact (h.drop _).take _
theorem RUs.isEmpty {us:List U}{vs:List V}(h:RUs K H us vs):us.isEmpty=vs.isEmpty:=by
 cases us with
 | nil=>cases h; rfl
 | cons u us=>obtain ⟨v,vr,rfl,_⟩:=h; rfl
theorem RUs.ints:∀ {us:List U} {vs:List V} {ns:List Int},RUs K H us vs->jcg us=some ns->vs=ns.map V.int
 | [],_,_,h,e=>by cases h; cases e; rfl
 | u::us,_,ns,h,e=>by
  obtain ⟨v,vr,rfl,r,rs⟩:=h
  cases u with
  | int i=>
   cases r
   rw [jcg] at e
   cases q:jcg us with
   | none=>rw [q] at e; cases e
   | some l=>rw [q] at e; cases e; rw [rs.ints q]; rfl
  | _=>cases e
theorem RUs.strs:∀ {us:List U} {vs:List V} {ns:List Str},RUs K H us vs->jdC us=some ns->vs=ns.map V.str
 | [],_,_,h,e=>by cases h; cases e; rfl
 | u::us,_,ns,h,e=>by
  obtain ⟨v,vr,rfl,r,rs⟩:=h
  cases u with
  | str i=>
   cases r
   rw [jdC] at e
   cases q:jdC us with
   | none=>rw [q] at e; cases e
   | some l=>rw [q] at e; cases e; rw [rs.strs q]; rfl
  | _=>cases e
theorem RUs.bools:∀ {us:List U} {vs:List V} {ns:List Bool},RUs K H us vs->jcb us=some ns->vs=ns.map V.bl
 | [],_,_,h,e=>by cases h; cases e; rfl
 | u::us,_,ns,h,e=>by
  obtain ⟨v,vr,rfl,r,rs⟩:=h
  cases u with
  | bl i=>
   cases r
   rw [jcb] at e
   cases q:jcb us with
   | none=>rw [q] at e; cases e
   | some l=>rw [q] at e; cases e; rw [rs.bools q]; rfl
  | _=>cases e
theorem HR.lst (h:HR K H G){a:Addr}{us:List U}(e:G a=some (.lst us)):∃ vs,H a=some (.lst vs)/\RUs K H us vs:=h a _ e
theorem HR.ls (h:HR K H G){a:Addr}{us:List U}(e:lsG G a=some us):∃ vs,SqL K H a vs/\RUs K H us vs:=by
 unfold lsG at e
 split at e
 ·rename_i xs q
  cases e
  obtain ⟨vs,q2,r⟩:=h a _ q
  exact ⟨vs,.inl (.inl q2),r⟩
 ·rename_i xs q
  cases e
  obtain ⟨o,vs,q2,r⟩:=h a _ q
  exact ⟨vs,.inl (.inr ⟨o,q2⟩),r⟩
 ·cases e
theorem HR.rd (h:HR K H G){a:Addr}{us:List U}(e:lsG G a=some us):∃ vs,Rd H a (.lst vs)/\RUs K H us vs:=by
 unfold lsG at e
 split at e
 ·rename_i xs q
  cases e
  obtain ⟨vs,q2,r⟩:=h a _ q
  exact ⟨vs,.inl q2,r⟩
 ·rename_i xs q
  cases e
  obtain ⟨o,vs,q2,r⟩:=h a _ q
  exact ⟨vs,.inr ⟨o,q2⟩,r⟩
 ·cases e
end
mutual
theorem DU.dv {K:PySem.W.Frag}{H:Hp}{G:Gp}(h:HR K H G):∀ {u:U} {d:PyData} {v:V},DU G u d->RU K H u v->DV K H v d
 | _,_,_,.non,r=>by cases r; exact .non
 | _,_,_,.bl b,r=>by cases r; exact .bl b
 | _,_,_,.int i,r=>by cases r; exact .int i
 | _,_,_,.str x,r=>by cases r; exact .str x
 | _,_,_,.tup q,r=>by
  obtain ⟨a,vs,rfl,s,rs⟩:=r
  exact .tup (.of s) (DUs.dv h q rs)
 | _,_,_,.lst e q,r=>by
  cases r
  obtain ⟨vs,s,rs⟩:=h.rd e
  exact .lst s (DUs.dv h q rs)
 | _,_,_,.dic e,r=>by
  cases r
  obtain ⟨l,q,rs⟩:=h _ _ e
  cases rs
  exact .dic q
theorem DUs.dv {K:PySem.W.Frag}{H:Hp}{G:Gp}(h:HR K H G):∀ {us:List U} {ds:List PyData} {vs:List V},DUs G us ds->RUs K H us vs->DVs K H vs ds
 | _,_,_,.nil,r=>by cases r; exact .nil
 | _,_,_,.cons a b,r=>by
  obtain ⟨v,vr,rfl,r1,rs⟩:=r
  exact .cons (DU.dv h a r1) (DUs.dv h b rs)
end
end Z

namespace L2
open PySem
theorem PE.imp {X:Cx}{e:Expr}{t t':TE}(h:PE X e t)(i:∀ σ H Q,t' σ H Q->t σ H Q):PE X e t':=fun pins s σ H Q I q=>h pins s σ H Q I (i σ H Q q)
theorem PT.imp {X:Cx}{e:Expr}{t t':TT}(h:PT X e t)(i:∀ σ H Q,t' σ H Q->t σ H Q):PT X e t':=fun pins s σ H Q I q=>h pins s σ H Q I (i σ H Q q)
theorem PW.imp {X:Cx}{e:Expr}{t t':TT}(h:PW X e t)(i:∀ σ H Q,t' σ H Q->t σ H Q):PW X e t':=fun w pins s σ H Q I q=>h w pins s σ H Q I (i σ H Q q)
theorem PA.imp {X:Cx}{e:List Expr}{t t':TA}(h:PA X e t)(i:∀ σ H Q,t' σ H Q->t σ H Q):PA X e t':=fun pos pins s σ H Q I q=>h pos pins s σ H Q I (i σ H Q q)
theorem PO.imp {X:Cx}{e:Option Expr}{t t':TO}(h:PO X e t)(i:∀ σ H Q,t' σ H Q->t σ H Q):PO X e t':=fun pins s σ H Q I q=>h pins s σ H Q I (i σ H Q q)
theorem PS.imp {X:Cx}{e:Stmt}{t t':L2.TS}(h:PS X e t)(i:∀ D σ H,t' D σ H->t D σ H):PS X e t':=fun pins s σ H D I q=>h pins s σ H D I (i D σ H q)
theorem PSs.imp {X:Cx}{e:List Stmt}{t t':L2.TS}(h:PSs X e t)(i:∀ D σ H,t' D σ H->t D σ H):PSs X e t':=fun pins s σ H D I q=>h pins s σ H D I (i D σ H q)
end L2
namespace Z
open PySem L2
set_option maxHeartbeats 4000000
noncomputable def gK (K:PySem.W.Frag):Str->Option Value:=fun x=>(PySem.W.nsIn K mainGlobals x).join
noncomputable def XD (K:PySem.W.Frag)(H:Hp)(C dx:Addr)(x:XV):Prop:=1<=x.c/\x.c < 6/\XCls K (gK K) (clsN x.c) (clsF x.c) C/\∃ l,H dx=some (.xd l)/\l.map (·.1)=clsF x.c/\RUs K H x.fs (l.map (·.2))
noncomputable def XAt (X:Cx)(H:Hp)(s:Shared)(e:Value)(x:XV):Prop:=∃ ea C dx,e=.ref ea/\Lies X.s₀.heap.objs.size X.pn H s.heap ea (.ref C) (some dx)/\XD X.K H C dx x
section
variable (X:Cx)
noncomputable def LX (σ:St)(H:Hp)(G:Gp)(E:KX):Prop:=∀ (pins:List (Addr×Obj)) (e:Value) (s':Shared) (x:XV) (G':Gp) (H':Hp),Inv X pins σ H' s'->XAt X H' s' e x->HR X.K H' G'->Fr H G H' G'->E x G'->X.xe e s'
noncomputable def LV (H:Hp)(G:Gp)(Q:K1)(Q0:VK):Prop:=∀ w v G' H',RU X.K H' w v->HR X.K H' G'->Fr H G H' G'->Q w G'->Q0 v H'
noncomputable def lE (t:UE):TE:=fun σ H Q0=>∃ ς G Q E,SR X.K H ς σ/\HR X.K H G/\t ς G Q E/\LV X H G Q Q0/\LX X σ H G E
noncomputable def lT (t:UT):TT:=fun σ H Q0=>∃ ς G Q E,SR X.K H ς σ/\HR X.K H G/\t ς G Q E/\(∀ b G' H',HR X.K H' G'->Fr H G H' G'->Q b G'->Q0 b H')/\LX X σ H G E
noncomputable def lA (t:UA):TA:=fun σ H Q0=>∃ ς G Q E,SR X.K H ς σ/\HR X.K H G/\t ς G Q E/\(∀ ws vs G' H',RUs X.K H' ws vs->HR X.K H' G'->Fr H G H' G'->Q ws G'->Q0 vs H')/\LX X σ H G E
noncomputable def lO (t:Sg->Gp->(Option Int->Gp->Prop)->KX->Prop):TO:=fun σ H Q0=>∃ ς G Q E,SR X.K H ς σ/\HR X.K H G/\t ς G Q E/\(∀ o G' H',HR X.K H' G'->Fr H G H' G'->Q o G'->Q0 o H')/\LX X σ H G E
end
section
variable {X:Cx}{σ:St}{H H1 H2:Hp}{G G1 G2:Gp}
theorem LX.fr {E:KX}(h:LX X σ H G E)(f:Fr H G H1 G1):LX X σ H1 G1 E:=fun pins e s' x G' H' I a hr f' q=>h pins e s' x G' H' I a hr (f.trans f') q
theorem LV.fr {Q:K1}{Q0:VK}(h:LV X H G Q Q0)(f:Fr H G H1 G1):LV X H1 G1 Q Q0:=fun w v G' H' r hr f' q=>h w v G' H' r hr (f.trans f') q
theorem LV.here {Q:K1}{Q0:VK}(h:LV X H G Q Q0){w:U}{v:V}(r:RU X.K H w v)(hr:HR X.K H G)(q:Q w G):Q0 v H:=h w v G H r hr (Fr.refl _ _) q
theorem LV.bl {Q:K1}{Q0:VK}(h:LV X H G Q Q0){b:Bool}(hr:HR X.K H G)(q:Q (.bl b) G):Q0 (.bl b) H:=h.here (w:=.bl b) rfl hr q
theorem LV.int {Q:K1}{Q0:VK}(h:LV X H G Q Q0){b:Int}(hr:HR X.K H G)(q:Q (.int b) G):Q0 (.int b) H:=h.here (w:=.int b) rfl hr q
theorem LV.str {Q:K1}{Q0:VK}(h:LV X H G Q Q0){b:Str}(hr:HR X.K H G)(q:Q (.str b) G):Q0 (.str b) H:=h.here (w:=.str b) rfl hr q
theorem LV.tup {Q:K1}{Q0:VK}(h:LV X H G Q Q0){p:Addr}{us:List U}{vs:List V}(e:H p=none)(r:RUs X.K H us vs)(hr:HR X.K H G)(q:Q (.tup us) G):Q0 (.ref p) (upd H p (.tup vs)):=
 h (.tup us) (.ref p) G _ ⟨p,vs,rfl,jae,r.ts (TS.new e)⟩ (hr.newT e) (Fr.new e) q
theorem LV.lst {Q:K1}{Q0:VK}(h:LV X H G Q Q0){p:Addr}{us:List U}{vs:List V}(e:H p=none)(r:RUs X.K H us vs)(hr:HR X.K H G)(q:newO G (.lst us) Q):Q0 (.ref p) (upd H p (.lst vs)):=
 h (.loc p) (.ref p) _ _ rfl (hr.newO (mo:=.lst us) e ⟨vs,jae,r.ts (TS.new e)⟩) (Fr.newO e) (q.at p (hr.nope e))
theorem LV.wl {Q:K1}{Q0:VK}(h:LV X H G Q Q0){p:Addr}{us:List U}{vs:List V}{mo:MO}(g:G p=some mo)(r:RUs X.K H us vs)(hr:HR X.K H G){w:U}{v:V}(rw':RU X.K H w v)(q:putO G p (.lst us) (Q w)):Q0 v (upd H p (.lst vs)):=
 h w v _ _ (rw'.ts (TS.write hr g)) (hr.write (mo':=.lst us) g ⟨vs,jae,r.ts (TS.write hr g)⟩) (Fr.write g) q.at
end
section
variable {X:Cx}{σ:St}{H:Hp}{Q0:VK}{ta tb:UE}
theorem lE.two {R:V->V->Hp->Prop}{k:U->U->Gp->K1->Prop}(h:lE X (fun ς G Q E=>ta ς G (fun x G1=>tb ς G1 (fun y G2=>k x y G2 Q) E) E) σ H Q0)
  (f:∀ x y v v' G H' Q,RU X.K H' x v->RU X.K H' y v'->HR X.K H' G->k x y G Q->LV X H' G Q Q0->R v v' H'):lE X ta σ H fun v H1=>lE X tb σ H1 fun v' H2=>R v v' H2:=by
 obtain ⟨ς,G,Q,E,hς,hG,h,lv,lx⟩:=h
 refine ⟨ς,G,_,E,hς,hG,h,fun x v G1 H1 rx hG1 f1 h1=>?_,lx⟩
 refine ⟨ς,G1,_,E,hς.ts (f1.ts hG),hG1,h1,fun y v' G2 H2 ry hG2 f2 h2=>?_,lx.fr f1⟩
 exact f x y v v' G2 H2 Q (rx.ts (f2.ts hG1)) ry hG2 h2 (lv.fr (f1.trans f2))
theorem lE.one {R:V->Hp->Prop}{k:U->Gp->K1->Prop}(h:lE X (fun ς G Q E=>ta ς G (fun x G1=>k x G1 Q) E) σ H Q0)
  (f:∀ x v G H' Q,RU X.K H' x v->HR X.K H' G->k x G Q->LV X H' G Q Q0->R v H'):lE X ta σ H R:=by
 obtain ⟨ς,G,Q,E,hς,hG,h,lv,lx⟩:=h
 exact ⟨ς,G,_,E,hς,hG,h,fun x v G1 H1 rx hG1 f1 h1=>f x v G1 H1 Q rx hG1 h1 (lv.fr f1),lx⟩
theorem lE.many {ta:UA}{R:List V->Hp->Prop}{k:List U->Gp->K1->Prop}(h:lE X (fun ς G Q E=>ta ς G (fun x G1=>k x G1 Q) E) σ H Q0)
  (f:∀ x v G H' Q,RUs X.K H' x v->HR X.K H' G->k x G Q->LV X H' G Q Q0->R v H'):lA X ta σ H R:=by
 obtain ⟨ς,G,Q,E,hς,hG,h,lv,lx⟩:=h
 exact ⟨ς,G,_,E,hς,hG,h,fun x v G1 H1 rx hG1 f1 h1=>f x v G1 H1 Q rx hG1 h1 (lv.fr f1),lx⟩
end
section
variable {X:Cx}{pos:Pos}
theorem jks {i:Nat}{x:Str}(hN:X.N[i]?=some x)(hv:Vis X.env.scope x)(hd:(x == ("__debug__" : Str))=false)(hcd:(x == ("__classdict__" : Str))=false):PE X (.Name x pos) (lE X fun ς G Q _=>slot ς i fun u=>Q u G):=by
 refine (jbi hN hv hd hcd).imp fun σ H Q0 h=>?_
 obtain ⟨ς,G,Q,E,hς,hG,h,lv,_⟩:=h
 unfold slot at h
 split at h
 ·rename_i u e
  obtain ⟨v,e1,r⟩:=hς.2 i u e
  exact ⟨v,e1,lv.here r hG h⟩
 ·exact h.elim
theorem jcB {e:Expr}{u:U}{v:V}(h:PE X e (tC v))(r:∀ H,RU X.K H u v):PE X e (lE X fun _ G Q _=>Q u G):=
 h.imp fun _ _ _ ⟨_,_,_,_,_,hG,q,lv,_⟩=>lv.here (r _) hG q
end
noncomputable def OpU (X:Cx)(f:Value->Value->Sem Value)(b:U->U->Gp->K1->Prop):Prop:=
 ∃ r:R2,OpR X f r/\∀ x y v v' G H Q Q0,RU X.K H x v->RU X.K H y v'->HR X.K H G->b x y G Q->LV X H G Q Q0->r v v' H Q0
section
variable {X:Cx}{pos:Pos}{a b c:Expr}{ta tb tc:UE}
theorem jkH {o:Operator}{k:U->U->Gp->K1->Prop}(ho:OpU X (binaryOp o) k)(ha:PE X a (lE X ta))(hb:PE X b (lE X tb)) :
  PE X (.BinOp a o b pos) (lE X fun ς G Q E=>ta ς G (fun x G1=>tb ς G1 (fun y G2=>k x y G2 Q) E) E):=by
 obtain ⟨r,h1,h2⟩:=ho
 exact (jk4 h1 ha hb).imp fun σ H Q0 h=>lE.two h fun x y v v' G H' Q rx ry hG q lv=>h2 x y v v' G H' Q Q0 rx ry hG q lv
theorem jjg:OpU X (binaryOp .Add) addU:=by
 refine ⟨_,jjp.or (jeC.or ((jhL (X:=X)).or (jjo.or jhM))),?_⟩
 intro x y v v' G H Q Q0 rx ry hG h lv
 unfold addU at h
 split at h
 ·cases rx; cases ry
  exact .inl ⟨_,_,rfl,rfl,lv.int hG h⟩
 ·cases rx; cases ry
  exact .inr (.inl ⟨_,_,rfl,rfl,h.1,lv.str hG h.2⟩)
 ·rename_i xs ys
  obtain ⟨a,vs,rfl,s1,r1⟩:=rx
  obtain ⟨b,ws,rfl,s2,r2⟩:=ry
  obtain ⟨hl,q⟩:=h
  refine .inr (.inr (.inl ⟨a,b,vs,ws,rfl,rfl,.of s1,.of s2,by rw [<- r1.length,<- r2.length]; exact hl,fun z=>?_,fun _ z=>?_,fun _ _ p hp=>?_⟩))
  ·have:xs=[]:=by have:=r1.length; rw [z] at this; simpa using this
   subst this
   exact lv.here (w:=.tup ys) ⟨b,ws,rfl,s2,r2⟩ hG q
  ·have:ys=[]:=by have:=r2.length; rw [z] at this; simpa using this
   subst this
   rw [List.append_nil] at q
   exact lv.here (w:=.tup xs) ⟨a,vs,rfl,s1,r1⟩ hG q
  ·exact lv.tup hp (r1.append r2) hG q
 ·cases rx; cases ry
  obtain ⟨xs,ys,g1,g2,hl,q⟩:=h
  obtain ⟨vs,e1,r1⟩:=hG.lst g1
  obtain ⟨ws,e2,r2⟩:=hG.lst g2
  exact .inr (.inr (.inr (.inl ⟨_,_,vs,ws,rfl,rfl,e1,e2,by rw [<- r1.length,<- r2.length]; exact hl,fun p hp=>lv.lst hp (r1.append r2) hG q⟩)))
 ·cases rx; cases ry
  exact .inr (.inr (.inr (.inr ⟨_,_,rfl,rfl,lv.int hG h⟩)))
 ·exact h.elim
theorem jjb:OpU X (binaryOp .Sub) subU:=by
 refine ⟨_,jjh.or (jhH (X:=X)),?_⟩
 intro x y v v' G H Q Q0 rx ry hG h lv
 unfold subU at h
 split at h
 ·cases rx; cases ry
  exact .inl ⟨_,_,rfl,rfl,lv.int hG h⟩
 ·cases rx; cases ry
  exact .inr (.inl ⟨_,_,rfl,rfl,lv.int hG h⟩)
 ·cases rx; cases ry
  exact .inr (.inr ⟨_,_,rfl,rfl,lv.int hG h⟩)
 ·exact h.elim
theorem jjd:OpU X (binaryOp .Mult) mulU:=by
 refine ⟨_,jjl.or (jji.or (jhI (X:=X))),?_⟩
 intro x y v v' G H Q Q0 rx ry hG h lv
 unfold mulU at h
 split at h
 ·cases rx; cases ry
  exact .inl ⟨_,_,rfl,rfl,h.1,lv.int hG h.2⟩
 ·cases rx; cases ry
  obtain ⟨xs,g1,h1,h2,hl,q⟩:=h
  obtain ⟨vs,e1,r1⟩:=hG.lst g1
  exact .inr (.inl ⟨_,_,vs,rfl,rfl,e1,h1,h2,by rw [<- r1.length]; exact hl,fun p hp=>lv.lst hp (r1.rep _) hG q⟩)
 ·rename_i xs k
  obtain ⟨a,vs,rfl,s1,r1⟩:=rx
  cases ry
  obtain ⟨h0,h1,h2,hl,q⟩:=h
  refine .inr (.inr ⟨a,k,vs,rfl,rfl,.of s1,?_,h1,h2,by rw [<- r1.length]; exact hl,fun z=>?_,fun _ p hp=>lv.tup hp (r1.rep _) hG q⟩)
  ·intro z
   subst z
   exact h0 (by have:=r1.length; simpa using this)
  ·subst z
   have e:(List.replicate (Int.toNat 1) xs).flatten=xs:=by simp
   rw [e] at q
   exact lv.here (w:=.tup xs) ⟨a,vs,rfl,s1,r1⟩ hG q
 ·exact h.elim
theorem jhF:OpU X (binaryOp .FloorDiv) jif:=by
 refine ⟨_,jhJ,?_⟩
 intro x y v v' G H Q Q0 rx ry hG h lv
 unfold jif at h
 split at h
 ·cases rx; cases ry
  exact ⟨_,_,rfl,rfl,⟨h.1,h.2.1⟩,lv.int hG h.2.2⟩
 ·exact h.elim
theorem jje:OpU X (binaryOp .Mod) modU:=by
 refine ⟨_,jjm,?_⟩
 intro x y v v' G H Q Q0 rx ry hG h lv
 unfold modU at h
 split at h
 ·cases rx; cases ry
  exact ⟨_,_,rfl,rfl,h.1,lv.int hG h.2⟩
 ·exact h.elim
theorem jjc:OpU X (binaryOp .Pow) powU:=by
 refine ⟨_,jjj,?_⟩
 intro x y v v' G H Q Q0 rx ry hG h lv
 unfold powU at h
 split at h
 ·cases rx; cases ry
  exact ⟨_,_,rfl,rfl,h.1,lv.int hG h.2⟩
 ·exact h.elim
theorem jjf (o:Operator):OpU X (binaryOp o) (binU o):=by
 cases o with
 | Add=>exact jjg
 | Sub=>exact jjb
 | Mult=>exact jjd
 | FloorDiv=>exact jhF
 | Mod=>exact jje
 | Pow=>exact jjc
 | _=>exact ⟨fun _ _ _ _=>False,fun _ _ _ _ _ _ _ _ _ _ _ _ h=>h.elim,fun _ _ _ _ _ _ _ _ _ _ _ h _=>h⟩
theorem jkz (ha:PE X a (lE X ta)):PE X (.UnaryOp .USub a pos) (lE X fun ς G Q E=>ta ς G (fun x G1=>negU x G1 Q) E):=by
 refine (jk2 jip ha).imp fun σ H Q0 h=>lE.one h fun x v G H' Q rx hG q lv=>?_
 unfold negU at q
 split at q
 ·cases rx
  exact ⟨_,rfl,lv.int hG q⟩
 ·exact q.elim
end
noncomputable def CmU (X:Cx)(o:CmpOp):Prop:=
 ∃ r:R2,OpR X (compareOp o) r/\∀ x y v v' G H (k:Bool->Prop) (Q0:VK),RU X.K H x v->RU X.K H y v'->HR X.K H G->cmpU o x y G k->(∀ c,k c->Q0 (.bl c) H)->r v v' H Q0
section
variable {X:Cx}
theorem jgU {H:Hp}{G:Gp}{x y:U}{v v':V}{k:Bool->Prop}(rx:RU X.K H x v)(ry:RU X.K H y v')(hG:HR X.K H G)(h:eqU x y G k) :
  (scal v v'=true/\k (decide (v=v')))\/∃ d e,DV X.K H v d/\DV X.K H v' e/\d.canLay0=true/\e.canLay0=true/\d.depth<=100/\k (PyData.eqv d e):=by
 unfold eqU at h
 split at h
 iterate 14 (first | (cases rx; cases ry; exact .inl ⟨rfl,by simpa using h⟩))
 obtain ⟨d,e,h1,h2,⟨s1,s2⟩,⟨s3,_⟩,q⟩:=h
 exact .inr ⟨d,e,h1.dv hG rx,h2.dv hG ry,s1,s3,s2,q⟩
theorem je4 {K:PySem.W.Frag}{H:Hp}{us:List U}{vs:List V}(r:RUs K H us vs):vs.isEmpty=us.isEmpty:=by
 have:=r.length
 cases us <;> cases vs <;> first | rfl | cases this
theorem jig {H:Hp}{G:Gp}{x y:U}{v v':V}{k:Bool->Prop}(rx:RU X.K H x v)(ry:RU X.K H y v')(hG:HR X.K H G)(h:eqQ x y G k):eqU x y G k\/(∃ a z kvs,v=.ref a/\v'=.str z/\H a=some (.dK kvs)/\k false)\/(∃ a b xs,v=.ref a/\v'=.ref b/\SqT X.K H a xs/\SqT X.K H b []/\k xs.isEmpty)\/∃ a z xs,v=.ref a/\v'=.str z/\(SqT X.K H a xs\/SqL X.K H a xs)/\k false:=by
 unfold eqQ at h
 split at h
 ·rcases h with ⟨kvs,g,q⟩ | ⟨xs,g,q⟩ | h
  ·cases rx; cases ry
   obtain ⟨l,e,rs⟩:=hG _ _ g
   exact .inr (.inl ⟨_,_,l,rfl,rfl,e,q⟩)
  ·cases rx; cases ry
   obtain ⟨vs,e,rs⟩:=hG.lst g
   exact .inr (.inr (.inr ⟨_,_,vs,rfl,rfl,.inr (.of e),q⟩))
  ·exact .inl h
 ·obtain ⟨a,vs,rfl,s1,r1⟩:=rx
  obtain ⟨b,ws,rfl,s2,r2⟩:=ry
  cases r2
  refine .inr (.inr (.inl ⟨a,b,vs,rfl,rfl,.of s1,.of s2,?_⟩))
  rw [je4 r1]; exact h
 ·obtain ⟨a,vs,rfl,s1,r1⟩:=rx
  cases ry
  exact .inr (.inr (.inr ⟨a,_,vs,rfl,rfl,.inl (.of s1),h⟩))
 ·exact .inl h
theorem jgg {K:PySem.W.Frag}{H:Hp}{x:U}{v:V}{k:Key}(r:RU K H x v)(e:kU x=some k):v=kV k:=by
 cases x with
 | int i=>cases r; cases e; rfl
 | str i=>cases r; cases e; rfl
 | _=>cases e
theorem jfp {K:PySem.W.Frag}{H:Hp}:∀ {xs:List U} {vs:List V} {ks:List Key},RUs K H xs vs->kUs xs=some ks->vs=ks.map kV
 | [],_,_,r,e=>by cases r; cases e; rfl
 | x::xs,_,ks,r,e=>by
  obtain ⟨v,vr,rfl,r1,rs⟩:=r
  rw [kUs] at e
  cases h1:kU x with
  | none=>rw [h1] at e; cases e
  | some k=>
   cases h2:kUs xs with
   | none=>rw [h1,h2] at e; cases e
   | some l=>
    rw [h1,h2] at e
    cases e
    rw [jgg r1 h1,jfp rs h2]; rfl
theorem jdT {K:PySem.W.Frag}{H:Hp}{x:U}{v:V}(r:RU K H x v)(e:flat x=true):jbF v=true:=by
 cases x <;> first | (cases r; rfl) | exact absurd (show false=true from e) (by decide)
theorem jcP {K:PySem.W.Frag}{H:Hp}:∀ {xs:List U} {vs:List V},RUs K H xs vs->xs.all flat=true->vs.all jbF=true
 | [],_,r,_=>by cases r; rfl
 | x::xs,_,r,e=>by
  obtain ⟨v,vr,rfl,r1,rs⟩:=r
  rw [List.all_cons,Bool.and_eq_true] at e
  rw [List.all_cons,jdT r1 e.1,jcP rs e.2]; rfl
theorem jjS {K:PySem.W.Frag}{H:Hp}{x y:U}{v v':V}(r:RU K H x v)(r':RU K H y v')(e:flat x=true)(e':flat y=true):eqV v v'=eqF x y:=by
 cases x <;> first | (exact absurd (show false=true from e) (by decide)) | (cases y <;> first | (exact absurd (show false=true from e') (by decide)) | (cases r; cases r'; rfl))
theorem jfP {K:PySem.W.Frag}{H:Hp}{x:U}{v:V}(r:RU K H x v)(e:flat x=true):∀ {xs:List U} {vs:List V},RUs K H xs vs->xs.all flat=true->inV v vs=xs.any fun y=>eqF y x
 | [],_,rs,_=>by cases rs; rfl
 | y::xs,_,rs,e'=>by
  obtain ⟨v',vr,rfl,r1,rs⟩:=rs
  rw [List.all_cons,Bool.and_eq_true] at e'
  have ih:=jfP r e rs e'.2
  unfold inV at ih ⊢
  rw [List.any_cons,List.any_cons,jjS r1 r e'.1 e,ih]
theorem jdw {κ:Type}[DecidableEq κ]{K:PySem.W.Frag}{H:Hp}(k:κ):∀ {kvs:List (κ×U)} {l:List (κ×V)},RKs K H kvs l->match dGet kvs k with | some u=>∃ v,valV l k=some v/\RU K H u v | none=>valV l k=none
 | [],_,r=>by cases r; exact rfl
 | (k',u)::kvs,_,r=>by
  obtain ⟨v,l',rfl,r1,rs⟩:=r
  by_cases e:k'=k
  ·subst e
   have:dGet ((k',u)::kvs) k'=some u:=by simp [dGet,List.find?_cons]
   rw [this]
   exact ⟨v,jbG rfl,r1⟩
  ·have:dGet ((k',u)::kvs) k=dGet kvs k:=by simp [dGet,List.find?_cons,e]
   rw [this,jbH (p:=(k',v)) e]
   exact jdw k rs
theorem jjM {H:Hp}{G:Gp}{x y:U}{v v':V}{k:Bool->Prop}(rx:RU X.K H x v)(ry:RU X.K H y v')(hG:HR X.K H G)(h:inU x y G k) :
  ∃ p xs,v'=.ref p/\(SqL X.K H p xs\/SqT X.K H p xs)/\jbF v=true/\xs.all jbF=true/\k (inV v xs):=by
 unfold inU at h
 split at h
 ·obtain ⟨a,vs,rfl,e,rs⟩:=ry
  obtain ⟨f1,f2,q⟩:=h
  exact ⟨a,vs,rfl,.inr (.of e),jdT rx f1,jcP rs f2,by rw [jfP rx f1 rs f2]; exact q⟩
 ·cases ry
  rename_i a
  split at h
  ·rename_i ys g
   obtain ⟨vs,e,rs⟩:=hG.lst g
   obtain ⟨f1,f2,q⟩:=h
   exact ⟨a,vs,rfl,.inl (.of e),jdT rx f1,jcP rs f2,by rw [jfP rx f1 rs f2]; exact q⟩
  ·exact h.elim
 ·exact h.elim
theorem jhG {o:CmpOp}{x y:U}{k:Bool->Prop}(h:ordU o x y k):∃ i j,x=.int i/\y=.int j:=by
 unfold ordU at h
 split at h <;> first | exact ⟨_,_,rfl,rfl⟩ | exact h.elim
theorem jg0 {k:Nat}(hr:Room k X.A)(o:CmpOp):CmU X o:=by
 have hu:X.A.units + 1 < cLine:=by have:=hr.un; omega
 cases o with
 | Eq=>
  refine ⟨_,jk9.or ((jjn hr).or ((jcI hr).or ((jeB hr).or (jc4 hr)))),fun x y v v' G H k Q0 rx ry hG h q=>?_⟩
  rcases jig rx ry hG h with h | ⟨a,z,kvs,h1,h2,h3,h4⟩ | ⟨a,b,xs,h1,h2,h3,h4,h5⟩ | ⟨a,z,xs,h1,h2,h3,h4⟩
  ·rcases jgU rx ry hG h with ⟨h1,h2⟩ | ⟨d,e,h1,h2,h3,h4,h5,h6⟩
   ·exact .inl ⟨h1,q _ h2⟩
   ·exact .inr (.inl ⟨d,e,h1,h2,h3,h4,h5,q _ h6⟩)
  ·exact .inr (.inr (.inl ⟨a,z,kvs,h1,h2,h3,q _ h4⟩))
  ·exact .inr (.inr (.inr (.inl ⟨a,b,xs,h1,h2,h3,h4,q _ h5⟩)))
  ·exact .inr (.inr (.inr (.inr ⟨a,z,xs,h1,h2,h3,q _ h4⟩)))
 | NotEq=>
  refine ⟨_,jk7.or (jjk hr),fun x y v v' G H k Q0 rx ry hG h q=>?_⟩
  rcases jgU rx ry hG h with ⟨h1,h2⟩ | ⟨d,e,h1,h2,h3,h4,h5,h6⟩
  ·exact .inl ⟨h1,q _ h2⟩
  ·exact .inr ⟨d,e,h1,h2,h3,h4,h5,q _ h6⟩
 | Is=>exact ⟨fun _ _ _ _=>False,fun _ _ _ _ _ _ _ _ _ _ _ _ h=>h.elim,fun _ _ _ _ _ _ _ _ _ _ _ h _=>h.elim⟩
 | IsNot=>exact ⟨fun _ _ _ _=>False,fun _ _ _ _ _ _ _ _ _ _ _ _ h=>h.elim,fun _ _ _ _ _ _ _ _ _ _ _ h _=>h.elim⟩
 | In=>exact ⟨fun _ _ _ _=>False,fun _ _ _ _ _ _ _ _ _ _ _ _ h=>h.elim,fun _ _ _ _ _ _ _ _ _ _ _ h _=>h.elim⟩
 | NotIn=>
  refine ⟨_,jc3 (X:=X),fun x y v v' G H k Q0 rx ry hG h q=>?_⟩
  obtain ⟨p,xs,h1,h2,h3,h4,h5⟩:=jjM rx ry hG h
  exact ⟨p,xs,h1,h2,h3,h4,q _ h5⟩
 | Lt=>
  refine ⟨_,jk8,fun x y v v' G H k Q0 rx ry hG h q=>?_⟩
  obtain ⟨i,j,rfl,rfl⟩:=jhG h
  cases rx; cases ry
  exact ⟨_,_,rfl,rfl,q _ h⟩
 | LtE=>exact ⟨fun _ _ _ _=>False,fun _ _ _ _ _ _ _ _ _ _ _ _ h=>h.elim,fun _ _ _ _ _ _ _ _ _ _ _ h _=>h.elim⟩
 | Gt=>exact ⟨fun _ _ _ _=>False,fun _ _ _ _ _ _ _ _ _ _ _ _ h=>h.elim,fun _ _ _ _ _ _ _ _ _ _ _ h _=>h.elim⟩
 | GtE=>exact ⟨fun _ _ _ _=>False,fun _ _ _ _ _ _ _ _ _ _ _ _ h=>h.elim,fun _ _ _ _ _ _ _ _ _ _ _ h _=>h.elim⟩
variable {pos:Pos}{a b c:Expr}{ta tb tc:UE}{tA tB:UT}
theorem jkF {o:CmpOp}(ho:CmU X o)(ha:PE X a (lE X ta))(hb:PE X b (lE X tb))(hm:behindInMarks o b=false) :
  PE X (.Compare a [o] [b] pos) (lE X fun ς G Q E=>ta ς G (fun x G1=>tb ς G1 (fun y G2=>cmpU o x y G2 fun c=>Q (.bl c) G2) E) E):=by
 obtain ⟨r,h1,h2⟩:=ho
 exact (jhC h1 ha hb hm).imp fun σ H Q0 h=>lE.two h fun x y v v' G H' Q rx ry hG q lv=>h2 x y v v' G H' _ Q0 rx ry hG q fun c q=>lv.bl hG q
theorem jdz {H:Hp}{G:Gp}{x:U}{v:V}{k:Bool->Prop}(rx:RU X.K H x v)(hG:HR X.K H G)(h:truU x G k):∃ b,TruV X.K v H b/\k b:=by
 unfold truU at h
 split at h
 ·cases rx; exact ⟨_,rfl,h⟩
 ·cases rx; exact ⟨_,rfl,h⟩
 ·cases rx; exact ⟨_,rfl,h⟩
 ·cases rx; exact ⟨_,⟨h.1,rfl⟩,h.2⟩
 ·obtain ⟨a,vs,rfl,e,rs⟩:=rx
  exact ⟨_,.inr (.inl ⟨vs,.of e,rfl⟩),by rw [<- rs.isEmpty]; exact h⟩
 ·cases rx
  split at h
  ·rename_i g
   obtain ⟨vs,e,rs⟩:=hG.lst g
   exact ⟨_,.inl ⟨vs,.of e,rfl⟩,by rw [<- rs.isEmpty]; exact h⟩
  ·rename_i g
   obtain ⟨ob,vs,e,rs⟩:=hG _ _ g
   exact ⟨_,.inl ⟨vs,.inl (.inr ⟨ob,e⟩),rfl⟩,by rw [<- rs.isEmpty]; exact h⟩
  ·rename_i kvs g
   obtain ⟨l,e,rs⟩:=hG _ _ g
   refine ⟨_,.inr (.inr ⟨l,e,rfl⟩),?_⟩
   cases kvs with
   | nil=>cases rs; exact h
   | cons p r=>obtain ⟨v,l',rfl,_⟩:=rs; exact h
  ·exact h.elim
 ·exact h.elim
theorem jkw (ha:PE X a (lE X ta))(he:∀ whole,isTrue a X.env whole=(do let v <- whole; standAt a.pos; holding [v] (truthy v))):PT X a (lT X fun ς G Q E=>ta ς G (fun x G1=>truU x G1 fun b=>Q b G1) E):=by
 refine (jf3 ha he).imp fun σ H Q0 h=>?_
 obtain ⟨ς,G,Q,E,hς,hG,h,lv,lx⟩:=h
 refine ⟨ς,G,_,E,hς,hG,h,fun x v G1 H1 rx hG1 f1 h1=>?_,lx⟩
 obtain ⟨b,h2,h3⟩:=jdz rx hG1 h1
 exact ⟨b,h2,lv b G1 H1 hG1 f1 h3⟩
theorem jit {o:CmpOp}(ho:CmU X o)(ha:PE X a (lE X ta))(hb:PE X b (lE X tb))(hm:behindInMarks o b=false) :
  PT X (.Compare a [o] [b] pos) (lT X fun ς G Q E=>ta ς G (fun x G1=>tb ς G1 (fun y G2=>cmpU o x y G2 fun c=>truU (.bl c) G2 fun c=>Q c G2) E) E):=by
 obtain ⟨r,h1,h2⟩:=ho
 refine (jhn h1 ha hb hm).imp fun σ H Q0 h=>?_
 obtain ⟨ς,G,Q,E,hς,hG,h,lv,lx⟩:=h
 refine ⟨ς,G,_,E,hς,hG,h,fun x v G1 H1 rx hG1 f1 h1=>?_,lx⟩
 refine ⟨ς,G1,_,E,hς.ts (f1.ts hG),hG1,h1,fun y v' G2 H2 ry hG2 f2 h3=>?_,lx.fr f1⟩
 exact h2 x y v v' G2 H2 _ _ (rx.ts (f2.ts hG1)) ry hG2 h3 fun t q=>⟨t,rfl,lv t G2 H2 hG2 (f1.trans f2) q⟩
theorem jhE {rest:List Expr}{sa sb:TE}(ha:PE X a sa)(hb:PE X (.BoolOp .And (b::rest) pos) sb):PE X (.BoolOp .And (a::b::rest) pos) (fun σ H Q=>sa σ H fun x H1=>∃ k,TruV X.K x H1 k/\if k=true then sb σ H1 Q else Q x H1):=by
 intro pins s σ H Q I h
 refine PyProof.Rows.BoolOp_and (thn (ha pins s σ H _ I h) fun v s1 ⟨x,H1,I1,r1,k,hk,q1⟩=>?_)
 refine thn (jeV pins s1 σ H1 x v (fun c H2=>c=k/\H2=H1) I1 r1 ⟨k,hk,rfl,rfl⟩) fun c s2 ⟨H2,I2,e1,e2⟩=>?_
 subst e1 e2
 cases c with
 | true=>exact hb pins s2 σ H2 Q I2 q1
 | false=>exact ⟨x,H2,I2,r1,q1⟩
theorem ji3 {rest:List Expr}{sa sb:TE}(ha:PE X a sa)(hb:PE X (.BoolOp .Or (b::rest) pos) sb):PE X (.BoolOp .Or (a::b::rest) pos) (fun σ H Q=>sa σ H fun x H1=>∃ k,TruV X.K x H1 k/\if k=true then Q x H1 else sb σ H1 Q):=by
 intro pins s σ H Q I h
 refine PyProof.Rows.BoolOp_or (thn (ha pins s σ H _ I h) fun v s1 ⟨x,H1,I1,r1,k,hk,q1⟩=>?_)
 refine thn (jeV pins s1 σ H1 x v (fun c H2=>c=k/\H2=H1) I1 r1 ⟨k,hk,rfl,rfl⟩) fun c s2 ⟨H2,I2,e1,e2⟩=>?_
 subst e1 e2
 cases c with
 | true=>exact ⟨x,H2,I2,r1,q1⟩
 | false=>exact hb pins s2 σ H2 Q I2 q1
theorem jkI {rest:List Expr}(ha:PE X a (lE X ta))(hb:PE X (.BoolOp .And (b::rest) pos) (lE X tb)):PE X (.BoolOp .And (a::b::rest) pos) (lE X fun ς G Q E=>ta ς G (fun x G1=>truU x G1 fun c=>if c=true then tb ς G1 Q E else Q x G1) E):=by
 refine (jhE ha hb).imp fun σ H Q0 h=>?_
 obtain ⟨ς,G,Q,E,hς,hG,h,lv,lx⟩:=h
 refine ⟨ς,G,_,E,hς,hG,h,fun x v G1 H1 rx hG1 f1 h1=>?_,lx⟩
 obtain ⟨k,h2,h3⟩:=jdz rx hG1 h1
 refine ⟨k,h2,?_⟩
 cases k with
 | true=>rw [if_pos rfl] at h3 ⊢; exact ⟨ς,G1,Q,E,hς.ts (f1.ts hG),hG1,h3,lv.fr f1,lx.fr f1⟩
 | false=>rw [if_neg Bool.false_ne_true] at h3 ⊢; exact (lv.fr f1).here rx hG1 h3
theorem u_or {rest:List Expr}(ha:PE X a (lE X ta))(hb:PE X (.BoolOp .Or (b::rest) pos) (lE X tb)):PE X (.BoolOp .Or (a::b::rest) pos) (lE X fun ς G Q E=>ta ς G (fun x G1=>truU x G1 fun c=>if c=true then Q x G1 else tb ς G1 Q E) E):=by
 refine (ji3 ha hb).imp fun σ H Q0 h=>?_
 obtain ⟨ς,G,Q,E,hς,hG,h,lv,lx⟩:=h
 refine ⟨ς,G,_,E,hς,hG,h,fun x v G1 H1 rx hG1 f1 h1=>?_,lx⟩
 obtain ⟨k,h2,h3⟩:=jdz rx hG1 h1
 refine ⟨k,h2,?_⟩
 cases k with
 | true=>rw [if_pos rfl] at h3 ⊢; exact (lv.fr f1).here rx hG1 h3
 | false=>rw [if_neg Bool.false_ne_true] at h3 ⊢; exact ⟨ς,G1,Q,E,hς.ts (f1.ts hG),hG1,h3,lv.fr f1,lx.fr f1⟩
theorem jir (hc:PT X c (lT X tA)){tC:UT}(ha:PT X a (lT X tB))(hb:PT X b (lT X tC)):PT X (.IfExp c a b pos) (lT X fun ς G Q E=>tA ς G (fun t G1=>if t=true then tB ς G1 Q E else tC ς G1 Q E) E):=by
 intro pins s σ H Q0 I h
 obtain ⟨ς,G,Q,E,hς,hG,h,lv,lx⟩:=h
 show wpAny _ _ (do if <- isTrue c X.env (eval c X.env) then isTrue a X.env (eval a X.env) else isTrue b X.env (eval b X.env)) _ _ s
 refine wpAny_bind (thn (hc pins s σ H (fun t H1=>∃ G1,HR X.K H1 G1/\Fr H G H1 G1/\if t=true then tB ς G1 Q E else tC ς G1 Q E) I ⟨ς,G,_,E,hς,hG,h,fun t G1 H1 hG1 f1 h1=>⟨G1,hG1,f1,h1⟩,lx⟩) fun t s1 ⟨H1,I1,G1,hG1,f1,h1⟩=>?_)
 cases t with
 | true=>exact ha pins s1 σ H1 Q0 I1 ⟨ς,G1,Q,E,hς.ts (f1.ts hG),hG1,h1,fun b G2 H2 hG2 f2 h2=>lv b G2 H2 hG2 (f1.trans f2) h2,lx.fr f1⟩
 | false=>exact hb pins s1 σ H1 Q0 I1 ⟨ς,G1,Q,E,hς.ts (f1.ts hG),hG1,h1,fun b G2 H2 hG2 f2 h2=>lv b G2 H2 hG2 (f1.trans f2) h2,lx.fr f1⟩
theorem jiv {rest:List Expr}(ha:PT X a (lT X tA))(hb:PW X (.BoolOp .And (b::rest) pos) (lT X tB)):PW X (.BoolOp .And (a::b::rest) pos) (lT X fun ς G Q E=>tA ς G (fun c G1=>if c=true then tB ς G1 Q E else Q false G1) E):=by
 refine (pw_and ha hb).imp fun σ H Q0 h=>?_
 obtain ⟨ς,G,Q,E,hς,hG,h,lv,lx⟩:=h
 refine ⟨ς,G,_,E,hς,hG,h,fun c G1 H1 hG1 f1 h1=>?_,lx⟩
 cases c with
 | false=>rw [if_neg Bool.false_ne_true] at h1 ⊢; exact lv false G1 H1 hG1 f1 h1
 | true=>rw [if_pos rfl] at h1 ⊢; exact ⟨ς,G1,Q,E,hς.ts (f1.ts hG),hG1,h1,fun b G2 H2 hG2 f2 h2=>lv b G2 H2 hG2 (f1.trans f2) h2,lx.fr f1⟩
theorem jky {rest:List Expr}(ha:PT X a (lT X tA))(hb:PW X (.BoolOp .Or (b::rest) pos) (lT X tB)):PW X (.BoolOp .Or (a::b::rest) pos) (lT X fun ς G Q E=>tA ς G (fun c G1=>if c=true then Q true G1 else tB ς G1 Q E) E):=by
 refine (pw_or ha hb).imp fun σ H Q0 h=>?_
 obtain ⟨ς,G,Q,E,hς,hG,h,lv,lx⟩:=h
 refine ⟨ς,G,_,E,hς,hG,h,fun c G1 H1 hG1 f1 h1=>?_,lx⟩
 cases c with
 | true=>rw [if_pos rfl] at h1 ⊢; exact lv true G1 H1 hG1 f1 h1
 | false=>rw [if_neg Bool.false_ne_true] at h1 ⊢; exact ⟨ς,G1,Q,E,hς.ts (f1.ts hG),hG1,h1,fun b G2 H2 hG2 f2 h2=>lv b G2 H2 hG2 (f1.trans f2) h2,lx.fr f1⟩
theorem jkD (hc:PT X c (lT X tA))(ha:PE X a (lE X ta))(hb:PE X b (lE X tb)):PE X (.IfExp c a b pos) (lE X fun ς G Q E=>tA ς G (fun t G1=>if t=true then ta ς G1 Q E else tb ς G1 Q E) E):=by
 refine (jga hc ha hb).imp fun σ H Q0 h=>?_
 obtain ⟨ς,G,Q,E,hς,hG,h,lv,lx⟩:=h
 refine ⟨ς,G,_,E,hς,hG,h,fun c G1 H1 hG1 f1 h1=>?_,lx⟩
 cases c with
 | true=>rw [if_pos rfl] at h1 ⊢; exact ⟨ς,G1,Q,E,hς.ts (f1.ts hG),hG1,h1,lv.fr f1,lx.fr f1⟩
 | false=>rw [if_neg Bool.false_ne_true] at h1 ⊢; exact ⟨ς,G1,Q,E,hς.ts (f1.ts hG),hG1,h1,lv.fr f1,lx.fr f1⟩
end
end Z

namespace L2
open PySem PySem.Spec PyProof.Rows
set_option maxHeartbeats 4000000
section
variable {X:Cx}{e st:Expr}{te tst:TE}{pos p2:Pos}
end
end L2
namespace Z
open PySem L2
set_option maxHeartbeats 4000000
section
variable {X:Cx}{pos:Pos}{a b e:Expr}{es:List Expr}{ta tb te:UE}{ts:UA}
theorem jfU:PA X [] (lA X fun _ G Q _=>Q [] G):=by
 refine jcm.imp fun σ H Q0 h=>?_
 obtain ⟨ς,G,Q,E,hς,hG,h,lv,lx⟩:=h
 exact lv [] [] G H rfl hG (Fr.refl _ _) h
theorem jd7 (ha:PE X e (lE X te))(hr:PA X es (lA X ts))(hs:starEach (e::es) X.env=(false,eval e X.env)::starEach es X.env):PA X (e::es) (lA X fun ς G Q E=>te ς G (fun x G1=>ts ς G1 (fun xs G2=>Q (x::xs) G2) E) E):=by
 refine (jaN ha hr hs).imp fun σ H Q0 h=>?_
 obtain ⟨ς,G,Q,E,hς,hG,h,lv,lx⟩:=h
 refine ⟨ς,G,_,E,hς,hG,h,fun x v G1 H1 rx hG1 f1 h1=>?_,lx⟩
 refine ⟨ς,G1,_,E,hς.ts (f1.ts hG),hG1,h1,fun xs vs G2 H2 rxs hG2 f2 h2=>?_,lx.fr f1⟩
 exact lv (x::xs) (v::vs) G2 H2 ⟨v,vs,rfl,rx.ts (f2.ts hG1),rxs⟩ hG2 (f1.trans f2) h2
theorem jkt {k}(h:PA X es (lA X ts)):PE X (.Tuple es k pos) (lE X fun ς G Q E=>ts ς G (fun us G1=>us.length<=sizeLine/\Q (.tup us) G1) E):=
 (jfd h).imp fun σ H Q0 h=>lE.many h fun us vs G H' Q r hG q lv=>⟨by rw [<- r.length]; exact q.1,fun p hp=>lv.tup hp r hG q.2⟩
theorem jkC (h:PA X es (lA X ts)):PE X (.List es pos) (lE X fun ς G Q E=>ts ς G (fun us G1=>us.length<=sizeLine/\newO G1 (.lst us) Q) E):=
 (jgG h).imp fun σ H Q0 h=>lE.many h fun us vs G H' Q r hG q lv=>⟨by rw [<- r.length]; exact q.1,fun p hp=>lv.lst hp r hG q.2⟩
noncomputable def rDix:R2:=fun x y H Q=>∃ a v,x=.ref a/\DGet H a y (some v)/\Q v H
theorem jh1 (hu:X.A.units + 1 < cLine):IxR X rDix:=by
 intro value slice pins s σ H x y v u Q I rx ry h hs
 obtain ⟨a,w,rfl,g,q⟩:=h
 cases rx
 exact PyProof.Rows.tail_any (jdW I g) PySem.F.slot_dict_getitem.lookup (jfD hu I g ry fun w' s3 I3 rw'=>⟨w,H,I3,rw',q⟩) hs
theorem jgR {H:Hp}{G:Gp}{y:U}{v':V}{Q:K1}{Q0:VK}{a:Addr}{xs:List U}{vs:List V}(h:match y with | .int i=>(match atI xs i with | some u=>Q u G | none=>False) | _=>False)
  (ry:RU X.K H y v') (hG:HR X.K H G) (lv:LV X H G Q Q0) (sq:SqL X.K H a vs) (rs:RUs X.K H xs vs):rIx X.K (.ref a) v' H Q0:=by
 cases y with
 | int i=>
  cases ry
  dsimp only at h
  split at h
  ·rename_i u e
   obtain ⟨w,e2,r⟩:=rs.atI e
   exact .inl ⟨_,vs,_,w,rfl,rfl,sq,e2,lv.here r hG h⟩
  ·exact h.elim
 | _=>exact h.elim
theorem jjK {H:Hp}{G:Gp}{x y:U}{v v':V}{Q:K1}{Q0:VK}(rx:RU X.K H x v)(ry:RU X.K H y v')(hG:HR X.K H G)(h:ixU x y G Q)(lv:LV X H G Q Q0):rIx X.K v v' H Q0\/rDix v v' H Q0:=by
 unfold ixU at h
 split at h
 ·obtain ⟨a,vs,rfl,e,rs⟩:=rx
  cases ry
  split at h
  ·rename_i u e1
   obtain ⟨w,e2,r⟩:=rs.atI e1
   exact .inl (.inr (.inl ⟨a,vs,_,w,rfl,rfl,.of e,e2,lv.here r hG h⟩))
  ·exact h.elim
 ·cases rx; cases ry
  obtain ⟨h1,h⟩:=h
  split at h
  ·rename_i c e1
   exact .inl (.inr (.inr ⟨_,_,c,rfl,rfl,h1,e1,lv.str hG h⟩))
  ·exact h.elim
 ·cases rx
  split at h
  ·rename_i g
   obtain ⟨vs,e,rs⟩:=hG.lst g
   exact .inl (jgR h ry hG lv (.of e) rs)
  ·rename_i g
   obtain ⟨ob,vs,e,rs⟩:=hG _ _ g
   exact .inl (jgR h ry hG lv (.inl (.inr ⟨ob,e⟩)) rs)
  ·rename_i kvs g
   obtain ⟨l,e,rs⟩:=hG _ _ g
   split at h
   ·rename_i k ek
    have:=jgg ry ek
    subst this
    split at h
    ·rename_i u eu
     have:=jdw k rs
     rw [eu] at this
     obtain ⟨w,e2,r⟩:=this
     exact .inr ⟨_,w,rfl,by rw [<- e2]; exact DGet.k e,lv.here r hG h⟩
    ·exact h.elim
   ·exact h.elim
  ·rename_i kvs g
   obtain ⟨l,e,rs⟩:=hG _ _ g
   split at h
   ·rename_i ys
    obtain ⟨b,bs,rfl,eb,rb⟩:=ry
    split at h
    ·rename_i k ek
     have:=jfp rb ek
     subst this
     split at h
     ·rename_i u eu
      have:=jdw k rs
      rw [eu] at this
      obtain ⟨w,e2,r⟩:=this
      exact .inr ⟨_,w,rfl,by rw [<- e2]; exact DGet.t e eb,lv.here r hG h⟩
     ·exact h.elim
    ·exact h.elim
   ·exact h.elim
  ·exact h.elim
 ·exact h.elim
theorem u_ix (hu:X.A.units + 1 < cLine)(ha:PE X a (lE X ta))(hb:PE X b (lE X tb))(hs:jd3 b):PE X (.Subscript a b pos) (lE X fun ς G Q E=>ta ς G (fun x G1=>tb ς G1 (fun y G2=>ixU x y G2 Q) E) E):=
 (jk6 ((jjJ (X:=X)).or (jh1 hu)) ha hb hs).imp fun σ H Q0 h=>lE.two h fun x y v v' G H' Q rx ry hG q lv=>jjK rx ry hG q lv
theorem u_no:PO X none (lO X fun _ G Q _=>Q none G):=jhs.imp fun σ H Q0 h=>by
 obtain ⟨ς,G,Q,E,hς,hG,h,lv,lx⟩:=h
 exact lv none G H hG (Fr.refl _ _) h
theorem u_so (ha:PE X e (lE X te)):PO X (some e) (lO X fun ς G Q E=>te ς G (fun x G1=>match x with | .int i=>Q (some i) G1 | _=>False) E):=(jhr ha).imp fun σ H Q0 h=>by
 obtain ⟨ς,G,Q,E,hς,hG,h,lv,lx⟩:=h
 refine ⟨ς,G,_,E,hς,hG,h,fun x v G1 H1 rx hG1 f1 h1=>?_,lx⟩
 dsimp only at h1
 split at h1
 ·cases rx
  exact ⟨_,rfl,lv _ G1 H1 hG1 f1 h1⟩
 ·exact h1.elim
theorem u_sl {lo hi:Option Expr}{p2:Pos}{tl th:Sg->Gp->(Option Int->Gp->Prop)->KX->Prop}(ha:PE X e (lE X te))(hl:PO X lo (lO X tl))(hh:PO X hi (lO X th)) :
  PE X (.Subscript e (.Slice lo hi none p2) pos) (lE X fun ς G Q E=>te ς G (fun x G1=>tl ς G1 (fun l G2=>th ς G2 (fun h G3=>slU x l h G3 Q) E) E) E):=by
 refine (jf9 (SlR.or (jhe (X:=X)) (SlR.or jhf jiC)) ha hl hh).imp fun σ H Q0 h=>?_
 obtain ⟨ς,G,Q,E,hς,hG,h,lv,lx⟩:=h
 refine ⟨ς,G,_,E,hς,hG,h,fun x v G1 H1 rx hG1 f1 h1=>?_,lx⟩
 refine ⟨ς,G1,_,E,hς.ts (f1.ts hG),hG1,h1,fun l G2 H2 hG2 f2 h2=>?_,lx.fr f1⟩
 refine ⟨ς,G2,_,E,(hς.ts (f1.ts hG)).ts (f2.ts hG1),hG2,h2,fun u G3 H3 hG3 f3 h3=>?_,lx.fr (f1.trans f2)⟩
 have lv3:=lv.fr ((f1.trans f2).trans f3)
 have rx3:=rx.ts (fun a xs e=>(f3.ts hG2) a xs ((f2.ts hG1) a xs e))
 unfold slU at h3
 split at h3
 ·obtain ⟨a,vs,rfl,ea,rs⟩:=rx3
  by_cases z:HT.sIx vs.length 0 l=0/\HT.sIx vs.length vs.length u=vs.length
  ·refine .inl (.inr ⟨a,vs,rfl,.of ea,z,?_⟩)
   refine lv3.here (w:=.tup _) ⟨a,vs,rfl,ea,?_⟩ hG3 h3
   have e2:cutV vs l u=vs:=by unfold cutV; rw [z.1,z.2]; simp
   have:=rs.cut l u
   rw [e2] at this
   exact this
  ·exact .inl (.inl ⟨a,vs,rfl,.of ea,z,fun p hp=>lv3.tup hp (rs.cut l u) hG3 h3⟩)
 ·cases rx3
  exact .inr (.inr ⟨_,rfl,h3.1,lv3.str hG3 h3.2⟩)
 ·cases rx3
  split at h3
  ·rename_i us eu
   obtain ⟨vs,sq,rs⟩:=hG3.ls eu
   exact .inr (.inl ⟨_,vs,rfl,sq,fun p hp=>lv3.lst hp (rs.cut l u) hG3 h3⟩)
  ·exact h3.elim
 ·exact h3.elim
theorem jkx {st:Expr}{p2:Pos}(ha:PE X a (lE X ta))(hb:PE X st (lE X tb)):PE X (.Subscript a (.Slice none none (some st) p2) pos) (lE X fun ς G Q E=>ta ς G (fun x G1=>tb ς G1 (fun y G2=>revU x y G2 Q) E) E):=by
 refine (jhz ha hb).imp fun σ H Q0 h=>lE.two h fun x y v v' G H' Q rx ry hG q lv=>?_
 unfold revU at q
 split at q
 ·obtain ⟨a,vs,rfl,ea,rs⟩:=rx
  cases ry
  obtain ⟨rfl,q⟩:=q
  exact ⟨a,vs,rfl,.of ea,rfl,fun p hp=>lv.tup hp rs.reverse hG q⟩
 ·exact q.elim
end
end Z

namespace L2
open PySem PySem.Spec PyProof.Rows
set_option maxHeartbeats 4000000
section
variable {X:Cx}
end
end L2
namespace Z
open PySem L2
set_option maxHeartbeats 4000000
noncomputable def bltN:Blt->Str
 | .len => "len" | .repr => "repr" | .min => "min" | .max => "max" | .sum => "sum" | .all => "all" | .any => "any" | .sorted => "sorted" | .int => "int" | .str => "str" | .isi => "isinstance"
noncomputable def bltV:Blt->Value
 | .len=>.builtin "len" | .repr=>.builtin "repr" | .min=>.builtin "min" | .max=>.builtin "max" | .sum=>.builtin "sum" | .all=>.builtin "all" | .any=>.builtin "any" | .sorted=>.builtin "sorted" | .int=>.type "int" | .str=>.type "str" | .isi=>.builtin "isinstance"
section
variable {X:Cx}
theorem RUs.one {K:PySem.W.Frag}{H:Hp}{u:U}{vs:List V}(r:RUs K H [u] vs):∃ v,vs=[v]/\RU K H u v:=by
 obtain ⟨v,vr,rfl,r1,rs⟩:=r
 cases rs
 exact ⟨v,rfl,r1⟩
theorem RUs.two {K:PySem.W.Frag}{H:Hp}{u w:U}{vs:List V}(r:RUs K H [u,w] vs):∃ v v',vs=[v,v']/\RU K H u v/\RU K H w v':=by
 obtain ⟨v,vr,rfl,r1,rs⟩:=r
 obtain ⟨v',rfl,r2⟩:=rs.one
 exact ⟨v,v',rfl,r1,r2⟩
noncomputable def BlU (X:Cx)(b:Blt):Prop:=∃ r,jaM X (bltV b) r/\∀ us vs G H Q Q0,RUs X.K H us vs->HR X.K H G->bltU b us G Q->LV X H G Q Q0->r vs H Q0
theorem jjX {k:Nat}(hr:Room k X.A)(hc:X.calm=true)(b:Blt):BlU X b:=by
 cases b with
 | len=>
  refine ⟨_,jaM.or (jgt (X:=X)) jfI,fun us vs G H Q Q0 r hG h lv=>?_⟩
  change lenU us G Q at h
  unfold lenU at h
  split at h <;> first | exact h.elim | skip
  ·obtain ⟨v,rfl,r1⟩:=r.one
   obtain ⟨a,ws,rfl,e,rs⟩:=r1
   exact .inl ⟨_,_,rfl,.inr ⟨ws,.of e,rfl⟩,by rw [<- rs.length]; exact lv.int hG h⟩
  ·obtain ⟨v,rfl,r1⟩:=r.one
   cases r1
   exact .inl ⟨_,_,rfl,⟨h.1,rfl⟩,lv.int hG h.2⟩
  ·obtain ⟨v,rfl,r1⟩:=r.one
   cases r1
   split at h
   ·rename_i g
    obtain ⟨ws,e,rs⟩:=hG.lst g
    exact .inl ⟨_,_,rfl,.inl ⟨ws,.of e,rfl⟩,by rw [<- rs.length]; exact lv.int hG h⟩
   ·rename_i g
    obtain ⟨ob,ws,e,rs⟩:=hG _ _ g
    exact .inl ⟨_,_,rfl,.inl ⟨ws,.inl (.inr ⟨ob,e⟩),rfl⟩,by rw [<- rs.length]; exact lv.int hG h⟩
   ·rename_i kvs g
    obtain ⟨l,e,rs⟩:=hG _ _ g
    refine .inr ⟨_,l,rfl,e,?_⟩
    have:∀ {kvs:List (Key×U)} {l:List (Key×V)},RKs X.K H kvs l->kvs.length=l.length:=by
     intro kvs
     induction kvs with
     | nil=>intro l r; cases r; rfl
     | cons p q ih=>intro l r; obtain ⟨v,l',rfl,_,rs⟩:=r; simp [ih rs]
    rw [<- this rs]
    exact lv.int hG h
   ·exact h.elim
 | repr=>
  refine ⟨_,jeO hr,fun us vs G H Q Q0 r hG h lv=>?_⟩
  change jcE us G Q at h
  unfold jcE at h
  split at h <;> first | exact h.elim | skip
  obtain ⟨v,rfl,r1⟩:=r.one
  obtain ⟨d,h1,h2,h3⟩:=h
  exact ⟨v,d,rfl,h1.dv hG r1,h2,lv.str hG h3⟩
 | min=>
  refine ⟨_,jfH hc,fun us vs G H Q Q0 r hG h lv=>?_⟩
  change minU us G Q at h
  unfold minU at h
  split at h <;> first | exact h.elim | skip
  obtain ⟨v,v',rfl,r1,r2⟩:=r.two
  cases r1; cases r2
  exact ⟨_,_,rfl,lv.int hG h⟩
 | max=>exact ⟨fun _ _ _=>False,fun _ _ _ _ _ _ _ _ _ h=>h.elim,fun _ _ _ _ _ _ _ _ h _=>h.elim⟩
 | sum=>
  refine ⟨_,jgs hc,fun us vs G H Q Q0 r hG h lv=>?_⟩
  change sumU us G Q at h
  unfold sumU at h
  split at h <;> first | exact h.elim | skip
  obtain ⟨v,rfl,r1⟩:=r.one
  cases r1
  split at h
  ·rename_i g
   obtain ⟨ws,e,rs⟩:=hG.lst g
   split at h
   ·rename_i ns en
    have:=rs.ints en
    subst this
    exact ⟨_,ns,rfl,.of e,lv.int hG h⟩
   ·exact h.elim
  ·exact h.elim
 | any=>
  refine ⟨_,jgu hc,fun us vs G H Q Q0 r hG h lv=>?_⟩
  change anyU us G Q at h
  unfold anyU at h
  split at h <;> first | exact h.elim | skip
  obtain ⟨v,rfl,r1⟩:=r.one
  cases r1
  split at h
  ·rename_i g
   obtain ⟨ws,e,rs⟩:=hG.lst g
   split at h
   ·rename_i ns en
    have:=rs.bools en
    subst this
    exact ⟨_,ns,rfl,.of e,lv.bl hG h⟩
   ·exact h.elim
  ·exact h.elim
 | all=>exact ⟨fun _ _ _=>False,fun _ _ _ _ _ _ _ _ _ h=>h.elim,fun _ _ _ _ _ _ _ _ h _=>h.elim⟩
 | sorted=>exact ⟨fun _ _ _=>False,fun _ _ _ _ _ _ _ _ _ h=>h.elim,fun _ _ _ _ _ _ _ _ h _=>h.elim⟩
 | int=>
  refine ⟨_,jfM,fun us vs G H Q Q0 r hG h lv=>?_⟩
  change intU us G Q at h
  unfold intU at h
  split at h <;> first | exact h.elim | skip
  ·obtain ⟨v,rfl,r1⟩:=r.one
   cases r1
   exact .inl ⟨_,rfl,lv.int hG h⟩
  ·obtain ⟨v,rfl,r1⟩:=r.one
   cases r1
   exact .inr ⟨_,rfl,lv.int hG h⟩
 | str=>exact ⟨fun _ _ _=>False,fun _ _ _ _ _ _ _ _ _ h=>h.elim,fun _ _ _ _ _ _ _ _ h _=>h.elim⟩
 | isi=>exact ⟨fun _ _ _=>False,fun _ _ _ _ _ _ _ _ _ h=>h.elim,fun _ _ _ _ _ _ _ _ h _=>h.elim⟩
theorem jgv (b:Blt):bootBuiltins (bltN b)=some (bltV b):=by
 cases b with
 | len=>exact PySem.boot_len
 | repr=>exact (by with_unfolding_all rfl)
 | min=>exact PyProof.Rows.boot_min
 | max=>exact PyProof.Rows.boot_max
 | sum=>exact PyProof.Rows.boot_sum
 | any=>exact PyProof.Rows.boot_any
 | all=>exact PyProof.Rows.boot_all
 | sorted=>exact PyProof.Rows.boot_sorted
 | int=>exact PyProof.Rows.boot_int
 | str=>exact PyProof.Rows.boot_str
 | isi=>exact PyProof.Rows.boot_isinstance
theorem jjY (b:Blt):bltN b ≠ "__name__" /\ (bltN b == ("__debug__" : Str))=false:=by cases b <;> decide
theorem jkG {b:Blt}{e:Expr}{es:List Expr}{ts:UA}{p pos:Pos}(hb:BlU X b)(hg:Gl X (bltN b))(hm:X.mg (bltN b)=none)(ha:PA X (e::es) (lA X ts))
  (he:starEach (e::es) X.env=(false,eval e X.env)::starEach es X.env) (hpl:(backTo pos (starEach es X.env)).any (·.1)=false) :
  PE X (.Call (.Name (bltN b) p) (e::es) [] pos) (lE X fun ς G Q E=>ts ς G (fun us G1=>bltU b us G1 Q) E):=by
 obtain ⟨r,h1,h2⟩:=hb
 have fin:∀ σ H Q0,lE X (fun ς G Q E=>ts ς G (fun us G1=>bltU b us G1 Q) E) σ H Q0->tCB r (lA X ts) σ H Q0:=fun σ H Q0 h=>lE.many h fun us vs G H' Q rs hG q lv=>h2 us vs G H' Q Q0 rs hG q lv
 have hv:=jgv b
 obtain ⟨n1,n2⟩:=jjY b
 cases b
 all_goals first
  | exact (jbI h1 hg hm hv ha n1 n2 he hpl).imp fin
  | exact (jbN h1 hg hm hv ha n1 n2 he hpl).imp fin
end
noncomputable def mthN:Mth->Str
 | .append => "append" | .extend => "extend" | .insert => "insert" | .pop => "pop" | .reverse => "reverse" | .index => "index" | .join => "join" | .get => "get"
section
variable {X:Cx}
theorem RUs.mk {K:PySem.W.Frag}{H:Hp}{u:U}{v:V}{us:List U}{vs:List V}(r:RU K H u v)(rs:RUs K H us vs):RUs K H (u::us) (v::vs):=⟨v,vs,rfl,r,rs⟩
structure MtK (X:Cx)(m:Mth)(T id:String):Prop where
 pa:PlainAttrs T
 sl:Slot T (mthN m) id
 ty:typeOf (.builtin id)=pure (.type "method_descriptor")
noncomputable def MtU (X:Cx)(m:Mth):Prop:=∀ x G1 T id,mtU m x G1=some (T,id)->MtK X m T id/\(∀ v H1,RU X.K H1 x v->HR X.K H1 G1->tyV X.K T v H1)/\
 ∃ r,MtR X id r/\∀ us v vs G H Q Q0,RU X.K H x v->RUs X.K H us vs->HR X.K H G->jbk m x us G Q->LV X H G Q Q0->r v vs H Q0
theorem jiw {a:Addr}{G:Gp}{us:List U}(g:G a=some (.lst us)):∀ v H1,RU X.K H1 (.loc a) v->HR X.K H1 G->tyV X.K "list" v H1:=fun v H1 r hG=>by
 cases r
 obtain ⟨vs,e,_⟩:=hG.lst g
 exact .inl ⟨rfl,vs,.of e⟩
theorem jfj:MtU X .append:=by
 intro x G1 T id h
 dsimp only [mtU] at h
 split at h <;> first | contradiction | skip
 split at h
 ·rename_i g
  cases h
  refine ⟨⟨PySem.F.plainAttrs_list,PySem.F.slot_list_append,PySem.F.type_list_append⟩,jiw g,_,jdb,fun us v vs G H Q Q0 rx rs hG h lv=>?_⟩
  cases rx
  dsimp only [jbk] at h
  unfold jd0 at h
  split at h <;> first | exact h.elim | skip
  rename_i e2
  cases e2
  split at h
  ·rename_i g2
   obtain ⟨ws,e,r⟩:=hG.lst g2
   obtain ⟨y,rfl,ry⟩:=rs.one
   refine ⟨_,ws,y,rfl,rfl,e,by rw [<- r.length]; exact h.1,?_⟩
   exact lv.wl g2 (r.append (RUs.mk (us:=[]) (vs:=[]) ry rfl)) hG (w:=.non) rfl h.2
  ·exact h.elim
 ·cases h
theorem jhS:MtU X .join:=by
 intro x G1 T id h
 dsimp only [mtU] at h
 split at h <;> first | contradiction | skip
 cases h
 refine ⟨⟨PySem.F.plainAttrs_str,PySem.F.slot_str_join,PySem.F.type_str_join⟩,fun v H1 r hG=>by cases r; rfl,_,mt_join,fun us v vs G H Q Q0 rx rs hG h lv=>?_⟩
 cases rx
 dsimp only [jbk] at h
 unfold jhY at h
 split at h <;> first | exact h.elim | skip
 ·rename_i e2
  cases e2
  obtain ⟨y,rfl,ry⟩:=rs.one
  cases ry
  split at h
  ·rename_i g2
   obtain ⟨ws,e,r⟩:=hG.lst g2
   split at h
   ·rename_i ys ey
    have:=r.strs ey
    subst this
    exact ⟨_,_,ys,rfl,rfl,.inl (.of e),h.1,h.2.1,lv.str hG h.2.2⟩
   ·exact h.elim
  ·exact h.elim
theorem jgM (m:Mth):MtU X m:=by
 cases m with
 | append=>exact jfj
 | extend=>intro x G1 T id h; cases h
 | insert=>intro x G1 T id h; cases h
 | pop=>intro x G1 T id h; cases h
 | reverse=>intro x G1 T id h; cases h
 | index=>intro x G1 T id h; cases h
 | join=>exact jhS
 | get=>intro x G1 T id h; unfold mtU at h; split at h <;> contradiction
variable {m:Mth}{o e:Expr}{es:List Expr}{to:UE}{ts:UA}{apos cpos:Pos}
theorem jiq (hm:MtU X m)(ho:PE X o (lE X to))(ha:PA X (e::es) (lA X ts))(hbase:attributeBase o (mthN m) X.env (eval o X.env)=eval o X.env)
  (hfew:((backTo cpos (starEach (e::es) X.env)).all (fun x=>!x.1) && (backToKw cpos (keywordEach [] X.env)).all (fun x=>x.1.isSome)
   && decide ((e::es).length + ([]:List Keyword).length + (if ([]:List Keyword).isEmpty then 0 else 1) < 30))=true)
  (hline:(apos.endLine == cpos.line)=true) (hs:starEach (e::es) X.env=(false,eval e X.env)::starEach es X.env) (hplain:(backTo cpos (starEach es X.env)).any (·.1)=false) :
  PE X (.Call (.Attribute o (mthN m) apos) (e::es) [] cpos) (lE X fun ς G Q E=>to ς G (fun x G1=>match mtU m x G1 with | some _=>ts ς G1 (fun us G2=>jbk m x us G2 Q) E | none=>False) E):=by
 intro pins s σ H Q0 I h
 obtain ⟨ς,G,Q,E,hς,hG,h,lv,lx⟩:=h
 refine PySem.wpAny_Call_method_late hbase hfew hline rfl (thn (ho pins s σ H (fun v H1=>∃ x G1 T id,RU X.K H1 x v/\HR X.K H1 G1/\Fr H G H1 G1/\mtU m x G1=some (T,id)/\ts ς G1 (fun us G2=>jbk m x us G2 Q) E) I
  ⟨ς,G,_,E,hς,hG,h,fun x v G1 H1 rx hG1 f1 h1=>?_,lx⟩) fun v s1 ⟨xv,H1,I1,r1,x,G1,T,id,rx,hG1,f1,em,h1⟩=>?_)
 ·dsimp only at h1
  split at h1
  ·rename_i p ep
   exact ⟨x,G1,p.1,p.2,rx,hG1,f1,ep,h1⟩
  ·exact h1.elim
 ·obtain ⟨k,hty,r,hr1,hr2⟩:=hm x G1 T id em
  obtain ⟨t1,t2⟩:=jgz I1 r1 (hty xv H1 rx hG1)
  refine ⟨T,id,k.pa,k.sl,k.ty,t1,t2,?_⟩
  have hA:=ha cpos pins s1 σ H1 (fun vs H2=>∃ us G2,RUs X.K H2 us vs/\HR X.K H2 G2/\Fr H1 G1 H2 G2/\jbk m x us G2 Q) I1 ⟨ς,G1,_,E,hς.ts (f1.ts hG),hG1,h1,fun us vs G2 H2 rs hG2 f2 h2=>⟨us,G2,rs,hG2,f2,h2⟩,lx.fr f1⟩
  rw [hs] at hA ⊢
  refine Calls.callWith_builtin (by show (false || (backTo cpos (starEach es X.env)).any (·.1))=false; rw [hplain] <;> rfl) (Calls.evalArgs_plain ?_)
  exact thn hA fun us s2 ⟨vs,H2,I2,r2,ws,G2,rs,hG2,f2,h2⟩=>hr1 pins s2 σ H2 xv vs v us Q0 I2 r1 r2 (hr2 ws xv vs G2 H2 Q Q0 (rx.ts (f2.ts hG1)) rs hG2 h2 (lv.fr (f1.trans f2)))
theorem jg6 (hm:MtU X m)(ho:PE X o (lE X to))(hbase:attributeBase o (mthN m) X.env (eval o X.env)=eval o X.env)(hline:(apos.endLine == cpos.line)=true) :
  PE X (.Call (.Attribute o (mthN m) apos) [] [] cpos) (lE X fun ς G Q E=>to ς G (fun x G1=>match mtU m x G1 with | some _=>jbk m x [] G1 Q | none=>False) E):=by
 intro pins s σ H Q0 I h
 obtain ⟨ς,G,Q,E,hς,hG,h,lv,lx⟩:=h
 refine PySem.wpAny_Call_method0_late hbase hline (thn (ho pins s σ H (fun v H1=>∃ x G1 T id,RU X.K H1 x v/\HR X.K H1 G1/\Fr H G H1 G1/\mtU m x G1=some (T,id)/\jbk m x [] G1 Q) I
  ⟨ς,G,_,E,hς,hG,h,fun x v G1 H1 rx hG1 f1 h1=>?_,lx⟩) fun v s1 ⟨xv,H1,I1,r1,x,G1,T,id,rx,hG1,f1,em,h1⟩=>?_)
 ·dsimp only at h1
  split at h1
  ·rename_i p ep
   exact ⟨x,G1,p.1,p.2,rx,hG1,f1,ep,h1⟩
  ·exact h1.elim
 ·obtain ⟨k,hty,r,hr1,hr2⟩:=hm x G1 T id em
  obtain ⟨t1,t2⟩:=jgz I1 r1 (hty xv H1 rx hG1)
  exact ⟨T,id,k.pa,k.sl,k.ty,t1,t2,Calls.callWith_builtin rfl (PySem.evalArgs_none (hr1 pins s1 σ H1 xv [] v [] Q0 I1 r1 .nil (hr2 [] xv [] G1 H1 Q Q0 rx rfl hG1 h1 (lv.fr f1))))⟩
end
end Z

namespace L2
open PySem PySem.Spec PyProof.Rows
set_option maxHeartbeats 4000000
section
variable {X:Cx}{tg:Expr}
noncomputable def iSeq (K:PySem.W.Frag)(tl:TE):TI:=fun σ H R=>tl σ H fun x H1=>∃ a,x=.ref a/\(((∃ xs,SqL K H1 a xs)/\R (Itl K a) H1)\/((∃ xs,SqT K H1 a xs)/\R (Itt K a) H1))
theorem ji0 {l:Expr}{tl:TE}(hl:PE X l tl):PI X tg l (iSeq X.K tl):=by
 intro pins s σ H R I h
 refine thn (hl pins s σ H _ I h) fun v s1 ⟨x,H1,I1,r1,q1⟩=>?_
 obtain ⟨a,e,⟨⟨xs,hq⟩,q⟩ | ⟨⟨xs,hq⟩,q⟩⟩:=q1
 ·subst e
  cases r1
  obtain ⟨its,rv,p,hz⟩:=I1.list hq
  refine wpAny_pyIter_list p.isList ?_
  refine ⟨s1.heap.objs.size,[s1.heap.objs.size],_,_,H1,rfl,I1.kept (t':=s1.toks) fun b o e=>Heap.get?_push_of_some _ e,jeU a _,⟨_,Heap.get?_push_size _ rfl,rfl,rfl⟩,fun b hb=>?_,q⟩
  have e:b=s1.heap.objs.size:=by simpa using hb
  subst e
  exact I1.fpOk (Nat.le_refl _) (I1.hok.fresh (Nat.le_refl _))
 ·subst e
  cases r1
  obtain ⟨its,rv,p,hz⟩:=I1.tuple hq
  refine wpAny_pyIter_tuple (show s1.heap.IsTuple a its.toArray from p) ?_
  refine ⟨s1.heap.objs.size,[s1.heap.objs.size],_,_,H1,rfl,I1.kept (t':=s1.toks) fun b o e=>Heap.get?_push_of_some _ e,jeu a _,⟨_,Heap.get?_push_size _ rfl,rfl,rfl⟩,fun b hb=>?_,q⟩
  have e:b=s1.heap.objs.size:=by simpa using hb
  subst e
  exact I1.fpOk (Nat.le_refl _) (I1.hok.fresh (Nat.le_refl _))
theorem PI.imp {iter:Expr}{t t':TI}(h:PI X tg iter t)(i:∀ σ H R,t' σ H R->t σ H R):PI X tg iter t':=fun pins s σ H R I q=>h pins s σ H R I (i σ H R q)
theorem PG.imp {target:Expr}{t t':TG}(h:PG X target t)(i:∀ v σ H Q,t' v σ H Q->t v σ H Q):PG X target t':=fun pins s σ H v u Q I r q=>h pins s σ H v u Q I r (i v σ H Q q)
theorem PGs.imp {ts:List Expr}{t t':TGs}(h:PGs X ts t)(i:∀ v σ H Q,t' v σ H Q->t v σ H Q):PGs X ts t':=fun pins s σ H v u Q I r q=>h pins s σ H v u Q I r (i v σ H Q q)
theorem PIfs.imp {ifs:List Expr}{t t':TT}(h:PIfs X ifs t)(i:∀ σ H Q,t' σ H Q->t σ H Q):PIfs X ifs t':=fun pins s σ H Q I q=>h pins s σ H Q I (i σ H Q q)
end
end L2
namespace Z
open PySem L2
set_option maxHeartbeats 4000000
noncomputable abbrev UI:=Sg->Gp->(List U->(Gp->Prop)->Gp->Prop)->KX->Prop
noncomputable def jd2 (K:PySem.W.Frag)(J:L2.It)(H:Hp)(G:Gp)(xs:List U)(ok:Gp->Prop):Prop:=∀ i H' G',TS H H'->HR K H' G'->ok G'->
 (∀ u,xs[i]?=some u->J.go i H'/\∀ v H'',J.yld i H' v H''->RU K H'' u v/\HR K H'' G'/\Fr H' G' H'' G')/\(i=xs.length->J.stop i H')
theorem jd2.mono {K:PySem.W.Frag}{J:L2.It}{H H2:Hp}{G G2:Gp}{xs:List U}{ok:Gp->Prop}(h:jd2 K J H G xs ok)(t:TS H H2):jd2 K J H2 G2 xs ok:=fun i H' G' t'=>h i H' G' fun a ys e=>t' a ys (t a ys e)
section
variable (X:Cx)
noncomputable def lI (t:UI):TI:=fun σ H R=>∃ ς G Q E,SR X.K H ς σ/\HR X.K H G/\t ς G Q E/\(∀ xs ok G' H' J,HR X.K H' G'->Fr H G H' G'->jd2 X.K J H' G' xs ok->Q xs ok G'->R J H')/\LX X σ H G E
noncomputable def lG (K:PySem.W.Frag)(t:U->Sg->(Sg->Prop)->Prop):TG:=fun v σ H Q0=>∃ u ς k,RU K H u v/\SR K H ς σ/\t u ς k/\∀ ς' σ',SR K H ς' σ'->k ς'->Q0 σ' H
noncomputable def lGs (K:PySem.W.Frag)(t:List U->Sg->(Sg->Prop)->Prop):TGs:=fun vs σ H Q0=>∃ us ς k,RUs K H us vs/\SR K H ς σ/\t us ς k/\∀ ς' σ',SR K H ς' σ'->k ς'->Q0 σ' H
end
section
variable {X:Cx}{tg:Expr}{pos:Pos}{te ta tb:UE}
theorem u_ie {l:Expr}(hl:PE X l (lE X te)):PI X tg l (lI X fun ς G Q E=>te ς G (fun x G1=>itU x G1 fun xs ok=>Q xs ok G1) E):=by
 refine (ji0 hl).imp fun σ H R h=>?_
 obtain ⟨ς,G,Q,E,hς,hG,h,lv,lx⟩:=h
 refine ⟨ς,G,_,E,hς,hG,h,fun x v G1 H1 rx hG1 f1 h1=>?_,lx⟩
 dsimp only at h1
 unfold itU at h1
 split at h1
 ·obtain ⟨a,vs,rfl,ea,rs⟩:=rx
  refine ⟨a,rfl,.inr ⟨⟨vs,.of ea⟩,lv _ _ _ H1 _ hG1 f1 (fun i H' G' f hr _=>?_) h1⟩⟩
  have e':H' a=some (.tup vs):=f a _ ea
  refine ⟨fun u eu=>?_,fun e=>⟨vs,.of e',by rw [e,rs.length]; exact Nat.le_refl _⟩⟩
  obtain ⟨w,ew,rw'⟩:=rs.get eu
  refine ⟨⟨vs,w,.of e',ew⟩,fun v H'' y=>?_⟩
  obtain ⟨rfl,y⟩:=y
  have:=y vs (.of e')
  rw [ew] at this
  cases this
  exact ⟨rw'.ts f,hr,Fr.refl _ _⟩
 ·cases rx
  rename_i a
  split at h1
  ·rename_i us eu
   obtain ⟨vs,sq,rs⟩:=hG1.ls eu
   refine ⟨_,rfl,.inl ⟨⟨vs,sq⟩,lv _ _ _ H1 _ hG1 f1 (fun i H' G' f hr ok=>?_) h1⟩⟩
   obtain ⟨vs',sq',rs'⟩:=hr.ls ok
   refine ⟨fun u eu=>?_,fun e=>⟨vs',sq',by rw [e,rs'.length]; exact Nat.le_refl _⟩⟩
   obtain ⟨w,ew,rw'⟩:=rs'.get eu
   refine ⟨⟨vs',w,sq',ew⟩,fun v H'' y=>?_⟩
   obtain ⟨rfl,y⟩:=y
   have:=y vs' sq'
   rw [ew] at this
   cases this
   exact ⟨rw',hr,Fr.refl _ _⟩
  ·exact h1.elim
 ·exact h1.elim
theorem jf0 {K:PySem.W.Frag}{H:Hp}{G:Gp}(lo:Int)(n:Nat):jd2 K (Itr lo n) H G (rngU lo n) fun _=>True:=by
 intro i H' G' f hr _
 have hl:(rngU lo n).length=n:=by simp [rngU]
 refine ⟨fun u eu=>?_,fun e=>by rw [hl] at e; exact Nat.le_of_eq e.symm⟩
 have hi:i < n:=by have:=(List.getElem?_eq_some_iff.mp eu).1; omega
 refine ⟨hi,fun v H'' y=>?_⟩
 obtain ⟨rfl,rfl⟩:=y
 have:(rngU lo n)[i]?=some (.int (lo + i)):=by simp [rngU,List.getElem?_map,List.getElem?_range hi]
 rw [this] at eu
 cases eu
 exact ⟨rfl,hr,Fr.refl _ _⟩
theorem u_r1 {a : Expr}{p : Pos}(hg : Gl X "range")(hm : X.mg "range" = none)(ha : PE X a (lE X ta))(hs : starEach [a] X.env = [(false, eval a X.env)]) : PI X tg (.Call (.Name "range" p) [a] [] pos) (lI X fun ς G Q E => ta ς G (fun x G1 => match x with
      | .int j => -(2 ^ 62) <= j /\ j < 2 ^ 62 /\ Q (rngU 0 j.toNat) (fun _ => True) G1
      | _ => False) E) := by
  refine (jfc hg hm (jd7 ha jfU hs) hs).imp fun σ H R h => ?_
  obtain ⟨ς, G, Q, E, hς, hG, h, lv, lx⟩ := h
  refine ⟨ς, G, fun us G1 => match us with | [x] => (match x with | .int j => -(2 ^ 62) <= j /\ j < 2 ^ 62 /\ Q (rngU 0 j.toNat) (fun _ => True) G1 | _ => False) | _ => False, E, hς, hG, h, fun us vs G1 H1 rs hG1 f1 h1 => ?_, lx⟩
  dsimp only at h1
  split at h1
  · obtain ⟨v, rfl, r⟩ := rs.one
    split at h1
    · cases r
      exact ⟨_, rfl, h1.1, h1.2.1, lv _ _ G1 H1 _ hG1 f1 (jf0 0 _) h1.2.2⟩
    · exact h1.elim
  · exact h1.elim
theorem SR.set {K:PySem.W.Frag}{H:Hp}{ς:Sg}{σ:St}{u:U}{v:V}(h:SR K H ς σ)(r:RU K H u v)(i:Nat):SR K H (ς.set i (some u)) (σ.set i (some v)):=by
 refine ⟨by simp [h.1],fun j w e=>?_⟩
 by_cases hj:j=i
 ·subst hj
  by_cases hl:j < ς.length
  ·rw [List.getElem?_set_self hl] at e
   cases e
   exact ⟨v,List.getElem?_set_self (by rw [<- h.1]; exact hl),r⟩
  ·rw [List.getElem?_eq_none (by simp; omega)] at e
   cases e
 ·rw [List.getElem?_set_ne (Ne.symm hj)] at e ⊢
  exact h.2 j w e
theorem u_tn {i:Nat}{x:Str}(hN:X.N.Nodup)(hi:X.N[i]?=some x)(hx:Loc X.env.scope x)(hf:X.fn x=true\/X.env.scope.names.lookup x=some .local):PG X (.Name x pos) (lG X.K (tgU (.n i))):=by
 refine (jdH hN hi hx hf).imp fun v σ H Q h=>?_
 obtain ⟨u,ς,k,r,hς,h,q⟩:=h
 exact q _ _ (hς.set r i) h
theorem u_tt {es:List Expr}{k n:Nat}{ts:Tgs}(hc:X.calm=true)(h:PGs X es (lGs X.K (tgsU ts)))(hn:(assignEach es X.env).length=n)(hst:(assignEach es X.env).findIdx? (·.1)=none)(hl:∀ us ς k,tgsU ts us ς k->us.length=n) :
  PG X (.Tuple es k pos) (lG X.K (tgU (.t ts))):=by
 refine (ji1 hc h hn hst).imp fun v σ H Q h=>?_
 obtain ⟨u,ς,k,r,hς,h,q⟩:=h
 cases u with
 | tup us=>
  obtain ⟨a,vs,rfl,e,rs⟩:=r
  have h':tgsU ts us ς k:=h
  exact ⟨a,vs,rfl,.of e,by rw [<- rs.length]; exact hl _ _ _ h',us,ς,k,rs,hς,h',q⟩
 | _=>exact h.elim
theorem jku:PGs X [] (lGs X.K (tgsU .nil)):=by
 refine jhx.imp fun vs σ H Q h=>?_
 obtain ⟨us,ς,k,r,hς,h,q⟩:=h
 obtain ⟨rfl,h⟩:=h
 cases r
 exact ⟨rfl,q _ _ hς h⟩
theorem jkv {e:Expr}{es:List Expr}{t:Tg}{ts:Tgs}(h1:PG X e (lG X.K (tgU t)))(h2:PGs X es (lGs X.K (tgsU ts)))(hs:(assignEach (e::es) X.env).map (·.2)=assign e X.env::(assignEach es X.env).map (·.2)) :
  PGs X (e::es) (lGs X.K (tgsU (.cons t ts))):=by
 refine (jf8 h1 h2 hs).imp fun vs σ H Q h=>?_
 obtain ⟨us,ς,k,r,hς,h,q⟩:=h
 cases us with
 | nil=>exact h.elim
 | cons u us=>
  obtain ⟨v,vr,rfl,r1,rs⟩:=r
  exact ⟨v,vr,rfl,u,ς,_,r1,hς,h,fun ς' σ' hs' h'=>⟨us,ς',k,rs,hs',h',q⟩⟩
end
noncomputable def lE0 (K:PySem.W.Frag)(t:UE):TE:=fun τ H Q0=>∃ ς G Q,SR K H ς τ/\HR K H G/\t ς G Q (fun _ _=>False)/\∀ w v G' H',RU K H' w v->HR K H' G'->Fr H G H' G'->Q w G'->Q0 v H'
noncomputable def lT0 (K:PySem.W.Frag)(t:Sg->Gp->(Bool->Gp->Prop)->Prop):TT:=fun τ H Q0=>∃ ς G Q,SR K H ς τ/\HR K H G/\t ς G Q/\∀ b G' H',HR K H' G'->Fr H G H' G'->Q b G'->Q0 b H'
theorem LX.no {X:Cx}{σ:St}{H:Hp}{G:Gp}:LX X σ H G fun _ _=>False:=fun _ _ _ _ _ _ _ _ _ _ h=>h.elim
theorem lE0.of {X:Cx}{e:Expr}{t:UE}(h:PE X e (lE X t)):PE X e (lE0 X.K t):=h.imp fun σ H Q0 ⟨ς,G,Q,h1,h2,h3,h4⟩=>⟨ς,G,Q,_,h1,h2,h3,h4,LX.no⟩
theorem lT0.of {X:Cx}{e:Expr}{t:UT}(h:PT X e (lT X t)):PT X e (lT0 X.K fun ς G Q=>t ς G Q fun _ _=>False):=h.imp fun σ H Q0 ⟨ς,G,Q,h1,h2,h3,h4⟩=>⟨ς,G,Q,_,h1,h2,h3,h4,LX.no⟩
mutual
noncomputable def tgS:Tg->List Nat
 | .n i=>[i]
 | .t ts=>tgsS ts
noncomputable def tgsS:Tgs->List Nat
 | .nil=>[]
 | .cons t ts=>tgS t++tgsS ts
end
noncomputable def Ext (ς0 ς:Sg):Prop:=ς0.length=ς.length/\∀ (j:Nat) (w:U),ς0[j]?=some (some w)->ς[j]?=some (some w)
mutual
theorem jgA {ς0:Sg}:∀ {t:Tg} {u:U} {ς:Sg} {k:Sg->Prop},(∀ i∈tgS t,∀ w,ς0[i]?≠some (some w))->Ext ς0 ς->tgU t u ς k->tgU t u ς fun ς'=>k ς'/\Ext ς0 ς'
 | .n i,u,ς,k,hf,he,h=>by
  refine ⟨h,by simp [he.1],fun j w e=>?_⟩
  have hj:j≠i:=fun z=>hf i (by simp [tgS]) w (z ▸ e)
  rw [List.getElem?_set_ne (Ne.symm hj)]
  exact he.2 j w e
 | .t ts,u,ς,k,hf,he,h=>by
  cases u with
  | tup us=>exact jeX (ts:=ts) (us:=us) (fun i hi=>hf i hi) he h
  | _=>exact h
theorem jeX {ς0:Sg}:∀ {ts:Tgs} {us:List U} {ς:Sg} {k:Sg->Prop},(∀ i∈tgsS ts,∀ w,ς0[i]?≠some (some w))->Ext ς0 ς->tgsU ts us ς k->tgsU ts us ς fun ς'=>k ς'/\Ext ς0 ς'
 | .nil,us,ς,k,_,he,h=>⟨h.1,h.2,he⟩
 | .cons t ts,us,ς,k,hf,he,h=>by
  cases us with
  | nil=>exact h
  | cons u r=>
   have:=jgA (t:=t) (u:=u) (fun i hi=>hf i (by simp [tgsS,hi])) he h
   refine jbL this fun ς' ⟨h1,h2⟩=>jeX (fun i hi=>hf i (by simp [tgsS,hi])) h2 h1
theorem jbL:∀ {t:Tg} {u:U} {ς:Sg} {k k':Sg->Prop},tgU t u ς k->(∀ ς,k ς->k' ς)->tgU t u ς k'
 | .n _,_,_,_,_,h,i=>i _ h
 | .t ts,u,ς,_,_,h,i=>by
  cases u with
  | tup us=>exact jd8 (ts:=ts) (us:=us) h i
  | _=>exact h
theorem jd8:∀ {ts:Tgs} {us:List U} {ς:Sg} {k k':Sg->Prop},tgsU ts us ς k->(∀ ς,k ς->k' ς)->tgsU ts us ς k'
 | .nil,_,_,_,_,h,i=>⟨h.1,i _ h.2⟩
 | .cons t ts,us,ς,_,_,h,i=>by
  cases us with
  | nil=>exact h
  | cons u r=>exact jbL (t:=t) h fun ς' h'=>jd8 h' i
end
theorem SR.ext {K:PySem.W.Frag}{H:Hp}{ς0 ς:Sg}{σ:St}(h:SR K H ς σ)(e:Ext ς0 ς):SR K H ς0 σ:=⟨e.1.trans h.1,fun i u q=>h.2 i u (e.2 i u q)⟩
theorem SR.pick {K:PySem.W.Frag}{H:Hp}{ς:Sg}{σ:St}(h:SR K H ς σ)(pick:List (Option Nat)):SR K H (ja9 pick ς) (pick.map fun o=>o.bind fun j=>(σ[j]?).join):=by
 refine ⟨by simp [ja9],fun i u e=>?_⟩
 unfold ja9 at e
 rw [List.getElem?_map] at e ⊢
 cases q:pick[i]? with
 | none=>rw [q] at e; cases e
 | some o=>
  rw [q] at e
  cases o with
  | none=>simp at e
  | some j=>
   simp only [Option.map_some,Option.bind_some,Option.some.injEq] at e ⊢
   have e':ς[j]?=some (some u):=by
    cases z:ς[j]? with
    | none=>rw [z] at e; cases e
    | some w=>rw [z] at e; simp at e; rw [e]
   obtain ⟨v,ev,r⟩:=h.2 j u e'
   exact ⟨v,by rw [ev]; rfl,r⟩
section
variable {K:PySem.W.Frag}{H:Hp}{G:Gp}
theorem HR.newH (h:HR K H G){p:Addr}{o:HO}(e:H p=none):HR K (upd H p o) G:=fun a ob q=>by
 have m:=h a ob q
 obtain ⟨ho,e2⟩:=m.there
 exact m.keep (jac (jad e2 e)) (TS.new e)
theorem TS.hid {p:Addr}{ys:List V}{o:HO}(e:H p=some (.lst ys)):TS H (upd H p o):=fun a xs h=>by
 have:a≠p:=fun z=>by subst z; rw [e] at h; cases h
 rw [jac this]; exact h
theorem HR.hid (h:HR K H G){p:Addr}{ys:List V}{o:HO}(e:H p=some (.lst ys))(g:G p=none):HR K (upd H p o) G:=fun a ob q=>by
 have:a≠p:=fun z=>by subst z; rw [g] at q; cases q
 exact (h a ob q).keep (jac this) (TS.hid e)
theorem HR.know (h:HR K H G){p:Addr}{ys:List V}{us:List U}(e:H p=some (.lst ys))(r:RUs K H us ys):HR K H (gup G p (.lst us)):=fun a ob q=>by
 by_cases z:a=p
 ·subst z
  rw [jaq] at q
  cases q
  exact ⟨ys,e,r⟩
 ·rw [jaX z] at q
  exact h a ob q
end
section
variable {X:Cx}{pick:List (Option Nat)}{ti:UI}{t:Tg}{tc:Sg->Gp->(Bool->Gp->Prop)->Prop}{te:UE}{σ:St}{H:Hp}{Q0:VK}
noncomputable abbrev lcD (pick : List (Option Nat))(ti : UI)(t : Tg)(tc : Sg -> Gp -> (Bool -> Gp -> Prop) -> Prop)(te : UE) : UE := fun ς G Q E => ti ς G (fun xs ok G1 => xs.length <= sizeLine /\ jca ok (fun x G2 k => tgU t x (ja9 pick ς) fun τ => tc τ G2 (fun b G3 => if b = true then te τ G3 (fun u G4 => k (some u) G4) (fun _ _ => False) else k none G3)) xs [] G1
      fun us G5 => newO G5 (.lst us) Q) E
noncomputable def FrX (D:Addr)(H:Hp)(G:Gp)(H':Hp)(G':Gp):Prop:=∀ a o,a≠D->H a=some o->G a=none->H' a=some o/\G' a=none
theorem jjx {xs:List U}{ok:Gp->Prop}{G1:Gp}{H1:Hp}{J:L2.It}{τu:Sg}{τ0:St}{D:Addr}{acc0:List U}{ys0:List V}{kk:List U->Gp->Prop}{QQ:St->List V->Hp->Prop}
  (free:∀ i∈tgS t,∀ w,τu[i]?≠some (some w)) (wk:jd2 X.K J H1 G1 xs ok) (hG1:HR X.K H1 G1) (eD1:H1 D=some (.lst ys0)) (gD1:G1 D=none) (ra1:RUs X.K H1 acc0 ys0) (sr1:SR X.K H1 τu τ0) (hl:acc0.length + xs.length<=sizeLine)
  (h1:jca ok (fun x G2 k=>tgU t x τu fun τ=>tc τ G2 (fun b G3=>if b=true then te τ G3 (fun u G4=>k (some u) G4) (fun _ _=>False) else k none G3)) xs acc0 G1 kk)
  (fin:∀ τ' acc' ys' G' H',SR X.K H' τu τ'->HR X.K H' G'->FrX D H1 G1 H' G'->H' D=some (.lst ys')->G' D=none->RUs X.K H' acc' ys'->kk acc' G'->QQ τ' ys' H') :
  jfR J (lG X.K (tgU t)) (lT0 X.K tc) (emA (lE0 X.K te) D) QQ τ0 ys0 H1:=by
 refine ⟨fun i m τ ys H'=>m=xs.length - i/\i<=xs.length/\∃ acc G',SR X.K H' τu τ/\HR X.K H' G'/\FrX D H1 G1 H' G'/\H' D=some (.lst ys)/\G' D=none/\RUs X.K H' acc ys/\acc.length<=acc0.length + i/\
  jca ok (fun x G2 k=>tgU t x τu fun τ=>tc τ G2 (fun b G3=>if b=true then te τ G3 (fun u G4=>k (some u) G4) (fun _ _=>False) else k none G3)) (xs.drop i) acc G' kk,⟨xs.length,by simp,Nat.zero_le _,acc0,G1,sr1,hG1,fun _ _ _ a b=>⟨a,b⟩,eD1,gD1,ra1,by omega,by simpa using h1⟩,?_⟩
 rintro i m τ ys H' ⟨rfl,hi,acc,G',sr,hr,f,eD,gD',ra,hal,hc⟩
 have ts:TS H1 H':=fun a zs e=>(f a _ (fun z=>by rw [z,eD1] at e; cases e) e (hG1.tupNone e)).1
 by_cases hlt:i < xs.length
 ·rw [List.drop_eq_getElem_cons hlt] at hc
  obtain ⟨hok,hb⟩:=hc
  obtain ⟨w1,_⟩:=wk i H' G' ts hr hok
  obtain ⟨go,yl⟩:=w1 xs[i] (by simp [hlt])
  refine .inr ⟨go,fun v H'' y=>?_⟩
  obtain ⟨rx,hr2,f2⟩:=yl v H'' y
  have sr2:=sr.ts (f2.ts hr)
  refine ⟨xs[i],τu,_,rx,sr2,jgA free ⟨rfl,fun _ _ e=>e⟩ hb,fun τv σ' hs' ⟨hk,he⟩=>?_⟩
  refine ⟨τv,G',_,hs',hr2,hk,fun b G3 H3 hr3 f3 h3=>?_⟩
  have f13:FrX D H1 G1 H3 G3:=fun a o n h g=>let ⟨a1,a2⟩:=f a o n h g; let ⟨b1,b2⟩:=f2 a o a1 a2; f3 a o b1 b2
  have hs3:SR X.K H3 τu σ':=(hs'.ext he).ts (f3.ts hr2)
  obtain ⟨eD2,gD2⟩:=f2 D _ eD gD'
  obtain ⟨eD3,gD3⟩:=f3 D _ eD2 gD2
  have ra3:=(ra.ts (f2.ts hr)).ts (f3.ts hr2)
  cases b with
  | false=>
   rw [if_neg Bool.false_ne_true] at h3
   dsimp only
   rw [if_neg Bool.false_ne_true]
   exact ⟨xs.length - (i + 1),by omega,rfl,hlt,acc,G3,hs3,hr3,f13,eD3,gD3,ra3,by omega,h3⟩
  | true=>
   rw [if_pos rfl] at h3
   dsimp only
   rw [if_pos rfl]
   refine ⟨τv,G3,_,hs'.ts (f3.ts hr2),hr3,h3,fun u v G4 H4 ru hr4 f4 h4=>?_⟩
   obtain ⟨eD4,gD4⟩:=f4 D _ eD3 gD3
   have ra4:=ra3.ts (f4.ts hr3)
   have tsn:=TS.hid (o:=.lst (ys++[v])) eD4
   refine ⟨eD4,by rw [<- ra.length]; omega,xs.length - (i + 1),by omega,rfl,hlt,acc++[u],G4,(hs3.ts (f4.ts hr3)).ts tsn,hr4.hid eD4 gD4,?_,jae,gD4,(ra4.append (RUs.mk (us:=[]) (vs:=[]) ru rfl)).ts tsn,by simp; omega,h4⟩
   intro a o n ha ga
   obtain ⟨x1,x2⟩:=f13 a o n ha ga
   obtain ⟨y1,y2⟩:=f4 a o x1 x2
   exact ⟨by rw [jac n]; exact y1,y2⟩
 ·have e:i=xs.length:=by omega
  subst e
  rw [List.drop_length] at hc
  obtain ⟨hok,q⟩:=hc
  obtain ⟨_,w2⟩:=wk xs.length H' G' ts hr hok
  exact .inl ⟨w2 rfl,fin τ acc ys G' H' sr hr f eD gD' ra q⟩
theorem jfb {is:List Nat}(hp:is.all (fun i=>(pick[i]?).join.isNone)=true)(ς:Sg):∀ i∈is,∀ w,(ja9 pick ς)[i]?≠some (some w):=fun i hi w e=>by
 have:=List.all_eq_true.mp hp i hi
 unfold ja9 at e
 rw [List.getElem?_map] at e
 cases q:pick[i]? with
 | none=>rw [q] at e; cases e
 | some o=>
  rw [q] at e this
  cases o with
  | none=>simp at e
  | some j=>simp at this
theorem jgP (hp:(tgS t).all (fun i=>(pick[i]?).join.isNone)=true)(h:lE X (lcD pick ti t tc te) σ H Q0):tLc pick (lI X ti) (lG X.K (tgU t)) (lT0 X.K tc) (lE0 X.K te) σ H Q0:=by
 obtain ⟨ς,G,Q,E,hς,hG,h,lv,lx⟩:=h
 refine ⟨ς,G,_,E,hς,hG,h,fun xs ok G1 H1 J hG1 f1 wk h1=>?_,lx⟩
 obtain ⟨hl,h1⟩:=h1
 intro D hD
 refine jjx (acc0:=[]) (jfb hp ς) (wk.mono (TS.new hD)) (hG1.newH hD) jae (hG1.nope hD) rfl (((hς.ts (f1.ts hG)).ts (TS.new hD)).pick pick) (by simpa using hl) h1 fun τ' acc' ys' G' H' sr hr f eD gD' ra q=>?_
 refine lv (.loc D) (.ref D) _ H' rfl (hr.know eD ra) ?_ (q.at D gD')
 intro a o ha ga
 obtain ⟨x1,x2⟩:=f1 a o ha ga
 obtain ⟨y1,y2⟩:=f a o (jad x1 hD) (by rw [jac (jad x1 hD)]; exact x1) x2
 exact ⟨y1,by rw [jaX (jad x1 hD)]; exact y2⟩
noncomputable def lI0 (K:PySem.W.Frag)(t:UI):TI:=fun σ H R=>∃ ς G Q,SR K H ς σ/\HR K H G/\t ς G Q (fun _ _=>False)/\∀ xs ok G' H' J,HR K H' G'->Fr H G H' G'->jd2 K J H' G' xs ok->Q xs ok G'->R J H'
mutual
theorem jg9 {is:List Nat}:∀ {t:Tg} {u:U} {ς:Sg} {k:Sg->Prop},(∀ i∈is,i∉tgS t)->(∀ i∈is,∀ w,ς[i]?≠some (some w))->tgU t u ς k->tgU t u ς fun ς'=>k ς'/\∀ i∈is,∀ w,ς'[i]?≠some (some w)
 | .n j,u,ς,k,hf,he,h=>by
  refine ⟨h,fun i hi w e=>?_⟩
  have hj:i≠j:=fun z=>hf i hi (by simp [tgS,z])
  rw [List.getElem?_set_ne (Ne.symm hj)] at e
  exact he i hi w e
 | .t ts,u,ς,k,hf,he,h=>by
  cases u with
  | tup us=>exact jd9 (ts:=ts) (us:=us) (fun i hi=>hf i hi) he h
  | _=>exact h
theorem jd9 {is:List Nat}:∀ {ts:Tgs} {us:List U} {ς:Sg} {k:Sg->Prop},(∀ i∈is,i∉tgsS ts)->(∀ i∈is,∀ w,ς[i]?≠some (some w))->tgsU ts us ς k->tgsU ts us ς fun ς'=>k ς'/\∀ i∈is,∀ w,ς'[i]?≠some (some w)
 | .nil,us,ς,k,_,he,h=>⟨h.1,h.2,he⟩
 | .cons t ts,us,ς,k,hf,he,h=>by
  cases us with
  | nil=>exact h
  | cons u r=>
   have:=jg9 (t:=t) (u:=u) (fun i hi z=>hf i hi (by simp [tgsS,z])) he h
   refine jbL this fun ς' ⟨h1,h2⟩=>jd9 (fun i hi z=>hf i hi (by simp [tgsS,z])) h2 h1
end
variable {tg iter elt:Expr}{ifs:List Expr}{pos:Pos}{N:List Str}{scope:Scope}
theorem u_lc (hc:X.calm=true)(S:CScope X N pick scope)(hw:PI X tg iter (lI X ti))(hp:(tgS t).all (fun i=>(pick[i]?).join.isNone)=true)
  (hg:∀ cl C s₀ H₀ fp,PG (jak X N scope cl C s₀ H₀ fp) tg (lG X.K (tgU t))) (hi:∀ cl C s₀ H₀ fp,PIfs (jak X N scope cl C s₀ H₀ fp) ifs (lT0 X.K tc)) (he:∀ cl C s₀ H₀ fp,PE (jak X N scope cl C s₀ H₀ fp) elt (lE0 X.K te))
  (hs:∀ x,foldedSetIterable iter X.env x=pure x):PE X (.ListComp elt [⟨tg,iter,ifs,0⟩] scope pos) (lE X (lcD pick ti t tc te)):=
 (jk5 hc S hw hg hi he hs).imp fun _ _ _ h=>jgP hp h
end
section
variable {X:Cx}{e:Expr}{te ta tb:UE}{p pos:Pos}
theorem jkB (hg:Gl X "list")(hm:X.mg "list" = none)(ha:PE X e (lE X te))(he:starEach [e] X.env=[(false,eval e X.env)]) :
  PE X (.Call (.Name "list" p) [e] [] pos) (lE X fun ς G Q E=>te ς G (fun x G1=>itU x G1 fun xs _=>newO G1 (.lst xs) Q) E):=by
 refine (jbN (jdp (X:=X)) hg hm PyProof.Rows.boot_list (jd7 ha jfU he) (by decide) (by decide) he rfl).imp fun σ H Q0 h=>?_
 obtain ⟨ς,G,Q,E,hς,hG,h,lv,lx⟩:=h
 refine ⟨ς,G,fun us G1=>match us with | [x]=>(itU x G1 fun xs _=>newO G1 (.lst xs) Q) | _=>False,E,hς,hG,h,fun us vs G1 H1 rs hG1 f1 h1=>?_,lx⟩
 dsimp only at h1
 split at h1
 ·obtain ⟨v,rfl,r⟩:=rs.one
  unfold itU at h1
  split at h1
  ·obtain ⟨a,ws,rfl,ea,rr⟩:=r
   exact ⟨a,ws,rfl,.inr (.of ea),fun l hl=>(lv.fr f1).lst hl rr hG1 h1⟩
  ·cases r
   split at h1
   ·rename_i us eu
    obtain ⟨ws,sq,rr⟩:=hG1.ls eu
    exact ⟨_,ws,rfl,.inl sq,fun l hl=>(lv.fr f1).lst hl rr hG1 h1⟩
   ·exact h1.elim
  ·exact h1.elim
 ·exact h1.elim
theorem jkA (hg:Gl X "tuple")(hm:X.mg "tuple" = none)(ha:PE X e (lE X te))(he:starEach [e] X.env=[(false,eval e X.env)]) :
  PE X (.Call (.Name "tuple" p) [e] [] pos) (lE X fun ς G Q E=>te ς G (fun x G1=>itU x G1 fun xs _=>Q (.tup xs) G1) E):=by
 refine (jbN (jcR (X:=X)) hg hm PyProof.Rows.boot_tuple (jd7 ha jfU he) (by decide) (by decide) he rfl).imp fun σ H Q0 h=>?_
 obtain ⟨ς,G,Q,E,hς,hG,h,lv,lx⟩:=h
 refine ⟨ς,G,fun us G1=>match us with | [x]=>(itU x G1 fun xs _=>Q (.tup xs) G1) | _=>False,E,hς,hG,h,fun us vs G1 H1 rs hG1 f1 h1=>?_,lx⟩
 dsimp only at h1
 split at h1
 ·obtain ⟨v,rfl,r⟩:=rs.one
  unfold itU at h1
  split at h1
  ·obtain ⟨a,ws,rfl,ea,rr⟩:=r
   exact ⟨a,ws,rfl,.inr ⟨.of ea,(lv.fr f1).here (w:=.tup _) ⟨a,ws,rfl,ea,rr⟩ hG1 h1⟩⟩
  ·cases r
   split at h1
   ·rename_i us eu
    obtain ⟨ws,sq,rr⟩:=hG1.ls eu
    exact ⟨_,ws,rfl,.inl ⟨sq,fun l hl=>(lv.fr f1).tup hl rr hG1 h1⟩⟩
   ·exact h1.elim
  ·exact h1.elim
 ·exact h1.elim
theorem jis:PE X (.Dict [] [] pos) (lE X fun _ G Q _=>newO G (.dK []) Q):=by
 refine jgb.imp fun σ H Q0 h p hp=>?_
 obtain ⟨ς,G,Q,E,hς,hG,h,lv,lx⟩:=h
 exact lv (.loc p) (.ref p) _ _ rfl (hG.newO (mo:=.dK []) hp ⟨[],jae,rfl⟩) (Fr.newO hp) (h.at p (hG.nope hp))
theorem RKs.put {κ:Type}[DecidableEq κ]{K:PySem.W.Frag}{H:Hp}{k:κ}{u:U}{v:V}(r:RU K H u v):∀ {kvs:List (κ×U)} {l:List (κ×V)},RKs K H kvs l->RKs K H (dPut kvs k u) (putK l k v):=by
 intro kvs l h
 have any:∀ {kvs:List (κ×U)} {l:List (κ×V)},RKs K H kvs l->(kvs.any fun kv=>decide (kv.1=k))=l.any fun kv=>decide (kv.1=k):=by
  intro kvs
  induction kvs with
  | nil=>intro l h; cases h; rfl
  | cons p q ih=>intro l h; obtain ⟨w,l',rfl,_,rs⟩:=h; simp only [List.any_cons]; rw [ih rs]
 have repl:∀ {kvs:List (κ×U)} {l:List (κ×V)},RKs K H kvs l->RKs K H (kvs.map fun kv=>if kv.1=k then (kv.1,u) else kv) (l.map fun kv=>if kv.1=k then (kv.1,v) else kv):=by
  intro kvs
  induction kvs with
  | nil=>intro l h; cases h; rfl
  | cons p q ih=>
   intro l h
   obtain ⟨k',u'⟩:=p
   obtain ⟨w,l',rfl,rw',rs⟩:=h
   simp only [List.map_cons]
   by_cases e:k'=k
   ·rw [if_pos e,if_pos e]; exact ⟨v,_,rfl,r,ih rs⟩
   ·rw [if_neg e,if_neg e]; exact ⟨w,_,rfl,rw',ih rs⟩
 have snoc:∀ {kvs:List (κ×U)} {l:List (κ×V)},RKs K H kvs l->RKs K H (kvs++[(k,u)]) (l++[(k,v)]):=by
  intro kvs
  induction kvs with
  | nil=>intro l h; cases h; exact ⟨v,[],rfl,r,rfl⟩
  | cons p q ih=>intro l h; obtain ⟨k',u'⟩:=p; obtain ⟨w,l',rfl,rw',rs⟩:=h; exact ⟨w,_,rfl,rw',ih rs⟩
 unfold dPut putK
 rw [any h]
 split
 ·exact repl h
 ·exact snoc h
theorem RKs.length {κ:Type}{K:PySem.W.Frag}{H:Hp}:∀ {kvs:List (κ×U)} {l:List (κ×V)},RKs K H kvs l->kvs.length=l.length
 | [],_,h=>by cases h; rfl
 | (_,_)::_,_,h=>by obtain ⟨v,l',rfl,_,rs⟩:=h; simp [rs.length]
theorem RKs.merge {K:PySem.W.Frag}{H:Hp}:∀ {more:List (Key×U)} {m:List (Key×V)},RKs K H more m->∀ {kvs:List (Key×U)} {l:List (Key×V)},RKs K H kvs l->RKs K H (more.foldl (fun acc kv=>dPut acc kv.1 kv.2) kvs) (jbX l m)
 | [],_,h,_,_,h'=>by cases h; exact h'
 | (k,u)::more,_,h,_,_,h'=>by
  obtain ⟨v,l',rfl,r,rs⟩:=h
  exact RKs.merge rs (h'.put r)
noncomputable def lD (X:Cx)(t:Sg->Gp->(List (Key×U)->Gp->Prop)->KX->Prop)(trs:List (TE×TE)):Prop:=
 ∀ σ H ς G Q E (Q0:List (V×V)->Hp->Prop),SR X.K H ς σ->HR X.K H G->t ς G Q E->LX X σ H G E->
  (∀ kvs (l:List (Key×V)) G' H',RKs X.K H' kvs l->HR X.K H' G'->Fr H G H' G'->Q kvs G'->Q0 (l.map fun kv=>(kV kv.1,kv.2)) H')->jea trs σ H Q0
theorem jkE {keys:List (Option Expr)}{values:List Expr}{trs:List (TE×TE)}{t:Sg->Gp->(List (Key×U)->Gp->Prop)->KX->Prop}(hp:PPs X pos keys values trs)(hd:lD X t trs)(hall:keys.all (·.isSome)=true)(hl:keys.length=values.length)(h0:keys≠[])
  (h15:keys.length<=15):PE X (.Dict keys values pos) (lE X fun ς G Q E=>t ς G (fun kvs G1=>kvs.length<=15/\newO G1 (.dK (jb8 kvs)) Q) E):=by
 refine (jhB hp hall hl h0 h15).imp fun σ H Q0 h p hp=>?_
 obtain ⟨ς,G,Q,E,hς,hG,h,lv,lx⟩:=h
 have gp:=hG.nope hp
 refine hd σ _ ς G _ E _ (hς.ts (TS.new hp)) (hG.newH hp) h (lx.fr (Fr.new hp)) fun kvs l G' H' r hG' f q=>?_
 obtain ⟨e,g⟩:=f p _ jae gp
 refine ⟨e,l,rfl,by rw [<- r.length]; exact q.1,?_⟩
 have ts:TS H' (upd H' p (.dK (jbX [] l))):=fun a xs h=>by
  have:a≠p:=fun z=>by subst z; rw [e] at h; cases h
  rw [jac this]; exact h
 refine lv (.loc p) (.ref p) (gup G' p (.dK (jb8 kvs))) _ rfl (fun a ob z=>?_) (fun a o ha ga=>?_) (q.2.at p g)
 ·by_cases ea:a=p
  ·subst ea
   rw [jaq] at z
   cases z
   exact ⟨_,jae,(RKs.merge r (kvs:=[]) (l:=[]) rfl).ts ts⟩
  ·rw [jaX ea] at z
   exact (hG' a ob z).keep (jac ea) ts
 ·have ea:a≠p:=jad ha hp
  obtain ⟨x1,x2⟩:=f a o (by rw [jac ea]; exact ha) ga
  exact ⟨by rw [jac ea]; exact x1,by rw [jaX ea]; exact x2⟩
theorem jjy:lD X (fun _ G Q _=>Q [] G) []:=fun σ H ς G Q E Q0 hς hG h lx q=>q [] [] G H rfl hG (Fr.refl _ _) h
theorem jhW {tk tv : UE}{t : Sg -> Gp -> (List (Key × U) -> Gp -> Prop) -> KX -> Prop}{trs : List (TE × TE)}(hr : lD X t trs) : lD X (fun ς G Q E => tk ς G (fun x G1 => tv ς G1 (fun y G2 => match kU x with
      | some k => t ς G2 (fun kvs G3 => Q ((k, y) :: kvs) G3) E
      | none => False) E) E) ((lE X tk, lE X tv) :: trs) := by
  intro σ H ς G Q E Q0 hς hG h lx q
  refine ⟨ς, G, _, E, hς, hG, h, fun x v G1 H1 rx hG1 f1 h1 => ?_, lx⟩
  refine ⟨ς, G1, _, E, hς.ts (f1.ts hG), hG1, h1, fun y v' G2 H2 ry hG2 f2 h2 => ?_, lx.fr f1⟩
  dsimp only at h2
  split at h2
  · rename_i k ek
    have := jgg rx ek
    subst this
    refine hr σ H2 ς G2 _ E _ ((hς.ts (f1.ts hG)).ts (f2.ts hG1)) hG2 h2 (lx.fr (f1.trans f2)) fun kvs l G3 H3 r hG3 f3 h3 => ?_
    exact q ((k, y) :: kvs) ((k, v') :: l) G3 H3 ⟨v', l, rfl, ry.ts (f3.ts hG2), r⟩ hG3 ((f1.trans f2).trans f3) h3
  · exact h2.elim
end
end Z

namespace L2
open PySem
end L2
namespace Z
open PySem L2
set_option maxHeartbeats 4000000
structure LD (X:Cx)(H:Hp)(G:Gp)(De:En)(D:Ends):Prop where
 nx:∀ ς' σ' G' H',SR X.K H' ς' σ'->HR X.K H' G'->Fr H G H' G'->De.nx ς' G'->D.nx σ' H'
 rt:∀ w v G' H',RU X.K H' w v->HR X.K H' G'->Fr H G H' G'->De.rt w G'->D.rt v H'
 ex:∀ (pins:List (Addr×Obj)) (e:Value) (s':Shared) (x:XV) ς' σ' G' H',Inv X pins σ' H' s'->SR X.K H' ς' σ'->XAt X H' s' e x->HR X.K H' G'->Fr H G H' G'->De.ex x ς' G'->X.xe e s'
noncomputable abbrev US:=En->Sg->Gp->Prop
noncomputable def lS (X:Cx)(t:US):L2.TS:=fun D σ H=>∃ De ς G,SR X.K H ς σ/\HR X.K H G/\t De ς G/\LD X H G De D
section
variable {X:Cx}{H H1:Hp}{G G1:Gp}{De:En}{D:Ends}{ς:Sg}{σ:St}
theorem LD.fr (h:LD X H G De D)(f:Fr H G H1 G1):LD X H1 G1 De D:=
 ⟨fun ς' σ' G' H' a b c=>h.nx ς' σ' G' H' a b (f.trans c),fun w v G' H' a b c=>h.rt w v G' H' a b (f.trans c),fun pins e s' x ς' σ' G' H' i a b c d=>h.ex pins e s' x ς' σ' G' H' i a b c (f.trans d)⟩
theorem LD.lx (h:LD X H G De D)(hς:SR X.K H ς σ)(hG:HR X.K H G):LX X σ H G fun x G1=>De.ex x ς G1:=fun pins e s' x G' H' I a hr f q=>h.ex pins e s' x ς σ G' H' I (hς.ts (f.ts hG)) a hr f q
theorem LD.here (h:LD X H G De D)(hς:SR X.K H ς σ)(hG:HR X.K H G)(q:De.nx ς G):D.nx σ H:=h.nx ς σ G H hς hG (Fr.refl _ _) q
theorem LD.with {k:Sg->Gp->Prop}{D':Ends}(h:LD X H G De D)(hn:∀ ς' σ' G' H',SR X.K H' ς' σ'->HR X.K H' G'->Fr H G H' G'->k ς' G'->D'.nx σ' H')(hr:D'.rt=D.rt):LD X H G { De with nx:=k } D':=
 ⟨hn,fun w v G' H' a b c d=>by rw [hr]; exact h.rt w v G' H' a b c d,h.ex⟩
end
section
variable {X:Cx}{st:Stmt}{rest:List Stmt}{pos:Pos}{e:Expr}{te:UE}{t u:US}
theorem s_nil:PSs X [] (lS X fun D ς G=>D.nx ς G):=jdE.imp fun D σ H ⟨De,ς,G,hς,hG,h,ld⟩=>ld.here hς hG h
theorem s_cons (h1:PS X st (lS X t))(h2:PSs X rest (lS X u)):PSs X (st::rest) (lS X fun D ς G=>t { D with nx:=fun ς' G'=>u D ς' G' } ς G):=by
 refine (jcG h1 h2).imp fun D σ H ⟨De,ς,G,hς,hG,h,ld⟩=>?_
 exact ⟨_,ς,G,hς,hG,h,ld.with (fun ς' σ' G' H' a b c d=>⟨De,ς',G',a,b,d,ld.fr c⟩) rfl⟩
theorem s_expr (he:PE X e (lE X te))(hs:swapsWith e none pos.line X.env=pure false):PS X (.Expr e pos) (lS X fun D ς G=>te ς G (fun _ G1=>D.nx ς G1) fun x G1=>D.ex x ς G1):=
 (jhp he hs).imp fun D σ H ⟨De,ς,G,hς,hG,h,ld⟩=>⟨ς,G,_,_,hς,hG,h,fun w v G' H' _ hr f q=>ld.nx ς σ G' H' (hς.ts (f.ts hG)) hr f q,ld.lx hς hG⟩
theorem s_ret (he:PE X e (lE X te)):PS X (.Return (some e) pos) (lS X fun D ς G=>te ς G D.rt fun x G1=>D.ex x ς G1):=
 (jiT he).imp fun D σ H ⟨De,ς,G,hς,hG,h,ld⟩=>⟨ς,G,_,_,hς,hG,h,fun w v G' H' r hr f q=>ld.rt w v G' H' r hr f q,ld.lx hς hG⟩
theorem s_if {c:Expr}{a b:List Stmt}{tc:UT}(hc:PT X c (lT X tc))(ha:PSs X a (lS X t))(hb:PSs X b (lS X u)):PS X (.If c a b pos) (lS X fun D ς G=>tc ς G (fun x G1=>if x=true then t D ς G1 else u D ς G1) fun x G1=>D.ex x ς G1):=by
 refine (jiW hc ha hb).imp fun D σ H ⟨De,ς,G,hς,hG,h,ld⟩=>⟨ς,G,_,_,hς,hG,h,fun b G' H' hr f q=>?_,ld.lx hς hG⟩
 cases b with
 | true=>rw [if_pos rfl] at q ⊢; exact ⟨De,ς,G',hς.ts (f.ts hG),hr,q,ld.fr f⟩
 | false=>rw [if_neg Bool.false_ne_true] at q ⊢; exact ⟨De,ς,G',hς.ts (f.ts hG),hr,q,ld.fr f⟩
theorem jil {g:Tg}{D:Ends}{σ:St}{H:Hp}(h:lS X (fun D ς G=>te ς G (fun u G1=>tgU g u ς fun ς'=>D.nx ς' G1) fun x G1=>D.ex x ς G1) D σ H) :
  lE X te σ H fun x H1=>lG X.K (tgU g) x σ H1 D.nx:=by
 obtain ⟨De,ς,G,hς,hG,h,ld⟩:=h
 exact ⟨ς,G,_,_,hς,hG,h,fun w v G' H' r hr f q=>⟨w,ς,_,r,hς.ts (f.ts hG),q,fun ς' σ' hs hk=>ld.nx ς' σ' G' H' hs hr f hk⟩,ld.lx hς hG⟩
theorem s_asg {tg:Expr}{g:Tg}(he:PE X e (lE X te))(hg:PG X tg (lG X.K (tgU g)))(hs:swapsWithSole [tg] e pos.line X.env=pure false)(hw:swappedStores [tg] e X.env=pure none)
  (h1:(assignEach [tg] X.env).map (·.2)=[assign tg X.env]):PS X (.Assign [tg] e pos) (lS X fun D ς G=>te ς G (fun u G1=>tgU g u ς fun ς'=>D.nx ς' G1) fun x G1=>D.ex x ς G1):=
 (je8 he hg hs hw h1).imp fun _ _ _ h=>jil h
theorem s_lc {i:Nat}{y:Str}{py spos:Pos}{tg iter elt:Expr}{ifs:List Expr}{pick:List (Option Nat)}{N:List Str}{scope:Scope}{ti:UI}{g:Tg}{tc:Sg->Gp->(Bool->Gp->Prop)->Prop}
  (hN:X.N.Nodup) (hi':X.N[i]?=some y) (hy:X.env.scope.names.lookup y=some .local) (hc:X.calm=true) (S:CScope X N pick scope) (hw:PI X tg iter (lI X ti)) (hp:(tgS g).all (fun i=>(pick[i]?).join.isNone)=true)
  (hg:∀ cl C s₀ H₀ fp,PG (jak X N scope cl C s₀ H₀ fp) tg (lG X.K (tgU g))) (hi:∀ cl C s₀ H₀ fp,PIfs (jak X N scope cl C s₀ H₀ fp) ifs (lT0 X.K tc)) (he:∀ cl C s₀ H₀ fp,PE (jak X N scope cl C s₀ H₀ fp) elt (lE0 X.K te))
  (hsw:swapsWith (.ListComp elt [⟨tg,iter,ifs,0⟩] scope pos) (some (.Name y py)) spos.line X.env=pure true) (hs:∀ x,foldedSetIterable iter X.env x=pure x) :
  PS X (.Assign [.Name y py] (.ListComp elt [⟨tg,iter,ifs,0⟩] scope pos) spos) (lS X fun D ς G=>lcD pick ti g tc te ς G (fun u G1=>tgU (.n i) u ς fun ς'=>D.nx ς' G1) fun x G1=>D.ex x ς G1):=by
 refine (jk1 hN hi' hy hc S hw hg hi he hsw hs).imp fun D σ H h=>?_
 obtain ⟨De,ς,G,hς,hG,h,ld⟩:=h
 exact jgP hp ⟨ς,G,_,_,hς,hG,h,fun w v G' H' r hr f q=>ld.nx _ _ G' H' ((hς.ts (f.ts hG)).set r i) hr f q,ld.lx hς hG⟩
noncomputable def jiP:TSet:=fun o i v H Q=>∃ a H',o=.ref a/\DPut H a i v H'/\Q H'
theorem jfY (hu:X.A.units + 1 < cLine):PSet X jiP:=by
 intro pins s σ H o i v ov iv u Q I ro ri rv h
 obtain ⟨a,H',rfl,g,q⟩:=h
 cases ro
 exact jfC hu I g ri rv fun s' I'=>⟨H',I',q⟩
theorem _root_.L2.PSet.or {t t':TSet}(h:PSet X t)(h':PSet X t'):PSet X fun o i v H Q=>t o i v H Q\/t' o i v H Q:=by
 intro pins s σ H o i v ov iv u Q I ro ri rv q
 rcases q with q | q
 ·exact h pins s σ H o i v ov iv u Q I ro ri rv q
 ·exact h' pins s σ H o i v ov iv u Q I ro ri rv q
theorem jhg {H:Hp}{G:Gp}{x y w:U}{v v' v'':V}{k:Gp->Prop}{Q0:Hp->Prop}(rx:RU X.K H x v)(ry:RU X.K H y v')(rw':RU X.K H w v'')(hG:HR X.K H G)(h:setU x y w G k)
  (q:∀ G' H',HR X.K H' G'->Fr H G H' G'->k G'->Q0 H'):jiO v v' v'' H Q0\/jiP v v' v'' H Q0:=by
 cases x with
 | loc a=>
  cases rx
  unfold setU at h
  dsimp only at h
  split at h
  ·rename_i xs g
   obtain ⟨vs,e,rs⟩:=hG.lst g
   cases y with
   | int i=>
    cases ry
    dsimp only at h
    split at h
    ·rename_i j ej
     refine .inl ⟨a,vs,i,j,rfl,rfl,e,by rw [<- rs.length]; exact ej,?_⟩
     exact q _ _ (hG.write (mo':=.lst (xs.set j w)) g ⟨_,jae,(rs.set rw' j).ts (TS.write hG g)⟩) (Fr.write g) h.at
    ·exact h.elim
   | _=>exact h.elim
  ·rename_i kvs g
   obtain ⟨l,e,rs⟩:=hG a _ g
   split at h
   ·rename_i k' ek
    have:=jgg ry ek
    subst this
    refine .inr ⟨a,_,rfl,DPut.k e (by rw [<- rs.length]; exact h.1),?_⟩
    exact q _ _ (hG.write (mo':=.dK (dPut kvs k' w)) g ⟨_,jae,(rs.put rw').ts (TS.write hG g)⟩) (Fr.write g) h.2.at
   ·exact h.elim
  ·rename_i kvs g
   obtain ⟨l,e,rs⟩:=hG a _ g
   cases y with
   | tup ys=>
    obtain ⟨b,ws,rfl,eb,rb⟩:=ry
    dsimp only at h
    split at h
    ·rename_i k' ek
     have:=jfp rb ek
     subst this
     refine .inr ⟨a,_,rfl,DPut.t e eb (by rw [<- rs.length]; exact h.1),?_⟩
     exact q _ _ (hG.write (mo':=.dT (dPut kvs k' w)) g ⟨_,jae,(rs.put rw').ts (TS.write hG g)⟩) (Fr.write g) h.2.at
    ·exact h.elim
   | _=>exact h.elim
  ·exact h.elim
 | _=>exact h.elim
theorem s_set {o i:Expr}{to ti:UE}{tpos:Pos}(hu:X.A.units + 1 < cLine)(he:PE X e (lE X te))(ho:PE X o (lE X to))(hi:PE X i (lE X ti))(hs:swapsWithSole [.Subscript o i tpos] e pos.line X.env=pure false)(hw:swappedStores [.Subscript o i tpos] e X.env=pure none)
  (h1:(assignEach [.Subscript o i tpos] X.env).map (·.2)=[assign (.Subscript o i tpos) X.env]) (ha:∀ v,assign (.Subscript o i tpos) X.env v=(do
   let ov <- holding [v] (eval o X.env)
   let iv <- holding [v,ov] (eval i X.env)
   standAt tpos
   holding [v,ov,iv] (setItem ov iv v)
   release [v,ov,iv] [])):PS X (.Assign [.Subscript o i tpos] e pos) (lS X fun D ς G=>te ς G (fun v G1=>to ς G1 (fun x G2=>ti ς G2 (fun y G3=>setU x y v G3 fun G4=>D.nx ς G4) fun x G1=>D.ex x ς G1) fun x G1=>D.ex x ς G1) fun x G1=>D.ex x ς G1):=by
 refine (je8 he (ji2 ho hi (PSet.or jfX (jfY hu)) ha) hs hw h1).imp fun D σ H ⟨De,ς,G,hς,hG,h,ld⟩=>?_
 refine ⟨ς,G,_,_,hς,hG,h,fun w v G1 H1 rw' hG1 f1 h1=>?_,ld.lx hς hG⟩
 have hς1:=hς.ts (f1.ts hG)
 refine ⟨ς,G1,_,_,hς1,hG1,h1,fun x vx G2 H2 rx hG2 f2 h2=>?_,(ld.fr f1).lx hς1 hG1⟩
 have hς2:=hς1.ts (f2.ts hG1)
 refine ⟨ς,G2,_,_,hς2,hG2,h2,fun y vy G3 H3 ry hG3 f3 h3=>?_,(ld.fr (f1.trans f2)).lx hς2 hG2⟩
 have hς3:=hς2.ts (f3.ts hG2)
 exact jhg (rx.ts (f3.ts hG2)) ry ((rw'.ts (f2.ts hG1)).ts (f3.ts hG2)) hG3 h3 fun G' H' hr f q=>ld.nx ς σ G' H' (hς3.ts (f.ts hG3)) hr (((f1.trans f2).trans f3).trans f) q
noncomputable def IpU (X:Cx)(o:Operator):Prop:=∃ r:TIp,PIp X o r/\∀ x y v v' G H Q Q0,RU X.K H x v->RU X.K H y v'->HR X.K H G->jdP o x y G Q->LV X H G Q Q0->r v v' H Q0
theorem jjL (o:Operator):IpU X o:=by
 cases o with
 | Add=>
  refine ⟨_,jh3 (X:=X),fun x y v v' G H Q Q0 rx ry hG h lv=>?_⟩
  unfold jdP at h
  split at h <;> first | contradiction | skip
  cases rx; cases ry; exact ⟨_,_,rfl,rfl,lv.int hG h⟩
 | _=>exact ⟨fun _ _ _ _=>False,fun _ _ _ _ _ _ _ _ _ _ _ _ h=>h.elim,fun _ _ _ _ _ _ _ _ _ _ _ h _=>by unfold jdP at h; split at h <;> first | contradiction | exact h⟩
theorem s_aug {i:Nat}{x:Str}{o:Operator}{pos':Pos}(hN:X.N.Nodup)(hi:X.N[i]?=some x)(hx:Loc X.env.scope x)(hf:X.fn x=true\/X.env.scope.names.lookup x=some .local)(he:PE X e (lE X te)) :
  PS X (.AugAssign (.Name x pos') o e pos) (lS X fun D ς G=>slot ς i fun x=>te ς G (fun y G1=>jdP o x y G1 fun z G2=>D.nx (ς.set i (some z)) G2) fun x G1=>D.ex x ς G1):=by
 obtain ⟨r,h1,h2⟩:=jjL (X:=X) o
 refine (jiY hN hi hx he h1 hf).imp fun D σ H ⟨De,ς,G,hς,hG,h,ld⟩=>?_
 dsimp only at h
 unfold slot at h
 split at h
 ·rename_i u eu
  obtain ⟨v,ev,ru⟩:=hς.2 i u eu
  refine ⟨v,ev,ς,G,_,_,hς,hG,h,fun y vy G1 H1 ry hG1 f1 h1=>?_,ld.lx hς hG⟩
  exact h2 u y v vy G1 H1 _ _ (ru.ts (f1.ts hG)) ry hG1 h1 fun w vw G2 H2 rw' hr2 f2 q=>ld.nx _ _ G2 H2 (((hς.ts (f1.ts hG)).ts (f2.ts hG1)).set rw' i) hr2 (f1.trans f2) q
 ·exact h.elim
theorem _root_.L2.PGet.or {t t':V->V->Hp->VK->Prop}(h:PGet X t)(h':PGet X t'):PGet X fun o i H Q=>t o i H Q\/t' o i H Q:=by
 intro pins s σ H o i ov iv Q I ro ri q
 rcases q with q | q
 ·exact h pins s σ H o i ov iv Q I ro ri q
 ·exact h' pins s σ H o i ov iv Q I ro ri q
theorem s_par2 {i j:Nat}{x y:Str}{a b:Expr}{ts:UA}{px py pt:Pos}{kt k2 pt2}(hc:X.calm=true)(hN:X.N.Nodup)(hi:X.N[i]?=some x)(hj:X.N[j]?=some y)(hij:i≠j)
  (hx:X.env.scope.names.lookup x=some .local) (hy:X.env.scope.names.lookup y=some .local) (ha:PA X [a,b] (lA X ts))
  (hw:swappedStores [.Tuple [.Name x px,.Name y py] kt pt] (.Tuple [a,b] k2 pt2) X.env=pure (some [x,y])) (hs:swapsWithSole [.Tuple [.Name x px,.Name y py] kt pt] (.Tuple [a,b] k2 pt2) pos.line X.env=pure false) :
  PS X (.Assign [.Tuple [.Name x px,.Name y py] kt pt] (.Tuple [a,b] k2 pt2) pos) (lS X fun D ς G=>ts ς G (fun us G1=>us.length=[i,j].length/\D.nx (([i,j].zip us).foldl (fun s p=>s.set p.1 (some p.2)) ς) G1) fun x G1=>D.ex x ς G1):=by
 refine (jiU hc hN hi hj hij hx hy ha hw hs).imp fun D σ H ⟨De,ς,G,hς,hG,h,ld⟩=>?_
 refine ⟨ς,G,_,_,hς,hG,h,fun us vs G1 H1 rs hG1 f1 h1=>?_,ld.lx hς hG⟩
 obtain ⟨h1,h2⟩:=h1
 match us,h1,h2,rs with
 | [u,w],_,h2,rs=>
  obtain ⟨v,v',rfl,r1,r2⟩:=rs.two
  exact ⟨v,v',rfl,ld.nx _ _ G1 H1 (((hς.ts (f1.ts hG)).set r1 i).set r2 j) hG1 f1 h2⟩
theorem s_for {tg iter:Expr}{body:List Stmt}{ti:UI}{g:Tg}{tb:US}(hp:PassesOwn (model X.prog X.w) X.A X.env X.xe)(hc:X.calm=true)(hi:PI X tg iter (lI X ti))(hg:PG X tg (lG X.K (tgU g)))(hb:PSs X body (lS X tb))
  (hs:∀ x,foldedSetIterable iter X.env x=pure x):PS X (.For tg iter body [] pos) (lS X fun D ς G=>ti ς G (fun xs ok G1=>forL ok (fun x ς1 G2 k=>tgU g x ς1 fun ς2=>tb { D with nx:=k } ς2 G2) xs ς G1 D.nx) fun x G1=>D.ex x ς G1):=by
 refine (jiX hp hc hi hg hb hs).imp fun D σ H ⟨De,ς,G,hς,hG,h,ld⟩=>?_
 refine ⟨ς,G,_,_,hς,hG,h,fun xs ok G1 H1 J hG1 f1 wk h1=>?_,ld.lx hς hG⟩
 refine ⟨fun i m σ' H'=>m=xs.length - i/\i<=xs.length/\∃ ς' G',SR X.K H' ς' σ'/\HR X.K H' G'/\Fr H1 G1 H' G'/\forL ok (fun x ς1 G2 k=>tgU g x ς1 fun ς2=>tb { De with nx:=k } ς2 G2) (xs.drop i) ς' G' De.nx,⟨xs.length,by simp,Nat.zero_le _,ς,G1,hς.ts (f1.ts hG),hG1,Fr.refl _ _,by simpa using h1⟩,?_⟩
 rintro i m σ' H' ⟨rfl,hi',ς',G',sr,hr,f,hc'⟩
 by_cases hlt:i < xs.length
 ·rw [List.drop_eq_getElem_cons hlt] at hc'
  obtain ⟨hok,hb'⟩:=hc'
  obtain ⟨w1,_⟩:=wk i H' G' (f.ts hG1) hr hok
  obtain ⟨go,yl⟩:=w1 xs[i] (by simp [hlt])
  refine .inr ⟨go,fun σ2 H2=>∃ ς2 G2,SR X.K H2 ς2 σ2/\HR X.K H2 G2/\Fr H1 G1 H2 G2/\forL ok (fun x ς1 G2 k=>tgU g x ς1 fun ς2=>tb { De with nx:=k } ς2 G2) (xs.drop (i + 1)) ς2 G2 De.nx,fun σ2 H2 q=>⟨xs.length - (i + 1),by omega,rfl,hlt,q⟩,fun v H'' y=>?_⟩
  obtain ⟨rx,hr2,f2⟩:=yl v H'' y
  refine ⟨xs[i],ς',_,rx,sr.ts (f2.ts hr),hb',fun ς2 σ2 hs2 hk=>?_⟩
  have f3:=(f1.trans f).trans f2
  refine ⟨_,ς2,G',hs2,hr2,hk,(ld.fr f3).with (fun ς3 σ3 G3 H3 a b c d=>⟨ς3,G3,a,b,(f.trans f2).trans c,d⟩) rfl⟩
 ·have e:i=xs.length:=by omega
  subst e
  rw [List.drop_length] at hc'
  obtain ⟨hok,q⟩:=hc'
  exact .inl ⟨(wk xs.length H' G' (f.ts hG1) hr hok).2 rfl,ld.nx ς' σ' G' H' sr hr (f1.trans f) q⟩
end
structure Ctx where
 N:List Str
 sc:List (Str×NameKind)
noncomputable def kd (c:Ctx)(x:Str)(k:NameKind):Bool:=c.sc.lookup x == some k
noncomputable def glo (c:Ctx)(x:Str):Bool:=kd c x .globalImplicit && !(x == ("__debug__" : Str))
noncomputable def nm1:Expr->List Str
 | .Name x _=>[x]
 | _=>[]
noncomputable def nm2:Expr->List Str
 | .Tuple es _ _=>es.flatMap nm1
 | e=>nm1 e
noncomputable def jdB:Expr->List Str
 | .Tuple es _ _=>es.flatMap nm2
 | e=>nm1 e
noncomputable def cOkS (c:Ctx)(N:List Str)(pick:List (Option Nat))(scope:Scope):Bool:=
 decide (scope.kind=.function) && scope.names.all (fun y=>y.2 != .cell || scope.names.lookup y.1 == some .cell) && scope.names.all (fun y=>y.2 != .local || scope.names.lookup y.1 == some .local)
  && scope.names.all (fun y=>y.2 != .free || (scope.names.lookup y.1 == some .free && (kd c y.1 .cell || kd c y.1 .free)))
  && pick.length == N.length && (N.zip pick).all (fun p=>match p.2 with | none=>true | some j=>c.N[j]? == some p.1 && scope.names.lookup p.1 == some .free) && decide N.Nodup
noncomputable def jgL:Expr->Bool
 | .Call (.Name _ _) [] [] _=>false
 | _=>true
noncomputable def e0:Expr:=.Name "" ⟨0,0,0,0⟩
noncomputable def hd:List Expr->Expr
 | []=>e0
 | e::_=>e
noncomputable def c0:Expr->Expr
 | .BinOp l _ _ _=>l
 | .UnaryOp _ x _=>x
 | .IfExp t _ _ _=>t
 | .Compare l _ _ _=>l
 | .Subscript v _ _=>v
 | .Attribute v _ _=>v
 | .Call f _ _ _=>f
 | .ListComp e _ _ _=>e
 | _=>e0
noncomputable def c1:Expr->Expr
 | .BinOp _ _ r _=>r
 | .IfExp _ b _ _=>b
 | .Subscript _ s _=>s
 | _=>e0
noncomputable def c2:Expr->Expr
 | .IfExp _ _ b _=>b
 | _=>e0
noncomputable def cl:Expr->List Expr
 | .BoolOp _ vs _=>vs
 | .Compare _ _ vs _=>vs
 | .Call _ vs _ _=>vs
 | .List vs _=>vs
 | .Tuple vs _ _=>vs
 | .Dict _ vs _=>vs
 | _=>[]
noncomputable def kw0:Expr->Keyword
 | .Call _ _ (k::_) _=>k
 | _=>⟨none,e0,⟨0,0,0,0⟩⟩
noncomputable def kk:Expr->Nat
 | .Constant _ k _=>k
 | .Tuple _ k _=>k
 | _=>0
noncomputable def oe:Option Expr->Expr
 | some e=>e
 | none=>e0
noncomputable def dk:Expr->List Expr
 | .Dict ks _ _=>ks.map oe
 | _=>[]
noncomputable def gen1:Expr->Comprehension
 | .ListComp _ (g::_) _ _=>g
 | _=>⟨e0,e0,[],0⟩
noncomputable def gen2:Expr->Comprehension
 | .ListComp _ (_::g::_) _ _=>g
 | _=>⟨e0,e0,[],0⟩
noncomputable def scp:Expr->Scope
 | .ListComp _ _ s _=>s
 | _=>⟨.module,[],false,false,[]⟩
noncomputable def s0:Expr->Expr
 | .Slice (some e) _ _ _=>e
 | _=>e0
noncomputable def s1:Expr->Expr
 | .Slice _ (some e) _ _=>e
 | _=>e0
noncomputable def s2:Expr->Expr
 | .Slice _ _ (some e) _=>e
 | _=>e0
noncomputable def nmA (c:Ctx)(i:Nat):Str:=c.N.getD i ""
noncomputable def boU:Bool->PySem.BoolOp
 | true=>.And
 | false=>.Or
noncomputable def ja3:Es->Nat
 | .nil=>0
 | .cons _ es=>ja3 es + 1
noncomputable def jcX:Tgs->Nat
 | .nil=>0
 | .cons _ ts=>jcX ts + 1
noncomputable def isLc:E->Bool
 | .lc ..=>true
 | .lc2 ..=>true
 | _=>false
noncomputable def cc (c:Ctx)(pick:List (Option Nat))(h:Expr):Ctx:=⟨jdB (gen1 h).target++(pick.filterMap id).filterMap (fun j=>c.N[j]?),(scp h).names⟩
noncomputable def cc2 (c:Ctx)(pick:List (Option Nat))(h:Expr):Ctx:=⟨jdB (gen1 h).target++jdB (gen2 h).target++(pick.filterMap id).filterMap (fun j=>c.N[j]?),(scp h).names⟩
mutual
noncomputable def unTg (c:Ctx):Tg->Expr->Expr
 | .n i,h=>.Name (nmA c i) h.pos
 | .t ts,h=>.Tuple (jcV c ts (cl h)) (kk h) h.pos
noncomputable def jcV (c:Ctx):Tgs->List Expr->List Expr
 | .nil,_=>[]
 | .cons t ts,hs=>unTg c t (hd hs)::jcV c ts hs.tail
end
noncomputable def okN (c:Ctx)(i:Nat):Bool:=decide (i < c.N.length) && (kd c (nmA c i) .local || kd c (nmA c i) .cell)
mutual
noncomputable def okTg (c:Ctx):Tg->Bool
 | .n i=>okN c i
 | .t ts=>jhP c ts
noncomputable def jhP (c:Ctx):Tgs->Bool
 | .nil=>true
 | .cons t ts=>okTg c t && jhP c ts
end
section
variable (T:Tab)
noncomputable def fnN (n:Nat):Str:=match T.funs[n]? with
 | some d=>d.name
 | none => ""
mutual
noncomputable def unE (c:Ctx):E->Expr->Expr
 | .v i,h=>.Name (nmA c i) h.pos
 | .non,h=>.Constant .none (kk h) h.pos
 | .bl b,h=>.Constant (.bool b) (kk h) h.pos
 | .int i,h=>.Constant (.int i) (kk h) h.pos
 | .str x,h=>.Constant (.str x) (kk h) h.pos
 | .g n,h=>.Name (T.gn.getD n "") h.pos
 | .ty n,h=>.Name (Str.ofString n) h.pos
 | .bin o a b,h=>.BinOp (unE c a (c0 h)) o (unE c b (c1 h)) h.pos
 | .neg a,h=>.UnaryOp .USub (unE c a (c0 h)) h.pos
 | .not a,h=>.UnaryOp .Not (unE c a (c0 h)) h.pos
 | .bop k a es,h=>.BoolOp (boU k) (unE c a (hd (cl h))::unEs c es (cl h).tail) h.pos
 | .cmp o a b,h=>.Compare (unE c a (c0 h)) [o] [unE c b (hd (cl h))] h.pos
 | .cmp2 o p a b d,h=>.Compare (unE c a (c0 h)) [o,p] [unE c b (hd (cl h)),unE c d (hd (cl h).tail)] h.pos
 | .ife t a b,h=>.IfExp (unE c t (c0 h)) (unE c a (c1 h)) (unE c b (c2 h)) h.pos
 | .tup es,h=>.Tuple (unEs c es (cl h)) (kk h) h.pos
 | .lst es,h=>.List (unEs c es (cl h)) h.pos
 | .dic es,h=>.Dict (unK c es (dk h)) (unV c es (cl h)) h.pos
 | .dicT,h=>.Dict [] [] h.pos
 | .ix a b,h=>.Subscript (unE c a (c0 h)) (unE c b (c1 h)) h.pos
 | .sl a lo hi,h=>.Subscript (unE c a (c0 h)) (.Slice (unO c lo (s0 (c1 h))) (unO c hi (s1 (c1 h))) none (c1 h).pos) h.pos
 | .rev a b,h=>.Subscript (unE c a (c0 h)) (.Slice none none (some (unE c b (s2 (c1 h)))) (c1 h).pos) h.pos
 | .call n es,h=>.Call (.Name (fnN T n) (c0 h).pos) (unEs c es (cl h)) [] h.pos
 | .app _ _,_=>e0
 | .blt b es,h=>.Call (.Name (bltN b) (c0 h).pos) (unEs c es (cl h)) [] h.pos
 | .meth m o es,h=>.Call (.Attribute (unE c o (c0 (c0 h))) (mthN m) (c0 h).pos) (unEs c es (cl h)) [] h.pos
 | .lc pick t it ifs d,h=>.ListComp (unE (cc c pick h) d (c0 h)) [⟨unTg (cc c pick h) t (gen1 h).target,unI c it (gen1 h).iter,unEs (cc c pick h) ifs (gen1 h).ifs,0⟩] (scp h) h.pos
 | .lc2 pick t it ifs t2 it2 ifs2 d,h=>.ListComp (unE (cc2 c pick h) d (c0 h)) [⟨unTg (cc2 c pick h) t (gen1 h).target,unI c it (gen1 h).iter,unEs (cc2 c pick h) ifs (gen1 h).ifs,0⟩,⟨unTg (cc2 c pick h) t2 (gen2 h).target,unI (cc2 c pick h) it2 (gen2 h).iter,unEs (cc2 c pick h) ifs2 (gen2 h).ifs,0⟩] (scp h) h.pos
 | .mkD d,h=>.Call (.Name "list" (c0 h).pos) [unE c d (hd (cl h))] [] h.pos
 | .maxD d,h=>.Call (.Name "max" (c0 h).pos) [unE c d (hd (cl h))] [⟨some "default",.Constant (.int 0) (kk (kw0 h).value) (kw0 h).value.pos,(kw0 h).pos⟩] h.pos
 | .minD d,h=>.Call (.Name "min" (c0 h).pos) [unE c d (hd (cl h))] [⟨some "default",.Constant .none (kk (kw0 h).value) (kw0 h).value.pos,(kw0 h).pos⟩] h.pos
 | .mkL d,h=>.Call (.Name "list" (c0 h).pos) [unE c d (hd (cl h))] [] h.pos
 | .mkT d,h=>.Call (.Name "tuple" (c0 h).pos) [unE c d (hd (cl h))] [] h.pos
 | .rngL d,h=>.Call (.Name "list" (c0 h).pos) [.Call (.Name "range" (c0 (hd (cl h))).pos) [unE c d (hd (cl (hd (cl h))))] [] (hd (cl h)).pos] [] h.pos
 | .rngT d,h=>.Call (.Name "tuple" (c0 h).pos) [.Call (.Name "range" (c0 (hd (cl h))).pos) [unE c d (hd (cl (hd (cl h))))] [] (hd (cl h)).pos] [] h.pos
 | .rngL2 _ _,_=>e0
noncomputable def unO (c:Ctx):Eo->Expr->Option Expr
 | .no,_=>none
 | .so d,h=>some (unE c d h)
noncomputable def unEs (c:Ctx):Es->List Expr->List Expr
 | .nil,_=>[]
 | .cons d es,hs=>unE c d (hd hs)::unEs c es hs.tail
noncomputable def unK (c:Ctx):Es->List Expr->List (Option Expr)
 | .cons d (.cons _ es),hs=>some (unE c d (hd hs))::unK c es hs.tail
 | _,_=>[]
noncomputable def unV (c:Ctx):Es->List Expr->List Expr
 | .cons _ (.cons d es),hs=>unE c d (hd hs)::unV c es hs.tail
 | _,_=>[]
noncomputable def unI (c:Ctx):It->Expr->Expr
 | .e d,h=>unE c d h
 | .r1 d,h=>.Call (.Name "range" (c0 h).pos) [unE c d (hd (cl h))] [] h.pos
 | .r2 a b,h=>.Call (.Name "range" (c0 h).pos) [unE c a (hd (cl h)),unE c b (hd (cl h).tail)] [] h.pos
 | .enum d,h=>.Call (.Name "enumerate" (c0 h).pos) [unE c d (hd (cl h))] [] h.pos
 | .dk d,h=>unE c d h
end
mutual
noncomputable def okE (c:Ctx):E->Expr->Bool
 | .v i,_=>decide (i < c.N.length) && (kd c (nmA c i) .local || kd c (nmA c i) .cell || kd c (nmA c i) .free) && !(nmA c i == ("__debug__" : Str)) && !(nmA c i == ("__classdict__" : Str))
 | .non,_=>true
 | .bl _,_=>true
 | .int _,_=>true
 | .str _,_=>true
 | .g _,_=>false
 | .ty _,_=>false
 | .bin _ a b,h=>okE c a (c0 h) && okE c b (c1 h)
 | .neg a,h=>okE c a (c0 h)
 | .not _,_=>false
 | .bop _ a es,h=>okE c a (hd (cl h)) && okEs c es (cl h).tail
 | .cmp o a b,h=>okE c a (c0 h) && okE c b (hd (cl h)) && !behindInMarks o (unE T c b (hd (cl h)))
 | .cmp2 _ _ _ _ _,_=>false
 | .ife t a b,h=>okE c t (c0 h) && okE c a (c1 h) && okE c b (c2 h)
 | .tup es,h=>okEs c es (cl h)
 | .lst es,h=>okEs c es (cl h)
 | .dic es,h=>okD c es (dk h) (cl h) && decide (ja3 es<=30)
 | .dicT,_=>false
 | .ix a b,h=>okE c a (c0 h) && okE c b (c1 h)
 | .sl a lo hi,h=>okE c a (c0 h) && okO c lo (s0 (c1 h)) && okO c hi (s1 (c1 h))
 | .rev a b,h=>okE c a (c0 h) && okE c b (s2 (c1 h))
 | .call n es,h=>decide (n < T.funs.length) && glo c (fnN T n) && okEs c es (cl h)
 | .app _ _,_=>false
 | .blt b es,h=>decide (0 < ja3 es) && glo c (bltN b) && okEs c es (cl h)
 | .meth _ o es,h=>okE c o (c0 (c0 h)) && okEs c es (cl h) && ((c0 h).pos.endLine == h.pos.line) && decide (ja3 es < 30) && jgL (unE T c o (c0 (c0 h)))
 | .lc pick t it ifs d,h=>cOkS c (cc c pick h).N pick (scp h) && (tgS t).all (fun i=>(pick[i]?).join.isNone) && okTg (cc c pick h) t && okI c t it (gen1 h).iter && okEs (cc c pick h) ifs (gen1 h).ifs && decide (ja3 ifs<=1) && okE (cc c pick h) d (c0 h)
 | .lc2 _ _ _ _ _ _ _ _,_=>false
 | .mkD _,_=>false
 | .maxD _,_=>false
 | .minD _,_=>false
 | .mkL d,h=>glo c "list" && okE c d (hd (cl h))
 | .mkT d,h=>glo c "tuple" && okE c d (hd (cl h))
 | .rngL _,_=>false
 | .rngT _,_=>false
 | .rngL2 _ _,_=>false
noncomputable def okO (c:Ctx):Eo->Expr->Bool
 | .no,_=>true
 | .so d,h=>okE c d h
noncomputable def okEs (c:Ctx):Es->List Expr->Bool
 | .nil,_=>true
 | .cons d es,hs=>okE c d (hd hs) && okEs c es hs.tail
noncomputable def okD (c:Ctx):Es->List Expr->List Expr->Bool
 | .nil,_,_=>true
 | .cons d (.cons f es),hs,gs=>okE c d (hd hs) && okE c f (hd gs) && okD c es hs.tail gs.tail
 | .cons _ .nil,_,_=>false
noncomputable def okI (c:Ctx)(t:Tg):It->Expr->Bool
 | .e d,h=>okE c d h
 | .r1 d,h=>glo c "range" && okE c d (hd (cl h))
 | .r2 _ _,_=>false
 | .enum _,_=>false
 | .dk _,_=>false
end
noncomputable def jgC (ts:List Expr):Nat:=(ts.head?.map (·.pos.line)).getD 0
noncomputable def jah (c:Ctx)(ts:List Expr):List Str:=ts.filterMap fun
  | .Name id pos=>if c.sc.lookup id == some .local && pos.line == jgC ts then some id else none
  | _=>none
noncomputable def jem:Expr->Bool
 | .Starred ..=>true
 | _=>false
noncomputable def swapped (c:Ctx)(ts vs:List Expr):Bool:=
 (ts.length == 2 || ts.length == 3) && vs.length == ts.length && !(vs.any jem) && (jah c ts).length == ts.length && (jah c ts).eraseDups.length == (jah c ts).length && !(vs.all (foldedForSure 8)) && !(vs.all (constantsAlone 8))
noncomputable def jbu (c:Ctx)(ts vs:List Expr):Bool:=
 !(ts.length == 2 || ts.length == 3) || vs.length != ts.length || (!(vs.any jem) && ((jah c ts).length != ts.length || (jah c ts).eraseDups.length != (jah c ts).length || vs.all (foldedForSure 8)))
noncomputable def lcSw (c:Ctx)(y:Str)(py p:Pos)(s:Scope):Bool:=c.sc.lookup y == some .local && py.line == p.line && !(s.names.any fun (n,k)=>n == y && (k == .local || k == .cell))
noncomputable def q0:Stmt->Expr
 | .Expr e _=>e
 | .Assign _ e _=>e
 | .Return (some e) _=>e
 | .AugAssign _ _ e _=>e
 | .If e _ _ _=>e
 | .While e _ _ _=>e
 | .For _ e _ _ _=>e
 | _=>e0
noncomputable def q1:Stmt->Expr
 | .Assign (t::_) _ _=>t
 | .AugAssign t _ _ _=>t
 | .For t _ _ _ _=>t
 | _=>e0
noncomputable def qr:Stmt->Expr
 | .Raise (some e) _ _=>e
 | _=>e0
noncomputable def hTy:Stmt->Expr
 | .Try _ (.ExceptHandler (some t) _ _ _::_) _ _ _=>t
 | _=>e0
noncomputable def hBd:Stmt->List Stmt
 | .Try _ (.ExceptHandler _ _ b _::_) _ _ _=>b
 | _=>[]
noncomputable def hPs:Stmt->Pos
 | .Try _ (.ExceptHandler _ _ _ p::_) _ _ _=>p
 | _=>⟨0,0,0,0⟩
noncomputable def qa:Stmt->List Stmt
 | .Try a _ _ _ _=>a
 | .If _ a _ _=>a
 | .While _ a _ _=>a
 | .For _ _ a _ _=>a
 | _=>[]
noncomputable def qb:Stmt->List Stmt
 | .If _ _ b _=>b
 | _=>[]
noncomputable def qh:List Stmt->Stmt
 | []=>.Pass ⟨0,0,0,0⟩
 | s::_=>s
noncomputable def unNs (c:Ctx):List Nat->List Expr->List Expr
 | [],_=>[]
 | i::is,hs=>.Name (nmA c i) (hd hs).pos::unNs c is hs.tail
noncomputable def unCs:List Nat->List Expr->List Expr
 | [],_=>[]
 | k::ks,hs=>.Name (clsN k) (hd hs).pos::unCs ks hs.tail
section
variable (c:Ctx)(n:Nat)
noncomputable def unHL:HL->Expr->Expr
 | .v i,h=>.Name (nmA c i) h.pos
 | .isiV,h=>.Call (.Name "isinstance" (c0 h).pos) [.Name (nmA c n) (hd (cl h)).pos,.Name "ValueError" (hd (cl h).tail).pos] [] h.pos
 | .is1 k,h=>.Call (.Name "isinstance" (c0 h).pos) [.Name (nmA c n) (hd (cl h)).pos,.Name (clsN k) (hd (cl h).tail).pos] [] h.pos
 | .isi ks,h=>.Call (.Name "isinstance" (c0 h).pos) [.Name (nmA c n) (hd (cl h)).pos,.Tuple (unCs ks (cl (hd (cl h).tail))) (kk (hd (cl h).tail)) (hd (cl h).tail).pos] [] h.pos
noncomputable def jdx:Bool×HL->Expr->Expr
 | (true,l),h=>.UnaryOp .Not (unHL c n l (c0 h)) h.pos
 | (false,l),h=>unHL c n l h
noncomputable def jd5:List (Bool×HL)->List Expr->List Expr
 | [],_=>[]
 | a::r,hs=>jdx c n a (hd hs)::jd5 r hs.tail
noncomputable def jd6 (k:Bool)(a:Bool×HL):List (Bool×HL)->Expr->Expr
 | [],h=>jdx c n a h
 | b::r,h=>.BoolOp (boU k) (jdx c n a (hd (cl h))::jd5 c n (b::r) (cl h).tail) h.pos
noncomputable def unHA:HA->Expr->Expr
 | .str x,h=>.Constant (.str x) (kk h) h.pos
 | .att f,h=>.Attribute (.Name (nmA c n) (c0 h).pos) f h.pos
noncomputable def jfT:List HA->List Expr->List Expr
 | [],_=>[]
 | a::r,hs=>unHA c n a (hd hs)::jfT r hs.tail
noncomputable def unHV:HV->Expr->Expr
 | .cond k a as,h=>jd6 c n k a as h
 | .one a,h=>unHA c n a h
 | .bl b,h=>.Constant (.bool b) (kk h) h.pos
 | .tup as,h=>.Tuple (jfT c n as (cl h)) (kk h) h.pos
 | .lst as,h=>.List (jfT c n as (cl h)) h.pos
noncomputable def jg5 (i:Nat)(e:HV)(h:Stmt):Stmt:=.Assign [.Name (nmA c i) (q1 h).pos] (unHV c n e (q0 h)) h.pos
noncomputable def unHS:HS->Stmt->Stmt
 | .asg i e,h=>jg5 c n i e h
 | .ifa k a as i e,h=>.If (jd6 c n k a as (q0 h)) [jg5 c n i e (qh (qa h))] [] h.pos
noncomputable def jdy:List HS->List Stmt->List Stmt
 | [],_=>[]
 | s::r,hs=>unHS c n s (qh hs)::jdy r hs.tail
end
section
variable (cs:List Nat)(c:Ctx)
noncomputable def okC (k:Nat):Bool:=decide (1<=k) && decide (k < 6) && cs.contains k && glo c (clsN k)
noncomputable def okHL:HL->Bool
 | .v i=>decide (i < c.N.length) && (kd c (nmA c i) .local || kd c (nmA c i) .cell || kd c (nmA c i) .free) && !(nmA c i == ("__debug__" : Str)) && !(nmA c i == ("__classdict__" : Str))
 | .isiV=>glo c "isinstance" && glo c "ValueError"
 | .is1 k=>glo c "isinstance" && okC cs c k
 | .isi ks=>glo c "isinstance" && ks.all (okC cs c) && decide (ks.length<=8)
noncomputable def jbQ (as:List (Bool×HL)):Bool:=as.all fun p=>okHL cs c p.2
noncomputable def okHA:HA->Bool
 | .str _=>true
 | .att f=>fldN.contains f
noncomputable def okHV:HV->Bool
 | .cond _ a as=>okHL cs c a.2 && jbQ cs c as
 | .one a=>okHA a
 | .bl _=>true
 | .tup as=>as.all okHA && decide (as.length<=8)
 | .lst as=>as.all okHA && decide (as.length<=8)
noncomputable def okHS (n:Nat):HS->Bool
 | .asg i e=>okN c i && decide (i≠n) && okHV cs c e
 | .ifa _ a as i e=>okHL cs c a.2 && jbQ cs c as && okN c i && decide (i≠n) && okHV cs c e
end
mutual
noncomputable def unS (c:Ctx):S->Stmt->Stmt
 | .pass,h=>.Pass h.pos
 | .expr d,h=>.Expr (unE T c d (q0 h)) h.pos
 | .asg t d,h=>.Assign [unTg c t (q1 h)] (unE T c d (q0 h)) h.pos
 | .asgC i d,h=>.Assign [.Name (nmA c i) (q1 h).pos] (unE T c d (q0 h)) h.pos
 | .setS o i d,h=>.Assign [.Subscript (unE T c o (c0 (q1 h))) (unE T c i (c1 (q1 h))) (q1 h).pos] (unE T c d (q0 h)) h.pos
 | .par is es,h=>.Assign [.Tuple (unNs c is (cl (q1 h))) (kk (q1 h)) (q1 h).pos] (.Tuple (unEs T c es (cl (q0 h))) (kk (q0 h)) (q0 h).pos) h.pos
 | .aug i o d,h=>.AugAssign (.Name (nmA c i) (q1 h).pos) o (unE T c d (q0 h)) h.pos
 | .augS a i o d,h=>.AugAssign (.Subscript (unE T c a (c0 (q1 h))) (unE T c i (c1 (q1 h))) (q1 h).pos) o (unE T c d (q0 h)) h.pos
 | .ite t a b,h=>.If (unE T c t (q0 h)) (unSs c a (qa h)) (unSs c b (qb h)) h.pos
 | .fr t it b,h=>.For (unTg c t (q1 h)) (unI T c it (q0 h)) (unSs c b (qa h)) [] h.pos
 | .wh t b,h=>.While (unE T c t (q0 h)) (unSs c b (qa h)) [] h.pos
 | .ret d,h=>.Return (some (unE T c d (q0 h))) h.pos
 | .retN,h=>.Return none h.pos
 | .never,h=>h
 | .raise k es,h=>.Raise (some (.Call (.Name (clsN k) (c0 (qr h)).pos) (unEs T c es (cl (qr h))) [] (qr h).pos)) none h.pos
 | .tr b k n hs,h=>.Try (unSs c b (qa h)) [.ExceptHandler (some (.Name (clsN k) (hTy h).pos)) (some (nmA c n)) (jdy c n hs (hBd h)) (hPs h)] [] [] h.pos
noncomputable def unSs (c:Ctx):Ss->List Stmt->List Stmt
 | .nil,_=>[]
 | .cons s r,hs=>unS c s (qh hs)::unSs c r hs.tail
end
noncomputable def okA (c:Ctx):Tg->E->Stmt->Bool
 | .n i,.lc ..,_=>!(kd c (nmA c i) .local)
 | .n i,.lc2 ..,_=>!(kd c (nmA c i) .local)
 | .t _,.lc ..,_=>false
 | .t _,.lc2 ..,_=>false
 | .t ts,.tup es,h=>jbu c (jcV c ts (cl (q1 h))) (unEs T c es (cl (q0 h)))
 | _,_,_=>true
noncomputable def okNs (c:Ctx):List Nat->Bool
 | []=>true
 | i::is=>decide (i < c.N.length) && kd c (nmA c i) .local && !(is.contains i) && okNs c is
mutual
noncomputable def okS (c:Ctx):S->Stmt->Bool
 | .pass,_=>false
 | .expr d,h=>okE T c d (q0 h) && !isLc d
 | .asg t d,h=>okE T c d (q0 h) && okTg c t && okA T c t d h
 | .asgC i d,h=>isLc d && okE T c d (q0 h) && decide (i < c.N.length) && lcSw c (nmA c i) (q1 h).pos (q0 h).pos (scp (q0 h))
 | .setS o i d,h=>okE T c d (q0 h) && okE T c o (c0 (q1 h)) && okE T c i (c1 (q1 h))
 | .par is es,h=>okEs T c es (cl (q0 h)) && okNs c is && swapped c (unNs c is (cl (q1 h))) (unEs T c es (cl (q0 h))) && decide (is.length=2)
 | .aug i _ d,h=>okN c i && okE T c d (q0 h)
 | .augS _ _ _ _,_=>false
 | .ite t a b,h=>okE T c t (q0 h) && okSs c a (qa h) && okSs c b (qb h)
 | .fr t it b,h=>okTg c t && okI T c t it (q0 h) && okSs c b (qa h)
 | .wh _ _,_=>false
 | .ret d,h=>okE T c d (q0 h)
 | .retN,_=>false
 | .never,_=>true
 | .raise k es,h=>okC T.cs c k && decide (0 < ja3 es) && okEs T c es (cl (qr h))
 | .tr b k n hs,h=>okSs c b (qa h) && decide (k=0) && glo c (clsN k) && decide (n < c.N.length) && kd c (nmA c n) .local && !(nmA c n == ("__debug__" : Str)) && !(nmA c n == ("__classdict__" : Str)) && !hs.isEmpty && hs.all (okHS T.cs c n)
noncomputable def okSs (c:Ctx):Ss->List Stmt->Bool
 | .nil,_=>true
 | .cons s r,hs=>okS c s (qh hs) && okSs c r hs.tail
end
end
noncomputable def lSp (K:PySem.W.Frag)(t:List U->Gp->K1->KX->Prop):Sp:=fun vs H Q0 E0=>∃ us G Q E,RUs K H us vs/\HR K H G/\t us G Q E/\(∀ w v G' H',RU K H' w v->HR K H' G'->Fr H G H' G'->Q w G'->Q0 v H')/\
 ∀ x G' H' C dx,XD K H' C dx x->HR K H' G'->Fr H G H' G'->E x G'->E0 (.ref C) (some dx) H'
noncomputable def FnU (P:Program)(w:World)(K:PySem.W.Frag)(mg:Str->Option Value)(base:Heap)(k:Nat)(d:Fun)(t:List U->Gp->K1->KX->Prop):Prop:=
 ∃ (f:Addr) (fd:FuncData),FnOk P w K mg base (CX1 P w) (k + 2) f fd d.ps (lSp K t)/\mg d.name=some (.ref f)/\PySem.W.keepIn K (.ref f)=true/\Binds K fd d.ps []
noncomputable def jcc:List Str:=["len", "repr", "min", "max", "sum", "all", "any", "sorted", "int", "str", "isinstance", "range", "enumerate", "list", "tuple", "bool", "dict", "ValueError"]
structure Cok (T:Tab)(k:Nat)(X:Cx)(c:Ctx):Prop where
 hN:X.N=c.N
 nd:c.N.Nodup
 loc:∀ x,kd c x .local=true->X.env.scope.names.lookup x=some .local
 cel:∀ x,kd c x .cell=true->X.env.scope.names.lookup x=some .cell/\X.fn x=true
 fre:∀ x,kd c x .free=true->X.env.scope.names.lookup x=some .cell\/X.env.scope.names.lookup x=some .free
 glb:∀ x,kd c x .globalImplicit=true->Gl X x
 room:Room k X.A
 calm:X.calm=true
 po:PassesOwn (model X.prog X.w) X.A X.env X.xe
 blt:∀ x∈jcc,X.mg x=none
 fns:∀ (n:Nat) (d:Fun),T.funs[n]?=some d->FnU X.prog X.w X.K X.mg X.base k d (jab T k n)
 gls:∀ (n:Nat) (x:Str) (u:U),T.gn[n]?=some x->T.gs[n]?=some u->∃ v w,X.mg x=some w/\RelV v w/\∀ H,RU X.K H u v
 room2:Room (k + 2) X.A
 cls:∀ n∈T.cs,1<=n->∃ C,XCls X.K (gK X.K) (clsN n) (clsF n) C
 mgK:∀ x v,gK X.K x=some v->X.mg x=some v
structure Cos (T:Tab)(k:Nat)(X:Cx)(c:Ctx):Prop extends Cok T k X c where
 sc:X.env.scope.names=c.sc
 kind:X.env.scope.kind=.function
 stk:X.stack=X.env::X.outer/\X.env.frame=some X.env.locals
section
variable {T:Tab}{k:Nat}{X:Cx}{c:Ctx}
theorem Cok.hu (h:Cok T k X c):X.A.units + 1 < cLine:=jlk h.room
theorem Cok.vis (h:Cok T k X c){x:Str}(v:(kd c x .local || kd c x .cell || kd c x .free)=true):Vis X.env.scope x:=by
 simp only [Bool.or_eq_true] at v
 rcases v with (v | v) | v
 ·exact .inl (h.loc x v)
 ·exact .inr (.inl (h.cel x v).1)
 ·rcases h.fre x v with z | z
  ·exact .inr (.inl z)
  ·exact .inr (.inr z)
theorem Cok.store (h:Cok T k X c){x:Str}(v:(kd c x .local || kd c x .cell)=true):Loc X.env.scope x/\(X.fn x=true\/X.env.scope.names.lookup x=some .local):=by
 simp only [Bool.or_eq_true] at v
 rcases v with v | v
 ·exact ⟨.inl (h.loc x v),.inr (h.loc x v)⟩
 ·exact ⟨.inr (h.cel x v).1,.inl (h.cel x v).2⟩
theorem Cok.gl (h:Cok T k X c){x:Str}(v:glo c x=true):Gl X x/\(x == ("__debug__" : Str))=false:=by
 unfold glo at v
 rw [Bool.and_eq_true] at v
 exact ⟨h.glb x v.1,by simpa using v.2⟩
end
noncomputable def jdh:Expr->Bool
 | .BoolOp .. | .BinOp .. | .UnaryOp .. | .IfExp .. | .Dict .. | .ListComp .. | .Compare .. | .Call .. | .Constant .. | .Subscript .. | .Name .. | .List .. | .Tuple ..=>true
 | _=>false
section
variable {T:Tab}{c:Ctx}
theorem jas (ir:E)(h:Expr):jdh (unE T c ir h)=true:=by cases ir <;> rfl
theorem jam {e:Expr}(h:jdh e=true)(es:List Expr)(env:Env):starEach (e::es) env=(false,eval e env)::starEach es env:=by
 cases e <;> first | rfl | cases h
theorem jh4 {e:Expr}(h:jdh e=true):jd3 e:=by
 intro o i
 cases e <;> first | rfl | cases h
theorem jb1 {e:Expr}(h:jdh e=true)(env:Env):∀ x,foldedSetIterable e env x=pure x:=by
 intro x
 cases e <;> first | rfl | cases h
theorem jg2 (it:It)(h:Expr)(env:Env):∀ x,foldedSetIterable (unI T c it h) env x=pure x:=by
 cases it with
 | e d=>exact jb1 (jas d _) env
 | dk d=>exact jb1 (jas d _) env
 | _=>exact fun _=>rfl
theorem jgk {o i:Expr}(h:jdh i=true)(env:Env)(tpos:Pos):∀ v,assign (.Subscript o i tpos) env v=(holding [v] (eval o env) >>= fun a=>holding [v,a] (eval i env) >>= fun b=>standAt tpos >>= fun _=>holding [v,a,b] (setItem a b v) >>= fun _=>release [v,a,b] []):=by
 intro v
 cases i <;> first | rfl | cases h
theorem jg4 {ir:E}(q:isLc ir=false)(h:Expr)(env:Env)(l:Nat):swapsWith (unE T c ir h) none l env=pure false:=by
 cases ir <;> first | rfl | cases q
theorem jg1 {ir:E}(q:isLc ir=false)(h tg:Expr)(env:Env)(l:Nat):swapsWithSole [tg] (unE T c ir h) l env=pure false:=by
 cases ir <;> first | rfl | cases q
theorem jgy (ir:E)(h x y:Expr)(p:Pos)(env:Env)(l:Nat):swapsWithSole [.Subscript x y p] (unE T c ir h) l env=pure false/\swappedStores [.Subscript x y p] (unE T c ir h) env=pure none:=by
 cases ir <;> exact ⟨rfl,rfl⟩
theorem jkr (ir:E)(h:Expr)(x:Str)(p:Pos)(env:Env):swappedStores [.Name x p] (unE T c ir h) env=pure none:=by
 cases ir <;> rfl
theorem jg3 (t:Tg)(h:Expr)(env:Env):(assignEach [unTg c t h] env).map (·.2)=[assign (unTg c t h) env]:=by
 cases t <;> rfl
theorem jcd {o:Expr}(h:jgL o=true)(m:Str)(env:Env)(w:Sem Value):attributeBase o m env w=w:=by
 unfold attributeBase
 split
 ·cases h
 ·rfl
theorem jbp:∀ (es:Es) (hs:List Expr) (env:Env) (pos:Pos),(backTo pos (starEach (unEs T c es hs) env)).any (·.1)=false/\(backTo pos (starEach (unEs T c es hs) env)).all (fun x=>!x.1)=true
 | .nil,_,_,_=>⟨rfl,rfl⟩
 | .cons d es,hs,env,pos=>by
  obtain ⟨h1,h2⟩:=jbp es hs.tail env pos
  show (backTo pos (starEach (unE T c d (hd hs)::unEs T c es hs.tail) env)).any (·.1)=false/\(backTo pos (starEach (unE T c d (hd hs)::unEs T c es hs.tail) env)).all (fun x=>!x.1)=true
  rw [jam (jas d _)]
  exact ⟨by show (false || (backTo pos (starEach (unEs T c es hs.tail) env)).any (·.1))=false; rw [h1]; rfl,by show (!false && (backTo pos (starEach (unEs T c es hs.tail) env)).all (fun x=>!x.1))=true; rw [h2]; rfl⟩
theorem jeT:∀ (es:Es) (hs:List Expr),(unEs T c es hs).length=ja3 es
 | .nil,_=>rfl
 | .cons _ es,hs=>congrArg (·+ 1) (jeT es hs.tail)
theorem ba {a b:Bool}(h:(a && b)=true):a=true/\b=true:=by simpa using h
theorem bn {a:Bool}(h:(!a)=true):a=false:=by simpa using h
theorem jfg {i:Nat}(h:decide (i < c.N.length)=true):c.N[i]?=some (nmA c i):=by
 unfold nmA
 rw [List.getD_eq_getElem?_getD,List.getElem?_eq_getElem (of_decide_eq_true h)]
 rfl
end
theorem jeW:∀ {ts:Tgs} {us:List U} {ς:Sg} {k:Sg->Prop},tgsU ts us ς k->us.length=jcX ts
 | .nil,us,ς,k,h=>by rw [h.1]; rfl
 | .cons t ts,us,ς,k,h=>by
  cases us with
  | nil=>exact h.elim
  | cons u r=>
   have:∃ ς',tgsU ts r ς' k:=tg_some h
   obtain ⟨ς',h'⟩:=this
   show r.length + 1=jcX ts + 1
   rw [jeW h']
where
 tg_some {t:Tg} {u:U} {ς:Sg} {P:Sg->Prop} (h:tgU t u ς P):∃ ς',P ς':=by
  have:=jbL (k':=fun _=>∃ ς',P ς') h fun ς' h'=>⟨ς',h'⟩
  exact tg_const this
 tg_const:∀ {t:Tg} {u:U} {ς:Sg} {P:Prop},tgU t u ς (fun _=>P)->P
  | .n _,_,_,_,h=>h
  | .t ts,u,ς,P,h=>by
   cases u with
   | tup us=>exact tgs_const (ts:=ts) (us:=us) h
   | _=>exact h.elim
 tgs_const:∀ {ts:Tgs} {us:List U} {ς:Sg} {P:Prop},tgsU ts us ς (fun _=>P)->P
  | .nil,_,_,_,h=>h.2
  | .cons t ts,us,ς,P,h=>by
   cases us with
   | nil=>exact h.elim
   | cons u r=>exact tg_const (jbL (t:=t) h fun ς' h'=>tgs_const h')
section
variable {T:Tab}{k:Nat}{X:Cx}{c:Ctx}
theorem jdA:∀ (ts:Tgs) (hs:List Expr) (env:Env),(assignEach (jcV c ts hs) env).length=jcX ts/\(assignEach (jcV c ts hs) env).findIdx? (·.1)=none
 | .nil,_,_=>⟨rfl,rfl⟩
 | .cons t ts,hs,env=>by
  obtain ⟨h1,h2⟩:=jdA ts hs.tail env
  have e:assignEach (jcV c (.cons t ts) hs) env=(false,assign (unTg c t (hd hs)) env)::assignEach (jcV c ts hs.tail) env:=by cases t <;> rfl
  rw [e]
  exact ⟨by simp [h1,jcX],by simp [List.findIdx?_cons,h2]⟩
theorem Cok.nm {i:Nat}(C:Cok T k X c)(h:decide (i < c.N.length)=true):X.N[i]?=some (nmA c i):=by rw [C.hN]; exact jfg h
mutual
theorem sTg (C:Cok T k X c):∀ (t:Tg) (h:Expr),okTg c t=true->PG X (unTg c t h) (lG X.K (tgU t))
 | .n _,_,q=>let s:=C.store (ba q).2; u_tn (by rw [C.hN]; exact C.nd) (C.nm (ba q).1) s.1 s.2
 | .t ts,h,q=>u_tt C.calm (sTgs C ts (cl h) q) (jdA ts _ X.env).1 (jdA ts _ X.env).2 fun us ς k q=>jeW q
theorem sTgs (C:Cok T k X c):∀ (ts:Tgs) (hs:List Expr),jhP c ts=true->PGs X (jcV c ts hs) (lGs X.K (tgsU ts))
 | .nil,_,_=>jku
 | .cons t ts,hs,q=>jkv (sTg C t (hd hs) (ba q).1) (sTgs C ts hs.tail (ba q).2) (by cases t <;> rfl)
end
noncomputable def EB (X:Cx)(σ:St):XK:=fun cls dx H'=>∀ (pins:List (Addr×Obj)) (ea:Addr) (s':Shared),Inv X pins σ H' s'->Lies X.s₀.heap.objs.size X.pn H' s'.heap ea cls dx->X.xe (.ref ea) s'
theorem je5 {j:Nat}{f:Addr}{fd:FuncData}{ps:List Str}{sp:Sp}{pins:List (Addr×Obj)}{σ:St}{H:Hp}{s:Shared}{Q:VK}{us:List Value}{vs:List V}(F:FnOk X.prog X.w X.K X.mg X.base (CX1 X.prog X.w) j f fd ps sp)(hr:Room j X.A)(hb:Binds X.K fd ps [])
  (I:Inv X pins σ H s) (r:Vals vs us) (h:sp vs H Q (EB X σ)):wpAny (model X.prog X.w) X.A (call (.ref f) us) (EP X pins σ Q) X.xe s:=by
 have hl:(us++[]).length=ps.length:=by rw [List.append_nil,<- r.length]; exact F.len _ _ _ _ h
 have hbs:=hb s us I.kIn hl
 rw [List.append_nil] at hbs
 refine wpAny_call (codeAny_mono (F.run X.A X.stack s H ⟨us,[]⟩ us vs Q (EB X σ) hr I.env0 hbs r h) fun r s' hq=>?_)
 cases r with
 | error e=>
  obtain ⟨ea,H',cls,dx,rfl,I',l,q⟩:=CX1.back I hq
  exact q pins ea s' I' l
 | ok fl=>
  cases fl with
  | ret u=>exact I.after hq
  | next=>exact False.elim hq
  | brk=>exact False.elim hq
  | cont=>exact False.elim hq
theorem je2 {n:Nat}{σ:St}{H:Hp}{G:Gp}{us:List U}{vs:List V}{Q:K1}{E:KX}{Q0:VK}(r:RUs X.K H us vs)(hG:HR X.K H G)(h:jab T k n us G Q E)(lv:LV X H G Q Q0)(lx:LX X σ H G E):lSp X.K (jab T k n) vs H Q0 (EB X σ):=
 ⟨us,G,Q,E,r,hG,h,lv,fun x G' H' C dx xd hr f q pins ea s' I' l=>lx pins (.ref ea) s' x G' H' I' ⟨ea,C,dx,rfl,l,xd⟩ hr f q⟩
theorem jiu {n:Nat}{d:Fun}{x:Str}{e:Expr}{es:List Expr}{ts:UA}{p pos:Pos}(C:Cok T k X c)(hd:T.funs[n]?=some d)(hx:d.name=x)(hg:glo c x=true)(ha:PA X (e::es) (lA X ts))
  (he:starEach (e::es) X.env=(false,eval e X.env)::starEach es X.env) (hpl:(backTo pos (starEach es X.env)).any (·.1)=false) :
  PE X (.Call (.Name x p) (e::es) [] pos) (lE X fun ς G Q E=>ts ς G (fun us G1=>jab T k n us G1 Q E) E):=by
 obtain ⟨f,fd,F,hm,hk,hb⟩:=C.fns n d hd
 obtain ⟨g1,g2⟩:=C.gl hg
 rw [hx] at hm
 intro pins s σ H Q0 I ⟨ς,G,Q,E,hς,hG,h,lv,lx⟩
 refine wpAny_Call_Name_kw (jbZ I g1 hm ?_ g2)
 have h':lA X ts σ H fun vs H1=>lSp X.K (jab T k n) vs H1 Q0 (EB X σ):=⟨ς,G,_,E,hς,hG,h,fun us vs G1 H1 rs hG1 f1 h1=>je2 rs hG1 h1 (lv.fr f1) (lx.fr f1),lx⟩
 refine PySem.W.callWith_K (h₀:=X.base) I.ok.mod.kin hk (thn (ha pos pins s σ H _ I h') fun us s1 ⟨vs,H1,I1,r,q⟩=>⟨I1.kIn,?_⟩) he hpl
 exact je5 F C.room2 hb I1 r q
theorem jg7 {n:Nat}{d:Fun}{x:Str}{p pos:Pos}(C:Cok T k X c)(hd:T.funs[n]?=some d)(hx:d.name=x)(hg:glo c x=true) :
  PE X (.Call (.Name x p) [] [] pos) (lE X fun _ G Q E=>jab T k n [] G Q E):=by
 obtain ⟨f,fd,F,hm,hk,hb⟩:=C.fns n d hd
 obtain ⟨g1,g2⟩:=C.gl hg
 rw [hx] at hm
 intro pins s σ H Q0 I ⟨ς,G,Q,E,hς,hG,h,lv,lx⟩
 refine wpAny_Call_Name_kw (jbZ I g1 hm ?_ g2)
 exact PySem.W.callWith_K0 I.kIn hk (je5 (us:=[]) (vs:=[]) F C.room2 hb I .nil (je2 (show RUs X.K H [] [] from rfl) hG h lv lx))
theorem Cok.comp {pick:List (Option Nat)}{scope:Scope}{N:List Str}(C:Cok T k X c)(h:cOkS c N pick scope=true):CScope X N pick scope/\∀ cl A s₀ H₀ fp,Cok T k (jak X N scope cl A s₀ H₀ fp) ⟨N,scope.names⟩:=by
 unfold cOkS at h
 simp only [Bool.and_eq_true,decide_eq_true_eq] at h
 obtain ⟨⟨⟨⟨⟨⟨h1,h2⟩,h3⟩,h4⟩,h5⟩,h6⟩,h7⟩:=h
 have cells:∀ y∈scope.names,y.2=.cell->scope.names.lookup y.1=some .cell:=fun y hy hc=>by
  have:=List.all_eq_true.mp h2 y hy
  rw [hc] at this
  simpa using this
 refine ⟨⟨h1,cells,fun y hy hl=>?_,fun y hy hf=>?_,by simpa using h5,fun i j x e1 e2=>?_⟩,fun cl A s₀ H₀ fp=>?_⟩
 ·have:=List.all_eq_true.mp h3 y hy
  rw [hl] at this
  simpa using this
 ·have:=List.all_eq_true.mp h4 y hy
  rw [hf] at this
  simp only [bne_self_eq_false,Bool.false_or,Bool.and_eq_true,Bool.or_eq_true,beq_iff_eq] at this
  refine ⟨this.1,?_⟩
  rcases this.2 with z | z
  ·exact .inl (C.cel _ z).1
  ·exact C.fre _ z
 ·have hz:(N.zip pick)[i]?=some (x,some j):=by rw [List.getElem?_zip_eq_some]; exact ⟨e1,e2⟩
  have:=List.all_eq_true.mp h6 _ (List.mem_of_getElem? hz)
  rw [C.hN]
  simpa using this
 ·refine ⟨rfl,h7,fun x z=>?_,fun x z=>?_,fun x z=>?_,fun x z=>?_,C.room,C.calm,PassesOwn.never,C.blt,C.fns,C.gls,C.room2,C.cls,C.mgK⟩
  ·exact jar (by decide) (eq_of_beq z)
  ·exact ⟨jar (by decide) (eq_of_beq z),z⟩
  ·exact jaF (eq_of_beq z)
  ·exact glc (eq_of_beq z)
end
end Z

namespace Z
open PySem L2
set_option maxHeartbeats 8000000
section
variable {K:PySem.W.Frag}{H H':Hp}{G G':Gp}
theorem HR.newX (h:HR K H G){p:Addr}{l:List (Str×V)}(e:H p=none):HR K (upd H p (.xd l)) G:=fun a o q=>by
 have m:=h a o q
 obtain ⟨ho,e2⟩:=m.there
 exact m.keep (jac (jad e2 e)) (TS.new e)
theorem HR.xdNone (h:HR K H G){a:Addr}{l:List (Str×V)}(e:H a=some (.xd l)):G a=none:=by
 cases q:G a with
 | none=>rfl
 | some o=>
  have m:=h a o q
  cases o with
  | lst us=>obtain ⟨_,e2,_⟩:=m; rw [e] at e2; cases e2
  | fro us=>obtain ⟨_,_,e2,_⟩:=m; rw [e] at e2; cases e2
  | dK us=>obtain ⟨_,e2,_⟩:=m; rw [e] at e2; cases e2
  | dT us=>obtain ⟨_,e2,_⟩:=m; rw [e] at e2; cases e2
  | frd _ us=>obtain ⟨_,e2,_⟩:=m; rw [e] at e2; cases e2
theorem XD.fr {C dx:Addr}{x:XV}(h:XD K H C dx x)(hG:HR K H G)(f:Fr H G H' G'):XD K H' C dx x:=by
 obtain ⟨h1,h2,h3,l,hl,hn,r⟩:=h
 exact ⟨h1,h2,h3,l,(f dx _ hl (hG.xdNone hl)).1,hn,r.ts (f.ts hG)⟩
end
theorem jfF:∀ k < 6,∀ f∈clsF k,f∈fldN:=by decide +kernel
theorem jgr (k:Nat):∀ f∈clsF k,f∈fldN:=by
 by_cases h:k < 6
 ·exact jfF k h
 ·intro f hf
  have:clsF k=[]:=by
   unfold clsF
   rw [List.getD_eq_getElem?_getD,List.getElem?_eq_none (by show clsA.length<=k; simp only [clsA,List.length_cons,List.length_nil]; omega)]; rfl
  rw [this] at hf
  cases hf
theorem jes:∀ i < 6,∀ j < 6,clsN i=clsN j->i=j:=by decide +kernel
theorem jfE:∀ i < 6,1<=i->clsN i ≠ "PlanError" := by decide +kernel
section
variable {T:Tab}{k:Nat}{X:Cx}{c:Ctx}
theorem jeh {cs:List Nat}{n:Nat}(h:okC cs c n=true):1<=n/\n < 6/\n∈cs/\glo c (clsN n)=true:=by
 unfold okC at h
 simp only [Bool.and_eq_true,decide_eq_true_eq] at h
 exact ⟨h.1.1.1,h.1.1.2,by simpa using h.1.2,h.2⟩
theorem s_raise {n:Nat}{e:Expr}{es:List Expr}{ts:UA}{p cpos pos:Pos}(C:Cok T k X c)(hn:okC T.cs c n=true)(ha:PA X (e::es) (lA X ts))(he:starEach (e::es) X.env=(false,eval e X.env)::starEach es X.env)(hpl:(backTo cpos (starEach es X.env)).any (·.1)=false) :
  PS X (.Raise (some (.Call (.Name (clsN n) p) (e::es) [] cpos)) none pos) (lS X fun D ς G=>ts ς G (fun us G1=>us.length=(clsF n).length/\D.ex ⟨n,us⟩ ς G1) fun x G1=>D.ex x ς G1):=by
 obtain ⟨n1,n2,n3,n4⟩:=jeh hn
 obtain ⟨Ca,cl⟩:=C.cls n n3 n1
 obtain ⟨g1,g2⟩:=C.gl n4
 refine (je7 (k:=k) cl (jgr n) C.room2 g1 (C.mgK _ _ cl.m) ha g2 he hpl).imp fun D σ H ⟨De,ς,G,hς,hG,h,ld⟩=>?_
 refine ⟨ς,G,_,_,hς,hG,h,fun us vs G1 H1 rs hG1 f1 h1=>?_,ld.lx hς hG⟩
 have hl:vs.length=(clsF n).length:=rs.length.symm.trans h1.1
 refine ⟨hl,fun pins ea dx s' hd I l=>?_⟩
 have f2:Fr H1 G1 (upd H1 dx (.xd ((clsF n).zip vs))) G1:=Fr.new hd
 refine ld.ex pins (.ref ea) s' ⟨n,us⟩ ς σ G1 _ I ((hς.ts (f1.ts hG)).ts (f2.ts hG1)) ⟨ea,Ca,dx,rfl,l,n1,n2,cl,_,jae,?_,?_⟩ (hG1.newX hd) (f1.trans f2) h1.2
 ·exact List.map_fst_zip (by omega)
 ·rw [List.map_snd_zip (by omega)]
  exact rs.ts (f2.ts hG1)
end
structure HC (T:Tab)(X:Cx)(c:Ctx)(n:Nat)(ea C dx:Addr)(x:XV):Prop where
 hN:X.N=c.N
 nd:c.N.Nodup
 loc:∀ y,kd c y .local=true->X.env.scope.names.lookup y=some .local
 cel:∀ y,kd c y .cell=true->X.env.scope.names.lookup y=some .cell/\X.fn y=true
 fre:∀ y,kd c y .free=true->X.env.scope.names.lookup y=some .cell\/X.env.scope.names.lookup y=some .free
 glb:∀ y,kd c y .globalImplicit=true->Gl X y
 blt:∀ y∈jcc,X.mg y=none
 cls:∀ n∈T.cs,1<=n->∃ C,XCls X.K (gK X.K) (clsN n) (clsF n) C
 me:XCls X.K (gK X.K) (clsN x.c) (clsF x.c) C
 lo:1<=x.c
 hi:x.c < 6
 pin:XPin X ea C dx
 mgK:∀ y v,gK X.K y=some v->X.mg y=some v
 en:n < c.N.length/\kd c (nmA c n) .local=true/\(nmA c n == ("__debug__" : Str))=false/\(nmA c n == ("__classdict__" : Str))=false
structure HSt (X:Cx)(n:Nat)(ea C dx:Addr)(x:XV)(σ:St)(H:Hp)(ς:Sg)(G:Gp):Prop where
 sr:SR X.K H ς σ
 hr:HR X.K H G
 en:σ[n]?=some (some (.ref ea))
 xd:XD X.K H C dx x
noncomputable def hB (X:Cx)(n:Nat)(ea C dx:Addr)(x:XV)(f:Sg->Option Bool):TE:=fun σ H Q=>∃ ς G b,HSt X n ea C dx x σ H ς G/\f ς=some b/\∀ H',HR X.K H' G->Fr H G H' G->Q (.bl b) H'
noncomputable def hT (X:Cx)(n:Nat)(ea C dx:Addr)(x:XV)(f:Sg->Option Bool):TT:=fun σ H Q=>∃ ς G b,HSt X n ea C dx x σ H ς G/\f ς=some b/\∀ H',HR X.K H' G->Fr H G H' G->Q b H'
section
variable {T:Tab}{X:Cx}{c:Ctx}{n:Nat}{ea C dx:Addr}{x:XV}
theorem HSt.fr {σ:St}{H H':Hp}{ς:Sg}{G G':Gp}(h:HSt X n ea C dx x σ H ς G)(hr:HR X.K H' G')(f:Fr H G H' G'):HSt X n ea C dx x σ H' ς G':=⟨h.sr.ts (f.ts h.hr),hr,h.en,h.xd.fr h.hr f⟩
theorem HC.pe (h:HC T X c n ea C dx x){p:Pos}:PE X (.Name (nmA c n) p) (tVar n):=by
 obtain ⟨h1,h2,h3,h4⟩:=h.en
 exact jbi (by rw [h.hN]; exact jfg (decide_eq_true h1)) (.inl (h.loc _ h2)) h3 h4
theorem HC.gl (h:HC T X c n ea C dx x){y:Str}(v:glo c y=true):Gl X y/\(y == ("__debug__" : Str))=false:=by
 unfold glo at v
 rw [Bool.and_eq_true] at v
 exact ⟨h.glb y v.1,by simpa using v.2⟩
theorem HC.ownC (h:HC T X c n ea C dx x){m:Nat}(q:okC T.cs c m=true):∃ C',XCls X.K (gK X.K) (clsN m) (clsF m) C'/\clsN m ≠ "PlanError" /\ ∀ p,PE X (.Name (clsN m) p) (tC (.ref C')):=by
 obtain ⟨m1,m2,m3,m4⟩:=jeh q
 obtain ⟨C',cl⟩:=h.cls m m3 m1
 obtain ⟨g1,g2⟩:=h.gl m4
 exact ⟨C',cl,jfE m m2 m1,fun p=>jhA g1 (h.mgK _ _ cl.m) rfl g2⟩
theorem HC.pcs (h:HC T X c n ea C dx x):∀ {ks:List Nat},ks.all (okC T.cs c)=true->∀ hs:List Expr,∃ (xs:List Str) (Cs:List Addr),xs=ks.map clsN/\XMany X (gK X.K) xs Cs/\Cs.length=ks.length/\PA X (unCs ks hs) (fun _ H Q=>Q (Cs.map .ref) H)
 | [],_,_=>⟨[],[],rfl,.nil,rfl,jcm⟩
 | m::ks,q,hs=>by
  simp only [List.all_cons,Bool.and_eq_true] at q
  obtain ⟨C',cl,np,pe⟩:=h.ownC q.1
  obtain ⟨xs,Cs,e,mn,ln,pa⟩:=h.pcs q.2 hs.tail
  subst e
  exact ⟨_,C'::Cs,rfl,.cons cl np mn,by simp [ln],jaN (pe _) pa⟩
theorem jdO:bootBuiltins "isinstance" = some (.builtin "isinstance"):=PyProof.Rows.boot_isinstance
theorem HC.isiT (h:HC T X c n ea C dx x)(g1:Gl X "isinstance")(g2:(("isinstance" : Str) == ("__debug__" : Str))=false){Cs:List Addr}{xs:List Str}(mn:XMany X (gK X.K) xs Cs){p1 p2 p3 p4:Pos}{kq:Nat}{es:List Expr}(pa:PA X es (fun _ H Q=>Q (Cs.map .ref) H)) :
  PE X (.Call (.Name "isinstance" p3) [.Name (nmA c n) p1,.Tuple es kq p2] [] p4) (fun σ H Q=>σ[n]?=some (some (.ref ea))/\Cs.length<=8/\∀ p,H p=none->(∃ l,upd H p (.tup (Cs.map .ref)) dx=some (.xd l))/\Q (.bl (xs.contains (clsN x.c))) (upd H p (.tup (Cs.map .ref)))):=by
 have isn:X.mg "isinstance" = none:=h.blt _ (by decide)
 have a1:PA X [.Tuple es kq p2] _:=jaN (jfd pa) jcm (jam rfl _ _)
 have a2:PA X [.Name (nmA c n) p1,.Tuple es kq p2] _:=jaN (h.pe) a1 (jam rfl _ _)
 have cr:=jfK h.me mn h.pin
 have hh:starEach [.Name (nmA c n) p1,.Tuple es kq p2] X.env=(false,eval (.Name (nmA c n) p1) X.env)::starEach [.Tuple es kq p2] X.env:=jam rfl _ _
 have hp:(backTo p4 (starEach [.Tuple es kq p2] X.env)).any (·.1)=false:=by rw [jam rfl]; rfl
 refine PE.imp (jbI (p:=p3) (pos:=p4) cr g1 isn jdO a2 (by decide) g2 hh hp) fun σ H Q ⟨e1,e2,k⟩=>?_
 refine ⟨_,e1,?_,fun p hp=>⟨p,rfl,jae,(k p hp).1,(k p hp).2⟩⟩
 rw [List.length_map,sizeLine_eq]; omega
theorem HC.lit (h:HC T X c n ea C dx x){l:HL}(q:okHL T.cs c l=true)(hx:Expr):PE X (unHL c n l hx) (hB X n ea C dx x fun ς=>litH x ς l)/\PT X (unHL c n l hx) (hT X n ea C dx x fun ς=>litH x ς l):=by
 have fin:PE X (unHL c n l hx) (hB X n ea C dx x fun ς=>litH x ς l):=by
  have isn:X.mg "isinstance" = none:=h.blt _ (by decide)
  have ven:X.mg "ValueError" = none:=h.blt _ (by decide)
  cases l with
  | v i=>
   have q':((decide (i < c.N.length) && (kd c (nmA c i) .local || kd c (nmA c i) .cell || kd c (nmA c i) .free) && !(nmA c i == ("__debug__" : Str)) && !(nmA c i == ("__classdict__" : Str))))=true:=q
   obtain ⟨⟨⟨h1,h2⟩,h3⟩,h4⟩:=(⟨⟨ba (ba (ba q').1).1,(ba (ba q').1).2⟩,(ba q').2⟩:((_/\_)/\_)/\_)
   have vis:Vis X.env.scope (nmA c i):=by
    simp only [Bool.or_eq_true] at h2
    rcases h2 with (z | z) | z
    ·exact .inl (h.loc _ z)
    ·exact .inr (.inl (h.cel _ z).1)
    ·exact (h.fre _ z).elim (fun z=>.inr (.inl z)) fun z=>.inr (.inr z)
   refine (jbi (by rw [h.hN]; exact jfg h1) vis (bn h3) (bn h4)).imp fun σ H Q ⟨ς,G,b,st,e,k⟩=>?_
   have e':(match ς[i]? with | some (some (U.bl b))=>some b | _=>none)=some b:=e
   split at e'
   ·rename_i b' eb
    cases e'
    obtain ⟨v,ev,r⟩:=st.sr.2 i _ eb
    cases r
    exact ⟨_,ev,k H st.hr (Fr.refl _ _)⟩
   ·cases e'
  | isiV=>
   have q':(glo c "isinstance" && glo c "ValueError")=true:=q
   obtain ⟨g1,g2⟩:=h.gl (ba q').1
   obtain ⟨g3,g4⟩:=h.gl (ba q').2
   refine (jbI (jfJ h.me h.pin) g1 isn jdO (jaN h.pe (jaN (jhD (v:=.ty "ValueError") g3 ven (by decide +kernel) rfl (by decide) g4) jcm)) (by decide) g2 rfl rfl).imp fun σ H Q ⟨ς,G,b,st,e,k⟩=>?_
   cases (show true=b from Option.some.inj e)
   obtain ⟨_,_,_,l,hl,_⟩:=st.xd
   exact ⟨_,st.en,rfl,⟨l,hl⟩,k H st.hr (Fr.refl _ _)⟩
  | is1 m=>
   have q':(glo c "isinstance" && okC T.cs c m)=true:=q
   obtain ⟨g1,g2⟩:=h.gl (ba q').1
   obtain ⟨C',cl,np,pe⟩:=h.ownC (ba q').2
   refine (jbI (jfL h.me cl np h.pin) g1 isn jdO (jaN h.pe (jaN (pe _) jcm)) (by decide) g2 rfl rfl).imp fun σ H Q ⟨ς,G,b,st,e,k⟩=>?_
   have eb:decide (x.c=m)=b:=Option.some.inj e
   have e2:decide (clsN x.c=clsN m)=b:=by
    rw [<- eb]
    obtain ⟨_,m2,_⟩:=jeh (ba q').2
    by_cases z:x.c=m
    ·simp [z]
    ·have:clsN x.c≠clsN m:=fun y=>z (jes _ h.hi _ m2 y)
     simp [z,this]
   obtain ⟨_,_,_,l,hl,_⟩:=st.xd
   exact ⟨_,st.en,rfl,⟨l,hl⟩,by rw [e2]; exact k H st.hr (Fr.refl _ _)⟩
  | isi ks=>
   have q':(glo c "isinstance" && ks.all (okC T.cs c) && decide (ks.length<=8))=true:=q
   obtain ⟨g1,g2⟩:=h.gl (ba (ba q').1).1
   obtain ⟨xs,Cs,exs,mn,ln,pa⟩:=h.pcs (ba (ba q').1).2 (cl (hd (cl hx).tail))
   refine PE.imp (h.isiT g1 g2 mn pa) fun σ H Q ⟨ς,G,b,st,e,k⟩=>?_
   have eb:ks.contains x.c=b:=Option.some.inj e
   have e2:xs.contains (clsN x.c)=b:=by
    rw [<- eb,exs]
    have all:∀ m∈ks,m < 6:=fun m hm=>(jeh (List.all_eq_true.mp (ba (ba q').1).2 m hm)).2.1
    rw [Bool.eq_iff_iff]
    simp only [List.contains_iff_mem,List.mem_map]
    constructor
    ·rintro ⟨m,hm,em⟩
     have:=jes _ (all m hm) _ h.hi em
     rw [<- this]; exact hm
    ·intro hm
     exact ⟨_,hm,rfl⟩
   refine ⟨st.en,?_,fun p hp=>⟨?_,?_⟩⟩
   ·have:=of_decide_eq_true (ba q').2
    omega
   ·obtain ⟨_,_,_,l,hl,_⟩:=(st.fr (st.hr.newT hp) (Fr.new hp)).xd
    exact ⟨l,hl⟩
   ·rw [e2]; exact k _ (st.hr.newT hp) (Fr.new hp)
 refine ⟨fin,?_⟩
 have tr:∀ whole,isTrue (unHL c n l hx) X.env whole=(do let v <- whole; standAt (unHL c n l hx).pos; holding [v] (truthy v)):=by
  intro whole
  cases l <;> rfl
 refine (jiR fin tr).imp fun σ H Q ⟨ς,G,b,st,e,k⟩=>?_
 exact ⟨ς,G,b,st,e,fun H' a f=>⟨b,rfl,k H' a f⟩⟩
theorem HC.litN (h:HC T X c n ea C dx x){p:Bool×HL}(q:okHL T.cs c p.2=true)(hx:Expr):PE X (jdx c n p hx) (hB X n ea C dx x fun ς=>lit1 x ς p)/\PT X (jdx c n p hx) (hT X n ea C dx x fun ς=>lit1 x ς p):=by
 obtain ⟨neg,l⟩:=p
 cases neg with
 | false=>
  obtain ⟨h1,h2⟩:=h.lit q hx
  refine ⟨PE.imp h1 fun σ H Q ⟨ς,G,b,st,e,k⟩=>⟨ς,G,b,st,?_,k⟩,PT.imp h2 fun σ H Q ⟨ς,G,b,st,e,k⟩=>⟨ς,G,b,st,?_,k⟩⟩ <;>
  ·unfold lit1 at e
   dsimp only at e
   split at e
   ·rename_i b' eb
    show litH x ς l=some b
    rw [eb]; simpa using e
   ·cases e
 | true=>
  obtain ⟨h1,h2⟩:=h.lit q (c0 hx)
  refine ⟨PE.imp (ji4 h1) fun σ H Q ⟨ς,G,b,st,e,k⟩=>⟨ς,G,!b,st,?_,fun H' a f=>⟨!b,rfl,by rw [Bool.not_not]; exact k H' a f⟩⟩,PT.imp (jiS h2) fun σ H Q ⟨ς,G,b,st,e,k⟩=>⟨ς,G,!b,st,?_,fun H' a f=>by show Q (!!b) H'; rw [Bool.not_not]; exact k H' a f⟩⟩ <;>
  ·unfold lit1 at e
   dsimp only at e
   split at e
   ·rename_i b' eb
    show litH x ς l=some (!b)
    rw [eb]
    have:(!b')=b:=by simpa using e
    rw [<- this,Bool.not_not]
   ·cases e
theorem HC.conds (h : HC T X c n ea C dx x)(k : Bool) : ∀ (as : List (Bool × HL)) (a : Bool × HL) (hx : Expr) (hs : List Expr) (pos : Pos), okHL T.cs c a.2 = true -> jbQ T.cs c as = true ->
    PE X (.BoolOp (boU k) (jdx c n a hx :: jd5 c n as hs) pos) (hB X n ea C dx x fun ς => jaL x ς k a as) /\ PW X (.BoolOp (boU k) (jdx c n a hx :: jd5 c n as hs) pos) (hT X n ea C dx x fun ς => jaL x ς k a as)
  | [], a, hx, hs, pos, q, _ => by
    obtain ⟨h1, h2⟩ := h.litN q hx
    cases k with
    | true => exact ⟨jeg h1, pw_and1 h2⟩
    | false => exact ⟨jeg h1, pw_or1 h2⟩
  | b :: r, a, hx, hs, pos, q, qs => by
    unfold jbQ at qs
    simp only [List.all_cons, Bool.and_eq_true] at qs
    obtain ⟨h1, h2⟩ := h.litN q hx
    obtain ⟨r1, r2⟩ := h.conds k r b (hd hs) hs.tail pos qs.1 qs.2
    have red : ∀ {ς : Sg} {t b' : Bool}, lit1 x ς a = some t -> jaL x ς k a (b :: r) = some b' -> (if t = k then jaL x ς k b r else some t) = some b' := fun {ς t b'} e1 e2 => by
      have e3 : (match lit1 x ς a with | some t => if t = k then jaL x ς k b r else some t | none => none) = some b' := e2
      rw [e1] at e3
      exact e3
    have some1 : ∀ {ς : Sg} {b' : Bool}, jaL x ς k a (b :: r) = some b' -> ∃ t, lit1 x ς a = some t := fun {ς b'} e2 => by
      have e3 : (match lit1 x ς a with | some t => if t = k then jaL x ς k b r else some t | none => none) = some b' := e2
      cases z : lit1 x ς a with
      | none => rw [z] at e3; cases e3
      | some t => exact ⟨t, rfl⟩
    cases k with
    | true =>
      refine ⟨PE.imp (ji9 h1 r1) fun σ H Q ⟨ς, G, b', st, e, kk⟩ => ?_, PW.imp (pw_and h2 r2) fun σ H Q ⟨ς, G, b', st, e, kk⟩ => ?_⟩ <;>
      · obtain ⟨t, et⟩ := some1 e
        have e' := red et e
        first
          | (refine ⟨ς, G, t, st, et, fun H' hr f => ⟨t, rfl, ?_⟩⟩
             cases t with
             | true => exact ⟨ς, G, b', st.fr hr f, by simpa using e', fun H'' a b => kk H'' a (f.trans b)⟩
             | false => cases (by simpa using e' : false = b'); exact kk H' hr f)
          | (refine ⟨ς, G, t, st, et, fun H' hr f => ?_⟩
             cases t with
             | true => exact ⟨ς, G, b', st.fr hr f, by simpa using e', fun H'' a b => kk H'' a (f.trans b)⟩
             | false => cases (by simpa using e' : false = b'); exact kk H' hr f)
    | false =>
      refine ⟨PE.imp (jk3 h1 r1) fun σ H Q ⟨ς, G, b', st, e, kk⟩ => ?_, PW.imp (pw_or h2 r2) fun σ H Q ⟨ς, G, b', st, e, kk⟩ => ?_⟩ <;>
      · obtain ⟨t, et⟩ := some1 e
        have e' := red et e
        first
          | (refine ⟨ς, G, t, st, et, fun H' hr f => ⟨t, rfl, ?_⟩⟩
             cases t with
             | false => exact ⟨ς, G, b', st.fr hr f, by simpa using e', fun H'' a b => kk H'' a (f.trans b)⟩
             | true => cases (by simpa using e' : true = b'); exact kk H' hr f)
          | (refine ⟨ς, G, t, st, et, fun H' hr f => ?_⟩
             cases t with
             | false => exact ⟨ς, G, b', st.fr hr f, by simpa using e', fun H'' a b => kk H'' a (f.trans b)⟩
             | true => cases (by simpa using e' : true = b'); exact kk H' hr f)
theorem HC.cond (h:HC T X c n ea C dx x)(k:Bool)(a:Bool×HL)(as:List (Bool×HL))(hx:Expr)(q:okHL T.cs c a.2=true)(qs:jbQ T.cs c as=true) :
  PE X (jd6 c n k a as hx) (hB X n ea C dx x fun ς=>jaL x ς k a as)/\PT X (jd6 c n k a as hx) (hT X n ea C dx x fun ς=>jaL x ς k a as):=by
 cases as with
 | nil=>exact h.litN q hx
 | cons b r=>let z:=h.conds k (b::r) a (hd (cl hx)) (cl hx).tail hx.pos q qs; exact ⟨z.1,z.2.pt⟩
noncomputable def hV (X:Cx)(n:Nat)(ea C dx:Addr)(x:XV)(f:Sg->Gp->K1->Prop):TE:=fun σ H Q0=>∃ ς G Q,HSt X n ea C dx x σ H ς G/\f ς G Q/\LV X H G Q Q0
theorem jeR {K:PySem.W.Frag}{H:Hp}{f:Str}{u:U}:∀ {l:List (Str×V)} {us:List U},RUs K H us (l.map (·.2))->((l.map (·.1)).zip us).lookup f=some u->∃ v,l.lookup f=some v/\RU K H u v
 | [],us,_,e=>by simp at e
 | (y,v)::l,[],r,e=>by simp at e
 | (y,v)::l,w::us,r,e=>by
  obtain ⟨v',vr,ev,r1,rs⟩:=r
  simp only [List.map_cons,List.cons.injEq] at ev
  obtain ⟨rfl,rfl⟩:=ev
  simp only [List.map_cons,List.zip_cons_cons,List.lookup_cons] at e ⊢
  split at e
  ·rename_i z
   cases e
   exact ⟨v,rfl,r1⟩
  ·rename_i z
   obtain ⟨v',h1,h2⟩:=jeR rs e
   exact ⟨v',h1,h2⟩
theorem XD.get {K:PySem.W.Frag}{H:Hp}{f:Str}{u:U}(xd:XD K H C dx x)(e:atH x (.att f)=some u):∃ l v,H dx=some (.xd l)/\l.lookup f=some v/\RU K H u v:=by
 obtain ⟨_,_,_,l,hl,hn,r⟩:=xd
 have e':((clsF x.c).zip x.fs).lookup f=some u:=e
 rw [<- hn] at e'
 obtain ⟨v,h1,h2⟩:=jeR r e'
 exact ⟨l,v,hl,h1,h2⟩
theorem HC.at (h:HC T X c n ea C dx x){a:HA}(q:okHA a=true)(hx:Expr):PE X (unHA c n a hx) (fun σ H Q0=>∃ ς G u,HSt X n ea C dx x σ H ς G/\atH x a=some u/\∀ v,RU X.K H u v->Q0 v H):=by
 cases a with
 | str y=>exact PE.imp jgF fun σ H Q ⟨ς,G,u,st,e,k⟩=>by cases e; exact k _ rfl
 | att f=>
  have hf:f∈fldN:=by simpa [okHA] using q
  refine PE.imp (jhy h.me h.pin hf h.pe rfl) fun σ H Q ⟨ς,G,u,st,e,k⟩=>?_
  obtain ⟨l,v,hl,h1,h2⟩:=st.xd.get e
  exact ⟨_,st.en,rfl,l,v,hl,h1,k v h2⟩
theorem jh5 (a:HA)(hx:Expr)(es:List Expr)(env:Env):starEach (unHA c n a hx::es) env=(false,eval (unHA c n a hx) env)::starEach es env:=by cases a <;> rfl
theorem HC.ats (h:HC T X c n ea C dx x):∀ {as:List HA} (_:as.all okHA=true) (hs:List Expr),PA X (jfT c n as hs) (fun σ H Q0=>∃ ς G us,HSt X n ea C dx x σ H ς G/\atsH x as=some us/\∀ vs,RUs X.K H us vs->Q0 vs H)
 | [],_,_=>fun pos pins s σ H Q0 I ⟨ς,G,us,st,e,k⟩=>by cases e; exact jcm pos pins s σ H Q0 I (k [] rfl)
 | a::r,q,hs=>by
  simp only [List.all_cons,Bool.and_eq_true] at q
  refine PA.imp (jaN (h.at q.1 (hd hs)) (h.ats q.2 hs.tail) (jh5 a _ _ _)) fun σ H Q0 ⟨ς,G,us,st,e,k⟩=>?_
  have e':(match atH x a,atsH x r with | some u,some us=>some (u::us) | _,_=>none)=some us:=e
  split at e'
  ·rename_i u us' e1 e2
   cases e'
   exact ⟨ς,G,u,st,e1,fun v rv=>⟨ς,G,us',st,e2,fun vs rvs=>k (v::vs) ⟨v,vs,rfl,rv,rvs⟩⟩⟩
  ·cases e'
theorem jdY:∀ {as:List HA} {us:List U},atsH x as=some us->us.length=as.length
 | [],us,e=>by cases e; rfl
 | a::r,us,e=>by
  have e':(match atH x a,atsH x r with | some u,some us=>some (u::us) | _,_=>none)=some us:=e
  split at e'
  ·rename_i u us' e1 e2
   cases e'
   simp [jdY e2]
  ·cases e'
theorem HC.val (h:HC T X c n ea C dx x){e:HV}(q:okHV T.cs c e=true)(hx:Expr):PE X (unHV c n e hx) (hV X n ea C dx x fun ς G Q=>hvH x ς e G Q):=by
 cases e with
 | cond k a as=>
  have q':(okHL T.cs c a.2 && jbQ T.cs c as)=true:=q
  refine PE.imp (h.cond k a as hx (ba q').1 (ba q').2).1 fun σ H Q0 ⟨ς,G,Q,st,e,lv⟩=>?_
  have e':(match jaL x ς k a as with | some b=>Q (.bl b) G | none=>False):=e
  split at e'
  ·rename_i b eb
   exact ⟨ς,G,b,st,eb,fun H' hr f=>lv (.bl b) (.bl b) G H' rfl hr f e'⟩
  ·exact e'.elim
 | one a=>
  refine PE.imp (h.at (show okHA a=true from q) hx) fun σ H Q0 ⟨ς,G,Q,st,e,lv⟩=>?_
  have e':(match atH x a with | some u=>Q u G | none=>False):=e
  split at e'
  ·rename_i u eu
   exact ⟨ς,G,u,st,eu,fun v rv=>lv.here rv st.hr e'⟩
  ·exact e'.elim
 | bl b=>exact PE.imp ji8 fun σ H Q0 ⟨ς,G,Q,st,e,lv⟩=>lv.bl st.hr e
 | tup as=>
  have q':(as.all okHA && decide (as.length<=8))=true:=q
  refine PE.imp (jfd (h.ats (ba q').1 (cl hx))) fun σ H Q0 ⟨ς,G,Q,st,e,lv⟩=>?_
  have e':(match atsH x as with | some us=>Q (.tup us) G | none=>False):=e
  split at e'
  ·rename_i us eu
   refine ⟨ς,G,us,st,eu,fun vs rvs=>⟨?_,fun p hp=>lv.tup hp rvs st.hr e'⟩⟩
   have:=of_decide_eq_true (ba q').2
   rw [<- rvs.length,jdY eu,sizeLine_eq]; omega
  ·exact e'.elim
 | lst as=>
  have q':(as.all okHA && decide (as.length<=8))=true:=q
  refine PE.imp (jgG (h.ats (ba q').1 (cl hx))) fun σ H Q0 ⟨ς,G,Q,st,e,lv⟩=>?_
  have e':(match atsH x as with | some us=>newO G (.lst us) Q | none=>False):=e
  split at e'
  ·rename_i us eu
   refine ⟨ς,G,us,st,eu,fun vs rvs=>⟨?_,fun p hp=>lv.lst hp rvs st.hr e'⟩⟩
   have:=of_decide_eq_true (ba q').2
   rw [<- rvs.length,jdY eu,sizeLine_eq]; omega
  ·exact e'.elim
theorem jfs (e:HV)(hx:Expr)(y:Str)(p:Pos)(env:Env)(l:Nat):swapsWithSole [.Name y p] (unHV c n e hx) l env=pure false/\swappedStores [.Name y p] (unHV c n e hx) env=pure none:=by
 cases e with
 | cond k a as=>
  cases as with
  | nil=>
   obtain ⟨neg,l⟩:=a
   cases neg <;> cases l <;> exact ⟨rfl,rfl⟩
  | cons=>exact ⟨rfl,rfl⟩
 | one a=>cases a <;> exact ⟨rfl,rfl⟩
 | _=>exact ⟨rfl,rfl⟩
theorem HC.store (h:HC T X c n ea C dx x){i:Nat}(q:okN c i=true){p:Pos}:PG X (.Name (nmA c i) p) (jfv i):=by
 have q':(decide (i < c.N.length) && (kd c (nmA c i) .local || kd c (nmA c i) .cell))=true:=q
 have v:=(ba q').2
 simp only [Bool.or_eq_true] at v
 rcases v with v | v
 ·exact jdH (by rw [h.hN]; exact h.nd) (by rw [h.hN]; exact jfg (ba q').1) (.inl (h.loc _ v)) (.inr (h.loc _ v))
 ·exact jdH (by rw [h.hN]; exact h.nd) (by rw [h.hN]; exact jfg (ba q').1) (.inr (h.cel _ v).1) (.inl (h.cel _ v).2)
theorem HSt.set {σ:St}{H:Hp}{ς:Sg}{G:Gp}{i:Nat}{u:U}{v:V}(h:HSt X n ea C dx x σ H ς G)(hi:i≠n)(r:RU X.K H u v):HSt X n ea C dx x (σ.set i (some v)) H (ς.set i (some u)) G:=
 ⟨h.sr.set r i,h.hr,by rw [List.getElem?_set_ne hi]; exact h.en,h.xd⟩
theorem HC.asg (h:HC T X c n ea C dx x){i:Nat}{e:HV}(qi:okN c i=true)(hi:i≠n)(qe:okHV T.cs c e=true)(st:Stmt) :
  PS X (jg5 c n i e st) (fun D σ H=>∃ (ς:Sg) (G:Gp) (k:Sg->Gp->Prop),HSt X n ea C dx x σ H ς G/\hvH x ς e G (fun u G1=>k (ς.set i (some u)) G1)/\∀ ς' σ' G' H',HSt X n ea C dx x σ' H' ς' G'->Fr H G H' G'->k ς' G'->D.nx σ' H'):=by
 refine PS.imp (je8 (h.val qe (q0 st)) (h.store qi) (jfs e _ _ _ _ _).1 (jfs e _ _ _ _ 0).2 rfl) fun D σ H ⟨ς,G,k,hs,hv,fin⟩=>?_
 exact ⟨ς,G,_,hs,hv,fun u v G' H' r hr f q=>fin _ _ G' H' ((hs.fr hr f).set hi r) f q⟩
noncomputable def hS (X:Cx)(n:Nat)(ea C dx:Addr)(x:XV)(hs:List HS):L2.TS:=fun D σ H=>∃ ς G k,HSt X n ea C dx x σ H ς G/\hsH x hs ς G k/\∀ ς' σ' G' H',HSt X n ea C dx x σ' H' ς' G'->Fr H G H' G'->k ς' G'->D.nx σ' H'
theorem HC.stmts (h:HC T X c n ea C dx x):∀ {hs:List HS} (_:hs.all (okHS T.cs c n)=true) (sts:List Stmt),PSs X (jdy c n hs sts) (hS X n ea C dx x hs)
 | [],_,_=>PSs.imp jdE fun D σ H ⟨ς,G,k,st,q,fin⟩=>fin ς σ G H st (Fr.refl _ _) q
 | .asg i e::r,q,sts=>by
  simp only [List.all_cons,Bool.and_eq_true] at q
  have q1:(okN c i && decide (i≠n) && okHV T.cs c e)=true:=q.1
  refine PSs.imp (jcG (h.asg (ba (ba q1).1).1 (of_decide_eq_true (ba (ba q1).1).2) (ba q1).2 (qh sts)) (h.stmts q.2 sts.tail)) fun D σ H ⟨ς,G,k,st,hq,fin⟩=>?_
  exact ⟨ς,G,fun ς1 G1=>hsH x r ς1 G1 k,st,hq,fun ς' σ' G' H' st' f q'=>⟨ς',G',k,st',q',fun ς2 σ2 G2 H2 st2 f2 q2=>fin ς2 σ2 G2 H2 st2 (f.trans f2) q2⟩⟩
 | .ifa kk a as i e::r,q,sts=>by
  simp only [List.all_cons,Bool.and_eq_true] at q
  have q1:(okHL T.cs c a.2 && jbQ T.cs c as && okN c i && decide (i≠n) && okHV T.cs c e)=true:=q.1
  have p1:=jiW (pos:=(qh sts).pos) (h.cond kk a as (q0 (qh sts)) (ba (ba (ba (ba q1).1).1).1).1 (ba (ba (ba (ba q1).1).1).1).2).2 (jho (h.asg (ba (ba (ba q1).1).1).2 (of_decide_eq_true (ba (ba q1).1).2) (ba q1).2 (qh (qa (qh sts))))) jdE
  refine PSs.imp (jcG p1 (h.stmts q.2 sts.tail)) fun D σ H ⟨ς,G,k,st,hq,fin⟩=>?_
  have nxt:∀ ς' σ' G' H',HSt X n ea C dx x σ' H' ς' G'->Fr H G H' G'->hsH x r ς' G' k->hS X n ea C dx x r D σ' H':=fun ς' σ' G' H' st' f q'=>⟨ς',G',k,st',q',fun ς2 σ2 G2 H2 st2 f2 q2=>fin ς2 σ2 G2 H2 st2 (f.trans f2) q2⟩
  have hq':(match jaL x ς kk a as with | some true=>hvH x ς e G fun u G1=>hsH x r (ς.set i (some u)) G1 k | some false=>hsH x r ς G k | none=>False):=hq
  split at hq'
  ·rename_i ec
   refine ⟨ς,G,true,st,ec,fun H' hr f=>?_⟩
   refine iteT ?_
   exact ⟨ς,G,fun ς1 G1=>hsH x r ς1 G1 k,st.fr hr f,hq',fun ς' σ' G' H'' st' f' q'=>nxt ς' σ' G' H'' st' (f.trans f') q'⟩
  ·rename_i ec
   refine ⟨ς,G,false,st,ec,fun H' hr f=>?_⟩
   refine iteF ?_
   exact nxt ς σ G H' (st.fr hr f) f hq'
  ·exact hq'.elim
end
theorem SR.hide {K:PySem.W.Frag}{H:Hp}{ς:Sg}{σ:St}(h:SR K H ς σ)(n:Nat)(o:Option V):SR K H (ς.set n none) (σ.set n o):=by
 refine ⟨by simp [h.1],fun i u e=>?_⟩
 by_cases z:i=n
 ·subst z
  rw [List.getElem?_set] at e
  simp only [if_true] at e
  split at e <;> cases e
 ·rw [List.getElem?_set_ne (Ne.symm z)] at e ⊢
  exact h.2 i u e
section
variable {T:Tab}{k:Nat}{X:Cx}{c:Ctx}
theorem s_try {n m : Nat}{b : List Stmt}{hs : List HS}{sts : List Stmt}{tb : US}{pt ph pos : Pos}(C : Cos T k X c)(hm : decide (m = 0) = true)(hg : glo c (clsN m) = true)(hn : decide (n < c.N.length) = true)(hl : kd c (nmA c n) .local = true)(hd1 : (nmA c n == ("__debug__" : Str)) = false)(hd2 : (nmA c n == ("__classdict__" : Str)) = false)
    (hne : hs.isEmpty = false) (hok : hs.all (okHS T.cs c n) = true) (hb : ∀ (pins : List (Addr × Obj)) (xe : Value -> Shared -> Prop), PassesOwn (model X.prog X.w) X.A X.env xe -> PSs (X.tryC pins xe) b (lS (X.tryC pins xe) tb)) :
    PS X (.Try b [.ExceptHandler (some (.Name (clsN m) pt)) (some (nmA c n)) (jdy c n hs sts) ph] [] [] pos)
      (lS X fun D ς G => tb { D with ex := fun x ς1 G1 => (m = 0 \/ x.c = m) /\ hsH x hs (ς1.set n none) G1 fun ς2 G2 => D.nx (ς2.set n none) G2 } ς G) := by
  intro pins s σ H D I ⟨De, ς, G, hς, hG, h0, ld⟩
  obtain ⟨s0, sr, hse⟩ : ∃ s0 sr, jdy c n hs sts = s0 :: sr := by
    cases hs with
    | nil => cases hne
    | cons a r => exact ⟨_, _, rfl⟩
  have nd : X.N.Nodup := by rw [C.hN]; exact C.nd
  have hi : X.N[n]? = some (nmA c n) := C.toCok.nm hn
  have hlc := C.loc _ hl
  obtain ⟨gl1, gl2⟩ := C.toCok.gl hg
  let XT : Value -> Shared -> Prop := fun e s₁ => wpAny (model X.prog X.w) X.A (noteFrame e X.env) (fun _ s₂ => wpAny (model X.prog X.w) X.A (setFlight e none) (fun _ s₃ => wpAny (model X.prog X.w) X.A (handleBy e X.env [.ExceptHandler (some (.Name (clsN m) pt)) (some (nmA c n)) (jdy c n hs sts) ph]) (SP X pins D) X.xe s₃) X.xe s₂) X.xe s₁
  have main : ∀ (pins' : List (Addr × Obj)) (e : Value) (s' : Shared) (x : XV) ς' σ' G' H', Inv (X.tryC pins XT) pins' σ' H' s' -> SR X.K H' ς' σ' -> XAt (X.tryC pins XT) H' s' e x -> HR X.K H' G' -> Fr H G H' G' -> ((m = 0 \/ x.c = m) /\ hsH x hs (ς'.set n none) G' fun ς2 G2 => De.nx (ς2.set n none) G2) -> XT e s' := by
    intro pins' e s' x ς' σ' G' H' I' sr' xat hr' f' ⟨hmx, hq⟩
    obtain ⟨ea, C0, dx, rfl, l, xd⟩ := xat
    have xd0 := xd
    obtain ⟨x1, x2, xc, lx, hlx, hnx, rx⟩ := xd0
    have I0 : Inv (X.tryC pins XT) [] σ' H' s' := I'.pins_of fun p hp => absurd hp (by simp)
    refine jgO (X := X.tryC pins XT) (E := X.xe) I0 C.stk.1 C.stk.2 l fun h' J l' => ?_
    refine wpAny_handleBy_cons ?_ (by intro z; cases z)
    refine codeAny_handlers_test ?_
    have J' : Inv ((X.tryC pins XT).inH (.ref ea) []) [] σ' H' { s' with heap := h' } := J.hIn fun q hq => absurd hq (by simp)
    have fin : ∀ s2 : Shared, s2 = { s' with heap := h' } -> codeAny (model X.prog X.w) (X.A.mark (some (.ref ea))) (Code.handlers (.ref ea) [.ExceptHandler none (some (nmA c n)) (jdy c n hs sts) ph] X.env)
        (fun r s₂ => match r with
          | .ok f => wpAny (model X.prog X.w) X.A (do bindName X.env (nmA c n) .none; unbindBehindTheSuite X.env (nmA c n) ph) (fun _ s₃ => SP X pins D f s₃) X.xe s₂
          | .error y => cameBackBy (model X.prog X.w) X.A X.env X.xe y s₂) s2 := by
      intro s2 es2
      subst es2
      rw [hse]
      refine codeAny_handlers_suite_as ?_
      refine jdi (X := X.tryC pins XT) J l' fun h2 J2 l2 => ?_
      obtain ⟨oe, g1, g2, g3, ⟨vs, g4⟩, g5⟩ := l2.pinned J2
      have J3 : Inv ((X.tryC pins XT).inH (.ref ea) [(ea, oe)]) [] σ' H' { s' with heap := h2 } := J2.hIn g5
      refine jbf (X := (X.tryC pins XT).inH (.ref ea) [(ea, oe)]) (v := .ref ea) J3 nd hi (.inl hlc) rfl (fun s3 J4 => ?_) (.inr hlc)
      have hc : HC T ((X.tryC pins XT).inH (.ref ea) [(ea, oe)]) c n ea C0 dx x := ⟨C.hN, C.nd, C.loc, C.cel, C.fre, C.glb, C.blt, C.cls, xc, x1, x2, ⟨oe, vs, by simp only [Cx.inH]; exact List.mem_append_right _ (List.mem_singleton.mpr rfl), g2, g3, g4⟩, C.mgK, of_decide_eq_true hn, hl, hd1, hd2⟩
      have hσ : n < σ'.length := by
        have := J3.len
        rw [this]
        exact (List.getElem?_eq_some_iff.mp hi).1
      have hst : HSt ((X.tryC pins XT).inH (.ref ea) [(ea, oe)]) n ea C0 dx x (σ'.set n (some (.ref ea))) H' (ς'.set n none) G' := ⟨sr'.hide n _, hr', by rw [List.getElem?_set_self hσ], xd⟩
      rw [<- hse]
      refine wpAny_mono (hc.stmts hok sts [] s3 _ H' ⟨fun σ2 H2 => D.nx (σ2.set n none) H2, fun _ _ => False, fun _ _ => False, fun _ _ => False⟩ J4 ⟨_, G', _, hst, hq, fun ς2 σ2 G2 H2 st2 f2 q2 => ?_⟩) (fun fl s4 q4 => ?_) fun _ _ z => False.elim z
      · exact ld.nx _ _ G2 H2 (st2.sr.hide n none) st2.hr (f'.trans f2) q2
      · cases fl with
        | next =>
          obtain ⟨σ2, H2, J5, q5⟩ := q4
          exact jfh (X := X.tryC pins XT) (J5.hOut J.ok) nd hi hlc fun s5 J6 => ⟨σ2.set n none, H2, J6.tryOut, q5⟩
        | brk => obtain ⟨_, _, _, z⟩ := q4; exact z.elim
        | cont => obtain ⟨_, _, _, z⟩ := q4; exact z.elim
        | ret u => obtain ⟨_, _, _, _, _, z⟩ := q4; exact z.elim
    obtain ⟨oe, vs, he, hcl, _⟩ := l'.ob
    by_cases m0 : m = 0
    · obtain ⟨D0, N0, fI, mN, mD, B, _⟩ := xc.ex
      have hmg : X.mg (clsN m) = some (.ref D0) := by rw [m0]; exact C.mgK _ _ B.m
      refine jbZ J' gl1 hmg ?_ gl2
      refine jeF (X := X) xc B J'.kIn he hcl ?_
      exact fin _ rfl
    · exact absurd (of_decide_eq_true hm) m0
  refine wpAny_Try_except (wpAny_mono (hb pins XT PassesOwn.looking [] s σ H ⟨D.nx, D.rt, D.bk, D.ct⟩ I.tryIn ⟨_, ς, G, hς, hG, h0, ⟨ld.nx, ld.rt, main⟩⟩) (fun fl s1 q1 => ?_) fun e s1 z => z)
  cases fl with
  | next =>
    obtain ⟨σ', H', J, q⟩ := q1
    exact wpAny_execs_nil ⟨σ', H', J.tryOut, q⟩
  | brk => obtain ⟨σ', H', J, q⟩ := q1; exact ⟨σ', H', J.tryOut, q⟩
  | cont => obtain ⟨σ', H', J, q⟩ := q1; exact ⟨σ', H', J.tryOut, q⟩
  | ret u => obtain ⟨v, σ', H', J, r, q⟩ := q1; exact ⟨v, σ', H', J.tryOut, r, q⟩
end
section
variable {T:Tab}{k:Nat}
theorem jhU (b:Blt):bltN b∈jcc:=by cases b <;> decide
noncomputable abbrev SE (T:Tab)(k:Nat)(X:Cx)(c:Ctx)(ir:E)(h:Expr):Prop:=PE X (unE T c ir h) (lE X (den T.gs (jab T k) ir).1)/\PT X (unE T c ir h) (lT X (den T.gs (jab T k) ir).2)
section
variable {X:Cx}{c:Ctx}
theorem tru {e:Expr}{t:UE}(h:PE X e (lE X t))(hp:∀ whole,isTrue e X.env whole=(do let v <- whole; standAt e.pos; holding [v] (truthy v))):PE X e (lE X t)/\PT X e (lT X (truT t)):=⟨h,jkw h hp⟩
theorem jiH {a b:Expr}{rest:List Expr}{pos:Pos}{p q:UE×UT}(ha:PE X a (lE X p.1)/\PT X a (lT X p.2))(hb:PE X (.BoolOp .And (b::rest) pos) (lE X q.1)/\PW X (.BoolOp .And (b::rest) pos) (lT X q.2)) :
  PE X (.BoolOp .And (a::b::rest) pos) (lE X (comb true p q).1)/\PW X (.BoolOp .And (a::b::rest) pos) (lT X (comb true p q).2):=⟨jkI ha.1 hb.1,jiv ha.2 hb.2⟩
theorem jkU {a b:Expr}{rest:List Expr}{pos:Pos}{p q:UE×UT}(ha:PE X a (lE X p.1)/\PT X a (lT X p.2))(hb:PE X (.BoolOp .Or (b::rest) pos) (lE X q.1)/\PW X (.BoolOp .Or (b::rest) pos) (lT X q.2)) :
  PE X (.BoolOp .Or (a::b::rest) pos) (lE X (comb false p q).1)/\PW X (.BoolOp .Or (a::b::rest) pos) (lT X (comb false p q).2):=⟨u_or ha.1 hb.1,jky ha.2 hb.2⟩
theorem se_v {i:Nat}{h:Expr}(C:Cok T k X c)(q:okE T c (.v i) h=true):SE T k X c (.v i) h:=tru (jks (C.nm (ba (ba (ba q).1).1).1) (C.vis (ba (ba (ba q).1).1).2) (bn (ba (ba q).1).2) (bn (ba q).2)) fun _=>rfl
theorem jiD {es:Es}{h:Expr}{trs:List (TE×TE)}(h1:PPs X h.pos (unK T c es (dk h)) (unV T c es (cl h)) trs)(h2:lD X (denD T.gs (jab T k) es) trs)(h3:(unK T c es (dk h)).all (·.isSome)=true)(h4:(unK T c es (dk h)).length=(unV T c es (cl h)).length)
  (h5:(unK T c es (dk h)).length<=15):SE T k X c (.dic es) h:=by
 refine tru ?_ fun _=>rfl
 match es,h1,h2,h3,h4,h5 with
 | .nil,_,_,_,_,_=>exact PE.imp jis fun σ H Q0 ⟨ς,G,Q,E,hς,hG,h,lv,lx⟩=>⟨ς,G,Q,E,hς,hG,(show ([]:List (Key×U)).length<=15/\newO G (.dK (jb8 [])) Q from h).2,lv,lx⟩
 | .cons _ .nil,_,_,_,_,_=>exact fun pins s σ H Q0 I ⟨ς,G,Q,E,hς,hG,h,lv,lx⟩=>(show False from h).elim
 | .cons d (.cons f es),h1,h2,h3,h4,h5=>exact jkE h1 h2 h3 h4 (fun z=>nomatch z) h5
theorem jhi {n:Nat}{es:Es}{h:Expr}(C:Cok T k X c)(q:okE T c (.call n es) h=true)(ha:PA X (unEs T c es (cl h)) (lA X (jaG T.gs (jab T k) es))):SE T k X c (.call n es) h:=by
 refine tru ?_ fun _=>rfl
 have hn:=of_decide_eq_true (ba (ba q).1).1
 have hd':T.funs[n]?=some T.funs[n]:=by simp [hn]
 have hx:T.funs[n].name=fnN T n:=by unfold fnN; rw [hd']
 match es,ha with
 | .nil,_=>exact jg7 C hd' hx (ba (ba q).1).2
 | .cons d es,ha=>exact jiu C hd' hx (ba (ba q).1).2 ha (jam (jas d _) _ _) (jbp es _ _ _).1
theorem jiE {b:Blt}{es:Es}{h:Expr}(C:Cok T k X c)(q:okE T c (.blt b es) h=true)(ha:PA X (unEs T c es (cl h)) (lA X (jaG T.gs (jab T k) es))):SE T k X c (.blt b es) h:=by
 refine tru ?_ fun _=>rfl
 obtain ⟨g1,g2⟩:=C.gl (ba (ba q).1).2
 match es,ha,q with
 | .nil,_,q=>exact absurd (of_decide_eq_true (ba (ba q).1).1) (Nat.lt_irrefl 0)
 | .cons d es,ha,_=>exact jkG (jjX C.room C.calm b) g1 (C.blt _ (jhU b)) ha (jam (jas d _) _ _) (jbp es _ _ _).1
theorem jhh {m:Mth}{o:E}{es:Es}{h:Expr}(q:okE T c (.meth m o es) h=true)(ho:PE X (unE T c o (c0 (c0 h))) (lE X (den T.gs (jab T k) o).1))(ha:PA X (unEs T c es (cl h)) (lA X (jaG T.gs (jab T k) es))):SE T k X c (.meth m o es) h:=by
 refine tru ?_ fun _=>rfl
 have h6:=(ba q).2
 have h5:=of_decide_eq_true (ba (ba q).1).2
 have h4:=(ba (ba (ba q).1).1).2
 match es,ha,h5 with
 | .nil,_,_=>exact jg6 (jgM m) ho (jcd h6 _ _ _) h4
 | .cons d es,ha,h5=>
  refine jiq (jgM m) ho ha (jcd h6 _ _ _) ?_ h4 (jam (jas d _) _ _) (jbp es _ _ _).1
  have e:=(jbp (T:=T) (c:=c) (.cons d es) (cl h) X.env h.pos).2
  show ((backTo h.pos (starEach (unEs T c (.cons d es) (cl h)) X.env)).all (fun x=>!x.1) && _ && decide ((unEs T c (.cons d es) (cl h)).length + 0 + 0 < 30))=true
  rw [e,jeT]
  exact decide_eq_true h5
theorem jiF {d:E}{e:Expr}(h:PT X e (lT X (den T.gs (jab T k) d).2)):PIfs X [e] (lT0 X.K (denC T.gs (jab T k) (.cons d .nil))):=by
 refine PIfs.imp (jhv (lT0.of h)) fun σ H Q0 ⟨ς,G,Q,h1,h2,h3,h4⟩=>⟨ς,G,fun b G'=>Q b G',h1,h2,?_,h4⟩
 have h3':(den T.gs (jab T k) d).2 ς G (fun b G1=>if b=true then Q true G1 else Q false G1) (fun _ _=>False):=h3
 have e:(fun (b:Bool) (G1:Gp)=>if b=true then Q true G1 else Q false G1)=fun b G'=>Q b G':=by
  funext b G1
  cases b <;> simp
 rw [e] at h3'
 exact h3'
theorem jiG:PIfs X [] (lT0 X.K (denC T.gs (jab T k) .nil)):=PIfs.imp jhw fun σ H Q0 ⟨ς,G,Q,h1,h2,h3,h4⟩=>h4 true G H h2 (Fr.refl _ _) h3
theorem jjE:∀ (es:Es) (hs:List Expr),2 * (unK T c es hs).length<=ja3 es
 | .nil,_=>Nat.le_refl _
 | .cons _ .nil,_=>Nat.zero_le _
 | .cons _ (.cons _ es),hs=>by
  have:=jjE es hs.tail
  show 2 * ((unK T c es hs.tail).length + 1)<=ja3 es + 1 + 1
  omega
theorem k_le {es:Es}{hs:List Expr}(h:ja3 es<=30):(unK T c es hs).length<=15:=by
 have:=jjE (T:=T) (c:=c) es hs
 omega
end
mutual
theorem sE : ∀ (ir : E) {X : Cx} {c : Ctx} {h : Expr}, Cok T k X c -> okE T c ir h = true -> SE T k X c ir h
  | .v _, _, _, _, C, q => se_v C q
  | .non, _, _, _, _, _ => tru (jcB (u := .non) ji5 fun _ => rfl) fun _ => rfl
  | .bl b, _, _, _, _, _ => tru (jcB (u := .bl b) ji8 fun _ => rfl) fun _ => rfl
  | .int i, _, _, _, _, _ => tru (jcB (u := .int i) ji7 fun _ => rfl) fun _ => rfl
  | .str x, _, _, _, _, _ => tru (jcB (u := .str x) jgF fun _ => rfl) fun _ => rfl
  | .g _, _, _, _, _, q => nomatch q
  | .ty _, _, _, _, _, q => nomatch q
  | .bin o a b, _, _, _, C, q => tru (jkH (jjf o) (sE a C (ba q).1).1 (sE b C (ba q).2).1) fun _ => rfl
  | .neg a, _, _, _, C, q => tru (jkz (sE a C q).1) fun _ => rfl
  | .not _, _, _, _, _, q => nomatch q
  | .bop k a es, _, _, h, C, q => let r := sB es k C (sE a C (ba q).1) (ba q).2 h.pos; ⟨r.1, r.2.pt⟩
  | .cmp o a b, _, _, _, C, q => ⟨jkF (jg0 C.room o) (sE a C (ba (ba q).1).1).1 (sE b C (ba (ba q).1).2).1 (bn (ba q).2), jit (jg0 C.room o) (sE a C (ba (ba q).1).1).1 (sE b C (ba (ba q).1).2).1 (bn (ba q).2)⟩
  | .cmp2 _ _ _ _ _, _, _, _, _, q => nomatch q
  | .ife t a b, _, _, _, C, q => ⟨jkD (sE t C (ba (ba q).1).1).2 (sE a C (ba (ba q).1).2).1 (sE b C (ba q).2).1, jir (sE t C (ba (ba q).1).1).2 (sE a C (ba (ba q).1).2).2 (sE b C (ba q).2).2⟩
  | .tup es, _, _, _, C, q => tru (jkt (sEs es C q)) fun _ => rfl
  | .lst es, _, _, _, C, q => tru (jkC (sEs es C q)) fun _ => rfl
  | .dic es, _, _, h, C, q => let ⟨_, h1, h2, h3, h4⟩ := sD es C h.pos (ba q).1; jiD h1 h2 h3 h4 (k_le (of_decide_eq_true (ba q).2))
  | .dicT, _, _, _, _, q => nomatch q
  | .ix a b, _, _, _, C, q => tru (u_ix C.hu (sE a C (ba q).1).1 (sE b C (ba q).2).1 (jh4 (jas b _))) fun _ => rfl
  | .sl a lo hi, _, _, _, C, q => tru (u_sl (sE a C (ba (ba q).1).1).1 (sO lo C (ba (ba q).1).2) (sO hi C (ba q).2)) fun _ => rfl
  | .rev a b, _, _, _, C, q => tru (jkx (sE a C (ba q).1).1 (sE b C (ba q).2).1) fun _ => rfl
  | .call _ es, _, _, _, C, q => jhi C q (sEs es C (ba q).2)
  | .app _ _, _, _, _, _, q => nomatch q
  | .blt _ es, _, _, _, C, q => jiE C q (sEs es C (ba q).2)
  | .meth _ o es, _, _, _, C, q => jhh q (sE o C (ba (ba (ba (ba q).1).1).1).1).1 (sEs es C (ba (ba (ba (ba q).1).1).1).2)
  | .lc _ t it ifs d, _, _, _, C, q => let S := C.comp (ba (ba (ba (ba (ba (ba q).1).1).1).1).1).1
      tru (u_lc C.calm S.1 (sI it t _ _ C (ba (ba (ba (ba q).1).1).1).2).1 (ba (ba (ba (ba (ba (ba q).1).1).1).1).1).2 (fun cl A s₀ H₀ fp => sTg (S.2 cl A s₀ H₀ fp) t _ (ba (ba (ba (ba (ba q).1).1).1).1).2)
        (fun cl A s₀ H₀ fp => sC ifs (S.2 cl A s₀ H₀ fp) (of_decide_eq_true (ba (ba q).1).2) (ba (ba (ba q).1).1).2) (fun cl A s₀ H₀ fp => lE0.of (sE d (S.2 cl A s₀ H₀ fp) (ba q).2).1) (sI it t ⟨[], []⟩ e0 C (ba (ba (ba (ba q).1).1).1).2).2) fun _ => rfl
  | .lc2 _ _ _ _ _ _ _ _, _, _, _, _, q => nomatch q
  | .mkD _, _, _, _, _, q => nomatch q
  | .maxD _, _, _, _, _, q => nomatch q
  | .minD _, _, _, _, _, q => nomatch q
  | .mkL d, _, _, _, C, q => tru (jkB (C.gl (ba q).1).1 (C.blt _ (by decide)) (sE d C (ba q).2).1 (jam (jas d _) _ _)) fun _ => rfl
  | .mkT d, _, _, _, C, q => tru (jkA (C.gl (ba q).1).1 (C.blt _ (by decide)) (sE d C (ba q).2).1 (jam (jas d _) _ _)) fun _ => rfl
  | .rngL _, _, _, _, _, q => nomatch q
  | .rngT _, _, _, _, _, q => nomatch q
  | .rngL2 _ _, _, _, _, _, q => nomatch q
theorem sO : ∀ (ir : Eo) {X : Cx} {c : Ctx} {h : Expr}, Cok T k X c -> okO T c ir h = true -> PO X (unO T c ir h) (lO X (denO T.gs (jab T k) ir))
  | .no, _, _, _, _, _ => u_no
  | .so d, _, _, _, C, q => u_so (sE d C q).1
theorem sEs : ∀ (ir : Es) {X : Cx} {c : Ctx} {hs : List Expr}, Cok T k X c -> okEs T c ir hs = true -> PA X (unEs T c ir hs) (lA X (jaG T.gs (jab T k) ir))
  | .nil, _, _, _, _, _ => jfU
  | .cons d ir, _, _, _, C, q => jd7 (sE d C (ba q).1).1 (sEs ir C (ba q).2) (jam (jas d _) _ _)
theorem sB : ∀ (ir : Es) (b : Bool) {X : Cx} {c : Ctx} {hs : List Expr} {a : Expr} {p : UE × UT}, Cok T k X c -> PE X a (lE X p.1) /\ PT X a (lT X p.2) -> okEs T c ir hs = true -> ∀ pos : Pos,
    PE X (.BoolOp (boU b) (a :: unEs T c ir hs) pos) (lE X (denB T.gs (jab T k) b p ir).1) /\ PW X (.BoolOp (boU b) (a :: unEs T c ir hs) pos) (lT X (denB T.gs (jab T k) b p ir).2)
  | .nil, true, _, _, _, _, _, _, ha, _, _ => ⟨jeg ha.1, pw_and1 ha.2⟩
  | .nil, false, _, _, _, _, _, _, ha, _, _ => ⟨jeg ha.1, pw_or1 ha.2⟩
  | .cons d ir, true, _, _, _, _, _, C, ha, q, pos => jiH ha (sB ir true C (sE d C (ba q).1) (ba q).2 pos)
  | .cons d ir, false, _, _, _, _, _, C, ha, q, pos => jkU ha (sB ir false C (sE d C (ba q).1) (ba q).2 pos)
theorem sC : ∀ (ir : Es) {X : Cx} {c : Ctx} {hs : List Expr}, Cok T k X c -> ja3 ir <= 1 -> okEs T c ir hs = true -> PIfs X (unEs T c ir hs) (lT0 X.K (denC T.gs (jab T k) ir))
  | .nil, _, _, _, _, _, _ => jiG
  | .cons d .nil, _, _, _, C, _, q => jiF (sE d C (ba q).1).2
  | .cons _ (.cons _ es), _, _, _, _, l, _ => absurd l (by show ¬ (ja3 es + 1 + 1 <= 1); omega)
theorem sD : ∀ (ir : Es) {X : Cx} {c : Ctx} {hs gs : List Expr}, Cok T k X c -> (p : Pos) -> okD T c ir hs gs = true -> ∃ trs, PPs X p (unK T c ir hs) (unV T c ir gs) trs /\ lD X (denD T.gs (jab T k) ir) trs /\ (unK T c ir hs).all (·.isSome) = true /\ (unK T c ir hs).length = (unV T c ir gs).length
  | .nil, _, _, _, _, _, _, _ => ⟨[], jhq, jjy, rfl, rfl⟩
  | .cons d (.cons f ir), _, _, _, _, C, p, q => let ⟨_, h1, h2, h3, h4⟩ := sD ir C p (ba q).2; ⟨_, jf5 (sE d C (ba (ba q).1).1).1 (sE f C (ba (ba q).1).2).1 h1, jhW h2, h3, congrArg (· + 1) h4⟩
  | .cons _ .nil, _, _, _, _, _, _, q => nomatch q
theorem sI : ∀ (ir : It) (t : Tg) (ct : Ctx) (ht : Expr) {X : Cx} {c : Ctx} {h : Expr}, Cok T k X c -> okI T c t ir h = true -> PI X (unTg ct t ht) (unI T c ir h) (lI X (denI T.gs (jab T k) ir)) /\ ∀ x, foldedSetIterable (unI T c ir h) X.env x = pure x
  | .e d, _, _, _, _, _, _, C, q => ⟨u_ie (sE d C q).1, jb1 (jas d _) _⟩
  | .r1 d, _, _, _, _, _, _, C, q => ⟨u_r1 (C.gl (ba q).1).1 (C.blt _ (by decide)) (sE d C (ba q).2).1 (jam (jas d _) _ _), fun _ => rfl⟩
  | .r2 _ _, _, _, _, _, _, _, _, q => nomatch q
  | .enum _, _, _, _, _, _, _, _, q => nomatch q
  | .dk _, _, _, _, _, _, _, _, q => nomatch q
end
end
section
variable {c:Ctx}{env:Env}
noncomputable def swF (sb:Bool)(names:List Str)(bk:ScopeKind)(ts vs:List Expr):Sem (Option (List Str)):=
 if (!(ts.length == 2 || ts.length == 3) || vs.length != ts.length || bk != .function)=true then pure none
 else if sb=true then pure none
 else if (names.length != ts.length || names.eraseDups.length != names.length)=true then pure none
 else if vs.all (foldedForSure 8)=true then pure none
 else if vs.all (constantsAlone 8)=true then do unsupported "assign.tuple-of-constant-expressions:order-of-the-stores"; pure (some names)
 else pure (some names)
noncomputable def jcC (env:Env)(ts:List Expr):List Str:=ts.filterMap fun
  | .Name id pos=>if env.kindOf id == some .local && pos.line == jgC ts then some id else none
  | _=>none
theorem jiy {ts vs:List Expr}{a b:Nat}{p q:Pos}:swappedStores [.Tuple ts a p] (.Tuple vs b q) env=swF (vs.any jem) (jcC env ts) env.blockKind ts vs:=by
 have e1:jem=fun | .Starred ..=>true | _=>false:=by funext e; cases e <;> rfl
 with_unfolding_all rfl
theorem jec (hk:∀ x,env.kindOf x=c.sc.lookup x)(ts:List Expr):jcC env ts=jah c ts:=by
 unfold jah jcC
 congr 1
 funext e
 cases e <;> first | rfl | (dsimp only; rw [hk])
theorem je0 (hk:∀ x,env.kindOf x=c.sc.lookup x)(hb:env.blockKind=.function){ts vs:List Expr}{a b:Nat}{p q:Pos}(h:jbu c ts vs=true):swappedStores [.Tuple ts a p] (.Tuple vs b q) env=pure none:=by
 rw [jiy,jec hk,hb]
 unfold swF
 unfold jbu at h
 by_cases h1:(!(ts.length == 2 || ts.length == 3) || vs.length != ts.length)=true
 ·rw [if_pos (by rw [h1]; rfl)]
 ·have h1':(!(ts.length == 2 || ts.length == 3) || vs.length != ts.length)=false:=by simpa using h1
  rw [h1'] at h
  rw [if_neg (by rw [h1']; decide)]
  simp only [Bool.false_or,Bool.and_eq_true,Bool.not_eq_true'] at h
  obtain ⟨h2,h3⟩:=h
  rw [if_neg (by rw [h2]; decide)]
  by_cases h4:((jah c ts).length != ts.length || (jah c ts).eraseDups.length != (jah c ts).length)=true
  ·rw [if_pos h4]
  ·rw [if_neg h4]
   have h4':((jah c ts).length != ts.length || (jah c ts).eraseDups.length != (jah c ts).length)=false:=by simpa using h4
   rw [h4'] at h3
   rw [if_pos (by simpa using h3)]
theorem jeZ (hk:∀ x,env.kindOf x=c.sc.lookup x)(hb:env.blockKind=.function){ts vs:List Expr}{a b:Nat}{p q:Pos}(h:swapped c ts vs=true):swappedStores [.Tuple ts a p] (.Tuple vs b q) env=pure (some (jah c ts)):=by
 rw [jiy,jec hk,hb]
 unfold swF
 unfold swapped at h
 simp only [Bool.and_eq_true,Bool.not_eq_true'] at h
 obtain ⟨⟨⟨⟨⟨⟨h1,h2⟩,h3⟩,h4⟩,h5⟩,h6⟩,h7⟩:=h
 have e1:(!(ts.length == 2 || ts.length == 3) || vs.length != ts.length || (ScopeKind.function != ScopeKind.function))=false:=by
  have:(vs.length != ts.length)=false:=by simpa using h2
  rw [h1,this]; rfl
 rw [if_neg (by rw [e1]; decide),if_neg (by rw [h3]; decide)]
 have e2:((jah c ts).length != ts.length || (jah c ts).eraseDups.length != (jah c ts).length)=false:=by
  have z1:((jah c ts).length != ts.length)=false:=by simpa using h4
  have z2:((jah c ts).eraseDups.length != (jah c ts).length)=false:=by simpa using h5
  rw [z1,z2]; rfl
 rw [if_neg (by rw [e2]; decide),if_neg (by rw [h6]; decide),if_neg (by rw [h7]; decide)]
theorem jfV (hk:∀ x,env.kindOf x=c.sc.lookup x)(hb:env.blockKind=.function){elt:Expr}{gs:List Comprehension}{s:Scope}{p py:Pos}{y:Str}{l:Nat}(h:lcSw c y py p s=true) :
  swapsWith (.ListComp elt gs s p) (some (.Name y py)) l env=pure true:=by
 unfold lcSw at h
 simp only [Bool.and_eq_true] at h
 unfold swapsWith
 dsimp only
 show (pure (env.blockKind == .function && env.kindOf y == some .local && py.line == p.line && !(s.names.any fun (n,k)=>n == y && (k == .local || k == .cell))):Sem Bool)=pure true
 rw [hb,hk,h.1.1,h.1.2,h.2]
 rfl
theorem jeb (hk:∀ x,env.kindOf x=c.sc.lookup x){elt:Expr}{gs:List Comprehension}{s:Scope}{p py:Pos}{y:Str}{l:Nat}(h:(c.sc.lookup y == some .local)=false) :
  swapsWithSole [.Name y py] (.ListComp elt gs s p) l env=pure false:=by
 show (pure (env.blockKind == .function && env.kindOf y == some .local && py.line == p.line && !(s.names.any fun (n,k)=>n == y && (k == .local || k == .cell))):Sem Bool)=pure false
 rw [hk,h]
 simp
end
section
variable {T:Tab}{k:Nat}
theorem Cos.kindOf {X:Cx}{c:Ctx}(C:Cos T k X c):∀ x,X.env.kindOf x=c.sc.lookup x:=fun x=>by
 unfold Env.kindOf
 rw [C.sc]
theorem Cos.block {X:Cx}{c:Ctx}(C:Cos T k X c):X.env.blockKind=.function:=by
 unfold Env.blockKind
 rw [C.kind]
 rfl
theorem jgK {c:Ctx}:∀ (is:List Nat) (hs:List Expr),(unNs c is hs).length=is.length
 | [],_=>rfl
 | _::is,hs=>congrArg (·+ 1) (jgK is hs.tail)
theorem sw2 {c:Ctx}{x y:Str}{p q:Pos}(h:(jah c [.Name x p,.Name y q]).length=2):jah c [.Name x p,.Name y q]=[x,y]:=by
 unfold jah at h ⊢
 simp only [List.filterMap_cons,List.filterMap_nil] at h ⊢
 split at h <;> split at h <;> simp_all
section
variable {X:Cx}{c:Ctx}
theorem jiA {t:Tg}{d:E}{h:Stmt}(C:Cos T k X c)(q:okS T c (.asg t d) h=true)(hs:PE X (unE T c d (q0 h)) (lE X (den T.gs (jab T k) d).1)):PS X (unS T c (.asg t d) h) (lS X (denS T.gs (jab T k) (.asg t d))):=by
 have hg:=sTg C.toCok t (q1 h) (ba (ba q).1).2
 have q3:=(ba q).2
 have fin:swapsWithSole [unTg c t (q1 h)] (unE T c d (q0 h)) h.pos.line X.env=pure false/\swappedStores [unTg c t (q1 h)] (unE T c d (q0 h)) X.env=pure none:=by
  cases t with
  | n i=>
   refine ⟨?_,jkr d _ _ _ _⟩
   by_cases hl:isLc d=true
   ·cases d with
    | lc=>exact jeb C.kindOf (bn q3)
    | lc2=>exact jeb C.kindOf (bn q3)
    | _=>cases hl
   ·exact jg1 (by simpa using hl) _ _ _ _
  | t ts=>
   cases d with
   | lc=>cases q3
   | lc2=>cases q3
   | tup es=>exact ⟨rfl,je0 C.kindOf C.block q3⟩
   | _=>exact ⟨rfl,rfl⟩
 exact s_asg hs hg fin.1 fin.2 (jg3 t _ _)
theorem jiz {is:List Nat}{es:Es}{h:Stmt}(C:Cos T k X c)(q:okS T c (.par is es) h=true)(ha:PA X (unEs T c es (cl (q0 h))) (lA X (jaG T.gs (jab T k) es))):PS X (unS T c (.par is es) h) (lS X (denS T.gs (jab T k) (.par is es))):=by
 have h3:=(ba (ba q).1).2
 have h2:=(ba (ba (ba q).1).1).2
 have hsw:=jeZ (a:=kk (q1 h)) (b:=kk (q0 h)) (p:=(q1 h).pos) (q:=(q0 h).pos) C.kindOf C.block h3
 unfold swapped at h3
 simp only [Bool.and_eq_true,Bool.or_eq_true,beq_iff_eq] at h3
 obtain ⟨⟨⟨⟨⟨⟨_,l2⟩,_⟩,l4⟩,_⟩,_⟩,_⟩:=h3
 rw [jeT,jgK] at l2
 have l1:is.length=2:=of_decide_eq_true (ba q).2
 have nd:X.N.Nodup:=by rw [C.hN]; exact C.nd
 match is,es,l1,l2,l4,hsw,h2,ha with
 | [i,j],.cons a (.cons b .nil),_,_,l4,hsw,h2,ha=>
  have u1:=ba h2
  have u2:=ba u1.2
  refine s_par2 C.calm nd (C.nm (ba (ba u1.1).1).1) (C.nm (ba (ba u2.1).1).1) (by intro z; subst z; have:=(ba u1.1).2; simp at this) (C.loc _ (ba (ba u1.1).1).2) (C.loc _ (ba (ba u2.1).1).2) ha ?_ rfl
  rw [<- sw2 l4]
  exact hsw
 | [],_,l1,_,_,_,_,_=>exact absurd l1 (by simp)
 | [_],_,l1,_,_,_,_,_=>exact absurd l1 (by simp)
 | _::_::_::_,_,l1,_,_,_,_,_=>exact absurd l1 (by simp)
 | [_,_],.nil,_,l2,_,_,_,_=>exact absurd l2 (by simp [ja3])
 | [_,_],.cons _ .nil,_,l2,_,_,_,_=>exact absurd l2 (by simp [ja3])
 | [_,_],.cons _ (.cons _ (.cons _ _)),_,l2,_,_,_,_=>exact absurd l2 (by simp [ja3])
theorem jhc {i:Nat}{d:E}{h:Stmt}(C:Cos T k X c)(q:okS T c (.asgC i d) h=true):PS X (unS T c (.asgC i d) h) (lS X (denS T.gs (jab T k) (.asgC i d))):=by
 have qd:=(ba (ba (ba q).1).1)
 have hl:=(ba q).2
 have hi:=C.nm (ba (ba q).1).2
 have hy:=eq_of_beq (ba (ba hl).1).1
 cases d with
 | lc pick t it ifs d=>
  have q1':=qd.2
  have S:=C.toCok.comp (ba (ba (ba (ba (ba (ba q1').1).1).1).1).1).1
  exact s_lc (by rw [C.hN]; exact C.nd) hi (by rw [C.sc]; exact hy) C.calm S.1 (sI it t _ _ C.toCok (ba (ba (ba (ba q1').1).1).1).2).1 (ba (ba (ba (ba (ba (ba q1').1).1).1).1).1).2
   (fun cl A s₀ H₀ fp=>sTg (S.2 cl A s₀ H₀ fp) t _ (ba (ba (ba (ba (ba q1').1).1).1).1).2) (fun cl A s₀ H₀ fp=>sC ifs (S.2 cl A s₀ H₀ fp) (of_decide_eq_true (ba (ba q1').1).2) (ba (ba (ba q1').1).1).2)
   (fun cl A s₀ H₀ fp=>lE0.of (sE d (S.2 cl A s₀ H₀ fp) (ba q1').2).1) (jfV C.kindOf C.block hl) (jg2 it _ _)
 | lc2 pick t it ifs t2 it2 ifs2 d=>exact Bool.noConfusion (show false=true from qd.2)
 | _=>cases qd.1
theorem jfW {n:Nat}{es:Es}{h:Stmt}(C:Cos T k X c)(q:okS T c (.raise n es) h=true):PS X (unS T c (.raise n es) h) (lS X (denS T.gs (jab T k) (.raise n es))):=by
 have q':(okC T.cs c n && decide (0 < ja3 es) && okEs T c es (cl (qr h)))=true:=q
 match es,q' with
 | .nil,q'=>exact absurd (of_decide_eq_true (ba (ba q').1).2) (Nat.lt_irrefl 0)
 | .cons d es,q'=>exact s_raise C.toCok (ba (ba q').1).1 (sEs (.cons d es) C.toCok (ba q').2) (jam (jas d _) _ _) (jbp es _ _ _).1
theorem Cos.tryC {pins:List (Addr×Obj)}{xe:Value->Shared->Prop}(C:Cos T k X c)(po:PassesOwn (model X.prog X.w) X.A X.env xe):Cos T k (X.tryC pins xe) c:=
 ⟨⟨C.hN,C.nd,C.loc,C.cel,C.fre,C.glb,C.room,C.calm,po,C.blt,C.fns,C.gls,C.room2,C.cls,C.mgK⟩,C.sc,C.kind,C.stk⟩
end
mutual
theorem sS : ∀ (ir : S) {X : Cx} {c : Ctx} {h : Stmt}, Cos T k X c -> okS T c ir h = true -> PS X (unS T c ir h) (lS X (denS T.gs (jab T k) ir))
  | .pass, _, _, _, _, q => nomatch q
  | .expr d, _, _, _, C, q => s_expr (sE d C.toCok (ba q).1).1 (jg4 (bn (ba q).2) _ _ _)
  | .asg _ d, _, _, _, C, q => jiA C q (sE d C.toCok (ba (ba q).1).1).1
  | .asgC _ _, _, _, _, C, q => jhc C q
  | .setS o i d, _, _, _, C, q => s_set C.toCok.hu (sE d C.toCok (ba (ba q).1).1).1 (sE o C.toCok (ba (ba q).1).2).1 (sE i C.toCok (ba q).2).1 (jgy d _ _ _ _ _ _).1 (jgy d _ _ _ _ _ 0).2 rfl (jgk (jas i _) _ _)
  | .par _ es, _, _, _, C, q => jiz C q (sEs es C.toCok (ba (ba (ba q).1).1).1)
  | .aug _ _ d, _, _, _, C, q => let s := C.toCok.store (ba (ba q).1).2; s_aug (by rw [C.hN]; exact C.nd) (C.nm (ba (ba q).1).1) s.1 s.2 (sE d C.toCok (ba q).2).1
  | .augS _ _ _ _, _, _, _, _, q => nomatch q
  | .ite t a b, _, _, _, C, q => s_if (sE t C.toCok (ba (ba q).1).1).2 (sSs a C (ba (ba q).1).2) (sSs b C (ba q).2)
  | .fr t it b, _, _, _, C, q => s_for C.po C.calm (sI it t _ _ C.toCok (ba (ba q).1).2).1 (sTg C.toCok t _ (ba (ba q).1).1) (sSs b C (ba q).2) (sI it t ⟨[], []⟩ e0 C.toCok (ba (ba q).1).2).2
  | .wh _ _, _, _, _, _, q => nomatch q
  | .ret d, _, _, _, C, q => s_ret (sE d C.toCok q).1
  | .retN, _, _, _, _, q => nomatch q
  | .never, _, _, _, _, _ => fun _ _ _ _ _ _ ⟨_, _, _, _, _, q, _⟩ => (show False from q).elim
  | .raise _ _, _, _, _, C, q => jfW C q
  | .tr b _ _ _, _, _, _, C, q => s_try C (ba (ba (ba (ba (ba (ba (ba (ba q).1).1).1).1).1).1).1).2 (ba (ba (ba (ba (ba (ba (ba q).1).1).1).1).1).1).2 (ba (ba (ba (ba (ba (ba q).1).1).1).1).1).2 (ba (ba (ba (ba (ba q).1).1).1).1).2 (bn (ba (ba (ba (ba q).1).1).1).2) (bn (ba (ba (ba q).1).1).2) (bn (ba (ba q).1).2) (ba q).2
      fun _ _ po => sSs b (C.tryC po) (ba (ba (ba (ba (ba (ba (ba (ba q).1).1).1).1).1).1).1).1
theorem sSs : ∀ (ir : Ss) {X : Cx} {c : Ctx} {hs : List Stmt}, Cos T k X c -> okSs T c ir hs = true -> PSs X (unSs T c ir hs) (lS X (jax T.gs (jab T k) ir))
  | .nil, _, _, _, _, _ => s_nil
  | .cons s r, _, _, _, C, q => s_cons (t := denS T.gs (jab T k) s) (u := jax T.gs (jab T k) r) (sS s C (ba q).1) (sSs r C (ba q).2)
end
end
noncomputable def scB (N ps:List Str)(sc:Scope):Bool:=
 decide (sc.kind=.function) && !sc.isCoroutine && !sc.isGenerator && decide N.Nodup && (N.take ps.length == ps) && ps.all (fun x=>sc.names.lookup x == some .local || sc.names.lookup x == some .cell) && sc.names.all (fun y=>y.2 != .free)
theorem jhj {N ps:List Str}{sc:Scope}(h:scB N ps sc=true):FnScope N ps sc:=by
 unfold scB at h
 simp only [Bool.and_eq_true,decide_eq_true_eq,Bool.not_eq_true'] at h
 obtain ⟨⟨⟨⟨⟨⟨h1,h2⟩,h3⟩,h4⟩,h5⟩,h6⟩,h7⟩:=h
 refine ⟨h1,h2,h3,h4,eq_of_beq h5,fun x hx=>?_,fun y hy=>?_⟩
 ·have:=List.all_eq_true.mp h6 x hx
  simpa using this
 ·simpa using List.all_eq_true.mp h7 y hy
noncomputable def jdG (T:Tab):List Fun->List Stmt->Bool
 | [],[]=>true
 | d::ds,st::sts=>scB d.N d.ps (defScope st) && okSs T ⟨d.N,(defScope st).names⟩ d.body (defBody st) && jdG T ds sts
 | _,_=>false
noncomputable def jez (T:Tab):List Fun->List Stmt->Prop
 | [],_=>True
 | d::ds,st::sts=>unSs T ⟨d.N,(defScope st).names⟩ d.body (defBody st)=defBody st/\jez T ds sts
 | _::_,[]=>False
theorem jcH {T:Tab}:∀ {ds:List Fun} {sts:List Stmt},jdG T ds sts=true->jez T ds sts->∀ {n:Nat} {d:Fun},ds[n]?=some d->∃ st,sts[n]?=some st/\scB d.N d.ps (defScope st)=true/\okSs T ⟨d.N,(defScope st).names⟩ d.body (defBody st)=true/\unSs T ⟨d.N,(defScope st).names⟩ d.body (defBody st)=defBody st
 | [],_,_,_,_,_,e=>by simp at e
 | _::_,[],h,_,_,_,_=>by unfold jdG at h; cases h
 | d::ds,st::sts,h,g,n,d',e=>by
  unfold jdG at h
  unfold jez at g
  simp only [Bool.and_eq_true] at h
  cases n with
  | zero=>
   simp at e
   subst e
   exact ⟨st,rfl,h.1.1,h.1.2,g.1⟩
  | succ n=>
   obtain ⟨st',e',q⟩:=jcH h.2 g.2 (n:=n) (by simpa using e)
   exact ⟨st',by simpa using e',q⟩
theorem jgE {X:Cx}{a b:List Stmt}{t:L2.TS}(e:a=b)(h:PSs X a t):PSs X b t:=e ▸ h
theorem jcZ {K:PySem.W.Frag}{H:Hp}{N:List Str}{us:List U}{vs:List V}(r:RUs K H us vs):SR K H (jan N.length us) (L2.start N vs):=by
 unfold jan L2.start
 refine ⟨by simp [r.length],fun i u e=>?_⟩
 by_cases hi:i < us.length
 ·rw [List.getElem?_append_left (by simpa using hi),List.getElem?_map] at e
  cases q:us[i]? with
  | none=>rw [q] at e; cases e
  | some w=>
   rw [q] at e
   have:w=u:=by simpa using e
   subst this
   obtain ⟨v,ev,rv⟩:=r.get q
   have hv:i < vs.length:=by rw [<- r.length]; exact hi
   exact ⟨v,by rw [List.getElem?_append_left (by simpa using hv),List.getElem?_map,ev]; rfl,rv⟩
 ·rw [List.getElem?_append_right (by simpa using hi),List.getElem?_replicate] at e
  split at e <;> cases e
section
variable {T:Tab}{P:Program}{w:World}{K:PySem.W.Frag}{mg:Str->Option Value}{base:Heap}
theorem jdF {sts:List Stmt}(hst:jdG T T.funs sts=true)(heq:jez T T.funs sts)
  (dyn:∀ (n:Nat) (d:Fun) (st:Stmt),T.funs[n]?=some d->sts[n]?=some st->∃ (f:Addr) (fd:FuncData),L2.Fun K d.name d.name st f fd/\mg d.name=some (.ref f)/\Binds K fd d.ps [])
  (hb:∀ x∈jcc,mg x=none) (hg:∀ (n:Nat) (x:Str) (u:U),T.gn[n]?=some x->T.gs[n]?=some u->∃ v w,mg x=some w/\RelV v w/\∀ H,RU K H u v) (hc:∀ n∈T.cs,1<=n->∃ C,XCls K (gK K) (clsN n) (clsF n) C) (hm:∀ x v,gK K x=some v->mg x=some v) :
  ∀ (k n:Nat) (d:Fun),T.funs[n]?=some d->FnU P w K mg base k d (jab T k n):=by
 intro k
 induction k with
 | zero=>
  intro n d hd
  obtain ⟨st,e,_⟩:=jcH hst heq hd
  obtain ⟨f,fd,F,m,b⟩:=dyn n d st hd e
  exact ⟨f,fd,⟨fun vs H Q E ⟨_,_,_,_,_,_,h,_⟩=>h.elim,fun A outer s H args us vs Q E _ _ _ _ ⟨_,_,_,_,_,_,h,_⟩=>h.elim⟩,m,F.kp,b⟩
 | succ k ih=>
  intro n d hd
  obtain ⟨st,e,h1,h2,h3⟩:=jcH hst heq hd
  obtain ⟨f,fd,F,m,b⟩:=dyn n d st hd e
  have S:=jhj h1
  have un:∀ {us:List U} {G:Gp} {Q:K1} {E:KX},jab T (k + 1) n us G Q E->us.length=d.ps.length/\jax T.gs (jab T k) d.body ⟨fun _ G'=>Q .non G',Q,fun x _ G'=>E x G'⟩ (jan d.N.length us) G:=fun {us G Q E} h=>by
   have h':(match T.funs[n]? with | some d=>us.length=d.ps.length/\jax T.gs (jab T k) d.body ⟨fun _ G'=>Q .non G',Q,fun x _ G'=>E x G'⟩ (jan d.N.length us) G | none=>False):=h
   rw [hd] at h'
   exact h'
  refine ⟨f,fd,F.okX S (fun vs H Q E ⟨us,G,Q',E',r,hG,h,lv,lx⟩=>by rw [<- r.length]; exact (un h).1) fun cdv A outer s H vs Q E hr hsp=>?_,m,F.kp,b⟩
  obtain ⟨us,G,Q',E',r,hG,h,lv,lx⟩:=hsp
  obtain ⟨hl,h⟩:=un h
  refine ⟨_,jgE h3 (sSs d.body (k:=k) (c:=⟨d.N,(defScope st).names⟩) (hs:=defBody st) ⟨⟨rfl,S.nd,fun x z=>eq_of_beq z,fun x z=>⟨eq_of_beq z,rfl⟩,fun x z=>.inr (eq_of_beq z),fun x z=>eq_of_beq z,hr.mono (by omega),rfl,jiZ,hb,ih,hg,hr,hc,hm⟩,rfl,S.kind,rfl,rfl⟩ h2),?_⟩
  exact ⟨_,_,G,jcZ r,hG,h,⟨fun ς' σ' G' H' a b c q=>lv .non .non G' H' rfl b c q,fun w v G' H' a b c q=>lv w v G' H' a b c q,fun pins e s' x ς' σ' G' H' I sr xat hr' f q=>by obtain ⟨ea,C0,dx,rfl,l,xd⟩:=xat; exact CX1.out1 I l (lx x G' H' C0 dx xd hr' f q)⟩⟩
theorem jgN {α β:Type}[BEq α][LawfulBEq α]:∀ {l:List (α×β)} {a:α} {b:β},l.lookup a=some b->(a,b)∈l
 | (x,y)::r,a,b,h=>by
  simp only [List.lookup_cons] at h
  split at h
  ·rename_i e
   cases h
   rw [eq_of_beq e]; exact List.mem_cons_self
  ·exact List.mem_cons_of_mem _ (jgN h)
noncomputable def G0 (a:Addr)(ns:List Int):Gp:=fun b=>if b=a then some (.fro (ns.map .int)) else none
theorem jfr {H:Hp}:∀ ns:List Int,RUs K H (ns.map .int) (ns.map V.int)
 | []=>rfl
 | _::r=>⟨_,_,rfl,rfl,jfr r⟩
theorem law_sp {k n:Nat}{H:Hp}{a:Addr}{ns:List Int}(hK:(K.all fun p=>p.2.cls != .type "list")=true)(hO:Only H)(hS:SqL K H a (ns.map V.int))(h:jab T k n [.loc a] (G0 a ns) (fun u _=>u=.bl true) fun _ _=>False) :
  lSp K (jab T k n) [.ref a] H (fun v _=>v=.bl true) fun _ _ _=>False:=by
 have fr:∃ o,H a=some (.frz o (.lst (ns.map V.int))):=by
  rcases hS with (q | q) | ⟨o,its,m,lk,hc,_⟩
  ·rcases hO a with z | ⟨o,xs,z⟩ <;> (rw [q] at z; cases z)
  ·exact q
  ·have:=List.all_eq_true.mp hK (a,o) (jgN lk)
   simp [hc] at this
 obtain ⟨o,fr⟩:=fr
 refine ⟨[.loc a],G0 a ns,_,_,⟨_,_,rfl,rfl,rfl⟩,fun b mo e=>?_,h,fun w v G' H' r _ _ q=>?_,fun _ _ _ _ _ _ _ _ z=>z.elim⟩
 ·unfold G0 at e
  split at e
  ·rename_i z
   subst z
   cases e
   exact ⟨o,_,fr,jfr ns⟩
  ·cases e
 ·subst q
  exact r
end
section
variable {T:Tab}{P:Program}{w:World}{K:PySem.W.Frag}{mg:Str->Option Value}{base:Heap}
theorem jey {sts:List Stmt}{k n:Nat}{d:Fun}{st:Stmt}{f:Addr}{fd:FuncData}(F:L2.Fun K d.name d.name st f fd)(hst:jdG T T.funs sts=true)(heq:jez T T.funs sts)
  (dyn:∀ (n:Nat) (d:Fun) (st:Stmt),T.funs[n]?=some d->sts[n]?=some st->∃ (f:Addr) (fd:FuncData),L2.Fun K d.name d.name st f fd/\mg d.name=some (.ref f)/\Binds K fd d.ps [])
  (hb:∀ x∈jcc,mg x=none) (hg:∀ (n:Nat) (x:Str) (u:U),T.gn[n]?=some x->T.gs[n]?=some u->∃ v w,mg x=some w/\RelV v w/\∀ H,RU K H u v) (hc:∀ n∈T.cs,1<=n->∃ C,XCls K (gK K) (clsN n) (clsF n) C) (hm:∀ x v,gK K x=some v->mg x=some v) (hd:T.funs[n]?=some d) (hs:sts[n]?=some st) (m:mg d.name=some (.ref f)) (b:Binds K fd d.ps []) :
  FnOk P w K mg base (CX1 P w) (k + 2) f fd d.ps (lSp K (jab T k n)):=by
 have all:=jdF (P:=P) (w:=w) (base:=base) hst heq (fun n' d' st' h1 h2=>by
  by_cases e:n'=n
  ·subst e
   rw [hd] at h1
   rw [hs] at h2
   cases h1; cases h2
   exact ⟨f,fd,F,m,b⟩
  ·exact dyn n' d' st' h1 h2) hb hg hc hm k
 cases k with
 | zero=>exact ⟨fun vs H Q E ⟨_,_,_,_,_,_,h,_⟩=>h.elim,fun A outer s H args us vs Q E _ _ _ _ ⟨_,_,_,_,_,_,h,_⟩=>h.elim⟩
 | succ k=>
  have ih:=jdF (P:=P) (w:=w) (base:=base) hst heq dyn hb hg hc hm k
  obtain ⟨st',e,h1,h2,h3⟩:=jcH hst heq hd
  rw [hs] at e
  cases e
  have S:=jhj h1
  have un:∀ {us:List U} {G:Gp} {Q:K1} {E:KX},jab T (k + 1) n us G Q E->us.length=d.ps.length/\jax T.gs (jab T k) d.body ⟨fun _ G'=>Q .non G',Q,fun x _ G'=>E x G'⟩ (jan d.N.length us) G:=fun {us G Q E} h=>by
   have h':(match T.funs[n]? with | some d=>us.length=d.ps.length/\jax T.gs (jab T k) d.body ⟨fun _ G'=>Q .non G',Q,fun x _ G'=>E x G'⟩ (jan d.N.length us) G | none=>False):=h
   rw [hd] at h'
   exact h'
  refine F.okX S (fun vs H Q E ⟨us,G,Q',E',r,hG,h,lv,lx⟩=>by rw [<- r.length]; exact (un h).1) fun cdv A outer s H vs Q E hr hsp=>?_
  obtain ⟨us,G,Q',E',r,hG,h,lv,lx⟩:=hsp
  obtain ⟨hl,h⟩:=un h
  refine ⟨_,jgE h3 (sSs d.body (k:=k) (c:=⟨d.N,(defScope st).names⟩) (hs:=defBody st) ⟨⟨rfl,S.nd,fun x z=>eq_of_beq z,fun x z=>⟨eq_of_beq z,rfl⟩,fun x z=>.inr (eq_of_beq z),fun x z=>eq_of_beq z,hr.mono (by omega),rfl,jiZ,hb,ih,hg,hr,hc,hm⟩,rfl,S.kind,rfl,rfl⟩ h2),?_⟩
  exact ⟨_,_,G,jcZ r,hG,h,⟨fun ς' σ' G' H' a b c q=>lv .non .non G' H' rfl b c q,fun w v G' H' a b c q=>lv w v G' H' a b c q,fun pins e s' x ς' σ' G' H' I sr xat hr' f q=>by obtain ⟨ea,C0,dx,rfl,l,xd⟩:=xat; exact CX1.out1 I l (lx x G' H' C0 dx xd hr' f q)⟩⟩
end
section
variable {K:PySem.W.Frag}
theorem jll {x:Str}{v:Value}(h:gK K x=some v):PySem.W.nsIn K mainGlobals x=some (some v):=by
 unfold gK at h
 cases q:PySem.W.nsIn K mainGlobals x with
 | none=>rw [q] at h; cases h
 | some o=>rw [q] at h; rw [show o=some v from h]
theorem jju {h:Heap}{mg:Str->Option Value}(X:K.In h)(G:h.Ns mainGlobals mg):∀ x v,gK K x=some v->mg x=some v:=fun _ _ e=>PySem.W.mg_of X G (jll e)
theorem jjQ {x:Str}{v:Value}(h:PySem.W.nsIn K mainGlobals x=some (some v)):gK K x=some v:=by unfold gK; rw [h]; rfl
noncomputable def ksB:List Str:=["__module__", "__firstlineno__", "__static_attributes__", "__weakref__", "__doc__"]
noncomputable def ksC:List Str:=["__module__", "__firstlineno__", "__init__", "__static_attributes__", "__doc__"]
noncomputable def offB (ks:List Str):Bool:=offN.all fun y=>!ks.contains y
theorem jgJ {ks:List Str}{m:Str->Option Value}(h:offB ks=true)(hm:∀ x,x∉ks->m x=none):∀ y∈offN,m y=none:=fun y hy=>hm y (by
 have:=List.all_eq_true.mp h y hy
 simpa using this)
theorem jfS {D ND:Addr}{q:Str}{bs sub:List Value}{hd ab:Bool}{sn ks:List Str}{col:Option Bool}{dd:Option Addr}{k0 k1 k2 k3 k5:Option Value}{nid:String}(a:PySem.W.nsIn K mainGlobals "PlanError" = some (some (.ref D)))(kp:PySem.W.keepIn K (.ref D)=true)
  (l:K.lookup D=some (excClassObj "PlanError" q D ND bs bmV hd sn sub ab col dd k0 k1 k2 k3 k5 nid)) (n:ja6 K ND=some ks) (h1:offB ks=true) (h2:ks.contains ("__init__" : Str)=false):∃ mD,XBase K (gK K) D mD:=by
 obtain ⟨m,hn,hno,_⟩:=jjs n
 exact ⟨m,jjQ a,kp,⟨_,_,_,_,_,_,_,_,_,_,_,_,_,_,_,l,hn⟩,jgJ h1 hno,hno _ (by simpa using h2)⟩
theorem jbJ {C D N fI:Addr}{x q qual:Str}{fs:List Str}{bs sub:List Value}{ab:Bool}{sn ks:List Str}{col:Option Bool}{dd od:Option Addr}{k0 k1 k2 k3 k5:Option Value}{mD:Str->Option Value}{st:Stmt}{fd:FuncData}{osl:Array (Option Value)}(B:XBase K (gK K) D mD)(a:PySem.W.nsIn K mainGlobals x=some (some (.ref C)))(kp:PySem.W.keepIn K (.ref C)=true)
  (l:K.lookup C=some (excClassObj x q C N bs (.ref D::bmV) true sn sub ab col dd k0 k1 k2 k3 k5 "ValueError.__new__")) (n:ja6 K N=some ks) (h1:offB ks=true) (i:PySem.W.nsIn K N "__init__" = some (some (.ref fI))) (F:L2.Fun K "__init__" qual st fI fd) (lf:K.lookup fI=some ⟨.type "function",od,.func fd,osl⟩)
  (S:scB (("self" : Str)::fs) ("self" :: fs) (defScope st)=true) (b:Binds K fd (("self" : Str)::fs) []) (hloc:((("self" : Str)::fs).all fun y=>(defScope st).names.lookup y == some .local)=true)
  (bd:(∃ f p1 p2 p3 pos,fs=[f]/\defBody st=[.Assign [.Attribute (.Name "self" p1) f p2] (.Name f p3) pos])\/∃ f f2 p1 p2 p3 pos q1 q2 q3 qos,fs=[f,f2]/\f≠f2/\defBody st=[.Assign [.Attribute (.Name "self" p1) f p2] (.Name f p3) pos,.Assign [.Attribute (.Name "self" q1) f2 q2] (.Name f2 q3) qos]):XCls K (gK K) x fs C:=by
 obtain ⟨m,hn,hno,hso⟩:=jjs n
 exact ⟨jjQ a,kp,D,N,fI,m,mD,B,⟨_,_,_,_,_,_,_,_,_,_,_,_,l⟩,hn,jgJ h1 hno,hso _ _ i,st,qual,fd,F,⟨_,_,lf⟩,jhj S,b,fun y hy=>eq_of_beq (List.all_eq_true.mp hloc y hy),bd⟩
end
theorem jdR {G:Gp}{a:Addr}{o u:MO}:gup (gup G a o) a u=gup G a u:=by funext b; unfold gup; split <;> rfl
noncomputable def Sm (f:Addr)(G G':Gp):Prop:=∀ b o,b≠f->G b=some o->G' b=some o
noncomputable def Sa (G G':Gp):Prop:=∀ b o,G b=some o->G' b=some o
theorem Sm.refl {f:Addr}{G:Gp}:Sm f G G:=fun _ _ _ h=>h
theorem Sa.refl {G:Gp}:Sa G G:=fun _ _ h=>h
theorem Sm.trans {f:Addr}{G G1 G2:Gp}(a:Sm f G G1)(b:Sm f G1 G2):Sm f G G2:=fun c o n h=>b c o n (a c o n h)
theorem Sa.trans {G G1 G2:Gp}(a:Sa G G1)(b:Sa G1 G2):Sa G G2:=fun c o h=>b c o (a c o h)
theorem Sa.sm {f:Addr}{G G':Gp}(a:Sa G G'):Sm f G G':=fun c o _ h=>a c o h
theorem Sa.new {G:Gp}{p:Addr}{o:MO}(h:G p=none):Sa G (gup G p o):=fun c u e=>by
 rw [jaX (fun z=>by rw [z,h] at e; cases e)]; exact e
theorem Sm.put {G:Gp}{f:Addr}{o:MO}:Sm f G (gup G f o):=fun c u n e=>by rw [jaX n]; exact e
theorem jbS {G:Gp}{a p:Addr}{o:MO}(h:G a=some o)(hp:G p=none):p≠a:=fun z=>by rw [z,h] at hp; cases hp
theorem New.at {G G':Gp}{p:Addr}{o:MO}(n:New G p o G'):G' p=some o:=by rw [n.eq]; exact jaq
theorem New.sa {G G':Gp}{p:Addr}{o:MO}(n:New G p o G'):Sa G G':=by rw [n.eq]; exact Sa.new n.no
theorem Put.at {G G':Gp}{p:Addr}{o:MO}(n:Put G p o G'):G' p=some o:=by rw [n.eq]; exact jaq
theorem Put.sm {G G':Gp}{p:Addr}{o:MO}(n:Put G p o G'):Sm p G G':=by rw [n.eq]; exact Sm.put
mutual
noncomputable def pd:U->PyData
 | .non=>.none
 | .bl b=>.bool b
 | .int i=>.int i
 | .str x=>.str x
 | .tup us=>.tuple (pds us)
 | .loc _=>.none
 | .fn _=>.none
 | .ty _=>.none
 | .exc _ _=>.none
 | .own _=>.none
 | .clo _ _=>.none
noncomputable def pds:List U->List PyData
 | []=>[]
 | u::us=>pd u::pds us
end
mutual
noncomputable def bare:U->Bool
 | .non=>true
 | .bl _=>true
 | .int _=>true
 | .str _=>true
 | .tup us=>bares us
 | .loc _=>false
 | .fn _=>false
 | .ty _=>false
 | .exc _ _=>false
 | .own _=>false
 | .clo _ _=>false
noncomputable def bares:List U->Bool
 | []=>true
 | u::us=>bare u && bares us
end
mutual
theorem jgm {G:Gp}:∀ {u:U},bare u=true->DU G u (pd u)
 | .non,_=>.non
 | .bl b,_=>.bl b
 | .int i,_=>.int i
 | .str x,_=>.str x
 | .tup _,h=>.tup (jfx h)
 | .loc _,h=>nomatch h
 | .fn _,h=>nomatch h
 | .ty _,h=>nomatch h
 | .exc _ _,h=>nomatch h
 | .own _,h=>nomatch h
 | .clo _ _,h=>nomatch h
theorem jfx {G:Gp}:∀ {us:List U},bares us=true->DUs G us (pds us)
 | [],_=>.nil
 | _::_,h=>.cons (jgm (ba h).1) (jfx (ba h).2)
end
theorem jet:∀ {us:List U},(∀ u∈us,bare u=true)->bares us=true
 | [],_=>rfl
 | u::us,h=>by
  show (bare u && bares us)=true
  rw [h u List.mem_cons_self,jet fun v hv=>h v (List.mem_cons_of_mem _ hv)]; rfl
theorem jgH:∀ us:List U,pds us=us.map pd
 | []=>rfl
 | u::us=>by
  show pd u::pds us=_
  rw [jgH us]; rfl
theorem jiM {G:Gp}{u:U}{Q:K1}(h:bare u=true)(f:Fits 16000000 60 (pd u))(q:Q (.str (pd u).shown) G):jcE [u] G Q:=⟨pd u,jgm h,f,q⟩
structure Sml (n:Nat)(u:U):Prop where
 b:bare u=true
 l:(pd u).canLay0=true
 d:(pd u).depth<=n
theorem Sml.int (i:Int):Sml 0 (.int i):=⟨rfl,rfl,Nat.le_refl _⟩
theorem smls {n:Nat}:∀ {us:List U},(∀ u∈us,Sml n u)->bares us=true/\PyData.canLayAll0 (pds us)=true/\PyData.depthAll (pds us)<=n
 | [],_=>⟨rfl,rfl,Nat.zero_le _⟩
 | u::us,h=>by
  obtain ⟨h1,h2,h3⟩:=smls fun v hv=>h v (List.mem_cons_of_mem _ hv)
  have hu:=h u List.mem_cons_self
  refine ⟨?_,?_,?_⟩
  ·show (bare u && bares us)=true
   rw [hu.b,h1]; rfl
  ·show ((pd u).canLay0 && PyData.canLayAll0 (pds us))=true
   rw [hu.l,h2]; rfl
  ·show max (pd u).depth (PyData.depthAll (pds us))<=n
   exact Nat.max_le.mpr ⟨hu.d,h3⟩
theorem Sml.tup {n:Nat}{us:List U}(h:∀ u∈us,Sml n u):Sml (n + 1) (.tup us):=let ⟨h1,h2,h3⟩:=smls h; ⟨h1,h2,Nat.succ_le_succ h3⟩
theorem Sml.small {n:Nat}{u:U}(h:Sml n u)(hn:n<=100):Small (pd u):=⟨h.l,Nat.le_trans h.d hn⟩
theorem jgV {G : Gp}{n : Nat}{a b : Addr}{us : List U}{k : Bool -> Prop}(ga : G a = some (.lst us))(gb : G b = some (.lst []))(h : ∀ u ∈ us, Sml n u)(hn : n < 100)(q : k us.isEmpty) : eqU (.loc a) (.loc b) G k := by
  obtain ⟨h1, h2, h3⟩ := smls h
  have la : lsG G a = some us := by unfold lsG; rw [ga]
  have lb : lsG G b = some [] := by unfold lsG; rw [gb]
  refine ⟨.list (pds us), .list [], .lst la (jfx h1), .lst lb .nil, ⟨h2, ?_⟩, ⟨rfl, by decide⟩, ?_⟩
  · show PyData.depthAll (pds us) + 1 <= 100
    omega
  · have e : PyData.eqv (.list (pds us)) (.list []) = us.isEmpty := by
      show PyData.eqvAll (pds us) [] = _
      rw [jeM]
      cases us <;> rfl
    rw [e]; exact q
structure Ft (n k:Nat)(u:U):Prop where
 b:bare u=true
 f:Fits n k (pd u)
theorem Ft.mono {n n' k k':Nat}{u:U}(h:Ft n k u)(h1:n<=n')(h2:k<=k'):Ft n' k' u:=⟨h.b,h.f.mono h1 h2⟩
theorem Ft.int {i:Int}(h:i.natAbs < 2 ^ 1000):Ft 1921 0 (.int i):=⟨rfl,Fits.int h⟩
theorem Ft.str {x:Str}{m:Nat}(h:x.length<=m)(hc:∀ c∈x.cps.toList,c < 128):Ft (10 * m + 2) 0 (.str x):=⟨rfl,Fits.str h fun c hc'=>Nat.lt_trans (hc c hc') (by decide)⟩
theorem Ft.tup {n k m N:Nat}{us:List U}(hl:us.length<=m)(h:∀ u∈us,Ft n k u)(hN:m * (n + 2) + 3<=N):Ft N (k + 1) (.tup us):=by
 refine ⟨jet fun u hu=>(h u hu).b,?_⟩
 show Fits N (k + 1) (.tuple (pds us))
 rw [jgH]
 refine Fits.tupLe (m:=m) (n:=n) (by rw [List.length_map]; exact hl) (fun d hd=>?_) hN
 obtain ⟨u,hu,rfl⟩:=List.mem_map.mp hd
 exact (h u hu).f
theorem je6 {G:Gp}{n k:Nat}{u:U}{Q:K1}(h:Ft n k u)(h1:n<=16000000)(h2:k<=60)(q:Q (.str (pd u).shown) G):jcE [u] G Q:=jiM h.b (h.f.mono h1 h2) q
theorem jbw {ok:Gp->Prop}{b:U->Sg->Gp->(Sg->Gp->Prop)->Prop}{k:Sg->Gp->Prop}:∀ {xs:List U} (I:Nat->Sg->Gp->Prop) (_:∀ ς G,I xs.length ς G->ok G/\k ς G)
  (_:∀ i x ς G (K:Sg->Gp->Prop),xs[i]?=some x->I i ς G->(∀ ς' G',I (i + 1) ς' G'->K ς' G')->ok G/\b x ς G K) {ς:Sg} {G:Gp} (_:I 0 ς G),forL ok b xs ς G k
 | [],_,h0,_,_,_,h=>h0 _ _ h
 | x::_,I,h0,h1,_,_,h=>h1 0 x _ _ _ rfl h fun _ _ h'=>jbw (fun i=>I (i + 1)) h0 (fun i y ς G K e hi hk=>h1 (i + 1) y ς G K e hi hk) h'
theorem jaC {ok:Gp->Prop}{b:U->Gp->(Option U->Gp->Prop)->Prop}{k:List U->Gp->Prop}:∀ {xs:List U} (I:Nat->List U->Gp->Prop) (_:∀ acc G,I xs.length acc G->ok G/\k acc G)
  (_:∀ i x acc G (K:Option U->Gp->Prop),xs[i]?=some x->I i acc G->(∀ u G',I (i + 1) (acc++[u]) G'->K (some u) G')->(∀ G',I (i + 1) acc G'->K none G')->ok G/\b x G K) {acc:List U} {G:Gp} (_:I 0 acc G),jca ok b xs acc G k
 | [],_,h0,_,_,_,h=>h0 _ _ h
 | x::_,I,h0,h1,_,_,h=>h1 0 x _ _ _ rfl h (fun _ _ h'=>jaC (fun i=>I (i + 1)) h0 (fun i y a G K e hi hk hn=>h1 (i + 1) y a G K e hi hk hn) h') (fun _ h'=>jaC (fun i=>I (i + 1)) h0 (fun i y a G K e hi hk hn=>h1 (i + 1) y a G K e hi hk hn) h')
theorem jbo {ok:Gp->Prop}{b:U->Gp->(Option U->Gp->Prop)->Prop}{k:List U->Gp->Prop}{G:Gp}(f:U->U)(hok:ok G):∀ {xs:List U} (_:∀ x∈xs,∀ K:Option U->Gp->Prop,K (some (f x)) G->b x G K) {acc:List U} (_:k (acc++xs.map f) G),jca ok b xs acc G k
 | [],_,acc,q=>⟨hok,by simpa using q⟩
 | x::xs,hb,acc,q=>⟨hok,hb x List.mem_cons_self _ (jbo f hok (fun y hy=>hb y (List.mem_cons_of_mem _ hy)) (by simpa using q))⟩
theorem jbC {ok : Gp -> Prop}{b : U -> Gp -> (Option U -> Gp -> Prop) -> Prop}{k : List U -> Gp -> Prop}{G : Gp}(f : U -> Option U)(hok : ok G) : ∀ {xs : List U} (_ : ∀ x ∈ xs, ∀ K : Option U -> Gp -> Prop, K (f x) G -> b x G K) {acc : List U} (_ : k (acc ++ xs.filterMap f) G), jca ok b xs acc G k
  | [], _, acc, q => ⟨hok, by simpa using q⟩
  | x :: xs, hb, acc, q => ⟨hok, hb x List.mem_cons_self _ (jbC f hok (fun y hy => hb y (List.mem_cons_of_mem _ hy)) (by
      cases e : f x with
      | none => rw [List.filterMap_cons_none e] at q; exact q
      | some u => rw [List.filterMap_cons_some e] at q; simpa using q))⟩
theorem jaz (i:Int)(n:Nat):(rngU i n).length=n:=by unfold rngU; simp
theorem jbt {n i:Nat}{x:U}(h:(rngU 0 n)[i]?=some x):i < n/\x=.int i:=by
 unfold rngU at h
 rw [List.getElem?_map] at h
 by_cases hi:i < n
 ·rw [List.getElem?_range hi] at h
  exact ⟨hi,by simpa using h.symm⟩
 ·rw [List.getElem?_eq_none (by simpa using hi)] at h
  cases h
theorem jcS {α β:Type}(f:α->β)(l:List α)(i:Int):atI (l.map f) i=(atI l i).map f:=by
 unfold atI
 rw [List.length_map]
 cases ixN l.length i with
 | none=>rfl
 | some j=>simp
theorem jgw {α:Type}(a:α)(l:List α):atI (a::l) 0=some a:=jbx (xs:=a::l) (j:=0) rfl
theorem jcT {α:Type}(a b:α)(l:List α):atI (a::b::l) 1=some b:=jbx (xs:=a::b::l) (j:=1) rfl
theorem jlt {α:Type}(a b c:α)(l:List α):atI (a::b::c::l) 2=some c:=jbx (xs:=a::b::c::l) (j:=2) rfl
theorem jls {α:Type}(a b c d:α)(l:List α):atI (a::b::c::d::l) 3=some d:=jbx (xs:=a::b::c::d::l) (j:=3) rfl
theorem jdu {α:Type}{l:List α}{r:Int}(h0:0<=r)(h1:r < l.length):∃ x,x∈l/\atI l r=some x:=by
 obtain ⟨j,rfl⟩:=Int.eq_ofNat_of_zero_le h0
 have hj:j < l.length:=by omega
 exact ⟨l[j],List.getElem_mem hj,jbx (List.getElem?_eq_getElem hj)⟩
noncomputable def fdU (c:Addr)(a l t:Int):List (Key×U):=[(.inr "cells",.loc c),(.inr "at",.int a),(.inr "left",.int l),(.inr "turn",.int t)]
structure Fd (G:Gp)(f c:Addr):Prop where
 ex:∃ (ns:List Int) (a l t:Int),G f=some (.dK (fdU c a l t))/\G c=some (.lst (ns.map .int))/\ns≠[]
section
theorem k_ca:¬ ((Sum.inr ("cells" : Str):Key)=Sum.inr ("at" : Str)):=by decide +kernel
theorem k_cl:¬ ((Sum.inr ("cells" : Str):Key)=Sum.inr ("left" : Str)):=by decide +kernel
theorem k_ct:¬ ((Sum.inr ("cells" : Str):Key)=Sum.inr ("turn" : Str)):=by decide +kernel
theorem k_al:¬ ((Sum.inr ("at" : Str):Key)=Sum.inr ("left" : Str)):=by decide +kernel
theorem k_at:¬ ((Sum.inr ("at" : Str):Key)=Sum.inr ("turn" : Str)):=by decide +kernel
theorem k_lt:¬ ((Sum.inr ("left" : Str):Key)=Sum.inr ("turn" : Str)):=by decide +kernel
variable {c:Addr}{a l t:Int}
theorem jh7:dGet (fdU c a l t) (.inr "cells")=some (.loc c):=by simp [dGet,fdU]
theorem g_at:dGet (fdU c a l t) (.inr "at")=some (.int a):=by simp [dGet,fdU,k_ca,-Sum.inr.injEq]
theorem jjP:dGet (fdU c a l t) (.inr "left")=some (.int l):=by simp [dGet,fdU,k_cl,k_al,-Sum.inr.injEq]
theorem jgS:dGet (fdU c a l t) (.inr "turn")=some (.int t):=by simp [dGet,fdU,k_ct,k_at,k_lt,-Sum.inr.injEq]
theorem jgI (x:Int):dPut (fdU c a l t) (.inr "turn") (.int x)=fdU c a l x:=by simp [dPut,fdU,k_ct,k_at,k_lt,-Sum.inr.injEq]
theorem p_at (x:Int):dPut (fdU c a l t) (.inr "at") (.int x)=fdU c x l t:=by simp [dPut,fdU,k_ca,Ne.symm k_al,Ne.symm k_at,-Sum.inr.injEq]
theorem jja (x:Int):dPut (fdU c a l t) (.inr "left") (.int x)=fdU c a x t:=by simp [dPut,fdU,k_cl,k_al,Ne.symm k_lt,-Sum.inr.injEq]
theorem jjw {p:Addr}:jb8 [((Sum.inr ("cells" : Str):Key),U.loc p),(.inr "at",.int 0),(.inr "left",.int 0),(.inr "turn",.int 0)]=fdU p 0 0 0:=by
 simp [jb8,dPut,fdU,k_ca,k_cl,k_ct,k_al,k_at,k_lt,-Sum.inr.injEq]
theorem jeo:(fdU c a l t).length < sizeLine:=by show 4 < sizeLine; decide
theorem Fd.put {G G':Gp}{f c:Addr}{ns:List Int}{kvs:List (Key×U)}{a l t:Int}(p:Put G f (.dK (fdU c a l t)) G')(h:G f=some (.dK kvs))(hc:G c=some (.lst (ns.map .int)))(hn:ns≠[]):Fd G' f c:=
 ⟨ns,a,l,t,p.at,p.sm _ _ (fun z=>by rw [z,h] at hc; cases hc) hc,hn⟩
theorem Fd.sa {G G':Gp}{f c:Addr}(h:Fd G f c)(s:Sa G G'):Fd G' f c:=let ⟨ns,a,l,t,h1,h2,h3⟩:=h.ex; ⟨ns,a,l,t,s _ _ h1,s _ _ h2,h3⟩
theorem Fd.new {G G':Gp}{f c p:Addr}{o:MO}(h:Fd G f c)(n:New G p o G'):Fd G' f c:=h.sa n.sa
theorem Fd.away {G G':Gp}{f c p:Addr}{o:MO}(h:Fd G f c)(n:New G p o G'):p≠f/\p≠c:=by
 obtain ⟨ns,a,l,t,h1,h2,_⟩:=h.ex
 exact ⟨jbS h1 n.no,jbS h2 n.no⟩
theorem Fd.off {G G':Gp}{f c p:Addr}{o:MO}(h:Fd G f c)(hp:p≠f/\p≠c)(w:Put G p o G'):Fd G' f c:=let ⟨ns,a,l,t,h1,h2,h3⟩:=h.ex; ⟨ns,a,l,t,w.sm _ _ (Ne.symm hp.1) h1,w.sm _ _ (Ne.symm hp.2) h2,h3⟩
theorem Sm.wr {f p:Addr}{G G1 G2 G3:Gp}{o:MO}(s1:Sm f G G1)(n:G1 p=none)(s2:Sm f G G2)(w:Put G2 p o G3):Sm f G G3:=fun b u hb e=>w.sm b u (fun z=>by
 have:=s1 _ _ hb e
 rw [z,n] at this; cases this) (s2 b u hb e)
theorem Sm.nw {f p:Addr}{G G1 G2:Gp}{o:MO}(s:Sm f G G1)(n:New G1 p o G2):Sm f G G2:=s.trans n.sa.sm
end
theorem D_v {gs:List U}{Δ:Cl}{ς:Sg}{G:Gp}{Q:K1}{X:KX}(i:Nat):(den gs Δ (.v i)).1 ς G Q X=(slot ς i fun u=>Q u G):=rfl
theorem T_v {gs:List U}{Δ:Cl}{ς:Sg}{G:Gp}{R:Bool->Gp->Prop}{X:KX}(i:Nat):(den gs Δ (.v i)).2 ς G R X=(den gs Δ (.v i)).1 ς G (fun x G1=>truU x G1 fun b=>R b G1) X:=rfl
theorem jmd {gs:List U}{Δ:Cl}{ς:Sg}{G:Gp}{Q:K1}{X:KX}  : (den gs Δ (.non)).1 ς G Q X=(Q .non G):=rfl
theorem D_bl {gs:List U}{Δ:Cl}{ς:Sg}{G:Gp}{Q:K1}{X:KX}(b:Bool):(den gs Δ (.bl b)).1 ς G Q X=(Q (.bl b) G):=rfl
theorem jmj {gs:List U}{Δ:Cl}{ς:Sg}{G:Gp}{Q:K1}{X:KX}(i:Int):(den gs Δ (.int i)).1 ς G Q X=(Q (.int i) G):=rfl
theorem jmb {gs:List U}{Δ:Cl}{ς:Sg}{G:Gp}{Q:K1}{X:KX}(x:Str):(den gs Δ (.str x)).1 ς G Q X=(Q (.str x) G):=rfl
theorem jmo {gs:List U}{Δ:Cl}{ς:Sg}{G:Gp}{Q:K1}{X:KX}(o:Operator)(a b:E):(den gs Δ (.bin o a b)).1 ς G Q X=((den gs Δ a).1 ς G (fun x G1=>(den gs Δ b).1 ς G1 (fun y G2=>binU o x y G2 Q) X) X):=rfl
theorem jlT {gs:List U}{Δ:Cl}{ς:Sg}{G:Gp}{R:Bool->Gp->Prop}{X:KX}(o:Operator)(a b:E):(den gs Δ (.bin o a b)).2 ς G R X=(den gs Δ (.bin o a b)).1 ς G (fun x G1=>truU x G1 fun b=>R b G1) X:=rfl
theorem jme {gs:List U}{Δ:Cl}{ς:Sg}{G:Gp}{Q:K1}{X:KX}(a:E):(den gs Δ (.neg a)).1 ς G Q X=((den gs Δ a).1 ς G (fun x G1=>negU x G1 Q) X):=rfl
theorem jmm {gs:List U}{Δ:Cl}{ς:Sg}{G:Gp}{Q:K1}{X:KX}(o:CmpOp)(a b:E):(den gs Δ (.cmp o a b)).1 ς G Q X=((den gs Δ a).1 ς G (fun x G1=>(den gs Δ b).1 ς G1 (fun y G2=>cmpU o x y G2 fun c=>Q (.bl c) G2) X) X):=rfl
theorem jlR {gs:List U}{Δ:Cl}{ς:Sg}{G:Gp}{R:Bool->Gp->Prop}{X:KX}(o:CmpOp)(a b:E):(den gs Δ (.cmp o a b)).2 ς G R X=(den gs Δ (.cmp o a b)).1 ς G (fun x G1=>truU x G1 fun b=>R b G1) X:=rfl
theorem jma {gs:List U}{Δ:Cl}{ς:Sg}{G:Gp}{Q:K1}{X:KX}(es:Es):(den gs Δ (.tup es)).1 ς G Q X=(jaG gs Δ es ς G (fun us G1=>us.length<=sizeLine/\Q (.tup us) G1) X):=rfl
theorem jmh {gs:List U}{Δ:Cl}{ς:Sg}{G:Gp}{Q:K1}{X:KX}(es:Es):(den gs Δ (.lst es)).1 ς G Q X=(jaG gs Δ es ς G (fun us G1=>us.length<=sizeLine/\newO G1 (.lst us) Q) X):=rfl
theorem jml {gs:List U}{Δ:Cl}{ς:Sg}{G:Gp}{Q:K1}{X:KX}(es:Es):(den gs Δ (.dic es)).1 ς G Q X=(denD gs Δ es ς G (fun kvs G1=>kvs.length<=15/\newO G1 (.dK (jb8 kvs)) Q) X):=rfl
theorem D_ix {gs:List U}{Δ:Cl}{ς:Sg}{G:Gp}{Q:K1}{X:KX}(a b:E):(den gs Δ (.ix a b)).1 ς G Q X=((den gs Δ a).1 ς G (fun x G1=>(den gs Δ b).1 ς G1 (fun y G2=>ixU x y G2 Q) X) X):=rfl
theorem T_ix {gs:List U}{Δ:Cl}{ς:Sg}{G:Gp}{R:Bool->Gp->Prop}{X:KX}(a b:E):(den gs Δ (.ix a b)).2 ς G R X=(den gs Δ (.ix a b)).1 ς G (fun x G1=>truU x G1 fun b=>R b G1) X:=rfl
theorem D_sl {gs:List U}{Δ:Cl}{ς:Sg}{G:Gp}{Q:K1}{X:KX}(a:E)(lo hi:Eo):(den gs Δ (.sl a lo hi)).1 ς G Q X=((den gs Δ a).1 ς G (fun x G1=>denO gs Δ lo ς G1 (fun l G2=>denO gs Δ hi ς G2 (fun h G3=>slU x l h G3 Q) X) X) X):=rfl
theorem jmc {gs:List U}{Δ:Cl}{ς:Sg}{G:Gp}{Q:K1}{X:KX}(a b:E):(den gs Δ (.rev a b)).1 ς G Q X=((den gs Δ a).1 ς G (fun x G1=>(den gs Δ b).1 ς G1 (fun y G2=>revU x y G2 Q) X) X):=rfl
theorem jkl {gs:List U}{Δ:Cl}{ς:Sg}{G:Gp}{Q:K1}{X:KX}(n:Nat)(es:Es):(den gs Δ (.call n es)).1 ς G Q X=(jaG gs Δ es ς G (fun us G1=>Δ n us G1 Q X) X):=rfl
theorem jj8 {gs:List U}{Δ:Cl}{ς:Sg}{G:Gp}{R:Bool->Gp->Prop}{X:KX}(n:Nat)(es:Es):(den gs Δ (.call n es)).2 ς G R X=(den gs Δ (.call n es)).1 ς G (fun x G1=>truU x G1 fun b=>R b G1) X:=rfl
theorem jmn {gs:List U}{Δ:Cl}{ς:Sg}{G:Gp}{Q:K1}{X:KX}(b:Blt)(es:Es):(den gs Δ (.blt b es)).1 ς G Q X=(jaG gs Δ es ς G (fun us G1=>bltU b us G1 Q) X):=rfl
theorem jlS {gs:List U}{Δ:Cl}{ς:Sg}{G:Gp}{R:Bool->Gp->Prop}{X:KX}(b:Blt)(es:Es):(den gs Δ (.blt b es)).2 ς G R X=(den gs Δ (.blt b es)).1 ς G (fun x G1=>truU x G1 fun b=>R b G1) X:=rfl
theorem jkk {gs:List U}{Δ:Cl}{ς:Sg}{G:Gp}{Q:K1}{X:KX}(m:Mth)(o:E)(es:Es):(den gs Δ (.meth m o es)).1 ς G Q X=((den gs Δ o).1 ς G (fun x G1=>match mtU m x G1 with | some _=>jaG gs Δ es ς G1 (fun us G2=>jbk m x us G2 Q) X | none=>False) X):=rfl
theorem D_lc {gs:List U}{Δ:Cl}{ς:Sg}{G:Gp}{Q:K1}{X:KX}(pick:List (Option Nat))(t:Tg)(it:It)(ifs:Es)(e:E):(den gs Δ (.lc pick t it ifs e)).1 ς G Q X=(denI gs Δ it ς G (fun xs ok G1=>xs.length<=sizeLine/\jca ok (fun x G2 k=>tgU t x (ja9 pick ς) fun τ=>denC gs Δ ifs τ G2 (fun b G3=>if b=true then (den gs Δ e).1 τ G3 (fun u G4=>k (some u) G4) (fun _ _=>False) else k none G3)) xs [] G1 fun us G5=>newO G5 (.lst us) Q) X):=rfl
theorem jmi {gs:List U}{Δ:Cl}{ς:Sg}{G:Gp}{Q:K1}{X:KX}(pick:List (Option Nat))(t:Tg)(it:It)(ifs:Es)(t2:Tg)(it2:It)(ifs2:Es)(e:E):(den gs Δ (.lc2 pick t it ifs t2 it2 ifs2 e)).1 ς G Q X=(denI gs Δ it ς G (fun xs ok G1=>jij ok (fun x acc G2 k=>tgU t x (ja9 pick ς) fun τ=>denC gs Δ ifs τ G2 (fun b G3=>if b=true then denI gs Δ it2 τ G3 (fun ys ok2 G4=>acc.length + ys.length<=sizeLine/\jca ok2 (fun y G5 k5=>tgU t2 y τ fun τ'=>denC gs Δ ifs2 τ' G5 (fun b2 G6=>if b2=true then (den gs Δ e).1 τ' G6 (fun u G7=>k5 (some u) G7) (fun _ _=>False) else k5 none G6)) ys acc G4 k) (fun _ _=>False) else k acc G3)) xs [] G1 fun us G5=>newO G5 (.lst us) Q) X):=rfl
theorem jlP {gs:List U}{Δ:Cl}{ς:Sg}{G:Gp}{R:Bool->Gp->Prop}{X:KX}(pick:List (Option Nat))(t:Tg)(it:It)(ifs:Es)(t2:Tg)(it2:It)(ifs2:Es)(e:E):(den gs Δ (.lc2 pick t it ifs t2 it2 ifs2 e)).2 ς G R X=(den gs Δ (.lc2 pick t it ifs t2 it2 ifs2 e)).1 ς G (fun x G1=>truU x G1 fun b=>R b G1) X:=rfl
theorem jmg {gs:List U}{Δ:Cl}{ς:Sg}{G:Gp}{Q:K1}{X:KX}(e:E):(den gs Δ (.mkL e)).1 ς G Q X=((den gs Δ e).1 ς G (fun x G1=>itU x G1 fun xs _=>newO G1 (.lst xs) Q) X):=rfl
theorem jmf {gs:List U}{Δ:Cl}{ς:Sg}{G:Gp}{Q:K1}{X:KX}(e:E):(den gs Δ (.mkT e)).1 ς G Q X=((den gs Δ e).1 ς G (fun x G1=>itU x G1 fun xs _=>Q (.tup xs) G1) X):=rfl
theorem jmk {gs:List U}{Δ:Cl}{ς:Sg}{G:Gp}{Q:K1}{X:KX}(c a b:E):(den gs Δ (.ife c a b)).1 ς G Q X=((den gs Δ c).2 ς G (fun t G1=>if t=true then (den gs Δ a).1 ς G1 Q X else (den gs Δ b).1 ς G1 Q X) X):=rfl
theorem jlQ {gs:List U}{Δ:Cl}{ς:Sg}{G:Gp}{R:Bool->Gp->Prop}{X:KX}(c a b:E):(den gs Δ (.ife c a b)).2 ς G R X=((den gs Δ c).2 ς G (fun t G1=>if t=true then (den gs Δ a).2 ς G1 R X else (den gs Δ b).2 ς G1 R X) X):=rfl
theorem jkm {gs:List U}{Δ:Cl}{k:Bool}{a:E}:den gs Δ (.bop k a .nil)=den gs Δ a:=rfl
theorem jmp {gs:List U}{Δ:Cl}{ς:Sg}{G:Gp}{Q:K1}{X:KX}{a b:E}{es:Es}:(den gs Δ (.bop true a (.cons b es))).1 ς G Q X=(den gs Δ a).1 ς G (fun x G1=>truU x G1 fun c=>if c=true then (den gs Δ (.bop true b es)).1 ς G1 Q X else Q x G1) X:=rfl
theorem D_or {gs:List U}{Δ:Cl}{ς:Sg}{G:Gp}{Q:K1}{X:KX}{a b:E}{es:Es}:(den gs Δ (.bop false a (.cons b es))).1 ς G Q X=(den gs Δ a).1 ς G (fun x G1=>truU x G1 fun c=>if c=true then Q x G1 else (den gs Δ (.bop false b es)).1 ς G1 Q X) X:=rfl
theorem jlU {gs:List U}{Δ:Cl}{ς:Sg}{G:Gp}{R:Bool->Gp->Prop}{X:KX}{a b:E}{es:Es}:(den gs Δ (.bop true a (.cons b es))).2 ς G R X=(den gs Δ a).2 ς G (fun c G1=>if c=true then (den gs Δ (.bop true b es)).2 ς G1 R X else R false G1) X:=rfl
theorem T_or {gs:List U}{Δ:Cl}{ς:Sg}{G:Gp}{R:Bool->Gp->Prop}{X:KX}{a b:E}{es:Es}:(den gs Δ (.bop false a (.cons b es))).2 ς G R X=(den gs Δ a).2 ς G (fun c G1=>if c=true then R true G1 else (den gs Δ (.bop false b es)).2 ς G1 R X) X:=rfl
theorem O_no {gs:List U}{Δ:Cl}{ς:Sg}{G:Gp}{X:KX}{Q:Option Int->Gp->Prop}:denO gs Δ .no ς G Q X=Q none G:=rfl
theorem O_so {gs:List U}{Δ:Cl}{ς:Sg}{G:Gp}{X:KX}{Q:Option Int->Gp->Prop}{e:E}:denO gs Δ (.so e) ς G Q X=(den gs Δ e).1 ς G (fun x G1=>match x with | .int i=>Q (some i) G1 | _=>False) X:=rfl
theorem jms {gs:List U}{Δ:Cl}{ς:Sg}{G:Gp}{X:KX}{Q:List U->Gp->Prop}:jaG gs Δ .nil ς G Q X=Q [] G:=rfl
theorem jkp {gs:List U}{Δ:Cl}{ς:Sg}{G:Gp}{X:KX}{Q:List U->Gp->Prop}{e:E}{es:Es}:jaG gs Δ (.cons e es) ς G Q X=(den gs Δ e).1 ς G (fun x G1=>jaG gs Δ es ς G1 (fun xs G2=>Q (x::xs) G2) X) X:=rfl
theorem jmq {gs:List U}{Δ:Cl}{ς:Sg}{G:Gp}{Q:Bool->Gp->Prop}:denC gs Δ .nil ς G Q=Q true G:=rfl
theorem jkn {gs:List U}{Δ:Cl}{ς:Sg}{G:Gp}{Q:Bool->Gp->Prop}{e:E}{es:Es}:denC gs Δ (.cons e es) ς G Q=(den gs Δ e).2 ς G (fun b G1=>if b=true then denC gs Δ es ς G1 Q else Q false G1) (fun _ _=>False):=rfl
theorem jl0 {gs:List U}{Δ:Cl}{ς:Sg}{G:Gp}{X:KX}{Q:List (Key×U)->Gp->Prop}:denD gs Δ .nil ς G Q X=Q [] G:=rfl
theorem jkc {gs:List U}{Δ:Cl}{ς:Sg}{G:Gp}{X:KX}{Q:List (Key×U)->Gp->Prop}{e f:E}{es:Es}:denD gs Δ (.cons e (.cons f es)) ς G Q X=(den gs Δ e).1 ς G (fun x G1=>(den gs Δ f).1 ς G1 (fun y G2=>match kU x with | some k=>denD gs Δ es ς G2 (fun kvs G3=>Q ((k,y)::kvs) G3) X | none=>False) X) X:=rfl
theorem I_e {gs:List U}{Δ:Cl}{ς:Sg}{G:Gp}{X:KX}{Q:List U->(Gp->Prop)->Gp->Prop}{e:E}:denI gs Δ (.e e) ς G Q X=(den gs Δ e).1 ς G (fun x G1=>itU x G1 fun xs ok=>Q xs ok G1) X:=rfl
theorem I_r1 {gs:List U}{Δ:Cl}{ς:Sg}{G:Gp}{X:KX}{Q:List U->(Gp->Prop)->Gp->Prop}{e:E}:denI gs Δ (.r1 e) ς G Q X=(den gs Δ e).1 ς G (fun x G1=>match x with | .int j=>-(2 ^ 62)<=j/\j < 2 ^ 62/\Q (rngU 0 j.toNat) (fun _=>True) G1 | _=>False) X:=rfl
theorem I_dk {gs:List U}{Δ:Cl}{ς:Sg}{G:Gp}{X:KX}{Q:List U->(Gp->Prop)->Gp->Prop}{e:E}:denI gs Δ (.dk e) ς G Q X=(den gs Δ e).1 ς G (fun x G1=>jio x G1 Q) X:=rfl
theorem jka {gs:List U}{Δ:Cl}{D:En}{ς:Sg}{G:Gp}{e:E}:denS gs Δ (.expr e) D ς G=(den gs Δ e).1 ς G (fun _ G1=>D.nx ς G1) fun x G1=>D.ex x ς G1:=rfl
theorem jlZ {gs:List U}{Δ:Cl}{D:En}{ς:Sg}{G:Gp}{t:Tg}{e:E}:denS gs Δ (.asg t e) D ς G=(den gs Δ e).1 ς G (fun u G1=>tgU t u ς fun ς'=>D.nx ς' G1) fun x G1=>D.ex x ς G1:=rfl
theorem jkb {gs:List U}{Δ:Cl}{D:En}{ς:Sg}{G:Gp}{i:Nat}{e:E}:denS gs Δ (.asgC i e) D ς G=(den gs Δ e).1 ς G (fun u G1=>D.nx (ς.set i (some u)) G1) fun x G1=>D.ex x ς G1:=rfl
theorem jj9 {gs:List U}{Δ:Cl}{D:En}{ς:Sg}{G:Gp}{o i e:E}:denS gs Δ (.setS o i e) D ς G=(den gs Δ e).1 ς G (fun v G1=>(den gs Δ o).1 ς G1 (fun x G2=>(den gs Δ i).1 ς G2 (fun y G3=>setU x y v G3 fun G4=>D.nx ς G4) (fun x G1=>D.ex x ς G1)) (fun x G1=>D.ex x ς G1)) (fun x G1=>D.ex x ς G1):=rfl
theorem jlW {gs:List U}{Δ:Cl}{D:En}{ς:Sg}{G:Gp}{is:List Nat}{es:Es}:denS gs Δ (.par is es) D ς G=jaG gs Δ es ς G (fun us G1=>us.length=is.length/\D.nx ((is.zip us).foldl (fun s p=>s.set p.1 (some p.2)) ς) G1) fun x G1=>D.ex x ς G1:=rfl
theorem jlY {gs:List U}{Δ:Cl}{D:En}{ς:Sg}{G:Gp}{i:Nat}{o:Operator}{e:E}:denS gs Δ (.aug i o e) D ς G=slot ς i fun x=>(den gs Δ e).1 ς G (fun y G1=>jdP o x y G1 fun z G2=>D.nx (ς.set i (some z)) G2) fun x G1=>D.ex x ς G1:=rfl
theorem jlX {gs:List U}{Δ:Cl}{D:En}{ς:Sg}{G:Gp}{c:E}{a b:Ss}:denS gs Δ (.ite c a b) D ς G=(den gs Δ c).2 ς G (fun t G1=>if t=true then jax gs Δ a D ς G1 else jax gs Δ b D ς G1) fun x G1=>D.ex x ς G1:=rfl
theorem S_fr {gs:List U}{Δ:Cl}{D:En}{ς:Sg}{G:Gp}{t:Tg}{it:It}{b:Ss}:denS gs Δ (.fr t it b) D ς G=denI gs Δ it ς G (fun xs ok G1=>forL ok (fun x ς1 G2 k=>tgU t x ς1 fun ς2=>jax gs Δ b { D with nx:=k } ς2 G2) xs ς G1 D.nx) fun x G1=>D.ex x ς G1:=rfl
theorem jlV {gs:List U}{Δ:Cl}{D:En}{ς:Sg}{G:Gp}{e:E}:denS gs Δ (.ret e) D ς G=(den gs Δ e).1 ς G D.rt fun x G1=>D.ex x ς G1:=rfl
theorem jin {gs:List U}{Δ:Cl}{D:En}{ς:Sg}{G:Gp}{c:Nat}{es:Es}:denS gs Δ (.raise c es) D ς G=jaG gs Δ es ς G (fun us G1=>us.length=(clsF c).length/\D.ex ⟨c,us⟩ ς G1) fun x G1=>D.ex x ς G1:=rfl
theorem S_tr {gs:List U}{Δ:Cl}{D:En}{ς:Sg}{G:Gp}{b:Ss}{c n:Nat}{h:List HS}:denS gs Δ (.tr b c n h) D ς G=jax gs Δ b { D with ex:=fun x ς1 G1=>(c=0\/x.c=c)/\hsH x h (ς1.set n none) G1 fun ς2 G2=>D.nx (ς2.set n none) G2 } ς G:=rfl
theorem jmr {gs:List U}{Δ:Cl}{D:En}{ς:Sg}{G:Gp}:jax gs Δ .nil D ς G=D.nx ς G:=rfl
theorem jko {gs:List U}{Δ:Cl}{D:En}{ς:Sg}{G:Gp}{s:S}{r:Ss}:jax gs Δ (.cons s r) D ς G=denS gs Δ s { D with nx:=fun ς' G'=>jax gs Δ r D ς' G' } ς G:=rfl
theorem jlO {G:Gp}{Q:K1}{i j:Int}:binU .Add (.int i) (.int j) G Q=Q (.int (i + j)) G:=rfl
theorem jlN {G:Gp}{Q:K1}{xs ys:List U}:binU .Add (.tup xs) (.tup ys) G Q=(xs.length + ys.length<=sizeLine/\Q (.tup (xs++ys)) G):=rfl
theorem jj6 {G:Gp}{Q:K1}{a b:Addr}:binU .Add (.loc a) (.loc b) G Q=∃ xs ys,G a=some (.lst xs)/\G b=some (.lst ys)/\xs.length + ys.length<=sizeLine/\newO G (.lst (xs++ys)) Q:=rfl
theorem jlI {G:Gp}{Q:K1}{i j:Int}:binU .Sub (.int i) (.int j) G Q=Q (.int (i - j)) G:=rfl
theorem jlL {G:Gp}{Q:K1}{i j:Int}:binU .Mult (.int i) (.int j) G Q=(CMul i j/\Q (.int (i * j)) G):=rfl
theorem jj4 {G:Gp}{Q:K1}{a:Addr}{k:Int}:binU .Mult (.loc a) (.int k) G Q=∃ xs,G a=some (.lst xs)/\-(2 ^ 63)<=k/\k < 2 ^ 63/\xs.length * k.toNat<=sizeLine/\newO G (.lst (List.replicate k.toNat xs).flatten) Q:=rfl
theorem jj3 {G:Gp}{Q:K1}{xs:List U}{k:Int}:binU .Mult (.tup xs) (.int k) G Q=(xs≠[]/\1<=k/\k < 2 ^ 62/\xs.length * k.toNat<=sizeLine/\Q (.tup (List.replicate k.toNat xs).flatten) G):=rfl
theorem jj5 {G:Gp}{Q:K1}{i j:Int}:binU .FloorDiv (.int i) (.int j) G Q=(0 < j/\j < 1073741824/\Q (.int (i / j)) G):=rfl
theorem jlM {G:Gp}{Q:K1}{i j:Int}:binU .Mod (.int i) (.int j) G Q=(0 < j/\Q (.int (i % j)) G):=rfl
theorem jlJ {G:Gp}{Q:K1}{i j:Int}:binU .Pow (.int i) (.int j) G Q=(CPow i j/\Q (.int (i ^ j.toNat)) G):=rfl
theorem jlK {G:Gp}{Q:K1}{i:Int}:negU (.int i) G Q=Q (.int (-i)) G:=rfl
theorem jlH {G:Gp}{k:Bool->Prop}{i j:Int}:cmpU .Eq (.int i) (.int j) G k=k (decide (i=j)):=rfl
theorem jlD {G:Gp}{k:Bool->Prop}{i j:Int}:cmpU .NotEq (.int i) (.int j) G k=k (!decide (i=j)):=rfl
theorem jlF {G:Gp}{k:Bool->Prop}{i j:Str}:cmpU .Eq (.str i) (.str j) G k=k (decide (i=j)):=rfl
theorem jlB {G:Gp}{k:Bool->Prop}{i j:Str}:cmpU .NotEq (.str i) (.str j) G k=k (!decide (i=j)):=rfl
theorem W_lt {G:Gp}{k:Bool->Prop}{i j:Int}:cmpU .Lt (.int i) (.int j) G k=k (decide (i < j)):=rfl
theorem jlA {G:Gp}{k:Bool->Prop}{xs ys:List U}:cmpU .NotEq (.tup xs) (.tup ys) G k=eqU (.tup xs) (.tup ys) G fun b=>k (!b):=rfl
theorem jlE {G:Gp}{k:Bool->Prop}{xs ys:List U}{y:U}:cmpU .Eq (.tup xs) (.tup (y::ys)) G k=eqU (.tup xs) (.tup (y::ys)) G k:=rfl
theorem jj0 {G:Gp}{k:Bool->Prop}{xs:List U}:cmpU .Eq (.tup xs) (.tup []) G k=k xs.isEmpty:=rfl
theorem jlC {G:Gp}{k:Bool->Prop}{a b:Addr}:cmpU .NotEq (.loc a) (.loc b) G k=eqU (.loc a) (.loc b) G fun b=>k (!b):=rfl
theorem jlG {G:Gp}{k:Bool->Prop}{a b:Addr}:cmpU .Eq (.loc a) (.loc b) G k=eqU (.loc a) (.loc b) G k:=rfl
theorem jlz {G:Gp}{k:Bool->Prop}{x y:U}:cmpU .NotIn x y G k=inU x y G fun b=>k (!b):=rfl
theorem Y_bl {G:Gp}{k:Bool->Prop}{b:Bool}:truU (.bl b) G k=k b:=rfl
theorem jlv {G:Gp}{k:Bool->Prop}:truU .non G k=k false:=rfl
theorem jlw {G:Gp}{k:Bool->Prop}{i:Int}:truU (.int i) G k=k (i != 0):=rfl
theorem jlu {G:Gp}{k:Bool->Prop}{xs:List U}:truU (.tup xs) G k=k (!xs.isEmpty):=rfl
theorem jl3 {G:Gp}{k:List U->(Gp->Prop)->Prop}{xs:List U}:itU (.tup xs) G k=k xs fun _=>True:=rfl
theorem jlx {G:Gp}{Q:K1}{lo hi:Option Int}{xs:List U}:slU (.tup xs) lo hi G Q=Q (.tup (cut xs lo hi)) G:=rfl
theorem jl7 {us:List U}{G:Gp}{Q:K1}:bltU .len us G Q=lenU us G Q:=rfl
theorem jke {us:List U}{G:Gp}{Q:K1}:bltU .repr us G Q=jcE us G Q:=rfl
theorem jl6 {us:List U}{G:Gp}{Q:K1}:bltU .min us G Q=minU us G Q:=rfl
theorem jl5 {us:List U}{G:Gp}{Q:K1}:bltU .sum us G Q=sumU us G Q:=rfl
theorem jl9 {us:List U}{G:Gp}{Q:K1}:bltU .any us G Q=anyU us G Q:=rfl
theorem jl8 {us:List U}{G:Gp}{Q:K1}:bltU .int us G Q=intU us G Q:=rfl
theorem jly {G:Gp}{Q:K1}{lo hi:Option Int}{x:Str}:slU (.str x) lo hi G Q=(x.length<=sizeLine/\Q (.str (Txt.slice x lo hi)) G):=rfl
theorem jj7 {G:Gp}{Q:K1}{b:Bool}{j:Int}:binU .Add (.bl b) (.int j) G Q=Q (.int ((if b=true then (1:Int) else 0) + j)) G:=rfl
theorem jj2 {G:Gp}{Q:K1}{b:Bool}{j:Int}:binU .Sub (.bl b) (.int j) G Q=Q (.int ((if b=true then (1:Int) else 0) - j)) G:=rfl
theorem jj1 {G:Gp}{Q:K1}{b:Bool}{i:Int}:binU .Sub (.int i) (.bl b) G Q=Q (.int (i - if b=true then (1:Int) else 0)) G:=rfl
theorem jkh {G:Gp}{Q:K1}{xs:List U}:lenU [.tup xs] G Q=Q (.int xs.length) G:=rfl
theorem jkf {G:Gp}{Q:K1}{i j:Int}:minU [.int i,.int j] G Q=Q (.int (if j < i then j else i)) G:=rfl
theorem jkg {G:Gp}{Q:K1}{i j:Int}:maxU [.int i,.int j] G Q=Q (.int (if j > i then j else i)) G:=rfl
theorem jkj {G:Gp}{Q:K1}{b:Bool}:intU [.bl b] G Q=Q (.int (if b then 1 else 0)) G:=rfl
theorem jki {G:Gp}{Q:K1}{i:Int}:intU [.int i] G Q=Q (.int i) G:=rfl
theorem G_n {i:Nat}{u:U}{ς:Sg}{k:Sg->Prop}:tgU (.n i) u ς k=k (ς.set i (some u)):=rfl
theorem G_t {ts:Tgs}{us:List U}{ς:Sg}{k:Sg->Prop}:tgU (.t ts) (.tup us) ς k=tgsU ts us ς k:=rfl
theorem jl4 {us:List U}{ς:Sg}{k:Sg->Prop}:tgsU .nil us ς k=(us=[]/\k ς):=rfl
theorem jkd {t:Tg}{ts:Tgs}{u:U}{r:List U}{ς:Sg}{k:Sg->Prop}:tgsU (.cons t ts) (u::r) ς k=tgU t u ς fun ς'=>tgsU ts r ς' k:=rfl
theorem sl_0 {u:U}{ς:Sg}{k:U->Prop}:slot (some u::ς) 0 k=k u:=rfl
theorem sl_s {o:Option U}{ς:Sg}{i:Nat}{k:U->Prop}:slot (o::ς) (i + 1) k=slot ς i k:=rfl
theorem jcF {G:Gp}{a:Addr}{o:MO}{Q:Gp->Prop}:putO G a o Q=Q (gup G a o):=propext ⟨fun h=>h.at,fun h G1 p=>by rw [p.eq]; exact h⟩
theorem ix_t {xs:List U}{i:Int}{u:U}{G:Gp}{Q:K1}(h:atI xs i=some u):ixU (.tup xs) (.int i) G Q=Q u G:=by unfold ixU; dsimp only; rw [h]
theorem ix_l {a:Addr}{xs:List U}{i:Int}{u:U}{G:Gp}{Q:K1}(g:G a=some (.lst xs))(h:atI xs i=some u):ixU (.loc a) (.int i) G Q=Q u G:=by unfold ixU; dsimp only; rw [g]; dsimp only; rw [h]
theorem ix_d {a:Addr}{kvs:List (Key×U)}{x:Str}{u:U}{G:Gp}{Q:K1}(g:G a=some (.dK kvs))(h:dGet kvs (.inr x)=some u):ixU (.loc a) (.str x) G Q=Q u G:=by unfold ixU; dsimp only; rw [g]; show (match dGet kvs (.inr x) with | some u=>Q u G | none=>False)=_; rw [h]
theorem jhZ {a:Addr}{xs:List U}{r:Int}{G:Gp}{Q:K1}(g:G a=some (.lst xs))(h0:0<=r)(h1:r < xs.length)(q:∀ u∈xs,Q u G):ixU (.loc a) (.int r) G Q:=by
 obtain ⟨u,hu,e⟩:=jdu h0 h1
 rw [ix_l g e]
 exact q u hu
theorem ja1 (zs:List Int){a:Addr}{r:Int}{G:Gp}{Q:K1}(g:G a=some (.lst (zs.map .int)))(h0:0<=r)(h1:r < zs.length)(q:∀ z∈zs,Q (.int z) G):ixU (.loc a) (.int r) G Q:=
 jhZ g h0 (by rw [List.length_map]; exact h1) fun u hu=>by
  obtain ⟨z,hz,rfl⟩:=List.mem_map.mp hu
  exact q z hz
theorem jed:∀ zs:List Str,jdC (zs.map .str)=some zs
 | []=>rfl
 | x::r=>by show (match jdC (r.map .str) with | some l=>some (x::l) | none=>none)=_; rw [jed r]
theorem jcO:∀ zs:List Int,jcg (zs.map .int)=some zs
 | []=>rfl
 | x::r=>by show (match jcg (r.map .int) with | some l=>some (x::l) | none=>none)=_; rw [jcO r]
theorem mt_join {z:Str}{G:Gp}:mtU .join (.str z) G=some ("str", "str.join"):=rfl
theorem jjG {z:Str}{a:Addr}{ys:List Str}{G:Gp}{Q:K1}(g:G a=some (.lst (ys.map .str))):jbk .join (.str z) [.loc a] G Q=(z.length<=16/\(ys.map (·.length)).sum + ys.length<=1048576/\Q (.str (Str.join z ys)) G):=by
 unfold jbk jhY; dsimp only; rw [g]; dsimp only; rw [jed]
theorem ix_s {x:Str}{i:Int}{c:Nat}{G:Gp}{Q:K1}(h1:x.length<=sizeLine)(h:atI x.cps.toList i=some c)(q:Q (.str ⟨#[c]⟩) G):ixU (.str x) (.int i) G Q:=by unfold ixU; dsimp only; rw [h]; exact ⟨h1,q⟩
theorem jfw (zs:List Str):(zs.map U.str).all flat=true:=by simp [flat]
theorem in_l {a:Addr}{ys:List U}{x:U}{G:Gp}{k:Bool->Prop}(g:G a=some (.lst ys))(h1:flat x=true)(h2:ys.all flat=true)(q:k (ys.any fun y=>eqF y x)):inU x (.loc a) G k:=by
 unfold inU; cases x <;> first | (dsimp only; rw [g]; exact ⟨h1,h2,q⟩) | cases h1
theorem jeJ {a:Addr}{xs:List U}{G:Gp}{Q:K1}(g:G a=some (.lst xs)):lenU [.loc a] G Q=Q (.int xs.length) G:=by unfold lenU; dsimp only; rw [g]
theorem jld {a:Addr}{xs:List U}{G:Gp}{Q:K1}(g:G a=some (.fro xs)):lenU [.loc a] G Q=Q (.int xs.length) G:=by unfold lenU; dsimp only; rw [g]
theorem it_l {a:Addr}{xs:List U}{G:Gp}{k:List U->(Gp->Prop)->Prop}(g:G a=some (.lst xs)):itU (.loc a) G k=k xs fun G'=>lsG G' a=some xs:=by unfold itU; dsimp only; have e:lsG G a=some xs:=(by unfold lsG; rw [g]); rw [e]
theorem jfO {a:Addr}{xs:List U}{v:U}{G:Gp}{Q:K1}(g:G a=some (.lst xs)):jbk .append (.loc a) [v] G Q=(xs.length < sizeLine/\putO G a (.lst (xs++[v])) (Q .non)):=by unfold jbk jd0; dsimp only; rw [g]
theorem jdc {a:Addr}{xs:List U}{G:Gp}(g:G a=some (.lst xs)):mtU .append (.loc a) G=some ("list", "list.append"):=by unfold mtU; dsimp only; rw [g]
theorem jkT {a:Addr}{xs:List U}{i:Int}{j:Nat}{v:U}{G:Gp}{Q:Gp->Prop}(g:G a=some (.lst xs))(h:ixN xs.length i=some j):setU (.loc a) (.int i) v G Q=putO G a (.lst (xs.set j v)) Q:=by unfold setU; dsimp only; rw [g]; dsimp only; rw [h]
theorem jfZ {a:Addr}{kvs:List (Key×U)}{x:Str}{v:U}{G:Gp}{Q:Gp->Prop}(g:G a=some (.dK kvs)):setU (.loc a) (.str x) v G Q=(kvs.length < sizeLine/\putO G a (.dK (dPut kvs (.inr x) v)) Q):=by unfold setU; dsimp only; rw [g]; rfl
theorem jh2 {n j:Nat}(h:j < n):ixN n (j:Int)=some j:=by unfold ixN; rw [if_pos (Int.natCast_nonneg j),if_pos (by exact_mod_cast h)]; simp
noncomputable def jgn:Nat->Ss->Ss
 | 0,s=>s
 | _ + 1,.nil=>.nil
 | n + 1,.cons _ r=>jgn n r
theorem dr_0 {s:Ss}:jgn 0 s=s:=rfl
theorem dr_s {n:Nat}{s:S}{r:Ss}:jgn (n + 1) (.cons s r)=jgn n r:=rfl
theorem pk_nil {ς:Sg}:ja9 [] ς=[]:=rfl
theorem jhu {ς:Sg}{r:List (Option Nat)}:ja9 (none::r) ς=none::ja9 r ς:=rfl
theorem jht {ς:Sg}{j:Nat}{r:List (Option Nat)}:ja9 (some j::r) ς=(ς[j]?).join::ja9 r ς:=rfl
theorem jl1 {x:Str}:kU (.str x)=some (.inr x):=rfl
theorem jl2 {i:Int}:kU (.int i)=some (.inl i):=rfl
theorem sl_f {a:Addr}{xs:List U}{lo hi:Option Int}{G:Gp}{Q:K1}(g:G a=some (.fro xs)):slU (.loc a) lo hi G Q=newO G (.lst (cut xs lo hi)) Q:=by unfold slU; dsimp only; have e:lsG G a=some xs:=(by unfold lsG; rw [g]); rw [e]
theorem jii {α β:Type}(f:α->β)(xs:List α)(lo hi:Option Int):cut (xs.map f) lo hi=(cut xs lo hi).map f:=by unfold cut; rw [List.length_map,<- List.map_drop,<- List.map_take]
theorem jdn {α:Type}(xs:List α)(n:Nat):cut xs none (some (n:Int))=xs.take n:=by
 unfold cut
 rw [HT.sIx_none,HT.sIx_nat,List.drop_zero,Nat.sub_zero,List.take_eq_take_iff]
 omega
theorem jer {α:Type}(xs:List α)(n:Nat):cut xs (some (n:Int)) none=xs.drop n:=by
 unfold cut
 rw [HT.sIx_none,HT.sIx_nat]
 by_cases h:n<=xs.length
 ·rw [Nat.min_eq_left h,List.take_of_length_le (by simp)]
 ·rw [Nat.min_eq_right (by omega),List.drop_of_length_le (Nat.le_refl _),List.drop_of_length_le (by omega),List.take_nil]
theorem jgl {G:Gp}{f c:Addr}{a l t:Int}{Q:K1}:ixU (.loc f) (.str "cells") (gup G f (.dK (fdU c a l t))) Q=Q (.loc c) (gup G f (.dK (fdU c a l t))):=ix_d jaq jh7
theorem jln {G:Gp}{f c:Addr}{a l t:Int}{Q:K1}:ixU (.loc f) (.str "at") (gup G f (.dK (fdU c a l t))) Q=Q (.int a) (gup G f (.dK (fdU c a l t))):=ix_d jaq g_at
theorem jh9 {G:Gp}{f c:Addr}{a l t:Int}{Q:K1}:ixU (.loc f) (.str "left") (gup G f (.dK (fdU c a l t))) Q=Q (.int l) (gup G f (.dK (fdU c a l t))):=ix_d jaq jjP
theorem jh8 {G:Gp}{f c:Addr}{a l t:Int}{Q:K1}:ixU (.loc f) (.str "turn") (gup G f (.dK (fdU c a l t))) Q=Q (.int t) (gup G f (.dK (fdU c a l t))):=ix_d jaq jgS
theorem jlo {G:Gp}{f c:Addr}{a l t x:Int}{Q:Gp->Prop}:setU (.loc f) (.str "at") (.int x) (gup G f (.dK (fdU c a l t))) Q=Q (gup G f (.dK (fdU c x l t))):=by rw [jfZ jaq,p_at,jcF,jdR]; exact propext ⟨fun h=>h.2,fun h=>⟨jeo,h⟩⟩
theorem jie {G:Gp}{f c:Addr}{a l t x:Int}{Q:Gp->Prop}:setU (.loc f) (.str "left") (.int x) (gup G f (.dK (fdU c a l t))) Q=Q (gup G f (.dK (fdU c a x t))):=by rw [jfZ jaq,jja,jcF,jdR]; exact propext ⟨fun h=>h.2,fun h=>⟨jeo,h⟩⟩
theorem jid {G:Gp}{f c:Addr}{a l t x:Int}{Q:Gp->Prop}:setU (.loc f) (.str "turn") (.int x) (gup G f (.dK (fdU c a l t))) Q=Q (gup G f (.dK (fdU c a l x))):=by rw [jfZ jaq,jgI,jcF,jdR]; exact propext ⟨fun h=>h.2,fun h=>⟨jeo,h⟩⟩
noncomputable abbrev jaO:Nat:=0
noncomputable abbrev jfi:Nat:=1
noncomputable abbrev jda:Nat:=2
noncomputable abbrev jbT:Nat:=3
noncomputable abbrev jaZ:Nat:=4
noncomputable abbrev jby:Nat:=5
noncomputable abbrev jbj:Nat:=6
noncomputable abbrev jco:Nat:=7
noncomputable abbrev jaa:Nat:=8
noncomputable abbrev jbU:Nat:=9
noncomputable abbrev jbV:Nat:=10
noncomputable abbrev jaW:Nat:=11
noncomputable abbrev jbv:Nat:=12
noncomputable abbrev jbW:Nat:=13
noncomputable abbrev jc8:Nat:=14
noncomputable abbrev jaR:Nat:=15
noncomputable abbrev ja5:Nat:=16
noncomputable abbrev jcn:Nat:=17
noncomputable abbrev jc9:Nat:=18
noncomputable abbrev jeE:Nat:=19
noncomputable def jb4:Fun:=⟨"length_of",["plan", "period", "beats", "s"],["plan", "period", "beats", "s", "word", "one", "other", "low", "high"],
  (.cons (.asg (.t (.cons (.n 4) (.cons (.n 5) (.cons (.n 6) (.cons (.n 7) (.cons (.n 8) .nil)))))) (.ix (.ix (.v 0) (.int 1)) (.v 3)))
  (.cons (.ret (.bin .Add (.v 7) (.bin .Mod (.bin .Sub (.bin .Sub (.ix (.v 2) (.v 6)) (.ix (.v 2) (.v 5))) (.v 7)) (.v 1))))
  .nil))⟩
noncomputable def jfB:Fun:=⟨"step_of",["plan", "period", "beats", "s"],["plan", "period", "beats", "s", "word", "one", "other", "low", "high"],
  (.cons (.asg (.t (.cons (.n 4) (.cons (.n 5) (.cons (.n 6) (.cons (.n 7) (.cons (.n 8) .nil)))))) (.ix (.ix (.v 0) (.int 1)) (.v 3)))
  (.cons (.ret (.bin .FloorDiv (.bin .Sub (.bin .Add (.ix (.v 2) (.v 5)) (.call jaO (.cons (.v 0) (.cons (.v 1) (.cons (.v 2) (.cons (.v 3) .nil)))))) (.ix (.v 2) (.v 6))) (.v 1)))
  .nil))⟩
noncomputable def jdm:Fun:=⟨"ends_of",["plan", "entry"],["plan", "entry", "s", "way", "word", "one", "other", "low", "high"],
  (.cons (.ite (.cmp .Eq (.blt .len (.cons (.v 1) .nil)) (.int 3)) (.cons (.ret (.tup (.cons (.ix (.v 1) (.int 1)) (.cons (.ix (.v 1) (.int 2)) .nil))))
  .nil) .nil)
  (.cons (.asg (.t (.cons (.n 2) (.cons (.n 3) .nil))) (.v 1))
  (.cons (.asg (.t (.cons (.n 4) (.cons (.n 5) (.cons (.n 6) (.cons (.n 7) (.cons (.n 8) .nil)))))) (.ix (.ix (.v 0) (.int 1)) (.v 2)))
  (.cons (.ret (.ife (.cmp .Eq (.v 3) (.int 1)) (.tup (.cons (.v 5) (.cons (.v 6) .nil))) (.tup (.cons (.v 6) (.cons (.v 5) .nil)))))
  .nil))))⟩
noncomputable def jb3:Fun:=⟨"rounds_in",["plan", "period", "beats", "ring"],["plan", "period", "beats", "ring"],
  (.cons (.ret (.bin .FloorDiv (.blt .sum (.cons (.lc [none,none,some 0,some 1,some 2] (.t (.cons (.n 0) (.cons (.n 1) .nil))) (.e (.v 3)) .nil (.bin .Mult (.v 1) (.call jaO (.cons (.v 2) (.cons (.v 3) (.cons (.v 4) (.cons (.v 0) .nil))))))) .nil)) (.v 1)))
  .nil)⟩
noncomputable def jct:Fun:=⟨"vehicles",["plan", "period", "beats", "ring"],["plan", "period", "beats", "ring", "many"],
  (.cons (.ite (.blt .any (.cons (.lc [none,none] (.t (.cons (.n 0) (.cons (.n 1) .nil))) (.e (.v 3)) .nil (.cmp .Eq (.v 1) (.neg (.int 1)))) .nil)) (.cons (.raise 3 (.cons (.str "back") .nil))
  .nil) .nil)
  (.cons (.asg (.n 4) (.call jbT (.cons (.v 0) (.cons (.v 1) (.cons (.v 2) (.cons (.v 3) .nil))))))
  (.cons (.ite (.cmp .Eq (.v 4) (.int 0)) (.cons (.raise 3 (.cons (.str "none") .nil))
  .nil) .nil)
  (.cons (.ret (.v 4))
  .nil))))⟩
noncomputable def jbA:Fun:=⟨"vehicle_at",["plan", "period", "beats", "ring", "place", "turn"],["plan", "period", "beats", "ring", "place", "turn", "many", "ahead"],
  (.cons (.asg (.n 6) (.call jaZ (.cons (.v 0) (.cons (.v 1) (.cons (.v 2) (.cons (.v 3) .nil))))))
  (.cons (.asg (.n 7) (.blt .sum (.cons (.lc [none,none,some 0,some 1,some 2] (.t (.cons (.n 0) (.cons (.n 1) .nil))) (.e (.sl (.v 3) .no (.so (.v 4)))) .nil (.call jfi (.cons (.v 2) (.cons (.v 3) (.cons (.v 4) (.cons (.v 0) .nil)))))) .nil)))
  (.cons (.ret (.bin .Mod (.bin .Sub (.v 5) (.v 7)) (.v 6)))
  .nil)))⟩
noncomputable def jbn:Fun:=⟨"vehicle_row",["plan", "period", "beats", "ring", "vehicle", "many"],["plan", "period", "beats", "ring", "vehicle", "many", "start", "end", "beat", "row", "at", "place"],
  (.cons (.expr (.call jaZ (.cons (.v 0) (.cons (.v 1) (.cons (.v 2) (.cons (.v 3) .nil))))))
  (.cons (.asg (.t (.cons (.n 6) (.cons (.n 7) .nil))) (.call jda (.cons (.v 0) (.cons (.ix (.v 3) (.int 0)) .nil))))
  (.cons (.asg (.n 8) (.bin .Add (.ix (.v 2) (.v 6)) (.bin .Mult (.v 4) (.v 1))))
  (.cons (.asg (.n 9) (.lst .nil))
  (.cons (.fr (.n 10) (.r1 (.v 5)) (.cons (.asg (.n 11) (.bin .Mod (.v 10) (.blt .len (.cons (.v 3) .nil))))
  (.cons (.expr (.meth .append (.v 9) (.cons (.tup (.cons (.v 8) (.cons (.v 11) .nil))) .nil)))
  (.cons (.aug 8 .Add (.call jaO (.cons (.v 0) (.cons (.v 1) (.cons (.v 2) (.cons (.ix (.ix (.v 3) (.v 11)) (.int 0)) .nil))))))
  .nil))))
  (.cons (.ret (.v 9))
  .nil))))))⟩
noncomputable def jcw:Fun:=⟨"_law_feed",["_law_script"],["_law_script"],
  (.cons (.ret (.dic (.cons (.str "cells") (.cons (.bin .Add (.mkL (.sl (.v 0) .no (.so (.int 63)))) (.bin .Mult (.lst (.cons (.int 0) .nil)) (.blt .int (.cons (.cmp .Eq (.blt .len (.cons (.v 0) .nil)) (.int 0)) .nil)))) (.cons (.str "at") (.cons (.int 0) (.cons (.str "left") (.cons (.int 0) (.cons (.str "turn") (.cons (.int 0) .nil))))))))))
  .nil)⟩
noncomputable def jcx:Fun:=⟨"_law_draw",["_law_feed_here", "_law_many"],["_law_feed_here", "_law_many", "_law_cell", "_law_mixed", "_law_found"],
  (.cons (.setS (.v 0) (.str "turn") (.bin .Add (.ix (.v 0) (.str "turn")) (.int 1)))
  (.cons (.ite (.cmp .Eq (.ix (.v 0) (.str "left")) (.int 0)) (.cons (.asg (.n 2) (.ix (.ix (.v 0) (.str "cells")) (.bin .Mod (.ix (.v 0) (.str "at")) (.blt .len (.cons (.ix (.v 0) (.str "cells")) .nil)))))
  (.cons (.setS (.v 0) (.str "at") (.bin .Add (.ix (.v 0) (.str "at")) (.int 1)))
  (.cons (.ite (.cmp .Lt (.v 2) (.bin .Pow (.int 10) (.int 18))) (.cons (.asg (.n 3) (.bin .Mod (.bin .Mult (.bin .Add (.bin .Mod (.v 2) (.int 2147483629)) (.bin .Mult (.int 1013) (.ix (.v 0) (.str "turn")))) (.int 48271)) (.int 2147483647)))
  (.cons (.asg (.n 3) (.bin .Mod (.bin .Mult (.bin .Add (.bin .FloorDiv (.v 3) (.int 64)) (.bin .Mult (.int 41) (.ix (.v 0) (.str "turn")))) (.int 69621)) (.int 2147483587)))
  (.cons (.ret (.bin .Mod (.bin .FloorDiv (.v 3) (.int 64)) (.v 1)))
  .nil))) .nil)
  (.cons (.setS (.v 0) (.str "left") (.v 2))
  .nil)))) .nil)
  (.cons (.asg (.n 4) (.bin .Mod (.ix (.v 0) (.str "left")) (.v 1)))
  (.cons (.setS (.v 0) (.str "left") (.bin .FloorDiv (.ix (.v 0) (.str "left")) (.v 1)))
  (.cons (.ret (.v 4))
  .nil)))))⟩
noncomputable def jb5:Fun:=⟨"_law_names",["_law_feed_here", "_law_many"],["_law_feed_here", "_law_many", "_law_menu", "_law_first", "_law_step", "_law_names_here", "_law_signs"],
  (.cons (.asg (.n 2) (.lst (.cons (.str "a") (.cons (.str "ab") (.cons (.str "abc") (.cons (.str "works") (.cons (.str "span") (.cons (.str "apart") (.cons (.str "none") (.cons (.str "round") (.cons (.str "held") (.cons (.str "zzzzzzzz") (.cons (.str "undo") (.cons (.str "b") (.cons (.str "ba") (.cons (.str "plan") .nil))))))))))))))))
  (.cons (.expr (.meth .append (.v 2) (.cons (.str "x") .nil)))
  (.cons (.asg (.n 3) (.call jaa (.cons (.v 0) (.cons (.int 15) .nil))))
  (.cons (.asg (.n 4) (.ix (.lst (.cons (.int 1) (.cons (.int 2) (.cons (.int 4) (.cons (.int 7) (.cons (.int 8) (.cons (.int 11) (.cons (.int 13) (.cons (.int 14) .nil))))))))) (.call jaa (.cons (.v 0) (.cons (.int 8) .nil)))))
  (.cons (.asgC 5 (.lc [none,some 2,some 3,some 4] (.n 0) (.r1 (.v 1)) .nil (.ix (.v 1) (.bin .Mod (.bin .Add (.v 2) (.bin .Mult (.v 3) (.v 0))) (.int 15)))))
  (.cons (.ite (.cmp .Eq (.call jaa (.cons (.v 0) (.cons (.int 3) .nil))) (.int 0)) (.cons (.asgC 6 (.lc [none,some 0] (.n 0) (.r1 (.bin .Add (.int 1) (.call jaa (.cons (.v 0) (.cons (.int 8) .nil))))) .nil (.ix (.str "abcdefghijklmnopqrstuvwxyz") (.call jaa (.cons (.v 1) (.cons (.int 26) .nil))))))
  (.cons (.ite (.cmp .NotIn (.meth .join (.str "") (.cons (.v 6) .nil)) (.v 5)) (.cons (.setS (.v 5) (.call jaa (.cons (.v 0) (.cons (.v 1) .nil))) (.meth .join (.str "") (.cons (.v 6) .nil)))
  .nil) .nil)
  .nil)) .nil)
  (.cons (.ret (.mkT (.v 5)))
  .nil)))))))⟩
noncomputable def jb6:Fun:=⟨"_law_cycle",["_law_feed_here"],["_law_feed_here"],
  (.cons (.ret (.ix (.lst (.cons (.int 1) (.cons (.int 2) (.cons (.int 3) (.cons (.int 4) (.cons (.int 5) (.cons (.int 6) (.cons (.int 7) (.cons (.int 8) (.cons (.int 10) (.cons (.int 12) (.cons (.int 30) (.cons (.int 60) (.cons (.int 120) (.cons (.int 600) .nil))))))))))))))) (.call jaa (.cons (.v 0) (.cons (.int 14) .nil)))))
  .nil)⟩
noncomputable def jbB:Fun:=⟨"_law_number",["_law_feed_here", "_law_cycle_here"],["_law_feed_here", "_law_cycle_here", "_law_way"],
  (.cons (.asg (.n 2) (.call jaa (.cons (.v 0) (.cons (.int 6) .nil))))
  (.cons (.ite (.cmp .Lt (.v 2) (.int 3)) (.cons (.ret (.call jaa (.cons (.v 0) (.cons (.bin .Add (.v 1) (.int 1)) .nil))))
  .nil) .nil)
  (.cons (.ite (.cmp .Eq (.v 2) (.int 3)) (.cons (.ret (.ix (.lst (.cons (.int 0) (.cons (.int 1) (.cons (.v 1) (.cons (.bin .Sub (.bin .Mult (.int 2) (.v 1)) (.int 1)) (.cons (.bin .Mult (.int 2) (.v 1)) .nil)))))) (.call jaa (.cons (.v 0) (.cons (.int 5) .nil)))))
  .nil) .nil)
  (.cons (.ret (.call jaa (.cons (.v 0) (.cons (.ix (.lst (.cons (.bin .Add (.bin .Mult (.int 3) (.v 1)) (.int 1)) (.cons (.int 10000) .nil))) (.bin .Sub (.v 2) (.int 4))) .nil))))
  .nil))))⟩
noncomputable def jcv:Fun:=⟨"_law_span",["_law_feed_here", "_law_one", "_law_other", "_law_cycle_here"],["_law_feed_here", "_law_one", "_law_other", "_law_cycle_here", "_law_low", "_law_more"],
  (.cons (.asg (.n 4) (.call jaW (.cons (.v 0) (.cons (.v 3) .nil))))
  (.cons (.ite (.cmp .Eq (.call jaa (.cons (.v 0) (.cons (.int 4) .nil))) (.int 0)) (.cons (.ret (.tup (.cons (.str "apart") (.cons (.v 1) (.cons (.v 2) (.cons (.v 4) (.cons (.call jaW (.cons (.v 0) (.cons (.v 3) .nil))) .nil)))))))
  .nil) .nil)
  (.cons (.asg (.n 5) (.ix (.lst (.cons (.int 0) (.cons (.int 0) (.cons (.int 1) (.cons (.int 2) (.cons (.bin .FloorDiv (.v 3) (.int 2)) (.cons (.bin .Sub (.v 3) (.int 1)) (.cons (.bin .Mult (.int 3) (.v 3)) (.cons (.int 9999) .nil))))))))) (.call jaa (.cons (.v 0) (.cons (.int 8) .nil)))))
  (.cons (.ret (.tup (.cons (.str "span") (.cons (.v 1) (.cons (.v 2) (.cons (.v 4) (.cons (.blt .min (.cons (.int 9999) (.cons (.bin .Add (.v 4) (.v 5)) .nil))) .nil)))))))
  .nil))))⟩
noncomputable def jb7:Fun:=⟨"_law_beats",["_law_feed_here", "_law_works", "_law_cycle_here"],["_law_feed_here", "_law_works", "_law_cycle_here"],
  (.cons (.ret (.mkT (.lc [none,some 0,some 2] (.n 0) (.r1 (.v 1)) .nil (.call jaa (.cons (.v 1) (.cons (.v 2) .nil))))))
  .nil)⟩
noncomputable def jdk:Fun:=⟨"_law_leg",["_law_plan", "_law_cycle_here", "_law_beats_here", "_law_s"],["_law_plan", "_law_cycle_here", "_law_beats_here", "_law_s", "_law_word", "_law_one", "_law_other", "_law_low", "_law_high", "_law_step"],
  (.cons (.asg (.t (.cons (.n 4) (.cons (.n 5) (.cons (.n 6) (.cons (.n 7) (.cons (.n 8) .nil)))))) (.ix (.ix (.v 0) (.int 1)) (.v 3)))
  (.cons (.asg (.n 9) (.bin .Sub (.int 0) (.bin .FloorDiv (.bin .Sub (.bin .Sub (.ix (.v 2) (.v 6)) (.ix (.v 2) (.v 5))) (.v 7)) (.v 1))))
  (.cons (.ret (.tup (.cons (.v 9) (.cons (.bin .Sub (.bin .Sub (.bin .Add (.ix (.v 2) (.v 6)) (.bin .Mult (.v 9) (.v 1))) (.ix (.v 2) (.v 5))) (.v 7)) .nil))))
  .nil)))⟩
noncomputable def jat:Ss:=
  (.cons (.asg (.n 6) (.bin .Mult (.mkT (.v 6)) (.ix (.lst (.cons (.int 1) (.cons (.int 1) (.cons (.int 1) (.cons (.int 2) (.cons (.int 9) .nil)))))) (.call jaa (.cons (.v 0) (.cons (.int 5) .nil))))))
  (.cons (.ret (.tup (.cons (.tup (.cons (.call jbU (.cons (.v 0) (.cons (.v 2) .nil))) (.cons (.mkT (.v 4)) .nil))) (.cons (.v 1) (.cons (.call jbW (.cons (.v 0) (.cons (.v 2) (.cons (.v 1) .nil)))) (.cons (.v 6) .nil))))))
  .nil))
noncomputable def jaf:Ss:=
  (.cons (.expr (.meth .append (.v 6) (.cons (.tup (.cons (.blt .len (.cons (.v 4) .nil)) (.cons (.int 1) .nil))) .nil)))
  (.cons (.expr (.meth .append (.v 4) (.cons (.call jbv (.cons (.v 0) (.cons (.ix (.v 7) (.int 0)) (.cons (.ix (.v 7) (.int 1)) (.cons (.v 1) .nil))))) .nil)))
  .nil))
noncomputable def jau:Ss:=
  (.cons (.asg (.n 6) (.lst .nil))
  (.cons (.fr (.n 5) (.r1 (.blt .len (.cons (.v 3) .nil))) (.cons (.asg (.n 7) (.tup (.cons (.ix (.v 3) (.v 5)) (.cons (.ix (.v 3) (.bin .Mod (.bin .Add (.v 5) (.int 1)) (.blt .len (.cons (.v 3) .nil)))) .nil))))
  (.cons (.asgC 8 (.lc [none,some 4,some 7] (.n 0) (.r1 (.blt .len (.cons (.v 4) .nil))) (.cons (.cmp .Eq (.sl (.ix (.v 1) (.v 0)) (.so (.int 1)) (.so (.int 3))) (.v 2)) .nil) (.v 0)))
  (.cons (.ite (.bop true (.cmp .NotEq (.v 8) (.lst .nil)) (.cons (.cmp .Eq (.call jaa (.cons (.v 0) (.cons (.int 2) .nil))) (.int 0)) .nil)) (.cons (.expr (.meth .append (.v 6) (.cons (.tup (.cons (.ix (.v 8) (.call jaa (.cons (.v 0) (.cons (.blt .len (.cons (.v 8) .nil)) .nil)))) (.cons (.int 1) .nil))) .nil)))
  .nil) jaf)
  .nil))))
  jat))
noncomputable def jaI:Ss:=
  (.cons (.asg (.n 4) (.lst .nil))
  (.cons (.fr (.n 5) (.r1 (.call jaa (.cons (.v 0) (.cons (.int 4) .nil)))) (.cons (.expr (.meth .append (.v 4) (.cons (.call jbv (.cons (.v 0) (.cons (.call jaa (.cons (.v 0) (.cons (.v 2) .nil))) (.cons (.call jaa (.cons (.v 0) (.cons (.v 2) .nil))) (.cons (.v 1) .nil))))) .nil)))
  .nil))
  jau))
noncomputable def jaS:Fun:=⟨"_law_ring_world",["_law_feed_here"],["_law_feed_here", "_law_cycle_here", "_law_works", "_law_stops", "_law_spans", "_law_k", "_law_ring", "_law_ends", "_law_fitting"],
  (.cons (.asg (.n 1) (.call jbV (.cons (.v 0) .nil)))
  (.cons (.asg (.n 2) (.bin .Add (.int 1) (.call jaa (.cons (.v 0) (.cons (.int 5) .nil)))))
  (.cons (.asgC 3 (.lc [none,some 0,some 2] (.n 0) (.r1 (.bin .Add (.int 1) (.call jaa (.cons (.v 0) (.cons (.int 6) .nil))))) .nil (.call jaa (.cons (.v 1) (.cons (.v 2) .nil)))))
  jaI)))⟩
noncomputable def ja8:Fun:=⟨"_law_vehicles",["_law_plan", "_law_cycle_here", "_law_beats_here", "_law_ring"],["_law_plan", "_law_cycle_here", "_law_beats_here", "_law_ring"],
  (.cons (.ret (.bin .FloorDiv (.blt .sum (.cons (.lc [none,none,some 0,some 1,some 2] (.t (.cons (.n 0) (.cons (.n 1) .nil))) (.e (.v 3)) .nil (.bin .Add (.ix (.ix (.ix (.v 2) (.int 1)) (.v 0)) (.int 3)) (.ix (.call jc8 (.cons (.v 2) (.cons (.v 3) (.cons (.v 4) (.cons (.v 0) .nil))))) (.int 1)))) .nil)) (.v 1)))
  .nil)⟩
noncomputable def jcu:Fun:=⟨"_law_told",["_law_way", "_law_world", "_law_ring"],["_law_way", "_law_world", "_law_ring", "_law_plan", "_law_cycle_here", "_law_beats_here", "_law_found", "e", "_law_others"],
  (.cons (.asg (.t (.cons (.n 3) (.cons (.n 4) (.cons (.n 5) .nil)))) (.v 1))
  (.cons (.asg (.n 6) .non)
  (.cons (.tr (.cons (.ite (.cmp .Eq (.v 0) (.int 0)) (.cons (.asg (.n 6) (.call jaZ (.cons (.v 3) (.cons (.v 4) (.cons (.v 5) (.cons (.v 2) .nil))))))
  .nil) (.cons (.ite (.cmp .Eq (.v 0) (.int 1)) (.cons (.asg (.n 6) (.call jby (.cons (.v 3) (.cons (.v 4) (.cons (.v 5) (.cons (.v 2) (.cons (.int 0) (.cons (.int 0) .nil))))))))
  .nil) (.cons (.asg (.n 6) (.call jbj (.cons (.v 3) (.cons (.v 4) (.cons (.v 5) (.cons (.v 2) (.cons (.int 0) (.cons (.int 0) .nil))))))))
  .nil))
  .nil))
  .nil) 0 7 [.asg 6 (.one (.str "other")),.asg 8 (.cond false (false,.isi [1,5,4,2]) [(true,.isiV)]),.ifa true (false,.is1 3) [(true,.v 8)] 6 (.lst [(.str "word"),(.att "word")])])
  (.cons (.ret (.v 6))
  .nil))))⟩
noncomputable def jdl:Fun:=⟨"_law_due",["_law_way", "_law_world", "_law_ring"],["_law_way", "_law_world", "_law_ring", "_law_plan", "_law_cycle_here", "_law_beats_here", "_law_many"],
  (.cons (.asg (.t (.cons (.n 3) (.cons (.n 4) (.cons (.n 5) .nil)))) (.v 1))
  (.cons (.ite (.cmp .NotEq (.lc [none] (.n 0) (.e (.v 2)) (.cons (.cmp .NotEq (.ix (.v 0) (.int 1)) (.int 1)) .nil) (.v 0)) (.lst .nil)) (.cons (.ret (.lst (.cons (.str "word") (.cons (.str "back") .nil))))
  .nil) .nil)
  (.cons (.asg (.n 6) (.call ja5 (.cons (.v 3) (.cons (.v 4) (.cons (.v 5) (.cons (.v 2) .nil))))))
  (.cons (.ret (.ife (.cmp .Eq (.v 6) (.int 0)) (.lst (.cons (.str "word") (.cons (.str "none") .nil))) (.ix (.lst (.cons (.v 6) (.cons (.int 0) (.cons (.lst .nil) .nil)))) (.v 0))))
  .nil))))⟩
noncomputable def jbq:Ss:=
  (.cons (.fr (.n 13) (.e (.lst (.cons (.v 6) (.cons (.v 10) (.cons (.v 6) (.cons (.v 11) (.cons (.bin .Add (.sl (.v 6) (.so (.v 8)) .no) (.sl (.v 6) .no (.so (.v 8)))) .nil))))))) (.cons (.fr (.n 14) (.r1 (.int 3)) (.cons (.asg (.n 15) (.call jcn (.cons (.v 14) (.cons (.tup (.cons (.v 3) (.cons (.v 4) (.cons (.v 5) .nil)))) (.cons (.v 13) .nil)))))
  (.cons (.ite (.cmp .NotEq (.blt .repr (.cons (.v 15) .nil)) (.blt .repr (.cons (.call jc9 (.cons (.v 14) (.cons (.tup (.cons (.v 3) (.cons (.v 4) (.cons (.v 5) .nil)))) (.cons (.v 13) .nil)))) .nil))) (.cons (.ret (.bl false))
  .nil) .nil)
  .nil)))
  .nil))
  (.cons (.ite (.cmp .NotEq (.blt .repr (.cons (.tup (.cons (.v 3) (.cons (.v 5) (.cons (.v 6) .nil)))) .nil)) (.v 12)) (.cons (.ret (.bl false))
  .nil) .nil)
  .nil))
noncomputable def jck:Ss:=
  (.cons (.asg (.n 12) (.blt .repr (.cons (.tup (.cons (.v 3) (.cons (.v 5) (.cons (.v 6) .nil)))) .nil)))
  jbq)
noncomputable def jbr:Ss:=
  (.cons (.asg (.n 8) (.call jaa (.cons (.v 1) (.cons (.blt .len (.cons (.v 6) .nil)) .nil))))
  (.cons (.asg (.n 9) (.ix (.ix (.v 6) (.v 8)) (.int 0)))
  (.cons (.asg (.n 10) (.bin .Add (.bin .Add (.sl (.v 6) .no (.so (.v 8))) (.tup (.cons (.tup (.cons (.v 9) (.cons (.int 1) .nil))) (.cons (.tup (.cons (.v 9) (.cons (.neg (.int 1)) .nil))) .nil)))) (.sl (.v 6) (.so (.v 8)) .no)))
  (.cons (.asg (.n 11) (.mkT (.lc [none,none] (.t (.cons (.n 0) (.cons (.n 1) .nil))) (.e (.rev (.v 6) (.neg (.int 1)))) .nil (.tup (.cons (.v 0) (.cons (.bin .Sub (.int 0) (.v 1)) .nil))))))
  jck))))
noncomputable def jcl:Ss:=
  (.cons (.ite (.cmp .Eq (.call jaa (.cons (.v 1) (.cons (.int 3) .nil))) (.int 0)) (.cons (.asg (.n 7) (.mkT (.lc [none,none,none,none,none] (.t (.cons (.n 0) (.cons (.n 1) (.cons (.n 2) (.cons (.n 3) (.cons (.n 4) .nil)))))) (.e (.ix (.v 3) (.int 1))) .nil (.tup (.cons (.str "span") (.cons (.v 1) (.cons (.v 2) (.cons (.int 0) (.cons (.v 4) .nil)))))))))
  (.cons (.par [3,5] (.cons (.tup (.cons (.ix (.v 3) (.int 0)) (.cons (.v 7) .nil))) (.cons (.bin .Mult (.tup (.cons (.ix (.v 5) (.int 0)) .nil)) (.blt .len (.cons (.v 5) .nil))) .nil)))
  .nil)) .nil)
  jbr)
noncomputable def jbs:Ss:=
  (.cons (.asg (.t (.cons (.n 3) (.cons (.n 4) (.cons (.n 5) (.cons (.n 6) .nil))))) (.call jaR (.cons (.v 1) .nil)))
  jcl)
noncomputable def jeY:Ss:=
  (.cons (.fr (.n 2) (.r1 (.int 4)) jbs)
  (.cons (.ret (.bl true))
  .nil))
noncomputable def jgp:Fun:=⟨"law",["_law_script"],["_law_script", "_law_feed_here", "_law_k", "_law_plan", "_law_cycle_here", "_law_beats_here", "_law_ring", "_law_spans", "_law_at", "_law_s", "_law_back", "_law_turned", "_law_kept", "_law_some", "_law_way", "_law_found"],
  (.cons (.asg (.n 1) (.call jco (.cons (.v 0) .nil)))
  jeY)⟩
noncomputable def T:Tab:=⟨[jb4,jfB,jdm,jb3,jct,jbA,jbn,jcw,jcx,jb5,jb6,jbB,jcv,jb7,jdk,jaS,ja8,jcu,jdl,jgp],[],[],[1,2,3,4,5]⟩
def top (i:Nat):Stmt:=PySem.Challenge.pw_beatplans_k73_rings_that_are_refused.main.body.getD i (.Pass ⟨0,0,0,0⟩)
noncomputable abbrev s_length_of:Stmt:=top 8
noncomputable abbrev s_step_of:Stmt:=top 10
noncomputable abbrev s_ends_of:Stmt:=top 12
noncomputable abbrev s_rounds_in:Stmt:=top 13
noncomputable abbrev s_vehicles:Stmt:=top 15
noncomputable abbrev s_vehicle_at:Stmt:=top 16
noncomputable abbrev s_vehicle_row:Stmt:=top 17
noncomputable abbrev s_law_feed:Stmt:=top 19
noncomputable abbrev s_law_draw:Stmt:=top 20
noncomputable abbrev s_law_names:Stmt:=top 21
noncomputable abbrev s_law_cycle:Stmt:=top 22
noncomputable abbrev s_law_number:Stmt:=top 23
noncomputable abbrev s_law_span:Stmt:=top 24
noncomputable abbrev s_law_beats:Stmt:=top 25
noncomputable abbrev s_law_leg:Stmt:=top 26
noncomputable abbrev s_law_ring_world:Stmt:=top 27
noncomputable abbrev s_law_vehicles:Stmt:=top 28
noncomputable abbrev s_law_told:Stmt:=top 29
noncomputable abbrev s_law_due:Stmt:=top 30
noncomputable abbrev s_law:Stmt:=top 31
local macro_rules
 | `(tactic| simp! only [$xs,*])=>`(tactic| try simp only [D_v,T_v,jmd,D_bl,jmj,jmb,jmo,jlT,jme,jmm,jlR,jma,jmh,jml,D_ix,T_ix,D_sl,jmc,jkl,jj8,jmn,jlS,jkk,D_lc,jmi,jlP,jmg,jmf,jmk,jlQ,jkm,jmp,D_or,jlU,T_or,O_no,O_so,jms,jkp,jmq,jkn,jl0,jkc,I_e,I_r1,I_dk,jka,jlZ,jkb,jj9,jlW,jlY,jlX,S_fr,jlV,jin,S_tr,jmr,jko,jlO,jlN,jj6,jlI,jlL,jj4,jj3,jj5,jlM,jlJ,jlK,jlH,jlD,jlF,jlB,W_lt,jlA,jlE,jj0,jlC,jlG,jlz,Y_bl,jlv,jlw,jlu,jl3,jlx,jl7,jke,jl6,jl5,jl9,jl8,jly,jj7,jj2,jj1,jkh,jkf,jkg,jkj,jki,G_n,G_t,jl4,jkd,sl_0,sl_s,dr_0,dr_s,pk_nil,jhu,jht,jl1,jl2,jgl,jln,jh9,jh8,jlo,jie,jid,List.map_cons,List.map_nil,List.cons_append,List.nil_append,List.length_cons,List.length_nil,List.set_cons_zero,List.set_cons_succ,List.zip_cons_cons,List.zip_nil_right,List.zip_nil_left,List.foldl_cons,List.foldl_nil,List.getElem?_cons_zero,List.getElem?_cons_succ,Option.join_some,ite_true,ite_false,Bool.false_eq_true,Int.toNat_natCast,$xs,*])
set_option maxHeartbeats 1000000
section
variable {k:Nat}{G:Gp}{Q:K1}{X:KX}
theorem jag {f c:Addr}{m:Int}(hf:Fd G f c)(h0:0 < m)(h1:m < 1000000000)(q:∀ (r:Int) (G':Gp),0<=r->r < m->Fd G' f c->Sm f G G'->Q (.int r) G'):jab T (k + 1) jaa [.loc f,.int m] G Q X:=by
 obtain ⟨ns,a,l,t,g1,g2,hn⟩:=hf.ex
 have fin:∀ (z a' l' t':Int),Q (.int (z % m)) (gup G f (.dK (fdU c a' l' t'))):=fun z a' l' t'=>q _ _ (Int.emod_nonneg z (by omega)) (Int.emod_lt_of_pos z h0) (Fd.put ⟨rfl⟩ g1 g2 hn) Sm.put
 have hlen:0 < ns.length:=List.length_pos_iff.mpr hn
 have gc:∀ kvs,gup G f (.dK kvs) c=some (.lst (ns.map .int)):=fun kvs=>by rw [jaX (fun z=>by rw [z,g1] at g2; cases g2)]; exact g2
 obtain ⟨z,hz,ez⟩:=jdu (l:=ns) (r:=a % ns.length) (Int.emod_nonneg _ (by omega)) (Int.emod_lt_of_pos _ (by omega))
 refine ⟨rfl,?_⟩
 simp! only [jcx,jan,List.replicate,ix_d g1 jgS,jfZ g1,jcF,jgI,jeo,true_and,jeJ (gc _),List.length_map,ix_l (gc _) ((jcS U.int ns _).trans (congrArg _ ez))]
 have cut:∀ (l' a' t':Int),(0 < m/\0 < m/\m < 1073741824/\Q (.int (l' % m)) (gup G f (.dK (fdU c a' (l' / m) t')))):=fun l' a' t'=>⟨h0,h0,by omega,fin _ _ _ _⟩
 by_cases hl:l=0
 ·rw [if_pos (by simpa using hl)]
  refine ⟨by omega,by constructor <;> decide,?_⟩
  by_cases hc:z < 10 ^ Int.toNat 18
  ·rw [if_pos (by simpa using hc)]
   exact ⟨by decide,.inl (by decide),.inr (by decide),by decide,by decide,by decide,.inl (by decide),.inr (by decide),by decide,by decide,by decide,h0,fin _ _ _ _⟩
  ·rw [if_neg (by simpa using hc)]
   exact cut _ _ _
 ·rw [if_neg (by simpa using hl)]
  exact cut _ _ _
theorem jhO {a:Addr}{ns:List Int}(ha:G a=some (.fro (ns.map .int)))(hl:ns.length<=63)(q:∀ (f c:Addr) (G':Gp),Fd G' f c->Q (.loc f) G'):jab T (k + 1) jco [.loc a] G Q X:=by
 have hcl:(cut ns none (some 63)).length<=63:=by rw [show (63:Int)=((63:Nat):Int) from rfl,jdn]; simp; omega
 refine ⟨rfl,?_⟩
 simp! only [jcw,jan,List.replicate,sl_f ha,jii]
 intro p1 G1 n1
 rw [it_l n1.at]
 intro p2 G2 n2
 refine ⟨by decide,fun p3 G3 n3=>?_⟩
 simp! only [jld (n3.sa _ _ (n2.sa _ _ (n1.sa _ _ ha)))]
 obtain ⟨zs,ez,lz,hz⟩:∃ zs:List Int,(List.replicate (Int.toNat (if decide (((ns.map U.int).length:Int)=0)=true then 1 else 0)) [U.int 0]).flatten=zs.map U.int/\zs.length<=1/\(ns=[]->zs≠[]):=by
  by_cases h:ns=[]
  ·subst h
   exact ⟨[0],rfl,by decide,fun _=>by simp⟩
  ·refine ⟨[],?_,by decide,fun z=>absurd z h⟩
   rw [if_neg (by simpa using h)]
   rfl
 refine ⟨_,n3.at,by split <;> decide,by split <;> decide,by split <;> decide,fun p4 G4 n4=>?_⟩
 rw [ez] at n4
 refine ⟨_,_,n4.sa _ _ (n3.sa _ _ n2.at),n4.at,?_,fun p5 G5 n5=>⟨by decide,fun p6 G6 n6=>?_⟩⟩
 ·rw [List.length_map,List.length_map]
  exact Nat.le_trans (Nat.add_le_add hcl lz) (by decide:63 + 1<=sizeLine)
 rw [jjw] at n6
 rw [<- List.map_append] at n5
 refine q _ p5 _ ⟨_,0,0,0,n6.at,n6.sa _ _ n5.at,fun z=>?_⟩
 obtain ⟨z1,z2⟩:=List.append_eq_nil_iff.mp z
 refine hz ?_ z2
 rw [show (63:Int)=((63:Nat):Int) from rfl,jdn] at z1
 cases ns with
 | nil=>rfl
 | cons _ _=>cases z1
end

set_option maxHeartbeats 2000000
structure Nm (x:Str):Prop where
 l8:x.length<=8
 ch:∀ c∈x.cps.toList,c < 128
noncomputable def menu:List Str:=["a", "ab", "abc", "works", "span", "apart", "none", "round", "held", "zzzzzzzz", "undo", "b", "ba", "plan", "x"]
theorem jhT:∀ x∈menu,Nm x:=by
 have h:∀ x∈menu,x.length<=8/\∀ c∈x.cps.toList,c < 128:=by decide +kernel
 exact fun x hx=>⟨(h x hx).1,(h x hx).2⟩
section
variable {k:Nat}{G:Gp}{Q:K1}{X:KX}
theorem jgc {f c:Addr}{m:Nat}(hf:Fd G f c)(h0:0 < m)(h1:m<=8)(q:∀ (xs:List Str) (G':Gp),xs.length=m->(∀ x∈xs,Nm x)->Fd G' f c->Sm f G G'->Q (.tup (xs.map .str)) G'):jab T (k + 2) jbU [.loc f,.int m] G Q X:=by
 refine ⟨rfl,?_⟩
 simp! only [jb5,jan,List.replicate]
 refine ⟨by decide,fun p G1 n1=>?_⟩
 simp! only [jdc n1.at,jfO n1.at]
 refine ⟨by decide,fun G2 p2=>?_⟩
 have hp:=hf.away n1
 have f2:=(hf.new n1).off hp p2
 have s2:Sm f G G2:=Sm.wr Sm.refl n1.no n1.sa.sm p2
 have g2:G2 p=some (.lst (menu.map .str)):=p2.at
 refine jag f2 (by decide) (by decide) fun first G3 a3 b3 f3 s3=>?_
 have g3:=s3 _ _ hp.1 g2
 refine ⟨by decide,fun p4 G4 n4=>jag (f3.new n4) (by decide) (by decide) fun r5 G5 a5 b5 f5 s5=>?_⟩
 have g5:=s5 _ _ hp.1 (n4.sa _ _ g3)
 refine ja1 [1,2,4,7,8,11,13,14] (s5 _ _ (f3.away n4).1 n4.at) a5 b5 fun step hs=>?_
 have s5':=(s2.trans s3).nw n4 |>.trans s5
 refine ⟨by omega,by omega,by rw [jaz]; exact Nat.le_trans h1 (by decide),?_⟩
 have fin:∀ (xs:List Str) (p6:Addr) (G6:Gp),xs.length=m->(∀ x∈xs,Nm x)->Fd G6 f c->Sm f G G6->G6 p6=some (.lst (xs.map .str))->itU (.loc p6) G6 fun xs _=>Q (.tup xs) G6:=fun xs p6 G6 e1 e2 e3 e4 e5=>by
  rw [it_l e5]
  exact q xs G6 e1 e2 e3 e4
 refine jaC (fun i acc G'=>G'=G5/\∃ xs:List Str,acc=xs.map .str/\xs.length=i/\∀ x∈xs,Nm x) ?_ ?_ ⟨rfl,[],rfl,rfl,fun _ h=>nomatch h⟩
 ·rintro acc G' ⟨rfl,xs,rfl,hl,hx⟩
  rw [jaz] at hl
  refine ⟨trivial,fun p6 G6 n6=>?_⟩
  have f6:=f5.new n6
  have h6:=f5.away n6
  have s6:=s5'.nw n6
  refine jag f6 (by decide) (by decide) fun r7 G7 a7 b7 f7 s7=>?_
  have g7:=s7 _ _ h6.1 n6.at
  simp! only []
  by_cases hr:r7=0
  ·rw [if_pos (by simpa using hr)]
   refine jag f7 (by decide) (by decide) fun r8 G8 a8 b8 f8 s8=>?_
   have g8:=s8 _ _ h6.1 g7
   simp! only []
   refine ⟨by omega,by omega,by rw [jaz]; exact Nat.le_trans (by omega:(1 + r8).toNat<=8) (by decide),?_⟩
   refine jaC (fun i acc G'=>Fd G' f c/\Sm f G8 G'/\∃ zs:List Str,acc=zs.map .str/\zs.length=i/\∀ x∈zs,x.length=1/\∀ c∈x.cps.toList,c < 128) ?_ ?_ ⟨f8,Sm.refl,[],rfl,rfl,fun _ h=>nomatch h⟩
   ·rintro acc G9 ⟨f9,s9,zs,rfl,lz,hz⟩
    rw [jaz] at lz
    refine ⟨trivial,fun pa Ga na=>?_⟩
    have fa:=f9.new na
    have ga:=na.sa _ _ (s9 _ _ h6.1 g8)
    have sa:=(s6.trans (s7.trans (s8.trans s9))).nw na
    have hnew:Nm (Str.join "" zs):=by
     refine ⟨?_,fun c hc=>?_⟩
     ·rw [ja7 zs fun t ht=>(hz t ht).1]; omega
     ·obtain ⟨t,ht,hd⟩:=(jcf zs c).mp hc
      exact (hz t ht).2 c hd
    have hsum:(zs.map (·.length)).sum + zs.length<=1048576:=by
     have:∀ l:List Str,(∀ x∈l,x.length=1)->(l.map (·.length)).sum=l.length:=fun l=>by
      induction l with
      | nil=>intro _; rfl
      | cons x r ih=>
       intro h
       rw [List.map_cons,List.sum_cons,List.length_cons,ih fun y hy=>h y (List.mem_cons_of_mem _ hy),h x (by simp)]
       omega
     rw [this zs fun t ht=>(hz t ht).1]; omega
    simp! only [mt_join,jjG na.at]
    refine ⟨by decide,hsum,in_l ga rfl (jfw _) ?_⟩
    split
    ·refine ⟨by decide,hsum,jag fa (by omega) (by omega) fun r G' a' b' f' s'=>?_⟩
     have g':=s' _ _ h6.1 ga
     rw [jkT g' (show ixN _ r=some r.toNat from by
      rw [List.length_map]
      obtain ⟨j,rfl⟩:=Int.eq_ofNat_of_zero_le a'
      exact jh2 (by omega))]
     intro Gb pb
     have e:(xs.map U.str).set r.toNat (.str (Str.join "" zs))=(xs.set r.toNat (Str.join "" zs)).map .str:=by rw [List.map_set]
     rw [e] at pb
     refine fin _ p6 Gb (by rw [List.length_set]; exact hl) (fun x hx'=>?_) (f'.off h6 pb) (Sm.wr s5' n6.no (sa.trans s') pb) pb.at
     rcases List.mem_or_eq_of_mem_set hx' with z | z
     ·exact hx x z
     ·rw [z]; exact hnew
    ·exact fin xs p6 Ga hl hx fa sa ga
   ·rintro i x acc G9 K hx9 ⟨f9,s9,zs,rfl,lz,hz⟩ hk _
    refine ⟨trivial,jag f9 (by decide) (by decide) fun r G' a' b' f' s'=>?_⟩
    have hb:∀ c∈("abcdefghijklmnopqrstuvwxyz" : Str).cps.toList,c < 128:=by decide +kernel
    have e26:("abcdefghijklmnopqrstuvwxyz" : Str).cps.toList.length=26:=by decide +kernel
    obtain ⟨d,hd,ed⟩:=jdu (l:=("abcdefghijklmnopqrstuvwxyz" : Str).cps.toList) a' (by rw [e26]; exact b')
    refine ix_s (by decide +kernel) ed (hk _ _ ⟨f',s9.trans s',zs++[⟨#[d]⟩],by simp,by simp [lz],fun z hz'=>?_⟩)
    rcases List.mem_append.mp hz' with z' | z'
    ·exact hz z z'
    ·rw [List.mem_singleton.mp z']
     exact ⟨rfl,fun e he=>by
      have:e=d:=by simpa using he
      rw [this]; exact hb d hd⟩
  ·rw [if_neg (by simpa using hr)]
   exact fin xs p6 G7 hl hx f7 (s6.trans s7) g7
 ·rintro i x acc G' K hx ⟨rfl,xs,rfl,hl,hn⟩ hk _
  obtain ⟨hi,rfl⟩:=jbt hx
  simp! only []
  obtain ⟨y,hy,ey⟩:=jdu (l:=menu) (r:=(first + step * (i:Int)) % 15) (Int.emod_nonneg _ (by decide)) (Int.emod_lt_of_pos _ (by decide))
  refine ⟨trivial,.inr (by constructor <;> omega),by decide,?_⟩
  rw [ix_l g5 ((jcS U.str menu _).trans (congrArg _ ey))]
  exact hk _ _ ⟨rfl,xs++[y],by simp,by simp [hl],fun z hz=>by
   rcases List.mem_append.mp hz with z' | z'
   ·exact hn z z'
   ·rw [List.mem_singleton.mp z']; exact jhT y hy⟩
theorem jgd {f c:Addr}(hf:Fd G f c)(q:∀ (P:Int) (G':Gp),1<=P->P<=600->Fd G' f c->Sm f G G'->Q (.int P) G'):jab T (k + 2) jbV [.loc f] G Q X:=by
 refine ⟨rfl,?_⟩
 simp! only [jb6,jan,List.replicate]
 refine ⟨by decide,fun p G1 n1=>jag (hf.new n1) (by decide) (by decide) fun r G2 a2 b2 f2 s2=>?_⟩
 refine ja1 [1,2,3,4,5,6,7,8,10,12,30,60,120,600] (s2 _ _ (hf.away n1).1 n1.at) a2 b2 fun z hz=>?_
 have:1<=z/\z<=600:=by simp only [List.mem_cons,List.not_mem_nil,or_false] at hz; omega
 exact q z _ this.1 this.2 f2 (n1.sa.sm.trans s2)
theorem jc6 {f c:Addr}{P:Int}(hf:Fd G f c)(h1:1<=P)(h2:P<=600)(q:∀ (z:Int) (G':Gp),0<=z->z<=9999->Fd G' f c->Sm f G G'->Q (.int z) G'):jab T (k + 2) jaW [.loc f,.int P] G Q X:=by
 refine ⟨rfl,?_⟩
 simp! only [jbB,jan,List.replicate]
 refine jag hf (by decide) (by decide) fun w G1 a1 b1 f1 s1=>?_
 simp! only []
 by_cases hw:w < 3
 ·rw [if_pos (by simpa using hw)]
  exact jag f1 (by omega) (by omega) fun r G2 a2 b2 f2 s2=>q r _ a2 (by omega) f2 (s1.trans s2)
 rw [if_neg (by simpa using hw)]
 by_cases hw':w=3
 ·rw [if_pos (by simpa using hw')]
  refine ⟨.inl (by decide),.inl (by decide),by decide,fun p G2 n2=>jag (f1.new n2) (by decide) (by decide) fun r G3 a3 b3 f3 s3=>?_⟩
  refine ja1 [0,1,P,2 * P - 1,2 * P] (s3 _ _ (f1.away n2).1 n2.at) a3 b3 fun z hz=>?_
  have:0<=z/\z<=9999:=by simp only [List.mem_cons,List.not_mem_nil,or_false] at hz; omega
  exact q z _ this.1 this.2 f3 ((s1.nw n2).trans s3)
 ·rw [if_neg (by simpa using hw')]
  refine ⟨.inl (by decide),by decide,fun p G2 n2=>?_⟩
  refine ja1 [3 * P + 1,10000] n2.at (by omega) (by show w - 4 < 2; omega) fun z hz=>?_
  have:0 < z/\z<=10000:=by simp only [List.mem_cons,List.not_mem_nil,or_false] at hz; omega
  exact jag (f1.new n2) this.1 (by omega) fun r G3 a3 b3 f3 s3=>q r _ a3 (by omega) f3 ((s1.nw n2).trans s3)
end

set_option maxHeartbeats 2000000
structure Spn where
 w:Str
 o:Nat
 t:Nat
 lo:Int
 hi:Int
noncomputable def Spn.u (s:Spn):U:=.tup [.str s.w,.int s.o,.int s.t,.int s.lo,.int s.hi]
structure Spn.Ok (W:Nat)(s:Spn):Prop where
 w:s.w = "apart" \/ s.w = "span"
 o:s.o < W
 t:s.t < W
 lo:0<=s.lo/\s.lo<=9999
 hi:0<=s.hi/\s.hi<=9999
noncomputable def jaB (l:List Int):U:=.tup (l.map .int)
theorem jeS {x:Str}(h:x = "apart" \/ x = "span"):x.length<=8/\∀ c∈x.cps.toList,c < 128:=by
 rcases h with rfl | rfl
 ·exact ⟨by decide +kernel,by decide +kernel⟩
 ·exact ⟨by decide +kernel,by decide +kernel⟩
theorem jen {i:Int}(h:-100000<=i/\i<=100000):Ft 1921 0 (.int i):=Ft.int (Nat.lt_of_le_of_lt (show i.natAbs<=100000 by omega) (by decide))
theorem Spn.Ok.ft {W:Nat}{s:Spn}(h:s.Ok W)(hW:W<=8):Ft 10000 1 s.u:=by
 have:=h.o
 have:=h.t
 have:=h.lo
 have:=h.hi
 refine Ft.tup (n:=1921) (m:=5) (Nat.le_refl _) (fun u hu=>?_) (by decide)
 simp only [List.mem_cons,List.not_mem_nil,or_false] at hu
 rcases hu with rfl | rfl | rfl | rfl | rfl
 ·exact (Ft.str (m:=8) (jeS h.w).1 (jeS h.w).2).mono (by decide) (Nat.le_refl _)
 all_goals exact jen (by omega)
section
variable {k:Nat}{G:Gp}{Q:K1}{X:KX}
theorem jfe {f c:Addr}{P:Int}{W o t:Nat}(hf:Fd G f c)(h1:1<=P)(h2:P<=600)(ho:o < W)(ht:t < W)(q:∀ (s:Spn) (G':Gp),s.Ok W->Fd G' f c->Sm f G G'->Q s.u G'):jab T (k + 3) jbv [.loc f,.int o,.int t,.int P] G Q X:=by
 refine ⟨rfl,?_⟩
 simp! only [jcv,jan,List.replicate]
 refine jc6 hf h1 h2 fun lo G1 a1 b1 f1 s1=>?_
 refine jag f1 (by decide) (by decide) fun r G2 a2 b2 f2 s2=>?_
 simp! only []
 by_cases hr:r=0
 ·rw [if_pos (by simpa using hr)]
  refine jc6 f2 h1 h2 fun hi G3 a3 b3 f3 s3=>⟨by decide,?_⟩
  exact q ⟨"apart",o,t,lo,hi⟩ _ ⟨.inl rfl,ho,ht,⟨a1,b1⟩,a3,b3⟩ f3 (s1.trans (s2.trans s3))
 ·rw [if_neg (by simpa using hr)]
  refine ⟨by decide,by decide,.inl (by decide),by decide,fun p G3 n3=>jag (f2.new n3) (by decide) (by decide) fun r4 G4 a4 b4 f4 s4=>?_⟩
  refine ja1 [0,0,1,2,P / 2,P - 1,3 * P,9999] (s4 _ _ (f2.away n3).1 n3.at) a4 b4 fun z hz=>?_
  have hz':0<=z:=by simp only [List.mem_cons,List.not_mem_nil,or_false] at hz; omega
  simp! only []
  refine ⟨by decide,q ⟨"span",o,t,lo,if lo + z < 9999 then lo + z else 9999⟩ _ ⟨.inr rfl,ho,ht,⟨a1,b1⟩,?_⟩ f4 ((s1.trans s2).nw n3 |>.trans s4)⟩
  dsimp only
  split <;> omega
theorem jge {f c:Addr}{P:Int}{W:Nat}(hf:Fd G f c)(h1:1<=P)(h2:P<=600)(hW:W<=8)(q:∀ (bs:List Int) (G':Gp),bs.length=W->(∀ b∈bs,0<=b/\b < P)->Fd G' f c->Sm f G G'->Q (jaB bs) G'):jab T (k + 2) jbW [.loc f,.int W,.int P] G Q X:=by
 refine ⟨rfl,?_⟩
 simp! only [jb7,jan,List.replicate]
 refine ⟨by omega,by omega,by rw [jaz]; exact Nat.le_trans hW (by decide),?_⟩
 refine jaC (fun i acc G'=>Fd G' f c/\Sm f G G'/\∃ bs:List Int,acc=bs.map .int/\bs.length=i/\∀ b∈bs,0<=b/\b < P) ?_ ?_ ⟨hf,Sm.refl,[],rfl,rfl,fun _ h=>nomatch h⟩
 ·rintro acc G1 ⟨f1,s1,bs,rfl,hl,hb⟩
  rw [jaz] at hl
  refine ⟨trivial,fun p G2 n2=>?_⟩
  simp! only [it_l n2.at]
  exact q bs _ hl hb (f1.new n2) (s1.nw n2)
 ·rintro i x acc G1 K hx ⟨f1,s1,bs,rfl,hl,hb⟩ hk _
  refine ⟨trivial,jag f1 (by omega) (by omega) fun r G2 a2 b2 f2 s2=>hk _ _ ⟨f2,s1.trans s2,bs++[r],by simp,by simp [hl],fun b hb'=>?_⟩⟩
  rcases List.mem_append.mp hb' with z | z
  ·exact hb b z
  ·rw [List.mem_singleton.mp z]; exact ⟨a2,b2⟩
end

set_option maxHeartbeats 2000000
noncomputable def jaA (xs:List Str)(ss:List Spn):U:=.tup [.tup (xs.map .str),.tup (ss.map Spn.u)]
noncomputable def gapZ (P:Int)(bs:List Int)(s:Spn):Int:=(bs.getD s.t 0 - bs.getD s.o 0 - s.lo) % P
noncomputable def lenZ (P:Int)(bs:List Int)(s:Spn):Int:=s.lo + gapZ P bs s
theorem atM {α:Type}{f:α->U}{l:List α}{n:Nat}{a:α}(h:l[n]?=some a):atI (l.map f) (n:Int)=some (f a):=(jcS f l _).trans (congrArg _ (jbx h))
theorem jbR {bs:List Int}{n:Nat}(h:n < bs.length):atI (bs.map U.int) (n:Int)=some (.int (bs.getD n 0)):=by
 have:bs[n]?=some (bs.getD n 0):=by simp [List.getD,h]
 exact atM this
noncomputable def eU (e:Nat×Int):U:=.tup [.int e.1,.int e.2]
noncomputable def rU (r:List (Nat×Int)):U:=.tup (r.map eU)
noncomputable def s0Z:Spn:=⟨"span",0,0,0,0⟩
noncomputable def jaw (r:List (Nat×Int)):Bool:=r.any fun e=>decide (e.2=-1)
noncomputable def sumZ (P:Int)(bs:List Int)(ss:List Spn)(r:List (Nat×Int)):Int:=(r.map fun e=>e.2 * lenZ P bs (ss.getD e.1 s0Z)).sum
noncomputable def jaH (P:Int)(bs:List Int)(ss:List Spn)(r:List (Nat×Int)):Int:=sumZ P bs ss r / P
structure Rg (xs:List Str)(ss:List Spn)(P:Int)(bs:List Int)(r:List (Nat×Int)):Prop where
 p1:1<=P
 p2:P<=600
 x0:0 < xs.length
 x8:xs.length<=8
 nm:∀ x∈xs,Nm x
 bl:bs.length=xs.length
 bb:∀ b∈bs,0<=b/\b < P
 so:∀ s∈ss,s.Ok xs.length
 sl:ss.length<=24
 r0:0 < r.length
 rl:r.length<=60
 rr:∀ e∈r,e.1 < ss.length/\(e.2=1\/e.2=-1)
theorem jhb {a:Addr}{xs:List U}{ns:List Int}{G:Gp}{Q:K1}(g:G a=some (.lst xs))(h:jcg xs=some ns):sumU [.loc a] G Q=Q (.int ns.sum) G:=by
 unfold sumU
 dsimp only
 rw [g]
 dsimp only
 rw [h]
section
variable {k:Nat}{G:Gp}{Q:K1}{X:KX}{xs:List Str}{ss:List Spn}{P:Int}{bs:List Int}{s:Spn}{j W:Nat}{r:List (Nat×Int)}
theorem Rg.at (h:Rg xs ss P bs r){e:Nat×Int}(he:e∈r):ss[e.1]?=some (ss.getD e.1 s0Z)/\(ss.getD e.1 s0Z).Ok xs.length:=by
 have h1:=(h.rr e he).1
 have e1:ss[e.1]?=some (ss.getD e.1 s0Z):=by simp [List.getD,h1]
 exact ⟨e1,h.so _ (List.mem_of_getElem? e1)⟩
theorem jdN (hP:0 < P)(o:s.Ok W):0<=lenZ P bs s/\lenZ P bs s<=9999 + P:=by
 have h0:0<=gapZ P bs s:=Int.emod_nonneg _ (by omega)
 have h1:gapZ P bs s < P:=Int.emod_lt_of_pos _ hP
 have:=o.lo
 unfold lenZ
 omega
theorem jc7 (hP:0 < P)(bl:bs.length=W)(os:s.Ok W)(h:ss[j]?=some s)(q:Q (.int (lenZ P bs s)) G):jab T (k + 1) jaO [jaA xs ss,.int P,jaB bs,.int j] G Q X:=by
 have o:=os.o
 have t:=os.t
 refine ⟨rfl,?_⟩
 simp! only [jb4,jan,List.replicate,jaA,ix_t (jcT _ _ _),ix_t (atM h),Spn.u,jaB,ix_t (jbR (show s.o < bs.length by omega)),ix_t (jbR (show s.t < bs.length by omega))]
 exact ⟨trivial,by omega,q⟩
theorem jeD {e:Nat×Int}(h:ss[e.1]?=some s)(q:∀ a b:Nat,(a=s.o\/a=s.t)->Q (.tup [.int a,.int b]) G):jab T (k + 1) jda [jaA xs ss,eU e] G Q X:=by
 refine ⟨rfl,?_⟩
 simp! only [jdm,jan,List.replicate,eU]
 rw [if_neg (by decide)]
 simp! only [jaA,ix_t (jcT _ _ _),ix_t (atM h),Spn.u]
 refine ⟨trivial,trivial,?_⟩
 split
 ·exact ⟨by decide,q _ _ (.inl rfl)⟩
 ·exact ⟨by decide,q _ _ (.inr rfl)⟩
theorem jc5 (h:Rg xs ss P bs r)(q:∀ G',Sa G G'->Q (.int (jaH P bs ss r)) G'):jab T (k + 2) jbT [jaA xs ss,.int P,jaB bs,rU r] G Q X:=by
 have hp1:=h.p1
 have hp2:=h.p2
 refine ⟨rfl,?_⟩
 simp! only [jb3,jan,List.replicate,rU]
 refine ⟨by rw [List.length_map]; exact Nat.le_trans h.rl (by decide),?_⟩
 refine jaC (fun i acc G'=>G'=G/\acc=((r.take i).map fun e=>e.2 * lenZ P bs (ss.getD e.1 s0Z)).map .int) ?_ ?_ ⟨rfl,rfl⟩
 ·rintro acc G1 ⟨rfl,rfl⟩
  rw [List.length_map,List.take_length]
  refine ⟨trivial,fun p G2 n2=>?_⟩
  show sumU [.loc p] G2 _
  rw [jhb n2.at (jcO _)]
  simp! only []
  exact ⟨by omega,by omega,q _ n2.sa⟩
 ·rintro i x acc G1 K hx ⟨rfl,rfl⟩ hk _
  rw [List.getElem?_map] at hx
  obtain ⟨e,ee,rfl⟩:∃ e,r[i]?=some e/\eU e=x:=by
   cases z:r[i]? with
   | none=>rw [z] at hx; cases hx
   | some e=>rw [z] at hx; exact ⟨e,rfl,by simpa using hx⟩
  have he:=List.mem_of_getElem? ee
  obtain ⟨h1,h2⟩:=h.at he
  refine ⟨trivial,?_⟩
  simp! only [eU]
  refine ⟨trivial,jc7 (by omega) h.bl h2 h1 ⟨.inl (by rcases (h.rr e he).2 with z | z <;> rw [z] <;> decide),hk _ _ ⟨rfl,?_⟩⟩⟩
  rw [List.take_succ,ee]
  simp
theorem jfQ {l:List (Nat×Int)}{g:U->U}(h:∀ e:Nat×Int,g (eU e)=.bl (decide (e.2=-1))):jcb ((l.map eU).map g)=some (l.map fun e=>decide (e.2=-1)):=by
 induction l with
 | nil=>rfl
 | cons e r ih=>rw [List.map_cons,List.map_cons,h]; show (match jcb ((r.map eU).map g) with | some l=>some (decide (e.2=-1)::l) | none=>none)=_; rw [ih]; rfl
noncomputable def isB:U->U
 | .tup [_,.int w]=>.bl (decide (w=-1))
 | u=>u
theorem je1:∀ l:List Int,(∀ z∈l,0<=z)->0<=l.sum
 | [],_=>by simp
 | z::l,h=>by
  rw [List.sum_cons]
  have:=h z (by simp)
  have:=je1 l fun y hy=>h y (by simp [hy])
  omega
theorem Rg.all1 (h:Rg xs ss P bs r)(hb:jaw r=false):∀ e∈r,e.2=1:=fun e he=>by
 have:=List.any_eq_false.mp hb e he
 have:=(h.rr e he).2
 simp at *
 omega
theorem Rg.nn (h:Rg xs ss P bs r)(hb:jaw r=false):0<=jaH P bs ss r:=by
 have hp1:=h.p1
 refine Int.ediv_nonneg (je1 _ fun z hz=>?_) (by omega)
 obtain ⟨e,he,rfl⟩:=List.mem_map.mp hz
 show 0<=e.2 * lenZ P bs (ss.getD e.1 s0Z)
 rw [h.all1 hb e he,Int.one_mul]
 exact (jdN (by omega) (h.at he).2).1
theorem jba (h:Rg xs ss P bs r)(q0:jaw r=true->∀ G',Sa G G'->X ⟨3,[.str "back"]⟩ G')(q1:jaw r=false->jaH P bs ss r=0->∀ G',Sa G G'->X ⟨3,[.str "none"]⟩ G')(q2:jaw r=false->0 < jaH P bs ss r->∀ G',Sa G G'->Q (.int (jaH P bs ss r)) G') :
  jab T (k + 3) jaZ [jaA xs ss,.int P,jaB bs,rU r] G Q X:=by
 refine ⟨rfl,?_⟩
 simp! only [jct,jan,List.replicate,rU]
 refine ⟨by rw [List.length_map]; exact Nat.le_trans h.rl (by decide),?_⟩
 refine jbo isB trivial (fun x hx K hk=>?_) (fun p G1 n1=>?_)
 ·obtain ⟨e,he,rfl⟩:=List.mem_map.mp hx
  rw [show eU e=.tup [.int e.1,.int e.2] from rfl] at hk ⊢
  simp! only []
  exact ⟨trivial,hk⟩
 ·show anyU [.loc p] G1 _
  unfold anyU
  dsimp only
  rw [n1.at]
  dsimp only
  rw [List.nil_append,jfQ fun e=>rfl]
  dsimp only
  have e2:(r.map fun e=>decide (e.2=-1)).any id=jaw r:=by unfold jaw; simp
  rw [e2]
  simp! only []
  by_cases hb:jaw r=true
  ·rw [if_pos hb]
   exact ⟨rfl,q0 hb _ n1.sa⟩
  ·rw [if_neg hb]
   have hb':jaw r=false:=by simpa using hb
   refine jc5 (k:=k) h fun G2 s2=>?_
   simp! only []
   by_cases hm:jaH P bs ss r=0
   ·rw [if_pos (by simpa using hm)]
    exact ⟨rfl,q1 hb' hm _ (n1.sa.trans s2)⟩
   ·rw [if_neg (by simpa using hm)]
    have:=h.nn hb'
    exact q2 hb' (by omega) _ (n1.sa.trans s2)
theorem jcJ (h:Rg xs ss P bs r)(q0:jaw r=true->∀ G',Sa G G'->X ⟨3,[.str "back"]⟩ G')(q1:jaw r=false->jaH P bs ss r=0->∀ G',Sa G G'->X ⟨3,[.str "none"]⟩ G')(q2:jaw r=false->0 < jaH P bs ss r->∀ G',Sa G G'->Q (.int 0) G') :
  jab T (k + 4) jby [jaA xs ss,.int P,jaB bs,rU r,.int 0,.int 0] G Q X:=by
 refine ⟨rfl,?_⟩
 simp! only [jbA,jan,List.replicate]
 refine jba h q0 q1 fun hb hm G1 s1=>?_
 have e:cut (r.map eU) none (some (0:Int))=[]:=(jdn _ 0).trans (List.take_zero)
 simp! only [rU,e]
 refine ⟨by decide,trivial,fun p G2 n2=>?_⟩
 show sumU [.loc p] G2 _
 rw [jhb n2.at (show jcg []=some [] from rfl)]
 simp! only []
 refine ⟨hm,?_⟩
 rw [show ((0:Int) - ([]:List Int).sum) % jaH P bs ss r=0 by simp]
 exact q2 hb hm _ (s1.trans n2.sa)
theorem jce (h:Rg xs ss P bs r)(q0:jaw r=true->∀ G',Sa G G'->X ⟨3,[.str "back"]⟩ G')(q1:jaw r=false->jaH P bs ss r=0->∀ G',Sa G G'->X ⟨3,[.str "none"]⟩ G')(q2:jaw r=false->0 < jaH P bs ss r->∀ p G',Sa G G'->G' p=some (.lst [])->Q (.loc p) G') :
  jab T (k + 4) jbj [jaA xs ss,.int P,jaB bs,rU r,.int 0,.int 0] G Q X:=by
 refine ⟨rfl,?_⟩
 simp! only [jbn,jan,List.replicate]
 refine jba h q0 q1 fun hb hm G1 s1=>?_
 obtain ⟨e,he⟩:∃ e,r[0]?=some e:=⟨_,List.getElem?_eq_getElem h.r0⟩
 obtain ⟨h1,h2⟩:=h.at (List.mem_of_getElem? he)
 have a0:atI (r.map eU) 0=some (eU e):=atM (n:=0) he
 simp! only [rU,ix_t a0]
 refine jeD (k:=k + 2) h1 fun a b hab=>?_
 have ha:a < bs.length:=by
  rw [h.bl]
  rcases hab with z | z
  ·rw [z]; exact h2.o
  ·rw [z]; exact h2.t
 simp! only [jaB,ix_t (jbR ha)]
 refine ⟨trivial,.inl (by decide),by decide,fun p G2 n2=>?_⟩
 simp! only []
 refine ⟨by decide,by decide,?_⟩
 show True/\_
 refine ⟨trivial,?_⟩
 simp! only []
 exact q2 hb hm p G2 (s1.trans n2.sa) n2.at
end

set_option maxHeartbeats 2000000
section
variable {k:Nat}{G:Gp}{Q:K1}{X:KX}{xs:List Str}{ss:List Spn}{P:Int}{bs:List Int}{s:Spn}{j W:Nat}{r:List (Nat×Int)}
theorem jjq (h1:1<=P)(h2:P<=600)(bl:bs.length=W)(os:s.Ok W)(h:ss[j]?=some s)(q:∀ z,Q (.tup [.int z,.int (gapZ P bs s)]) G):jab T (k + 1) jc8 [jaA xs ss,.int P,jaB bs,.int j] G Q X:=by
 have o:=os.o
 have t:=os.t
 refine ⟨rfl,?_⟩
 simp! only [jdk,jan,List.replicate,jaA,ix_t (jcT _ _ _),ix_t (atM h),Spn.u,jaB,ix_t (jbR (show s.o < bs.length by omega)),ix_t (jbR (show s.t < bs.length by omega))]
 refine ⟨trivial,by omega,by omega,.inr (by constructor <;> omega),by decide,?_⟩
 have e:bs.getD s.t 0 + (0 - (bs.getD s.t 0 - bs.getD s.o 0 - s.lo) / P) * P - bs.getD s.o 0 - s.lo=gapZ P bs s:=by
  unfold gapZ
  rw [Int.emod_def,Int.sub_mul,Int.zero_mul,Int.mul_comm P]
  omega
 rw [e]
 exact q _
theorem jbP (h:Rg xs ss P bs r)(hb:jaw r=false)(q:∀ G',Sa G G'->Q (.int (jaH P bs ss r)) G'):jab T (k + 2) ja5 [jaA xs ss,.int P,jaB bs,rU r] G Q X:=by
 have hp1:=h.p1
 have hp2:=h.p2
 refine ⟨rfl,?_⟩
 simp! only [ja8,jan,List.replicate,rU]
 refine ⟨by rw [List.length_map]; exact Nat.le_trans h.rl (by decide),?_⟩
 refine jaC (fun i acc G'=>G'=G/\acc=((r.take i).map fun e=>e.2 * lenZ P bs (ss.getD e.1 s0Z)).map .int) ?_ ?_ ⟨rfl,rfl⟩
 ·rintro acc G1 ⟨rfl,rfl⟩
  rw [List.length_map,List.take_length]
  refine ⟨trivial,fun p G2 n2=>?_⟩
  show sumU [.loc p] G2 _
  rw [jhb n2.at (jcO _)]
  simp! only []
  exact ⟨by omega,by omega,q _ n2.sa⟩
 ·rintro i x acc G1 K hx ⟨rfl,rfl⟩ hk _
  rw [List.getElem?_map] at hx
  obtain ⟨e,ee,rfl⟩:∃ e,r[i]?=some e/\eU e=x:=by
   cases z:r[i]? with
   | none=>rw [z] at hx; cases hx
   | some e=>rw [z] at hx; exact ⟨e,rfl,by simpa using hx⟩
  have he:=List.mem_of_getElem? ee
  obtain ⟨h1,h2⟩:=h.at he
  have h3:=h.all1 hb e he
  refine ⟨trivial,?_⟩
  simp! only [eU,ix_t (show atI [U.tup (xs.map .str),U.tup (ss.map Spn.u)] 1=_ from jcT _ _ _),jaA]
  rw [ix_t (atM h1)]
  have a3:∀ s:Spn,atI [U.str s.w,.int s.o,.int s.t,.int s.lo,.int s.hi] 3=some (.int s.lo):=fun s=>jls _ _ _ _ _
  refine ⟨trivial,?_⟩
  rw [show (ss.getD e.1 s0Z).u=.tup [.str (ss.getD e.1 s0Z).w,.int (ss.getD e.1 s0Z).o,.int (ss.getD e.1 s0Z).t,.int (ss.getD e.1 s0Z).lo,.int (ss.getD e.1 s0Z).hi] from rfl,ix_t (a3 _)]
  refine jjq (k:=k) (xs:=xs) (by omega) hp2 h.bl h2 h1 fun z=>?_
  simp! only [ix_t (jcT _ _ _)]
  refine hk _ _ ⟨rfl,?_⟩
  rw [List.take_succ,ee]
  simp [h3,lenZ]
structure Ans (P:Int)(bs:List Int)(ss:List Spn)(r:List (Nat×Int))(w:Int)(G:Gp)(Q:K1):Prop where
 b:jaw r=true->∀ p G',Sa G G'->G' p=some (.lst [.str "word",.str "back"])->Q (.loc p) G'
 n:jaw r=false->jaH P bs ss r=0->∀ p G',Sa G G'->G' p=some (.lst [.str "word",.str "none"])->Q (.loc p) G'
 m:jaw r=false->0 < jaH P bs ss r->w=0->∀ G',Sa G G'->Q (.int (jaH P bs ss r)) G'
 z:jaw r=false->0 < jaH P bs ss r->w=1->∀ G',Sa G G'->Q (.int 0) G'
 e:jaw r=false->0 < jaH P bs ss r->w=2->∀ p G',Sa G G'->G' p=some (.lst [])->Q (.loc p) G'
theorem jhN {w:Int}(h:Rg xs ss P bs r)(h0:0<=w)(h3:w < 3)(q:Ans P bs ss r w G Q):jab T (k + 5) jcn [.int w,.tup [jaA xs ss,.int P,jaB bs],rU r] G Q X:=by
 refine ⟨rfl,?_⟩
 simp! only [jcu,jan,List.replicate]
 refine ⟨trivial,?_⟩
 by_cases w0:w=0
 ·rw [if_pos (by simpa using w0)]
  refine jba (k:=k + 1) h (fun hb G1 s1=>⟨.inl trivial,?_⟩) (fun hb hm G1 s1=>⟨.inl trivial,?_⟩) (fun hb hm G1 s1=>?_)
  ·simp [hsH,hvH,jaL,lit1,litH,atsH,atH,clsF,clsA,-List.cons.injEq]
   intro p G2 n2
   exact q.b hb p G2 (s1.trans n2.sa) n2.at
  ·simp [hsH,hvH,jaL,lit1,litH,atsH,atH,clsF,clsA,-List.cons.injEq]
   intro p G2 n2
   exact q.n hb hm p G2 (s1.trans n2.sa) n2.at
  ·simp! only []
   exact q.m hb hm w0 G1 s1
 ·rw [if_neg (by simpa using w0)]
  by_cases w1:w=1
  ·rw [if_pos (by simpa using w1)]
   refine jcJ (k:=k) h (fun hb G1 s1=>⟨.inl trivial,?_⟩) (fun hb hm G1 s1=>⟨.inl trivial,?_⟩) (fun hb hm G1 s1=>?_)
   ·simp [hsH,hvH,jaL,lit1,litH,atsH,atH,clsF,clsA,-List.cons.injEq]
    intro p G2 n2
    exact q.b hb p G2 (s1.trans n2.sa) n2.at
   ·simp [hsH,hvH,jaL,lit1,litH,atsH,atH,clsF,clsA,-List.cons.injEq]
    intro p G2 n2
    exact q.n hb hm p G2 (s1.trans n2.sa) n2.at
   ·simp! only []
    exact q.z hb hm w1 G1 s1
  ·rw [if_neg (by simpa using w1)]
   refine jce (k:=k) h (fun hb G1 s1=>⟨.inl trivial,?_⟩) (fun hb hm G1 s1=>⟨.inl trivial,?_⟩) (fun hb hm p1 G1 s1 g1=>?_)
   ·simp [hsH,hvH,jaL,lit1,litH,atsH,atH,clsF,clsA,-List.cons.injEq]
    intro p G2 n2
    exact q.b hb p G2 (s1.trans n2.sa) n2.at
   ·simp [hsH,hvH,jaL,lit1,litH,atsH,atH,clsF,clsA,-List.cons.injEq]
    intro p G2 n2
    exact q.n hb hm p G2 (s1.trans n2.sa) n2.at
   ·simp! only []
    exact q.e hb hm (by omega) p1 G1 s1 g1
noncomputable def notF:U->Option U
 | .tup [a,.int w]=>if (!decide (w=1))=true then some (.tup [a,.int w]) else none
 | _=>none
theorem jjV (e:Nat×Int):Sml 1 (eU e):=Sml.tup fun u hu=>by
 simp only [List.mem_cons,List.not_mem_nil,or_false] at hu
 rcases hu with rfl | rfl <;> exact Sml.int _
theorem jdJ:∀ r:List (Nat×Int),(r.map eU).filterMap notF=(r.filter fun e=>!decide (e.2=1)).map eU
 | []=>rfl
 | e::r=>by
  rw [List.map_cons]
  have z:notF (eU e)=if (!decide (e.2=1))=true then some (eU e) else none:=rfl
  by_cases hb:(!decide (e.2=1))=true
  ·rw [if_pos hb] at z
   rw [List.filterMap_cons_some z,List.filter_cons_of_pos (p:=fun e:Nat×Int=>!decide (e.2=1)) hb,List.map_cons,jdJ r]
  ·rw [if_neg hb] at z
   rw [List.filterMap_cons_none z,List.filter_cons_of_neg (p:=fun e:Nat×Int=>!decide (e.2=1)) hb,jdJ r]
theorem jjr {w:Int}(h:Rg xs ss P bs r)(h0:0<=w)(h3:w < 3)(q:Ans P bs ss r w G Q):jab T (k + 3) jc9 [.int w,.tup [jaA xs ss,.int P,jaB bs],rU r] G Q X:=by
 refine ⟨rfl,?_⟩
 simp! only [jdl,jan,List.replicate]
 simp! only [rU]
 refine ⟨trivial,by rw [List.length_map]; exact Nat.le_trans h.rl (by decide),?_⟩
 refine jbC notF trivial (fun x hx K hk=>?_) (fun p1 G1 n1=>⟨by decide,fun p2 G2 n2=>?_⟩)
 ·obtain ⟨e,he,rfl⟩:=List.mem_map.mp hx
  rw [show eU e=.tup [.int e.1,.int e.2] from rfl] at hk ⊢
  have hk':K (if (!decide (e.2=1))=true then some (.tup [.int e.1,.int e.2]) else none) G:=hk
  simp! only [ix_t (jcT _ _ _)]
  split
  ·rename_i z
   rw [if_pos z] at hk'
   exact hk'
  ·rename_i z
   rw [if_neg z] at hk'
   exact hk'
 ·rw [List.nil_append,jdJ] at n1
  simp! only []
  refine jgV (n2.sa _ _ n1.at) n2.at (fun u hu=>?_) (show 1 < 100 by decide) ?_
  ·obtain ⟨e,_,rfl⟩:=List.mem_map.mp hu
   exact jjV e
  have s2:Sa G G2:=n1.sa.trans n2.sa
  have e1:((r.filter fun e=>!decide (e.2=1)).map eU).isEmpty = !jaw r:=by
   rw [List.isEmpty_map,Bool.eq_iff_iff,List.isEmpty_iff,List.filter_eq_nil_iff]
   unfold jaw
   simp only [Bool.not_eq_true',decide_eq_false_iff_not,Decidable.not_not,List.any_eq_false,decide_eq_true_eq]
   refine forall_congr' fun e=>forall_congr' fun he=>?_
   have:=(h.rr e he).2
   omega
  rw [e1,Bool.not_not]
  by_cases hb:jaw r=true
  ·rw [if_pos hb]
   exact ⟨by decide,fun p3 G3 n3=>q.b hb p3 G3 (s2.trans n3.sa) n3.at⟩
  ·rw [if_neg hb]
   have hb':jaw r=false:=by simpa using hb
   refine jbP (k:=k) h hb' fun G3 s3=>?_
   simp! only []
   have nn:=h.nn hb'
   by_cases hm:jaH P bs ss r=0
   ·rw [if_pos (by simpa using hm)]
    exact ⟨by decide,fun p4 G4 n4=>q.n hb' hm p4 G4 ((s2.trans s3).trans n4.sa) n4.at⟩
   ·rw [if_neg (by simpa using hm)]
    refine ⟨by decide,fun p4 G4 n4=>⟨by decide,fun p5 G5 n5=>?_⟩⟩
    have S:Sa G G5:=(s2.trans s3).trans (n4.sa.trans n5.sa)
    show ixU (.loc p5) (.int w) G5 Q
    obtain rfl | rfl | rfl:w=0\/w=1\/w=2:=by omega
    ·rw [ix_l n5.at (jgw _ _)]
     exact q.m hb' (by omega) rfl _ S
    ·rw [ix_l n5.at (jcT _ _ _)]
     exact q.z hb' (by omega) rfl _ S
    ·rw [ix_l n5.at (jlt _ _ _ _)]
     exact q.e hb' (by omega) rfl p4 G5 S (n5.sa _ _ n4.at)
end

set_option maxHeartbeats 2000000
structure Wo (xs:List Str)(ss:List Spn)(P:Int)(bs:List Int)(r:List (Nat×Int)):Prop where
 g:Rg xs ss P bs r
 o:∀ e∈r,e.2=1
 l:r.length<=54
 s:ss.length<=9
section
variable {k:Nat}{G:Gp}{Q:K1}{X:KX}{P:Int}{W:Nat}{f c p3 p4 p6:Addr}{st:List Nat}
noncomputable def jaT (l:List Nat):List U:=l.map fun (n:Nat)=>.int (n:Int)
theorem jhk (n:Nat)(r:List (Nat×Int)):(List.replicate n (r.map eU)).flatten=((List.replicate n r).flatten).map eU:=by
 induction n with
 | zero=>rfl
 | succ n ih=>rw [List.replicate_succ,List.flatten_cons,ih,List.replicate_succ,List.flatten_cons,List.map_append]
theorem jiK {ss:List Spn}{r:List (Nat×Int)}{G3:Gp}{o5 o7 o8:Option U}(h1:1<=P)(h2:P<=600)(w0:0 < W)(w8:W<=5)(hf:Fd G3 f c)(a4:p4≠f/\p4≠c)(g4:G3 p4=some (.lst (ss.map Spn.u)))(g6:G3 p6=some (.lst (r.map eU)))(so:∀ s∈ss,s.Ok W)(sl:ss.length<=9)(r0:0 < r.length)(rl:r.length<=6)(rr:∀ e∈r,e.1 < ss.length/\e.2=1)
  (q:∀ (xs:List Str) (ss:List Spn) (P:Int) (bs:List Int) (r:List (Nat×Int)) (G':Gp),Wo xs ss P bs r->Fd G' f c->Q (.tup [jaA xs ss,.int P,jaB bs,rU r]) G') :
  jax T.gs (jab T (k + 4)) jat ⟨fun _ G'=>Q .non G',Q,fun x _ G'=>X x G'⟩ [some (.loc f),some (.int P),some (.int W),some (.loc p3),some (.loc p4),o5,some (.loc p6),o7,o8] G3:=by
 simp! only [jat,it_l g6]
 refine ⟨by decide,fun p7 G7 n7=>jag (k:=k + 3) (hf.new n7) (by decide) (by decide) fun r8 G8 a8 b8 f8 s8=>?_⟩
 refine ja1 [1,1,1,2,9] (s8 _ _ (hf.away n7).1 n7.at) a8 b8 fun m hm=>?_
 have hm':1<=m/\m<=9:=by simp only [List.mem_cons,List.not_mem_nil,or_false] at hm; omega
 obtain ⟨n,rfl⟩:=Int.eq_ofNat_of_zero_le (show 0<=m by omega)
 have g4':=s8 _ _ a4.1 (n7.sa _ _ g4)
 simp! only [Int.toNat_natCast,jhk]
 have hlen:((List.replicate n r).flatten).length=n * r.length:=by simp
 have hle:n * r.length<=54:=Nat.le_trans (Nat.mul_le_mul (show n<=9 by omega) rl) (by decide)
 have hpos:0 < n * r.length:=Nat.mul_pos (by omega) r0
 refine ⟨?_,by omega,by omega,?_,?_⟩
 ·intro z
  have:=congrArg List.length z
  simp at this
  rw [this] at r0
  simp at r0
 ·rw [List.length_map,Nat.mul_comm]
  exact Nat.le_trans hle (by decide)
 refine jgc (k:=k + 2) f8 w0 (by omega) fun xs G9 lx nx f9 s9=>?_
 rw [it_l (s9 _ _ a4.1 g4')]
 refine ⟨by decide,jge (k:=k + 2) f9 h1 h2 (by omega) fun bs Ga bl bb fa sa=>⟨by decide,?_⟩⟩
 refine q xs ss P bs ((List.replicate n r).flatten) Ga ⟨⟨h1,h2,by omega,by omega,nx,by omega,bb,by rw [lx]; exact so,by omega,by omega,by omega,fun e he=>?_⟩,fun e he=>?_,by omega,sl⟩ fa
 ·obtain ⟨l,hl,he'⟩:=List.mem_flatten.mp he
  rw [(List.mem_replicate.mp hl).2] at he'
  exact ⟨(rr e he').1,.inl (rr e he').2⟩
 ·obtain ⟨l,hl,he'⟩:=List.mem_flatten.mp he
  rw [(List.mem_replicate.mp hl).2] at he'
  exact (rr e he').2
theorem jiJ {ss:List Spn}{r:List (Nat×Int)}{Ga:Gp}{K:Sg->Gp->Prop}{i:Int}{x1 x2:Nat}{o8:Option U}(h1:1<=P)(h2:P<=600)(m1:x1 < W)(m2:x2 < W)(fa:Fd Ga f c)(a3:p3≠f/\p3≠c)(a4:p4≠f/\p4≠c)(a6:p6≠f/\p6≠c)(a34:p3≠p4)(n63:p6≠p3)(n64:p6≠p4)
  (ga3:Ga p3=some (.lst (jaT st))) (ga4:Ga p4=some (.lst (ss.map Spn.u))) (ga6:Ga p6=some (.lst (r.map eU))) (sl:ss.length<=9) (rl:r.length<=6)
  (kk:∀ s Gd,s.Ok W->Fd Gd f c->Gd p3=some (.lst (jaT st))->Gd p4=some (.lst ((ss++[s]).map Spn.u))->Gd p6=some (.lst ((r++[(ss.length,1)]).map eU))->K [some (.loc f),some (.int P),some (.int W),some (.loc p3),some (.loc p4),some (.int i),some (.loc p6),some (.tup [.int x1,.int x2]),o8] Gd) :
  jax T.gs (jab T (k + 4)) jaf ⟨K,Q,fun x _ G'=>X x G'⟩ [some (.loc f),some (.int P),some (.int W),some (.loc p3),some (.loc p4),some (.int i),some (.loc p6),some (.tup [.int x1,.int x2]),o8] Ga:=by
 simp! only [jaf,jdc ga6,jeJ ga4,List.length_map]
 refine ⟨by decide,?_⟩
 rw [jfO ga6]
 refine ⟨by rw [List.length_map]; exact Nat.lt_of_le_of_lt rl (by decide),fun Gb pb=>?_⟩
 have gb3:=pb.sm _ _ (Ne.symm n63) ga3
 have gb4:=pb.sm _ _ (Ne.symm n64) ga4
 have fb:=fa.off a6 pb
 simp! only [jdc gb4,ix_t (jgw _ _),ix_t (jcT _ _ _)]
 refine jfe (k:=k + 1) (W:=W) fb h1 h2 m1 m2 fun s Gc os fc sc=>?_
 have gc4:=sc _ _ a4.1 gb4
 simp! only [jfO gc4]
 refine ⟨by rw [List.length_map]; exact Nat.lt_of_le_of_lt sl (by decide),fun Gd pd=>?_⟩
 refine kk s Gd os (fc.off a4 pd) (pd.sm _ _ a34 (sc _ _ a3.1 gb3)) (by rw [List.map_append]; exact pd.at) ?_
 rw [List.map_append]
 exact pd.sm _ _ n64 (sc _ _ a6.1 pb.at)
theorem jiL {ss : List Spn}{G3 : Gp}{o5 o6 o7 o8 : Option U}(h1 : 1 <= P)(h2 : P <= 600)(w0 : 0 < W)(w8 : W <= 5)(hf : Fd G3 f c)(a3 : p3 ≠ f /\ p3 ≠ c)(a4 : p4 ≠ f /\ p4 ≠ c)(a34 : p3 ≠ p4)(g3 : G3 p3 = some (.lst (jaT st)))(g4 : G3 p4 = some (.lst (ss.map Spn.u)))(sto : ∀ x ∈ st, x < W)(st0 : 0 < st.length)(st6 : st.length <= 6)(so : ∀ s ∈ ss, s.Ok W)(sl : ss.length <= 3)
    (q : ∀ (xs : List Str) (ss : List Spn) (P : Int) (bs : List Int) (r : List (Nat × Int)) (G' : Gp), Wo xs ss P bs r -> Fd G' f c -> Q (.tup [jaA xs ss, .int P, jaB bs, rU r]) G') :
    jax T.gs (jab T (k + 4)) jau ⟨fun _ G' => Q .non G', Q, fun x _ G' => X x G'⟩ [some (.loc f), some (.int P), some (.int W), some (.loc p3), some (.loc p4), o5, o6, o7, o8] G3 := by
  simp! only [jau]
  refine ⟨by decide, fun p6 G6 n6 => ?_⟩
  have a6 := hf.away n6
  have n63 : p6 ≠ p3 := jbS g3 n6.no
  have n64 : p6 ≠ p4 := jbS g4 n6.no
  have g3' := n6.sa _ _ g3
  have ln : (jaT st).length = st.length := by unfold jaT; simp
  simp! only [jeJ g3', ln]
  refine ⟨by omega, by omega, ?_⟩
  refine jbw (fun i ς G' => ∃ (ss : List Spn) (r : List (Nat × Int)) (o5 o7 o8 : Option U), ς = [some (.loc f), some (.int P), some (.int W), some (.loc p3), some (.loc p4), o5, some (.loc p6), o7, o8] /\ Fd G' f c /\ G' p3 = some (.lst (jaT st)) /\ G' p4 = some (.lst (ss.map Spn.u)) /\ G' p6 = some (.lst (r.map eU)) /\ (∀ s ∈ ss, s.Ok W) /\ ss.length <= 3 + i /\ r.length = i /\ ∀ e ∈ r, e.1 < ss.length /\ e.2 = 1) ?_ ?_
    ⟨ss, [], _, _, _, rfl, hf.new n6, g3', n6.sa _ _ g4, n6.at, so, by omega, rfl, fun _ h => nomatch h⟩
  · rintro ς G7 ⟨ss, r, o5, o7, o8, rfl, f7, g73, g74, g76, so7, sl7, rl7, rr7⟩
    rw [jaz] at sl7 rl7
    exact ⟨trivial, jiK h1 h2 w0 w8 f7 a4 g74 g76 so7 (by omega) (by omega) (by omega) rr7 q⟩
  · rintro i x ς G7 K hx ⟨ss, r, o5, o7, o8, rfl, f7, g73, g74, g76, so7, sl7, rl7, rr7⟩ hk
    obtain ⟨hi, rfl⟩ := jbt hx
    have hi' : i < st.length := by omega
    refine ⟨trivial, ?_⟩
    obtain ⟨x1, e1⟩ : ∃ x, st[i]? = some x := ⟨_, List.getElem?_eq_getElem hi'⟩
    obtain ⟨x2, e2⟩ : ∃ x, st[(i + 1) % st.length]? = some x := ⟨_, List.getElem?_eq_getElem (Nat.mod_lt _ st0)⟩
    have m1 := sto x1 (List.mem_of_getElem? e1)
    have m2 := sto x2 (List.mem_of_getElem? e2)
    have t1 : atI (jaT st) (i : Int) = some (.int x1) := atM (f := fun (n : Nat) => U.int (n : Int)) e1
    have t2 : atI (jaT st) (((i : Int) + 1) % (st.length : Int)) = some (.int x2) := by
      rw [show ((i : Int) + 1) % (st.length : Int) = (((i + 1) % st.length : Nat) : Int) by simp]
      exact atM (f := fun (n : Nat) => U.int (n : Int)) e2
    simp! only [ix_l g73 t1, jeJ g73, ln, ix_l g73 t2, jeJ g74, List.length_map]
    refine ⟨by omega, by decide, by omega, by omega, by rw [jaz]; exact Nat.le_trans (show ss.length <= 9 by omega) (by decide), ?_⟩
    refine jaC (fun j acc G' => G' = G7 /\ ∃ l : List Nat, acc = jaT l /\ l.length <= j /\ ∀ y ∈ l, y < ss.length) ?_ ?_ ⟨rfl, [], rfl, Nat.le_refl _, fun _ h => nomatch h⟩
    · rintro acc G8 ⟨rfl, l, rfl, ll, hl⟩
      rw [jaz] at ll
      have lle : l.length < 1000 := by omega
      refine ⟨trivial, fun p8 G8' n8 => ⟨by decide, fun p9 G9 n9 => ?_⟩⟩
      have f9 := (f7.new n8).new n9
      have g93 := n9.sa _ _ (n8.sa _ _ g73)
      have g94 := n9.sa _ _ (n8.sa _ _ g74)
      have g96 := n9.sa _ _ (n8.sa _ _ g76)
      have g98 := n9.sa _ _ n8.at
      have l8 : (jaT l).length = l.length := by unfold jaT; simp
      simp! only []
      have fresh : ∀ Ga, Fd Ga f c -> Ga p3 = some (.lst (jaT st)) -> Ga p4 = some (.lst (ss.map Spn.u)) -> Ga p6 = some (.lst (r.map eU)) -> jax T.gs (jab T (k + 4)) jaf ⟨K, Q, fun x _ G' => X x G'⟩
          [some (.loc f), some (.int P), some (.int W), some (.loc p3), some (.loc p4), some (.int i), some (.loc p6), some (.tup [.int x1, .int x2]), some (.loc p8)] Ga := fun Ga fa ga3 ga4 ga6 =>
        jiJ h1 h2 m1 m2 fa a3 a4 a6 a34 n63 n64 ga3 ga4 ga6 (by omega) (by omega) fun s Gd os fd gd3 gd4 gd6 => hk _ _ ⟨ss ++ [s], r ++ [(ss.length, 1)], _, _, _, rfl, fd, gd3, gd4, gd6, fun z hz => (List.mem_append.mp hz).elim (so7 z) fun z' => by rw [List.mem_singleton.mp z']; exact os, by rw [List.length_append]; exact Nat.succ_le_succ sl7, by rw [List.length_append, rl7]; rfl, fun e he => (List.mem_append.mp he).elim (fun z' => ⟨by rw [List.length_append]; exact Nat.lt_succ_of_lt (rr7 e z').1, (rr7 e z').2⟩) fun z' => by rw [List.mem_singleton.mp z', List.length_append]; exact ⟨Nat.lt_succ_self _, rfl⟩⟩
      refine jgV g98 n9.at (fun u hu => ?_) (show 0 < 100 by decide) ?_
      · obtain ⟨y, _, rfl⟩ := List.mem_map.mp hu
        exact Sml.int _
      by_cases hl0 : l = []
      · rw [if_neg (by rw [hl0]; simp [jaT])]
        exact fresh G9 f9 g93 g94 g96
      · rw [if_pos (by simp [jaT, hl0])]
        refine jag (k := k + 3) f9 (by decide) (by decide) fun ra Ga aa ba fa sa => ?_
        have ga3 := sa _ _ a3.1 g93
        have ga4 := sa _ _ a4.1 g94
        have ga6 := sa _ _ a6.1 g96
        have p8f : p8 ≠ f := (f7.away n8).1
        have ga8 := sa _ _ p8f g98
        simp! only []
        by_cases hr : ra = 0
        · rw [if_pos (by simpa using hr)]
          simp! only [jdc ga6, jeJ ga8, l8]
          have hlp : 0 < l.length := List.length_pos_iff.mpr hl0
          have hll : l.length < 1000 := lle
          refine jag (k := k + 3) fa (by omega) (by omega) fun rb Gb ab bb fb sb => ?_
          have gb8 := sb _ _ p8f ga8
          have gb6 := sb _ _ a6.1 ga6
          obtain ⟨y, hy, ey⟩ := jdu (l := l) ab bb
          rw [ix_l gb8 ((jcS (fun (n : Nat) => U.int (n : Int)) l _).trans (congrArg _ ey))]
          simp! only [jfO gb6]
          refine ⟨by decide, by rw [List.length_map]; exact Nat.lt_of_le_of_lt (show r.length <= 6 by omega) (by decide), fun Gc pc => ?_⟩
          refine hk _ _ ⟨ss, r ++ [(y, 1)], _, _, _, rfl, fb.off a6 pc, pc.sm _ _ (Ne.symm n63) (sb _ _ a3.1 ga3), pc.sm _ _ (Ne.symm n64) (sb _ _ a4.1 ga4), by rw [List.map_append]; exact pc.at, so7, by omega, by simp [rl7], fun e he => ?_⟩
          rcases List.mem_append.mp he with z' | z'
          · exact rr7 e z'
          · rw [List.mem_singleton.mp z']; exact ⟨hl y hy, rfl⟩
        · rw [if_neg (by simpa using hr)]
          exact fresh Ga fa ga3 ga4 ga6
    · rintro j x acc G8 K' hx' ⟨rfl, l, rfl, ll, hl⟩ hk' hn'
      obtain ⟨hj, rfl⟩ := jbt hx'
      obtain ⟨s, es⟩ : ∃ s, ss[j]? = some s := ⟨_, List.getElem?_eq_getElem (by omega)⟩
      refine ⟨trivial, ?_⟩
      have hj' : j < ss.length := by omega
      have sm : ∀ a b : Int, Sml 1 (.tup [.int a, .int b]) := fun a b => Sml.tup fun u hu => by
        simp only [List.mem_cons, List.not_mem_nil, or_false] at hu
        rcases hu with rfl | rfl <;> exact Sml.int _
      have ct : cut [U.str s.w, .int s.o, .int s.t, .int s.lo, .int s.hi] (some 1) (some 3) = [U.int s.o, .int s.t] := rfl
      simp! only [ix_l g74 (atM es), Spn.u, ct]
      refine ⟨_, _, jgm (sm _ _).b, jgm (sm _ _).b, (sm _ _).small (by decide), (sm _ _).small (by decide), ?_⟩
      show (if _ = true then K' (some (U.int (j : Int))) G8 else K' none G8)
      split
      · refine hk' _ _ ⟨rfl, l ++ [j], by unfold jaT; simp, by simp; omega, fun y hy => ?_⟩
        rcases List.mem_append.mp hy with z | z
        · exact hl y z
        · rw [List.mem_singleton.mp z]; exact hj'
      · exact hn' _ ⟨rfl, l, rfl, by omega, hl⟩
theorem jcK (hf:Fd G f c)(q:∀ (xs:List Str) (ss:List Spn) (P:Int) (bs:List Int) (r:List (Nat×Int)) (G':Gp),Wo xs ss P bs r->Fd G' f c->Q (.tup [jaA xs ss,.int P,jaB bs,rU r]) G'):jab T (k + 5) jaR [.loc f] G Q X:=by
 refine ⟨rfl,?_⟩
 simp! only [jaS,jan,List.replicate]
 refine jgd (k:=k + 2) hf fun P G1 h1 h2 f1 s1=>jag (k:=k + 3) f1 (by decide) (by decide) fun r2 G2 a2 b2 f2 s2=>?_
 obtain ⟨W,hW⟩:=Int.eq_ofNat_of_zero_le (show 0<=1 + r2 by omega)
 simp! only []
 rw [hW]
 refine jag (k:=k + 3) f2 (by decide) (by decide) fun r3 G3 a3 b3 f3 s3=>?_
 simp! only []
 refine ⟨by omega,by omega,by rw [jaz]; exact Nat.le_trans (show (1 + r3).toNat<=6 by omega) (by decide),?_⟩
 refine jaC (fun i acc G'=>Fd G' f c/\∃ st:List Nat,acc=jaT st/\st.length=i/\∀ y∈st,y < W) ?_ ?_ ⟨f3,[],rfl,rfl,fun _ h=>nomatch h⟩
 ·rintro acc G4 ⟨f4,st,rfl,sl,so⟩
  rw [jaz] at sl
  refine ⟨trivial,fun p3 G5 n5=>?_⟩
  have aw3:=f4.away n5
  simp! only [jaI]
  refine ⟨by decide,fun p4 G6 n6=>jag (k:=k + 3) ((f4.new n5).new n6) (by decide) (by decide) fun r7 G7 a7 b7 f7 s7=>?_⟩
  have aw4:=(f4.new n5).away n6
  have n43:p3≠p4:=Ne.symm (jbS n5.at n6.no)
  refine ⟨by omega,by omega,?_⟩
  refine jbw (fun i ς G'=>∃ (ss:List Spn) (o5:Option U),ς=[some (.loc f),some (.int P),some (.int (W:Int)),some (.loc p3),some (.loc p4),o5,none,none,none]/\Fd G' f c/\G' p3=some (.lst (jaT st))/\G' p4=some (.lst (ss.map Spn.u))/\(∀ s∈ss,s.Ok W)/\ss.length=i) ?_ ?_
   ⟨[],_,rfl,f7,s7 _ _ aw3.1 (n6.sa _ _ n5.at),s7 _ _ aw4.1 n6.at,(fun _ h=>(nomatch h)),rfl⟩
  ·rintro ς G8 ⟨ss,o5,rfl,f8,g83,g84,so8,sl8⟩
   rw [jaz] at sl8
   exact ⟨trivial,jiL h1 h2 (by omega) (by omega) f8 aw3 aw4 n43 g83 g84 so (by omega) (by omega) so8 (by omega) q⟩
  ·rintro i x ς G8 K hx ⟨ss,o5,rfl,f8,g83,g84,so8,sl8⟩ hk
   obtain ⟨hi,rfl⟩:=jbt hx
   refine ⟨trivial,?_⟩
   simp! only [jdc g84]
   refine jag (k:=k + 3) f8 (by omega) (by omega) fun r9 G9 a9 b9 f9 s9=>jag (k:=k + 3) f9 (by omega) (by omega) fun ra Ga aa ba fa sa=>?_
   obtain ⟨o1,rfl⟩:=Int.eq_ofNat_of_zero_le a9
   obtain ⟨o2,rfl⟩:=Int.eq_ofNat_of_zero_le aa
   refine jfe (k:=k + 1) (W:=W) fa h1 h2 (by omega) (by omega) fun s Gb os fb sb=>?_
   have gb4:=sb _ _ aw4.1 (sa _ _ aw4.1 (s9 _ _ aw4.1 g84))
   have gb3:=sb _ _ aw3.1 (sa _ _ aw3.1 (s9 _ _ aw3.1 g83))
   simp! only [jfO gb4]
   refine ⟨by rw [List.length_map]; exact Nat.lt_of_le_of_lt (show ss.length<=9 by omega) (by decide),fun Gc pc=>?_⟩
   refine hk _ _ ⟨ss++[s],_,rfl,fb.off aw4 pc,pc.sm _ _ n43 gb3,by rw [List.map_append]; exact pc.at,fun z hz=>?_,by simp [sl8]⟩
   rcases List.mem_append.mp hz with z' | z'
   ·exact so8 z z'
   ·rw [List.mem_singleton.mp z']; exact os
 ·rintro i x acc G4 K hx ⟨f4,st,rfl,sl,so⟩ hk _
  refine ⟨trivial,?_⟩
  simp! only []
  refine jag (k:=k + 3) f4 (by omega) (by omega) fun r5 G5 a5 b5 f5 s5=>?_
  obtain ⟨y,rfl⟩:=Int.eq_ofNat_of_zero_le a5
  refine hk _ _ ⟨f5,st++[y],by unfold jaT; simp,by simp [sl],fun z hz=>?_⟩
  rcases List.mem_append.mp hz with z' | z'
  ·exact so z z'
  ·rw [List.mem_singleton.mp z']; omega
end

set_option maxHeartbeats 2000000
theorem jib {xs:List Str}{ss:List Spn}{W:Nat}(w8:W<=8)(x8:xs.length<=8)(nm:∀ x∈xs,Nm x)(sl:ss.length<=24)(so:∀ s∈ss,s.Ok W):Ft 600000 3 (jaA xs ss):=by
 refine Ft.tup (n:=250000) (m:=2) (k:=2) (Nat.le_refl _) (fun u hu=>?_) (by decide)
 simp only [List.mem_cons,List.not_mem_nil,or_false] at hu
 rcases hu with rfl | rfl
 ·refine (Ft.tup (n:=82) (m:=8) (k:=0) (N:=1000) (by rw [List.length_map]; exact x8) (fun u hu=>?_) (by decide)).mono (by decide) (by decide)
  obtain ⟨x,hx,rfl⟩:=List.mem_map.mp hu
  exact Ft.str (m:=8) (nm x hx).l8 (nm x hx).ch
 ·refine Ft.tup (n:=10000) (m:=24) (k:=1) (by rw [List.length_map]; exact sl) (fun u hu=>?_) (by decide)
  obtain ⟨s,hs,rfl⟩:=List.mem_map.mp hu
  exact (so s hs).ft w8
theorem jic {l:List Int}(h8:l.length<=24)(h:∀ z∈l,-100000<=z/\z<=100000):Ft 50000 1 (jaB l):=by
 refine Ft.tup (n:=1921) (m:=24) (k:=0) (by rw [List.length_map]; exact h8) (fun u hu=>?_) (by decide)
 obtain ⟨z,hz,rfl⟩:=List.mem_map.mp hu
 exact jen (h z hz)
theorem jia {r:List (Nat×Int)}(h8:r.length<=60)(h:∀ e∈r,e.1<=100/\(e.2=1\/e.2=-1)):Ft 300000 2 (rU r):=by
 refine Ft.tup (n:=4000) (m:=60) (k:=1) (by rw [List.length_map]; exact h8) (fun u hu=>?_) (by decide)
 obtain ⟨e,he,rfl⟩:=List.mem_map.mp hu
 have:=h e he
 refine Ft.tup (n:=1921) (m:=2) (k:=0) (Nat.le_refl _) (fun u hu=>?_) (by decide)
 simp only [List.mem_cons,List.not_mem_nil,or_false] at hu
 rcases hu with rfl | rfl
 ·exact jen (by omega)
 ·exact jen (by omega)
theorem jgD {B:Int}:∀ l:List Int,(∀ z∈l,z<=B)->l.sum<=l.length * B
 | [],_=>by simp
 | z::l,h=>by
  rw [List.sum_cons,List.length_cons,Int.natCast_succ,Int.add_mul,Int.one_mul]
  have:=h z (by simp)
  have:=jgD l fun y hy=>h y (by simp [hy])
  omega
section
variable {k:Nat}{G:Gp}{X:KX}{xs:List Str}{ss:List Spn}{P:Int}{bs:List Int}{r:List (Nat×Int)}{a f c:Addr}{K:Sg->Gp->Prop}{Q:K1}
theorem Rg.up (h:Rg xs ss P bs r)(hb:jaw r=false):jaH P bs ss r<=1000000:=by
 have hp1:=h.p1
 have hp2:=h.p2
 have h1:sumZ P bs ss r<=(r.map fun e=>e.2 * lenZ P bs (ss.getD e.1 s0Z)).length * 10599:=jgD _ fun z hz=>by
  obtain ⟨e,he,rfl⟩:=List.mem_map.mp hz
  show e.2 * lenZ P bs (ss.getD e.1 s0Z)<=10599
  rw [h.all1 hb e he,Int.one_mul]
  have:=(jdN (P:=P) (bs:=bs) (by omega) (h.at he).2).2
  omega
 rw [List.length_map] at h1
 have hl:=h.rl
 have h2:0<=sumZ P bs ss r:=je1 _ fun z hz=>by
  obtain ⟨e,he,rfl⟩:=List.mem_map.mp hz
  show 0<=e.2 * lenZ P bs (ss.getD e.1 s0Z)
  rw [h.all1 hb e he,Int.one_mul]
  exact (jdN (by omega) (h.at he).2).1
 have h3:sumZ P bs ss r / P<=sumZ P bs ss r:=Int.ediv_le_self _ h2
 unfold jaH
 omega
theorem jdj {w:Str}(h:w.length<=8)(hc:∀ c∈w.cps.toList,c < 16 ^ 8):Fits 16000000 60 (.list [.str "word",.str w]):=by
 refine (Fits.lstLe (n:=82) (m:=2) (k:=0) (N:=1000) (Nat.le_refl _) (fun d hd=>?_) (by decide)).mono (by decide) (by decide)
 simp only [List.mem_cons,List.not_mem_nil,or_false] at hd
 rcases hd with rfl | rfl
 ·exact Fits.str (m:=8) (by decide +kernel) (by decide +kernel)
 ·exact Fits.str (m:=8) h hc
theorem jgx (h:Rg xs ss P bs r)(w:Int):∃ z:Str,∀ (G:Gp) (Q:U->U->Gp->Prop),(∀ u G',Sa G G'->Q u (.str z) G')->Ans P bs ss r w G (fun u G'=>jcE [u] G' (Q u)):=by
 by_cases hb:jaw r=true
 ·exact ⟨_,fun G Q q=>⟨fun _ p G' s g=>⟨.list [.str "word",.str "back"],.lst (by unfold lsG; rw [g]) (.cons (.str _) (.cons (.str _) .nil)),jdj (by decide +kernel) (by decide +kernel),q _ _ s⟩,(fun z=>absurd (hb.symm.trans z) (by decide)),(fun z=>absurd (hb.symm.trans z) (by decide)),(fun z=>absurd (hb.symm.trans z) (by decide)),(fun z=>absurd (hb.symm.trans z) (by decide))⟩⟩
 ·have hb':jaw r=false:=by simpa using hb
  have up:=h.up hb'
  have nn:=h.nn hb'
  by_cases hm:jaH P bs ss r=0
  ·exact ⟨_,fun G Q q=>⟨fun z=>absurd z hb,fun _ _ p G' s g=>⟨.list [.str "word",.str "none"],.lst (by unfold lsG; rw [g]) (.cons (.str _) (.cons (.str _) .nil)),jdj (by decide +kernel) (by decide +kernel),q _ _ s⟩,fun _ z=>by omega,fun _ z=>by omega,fun _ z=>by omega⟩⟩
  ·by_cases w0:w=0
   ·exact ⟨_,fun G Q q=>⟨fun z=>absurd z hb,fun _ z=>absurd z hm,fun _ _ _ G' s=>je6 (Ft.int (Nat.lt_of_le_of_lt (show (jaH P bs ss r).natAbs<=1000000 by omega) (by decide))) (by decide) (by decide) (q _ _ s),fun _ _ z=>by omega,fun _ _ z=>by omega⟩⟩
   ·by_cases w1:w=1
    ·exact ⟨_,fun G Q q=>⟨fun z=>absurd z hb,fun _ z=>absurd z hm,fun _ _ z=>absurd z w0,fun _ _ _ G' s=>je6 (Ft.int (i:=0) (by decide)) (by decide) (by decide) (q _ _ s),fun _ _ z=>by omega⟩⟩
    ·exact ⟨_,fun G Q q=>⟨fun z=>absurd z hb,fun _ z=>absurd z hm,fun _ _ z=>absurd z w0,fun _ _ z=>absurd z w1,fun _ _ _ p G' s g=>⟨.list [],.lst (by unfold lsG; rw [g]) .nil,(Fits.lstLe (n:=1) (m:=0) (k:=0) (N:=1000) (Nat.le_refl _) (fun d hd=>by cases hd) (by decide)).mono (by decide) (by decide),q _ _ s⟩⟩⟩
noncomputable def Rest (a f:Addr)(ς:Sg):Prop:=∃ o2 o3 o4 o5 o6 o7 o8 o9 o10 o11 o12 o13 o14 o15:Option U,ς=[some (.loc a),some (.loc f),o2,o3,o4,o5,o6,o7,o8,o9,o10,o11,o12,o13,o14,o15]
theorem Rg.ring (h:Rg xs ss P bs r){r':List (Nat×Int)}(h0:0 < r'.length)(hl:r'.length<=60)(hr:∀ e∈r',e.1 < ss.length/\(e.2=1\/e.2=-1)):Rg xs ss P bs r':=⟨h.p1,h.p2,h.x0,h.x8,h.nm,h.bl,h.bb,h.so,h.sl,h0,hl,hr⟩
theorem jle {u2 u7 u9 u13 u14 u15:Option U}{n:Nat}{z0:Str}{bk tn:List (Nat×Int)}(h:Rg xs ss P bs r)(hbk:Rg xs ss P bs bk)(htn:Rg xs ss P bs tn)(hn:n < r.length)(hf:Fd G f c)(hz:∀ (G:Gp) (Q:K1),Q (.str z0) G->jcE [.tup [jaA xs ss,jaB bs,rU r]] G Q)(kk:∀ ς G',Rest a f ς->Fd G' f c->K ς G') :
  jax T.gs (jab T (k + 6)) jbq ⟨K,Q,fun x _ G'=>X x G'⟩ [some (.loc a),some (.loc f),u2,some (jaA xs ss),some (.int P),some (jaB bs),some (rU r),u7,some (.int n),u9,some (rU bk),some (rU tn),some (.str z0),u13,u14,u15] G:=by
 have hrl:=h.rl
 have five:Rg xs ss P bs (r.drop n++r.take n):=h.ring (by simp; omega) (by simp; omega) fun e he=>by
  rcases List.mem_append.mp he with z | z
  ·exact h.rr e (List.mem_of_mem_drop z)
  ·exact h.rr e (List.mem_of_mem_take z)
 simp! only [jbq]
 rw [show rU r=.tup (r.map eU) from rfl]
 simp! only [jdn,jer]
 refine ⟨?_,by decide,fun p G1 n1=>?_⟩
 ·rw [List.length_drop,List.length_take,List.length_map]
  exact Nat.le_trans (show r.length - n + min n r.length<=60 by omega) (by decide)
 have e5:U.tup ((r.map eU).drop n++(r.map eU).take n)=rU (r.drop n++r.take n):=by unfold rU; rw [List.map_append,List.map_drop,List.map_take]
 rw [e5] at n1
 show itU (.loc p) G1 _
 rw [it_l n1.at]
 obtain ⟨rs,hrs,hrg⟩:∃ rs:List (List (Nat×Int)),rs=[r,bk,r,tn,r.drop n++r.take n]/\∀ r'∈rs,Rg xs ss P bs r':=⟨_,rfl,fun r' hr'=>by
  simp only [List.mem_cons,List.not_mem_nil,or_false] at hr'
  rcases hr' with rfl | rfl | rfl | rfl | rfl
  ·exact h
  ·exact hbk
  ·exact h
  ·exact htn
  ·exact five⟩
 have ers:[U.tup (r.map eU),rU bk,U.tup (r.map eU),rU tn,rU (r.drop n++r.take n)]=rs.map rU:=by rw [hrs]; rfl
 rw [ers] at n1 ⊢
 refine jbw (fun i ς G'=>(∃ o13 o14 o15:Option U,ς=[some (.loc a),some (.loc f),u2,some (jaA xs ss),some (.int P),some (jaB bs),some (.tup (r.map eU)),u7,some (.int n),u9,some (rU bk),some (rU tn),some (.str z0),o13,o14,o15])/\Sa G1 G') ?_ ?_ ⟨⟨_,_,_,rfl⟩,Sa.refl⟩
 ·rintro ς G2 ⟨⟨o13,o14,o15,rfl⟩,s2⟩
  refine ⟨by unfold lsG; rw [s2 _ _ n1.at],?_⟩
  simp! only []
  refine ⟨by decide,hz _ _ ?_⟩
  simp! only []
  rw [if_neg (by simp)]
  exact kk _ _ ⟨_,_,_,_,_,_,_,_,_,_,_,_,_,_,rfl⟩ ((hf.new n1).sa s2)
 ·rintro i x ς G2 K' hx ⟨⟨o13,o14,o15,rfl⟩,s2⟩ hk
  rw [List.getElem?_map] at hx
  obtain ⟨r',er,rfl⟩:∃ r',rs[i]?=some r'/\rU r'=x:=by
   cases z:rs[i]? with
   | none=>rw [z] at hx; cases hx
   | some e=>rw [z] at hx; exact ⟨e,rfl,by simpa using hx⟩
  have hr':=hrg r' (List.mem_of_getElem? er)
  refine ⟨by unfold lsG; rw [s2 _ _ n1.at],?_⟩
  simp! only []
  refine ⟨by decide,by decide,?_⟩
  refine jbw (fun i ς G'=>(∃ o14 o15:Option U,ς=[some (.loc a),some (.loc f),u2,some (jaA xs ss),some (.int P),some (jaB bs),some (.tup (r.map eU)),u7,some (.int n),u9,some (rU bk),some (rU tn),some (.str z0),some (rU r'),o14,o15])/\Sa G1 G') ?_ ?_ ⟨⟨_,_,rfl⟩,s2⟩
  ·rintro ς G3 ⟨⟨o14,o15,rfl⟩,s3⟩
   exact ⟨trivial,hk _ _ ⟨⟨_,_,_,rfl⟩,s3⟩⟩
  ·rintro j y ς G3 K'' hy ⟨⟨o14,o15,rfl⟩,s3⟩ hk'
   obtain ⟨hj,rfl⟩:=jbt hy
   refine ⟨trivial,?_⟩
   obtain ⟨z,hza⟩:=jgx hr' (j:Int)
   simp! only []
   refine ⟨by decide,jhN (k:=k + 1) hr' (by omega) (by omega) ?_⟩
   refine hza G3 _ fun u G4 s4=>?_
   simp! only []
   refine ⟨by decide,jjr (k:=k + 3) hr' (by omega) (by omega) ?_⟩
   refine hza G4 _ fun u' G5 s5=>?_
   simp! only []
   rw [if_neg (by simp)]
   exact hk' _ _ ⟨⟨_,_,rfl⟩,s3.trans (s4.trans s5)⟩
end

set_option maxHeartbeats 2000000
section
variable {k:Nat}{G:Gp}{X:KX}{xs:List Str}{ss:List Spn}{P:Int}{bs:List Int}{r:List (Nat×Int)}{a f c:Addr}{K:Sg->Gp->Prop}{Q:K1}
noncomputable def negE (e:Nat×Int):Nat×Int:=(e.1,0 - e.2)
noncomputable def jjt:U->U
 | .tup [a,.int w]=>.tup [a,.int (0 - w)]
 | u=>u
theorem jhR (r:List (Nat×Int)):(r.map eU).map jjt=(r.map negE).map eU:=by
 rw [List.map_map,List.map_map]
 exact List.map_congr_left fun e _=>rfl
theorem jkV {us:List U}{G:Gp}{Q:K1}:revU (.tup us) (.int (-1)) G Q=Q (.tup us.reverse) G:=by
 unfold revU
 exact propext ⟨fun h=>h.2,fun h=>⟨rfl,h⟩⟩
theorem jjF {u2 u7 u8 u9 u10 u11 u12 u13 u14 u15:Option U}(h:Rg xs ss P bs r)(hl:r.length<=54)(hf:Fd G f c)(kk:∀ ς G',Rest a f ς->Fd G' f c->K ς G') :
  jax T.gs (jab T (k + 6)) jbr ⟨K,Q,fun x _ G'=>X x G'⟩ [some (.loc a),some (.loc f),u2,some (jaA xs ss),some (.int P),some (jaB bs),some (rU r),u7,u8,u9,u10,u11,u12,u13,u14,u15] G:=by
 have hr0:=h.r0
 have hsl:=h.sl
 rw [show rU r=.tup (r.map eU) from rfl]
 simp! only [jbr,List.length_map]
 refine jag (k:=k + 5) hf (by omega) (by omega) fun rn G1 a1 b1 f1 s1=>?_
 obtain ⟨n,rfl⟩:=Int.eq_ofNat_of_zero_le a1
 have hn:n < r.length:=by omega
 obtain ⟨e,he⟩:∃ e,r[n]?=some e:=⟨_,List.getElem?_eq_getElem hn⟩
 have hee:=h.rr e (List.mem_of_getElem? he)
 simp! only [ix_t (atM he),eU,ix_t (jgw _ _),jdn,jer]
 obtain ⟨bk,hbk⟩:∃ bk:List (Nat×Int),bk=r.take n++[(e.1,1),(e.1,-1)]++r.drop n:=⟨_,rfl⟩
 have ebk:(r.map eU).take n++[U.tup [.int e.1,.int 1],.tup [.int e.1,.int (-1)]]++(r.map eU).drop n=bk.map eU:=by
  rw [hbk,List.map_append,List.map_append,List.map_take,List.map_drop]; rfl
 have rbk:Rg xs ss P bs bk:=h.ring (by rw [hbk]; simp; omega) (by rw [hbk]; simp; omega) fun x hx=>by
  rw [hbk] at hx
  rcases List.mem_append.mp hx with z | z
  ·rcases List.mem_append.mp z with z | z
   ·exact h.rr x (List.mem_of_mem_take z)
   ·simp only [List.mem_cons,List.not_mem_nil,or_false] at z
    rcases z with rfl | rfl
    ·exact ⟨hee.1,.inl rfl⟩
    ·exact ⟨hee.1,.inr rfl⟩
  ·exact h.rr x (List.mem_of_mem_drop z)
 have rtn:Rg xs ss P bs (r.reverse.map negE):=h.ring (by simp; omega) (by simp; omega) fun x hx=>by
  obtain ⟨y,hy,rfl⟩:=List.mem_map.mp hx
  have:=h.rr y (List.mem_reverse.mp hy)
  exact ⟨this.1,by show 0 - y.2=1\/0 - y.2=-1; omega⟩
 obtain ⟨z0,hz⟩:∃ z:Str,∀ (G:Gp) (Q:K1),Q (.str z) G->jcE [.tup [jaA xs ss,jaB bs,rU r]] G Q:=⟨_,fun G Q q=>je6 (Ft.tup (n:=600000) (m:=3) (k:=3) (N:=3000000) (Nat.le_refl _) (fun u hu=>by
  simp only [List.mem_cons,List.not_mem_nil,or_false] at hu
  have hp2:=h.p2
  rcases hu with rfl | rfl | rfl
  ·exact jib h.x8 h.x8 h.nm h.sl h.so
  ·exact (jic (by have:=h.bl; have:=h.x8; omega) (fun z hz=>by have:=h.bb z hz; omega)).mono (by decide) (by decide)
  ·exact (jia h.rl fun e he=>by have:=h.rr e he; omega).mono (by decide) (by decide)) (by decide)) (by decide) (by decide) q⟩
 rw [ebk]
 refine ⟨by decide,by decide,by decide,?_,?_,?_⟩
 ·rw [List.length_take,List.length_map]
  exact Nat.le_trans (show min n r.length + (0 + 1 + 1)<=60 by omega) (by decide)
 ·rw [List.length_append,List.length_take,List.length_drop,List.length_map]
  exact Nat.le_trans (show min n r.length + [U.tup [.int e.1,.int 1],.tup [.int e.1,.int (-1)]].length + (r.length - n)<=60 by simp; omega) (by decide)
 simp! only [jkV]
 refine ⟨by rw [List.length_reverse,List.length_map]; exact Nat.le_trans (show r.length<=60 by omega) (by decide),?_⟩
 rw [<- List.map_reverse]
 refine jbo jjt trivial (fun x hx K' hk=>?_) (fun p2 G2 n2=>?_)
 ·obtain ⟨y,hy,rfl⟩:=List.mem_map.mp hx
  rw [show eU y=.tup [.int y.1,.int y.2] from rfl] at hk ⊢
  simp! only []
  exact ⟨trivial,by decide,hk⟩
 rw [List.nil_append,jhR] at n2
 simp! only [it_l n2.at,jck]
 refine ⟨by decide,hz _ _ ?_⟩
 exact jle (k:=k) h rbk rtn hn (f1.new n2) hz kk
theorem jlf {ς:Sg}(rs:Rest a f ς){i:Int}(hf:Fd G f c)(kk:∀ ς G',Rest a f ς->Fd G' f c->K ς G') :
  jax T.gs (jab T (k + 6)) jbs ⟨K,Q,fun x _ G'=>X x G'⟩ (ς.set 2 (some (.int i))) G:=by
 obtain ⟨o2,o3,o4,o5,o6,o7,o8,o9,o10,o11,o12,o13,o14,o15,rfl⟩:=rs
 simp! only [jbs]
 refine jcK (k:=k + 1) hf fun xs ss P bs r G1 w f1=>?_
 simp! only [jcl]
 refine ⟨trivial,jag (k:=k + 5) f1 (by decide) (by decide) fun r2 G2 a2 b2 f2 s2=>?_⟩
 simp! only []
 by_cases hr:r2=0
 ·rw [if_pos (by simpa using hr)]
  have h:=w.g
  obtain ⟨b,hb⟩:∃ b,bs[0]?=some b:=⟨_,List.getElem?_eq_getElem (by have:=h.bl; have:=h.x0; omega)⟩
  have a0:atI (bs.map U.int) 0=some (.int b):=atM (n:=0) hb
  obtain ⟨zs,hzs⟩:∃ zs:List Spn,zs=ss.map fun s=>⟨"span",s.o,s.t,0,s.hi⟩:=⟨_,rfl⟩
  simp! only [ix_t (show atI [U.tup (xs.map .str),U.tup (ss.map Spn.u)] 1=_ from jcT _ _ _),ix_t (show atI [U.tup (xs.map .str),U.tup (ss.map Spn.u)] 0=_ from jgw _ _),jaA]
  refine ⟨by rw [List.length_map]; exact Nat.le_trans h.sl (by decide),?_⟩
  refine jbo (fun u=>match u with | .tup [_,b,c,_,e]=>.tup [.str "span",b,c,.int 0,e] | u=>u) trivial (fun x hx K' hk=>?_) (fun p3 G3 n3=>?_)
  ·obtain ⟨s,hs,rfl⟩:=List.mem_map.mp hx
   rw [show s.u=.tup [.str s.w,.int s.o,.int s.t,.int s.lo,.int s.hi] from rfl] at hk ⊢
   simp! only []
   exact ⟨trivial,by decide,hk⟩
  have ez:(ss.map Spn.u).map (fun u=>match u with | .tup [_,b,c,_,e]=>.tup [.str "span",b,c,.int 0,e] | u=>u)=zs.map Spn.u:=by
   rw [hzs,List.map_map,List.map_map]
   exact List.map_congr_left fun s _=>rfl
  rw [List.nil_append,ez] at n3
  simp! only [it_l n3.at,jaB,ix_t a0,List.length_map]
  have hbl:=h.bl
  have hx8:=h.x8
  have hx0:=h.x0
  have er:(List.replicate bs.length [U.int b]).flatten=(List.replicate bs.length b).map .int:=by
   generalize bs.length=n
   induction n with
   | zero=>rfl
   | succ n ih=>rw [List.replicate_succ,List.flatten_cons,ih,List.replicate_succ]; rfl
  rw [er]
  refine ⟨by decide,by decide,by simp,by omega,by omega,?_,trivial,?_⟩
  ·exact Nat.le_trans (show (0 + 1) * bs.length<=8 by omega) (by decide)
  have g':Rg xs zs P (List.replicate bs.length b) r:=⟨h.p1,h.p2,h.x0,h.x8,h.nm,by simp [hbl],fun y hy=>by rw [(List.mem_replicate.mp hy).2]; exact h.bb b (List.mem_of_getElem? hb),fun s hs=>by
   rw [hzs] at hs
   obtain ⟨s',hs',rfl⟩:=List.mem_map.mp hs
   have o:=h.so s' hs'
   exact ⟨.inr rfl,o.o,o.t,⟨Int.le_refl 0,show (0:Int)<=9999 by decide⟩,o.hi⟩,by rw [hzs,List.length_map]; exact h.sl,h.r0,h.rl,fun e he=>by rw [hzs,List.length_map]; exact h.rr e he⟩
  exact jjF (k:=k) g' w.l (f2.new n3) kk
 ·rw [if_neg (by simpa using hr)]
  simp! only []
  exact jjF (k:=k) w.g w.l f2 kk
end
theorem law_ir (a:Addr)(ns:List Int)(hl:ns.length<=63):jab T 300 jeE [.loc a] (G0 a ns) (fun u _=>u=.bl true) fun _ _=>False:=by
 refine ⟨rfl,?_⟩
 simp! only [jgp,jan,List.replicate]
 refine jhO (k:=298) (ns:=ns) (by unfold G0; rw [if_pos rfl]) hl fun f c G1 f1=>?_
 simp! only [jeY]
 refine ⟨by decide,by decide,?_⟩
 refine jbw (fun i ς G'=>Rest a f ς/\Fd G' f c) ?_ ?_ ⟨⟨_,_,_,_,_,_,_,_,_,_,_,_,_,_,rfl⟩,f1⟩
 ·rintro ς G2 ⟨⟨o2,o3,o4,o5,o6,o7,o8,o9,o10,o11,o12,o13,o14,o15,rfl⟩,f2⟩
  refine ⟨trivial,?_⟩
  simp! only []
 ·rintro i x ς G2 K hx ⟨r,f2⟩ hk
  obtain ⟨hi,rfl⟩:=jbt hx
  refine ⟨trivial,?_⟩
  exact jlf (k:=293) r f2 fun ς' G' r' f'=>hk _ _ ⟨r',f'⟩

noncomputable def sts:List Stmt:=[s_length_of,s_step_of,s_ends_of,s_rounds_in,s_vehicles,s_vehicle_at,s_vehicle_row,s_law_feed,s_law_draw,s_law_names,s_law_cycle,s_law_number,s_law_span,s_law_beats,s_law_leg,s_law_ring_world,s_law_vehicles,s_law_told,s_law_due,s_law]
theorem jee:jdG T T.funs sts=true:=by decide +kernel
theorem je9:jez T T.funs sts:=⟨rfl,rfl,rfl,rfl,rfl,rfl,rfl,rfl,rfl,rfl,rfl,rfl,rfl,rfl,rfl,rfl,rfl,rfl,rfl,rfl,trivial⟩
theorem ln1 {α:Type}(us:List α)(h:us.length=1):∃ u0,us=[u0]:=by
 obtain _ | ⟨u0,us⟩:=us
 ·cases h
 obtain _ | ⟨_,_⟩:=us
 ·exact ⟨_,rfl⟩
 ·cases h
theorem ln2 {α:Type}(us:List α)(h:us.length=2):∃ u0 u1,us=[u0,u1]:=by
 obtain _ | ⟨u0,us⟩:=us
 ·cases h
 obtain _ | ⟨u1,us⟩:=us
 ·cases h
 obtain _ | ⟨_,_⟩:=us
 ·exact ⟨_,_,rfl⟩
 ·cases h
theorem ln3 {α:Type}(us:List α)(h:us.length=3):∃ u0 u1 u2,us=[u0,u1,u2]:=by
 obtain _ | ⟨u0,us⟩:=us
 ·cases h
 obtain _ | ⟨u1,us⟩:=us
 ·cases h
 obtain _ | ⟨u2,us⟩:=us
 ·cases h
 obtain _ | ⟨_,_⟩:=us
 ·exact ⟨_,_,_,rfl⟩
 ·cases h
theorem ln4 {α:Type}(us:List α)(h:us.length=4):∃ u0 u1 u2 u3,us=[u0,u1,u2,u3]:=by
 obtain _ | ⟨u0,us⟩:=us
 ·cases h
 obtain _ | ⟨u1,us⟩:=us
 ·cases h
 obtain _ | ⟨u2,us⟩:=us
 ·cases h
 obtain _ | ⟨u3,us⟩:=us
 ·cases h
 obtain _ | ⟨_,_⟩:=us
 ·exact ⟨_,_,_,_,rfl⟩
 ·cases h
theorem ln6 {α:Type}(us:List α)(h:us.length=6):∃ u0 u1 u2 u3 u4 u5,us=[u0,u1,u2,u3,u4,u5]:=by
 obtain _ | ⟨u0,us⟩:=us
 ·cases h
 obtain _ | ⟨u1,us⟩:=us
 ·cases h
 obtain _ | ⟨u2,us⟩:=us
 ·cases h
 obtain _ | ⟨u3,us⟩:=us
 ·cases h
 obtain _ | ⟨u4,us⟩:=us
 ·cases h
 obtain _ | ⟨u5,us⟩:=us
 ·cases h
 obtain _ | ⟨_,_⟩:=us
 ·exact ⟨_,_,_,_,_,_,rfl⟩
 ·cases h
theorem all_mk {l:PySem.W.OpenLaw}{w:World}{K:PySem.W.Frag}{h:Heap}{mg:Str->Option Value}{fa:Addr}(X:K.In h)(G:h.Ns mainGlobals mg)(hfa:mg "law" = some (.ref fa))
  {f0:Addr} {od0 an0:Option Addr} {sl0:Array (Option Value)} {oc0 kV0 dc0 pm0 cd0 ct0:Value}
  (a0:PySem.W.nsIn K mainGlobals "length_of" = some (some (.ref f0))) (l0:K.lookup f0=some ⟨oc0,od0,.func (PySem.W.fnOf "length_of" "length_of" (defArgs s_length_of) (defBody s_length_of) (defScope s_length_of) .none kV0 dc0 pm0 an0 cd0 ct0),sl0⟩) (c0:PySem.W.codeIn K cd0 "length_of" = true) (k0:PySem.W.keepIn K (.ref f0)=true)
  {f1:Addr} {od1 an1:Option Addr} {sl1:Array (Option Value)} {oc1 kV1 dc1 pm1 cd1 ct1:Value}
  (a1:PySem.W.nsIn K mainGlobals "step_of" = some (some (.ref f1))) (l1:K.lookup f1=some ⟨oc1,od1,.func (PySem.W.fnOf "step_of" "step_of" (defArgs s_step_of) (defBody s_step_of) (defScope s_step_of) .none kV1 dc1 pm1 an1 cd1 ct1),sl1⟩) (c1:PySem.W.codeIn K cd1 "step_of" = true) (k1:PySem.W.keepIn K (.ref f1)=true)
  {f2:Addr} {od2 an2:Option Addr} {sl2:Array (Option Value)} {oc2 kV2 dc2 pm2 cd2 ct2:Value}
  (a2:PySem.W.nsIn K mainGlobals "ends_of" = some (some (.ref f2))) (l2:K.lookup f2=some ⟨oc2,od2,.func (PySem.W.fnOf "ends_of" "ends_of" (defArgs s_ends_of) (defBody s_ends_of) (defScope s_ends_of) .none kV2 dc2 pm2 an2 cd2 ct2),sl2⟩) (c2:PySem.W.codeIn K cd2 "ends_of" = true) (k2:PySem.W.keepIn K (.ref f2)=true)
  {f3:Addr} {od3 an3:Option Addr} {sl3:Array (Option Value)} {oc3 kV3 dc3 pm3 cd3 ct3:Value}
  (a3:PySem.W.nsIn K mainGlobals "rounds_in" = some (some (.ref f3))) (l3:K.lookup f3=some ⟨oc3,od3,.func (PySem.W.fnOf "rounds_in" "rounds_in" (defArgs s_rounds_in) (defBody s_rounds_in) (defScope s_rounds_in) .none kV3 dc3 pm3 an3 cd3 ct3),sl3⟩) (c3:PySem.W.codeIn K cd3 "rounds_in" = true) (k3:PySem.W.keepIn K (.ref f3)=true)
  {f4:Addr} {od4 an4:Option Addr} {sl4:Array (Option Value)} {oc4 kV4 dc4 pm4 cd4 ct4:Value}
  (a4:PySem.W.nsIn K mainGlobals "vehicles" = some (some (.ref f4))) (l4:K.lookup f4=some ⟨oc4,od4,.func (PySem.W.fnOf "vehicles" "vehicles" (defArgs s_vehicles) (defBody s_vehicles) (defScope s_vehicles) .none kV4 dc4 pm4 an4 cd4 ct4),sl4⟩) (c4:PySem.W.codeIn K cd4 "vehicles" = true) (k4:PySem.W.keepIn K (.ref f4)=true)
  {f5:Addr} {od5 an5:Option Addr} {sl5:Array (Option Value)} {oc5 kV5 dc5 pm5 cd5 ct5:Value}
  (a5:PySem.W.nsIn K mainGlobals "vehicle_at" = some (some (.ref f5))) (l5:K.lookup f5=some ⟨oc5,od5,.func (PySem.W.fnOf "vehicle_at" "vehicle_at" (defArgs s_vehicle_at) (defBody s_vehicle_at) (defScope s_vehicle_at) .none kV5 dc5 pm5 an5 cd5 ct5),sl5⟩) (c5:PySem.W.codeIn K cd5 "vehicle_at" = true) (k5:PySem.W.keepIn K (.ref f5)=true)
  {f6:Addr} {od6 an6:Option Addr} {sl6:Array (Option Value)} {oc6 kV6 dc6 pm6 cd6 ct6:Value}
  (a6:PySem.W.nsIn K mainGlobals "vehicle_row" = some (some (.ref f6))) (l6:K.lookup f6=some ⟨oc6,od6,.func (PySem.W.fnOf "vehicle_row" "vehicle_row" (defArgs s_vehicle_row) (defBody s_vehicle_row) (defScope s_vehicle_row) .none kV6 dc6 pm6 an6 cd6 ct6),sl6⟩) (c6:PySem.W.codeIn K cd6 "vehicle_row" = true) (k6:PySem.W.keepIn K (.ref f6)=true)
  {f7:Addr} {od7 an7:Option Addr} {sl7:Array (Option Value)} {oc7 kV7 dc7 pm7 cd7 ct7:Value}
  (a7:PySem.W.nsIn K mainGlobals "_law_feed" = some (some (.ref f7))) (l7:K.lookup f7=some ⟨oc7,od7,.func (PySem.W.fnOf "_law_feed" "_law_feed" (defArgs s_law_feed) (defBody s_law_feed) (defScope s_law_feed) .none kV7 dc7 pm7 an7 cd7 ct7),sl7⟩) (c7:PySem.W.codeIn K cd7 "_law_feed" = true) (k7:PySem.W.keepIn K (.ref f7)=true)
  {f8:Addr} {od8 an8:Option Addr} {sl8:Array (Option Value)} {oc8 kV8 dc8 pm8 cd8 ct8:Value}
  (a8:PySem.W.nsIn K mainGlobals "_law_draw" = some (some (.ref f8))) (l8:K.lookup f8=some ⟨oc8,od8,.func (PySem.W.fnOf "_law_draw" "_law_draw" (defArgs s_law_draw) (defBody s_law_draw) (defScope s_law_draw) .none kV8 dc8 pm8 an8 cd8 ct8),sl8⟩) (c8:PySem.W.codeIn K cd8 "_law_draw" = true) (k8:PySem.W.keepIn K (.ref f8)=true)
  {f9:Addr} {od9 an9:Option Addr} {sl9:Array (Option Value)} {oc9 kV9 dc9 pm9 cd9 ct9:Value}
  (a9:PySem.W.nsIn K mainGlobals "_law_names" = some (some (.ref f9))) (l9:K.lookup f9=some ⟨oc9,od9,.func (PySem.W.fnOf "_law_names" "_law_names" (defArgs s_law_names) (defBody s_law_names) (defScope s_law_names) .none kV9 dc9 pm9 an9 cd9 ct9),sl9⟩) (c9:PySem.W.codeIn K cd9 "_law_names" = true) (k9:PySem.W.keepIn K (.ref f9)=true)
  {f10:Addr} {od10 an10:Option Addr} {sl10:Array (Option Value)} {oc10 kV10 dc10 pm10 cd10 ct10:Value}
  (a10:PySem.W.nsIn K mainGlobals "_law_cycle" = some (some (.ref f10))) (l10:K.lookup f10=some ⟨oc10,od10,.func (PySem.W.fnOf "_law_cycle" "_law_cycle" (defArgs s_law_cycle) (defBody s_law_cycle) (defScope s_law_cycle) .none kV10 dc10 pm10 an10 cd10 ct10),sl10⟩) (c10:PySem.W.codeIn K cd10 "_law_cycle" = true) (k10:PySem.W.keepIn K (.ref f10)=true)
  {f11:Addr} {od11 an11:Option Addr} {sl11:Array (Option Value)} {oc11 kV11 dc11 pm11 cd11 ct11:Value}
  (a11:PySem.W.nsIn K mainGlobals "_law_number" = some (some (.ref f11))) (l11:K.lookup f11=some ⟨oc11,od11,.func (PySem.W.fnOf "_law_number" "_law_number" (defArgs s_law_number) (defBody s_law_number) (defScope s_law_number) .none kV11 dc11 pm11 an11 cd11 ct11),sl11⟩) (c11:PySem.W.codeIn K cd11 "_law_number" = true) (k11:PySem.W.keepIn K (.ref f11)=true)
  {f12:Addr} {od12 an12:Option Addr} {sl12:Array (Option Value)} {oc12 kV12 dc12 pm12 cd12 ct12:Value}
  (a12:PySem.W.nsIn K mainGlobals "_law_span" = some (some (.ref f12))) (l12:K.lookup f12=some ⟨oc12,od12,.func (PySem.W.fnOf "_law_span" "_law_span" (defArgs s_law_span) (defBody s_law_span) (defScope s_law_span) .none kV12 dc12 pm12 an12 cd12 ct12),sl12⟩) (c12:PySem.W.codeIn K cd12 "_law_span" = true) (k12:PySem.W.keepIn K (.ref f12)=true)
  {f13:Addr} {od13 an13:Option Addr} {sl13:Array (Option Value)} {oc13 kV13 dc13 pm13 cd13 ct13:Value}
  (a13:PySem.W.nsIn K mainGlobals "_law_beats" = some (some (.ref f13))) (l13:K.lookup f13=some ⟨oc13,od13,.func (PySem.W.fnOf "_law_beats" "_law_beats" (defArgs s_law_beats) (defBody s_law_beats) (defScope s_law_beats) .none kV13 dc13 pm13 an13 cd13 ct13),sl13⟩) (c13:PySem.W.codeIn K cd13 "_law_beats" = true) (k13:PySem.W.keepIn K (.ref f13)=true)
  {f14:Addr} {od14 an14:Option Addr} {sl14:Array (Option Value)} {oc14 kV14 dc14 pm14 cd14 ct14:Value}
  (a14:PySem.W.nsIn K mainGlobals "_law_leg" = some (some (.ref f14))) (l14:K.lookup f14=some ⟨oc14,od14,.func (PySem.W.fnOf "_law_leg" "_law_leg" (defArgs s_law_leg) (defBody s_law_leg) (defScope s_law_leg) .none kV14 dc14 pm14 an14 cd14 ct14),sl14⟩) (c14:PySem.W.codeIn K cd14 "_law_leg" = true) (k14:PySem.W.keepIn K (.ref f14)=true)
  {f15:Addr} {od15 an15:Option Addr} {sl15:Array (Option Value)} {oc15 kV15 dc15 pm15 cd15 ct15:Value}
  (a15:PySem.W.nsIn K mainGlobals "_law_ring_world" = some (some (.ref f15))) (l15:K.lookup f15=some ⟨oc15,od15,.func (PySem.W.fnOf "_law_ring_world" "_law_ring_world" (defArgs s_law_ring_world) (defBody s_law_ring_world) (defScope s_law_ring_world) .none kV15 dc15 pm15 an15 cd15 ct15),sl15⟩) (c15:PySem.W.codeIn K cd15 "_law_ring_world" = true) (k15:PySem.W.keepIn K (.ref f15)=true)
  {f16:Addr} {od16 an16:Option Addr} {sl16:Array (Option Value)} {oc16 kV16 dc16 pm16 cd16 ct16:Value}
  (a16:PySem.W.nsIn K mainGlobals "_law_vehicles" = some (some (.ref f16))) (l16:K.lookup f16=some ⟨oc16,od16,.func (PySem.W.fnOf "_law_vehicles" "_law_vehicles" (defArgs s_law_vehicles) (defBody s_law_vehicles) (defScope s_law_vehicles) .none kV16 dc16 pm16 an16 cd16 ct16),sl16⟩) (c16:PySem.W.codeIn K cd16 "_law_vehicles" = true) (k16:PySem.W.keepIn K (.ref f16)=true)
  {f17:Addr} {od17 an17:Option Addr} {sl17:Array (Option Value)} {oc17 kV17 dc17 pm17 cd17 ct17:Value}
  (a17:PySem.W.nsIn K mainGlobals "_law_told" = some (some (.ref f17))) (l17:K.lookup f17=some ⟨oc17,od17,.func (PySem.W.fnOf "_law_told" "_law_told" (defArgs s_law_told) (defBody s_law_told) (defScope s_law_told) .none kV17 dc17 pm17 an17 cd17 ct17),sl17⟩) (c17:PySem.W.codeIn K cd17 "_law_told" = true) (k17:PySem.W.keepIn K (.ref f17)=true)
  {f18:Addr} {od18 an18:Option Addr} {sl18:Array (Option Value)} {oc18 kV18 dc18 pm18 cd18 ct18:Value}
  (a18:PySem.W.nsIn K mainGlobals "_law_due" = some (some (.ref f18))) (l18:K.lookup f18=some ⟨oc18,od18,.func (PySem.W.fnOf "_law_due" "_law_due" (defArgs s_law_due) (defBody s_law_due) (defScope s_law_due) .none kV18 dc18 pm18 an18 cd18 ct18),sl18⟩) (c18:PySem.W.codeIn K cd18 "_law_due" = true) (k18:PySem.W.keepIn K (.ref f18)=true)
  {f19:Addr} {od19 an19:Option Addr} {sl19:Array (Option Value)} {oc19 kV19 dc19 pm19 cd19 ct19:Value}
  (a19:PySem.W.nsIn K mainGlobals "law" = some (some (.ref f19))) (l19:K.lookup f19=some ⟨oc19,od19,.func (PySem.W.fnOf "law" "law" (defArgs s_law) (defBody s_law) (defScope s_law) .none kV19 dc19 pm19 an19 cd19 ct19),sl19⟩) (c19:PySem.W.codeIn K cd19 "law" = true) (k19:PySem.W.keepIn K (.ref f19)=true)
  (z_len:PySem.W.nsIn K mainGlobals "len" = some none)
  (z_repr:PySem.W.nsIn K mainGlobals "repr" = some none)
  (z_min:PySem.W.nsIn K mainGlobals "min" = some none)
  (z_max:PySem.W.nsIn K mainGlobals "max" = some none)
  (z_sum:PySem.W.nsIn K mainGlobals "sum" = some none)
  (z_all:PySem.W.nsIn K mainGlobals "all" = some none)
  (z_any:PySem.W.nsIn K mainGlobals "any" = some none)
  (z_sorted:PySem.W.nsIn K mainGlobals "sorted" = some none)
  (z_int:PySem.W.nsIn K mainGlobals "int" = some none)
  (z_str:PySem.W.nsIn K mainGlobals "str" = some none)
  (z_isinstance:PySem.W.nsIn K mainGlobals "isinstance" = some none)
  (z_range:PySem.W.nsIn K mainGlobals "range" = some none)
  (z_enumerate:PySem.W.nsIn K mainGlobals "enumerate" = some none)
  (z_list:PySem.W.nsIn K mainGlobals "list" = some none)
  (z_tuple:PySem.W.nsIn K mainGlobals "tuple" = some none)
  (z_bool:PySem.W.nsIn K mainGlobals "bool" = some none)
  (z_dict:PySem.W.nsIn K mainGlobals "dict" = some none)
  (z_ValueError:PySem.W.nsIn K mainGlobals "ValueError" = some none)
  {vD:Addr} {vDq:Str} {vDN:Addr} {vDbs vDsub:List Value} {vDhd vDab:Bool} {vDsn:List Str} {vDcol:Option Bool} {vDdd:Option Addr} {vDk0 vDk1 vDk2 vDk3 vDk5:Option Value} {vDnid:String} (vDa:PySem.W.nsIn K mainGlobals "PlanError" = some (some (.ref vD))) (vDl:K.lookup vD=some (excClassObj "PlanError" vDq vD vDN vDbs bmV vDhd vDsn vDsub vDab vDcol vDdd vDk0 vDk1 vDk2 vDk3 vDk5 vDnid)) (vDk:PySem.W.keepIn K (.ref vD)=true) (vDn:ja6 K vDN=some ksB)
  {vNoPaper vNoPaperI:Addr} {vNoPaperq:Str} {vNoPaperN:Addr} {vNoPaperbs vNoPapersub:List Value} {vNoPaperab:Bool} {vNoPapersn:List Str} {vNoPapercol:Option Bool} {vNoPaperdd:Option Addr} {vNoPaperk0 vNoPaperk1 vNoPaperk2 vNoPaperk3 vNoPaperk5:Option Value} {vNoPaperod vNoPaperan:Option Addr} {vNoPapersl:Array (Option Value)} {vNoPaperkV vNoPaperdc vNoPaperpm vNoPapercd vNoPaperct:Value}
  (vNoPapera:PySem.W.nsIn K mainGlobals "NoPaper" = some (some (.ref vNoPaper))) (vNoPaperl:K.lookup vNoPaper=some (excClassObj "NoPaper" vNoPaperq vNoPaper vNoPaperN vNoPaperbs (.ref vD::bmV) true vNoPapersn vNoPapersub vNoPaperab vNoPapercol vNoPaperdd vNoPaperk0 vNoPaperk1 vNoPaperk2 vNoPaperk3 vNoPaperk5 "ValueError.__new__")) (vNoPaperk:PySem.W.keepIn K (.ref vNoPaper)=true) (vNoPapern:ja6 K vNoPaperN=some ksC) (vNoPaperi:PySem.W.nsIn K vNoPaperN "__init__" = some (some (.ref vNoPaperI)))
  (vNoPaperf:K.lookup vNoPaperI=some ⟨.type "function",vNoPaperod,.func (PySem.W.fnOf "__init__" "NoPaper.__init__" (defArgs (jal (top 2) 0)) (defBody (jal (top 2) 0)) (defScope (jal (top 2) 0)) .none vNoPaperkV vNoPaperdc vNoPaperpm vNoPaperan vNoPapercd vNoPaperct),vNoPapersl⟩) (vNoPaperc:PySem.W.codeIn K vNoPapercd "NoPaper.__init__" = true) (vNoPaperkf:PySem.W.keepIn K (.ref vNoPaperI)=true)
  {vTooMany vTooManyI:Addr} {vTooManyq:Str} {vTooManyN:Addr} {vTooManybs vTooManysub:List Value} {vTooManyab:Bool} {vTooManysn:List Str} {vTooManycol:Option Bool} {vTooManydd:Option Addr} {vTooManyk0 vTooManyk1 vTooManyk2 vTooManyk3 vTooManyk5:Option Value} {vTooManyod vTooManyan:Option Addr} {vTooManysl:Array (Option Value)} {vTooManykV vTooManydc vTooManypm vTooManycd vTooManyct:Value}
  (vTooManya:PySem.W.nsIn K mainGlobals "TooMany" = some (some (.ref vTooMany))) (vTooManyl:K.lookup vTooMany=some (excClassObj "TooMany" vTooManyq vTooMany vTooManyN vTooManybs (.ref vD::bmV) true vTooManysn vTooManysub vTooManyab vTooManycol vTooManydd vTooManyk0 vTooManyk1 vTooManyk2 vTooManyk3 vTooManyk5 "ValueError.__new__")) (vTooManyk:PySem.W.keepIn K (.ref vTooMany)=true) (vTooManyn:ja6 K vTooManyN=some ksC) (vTooManyi:PySem.W.nsIn K vTooManyN "__init__" = some (some (.ref vTooManyI)))
  (vTooManyf:K.lookup vTooManyI=some ⟨.type "function",vTooManyod,.func (PySem.W.fnOf "__init__" "TooMany.__init__" (defArgs (jal (top 3) 0)) (defBody (jal (top 3) 0)) (defScope (jal (top 3) 0)) .none vTooManykV vTooManydc vTooManypm vTooManyan vTooManycd vTooManyct),vTooManysl⟩) (vTooManyc:PySem.W.codeIn K vTooManycd "TooMany.__init__" = true) (vTooManykf:PySem.W.keepIn K (.ref vTooManyI)=true)
  {vNoRing vNoRingI:Addr} {vNoRingq:Str} {vNoRingN:Addr} {vNoRingbs vNoRingsub:List Value} {vNoRingab:Bool} {vNoRingsn:List Str} {vNoRingcol:Option Bool} {vNoRingdd:Option Addr} {vNoRingk0 vNoRingk1 vNoRingk2 vNoRingk3 vNoRingk5:Option Value} {vNoRingod vNoRingan:Option Addr} {vNoRingsl:Array (Option Value)} {vNoRingkV vNoRingdc vNoRingpm vNoRingcd vNoRingct:Value}
  (vNoRinga:PySem.W.nsIn K mainGlobals "NoRing" = some (some (.ref vNoRing))) (vNoRingl:K.lookup vNoRing=some (excClassObj "NoRing" vNoRingq vNoRing vNoRingN vNoRingbs (.ref vD::bmV) true vNoRingsn vNoRingsub vNoRingab vNoRingcol vNoRingdd vNoRingk0 vNoRingk1 vNoRingk2 vNoRingk3 vNoRingk5 "ValueError.__new__")) (vNoRingk:PySem.W.keepIn K (.ref vNoRing)=true) (vNoRingn:ja6 K vNoRingN=some ksC) (vNoRingi:PySem.W.nsIn K vNoRingN "__init__" = some (some (.ref vNoRingI)))
  (vNoRingf:K.lookup vNoRingI=some ⟨.type "function",vNoRingod,.func (PySem.W.fnOf "__init__" "NoRing.__init__" (defArgs (jal (top 4) 0)) (defBody (jal (top 4) 0)) (defScope (jal (top 4) 0)) .none vNoRingkV vNoRingdc vNoRingpm vNoRingan vNoRingcd vNoRingct),vNoRingsl⟩) (vNoRingc:PySem.W.codeIn K vNoRingcd "NoRing.__init__" = true) (vNoRingkf:PySem.W.keepIn K (.ref vNoRingI)=true)
  {vNoText vNoTextI:Addr} {vNoTextq:Str} {vNoTextN:Addr} {vNoTextbs vNoTextsub:List Value} {vNoTextab:Bool} {vNoTextsn:List Str} {vNoTextcol:Option Bool} {vNoTextdd:Option Addr} {vNoTextk0 vNoTextk1 vNoTextk2 vNoTextk3 vNoTextk5:Option Value} {vNoTextod vNoTextan:Option Addr} {vNoTextsl:Array (Option Value)} {vNoTextkV vNoTextdc vNoTextpm vNoTextcd vNoTextct:Value}
  (vNoTexta:PySem.W.nsIn K mainGlobals "NoText" = some (some (.ref vNoText))) (vNoTextl:K.lookup vNoText=some (excClassObj "NoText" vNoTextq vNoText vNoTextN vNoTextbs (.ref vD::bmV) true vNoTextsn vNoTextsub vNoTextab vNoTextcol vNoTextdd vNoTextk0 vNoTextk1 vNoTextk2 vNoTextk3 vNoTextk5 "ValueError.__new__")) (vNoTextk:PySem.W.keepIn K (.ref vNoText)=true) (vNoTextn:ja6 K vNoTextN=some ksC) (vNoTexti:PySem.W.nsIn K vNoTextN "__init__" = some (some (.ref vNoTextI)))
  (vNoTextf:K.lookup vNoTextI=some ⟨.type "function",vNoTextod,.func (PySem.W.fnOf "__init__" "NoText.__init__" (defArgs (jal (top 5) 0)) (defBody (jal (top 5) 0)) (defScope (jal (top 5) 0)) .none vNoTextkV vNoTextdc vNoTextpm vNoTextan vNoTextcd vNoTextct),vNoTextsl⟩) (vNoTextc:PySem.W.codeIn K vNoTextcd "NoText.__init__" = true) (vNoTextkf:PySem.W.keepIn K (.ref vNoTextI)=true)
  {vNoRow vNoRowI:Addr} {vNoRowq:Str} {vNoRowN:Addr} {vNoRowbs vNoRowsub:List Value} {vNoRowab:Bool} {vNoRowsn:List Str} {vNoRowcol:Option Bool} {vNoRowdd:Option Addr} {vNoRowk0 vNoRowk1 vNoRowk2 vNoRowk3 vNoRowk5:Option Value} {vNoRowod vNoRowan:Option Addr} {vNoRowsl:Array (Option Value)} {vNoRowkV vNoRowdc vNoRowpm vNoRowcd vNoRowct:Value}
  (vNoRowa:PySem.W.nsIn K mainGlobals "NoRow" = some (some (.ref vNoRow))) (vNoRowl:K.lookup vNoRow=some (excClassObj "NoRow" vNoRowq vNoRow vNoRowN vNoRowbs (.ref vD::bmV) true vNoRowsn vNoRowsub vNoRowab vNoRowcol vNoRowdd vNoRowk0 vNoRowk1 vNoRowk2 vNoRowk3 vNoRowk5 "ValueError.__new__")) (vNoRowk:PySem.W.keepIn K (.ref vNoRow)=true) (vNoRown:ja6 K vNoRowN=some ksC) (vNoRowi:PySem.W.nsIn K vNoRowN "__init__" = some (some (.ref vNoRowI)))
  (vNoRowf:K.lookup vNoRowI=some ⟨.type "function",vNoRowod,.func (PySem.W.fnOf "__init__" "NoRow.__init__" (defArgs (jal (top 6) 0)) (defBody (jal (top 6) 0)) (defScope (jal (top 6) 0)) .none vNoRowkV vNoRowdc vNoRowpm vNoRowan vNoRowcd vNoRowct),vNoRowsl⟩) (vNoRowc:PySem.W.codeIn K vNoRowcd "NoRow.__init__" = true) (vNoRowkf:PySem.W.keepIn K (.ref vNoRowI)=true)
  : ∃ fd:FuncData,(∀ (s:Shared) (v:Value),BindsTo s fd ⟨[v],[]⟩ [("_law_script",v)])/\∀ base:Heap,K.In base->base.Ns mainGlobals mg->FnOk l.prog w K mg base (CX1 l.prog w) 302 fa fd ["_law_script"] (lSp K (jab T 300 jeE)):=by
 have e:=hfa.symm.trans (PySem.W.mg_of X G a19)
 cases e
 have F0:=jai (st:=s_length_of) l0 c0 k0
 have b0:=F0.binds (ps:=["plan", "period", "beats", "s"]) fun _ _ _ _ _ _ us hl=>by obtain ⟨u0,u1,u2,u3,rfl⟩:=ln4 us hl; rfl
 have F1:=jai (st:=s_step_of) l1 c1 k1
 have b1:=F1.binds (ps:=["plan", "period", "beats", "s"]) fun _ _ _ _ _ _ us hl=>by obtain ⟨u0,u1,u2,u3,rfl⟩:=ln4 us hl; rfl
 have F2:=jai (st:=s_ends_of) l2 c2 k2
 have b2:=F2.binds (ps:=["plan", "entry"]) fun _ _ _ _ _ _ us hl=>by obtain ⟨u0,u1,rfl⟩:=ln2 us hl; rfl
 have F3:=jai (st:=s_rounds_in) l3 c3 k3
 have b3:=F3.binds (ps:=["plan", "period", "beats", "ring"]) fun _ _ _ _ _ _ us hl=>by obtain ⟨u0,u1,u2,u3,rfl⟩:=ln4 us hl; rfl
 have F4:=jai (st:=s_vehicles) l4 c4 k4
 have b4:=F4.binds (ps:=["plan", "period", "beats", "ring"]) fun _ _ _ _ _ _ us hl=>by obtain ⟨u0,u1,u2,u3,rfl⟩:=ln4 us hl; rfl
 have F5:=jai (st:=s_vehicle_at) l5 c5 k5
 have b5:=F5.binds (ps:=["plan", "period", "beats", "ring", "place", "turn"]) fun _ _ _ _ _ _ us hl=>by obtain ⟨u0,u1,u2,u3,u4,u5,rfl⟩:=ln6 us hl; rfl
 have F6:=jai (st:=s_vehicle_row) l6 c6 k6
 have b6:=F6.binds (ps:=["plan", "period", "beats", "ring", "vehicle", "many"]) fun _ _ _ _ _ _ us hl=>by obtain ⟨u0,u1,u2,u3,u4,u5,rfl⟩:=ln6 us hl; rfl
 have F7:=jai (st:=s_law_feed) l7 c7 k7
 have b7:=F7.binds (ps:=["_law_script"]) fun _ _ _ _ _ _ us hl=>by obtain ⟨u0,rfl⟩:=ln1 us hl; rfl
 have F8:=jai (st:=s_law_draw) l8 c8 k8
 have b8:=F8.binds (ps:=["_law_feed_here", "_law_many"]) fun _ _ _ _ _ _ us hl=>by obtain ⟨u0,u1,rfl⟩:=ln2 us hl; rfl
 have F9:=jai (st:=s_law_names) l9 c9 k9
 have b9:=F9.binds (ps:=["_law_feed_here", "_law_many"]) fun _ _ _ _ _ _ us hl=>by obtain ⟨u0,u1,rfl⟩:=ln2 us hl; rfl
 have F10:=jai (st:=s_law_cycle) l10 c10 k10
 have b10:=F10.binds (ps:=["_law_feed_here"]) fun _ _ _ _ _ _ us hl=>by obtain ⟨u0,rfl⟩:=ln1 us hl; rfl
 have F11:=jai (st:=s_law_number) l11 c11 k11
 have b11:=F11.binds (ps:=["_law_feed_here", "_law_cycle_here"]) fun _ _ _ _ _ _ us hl=>by obtain ⟨u0,u1,rfl⟩:=ln2 us hl; rfl
 have F12:=jai (st:=s_law_span) l12 c12 k12
 have b12:=F12.binds (ps:=["_law_feed_here", "_law_one", "_law_other", "_law_cycle_here"]) fun _ _ _ _ _ _ us hl=>by obtain ⟨u0,u1,u2,u3,rfl⟩:=ln4 us hl; rfl
 have F13:=jai (st:=s_law_beats) l13 c13 k13
 have b13:=F13.binds (ps:=["_law_feed_here", "_law_works", "_law_cycle_here"]) fun _ _ _ _ _ _ us hl=>by obtain ⟨u0,u1,u2,rfl⟩:=ln3 us hl; rfl
 have F14:=jai (st:=s_law_leg) l14 c14 k14
 have b14:=F14.binds (ps:=["_law_plan", "_law_cycle_here", "_law_beats_here", "_law_s"]) fun _ _ _ _ _ _ us hl=>by obtain ⟨u0,u1,u2,u3,rfl⟩:=ln4 us hl; rfl
 have F15:=jai (st:=s_law_ring_world) l15 c15 k15
 have b15:=F15.binds (ps:=["_law_feed_here"]) fun _ _ _ _ _ _ us hl=>by obtain ⟨u0,rfl⟩:=ln1 us hl; rfl
 have F16:=jai (st:=s_law_vehicles) l16 c16 k16
 have b16:=F16.binds (ps:=["_law_plan", "_law_cycle_here", "_law_beats_here", "_law_ring"]) fun _ _ _ _ _ _ us hl=>by obtain ⟨u0,u1,u2,u3,rfl⟩:=ln4 us hl; rfl
 have F17:=jai (st:=s_law_told) l17 c17 k17
 have b17:=F17.binds (ps:=["_law_way", "_law_world", "_law_ring"]) fun _ _ _ _ _ _ us hl=>by obtain ⟨u0,u1,u2,rfl⟩:=ln3 us hl; rfl
 have F18:=jai (st:=s_law_due) l18 c18 k18
 have b18:=F18.binds (ps:=["_law_way", "_law_world", "_law_ring"]) fun _ _ _ _ _ _ us hl=>by obtain ⟨u0,u1,u2,rfl⟩:=ln3 us hl; rfl
 have F19:=jai (st:=s_law) l19 c19 k19
 have b19:=F19.binds (ps:=["_law_script"]) fun _ _ _ _ _ _ us hl=>by obtain ⟨u0,rfl⟩:=ln1 us hl; rfl
 refine ⟨PySem.W.fnOf "law" "law" (defArgs s_law) (defBody s_law) (defScope s_law) .none kV19 dc19 pm19 an19 cd19 ct19,fun s v=>.of_eq rfl,fun base _ _=>?_⟩
 have dyn:∀ (n:Nat) (d:Fun) (st:Stmt),T.funs[n]?=some d->sts[n]?=some st->∃ (f:Addr) (fd:FuncData),L2.Fun K d.name d.name st f fd/\mg d.name=some (.ref f)/\Binds K fd d.ps []:=by
  intro n d st h1 h2
  rcases n with _ | n
  ·cases h1; cases h2; exact ⟨_,_,F0,PySem.W.mg_of X G a0,b0⟩
  rcases n with _ | n
  ·cases h1; cases h2; exact ⟨_,_,F1,PySem.W.mg_of X G a1,b1⟩
  rcases n with _ | n
  ·cases h1; cases h2; exact ⟨_,_,F2,PySem.W.mg_of X G a2,b2⟩
  rcases n with _ | n
  ·cases h1; cases h2; exact ⟨_,_,F3,PySem.W.mg_of X G a3,b3⟩
  rcases n with _ | n
  ·cases h1; cases h2; exact ⟨_,_,F4,PySem.W.mg_of X G a4,b4⟩
  rcases n with _ | n
  ·cases h1; cases h2; exact ⟨_,_,F5,PySem.W.mg_of X G a5,b5⟩
  rcases n with _ | n
  ·cases h1; cases h2; exact ⟨_,_,F6,PySem.W.mg_of X G a6,b6⟩
  rcases n with _ | n
  ·cases h1; cases h2; exact ⟨_,_,F7,PySem.W.mg_of X G a7,b7⟩
  rcases n with _ | n
  ·cases h1; cases h2; exact ⟨_,_,F8,PySem.W.mg_of X G a8,b8⟩
  rcases n with _ | n
  ·cases h1; cases h2; exact ⟨_,_,F9,PySem.W.mg_of X G a9,b9⟩
  rcases n with _ | n
  ·cases h1; cases h2; exact ⟨_,_,F10,PySem.W.mg_of X G a10,b10⟩
  rcases n with _ | n
  ·cases h1; cases h2; exact ⟨_,_,F11,PySem.W.mg_of X G a11,b11⟩
  rcases n with _ | n
  ·cases h1; cases h2; exact ⟨_,_,F12,PySem.W.mg_of X G a12,b12⟩
  rcases n with _ | n
  ·cases h1; cases h2; exact ⟨_,_,F13,PySem.W.mg_of X G a13,b13⟩
  rcases n with _ | n
  ·cases h1; cases h2; exact ⟨_,_,F14,PySem.W.mg_of X G a14,b14⟩
  rcases n with _ | n
  ·cases h1; cases h2; exact ⟨_,_,F15,PySem.W.mg_of X G a15,b15⟩
  rcases n with _ | n
  ·cases h1; cases h2; exact ⟨_,_,F16,PySem.W.mg_of X G a16,b16⟩
  rcases n with _ | n
  ·cases h1; cases h2; exact ⟨_,_,F17,PySem.W.mg_of X G a17,b17⟩
  rcases n with _ | n
  ·cases h1; cases h2; exact ⟨_,_,F18,PySem.W.mg_of X G a18,b18⟩
  rcases n with _ | n
  ·cases h1; cases h2; exact ⟨_,_,F19,PySem.W.mg_of X G a19,b19⟩
  cases h1
 have hb:∀ x∈jcc,mg x=none:=by
  intro x hx
  simp only [jcc,List.mem_cons,List.not_mem_nil,or_false] at hx
  rcases hx with rfl | rfl | rfl | rfl | rfl | rfl | rfl | rfl | rfl | rfl | rfl | rfl | rfl | rfl | rfl | rfl | rfl | rfl
  ·exact PySem.W.mg_none_of X G z_len
  ·exact PySem.W.mg_none_of X G z_repr
  ·exact PySem.W.mg_none_of X G z_min
  ·exact PySem.W.mg_none_of X G z_max
  ·exact PySem.W.mg_none_of X G z_sum
  ·exact PySem.W.mg_none_of X G z_all
  ·exact PySem.W.mg_none_of X G z_any
  ·exact PySem.W.mg_none_of X G z_sorted
  ·exact PySem.W.mg_none_of X G z_int
  ·exact PySem.W.mg_none_of X G z_str
  ·exact PySem.W.mg_none_of X G z_isinstance
  ·exact PySem.W.mg_none_of X G z_range
  ·exact PySem.W.mg_none_of X G z_enumerate
  ·exact PySem.W.mg_none_of X G z_list
  ·exact PySem.W.mg_none_of X G z_tuple
  ·exact PySem.W.mg_none_of X G z_bool
  ·exact PySem.W.mg_none_of X G z_dict
  ·exact PySem.W.mg_none_of X G z_ValueError
 have hg:∀ (n:Nat) (x:Str) (u:U),T.gn[n]?=some x->T.gs[n]?=some u->∃ v w,mg x=some w/\RelV v w/\∀ H,RU K H u v:=by
  intro n x u h1 h2
  cases h1
 obtain ⟨mD,XB⟩:=jfS vDa vDk vDl vDn (by decide +kernel) (by decide +kernel)
 have XvNoPaper:=jbJ (fs:=["word", "at"]) (st:=jal (top 2) 0) XB vNoPapera vNoPaperk vNoPaperl vNoPapern (by decide +kernel) vNoPaperi (jai vNoPaperf vNoPaperc vNoPaperkf) vNoPaperf (by decide +kernel) ((jai vNoPaperf vNoPaperc vNoPaperkf).binds (ps:=["self", "word", "at"]) fun _ _ _ _ _ _ us hl=>match us,hl with | [_,_,_],_=>rfl) (by decide +kernel) (.inr ⟨_,_,_,_,_,_,_,_,_,_,rfl,by decide,rfl⟩)
 have XvTooMany:=jbJ (fs:=["word"]) (st:=jal (top 3) 0) XB vTooManya vTooManyk vTooManyl vTooManyn (by decide +kernel) vTooManyi (jai vTooManyf vTooManyc vTooManykf) vTooManyf (by decide +kernel) ((jai vTooManyf vTooManyc vTooManykf).binds (ps:=["self", "word"]) fun _ _ _ _ _ _ us hl=>match us,hl with | [_,_],_=>rfl) (by decide +kernel) (.inl ⟨_,_,_,_,_,rfl,rfl⟩)
 have XvNoRing:=jbJ (fs:=["word"]) (st:=jal (top 4) 0) XB vNoRinga vNoRingk vNoRingl vNoRingn (by decide +kernel) vNoRingi (jai vNoRingf vNoRingc vNoRingkf) vNoRingf (by decide +kernel) ((jai vNoRingf vNoRingc vNoRingkf).binds (ps:=["self", "word"]) fun _ _ _ _ _ _ us hl=>match us,hl with | [_,_],_=>rfl) (by decide +kernel) (.inl ⟨_,_,_,_,_,rfl,rfl⟩)
 have XvNoText:=jbJ (fs:=["row", "word"]) (st:=jal (top 5) 0) XB vNoTexta vNoTextk vNoTextl vNoTextn (by decide +kernel) vNoTexti (jai vNoTextf vNoTextc vNoTextkf) vNoTextf (by decide +kernel) ((jai vNoTextf vNoTextc vNoTextkf).binds (ps:=["self", "row", "word"]) fun _ _ _ _ _ _ us hl=>match us,hl with | [_,_,_],_=>rfl) (by decide +kernel) (.inr ⟨_,_,_,_,_,_,_,_,_,_,rfl,by decide,rfl⟩)
 have XvNoRow:=jbJ (fs:=["row"]) (st:=jal (top 6) 0) XB vNoRowa vNoRowk vNoRowl vNoRown (by decide +kernel) vNoRowi (jai vNoRowf vNoRowc vNoRowkf) vNoRowf (by decide +kernel) ((jai vNoRowf vNoRowc vNoRowkf).binds (ps:=["self", "row"]) fun _ _ _ _ _ _ us hl=>match us,hl with | [_,_],_=>rfl) (by decide +kernel) (.inl ⟨_,_,_,_,_,rfl,rfl⟩)
 have hc:∀ n∈T.cs,1<=n->∃ C,XCls K (gK K) (clsN n) (clsF n) C:=by
  intro n hn h1
  have hn':n∈[1,2,3,4,5]:=hn
  simp only [List.mem_cons,List.not_mem_nil,or_false] at hn'
  rcases hn' with rfl | rfl | rfl | rfl | rfl
  ·exact ⟨_,XvNoPaper⟩
  ·exact ⟨_,XvTooMany⟩
  ·exact ⟨_,XvNoRing⟩
  ·exact ⟨_,XvNoText⟩
  ·exact ⟨_,XvNoRow⟩
 have hm:=jju X G
 obtain ⟨f,fd,F,m,_,_⟩:=jdF (P:=l.prog) (w:=w) (base:=base) jee je9 dyn hb hg hc hm 300 jeE jgp rfl
 have e2:=m.symm.trans (PySem.W.mg_of X G a19)
 cases e2
 exact jey F19 jee je9 dyn hb hg hc hm (d:=jgp) (n:=jeE) rfl rfl (PySem.W.mg_of X G a19) b19
theorem walk {l:PySem.W.OpenLaw}{q:Program}{loose:List Str}{XP:(Str->Option Value)->Heap->Prop}{YP:World->Heap->Prop}{d:DefRec}{K:Params->PySem.W.Frag}(hn:l.most=some 63)(hdf:d.params.defaults=[])
  (hY:∀ (w:World) (h:Heap),YP w h->(K w.params).In h) (hK:∀ w:World,((K w.params).all fun p=>p.2.cls != .type "list")=true) (hsy:∀ w:World,∃ o,(K w.params).lookup sysModules=some o/\o.cls=.type "dict")
  (F:∀ (w:World) (mg:Str->Option Value) (fa:Addr) (h:Heap),(K w.params).In h->h.Ns mainGlobals mg->mg d.name=some (.ref fa)->
   ∃ fd:FuncData,(∀ (s:Shared) (u:Value),BindsTo s fd ⟨[u],[]⟩ [("_law_script",u)])/\∀ base:Heap,(K w.params).In base->base.Ns mainGlobals mg->FnOk l.prog w (K w.params) mg base (CX1 l.prog w) 302 fa fd ["_law_script"] (lSp (K w.params) (jab T 300 jeE))) :
  PySem.W.WalkO q loose XP YP l.row.toRowW d [] (fun f vs=>PySem.call f vs):=
 L2.walk_of (n:=63) (k:=302) (x := "_law_script") (CX:=fun w=>CX1 l.prog w) (sp:=fun w=>lSp (K w.params) (jab T 300 jeE)) hn (by decide) hdf ⟨rfl,by decide,by decide,rfl⟩ hY hsy F (fun w _ a ns hl hO hS=>law_sp (hK w) hO hS (law_ir a ns hl)) fun _ _ _ _ _ ⟨_,_,_,_,_,_,_,_,_,_,z⟩=>z
end Z
def Z.bY8:List PySem.Stmt:=L2.defBody (Z.top 8)
def Z.cY8:PySem.Scope:=L2.defScope (Z.top 8)
def Z.bY10:List PySem.Stmt:=L2.defBody (Z.top 10)
def Z.cY10:PySem.Scope:=L2.defScope (Z.top 10)
def Z.bY12:List PySem.Stmt:=L2.defBody (Z.top 12)
def Z.cY12:PySem.Scope:=L2.defScope (Z.top 12)
def Z.bY13:List PySem.Stmt:=L2.defBody (Z.top 13)
def Z.cY13:PySem.Scope:=L2.defScope (Z.top 13)
def Z.bY15:List PySem.Stmt:=L2.defBody (Z.top 15)
def Z.cY15:PySem.Scope:=L2.defScope (Z.top 15)
def Z.bY16:List PySem.Stmt:=L2.defBody (Z.top 16)
def Z.cY16:PySem.Scope:=L2.defScope (Z.top 16)
def Z.bY17:List PySem.Stmt:=L2.defBody (Z.top 17)
def Z.cY17:PySem.Scope:=L2.defScope (Z.top 17)
def Z.bY19:List PySem.Stmt:=L2.defBody (Z.top 19)
def Z.cY19:PySem.Scope:=L2.defScope (Z.top 19)
def Z.bY20:List PySem.Stmt:=L2.defBody (Z.top 20)
def Z.cY20:PySem.Scope:=L2.defScope (Z.top 20)
def Z.bY21:List PySem.Stmt:=L2.defBody (Z.top 21)
def Z.cY21:PySem.Scope:=L2.defScope (Z.top 21)
def Z.bY22:List PySem.Stmt:=L2.defBody (Z.top 22)
def Z.cY22:PySem.Scope:=L2.defScope (Z.top 22)
def Z.bY23:List PySem.Stmt:=L2.defBody (Z.top 23)
def Z.cY23:PySem.Scope:=L2.defScope (Z.top 23)
def Z.bY24:List PySem.Stmt:=L2.defBody (Z.top 24)
def Z.cY24:PySem.Scope:=L2.defScope (Z.top 24)
def Z.bY25:List PySem.Stmt:=L2.defBody (Z.top 25)
def Z.cY25:PySem.Scope:=L2.defScope (Z.top 25)
def Z.bY26:List PySem.Stmt:=L2.defBody (Z.top 26)
def Z.cY26:PySem.Scope:=L2.defScope (Z.top 26)
def Z.bY27:List PySem.Stmt:=L2.defBody (Z.top 27)
def Z.cY27:PySem.Scope:=L2.defScope (Z.top 27)
def Z.bY28:List PySem.Stmt:=L2.defBody (Z.top 28)
def Z.cY28:PySem.Scope:=L2.defScope (Z.top 28)
def Z.bY29:List PySem.Stmt:=L2.defBody (Z.top 29)
def Z.cY29:PySem.Scope:=L2.defScope (Z.top 29)
def Z.bY30:List PySem.Stmt:=L2.defBody (Z.top 30)
def Z.cY30:PySem.Scope:=L2.defScope (Z.top 30)
def Z.bY31:List PySem.Stmt:=L2.defBody (Z.top 31)
def Z.cY31:PySem.Scope:=L2.defScope (Z.top 31)
def Z.sY0:PySem.Stmt:=(PySem.Stmt.Assign (targets:=[(PySem.Expr.Name "__name__" ⟨1,0,1,8⟩)]) (value:=(PySem.Expr.Constant (PySem.Const.str "beatplans.errors") 0 ⟨1,11,1,29⟩)) (pos:=⟨1,0,1,29⟩))
def Z.sY1:PySem.Stmt:=(PySem.Stmt.ClassDef (name := "PlanError") (bases:=[(PySem.Expr.Name "ValueError" ⟨2,16,2,26⟩)]) (keywords:=[]) (body:=[(PySem.Stmt.Pass ⟨3,4,3,8⟩)]) (decorator_list:=[]) (type_params:=[]) (scope:={ kind:=PySem.ScopeKind.class,names:=[],isGenerator:=false,isCoroutine:=false,more:=[]:PySem.Scope }) (tscope:=none) (bind := "PlanError") (static_attributes:=[]) (pos:=⟨2,0,3,8⟩))
def Z.sY2:PySem.Stmt:=(PySem.Stmt.ClassDef (name := "NoPaper") (bases:=[(PySem.Expr.Name "PlanError" ⟨4,14,4,23⟩)]) (keywords:=[]) (body:=[ (PySem.Stmt.FunctionDef (name := "__init__") (args:={ posonlyargs:=[],args:=[ { arg := "self",annotation:=none,pos:=⟨6,17,6,21⟩:PySem.Arg },{ arg := "word",annotation:=none,pos:=⟨6,23,6,27⟩:PySem.Arg },{ arg := "at",annotation:=none,pos:=⟨6,29,6,31⟩:PySem.Arg }],vararg:=none,kwonlyargs:=[],kw_defaults:=[],kwarg:=none,defaults:=[]:PySem.Arguments }) (body:=[ (PySem.Stmt.Assign (targets:=[(PySem.Expr.Attribute (PySem.Expr.Name "self" ⟨7,8,7,12⟩) "word" ⟨7,8,7,17⟩)]) (value:=(PySem.Expr.Name "word" ⟨7,20,7,24⟩)) (pos:=⟨7,8,7,24⟩)),(PySem.Stmt.Assign (targets:=[(PySem.Expr.Attribute (PySem.Expr.Name "self" ⟨8,8,8,12⟩) "at" ⟨8,8,8,15⟩)]) (value:=(PySem.Expr.Name "at" ⟨8,18,8,20⟩)) (pos:=⟨8,8,8,20⟩))]) (decorator_list:=[]) (returns:=none) (type_params:=[]) (scope:={ kind:=PySem.ScopeKind.function,names:=[ (PySem.Str.ofString "self",PySem.NameKind.local),(PySem.Str.ofString "word",PySem.NameKind.local),(PySem.Str.ofString "at",PySem.NameKind.local)],isGenerator:=false,isCoroutine:=false,more:=[]:PySem.Scope }) (tscope:=none) (bind := "__init__") (pos:=⟨6,4,8,20⟩))]) (decorator_list:=[]) (type_params:=[]) (scope:={ kind:=PySem.ScopeKind.class,names:=[(PySem.Str.ofString "__init__",PySem.NameKind.local)],isGenerator:=false,isCoroutine:=false,more:=[]:PySem.Scope }) (tscope:=none) (bind := "NoPaper") (static_attributes:=[PySem.Str.ofString "at",PySem.Str.ofString "word"]) (pos:=⟨4,0,8,20⟩))
def Z.sY3:PySem.Stmt:=(PySem.Stmt.ClassDef (name := "TooMany") (bases:=[(PySem.Expr.Name "PlanError" ⟨9,14,9,23⟩)]) (keywords:=[]) (body:=[ (PySem.Stmt.FunctionDef (name := "__init__") (args:={ posonlyargs:=[],args:=[ { arg := "self",annotation:=none,pos:=⟨11,17,11,21⟩:PySem.Arg },{ arg := "word",annotation:=none,pos:=⟨11,23,11,27⟩:PySem.Arg }],vararg:=none,kwonlyargs:=[],kw_defaults:=[],kwarg:=none,defaults:=[]:PySem.Arguments }) (body:=[ (PySem.Stmt.Assign (targets:=[(PySem.Expr.Attribute (PySem.Expr.Name "self" ⟨12,8,12,12⟩) "word" ⟨12,8,12,17⟩)]) (value:=(PySem.Expr.Name "word" ⟨12,20,12,24⟩)) (pos:=⟨12,8,12,24⟩))]) (decorator_list:=[]) (returns:=none) (type_params:=[]) (scope:={ kind:=PySem.ScopeKind.function,names:=[(PySem.Str.ofString "self",PySem.NameKind.local),(PySem.Str.ofString "word",PySem.NameKind.local)],isGenerator:=false,isCoroutine:=false,more:=[]:PySem.Scope }) (tscope:=none) (bind := "__init__") (pos:=⟨11,4,12,24⟩))]) (decorator_list:=[]) (type_params:=[]) (scope:={ kind:=PySem.ScopeKind.class,names:=[(PySem.Str.ofString "__init__",PySem.NameKind.local)],isGenerator:=false,isCoroutine:=false,more:=[]:PySem.Scope }) (tscope:=none) (bind := "TooMany") (static_attributes:=[PySem.Str.ofString "word"]) (pos:=⟨9,0,12,24⟩))
def Z.sY4:PySem.Stmt:=(PySem.Stmt.ClassDef (name := "NoRing") (bases:=[(PySem.Expr.Name "PlanError" ⟨13,13,13,22⟩)]) (keywords:=[]) (body:=[ (PySem.Stmt.FunctionDef (name := "__init__") (args:={ posonlyargs:=[],args:=[ { arg := "self",annotation:=none,pos:=⟨15,17,15,21⟩:PySem.Arg },{ arg := "word",annotation:=none,pos:=⟨15,23,15,27⟩:PySem.Arg }],vararg:=none,kwonlyargs:=[],kw_defaults:=[],kwarg:=none,defaults:=[]:PySem.Arguments }) (body:=[ (PySem.Stmt.Assign (targets:=[(PySem.Expr.Attribute (PySem.Expr.Name "self" ⟨16,8,16,12⟩) "word" ⟨16,8,16,17⟩)]) (value:=(PySem.Expr.Name "word" ⟨16,20,16,24⟩)) (pos:=⟨16,8,16,24⟩))]) (decorator_list:=[]) (returns:=none) (type_params:=[]) (scope:={ kind:=PySem.ScopeKind.function,names:=[(PySem.Str.ofString "self",PySem.NameKind.local),(PySem.Str.ofString "word",PySem.NameKind.local)],isGenerator:=false,isCoroutine:=false,more:=[]:PySem.Scope }) (tscope:=none) (bind := "__init__") (pos:=⟨15,4,16,24⟩))]) (decorator_list:=[]) (type_params:=[]) (scope:={ kind:=PySem.ScopeKind.class,names:=[(PySem.Str.ofString "__init__",PySem.NameKind.local)],isGenerator:=false,isCoroutine:=false,more:=[]:PySem.Scope }) (tscope:=none) (bind := "NoRing") (static_attributes:=[PySem.Str.ofString "word"]) (pos:=⟨13,0,16,24⟩))
def Z.sY5:PySem.Stmt:=(PySem.Stmt.ClassDef (name := "NoText") (bases:=[(PySem.Expr.Name "PlanError" ⟨17,13,17,22⟩)]) (keywords:=[]) (body:=[ (PySem.Stmt.FunctionDef (name := "__init__") (args:={ posonlyargs:=[],args:=[ { arg := "self",annotation:=none,pos:=⟨19,17,19,21⟩:PySem.Arg },{ arg := "row",annotation:=none,pos:=⟨19,23,19,26⟩:PySem.Arg },{ arg := "word",annotation:=none,pos:=⟨19,28,19,32⟩:PySem.Arg }],vararg:=none,kwonlyargs:=[],kw_defaults:=[],kwarg:=none,defaults:=[]:PySem.Arguments }) (body:=[ (PySem.Stmt.Assign (targets:=[(PySem.Expr.Attribute (PySem.Expr.Name "self" ⟨20,8,20,12⟩) "row" ⟨20,8,20,16⟩)]) (value:=(PySem.Expr.Name "row" ⟨20,19,20,22⟩)) (pos:=⟨20,8,20,22⟩)),(PySem.Stmt.Assign (targets:=[(PySem.Expr.Attribute (PySem.Expr.Name "self" ⟨21,8,21,12⟩) "word" ⟨21,8,21,17⟩)]) (value:=(PySem.Expr.Name "word" ⟨21,20,21,24⟩)) (pos:=⟨21,8,21,24⟩))]) (decorator_list:=[]) (returns:=none) (type_params:=[]) (scope:={ kind:=PySem.ScopeKind.function,names:=[ (PySem.Str.ofString "self",PySem.NameKind.local),(PySem.Str.ofString "row",PySem.NameKind.local),(PySem.Str.ofString "word",PySem.NameKind.local)],isGenerator:=false,isCoroutine:=false,more:=[]:PySem.Scope }) (tscope:=none) (bind := "__init__") (pos:=⟨19,4,21,24⟩))]) (decorator_list:=[]) (type_params:=[]) (scope:={ kind:=PySem.ScopeKind.class,names:=[(PySem.Str.ofString "__init__",PySem.NameKind.local)],isGenerator:=false,isCoroutine:=false,more:=[]:PySem.Scope }) (tscope:=none) (bind := "NoText") (static_attributes:=[PySem.Str.ofString "row",PySem.Str.ofString "word"]) (pos:=⟨17,0,21,24⟩))
def Z.sY6:PySem.Stmt:=(PySem.Stmt.ClassDef (name := "NoRow") (bases:=[(PySem.Expr.Name "PlanError" ⟨22,12,22,21⟩)]) (keywords:=[]) (body:=[ (PySem.Stmt.FunctionDef (name := "__init__") (args:={ posonlyargs:=[],args:=[ { arg := "self",annotation:=none,pos:=⟨24,17,24,21⟩:PySem.Arg },{ arg := "row",annotation:=none,pos:=⟨24,23,24,26⟩:PySem.Arg }],vararg:=none,kwonlyargs:=[],kw_defaults:=[],kwarg:=none,defaults:=[]:PySem.Arguments }) (body:=[ (PySem.Stmt.Assign (targets:=[(PySem.Expr.Attribute (PySem.Expr.Name "self" ⟨25,8,25,12⟩) "row" ⟨25,8,25,16⟩)]) (value:=(PySem.Expr.Name "row" ⟨25,19,25,22⟩)) (pos:=⟨25,8,25,22⟩))]) (decorator_list:=[]) (returns:=none) (type_params:=[]) (scope:={ kind:=PySem.ScopeKind.function,names:=[(PySem.Str.ofString "self",PySem.NameKind.local),(PySem.Str.ofString "row",PySem.NameKind.local)],isGenerator:=false,isCoroutine:=false,more:=[]:PySem.Scope }) (tscope:=none) (bind := "__init__") (pos:=⟨24,4,25,22⟩))]) (decorator_list:=[]) (type_params:=[]) (scope:={ kind:=PySem.ScopeKind.class,names:=[(PySem.Str.ofString "__init__",PySem.NameKind.local)],isGenerator:=false,isCoroutine:=false,more:=[]:PySem.Scope }) (tscope:=none) (bind := "NoRow") (static_attributes:=[PySem.Str.ofString "row"]) (pos:=⟨22,0,25,22⟩))
def Z.sY7:PySem.Stmt:=(PySem.Stmt.Assign (targets:=[(PySem.Expr.Name "__name__" ⟨26,0,26,8⟩)]) (value:=(PySem.Expr.Constant (PySem.Const.str "beatplans.plans") 0 ⟨26,11,26,28⟩)) (pos:=⟨26,0,26,28⟩))
def Z.sY8:PySem.Stmt:=(PySem.Stmt.FunctionDef (name := "length_of") (args:={ posonlyargs:=[],args:=[ { arg := "plan",annotation:=none,pos:=⟨27,14,27,18⟩:PySem.Arg },{ arg := "period",annotation:=none,pos:=⟨27,20,27,26⟩:PySem.Arg },{ arg := "beats",annotation:=none,pos:=⟨27,28,27,33⟩:PySem.Arg },{ arg := "s",annotation:=none,pos:=⟨27,35,27,36⟩:PySem.Arg }],vararg:=none,kwonlyargs:=[],kw_defaults:=[],kwarg:=none,defaults:=[]:PySem.Arguments }) (body:=Z.bY8) (decorator_list:=[]) (returns:=none) (type_params:=[]) (scope:=Z.cY8) (tscope:=none) (bind := "length_of") (pos:=⟨27,0,29,59⟩))
def Z.sY9:PySem.Stmt:=(PySem.Stmt.Assign (targets:=[(PySem.Expr.Name "__name__" ⟨30,0,30,8⟩)]) (value:=(PySem.Expr.Constant (PySem.Const.str "beatplans.late") 0 ⟨30,11,30,27⟩)) (pos:=⟨30,0,30,27⟩))
def Z.sY10:PySem.Stmt:=(PySem.Stmt.FunctionDef (name := "step_of") (args:={ posonlyargs:=[],args:=[ { arg := "plan",annotation:=none,pos:=⟨31,12,31,16⟩:PySem.Arg },{ arg := "period",annotation:=none,pos:=⟨31,18,31,24⟩:PySem.Arg },{ arg := "beats",annotation:=none,pos:=⟨31,26,31,31⟩:PySem.Arg },{ arg := "s",annotation:=none,pos:=⟨31,33,31,34⟩:PySem.Arg }],vararg:=none,kwonlyargs:=[],kw_defaults:=[],kwarg:=none,defaults:=[]:PySem.Arguments }) (body:=Z.bY10) (decorator_list:=[]) (returns:=none) (type_params:=[]) (scope:=Z.cY10) (tscope:=none) (bind := "step_of") (pos:=⟨31,0,33,84⟩))
def Z.sY11:PySem.Stmt:=(PySem.Stmt.Assign (targets:=[(PySem.Expr.Name "__name__" ⟨34,0,34,8⟩)]) (value:=(PySem.Expr.Constant (PySem.Const.str "beatplans.rings") 0 ⟨34,11,34,28⟩)) (pos:=⟨34,0,34,28⟩))
def Z.sY12:PySem.Stmt:=(PySem.Stmt.FunctionDef (name := "ends_of") (args:={ posonlyargs:=[],args:=[ { arg := "plan",annotation:=none,pos:=⟨35,12,35,16⟩:PySem.Arg },{ arg := "entry",annotation:=none,pos:=⟨35,18,35,23⟩:PySem.Arg }],vararg:=none,kwonlyargs:=[],kw_defaults:=[],kwarg:=none,defaults:=[]:PySem.Arguments }) (body:=Z.bY12) (decorator_list:=[]) (returns:=none) (type_params:=[]) (scope:=Z.cY12) (tscope:=none) (bind := "ends_of") (pos:=⟨35,0,40,53⟩))
def Z.sY13:PySem.Stmt:=(PySem.Stmt.FunctionDef (name := "rounds_in") (args:={ posonlyargs:=[],args:=[ { arg := "plan",annotation:=none,pos:=⟨41,14,41,18⟩:PySem.Arg },{ arg := "period",annotation:=none,pos:=⟨41,20,41,26⟩:PySem.Arg },{ arg := "beats",annotation:=none,pos:=⟨41,28,41,33⟩:PySem.Arg },{ arg := "ring",annotation:=none,pos:=⟨41,35,41,39⟩:PySem.Arg }],vararg:=none,kwonlyargs:=[],kw_defaults:=[],kwarg:=none,defaults:=[]:PySem.Arguments }) (body:=Z.bY13) (decorator_list:=[]) (returns:=none) (type_params:=[]) (scope:=Z.cY13) (tscope:=none) (bind := "rounds_in") (pos:=⟨41,0,42,86⟩))
def Z.sY14:PySem.Stmt:=(PySem.Stmt.Assign (targets:=[(PySem.Expr.Name "__name__" ⟨43,0,43,8⟩)]) (value:=(PySem.Expr.Constant (PySem.Const.str "beatplans.turns") 0 ⟨43,11,43,28⟩)) (pos:=⟨43,0,43,28⟩))
def Z.sY15:PySem.Stmt:=(PySem.Stmt.FunctionDef (name := "vehicles") (args:={ posonlyargs:=[],args:=[ { arg := "plan",annotation:=none,pos:=⟨44,13,44,17⟩:PySem.Arg },{ arg := "period",annotation:=none,pos:=⟨44,19,44,25⟩:PySem.Arg },{ arg := "beats",annotation:=none,pos:=⟨44,27,44,32⟩:PySem.Arg },{ arg := "ring",annotation:=none,pos:=⟨44,34,44,38⟩:PySem.Arg }],vararg:=none,kwonlyargs:=[],kw_defaults:=[],kwarg:=none,defaults:=[]:PySem.Arguments }) (body:=Z.bY15) (decorator_list:=[]) (returns:=none) (type_params:=[]) (scope:=Z.cY15) (tscope:=none) (bind := "vehicles") (pos:=⟨44,0,50,15⟩))
def Z.sY16:PySem.Stmt:=(PySem.Stmt.FunctionDef (name := "vehicle_at") (args:={ posonlyargs:=[],args:=[ { arg := "plan",annotation:=none,pos:=⟨51,15,51,19⟩:PySem.Arg },{ arg := "period",annotation:=none,pos:=⟨51,21,51,27⟩:PySem.Arg },{ arg := "beats",annotation:=none,pos:=⟨51,29,51,34⟩:PySem.Arg },{ arg := "ring",annotation:=none,pos:=⟨51,36,51,40⟩:PySem.Arg },{ arg := "place",annotation:=none,pos:=⟨51,42,51,47⟩:PySem.Arg },{ arg := "turn",annotation:=none,pos:=⟨51,49,51,53⟩:PySem.Arg }],vararg:=none,kwonlyargs:=[],kw_defaults:=[],kwarg:=none,defaults:=[]:PySem.Arguments }) (body:=Z.bY16) (decorator_list:=[]) (returns:=none) (type_params:=[]) (scope:=Z.cY16) (tscope:=none) (bind := "vehicle_at") (pos:=⟨51,0,54,32⟩))
def Z.sY17:PySem.Stmt:=(PySem.Stmt.FunctionDef (name := "vehicle_row") (args:={ posonlyargs:=[],args:=[ { arg := "plan",annotation:=none,pos:=⟨55,16,55,20⟩:PySem.Arg },{ arg := "period",annotation:=none,pos:=⟨55,22,55,28⟩:PySem.Arg },{ arg := "beats",annotation:=none,pos:=⟨55,30,55,35⟩:PySem.Arg },{ arg := "ring",annotation:=none,pos:=⟨55,37,55,41⟩:PySem.Arg },{ arg := "vehicle",annotation:=none,pos:=⟨55,43,55,50⟩:PySem.Arg },{ arg := "many",annotation:=none,pos:=⟨55,52,55,56⟩:PySem.Arg }],vararg:=none,kwonlyargs:=[],kw_defaults:=[],kwarg:=none,defaults:=[]:PySem.Arguments }) (body:=Z.bY17) (decorator_list:=[]) (returns:=none) (type_params:=[]) (scope:=Z.cY17) (tscope:=none) (bind := "vehicle_row") (pos:=⟨55,0,64,14⟩))
def Z.sY18:PySem.Stmt:=(PySem.Stmt.Assign (targets:=[(PySem.Expr.Name "__name__" ⟨65,0,65,8⟩)]) (value:=(PySem.Expr.Constant (PySem.Const.str "law_beatplans_k73_rings_that_are_refused") 0 ⟨65,11,65,53⟩)) (pos:=⟨65,0,65,53⟩))
def Z.sY19:PySem.Stmt:=(PySem.Stmt.FunctionDef (name := "_law_feed") (args:={ posonlyargs:=[],args:=[{ arg := "_law_script",annotation:=none,pos:=⟨66,14,66,25⟩:PySem.Arg }],vararg:=none,kwonlyargs:=[],kw_defaults:=[],kwarg:=none,defaults:=[]:PySem.Arguments }) (body:=Z.bY19) (decorator_list:=[]) (returns:=none) (type_params:=[]) (scope:=Z.cY19) (tscope:=none) (bind := "_law_feed") (pos:=⟨66,0,67,110⟩))
def Z.sY20:PySem.Stmt:=(PySem.Stmt.FunctionDef (name := "_law_draw") (args:={ posonlyargs:=[],args:=[ { arg := "_law_feed_here",annotation:=none,pos:=⟨68,14,68,28⟩:PySem.Arg },{ arg := "_law_many",annotation:=none,pos:=⟨68,30,68,39⟩:PySem.Arg }],vararg:=none,kwonlyargs:=[],kw_defaults:=[],kwarg:=none,defaults:=[]:PySem.Arguments }) (body:=Z.bY20) (decorator_list:=[]) (returns:=none) (type_params:=[]) (scope:=Z.cY20) (tscope:=none) (bind := "_law_draw") (pos:=⟨68,0,80,21⟩))
def Z.sY21:PySem.Stmt:=(PySem.Stmt.FunctionDef (name := "_law_names") (args:={ posonlyargs:=[],args:=[ { arg := "_law_feed_here",annotation:=none,pos:=⟨81,15,81,29⟩:PySem.Arg },{ arg := "_law_many",annotation:=none,pos:=⟨81,31,81,40⟩:PySem.Arg }],vararg:=none,kwonlyargs:=[],kw_defaults:=[],kwarg:=none,defaults:=[]:PySem.Arguments }) (body:=Z.bY21) (decorator_list:=[]) (returns:=none) (type_params:=[]) (scope:=Z.cY21) (tscope:=none) (bind := "_law_names") (pos:=⟨81,0,91,33⟩))
def Z.sY22:PySem.Stmt:=(PySem.Stmt.FunctionDef (name := "_law_cycle") (args:={ posonlyargs:=[],args:=[{ arg := "_law_feed_here",annotation:=none,pos:=⟨92,15,92,29⟩:PySem.Arg }],vararg:=none,kwonlyargs:=[],kw_defaults:=[],kwarg:=none,defaults:=[]:PySem.Arguments }) (body:=Z.bY22) (decorator_list:=[]) (returns:=none) (type_params:=[]) (scope:=Z.cY22) (tscope:=none) (bind := "_law_cycle") (pos:=⟨92,0,93,92⟩))
def Z.sY23:PySem.Stmt:=(PySem.Stmt.FunctionDef (name := "_law_number") (args:={ posonlyargs:=[],args:=[ { arg := "_law_feed_here",annotation:=none,pos:=⟨94,16,94,30⟩:PySem.Arg },{ arg := "_law_cycle_here",annotation:=none,pos:=⟨94,32,94,47⟩:PySem.Arg }],vararg:=none,kwonlyargs:=[],kw_defaults:=[],kwarg:=none,defaults:=[]:PySem.Arguments }) (body:=Z.bY23) (decorator_list:=[]) (returns:=none) (type_params:=[]) (scope:=Z.cY23) (tscope:=none) (bind := "_law_number") (pos:=⟨94,0,100,84⟩))
def Z.sY24:PySem.Stmt:=(PySem.Stmt.FunctionDef (name := "_law_span") (args:={ posonlyargs:=[],args:=[ { arg := "_law_feed_here",annotation:=none,pos:=⟨101,14,101,28⟩:PySem.Arg },{ arg := "_law_one",annotation:=none,pos:=⟨101,30,101,38⟩:PySem.Arg },{ arg := "_law_other",annotation:=none,pos:=⟨101,40,101,50⟩:PySem.Arg },{ arg := "_law_cycle_here",annotation:=none,pos:=⟨101,52,101,67⟩:PySem.Arg }],vararg:=none,kwonlyargs:=[],kw_defaults:=[],kwarg:=none,defaults:=[]:PySem.Arguments }) (body:=Z.bY24) (decorator_list:=[]) (returns:=none) (type_params:=[]) (scope:=Z.cY24) (tscope:=none) (bind := "_law_span") (pos:=⟨101,0,106,84⟩))
def Z.sY25:PySem.Stmt:=(PySem.Stmt.FunctionDef (name := "_law_beats") (args:={ posonlyargs:=[],args:=[ { arg := "_law_feed_here",annotation:=none,pos:=⟨107,15,107,29⟩:PySem.Arg },{ arg := "_law_works",annotation:=none,pos:=⟨107,31,107,41⟩:PySem.Arg },{ arg := "_law_cycle_here",annotation:=none,pos:=⟨107,43,107,58⟩:PySem.Arg }],vararg:=none,kwonlyargs:=[],kw_defaults:=[],kwarg:=none,defaults:=[]:PySem.Arguments }) (body:=Z.bY25) (decorator_list:=[]) (returns:=none) (type_params:=[]) (scope:=Z.cY25) (tscope:=none) (bind := "_law_beats") (pos:=⟨107,0,108,94⟩))
def Z.sY26:PySem.Stmt:=(PySem.Stmt.FunctionDef (name := "_law_leg") (args:={ posonlyargs:=[],args:=[ { arg := "_law_plan",annotation:=none,pos:=⟨109,13,109,22⟩:PySem.Arg },{ arg := "_law_cycle_here",annotation:=none,pos:=⟨109,24,109,39⟩:PySem.Arg },{ arg := "_law_beats_here",annotation:=none,pos:=⟨109,41,109,56⟩:PySem.Arg },{ arg := "_law_s",annotation:=none,pos:=⟨109,58,109,64⟩:PySem.Arg }],vararg:=none,kwonlyargs:=[],kw_defaults:=[],kwarg:=none,defaults:=[]:PySem.Arguments }) (body:=Z.bY26) (decorator_list:=[]) (returns:=none) (type_params:=[]) (scope:=Z.cY26) (tscope:=none) (bind := "_law_leg") (pos:=⟨109,0,112,120⟩))
def Z.sY27:PySem.Stmt:=(PySem.Stmt.FunctionDef (name := "_law_ring_world") (args:={ posonlyargs:=[],args:=[{ arg := "_law_feed_here",annotation:=none,pos:=⟨113,20,113,34⟩:PySem.Arg }],vararg:=none,kwonlyargs:=[],kw_defaults:=[],kwarg:=none,defaults:=[]:PySem.Arguments }) (body:=Z.bY27) (decorator_list:=[]) (returns:=none) (type_params:=[]) (scope:=Z.cY27) (tscope:=none) (bind := "_law_ring_world") (pos:=⟨113,0,130,157⟩))
def Z.sY28:PySem.Stmt:=(PySem.Stmt.FunctionDef (name := "_law_vehicles") (args:={ posonlyargs:=[],args:=[ { arg := "_law_plan",annotation:=none,pos:=⟨131,18,131,27⟩:PySem.Arg },{ arg := "_law_cycle_here",annotation:=none,pos:=⟨131,29,131,44⟩:PySem.Arg },{ arg := "_law_beats_here",annotation:=none,pos:=⟨131,46,131,61⟩:PySem.Arg },{ arg := "_law_ring",annotation:=none,pos:=⟨131,63,131,72⟩:PySem.Arg }],vararg:=none,kwonlyargs:=[],kw_defaults:=[],kwarg:=none,defaults:=[]:PySem.Arguments }) (body:=Z.bY28) (decorator_list:=[]) (returns:=none) (type_params:=[]) (scope:=Z.cY28) (tscope:=none) (bind := "_law_vehicles") (pos:=⟨131,0,132,161⟩))
def Z.sY29:PySem.Stmt:=(PySem.Stmt.FunctionDef (name := "_law_told") (args:={ posonlyargs:=[],args:=[ { arg := "_law_way",annotation:=none,pos:=⟨133,14,133,22⟩:PySem.Arg },{ arg := "_law_world",annotation:=none,pos:=⟨133,24,133,34⟩:PySem.Arg },{ arg := "_law_ring",annotation:=none,pos:=⟨133,36,133,45⟩:PySem.Arg }],vararg:=none,kwonlyargs:=[],kw_defaults:=[],kwarg:=none,defaults:=[]:PySem.Arguments }) (body:=Z.bY29) (decorator_list:=[]) (returns:=none) (type_params:=[]) (scope:=Z.cY29) (tscope:=none) (bind := "_law_told") (pos:=⟨133,0,148,21⟩))
def Z.sY30:PySem.Stmt:=(PySem.Stmt.FunctionDef (name := "_law_due") (args:={ posonlyargs:=[],args:=[ { arg := "_law_way",annotation:=none,pos:=⟨149,13,149,21⟩:PySem.Arg },{ arg := "_law_world",annotation:=none,pos:=⟨149,23,149,33⟩:PySem.Arg },{ arg := "_law_ring",annotation:=none,pos:=⟨149,35,149,44⟩:PySem.Arg }],vararg:=none,kwonlyargs:=[],kw_defaults:=[],kwarg:=none,defaults:=[]:PySem.Arguments }) (body:=Z.bY30) (decorator_list:=[]) (returns:=none) (type_params:=[]) (scope:=Z.cY30) (tscope:=none) (bind := "_law_due") (pos:=⟨149,0,154,79⟩))
def Z.sY31:PySem.Stmt:=(PySem.Stmt.FunctionDef (name := "law") (args:={ posonlyargs:=[],args:=[{ arg := "_law_script",annotation:=none,pos:=⟨155,8,155,19⟩:PySem.Arg }],vararg:=none,kwonlyargs:=[],kw_defaults:=[],kwarg:=none,defaults:=[]:PySem.Arguments }) (body:=Z.bY31) (decorator_list:=[]) (returns:=none) (type_params:=[]) (scope:=Z.cY31) (tscope:=none) (bind := "law") (pos:=⟨155,0,174,15⟩))
set_option maxRecDepth 100000 in
def Z.pwS:PySem.Program:={ main:={ body:=[Z.sY0,Z.sY1,Z.sY2,Z.sY3,Z.sY4,Z.sY5,Z.sY6,Z.sY7,Z.sY8,Z.sY9,Z.sY10,Z.sY11,Z.sY12,Z.sY13,Z.sY14,Z.sY15,Z.sY16,Z.sY17,Z.sY18,Z.sY19,Z.sY20,Z.sY21,Z.sY22,Z.sY23,Z.sY24,Z.sY25,Z.sY26,Z.sY27,Z.sY28,Z.sY29,Z.sY30,Z.sY31],scope:={ kind:=PySem.ScopeKind.module,names:=[ (PySem.Str.ofString "__name__",PySem.NameKind.local),(PySem.Str.ofString "PlanError",PySem.NameKind.local),(PySem.Str.ofString "ValueError",PySem.NameKind.globalImplicit),(PySem.Str.ofString "NoPaper",PySem.NameKind.local),(PySem.Str.ofString "TooMany",PySem.NameKind.local),(PySem.Str.ofString "NoRing",PySem.NameKind.local),(PySem.Str.ofString "NoText",PySem.NameKind.local),(PySem.Str.ofString "NoRow",PySem.NameKind.local),(PySem.Str.ofString "length_of",PySem.NameKind.local),(PySem.Str.ofString "step_of",PySem.NameKind.local),(PySem.Str.ofString "ends_of",PySem.NameKind.local),(PySem.Str.ofString "rounds_in",PySem.NameKind.local),(PySem.Str.ofString "vehicles",PySem.NameKind.local),(PySem.Str.ofString "vehicle_at",PySem.NameKind.local),(PySem.Str.ofString "vehicle_row",PySem.NameKind.local),(PySem.Str.ofString "_law_feed",PySem.NameKind.local),(PySem.Str.ofString "_law_draw",PySem.NameKind.local),(PySem.Str.ofString "_law_names",PySem.NameKind.local),(PySem.Str.ofString "_law_cycle",PySem.NameKind.local),(PySem.Str.ofString "_law_number",PySem.NameKind.local),(PySem.Str.ofString "_law_span",PySem.NameKind.local),(PySem.Str.ofString "_law_beats",PySem.NameKind.local),(PySem.Str.ofString "_law_leg",PySem.NameKind.local),(PySem.Str.ofString "_law_ring_world",PySem.NameKind.local),(PySem.Str.ofString "_law_vehicles",PySem.NameKind.local),(PySem.Str.ofString "_law_told",PySem.NameKind.local),(PySem.Str.ofString "_law_due",PySem.NameKind.local),(PySem.Str.ofString "law",PySem.NameKind.local)],isGenerator:=false,isCoroutine:=false,more:=[]:PySem.Scope },futureAnnotations:=false,file := "/claim/cut.py",more:=[]:PySem.Module },modules:=[],parses:=[],absent:=[],harvested:=[],given:={ argv:=[],stdin:=[],environ:=(some [([76,67,95,65,76,76],[67,46,85,84,70,45,56])]):PySem.Given }:PySem.Program } 
def Z.rwS:PySem.W.OpenLaw :={ prog:=Z.pwS,name:=(PySem.Str.ofString "law"),about:=[(PySem.Str.ofString "vehicles")],foot:=13,most:=some 63,bound:=none,writes:=false }
theorem Z.rw_eq:PySem.Challenge.rw_beatplans_k73_rings_that_are_refused=Z.rwS:=rfl
noncomputable def Z.aY8:PySem.Arguments:=L2.defArgs (Z.top 8)
noncomputable def Z.aY10:PySem.Arguments:=L2.defArgs (Z.top 10)
noncomputable def Z.aY12:PySem.Arguments:=L2.defArgs (Z.top 12)
noncomputable def Z.aY13:PySem.Arguments:=L2.defArgs (Z.top 13)
noncomputable def Z.aY15:PySem.Arguments:=L2.defArgs (Z.top 15)
noncomputable def Z.aY16:PySem.Arguments:=L2.defArgs (Z.top 16)
noncomputable def Z.aY17:PySem.Arguments:=L2.defArgs (Z.top 17)
noncomputable def Z.aY19:PySem.Arguments:=L2.defArgs (Z.top 19)
noncomputable def Z.aY20:PySem.Arguments:=L2.defArgs (Z.top 20)
noncomputable def Z.aY21:PySem.Arguments:=L2.defArgs (Z.top 21)
noncomputable def Z.aY22:PySem.Arguments:=L2.defArgs (Z.top 22)
noncomputable def Z.aY23:PySem.Arguments:=L2.defArgs (Z.top 23)
noncomputable def Z.aY24:PySem.Arguments:=L2.defArgs (Z.top 24)
noncomputable def Z.aY25:PySem.Arguments:=L2.defArgs (Z.top 25)
noncomputable def Z.aY26:PySem.Arguments:=L2.defArgs (Z.top 26)
noncomputable def Z.aY27:PySem.Arguments:=L2.defArgs (Z.top 27)
noncomputable def Z.aY28:PySem.Arguments:=L2.defArgs (Z.top 28)
noncomputable def Z.aY29:PySem.Arguments:=L2.defArgs (Z.top 29)
noncomputable def Z.aY30:PySem.Arguments:=L2.defArgs (Z.top 30)
noncomputable def Z.aY31:PySem.Arguments:=L2.defArgs (Z.top 31)
open PySem in
noncomputable def Z.KK:Params->W.Frag:=fun P=>
 ((nat_lit 1:Addr),(W.boot_o_1 P:Obj))::
  ((nat_lit 3:Addr),({ cls:=Value.type "dict",data:=Data.dict (List.toArray (({ hash:=PyData.keyHash P (Str.ofString "__name__"),key:=Value.str (Str.ofString "__name__") 165,val:=Value.str (Str.ofString "law_beatplans_k73_rings_that_are_refused") 425 }:DictEntry)::({ hash:=PyData.keyHash P (Str.ofString "__doc__"),key:=Value.str (Str.ofString "__doc__") 166,val:=Value.none }:DictEntry)::({ hash:=PyData.keyHash P (Str.ofString "__package__"),key:=Value.str (Str.ofString "__package__") 167,val:=Value.none }:DictEntry)::({ hash:=PyData.keyHash P (Str.ofString "__loader__"),key:=Value.str (Str.ofString "__loader__") 168,val:=Value.builtin "__main__.__loader__#opaque" }:DictEntry)::({ hash:=PyData.keyHash P (Str.ofString "__spec__"),key:=Value.str (Str.ofString "__spec__") 169,val:=Value.none }:DictEntry)::({ hash:=PyData.keyHash P (Str.ofString "__annotations__"),key:=Value.str (Str.ofString "__annotations__") 170,val:=Value.ref 6 }:DictEntry)::({ hash:=PyData.keyHash P (Str.ofString "__builtins__"),key:=Value.str (Str.ofString "__builtins__") 171,val:=Value.ref 4 }:DictEntry)::({ hash:=PyData.keyHash P (Str.ofString "__file__"),key:=Value.str (Str.ofString "__file__") 173,val:=Value.str (Str.ofString "/claim/cut.py") 172 }:DictEntry)::({ hash:=PyData.keyHash P (Str.ofString "__cached__"),key:=Value.str (Str.ofString "__cached__") 174,val:=Value.none }:DictEntry)::({ hash:=PyData.keyHash P (Str.ofString "PlanError"),key:=Value.str (Str.ofString "PlanError") 206,val:=Value.ref 24 }:DictEntry)::({ hash:=PyData.keyHash P (Str.ofString "NoPaper"),key:=Value.str (Str.ofString "NoPaper") 233,val:=Value.ref 44 }:DictEntry)::({ hash:=PyData.keyHash P (Str.ofString "TooMany"),key:=Value.str (Str.ofString "TooMany") 258,val:=Value.ref 63 }:DictEntry)::({ hash:=PyData.keyHash P (Str.ofString "NoRing"),key:=Value.str (Str.ofString "NoRing") 283,val:=Value.ref 82 }:DictEntry)::({ hash:=PyData.keyHash P (Str.ofString "NoText"),key:=Value.str (Str.ofString "NoText") 310,val:=Value.ref 101 }:DictEntry)::({ hash:=PyData.keyHash P (Str.ofString "NoRow"),key:=Value.str (Str.ofString "NoRow") 335,val:=Value.ref 120 }:DictEntry)::({ hash:=PyData.keyHash P (Str.ofString "length_of"),key:=Value.str (Str.ofString "length_of") 352,val:=Value.ref 129 }:DictEntry)::({ hash:=PyData.keyHash P (Str.ofString "step_of"),key:=Value.str (Str.ofString "step_of") 369,val:=Value.ref 136 }:DictEntry)::({ hash:=PyData.keyHash P (Str.ofString "ends_of"),key:=Value.str (Str.ofString "ends_of") 386,val:=Value.ref 143 }:DictEntry)::({ hash:=PyData.keyHash P (Str.ofString "rounds_in"),key:=Value.str (Str.ofString "rounds_in") 392,val:=Value.ref 148 }:DictEntry)::({ hash:=PyData.keyHash P (Str.ofString "vehicles"),key:=Value.str (Str.ofString "vehicles") 400,val:=Value.ref 153 }:DictEntry)::({ hash:=PyData.keyHash P (Str.ofString "vehicle_at"),key:=Value.str (Str.ofString "vehicle_at") 406,val:=Value.ref 158 }:DictEntry)::({ hash:=PyData.keyHash P (Str.ofString "vehicle_row"),key:=Value.str (Str.ofString "vehicle_row") 424,val:=Value.ref 165 }:DictEntry)::({ hash:=PyData.keyHash P (Str.ofString "_law_feed"),key:=Value.str (Str.ofString "_law_feed") 433,val:=Value.ref 172 }:DictEntry)::({ hash:=PyData.keyHash P (Str.ofString "_law_draw"),key:=Value.str (Str.ofString "_law_draw") 444,val:=Value.ref 179 }:DictEntry)::({ hash:=PyData.keyHash P (Str.ofString "_law_names"),key:=Value.str (Str.ofString "_law_names") 450,val:=Value.ref 184 }:DictEntry)::({ hash:=PyData.keyHash P (Str.ofString "_law_cycle"),key:=Value.str (Str.ofString "_law_cycle") 457,val:=Value.ref 191 }:DictEntry)::({ hash:=PyData.keyHash P (Str.ofString "_law_number"),key:=Value.str (Str.ofString "_law_number") 466,val:=Value.ref 198 }:DictEntry)::({ hash:=PyData.keyHash P (Str.ofString "_law_span"),key:=Value.str (Str.ofString "_law_span") 478,val:=Value.ref 205 }:DictEntry)::({ hash:=PyData.keyHash P (Str.ofString "_law_beats"),key:=Value.str (Str.ofString "_law_beats") 484,val:=Value.ref 210 }:DictEntry)::({ hash:=PyData.keyHash P (Str.ofString "_law_leg"),key:=Value.str (Str.ofString "_law_leg") 500,val:=Value.ref 217 }:DictEntry)::({ hash:=PyData.keyHash P (Str.ofString "_law_ring_world"),key:=Value.str (Str.ofString "_law_ring_world") 506,val:=Value.ref 222 }:DictEntry)::({ hash:=PyData.keyHash P (Str.ofString "_law_vehicles"),key:=Value.str (Str.ofString "_law_vehicles") 512,val:=Value.ref 227 }:DictEntry)::({ hash:=PyData.keyHash P (Str.ofString "_law_told"),key:=Value.str (Str.ofString "_law_told") 527,val:=Value.ref 234 }:DictEntry)::({ hash:=PyData.keyHash P (Str.ofString "_law_due"),key:=Value.str (Str.ofString "_law_due") 533,val:=Value.ref 239 }:DictEntry)::({ hash:=PyData.keyHash P (Str.ofString "law"),key:=Value.str (Str.ofString "law") 539,val:=Value.ref 244 }:DictEntry)::[])) 35 }:Obj))::
  ((nat_lit 23:Addr),({ cls:=Value.type "dict",data:=Data.dict #[{ hash:=PyData.keyHash P (Str.ofString "__module__"),key:=Value.str (Str.ofString "__module__") 196,val:=Value.str (Str.ofString "beatplans.errors") 187 },{ hash:=PyData.keyHash P (Str.ofString "__firstlineno__"),key:=Value.str (Str.ofString "__firstlineno__") 200,val:=Value.int 2 199 },{ hash:=PyData.keyHash P (Str.ofString "__static_attributes__"),key:=Value.str (Str.ofString "__static_attributes__") 201,val:=Value.ref 22 },{ hash:=PyData.keyHash P (Str.ofString "__weakref__"),key:=Value.str (Str.ofString "__weakref__") 203,val:=Value.ref 25 },{ hash:=PyData.keyHash P (Str.ofString "__doc__"),key:=Value.str (Str.ofString "__doc__") 204,val:=Value.none }] 3 }:Obj))::
  ((nat_lit 24:Addr),({ cls:=Value.type "type",data:=Data.cls { name:=Str.ofString "PlanError",bases:=[Value.type "ValueError"],mro:=[Value.ref 24,Value.type "ValueError",Value.type "Exception",Value.type "BaseException",Value.type "object"],ns:=23,qualname:=Str.ofString "PlanError",subclasses:=[Value.ref 44,Value.ref 63,Value.ref 82,Value.ref 101,Value.ref 120] },slots:=#[Option.some (Value.ref 15),Option.none,Option.some (Value.str (Str.ofString "PlanError") 189),Option.some (Value.str (Str.ofString "PlanError") 197),Option.some (Value.builtin "ValueError.__new__"),Option.some (Value.bool Bool.true)] }:Obj))::
  ((nat_lit 40:Addr),({ cls:=Value.type "code",data:=Data.fields #[Value.str (Str.ofString "__init__") 219,Value.str (Str.ofString "NoPaper.__init__") 220,Value.str (Str.ofString "/claim/cut.py") 221,Value.int 6 0,Value.int 3 0,Value.int 0 0,Value.int 0 0,Value.int 3 0,Value.ref 35,Value.bool Bool.true,Value.int 181 0,Value.ref 36,Value.none,Value.ref 37,Value.ref 38,Value.ref 39,Value.int 225 0,Value.int 6 0,Value.str (Str.ofString "/claim/cut.py") 226] }:Obj))::
  ((nat_lit 41:Addr),({ cls:=Value.type "function",data:=Data.func { name:=Str.ofString "__init__",qualname:=Str.ofString "NoPaper.__init__",params:={ posonlyargs:=[],args:=[{ arg:=Str.ofString "self",annotation:=Option.none,pos:={ line:=6,col:=17,endLine:=6,endCol:=21 } },{ arg:=Str.ofString "word",annotation:=Option.none,pos:={ line:=6,col:=23,endLine:=6,endCol:=27 } },{ arg:=Str.ofString "at",annotation:=Option.none,pos:={ line:=6,col:=29,endLine:=6,endCol:=31 } }],vararg:=Option.none,kwonlyargs:=[],kw_defaults:=[],kwarg:=Option.none,defaults:=[] },body:=FuncBody.stmts [Stmt.Assign [(Expr.Name (Str.ofString "self") { line:=7,col:=8,endLine:=7,endCol:=12 }).Attribute (Str.ofString "word") { line:=7,col:=8,endLine:=7,endCol:=17 }] (Expr.Name (Str.ofString "word") { line:=7,col:=20,endLine:=7,endCol:=24 }) { line:=7,col:=8,endLine:=7,endCol:=24 },Stmt.Assign [(Expr.Name (Str.ofString "self") { line:=8,col:=8,endLine:=8,endCol:=12 }).Attribute (Str.ofString "at") { line:=8,col:=8,endLine:=8,endCol:=15 }] (Expr.Name (Str.ofString "at") { line:=8,col:=18,endLine:=8,endCol:=20 }) { line:=8,col:=8,endLine:=8,endCol:=20 }],scope:={ kind:=ScopeKind.function,names:=[(Str.ofString "self",NameKind.local),(Str.ofString "word",NameKind.local),(Str.ofString "at",NameKind.local)],isGenerator:=Bool.false,isCoroutine:=Bool.false },globals:=3,closure:=[],defaults:=Value.none,kwdefaults:=Value.none,pyModule:=Value.str (Str.ofString "beatplans.errors") 187,code:=Value.ref 40 } }:Obj))::
  ((nat_lit 43:Addr),({ cls:=Value.type "dict",data:=Data.dict #[{ hash:=PyData.keyHash P (Str.ofString "__module__"),key:=Value.str (Str.ofString "__module__") 214,val:=Value.str (Str.ofString "beatplans.errors") 187 },{ hash:=PyData.keyHash P (Str.ofString "__firstlineno__"),key:=Value.str (Str.ofString "__firstlineno__") 218,val:=Value.int 4 217 },{ hash:=PyData.keyHash P (Str.ofString "__init__"),key:=Value.str (Str.ofString "__init__") 227,val:=Value.ref 41 },{ hash:=PyData.keyHash P (Str.ofString "__static_attributes__"),key:=Value.str (Str.ofString "__static_attributes__") 230,val:=Value.ref 42 },{ hash:=PyData.keyHash P (Str.ofString "__doc__"),key:=Value.str (Str.ofString "__doc__") 231,val:=Value.none }] 2 }:Obj))::
  ((nat_lit 44:Addr),({ cls:=Value.type "type",data:=Data.cls { name:=Str.ofString "NoPaper",bases:=[Value.ref 24],mro:=[Value.ref 44,Value.ref 24,Value.type "ValueError",Value.type "Exception",Value.type "BaseException",Value.type "object"],ns:=43,qualname:=Str.ofString "NoPaper" },slots:=#[Option.some (Value.ref 28),Option.none,Option.some (Value.str (Str.ofString "NoPaper") 207),Option.some (Value.str (Str.ofString "NoPaper") 215),Option.some (Value.builtin "ValueError.__new__"),Option.some (Value.bool Bool.true)] }:Obj))::
  ((nat_lit 59:Addr),({ cls:=Value.type "code",data:=Data.fields #[Value.str (Str.ofString "__init__") 246,Value.str (Str.ofString "TooMany.__init__") 247,Value.str (Str.ofString "/claim/cut.py") 248,Value.int 11 0,Value.int 2 0,Value.int 0 0,Value.int 0 0,Value.int 3 0,Value.ref 54,Value.bool Bool.true,Value.int 181 0,Value.ref 55,Value.none,Value.ref 56,Value.ref 57,Value.ref 58,Value.int 251 0,Value.int 11 0,Value.str (Str.ofString "/claim/cut.py") 252] }:Obj))::
  ((nat_lit 60:Addr),({ cls:=Value.type "function",data:=Data.func { name:=Str.ofString "__init__",qualname:=Str.ofString "TooMany.__init__",params:={ posonlyargs:=[],args:=[{ arg:=Str.ofString "self",annotation:=Option.none,pos:={ line:=11,col:=17,endLine:=11,endCol:=21 } },{ arg:=Str.ofString "word",annotation:=Option.none,pos:={ line:=11,col:=23,endLine:=11,endCol:=27 } }],vararg:=Option.none,kwonlyargs:=[],kw_defaults:=[],kwarg:=Option.none,defaults:=[] },body:=FuncBody.stmts [Stmt.Assign [(Expr.Name (Str.ofString "self") { line:=12,col:=8,endLine:=12,endCol:=12 }).Attribute (Str.ofString "word") { line:=12,col:=8,endLine:=12,endCol:=17 }] (Expr.Name (Str.ofString "word") { line:=12,col:=20,endLine:=12,endCol:=24 }) { line:=12,col:=8,endLine:=12,endCol:=24 }],scope:={ kind:=ScopeKind.function,names:=[(Str.ofString "self",NameKind.local),(Str.ofString "word",NameKind.local)],isGenerator:=Bool.false,isCoroutine:=Bool.false },globals:=3,closure:=[],defaults:=Value.none,kwdefaults:=Value.none,pyModule:=Value.str (Str.ofString "beatplans.errors") 187,code:=Value.ref 59 } }:Obj))::
  ((nat_lit 62:Addr),({ cls:=Value.type "dict",data:=Data.dict #[{ hash:=PyData.keyHash P (Str.ofString "__module__"),key:=Value.str (Str.ofString "__module__") 241,val:=Value.str (Str.ofString "beatplans.errors") 187 },{ hash:=PyData.keyHash P (Str.ofString "__firstlineno__"),key:=Value.str (Str.ofString "__firstlineno__") 245,val:=Value.int 9 244 },{ hash:=PyData.keyHash P (Str.ofString "__init__"),key:=Value.str (Str.ofString "__init__") 253,val:=Value.ref 60 },{ hash:=PyData.keyHash P (Str.ofString "__static_attributes__"),key:=Value.str (Str.ofString "__static_attributes__") 255,val:=Value.ref 61 },{ hash:=PyData.keyHash P (Str.ofString "__doc__"),key:=Value.str (Str.ofString "__doc__") 256,val:=Value.none }] 2 }:Obj))::
  ((nat_lit 63:Addr),({ cls:=Value.type "type",data:=Data.cls { name:=Str.ofString "TooMany",bases:=[Value.ref 24],mro:=[Value.ref 63,Value.ref 24,Value.type "ValueError",Value.type "Exception",Value.type "BaseException",Value.type "object"],ns:=62,qualname:=Str.ofString "TooMany" },slots:=#[Option.some (Value.ref 47),Option.none,Option.some (Value.str (Str.ofString "TooMany") 234),Option.some (Value.str (Str.ofString "TooMany") 242),Option.some (Value.builtin "ValueError.__new__"),Option.some (Value.bool Bool.true)] }:Obj))::
  ((nat_lit 78:Addr),({ cls:=Value.type "code",data:=Data.fields #[Value.str (Str.ofString "__init__") 271,Value.str (Str.ofString "NoRing.__init__") 272,Value.str (Str.ofString "/claim/cut.py") 273,Value.int 15 0,Value.int 2 0,Value.int 0 0,Value.int 0 0,Value.int 3 0,Value.ref 73,Value.bool Bool.true,Value.int 181 0,Value.ref 74,Value.none,Value.ref 75,Value.ref 76,Value.ref 77,Value.int 276 0,Value.int 15 0,Value.str (Str.ofString "/claim/cut.py") 277] }:Obj))::
  ((nat_lit 79:Addr),({ cls:=Value.type "function",data:=Data.func { name:=Str.ofString "__init__",qualname:=Str.ofString "NoRing.__init__",params:={ posonlyargs:=[],args:=[{ arg:=Str.ofString "self",annotation:=Option.none,pos:={ line:=15,col:=17,endLine:=15,endCol:=21 } },{ arg:=Str.ofString "word",annotation:=Option.none,pos:={ line:=15,col:=23,endLine:=15,endCol:=27 } }],vararg:=Option.none,kwonlyargs:=[],kw_defaults:=[],kwarg:=Option.none,defaults:=[] },body:=FuncBody.stmts [Stmt.Assign [(Expr.Name (Str.ofString "self") { line:=16,col:=8,endLine:=16,endCol:=12 }).Attribute (Str.ofString "word") { line:=16,col:=8,endLine:=16,endCol:=17 }] (Expr.Name (Str.ofString "word") { line:=16,col:=20,endLine:=16,endCol:=24 }) { line:=16,col:=8,endLine:=16,endCol:=24 }],scope:={ kind:=ScopeKind.function,names:=[(Str.ofString "self",NameKind.local),(Str.ofString "word",NameKind.local)],isGenerator:=Bool.false,isCoroutine:=Bool.false },globals:=3,closure:=[],defaults:=Value.none,kwdefaults:=Value.none,pyModule:=Value.str (Str.ofString "beatplans.errors") 187,code:=Value.ref 78 } }:Obj))::
  ((nat_lit 81:Addr),({ cls:=Value.type "dict",data:=Data.dict #[{ hash:=PyData.keyHash P (Str.ofString "__module__"),key:=Value.str (Str.ofString "__module__") 266,val:=Value.str (Str.ofString "beatplans.errors") 187 },{ hash:=PyData.keyHash P (Str.ofString "__firstlineno__"),key:=Value.str (Str.ofString "__firstlineno__") 270,val:=Value.int 13 269 },{ hash:=PyData.keyHash P (Str.ofString "__init__"),key:=Value.str (Str.ofString "__init__") 278,val:=Value.ref 79 },{ hash:=PyData.keyHash P (Str.ofString "__static_attributes__"),key:=Value.str (Str.ofString "__static_attributes__") 280,val:=Value.ref 80 },{ hash:=PyData.keyHash P (Str.ofString "__doc__"),key:=Value.str (Str.ofString "__doc__") 281,val:=Value.none }] 2 }:Obj))::
  ((nat_lit 82:Addr),({ cls:=Value.type "type",data:=Data.cls { name:=Str.ofString "NoRing",bases:=[Value.ref 24],mro:=[Value.ref 82,Value.ref 24,Value.type "ValueError",Value.type "Exception",Value.type "BaseException",Value.type "object"],ns:=81,qualname:=Str.ofString "NoRing" },slots:=#[Option.some (Value.ref 66),Option.none,Option.some (Value.str (Str.ofString "NoRing") 259),Option.some (Value.str (Str.ofString "NoRing") 267),Option.some (Value.builtin "ValueError.__new__"),Option.some (Value.bool Bool.true)] }:Obj))::
  ((nat_lit 97:Addr),({ cls:=Value.type "code",data:=Data.fields #[Value.str (Str.ofString "__init__") 296,Value.str (Str.ofString "NoText.__init__") 297,Value.str (Str.ofString "/claim/cut.py") 298,Value.int 19 0,Value.int 3 0,Value.int 0 0,Value.int 0 0,Value.int 3 0,Value.ref 92,Value.bool Bool.true,Value.int 181 0,Value.ref 93,Value.none,Value.ref 94,Value.ref 95,Value.ref 96,Value.int 302 0,Value.int 19 0,Value.str (Str.ofString "/claim/cut.py") 303] }:Obj))::
  ((nat_lit 98:Addr),({ cls:=Value.type "function",data:=Data.func { name:=Str.ofString "__init__",qualname:=Str.ofString "NoText.__init__",params:={ posonlyargs:=[],args:=[{ arg:=Str.ofString "self",annotation:=Option.none,pos:={ line:=19,col:=17,endLine:=19,endCol:=21 } },{ arg:=Str.ofString "row",annotation:=Option.none,pos:={ line:=19,col:=23,endLine:=19,endCol:=26 } },{ arg:=Str.ofString "word",annotation:=Option.none,pos:={ line:=19,col:=28,endLine:=19,endCol:=32 } }],vararg:=Option.none,kwonlyargs:=[],kw_defaults:=[],kwarg:=Option.none,defaults:=[] },body:=FuncBody.stmts [Stmt.Assign [(Expr.Name (Str.ofString "self") { line:=20,col:=8,endLine:=20,endCol:=12 }).Attribute (Str.ofString "row") { line:=20,col:=8,endLine:=20,endCol:=16 }] (Expr.Name (Str.ofString "row") { line:=20,col:=19,endLine:=20,endCol:=22 }) { line:=20,col:=8,endLine:=20,endCol:=22 },Stmt.Assign [(Expr.Name (Str.ofString "self") { line:=21,col:=8,endLine:=21,endCol:=12 }).Attribute (Str.ofString "word") { line:=21,col:=8,endLine:=21,endCol:=17 }] (Expr.Name (Str.ofString "word") { line:=21,col:=20,endLine:=21,endCol:=24 }) { line:=21,col:=8,endLine:=21,endCol:=24 }],scope:={ kind:=ScopeKind.function,names:=[(Str.ofString "self",NameKind.local),(Str.ofString "row",NameKind.local),(Str.ofString "word",NameKind.local)],isGenerator:=Bool.false,isCoroutine:=Bool.false },globals:=3,closure:=[],defaults:=Value.none,kwdefaults:=Value.none,pyModule:=Value.str (Str.ofString "beatplans.errors") 187,code:=Value.ref 97 } }:Obj))::
  ((nat_lit 100:Addr),({ cls:=Value.type "dict",data:=Data.dict #[{ hash:=PyData.keyHash P (Str.ofString "__module__"),key:=Value.str (Str.ofString "__module__") 291,val:=Value.str (Str.ofString "beatplans.errors") 187 },{ hash:=PyData.keyHash P (Str.ofString "__firstlineno__"),key:=Value.str (Str.ofString "__firstlineno__") 295,val:=Value.int 17 294 },{ hash:=PyData.keyHash P (Str.ofString "__init__"),key:=Value.str (Str.ofString "__init__") 304,val:=Value.ref 98 },{ hash:=PyData.keyHash P (Str.ofString "__static_attributes__"),key:=Value.str (Str.ofString "__static_attributes__") 307,val:=Value.ref 99 },{ hash:=PyData.keyHash P (Str.ofString "__doc__"),key:=Value.str (Str.ofString "__doc__") 308,val:=Value.none }] 2 }:Obj))::
  ((nat_lit 101:Addr),({ cls:=Value.type "type",data:=Data.cls { name:=Str.ofString "NoText",bases:=[Value.ref 24],mro:=[Value.ref 101,Value.ref 24,Value.type "ValueError",Value.type "Exception",Value.type "BaseException",Value.type "object"],ns:=100,qualname:=Str.ofString "NoText" },slots:=#[Option.some (Value.ref 85),Option.none,Option.some (Value.str (Str.ofString "NoText") 284),Option.some (Value.str (Str.ofString "NoText") 292),Option.some (Value.builtin "ValueError.__new__"),Option.some (Value.bool Bool.true)] }:Obj))::
  ((nat_lit 116:Addr),({ cls:=Value.type "code",data:=Data.fields #[Value.str (Str.ofString "__init__") 323,Value.str (Str.ofString "NoRow.__init__") 324,Value.str (Str.ofString "/claim/cut.py") 325,Value.int 24 0,Value.int 2 0,Value.int 0 0,Value.int 0 0,Value.int 3 0,Value.ref 111,Value.bool Bool.true,Value.int 181 0,Value.ref 112,Value.none,Value.ref 113,Value.ref 114,Value.ref 115,Value.int 328 0,Value.int 24 0,Value.str (Str.ofString "/claim/cut.py") 329] }:Obj))::
  ((nat_lit 117:Addr),({ cls:=Value.type "function",data:=Data.func { name:=Str.ofString "__init__",qualname:=Str.ofString "NoRow.__init__",params:={ posonlyargs:=[],args:=[{ arg:=Str.ofString "self",annotation:=Option.none,pos:={ line:=24,col:=17,endLine:=24,endCol:=21 } },{ arg:=Str.ofString "row",annotation:=Option.none,pos:={ line:=24,col:=23,endLine:=24,endCol:=26 } }],vararg:=Option.none,kwonlyargs:=[],kw_defaults:=[],kwarg:=Option.none,defaults:=[] },body:=FuncBody.stmts [Stmt.Assign [(Expr.Name (Str.ofString "self") { line:=25,col:=8,endLine:=25,endCol:=12 }).Attribute (Str.ofString "row") { line:=25,col:=8,endLine:=25,endCol:=16 }] (Expr.Name (Str.ofString "row") { line:=25,col:=19,endLine:=25,endCol:=22 }) { line:=25,col:=8,endLine:=25,endCol:=22 }],scope:={ kind:=ScopeKind.function,names:=[(Str.ofString "self",NameKind.local),(Str.ofString "row",NameKind.local)],isGenerator:=Bool.false,isCoroutine:=Bool.false },globals:=3,closure:=[],defaults:=Value.none,kwdefaults:=Value.none,pyModule:=Value.str (Str.ofString "beatplans.errors") 187,code:=Value.ref 116 } }:Obj))::
  ((nat_lit 119:Addr),({ cls:=Value.type "dict",data:=Data.dict #[{ hash:=PyData.keyHash P (Str.ofString "__module__"),key:=Value.str (Str.ofString "__module__") 318,val:=Value.str (Str.ofString "beatplans.errors") 187 },{ hash:=PyData.keyHash P (Str.ofString "__firstlineno__"),key:=Value.str (Str.ofString "__firstlineno__") 322,val:=Value.int 22 321 },{ hash:=PyData.keyHash P (Str.ofString "__init__"),key:=Value.str (Str.ofString "__init__") 330,val:=Value.ref 117 },{ hash:=PyData.keyHash P (Str.ofString "__static_attributes__"),key:=Value.str (Str.ofString "__static_attributes__") 332,val:=Value.ref 118 },{ hash:=PyData.keyHash P (Str.ofString "__doc__"),key:=Value.str (Str.ofString "__doc__") 333,val:=Value.none }] 2 }:Obj))::
  ((nat_lit 120:Addr),({ cls:=Value.type "type",data:=Data.cls { name:=Str.ofString "NoRow",bases:=[Value.ref 24],mro:=[Value.ref 120,Value.ref 24,Value.type "ValueError",Value.type "Exception",Value.type "BaseException",Value.type "object"],ns:=119,qualname:=Str.ofString "NoRow" },slots:=#[Option.some (Value.ref 104),Option.none,Option.some (Value.str (Str.ofString "NoRow") 311),Option.some (Value.str (Str.ofString "NoRow") 319),Option.some (Value.builtin "ValueError.__new__"),Option.some (Value.bool Bool.true)] }:Obj))::
  ((nat_lit 128:Addr),({ cls:=Value.type "code",data:=Data.fields #[Value.str (Str.ofString "length_of") 338,Value.str (Str.ofString "length_of") 339,Value.str (Str.ofString "/claim/cut.py") 340,Value.int 27 0,Value.int 4 0,Value.int 0 0,Value.int 0 0,Value.int 3 0,Value.ref 123,Value.bool Bool.true,Value.int 181 0,Value.ref 124,Value.none,Value.ref 125,Value.ref 126,Value.ref 127,Value.int 350 0,Value.int 27 0,Value.str (Str.ofString "/claim/cut.py") 351] }:Obj))::
  ((nat_lit 129:Addr),({ cls:=Value.type "function",data:=Data.func { name:=Str.ofString "length_of",qualname:=Str.ofString "length_of",params:=Z.aY8,body:=FuncBody.stmts Z.bY8,scope:=Z.cY8,globals:=3,closure:=[],defaults:=Value.none,kwdefaults:=Value.none,pyModule:=Value.str (Str.ofString "beatplans.plans") 336,code:=Value.ref 128 } }:Obj))::
  ((nat_lit 135:Addr),({ cls:=Value.type "code",data:=Data.fields #[Value.str (Str.ofString "step_of") 355,Value.str (Str.ofString "step_of") 356,Value.str (Str.ofString "/claim/cut.py") 357,Value.int 31 0,Value.int 4 0,Value.int 0 0,Value.int 0 0,Value.int 3 0,Value.ref 130,Value.bool Bool.true,Value.int 181 0,Value.ref 131,Value.none,Value.ref 132,Value.ref 133,Value.ref 134,Value.int 367 0,Value.int 31 0,Value.str (Str.ofString "/claim/cut.py") 368] }:Obj))::
  ((nat_lit 136:Addr),({ cls:=Value.type "function",data:=Data.func { name:=Str.ofString "step_of",qualname:=Str.ofString "step_of",params:=Z.aY10,body:=FuncBody.stmts Z.bY10,scope:=Z.cY10,globals:=3,closure:=[],defaults:=Value.none,kwdefaults:=Value.none,pyModule:=Value.str (Str.ofString "beatplans.late") 353,code:=Value.ref 135 } }:Obj))::
  ((nat_lit 142:Addr),({ cls:=Value.type "code",data:=Data.fields #[Value.str (Str.ofString "ends_of") 372,Value.str (Str.ofString "ends_of") 373,Value.str (Str.ofString "/claim/cut.py") 374,Value.int 35 0,Value.int 2 0,Value.int 0 0,Value.int 0 0,Value.int 3 0,Value.ref 137,Value.bool Bool.true,Value.int 181 0,Value.ref 138,Value.none,Value.ref 139,Value.ref 140,Value.ref 141,Value.int 384 0,Value.int 35 0,Value.str (Str.ofString "/claim/cut.py") 385] }:Obj))::
  ((nat_lit 143:Addr),({ cls:=Value.type "function",data:=Data.func { name:=Str.ofString "ends_of",qualname:=Str.ofString "ends_of",params:=Z.aY12,body:=FuncBody.stmts Z.bY12,scope:=Z.cY12,globals:=3,closure:=[],defaults:=Value.none,kwdefaults:=Value.none,pyModule:=Value.str (Str.ofString "beatplans.rings") 370,code:=Value.ref 142 } }:Obj))::
  ((nat_lit 147:Addr),({ cls:=Value.type "code",data:=Data.fields #[Value.str (Str.ofString "rounds_in") 387,Value.str (Str.ofString "rounds_in") 388,Value.str (Str.ofString "/claim/cut.py") 389,Value.int 41 0,Value.int 4 0,Value.int 0 0,Value.int 0 0,Value.int 3 0,Value.ref 144,Value.bool Bool.true,Value.int 181 0,Value.ref 145,Value.none,Value.none,Value.none,Value.ref 146,Value.int 390 0,Value.int 41 0,Value.str (Str.ofString "/claim/cut.py") 391] }:Obj))::
  ((nat_lit 148:Addr),({ cls:=Value.type "function",data:=Data.func { name:=Str.ofString "rounds_in",qualname:=Str.ofString "rounds_in",params:=Z.aY13,body:=FuncBody.stmts Z.bY13,scope:=Z.cY13,globals:=3,closure:=[],defaults:=Value.none,kwdefaults:=Value.none,pyModule:=Value.str (Str.ofString "beatplans.rings") 370,code:=Value.ref 147 } }:Obj))::
  ((nat_lit 152:Addr),({ cls:=Value.type "code",data:=Data.fields #[Value.str (Str.ofString "vehicles") 395,Value.str (Str.ofString "vehicles") 396,Value.str (Str.ofString "/claim/cut.py") 397,Value.int 44 0,Value.int 4 0,Value.int 0 0,Value.int 0 0,Value.int 3 0,Value.ref 149,Value.bool Bool.true,Value.int 181 0,Value.ref 150,Value.none,Value.none,Value.none,Value.ref 151,Value.int 398 0,Value.int 44 0,Value.str (Str.ofString "/claim/cut.py") 399] }:Obj))::
  ((nat_lit 153:Addr),({ cls:=Value.type "function",data:=Data.func { name:=Str.ofString "vehicles",qualname:=Str.ofString "vehicles",params:=Z.aY15,body:=FuncBody.stmts Z.bY15,scope:=Z.cY15,globals:=3,closure:=[],defaults:=Value.none,kwdefaults:=Value.none,pyModule:=Value.str (Str.ofString "beatplans.turns") 393,code:=Value.ref 152 } }:Obj))::
  ((nat_lit 157:Addr),({ cls:=Value.type "code",data:=Data.fields #[Value.str (Str.ofString "vehicle_at") 401,Value.str (Str.ofString "vehicle_at") 402,Value.str (Str.ofString "/claim/cut.py") 403,Value.int 51 0,Value.int 6 0,Value.int 0 0,Value.int 0 0,Value.int 3 0,Value.ref 154,Value.bool Bool.true,Value.int 181 0,Value.ref 155,Value.none,Value.none,Value.none,Value.ref 156,Value.int 404 0,Value.int 51 0,Value.str (Str.ofString "/claim/cut.py") 405] }:Obj))::
  ((nat_lit 158:Addr),({ cls:=Value.type "function",data:=Data.func { name:=Str.ofString "vehicle_at",qualname:=Str.ofString "vehicle_at",params:=Z.aY16,body:=FuncBody.stmts Z.bY16,scope:=Z.cY16,globals:=3,closure:=[],defaults:=Value.none,kwdefaults:=Value.none,pyModule:=Value.str (Str.ofString "beatplans.turns") 393,code:=Value.ref 157 } }:Obj))::
  ((nat_lit 164:Addr),({ cls:=Value.type "code",data:=Data.fields #[Value.str (Str.ofString "vehicle_row") 407,Value.str (Str.ofString "vehicle_row") 408,Value.str (Str.ofString "/claim/cut.py") 409,Value.int 55 0,Value.int 6 0,Value.int 0 0,Value.int 0 0,Value.int 3 0,Value.ref 159,Value.bool Bool.true,Value.int 181 0,Value.ref 160,Value.none,Value.ref 161,Value.ref 162,Value.ref 163,Value.int 422 0,Value.int 55 0,Value.str (Str.ofString "/claim/cut.py") 423] }:Obj))::
  ((nat_lit 165:Addr),({ cls:=Value.type "function",data:=Data.func { name:=Str.ofString "vehicle_row",qualname:=Str.ofString "vehicle_row",params:=Z.aY17,body:=FuncBody.stmts Z.bY17,scope:=Z.cY17,globals:=3,closure:=[],defaults:=Value.none,kwdefaults:=Value.none,pyModule:=Value.str (Str.ofString "beatplans.turns") 393,code:=Value.ref 164 } }:Obj))::
  ((nat_lit 171:Addr),({ cls:=Value.type "code",data:=Data.fields #[Value.str (Str.ofString "_law_feed") 427,Value.str (Str.ofString "_law_feed") 428,Value.str (Str.ofString "/claim/cut.py") 429,Value.int 66 0,Value.int 1 0,Value.int 0 0,Value.int 0 0,Value.int 3 0,Value.ref 166,Value.bool Bool.true,Value.int 181 0,Value.ref 167,Value.none,Value.ref 168,Value.ref 169,Value.ref 170,Value.int 431 0,Value.int 66 0,Value.str (Str.ofString "/claim/cut.py") 432] }:Obj))::
  ((nat_lit 172:Addr),({ cls:=Value.type "function",data:=Data.func { name:=Str.ofString "_law_feed",qualname:=Str.ofString "_law_feed",params:=Z.aY19,body:=FuncBody.stmts Z.bY19,scope:=Z.cY19,globals:=3,closure:=[],defaults:=Value.none,kwdefaults:=Value.none,pyModule:=Value.str (Str.ofString "law_beatplans_k73_rings_that_are_refused") 425,code:=Value.ref 171 } }:Obj))::
  ((nat_lit 178:Addr),({ cls:=Value.type "code",data:=Data.fields #[Value.str (Str.ofString "_law_draw") 434,Value.str (Str.ofString "_law_draw") 435,Value.str (Str.ofString "/claim/cut.py") 436,Value.int 68 0,Value.int 2 0,Value.int 0 0,Value.int 0 0,Value.int 3 0,Value.ref 173,Value.bool Bool.true,Value.int 181 0,Value.ref 174,Value.none,Value.ref 175,Value.ref 176,Value.ref 177,Value.int 442 0,Value.int 68 0,Value.str (Str.ofString "/claim/cut.py") 443] }:Obj))::
  ((nat_lit 179:Addr),({ cls:=Value.type "function",data:=Data.func { name:=Str.ofString "_law_draw",qualname:=Str.ofString "_law_draw",params:=Z.aY20,body:=FuncBody.stmts Z.bY20,scope:=Z.cY20,globals:=3,closure:=[],defaults:=Value.none,kwdefaults:=Value.none,pyModule:=Value.str (Str.ofString "law_beatplans_k73_rings_that_are_refused") 425,code:=Value.ref 178 } }:Obj))::
  ((nat_lit 183:Addr),({ cls:=Value.type "code",data:=Data.fields #[Value.str (Str.ofString "_law_names") 445,Value.str (Str.ofString "_law_names") 446,Value.str (Str.ofString "/claim/cut.py") 447,Value.int 81 0,Value.int 2 0,Value.int 0 0,Value.int 0 0,Value.int 3 0,Value.ref 180,Value.bool Bool.true,Value.int 181 0,Value.ref 181,Value.none,Value.none,Value.none,Value.ref 182,Value.int 448 0,Value.int 81 0,Value.str (Str.ofString "/claim/cut.py") 449] }:Obj))::
  ((nat_lit 184:Addr),({ cls:=Value.type "function",data:=Data.func { name:=Str.ofString "_law_names",qualname:=Str.ofString "_law_names",params:=Z.aY21,body:=FuncBody.stmts Z.bY21,scope:=Z.cY21,globals:=3,closure:=[],defaults:=Value.none,kwdefaults:=Value.none,pyModule:=Value.str (Str.ofString "law_beatplans_k73_rings_that_are_refused") 425,code:=Value.ref 183 } }:Obj))::
  ((nat_lit 190:Addr),({ cls:=Value.type "code",data:=Data.fields #[Value.str (Str.ofString "_law_cycle") 451,Value.str (Str.ofString "_law_cycle") 452,Value.str (Str.ofString "/claim/cut.py") 453,Value.int 92 0,Value.int 1 0,Value.int 0 0,Value.int 0 0,Value.int 3 0,Value.ref 185,Value.bool Bool.true,Value.int 181 0,Value.ref 186,Value.none,Value.ref 187,Value.ref 188,Value.ref 189,Value.int 455 0,Value.int 92 0,Value.str (Str.ofString "/claim/cut.py") 456] }:Obj))::
  ((nat_lit 191:Addr),({ cls:=Value.type "function",data:=Data.func { name:=Str.ofString "_law_cycle",qualname:=Str.ofString "_law_cycle",params:=Z.aY22,body:=FuncBody.stmts Z.bY22,scope:=Z.cY22,globals:=3,closure:=[],defaults:=Value.none,kwdefaults:=Value.none,pyModule:=Value.str (Str.ofString "law_beatplans_k73_rings_that_are_refused") 425,code:=Value.ref 190 } }:Obj))::
  ((nat_lit 197:Addr),({ cls:=Value.type "code",data:=Data.fields #[Value.str (Str.ofString "_law_number") 458,Value.str (Str.ofString "_law_number") 459,Value.str (Str.ofString "/claim/cut.py") 460,Value.int 94 0,Value.int 2 0,Value.int 0 0,Value.int 0 0,Value.int 3 0,Value.ref 192,Value.bool Bool.true,Value.int 181 0,Value.ref 193,Value.none,Value.ref 194,Value.ref 195,Value.ref 196,Value.int 464 0,Value.int 94 0,Value.str (Str.ofString "/claim/cut.py") 465] }:Obj))::
  ((nat_lit 198:Addr),({ cls:=Value.type "function",data:=Data.func { name:=Str.ofString "_law_number",qualname:=Str.ofString "_law_number",params:=Z.aY23,body:=FuncBody.stmts Z.bY23,scope:=Z.cY23,globals:=3,closure:=[],defaults:=Value.none,kwdefaults:=Value.none,pyModule:=Value.str (Str.ofString "law_beatplans_k73_rings_that_are_refused") 425,code:=Value.ref 197 } }:Obj))::
  ((nat_lit 204:Addr),({ cls:=Value.type "code",data:=Data.fields #[Value.str (Str.ofString "_law_span") 467,Value.str (Str.ofString "_law_span") 468,Value.str (Str.ofString "/claim/cut.py") 469,Value.int 101 0,Value.int 4 0,Value.int 0 0,Value.int 0 0,Value.int 3 0,Value.ref 199,Value.bool Bool.true,Value.int 181 0,Value.ref 200,Value.none,Value.ref 201,Value.ref 202,Value.ref 203,Value.int 476 0,Value.int 101 0,Value.str (Str.ofString "/claim/cut.py") 477] }:Obj))::
  ((nat_lit 205:Addr),({ cls:=Value.type "function",data:=Data.func { name:=Str.ofString "_law_span",qualname:=Str.ofString "_law_span",params:=Z.aY24,body:=FuncBody.stmts Z.bY24,scope:=Z.cY24,globals:=3,closure:=[],defaults:=Value.none,kwdefaults:=Value.none,pyModule:=Value.str (Str.ofString "law_beatplans_k73_rings_that_are_refused") 425,code:=Value.ref 204 } }:Obj))::
  ((nat_lit 209:Addr),({ cls:=Value.type "code",data:=Data.fields #[Value.str (Str.ofString "_law_beats") 479,Value.str (Str.ofString "_law_beats") 480,Value.str (Str.ofString "/claim/cut.py") 481,Value.int 107 0,Value.int 3 0,Value.int 0 0,Value.int 0 0,Value.int 3 0,Value.ref 206,Value.bool Bool.true,Value.int 181 0,Value.ref 207,Value.none,Value.none,Value.none,Value.ref 208,Value.int 482 0,Value.int 107 0,Value.str (Str.ofString "/claim/cut.py") 483] }:Obj))::
  ((nat_lit 210:Addr),({ cls:=Value.type "function",data:=Data.func { name:=Str.ofString "_law_beats",qualname:=Str.ofString "_law_beats",params:=Z.aY25,body:=FuncBody.stmts Z.bY25,scope:=Z.cY25,globals:=3,closure:=[],defaults:=Value.none,kwdefaults:=Value.none,pyModule:=Value.str (Str.ofString "law_beatplans_k73_rings_that_are_refused") 425,code:=Value.ref 209 } }:Obj))::
  ((nat_lit 216:Addr),({ cls:=Value.type "code",data:=Data.fields #[Value.str (Str.ofString "_law_leg") 485,Value.str (Str.ofString "_law_leg") 486,Value.str (Str.ofString "/claim/cut.py") 487,Value.int 109 0,Value.int 4 0,Value.int 0 0,Value.int 0 0,Value.int 3 0,Value.ref 211,Value.bool Bool.true,Value.int 181 0,Value.ref 212,Value.none,Value.ref 213,Value.ref 214,Value.ref 215,Value.int 498 0,Value.int 109 0,Value.str (Str.ofString "/claim/cut.py") 499] }:Obj))::
  ((nat_lit 217:Addr),({ cls:=Value.type "function",data:=Data.func { name:=Str.ofString "_law_leg",qualname:=Str.ofString "_law_leg",params:=Z.aY26,body:=FuncBody.stmts Z.bY26,scope:=Z.cY26,globals:=3,closure:=[],defaults:=Value.none,kwdefaults:=Value.none,pyModule:=Value.str (Str.ofString "law_beatplans_k73_rings_that_are_refused") 425,code:=Value.ref 216 } }:Obj))::
  ((nat_lit 221:Addr),({ cls:=Value.type "code",data:=Data.fields #[Value.str (Str.ofString "_law_ring_world") 501,Value.str (Str.ofString "_law_ring_world") 502,Value.str (Str.ofString "/claim/cut.py") 503,Value.int 113 0,Value.int 1 0,Value.int 0 0,Value.int 0 0,Value.int 3 0,Value.ref 218,Value.bool Bool.true,Value.int 181 0,Value.ref 219,Value.none,Value.none,Value.none,Value.ref 220,Value.int 504 0,Value.int 113 0,Value.str (Str.ofString "/claim/cut.py") 505] }:Obj))::
  ((nat_lit 222:Addr),({ cls:=Value.type "function",data:=Data.func { name:=Str.ofString "_law_ring_world",qualname:=Str.ofString "_law_ring_world",params:=Z.aY27,body:=FuncBody.stmts Z.bY27,scope:=Z.cY27,globals:=3,closure:=[],defaults:=Value.none,kwdefaults:=Value.none,pyModule:=Value.str (Str.ofString "law_beatplans_k73_rings_that_are_refused") 425,code:=Value.ref 221 } }:Obj))::
  ((nat_lit 226:Addr),({ cls:=Value.type "code",data:=Data.fields #[Value.str (Str.ofString "_law_vehicles") 507,Value.str (Str.ofString "_law_vehicles") 508,Value.str (Str.ofString "/claim/cut.py") 509,Value.int 131 0,Value.int 4 0,Value.int 0 0,Value.int 0 0,Value.int 3 0,Value.ref 223,Value.bool Bool.true,Value.int 181 0,Value.ref 224,Value.none,Value.none,Value.none,Value.ref 225,Value.int 510 0,Value.int 131 0,Value.str (Str.ofString "/claim/cut.py") 511] }:Obj))::
  ((nat_lit 227:Addr),({ cls:=Value.type "function",data:=Data.func { name:=Str.ofString "_law_vehicles",qualname:=Str.ofString "_law_vehicles",params:=Z.aY28,body:=FuncBody.stmts Z.bY28,scope:=Z.cY28,globals:=3,closure:=[],defaults:=Value.none,kwdefaults:=Value.none,pyModule:=Value.str (Str.ofString "law_beatplans_k73_rings_that_are_refused") 425,code:=Value.ref 226 } }:Obj))::
  ((nat_lit 233:Addr),({ cls:=Value.type "code",data:=Data.fields #[Value.str (Str.ofString "_law_told") 513,Value.str (Str.ofString "_law_told") 514,Value.str (Str.ofString "/claim/cut.py") 515,Value.int 133 0,Value.int 3 0,Value.int 0 0,Value.int 0 0,Value.int 3 0,Value.ref 228,Value.bool Bool.true,Value.int 181 0,Value.ref 229,Value.none,Value.ref 230,Value.ref 231,Value.ref 232,Value.int 525 0,Value.int 133 0,Value.str (Str.ofString "/claim/cut.py") 526] }:Obj))::
  ((nat_lit 234:Addr),({ cls:=Value.type "function",data:=Data.func { name:=Str.ofString "_law_told",qualname:=Str.ofString "_law_told",params:=Z.aY29,body:=FuncBody.stmts Z.bY29,scope:=Z.cY29,globals:=3,closure:=[],defaults:=Value.none,kwdefaults:=Value.none,pyModule:=Value.str (Str.ofString "law_beatplans_k73_rings_that_are_refused") 425,code:=Value.ref 233 } }:Obj))::
  ((nat_lit 238:Addr),({ cls:=Value.type "code",data:=Data.fields #[Value.str (Str.ofString "_law_due") 528,Value.str (Str.ofString "_law_due") 529,Value.str (Str.ofString "/claim/cut.py") 530,Value.int 149 0,Value.int 3 0,Value.int 0 0,Value.int 0 0,Value.int 3 0,Value.ref 235,Value.bool Bool.true,Value.int 181 0,Value.ref 236,Value.none,Value.none,Value.none,Value.ref 237,Value.int 531 0,Value.int 149 0,Value.str (Str.ofString "/claim/cut.py") 532] }:Obj))::
  ((nat_lit 239:Addr),({ cls:=Value.type "function",data:=Data.func { name:=Str.ofString "_law_due",qualname:=Str.ofString "_law_due",params:=Z.aY30,body:=FuncBody.stmts Z.bY30,scope:=Z.cY30,globals:=3,closure:=[],defaults:=Value.none,kwdefaults:=Value.none,pyModule:=Value.str (Str.ofString "law_beatplans_k73_rings_that_are_refused") 425,code:=Value.ref 238 } }:Obj))::
  ((nat_lit 243:Addr),({ cls:=Value.type "code",data:=Data.fields #[Value.str (Str.ofString "law") 534,Value.str (Str.ofString "law") 535,Value.str (Str.ofString "/claim/cut.py") 536,Value.int 155 0,Value.int 1 0,Value.int 0 0,Value.int 0 0,Value.int 3 0,Value.ref 240,Value.bool Bool.true,Value.int 181 0,Value.ref 241,Value.none,Value.none,Value.none,Value.ref 242,Value.int 537 0,Value.int 155 0,Value.str (Str.ofString "/claim/cut.py") 538] }:Obj))::
  ((nat_lit 244:Addr),({ cls:=Value.type "function",data:=Data.func { name:=Str.ofString "law",qualname:=Str.ofString "law",params:=Z.aY31,body:=FuncBody.stmts Z.bY31,scope:=Z.cY31,globals:=3,closure:=[],defaults:=Value.none,kwdefaults:=Value.none,pyModule:=Value.str (Str.ofString "law_beatplans_k73_rings_that_are_refused") 425,code:=Value.ref 243 } }:Obj))::[]
open PySem in
noncomputable def Z.KA:List Addr:=(nat_lit 1)::(nat_lit 3)::(nat_lit 23)::(nat_lit 24)::(nat_lit 40)::(nat_lit 41)::(nat_lit 43)::(nat_lit 44)::(nat_lit 59)::(nat_lit 60)::(nat_lit 62)::(nat_lit 63)::(nat_lit 78)::(nat_lit 79)::(nat_lit 81)::(nat_lit 82)::(nat_lit 97)::(nat_lit 98)::(nat_lit 100)::(nat_lit 101)::(nat_lit 116)::(nat_lit 117)::(nat_lit 119)::(nat_lit 120)::(nat_lit 128)::(nat_lit 129)::(nat_lit 135)::(nat_lit 136)::(nat_lit 142)::(nat_lit 143)::(nat_lit 147)::(nat_lit 148)::(nat_lit 152)::(nat_lit 153)::(nat_lit 157)::(nat_lit 158)::(nat_lit 164)::(nat_lit 165)::(nat_lit 171)::(nat_lit 172)::(nat_lit 178)::(nat_lit 179)::(nat_lit 183)::(nat_lit 184)::(nat_lit 190)::(nat_lit 191)::(nat_lit 197)::(nat_lit 198)::(nat_lit 204)::(nat_lit 205)::(nat_lit 209)::(nat_lit 210)::(nat_lit 216)::(nat_lit 217)::(nat_lit 221)::(nat_lit 222)::(nat_lit 226)::(nat_lit 227)::(nat_lit 233)::(nat_lit 234)::(nat_lit 238)::(nat_lit 239)::(nat_lit 243)::(nat_lit 244)::[]

noncomputable def PySem.W.Fast.tw7891013550986899784:List PySem.Stmt:=Z.bY8
theorem PySem.W.Fast.te7891013550986899784:Z.bY8=PySem.W.Fast.tw7891013550986899784:=rfl
noncomputable def PySem.W.Fast.tw9080550850168601643:PySem.Scope:=Z.cY8
theorem PySem.W.Fast.te9080550850168601643:Z.cY8=PySem.W.Fast.tw9080550850168601643:=rfl
noncomputable def PySem.W.Fast.tw10738812580571829077:PySem.Arguments:=Z.aY8
theorem PySem.W.Fast.te10738812580571829077:Z.aY8=PySem.W.Fast.tw10738812580571829077:=rfl
noncomputable def PySem.W.Fast.tw6133976660354403028:List PySem.Stmt:=Z.bY10
theorem PySem.W.Fast.te6133976660354403028:Z.bY10=PySem.W.Fast.tw6133976660354403028:=rfl
noncomputable def PySem.W.Fast.tw6429298278291234491:PySem.Scope:=Z.cY10
theorem PySem.W.Fast.te6429298278291234491:Z.cY10=PySem.W.Fast.tw6429298278291234491:=rfl
noncomputable def PySem.W.Fast.tw6655669888290621693:PySem.Arguments:=Z.aY10
theorem PySem.W.Fast.te6655669888290621693:Z.aY10=PySem.W.Fast.tw6655669888290621693:=rfl
noncomputable def PySem.W.Fast.tw18164753679283922878:List PySem.Stmt:=Z.bY12
theorem PySem.W.Fast.te18164753679283922878:Z.bY12=PySem.W.Fast.tw18164753679283922878:=rfl
noncomputable def PySem.W.Fast.tw18339184722527120439:PySem.Scope:=Z.cY12
theorem PySem.W.Fast.te18339184722527120439:Z.cY12=PySem.W.Fast.tw18339184722527120439:=rfl
noncomputable def PySem.W.Fast.tw1446015608239144218:PySem.Arguments:=Z.aY12
theorem PySem.W.Fast.te1446015608239144218:Z.aY12=PySem.W.Fast.tw1446015608239144218:=rfl
noncomputable def PySem.W.Fast.tw17739840880004349974:List PySem.Stmt:=Z.bY13
theorem PySem.W.Fast.te17739840880004349974:Z.bY13=PySem.W.Fast.tw17739840880004349974:=rfl
noncomputable def PySem.W.Fast.tw4228003467210183882:PySem.Scope:=Z.cY13
theorem PySem.W.Fast.te4228003467210183882:Z.cY13=PySem.W.Fast.tw4228003467210183882:=rfl
noncomputable def PySem.W.Fast.tw5854879517739080986:PySem.Arguments:=Z.aY13
theorem PySem.W.Fast.te5854879517739080986:Z.aY13=PySem.W.Fast.tw5854879517739080986:=rfl
noncomputable def PySem.W.Fast.tw7833547661901591470:List PySem.Stmt:=Z.bY15
theorem PySem.W.Fast.te7833547661901591470:Z.bY15=PySem.W.Fast.tw7833547661901591470:=rfl
noncomputable def PySem.W.Fast.tw8101764399625425153:PySem.Scope:=Z.cY15
theorem PySem.W.Fast.te8101764399625425153:Z.cY15=PySem.W.Fast.tw8101764399625425153:=rfl
noncomputable def PySem.W.Fast.tw6856576199937072082:PySem.Arguments:=Z.aY15
theorem PySem.W.Fast.te6856576199937072082:Z.aY15=PySem.W.Fast.tw6856576199937072082:=rfl
noncomputable def PySem.W.Fast.tw11446803262430998167:List PySem.Stmt:=Z.bY16
theorem PySem.W.Fast.te11446803262430998167:Z.bY16=PySem.W.Fast.tw11446803262430998167:=rfl
noncomputable def PySem.W.Fast.tw9530570746764545675:PySem.Scope:=Z.cY16
theorem PySem.W.Fast.te9530570746764545675:Z.cY16=PySem.W.Fast.tw9530570746764545675:=rfl
noncomputable def PySem.W.Fast.tw13100361516219107942:PySem.Arguments:=Z.aY16
theorem PySem.W.Fast.te13100361516219107942:Z.aY16=PySem.W.Fast.tw13100361516219107942:=rfl
noncomputable def PySem.W.Fast.tw7606716932492997581:List PySem.Stmt:=Z.bY17
theorem PySem.W.Fast.te7606716932492997581:Z.bY17=PySem.W.Fast.tw7606716932492997581:=rfl
noncomputable def PySem.W.Fast.tw502235002237357205:PySem.Scope:=Z.cY17
theorem PySem.W.Fast.te502235002237357205:Z.cY17=PySem.W.Fast.tw502235002237357205:=rfl
noncomputable def PySem.W.Fast.tw4003557264338402016:PySem.Arguments:=Z.aY17
theorem PySem.W.Fast.te4003557264338402016:Z.aY17=PySem.W.Fast.tw4003557264338402016:=rfl
noncomputable def PySem.W.Fast.tw11194721788962368185:List PySem.Stmt:=Z.bY19
theorem PySem.W.Fast.te11194721788962368185:Z.bY19=PySem.W.Fast.tw11194721788962368185:=rfl
noncomputable def PySem.W.Fast.tw16727905199392536027:PySem.Scope:=Z.cY19
theorem PySem.W.Fast.te16727905199392536027:Z.cY19=PySem.W.Fast.tw16727905199392536027:=rfl
noncomputable def PySem.W.Fast.tw17378076412252255655:PySem.Arguments:=Z.aY19
theorem PySem.W.Fast.te17378076412252255655:Z.aY19=PySem.W.Fast.tw17378076412252255655:=rfl
noncomputable def PySem.W.Fast.tw5086509110111126984:List PySem.Stmt:=Z.bY20
theorem PySem.W.Fast.te5086509110111126984:Z.bY20=PySem.W.Fast.tw5086509110111126984:=rfl
noncomputable def PySem.W.Fast.tw8613126992762786810:PySem.Scope:=Z.cY20
theorem PySem.W.Fast.te8613126992762786810:Z.cY20=PySem.W.Fast.tw8613126992762786810:=rfl
noncomputable def PySem.W.Fast.tw7742198557474056662:PySem.Arguments:=Z.aY20
theorem PySem.W.Fast.te7742198557474056662:Z.aY20=PySem.W.Fast.tw7742198557474056662:=rfl
noncomputable def PySem.W.Fast.tw9887112076633143260:List PySem.Stmt:=Z.bY21
theorem PySem.W.Fast.te9887112076633143260:Z.bY21=PySem.W.Fast.tw9887112076633143260:=rfl
noncomputable def PySem.W.Fast.tw16652175780040137316:PySem.Scope:=Z.cY21
theorem PySem.W.Fast.te16652175780040137316:Z.cY21=PySem.W.Fast.tw16652175780040137316:=rfl
noncomputable def PySem.W.Fast.tw771454083561337269:PySem.Arguments:=Z.aY21
theorem PySem.W.Fast.te771454083561337269:Z.aY21=PySem.W.Fast.tw771454083561337269:=rfl
noncomputable def PySem.W.Fast.tw3184669192085748957:List PySem.Stmt:=Z.bY22
theorem PySem.W.Fast.te3184669192085748957:Z.bY22=PySem.W.Fast.tw3184669192085748957:=rfl
noncomputable def PySem.W.Fast.tw4757630134925260912:PySem.Scope:=Z.cY22
theorem PySem.W.Fast.te4757630134925260912:Z.cY22=PySem.W.Fast.tw4757630134925260912:=rfl
noncomputable def PySem.W.Fast.tw7465873080701871002:PySem.Arguments:=Z.aY22
theorem PySem.W.Fast.te7465873080701871002:Z.aY22=PySem.W.Fast.tw7465873080701871002:=rfl
noncomputable def PySem.W.Fast.tw12889549704734639409:List PySem.Stmt:=Z.bY23
theorem PySem.W.Fast.te12889549704734639409:Z.bY23=PySem.W.Fast.tw12889549704734639409:=rfl
noncomputable def PySem.W.Fast.tw10242745095938490599:PySem.Scope:=Z.cY23
theorem PySem.W.Fast.te10242745095938490599:Z.cY23=PySem.W.Fast.tw10242745095938490599:=rfl
noncomputable def PySem.W.Fast.tw9783613512567632517:PySem.Arguments:=Z.aY23
theorem PySem.W.Fast.te9783613512567632517:Z.aY23=PySem.W.Fast.tw9783613512567632517:=rfl
noncomputable def PySem.W.Fast.tw253982975610095124:List PySem.Stmt:=Z.bY24
theorem PySem.W.Fast.te253982975610095124:Z.bY24=PySem.W.Fast.tw253982975610095124:=rfl
noncomputable def PySem.W.Fast.tw16275538113687255351:PySem.Scope:=Z.cY24
theorem PySem.W.Fast.te16275538113687255351:Z.cY24=PySem.W.Fast.tw16275538113687255351:=rfl
noncomputable def PySem.W.Fast.tw8631897014996469195:PySem.Arguments:=Z.aY24
theorem PySem.W.Fast.te8631897014996469195:Z.aY24=PySem.W.Fast.tw8631897014996469195:=rfl
noncomputable def PySem.W.Fast.tw16567001819157486034:List PySem.Stmt:=Z.bY25
theorem PySem.W.Fast.te16567001819157486034:Z.bY25=PySem.W.Fast.tw16567001819157486034:=rfl
noncomputable def PySem.W.Fast.tw7982987530691195544:PySem.Scope:=Z.cY25
theorem PySem.W.Fast.te7982987530691195544:Z.cY25=PySem.W.Fast.tw7982987530691195544:=rfl
noncomputable def PySem.W.Fast.tw13013389684767732081:PySem.Arguments:=Z.aY25
theorem PySem.W.Fast.te13013389684767732081:Z.aY25=PySem.W.Fast.tw13013389684767732081:=rfl
noncomputable def PySem.W.Fast.tw4244449392144476589:List PySem.Stmt:=Z.bY26
theorem PySem.W.Fast.te4244449392144476589:Z.bY26=PySem.W.Fast.tw4244449392144476589:=rfl
noncomputable def PySem.W.Fast.tw14390090659230534699:PySem.Scope:=Z.cY26
theorem PySem.W.Fast.te14390090659230534699:Z.cY26=PySem.W.Fast.tw14390090659230534699:=rfl
noncomputable def PySem.W.Fast.tw12686048097710121713:PySem.Arguments:=Z.aY26
theorem PySem.W.Fast.te12686048097710121713:Z.aY26=PySem.W.Fast.tw12686048097710121713:=rfl
noncomputable def PySem.W.Fast.tw7251329012966193718:List PySem.Stmt:=Z.bY27
theorem PySem.W.Fast.te7251329012966193718:Z.bY27=PySem.W.Fast.tw7251329012966193718:=rfl
noncomputable def PySem.W.Fast.tw6989610931706019681:PySem.Scope:=Z.cY27
theorem PySem.W.Fast.te6989610931706019681:Z.cY27=PySem.W.Fast.tw6989610931706019681:=rfl
noncomputable def PySem.W.Fast.tw9645709375656358629:PySem.Arguments:=Z.aY27
theorem PySem.W.Fast.te9645709375656358629:Z.aY27=PySem.W.Fast.tw9645709375656358629:=rfl
noncomputable def PySem.W.Fast.tw5650864977710570941:List PySem.Stmt:=Z.bY28
theorem PySem.W.Fast.te5650864977710570941:Z.bY28=PySem.W.Fast.tw5650864977710570941:=rfl
noncomputable def PySem.W.Fast.tw3088784125654015763:PySem.Scope:=Z.cY28
theorem PySem.W.Fast.te3088784125654015763:Z.cY28=PySem.W.Fast.tw3088784125654015763:=rfl
noncomputable def PySem.W.Fast.tw11561044847845218375:PySem.Arguments:=Z.aY28
theorem PySem.W.Fast.te11561044847845218375:Z.aY28=PySem.W.Fast.tw11561044847845218375:=rfl
noncomputable def PySem.W.Fast.tw15678913842311952932:List PySem.Stmt:=Z.bY29
theorem PySem.W.Fast.te15678913842311952932:Z.bY29=PySem.W.Fast.tw15678913842311952932:=rfl
noncomputable def PySem.W.Fast.tw2973153766501714000:PySem.Scope:=Z.cY29
theorem PySem.W.Fast.te2973153766501714000:Z.cY29=PySem.W.Fast.tw2973153766501714000:=rfl
noncomputable def PySem.W.Fast.tw14768156425524150083:PySem.Arguments:=Z.aY29
theorem PySem.W.Fast.te14768156425524150083:Z.aY29=PySem.W.Fast.tw14768156425524150083:=rfl
noncomputable def PySem.W.Fast.tw16800058748430543514:List PySem.Stmt:=Z.bY30
theorem PySem.W.Fast.te16800058748430543514:Z.bY30=PySem.W.Fast.tw16800058748430543514:=rfl
noncomputable def PySem.W.Fast.tw11984650095909266282:PySem.Scope:=Z.cY30
theorem PySem.W.Fast.te11984650095909266282:Z.cY30=PySem.W.Fast.tw11984650095909266282:=rfl
noncomputable def PySem.W.Fast.tw5284715696713304373:PySem.Arguments:=Z.aY30
theorem PySem.W.Fast.te5284715696713304373:Z.aY30=PySem.W.Fast.tw5284715696713304373:=rfl
noncomputable def PySem.W.Fast.tw8496613351848183148:List PySem.Stmt:=Z.bY31
theorem PySem.W.Fast.te8496613351848183148:Z.bY31=PySem.W.Fast.tw8496613351848183148:=rfl
noncomputable def PySem.W.Fast.tw12920458419419353967:PySem.Scope:=Z.cY31
theorem PySem.W.Fast.te12920458419419353967:Z.cY31=PySem.W.Fast.tw12920458419419353967:=rfl
noncomputable def PySem.W.Fast.tw6461874459675472292:PySem.Arguments:=Z.aY31
theorem PySem.W.Fast.te6461874459675472292:Z.aY31=PySem.W.Fast.tw6461874459675472292:=rfl
noncomputable def PySem.W.Fast.tw5160444039759204164:PySem.Params->PySem.W.Frag:=Z.KK
theorem PySem.W.Fast.te5160444039759204164:Z.KK=PySem.W.Fast.tw5160444039759204164:=rfl
set_option maxRecDepth 100000 in
set_option maxHeartbeats 0 in
theorem Z.wellS:PySem.Challenge.rw_beatplans_k73_rings_that_are_refused.wellSaid=true:=by decide +kernel
open PySem PySem.W PyProof.Rows
set_option maxRecDepth 100000 in
set_option maxHeartbeats 0 in
theorem PySem.Challenge.cw_beatplans_k73_rings_that_are_refused_holds : PySem.Challenge.rw_beatplans_k73_rings_that_are_refused.Holds := by
 w_on; refine PySem.W.holds_law Z.wellS fun said=>?_
 rw [Z.rw_eq] at said ⊢
 o_head (kHook Z.KK Z.KA (fun _=>by kernel_rfl)); (case hw=>w_witness2)
 k_fill
 refine Z.walk (l:=Z.rwS) rfl rfl (fun w h Y=>PySem.W.kIn_of Y) ?K ?S ?F
 case K=>intro w; rfl
 case S=>intro w; exact ⟨_,rfl,rfl⟩
 case F=>
  intro w mg fa h KX G hmg
  refine' Z.all_mk KX G hmg ?a0 ?l0 ?c0 ?k0 ?a1 ?l1 ?c1 ?k1 ?a2 ?l2 ?c2 ?k2 ?a3 ?l3 ?c3 ?k3 ?a4 ?l4 ?c4 ?k4 ?a5 ?l5 ?c5 ?k5 ?a6 ?l6 ?c6 ?k6 ?a7 ?l7 ?c7 ?k7 ?a8 ?l8 ?c8 ?k8 ?a9 ?l9 ?c9 ?k9 ?a10 ?l10 ?c10 ?k10 ?a11 ?l11 ?c11 ?k11 ?a12 ?l12 ?c12 ?k12 ?a13 ?l13 ?c13 ?k13 ?a14 ?l14 ?c14 ?k14 ?a15 ?l15 ?c15 ?k15 ?a16 ?l16 ?c16 ?k16 ?a17 ?l17 ?c17 ?k17 ?a18 ?l18 ?c18 ?k18 ?a19 ?l19 ?c19 ?k19 ?z_len ?z_repr ?z_min ?z_max ?z_sum ?z_all ?z_any ?z_sorted ?z_int ?z_str ?z_isinstance ?z_range ?z_enumerate ?z_list ?z_tuple ?z_bool ?z_dict ?z_ValueError ?vDa ?vDl ?vDk ?vDn ?vNoPapera ?vNoPaperl ?vNoPaperk ?vNoPapern ?vNoPaperi ?vNoPaperf ?vNoPaperc ?vNoPaperkf ?vTooManya ?vTooManyl ?vTooManyk ?vTooManyn ?vTooManyi ?vTooManyf ?vTooManyc ?vTooManykf ?vNoRinga ?vNoRingl ?vNoRingk ?vNoRingn ?vNoRingi ?vNoRingf ?vNoRingc ?vNoRingkf ?vNoTexta ?vNoTextl ?vNoTextk ?vNoTextn ?vNoTexti ?vNoTextf ?vNoTextc ?vNoTextkf ?vNoRowa ?vNoRowl ?vNoRowk ?vNoRown ?vNoRowi ?vNoRowf ?vNoRowc ?vNoRowkf
  (case a0=>k_is)
  (case l0=>k_is)
  (case c0=>k_is)
  (case k0=>k_is)
  (case a1=>k_is)
  (case l1=>k_is)
  (case c1=>k_is)
  (case k1=>k_is)
  (case a2=>k_is)
  (case l2=>k_is)
  (case c2=>k_is)
  (case k2=>k_is)
  (case a3=>k_is)
  (case l3=>k_is)
  (case c3=>k_is)
  (case k3=>k_is)
  (case a4=>k_is)
  (case l4=>k_is)
  (case c4=>k_is)
  (case k4=>k_is)
  (case a5=>k_is)
  (case l5=>k_is)
  (case c5=>k_is)
  (case k5=>k_is)
  (case a6=>k_is)
  (case l6=>k_is)
  (case c6=>k_is)
  (case k6=>k_is)
  (case a7=>k_is)
  (case l7=>k_is)
  (case c7=>k_is)
  (case k7=>k_is)
  (case a8=>k_is)
  (case l8=>k_is)
  (case c8=>k_is)
  (case k8=>k_is)
  (case a9=>k_is)
  (case l9=>k_is)
  (case c9=>k_is)
  (case k9=>k_is)
  (case a10=>k_is)
  (case l10=>k_is)
  (case c10=>k_is)
  (case k10=>k_is)
  (case a11=>k_is)
  (case l11=>k_is)
  (case c11=>k_is)
  (case k11=>k_is)
  (case a12=>k_is)
  (case l12=>k_is)
  (case c12=>k_is)
  (case k12=>k_is)
  (case a13=>k_is)
  (case l13=>k_is)
  (case c13=>k_is)
  (case k13=>k_is)
  (case a14=>k_is)
  (case l14=>k_is)
  (case c14=>k_is)
  (case k14=>k_is)
  (case a15=>k_is)
  (case l15=>k_is)
  (case c15=>k_is)
  (case k15=>k_is)
  (case a16=>k_is)
  (case l16=>k_is)
  (case c16=>k_is)
  (case k16=>k_is)
  (case a17=>k_is)
  (case l17=>k_is)
  (case c17=>k_is)
  (case k17=>k_is)
  (case a18=>k_is)
  (case l18=>k_is)
  (case c18=>k_is)
  (case k18=>k_is)
  (case a19=>k_is)
  (case l19=>k_is)
  (case c19=>k_is)
  (case k19=>k_is)
  (case z_len=>k_is)
  (case z_repr=>k_is)
  (case z_min=>k_is)
  (case z_max=>k_is)
  (case z_sum=>k_is)
  (case z_all=>k_is)
  (case z_any=>k_is)
  (case z_sorted=>k_is)
  (case z_int=>k_is)
  (case z_str=>k_is)
  (case z_isinstance=>k_is)
  (case z_range=>k_is)
  (case z_enumerate=>k_is)
  (case z_list=>k_is)
  (case z_tuple=>k_is)
  (case z_bool=>k_is)
  (case z_dict=>k_is)
  (case z_ValueError=>k_is)
  (case vDa=>k_is)
  (case vDl=>k_is)
  (case vDk=>k_is)
  (case vDn=>rfl)
  (case vNoPapera=>k_is)
  (case vNoPaperl=>k_is)
  (case vNoPaperk=>k_is)
  (case vNoPapern=>rfl)
  (case vNoPaperi=>k_is)
  (case vNoPaperf=>k_is)
  (case vNoPaperc=>k_is)
  (case vNoPaperkf=>k_is)
  (case vTooManya=>k_is)
  (case vTooManyl=>k_is)
  (case vTooManyk=>k_is)
  (case vTooManyn=>rfl)
  (case vTooManyi=>k_is)
  (case vTooManyf=>k_is)
  (case vTooManyc=>k_is)
  (case vTooManykf=>k_is)
  (case vNoRinga=>k_is)
  (case vNoRingl=>k_is)
  (case vNoRingk=>k_is)
  (case vNoRingn=>rfl)
  (case vNoRingi=>k_is)
  (case vNoRingf=>k_is)
  (case vNoRingc=>k_is)
  (case vNoRingkf=>k_is)
  (case vNoTexta=>k_is)
  (case vNoTextl=>k_is)
  (case vNoTextk=>k_is)
  (case vNoTextn=>rfl)
  (case vNoTexti=>k_is)
  (case vNoTextf=>k_is)
  (case vNoTextc=>k_is)
  (case vNoTextkf=>k_is)
  (case vNoRowa=>k_is)
  (case vNoRowl=>k_is)
  (case vNoRowk=>k_is)
  (case vNoRown=>rfl)
  (case vNoRowi=>k_is)
  (case vNoRowf=>k_is)
  (case vNoRowc=>k_is)
  (case vNoRowkf=>k_is)
