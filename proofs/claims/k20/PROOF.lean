import PyProof.Rows.All
import Wide.All
import OpenK.AllK
import Wide.FinOn
import Lean
import PyProof.EqAt
import PyProof.EqKinds
import PyProof.TupleCall
import PySem.Challenge.RW_beatplans_k20_whole_all_times
set_option compiler.extract_closed false
set_option Elab.async false
set_option linter.all false
set_option maxRecDepth 100000
namespace L2
open PySem PySem.Spec PyProof.Rows

noncomputable abbrev Key:=Sum Int Str
noncomputable def jeC:Key->Value->Bool
 | .inl k,v=>Value.isInt k v
 | .inr x,v=>Value.isStrOf x v
noncomputable def keyH (w:World):Key->Int
 | .inl k=>hashInt k
 | .inr x=>hashStr w x
theorem jar:∀ {k:Key} {v:Value},jeC k v=true->(∃ i t,k=Sum.inl i/\v=Value.int i t)\/(∃ x t,k=Sum.inr x/\v=Value.str x t)
 | .inl i,v,h=>by
  obtain ⟨t,e⟩:=Value.isInt_shape (k:=i) (v:=v) h
  exact .inl ⟨i,t,rfl,e⟩
 | .inr x,v,h=>by
  obtain ⟨t,e⟩:=Value.isStrOf_shape (x:=x) (v:=v) h
  exact .inr ⟨x,t,rfl,e⟩
theorem jgC (i:Int)(t:Tok):jeC (.inl i) (.int i t)=true:=by simp [jeC,Value.isInt]
theorem jgB (x:Str)(t:Tok):jeC (.inr x) (.str x t)=true:=by simp [jeC,Value.isStrOf]
theorem jly (a b:Int):decide ((Sum.inl a:Key)=Sum.inl b)=(a == b):=by
 by_cases e:a=b
 ·subst e; simp
 ·have h:¬ (Sum.inl a:Key)=Sum.inl b:=fun q=>e (Sum.inl.inj q)
  rw [decide_eq_false h]
  exact (beq_eq_false_iff_ne.mpr e).symm
theorem jlv (a b:Str):decide ((Sum.inr a:Key)=Sum.inr b)=decide (a=b):=by
 by_cases e:a=b
 ·subst e; simp
 ·have h:¬ (Sum.inr a:Key)=Sum.inr b:=fun q=>e (Sum.inr.inj q)
  rw [decide_eq_false h,decide_eq_false e]
theorem jlx (a:Int)(b:Str):decide ((Sum.inl a:Key)=Sum.inr b)=false:=decide_eq_false (fun q=>nomatch q)
theorem jlw (a:Str)(b:Int):decide ((Sum.inr a:Key)=Sum.inl b)=false:=decide_eq_false (fun q=>nomatch q)

noncomputable def jaq (prog:Program)(w:World):PySem.KeyKind prog w Key where
 is:=jeC
 hash:=keyH w
 inj:=fun v a b ha hb=>by
  rcases jar ha with ⟨i,t,rfl,rfl⟩ | ⟨x,t,rfl,rfl⟩
  ·rcases jar hb with ⟨j,u,rfl,e⟩ | ⟨y,u,rfl,e⟩
   ·injection e with e1 _; rw [e1]
   ·exact nomatch e
  ·rcases jar hb with ⟨j,u,rfl,e⟩ | ⟨y,u,rfl,e⟩
   ·exact nomatch e
   ·injection e with e1 _; rw [e1]
 byValue:=fun k v h=>by
  rcases jar h with ⟨i,t,rfl,rfl⟩ | ⟨x,t,rfl,rfl⟩ <;> rfl
 pyHash:=fun hv h=>by
  rcases jar hv with ⟨i,t,rfl,rfl⟩ | ⟨x,t,rfl,rfl⟩
  ·exact wpAny_pyHash_int h
  ·exact wpAny_pyHash_str h
 eqBool:=fun hu hv h=>by
  rcases jar hu with ⟨i,t,rfl,rfl⟩ | ⟨x,t,rfl,rfl⟩
  ·rcases jar hv with ⟨j,u,rfl,rfl⟩ | ⟨y,u,rfl,rfl⟩
   ·rw [jly] at h; exact wpAny_eqBool_int h
   ·rw [jlx] at h; exact SeqAt.EqAt.int_str i t y u _ _ _ _ h
  ·rcases jar hv with ⟨j,u,rfl,rfl⟩ | ⟨y,u,rfl,rfl⟩
   ·rw [jlw] at h; exact SeqAt.EqAt.str_int x t j u _ _ _ _ h
   ·rw [jlv] at h; exact wpAny_eqBool_str h
 «strs»:=fun k x t v h=>by
  rcases jar h with ⟨i,u,rfl,e⟩ | ⟨y,u,rfl,e⟩
  ·exact nomatch e
  ·injection e with e1 _
   subst e1
   cases v <;> rfl

theorem jez (prog:Program)(w:World)(i:Int)(t:Tok):(jaq prog w).is (.inl i) (.int i t)=true:=jgC i t
theorem jey (prog:Program)(w:World)(x:Str)(t:Tok):(jaq prog w).is (.inr x) (.str x t)=true:=jgB x t

inductive V where
 | non | bl (b:Bool) | int (i:Int) | str (x:Str) | byt (b:Array UInt8) | flt (b:UInt64) | ref (a:Addr) | ty (n:String)
 deriving DecidableEq

noncomputable def RelV:V->Value->Prop
 | .non,u=>u=Value.none
 | .bl b,u=>u=Value.bool b
 | .int i,u=>∃ t,u=Value.int i t
 | .str x,u=>∃ t,u=Value.str x t
 | .byt b,u=>∃ t,u=Value.bytes b t
 | .flt b,u=>∃ t,u=Value.float b t
 | .ref a,u=>u=Value.ref a
 | .ty n,u=>u=Value.type n

noncomputable abbrev Vals:List V->List Value->Prop:=Paired RelV
theorem Vals.length {xs:List V}{us:List Value}(r:Vals xs us):xs.length=us.length:=Paired.length r
theorem Vals.get:∀ {xs:List V} {us:List Value} {i:Nat} {x:V},Vals xs us->xs[i]?=some x->∃ u,us[i]?=some u/\RelV x u
 | _,_,_,_,.nil,e=>by simp at e
 | _,_,0,_,.cons r _,e=>by simp at e; subst e; exact ⟨_,rfl,r⟩
 | _,_,i + 1,x,.cons _ t,e=>by
  obtain ⟨u,h1,h2⟩:=Vals.get (i:=i) (x:=x) t (by simpa using e)
  exact ⟨u,by simpa using h1,h2⟩
theorem Vals.set {x:V}{u:Value}(r:RelV x u):∀ {xs:List V} {us:List Value} (i:Nat),Vals xs us->Vals (xs.set i x) (us.set i u)
 | _,_,_,.nil=>.nil
 | _,_,0,.cons _ t=>.cons r t
 | _,_,i + 1,.cons q t=>.cons q (Vals.set r i t)
theorem Vals.append:∀ {xs ys:List V} {us ws:List Value},Vals xs us->Vals ys ws->Vals (xs++ys) (us++ws)
 | _,_,_,_,.nil,s=>s
 | _,_,_,_,.cons r t,s=>.cons r (Vals.append t s)
theorem Vals.take:∀ {xs:List V} {us:List Value} (n:Nat),Vals xs us->Vals (xs.take n) (us.take n)
 | _,_,0,_=>.nil
 | _,_,_ + 1,.nil=>.nil
 | _,_,n + 1,.cons r t=>.cons r (Vals.take n t)
theorem Vals.drop:∀ {xs:List V} {us:List Value} (n:Nat),Vals xs us->Vals (xs.drop n) (us.drop n)
 | _,_,0,r=>r
 | _,_,_ + 1,.nil=>.nil
 | _,_,n + 1,.cons _ t=>Vals.drop n t
noncomputable def RelO:Option V->Option Value->Prop
 | some v,some u=>RelV v u
 | none,none=>True
 | _,_=>False
noncomputable def KV {κ:Type}:List (κ×V)->List (κ×Value)->Prop:=Paired fun (p:κ×V) (q:κ×Value)=>p.1=q.1/\RelV p.2 q.2

noncomputable def kV:Key->V
 | .inl i=>.int i
 | .inr x=>.str x

inductive HO where
 | lst (xs:List V)
 | tup (xs:List V)
 | dK (kvs:List (Key×V)) | dT (kvs:List (List Key×V))
 | set (S:Int->Bool) (n:Nat)
 | ins (C dx:Addr) (fs:List (Str×V))
 | own (x:Addr)
 | xd (fs:List (Str×V))
 | met (f x:Addr)
 | rng (lo hi:Int)
 | frz (o:Obj) (u:HO)
 | tbl (ps:Array Value)
 | ext (φ:Heap->Prop)

noncomputable abbrev Hp:=Addr->Option HO
noncomputable def upd (H:Hp)(a:Addr)(o:HO):Hp:=fun b=>if b=a then some o else H b
theorem jat {H:Hp}{a:Addr}{o:HO}:upd H a o a=some o:=by unfold upd; rw [if_pos rfl]
theorem jai {H:Hp}{a b:Addr}{o:HO}(h:b≠a):upd H a o b=H b:=by unfold upd; rw [if_neg h]
theorem jnd {H:Hp}{a b:Addr}{o u:HO}(h:H a=some o)(h':H b=some u)(d:o≠u):a≠b:=by
 intro e; subst e; rw [h] at h'; exact d (Option.some.inj h')
theorem jag {H:Hp}{a b:Addr}{o:HO}(h:H a=some o)(h':H b=none):a≠b:=by
 intro e; subst e; rw [h] at h'; cases h'

noncomputable def TupD (h:Heap)(a:Addr)(items:Array Value):Prop:=∃ o,h.get? a=some o/\o.cls=.type "tuple" /\ ∃ n,o.data=.seq items n/\o.dict=none
theorem TupD.tup {h:Heap}{a:Addr}{items:Array Value}(x:TupD h a items):IsTup h a items:=let ⟨o,e,c,n,d,_⟩:=x; ⟨o,e,c,n,d⟩
theorem TupD.new (h:Heap)(items:Array Value):TupD (h.push { cls:=.type "tuple",data:=.seq items }) h.objs.size items:=⟨_,Heap.get?_push_size _ rfl,rfl,_,rfl,rfl⟩
section
variable (P:Program)(w:World)
noncomputable def jaD (H : Hp)(h : Heap)(a : Addr) : HO -> Prop
  | .lst xs => xs.length <= sizeLine /\ ∃ (its : List Value) (n : Nat), Vals xs its /\ h.get? a = some { cls := .type "list", data := .seq its.toArray n }
  | .tup xs => xs.length <= sizeLine /\ ∃ its : List Value, Vals xs its /\ TupD h a its.toArray
  | .dK kvs => kvs.length <= sizeLine /\ (a == sysModules) = false /\ ∃ vs, KV kvs vs /\ h.DictOf (jaq P w) a vs
  | .dT kvs => kvs.length <= sizeLine /\ (a == sysModules) = false /\ ∃ xs : List (List Key × Addr × Value),
      Paired (fun (p : List Key × V) (q : List Key × Addr × Value) => p.1 = q.1 /\ H q.2.1 = some (.tup (p.1.map kV)) /\ RelV p.2 q.2.2) kvs xs /\
      ∃ o es ep, h.get? a = some o /\ o.ExactDict /\ o.data = .dict es ep /\ es.toList = xs.map (entryOfKey (tupleKind (jaq P w))) /\ (xs.map (·.1)).Nodup
  | .set S n => h.SetOf (intKind P w) a S n
  | .ins C dx fs => H dx = some (.own a) /\ fs.length <= 1000 /\ dx ≠ a /\ h.get? a = some (PySem.W.instObj C dx) /\
      ∃ mA, h.Ns1 dx mA /\ (∀ f, RelO (fs.lookup f) (mA f)) /\ PySem.Within mA (fs.map (·.1))
  | .own _ => ∃ o, h.get? a = some o
  | .xd fs => ∃ mA, h.Ns1 a mA /\ ∀ f, RelO (fs.lookup f) (mA f)
  | .rng lo hi => ∃ t u v, h.get? a = some { cls := .type "range", data := .fields #[.int lo t, .int hi u, .int 1 v] }
  | .frz o u => h.get? a = some o /\ jaD H h a u
  | .tbl ps => h.get? a = some { cls := .none, data := .fields ps }
  | .met f x => h.get? a = some (PySem.W.methodObj (.ref f) (.ref x))
  | .ext φ => φ h /\ (∃ o, h.get? a = some o) /\ ∀ h1 h2 : Heap, φ h1 -> (∀ o, h1.get? a = some o -> h2.get? a = some o) -> φ h2
noncomputable def HOk (H:Hp)(h:Heap):Prop:=∀ a o,H a=some o->jaD P w H h a o
end

section
variable {P:Program}{w:World}{H H':Hp}{h h':Heap}{a:Addr}{o:HO}
theorem jaD.lt (x:jaD P w H h a o):a < h.objs.size:=by
 cases o with
 | lst xs=>obtain ⟨_,_,_,_,e⟩:=x; exact Heap.lt_size e
 | tup xs=>obtain ⟨_,_,_,p⟩:=x; exact p.tup.lt
 | dK kvs=>obtain ⟨_,_,_,_,o,_,_,e,_⟩:=x; exact Heap.lt_size e
 | dT kvs=>obtain ⟨_,_,_,_,o,_,_,e,_⟩:=x; exact Heap.lt_size e
 | set S n=>obtain ⟨o,_,_,_,e,_⟩:=x; exact Heap.lt_size e
 | ins C dx fs=>obtain ⟨_,_,_,e,_⟩:=x; exact Heap.lt_size e
 | own y=>obtain ⟨_,e⟩:=x; exact Heap.lt_size e
 | xd fs=>obtain ⟨_,⟨_,_,_,e,_⟩,_⟩:=x; exact Heap.lt_size e
 | rng lo hi=>obtain ⟨_,_,_,e⟩:=x; exact Heap.lt_size e
 | frz ob u=>obtain ⟨e,_⟩:=x; exact Heap.lt_size e
 | tbl ps=>exact Heap.lt_size (show h.get? a=some _ from x)
 | met f y=>exact Heap.lt_size (show h.get? a=some _ from x)
 | ext φ=>obtain ⟨_,⟨_,e⟩,_⟩:=x; exact Heap.lt_size e
theorem Paired.mapP {α β:Type}{F G:α->β->Prop}:∀ {l₁:List α} {l₂:List β},Paired F l₁ l₂->(∀ a b,F a b->G a b)->Paired G l₁ l₂
 | _,_,.nil,_=>.nil
 | _,_,.cons r t,f=>.cons (f _ _ r) (Paired.mapP t f)
theorem jaD.stay (x:jaD P w H h a o)(k:∀ b u,(b=a\/H b=some (.own a))->h.get? b=some u->h'.get? b=some u)
  (ho:∀ b,H b=some (.own a)->H' b=some (.own a)) (ht:∀ b xs,H b=some (.tup xs)->H' b=some (.tup xs)):jaD P w H' h' a o:=by
 induction o with
 | lst xs=>obtain ⟨z,its,n,r,e⟩:=x; exact ⟨z,its,n,r,k _ _ (.inl rfl) e⟩
 | tup xs=>obtain ⟨z,its,r,ob,e,c⟩:=x; exact ⟨z,its,r,ob,k _ _ (.inl rfl) e,c⟩
 | dK kvs=>obtain ⟨z,y,vs,r,ob,es,ep,e,c⟩:=x; exact ⟨z,y,vs,r,ob,es,ep,k _ _ (.inl rfl) e,c⟩
 | dT kvs=>
  obtain ⟨z,y,xs,r,ob,es,ep,e,c⟩:=x
  exact ⟨z,y,xs,Paired.mapP r fun p q z=>⟨z.1,ht _ _ z.2.1,z.2.2⟩,ob,es,ep,k _ _ (.inl rfl) e,c⟩
 | set S n=>obtain ⟨ob,es,ep,t,e,c⟩:=x; exact ⟨ob,es,ep,t,k _ _ (.inl rfl) e,c⟩
 | ins C dx fs=>
  obtain ⟨d,z,ne,e,mA,⟨od,es,ep,e2,c⟩,r⟩:=x
  exact ⟨ho _ d,z,ne,k _ _ (.inl rfl) e,mA,⟨od,es,ep,k _ _ (.inr d) e2,c⟩,r⟩
 | own y=>obtain ⟨ob,e⟩:=x; exact ⟨ob,k _ _ (.inl rfl) e⟩
 | xd fs=>obtain ⟨mA,⟨od,es,ep,e,c⟩,r⟩:=x; exact ⟨mA,⟨od,es,ep,k _ _ (.inl rfl) e,c⟩,r⟩
 | rng lo hi=>obtain ⟨t,u,v,e⟩:=x; exact ⟨t,u,v,k _ _ (.inl rfl) e⟩
 | frz ob u ih=>obtain ⟨e,q⟩:=x; exact ⟨k _ _ (.inl rfl) e,ih q⟩
 | tbl ps=>
  have e:h.get? a=some { cls:=.none,data:=.fields ps }:=x
  show h'.get? a=some { cls:=.none,data:=.fields ps }
  exact k a _ (.inl rfl) e
 | met f y=>
  have e:h.get? a=some (PySem.W.methodObj (.ref f) (.ref y)):=x
  show h'.get? a=some (PySem.W.methodObj (.ref f) (.ref y))
  exact k a _ (.inl rfl) e
 | ext φ=>obtain ⟨p,⟨o,e⟩,st⟩:=x; exact ⟨st _ _ p fun o q=>k _ _ (.inl rfl) q,⟨o,k _ _ (.inl rfl) e⟩,st⟩
theorem HOk.lt (x:HOk P w H h)(e:H a=some o):a < h.objs.size:=(x a o e).lt
theorem HOk.fresh (x:HOk P w H h)(e:h.objs.size<=a):H a=none:=by
 cases q:H a with
 | none=>rfl
 | some u=>exact absurd (Nat.lt_of_lt_of_le (x.lt q) e) (Nat.lt_irrefl _)
theorem HOk.kept (x:HOk P w H h)(k:∀ b u,h.get? b=some u->h'.get? b=some u):HOk P w H h':=fun a o e=>
 (x a o e).stay (fun b u _ q=>k b u q) (fun _ q=>q) fun _ _ q=>q
theorem HOk.laid (x:HOk P w H h)(k:∀ b u,h.get? b=some u->h'.get? b=some u)(hp:h.objs.size<=a)(new:jaD P w (upd H a o) h' a o):HOk P w (upd H a o) h':=fun b u e=>by
 have hn:=x.fresh hp
 by_cases hb:b=a
 ·subst hb; rw [jat] at e; cases e; exact new
 ·rw [jai hb] at e
  exact (x b u e).stay (fun c v _ q=>k c v q) (fun c q=>by rw [jai (jag q hn)]; exact q) fun c xs q=>by rw [jai (jag q hn)]; exact q
end

noncomputable def Rd (H:Hp)(a:Addr)(u:HO):Prop:=H a=some u\/∃ o,H a=some (.frz o u)
theorem Rd.of {H:Hp}{a:Addr}{u:HO}(h:H a=some u):Rd H a u:=.inl h
theorem Rd.ok {P:Program}{w:World}{H:Hp}{h:Heap}{a:Addr}{u:HO}(r:Rd H a u)(x:HOk P w H h):jaD P w H h a u:=by
 rcases r with r | ⟨o,r⟩
 ·exact x a u r
 ·obtain ⟨_,q⟩:=x a _ r
  exact q
noncomputable def Mut:Option HO->Prop
 | some (.lst _)=>True
 | some (.dK _)=>True
 | some (.dT _)=>True
 | some (.set _ _)=>True
 | some (.ins _ _ _)=>True
 | some (.ext _)=>True
 | _=>False
section
variable {P:Program}{w:World}{H:Hp}{h h':Heap}{x e:Addr}{o':HO}
theorem HOk.write (ok : HOk P w H h)(mu : Mut (H x))(he : e = x \/ H e = some (.own x))(k : ∀ b u, b ≠ e -> h.get? b = some u -> h'.get? b = some u)(heo : ∃ u, h'.get? e = some u)
    (new : jaD P w (upd H x o') h' x o') : HOk P w (upd H x o') h' := fun b u q => by
  have nown : ∀ c y, H c = some (.own y) -> c ≠ x := fun c y r z => by subst z; rw [r] at mu; exact mu
  have ntup : ∀ c xs, H c = some (.tup xs) -> c ≠ x := fun c xs r z => by subst z; rw [r] at mu; exact mu
  by_cases hb : b = x
  · subst hb; rw [jat] at q; cases q; exact new
  · rw [jai hb] at q
    by_cases hbe : b = e
    · have q' : H b = some (.own x) := by
        rcases he with z | z
        · exact absurd (hbe.trans z) hb
        · rw [hbe]; exact z
      rw [q] at q'; cases q'
      obtain ⟨v, hv⟩ := heo
      exact ⟨v, by rw [hbe]; exact hv⟩
    · refine (ok b u q).stay (fun c v hc r => k c v ?_ r) (fun c r => by rw [jai (nown c b r)]; exact r) fun c xs r => by rw [jai (ntup c xs r)]; exact r
      rcases hc with rfl | hc
      · exact hbe
      · rintro rfl
        rcases he with z | z
        · exact nown c b hc z
        · rw [hc] at z; cases z; exact hb rfl
end

structure Un (fs ex:List Addr)(H H':Hp)(h h':Heap):Prop where
 keep:∀ b o,h.get? b=some o->H b=none->b∉fs->b∉ex->h'.get? b=some o
 slot:∀ b o,h.get? b=some o->H b=none->b∈fs->b∉ex->∃ sl,h'.get? b=some { o with slots:=sl }
 free:∀ b o,h.get? b=some o->H b=none->b∉ex->H' b=none
 there:∀ b o,h.get? b=some o->b∉ex->∃ o',h'.get? b=some o'
 tups:∀ b xs,H b=some (.tup xs)->H' b=some (.tup xs)
 frzs:∀ b o u,H b=some (.frz o u)->H' b=some (.frz o u)
 tbls:∀ b ps,H b=some (.tbl ps)->∃ more,H' b=some (.tbl (ps++more))
section
variable {fs fs' ex ex':List Addr}{H H1 H2:Hp}{h h1 h2 h':Heap}{a x e:Addr}{o:HO}
theorem Un.any (u:Un fs ex H H1 h h1){b:Addr}{ob:Obj}(q:h.get? b=some ob)(n:H b=none)(hx:b∉ex):∃ sl,h1.get? b=some { ob with slots:=sl }:=by
 by_cases hb:b∈fs
 ·exact u.slot b ob q n hb hx
 ·exact ⟨ob.slots,u.keep b ob q n hb hx⟩
theorem Un.kept (k:∀ b u,h.get? b=some u->h'.get? b=some u):Un fs ex H H h h':=
 ⟨fun b ob q _ _ _=>k b ob q,fun b ob q _ _ _=>⟨ob.slots,k b ob q⟩,fun _ _ _ n _=>n,fun b ob q _=>⟨ob,k b ob q⟩,fun _ _ q=>q,fun _ _ _ q=>q,fun _ ps q=>⟨#[],by rw [q]; simp⟩⟩
theorem Un.refl:Un fs ex H H h h:=Un.kept fun _ _ q=>q
theorem Un.laid (k:∀ b u,h.get? b=some u->h'.get? b=some u)(hp:h.objs.size<=a)(hn:H a=none):Un fs ex H (upd H a o) h h' where
 keep:=fun b u q _ _ _=>k b u q
 slot:=fun b u q _ _ _=>⟨u.slots,k b u q⟩
 free:=fun b u q n _=>by rw [jai (Nat.ne_of_lt (Nat.lt_of_lt_of_le (Heap.lt_size q) hp))]; exact n
 there:=fun b u q _=>⟨u,k b u q⟩
 tups:=fun b xs q=>by rw [jai (jag q hn)]; exact q
 frzs:=fun b u xs q=>by rw [jai (jag q hn)]; exact q
 tbls:=fun b ps q=>⟨#[],by rw [jai (jag q hn),q]; simp⟩
theorem Un.write (mu:Mut (H x))(he:e=x\/H e=some (.own x))(k:∀ b u,b≠e->h.get? b=some u->h'.get? b=some u)(heo:∃ u,h'.get? e=some u):Un fs ex H (upd H x o) h h':=by
 have hx:∀ b,H b=none->b≠x:=fun b n z=>by subst z; rw [n] at mu; exact mu
 have hb:∀ b,H b=none->b≠e:=fun b n z=>by
  subst z
  rcases he with r | r
  ·exact hx b n r
  ·rw [n] at r; cases r
 have hm:∀ b u,H b=some u->¬ Mut (some u)->b≠x:=fun b u q nm z=>by subst z; rw [q] at mu; exact nm mu
 refine ⟨fun b u q n _ _=>k b u (hb b n) q,fun b u q n _ _=>⟨u.slots,k b u (hb b n) q⟩,fun b u q n _=>by rw [jai (hx b n)]; exact n,fun b u q _=>?_,
  fun b xs q=>by rw [jai (hm b _ q fun z=>z)]; exact q,fun b u xs q=>by rw [jai (hm b _ q fun z=>z)]; exact q,fun b ps q=>⟨#[],by rw [jai (hm b _ q fun z=>z),q]; simp⟩⟩
 by_cases hbe:b=e
 ·subst hbe; exact heo
 ·exact ⟨u,k b u hbe q⟩
end

noncomputable def trk (h:Heap)(H:Hp):List Addr:=(List.range h.objs.size).filter fun a=>(H a).isSome
noncomputable def hidT (h:Heap)(H:Hp):Heap:=PySem.W.hideAll h (trk h H)
theorem jgL (h:Heap)(H:Hp):(hidT h H).objs.size=h.objs.size:=PySem.W.hideAll_size _ _
theorem jhH {h:Heap}{H:Hp}{b:Addr}{o:Obj}(e:h.get? b=some o)(n:H b=none):(hidT h H).get? b=some o:=
 PySem.W.hideAll_get _ e fun hm=>by
  have q:(H b).isSome=true:=(List.mem_filter.mp hm).2
  rw [n] at q; simp at q
theorem jjq {h:Heap}{H:Hp}{b:Addr}{o:Obj}(e:(hidT h H).get? b=some o):h.get? b=some o/\H b=none:=by
 have e':h.get? b=some o:=PySem.W.of_hideAll (trk h H) e
 refine ⟨e',?_⟩
 cases q:H b with
 | none=>rfl
 | some x=>
  have hm:b∈trk h H:=List.mem_filter.mpr ⟨List.mem_range.mpr (Heap.lt_size e'),by simp [q]⟩
  have z:(hidT h H).get? b=none:=PySem.W.hideAll_none (trk h H) hm
  rw [z] at e; cases e

noncomputable def jj0 (g h:Heap)(L:Addr):List (Addr×Obj):=(List.range h.objs.size).filterMap fun a=>if a=L\/(g.get? a).isSome=true then none else (h.get? a).map fun o=>(a,o)
noncomputable def rest (g h:Heap)(L d:Addr):List (Addr×Obj):=(jj0 g h L).filter fun p=>decide (p.1≠d)

structure Mod (K:PySem.W.Frag)(mg:Str->Option Value)(base:Heap):Prop where
 kin:K.In base
 glob:base.Ns mainGlobals mg
 blt:∃ mb,base.Ns builtinsNs mb/\∀ x:Str,x ≠ "__name__" -> mb x=bootBuiltins x
 nolimit:base.NoLimit
 sys:∃ o,K.lookup sysModules=some o/\o.cls=.type "dict"

structure Cx where
 prog:Program
 w:World
 K:PySem.W.Frag
 mg:Str->Option Value
 base:Heap
 A:Around
 N:List Str
 s₀:Shared
 H₀:Hp
 env:Env
 outer:List Env
 stack:List Env
 ex:List Addr
 fn:Str->Bool
 calm:Bool
 pn:List (Addr×Obj)
 xe:Value->Shared->Prop
noncomputable def frs (l:List Env):List Addr:=l.filterMap (·.frame)
noncomputable abbrev Cx.fs (X:Cx):List Addr:=frs X.outer

noncomputable def Vis (sc:Scope)(x:Str):Prop:=sc.names.lookup x=some .local\/sc.names.lookup x=some .cell\/sc.names.lookup x=some .free
noncomputable def Loc (sc:Scope)(x:Str):Prop:=sc.names.lookup x=some .local\/sc.names.lookup x=some .cell
noncomputable def Look (env:Env)(h:Heap)(m:Str->Option Value)(x:Str)(u:Value):Prop:=
 (env.kindOf x=some .local/\m x=some u)\/((env.kindOf x=some .cell\/env.kindOf x=some .free)/\∃ c,env.cells.lookup x=some c/\h.IsCell c (some u))

structure Cx.Ok (X:Cx):Prop where
 mod:Mod X.K X.mg X.base
 kind:X.env.scope.kind=.function
 glob:X.env.globals=mainGlobals
 blt:X.env.builtins=builtinsNs
 above:X.s₀.heap.objs.size<=X.env.locals
 inj:∀ x y c,X.env.cells.lookup x=some c->X.env.cells.lookup y=some c->x=y
 has:∀ x,(X.env.kindOf x=some .cell\/X.env.kindOf x=some .free)->∃ c,X.env.cells.lookup x=some c
 cab:∀ x c,X.fn x=true->X.env.cells.lookup x=some c->X.s₀.heap.objs.size<=c
 hd:X.calm=true->X.A.handled=none
 frames:X.A.frames=some X.stack
 stk:X.stack=X.outer\/(X.stack=X.env::X.outer/\X.env.frame=some X.env.locals)
 exf:∀ b∈X.ex,b≠X.env.locals/\∀ x c,X.env.cells.lookup x=some c->c≠b
 bs:∀ b o,X.base.get? b=some o->X.s₀.heap.get? b=some o/\X.H₀ b=none
 bsz:X.base.objs.size<=X.s₀.heap.objs.size
 noex:∀ b o,X.base.get? b=some o->b∉X.ex
 exfs:∀ b∈X.ex,b∉X.fs
 funs:X.s₀.heap.FunFrames X.base X.outer
 frf:∀ b∈X.fs,X.H₀ b=none

structure Inv (X:Cx)(pins:List (Addr×Obj))(σ:List (Option V))(H:Hp)(s:Shared):Prop where
 ok:X.Ok
 os:s.os=X.s₀.os
 bare:AllBare s.gens
 base:Un X.fs X.ex X.H₀ H X.s₀.heap s.heap
 loc:∃ m,s.heap.Ns X.env.locals m/\∀ (i:Nat) (x:Str) (v:V),X.N[i]?=some x->σ[i]?=some (some v)->Vis X.env.scope x->∃ u,RelV v u/\Look X.env s.heap m x u
 cell:∀ x c,X.env.cells.lookup x=some c->∃ v,s.heap.IsCell c v
 free:H X.env.locals=none
 freeC:∀ x c,X.env.cells.lookup x=some c->H c=none
 pin:∀ p∈X.pn++pins,s.heap.get? p.1=some p.2/\H p.1=none/\p.1≠X.env.locals/\p.1∉X.fs/\∀ v,p.2.data≠.cell v
 hok:HOk X.prog X.w H s.heap
 len:σ.length=X.N.length

section
variable {X:Cx}{pins:List (Addr×Obj)}{σ:List (Option V)}{H H':Hp}{s:Shared}{h':Heap}

theorem Cx.Ok.nofr (ok:X.Ok){b:Addr}{o:Obj}(e:X.base.get? b=some o):b∉X.fs:=fun hb=>by
 have:=(ok.funs.mem hb).1
 rw [e] at this; cases this
theorem Inv.bs (I:Inv X pins σ H s):∀ b o,X.base.get? b=some o->s.heap.get? b=some o/\H b=none:=fun b o e=>
 ⟨I.base.keep b o (I.ok.bs b o e).1 (I.ok.bs b o e).2 (I.ok.nofr e) (I.ok.noex b o e),I.base.free b o (I.ok.bs b o e).1 (I.ok.bs b o e).2 (I.ok.noex b o e)⟩
theorem Inv.bk (I:Inv X pins σ H s):∀ b o,X.base.get? b=some o->s.heap.get? b=some o:=fun b o e=>(I.bs b o e).1
theorem Inv.mod (I:Inv X pins σ H s):Mod X.K X.mg X.base:=I.ok.mod
theorem Inv.kIn (I:Inv X pins σ H s):X.K.In s.heap:=I.ok.mod.kin.keeps I.bk
theorem Inv.lt (I:Inv X pins σ H s):X.env.locals < s.heap.objs.size:=let ⟨_,hn,_⟩:=I.loc; hn.lt
theorem Inv.sz (I:Inv X pins σ H s):X.s₀.heap.objs.size<=s.heap.objs.size:=Nat.le_trans I.ok.above (Nat.le_of_lt I.lt)
theorem Inv.nofs (I:Inv X pins σ H s){a:Addr}(h:s.heap.objs.size<=a):a∉X.fs:=fun hb=>by
 obtain ⟨_,o,ho,_⟩:=I.ok.funs.mem hb
 exact absurd (Nat.lt_of_lt_of_le (Heap.lt_size ho) (Nat.le_trans I.sz h)) (Nat.lt_irrefl _)
theorem Inv.cne (I:Inv X pins σ H s):∀ x c,X.env.cells.lookup x=some c->c≠X.env.locals:=fun x c e z=>by
 obtain ⟨v,o,ho,hd⟩:=I.cell x c e
 obtain ⟨m,⟨o',es,ep,ho',hd',_⟩,_⟩:=I.loc
 rw [z,ho'] at ho; cases ho; rw [hd'] at hd; cases hd
theorem Inv.funs (I:Inv X pins σ H s):s.heap.FunFrames X.base X.outer:=by
 have all:∀ (l:List Env),(∀ b∈frs l,b∈X.fs)->X.s₀.heap.FunFrames X.base l->s.heap.FunFrames X.base l:=by
  intro l
  induction l with
  | nil=>intro _ _; trivial
  | cons env r ih=>
   intro hs hl
   obtain ⟨hk,⟨L,o,hf,hn,ho,hd⟩,hr⟩:=hl
   have hL:L∈X.fs:=hs L (by unfold frs; rw [List.filterMap_cons,hf]; exact List.mem_cons_self)
   obtain ⟨sl,e⟩:=I.base.slot L o ho (I.ok.frf L hL) hL fun z=>I.ok.exfs L z hL
   exact ⟨hk,⟨L,_,hf,hn,e,hd⟩,ih (fun b hb=>hs b (by unfold frs; rw [List.filterMap_cons,hf]; exact List.mem_cons_of_mem _ hb)) hr⟩
 exact all X.outer (fun _ hb=>hb) I.ok.funs

theorem Inv.stack (I:Inv X pins σ H s):s.heap.FunFrames X.base X.stack:=by
 rcases I.ok.stk with e | ⟨e,hf⟩
 ·rw [e]; exact I.funs
 ·rw [e]
  obtain ⟨m,hn,_⟩:=I.loc
  refine .cons (by rw [I.ok.kind]; decide) hf hn ?_ I.funs
  exact Heap.get?_none_of_le (Nat.le_trans I.ok.bsz I.ok.above)
theorem Inv.stkSub (I:Inv X pins σ H s):∀ b∈frs X.stack,b∈X.env.locals::X.fs:=fun b hb=>by
 rcases I.ok.stk with e | ⟨e,hf⟩
 ·rw [e] at hb; exact List.mem_cons_of_mem _ hb
 ·rw [e] at hb
  unfold frs at hb
  rw [List.filterMap_cons,hf] at hb
  exact hb
theorem Inv.stkFree (I:Inv X pins σ H s):∀ b∈frs X.stack,H b=none:=fun b hb=>by
 rcases List.mem_cons.mp (I.stkSub b hb) with e | hb
 ·rw [e]; exact I.free
 ·obtain ⟨_,o,ho,_⟩:=I.ok.funs.mem hb
  exact I.base.free b o ho (I.ok.frf b hb) fun z=>I.ok.exfs b z hb

theorem Inv.step {g':Array GenState}{t':Nat}{d':Drawn}{ch:List Addr}(I:Inv X pins σ H s)
  (hch:∀ b∈ch,(b∈X.ex\/X.s₀.heap.objs.size<=b)/\b≠X.env.locals/\(∀ x c,X.env.cells.lookup x=some c->c≠b)/\∀ p∈X.pn++pins,p.1≠b)
  (keep:∀ b o,b≠X.env.locals->b∉X.fs->b∉ch->s.heap.get? b=some o->H b=none->h'.get? b=some o)
  (slot:∀ b o,b≠X.env.locals->b∈X.fs->b∉ch->s.heap.get? b=some o->H b=none->∃ sl,h'.get? b=some { o with slots:=sl }) (free:∀ b o,b∉ch->s.heap.get? b=some o->H b=none->H' b=none)
  (there:∀ b o,b∉ch->s.heap.get? b=some o->∃ o',h'.get? b=some o')
  (tups:∀ b xs,H b=some (.tup xs)->H' b=some (.tup xs)) (frzs:∀ b o u,H b=some (.frz o u)->H' b=some (.frz o u)) (tbls:∀ b ps,H b=some (.tbl ps)->∃ more,H' b=some (.tbl (ps++more)))
  (ns:∀ m,s.heap.Ns X.env.locals m->h'.Ns X.env.locals m) (hok:HOk X.prog X.w H' h') (hg:AllBare g') :
  Inv X pins σ H' { s with heap:=h',gens:=g',drawn:=d',toks:=t' }:=by
 have neL:∀ b o,X.s₀.heap.get? b=some o->b≠X.env.locals:=fun b o e=>Nat.ne_of_lt (Nat.lt_of_lt_of_le (Heap.lt_size e) I.ok.above)
 have neC:∀ b o,X.s₀.heap.get? b=some o->b∉X.ex->b∉ch:=fun b o e hx hb=>by
  rcases (hch b hb).1 with z | z
  ·exact hx z
  ·exact absurd (Nat.lt_of_lt_of_le (Heap.lt_size e) z) (Nat.lt_irrefl _)
 have cellK:∀ x c,X.env.cells.lookup x=some c->∀ v,s.heap.IsCell c v->h'.IsCell c v:=fun x c e v ⟨o,ho,hd⟩=>by
  have nch:c∉ch:=fun z=>(hch c z).2.2.1 x c e rfl
  by_cases hc:c∈X.fs
  ·obtain ⟨sl,q⟩:=slot c o (I.cne x c e) hc nch ho (I.freeC x c e)
   exact ⟨_,q,hd⟩
  ·exact ⟨o,keep c o (I.cne x c e) hc nch ho (I.freeC x c e),hd⟩
 refine ⟨I.ok,I.os,hg,⟨fun b o e n hb hx=>?_,fun b o e n hb hx=>?_,fun b o e n hx=>?_,fun b o e hx=>?_,fun b xs e=>tups b xs (I.base.tups b xs e),fun b o xs e=>frzs b o xs (I.base.frzs b o xs e),fun b ps e=>?_⟩,?_,fun x c e=>?_,?_,fun x c e=>?_,fun p hp=>?_,hok,I.len⟩
 ·exact keep b o (neL b o e) hb (neC b o e hx) (I.base.keep b o e n hb hx) (I.base.free b o e n hx)
 ·obtain ⟨sl,e1⟩:=I.base.slot b o e n hb hx
  obtain ⟨sl',e2⟩:=slot b _ (neL b o e) hb (neC b o e hx) e1 (I.base.free b o e n hx)
  exact ⟨sl',e2⟩
 ·obtain ⟨o',e1⟩:=I.base.there b o e hx
  exact free b o' (neC b o e hx) e1 (I.base.free b o e n hx)
 ·obtain ⟨o',e1⟩:=I.base.there b o e hx
  exact there b o' (neC b o e hx) e1
 ·obtain ⟨m1,e1⟩:=I.base.tbls b ps e
  obtain ⟨m2,e2⟩:=tbls b _ e1
  exact ⟨m1++m2,by rw [e2,Array.append_assoc]⟩
 ·obtain ⟨m,hn,hl⟩:=I.loc
  refine ⟨m,ns m hn,fun i x v e1 e2 e3=>?_⟩
  obtain ⟨u,r,l⟩:=hl i x v e1 e2 e3
  refine ⟨u,r,?_⟩
  rcases l with l | ⟨k,c,e,z⟩
  ·exact .inl l
  ·exact .inr ⟨k,c,e,cellK x c e _ z⟩
 ·obtain ⟨v,z⟩:=I.cell x c e
  exact ⟨v,cellK x c e v z⟩
 ·obtain ⟨m,⟨o,_,_,ho,_⟩,_⟩:=I.loc
  exact free _ o (fun z=>(hch _ z).2.1 rfl) ho I.free
 ·obtain ⟨v,o,ho,hd⟩:=I.cell x c e
  exact free c o (fun z=>(hch c z).2.2.1 x c e rfl) ho (I.freeC x c e)
 ·obtain ⟨e,n,ne,nf,d⟩:=I.pin p hp
  have nch:p.1∉ch:=fun z=>(hch p.1 z).2.2.2 p hp rfl
  exact ⟨keep p.1 p.2 ne nf nch e n,free p.1 p.2 nch e n,ne,nf,d⟩
theorem Inv.un {t':Nat}(I:Inv X pins σ H s)(u:Un X.fs [] H H' s.heap h')(hok:HOk X.prog X.w H' h'):Inv X pins σ H' { s with heap:=h',toks:=t' }:=by
 obtain ⟨m,⟨o,es,ep,ho,r⟩,_⟩:=id I.loc
 obtain ⟨sl,hL⟩:=u.any ho I.free (by simp)
 exact I.step (g':=s.gens) (d':=s.drawn) (ch:=[]) (fun _ z=>nomatch z) (fun b o _ hb _ e n=>u.keep b o e n hb (by simp)) (fun b o _ hb _ e n=>u.slot b o e n hb (by simp)) (fun b o _ e n=>u.free b o e n (by simp)) (fun b o _ e=>u.there b o e (by simp)) u.tups u.frzs u.tbls (fun m' hm=>by
  obtain ⟨o',es',ep',ho',r'⟩:=hm
  rw [ho] at ho'; cases ho'
  exact ⟨_,es',ep',hL,r'⟩) hok I.bare
theorem Inv.call {g':Array GenState}{t':Nat}{d':Drawn}{ch:List Addr}(I:Inv X pins σ H s)(u:Un (frs X.stack) ch H H' s.heap h')(hok:HOk X.prog X.w H' h')(hg:AllBare g')
  (hch:∀ b∈ch,(b∈X.ex\/X.s₀.heap.objs.size<=b)/\b≠X.env.locals/\(∀ x c,X.env.cells.lookup x=some c->c≠b)/\∀ p∈X.pn++pins,p.1≠b) :
  Inv X pins σ H' { s with heap:=h',gens:=g',drawn:=d',toks:=t' }:=by
 obtain ⟨m,⟨o,es,ep,ho,r⟩,_⟩:=id I.loc
 obtain ⟨sl,hL⟩:=u.any ho I.free fun z=>(hch _ z).2.1 rfl
 exact I.step (ch:=ch) hch (fun b o hL hb hc e n=>u.keep b o e n (fun z=>(List.mem_cons.mp (I.stkSub b z)).elim hL hb) hc) (fun b o _ _ hc e n=>u.any e n hc) (fun b o hc e n=>u.free b o e n hc) (fun b o hc e=>u.there b o e hc) u.tups u.frzs u.tbls (fun m' hm=>by
  obtain ⟨o',es',ep',ho',r'⟩:=hm
  rw [ho] at ho'; cases ho'
  exact ⟨_,es',ep',hL,r'⟩) hok hg
theorem Inv.turned {t':Nat}{it:Addr}(I:Inv X pins σ H s)(k:∀ b o,b≠it->s.heap.get? b=some o->h'.get? b=some o)(hn:H it=none)(hL:it≠X.env.locals)
  (h1:it∈X.ex\/X.s₀.heap.objs.size<=it) (h2:∀ x c,X.env.cells.lookup x=some c->c≠it) (h3:∀ p∈X.pn++pins,p.1≠it):Inv X pins σ H { s with heap:=h',toks:=t' }:=by
 have nit:∀ b u,H b=some u->b≠it:=fun b u e z=>by rw [z,hn] at e; cases e
 refine I.step (g':=s.gens) (d':=s.drawn) (ch:=[it]) (fun b hb=>?_) (fun b o _ _ hc e _=>k b o (fun z=>hc (by simp [z])) e) (fun b o _ _ hc e _=>⟨o.slots,k b o (fun z=>hc (by simp [z])) e⟩) (fun _ _ _ _ n=>n)
  (fun b o hc e=>⟨o,k b o (fun z=>hc (by simp [z])) e⟩) (fun _ _ e=>e) (fun _ _ _ e=>e) (fun b ps e=>⟨#[],by rw [e]; simp⟩) (fun m hm=>?_) (fun b u e=>?_) I.bare
 ·have e:b=it:=by simpa using hb
  subst e
  exact ⟨h1,hL,h2,h3⟩
 ·obtain ⟨o,es,ep,ho,r⟩:=hm
  exact ⟨o,es,ep,k _ o (Ne.symm hL) ho,r⟩
 ·refine (I.hok b u e).stay (fun c v hc q=>k c v ?_ q) (fun _ q=>q) fun _ _ q=>q
  rcases hc with z | z
  ·rw [z]; exact nit b u e
  ·exact nit c _ z
theorem Inv.tok (I:Inv X pins σ H s)(t:Nat):Inv X pins σ H { s with toks:=t }:=I.un (h':=s.heap) (t':=t) Un.refl I.hok
theorem Inv.kept {t':Nat}(I:Inv X pins σ H s)(k:∀ b u,s.heap.get? b=some u->h'.get? b=some u):Inv X pins σ H { s with heap:=h',toks:=t' }:=I.un (Un.kept k) (I.hok.kept k)
theorem Inv.laid {a:Addr}{o:HO}{t':Nat}(I:Inv X pins σ H s)(k:∀ b u,s.heap.get? b=some u->h'.get? b=some u)(hp:s.heap.objs.size<=a)(new:jaD X.prog X.w (upd H a o) h' a o) :
  Inv X pins σ (upd H a o) { s with heap:=h',toks:=t' }:=I.un (Un.laid k hp (I.hok.fresh hp)) (I.hok.laid k hp new)
theorem Inv.write {x e:Addr}{o:HO}{t':Nat}(I:Inv X pins σ H s)(mu:Mut (H x))(he:e=x\/H e=some (.own x))(k:∀ b u,b≠e->s.heap.get? b=some u->h'.get? b=some u)(heo:∃ u,h'.get? e=some u)
  (new:jaD X.prog X.w (upd H x o) h' x o):Inv X pins σ (upd H x o) { s with heap:=h',toks:=t' }:=I.un (Un.write mu he k heo) (I.hok.write mu he k heo new)
theorem Inv.pins_of {pins':List (Addr×Obj)}(I:Inv X pins σ H s)(h:∀ p∈pins',s.heap.get? p.1=some p.2/\H p.1=none/\p.1≠X.env.locals/\p.1∉X.fs/\∀ v,p.2.data≠.cell v):Inv X pins' σ H s:=
 ⟨I.ok,I.os,I.bare,I.base,I.loc,I.cell,I.free,I.freeC,fun p hp=>(List.mem_append.mp hp).elim (fun z=>I.pin p (List.mem_append_left _ z)) (h p),I.hok,I.len⟩

theorem je5 {N:List Str}(hN:N.Nodup){i j:Nat}{x:Str}(a:N[i]?=some x)(b:N[j]?=some x):i=j:=by
 obtain ⟨h1,e1⟩:=List.getElem?_eq_some_iff.mp a
 obtain ⟨h2,e2⟩:=List.getElem?_eq_some_iff.mp b
 exact (List.getElem_inj hN).mp (e1.trans e2.symm)

theorem jdK {M : Model}{A : Around}{E : Value -> Shared -> Prop}{i : Nat}{x : Str}{v : V}{u : Value}{Q : Unit -> Shared -> Prop}(I : Inv X pins σ H s)(hN : X.N.Nodup)(hi : X.N[i]? = some x)(hx : Loc X.env.scope x)(r : RelV v u)
    (h : ∀ s', Inv X pins (σ.set i (some v)) H s' -> (∃ a, Heap.SameBut a s.heap s'.heap /\ (a = X.env.locals \/ X.env.cells.lookup x = some a)) -> Q () s') (hf : X.fn x = true \/ X.env.scope.names.lookup x = some .local := by first | exact .inl rfl | exact .inr rfl | assumption) : wpAny M A (storeName X.env x u) Q E s := by
  obtain ⟨m, hn, hl⟩ := id I.loc
  have hcls : (X.env.scope.kind == .class || (X.env.scope.kind == .module && X.env.locals != X.env.globals)) = false := by rw [I.ok.kind]; rfl
  have hiσ : i < σ.length := by rw [I.len]; exact (List.getElem?_eq_some_iff.mp hi).1
  have cne := I.cne
  have tracked : ∀ {a : Addr} {h' : Heap}, (∃ o, s.heap.get? a = some o /\ H a = none) -> Heap.SameBut a s.heap h' -> HOk X.prog X.w H h' := fun {a h'} ha hs b ob e => by
    obtain ⟨_, _, hfree⟩ := ha
    refine (I.hok b ob e).stay (fun c w' hc q => (hs.2 c ?_).trans q) (fun _ q => q) fun _ _ q => q
    rintro rfl
    rcases hc with rfl | hc
    · rw [hfree] at e; cases e
    · rw [hfree] at hc; cases hc
  rcases hx with hk | hk
  · refine wpAny_storeName_local hk hn (fun h' hn' hs => ?_) hcls
    obtain ⟨oL, _, _, hoL, _⟩ := id hn
    refine h _ ⟨I.ok, I.os, I.bare, ⟨fun b o e n hb hx => ?_, fun b o e n hb hx => ?_, I.base.free, fun b o e hx => ?_, I.base.tups, I.base.frzs, I.base.tbls⟩, ⟨_, hn', fun j y v' e1 e2 e3 => ?_⟩, fun y c e => ?_, I.free, I.freeC, fun p hp => ?_, tracked ⟨oL, hoL, I.free⟩ hs, by simpa using I.len⟩ ⟨_, hs, .inl rfl⟩
    · exact (hs.2 b (Nat.ne_of_lt (Nat.lt_of_lt_of_le (Heap.lt_size e) I.ok.above))).trans (I.base.keep b o e n hb hx)
    · obtain ⟨sl, e1⟩ := I.base.slot b o e n hb hx
      exact ⟨sl, (hs.2 b (Nat.ne_of_lt (Nat.lt_of_lt_of_le (Heap.lt_size e) I.ok.above))).trans e1⟩
    · obtain ⟨o', e1⟩ := I.base.there b o e hx
      exact ⟨o', (hs.2 b (Nat.ne_of_lt (Nat.lt_of_lt_of_le (Heap.lt_size e) I.ok.above))).trans e1⟩
    · by_cases hj : j = i
      · subst hj
        rw [hi] at e1; cases e1
        rw [List.getElem?_set_self hiσ] at e2
        cases e2
        exact ⟨u, r, .inl ⟨hk, by simp⟩⟩
      · rw [List.getElem?_set_ne (Ne.symm hj)] at e2
        obtain ⟨u', r', q⟩ := hl j y v' e1 e2 e3
        refine ⟨u', r', ?_⟩
        rcases q with ⟨k, e⟩ | ⟨k, c, e, z⟩
        · refine .inl ⟨k, ?_⟩
          have : y ≠ x := fun e => hj (je5 hN e1 (e ▸ hi))
          simp [this, e]
        · exact .inr ⟨k, c, e, z.sameBut hs (cne y c e)⟩
    · obtain ⟨w', z⟩ := I.cell y c e
      exact ⟨w', z.sameBut hs (cne y c e)⟩
    · obtain ⟨e, n, ne, nf, d⟩ := I.pin p hp
      exact ⟨(hs.2 p.1 ne).trans e, n, ne, nf, d⟩
  · have hfn : X.fn x = true := by
      rcases hf with z | z
      · exact z
      · rw [z] at hk; cases hk
    obtain ⟨c, hc⟩ := I.ok.has x (.inl hk)
    obtain ⟨w', z⟩ := I.cell x c hc
    refine wpAny_storeName_cell I.ok.kind hk hc z (fun h' hc' hs => ?_)
    obtain ⟨oc, hoc, hocd⟩ := id z
    refine h { s with heap := h' } ⟨I.ok, I.os, I.bare, ⟨fun b o e n hb hx => ?_, fun b o e n hb hx => ?_, I.base.free, fun b o e hx => ?_, I.base.tups, I.base.frzs, I.base.tbls⟩, ⟨m, hn.sameBut hs (Ne.symm (cne x c hc)), fun j y v' e1 e2 e3 => ?_⟩, fun y c' e => ?_, I.free, I.freeC, fun p hp => ?_, tracked ⟨oc, hoc, I.freeC x c hc⟩ hs, by simpa using I.len⟩ ⟨c, hs, .inr hc⟩
    · exact (hs.2 b (Nat.ne_of_lt (Nat.lt_of_lt_of_le (Heap.lt_size e) (I.ok.cab x c hfn hc)))).trans (I.base.keep b o e n hb hx)
    · obtain ⟨sl, e1⟩ := I.base.slot b o e n hb hx
      exact ⟨sl, (hs.2 b (Nat.ne_of_lt (Nat.lt_of_lt_of_le (Heap.lt_size e) (I.ok.cab x c hfn hc)))).trans e1⟩
    · obtain ⟨o', e1⟩ := I.base.there b o e hx
      exact ⟨o', (hs.2 b (Nat.ne_of_lt (Nat.lt_of_lt_of_le (Heap.lt_size e) (I.ok.cab x c hfn hc)))).trans e1⟩
    · by_cases hj : j = i
      · subst hj
        rw [hi] at e1; cases e1
        rw [List.getElem?_set_self hiσ] at e2
        cases e2
        exact ⟨u, r, .inr ⟨.inl hk, c, hc, hc'⟩⟩
      · rw [List.getElem?_set_ne (Ne.symm hj)] at e2
        obtain ⟨u', r', q⟩ := hl j y v' e1 e2 e3
        refine ⟨u', r', ?_⟩
        rcases q with q | ⟨k, c', e, z'⟩
        · exact .inl q
        · refine .inr ⟨k, c', e, z'.sameBut hs ?_⟩
          rintro rfl
          exact hj (je5 hN e1 (I.ok.inj _ _ _ e hc ▸ hi))
    · by_cases hcc : c' = c
      · subst hcc; exact ⟨_, hc'⟩
      · obtain ⟨w2, z2⟩ := I.cell y c' e
        exact ⟨w2, z2.sameBut hs hcc⟩
    · obtain ⟨e, n, ne, nf, d⟩ := I.pin p hp
      refine ⟨(hs.2 p.1 ?_).trans e, n, ne, nf, d⟩
      intro q
      rw [q, hoc] at e
      have q' : oc = p.2 := Option.some.inj e
      exact d w' (by rw [<- q']; exact hocd)
theorem jcj {M:Model}{A:Around}{E:Value->Shared->Prop}{i:Nat}{x:Str}{v:V}{u:Value}{Q:Unit->Shared->Prop}(I:Inv X pins σ H s)(hN:X.N.Nodup)(hi:X.N[i]?=some x)(hx:Loc X.env.scope x)(r:RelV v u)
  (h:∀ s',Inv X pins (σ.set i (some v)) H s'->Q () s') (hf:X.fn x=true\/X.env.scope.names.lookup x=some .local:=by first | exact .inl rfl | exact .inr rfl | assumption):wpAny M A (storeName X.env x u) Q E s:=
 jdK I hN hi hx r (fun s' I' _=>h s' I') hf
theorem Inv.call' {s':Shared}{ch:List Addr}(I:Inv X pins σ H s)(ho:s'.os=s.os)(u:Un (frs X.stack) ch H H' s.heap s'.heap)(hok:HOk X.prog X.w H' s'.heap)(hg:AllBare s'.gens)
  (hch:∀ b∈ch,(b∈X.ex\/X.s₀.heap.objs.size<=b)/\b≠X.env.locals/\(∀ x c,X.env.cells.lookup x=some c->c≠b)/\∀ p∈X.pn++pins,p.1≠b):Inv X pins σ H' s':=by
 obtain ⟨h',g',d',t',o'⟩:=s'
 have e:o'=s.os:=ho
 subst e
 exact I.call (g':=g') (t':=t') (d':=d') u hok hg hch
end

noncomputable abbrev XK:=Value->Option Addr->Hp->Prop
noncomputable abbrev St:=List (Option V)
noncomputable abbrev VK:=V->Hp->Prop
noncomputable abbrev TE:=St->Hp->VK->Prop
noncomputable abbrev TT:=St->Hp->(Bool->Hp->Prop)->Prop
noncomputable abbrev TA:=St->Hp->(List V->Hp->Prop)->Prop
structure Ends where
 nx:St->Hp->Prop
 rt:VK
 bk:St->Hp->Prop:=fun _ _=>False
 ct:St->Hp->Prop:=fun _ _=>False
noncomputable abbrev TS:=Ends->St->Hp->Prop

noncomputable def EP (X:Cx)(pins:List (Addr×Obj))(σ:St)(Q:VK)(u:Value)(s':Shared):Prop:=∃ v H',Inv X pins σ H' s'/\RelV v u/\Q v H'
noncomputable def TP (X:Cx)(pins:List (Addr×Obj))(σ:St)(Q:Bool->Hp->Prop)(b:Bool)(s':Shared):Prop:=∃ H',Inv X pins σ H' s'/\Q b H'
noncomputable def AP (X:Cx)(pins:List (Addr×Obj))(σ:St)(Q:List V->Hp->Prop)(us:List Value)(s':Shared):Prop:=∃ vs H',Inv X pins σ H' s'/\Vals vs us/\Q vs H'
noncomputable def SP (X:Cx)(pins:List (Addr×Obj))(D:Ends)(f:Flow)(s':Shared):Prop:=
 match f with
 | .next=>∃ σ' H',Inv X pins σ' H' s'/\D.nx σ' H'
 | .brk=>∃ σ' H',Inv X pins σ' H' s'/\D.bk σ' H'
 | .cont=>∃ σ' H',Inv X pins σ' H' s'/\D.ct σ' H'
 | .ret u=>∃ v σ' H',Inv X pins σ' H' s'/\RelV v u/\D.rt v H'

noncomputable def PE (X:Cx)(e:Expr)(t:TE):Prop:=
 ∀ (pins:List (Addr×Obj)) (s:Shared) (σ:St) (H:Hp) (Q:VK),Inv X pins σ H s->t σ H Q->wpAny (model X.prog X.w) X.A (eval e X.env) (EP X pins σ Q) X.xe s
noncomputable def PT (X:Cx)(e:Expr)(t:TT):Prop:=
 ∀ (pins:List (Addr×Obj)) (s:Shared) (σ:St) (H:Hp) (Q:Bool->Hp->Prop),Inv X pins σ H s->t σ H Q->wpAny (model X.prog X.w) X.A (isTrue e X.env (eval e X.env)) (TP X pins σ Q) X.xe s
noncomputable def PW (X:Cx)(e:Expr)(t:TT):Prop:=
 ∀ (whole:Sem Value) (pins:List (Addr×Obj)) (s:Shared) (σ:St) (H:Hp) (Q:Bool->Hp->Prop),Inv X pins σ H s->t σ H Q->wpAny (model X.prog X.w) X.A (isTrue e X.env whole) (TP X pins σ Q) X.xe s
theorem PW.pt {X:Cx}{e:Expr}{t:TT}(h:PW X e t):PT X e t:=h _
noncomputable def PA (X:Cx)(es:List Expr)(t:TA):Prop:=
 ∀ (pos:Pos) (pins:List (Addr×Obj)) (s:Shared) (σ:St) (H:Hp) (Q:List V->Hp->Prop),Inv X pins σ H s->t σ H Q->wpAny (model X.prog X.w) X.A (spliced (backTo pos (starEach es X.env))) (AP X pins σ Q) X.xe s
noncomputable def PS (X:Cx)(st:Stmt)(t:TS):Prop:=
 ∀ (pins:List (Addr×Obj)) (s:Shared) (σ:St) (H:Hp) (D:Ends),Inv X pins σ H s->t D σ H->wpAny (model X.prog X.w) X.A (exec st X.env) (SP X pins D) X.xe s
noncomputable def PSs (X:Cx)(st:List Stmt)(t:TS):Prop:=
 ∀ (pins:List (Addr×Obj)) (s:Shared) (σ:St) (H:Hp) (D:Ends),Inv X pins σ H s->t D σ H->wpAny (model X.prog X.w) X.A (execs st X.env) (SP X pins D) X.xe s
theorem thn {α:Type}{t:Sem α}{Q Q':α->Shared->Prop}{M:Model}{A:Around}{E:Value->Shared->Prop}{s:Shared}(h:wpAny M A t Q E s)(hQ:∀ a s,Q a s->Q' a s):wpAny M A t Q' E s:=wpAny_mono h hQ fun _ _ x=>x
section
variable {X:Cx}

noncomputable def tVar (i:Nat):TE:=fun σ H Q=>∃ v,σ[i]?=some (some v)/\Q v H
noncomputable def tC (v:V):TE:=fun _ H Q=>Q v H
theorem jkR {i:Nat}{x:Str}{pos:Pos}(hN:X.N[i]?=some x)(hv:Vis X.env.scope x)(hd:(x == ("__debug__" : Str))=false:=by decide)(hcd:(x == ("__classdict__" : Str))=false:=by decide):PE X (.Name x pos) (tVar i):=by
 intro pins s σ H Q I h
 obtain ⟨v,e,h⟩:=h
 obtain ⟨m,hn,hl⟩:=I.loc
 obtain ⟨u,r,l⟩:=hl i x v hN e hv
 have fin:EP X pins σ Q u s:=⟨v,H,I,r,h⟩
 rcases l with ⟨hk,hm⟩ | ⟨hk,c,hc,hcell⟩
 ·exact wpAny_Name (wpAny_loadName_local I.ok.kind hk hn hm fin) hd
 ·rcases hk with hk | hk
  ·exact wpAny_Name (wpAny_loadName_cell I.ok.kind hk hc hcell fin) hd
  ·exact wpAny_Name (wpAny_loadName_free I.ok.kind hk hc hcell fin hcd) hd
theorem jkY {i j pos}:PE X (.Constant (.int i) j pos) (tC (.int i)):=fun _ _ _ H _ I h=>wpAny_Constant_int ⟨.int i,H,I.tok _,⟨_,rfl⟩,h⟩
theorem jm7 {b j pos}:PE X (.Constant (.bool b) j pos) (tC (.bl b)):=fun _ _ _ H _ I h=>Constant_bool ⟨.bl b,H,I,rfl,h⟩
theorem jkV {j pos}:PE X (.Constant .none j pos) (tC .non):=fun _ _ _ H _ I h=>Constant_none ⟨.non,H,I,rfl,h⟩
theorem jkT {x j pos}:PE X (.Constant (.str x) j pos) (tC (.str x)):=fun _ _ _ H _ I h=>Calls.Constant_str ⟨.str x,H,I.tok _,⟨_,rfl⟩,h⟩

noncomputable def Gl (X:Cx)(x:Str):Prop:=X.env.kindOf x=some .globalImplicit
theorem jeB {E:Value->Shared->Prop}{pins:List (Addr×Obj)}{s:Shared}{σ:St}{H:Hp}{x:Str}{u:Value}{pos:Pos}{Q:Value->Shared->Prop}(I:Inv X pins σ H s)(hg:Gl X x)(hm:X.mg x=some u)(h:Q u s)
  (hd:(x == ("__debug__" : Str))=false:=by decide):wpAny (model X.prog X.w) X.A (eval (.Name x pos) X.env) Q E s:=
 Calls.Name_function_global I.ok.kind hg (Calls.loadGlobal_global (by rw [I.ok.glob]; exact I.mod.glob.keeps I.bk) hm h) hd
theorem jd6 {E:Value->Shared->Prop}{pins:List (Addr×Obj)}{s:Shared}{σ:St}{H:Hp}{x:Str}{u:Value}{pos:Pos}{Q:Value->Shared->Prop}(I:Inv X pins σ H s)(hg:Gl X x)(hm:X.mg x=none)(hv:bootBuiltins x=some u)(h:Q u s)
  (hn:x ≠ "__name__" := by decide) (hd:(x == ("__debug__" : Str))=false:=by decide):wpAny (model X.prog X.w) X.A (eval (.Name x pos) X.env) Q E s:=by
 obtain ⟨mb,h1,h2⟩:=I.mod.blt
 exact Calls.Name_function_global I.ok.kind hg (Calls.loadGlobal_builtin (by rw [I.ok.glob]; exact I.mod.glob.keeps I.bk) hm (by rw [I.ok.blt]; exact h1.keeps I.bk) ((h2 x hn).trans hv) h) hd
theorem ji8 {x:Str}{v:V}{u:Value}{pos:Pos}(hg:Gl X x)(hm:X.mg x=some u)(r:RelV v u)(hd:(x == ("__debug__" : Str))=false:=by decide):PE X (.Name x pos) (tC v):=
 fun _ _ _ H _ I h=>jeB I hg hm ⟨v,H,I,r,h⟩ hd
theorem jjb {x:Str}{v:V}{u:Value}{pos:Pos}(hg:Gl X x)(hm:X.mg x=none)(hv:bootBuiltins x=some u)(r:RelV v u)(hn:x ≠ "__name__" := by decide)(hd:(x == ("__debug__" : Str))=false:=by decide):PE X (.Name x pos) (tC v):=
 fun _ _ _ H _ I h=>jd6 I hg hm hv ⟨v,H,I,r,h⟩ hn hd

variable {a b:Expr}{ta tb:TE}{pos:Pos}
noncomputable def tB (t:TE):TT:=fun σ H Q=>t σ H fun x H1=>∃ c,x=.bl c/\Q c H1
variable {tA tB':TT}{rest:List Expr}
noncomputable def tAnd (t u:TT):TT:=fun σ H Q=>t σ H fun c H1=>if c=true then u σ H1 Q else Q false H1
noncomputable def tOr (t u:TT):TT:=fun σ H Q=>t σ H fun c H1=>if c=true then Q true H1 else u σ H1 Q
noncomputable def tNot (t:TT):TT:=fun σ H Q=>t σ H fun c H1=>Q (!c) H1
theorem pw_and1 (ha:PT X a tA):PW X (.BoolOp .And [a] pos) tA:=by
 intro wh pins s σ H Q I h
 refine isTrue_and (thn (ha pins s σ H Q I h) fun c s1 e=>?_)
 cases c with
 | true=>exact isTrue_and_nil e
 | false=>exact e
theorem pw_or1 (ha:PT X a tA):PW X (.BoolOp .Or [a] pos) tA:=by
 intro wh pins s σ H Q I h
 refine isTrue_or (thn (ha pins s σ H Q I h) fun c s1 e=>?_)
 cases c with
 | false=>exact isTrue_or_nil e
 | true=>exact e
theorem pw_and (ha:PT X a tA)(hb:PW X (.BoolOp .And (b::rest) pos) tB'):PW X (.BoolOp .And (a::b::rest) pos) (tAnd tA tB'):=by
 intro wh pins s σ H Q I h
 refine isTrue_and (thn (ha pins s σ H _ I h) fun c s1 ⟨H1,I1,q1⟩=>?_)
 cases c with
 | true=>exact hb wh pins s1 σ H1 Q I1 q1
 | false=>exact ⟨H1,I1,q1⟩
theorem pw_or (ha:PT X a tA)(hb:PW X (.BoolOp .Or (b::rest) pos) tB'):PW X (.BoolOp .Or (a::b::rest) pos) (tOr tA tB'):=by
 intro wh pins s σ H Q I h
 refine isTrue_or (thn (ha pins s σ H _ I h) fun c s1 ⟨H1,I1,q1⟩=>?_)
 cases c with
 | true=>exact ⟨H1,I1,q1⟩
 | false=>exact hb wh pins s1 σ H1 Q I1 q1
theorem jkH (ha:PT X a tA):PT X (.UnaryOp .Not a pos) (tNot tA):=by
 intro pins s σ H Q I h
 exact isTrue_not (ha pins s σ H (fun c H1=>Q (!c) H1) I h)
noncomputable def joA (ta tb:TE):TE:=fun σ H Q=>ta σ H fun x H1=>∃ c,x=.bl c/\if c=true then tb σ H1 Q else Q (.bl false) H1
noncomputable def tOrV (ta tb:TE):TE:=fun σ H Q=>ta σ H fun x H1=>∃ c,x=.bl c/\if c=true then Q (.bl true) H1 else tb σ H1 Q
noncomputable def joz (ta:TE):TE:=fun σ H Q=>ta σ H fun x H1=>∃ c,x=.bl c/\Q (.bl (!c)) H1
theorem jh5 {op}{t:TE}(h:PE X a t):PE X (.BoolOp op [a] pos) t:=fun pins s σ H Q I hw=>BoolOp_one (h pins s σ H Q I hw)
noncomputable def tIf (t:TT)(ta tb:TE):TE:=fun σ H Q=>t σ H fun c H1=>if c=true then ta σ H1 Q else tb σ H1 Q
theorem jhr {c:Expr}(hc:PT X c tA)(ha:PE X a ta)(hb:PE X b tb):PE X (.IfExp c a b pos) (tIf tA ta tb):=by
 intro pins s σ H Q I h
 refine wpAny_IfExp (thn (hc pins s σ H _ I h) fun d s1 ⟨H1,I1,q1⟩=>?_)
 cases d with
 | true=>exact ha pins s1 σ H1 Q I1 q1
 | false=>exact hb pins s1 σ H1 Q I1 q1
end

noncomputable def SqL (K:PySem.W.Frag)(H:Hp)(a:Addr)(xs:List V):Prop:=
 Rd H a (.lst xs)\/
  ∃ (o:Obj) (its:Array Value) (n:Nat),K.lookup a=some o/\o.cls=.type "list" /\ o.dict=none/\o.data=.seq its n/\its.size<=sizeLine/\Vals xs its.toList
noncomputable def SqT (K:PySem.W.Frag)(H:Hp)(a:Addr)(xs:List V):Prop:=
 Rd H a (.tup xs)\/
  ∃ (o:Obj) (its:Array Value) (n:Nat),K.lookup a=some o/\o.cls=.type "tuple" /\ o.data=.seq its n/\its.size<=sizeLine/\Vals xs its.toList
noncomputable def absV:Value->Option V
 | .none=>some .non
 | .bool b=>some (.bl b)
 | .int i _=>some (.int i)
 | .str x _=>some (.str x)
 | .bytes b _=>some (.byt b)
 | .float b _=>some (.flt b)
 | .ref a=>some (.ref a)
 | .type n=>some (.ty n)
 | _=>none
theorem RelV.abs {x:V}{u:Value}(r:RelV x u):absV u=some x:=by
 cases x with
 | non=>cases r; rfl
 | bl _=>cases r; rfl
 | int _=>obtain ⟨t,rfl⟩:=r; rfl
 | str _=>obtain ⟨t,rfl⟩:=r; rfl
 | byt _=>obtain ⟨t,rfl⟩:=r; rfl
 | flt _=>obtain ⟨t,rfl⟩:=r; rfl
 | ref _=>cases r; rfl
 | ty _=>cases r; rfl
theorem RelV.inj {x y:V}{u:Value}(r:RelV x u)(q:RelV y u):x=y:=Option.some.inj (r.abs.symm.trans q.abs)
theorem Vals.inj:∀ {xs ys:List V} {us:List Value},Vals xs us->Vals ys us->xs=ys
 | _,_,_,.nil,.nil=>rfl
 | _,_,_,.cons r t,.cons r' t'=>by rw [r.inj r',Vals.inj t t']
section
variable {X:Cx}{pins:List (Addr×Obj)}{σ:St}{H:Hp}{s:Shared}{a:Addr}{xs ys:List V}
theorem SqL.of {K:PySem.W.Frag}(h:H a=some (.lst xs)):SqL K H a xs:=.inl (.inl h)
theorem SqT.of {K:PySem.W.Frag}(h:H a=some (.tup xs)):SqT K H a xs:=.inl (.inl h)
theorem Inv.list (I:Inv X pins σ H s)(h:SqL X.K H a xs):∃ its:List Value,Vals xs its/\PlainL s.heap a its.toArray/\xs.length<=sizeLine:=by
 rcases h with h | ⟨o,its,n,hk,hc,hd,hs,hz,r⟩
 ·obtain ⟨z,its,n,r,e⟩:=h.ok I.hok
  exact ⟨its,r,⟨_,n,e,rfl,rfl,rfl⟩,z⟩
 ·refine ⟨its.toList,r,⟨o,n,I.kIn a o hk,hc,hd,by simpa using hs⟩,?_⟩
  have e:=r.length
  simp only [Array.length_toList] at e
  omega
theorem Inv.tuple (I:Inv X pins σ H s)(h:SqT X.K H a xs):∃ its:List Value,Vals xs its/\IsTup s.heap a its.toArray/\xs.length<=sizeLine:=by
 rcases h with h | ⟨o,its,n,hk,hc,hs,hz,r⟩
 ·obtain ⟨z,its,r,p⟩:=h.ok I.hok
  exact ⟨its,r,p.tup,z⟩
 ·refine ⟨its.toList,r,⟨o,I.kIn a o hk,hc,n,by simpa using hs⟩,?_⟩
  have e:=r.length
  simp only [Array.length_toList] at e
  omega
theorem Inv.list_inj (I:Inv X pins σ H s)(h:SqL X.K H a xs)(h':SqL X.K H a ys):xs=ys:=by
 obtain ⟨its,r,⟨o,n,e,_,_,d⟩,_⟩:=I.list h
 obtain ⟨its',r',⟨o',n',e',_,_,d'⟩,_⟩:=I.list h'
 rw [e] at e'; cases e'
 rw [d] at d'
 injection d' with d1 _
 have:its=its':=by simpa using congrArg Array.toList d1
 subst this
 exact r.inj r'
theorem Inv.tuple_inj (I:Inv X pins σ H s)(h:SqT X.K H a xs)(h':SqT X.K H a ys):xs=ys:=by
 obtain ⟨its,r,⟨o,e,_,n,d⟩,_⟩:=I.tuple h
 obtain ⟨its',r',⟨o',e',_,n',d'⟩,_⟩:=I.tuple h'
 rw [e] at e'; cases e'
 rw [d] at d'
 injection d' with d1 _
 have:its=its':=by simpa using congrArg Array.toList d1
 subst this
 exact r.inj r'
end

noncomputable abbrev Cx.wish (X:Cx)(E:Value->Shared->Prop):Cx:={ X with xe:=E }
noncomputable abbrev Cx.nox (X:Cx):Cx:=X.wish fun _ _=>False
theorem Cx.Ok.wish {X:Cx}(ok:X.Ok)(E:Value->Shared->Prop):(X.wish E).Ok:=
 ⟨ok.mod,ok.kind,ok.glob,ok.blt,ok.above,ok.inj,ok.has,ok.cab,ok.hd,ok.frames,ok.stk,ok.exf,ok.bs,ok.bsz,ok.noex,ok.exfs,ok.funs,ok.frf⟩
theorem Cx.Ok.unwish {X:Cx}{E:Value->Shared->Prop}(ok:(X.wish E).Ok):X.Ok:=
 ⟨ok.mod,ok.kind,ok.glob,ok.blt,ok.above,ok.inj,ok.has,ok.cab,ok.hd,ok.frames,ok.stk,ok.exf,ok.bs,ok.bsz,ok.noex,ok.exfs,ok.funs,ok.frf⟩
section
variable {X:Cx}{pins:List (Addr×Obj)}{σ:St}{H:Hp}{s:Shared}{E:Value->Shared->Prop}
theorem Inv.wish (I:Inv X pins σ H s)(E:Value->Shared->Prop):Inv (X.wish E) pins σ H s:=⟨I.ok.wish E,I.os,I.bare,I.base,I.loc,I.cell,I.free,I.freeC,I.pin,I.hok,I.len⟩
theorem Inv.unwish (I:Inv (X.wish E) pins σ H s):Inv X pins σ H s:=⟨I.ok.unwish,I.os,I.bare,I.base,I.loc,I.cell,I.free,I.freeC,I.pin,I.hok,I.len⟩
theorem SP.unwish {D:Ends}{f:Flow}{s':Shared}(h:SP (X.wish E) pins D f s'):SP X pins D f s':=by
 cases f with
 | next=>obtain ⟨σ',H',I,q⟩:=h; exact ⟨σ',H',I.unwish,q⟩
 | brk=>obtain ⟨σ',H',I,q⟩:=h; exact ⟨σ',H',I.unwish,q⟩
 | cont=>obtain ⟨σ',H',I,q⟩:=h; exact ⟨σ',H',I.unwish,q⟩
 | ret u=>obtain ⟨v,σ',H',I,r,q⟩:=h; exact ⟨v,σ',H',I.unwish,r,q⟩
end

section
variable {X:Cx}{st:Stmt}{rest:List Stmt}{t u:TS}{e:Expr}{te:TE}{pos:Pos}
noncomputable def jmO:TS:=fun D σ H=>D.nx σ H
noncomputable def tSeq (t u:TS):TS:=fun D σ H=>t { D with nx:=u D } σ H
theorem jiW:PSs X [] jmO:=fun _ _ σ H _ I h=>wpAny_execs_nil ⟨σ,H,I,h⟩
theorem jhk (h1:PS X st t)(h2:PSs X rest u):PSs X (st::rest) (tSeq t u):=by
 intro pins s σ H D I h
 refine wpAny_execs_cons (thn (h1 pins s σ H { D with nx:=u D } I h) fun f s1 q=>?_)
 cases f with
 | next=>
  obtain ⟨σ',H',I',q⟩:=q
  exact h2 pins s1 σ' H' D I' q
 | ret v=>exact q
 | brk=>exact q
 | cont=>exact q
theorem Inv.quiet {pins:List (Addr×Obj)}{σ:St}{H:Hp}{s:Shared}(I:Inv X pins σ H s):interactive X.env=false:=by simp [interactive,I.ok.kind]
noncomputable def jmP (te:TE):TS:=fun D σ H=>te σ H fun _ H1=>D.nx σ H1
theorem jiX (he:PE X e te)(hs:swapsWith e none pos.line X.env=pure false:=by rfl):PS X (.Expr e pos) (jmP te):=by
 intro pins s σ H D I h
 exact wpAny_Expr_any (thn (he pins s σ H _ I h) fun v s1 ⟨x,H1,I1,r1,q1⟩=>⟨σ,H1,I1,q1⟩) I.quiet hs
noncomputable def tRet (te:TE):TS:=fun D σ H=>te σ H D.rt
theorem jkI (he:PE X e te):PS X (.Return (some e) pos) (tRet te):=by
 intro pins s σ H D I h
 exact wpAny_Return_some (thn (he pins s σ H _ I h) fun v s1 ⟨x,H1,I1,r1,q1⟩=>⟨x,σ,H1,I1,r1,q1⟩)
noncomputable def tIfS (c:TT)(t u:TS):TS:=fun D σ H=>c σ H fun b H1=>if b=true then t D σ H1 else u D σ H1
theorem jm2 {c:Expr}{a b:List Stmt}{tc:TT}(hc:PT X c tc)(ha:PSs X a t)(hb:PSs X b u):PS X (.If c a b pos) (tIfS tc t u):=by
 intro pins s σ H D I h
 refine wpAny_If (thn (hc pins s σ H _ I h) fun d s1 ⟨H1,I1,q1⟩=>?_)
 cases d with
 | true=>exact ha pins s1 σ H1 D I1 q1
 | false=>exact hb pins s1 σ H1 D I1 q1
end

noncomputable abbrev TG:=V->St->Hp->(St->Hp->Prop)->Prop
noncomputable abbrev TGs:=List V->St->Hp->(St->Hp->Prop)->Prop
noncomputable def PG (X:Cx)(target:Expr)(t:TG):Prop:=
 ∀ (pins:List (Addr×Obj)) (s:Shared) (σ:St) (H:Hp) (v:V) (u:Value) (Q:St->Hp->Prop),Inv X pins σ H s->RelV v u->t v σ H Q->
  wpAny (model X.prog X.w) X.A (assign target X.env u) (fun _ s'=>∃ σ' H',Inv X pins σ' H' s'/\Q σ' H') X.xe s
noncomputable def PGs (X:Cx)(ts:List Expr)(t:TGs):Prop:=
 ∀ (pins:List (Addr×Obj)) (s:Shared) (σ:St) (H:Hp) (vs:List V) (us:List Value) (Q:St->Hp->Prop),Inv X pins σ H s->Vals vs us->t vs σ H Q->
  wpAny (model X.prog X.w) X.A (assignInOrder ((assignEach ts X.env).map (·.2)) us) (fun _ s'=>∃ σ' H',Inv X pins σ' H' s'/\Q σ' H') X.xe s
noncomputable abbrev TSet:=V->V->V->Hp->(Hp->Prop)->Prop
noncomputable def PSet (X:Cx)(t:TSet):Prop:=
 ∀ (pins:List (Addr×Obj)) (s:Shared) (σ:St) (H:Hp) (o i v:V) (ov iv u:Value) (Q:Hp->Prop),Inv X pins σ H s->RelV o ov->RelV i iv->RelV v u->t o i v H Q->
  wpAny (model X.prog X.w) X.A (setItem ov iv u) (fun _ s'=>∃ H',Inv X pins σ H' s'/\Q H') X.xe s
noncomputable abbrev TIp:=V->V->Hp->VK->Prop
noncomputable def PIp (X:Cx)(op:Operator)(t:TIp):Prop:=
 ∀ (pins:List (Addr×Obj)) (s:Shared) (σ:St) (H:Hp) (x y:V) (v u:Value) (Q:VK),Inv X pins σ H s->RelV x v->RelV y u->t x y H Q->
  wpAny (model X.prog X.w) X.A (inplaceOp op v u) (EP X pins σ Q) X.xe s
section
variable {X:Cx}{pos:Pos}
noncomputable def jgM (i:Nat):TG:=fun v σ H Q=>Q (σ.set i (some v)) H
theorem ji7 {i:Nat}{x:Str}(hN:X.N.Nodup)(hi:X.N[i]?=some x)(hx:Loc X.env.scope x)(hf:X.fn x=true\/X.env.scope.names.lookup x=some .local:=by first | exact .inl rfl | exact .inr rfl | assumption):PG X (.Name x pos) (jgM i):=by
 intro pins s σ H v u Q I r h
 exact wpAny_assign_Name (jcj I hN hi hx r (fun s' I'=>⟨_,H,I',h⟩) hf)
noncomputable def gNil:TGs:=fun vs σ H Q=>vs=[]/\Q σ H
noncomputable def jnr (t:TG)(u:TGs):TGs:=fun vs σ H Q=>∃ v r,vs=v::r/\t v σ H fun σ' H'=>u r σ' H' Q
theorem ji6:PGs X [] gNil:=by
 intro pins s σ H vs us Q I r h
 obtain ⟨e,h⟩:=h
 subst e
 cases r
 exact assignInOrder_nil ⟨σ,H,I,h⟩
theorem jhp {e:Expr}{es:List Expr}{t:TG}{u:TGs}(h1:PG X e t)(h2:PGs X es u)
  (hs:(assignEach (e::es) X.env).map (·.2)=assign e X.env::(assignEach es X.env).map (·.2):=by rfl):PGs X (e::es) (jnr t u):=by
 intro pins s σ H vs us Q I r h
 obtain ⟨v,vr,e1,h⟩:=h
 subst e1
 cases r with
 | cons r rr=>
  rw [hs]
  refine assignInOrder_cons (thn (h1 pins s σ H _ _ _ I r h) fun _ s1 ⟨σ1,H1,I1,q1⟩=>?_)
  exact h2 pins s1 σ1 H1 _ _ Q I1 rr q1
noncomputable def gTup (K:PySem.W.Frag)(n:Nat)(t:TGs):TG:=fun v σ H Q=>∃ a xs,v=.ref a/\SqT K H a xs/\xs.length=n/\t xs σ H Q
theorem jkP {es:List Expr}{k:Nat}{t:TGs}{n:Nat}(hc:X.calm=true)(h:PGs X es t)
  (hn:(assignEach es X.env).length=n:=by rfl) (hst:(assignEach es X.env).findIdx? (·.1)=none:=by rfl):PG X (.Tuple es k pos) (gTup X.K n t):=by
 intro pins s σ H v u Q I r hw
 obtain ⟨a,xs,e1,hq,hl,hw⟩:=hw
 subst e1
 cases r
 obtain ⟨its,rv,ht,hz⟩:=I.tuple hq
 refine assign_Tuple_tuple (I.ok.hd hc) ht (by simp [hn,<- hl,rv.length]) hst fun h' hx=>?_
 have I1:Inv X pins σ H { s with heap:=h' }:=I.kept (t':=s.toks) fun b o e=>hx b o (Nat.ne_of_lt (Heap.lt_size e)) e
 exact h pins _ σ H xs _ Q I1 (by simpa using rv) hw
noncomputable def gSub (to ti:TE)(t:TSet):TG:=fun v σ H Q=>to σ H fun o H1=>ti σ H1 fun i H2=>t o i v H2 fun H3=>Q σ H3
theorem jkQ {o i:Expr}{to ti:TE}{t:TSet}(ho:PE X o to)(hi:PE X i ti)(hs:PSet X t)
  (ha:∀ v,assign (.Subscript o i pos) X.env v=(do
   let ov <- holding [v] (eval o X.env)
   let iv <- holding [v,ov] (eval i X.env)
   standAt pos
   holding [v,ov,iv] (setItem ov iv v)
   release [v,ov,iv] []):=by intro _; rfl):PG X (.Subscript o i pos) (gSub to ti t):=by
 intro pins s σ H v u Q I r h
 rw [ha]
 refine wpAny_bind (wpAny_holding (thn (ho pins s σ H _ I h) fun ov s1 ⟨x,H1,I1,r1,q1⟩=>?_))
 refine wpAny_bind (wpAny_holding (thn (hi pins s1 σ H1 _ I1 q1) fun iv s2 ⟨y,H2,I2,r2,q2⟩=>?_))
 refine wpAny_bind (wpAny_standAt (wpAny_bind (wpAny_holding (thn (hs pins s2 σ H2 x y v ov iv u _ I2 r1 r2 r q2) fun _ s3 ⟨H3,I3,q3⟩=>?_))))
 exact wpAny_release ⟨σ,H3,I3,q3⟩
noncomputable def tAsg (te:TE)(g:TG):TS:=fun D σ H=>te σ H fun x H1=>g x σ H1 D.nx
theorem jh4 {tg e:Expr}{te:TE}{g:TG}(he:PE X e te)(hg:PG X tg g)(hs:swapsWithSole [tg] e pos.line X.env=pure false:=by rfl)(hw:swappedStores [tg] e X.env=pure none:=by rfl)
  (h1:(assignEach [tg] X.env).map (·.2)=[assign tg X.env]:=by rfl):PS X (.Assign [tg] e pos) (tAsg te g):=by
 intro pins s σ H D I h
 refine wpAny_Assign_stores (thn (he pins s σ H _ I h) fun v s1 ⟨x,H1,I1,r1,q1⟩=>?_) hs hw
 rw [h1]
 exact thn (hg pins s1 σ H1 x v _ I1 r1 q1) fun _ s2 q=>q
noncomputable def tPar (i j:Nat)(ta:TA):TS:=fun D σ H=>ta σ H fun vs H1=>∃ v w,vs=[v,w]/\D.nx ((σ.set i (some v)).set j (some w)) H1
theorem jkJ {i j:Nat}{x y:Str}{a b:Expr}{ta:TA}{px py pt:Pos}{kt k2 pt2}(hc:X.calm=true)(hN:X.N.Nodup)(hi:X.N[i]?=some x)(hj:X.N[j]?=some y)(hij:i≠j)
  (hx:X.env.scope.names.lookup x=some .local) (hy:X.env.scope.names.lookup y=some .local) (ha:PA X [a,b] ta)
  (hw:swappedStores [.Tuple [.Name x px,.Name y py] kt pt] (.Tuple [a,b] k2 pt2) X.env=pure (some [x,y]))
  (hs:swapsWithSole [.Tuple [.Name x px,.Name y py] kt pt] (.Tuple [a,b] k2 pt2) pos.line X.env=pure false:=by rfl) :
  PS X (.Assign [.Tuple [.Name x px,.Name y py] kt pt] (.Tuple [a,b] k2 pt2) pos) (tPar i j ta):=by
 intro pins s σ H D I h
 rw [exec_Assign_arm]
 refine wpAny_bind (wpAny_standAt ?_)
 rw [hs]
 refine wpAny_bind (wpAny_pure ?_)
 rw [if_neg (by decide)]
 refine wpAny_bind (Tuple_ (thn (ha _ pins s σ H _ I h) fun us s1 ⟨vs,H1,I1,r1,q1⟩=>?_))
 obtain ⟨v,w,e1,q1⟩:=q1
 subst e1
 obtain ⟨u1,u2,rfl,rv,rw'⟩:∃ u1 u2,us=[u1,u2]/\RelV v u1/\RelV w u2:=by
  cases r1 with
  | cons p q=>
   cases q with
   | cons p' q'=>
    cases q'
    exact ⟨_,_,rfl,p,p'⟩
 refine wpAny_newObj_type ?_ (by show 2<=sizeLine; decide)
 have I2:Inv X pins σ H1 { s1 with heap:=s1.heap.push { cls:=.type "tuple",data:=.seq [u1,u2].toArray } }:=I1.kept (t':=s1.toks) fun b o e=>Heap.get?_push_of_some _ e
 rw [hw]
 refine wpAny_bind (wpAny_pure ?_)
 show wpAny (model X.prog X.w) X.A (do rule "assign.swapped-stores"; let items <- unpackItems (.ref s1.heap.objs.size) 2 none; assignInOrder [fun v=>bindName X.env y v,fun v=>bindName X.env x v] items.reverse; pure Flow.next) _ _ _
 refine wpAny_bind (wpAny_rule (wpAny_bind (unpackItems_tuple (items:=#[u1,u2]) (I.ok.hd hc) (IsTup.new s1.heap _) fun h' hx'=>?_)))
 have I3:=I2.kept (h':=h') (t':=s1.toks) fun b o e=>hx' b o (Nat.ne_of_lt (Heap.lt_size e)) e
 show wpAny _ _ (assignInOrder [fun v=>bindName X.env y v,fun v=>bindName X.env x v] [u2,u1] >>= fun _=>pure Flow.next) _ _ _
 refine wpAny_bind (assignInOrder_cons (wpAny_bindName (jcj I3 hN hj (.inl hy) rw' (fun s2 I4=>?_) (.inr hy))))
 refine assignInOrder_cons (wpAny_bindName (jcj I4 hN hi (.inl hx) rv (fun s3 I5=>assignInOrder_nil (wpAny_pure ?_)) (.inr hx)))
 rw [List.set_comm _ _ (Ne.symm hij)] at I5
 exact ⟨_,H1,I5,q1⟩
noncomputable def tAug (i:Nat)(te:TE)(ti:TIp):TS:=fun D σ H=>∃ x,σ[i]?=some (some x)/\te σ H fun y H1=>ti x y H1 fun z H2=>D.nx (σ.set i (some z)) H2
theorem jkM {i:Nat}{x:Str}{e:Expr}{te:TE}{op:Operator}{ti:TIp}{pos':Pos}(hN:X.N.Nodup)(hi:X.N[i]?=some x)(hx:Loc X.env.scope x)(he:PE X e te)(ho:PIp X op ti)(hf:X.fn x=true\/X.env.scope.names.lookup x=some .local:=by first | exact .inl rfl | exact .inr rfl | assumption) :
  PS X (.AugAssign (.Name x pos') op e pos) (tAug i te ti):=by
 intro pins s σ H D I h
 obtain ⟨v,e1,h⟩:=h
 obtain ⟨m,hn,hl⟩:=I.loc
 have vis:Vis X.env.scope x:=by rcases hx with k | k; exact .inl k; exact .inr (.inl k)
 obtain ⟨u,r,l⟩:=hl i x v hi e1 vis
 refine wpAny_AugAssign_Name ?_
 have go:wpAny (model X.prog X.w) X.A (eval e X.env) (fun w s₂=>wpAny (model X.prog X.w) X.A (inplaceOp op u w) (fun r s₃=>wpAny (model X.prog X.w) X.A (storeName X.env x r) (fun _=>SP X pins D .next) X.xe s₃) X.xe s₂) X.xe s:=by
  refine thn (he pins s σ H _ I h) fun w s1 ⟨y,H1,I1,r1,q1⟩=>?_
  refine thn (ho pins s1 σ H1 v y u w _ I1 r r1 q1) fun z s2 ⟨zv,H2,I2,r2,q2⟩=>?_
  exact jcj I2 hN hi hx r2 (fun s3 I3=>⟨_,H2,I3,q2⟩) hf
 rcases l with ⟨hk,hm⟩ | ⟨hk,c,hc,hcell⟩
 ·exact wpAny_loadName_local I.ok.kind hk hn hm go
 ·rcases hk with hk | hk
  ·exact wpAny_loadName_cell I.ok.kind hk hc hcell go
  ·rcases hx with k | k
   ·have:X.env.scope.names.lookup x=some .free:=hk
    rw [k] at this; cases this
   ·have:X.env.scope.names.lookup x=some .free:=hk
    rw [k] at this; cases this
noncomputable def PGet (X:Cx)(t:V->V->Hp->VK->Prop):Prop:=
 ∀ (pins:List (Addr×Obj)) (s:Shared) (σ:St) (H:Hp) (o i:V) (ov iv:Value) (Q:VK),Inv X pins σ H s->RelV o ov->RelV i iv->t o i H Q->
  wpAny (model X.prog X.w) X.A (getItem ov iv) (EP X pins σ Q) X.xe s
end

section
variable {X:Cx}{pos:Pos}
noncomputable def jkh (c:TT)(tb:TS):TS:=fun D σ H=>∃ W:Nat->St->Hp->Prop,(∃ m,W m σ H)/\∀ m σ H,W m σ H->
 c σ H fun b H1=>if b=true then ∃ N:St->Hp->Prop,(∀ σ' H',N σ' H'->∃ m',m' < m/\W m' σ' H')/\tb { D with nx:=N,ct:=N,bk:=D.nx } σ H1 else D.nx σ H1
theorem jhl {c:Expr}{body:List Stmt}{tc:TT}{tb:TS}(hp:PassesOwn (model X.prog X.w) X.A X.env X.xe)(hc:PT X c tc)(hb:PSs X body tb):PS X (.While c body [] pos) (jkh tc tb):=by
 intro pins s σ H D I h
 obtain ⟨W,⟨m0,w0⟩,turn⟩:=h
 refine wpAny_While (codeAny_whileLoop (fun n s'=>∃ σ' H',Inv X pins σ' H' s'/\W n σ' H') ?_ m0 ⟨σ,H,I,w0⟩)
 rintro n s1 ⟨σ1,H1,I1,w1⟩
 refine wpAny_passesOwn hp (thn (hc pins s1 σ1 H1 _ I1 (turn n σ1 H1 w1)) fun b s2 ⟨H2,I2,q2⟩=>?_)
 cases b with
 | true=>
  obtain ⟨N,hN,q2⟩:=q2
  rw [if_pos rfl]
  refine wpAny_passesOwn hp (thn (hb pins s2 σ1 H2 _ I2 q2) fun f s3 q3=>?_)
  cases f with
  | next=>
   obtain ⟨σ3,H3,I3,n3⟩:=q3
   obtain ⟨m',hm,w3⟩:=hN σ3 H3 n3
   exact ⟨m',hm,σ3,H3,I3,w3⟩
  | cont=>
   obtain ⟨σ3,H3,I3,n3⟩:=q3
   obtain ⟨m',hm,w3⟩:=hN σ3 H3 n3
   exact ⟨m',hm,σ3,H3,I3,w3⟩
  | brk=>exact q3
  | ret v=>exact q3
 | false=>
  rw [if_neg Bool.false_ne_true]
  exact wpAny_execs_nil ⟨σ1,H2,I2,q2⟩
end

structure It where
 go:Nat->Hp->Prop
 yld:Nat->Hp->V->Hp->Prop
 stop:Nat->Hp->Prop
noncomputable def FpOk (X:Cx)(pins:List (Addr×Obj))(H:Hp)(b:Addr):Prop:=
 H b=none/\b≠X.env.locals/\b∉X.fs/\(b∈X.ex\/X.s₀.heap.objs.size<=b)/\(∀ x c,X.env.cells.lookup x=some c->c≠b)/\∀ p∈X.pn++pins,p.1≠b
theorem Inv.fpOk {X:Cx}{pins:List (Addr×Obj)}{σ:St}{H H':Hp}{s:Shared}{b:Addr}(I:Inv X pins σ H s)(hb:s.heap.objs.size<=b)(hn:H' b=none):FpOk X pins H' b:=by
 refine ⟨hn,Nat.ne_of_gt (Nat.lt_of_lt_of_le I.lt hb),I.nofs hb,.inr (Nat.le_trans I.sz hb),fun x c e z=>?_,fun p hp z=>?_⟩
 ·obtain ⟨v,q⟩:=I.cell x c e
  exact absurd (Nat.lt_of_lt_of_le q.lt (by rw [z]; exact hb)) (Nat.lt_irrefl _)
 ·exact absurd (Nat.lt_of_lt_of_le (Heap.lt_size (I.pin p hp).1) (by rw [z]; exact hb)) (Nat.lt_irrefl _)
structure Turn (P:Program)(w:World)(K:PySem.W.Frag)(tg:Expr)(J:It)(fp:List Addr)(it:Addr)(tn:Nat->Heap->Prop):Prop where
 mem:it∈fp
 obj:∀ i h,tn i h->∀ b∈fp,∃ o,h.get? b=some o/\∀ v,o.data≠.cell v
 keep:∀ i h h',tn i h->(∀ b∈fp,∀ o,h.get? b=some o->h'.get? b=some o)->tn i h'
 item:∀ (X:Cx),X.prog=P->X.w=w->X.K=K->X.calm=true->∀ (i:Nat) (pins:List (Addr×Obj)) (s:Shared) (σ:St) (H:Hp) (E:Value->Shared->Prop),Inv X pins σ H s->(∀ b∈fp,FpOk X pins H b)->tn i s.heap->J.go i H->
  wpAny (model P w) X.A (pyNext (.ref it)) (fun r s1=>∃ u,r=some u/\
   wpAny (model P w) X.A (letOwnedTupleGo tg (.ref it) u) (fun _ s2=>∃ x H',Inv X pins σ H' s2/\RelV x u/\J.yld i H x H'/\tn (i + 1) s2.heap/\∀ b∈fp,H' b=none) E s1) E s
 done:∀ (X:Cx),X.prog=P->X.w=w->X.K=K->X.calm=true->∀ (i:Nat) (pins:List (Addr×Obj)) (s:Shared) (σ:St) (H:Hp) (E:Value->Shared->Prop),Inv X pins σ H s->(∀ b∈fp,FpOk X pins H b)->tn i s.heap->J.stop i H->
  wpAny (model P w) X.A (pyNext (.ref it)) (fun r s1=>r=none/\Inv X pins σ H s1) E s
 self:∀ (A:Around) (i:Nat) (s:Shared) (Q:Value->Shared->Prop) (E:Value->Shared->Prop),tn i s.heap->Q (.ref it) s->wpAny (model P w) A (pyIter (.ref it)) Q E s
noncomputable abbrev TI:=St->Hp->(It->Hp->Prop)->Prop
noncomputable def PIE (X:Cx)(pins:List (Addr×Obj))(σ:St)(tg:Expr)(R:It->Hp->Prop)(itv:Value)(s2:Shared):Prop:=
 ∃ (it:Addr) (fp:List Addr) (tn:Nat->Heap->Prop) (J:It) (H':Hp),itv=.ref it/\Inv X pins σ H' s2/\Turn X.prog X.w X.K tg J fp it tn/\tn 0 s2.heap/\(∀ b∈fp,FpOk X pins H' b)/\R J H'
noncomputable def PI (X:Cx)(tg iter:Expr)(wi:TI):Prop:=
 ∀ (pins:List (Addr×Obj)) (s:Shared) (σ:St) (H:Hp) (R:It->Hp->Prop),Inv X pins σ H s->wi σ H R->
  wpAny (model X.prog X.w) X.A (eval iter X.env) (fun v s1=>wpAny (model X.prog X.w) X.A (pyIter v) (PIE X pins σ tg R) X.xe s1) X.xe s

theorem jjM {M : Model}{A : Around}{E : Value -> Shared -> Prop}{s : Shared}{tg : Expr}{it : Addr}{u : Value}{o : Obj}{n : String}{vs : Array Value}{Q : Unit -> Shared -> Prop}(ho : s.heap.get? it = some o)(hc : o.cls = .type n)(hd : o.data = .fields vs)
    (hn : ["enumerate", "zip", "dict_itemiterator", "dict_reverseitemiterator", "odict_iterator", "itertools.zip_longest", "itertools.pairwise"].contains n = false) (hQ : Q () s) : wpAny M A (letOwnedTupleGo tg (.ref it) u) Q E s := by
  unfold letOwnedTupleGo
  cases tg <;> first
    | exact wpAny_pure hQ
    | (cases u <;> first
        | exact wpAny_pure hQ
        | (refine wpAny_bind (wpAny_load ho ?_)
           rw [hc, hd]
           show wpAny M A (if (["enumerate", "zip", "dict_itemiterator", "dict_reverseitemiterator", "odict_iterator", "itertools.zip_longest", "itertools.pairwise"].contains n && vs[0]? == some (rawInt _)) = true then _ else _) Q E s
           rw [if_neg (by intro h; rw [hn, Bool.false_and] at h; cases h)]
           exact wpAny_pure hQ))

noncomputable def Itl (K:PySem.W.Frag)(a:Addr):It:=
 ⟨fun i H=>∃ xs x,SqL K H a xs/\xs[i]?=some x,fun i H x H'=>H'=H/\∀ xs,SqL K H a xs->xs[i]?=some x,fun i H=>∃ xs,SqL K H a xs/\xs.length<=i⟩
noncomputable def Itt (K:PySem.W.Frag)(a:Addr):It:=
 ⟨fun i H=>∃ xs x,SqT K H a xs/\xs[i]?=some x,fun i H x H'=>H'=H/\∀ xs,SqT K H a xs->xs[i]?=some x,fun i H=>∃ xs,SqT K H a xs/\xs.length<=i⟩
noncomputable def Itr (lo:Int)(n:Nat):It:=⟨fun i _=>i < n,fun i H x H'=>H'=H/\x=.int (lo + i),fun i _=>n<=i⟩
theorem jfW {P:Program}{w:World}{K:PySem.W.Frag}{tg:Expr}(a it:Addr):Turn P w K tg (Itl K a) [it] it (fun i h=>h.IsListIter it a i) where
 mem:=by simp
 obj:=fun i h st b hb=>by
  have e:b=it:=by simpa using hb
  subst e
  obtain ⟨o,e,c,d⟩:=st
  exact ⟨o,e,fun v z=>by rw [d] at z; cases z⟩
 keep:=fun i h h' st k=>st.at fun o e=>k it (by simp) o e
 item:=by
  intro X hP hw hK hc i pins s σ H E I hf st hg
  subst hP hw hK
  obtain ⟨xs,x,hq,hx⟩:=hg
  obtain ⟨its,rv,p,hz⟩:=I.list hq
  obtain ⟨u,hu,ru⟩:=rv.get hx
  obtain ⟨f0,f1,f2,f3,f4,f5⟩:=hf it (by simp)
  refine wpAny_pyNext_list_item st p.isList (x:=u) (by simpa using hu) fun h' st' sb=>?_
  have I1:Inv X pins σ H { s with heap:=h' }:=I.turned (t':=s.toks) (fun b o hb e=>(sb.2 b hb).trans e) f0 f1 f3 f4 f5
  obtain ⟨o,e,c,d⟩:=id st'
  exact ⟨u,rfl,jjM (s:={ s with heap:=h' }) e c d (by decide) ⟨x,H,I1,ru,⟨rfl,fun ys hy=>by rw [I.list_inj hy hq]; exact hx⟩,st',fun b hb=>(hf b hb).1⟩⟩
 done:=by
  intro X hP hw hK hc i pins s σ H E I hf st hg
  subst hP hw hK
  obtain ⟨xs,hq,hx⟩:=hg
  obtain ⟨its,rv,p,hz⟩:=I.list hq
  obtain ⟨f0,f1,f2,f3,f4,f5⟩:=hf it (by simp)
  have hl:=rv.length
  exact wpAny_pyNext_list_end (I.ok.hd hc) st p.isList (by simp; omega) fun h' eb=>⟨rfl,I.turned (t':=s.toks) (fun b o hb e=>eb b o hb e) f0 f1 f3 f4 f5⟩
 self:=fun _ _ _ _ _ st h=>wpAny_pyIter_listiter st h
theorem jfr {P:Program}{w:World}{K:PySem.W.Frag}{tg:Expr}(a it:Addr):Turn P w K tg (Itt K a) [it] it (fun i h=>h.IsTupleIter it a i) where
 mem:=by simp
 obj:=fun i h st b hb=>by
  have e:b=it:=by simpa using hb
  subst e
  obtain ⟨o,e,c,d⟩:=st
  exact ⟨o,e,fun v z=>by rw [d] at z; cases z⟩
 keep:=fun i h h' st k=>st.at fun o e=>k it (by simp) o e
 item:=by
  intro X hP hw hK hc i pins s σ H E I hf st hg
  subst hP hw hK
  obtain ⟨xs,x,hq,hx⟩:=hg
  obtain ⟨its,rv,p,hz⟩:=I.tuple hq
  obtain ⟨u,hu,ru⟩:=rv.get hx
  obtain ⟨f0,f1,f2,f3,f4,f5⟩:=hf it (by simp)
  refine wpAny_pyNext_tuple_item st (show s.heap.IsTuple a its.toArray from p) (x:=u) (by simpa using hu) fun h' st' sb=>?_
  have I1:Inv X pins σ H { s with heap:=h' }:=I.turned (t':=s.toks) (fun b o hb e=>(sb.2 b hb).trans e) f0 f1 f3 f4 f5
  obtain ⟨o,e,c,d⟩:=id st'
  exact ⟨u,rfl,jjM (s:={ s with heap:=h' }) e c d (by decide) ⟨x,H,I1,ru,⟨rfl,fun ys hy=>by rw [I.tuple_inj hy hq]; exact hx⟩,st',fun b hb=>(hf b hb).1⟩⟩
 done:=by
  intro X hP hw hK hc i pins s σ H E I hf st hg
  subst hP hw hK
  obtain ⟨xs,hq,hx⟩:=hg
  obtain ⟨its,rv,p,hz⟩:=I.tuple hq
  obtain ⟨f0,f1,f2,f3,f4,f5⟩:=hf it (by simp)
  have hl:=rv.length
  exact wpAny_pyNext_tuple_end (I.ok.hd hc) st (show s.heap.IsTuple a its.toArray from p) (by simp; omega) fun h' eb=>⟨rfl,I.turned (t':=s.toks) (fun b o hb e=>eb b o hb e) f0 f1 f3 f4 f5⟩
 self:=fun _ _ _ _ _ st h=>wpAny_pyIter_tupleiter st h
theorem jfs {P:Program}{w:World}{K:PySem.W.Frag}{tg:Expr}(it:Addr)(lo:Int)(n:Nat):Turn P w K tg (Itr lo n) [it] it (fun i h=>IsRangeIter h it (lo + (i:Nat) * 1) ((n:Int) - (i:Nat)) 1) where
 mem:=by simp
 obj:=fun i h st b hb=>by
  have e:b=it:=by simpa using hb
  subst e
  exact ⟨_,st,fun v z=>by
   have z':Data.fields _=Data.cell v:=z
   cases z'⟩
 keep:=fun i h h' st k=>k it (by simp) _ st
 item:=by
  intro X hP hw hK hc i pins s σ H E I hf st hg
  subst hP hw hK
  obtain ⟨f0,f1,f2,f3,f4,f5⟩:=hf it (by simp)
  have W:=Walks.range (prog:=X.prog) (w:=X.w) (I.ok.hd hc) it lo 1 n
  refine W.item i s _ _ hg st fun v h' tk hv st' kk=>?_
  obtain ⟨t,rfl⟩:=hv
  have I1:Inv X pins σ H { s with heap:=h',toks:=tk }:=I.turned (fun b o hb e=>kk b o (by simpa using hb) e) f0 f1 f3 f4 f5
  refine ⟨_,rfl,jjM (s:={ s with heap:=h',toks:=tk }) (n := "range_iterator") st' rfl rfl (by decide) ⟨.int (lo + i),H,I1,⟨t,?_⟩,⟨rfl,rfl⟩,st',fun b hb=>(hf b hb).1⟩⟩
  rw [Int.mul_one]
 done:=by
  intro X hP hw hK hc i pins s σ H E I hf st hg
  subst hP hw hK
  obtain ⟨f0,f1,f2,f3,f4,f5⟩:=hf it (by simp)
  exact wpAny_pyNext_range_end (I.ok.hd hc) st (by have:n<=i:=hg; omega) fun h' eb=>⟨rfl,I.turned (t':=s.toks) (fun b o hb e=>eb b o hb e) f0 f1 f3 f4 f5⟩
 self:=fun _ _ _ _ _ st h=>wpAny_pyIter_rangeiter st h
section
variable {X:Cx}{tg:Expr}
theorem jhe {pins:List (Addr×Obj)}{σ:St}{H:Hp}{s:Shared}{R:It->Hp->Prop}{E:Value->Shared->Prop}{lo hi:Int}{t u v:Tok}{tk:Nat}(I:Inv X pins σ H s)(h1:-(2 ^ 62)<=lo)(h2:lo < 2 ^ 62)(h3:-(2 ^ 62)<=hi)(h4:hi < 2 ^ 62)
  (q:R (Itr lo (hi - lo).toNat) H):wpAny (model X.prog X.w) X.A (pyIter (.ref s.heap.objs.size)) (PIE X pins σ tg R) E { s with heap:=s.heap.push { cls:=.type "range",data:=.fields #[.int lo t,.int hi u,.int 1 v] },toks:=tk }:=by
 refine wpAny_pyIter_range (IsRange.new ..) (small_one h1 h2 h3 h4) ?_
 have I1:Inv X pins σ H { s with heap:=s.heap.push { cls:=.type "range",data:=.fields #[.int lo t,.int hi u,.int 1 v] },toks:=tk }:=I.kept fun b o e=>Heap.get?_push_of_some _ e
 refine ⟨(s.heap.push { cls:=.type "range",data:=.fields #[.int lo t,.int hi u,.int 1 v] }).objs.size,[(s.heap.push { cls:=.type "range",data:=.fields #[.int lo t,.int hi u,.int 1 v] }).objs.size],_,_,H,rfl,
  I1.kept (t':=tk) fun b o e=>Heap.get?_push_of_some _ e,jfs _ lo (hi - lo).toNat,?_,fun b hb=>?_,q⟩
 ·have e1:lo + ((0:Nat):Int) * 1=lo:=by simp
  have e2:(((hi - lo).toNat:Nat):Int) - ((0:Nat):Int)=Builtin.Range.rangeSize lo hi 1:=by rw [rangeSize_one]; split <;> omega
  show IsRangeIter _ _ (lo + ((0:Nat):Int) * 1) ((((hi - lo).toNat:Nat):Int) - ((0:Nat):Int)) 1
  rw [e1,e2]
  exact Heap.get?_push_size _ rfl
 ·have e:b=(s.heap.push { cls:=.type "range",data:=.fields #[.int lo t,.int hi u,.int 1 v] }).objs.size:=by simpa using hb
  subst e
  exact I1.fpOk (Nat.le_refl _) (I1.hok.fresh (Nat.le_refl _))
noncomputable def jnn (ta:TA):TI:=fun σ H R=>ta σ H fun vs H1=>∃ j:Int,vs=[.int j]/\-(2 ^ 62)<=j/\j < 2 ^ 62/\R (Itr 0 j.toNat) H1
theorem jgd {a:Expr}{ta:TA}{p pos:Pos}(hg:Gl X "range")(hm:X.mg "range" = none)(ha:PA X [a] ta)(hs:starEach [a] X.env=[(false,eval a X.env)]:=by rfl):PI X tg (.Call (.Name "range" p) [a] [] pos) (jnn ta):=by
 intro pins s σ H R I h
 refine Call_ (jd6 I hg hm boot_range (PyProof.Rows.callWith_type1 (thn (ha pos pins s σ H _ I h) fun us s1 ⟨vs,H1,I1,r1,q1⟩=>?_) hs rfl))
 obtain ⟨j,e,q1,q2,q⟩:=q1
 subst e
 cases r1 with
 | cons r rr=>
  cases rr
  obtain ⟨t,rfl⟩:=r
  exact call_range_1 (jhe I1 (by omega) (by omega) q1 q2 (by simpa using q))
noncomputable def tFor (wi:TI)(g:TG)(tb:TS):TS:=fun D σ H=>wi σ H fun J H1=>∃ W:Nat->Nat->St->Hp->Prop,(∃ m,W 0 m σ H1)/\∀ i m σ H,W i m σ H->
 (J.stop i H/\D.nx σ H)\/(J.go i H/\∃ N:St->Hp->Prop,(∀ σ' H',N σ' H'->∃ m',m' < m/\W (i + 1) m' σ' H')/\∀ x H',J.yld i H x H'->g x σ H' fun σ2 H2=>tb { D with nx:=N,ct:=N,bk:=D.nx } σ2 H2)
noncomputable def jdQ (fp:List Addr)(h:Heap):List (Addr×Obj):=fp.filterMap fun b=>(h.get? b).map fun o=>(b,o)
theorem jbo {fp:List Addr}{h:Heap}{b:Addr}{o:Obj}(hb:b∈fp)(e:h.get? b=some o):(b,o)∈jdQ fp h:=List.mem_filterMap.mpr ⟨b,hb,by rw [e]; rfl⟩
theorem jgn {fp:List Addr}{h:Heap}{p:Addr×Obj}(hp:p∈jdQ fp h):p.1∈fp/\h.get? p.1=some p.2:=by
 obtain ⟨b,hb,e⟩:=List.mem_filterMap.mp hp
 cases q:h.get? b with
 | none=>rw [q] at e; cases e
 | some o=>
  rw [q] at e
  have e':(b,o)=p:=Option.some.inj e
  subst e'
  exact ⟨hb,q⟩
theorem Inv.pinned {pins:List (Addr×Obj)}{σ:St}{H:Hp}{s:Shared}{fp:List Addr}(I:Inv X pins σ H s)(hf:∀ b∈fp,FpOk X pins H b)(ho:∀ b∈fp,∃ o,s.heap.get? b=some o/\∀ v,o.data≠.cell v):Inv X (pins++jdQ fp s.heap) σ H s:=
 I.pins_of fun p hp=>(List.mem_append.mp hp).elim (fun z=>I.pin p (List.mem_append_right _ z)) fun z=>by
  obtain ⟨hb,e⟩:=jgn z
  obtain ⟨f0,f1,f2,_⟩:=hf p.1 hb
  obtain ⟨o,e',d⟩:=ho p.1 hb
  rw [e] at e'; cases e'
  exact ⟨e,f0,f1,f2,d⟩
theorem Inv.unpinned {pins pl:List (Addr×Obj)}{σ:St}{H:Hp}{s:Shared}(I:Inv X (pins++pl) σ H s):Inv X pins σ H s:=I.pins_of fun p hp=>I.pin p (List.mem_append_right _ (List.mem_append_left _ hp))
theorem jkL {iter:Expr}{body:List Stmt}{wi:TI}{g:TG}{tb:TS}{pos:Pos}(hp:PassesOwn (model X.prog X.w) X.A X.env X.xe)(hc:X.calm=true)(hi:PI X tg iter wi)(hg:PG X tg g)(hb:PSs X body tb)
  (hs:∀ x,foldedSetIterable iter X.env x=pure x:=by intro _; rfl):PS X (.For tg iter body [] pos) (tFor wi g tb):=by
 intro pins s σ H D I h
 refine wpAny_For (thn (hi pins s σ H _ I h) fun v s1 h1=>thn h1 fun itv s2 h2=>?_) hs
 obtain ⟨it,fp,tn,J,H2,e,I2,T,st2,f2,W,⟨m0,w0⟩,turn⟩:=h2
 subst e
 have stat:∀ {H':Hp},(∀ b∈fp,H' b=none)->∀ b∈fp,FpOk X pins H' b:=fun hn b hb=>⟨hn b hb,(f2 b hb).2⟩
 refine codeAny_forLoop_any (fun n s'=>∃ i σ' H',Inv X pins σ' H' s'/\tn i s'.heap/\(∀ b∈fp,H' b=none)/\W i n σ' H') ?_ m0 ⟨0,σ,H2,I2,st2,fun b hb=>(f2 b hb).1,w0⟩
 rintro n s3 ⟨i,σ3,H3,I3,st3,fr3,w3⟩
 rcases turn i n σ3 H3 w3 with ⟨stop,qn⟩ | ⟨go,N,hN,step⟩
 ·refine wpAny_passesOwn hp (thn (T.done X rfl rfl rfl hc i pins s3 σ3 H3 X.xe I3 (stat fr3) st3 stop) fun r s4 ⟨hr,I4⟩=>?_)
  subst hr
  exact wpAny_execs_nil ⟨σ3,H3,I4,qn⟩
 ·refine wpAny_passesOwn hp (thn (T.item X rfl rfl rfl hc i pins s3 σ3 H3 X.xe I3 (stat fr3) st3 go) fun r s4 ⟨u,hr,h4⟩=>?_)
  subst hr
  refine wpAny_passesOwn hp (thn h4 fun _ s5 ⟨x,H5,I5,r5,y5,st5,fr5⟩=>?_)
  have I5':=I5.pinned (stat fr5) (T.obj _ _ st5)
  refine wpAny_passesOwn hp (thn (hg _ s5 σ3 H5 x u _ I5' r5 (step x H5 y5)) fun _ s6 ⟨σ6,H6,I6,q6⟩=>?_)
  refine wpAny_passesOwn hp (thn (hb _ s6 σ6 H6 _ I6 q6) fun f s7 q7=>?_)
  have again:∀ {σ7:St} {H7:Hp},Inv X (pins++jdQ fp s5.heap) σ7 H7 s7->N σ7 H7->∃ m,m < n/\∃ i σ' H',Inv X pins σ' H' s7/\tn i s7.heap/\(∀ b∈fp,H' b=none)/\W i m σ' H':=fun {σ7 H7} I7 n7=>by
   obtain ⟨m',hm,w7⟩:=hN σ7 H7 n7
   refine ⟨m',hm,i + 1,σ7,H7,I7.unpinned,T.keep _ _ _ st5 fun b hb o e=>(I7.pin (b,o) (List.mem_append_right _ (List.mem_append_right _ (jbo hb e)))).1,fun b hb=>?_,w7⟩
   obtain ⟨o,e,d⟩:=T.obj _ _ st5 b hb
   exact (I7.pin (b,o) (List.mem_append_right _ (List.mem_append_right _ (jbo hb e)))).2.1
  cases f with
  | next=>obtain ⟨σ7,H7,I7,n7⟩:=q7; exact again I7 n7
  | cont=>obtain ⟨σ7,H7,I7,n7⟩:=q7; exact again I7 n7
  | brk=>obtain ⟨σ7,H7,I7,q7⟩:=q7; exact ⟨σ7,H7,I7.unpinned,q7⟩
  | ret v=>obtain ⟨x7,σ7,H7,I7,r7,q7⟩:=q7; exact ⟨x7,σ7,H7,I7.unpinned,r7,q7⟩
end


noncomputable abbrev R2:=V->V->Hp->VK->Prop
noncomputable def OpR (X:Cx)(f:Value->Value->Sem Value)(r:R2):Prop:=
 ∀ (pins:List (Addr×Obj)) (s:Shared) (σ:St) (H:Hp) (x y:V) (v u:Value) (Q:VK),Inv X pins σ H s->RelV x v->RelV y u->r x y H Q->
  wpAny (model X.prog X.w) X.A (f v u) (EP X pins σ Q) X.xe s
noncomputable def UnR (X:Cx)(f:Value->Sem Value)(r:V->Hp->VK->Prop):Prop:=
 ∀ (pins:List (Addr×Obj)) (s:Shared) (σ:St) (H:Hp) (x:V) (v:Value) (Q:VK),Inv X pins σ H s->RelV x v->r x H Q->
  wpAny (model X.prog X.w) X.A (f v) (EP X pins σ Q) X.xe s
noncomputable def ja5 (X:Cx)(f:Value)(r:List V->Hp->VK->Prop):Prop:=
 ∀ (pins:List (Addr×Obj)) (s:Shared) (σ:St) (H:Hp) (xs:List V) (us:List Value) (Q:VK),Inv X pins σ H s->Vals xs us->r xs H Q->
  wpAny (model X.prog X.w) X.A (call f us) (EP X pins σ Q) X.xe s
noncomputable def TruR (X:Cx)(r:V->Hp->(Bool->Hp->Prop)->Prop):Prop:=
 ∀ (pins:List (Addr×Obj)) (s:Shared) (σ:St) (H:Hp) (x:V) (v:Value) (Q:Bool->Hp->Prop),Inv X pins σ H s->RelV x v->r x H Q->
  wpAny (model X.prog X.w) X.A (truthy v) (TP X pins σ Q) X.xe s

noncomputable def tOp (r:R2)(ta tb:TE):TE:=fun σ H Q=>ta σ H fun x H1=>tb σ H1 fun y H2=>r x y H2 Q
noncomputable def tUn (r:V->Hp->VK->Prop)(ta:TE):TE:=fun σ H Q=>ta σ H fun x H1=>r x H1 Q
noncomputable def rI (C:Int->Int->Prop)(g:Int->Int->V):R2:=fun x y H Q=>∃ i j,x=.int i/\y=.int j/\C i j/\Q (g i j) H
noncomputable def rI0 (g:Int->Int->V):R2:=fun x y H Q=>∃ i j,x=.int i/\y=.int j/\Q (g i j) H
noncomputable def rU (g:Int->V):V->Hp->VK->Prop:=fun x H Q=>∃ i,x=.int i/\Q (g i) H

section
variable {X:Cx}{a b c:Expr}{ta tb tc:TE}{pos:Pos}

theorem binT (ha:PE X a ta)(hb:PE X b tb){pins:List (Addr×Obj)}{s:Shared}{σ:St}{H:Hp}{R:V->V->Hp->Prop}(I:Inv X pins σ H s)
  (h:ta σ H fun x H1=>tb σ H1 fun y H2=>R x y H2) {Q:Value->Shared->Prop} {f:Value->Value->Sem Value}
  (hf:∀ v u s2 x y H2,Inv X pins σ H2 s2->RelV x v->RelV y u->R x y H2->wpAny (model X.prog X.w) X.A (f v u) Q X.xe s2) :
  wpAny (model X.prog X.w) X.A (eval a X.env) (fun v s₁=>wpAny (model X.prog X.w) X.A (eval b X.env) (fun u s₂=>wpAny (model X.prog X.w) X.A (f v u) Q X.xe s₂) X.xe s₁) X.xe s:=by
 refine thn (ha pins s σ H _ I h) fun v s1 ⟨x,H1,I1,r1,q1⟩=>?_
 refine thn (hb pins s1 σ H1 _ I1 q1) fun u s2 ⟨y,H2,I2,r2,q2⟩=>?_
 exact hf v u s2 x y H2 I2 r1 r2 q2

theorem jm4 {op:Operator}{r:R2}(ho:OpR X (binaryOp op) r)(ha:PE X a ta)(hb:PE X b tb):PE X (.BinOp a op b pos) (tOp r ta tb):=by
 intro pins s σ H Q I h
 exact wpAny_BinOp (binT ha hb I h fun v u s2 x y H2 I2 rx ry q=>ho pins s2 σ H2 x y v u Q I2 rx ry q)
theorem jm3 {op:UnaryOp}{r:V->Hp->VK->Prop}(ho:UnR X (unaryOp op) r)(ha:PE X a ta):PE X (.UnaryOp op a pos) (tUn r ta):=by
 intro pins s σ H Q I h
 exact UnaryOp_ (thn (ha pins s σ H _ I h) fun v s1 ⟨x,H1,I1,r1,q1⟩=>ho pins s1 σ H1 x v Q I1 r1 q1)
theorem opI {f:Value->Value->Sem Value}{C:Int->Int->Prop}{g:Int->Int->Int}
  (rule:∀ (i j:Int) (t u:Tok) (s:Shared) (Q:Value->Shared->Prop) (E:Value->Shared->Prop),C i j->Q (.int (g i j) s.toks) { s with toks:=s.toks + 1 }->wpAny (model X.prog X.w) X.A (f (.int i t) (.int j u)) Q E s) :
  OpR X f (rI C fun i j=>.int (g i j)):=by
 intro pins s σ H x y v u Q I rx ry h
 obtain ⟨i,j,rfl,rfl,hc,q⟩:=h
 obtain ⟨t,rfl⟩:=rx
 obtain ⟨t',rfl⟩:=ry
 exact rule i j t t' s _ _ hc ⟨.int (g i j),H,I.tok _,⟨_,rfl⟩,q⟩
theorem opI0 {f:Value->Value->Sem Value}{g:Int->Int->Int}
  (rule:∀ (i j:Int) (t u:Tok) (s:Shared) (Q:Value->Shared->Prop) (E:Value->Shared->Prop),Q (.int (g i j) s.toks) { s with toks:=s.toks + 1 }->wpAny (model X.prog X.w) X.A (f (.int i t) (.int j u)) Q E s) :
  OpR X f (rI0 fun i j=>.int (g i j)):=by
 intro pins s σ H x y v u Q I rx ry h
 obtain ⟨i,j,rfl,rfl,q⟩:=h
 obtain ⟨t,rfl⟩:=rx
 obtain ⟨t',rfl⟩:=ry
 exact rule i j t t' s _ _ ⟨.int (g i j),H,I.tok _,⟨_,rfl⟩,q⟩
theorem opB0 {f:Value->Value->Sem Value}{g:Int->Int->Bool}
  (rule:∀ (i j:Int) (t u:Tok) (s:Shared) (Q:Value->Shared->Prop) (E:Value->Shared->Prop),Q (.bool (g i j)) s->wpAny (model X.prog X.w) X.A (f (.int i t) (.int j u)) Q E s) :
  OpR X f (rI0 fun i j=>.bl (g i j)):=by
 intro pins s σ H x y v u Q I rx ry h
 obtain ⟨i,j,rfl,rfl,q⟩:=h
 obtain ⟨t,rfl⟩:=rx
 obtain ⟨t',rfl⟩:=ry
 exact rule i j t t' s _ _ ⟨.bl (g i j),H,I,rfl,q⟩

noncomputable def CDiv (i j:Int):Prop:=0 < j/\j < 1073741824
noncomputable def CPow (i j:Int):Prop:=0<=j/\j<=1000000/\i.natAbs < 2 ^ 64
noncomputable def CMul (i j:Int):Prop:=(-(2 ^ 64) < i/\i < 2 ^ 64)\/(-(2 ^ 64) < j/\j < 2 ^ 64)
theorem CMul.ok {i j:Int}(h:CMul i j):IntMulOk i j:=by
 rcases h with ⟨h1,h2⟩ | ⟨h1,h2⟩
 ·exact .of_left (intBits_le_64 h1 h2)
 ·exact .of_right (intBits_le_64 h1 h2)
theorem jli:OpR X (binaryOp .Add) (rI0 fun i j=>.int (i + j)):=opI0 fun _ _ _ _ _ _ _ q=>add_int q
theorem jk7:OpR X (binaryOp .Sub) (rI0 fun i j=>.int (i - j)):=opI0 fun _ _ _ _ _ _ _ q=>sub_int q
theorem jlb:OpR X (binaryOp .Mult) (rI CMul fun i j=>.int (i * j)):=opI fun _ _ _ _ _ _ _ hc q=>mul_int q hc.ok
theorem jjh:OpR X (binaryOp .FloorDiv) (rI CDiv fun i j=>.int (i / j)):=opI fun i j _ _ _ _ _ hc q=>by
 have h1:(0:Int) < j:=hc.1
 have h2:j < 1073741824:=hc.2
 exact floordiv_int (by omega) (by rw [Int.fdiv_eq_ediv_of_nonneg i (by omega)]; exact q) (.inl (PyProof.noPylong_small (by omega)))
theorem jlc:OpR X (binaryOp .Mod) (rI (fun _ j=>0 < j) fun i j=>.int (i % j)):=opI fun i j _ _ _ _ _ hc q=>by
 have h1:(0:Int) < j:=hc
 exact mod_int' (by omega) (by rw [Int.fmod_eq_emod_of_nonneg i (by omega)]; exact q)
theorem jk9:OpR X (binaryOp .Pow) (rI CPow fun i j=>.int (i ^ j.toNat)):=opI fun _ _ _ _ _ _ _ hc q=>pow_int_small hc.1 hc.2.1 hc.2.2 q
theorem jjH:OpR X (inplaceOp .Add) (rI0 fun i j=>.int (i + j)):=opI0 fun _ _ _ _ _ _ _ q=>iadd_int q
theorem jjF:OpR X (inplaceOp .Sub) (rI0 fun i j=>.int (i - j)):=opI0 fun _ _ _ _ _ _ _ q=>isub_int q
theorem jjG:OpR X (inplaceOp .Mult) (rI CMul fun i j=>.int (i * j)):=opI fun _ _ _ _ _ _ _ hc q=>imul_int q hc.ok
theorem unI {f:Value->Sem Value}{g:Int->Int}
  (rule:∀ (i:Int) (t:Tok) (s:Shared) (Q:Value->Shared->Prop) (E:Value->Shared->Prop),Q (.int (g i) s.toks) { s with toks:=s.toks + 1 }->wpAny (model X.prog X.w) X.A (f (.int i t)) Q E s) :
  UnR X f (rU fun i=>.int (g i)):=by
 intro pins s σ H x v Q I rx h
 obtain ⟨i,rfl,q⟩:=h
 obtain ⟨t,rfl⟩:=rx
 exact rule i t s _ _ ⟨.int (g i),H,I.tok _,⟨_,rfl⟩,q⟩
theorem jj4:UnR X (unaryOp .USub) (rU fun i=>.int (-i)):=unI fun _ _ _ _ _ q=>neg_int q
end

noncomputable def scal:V->V->Bool
 | .non,.non=>true | .non,.int _=>true | .int _,.non=>true | .non,.bl _=>true | .bl _,.non=>true | .non,.str _=>true | .str _,.non=>true
 | .int _,.int _=>true | .bl _,.bl _=>true | .str _,.str _=>true | .byt _,.byt _=>true
 | .int _,.str _=>true | .str _,.int _=>true | .bl _,.str _=>true | .str _,.bl _=>true
 | _,_=>false
noncomputable def rEq:R2:=fun x y H Q=>scal x y=true/\Q (.bl (decide (x=y))) H
noncomputable def rNe:R2:=fun x y H Q=>scal x y=true/\Q (.bl (!decide (x=y))) H

theorem jgV {i j:Int}:decide (V.int i=V.int j)=(i == j):=by
 rw [Bool.eq_iff_iff]
 simp
theorem jiu {i j:Bool}:decide (V.bl i=V.bl j)=(i == j):=by
 rw [Bool.eq_iff_iff]
 simp
theorem jgU {i j:Str}:decide (V.str i=V.str j)=(i == j):=by
 rw [Bool.eq_iff_iff]
 simp
theorem jgW {i j:Array UInt8}:decide (V.byt i=V.byt j)=(i.toList == j.toList):=by
 rw [Bool.eq_iff_iff]
 cases i
 cases j
 simp

section
variable {X:Cx}{a b c:Expr}{ta tb tc:TE}{pos:Pos}
theorem jal {pins:List (Addr×Obj)}{σ:St}{H:Hp}{s:Shared}{Q:VK}{k k':Bool}(I:Inv X pins σ H s)(q:Q (.bl k) H)(e:k=k'):EP X pins σ Q (.bool k') s:=by
 subst e
 exact ⟨.bl k,H,I,rfl,q⟩
theorem jnb:OpR X (compareOp .Eq) rEq:=by
 intro pins s σ H x y v u Q I rx ry h
 obtain ⟨hs,q⟩:=h
 cases x with
 | non=>
  cases rx
  cases y with
  | non=>cases ry; exact PySem.EqNone.eq_none_none (jal I q (by simp))
  | bl j=>cases ry; exact PySem.EqNone.eq_none_bool (jal I q (by simp))
  | int j=>obtain ⟨t',rfl⟩:=ry; exact PySem.EqNone.eq_none_int (jal I q (by simp))
  | str j=>obtain ⟨t',rfl⟩:=ry; exact PySem.EqNone.eq_none_str (jal I q (by simp))
  | _=>exact absurd (show false=true from hs) Bool.false_ne_true
 | bl i=>
  cases rx
  cases y with
  | non=>cases ry; exact PySem.EqNone.eq_bool_none (jal I q (by simp))
  | bl j=>cases ry; exact eq_bool (jal I q jiu)
  | str j=>obtain ⟨t',rfl⟩:=ry; exact PySem.EqMixed.eq_bool_str (jal I q (by simp))
  | _=>exact absurd (show false=true from hs) Bool.false_ne_true
 | int i=>
  obtain ⟨t,rfl⟩:=rx
  cases y with
  | non=>cases ry; exact PySem.EqNone.eq_int_none (jal I q (by simp))
  | int j=>obtain ⟨t',rfl⟩:=ry; exact eq_int (jal I q jgV)
  | str j=>obtain ⟨t',rfl⟩:=ry; exact PySem.EqMixed.eq_int_str (jal I q (by simp))
  | _=>exact absurd (show false=true from hs) Bool.false_ne_true
 | str i=>
  obtain ⟨t,rfl⟩:=rx
  cases y with
  | non=>cases ry; exact PySem.EqNone.eq_str_none (jal I q (by simp))
  | bl j=>cases ry; exact PySem.EqMixed.eq_str_bool (jal I q (by simp))
  | int j=>obtain ⟨t',rfl⟩:=ry; exact PySem.EqMixed.eq_str_int (jal I q (by simp))
  | str j=>obtain ⟨t',rfl⟩:=ry; exact eq_str (jal I q jgU)
  | _=>exact absurd (show false=true from hs) Bool.false_ne_true
 | byt i=>
  obtain ⟨t,rfl⟩:=rx
  cases y with
  | byt j=>obtain ⟨t',rfl⟩:=ry; exact PySem.W.eq_bytes (jal I q jgW)
  | _=>exact absurd (show false=true from hs) Bool.false_ne_true
 | _=>cases y <;> exact absurd (show false=true from hs) Bool.false_ne_true
theorem jm8:OpR X (compareOp .NotEq) rNe:=by
 intro pins s σ H x y v u Q I rx ry h
 obtain ⟨hs,q⟩:=h
 cases x with
 | non=>
  cases rx
  cases y with
  | non=>cases ry; exact PySem.EqNone.ne_none_none (jal I q (by simp))
  | bl j=>cases ry; exact PySem.EqNone.ne_none_bool (jal I q (by simp))
  | int j=>obtain ⟨t',rfl⟩:=ry; exact PySem.EqNone.ne_none_int (jal I q (by simp))
  | str j=>obtain ⟨t',rfl⟩:=ry; exact PySem.EqNone.ne_none_str (jal I q (by simp))
  | _=>exact absurd (show false=true from hs) Bool.false_ne_true
 | bl i=>
  cases rx
  cases y with
  | non=>cases ry; exact PySem.EqNone.ne_bool_none (jal I q (by simp))
  | bl j=>cases ry; exact ne_bool (jal I q (congrArg not jiu))
  | str j=>obtain ⟨t',rfl⟩:=ry; exact PySem.EqMixed.ne_bool_str (jal I q (by simp))
  | _=>exact absurd (show false=true from hs) Bool.false_ne_true
 | int i=>
  obtain ⟨t,rfl⟩:=rx
  cases y with
  | non=>cases ry; exact PySem.EqNone.ne_int_none (jal I q (by simp))
  | int j=>obtain ⟨t',rfl⟩:=ry; exact ne_int (jal I q (congrArg not jgV))
  | str j=>obtain ⟨t',rfl⟩:=ry; exact PySem.EqMixed.ne_int_str (jal I q (by simp))
  | _=>exact absurd (show false=true from hs) Bool.false_ne_true
 | str i=>
  obtain ⟨t,rfl⟩:=rx
  cases y with
  | non=>cases ry; exact PySem.EqNone.ne_str_none (jal I q (by simp))
  | bl j=>cases ry; exact PySem.EqMixed.ne_str_bool (jal I q (by simp))
  | int j=>obtain ⟨t',rfl⟩:=ry; exact PySem.EqMixed.ne_str_int (jal I q (by simp))
  | str j=>obtain ⟨t',rfl⟩:=ry; exact ne_str (jal I q (congrArg not jgU))
  | _=>exact absurd (show false=true from hs) Bool.false_ne_true
 | byt i=>
  obtain ⟨t,rfl⟩:=rx
  cases y with
  | byt j=>obtain ⟨t',rfl⟩:=ry; exact PySem.W.ne_bytes (jal I q (congrArg not jgW))
  | _=>exact absurd (show false=true from hs) Bool.false_ne_true
 | _=>cases y <;> exact absurd (show false=true from hs) Bool.false_ne_true

theorem jm9:OpR X (compareOp .Lt) (rI0 fun i j=>.bl (decide (i < j))):=opB0 fun _ _ _ _ _ _ _ q=>lt_int q
theorem jna:OpR X (compareOp .Gt) (rI0 fun i j=>.bl (decide (j < i))):=opB0 fun _ _ _ _ _ _ _ q=>gt_int q
theorem jgh:OpR X (compareOp .In) (fun x y H Q=>∃ i j,x=.str i/\y=.str j/\Q (.bl (!(Builtin.Str.occurrences j i 0 j.length 1).isEmpty)) H):=by
 intro pins s σ H x y v u Q I rx ry h
 obtain ⟨i,j,rfl,rfl,q⟩:=h
 obtain ⟨t,rfl⟩:=rx
 obtain ⟨t',rfl⟩:=ry
 exact in_str (jal I q rfl)

theorem jdS:OpR X (compareOp .NotIn) (fun x y H Q=>∃ i j,x=.str i/\y=.str j/\Q (.bl (!(!(Builtin.Str.occurrences j i 0 j.length 1).isEmpty))) H):=by
 intro pins s σ H x y v u Q I rx ry h
 obtain ⟨i,j,rfl,rfl,q⟩:=h
 obtain ⟨t,rfl⟩:=rx
 obtain ⟨t',rfl⟩:=ry
 exact notIn_str (jal I q rfl)
theorem OpR.or {f:Value->Value->Sem Value}{r r':R2}(h:OpR X f r)(h':OpR X f r'):OpR X f (fun x y H Q=>r x y H Q\/r' x y H Q):=by
 intro pins s σ H x y v u Q I rx ry q
 rcases q with q | q
 ·exact h pins s σ H x y v u Q I rx ry q
 ·exact h' pins s σ H x y v u Q I rx ry q

theorem jja {op:CmpOp}{r:R2}(ho:OpR X (compareOp op) r)(ha:PE X a ta)(hb:PE X b tb)(hm:behindInMarks op b=false):PE X (.Compare a [op] [b] pos) (tOp r ta tb):=by
 intro pins s σ H Q I h
 exact wpAny_Compare1 (binT ha hb I h fun v u s2 x y H2 I2 rx ry q=>ho pins s2 σ H2 x y v u Q I2 rx ry q) hm
noncomputable def jki (t:TE):TT:=fun σ H Q=>t σ H fun x H'=>∃ k,x=.bl k/\Q k H'
theorem jiV {op:CmpOp}{r:R2}(ho:OpR X (compareOp op) r)(ha:PE X a ta)(hb:PE X b tb)(hm:behindInMarks op b=false):PT X (.Compare a [op] [b] pos) (jki (tOp r ta tb)):=by
 intro pins s σ H Q I h
 refine wpAny_isTrue_Compare1 (thn (ha pins s σ H _ I h) fun v s1 ⟨x,H1,I1,r1,q1⟩=>thn (hb pins s1 σ H1 _ I1 q1) fun u s2 ⟨y,H2,I2,r2,q2⟩=>
  thn (ho pins s2 σ H2 x y v u _ I2 r1 r2 q2) fun c s3 ⟨z,H3,I3,r3,k,e,q3⟩=>?_) hm
 subst e
 cases r3
 exact wpAny_truthy_bool ⟨H3,I3,q3⟩
noncomputable def jhZ (r r':R2)(ta tb tc:TE):TE:=fun σ H Q=>ta σ H fun x H1=>tb σ H1 fun y H2=>r x y H2 fun z H3=>∃ k,z=.bl k/\
 (if k=true then tc σ H3 fun w' H4=>r' y w' H4 Q else Q (.bl false) H3)
theorem jht {op op':CmpOp}{r r':R2}(ho:OpR X (compareOp op) r)(ho':OpR X (compareOp op') r')(ha:PE X a ta)(hb:PE X b tb)(hc:PE X c tc)
  (hm:lastMarks [op,op'] [b,c]=false:=by with_unfolding_all rfl):PE X (.Compare a [op,op'] [b,c] pos) (jhZ r r' ta tb tc):=by
 intro pins s σ H Q I h
 refine Compare_chain (thn (ha pins s σ H _ I h) fun v s1 ⟨x,H1,I1,r1,q1⟩=>chain_link (thn (hb pins s1 σ H1 _ I1 q1) fun u s2 ⟨y,H2,I2,r2,q2⟩=>
  thn (ho pins s2 σ H2 x y v u _ I2 r1 r2 q2) fun d s3 ⟨z,H3,I3,r3,k,e,q3⟩=>?_)) hm
 subst e
 cases r3
 refine wpAny_truthy_bool ?_
 cases k with
 | false=>exact ite_ff ⟨.bl false,H3,I3,rfl,q3⟩
 | true=>exact ite_tt (chain_last (thn (hc pins s3 σ H3 _ I3 q3) fun w' s4 ⟨z',H4,I4,r4,q4⟩=>ho' pins s4 σ H4 y z' u w' Q I4 r2 r4 q4))
theorem jhj {op op':CmpOp}{r r':R2}(ho:OpR X (compareOp op) r)(ho':OpR X (compareOp op') r')(ha:PE X a ta)(hb:PE X b tb)(hc:PE X c tc)
  (hm:lastMarks [op,op'] [b,c]=false:=by with_unfolding_all rfl):PT X (.Compare a [op,op'] [b,c] pos) (jki (jhZ r r' ta tb tc)):=by
 intro pins s σ H Q I h
 refine isTrue_chain (thn (ha pins s σ H _ I h) fun v s1 ⟨x,H1,I1,r1,q1⟩=>test_link (thn (hb pins s1 σ H1 _ I1 q1) fun u s2 ⟨y,H2,I2,r2,q2⟩=>
  thn (ho pins s2 σ H2 x y v u _ I2 r1 r2 q2) fun d s3 ⟨z,H3,I3,r3,k,e,q3⟩=>?_)) hm
 subst e
 cases r3
 refine wpAny_truthy_bool ?_
 cases k with
 | false=>
  obtain ⟨k',e',q'⟩:=q3
  cases e'
  exact ite_ff ⟨H3,I3,q'⟩
 | true=>
  refine ite_tt (test_last (thn (hc pins s3 σ H3 _ I3 q3) fun w' s4 ⟨z',H4,I4,r4,q4⟩=>thn (ho' pins s4 σ H4 y z' u w' _ I4 r2 r4 q4) fun d' s5 ⟨z2,H5,I5,r5,k2,e2,q5⟩=>?_))
  subst e2
  cases r5
  exact wpAny_truthy_bool ⟨H5,I5,q5⟩

noncomputable def TruV (K:PySem.W.Frag)(x:V)(H:Hp)(k:Bool):Prop:=
 match x with
 | .non=>k=false
 | .bl b=>k=b
 | .int i=>k=(i != 0)
 | .str y=>y.length<=sizeLine/\k=((y.length:Int) != 0)
 | .byt y=>y.size<=sizeLine/\k=((y.size:Int) != 0)
 | .ref p=>(∃ xs,SqL K H p xs/\k = !xs.isEmpty)\/(∃ xs,SqT K H p xs/\k = !xs.isEmpty)\/∃ kvs,H p=some (.dK kvs)/\k = !kvs.isEmpty
 | _=>False
theorem jfJ {κ:Type}{kvs:List (κ×V)}{vs:List (κ×Value)}(r:KV kvs vs):(!vs.isEmpty) = !kvs.isEmpty:=by
 cases r <;> rfl
theorem jda {xs:List V}{its:List Value}(r:Vals xs its):(!its.toArray.isEmpty) = !xs.isEmpty:=by
 cases r <;> simp
theorem jcD:(sizeLine:Nat) < 2 ^ 63:=by rw [sizeLine_eq]; decide
theorem jeT:TruR X (fun x H Q=>∃ k,TruV X.K x H k/\Q k H):=by
 intro pins s σ H x v Q I rx h
 obtain ⟨k,e,q⟩:=h
 have hl:=jcD
 have hs:sizeLine=16777216:=sizeLine_eq
 cases x with
 | non=>
  cases rx
  have e':k=false:=e
  subst e'
  exact truthy_none ⟨H,I,q⟩
 | bl b=>
  cases rx
  have e':k=b:=e
  subst e'
  exact wpAny_truthy_bool ⟨H,I,q⟩
 | int i=>
  obtain ⟨t,rfl⟩:=rx
  have e':k=(i != 0):=e
  subst e'
  exact PySem.P.truthy_int ⟨H,I,q⟩
 | str y=>
  obtain ⟨t,rfl⟩:=rx
  obtain ⟨hy,e'⟩:y.length<=sizeLine/\k=((y.length:Int) != 0):=e
  subst e'
  exact PySem.P.truthy_str (by omega) ⟨H,I.tok _,q⟩
 | byt y=>
  obtain ⟨t,rfl⟩:=rx
  obtain ⟨hy,e'⟩:y.size<=sizeLine/\k=((y.size:Int) != 0):=e
  subst e'
  exact PySem.W.truthy_bytes (by omega) ⟨H,I.tok _,q⟩
 | ref p=>
  cases rx
  have e':(∃ xs,SqL X.K H p xs/\k = !xs.isEmpty)\/(∃ xs,SqT X.K H p xs/\k = !xs.isEmpty)\/∃ kvs,H p=some (.dK kvs)/\k = !kvs.isEmpty:=e
  rcases e' with ⟨xs,hx,e'⟩ | ⟨xs,hx,e'⟩ | ⟨kvs,hx,e'⟩
  ·subst e'
   obtain ⟨its,r,pl,hz⟩:=I.list hx
   have hlen:=r.length
   exact wpAny_truthy_list pl.isList (by simp only [List.size_toArray]; omega) ⟨H,I.tok _,by rw [jda r]; exact q⟩
  ·subst e'
   obtain ⟨its,r,pl,hz⟩:=I.tuple hx
   have hlen:=r.length
   exact truthy_tuple pl (by simp only [List.size_toArray]; omega) ⟨H,I.tok _,by rw [jda r]; exact q⟩
  ·subst e'
   obtain ⟨hz,hS,vs,r,m⟩:kvs.length<=sizeLine/\(p == sysModules)=false/\∃ vs,KV kvs vs/\s.heap.DictOf (jaq X.prog X.w) p vs:=I.hok p _ hx
   have hlen:kvs.length=vs.length:=Paired.length r
   exact wpAny_truthy_dict hS m (by omega) ⟨H,I.tok _,by rw [jfJ r]; exact q⟩
 | _=>exact (show False from e).elim
theorem jhi (ha:PE X a ta)(he:∀ whole,isTrue a X.env whole=(do let v <- whole; standAt a.pos; holding [v] (truthy v))) :
  PT X a (fun σ H Q=>ta σ H fun x H'=>∃ k,TruV X.K x H' k/\Q k H'):=by
 intro pins s σ H Q I h
 exact isTrue_plain (thn (ha pins s σ H _ I h) fun v s1 ⟨x,H1,I1,r1,q1⟩=>jeT pins s1 σ H1 x v Q I1 r1 q1) (he _)

theorem jfA:OpR X (binaryOp .Add) (fun x y H Q=>∃ i j,x=.str i/\y=.str j/\i.length + j.length<=sizeLine/\Q (.str (i++j)) H):=by
 intro pins s σ H x y v u Q I rx ry h
 obtain ⟨i,j,rfl,rfl,hz,q⟩:=h
 obtain ⟨t,rfl⟩:=rx
 obtain ⟨t',rfl⟩:=ry
 exact add_str (fun t' tk=>⟨.str (i++j),H,I.tok _,⟨_,rfl⟩,q⟩) hz
theorem jeD:OpR X (inplaceOp .Add) (fun x y H Q=>∃ i j,x=.str i/\y=.str j/\i.length + j.length<=sizeLine/\Q (.str (i++j)) H):=by
 intro pins s σ H x y v u Q I rx ry h
 obtain ⟨i,j,rfl,rfl,hz,q⟩:=h
 obtain ⟨t,rfl⟩:=rx
 obtain ⟨t',rfl⟩:=ry
 exact iadd_str (fun t' tk=>⟨.str (i++j),H,I.tok _,⟨_,rfl⟩,q⟩) hz
theorem jcX {x:V}{us:List Value}(r:Vals [x] us):∃ u,us=[u]/\RelV x u:=by
 cases r with
 | cons r1 r2=>cases r2; exact ⟨_,rfl,r1⟩
theorem jmq {x y:V}{us:List Value}(r:Vals [x,y] us):∃ u w',us=[u,w']/\RelV x u/\RelV y w':=by
 cases r with
 | cons r1 r2=>
  cases r2 with
  | cons r3 r4=>cases r4; exact ⟨_,_,rfl,r1,r3⟩
theorem jg1 (hc:X.calm=true):ja5 X (.builtin "min") (fun xs H Q=>∃ i j,xs=[.int i,.int j]/\Q (.int (if j < i then j else i)) H):=by
 intro pins s σ H xs us Q I r h
 obtain ⟨i,j,rfl,q⟩:=h
 obtain ⟨u,w',rfl,⟨t,rfl⟩,⟨t',rfl⟩⟩:=jmq r
 refine min_two_ints (I.ok.hd hc) fun h' tk k=>⟨_,H,I.kept k,?_,q⟩
 by_cases hj:j < i
 ·rw [if_pos hj,if_pos hj]; exact ⟨_,rfl⟩
 ·rw [if_neg hj,if_neg hj]; exact ⟨_,rfl⟩
theorem jg3:ja5 X (.type "int") (fun xs H Q=>(∃ i,xs=[.int i]/\Q (.int i) H)\/∃ k,xs=[.bl k]/\Q (.int (if k then 1 else 0)) H):=by
 intro pins s σ H xs us Q I r h
 rcases h with ⟨i,rfl,q⟩ | ⟨k,rfl,q⟩
 ·obtain ⟨u,rfl,t,rfl⟩:=jcX r
  exact call_int_int ⟨.int i,H,I,⟨_,rfl⟩,q⟩
 ·obtain ⟨u,rfl,r1⟩:=jcX r
  cases r1
  exact call_int_bool ⟨.int (if k then 1 else 0),H,I.tok _,⟨_,rfl⟩,q⟩
noncomputable def LenV (K:PySem.W.Frag)(x:V)(H:Hp)(n:Nat):Prop:=
 match x with
 | .str y=>y.length<=sizeLine/\n=y.length
 | .byt y=>y.size<=sizeLine/\n=y.size
 | .ref p=>(∃ xs,SqL K H p xs/\n=xs.length)\/∃ xs,SqT K H p xs/\n=xs.length
 | _=>False
theorem jhR:ja5 X (.builtin "len") (fun xs H Q=>∃ x n,xs=[x]/\LenV X.K x H n/\Q (.int n) H):=by
 intro pins s σ H xs us Q I r h
 obtain ⟨x,n,rfl,e,q⟩:=h
 obtain ⟨u,rfl,rx⟩:=jcX r
 have hl:=jcD
 have hs:sizeLine=16777216:=sizeLine_eq
 cases x with
 | str y=>
  obtain ⟨t,rfl⟩:=rx
  obtain ⟨hy,e'⟩:y.length<=sizeLine/\n=y.length:=e
  subst e'
  exact len_str (by omega) ⟨.int _,H,I.tok _,⟨_,rfl⟩,q⟩
 | byt y=>
  obtain ⟨t,rfl⟩:=rx
  obtain ⟨hy,e'⟩:y.size<=sizeLine/\n=y.size:=e
  subst e'
  exact PySem.W.len_bytes (by omega) ⟨.int _,H,I.tok _,⟨_,rfl⟩,q⟩
 | ref p=>
  cases rx
  have e':(∃ xs,SqL X.K H p xs/\n=xs.length)\/∃ xs,SqT X.K H p xs/\n=xs.length:=e
  rcases e' with ⟨xs,hx,e'⟩ | ⟨xs,hx,e'⟩
  ·subst e'
   obtain ⟨its,r',pl,hz⟩:=I.list hx
   have hlen:=r'.length
   exact Calls.call_len_list pl.isList (by simp only [List.size_toArray]; omega) ⟨.int xs.length,H,I.tok _,⟨_,by simp only [List.size_toArray]; rw [hlen]⟩,q⟩
  ·subst e'
   obtain ⟨its,r',pl,hz⟩:=I.tuple hx
   have hlen:=r'.length
   exact len_tuple pl (by simp only [List.size_toArray]; omega) ⟨.int xs.length,H,I.tok _,⟨_,by simp only [List.size_toArray]; rw [hlen]⟩,q⟩
 | _=>exact (show False from e).elim
end

structure ObjM (h:Heap)(x dx C:Addr)(mA:Str->Option Value):Prop where
 obj:h.get? x=some (PySem.W.instObj C dx)
 ns:h.Ns1 dx mA
 ne:dx≠x

theorem jgw {h:Heap}{dx:Addr}{mA:Str->Option Value}(n:h.Ns1 dx mA):∃ od,h.get? dx=some od/\∀ name,PySem.W.lookIn name od=some (mA name):=by
 obtain ⟨o,es,ep,ho,hd,hk,_,hm⟩:=n
 refine ⟨o,ho,fun name=>?_⟩
 have e:=hm name
 unfold nsFind findBy at e
 rw [<- Array.find?_toList] at e
 unfold PySem.W.lookIn
 rw [hd]
 dsimp only
 split
 ·rename_i y q
  rw [q] at e
  exact congrArg some e
 ·rename_i q
  rw [q] at e
  have a:es.toList.any (·.refKey)=false:=by
   rw [List.any_eq_false]
   intro y hy
   obtain ⟨z,t,hkey⟩:=hk y (Array.mem_toList_iff.mp hy)
   simp [DictEntry.refKey,hkey]
  have a':¬ es.toList.any (·.refKey)=true:=by rw [a]; exact Bool.false_ne_true
  rw [if_neg a']
  exact congrArg some e

theorem ObjM.look {h:Heap}{x dx C:Addr}{mA:Str->Option Value}(I:ObjM h x dx C mA):∃ od,PySem.W.InstAt h x (PySem.W.instObj C dx) C (some od)/\∀ name,PySem.W.lookIn name od=some (mA name):=
 let ⟨od,ho,hl⟩:=jgw I.ns
 ⟨od,⟨I.obj,rfl,rfl,ho⟩,hl⟩

section
variable {prog:Program}{w:World}{A:Around}{E:Value->Shared->Prop}{s:Shared}{K:PySem.W.Frag}{x dx C f:Addr}{mA:Str->Option Value}{name:Str}{v:Value}

end

theorem RelO.some_of {v:V}{o:Option Value}(r:RelO (some v) o):∃ u,o=some u/\RelV v u:=by
 cases o with
 | none=>exact (show False from r).elim
 | some u=>exact ⟨u,rfl,r⟩
section
variable {P:Program}{w:World}{H H':Hp}{h h':Heap}{a C dx:Addr}{fs fs':List (Str×V)}
theorem jjI (hok:HOk P w H h)(e:H a=some (.ins C dx fs)):∃ mA,ObjM h a dx C mA/\(∀ f,RelO (fs.lookup f) (mA f))/\PySem.Within mA (fs.map (·.1))/\fs.length<=1000/\H dx=some (.own a):=by
 obtain ⟨d,z,ne,ob,mA,n,r,q⟩:=(show jaD P w H h a (.ins C dx fs) from hok a _ e)
 exact ⟨mA,⟨ob,n,ne⟩,r,q,z,d⟩
end

structure Cls (K:PySem.W.Frag)(C:Addr):Prop where
 pg:PySem.W.plainGet K C Str.empty=true
 hd:PySem.W.hasDictIn K C=true
 po:PySem.W.plainOver K C=true
 sa:PySem.W.findIn K (.ref C) "__setattr__" = some (some (.builtin "object.__setattr__"))
theorem Cls.get {K:PySem.W.Frag}{C:Addr}(c:Cls K C)(f:Str):PySem.W.plainGet K C f=true:=c.pg
structure Con (K:PySem.W.Frag)(C:Addr)(f:Str)(v:V)(u:Value):Prop where
 at_:PySem.W.findIn K (.ref C) f=some (some u)
 rel:RelV v u
 get:PySem.W.specialIn K u "__get__" = some none
 cp:PySem.W.copiedNames.contains f=false
structure Meth (K:PySem.W.Frag)(C:Addr)(m:Str)(f:Addr):Prop where
 at_:PySem.W.findIn K (.ref C) m=some (some (.ref f))
 fn:PySem.W.isFn K (.ref f)=true
 kp:PySem.W.keepIn K (.ref f)=true

section
variable {X:Cx}{pins:List (Addr×Obj)}{σ:St}{H:Hp}{s:Shared}{a C dx:Addr}{fs:List (Str×V)}{f:Str}{v:V}{A:Around}{E:Value->Shared->Prop}

end

section
variable {X:Cx}{o e value:Expr}{f:Str}{pos pos' tpos:Pos}{ta tv:TE}
end

section
variable {X:Cx}{pins:List (Addr×Obj)}{σ:St}{H:Hp}{s:Shared}{A:Around}{E:Value->Shared->Prop}{Q:Value->Shared->Prop}{c:Value}{b:Bool}
inductive TyOf (K : PySem.W.Frag)(H : Hp) : V -> Value -> Prop where
  | non : TyOf K H .non (.type "NoneType")
  | bl (x : Bool) : TyOf K H (.bl x) (.type "bool")
  | int (i : Int) : TyOf K H (.int i) (.type "int")
  | str (x : Str) : TyOf K H (.str x) (.type "str")
  | flt (x : UInt64) : TyOf K H (.flt x) (.type "float")
  | lst {a : Addr} {xs : List V} (e : H a = some (.lst xs)) : TyOf K H (.ref a) (.type "list")
  | frz {a : Addr} {o : Obj} {xs : List V} (e : H a = some (.frz o (.lst xs))) : TyOf K H (.ref a) (.type "list")
  | tup {a : Addr} {xs : List V} (e : H a = some (.tup xs)) : TyOf K H (.ref a) (.type "tuple")
  | dK {a : Addr} {kvs : List (Key × V)} (e : H a = some (.dK kvs)) : TyOf K H (.ref a) (.type "dict")
  | dT {a : Addr} {kvs : List (List Key × V)} (e : H a = some (.dT kvs)) : TyOf K H (.ref a) (.type "dict")
  | ins {a C dx : Addr} {fs : List (Str × V)} (e : H a = some (.ins C dx fs)) (cl : Cls K C) (ha : PySem.W.findIn K (.ref C) "__class__" = some (some (.builtin "object.__class__")))
      (hn : PySem.W.specialIn K (.builtin "object.__class__") "__get__" = some (some (.builtin "getset_descriptor.__get__"))) (htk : PySem.W.takesIn K (.builtin "object.__class__") = some true)
      (hm : PySem.W.mroIn K C (.type "object") = some true) : TyOf K H (.ref a) (.ref C)
theorem jgG {x:V}{u t:Value}(I:Inv X pins σ H s)(rx:RelV x u)(ty:TyOf X.K H x t)(e:PySem.W.kitOne X.K t c=some b)(h:∀ tk,Q (.bool b) { s with toks:=tk }) :
  wpAny (model X.prog X.w) A (call (.builtin "isinstance") [u,c]) Q E s:=by
 cases ty with
 | non=>cases (show u=Value.none from rx); exact PySem.W.kia_one PySem.W.kitx_none I.kIn True.intro e (fun z=>nomatch z) h
 | bl y=>cases (show u=Value.bool y from rx); exact PySem.W.kia_one PySem.W.kitx_bool I.kIn True.intro e (fun z=>nomatch z) h
 | int i=>obtain ⟨t,q⟩:=(show ∃ t,u=Value.int i t from rx); cases q; exact PySem.W.kia_one PySem.W.kitx_int I.kIn True.intro e (fun z=>nomatch z) h
 | str y=>obtain ⟨t,q⟩:=(show ∃ t,u=Value.str y t from rx); cases q; exact PySem.W.kia_one PySem.W.kitx_str I.kIn True.intro e (fun z=>nomatch z) h
 | flt y=>obtain ⟨t,q⟩:=(show ∃ t,u=Value.float y t from rx); cases q; exact PySem.W.kia_one PySem.W.kitx_float I.kIn True.intro e (fun z=>nomatch z) h
 | @lst a xs ea=>
  cases (show u=Value.ref a from rx)
  obtain ⟨_,_,n,_,h1⟩:=(show jaD X.prog X.w H s.heap a (.lst xs) from I.hok a _ ea)
  exact PySem.W.kia_one PySem.W.kitx_list I.kIn ⟨_,h1,rfl⟩ e (fun z=>nomatch z) h
 | @frz a ob xs ea=>
  cases (show u=Value.ref a from rx)
  obtain ⟨_,_,_,n,_,h1⟩:=(show jaD X.prog X.w H s.heap a (.frz ob (.lst xs)) from I.hok a _ ea)
  exact PySem.W.kia_one PySem.W.kitx_list I.kIn ⟨_,h1,rfl⟩ e (fun z=>nomatch z) h
 | @tup a xs ea=>
  cases (show u=Value.ref a from rx)
  obtain ⟨_,_,_,p⟩:=(show jaD X.prog X.w H s.heap a (.tup xs) from I.hok a _ ea)
  obtain ⟨o,h1,h2,_⟩:=p
  exact PySem.W.kia_one PySem.W.kitx_tuple I.kIn ⟨o,h1,h2⟩ e (fun z=>nomatch z) h
 | @dK a kvs ea=>
  cases (show u=Value.ref a from rx)
  obtain ⟨_,_,vs,_,p⟩:=(show jaD X.prog X.w H s.heap a (.dK kvs) from I.hok a _ ea)
  obtain ⟨o,es,ep,h1,h2,_⟩:=p
  exact PySem.W.kia_one PySem.W.kitx_dict I.kIn ⟨o,h1,h2.1⟩ e (fun z=>nomatch z) h
 | @dT a kvs ea=>
  cases (show u=Value.ref a from rx)
  obtain ⟨_,_,xs,_,o,es,ep,h1,h2,_⟩:=(show jaD X.prog X.w H s.heap a (.dT kvs) from I.hok a _ ea)
  exact PySem.W.kia_one PySem.W.kitx_dict I.kIn ⟨o,h1,h2.1⟩ e (fun z=>nomatch z) h
 | @ins a C dx fs ea cl ha hn htk hm=>
  cases (show u=Value.ref a from rx)
  obtain ⟨mA,O,_⟩:=jjI I.hok ea
  obtain ⟨od,J,_⟩:=O.look
  exact PySem.W.kia_one (PySem.W.kitx_own (cl.get _) cl.hd ha hn htk hm) I.kIn J e (fun z=>nomatch z) h
end

structure Room (k:Nat)(A:Around):Prop where
 hd:A.handled=none
 dp:A.depth + k + 20 < recursionLimit
 un:A.units + 8 * k + 200 < cLine
 gd:A.guards=some []
theorem Room.mono {j k:Nat}{A:Around}(r:Room k A)(h:j<=k):Room j A:=⟨r.hd,by have:=r.dp; omega,by have:=r.un; omega,r.gd⟩
theorem Room.deeper {k:Nat}{A:Around}(r:Room (k + 1) A)(env:Env):Room k (A.deeper env):=
 ⟨r.hd,by have:=r.dp; show A.depth + 1 + k + 20 < _; omega,by have:=r.un; show A.units + 3 + 8 * k + 200 < _; omega,r.gd⟩
theorem Room.depth {k:Nat}{A:Around}(r:Room k A):A.depth < recursionLimit:=by have:=r.dp; omega
theorem Room.units {k:Nat}{A:Around}(r:Room k A):A.units + 64 < cLine:=by have:=r.un; omega
theorem Room.units0 {k:Nat}{A:Around}(r:Room k A):A.units < cLine:=by have:=r.un; omega

noncomputable def tNil:TA:=fun _ H Q=>Q [] H
noncomputable def jmR (ta:TE)(tr:TA):TA:=fun σ H Q=>ta σ H fun x H1=>tr σ H1 fun xs H2=>Q (x::xs) H2
section
variable {X:Cx}{e:Expr}{es:List Expr}{te:TE}{t:TA}{pos:Pos}
theorem jkZ:PA X [] tNil:=fun _ _ _ _ H Q I h=>Calls.spliced_nil ⟨[],H,I,.nil,h⟩
theorem jjd (ha:PE X e te)(hr:PA X es t)(hs:starEach (e::es) X.env=(false,eval e X.env)::starEach es X.env:=by rfl):PA X (e::es) (jmR te t):=by
 intro pos pins s σ H Q I h
 rw [hs]
 show wpAny _ _ (spliced ((false,eval e X.env)::backTo pos (starEach es X.env))) _ _ s
 refine Calls.spliced_cons (thn (ha pins s σ H _ I h) fun u s1 ⟨x,H1,I1,r1,q1⟩=>?_)
 exact thn (hr pos pins s1 σ H1 _ I1 q1) fun us s2 ⟨xs,H2,I2,r2,q2⟩=>⟨x::xs,H2,I2,.cons r1 r2,q2⟩

noncomputable def tTup (t:TA):TE:=fun σ H Q=>t σ H fun xs H1=>xs.length<=sizeLine/\∀ p,H1 p=none->Q (.ref p) (upd H1 p (.tup xs))
noncomputable def tLst (t:TA):TE:=fun σ H Q=>t σ H fun xs H1=>xs.length<=sizeLine/\∀ p,H1 p=none->Q (.ref p) (upd H1 p (.lst xs))
theorem jkS {x1}(h:PA X es t):PE X (.Tuple es x1 pos) (tTup t):=by
 intro pins s σ H Q I hq
 refine wpAny_Tuple_spliced (thn (h pos pins s σ H _ I hq) fun us s1 ⟨xs,H1,I1,r,z,q⟩=>⟨by rw [<- r.length]; exact z,?_⟩)
 have hf:H1 s1.heap.objs.size=none:=I1.hok.fresh (Nat.le_refl _)
 refine ⟨.ref s1.heap.objs.size,upd H1 s1.heap.objs.size (.tup xs),I1.laid (t':=s1.toks) (fun b u e=>Heap.get?_push_of_some _ e) (Nat.le_refl _) ?_,rfl,q _ hf⟩
 exact ⟨z,us,r,⟨_,Heap.get?_push_size _ rfl,rfl,_,rfl,rfl⟩⟩
theorem jkW (h:PA X es t):PE X (.List es pos) (tLst t):=by
 intro pins s σ H Q I hq
 refine wpAny_List_spliced (thn (h pos pins s σ H _ I hq) fun us s1 ⟨xs,H1,I1,r,z,q⟩=>⟨by rw [<- r.length]; exact z,?_⟩)
 have hf:H1 s1.heap.objs.size=none:=I1.hok.fresh (Nat.le_refl _)
 refine ⟨.ref s1.heap.objs.size,upd H1 s1.heap.objs.size (.lst xs),I1.laid (t':=s1.toks) (fun b u e=>Heap.get?_push_of_some _ e) (Nat.le_refl _) ?_,rfl,q _ hf⟩
 exact ⟨z,us,0,r,Heap.get?_push_size _ rfl⟩
end

noncomputable abbrev Sp:=List V->Hp->VK->XK->Prop
noncomputable abbrev CXT:=List Env->Hp->Shared->XK->Value->Shared->Prop

structure Env0 (P:Program)(w:World)(K:PySem.W.Frag)(mg:Str->Option Value)(base:Heap)(A:Around)(outer:List Env)(s:Shared)(H:Hp):Prop where
 frames:A.frames=some outer
 mod:Mod K mg base
 bs:∀ b o,base.get? b=some o->s.heap.get? b=some o/\H b=none
 bsz:base.objs.size<=s.heap.objs.size
 funs:s.heap.FunFrames base outer
 frf:∀ b∈frs outer,H b=none
 hok:HOk P w H s.heap
 bare:AllBare s.gens
noncomputable def CE (outer:List Env)(P:Program)(w:World)(H:Hp)(s:Shared)(Q:VK)(u:Value)(s':Shared):Prop:=
 ∃ v H',s'.os=s.os/\AllBare s'.gens/\Un (frs outer) [] H H' s.heap s'.heap/\HOk P w H' s'.heap/\RelV v u/\Q v H'
noncomputable def CR (CX:CXT)(outer:List Env)(P:Program)(w:World)(H:Hp)(s:Shared)(Q:VK)(E:XK)(r:Result)(s':Shared):Prop:=
 match r with
 | .ok (.ret u)=>CE outer P w H s Q u s'
 | .ok _=>False
 | .error e=>CX outer H s E e s'
structure FnOk (P:Program)(w:World)(K:PySem.W.Frag)(mg:Str->Option Value)(base:Heap)(CX:CXT)(k:Nat)(f:Addr)(fd:FuncData)(ps:List Str)(sp:Sp):Prop where
 len:∀ vs H Q E,sp vs H Q E->vs.length=ps.length
 run:∀ (A:Around) (outer:List Env) (s:Shared) (H:Hp) (args:Args) (us:List Value) (vs:List V) (Q:VK) (E:XK),Room k A->Env0 P w K mg base A outer s H->BindsTo s fd args (ps.zip us)->Vals vs us->sp vs H Q E->
  codeAny (model P w) A (.call (.ref f) args) (CR CX outer P w H s Q E) s
section
variable {X:Cx}{pins:List (Addr×Obj)}{σ:St}{H:Hp}{s s':Shared}
theorem Inv.env0 (I:Inv X pins σ H s):Env0 X.prog X.w X.K X.mg X.base X.A X.stack s H:=
 ⟨I.ok.frames,I.ok.mod,I.bs,Nat.le_trans I.ok.bsz I.sz,I.stack,I.stkFree,I.hok,I.bare⟩
theorem Inv.after {Q:VK}{u:Value}(I:Inv X pins σ H s)(h:CE X.stack X.prog X.w H s Q u s'):EP X pins σ Q u s':=by
 obtain ⟨v,H',os,bare,un,hok,r,q⟩:=h
 obtain ⟨hh,g,d,t,os'⟩:=s'
 obtain rfl:os'=s.os:=os
 exact ⟨v,H',I.call (h':=hh) (g':=g) (d':=d) (t':=t) (ch:=[]) un hok bare (fun b z=>absurd z (by simp)),r,q⟩
end

noncomputable def Binds (K:PySem.W.Frag)(fd:FuncData)(ps:List Str)(ds:List Value):Prop:=
 ∀ (s:Shared) (us:List Value),K.In s.heap->(us++ds).length=ps.length->BindsTo s fd ⟨us,[]⟩ (ps.zip (us++ds))
theorem Binds.all {K:PySem.W.Frag}{fd:FuncData}{ps:List Str}(h:∀ us:List Value,us.length=ps.length->bindArgs fd ⟨us,[]⟩=pure (ps.zip us)):Binds K fd ps []:=fun s us _ hl=>by
 rw [List.append_nil] at hl ⊢
 exact .of_eq (h us hl)

section
variable {X:Cx}{CX:CXT}{k:Nat}{f C:Addr}{fd:FuncData}{ps:List Str}{sp:Sp}{dvs:List V}{ds:List Value}{E:XK}{x m:Str}{p pos apos:Pos}{e o:Expr}{es:List Expr}{ta:TE}{t:TA}

structure Mk (K:PySem.W.Frag)(C f:Addr):Prop where
 makes:PySem.W.makesIn K C=true
 init:PySem.W.findIn K (.ref C) "__init__" = some (some (.ref f))
 fn:PySem.W.isFn K (.ref f)=true
 kp:PySem.W.keepIn K (.ref C)=true

end

noncomputable def PK (X:Cx)(kws:List Keyword)(t:TA):Prop:=
 ∀ (pos:Pos) (pins:List (Addr×Obj)) (s:Shared) (σ:St) (H:Hp) (Q:List V->Hp->Prop),Inv X pins σ H s->t σ H Q->wpAny (model X.prog X.w) X.A (evalAll ((backToKw pos (keywordEach kws X.env)).map (·.2))) (AP X pins σ Q) X.xe s
section
variable {X:Cx}{CX:CXT}{k:Nat}{f C:Addr}{fd:FuncData}{ps ks:List Str}{sp:Sp}{E:XK}{x m:Str}{p pos apos kpos:Pos}{e o:Expr}{es:List Expr}{kws:List Keyword}{te ta:TE}{t tk:TA}{nm:Option Str}
theorem pk_nil:PK X [] tNil:=fun _ _ _ _ H Q I h=>wpAny_evalAll_nil ⟨[],H,I,.nil,h⟩
structure KBinds (K:PySem.W.Frag)(fd:FuncData)(ps ks:List Str)(g:List Value->List Value->List Value)(gV:List V->List V->List V):Prop where
 to:∀ (s:Shared) (us ws:List Value),K.In s.heap->(g us ws).length=ps.length->BindsTo s fd ⟨us,ks.zip ws⟩ (ps.zip (g us ws))
 rel:∀ {vs:List V} {us:List Value} {zs:List V} {ws:List Value},Vals vs us->Vals zs ws->Vals (gV vs zs) (g us ws)
variable {g:List Value->List Value->List Value}{gV:List V->List V->List V}
end

structure FnScope (N P:List Str)(sc:Scope):Prop where
 kind:sc.kind=.function
 co:sc.isCoroutine=false
 gen:sc.isGenerator=false
 nd:N.Nodup
 pre:N.take P.length=P
 par:∀ x∈P,sc.names.lookup x=some .local\/sc.names.lookup x=some .cell
 nofree:∀ y∈sc.names,y.2≠.free

theorem jen {kindOf:Str->Option NameKind}{x:Str}:∀ {binds:List (Str×Value)} {m:Str->Option Value},(∀ v,(x,v)∉binds)->bindL kindOf binds m x=m x
 | [],_,_=>rfl
 | (n,v)::r,m,h=>by
  unfold bindL
  rw [jen fun w hw=>h w (List.mem_cons_of_mem _ hw)]
  split
  ·have:x≠n:=by rintro rfl; exact h v List.mem_cons_self
   simp [this]
  ·rfl
theorem jep {kindOf:Str->Option NameKind}{x:Str}:∀ {binds:List (Str×Value)} {m:Str->Option Value},(∀ v,(x,v)∉binds)->bindC kindOf binds m x=m x
 | [],_,_=>rfl
 | (n,v)::r,m,h=>by
  unfold bindC
  rw [jep fun w hw=>h w (List.mem_cons_of_mem _ hw)]
  split
  ·rfl
  ·have:x≠n:=by rintro rfl; exact h v List.mem_cons_self
   simp [this]
theorem jeo {kindOf:Str->Option NameKind}{x:Str}{v:Value}:∀ {P:List Str} {vs:List Value} {i:Nat} {m:Str->Option Value},P.Nodup->P[i]?=some x->vs[i]?=some v->kindOf x=some .local->
  bindL kindOf (P.zip vs) m x=some v
 | [],_,_,_,_,h,_,_=>by simp at h
 | _::_,[],_,_,_,_,h,_=>by simp at h
 | p::P,w::vs,0,m,nd,h1,h2,hk=>by
  simp at h1 h2; subst h1; subst h2
  show bindL kindOf ((p,w)::P.zip vs) m p=_
  unfold bindL
  rw [jen fun v hv=>(List.nodup_cons.mp nd).1 (List.of_mem_zip hv).1,if_pos hk]
  simp
 | p::P,w::vs,i + 1,m,nd,h1,h2,hk=>by
  show bindL kindOf ((p,w)::P.zip vs) m x=_
  unfold bindL
  exact jeo (i:=i) (List.nodup_cons.mp nd).2 (by simpa using h1) (by simpa using h2) hk
theorem jeq {kindOf:Str->Option NameKind}{x:Str}{v:Value}:∀ {P:List Str} {vs:List Value} {i:Nat} {m:Str->Option Value},P.Nodup->P[i]?=some x->vs[i]?=some v->kindOf x≠some .local->
  bindC kindOf (P.zip vs) m x=some v
 | [],_,_,_,_,h,_,_=>by simp at h
 | _::_,[],_,_,_,_,h,_=>by simp at h
 | p::P,w::vs,0,m,nd,h1,h2,hk=>by
  simp at h1 h2; subst h1; subst h2
  show bindC kindOf ((p,w)::P.zip vs) m p=_
  unfold bindC
  rw [jep fun v hv=>(List.nodup_cons.mp nd).1 (List.of_mem_zip hv).1,if_neg hk]
  simp
 | p::P,w::vs,i + 1,m,nd,h1,h2,hk=>by
  show bindC kindOf ((p,w)::P.zip vs) m x=_
  unfold bindC
  exact jeq (i:=i) (List.nodup_cons.mp nd).2 (by simpa using h1) (by simpa using h2) hk

noncomputable def start (N:List Str)(vs:List V):St:=vs.map some++List.replicate (N.length - vs.length) none

noncomputable def cxOf (CX:CXT)(P:Program)(w:World)(K:PySem.W.Frag)(mg:Str->Option Value)(base:Heap)(N:List Str)(qual:Str)(scope:Scope)(f:Addr)(cd:Value)(A:Around)(outer:List Env)(s:Shared)(H:Hp)(E:XK):Cx where
 prog:=P
 w:=w
 K:=K
 mg:=mg
 base:=base
 A:=A.deeper (envOfC qual scope s.heap.objs.size f cd)
 N:=N
 s₀:=s
 H₀:=H
 env:=envOfC qual scope s.heap.objs.size f cd
 outer:=outer
 stack:=envOfC qual scope s.heap.objs.size f cd::outer
 ex:=[]
 calm:=true
 fn:=fun _=>true
 pn:=[]
 xe:=fun e s'=>wpAny (model P w) (A.deeper (envOfC qual scope s.heap.objs.size f cd)) (leaving (envOfC qual scope s.heap.objs.size f cd) e) (fun _ s''=>CX outer H s E e s'') (fun e' s''=>CX outer H s E e' s'') s'

theorem jdB {sc:Scope}{n:Nat}{x:Str}(h:sc.names.lookup x=some .cell):∃ c,(cellsFrom n sc.names []).lookup x=some c:=by
 have q:=PySem.W.cellsFrom_some sc.names n [] (.inl h)
 exact Option.isSome_iff_exists.mp q

theorem jgH {CX : CXT}{P : Program}{w : World}{K : PySem.W.Frag}{mg : Str -> Option Value}{base : Heap}{N ps : List Str}{qual : Str}{scope : Scope}{f : Addr}{cd : Value}{A : Around}{outer : List Env}{s s1 : Shared}{H : Hp}{E : XK}{us : List Value}{vs : List V}
    (S : FnScope N ps scope) (hd : A.handled = none) (e0 : Env0 P w K mg base A outer s H) (hl : vs.length = ps.length) (r : Vals vs us)
    (x : InCallC s s.heap.objs.size (bindL (envOfC qual scope s.heap.objs.size f cd).kindOf (ps.zip us) fun _ => none) (cellsFrom (s.heap.objs.size + 1) scope.names []) (bindC (envOfC qual scope s.heap.objs.size f cd).kindOf (ps.zip us) fun _ => none) s1) :
    Inv (cxOf CX P w K mg base N qual scope f cd A outer s H E) [] (start N vs) H s1 := by
  have hpl : ps.length <= N.length := by have := congrArg List.length S.pre; rw [List.length_take] at this; omega
  obtain ⟨h1, tk, rfl, hk⟩ := x.done
  have noA : ∀ b : Addr, b ∉ (cxOf CX P w K mg base N qual scope f cd A outer s H E).ex := fun b z => absurd (show b ∈ ([] : List Addr) from z) (by simp)
  refine ⟨⟨e0.mod, S.kind, rfl, rfl, Nat.le_refl _, fun y z c h1 h2 => ?_, fun y hy => ?_, fun y c _ h => ?_, fun _ => hd, Around.frames_deeper e0.frames, .inr ⟨rfl, rfl⟩, fun b z => absurd z (noA b), e0.bs, e0.bsz, fun b _ _ => noA b, fun b z => absurd z (noA b), e0.funs, e0.frf⟩,
    rfl, e0.bare, Un.kept hk, ⟨_, x.toInCall.ns, fun i y v h1 h2 h3 => ?_⟩, fun y c h => ⟨_, x.cell y c h⟩, e0.hok.fresh (Nat.le_refl _), fun y c h => ?_, fun p hp => absurd (show p ∈ ([] : List (Addr × Obj)) from hp) (by simp), e0.hok.kept hk, ?_⟩
  · exact name_of_addr x.apart (PySem.mem_of_lookup h1) (PySem.mem_of_lookup h2)
  · have hy : scope.names.lookup y = some .cell \/ scope.names.lookup y = some .free := hy
    rcases hy with hy | hy
    · exact jdB hy
    · exact absurd rfl (S.nofree _ (PySem.mem_of_lookup hy))
  · exact Nat.le_of_lt (x.above y c (PySem.mem_of_lookup h))
  · have hi : i < vs.length := by
      unfold start at h2
      by_cases hi : i < vs.length
      · exact hi
      · rw [List.getElem?_append_right (by simpa using hi)] at h2
        rw [List.getElem?_replicate] at h2
        split at h2 <;> cases h2
    have ha : vs[i]? = some v := by
      unfold start at h2
      rw [List.getElem?_append_left (by simpa using hi), List.getElem?_map] at h2
      cases e : vs[i]? with
      | none => rw [e] at h2; cases h2
      | some a => rw [e] at h2; cases h2; rfl
    obtain ⟨u, hu, rv⟩ := r.get ha
    have hp : ps[i]? = some y := by
      rw [<- S.pre, List.getElem?_take_of_lt (by omega)]; exact h1
    have ndP : ps.Nodup := by rw [<- S.pre]; exact S.nd.sublist (List.take_sublist _ _)
    refine ⟨u, rv, ?_⟩
    rcases S.par y (List.mem_of_getElem? hp) with k | k
    · exact .inl ⟨k, jeo ndP hp hu k⟩
    · obtain ⟨c, e⟩ := jdB (n := s.heap.objs.size + 1) k
      refine .inr ⟨.inl k, c, e, ?_⟩
      have q := x.cell y c e
      rw [jeq ndP hp hu (by show scope.names.lookup y ≠ _; rw [k]; decide)] at q
      exact q
  · exact e0.hok.fresh (Nat.le_of_lt (x.above y c (PySem.mem_of_lookup h)))
  · unfold start
    show _ = N.length
    rw [List.length_append, List.length_map, List.length_replicate]
    omega

theorem jnu {CX:CXT}{P:Program}{w:World}{K:PySem.W.Frag}{mg:Str->Option Value}{base:Heap}{k:Nat}{f:Addr}{name qual:Str}{params:Arguments}{body:List Stmt}{scope:Scope}{dV kV doc pm cdv ct oc:Value}{an od:Option Addr}
  {osl:Array (Option Value)} {N ps:List Str} {sp:Sp} (lk:K.lookup f=some ⟨oc,od,.func (PySem.W.fnOf name qual params body scope dV kV doc pm an cdv ct),osl⟩) (hcd:PySem.W.codeIn K cdv qual=true) (S:FnScope N ps scope)
  (len:∀ vs H Q E,sp vs H Q E->vs.length=ps.length)
  (hbody:∀ (A:Around) (outer:List Env) (s:Shared) (H:Hp) (vs:List V) (Q:VK) (E:XK),Room k (A.deeper (envOfC qual scope s.heap.objs.size f cdv))->sp vs H Q E->
   ∃ t,PSs (cxOf CX P w K mg base N qual scope f cdv A outer s H E) body t/\t { nx:=fun _ H'=>Q .non H',rt:=Q } (start N vs) H) :
  FnOk P w K mg base CX (k + 1) f (PySem.W.fnOf name qual params body scope dV kV doc pm an cdv ct) ps sp:=by
 refine ⟨len,fun A outer s H args us vs Q E hr e0 hb r hsp=>?_⟩
 have hl:=len _ _ _ _ hsp
 have KX:K.In s.heap:=e0.mod.kin.keeps fun b o e=>(e0.bs b o e).1
 have lim:s.heap.NoLimit:=e0.mod.nolimit.keeps fun b o e=>(e0.bs b o e).1
 have hkind:∀ y∈ps.zip us,scope.names.lookup y.1=some .local\/(scope.names.lookup y.1=some .cell/\((cellsFrom (s.heap.objs.size + 1) scope.names []).lookup y.1).isSome=true):=fun ⟨n,v⟩ hy=>by
  rcases S.par n (List.of_mem_zip hy).1 with q | q
  ·exact .inl q
  ·exact .inr ⟨q,PySem.W.cellsFrom_some _ _ _ (.inl q)⟩
 refine codeAny_call_function hr.depth (KX _ _ lk) rfl S.co S.gen rfl (PySem.W.codeRec_of KX hcd) (hb _ _ _ _ ?_)
 refine wpAny_newFunctionEnv_cells S.kind hkind fun env he s1 x=>?_
 subst he
 refine ⟨lim.keeps x.toInCall.keep,codeAny_func ?_⟩
 obtain ⟨t,ht,hq⟩:=hbody A outer s H vs Q E (hr.deeper _) hsp
 have I:Inv (cxOf CX P w K mg base N qual scope f cdv A outer s H E) [] (start N vs) H s1:=jgH S hr.hd e0 hl r x
 refine wpAny_mono (ht [] s1 (start N vs) H _ I hq) (fun fl s' hs=>?_) fun e s' hs=>hs
 have fin:∀ {σ':St} {H':Hp} {v:V} {u:Value},Inv (cxOf CX P w K mg base N qual scope f cdv A outer s H E) [] σ' H' s'->RelV v u->Q v H'->CE outer P w H s Q u s':=
  fun {σ' H' v u} J rv q=>⟨v,H',J.os,J.bare,J.base,J.hok,rv,q⟩
 cases fl with
 | ret u=>
  obtain ⟨v,σ',H',J,rv,q⟩:=hs
  exact fin J rv q
 | next=>
  obtain ⟨σ',H',J,q⟩:=hs
  exact fin (v:=V.non) (u:=Value.none) J rfl q
 | brk=>
  obtain ⟨_,_,_,q⟩:=hs
  exact False.elim q
 | cont=>
  obtain ⟨_,_,_,q⟩:=hs
  exact False.elim q
section
variable {X:Cx}{x:Str}{p pos:Pos}{e:Expr}{es:List Expr}{t:TA}{id T:String}{r:List V->Hp->VK->Prop}

noncomputable def tCB (r:List V->Hp->VK->Prop)(t:TA):TE:=fun σ H Q=>t σ H fun vs H1=>r vs H1 Q
theorem jhu (hc:ja5 X (.builtin id) r)(hg:Gl X x)(hm:X.mg x=none)(hv:bootBuiltins x=some (.builtin id))(ha:PA X (e::es) t)(hn:x ≠ "__name__" := by decide)(hdb:(x == ("__debug__" : Str))=false:=by decide)
  (he:starEach (e::es) X.env=(false,eval e X.env)::starEach es X.env:=by rfl) (hpl:(backTo pos (starEach es X.env)).any (·.1)=false:=by rfl):PE X (.Call (.Name x p) (e::es) [] pos) (tCB r t):=by
 intro pins s σ H Q I h
 refine wpAny_Call_Name_kw (jd6 I hg hm hv ?_ hn hdb)
 exact PyProof.Rows.callWith_builtin1 (thn (ha pos pins s σ H _ I h) fun us s1 ⟨vs,H1,I1,r1,q1⟩=>hc pins s1 σ H1 vs us Q I1 r1 q1) he hpl
theorem jbO (hc:ja5 X (.type T) r)(hg:Gl X x)(hm:X.mg x=none)(hv:bootBuiltins x=some (.type T))(ha:PA X (e::es) t)(hn:x ≠ "__name__" := by decide)(hdb:(x == ("__debug__" : Str))=false:=by decide)
  (he:starEach (e::es) X.env=(false,eval e X.env)::starEach es X.env:=by rfl) (hpl:(backTo pos (starEach es X.env)).any (·.1)=false:=by rfl):PE X (.Call (.Name x p) (e::es) [] pos) (tCB r t):=by
 intro pins s σ H Q I h
 refine wpAny_Call_Name_kw (jd6 I hg hm hv ?_ hn hdb)
 exact PyProof.Rows.callWith_type1 (thn (ha pos pins s σ H _ I h) fun us s1 ⟨vs,H1,I1,r1,q1⟩=>hc pins s1 σ H1 vs us Q I1 r1 q1) he hpl
end
end L2

namespace HT
open PySem PyProof.Rows

noncomputable def lexLt:List Int->List Int->Bool
 | [],[]=>false
 | [],_::_=>true
 | _::_,[]=>false
 | x::xs,y::ys=>if x=y then lexLt xs ys else decide (x < y)
theorem lexLt_cons (x y:Int)(xs ys:List Int):lexLt (x::xs) (y::ys)=if x=y then lexLt xs ys else decide (x < y):=rfl
theorem lexLt_nil_nil:lexLt [] []=false:=rfl
theorem lexLt_nil_cons (y:Int)(ys:List Int):lexLt [] (y::ys)=true:=rfl
theorem lexLt_cons_nil (x:Int)(xs:List Int):lexLt (x::xs) []=false:=rfl

theorem eqAt_int (A:Around)(s:Shared)(a:Int)(t:Tok)(c:Int)(u:Tok):∃ e,SeqAt.EqAt A s (.int a t) (.int c u) e/\(e=true↔a=c):=
 ⟨(a == c),SeqAt.EqAt.int_int a t c u,by simp⟩
theorem rcLt_int (A:Around)(s:Shared)(a:Int)(t:Tok)(c:Int)(u:Tok)(prog:Program)(w:World)(E:Value->Shared->Prop)(Q:Value->Shared->Prop)(h:Q (.bool (decide (a < c))) s) :
  wpAny (model prog w) A (richCompare .Lt (.int a t) (.int c u)) Q E s:=
 (PyProof.Rows.lt_int h:wpAny (model prog w) A (compareOp .Lt (.int a t) (.int c u)) Q E s)

section
open PySem.SeqAt
open PySem.AutoSeq1 (wpAny_loadPart')
open PySem.MeetsSeq PySem.MeetsSeq2 PySem.MeetsSeq3

end

section
variable {prog:Program}{w:World}{A:Around}{E:Value->Shared->Prop}{s:Shared}

theorem cat_tup {t b : Addr}{vs ws : List Value}{Q : Value -> Shared -> Prop}(ht : IsTup s.heap t vs.toArray)(hb : IsTup s.heap b ws.toArray)(hv : vs ≠ [])
    (h1 : ws = [] -> Q (.ref t) s) (h2 : ws ≠ [] -> Q (.ref s.heap.objs.size) { s with heap := s.heap.push { cls := .type "tuple", data := .seq (vs ++ ws).toArray } })
    (hsz : vs.length + ws.length <= sizeLine) : wpAny (model prog w) A (binaryOp .Add (.ref t) (.ref b)) Q E s := by
  obtain ⟨⟨cls, dd, data, sl⟩, ho, hc, n, hd⟩ := id ht
  obtain ⟨⟨cls2, dd2, data2, sl2⟩, ho2, hc2, n2, hd2⟩ := id hb
  simp only at hc hd hc2 hd2
  subst hc hd hc2 hd2
  have e : vs.toArray ++ ws.toArray = (vs ++ ws).toArray := by simp
  by_cases hw : ws = []
  · exact concat_meets ⟨_, ho, rfl⟩ ⟨_, ho2, rfl⟩ noFill_tuple_add seq_tuple_add PySem.F.slot_tuple_add PySem.F.entry_tuple_add (PySem.F.args_tuple_add_2 _ _)
      (tuple_addW1 t b vs.toArray ws.toArray n n2 dd dd2 sl sl2 (by simpa using hv) (by simp [hw])) ⟨ho, ho2, h1 hw⟩
  · refine concat_meets ⟨_, ho, rfl⟩ ⟨_, ho2, rfl⟩ noFill_tuple_add seq_tuple_add PySem.F.slot_tuple_add PySem.F.entry_tuple_add (PySem.F.args_tuple_add_2 _ _)
      (tuple_addW2 t b vs.toArray ws.toArray n n2 dd dd2 sl sl2 (by simpa using hv) (by simpa using hw) (by rw [List.size_toArray, List.size_toArray]; exact hsz)) ⟨ho, ho2, ?_⟩
    rw [e]
    exact h2 hw

noncomputable def sIx (n d:Nat):Option Int->Nat
 | none=>d
 | some v=>if v < 0 then (v + (n:Int)).toNat else min v.toNat n
theorem sIx_none (n d:Nat):sIx n d none=d:=rfl
theorem sIx_nat (n d k:Nat):sIx n d (some (k:Int))=min k n:=by
 show (if (k:Int) < 0 then ((k:Int) + (n:Int)).toNat else min (k:Int).toNat n)=min k n
 rw [if_neg (by omega),Int.toNat_natCast]
theorem jkz (n d:Nat)(hd:d<=n)(o:Option Int):sIx n d o<=n:=by
 cases o with
 | none=>exact hd
 | some v=>
  show (if v < 0 then (v + (n:Int)).toNat else min v.toNat n)<=n
  by_cases hv:v < 0
  ·rw [if_pos hv]; omega
  ·rw [if_neg hv]; exact Nat.min_le_right _ _
theorem jg0 (v:Int)(n d:Nat):(if v < 0 then max (v + (n:Int)) 0 else min v (n:Int))=((sIx n d (some v):Nat):Int):=by
 show (if v < 0 then max (v + (n:Int)) 0 else min v (n:Int))=(((if v < 0 then (v + (n:Int)).toNat else min v.toNat n):Nat):Int)
 by_cases hv:v < 0
 ·simp only [if_pos hv]; omega
 ·simp only [if_neg hv]; omega
theorem jfR (lo hi:Option Int)(n:Nat):Builtin.Slice.sliceAdjust lo hi 1 (n:Int)=(((sIx n 0 lo:Nat):Int),((sIx n n hi:Nat):Int)):=by
 have h1:¬ ((1:Int) < 0):=by omega
 unfold Builtin.Slice.sliceAdjust
 simp only [h1,if_false]
 refine Prod.ext ?_ ?_
 ·cases lo with
  | none=>rfl
  | some v=>exact jg0 v n 0
 ·cases hi with
  | none=>rfl
  | some v=>exact jg0 v n n
theorem jfx (i j:Nat):Builtin.Slice.slicePlaces (i:Int) (j:Int) 1=j - i:=by
 unfold Builtin.Slice.slicePlaces
 have h1:(1:Int) > 0:=by omega
 simp only [h1,if_true,Int.ediv_one]
 split <;> omega
theorem jc4 {v:Value}{o:Option Int}{Q:Option Int->Shared->Prop}(p:IsPart v o)(h:Q o s):wpAny (model prog w) A (Builtin.Slice.slicePartIndex v) Q E s:=by
 cases p with
 | none=>exact slicePart_none h
 | int i t=>exact slicePart_int h
theorem ja4 {sl:Addr}{vl vu:Value}{lo hi:Option Int}{n:Nat}{Q:Int×Int×Nat->Shared->Prop}(hs:s.heap.IsSliceOf sl vl vu .none)(pl:IsPart vl lo)(pu:IsPart vu hi)
  (h:Q (((sIx n 0 lo:Nat):Int),1,sIx n n hi - sIx n 0 lo) s):wpAny (model prog w) A (Builtin.Slice.sliceApplied (.ref sl) (pure (n:Int))) Q E s:=by
 obtain ⟨os,hos,hcs,hds⟩:=id hs
 unfold Builtin.Slice.sliceApplied Builtin.Slice.sliceFields
 refine wpAny_bind (wpAny_bind (wpAny_field hos hds (x:=vl) rfl (wpAny_bind (wpAny_field hos hds (x:=vu) rfl (wpAny_bind (wpAny_field hos hds (x:=.none) rfl (wpAny_pure ?_)))))))
 refine wpAny_bind (slicePart_none ?_)
 show wpAny _ _ (if ((1:Int) == 0)=true then _ else _) _ _ s
 rw [if_neg (by decide)]
 refine wpAny_bind (jc4 pl (wpAny_bind (jc4 pu (wpAny_bind (wpAny_pure ?_)))))
 show wpAny _ _ (match Builtin.Slice.sliceAdjust lo hi 1 (n:Int) with | (lo,hi)=>pure (lo,(1:Int),Builtin.Slice.slicePlaces lo hi 1)) _ _ s
 rw [jfR lo hi n]
 show wpAny _ _ (pure (((sIx n 0 lo:Nat):Int),(1:Int),Builtin.Slice.slicePlaces ((sIx n 0 lo:Nat):Int) ((sIx n n hi:Nat):Int) 1)) _ _ s
 rw [jfx]
 exact wpAny_pure h
theorem jho (xs:Array Value)(i k:Nat):((List.range k).filterMap fun (m:Nat)=>xs[((i:Int) + (m:Int) * 1).toNat]?).toArray=((xs.toList.drop i).take k).toArray:=by
 have e:(fun (m:Nat)=>xs[((i:Int) + (m:Int) * 1).toNat]?)=fun m=>xs[i + m]?:=by
  funext m
  have:((i:Int) + (m:Int) * 1).toNat=i + m:=by omega
  rw [this]
 rw [e]
 have:=pick_run xs i k
 rw [List.filterMap_map] at this
 have e2:((fun x=>xs[x]?) ∘ fun x=>i + x)=fun m=>xs[i + m]?:=rfl
 rw [e2] at this
 rw [this]

theorem getItem_tuple_cut {t sl:Addr}{items:Array Value}{vl vu:Value}{lo hi:Option Int}{Q:Value->Shared->Prop}(ht:IsTup s.heap t items)(hs:s.heap.IsSliceOf sl vl vu .none)(pl:IsPart vl lo)(pu:IsPart vu hi)
  (hw:¬ (sIx items.size 0 lo=0/\sIx items.size items.size hi=items.size))
  (h:Q (.ref s.heap.objs.size) { s with heap:=s.heap.push { cls:=.type "tuple",data:=.seq ((items.toList.drop (sIx items.size 0 lo)).take (sIx items.size items.size hi - sIx items.size 0 lo)).toArray } })
  (hsz:items.size<=sizeLine):wpAny (model prog w) A (getItem (.ref t) (.ref sl)) Q E s:=by
 have htake:sizeOk (.seq ((items.toList.drop (sIx items.size 0 lo)).take (sIx items.size items.size hi - sIx items.size 0 lo)).toArray):=by
  show ((items.toList.drop (sIx items.size 0 lo)).take (sIx items.size items.size hi - sIx items.size 0 lo)).toArray.size<=sizeLine
  rw [List.size_toArray,List.length_take,List.length_drop,Array.length_toList]
  omega
 have hj:sIx items.size items.size hi<=items.size:=jkz _ _ (Nat.le_refl _) hi
 obtain ⟨os,hos,hcs,hds⟩:=id hs
 have hTs:s.TypeIs (.ref sl) "slice" := ⟨os,hos,hcs⟩
 unfold getItem
 try with_reducible refine wpAny_holding ?_
 first | refine wpAny_bind (wpAny_pure ?_) | skip
 refine wpAny_bind (wpAny_sequenceKey ht.typeIs (by decide) ?_)
 refine wpAny_bind (wpAny_callSpecial?_slot (name:=Str.ofString "__getitem__") ht.typeIs PyProof.Rows.slot_tuple_getitem
  (wpAny_call_entry PyProof.Rows.slot_tuple_getitem ht.typeIs entry_tuple_getitem ?_ (args_tuple_getitem _ _)))
 show wpAny _ _ (Builtin.Tuple.tupleItemsOf (.ref t) >>= _) _ _ s
 refine wpAny_bind (tupleItemsOf_ ht ?_)
 refine wpAny_bind (wpAny_typeOf hTs ?_)
 rw [if_pos (by decide)]
 refine wpAny_bind (ja4 hs pl pu ?_)
 have hno:¬ ((((sIx items.size 0 lo:Nat):Int) == 0 && (1:Int) == 1 && (sIx items.size items.size hi - sIx items.size 0 lo) == items.size)=true):=by
  intro q
  rw [Bool.and_eq_true,Bool.and_eq_true] at q
  have q1:((sIx items.size 0 lo:Nat):Int)=0:=eq_of_beq q.1.1
  have q2:sIx items.size items.size hi - sIx items.size 0 lo=items.size:=eq_of_beq q.2
  exact hw ⟨by omega,by omega⟩
 show wpAny _ _ (if (((sIx items.size 0 lo:Nat):Int) == 0 && (1:Int) == 1 && (sIx items.size items.size hi - sIx items.size 0 lo) == items.size)=true then _ else _) _ _ s
 rw [if_neg hno,jho]
 first
  | exact wpAny_bind (m:=Builtin.Tuple.tupleExact _) (wpAny_newObj_type (wpAny_pure ⟨_,rfl,wpAny_pure h⟩) htake)
  | exact wpAny_bind (m:=Builtin.Tuple.tupleExact _) (wpAny_newObj_type (wpAny_bind (wpAny_pure (wpAny_pure ⟨_,rfl,wpAny_pure h⟩))) htake)
  | exact wpAny_bind (wpAny_bind (m:=Builtin.Tuple.tupleExact _) (wpAny_newObj_type (wpAny_pure (wpAny_pure ⟨_,rfl,wpAny_pure h⟩)) htake))
  | exact wpAny_bind (wpAny_bind (m:=Builtin.Tuple.tupleExact _) (wpAny_newObj_type (wpAny_pure ⟨_,rfl,wpAny_pure h⟩) htake))
end
end HT

namespace L2
open PySem PySem.Spec PyProof.Rows

noncomputable abbrev TO:=St->Hp->(Option Int->Hp->Prop)->Prop
noncomputable def PO (X:Cx)(e:Option Expr)(t:TO):Prop:=
 ∀ (pins:List (Addr×Obj)) (s:Shared) (σ:St) (H:Hp) (Q:Option Int->Hp->Prop),Inv X pins σ H s->t σ H Q->
  wpAny (model X.prog X.w) X.A (evalPart e X.env) (fun u s'=>∃ o H',Inv X pins σ H' s'/\IsPart u o/\Q o H') X.xe s
noncomputable def jiH:TO:=fun _ H Q=>Q none H
noncomputable def jmM (t:TE):TO:=fun σ H Q=>t σ H fun x H1=>∃ i,x=.int i/\Q (some i) H1

section
variable {X:Cx}{e:Expr}{te:TE}{lo hi:Option Expr}{tl th:TO}{pos p2:Pos}

theorem ji0:PO X none jiH:=by
 intro pins s σ H Q I h
 rw [evalPart_none]
 exact wpAny_pure ⟨none,H,I,.none,h⟩
theorem jiZ (h:PE X e te):PO X (some e) (jmM te):=by
 intro pins s σ H Q I hw
 rw [evalPart_some]
 refine thn (h pins s σ H _ I hw) fun u s1 ⟨x,H1,I1,r1,q1⟩=>?_
 obtain ⟨i,rfl,q⟩:=q1
 obtain ⟨t,rfl⟩:=r1
 exact ⟨some i,H1,I1,.int i t,q⟩

noncomputable def SlR (X:Cx)(r:V->Option Int->Option Int->Hp->VK->Prop):Prop:=
 ∀ (pins:List (Addr×Obj)) (s:Shared) (σ:St) (H:Hp) (x:V) (v vl vu:Value) (lo hi:Option Int) (sl:Addr) (Q:VK),Inv X pins σ H s->RelV x v->s.heap.IsSliceOf sl vl vu .none->IsPart vl lo->IsPart vu hi->r x lo hi H Q->
  ∃ T id,typeLookup (.type T) "__getitem__" = pure (some (.builtin id))/\s.TypeIs v T/\wpAny (model X.prog X.w) X.A (getItem v (.ref sl)) (EP X pins σ Q) X.xe s
theorem SlR.or {r r':V->Option Int->Option Int->Hp->VK->Prop}(h:SlR X r)(h':SlR X r'):SlR X (fun x lo hi H Q=>r x lo hi H Q\/r' x lo hi H Q):=by
 intro pins s σ H x v vl vu lo hi sl Q I rx hs pl pu q
 rcases q with q | q
 ·exact h pins s σ H x v vl vu lo hi sl Q I rx hs pl pu q
 ·exact h' pins s σ H x v vl vu lo hi sl Q I rx hs pl pu q
noncomputable def tSl (r:V->Option Int->Option Int->Hp->VK->Prop)(te:TE)(tl th:TO):TE:=fun σ H Q=>te σ H fun x H1=>tl σ H1 fun l H2=>th σ H2 fun u H3=>r x l u H3 Q
theorem jhq {r:V->Option Int->Option Int->Hp->VK->Prop}(hr:SlR X r)(he:PE X e te)(hl:PO X lo tl)(hu:PO X hi th):PE X (.Subscript e (.Slice lo hi none p2) pos) (tSl r te tl th):=by
 intro pins s σ H Q I h
 refine Subscript_ (thn (he pins s σ H _ I h) fun v s1 ⟨x,H1,I1,r1,q1⟩=>?_)
 refine wpAny_Slice (thn (hl pins s1 σ H1 _ I1 q1) fun vl s2 ⟨l,H2,I2,pl,q2⟩=>thn (hu pins s2 σ H2 _ I2 q2) fun vu s3 ⟨u,H3,I3,pu,q3⟩=>?_)
 rw [evalPart_none]
 refine wpAny_pure ?_
 have I4:Inv X pins σ H3 { s3 with heap:=s3.heap.push { cls:=.type "slice",data:=.fields #[vl,vu,.none] } }:=I3.kept (t':=s3.toks) fun b ob q=>Heap.get?_push_of_some _ q
 obtain ⟨T,id,hT,ht,hg⟩:=hr pins { s3 with heap:=s3.heap.push { cls:=.type "slice",data:=.fields #[vl,vu,.none] } } σ H3 x v vl vu l u s3.heap.objs.size Q I4 r1 (Heap.IsSliceOf.new ..) pl pu q3
 show wpAny (model X.prog X.w) X.A (subscriptTail e (.Slice lo hi none p2) v (.ref s3.heap.objs.size)) (EP X pins σ Q) X.xe { s3 with heap:=s3.heap.push { cls:=.type "slice",data:=.fields #[vl,vu,.none] } }
 exact tail_any (ops:=[.ref s3.heap.objs.size,v]) ht hT hg (by with_unfolding_all rfl)

noncomputable def cutV (xs:List V)(lo hi:Option Int):List V:=(xs.drop (HT.sIx xs.length 0 lo)).take (HT.sIx xs.length xs.length hi - HT.sIx xs.length 0 lo)
theorem jcT (xs:List V)(lo hi:Option Int):(cutV xs lo hi).length<=xs.length:=by
 unfold cutV
 rw [List.length_take,List.length_drop]
 omega
noncomputable def rSlT (K:PySem.W.Frag):V->Option Int->Option Int->Hp->VK->Prop:=fun x lo hi H Q=>∃ a xs,x=.ref a/\SqT K H a xs/\
 ¬ (HT.sIx xs.length 0 lo=0/\HT.sIx xs.length xs.length hi=xs.length)/\∀ p,H p=none->Q (.ref p) (upd H p (.tup (cutV xs lo hi)))
theorem jko:SlR X (rSlT X.K):=by
 intro pins s σ H x v vl vu lo hi sl Q I rx hs pl pu h
 obtain ⟨a,xs,rfl,hx,hw,q⟩:=h
 cases rx
 obtain ⟨its,r,ht,hz⟩:=I.tuple hx
 have hlen:its.toArray.size=xs.length:=by rw [List.size_toArray]; exact r.length.symm
 refine ⟨"tuple",_,PyProof.Rows.slot_tuple_getitem.lookup,ht.typeIs,?_⟩
 refine HT.getItem_tuple_cut ht hs pl pu (by rw [hlen]; exact hw) ?_ (by rw [hlen]; exact hz)
 rw [hlen]
 refine ⟨.ref s.heap.objs.size,_,I.laid (t':=s.toks) (o:=.tup (cutV xs lo hi)) (fun b ob q=>Heap.get?_push_of_some _ q) (Nat.le_refl _) ?_,rfl,q _ (I.hok.fresh (Nat.le_refl _))⟩
 exact ⟨Nat.le_trans (jcT xs lo hi) hz,_,(r.drop (HT.sIx xs.length 0 lo)).take (HT.sIx xs.length xs.length hi - HT.sIx xs.length 0 lo),TupD.new _ _⟩

noncomputable def jmZ (K:PySem.W.Frag):R2:=fun x y H Q=>∃ a b xs ys,x=.ref a/\y=.ref b/\SqT K H a xs/\SqT K H b ys/\xs≠[]/\xs.length + ys.length<=sizeLine/\
 (ys=[]->Q (.ref a) H)/\(ys≠[]->∀ p,H p=none->Q (.ref p) (upd H p (.tup (xs++ys))))
theorem Vals.nil_iff {xs:List V}{us:List Value}(r:Vals xs us):us=[]↔xs=[]:=by
 cases r with
 | nil=>simp
 | cons _ _=>simp
theorem jji:OpR X (binaryOp .Add) (jmZ X.K):=by
 intro pins s σ H x y v u Q I rx ry h
 obtain ⟨a,b,xs,ys,rfl,rfl,ha,hb,hx,hz,q1,q2⟩:=h
 cases rx
 cases ry
 obtain ⟨its,r1,p1,_⟩:=I.tuple ha
 obtain ⟨its2,r2,p2,_⟩:=I.tuple hb
 refine HT.cat_tup p1 p2 (fun z=>hx (r1.nil_iff.mp z)) (fun z=>⟨.ref a,H,I,rfl,q1 (r2.nil_iff.mp z)⟩) (fun z=>?_) (by rw [<- r1.length,<- r2.length]; exact hz)
 refine ⟨.ref s.heap.objs.size,_,I.laid (t':=s.toks) (o:=.tup (xs++ys)) (fun b ob q=>Heap.get?_push_of_some _ q) (Nat.le_refl _) ?_,rfl,q2 (fun w=>z (r2.nil_iff.mpr w)) _ (I.hok.fresh (Nat.le_refl _))⟩
 exact ⟨by rw [List.length_append]; exact hz,_,r1.append r2,TupD.new _ _⟩
end

noncomputable def ixN (n:Nat)(i:Int):Option Nat:=if 0<=i then (if i < n then some i.toNat else none) else if -(n:Int)<=i then some (i + n).toNat else none
noncomputable def atI {α:Type}(xs:List α)(i:Int):Option α:=(ixN xs.length i).bind fun j=>xs[j]?
theorem jgE {n:Nat}{i:Int}{j:Nat}(h:ixN n i=some j):seqIndex? i n=some j/\j < n/\-(n:Int)<=i/\i < n:=by
 unfold ixN at h
 by_cases h0:0<=i
 ·rw [if_pos h0] at h
  by_cases h1:i < n
  ·rw [if_pos h1] at h
   have e:i.toNat=j:=Option.some.inj h
   exact ⟨by rw [seqIndex_of h0 h1,e],by omega,by omega,h1⟩
  ·rw [if_neg h1] at h; cases h
 ·rw [if_neg h0] at h
  by_cases h1:-(n:Int)<=i
  ·rw [if_pos h1] at h
   have e:(i + n).toNat=j:=Option.some.inj h
   exact ⟨by rw [seqIndex_neg (by omega) h1,e],by omega,h1,by omega⟩
  ·rw [if_neg h1] at h; cases h
theorem jeL {α:Type}{xs:List α}{i:Int}{v:α}(h:atI xs i=some v):∃ j,seqIndex? i xs.length=some j/\xs[j]?=some v/\j < xs.length/\-(xs.length:Int)<=i/\i < xs.length:=by
 unfold atI at h
 cases e:ixN xs.length i with
 | none=>rw [e] at h; cases h
 | some j=>
  rw [e] at h
  obtain ⟨h1,h2,h3,h4⟩:=jgE e
  exact ⟨j,h1,h,h2,h3,h4⟩
theorem jas {α:Type}{xs:List α}{j:Nat}{v:α}(h:xs[j]?=some v):atI xs (j:Int)=some v:=by
 have hj:j < xs.length:=(List.getElem?_eq_some_iff.mp h).1
 have e:ixN xs.length (j:Int)=some j:=by
  unfold ixN
  rw [if_pos (by omega),if_pos (by omega)]; simp
 unfold atI; rw [e]; exact h
noncomputable def jeO (b:Expr):Prop:=∀ o i,subscripted b false o i=operate [o,i] (getItem o i)
noncomputable def IxR (X:Cx)(r:R2):Prop:=
 ∀ (value slice:Expr) (pins:List (Addr×Obj)) (s:Shared) (σ:St) (H:Hp) (x y:V) (v u:Value) (Q:VK),Inv X pins σ H s->RelV x v->RelV y u->r x y H Q->
  subscripted slice false v u=operate [v,u] (getItem v u)->wpAny (model X.prog X.w) X.A (subscriptTail value slice v u) (EP X pins σ Q) X.xe s
noncomputable def MtR (X:Cx)(id:String)(r:V->List V->Hp->VK->Prop):Prop:=
 ∀ (pins:List (Addr×Obj)) (s:Shared) (σ:St) (H:Hp) (x:V) (xs:List V) (v:Value) (us:List Value) (Q:VK),Inv X pins σ H s->RelV x v->Vals xs us->r x xs H Q->
  wpAny (model X.prog X.w) X.A (call (.builtin id) (v::us)) (EP X pins σ Q) X.xe s
section
variable {X:Cx}{a b:Expr}{ta tb:TE}{pos:Pos}
theorem IxR.or {r r':R2}(h:IxR X r)(h':IxR X r'):IxR X (fun x y H Q=>r x y H Q\/r' x y H Q):=by
 intro value slice pins s σ H x y v u Q I rx ry q hs
 rcases q with q | q
 ·exact h value slice pins s σ H x y v u Q I rx ry q hs
 ·exact h' value slice pins s σ H x y v u Q I rx ry q hs
theorem jm6 {r:R2}(hr:IxR X r)(ha:PE X a ta)(hb:PE X b tb)(hs:jeO b):PE X (.Subscript a b pos) (tOp r ta tb):=by
 intro pins s σ H Q I h
 exact Subscript_ (binT ha hb I h fun v u s2 x y H2 I2 rx ry q=>hr a b pins s2 σ H2 x y v u Q I2 rx ry q (hs _ _))

noncomputable def rIxL (K:PySem.W.Frag):R2:=fun x y H Q=>∃ p xs i v,x=.ref p/\y=.int i/\SqL K H p xs/\atI xs i=some v/\Q v H
noncomputable def rIxT (K:PySem.W.Frag):R2:=fun x y H Q=>∃ p xs i v,x=.ref p/\y=.int i/\SqT K H p xs/\atI xs i=some v/\Q v H
noncomputable def rIxS:R2:=fun x y H Q=>∃ z i c,x=.str z/\y=.int i/\z.length<=sizeLine/\atI z.cps.toList i=some c/\Q (.str ⟨#[c]⟩) H
theorem jjB : IxR X (rIxL X.K) := by
  intro value slice pins s σ H x y v u Q I rx ry h hs
  obtain ⟨p, xs, i, z, rfl, rfl, hq, he, q⟩ := h
  cases rx
  obtain ⟨t, rfl⟩ := ry
  obtain ⟨its, r, pl, hz⟩ := I.list hq
  obtain ⟨j, h1, h2, h3, h4, h5⟩ := jeL he
  obtain ⟨w, ew, rw'⟩ := r.get h2
  have hl := r.length
  have hn := jcD
  have fin : EP X pins σ Q w s := ⟨z, H, I, rw', q⟩
  by_cases h0 : 0 <= i
  · have hj : i.toNat = j := by
      rw [seqIndex_of h0 h5] at h1
      exact Option.some.inj h1
    exact item_listR pl.isList h0 (by omega) (by rw [hj]; simpa using ew) fin hs
  · have hj : (i + (its.toArray.size : Int)).toNat = j := by
      rw [seqIndex_neg (by omega) h4] at h1
      rw [List.size_toArray, <- hl]
      exact Option.some.inj h1
    exact subscriptTail_builtinR (x := w) pl.isList.typeIs slot_list_getitem.lookup
      (wpAny_getItem_list_neg (Q := fun r s' => r = w /\ EP X pins σ Q r s') pl.isList (by omega) (by rw [List.size_toArray] <;> omega) (by omega) (by rw [hj]; simpa using ew) ⟨rfl, fin⟩) hs
theorem jlB:IxR X (rIxT X.K):=by
 intro value slice pins s σ H x y v u Q I rx ry h hs
 obtain ⟨p,xs,i,z,rfl,rfl,hq,he,q⟩:=h
 cases rx
 obtain ⟨t,rfl⟩:=ry
 obtain ⟨its,r,pl,hz⟩:=I.tuple hq
 obtain ⟨j,h1,h2,h3,h4,h5⟩:=jeL he
 obtain ⟨w,ew,rw'⟩:=r.get h2
 have hl:=r.length
 have hn:=jcD
 have fin:EP X pins σ Q w s:=⟨z,H,I,rw',q⟩
 exact subscriptTail_builtinR (x:=w) pl.typeIs slot_tuple_getitem.lookup
  (getItem_tuple (j:=j) (Q:=fun r s'=>r=w/\EP X pins σ Q r s') pl (by omega) (by omega) (by rw [List.size_toArray,<- hl]; exact h1) (by simpa using ew) ⟨rfl,fin⟩) hs
theorem jlC:IxR X rIxS:=by
 intro value slice pins s σ H x y v u Q I rx ry h hs
 obtain ⟨z,i,c,rfl,rfl,hz,he,q⟩:=h
 obtain ⟨t,rfl⟩:=rx
 obtain ⟨t',rfl⟩:=ry
 obtain ⟨j,h1,h2,h3,h4,h5⟩:=jeL he
 have hl:z.cps.toList.length=z.length:=by simp [Str.length]
 rw [hl] at h1 h4 h5
 have hn:=jcD
 exact tail_any (typeIs_str s z t) slot_str_getitem.lookup (getItem_str (c:=c) (by
  have e1:decide (i < -(2 ^ 63:Int))=false:=decide_eq_false (by omega)
  have e2:decide (i ≥ 2 ^ 63)=false:=decide_eq_false (by omega)
  rw [e1,e2,Bool.or_false]) (by rw [h1]; simpa using h2) ⟨.str ⟨#[c]⟩,H,I.tok _,⟨_,rfl⟩,q⟩) hs
noncomputable def rIx (K:PySem.W.Frag):R2:=fun x y H Q=>rIxL K x y H Q\/rIxT K x y H Q\/rIxS x y H Q
theorem jlD:IxR X (rIx X.K):=jjB.or (jlB.or jlC)

theorem jfG (its:List Value)(n j:Nat)(u:Value):Obj.mapSeq (·.setIfInBounds j u) { cls:=.type "list",data:=.seq its.toArray n }={ cls:=.type "list",data:=.seq (its.set j u).toArray n }:=by
 simp [Obj.mapSeq]
theorem Inv.lst {pins:List (Addr×Obj)}{σ:St}{H:Hp}{s:Shared}{p:Addr}{xs:List V}(I:Inv X pins σ H s)(h:H p=some (.lst xs)) :
  ∃ (its:List Value) (n:Nat),Vals xs its/\s.heap.get? p=some { cls:=.type "list",data:=.seq its.toArray n }/\xs.length<=sizeLine:=by
 obtain ⟨z,its,n,r,e⟩:=I.hok p _ h
 exact ⟨its,n,r,e,z⟩
theorem Inv.lstUpd {pins:List (Addr×Obj)}{σ:St}{H:Hp}{s:Shared}{p:Addr}{xs ys:List V}{its its':List Value}{n n':Nat}{f:Obj->Obj}(I:Inv X pins σ H s)(h:H p=some (.lst xs))
  (ho:s.heap.get? p=some { cls:=.type "list",data:=.seq its.toArray n }) (hf:f { cls:=.type "list",data:=.seq its.toArray n }={ cls:=.type "list",data:=.seq its'.toArray n' }) (r:Vals ys its') (hz:ys.length<=sizeLine) (t:Nat) :
  Inv X pins σ (upd H p (.lst ys)) { s with heap:=s.heap.update p f,toks:=t }:=by
 have e:(s.heap.update p f).get? p=some { cls:=.type "list",data:=.seq its'.toArray n' }:=by
  rw [Heap.get?_update_self f ho (by rw [hf] <;> rfl),hf]
 refine I.write (x:=p) (e:=p) (by rw [h]; trivial) (.inl rfl) (fun b u hb q=>(Heap.get?_update_other _ _ (Ne.symm hb)).trans q) ⟨_,e⟩ ?_
 exact ⟨hz,its',n',r,e⟩
noncomputable def jkE:V->V->V->Hp->(Hp->Prop)->Prop:=fun o i v H Q=>∃ p xs k j,o=.ref p/\i=.int k/\H p=some (.lst xs)/\ixN xs.length k=some j/\Q (upd H p (.lst (xs.set j v)))
theorem jg9 : PSet X jkE := by
  intro pins s σ H o i v ov iv u Q I ro ri rv h
  obtain ⟨p, xs, k, j, rfl, rfl, hp, hj, q⟩ := h
  cases ro
  obtain ⟨t, rfl⟩ := ri
  obtain ⟨its, n, r, ho, hz⟩ := I.lst hp
  obtain ⟨h1, h2, h3, h4⟩ := jgE hj
  have hl := r.length
  have hn := jcD
  have I' : Inv X pins σ (upd H p (.lst (xs.set j v))) { s with heap := s.heap.update p (Obj.mapSeq (·.setIfInBounds j u)) } :=
    I.lstUpd hp ho (jfG its n j u) (r.set rv j) (by rw [List.length_set]; exact hz) s.toks
  by_cases h0 : 0 <= k
  · have hk : k.toNat = j := by
      rw [seqIndex_of h0 h4] at h1
      exact Option.some.inj h1
    exact PySem.W.ki_setAt ho h0 (by omega) (by rw [List.size_toArray, <- hl]; exact h4) (by rw [hk]; exact ⟨_, I', q⟩)
  · have hk : (k + (its.toArray.size : Int)).toNat = j := by
      rw [seqIndex_neg (by omega) h3] at h1
      rw [List.size_toArray, <- hl]
      exact Option.some.inj h1
    exact PySem.W.ki_setBack ho (by omega) (by rw [List.size_toArray, <- hl]; exact h3) (by omega) (by rw [hk]; exact ⟨_, I', q⟩)

theorem jdN (lo hi:Option Int)(n:Nat):(sliceBounds lo hi none n).1=((HT.sIx n 0 lo:Nat):Int)/\(sliceBounds lo hi none n).2.1=((HT.sIx n n hi:Nat):Int)/\(sliceBounds lo hi none n).2.2=1:=by
 refine ⟨?_,?_,rfl⟩
 ·cases lo with
  | none=>simp [sliceBounds,HT.sIx]
  | some i=>
   simp only [sliceBounds,HT.sIx,Option.getD_none,show (1:Int) > 0 by decide,if_true]
   by_cases h:i < 0
   ·simp only [h,if_true] <;> omega
   ·simp only [h,if_false] <;> omega
 ·cases hi with
  | none=>simp [sliceBounds,HT.sIx]
  | some i=>
   simp only [sliceBounds,HT.sIx,Option.getD_none,show (1:Int) > 0 by decide,if_true]
   by_cases h:i < 0
   ·simp only [h,if_true] <;> omega
   ·simp only [h,if_false] <;> omega
theorem jdn (its:List Value)(lo hi:Option Int):slicePick its.toArray lo hi none=((its.drop (HT.sIx its.length 0 lo)).take (HT.sIx its.length its.length hi - HT.sIx its.length 0 lo)).toArray:=by
 obtain ⟨h1,h2,h3⟩:=jdN lo hi its.toArray.size
 unfold slicePick
 rw [h1,h2,h3]
 simp only [sliceRange_one,pick_run,List.size_toArray] <;> rfl
noncomputable def rSlL (K:PySem.W.Frag):V->Option Int->Option Int->Hp->VK->Prop:=fun x lo hi H Q=>∃ a xs,x=.ref a/\SqL K H a xs/\∀ p,H p=none->Q (.ref p) (upd H p (.lst (cutV xs lo hi)))
theorem jiM:SlR X (rSlL X.K):=by
 intro pins s σ H x v vl vu lo hi sl Q I rx hs pl pu h
 obtain ⟨a,xs,rfl,hx,q⟩:=h
 cases rx
 obtain ⟨its,r,ht,hz⟩:=I.list hx
 have hlen:=r.length
 refine ⟨"list",_,slot_list_getitem.lookup,ht.isList.typeIs,?_⟩
 refine wpAny_getItem_list_slice ht.isList hs pl pu .none (by simp) ?_ (by rw [List.size_toArray] <;> omega)
 rw [jdn,<- hlen]
 refine ⟨.ref s.heap.objs.size,_,I.laid (t':=s.toks) (o:=.lst (cutV xs lo hi)) (fun b ob q=>Heap.get?_push_of_some _ q) (Nat.le_refl _) ?_,rfl,q _ (I.hok.fresh (Nat.le_refl _))⟩
 exact ⟨Nat.le_trans (jcT xs lo hi) hz,_,0,(r.drop (HT.sIx xs.length 0 lo)).take (HT.sIx xs.length xs.length hi - HT.sIx xs.length 0 lo),Heap.get?_push_size _ rfl⟩

noncomputable def jcf:V->Bool
 | .non=>true
 | .bl _=>true
 | .int _=>true
 | .str _=>true
 | _=>false
noncomputable def eqV:V->V->Bool
 | .non,.non=>true
 | .bl a,.bl b=>a == b
 | .bl a,.int b=>(if a then 1 else 0) == b
 | .int a,.bl b=>a == (if b then 1 else 0)
 | .int a,.int b=>a == b
 | .str a,.str b=>a == b
 | _,_=>false
theorem jlN {A:Around}{s:Shared}{y x:V}{u v:Value}(ry:RelV y u)(rx:RelV x v)(fy:jcf y=true)(fx:jcf x=true):SeqAt.EqAt A s u v (eqV y x):=by
 cases y with
 | non=>
  cases ry
  cases x with
  | non=>cases rx; exact SeqAt.EqAt.same _
  | bl b=>cases rx; exact SeqAt.EqAt.none_bool b
  | int b=>obtain ⟨t,rfl⟩:=rx; exact SeqAt.EqAt.none_int b t
  | str b=>obtain ⟨t,rfl⟩:=rx; exact SeqAt.EqAt.none_str b t
  | _=>exact absurd (show false=true from fx) Bool.false_ne_true
 | bl a=>
  cases ry
  cases x with
  | non=>cases rx; exact SeqAt.EqAt.bool_none a
  | bl b=>cases rx; exact SeqAt.EqAt.bool_bool a b
  | int b=>obtain ⟨t,rfl⟩:=rx; exact SeqAt.EqAt.bool_int a b t
  | str b=>obtain ⟨t,rfl⟩:=rx; exact SeqAt.EqAt.bool_str a b t
  | _=>exact absurd (show false=true from fx) Bool.false_ne_true
 | int a=>
  obtain ⟨t',rfl⟩:=ry
  cases x with
  | non=>cases rx; exact SeqAt.EqAt.int_none a t'
  | bl b=>cases rx; exact SeqAt.EqAt.int_bool a t' b
  | int b=>obtain ⟨t,rfl⟩:=rx; exact SeqAt.EqAt.int_int a t' b t
  | str b=>obtain ⟨t,rfl⟩:=rx; exact SeqAt.EqAt.int_str a t' b t
  | _=>exact absurd (show false=true from fx) Bool.false_ne_true
 | str a=>
  obtain ⟨t',rfl⟩:=ry
  cases x with
  | non=>cases rx; exact SeqAt.EqAt.str_none a t'
  | bl b=>cases rx; exact SeqAt.EqAt.str_bool a t' b
  | int b=>obtain ⟨t,rfl⟩:=rx; exact SeqAt.EqAt.str_int a t' b t
  | str b=>obtain ⟨t,rfl⟩:=rx; exact SeqAt.EqAt.str_str a t' b t
  | _=>exact absurd (show false=true from fx) Bool.false_ne_true
 | _=>exact absurd (show false=true from fy) Bool.false_ne_true
noncomputable def eqU (x:V)(u:Value):Bool:=match u with
 | .none=>eqV .non x
 | .bool b=>eqV (.bl b) x
 | .int i _=>eqV (.int i) x
 | .str z _=>eqV (.str z) x
 | _=>false
theorem jir {x y:V}{u:Value}(r:RelV y u)(f:jcf y=true):eqU x u=eqV y x:=by
 cases y with
 | non=>cases r; rfl
 | bl b=>cases r; rfl
 | int i=>obtain ⟨t,rfl⟩:=r; rfl
 | str z=>obtain ⟨t,rfl⟩:=r; rfl
 | _=>exact absurd (show false=true from f) Bool.false_ne_true
theorem jcW {x:V}:∀ {xs:List V} {us:List Value},Vals xs us->xs.all jcf=true->us.any (eqU x)=xs.any fun y=>eqV y x
 | _,_,.nil,_=>rfl
 | y::xs,u::us,.cons r t,f=>by
  rw [List.all_cons,Bool.and_eq_true] at f
  rw [List.any_cons,List.any_cons,jir r f.1,jcW t f.2]
theorem jbR {A:Around}{s:Shared}{x:V}{v:Value}(rx:RelV x v)(fx:jcf x=true):∀ {xs:List V} {us:List Value},Vals xs us->xs.all jcf=true->∀ u∈us,SeqAt.EqAt A s u v (eqU x u)
 | _,_,.nil,_=>fun u hu=>by cases hu
 | y::xs,u::us,.cons r t,f=>fun u' hu=>by
  rw [List.all_cons,Bool.and_eq_true] at f
  rcases List.mem_cons.mp hu with rfl | hu
  ·rw [jir r f.1]; exact jlN r rx f.1 fx
  ·exact jbR rx fx t f.2 u' hu
noncomputable def inV (x:V)(xs:List V):Bool:=xs.any fun y=>eqV y x
noncomputable def rIn (K:PySem.W.Frag)(neg:Bool):R2:=fun x y H Q=>∃ p xs,y=.ref p/\(SqL K H p xs\/SqT K H p xs)/\jcf x=true/\xs.all jcf=true/\Q (.bl (if neg then !inV x xs else inV x xs)) H
theorem jgi:OpR X (compareOp .In) (rIn X.K false):=by
 intro pins s σ H x y v u Q I rx ry h
 obtain ⟨p,xs,rfl,hq,fx,fs,q⟩:=h
 cases ry
 rcases hq with hq | hq
 ·obtain ⟨its,r,pl,hz⟩:=I.list hq
  refine SeqAt.in_listAt (eqU x) pl.isList (fun w hw=>jbR rx fx r fs w (by simpa using hw)) ⟨.bl _,H,I,rfl,?_⟩
  rw [show its.toArray.any (eqU x)=its.any (eqU x) by simp,jcW r fs]
  exact q
 ·obtain ⟨its,r,pl,hz⟩:=I.tuple hq
  refine SeqAt.in_tupleAt (eqU x) pl (fun w hw=>jbR rx fx r fs w (by simpa using hw)) ⟨.bl _,H,I,rfl,?_⟩
  rw [show its.toArray.any (eqU x)=its.any (eqU x) by simp,jcW r fs]
  exact q
theorem jdT:OpR X (compareOp .NotIn) (rIn X.K true):=by
 intro pins s σ H x y v u Q I rx ry h
 obtain ⟨p,xs,rfl,hq,fx,fs,q⟩:=h
 cases ry
 rcases hq with hq | hq
 ·obtain ⟨its,r,pl,hz⟩:=I.list hq
  refine SeqAt.notIn_listAt (eqU x) pl.isList (fun w hw=>jbR rx fx r fs w (by simpa using hw)) ⟨.bl _,H,I,rfl,?_⟩
  rw [show its.toArray.any (eqU x)=its.any (eqU x) by simp,jcW r fs]
  exact q
 ·obtain ⟨its,r,pl,hz⟩:=I.tuple hq
  refine SeqAt.notIn_tupleAt (eqU x) pl (fun w hw=>jbR rx fx r fs w (by simpa using hw)) ⟨.bl _,H,I,rfl,?_⟩
  rw [show its.toArray.any (eqU x)=its.any (eqU x) by simp,jcW r fs]
  exact q
theorem ja5.or {f:Value}{r r':List V->Hp->VK->Prop}(h:ja5 X f r)(h':ja5 X f r'):ja5 X f (fun xs H Q=>r xs H Q\/r' xs H Q):=by
 intro pins s σ H xs us Q I rs q
 rcases q with q | q
 ·exact h pins s σ H xs us Q I rs q
 ·exact h' pins s σ H xs us Q I rs q
theorem jem : ja5 X (.type "list") (fun xs H Q => ∃ p ys, xs = [.ref p] /\ (SqL X.K H p ys \/ SqT X.K H p ys) /\ ∀ l, H l = none -> Q (.ref l) (upd H l (.lst ys))) := by
  intro pins s σ H xs us Q I r h
  obtain ⟨p, ys, rfl, hq, q⟩ := h
  obtain ⟨u, rfl, rx⟩ := jcX r
  cases rx
  have fin : ∀ (its : List Value), Vals ys its -> ys.length <= sizeLine -> ∀ (h' : Heap) (c' : Nat), (∀ b o', s.heap.get? b = some o' -> h'.get? b = some o') ->
      h'.get? s.heap.objs.size = some { cls := .type "list", dict := none, data := .seq its.toArray c', slots := #[] } -> EP X pins σ Q (.ref s.heap.objs.size) { s with heap := h' } := fun its r' hz h' c' kp e =>
    ⟨.ref s.heap.objs.size, _, I.laid (t' := s.toks) kp (Nat.le_refl _) (show jaD X.prog X.w _ h' _ (.lst ys) from ⟨hz, its, c', r', e⟩), rfl, q _ (I.hok.fresh (Nat.le_refl _))⟩
  rcases hq with hq | hq
  · obtain ⟨its, r', pl, hz⟩ := I.list hq
    have hlen := r'.length
    obtain ⟨o, ho, hc, n, hd⟩ := pl.isList
    exact call_list_seq p (.inl rfl) ho hc hd (fun h' c' kp e => fin its r' hz h' c' kp e) (by simp only [List.size_toArray] <;> omega)
  · obtain ⟨its, r', pl, hz⟩ := I.tuple hq
    have hlen := r'.length
    obtain ⟨o, ho, hc, n, hd⟩ := pl
    exact call_list_seq p (.inr rfl) ho hc hd (fun h' c' kp e => fin its r' hz h' c' kp e) (by simp only [List.size_toArray] <;> omega)
theorem jdC:ja5 X (.type "tuple") (fun xs H Q=>∃ p ys,xs=[.ref p]/\((SqL X.K H p ys/\∀ l,H l=none->Q (.ref l) (upd H l (.tup ys)))\/(SqT X.K H p ys/\Q (.ref p) H))):=by
 intro pins s σ H xs us Q I r h
 obtain ⟨p,ys,rfl,h⟩:=h
 obtain ⟨u,rfl,rx⟩:=jcX r
 cases rx
 rcases h with ⟨hq,q⟩ | ⟨hq,q⟩
 ·obtain ⟨its,r',pl,hz⟩:=I.list hq
  have hlen:=r'.length
  refine call_tuple_list pl.isList (fun h' kp=>?_) (by simp only [List.size_toArray] <;> omega)
  have I1:Inv X pins σ H { s with heap:=h' }:=I.kept (t':=s.toks) kp
  have I2:Inv X pins σ (upd H h'.objs.size (.tup ys)) { s with heap:=h'.push { cls:=.type "tuple",data:=.seq its.toArray } }:=
   I1.laid (t':=s.toks) (fun b o e=>Heap.get?_push_of_some _ e) (Nat.le_refl _) (show jaD X.prog X.w _ _ _ (.tup ys) from ⟨hz,its,r',TupD.new _ _⟩)
  exact ⟨.ref h'.objs.size,_,I2,rfl,q _ (I1.hok.fresh (Nat.le_refl _))⟩
 ·obtain ⟨its,r',pl,hz⟩:=I.tuple hq
  exact call_tuple_same pl ⟨.ref p,H,I,rfl,q⟩

noncomputable def tyV (K : PySem.W.Frag)(T : String)(x : V)(H : Hp) : Prop := match x with
  | .str _ => T = "str"
  | .int _ => T = "int"
  | .ref p => (T = "list" /\ ∃ xs, SqL K H p xs) \/ (T = "tuple" /\ ∃ o, K.lookup p = some o /\ o.cls = .type "tuple" /\ o.dict = none) \/
      (T = "dict" /\ ((∃ kvs, H p = some (.dK kvs)) \/ ∃ kvs, H p = some (.dT kvs))) \/ (T = "set" /\ ∃ S n, H p = some (.set S n)) \/ (T = "tuple" /\ ∃ xs, H p = some (.tup xs))
  | _ => False
theorem jhY {pins : List (Addr × Obj)}{σ : St}{H : Hp}{s : Shared}{T : String}{x : V}{v : Value}(I : Inv X pins σ H s)(r : RelV x v)(ty : tyV X.K T x H) :
    s.TypeIs v T /\ ∀ a, v = .ref a -> ∃ ob, s.heap.get? a = some ob /\ ob.dict = none := by
  cases x with
  | str z =>
    obtain ⟨t, rfl⟩ := r
    cases (show T = "str" from ty)
    exact ⟨typeIs_str s z t, fun _ e => nomatch e⟩
  | int i =>
    obtain ⟨t, rfl⟩ := r
    cases (show T = "int" from ty)
    exact ⟨typeIs_int s i t, fun _ e => nomatch e⟩
  | ref p =>
    cases r
    rcases ty with ⟨rfl, xs, hq⟩ | ⟨rfl, o, hk, hc, hd⟩ | ⟨rfl, hk⟩ | ⟨rfl, S, n, hk⟩ | ⟨rfl, xs, hk⟩
    · obtain ⟨its, _, pl, _⟩ := I.list hq
      refine ⟨pl.isList.typeIs, fun a e => ?_⟩
      cases e
      obtain ⟨o, n, e, c, hd, _⟩ := pl
      exact ⟨o, e, hd⟩
    · refine ⟨⟨o, I.kIn p o hk, hc⟩, fun a e => ?_⟩
      cases e
      exact ⟨o, I.kIn _ o hk, hd⟩
    · have z : ∃ o, s.heap.get? p = some o /\ o.ExactDict := by
        rcases hk with ⟨kvs, hk⟩ | ⟨kvs, hk⟩
        · obtain ⟨_, _, _, _, o, _, _, e, ex, _⟩ := I.hok p _ hk
          exact ⟨o, e, ex⟩
        · obtain ⟨_, _, _, _, o, _, _, e, ex, _⟩ := I.hok p _ hk
          exact ⟨o, e, ex⟩
      obtain ⟨o, e, ex⟩ := z
      refine ⟨⟨o, e, ex.1⟩, fun a e2 => ?_⟩
      cases e2
      exact ⟨o, e, ex.2.1⟩
    · obtain ⟨o, _, _, _, e, ex, _⟩ := I.hok p _ hk
      refine ⟨⟨o, e, ex.1⟩, fun a e2 => ?_⟩
      cases e2
      exact ⟨o, e, ex.2.1⟩
    · obtain ⟨_, its, r, o, e, c, n, d, hd⟩ := (show jaD X.prog X.w H s.heap p (.tup xs) from I.hok p _ hk)
      refine ⟨⟨o, e, c⟩, fun a e2 => ?_⟩
      cases e2
      exact ⟨o, e, hd⟩
  | _ => exact False.elim ty
variable {o e:Expr}{es:List Expr}{to:TE}{t:TA}{name:Str}{apos cpos:Pos}{T id:String}{r:V->List V->Hp->VK->Prop}
end

noncomputable def MtM (X:Cx)(id:String)(r:V->List V->Hp->VK->Prop):Prop:=
 ∀ (pins:List (Addr×Obj)) (s:Shared) (σ:St) (H:Hp) (x:V) (xs:List V) (v:Value) (us:List Value) (Q:VK),Inv X pins σ H s->RelV x v->Vals xs us->r x xs H Q->
  wpAny (model X.prog X.w) X.A (call (.builtin id) (v::us)) (EP X pins σ Q) X.xe s

theorem Vals.one:∀ {x:V} {us:List Value},Vals [x] us->∃ u,us=[u]/\RelV x u
 | _,_,.cons r .nil=>⟨_,rfl,r⟩
theorem Vals.two:∀ {x y:V} {us:List Value},Vals [x,y] us->∃ u v,us=[u,v]/\RelV x u/\RelV y v
 | _,_,_,.cons r (.cons q .nil)=>⟨_,_,rfl,r,q⟩
theorem Vals.rep {xs:List V}{us:List Value}(h:Vals xs us):∀ k:Nat,Vals (List.replicate k xs).flatten (List.replicate k us).flatten
 | 0=>.nil
 | k + 1=>by
  rw [List.replicate_succ,List.replicate_succ,List.flatten_cons,List.flatten_cons]
  exact Vals.append h (Vals.rep h k)
theorem jcG (its:List Value):∀ (k:Nat) (acc:List Value),
  List.foldl (fun x1 x2=>x1++x2) acc.toArray (List.replicate k its.toArray)=(acc++(List.replicate k its).flatten).toArray
 | 0,acc=>by simp
 | k + 1,acc=>by
  have e:acc.toArray++its.toArray=(acc++its).toArray:=by simp
  have e2:(acc++its)++(List.replicate k its).flatten=acc++(List.replicate (k + 1) its).flatten:=by
   rw [List.replicate_succ,List.flatten_cons,List.append_assoc]
  rw [<- e2,<- jcG its k (acc++its),<- e,List.replicate_succ,List.foldl_cons]

section
variable {X:Cx}{pins:List (Addr×Obj)}{σ:St}{H:Hp}{s:Shared}{l b:Addr}{xs ys zs:List V}

theorem Inv.lset {its its':List Value}{n:Nat}{f:Array Value->Array Value}{t':Nat}(I:Inv X pins σ H s)(hH:H l=some (.lst xs))
  (e:s.heap.get? l=some { cls:=.type "list",data:=.seq its.toArray n }) (hf:f its.toArray=its'.toArray) (hv:Vals ys its') (hz:ys.length<=sizeLine) :
  Inv X pins σ (upd H l (.lst ys)) { s with heap:=s.heap.update l (Obj.mapSeq f),toks:=t' }:=by
 have q:=PySem.IsL.update e f
 rw [hf] at q
 refine I.write (x:=l) (e:=l) (by rw [hH]; exact trivial) (.inl rfl) (fun b' u hb hu=>(Heap.get?_update_other s.heap (Obj.mapSeq f) (Ne.symm hb)).trans hu) ⟨_,q⟩ ?_
 exact ⟨hz,its',_,hv,q⟩
theorem Inv.lnew {its:List Value}{t':Nat}(I:Inv X pins σ H s)(hv:Vals ys its)(hz:ys.length<=sizeLine) :
  Inv X pins σ (upd H s.heap.objs.size (.lst ys)) { s with heap:=s.heap.push { cls:=.type "list",data:=.seq its.toArray },toks:=t' }:=
 I.laid (fun _ _ q=>Heap.get?_push_of_some _ q) (Nat.le_refl _) ⟨hz,its,0,hv,Heap.get?_push_size _ rfl⟩
theorem Inv.fresh (I:Inv X pins σ H s):H s.heap.objs.size=none:=I.hok.fresh (Nat.le_refl _)
theorem Inv.lstM (I:Inv X pins σ H s)(hH:H l=some (.lst xs)):xs.length<=sizeLine/\∃ (its:List Value) (n:Nat),Vals xs its/\xs.length=its.length/\s.heap.get? l=some { cls:=.type "list",data:=.seq its.toArray n }:=by
 obtain ⟨z,its,n,r,e⟩:=I.hok l _ hH
 exact ⟨z,its,n,r,r.length,e⟩

theorem je4 {n:Nat}(h:n<=sizeLine):Builtin.List.listTooLong n=false:=by
 unfold Builtin.List.listTooLong
 exact decide_eq_false (by omega)
end

section
variable {X:Cx}

noncomputable def jiU:V->List V->Hp->VK->Prop:=fun x vs H Q=>∃ l xs y,x=.ref l/\vs=[y]/\H l=some (.lst xs)/\xs.length < sizeLine/\Q .non (upd H l (.lst (xs++[y])))
theorem jd4:MtM X "list.append" jiU:=by
 intro pins s σ H x vs v us Q I rx rv h
 obtain ⟨l,xs,y,rfl,rfl,hH,hz,q⟩:=h
 cases rx
 obtain ⟨u,rfl,ru⟩:=rv.one
 obtain ⟨z,its,n,r,hl,e⟩:=I.lstM hH
 refine call_meets F.slot_list_append ⟨_,e,rfl⟩ F.entry_list_append (F.args_list_append_2 _ _) (PySem.list_append l its.toArray n u (by rw [List.size_toArray]; omega)) ⟨e,?_⟩
 refine ⟨.non,_,I.lset (its':=its++[u]) hH e (by simp) (r.append (.cons ru .nil)) ?_,rfl,q⟩
 rw [List.length_append,List.length_singleton]
 omega

noncomputable def jiT:V->List V->Hp->VK->Prop:=fun x vs H Q=>∃ l b xs zs,x=.ref l/\vs=[.ref b]/\H l=some (.lst xs)/\H b=some (.lst zs)/\xs.length + zs.length<=sizeLine/\Q .non (upd H l (.lst (xs++zs)))
theorem jgu:MtM X "list.extend" jiT:=by
 intro pins s σ H x vs v us Q I rx rv h
 obtain ⟨l,b,xs,zs,rfl,rfl,hH,hB,hz,q⟩:=h
 cases rx
 obtain ⟨u,rfl,ru⟩:=rv.one
 cases ru
 obtain ⟨z,its,n,r,hl,e⟩:=I.lstM hH
 obtain ⟨z2,its2,n2,r2,hl2,e2⟩:=I.lstM hB
 have hsz:its.toArray.size + its2.toArray.size<=sizeLine:=by rw [List.size_toArray,List.size_toArray]; omega
 have hlong:¬ (!its.toArray.isEmpty && Builtin.List.listTooLong (its.toArray.size + its2.toArray.size))=true:=by
  rw [je4 hsz,Bool.and_false]
  exact Bool.false_ne_true
 refine call_meets F.slot_list_extend ⟨_,e,rfl⟩ F.entry_list_extend (F.args_list_extend_2 _ _)
  (AutoSeq1.list_extend_list_list_0 l its.toArray n b its2.toArray n2 hlong (by rw [List.size_toArray]; omega) (by omega)) ⟨e,e2,?_⟩
 refine ⟨.non,_,I.lset (its':=its++its2) hH e (by simp) (r.append r2) ?_,rfl,q⟩
 rw [List.length_append]
 omega

noncomputable def rCat:R2:=fun x y H Q=>∃ l b xs zs,x=.ref l/\y=.ref b/\H l=some (.lst xs)/\H b=some (.lst zs)/\xs.length + zs.length<=sizeLine/\∀ p,H p=none->Q (.ref p) (upd H p (.lst (xs++zs)))
theorem jlh:OpR X (binaryOp .Add) rCat:=by
 intro pins s σ H x y v u Q I rx ry h
 obtain ⟨l,b,xs,zs,rfl,rfl,hH,hB,hz,q⟩:=h
 cases rx
 cases ry
 obtain ⟨z,its,n,r,hl,e⟩:=I.lstM hH
 obtain ⟨z2,its2,n2,r2,hl2,e2⟩:=I.lstM hB
 refine PySem.P.add_list e e2 ?_ (by rw [List.size_toArray,List.size_toArray]; omega)
 have ea:its.toArray++its2.toArray=(its++its2).toArray:=by simp
 rw [ea]
 exact ⟨.ref _,_,I.lnew (t':=s.toks) (r.append r2) (by rw [List.length_append]; omega),rfl,q _ I.fresh⟩
noncomputable def rRep:R2:=fun x y H Q=>∃ l k xs,x=.ref l/\y=.int k/\H l=some (.lst xs)/\-(2 ^ 63)<=k/\k < 2 ^ 63/\xs.length * k.toNat<=sizeLine/\
 ∀ p,H p=none->Q (.ref p) (upd H p (.lst (List.replicate k.toNat xs).flatten))
theorem jgx {α:Type}(xs:List α)(k:Nat):(List.replicate k xs).flatten.length=k * xs.length:=by
 induction k with
 | zero=>simp
 | succ k ih=>rw [List.replicate_succ,List.flatten_cons,List.length_append,ih,Nat.succ_mul,Nat.add_comm]
theorem jk8:OpR X (binaryOp .Mult) rRep:=by
 intro pins s σ H x y v u Q I rx ry h
 obtain ⟨l,k,xs,rfl,rfl,hH,h1,h2,hz,q⟩:=h
 cases rx
 obtain ⟨t,rfl⟩:=ry
 obtain ⟨z,its,n,r,hl,e⟩:=I.lstM hH
 have hlen:its.toArray.size * k.toNat<=sizeLine:=by rw [List.size_toArray,<- hl]; exact hz
 have hcap:¬ its.toArray.size * k.toNat > (2 ^ 63 - 1) / 8:=by
  have:(sizeLine:Nat)<=(2 ^ 63 - 1) / 8:=by decide
  omega
 have hfit:¬ (!Builtin.List.listFitsIndex k)=true:=by
  rw [fitsIndex_both h1 h2]
  exact Bool.false_ne_true
 have hlong:¬ Builtin.List.listTooLong (its.toArray.size * k.toNat)=true:=by
  rw [je4 hlen]
  exact Bool.false_ne_true
 have hnew:List.foldl (fun x1 x2=>x1++x2) #[] (List.replicate (if its.toArray.isEmpty=true then 0 else k.toNat) its.toArray)=(List.replicate k.toNat its).flatten.toArray:=by
  have f0:∀ m:Nat,List.foldl (fun x1 x2=>x1++x2) #[] (List.replicate m its.toArray)=(List.replicate m its).flatten.toArray:=fun m=>by
   have:=jcG its m []
   rw [List.nil_append] at this
   exact this
  rw [f0]
  cases its with
  | nil=>simp
  | cons a r'=>rw [if_neg (by simp)]
 refine wpAny_binaryOp_repeat_ref (T := "list") (U := "int") (by decide) ⟨_,e,rfl⟩ (fun s'=>typeIs_int s' k t) noFill_list_mul F.fills_int_mul F.slot_int_rmul repeat_list F.slot_int_index.lookup
  (call_meets F.slot_int_rmul (typeIs_int s k t) F.entry_int_rmul (F.args_int_rmul_2 _ _) (int___rmul___int_list k t l its.toArray n)
   ⟨e,rfl,⟨_,e,rfl⟩,call_meets F.slot_list_mul ⟨_,e,rfl⟩ F.entry_list_mul (F.args_list_mul_2 _ _) (AutoListH.list___mul___list_int_3 l its.toArray n k t hfit hcap hlong) ⟨e,?_⟩⟩)
 rw [hnew]
 exact ⟨.ref _,_,I.lnew (t':=s.toks) (r.rep k.toNat) (by rw [jgx,Nat.mul_comm]; exact hz),rfl,q _ I.fresh⟩

end

section
variable {prog:Program}{w:World}{A:Around}{E:Value->Shared->Prop}{s:Shared}
end

section
variable {X:Cx}
end

section
variable {κ:Type}[DecidableEq κ]
noncomputable def valV (kvs:List (κ×V))(k:κ):Option V:=(kvs.find? fun kv=>decide (kv.1=k)).map (·.2)
noncomputable def putK (kvs:List (κ×V))(k:κ)(v:V):List (κ×V):=
 if (kvs.any fun kv=>decide (kv.1=k))=true then kvs.map (fun kv=>if kv.1=k then (kv.1,v) else kv) else kvs++[(k,v)]
noncomputable def joB (kvs:List (κ×V))(k:κ):List (κ×V):=kvs.filter fun kv=>decide (kv.1≠k)

theorem jch {p:κ×V}{r:List (κ×V)}{k:κ}(e:p.1=k):valV (p::r) k=some p.2:=by simp [valV,List.find?_cons,e]
theorem jci {p:κ×V}{r:List (κ×V)}{k:κ}(e:¬ p.1=k):valV (p::r) k=valV r k:=by simp [valV,List.find?_cons,e]
theorem jeQ (k:κ):∀ kvs:List (κ×V),(kvs.any fun kv=>decide (kv.1=k))=(valV kvs k).isSome
 | []=>rfl
 | p::r=>by
  rw [List.any_cons]
  by_cases e:p.1=k
  ·simp only [jch e,decide_eq_true e,Bool.true_or,Option.isSome_some]
  ·rw [jci e,decide_eq_false e,Bool.false_or]; exact jeQ k r
theorem jbB (kvs:List (κ×V))(k:κ)(v:V):(putK kvs k v).length<=kvs.length + 1:=by
 unfold putK
 split
 ·rw [List.length_map]; omega
 ·rw [List.length_append,List.length_cons,List.length_nil]; omega
theorem RelO.isSome_eq {o:Option V}{u:Option Value}(r:RelO o u):o.isSome=u.isSome:=by
 cases o with
 | none=>cases u with
  | none=>rfl
  | some _=>exact (show False from r).elim
 | some _=>cases u with
  | none=>exact (show False from r).elim
  | some _=>rfl
theorem KV.val {kvs:List (κ×V)}{vs:List (κ×Value)}(r:KV kvs vs)(k:κ):RelO (valV kvs k) (valueAt vs k):=by
 unfold KV at r
 induction r with
 | nil=>exact True.intro
 | @cons p q ps qs h t ih=>
  obtain ⟨h1,h2⟩:=h
  by_cases e:p.1=k
  ·have e':q.1=k:=h1.symm.trans e
   have b:valueAt (q::qs) k=some q.2:=by simp [valueAt,List.find?_cons,e']
   rw [jch e,b]; exact h2
  ·have e':¬ q.1=k:=fun z=>e (h1.trans z)
   have b:valueAt (q::qs) k=valueAt qs k:=by simp [valueAt,List.find?_cons,e']
   rw [jci e,b]; exact ih
theorem KV.any {kvs:List (κ×V)}{vs:List (κ×Value)}(r:KV kvs vs)(k:κ):(kvs.any fun kv=>decide (kv.1=k))=vs.any fun kv=>decide (kv.1=k):=by
 unfold KV at r
 induction r with
 | nil=>rfl
 | cons h t ih=>rw [List.any_cons,List.any_cons,ih,h.1]
theorem KV.repl {kvs:List (κ×V)}{vs:List (κ×Value)}(r:KV kvs vs)(k:κ){y:V}{u:Value}(ry:RelV y u) :
  KV (kvs.map fun kv=>if kv.1=k then (kv.1,y) else kv) (vs.map fun kv=>if kv.1=k then (kv.1,u) else kv):=by
 unfold KV at r ⊢
 induction r with
 | nil=>exact .nil
 | @cons p q ps qs h t ih=>
  rw [List.map_cons,List.map_cons]
  refine .cons ?_ ih
  obtain ⟨h1,h2⟩:=h
  by_cases e:p.1=k
  ·rw [if_pos e,if_pos (h1.symm.trans e)]; exact ⟨h1,ry⟩
  ·rw [if_neg e,if_neg (fun z=>e (h1.trans z))]; exact ⟨h1,h2⟩
theorem KV.put {kvs:List (κ×V)}{vs:List (κ×Value)}(r:KV kvs vs)(k:κ){y:V}{u:Value}(ry:RelV y u):KV (putK kvs k y) (stored vs k u):=by
 unfold putK stored
 rw [r.any k]
 by_cases e:(vs.any fun kv=>decide (kv.1=k))=true
 ·rw [if_pos e,if_pos e]; exact r.repl k ry
 ·rw [if_neg e,if_neg e]; exact Paired.snoc r ⟨rfl,ry⟩
theorem KV.length {kvs:List (κ×V)}{vs:List (κ×Value)}(r:KV kvs vs):kvs.length=vs.length:=Paired.length r
end

theorem jfH {P:Program}{w:World}{k:Key}{u:Value}(r:RelV (kV k) u):(jaq P w).is k u=true:=by
 cases k with
 | inl i=>obtain ⟨t,e⟩:=(show ∃ t,u=Value.int i t from r); subst e; exact jez P w i t
 | inr x=>obtain ⟨t,e⟩:=(show ∃ t,u=Value.str x t from r); subst e; exact jey P w x t
theorem jd8 {P:Program}{w:World}:∀ {ks:List Key} {us:List Value},Vals (ks.map kV) us->ItemsAre (jaq P w) ks us
 | [],_,r=>by rw [List.map_nil] at r; cases r; exact .nil
 | k::ks,_,r=>by
  rw [List.map_cons] at r
  cases r with
  | cons h t=>exact .cons (jfH h) (jd8 t)

noncomputable abbrev KT (H:Hp):List (List Key×V)->List (List Key×Addr×Value)->Prop:=Paired fun p q=>p.1=q.1/\H q.2.1=some (.tup (p.1.map kV))/\RelV p.2 q.2.2
theorem KT.val {H:Hp}{kvs:List (List Key×V)}{xs:List (List Key×Addr×Value)}(r:KT H kvs xs)(k:List Key):RelO (valV kvs k) ((atKey xs k).map (·.2)):=by
 induction r with
 | nil=>exact True.intro
 | @cons p q ps qs h t ih=>
  obtain ⟨h1,_,h2⟩:=h
  by_cases e:p.1=k
  ·have e':q.1=k:=h1.symm.trans e
   have b:atKey (q::qs) k=some q.2:=by simp [atKey,List.find?_cons,e']
   rw [jch e,b]; exact h2
  ·have e':¬ q.1=k:=fun z=>e (h1.trans z)
   have b:atKey (q::qs) k=atKey qs k:=by simp [atKey,List.find?_cons,e']
   rw [jci e,b]; exact ih
theorem KT.repl {H:Hp}{kvs:List (List Key×V)}{xs:List (List Key×Addr×Value)}(r:KT H kvs xs)(k:List Key){y:V}{u:Value}(ry:RelV y u) :
  KT H (kvs.map fun kv=>if kv.1=k then (kv.1,y) else kv) (xs.map (putAt k u)):=by
 induction r with
 | nil=>exact .nil
 | @cons p q ps qs h t ih=>
  rw [List.map_cons,List.map_cons]
  refine .cons ?_ ih
  obtain ⟨h1,h2,h3⟩:=h
  unfold putAt
  by_cases e:p.1=k
  ·rw [if_pos e,if_pos (h1.symm.trans e)]; exact ⟨h1,h2,ry⟩
  ·rw [if_neg e,if_neg (fun z=>e (h1.trans z))]; exact ⟨h1,h2,h3⟩
theorem KT.put {H:Hp}{kvs:List (List Key×V)}{xs:List (List Key×Addr×Value)}(r:KT H kvs xs)(k:List Key){b:Addr}{y:V}{u:Value}(hb:H b=some (.tup (k.map kV)))(ry:RelV y u) :
  KT H (putK kvs k y) (storedH xs k b u):=by
 have e:(kvs.any fun kv=>decide (kv.1=k))=(atKey xs k).isSome:=by
  rw [jeQ,(r.val k).isSome_eq,Option.isSome_map]
 unfold putK storedH
 rw [e]
 by_cases q:(atKey xs k).isSome=true
 ·rw [if_pos q,if_pos q]; exact r.repl k ry
 ·rw [if_neg q,if_neg q]; exact Paired.snoc r ⟨rfl,hb,ry⟩
theorem KT.keeps {H H':Hp}{kvs:List (List Key×V)}{xs:List (List Key×Addr×Value)}(r:KT H kvs xs)(ht:∀ b ys,H b=some (.tup ys)->H' b=some (.tup ys)):KT H' kvs xs:=
 Paired.mapP r fun _ _ z=>⟨z.1,ht _ _ z.2.1,z.2.2⟩

section
variable {P:Program}{w:World}{H:Hp}{h:Heap}{a:Addr}
theorem jkD {u:HO}(ok:HOk P w H h)(e:Rd H a u):jaD P w H h a u:=e.ok ok
theorem jfL {kvs:List (Key×V)}(ok:HOk P w H h)(e:Rd H a (.dK kvs)):kvs.length<=sizeLine/\(a == sysModules)=false/\∃ vs,KV kvs vs/\h.DictOf (jaq P w) a vs:=
 show jaD P w H h a (.dK kvs) from jkD ok e
theorem jlS {kvs:List (Key×V)}(ok:HOk P w H h)(e:H a=some (.dK kvs)):kvs.length<=sizeLine/\(a == sysModules)=false/\∃ vs,KV kvs vs/\h.DictOf (jaq P w) a vs:=jfL ok (.inl e)
theorem jd7 {ks:List Key}(ok:HOk P w H h)(e:H a=some (.tup (ks.map kV))):(tupleKind (jaq P w)).is h ks a:=by
 obtain ⟨_,its,r,o,h1,h2,n,h3,_⟩:=(show jaD P w H h a (.tup (ks.map kV)) from ok a _ e)
 exact ⟨o,its.toArray,n,h1,h2,h3,by simpa using jd8 r⟩
theorem jgS {kvs:List (List Key×V)}(ok:HOk P w H h)(e:Rd H a (.dT kvs)):kvs.length<=sizeLine/\(a == sysModules)=false/\
  ∃ xs,KT H kvs xs/\h.DictOfH (tupleKind (jaq P w)) a xs:=by
 obtain ⟨z,y,xs,r,o,es,ep,h1,h2,h3,h4,h5⟩:=(show jaD P w H h a (.dT kvs) from jkD ok e)
 refine ⟨z,y,xs,r,o,es,ep,h1,h2,h3,h4,fun x hx=>?_,h5⟩
 have all:∀ {l:List (List Key×V)} {m:List (List Key×Addr×Value)},KT H l m->∀ x∈m,(tupleKind (jaq P w)).is h x.1 x.2.1:=by
  intro l m q
  induction q with
  | nil=>intro x hx; exact nomatch hx
  | @cons p q ps qs hq t ih=>
   intro x hx
   rcases List.mem_cons.mp hx with e | hx
   ·subst e
    exact jd7 ok (by rw [<- hq.1]; exact hq.2.1)
   ·exact ih x hx
 exact all r x hx
theorem jnv {kvs:List (List Key×V)}(ok:HOk P w H h)(e:H a=some (.dT kvs)):kvs.length<=sizeLine/\(a == sysModules)=false/\
  ∃ xs,KT H kvs xs/\h.DictOfH (tupleKind (jaq P w)) a xs:=jgS ok (.inl e)
end

noncomputable def DGet (H:Hp)(a:Addr)(y:V)(r:Option V):Prop:=
 (∃ kvs k,Rd H a (.dK kvs)/\y=kV k/\r=valV kvs k)\/∃ kvs k b,Rd H a (.dT kvs)/\y=.ref b/\H b=some (.tup (k.map kV))/\r=valV kvs k
noncomputable def DPut (H:Hp)(a:Addr)(y v:V)(H':Hp):Prop:=
 (∃ kvs k,H a=some (.dK kvs)/\y=kV k/\kvs.length < sizeLine/\H'=upd H a (.dK (putK kvs k v)))\/
 ∃ kvs k b,H a=some (.dT kvs)/\y=.ref b/\H b=some (.tup (k.map kV))/\kvs.length < sizeLine/\H'=upd H a (.dT (putK kvs k v))
theorem DGet.k {H:Hp}{a:Addr}{kvs:List (Key×V)}{k:Key}(e:H a=some (.dK kvs)):DGet H a (kV k) (valV kvs k):=.inl ⟨kvs,k,.inl e,rfl,rfl⟩
theorem DGet.t {H:Hp}{a b:Addr}{kvs:List (List Key×V)}{k:List Key}(e:H a=some (.dT kvs))(eb:H b=some (.tup (k.map kV))):DGet H a (.ref b) (valV kvs k):=.inr ⟨kvs,k,b,.inl e,rfl,eb,rfl⟩
theorem DPut.k {H:Hp}{a:Addr}{kvs:List (Key×V)}{k:Key}{v:V}(e:H a=some (.dK kvs))(hl:kvs.length < sizeLine):DPut H a (kV k) v (upd H a (.dK (putK kvs k v))):=.inl ⟨kvs,k,e,rfl,hl,rfl⟩
theorem DPut.t {H:Hp}{a b:Addr}{kvs:List (List Key×V)}{k:List Key}{v:V}(e:H a=some (.dT kvs))(eb:H b=some (.tup (k.map kV)))(hl:kvs.length < sizeLine) :
  DPut H a (.ref b) v (upd H a (.dT (putK kvs k v))):=.inr ⟨kvs,k,b,e,rfl,eb,hl,rfl⟩

section
variable {X:Cx}{pins:List (Addr×Obj)}{σ:St}{H:Hp}{s:Shared}{a:Addr}{y v:V}{u r:Value}{o:Option V}{A:Around}{E:Value->Shared->Prop}

theorem Inv.big (I:Inv X pins σ H s):sysModules < s.heap.objs.size:=by
 have h:mainGlobals < s.heap.objs.size:=(I.mod.glob.keeps I.bk).lt
 exact Nat.lt_trans (by decide) h

theorem jgY {Q:Value->Shared->Prop}(hu:A.units + 1 < cLine)(I:Inv X pins σ H s)(g:DGet H a y (some v))(ry:RelV y u)(h:∀ w' s',Inv X pins σ H s'->RelV v w'->Q w' s') :
  wpAny (model X.prog X.w) A (getItem (.ref a) u) Q E s:=by
 rcases g with ⟨kvs,k,e,ey,l⟩ | ⟨kvs,k,b,e,ey,eb,l⟩
 ·subst ey
  obtain ⟨z,hd,vs,rel,dd⟩:=jfL I.hok e
  obtain ⟨w',hw,rw'⟩:=RelO.some_of (v:=v) (o:=valueAt vs k) (by rw [l]; exact rel.val k)
  exact wpAny_getItem_of (jfH ry) dd.mapOf hw (h w' _ (I.tok _) rw')
 ·subst ey
  cases (show u=Value.ref b from ry)
  obtain ⟨z,hd,xs,rel,dd⟩:=jgS I.hok e
  obtain ⟨w',hw,rw'⟩:=RelO.some_of (v:=v) (o:=(atKey xs k).map (·.2)) (by rw [l]; exact rel.val k)
  obtain ⟨p,hp,hp2⟩:=Option.map_eq_some_iff.mp hw
  refine wpAny_getItem_heap (tupleKind_room_in1 hu) (jd7 I.hok eb) dd hp ?_
  rw [hp2]
  exact h w' _ (I.tok _) rw'
theorem d_in {Q:Value->Shared->Prop}(hu:A.units + 1 < cLine)(I:Inv X pins σ H s)(g:DGet H a y o)(ry:RelV y u)(h:∀ s',Inv X pins σ H s'->Q (.bool o.isSome) s') :
  wpAny (model X.prog X.w) A (compareOp .In u (.ref a)) Q E s:=by
 rcases g with ⟨kvs,k,e,ey,l⟩ | ⟨kvs,k,b,e,ey,eb,l⟩
 ·subst ey
  obtain ⟨z,hd,vs,rel,dd⟩:=jfL I.hok e
  refine wpAny_in_of (jfH ry) hd dd.mapOf ?_
  rw [<- (rel.val k).isSome_eq,<- l]
  exact h _ (I.tok _)
 ·subst ey
  cases (show u=Value.ref b from ry)
  obtain ⟨z,hd,xs,rel,dd⟩:=jgS I.hok e
  refine wpAny_in_heap (tupleKind_room_in1 hu) (jd7 I.hok eb) hd dd ?_
  have q:=(rel.val k).isSome_eq
  rw [Option.isSome_map] at q
  rw [<- q,<- l]
  exact h _ (I.tok _)
theorem jjV {Q:Value->Shared->Prop}(hu:A.units + 1 < cLine)(I:Inv X pins σ H s)(g:DGet H a y o)(ry:RelV y u)(h:∀ s',Inv X pins σ H s'->Q (.bool (!o.isSome)) s') :
  wpAny (model X.prog X.w) A (compareOp .NotIn u (.ref a)) Q E s:=by
 rcases g with ⟨kvs,k,e,ey,l⟩ | ⟨kvs,k,b,e,ey,eb,l⟩
 ·subst ey
  obtain ⟨z,hd,vs,rel,dd⟩:=jfL I.hok e
  refine wpAny_notIn_of (jfH ry) hd dd.mapOf ?_
  rw [<- (rel.val k).isSome_eq,<- l]
  exact h _ (I.tok _)
 ·subst ey
  cases (show u=Value.ref b from ry)
  obtain ⟨z,hd,xs,rel,dd⟩:=jgS I.hok e
  refine wpAny_notIn_heap (tupleKind_room_in1 hu) (jd7 I.hok eb) hd dd ?_
  have q:=(rel.val k).isSome_eq
  rw [Option.isSome_map] at q
  rw [<- q,<- l]
  exact h _ (I.tok _)
theorem jeJ {h':Heap}{t':Nat}{ob:HO}(I:Inv X pins σ H s)(mu:Mut (H a))(hs:Heap.SameBut a s.heap h')(he:∃ q,h'.get? a=some q)(new:jaD X.prog X.w (upd H a ob) h' a ob) :
  Inv X pins σ (upd H a ob) { s with heap:=h',toks:=t' }:=
 I.write (x:=a) (e:=a) mu (.inl rfl) (fun b q hb z=>(hs.2 b hb).trans z) he new
theorem jit {P:Program}{w:World}{H':Hp}{h':Heap}{kvs:List (Key×V)}{vs:List (Key×Value)}(z:kvs.length<=sizeLine)(hd:(a == sysModules)=false)(rel:KV kvs vs)(dd:h'.DictOf (jaq P w) a vs) :
  jaD P w H' h' a (.dK kvs):=⟨z,hd,vs,rel,dd⟩
theorem jgX {H':Hp}{Q:Unit->Shared->Prop}(hu:A.units + 1 < cLine)(I:Inv X pins σ H s)(g:DPut H a y v H')(ry:RelV y u)(rv:RelV v r)(h:∀ s',Inv X pins σ H' s'->Q () s') :
  wpAny (model X.prog X.w) A (setItem (.ref a) u r) Q E s:=by
 rcases g with ⟨kvs,k,e,ey,l,eH⟩ | ⟨kvs,k,b,e,ey,eb,l,eH⟩
 ·subst ey eH
  obtain ⟨z,hd,vs,rel,dd⟩:=jlS I.hok e
  have hz:vs.length<=sizeLine:=by rw [<- rel.length]; exact z
  have hl:(putK kvs k v).length<=sizeLine:=by have:=jbB kvs k v; omega
  refine wpAny_setItem_pairs (hsz:=hz) (jfH ry) dd fun h' dd' hs=>h _ ?_
  have he:∃ q,h'.get? a=some q:=let ⟨q,_,_,hq,_⟩:=dd'; ⟨q,hq⟩
  exact jeJ I (by rw [e]; exact True.intro) hs he (jit hl hd (rel.put k rv) dd')
 ·subst ey eH
  cases (show u=Value.ref b from ry)
  obtain ⟨z,hd,xs,rel,dd⟩:=jnv I.hok e
  have hz:xs.length<=sizeLine:=by rw [<- Paired.length rel]; exact z
  have hl:(putK kvs k v).length<=sizeLine:=by have:=jbB kvs k v; omega
  refine wpAny_setItem_heap (hsz:=hz) (tupleKind_room_in1 hu) (jd7 I.hok eb) dd fun h' dd' hs=>h _ ?_
  obtain ⟨q,es,ep,hq,h2,h3,h4,_,h5⟩:=dd'
  refine jeJ I (by rw [e]; exact True.intro) hs ⟨q,hq⟩ ⟨hl,hd,_,(rel.put k eb rv).keeps fun c ys ec=>?_,q,es,ep,hq,h2,h3,h4,h5⟩
  rw [jai (jnd ec e (fun z=>nomatch z))]
  exact ec
end

section
variable {X:Cx}{pins:List (Addr×Obj)}{σ:St}{H:Hp}{s:Shared}{a:Addr}{kvs:List (Key×V)}{k:Key}{u:Value}{A:Around}{E:Value->Shared->Prop}
theorem jnw {Q:Value->Shared->Prop}(I:Inv X pins σ H s)(e:Rd H a (.dK kvs))(h:∀ t s',Inv X pins σ H s'->Q (.int kvs.length t) s'):wpAny (model X.prog X.w) A (call (.builtin "len") [.ref a]) Q E s:=by
 obtain ⟨z,hd,vs,rel,dd⟩:=jfL I.hok e
 refine call_len_dict hd dd (by rw [<- rel.length]; rw [sizeLine_eq] at z; omega) ?_
 rw [<- rel.length]
 exact h _ _ (I.tok _)
end

theorem jeI {X:Cx}{pins:List (Addr×Obj)}{σ:St}{H:Hp}{s:Shared}{a:Addr}{y:V}{o:Option V}(I:Inv X pins σ H s)(g:DGet H a y o):s.TypeIs (.ref a) "dict" := by
 rcases g with ⟨kvs,k,e,_,_⟩ | ⟨kvs,k,b,e,_,_,_⟩
 ·obtain ⟨_,_,vs,_,dd⟩:=jfL I.hok e
  exact dd.typeIs
 ·obtain ⟨_,_,xs,_,dd⟩:=jgS I.hok e
  exact dd.typeIs
section
variable {X:Cx}{o i e value:Expr}{pos pos' tpos:Pos}{td ty tv:TE}
end

theorem jfj {P:Program}{w:World}{H:Hp}(h:Heap)(hb:sysModules < h.objs.size):jaD P w H (h.push { cls:=.type "dict",data:=.dict #[] }) h.objs.size (.dK []):=
 ⟨Nat.zero_le _,beq_eq_false_iff_ne.mpr (Ne.symm (Nat.ne_of_lt hb)),[],.nil,Heap.DictOf.new h⟩
noncomputable def jkj:TE:=fun _ H Q=>∀ p,H p=none->Q (.ref p) (upd H p (.dK []))
section
variable {X:Cx}{pos:Pos}
theorem jhs:PE X (.Dict [] [] pos) jkj:=fun pins s σ H Q I h=>
 wpAny_Dict_empty ⟨.ref s.heap.objs.size,_,I.laid (a:=s.heap.objs.size) (o:=.dK []) (t':=s.toks) (fun _ _ q=>Heap.get?_push_of_some _ q) (Nat.le_refl _) (jfj s.heap I.big),rfl,h _ (I.hok.fresh (Nat.le_refl _))⟩
end

noncomputable def jeW:List (TE×TE)->St->Hp->(List (V×V)->Hp->Prop)->Prop
 | [],_,H,Q=>Q [] H
 | (tk,tv)::r,σ,H,Q=>tk σ H fun x H1=>tv σ H1 fun y H2=>jeW r σ H2 fun ps H3=>Q ((x,y)::ps) H3
noncomputable abbrev VV:List (V×V)->List (Value×Value)->Prop:=Paired fun p q=>RelV p.1 q.1/\RelV p.2 q.2
noncomputable def PPs (X:Cx)(pos:Pos)(keys:List (Option Expr))(values:List Expr)(trs:List (TE×TE)):Prop:=
 ∀ (pins:List (Addr×Obj)) (s:Shared) (σ:St) (H:Hp) (Q:List (V×V)->Hp->Prop),Inv X pins σ H s->jeW trs σ H Q->
  wpAny (model X.prog X.w) X.A (evalPairs (pairTrees keys values X.env pos)) (fun vs s'=>∃ ps H',Inv X pins σ H' s'/\VV ps vs/\Q ps H') X.xe s
theorem jiY {X:Cx}{pos:Pos}:PPs X pos [] [] []:=fun pins s σ H Q I h=>pairTrees_nil_walk ⟨[],H,I,.nil,h⟩
theorem jhm {X:Cx}{pos:Pos}{k v:Expr}{ks:List (Option Expr)}{vs:List Expr}{tk tv:TE}{trs:List (TE×TE)}(hk:PE X k tk)(hv:PE X v tv)(hr:PPs X pos ks vs trs) :
  PPs X pos (some k::ks) (v::vs) ((tk,tv)::trs):=fun pins s σ H Q I h=>
 pairTrees_cons_walk (thn (hk pins s σ H _ I h) fun u s1 ⟨x,H1,I1,rx,q1⟩=>thn (hv pins s1 σ H1 _ I1 q1) fun w2 s2 ⟨y,H2,I2,ry,q2⟩=>
  thn (hr pins s2 σ H2 _ I2 q2) fun ws s3 ⟨ps,H3,I3,rel,q3⟩=>⟨(x,y)::ps,H3,I3,.cons ⟨rx,ry⟩ rel,q3⟩)

noncomputable def jcC (kvs more:List (Key×V)):List (Key×V):=more.foldl (fun acc kv=>putK acc kv.1 kv.2) kvs
theorem KV.merge:∀ {more:List (Key×V)} {rs:List (Key×Value)} {kvs:List (Key×V)} {vs:List (Key×Value)},KV more rs->KV kvs vs->KV (jcC kvs more) (merged vs rs):=by
 intro more rs kvs vs r
 unfold KV at r
 induction r generalizing kvs vs with
 | nil=>intro q; exact q
 | @cons p q ps qs h t ih=>
  intro r0
  have e:KV (putK kvs p.1 p.2) (stored vs q.1 q.2):=by
   have:=r0.put p.1 h.2
   rw [<- h.1]; exact this
  exact ih e
theorem jbT:∀ (more kvs:List (Key×V)),(jcC kvs more).length<=kvs.length + more.length
 | [],kvs=>by show kvs.length<=kvs.length + 0; omega
 | p::r,kvs=>by
  have h1:=jbT r (putK kvs p.1 p.2)
  have h2:=jbB kvs p.1 p.2
  show (jcC (putK kvs p.1 p.2) r).length<=_
  rw [List.length_cons]; omega
theorem jdi {P:Program}{w:World}:∀ {kvs:List (Key×V)} {ws:List (Value×Value)},VV (kvs.map fun kv=>(kV kv.1,kv.2)) ws->∃ rs,Carries (jaq P w) ws rs/\KV kvs rs
 | [],_,r=>by rw [List.map_nil] at r; cases r; exact ⟨[],True.intro,.nil⟩
 | p::kvs,_,r=>by
  rw [List.map_cons] at r
  cases r with
  | @cons a b as bs h t=>
   obtain ⟨rs,c,q⟩:=jdi (P:=P) (w:=w) t
   obtain ⟨b1,b2⟩:=b
   exact ⟨(p.1,b2)::rs,⟨jfH h.1,rfl,c⟩,.cons ⟨rfl,h.2⟩ q⟩
noncomputable def jmQ (trs:List (TE×TE)):TE:=fun σ H Q=>∀ p,H p=none->jeW trs σ (upd H p (.dK [])) fun ps H2=>H2 p=some (.dK [])/\∃ kvs:List (Key×V),ps=kvs.map (fun kv=>(kV kv.1,kv.2))/\kvs.length<=15/\Q (.ref p) (upd H2 p (.dK (jcC [] kvs)))
theorem ji9 {X:Cx}{pos:Pos}{keys:List (Option Expr)}{values:List Expr}{trs:List (TE×TE)}(h:PPs X pos keys values trs)(hall:keys.all (·.isSome)=true)(hl:keys.length=values.length)(h0:keys≠[])
  (h15:keys.length<=15):PE X (.Dict keys values pos) (jmQ trs):=by
 intro pins s σ H Q I q
 have hn:=I.hok.fresh (Nat.le_refl s.heap.objs.size)
 have I1:=I.laid (a:=s.heap.objs.size) (o:=.dK []) (h':=s.heap.push { cls:=.type "dict",data:=.dict #[] }) (t':=s.toks) (fun _ _ q=>Heap.get?_push_of_some _ q) (Nat.le_refl _) (jfj s.heap I.big)
 refine wpAny_Dict_walk (knd:=jaq X.prog X.w) hall hl h0 h15 (thn (h pins _ σ _ _ I1 (q _ hn)) fun ws s2 ⟨ps,H2,I2,rel,e,kvs,ep,lk,q2⟩=>?_)
 subst ep
 obtain ⟨rs,c,rk⟩:=jdi (P:=X.prog) (w:=X.w) rel
 obtain ⟨z,hd,vs0,r0,dd⟩:=jlS I2.hok e
 cases r0
 refine ⟨rs,c,dd,fun h' dd' hs=>⟨.ref s.heap.objs.size,_,?_,rfl,q2⟩⟩
 have hz:(jcC [] kvs).length<=sizeLine:=by
  have h1:=jbT kvs []
  rw [List.length_nil] at h1
  rw [sizeLine_eq]; omega
 have he:∃ q,h'.get? s.heap.objs.size=some q:=let ⟨q,_,_,hq,_⟩:=dd'; ⟨q,hq⟩
 exact jeJ I2 (by rw [e]; exact True.intro) hs he (jit hz hd (rk.merge .nil) dd')

structure M1 (X:Cx)(o:Expr)(m:Str)(apos:Pos)(e:Expr)(cpos:Pos):Prop where
 base:attributeBase o m X.env (eval o X.env)=eval o X.env
 few:((backTo cpos (starEach [e] X.env)).all (fun x=>!x.1) && (backToKw cpos (keywordEach [] X.env)).all (fun x=>x.1.isSome)
  && decide (([e]:List Expr).length + ([]:List Keyword).length + (if ([]:List Keyword).isEmpty then 0 else 1) < 30))=true
 line:(apos.endLine == cpos.line)=true
 trees:backTo cpos (starEach [e] X.env)=[(false,eval e X.env)]
structure M2 (X:Cx)(o:Expr)(m:Str)(apos:Pos)(e f:Expr)(cpos:Pos):Prop where
 base:attributeBase o m X.env (eval o X.env)=eval o X.env
 few:((backTo cpos (starEach [e,f] X.env)).all (fun x=>!x.1) && (backToKw cpos (keywordEach [] X.env)).all (fun x=>x.1.isSome)
  && decide (([e,f]:List Expr).length + ([]:List Keyword).length + (if ([]:List Keyword).isEmpty then 0 else 1) < 30))=true
 line:(apos.endLine == cpos.line)=true
 trees:backTo cpos (starEach [e,f] X.env)=[(false,eval e X.env),(false,eval f X.env)]

section
variable {X:Cx}{pins:List (Addr×Obj)}{σ:St}{H:Hp}{s:Shared}{a:Addr}{y d:V}{u r:Value}{o:Option V}{A:Around}{E:Value->Shared->Prop}
end

section
variable {X:Cx}{o e f:Expr}{apos cpos:Pos}{td ty tx:TE}
end

section
variable {X:Cx}{pins:List (Addr×Obj)}{σ:St}{H:Hp}{s:Shared}{a:Addr}{kvs:List (Key×V)}{A:Around}{E:Value->Shared->Prop}
end

section
variable {X:Cx}{pins:List (Addr×Obj)}{σ:St}{H:Hp}{s:Shared}{a:Addr}{y:V}{u:Value}{A:Around}{E:Value->Shared->Prop}
end
end L2

namespace Att
open PySem PySem.W PySem.Calls PyProof.Rows

theorem jcE {P:Params}{h:Heap}:∀ (ns:List Int) (vs:List Value),WellAll P h vs (ns.map WData.int)->IntsAre vs ns:=by
 intro ns
 induction ns with
 | nil=>
  intro vs w
  rw [List.map_nil] at w
  cases w
  exact .nil
 | cons n ns ih=>
  intro vs w
  rw [List.map_cons] at w
  cases w with
  | cons a b=>
   cases a
   exact .cons _ _ (ih _ b)

theorem jf6 {l:OpenLaw}{n:Nat}(hn:l.most=some n){P:Params}{h:Heap}{args:List WData}{vals:List Value}
  (hpre:l.row.toRowW.claim.pre args=true) (hwl:WellAll P h vals args) :
  ∃ a vs ns,vals=[Value.ref a]/\args=[WData.list (ns.map WData.int)]/\h.get? a=some { cls:=.type "list",data:=.seq vs.toArray }/\IntsAre vs ns/\ns.length<=n:=by
 have hsh:WShape.hasAll [] args [.list .int]=true:=(pre_splitW hpre).1
 have hc:l.pre.holds [] { args:=args }=true:=(pre_splitW hpre).2
 obtain ⟨d,r,rfl,h1,h2⟩:=hasAllW_cons hsh
 obtain rfl:=hasAllW_nil h2
 obtain ⟨xs,rfl,h3⟩:=hasW_list h1
 obtain ⟨ns,rfl⟩:=items_int h3
 have hlen:ns.length<=n:=by
  unfold OpenLaw.pre at hc
  have h4:(WTm.not (.lt (.lit (.int (n:Int))) (.len (.arg 0)))).holds [] { args:=[.list (ns.map .int)] }=true:=by
   have h4:=(holds_andW hc).1
   rw [hn] at h4
   exact h4
  have h5:=condW_of h4 (w_not (w_lt w_lit (w_len_list (w_arg rfl))))
  rw [List.length_map] at h5
  refine Nat.le_of_not_lt fun q=>?_
  have q':(n:Int) < ((ns.length:Nat):Int):=by omega
  first
   | (rw [decide_eq_true q'] at h5; exact absurd h5 (by decide))
   | (simp at h5; omega)
 cases hwl with
 | cons w1 w2=>
  cases w2
  cases w1 with
  | list ho hall=>exact ⟨_,_,ns,rfl,rfl,ho,jcE ns _ hall,hlen⟩

theorem jgb (l:OpenLaw)(args:List WData):l.row.toRowW.claim.post args (.bool true) args=true:=
 postW_of (r:=l.row.toRowW) (X:=(true == true))
  (show WShape.has [] (.bool true) .bool=true by first | rfl | decide | simp [WShape.has,WShape.arms,WShape.armsAll])
  (show (WTm.eq .res (.lit (.bool true))).value [] { args:=args,res:=some (.bool true),after:=args }=some (.bool (true == true)) from w_eq_bool (w_res rfl) w_lit) rfl

theorem attach_call {l:OpenLaw}{n:Nat}{q:Program}{loose:List Str}{XP:(Str->Option Value)->Heap->Prop}{YP:World->Heap->Prop}{d:DefRec}
  (hn:l.most=some n) (hdf:d.params.defaults=[])
  (call:∀ (w:World) (s₀ s₁:Shared) (mg mb:Str->Option Value) (fa:Addr) (o:Obj) (pm cd doc:Value) (a:Addr) (vs:List Value) (ns:List Int),
   Ground q loose [] XP w s₀ mg mb s₁.heap->YP w s₁.heap->
   s₁.heap.get? fa=some o->o.data=.func (docDef d.name d.params d.body d.scope pm cd doc)->s₁.heap.CodeRec cd d.name->mg d.name=some (.ref fa)->
   s₁.heap.get? a=some { cls:=.type "list",data:=.seq vs.toArray }->IntsAre vs ns->ns.length<=n->s₁.gens=#[]->
   codeAny (model l.prog w) callerA (.call (.ref fa) ⟨[.ref a],[]⟩) (fun r s'=>r=.ok (.ret (.bool true))/\OldK s₁.heap s'.heap/\s'.os=s₁.os/\AllBare s'.gens) s₁) :
  WalkO q loose XP YP l.row.toRowW d [] (fun f vs=>PySem.call f vs):=by
 intro w s₀ s₁ mg mb G Y fa o pm cd doc dV kV ho hd hcd hD hmg hg args vals as hpre hlay hrd hwl hlo
 obtain rfl:dV=.none:=Dflts.none hD hdf
 obtain rfl:kV=.none:=Dflts.noKw hD
 obtain ⟨a,vs,ns,rfl,rfl,hobj,hints,hlen⟩:=jf6 hn hpre hwl
 refine enter_call (codeAny_mono (call w s₀ s₁ mg mb fa o pm cd doc a vs ns G Y ho (fd_plain hd) hcd hmg hobj hints hlen hg) fun r s' hq=>?_)
 obtain ⟨rfl,h2,h3,h4⟩:=hq
 exact ⟨.inl ⟨.bool true,.bool true,[],rfl,fun _=>rfl,.bool true,jgb l _,fun _=>⟨List.Pairwise.nil,fun _ hm=>(nomatch hm)⟩⟩,h2,h3,h4⟩

section
variable {prog:Program}{w:World}{A:Around}{E:Value->Shared->Prop}{s:Shared}{K:Frag}

end
end Att

namespace L2
open PySem PySem.Spec PyProof.Rows

theorem jdG:∀ {vs:List Value} {ns:List Int},IntsAre vs ns->Vals (ns.map V.int) vs
 | _,_,.nil=>.nil
 | _,_,.cons n t h=>.cons ⟨t,rfl⟩ (jdG h)

noncomputable def Only (H:Hp):Prop:=∀ b,H b=none\/∃ o xs,H b=some (.frz o (.lst xs))

theorem law_call {P : Program}{w : World}{K : PySem.W.Frag}{mg mb : Str -> Option Value}{CX : CXT}{k : Nat}{fa a : Addr}{fd : FuncData}{x : Str}{sp : Sp}{s₁ : Shared}{vs : List Value}{ns : List Int}
    (KX : K.In s₁.heap) (hsys : ∃ o, K.lookup sysModules = some o /\ o.cls = .type "dict") (hns : s₁.heap.Ns mainGlobals mg) (hb : s₁.heap.Ns builtinsNs mb) (hbb : ∀ x : Str, x ≠ "__name__" -> mb x = bootBuiltins x) (hlim : s₁.heap.NoLimit) (hg : s₁.gens = #[])
    (ha : s₁.heap.get? a = some { cls := .type "list", data := .seq vs.toArray }) (hi : IntsAre vs ns) (hl : ns.length <= sizeLine) (hr : Room k callerA)
    (F : ∀ base : Heap, K.In base -> base.Ns mainGlobals mg -> FnOk P w K mg base CX k fa fd [x] sp) (hbind : ∀ (s : Shared) (u : Value), BindsTo s fd ⟨[u], []⟩ [(x, u)])
    (hsp : ∀ H : Hp, Only H -> SqL K H a (ns.map V.int) -> sp [.ref a] H (fun v _ => v = .bl true) fun _ _ _ => False)
    (hCX : ∀ H e s', CX [] H s₁ (fun _ _ _ => False) e s' -> False) :
    codeAny (model P w) callerA (.call (.ref fa) ⟨[.ref a], []⟩) (fun r s' => r = .ok (.ret (.bool true)) /\ OldK s₁.heap s'.heap /\ s'.os = s₁.os /\ AllBare s'.gens) s₁ := by
  have rv := jdG hi
  have lenV := hi.length
  have core : ∀ H : Hp, Only H -> SqL K H a (ns.map V.int) -> HOk P w H s₁.heap -> (∀ b, H b ≠ none -> b = a) -> (H a ≠ none -> K.lookup a = none) ->
      codeAny (model P w) callerA (.call (.ref fa) ⟨[.ref a], []⟩) (fun r s' => r = .ok (.ret (.bool true)) /\ OldK s₁.heap s'.heap /\ s'.os = s₁.os /\ AllBare s'.gens) s₁ := by
    intro H hO hS hok hA hK
    have jcV : ∀ {b : Addr} {o : Obj}, s₁.heap.get? b = some o -> H b = none -> (hidT s₁.heap H).get? b = some o := fun e n => jhH e n
    have noA : ∀ {b : Addr} {o : Obj} {es : Array DictEntry} {ep : Nat}, s₁.heap.get? b = some o -> o.data = .dict es ep -> H b = none := fun {b o es ep} e d => by
      cases q : H b with
      | none => rfl
      | some u =>
        have e' : b = a := hA b (by rw [q]; simp)
        subst e'
        rw [ha] at e; cases e
        have d' : Data.seq vs.toArray _ = Data.dict es ep := d
        cases d'
    have nsK : ∀ {b : Addr} {m : Str -> Option Value}, s₁.heap.Ns b m -> (hidT s₁.heap H).Ns b m := fun {b m} ⟨o, es, ep, e, d, r⟩ => ⟨o, es, ep, jcV e (noA e d), d, r⟩
    have hKb : K.In (hidT s₁.heap H) := fun b o e => jcV (KX b o e) (by
      cases q : H b with
      | none => rfl
      | some u =>
        have e' : b = a := hA b (by rw [q]; simp)
        subst e'
        rw [hK (by rw [q]; simp)] at e; cases e)
    have hM : Mod K mg (hidT s₁.heap H) := ⟨hKb, nsK hns, ⟨mb, nsK hb, hbb⟩, let ⟨mc, h1, h2⟩ := hlim; ⟨mc, nsK h1, h2⟩, hsys⟩
    have e0 : Env0 P w K mg (hidT s₁.heap H) callerA [] s₁ H := ⟨rfl, hM, fun b o e => jjq e, Nat.le_of_eq (jgL _ _), trivial, fun b hb => absurd (show b ∈ ([] : List Addr) from hb) (by simp), hok, .of_eq hg⟩
    refine codeAny_mono ((F _ hKb (nsK hns)).run callerA [] s₁ H ⟨[.ref a], []⟩ [.ref a] [.ref a] _ _ hr e0 (hbind s₁ (.ref a)) (.cons rfl .nil) (hsp H hO hS)) fun r s' h => ?_
    cases r with
    | error e => exact (hCX H e s' h).elim
    | ok fl =>
      cases fl with
      | next => exact False.elim h
      | brk => exact False.elim h
      | cont => exact False.elim h
      | ret u =>
        obtain ⟨v, H', os, bare, un, hok', r', q⟩ := h
        have q' : v = .bl true := q
        subst q'
        obtain rfl : u = Value.bool true := r'
        refine ⟨rfl, OldK.of_keep fun b o e => ?_, os, bare⟩
        cases q : H b with
        | none => exact un.keep b o e q (by intro z; exact absurd (show b ∈ ([] : List Addr) from z) (by simp)) (by simp)
        | some u =>
          rcases hO b with z | ⟨ob, xs, z⟩
          · rw [q] at z; cases z
          · have z2 := un.frzs b ob _ z
            obtain ⟨e1, _⟩ := hok b _ z
            obtain ⟨e2, _⟩ := hok' b _ z2
            rw [e] at e1; cases e1
            exact e2
  cases hk : K.lookup a with
  | some o =>
    have e := KX a o hk
    rw [ha] at e
    cases e
    refine core (fun _ => none) (fun _ => .inl rfl) (.inr ⟨_, vs.toArray, _, hk, rfl, rfl, rfl, by rw [List.size_toArray, lenV]; exact hl, by simpa using rv⟩) (fun b u z => by have z' : (none : Option HO) = some u := z; cases z') (fun b z => absurd rfl z) fun z => absurd rfl z
  | none =>
    refine core (fun b => if b = a then some (.frz { cls := .type "list", data := .seq vs.toArray } (.lst (ns.map V.int))) else none) (fun b => ?_) (.inl (.inr ⟨{ cls := .type "list", data := .seq vs.toArray }, if_pos rfl⟩)) (fun b u z => ?_) (fun b z => ?_) fun _ => hk
    · by_cases hb : b = a
      · exact .inr ⟨_, _, if_pos hb⟩
      · exact .inl (if_neg hb)
    · by_cases hb : b = a
      · have z' := (if_pos hb).symm.trans z
        cases z'
        subst hb
        exact ⟨ha, by rw [List.length_map]; exact hl, vs, _, rv, ha⟩
      · have z' := (if_neg hb).symm.trans z
        cases z'
    · by_cases hb : b = a
      · exact hb
      · exact absurd (if_neg hb) z

theorem walk_of {l:PySem.W.OpenLaw}{n k:Nat}{q:Program}{loose:List Str}{XP:(Str->Option Value)->Heap->Prop}{YP:World->Heap->Prop}{d:DefRec}{K:Params->PySem.W.Frag}{CX:World->CXT}{sp:World->Sp}{x:Str}
  (hn:l.most=some n) (hn2:n<=sizeLine) (hdf:d.params.defaults=[]) (hr:Room k callerA)
  (hY:∀ (w:World) (h:Heap),YP w h->(K w.params).In h) (hsy:∀ w:World,∃ o,(K w.params).lookup sysModules=some o/\o.cls=.type "dict")
  (F:∀ (w:World) (mg:Str->Option Value) (fa:Addr) (h:Heap),(K w.params).In h->h.Ns mainGlobals mg->mg d.name=some (.ref fa)->
   ∃ fd:FuncData,(∀ (s:Shared) (u:Value),BindsTo s fd ⟨[u],[]⟩ [(x,u)])/\
    ∀ base:Heap,(K w.params).In base->base.Ns mainGlobals mg->FnOk l.prog w (K w.params) mg base (CX w) k fa fd [x] (sp w))
  (hsp:∀ (w:World) (H:Hp) (a:Addr) (ns:List Int),ns.length<=n->Only H->SqL (K w.params) H a (ns.map V.int)->sp w [.ref a] H (fun v _=>v=.bl true) fun _ _ _=>False)
  (hCX:∀ (w:World) (H:Hp) (s:Shared) (e:Value) (s':Shared),CX w [] H s (fun _ _ _=>False) e s'->False) :
  PySem.W.WalkO q loose XP YP l.row.toRowW d [] (fun f vs=>PySem.call f vs):=by
 refine Att.attach_call hn hdf fun w s₀ s₁ mg mb fa o pm cd doc a vs ns G Y ho hd hcd hmg hobj hints hlen hg=>?_
 have KX:=hY w _ Y
 obtain ⟨fd,hb,hF⟩:=F w mg fa _ KX G.T.g hmg
 exact law_call KX (hsy w) G.T.g G.T.b G.T.builtins G.T.nolimit hg hobj hints (Nat.le_trans hlen hn2) hr hF hb (fun H hO hS=>hsp w H a ns hlen hO hS) fun H e s'=>hCX w H s₁ e s'

def defArgs (s:Stmt):Arguments:=match s with
 | .FunctionDef _ a _ _ _ _ _ _ _ _=>a
 | _=>{ posonlyargs:=[],args:=[],vararg:=none,kwonlyargs:=[],kw_defaults:=[],kwarg:=none,defaults:=[] }
def defBody (s:Stmt):List Stmt:=match s with
 | .FunctionDef _ _ b _ _ _ _ _ _ _=>b
 | _=>[]
def defScope (s:Stmt):Scope:=match s with
 | .FunctionDef _ _ _ _ _ _ sc _ _ _=>sc
 | _=>{ kind:=.function,names:=[],isGenerator:=false,isCoroutine:=false }

noncomputable abbrev CX0:CXT:=fun _ _ _ _ _ _=>False
noncomputable abbrev E0:XK:=fun _ _ _=>False
structure Fun (K:PySem.W.Frag)(x qual:Str)(st:Stmt)(f:Addr)(fd:FuncData):Prop where
 ex:∃ (oc:Value) (od:Option Addr) (kV doc pm:Value) (an:Option Addr) (cdv ct:Value) (osl:Array (Option Value)),
  fd=PySem.W.fnOf x qual (defArgs st) (defBody st) (defScope st) .none kV doc pm an cdv ct/\K.lookup f=some ⟨oc,od,.func fd,osl⟩/\PySem.W.codeIn K cdv qual=true
 kp:PySem.W.keepIn K (.ref f)=true
section
variable {P:Program}{w:World}{K:PySem.W.Frag}{mg:Str->Option Value}{base:Heap}
theorem Fun.binds {x qual:Str}{st:Stmt}{f:Addr}{fd:FuncData}{ps:List Str}(F:Fun K x qual st f fd)
  (h:∀ (kV doc pm:Value) (an:Option Addr) (cdv ct:Value) (us:List Value),us.length=ps.length->bindArgs (PySem.W.fnOf x qual (defArgs st) (defBody st) (defScope st) .none kV doc pm an cdv ct) ⟨us,[]⟩=pure (ps.zip us)):Binds K fd ps []:=by
 obtain ⟨oc,od,kV,doc,pm,an,cdv,ct,osl,rfl,lk,hcd⟩:=F.ex
 exact .all (h kV doc pm an cdv ct)
theorem jap {x qual:Str}{st:Stmt}{f:Addr}{oc:Value}{od an:Option Addr}{osl:Array (Option Value)}{kV doc pm cdv ct:Value}(l:K.lookup f=some ⟨oc,od,.func (PySem.W.fnOf x qual (defArgs st) (defBody st) (defScope st) .none kV doc pm an cdv ct),osl⟩)
  (c:PySem.W.codeIn K cdv qual=true) (k:PySem.W.keepIn K (.ref f)=true):Fun K x qual st f (PySem.W.fnOf x qual (defArgs st) (defBody st) (defScope st) .none kV doc pm an cdv ct):=⟨⟨oc,od,kV,doc,pm,an,cdv,ct,osl,rfl,l,c⟩,k⟩
end
theorem jnp {A:Around}{k:Nat}(hr:Room k A):A.units + 1 < cLine:=Nat.lt_of_le_of_lt (Nat.add_le_add_left (by decide:1<=64) _) hr.units
section
variable {X:Cx}
end

noncomputable def Same (H H':Hp):Prop:=∀ b o,H b=some o->H' b=some o
section
variable {X:Cx}
theorem jg2:ja5 X (.builtin "len") (fun xs H Q=>∃ a kvs,xs=[V.ref a]/\H a=some (.dK kvs)/\Q (.int kvs.length) H):=by
 intro pins s σ H xs us Q I r h
 obtain ⟨a,kvs,rfl,ha,q⟩:=h
 obtain ⟨u,rfl,ru⟩:=jcX r
 cases ru
 exact jnw I (.inl ha) fun t s' I'=>⟨.int kvs.length,H,I',⟨t,rfl⟩,q⟩
end
section
variable {κ:Type}[DecidableEq κ]
end
end L2

namespace L2
open PySem PySem.Spec PyProof.Rows
set_option maxHeartbeats 4000000

section
variable {prog:Program}{w:World}{A:Around}{R:Result->Shared->Prop}{s:Shared}
noncomputable def jdr (env:Env)(ifs:List Expr):Sem Bool:=forIn ifs true fun c r=>ite (r=true) (isTrue c env (eval c env) >>= fun b=>pure (.yield b)) (pure (.yield r))
noncomputable def jbw (ip:Pos)(tg:Expr)(ifs:List Expr)(it:Value)(env:Env)(em:Sem Unit)(next:Code):Sem Fin:=
 standAt ip >>= fun _=>pyNext it >>= fun r=>match r with
  | none=>pure (.done .next)
  | some v=>letOwnedTupleGo tg it v >>= fun _=>assign tg env v >>= fun _=>jdr env ifs >>= fun ok=>ite (ok=true) (em >>= fun _=>again next) (again next)
noncomputable def jiG (M:Model)(A:Around)(tg:Expr)(ifs:List Expr)(it:Value)(env:Env)(em:Sem Unit)(fin:Shared->Prop)(less:Shared->Prop):Option Value->Shared->Prop
 | none,s=>fin s
 | some v,s=>wpAny M A (letOwnedTupleGo tg it v) (fun _ s=>wpAny M A (assign tg env v) (fun _ s=>wpAny M A (jdr env ifs) (fun ok s=>if ok=true then wpAny M A em (fun _ s=>less s) (fun _ _=>False) s else less s) (fun _ _=>False) s) (fun _ _=>False) s) (fun _ _=>False) s
theorem jek {elt:Expr}{gens:List Comprehension}{scope:Scope}{pos:Pos}{dp:Nat}{target:Expr}{ip:Pos}{ifs:List Expr}{it acc:Value}{env:Env}{em:Sem Unit}(I:Nat->Shared->Prop)
  (hct:compTurn (.ListComp elt gens scope pos) dp it acc env=jbw ip target ifs it env em (.compLoop (.ListComp elt gens scope pos) dp it acc env))
  (turn:∀ k t,I k t->wpAny (model prog w) A (pyNext it) (jiG (model prog w) A target ifs it env em (R (.ok .next)) fun t=>∃ m,m < k/\I m t) (fun _ _=>False) t)
  (n:Nat) (h:I n s):codeAny (model prog w) A (.compLoop (.ListComp elt gens scope pos) dp it acc env) R s:=by
 have no:∀ {Z:Value->Shared->Prop} (e:Value) (t:Shared),False->Z e t:=fun _ _ f=>f.elim
 refine codeAny_loop rfl I (fun k t hk=>wpAny_noted (m:=compTurn (.ListComp elt gens scope pos) dp it acc env) (hct ▸ ?_)) n h
 refine wpAny_bind (wpAny_standAt (wpAny_bind (wpAny_mono (turn k t hk) (fun r t1 p=>?_) no)))
 match r,p with
 | none,p=>exact wpAny_pure p
 | some v,p=>
  refine wpAny_bind (wpAny_mono p (fun _ t2 p=>wpAny_bind (wpAny_mono p (fun _ t3 p=>wpAny_bind (wpAny_mono p (fun ok t4 p=>?_) no)) no)) no)
  match ok,p with
  | false,p=>exact wpAny_pure ⟨rfl,p⟩
  | true,p=>exact wpAny_bind (wpAny_mono p (fun _ t5 p=>wpAny_pure ⟨rfl,p⟩) no)
theorem jbl {elt:Expr}{g1:Comprehension}{t2 i2:Expr}{f2:List Expr}{scope:Scope}{pos:Pos}{it acc:Value}{env:Env}
  (h0:codeAny (model prog w) A (.compLoop (.ListComp elt [g1,⟨t2,i2,f2,0⟩] scope pos) 1 it acc env) R s)
  (h:wpAny (model prog w) A (pyIter it) (fun it' s'=>codeAny (model prog w) A (.compLoop (.ListComp elt [g1,⟨t2,i2,f2,0⟩] scope pos) 1 it' acc env) R s') (notedBy (model prog w) A env fun x s'=>R (.error x) s') s) :
  codeAny (model prog w) A (.compStart (.ListComp elt [g1,⟨t2,i2,f2,0⟩] scope pos) 1 it acc env) R s:=by
 refine codeAny_of_tree (wpAny_notedAt (m:=compStart (.ListComp elt [g1,⟨t2,i2,f2,0⟩] scope pos) 1 it acc env) ?_)
 unfold compStart
 refine wpAny_bind (m:=ask) (wpAny_askSetting (wpAny_ite ?_))
 split
 ·exact wpAny_bind (wpAny_pure (wpAny_pure ⟨rfl,h0⟩))
 ·exact wpAny_bind (wpAny_rule (wpAny_bind (m:=standAt i2.pos) (wpAny_standAt (wpAny_bind (thn h fun it' s' p=>wpAny_pure ⟨rfl,p⟩)))))
end

theorem jbm (env:Env):∀ (names:List (Str×NameKind)) (acc:List (Str×Addr)),(∀ y∈names,y.2=.free->∃ c,env.cells.lookup y.1=some c)->
  ∃ cl:List (Str×Addr),(forIn names acc (fun (y:Str×NameKind) (cs:List (Str×Addr))=>(if (y.2 == NameKind.free)=true then (do let c <- cellOf env y.1; pure (ForInStep.yield ((y.1,c)::cs))) else pure (ForInStep.yield cs):Sem (ForInStep (List (Str×Addr))))):Sem (List (Str×Addr)))=pure cl/\
   (∀ x c,(x,c)∈cl->(x,c)∈acc\/(env.cells.lookup x=some c/\(x,NameKind.free)∈names))/\(∀ p∈acc,p∈cl)/\(∀ y∈names,y.2=.free->∃ c,(y.1,c)∈cl)
 | [],acc,_=>⟨acc,rfl,fun _ _ h=>.inl h,fun _ h=>h,fun _ h=>nomatch h⟩
 | (n,k)::r,acc,h=>by
  by_cases hk:k=.free
  ·subst hk
   obtain ⟨c,hc⟩:=h (n,.free) List.mem_cons_self rfl
   obtain ⟨cl,e,h1,h2,h3⟩:=jbm env r ((n,c)::acc) fun y hy=>h y (List.mem_cons_of_mem _ hy)
   refine ⟨cl,?_,fun x d hd=>?_,fun p hp=>h2 p (List.mem_cons_of_mem _ hp),fun y hy hf=>?_⟩
   ·rw [List.forIn_cons]
    have:(cellOf env n:Sem Addr)=pure c:=by unfold cellOf; rw [hc]
    simp only [beq_self_eq_true,if_true,this,pure_bind]
    exact e
   ·rcases h1 x d hd with z | ⟨z,z'⟩
    ·rcases List.mem_cons.mp z with z | z
     ·cases z; exact .inr ⟨hc,List.mem_cons_self⟩
     ·exact .inl z
    ·exact .inr ⟨z,List.mem_cons_of_mem _ z'⟩
   ·rcases List.mem_cons.mp hy with z | z
    ·subst z; exact ⟨c,h2 _ List.mem_cons_self⟩
    ·exact h3 y z hf
  ·obtain ⟨cl,e,h1,h2,h3⟩:=jbm env r acc fun y hy=>h y (List.mem_cons_of_mem _ hy)
   have hb:(k == NameKind.free)=false:=by simpa using hk
   refine ⟨cl,?_,fun x d hd=>?_,h2,fun y hy hf=>?_⟩
   ·rw [List.forIn_cons]
    simp only [hb,Bool.false_eq_true,if_false,pure_bind]
    exact e
   ·rcases h1 x d hd with z | ⟨z,z'⟩
    ·exact .inl z
    ·exact .inr ⟨z,List.mem_cons_of_mem _ z'⟩
   ·rcases List.mem_cons.mp hy with z | z
    ·subst z; exact absurd hf hk
    ·exact h3 y z hf
theorem jbS {β:Type}:∀ {l:List (Str×β)} {x:Str} {c:β},(x,c)∈l->∃ d,l.lookup x=some d/\(x,d)∈l
 | (n,k)::r,x,c,h=>by
  cases hx:x == n with
  | true=>
   refine ⟨k,by simp only [List.lookup_cons,hx],?_⟩
   rw [eq_of_beq hx]; exact List.mem_cons_self
  | false=>
   rcases List.mem_cons.mp h with z | z
   ·cases z; simp at hx
   ·obtain ⟨d,e,m⟩:=jbS z
    exact ⟨d,by simp only [List.lookup_cons,hx]; exact e,List.mem_cons_of_mem _ m⟩
theorem jdh {scope:Scope}{env:Env}(h:∀ y∈scope.names,y.2=.free->∃ c,env.cells.lookup y.1=some c) :
  ∃ cl:List (Str×Addr),closureFor scope env=pure cl/\(∀ x c,cl.lookup x=some c->env.cells.lookup x=some c)/\(∀ y∈scope.names,y.2=.free->∃ c,cl.lookup y.1=some c):=by
 obtain ⟨cl,e,h1,_,h3⟩:=jbm env scope.names [] h
 refine ⟨cl,?_,fun x c hx=>?_,fun y hy hf=>?_⟩
 ·unfold closureFor
  rw [<- e]
  simp only [bind_pure]
 ·rcases h1 x c (PySem.mem_of_lookup hx) with z | ⟨z,_⟩
  ·exact nomatch z
  ·exact z
 ·obtain ⟨c,hc⟩:=h3 y hy hf
  obtain ⟨d,e,_⟩:=jbS hc
  exact ⟨d,e⟩

noncomputable def jad (X:Cx)(N:List Str)(scope:Scope)(cl:List (Str×Addr))(C:Addr)(s₀:Shared)(H₀:Hp)(fp:List Addr):Cx where
 prog:=X.prog
 w:=X.w
 K:=X.K
 mg:=X.mg
 base:=X.base
 A:=X.A
 N:=N
 s₀:=s₀
 H₀:=H₀
 env:=compEnvC scope cl C X.env
 outer:=X.stack
 stack:=X.stack
 ex:=fp
 fn:=fun x=>scope.names.lookup x == some .cell
 calm:=X.calm
 pn:=[]
 xe:=fun _ _=>False

noncomputable def cOk (oN:List Str)(on:List (Str×NameKind))(N:List Str)(pick:List (Option Nat))(scope:Scope):Bool:=
 decide (scope.kind=.function) && scope.names.all (fun y=>y.2 != .cell || scope.names.lookup y.1 == some .cell) && scope.names.all (fun y=>y.2 != .local || scope.names.lookup y.1 == some .local)
  && scope.names.all (fun y=>y.2 != .free || (scope.names.lookup y.1 == some .free && (on.lookup y.1 == some .cell || on.lookup y.1 == some .free)))
  && pick.length == N.length && (N.zip pick).all (fun p=>match p.2 with | none=>true | some j=>oN[j]? == some p.1 && scope.names.lookup p.1 == some .free)

structure CScope (X:Cx)(N:List Str)(pick:List (Option Nat))(scope:Scope):Prop where
 kind:scope.kind=.function
 cells:∀ y∈scope.names,y.2=.cell->scope.names.lookup y.1=some .cell
 names:∀ y∈scope.names,y.2=.local->scope.names.lookup y.1=some .local
 fre:∀ y∈scope.names,y.2=.free->scope.names.lookup y.1=some .free/\(X.env.kindOf y.1=some .cell\/X.env.kindOf y.1=some .free)
 len:pick.length=N.length
 caps:∀ (i j:Nat) (x:Str),N[i]?=some x->pick[i]?=some (some j)->X.N[j]?=some x/\scope.names.lookup x=some .free
theorem jca (f:Str->NameKind->NameKind):∀ (names:List (Str×NameKind)) (x:Str),(names.map fun y=>(y.1,f y.1 y.2)).lookup x=(names.lookup x).map (f x)
 | [],_=>rfl
 | (n,k)::r,x=>by
  rw [List.map_cons,List.lookup_cons,List.lookup_cons,jca f r x]
  by_cases e:x=n
  ·subst e; rw [beq_self_eq_true]; rfl
  ·rw [beq_false_of_ne e]
noncomputable def jii (env:Env)(n:Str)(k:NameKind):NameKind:=if (k == NameKind.free && env.scope.kind == .function && env.kindOf n == some .cell) then .cell else k
theorem jbN (env:Env)(names:List (Str×NameKind))(x:Str) :
  (names.map fun (n,k)=>if (k == NameKind.free && env.scope.kind == .function && env.kindOf n == some .cell) then (n,NameKind.cell) else (n,k)).lookup x=(names.lookup x).map (jii env x):=by
 rw [<- jca (jii env)]
 congr 2
 funext y
 show ite _ _ _=(y.1,ite _ _ _)
 split <;> rfl
theorem jaM {env:Env}{names:List (Str×NameKind)}{x:Str}(h:names.lookup x=some .free) :
  (names.map fun (n,k)=>if (k == NameKind.free && env.scope.kind == .function && env.kindOf n == some .cell) then (n,NameKind.cell) else (n,k)).lookup x=some .cell\/
  (names.map fun (n,k)=>if (k == NameKind.free && env.scope.kind == .function && env.kindOf n == some .cell) then (n,NameKind.cell) else (n,k)).lookup x=some .free:=by
 rw [jbN,h]
 show some (ite _ _ _)=_\/some (ite _ _ _)=_
 split
 ·exact .inl rfl
 ·exact .inr rfl
theorem jav {env:Env}{q:NameKind}(hq:q≠.free){names:List (Str×NameKind)}{x:Str}(h:names.lookup x=some q) :
  (names.map fun (n,k)=>if (k == NameKind.free && env.scope.kind == .function && env.kindOf n == some .cell) then (n,NameKind.cell) else (n,k)).lookup x=some q:=by
 rw [jbN,h]
 show some (ite _ _ _)=_
 rw [beq_false_of_ne hq]
 rfl
theorem jbc {env:Env}:∀ {names:List (Str×NameKind)} {x:Str},
  ((names.map fun (n,k)=>if (k == NameKind.free && env.scope.kind == .function && env.kindOf n == some .cell) then (n,NameKind.cell) else (n,k)).lookup x=some .cell\/
  (names.map fun (n,k)=>if (k == NameKind.free && env.scope.kind == .function && env.kindOf n == some .cell) then (n,NameKind.cell) else (n,k)).lookup x=some .free)->(x,NameKind.free)∈names\/(x,NameKind.cell)∈names
 | [],_,h=>by simp at h
 | (n,k)::r,x,h=>by
  have ih:_->_:=@jbc env r x
  have h':List.lookup x ((if (k == NameKind.free && env.scope.kind == .function && env.kindOf n == some .cell)=true then (n,NameKind.cell) else (n,k))::r.map fun (n,k)=>if (k == NameKind.free && env.scope.kind == .function && env.kindOf n == some .cell) then (n,NameKind.cell) else (n,k))=some .cell\/List.lookup x ((if (k == NameKind.free && env.scope.kind == .function && env.kindOf n == some .cell)=true then (n,NameKind.cell) else (n,k))::r.map fun (n,k)=>if (k == NameKind.free && env.scope.kind == .function && env.kindOf n == some .cell) then (n,NameKind.cell) else (n,k))=some .free:=h
  by_cases hk:k=.free
  ·cases hx:x == n with
   | true=>rw [eq_of_beq hx,hk]; exact .inl List.mem_cons_self
   | false=>
    refine (ih ?_).imp (List.mem_cons_of_mem _) (List.mem_cons_of_mem _)
    by_cases hcc:(k == NameKind.free && env.scope.kind == .function && env.kindOf n == some .cell)=true
    ·rw [if_pos hcc] at h'; simpa only [List.lookup_cons,hx] using h'
    ·rw [if_neg hcc] at h'; simpa only [List.lookup_cons,hx] using h'
  ·have hb:(k == NameKind.free)=false:=by simpa using hk
   rw [if_neg (by simp [hb])] at h'
   cases hx:x == n with
   | true=>
    simp only [List.lookup_cons,hx] at h'
    rcases h' with z | z
    ·rw [eq_of_beq hx,Option.some.inj z]; exact .inr List.mem_cons_self
    ·exact absurd (Option.some.inj z) hk
   | false=>exact (ih (by simpa only [List.lookup_cons,hx] using h')).imp (List.mem_cons_of_mem _) (List.mem_cons_of_mem _)

theorem jaB:∀ (names:List (Str×NameKind)) (n:Nat) (acc:List (Str×Addr)),cellsFrom n names acc=cellsFrom n names []++acc
 | [],_,_=>rfl
 | (x,k)::r,n,acc=>by
  unfold cellsFrom
  split
  ·rw [jaB r (n + 1) ((x,n)::acc),jaB r (n + 1) [(x,n)],List.append_assoc]; rfl
  ·exact jaB r n acc
theorem jaK:∀ (names:List (Str×NameKind)) (n:Nat) {x:Str} {c:Addr},(x,c)∈cellsFrom n names []->(x,NameKind.cell)∈names
 | [],_,_,_,h=>nomatch h
 | (y,k)::r,n,x,c,h=>by
  unfold cellsFrom at h
  split at h
  ·rename_i hk
   rw [jaB] at h
   rcases List.mem_append.mp h with h | h
   ·exact List.mem_cons_of_mem _ (jaK r _ h)
   ·have e:(x,c)=(y,n):=by simpa using h
    cases e
    rw [eq_of_beq hk]; exact List.mem_cons_self
  ·exact List.mem_cons_of_mem _ (jaK r _ h)
theorem jc9 {β:Type}:∀ (l m:List (Str×β)) (x:Str),(l++m).lookup x=(l.lookup x).or (m.lookup x)
 | [],_,_=>by simp
 | (n,k)::r,m,x=>by
  rw [List.cons_append,List.lookup_cons,List.lookup_cons]
  cases hx:x == n with
  | true=>simp
  | false=>exact jc9 r m x
structure BCells (scope:Scope)(cl cs:List (Str×Addr))(lo:Nat)(h:Heap):Prop where
 lk:∀ x c,cs.lookup x=some c->((x,NameKind.cell)∈scope.names/\lo < c/\h.IsCell c none)\/((x,NameKind.cell)∉scope.names/\cl.lookup x=some c)
 own:∀ x,scope.names.lookup x=some .cell->∃ c,cs.lookup x=some c/\lo < c
 old:∀ x c,(x,NameKind.cell)∉scope.names->cl.lookup x=some c->cs.lookup x=some c
 inj:∀ x y c,cs.lookup x=some c->cs.lookup y=some c->lo < c->x=y
theorem jg5 {scope:Scope}{cl:List (Str×Addr)}{h:Heap}{lo:Nat}(hl:h.objs.size=lo + 1)(S:∀ y∈scope.names,y.2=.cell->scope.names.lookup y.1=some .cell)(hcl:∀ x c,cl.lookup x=some c->c<=lo):BCells scope cl (cellsFrom (lo + 1) scope.names cl) lo (pushCells h scope.names):=by
 have ok:=cellsFrom_ok scope.names h (lo + 1) [] ⟨fun _ _ hm=>(nomatch hm),List.Pairwise.nil⟩ (by omega)
 rw [hl] at ok
 have look:∀ x,(cellsFrom (lo + 1) scope.names cl).lookup x=((cellsFrom (lo + 1) scope.names []).lookup x).or (cl.lookup x):=fun x=>by rw [jaB,jc9]
 have own:∀ x,(x,NameKind.cell)∈scope.names->∃ c,(cellsFrom (lo + 1) scope.names []).lookup x=some c:=fun x hx=>jdB (S _ hx rfl)
 refine ⟨fun x c e=>?_,fun x hx=>?_,fun x c hx hc=>?_,fun x y c e1 e2 hc=>?_⟩
 ·rw [look] at e
  by_cases hx:(x,NameKind.cell)∈scope.names
  ·obtain ⟨c',e'⟩:=own x hx
   rw [e',Option.some_or] at e
   have e:c'=c:=Option.some.inj e
   subst e
   obtain ⟨z1,z2⟩:=ok.empty x c' (PySem.mem_of_lookup e')
   exact .inl ⟨hx,z2,z1⟩
  ·cases q:(cellsFrom (lo + 1) scope.names []).lookup x with
   | some c'=>exact absurd (jaK _ _ (PySem.mem_of_lookup q)) hx
   | none=>rw [q,Option.none_or] at e; exact .inr ⟨hx,e⟩
 ·obtain ⟨c,e⟩:=own x (PySem.mem_of_lookup hx)
  exact ⟨c,by rw [look,e,Option.some_or],(ok.empty x c (PySem.mem_of_lookup e)).2⟩
 ·rw [look]
  cases q:(cellsFrom (lo + 1) scope.names []).lookup x with
  | some c'=>exact absurd (jaK _ _ (PySem.mem_of_lookup q)) hx
  | none=>rw [Option.none_or]; exact hc
 ·rw [look] at e1 e2
  have new:∀ x,((cellsFrom (lo + 1) scope.names []).lookup x).or (cl.lookup x)=some c->(cellsFrom (lo + 1) scope.names []).lookup x=some c:=fun x e=>by
   cases q:(cellsFrom (lo + 1) scope.names []).lookup x with
   | some c'=>rw [q,Option.some_or] at e; exact e
   | none=>
    rw [q,Option.none_or] at e
    exact absurd (Nat.lt_of_lt_of_le hc (hcl x c e)) (Nat.lt_irrefl _)
  exact name_of_addr ok.apart (PySem.mem_of_lookup (new x e1)) (PySem.mem_of_lookup (new y e2))
theorem jbF {M:Model}{A:Around}{E:Value->Shared->Prop}{s:Shared}{scope:Scope}{globals:Addr}{cl:List (Str×Addr)}{qual:Str}{env:Env}{Q:Env->Shared->Prop}
  (hQ:Q (newEnv scope s.heap.objs.size globals (cellsFrom (s.heap.objs.size + 1) scope.names cl) qual none .none (some env) builtinsNs) { s with heap:=pushCells (s.heap.push { cls:=.type "dict",data:=.dict #[] }) scope.names }) :
  wpAny M A (newFunctionEnv scope globals cl [] qual none .none (some env)) Q E s:=by
 have sz:(s.heap.push { cls:=.type "dict",data:=.dict #[] }).objs.size=s.heap.objs.size + 1:=Heap.size_push ..
 unfold newFunctionEnv
 rw [if_pos (by rfl)]
 refine wpAny_bind (wpAny_alloc (wpAny_bind (wpAny_layCells _ (fun x k c=>by by_cases e:(k == NameKind.cell)=true <;> simp [e]) _ _ _ _ ?_)))
 rw [show Heap.objs (Shared.heap _)=(s.heap.push { cls:=.type "dict",data:=.dict #[] }).objs from rfl,sz]
 exact wpAny_bind (wpAny_pure (wpAny_pure hQ))

section
variable {X:Cx}{N:List Str}{scope:Scope}{cl:List (Str×Addr)}{C:Addr}{s₀:Shared}{H₀:Hp}{fp:List Addr}
theorem glc {x:Str}(h:scope.names.lookup x=some .globalImplicit):Gl (jad X N scope cl C s₀ H₀ fp) x:=jav (by decide) h
end

noncomputable def PIfs (X:Cx)(ifs:List Expr)(t:TT):Prop:=
 ∀ (pins:List (Addr×Obj)) (s:Shared) (σ:St) (H:Hp) (Q:Bool->Hp->Prop),Inv X pins σ H s->t σ H Q->
  wpAny (model X.prog X.w) X.A (jdr X.env ifs) (TP X pins σ Q) X.xe s
noncomputable def jmN:TT:=fun _ H Q=>Q true H
theorem ji4 {X:Cx}:PIfs X [] jmN:=fun _ _ _ H _ I h=>wpAny_tests_nil ⟨H,I,h⟩
theorem ji3 {X:Cx}{c:Expr}{t:TT}(h:PT X c t):PIfs X [c] t:=fun pins s σ H Q I q=>wpAny_tests_one (h pins s σ H Q I q)

noncomputable abbrev TEm:=St->List V->Hp->(St->List V->Hp->Prop)->Prop
noncomputable def jfp (J:It)(g:TG)(tt:TT)(tem:TEm)(QQ:St->List V->Hp->Prop)(τ0:St)(ys0:List V)(H1:Hp):Prop:=∃ W:Nat->Nat->St->List V->Hp->Prop,
 (∃ m,W 0 m τ0 ys0 H1)/\∀ i m τ ys H,W i m τ ys H->
  (J.stop i H/\QQ τ ys H)\/(J.go i H/\∀ x H',J.yld i H x H'->g x τ H' fun τ2 H2=>tt τ2 H2 fun b H3=>if b=true then tem τ2 ys H3 fun τ3 ys' H4=>∃ m',m' < m/\W (i + 1) m' τ3 ys' H4
   else ∃ m',m' < m/\W (i + 1) m' τ2 ys H3)
noncomputable def emA (te:TE)(D:Addr):TEm:=fun τ ys H Q=>te τ H fun v H4=>H4 D=some (.lst ys)/\ys.length < sizeLine/\Q τ (ys++[v]) (upd H4 D (.lst (ys++[v])))
noncomputable def em2 (wi:TI)(g:TG)(tt:TT)(te:TE)(D:Addr):TEm:=fun τ ys H Q=>wi τ H fun J H1=>jfp J g tt (emA te D) Q τ ys H1
noncomputable def LcGG (J:It)(g:TG)(tt:TT)(tem:Addr->TEm)(D:Addr)(τ0:St)(Q:VK)(H1:Hp):Prop:=jfp J g tt (tem D) (fun _ _ H=>Q (.ref D) H) τ0 [] (upd H1 D (.lst []))
noncomputable def PEm (Y:Cx)(em:Sem Unit)(tem:TEm):Prop:=∀ (pins:List (Addr×Obj)) (s:Shared) (τ:St) (ys:List V) (H:Hp) (Q:St->List V->Hp->Prop),Inv Y pins τ H s->tem τ ys H Q->
 wpAny (model Y.prog Y.w) Y.A em (fun _ s'=>∃ τ' ys' H',Inv Y pins τ' H' s'/\Q τ' ys' H') Y.xe s
noncomputable def tLcG (pick:List (Option Nat))(wi:TI)(g:TG)(tt:TT)(tem:Addr->TEm):TE:=fun σ H Q=>wi σ H fun J H1=>∀ D,H1 D=none->LcGG J g tt tem D (pick.map fun o=>o.bind fun j=>(σ[j]?).join) Q H1
noncomputable abbrev tLc (pick:List (Option Nat))(wi:TI)(g:TG)(tt:TT)(te:TE):TE:=tLcG pick wi g tt (emA te)
noncomputable abbrev tLc2 (pick:List (Option Nat))(wi:TI)(g:TG)(tt:TT)(wi2:TI)(g2:TG)(tt2:TT)(te:TE):TE:=tLcG pick wi g tt (em2 wi2 g2 tt2 te)

section
variable {X:Cx}{N:List Str}{pick:List (Option Nat)}{scope:Scope}{pins:List (Addr×Obj)}{σ:St}{s s3:Shared}{H H3:Hp}

theorem jfM {cl cs : List (Str × Addr)}{fp : List Addr}{h₁ : Heap}{tk : Nat}{mB : Str -> Option Value}(S : CScope X N pick scope)(I3 : Inv X pins σ H3 s3)(hf : ∀ b ∈ fp, FpOk X pins H3 b)(hlt : ∀ b ∈ fp, b < s3.heap.objs.size)
    (c1 : ∀ x c, cl.lookup x = some c -> X.env.cells.lookup x = some c) (c2 : ∀ y ∈ scope.names, y.2 = .free -> ∃ c, cl.lookup y.1 = some c) (B : BCells scope cl cs s3.heap.objs.size h₁)
    (hns : h₁.Ns s3.heap.objs.size mB) (hk : ∀ b o, s3.heap.get? b = some o -> h₁.get? b = some o) :
    Inv (jad X N scope cs s3.heap.objs.size s3 H3 fp) [] (pick.map fun o => o.bind fun j => (σ[j]?).join) H3 { s3 with heap := h₁, toks := tk } := by
  have fsub : ∀ b ∈ frs X.stack, b ∈ X.env.locals :: X.fs := I3.stkSub
  have oc : ∀ x c, cs.lookup x = some c -> X.env.cells.lookup x = some c \/ s3.heap.objs.size < c := fun x c e => by
    rcases B.lk x c e with ⟨_, z, _⟩ | ⟨_, z⟩
    · exact .inr z
    · exact .inl (c1 x c z)
  have has : ∀ x, ((x, NameKind.free) ∈ scope.names \/ (x, NameKind.cell) ∈ scope.names) -> ∃ c, cs.lookup x = some c := fun x hx => by
    by_cases hc : (x, NameKind.cell) ∈ scope.names
    · obtain ⟨c, e, _⟩ := B.own x (S.cells _ hc rfl)
      exact ⟨c, e⟩
    · rcases hx with hx | hx
      · obtain ⟨c, e⟩ := c2 _ hx rfl
        exact ⟨c, B.old x c hc e⟩
      · exact absurd hx hc
  refine ⟨⟨I3.ok.mod, S.kind, I3.ok.glob, I3.ok.blt, Nat.le_refl _, fun x y c e1 e2 => ?_, fun x hx => has x (jbc hx), fun x c z e => ?_, I3.ok.hd, I3.ok.frames, .inl rfl, fun b hb => ⟨Nat.ne_of_lt (hlt b hb), fun x c e => ?_⟩,
      I3.bs, Nat.le_trans I3.ok.bsz I3.sz, fun b o e hb => ?_, fun b hb hm => ?_, I3.stack, I3.stkFree⟩,
    rfl, I3.bare, Un.kept hk, ⟨_, hns, fun i x v e1 e2 e3 => ?_⟩, fun x c e => ?_, I3.hok.fresh (Nat.le_refl _), fun x c e => ?_, fun p hp => absurd (show p ∈ ([] : List (Addr × Obj)) from hp) (by simp), I3.hok.kept hk, ?_⟩
  · by_cases hc : s3.heap.objs.size < c
    · exact B.inj x y c e1 e2 hc
    · exact I3.ok.inj x y c ((oc x c e1).resolve_right hc) ((oc y c e2).resolve_right hc)
  · have z' : scope.names.lookup x = some .cell := eq_of_beq z
    rcases B.lk x c e with ⟨_, y, _⟩ | ⟨y, _⟩
    · exact Nat.le_of_lt y
    · exact absurd (PySem.mem_of_lookup z') y
  · rcases oc x c e with z | z
    · exact (hf b hb).2.2.2.2.1 x c z
    · intro q
      rw [q] at z
      exact absurd (Nat.lt_trans z (hlt b hb)) (Nat.lt_irrefl _)
  · rcases (hf b hb).2.2.2.1 with z | z
    · exact I3.ok.noex b o e z
    · exact absurd (Nat.lt_of_lt_of_le (Heap.lt_size e) (Nat.le_trans I3.ok.bsz z)) (Nat.lt_irrefl _)
  · rcases List.mem_cons.mp (fsub b hm) with z | z
    · exact (hf b hb).2.1 z
    · exact (hf b hb).2.2.1 z
  · -- a captured name
    have e2' : ∃ j, pick[i]? = some (some j) /\ σ[j]? = some (some v) := by
      rw [List.getElem?_map] at e2
      cases q : pick[i]? with
      | none => rw [q] at e2; cases e2
      | some o =>
        rw [q] at e2
        cases o with
        | none => simp at e2
        | some j =>
          simp at e2
          refine ⟨j, rfl, ?_⟩
          cases q2 : σ[j]? with
          | none => rw [q2] at e2; cases e2
          | some w' => rw [q2] at e2; simp at e2; rw [e2]
    obtain ⟨j, ej, ev⟩ := e2'
    obtain ⟨hN, hfr⟩ := S.caps i j x e1 ej
    have hmem : (x, NameKind.free) ∈ scope.names := PySem.mem_of_lookup hfr
    have hnc : (x, NameKind.cell) ∉ scope.names := fun z => by
      have := S.cells _ z rfl
      rw [hfr] at this; cases this
    obtain ⟨_, hkind⟩ := S.fre _ hmem rfl
    obtain ⟨m, hn, hl⟩ := I3.loc
    obtain ⟨u, r, l⟩ := hl j x v hN ev (hkind.elim (fun z => .inr (.inl z)) fun z => .inr (.inr z))
    refine ⟨u, r, .inr ⟨?_, ?_⟩⟩
    · exact jaM (env := X.env) hfr
    · obtain ⟨c, hc⟩ := c2 _ hmem rfl
      have hc' := c1 _ _ hc
      rcases l with ⟨z, _⟩ | ⟨_, c', e, o, ho, hd⟩
      · rcases hkind with y | y
        · rw [y] at z; cases z
        · rw [y] at z; cases z
      · have : c' = c := by rw [hc'] at e; exact (Option.some.inj e).symm
        subst this
        exact ⟨c', B.old x c' hnc hc, o, hk _ _ ho, hd⟩
  · rcases B.lk x c e with ⟨_, _, z⟩ | ⟨_, z⟩
    · exact ⟨none, z⟩
    · obtain ⟨v, o, ho, hd⟩ := I3.cell x c (c1 x c z)
      exact ⟨v, o, hk _ _ ho, hd⟩
  · rcases oc x c e with z | z
    · exact I3.freeC x c z
    · exact I3.hok.fresh (Nat.le_of_lt z)
  · rw [List.length_map]
    exact S.len

theorem jhQ {cl:List (Str×Addr)}{fp:List Addr}{C:Addr}{τ:St}{H':Hp}{s':Shared}{pins':List (Addr×Obj)}(I3:Inv X pins σ H3 s3)(hf:∀ b∈fp,FpOk X pins H3 b)(J:Inv (jad X N scope cl C s3 H3 fp) pins' τ H' s') :
  Inv X pins σ H' s':=I3.call' J.os J.base J.hok J.bare fun b hb=>⟨(hf b hb).2.2.2.1,(hf b hb).2.1,(hf b hb).2.2.2.2.1,(hf b hb).2.2.2.2.2⟩

theorem jgv {Y:Cx}{elt tg:Expr}{gens:List Comprehension}{pos ip:Pos}{ifs:List Expr}{dp:Nat}{acc:Value}{em:Sem Unit}{g:TG}{tt:TT}{tem:TEm}{J:It}{fp:List Addr}{it:Addr}{tn:Nat->Heap->Prop}{QQ:St->List V->Hp->Prop}{τ0:St}{ys0:List V}
  (yc:Y.calm=true) (yxe:Y.xe=fun _ _=>False)
  (hct:compTurn (.ListComp elt gens scope pos) dp (.ref it) acc Y.env=jbw ip tg ifs (.ref it) Y.env em (.compLoop (.ListComp elt gens scope pos) dp (.ref it) acc Y.env))
  (yg:PG Y tg g) (yi:PIfs Y ifs tt) (ym:PEm Y em tem) (J0:Inv Y pins τ0 H s) (T:Turn Y.prog Y.w Y.K tg J fp it tn) (t0:tn 0 s.heap) (f0:∀ b∈fp,FpOk Y pins H b) (hW:jfp J g tt tem QQ τ0 ys0 H) :
  codeAny (model Y.prog Y.w) Y.A (.compLoop (.ListComp elt gens scope pos) dp (.ref it) acc Y.env) (fun r s'=>r=.ok .next/\∃ τ' ys' H',Inv Y pins τ' H' s'/\QQ τ' ys' H') s:=by
 obtain ⟨W,⟨m0,w0⟩,turn⟩:=hW
 have stat:∀ {H':Hp},(∀ b∈fp,H' b=none)->∀ b∈fp,FpOk Y pins H' b:=fun hn b hb=>⟨hn b hb,(f0 b hb).2⟩
 refine jek (fun n s'=>∃ i τ ys H',Inv Y pins τ H' s'/\tn i s'.heap/\(∀ b∈fp,H' b=none)/\W i n τ ys H') hct ?_ m0 ⟨0,_,ys0,_,J0,t0,fun b hb=>(f0 b hb).1,w0⟩
 rintro n s4 ⟨i,τ,ys,H4,J4,t4,fr4,w4⟩
 rcases turn i n τ ys H4 w4 with ⟨stop,q⟩ | ⟨go,step⟩
 ·refine wpAny_mono (T.done Y rfl rfl rfl yc i pins s4 τ H4 (fun _ _=>False) J4 (stat fr4) t4 stop) (fun r s5 ⟨hr,J5⟩=>?_) fun _ _ f=>f
  subst hr
  exact ⟨rfl,τ,ys,H4,J5,q⟩
 ·refine wpAny_mono (T.item Y rfl rfl rfl yc i pins s4 τ H4 (fun _ _=>False) J4 (stat fr4) t4 go) (fun r s5 ⟨u,hr,h5⟩=>?_) fun _ _ f=>f
  subst hr
  refine wpAny_mono h5 (fun _ s6 ⟨x,H6,J6,r6,y6,t6,fr6⟩=>?_) fun _ _ f=>f
  have J6':=J6.pinned (stat fr6) (T.obj _ _ t6)
  have ag:=yg _ s6 τ H6 x u _ J6' r6 (step x H6 y6)
  rw [yxe] at ag
  refine wpAny_mono ag (fun _ s7 ⟨τ7,H7,J7,q7⟩=>?_) fun _ _ f=>f
  have ai:=yi _ s7 τ7 H7 _ J7 q7
  rw [yxe] at ai
  refine wpAny_mono ai (fun ok s8 ⟨H8,J8,q8⟩=>?_) fun _ _ f=>f
  have again:∀ {τ9:St} {H9:Hp} {s9:Shared} {zs:List V},Inv Y (pins++jdQ fp s6.heap) τ9 H9 s9->(∃ m',m' < n/\W (i + 1) m' τ9 zs H9)->∃ m,m < n/\∃ i τ ys H',Inv Y pins τ H' s9/\tn i s9.heap/\(∀ b∈fp,H' b=none)/\W i m τ ys H':=fun {τ9 H9 s9 zs} J9 ⟨m',hm,w9⟩=>by
   refine ⟨m',hm,i + 1,τ9,zs,H9,J9.unpinned,T.keep _ _ _ t6 fun b hb o e=>(J9.pin (b,o) (List.mem_append_right _ (List.mem_append_right _ (jbo hb e)))).1,fun b hb=>?_,w9⟩
   obtain ⟨o,e,d⟩:=T.obj _ _ t6 b hb
   exact (J9.pin (b,o) (List.mem_append_right _ (List.mem_append_right _ (jbo hb e)))).2.1
  cases ok with
  | false=>exact again J8 q8
  | true=>
   have am:=ym _ s8 τ7 ys H8 _ J8 q8
   rw [yxe] at am
   exact wpAny_mono am (fun _ s9 ⟨τ9,zs,H9,J9,q9⟩=>again J9 q9) fun _ _ f=>f
theorem jgQ {Y:Cx}{elt:Expr}{te:TE}{D:Addr}(yxe:Y.xe=fun _ _=>False)(he:PE Y elt te):PEm Y (do let _ <- call (.builtin "list.append") [.ref D,<- eval elt Y.env]) (emA te D):=by
 intro pins s τ ys H Q J q
 have ae:=he _ s τ H _ J q
 refine wpAny_bind (wpAny_mono ae (fun v s9 ⟨z,H9,J9,r9,hD9,hz9,q9⟩=>?_) fun _ _ f=>f)
 have aa:=jd4 (X:=Y) _ s9 τ H9 (.ref D) [z] (.ref D) [v] (fun x H'=>H'=upd H9 D (.lst (ys++[z]))) J9 rfl (.cons r9 .nil) ⟨_,ys,z,rfl,rfl,hD9,hz9,rfl⟩
 refine wpAny_bind (wpAny_mono aa (fun _ s10 ⟨_,H10,J10,_,e10⟩=>?_) fun _ _ f=>f)
 subst e10
 exact wpAny_pure ⟨τ,_,_,J10,q9⟩
theorem jis {Y:Cx}{g1:Comprehension}{t2 i2 elt:Expr}{f2:List Expr}{pos:Pos}{te:TE}{wi:TI}{g:TG}{tt:TT}{D:Addr}(yc:Y.calm=true)(yxe:Y.xe=fun _ _=>False)(hw:PI Y t2 i2 wi)(hg:PG Y t2 g)(hi:PIfs Y f2 tt)(he:PE Y elt te)
  (hs:∀ x,foldedSetIterable i2 Y.env x=pure x) :
  PEm Y (do
   let x <- eval i2 Y.env
   standAt i2.pos
   let x <- foldedSetIterable i2 Y.env x
   let _ <- runOwn (.compStart (.ListComp elt [g1,⟨t2,i2,f2,0⟩] scope pos) 1 (<- holding [x] (pyIter x)) (.ref D) Y.env) Y.env) (em2 wi g tt te D):=by
 intro pins s τ ys H Q J q
 refine wpAny_bind (thn (hw pins s τ H _ J q) fun v s1 h1=>wpAny_bind (wpAny_standAt (wpAny_bind (wpAny_of_eq (hs v) (wpAny_bind (wpAny_holding (thn h1 fun itv s2 h2=>?_)))))))
 obtain ⟨it,fp,tn,J2,H2,e,I2,T,st2,f2',hW⟩:=h2
 subst e
 have lp:=jgv (s:=s2) (acc:=.ref D) (em:=do let _ <- call (.builtin "list.append") [.ref D,<- eval elt Y.env]) (gens:=[g1,⟨t2,i2,f2,0⟩]) (dp:=1) (ip:=i2.pos) (pos:=pos) (scope:=scope) (elt:=elt) (ifs:=f2) yc yxe rfl hg hi (jgQ yxe he) I2 T st2 f2' hW
 refine wpAny_bind (wpAny_runOwn (codeAny_mono (jbl lp (T.self _ 0 _ _ _ st2 lp)) fun r s3 ⟨hr,τ',ys',H',I',q'⟩=>?_))
 subst hr
 exact wpAny_pure ⟨τ',ys',H',I',q'⟩
theorem je7 {tg iter elt:Expr}{ifs:List Expr}{rest:List Comprehension}{pos:Pos}{g:TG}{tt:TT}{tem:Addr->TEm}{em:Addr->Env->Sem Unit}{J:It}{fp:List Addr}{it:Addr}{tn:Nat->Heap->Prop}{cl:List (Str×Addr)}{Q:VK}{E:Value->Shared->Prop}{RR:Value->Addr->Result->Shared->Prop}
  (hc:X.calm=true) (S:CScope X N pick scope) (c1:∀ x c,cl.lookup x=some c->X.env.cells.lookup x=some c) (c2:∀ y∈scope.names,y.2=.free->∃ c,cl.lookup y.1=some c)
  (hg:∀ cl C s₀ H₀ fp,PG (jad X N scope cl C s₀ H₀ fp) tg g) (hi:∀ cl C s₀ H₀ fp,PIfs (jad X N scope cl C s₀ H₀ fp) ifs tt) (he:∀ D cl C s₀ H₀ fp,PEm (jad X N scope cl C s₀ H₀ fp) (em D (jad X N scope cl C s₀ H₀ fp).env) (tem D))
  (hct:∀ (it:Value) (D:Addr) (env:Env),compTurn (.ListComp elt (⟨tg,iter,ifs,0⟩::rest) scope pos) 0 it (.ref D) env=jbw iter.pos tg ifs it env (em D env) (.compLoop (.ListComp elt (⟨tg,iter,ifs,0⟩::rest) scope pos) 0 it (.ref D) env))
  (I2:Inv X pins σ H s) (T:Turn X.prog X.w X.K tg J fp it tn) (st:tn 0 s.heap) (hf:∀ b∈fp,FpOk X pins H b)
  (hW:∀ D,H D=none->LcGG J g tt tem D (pick.map fun o=>o.bind fun j=>(σ[j]?).join) Q H)
  (hRR:∀ D C H' s',Inv X pins σ H' s'->(∃ m,s'.heap.Ns C m)->FpOk X pins H' C->Q (.ref D) H'->RR (.ref D) C (.ok .next) s') :
  wpAny (model X.prog X.w) X.A (newList []) (fun acc s₃=>wpAny (model X.prog X.w) X.A (newFunctionEnv scope X.env.globals cl [] X.env.qual none .none (some X.env)) (fun cenv s₄=>
   codeAny (model X.prog X.w) X.A (.compStart (.ListComp elt (⟨tg,iter,ifs,0⟩::rest) scope pos) 0 (.ref it) acc { cenv with scope:=relabel scope X.env }) (RR acc cenv.locals) s₄) E s₃) E s:=by
 have hD:H s.heap.objs.size=none:=I2.hok.fresh (Nat.le_refl _)
 have hlt:∀ b∈fp,b < s.heap.objs.size:=fun b hb=>let ⟨o,e,_⟩:=T.obj _ _ st b hb; Heap.lt_size e
 refine wpAny_newObj_type (jbF ?_)
 have I3:Inv X pins σ (upd H s.heap.objs.size (.lst [])) { s with heap:=s.heap.push { cls:=.type "list",dict:=none,data:=.seq ([]:List Value).toArray } }:=
  I2.laid (t':=s.toks) (fun b u e=>Heap.get?_push_of_some _ e) (Nat.le_refl _) ⟨Nat.zero_le _,[],0,.nil,Heap.get?_push_size _ rfl⟩
 generalize hs3:({ s with heap:=s.heap.push { cls:=.type "list",dict:=none,data:=.seq ([]:List Value).toArray } }:Shared)=s3 at I3 ⊢
 have hsz:s3.heap.objs.size=s.heap.objs.size + 1:=by rw [<- hs3]; exact Heap.size_push ..
 have hf3:∀ b∈fp,FpOk X pins (upd H s.heap.objs.size (.lst [])) b:=fun b hb=>⟨by rw [jai (Nat.ne_of_lt (hlt b hb))]; exact (hf b hb).1,(hf b hb).2⟩
 have hsz':(s3.heap.push { cls:=.type "dict",data:=.dict #[] }).objs.size=s3.heap.objs.size + 1:=Heap.size_push ..
 have hk:∀ b o,s3.heap.get? b=some o->(pushCells (s3.heap.push { cls:=.type "dict",data:=.dict #[] }) scope.names).get? b=some o:=fun b o e=>pushCells_keeps _ _ b o (Heap.get?_push_of_some _ e)
 have hns₁:(pushCells (s3.heap.push { cls:=.type "dict",data:=.dict #[] }) scope.names).Ns s3.heap.objs.size fun _=>none:=(Heap.Ns.new s3.heap (.type "dict")).keeps (pushCells_keeps _ _)
 have B:=jg5 (cl:=cl) hsz' S.cells fun x c e=>by
  obtain ⟨v,z⟩:=I3.cell x c (c1 x c e)
  exact Nat.le_of_lt z.lt
 generalize pushCells (s3.heap.push { cls:=.type "dict",data:=.dict #[] }) scope.names=h₁ at hk hns₁ B ⊢
 generalize cellsFrom (s3.heap.objs.size + 1) scope.names cl=cs at B ⊢
 have c1':∀ x c,cs.lookup x=some c->X.env.cells.lookup x=some c\/s3.heap.objs.size < c:=fun x c e=>by
  rcases B.lk x c e with ⟨_,z,_⟩ | ⟨_,z⟩
  ·exact .inr z
  ·exact .inl (c1 x c z)
 have st1:tn 0 h₁:=T.keep _ _ _ st fun b _ o e=>hk b o (by rw [<- hs3]; exact Heap.get?_push_of_some _ e)
 have IY:Inv (jad X N scope cs s3.heap.objs.size s3 (upd H s.heap.objs.size (.lst [])) fp) [] (pick.map fun o=>o.bind fun j=>(σ[j]?).join) (upd H s.heap.objs.size (.lst [])) { s3 with heap:=h₁ }:=
  jfM (tk:=s3.toks) S I3 hf3 (fun b hb=>Nat.lt_of_lt_of_le (hlt b hb) (by omega)) c1 c2 B hns₁ hk
 generalize hY:jad X N scope cs s3.heap.objs.size s3 (upd H s.heap.objs.size (.lst [])) fp=Y at IY
 have yg:PG Y tg g:=hY ▸ hg _ _ _ _ _
 have yi:PIfs Y ifs tt:=hY ▸ hi _ _ _ _ _
 have ye:PEm Y (em s.heap.objs.size Y.env) (tem s.heap.objs.size):=hY ▸ he _ _ _ _ _ _
 have yprog:Y.prog=X.prog:=by rw [<- hY]; rfl
 have yw:Y.w=X.w:=by rw [<- hY]; rfl
 have yK:Y.K=X.K:=by rw [<- hY]; rfl
 have yA:Y.A=X.A:=by rw [<- hY]; rfl
 have yc:Y.calm=true:=by rw [<- hY]; exact hc
 have yenv:Y.env=compEnvC scope cs s3.heap.objs.size X.env:=by rw [<- hY]; rfl
 have yex:∀ b,b∈Y.ex↔b∈fp:=fun b=>by rw [<- hY]; rfl
 have yxe:Y.xe=fun _ _=>False:=by rw [<- hY]; rfl
 have ypn:Y.pn=[]:=by rw [<- hY]; rfl
 have yfs:∀ b,b∈Y.fs->b∈X.env.locals::X.fs:=fun b hb=>I3.stkSub b (by rw [<- hY] at hb; exact hb)
 have stat:∀ {H':Hp},(∀ b∈fp,H' b=none)->∀ b∈fp,FpOk Y [] H' b:=fun hn b hb=>by
  refine ⟨hn b hb,?_,fun hm=>?_,.inl ((yex b).mpr hb),fun x c e=>?_,fun p hp=>?_⟩
  ·rw [yenv]
   show b≠s3.heap.objs.size
   exact Nat.ne_of_lt (Nat.lt_of_lt_of_le (hlt b hb) (by omega))
  ·rcases List.mem_cons.mp (yfs b hm) with z | z
   ·exact (hf b hb).2.1 z
   ·exact (hf b hb).2.2.1 z
  ·rw [yenv] at e
   rcases c1' x c e with z | z
   ·exact (hf b hb).2.2.2.2.1 x c z
   ·intro q
    rw [q] at z
    exact absurd (Nat.lt_trans z (Nat.lt_of_lt_of_le (hlt b hb) (by omega))) (Nat.lt_irrefl _)
  ·rw [ypn] at hp; simp at hp
 have fin:∀ {τ:St} {H':Hp} {s':Shared},Inv Y [] τ H' s'->Q (.ref s.heap.objs.size) H'->RR (.ref s.heap.objs.size) s3.heap.objs.size (.ok .next) s':=fun {τ H' s'} J q=>by
  have fr:H' s3.heap.objs.size=none:=by have:=J.free; rw [yenv] at this; exact this
  obtain ⟨m,hn,_⟩:=J.loc
  rw [yenv] at hn
  exact hRR _ _ H' s' (jhQ I3 hf3 (hY ▸ J)) ⟨m,hn⟩ (I3.fpOk (Nat.le_refl _) fr) q
 have hn:∀ b∈fp,upd H s.heap.objs.size (.lst []) b=none:=fun b hb=>(hf3 b hb).1
 have lp:=jgv (pins:=[]) (s:={ s3 with heap:=h₁ }) (acc:=.ref s.heap.objs.size) (ifs:=ifs) (em:=em s.heap.objs.size Y.env) yc yxe (hct (.ref it) s.heap.objs.size Y.env) yg yi ye IY (by rw [yprog,yw,yK]; exact T) st1 (stat hn) (hW _ hD)
 rw [yprog,yw,yA,yenv] at lp
 have lp:=codeAny_mono lp (R':=RR (.ref s.heap.objs.size) s3.heap.objs.size) fun r s' ⟨hr,τ',ys',H',I',q'⟩=>by subst hr; exact fin I' q'
 show codeAny (model X.prog X.w) X.A (.compStart (.ListComp elt (⟨tg,iter,ifs,0⟩::rest) scope pos) 0 (.ref it) (.ref s.heap.objs.size) (compEnvC scope cs s3.heap.objs.size X.env)) (RR (.ref s.heap.objs.size) s3.heap.objs.size) _
 exact codeAny_compStart_list lp (T.self _ 0 _ _ _ st1 lp)

theorem jeR {elt tg iter t2 i2:Expr}{ifs f2:List Expr}{scope:Scope}{pos:Pos}(it:Value)(D:Addr)(env:Env):compTurn (.ListComp elt [⟨tg,iter,ifs,0⟩,⟨t2,i2,f2,0⟩] scope pos) 0 it (.ref D) env=jbw iter.pos tg ifs it env (eval i2 env >>= fun x=>standAt i2.pos >>= fun _=>foldedSetIterable i2 env x >>= fun x=>holding [x] (pyIter x) >>= fun i=>runOwn (.compStart (.ListComp elt [⟨tg,iter,ifs,0⟩,⟨t2,i2,f2,0⟩] scope pos) 1 i (.ref D) env) env >>= fun _=>pure ()) (.compLoop (.ListComp elt [⟨tg,iter,ifs,0⟩,⟨t2,i2,f2,0⟩] scope pos) 0 it (.ref D) env):=by
 unfold compTurn jbw jdr
 simp only [bind_assoc]
 rfl
theorem jh6 {tg iter elt:Expr}{ifs:List Expr}{pos:Pos}{wi:TI}{g:TG}{tt:TT}{rest:List Comprehension}{tem:Addr->TEm}{em:Addr->Env->Sem Unit}(hc:X.calm=true)(S:CScope X N pick scope)(hw:PI X tg iter wi)
  (hg:∀ cl C s₀ H₀ fp,PG (jad X N scope cl C s₀ H₀ fp) tg g) (hi:∀ cl C s₀ H₀ fp,PIfs (jad X N scope cl C s₀ H₀ fp) ifs tt) (he:∀ D cl C s₀ H₀ fp,PEm (jad X N scope cl C s₀ H₀ fp) (em D (jad X N scope cl C s₀ H₀ fp).env) (tem D))
  (hct:∀ (it:Value) (D:Addr) (env:Env),compTurn (.ListComp elt (⟨tg,iter,ifs,0⟩::rest) scope pos) 0 it (.ref D) env=jbw iter.pos tg ifs it env (em D env) (.compLoop (.ListComp elt (⟨tg,iter,ifs,0⟩::rest) scope pos) 0 it (.ref D) env))
  (hs:∀ x,foldedSetIterable iter X.env x=pure x:=by intro _; rfl):PE X (.ListComp elt (⟨tg,iter,ifs,0⟩::rest) scope pos) (tLcG pick wi g tt tem):=by
 intro pins s σ H Q I h
 obtain ⟨cl,hclos,c1,c2⟩:=jdh (scope:=scope) (env:=X.env) fun y hy hf=>I.ok.has _ (S.fre y hy hf).2
 rw [eval_ListComp]
 refine wpAny_comprehension_free (use:=none) rfl hs hclos S.kind S.names (thn (hw pins s σ H _ I h) fun v s1 h1=>thn h1 fun itv s2 h2=>?_)
 obtain ⟨it,fp,tn,J,H2,e,I2,T,st2,f2,hW⟩:=h2
 subst e
 refine je7 (RR:=fun acc C=>compPost (model X.prog X.w) X.A X.xe none (EP X pins σ Q) acc C) hc S c1 c2 hg hi he hct I2 T st2 f2 hW fun D C H' s' J' ⟨m,hn⟩ fC q=>?_
 refine ⟨m,hn,fun h' hs'=>⟨.ref D,H',?_,rfl,q⟩⟩
 exact J'.turned (t':=s'.toks) (it:=C) (fun b o hb e=>hs'.extBut b o hb e) fC.1 fC.2.1 fC.2.2.2.1 fC.2.2.2.2.1 fC.2.2.2.2.2

theorem jh3 {tg iter elt:Expr}{ifs:List Expr}{pos py spos:Pos}{wi:TI}{g:TG}{tt:TT}{rest:List Comprehension}{tem:Addr->TEm}{em:Addr->Env->Sem Unit}{i:Nat}{y:Str}(hN:X.N.Nodup)(hi':X.N[i]?=some y)(hy:X.env.scope.names.lookup y=some .local)(hc:X.calm=true)(S:CScope X N pick scope)(hw:PI X tg iter wi)
  (hg:∀ cl C s₀ H₀ fp,PG (jad X N scope cl C s₀ H₀ fp) tg g) (hi:∀ cl C s₀ H₀ fp,PIfs (jad X N scope cl C s₀ H₀ fp) ifs tt) (he:∀ D cl C s₀ H₀ fp,PEm (jad X N scope cl C s₀ H₀ fp) (em D (jad X N scope cl C s₀ H₀ fp).env) (tem D))
  (hct:∀ (it:Value) (D:Addr) (env:Env),compTurn (.ListComp elt (⟨tg,iter,ifs,0⟩::rest) scope pos) 0 it (.ref D) env=jbw iter.pos tg ifs it env (em D env) (.compLoop (.ListComp elt (⟨tg,iter,ifs,0⟩::rest) scope pos) 0 it (.ref D) env))
  (hsw:swapsWith (.ListComp elt (⟨tg,iter,ifs,0⟩::rest) scope pos) (some (.Name y py)) spos.line X.env=pure true) (hs:∀ x,foldedSetIterable iter X.env x=pure x:=by intro _; rfl) :
  PS X (.Assign [.Name y py] (.ListComp elt (⟨tg,iter,ifs,0⟩::rest) scope pos) spos) (tAsg (tLcG pick wi g tt tem) (jgM i)):=by
 intro pins s σ H D0 I h
 obtain ⟨cl,hclos,c1,c2⟩:=jdh (scope:=scope) (env:=X.env) fun y hy hf=>I.ok.has _ (S.fre y hy hf).2
 rw [exec_Assign_Name_used _ _ _ _ hsw]
 refine wpAny_bind (wpAny_standAt (wpAny_bind ?_))
 show wpAny _ _ (do let _ <- comprehension (.ListComp elt (⟨tg,iter,ifs,0⟩::rest) scope pos) scope X.env _ (newList []) false (eval iter X.env) (some (assign (.Name y py) X.env))) _ _ s
 refine wpAny_bind (thn (wpAny_comprehension_free (use:=some (assign (.Name y py) X.env)) (Q:=fun _ s'=>SP X pins D0 .next s') rfl hs hclos S.kind S.names
  (thn (hw pins s σ H _ I h) fun v s1 h1=>thn h1 fun itv s2 h2=>?_)) fun _ s' hq=>wpAny_pure (wpAny_pure hq))
 obtain ⟨it,fp,tn,J,H2,e,I2,T,st2,f2,hW⟩:=h2
 subst e
 refine je7 (Q:=fun x H1=>jgM i x σ H1 D0.nx) (RR:=fun acc C=>compPost (model X.prog X.w) X.A X.xe (some (assign (.Name y py) X.env)) (fun _ s'=>SP X pins D0 .next s') acc C) hc S c1 c2 hg hi he hct I2 T st2 f2 hW fun D C H' s' J' ⟨m,hn⟩ fC q=>?_
 show wpAny _ _ (assign (.Name y py) X.env (.ref D)) _ _ _
 refine wpAny_assign_Name (jdK (v:=.ref D) J' hN hi' (.inl hy) rfl (fun s'' J'' ⟨a,sb,ha⟩=>?_) (.inr hy))
 have hne:C≠a:=by
  rcases ha with z | z
  ·rw [z]; exact fC.2.1
  ·exact fun e=>fC.2.2.2.2.1 y a z e.symm
 refine ⟨m,hn.sameBut sb hne,fun h' hs'=>?_⟩
 refine ⟨_,H',J''.turned (t':=s''.toks) (it:=C) (fun b o hb e=>hs'.extBut b o hb e) fC.1 fC.2.1 fC.2.2.2.1 fC.2.2.2.2.1 fC.2.2.2.2.2,q⟩
theorem jm5 {tg iter elt:Expr}{ifs:List Expr}{pos:Pos}{wi:TI}{g:TG}{tt:TT}{te:TE}(hc:X.calm=true)(S:CScope X N pick scope)(hw:PI X tg iter wi)
  (hg:∀ cl C s₀ H₀ fp,PG (jad X N scope cl C s₀ H₀ fp) tg g) (hi:∀ cl C s₀ H₀ fp,PIfs (jad X N scope cl C s₀ H₀ fp) ifs tt) (he:∀ cl C s₀ H₀ fp,PE (jad X N scope cl C s₀ H₀ fp) elt te)
  (hs:∀ x,foldedSetIterable iter X.env x=pure x:=by intro _; rfl):PE X (.ListComp elt [⟨tg,iter,ifs,0⟩] scope pos) (tLc pick wi g tt te):=
 jh6 (em:=fun D env=>do let _ <- call (.builtin "list.append") [.ref D,<- eval elt env]) (rest:=[]) hc S hw hg hi (fun D cl C s₀ H₀ fp=>jgQ rfl (he cl C s₀ H₀ fp)) (fun _ _ _=>rfl) hs
theorem jkX {tg iter elt : Expr}{ifs : List Expr}{pos : Pos}{wi : TI}{g : TG}{tt : TT}{te : TE}{t2 i2 : Expr}{f2 : List Expr}{wi2 : TI}{g2 : TG}{tt2 : TT}(hc : X.calm = true)(S : CScope X N pick scope)(hw : PI X tg iter wi)
    (hg : ∀ cl C s₀ H₀ fp, PG (jad X N scope cl C s₀ H₀ fp) tg g) (hi : ∀ cl C s₀ H₀ fp, PIfs (jad X N scope cl C s₀ H₀ fp) ifs tt) (he : ∀ cl C s₀ H₀ fp, PE (jad X N scope cl C s₀ H₀ fp) elt te)
    (hw2 : ∀ cl C s₀ H₀ fp, PI (jad X N scope cl C s₀ H₀ fp) t2 i2 wi2) (hg2 : ∀ cl C s₀ H₀ fp, PG (jad X N scope cl C s₀ H₀ fp) t2 g2) (hi2 : ∀ cl C s₀ H₀ fp, PIfs (jad X N scope cl C s₀ H₀ fp) f2 tt2) (hs2 : ∀ (env : Env) x, foldedSetIterable i2 env x = pure x)
    (hs : ∀ x, foldedSetIterable iter X.env x = pure x := by intro _; rfl) : PE X (.ListComp elt [⟨tg, iter, ifs, 0⟩, ⟨t2, i2, f2, 0⟩] scope pos) (tLc2 pick wi g tt wi2 g2 tt2 te) :=
  jh6 (em := (fun D env => do
      let x <- eval i2 env
      standAt i2.pos
      let x <- foldedSetIterable i2 env x
      let _ <- runOwn (.compStart (.ListComp elt [⟨tg, iter, ifs, 0⟩, ⟨t2, i2, f2, 0⟩] scope pos) 1 (<- holding [x] (pyIter x)) (.ref D) env) env)) (rest := [⟨t2, i2, f2, 0⟩]) hc S hw hg hi (fun D cl C s₀ H₀ fp => jis hc rfl (hw2 cl C s₀ H₀ fp) (hg2 cl C s₀ H₀ fp) (hi2 cl C s₀ H₀ fp) (he cl C s₀ H₀ fp) (hs2 _)) jeR hs
theorem jm1 {tg iter elt:Expr}{ifs:List Expr}{pos:Pos}{wi:TI}{g:TG}{tt:TT}{te:TE}{py spos:Pos}{i:Nat}{y:Str}(hN:X.N.Nodup)(hi':X.N[i]?=some y)(hy:X.env.scope.names.lookup y=some .local)(hc:X.calm=true)(S:CScope X N pick scope)(hw:PI X tg iter wi)
  (hg:∀ cl C s₀ H₀ fp,PG (jad X N scope cl C s₀ H₀ fp) tg g) (hi:∀ cl C s₀ H₀ fp,PIfs (jad X N scope cl C s₀ H₀ fp) ifs tt) (he:∀ cl C s₀ H₀ fp,PE (jad X N scope cl C s₀ H₀ fp) elt te)
  (hsw:swapsWith (.ListComp elt [⟨tg,iter,ifs,0⟩] scope pos) (some (.Name y py)) spos.line X.env=pure true) (hs:∀ x,foldedSetIterable iter X.env x=pure x:=by intro _; rfl):PS X (.Assign [.Name y py] (.ListComp elt [⟨tg,iter,ifs,0⟩] scope pos) spos) (tAsg (tLc pick wi g tt te) (jgM i)):=
 jh3 (em:=fun D env=>do let _ <- call (.builtin "list.append") [.ref D,<- eval elt env]) (rest:=[]) hN hi' hy hc S hw hg hi (fun D cl C s₀ H₀ fp=>jgQ rfl (he cl C s₀ H₀ fp)) (fun _ _ _=>rfl) hsw hs
theorem jkK {tg iter elt : Expr}{ifs : List Expr}{pos : Pos}{wi : TI}{g : TG}{tt : TT}{te : TE}{t2 i2 : Expr}{f2 : List Expr}{wi2 : TI}{g2 : TG}{tt2 : TT}{py spos : Pos}{i : Nat}{y : Str}(hN : X.N.Nodup)(hi' : X.N[i]? = some y)(hy : X.env.scope.names.lookup y = some .local)(hc : X.calm = true)(S : CScope X N pick scope)(hw : PI X tg iter wi)
    (hg : ∀ cl C s₀ H₀ fp, PG (jad X N scope cl C s₀ H₀ fp) tg g) (hi : ∀ cl C s₀ H₀ fp, PIfs (jad X N scope cl C s₀ H₀ fp) ifs tt) (he : ∀ cl C s₀ H₀ fp, PE (jad X N scope cl C s₀ H₀ fp) elt te)
    (hw2 : ∀ cl C s₀ H₀ fp, PI (jad X N scope cl C s₀ H₀ fp) t2 i2 wi2) (hg2 : ∀ cl C s₀ H₀ fp, PG (jad X N scope cl C s₀ H₀ fp) t2 g2) (hi2 : ∀ cl C s₀ H₀ fp, PIfs (jad X N scope cl C s₀ H₀ fp) f2 tt2) (hs2 : ∀ (env : Env) x, foldedSetIterable i2 env x = pure x)
    (hsw : swapsWith (.ListComp elt [⟨tg, iter, ifs, 0⟩, ⟨t2, i2, f2, 0⟩] scope pos) (some (.Name y py)) spos.line X.env = pure true) (hs : ∀ x, foldedSetIterable iter X.env x = pure x := by intro _; rfl) : PS X (.Assign [.Name y py] (.ListComp elt [⟨tg, iter, ifs, 0⟩, ⟨t2, i2, f2, 0⟩] scope pos) spos) (tAsg (tLc2 pick wi g tt wi2 g2 tt2 te) (jgM i)) :=
  jh3 (em := (fun D env => do
      let x <- eval i2 env
      standAt i2.pos
      let x <- foldedSetIterable i2 env x
      let _ <- runOwn (.compStart (.ListComp elt [⟨tg, iter, ifs, 0⟩, ⟨t2, i2, f2, 0⟩] scope pos) 1 (<- holding [x] (pyIter x)) (.ref D) env) env)) (rest := [⟨t2, i2, f2, 0⟩]) hN hi' hy hc S hw hg hi (fun D cl C s₀ H₀ fp => jis hc rfl (hw2 cl C s₀ H₀ fp) (hg2 cl C s₀ H₀ fp) (hi2 cl C s₀ H₀ fp) (he cl C s₀ H₀ fp) (hs2 _)) jeR hsw hs
end

mutual
inductive DV (K:PySem.W.Frag)(H:Hp):V->PyData->Prop
 | non:DV K H .non .none
 | bl (b:Bool):DV K H (.bl b) (.bool b)
 | int (i:Int):DV K H (.int i) (.int i)
 | str (x:Str):DV K H (.str x) (.str x)
 | tup {a:Addr} {xs:List V} {ds:List PyData}:SqT K H a xs->DVs K H xs ds->DV K H (.ref a) (.tuple ds)
 | lst {a:Addr} {xs:List V} {ds:List PyData}:Rd H a (.lst xs)->DVs K H xs ds->DV K H (.ref a) (.list ds)
 | dic {a:Addr}:H a=some (.dK [])->DV K H (.ref a) (.dict [])
inductive DVs (K:PySem.W.Frag)(H:Hp):List V->List PyData->Prop
 | nil:DVs K H [] []
 | cons {x:V} {d:PyData} {xs:List V} {ds:List PyData}:DV K H x d->DVs K H xs ds->DVs K H (x::xs) (d::ds)
end
section
variable {K:PySem.W.Frag}{H H':Hp}
end
mutual
noncomputable def noL:PyData->Bool
 | .list _=>false
 | .tuple xs=>noLs xs
 | .dict _=>false
 | .none | .bool _ | .int _ | .str _=>true
noncomputable def noLs:List PyData->Bool
 | []=>true
 | x::r=>noL x && noLs r
end
section
variable {K:PySem.W.Frag}{H H':Hp}
noncomputable def TK (H H':Hp):Prop:=∀ b xs,H b=some (.tup xs)->H' b=some (.tup xs)
end

theorem Inv.noSys {X:Cx}{pins:List (Addr×Obj)}{σ:St}{H:Hp}{s:Shared}(I:Inv X pins σ H s){a:Addr}{o:Obj}(h:s.heap.get? a=some o)(c:o.cls=.type "list"):sysModules≠a:=fun e=>by
 obtain ⟨o',l,c'⟩:=I.mod.sys
 have:=I.kIn _ _ l
 rw [e,h] at this
 cases this
 rw [c] at c'
 exact absurd c' (by decide)
mutual
theorem DV.reads2 {X:Cx}{pins:List (Addr×Obj)}{σ:St}{H:Hp}{s:Shared}(I:Inv X pins σ H s):∀ {x:V} {d:PyData} {u:Value},DV X.K H x d->RelV x u->∃ as,Reads s.heap u d as/\sysModules∉as
 | _,_,_,.non,r=>by cases r; exact ⟨_,.none,by simp⟩
 | _,_,_,.bl b,r=>by cases r; exact ⟨_,.bool b,by simp⟩
 | _,_,_,.int i,r=>by obtain ⟨t,rfl⟩:=r; exact ⟨_,.int i t,by simp⟩
 | _,_,_,.str x,r=>by obtain ⟨t,rfl⟩:=r; exact ⟨_,.str x t,by simp⟩
 | _,_,_,.tup e h,r=>by
  cases r
  obtain ⟨its,rv,⟨o,ho,hc,n,hd⟩,_⟩:=I.tuple e
  obtain ⟨as,q,z⟩:=DVs.reads2 I h rv
  exact ⟨_,.tuple ho hc hd q,z⟩
 | _,_,_,@DV.lst _ _ a _ _ e h,r=>by
  cases r
  obtain ⟨its,rv,⟨o,n,ho,hc,_,hd⟩,_⟩:=I.list (.inl e)
  obtain ⟨as,q,z⟩:=DVs.reads2 I h rv
  refine ⟨_,.list ho hc hd q,fun hm=>?_⟩
  rcases List.mem_cons.mp hm with hm | hm
  ·exact I.noSys ho hc hm
  ·exact z hm
 | _,_,_,@DV.dic _ _ a e,r=>by
  cases r
  obtain ⟨_,hS,vs,kv,o,es,ep,ho,hx,hd,_,hp,_⟩:([]:List (Key×V)).length<=sizeLine/\(a == sysModules)=false/\∃ vs,KV [] vs/\s.heap.DictOf (jaq X.prog X.w) a vs:=I.hok a _ e
  have e0:es.toList=[]:=by
   cases kv
   revert hp
   cases es.toList with
   | nil=>exact fun _=>rfl
   | cons x r=>exact fun hp=>(nomatch hp)
  refine ⟨_,.dict (kvs:=[]) (as:=[]) (bs:=[]) ho hx.1 hd (by rw [e0]; exact .nil) (by rw [e0]; exact .nil),fun hm=>?_⟩
  have:sysModules=a:=by simpa using hm
  rw [<- this] at hS
  exact absurd hS (by simp)
theorem DVs.reads2 {X:Cx}{pins:List (Addr×Obj)}{σ:St}{H:Hp}{s:Shared}(I:Inv X pins σ H s):∀ {xs:List V} {ds:List PyData} {us:List Value},DVs X.K H xs ds->Vals xs us->∃ as,ReadsAll s.heap us ds as/\sysModules∉as
 | _,_,_,.nil,r=>by cases r; exact ⟨_,.nil,by simp⟩
 | _,_,_,.cons a b,r=>by
  cases r with
  | cons r rr=>
   obtain ⟨as,q,z⟩:=DV.reads2 I a r
   obtain ⟨bs,q',z'⟩:=DVs.reads2 I b rr
   exact ⟨_,.cons q q',by rw [List.mem_append,not_or]; exact ⟨z,z'⟩⟩
end
theorem DV.reads {X:Cx}{pins:List (Addr×Obj)}{σ:St}{H:Hp}{s:Shared}(I:Inv X pins σ H s){x:V}{d:PyData}{u:Value}(h:DV X.K H x d)(r:RelV x u):∃ as,Reads s.heap u d as:=let ⟨as,q,_⟩:=DV.reads2 I h r; ⟨as,q⟩
theorem DVs.reads {X:Cx}{pins:List (Addr×Obj)}{σ:St}{H:Hp}{s:Shared}(I:Inv X pins σ H s){xs:List V}{ds:List PyData}{us:List Value}(h:DVs X.K H xs ds)(r:Vals xs us):∃ as,ReadsAll s.heap us ds as:=let ⟨as,q,_⟩:=DVs.reads2 I h r; ⟨as,q⟩

structure Fits (n k:Nat)(d:PyData):Prop where
 sh:d.showable=true
 ln:d.shown.length<=n
 dp:d.depth<=k
theorem Fits.mono {n n' k k':Nat}{d:PyData}(h:Fits n k d)(h1:n<=n')(h2:k<=k'):Fits n' k' d:=⟨h.sh,Nat.le_trans h.ln h1,Nat.le_trans h.dp h2⟩
theorem Fits.int {i:Int}(h:i.natAbs < 2 ^ 1000):Fits 1921 0 (.int i):=by
 have hl:i.natAbs.log2 < 1920:=by
  by_cases z:i.natAbs=0
  ·rw [z]; decide
  ·exact Nat.lt_of_lt_of_le ((Nat.log2_lt z).mpr h) (by decide)
 refine ⟨by simp [PyData.showable,hl],?_,Nat.le_refl _⟩
 simp only [PyData.shown]
 exact int_text_len_1921 hl
theorem Fits.str {x:Str}{m:Nat}(h:x.length<=m)(hc:∀ c∈x.cps.toList,c < 16 ^ 8):Fits (10 * m + 2) 0 (.str x):=by
 refine ⟨rfl,?_,Nat.le_refl _⟩
 simp only [PyData.shown]
 exact Nat.le_trans (StrLaws.reprText_len x hc) (by omega)
theorem je2 {ts:List Str}{n:Nat}(h:∀ t∈ts,t.length<=n):piled ts<=ts.length * (n + 2):=by
 induction ts with
 | nil=>simp [piled]
 | cons t r ih=>
  have h1:=h t List.mem_cons_self
  have h2:=ih fun q hq=>h q (List.mem_cons_of_mem _ hq)
  rw [piled_cons,List.length_cons,Nat.add_mul]
  omega
theorem jbb:∀ {ds:List PyData} {t:Str},t∈PyData.shownAll ds->∃ d∈ds,t=d.shown
 | [],_,h=>by simp [PyData.shownAll] at h
 | d::r,t,h=>by
  simp only [PyData.shownAll,List.mem_cons] at h
  rcases h with h | h
  ·exact ⟨d,List.mem_cons_self,h⟩
  ·obtain ⟨e,he,q⟩:=jbb h
   exact ⟨e,List.mem_cons_of_mem _ he,q⟩
theorem jaL:∀ ds:List PyData,(PyData.shownAll ds).length=ds.length
 | []=>rfl
 | _::r=>by simp [PyData.shownAll,jaL r]
theorem jjz (ts:List Str):(Str.join ", " ts).length<=piled ts:=by
 rcases Classical.em (ts=[]) with rfl | hz
 ·exact Nat.zero_le _
 ·exact Nat.le_of_add_right_le (Nat.le_of_eq (join_length_add ts hz))
theorem jdI {ts:List Str}{n:Nat}(h:∀ t∈ts,t.length<=n):(tupleText ts).length<=ts.length * (n + 2) + 3:=by
 have hp:=Nat.le_trans (jjz ts) (je2 h)
 have two:∀ b:Bool,((((if b=true then ",)" else ")"):String):Str)).length<=2:=by decide
 have z:=two (ts.length == 1)
 have one:(("(" : String):Str).length=1:=rfl
 simp only [tupleText,strLen_append] at z ⊢
 omega
theorem jcp:∀ (ts:List Str) (k:Nat) (acc:Str),(textFrom k acc ts).length<=acc.length + piled ts
 | [],_,_=>Nat.le_refl _
 | t::r,k,acc=>by
  have two:(((if k > 0 then ", " else "" : String):Str)).length<=2:=by split <;> decide
  have ih:=jcp r (k + 1) (acc++(if k > 0 then ", " else "" : String)++t)
  simp only [strLen_append] at ih
  rw [piled_cons]
  exact Nat.le_trans ih (by omega)
theorem jeA {ts:List Str}{n:Nat}(h:∀ t∈ts,t.length<=n):(listText ts).length<=ts.length * (n + 2) + 3:=by
 have hp:=Nat.le_trans (jcp ts 0 "[") (Nat.add_le_add_left (je2 h) _)
 have one:(("[" : String):Str).length=1/\(("]" : String):Str).length=1:=⟨rfl,rfl⟩
 simp only [listText,strLen_append]
 omega
theorem jaQ:∀ {ds:List PyData},(∀ d∈ds,d.showable=true)->PyData.showableAll ds=true
 | [],_=>rfl
 | d::r,h=>by simp [PyData.showableAll,h d List.mem_cons_self,jaQ fun q hq=>h q (List.mem_cons_of_mem _ hq)]
theorem jbD:∀ {ds:List PyData} {k:Nat},(∀ d∈ds,d.depth<=k)->PyData.depthAll ds<=k
 | [],_,_=>Nat.zero_le _
 | d::r,k,h=>by
  simp only [PyData.depthAll]
  exact Nat.max_le.mpr ⟨h d List.mem_cons_self,jbD fun q hq=>h q (List.mem_cons_of_mem _ hq)⟩
theorem Fits.tup {n k:Nat}{ds:List PyData}(h:∀ d∈ds,Fits n k d):Fits (ds.length * (n + 2) + 3) (k + 1) (.tuple ds):=by
 refine ⟨?_,?_,?_⟩
 ·simp only [PyData.showable]; exact jaQ fun d hd=>(h d hd).sh
 ·simp only [PyData.shown]
  have:=jdI (ts:=PyData.shownAll ds) (n:=n) fun t ht=>by obtain ⟨d,hd,e⟩:=jbb ht; rw [e]; exact (h d hd).ln
  rw [jaL] at this
  exact this
 ·simp only [PyData.depth]
  exact Nat.succ_le_succ (jbD fun d hd=>(h d hd).dp)
theorem Fits.lst {n k:Nat}{ds:List PyData}(h:∀ d∈ds,Fits n k d):Fits (ds.length * (n + 2) + 3) (k + 1) (.list ds):=by
 refine ⟨?_,?_,?_⟩
 ·simp only [PyData.showable]; exact jaQ fun d hd=>(h d hd).sh
 ·simp only [PyData.shown]
  have:=jeA (ts:=PyData.shownAll ds) (n:=n) fun t ht=>by obtain ⟨d,hd,e⟩:=jbb ht; rw [e]; exact (h d hd).ln
  rw [jaL] at this
  exact this
 ·simp only [PyData.depth]
  exact Nat.succ_le_succ (jbD fun d hd=>(h d hd).dp)
theorem Fits.tupLe {n k m N:Nat}{ds:List PyData}(hl:ds.length<=m)(h:∀ d∈ds,Fits n k d)(hN:m * (n + 2) + 3<=N):Fits N (k + 1) (.tuple ds):=
 (Fits.tup h).mono (Nat.le_trans (Nat.add_le_add_right (Nat.mul_le_mul_right _ hl) _) hN) (Nat.le_refl _)
theorem Fits.lstLe {n k m N:Nat}{ds:List PyData}(hl:ds.length<=m)(h:∀ d∈ds,Fits n k d)(hN:m * (n + 2) + 3<=N):Fits N (k + 1) (.list ds):=
 (Fits.lst h).mono (Nat.le_trans (Nat.add_le_add_right (Nat.mul_le_mul_right _ hl) _) hN) (Nat.le_refl _)

noncomputable def jmX (K:PySem.W.Frag):List V->Hp->VK->Prop:=fun xs H Q=>∃ x d,xs=[x]/\DV K H x d/\Fits 16000000 60 d/\Q (.str d.shown) H
theorem jfO {X:Cx}{k:Nat}(hr:Room k X.A):ja5 X (.builtin "repr") (jmX X.K):=by
 intro pins s σ H xs us Q I r h
 obtain ⟨x,d,rfl,dv,ft,q⟩:=h
 obtain ⟨u,rfl,ru⟩:=jcX r
 have hu:=hr.un
 have done:∀ (h':Heap) (u':Tok) (tk:Nat),(∀ b o,s.heap.get? b=some o->h'.get? b=some o)->EP X pins σ Q (.str d.shown u') { s with heap:=h',toks:=tk }:=fun h' u' tk hk=>
  ⟨.str d.shown,H,I.kept (t':=tk) hk,⟨u',rfl⟩,q⟩
 have hz:d.shown.length<=sizeLine:=Nat.le_trans ft.ln (by decide)
 cases dv with
 | non=>cases ru; exact P.repr_of_none (done _ _ _ fun _ _ e=>e)
 | bl b=>cases ru; exact P.repr_of_bool (by have:=done s.heap s.toks (s.toks + 1) fun _ _ e=>e; simp only [PyData.shown] at this; exact this)
 | int i=>
  obtain ⟨t,rfl⟩:=ru
  refine P.repr_of_int (by simpa [PyData.showable] using ft.sh) ?_
  have:=done s.heap s.toks (s.toks + 1) fun _ _ e=>e
  simp only [PyData.shown] at this
  exact this
 | str x=>
  obtain ⟨t,rfl⟩:=ru
  simp only [PyData.shown] at hz
  refine P.repr_of_str ?_ hz
  have:=done s.heap s.toks (s.toks + 1) fun _ _ e=>e
  simp only [PyData.shown] at this
  exact this
 | @tup a xs ds e hd=>
  obtain ⟨as,rd,hsy⟩:=DV.reads2 I (DV.tup e hd) ru
  cases ru
  exact repr_of_reads' rd ft.sh (fun _=>hsy) hr.gd (by have:=ft.dp; omega) (fun _ _ e=>e) (fun h' u' tk hk=>done h' u' tk hk) hz
 | @lst a xs ds e hd=>
  obtain ⟨as,rd,hsy⟩:=DV.reads2 I (DV.lst e hd) ru
  cases ru
  exact repr_of_reads' rd ft.sh (fun _=>hsy) hr.gd (by have:=ft.dp; omega) (fun _ _ e=>e) (fun h' u' tk hk=>done h' u' tk hk) hz
 | @dic a e=>
  obtain ⟨as,rd,hsy⟩:=DV.reads2 I (DV.dic e) ru
  cases ru
  exact repr_of_reads' rd ft.sh (fun _=>hsy) hr.gd (by have:=ft.dp; omega) (fun _ _ e=>e) (fun h' u' tk hk=>done h' u' tk hk) hz
section
variable {X:Cx}{k:Nat}{x:Str}{ps:List Str}{sp:Sp}{e:Expr}{es:List Expr}{t:TA}{p pos:Pos}
end
noncomputable def Sm (f:Addr)(H H':Hp):Prop:=∀ b o,b≠f->H b=some o->H' b=some o
noncomputable def LcW (n k:Nat)(caps:St)(Pv:Nat->List V->Hp->Prop):Nat->Nat->St->List V->Hp->Prop:=fun i m τ ys H=>m=n - i/\i<=n/\(∃ os:St,os.length=k/\τ=os++caps)/\Pv i ys H
noncomputable def LcN (D:Addr)(n k:Nat)(caps:St)(Pv:Nat->List V->Hp->Prop)(i:Nat)(ys:List V)(τ:St)(v:V)(H:Hp):Prop:=
 H D=some (.lst ys)/\ys.length < sizeLine/\∃ m',m' < n - i/\LcW n k caps Pv (i + 1) m' τ (ys++[v]) (upd H D (.lst (ys++[v])))
noncomputable def LcS (n k:Nat)(caps:St)(Pv:Nat->List V->Hp->Prop)(i:Nat)(ys:List V)(τ:St)(H:Hp):Prop:=∃ m',m' < n - i/\LcW n k caps Pv (i + 1) m' τ ys H
section
variable {g:TG}{tt:TT}{te:TE}{Q:VK}{τ0:St}{H:Hp}{D:Addr}
end
section
variable {X:Cx}
noncomputable def jiS:V->List V->Hp->VK->Prop:=fun x vs H Q=>∃ l xs i y,x=.ref l/\vs=[.int i,y]/\H l=some (.lst xs)/\0<=i/\i<=xs.length/\xs.length < sizeLine/\Q .non (upd H l (.lst (xs.take i.toNat++y::xs.drop i.toNat)))
theorem Vals.ins {xs:List V}{us:List Value}{y:V}{u:Value}(r:Vals xs us)(ry:RelV y u)(k:Nat):Vals (xs.take k++y::xs.drop k) (us.take k++u::us.drop k):=(Vals.take k r).append (.cons ry (Vals.drop k r))
theorem jgt : MtM X "list.insert" jiS := by
  intro pins s σ H x vs v us Q I rx rv h
  obtain ⟨l, xs, i, y, rfl, rfl, hH, h1, h2, h3, q⟩ := h
  cases rx
  obtain ⟨u, u', rfl, ru, ru'⟩ := rv.two
  obtain ⟨t, rfl⟩ := ru
  obtain ⟨z, its, n, r, hl, e⟩ := I.lstM hH
  have hz63 : i < 2 ^ 63 := by have := jcD; omega
  refine call_meets F.slot_list_insert ⟨_, e, rfl⟩ F.entry_list_insert (F.args_list_insert_3 _ _ _)
    (AutoSeq1.list_insert_list_int_val_1 l its.toArray n i t u' (by simp [Builtin.List.listFitsIndex]; omega) (by rw [List.size_toArray]; omega)) ⟨e, ?_⟩
  refine ⟨.non, _, I.lset (its' := its.take i.toNat ++ u' :: its.drop i.toNat) hH e ?_ (Vals.ins r ru' _) ?_, rfl, q⟩
  · have hk : (if i < 0 then (i + (its.toArray.size : Int)).toNat else min i.toNat its.toArray.size) = i.toNat := by
      rw [if_neg (by omega), List.size_toArray]
      omega
    show (its.toArray.extract 0 (if i < 0 then (i + (its.toArray.size : Int)).toNat else min i.toNat its.toArray.size)).push u' ++ its.toArray.extract (if i < 0 then (i + (its.toArray.size : Int)).toNat else min i.toNat its.toArray.size) = _
    rw [hk]
    apply Array.ext'
    simp [List.take_of_length_le]
  · rw [List.length_append, List.length_cons, List.length_take, List.length_drop]
    omega
end
section
variable {X:Cx}{es:List Expr}{te:TE}{t:TA}
end
section
variable {X:Cx}{N:List Str}{scope:Scope}{cl:List (Str×Addr)}{C:Addr}{s₀:Shared}{H₀:Hp}{fp:List Addr}
end
section
variable {X:Cx}
end
section
variable {X:Cx}{N:List Str}{scope:Scope}{cl:List (Str×Addr)}{C:Addr}{s₀:Shared}{H₀:Hp}{fp:List Addr}
end
section
variable {X:Cx}{e st:Expr}{te tst:TE}{pos p2:Pos}
end
end L2
namespace HT
open PySem PySem.Spec PyProof.Rows
section
variable {prog:Program}{w:World}{A:Around}{E:Value->Shared->Prop}{s:Shared}
theorem getItem_tuple_all {t sl:Addr}{items:Array Value}{vl vu:Value}{lo hi:Option Int}{Q:Value->Shared->Prop}(ht:IsTup s.heap t items)(hs:s.heap.IsSliceOf sl vl vu .none)(pl:IsPart vl lo)(pu:IsPart vu hi)
  (hw:sIx items.size 0 lo=0/\sIx items.size items.size hi=items.size) (h:Q (.ref t) s):wpAny (model prog w) A (getItem (.ref t) (.ref sl)) Q E s:=by
 obtain ⟨os,hos,hcs,hds⟩:=id hs
 have hTs:s.TypeIs (.ref sl) "slice" := ⟨os,hos,hcs⟩
 unfold getItem
 try with_reducible refine wpAny_holding ?_
 first | refine wpAny_bind (wpAny_pure ?_) | skip
 refine wpAny_bind (wpAny_sequenceKey ht.typeIs (by decide) ?_)
 refine wpAny_bind (wpAny_callSpecial?_slot (name:=Str.ofString "__getitem__") ht.typeIs PyProof.Rows.slot_tuple_getitem
  (wpAny_call_entry PyProof.Rows.slot_tuple_getitem ht.typeIs entry_tuple_getitem ?_ (args_tuple_getitem _ _)))
 show wpAny _ _ (Builtin.Tuple.tupleItemsOf (.ref t) >>= _) _ _ s
 refine wpAny_bind (tupleItemsOf_ ht ?_)
 refine wpAny_bind (wpAny_typeOf hTs ?_)
 rw [if_pos (by decide)]
 refine wpAny_bind (ja4 hs pl pu ?_)
 have hyes:((((sIx items.size 0 lo:Nat):Int) == 0 && (1:Int) == 1 && (sIx items.size items.size hi - sIx items.size 0 lo) == items.size)=true):=by
  rw [hw.1,hw.2]
  simp
 show wpAny _ _ (if (((sIx items.size 0 lo:Nat):Int) == 0 && (1:Int) == 1 && (sIx items.size items.size hi - sIx items.size 0 lo) == items.size)=true then _ else _) _ _ s
 rw [if_pos hyes]
 refine wpAny_bind (m:=Builtin.Tuple.tupleIsExact (.ref t)) ?_
 unfold Builtin.Tuple.tupleIsExact
 refine wpAny_bind (wpAny_typeOf ht.typeIs (wpAny_pure ?_))
 rw [if_pos (by decide)]
 exact wpAny_bind (wpAny_rule (wpAny_pure ⟨_,rfl,wpAny_pure h⟩))
end
end HT
namespace L2
open PySem PySem.Spec PyProof.Rows
section
variable {X:Cx}
noncomputable def rSlW (K:PySem.W.Frag):V->Option Int->Option Int->Hp->VK->Prop:=fun x lo hi H Q=>∃ a xs,x=.ref a/\SqT K H a xs/\
 (HT.sIx xs.length 0 lo=0/\HT.sIx xs.length xs.length hi=xs.length)/\Q (.ref a) H
theorem jiK:SlR X (rSlW X.K):=by
 intro pins s σ H x v vl vu lo hi sl Q I rx hs pl pu h
 obtain ⟨a,xs,rfl,hx,hw,q⟩:=h
 cases rx
 obtain ⟨its,r,ht,hz⟩:=I.tuple hx
 have hlen:its.toArray.size=xs.length:=by rw [List.size_toArray]; exact r.length.symm
 refine ⟨"tuple",_,PyProof.Rows.slot_tuple_getitem.lookup,ht.typeIs,?_⟩
 exact HT.getItem_tuple_all ht hs pl pu (by rw [hlen]; exact hw) ⟨.ref a,H,I,rfl,q⟩
theorem jiL:SlR X (fun x lo hi H Q=>rSlT X.K x lo hi H Q\/rSlW X.K x lo hi H Q):=SlR.or jko jiK
end
section
variable {X:Cx}
end
end L2
namespace HT
open PySem PySem.Spec PyProof.Rows
section
variable {prog:Program}{w:World}{A:Around}{E:Value->Shared->Prop}{s:Shared}
end
end HT
namespace L2
open PySem PySem.Spec PyProof.Rows
section
variable {X:Cx}{e st:Expr}{te tst:TE}{pos p2:Pos}
end
section
variable {X:Cx}{N:List Str}{scope:Scope}{cl:List (Str×Addr)}{C:Addr}{s₀:Shared}{H₀:Hp}{fp:List Addr}
end
end L2

namespace L2
open PySem PySem.Spec PyProof.Rows
set_option maxHeartbeats 4000000
section
variable {X:Cx}{pos:Pos}
noncomputable def jm0 (K:PySem.W.Frag):R2:=fun x y H Q=>∃ a b xs ys,x=.ref a/\y=.ref b/\SqT K H a xs/\SqT K H b ys/\xs.length + ys.length<=sizeLine/\
 (xs=[]->Q (.ref b) H)/\(xs≠[]->ys=[]->Q (.ref a) H)/\(xs≠[]->ys≠[]->∀ p,H p=none->Q (.ref p) (upd H p (.tup (xs++ys))))
theorem jjj:OpR X (binaryOp .Add) (jm0 X.K):=by
 intro pins s σ H x y v u Q I rx ry h
 obtain ⟨a,b,xs,ys,rfl,rfl,ha,hb,hz,q0,q1,q2⟩:=h
 by_cases hx:xs=[]
 ·cases rx
  cases ry
  obtain ⟨its,r1,p1,_⟩:=I.tuple ha
  obtain ⟨its2,r2,p2,_⟩:=I.tuple hb
  have hv:its=[]:=r1.nil_iff.mpr hx
  subst hv
  obtain ⟨⟨cls,dd,data,sl⟩,ho,hc,n,hd⟩:=id p1
  obtain ⟨⟨cls2,dd2,data2,sl2⟩,ho2,hc2,n2,hd2⟩:=id p2
  simp only at hc hd hc2 hd2
  subst hc hd hc2 hd2
  exact concat_meets ⟨_,ho,rfl⟩ ⟨_,ho2,rfl⟩ noFill_tuple_add seq_tuple_add PySem.F.slot_tuple_add PySem.F.entry_tuple_add (PySem.F.args_tuple_add_2 _ _)
   (tuple_addW0 a b _ its2.toArray n n2 dd dd2 sl sl2 rfl) ⟨ho,ho2,⟨.ref b,H,I,rfl,q0 hx⟩⟩
 ·exact jji pins s σ H _ _ _ _ Q I rx ry ⟨a,b,xs,ys,rfl,rfl,ha,hb,hx,hz,q1 hx,q2 hx⟩
theorem jfz {k:Nat}(hr:Room k X.A):OpR X (compareOp .Eq) (fun x y H Q=>∃ a b xs,x=.ref a/\y=.ref b/\SqT X.K H a xs/\SqT X.K H b []/\Q (.bl xs.isEmpty) H):=by
 intro pins s σ H x y v u Q I rx ry h
 obtain ⟨a,b,xs,rfl,rfl,ha,hb,q⟩:=h
 cases rx; cases ry
 obtain ⟨its,rv,pa,_⟩:=I.tuple ha
 obtain ⟨its2,rv2,pb,_⟩:=I.tuple hb
 cases rv2
 have hu:X.A.units < cLine:=hr.units0
 have e:((List.range (min its.toArray.size ([]:List Value).toArray.size)).all (fun _=>true) && its.toArray.size == ([]:List Value).toArray.size)=xs.isEmpty:=by
  cases rv <;> simp
 refine EqBoolInt.of_rc (SeqAt.RcAt.tuples (e:=fun _=>true) (show s.heap.IsTuple a its.toArray from pa) (show s.heap.IsTuple b ([]:List Value).toArray from pb) hu fun j _ h2=>?_) ?_
 ·simp at h2
 ·rw [e]
  exact ⟨.bl xs.isEmpty,H,I,rfl,q⟩
end
section
variable {X:Cx}{N:List Str}{scope:Scope}{cl:List (Str×Addr)}{C:Addr}{s₀:Shared}{H₀:Hp}{fp:List Addr}
end
section
variable {X:Cx}
end
section
variable {X:Cx}{N:List Str}{scope:Scope}{cl:List (Str×Addr)}{C:Addr}{s₀:Shared}{H₀:Hp}{fp:List Addr}
end
section
variable {X:Cx}
noncomputable def jkG (K:PySem.W.Frag)(neg:Bool):R2:=fun x y H Q=>∃ d e,DV K H x d/\DV K H y e/\d.canLay0=true/\e.canLay0=true/\d.depth<=100/\Q (.bl (if neg then !PyData.eqv d e else PyData.eqv d e)) H
theorem jla {k:Nat}(hr:Room k X.A):OpR X (compareOp .NotEq) (jkG X.K true):=by
 intro pins s σ H x y v u Q I rx ry h
 obtain ⟨d,e,hd,he,c1,c2,hk,q⟩:=h
 obtain ⟨as,ra⟩:=hd.reads I rx
 obtain ⟨bs,rb⟩:=he.reads I ry
 exact SeqAt.compareNe_reads ra rb c1 c2 (by have:=hr.un; omega) ⟨.bl _,H,I,rfl,q⟩
theorem jlf {k:Nat}(hr:Room k X.A):OpR X (compareOp .Eq) (jkG X.K false):=by
 intro pins s σ H x y v u Q I rx ry h
 obtain ⟨d,e,hd,he,c1,c2,hk,q⟩:=h
 obtain ⟨as,ra⟩:=hd.reads I rx
 obtain ⟨bs,rb⟩:=he.reads I ry
 exact SeqAt.compareEq_reads ra rb c1 c2 (by have:=hr.un; omega) ⟨.bl _,H,I,rfl,q⟩
end
section
variable {X:Cx}{N:List Str}{scope:Scope}{cl:List (Str×Addr)}{C:Addr}{s₀:Shared}{H₀:Hp}{fp:List Addr}
end
mutual
noncomputable def noB:PyData->Bool
 | .none=>true
 | .bool _=>false
 | .int _=>true
 | .str _=>true
 | .list ds=>noBs ds
 | .tuple ds=>noBs ds
 | .dict _=>false
noncomputable def noBs:List PyData->Bool
 | []=>true
 | d::r=>noB d && noBs r
end
mutual
theorem jio:∀ {d e:PyData},noB d=true->noB e=true->PyData.eqv d e=true->d=e
 | .none,.none,_,_,_=>rfl
 | .int i,.int j,_,_,h=>by rw [PyData.eqv] at h; rw [eq_of_beq h]
 | .str i,.str j,_,_,h=>by rw [PyData.eqv] at h; rw [eq_of_beq h]
 | .list xs,.list ys,h1,h2,h=>by rw [PyData.eqv] at h; rw [noB] at h1 h2; rw [jeG h1 h2 h]
 | .tuple xs,.tuple ys,h1,h2,h=>by rw [PyData.eqv] at h; rw [noB] at h1 h2; rw [jeG h1 h2 h]
 | .bool _,_,h,_,_=>by rw [noB] at h; cases h
 | .dict _,_,h,_,_=>by rw [noB] at h; cases h
 | .none,.bool _,_,h,_ | .int _,.bool _,_,h,_ | .str _,.bool _,_,h,_ | .list _,.bool _,_,h,_ | .tuple _,.bool _,_,h,_=>by rw [noB] at h; cases h
 | .none,.dict _,_,h,_ | .int _,.dict _,_,h,_ | .str _,.dict _,_,h,_ | .list _,.dict _,_,h,_ | .tuple _,.dict _,_,h,_=>by rw [noB] at h; cases h
 | .none,.int _,_,_,h | .none,.str _,_,_,h | .none,.list _,_,_,h | .none,.tuple _,_,_,h=>by rw [PyData.eqv] at h; cases h
 | .int _,.none,_,_,h | .int _,.str _,_,_,h | .int _,.list _,_,_,h | .int _,.tuple _,_,_,h=>by rw [PyData.eqv] at h; cases h
 | .str _,.none,_,_,h | .str _,.int _,_,_,h | .str _,.list _,_,_,h | .str _,.tuple _,_,_,h=>by rw [PyData.eqv] at h; cases h
 | .list _,.none,_,_,h | .list _,.int _,_,_,h | .list _,.str _,_,_,h | .list _,.tuple _,_,_,h=>by rw [PyData.eqv] at h; cases h
 | .tuple _,.none,_,_,h | .tuple _,.int _,_,_,h | .tuple _,.str _,_,_,h | .tuple _,.list _,_,_,h=>by rw [PyData.eqv] at h; cases h
theorem jeG:∀ {ds es:List PyData},noBs ds=true->noBs es=true->PyData.eqvAll ds es=true->ds=es
 | [],[],_,_,_=>rfl
 | d::r,e::q,h1,h2,h=>by
  rw [noBs,Bool.and_eq_true] at h1 h2
  rw [PyData.eqvAll,Bool.and_eq_true] at h
  rw [jio h1.1 h2.1 h.1,jeG h1.2 h2.2 h.2]
 | [],_::_,_,_,h=>by rw [PyData.eqvAll] at h; cases h
 | _::_,[],_,_,h=>by rw [PyData.eqvAll] at h; cases h
end
section
variable {X:Cx}
end
section
variable {X:Cx}{N:List Str}{scope:Scope}{cl:List (Str×Addr)}{C:Addr}{s₀:Shared}{H₀:Hp}{fp:List Addr}
end
theorem jfK (ds:List PyData):PyData.eqvAll ds []=ds.isEmpty:=by
 cases ds <;> rfl
theorem jce:fillsNumberSlot (.type "tuple") "mul" = pure false:=
 PySem.fillsNumberSlot_seq (id := "tuple.__mul__") (r:=some (.builtin "tuple.__rmul__")) F.slot_tuple_mul.lookup (by decide +kernel) F.slot_tuple_rmul.lookup (by decide +kernel)
theorem jdP:seqRepeat? (.type "tuple")=pure (some (.builtin "tuple.__mul__")):=by
 unfold seqRepeat?
 rw [PySem.seqSlot_of (T := "tuple") (name := "__mul__") (id := "tuple.__mul__") F.slot_tuple_mul.lookup (by decide +kernel),PySem.seqSlot_of (T := "tuple") (name := "__rmul__") (id := "tuple.__rmul__") F.slot_tuple_rmul.lookup (by decide +kernel)]
 rfl
theorem jcY (a:Int)(t:Tok)(l:Addr)(items:Array Value)(n:Nat)(dd:Option Addr)(sl:Array (Option Value)) :
  Meets (Builtin.«int.__rmul__» ⟨[.int a t,.ref l],[]⟩) (fun _ R s=>s.heap.get? l=some { cls:=.type "tuple",dict:=dd,data:=.seq items n,slots:=sl }/\R (.ok (.ret Value.notImplemented)) s):=
 .of_wp fun prog w A R s h=>by obtain ⟨hp,g,d,tk,os⟩:=s; obtain ⟨hl,h⟩:=h; wp_walk; exact ⟨_,rfl,h⟩
theorem jft (l:Addr)(items:Array Value)(n:Nat)(dd:Option Addr)(sl:Array (Option Value))(x:Int)(t:Tok)(hx:2<=x)(hx2:x < 2 ^ 62)(h0:items.isEmpty=false)(hsz:items.size * x.toNat<=sizeLine) :
  Meets (Builtin.«tuple.__mul__» ⟨[.ref l,.int x t],[]⟩)
   (fun A R s=>s.heap.get? l=some { cls:=.type "tuple",dict:=dd,data:=.seq items n,slots:=sl }/\R (.ok (.ret (.ref s.heap.objs.size))) { s with heap:=s.heap.push { cls:=.type "tuple",data:=.seq ((List.replicate x.toNat items).foldl (·++·) #[]) } }):=
 .of_wp fun prog w A R s h=>by
  obtain ⟨hp,g,d,tk,os⟩:=s; obtain ⟨hl,h⟩:=h
  have c1:(decide (x < -2 ^ 63) || decide (x ≥ 2 ^ 63))=false:=by simp; omega
  have c2:(items.isEmpty || x == 1)=false:=by rw [h0]; simp; omega
  have c3:(decide (x<=0) || items.isEmpty)=false:=by rw [h0]; simp; omega
  have hz:(items.size:Int) * x=((items.size * x.toNat:Nat):Int):=by rw [Int.natCast_mul,Int.toNat_of_nonneg (by omega)]
  have h63:(sizeLine:Nat)<=(2 ^ 63 - 1) / 8:=by decide
  wp_walk using wpAny_loadPart' hl
  simp only [c1,Bool.false_eq_true,if_false]
  wp_walk using wpAny_loadPart' hl
  simp only [c2,c3,Bool.false_eq_true,if_false]
  rw [if_neg (by rw [hz]; omega)]
  have c4:Builtin.Tuple.tupleTooMany ((items.size:Int) * x)=false:=by
   rw [hz]
   unfold Builtin.Tuple.tupleTooMany
   exact decide_eq_false (by omega)
  simp only [c4,Bool.false_eq_true,if_false]
  have hs:(List.foldl (fun x1 x2=>x1++x2) #[] (List.replicate x.toNat items)).size<=sizeLine:=by
   rw [AutoListH.size_joined]
   simp only [List.size_toArray,List.length_nil,Nat.zero_add]
   rw [Nat.mul_comm]
   exact hsz
  revert hs h
  generalize List.foldl (fun x1 x2=>x1++x2) #[] (List.replicate x.toNat items)=G
  intro h hs
  wp_walk
  exact ⟨_,rfl,h⟩
theorem jfu (l:Addr)(items:Array Value)(n:Nat)(dd:Option Addr)(sl:Array (Option Value))(t:Tok) :
  Meets (Builtin.«tuple.__mul__» ⟨[.ref l,.int 1 t],[]⟩)
   (fun A R s=>s.heap.get? l=some { cls:=.type "tuple",dict:=dd,data:=.seq items n,slots:=sl }/\R (.ok (.ret (.ref l))) s):=
 .of_wp fun prog w A R s h=>by
  obtain ⟨hp,g,d,tk,os⟩:=s; obtain ⟨hl,h⟩:=h
  have c1:(decide ((1:Int) < -2 ^ 63) || decide ((1:Int) ≥ 2 ^ 63))=false:=by decide
  have c2:(items.isEmpty || (1:Int) == 1)=true:=by simp
  wp_walk using wpAny_loadPart' hl
  exact ⟨_,rfl,h⟩
section
variable {X:Cx}
noncomputable def jmY (K:PySem.W.Frag):R2:=fun x y H Q=>∃ l k xs,x=.ref l/\y=.int k/\SqT K H l xs/\xs≠[]/\1<=k/\k < 2 ^ 62/\xs.length * k.toNat<=sizeLine/\(k=1->Q (.ref l) H)/\(k≠1->∀ p,H p=none->Q (.ref p) (upd H p (.tup (List.replicate k.toNat xs).flatten)))
theorem jjg:OpR X (binaryOp .Mult) (jmY X.K):=by
 intro pins s σ H x y v u Q I rx ry h
 obtain ⟨l,k,xs,rfl,rfl,hH,h0,h1,h2,hz,q1,q2⟩:=h
 cases rx
 obtain ⟨t,rfl⟩:=ry
 obtain ⟨its,r,pl,_⟩:=I.tuple hH
 have hl:=r.length
 obtain ⟨⟨cls,dd,data,sl⟩,e,hc,n,hd⟩:=id pl
 simp only at hc hd
 subst hc hd
 have hne:its≠[]:=fun z=>h0 (r.nil_iff.mp z)
 refine wpAny_binaryOp_repeat_ref (T := "tuple") (U := "int") (by decide) ⟨_,e,rfl⟩ (fun s'=>typeIs_int s' k t) jce F.fills_int_mul F.slot_int_rmul jdP F.slot_int_index.lookup
  (call_meets F.slot_int_rmul (typeIs_int s k t) F.entry_int_rmul (F.args_int_rmul_2 _ _) (jcY k t l its.toArray n dd sl) ⟨e,rfl,⟨_,e,rfl⟩,?_⟩)
 by_cases hk:k=1
 ·subst hk
  exact call_meets F.slot_tuple_mul ⟨_,e,rfl⟩ F.entry_tuple_mul (F.args_tuple_mul_2 _ _) (jfu l its.toArray n dd sl t) ⟨e,⟨.ref l,H,I,rfl,q1 rfl⟩⟩
 ·refine call_meets F.slot_tuple_mul ⟨_,e,rfl⟩ F.entry_tuple_mul (F.args_tuple_mul_2 _ _) (jft l its.toArray n dd sl k t (by omega) h2 (by simpa using hne) (by rw [List.size_toArray,<- hl]; exact hz)) ⟨e,?_⟩
  have f0:=jcG its k.toNat []
  rw [List.nil_append] at f0
  rw [f0]
  refine ⟨.ref s.heap.objs.size,_,I.laid (t':=s.toks) (o:=.tup (List.replicate k.toNat xs).flatten) (fun b ob q=>Heap.get?_push_of_some _ q) (Nat.le_refl _) ?_,rfl,q2 hk _ (I.hok.fresh (Nat.le_refl _))⟩
  exact ⟨by rw [jgx,Nat.mul_comm]; exact hz,_,r.rep k.toNat,TupD.new _ _⟩
end
section
variable {X:Cx}
theorem jed {prog:Program}{w:World}{A:Around}{E:Value->Shared->Prop}{s:Shared}{v:Value}{Q:Value->Shared->Prop}
  (h:wpAny (model prog w) A.in1 (collect v) (fun vs s1=>wpAny (model prog w) A.in1 (newList vs) (fun l s2=>wpAny (model prog w) A.in1 (call (.builtin "list.sort") [l]) (fun _ s3=>Q l s3) E s2) E s1) E s) :
  wpAny (model prog w) A (call (.builtin "sorted") [v]) Q E s:=by
 have one:∀ Z:Unit->Shared->Prop,Z () s->wpAny (model prog w) A.in1 (checkCount "sorted" 1 1 [v].length) Z E s:=fun Z z=>wpAny_pure z
 refine Calls.call_function_entry kind_sorted plain_sorted entry_sorted (args_sorted1 v) (wpAny_bind (one _ (wpAny_bind (thn h fun vs s1 h1=>wpAny_bind (thn h1 fun l s2 h2=>?_)))))
 exact wpAny_bind (wpAny_holding (thn h2 fun _ s3 q=>wpAny_pure ⟨_,rfl,q⟩))
theorem jb6:∀ {us:List Value} {ns:List Int},IntsAre us ns->Vals (ns.map V.int) us
 | _,_,.nil=>.nil
 | _,_,.cons n t r=>.cons ⟨t,rfl⟩ (jb6 r)
theorem jgA:∀ {kvs:List (Key×V)} {vs:List (Key×Value)},KV kvs vs->vs.map (·.1)=kvs.map (·.1)
 | _,_,.nil=>rfl
 | _,_,.cons a r=>by
  rw [List.map_cons,List.map_cons,jgA r,a.1]
theorem jgJ {P:Program}{w:World}:∀ {ns:List Int} {acc:List Value} {vs:List (Key×Value)},vs.map (·.1)=ns.map (fun z=>(.inl z:Key))->acc.length=ns.length->(∀ (j:Nat) (v:Value),acc[j]?=some v->∃ k x,vs[j]?=some (k,x)/\(jaq P w).is k v=true)->IntsAre acc ns
 | [],[],_,_,_,_=>.nil
 | z::ns,v::acc,(k,x)::vs,e,hl,h=>by
  obtain ⟨k',x',h1,h2⟩:=h 0 v rfl
  have e1:(k,x)=(k',x'):=Option.some.inj h1
  injection e1 with e1 e2
  subst e1
  rw [List.map_cons,List.map_cons] at e
  injection e with ek er
  have ek:k=.inl z:=ek
  subst ek
  obtain ⟨t,rfl⟩:∃ t,v=.int z t:=by
   have h2:jeC (.inl z) v=true:=h2
   rcases jar h2 with ⟨i,t,e,rfl⟩ | ⟨y,t,e,_⟩
   ·injection e with e; rw [e]; exact ⟨t,rfl⟩
   ·exact nomatch e
  exact .cons z t (jgJ er (by simpa using hl) fun j v hj=>h (j + 1) v hj)
 | z::ns,v::acc,[],e,_,_=>by cases e
 | z::ns,[],_,_,hl,_=>by cases hl
 | [],v::acc,_,_,hl,_=>by cases hl
end
end L2

namespace L2
open PySem PySem.Spec PyProof.Rows
open Sem (wp)
open AutoSeq1 (wpAny_loadPart')
set_option maxHeartbeats 4000000
section
variable {prog:Program}{w:World}{A:Around}{E:Value->Shared->Prop}{s:Shared}
theorem jeS {it t:Addr}{i:Nat}{items:Array Value}{Q:Value->Shared->Prop}(hh:A.handled=none)(hit:s.heap.IsTupleIter it t i)(ht:s.heap.IsTuple t items)
  (more:∀ x h',items[i]?=some x->h'.IsTupleIter it t (i + 1)->Heap.SameBut it s.heap h'->Q x { s with heap:=h' })
  (stop:items[i]?=none->∀ h' e,Heap.ExtBut it s.heap h'->(∃ o,h'.get? e=some o/\o.cls=.type "StopIteration")->E (.ref e) { s with heap:=h' }) :
  wpAny (model prog w) A (Builtin.SmallTypes.nextOf (.ref it)) Q E s:=by
 have ty:=hit.typeIs
 rcases hit with ⟨⟨c,dc,dt,sl⟩,ho,e1,e2⟩
 rcases ht with ⟨⟨c',dc',dt',sl'⟩,hl,-,n,e4⟩
 dsimp only at e1 e2 e4
 subst e1 e2 e4
 have up:∀ f:Array Value->Array Value,Heap.SameBut it s.heap (s.heap.update it (Obj.mapFields f)):=fun f=>Heap.SameBut.update ..
 have got:∀ f:Array Value->Array Value,(s.heap.update it (Obj.mapFields f)).get? it=some ⟨.type "tuple_iterator",dc,.fields (f #[.ref t,.int i 0]),sl⟩:=fun f=>Heap.get?_update_self _ ho rfl
 refine wpAny_bind (wpAny_callSpecial?_slot (name:=Str.ofString "__next__") ty F.slot_tuple_iterator_next (wpAny_call_entry F.slot_tuple_iterator_next ty F.entry_tuple_iterator_next ?_ (F.args_tuple_iterator_next_1 _)))
 wp_walk using AutoSeq1.wpAny_loadPart' ho,AutoSeq1.wpAny_loadPart' hl
 rw [Int.toNat_natCast]
 cases hx:items[i]? with
 | some x=>exact wpAny_bind (wpAny_setField ho rfl (Nat.lt_succ_self 1) (wpAny_pure ⟨x,rfl,wpAny_pure (more x _ hx ⟨_,got _,rfl,rfl⟩ (up _))⟩))
 | none=>
  refine wpAny_bind (wpAny_rule (wpAny_bind (wpAny_setField ho rfl (Nat.zero_lt_succ 1) ?_)))
  unfold Builtin.SmallTypes.stopIteration
  wp_walk
  exact wpAny_raiseNew_none hh (stop hx _ _ (((up _).extBut.push _).push _) ⟨_,Heap.get?_push_size _ rfl,rfl⟩)
theorem jee {prog:Program}{w:World}{A:Around}(hh:A.handled=none)(it t:Addr)(hne:t≠it)(items:Array Value) :
  Draws prog w A it [it,t] items.size (fun i v=>items[i]?=some v) (fun i h=>h.IsTupleIter it t i/\h.IsTuple t items):=by
 refine ⟨fun i h st=>?_,fun i h h' st hk=>?_,fun i s Q E hi st hQ=>?_,fun s Q E st hE=>?_⟩
 ·rcases st.1 with ⟨o,ho,-⟩
  exact ⟨o,ho⟩
 ·rcases st with ⟨⟨o,ho,r⟩,⟨u,hu,q⟩⟩
  exact ⟨⟨o,hk it (by simp) o ho,r⟩,⟨u,hk t (by simp) u hu,q⟩⟩
 ·refine jeS hh st.1 st.2 (fun x h' e hit sb=>hQ x h' s.toks e ⟨hit,st.2.extBut sb.extBut hne⟩ sb) fun z=>?_
  exact absurd (Array.getElem?_eq_none_iff.mp z) (by omega)
 ·refine jeS hh st.1 st.2 (fun x h' e=>?_) fun _=>hE
  exact absurd (Array.getElem?_eq_some_iff.mp e).1 (Nat.lt_irrefl _)
theorem jhh {α:Type}{M:Model}{x:α}{Q:α->Shared->Prop}(h:∀ y,Q y s):wpAny M A (pure x) Q E s:=wpAny_pure (h x)
theorem jdt (v:Value)(ob:Obj) :
  Meets (Builtin.«enumerate.__new__» ⟨[.type "enumerate",v],[]⟩) (fun _ R s=>(∀ (prog:Program) (w:World) (A:Around) (Q E:Value->Shared->Prop),Q (.ref s.heap.objs.size) { s with heap:=s.heap.push ob }->wpAny (model prog w) A (pyIter v) Q E s)/\
   R (.ok (.ret (.ref (s.heap.push ob).objs.size))) { s with heap:=(s.heap.push ob).push ⟨.type "enumerate",none,.fields #[.none,.bool false,.ref s.heap.objs.size,rawInt 0,.none,.none],#[]⟩ }):=
 .of_wp fun prog w A R s h=>by
  rcases s with ⟨hp,g,d,tk,os⟩
  rcases h with ⟨hi,h⟩
  have hsub:=sub_enumerate
  wp_walk
  refine wpAny_stack_any fun st=>jhh fun b=>?_
  cases b <;> (wp_walk using hi prog w; exact ⟨_,rfl,h⟩)
theorem jdD {l:Addr}{items:Array Value}{Q:Value->Shared->Prop}(hL:s.heap.IsTuple l items)
  (h:∀ h',IsEnum h' (s.heap.objs.size + 1) s.heap.objs.size 0 .none->h'.IsTupleIter s.heap.objs.size l 0->(∀ b o,s.heap.get? b=some o->h'.get? b=some o)->Q (.ref (s.heap.objs.size + 1)) { s with heap:=h' }) :
  wpAny (model prog w) A (call (.type "enumerate") [.ref l]) Q E s:=by
 have at2:∀ (p:Heap) (n:Nat) (o:Obj),p.objs.size=n->o.isFreed=false->(p.push o).get? n=some o:=fun p n o e f=>by
  subst e
  exact Heap.get?_push_size p f
 have sz:=fun o=>Heap.size_push s.heap o
 refine callType_new F.called_enumerate (by decide) (F.typeCall_enumerate_1 _) (F.newCall_enumerate_1 _) (fun obj=>F.args_object_init_2 obj _) F.entry_enumerate_new (jdt (.ref l) _) ⟨fun _ _ _ _ _ q=>wpAny_pyIter_tuple hL q,?_⟩
 rw [sz]
 have he:=at2 _ _ ⟨.type "enumerate",none,.fields #[.none,.bool false,.ref s.heap.objs.size,rawInt 0,.none,.none],#[]⟩ (sz ⟨.type "tuple_iterator",none,.fields #[.ref l,.int 0 0],#[]⟩) rfl
 exact ⟨⟨_,he,rfl⟩,h _ he ⟨_,Heap.get?_push_of_some _ (at2 _ _ _ rfl rfl),rfl,rfl⟩ fun b o x=>Heap.get?_push_of_some _ (Heap.get?_push_of_some _ x)⟩
end
section
variable {X:Cx}{pins:List (Addr×Obj)}{σ:St}{H:Hp}{s:Shared}{h':Heap}
theorem jiF {t':Nat}{e it:Addr}(I:Inv X pins σ H s)(k:∀ b o,b≠e->b≠it->s.heap.get? b=some o->h'.get? b=some o)(fe:FpOk X pins H e)(fi:FpOk X pins H it):Inv X pins σ H { s with heap:=h',toks:=t' }:=by
 obtain ⟨e0,e1,_,e3,e4,e5⟩:=fe
 obtain ⟨i0,i1,_,i3,i4,i5⟩:=fi
 have ne:∀ b u,H b=some u->b≠e:=fun b u q z=>by rw [z,e0] at q; cases q
 have ni:∀ b u,H b=some u->b≠it:=fun b u q z=>by rw [z,i0] at q; cases q
 have kk:∀ b o,b∉[e,it]->s.heap.get? b=some o->h'.get? b=some o:=fun b o hc q=>k b o (fun z=>hc (by simp [z])) (fun z=>hc (by simp [z])) q
 refine I.step (g':=s.gens) (d':=s.drawn) (ch:=[e,it]) (fun b hb=>?_) (fun b o _ _ hc q _=>kk b o hc q) (fun b o _ _ hc q _=>⟨o.slots,kk b o hc q⟩) (fun _ _ _ _ n=>n)
  (fun b o hc q=>⟨o,kk b o hc q⟩) (fun _ _ q=>q) (fun _ _ _ q=>q) (fun b ps q=>⟨#[],by rw [q]; simp⟩) (fun m hm=>?_) (fun b u q=>?_) I.bare
 ·simp only [List.mem_cons,List.not_mem_nil,or_false] at hb
  rcases hb with rfl | rfl
  ·exact ⟨e3,e1,e4,e5⟩
  ·exact ⟨i3,i1,i4,i5⟩
 ·obtain ⟨o,es,ep,ho,r⟩:=hm
  exact ⟨o,es,ep,k _ o (Ne.symm e1) (Ne.symm i1) ho,r⟩
 ·refine (I.hok b u q).stay (fun c v hc y=>k c v ?_ ?_ y) (fun _ y=>y) fun _ _ y=>y
  ·rcases hc with z | z
   ·rw [z]; exact ne b u q
   ·exact ne c _ z
  ·rcases hc with z | z
   ·rw [z]; exact ni b u q
   ·exact ni c _ z
noncomputable def Ite (_K:PySem.W.Frag)(a:Addr):It:=
 ⟨fun i H=>∃ xs x,H a=some (.tup xs)/\xs[i]?=some x,fun i H y H'=>∃ xs x p,H a=some (.tup xs)/\xs[i]?=some x/\y=.ref p/\H p=none/\H'=upd H p (.tup [.int (i:Int),x]),fun i H=>∃ xs,H a=some (.tup xs)/\xs.length=i⟩
theorem jfX {P:Program}{w:World}{K:PySem.W.Frag}{elts:List Expr}{x1}{pos:Pos}(a e it:Addr)(hei:e≠it)(hae:a≠e)(hai:a≠it) :
  Turn P w K (.Tuple elts x1 pos) (Ite K a) [e,it] e (fun i h=>(∃ old,IsEnum h e it (i:Int) old)/\h.IsTupleIter it a i) where
 mem:=by simp
 obj:=fun i h st b hb=>by
  obtain ⟨⟨old,he⟩,o,ho,c,d⟩:=st
  simp only [List.mem_cons,List.not_mem_nil,or_false] at hb
  rcases hb with rfl | rfl
  ·exact ⟨_,he,fun v z=>nomatch z⟩
  ·exact ⟨o,ho,fun v z=>by rw [d] at z; cases z⟩
 keep:=fun i h h' st k=>by
  obtain ⟨⟨old,he⟩,o,ho,r⟩:=st
  exact ⟨⟨old,k e (by simp) _ he⟩,o,k it (by simp) _ ho,r⟩
 item:=by
  intro X hP hw hK hc i pins s σ H E I hf st hg
  subst hP hw hK
  obtain ⟨xs,x,hq,hx⟩:=hg
  obtain ⟨its,rv,p,hz⟩:=I.tuple (SqT.of hq)
  obtain ⟨u,hu,ru⟩:=rv.get hx
  obtain ⟨⟨old,he⟩,hit⟩:=st
  have hlt:i < its.toArray.size:=by
   have:=(List.getElem?_eq_some_iff.mp hu).1
   simpa using this
  refine wpAny_pyNext_enum_itemD (jee (A:=X.A.in1) (I.ok.hd hc) it a hai its.toArray) he ⟨hit,p⟩ hlt hei (by simp; exact ⟨hei,Ne.symm hae⟩) fun x' h' tk hP ho hs' hT hsz hk=>?_
  refine ⟨_,rfl,wpAny_letOwnedTupleGo_enum ho fun h2 he2 hs2=>?_⟩
  have ex:x'=u:=by
   have:its.toArray[i]?=some u:=by simpa using hu
   exact Option.some.inj (hP.symm.trans this)
  subst ex
  have hfr:H s.heap.objs.size=none:=I.hok.fresh (Nat.le_refl _)
  have hen:e≠s.heap.objs.size:=Nat.ne_of_lt (Heap.lt_size he)
  have hin:it≠s.heap.objs.size:=by obtain ⟨o,ho',_⟩:=hit; exact Nat.ne_of_lt (Heap.lt_size ho')
  have I1:Inv X pins σ (upd H s.heap.objs.size (.tup [.int (i:Int),x])) { s with heap:=s.heap.push { cls:=.type "tuple",data:=.seq #[.int i tk,x'] },toks:=tk + 1 }:=by
   refine I.laid (fun b o y=>Heap.get?_push_of_some _ y) (Nat.le_refl _) ⟨by show 2<=sizeLine; decide,[.int i tk,x'],.cons ⟨tk,rfl⟩ (.cons ru .nil),TupD.new _ _⟩
  have fpU:∀ b,b≠s.heap.objs.size->FpOk X pins H b->FpOk X pins (upd H s.heap.objs.size (.tup [.int (i:Int),x])) b:=fun b hb f=>⟨by rw [jai hb]; exact f.1,f.2⟩
  have kk:∀ b o,b≠e->b≠it->(s.heap.push { cls:=.type "tuple",data:=.seq #[.int i tk,x'] }).get? b=some o->h2.get? b=some o:=fun b o be bi y=>by
   have step:h'.get? b=some o:=by
    by_cases hb:b=s.heap.objs.size
    ·subst hb
     rw [hT]
     exact (Heap.get?_push_size s.heap (o:={ cls:=.type "tuple",data:=.seq #[.int i tk,x'] }) rfl).symm.trans y
    ·rw [Heap.get?_push_ne _ _ _ hb] at y
     exact hk b o be bi y
   exact (hs2.2 b be).trans step
  have I2:Inv X pins σ (upd H s.heap.objs.size (.tup [.int (i:Int),x])) { s with heap:=h2,toks:=tk + 1 }:=
   jiF (s:={ s with heap:=s.heap.push { cls:=.type "tuple",data:=.seq #[.int i tk,x'] },toks:=tk + 1 }) (h':=h2) (t':=tk + 1) (e:=e) (it:=it) I1 kk (fpU e hen (hf e (by simp))) (fpU it hin (hf it (by simp)))
  refine ⟨.ref s.heap.objs.size,_,I2,rfl,⟨xs,x,_,hq,hx,rfl,hfr,rfl⟩,⟨⟨_,by simpa using he2⟩,?_⟩,fun b hb=>?_⟩
  ·obtain ⟨o,ho',r⟩:=hs'.1
   exact ⟨o,(hs2.2 it (Ne.symm hei)).trans ho',r⟩
  ·simp only [List.mem_cons,List.not_mem_nil,or_false] at hb
   rcases hb with rfl | rfl
   ·rw [jai hen]; exact (hf _ (by simp)).1
   ·rw [jai hin]; exact (hf _ (by simp)).1
 done:=by
  intro X hP hw hK hc i pins s σ H E I hf st hg
  subst hP hw hK
  obtain ⟨xs,hq,hx⟩:=hg
  obtain ⟨its,rv,p,hz⟩:=I.tuple (SqT.of hq)
  obtain ⟨⟨old,he⟩,hit⟩:=st
  have hl:its.toArray.size=i:=by rw [List.size_toArray,<- rv.length]; exact hx
  refine wpAny_pyNext_enum_endD (jee (A:=X.A.in1) (I.ok.hd hc) it a hai its.toArray) he ⟨by rw [hl]; exact hit,p⟩ fun h' eb=>⟨rfl,?_⟩
  obtain ⟨f0,f1,f2,f3,f4,f5⟩:=hf it (by simp)
  exact I.turned (t':=s.toks) (fun b o hb y=>eb b o hb y) f0 f1 f3 f4 f5
 self:=fun A i s Q E st h=>by
  obtain ⟨⟨old,he⟩,_⟩:=st
  exact wpAny_pyIter_enum he h
end
section
variable {X:Cx}
noncomputable def jno (K:PySem.W.Frag)(ta:TA):TI:=fun σ H R=>ta σ H fun vs H1=>∃ a,vs=[.ref a]/\(∃ xs,H1 a=some (.tup xs))/\R (Ite K a) H1
theorem ji5 {l:Expr}{ta:TA}{p pos tpos:Pos}{elts:List Expr}{x1}(hg:Gl X "enumerate")(hm:X.mg "enumerate" = none)(ha:PA X [l] ta)(hs:starEach [l] X.env=[(false,eval l X.env)]:=by rfl) :
  PI X (.Tuple elts x1 tpos) (.Call (.Name "enumerate" p) [l] [] pos) (jno X.K ta):=by
 intro pins s σ H R I h
 refine Call_ (jd6 I hg hm boot_enumerate (PyProof.Rows.callWith_type1 (thn (ha pos pins s σ H _ I h) fun us s1 ⟨vs,H1,I1,r1,q1⟩=>?_) hs rfl))
 obtain ⟨a,e,⟨xs,hq⟩,q⟩:=q1
 subst e
 obtain ⟨u,rfl,rx⟩:=jcX r1
 cases rx
 obtain ⟨its,rv,t,hz⟩:=I1.tuple (SqT.of hq)
 have hlt:a < s1.heap.objs.size:=by obtain ⟨o,ho,_⟩:=t; exact Heap.lt_size ho
 refine jdD (items:=its.toArray) t fun h' he hit hk=>?_
 refine wpAny_pyIter_enum he ?_
 refine ⟨s1.heap.objs.size + 1,[s1.heap.objs.size + 1,s1.heap.objs.size],_,_,H1,rfl,I1.kept (t':=s1.toks) hk,jfX a _ _ (Nat.succ_ne_self _) (Nat.ne_of_lt (Nat.lt_succ_of_lt hlt)) (Nat.ne_of_lt hlt),⟨⟨_,he⟩,hit⟩,fun b hb=>?_,q⟩
 simp only [List.mem_cons,List.not_mem_nil,or_false] at hb
 rcases hb with rfl | rfl
 ·exact I1.fpOk (Nat.le_succ _) (I1.hok.fresh (Nat.le_succ _))
 ·exact I1.fpOk (Nat.le_refl _) (I1.hok.fresh (Nat.le_refl _))
end
end L2

namespace L2
open PySem PySem.Spec PyProof.Rows
set_option maxHeartbeats 4000000
section
variable {X:Cx}
theorem jeK:ja5 X (.builtin "isinstance") (fun xs H Q=>∃ (x:V) (c:String) (t:Value) (b:Bool),xs=[x,.ty c]/\TyOf X.K H x t/\PySem.W.kitOne X.K t (.type c)=some b/\Q (.bl b) H):=by
 intro pins s σ H xs us Q I r h
 obtain ⟨x,c,t,b,rfl,ty,e,q⟩:=h
 obtain ⟨u,v,rfl,ru,rv⟩:=Vals.two r
 cases rv
 exact jgG I ru ty e fun tk=>⟨.bl b,H,I.tok tk,rfl,q⟩
end
section
variable {prog:Program}{w:World}{A:Around}{R:Result->Shared->Prop}{I:Addr}{fp wr:List Addr}{n:Nat}{P:Nat->Value->Prop}{St:Nat->Heap->Prop}
end
section
variable {prog:Program}{w:World}{A:Around}{E:Value->Shared->Prop}{s:Shared}
end

noncomputable def jlV (ks:List (List Int)):Nat:=argBest (fun i j=>HT.lexLt (ks.getD i []) (ks.getD j [])) (ks.length - 1)
noncomputable def KeyI (H:Hp)(v:V)(k:List Int):Prop:=∃ n,v=.int n/\k=[n]
noncomputable def KeyT (K:PySem.W.Frag)(H:Hp)(v:V)(k:List Int):Prop:=∃ t,v=.ref t/\SqT K H t (k.map V.int)
section
variable {X:Cx}
theorem jeP {vs:List V}{us:List Value}(r:Vals vs us){i:Nat}{u:Value}(h:us[i]?=some u):∃ v,vs[i]?=some v/\RelV v u:=by
 induction r generalizing i with
 | nil=>cases h
 | cons a r ih=>
  cases i with
  | zero=>exact ⟨_,rfl,by cases h; exact a⟩
  | succ i=>exact ih h
theorem jfd {ns:List Int}{us:List Value}(r:Vals (ns.map V.int) us):IntsAre us ns:=by
 induction ns generalizing us with
 | nil=>cases r; exact .nil
 | cons n ns ih=>
  cases r with
  | cons a r=>
   obtain ⟨t,rfl⟩:=a
   exact .cons n t (ih r)
end
end L2

namespace L2
open PySem PySem.Spec PyProof.Rows PySem.W
set_option maxHeartbeats 4000000
section
variable {n:Nat}{lt:Nat->Nat->Bool}{cmp:Nat->Nat->(Bool->Shared->Prop)->Shared->Prop}{s:Shared}
structure Asks (n:Nat)(lt:Nat->Nat->Bool)(cmp:Nat->Nat->(Bool->Shared->Prop)->Shared->Prop)(s:Shared):Prop where
 ask:∀ i j C,i < n->j < n->C (lt i j) s->cmp i j C s
 tr:∀ i j k,i < n->j < n->k < n->lt i j=true->lt j k=true->lt i k=true
 tot:∀ i j,i < n->j < n->i≠j->lt i j=true\/lt j i=true
 ir:∀ i,i < n->lt i i=false
noncomputable def gD (p:Array Nat)(k:Nat):Nat:=p.getD k 0
structure Arr (n:Nat)(p:Array Nat):Prop where
 z:p.size=n
 b:∀ i,i < n->gD p i < n
 inj:∀ i j,i < n->j < n->gD p i=gD p j->i=j
 pm:p.toList.Perm (List.range n)
noncomputable def Asc (lt:Nat->Nat->Bool)(p:Array Nat)(m:Nat):Prop:=∀ i,i + 1 < m->lt (gD p i) (gD p (i + 1))=true
theorem Asks.no (a:Asks n lt cmp s){p:Array Nat}(r:Arr n p){i j:Nat}(hi:i < n)(hj:j < n)(hne:i≠j)(h:lt (gD p i) (gD p j)=false):lt (gD p j) (gD p i)=true:=by
 rcases a.tot _ _ (r.b i hi) (r.b j hj) (fun z=>hne (r.inj i j hi hj z)) with z | z
 ·rw [h] at z; cases z
 ·exact z
theorem Asc.less (a:Asks n lt cmp s){p:Array Nat}(r:Arr n p){m:Nat}(hm:m<=n)(h:Asc lt p m):∀ d i,i + d + 1 < m->lt (gD p i) (gD p (i + d + 1))=true
 | 0,i,hi=>h i hi
 | d + 1,i,hi=>a.tr _ _ _ (r.b _ (by omega)) (r.b _ (by omega)) (r.b _ (by omega)) (Asc.less a r hm h d i (by omega)) (h (i + d + 1) hi)
theorem jg6 (a:Asks n lt cmp s){p:Array Nat}(r:Arr n p){Q:Nat->Shared->Prop}{m:Nat}(hm:m<=n):∀ (f k:Nat),1<=k->k + f=m->Asc lt p k->(∀ k',k<=k'->k'<=m->Asc lt p k'->(k' < m->lt (gD p k') (gD p (k' - 1))=true)->Q k' s)->(kas_asc p f k).kasWp cmp Q s
 | 0,k,_,e,h,q=>q k (Nat.le_refl _) (by omega) h fun z=>by omega
 | f + 1,k,h1,e,h,q=>by
  refine a.ask _ _ _ (r.b k (by omega)) (r.b (k - 1) (by omega)) ?_
  show (if lt (gD p k) (gD p (k - 1))=true then KasT.ret k else kas_asc p f (k + 1)).kasWp cmp Q s
  by_cases c:lt (gD p k) (gD p (k - 1))=true
  ·rw [if_pos c]
   exact q k (Nat.le_refl _) (by omega) h fun _=>c
  ·rw [if_neg c]
   have c:lt (gD p (k - 1)) (gD p k)=true:=a.no r (by omega) (by omega) (by omega) (by simpa using c)
   refine jg6 a r hm f (k + 1) (by omega) (by omega) (fun i hi=>?_) fun k' h2 h3 h4 h5=>q k' (by omega) h3 h4 h5
   by_cases z:i + 1=k
   ·have:i=k - 1:=by omega
    rw [z,this]; exact c
   ·exact h i (by omega)
theorem jgT (a:Asks n lt cmp s){p:Array Nat}(r:Arr n p){Q:Array Nat×Nat×Nat->Shared->Prop}{m:Nat}(hm:m<=n):∀ (f k:Nat),1<=k->k + f=m->(∀ i,i + 1 < k->lt (gD p (i + 1)) (gD p i)=true)->(∀ k',k<=k'->k'<=m->(∀ i,i + 1 < k'->lt (gD p (i + 1)) (gD p i)=true)->Q (p,k',0) s)->(kas_desc f p k 0).kasWp cmp Q s
 | 0,k,_,e,h,q=>q k (Nat.le_refl _) (by omega) h
 | f + 1,k,h1,e,h,q=>by
  refine a.ask _ _ _ (r.b k (by omega)) (r.b (k - 1) (by omega)) ?_
  show (if lt (gD p k) (gD p (k - 1))=true then (if 0 > 0 then kas_desc f (kas_rev p (k - (0 + 1)) k) (k + 1) 0 else kas_desc f p (k + 1) 0)
   else KasT.ask (gD p (k - 1)) (gD p k) fun d=>if d=true then KasT.ret (p,k,0) else kas_desc f p (k + 1) (0 + 1)).kasWp cmp Q s
  by_cases c:lt (gD p k) (gD p (k - 1))=true
  ·rw [if_pos c,if_neg (by decide)]
   refine jgT a r hm f (k + 1) (by omega) (by omega) (fun i hi=>?_) fun k' h2 h3 h4=>q k' (by omega) h3 h4
   by_cases z:i + 1=k
   ·have:i=k - 1:=by omega
    rw [z,this]; exact c
   ·exact h i (by omega)
  ·rw [if_neg c]
   have c:lt (gD p (k - 1)) (gD p k)=true:=a.no r (by omega) (by omega) (by omega) (by simpa using c)
   refine a.ask _ _ _ (r.b (k - 1) (by omega)) (r.b k (by omega)) ?_
   dsimp only
   rw [if_pos c]
   exact q k (Nat.le_refl _) (by omega) h
theorem jgN {p q:Array Nat}{i j:Nat}(h:p[i]?=q[j]?):gD p i=gD q j:=by
 unfold gD
 rw [Array.getD_eq_getD_getElem?,Array.getD_eq_getD_getElem?,h]
theorem jeu {p:Array Nat}{m:Nat}(hm:m<=p.size)(k:Nat):gD (kas_rev p 0 m) k=if k < m then gD p (m - 1 - k) else gD p k:=by
 have:=getElem?_mirror_all (xs:=p) (i:=0) hm k
 split
 ·rename_i h
  refine jgN ?_
  show (mirror p 0 m ((m - 0) / 2))[k]?=_
  rw [this,if_pos ⟨Nat.zero_le _,h⟩]
  congr 1
  omega
 ·rename_i h
  refine jgN ?_
  show (mirror p 0 m ((m - 0) / 2))[k]?=_
  rw [this,if_neg (fun z=>h z.2)]
theorem Arr.rev {p:Array Nat}(r:Arr n p){m:Nat}(hm:m<=n):Arr n (kas_rev p 0 m):=by
 have g:=fun k=>jeu (p:=p) (m:=m) (by rw [r.z]; exact hm) k
 refine ⟨by rw [kas_rev_size,r.z],fun i hi=>?_,fun i j hi hj e=>?_,(Array.perm_iff_toList_perm.mp (mirror_perm p 0 m ((m - 0) / 2))).trans r.pm⟩
 ·rw [g]
  split
  ·exact r.b _ (by omega)
  ·exact r.b _ hi
 ·rw [g,g] at e
  split at e <;> split at e
  ·have:=r.inj _ _ (by omega) (by omega) e; omega
  ·have:=r.inj _ _ (by omega) (by omega) e; omega
  ·have:=r.inj _ _ (by omega) (by omega) e; omega
  ·exact r.inj _ _ hi hj e
theorem jhP (a:Asks n lt cmp s){p:Array Nat}(r:Arr n p){Q:Nat×Array Nat->Shared->Prop}(h2:2<=n)(q:∀ k p',1<=k->k<=n->Arr n p'->Asc lt p' k->Q (k,p') s):(kas_count n p).kasWp cmp Q s:=by
 unfold kas_count
 rw [KasT.kasWp_bind]
 refine jg6 a r (m:=n) (Nat.le_refl _) (n - 1) 1 (Nat.le_refl _) (by omega) (fun i hi=>by omega) fun k h1 h3 h4 h5=>?_
 by_cases e:k=n
 ·rw [if_pos (by simpa using e)]
  exact q k p h1 h3 r h4
 ·rw [if_neg (by simpa using e)]
  by_cases hk:k > 1
  ·rw [if_pos hk]
   refine a.ask _ _ _ (r.b 0 (by omega)) (r.b (k - 1) (by omega)) ?_
   have c:lt (p.getD 0 0) (p.getD (k - 1) 0)=true:=by
    have:=Asc.less a r h3 h4 (k - 2) 0 (by omega)
    rw [show 0 + (k - 2) + 1=k - 1 by omega] at this
    exact this
   dsimp only
   rw [if_pos c]
   exact q k p h1 h3 r h4
  ·rw [if_neg hk]
   have k1:k=1:=by omega
   subst k1
   unfold kas_descPart
   rw [KasT.kasWp_bind]
   refine jgT a r (m:=n) (Nat.le_refl _) (n - (1 + 1)) (1 + 1) (by omega) (by omega) (fun i hi=>?_) fun k' h6 h7 h8=>?_
   ·have:i=0:=by omega
    subst this
    exact h5 (by omega)
   ·rw [if_neg (by show ¬ (0 > 0); omega)]
    show (kas_tail3 k' n p).kasWp cmp Q s
    unfold kas_tail3
    rw [KasT.kasWp_bind]
    have rr:=r.rev h7
    refine jg6 a rr (m:=n) (Nat.le_refl _) (n - k') k' (by omega) (by omega) (fun i hi=>?_) fun k2 h9 ha hb hc=>?_
    ·rw [jeu (by rw [r.z]; exact h7),jeu (by rw [r.z]; exact h7),if_pos (by omega),if_pos hi]
     have:=h8 (k' - 1 - (i + 1)) (by omega)
     rw [show k' - 1 - (i + 1) + 1=k' - 1 - i by omega] at this
     exact this
    ·exact q k2 _ (by omega) ha rr hb
theorem jdq (a:Asks n lt cmp s){p:Array Nat}(r:Arr n p){Q:Nat->Shared->Prop}{k:Nat}(hk:k < n)(hs:Asc lt p k):∀ (f l u:Nat),l<=u->u<=k->u - l<=f->(∀ i,i < l->lt (gD p i) (gD p k)=true)->(∀ i,u<=i->i < k->lt (gD p k) (gD p i)=true)->
  (∀ l',l'<=k->(∀ i,i < l'->lt (gD p i) (gD p k)=true)->(∀ i,l'<=i->i < k->lt (gD p k) (gD p i)=true)->Q l' s)->(kas_place p k f l u).kasWp cmp Q s
 | 0,l,u,h1,h2,h3,h4,h5,q=>q l (by omega) h4 fun i hi=>h5 i (by omega)
 | f + 1,l,u,h1,h2,h3,h4,h5,q=>by
  show (if l ≥ u then KasT.ret l else KasT.ask (gD p k) (gD p ((l + u) / 2)) fun c=>if c=true then kas_place p k f l ((l + u) / 2) else kas_place p k f ((l + u) / 2 + 1) u).kasWp cmp Q s
  by_cases e:l ≥ u
  ·rw [if_pos e]
   exact q l (by omega) h4 fun i hi=>h5 i (by omega)
  ·rw [if_neg e]
   obtain ⟨m,hm⟩:∃ m,m=(l + u) / 2:=⟨_,rfl⟩
   rw [<- hm]
   have m1:l<=m:=by omega
   have m2:m < u:=by omega
   refine a.ask _ _ _ (r.b k hk) (r.b m (by omega)) ?_
   dsimp only
   by_cases c:lt (gD p k) (gD p m)=true
   ·rw [if_pos c]
    refine jdq a r hk hs f l m m1 (by omega) (by omega) h4 (fun i hi1 hi2=>?_) q
    by_cases z:i=m
    ·rw [z]; exact c
    ·have:=Asc.less a r (Nat.le_of_lt hk) hs (i - m - 1) m (by omega)
     rw [show m + (i - m - 1) + 1=i by omega] at this
     exact a.tr _ _ _ (r.b _ hk) (r.b _ (by omega)) (r.b _ (by omega)) c this
   ·rw [if_neg c]
    have c:lt (gD p m) (gD p k)=true:=a.no r hk (by omega) (by omega) (by simpa using c)
    refine jdq a r hk hs f (m + 1) u (by omega) h2 (by omega) (fun i hi=>?_) h5 q
    by_cases z:i=m
    ·rw [z]; exact c
    ·have:=Asc.less a r (Nat.le_of_lt hk) hs (m - i - 1) i (by omega)
     rw [show i + (m - i - 1) + 1=m by omega] at this
     exact a.tr _ _ _ (r.b _ (by omega)) (r.b _ (by omega)) (r.b _ hk) this c
theorem jjY {p:Array Nat}{k l:Nat}(hk:k < p.size)(hl:l<=k)(i:Nat):gD (bubble p k (k - l)) i=if i=l then gD p k else if l < i/\i<=k then gD p (i - 1) else gD p i:=by
 have:=getElem?_bubble (xs:=p) hk (k - l) (by omega) i
 rw [show k - (k - l)=l by omega] at this
 split
 ·rename_i h; refine jgN ?_; rw [this,if_pos h]
 ·rename_i h
  rw [if_neg h] at this
  split
  ·rename_i h'; refine jgN ?_; rw [this,if_pos h']
  ·rename_i h'; refine jgN ?_; rw [this,if_neg h']
theorem jiv (a : Asks n lt cmp s){Q : Array Nat -> Shared -> Prop}(q : ∀ p, Arr n p -> Asc lt p n -> Q p s) : ∀ (f : Nat) (p : Array Nat) (k : Nat), Arr n p -> k + f = n -> Asc lt p k -> (kas_bin f p k).kasWp cmp Q s
  | 0, p, k, r, e, h => by
    have : k = n := by omega
    subst this
    exact q p r h
  | f + 1, p, k, r, e, h => by
    show ((kas_place p k k 0 k).bind fun l => kas_bin f (bubble p k (k - l)) (k + 1)).kasWp cmp Q s
    rw [KasT.kasWp_bind]
    refine jdq a r (by omega) h k 0 k (Nat.zero_le _) (Nat.le_refl _) (by omega) (fun i hi => by omega) (fun i h1 h2 => by omega) fun l hl h1 h2 => ?_
    have g := fun i => jjY (p := p) (k := k) (l := l) (by rw [r.z]; omega) hl i
    refine jiv a q f _ (k + 1) ⟨by rw [bubble_size, r.z], fun i hi => ?_, fun i j hi hj e' => ?_, (Array.perm_iff_toList_perm.mp (bubble_perm p k (k - l))).trans r.pm⟩ (by omega) fun i hi => ?_
    · rw [g]
      split
      · exact r.b _ (by omega)
      · split
        · exact r.b _ (by omega)
        · exact r.b _ hi
    · have g2 : ∀ i, gD (bubble p k (k - l)) i = gD p (if i = l then k else if l < i /\ i <= k then i - 1 else i) := fun i => by
        rw [g]
        split
        · rfl
        · split <;> rfl
      rw [g2, g2] at e'
      have bd : ∀ i, i < n -> (if i = l then k else if l < i /\ i <= k then i - 1 else i) < n := fun i hi => by
        split
        · omega
        · split <;> omega
      have e2 := r.inj _ _ (bd i hi) (bd j hj) e'
      by_cases x1 : i = l
      · rw [if_pos x1] at e2
        by_cases y1 : j = l
        · omega
        · rw [if_neg y1] at e2
          by_cases y2 : l < j /\ j <= k
          · rw [if_pos y2] at e2; omega
          · rw [if_neg y2] at e2; omega
      · rw [if_neg x1] at e2
        by_cases y1 : j = l
        · rw [if_pos y1] at e2
          by_cases x2 : l < i /\ i <= k
          · rw [if_pos x2] at e2; omega
          · rw [if_neg x2] at e2; omega
        · rw [if_neg y1] at e2
          by_cases x2 : l < i /\ i <= k
          · rw [if_pos x2] at e2
            by_cases y2 : l < j /\ j <= k
            · rw [if_pos y2] at e2; omega
            · rw [if_neg y2] at e2; omega
          · rw [if_neg x2] at e2
            by_cases y2 : l < j /\ j <= k
            · rw [if_pos y2] at e2; omega
            · rw [if_neg y2] at e2; omega
    · rw [g, g]
      by_cases c1 : i + 1 < l
      · rw [if_neg (by omega), if_neg (by omega), if_neg (by omega), if_neg (by omega)]
        exact h i (by omega)
      · by_cases c2 : i + 1 = l
        · rw [if_neg (by omega), if_neg (by omega), if_pos c2]
          exact h1 i (by omega)
        · by_cases c3 : i = l
          · rw [if_pos c3, if_neg (by omega), if_pos (by omega)]
            rw [show i + 1 - 1 = l by omega]
            exact h2 l (Nat.le_refl _) (by omega)
          · rw [if_neg c3, if_pos (by omega), if_neg (by omega), if_pos (by omega)]
            have := h (i - 1) (by omega)
            rw [show i - 1 + 1 = i + 1 - 1 by omega] at this
            exact this
theorem jiJ (a:Asks n lt cmp s){Q:Array Nat->Shared->Prop}(h2:2<=n)(q:∀ p,Arr n p->Asc lt p n->Q p s):(kas_sort n).kasWp cmp Q s:=by
 unfold kas_sort
 rw [KasT.kasWp_bind]
 have r0:Arr n (List.toArray (List.range n)):=by
  have g:∀ i,i < n->gD (List.toArray (List.range n)) i=i:=fun i hi=>by unfold gD; simp [Array.getD,hi]
  exact ⟨by simp,fun i hi=>by rw [g i hi]; exact hi,fun i j hi hj e=>by rw [g i hi,g j hj] at e; exact e,by simp⟩
 refine jhP a r0 h2 fun k p' h1 h3 r h4=>?_
 show (if k < n then kas_bin (n - max k 1) p' (max k 1) else KasT.ret p').kasWp cmp Q s
 by_cases c:k < n
 ·rw [if_pos c,Nat.max_eq_left h1]
  exact jiv a q (n - k) p' k r (by omega) h4
 ·rw [if_neg c]
  have:k=n:=by omega
  subst this
  exact q p' r h4
end
end L2

namespace L2
open PySem PySem.Spec PyProof.Rows PySem.W
open PySem.AutoSeq1 (wpAny_loadPart')
open PySem.MeetsSeq PySem.MeetsSeq2 PySem.MeetsSeq3
set_option maxHeartbeats 4000000
theorem jfc {us:List Value}{ns:List Int}(r:IntsAre us ns){i:Nat}{u:Value}(h:us[i]?=some u):∃ z t,ns[i]?=some z/\u=.int z t:=by
 induction r generalizing i with
 | nil=>cases h
 | cons z t r ih=>
  cases i with
  | zero=>cases h; exact ⟨z,t,rfl,rfl⟩
  | succ i=>exact ih h
theorem jhE {ns ms:List Int}{i:Nat}{a c:Int}(h1:ns[i]?=some a)(h2:ms[i]?=some c):HT.lexLt (ns.drop i) (ms.drop i)=if a=c then HT.lexLt (ns.drop (i + 1)) (ms.drop (i + 1)) else decide (a < c):=by
 obtain ⟨g1,e1⟩:=List.getElem?_eq_some_iff.mp h1
 obtain ⟨g2,e2⟩:=List.getElem?_eq_some_iff.mp h2
 rw [List.drop_eq_getElem_cons g1,List.drop_eq_getElem_cons g2,HT.lexLt_cons,e1,e2]
theorem jjw {ns ms:List Int}{i:Nat}(h:i=ns.length\/i=ms.length)(h1:i<=ns.length)(h2:i<=ms.length):HT.lexLt (ns.drop i) (ms.drop i)=decide (ns.length < ms.length):=by
 by_cases e1:i=ns.length
 ·rw [List.drop_of_length_le (l:=ns) (by omega)]
  by_cases e2:i=ms.length
  ·rw [List.drop_of_length_le (by omega),HT.lexLt_nil_nil]; exact (decide_eq_false (by omega)).symm
  ·rw [List.drop_eq_getElem_cons (l:=ms) (by omega),HT.lexLt_nil_cons]; exact (decide_eq_true (by omega)).symm
 ·rw [List.drop_eq_getElem_cons (l:=ns) (by omega),List.drop_of_length_le (l:=ms) (by omega),HT.lexLt_cons_nil]; exact (decide_eq_false (by omega)).symm
theorem jju (l b : Addr)(xs ys : Array Value)(n m : Nat)(dd de : Option Addr)(sl sm : Array (Option Value))(ns ms : List Int)(hi : IntsAre xs.toList ns)(hj : IntsAre ys.toList ms)(k : Nat) :
    ∀ i : Nat, ns.length - i = k -> i <= ns.length -> i <= ms.length -> Meets (Builtin.«list.__eq__.loop» ⟨[.ref l, .ref b, rawInt i, rawInt 0], []⟩)
      (fun _ R s => s.heap.get? l = some { cls := .type "list", dict := dd, data := .seq xs n, slots := sl } /\ s.heap.get? b = some { cls := .type "list", dict := de, data := .seq ys m, slots := sm } /\ R (.ok (.ret (.bool (HT.lexLt (ns.drop i) (ms.drop i))))) s) := by
  have z1 : xs.size = ns.length := by rw [<- hi.length]; simp
  have z2 : ys.size = ms.length := by rw [<- hj.length]; simp
  have stop : ∀ i : Nat, i <= ns.length -> i <= ms.length -> (i = ns.length \/ i = ms.length) -> Meets (Builtin.«list.__eq__.loop» ⟨[.ref l, .ref b, rawInt i, rawInt 0], []⟩)
      (fun _ R s => s.heap.get? l = some { cls := .type "list", dict := dd, data := .seq xs n, slots := sl } /\ s.heap.get? b = some { cls := .type "list", dict := de, data := .seq ys m, slots := sm } /\ R (.ok (.ret (.bool (HT.lexLt (ns.drop i) (ms.drop i))))) s) := by
    intro i h1 h2 h3 prog w A R s h
    obtain ⟨hp, g, d, tk, os⟩ := s; obtain ⟨gl, gb, h⟩ := h
    rw [jjw h3 h1 h2, <- z1, <- z2] at h
    wp_walk using wpAny_loadPart' gl, wpAny_loadPart' gb
    rcases h3 with e | e
    · have q1 : xs[((i : Nat) : Int).toNat]? = none := by simp; omega
      rw [q1]
      wp_walk using wpAny_loadPart' gl, wpAny_loadPart' gb
      exact h
    · have q2 : ys[((i : Nat) : Int).toNat]? = none := by simp; omega
      rw [q2]
      cases q1 : xs[((i : Nat) : Int).toNat]? with
      | none => wp_walk using wpAny_loadPart' gl, wpAny_loadPart' gb
                exact h
      | some v => wp_walk using wpAny_loadPart' gl, wpAny_loadPart' gb
                  exact h
  induction k with
  | zero => exact fun i hk h1 h2 => stop i h1 h2 (.inl (by omega))
  | succ k ih =>
    intro i hk h1 h2
    by_cases e : i = ms.length
    · exact stop i h1 h2 (.inr e)
    · intro prog w A R s h
      obtain ⟨hp, g, d, tk, os⟩ := s; obtain ⟨gl, gb, h⟩ := h
      wp_walk using wpAny_loadPart' gl, wpAny_loadPart' gb
      have l1 : i < xs.size := by omega
      have l2 : i < ys.size := by omega
      have q1 : xs[((i : Nat) : Int).toNat]? = some xs[i] := by simp [l1]
      have q2 : ys[((i : Nat) : Int).toNat]? = some ys[i] := by simp [l2]
      have hc : ((i : Int) + 1) = ((i + 1 : Nat) : Int) := by push_cast; rfl
      obtain ⟨a, t, ea, va⟩ := jfc hi (i := i) (u := xs[i]) (by simp [l1])
      obtain ⟨c, u, ec, vc⟩ := jfc hj (i := i) (u := ys[i]) (by simp [l2])
      rw [jhE ea ec] at h
      rw [q1, q2, va, vc]
      obtain ⟨e, he, hiff⟩ := HT.eqAt_int A.in1 ⟨hp, g, d, tk, os⟩ a t c u
      refine wpAny_bind (he prog w _ _ ?_)
      cases e with
      | true =>
        rw [if_pos (hiff.mp rfl)] at h
        wp_walk
        rw [hc]
        exact ⟨plainId_quiet plain_eq_loop _, codeAny_builtin entry_eq_loop (by rw [Around.under_plainId plain_eq_loop _]; exact ih (i + 1) (by omega) (by omega) (by omega) prog w A R _ ⟨gl, gb, h⟩)⟩
      | false =>
        rw [if_neg (fun q => absurd (hiff.mpr q) Bool.false_ne_true)] at h
        wp_walk using wpAny_loadPart' gl, wpAny_loadPart' gb
        rw [q1, q2, va, vc]
        have hri := HT.rcLt_int A.in1 ⟨hp, g, d, tk, os⟩ a t c u prog w
        wp_walk using hri
        exact h
theorem jjv (l b : Addr)(xs ys : Array Value)(n m : Nat)(dd de : Option Addr)(sl sm : Array (Option Value))(ns ms : List Int)(hi : IntsAre xs.toList ns)(hj : IntsAre ys.toList ms) : Meets (Builtin.«list.__lt__» ⟨[.ref l, .ref b], []⟩)
      (fun _ R s => s.heap.get? l = some { cls := .type "list", dict := dd, data := .seq xs n, slots := sl } /\ s.heap.get? b = some { cls := .type "list", dict := de, data := .seq ys m, slots := sm } /\ R (.ok (.ret (.bool (HT.lexLt ns ms)))) s) := by
  intro prog w A R s h
  obtain ⟨hp, g, d, tk, os⟩ := s; obtain ⟨gl, gb, h⟩ := h
  have f3 := AutoSeq1.sub_list_list
  wp_walk using wpAny_loadPart' gl, wpAny_loadPart' gb
  exact ⟨plainId_quiet plain_eq_loop _, codeAny_builtin entry_eq_loop (by rw [Around.under_plainId plain_eq_loop _]; exact jju l b xs ys n m dd de sl sm ns ms hi hj _ 0 rfl (Nat.zero_le _) (Nat.zero_le _) prog w A R _ ⟨gl, gb, h⟩)⟩
end L2

namespace L2
open PySem PySem.Spec PyProof.Rows PySem.W
set_option maxHeartbeats 4000000
noncomputable def jb3:Nat:=64
section
variable {prog:Program}{w:World}{A:Around}{E:Value->Shared->Prop}{s:Shared}
theorem jfB {a b:Addr}{xs ys:Array Value}{ns ms:List Int}{Q:Bool->Shared->Prop}(hu:A.units < cLine)(ga:PlainL s.heap a xs)(gb:PlainL s.heap b ys)(hi:IntsAre xs.toList ns)(hj:IntsAre ys.toList ms)(h:Q (HT.lexLt ns ms) s) :
  wpAny (model prog w) A (oneLt' true (.ref a) (.ref b)) Q E s:=by
 obtain ⟨⟨c1,d1,dt1,sl1⟩,n1,e1,p1,q1,r1⟩:=ga
 obtain ⟨⟨c2,d2,dt2,sl2⟩,n2,e2,p2,q2,r2⟩:=gb
 simp only at p1 q1 r1 p2 q2 r2
 subst p1 q1 r1 p2 q2 r2
 rw [oneLt'_eq]
 simp only [if_true]
 refine wpAny_bind (wpAny_cRoomFor hu (wpAny_bind (wpAny_callSpecialIfBound?_slot ⟨_,e1,rfl⟩ PySem.F.slot_list_lt (call_meets PySem.F.slot_list_lt ⟨_,e1,rfl⟩ PySem.F.entry_list_lt (PySem.F.args_list_lt_2 _ _) (jjv a b xs ys n1 n2 none none sl1 sl2 ns ms hi hj) ⟨e1,e2,?_⟩))))
 exact wpAny_truthy_bool h
theorem jmp {α β γ:Type}{M:Model}{c:Prop}[Decidable c]{m n:Sem α}{g:α->Sem β}{f:β->Sem γ}{Q:γ->Shared->Prop}(mid:β->Shared->Prop)(h1:c->wpAny M A m (fun a s1=>wpAny M A (g a) mid E s1) E s)(h2:¬c->wpAny M A n (fun a s1=>wpAny M A (g a) mid E s1) E s)(h3:∀ b s2,mid b s2->wpAny M A (f b) Q E s2) :
  wpAny M A (if c then m >>= fun a=>g a >>= f else n >>= fun a=>g a >>= f) Q E s:=by
 have on:∀ {m:Sem α},wpAny M A m (fun a s1=>wpAny M A (g a) mid E s1) E s->wpAny M A (m >>= fun a=>g a >>= f) Q E s:=fun h=>wpAny_bind (thn h fun a s1 h=>wpAny_bind (thn h h3))
 by_cases hc:c
 ·rw [if_pos hc]; exact on (h1 hc)
 ·rw [if_neg hc]; exact on (h2 hc)
theorem jet {κ:SortKind}{a:Addr}{vs:List Value}{n:Nat}{P:Fin->Shared->Prop}(ho:s.heap.get? a=some (seqObj "list" vs.toArray n))(h64:vs.length < jb3)(nd:vs.Nodup)(lt:Nat->Nat->Bool)
  (hk:∀ h':Heap,(∀ b o,b≠a->s.heap.get? b=some o->h'.get? b=some o)->2<=vs.length->∀ R:SortKind->Shared->Prop,R κ { s with heap:=h' }->wpAny (model prog w) A (keyKind' vs.toArray) R E { s with heap:=h' })
  (as:∀ h':Heap,(∀ b o,b≠a->s.heap.get? b=some o->h'.get? b=some o)->Asks vs.length lt (kas_ask prog w A κ vs) { s with heap:=h' })
  (q:∀ π:List Nat,π.Perm (List.range vs.length)->(∀ i,i + 1 < vs.length->lt (π.getD i 0) (π.getD (i + 1) 0)=true)->P (.done (.ret .none)) { s with heap:=sortedHeap s.heap a vs (List.toArray (π.map fun i=>vs.getD i Value.none)) }) :
  wpAny (model prog w) A (Builtin.«list.sort» ⟨[.ref a],[]⟩) P E s:=by
 rw [list_sort_plain]
 have hz:vs.toArray.size=vs.length:=by simp
 have big:vs.length<=sizeLine:=by rw [sizeLine_eq]; unfold jb3 at h64; omega
 have at1:=get?_update_seq ho fun _=>(#[]:Array Value)
 generalize eh1:s.heap.update a (Obj.mapSeq fun _=>(#[]:Array Value))=h1 at at1
 obtain ⟨e1,ho1⟩:∃ e1,h1.get? a=some (seqObj "list" #[] e1):=⟨_,at1⟩
 refine wpAny_bind (listItems_at ho rfl (wpAny_bind (listUpdate_at ho rfl ?_ (hz ▸ big) (Nat.zero_le _))))
 rw [eh1]
 refine wpAny_bind (seqEpoch_at ho1 rfl (wpAny_bind (wpAny_newTuple (wpAny_bind (wpAny_newList (wpAny_holding ?_) (Nat.zero_le _))) big)))
 obtain ⟨h3,eh3⟩:∃ h3,h3=(h1.push (seqObj "tuple" vs.toArray 0)).push (seqObj "list" #[] 0):=⟨_,rfl⟩
 refine (?_:wpAny (model prog w) A _ P E { s with heap:=(h1.push (seqObj "tuple" vs.toArray 0)).push (seqObj "list" #[] 0) })
 have kp:∀ b o,b≠a->s.heap.get? b=some o->h3.get? b=some o:=fun b o hb e=>by
  rw [eh3]
  exact Heap.get?_push_of_some _ (Heap.get?_push_of_some _ (by rw [<- eh1,Heap.get?_update_ne _ _ _ _ hb]; exact e))
 have ho6:h3.get? a=some (seqObj "list" #[] e1):=by rw [eh3]; exact Heap.get?_push_of_some _ (Heap.get?_push_of_some _ ho1)
 have fin:∀ out:Array Value,sortedHeap s.heap a vs out=h3.update a (Obj.mapSeq fun _=>out):=fun out=>by rw [eh3,<- eh1]; rfl
 rw [<- eh3]
 dsimp only
 refine jmp (fun (r:PUnit×SortSt) s'=>s'={ s with heap:=h3 }/\∃ π:List Nat,π.Perm (List.range vs.length)/\(∀ i,i + 1 < vs.length->lt (π.getD i 0) (π.getD (i + 1) 0)=true)/\(arrOf r.2).map (·.2)=List.toArray (π.map fun i=>vs.getD i Value.none)/\failedOf r.2=none) (fun h2=>?_) (fun h2=>?_) ?_
 rotate_right
 ·rintro ⟨⟨⟩,st⟩ s' ⟨rfl,π,hp,hs,hout,hf⟩
  refine wpAny_bind (seqEpoch_at ho6 rfl (wpAny_bind (listUpdate_at ho6 rfl ?_ (Nat.zero_le _) (by rw [hout,List.size_toArray,List.length_map,hp.length_eq,List.length_range]; exact Nat.le_succ_of_le big))))
  dsimp only
  rw [hf,bne_self_eq_false]
  refine wpAny_pure ?_
  rw [hout,<- fin]
  exact q π hp hs
 ·rw [if_pos h2]
  refine wpAny_pure (wpAny_pure ⟨rfl,List.range vs.length,.refl _,fun i hi=>by rw [hz] at h2; omega,?_,rfl⟩)
  refine (?_:(vs.toArray.zip vs.toArray).map (·.2)=_)
  apply Array.toList_inj.mp
  refine List.ext_getElem (by simp) fun i g1 g2=>?_
  have hi:i < vs.length:=by simpa using g1
  simp [List.getD,hi]
 ·rw [if_neg h2]
  rw [hz] at h2
  refine hk h3 kp (Nat.not_lt.mp h2) _ ?_
  refine wpAny_mono (kat_run (s:={ s with heap:=h3 }) (κ:=κ) (Q:=fun st' s'=>s'={ s with heap:=h3 }/\∃ p:Array Nat,Arr vs.length p/\Asc lt p vs.length/\arrOf st'=p.map (kas_item (vs.toArray.zip vs.toArray))/\failedOf st'=none)
   (G:=fun p s'=>s'={ s with heap:=h3 }/\Arr vs.length p/\Asc lt p vs.length) (ks:=vs) (vs:=vs) rfl (by omega) h64 (fun p st' s' a1 a2 a3 a4=>⟨a4.1,p,a4.2.1,a4.2.2,a2,a3⟩) (jiJ (as h3 kp) (by omega) fun p r1 r2=>⟨rfl,r1,r2⟩)) ?_ fun _ _ e=>e
  rintro ⟨⟨⟩,st⟩ s' ⟨rfl,p,r1,r2,ar,hf⟩
  refine ⟨rfl,p.toList,r1.pm,fun i hi=>?_,kat_snds rfl ar,hf⟩
  have:=r2 i hi
  unfold gD at this
  rw [Array.getD_eq_getD_getElem?,Array.getD_eq_getD_getElem?] at this
  rw [List.getD_eq_getElem?_getD,List.getD_eq_getElem?_getD,Array.getElem?_toList,Array.getElem?_toList]
  exact this
end

theorem jjt:∀ a:List Int,HT.lexLt a a=false
 | []=>rfl
 | x::a=>by rw [HT.lexLt_cons,if_pos rfl]; exact jjt a
theorem jhC:∀ a b c:List Int,HT.lexLt a b=true->HT.lexLt b c=true->HT.lexLt a c=true
 | [],[],_,h,_=>by cases h
 | [],_::_,[],_,h=>by rw [HT.lexLt_cons_nil] at h; cases h
 | [],_::_,_::_,_,_=>rfl
 | _::_,[],_,h,_=>by rw [HT.lexLt_cons_nil] at h; cases h
 | _::_,_::_,[],_,h=>by rw [HT.lexLt_cons_nil] at h; cases h
 | x::a,y::b,z::c,h1,h2=>by
  rw [HT.lexLt_cons] at h1 h2 ⊢
  by_cases e1:x=y
  ·rw [if_pos e1] at h1
   by_cases e2:y=z
   ·rw [if_pos e2] at h2; rw [if_pos (e1.trans e2)]; exact jhC a b c h1 h2
   ·rw [if_neg e2] at h2; rw [if_neg (fun q=>e2 (e1.symm.trans q)),e1]; exact h2
  ·rw [if_neg e1] at h1
   by_cases e2:y=z
   ·rw [if_pos e2] at h2; rw [if_neg (fun q=>e1 (q.trans e2.symm)),<- e2]; exact h1
   ·rw [if_neg e2] at h2
    have g1:=of_decide_eq_true h1
    have g2:=of_decide_eq_true h2
    rw [if_neg (by omega)]; exact decide_eq_true (by omega)
theorem jif:∀ a b:List Int,a≠b->HT.lexLt a b=true\/HT.lexLt b a=true
 | [],[],h=>absurd rfl h
 | [],_::_,_=>.inl rfl
 | _::_,[],_=>.inr rfl
 | x::a,y::b,h=>by
  rw [HT.lexLt_cons,HT.lexLt_cons]
  by_cases e:x=y
  ·rw [if_pos e,if_pos e.symm]
   exact jif a b fun z=>h (by rw [e,z])
  ·rw [if_neg e,if_neg (Ne.symm e)]
   by_cases z:x < y
   ·exact .inl (decide_eq_true z)
   ·exact .inr (decide_eq_true (by omega))
noncomputable def KeyL (K:PySem.W.Frag)(H:Hp)(v:V)(k:List Int):Prop:=∃ t,v=.ref t/\SqL K H t (k.map V.int)
theorem jhD {prog:Program}{w:World}{A:Around}{s:Shared}{Q:Bool->Shared->Prop}{k k':List Int}{ia ib:List Value}(ra:Vals (k.map V.int) ia)(rb:Vals (k'.map V.int) ib)(i:Nat)(h:Q (HT.lexLt k k') s):KatLex prog w A true (decide (ia.toArray.size < ib.toArray.size)) Q (ia.toArray.toList.zip ib.toArray.toList) i s:=by
 have go:∀ (k:List Int) {k':List Int} {ia ib:List Value} (fin:Bool),Vals (k.map V.int) ia->Vals (k'.map V.int) ib->fin=decide (ia.length < ib.length)->∀ (i:Nat),Q (HT.lexLt k k') s->KatLex prog w A true fin Q (ia.zip ib) i s:=fun k=>by
  induction k with
  | nil=>
   intro k' ia ib fin ra rb hf i h
   cases ra
   subst hf
   cases k' with
   | nil=>cases rb; exact kat_nil (by rw [HT.lexLt_nil_nil] at h; simpa using h)
   | cons y k'=>
    cases rb with
    | cons b rb=>
     refine kat_nil ?_
     rw [show HT.lexLt [] (y::k')=true from rfl] at h
     simpa using h
  | cons x k ih=>
   intro k' ia ib fin ra rb hf i h
   cases ra with
   | cons a ra=>
    cases k' with
    | nil=>cases rb; subst hf; exact kat_nil (by rw [HT.lexLt_cons_nil] at h; simpa using h)
    | cons y k'=>
     cases rb with
     | cons b rb=>
      obtain ⟨t,rfl⟩:=a
      obtain ⟨u,rfl⟩:=b
      rw [HT.lexLt_cons] at h
      refine kat_cons (wpAny_eqBool_int ?_)
      refine kat_go (fun e=>kat_yes ?_) fun e=>kat_no ?_
      ·have e:x=y:=by simpa using e
       rw [if_pos e] at h
       exact ih fin ra rb (by rw [hf]; simp) (i + 1) h
      ·have e:¬ x=y:=by simpa using e
       rw [if_neg e] at h
       cases i with
       | zero=>exact oneLt_int h
       | succ i=>
        rw [show (true && (i + 1 == 0))=false by simp]
        exact kat_one _ _ (wpAny_lt_int h)
 exact go k _ ra rb (by simp) i h
section
variable {X:Cx}
noncomputable def jmU (X:Cx)(xs:List V)(H:Hp)(Q:VK):Prop:=∃ (p:Addr) (vs:List V) (ks:List (List Int)),xs=[.ref p]/\SqL X.K H p vs/\vs.length=ks.length/\ks.Nodup/\vs.length < jb3/\
 ((∀ (i:Nat) v k,vs[i]?=some v->ks[i]?=some k->KeyI H v k)\/(∀ (i:Nat) v k,vs[i]?=some v->ks[i]?=some k->KeyL X.K H v k)\/∀ (i:Nat) v k,vs[i]?=some v->ks[i]?=some k->KeyT X.K H v k/\k≠[])/\
 ∀ (l:Addr) (π:List Nat),H l=none->π.Perm (List.range vs.length)->(∀ i,i + 1 < vs.length->HT.lexLt (ks.getD (π.getD i 0) []) (ks.getD (π.getD (i + 1) 0) [])=true)->Q (.ref l) (upd H l (.lst (π.map fun i=>vs.getD i .non)))
theorem jln {α:Type}{l:List α}(h:l.Nodup){i j:Nat}(hi:i < l.length)(hj:j < l.length)(hne:i≠j):l[i]≠l[j]:=by
 have h:=List.pairwise_iff_getElem.mp h
 rcases Nat.lt_or_gt_of_ne hne with z | z
 ·exact h i j hi hj z
 ·exact fun e=>h j i hj hi z e.symm
theorem jel (hc : X.calm = true)(hu : X.A.units + 2 < cLine) : ja5 X (.builtin "sorted") (jmU X) := by
  intro pins s σ H xs us Q I r h
  obtain ⟨p, vs, ks, rfl, hq, hl, hnd, h64, hk, q⟩ := h
  obtain ⟨u, rfl, rx⟩ := jcX r
  cases rx
  obtain ⟨its, rv, pl, hz⟩ := I.list hq
  have il := rv.length
  have hL := pl.isList
  have key : ∀ {i : Nat} {u : Value}, its[i]? = some u -> ∃ v k, vs[i]? = some v /\ ks[i]? = some k /\ RelV v u := fun {i u} e => by
    obtain ⟨v, ev, r1⟩ := jeP rv e
    have : i < ks.length := by rw [<- hl]; exact (List.getElem?_eq_some_iff.mp ev).1
    exact ⟨v, ks[i], ev, List.getElem?_eq_getElem this, r1⟩
  have nd : its.Nodup := by
    refine List.pairwise_iff_getElem.mpr fun i j hi hj hij e => ?_
    obtain ⟨x, k, ex, ek, r1⟩ := key (List.getElem?_eq_getElem hi)
    obtain ⟨y, k', ey, ek', r2⟩ := key (List.getElem?_eq_getElem hj)
    have kne : k ≠ k' := fun z => by
      obtain ⟨h1, q1⟩ := List.getElem?_eq_some_iff.mp ek
      obtain ⟨h2, q2⟩ := List.getElem?_eq_some_iff.mp ek'
      exact jln hnd h1 h2 (by omega) (by rw [q1, q2]; exact z)
    rcases hk with hk | hk | hk
    · obtain ⟨z, rfl, e1⟩ := hk i x k ex ek
      obtain ⟨z', rfl, e2⟩ := hk j y k' ey ek'
      obtain ⟨t1, g1⟩ := r1
      obtain ⟨t2, g2⟩ := r2
      rw [g1, g2] at e
      injection e with e3 _
      exact kne (by rw [e1, e2, e3])
    · obtain ⟨a, rfl, ha⟩ := hk i x k ex ek
      obtain ⟨b, rfl, hb⟩ := hk j y k' ey ek'
      have g1 : its[i] = .ref a := r1
      have g2 : its[j] = .ref b := r2
      rw [g1, g2] at e
      injection e with e3
      subst e3
      exact kne (List.map_inj_right (fun _ _ h => by injection h) |>.mp (I.list_inj ha hb))
    · obtain ⟨⟨a, rfl, ha⟩, _⟩ := hk i x k ex ek
      obtain ⟨⟨b, rfl, hb⟩, _⟩ := hk j y k' ey ek'
      have g1 : its[i] = .ref a := r1
      have g2 : its[j] = .ref b := r2
      rw [g1, g2] at e
      injection e with e3
      subst e3
      exact kne (List.map_inj_right (fun _ _ h => by injection h) |>.mp (I.tuple_inj ha hb))
  have big : its.length <= sizeLine := by rw [sizeLine_eq]; unfold jb3 at h64; omega
  refine jed (collect_list hL (wpAny_newList ?_ big) big)
  obtain ⟨h1, eh1⟩ : ∃ h1, h1 = (s.heap.push (seqObj "list" #[] 0)).update s.heap.objs.size (Obj.mapSeq (· ++ its.toArray)) := ⟨_, rfl⟩
  rw [<- eh1]
  have k1 : ∀ b o, s.heap.get? b = some o -> h1.get? b = some o := fun b o e => by
    rw [eh1, Heap.get?_update_ne _ _ _ _ (Nat.ne_of_lt (Heap.lt_size e))]
    exact Heap.get?_push_of_some _ e
  have hsz : s.heap.objs.size <= h1.objs.size := by rw [eh1, Heap.size_update, size_push']; exact Nat.le_succ _
  have hoL : (h1.push { cls := .type "list", data := .seq its.toArray }).get? h1.objs.size = some (seqObj "list" its.toArray 0) := Heap.get?_push_size _ rfl
  have up : ∀ (h' : Heap), (∀ b o, b ≠ h1.objs.size -> (h1.push { cls := .type "list", data := .seq its.toArray }).get? b = some o -> h'.get? b = some o) -> ∀ b o, s.heap.get? b = some o -> h'.get? b = some o := fun h' k b o e =>
    k b o (Nat.ne_of_lt (Heap.lt_size (k1 b o e))) (Heap.get?_push_of_some _ (k1 b o e))
  obtain ⟨κ, hkind, hask⟩ : ∃ κ : SortKind, (∀ h' : Heap, (∀ b o, s.heap.get? b = some o -> h'.get? b = some o) -> 2 <= its.length -> ∀ (R : SortKind -> Shared -> Prop) (E : Value -> Shared -> Prop), R κ { s with heap := h' } -> wpAny (model X.prog X.w) X.A.in1.in1 (keyKind' its.toArray) R E { s with heap := h' }) /\
      ∀ (h' : Heap), (∀ b o, s.heap.get? b = some o -> h'.get? b = some o) -> ∀ (i j : Nat) (C : Bool -> Shared -> Prop), i < its.length -> j < its.length -> C (HT.lexLt (ks.getD i []) (ks.getD j [])) { s with heap := h' } -> kas_ask X.prog X.w X.A.in1.in1 κ its i j C { s with heap := h' } := by
    have pre : ∀ {i j : Nat} {C : Bool -> Shared -> Prop} {h' : Heap}, ∀ (hi : i < its.length) (hj : j < its.length), C (HT.lexLt (ks.getD i []) (ks.getD j [])) { s with heap := h' } -> ∃ x k y k', vs[i]? = some x /\ ks[i]? = some k /\ RelV x (its.getD i Value.none) /\ vs[j]? = some y /\ ks[j]? = some k' /\ RelV y (its.getD j Value.none) /\ C (HT.lexLt k k') { s with heap := h' } := fun {i j C h'} hi hj hC => by
      have ei : its.getD i Value.none = its[i] := by simp [List.getD, hi]
      have ej : its.getD j Value.none = its[j] := by simp [List.getD, hj]
      obtain ⟨x, k, ex, ek, rx⟩ := key (List.getElem?_eq_getElem hi)
      obtain ⟨y, k', ey, ek', ry⟩ := key (List.getElem?_eq_getElem hj)
      have di : ks.getD i [] = k := by rw [List.getD_eq_getElem?_getD, ek]; rfl
      have dj : ks.getD j [] = k' := by rw [List.getD_eq_getElem?_getD, ek']; rfl
      rw [di, dj] at hC
      exact ⟨x, k, y, k', ex, ek, by rw [ei]; exact rx, ey, ek', by rw [ej]; exact ry, hC⟩
    rcases hk with hk | hk | hk
    · refine ⟨oneType', fun h' up h2 R E hR => kas_kind (M := model X.prog X.w) (s := { s with heap := h' }) (T := .type "int") (by omega) (fun v hv => ?_) (by decide) (by decide) hR, fun h' up i j C hi hj hC => ?_⟩
      · obtain ⟨i, hi, rfl⟩ := List.getElem_of_mem hv
        obtain ⟨x, k, ex, ek, r1⟩ := key (List.getElem?_eq_getElem hi)
        obtain ⟨z, rfl, _⟩ := hk i x k ex ek
        obtain ⟨t, e⟩ := r1
        rw [e]
        exact Looks.of_pure rfl
      · obtain ⟨x, k, y, k', ex, ek, rx, ey, ek', ry, hC⟩ := pre hi hj hC
        unfold kas_ask
        rw [keyLt'_oneType]
        obtain ⟨z, rfl, e1⟩ := hk i x k ex ek
        obtain ⟨z', rfl, e2⟩ := hk j y k' ey ek'
        obtain ⟨t1, g1⟩ := rx
        obtain ⟨t2, g2⟩ := ry
        rw [g1, g2]
        rw [e1, e2] at hC
        refine oneLt_int ?_
        have e : HT.lexLt [z] [z'] = decide (z < z') := by
          rw [HT.lexLt_cons]
          split
          · rename_i q; rw [q, HT.lexLt_nil_nil]; simp
          · rfl
        rw [e] at hC
        exact hC
    · refine ⟨oneType', fun h' up h2 R E hR => kas_kind (M := model X.prog X.w) (s := { s with heap := h' }) (T := .type "list") (by omega) (fun v hv => ?_) (by decide) (by decide) hR, fun h' up i j C hi hj hC => ?_⟩
      · obtain ⟨i, hi, rfl⟩ := List.getElem_of_mem hv
        obtain ⟨x, k, ex, ek, r1⟩ := key (List.getElem?_eq_getElem hi)
        obtain ⟨t, rfl, ht⟩ := hk i x k ex ek
        obtain ⟨js, rj, ⟨o, m, eo, ec, _, _⟩, _⟩ := I.list ht
        have r1 : its[i] = .ref t := r1
        rw [r1]
        have : Looks (model X.prog X.w) h' (typeOf (.ref t)) o.cls := (Looks.ld (up _ _ eo)).andThen .now
        rw [ec] at this
        exact this
      · obtain ⟨x, k, y, k', ex, ek, rx, ey, ek', ry, hC⟩ := pre hi hj hC
        unfold kas_ask
        rw [keyLt'_oneType]
        obtain ⟨a, rfl, ha⟩ := hk i x k ex ek
        obtain ⟨b, rfl, hb⟩ := hk j y k' ey ek'
        obtain ⟨ia, ra, pa, _⟩ := I.list ha
        obtain ⟨ib, rb, pb, _⟩ := I.list hb
        have g1 : its.getD i Value.none = .ref a := rx
        have g2 : its.getD j Value.none = .ref b := ry
        rw [g1, g2]
        have upP : ∀ {t : Addr} {z : Array Value}, PlainL s.heap t z -> PlainL h' t z := fun ⟨o, n, e, q1, q2, q3⟩ => ⟨o, n, up _ _ e, q1, q2, q3⟩
        exact jfB (A := X.A.in1.in1) (by rw [Around.in1_units, Around.in1_units]; omega) (upP pa) (upP pb) (jfd (by simpa using ra)) (jfd (by simpa using rb)) hC
    · refine ⟨tuples' true, fun h' up h2 R E hR => ?_, fun h' up i j C hi hj hC => ?_⟩
      · have go : ∀ l : List Value, (∀ v ∈ l, v ∈ its) -> ∃ fs, KatTups h' l fs /\ fs.length = l.length /\ ∀ f ∈ fs, Looks (model X.prog X.w) h' (typeOf f) (.type "int") := fun l => by
          induction l with
          | nil => intro _; exact ⟨[], .nil, rfl, fun _ h => (nomatch h)⟩
          | cons v l ih =>
            intro hv
            obtain ⟨fs, h1, h2, h3⟩ := ih fun w hw => hv w (List.mem_cons_of_mem _ hw)
            obtain ⟨i, hi, rfl⟩ := List.getElem_of_mem (hv v List.mem_cons_self)
            obtain ⟨x, k, ex, ek, r1⟩ := key (List.getElem?_eq_getElem hi)
            obtain ⟨⟨t, rfl, ht⟩, kn⟩ := hk i x k ex ek
            obtain ⟨js, rj, ⟨o, eo, ec, m, ed⟩, _⟩ := I.tuple ht
            have r1 : its[i] = .ref t := r1
            rw [r1]
            cases k with
            | nil => exact absurd rfl kn
            | cons z k =>
              cases rj with
              | @cons v' u' _ us' r0 rr =>
                obtain ⟨tk, rfl⟩ := r0
                exact ⟨_ :: fs, .cons (up _ _ eo) ec ed rfl h1, by rw [List.length_cons, List.length_cons, h2], fun f hf => by
                  rcases List.mem_cons.mp hf with rfl | hf
                  · exact Looks.of_pure rfl
                  · exact h3 f hf⟩
        obtain ⟨fs, h1, h3, h4⟩ := go its fun _ h => h
        exact kat_kind (M := model X.prog X.w) (s := { s with heap := h' }) h1 (by omega) h4 (by decide) hR
      · obtain ⟨x, k, y, k', ex, ek, rx, ey, ek', ry, hC⟩ := pre hi hj hC
        unfold kas_ask
        obtain ⟨⟨a, rfl, ha⟩, _⟩ := hk i x k ex ek
        obtain ⟨⟨b, rfl, hb⟩, _⟩ := hk j y k' ey ek'
        obtain ⟨ia, ra, ⟨o1, q1, _, m1, d1⟩, _⟩ := I.tuple ha
        obtain ⟨ib, rb, ⟨o2, q2, _, m2, d2⟩, _⟩ := I.tuple hb
        have g1 : its.getD i Value.none = .ref a := rx
        have g2 : its.getD j Value.none = .ref b := ry
        rw [g1, g2]
        refine kat_lt (s := { s with heap := h' }) (up _ _ q1) d1 (up _ _ q2) d2 ?_
        exact jhD ra rb 0 hC
  refine wpAny_call_entry slot_list_sort ⟨_, hoL, rfl⟩ entry_list_sort (jet (κ := κ) (s := { s with heap := h1.push { cls := .type "list", data := .seq its.toArray } }) hoL (by omega) nd (fun i j => HT.lexLt (ks.getD i []) (ks.getD j [])) (fun h' kp h2 R hR => hkind h' (up h' kp) h2 R _ hR) (fun h' kp => ⟨fun i j C hi hj hC => hask h' (up h' kp) i j C hi hj hC, fun i j k hi hj hk' h1 h2 => jhC _ _ _ h1 h2, fun i j hi hj hne => jif _ _ ?_, fun i _ => jjt _⟩) fun π hp hs => ⟨_, rfl, ?_⟩) (args_list_sort _)
  · have hi' : i < ks.length := by omega
    have hj' : j < ks.length := by omega
    have di : ks.getD i [] = ks[i] := by simp [List.getD, hi']
    have dj : ks.getD j [] = ks[j] := by simp [List.getD, hj']
    rw [di, dj]
    exact jln hnd hi' hj' hne
  · obtain ⟨e, he⟩ := sortedHeap_at (out := List.toArray (π.map fun i => its.getD i Value.none)) hoL
    rw [<- il] at hp hs
    have hfl : ∀ i ∈ π, i < vs.length := fun i hi => List.mem_range.mp (hp.mem_iff.mp hi)
    refine ⟨.ref h1.objs.size, _, I.laid (o := .lst (π.map fun i => vs.getD i .non)) (fun b ob y => ?_) hsz ?_, rfl, q _ π (I.hok.fresh hsz) hp hs⟩
    · have hb := k1 b ob y
      have hlt := Heap.lt_size hb
      rw [sortedHeap_old (Nat.ne_of_lt hlt) (by rw [size_push']; exact Nat.lt_succ_of_lt hlt)]
      exact Heap.get?_push_of_some _ hb
    · refine ⟨by rw [List.length_map, hp.length_eq, List.length_range, sizeLine_eq]; unfold jb3 at h64; omega, π.map fun i => its.getD i Value.none, e, ?_, ?_⟩
      · have : ∀ l : List Nat, (∀ i ∈ l, i < vs.length) -> Vals (l.map fun i => vs.getD i .non) (l.map fun i => its.getD i Value.none) := fun l => by
          induction l with
          | nil => intro _; exact .nil
          | cons i l ih =>
            intro hl'
            have hi := hl' i (by simp)
            have hi2 : i < its.length := by omega
            obtain ⟨v, ev, r1⟩ := jeP rv (List.getElem?_eq_getElem hi2)
            refine .cons ?_ (ih fun j hj => hl' j (List.mem_cons_of_mem _ hj))
            refine (?_ : RelV (vs.getD i .non) (its.getD i Value.none))
            rw [List.getD_eq_getElem?_getD, ev, List.getD_eq_getElem?_getD, List.getElem?_eq_getElem hi2]
            exact r1
        exact this π hfl
      · rw [he]
end
section
variable {X:Cx}
theorem jfP (hc:X.calm=true):ja5 X (.type "list") (fun xs H Q=>∃ (a:Addr) (kvs:List (Key×V)) (ns:List Int),xs=[.ref a]/\H a=some (.dK kvs)/\kvs.map (·.1)=ns.map (fun z=>(.inl z:Key))/\∀ l,H l=none->Q (.ref l) (upd H l (.lst (ns.map V.int)))):=by
 intro pins s σ H xs us Q I r h
 obtain ⟨a,kvs,ns,rfl,ha,hk,q⟩:=h
 obtain ⟨u,rfl,rx⟩:=jcX r
 cases rx
 obtain ⟨hz,hS,vs,rv,m⟩:kvs.length<=sizeLine/\(a == sysModules)=false/\∃ vs,KV kvs vs/\s.heap.DictOf (jaq X.prog X.w) a vs:=I.hok a _ ha
 obtain ⟨ep,hat⟩:=m.dictAt
 have hkv:vs.map (·.1)=kvs.map (·.1):=jgA rv
 have hvl:vs.length=ns.length:=by simpa using congrArg List.length (hkv.trans hk)
 have hkl:kvs.length=ns.length:=by simpa using congrArg List.length hk
 refine kdl_call (A:=X.A) (kdl_dict (knd:=jaq X.prog X.w) (kvs:=vs) (ep:=ep) hS) (I.ok.hd hc) hat (by omega) fun h' tk acc c' hk' hS' hacc=>?_
 have hl:acc.toList.length=ns.length:=by rw [Array.length_toList,hacc.1,hvl]
 have hI:IntsAre acc.toList ns:=jgJ (hkv.trans hk) hl fun j v e=>hacc.2 j v (by rw [<- Array.getElem?_toList]; exact e)
 refine ⟨.ref s.heap.objs.size,_,I.laid (t':=tk) (o:=.lst (ns.map V.int)) (fun b o e=>hk' b o e) (Nat.le_refl _) ⟨by rw [List.length_map]; omega,acc.toList,c',jb6 hI,by simpa using hS'⟩,rfl,q _ (I.hok.fresh (Nat.le_refl _))⟩
theorem jbi:∀ r:List Int,PyData.canLayAll0 (r.map .int)=true/\PyData.depthAll (r.map .int)=0/\noBs (r.map .int)=true
 | []=>⟨rfl,rfl,rfl⟩
 | i::r=>by
  obtain ⟨h1,h2,h3⟩:=jbi r
  refine ⟨?_,?_,?_⟩
  ·show ((PyData.int i).canLay0 && PyData.canLayAll0 (r.map .int))=true
   rw [h1]; rfl
  ·show max (PyData.int i).depth (PyData.depthAll (r.map .int))=0
   rw [h2]; rfl
  ·show (noB (.int i) && noBs (r.map .int))=true
   rw [h3]; rfl
theorem jfe:∀ {l l':List Int},l.map PyData.int=l'.map PyData.int->l=l'
 | [],[],_=>rfl
 | [],_::_,h=>by cases h
 | _::_,[],h=>by cases h
 | a::l,b::l',h=>by
  have h:=List.cons.inj h
  rw [PyData.int.inj h.1,jfe h.2]
theorem jdy (k k':List Int):PyData.eqv (.list (k.map .int)) (.list (k'.map .int))=decide (k=k'):=by
 by_cases h:k=k'
 ·rw [h,PySem.SeqAt.eqv_refl (.list (k'.map .int)) (jbi k').1]; simp
 ·cases e:PyData.eqv (.list (k.map .int)) (.list (k'.map .int)) with
  | false=>simp [h]
  | true=>
   have e:=PyData.list.inj (jio (d:=.list (k.map .int)) (e:=.list (k'.map .int)) (jbi k).2.2 (jbi k').2.2 e)
   exact absurd (jfe e) h

noncomputable def rInD (X:Cx)(neg:Bool):R2:=fun x y H Q=>∃ (p:Addr) (vs:List V) (d:PyData) (ds:List PyData),y=.ref p/\SqL X.K H p vs/\DV X.K H x d/\DVs X.K H vs ds/\d.canLay0=true/\d.depth<=100/\(∀ e∈ds,e.canLay0=true)/\Q (.bl (if neg then !(ds.any fun e=>PyData.eqv e d) else ds.any fun e=>PyData.eqv e d)) H
open Classical in
noncomputable def eD (h:Heap)(d:PyData)(w:Value):Bool:=decide (∃ e as,e.canLay0=true/\Reads h w e as/\PyData.eqv e d=true)
open Classical in
theorem jlQ {h:Heap}{d e:PyData}{w:Value}{as:List Addr}(r:Reads h w e as)(c:e.canLay0=true):eD h d w=PyData.eqv e d:=by
 unfold eD
 cases q:PyData.eqv e d with
 | true=>exact decide_eq_true ⟨e,as,c,r,q⟩
 | false=>
  refine decide_eq_false fun ⟨e',as',c',r',q'⟩=>?_
  rw [SeqAt.Reads.unique e' e w as' as c' r' r,q] at q'
  cases q'
theorem jgK {h:Heap}{d:PyData}:∀ {us:List Value} {ds:List PyData} {as:List Addr},ReadsAll h us ds as->(∀ e∈ds,e.canLay0=true)->us.any (eD h d)=(ds.any fun e=>PyData.eqv e d)/\∀ w∈us,∃ e as,e.canLay0=true/\Reads h w e as
 | _,_,_,.nil,_=>⟨rfl,fun w hw=>by simp at hw⟩
 | _,_,_,.cons r rs,c=>by
  obtain ⟨h1,h2⟩:=jgK (d:=d) rs fun e he=>c e (List.mem_cons_of_mem _ he)
  refine ⟨by rw [List.any_cons,List.any_cons,h1,jlQ r (c _ List.mem_cons_self)],fun w hw=>?_⟩
  rcases List.mem_cons.mp hw with rfl | hw
  ·exact ⟨_,_,c _ List.mem_cons_self,r⟩
  ·exact h2 w hw
theorem jil {pins:List (Addr×Obj)}{σ:St}{H:Hp}{s:Shared}{A:Around}{x:V}{u:Value}{d:PyData}{vs:List V}{ds:List PyData}{its:List Value}(hu:A.units + 100 < cLine)(I:Inv X pins σ H s)(rx:RelV x u)(hd:DV X.K H x d)(c:d.canLay0=true)(hp:d.depth<=100)(r:Vals vs its)(hv:DVs X.K H vs ds)(cs:∀ e∈ds,e.canLay0=true) :
  (∀ w,w∈its->SeqAt.EqAt A s w u (eD s.heap d w))/\its.any (eD s.heap d)=ds.any fun e=>PyData.eqv e d:=by
 obtain ⟨as,ra⟩:=DVs.reads I hv r
 obtain ⟨bs,rb⟩:=DV.reads I hd rx
 obtain ⟨h1,h2⟩:=jgK (d:=d) ra cs
 refine ⟨fun w hw=>?_,h1⟩
 obtain ⟨e,as',ce,re⟩:=h2 w hw
 rw [jlQ re ce]
 exact SeqAt.eqAt_reads _ _ A s _ _ _ _ re rb ce c (Nat.lt_of_le_of_lt (Nat.add_le_add_left (Nat.le_trans (Nat.min_le_right _ _) hp) _) hu)
theorem jle {k:Nat}(hr:Room k X.A):OpR X (compareOp .In) (rInD X false):=by
 intro pins s σ H x y v u Q I rx ry h
 obtain ⟨p,vs,d,ds,rfl,hq,hd,hv,c,hp,cs,q⟩:=h
 cases ry
 obtain ⟨its,r,pl,hz⟩:=I.list hq
 obtain ⟨h1,h2⟩:=jil (A:=X.A.in1) (by have:=hr.un; rw [Around.in1_units]; omega) I rx hd c hp r hv cs
 refine SeqAt.in_listAt (eD s.heap d) pl.isList (fun w hw=>h1 w (by simpa using hw)) ⟨.bl _,H,I,rfl,?_⟩
 rw [show its.toArray.any (eD s.heap d)=its.any (eD s.heap d) by simp,h2]
 exact q
theorem jgg {k:Nat}(hr:Room k X.A):OpR X (compareOp .NotIn) (rInD X true):=by
 intro pins s σ H x y v u Q I rx ry h
 obtain ⟨p,vs,d,ds,rfl,hq,hd,hv,c,hp,cs,q⟩:=h
 cases ry
 obtain ⟨its,r,pl,hz⟩:=I.list hq
 obtain ⟨h1,h2⟩:=jil (A:=X.A.in1) (by have:=hr.un; rw [Around.in1_units]; omega) I rx hd c hp r hv cs
 refine SeqAt.notIn_listAt (eD s.heap d) pl.isList (fun w hw=>h1 w (by simpa using hw)) ⟨.bl _,H,I,rfl,?_⟩
 rw [show its.toArray.any (eD s.heap d)=its.any (eD s.heap d) by simp,h2]
 exact q
end
section
variable {X:Cx}
end
end L2

namespace L2
open PySem PySem.Spec PyProof.Rows
set_option maxHeartbeats 4000000
section
variable {prog:Program}{w:World}{A:Around}{R:Result->Shared->Prop}{I:Addr}{fp wr:List Addr}{n:Nat}{P:Nat->Value->Prop}{St:Nat->Heap->Prop}
end
section
variable {prog:Program}{w:World}{A:Around}{E:Value->Shared->Prop}{s:Shared}
end

section
variable {X:Cx}
end
end L2

namespace L2
open PySem PySem.Spec PyProof.Rows PySem.SeqAt PySem.MeetsSeq
set_option maxHeartbeats 4000000
theorem jbr (l:Addr)(es:Array DictEntry)(n:Nat)(dd:Option Addr)(sl:Array (Option Value))(b:Str)(u:Tok) :
  Meets (Builtin.«dict.__eq__» ⟨[.ref l,.str b u],[]⟩) (fun _ R s=>s.heap.get? l=some { cls:=.type "dict",dict:=dd,data:=.dict es n,slots:=sl }/\R (.ok (.ret .notImplemented)) s):=
 .of_wp fun prog w A R s h=>by obtain ⟨hp,g,d,tk,os⟩:=s; obtain ⟨hl,h⟩:=h; have f1:=F.sub_str_dict; wp_walk using wpAny_loadPart' hl; exact ⟨_,rfl,h⟩
theorem jbp (b:Str)(u:Tok)(l:Addr)(es:Array DictEntry)(n:Nat)(dd:Option Addr)(sl:Array (Option Value)) :
  Meets (Builtin.«str.__eq__» ⟨[.str b u,.ref l],[]⟩) (fun _ R s=>s.heap.get? l=some { cls:=.type "dict",dict:=dd,data:=.dict es n,slots:=sl }/\R (.ok (.ret .notImplemented)) s):=
 .of_wp fun prog w A R s h=>by obtain ⟨hp,g,d,tk,os⟩:=s; obtain ⟨hl,h⟩:=h; wp_walk using wpAny_loadPart' hl,wpAny_load hl; exact ⟨_,rfl,h⟩
section
variable {X:Cx}
theorem jev {A:Around}{s:Shared}{l:Addr}{o:Obj}{es:Array DictEntry}{n:Nat}(b:Str)(u:Tok)(ho:s.heap.get? l=some o)(hc:o.cls=.type "dict")(hd:o.data=.dict es n)(hu:A.units < cLine):RcAt A s (.ref l) (.str b u) false:=fun prog w E Q h=>by
 obtain ⟨cls,dd,data,sl⟩:=o
 simp only at hc hd
 subst hc hd
 exact rc_eq_decline_or (k:=false) ⟨_,ho,rfl⟩ (typeIs_str s b u) (by decide) F.sub_str_dict F.slot_dict_eq F.slot_str_eq_refl
  (fun _ hq=>call_meets F.slot_dict_eq ⟨_,ho,rfl⟩ F.entry_dict_eq (F.args_dict_eq_2 _ _) (jbr l es n dd sl b u) ⟨ho,hq⟩)
  (fun _ hq=>call_meets F.slot_str_eq_refl (typeIs_str s b u) F.entry_str_eq (F.args_str_eq_2 _ _) (jbp b u l es n dd sl) ⟨ho,hq⟩)
  (fun _ hq=>wpAny_of_eq (rfl:isSame (.ref l) (.str b u)=pure false) hq) (.inr hu) h
noncomputable def jhf:R2:=fun x y H Q=>∃ a z kvs,x=.ref a/\y=.str z/\H a=some (.dK kvs)/\Q (.bl false) H
theorem jds {k:Nat}(hr:Room k X.A):OpR X (compareOp .Eq) jhf:=by
 intro pins s σ H x y v u Q I rx ry h
 obtain ⟨a,z,kvs,rfl,rfl,ha,q⟩:=h
 cases rx
 obtain ⟨t,rfl⟩:=ry
 obtain ⟨_,_,vs,_,o,es,ep,ho,hx,hd,_⟩:kvs.length<=sizeLine/\(a == sysModules)=false/\∃ vs,KV kvs vs/\s.heap.DictOf (jaq X.prog X.w) a vs:=I.hok a _ ha
 exact jev z t ho hx.1 hd (by have:=hr.un; omega) X.prog X.w X.xe _ ⟨.bl false,H,I,rfl,q⟩
end
noncomputable def rSlS:V->Option Int->Option Int->Hp->VK->Prop:=fun x lo hi H Q=>∃ z,x=.str z/\z.length<=sizeLine/\Q (.str (Txt.slice z lo hi)) H
section
variable {X:Cx}
theorem jkp:SlR X rSlS:=by
 intro pins s σ H x v vl vu lo hi sl Q I rx hs pl pu h
 obtain ⟨z,rfl,hz,q⟩:=h
 obtain ⟨t,rfl⟩:=rx
 refine ⟨"str",_,F.slot_str_getitem.lookup,typeIs_str _ _ _,?_⟩
 obtain ⟨o,ho,hc,hd⟩:=hs
 have fin:∀ t' k,EP X pins σ Q (.str (Txt.slice z lo hi) t') { s with toks:=k }:=fun t' k=>⟨.str _,H,I.tok _,⟨_,rfl⟩,q⟩
 cases pl with
 | none=>
  cases pu with
  | none=>exact wpAny_getItem_str_slice (l:=none) (u:=none) (st:=none) ⟨o,ho,hc,hd⟩ rfl (post_val_or_str ⟨Nat.le_trans (Txt.slice_le z _ _) hz,fin⟩)
  | int j uj=>exact wpAny_getItem_str_slice (l:=none) (u:=some (j,uj)) (st:=none) ⟨o,ho,hc,hd⟩ rfl (post_val_or_str ⟨Nat.le_trans (Txt.slice_le z _ _) hz,fin⟩)
 | int i ui=>
  cases pu with
  | none=>exact wpAny_getItem_str_slice (l:=some (i,ui)) (u:=none) (st:=none) ⟨o,ho,hc,hd⟩ rfl (post_val_or_str ⟨Nat.le_trans (Txt.slice_le z _ _) hz,fin⟩)
  | int j uj=>exact wpAny_getItem_str_slice (l:=some (i,ui)) (u:=some (j,uj)) (st:=none) ⟨o,ho,hc,hd⟩ rfl (post_val_or_str ⟨Nat.le_trans (Txt.slice_le z _ _) hz,fin⟩)
theorem jjk:OpR X (binaryOp .Add) (fun x y H Q=>∃ b j,x=.bl b/\y=.int j/\Q (.int ((if b=true then (1:Int) else 0) + j)) H):=by
 intro pins s σ H x y v u Q I rx ry h
 obtain ⟨b,j,rfl,rfl,q⟩:=h
 cases rx
 obtain ⟨t,rfl⟩:=ry
 exact PySem.IntBool.add_bool_int ⟨.int _,H,I.tok _,⟨_,rfl⟩,q⟩
theorem jjf:OpR X (binaryOp .Sub) (fun x y H Q=>(∃ b j,x=.bl b/\y=.int j/\Q (.int ((if b=true then (1:Int) else 0) - j)) H)\/∃ i b,x=.int i/\y=.bl b/\Q (.int (i - if b=true then (1:Int) else 0)) H):=by
 intro pins s σ H x y v u Q I rx ry h
 rcases h with ⟨b,j,rfl,rfl,q⟩ | ⟨i,b,rfl,rfl,q⟩
 ·cases rx
  obtain ⟨t,rfl⟩:=ry
  exact PySem.IntBool.sub_bool_int ⟨.int _,H,I.tok _,⟨_,rfl⟩,q⟩
 ·cases ry
  obtain ⟨t,rfl⟩:=rx
  exact PySem.IntBool.sub_int_bool ⟨.int _,H,I.tok _,⟨_,rfl⟩,q⟩
noncomputable def jiR (K:PySem.W.Frag):R2:=fun x y H Q=>∃ a z xs,x=.ref a/\y=.str z/\(SqT K H a xs\/SqL K H a xs)/\Q (.bl false) H
theorem jdU {k:Nat}(hr:Room k X.A):OpR X (compareOp .Eq) (jiR X.K):=by
 intro pins s σ H x y v u Q I rx ry h
 obtain ⟨a,z,xs,rfl,rfl,ha,q⟩:=h
 cases rx
 obtain ⟨t,rfl⟩:=ry
 have hu:X.A.units < cLine:=hr.units0
 rcases ha with ha | ha
 ·obtain ⟨its,rv,pa,_⟩:=I.tuple ha
  exact SeqAt.RcAt.tuple_str z t (show s.heap.IsTuple a its.toArray from pa) hu X.prog X.w X.xe _ ⟨.bl false,H,I,rfl,q⟩
 ·obtain ⟨its,rv,pa,_⟩:=I.list ha
  exact SeqAt.RcAt.list_str z t pa.isList hu X.prog X.w X.xe _ ⟨.bl false,H,I,rfl,q⟩
end
end L2

namespace L2
open PySem PySem.Spec PyProof.Rows
open AutoSeq1 (wpAny_loadPart')
set_option maxHeartbeats 4000000
section
variable {prog:Program}{w:World}{A:Around}{E:Value->Shared->Prop}{s:Shared}
end
section
variable {X:Cx}
end
end L2

namespace L2
open PySem PySem.Spec PyProof.Rows PySem.W
set_option maxHeartbeats 4000000
structure Lies (lo:Nat)(pn:List (Addr×Obj))(H:Hp)(h:Heap)(e:Addr)(cls:Value)(dx:Option Addr):Prop where
 ob:∃ oe vs,h.get? e=some oe/\oe.cls=cls/\oe.dict=dx/\oe.data=.fields vs/\
  (vs[1]?=some .none\/∃ T oT ts,vs[1]?=some (.ref T)/\T≠e/\h.get? T=some oT/\oT.data=.fields ts/\ts[3]?=some .none/\H T=none/\lo<=T/\∀ p∈pn,p.1≠T)
 hn:H e=none
 le:lo<=e
 pn:∀ p∈pn,p.1≠e
section
variable {M:Model}{A:Around}{E:Value->Shared->Prop}{s:Shared}
theorem jcv {h:Heap}{a:Addr}{o:Obj}{vs:Array Value}(i:Nat)(x:Value)(ho:h.get? a=some o)(hd:o.data=.fields vs) :
  (∃ o',(h.update a (Obj.mapFields (·.setIfInBounds i x))).get? a=some o'/\o'.cls=o.cls/\o'.dict=o.dict/\o'.data=.fields (vs.setIfInBounds i x))/\∀ b,b≠a->(h.update a (Obj.mapFields (·.setIfInBounds i x))).get? b=h.get? b:=by
 have z:=Obj.data_mapFields hd (·.setIfInBounds i x)
 refine ⟨⟨_,Heap.get?_update_self _ ho (Obj.isFreed_of_fields z),Obj.cls_mapFields _ _,?_,z⟩,fun b hb=>Heap.get?_update_other _ _ (Ne.symm hb)⟩
 unfold Obj.mapFields
 split <;> rfl
theorem jfi {base:Heap}{env:Env}{outer:List Env}{L e:Addr}{oe:Obj}{vs:Array Value}{head:Value}{had:Bool}{Q:Unit->Shared->Prop}
  (hfr:A.frames=some (env::outer)) (hl:s.heap.FunFrames base (env::outer)) (hf:env.frame=some L) (he:s.heap.get? e=some oe) (hd:oe.data=.fields vs) (hsz:1 < vs.size)
  (h:∀ (h':Heap) (T:Addr) (oe' oT:Obj) (vs' ts:Array Value),(∀ b o,b∉frs (env::outer)->b≠e->s.heap.get? b=some o->h'.get? b=some o)->(∀ b o,b∈frs (env::outer)->b≠e->s.heap.get? b=some o->∃ sl,h'.get? b=some { o with slots:=sl })->
   s.heap.objs.size<=T->h'.get? e=some oe'->oe'.cls=oe.cls->oe'.dict=oe.dict->oe'.data=.fields vs'->vs'[1]?=some (.ref T)->h'.get? T=some oT->oT.data=.fields ts->ts[3]?=some .none->Q () { s with heap:=h' }) :
  wpAny M A (do let a <- frameOf env; let pl <- entryPlaceOf L had; let b <- EntryCells.newEntry head a .none (rawInt L) .none pl; setField (.ref e) 1 b) (fun _ s'=>wpAny M A (setFlight (.ref e) none) Q E s') E s:=by
 have out:e∉frs (env::outer):=fun m=>by
  rcases hl.mem m with ⟨-,o,ho,no⟩
  exact no vs (by rw [<- hd,Option.some.inj (he.symm.trans ho)])
 refine wpAny_bind (wpAny_frameOf_fun hfr hl hf fun h1 fs=>wpAny_bind (wpAny_entryPlaceOf fun pl hpl=>wpAny_bind (wpAny_newObj_type ?_ (hpl.sizeOk5 _ _ _ _ _))))
 have n3:3 < ([head,.ref L,.none,rawInt L,.none]++(if pl.isEmpty then List.replicate 6 Value.none else pl)).toArray.size:=by
  rw [List.size_toArray,List.length_append]
  exact Nat.lt_add_right _ (Nat.lt_of_sub_pos (Nat.zero_lt_succ 1))
 generalize eot:(⟨.type "traceback",none,.fields ([head,.ref L,.none,rawInt L,.none]++(if pl.isEmpty then List.replicate 6 Value.none else pl)).toArray,#[]⟩:Obj)=ot
 have dt:ot.data=.fields ([head,.ref L,.none,rawInt L,.none]++(if pl.isEmpty then List.replicate 6 Value.none else pl)).toArray:=by rw [<- eot]
 have g1:h1.get? e=some oe:=by rw [fs.2.1 e out,he]
 have new:=Heap.get?_push_size h1 (Obj.isFreed_of_fields dt)
 have ne:h1.objs.size≠e:=fun z=>Nat.lt_irrefl _ (z ▸ Heap.lt_size g1)
 obtain ⟨⟨o2,g2,c2,d2,v2⟩,r2⟩:=jcv 1 (.ref h1.objs.size) (Heap.get?_push_of_some ot g1) hd
 have g2':=(r2 _ ne).trans new
 obtain ⟨⟨o3,g3,c3,d3,v3⟩,r3⟩:=jcv 3 .none g2' dt
 refine wpAny_setField (Heap.get?_push_of_some ot g1) hd hsz (wpAny_bind (wpAny_field g2 v2 (Array.getElem?_setIfInBounds_self_of_lt hsz) ?_))
 rw [if_pos (by rfl)]
 refine wpAny_setField g2' dt n3 ?_
 have keep:∀ b o,b≠e->h1.get? b=some o->_:=fun b o hb g=>(r3 b (Nat.ne_of_lt (Heap.lt_size g))).trans ((r2 b hb).trans (Heap.get?_push_of_some ot g))
 refine h _ h1.objs.size o2 o3 _ _ (fun b o hb hbe g=>keep b o hbe (by rw [fs.2.1 b hb,g])) (fun b o _ hbe g=>?_) (Nat.le_of_eq fs.1.symm) ((r3 e (Ne.symm ne)).trans g2) c2 d2 v2 (Array.getElem?_setIfInBounds_self_of_lt hsz) g3 v3 (Array.getElem?_setIfInBounds_self_of_lt n3)
 rcases fs.2.2 b o g with ⟨sl,q⟩
 exact ⟨sl,keep b _ hbe q⟩
end
section
variable {X:Cx}{pins:List (Addr×Obj)}{σ:St}{H:Hp}{s:Shared}
theorem Inv.left {h':Heap}{ch:List Addr}(I:Inv X pins σ H s)(hH:∀ b∈ch,H b=none)(hlo:∀ b∈ch,X.s₀.heap.objs.size<=b)(hd:∀ b∈ch,∃ o vs,s.heap.get? b=some o/\o.data=.fields vs)(hp:∀ b∈ch,∀ p∈X.pn++pins,p.1≠b)
  (k:∀ b o,b∉frs X.stack->b∉ch->s.heap.get? b=some o->h'.get? b=some o) (sl:∀ b o,b∈frs X.stack->b∉ch->s.heap.get? b=some o->∃ t,h'.get? b=some { o with slots:=t }):Inv X pins σ H { s with heap:=h' }:=by
 have u:Un (frs X.stack) ch H H s.heap h':=by
  refine ⟨fun b o e _ hb hc=>k b o hb hc e,fun b o e _ hb hc=>sl b o hb hc e,fun _ _ _ n _=>n,fun b o e hc=>?_,fun _ _ e=>e,fun _ _ _ e=>e,fun b ps e=>⟨#[],by rw [e]; simp⟩⟩
  by_cases hb:b∈frs X.stack
  ·obtain ⟨t,q⟩:=sl b o hb hc e
   exact ⟨_,q⟩
  ·exact ⟨o,k b o hb hc e⟩
 have tr:∀ b u,H b=some u->b∉frs X.stack/\b∉ch:=fun b u e=>⟨fun z=>(by rw [I.stkFree b z] at e; cases e),fun z=>(by rw [hH b z] at e; cases e)⟩
 have hok:HOk X.prog X.w H h':=fun a o e=>(I.hok a o e).stay (fun b v hb q=>by
  rcases hb with z | z
  ·subst z; exact k b v (tr b _ e).1 (tr b _ e).2 q
  ·exact k b v (tr b _ z).1 (tr b _ z).2 q) (fun _ q=>q) fun _ _ q=>q
 refine I.call (g':=s.gens) (d':=s.drawn) (t':=s.toks) u hok I.bare fun b hb=>⟨.inr (hlo b hb),fun z=>?_,fun x c e z=>?_,hp b hb⟩
 ·obtain ⟨o,vs,g,d⟩:=hd b hb
  obtain ⟨m,⟨o',_,_,ho,r⟩,_⟩:=I.loc
  rw [z,ho] at g
  cases g
  have:=r.1
  rw [this] at d; cases d
 ·obtain ⟨o,vs,g,d⟩:=hd b hb
  obtain ⟨v,o',ho,hc⟩:=I.cell x c e
  rw [z,g] at ho
  cases ho
  rw [d] at hc; cases hc
theorem jlt {M:Model}{E:Value->Shared->Prop}{ea:Addr}{cls:Value}{dx:Option Addr}{Q:Unit->Shared->Prop}(I:Inv X [] σ H s)(hst:X.stack=X.env::X.outer)(hf:X.env.frame=some X.env.locals)
  (l:Lies X.s₀.heap.objs.size X.pn H s.heap ea cls dx) (q:∀ h',Inv X [] σ H { s with heap:=h' }->Lies X.s₀.heap.objs.size X.pn H h' ea cls dx->Q () { s with heap:=h' }):wpAny M X.A (noteFrame (.ref ea) X.env) (fun _ s'=>wpAny M X.A (setFlight (.ref ea) none) Q E s') E s:=by
 obtain ⟨oe,vs,he,hc,hdx,hd,ht⟩:=l.ob
 have hfr:X.A.frames=some (X.env::X.outer):=by rw [<- hst]; exact I.ok.frames
 have hl:s.heap.FunFrames X.base (X.env::X.outer):=by rw [<- hst]; exact I.stack
 have pe:∀ p∈X.pn++[],p.1≠ea:=fun p hp=>l.pn p (by simpa using hp)
 unfold noteFrame
 simp only [hf]
 rcases ht with h1 | ⟨T,oT,ts,h1,hTe,hT,hdT,h3,nT,lT,pT⟩
 ·refine wpAny_bind (wpAny_field he hd h1 ?_)
  rw [if_neg (by decide)]
  refine jfi hfr hl hf he hd (Array.getElem?_eq_some_iff.mp h1).1 fun h' T' oe' oT' vs' ts' k sl zT g1 c1 c2 c3 c4 g2 c5 c6=>?_
  rw [<- hst] at k sl
  have J:Inv X [] σ H { s with heap:=h' }:=I.left (ch:=[ea]) (fun b hb=>by rw [List.mem_singleton.mp hb]; exact l.hn) (fun b hb=>by rw [List.mem_singleton.mp hb]; exact l.le) (fun b hb=>by rw [List.mem_singleton.mp hb]; exact ⟨oe,vs,he,hd⟩) (fun b hb=>by rw [List.mem_singleton.mp hb]; exact pe)
   (fun b o hb hc e=>k b o hb (fun z=>hc (by simp [z])) e) fun b o hb hc e=>sl b o hb (fun z=>hc (by simp [z])) e
  refine q h' J ⟨⟨oe',vs',g1,c1.trans hc,c2.trans hdx,c3,.inr ⟨T',oT',ts',c4,?_,g2,c5,c6,I.hok.fresh zT,Nat.le_trans I.sz zT,fun p hp z=>?_⟩⟩,l.hn,l.le,l.pn⟩
  ·exact fun z=>absurd (Heap.lt_size he) (Nat.not_lt.mpr (z ▸ zT))
  ·exact absurd (Heap.lt_size (I.pin p (by simpa using hp)).1) (Nat.not_lt.mpr (z ▸ zT))
 ·have old:(Value.none == rawInt X.env.locals)=false:=rfl
  refine wpAny_bind (wpAny_field he hd h1 ?_)
  rw [if_pos (by rfl)]
  refine wpAny_bind (wpAny_field hT hdT h3 ?_)
  rw [old,if_neg Bool.false_ne_true]
  refine wpAny_bind (wpAny_setField hT hdT (Array.getElem?_eq_some_iff.mp h3).1 ?_)
  have other:=(jcv 3 .none hT hdT).2
  have I1:Inv X [] σ H { s with heap:=s.heap.update T (Obj.mapFields (·.setIfInBounds 3 Value.none)) }:=I.left (ch:=[T]) (fun b hb=>by rw [List.mem_singleton.mp hb]; exact nT) (fun b hb=>by rw [List.mem_singleton.mp hb]; exact lT) (fun b hb=>by rw [List.mem_singleton.mp hb]; exact ⟨oT,ts,hT,hdT⟩) (fun b hb p hp=>by rw [List.mem_singleton.mp hb]; exact pT p (by simpa using hp))
   (fun b o _ hc e=>(other b (by simpa using hc)).trans e) fun b o _ hc e=>⟨o.slots,(other b (by simpa using hc)).trans e⟩
  have he1:=(other ea (Ne.symm hTe)).trans he
  have hl1:(s.heap.update T (Obj.mapFields (·.setIfInBounds 3 Value.none))).FunFrames X.base (X.env::X.outer):=by rw [<- hst]; exact I1.stack
  refine jfi (s:={ s with heap:=s.heap.update T (Obj.mapFields (·.setIfInBounds 3 Value.none)) }) hfr hl1 hf he1 hd (Array.getElem?_eq_some_iff.mp h1).1 fun h' T' oe' oT' vs' ts' k sl zT g1 c1 c2 c3 c4 g2 c5 c6=>?_
  rw [<- hst] at k sl
  have J:Inv X [] σ H { s with heap:=h' }:=Inv.left (s:={ s with heap:=s.heap.update T (Obj.mapFields (·.setIfInBounds 3 Value.none)) }) (ch:=[ea]) I1 (fun b hb=>by rw [List.mem_singleton.mp hb]; exact l.hn) (fun b hb=>by rw [List.mem_singleton.mp hb]; exact l.le) (fun b hb=>by rw [List.mem_singleton.mp hb]; exact ⟨oe,vs,he1,hd⟩) (fun b hb=>by rw [List.mem_singleton.mp hb]; exact pe)
   (fun b o hb hc e=>k b o hb (fun z=>hc (by simp [z])) e) fun b o hb hc e=>sl b o hb (fun z=>hc (by simp [z])) e
  refine q h' J ⟨⟨oe',vs',g1,c1.trans hc,c2.trans hdx,c3,.inr ⟨T',oT',ts',c4,?_,g2,c5,c6,I1.hok.fresh zT,Nat.le_trans I1.sz zT,fun p hp z=>?_⟩⟩,l.hn,l.le,l.pn⟩
  ·exact fun z=>absurd (Heap.lt_size he1) (Nat.not_lt.mpr (z ▸ zT))
  ·exact absurd (Heap.lt_size (I1.pin p (by simpa using hp)).1) (Nat.not_lt.mpr (z ▸ zT))
end
noncomputable def CX1 (P:Program)(w:World):CXT:=fun outer H s E e s'=>∃ (ea:Addr) (H':Hp) (cls:Value) (dx:Option Addr),e=.ref ea/\s'.os=s.os/\AllBare s'.gens/\Un (frs outer) [] H H' s.heap s'.heap/\HOk P w H' s'.heap/\Lies s.heap.objs.size [] H' s'.heap ea cls dx/\E cls dx H'
section
variable {X:Cx}{pins:List (Addr×Obj)}{σ:St}{H:Hp}{s s':Shared}{e:Value}{E:XK}
theorem CX1.back (I:Inv X pins σ H s)(h:CX1 X.prog X.w X.stack H s E e s'):∃ (ea:Addr) (H':Hp) (cls:Value) (dx:Option Addr),e=.ref ea/\Inv X pins σ H' s'/\Lies X.s₀.heap.objs.size X.pn H' s'.heap ea cls dx/\E cls dx H':=by
 obtain ⟨ea,H',cls,dx,rfl,os,bare,un,hok,l,q⟩:=h
 have pn:∀ b,s.heap.objs.size<=b->∀ p∈X.pn,p.1≠b:=fun b hb p hp z=>absurd (Heap.lt_size (I.pin p (List.mem_append_left _ hp)).1) (Nat.not_lt.mpr (z ▸ hb))
 refine ⟨ea,H',cls,dx,rfl,I.call' (ch:=[]) os un hok bare (fun b z=>absurd z (by simp)),⟨?_,l.hn,Nat.le_trans I.sz l.le,pn ea l.le⟩,q⟩
 obtain ⟨oe,vs,he,hc,hdx,hd,ht⟩:=l.ob
 refine ⟨oe,vs,he,hc,hdx,hd,ht.imp id ?_⟩
 rintro ⟨T,oT,ts,h1,h2,h3,h4,h5,h6,h7,_⟩
 exact ⟨T,oT,ts,h1,h2,h3,h4,h5,h6,Nat.le_trans I.sz h7,pn T h7⟩
end
end L2

namespace L2
open PySem PySem.Spec PyProof.Rows PySem.W
open Builtin Builtin.ObjectAttr
set_option maxHeartbeats 4000000
section
variable {M:Model}{A:Around}{E:Value->Shared->Prop}{h:Heap}{g:Array GenState}{d:Drawn}{t:Nat}{os:OsState}
variable {nm q:Str}{C N D:Addr}{bs bmB:List Value}{hdct:Bool}{sn:List Str}{sub:List Value}{ab:Bool}{col:Option Bool}{dd:Option Addr}{k0 k1 k2 k3 k5:Option Value}{B newId:String}{mN mD:Str->Option Value}{name:Str}
structure Two (h:Heap)(C N D:Addr)(mN mD:Str->Option Value)(bmB:List Value)(newId:String):Prop where
 cls:∃ nm q bs sn sub ab col dd k0 k1 k2 k3 k5,h.get? C=some (excClassObj nm q C N bs (.ref D::bmB) true sn sub ab col dd k0 k1 k2 k3 k5 newId)
 ns:h.Ns N mN
 low:∃ c0 dd cd sl,h.get? D=some { cls:=c0,dict:=dd,data:=.cls cd,slots:=sl }/\h.Ns cd.ns mD
end
section
variable {prog:Program}{w:World}{A:Around}{E:Value->Shared->Prop}{h:Heap}{g:Array GenState}{d:Drawn}{t:Nat}{os:OsState}
variable {C N D x:Addr}{bmB:List Value}{B newId sa owner:String}{mN mD mA:Str->Option Value}{name:Str}{v:Value}
structure Reads (B:String)(bmB:List Value):Prop where
 ga:Slot B "__getattribute__" "BaseException.__getattribute__"
 mro:mroOf (.type B)=pure bmB
 no:typeLookup (.type B) "__getattr__" = pure none
 has:bmB.contains (.type "BaseException")=true
end
section
variable {X:Cx}{pins:List (Addr×Obj)}{σ:St}{H:Hp}{s:Shared}
end
section
variable {X:Cx}{pins:List (Addr×Obj)}{σ:St}{H:Hp}{s:Shared}
end
section
variable {X:Cx}{H:Hp}{s:Shared}{C N D fI:Addr}{bmB:List Value}{B newId sa owner:String}{mN mD:Str->Option Value}{qual self f a f2 a2:Str}{scope:Scope}{cdv:Value}{p1 p2 p3 pos q1 q2 q3 qos:Pos}{v v2:V}
end
section
variable {M:Model}{A:Around}{E:Value->Shared->Prop}{env:Env}{C N D:Addr}{bmB:List Value}{newId:String}{mN mD:Str->Option Value}
end
end L2

namespace L2
open PySem PySem.Spec PyProof.Rows PySem.W
set_option maxHeartbeats 4000000
section
variable {M:Model}{A:Around}{E:Value->Shared->Prop}{h:Heap}{g:Array GenState}{d:Drawn}{t:Nat}{os:OsState}
variable {nm q nm' q':Str}{C N D ND e:Addr}{bs bm bs' bm':List Value}{hdct hdct':Bool}{sn sn':List Str}{sub sub':List Value}{ab ab':Bool}{col col':Option Bool}{dd dd':Option Addr}{k0 k1 k2 k3 k5 l0 l1 l2 l3 l5:Option Value}{newId newId':String}{oe:Obj}
end
section
variable {X:Cx}{pins:List (Addr×Obj)}{σ:St}{H:Hp}{s:Shared}
end
noncomputable def XL (M:Model)(A:Around)(env:Env)(R:Value->Shared->Prop):Value->Shared->Prop:=fun e s'=>wpAny M A (noteFrame e env) (fun _ s''=>wpAny M A (setFlight e none) (fun _ s3=>R e s3) R s'') R s'
theorem jkN {M:Model}{A:Around}{env:Env}{R:Value->Shared->Prop}:PassesOwn M A env (XL M A env R):=PassesOwn.looking
section
variable {P:Program}{w:World}{K:PySem.W.Frag}{mg:Str->Option Value}{base:Heap}
noncomputable abbrev cx1 (P:Program)(w:World)(K:PySem.W.Frag)(mg:Str->Option Value)(base:Heap)(N:List Str)(qual:Str)(scope:Scope)(f:Addr)(cd:Value)(A:Around)(outer:List Env)(s:Shared)(H:Hp)(E:XK):Cx:=
 (cxOf (CX1 P w) P w K mg base N qual scope f cd A outer s H E).wish (XL (model P w) (A.deeper (envOfC qual scope s.heap.objs.size f cd)) (envOfC qual scope s.heap.objs.size f cd) fun e s'=>CX1 P w outer H s E e s')
theorem Fun.okX {x qual:Str}{st:Stmt}{f:Addr}{fd:FuncData}{N ps:List Str}{k:Nat}{sp:Sp}(F:Fun K x qual st f fd)(S:FnScope N ps (defScope st))(len:∀ vs H Q E,sp vs H Q E->vs.length=ps.length)
  (hbody:∀ (cdv:Value) (A:Around) (outer:List Env) (s:Shared) (H:Hp) (vs:List V) (Q:VK) (E:XK),Room k (A.deeper (envOfC qual (defScope st) s.heap.objs.size f cdv))->sp vs H Q E->
   ∃ t,PSs (cx1 P w K mg base N qual (defScope st) f cdv A outer s H E) (defBody st) t/\t { nx:=fun _ H'=>Q .non H',rt:=Q } (start N vs) H):FnOk P w K mg base (CX1 P w) (k + 1) f fd ps sp:=by
 obtain ⟨oc,od,kV,doc,pm,an,cdv,ct,osl,rfl,lk,hcd⟩:=F.ex
 refine jnu lk hcd S len fun A outer s H vs Q E hr hsp=>?_
 obtain ⟨t,h,q⟩:=hbody cdv A outer s H vs Q E hr hsp
 refine ⟨t,fun pins s1 σ H1 D I hw=>?_,q⟩
 refine wpAny_mono (h pins s1 σ H1 D (I.wish _) hw) (fun _ _ q=>q.unwish) fun e s' z=>?_
 show wpAny _ _ (leaving _ e) _ _ s'
 unfold leaving
 exact wpAny_bind z
theorem CX1.out1 {N:List Str}{qual:Str}{scope:Scope}{f:Addr}{cd:Value}{A:Around}{outer:List Env}{s s':Shared}{H H':Hp}{E:XK}{pins:List (Addr×Obj)}{σ:St}{ea:Addr}{cls:Value}{dx:Option Addr}
  (I:Inv (cx1 P w K mg base N qual scope f cd A outer s H E) pins σ H' s') (l:Lies s.heap.objs.size [] H' s'.heap ea cls dx) (q:E cls dx H'):(cx1 P w K mg base N qual scope f cd A outer s H E).xe (.ref ea) s':=by
 have I0:Inv (cxOf (CX1 P w) P w K mg base N qual scope f cd A outer s H E) [] σ H' s':=I.unwish.pins_of fun p hp=>absurd hp (by simp)
 refine jlt (X:=cxOf (CX1 P w) P w K mg base N qual scope f cd A outer s H E) (E:=fun e s'=>CX1 P w outer H s E e s') I0 rfl rfl l fun h' J l'=>?_
 exact ⟨ea,H',cls,dx,rfl,J.os,J.bare,J.base,J.hok,l',q⟩
end
end L2

namespace L2
open PySem PySem.Spec PyProof.Rows PySem.W
open Builtin Builtin.ObjectAttr
set_option maxHeartbeats 4000000
noncomputable abbrev bmV:List Value:=[.type "ValueError",.type "Exception",.type "BaseException",.type "object"]
section
variable {prog:Program}{w:World}{A:Around}{E:Value->Shared->Prop}{h:Heap}{g:Array GenState}{d:Drawn}{t:Nat}{os:OsState}
variable {C N D x:Addr}{bmB:List Value}{B newId sa owner:String}{mN mD mA:Str->Option Value}{name:Str}{v:Value}
end
noncomputable def offN:List Str:=["__setattr__", "__getattribute__", "__getattr__", "__class__", "word", "at", "row"]
structure XBase (K:Frag)(mg:Str->Option Value)(D:Addr)(mD:Str->Option Value):Prop where
 m:mg "PlanError" = some (.ref D)
 kp:keepIn K (.ref D)=true
 lk:∃ q ND bs hd sn sub ab col dd k0 k1 k2 k3 k5 nid,K.lookup D=some (excClassObj "PlanError" q D ND bs bmV hd sn sub ab col dd k0 k1 k2 k3 k5 nid)/\∀ h,K.In h->h.Ns ND mD
 no:∀ y∈offN,mD y=none
 ni:mD "__init__" = none
structure XCls (K:Frag)(mg:Str->Option Value)(x:Str)(fs:List Str)(C:Addr):Prop where
 m:mg x=some (.ref C)
 kp:keepIn K (.ref C)=true
 ex:∃ (D N fI:Addr) (mN mD:Str->Option Value),XBase K mg D mD/\(∃ q bs sn sub ab col dd k0 k1 k2 k3 k5,K.lookup C=some (excClassObj x q C N bs (.ref D::bmV) true sn sub ab col dd k0 k1 k2 k3 k5 "ValueError.__new__"))/\(∀ h,K.In h->h.Ns N mN)/\(∀ y∈offN,mN y=none)/\
  mN "__init__" = some (.ref fI)/\∃ (st:Stmt) (qual:Str) (fd:FuncData),L2.Fun K "__init__" qual st fI fd/\(∃ od osl,K.lookup fI=some ⟨.type "function",od,.func fd,osl⟩)/\FnScope ("self" :: fs) ("self" :: fs) (defScope st)/\Binds K fd ("self" :: fs) []/\(∀ y∈(("self" : Str)::fs),(defScope st).names.lookup y=some .local)/\
  ((∃ f p1 p2 p3 pos,fs=[f]/\defBody st=[.Assign [.Attribute (.Name "self" p1) f p2] (.Name f p3) pos])\/∃ f f2 p1 p2 p3 pos q1 q2 q3 qos,fs=[f,f2]/\f≠f2/\defBody st=[.Assign [.Attribute (.Name "self" p1) f p2] (.Name f p3) pos,.Assign [.Attribute (.Name "self" q1) f2 q2] (.Name f2 q3) qos])
section
variable {K:Frag}{mg:Str->Option Value}{x:Str}{fs:List Str}{C:Addr}
end
noncomputable def fldN:List Str:=["word", "at", "row"]
section
variable {K:Frag}{mg:Str->Option Value}{x:Str}{fs:List Str}{C:Addr}
structure XPin (X:Cx)(ea C dx:Addr):Prop where
 ex:∃ oe vs,(ea,oe)∈X.pn/\oe.cls=.ref C/\oe.dict=some dx/\oe.data=.fields vs
end
section
variable {X:Cx}{mg:Str->Option Value}{x:Str}{fs:List Str}{C ea dx:Addr}
inductive XMany (X:Cx)(mg:Str->Option Value):List Str->List Addr->Prop
 | nil:XMany X mg [] []
 | cons {x:Str} {fs:List Str} {C:Addr} {xs:List Str} {Cs:List Addr}:XCls X.K mg x fs C->x ≠ "PlanError" -> XMany X mg xs Cs->XMany X mg (x::xs) (C::Cs)
end
end L2

namespace L2
open PySem PySem.Spec PyProof.Rows
section
variable {prog:Program}{w:World}{A:Around}{E:Value->Shared->Prop}{s:Shared}{d it:Addr}{o:Obj}{es:Array DictEntry}{ep i:Nat}
end
end L2

namespace Z
open PySem L2
set_option maxHeartbeats 4000000
inductive U where
 | non | bl (b:Bool) | int (i:Int) | str (x:Str) | tup (xs:List U) | loc (a:Addr) | fn (n:Nat) | ty (n:String)
 | exc (c:Nat) (fs:List U) | own (n:Nat) | clo (n:Nat) (cs:List U)
inductive MO where
 | lst (xs:List U) | fro (xs:List U) | dK (kvs:List (Key×U)) | dT (kvs:List (List Key×U)) | frd (o:Obj) (kvs:List (List Key×U))
noncomputable abbrev Gp:=Addr->Option MO
noncomputable def gup (G:Gp)(a:Addr)(o:MO):Gp:=fun b=>if b=a then some o else G b
structure New (G:Gp)(p:Addr)(o:MO)(G':Gp):Prop where
 no:G p=none
 eq:G'=gup G p o
structure Put (G:Gp)(a:Addr)(o:MO)(G':Gp):Prop where
 eq:G'=gup G a o
structure XV where
 c:Nat
 fs:List U
noncomputable abbrev Sg:=List (Option U)
noncomputable abbrev K1:=U->Gp->Prop
noncomputable abbrev KX:=XV->Gp->Prop
noncomputable def newO (G:Gp)(o:MO)(Q:K1):Prop:=∀ p G',New G p o G'->Q (.loc p) G'
noncomputable def putO (G:Gp)(a:Addr)(o:MO)(Q:Gp->Prop):Prop:=∀ G',Put G a o G'->Q G'
theorem newO.at {G:Gp}{o:MO}{Q:K1}(h:newO G o Q):∀ p,G p=none->Q (.loc p) (gup G p o):=fun p hp=>h p _ ⟨hp,rfl⟩
theorem putO.at {G:Gp}{a:Addr}{o:MO}{Q:Gp->Prop}(h:putO G a o Q):Q (gup G a o):=h _ ⟨rfl⟩
structure En where
 nx:Sg->Gp->Prop
 rt:K1
 ex:XV->Sg->Gp->Prop
noncomputable def lsG (G:Gp)(a:Addr):Option (List U):=match G a with
 | some (.lst xs)=>some xs
 | some (.fro xs)=>some xs
 | _=>none
noncomputable def kU:U->Option Key
 | .int i=>some (.inl i)
 | .str x=>some (.inr x)
 | _=>none
noncomputable def kUs:List U->Option (List Key)
 | []=>some []
 | u::r=>match kU u,kUs r with
  | some k,some ks=>some (k::ks)
  | _,_=>none
noncomputable def Ku:Key->U
 | .inl i=>.int i
 | .inr x=>.str x
section
variable {κ α:Type}[DecidableEq κ]
noncomputable def dGet (kvs:List (κ×α))(k:κ):Option α:=(kvs.find? fun kv=>decide (kv.1=k)).map (·.2)
noncomputable def dPut (kvs:List (κ×α))(k:κ)(v:α):List (κ×α):=
 if (kvs.any fun kv=>decide (kv.1=k))=true then kvs.map (fun kv=>if kv.1=k then (kv.1,v) else kv) else kvs++[(k,v)]
noncomputable def jcS (more:List (κ×α)):List (κ×α):=more.foldl (fun acc kv=>dPut acc kv.1 kv.2) []
end
noncomputable def cut {α:Type}(xs:List α)(lo hi:Option Int):List α:=(xs.drop (HT.sIx xs.length 0 lo)).take (HT.sIx xs.length xs.length hi - HT.sIx xs.length 0 lo)
mutual
inductive DU (G:Gp):U->PyData->Prop
 | non:DU G .non .none
 | bl (b:Bool):DU G (.bl b) (.bool b)
 | int (i:Int):DU G (.int i) (.int i)
 | str (x:Str):DU G (.str x) (.str x)
 | tup {us:List U} {ds:List PyData}:DUs G us ds->DU G (.tup us) (.tuple ds)
 | lst {a:Addr} {us:List U} {ds:List PyData}:lsG G a=some us->DUs G us ds->DU G (.loc a) (.list ds)
 | dic {a:Addr}:G a=some (.dK [])->DU G (.loc a) (.dict [])
inductive DUs (G:Gp):List U->List PyData->Prop
 | nil:DUs G [] []
 | cons {u:U} {d:PyData} {us:List U} {ds:List PyData}:DU G u d->DUs G us ds->DUs G (u::us) (d::ds)
end
noncomputable def addU:U->U->Gp->K1->Prop
 | .int i,.int j,G,Q=>Q (.int (i + j)) G
 | .str x,.str y,G,Q=>x.length + y.length<=sizeLine/\Q (.str (x++y)) G
 | .tup xs,.tup ys,G,Q=>xs.length + ys.length<=sizeLine/\Q (.tup (xs++ys)) G
 | .loc a,.loc b,G,Q=>∃ xs ys,G a=some (.lst xs)/\G b=some (.lst ys)/\xs.length + ys.length<=sizeLine/\newO G (.lst (xs++ys)) Q
 | .bl b,.int j,G,Q=>Q (.int ((if b=true then (1:Int) else 0) + j)) G
 | _,_,_,_=>False
noncomputable def subU:U->U->Gp->K1->Prop
 | .int i,.int j,G,Q=>Q (.int (i - j)) G
 | .bl b,.int j,G,Q=>Q (.int ((if b=true then (1:Int) else 0) - j)) G
 | .int i,.bl b,G,Q=>Q (.int (i - if b=true then (1:Int) else 0)) G
 | _,_,_,_=>False
noncomputable def mulU:U->U->Gp->K1->Prop
 | .int i,.int j,G,Q=>CMul i j/\Q (.int (i * j)) G
 | .loc a,.int k,G,Q=>∃ xs,G a=some (.lst xs)/\-(2 ^ 63)<=k/\k < 2 ^ 63/\xs.length * k.toNat<=sizeLine/\newO G (.lst (List.replicate k.toNat xs).flatten) Q
 | .tup xs,.int k,G,Q=>xs≠[]/\1<=k/\k < 2 ^ 62/\xs.length * k.toNat<=sizeLine/\Q (.tup (List.replicate k.toNat xs).flatten) G
 | _,_,_,_=>False
noncomputable def jjT:U->U->Gp->K1->Prop
 | .int i,.int j,G,Q=>0 < j/\j < 1073741824/\Q (.int (i / j)) G
 | _,_,_,_=>False
noncomputable def modU:U->U->Gp->K1->Prop
 | .int i,.int j,G,Q=>0 < j/\Q (.int (i % j)) G
 | _,_,_,_=>False
noncomputable def powU:U->U->Gp->K1->Prop
 | .int i,.int j,G,Q=>CPow i j/\Q (.int (i ^ j.toNat)) G
 | _,_,_,_=>False
noncomputable def binU:Operator->U->U->Gp->K1->Prop
 | .Add=>addU
 | .Sub=>subU
 | .Mult=>mulU
 | .FloorDiv=>jjT
 | .Mod=>modU
 | .Pow=>powU
 | _=>fun _ _ _ _=>False
noncomputable def jdw:Operator->U->U->Gp->K1->Prop
 | .Add,.int i,.int j,G,Q=>Q (.int (i + j)) G
 | .Add,.str x,.str y,G,Q=>x.length + y.length<=sizeLine/\Q (.str (x++y)) G
 | .Sub,.int i,.int j,G,Q=>Q (.int (i - j)) G
 | .Mult,.int i,.int j,G,Q=>CMul i j/\Q (.int (i * j)) G
 | _,_,_,_,_=>False
noncomputable def negU:U->Gp->K1->Prop
 | .int i,G,Q=>Q (.int (-i)) G
 | _,_,_=>False
noncomputable def Small (d:PyData):Prop:=d.canLay0=true/\d.depth<=100
noncomputable def eqU:U->U->Gp->(Bool->Prop)->Prop
 | .non,.non,_,k=>k true
 | .non,.bl _,_,k=>k false
 | .non,.int _,_,k=>k false
 | .non,.str _,_,k=>k false
 | .bl _,.non,_,k=>k false
 | .bl a,.bl b,_,k=>k (decide (a=b))
 | .bl _,.str _,_,k=>k false
 | .int _,.non,_,k=>k false
 | .int i,.int j,_,k=>k (decide (i=j))
 | .int _,.str _,_,k=>k false
 | .str _,.non,_,k=>k false
 | .str _,.bl _,_,k=>k false
 | .str _,.int _,_,k=>k false
 | .str x,.str y,_,k=>k (decide (x=y))
 | x,y,G,k=>∃ d e,DU G x d/\DU G y e/\Small d/\Small e/\k (PyData.eqv d e)
noncomputable def eqQ:U->U->Gp->(Bool->Prop)->Prop
 | .loc a,.str y,G,k=>(∃ kvs,G a=some (.dK kvs)/\k false)\/(∃ xs,G a=some (.lst xs)/\k false)\/eqU (.loc a) (.str y) G k
 | .tup xs,.tup [],_,k=>k xs.isEmpty
 | .tup _,.str _,_,k=>k false
 | x,y,G,k=>eqU x y G k
noncomputable def isU:U->U->(Bool->Prop)->Prop
 | .non,.non,k=>k true
 | .bl a,.bl b,k=>k (decide (a=b))
 | .non,.bl _,k | .non,.int _,k | .non,.str _,k | .non,.tup _,k | .non,.loc _,k=>k false
 | .bl _,.non,k | .int _,.non,k | .str _,.non,k | .tup _,.non,k | .loc _,.non,k=>k false
 | .int _,.bl _,k | .str _,.bl _,k | .tup _,.bl _,k | .loc _,.bl _,k=>k false
 | _,_,_=>False
noncomputable def flat:U->Bool
 | .non | .bl _ | .int _ | .str _=>true
 | _=>false
noncomputable def eqF:U->U->Bool
 | .non,.non=>true
 | .bl a,.bl b=>a == b
 | .bl a,.int b=>(if a then 1 else 0) == b
 | .int a,.bl b=>a == (if b then 1 else 0)
 | .int a,.int b=>a == b
 | .str a,.str b=>a == b
 | _,_=>false
noncomputable def inU : U -> U -> Gp -> (Bool -> Prop) -> Prop
  | .str x, .str y, _, k => k (!(Builtin.Str.occurrences y x 0 y.length 1).isEmpty)
  | x, .tup ys, _, k => flat x = true /\ ys.all flat = true /\ k (ys.any fun y => eqF y x)
  | x, .loc a, G, k => match G a with
    | some (.lst ys) => (flat x = true /\ ys.all flat = true /\ k (ys.any fun y => eqF y x)) \/
        ∃ d ds, DU G x d /\ DUs G ys ds /\ Small d /\ (∀ e ∈ ds, Small e) /\ k (ds.any fun e => PyData.eqv e d)
    | some (.fro ys) => flat x = true /\ ys.all flat = true /\ k (ys.any fun y => eqF y x)
    | some (.dK kvs) => match kU x with
      | some y => k (dGet kvs y).isSome
      | none => False
    | some (.dT kvs) => match x with
      | .tup xs => match kUs xs with
        | some y => k (dGet kvs y).isSome
        | none => False
      | _ => False
    | _ => False
  | _, _, _, _ => False
noncomputable def ordU:CmpOp->U->U->(Bool->Prop)->Prop
 | .Lt,.int i,.int j,k=>k (decide (i < j))
 | .Gt,.int i,.int j,k=>k (decide (j < i))
 | _,_,_,_=>False
noncomputable def cmpU:CmpOp->U->U->Gp->(Bool->Prop)->Prop
 | .Eq,x,y,G,k=>eqQ x y G k
 | .NotEq,x,y,G,k=>eqU x y G fun b=>k (!b)
 | .Is,x,y,_,k=>isU x y k
 | .IsNot,_,_,_,_=>False
 | .In,x,y,G,k=>inU x y G k
 | .NotIn,x,y,G,k=>inU x y G fun b=>k (!b)
 | o,x,y,_,k=>ordU o x y k
noncomputable def truU:U->Gp->(Bool->Prop)->Prop
 | .non,_,k=>k false
 | .bl b,_,k=>k b
 | .int i,_,k=>k (i != 0)
 | .str x,_,k=>x.length<=sizeLine/\k ((x.length:Int) != 0)
 | .tup xs,_,k=>k (!xs.isEmpty)
 | .loc a,G,k=>match G a with
  | some (.lst xs)=>k (!xs.isEmpty)
  | some (.fro xs)=>k (!xs.isEmpty)
  | some (.dK kvs)=>k (!kvs.isEmpty)
  | _=>False
 | _,_,_=>False
noncomputable def ixU:U->U->Gp->K1->Prop
 | .tup xs,.int i,G,Q=>match atI xs i with
  | some u=>Q u G
  | none=>False
 | .str x,.int i,G,Q=>x.length<=sizeLine/\match atI x.cps.toList i with
  | some c=>Q (.str ⟨#[c]⟩) G
  | none=>False
 | .loc a,y,G,Q=>match G a with
  | some (.lst xs)=>(match y with | .int i=>(match atI xs i with | some u=>Q u G | none=>False) | _=>False)
  | some (.fro xs)=>(match y with | .int i=>(match atI xs i with | some u=>Q u G | none=>False) | _=>False)
  | some (.dK kvs)=>(match kU y with | some k=>(match dGet kvs k with | some u=>Q u G | none=>False) | none=>False)
  | some (.dT kvs)=>(match y with | .tup ys=>(match kUs ys with | some k=>(match dGet kvs k with | some u=>Q u G | none=>False) | none=>False) | _=>False)
  | _=>False
 | _,_,_,_=>False
noncomputable def slU:U->Option Int->Option Int->Gp->K1->Prop
 | .tup xs,lo,hi,G,Q=>Q (.tup (cut xs lo hi)) G
 | .str x,lo,hi,G,Q=>x.length<=sizeLine/\Q (.str (Txt.slice x lo hi)) G
 | .loc a,lo,hi,G,Q=>match lsG G a with
  | some xs=>newO G (.lst (cut xs lo hi)) Q
  | none=>False
 | _,_,_,_,_=>False
noncomputable def revU:U->U->Gp->K1->Prop
 | .tup xs,.int i,G,Q=>i=-1/\Q (.tup xs.reverse) G
 | .loc a,.int i,G,Q=>match lsG G a with
  | some xs=>(i=1\/i=-1)/\newO G (.lst (if i=1 then xs else xs.reverse)) Q
  | none=>False
 | _,_,_,_=>False
noncomputable def jnl:U->U->Gp->K1->Prop
 | .loc a,.int i,G,Q=>(match G a with
  | some (.lst xs)=>0<=i/\(match xs[i.toNat]? with | some u=>Q u G | none=>False)
  | _=>False)
 | _,_,_,_=>False
noncomputable def setU:U->U->U->Gp->(Gp->Prop)->Prop
 | .loc a,y,v,G,Q=>match G a with
  | some (.lst xs)=>(match y with | .int i=>(match ixN xs.length i with | some j=>putO G a (.lst (xs.set j v)) Q | none=>False) | _=>False)
  | some (.dK kvs)=>(match kU y with | some k=>kvs.length < sizeLine/\putO G a (.dK (dPut kvs k v)) Q | none=>False)
  | some (.dT kvs)=>(match y with | .tup ys=>(match kUs ys with | some k=>kvs.length < sizeLine/\putO G a (.dT (dPut kvs k v)) Q | none=>False) | _=>False)
  | _=>False
 | _,_,_,_,_=>False
inductive Blt | len | repr | min | max | sum | all | any | sorted | int | str | isi
 deriving DecidableEq
inductive Mth | append | extend | insert | pop | reverse | index | join | get
 deriving DecidableEq
noncomputable def jlH:List U->Option (List Int)
 | []=>some []
 | .int i::r=>(match jlH r with | some l=>some (i::l) | none=>none)
 | _=>none
noncomputable def jmS:List U->Option (List Str)
 | []=>some []
 | .str x::r=>(match jmS r with | some l=>some (x::l) | none=>none)
 | _=>none
noncomputable def tyN:U->Gp->Option String
 | .non,_=>some "NoneType"
 | .bl _,_=>some "bool"
 | .int _,_=>some "int"
 | .str _,_=>some "str"
 | .tup _,_=>some "tuple"
 | .loc a,G=>match G a with
  | some (.lst _)=>some "list"
  | some (.dK _)=>some "dict"
  | some (.dT _)=>some "dict"
  | _=>none
 | _,_=>none
noncomputable def isiU (x:U)(G:Gp)(t:String):Option Bool:=match tyN x G with
 | some n=>if t∈["bool", "int", "str", "list", "tuple", "dict"] then some (n == t || (n == "bool" && t == "int")) else none
 | none=>none
noncomputable def lenU:List U->Gp->K1->Prop
 | [.tup xs],G,Q=>Q (.int xs.length) G
 | [.str x],G,Q=>x.length<=sizeLine/\Q (.int x.length) G
 | [.loc a],G,Q=>(match G a with
  | some (.lst xs)=>Q (.int xs.length) G
  | some (.fro xs)=>Q (.int xs.length) G
  | some (.dK kvs)=>Q (.int kvs.length) G
  | _=>False)
 | _,_,_=>False
noncomputable def jdO:List U->Gp->K1->Prop
 | [u],G,Q=>∃ d,DU G u d/\Fits 16000000 60 d/\Q (.str d.shown) G
 | _,_,_=>False
noncomputable def minU:List U->Gp->K1->Prop
 | [.int i,.int j],G,Q=>Q (.int (if j < i then j else i)) G
 | _,_,_=>False
noncomputable def jlq (xs:List U)(G:Gp)(Q:K1):Prop:=match jlH xs with
 | some ns=>ns≠[]/\∀ z∈ns,(∀ y∈ns,y<=z)->Q (.int z) G
 | none=>False
noncomputable def maxU:List U->Gp->K1->Prop
 | [.int i,.int j],G,Q=>Q (.int (if j > i then j else i)) G
 | [.loc a],G,Q=>(match G a with
  | some (.lst xs)=>jlq xs G Q
  | _=>False)
 | [.tup xs],G,Q=>jlq xs G Q
 | _,_,_=>False
noncomputable def intU:List U->Gp->K1->Prop
 | [.int i],G,Q=>Q (.int i) G
 | [.bl b],G,Q=>Q (.int (if b then 1 else 0)) G
 | _,_,_=>False
noncomputable def jfI:List U->Gp->K1->Prop
 | [x,.ty t],G,Q=>(match isiU x G t with | some b=>Q (.bl b) G | none=>False)
 | _,_,_=>False
noncomputable def jba : List U -> Gp -> K1 -> Prop
  | [.loc a], G, Q => (match G a with
    | some (.lst us) => ∃ ks : List (List Int), ks.Nodup /\ us.length < jb3 /\ us.length = ks.length /\ ((∃ ns : List Int, us = ns.map .int /\ ks = ns.map fun n => [n]) \/ (∃ as : List Addr, us = as.map .loc /\ ∀ (i : Nat) a k, as[i]? = some a -> ks[i]? = some k -> G a = some (.lst (k.map .int))) \/ us = ks.map (fun k => .tup (k.map .int)) /\ ∀ k ∈ ks, k ≠ []) /\
        ∀ π : List Nat, π.Perm (List.range us.length) -> (∀ i, i + 1 < us.length -> HT.lexLt (ks.getD (π.getD i 0) []) (ks.getD (π.getD (i + 1) 0) []) = true) -> newO G (.lst (π.map fun i => us.getD i .non)) Q
    | _ => False)
  | _, _, _ => False
noncomputable def mkDU:U->Gp->K1->Prop
 | .loc a,G,Q=>(match G a with
  | some (.dK kvs)=>∃ ns:List Int,kvs.map (·.1)=ns.map (fun z=>(Sum.inl z:Key))/\newO G (.lst (ns.map .int)) Q
  | _=>False)
 | _,_,_=>False
noncomputable def jng:U->Gp->K1->Prop
 | .loc a,G,Q=>(match G a with
  | some (.lst us)=>∃ ks:List (List Int),(us=ks.map (fun k=>U.tup (k.map .int))\/∃ ns:List Int,us=ns.map .int/\ks=ns.map fun n=>[n])/\(us=[]->Q .non G)/\∀ u,us[jlV ks]?=some u->Q u G
  | _=>False)
 | _,_,_=>False
noncomputable def jnh:U->Gp->K1->Prop
 | .loc a,G,Q=>(match G a with
  | some (.lst us)=>∃ ns:List Int,us=ns.map .int/\(ns=[]->Q (.int 0) G)/\∀ z∈ns,(∀ y∈ns,y<=z)->Q (.int z) G
  | _=>False)
 | _,_,_=>False
noncomputable def bltU:Blt->List U->Gp->K1->Prop
 | .len=>lenU
 | .repr=>jdO
 | .min=>minU
 | .max=>fun _ _ _=>False
 | .sum=>fun _ _ _=>False
 | .all=>fun _ _ _=>False
 | .any=>fun _ _ _=>False
 | .sorted=>jba
 | .int=>intU
 | .str=>fun _ _ _=>False
 | .isi=>jfI
noncomputable def jeM:U->List U->Gp->K1->Prop
 | .loc a,[v],G,Q=>(match G a with
  | some (.lst xs)=>xs.length < sizeLine/\putO G a (.lst (xs++[v])) (Q .non)
  | _=>False)
 | _,_,_,_=>False
noncomputable def jeF:U->List U->Gp->K1->Prop
 | .loc a,[.loc b],G,Q=>(match G a,G b with
  | some (.lst xs),some (.lst ys)=>xs.length + ys.length<=sizeLine/\putO G a (.lst (xs++ys)) (Q .non)
  | _,_=>False)
 | _,_,_,_=>False
noncomputable def jeE:U->List U->Gp->K1->Prop
 | .loc a,[.int i,v],G,Q=>(match G a with
  | some (.lst xs)=>0<=i/\i<=xs.length/\xs.length < sizeLine/\putO G a (.lst (xs.take i.toNat++v::xs.drop i.toNat)) (Q .non)
  | _=>False)
 | _,_,_,_=>False
noncomputable def jaO:Mth->U->List U->Gp->K1->Prop
 | .append=>jeM
 | .extend=>jeF
 | .insert=>jeE
 | .pop=>fun _ _ _ _=>False
 | .reverse=>fun _ _ _ _=>False
 | .index=>fun _ _ _ _=>False
 | .join=>fun _ _ _ _=>False
 | .get=>fun _ _ _ _=>False
noncomputable def mtU:Mth->U->Gp->Option (String×String)
 | .append,x,G=>(match x with | .loc a=>(match G a with | some (.lst _)=>some ("list", "list.append") | _=>none) | _=>none)
 | .extend,x,G=>(match x with | .loc a=>(match G a with | some (.lst _)=>some ("list", "list.extend") | _=>none) | _=>none)
 | .insert,x,G=>(match x with | .loc a=>(match G a with | some (.lst _)=>some ("list", "list.insert") | _=>none) | _=>none)
 | .pop,_,_=>none
 | .reverse,_,_=>none
 | .index,_,_=>none
 | .join,_,_=>none
 | .get,_,_=>none
noncomputable def clsA:List (Str×List Str):=[("PlanError",[]),("NoPaper",["word", "at"]),("TooMany",["word"]),("NoRing",["word"]),("NoText",["row", "word"]),("NoRow",["row"])]
noncomputable def clsN (c:Nat):Str:=(clsA.getD c ("",[])).1
noncomputable def clsF (c:Nat):List Str:=(clsA.getD c ("",[])).2
inductive HL where
 | is1 (c:Nat) | isi (cs:List Nat) | isiV | v (i:Nat)
inductive HA where
 | str (x:Str) | att (f:Str)
inductive HV where
 | cond (k:Bool) (a:Bool×HL) (as:List (Bool×HL)) | one (a:HA) | bl (b:Bool) | tup (as:List HA) | lst (as:List HA)
inductive HS where
 | asg (i:Nat) (e:HV) | ifa (k:Bool) (a:Bool×HL) (as:List (Bool×HL)) (i:Nat) (e:HV)
section
variable (x:XV)
noncomputable def litH (ς:Sg):HL->Option Bool
 | .is1 c=>some (decide (x.c=c))
 | .isi cs=>some (cs.contains x.c)
 | .isiV=>some true
 | .v i=>match ς[i]? with
  | some (some (.bl b))=>some b
  | _=>none
noncomputable def lit1 (ς:Sg)(p:Bool×HL):Option Bool:=match litH x ς p.2 with
 | some b=>some (if p.1=true then !b else b)
 | none=>none
noncomputable def jjX (ς:Sg)(k:Bool):Bool×HL->List (Bool×HL)->Option Bool
 | a,[]=>lit1 x ς a
 | a,b::r=>match lit1 x ς a with
  | some t=>if t=k then jjX ς k b r else some t
  | none=>none
noncomputable def atH:HA->Option U
 | .str y=>some (.str y)
 | .att f=>((clsF x.c).zip x.fs).lookup f
noncomputable def atsH:List HA->Option (List U)
 | []=>some []
 | a::r=>match atH x a,atsH r with
  | some u,some us=>some (u::us)
  | _,_=>none
noncomputable def hvH (ς:Sg):HV->Gp->K1->Prop
 | .cond k a as,G,Q=>match jjX x ς k a as with
  | some b=>Q (.bl b) G
  | none=>False
 | .one a,G,Q=>match atH x a with
  | some u=>Q u G
  | none=>False
 | .bl b,G,Q=>Q (.bl b) G
 | .tup as,G,Q=>match atsH x as with
  | some us=>Q (.tup us) G
  | none=>False
 | .lst as,G,Q=>match atsH x as with
  | some us=>newO G (.lst us) Q
  | none=>False
noncomputable def hsH:List HS->Sg->Gp->(Sg->Gp->Prop)->Prop
 | [],ς,G,k=>k ς G
 | .asg i e::r,ς,G,k=>hvH x ς e G fun u G1=>hsH r (ς.set i (some u)) G1 k
 | .ifa q a as i e::r,ς,G,k=>match jjX x ς q a as with
  | some true=>hvH x ς e G fun u G1=>hsH r (ς.set i (some u)) G1 k
  | some false=>hsH r ς G k
  | none=>False
end
mutual
inductive E where
 | v (i:Nat) | non | bl (b:Bool) | int (i:Int) | str (x:Str) | g (n:Nat)
 | bin (o:Operator) (a b:E) | neg (a:E) | not (a:E) | bop (k:Bool) (a:E) (es:Es)
 | cmp (o:CmpOp) (a b:E) | cmp2 (o p:CmpOp) (a b c:E) | ife (c a b:E)
 | tup (es:Es) | lst (es:Es) | dic (es:Es) | dicT
 | ix (a b:E) | sl (a:E) (lo hi:Eo) | rev (a st:E)
 | call (n:Nat) (es:Es) | app (i:Nat) (es:Es) | blt (b:Blt) (es:Es) | meth (m:Mth) (o:E) (es:Es)
 | ty (n:String)
 | lc (pick:List (Option Nat)) (t:Tg) (it:It) (ifs:Es) (e:E) | lc2 (pick:List (Option Nat)) (t:Tg) (it:It) (ifs:Es) (t2:Tg) (it2:It) (ifs2:Es) (e:E) | mkL (e:E) | mkT (e:E) | rngL (a:E) | rngT (a:E) | rngL2 (a b:E) | minD (e:E) | maxD (e:E) | mkD (e:E)
inductive Eo where
 | no | so (e:E)
inductive Es where
 | nil | cons (e:E) (es:Es)
inductive Tg where
 | n (i:Nat) | t (ts:Tgs)
inductive Tgs where
 | nil | cons (t:Tg) (ts:Tgs)
inductive It where
 | e (e:E) | r1 (e:E) | r2 (a b:E) | enum (e:E) | dk (e:E)
end
mutual
inductive S where
 | pass | expr (e:E) | asg (t:Tg) (e:E) | asgC (i:Nat) (e:E) | setS (o i e:E) | par (is:List Nat) (es:Es) | aug (i:Nat) (o:Operator) (e:E) | augS (o i:E) (p:Operator) (e:E)
 | ite (c:E) (a b:Ss) | fr (t:Tg) (it:It) (b:Ss) | wh (c:E) (b:Ss) | ret (e:E) | retN
 | never | raise (c:Nat) (es:Es) | tr (b:Ss) (c:Nat) (n:Nat) (h:List HS)
inductive Ss where
 | nil | cons (s:S) (ss:Ss)
end
mutual
noncomputable def tgU:Tg->U->Sg->(Sg->Prop)->Prop
 | .n i,u,ς,k=>k (ς.set i (some u))
 | .t ts,u,ς,k=>match u with
  | .tup us=>tgsU ts us ς k
  | _=>False
noncomputable def tgsU:Tgs->List U->Sg->(Sg->Prop)->Prop
 | .nil,us,ς,k=>us=[]/\k ς
 | .cons t ts,us,ς,k=>match us with
  | []=>False
  | u::r=>tgU t u ς fun ς'=>tgsU ts r ς' k
end
noncomputable abbrev Cl:=Nat->List U->Gp->K1->KX->Prop
noncomputable def slot (ς:Sg)(i:Nat)(k:U->Prop):Prop:=match ς[i]? with
 | some (some u)=>k u
 | _=>False
noncomputable def jaS (pick:List (Option Nat))(ς:Sg):Sg:=pick.map fun o=>o.bind fun j=>(ς[j]?).join
noncomputable def jcU (ok:Gp->Prop)(b:U->Gp->(Option U->Gp->Prop)->Prop):List U->List U->Gp->(List U->Gp->Prop)->Prop
 | [],acc,G,k=>ok G/\k acc G
 | x::xs,acc,G,k=>ok G/\b x G fun o G'=>jcU ok b xs (match o with | some u=>acc++[u] | none=>acc) G' k
noncomputable def jfN (ok:Gp->Prop)(b:U->List U->Gp->(List U->Gp->Prop)->Prop):List U->List U->Gp->(List U->Gp->Prop)->Prop
 | [],acc,G,k=>ok G/\k acc G
 | x::xs,acc,G,k=>ok G/\b x acc G fun acc' G'=>jfN ok b xs acc' G' k
noncomputable def forL (ok:Gp->Prop)(b:U->Sg->Gp->(Sg->Gp->Prop)->Prop):List U->Sg->Gp->(Sg->Gp->Prop)->Prop
 | [],ς,G,k=>ok G/\k ς G
 | x::xs,ς,G,k=>ok G/\b x ς G fun ς' G'=>forL ok b xs ς' G' k
noncomputable def rngU (i:Int)(n:Nat):List U:=(List.range n).map fun k:Nat=>.int (i + k)
noncomputable def jcH:Nat->List U->List U
 | _,[]=>[]
 | n,u::r=>.tup [.int n,u]::jcH (n + 1) r
noncomputable def itU:U->Gp->(List U->(Gp->Prop)->Prop)->Prop
 | .tup xs,_,k=>k xs fun _=>True
 | .loc a,G,k=>match lsG G a with
  | some xs=>k xs fun G'=>lsG G' a=some xs
  | none=>False
 | _,_,_=>False
noncomputable def jj2:U->Gp->(List U->(Gp->Prop)->Gp->Prop)->Prop
 | .loc a,G,Q=>match G a with
  | some (.dT kvs)=>∀ o G',Put G a (.frd o kvs) G'->Q (kvs.map fun p=>.tup (p.1.map Ku)) (fun G'=>G' a=some (.frd o kvs)) G'
  | _=>False
 | _,_,_=>False
noncomputable def glU (gs:List U)(n:Nat)(k:U->Prop):Prop:=match gs[n]? with
 | some u=>k u
 | none=>False
noncomputable abbrev UE:=Sg->Gp->K1->KX->Prop
noncomputable abbrev UT:=Sg->Gp->(Bool->Gp->Prop)->KX->Prop
noncomputable abbrev UA:=Sg->Gp->(List U->Gp->Prop)->KX->Prop
noncomputable def truT (t:UE):UT:=fun ς G Q X=>t ς G (fun x G1=>truU x G1 fun b=>Q b G1) X
noncomputable abbrev tp (t:UE):UE×UT:=(t,truT t)
noncomputable def comb:Bool->UE×UT->UE×UT->UE×UT
 | true,p,q=>(fun ς G Q X=>p.1 ς G (fun x G1=>truU x G1 fun c=>if c=true then q.1 ς G1 Q X else Q x G1) X,fun ς G Q X=>p.2 ς G (fun c G1=>if c=true then q.2 ς G1 Q X else Q false G1) X)
 | false,p,q=>(fun ς G Q X=>p.1 ς G (fun x G1=>truU x G1 fun c=>if c=true then Q x G1 else q.1 ς G1 Q X) X,fun ς G Q X=>p.2 ς G (fun c G1=>if c=true then Q true G1 else q.2 ς G1 Q X) X)
section
variable (gs:List U)(Δ:Cl)
mutual
noncomputable def den : E -> UE × UT
  | .v i => tp fun ς G Q _ => slot ς i fun u => Q u G
  | .non => tp fun _ G Q _ => Q .non G
  | .bl b => tp fun _ G Q _ => Q (.bl b) G
  | .int i => tp fun _ G Q _ => Q (.int i) G
  | .str x => tp fun _ G Q _ => Q (.str x) G
  | .g n => tp fun _ G Q _ => glU gs n fun u => Q u G
  | .bin o a b => tp fun ς G Q X => (den a).1 ς G (fun x G1 => (den b).1 ς G1 (fun y G2 => binU o x y G2 Q) X) X
  | .neg a => tp fun ς G Q X => (den a).1 ς G (fun x G1 => negU x G1 Q) X
  | .not a => (fun ς G Q X => (den a).1 ς G (fun x G1 => truU x G1 fun b => Q (.bl (!b)) G1) X,
      fun ς G Q X => (den a).2 ς G (fun b G1 => Q (!b) G1) X)
  | .bop k a es => denB k (den a) es
  | .cmp o a b => tp fun ς G Q X => (den a).1 ς G (fun x G1 => (den b).1 ς G1 (fun y G2 => cmpU o x y G2 fun c => Q (.bl c) G2) X) X
  | .cmp2 o p a b c => tp fun ς G Q X => (den a).1 ς G (fun x G1 => (den b).1 ς G1 (fun y G2 => cmpU o x y G2 fun t => if t = true then (den c).1 ς G2 (fun z G3 => cmpU p y z G3 fun t' => Q (.bl t') G3) X else Q (.bl false) G2) X) X
  | .ife c a b => (fun ς G Q X => (den c).2 ς G (fun t G1 => if t = true then (den a).1 ς G1 Q X else (den b).1 ς G1 Q X) X,
      fun ς G Q X => (den c).2 ς G (fun t G1 => if t = true then (den a).2 ς G1 Q X else (den b).2 ς G1 Q X) X)
  | .tup es => tp fun ς G Q X => jaN es ς G (fun us G1 => us.length <= sizeLine /\ Q (.tup us) G1) X
  | .lst es => tp fun ς G Q X => jaN es ς G (fun us G1 => us.length <= sizeLine /\ newO G1 (.lst us) Q) X
  | .dic es => tp fun ς G Q X => denD es ς G (fun kvs G1 => kvs.length <= 15 /\ newO G1 (.dK (jcS kvs)) Q) X
  | .dicT => tp fun _ G Q _ => newO G (.dT []) Q
  | .ix a b => tp fun ς G Q X => (den a).1 ς G (fun x G1 => (den b).1 ς G1 (fun y G2 => ixU x y G2 Q) X) X
  | .sl a lo hi => tp fun ς G Q X => (den a).1 ς G (fun x G1 => denO lo ς G1 (fun l G2 => denO hi ς G2 (fun h G3 => slU x l h G3 Q) X) X) X
  | .rev a b => tp fun ς G Q X => (den a).1 ς G (fun x G1 => (den b).1 ς G1 (fun y G2 => revU x y G2 Q) X) X
  | .call n es => tp fun ς G Q X => jaN es ς G (fun us G1 => Δ n us G1 Q X) X
  | .app _ _ => tp fun _ _ _ _ => False
  | .blt b es => tp fun ς G Q X => jaN es ς G (fun us G1 => bltU b us G1 Q) X
  | .meth m o es => tp fun ς G Q X => (den o).1 ς G (fun x G1 => match mtU m x G1 with
      | some _ => jaN es ς G1 (fun us G2 => jaO m x us G2 Q) X
      | none => False) X
  | .ty n => tp fun _ G Q _ => Q (.ty n) G
  | .lc pick t it ifs e => tp fun ς G Q X => denI it ς G (fun xs ok G1 => xs.length <= sizeLine /\ jcU ok (fun x G2 k => tgU t x (jaS pick ς) fun τ => denC ifs τ G2 (fun b G3 => if b = true then (den e).1 τ G3 (fun u G4 => k (some u) G4) (fun _ _ => False) else k none G3)) xs [] G1
      fun us G5 => newO G5 (.lst us) Q) X
  | .lc2 pick t it ifs t2 it2 ifs2 e => tp fun ς G Q X => denI it ς G (fun xs ok G1 => jfN ok (fun x acc G2 k => tgU t x (jaS pick ς) fun τ => denC ifs τ G2 (fun b G3 => if b = true then denI it2 τ G3 (fun ys ok2 G4 => acc.length + ys.length <= sizeLine /\ jcU ok2 (fun y G5 k5 => tgU t2 y τ fun τ' => denC ifs2 τ' G5 (fun b2 G6 => if b2 = true then (den e).1 τ' G6 (fun u G7 => k5 (some u) G7) (fun _ _ => False) else k5 none G6)) ys acc G4 k) (fun _ _ => False) else k acc G3)) xs [] G1
      fun us G5 => newO G5 (.lst us) Q) X
  | .mkD e => tp fun ς G Q X => (den e).1 ς G (fun x G1 => mkDU x G1 Q) X
  | .maxD e => tp fun ς G Q X => (den e).1 ς G (fun x G1 => jnh x G1 Q) X
  | .minD e => tp fun ς G Q X => (den e).1 ς G (fun x G1 => jng x G1 Q) X
  | .mkL e => tp fun ς G Q X => (den e).1 ς G (fun x G1 => itU x G1 fun xs _ => newO G1 (.lst xs) Q) X
  | .mkT e => tp fun ς G Q X => (den e).1 ς G (fun x G1 => itU x G1 fun xs _ => Q (.tup xs) G1) X
  | .rngL e => tp fun ς G Q X => (den e).1 ς G (fun x G1 => match x with
      | .int j => 0 <= j /\ j <= 1000000 /\ newO G1 (.lst (rngU 0 j.toNat)) Q
      | _ => False) X
  | .rngT e => tp fun ς G Q X => (den e).1 ς G (fun x G1 => match x with
      | .int j => 0 <= j /\ j <= 1000000 /\ Q (.tup (rngU 0 j.toNat)) G1
      | _ => False) X
  | .rngL2 a b => tp fun ς G Q X => (den a).1 ς G (fun x G1 => (den b).1 ς G1 (fun y G2 => match x, y with
      | .int i, .int j => 0 <= i /\ i <= j /\ j <= 1000000000 /\ j - i <= 1000000 /\ newO G2 (.lst (rngU i (j - i).toNat)) Q
      | _, _ => False) X) X
noncomputable def denB (k : Bool)(p : UE × UT) : Es -> UE × UT
  | .nil => p
  | .cons e es => comb k p (denB k (den e) es)
noncomputable def denC : Es -> Sg -> Gp -> (Bool -> Gp -> Prop) -> Prop
  | .nil, _, G, Q => Q true G
  | .cons e es, ς, G, Q => (den e).2 ς G (fun b G1 => if b = true then denC es ς G1 Q else Q false G1) (fun _ _ => False)
noncomputable def denO : Eo -> Sg -> Gp -> (Option Int -> Gp -> Prop) -> KX -> Prop
  | .no, _, G, Q, _ => Q none G
  | .so e, ς, G, Q, X => (den e).1 ς G (fun x G1 => match x with | .int i => Q (some i) G1 | _ => False) X
noncomputable def jaN : Es -> Sg -> Gp -> (List U -> Gp -> Prop) -> KX -> Prop
  | .nil, _, G, Q, _ => Q [] G
  | .cons e es, ς, G, Q, X => (den e).1 ς G (fun x G1 => jaN es ς G1 (fun xs G2 => Q (x :: xs) G2) X) X
noncomputable def denD : Es -> Sg -> Gp -> (List (Key × U) -> Gp -> Prop) -> KX -> Prop
  | .nil, _, G, Q, _ => Q [] G
  | .cons e (.cons f es), ς, G, Q, X => (den e).1 ς G (fun x G1 => (den f).1 ς G1 (fun y G2 => match kU x with
      | some k => denD es ς G2 (fun kvs G3 => Q ((k, y) :: kvs) G3) X
      | none => False) X) X
  | .cons _ .nil, _, _, _, _ => False
noncomputable def denI : It -> Sg -> Gp -> (List U -> (Gp -> Prop) -> Gp -> Prop) -> KX -> Prop
  | .e e, ς, G, Q, X => (den e).1 ς G (fun x G1 => itU x G1 fun xs ok => Q xs ok G1) X
  | .r1 e, ς, G, Q, X => (den e).1 ς G (fun x G1 => match x with
      | .int j => -(2 ^ 62) <= j /\ j < 2 ^ 62 /\ Q (rngU 0 j.toNat) (fun _ => True) G1
      | _ => False) X
  | .r2 a b, ς, G, Q, X => (den a).1 ς G (fun x G1 => (den b).1 ς G1 (fun y G2 => match x, y with
      | .int i, .int j => -(2 ^ 62) <= i /\ i < 2 ^ 62 /\ -(2 ^ 62) <= j /\ j < 2 ^ 62 /\ Q (rngU i (j - i).toNat) (fun _ => True) G2
      | _, _ => False) X) X
  | .enum e, ς, G, Q, X => (den e).1 ς G (fun x G1 => match x with
      | .tup xs => Q (jcH 0 xs) (fun _ => True) G1
      | _ => False) X
  | .dk e, ς, G, Q, X => (den e).1 ς G (fun x G1 => jj2 x G1 Q) X
end
noncomputable def denE (e:E):UE:=(den gs Δ e).1
noncomputable def denT (e:E):UT:=(den gs Δ e).2
mutual
noncomputable def denS : S -> En -> Sg -> Gp -> Prop
  | .pass, D, ς, G => D.nx ς G
  | .expr e, D, ς, G => denE gs Δ e ς G (fun _ G1 => D.nx ς G1) fun x G1 => D.ex x ς G1
  | .asg t e, D, ς, G => denE gs Δ e ς G (fun u G1 => tgU t u ς fun ς' => D.nx ς' G1) fun x G1 => D.ex x ς G1
  | .asgC i e, D, ς, G => denE gs Δ e ς G (fun u G1 => D.nx (ς.set i (some u)) G1) fun x G1 => D.ex x ς G1
  | .setS o i e, D, ς, G => denE gs Δ e ς G (fun v G1 => denE gs Δ o ς G1 (fun x G2 => denE gs Δ i ς G2 (fun y G3 => setU x y v G3 fun G4 => D.nx ς G4) fun x G1 => D.ex x ς G1) fun x G1 => D.ex x ς G1) fun x G1 => D.ex x ς G1
  | .par is es, D, ς, G => jaN gs Δ es ς G (fun us G1 => us.length = is.length /\ D.nx ((is.zip us).foldl (fun s p => s.set p.1 (some p.2)) ς) G1) fun x G1 => D.ex x ς G1
  | .aug i o e, D, ς, G => slot ς i fun x => denE gs Δ e ς G (fun y G1 => jdw o x y G1 fun z G2 => D.nx (ς.set i (some z)) G2) fun x G1 => D.ex x ς G1
  | .augS o i p e, D, ς, G => denE gs Δ o ς G (fun x G1 => denE gs Δ i ς G1 (fun y G2 => jnl x y G2 fun a G3 => denE gs Δ e ς G3 (fun b G4 => jdw p a b G4 fun z G5 => setU x y z G5 fun G6 => D.nx ς G6) fun x G1 => D.ex x ς G1) fun x G1 => D.ex x ς G1) fun x G1 => D.ex x ς G1
  | .ite c a b, D, ς, G => denT gs Δ c ς G (fun t G1 => if t = true then jay a D ς G1 else jay b D ς G1) fun x G1 => D.ex x ς G1
  | .fr t it b, D, ς, G => denI gs Δ it ς G (fun xs ok G1 => forL ok (fun x ς1 G2 k => tgU t x ς1 fun ς2 => jay b { D with nx := k } ς2 G2) xs ς G1 D.nx) fun x G1 => D.ex x ς G1
  | .wh c b, D, ς, G => ∃ W : Nat -> Sg -> Gp -> Prop, (∃ m, W m ς G) /\ ∀ m ς1 G1, W m ς1 G1 ->
      denT gs Δ c ς1 G1 (fun t G2 => if t = true then jay b { D with nx := fun ς' G' => ∃ m', m' < m /\ W m' ς' G' } ς1 G2 else D.nx ς1 G2) fun x G1 => D.ex x ς1 G1
  | .ret e, D, ς, G => denE gs Δ e ς G D.rt fun x G1 => D.ex x ς G1
  | .retN, D, _, G => D.rt .non G
  | .never, _, _, _ => False
  | .raise c es, D, ς, G => jaN gs Δ es ς G (fun us G1 => us.length = (clsF c).length /\ D.ex ⟨c, us⟩ ς G1) fun x G1 => D.ex x ς G1
  | .tr b c n h, D, ς, G => jay b { D with ex := fun x ς1 G1 => (c = 0 \/ x.c = c) /\ hsH x h (ς1.set n none) G1 fun ς2 G2 => D.nx (ς2.set n none) G2 } ς G
noncomputable def jay : Ss -> En -> Sg -> Gp -> Prop
  | .nil, D, ς, G => D.nx ς G
  | .cons s ss, D, ς, G => denS s { D with nx := fun ς' G' => jay ss D ς' G' } ς G
end
end
structure Fun where
 name:Str
 ps:List Str
 N:List Str
 body:Ss
structure Tab where
 funs:List Fun
 gs:List U
 gn:List Str:=[]
 cs:List Nat:=[]
noncomputable def jaj (n:Nat)(us:List U):Sg:=us.map some++List.replicate (n - us.length) none
noncomputable def jab (T:Tab):Nat->Cl
 | 0,_,_,_,_,_=>False
 | k + 1,n,us,G,Q,X=>match T.funs[n]? with
  | some d=>us.length=d.ps.length/\jay T.gs (jab T k) d.body ⟨fun _ G'=>Q .non G',Q,fun x _ G'=>X x G'⟩ (jaj d.N.length us) G
  | none=>False
mutual
noncomputable def RU (K:PySem.W.Frag)(H:Hp):U->V->Prop
 | .non,v=>v=.non
 | .bl b,v=>v=.bl b
 | .int i,v=>v=.int i
 | .str x,v=>v=.str x
 | .tup xs,v=>∃ a vs,v=.ref a/\H a=some (.tup vs)/\RUs K H xs vs
 | .loc a,v=>v=.ref a
 | .fn _,_=>False
 | .ty n,v=>v=.ty n
 | .exc _ _,_=>False
 | .own _,_=>False
 | .clo _ _,_=>False
noncomputable def RUs (K:PySem.W.Frag)(H:Hp):List U->List V->Prop
 | [],vs=>vs=[]
 | u::us,vs=>∃ v vr,vs=v::vr/\RU K H u v/\RUs K H us vr
end
noncomputable def RKs {κ:Type}(K:PySem.W.Frag)(H:Hp):List (κ×U)->List (κ×V)->Prop
 | [],l=>l=[]
 | (k,u)::r,l=>∃ v l',l=(k,v)::l'/\RU K H u v/\RKs K H r l'
noncomputable def MOk (K:PySem.W.Frag)(H:Hp)(a:Addr):MO->Prop
 | .lst us=>∃ vs,H a=some (.lst vs)/\RUs K H us vs
 | .fro us=>∃ o vs,H a=some (.frz o (.lst vs))/\RUs K H us vs
 | .dK kvs=>∃ l,H a=some (.dK l)/\RKs K H kvs l
 | .dT kvs=>∃ l,H a=some (.dT l)/\RKs K H kvs l
 | .frd o kvs=>∃ l,H a=some (.frz o (.dT l))/\RKs K H kvs l
noncomputable def HR (K:PySem.W.Frag)(H:Hp)(G:Gp):Prop:=∀ a o,G a=some o->MOk K H a o
noncomputable def Fr (H:Hp)(G:Gp)(H':Hp)(G':Gp):Prop:=∀ a o,H a=some o->G a=none->H' a=some o/\G' a=none
noncomputable def SR (K:PySem.W.Frag)(H:Hp)(ς:Sg)(σ:St):Prop:=ς.length=σ.length/\∀ (i:Nat) (u:U),ς[i]?=some (some u)->∃ v,σ[i]?=some (some v)/\RU K H u v
section
variable {K:PySem.W.Frag}{H H' H1 H2:Hp}{G G' G1 G2:Gp}
theorem Fr.refl (H:Hp)(G:Gp):Fr H G H G:=fun _ _ h g=>⟨h,g⟩
theorem Fr.trans (a:Fr H G H1 G1)(b:Fr H1 G1 H2 G2):Fr H G H2 G2:=fun c o h g=>let ⟨h1,g1⟩:=a c o h g; b c o h1 g1
noncomputable def TS (H H':Hp):Prop:=∀ a xs,H a=some (.tup xs)->H' a=some (.tup xs)
mutual
theorem RU.ts (t:TS H H'):∀ {u:U} {v:V},RU K H u v->RU K H' u v
 | .non,_,h=>h
 | .bl _,_,h=>h
 | .int _,_,h=>h
 | .str _,_,h=>h
 | .tup xs,_,h=>by
  obtain ⟨a,vs,e,q,r⟩:=h
  exact ⟨a,vs,e,t _ _ q,RUs.ts t r⟩
 | .loc _,_,h=>h
 | .fn _,_,h=>h
 | .ty _,_,h=>h
 | .exc _ _,_,h=>h
 | .own _,_,h=>h
 | .clo _ _,_,h=>h
theorem RUs.ts (t:TS H H'):∀ {us:List U} {vs:List V},RUs K H us vs->RUs K H' us vs
 | [],_,h=>h
 | _::_,_,h=>by
  obtain ⟨v,vr,e,r,rs⟩:=h
  exact ⟨v,vr,e,RU.ts t r,RUs.ts t rs⟩
end
theorem RKs.ts {κ:Type}(t:TS H H'):∀ {kvs:List (κ×U)} {l:List (κ×V)},RKs K H kvs l->RKs K H' kvs l
 | [],_,h=>h
 | (_,_)::_,_,h=>by
  obtain ⟨v,l',e,r,rs⟩:=h
  exact ⟨v,l',e,r.ts t,RKs.ts t rs⟩
theorem SR.ts {ς:Sg}{σ:St}(t:TS H H')(h:SR K H ς σ):SR K H' ς σ:=⟨h.1,fun i u e=>let ⟨v,e1,r⟩:=h.2 i u e; ⟨v,e1,r.ts t⟩⟩
theorem HR.tupNone (h:HR K H G){a:Addr}{xs:List V}(e:H a=some (.tup xs)):G a=none:=by
 cases q:G a with
 | none=>rfl
 | some o=>
  have m:=h a o q
  cases o with
  | lst us=>obtain ⟨_,e2,_⟩:=m; rw [e] at e2; cases e2
  | fro us=>obtain ⟨_,_,e2,_⟩:=m; rw [e] at e2; cases e2
  | dK us=>obtain ⟨_,e2,_⟩:=m; rw [e] at e2; cases e2
  | dT us=>obtain ⟨_,e2,_⟩:=m; rw [e] at e2; cases e2
  | frd _ us=>obtain ⟨_,e2,_⟩:=m; rw [e] at e2; cases e2
theorem Fr.ts (f:Fr H G H' G')(h:HR K H G):TS H H':=fun a xs e=>(f a _ e (h.tupNone e)).1
theorem MOk.there {a:Addr}{o:MO}(m:MOk K H a o):∃ ho,H a=some ho:=by
 cases o with
 | lst _=>obtain ⟨_,e,_⟩:=m; exact ⟨_,e⟩
 | fro _=>obtain ⟨_,_,e,_⟩:=m; exact ⟨_,e⟩
 | dK _=>obtain ⟨_,e,_⟩:=m; exact ⟨_,e⟩
 | dT _=>obtain ⟨_,e,_⟩:=m; exact ⟨_,e⟩
 | frd _ _=>obtain ⟨_,e,_⟩:=m; exact ⟨_,e⟩
theorem MOk.keep {a:Addr}{o:MO}(m:MOk K H a o)(e:H' a=H a)(t:TS H H'):MOk K H' a o:=by
 cases o with
 | lst _=>obtain ⟨vs,q,r⟩:=m; exact ⟨vs,e.trans q,r.ts t⟩
 | fro _=>obtain ⟨ob,vs,q,r⟩:=m; exact ⟨ob,vs,e.trans q,r.ts t⟩
 | dK _=>obtain ⟨l,q,r⟩:=m; exact ⟨l,e.trans q,r.ts t⟩
 | dT _=>obtain ⟨l,q,r⟩:=m; exact ⟨l,e.trans q,r.ts t⟩
 | frd _ _=>obtain ⟨l,q,r⟩:=m; exact ⟨l,e.trans q,r.ts t⟩
theorem HR.nope (h:HR K H G){a:Addr}(e:H a=none):G a=none:=by
 cases q:G a with
 | none=>rfl
 | some o=>
  obtain ⟨_,e2⟩:=(h a o q).there
  rw [e] at e2; cases e2
theorem jah {a:Addr}{o:MO}:gup G a o a=some o:=by unfold gup; rw [if_pos rfl]
theorem jaT {a b:Addr}{o:MO}(h:b≠a):gup G a o b=G b:=by unfold gup; rw [if_neg h]
theorem TS.new {p:Addr}{o:HO}(e:H p=none):TS H (upd H p o):=fun a xs h=>by rw [jai (jag h e)]; exact h
theorem HR.newT (h:HR K H G){p:Addr}{xs:List V}(e:H p=none):HR K (upd H p (.tup xs)) G:=fun a o q=>by
 have m:=h a o q
 obtain ⟨ho,e2⟩:=m.there
 exact m.keep (jai (jag e2 e)) (TS.new e)
theorem Fr.new {p:Addr}{o:HO}(e:H p=none):Fr H G (upd H p o) G:=fun a ob h g=>⟨by rw [jai (jag h e)]; exact h,g⟩
theorem HR.newO (h:HR K H G){p:Addr}{o:HO}{mo:MO}(e:H p=none)(m:MOk K (upd H p o) p mo):HR K (upd H p o) (gup G p mo):=fun a ob q=>by
 by_cases z:a=p
 ·subst z
  rw [jah] at q
  cases q
  exact m
 ·rw [jaT z] at q
  exact (h a ob q).keep (jai z) (TS.new e)
theorem Fr.newO {p:Addr}{o:HO}{mo:MO}(e:H p=none):Fr H G (upd H p o) (gup G p mo):=fun a ob h g=>by
 have z:a≠p:=jag h e
 exact ⟨by rw [jai z]; exact h,by rw [jaT z]; exact g⟩
theorem TS.write (h:HR K H G){p:Addr}{o:HO}{mo:MO}(g:G p=some mo):TS H (upd H p o):=fun a xs e=>by
 have z:a≠p:=fun z=>by subst z; rw [h.tupNone e] at g; cases g
 rw [jai z]; exact e
theorem HR.write (h:HR K H G){p:Addr}{o:HO}{mo mo':MO}(g:G p=some mo)(m:MOk K (upd H p o) p mo'):HR K (upd H p o) (gup G p mo'):=fun a ob q=>by
 by_cases z:a=p
 ·subst z
  rw [jah] at q
  cases q
  exact m
 ·rw [jaT z] at q
  exact (h a ob q).keep (jai z) (TS.write h g)
theorem Fr.write {p:Addr}{o:HO}{mo mo':MO}(g:G p=some mo):Fr H G (upd H p o) (gup G p mo'):=fun a ob h n=>by
 have z:a≠p:=fun z=>by subst z; rw [n] at g; cases g
 exact ⟨by rw [jai z]; exact h,by rw [jaT z]; exact n⟩
theorem RUs.length:∀ {us:List U} {vs:List V},RUs K H us vs->us.length=vs.length
 | [],_,h=>by cases h; rfl
 | _::_,_,h=>by
  obtain ⟨v,vr,rfl,_,rs⟩:=h
  simp [rs.length]
theorem RUs.append:∀ {us ws:List U} {vs xs:List V},RUs K H us vs->RUs K H ws xs->RUs K H (us++ws) (vs++xs)
 | [],_,_,_,h,h'=>by cases h; exact h'
 | _::_,_,_,_,h,h'=>by
  obtain ⟨v,vr,rfl,r,rs⟩:=h
  exact ⟨v,vr++_,rfl,r,rs.append h'⟩
theorem RUs.get:∀ {us:List U} {vs:List V} {i:Nat} {u:U},RUs K H us vs->us[i]?=some u->∃ v,vs[i]?=some v/\RU K H u v
 | [],_,_,_,_,e=>by simp at e
 | _::_,_,0,_,h,e=>by
  obtain ⟨v,vr,rfl,r,_⟩:=h
  simp at e; subst e
  exact ⟨v,rfl,r⟩
 | _::_,_,i + 1,_,h,e=>by
  obtain ⟨v,vr,rfl,_,rs⟩:=h
  obtain ⟨w,h1,h2⟩:=rs.get (i:=i) (by simpa using e)
  exact ⟨w,by simpa using h1,h2⟩
theorem RUs.take:∀ {us:List U} {vs:List V} (n:Nat),RUs K H us vs->RUs K H (us.take n) (vs.take n)
 | _,_,0,_=>rfl
 | [],_,_ + 1,h=>by cases h; rfl
 | _::_,_,n + 1,h=>by
  obtain ⟨v,vr,rfl,r,rs⟩:=h
  exact ⟨v,vr.take n,rfl,r,rs.take n⟩
theorem RUs.drop:∀ {us:List U} {vs:List V} (n:Nat),RUs K H us vs->RUs K H (us.drop n) (vs.drop n)
 | _,_,0,h=>h
 | [],_,_ + 1,h=>by cases h; rfl
 | _::_,_,n + 1,h=>by
  obtain ⟨v,vr,rfl,_,rs⟩:=h
  exact rs.drop n
theorem RUs.set {u:U}{v:V}(r:RU K H u v):∀ {us:List U} {vs:List V} (i:Nat),RUs K H us vs->RUs K H (us.set i u) (vs.set i v)
 | [],_,_,h=>by cases h; rfl
 | _::_,_,0,h=>by
  obtain ⟨w,vr,rfl,_,rs⟩:=h
  exact ⟨v,vr,rfl,r,rs⟩
 | _::_,_,i + 1,h=>by
  obtain ⟨w,vr,rfl,q,rs⟩:=h
  exact ⟨w,vr.set i v,rfl,q,rs.set r i⟩
theorem RUs.rep {us:List U}{vs:List V}(h:RUs K H us vs):∀ k:Nat,RUs K H (List.replicate k us).flatten (List.replicate k vs).flatten
 | 0=>rfl
 | k + 1=>by
  rw [List.replicate_succ,List.replicate_succ,List.flatten_cons,List.flatten_cons]
  exact h.append (h.rep k)
theorem RUs.atI {us:List U}{vs:List V}{i:Int}{u:U}(h:RUs K H us vs)(e:atI us i=some u):∃ v,L2.atI vs i=some v/\RU K H u v:=by
 unfold L2.atI at e ⊢
 rw [h.length] at e
 cases q:ixN vs.length i with
 | none=>rw [q] at e; cases e
 | some j=>
  rw [q] at e
  exact h.get e
theorem RUs.cut {us:List U}{vs:List V}(h:RUs K H us vs)(lo hi:Option Int):RUs K H (Z.cut us lo hi) (cutV vs lo hi):=by
 unfold Z.cut cutV
 rw [h.length]
 exact (h.drop _).take _
theorem RUs.isEmpty {us:List U}{vs:List V}(h:RUs K H us vs):us.isEmpty=vs.isEmpty:=by
 cases us with
 | nil=>cases h; rfl
 | cons u us=>obtain ⟨v,vr,rfl,_⟩:=h; rfl
theorem HR.lst (h:HR K H G){a:Addr}{us:List U}(e:G a=some (.lst us)):∃ vs,H a=some (.lst vs)/\RUs K H us vs:=h a _ e
theorem HR.ls (h:HR K H G){a:Addr}{us:List U}(e:lsG G a=some us):∃ vs,SqL K H a vs/\RUs K H us vs:=by
 unfold lsG at e
 split at e
 ·rename_i xs q
  cases e
  obtain ⟨vs,q2,r⟩:=h a _ q
  exact ⟨vs,.inl (.inl q2),r⟩
 ·rename_i xs q
  cases e
  obtain ⟨o,vs,q2,r⟩:=h a _ q
  exact ⟨vs,.inl (.inr ⟨o,q2⟩),r⟩
 ·cases e
theorem HR.rd (h:HR K H G){a:Addr}{us:List U}(e:lsG G a=some us):∃ vs,Rd H a (.lst vs)/\RUs K H us vs:=by
 unfold lsG at e
 split at e
 ·rename_i xs q
  cases e
  obtain ⟨vs,q2,r⟩:=h a _ q
  exact ⟨vs,.inl q2,r⟩
 ·rename_i xs q
  cases e
  obtain ⟨o,vs,q2,r⟩:=h a _ q
  exact ⟨vs,.inr ⟨o,q2⟩,r⟩
 ·cases e
end
mutual
theorem DU.dv {K:PySem.W.Frag}{H:Hp}{G:Gp}(h:HR K H G):∀ {u:U} {d:PyData} {v:V},DU G u d->RU K H u v->DV K H v d
 | _,_,_,.non,r=>by cases r; exact .non
 | _,_,_,.bl b,r=>by cases r; exact .bl b
 | _,_,_,.int i,r=>by cases r; exact .int i
 | _,_,_,.str x,r=>by cases r; exact .str x
 | _,_,_,.tup q,r=>by
  obtain ⟨a,vs,rfl,s,rs⟩:=r
  exact .tup (.of s) (DUs.dv h q rs)
 | _,_,_,.lst e q,r=>by
  cases r
  obtain ⟨vs,s,rs⟩:=h.rd e
  exact .lst s (DUs.dv h q rs)
 | _,_,_,.dic e,r=>by
  cases r
  obtain ⟨l,q,rs⟩:=h _ _ e
  cases rs
  exact .dic q
theorem DUs.dv {K:PySem.W.Frag}{H:Hp}{G:Gp}(h:HR K H G):∀ {us:List U} {ds:List PyData} {vs:List V},DUs G us ds->RUs K H us vs->DVs K H vs ds
 | _,_,_,.nil,r=>by cases r; exact .nil
 | _,_,_,.cons a b,r=>by
  obtain ⟨v,vr,rfl,r1,rs⟩:=r
  exact .cons (DU.dv h a r1) (DUs.dv h b rs)
end
end Z

namespace L2
open PySem
theorem PE.imp {X:Cx}{e:Expr}{t t':TE}(h:PE X e t)(i:∀ σ H Q,t' σ H Q->t σ H Q):PE X e t':=fun pins s σ H Q I q=>h pins s σ H Q I (i σ H Q q)
theorem PT.imp {X:Cx}{e:Expr}{t t':TT}(h:PT X e t)(i:∀ σ H Q,t' σ H Q->t σ H Q):PT X e t':=fun pins s σ H Q I q=>h pins s σ H Q I (i σ H Q q)
theorem PW.imp {X:Cx}{e:Expr}{t t':TT}(h:PW X e t)(i:∀ σ H Q,t' σ H Q->t σ H Q):PW X e t':=fun w pins s σ H Q I q=>h w pins s σ H Q I (i σ H Q q)
theorem PA.imp {X:Cx}{e:List Expr}{t t':TA}(h:PA X e t)(i:∀ σ H Q,t' σ H Q->t σ H Q):PA X e t':=fun pos pins s σ H Q I q=>h pos pins s σ H Q I (i σ H Q q)
theorem PO.imp {X:Cx}{e:Option Expr}{t t':TO}(h:PO X e t)(i:∀ σ H Q,t' σ H Q->t σ H Q):PO X e t':=fun pins s σ H Q I q=>h pins s σ H Q I (i σ H Q q)
theorem PS.imp {X:Cx}{e:Stmt}{t t':L2.TS}(h:PS X e t)(i:∀ D σ H,t' D σ H->t D σ H):PS X e t':=fun pins s σ H D I q=>h pins s σ H D I (i D σ H q)
theorem PSs.imp {X:Cx}{e:List Stmt}{t t':L2.TS}(h:PSs X e t)(i:∀ D σ H,t' D σ H->t D σ H):PSs X e t':=fun pins s σ H D I q=>h pins s σ H D I (i D σ H q)
end L2
namespace Z
open PySem L2
set_option maxHeartbeats 4000000
noncomputable def gK (K:PySem.W.Frag):Str->Option Value:=fun x=>(PySem.W.nsIn K mainGlobals x).join
noncomputable def XD (K:PySem.W.Frag)(H:Hp)(C dx:Addr)(x:XV):Prop:=1<=x.c/\x.c < 6/\XCls K (gK K) (clsN x.c) (clsF x.c) C/\∃ l,H dx=some (.xd l)/\l.map (·.1)=clsF x.c/\RUs K H x.fs (l.map (·.2))
noncomputable def XAt (X:Cx)(H:Hp)(s:Shared)(e:Value)(x:XV):Prop:=∃ ea C dx,e=.ref ea/\Lies X.s₀.heap.objs.size X.pn H s.heap ea (.ref C) (some dx)/\XD X.K H C dx x
section
variable (X:Cx)
noncomputable def LX (σ:St)(H:Hp)(G:Gp)(E:KX):Prop:=∀ (pins:List (Addr×Obj)) (e:Value) (s':Shared) (x:XV) (G':Gp) (H':Hp),Inv X pins σ H' s'->XAt X H' s' e x->HR X.K H' G'->Fr H G H' G'->E x G'->X.xe e s'
noncomputable def LV (H:Hp)(G:Gp)(Q:K1)(Q0:VK):Prop:=∀ w v G' H',RU X.K H' w v->HR X.K H' G'->Fr H G H' G'->Q w G'->Q0 v H'
noncomputable def lE (t:UE):TE:=fun σ H Q0=>∃ ς G Q E,SR X.K H ς σ/\HR X.K H G/\t ς G Q E/\LV X H G Q Q0/\LX X σ H G E
noncomputable def lT (t:UT):TT:=fun σ H Q0=>∃ ς G Q E,SR X.K H ς σ/\HR X.K H G/\t ς G Q E/\(∀ b G' H',HR X.K H' G'->Fr H G H' G'->Q b G'->Q0 b H')/\LX X σ H G E
noncomputable def lA (t:UA):TA:=fun σ H Q0=>∃ ς G Q E,SR X.K H ς σ/\HR X.K H G/\t ς G Q E/\(∀ ws vs G' H',RUs X.K H' ws vs->HR X.K H' G'->Fr H G H' G'->Q ws G'->Q0 vs H')/\LX X σ H G E
noncomputable def lO (t:Sg->Gp->(Option Int->Gp->Prop)->KX->Prop):TO:=fun σ H Q0=>∃ ς G Q E,SR X.K H ς σ/\HR X.K H G/\t ς G Q E/\(∀ o G' H',HR X.K H' G'->Fr H G H' G'->Q o G'->Q0 o H')/\LX X σ H G E
end
section
variable {X:Cx}{σ:St}{H H1 H2:Hp}{G G1 G2:Gp}
theorem LX.fr {E:KX}(h:LX X σ H G E)(f:Fr H G H1 G1):LX X σ H1 G1 E:=fun pins e s' x G' H' I a hr f' q=>h pins e s' x G' H' I a hr (f.trans f') q
theorem LV.fr {Q:K1}{Q0:VK}(h:LV X H G Q Q0)(f:Fr H G H1 G1):LV X H1 G1 Q Q0:=fun w v G' H' r hr f' q=>h w v G' H' r hr (f.trans f') q
theorem LV.here {Q:K1}{Q0:VK}(h:LV X H G Q Q0){w:U}{v:V}(r:RU X.K H w v)(hr:HR X.K H G)(q:Q w G):Q0 v H:=h w v G H r hr (Fr.refl _ _) q
theorem LV.bl {Q:K1}{Q0:VK}(h:LV X H G Q Q0){b:Bool}(hr:HR X.K H G)(q:Q (.bl b) G):Q0 (.bl b) H:=h.here (w:=.bl b) rfl hr q
theorem LV.int {Q:K1}{Q0:VK}(h:LV X H G Q Q0){b:Int}(hr:HR X.K H G)(q:Q (.int b) G):Q0 (.int b) H:=h.here (w:=.int b) rfl hr q
theorem LV.str {Q:K1}{Q0:VK}(h:LV X H G Q Q0){b:Str}(hr:HR X.K H G)(q:Q (.str b) G):Q0 (.str b) H:=h.here (w:=.str b) rfl hr q
theorem LV.tup {Q:K1}{Q0:VK}(h:LV X H G Q Q0){p:Addr}{us:List U}{vs:List V}(e:H p=none)(r:RUs X.K H us vs)(hr:HR X.K H G)(q:Q (.tup us) G):Q0 (.ref p) (upd H p (.tup vs)):=
 h (.tup us) (.ref p) G _ ⟨p,vs,rfl,jat,r.ts (TS.new e)⟩ (hr.newT e) (Fr.new e) q
theorem LV.lst {Q:K1}{Q0:VK}(h:LV X H G Q Q0){p:Addr}{us:List U}{vs:List V}(e:H p=none)(r:RUs X.K H us vs)(hr:HR X.K H G)(q:newO G (.lst us) Q):Q0 (.ref p) (upd H p (.lst vs)):=
 h (.loc p) (.ref p) _ _ rfl (hr.newO (mo:=.lst us) e ⟨vs,jat,r.ts (TS.new e)⟩) (Fr.newO e) (q.at p (hr.nope e))
theorem LV.wl {Q:K1}{Q0:VK}(h:LV X H G Q Q0){p:Addr}{us:List U}{vs:List V}{mo:MO}(g:G p=some mo)(r:RUs X.K H us vs)(hr:HR X.K H G){w:U}{v:V}(rw':RU X.K H w v)(q:putO G p (.lst us) (Q w)):Q0 v (upd H p (.lst vs)):=
 h w v _ _ (rw'.ts (TS.write hr g)) (hr.write (mo':=.lst us) g ⟨vs,jat,r.ts (TS.write hr g)⟩) (Fr.write g) q.at
end
section
variable {X:Cx}{σ:St}{H:Hp}{Q0:VK}{ta tb:UE}
theorem lE.two {R:V->V->Hp->Prop}{k:U->U->Gp->K1->Prop}(h:lE X (fun ς G Q E=>ta ς G (fun x G1=>tb ς G1 (fun y G2=>k x y G2 Q) E) E) σ H Q0)
  (f:∀ x y v v' G H' Q,RU X.K H' x v->RU X.K H' y v'->HR X.K H' G->k x y G Q->LV X H' G Q Q0->R v v' H'):lE X ta σ H fun v H1=>lE X tb σ H1 fun v' H2=>R v v' H2:=by
 obtain ⟨ς,G,Q,E,hς,hG,h,lv,lx⟩:=h
 refine ⟨ς,G,_,E,hς,hG,h,fun x v G1 H1 rx hG1 f1 h1=>?_,lx⟩
 refine ⟨ς,G1,_,E,hς.ts (f1.ts hG),hG1,h1,fun y v' G2 H2 ry hG2 f2 h2=>?_,lx.fr f1⟩
 exact f x y v v' G2 H2 Q (rx.ts (f2.ts hG1)) ry hG2 h2 (lv.fr (f1.trans f2))
theorem lE.one {R:V->Hp->Prop}{k:U->Gp->K1->Prop}(h:lE X (fun ς G Q E=>ta ς G (fun x G1=>k x G1 Q) E) σ H Q0)
  (f:∀ x v G H' Q,RU X.K H' x v->HR X.K H' G->k x G Q->LV X H' G Q Q0->R v H'):lE X ta σ H R:=by
 obtain ⟨ς,G,Q,E,hς,hG,h,lv,lx⟩:=h
 exact ⟨ς,G,_,E,hς,hG,h,fun x v G1 H1 rx hG1 f1 h1=>f x v G1 H1 Q rx hG1 h1 (lv.fr f1),lx⟩
theorem lE.many {ta:UA}{R:List V->Hp->Prop}{k:List U->Gp->K1->Prop}(h:lE X (fun ς G Q E=>ta ς G (fun x G1=>k x G1 Q) E) σ H Q0)
  (f:∀ x v G H' Q,RUs X.K H' x v->HR X.K H' G->k x G Q->LV X H' G Q Q0->R v H'):lA X ta σ H R:=by
 obtain ⟨ς,G,Q,E,hς,hG,h,lv,lx⟩:=h
 exact ⟨ς,G,_,E,hς,hG,h,fun x v G1 H1 rx hG1 f1 h1=>f x v G1 H1 Q rx hG1 h1 (lv.fr f1),lx⟩
end
section
variable {X:Cx}{pos:Pos}
theorem jms {i:Nat}{x:Str}(hN:X.N[i]?=some x)(hv:Vis X.env.scope x)(hd:(x == ("__debug__" : Str))=false)(hcd:(x == ("__classdict__" : Str))=false):PE X (.Name x pos) (lE X fun ς G Q _=>slot ς i fun u=>Q u G):=by
 refine (jkR hN hv hd hcd).imp fun σ H Q0 h=>?_
 obtain ⟨ς,G,Q,E,hς,hG,h,lv,_⟩:=h
 unfold slot at h
 split at h
 ·rename_i u e
  obtain ⟨v,e1,r⟩:=hς.2 i u e
  exact ⟨v,e1,lv.here r hG h⟩
 ·exact h.elim
theorem jb0 {e:Expr}{u:U}{v:V}(h:PE X e (tC v))(r:∀ H,RU X.K H u v):PE X e (lE X fun _ G Q _=>Q u G):=
 h.imp fun _ _ _ ⟨_,_,_,_,_,hG,q,lv,_⟩=>lv.here (r _) hG q
end
noncomputable def OpU (X:Cx)(f:Value->Value->Sem Value)(b:U->U->Gp->K1->Prop):Prop:=
 ∃ r:R2,OpR X f r/\∀ x y v v' G H Q Q0,RU X.K H x v->RU X.K H y v'->HR X.K H G->b x y G Q->LV X H G Q Q0->r v v' H Q0
section
variable {X:Cx}{pos:Pos}{a b c:Expr}{ta tb tc:UE}
theorem jmJ {o:Operator}{k:U->U->Gp->K1->Prop}(ho:OpU X (binaryOp o) k)(ha:PE X a (lE X ta))(hb:PE X b (lE X tb)) :
  PE X (.BinOp a o b pos) (lE X fun ς G Q E=>ta ς G (fun x G1=>tb ς G1 (fun y G2=>k x y G2 Q) E) E):=by
 obtain ⟨r,h1,h2⟩:=ho
 exact (jm4 h1 ha hb).imp fun σ H Q0 h=>lE.two h fun x y v v' G H' Q rx ry hG q lv=>h2 x y v v' G H' Q Q0 rx ry hG q lv
theorem jk6:OpU X (binaryOp .Add) addU:=by
 refine ⟨_,jli.or (jfA.or ((jjj (X:=X)).or (jlh.or jjk))),?_⟩
 intro x y v v' G H Q Q0 rx ry hG h lv
 unfold addU at h
 split at h
 ·cases rx; cases ry
  exact .inl ⟨_,_,rfl,rfl,lv.int hG h⟩
 ·cases rx; cases ry
  exact .inr (.inl ⟨_,_,rfl,rfl,h.1,lv.str hG h.2⟩)
 ·rename_i xs ys
  obtain ⟨a,vs,rfl,s1,r1⟩:=rx
  obtain ⟨b,ws,rfl,s2,r2⟩:=ry
  obtain ⟨hl,q⟩:=h
  refine .inr (.inr (.inl ⟨a,b,vs,ws,rfl,rfl,.of s1,.of s2,by rw [<- r1.length,<- r2.length]; exact hl,fun z=>?_,fun _ z=>?_,fun _ _ p hp=>?_⟩))
  ·have:xs=[]:=by have:=r1.length; rw [z] at this; simpa using this
   subst this
   exact lv.here (w:=.tup ys) ⟨b,ws,rfl,s2,r2⟩ hG q
  ·have:ys=[]:=by have:=r2.length; rw [z] at this; simpa using this
   subst this
   rw [List.append_nil] at q
   exact lv.here (w:=.tup xs) ⟨a,vs,rfl,s1,r1⟩ hG q
  ·exact lv.tup hp (r1.append r2) hG q
 ·cases rx; cases ry
  obtain ⟨xs,ys,g1,g2,hl,q⟩:=h
  obtain ⟨vs,e1,r1⟩:=hG.lst g1
  obtain ⟨ws,e2,r2⟩:=hG.lst g2
  exact .inr (.inr (.inr (.inl ⟨_,_,vs,ws,rfl,rfl,e1,e2,by rw [<- r1.length,<- r2.length]; exact hl,fun p hp=>lv.lst hp (r1.append r2) hG q⟩)))
 ·cases rx; cases ry
  exact .inr (.inr (.inr (.inr ⟨_,_,rfl,rfl,lv.int hG h⟩)))
 ·exact h.elim
theorem jk1:OpU X (binaryOp .Sub) subU:=by
 refine ⟨_,jk7.or (jjf (X:=X)),?_⟩
 intro x y v v' G H Q Q0 rx ry hG h lv
 unfold subU at h
 split at h
 ·cases rx; cases ry
  exact .inl ⟨_,_,rfl,rfl,lv.int hG h⟩
 ·cases rx; cases ry
  exact .inr (.inl ⟨_,_,rfl,rfl,lv.int hG h⟩)
 ·cases rx; cases ry
  exact .inr (.inr ⟨_,_,rfl,rfl,lv.int hG h⟩)
 ·exact h.elim
theorem jk3:OpU X (binaryOp .Mult) mulU:=by
 refine ⟨_,jlb.or (jk8.or (jjg (X:=X))),?_⟩
 intro x y v v' G H Q Q0 rx ry hG h lv
 unfold mulU at h
 split at h
 ·cases rx; cases ry
  exact .inl ⟨_,_,rfl,rfl,h.1,lv.int hG h.2⟩
 ·cases rx; cases ry
  obtain ⟨xs,g1,h1,h2,hl,q⟩:=h
  obtain ⟨vs,e1,r1⟩:=hG.lst g1
  exact .inr (.inl ⟨_,_,vs,rfl,rfl,e1,h1,h2,by rw [<- r1.length]; exact hl,fun p hp=>lv.lst hp (r1.rep _) hG q⟩)
 ·rename_i xs k
  obtain ⟨a,vs,rfl,s1,r1⟩:=rx
  cases ry
  obtain ⟨h0,h1,h2,hl,q⟩:=h
  refine .inr (.inr ⟨a,k,vs,rfl,rfl,.of s1,?_,h1,h2,by rw [<- r1.length]; exact hl,fun z=>?_,fun _ p hp=>lv.tup hp (r1.rep _) hG q⟩)
  ·intro z
   subst z
   exact h0 (by have:=r1.length; simpa using this)
  ·subst z
   have e:(List.replicate (Int.toNat 1) xs).flatten=xs:=by simp
   rw [e] at q
   exact lv.here (w:=.tup xs) ⟨a,vs,rfl,s1,r1⟩ hG q
 ·exact h.elim
theorem jje:OpU X (binaryOp .FloorDiv) jjT:=by
 refine ⟨_,jjh,?_⟩
 intro x y v v' G H Q Q0 rx ry hG h lv
 unfold jjT at h
 split at h
 ·cases rx; cases ry
  exact ⟨_,_,rfl,rfl,⟨h.1,h.2.1⟩,lv.int hG h.2.2⟩
 ·exact h.elim
theorem jk4:OpU X (binaryOp .Mod) modU:=by
 refine ⟨_,jlc,?_⟩
 intro x y v v' G H Q Q0 rx ry hG h lv
 unfold modU at h
 split at h
 ·cases rx; cases ry
  exact ⟨_,_,rfl,rfl,h.1,lv.int hG h.2⟩
 ·exact h.elim
theorem jk2:OpU X (binaryOp .Pow) powU:=by
 refine ⟨_,jk9,?_⟩
 intro x y v v' G H Q Q0 rx ry hG h lv
 unfold powU at h
 split at h
 ·cases rx; cases ry
  exact ⟨_,_,rfl,rfl,h.1,lv.int hG h.2⟩
 ·exact h.elim
theorem jk5 (o:Operator):OpU X (binaryOp o) (binU o):=by
 cases o with
 | Add=>exact jk6
 | Sub=>exact jk1
 | Mult=>exact jk3
 | FloorDiv=>exact jje
 | Mod=>exact jk4
 | Pow=>exact jk2
 | _=>exact ⟨fun _ _ _ _=>False,fun _ _ _ _ _ _ _ _ _ _ _ _ h=>h.elim,fun _ _ _ _ _ _ _ _ _ _ _ h _=>h⟩
theorem jmz (ha:PE X a (lE X ta)):PE X (.UnaryOp .USub a pos) (lE X fun ς G Q E=>ta ς G (fun x G1=>negU x G1 Q) E):=by
 refine (jm3 jj4 ha).imp fun σ H Q0 h=>lE.one h fun x v G H' Q rx hG q lv=>?_
 unfold negU at q
 split at q
 ·cases rx
  exact ⟨_,rfl,lv.int hG q⟩
 ·exact q.elim
end
noncomputable def CmU (X:Cx)(o:CmpOp):Prop:=
 ∃ r:R2,OpR X (compareOp o) r/\∀ x y v v' G H (k:Bool->Prop) (Q0:VK),RU X.K H x v->RU X.K H y v'->HR X.K H G->cmpU o x y G k->(∀ c,k c->Q0 (.bl c) H)->r v v' H Q0
section
variable {X:Cx}
noncomputable def rIs (neg:Bool):R2:=fun x y H Q=>((x=.non\/∃ b,x=.bl b)\/(y=.non\/∃ b,y=.bl b))/\Q (.bl (if neg then !decide (x=y) else decide (x=y))) H
theorem jhn {x y:V}{v u:Value}(rx:RelV x v)(ry:RelV y u)(h:(x=.non\/∃ b,x=.bl b)\/(y=.non\/∃ b,y=.bl b)):plainIs v u=true/\(v == u)=decide (x=y):=by
 rcases h with (rfl | ⟨b,rfl⟩) | (rfl | ⟨b,rfl⟩)
 ·cases rx
  cases y with
  | non=>cases ry; exact ⟨rfl,by simp⟩
  | bl c=>cases ry; exact ⟨rfl,by simp⟩
  | int _=>obtain ⟨t,rfl⟩:=ry; exact ⟨rfl,by simp⟩
  | str _=>obtain ⟨t,rfl⟩:=ry; exact ⟨rfl,by simp⟩
  | byt _=>obtain ⟨t,rfl⟩:=ry; exact ⟨rfl,by simp⟩
  | flt _=>obtain ⟨t,rfl⟩:=ry; exact ⟨rfl,by simp⟩
  | ref _=>cases ry; exact ⟨rfl,by simp⟩
  | ty _=>cases ry; exact ⟨rfl,by simp⟩
 ·cases rx
  cases y with
  | non=>cases ry; exact ⟨rfl,by simp⟩
  | bl c=>cases ry; exact ⟨rfl,by cases b <;> cases c <;> rfl⟩
  | int _=>obtain ⟨t,rfl⟩:=ry; exact ⟨rfl,by simp⟩
  | str _=>obtain ⟨t,rfl⟩:=ry; exact ⟨rfl,by simp⟩
  | byt _=>obtain ⟨t,rfl⟩:=ry; exact ⟨rfl,by simp⟩
  | flt _=>obtain ⟨t,rfl⟩:=ry; exact ⟨rfl,by simp⟩
  | ref _=>cases ry; exact ⟨rfl,by simp⟩
  | ty _=>cases ry; exact ⟨rfl,by simp⟩
 ·cases ry
  cases x with
  | non=>cases rx; exact ⟨rfl,by simp⟩
  | bl c=>cases rx; exact ⟨rfl,by simp⟩
  | int _=>obtain ⟨t,rfl⟩:=rx; exact ⟨rfl,by simp⟩
  | str _=>obtain ⟨t,rfl⟩:=rx; exact ⟨rfl,by simp⟩
  | byt _=>obtain ⟨t,rfl⟩:=rx; exact ⟨rfl,by simp⟩
  | flt _=>obtain ⟨t,rfl⟩:=rx; exact ⟨rfl,by simp⟩
  | ref _=>cases rx; exact ⟨rfl,by simp⟩
  | ty _=>cases rx; exact ⟨rfl,by simp⟩
 ·cases ry
  cases x with
  | non=>cases rx; exact ⟨rfl,by simp⟩
  | bl c=>cases rx; exact ⟨rfl,by cases b <;> cases c <;> rfl⟩
  | int _=>obtain ⟨t,rfl⟩:=rx; exact ⟨rfl,by simp⟩
  | str _=>obtain ⟨t,rfl⟩:=rx; exact ⟨rfl,by simp⟩
  | byt _=>obtain ⟨t,rfl⟩:=rx; exact ⟨rfl,by simp⟩
  | flt _=>obtain ⟨t,rfl⟩:=rx; exact ⟨rfl,by simp⟩
  | ref _=>cases rx; exact ⟨rfl,by simp⟩
  | ty _=>cases rx; exact ⟨rfl,by simp⟩
theorem jld:OpR X (compareOp .Is) (rIs false):=by
 intro pins s σ H x y v u Q I rx ry h
 obtain ⟨c,q⟩:=h
 obtain ⟨h1,h2⟩:=jhn rx ry c
 refine wpAny_is_plain h1 ⟨.bl _,H,I,?_,q⟩
 rw [h2]; rfl
theorem jlF {K : PySem.W.Frag}{H : Hp}{x y : U}{v v' : V}{k : Bool -> Prop}(rx : RU K H x v)(ry : RU K H y v')(h : isU x y k) : ((v = .non \/ ∃ b, v = .bl b) \/ (v' = .non \/ ∃ b, v' = .bl b)) /\ k (decide (v = v')) := by
  have e : ∀ {a b : V}, a ≠ b -> k false -> k (decide (a = b)) := fun n q => by rw [decide_eq_false n]; exact q
  cases x <;> try exact h.elim
  · cases y
    case non => have h' : k true := h; cases rx; cases ry; exact ⟨.inl (.inl rfl), by simpa using h'⟩
    all_goals first
      | exact h.elim
      | (cases rx; obtain ⟨a, vs, rfl, _⟩ := ry; exact ⟨.inl (.inl rfl), e (fun z => nomatch z) h⟩)
      | (cases rx; cases ry; exact ⟨.inl (.inl rfl), e (fun z => nomatch z) h⟩)
  · cases y <;> first
      | exact h.elim
      | (cases rx; cases ry; exact ⟨.inr (.inl rfl), e (fun z => nomatch z) h⟩)
      | (cases rx; cases ry; rename_i b c; exact ⟨.inl (.inr ⟨_, rfl⟩), by rw [decide_eq_decide.mpr (⟨fun z => V.bl.inj z, fun z => z ▸ rfl⟩ : V.bl b = .bl c ↔ b = c)]; exact h⟩)
  · cases y <;> first
      | exact h.elim
      | (cases rx; cases ry; exact ⟨.inr (.inl rfl), e (fun z => nomatch z) h⟩)
      | (cases rx; cases ry; exact ⟨.inr (.inr ⟨_, rfl⟩), e (fun z => nomatch z) h⟩)
  · cases y <;> first
      | exact h.elim
      | (cases rx; cases ry; exact ⟨.inr (.inl rfl), e (fun z => nomatch z) h⟩)
      | (cases rx; cases ry; exact ⟨.inr (.inr ⟨_, rfl⟩), e (fun z => nomatch z) h⟩)
  · cases y <;> first
      | exact h.elim
      | (cases ry; obtain ⟨a, vs, rfl, _⟩ := rx; exact ⟨.inr (.inl rfl), e (fun z => nomatch z) h⟩)
      | (cases ry; obtain ⟨a, vs, rfl, _⟩ := rx; exact ⟨.inr (.inr ⟨_, rfl⟩), e (fun z => nomatch z) h⟩)
  · cases y <;> first
      | exact h.elim
      | (cases rx; cases ry; exact ⟨.inr (.inl rfl), e (fun z => nomatch z) h⟩)
      | (cases rx; cases ry; exact ⟨.inr (.inr ⟨_, rfl⟩), e (fun z => nomatch z) h⟩)
theorem jip {H:Hp}{G:Gp}{x y:U}{v v':V}{k:Bool->Prop}(rx:RU X.K H x v)(ry:RU X.K H y v')(hG:HR X.K H G)(h:eqU x y G k) :
  (scal v v'=true/\k (decide (v=v')))\/∃ d e,DV X.K H v d/\DV X.K H v' e/\d.canLay0=true/\e.canLay0=true/\d.depth<=100/\k (PyData.eqv d e):=by
 have g:(∃ d e,DU G x d/\DU G y e/\Small d/\Small e/\k (PyData.eqv d e))->(scal v v'=true/\k (decide (v=v')))\/∃ d e,DV X.K H v d/\DV X.K H v' e/\d.canLay0=true/\e.canLay0=true/\d.depth<=100/\k (PyData.eqv d e):=
  fun ⟨d,e,h1,h2,⟨s1,s2⟩,⟨s3,_⟩,q⟩=>.inr ⟨d,e,h1.dv hG rx,h2.dv hG ry,s1,s3,s2,q⟩
 have e:∀ {p:Prop} [Decidable p],¬p->k false->k (decide p):=fun n q=>by rw [decide_eq_false n]; exact q
 cases x <;> try exact g h
 all_goals
  cases y <;> first
   | exact g h
   | (cases rx; cases ry; exact .inl ⟨rfl,e (fun z=>V.noConfusion z) h⟩)
   | (cases rx; cases ry; exact .inl ⟨rfl,by simp only [V.bl.injEq,V.int.injEq,V.str.injEq]; exact h⟩)
theorem jf7 {K:PySem.W.Frag}{H:Hp}{us:List U}{vs:List V}(r:RUs K H us vs):vs.isEmpty=us.isEmpty:=by
 have:=r.length
 cases us <;> cases vs <;> first | rfl | cases this
theorem jjU {H:Hp}{G:Gp}{x y:U}{v v':V}{k:Bool->Prop}(rx:RU X.K H x v)(ry:RU X.K H y v')(hG:HR X.K H G)(h:eqQ x y G k):eqU x y G k\/(∃ a z kvs,v=.ref a/\v'=.str z/\H a=some (.dK kvs)/\k false)\/(∃ a b xs,v=.ref a/\v'=.ref b/\SqT X.K H a xs/\SqT X.K H b []/\k xs.isEmpty)\/∃ a z xs,v=.ref a/\v'=.str z/\(SqT X.K H a xs\/SqL X.K H a xs)/\k false:=by
 unfold eqQ at h
 split at h
 ·rcases h with ⟨kvs,g,q⟩ | ⟨xs,g,q⟩ | h
  ·cases rx; cases ry
   obtain ⟨l,e,rs⟩:=hG _ _ g
   exact .inr (.inl ⟨_,_,l,rfl,rfl,e,q⟩)
  ·cases rx; cases ry
   obtain ⟨vs,e,rs⟩:=hG.lst g
   exact .inr (.inr (.inr ⟨_,_,vs,rfl,rfl,.inr (.of e),q⟩))
  ·exact .inl h
 ·obtain ⟨a,vs,rfl,s1,r1⟩:=rx
  obtain ⟨b,ws,rfl,s2,r2⟩:=ry
  cases r2
  refine .inr (.inr (.inl ⟨a,b,vs,rfl,rfl,.of s1,.of s2,?_⟩))
  rw [jf7 r1]; exact h
 ·obtain ⟨a,vs,rfl,s1,r1⟩:=rx
  cases ry
  exact .inr (.inr (.inr ⟨a,_,vs,rfl,rfl,.inl (.of s1),h⟩))
 ·exact .inl h
theorem jgD {K:PySem.W.Frag}{H:Hp}{x:U}{v:V}{k:Key}(r:RU K H x v)(e:kU x=some k):v=kV k:=by
 cases x with
 | int i=>cases r; cases e; rfl
 | str i=>cases r; cases e; rfl
 | _=>cases e
theorem je8 {K:PySem.W.Frag}{H:Hp}:∀ {xs:List U} {vs:List V} {ks:List Key},RUs K H xs vs->kUs xs=some ks->vs=ks.map kV
 | [],_,_,r,e=>by cases r; cases e; rfl
 | x::xs,_,ks,r,e=>by
  obtain ⟨v,vr,rfl,r1,rs⟩:=r
  rw [kUs] at e
  cases h1:kU x with
  | none=>rw [h1] at e; cases e
  | some k=>
   cases h2:kUs xs with
   | none=>rw [h1,h2] at e; cases e
   | some l=>
    rw [h1,h2] at e
    cases e
    rw [jgD r1 h1,je8 rs h2]; rfl
theorem jdx {K:PySem.W.Frag}{H:Hp}{x:U}{v:V}(r:RU K H x v)(e:flat x=true):jcf v=true:=by
 cases x <;> first | (cases r; rfl) | exact absurd (show false=true from e) (by decide)
theorem jcl {K:PySem.W.Frag}{H:Hp}:∀ {xs:List U} {vs:List V},RUs K H xs vs->xs.all flat=true->vs.all jcf=true
 | [],_,r,_=>by cases r; rfl
 | x::xs,_,r,e=>by
  obtain ⟨v,vr,rfl,r1,rs⟩:=r
  rw [List.all_cons,Bool.and_eq_true] at e
  rw [List.all_cons,jdx r1 e.1,jcl rs e.2]; rfl
theorem jlM {K:PySem.W.Frag}{H:Hp}{x y:U}{v v':V}(r:RU K H x v)(r':RU K H y v')(e:flat x=true)(e':flat y=true):eqV v v'=eqF x y:=by
 cases x <;> first | (exact absurd (show false=true from e) (by decide)) | (cases y <;> first | (exact absurd (show false=true from e') (by decide)) | (cases r; cases r'; rfl))
theorem jfo {K:PySem.W.Frag}{H:Hp}{x:U}{v:V}(r:RU K H x v)(e:flat x=true):∀ {xs:List U} {vs:List V},RUs K H xs vs->xs.all flat=true->inV v vs=xs.any fun y=>eqF y x
 | [],_,rs,_=>by cases rs; rfl
 | y::xs,_,rs,e'=>by
  obtain ⟨v',vr,rfl,r1,rs⟩:=rs
  rw [List.all_cons,Bool.and_eq_true] at e'
  have ih:=jfo r e rs e'.2
  unfold inV at ih ⊢
  rw [List.any_cons,List.any_cons,jlM r1 r e'.1 e,ih]
theorem jdk {κ:Type}[DecidableEq κ]{K:PySem.W.Frag}{H:Hp}(k:κ):∀ {kvs:List (κ×U)} {l:List (κ×V)},RKs K H kvs l->match dGet kvs k with | some u=>∃ v,valV l k=some v/\RU K H u v | none=>valV l k=none
 | [],_,r=>by cases r; exact rfl
 | (k',u)::kvs,_,r=>by
  obtain ⟨v,l',rfl,r1,rs⟩:=r
  by_cases e:k'=k
  ·subst e
   have:dGet ((k',u)::kvs) k'=some u:=by simp [dGet,List.find?_cons]
   rw [this]
   exact ⟨v,jch rfl,r1⟩
  ·have:dGet ((k',u)::kvs) k=dGet kvs k:=by simp [dGet,List.find?_cons,e]
   rw [this,jci (p:=(k',v)) e]
   exact jdk k rs
theorem jd9 {κ:Type}[DecidableEq κ]{K:PySem.W.Frag}{H:Hp}(k:κ){kvs:List (κ×U)}{l:List (κ×V)}(r:RKs K H kvs l):(valV l k).isSome=(dGet kvs k).isSome:=by
 have:=jdk k r
 cases e:dGet kvs k with
 | none=>rw [e] at this; rw [show valV l k=none from this]; rfl
 | some u=>rw [e] at this; obtain ⟨v,h,_⟩:=this; rw [h]; rfl
noncomputable def rDIn (neg:Bool):R2:=fun x y H Q=>∃ a o,y=.ref a/\DGet H a x o/\Q (.bl (if neg then !o.isSome else o.isSome)) H
theorem jlg (hu:X.A.units + 1 < cLine):OpR X (compareOp .In) (rDIn false):=by
 intro pins s σ H x y v u Q I rx ry h
 obtain ⟨a,o,rfl,g,q⟩:=h
 cases ry
 exact d_in hu I g rx fun s' I'=>⟨.bl o.isSome,H,I',rfl,q⟩
theorem jgj (hu:X.A.units + 1 < cLine):OpR X (compareOp .NotIn) (rDIn true):=by
 intro pins s σ H x y v u Q I rx ry h
 obtain ⟨a,o,rfl,g,q⟩:=h
 cases ry
 exact jjV hu I g rx fun s' I'=>⟨.bl (!o.isSome),H,I',rfl,q⟩
theorem jdu {K:PySem.W.Frag}{H:Hp}:∀ {ns:List Int} {vs:List V},RUs K H (ns.map .int) vs->vs=ns.map V.int
 | [],_,h=>h
 | n::ns,_,h=>by
  obtain ⟨v,vr,rfl,h1,h2⟩:=h
  rw [jdu h2]
  have h1:v=.int n:=h1
  rw [h1]; rfl
theorem jik {H:Hp}{G:Gp}{x y:U}{v v':V}{k:Bool->Prop}(rx:RU X.K H x v)(ry:RU X.K H y v')(hG:HR X.K H G)(h:inU x y G k) :
  (∃ i j,v=.str i/\v'=.str j/\k (!(Builtin.Str.occurrences j i 0 j.length 1).isEmpty))\/(∃ p xs,v'=.ref p/\(SqL X.K H p xs\/SqT X.K H p xs)/\jcf v=true/\xs.all jcf=true/\k (inV v xs))\/
   (∃ a o,v'=.ref a/\DGet H a v o/\k o.isSome)\/∃ (p:Addr) (vs:List V) (d:PyData) (ds:List PyData),v'=.ref p/\SqL X.K H p vs/\DV X.K H v d/\DVs X.K H vs ds/\d.canLay0=true/\d.depth<=100/\(∀ e∈ds,e.canLay0=true)/\k (ds.any fun e=>PyData.eqv e d):=by
 unfold inU at h
 split at h
 ·cases rx; cases ry
  exact .inl ⟨_,_,rfl,rfl,h⟩
 ·obtain ⟨a,vs,rfl,e,rs⟩:=ry
  obtain ⟨f1,f2,q⟩:=h
  exact .inr (.inl ⟨a,vs,rfl,.inr (.of e),jdx rx f1,jcl rs f2,by rw [jfo rx f1 rs f2]; exact q⟩)
 ·cases ry
  rename_i a
  split at h
  ·rename_i ys g
   obtain ⟨vs,e,rs⟩:=hG.lst g
   rcases h with ⟨f1,f2,q⟩ | ⟨d,ds,hd,hds,sd,sds,q⟩
   ·exact .inr (.inl ⟨a,vs,rfl,.inl (.of e),jdx rx f1,jcl rs f2,by rw [jfo rx f1 rs f2]; exact q⟩)
   ·exact .inr (.inr (.inr ⟨a,vs,d,ds,rfl,.inl (.of e),hd.dv hG rx,hds.dv hG rs,sd.1,sd.2,fun e he=>(sds e he).1,q⟩))
  ·rename_i ys g
   obtain ⟨ob,vs,e,rs⟩:=hG a _ g
   obtain ⟨f1,f2,q⟩:=h
   exact .inr (.inl ⟨a,vs,rfl,.inl (.inl (.inr ⟨ob,e⟩)),jdx rx f1,jcl rs f2,by rw [jfo rx f1 rs f2]; exact q⟩)
  ·rename_i kvs g
   obtain ⟨l,e,rs⟩:=hG a _ g
   split at h
   ·rename_i y ek
    have:=jgD rx ek
    subst this
    exact .inr (.inr (.inl ⟨a,_,rfl,DGet.k e,by rw [jd9 y rs]; exact h⟩))
   ·exact h.elim
  ·rename_i kvs g
   obtain ⟨l,e,rs⟩:=hG a _ g
   split at h
   ·rename_i xs
    obtain ⟨b,vs,rfl,eb,rb⟩:=rx
    split at h
    ·rename_i y ek
     have:=je8 rb ek
     subst this
     exact .inr (.inr (.inl ⟨a,_,rfl,DGet.t e eb,by rw [jd9 y rs]; exact h⟩))
    ·exact h.elim
   ·exact h.elim
  ·exact h.elim
 ·exact h.elim
theorem jgf {o:CmpOp}{x y:U}{k:Bool->Prop}(h:ordU o x y k):∃ i j,x=.int i/\y=.int j:=by
 unfold ordU at h
 split at h <;> first | exact ⟨_,_,rfl,rfl⟩ | exact h.elim
theorem jdg {k:Nat}(hr:Room k X.A)(o:CmpOp):CmU X o:=by
 have hu:X.A.units + 1 < cLine:=by have:=hr.un; omega
 cases o with
 | Eq=>
  refine ⟨_,jnb.or ((jlf hr).or ((jds hr).or ((jfz hr).or (jdU hr)))),fun x y v v' G H k Q0 rx ry hG h q=>?_⟩
  rcases jjU rx ry hG h with h | ⟨a,z,kvs,h1,h2,h3,h4⟩ | ⟨a,b,xs,h1,h2,h3,h4,h5⟩ | ⟨a,z,xs,h1,h2,h3,h4⟩
  ·rcases jip rx ry hG h with ⟨h1,h2⟩ | ⟨d,e,h1,h2,h3,h4,h5,h6⟩
   ·exact .inl ⟨h1,q _ h2⟩
   ·exact .inr (.inl ⟨d,e,h1,h2,h3,h4,h5,q _ h6⟩)
  ·exact .inr (.inr (.inl ⟨a,z,kvs,h1,h2,h3,q _ h4⟩))
  ·exact .inr (.inr (.inr (.inl ⟨a,b,xs,h1,h2,h3,h4,q _ h5⟩)))
  ·exact .inr (.inr (.inr (.inr ⟨a,z,xs,h1,h2,h3,q _ h4⟩)))
 | NotEq=>
  refine ⟨_,jm8.or (jla hr),fun x y v v' G H k Q0 rx ry hG h q=>?_⟩
  rcases jip rx ry hG h with ⟨h1,h2⟩ | ⟨d,e,h1,h2,h3,h4,h5,h6⟩
  ·exact .inl ⟨h1,q _ h2⟩
  ·exact .inr ⟨d,e,h1,h2,h3,h4,h5,q _ h6⟩
 | Is=>
  refine ⟨_,jld,fun x y v v' G H k Q0 rx ry hG h q=>?_⟩
  obtain ⟨h1,h2⟩:=jlF rx ry h
  exact ⟨h1,q _ h2⟩
 | IsNot=>exact ⟨fun _ _ _ _=>False,fun _ _ _ _ _ _ _ _ _ _ _ _ h=>h.elim,fun _ _ _ _ _ _ _ _ _ _ _ h _=>h.elim⟩
 | In=>
  refine ⟨_,jgh.or ((jgi (X:=X)).or ((jlg hu).or (jle hr))),fun x y v v' G H k Q0 rx ry hG h q=>?_⟩
  rcases jik rx ry hG h with ⟨i,j,h1,h2,h3⟩ | ⟨p,xs,h1,h2,h3,h4,h5⟩ | ⟨a,o,h1,h2,h3⟩ | ⟨p,vs,d,ds,h1,h2,h3,h4,h5,h6,h7,h8⟩
  ·exact .inl ⟨i,j,h1,h2,q _ h3⟩
  ·exact .inr (.inl ⟨p,xs,h1,h2,h3,h4,q _ h5⟩)
  ·exact .inr (.inr (.inl ⟨a,o,h1,h2,q _ h3⟩))
  ·exact .inr (.inr (.inr ⟨p,vs,d,ds,h1,h2,h3,h4,h5,h6,h7,q _ h8⟩))
 | NotIn=>
  refine ⟨_,jdS.or ((jdT (X:=X)).or ((jgj hu).or (jgg hr))),fun x y v v' G H k Q0 rx ry hG h q=>?_⟩
  rcases jik rx ry hG h with ⟨i,j,h1,h2,h3⟩ | ⟨p,xs,h1,h2,h3,h4,h5⟩ | ⟨a,o,h1,h2,h3⟩ | ⟨p,vs,d,ds,h1,h2,h3,h4,h5,h6,h7,h8⟩
  ·exact .inl ⟨i,j,h1,h2,q _ h3⟩
  ·exact .inr (.inl ⟨p,xs,h1,h2,h3,h4,q _ h5⟩)
  ·exact .inr (.inr (.inl ⟨a,o,h1,h2,q _ h3⟩))
  ·exact .inr (.inr (.inr ⟨p,vs,d,ds,h1,h2,h3,h4,h5,h6,h7,q _ h8⟩))
 | Lt=>
  refine ⟨_,jm9,fun x y v v' G H k Q0 rx ry hG h q=>?_⟩
  obtain ⟨i,j,rfl,rfl⟩:=jgf h
  cases rx; cases ry
  exact ⟨_,_,rfl,rfl,q _ h⟩
 | LtE=>exact ⟨fun _ _ _ _=>False,fun _ _ _ _ _ _ _ _ _ _ _ _ h=>h.elim,fun _ _ _ _ _ _ _ _ _ _ _ h _=>h.elim⟩
 | Gt=>
  refine ⟨_,jna,fun x y v v' G H k Q0 rx ry hG h q=>?_⟩
  obtain ⟨i,j,rfl,rfl⟩:=jgf h
  cases rx; cases ry
  exact ⟨_,_,rfl,rfl,q _ h⟩
 | GtE=>exact ⟨fun _ _ _ _=>False,fun _ _ _ _ _ _ _ _ _ _ _ _ h=>h.elim,fun _ _ _ _ _ _ _ _ _ _ _ h _=>h.elim⟩
variable {pos:Pos}{a b c:Expr}{ta tb tc:UE}{tA tB:UT}
theorem jmH {o:CmpOp}(ho:CmU X o)(ha:PE X a (lE X ta))(hb:PE X b (lE X tb))(hm:behindInMarks o b=false) :
  PE X (.Compare a [o] [b] pos) (lE X fun ς G Q E=>ta ς G (fun x G1=>tb ς G1 (fun y G2=>cmpU o x y G2 fun c=>Q (.bl c) G2) E) E):=by
 obtain ⟨r,h1,h2⟩:=ho
 exact (jja h1 ha hb hm).imp fun σ H Q0 h=>lE.two h fun x y v v' G H' Q rx ry hG q lv=>h2 x y v v' G H' _ Q0 rx ry hG q fun c q=>lv.bl hG q
theorem jkd {o o':CmpOp}(ho:CmU X o)(ho':CmU X o')(ha:PE X a (lE X ta))(hb:PE X b (lE X tb))(hc:PE X c (lE X tc))(hm:lastMarks [o,o'] [b,c]=false) :
  PE X (.Compare a [o,o'] [b,c] pos) (lE X fun ς G Q E=>ta ς G (fun x G1=>tb ς G1 (fun y G2=>cmpU o x y G2 fun t=>if t=true then tc ς G2 (fun z G3=>cmpU o' y z G3 fun t'=>Q (.bl t') G3) E else Q (.bl false) G2) E) E):=by
 obtain ⟨r,h1,h2⟩:=ho
 obtain ⟨r',h1',h2'⟩:=ho'
 refine (jht h1 h1' ha hb hc hm).imp fun σ H Q0 h=>?_
 obtain ⟨ς,G,Q,E,hς,hG,h,lv,lx⟩:=h
 refine ⟨ς,G,_,E,hς,hG,h,fun x v G1 H1 rx hG1 f1 h1=>?_,lx⟩
 refine ⟨ς,G1,_,E,hς.ts (f1.ts hG),hG1,h1,fun y v' G2 H2 ry hG2 f2 h3=>?_,lx.fr f1⟩
 refine h2 x y v v' G2 H2 _ _ (rx.ts (f2.ts hG1)) ry hG2 h3 fun t q=>⟨t,rfl,?_⟩
 cases t with
 | false=>
  rw [if_neg Bool.false_ne_true] at q ⊢
  exact (lv.fr (f1.trans f2)).bl hG2 q
 | true=>
  rw [if_pos rfl] at q ⊢
  refine ⟨ς,G2,_,E,(hς.ts (f1.ts hG)).ts (f2.ts hG1),hG2,q,fun z v3 G3 H3 rz hG3 f3 h4=>?_,lx.fr (f1.trans f2)⟩
  exact h2' y z v' v3 G3 H3 _ Q0 (ry.ts (f3.ts hG2)) rz hG3 h4 fun c q=>(lv.fr ((f1.trans f2).trans f3)).bl hG3 q
theorem jdl {H:Hp}{G:Gp}{x:U}{v:V}{k:Bool->Prop}(rx:RU X.K H x v)(hG:HR X.K H G)(h:truU x G k):∃ b,TruV X.K v H b/\k b:=by
 unfold truU at h
 split at h
 ·cases rx; exact ⟨_,rfl,h⟩
 ·cases rx; exact ⟨_,rfl,h⟩
 ·cases rx; exact ⟨_,rfl,h⟩
 ·cases rx; exact ⟨_,⟨h.1,rfl⟩,h.2⟩
 ·obtain ⟨a,vs,rfl,e,rs⟩:=rx
  exact ⟨_,.inr (.inl ⟨vs,.of e,rfl⟩),by rw [<- rs.isEmpty]; exact h⟩
 ·cases rx
  split at h
  ·rename_i g
   obtain ⟨vs,e,rs⟩:=hG.lst g
   exact ⟨_,.inl ⟨vs,.of e,rfl⟩,by rw [<- rs.isEmpty]; exact h⟩
  ·rename_i g
   obtain ⟨ob,vs,e,rs⟩:=hG _ _ g
   exact ⟨_,.inl ⟨vs,.inl (.inr ⟨ob,e⟩),rfl⟩,by rw [<- rs.isEmpty]; exact h⟩
  ·rename_i kvs g
   obtain ⟨l,e,rs⟩:=hG _ _ g
   refine ⟨_,.inr (.inr ⟨l,e,rfl⟩),?_⟩
   cases kvs with
   | nil=>cases rs; exact h
   | cons p r=>obtain ⟨v,l',rfl,_⟩:=rs; exact h
  ·exact h.elim
 ·exact h.elim
theorem jmw (ha:PE X a (lE X ta))(he:∀ whole,isTrue a X.env whole=(do let v <- whole; standAt a.pos; holding [v] (truthy v))):PT X a (lT X fun ς G Q E=>ta ς G (fun x G1=>truU x G1 fun b=>Q b G1) E):=by
 refine (jhi ha he).imp fun σ H Q0 h=>?_
 obtain ⟨ς,G,Q,E,hς,hG,h,lv,lx⟩:=h
 refine ⟨ς,G,_,E,hς,hG,h,fun x v G1 H1 rx hG1 f1 h1=>?_,lx⟩
 obtain ⟨b,h2,h3⟩:=jdl rx hG1 h1
 exact ⟨b,h2,lv b G1 H1 hG1 f1 h3⟩
theorem jkc {o:CmpOp}(ho:CmU X o)(ha:PE X a (lE X ta))(hb:PE X b (lE X tb))(hm:behindInMarks o b=false) :
  PT X (.Compare a [o] [b] pos) (lT X fun ς G Q E=>ta ς G (fun x G1=>tb ς G1 (fun y G2=>cmpU o x y G2 fun c=>truU (.bl c) G2 fun c=>Q c G2) E) E):=by
 obtain ⟨r,h1,h2⟩:=ho
 refine (jiV h1 ha hb hm).imp fun σ H Q0 h=>?_
 obtain ⟨ς,G,Q,E,hς,hG,h,lv,lx⟩:=h
 refine ⟨ς,G,_,E,hς,hG,h,fun x v G1 H1 rx hG1 f1 h1=>?_,lx⟩
 refine ⟨ς,G1,_,E,hς.ts (f1.ts hG),hG1,h1,fun y v' G2 H2 ry hG2 f2 h3=>?_,lx.fr f1⟩
 exact h2 x y v v' G2 H2 _ _ (rx.ts (f2.ts hG1)) ry hG2 h3 fun t q=>⟨t,rfl,lv t G2 H2 hG2 (f1.trans f2) q⟩
theorem jiC {o o':CmpOp}(ho:CmU X o)(ho':CmU X o')(ha:PE X a (lE X ta))(hb:PE X b (lE X tb))(hc:PE X c (lE X tc))(hm:lastMarks [o,o'] [b,c]=false) :
  PT X (.Compare a [o,o'] [b,c] pos) (lT X fun ς G Q E=>ta ς G (fun x G1=>tb ς G1 (fun y G2=>cmpU o x y G2 fun t=>if t=true then tc ς G2 (fun z G3=>cmpU o' y z G3 fun t'=>truU (.bl t') G3 fun c=>Q c G3) E else truU (.bl false) G2 fun c=>Q c G2) E) E):=by
 obtain ⟨r,h1,h2⟩:=ho
 obtain ⟨r',h1',h2'⟩:=ho'
 refine (jhj h1 h1' ha hb hc hm).imp fun σ H Q0 h=>?_
 obtain ⟨ς,G,Q,E,hς,hG,h,lv,lx⟩:=h
 refine ⟨ς,G,_,E,hς,hG,h,fun x v G1 H1 rx hG1 f1 h1=>?_,lx⟩
 refine ⟨ς,G1,_,E,hς.ts (f1.ts hG),hG1,h1,fun y v' G2 H2 ry hG2 f2 h3=>?_,lx.fr f1⟩
 refine h2 x y v v' G2 H2 _ _ (rx.ts (f2.ts hG1)) ry hG2 h3 fun t q=>⟨t,rfl,?_⟩
 cases t with
 | false=>
  rw [if_neg Bool.false_ne_true] at q ⊢
  exact ⟨false,rfl,lv false G2 H2 hG2 (f1.trans f2) q⟩
 | true=>
  rw [if_pos rfl] at q ⊢
  refine ⟨ς,G2,_,E,(hς.ts (f1.ts hG)).ts (f2.ts hG1),hG2,q,fun z v3 G3 H3 rz hG3 f3 h4=>?_,lx.fr (f1.trans f2)⟩
  exact h2' y z v' v3 G3 H3 _ _ (ry.ts (f3.ts hG2)) rz hG3 h4 fun c q=>⟨c,rfl,lv c G3 H3 hG3 ((f1.trans f2).trans f3) q⟩
theorem jjc {rest:List Expr}{sa sb:TE}(ha:PE X a sa)(hb:PE X (.BoolOp .And (b::rest) pos) sb):PE X (.BoolOp .And (a::b::rest) pos) (fun σ H Q=>sa σ H fun x H1=>∃ k,TruV X.K x H1 k/\if k=true then sb σ H1 Q else Q x H1):=by
 intro pins s σ H Q I h
 refine PyProof.Rows.BoolOp_and (thn (ha pins s σ H _ I h) fun v s1 ⟨x,H1,I1,r1,k,hk,q1⟩=>?_)
 refine thn (jeT pins s1 σ H1 x v (fun c H2=>c=k/\H2=H1) I1 r1 ⟨k,hk,rfl,rfl⟩) fun c s2 ⟨H2,I2,e1,e2⟩=>?_
 subst e1 e2
 cases c with
 | true=>exact hb pins s2 σ H2 Q I2 q1
 | false=>exact ⟨x,H2,I2,r1,q1⟩
theorem jkU {rest:List Expr}{sa sb:TE}(ha:PE X a sa)(hb:PE X (.BoolOp .Or (b::rest) pos) sb):PE X (.BoolOp .Or (a::b::rest) pos) (fun σ H Q=>sa σ H fun x H1=>∃ k,TruV X.K x H1 k/\if k=true then Q x H1 else sb σ H1 Q):=by
 intro pins s σ H Q I h
 refine PyProof.Rows.BoolOp_or (thn (ha pins s σ H _ I h) fun v s1 ⟨x,H1,I1,r1,k,hk,q1⟩=>?_)
 refine thn (jeT pins s1 σ H1 x v (fun c H2=>c=k/\H2=H1) I1 r1 ⟨k,hk,rfl,rfl⟩) fun c s2 ⟨H2,I2,e1,e2⟩=>?_
 subst e1 e2
 cases c with
 | true=>exact ⟨x,H2,I2,r1,q1⟩
 | false=>exact hb pins s2 σ H2 Q I2 q1
theorem jmK {rest:List Expr}(ha:PE X a (lE X ta))(hb:PE X (.BoolOp .And (b::rest) pos) (lE X tb)):PE X (.BoolOp .And (a::b::rest) pos) (lE X fun ς G Q E=>ta ς G (fun x G1=>truU x G1 fun c=>if c=true then tb ς G1 Q E else Q x G1) E):=by
 refine (jjc ha hb).imp fun σ H Q0 h=>?_
 obtain ⟨ς,G,Q,E,hς,hG,h,lv,lx⟩:=h
 refine ⟨ς,G,_,E,hς,hG,h,fun x v G1 H1 rx hG1 f1 h1=>?_,lx⟩
 obtain ⟨k,h2,h3⟩:=jdl rx hG1 h1
 refine ⟨k,h2,?_⟩
 cases k with
 | true=>rw [if_pos rfl] at h3 ⊢; exact ⟨ς,G1,Q,E,hς.ts (f1.ts hG),hG1,h3,lv.fr f1,lx.fr f1⟩
 | false=>rw [if_neg Bool.false_ne_true] at h3 ⊢; exact (lv.fr f1).here rx hG1 h3
theorem u_or {rest:List Expr}(ha:PE X a (lE X ta))(hb:PE X (.BoolOp .Or (b::rest) pos) (lE X tb)):PE X (.BoolOp .Or (a::b::rest) pos) (lE X fun ς G Q E=>ta ς G (fun x G1=>truU x G1 fun c=>if c=true then Q x G1 else tb ς G1 Q E) E):=by
 refine (jkU ha hb).imp fun σ H Q0 h=>?_
 obtain ⟨ς,G,Q,E,hς,hG,h,lv,lx⟩:=h
 refine ⟨ς,G,_,E,hς,hG,h,fun x v G1 H1 rx hG1 f1 h1=>?_,lx⟩
 obtain ⟨k,h2,h3⟩:=jdl rx hG1 h1
 refine ⟨k,h2,?_⟩
 cases k with
 | true=>rw [if_pos rfl] at h3 ⊢; exact (lv.fr f1).here rx hG1 h3
 | false=>rw [if_neg Bool.false_ne_true] at h3 ⊢; exact ⟨ς,G1,Q,E,hς.ts (f1.ts hG),hG1,h3,lv.fr f1,lx.fr f1⟩
theorem jmy (ha:PE X a (lE X ta)):PE X (.UnaryOp .Not a pos) (lE X fun ς G Q E=>ta ς G (fun x G1=>truU x G1 fun b=>Q (.bl (!b)) G1) E):=by
 intro pins s σ H Q0 I h
 obtain ⟨ς,G,Q,E,hς,hG,h,lv,lx⟩:=h
 refine PyProof.Rows.UnaryOp_ (thn (ha pins s σ H (fun v H1=>∃ k,TruV X.K v H1 k/\Q0 (.bl (!k)) H1) I ⟨ς,G,_,E,hς,hG,h,fun x v G1 H1 rx hG1 f1 h1=>?_,lx⟩) fun v s1 ⟨x,H1,I1,r1,k,hk,q1⟩=>?_)
 ·obtain ⟨k,h2,h3⟩:=jdl rx hG1 h1
  exact ⟨k,h2,(lv.fr f1).bl hG1 h3⟩
 ·refine PyProof.Rows.not_of (thn (jeT pins s1 σ H1 x v (fun c H2=>c=k/\H2=H1) I1 r1 ⟨k,hk,rfl,rfl⟩) fun c s2 ⟨H2,I2,e1,e2⟩=>?_)
  subst e1 e2
  exact ⟨.bl (!c),H2,I2,rfl,q1⟩
theorem jj9 (hc:PT X c (lT X tA)){tC:UT}(ha:PT X a (lT X tB))(hb:PT X b (lT X tC)):PT X (.IfExp c a b pos) (lT X fun ς G Q E=>tA ς G (fun t G1=>if t=true then tB ς G1 Q E else tC ς G1 Q E) E):=by
 intro pins s σ H Q0 I h
 obtain ⟨ς,G,Q,E,hς,hG,h,lv,lx⟩:=h
 show wpAny _ _ (do if <- isTrue c X.env (eval c X.env) then isTrue a X.env (eval a X.env) else isTrue b X.env (eval b X.env)) _ _ s
 refine wpAny_bind (thn (hc pins s σ H (fun t H1=>∃ G1,HR X.K H1 G1/\Fr H G H1 G1/\if t=true then tB ς G1 Q E else tC ς G1 Q E) I ⟨ς,G,_,E,hς,hG,h,fun t G1 H1 hG1 f1 h1=>⟨G1,hG1,f1,h1⟩,lx⟩) fun t s1 ⟨H1,I1,G1,hG1,f1,h1⟩=>?_)
 cases t with
 | true=>exact ha pins s1 σ H1 Q0 I1 ⟨ς,G1,Q,E,hς.ts (f1.ts hG),hG1,h1,fun b G2 H2 hG2 f2 h2=>lv b G2 H2 hG2 (f1.trans f2) h2,lx.fr f1⟩
 | false=>exact hb pins s1 σ H1 Q0 I1 ⟨ς,G1,Q,E,hς.ts (f1.ts hG),hG1,h1,fun b G2 H2 hG2 f2 h2=>lv b G2 H2 hG2 (f1.trans f2) h2,lx.fr f1⟩
theorem jj7 (ha:PT X a (lT X tA)):PT X (.UnaryOp .Not a pos) (lT X fun ς G Q E=>tA ς G (fun b G1=>Q (!b) G1) E):=by
 refine (jkH ha).imp fun σ H Q0 h=>?_
 obtain ⟨ς,G,Q,E,hς,hG,h,lv,lx⟩:=h
 exact ⟨ς,G,_,E,hς,hG,h,fun b G1 H1 hG1 f1 h1=>lv (!b) G1 H1 hG1 f1 h1,lx⟩
theorem jkf {rest:List Expr}(ha:PT X a (lT X tA))(hb:PW X (.BoolOp .And (b::rest) pos) (lT X tB)):PW X (.BoolOp .And (a::b::rest) pos) (lT X fun ς G Q E=>tA ς G (fun c G1=>if c=true then tB ς G1 Q E else Q false G1) E):=by
 refine (pw_and ha hb).imp fun σ H Q0 h=>?_
 obtain ⟨ς,G,Q,E,hς,hG,h,lv,lx⟩:=h
 refine ⟨ς,G,_,E,hς,hG,h,fun c G1 H1 hG1 f1 h1=>?_,lx⟩
 cases c with
 | false=>rw [if_neg Bool.false_ne_true] at h1 ⊢; exact lv false G1 H1 hG1 f1 h1
 | true=>rw [if_pos rfl] at h1 ⊢; exact ⟨ς,G1,Q,E,hς.ts (f1.ts hG),hG1,h1,fun b G2 H2 hG2 f2 h2=>lv b G2 H2 hG2 (f1.trans f2) h2,lx.fr f1⟩
theorem jmx {rest:List Expr}(ha:PT X a (lT X tA))(hb:PW X (.BoolOp .Or (b::rest) pos) (lT X tB)):PW X (.BoolOp .Or (a::b::rest) pos) (lT X fun ς G Q E=>tA ς G (fun c G1=>if c=true then Q true G1 else tB ς G1 Q E) E):=by
 refine (pw_or ha hb).imp fun σ H Q0 h=>?_
 obtain ⟨ς,G,Q,E,hς,hG,h,lv,lx⟩:=h
 refine ⟨ς,G,_,E,hς,hG,h,fun c G1 H1 hG1 f1 h1=>?_,lx⟩
 cases c with
 | true=>rw [if_pos rfl] at h1 ⊢; exact lv true G1 H1 hG1 f1 h1
 | false=>rw [if_neg Bool.false_ne_true] at h1 ⊢; exact ⟨ς,G1,Q,E,hς.ts (f1.ts hG),hG1,h1,fun b G2 H2 hG2 f2 h2=>lv b G2 H2 hG2 (f1.trans f2) h2,lx.fr f1⟩
theorem jmF (hc:PT X c (lT X tA))(ha:PE X a (lE X ta))(hb:PE X b (lE X tb)):PE X (.IfExp c a b pos) (lE X fun ς G Q E=>tA ς G (fun t G1=>if t=true then ta ς G1 Q E else tb ς G1 Q E) E):=by
 refine (jhr hc ha hb).imp fun σ H Q0 h=>?_
 obtain ⟨ς,G,Q,E,hς,hG,h,lv,lx⟩:=h
 refine ⟨ς,G,_,E,hς,hG,h,fun c G1 H1 hG1 f1 h1=>?_,lx⟩
 cases c with
 | true=>rw [if_pos rfl] at h1 ⊢; exact ⟨ς,G1,Q,E,hς.ts (f1.ts hG),hG1,h1,lv.fr f1,lx.fr f1⟩
 | false=>rw [if_neg Bool.false_ne_true] at h1 ⊢; exact ⟨ς,G1,Q,E,hς.ts (f1.ts hG),hG1,h1,lv.fr f1,lx.fr f1⟩
end
end Z

namespace L2
open PySem PySem.Spec PyProof.Rows
set_option maxHeartbeats 4000000
section
variable {X:Cx}{e st:Expr}{te tst:TE}{pos p2:Pos}
end
end L2
namespace Z
open PySem L2
set_option maxHeartbeats 4000000
section
variable {X:Cx}{pos:Pos}{a b e:Expr}{es:List Expr}{ta tb te:UE}{ts:UA}
theorem jfq:PA X [] (lA X fun _ G Q _=>Q [] G):=by
 refine jkZ.imp fun σ H Q0 h=>?_
 obtain ⟨ς,G,Q,E,hς,hG,h,lv,lx⟩:=h
 exact lv [] [] G H rfl hG (Fr.refl _ _) h
theorem jcZ (ha:PE X e (lE X te))(hr:PA X es (lA X ts))(hs:starEach (e::es) X.env=(false,eval e X.env)::starEach es X.env):PA X (e::es) (lA X fun ς G Q E=>te ς G (fun x G1=>ts ς G1 (fun xs G2=>Q (x::xs) G2) E) E):=by
 refine (jjd ha hr hs).imp fun σ H Q0 h=>?_
 obtain ⟨ς,G,Q,E,hς,hG,h,lv,lx⟩:=h
 refine ⟨ς,G,_,E,hς,hG,h,fun x v G1 H1 rx hG1 f1 h1=>?_,lx⟩
 refine ⟨ς,G1,_,E,hς.ts (f1.ts hG),hG1,h1,fun xs vs G2 H2 rxs hG2 f2 h2=>?_,lx.fr f1⟩
 exact lv (x::xs) (v::vs) G2 H2 ⟨v,vs,rfl,rx.ts (f2.ts hG1),rxs⟩ hG2 (f1.trans f2) h2
theorem jmt {k}(h:PA X es (lA X ts)):PE X (.Tuple es k pos) (lE X fun ς G Q E=>ts ς G (fun us G1=>us.length<=sizeLine/\Q (.tup us) G1) E):=
 (jkS h).imp fun σ H Q0 h=>lE.many h fun us vs G H' Q r hG q lv=>⟨by rw [<- r.length]; exact q.1,fun p hp=>lv.tup hp r hG q.2⟩
theorem jmD (h:PA X es (lA X ts)):PE X (.List es pos) (lE X fun ς G Q E=>ts ς G (fun us G1=>us.length<=sizeLine/\newO G1 (.lst us) Q) E):=
 (jkW h).imp fun σ H Q0 h=>lE.many h fun us vs G H' Q r hG q lv=>⟨by rw [<- r.length]; exact q.1,fun p hp=>lv.lst hp r hG q.2⟩
noncomputable def rDix:R2:=fun x y H Q=>∃ a v,x=.ref a/\DGet H a y (some v)/\Q v H
theorem jjC (hu:X.A.units + 1 < cLine):IxR X rDix:=by
 intro value slice pins s σ H x y v u Q I rx ry h hs
 obtain ⟨a,w,rfl,g,q⟩:=h
 cases rx
 exact PyProof.Rows.tail_any (jeI I g) PySem.F.slot_dict_getitem.lookup (jgY hu I g ry fun w' s3 I3 rw'=>⟨w,H,I3,rw',q⟩) hs
theorem jij {H:Hp}{G:Gp}{y:U}{v':V}{Q:K1}{Q0:VK}{a:Addr}{xs:List U}{vs:List V}(h:match y with | .int i=>(match atI xs i with | some u=>Q u G | none=>False) | _=>False)
  (ry:RU X.K H y v') (hG:HR X.K H G) (lv:LV X H G Q Q0) (sq:SqL X.K H a vs) (rs:RUs X.K H xs vs):rIx X.K (.ref a) v' H Q0:=by
 cases y with
 | int i=>
  cases ry
  dsimp only at h
  split at h
  ·rename_i u e
   obtain ⟨w,e2,r⟩:=rs.atI e
   exact .inl ⟨_,vs,_,w,rfl,rfl,sq,e2,lv.here r hG h⟩
  ·exact h.elim
 | _=>exact h.elim
theorem jlE {H:Hp}{G:Gp}{x y:U}{v v':V}{Q:K1}{Q0:VK}(rx:RU X.K H x v)(ry:RU X.K H y v')(hG:HR X.K H G)(h:ixU x y G Q)(lv:LV X H G Q Q0):rIx X.K v v' H Q0\/rDix v v' H Q0:=by
 unfold ixU at h
 split at h
 ·obtain ⟨a,vs,rfl,e,rs⟩:=rx
  cases ry
  split at h
  ·rename_i u e1
   obtain ⟨w,e2,r⟩:=rs.atI e1
   exact .inl (.inr (.inl ⟨a,vs,_,w,rfl,rfl,.of e,e2,lv.here r hG h⟩))
  ·exact h.elim
 ·cases rx; cases ry
  obtain ⟨h1,h⟩:=h
  split at h
  ·rename_i c e1
   exact .inl (.inr (.inr ⟨_,_,c,rfl,rfl,h1,e1,lv.str hG h⟩))
  ·exact h.elim
 ·cases rx
  split at h
  ·rename_i g
   obtain ⟨vs,e,rs⟩:=hG.lst g
   exact .inl (jij h ry hG lv (.of e) rs)
  ·rename_i g
   obtain ⟨ob,vs,e,rs⟩:=hG _ _ g
   exact .inl (jij h ry hG lv (.inl (.inr ⟨ob,e⟩)) rs)
  ·rename_i kvs g
   obtain ⟨l,e,rs⟩:=hG _ _ g
   split at h
   ·rename_i k ek
    have:=jgD ry ek
    subst this
    split at h
    ·rename_i u eu
     have:=jdk k rs
     rw [eu] at this
     obtain ⟨w,e2,r⟩:=this
     exact .inr ⟨_,w,rfl,by rw [<- e2]; exact DGet.k e,lv.here r hG h⟩
    ·exact h.elim
   ·exact h.elim
  ·rename_i kvs g
   obtain ⟨l,e,rs⟩:=hG _ _ g
   split at h
   ·rename_i ys
    obtain ⟨b,bs,rfl,eb,rb⟩:=ry
    split at h
    ·rename_i k ek
     have:=je8 rb ek
     subst this
     split at h
     ·rename_i u eu
      have:=jdk k rs
      rw [eu] at this
      obtain ⟨w,e2,r⟩:=this
      exact .inr ⟨_,w,rfl,by rw [<- e2]; exact DGet.t e eb,lv.here r hG h⟩
     ·exact h.elim
    ·exact h.elim
   ·exact h.elim
  ·exact h.elim
 ·exact h.elim
theorem u_ix (hu:X.A.units + 1 < cLine)(ha:PE X a (lE X ta))(hb:PE X b (lE X tb))(hs:jeO b):PE X (.Subscript a b pos) (lE X fun ς G Q E=>ta ς G (fun x G1=>tb ς G1 (fun y G2=>ixU x y G2 Q) E) E):=
 (jm6 ((jlD (X:=X)).or (jjC hu)) ha hb hs).imp fun σ H Q0 h=>lE.two h fun x y v v' G H' Q rx ry hG q lv=>jlE rx ry hG q lv
theorem u_no:PO X none (lO X fun _ G Q _=>Q none G):=ji0.imp fun σ H Q0 h=>by
 obtain ⟨ς,G,Q,E,hς,hG,h,lv,lx⟩:=h
 exact lv none G H hG (Fr.refl _ _) h
theorem u_so (ha:PE X e (lE X te)):PO X (some e) (lO X fun ς G Q E=>te ς G (fun x G1=>match x with | .int i=>Q (some i) G1 | _=>False) E):=(jiZ ha).imp fun σ H Q0 h=>by
 obtain ⟨ς,G,Q,E,hς,hG,h,lv,lx⟩:=h
 refine ⟨ς,G,_,E,hς,hG,h,fun x v G1 H1 rx hG1 f1 h1=>?_,lx⟩
 dsimp only at h1
 split at h1
 ·cases rx
  exact ⟨_,rfl,lv _ G1 H1 hG1 f1 h1⟩
 ·exact h1.elim
theorem u_sl {lo hi:Option Expr}{p2:Pos}{tl th:Sg->Gp->(Option Int->Gp->Prop)->KX->Prop}(ha:PE X e (lE X te))(hl:PO X lo (lO X tl))(hh:PO X hi (lO X th)) :
  PE X (.Subscript e (.Slice lo hi none p2) pos) (lE X fun ς G Q E=>te ς G (fun x G1=>tl ς G1 (fun l G2=>th ς G2 (fun h G3=>slU x l h G3 Q) E) E) E):=by
 refine (jhq (SlR.or (jiL (X:=X)) (SlR.or jiM jkp)) ha hl hh).imp fun σ H Q0 h=>?_
 obtain ⟨ς,G,Q,E,hς,hG,h,lv,lx⟩:=h
 refine ⟨ς,G,_,E,hς,hG,h,fun x v G1 H1 rx hG1 f1 h1=>?_,lx⟩
 refine ⟨ς,G1,_,E,hς.ts (f1.ts hG),hG1,h1,fun l G2 H2 hG2 f2 h2=>?_,lx.fr f1⟩
 refine ⟨ς,G2,_,E,(hς.ts (f1.ts hG)).ts (f2.ts hG1),hG2,h2,fun u G3 H3 hG3 f3 h3=>?_,lx.fr (f1.trans f2)⟩
 have lv3:=lv.fr ((f1.trans f2).trans f3)
 have rx3:=rx.ts (fun a xs e=>(f3.ts hG2) a xs ((f2.ts hG1) a xs e))
 unfold slU at h3
 split at h3
 ·obtain ⟨a,vs,rfl,ea,rs⟩:=rx3
  by_cases z:HT.sIx vs.length 0 l=0/\HT.sIx vs.length vs.length u=vs.length
  ·refine .inl (.inr ⟨a,vs,rfl,.of ea,z,?_⟩)
   refine lv3.here (w:=.tup _) ⟨a,vs,rfl,ea,?_⟩ hG3 h3
   have e2:cutV vs l u=vs:=by unfold cutV; rw [z.1,z.2]; simp
   have:=rs.cut l u
   rw [e2] at this
   exact this
  ·exact .inl (.inl ⟨a,vs,rfl,.of ea,z,fun p hp=>lv3.tup hp (rs.cut l u) hG3 h3⟩)
 ·cases rx3
  exact .inr (.inr ⟨_,rfl,h3.1,lv3.str hG3 h3.2⟩)
 ·cases rx3
  split at h3
  ·rename_i us eu
   obtain ⟨vs,sq,rs⟩:=hG3.ls eu
   exact .inr (.inl ⟨_,vs,rfl,sq,fun p hp=>lv3.lst hp (rs.cut l u) hG3 h3⟩)
  ·exact h3.elim
 ·exact h3.elim
end
end Z

namespace L2
open PySem PySem.Spec PyProof.Rows
set_option maxHeartbeats 4000000
section
variable {X:Cx}
end
end L2
namespace Z
open PySem L2
set_option maxHeartbeats 4000000
noncomputable def bltN:Blt->Str
 | .len => "len" | .repr => "repr" | .min => "min" | .max => "max" | .sum => "sum" | .all => "all" | .any => "any" | .sorted => "sorted" | .int => "int" | .str => "str" | .isi => "isinstance"
noncomputable def bltV:Blt->Value
 | .len=>.builtin "len" | .repr=>.builtin "repr" | .min=>.builtin "min" | .max=>.builtin "max" | .sum=>.builtin "sum" | .all=>.builtin "all" | .any=>.builtin "any" | .sorted=>.builtin "sorted" | .int=>.type "int" | .str=>.type "str" | .isi=>.builtin "isinstance"
section
variable {X:Cx}
theorem RUs.one {K:PySem.W.Frag}{H:Hp}{u:U}{vs:List V}(r:RUs K H [u] vs):∃ v,vs=[v]/\RU K H u v:=by
 obtain ⟨v,vr,rfl,r1,rs⟩:=r
 cases rs
 exact ⟨v,rfl,r1⟩
theorem RUs.two {K:PySem.W.Frag}{H:Hp}{u w:U}{vs:List V}(r:RUs K H [u,w] vs):∃ v v',vs=[v,v']/\RU K H u v/\RU K H w v':=by
 obtain ⟨v,vr,rfl,r1,rs⟩:=r
 obtain ⟨v',rfl,r2⟩:=rs.one
 exact ⟨v,v',rfl,r1,r2⟩
theorem jjy (K:PySem.W.Frag):∀ t∈["NoneType", "bool", "int", "str", "list", "tuple", "dict"],∀ c∈["bool", "int", "str", "list", "tuple", "dict"],PySem.W.kitOne K (.type t) (.type c)=some (t == c || (t == "bool" && c == "int")):=by
 simp only [List.forall_mem_cons,List.not_mem_nil,false_implies,implies_true,and_true]
 refine ⟨?_,?_,?_,?_,?_,?_,?_⟩ <;> refine ⟨?_,?_,?_,?_,?_,?_⟩ <;> rfl
theorem jiE {x:U}{G:Gp}{n:String}(h:tyN x G=some n):n∈["NoneType", "bool", "int", "str", "list", "tuple", "dict"]:=by
 unfold tyN at h
 split at h <;> first | (cases h; decide) | (split at h <;> first | (cases h; decide) | cases h) | cases h
theorem jjD {H:Hp}{G:Gp}{x:U}{v:V}{t:String}{b:Bool}(r:RU X.K H x v)(hG:HR X.K H G)(h:isiU x G t=some b):∃ tv,TyOf X.K H v tv/\PySem.W.kitOne X.K tv (.type t)=some b:=by
 unfold isiU at h
 split at h
 ·rename_i n en
  split at h
  ·rename_i ht
   cases h
   refine ⟨.type n,?_,jjy X.K n (jiE en) t ht⟩
   unfold tyN at en
   split at en
   ·cases en; cases r; exact .non
   ·cases en; cases r; exact .bl _
   ·cases en; cases r; exact .int _
   ·cases en; cases r; exact .str _
   ·cases en; obtain ⟨a,ws,rfl,e,_⟩:=r; exact .tup e
   ·cases r
    split at en
    ·rename_i g; cases en; obtain ⟨ws,e,_⟩:=hG.lst g; exact .lst e
    ·rename_i g; cases en; obtain ⟨ws,e,_⟩:=hG _ _ g; exact .dK e
    ·rename_i g; cases en; obtain ⟨ws,e,_⟩:=hG _ _ g; exact .dT e
    ·cases en
   ·cases en
  ·cases h
 ·cases h
noncomputable def BlU (X:Cx)(b:Blt):Prop:=∃ r,ja5 X (bltV b) r/\∀ us vs G H Q Q0,RUs X.K H us vs->HR X.K H G->bltU b us G Q->LV X H G Q Q0->r vs H Q0
theorem jlT {k:Nat}(hr:Room k X.A)(hc:X.calm=true)(b:Blt):BlU X b:=by
 cases b with
 | len=>
  refine ⟨_,ja5.or (jhR (X:=X)) jg2,fun us vs G H Q Q0 r hG h lv=>?_⟩
  change lenU us G Q at h
  unfold lenU at h
  split at h <;> first | exact h.elim | skip
  ·obtain ⟨v,rfl,r1⟩:=r.one
   obtain ⟨a,ws,rfl,e,rs⟩:=r1
   exact .inl ⟨_,_,rfl,.inr ⟨ws,.of e,rfl⟩,by rw [<- rs.length]; exact lv.int hG h⟩
  ·obtain ⟨v,rfl,r1⟩:=r.one
   cases r1
   exact .inl ⟨_,_,rfl,⟨h.1,rfl⟩,lv.int hG h.2⟩
  ·obtain ⟨v,rfl,r1⟩:=r.one
   cases r1
   split at h
   ·rename_i g
    obtain ⟨ws,e,rs⟩:=hG.lst g
    exact .inl ⟨_,_,rfl,.inl ⟨ws,.of e,rfl⟩,by rw [<- rs.length]; exact lv.int hG h⟩
   ·rename_i g
    obtain ⟨ob,ws,e,rs⟩:=hG _ _ g
    exact .inl ⟨_,_,rfl,.inl ⟨ws,.inl (.inr ⟨ob,e⟩),rfl⟩,by rw [<- rs.length]; exact lv.int hG h⟩
   ·rename_i kvs g
    obtain ⟨l,e,rs⟩:=hG _ _ g
    refine .inr ⟨_,l,rfl,e,?_⟩
    have:∀ {kvs:List (Key×U)} {l:List (Key×V)},RKs X.K H kvs l->kvs.length=l.length:=by
     intro kvs
     induction kvs with
     | nil=>intro l r; cases r; rfl
     | cons p q ih=>intro l r; obtain ⟨v,l',rfl,_,rs⟩:=r; simp [ih rs]
    rw [<- this rs]
    exact lv.int hG h
   ·exact h.elim
 | repr=>
  refine ⟨_,jfO hr,fun us vs G H Q Q0 r hG h lv=>?_⟩
  change jdO us G Q at h
  unfold jdO at h
  split at h <;> first | exact h.elim | skip
  obtain ⟨v,rfl,r1⟩:=r.one
  obtain ⟨d,h1,h2,h3⟩:=h
  exact ⟨v,d,rfl,h1.dv hG r1,h2,lv.str hG h3⟩
 | min=>
  refine ⟨_,jg1 hc,fun us vs G H Q Q0 r hG h lv=>?_⟩
  change minU us G Q at h
  unfold minU at h
  split at h <;> first | exact h.elim | skip
  obtain ⟨v,v',rfl,r1,r2⟩:=r.two
  cases r1; cases r2
  exact ⟨_,_,rfl,lv.int hG h⟩
 | max=>exact ⟨fun _ _ _=>False,fun _ _ _ _ _ _ _ _ _ h=>h.elim,fun _ _ _ _ _ _ _ _ h _=>h.elim⟩
 | sum=>exact ⟨fun _ _ _=>False,fun _ _ _ _ _ _ _ _ _ h=>h.elim,fun _ _ _ _ _ _ _ _ h _=>h.elim⟩
 | any=>exact ⟨fun _ _ _=>False,fun _ _ _ _ _ _ _ _ _ h=>h.elim,fun _ _ _ _ _ _ _ _ h _=>h.elim⟩
 | all=>exact ⟨fun _ _ _=>False,fun _ _ _ _ _ _ _ _ _ h=>h.elim,fun _ _ _ _ _ _ _ _ h _=>h.elim⟩
 | sorted=>
  refine ⟨_,jel hc (by have:=hr.un; omega),fun us vs G H Q Q0 r hG h lv=>?_⟩
  change jba us G Q at h
  unfold jba at h
  split at h <;> first | exact h.elim | skip
  obtain ⟨v,rfl,r1⟩:=r.one
  cases r1
  split at h <;> first | exact h.elim | skip
  rename_i us g
  obtain ⟨ws,e,rs⟩:=hG.lst g
  obtain ⟨ks,hnd,h64,hl,hk,q⟩:=h
  refine ⟨_,ws,ks,rfl,.inl (.of e),by rw [<- rs.length]; exact hl,hnd,by rw [<- rs.length]; exact h64,?_,fun l π hn hp hs=>?_⟩
  ·rcases hk with ⟨ns,rfl,rfl⟩ | ⟨as,rfl,hk⟩ | ⟨rfl,hk⟩
   ·refine .inl fun i v k e1 e2=>?_
    rw [List.getElem?_map] at e2
    cases en:ns[i]? with
    | none=>rw [en] at e2; cases e2
    | some n=>
     rw [en] at e2; cases e2
     obtain ⟨v',e3,r3⟩:=rs.get (i:=i) (u:=.int n) (by rw [List.getElem?_map,en]; rfl)
     rw [e1] at e3; cases e3
     exact ⟨n,r3,rfl⟩
   ·refine .inr (.inl fun i v k e1 e2=>?_)
    have hi:i < as.length:=by
     have:=(List.getElem?_eq_some_iff.mp e1).1
     rw [<- rs.length,List.length_map] at this; exact this
    obtain ⟨v',e3,r3⟩:=rs.get (i:=i) (u:=.loc as[i]) (by rw [List.getElem?_map,List.getElem?_eq_getElem hi]; rfl)
    rw [e1] at e3; cases e3
    obtain ⟨ws2,e4,r4⟩:=hG.lst (hk i _ k (List.getElem?_eq_getElem hi) e2)
    rw [jdu r4] at e4
    exact ⟨as[i],r3,.inl (.of e4)⟩
   ·refine .inr (.inr fun i v k e1 e2=>⟨?_,hk k (List.mem_of_getElem? e2)⟩)
    obtain ⟨v',e3,r3⟩:=rs.get (i:=i) (u:=.tup (k.map .int)) (by rw [List.getElem?_map,e2]; rfl)
    rw [e1] at e3; cases e3
    obtain ⟨t,ws2,rfl,et,rt⟩:=r3
    rw [jdu rt] at et
    exact ⟨t,rfl,.of et⟩
  ·rw [<- rs.length] at hp hs
   refine lv.lst hn ?_ hG (q π hp hs)
   have:∀ l:List Nat,(∀ i∈l,i < us.length)->RUs X.K H (l.map fun i=>us.getD i .non) (l.map fun i=>ws.getD i .non):=fun l=>by
    induction l with
    | nil=>intro _; rfl
    | cons i l ih=>
     intro hl'
     have hi:=hl' i (by simp)
     obtain ⟨v',e3,r3⟩:=rs.get (List.getElem?_eq_getElem hi)
     refine ⟨_,_,rfl,?_,ih fun j hj=>hl' j (List.mem_cons_of_mem _ hj)⟩
     refine (?_:RU X.K H (us.getD i .non) (ws.getD i .non))
     rw [List.getD_eq_getElem?_getD,List.getElem?_eq_getElem hi,List.getD_eq_getElem?_getD,e3]
     exact r3
   exact this π fun i hi=>List.mem_range.mp (hp.mem_iff.mp hi)
 | int=>
  refine ⟨_,jg3,fun us vs G H Q Q0 r hG h lv=>?_⟩
  change intU us G Q at h
  unfold intU at h
  split at h <;> first | exact h.elim | skip
  ·obtain ⟨v,rfl,r1⟩:=r.one
   cases r1
   exact .inl ⟨_,rfl,lv.int hG h⟩
  ·obtain ⟨v,rfl,r1⟩:=r.one
   cases r1
   exact .inr ⟨_,rfl,lv.int hG h⟩
 | str=>exact ⟨fun _ _ _=>False,fun _ _ _ _ _ _ _ _ _ h=>h.elim,fun _ _ _ _ _ _ _ _ h _=>h.elim⟩
 | isi=>
  refine ⟨_,jeK,fun us vs G H Q Q0 r hG h lv=>?_⟩
  change jfI us G Q at h
  unfold jfI at h
  split at h <;> first | exact h.elim | skip
  rename_i t
  obtain ⟨v,v',rfl,r1,r2⟩:=r.two
  cases r2
  split at h
  ·rename_i b eb
   obtain ⟨tv,h1,h2⟩:=jjD r1 hG eb
   exact ⟨v,t,tv,b,rfl,h1,h2,lv.bl hG h⟩
  ·exact h.elim
theorem jhS (b:Blt):bootBuiltins (bltN b)=some (bltV b):=by
 cases b with
 | len=>exact PySem.boot_len
 | repr=>exact (by with_unfolding_all rfl)
 | min=>exact PyProof.Rows.boot_min
 | max=>exact PyProof.Rows.boot_max
 | sum=>exact PyProof.Rows.boot_sum
 | any=>exact PyProof.Rows.boot_any
 | all=>exact PyProof.Rows.boot_all
 | sorted=>exact PyProof.Rows.boot_sorted
 | int=>exact PyProof.Rows.boot_int
 | str=>exact PyProof.Rows.boot_str
 | isi=>exact PyProof.Rows.boot_isinstance
theorem jlU (b:Blt):bltN b ≠ "__name__" /\ (bltN b == ("__debug__" : Str))=false:=by cases b <;> decide
theorem jmI {b:Blt}{e:Expr}{es:List Expr}{ts:UA}{p pos:Pos}(hb:BlU X b)(hg:Gl X (bltN b))(hm:X.mg (bltN b)=none)(ha:PA X (e::es) (lA X ts))
  (he:starEach (e::es) X.env=(false,eval e X.env)::starEach es X.env) (hpl:(backTo pos (starEach es X.env)).any (·.1)=false) :
  PE X (.Call (.Name (bltN b) p) (e::es) [] pos) (lE X fun ς G Q E=>ts ς G (fun us G1=>bltU b us G1 Q) E):=by
 obtain ⟨r,h1,h2⟩:=hb
 have fin:∀ σ H Q0,lE X (fun ς G Q E=>ts ς G (fun us G1=>bltU b us G1 Q) E) σ H Q0->tCB r (lA X ts) σ H Q0:=fun σ H Q0 h=>lE.many h fun us vs G H' Q rs hG q lv=>h2 us vs G H' Q Q0 rs hG q lv
 have hv:=jhS b
 obtain ⟨n1,n2⟩:=jlU b
 cases b
 all_goals first
  | exact (jhu h1 hg hm hv ha n1 n2 he hpl).imp fin
  | exact (jbO h1 hg hm hv ha n1 n2 he hpl).imp fin
end
noncomputable def mthN:Mth->Str
 | .append => "append" | .extend => "extend" | .insert => "insert" | .pop => "pop" | .reverse => "reverse" | .index => "index" | .join => "join" | .get => "get"
section
variable {X:Cx}
theorem RUs.mk {K:PySem.W.Frag}{H:Hp}{u:U}{v:V}{us:List U}{vs:List V}(r:RU K H u v)(rs:RUs K H us vs):RUs K H (u::us) (v::vs):=⟨v,vs,rfl,r,rs⟩
structure MtK (X:Cx)(m:Mth)(T id:String):Prop where
 pa:PlainAttrs T
 sl:Slot T (mthN m) id
 ty:typeOf (.builtin id)=pure (.type "method_descriptor")
noncomputable def MtU (X:Cx)(m:Mth):Prop:=∀ x G1 T id,mtU m x G1=some (T,id)->MtK X m T id/\(∀ v H1,RU X.K H1 x v->HR X.K H1 G1->tyV X.K T v H1)/\
 ∃ r,MtR X id r/\∀ us v vs G H Q Q0,RU X.K H x v->RUs X.K H us vs->HR X.K H G->jaO m x us G Q->LV X H G Q Q0->r v vs H Q0
theorem jfU {a:Addr}{G:Gp}{us:List U}(g:G a=some (.lst us)):∀ v H1,RU X.K H1 (.loc a) v->HR X.K H1 G->tyV X.K "list" v H1:=fun v H1 r hG=>by
 cases r
 obtain ⟨vs,e,_⟩:=hG.lst g
 exact .inl ⟨rfl,vs,.of e⟩
theorem jgs:MtU X .append:=by
 intro x G1 T id h
 dsimp only [mtU] at h
 split at h <;> first | contradiction | skip
 split at h
 ·rename_i g
  cases h
  refine ⟨⟨PySem.F.plainAttrs_list,PySem.F.slot_list_append,PySem.F.type_list_append⟩,jfU g,_,jd4,fun us v vs G H Q Q0 rx rs hG h lv=>?_⟩
  cases rx
  dsimp only [jaO] at h
  unfold jeM at h
  split at h <;> first | exact h.elim | skip
  rename_i e2
  cases e2
  split at h
  ·rename_i g2
   obtain ⟨ws,e,r⟩:=hG.lst g2
   obtain ⟨y,rfl,ry⟩:=rs.one
   refine ⟨_,ws,y,rfl,rfl,e,by rw [<- r.length]; exact h.1,?_⟩
   exact lv.wl g2 (r.append (RUs.mk (us:=[]) (vs:=[]) ry rfl)) hG (w:=.non) rfl h.2
  ·exact h.elim
 ·cases h
theorem jgr:MtU X .extend:=by
 intro x G1 T id h
 dsimp only [mtU] at h
 split at h <;> first | contradiction | skip
 split at h
 ·rename_i g
  cases h
  refine ⟨⟨PySem.F.plainAttrs_list,PySem.F.slot_list_extend,PySem.F.type_list_extend⟩,jfU g,_,jgu,fun us v vs G H Q Q0 rx rs hG h lv=>?_⟩
  cases rx
  dsimp only [jaO] at h
  unfold jeF at h
  split at h <;> first | exact h.elim | skip
  rename_i e2
  cases e2
  split at h
  ·rename_i g2 g3
   obtain ⟨ws,e,r⟩:=hG.lst g2
   obtain ⟨zs,e',r'⟩:=hG.lst g3
   obtain ⟨y,rfl,ry⟩:=rs.one
   cases ry
   refine ⟨_,_,ws,zs,rfl,rfl,e,e',by rw [<- r.length,<- r'.length]; exact h.1,?_⟩
   exact lv.wl g2 (r.append r') hG (w:=.non) rfl h.2
  ·exact h.elim
 ·cases h
theorem jgq:MtU X .insert:=by
 intro x G1 T id h
 dsimp only [mtU] at h
 split at h <;> first | contradiction | skip
 split at h
 ·rename_i g
  cases h
  refine ⟨⟨PySem.F.plainAttrs_list,PySem.F.slot_list_insert,PySem.F.type_list_insert⟩,jfU g,_,jgt,fun us v vs G H Q Q0 rx rs hG h lv=>?_⟩
  cases rx
  dsimp only [jaO] at h
  unfold jeE at h
  split at h <;> first | exact h.elim | skip
  rename_i e2
  cases e2
  split at h
  ·rename_i g2
   obtain ⟨ws,e,r⟩:=hG.lst g2
   obtain ⟨y,z,rfl,ry,rz⟩:=rs.two
   cases ry
   obtain ⟨h1,h2,h3,h4⟩:=h
   refine ⟨_,ws,_,z,rfl,rfl,e,h1,by rw [<- r.length]; exact h2,by rw [<- r.length]; exact h3,?_⟩
   exact lv.wl g2 ((r.take _).append (RUs.mk rz (r.drop _))) hG (w:=.non) rfl h4
  ·exact h.elim
 ·cases h
theorem jic (m:Mth):MtU X m:=by
 cases m with
 | append=>exact jgs
 | extend=>exact jgr
 | insert=>exact jgq
 | pop=>intro x G1 T id h; cases h
 | reverse=>intro x G1 T id h; cases h
 | index=>intro x G1 T id h; cases h
 | join=>intro x G1 T id h; cases h
 | get=>intro x G1 T id h; unfold mtU at h; split at h <;> contradiction
variable {m:Mth}{o e:Expr}{es:List Expr}{to:UE}{ts:UA}{apos cpos:Pos}
theorem jj8 (hm:MtU X m)(ho:PE X o (lE X to))(ha:PA X (e::es) (lA X ts))(hbase:attributeBase o (mthN m) X.env (eval o X.env)=eval o X.env)
  (hfew:((backTo cpos (starEach (e::es) X.env)).all (fun x=>!x.1) && (backToKw cpos (keywordEach [] X.env)).all (fun x=>x.1.isSome)
   && decide ((e::es).length + ([]:List Keyword).length + (if ([]:List Keyword).isEmpty then 0 else 1) < 30))=true)
  (hline:(apos.endLine == cpos.line)=true) (hs:starEach (e::es) X.env=(false,eval e X.env)::starEach es X.env) (hplain:(backTo cpos (starEach es X.env)).any (·.1)=false) :
  PE X (.Call (.Attribute o (mthN m) apos) (e::es) [] cpos) (lE X fun ς G Q E=>to ς G (fun x G1=>match mtU m x G1 with | some _=>ts ς G1 (fun us G2=>jaO m x us G2 Q) E | none=>False) E):=by
 intro pins s σ H Q0 I h
 obtain ⟨ς,G,Q,E,hς,hG,h,lv,lx⟩:=h
 refine PySem.wpAny_Call_method_late hbase hfew hline rfl (thn (ho pins s σ H (fun v H1=>∃ x G1 T id,RU X.K H1 x v/\HR X.K H1 G1/\Fr H G H1 G1/\mtU m x G1=some (T,id)/\ts ς G1 (fun us G2=>jaO m x us G2 Q) E) I
  ⟨ς,G,_,E,hς,hG,h,fun x v G1 H1 rx hG1 f1 h1=>?_,lx⟩) fun v s1 ⟨xv,H1,I1,r1,x,G1,T,id,rx,hG1,f1,em,h1⟩=>?_)
 ·dsimp only at h1
  split at h1
  ·rename_i p ep
   exact ⟨x,G1,p.1,p.2,rx,hG1,f1,ep,h1⟩
  ·exact h1.elim
 ·obtain ⟨k,hty,r,hr1,hr2⟩:=hm x G1 T id em
  obtain ⟨t1,t2⟩:=jhY I1 r1 (hty xv H1 rx hG1)
  refine ⟨T,id,k.pa,k.sl,k.ty,t1,t2,?_⟩
  have hA:=ha cpos pins s1 σ H1 (fun vs H2=>∃ us G2,RUs X.K H2 us vs/\HR X.K H2 G2/\Fr H1 G1 H2 G2/\jaO m x us G2 Q) I1 ⟨ς,G1,_,E,hς.ts (f1.ts hG),hG1,h1,fun us vs G2 H2 rs hG2 f2 h2=>⟨us,G2,rs,hG2,f2,h2⟩,lx.fr f1⟩
  rw [hs] at hA ⊢
  refine Calls.callWith_builtin (by show (false || (backTo cpos (starEach es X.env)).any (·.1))=false; rw [hplain] <;> rfl) (Calls.evalArgs_plain ?_)
  exact thn hA fun us s2 ⟨vs,H2,I2,r2,ws,G2,rs,hG2,f2,h2⟩=>hr1 pins s2 σ H2 xv vs v us Q0 I2 r1 r2 (hr2 ws xv vs G2 H2 Q Q0 (rx.ts (f2.ts hG1)) rs hG2 h2 (lv.fr (f1.trans f2)))
theorem jiB (hm:MtU X m)(ho:PE X o (lE X to))(hbase:attributeBase o (mthN m) X.env (eval o X.env)=eval o X.env)(hline:(apos.endLine == cpos.line)=true) :
  PE X (.Call (.Attribute o (mthN m) apos) [] [] cpos) (lE X fun ς G Q E=>to ς G (fun x G1=>match mtU m x G1 with | some _=>jaO m x [] G1 Q | none=>False) E):=by
 intro pins s σ H Q0 I h
 obtain ⟨ς,G,Q,E,hς,hG,h,lv,lx⟩:=h
 refine PySem.wpAny_Call_method0_late hbase hline (thn (ho pins s σ H (fun v H1=>∃ x G1 T id,RU X.K H1 x v/\HR X.K H1 G1/\Fr H G H1 G1/\mtU m x G1=some (T,id)/\jaO m x [] G1 Q) I
  ⟨ς,G,_,E,hς,hG,h,fun x v G1 H1 rx hG1 f1 h1=>?_,lx⟩) fun v s1 ⟨xv,H1,I1,r1,x,G1,T,id,rx,hG1,f1,em,h1⟩=>?_)
 ·dsimp only at h1
  split at h1
  ·rename_i p ep
   exact ⟨x,G1,p.1,p.2,rx,hG1,f1,ep,h1⟩
  ·exact h1.elim
 ·obtain ⟨k,hty,r,hr1,hr2⟩:=hm x G1 T id em
  obtain ⟨t1,t2⟩:=jhY I1 r1 (hty xv H1 rx hG1)
  exact ⟨T,id,k.pa,k.sl,k.ty,t1,t2,Calls.callWith_builtin rfl (PySem.evalArgs_none (hr1 pins s1 σ H1 xv [] v [] Q0 I1 r1 .nil (hr2 [] xv [] G1 H1 Q Q0 rx rfl hG1 h1 (lv.fr f1))))⟩
end
end Z

namespace L2
open PySem PySem.Spec PyProof.Rows
set_option maxHeartbeats 4000000
section
variable {X:Cx}{tg:Expr}
noncomputable def iSeq (K:PySem.W.Frag)(tl:TE):TI:=fun σ H R=>tl σ H fun x H1=>∃ a,x=.ref a/\(((∃ xs,SqL K H1 a xs)/\R (Itl K a) H1)\/((∃ xs,SqT K H1 a xs)/\R (Itt K a) H1))
theorem jkO {l:Expr}{tl:TE}(hl:PE X l tl):PI X tg l (iSeq X.K tl):=by
 intro pins s σ H R I h
 refine thn (hl pins s σ H _ I h) fun v s1 ⟨x,H1,I1,r1,q1⟩=>?_
 obtain ⟨a,e,⟨⟨xs,hq⟩,q⟩ | ⟨⟨xs,hq⟩,q⟩⟩:=q1
 ·subst e
  cases r1
  obtain ⟨its,rv,p,hz⟩:=I1.list hq
  refine wpAny_pyIter_list p.isList ?_
  refine ⟨s1.heap.objs.size,[s1.heap.objs.size],_,_,H1,rfl,I1.kept (t':=s1.toks) fun b o e=>Heap.get?_push_of_some _ e,jfW a _,⟨_,Heap.get?_push_size _ rfl,rfl,rfl⟩,fun b hb=>?_,q⟩
  have e:b=s1.heap.objs.size:=by simpa using hb
  subst e
  exact I1.fpOk (Nat.le_refl _) (I1.hok.fresh (Nat.le_refl _))
 ·subst e
  cases r1
  obtain ⟨its,rv,p,hz⟩:=I1.tuple hq
  refine wpAny_pyIter_tuple (show s1.heap.IsTuple a its.toArray from p) ?_
  refine ⟨s1.heap.objs.size,[s1.heap.objs.size],_,_,H1,rfl,I1.kept (t':=s1.toks) fun b o e=>Heap.get?_push_of_some _ e,jfr a _,⟨_,Heap.get?_push_size _ rfl,rfl,rfl⟩,fun b hb=>?_,q⟩
  have e:b=s1.heap.objs.size:=by simpa using hb
  subst e
  exact I1.fpOk (Nat.le_refl _) (I1.hok.fresh (Nat.le_refl _))
theorem PI.imp {iter:Expr}{t t':TI}(h:PI X tg iter t)(i:∀ σ H R,t' σ H R->t σ H R):PI X tg iter t':=fun pins s σ H R I q=>h pins s σ H R I (i σ H R q)
theorem PG.imp {target:Expr}{t t':TG}(h:PG X target t)(i:∀ v σ H Q,t' v σ H Q->t v σ H Q):PG X target t':=fun pins s σ H v u Q I r q=>h pins s σ H v u Q I r (i v σ H Q q)
theorem PGs.imp {ts:List Expr}{t t':TGs}(h:PGs X ts t)(i:∀ v σ H Q,t' v σ H Q->t v σ H Q):PGs X ts t':=fun pins s σ H v u Q I r q=>h pins s σ H v u Q I r (i v σ H Q q)
theorem PIfs.imp {ifs:List Expr}{t t':TT}(h:PIfs X ifs t)(i:∀ σ H Q,t' σ H Q->t σ H Q):PIfs X ifs t':=fun pins s σ H Q I q=>h pins s σ H Q I (i σ H Q q)
end
end L2
namespace Z
open PySem L2
set_option maxHeartbeats 4000000
noncomputable abbrev UI:=Sg->Gp->(List U->(Gp->Prop)->Gp->Prop)->KX->Prop
noncomputable def jeN (K:PySem.W.Frag)(J:L2.It)(H:Hp)(G:Gp)(xs:List U)(ok:Gp->Prop):Prop:=∀ i H' G',TS H H'->HR K H' G'->ok G'->
 (∀ u,xs[i]?=some u->J.go i H'/\∀ v H'',J.yld i H' v H''->RU K H'' u v/\HR K H'' G'/\Fr H' G' H'' G')/\(i=xs.length->J.stop i H')
theorem jeN.mono {K:PySem.W.Frag}{J:L2.It}{H H2:Hp}{G G2:Gp}{xs:List U}{ok:Gp->Prop}(h:jeN K J H G xs ok)(t:TS H H2):jeN K J H2 G2 xs ok:=fun i H' G' t'=>h i H' G' fun a ys e=>t' a ys (t a ys e)
section
variable (X:Cx)
noncomputable def lI (t:UI):TI:=fun σ H R=>∃ ς G Q E,SR X.K H ς σ/\HR X.K H G/\t ς G Q E/\(∀ xs ok G' H' J,HR X.K H' G'->Fr H G H' G'->jeN X.K J H' G' xs ok->Q xs ok G'->R J H')/\LX X σ H G E
noncomputable def lG (K:PySem.W.Frag)(t:U->Sg->(Sg->Prop)->Prop):TG:=fun v σ H Q0=>∃ u ς k,RU K H u v/\SR K H ς σ/\t u ς k/\∀ ς' σ',SR K H ς' σ'->k ς'->Q0 σ' H
noncomputable def lGs (K:PySem.W.Frag)(t:List U->Sg->(Sg->Prop)->Prop):TGs:=fun vs σ H Q0=>∃ us ς k,RUs K H us vs/\SR K H ς σ/\t us ς k/\∀ ς' σ',SR K H ς' σ'->k ς'->Q0 σ' H
end
section
variable {X:Cx}{tg:Expr}{pos:Pos}{te ta tb:UE}
theorem u_ie {l:Expr}(hl:PE X l (lE X te)):PI X tg l (lI X fun ς G Q E=>te ς G (fun x G1=>itU x G1 fun xs ok=>Q xs ok G1) E):=by
 refine (jkO hl).imp fun σ H R h=>?_
 obtain ⟨ς,G,Q,E,hς,hG,h,lv,lx⟩:=h
 refine ⟨ς,G,_,E,hς,hG,h,fun x v G1 H1 rx hG1 f1 h1=>?_,lx⟩
 dsimp only at h1
 unfold itU at h1
 split at h1
 ·obtain ⟨a,vs,rfl,ea,rs⟩:=rx
  refine ⟨a,rfl,.inr ⟨⟨vs,.of ea⟩,lv _ _ _ H1 _ hG1 f1 (fun i H' G' f hr _=>?_) h1⟩⟩
  have e':H' a=some (.tup vs):=f a _ ea
  refine ⟨fun u eu=>?_,fun e=>⟨vs,.of e',by rw [e,rs.length]; exact Nat.le_refl _⟩⟩
  obtain ⟨w,ew,rw'⟩:=rs.get eu
  refine ⟨⟨vs,w,.of e',ew⟩,fun v H'' y=>?_⟩
  obtain ⟨rfl,y⟩:=y
  have:=y vs (.of e')
  rw [ew] at this
  cases this
  exact ⟨rw'.ts f,hr,Fr.refl _ _⟩
 ·cases rx
  rename_i a
  split at h1
  ·rename_i us eu
   obtain ⟨vs,sq,rs⟩:=hG1.ls eu
   refine ⟨_,rfl,.inl ⟨⟨vs,sq⟩,lv _ _ _ H1 _ hG1 f1 (fun i H' G' f hr ok=>?_) h1⟩⟩
   obtain ⟨vs',sq',rs'⟩:=hr.ls ok
   refine ⟨fun u eu=>?_,fun e=>⟨vs',sq',by rw [e,rs'.length]; exact Nat.le_refl _⟩⟩
   obtain ⟨w,ew,rw'⟩:=rs'.get eu
   refine ⟨⟨vs',w,sq',ew⟩,fun v H'' y=>?_⟩
   obtain ⟨rfl,y⟩:=y
   have:=y vs' sq'
   rw [ew] at this
   cases this
   exact ⟨rw',hr,Fr.refl _ _⟩
  ·exact h1.elim
 ·exact h1.elim
theorem jhd {K:PySem.W.Frag}{H:Hp}{G:Gp}(lo:Int)(n:Nat):jeN K (Itr lo n) H G (rngU lo n) fun _=>True:=by
 intro i H' G' f hr _
 have hl:(rngU lo n).length=n:=by simp [rngU]
 refine ⟨fun u eu=>?_,fun e=>by rw [hl] at e; exact Nat.le_of_eq e.symm⟩
 have hi:i < n:=by have:=(List.getElem?_eq_some_iff.mp eu).1; omega
 refine ⟨hi,fun v H'' y=>?_⟩
 obtain ⟨rfl,rfl⟩:=y
 have:(rngU lo n)[i]?=some (.int (lo + i)):=by simp [rngU,List.getElem?_map,List.getElem?_range hi]
 rw [this] at eu
 cases eu
 exact ⟨rfl,hr,Fr.refl _ _⟩
theorem u_r1 {a : Expr}{p : Pos}(hg : Gl X "range")(hm : X.mg "range" = none)(ha : PE X a (lE X ta))(hs : starEach [a] X.env = [(false, eval a X.env)]) : PI X tg (.Call (.Name "range" p) [a] [] pos) (lI X fun ς G Q E => ta ς G (fun x G1 => match x with
      | .int j => -(2 ^ 62) <= j /\ j < 2 ^ 62 /\ Q (rngU 0 j.toNat) (fun _ => True) G1
      | _ => False) E) := by
  refine (jgd hg hm (jcZ ha jfq hs) hs).imp fun σ H R h => ?_
  obtain ⟨ς, G, Q, E, hς, hG, h, lv, lx⟩ := h
  refine ⟨ς, G, fun us G1 => match us with | [x] => (match x with | .int j => -(2 ^ 62) <= j /\ j < 2 ^ 62 /\ Q (rngU 0 j.toNat) (fun _ => True) G1 | _ => False) | _ => False, E, hς, hG, h, fun us vs G1 H1 rs hG1 f1 h1 => ?_, lx⟩
  dsimp only at h1
  split at h1
  · obtain ⟨v, rfl, r⟩ := rs.one
    split at h1
    · cases r
      exact ⟨_, rfl, h1.1, h1.2.1, lv _ _ G1 H1 _ hG1 f1 (jhd 0 _) h1.2.2⟩
    · exact h1.elim
  · exact h1.elim
theorem jdA:∀ {n i:Nat} {xs:List U} {u:U},(jcH n xs)[i]?=some u->∃ x,xs[i]?=some x/\u=.tup [.int ((n + i:Nat):Int),x]
 | _,_,[],_,h=>by simp [jcH] at h
 | n,0,x::xs,_,h=>by
  simp [jcH] at h
  exact ⟨x,rfl,h.symm⟩
 | n,i + 1,_::xs,_,h=>by
  obtain ⟨x,e1,e2⟩:=jdA (n:=n + 1) (i:=i) (xs:=xs) (by simpa [jcH] using h)
  exact ⟨x,by simpa using e1,by rw [e2]; congr 3; omega⟩
theorem jdz:∀ (n:Nat) (xs:List U),(jcH n xs).length=xs.length
 | _,[]=>rfl
 | n,_::xs=>by simp [jcH,jdz (n + 1) xs]
theorem jka {l:Expr}{p tpos:Pos}{elts:List Expr}{x1}(hg:Gl X "enumerate")(hm:X.mg "enumerate" = none)(ha:PE X l (lE X ta))(hs:starEach [l] X.env=[(false,eval l X.env)]) :
  PI X (.Tuple elts x1 tpos) (.Call (.Name "enumerate" p) [l] [] pos) (lI X fun ς G Q E=>ta ς G (fun x G1=>match x with
   | .tup xs=>Q (jcH 0 xs) (fun _=>True) G1
   | _=>False) E):=by
 refine (ji5 hg hm (jcZ ha jfq hs) hs).imp fun σ H R h=>?_
 obtain ⟨ς,G,Q,E,hς,hG,h,lv,lx⟩:=h
 refine ⟨ς,G,fun us G1=>match us with | [x]=>(match x with | .tup xs=>Q (jcH 0 xs) (fun _=>True) G1 | _=>False) | _=>False,E,hς,hG,h,fun us vs G1 H1 rs hG1 f1 h1=>?_,lx⟩
 dsimp only at h1
 split at h1
 ·obtain ⟨v,rfl,r⟩:=rs.one
  split at h1
  ·obtain ⟨a,ws,rfl,ea,rr⟩:=r
   refine ⟨a,rfl,⟨ws,ea⟩,lv _ _ G1 H1 _ hG1 f1 (fun i H' G' f hr _=>?_) h1⟩
   have e':H' a=some (.tup ws):=f a _ ea
   refine ⟨fun u eu=>?_,fun e=>⟨ws,e',by rw [e,jdz,rr.length]⟩⟩
   obtain ⟨x,ex,rfl⟩:=jdA eu
   obtain ⟨w,ew,rw'⟩:=rr.get ex
   refine ⟨⟨ws,w,e',ew⟩,fun v H'' y=>?_⟩
   obtain ⟨ys,z,q,hq,hz,rfl,hn,rfl⟩:=y
   rw [e'] at hq
   cases hq
   rw [ew] at hz
   cases hz
   refine ⟨⟨q,_,rfl,jat,⟨_,_,rfl,by rw [Nat.zero_add]; rfl,⟨_,_,rfl,(rw'.ts f).ts (TS.new hn),rfl⟩⟩⟩,hr.newT hn,Fr.new hn⟩
  ·exact h1.elim
 ·exact h1.elim
theorem SR.set {K:PySem.W.Frag}{H:Hp}{ς:Sg}{σ:St}{u:U}{v:V}(h:SR K H ς σ)(r:RU K H u v)(i:Nat):SR K H (ς.set i (some u)) (σ.set i (some v)):=by
 refine ⟨by simp [h.1],fun j w e=>?_⟩
 by_cases hj:j=i
 ·subst hj
  by_cases hl:j < ς.length
  ·rw [List.getElem?_set_self hl] at e
   cases e
   exact ⟨v,List.getElem?_set_self (by rw [<- h.1]; exact hl),r⟩
  ·rw [List.getElem?_eq_none (by simp; omega)] at e
   cases e
 ·rw [List.getElem?_set_ne (Ne.symm hj)] at e ⊢
  exact h.2 j w e
theorem u_tn {i:Nat}{x:Str}(hN:X.N.Nodup)(hi:X.N[i]?=some x)(hx:Loc X.env.scope x)(hf:X.fn x=true\/X.env.scope.names.lookup x=some .local):PG X (.Name x pos) (lG X.K (tgU (.n i))):=by
 refine (ji7 hN hi hx hf).imp fun v σ H Q h=>?_
 obtain ⟨u,ς,k,r,hς,h,q⟩:=h
 exact q _ _ (hς.set r i) h
theorem u_tt {es:List Expr}{k n:Nat}{ts:Tgs}(hc:X.calm=true)(h:PGs X es (lGs X.K (tgsU ts)))(hn:(assignEach es X.env).length=n)(hst:(assignEach es X.env).findIdx? (·.1)=none)(hl:∀ us ς k,tgsU ts us ς k->us.length=n) :
  PG X (.Tuple es k pos) (lG X.K (tgU (.t ts))):=by
 refine (jkP hc h hn hst).imp fun v σ H Q h=>?_
 obtain ⟨u,ς,k,r,hς,h,q⟩:=h
 cases u with
 | tup us=>
  obtain ⟨a,vs,rfl,e,rs⟩:=r
  have h':tgsU ts us ς k:=h
  exact ⟨a,vs,rfl,.of e,by rw [<- rs.length]; exact hl _ _ _ h',us,ς,k,rs,hς,h',q⟩
 | _=>exact h.elim
theorem jmu:PGs X [] (lGs X.K (tgsU .nil)):=by
 refine ji6.imp fun vs σ H Q h=>?_
 obtain ⟨us,ς,k,r,hς,h,q⟩:=h
 obtain ⟨rfl,h⟩:=h
 cases r
 exact ⟨rfl,q _ _ hς h⟩
theorem jmv {e:Expr}{es:List Expr}{t:Tg}{ts:Tgs}(h1:PG X e (lG X.K (tgU t)))(h2:PGs X es (lGs X.K (tgsU ts)))(hs:(assignEach (e::es) X.env).map (·.2)=assign e X.env::(assignEach es X.env).map (·.2)) :
  PGs X (e::es) (lGs X.K (tgsU (.cons t ts))):=by
 refine (jhp h1 h2 hs).imp fun vs σ H Q h=>?_
 obtain ⟨us,ς,k,r,hς,h,q⟩:=h
 cases us with
 | nil=>exact h.elim
 | cons u us=>
  obtain ⟨v,vr,rfl,r1,rs⟩:=r
  exact ⟨v,vr,rfl,u,ς,_,r1,hς,h,fun ς' σ' hs' h'=>⟨us,ς',k,rs,hs',h',q⟩⟩
end
theorem jfb {K:PySem.W.Frag}{H:Hp}:∀ ns:List Int,RUs K H (ns.map .int) (ns.map V.int)
 | []=>rfl
 | _::r=>⟨_,_,rfl,rfl,jfb r⟩
theorem jf9 {κ:Type}{K:PySem.W.Frag}{H:Hp}:∀ {kvs:List (κ×U)} {l:List (κ×V)},RKs K H kvs l->kvs.map (·.1)=l.map (·.1)
 | [],_,h=>by cases h; rfl
 | (k,u)::r,_,h=>by
  obtain ⟨v,l',rfl,_,rs⟩:=h
  rw [List.map_cons,List.map_cons,jf9 rs]
noncomputable def lE0 (K:PySem.W.Frag)(t:UE):TE:=fun τ H Q0=>∃ ς G Q,SR K H ς τ/\HR K H G/\t ς G Q (fun _ _=>False)/\∀ w v G' H',RU K H' w v->HR K H' G'->Fr H G H' G'->Q w G'->Q0 v H'
noncomputable def lT0 (K:PySem.W.Frag)(t:Sg->Gp->(Bool->Gp->Prop)->Prop):TT:=fun τ H Q0=>∃ ς G Q,SR K H ς τ/\HR K H G/\t ς G Q/\∀ b G' H',HR K H' G'->Fr H G H' G'->Q b G'->Q0 b H'
theorem LX.no {X:Cx}{σ:St}{H:Hp}{G:Gp}:LX X σ H G fun _ _=>False:=fun _ _ _ _ _ _ _ _ _ _ h=>h.elim
theorem lE0.of {X:Cx}{e:Expr}{t:UE}(h:PE X e (lE X t)):PE X e (lE0 X.K t):=h.imp fun σ H Q0 ⟨ς,G,Q,h1,h2,h3,h4⟩=>⟨ς,G,Q,_,h1,h2,h3,h4,LX.no⟩
theorem lT0.of {X:Cx}{e:Expr}{t:UT}(h:PT X e (lT X t)):PT X e (lT0 X.K fun ς G Q=>t ς G Q fun _ _=>False):=h.imp fun σ H Q0 ⟨ς,G,Q,h1,h2,h3,h4⟩=>⟨ς,G,Q,_,h1,h2,h3,h4,LX.no⟩
mutual
noncomputable def tgS:Tg->List Nat
 | .n i=>[i]
 | .t ts=>tgsS ts
noncomputable def tgsS:Tgs->List Nat
 | .nil=>[]
 | .cons t ts=>tgS t++tgsS ts
end
noncomputable def Ext (ς0 ς:Sg):Prop:=ς0.length=ς.length/\∀ (j:Nat) (w:U),ς0[j]?=some (some w)->ς[j]?=some (some w)
mutual
theorem jf1 {ς0:Sg}:∀ {t:Tg} {u:U} {ς:Sg} {k:Sg->Prop},(∀ i∈tgS t,∀ w,ς0[i]?≠some (some w))->Ext ς0 ς->tgU t u ς k->tgU t u ς fun ς'=>k ς'/\Ext ς0 ς'
 | .n i,u,ς,k,hf,he,h=>by
  refine ⟨h,by simp [he.1],fun j w e=>?_⟩
  have hj:j≠i:=fun z=>hf i (by simp [tgS]) w (z ▸ e)
  rw [List.getElem?_set_ne (Ne.symm hj)]
  exact he.2 j w e
 | .t ts,u,ς,k,hf,he,h=>by
  cases u with
  | tup us=>exact jfZ (ts:=ts) (us:=us) (fun i hi=>hf i hi) he h
  | _=>exact h
theorem jfZ {ς0:Sg}:∀ {ts:Tgs} {us:List U} {ς:Sg} {k:Sg->Prop},(∀ i∈tgsS ts,∀ w,ς0[i]?≠some (some w))->Ext ς0 ς->tgsU ts us ς k->tgsU ts us ς fun ς'=>k ς'/\Ext ς0 ς'
 | .nil,us,ς,k,_,he,h=>⟨h.1,h.2,he⟩
 | .cons t ts,us,ς,k,hf,he,h=>by
  cases us with
  | nil=>exact h
  | cons u r=>
   have:=jf1 (t:=t) (u:=u) (fun i hi=>hf i (by simp [tgsS,hi])) he h
   refine jco this fun ς' ⟨h1,h2⟩=>jfZ (fun i hi=>hf i (by simp [tgsS,hi])) h2 h1
theorem jco:∀ {t:Tg} {u:U} {ς:Sg} {k k':Sg->Prop},tgU t u ς k->(∀ ς,k ς->k' ς)->tgU t u ς k'
 | .n _,_,_,_,_,h,i=>i _ h
 | .t ts,u,ς,_,_,h,i=>by
  cases u with
  | tup us=>exact jeU (ts:=ts) (us:=us) h i
  | _=>exact h
theorem jeU:∀ {ts:Tgs} {us:List U} {ς:Sg} {k k':Sg->Prop},tgsU ts us ς k->(∀ ς,k ς->k' ς)->tgsU ts us ς k'
 | .nil,_,_,_,_,h,i=>⟨h.1,i _ h.2⟩
 | .cons t ts,us,ς,_,_,h,i=>by
  cases us with
  | nil=>exact h
  | cons u r=>exact jco (t:=t) h fun ς' h'=>jeU h' i
end
theorem SR.ext {K:PySem.W.Frag}{H:Hp}{ς0 ς:Sg}{σ:St}(h:SR K H ς σ)(e:Ext ς0 ς):SR K H ς0 σ:=⟨e.1.trans h.1,fun i u q=>h.2 i u (e.2 i u q)⟩
theorem SR.pick {K:PySem.W.Frag}{H:Hp}{ς:Sg}{σ:St}(h:SR K H ς σ)(pick:List (Option Nat)):SR K H (jaS pick ς) (pick.map fun o=>o.bind fun j=>(σ[j]?).join):=by
 refine ⟨by simp [jaS],fun i u e=>?_⟩
 unfold jaS at e
 rw [List.getElem?_map] at e ⊢
 cases q:pick[i]? with
 | none=>rw [q] at e; cases e
 | some o=>
  rw [q] at e
  cases o with
  | none=>simp at e
  | some j=>
   simp only [Option.map_some,Option.bind_some,Option.some.injEq] at e ⊢
   have e':ς[j]?=some (some u):=by
    cases z:ς[j]? with
    | none=>rw [z] at e; cases e
    | some w=>rw [z] at e; simp at e; rw [e]
   obtain ⟨v,ev,r⟩:=h.2 j u e'
   exact ⟨v,by rw [ev]; rfl,r⟩
section
variable {K:PySem.W.Frag}{H:Hp}{G:Gp}
theorem HR.newH (h:HR K H G){p:Addr}{o:HO}(e:H p=none):HR K (upd H p o) G:=fun a ob q=>by
 have m:=h a ob q
 obtain ⟨ho,e2⟩:=m.there
 exact m.keep (jai (jag e2 e)) (TS.new e)
theorem TS.hid {p:Addr}{ys:List V}{o:HO}(e:H p=some (.lst ys)):TS H (upd H p o):=fun a xs h=>by
 have:a≠p:=fun z=>by subst z; rw [e] at h; cases h
 rw [jai this]; exact h
theorem HR.hid (h:HR K H G){p:Addr}{ys:List V}{o:HO}(e:H p=some (.lst ys))(g:G p=none):HR K (upd H p o) G:=fun a ob q=>by
 have:a≠p:=fun z=>by subst z; rw [g] at q; cases q
 exact (h a ob q).keep (jai this) (TS.hid e)
theorem HR.know (h:HR K H G){p:Addr}{ys:List V}{us:List U}(e:H p=some (.lst ys))(r:RUs K H us ys):HR K H (gup G p (.lst us)):=fun a ob q=>by
 by_cases z:a=p
 ·subst z
  rw [jah] at q
  cases q
  exact ⟨ys,e,r⟩
 ·rw [jaT z] at q
  exact h a ob q
end
section
variable {X:Cx}{pick:List (Option Nat)}{ti:UI}{t:Tg}{tc:Sg->Gp->(Bool->Gp->Prop)->Prop}{te:UE}{σ:St}{H:Hp}{Q0:VK}
noncomputable abbrev lcD (pick : List (Option Nat))(ti : UI)(t : Tg)(tc : Sg -> Gp -> (Bool -> Gp -> Prop) -> Prop)(te : UE) : UE := fun ς G Q E => ti ς G (fun xs ok G1 => xs.length <= sizeLine /\ jcU ok (fun x G2 k => tgU t x (jaS pick ς) fun τ => tc τ G2 (fun b G3 => if b = true then te τ G3 (fun u G4 => k (some u) G4) (fun _ _ => False) else k none G3)) xs [] G1
      fun us G5 => newO G5 (.lst us) Q) E
noncomputable def FrX (D:Addr)(H:Hp)(G:Gp)(H':Hp)(G':Gp):Prop:=∀ a o,a≠D->H a=some o->G a=none->H' a=some o/\G' a=none
theorem jig {xs:List U}{ok:Gp->Prop}{G1:Gp}{H1:Hp}{J:L2.It}{τu:Sg}{τ0:St}{D:Addr}{acc0:List U}{ys0:List V}{kk:List U->Gp->Prop}{QQ:St->List V->Hp->Prop}
  (free:∀ i∈tgS t,∀ w,τu[i]?≠some (some w)) (wk:jeN X.K J H1 G1 xs ok) (hG1:HR X.K H1 G1) (eD1:H1 D=some (.lst ys0)) (gD1:G1 D=none) (ra1:RUs X.K H1 acc0 ys0) (sr1:SR X.K H1 τu τ0) (hl:acc0.length + xs.length<=sizeLine)
  (h1:jcU ok (fun x G2 k=>tgU t x τu fun τ=>tc τ G2 (fun b G3=>if b=true then te τ G3 (fun u G4=>k (some u) G4) (fun _ _=>False) else k none G3)) xs acc0 G1 kk)
  (fin:∀ τ' acc' ys' G' H',SR X.K H' τu τ'->HR X.K H' G'->FrX D H1 G1 H' G'->H' D=some (.lst ys')->G' D=none->RUs X.K H' acc' ys'->kk acc' G'->QQ τ' ys' H') :
  jfp J (lG X.K (tgU t)) (lT0 X.K tc) (emA (lE0 X.K te) D) QQ τ0 ys0 H1:=by
 refine ⟨fun i m τ ys H'=>m=xs.length - i/\i<=xs.length/\∃ acc G',SR X.K H' τu τ/\HR X.K H' G'/\FrX D H1 G1 H' G'/\H' D=some (.lst ys)/\G' D=none/\RUs X.K H' acc ys/\acc.length<=acc0.length + i/\
  jcU ok (fun x G2 k=>tgU t x τu fun τ=>tc τ G2 (fun b G3=>if b=true then te τ G3 (fun u G4=>k (some u) G4) (fun _ _=>False) else k none G3)) (xs.drop i) acc G' kk,⟨xs.length,by simp,Nat.zero_le _,acc0,G1,sr1,hG1,fun _ _ _ a b=>⟨a,b⟩,eD1,gD1,ra1,by omega,by simpa using h1⟩,?_⟩
 rintro i m τ ys H' ⟨rfl,hi,acc,G',sr,hr,f,eD,gD',ra,hal,hc⟩
 have ts:TS H1 H':=fun a zs e=>(f a _ (fun z=>by rw [z,eD1] at e; cases e) e (hG1.tupNone e)).1
 by_cases hlt:i < xs.length
 ·rw [List.drop_eq_getElem_cons hlt] at hc
  obtain ⟨hok,hb⟩:=hc
  obtain ⟨w1,_⟩:=wk i H' G' ts hr hok
  obtain ⟨go,yl⟩:=w1 xs[i] (by simp [hlt])
  refine .inr ⟨go,fun v H'' y=>?_⟩
  obtain ⟨rx,hr2,f2⟩:=yl v H'' y
  have sr2:=sr.ts (f2.ts hr)
  refine ⟨xs[i],τu,_,rx,sr2,jf1 free ⟨rfl,fun _ _ e=>e⟩ hb,fun τv σ' hs' ⟨hk,he⟩=>?_⟩
  refine ⟨τv,G',_,hs',hr2,hk,fun b G3 H3 hr3 f3 h3=>?_⟩
  have f13:FrX D H1 G1 H3 G3:=fun a o n h g=>let ⟨a1,a2⟩:=f a o n h g; let ⟨b1,b2⟩:=f2 a o a1 a2; f3 a o b1 b2
  have hs3:SR X.K H3 τu σ':=(hs'.ext he).ts (f3.ts hr2)
  obtain ⟨eD2,gD2⟩:=f2 D _ eD gD'
  obtain ⟨eD3,gD3⟩:=f3 D _ eD2 gD2
  have ra3:=(ra.ts (f2.ts hr)).ts (f3.ts hr2)
  cases b with
  | false=>
   rw [if_neg Bool.false_ne_true] at h3
   dsimp only
   rw [if_neg Bool.false_ne_true]
   exact ⟨xs.length - (i + 1),by omega,rfl,hlt,acc,G3,hs3,hr3,f13,eD3,gD3,ra3,by omega,h3⟩
  | true=>
   rw [if_pos rfl] at h3
   dsimp only
   rw [if_pos rfl]
   refine ⟨τv,G3,_,hs'.ts (f3.ts hr2),hr3,h3,fun u v G4 H4 ru hr4 f4 h4=>?_⟩
   obtain ⟨eD4,gD4⟩:=f4 D _ eD3 gD3
   have ra4:=ra3.ts (f4.ts hr3)
   have tsn:=TS.hid (o:=.lst (ys++[v])) eD4
   refine ⟨eD4,by rw [<- ra.length]; omega,xs.length - (i + 1),by omega,rfl,hlt,acc++[u],G4,(hs3.ts (f4.ts hr3)).ts tsn,hr4.hid eD4 gD4,?_,jat,gD4,(ra4.append (RUs.mk (us:=[]) (vs:=[]) ru rfl)).ts tsn,by simp; omega,h4⟩
   intro a o n ha ga
   obtain ⟨x1,x2⟩:=f13 a o n ha ga
   obtain ⟨y1,y2⟩:=f4 a o x1 x2
   exact ⟨by rw [jai n]; exact y1,y2⟩
 ·have e:i=xs.length:=by omega
  subst e
  rw [List.drop_length] at hc
  obtain ⟨hok,q⟩:=hc
  obtain ⟨_,w2⟩:=wk xs.length H' G' ts hr hok
  exact .inl ⟨w2 rfl,fin τ acc ys G' H' sr hr f eD gD' ra q⟩
theorem jcw {is:List Nat}(hp:is.all (fun i=>(pick[i]?).join.isNone)=true)(ς:Sg):∀ i∈is,∀ w,(jaS pick ς)[i]?≠some (some w):=fun i hi w e=>by
 have:=List.all_eq_true.mp hp i hi
 unfold jaS at e
 rw [List.getElem?_map] at e
 cases q:pick[i]? with
 | none=>rw [q] at e; cases e
 | some o=>
  rw [q] at e this
  cases o with
  | none=>simp at e
  | some j=>simp at this
theorem jih (hp:(tgS t).all (fun i=>(pick[i]?).join.isNone)=true)(h:lE X (lcD pick ti t tc te) σ H Q0):tLc pick (lI X ti) (lG X.K (tgU t)) (lT0 X.K tc) (lE0 X.K te) σ H Q0:=by
 obtain ⟨ς,G,Q,E,hς,hG,h,lv,lx⟩:=h
 refine ⟨ς,G,_,E,hς,hG,h,fun xs ok G1 H1 J hG1 f1 wk h1=>?_,lx⟩
 obtain ⟨hl,h1⟩:=h1
 intro D hD
 refine jig (acc0:=[]) (jcw hp ς) (wk.mono (TS.new hD)) (hG1.newH hD) jat (hG1.nope hD) rfl (((hς.ts (f1.ts hG)).ts (TS.new hD)).pick pick) (by simpa using hl) h1 fun τ' acc' ys' G' H' sr hr f eD gD' ra q=>?_
 refine lv (.loc D) (.ref D) _ H' rfl (hr.know eD ra) ?_ (q.at D gD')
 intro a o ha ga
 obtain ⟨x1,x2⟩:=f1 a o ha ga
 obtain ⟨y1,y2⟩:=f a o (jag x1 hD) (by rw [jai (jag x1 hD)]; exact x1) x2
 exact ⟨y1,by rw [jaT (jag x1 hD)]; exact y2⟩
noncomputable def lI0 (K:PySem.W.Frag)(t:UI):TI:=fun σ H R=>∃ ς G Q,SR K H ς σ/\HR K H G/\t ς G Q (fun _ _=>False)/\∀ xs ok G' H' J,HR K H' G'->Fr H G H' G'->jeN K J H' G' xs ok->Q xs ok G'->R J H'
theorem lI0.of {X:Cx}{tg e:Expr}{t:UI}(h:PI X tg e (lI X t)):PI X tg e (lI0 X.K t):=h.imp fun σ H R ⟨ς,G,Q,h1,h2,h3,h4⟩=>⟨ς,G,Q,_,h1,h2,h3,h4,LX.no⟩
mutual
theorem jf0 {is:List Nat}:∀ {t:Tg} {u:U} {ς:Sg} {k:Sg->Prop},(∀ i∈is,i∉tgS t)->(∀ i∈is,∀ w,ς[i]?≠some (some w))->tgU t u ς k->tgU t u ς fun ς'=>k ς'/\∀ i∈is,∀ w,ς'[i]?≠some (some w)
 | .n j,u,ς,k,hf,he,h=>by
  refine ⟨h,fun i hi w e=>?_⟩
  have hj:i≠j:=fun z=>hf i hi (by simp [tgS,z])
  rw [List.getElem?_set_ne (Ne.symm hj)] at e
  exact he i hi w e
 | .t ts,u,ς,k,hf,he,h=>by
  cases u with
  | tup us=>exact jeV (ts:=ts) (us:=us) (fun i hi=>hf i hi) he h
  | _=>exact h
theorem jeV {is:List Nat}:∀ {ts:Tgs} {us:List U} {ς:Sg} {k:Sg->Prop},(∀ i∈is,i∉tgsS ts)->(∀ i∈is,∀ w,ς[i]?≠some (some w))->tgsU ts us ς k->tgsU ts us ς fun ς'=>k ς'/\∀ i∈is,∀ w,ς'[i]?≠some (some w)
 | .nil,us,ς,k,_,he,h=>⟨h.1,h.2,he⟩
 | .cons t ts,us,ς,k,hf,he,h=>by
  cases us with
  | nil=>exact h
  | cons u r=>
   have:=jf0 (t:=t) (u:=u) (fun i hi z=>hf i hi (by simp [tgsS,z])) he h
   refine jco this fun ς' ⟨h1,h2⟩=>jeV (fun i hi z=>hf i hi (by simp [tgsS,z])) h2 h1
end
noncomputable abbrev lc2D (pick : List (Option Nat))(ti : UI)(t : Tg)(tc : Sg -> Gp -> (Bool -> Gp -> Prop) -> Prop)(ti2 : UI)(t2 : Tg)(tc2 : Sg -> Gp -> (Bool -> Gp -> Prop) -> Prop)(te : UE) : UE := fun ς G Q E => ti ς G (fun xs ok G1 => jfN ok (fun x acc G2 k => tgU t x (jaS pick ς) fun τ => tc τ G2 (fun b G3 => if b = true then ti2 τ G3 (fun ys ok2 G4 => acc.length + ys.length <= sizeLine /\ jcU ok2 (fun y G5 k5 => tgU t2 y τ fun τ' => tc2 τ' G5 (fun b2 G6 => if b2 = true then te τ' G6 (fun u G7 => k5 (some u) G7) (fun _ _ => False) else k5 none G6)) ys acc G4 k) (fun _ _ => False) else k acc G3)) xs [] G1
      fun us G5 => newO G5 (.lst us) Q) E
theorem jgy {ti2:UI}{t2:Tg}{tc2:Sg->Gp->(Bool->Gp->Prop)->Prop}(hp:(tgS t).all (fun i=>(pick[i]?).join.isNone)=true)(hp2:(tgS t2).all (fun i=>(pick[i]?).join.isNone)=true)(hp3:(tgS t2).all (fun i=>!(tgS t).contains i)=true)(h:lE X (lc2D pick ti t tc ti2 t2 tc2 te) σ H Q0) :
  tLc2 pick (lI X ti) (lG X.K (tgU t)) (lT0 X.K tc) (lI0 X.K ti2) (lG X.K (tgU t2)) (lT0 X.K tc2) (lE0 X.K te) σ H Q0:=by
 obtain ⟨ς,G,Q,E,hς,hG,h,lv,lx⟩:=h
 refine ⟨ς,G,_,E,hς,hG,h,fun xs ok G1 H1 J hG1 f1 wk h1=>?_,lx⟩
 intro D hD
 have free:=jcw hp ς
 have free2:=jcw hp2 ς
 have dis:∀ i∈tgS t2,i∉tgS t:=fun i hi=>by simpa using List.all_eq_true.mp hp3 i hi
 refine ⟨fun i m τ ys H'=>m=xs.length - i/\i<=xs.length/\∃ acc G',SR X.K H' (jaS pick ς) τ/\HR X.K H' G'/\Fr H1 G1 H' G'/\H' D=some (.lst ys)/\G' D=none/\RUs X.K H' acc ys/\
  jfN ok (fun x acc G2 k=>tgU t x (jaS pick ς) fun τ=>tc τ G2 (fun b G3=>if b=true then ti2 τ G3 (fun ys ok2 G4=>acc.length + ys.length<=sizeLine/\jcU ok2 (fun y G5 k5=>tgU t2 y τ fun τ'=>tc2 τ' G5 (fun b2 G6=>if b2=true then te τ' G6 (fun u G7=>k5 (some u) G7) (fun _ _=>False) else k5 none G6)) ys acc G4 k) (fun _ _=>False) else k acc G3)) (xs.drop i) acc G' fun us G5=>newO G5 (.lst us) Q,
  ⟨xs.length,by simp,Nat.zero_le _,[],G1,((hς.ts (f1.ts hG)).ts (TS.new hD)).pick pick,hG1.newH hD,Fr.new hD,jat,hG1.nope hD,rfl,by simpa using h1⟩,?_⟩
 rintro i m τ ys H' ⟨rfl,hi,acc,G',sr,hr,f,eD,gD',ra,hc⟩
 by_cases hlt:i < xs.length
 ·rw [List.drop_eq_getElem_cons hlt] at hc
  obtain ⟨hok,hb⟩:=hc
  obtain ⟨w1,_⟩:=wk i H' G' (f.ts hG1) hr hok
  obtain ⟨go,yl⟩:=w1 xs[i] (by simp [hlt])
  refine .inr ⟨go,fun v H'' y=>?_⟩
  obtain ⟨rx,hr2,f2⟩:=yl v H'' y
  have sr2:=sr.ts (f2.ts hr)
  refine ⟨xs[i],jaS pick ς,_,rx,sr2,jf0 dis free2 (jf1 free ⟨rfl,fun _ _ e=>e⟩ hb),fun τu σ' hs' ⟨⟨hk,he⟩,hfr⟩=>?_⟩
  refine ⟨τu,G',_,hs',hr2,hk,fun b G3 H3 hr3 f3 h3=>?_⟩
  have f13:Fr H1 G1 H3 G3:=(f.trans f2).trans f3
  have hs3:SR X.K H3 τu σ':=hs'.ts (f3.ts hr2)
  obtain ⟨eD2,gD2⟩:=f2 D _ eD gD'
  obtain ⟨eD3,gD3⟩:=f3 D _ eD2 gD2
  have ra3:=(ra.ts (f2.ts hr)).ts (f3.ts hr2)
  cases b with
  | false=>
   rw [if_neg Bool.false_ne_true] at h3
   dsimp only
   rw [if_neg Bool.false_ne_true]
   exact ⟨xs.length - (i + 1),by omega,rfl,hlt,acc,G3,hs3.ext he,hr3,f13,eD3,gD3,ra3,h3⟩
  | true=>
   rw [if_pos rfl] at h3
   dsimp only
   rw [if_pos rfl]
   refine ⟨τu,G3,_,hs3,hr3,h3,fun zs ok2 G4 H4 J2 hr4 f4 wk2 h4=>?_⟩
   obtain ⟨hl4,h4⟩:=h4
   obtain ⟨eD4,gD4⟩:=f4 D _ eD3 gD3
   refine jig hfr wk2 hr4 eD4 gD4 (ra3.ts (f4.ts hr3)) (hs3.ts (f4.ts hr3)) hl4 h4 fun τ' acc' ys' G5 H5 sr5 hr5 f5 eD5 gD5 ra5 q5=>?_
   refine ⟨xs.length - (i + 1),by omega,rfl,hlt,acc',G5,sr5.ext he,hr5,fun a o ha ga=>?_,eD5,gD5,ra5,q5⟩
   obtain ⟨x1,x2⟩:=(f13.trans f4) a o ha ga
   exact f5 a o (jag ha hD) x1 x2
 ·have e:i=xs.length:=by omega
  subst e
  rw [List.drop_length] at hc
  obtain ⟨hok,q⟩:=hc
  obtain ⟨_,w2⟩:=wk xs.length H' G' (f.ts hG1) hr hok
  refine .inl ⟨w2 rfl,lv (.loc D) (.ref D) _ H' rfl (hr.know eD ra) ?_ (q.at D gD')⟩
  intro a o ha ga
  obtain ⟨x1,x2⟩:=f1 a o ha ga
  obtain ⟨y1,y2⟩:=f a o x1 x2
  exact ⟨y1,by rw [jaT (jag x1 hD)]; exact y2⟩
variable {tg iter elt:Expr}{ifs:List Expr}{pos:Pos}{N:List Str}{scope:Scope}
theorem u_lc (hc:X.calm=true)(S:CScope X N pick scope)(hw:PI X tg iter (lI X ti))(hp:(tgS t).all (fun i=>(pick[i]?).join.isNone)=true)
  (hg:∀ cl C s₀ H₀ fp,PG (jad X N scope cl C s₀ H₀ fp) tg (lG X.K (tgU t))) (hi:∀ cl C s₀ H₀ fp,PIfs (jad X N scope cl C s₀ H₀ fp) ifs (lT0 X.K tc)) (he:∀ cl C s₀ H₀ fp,PE (jad X N scope cl C s₀ H₀ fp) elt (lE0 X.K te))
  (hs:∀ x,foldedSetIterable iter X.env x=pure x):PE X (.ListComp elt [⟨tg,iter,ifs,0⟩] scope pos) (lE X (lcD pick ti t tc te)):=
 (jm5 hc S hw hg hi he hs).imp fun _ _ _ h=>jih hp h
theorem jmE {ti2:UI}{t2:Tg}{tc2:Sg->Gp->(Bool->Gp->Prop)->Prop}{tg2 i2:Expr}{f2:List Expr}(hc:X.calm=true)(S:CScope X N pick scope)(hw:PI X tg iter (lI X ti))(hp:(tgS t).all (fun i=>(pick[i]?).join.isNone)=true)(hp2:(tgS t2).all (fun i=>(pick[i]?).join.isNone)=true)(hp3:(tgS t2).all (fun i=>!(tgS t).contains i)=true)
  (hg:∀ cl C s₀ H₀ fp,PG (jad X N scope cl C s₀ H₀ fp) tg (lG X.K (tgU t))) (hi:∀ cl C s₀ H₀ fp,PIfs (jad X N scope cl C s₀ H₀ fp) ifs (lT0 X.K tc)) (he:∀ cl C s₀ H₀ fp,PE (jad X N scope cl C s₀ H₀ fp) elt (lE0 X.K te))
  (hw2:∀ cl C s₀ H₀ fp,PI (jad X N scope cl C s₀ H₀ fp) tg2 i2 (lI0 X.K ti2)) (hg2:∀ cl C s₀ H₀ fp,PG (jad X N scope cl C s₀ H₀ fp) tg2 (lG X.K (tgU t2))) (hi2:∀ cl C s₀ H₀ fp,PIfs (jad X N scope cl C s₀ H₀ fp) f2 (lT0 X.K tc2)) (hs2:∀ (env:Env) x,foldedSetIterable i2 env x=pure x)
  (hs:∀ x,foldedSetIterable iter X.env x=pure x):PE X (.ListComp elt [⟨tg,iter,ifs,0⟩,⟨tg2,i2,f2,0⟩] scope pos) (lE X (lc2D pick ti t tc ti2 t2 tc2 te)):=
 (jkX hc S hw hg hi he hw2 hg2 hi2 hs2 hs).imp fun _ _ _ h=>jgy hp hp2 hp3 h
end
section
variable {X:Cx}{e:Expr}{te ta tb:UE}{p pos:Pos}
theorem jmC (hc:X.calm=true)(hg:Gl X "list")(hm:X.mg "list" = none)(ha:PE X e (lE X te))(he:starEach [e] X.env=[(false,eval e X.env)]) :
  PE X (.Call (.Name "list" p) [e] [] pos) (lE X fun ς G Q E=>te ς G (fun x G1=>mkDU x G1 Q) E):=by
 refine (jbO (jfP hc) hg hm PyProof.Rows.boot_list (jcZ ha jfq he) (by decide) (by decide) he rfl).imp fun σ H Q0 h=>?_
 obtain ⟨ς,G,Q,E,hς,hG,h,lv,lx⟩:=h
 refine ⟨ς,G,fun us G1=>match us with | [x]=>mkDU x G1 Q | _=>False,E,hς,hG,h,fun us vs G1 H1 rs hG1 f1 h1=>?_,lx⟩
 dsimp only at h1
 split at h1
 ·obtain ⟨v,rfl,r⟩:=rs.one
  unfold mkDU at h1
  split at h1
  ·cases r
   split at h1
   ·rename_i kvs g
    obtain ⟨ns,hk,q⟩:=h1
    obtain ⟨l,e,rk⟩:=hG1 _ _ g
    refine ⟨_,l,ns,rfl,e,?_,fun p hp=>(lv.fr f1).lst hp (jfb _) hG1 q⟩
    rw [<- jf9 rk]; exact hk
   ·exact h1.elim
  ·exact h1.elim
 ·exact h1.elim
theorem jmB (hg:Gl X "list")(hm:X.mg "list" = none)(ha:PE X e (lE X te))(he:starEach [e] X.env=[(false,eval e X.env)]) :
  PE X (.Call (.Name "list" p) [e] [] pos) (lE X fun ς G Q E=>te ς G (fun x G1=>itU x G1 fun xs _=>newO G1 (.lst xs) Q) E):=by
 refine (jbO (jem (X:=X)) hg hm PyProof.Rows.boot_list (jcZ ha jfq he) (by decide) (by decide) he rfl).imp fun σ H Q0 h=>?_
 obtain ⟨ς,G,Q,E,hς,hG,h,lv,lx⟩:=h
 refine ⟨ς,G,fun us G1=>match us with | [x]=>(itU x G1 fun xs _=>newO G1 (.lst xs) Q) | _=>False,E,hς,hG,h,fun us vs G1 H1 rs hG1 f1 h1=>?_,lx⟩
 dsimp only at h1
 split at h1
 ·obtain ⟨v,rfl,r⟩:=rs.one
  unfold itU at h1
  split at h1
  ·obtain ⟨a,ws,rfl,ea,rr⟩:=r
   exact ⟨a,ws,rfl,.inr (.of ea),fun l hl=>(lv.fr f1).lst hl rr hG1 h1⟩
  ·cases r
   split at h1
   ·rename_i us eu
    obtain ⟨ws,sq,rr⟩:=hG1.ls eu
    exact ⟨_,ws,rfl,.inl sq,fun l hl=>(lv.fr f1).lst hl rr hG1 h1⟩
   ·exact h1.elim
  ·exact h1.elim
 ·exact h1.elim
theorem jmA (hg:Gl X "tuple")(hm:X.mg "tuple" = none)(ha:PE X e (lE X te))(he:starEach [e] X.env=[(false,eval e X.env)]) :
  PE X (.Call (.Name "tuple" p) [e] [] pos) (lE X fun ς G Q E=>te ς G (fun x G1=>itU x G1 fun xs _=>Q (.tup xs) G1) E):=by
 refine (jbO (jdC (X:=X)) hg hm PyProof.Rows.boot_tuple (jcZ ha jfq he) (by decide) (by decide) he rfl).imp fun σ H Q0 h=>?_
 obtain ⟨ς,G,Q,E,hς,hG,h,lv,lx⟩:=h
 refine ⟨ς,G,fun us G1=>match us with | [x]=>(itU x G1 fun xs _=>Q (.tup xs) G1) | _=>False,E,hς,hG,h,fun us vs G1 H1 rs hG1 f1 h1=>?_,lx⟩
 dsimp only at h1
 split at h1
 ·obtain ⟨v,rfl,r⟩:=rs.one
  unfold itU at h1
  split at h1
  ·obtain ⟨a,ws,rfl,ea,rr⟩:=r
   exact ⟨a,ws,rfl,.inr ⟨.of ea,(lv.fr f1).here (w:=.tup _) ⟨a,ws,rfl,ea,rr⟩ hG1 h1⟩⟩
  ·cases r
   split at h1
   ·rename_i us eu
    obtain ⟨ws,sq,rr⟩:=hG1.ls eu
    exact ⟨_,ws,rfl,.inl ⟨sq,fun l hl=>(lv.fr f1).tup hl rr hG1 h1⟩⟩
   ·exact h1.elim
  ·exact h1.elim
 ·exact h1.elim
theorem u_ty {x:Str}{n:String}(hg:Gl X x)(hm:X.mg x=none)(hv:bootBuiltins x=some (.type n))(hn:x ≠ "__name__")(hd:(x == ("__debug__" : Str))=false):PE X (.Name x pos) (lE X fun _ G Q _=>Q (.ty n) G):=
 jb0 (u:=.ty n) (jjb (v:=.ty n) hg hm hv rfl hn hd) fun _=>rfl
theorem u_gl {x:Str}{u:U}{v:V}{w:Value}(hg:Gl X x)(hm:X.mg x=some w)(r:RelV v w)(hr:∀ H,RU X.K H u v)(hd:(x == ("__debug__" : Str))=false):PE X (.Name x pos) (lE X fun _ G Q _=>Q u G):=
 jb0 (ji8 hg hm r hd) hr
theorem jkb:PE X (.Dict [] [] pos) (lE X fun _ G Q _=>newO G (.dK []) Q):=by
 refine jhs.imp fun σ H Q0 h p hp=>?_
 obtain ⟨ς,G,Q,E,hς,hG,h,lv,lx⟩:=h
 exact lv (.loc p) (.ref p) _ _ rfl (hG.newO (mo:=.dK []) hp ⟨[],jat,rfl⟩) (Fr.newO hp) (h.at p (hG.nope hp))
theorem RKs.put {κ:Type}[DecidableEq κ]{K:PySem.W.Frag}{H:Hp}{k:κ}{u:U}{v:V}(r:RU K H u v):∀ {kvs:List (κ×U)} {l:List (κ×V)},RKs K H kvs l->RKs K H (dPut kvs k u) (putK l k v):=by
 intro kvs l h
 have any:∀ {kvs:List (κ×U)} {l:List (κ×V)},RKs K H kvs l->(kvs.any fun kv=>decide (kv.1=k))=l.any fun kv=>decide (kv.1=k):=by
  intro kvs
  induction kvs with
  | nil=>intro l h; cases h; rfl
  | cons p q ih=>intro l h; obtain ⟨w,l',rfl,_,rs⟩:=h; simp only [List.any_cons]; rw [ih rs]
 have repl:∀ {kvs:List (κ×U)} {l:List (κ×V)},RKs K H kvs l->RKs K H (kvs.map fun kv=>if kv.1=k then (kv.1,u) else kv) (l.map fun kv=>if kv.1=k then (kv.1,v) else kv):=by
  intro kvs
  induction kvs with
  | nil=>intro l h; cases h; rfl
  | cons p q ih=>
   intro l h
   obtain ⟨k',u'⟩:=p
   obtain ⟨w,l',rfl,rw',rs⟩:=h
   simp only [List.map_cons]
   by_cases e:k'=k
   ·rw [if_pos e,if_pos e]; exact ⟨v,_,rfl,r,ih rs⟩
   ·rw [if_neg e,if_neg e]; exact ⟨w,_,rfl,rw',ih rs⟩
 have snoc:∀ {kvs:List (κ×U)} {l:List (κ×V)},RKs K H kvs l->RKs K H (kvs++[(k,u)]) (l++[(k,v)]):=by
  intro kvs
  induction kvs with
  | nil=>intro l h; cases h; exact ⟨v,[],rfl,r,rfl⟩
  | cons p q ih=>intro l h; obtain ⟨k',u'⟩:=p; obtain ⟨w,l',rfl,rw',rs⟩:=h; exact ⟨w,_,rfl,rw',ih rs⟩
 unfold dPut putK
 rw [any h]
 split
 ·exact repl h
 ·exact snoc h
theorem RKs.length {κ:Type}{K:PySem.W.Frag}{H:Hp}:∀ {kvs:List (κ×U)} {l:List (κ×V)},RKs K H kvs l->kvs.length=l.length
 | [],_,h=>by cases h; rfl
 | (_,_)::_,_,h=>by obtain ⟨v,l',rfl,_,rs⟩:=h; simp [rs.length]
theorem RKs.merge {K:PySem.W.Frag}{H:Hp}:∀ {more:List (Key×U)} {m:List (Key×V)},RKs K H more m->∀ {kvs:List (Key×U)} {l:List (Key×V)},RKs K H kvs l->RKs K H (more.foldl (fun acc kv=>dPut acc kv.1 kv.2) kvs) (jcC l m)
 | [],_,h,_,_,h'=>by cases h; exact h'
 | (k,u)::more,_,h,_,_,h'=>by
  obtain ⟨v,l',rfl,r,rs⟩:=h
  exact RKs.merge rs (h'.put r)
noncomputable def lD (X:Cx)(t:Sg->Gp->(List (Key×U)->Gp->Prop)->KX->Prop)(trs:List (TE×TE)):Prop:=
 ∀ σ H ς G Q E (Q0:List (V×V)->Hp->Prop),SR X.K H ς σ->HR X.K H G->t ς G Q E->LX X σ H G E->
  (∀ kvs (l:List (Key×V)) G' H',RKs X.K H' kvs l->HR X.K H' G'->Fr H G H' G'->Q kvs G'->Q0 (l.map fun kv=>(kV kv.1,kv.2)) H')->jeW trs σ H Q0
theorem jmG {keys:List (Option Expr)}{values:List Expr}{trs:List (TE×TE)}{t:Sg->Gp->(List (Key×U)->Gp->Prop)->KX->Prop}(hp:PPs X pos keys values trs)(hd:lD X t trs)(hall:keys.all (·.isSome)=true)(hl:keys.length=values.length)(h0:keys≠[])
  (h15:keys.length<=15):PE X (.Dict keys values pos) (lE X fun ς G Q E=>t ς G (fun kvs G1=>kvs.length<=15/\newO G1 (.dK (jcS kvs)) Q) E):=by
 refine (ji9 hp hall hl h0 h15).imp fun σ H Q0 h p hp=>?_
 obtain ⟨ς,G,Q,E,hς,hG,h,lv,lx⟩:=h
 have gp:=hG.nope hp
 refine hd σ _ ς G _ E _ (hς.ts (TS.new hp)) (hG.newH hp) h (lx.fr (Fr.new hp)) fun kvs l G' H' r hG' f q=>?_
 obtain ⟨e,g⟩:=f p _ jat gp
 refine ⟨e,l,rfl,by rw [<- r.length]; exact q.1,?_⟩
 have ts:TS H' (upd H' p (.dK (jcC [] l))):=fun a xs h=>by
  have:a≠p:=fun z=>by subst z; rw [e] at h; cases h
  rw [jai this]; exact h
 refine lv (.loc p) (.ref p) (gup G' p (.dK (jcS kvs))) _ rfl (fun a ob z=>?_) (fun a o ha ga=>?_) (q.2.at p g)
 ·by_cases ea:a=p
  ·subst ea
   rw [jah] at z
   cases z
   exact ⟨_,jat,(RKs.merge r (kvs:=[]) (l:=[]) rfl).ts ts⟩
  ·rw [jaT ea] at z
   exact (hG' a ob z).keep (jai ea) ts
 ·have ea:a≠p:=jag ha hp
  obtain ⟨x1,x2⟩:=f a o (by rw [jai ea]; exact ha) ga
  exact ⟨by rw [jai ea]; exact x1,by rw [jaT ea]; exact x2⟩
theorem jlu:lD X (fun _ G Q _=>Q [] G) []:=fun σ H ς G Q E Q0 hς hG h lx q=>q [] [] G H rfl hG (Fr.refl _ _) h
theorem jjx {tk tv : UE}{t : Sg -> Gp -> (List (Key × U) -> Gp -> Prop) -> KX -> Prop}{trs : List (TE × TE)}(hr : lD X t trs) : lD X (fun ς G Q E => tk ς G (fun x G1 => tv ς G1 (fun y G2 => match kU x with
      | some k => t ς G2 (fun kvs G3 => Q ((k, y) :: kvs) G3) E
      | none => False) E) E) ((lE X tk, lE X tv) :: trs) := by
  intro σ H ς G Q E Q0 hς hG h lx q
  refine ⟨ς, G, _, E, hς, hG, h, fun x v G1 H1 rx hG1 f1 h1 => ?_, lx⟩
  refine ⟨ς, G1, _, E, hς.ts (f1.ts hG), hG1, h1, fun y v' G2 H2 ry hG2 f2 h2 => ?_, lx.fr f1⟩
  dsimp only at h2
  split at h2
  · rename_i k ek
    have := jgD rx ek
    subst this
    refine hr σ H2 ς G2 _ E _ ((hς.ts (f1.ts hG)).ts (f2.ts hG1)) hG2 h2 (lx.fr (f1.trans f2)) fun kvs l G3 H3 r hG3 f3 h3 => ?_
    exact q ((k, y) :: kvs) ((k, v') :: l) G3 H3 ⟨v', l, rfl, ry.ts (f3.ts hG2), r⟩ hG3 ((f1.trans f2).trans f3) h3
  · exact h2.elim
end
end Z

namespace L2
open PySem
end L2
namespace Z
open PySem L2
set_option maxHeartbeats 4000000
structure LD (X:Cx)(H:Hp)(G:Gp)(De:En)(D:Ends):Prop where
 nx:∀ ς' σ' G' H',SR X.K H' ς' σ'->HR X.K H' G'->Fr H G H' G'->De.nx ς' G'->D.nx σ' H'
 rt:∀ w v G' H',RU X.K H' w v->HR X.K H' G'->Fr H G H' G'->De.rt w G'->D.rt v H'
 ex:∀ (pins:List (Addr×Obj)) (e:Value) (s':Shared) (x:XV) ς' σ' G' H',Inv X pins σ' H' s'->SR X.K H' ς' σ'->XAt X H' s' e x->HR X.K H' G'->Fr H G H' G'->De.ex x ς' G'->X.xe e s'
noncomputable abbrev US:=En->Sg->Gp->Prop
noncomputable def lS (X:Cx)(t:US):L2.TS:=fun D σ H=>∃ De ς G,SR X.K H ς σ/\HR X.K H G/\t De ς G/\LD X H G De D
section
variable {X:Cx}{H H1:Hp}{G G1:Gp}{De:En}{D:Ends}{ς:Sg}{σ:St}
theorem LD.fr (h:LD X H G De D)(f:Fr H G H1 G1):LD X H1 G1 De D:=
 ⟨fun ς' σ' G' H' a b c=>h.nx ς' σ' G' H' a b (f.trans c),fun w v G' H' a b c=>h.rt w v G' H' a b (f.trans c),fun pins e s' x ς' σ' G' H' i a b c d=>h.ex pins e s' x ς' σ' G' H' i a b c (f.trans d)⟩
theorem LD.lx (h:LD X H G De D)(hς:SR X.K H ς σ)(hG:HR X.K H G):LX X σ H G fun x G1=>De.ex x ς G1:=fun pins e s' x G' H' I a hr f q=>h.ex pins e s' x ς σ G' H' I (hς.ts (f.ts hG)) a hr f q
theorem LD.here (h:LD X H G De D)(hς:SR X.K H ς σ)(hG:HR X.K H G)(q:De.nx ς G):D.nx σ H:=h.nx ς σ G H hς hG (Fr.refl _ _) q
theorem LD.with {k:Sg->Gp->Prop}{D':Ends}(h:LD X H G De D)(hn:∀ ς' σ' G' H',SR X.K H' ς' σ'->HR X.K H' G'->Fr H G H' G'->k ς' G'->D'.nx σ' H')(hr:D'.rt=D.rt):LD X H G { De with nx:=k } D':=
 ⟨hn,fun w v G' H' a b c d=>by rw [hr]; exact h.rt w v G' H' a b c d,h.ex⟩
end
section
variable {X:Cx}{st:Stmt}{rest:List Stmt}{pos:Pos}{e:Expr}{te:UE}{t u:US}
theorem s_nil:PSs X [] (lS X fun D ς G=>D.nx ς G):=jiW.imp fun D σ H ⟨De,ς,G,hς,hG,h,ld⟩=>ld.here hς hG h
theorem s_cons (h1:PS X st (lS X t))(h2:PSs X rest (lS X u)):PSs X (st::rest) (lS X fun D ς G=>t { D with nx:=fun ς' G'=>u D ς' G' } ς G):=by
 refine (jhk h1 h2).imp fun D σ H ⟨De,ς,G,hς,hG,h,ld⟩=>?_
 exact ⟨_,ς,G,hς,hG,h,ld.with (fun ς' σ' G' H' a b c d=>⟨De,ς',G',a,b,d,ld.fr c⟩) rfl⟩
theorem s_expr (he:PE X e (lE X te))(hs:swapsWith e none pos.line X.env=pure false):PS X (.Expr e pos) (lS X fun D ς G=>te ς G (fun _ G1=>D.nx ς G1) fun x G1=>D.ex x ς G1):=
 (jiX he hs).imp fun D σ H ⟨De,ς,G,hς,hG,h,ld⟩=>⟨ς,G,_,_,hς,hG,h,fun w v G' H' _ hr f q=>ld.nx ς σ G' H' (hς.ts (f.ts hG)) hr f q,ld.lx hς hG⟩
theorem s_ret (he:PE X e (lE X te)):PS X (.Return (some e) pos) (lS X fun D ς G=>te ς G D.rt fun x G1=>D.ex x ς G1):=
 (jkI he).imp fun D σ H ⟨De,ς,G,hς,hG,h,ld⟩=>⟨ς,G,_,_,hς,hG,h,fun w v G' H' r hr f q=>ld.rt w v G' H' r hr f q,ld.lx hς hG⟩
theorem s_if {c:Expr}{a b:List Stmt}{tc:UT}(hc:PT X c (lT X tc))(ha:PSs X a (lS X t))(hb:PSs X b (lS X u)):PS X (.If c a b pos) (lS X fun D ς G=>tc ς G (fun x G1=>if x=true then t D ς G1 else u D ς G1) fun x G1=>D.ex x ς G1):=by
 refine (jm2 hc ha hb).imp fun D σ H ⟨De,ς,G,hς,hG,h,ld⟩=>⟨ς,G,_,_,hς,hG,h,fun b G' H' hr f q=>?_,ld.lx hς hG⟩
 cases b with
 | true=>rw [if_pos rfl] at q ⊢; exact ⟨De,ς,G',hς.ts (f.ts hG),hr,q,ld.fr f⟩
 | false=>rw [if_neg Bool.false_ne_true] at q ⊢; exact ⟨De,ς,G',hς.ts (f.ts hG),hr,q,ld.fr f⟩
theorem jjZ {g:Tg}{D:Ends}{σ:St}{H:Hp}(h:lS X (fun D ς G=>te ς G (fun u G1=>tgU g u ς fun ς'=>D.nx ς' G1) fun x G1=>D.ex x ς G1) D σ H) :
  lE X te σ H fun x H1=>lG X.K (tgU g) x σ H1 D.nx:=by
 obtain ⟨De,ς,G,hς,hG,h,ld⟩:=h
 exact ⟨ς,G,_,_,hς,hG,h,fun w v G' H' r hr f q=>⟨w,ς,_,r,hς.ts (f.ts hG),q,fun ς' σ' hs hk=>ld.nx ς' σ' G' H' hs hr f hk⟩,ld.lx hς hG⟩
theorem s_asg {tg:Expr}{g:Tg}(he:PE X e (lE X te))(hg:PG X tg (lG X.K (tgU g)))(hs:swapsWithSole [tg] e pos.line X.env=pure false)(hw:swappedStores [tg] e X.env=pure none)
  (h1:(assignEach [tg] X.env).map (·.2)=[assign tg X.env]):PS X (.Assign [tg] e pos) (lS X fun D ς G=>te ς G (fun u G1=>tgU g u ς fun ς'=>D.nx ς' G1) fun x G1=>D.ex x ς G1):=
 (jh4 he hg hs hw h1).imp fun _ _ _ h=>jjZ h
theorem s_lc {i:Nat}{y:Str}{py spos:Pos}{tg iter elt:Expr}{ifs:List Expr}{pick:List (Option Nat)}{N:List Str}{scope:Scope}{ti:UI}{g:Tg}{tc:Sg->Gp->(Bool->Gp->Prop)->Prop}
  (hN:X.N.Nodup) (hi':X.N[i]?=some y) (hy:X.env.scope.names.lookup y=some .local) (hc:X.calm=true) (S:CScope X N pick scope) (hw:PI X tg iter (lI X ti)) (hp:(tgS g).all (fun i=>(pick[i]?).join.isNone)=true)
  (hg:∀ cl C s₀ H₀ fp,PG (jad X N scope cl C s₀ H₀ fp) tg (lG X.K (tgU g))) (hi:∀ cl C s₀ H₀ fp,PIfs (jad X N scope cl C s₀ H₀ fp) ifs (lT0 X.K tc)) (he:∀ cl C s₀ H₀ fp,PE (jad X N scope cl C s₀ H₀ fp) elt (lE0 X.K te))
  (hsw:swapsWith (.ListComp elt [⟨tg,iter,ifs,0⟩] scope pos) (some (.Name y py)) spos.line X.env=pure true) (hs:∀ x,foldedSetIterable iter X.env x=pure x) :
  PS X (.Assign [.Name y py] (.ListComp elt [⟨tg,iter,ifs,0⟩] scope pos) spos) (lS X fun D ς G=>lcD pick ti g tc te ς G (fun u G1=>tgU (.n i) u ς fun ς'=>D.nx ς' G1) fun x G1=>D.ex x ς G1):=by
 refine (jm1 hN hi' hy hc S hw hg hi he hsw hs).imp fun D σ H h=>?_
 obtain ⟨De,ς,G,hς,hG,h,ld⟩:=h
 exact jih hp ⟨ς,G,_,_,hς,hG,h,fun w v G' H' r hr f q=>ld.nx _ _ G' H' ((hς.ts (f.ts hG)).set r i) hr f q,ld.lx hς hG⟩
theorem s_lc2 {ti2:UI}{t2:Tg}{tc2:Sg->Gp->(Bool->Gp->Prop)->Prop}{tg2 i2:Expr}{f2:List Expr}{i:Nat}{y:Str}{py spos:Pos}{tg iter elt:Expr}{ifs:List Expr}{pick:List (Option Nat)}{N:List Str}{scope:Scope}{ti:UI}{g:Tg}{tc:Sg->Gp->(Bool->Gp->Prop)->Prop}
  (hN:X.N.Nodup) (hi':X.N[i]?=some y) (hy:X.env.scope.names.lookup y=some .local) (hc:X.calm=true) (S:CScope X N pick scope) (hw:PI X tg iter (lI X ti)) (hp:(tgS g).all (fun i=>(pick[i]?).join.isNone)=true)
  (hp2:(tgS t2).all (fun i=>(pick[i]?).join.isNone)=true) (hp3:(tgS t2).all (fun i=>!(tgS g).contains i)=true)
  (hg:∀ cl C s₀ H₀ fp,PG (jad X N scope cl C s₀ H₀ fp) tg (lG X.K (tgU g))) (hi:∀ cl C s₀ H₀ fp,PIfs (jad X N scope cl C s₀ H₀ fp) ifs (lT0 X.K tc)) (he:∀ cl C s₀ H₀ fp,PE (jad X N scope cl C s₀ H₀ fp) elt (lE0 X.K te))
  (hw2:∀ cl C s₀ H₀ fp,PI (jad X N scope cl C s₀ H₀ fp) tg2 i2 (lI0 X.K ti2)) (hg2:∀ cl C s₀ H₀ fp,PG (jad X N scope cl C s₀ H₀ fp) tg2 (lG X.K (tgU t2))) (hi2:∀ cl C s₀ H₀ fp,PIfs (jad X N scope cl C s₀ H₀ fp) f2 (lT0 X.K tc2)) (hs2:∀ (env:Env) x,foldedSetIterable i2 env x=pure x)
  (hsw:swapsWith (.ListComp elt [⟨tg,iter,ifs,0⟩,⟨tg2,i2,f2,0⟩] scope pos) (some (.Name y py)) spos.line X.env=pure true) (hs:∀ x,foldedSetIterable iter X.env x=pure x) :
  PS X (.Assign [.Name y py] (.ListComp elt [⟨tg,iter,ifs,0⟩,⟨tg2,i2,f2,0⟩] scope pos) spos) (lS X fun D ς G=>lc2D pick ti g tc ti2 t2 tc2 te ς G (fun u G1=>tgU (.n i) u ς fun ς'=>D.nx ς' G1) fun x G1=>D.ex x ς G1):=by
 refine (jkK hN hi' hy hc S hw hg hi he hw2 hg2 hi2 hs2 hsw hs).imp fun D σ H h=>?_
 obtain ⟨De,ς,G,hς,hG,h,ld⟩:=h
 exact jgy hp hp2 hp3 ⟨ς,G,_,_,hς,hG,h,fun w v G' H' r hr f q=>ld.nx _ _ G' H' ((hς.ts (f.ts hG)).set r i) hr f q,ld.lx hς hG⟩
noncomputable def jkF:TSet:=fun o i v H Q=>∃ a H',o=.ref a/\DPut H a i v H'/\Q H'
theorem jha (hu:X.A.units + 1 < cLine):PSet X jkF:=by
 intro pins s σ H o i v ov iv u Q I ro ri rv h
 obtain ⟨a,H',rfl,g,q⟩:=h
 cases ro
 exact jgX hu I g ri rv fun s' I'=>⟨H',I',q⟩
theorem _root_.L2.PSet.or {t t':TSet}(h:PSet X t)(h':PSet X t'):PSet X fun o i v H Q=>t o i v H Q\/t' o i v H Q:=by
 intro pins s σ H o i v ov iv u Q I ro ri rv q
 rcases q with q | q
 ·exact h pins s σ H o i v ov iv u Q I ro ri rv q
 ·exact h' pins s σ H o i v ov iv u Q I ro ri rv q
theorem jiN {H:Hp}{G:Gp}{x y w:U}{v v' v'':V}{k:Gp->Prop}{Q0:Hp->Prop}(rx:RU X.K H x v)(ry:RU X.K H y v')(rw':RU X.K H w v'')(hG:HR X.K H G)(h:setU x y w G k)
  (q:∀ G' H',HR X.K H' G'->Fr H G H' G'->k G'->Q0 H'):jkE v v' v'' H Q0\/jkF v v' v'' H Q0:=by
 cases x with
 | loc a=>
  cases rx
  unfold setU at h
  dsimp only at h
  split at h
  ·rename_i xs g
   obtain ⟨vs,e,rs⟩:=hG.lst g
   cases y with
   | int i=>
    cases ry
    dsimp only at h
    split at h
    ·rename_i j ej
     refine .inl ⟨a,vs,i,j,rfl,rfl,e,by rw [<- rs.length]; exact ej,?_⟩
     exact q _ _ (hG.write (mo':=.lst (xs.set j w)) g ⟨_,jat,(rs.set rw' j).ts (TS.write hG g)⟩) (Fr.write g) h.at
    ·exact h.elim
   | _=>exact h.elim
  ·rename_i kvs g
   obtain ⟨l,e,rs⟩:=hG a _ g
   split at h
   ·rename_i k' ek
    have:=jgD ry ek
    subst this
    refine .inr ⟨a,_,rfl,DPut.k e (by rw [<- rs.length]; exact h.1),?_⟩
    exact q _ _ (hG.write (mo':=.dK (dPut kvs k' w)) g ⟨_,jat,(rs.put rw').ts (TS.write hG g)⟩) (Fr.write g) h.2.at
   ·exact h.elim
  ·rename_i kvs g
   obtain ⟨l,e,rs⟩:=hG a _ g
   cases y with
   | tup ys=>
    obtain ⟨b,ws,rfl,eb,rb⟩:=ry
    dsimp only at h
    split at h
    ·rename_i k' ek
     have:=je8 rb ek
     subst this
     refine .inr ⟨a,_,rfl,DPut.t e eb (by rw [<- rs.length]; exact h.1),?_⟩
     exact q _ _ (hG.write (mo':=.dT (dPut kvs k' w)) g ⟨_,jat,(rs.put rw').ts (TS.write hG g)⟩) (Fr.write g) h.2.at
    ·exact h.elim
   | _=>exact h.elim
  ·exact h.elim
 | _=>exact h.elim
theorem s_set {o i:Expr}{to ti:UE}{tpos:Pos}(hu:X.A.units + 1 < cLine)(he:PE X e (lE X te))(ho:PE X o (lE X to))(hi:PE X i (lE X ti))(hs:swapsWithSole [.Subscript o i tpos] e pos.line X.env=pure false)(hw:swappedStores [.Subscript o i tpos] e X.env=pure none)
  (h1:(assignEach [.Subscript o i tpos] X.env).map (·.2)=[assign (.Subscript o i tpos) X.env]) (ha:∀ v,assign (.Subscript o i tpos) X.env v=(do
   let ov <- holding [v] (eval o X.env)
   let iv <- holding [v,ov] (eval i X.env)
   standAt tpos
   holding [v,ov,iv] (setItem ov iv v)
   release [v,ov,iv] [])):PS X (.Assign [.Subscript o i tpos] e pos) (lS X fun D ς G=>te ς G (fun v G1=>to ς G1 (fun x G2=>ti ς G2 (fun y G3=>setU x y v G3 fun G4=>D.nx ς G4) fun x G1=>D.ex x ς G1) fun x G1=>D.ex x ς G1) fun x G1=>D.ex x ς G1):=by
 refine (jh4 he (jkQ ho hi (PSet.or jg9 (jha hu)) ha) hs hw h1).imp fun D σ H ⟨De,ς,G,hς,hG,h,ld⟩=>?_
 refine ⟨ς,G,_,_,hς,hG,h,fun w v G1 H1 rw' hG1 f1 h1=>?_,ld.lx hς hG⟩
 have hς1:=hς.ts (f1.ts hG)
 refine ⟨ς,G1,_,_,hς1,hG1,h1,fun x vx G2 H2 rx hG2 f2 h2=>?_,(ld.fr f1).lx hς1 hG1⟩
 have hς2:=hς1.ts (f2.ts hG1)
 refine ⟨ς,G2,_,_,hς2,hG2,h2,fun y vy G3 H3 ry hG3 f3 h3=>?_,(ld.fr (f1.trans f2)).lx hς2 hG2⟩
 have hς3:=hς2.ts (f3.ts hG2)
 exact jiN (rx.ts (f3.ts hG2)) ry ((rw'.ts (f2.ts hG1)).ts (f3.ts hG2)) hG3 h3 fun G' H' hr f q=>ld.nx ς σ G' H' (hς3.ts (f.ts hG3)) hr (((f1.trans f2).trans f3).trans f) q
noncomputable def IpU (X:Cx)(o:Operator):Prop:=∃ r:TIp,PIp X o r/\∀ x y v v' G H Q Q0,RU X.K H x v->RU X.K H y v'->HR X.K H G->jdw o x y G Q->LV X H G Q Q0->r v v' H Q0
theorem jlG (o:Operator):IpU X o:=by
 cases o with
 | Add=>
  refine ⟨_,(OpR.or (jjH (X:=X)) jeD),fun x y v v' G H Q Q0 rx ry hG h lv=>?_⟩
  unfold jdw at h
  split at h <;> first | contradiction | skip
  ·cases rx; cases ry; exact .inl ⟨_,_,rfl,rfl,lv.int hG h⟩
  ·cases rx; cases ry; exact .inr ⟨_,_,rfl,rfl,h.1,lv.str hG h.2⟩
 | Sub=>
  refine ⟨_,jjF (X:=X),fun x y v v' G H Q Q0 rx ry hG h lv=>?_⟩
  unfold jdw at h
  split at h <;> first | contradiction | skip
  cases rx; cases ry; exact ⟨_,_,rfl,rfl,lv.int hG h⟩
 | Mult=>
  refine ⟨_,jjG (X:=X),fun x y v v' G H Q Q0 rx ry hG h lv=>?_⟩
  unfold jdw at h
  split at h <;> first | contradiction | skip
  cases rx; cases ry; exact ⟨_,_,rfl,rfl,h.1,lv.int hG h.2⟩
 | _=>exact ⟨fun _ _ _ _=>False,fun _ _ _ _ _ _ _ _ _ _ _ _ h=>h.elim,fun _ _ _ _ _ _ _ _ _ _ _ h _=>by unfold jdw at h; split at h <;> first | contradiction | exact h⟩
theorem s_aug {i:Nat}{x:Str}{o:Operator}{pos':Pos}(hN:X.N.Nodup)(hi:X.N[i]?=some x)(hx:Loc X.env.scope x)(hf:X.fn x=true\/X.env.scope.names.lookup x=some .local)(he:PE X e (lE X te)) :
  PS X (.AugAssign (.Name x pos') o e pos) (lS X fun D ς G=>slot ς i fun x=>te ς G (fun y G1=>jdw o x y G1 fun z G2=>D.nx (ς.set i (some z)) G2) fun x G1=>D.ex x ς G1):=by
 obtain ⟨r,h1,h2⟩:=jlG (X:=X) o
 refine (jkM hN hi hx he h1 hf).imp fun D σ H ⟨De,ς,G,hς,hG,h,ld⟩=>?_
 dsimp only at h
 unfold slot at h
 split at h
 ·rename_i u eu
  obtain ⟨v,ev,ru⟩:=hς.2 i u eu
  refine ⟨v,ev,ς,G,_,_,hς,hG,h,fun y vy G1 H1 ry hG1 f1 h1=>?_,ld.lx hς hG⟩
  exact h2 u y v vy G1 H1 _ _ (ru.ts (f1.ts hG)) ry hG1 h1 fun w vw G2 H2 rw' hr2 f2 q=>ld.nx _ _ G2 H2 (((hς.ts (f1.ts hG)).ts (f2.ts hG1)).set rw' i) hr2 (f1.trans f2) q
 ·exact h.elim
theorem _root_.L2.PGet.or {t t':V->V->Hp->VK->Prop}(h:PGet X t)(h':PGet X t'):PGet X fun o i H Q=>t o i H Q\/t' o i H Q:=by
 intro pins s σ H o i ov iv Q I ro ri q
 rcases q with q | q
 ·exact h pins s σ H o i ov iv Q I ro ri q
 ·exact h' pins s σ H o i ov iv Q I ro ri q
theorem s_par2 {i j:Nat}{x y:Str}{a b:Expr}{ts:UA}{px py pt:Pos}{kt k2 pt2}(hc:X.calm=true)(hN:X.N.Nodup)(hi:X.N[i]?=some x)(hj:X.N[j]?=some y)(hij:i≠j)
  (hx:X.env.scope.names.lookup x=some .local) (hy:X.env.scope.names.lookup y=some .local) (ha:PA X [a,b] (lA X ts))
  (hw:swappedStores [.Tuple [.Name x px,.Name y py] kt pt] (.Tuple [a,b] k2 pt2) X.env=pure (some [x,y])) (hs:swapsWithSole [.Tuple [.Name x px,.Name y py] kt pt] (.Tuple [a,b] k2 pt2) pos.line X.env=pure false) :
  PS X (.Assign [.Tuple [.Name x px,.Name y py] kt pt] (.Tuple [a,b] k2 pt2) pos) (lS X fun D ς G=>ts ς G (fun us G1=>us.length=[i,j].length/\D.nx (([i,j].zip us).foldl (fun s p=>s.set p.1 (some p.2)) ς) G1) fun x G1=>D.ex x ς G1):=by
 refine (jkJ hc hN hi hj hij hx hy ha hw hs).imp fun D σ H ⟨De,ς,G,hς,hG,h,ld⟩=>?_
 refine ⟨ς,G,_,_,hς,hG,h,fun us vs G1 H1 rs hG1 f1 h1=>?_,ld.lx hς hG⟩
 obtain ⟨h1,h2⟩:=h1
 match us,h1,h2,rs with
 | [u,w],_,h2,rs=>
  obtain ⟨v,v',rfl,r1,r2⟩:=rs.two
  exact ⟨v,v',rfl,ld.nx _ _ G1 H1 (((hς.ts (f1.ts hG)).set r1 i).set r2 j) hG1 f1 h2⟩
theorem s_for {tg iter:Expr}{body:List Stmt}{ti:UI}{g:Tg}{tb:US}(hp:PassesOwn (model X.prog X.w) X.A X.env X.xe)(hc:X.calm=true)(hi:PI X tg iter (lI X ti))(hg:PG X tg (lG X.K (tgU g)))(hb:PSs X body (lS X tb))
  (hs:∀ x,foldedSetIterable iter X.env x=pure x):PS X (.For tg iter body [] pos) (lS X fun D ς G=>ti ς G (fun xs ok G1=>forL ok (fun x ς1 G2 k=>tgU g x ς1 fun ς2=>tb { D with nx:=k } ς2 G2) xs ς G1 D.nx) fun x G1=>D.ex x ς G1):=by
 refine (jkL hp hc hi hg hb hs).imp fun D σ H ⟨De,ς,G,hς,hG,h,ld⟩=>?_
 refine ⟨ς,G,_,_,hς,hG,h,fun xs ok G1 H1 J hG1 f1 wk h1=>?_,ld.lx hς hG⟩
 refine ⟨fun i m σ' H'=>m=xs.length - i/\i<=xs.length/\∃ ς' G',SR X.K H' ς' σ'/\HR X.K H' G'/\Fr H1 G1 H' G'/\forL ok (fun x ς1 G2 k=>tgU g x ς1 fun ς2=>tb { De with nx:=k } ς2 G2) (xs.drop i) ς' G' De.nx,⟨xs.length,by simp,Nat.zero_le _,ς,G1,hς.ts (f1.ts hG),hG1,Fr.refl _ _,by simpa using h1⟩,?_⟩
 rintro i m σ' H' ⟨rfl,hi',ς',G',sr,hr,f,hc'⟩
 by_cases hlt:i < xs.length
 ·rw [List.drop_eq_getElem_cons hlt] at hc'
  obtain ⟨hok,hb'⟩:=hc'
  obtain ⟨w1,_⟩:=wk i H' G' (f.ts hG1) hr hok
  obtain ⟨go,yl⟩:=w1 xs[i] (by simp [hlt])
  refine .inr ⟨go,fun σ2 H2=>∃ ς2 G2,SR X.K H2 ς2 σ2/\HR X.K H2 G2/\Fr H1 G1 H2 G2/\forL ok (fun x ς1 G2 k=>tgU g x ς1 fun ς2=>tb { De with nx:=k } ς2 G2) (xs.drop (i + 1)) ς2 G2 De.nx,fun σ2 H2 q=>⟨xs.length - (i + 1),by omega,rfl,hlt,q⟩,fun v H'' y=>?_⟩
  obtain ⟨rx,hr2,f2⟩:=yl v H'' y
  refine ⟨xs[i],ς',_,rx,sr.ts (f2.ts hr),hb',fun ς2 σ2 hs2 hk=>?_⟩
  have f3:=(f1.trans f).trans f2
  refine ⟨_,ς2,G',hs2,hr2,hk,(ld.fr f3).with (fun ς3 σ3 G3 H3 a b c d=>⟨ς3,G3,a,b,(f.trans f2).trans c,d⟩) rfl⟩
 ·have e:i=xs.length:=by omega
  subst e
  rw [List.drop_length] at hc'
  obtain ⟨hok,q⟩:=hc'
  exact .inl ⟨(wk xs.length H' G' (f.ts hG1) hr hok).2 rfl,ld.nx ς' σ' G' H' sr hr (f1.trans f) q⟩
theorem s_wh {c:Expr}{body:List Stmt}{tc:UT}{tb:US}(hp:PassesOwn (model X.prog X.w) X.A X.env X.xe)(hc:PT X c (lT X tc))(hb:PSs X body (lS X tb)) :
  PS X (.While c body [] pos) (lS X fun D ς G=>∃ W:Nat->Sg->Gp->Prop,(∃ m,W m ς G)/\∀ m ς1 G1,W m ς1 G1->
   tc ς1 G1 (fun t G2=>if t=true then tb { D with nx:=fun ς' G'=>∃ m',m' < m/\W m' ς' G' } ς1 G2 else D.nx ς1 G2) fun x G1=>D.ex x ς1 G1):=by
 refine (jhl hp hc hb).imp fun D σ H ⟨De,ς,G,hς,hG,h,ld⟩=>?_
 obtain ⟨W,⟨m0,w0⟩,turn⟩:=h
 refine ⟨fun m σ' H'=>∃ ς' G',SR X.K H' ς' σ'/\HR X.K H' G'/\Fr H G H' G'/\W m ς' G',⟨m0,ς,G,hς,hG,Fr.refl _ _,w0⟩,?_⟩
 rintro m σ' H' ⟨ς',G',sr,hr,f,w⟩
 refine ⟨ς',G',_,_,sr,hr,turn m ς' G' w,fun b G2 H2 hr2 f2 q=>?_,(ld.fr f).lx sr hr⟩
 cases b with
 | true=>
  rw [if_pos rfl] at q ⊢
  refine ⟨fun σ3 H3=>∃ ς3 G3,SR X.K H3 ς3 σ3/\HR X.K H3 G3/\Fr H G H3 G3/\∃ m',m' < m/\W m' ς3 G3,fun σ3 H3 ⟨ς3,G3,a,b,c,m',hm,w'⟩=>⟨m',hm,ς3,G3,a,b,c,w'⟩,?_⟩
  exact ⟨_,ς',G2,sr.ts (f2.ts hr),hr2,q,(ld.fr (f.trans f2)).with (fun ς3 σ3 G3 H3 a b c d=>⟨ς3,G3,a,b,(f.trans f2).trans c,d⟩) rfl⟩
 | false=>
  rw [if_neg Bool.false_ne_true] at q ⊢
  exact ld.nx ς' σ' G2 H2 (sr.ts (f2.ts hr)) hr2 (f.trans f2) q
end
structure Ctx where
 N:List Str
 sc:List (Str×NameKind)
noncomputable def kd (c:Ctx)(x:Str)(k:NameKind):Bool:=c.sc.lookup x == some k
noncomputable def glo (c:Ctx)(x:Str):Bool:=kd c x .globalImplicit && !(x == ("__debug__" : Str))
noncomputable def nm1:Expr->List Str
 | .Name x _=>[x]
 | _=>[]
noncomputable def nm2:Expr->List Str
 | .Tuple es _ _=>es.flatMap nm1
 | e=>nm1 e
noncomputable def jes:Expr->List Str
 | .Tuple es _ _=>es.flatMap nm2
 | e=>nm1 e
noncomputable def jfV:List String:=["bool", "int", "str", "list", "tuple", "dict"]
noncomputable def cOkS (c:Ctx)(N:List Str)(pick:List (Option Nat))(scope:Scope):Bool:=
 decide (scope.kind=.function) && scope.names.all (fun y=>y.2 != .cell || scope.names.lookup y.1 == some .cell) && scope.names.all (fun y=>y.2 != .local || scope.names.lookup y.1 == some .local)
  && scope.names.all (fun y=>y.2 != .free || (scope.names.lookup y.1 == some .free && (kd c y.1 .cell || kd c y.1 .free)))
  && pick.length == N.length && (N.zip pick).all (fun p=>match p.2 with | none=>true | some j=>c.N[j]? == some p.1 && scope.names.lookup p.1 == some .free) && decide N.Nodup
noncomputable def jib:Expr->Bool
 | .Call (.Name _ _) [] [] _=>false
 | _=>true
noncomputable def e0:Expr:=.Name "" ⟨0,0,0,0⟩
noncomputable def hd:List Expr->Expr
 | []=>e0
 | e::_=>e
noncomputable def c0:Expr->Expr
 | .BinOp l _ _ _=>l
 | .UnaryOp _ x _=>x
 | .IfExp t _ _ _=>t
 | .Compare l _ _ _=>l
 | .Subscript v _ _=>v
 | .Attribute v _ _=>v
 | .Call f _ _ _=>f
 | .ListComp e _ _ _=>e
 | _=>e0
noncomputable def c1:Expr->Expr
 | .BinOp _ _ r _=>r
 | .IfExp _ b _ _=>b
 | .Subscript _ s _=>s
 | _=>e0
noncomputable def c2:Expr->Expr
 | .IfExp _ _ b _=>b
 | _=>e0
noncomputable def cl:Expr->List Expr
 | .BoolOp _ vs _=>vs
 | .Compare _ _ vs _=>vs
 | .Call _ vs _ _=>vs
 | .List vs _=>vs
 | .Tuple vs _ _=>vs
 | .Dict _ vs _=>vs
 | _=>[]
noncomputable def kw0:Expr->Keyword
 | .Call _ _ (k::_) _=>k
 | _=>⟨none,e0,⟨0,0,0,0⟩⟩
noncomputable def kk:Expr->Nat
 | .Constant _ k _=>k
 | .Tuple _ k _=>k
 | _=>0
noncomputable def oe:Option Expr->Expr
 | some e=>e
 | none=>e0
noncomputable def dk:Expr->List Expr
 | .Dict ks _ _=>ks.map oe
 | _=>[]
noncomputable def gen1:Expr->Comprehension
 | .ListComp _ (g::_) _ _=>g
 | _=>⟨e0,e0,[],0⟩
noncomputable def gen2:Expr->Comprehension
 | .ListComp _ (_::g::_) _ _=>g
 | _=>⟨e0,e0,[],0⟩
noncomputable def scp:Expr->Scope
 | .ListComp _ _ s _=>s
 | _=>⟨.module,[],false,false,[]⟩
noncomputable def s0:Expr->Expr
 | .Slice (some e) _ _ _=>e
 | _=>e0
noncomputable def s1:Expr->Expr
 | .Slice _ (some e) _ _=>e
 | _=>e0
noncomputable def s2:Expr->Expr
 | .Slice _ _ (some e) _=>e
 | _=>e0
noncomputable def nmA (c:Ctx)(i:Nat):Str:=c.N.getD i ""
noncomputable def boU:Bool->PySem.BoolOp
 | true=>.And
 | false=>.Or
noncomputable def jbq:Es->Nat
 | .nil=>0
 | .cons _ es=>jbq es + 1
noncomputable def jdJ:Tgs->Nat
 | .nil=>0
 | .cons _ ts=>jdJ ts + 1
noncomputable def isT:Tg->Bool
 | .t _=>true
 | .n _=>false
noncomputable def isLc:E->Bool
 | .lc ..=>true
 | .lc2 ..=>true
 | _=>false
noncomputable def cc (c:Ctx)(pick:List (Option Nat))(h:Expr):Ctx:=⟨jes (gen1 h).target++(pick.filterMap id).filterMap (fun j=>c.N[j]?),(scp h).names⟩
noncomputable def cc2 (c:Ctx)(pick:List (Option Nat))(h:Expr):Ctx:=⟨jes (gen1 h).target++jes (gen2 h).target++(pick.filterMap id).filterMap (fun j=>c.N[j]?),(scp h).names⟩
mutual
noncomputable def unTg (c:Ctx):Tg->Expr->Expr
 | .n i,h=>.Name (nmA c i) h.pos
 | .t ts,h=>.Tuple (jdH c ts (cl h)) (kk h) h.pos
noncomputable def jdH (c:Ctx):Tgs->List Expr->List Expr
 | .nil,_=>[]
 | .cons t ts,hs=>unTg c t (hd hs)::jdH c ts hs.tail
end
noncomputable def okN (c:Ctx)(i:Nat):Bool:=decide (i < c.N.length) && (kd c (nmA c i) .local || kd c (nmA c i) .cell)
mutual
noncomputable def okTg (c:Ctx):Tg->Bool
 | .n i=>okN c i
 | .t ts=>jjp c ts
noncomputable def jjp (c:Ctx):Tgs->Bool
 | .nil=>true
 | .cons t ts=>okTg c t && jjp c ts
end
section
variable (T:Tab)
noncomputable def fnN (n:Nat):Str:=match T.funs[n]? with
 | some d=>d.name
 | none => ""
mutual
noncomputable def unE (c:Ctx):E->Expr->Expr
 | .v i,h=>.Name (nmA c i) h.pos
 | .non,h=>.Constant .none (kk h) h.pos
 | .bl b,h=>.Constant (.bool b) (kk h) h.pos
 | .int i,h=>.Constant (.int i) (kk h) h.pos
 | .str x,h=>.Constant (.str x) (kk h) h.pos
 | .g n,h=>.Name (T.gn.getD n "") h.pos
 | .ty n,h=>.Name (Str.ofString n) h.pos
 | .bin o a b,h=>.BinOp (unE c a (c0 h)) o (unE c b (c1 h)) h.pos
 | .neg a,h=>.UnaryOp .USub (unE c a (c0 h)) h.pos
 | .not a,h=>.UnaryOp .Not (unE c a (c0 h)) h.pos
 | .bop k a es,h=>.BoolOp (boU k) (unE c a (hd (cl h))::unEs c es (cl h).tail) h.pos
 | .cmp o a b,h=>.Compare (unE c a (c0 h)) [o] [unE c b (hd (cl h))] h.pos
 | .cmp2 o p a b d,h=>.Compare (unE c a (c0 h)) [o,p] [unE c b (hd (cl h)),unE c d (hd (cl h).tail)] h.pos
 | .ife t a b,h=>.IfExp (unE c t (c0 h)) (unE c a (c1 h)) (unE c b (c2 h)) h.pos
 | .tup es,h=>.Tuple (unEs c es (cl h)) (kk h) h.pos
 | .lst es,h=>.List (unEs c es (cl h)) h.pos
 | .dic es,h=>.Dict (unK c es (dk h)) (unV c es (cl h)) h.pos
 | .dicT,h=>.Dict [] [] h.pos
 | .ix a b,h=>.Subscript (unE c a (c0 h)) (unE c b (c1 h)) h.pos
 | .sl a lo hi,h=>.Subscript (unE c a (c0 h)) (.Slice (unO c lo (s0 (c1 h))) (unO c hi (s1 (c1 h))) none (c1 h).pos) h.pos
 | .rev a b,h=>.Subscript (unE c a (c0 h)) (.Slice none none (some (unE c b (s2 (c1 h)))) (c1 h).pos) h.pos
 | .call n es,h=>.Call (.Name (fnN T n) (c0 h).pos) (unEs c es (cl h)) [] h.pos
 | .app _ _,_=>e0
 | .blt b es,h=>.Call (.Name (bltN b) (c0 h).pos) (unEs c es (cl h)) [] h.pos
 | .meth m o es,h=>.Call (.Attribute (unE c o (c0 (c0 h))) (mthN m) (c0 h).pos) (unEs c es (cl h)) [] h.pos
 | .lc pick t it ifs d,h=>.ListComp (unE (cc c pick h) d (c0 h)) [⟨unTg (cc c pick h) t (gen1 h).target,unI c it (gen1 h).iter,unEs (cc c pick h) ifs (gen1 h).ifs,0⟩] (scp h) h.pos
 | .lc2 pick t it ifs t2 it2 ifs2 d,h=>.ListComp (unE (cc2 c pick h) d (c0 h)) [⟨unTg (cc2 c pick h) t (gen1 h).target,unI c it (gen1 h).iter,unEs (cc2 c pick h) ifs (gen1 h).ifs,0⟩,⟨unTg (cc2 c pick h) t2 (gen2 h).target,unI (cc2 c pick h) it2 (gen2 h).iter,unEs (cc2 c pick h) ifs2 (gen2 h).ifs,0⟩] (scp h) h.pos
 | .mkD d,h=>.Call (.Name "list" (c0 h).pos) [unE c d (hd (cl h))] [] h.pos
 | .maxD d,h=>.Call (.Name "max" (c0 h).pos) [unE c d (hd (cl h))] [⟨some "default",.Constant (.int 0) (kk (kw0 h).value) (kw0 h).value.pos,(kw0 h).pos⟩] h.pos
 | .minD d,h=>.Call (.Name "min" (c0 h).pos) [unE c d (hd (cl h))] [⟨some "default",.Constant .none (kk (kw0 h).value) (kw0 h).value.pos,(kw0 h).pos⟩] h.pos
 | .mkL d,h=>.Call (.Name "list" (c0 h).pos) [unE c d (hd (cl h))] [] h.pos
 | .mkT d,h=>.Call (.Name "tuple" (c0 h).pos) [unE c d (hd (cl h))] [] h.pos
 | .rngL d,h=>.Call (.Name "list" (c0 h).pos) [.Call (.Name "range" (c0 (hd (cl h))).pos) [unE c d (hd (cl (hd (cl h))))] [] (hd (cl h)).pos] [] h.pos
 | .rngT d,h=>.Call (.Name "tuple" (c0 h).pos) [.Call (.Name "range" (c0 (hd (cl h))).pos) [unE c d (hd (cl (hd (cl h))))] [] (hd (cl h)).pos] [] h.pos
 | .rngL2 _ _,_=>e0
noncomputable def unO (c:Ctx):Eo->Expr->Option Expr
 | .no,_=>none
 | .so d,h=>some (unE c d h)
noncomputable def unEs (c:Ctx):Es->List Expr->List Expr
 | .nil,_=>[]
 | .cons d es,hs=>unE c d (hd hs)::unEs c es hs.tail
noncomputable def unK (c:Ctx):Es->List Expr->List (Option Expr)
 | .cons d (.cons _ es),hs=>some (unE c d (hd hs))::unK c es hs.tail
 | _,_=>[]
noncomputable def unV (c:Ctx):Es->List Expr->List Expr
 | .cons _ (.cons d es),hs=>unE c d (hd hs)::unV c es hs.tail
 | _,_=>[]
noncomputable def unI (c:Ctx):It->Expr->Expr
 | .e d,h=>unE c d h
 | .r1 d,h=>.Call (.Name "range" (c0 h).pos) [unE c d (hd (cl h))] [] h.pos
 | .r2 a b,h=>.Call (.Name "range" (c0 h).pos) [unE c a (hd (cl h)),unE c b (hd (cl h).tail)] [] h.pos
 | .enum d,h=>.Call (.Name "enumerate" (c0 h).pos) [unE c d (hd (cl h))] [] h.pos
 | .dk d,h=>unE c d h
end
mutual
noncomputable def okE (c:Ctx):E->Expr->Bool
 | .v i,_=>decide (i < c.N.length) && (kd c (nmA c i) .local || kd c (nmA c i) .cell || kd c (nmA c i) .free) && !(nmA c i == ("__debug__" : Str)) && !(nmA c i == ("__classdict__" : Str))
 | .non,_=>true
 | .bl _,_=>true
 | .int _,_=>true
 | .str _,_=>true
 | .g n,_=>decide (n < T.gs.length) && decide (n < T.gn.length) && glo c (T.gn.getD n "")
 | .ty n,_=>jfV.contains n && glo c (Str.ofString n)
 | .bin _ a b,h=>okE c a (c0 h) && okE c b (c1 h)
 | .neg a,h=>okE c a (c0 h)
 | .not a,h=>okE c a (c0 h)
 | .bop _ a es,h=>okE c a (hd (cl h)) && okEs c es (cl h).tail
 | .cmp o a b,h=>okE c a (c0 h) && okE c b (hd (cl h)) && !behindInMarks o (unE T c b (hd (cl h)))
 | .cmp2 o p a b d,h=>okE c a (c0 h) && okE c b (hd (cl h)) && okE c d (hd (cl h).tail) && !lastMarks [o,p] [unE T c b (hd (cl h)),unE T c d (hd (cl h).tail)]
 | .ife t a b,h=>okE c t (c0 h) && okE c a (c1 h) && okE c b (c2 h)
 | .tup es,h=>okEs c es (cl h)
 | .lst es,h=>okEs c es (cl h)
 | .dic es,h=>okD c es (dk h) (cl h) && decide (jbq es<=30)
 | .dicT,_=>false
 | .ix a b,h=>okE c a (c0 h) && okE c b (c1 h)
 | .sl a lo hi,h=>okE c a (c0 h) && okO c lo (s0 (c1 h)) && okO c hi (s1 (c1 h))
 | .rev _ _,_=>false
 | .call n es,h=>decide (n < T.funs.length) && glo c (fnN T n) && okEs c es (cl h)
 | .app _ _,_=>false
 | .blt b es,h=>decide (0 < jbq es) && glo c (bltN b) && okEs c es (cl h)
 | .meth _ o es,h=>okE c o (c0 (c0 h)) && okEs c es (cl h) && ((c0 h).pos.endLine == h.pos.line) && decide (jbq es < 30) && jib (unE T c o (c0 (c0 h)))
 | .lc pick t it ifs d,h=>cOkS c (cc c pick h).N pick (scp h) && (tgS t).all (fun i=>(pick[i]?).join.isNone) && okTg (cc c pick h) t && okI c t it (gen1 h).iter && okEs (cc c pick h) ifs (gen1 h).ifs && decide (jbq ifs<=1) && okE (cc c pick h) d (c0 h)
 | .lc2 pick t it ifs t2 it2 ifs2 d,h=>cOkS c (cc2 c pick h).N pick (scp h) && ((tgS t).all (fun i=>(pick[i]?).join.isNone) && ((tgS t2).all (fun i=>(pick[i]?).join.isNone) && ((tgS t2).all (fun i=>!(tgS t).contains i) && (okTg (cc2 c pick h) t && (okTg (cc2 c pick h) t2 && (okI c t it (gen1 h).iter && (okI (cc2 c pick h) t2 it2 (gen2 h).iter && (okEs (cc2 c pick h) ifs (gen1 h).ifs && (okEs (cc2 c pick h) ifs2 (gen2 h).ifs && (decide (jbq ifs<=1) && (decide (jbq ifs2<=1) && okE (cc2 c pick h) d (c0 h))))))))))))
 | .mkD d,h=>glo c "list" && okE c d (hd (cl h))
 | .maxD _,_=>false
 | .minD _,_=>false
 | .mkL d,h=>glo c "list" && okE c d (hd (cl h))
 | .mkT d,h=>glo c "tuple" && okE c d (hd (cl h))
 | .rngL _,_=>false
 | .rngT _,_=>false
 | .rngL2 _ _,_=>false
noncomputable def okO (c:Ctx):Eo->Expr->Bool
 | .no,_=>true
 | .so d,h=>okE c d h
noncomputable def okEs (c:Ctx):Es->List Expr->Bool
 | .nil,_=>true
 | .cons d es,hs=>okE c d (hd hs) && okEs c es hs.tail
noncomputable def okD (c:Ctx):Es->List Expr->List Expr->Bool
 | .nil,_,_=>true
 | .cons d (.cons f es),hs,gs=>okE c d (hd hs) && okE c f (hd gs) && okD c es hs.tail gs.tail
 | .cons _ .nil,_,_=>false
noncomputable def okI (c:Ctx)(t:Tg):It->Expr->Bool
 | .e d,h=>okE c d h
 | .r1 d,h=>glo c "range" && okE c d (hd (cl h))
 | .r2 _ _,_=>false
 | .enum d,h=>isT t && glo c "enumerate" && okE c d (hd (cl h))
 | .dk _,_=>false
end
noncomputable def jh0 (ts:List Expr):Nat:=(ts.head?.map (·.pos.line)).getD 0
noncomputable def jak (c:Ctx)(ts:List Expr):List Str:=ts.filterMap fun
  | .Name id pos=>if c.sc.lookup id == some .local && pos.line == jh0 ts then some id else none
  | _=>none
noncomputable def jfa:Expr->Bool
 | .Starred ..=>true
 | _=>false
noncomputable def swapped (c:Ctx)(ts vs:List Expr):Bool:=
 (ts.length == 2 || ts.length == 3) && vs.length == ts.length && !(vs.any jfa) && (jak c ts).length == ts.length && (jak c ts).eraseDups.length == (jak c ts).length && !(vs.all (foldedForSure 8)) && !(vs.all (constantsAlone 8))
noncomputable def jb4 (c:Ctx)(ts vs:List Expr):Bool:=
 !(ts.length == 2 || ts.length == 3) || vs.length != ts.length || (!(vs.any jfa) && ((jak c ts).length != ts.length || (jak c ts).eraseDups.length != (jak c ts).length || vs.all (foldedForSure 8)))
noncomputable def lcSw (c:Ctx)(y:Str)(py p:Pos)(s:Scope):Bool:=c.sc.lookup y == some .local && py.line == p.line && !(s.names.any fun (n,k)=>n == y && (k == .local || k == .cell))
noncomputable def q0:Stmt->Expr
 | .Expr e _=>e
 | .Assign _ e _=>e
 | .Return (some e) _=>e
 | .AugAssign _ _ e _=>e
 | .If e _ _ _=>e
 | .While e _ _ _=>e
 | .For _ e _ _ _=>e
 | _=>e0
noncomputable def q1:Stmt->Expr
 | .Assign (t::_) _ _=>t
 | .AugAssign t _ _ _=>t
 | .For t _ _ _ _=>t
 | _=>e0
noncomputable def qr:Stmt->Expr
 | .Raise (some e) _ _=>e
 | _=>e0
noncomputable def hTy:Stmt->Expr
 | .Try _ (.ExceptHandler (some t) _ _ _::_) _ _ _=>t
 | _=>e0
noncomputable def hBd:Stmt->List Stmt
 | .Try _ (.ExceptHandler _ _ b _::_) _ _ _=>b
 | _=>[]
noncomputable def hPs:Stmt->Pos
 | .Try _ (.ExceptHandler _ _ _ p::_) _ _ _=>p
 | _=>⟨0,0,0,0⟩
noncomputable def qa:Stmt->List Stmt
 | .Try a _ _ _ _=>a
 | .If _ a _ _=>a
 | .While _ a _ _=>a
 | .For _ _ a _ _=>a
 | _=>[]
noncomputable def qb:Stmt->List Stmt
 | .If _ _ b _=>b
 | _=>[]
noncomputable def qh:List Stmt->Stmt
 | []=>.Pass ⟨0,0,0,0⟩
 | s::_=>s
noncomputable def unNs (c:Ctx):List Nat->List Expr->List Expr
 | [],_=>[]
 | i::is,hs=>.Name (nmA c i) (hd hs).pos::unNs c is hs.tail
noncomputable def unCs:List Nat->List Expr->List Expr
 | [],_=>[]
 | k::ks,hs=>.Name (clsN k) (hd hs).pos::unCs ks hs.tail
section
variable (c:Ctx)(n:Nat)
noncomputable def unHL:HL->Expr->Expr
 | .v i,h=>.Name (nmA c i) h.pos
 | .isiV,h=>.Call (.Name "isinstance" (c0 h).pos) [.Name (nmA c n) (hd (cl h)).pos,.Name "ValueError" (hd (cl h).tail).pos] [] h.pos
 | .is1 k,h=>.Call (.Name "isinstance" (c0 h).pos) [.Name (nmA c n) (hd (cl h)).pos,.Name (clsN k) (hd (cl h).tail).pos] [] h.pos
 | .isi ks,h=>.Call (.Name "isinstance" (c0 h).pos) [.Name (nmA c n) (hd (cl h)).pos,.Tuple (unCs ks (cl (hd (cl h).tail))) (kk (hd (cl h).tail)) (hd (cl h).tail).pos] [] h.pos
noncomputable def jiz:Bool×HL->Expr->Expr
 | (true,l),h=>.UnaryOp .Not (unHL c n l (c0 h)) h.pos
 | (false,l),h=>unHL c n l h
noncomputable def jhW:List (Bool×HL)->List Expr->List Expr
 | [],_=>[]
 | a::r,hs=>jiz c n a (hd hs)::jhW r hs.tail
noncomputable def jhX (k:Bool)(a:Bool×HL):List (Bool×HL)->Expr->Expr
 | [],h=>jiz c n a h
 | b::r,h=>.BoolOp (boU k) (jiz c n a (hd (cl h))::jhW c n (b::r) (cl h).tail) h.pos
noncomputable def unHA:HA->Expr->Expr
 | .str x,h=>.Constant (.str x) (kk h) h.pos
 | .att f,h=>.Attribute (.Name (nmA c n) (c0 h).pos) f h.pos
noncomputable def jiA:List HA->List Expr->List Expr
 | [],_=>[]
 | a::r,hs=>unHA c n a (hd hs)::jiA r hs.tail
noncomputable def unHV:HV->Expr->Expr
 | .cond k a as,h=>jhX c n k a as h
 | .one a,h=>unHA c n a h
 | .bl b,h=>.Constant (.bool b) (kk h) h.pos
 | .tup as,h=>.Tuple (jiA c n as (cl h)) (kk h) h.pos
 | .lst as,h=>.List (jiA c n as (cl h)) h.pos
noncomputable def jj6 (i:Nat)(e:HV)(h:Stmt):Stmt:=.Assign [.Name (nmA c i) (q1 h).pos] (unHV c n e (q0 h)) h.pos
noncomputable def unHS:HS->Stmt->Stmt
 | .asg i e,h=>jj6 c n i e h
 | .ifa k a as i e,h=>.If (jhX c n k a as (q0 h)) [jj6 c n i e (qh (qa h))] [] h.pos
noncomputable def jj5:List HS->List Stmt->List Stmt
 | [],_=>[]
 | s::r,hs=>unHS c n s (qh hs)::jj5 r hs.tail
end
section
variable (cs:List Nat)(c:Ctx)
noncomputable def okC (k:Nat):Bool:=decide (1<=k) && decide (k < 6) && cs.contains k && glo c (clsN k)
noncomputable def okHL:HL->Bool
 | .v i=>decide (i < c.N.length) && (kd c (nmA c i) .local || kd c (nmA c i) .cell || kd c (nmA c i) .free) && !(nmA c i == ("__debug__" : Str)) && !(nmA c i == ("__classdict__" : Str))
 | .isiV=>glo c "isinstance" && glo c "ValueError"
 | .is1 k=>glo c "isinstance" && okC cs c k
 | .isi ks=>glo c "isinstance" && ks.all (okC cs c) && decide (ks.length<=8)
noncomputable def jh9 (as:List (Bool×HL)):Bool:=as.all fun p=>okHL cs c p.2
noncomputable def okHA:HA->Bool
 | .str _=>true
 | .att f=>fldN.contains f
noncomputable def okHV:HV->Bool
 | .cond _ a as=>okHL cs c a.2 && jh9 cs c as
 | .one a=>okHA a
 | .bl _=>true
 | .tup as=>as.all okHA && decide (as.length<=8)
 | .lst as=>as.all okHA && decide (as.length<=8)
noncomputable def okHS (n:Nat):HS->Bool
 | .asg i e=>okN c i && decide (i≠n) && okHV cs c e
 | .ifa _ a as i e=>okHL cs c a.2 && jh9 cs c as && okN c i && decide (i≠n) && okHV cs c e
end
mutual
noncomputable def unS (c:Ctx):S->Stmt->Stmt
 | .pass,h=>.Pass h.pos
 | .expr d,h=>.Expr (unE T c d (q0 h)) h.pos
 | .asg t d,h=>.Assign [unTg c t (q1 h)] (unE T c d (q0 h)) h.pos
 | .asgC i d,h=>.Assign [.Name (nmA c i) (q1 h).pos] (unE T c d (q0 h)) h.pos
 | .setS o i d,h=>.Assign [.Subscript (unE T c o (c0 (q1 h))) (unE T c i (c1 (q1 h))) (q1 h).pos] (unE T c d (q0 h)) h.pos
 | .par is es,h=>.Assign [.Tuple (unNs c is (cl (q1 h))) (kk (q1 h)) (q1 h).pos] (.Tuple (unEs T c es (cl (q0 h))) (kk (q0 h)) (q0 h).pos) h.pos
 | .aug i o d,h=>.AugAssign (.Name (nmA c i) (q1 h).pos) o (unE T c d (q0 h)) h.pos
 | .augS a i o d,h=>.AugAssign (.Subscript (unE T c a (c0 (q1 h))) (unE T c i (c1 (q1 h))) (q1 h).pos) o (unE T c d (q0 h)) h.pos
 | .ite t a b,h=>.If (unE T c t (q0 h)) (unSs c a (qa h)) (unSs c b (qb h)) h.pos
 | .fr t it b,h=>.For (unTg c t (q1 h)) (unI T c it (q0 h)) (unSs c b (qa h)) [] h.pos
 | .wh t b,h=>.While (unE T c t (q0 h)) (unSs c b (qa h)) [] h.pos
 | .ret d,h=>.Return (some (unE T c d (q0 h))) h.pos
 | .retN,h=>.Return none h.pos
 | .never,h=>h
 | .raise k es,h=>.Raise (some (.Call (.Name (clsN k) (c0 (qr h)).pos) (unEs T c es (cl (qr h))) [] (qr h).pos)) none h.pos
 | .tr b k n hs,h=>.Try (unSs c b (qa h)) [.ExceptHandler (some (.Name (clsN k) (hTy h).pos)) (some (nmA c n)) (jj5 c n hs (hBd h)) (hPs h)] [] [] h.pos
noncomputable def unSs (c:Ctx):Ss->List Stmt->List Stmt
 | .nil,_=>[]
 | .cons s r,hs=>unS c s (qh hs)::unSs c r hs.tail
end
noncomputable def okA (c:Ctx):Tg->E->Stmt->Bool
 | .n i,.lc ..,_=>!(kd c (nmA c i) .local)
 | .n i,.lc2 ..,_=>!(kd c (nmA c i) .local)
 | .t _,.lc ..,_=>false
 | .t _,.lc2 ..,_=>false
 | .t ts,.tup es,h=>jb4 c (jdH c ts (cl (q1 h))) (unEs T c es (cl (q0 h)))
 | _,_,_=>true
noncomputable def okNs (c:Ctx):List Nat->Bool
 | []=>true
 | i::is=>decide (i < c.N.length) && kd c (nmA c i) .local && !(is.contains i) && okNs c is
mutual
noncomputable def okS (c:Ctx):S->Stmt->Bool
 | .pass,_=>false
 | .expr d,h=>okE T c d (q0 h) && !isLc d
 | .asg t d,h=>okE T c d (q0 h) && okTg c t && okA T c t d h
 | .asgC i d,h=>isLc d && okE T c d (q0 h) && decide (i < c.N.length) && lcSw c (nmA c i) (q1 h).pos (q0 h).pos (scp (q0 h))
 | .setS o i d,h=>okE T c d (q0 h) && okE T c o (c0 (q1 h)) && okE T c i (c1 (q1 h))
 | .par is es,h=>okEs T c es (cl (q0 h)) && okNs c is && swapped c (unNs c is (cl (q1 h))) (unEs T c es (cl (q0 h))) && decide (is.length=2)
 | .aug i _ d,h=>okN c i && okE T c d (q0 h)
 | .augS _ _ _ _,_=>false
 | .ite t a b,h=>okE T c t (q0 h) && okSs c a (qa h) && okSs c b (qb h)
 | .fr t it b,h=>okTg c t && okI T c t it (q0 h) && okSs c b (qa h)
 | .wh t b,h=>okE T c t (q0 h) && okSs c b (qa h)
 | .ret d,h=>okE T c d (q0 h)
 | .retN,_=>false
 | .never,_=>true
 | .raise _ _,_=>false
 | .tr _ _ _ _,_=>false
noncomputable def okSs (c:Ctx):Ss->List Stmt->Bool
 | .nil,_=>true
 | .cons s r,hs=>okS c s (qh hs) && okSs c r hs.tail
end
end
noncomputable def lSp (K:PySem.W.Frag)(t:List U->Gp->K1->KX->Prop):Sp:=fun vs H Q0 E0=>∃ us G Q E,RUs K H us vs/\HR K H G/\t us G Q E/\(∀ w v G' H',RU K H' w v->HR K H' G'->Fr H G H' G'->Q w G'->Q0 v H')/\
 ∀ x G' H' C dx,XD K H' C dx x->HR K H' G'->Fr H G H' G'->E x G'->E0 (.ref C) (some dx) H'
noncomputable def FnU (P:Program)(w:World)(K:PySem.W.Frag)(mg:Str->Option Value)(base:Heap)(k:Nat)(d:Fun)(t:List U->Gp->K1->KX->Prop):Prop:=
 ∃ (f:Addr) (fd:FuncData),FnOk P w K mg base (CX1 P w) (k + 2) f fd d.ps (lSp K t)/\mg d.name=some (.ref f)/\PySem.W.keepIn K (.ref f)=true/\Binds K fd d.ps []
noncomputable def jcd:List Str:=["len", "repr", "min", "max", "sum", "all", "any", "sorted", "int", "str", "isinstance", "range", "enumerate", "list", "tuple", "bool", "dict", "ValueError"]
structure Cok (T:Tab)(k:Nat)(X:Cx)(c:Ctx):Prop where
 hN:X.N=c.N
 nd:c.N.Nodup
 loc:∀ x,kd c x .local=true->X.env.scope.names.lookup x=some .local
 cel:∀ x,kd c x .cell=true->X.env.scope.names.lookup x=some .cell/\X.fn x=true
 fre:∀ x,kd c x .free=true->X.env.scope.names.lookup x=some .cell\/X.env.scope.names.lookup x=some .free
 glb:∀ x,kd c x .globalImplicit=true->Gl X x
 room:Room k X.A
 calm:X.calm=true
 po:PassesOwn (model X.prog X.w) X.A X.env X.xe
 blt:∀ x∈jcd,X.mg x=none
 fns:∀ (n:Nat) (d:Fun),T.funs[n]?=some d->FnU X.prog X.w X.K X.mg X.base k d (jab T k n)
 gls:∀ (n:Nat) (x:Str) (u:U),T.gn[n]?=some x->T.gs[n]?=some u->∃ v w,X.mg x=some w/\RelV v w/\∀ H,RU X.K H u v
 room2:Room (k + 2) X.A
 cls:∀ n∈T.cs,1<=n->∃ C,XCls X.K (gK X.K) (clsN n) (clsF n) C
 mgK:∀ x v,gK X.K x=some v->X.mg x=some v
structure Cos (T:Tab)(k:Nat)(X:Cx)(c:Ctx):Prop extends Cok T k X c where
 sc:X.env.scope.names=c.sc
 kind:X.env.scope.kind=.function
 stk:X.stack=X.env::X.outer/\X.env.frame=some X.env.locals
section
variable {T:Tab}{k:Nat}{X:Cx}{c:Ctx}
theorem Cok.hu (h:Cok T k X c):X.A.units + 1 < cLine:=jnp h.room
theorem Cok.vis (h:Cok T k X c){x:Str}(v:(kd c x .local || kd c x .cell || kd c x .free)=true):Vis X.env.scope x:=by
 simp only [Bool.or_eq_true] at v
 rcases v with (v | v) | v
 ·exact .inl (h.loc x v)
 ·exact .inr (.inl (h.cel x v).1)
 ·rcases h.fre x v with z | z
  ·exact .inr (.inl z)
  ·exact .inr (.inr z)
theorem Cok.store (h:Cok T k X c){x:Str}(v:(kd c x .local || kd c x .cell)=true):Loc X.env.scope x/\(X.fn x=true\/X.env.scope.names.lookup x=some .local):=by
 simp only [Bool.or_eq_true] at v
 rcases v with v | v
 ·exact ⟨.inl (h.loc x v),.inr (h.loc x v)⟩
 ·exact ⟨.inr (h.cel x v).1,.inl (h.cel x v).2⟩
theorem Cok.gl (h:Cok T k X c){x:Str}(v:glo c x=true):Gl X x/\(x == ("__debug__" : Str))=false:=by
 unfold glo at v
 rw [Bool.and_eq_true] at v
 exact ⟨h.glb x v.1,by simpa using v.2⟩
end
noncomputable def jeb:Expr->Bool
 | .BoolOp .. | .BinOp .. | .UnaryOp .. | .IfExp .. | .Dict .. | .ListComp .. | .Compare .. | .Call .. | .Constant .. | .Subscript .. | .Name .. | .List .. | .Tuple ..=>true
 | _=>false
section
variable {T:Tab}{c:Ctx}
theorem jax (ir:E)(h:Expr):jeb (unE T c ir h)=true:=by cases ir <;> rfl
theorem jaw {e:Expr}(h:jeb e=true)(es:List Expr)(env:Env):starEach (e::es) env=(false,eval e env)::starEach es env:=by
 cases e <;> first | rfl | cases h
theorem jjL {e:Expr}(h:jeb e=true):jeO e:=by
 intro o i
 cases e <;> first | rfl | cases h
theorem jcF {e:Expr}(h:jeb e=true)(env:Env):∀ x,foldedSetIterable e env x=pure x:=by
 intro x
 cases e <;> first | rfl | cases h
theorem jcn (it:It)(h:Expr)(env:Env):∀ x,foldedSetIterable (unI T c it h) env x=pure x:=by
 cases it with
 | e d=>exact jcF (jax d _) env
 | dk d=>exact jcF (jax d _) env
 | _=>exact fun _=>rfl
theorem jhJ {o i:Expr}(h:jeb i=true)(env:Env)(tpos:Pos):∀ v,assign (.Subscript o i tpos) env v=(holding [v] (eval o env) >>= fun a=>holding [v,a] (eval i env) >>= fun b=>standAt tpos >>= fun _=>holding [v,a,b] (setItem a b v) >>= fun _=>release [v,a,b] []):=by
 intro v
 cases i <;> first | rfl | cases h
theorem jiy {ir:E}(q:isLc ir=false)(h:Expr)(env:Env)(l:Nat):swapsWith (unE T c ir h) none l env=pure false:=by
 cases ir <;> first | rfl | cases q
theorem jiw {ir:E}(q:isLc ir=false)(h tg:Expr)(env:Env)(l:Nat):swapsWithSole [tg] (unE T c ir h) l env=pure false:=by
 cases ir <;> first | rfl | cases q
theorem jhV (ir:E)(h x y:Expr)(p:Pos)(env:Env)(l:Nat):swapsWithSole [.Subscript x y p] (unE T c ir h) l env=pure false/\swappedStores [.Subscript x y p] (unE T c ir h) env=pure none:=by
 cases ir <;> exact ⟨rfl,rfl⟩
theorem jmr (ir:E)(h:Expr)(x:Str)(p:Pos)(env:Env):swappedStores [.Name x p] (unE T c ir h) env=pure none:=by
 cases ir <;> rfl
theorem jix (t:Tg)(h:Expr)(env:Env):(assignEach [unTg c t h] env).map (·.2)=[assign (unTg c t h) env]:=by
 cases t <;> rfl
theorem jcV {o:Expr}(h:jib o=true)(m:Str)(env:Env)(w:Sem Value):attributeBase o m env w=w:=by
 unfold attributeBase
 split
 ·cases h
 ·rfl
theorem jcm:∀ (es:Es) (hs:List Expr) (env:Env) (pos:Pos),(backTo pos (starEach (unEs T c es hs) env)).any (·.1)=false/\(backTo pos (starEach (unEs T c es hs) env)).all (fun x=>!x.1)=true
 | .nil,_,_,_=>⟨rfl,rfl⟩
 | .cons d es,hs,env,pos=>by
  obtain ⟨h1,h2⟩:=jcm es hs.tail env pos
  show (backTo pos (starEach (unE T c d (hd hs)::unEs T c es hs.tail) env)).any (·.1)=false/\(backTo pos (starEach (unE T c d (hd hs)::unEs T c es hs.tail) env)).all (fun x=>!x.1)=true
  rw [jaw (jax d _)]
  exact ⟨by show (false || (backTo pos (starEach (unEs T c es hs.tail) env)).any (·.1))=false; rw [h1]; rfl,by show (!false && (backTo pos (starEach (unEs T c es hs.tail) env)).all (fun x=>!x.1))=true; rw [h2]; rfl⟩
theorem jfT:∀ (es:Es) (hs:List Expr),(unEs T c es hs).length=jbq es
 | .nil,_=>rfl
 | .cons _ es,hs=>congrArg (·+ 1) (jfT es hs.tail)
theorem ba {a b:Bool}(h:(a && b)=true):a=true/\b=true:=by simpa using h
theorem bn {a:Bool}(h:(!a)=true):a=false:=by simpa using h
theorem jnc {i:Nat}(h:decide (i < c.N.length)=true):c.N[i]?=some (nmA c i):=by
 unfold nmA
 rw [List.getD_eq_getElem?_getD,List.getElem?_eq_getElem (of_decide_eq_true h)]
 rfl
end
theorem jfY:∀ {ts:Tgs} {us:List U} {ς:Sg} {k:Sg->Prop},tgsU ts us ς k->us.length=jdJ ts
 | .nil,us,ς,k,h=>by rw [h.1]; rfl
 | .cons t ts,us,ς,k,h=>by
  cases us with
  | nil=>exact h.elim
  | cons u r=>
   have:∃ ς',tgsU ts r ς' k:=tg_some h
   obtain ⟨ς',h'⟩:=this
   show r.length + 1=jdJ ts + 1
   rw [jfY h']
where
 tg_some {t:Tg} {u:U} {ς:Sg} {P:Sg->Prop} (h:tgU t u ς P):∃ ς',P ς':=by
  have:=jco (k':=fun _=>∃ ς',P ς') h fun ς' h'=>⟨ς',h'⟩
  exact tg_const this
 tg_const:∀ {t:Tg} {u:U} {ς:Sg} {P:Prop},tgU t u ς (fun _=>P)->P
  | .n _,_,_,_,h=>h
  | .t ts,u,ς,P,h=>by
   cases u with
   | tup us=>exact tgs_const (ts:=ts) (us:=us) h
   | _=>exact h.elim
 tgs_const:∀ {ts:Tgs} {us:List U} {ς:Sg} {P:Prop},tgsU ts us ς (fun _=>P)->P
  | .nil,_,_,_,h=>h.2
  | .cons t ts,us,ς,P,h=>by
   cases us with
   | nil=>exact h.elim
   | cons u r=>exact tg_const (jco (t:=t) h fun ς' h'=>tgs_const h')
section
variable {T:Tab}{k:Nat}{X:Cx}{c:Ctx}
theorem jer:∀ (ts:Tgs) (hs:List Expr) (env:Env),(assignEach (jdH c ts hs) env).length=jdJ ts/\(assignEach (jdH c ts hs) env).findIdx? (·.1)=none
 | .nil,_,_=>⟨rfl,rfl⟩
 | .cons t ts,hs,env=>by
  obtain ⟨h1,h2⟩:=jer ts hs.tail env
  have e:assignEach (jdH c (.cons t ts) hs) env=(false,assign (unTg c t (hd hs)) env)::assignEach (jdH c ts hs.tail) env:=by cases t <;> rfl
  rw [e]
  exact ⟨by simp [h1,jdJ],by simp [List.findIdx?_cons,h2]⟩
theorem Cok.nm {i:Nat}(C:Cok T k X c)(h:decide (i < c.N.length)=true):X.N[i]?=some (nmA c i):=by rw [C.hN]; exact jnc h
mutual
theorem sTg (C:Cok T k X c):∀ (t:Tg) (h:Expr),okTg c t=true->PG X (unTg c t h) (lG X.K (tgU t))
 | .n _,_,q=>let s:=C.store (ba q).2; u_tn (by rw [C.hN]; exact C.nd) (C.nm (ba q).1) s.1 s.2
 | .t ts,h,q=>u_tt C.calm (sTgs C ts (cl h) q) (jer ts _ X.env).1 (jer ts _ X.env).2 fun us ς k q=>jfY q
theorem sTgs (C:Cok T k X c):∀ (ts:Tgs) (hs:List Expr),jjp c ts=true->PGs X (jdH c ts hs) (lGs X.K (tgsU ts))
 | .nil,_,_=>jmu
 | .cons t ts,hs,q=>jmv (sTg C t (hd hs) (ba q).1) (sTgs C ts hs.tail (ba q).2) (by cases t <;> rfl)
end
noncomputable def EB (X:Cx)(σ:St):XK:=fun cls dx H'=>∀ (pins:List (Addr×Obj)) (ea:Addr) (s':Shared),Inv X pins σ H' s'->Lies X.s₀.heap.objs.size X.pn H' s'.heap ea cls dx->X.xe (.ref ea) s'
theorem jf8 {j:Nat}{f:Addr}{fd:FuncData}{ps:List Str}{sp:Sp}{pins:List (Addr×Obj)}{σ:St}{H:Hp}{s:Shared}{Q:VK}{us:List Value}{vs:List V}(F:FnOk X.prog X.w X.K X.mg X.base (CX1 X.prog X.w) j f fd ps sp)(hr:Room j X.A)(hb:Binds X.K fd ps [])
  (I:Inv X pins σ H s) (r:Vals vs us) (h:sp vs H Q (EB X σ)):wpAny (model X.prog X.w) X.A (call (.ref f) us) (EP X pins σ Q) X.xe s:=by
 have hl:(us++[]).length=ps.length:=by rw [List.append_nil,<- r.length]; exact F.len _ _ _ _ h
 have hbs:=hb s us I.kIn hl
 rw [List.append_nil] at hbs
 refine wpAny_call (codeAny_mono (F.run X.A X.stack s H ⟨us,[]⟩ us vs Q (EB X σ) hr I.env0 hbs r h) fun r s' hq=>?_)
 cases r with
 | error e=>
  obtain ⟨ea,H',cls,dx,rfl,I',l,q⟩:=CX1.back I hq
  exact q pins ea s' I' l
 | ok fl=>
  cases fl with
  | ret u=>exact I.after hq
  | next=>exact False.elim hq
  | brk=>exact False.elim hq
  | cont=>exact False.elim hq
theorem jf5 {n:Nat}{σ:St}{H:Hp}{G:Gp}{us:List U}{vs:List V}{Q:K1}{E:KX}{Q0:VK}(r:RUs X.K H us vs)(hG:HR X.K H G)(h:jab T k n us G Q E)(lv:LV X H G Q Q0)(lx:LX X σ H G E):lSp X.K (jab T k n) vs H Q0 (EB X σ):=
 ⟨us,G,Q,E,r,hG,h,lv,fun x G' H' C dx xd hr f q pins ea s' I' l=>lx pins (.ref ea) s' x G' H' I' ⟨ea,C,dx,rfl,l,xd⟩ hr f q⟩
theorem jke {n:Nat}{d:Fun}{x:Str}{e:Expr}{es:List Expr}{ts:UA}{p pos:Pos}(C:Cok T k X c)(hd:T.funs[n]?=some d)(hx:d.name=x)(hg:glo c x=true)(ha:PA X (e::es) (lA X ts))
  (he:starEach (e::es) X.env=(false,eval e X.env)::starEach es X.env) (hpl:(backTo pos (starEach es X.env)).any (·.1)=false) :
  PE X (.Call (.Name x p) (e::es) [] pos) (lE X fun ς G Q E=>ts ς G (fun us G1=>jab T k n us G1 Q E) E):=by
 obtain ⟨f,fd,F,hm,hk,hb⟩:=C.fns n d hd
 obtain ⟨g1,g2⟩:=C.gl hg
 rw [hx] at hm
 intro pins s σ H Q0 I ⟨ς,G,Q,E,hς,hG,h,lv,lx⟩
 refine wpAny_Call_Name_kw (jeB I g1 hm ?_ g2)
 have h':lA X ts σ H fun vs H1=>lSp X.K (jab T k n) vs H1 Q0 (EB X σ):=⟨ς,G,_,E,hς,hG,h,fun us vs G1 H1 rs hG1 f1 h1=>jf5 rs hG1 h1 (lv.fr f1) (lx.fr f1),lx⟩
 refine PySem.W.callWith_K (h₀:=X.base) I.ok.mod.kin hk (thn (ha pos pins s σ H _ I h') fun us s1 ⟨vs,H1,I1,r,q⟩=>⟨I1.kIn,?_⟩) he hpl
 exact jf8 F C.room2 hb I1 r q
theorem jiD {n:Nat}{d:Fun}{x:Str}{p pos:Pos}(C:Cok T k X c)(hd:T.funs[n]?=some d)(hx:d.name=x)(hg:glo c x=true) :
  PE X (.Call (.Name x p) [] [] pos) (lE X fun _ G Q E=>jab T k n [] G Q E):=by
 obtain ⟨f,fd,F,hm,hk,hb⟩:=C.fns n d hd
 obtain ⟨g1,g2⟩:=C.gl hg
 rw [hx] at hm
 intro pins s σ H Q0 I ⟨ς,G,Q,E,hς,hG,h,lv,lx⟩
 refine wpAny_Call_Name_kw (jeB I g1 hm ?_ g2)
 exact PySem.W.callWith_K0 I.kIn hk (jf8 (us:=[]) (vs:=[]) F C.room2 hb I .nil (jf5 (show RUs X.K H [] [] from rfl) hG h lv lx))
theorem Cok.comp {pick:List (Option Nat)}{scope:Scope}{N:List Str}(C:Cok T k X c)(h:cOkS c N pick scope=true):CScope X N pick scope/\∀ cl A s₀ H₀ fp,Cok T k (jad X N scope cl A s₀ H₀ fp) ⟨N,scope.names⟩:=by
 unfold cOkS at h
 simp only [Bool.and_eq_true,decide_eq_true_eq] at h
 obtain ⟨⟨⟨⟨⟨⟨h1,h2⟩,h3⟩,h4⟩,h5⟩,h6⟩,h7⟩:=h
 have cells:∀ y∈scope.names,y.2=.cell->scope.names.lookup y.1=some .cell:=fun y hy hc=>by
  have:=List.all_eq_true.mp h2 y hy
  rw [hc] at this
  simpa using this
 refine ⟨⟨h1,cells,fun y hy hl=>?_,fun y hy hf=>?_,by simpa using h5,fun i j x e1 e2=>?_⟩,fun cl A s₀ H₀ fp=>?_⟩
 ·have:=List.all_eq_true.mp h3 y hy
  rw [hl] at this
  simpa using this
 ·have:=List.all_eq_true.mp h4 y hy
  rw [hf] at this
  simp only [bne_self_eq_false,Bool.false_or,Bool.and_eq_true,Bool.or_eq_true,beq_iff_eq] at this
  refine ⟨this.1,?_⟩
  rcases this.2 with z | z
  ·exact .inl (C.cel _ z).1
  ·exact C.fre _ z
 ·have hz:(N.zip pick)[i]?=some (x,some j):=by rw [List.getElem?_zip_eq_some]; exact ⟨e1,e2⟩
  have:=List.all_eq_true.mp h6 _ (List.mem_of_getElem? hz)
  rw [C.hN]
  simpa using this
 ·refine ⟨rfl,h7,fun x z=>?_,fun x z=>?_,fun x z=>?_,fun x z=>?_,C.room,C.calm,PassesOwn.never,C.blt,C.fns,C.gls,C.room2,C.cls,C.mgK⟩
  ·exact jav (by decide) (eq_of_beq z)
  ·exact ⟨jav (by decide) (eq_of_beq z),z⟩
  ·exact jaM (eq_of_beq z)
  ·exact glc (eq_of_beq z)
end
end Z

namespace Z
open PySem L2
set_option maxHeartbeats 8000000
section
variable {K:PySem.W.Frag}{H H':Hp}{G G':Gp}
end
section
variable {T:Tab}{k:Nat}{X:Cx}{c:Ctx}
end
structure HC (T:Tab)(X:Cx)(c:Ctx)(n:Nat)(ea C dx:Addr)(x:XV):Prop where
 hN:X.N=c.N
 nd:c.N.Nodup
 loc:∀ y,kd c y .local=true->X.env.scope.names.lookup y=some .local
 cel:∀ y,kd c y .cell=true->X.env.scope.names.lookup y=some .cell/\X.fn y=true
 fre:∀ y,kd c y .free=true->X.env.scope.names.lookup y=some .cell\/X.env.scope.names.lookup y=some .free
 glb:∀ y,kd c y .globalImplicit=true->Gl X y
 blt:∀ y∈jcd,X.mg y=none
 cls:∀ n∈T.cs,1<=n->∃ C,XCls X.K (gK X.K) (clsN n) (clsF n) C
 me:XCls X.K (gK X.K) (clsN x.c) (clsF x.c) C
 lo:1<=x.c
 hi:x.c < 6
 pin:XPin X ea C dx
 mgK:∀ y v,gK X.K y=some v->X.mg y=some v
 en:n < c.N.length/\kd c (nmA c n) .local=true/\(nmA c n == ("__debug__" : Str))=false/\(nmA c n == ("__classdict__" : Str))=false
structure HSt (X:Cx)(n:Nat)(ea C dx:Addr)(x:XV)(σ:St)(H:Hp)(ς:Sg)(G:Gp):Prop where
 sr:SR X.K H ς σ
 hr:HR X.K H G
 en:σ[n]?=some (some (.ref ea))
 xd:XD X.K H C dx x
noncomputable def hB (X:Cx)(n:Nat)(ea C dx:Addr)(x:XV)(f:Sg->Option Bool):TE:=fun σ H Q=>∃ ς G b,HSt X n ea C dx x σ H ς G/\f ς=some b/\∀ H',HR X.K H' G->Fr H G H' G->Q (.bl b) H'
noncomputable def hT (X:Cx)(n:Nat)(ea C dx:Addr)(x:XV)(f:Sg->Option Bool):TT:=fun σ H Q=>∃ ς G b,HSt X n ea C dx x σ H ς G/\f ς=some b/\∀ H',HR X.K H' G->Fr H G H' G->Q b H'
section
variable {T:Tab}{X:Cx}{c:Ctx}{n:Nat}{ea C dx:Addr}{x:XV}
noncomputable def hV (X:Cx)(n:Nat)(ea C dx:Addr)(x:XV)(f:Sg->Gp->K1->Prop):TE:=fun σ H Q0=>∃ ς G Q,HSt X n ea C dx x σ H ς G/\f ς G Q/\LV X H G Q Q0
noncomputable def hS (X:Cx)(n:Nat)(ea C dx:Addr)(x:XV)(hs:List HS):L2.TS:=fun D σ H=>∃ ς G k,HSt X n ea C dx x σ H ς G/\hsH x hs ς G k/\∀ ς' σ' G' H',HSt X n ea C dx x σ' H' ς' G'->Fr H G H' G'->k ς' G'->D.nx σ' H'
end
section
variable {T:Tab}{k:Nat}{X:Cx}{c:Ctx}
end
section
variable {T:Tab}{k:Nat}
theorem jjs (b:Blt):bltN b∈jcd:=by cases b <;> decide
theorem jkg:∀ n∈jfV,bootBuiltins (Str.ofString n)=some (.type n)/\Str.ofString n∈jcd/\Str.ofString n ≠ "__name__" := by decide +kernel
noncomputable abbrev SE (T:Tab)(k:Nat)(X:Cx)(c:Ctx)(ir:E)(h:Expr):Prop:=PE X (unE T c ir h) (lE X (den T.gs (jab T k) ir).1)/\PT X (unE T c ir h) (lT X (den T.gs (jab T k) ir).2)
section
variable {X:Cx}{c:Ctx}
theorem tru {e:Expr}{t:UE}(h:PE X e (lE X t))(hp:∀ whole,isTrue e X.env whole=(do let v <- whole; standAt e.pos; holding [v] (truthy v))):PE X e (lE X t)/\PT X e (lT X (truT t)):=⟨h,jmw h hp⟩
theorem jky {a b:Expr}{rest:List Expr}{pos:Pos}{p q:UE×UT}(ha:PE X a (lE X p.1)/\PT X a (lT X p.2))(hb:PE X (.BoolOp .And (b::rest) pos) (lE X q.1)/\PW X (.BoolOp .And (b::rest) pos) (lT X q.2)) :
  PE X (.BoolOp .And (a::b::rest) pos) (lE X (comb true p q).1)/\PW X (.BoolOp .And (a::b::rest) pos) (lT X (comb true p q).2):=⟨jmK ha.1 hb.1,jkf ha.2 hb.2⟩
theorem jmW {a b:Expr}{rest:List Expr}{pos:Pos}{p q:UE×UT}(ha:PE X a (lE X p.1)/\PT X a (lT X p.2))(hb:PE X (.BoolOp .Or (b::rest) pos) (lE X q.1)/\PW X (.BoolOp .Or (b::rest) pos) (lT X q.2)) :
  PE X (.BoolOp .Or (a::b::rest) pos) (lE X (comb false p q).1)/\PW X (.BoolOp .Or (a::b::rest) pos) (lT X (comb false p q).2):=⟨u_or ha.1 hb.1,jmx ha.2 hb.2⟩
theorem se_v {i:Nat}{h:Expr}(C:Cok T k X c)(q:okE T c (.v i) h=true):SE T k X c (.v i) h:=tru (jms (C.nm (ba (ba (ba q).1).1).1) (C.vis (ba (ba (ba q).1).1).2) (bn (ba (ba q).1).2) (bn (ba q).2)) fun _=>rfl
theorem se_g {n:Nat}{h:Expr}(C:Cok T k X c)(q:okE T c (.g n) h=true):SE T k X c (.g n) h:=by
 have h1:=of_decide_eq_true (ba (ba q).1).1
 have h2:=of_decide_eq_true (ba (ba q).1).2
 have hn:T.gn[n]?=some (T.gn.getD n ""):=by rw [List.getD_eq_getElem?_getD,List.getElem?_eq_getElem h2]; rfl
 obtain ⟨v,w,m,r,ru⟩:=C.gls n _ T.gs[n] hn (by simp [h1])
 obtain ⟨g1,g2⟩:=C.gl (ba q).2
 refine tru (PE.imp (u_gl (u:=T.gs[n]) g1 m r ru g2) fun σ H Q0 ⟨ς,G,Q,E,hς,hG,h,lv,lx⟩=>⟨ς,G,Q,E,hς,hG,?_,lv,lx⟩) fun _=>rfl
 have h':glU T.gs n fun u=>Q u G:=h
 unfold glU at h'
 rw [List.getElem?_eq_getElem h1] at h'
 exact h'
theorem jmV {n:String}{h:Expr}(C:Cok T k X c)(q:okE T c (.ty n) h=true):SE T k X c (.ty n) h:=by
 obtain ⟨g1,g2⟩:=C.gl (ba q).2
 obtain ⟨t1,t2,t3⟩:=jkg n (by simpa using (ba q).1)
 exact tru (u_ty g1 (C.blt _ t2) t1 t3 g2) fun _=>rfl
theorem jkt {es:Es}{h:Expr}{trs:List (TE×TE)}(h1:PPs X h.pos (unK T c es (dk h)) (unV T c es (cl h)) trs)(h2:lD X (denD T.gs (jab T k) es) trs)(h3:(unK T c es (dk h)).all (·.isSome)=true)(h4:(unK T c es (dk h)).length=(unV T c es (cl h)).length)
  (h5:(unK T c es (dk h)).length<=15):SE T k X c (.dic es) h:=by
 refine tru ?_ fun _=>rfl
 match es,h1,h2,h3,h4,h5 with
 | .nil,_,_,_,_,_=>exact PE.imp jkb fun σ H Q0 ⟨ς,G,Q,E,hς,hG,h,lv,lx⟩=>⟨ς,G,Q,E,hς,hG,(show ([]:List (Key×U)).length<=15/\newO G (.dK (jcS [])) Q from h).2,lv,lx⟩
 | .cons _ .nil,_,_,_,_,_=>exact fun pins s σ H Q0 I ⟨ς,G,Q,E,hς,hG,h,lv,lx⟩=>(show False from h).elim
 | .cons d (.cons f es),h1,h2,h3,h4,h5=>exact jmG h1 h2 h3 h4 (fun z=>nomatch z) h5
theorem jiP {n:Nat}{es:Es}{h:Expr}(C:Cok T k X c)(q:okE T c (.call n es) h=true)(ha:PA X (unEs T c es (cl h)) (lA X (jaN T.gs (jab T k) es))):SE T k X c (.call n es) h:=by
 refine tru ?_ fun _=>rfl
 have hn:=of_decide_eq_true (ba (ba q).1).1
 have hd':T.funs[n]?=some T.funs[n]:=by simp [hn]
 have hx:T.funs[n].name=fnN T n:=by unfold fnN; rw [hd']
 match es,ha with
 | .nil,_=>exact jiD C hd' hx (ba (ba q).1).2
 | .cons d es,ha=>exact jke C hd' hx (ba (ba q).1).2 ha (jaw (jax d _) _ _) (jcm es _ _ _).1
theorem jku {b:Blt}{es:Es}{h:Expr}(C:Cok T k X c)(q:okE T c (.blt b es) h=true)(ha:PA X (unEs T c es (cl h)) (lA X (jaN T.gs (jab T k) es))):SE T k X c (.blt b es) h:=by
 refine tru ?_ fun _=>rfl
 obtain ⟨g1,g2⟩:=C.gl (ba (ba q).1).2
 match es,ha,q with
 | .nil,_,q=>exact absurd (of_decide_eq_true (ba (ba q).1).1) (Nat.lt_irrefl 0)
 | .cons d es,ha,_=>exact jmI (jlT C.room C.calm b) g1 (C.blt _ (jjs b)) ha (jaw (jax d _) _ _) (jcm es _ _ _).1
theorem jiO {m:Mth}{o:E}{es:Es}{h:Expr}(q:okE T c (.meth m o es) h=true)(ho:PE X (unE T c o (c0 (c0 h))) (lE X (den T.gs (jab T k) o).1))(ha:PA X (unEs T c es (cl h)) (lA X (jaN T.gs (jab T k) es))):SE T k X c (.meth m o es) h:=by
 refine tru ?_ fun _=>rfl
 have h6:=(ba q).2
 have h5:=of_decide_eq_true (ba (ba q).1).2
 have h4:=(ba (ba (ba q).1).1).2
 match es,ha,h5 with
 | .nil,_,_=>exact jiB (jic m) ho (jcV h6 _ _ _) h4
 | .cons d es,ha,h5=>
  refine jj8 (jic m) ho ha (jcV h6 _ _ _) ?_ h4 (jaw (jax d _) _ _) (jcm es _ _ _).1
  have e:=(jcm (T:=T) (c:=c) (.cons d es) (cl h) X.env h.pos).2
  show ((backTo h.pos (starEach (unEs T c (.cons d es) (cl h)) X.env)).all (fun x=>!x.1) && _ && decide ((unEs T c (.cons d es) (cl h)).length + 0 + 0 < 30))=true
  rw [e,jfT]
  exact decide_eq_true h5
theorem jkv {d:E}{e:Expr}(h:PT X e (lT X (den T.gs (jab T k) d).2)):PIfs X [e] (lT0 X.K (denC T.gs (jab T k) (.cons d .nil))):=by
 refine PIfs.imp (ji3 (lT0.of h)) fun σ H Q0 ⟨ς,G,Q,h1,h2,h3,h4⟩=>⟨ς,G,fun b G'=>Q b G',h1,h2,?_,h4⟩
 have h3':(den T.gs (jab T k) d).2 ς G (fun b G1=>if b=true then Q true G1 else Q false G1) (fun _ _=>False):=h3
 have e:(fun (b:Bool) (G1:Gp)=>if b=true then Q true G1 else Q false G1)=fun b G'=>Q b G':=by
  funext b G1
  cases b <;> simp
 rw [e] at h3'
 exact h3'
theorem jkx:PIfs X [] (lT0 X.K (denC T.gs (jab T k) .nil)):=PIfs.imp ji4 fun σ H Q0 ⟨ς,G,Q,h1,h2,h3,h4⟩=>h4 true G H h2 (Fr.refl _ _) h3
theorem jlz:∀ (es:Es) (hs:List Expr),2 * (unK T c es hs).length<=jbq es
 | .nil,_=>Nat.le_refl _
 | .cons _ .nil,_=>Nat.zero_le _
 | .cons _ (.cons _ es),hs=>by
  have:=jlz es hs.tail
  show 2 * ((unK T c es hs.tail).length + 1)<=jbq es + 1 + 1
  omega
theorem k_le {es:Es}{hs:List Expr}(h:jbq es<=30):(unK T c es hs).length<=15:=by
 have:=jlz (T:=T) (c:=c) es hs
 omega
end
mutual
theorem sE : ∀ (ir : E) {X : Cx} {c : Ctx} {h : Expr}, Cok T k X c -> okE T c ir h = true -> SE T k X c ir h
  | .v _, _, _, _, C, q => se_v C q
  | .non, _, _, _, _, _ => tru (jb0 (u := .non) jkV fun _ => rfl) fun _ => rfl
  | .bl b, _, _, _, _, _ => tru (jb0 (u := .bl b) jm7 fun _ => rfl) fun _ => rfl
  | .int i, _, _, _, _, _ => tru (jb0 (u := .int i) jkY fun _ => rfl) fun _ => rfl
  | .str x, _, _, _, _, _ => tru (jb0 (u := .str x) jkT fun _ => rfl) fun _ => rfl
  | .g _, _, _, _, C, q => se_g C q
  | .ty _, _, _, _, C, q => jmV C q
  | .bin o a b, _, _, _, C, q => tru (jmJ (jk5 o) (sE a C (ba q).1).1 (sE b C (ba q).2).1) fun _ => rfl
  | .neg a, _, _, _, C, q => tru (jmz (sE a C q).1) fun _ => rfl
  | .not a, _, _, _, C, q => ⟨jmy (sE a C q).1, jj7 (sE a C q).2⟩
  | .bop k a es, _, _, h, C, q => let r := sB es k C (sE a C (ba q).1) (ba q).2 h.pos; ⟨r.1, r.2.pt⟩
  | .cmp o a b, _, _, _, C, q => ⟨jmH (jdg C.room o) (sE a C (ba (ba q).1).1).1 (sE b C (ba (ba q).1).2).1 (bn (ba q).2), jkc (jdg C.room o) (sE a C (ba (ba q).1).1).1 (sE b C (ba (ba q).1).2).1 (bn (ba q).2)⟩
  | .cmp2 o p a b d, _, _, _, C, q => ⟨jkd (jdg C.room o) (jdg C.room p) (sE a C (ba (ba (ba q).1).1).1).1 (sE b C (ba (ba (ba q).1).1).2).1 (sE d C (ba (ba q).1).2).1 (bn (ba q).2),
      PT.imp (jiC (jdg C.room o) (jdg C.room p) (sE a C (ba (ba (ba q).1).1).1).1 (sE b C (ba (ba (ba q).1).1).2).1 (sE d C (ba (ba q).1).2).1 (bn (ba q).2)) fun _ _ _ ⟨ς, G, Q, E, hς, hG, h, lv, lx⟩ => ⟨ς, G, Q, E, hς, hG, h, lv, lx⟩⟩
  | .ife t a b, _, _, _, C, q => ⟨jmF (sE t C (ba (ba q).1).1).2 (sE a C (ba (ba q).1).2).1 (sE b C (ba q).2).1, jj9 (sE t C (ba (ba q).1).1).2 (sE a C (ba (ba q).1).2).2 (sE b C (ba q).2).2⟩
  | .tup es, _, _, _, C, q => tru (jmt (sEs es C q)) fun _ => rfl
  | .lst es, _, _, _, C, q => tru (jmD (sEs es C q)) fun _ => rfl
  | .dic es, _, _, h, C, q => let ⟨_, h1, h2, h3, h4⟩ := sD es C h.pos (ba q).1; jkt h1 h2 h3 h4 (k_le (of_decide_eq_true (ba q).2))
  | .dicT, _, _, _, _, q => nomatch q
  | .ix a b, _, _, _, C, q => tru (u_ix C.hu (sE a C (ba q).1).1 (sE b C (ba q).2).1 (jjL (jax b _))) fun _ => rfl
  | .sl a lo hi, _, _, _, C, q => tru (u_sl (sE a C (ba (ba q).1).1).1 (sO lo C (ba (ba q).1).2) (sO hi C (ba q).2)) fun _ => rfl
  | .rev _ _, _, _, _, _, q => nomatch q
  | .call _ es, _, _, _, C, q => jiP C q (sEs es C (ba q).2)
  | .app _ _, _, _, _, _, q => nomatch q
  | .blt _ es, _, _, _, C, q => jku C q (sEs es C (ba q).2)
  | .meth _ o es, _, _, _, C, q => jiO q (sE o C (ba (ba (ba (ba q).1).1).1).1).1 (sEs es C (ba (ba (ba (ba q).1).1).1).2)
  | .lc _ t it ifs d, _, _, _, C, q => let S := C.comp (ba (ba (ba (ba (ba (ba q).1).1).1).1).1).1
      tru (u_lc C.calm S.1 (sI it t _ _ C (ba (ba (ba (ba q).1).1).1).2).1 (ba (ba (ba (ba (ba (ba q).1).1).1).1).1).2 (fun cl A s₀ H₀ fp => sTg (S.2 cl A s₀ H₀ fp) t _ (ba (ba (ba (ba (ba q).1).1).1).1).2)
        (fun cl A s₀ H₀ fp => sC ifs (S.2 cl A s₀ H₀ fp) (of_decide_eq_true (ba (ba q).1).2) (ba (ba (ba q).1).1).2) (fun cl A s₀ H₀ fp => lE0.of (sE d (S.2 cl A s₀ H₀ fp) (ba q).2).1) (sI it t ⟨[], []⟩ e0 C (ba (ba (ba (ba q).1).1).1).2).2) fun _ => rfl
  | .lc2 _ t it ifs t2 it2 ifs2 d, _, _, _, C, q => let S := C.comp (ba q).1
      let q1 := (ba q).2; let q2 := (ba q1).2; let q3 := (ba q2).2; let q4 := (ba q3).2; let q5 := (ba q4).2; let q6 := (ba q5).2; let q7 := (ba q6).2; let q8 := (ba q7).2; let q9 := (ba q8).2; let qa := (ba q9).2; let qb := (ba qa).2
      tru (jmE C.calm S.1 (sI it t _ _ C (ba q6).1).1 (ba q1).1 (ba q2).1 (ba q3).1 (fun cl A s₀ H₀ fp => sTg (S.2 cl A s₀ H₀ fp) t _ (ba q4).1)
        (fun cl A s₀ H₀ fp => sC ifs (S.2 cl A s₀ H₀ fp) (of_decide_eq_true (ba qa).1) (ba q8).1) (fun cl A s₀ H₀ fp => lE0.of (sE d (S.2 cl A s₀ H₀ fp) (ba qb).2).1)
        (fun cl A s₀ H₀ fp => lI0.of (sI it2 t2 _ _ (S.2 cl A s₀ H₀ fp) (ba q7).1).1) (fun cl A s₀ H₀ fp => sTg (S.2 cl A s₀ H₀ fp) t2 _ (ba q5).1) (fun cl A s₀ H₀ fp => sC ifs2 (S.2 cl A s₀ H₀ fp) (of_decide_eq_true (ba qb).1) (ba q9).1) (fun env => jcn it2 _ env) (jcn it _ _)) fun _ => rfl
  | .mkD d, _, _, _, C, q => tru (jmC C.calm (C.gl (ba q).1).1 (C.blt _ (by decide)) (sE d C (ba q).2).1 (jaw (jax d _) _ _)) fun _ => rfl
  | .maxD _, _, _, _, _, q => nomatch q
  | .minD _, _, _, _, _, q => nomatch q
  | .mkL d, _, _, _, C, q => tru (jmB (C.gl (ba q).1).1 (C.blt _ (by decide)) (sE d C (ba q).2).1 (jaw (jax d _) _ _)) fun _ => rfl
  | .mkT d, _, _, _, C, q => tru (jmA (C.gl (ba q).1).1 (C.blt _ (by decide)) (sE d C (ba q).2).1 (jaw (jax d _) _ _)) fun _ => rfl
  | .rngL _, _, _, _, _, q => nomatch q
  | .rngT _, _, _, _, _, q => nomatch q
  | .rngL2 _ _, _, _, _, _, q => nomatch q
theorem sO : ∀ (ir : Eo) {X : Cx} {c : Ctx} {h : Expr}, Cok T k X c -> okO T c ir h = true -> PO X (unO T c ir h) (lO X (denO T.gs (jab T k) ir))
  | .no, _, _, _, _, _ => u_no
  | .so d, _, _, _, C, q => u_so (sE d C q).1
theorem sEs : ∀ (ir : Es) {X : Cx} {c : Ctx} {hs : List Expr}, Cok T k X c -> okEs T c ir hs = true -> PA X (unEs T c ir hs) (lA X (jaN T.gs (jab T k) ir))
  | .nil, _, _, _, _, _ => jfq
  | .cons d ir, _, _, _, C, q => jcZ (sE d C (ba q).1).1 (sEs ir C (ba q).2) (jaw (jax d _) _ _)
theorem sB : ∀ (ir : Es) (b : Bool) {X : Cx} {c : Ctx} {hs : List Expr} {a : Expr} {p : UE × UT}, Cok T k X c -> PE X a (lE X p.1) /\ PT X a (lT X p.2) -> okEs T c ir hs = true -> ∀ pos : Pos,
    PE X (.BoolOp (boU b) (a :: unEs T c ir hs) pos) (lE X (denB T.gs (jab T k) b p ir).1) /\ PW X (.BoolOp (boU b) (a :: unEs T c ir hs) pos) (lT X (denB T.gs (jab T k) b p ir).2)
  | .nil, true, _, _, _, _, _, _, ha, _, _ => ⟨jh5 ha.1, pw_and1 ha.2⟩
  | .nil, false, _, _, _, _, _, _, ha, _, _ => ⟨jh5 ha.1, pw_or1 ha.2⟩
  | .cons d ir, true, _, _, _, _, _, C, ha, q, pos => jky ha (sB ir true C (sE d C (ba q).1) (ba q).2 pos)
  | .cons d ir, false, _, _, _, _, _, C, ha, q, pos => jmW ha (sB ir false C (sE d C (ba q).1) (ba q).2 pos)
theorem sC : ∀ (ir : Es) {X : Cx} {c : Ctx} {hs : List Expr}, Cok T k X c -> jbq ir <= 1 -> okEs T c ir hs = true -> PIfs X (unEs T c ir hs) (lT0 X.K (denC T.gs (jab T k) ir))
  | .nil, _, _, _, _, _, _ => jkx
  | .cons d .nil, _, _, _, C, _, q => jkv (sE d C (ba q).1).2
  | .cons _ (.cons _ es), _, _, _, _, l, _ => absurd l (by show ¬ (jbq es + 1 + 1 <= 1); omega)
theorem sD : ∀ (ir : Es) {X : Cx} {c : Ctx} {hs gs : List Expr}, Cok T k X c -> (p : Pos) -> okD T c ir hs gs = true -> ∃ trs, PPs X p (unK T c ir hs) (unV T c ir gs) trs /\ lD X (denD T.gs (jab T k) ir) trs /\ (unK T c ir hs).all (·.isSome) = true /\ (unK T c ir hs).length = (unV T c ir gs).length
  | .nil, _, _, _, _, _, _, _ => ⟨[], jiY, jlu, rfl, rfl⟩
  | .cons d (.cons f ir), _, _, _, _, C, p, q => let ⟨_, h1, h2, h3, h4⟩ := sD ir C p (ba q).2; ⟨_, jhm (sE d C (ba (ba q).1).1).1 (sE f C (ba (ba q).1).2).1 h1, jjx h2, h3, congrArg (· + 1) h4⟩
  | .cons _ .nil, _, _, _, _, _, _, q => nomatch q
theorem sI : ∀ (ir : It) (t : Tg) (ct : Ctx) (ht : Expr) {X : Cx} {c : Ctx} {h : Expr}, Cok T k X c -> okI T c t ir h = true -> PI X (unTg ct t ht) (unI T c ir h) (lI X (denI T.gs (jab T k) ir)) /\ ∀ x, foldedSetIterable (unI T c ir h) X.env x = pure x
  | .e d, _, _, _, _, _, _, C, q => ⟨u_ie (sE d C q).1, jcF (jax d _) _⟩
  | .r1 d, _, _, _, _, _, _, C, q => ⟨u_r1 (C.gl (ba q).1).1 (C.blt _ (by decide)) (sE d C (ba q).2).1 (jaw (jax d _) _ _), fun _ => rfl⟩
  | .r2 _ _, _, _, _, _, _, _, _, q => nomatch q
  | .enum d, .t _, _, _, _, _, _, C, q => ⟨jka (C.gl (ba (ba q).1).2).1 (C.blt _ (by decide)) (sE d C (ba q).2).1 (jaw (jax d _) _ _), fun _ => rfl⟩
  | .enum _, .n _, _, _, _, _, _, _, q => nomatch q
  | .dk _, _, _, _, _, _, _, _, q => nomatch q
end
end
section
variable {c:Ctx}{env:Env}
noncomputable def swF (sb:Bool)(names:List Str)(bk:ScopeKind)(ts vs:List Expr):Sem (Option (List Str)):=
 if (!(ts.length == 2 || ts.length == 3) || vs.length != ts.length || bk != .function)=true then pure none
 else if sb=true then pure none
 else if (names.length != ts.length || names.eraseDups.length != names.length)=true then pure none
 else if vs.all (foldedForSure 8)=true then pure none
 else if vs.all (constantsAlone 8)=true then do unsupported "assign.tuple-of-constant-expressions:order-of-the-stores"; pure (some names)
 else pure (some names)
noncomputable def jdm (env:Env)(ts:List Expr):List Str:=ts.filterMap fun
  | .Name id pos=>if env.kindOf id == some .local && pos.line == jh0 ts then some id else none
  | _=>none
theorem jkk {ts vs:List Expr}{a b:Nat}{p q:Pos}:swappedStores [.Tuple ts a p] (.Tuple vs b q) env=swF (vs.any jfa) (jdm env ts) env.blockKind ts vs:=by
 have e1:jfa=fun | .Starred ..=>true | _=>false:=by funext e; cases e <;> rfl
 with_unfolding_all rfl
theorem jeZ (hk:∀ x,env.kindOf x=c.sc.lookup x)(ts:List Expr):jdm env ts=jak c ts:=by
 unfold jak jdm
 congr 1
 funext e
 cases e <;> first | rfl | (dsimp only; rw [hk])
theorem jf4 (hk:∀ x,env.kindOf x=c.sc.lookup x)(hb:env.blockKind=.function){ts vs:List Expr}{a b:Nat}{p q:Pos}(h:jb4 c ts vs=true):swappedStores [.Tuple ts a p] (.Tuple vs b q) env=pure none:=by
 rw [jkk,jeZ hk,hb]
 unfold swF
 unfold jb4 at h
 by_cases h1:(!(ts.length == 2 || ts.length == 3) || vs.length != ts.length)=true
 ·rw [if_pos (by rw [h1]; rfl)]
 ·have h1':(!(ts.length == 2 || ts.length == 3) || vs.length != ts.length)=false:=by simpa using h1
  rw [h1'] at h
  rw [if_neg (by rw [h1']; decide)]
  simp only [Bool.false_or,Bool.and_eq_true,Bool.not_eq_true'] at h
  obtain ⟨h2,h3⟩:=h
  rw [if_neg (by rw [h2]; decide)]
  by_cases h4:((jak c ts).length != ts.length || (jak c ts).eraseDups.length != (jak c ts).length)=true
  ·rw [if_pos h4]
  ·rw [if_neg h4]
   have h4':((jak c ts).length != ts.length || (jak c ts).eraseDups.length != (jak c ts).length)=false:=by simpa using h4
   rw [h4'] at h3
   rw [if_pos (by simpa using h3)]
theorem jf3 (hk:∀ x,env.kindOf x=c.sc.lookup x)(hb:env.blockKind=.function){ts vs:List Expr}{a b:Nat}{p q:Pos}(h:swapped c ts vs=true):swappedStores [.Tuple ts a p] (.Tuple vs b q) env=pure (some (jak c ts)):=by
 rw [jkk,jeZ hk,hb]
 unfold swF
 unfold swapped at h
 simp only [Bool.and_eq_true,Bool.not_eq_true'] at h
 obtain ⟨⟨⟨⟨⟨⟨h1,h2⟩,h3⟩,h4⟩,h5⟩,h6⟩,h7⟩:=h
 have e1:(!(ts.length == 2 || ts.length == 3) || vs.length != ts.length || (ScopeKind.function != ScopeKind.function))=false:=by
  have:(vs.length != ts.length)=false:=by simpa using h2
  rw [h1,this]; rfl
 rw [if_neg (by rw [e1]; decide),if_neg (by rw [h3]; decide)]
 have e2:((jak c ts).length != ts.length || (jak c ts).eraseDups.length != (jak c ts).length)=false:=by
  have z1:((jak c ts).length != ts.length)=false:=by simpa using h4
  have z2:((jak c ts).eraseDups.length != (jak c ts).length)=false:=by simpa using h5
  rw [z1,z2]; rfl
 rw [if_neg (by rw [e2]; decide),if_neg (by rw [h6]; decide),if_neg (by rw [h7]; decide)]
theorem jeY (hk:∀ x,env.kindOf x=c.sc.lookup x)(hb:env.blockKind=.function){elt:Expr}{gs:List Comprehension}{s:Scope}{p py:Pos}{y:Str}{l:Nat}(h:lcSw c y py p s=true) :
  swapsWith (.ListComp elt gs s p) (some (.Name y py)) l env=pure true:=by
 unfold lcSw at h
 simp only [Bool.and_eq_true] at h
 unfold swapsWith
 dsimp only
 show (pure (env.blockKind == .function && env.kindOf y == some .local && py.line == p.line && !(s.names.any fun (n,k)=>n == y && (k == .local || k == .cell))):Sem Bool)=pure true
 rw [hb,hk,h.1.1,h.1.2,h.2]
 rfl
theorem jeX (hk:∀ x,env.kindOf x=c.sc.lookup x){elt:Expr}{gs:List Comprehension}{s:Scope}{p py:Pos}{y:Str}{l:Nat}(h:(c.sc.lookup y == some .local)=false) :
  swapsWithSole [.Name y py] (.ListComp elt gs s p) l env=pure false:=by
 show (pure (env.blockKind == .function && env.kindOf y == some .local && py.line == p.line && !(s.names.any fun (n,k)=>n == y && (k == .local || k == .cell))):Sem Bool)=pure false
 rw [hk,h]
 simp
end
section
variable {T:Tab}{k:Nat}
theorem Cos.kindOf {X:Cx}{c:Ctx}(C:Cos T k X c):∀ x,X.env.kindOf x=c.sc.lookup x:=fun x=>by
 unfold Env.kindOf
 rw [C.sc]
theorem Cos.block {X:Cx}{c:Ctx}(C:Cos T k X c):X.env.blockKind=.function:=by
 unfold Env.blockKind
 rw [C.kind]
 rfl
theorem jia {c:Ctx}:∀ (is:List Nat) (hs:List Expr),(unNs c is hs).length=is.length
 | [],_=>rfl
 | _::is,hs=>congrArg (·+ 1) (jia is hs.tail)
theorem sw2 {c:Ctx}{x y:Str}{p q:Pos}(h:(jak c [.Name x p,.Name y q]).length=2):jak c [.Name x p,.Name y q]=[x,y]:=by
 unfold jak at h ⊢
 simp only [List.filterMap_cons,List.filterMap_nil] at h ⊢
 split at h <;> split at h <;> simp_all
section
variable {X:Cx}{c:Ctx}
theorem jkm {t:Tg}{d:E}{h:Stmt}(C:Cos T k X c)(q:okS T c (.asg t d) h=true)(hs:PE X (unE T c d (q0 h)) (lE X (den T.gs (jab T k) d).1)):PS X (unS T c (.asg t d) h) (lS X (denS T.gs (jab T k) (.asg t d))):=by
 have hg:=sTg C.toCok t (q1 h) (ba (ba q).1).2
 have q3:=(ba q).2
 have fin:swapsWithSole [unTg c t (q1 h)] (unE T c d (q0 h)) h.pos.line X.env=pure false/\swappedStores [unTg c t (q1 h)] (unE T c d (q0 h)) X.env=pure none:=by
  cases t with
  | n i=>
   refine ⟨?_,jmr d _ _ _ _⟩
   by_cases hl:isLc d=true
   ·cases d with
    | lc=>exact jeX C.kindOf (bn q3)
    | lc2=>exact jeX C.kindOf (bn q3)
    | _=>cases hl
   ·exact jiw (by simpa using hl) _ _ _ _
  | t ts=>
   cases d with
   | lc=>cases q3
   | lc2=>cases q3
   | tup es=>exact ⟨rfl,jf4 C.kindOf C.block q3⟩
   | _=>exact ⟨rfl,rfl⟩
 exact s_asg hs hg fin.1 fin.2 (jix t _ _)
theorem jkl {is:List Nat}{es:Es}{h:Stmt}(C:Cos T k X c)(q:okS T c (.par is es) h=true)(ha:PA X (unEs T c es (cl (q0 h))) (lA X (jaN T.gs (jab T k) es))):PS X (unS T c (.par is es) h) (lS X (denS T.gs (jab T k) (.par is es))):=by
 have h3:=(ba (ba q).1).2
 have h2:=(ba (ba (ba q).1).1).2
 have hsw:=jf3 (a:=kk (q1 h)) (b:=kk (q0 h)) (p:=(q1 h).pos) (q:=(q0 h).pos) C.kindOf C.block h3
 unfold swapped at h3
 simp only [Bool.and_eq_true,Bool.or_eq_true,beq_iff_eq] at h3
 obtain ⟨⟨⟨⟨⟨⟨_,l2⟩,_⟩,l4⟩,_⟩,_⟩,_⟩:=h3
 rw [jfT,jia] at l2
 have l1:is.length=2:=of_decide_eq_true (ba q).2
 have nd:X.N.Nodup:=by rw [C.hN]; exact C.nd
 match is,es,l1,l2,l4,hsw,h2,ha with
 | [i,j],.cons a (.cons b .nil),_,_,l4,hsw,h2,ha=>
  have u1:=ba h2
  have u2:=ba u1.2
  refine s_par2 C.calm nd (C.nm (ba (ba u1.1).1).1) (C.nm (ba (ba u2.1).1).1) (by intro z; subst z; have:=(ba u1.1).2; simp at this) (C.loc _ (ba (ba u1.1).1).2) (C.loc _ (ba (ba u2.1).1).2) ha ?_ rfl
  rw [<- sw2 l4]
  exact hsw
 | [],_,l1,_,_,_,_,_=>exact absurd l1 (by simp)
 | [_],_,l1,_,_,_,_,_=>exact absurd l1 (by simp)
 | _::_::_::_,_,l1,_,_,_,_,_=>exact absurd l1 (by simp)
 | [_,_],.nil,_,l2,_,_,_,_=>exact absurd l2 (by simp [jbq])
 | [_,_],.cons _ .nil,_,l2,_,_,_,_=>exact absurd l2 (by simp [jbq])
 | [_,_],.cons _ (.cons _ (.cons _ _)),_,l2,_,_,_,_=>exact absurd l2 (by simp [jbq])
theorem jiI {i:Nat}{d:E}{h:Stmt}(C:Cos T k X c)(q:okS T c (.asgC i d) h=true):PS X (unS T c (.asgC i d) h) (lS X (denS T.gs (jab T k) (.asgC i d))):=by
 have qd:=(ba (ba (ba q).1).1)
 have hl:=(ba q).2
 have hi:=C.nm (ba (ba q).1).2
 have hy:=eq_of_beq (ba (ba hl).1).1
 cases d with
 | lc pick t it ifs d=>
  have q1':=qd.2
  have S:=C.toCok.comp (ba (ba (ba (ba (ba (ba q1').1).1).1).1).1).1
  exact s_lc (by rw [C.hN]; exact C.nd) hi (by rw [C.sc]; exact hy) C.calm S.1 (sI it t _ _ C.toCok (ba (ba (ba (ba q1').1).1).1).2).1 (ba (ba (ba (ba (ba (ba q1').1).1).1).1).1).2
   (fun cl A s₀ H₀ fp=>sTg (S.2 cl A s₀ H₀ fp) t _ (ba (ba (ba (ba (ba q1').1).1).1).1).2) (fun cl A s₀ H₀ fp=>sC ifs (S.2 cl A s₀ H₀ fp) (of_decide_eq_true (ba (ba q1').1).2) (ba (ba (ba q1').1).1).2)
   (fun cl A s₀ H₀ fp=>lE0.of (sE d (S.2 cl A s₀ H₀ fp) (ba q1').2).1) (jeY C.kindOf C.block hl) (jcn it _ _)
 | lc2 pick t it ifs t2 it2 ifs2 d=>
  have q1':=qd.2
  have S:=C.toCok.comp (ba q1').1
  have q1:=(ba q1').2; have q2:=(ba q1).2; have q3:=(ba q2).2; have q4:=(ba q3).2; have q5:=(ba q4).2; have q6:=(ba q5).2; have q7:=(ba q6).2; have q8:=(ba q7).2; have q9:=(ba q8).2; have qa:=(ba q9).2; have qb:=(ba qa).2
  exact s_lc2 (by rw [C.hN]; exact C.nd) hi (by rw [C.sc]; exact hy) C.calm S.1 (sI it t _ _ C.toCok (ba q6).1).1 (ba q1).1 (ba q2).1 (ba q3).1
   (fun cl A s₀ H₀ fp=>sTg (S.2 cl A s₀ H₀ fp) t _ (ba q4).1) (fun cl A s₀ H₀ fp=>sC ifs (S.2 cl A s₀ H₀ fp) (of_decide_eq_true (ba qa).1) (ba q8).1)
   (fun cl A s₀ H₀ fp=>lE0.of (sE d (S.2 cl A s₀ H₀ fp) (ba qb).2).1) (fun cl A s₀ H₀ fp=>lI0.of (sI it2 t2 _ _ (S.2 cl A s₀ H₀ fp) (ba q7).1).1) (fun cl A s₀ H₀ fp=>sTg (S.2 cl A s₀ H₀ fp) t2 _ (ba q5).1)
   (fun cl A s₀ H₀ fp=>sC ifs2 (S.2 cl A s₀ H₀ fp) (of_decide_eq_true (ba qb).1) (ba q9).1) (fun env=>jcn it2 _ env) (jeY C.kindOf C.block hl) (jcn it _ _)
 | _=>cases qd.1
end
mutual
theorem sS:∀ (ir:S) {X:Cx} {c:Ctx} {h:Stmt},Cos T k X c->okS T c ir h=true->PS X (unS T c ir h) (lS X (denS T.gs (jab T k) ir))
 | .pass,_,_,_,_,q=>nomatch q
 | .expr d,_,_,_,C,q=>s_expr (sE d C.toCok (ba q).1).1 (jiy (bn (ba q).2) _ _ _)
 | .asg _ d,_,_,_,C,q=>jkm C q (sE d C.toCok (ba (ba q).1).1).1
 | .asgC _ _,_,_,_,C,q=>jiI C q
 | .setS o i d,_,_,_,C,q=>s_set C.toCok.hu (sE d C.toCok (ba (ba q).1).1).1 (sE o C.toCok (ba (ba q).1).2).1 (sE i C.toCok (ba q).2).1 (jhV d _ _ _ _ _ _).1 (jhV d _ _ _ _ _ 0).2 rfl (jhJ (jax i _) _ _)
 | .par _ es,_,_,_,C,q=>jkl C q (sEs es C.toCok (ba (ba (ba q).1).1).1)
 | .aug _ _ d,_,_,_,C,q=>let s:=C.toCok.store (ba (ba q).1).2; s_aug (by rw [C.hN]; exact C.nd) (C.nm (ba (ba q).1).1) s.1 s.2 (sE d C.toCok (ba q).2).1
 | .augS _ _ _ _,_,_,_,_,q=>nomatch q
 | .ite t a b,_,_,_,C,q=>s_if (sE t C.toCok (ba (ba q).1).1).2 (sSs a C (ba (ba q).1).2) (sSs b C (ba q).2)
 | .fr t it b,_,_,_,C,q=>s_for C.po C.calm (sI it t _ _ C.toCok (ba (ba q).1).2).1 (sTg C.toCok t _ (ba (ba q).1).1) (sSs b C (ba q).2) (sI it t ⟨[],[]⟩ e0 C.toCok (ba (ba q).1).2).2
 | .wh t b,_,_,_,C,q=>s_wh C.po (sE t C.toCok (ba q).1).2 (sSs b C (ba q).2)
 | .ret d,_,_,_,C,q=>s_ret (sE d C.toCok q).1
 | .retN,_,_,_,_,q=>nomatch q
 | .never,_,_,_,_,_=>fun _ _ _ _ _ _ ⟨_,_,_,_,_,q,_⟩=>(show False from q).elim
 | .raise _ _,_,_,_,_,q=>nomatch q
 | .tr _ _ _ _,_,_,_,_,q=>nomatch q
theorem sSs:∀ (ir:Ss) {X:Cx} {c:Ctx} {hs:List Stmt},Cos T k X c->okSs T c ir hs=true->PSs X (unSs T c ir hs) (lS X (jay T.gs (jab T k) ir))
 | .nil,_,_,_,_,_=>s_nil
 | .cons s r,_,_,_,C,q=>s_cons (t:=denS T.gs (jab T k) s) (u:=jay T.gs (jab T k) r) (sS s C (ba q).1) (sSs r C (ba q).2)
end
end
noncomputable def scB (N ps:List Str)(sc:Scope):Bool:=
 decide (sc.kind=.function) && !sc.isCoroutine && !sc.isGenerator && decide N.Nodup && (N.take ps.length == ps) && ps.all (fun x=>sc.names.lookup x == some .local || sc.names.lookup x == some .cell) && sc.names.all (fun y=>y.2 != .free)
theorem jkw {N ps:List Str}{sc:Scope}(h:scB N ps sc=true):FnScope N ps sc:=by
 unfold scB at h
 simp only [Bool.and_eq_true,decide_eq_true_eq,Bool.not_eq_true'] at h
 obtain ⟨⟨⟨⟨⟨⟨h1,h2⟩,h3⟩,h4⟩,h5⟩,h6⟩,h7⟩:=h
 refine ⟨h1,h2,h3,h4,eq_of_beq h5,fun x hx=>?_,fun y hy=>?_⟩
 ·have:=List.all_eq_true.mp h6 x hx
  simpa using this
 ·simpa using List.all_eq_true.mp h7 y hy
noncomputable def jex (T:Tab):List Fun->List Stmt->Bool
 | [],[]=>true
 | d::ds,st::sts=>scB d.N d.ps (defScope st) && okSs T ⟨d.N,(defScope st).names⟩ d.body (defBody st) && jex T ds sts
 | _,_=>false
noncomputable def jfw (T:Tab):List Fun->List Stmt->Prop
 | [],_=>True
 | d::ds,st::sts=>unSs T ⟨d.N,(defScope st).names⟩ d.body (defBody st)=defBody st/\jfw T ds sts
 | _::_,[]=>False
theorem jdp {T:Tab}:∀ {ds:List Fun} {sts:List Stmt},jex T ds sts=true->jfw T ds sts->∀ {n:Nat} {d:Fun},ds[n]?=some d->∃ st,sts[n]?=some st/\scB d.N d.ps (defScope st)=true/\okSs T ⟨d.N,(defScope st).names⟩ d.body (defBody st)=true/\unSs T ⟨d.N,(defScope st).names⟩ d.body (defBody st)=defBody st
 | [],_,_,_,_,_,e=>by simp at e
 | _::_,[],h,_,_,_,_=>by unfold jex at h; cases h
 | d::ds,st::sts,h,g,n,d',e=>by
  unfold jex at h
  unfold jfw at g
  simp only [Bool.and_eq_true] at h
  cases n with
  | zero=>
   simp at e
   subst e
   exact ⟨st,rfl,h.1.1,h.1.2,g.1⟩
  | succ n=>
   obtain ⟨st',e',q⟩:=jdp h.2 g.2 (n:=n) (by simpa using e)
   exact ⟨st',by simpa using e',q⟩
theorem jh2 {X:Cx}{a b:List Stmt}{t:L2.TS}(e:a=b)(h:PSs X a t):PSs X b t:=e ▸ h
theorem jdL {K:PySem.W.Frag}{H:Hp}{N:List Str}{us:List U}{vs:List V}(r:RUs K H us vs):SR K H (jaj N.length us) (L2.start N vs):=by
 unfold jaj L2.start
 refine ⟨by simp [r.length],fun i u e=>?_⟩
 by_cases hi:i < us.length
 ·rw [List.getElem?_append_left (by simpa using hi),List.getElem?_map] at e
  cases q:us[i]? with
  | none=>rw [q] at e; cases e
  | some w=>
   rw [q] at e
   have:w=u:=by simpa using e
   subst this
   obtain ⟨v,ev,rv⟩:=r.get q
   have hv:i < vs.length:=by rw [<- r.length]; exact hi
   exact ⟨v,by rw [List.getElem?_append_left (by simpa using hv),List.getElem?_map,ev]; rfl,rv⟩
 ·rw [List.getElem?_append_right (by simpa using hi),List.getElem?_replicate] at e
  split at e <;> cases e
section
variable {T:Tab}{P:Program}{w:World}{K:PySem.W.Frag}{mg:Str->Option Value}{base:Heap}
theorem jew {sts:List Stmt}(hst:jex T T.funs sts=true)(heq:jfw T T.funs sts)
  (dyn:∀ (n:Nat) (d:Fun) (st:Stmt),T.funs[n]?=some d->sts[n]?=some st->∃ (f:Addr) (fd:FuncData),L2.Fun K d.name d.name st f fd/\mg d.name=some (.ref f)/\Binds K fd d.ps [])
  (hb:∀ x∈jcd,mg x=none) (hg:∀ (n:Nat) (x:Str) (u:U),T.gn[n]?=some x->T.gs[n]?=some u->∃ v w,mg x=some w/\RelV v w/\∀ H,RU K H u v) (hc:∀ n∈T.cs,1<=n->∃ C,XCls K (gK K) (clsN n) (clsF n) C) (hm:∀ x v,gK K x=some v->mg x=some v) :
  ∀ (k n:Nat) (d:Fun),T.funs[n]?=some d->FnU P w K mg base k d (jab T k n):=by
 intro k
 induction k with
 | zero=>
  intro n d hd
  obtain ⟨st,e,_⟩:=jdp hst heq hd
  obtain ⟨f,fd,F,m,b⟩:=dyn n d st hd e
  exact ⟨f,fd,⟨fun vs H Q E ⟨_,_,_,_,_,_,h,_⟩=>h.elim,fun A outer s H args us vs Q E _ _ _ _ ⟨_,_,_,_,_,_,h,_⟩=>h.elim⟩,m,F.kp,b⟩
 | succ k ih=>
  intro n d hd
  obtain ⟨st,e,h1,h2,h3⟩:=jdp hst heq hd
  obtain ⟨f,fd,F,m,b⟩:=dyn n d st hd e
  have S:=jkw h1
  have un:∀ {us:List U} {G:Gp} {Q:K1} {E:KX},jab T (k + 1) n us G Q E->us.length=d.ps.length/\jay T.gs (jab T k) d.body ⟨fun _ G'=>Q .non G',Q,fun x _ G'=>E x G'⟩ (jaj d.N.length us) G:=fun {us G Q E} h=>by
   have h':(match T.funs[n]? with | some d=>us.length=d.ps.length/\jay T.gs (jab T k) d.body ⟨fun _ G'=>Q .non G',Q,fun x _ G'=>E x G'⟩ (jaj d.N.length us) G | none=>False):=h
   rw [hd] at h'
   exact h'
  refine ⟨f,fd,F.okX S (fun vs H Q E ⟨us,G,Q',E',r,hG,h,lv,lx⟩=>by rw [<- r.length]; exact (un h).1) fun cdv A outer s H vs Q E hr hsp=>?_,m,F.kp,b⟩
  obtain ⟨us,G,Q',E',r,hG,h,lv,lx⟩:=hsp
  obtain ⟨hl,h⟩:=un h
  refine ⟨_,jh2 h3 (sSs d.body (k:=k) (c:=⟨d.N,(defScope st).names⟩) (hs:=defBody st) ⟨⟨rfl,S.nd,fun x z=>eq_of_beq z,fun x z=>⟨eq_of_beq z,rfl⟩,fun x z=>.inr (eq_of_beq z),fun x z=>eq_of_beq z,hr.mono (by omega),rfl,jkN,hb,ih,hg,hr,hc,hm⟩,rfl,S.kind,rfl,rfl⟩ h2),?_⟩
  exact ⟨_,_,G,jdL r,hG,h,⟨fun ς' σ' G' H' a b c q=>lv .non .non G' H' rfl b c q,fun w v G' H' a b c q=>lv w v G' H' a b c q,fun pins e s' x ς' σ' G' H' I sr xat hr' f q=>by obtain ⟨ea,C0,dx,rfl,l,xd⟩:=xat; exact CX1.out1 I l (lx x G' H' C0 dx xd hr' f q)⟩⟩
theorem jie {α β:Type}[BEq α][LawfulBEq α]:∀ {l:List (α×β)} {a:α} {b:β},l.lookup a=some b->(a,b)∈l
 | (x,y)::r,a,b,h=>by
  simp only [List.lookup_cons] at h
  split at h
  ·rename_i e
   cases h
   rw [eq_of_beq e]; exact List.mem_cons_self
  ·exact List.mem_cons_of_mem _ (jie h)
noncomputable def G0 (a:Addr)(ns:List Int):Gp:=fun b=>if b=a then some (.fro (ns.map .int)) else none
theorem jgI {H:Hp}:∀ ns:List Int,RUs K H (ns.map .int) (ns.map V.int)
 | []=>rfl
 | _::r=>⟨_,_,rfl,rfl,jgI r⟩
theorem law_sp {k n:Nat}{H:Hp}{a:Addr}{ns:List Int}(hK:(K.all fun p=>p.2.cls != .type "list")=true)(hO:Only H)(hS:SqL K H a (ns.map V.int))(h:jab T k n [.loc a] (G0 a ns) (fun u _=>u=.bl true) fun _ _=>False) :
  lSp K (jab T k n) [.ref a] H (fun v _=>v=.bl true) fun _ _ _=>False:=by
 have fr:∃ o,H a=some (.frz o (.lst (ns.map V.int))):=by
  rcases hS with (q | q) | ⟨o,its,m,lk,hc,_⟩
  ·rcases hO a with z | ⟨o,xs,z⟩ <;> (rw [q] at z; cases z)
  ·exact q
  ·have:=List.all_eq_true.mp hK (a,o) (jie lk)
   simp [hc] at this
 obtain ⟨o,fr⟩:=fr
 refine ⟨[.loc a],G0 a ns,_,_,⟨_,_,rfl,rfl,rfl⟩,fun b mo e=>?_,h,fun w v G' H' r _ _ q=>?_,fun _ _ _ _ _ _ _ _ z=>z.elim⟩
 ·unfold G0 at e
  split at e
  ·rename_i z
   subst z
   cases e
   exact ⟨o,_,fr,jgI ns⟩
  ·cases e
 ·subst q
  exact r
end
section
variable {T:Tab}{P:Program}{w:World}{K:PySem.W.Frag}{mg:Str->Option Value}{base:Heap}
theorem jfv {sts:List Stmt}{k n:Nat}{d:Fun}{st:Stmt}{f:Addr}{fd:FuncData}(F:L2.Fun K d.name d.name st f fd)(hst:jex T T.funs sts=true)(heq:jfw T T.funs sts)
  (dyn:∀ (n:Nat) (d:Fun) (st:Stmt),T.funs[n]?=some d->sts[n]?=some st->∃ (f:Addr) (fd:FuncData),L2.Fun K d.name d.name st f fd/\mg d.name=some (.ref f)/\Binds K fd d.ps [])
  (hb:∀ x∈jcd,mg x=none) (hg:∀ (n:Nat) (x:Str) (u:U),T.gn[n]?=some x->T.gs[n]?=some u->∃ v w,mg x=some w/\RelV v w/\∀ H,RU K H u v) (hc:∀ n∈T.cs,1<=n->∃ C,XCls K (gK K) (clsN n) (clsF n) C) (hm:∀ x v,gK K x=some v->mg x=some v) (hd:T.funs[n]?=some d) (hs:sts[n]?=some st) (m:mg d.name=some (.ref f)) (b:Binds K fd d.ps []) :
  FnOk P w K mg base (CX1 P w) (k + 2) f fd d.ps (lSp K (jab T k n)):=by
 have all:=jew (P:=P) (w:=w) (base:=base) hst heq (fun n' d' st' h1 h2=>by
  by_cases e:n'=n
  ·subst e
   rw [hd] at h1
   rw [hs] at h2
   cases h1; cases h2
   exact ⟨f,fd,F,m,b⟩
  ·exact dyn n' d' st' h1 h2) hb hg hc hm k
 cases k with
 | zero=>exact ⟨fun vs H Q E ⟨_,_,_,_,_,_,h,_⟩=>h.elim,fun A outer s H args us vs Q E _ _ _ _ ⟨_,_,_,_,_,_,h,_⟩=>h.elim⟩
 | succ k=>
  have ih:=jew (P:=P) (w:=w) (base:=base) hst heq dyn hb hg hc hm k
  obtain ⟨st',e,h1,h2,h3⟩:=jdp hst heq hd
  rw [hs] at e
  cases e
  have S:=jkw h1
  have un:∀ {us:List U} {G:Gp} {Q:K1} {E:KX},jab T (k + 1) n us G Q E->us.length=d.ps.length/\jay T.gs (jab T k) d.body ⟨fun _ G'=>Q .non G',Q,fun x _ G'=>E x G'⟩ (jaj d.N.length us) G:=fun {us G Q E} h=>by
   have h':(match T.funs[n]? with | some d=>us.length=d.ps.length/\jay T.gs (jab T k) d.body ⟨fun _ G'=>Q .non G',Q,fun x _ G'=>E x G'⟩ (jaj d.N.length us) G | none=>False):=h
   rw [hd] at h'
   exact h'
  refine F.okX S (fun vs H Q E ⟨us,G,Q',E',r,hG,h,lv,lx⟩=>by rw [<- r.length]; exact (un h).1) fun cdv A outer s H vs Q E hr hsp=>?_
  obtain ⟨us,G,Q',E',r,hG,h,lv,lx⟩:=hsp
  obtain ⟨hl,h⟩:=un h
  refine ⟨_,jh2 h3 (sSs d.body (k:=k) (c:=⟨d.N,(defScope st).names⟩) (hs:=defBody st) ⟨⟨rfl,S.nd,fun x z=>eq_of_beq z,fun x z=>⟨eq_of_beq z,rfl⟩,fun x z=>.inr (eq_of_beq z),fun x z=>eq_of_beq z,hr.mono (by omega),rfl,jkN,hb,ih,hg,hr,hc,hm⟩,rfl,S.kind,rfl,rfl⟩ h2),?_⟩
  exact ⟨_,_,G,jdL r,hG,h,⟨fun ς' σ' G' H' a b c q=>lv .non .non G' H' rfl b c q,fun w v G' H' a b c q=>lv w v G' H' a b c q,fun pins e s' x ς' σ' G' H' I sr xat hr' f q=>by obtain ⟨ea,C0,dx,rfl,l,xd⟩:=xat; exact CX1.out1 I l (lx x G' H' C0 dx xd hr' f q)⟩⟩
end
section
variable {K:PySem.W.Frag}
theorem jnq {x:Str}{v:Value}(h:gK K x=some v):PySem.W.nsIn K mainGlobals x=some (some v):=by
 unfold gK at h
 cases q:PySem.W.nsIn K mainGlobals x with
 | none=>rw [q] at h; cases h
 | some o=>rw [q] at h; rw [show o=some v from h]
theorem jlp {h:Heap}{mg:Str->Option Value}(X:K.In h)(G:h.Ns mainGlobals mg):∀ x v,gK K x=some v->mg x=some v:=fun _ _ e=>PySem.W.mg_of X G (jnq e)
end
theorem jbC {G:Gp}{a:Addr}{o u:MO}:gup (gup G a o) a u=gup G a u:=by funext b; unfold gup; split <;> rfl
noncomputable def Sm (f:Addr)(G G':Gp):Prop:=∀ b o,b≠f->G b=some o->G' b=some o
noncomputable def Sa (G G':Gp):Prop:=∀ b o,G b=some o->G' b=some o
theorem Sm.refl {f:Addr}{G:Gp}:Sm f G G:=fun _ _ _ h=>h
theorem Sa.refl {G:Gp}:Sa G G:=fun _ _ h=>h
theorem Sm.trans {f:Addr}{G G1 G2:Gp}(a:Sm f G G1)(b:Sm f G1 G2):Sm f G G2:=fun c o n h=>b c o n (a c o n h)
theorem Sa.trans {G G1 G2:Gp}(a:Sa G G1)(b:Sa G1 G2):Sa G G2:=fun c o h=>b c o (a c o h)
theorem Sa.sm {f:Addr}{G G':Gp}(a:Sa G G'):Sm f G G':=fun c o _ h=>a c o h
theorem Sa.new {G:Gp}{p:Addr}{o:MO}(h:G p=none):Sa G (gup G p o):=fun c u e=>by
 rw [jaT (fun z=>by rw [z,h] at e; cases e)]; exact e
theorem Sm.put {G:Gp}{f:Addr}{o:MO}:Sm f G (gup G f o):=fun c u n e=>by rw [jaT n]; exact e
theorem jau {G:Gp}{a p:Addr}{o:MO}(h:G a=some o)(hp:G p=none):p≠a:=fun z=>by rw [z,h] at hp; cases hp
theorem New.at {G G':Gp}{p:Addr}{o:MO}(n:New G p o G'):G' p=some o:=by rw [n.eq]; exact jah
theorem New.sa {G G':Gp}{p:Addr}{o:MO}(n:New G p o G'):Sa G G':=by rw [n.eq]; exact Sa.new n.no
theorem Put.at {G G':Gp}{p:Addr}{o:MO}(n:Put G p o G'):G' p=some o:=by rw [n.eq]; exact jah
theorem Put.sm {G G':Gp}{p:Addr}{o:MO}(n:Put G p o G'):Sm p G G':=by rw [n.eq]; exact Sm.put
mutual
noncomputable def pd:U->PyData
 | .non=>.none
 | .bl b=>.bool b
 | .int i=>.int i
 | .str x=>.str x
 | .tup us=>.tuple (pds us)
 | .loc _=>.none
 | .fn _=>.none
 | .ty _=>.none
 | .exc _ _=>.none
 | .own _=>.none
 | .clo _ _=>.none
noncomputable def pds:List U->List PyData
 | []=>[]
 | u::us=>pd u::pds us
end
mutual
noncomputable def bare:U->Bool
 | .non=>true
 | .bl _=>true
 | .int _=>true
 | .str _=>true
 | .tup us=>bares us
 | .loc _=>false
 | .fn _=>false
 | .ty _=>false
 | .exc _ _=>false
 | .own _=>false
 | .clo _ _=>false
noncomputable def bares:List U->Bool
 | []=>true
 | u::us=>bare u && bares us
end
mutual
theorem jlR {G:Gp}:∀ {u:U},bare u=true->DU G u (pd u)
 | .non,_=>.non
 | .bl b,_=>.bl b
 | .int i,_=>.int i
 | .str x,_=>.str x
 | .tup _,h=>.tup (jgR h)
 | .loc _,h=>nomatch h
 | .fn _,h=>nomatch h
 | .ty _,h=>nomatch h
 | .exc _ _,h=>nomatch h
 | .own _,h=>nomatch h
 | .clo _ _,h=>nomatch h
theorem jgR {G:Gp}:∀ {us:List U},bares us=true->DUs G us (pds us)
 | [],_=>.nil
 | _::_,h=>.cons (jlR (ba h).1) (jgR (ba h).2)
end
theorem jfn:∀ {us:List U},(∀ u∈us,bare u=true)->bares us=true
 | [],_=>rfl
 | u::us,h=>by
  show (bare u && bares us)=true
  rw [h u List.mem_cons_self,jfn fun v hv=>h v (List.mem_cons_of_mem _ hv)]; rfl
theorem jh7:∀ us:List U,pds us=us.map pd
 | []=>rfl
 | u::us=>by
  show pd u::pds us=_
  rw [jh7 us]; rfl
theorem jkB {G:Gp}{u:U}{Q:K1}(h:bare u=true)(f:Fits 16000000 60 (pd u))(q:Q (.str (pd u).shown) G):jdO [u] G Q:=⟨pd u,jlR h,f,q⟩
structure Sml (n:Nat)(u:U):Prop where
 b:bare u=true
 l:(pd u).canLay0=true
 d:(pd u).depth<=n
theorem Sml.int (i:Int):Sml 0 (.int i):=⟨rfl,rfl,Nat.le_refl _⟩
theorem smls {n:Nat}:∀ {us:List U},(∀ u∈us,Sml n u)->bares us=true/\PyData.canLayAll0 (pds us)=true/\PyData.depthAll (pds us)<=n
 | [],_=>⟨rfl,rfl,Nat.zero_le _⟩
 | u::us,h=>by
  obtain ⟨h1,h2,h3⟩:=smls fun v hv=>h v (List.mem_cons_of_mem _ hv)
  have hu:=h u List.mem_cons_self
  refine ⟨?_,?_,?_⟩
  ·show (bare u && bares us)=true
   rw [hu.b,h1]; rfl
  ·show ((pd u).canLay0 && PyData.canLayAll0 (pds us))=true
   rw [hu.l,h2]; rfl
  ·show max (pd u).depth (PyData.depthAll (pds us))<=n
   exact Nat.max_le.mpr ⟨hu.d,h3⟩
theorem Sml.tup {n:Nat}{us:List U}(h:∀ u∈us,Sml n u):Sml (n + 1) (.tup us):=let ⟨h1,h2,h3⟩:=smls h; ⟨h1,h2,Nat.succ_le_succ h3⟩
theorem jiq {G : Gp}{n : Nat}{a b : Addr}{us : List U}{k : Bool -> Prop}(ga : G a = some (.lst us))(gb : G b = some (.lst []))(h : ∀ u ∈ us, Sml n u)(hn : n < 100)(q : k us.isEmpty) : eqU (.loc a) (.loc b) G k := by
  obtain ⟨h1, h2, h3⟩ := smls h
  have la : lsG G a = some us := by unfold lsG; rw [ga]
  have lb : lsG G b = some [] := by unfold lsG; rw [gb]
  refine ⟨.list (pds us), .list [], .lst la (jgR h1), .lst lb .nil, ⟨h2, ?_⟩, ⟨rfl, by decide⟩, ?_⟩
  · show PyData.depthAll (pds us) + 1 <= 100
    omega
  · have e : PyData.eqv (.list (pds us)) (.list []) = us.isEmpty := by
      show PyData.eqvAll (pds us) [] = _
      rw [jfK]
      cases us <;> rfl
    rw [e]; exact q
structure Ft (n k:Nat)(u:U):Prop where
 b:bare u=true
 f:Fits n k (pd u)
theorem Ft.mono {n n' k k':Nat}{u:U}(h:Ft n k u)(h1:n<=n')(h2:k<=k'):Ft n' k' u:=⟨h.b,h.f.mono h1 h2⟩
theorem Ft.int {i:Int}(h:i.natAbs < 2 ^ 1000):Ft 1921 0 (.int i):=⟨rfl,Fits.int h⟩
theorem Ft.str {x:Str}{m:Nat}(h:x.length<=m)(hc:∀ c∈x.cps.toList,c < 128):Ft (10 * m + 2) 0 (.str x):=⟨rfl,Fits.str h fun c hc'=>Nat.lt_trans (hc c hc') (by decide)⟩
theorem Ft.tup {n k m N:Nat}{us:List U}(hl:us.length<=m)(h:∀ u∈us,Ft n k u)(hN:m * (n + 2) + 3<=N):Ft N (k + 1) (.tup us):=by
 refine ⟨jfn fun u hu=>(h u hu).b,?_⟩
 show Fits N (k + 1) (.tuple (pds us))
 rw [jh7]
 refine Fits.tupLe (m:=m) (n:=n) (by rw [List.length_map]; exact hl) (fun d hd=>?_) hN
 obtain ⟨u,hu,rfl⟩:=List.mem_map.mp hd
 exact (h u hu).f
theorem jkC {G:Gp}{n k:Nat}{u:U}{Q:K1}(h:Ft n k u)(h1:n<=16000000)(h2:k<=60)(q:Q (.str (pd u).shown) G):jdO [u] G Q:=jkB h.b (h.f.mono h1 h2) q
theorem jao {ok:Gp->Prop}{b:U->Sg->Gp->(Sg->Gp->Prop)->Prop}{k:Sg->Gp->Prop}:∀ {xs:List U} (I:Nat->Sg->Gp->Prop) (_:∀ ς G,I xs.length ς G->ok G/\k ς G)
  (_:∀ i x ς G (K:Sg->Gp->Prop),xs[i]?=some x->I i ς G->(∀ ς' G',I (i + 1) ς' G'->K ς' G')->ok G/\b x ς G K) {ς:Sg} {G:Gp} (_:I 0 ς G),forL ok b xs ς G k
 | [],_,h0,_,_,_,h=>h0 _ _ h
 | x::_,I,h0,h1,_,_,h=>h1 0 x _ _ _ rfl h fun _ _ h'=>jao (fun i=>I (i + 1)) h0 (fun i y ς G K e hi hk=>h1 (i + 1) y ς G K e hi hk) h'
theorem jan {ok:Gp->Prop}{b:U->Gp->(Option U->Gp->Prop)->Prop}{k:List U->Gp->Prop}:∀ {xs:List U} (I:Nat->List U->Gp->Prop) (_:∀ acc G,I xs.length acc G->ok G/\k acc G)
  (_:∀ i x acc G (K:Option U->Gp->Prop),xs[i]?=some x->I i acc G->(∀ u G',I (i + 1) (acc++[u]) G'->K (some u) G')->(∀ G',I (i + 1) acc G'->K none G')->ok G/\b x G K) {acc:List U} {G:Gp} (_:I 0 acc G),jcU ok b xs acc G k
 | [],_,h0,_,_,_,h=>h0 _ _ h
 | x::_,I,h0,h1,_,_,h=>h1 0 x _ _ _ rfl h (fun _ _ h'=>jan (fun i=>I (i + 1)) h0 (fun i y a G K e hi hk hn=>h1 (i + 1) y a G K e hi hk hn) h') (fun _ h'=>jan (fun i=>I (i + 1)) h0 (fun i y a G K e hi hk hn=>h1 (i + 1) y a G K e hi hk hn) h')
theorem jam (i:Int)(n:Nat):(rngU i n).length=n:=by unfold rngU; simp
theorem jaA {n i:Nat}{x:U}(h:(rngU 0 n)[i]?=some x):i < n/\x=.int i:=by
 unfold rngU at h
 rw [List.getElem?_map] at h
 by_cases hi:i < n
 ·rw [List.getElem?_range hi] at h
  exact ⟨hi,by simpa using h.symm⟩
 ·rw [List.getElem?_eq_none (by simpa using hi)] at h
  cases h
theorem jbE {α β:Type}(f:α->β)(l:List α)(i:Int):atI (l.map f) i=(atI l i).map f:=by
 unfold atI
 rw [List.length_map]
 cases ixN l.length i with
 | none=>rfl
 | some j=>simp
theorem jbZ {α:Type}(a:α)(l:List α):atI (a::l) 0=some a:=jas (xs:=a::l) (j:=0) rfl
theorem jdE {α:Type}(a b:α)(l:List α):atI (a::b::l) 1=some b:=jas (xs:=a::b::l) (j:=1) rfl
theorem jnx {α:Type}(a b c d:α)(l:List α):atI (a::b::c::d::l) 3=some d:=jas (xs:=a::b::c::d::l) (j:=3) rfl
theorem jdj {α:Type}{l:List α}{r:Int}(h0:0<=r)(h1:r < l.length):∃ x,x∈l/\atI l r=some x:=by
 obtain ⟨j,rfl⟩:=Int.eq_ofNat_of_zero_le h0
 have hj:j < l.length:=by omega
 exact ⟨l[j],List.getElem_mem hj,jas (List.getElem?_eq_getElem hj)⟩
noncomputable def fdU (c:Addr)(a l t:Int):List (Key×U):=[(.inr "cells",.loc c),(.inr "at",.int a),(.inr "left",.int l),(.inr "turn",.int t)]
structure Fd (G:Gp)(f c:Addr):Prop where
 ex:∃ (ns:List Int) (a l t:Int),G f=some (.dK (fdU c a l t))/\G c=some (.lst (ns.map .int))/\ns≠[]
section
theorem k_ca:¬ ((Sum.inr ("cells" : Str):Key)=Sum.inr ("at" : Str)):=by decide +kernel
theorem k_cl:¬ ((Sum.inr ("cells" : Str):Key)=Sum.inr ("left" : Str)):=by decide +kernel
theorem k_ct:¬ ((Sum.inr ("cells" : Str):Key)=Sum.inr ("turn" : Str)):=by decide +kernel
theorem k_al:¬ ((Sum.inr ("at" : Str):Key)=Sum.inr ("left" : Str)):=by decide +kernel
theorem k_at:¬ ((Sum.inr ("at" : Str):Key)=Sum.inr ("turn" : Str)):=by decide +kernel
theorem k_lt:¬ ((Sum.inr ("left" : Str):Key)=Sum.inr ("turn" : Str)):=by decide +kernel
variable {c:Addr}{a l t:Int}
theorem jjN:dGet (fdU c a l t) (.inr "cells")=some (.loc c):=by simp [dGet,fdU]
theorem g_at:dGet (fdU c a l t) (.inr "at")=some (.int a):=by simp [dGet,fdU,k_ca,-Sum.inr.injEq]
theorem jlJ:dGet (fdU c a l t) (.inr "left")=some (.int l):=by simp [dGet,fdU,k_cl,k_al,-Sum.inr.injEq]
theorem jim:dGet (fdU c a l t) (.inr "turn")=some (.int t):=by simp [dGet,fdU,k_ct,k_at,k_lt,-Sum.inr.injEq]
theorem jh8 (x:Int):dPut (fdU c a l t) (.inr "turn") (.int x)=fdU c a l x:=by simp [dPut,fdU,k_ct,k_at,k_lt,-Sum.inr.injEq]
theorem p_at (x:Int):dPut (fdU c a l t) (.inr "at") (.int x)=fdU c x l t:=by simp [dPut,fdU,k_ca,Ne.symm k_al,Ne.symm k_at,-Sum.inr.injEq]
theorem jk0 (x:Int):dPut (fdU c a l t) (.inr "left") (.int x)=fdU c a x t:=by simp [dPut,fdU,k_cl,k_al,Ne.symm k_lt,-Sum.inr.injEq]
theorem jlr {p:Addr}:jcS [((Sum.inr ("cells" : Str):Key),U.loc p),(.inr "at",.int 0),(.inr "left",.int 0),(.inr "turn",.int 0)]=fdU p 0 0 0:=by
 simp [jcS,dPut,fdU,k_ca,k_cl,k_ct,k_al,k_at,k_lt,-Sum.inr.injEq]
theorem jfh:(fdU c a l t).length < sizeLine:=by show 4 < sizeLine; decide
theorem Fd.put {G G':Gp}{f c:Addr}{ns:List Int}{kvs:List (Key×U)}{a l t:Int}(p:Put G f (.dK (fdU c a l t)) G')(h:G f=some (.dK kvs))(hc:G c=some (.lst (ns.map .int)))(hn:ns≠[]):Fd G' f c:=
 ⟨ns,a,l,t,p.at,p.sm _ _ (fun z=>by rw [z,h] at hc; cases hc) hc,hn⟩
theorem Fd.sa {G G':Gp}{f c:Addr}(h:Fd G f c)(s:Sa G G'):Fd G' f c:=let ⟨ns,a,l,t,h1,h2,h3⟩:=h.ex; ⟨ns,a,l,t,s _ _ h1,s _ _ h2,h3⟩
theorem Fd.new {G G':Gp}{f c p:Addr}{o:MO}(h:Fd G f c)(n:New G p o G'):Fd G' f c:=h.sa n.sa
theorem Fd.away {G G':Gp}{f c p:Addr}{o:MO}(h:Fd G f c)(n:New G p o G'):p≠f/\p≠c:=by
 obtain ⟨ns,a,l,t,h1,h2,_⟩:=h.ex
 exact ⟨jau h1 n.no,jau h2 n.no⟩
theorem Fd.off {G G':Gp}{f c p:Addr}{o:MO}(h:Fd G f c)(hp:p≠f/\p≠c)(w:Put G p o G'):Fd G' f c:=let ⟨ns,a,l,t,h1,h2,h3⟩:=h.ex; ⟨ns,a,l,t,w.sm _ _ (Ne.symm hp.1) h1,w.sm _ _ (Ne.symm hp.2) h2,h3⟩
theorem Sm.wr {f p:Addr}{G G1 G2 G3:Gp}{o:MO}(s1:Sm f G G1)(n:G1 p=none)(s2:Sm f G G2)(w:Put G2 p o G3):Sm f G G3:=fun b u hb e=>w.sm b u (fun z=>by
 have:=s1 _ _ hb e
 rw [z,n] at this; cases this) (s2 b u hb e)
theorem Sm.nw {f p:Addr}{G G1 G2:Gp}{o:MO}(s:Sm f G G1)(n:New G1 p o G2):Sm f G G2:=s.trans n.sa.sm
end
theorem D_v {gs:List U}{Δ:Cl}{ς:Sg}{G:Gp}{Q:K1}{X:KX}(i:Nat):(den gs Δ (.v i)).1 ς G Q X=(slot ς i fun u=>Q u G):=rfl
theorem T_v {gs:List U}{Δ:Cl}{ς:Sg}{G:Gp}{R:Bool->Gp->Prop}{X:KX}(i:Nat):(den gs Δ (.v i)).2 ς G R X=(den gs Δ (.v i)).1 ς G (fun x G1=>truU x G1 fun b=>R b G1) X:=rfl
theorem joi {gs:List U}{Δ:Cl}{ς:Sg}{G:Gp}{Q:K1}{X:KX}  : (den gs Δ (.non)).1 ς G Q X=(Q .non G):=rfl
theorem D_bl {gs:List U}{Δ:Cl}{ς:Sg}{G:Gp}{Q:K1}{X:KX}(b:Bool):(den gs Δ (.bl b)).1 ς G Q X=(Q (.bl b) G):=rfl
theorem jop {gs:List U}{Δ:Cl}{ς:Sg}{G:Gp}{Q:K1}{X:KX}(i:Int):(den gs Δ (.int i)).1 ς G Q X=(Q (.int i) G):=rfl
theorem jog {gs:List U}{Δ:Cl}{ς:Sg}{G:Gp}{Q:K1}{X:KX}(x:Str):(den gs Δ (.str x)).1 ς G Q X=(Q (.str x) G):=rfl
theorem D_g {gs:List U}{Δ:Cl}{ς:Sg}{G:Gp}{Q:K1}{X:KX}(n:Nat):(den gs Δ (.g n)).1 ς G Q X=(glU gs n fun u=>Q u G):=rfl
theorem T_g {gs:List U}{Δ:Cl}{ς:Sg}{G:Gp}{R:Bool->Gp->Prop}{X:KX}(n:Nat):(den gs Δ (.g n)).2 ς G R X=(den gs Δ (.g n)).1 ς G (fun x G1=>truU x G1 fun b=>R b G1) X:=rfl
theorem D_ty {gs:List U}{Δ:Cl}{ς:Sg}{G:Gp}{Q:K1}{X:KX}(n:String):(den gs Δ (.ty n)).1 ς G Q X=(Q (.ty n) G):=rfl
theorem T_ty {gs:List U}{Δ:Cl}{ς:Sg}{G:Gp}{R:Bool->Gp->Prop}{X:KX}(n:String):(den gs Δ (.ty n)).2 ς G R X=(den gs Δ (.ty n)).1 ς G (fun x G1=>truU x G1 fun b=>R b G1) X:=rfl
theorem jou {gs:List U}{Δ:Cl}{ς:Sg}{G:Gp}{Q:K1}{X:KX}(o:Operator)(a b:E):(den gs Δ (.bin o a b)).1 ς G Q X=((den gs Δ a).1 ς G (fun x G1=>(den gs Δ b).1 ς G1 (fun y G2=>binU o x y G2 Q) X) X):=rfl
theorem jnZ {gs:List U}{Δ:Cl}{ς:Sg}{G:Gp}{R:Bool->Gp->Prop}{X:KX}(o:Operator)(a b:E):(den gs Δ (.bin o a b)).2 ς G R X=(den gs Δ (.bin o a b)).1 ς G (fun x G1=>truU x G1 fun b=>R b G1) X:=rfl
theorem joj {gs:List U}{Δ:Cl}{ς:Sg}{G:Gp}{Q:K1}{X:KX}(a:E):(den gs Δ (.neg a)).1 ς G Q X=((den gs Δ a).1 ς G (fun x G1=>negU x G1 Q) X):=rfl
theorem jos {gs:List U}{Δ:Cl}{ς:Sg}{G:Gp}{Q:K1}{X:KX}(o:CmpOp)(a b:E):(den gs Δ (.cmp o a b)).1 ς G Q X=((den gs Δ a).1 ς G (fun x G1=>(den gs Δ b).1 ς G1 (fun y G2=>cmpU o x y G2 fun c=>Q (.bl c) G2) X) X):=rfl
theorem jnX {gs:List U}{Δ:Cl}{ς:Sg}{G:Gp}{R:Bool->Gp->Prop}{X:KX}(o:CmpOp)(a b:E):(den gs Δ (.cmp o a b)).2 ς G R X=(den gs Δ (.cmp o a b)).1 ς G (fun x G1=>truU x G1 fun b=>R b G1) X:=rfl
theorem jmj {gs:List U}{Δ:Cl}{ς:Sg}{G:Gp}{Q:K1}{X:KX}(o p:CmpOp)(a b c:E):(den gs Δ (.cmp2 o p a b c)).1 ς G Q X=((den gs Δ a).1 ς G (fun x G1=>(den gs Δ b).1 ς G1 (fun y G2=>cmpU o x y G2 fun t=>if t=true then (den gs Δ c).1 ς G2 (fun z G3=>cmpU p y z G3 fun t'=>Q (.bl t') G3) X else Q (.bl false) G2) X) X):=rfl
theorem jl4 {gs:List U}{Δ:Cl}{ς:Sg}{G:Gp}{R:Bool->Gp->Prop}{X:KX}(o p:CmpOp)(a b c:E):(den gs Δ (.cmp2 o p a b c)).2 ς G R X=(den gs Δ (.cmp2 o p a b c)).1 ς G (fun x G1=>truU x G1 fun b=>R b G1) X:=rfl
theorem jof {gs:List U}{Δ:Cl}{ς:Sg}{G:Gp}{Q:K1}{X:KX}(es:Es):(den gs Δ (.tup es)).1 ς G Q X=(jaN gs Δ es ς G (fun us G1=>us.length<=sizeLine/\Q (.tup us) G1) X):=rfl
theorem jon {gs:List U}{Δ:Cl}{ς:Sg}{G:Gp}{Q:K1}{X:KX}(es:Es):(den gs Δ (.lst es)).1 ς G Q X=(jaN gs Δ es ς G (fun us G1=>us.length<=sizeLine/\newO G1 (.lst us) Q) X):=rfl
theorem jor {gs:List U}{Δ:Cl}{ς:Sg}{G:Gp}{Q:K1}{X:KX}(es:Es):(den gs Δ (.dic es)).1 ς G Q X=(denD gs Δ es ς G (fun kvs G1=>kvs.length<=15/\newO G1 (.dK (jcS kvs)) Q) X):=rfl
theorem D_ix {gs:List U}{Δ:Cl}{ς:Sg}{G:Gp}{Q:K1}{X:KX}(a b:E):(den gs Δ (.ix a b)).1 ς G Q X=((den gs Δ a).1 ς G (fun x G1=>(den gs Δ b).1 ς G1 (fun y G2=>ixU x y G2 Q) X) X):=rfl
theorem T_ix {gs:List U}{Δ:Cl}{ς:Sg}{G:Gp}{R:Bool->Gp->Prop}{X:KX}(a b:E):(den gs Δ (.ix a b)).2 ς G R X=(den gs Δ (.ix a b)).1 ς G (fun x G1=>truU x G1 fun b=>R b G1) X:=rfl
theorem D_sl {gs:List U}{Δ:Cl}{ς:Sg}{G:Gp}{Q:K1}{X:KX}(a:E)(lo hi:Eo):(den gs Δ (.sl a lo hi)).1 ς G Q X=((den gs Δ a).1 ς G (fun x G1=>denO gs Δ lo ς G1 (fun l G2=>denO gs Δ hi ς G2 (fun h G3=>slU x l h G3 Q) X) X) X):=rfl
theorem jmk {gs:List U}{Δ:Cl}{ς:Sg}{G:Gp}{Q:K1}{X:KX}(n:Nat)(es:Es):(den gs Δ (.call n es)).1 ς G Q X=(jaN gs Δ es ς G (fun us G1=>Δ n us G1 Q X) X):=rfl
theorem jl5 {gs:List U}{Δ:Cl}{ς:Sg}{G:Gp}{R:Bool->Gp->Prop}{X:KX}(n:Nat)(es:Es):(den gs Δ (.call n es)).2 ς G R X=(den gs Δ (.call n es)).1 ς G (fun x G1=>truU x G1 fun b=>R b G1) X:=rfl
theorem jot {gs:List U}{Δ:Cl}{ς:Sg}{G:Gp}{Q:K1}{X:KX}(b:Blt)(es:Es):(den gs Δ (.blt b es)).1 ς G Q X=(jaN gs Δ es ς G (fun us G1=>bltU b us G1 Q) X):=rfl
theorem jnY {gs:List U}{Δ:Cl}{ς:Sg}{G:Gp}{R:Bool->Gp->Prop}{X:KX}(b:Blt)(es:Es):(den gs Δ (.blt b es)).2 ς G R X=(den gs Δ (.blt b es)).1 ς G (fun x G1=>truU x G1 fun b=>R b G1) X:=rfl
theorem jmi {gs:List U}{Δ:Cl}{ς:Sg}{G:Gp}{Q:K1}{X:KX}(m:Mth)(o:E)(es:Es):(den gs Δ (.meth m o es)).1 ς G Q X=((den gs Δ o).1 ς G (fun x G1=>match mtU m x G1 with | some _=>jaN gs Δ es ς G1 (fun us G2=>jaO m x us G2 Q) X | none=>False) X):=rfl
theorem D_lc {gs:List U}{Δ:Cl}{ς:Sg}{G:Gp}{Q:K1}{X:KX}(pick:List (Option Nat))(t:Tg)(it:It)(ifs:Es)(e:E):(den gs Δ (.lc pick t it ifs e)).1 ς G Q X=(denI gs Δ it ς G (fun xs ok G1=>xs.length<=sizeLine/\jcU ok (fun x G2 k=>tgU t x (jaS pick ς) fun τ=>denC gs Δ ifs τ G2 (fun b G3=>if b=true then (den gs Δ e).1 τ G3 (fun u G4=>k (some u) G4) (fun _ _=>False) else k none G3)) xs [] G1 fun us G5=>newO G5 (.lst us) Q) X):=rfl
theorem joo {gs:List U}{Δ:Cl}{ς:Sg}{G:Gp}{Q:K1}{X:KX}(pick:List (Option Nat))(t:Tg)(it:It)(ifs:Es)(t2:Tg)(it2:It)(ifs2:Es)(e:E):(den gs Δ (.lc2 pick t it ifs t2 it2 ifs2 e)).1 ς G Q X=(denI gs Δ it ς G (fun xs ok G1=>jfN ok (fun x acc G2 k=>tgU t x (jaS pick ς) fun τ=>denC gs Δ ifs τ G2 (fun b G3=>if b=true then denI gs Δ it2 τ G3 (fun ys ok2 G4=>acc.length + ys.length<=sizeLine/\jcU ok2 (fun y G5 k5=>tgU t2 y τ fun τ'=>denC gs Δ ifs2 τ' G5 (fun b2 G6=>if b2=true then (den gs Δ e).1 τ' G6 (fun u G7=>k5 (some u) G7) (fun _ _=>False) else k5 none G6)) ys acc G4 k) (fun _ _=>False) else k acc G3)) xs [] G1 fun us G5=>newO G5 (.lst us) Q) X):=rfl
theorem jnV {gs:List U}{Δ:Cl}{ς:Sg}{G:Gp}{R:Bool->Gp->Prop}{X:KX}(pick:List (Option Nat))(t:Tg)(it:It)(ifs:Es)(t2:Tg)(it2:It)(ifs2:Es)(e:E):(den gs Δ (.lc2 pick t it ifs t2 it2 ifs2 e)).2 ς G R X=(den gs Δ (.lc2 pick t it ifs t2 it2 ifs2 e)).1 ς G (fun x G1=>truU x G1 fun b=>R b G1) X:=rfl
theorem jom {gs:List U}{Δ:Cl}{ς:Sg}{G:Gp}{Q:K1}{X:KX}(e:E):(den gs Δ (.mkD e)).1 ς G Q X=((den gs Δ e).1 ς G (fun x G1=>mkDU x G1 Q) X):=rfl
theorem jnU {gs:List U}{Δ:Cl}{ς:Sg}{G:Gp}{R:Bool->Gp->Prop}{X:KX}(e:E):(den gs Δ (.mkD e)).2 ς G R X=(den gs Δ (.mkD e)).1 ς G (fun x G1=>truU x G1 fun b=>R b G1) X:=rfl
theorem jol {gs:List U}{Δ:Cl}{ς:Sg}{G:Gp}{Q:K1}{X:KX}(e:E):(den gs Δ (.mkL e)).1 ς G Q X=((den gs Δ e).1 ς G (fun x G1=>itU x G1 fun xs _=>newO G1 (.lst xs) Q) X):=rfl
theorem jok {gs:List U}{Δ:Cl}{ς:Sg}{G:Gp}{Q:K1}{X:KX}(e:E):(den gs Δ (.mkT e)).1 ς G Q X=((den gs Δ e).1 ς G (fun x G1=>itU x G1 fun xs _=>Q (.tup xs) G1) X):=rfl
theorem joh {gs:List U}{Δ:Cl}{ς:Sg}{G:Gp}{Q:K1}{X:KX}(a:E):(den gs Δ (.not a)).1 ς G Q X=((den gs Δ a).1 ς G (fun x G1=>truU x G1 fun b=>Q (.bl (!b)) G1) X):=rfl
theorem jnT {gs:List U}{Δ:Cl}{ς:Sg}{G:Gp}{R:Bool->Gp->Prop}{X:KX}(a:E):(den gs Δ (.not a)).2 ς G R X=((den gs Δ a).2 ς G (fun b G1=>R (!b) G1) X):=rfl
theorem joq {gs:List U}{Δ:Cl}{ς:Sg}{G:Gp}{Q:K1}{X:KX}(c a b:E):(den gs Δ (.ife c a b)).1 ς G Q X=((den gs Δ c).2 ς G (fun t G1=>if t=true then (den gs Δ a).1 ς G1 Q X else (den gs Δ b).1 ς G1 Q X) X):=rfl
theorem jnW {gs:List U}{Δ:Cl}{ς:Sg}{G:Gp}{R:Bool->Gp->Prop}{X:KX}(c a b:E):(den gs Δ (.ife c a b)).2 ς G R X=((den gs Δ c).2 ς G (fun t G1=>if t=true then (den gs Δ a).2 ς G1 R X else (den gs Δ b).2 ς G1 R X) X):=rfl
theorem jml {gs:List U}{Δ:Cl}{k:Bool}{a:E}:den gs Δ (.bop k a .nil)=den gs Δ a:=rfl
theorem jov {gs:List U}{Δ:Cl}{ς:Sg}{G:Gp}{Q:K1}{X:KX}{a b:E}{es:Es}:(den gs Δ (.bop true a (.cons b es))).1 ς G Q X=(den gs Δ a).1 ς G (fun x G1=>truU x G1 fun c=>if c=true then (den gs Δ (.bop true b es)).1 ς G1 Q X else Q x G1) X:=rfl
theorem D_or {gs:List U}{Δ:Cl}{ς:Sg}{G:Gp}{Q:K1}{X:KX}{a b:E}{es:Es}:(den gs Δ (.bop false a (.cons b es))).1 ς G Q X=(den gs Δ a).1 ς G (fun x G1=>truU x G1 fun c=>if c=true then Q x G1 else (den gs Δ (.bop false b es)).1 ς G1 Q X) X:=rfl
theorem jn0 {gs:List U}{Δ:Cl}{ς:Sg}{G:Gp}{R:Bool->Gp->Prop}{X:KX}{a b:E}{es:Es}:(den gs Δ (.bop true a (.cons b es))).2 ς G R X=(den gs Δ a).2 ς G (fun c G1=>if c=true then (den gs Δ (.bop true b es)).2 ς G1 R X else R false G1) X:=rfl
theorem T_or {gs:List U}{Δ:Cl}{ς:Sg}{G:Gp}{R:Bool->Gp->Prop}{X:KX}{a b:E}{es:Es}:(den gs Δ (.bop false a (.cons b es))).2 ς G R X=(den gs Δ a).2 ς G (fun c G1=>if c=true then R true G1 else (den gs Δ (.bop false b es)).2 ς G1 R X) X:=rfl
theorem O_no {gs:List U}{Δ:Cl}{ς:Sg}{G:Gp}{X:KX}{Q:Option Int->Gp->Prop}:denO gs Δ .no ς G Q X=Q none G:=rfl
theorem O_so {gs:List U}{Δ:Cl}{ς:Sg}{G:Gp}{X:KX}{Q:Option Int->Gp->Prop}{e:E}:denO gs Δ (.so e) ς G Q X=(den gs Δ e).1 ς G (fun x G1=>match x with | .int i=>Q (some i) G1 | _=>False) X:=rfl
theorem joy {gs:List U}{Δ:Cl}{ς:Sg}{G:Gp}{X:KX}{Q:List U->Gp->Prop}:jaN gs Δ .nil ς G Q X=Q [] G:=rfl
theorem jmo {gs:List U}{Δ:Cl}{ς:Sg}{G:Gp}{X:KX}{Q:List U->Gp->Prop}{e:E}{es:Es}:jaN gs Δ (.cons e es) ς G Q X=(den gs Δ e).1 ς G (fun x G1=>jaN gs Δ es ς G1 (fun xs G2=>Q (x::xs) G2) X) X:=rfl
theorem jow {gs:List U}{Δ:Cl}{ς:Sg}{G:Gp}{Q:Bool->Gp->Prop}:denC gs Δ .nil ς G Q=Q true G:=rfl
theorem jmm {gs:List U}{Δ:Cl}{ς:Sg}{G:Gp}{Q:Bool->Gp->Prop}{e:E}{es:Es}:denC gs Δ (.cons e es) ς G Q=(den gs Δ e).2 ς G (fun b G1=>if b=true then denC gs Δ es ς G1 Q else Q false G1) (fun _ _=>False):=rfl
theorem jn6 {gs:List U}{Δ:Cl}{ς:Sg}{G:Gp}{X:KX}{Q:List (Key×U)->Gp->Prop}:denD gs Δ .nil ς G Q X=Q [] G:=rfl
theorem jl9 {gs:List U}{Δ:Cl}{ς:Sg}{G:Gp}{X:KX}{Q:List (Key×U)->Gp->Prop}{e f:E}{es:Es}:denD gs Δ (.cons e (.cons f es)) ς G Q X=(den gs Δ e).1 ς G (fun x G1=>(den gs Δ f).1 ς G1 (fun y G2=>match kU x with | some k=>denD gs Δ es ς G2 (fun kvs G3=>Q ((k,y)::kvs) G3) X | none=>False) X) X:=rfl
theorem I_e {gs:List U}{Δ:Cl}{ς:Sg}{G:Gp}{X:KX}{Q:List U->(Gp->Prop)->Gp->Prop}{e:E}:denI gs Δ (.e e) ς G Q X=(den gs Δ e).1 ς G (fun x G1=>itU x G1 fun xs ok=>Q xs ok G1) X:=rfl
theorem I_r1 {gs:List U}{Δ:Cl}{ς:Sg}{G:Gp}{X:KX}{Q:List U->(Gp->Prop)->Gp->Prop}{e:E}:denI gs Δ (.r1 e) ς G Q X=(den gs Δ e).1 ς G (fun x G1=>match x with | .int j=>-(2 ^ 62)<=j/\j < 2 ^ 62/\Q (rngU 0 j.toNat) (fun _=>True) G1 | _=>False) X:=rfl
theorem jma {gs:List U}{Δ:Cl}{ς:Sg}{G:Gp}{X:KX}{Q:List U->(Gp->Prop)->Gp->Prop}{e:E}:denI gs Δ (.enum e) ς G Q X=(den gs Δ e).1 ς G (fun x G1=>match x with | .tup xs=>Q (jcH 0 xs) (fun _=>True) G1 | _=>False) X:=rfl
theorem I_dk {gs:List U}{Δ:Cl}{ς:Sg}{G:Gp}{X:KX}{Q:List U->(Gp->Prop)->Gp->Prop}{e:E}:denI gs Δ (.dk e) ς G Q X=(den gs Δ e).1 ς G (fun x G1=>jj2 x G1 Q) X:=rfl
theorem jl7 {gs:List U}{Δ:Cl}{D:En}{ς:Sg}{G:Gp}{e:E}:denS gs Δ (.expr e) D ς G=(den gs Δ e).1 ς G (fun _ G1=>D.nx ς G1) fun x G1=>D.ex x ς G1:=rfl
theorem jn5 {gs:List U}{Δ:Cl}{D:En}{ς:Sg}{G:Gp}{t:Tg}{e:E}:denS gs Δ (.asg t e) D ς G=(den gs Δ e).1 ς G (fun u G1=>tgU t u ς fun ς'=>D.nx ς' G1) fun x G1=>D.ex x ς G1:=rfl
theorem jl8 {gs:List U}{Δ:Cl}{D:En}{ς:Sg}{G:Gp}{i:Nat}{e:E}:denS gs Δ (.asgC i e) D ς G=(den gs Δ e).1 ς G (fun u G1=>D.nx (ς.set i (some u)) G1) fun x G1=>D.ex x ς G1:=rfl
theorem jl6 {gs:List U}{Δ:Cl}{D:En}{ς:Sg}{G:Gp}{o i e:E}:denS gs Δ (.setS o i e) D ς G=(den gs Δ e).1 ς G (fun v G1=>(den gs Δ o).1 ς G1 (fun x G2=>(den gs Δ i).1 ς G2 (fun y G3=>setU x y v G3 fun G4=>D.nx ς G4) (fun x G1=>D.ex x ς G1)) (fun x G1=>D.ex x ς G1)) (fun x G1=>D.ex x ς G1):=rfl
theorem jn2 {gs:List U}{Δ:Cl}{D:En}{ς:Sg}{G:Gp}{is:List Nat}{es:Es}:denS gs Δ (.par is es) D ς G=jaN gs Δ es ς G (fun us G1=>us.length=is.length/\D.nx ((is.zip us).foldl (fun s p=>s.set p.1 (some p.2)) ς) G1) fun x G1=>D.ex x ς G1:=rfl
theorem jn4 {gs:List U}{Δ:Cl}{D:En}{ς:Sg}{G:Gp}{i:Nat}{o:Operator}{e:E}:denS gs Δ (.aug i o e) D ς G=slot ς i fun x=>(den gs Δ e).1 ς G (fun y G1=>jdw o x y G1 fun z G2=>D.nx (ς.set i (some z)) G2) fun x G1=>D.ex x ς G1:=rfl
theorem jn3 {gs:List U}{Δ:Cl}{D:En}{ς:Sg}{G:Gp}{c:E}{a b:Ss}:denS gs Δ (.ite c a b) D ς G=(den gs Δ c).2 ς G (fun t G1=>if t=true then jay gs Δ a D ς G1 else jay gs Δ b D ς G1) fun x G1=>D.ex x ς G1:=rfl
theorem S_fr {gs:List U}{Δ:Cl}{D:En}{ς:Sg}{G:Gp}{t:Tg}{it:It}{b:Ss}:denS gs Δ (.fr t it b) D ς G=denI gs Δ it ς G (fun xs ok G1=>forL ok (fun x ς1 G2 k=>tgU t x ς1 fun ς2=>jay gs Δ b { D with nx:=k } ς2 G2) xs ς G1 D.nx) fun x G1=>D.ex x ς G1:=rfl
theorem jn1 {gs:List U}{Δ:Cl}{D:En}{ς:Sg}{G:Gp}{e:E}:denS gs Δ (.ret e) D ς G=(den gs Δ e).1 ς G D.rt fun x G1=>D.ex x ς G1:=rfl
theorem jj1 {gs:List U}{Δ:Cl}{D:En}{ς:Sg}{G:Gp}{c:Nat}{es:Es}:denS gs Δ (.raise c es) D ς G=jaN gs Δ es ς G (fun us G1=>us.length=(clsF c).length/\D.ex ⟨c,us⟩ ς G1) fun x G1=>D.ex x ς G1:=rfl
theorem S_tr {gs:List U}{Δ:Cl}{D:En}{ς:Sg}{G:Gp}{b:Ss}{c n:Nat}{h:List HS}:denS gs Δ (.tr b c n h) D ς G=jay gs Δ b { D with ex:=fun x ς1 G1=>(c=0\/x.c=c)/\hsH x h (ς1.set n none) G1 fun ς2 G2=>D.nx (ς2.set n none) G2 } ς G:=rfl
theorem jox {gs:List U}{Δ:Cl}{D:En}{ς:Sg}{G:Gp}:jay gs Δ .nil D ς G=D.nx ς G:=rfl
theorem jmn {gs:List U}{Δ:Cl}{D:En}{ς:Sg}{G:Gp}{s:S}{r:Ss}:jay gs Δ (.cons s r) D ς G=denS gs Δ s { D with nx:=fun ς' G'=>jay gs Δ r D ς' G' } ς G:=rfl
theorem S_wh {gs:List U}{Δ:Cl}{D:En}{ς:Sg}{G:Gp}{c:E}{b:Ss}:denS gs Δ (.wh c b) D ς G=∃ W:Nat->Sg->Gp->Prop,(∃ m,W m ς G)/\∀ m ς1 G1,W m ς1 G1->(den gs Δ c).2 ς1 G1 (fun t G2=>if t=true then jay gs Δ b { D with nx:=fun ς' G'=>∃ m',m' < m/\W m' ς' G' } ς1 G2 else D.nx ς1 G2) fun x G1=>D.ex x ς1 G1:=rfl
theorem jnS {G:Gp}{Q:K1}{i j:Int}:binU .Add (.int i) (.int j) G Q=Q (.int (i + j)) G:=rfl
theorem jnR {G:Gp}{Q:K1}{xs ys:List U}:binU .Add (.tup xs) (.tup ys) G Q=(xs.length + ys.length<=sizeLine/\Q (.tup (xs++ys)) G):=rfl
theorem jl2 {G:Gp}{Q:K1}{a b:Addr}:binU .Add (.loc a) (.loc b) G Q=∃ xs ys,G a=some (.lst xs)/\G b=some (.lst ys)/\xs.length + ys.length<=sizeLine/\newO G (.lst (xs++ys)) Q:=rfl
theorem jnM {G:Gp}{Q:K1}{i j:Int}:binU .Sub (.int i) (.int j) G Q=Q (.int (i - j)) G:=rfl
theorem jnP {G:Gp}{Q:K1}{i j:Int}:binU .Mult (.int i) (.int j) G Q=(CMul i j/\Q (.int (i * j)) G):=rfl
theorem jl0 {G:Gp}{Q:K1}{a:Addr}{k:Int}:binU .Mult (.loc a) (.int k) G Q=∃ xs,G a=some (.lst xs)/\-(2 ^ 63)<=k/\k < 2 ^ 63/\xs.length * k.toNat<=sizeLine/\newO G (.lst (List.replicate k.toNat xs).flatten) Q:=rfl
theorem jlZ {G:Gp}{Q:K1}{xs:List U}{k:Int}:binU .Mult (.tup xs) (.int k) G Q=(xs≠[]/\1<=k/\k < 2 ^ 62/\xs.length * k.toNat<=sizeLine/\Q (.tup (List.replicate k.toNat xs).flatten) G):=rfl
theorem jl1 {G:Gp}{Q:K1}{i j:Int}:binU .FloorDiv (.int i) (.int j) G Q=(0 < j/\j < 1073741824/\Q (.int (i / j)) G):=rfl
theorem jnQ {G:Gp}{Q:K1}{i j:Int}:binU .Mod (.int i) (.int j) G Q=(0 < j/\Q (.int (i % j)) G):=rfl
theorem jnN {G:Gp}{Q:K1}{i j:Int}:binU .Pow (.int i) (.int j) G Q=(CPow i j/\Q (.int (i ^ j.toNat)) G):=rfl
theorem jnO {G:Gp}{Q:K1}{i:Int}:negU (.int i) G Q=Q (.int (-i)) G:=rfl
theorem jnL {G:Gp}{k:Bool->Prop}{i j:Int}:cmpU .Eq (.int i) (.int j) G k=k (decide (i=j)):=rfl
theorem jnH {G:Gp}{k:Bool->Prop}{i j:Int}:cmpU .NotEq (.int i) (.int j) G k=k (!decide (i=j)):=rfl
theorem jnJ {G:Gp}{k:Bool->Prop}{i j:Str}:cmpU .Eq (.str i) (.str j) G k=k (decide (i=j)):=rfl
theorem jnF {G:Gp}{k:Bool->Prop}{i j:Str}:cmpU .NotEq (.str i) (.str j) G k=k (!decide (i=j)):=rfl
theorem W_lt {G:Gp}{k:Bool->Prop}{i j:Int}:cmpU .Lt (.int i) (.int j) G k=k (decide (i < j)):=rfl
theorem W_gt {G:Gp}{k:Bool->Prop}{i j:Int}:cmpU .Gt (.int i) (.int j) G k=k (decide (j < i)):=rfl
theorem jnE {G:Gp}{k:Bool->Prop}{xs ys:List U}:cmpU .NotEq (.tup xs) (.tup ys) G k=eqU (.tup xs) (.tup ys) G fun b=>k (!b):=rfl
theorem jnI {G:Gp}{k:Bool->Prop}{xs ys:List U}{y:U}:cmpU .Eq (.tup xs) (.tup (y::ys)) G k=eqU (.tup xs) (.tup (y::ys)) G k:=rfl
theorem jlW {G:Gp}{k:Bool->Prop}{xs:List U}:cmpU .Eq (.tup xs) (.tup []) G k=k xs.isEmpty:=rfl
theorem jnG {G:Gp}{k:Bool->Prop}{a b:Addr}:cmpU .NotEq (.loc a) (.loc b) G k=eqU (.loc a) (.loc b) G fun b=>k (!b):=rfl
theorem jnK {G:Gp}{k:Bool->Prop}{a b:Addr}:cmpU .Eq (.loc a) (.loc b) G k=eqU (.loc a) (.loc b) G k:=rfl
theorem W_in {G:Gp}{k:Bool->Prop}{x y:U}:cmpU .In x y G k=inU x y G k:=rfl
theorem jnD {G:Gp}{k:Bool->Prop}{x y:U}:cmpU .NotIn x y G k=inU x y G fun b=>k (!b):=rfl
theorem W_is {G:Gp}{k:Bool->Prop}{x y:U}:cmpU .Is x y G k=isU x y k:=rfl
theorem Y_bl {G:Gp}{k:Bool->Prop}{b:Bool}:truU (.bl b) G k=k b:=rfl
theorem jnz {G:Gp}{k:Bool->Prop}:truU .non G k=k false:=rfl
theorem jnA {G:Gp}{k:Bool->Prop}{i:Int}:truU (.int i) G k=k (i != 0):=rfl
theorem jny {G:Gp}{k:Bool->Prop}{xs:List U}:truU (.tup xs) G k=k (!xs.isEmpty):=rfl
theorem jn9 {G:Gp}{k:List U->(Gp->Prop)->Prop}{xs:List U}:itU (.tup xs) G k=k xs fun _=>True:=rfl
theorem jnB {G:Gp}{Q:K1}{lo hi:Option Int}{xs:List U}:slU (.tup xs) lo hi G Q=Q (.tup (cut xs lo hi)) G:=rfl
theorem joc {us:List U}{G:Gp}{Q:K1}:bltU .len us G Q=lenU us G Q:=rfl
theorem jmc {us:List U}{G:Gp}{Q:K1}:bltU .repr us G Q=jdO us G Q:=rfl
theorem job {us:List U}{G:Gp}{Q:K1}:bltU .min us G Q=minU us G Q:=rfl
theorem jhU {us:List U}{G:Gp}{Q:K1}:bltU .sorted us G Q=jba us G Q:=rfl
theorem joe {us:List U}{G:Gp}{Q:K1}:bltU .int us G Q=intU us G Q:=rfl
theorem jod {us:List U}{G:Gp}{Q:K1}:bltU .isi us G Q=jfI us G Q:=rfl
theorem jnC {G:Gp}{Q:K1}{lo hi:Option Int}{x:Str}:slU (.str x) lo hi G Q=(x.length<=sizeLine/\Q (.str (Txt.slice x lo hi)) G):=rfl
theorem jl3 {G:Gp}{Q:K1}{b:Bool}{j:Int}:binU .Add (.bl b) (.int j) G Q=Q (.int ((if b=true then (1:Int) else 0) + j)) G:=rfl
theorem jlY {G:Gp}{Q:K1}{b:Bool}{j:Int}:binU .Sub (.bl b) (.int j) G Q=Q (.int ((if b=true then (1:Int) else 0) - j)) G:=rfl
theorem jlX {G:Gp}{Q:K1}{b:Bool}{i:Int}:binU .Sub (.int i) (.bl b) G Q=Q (.int (i - if b=true then (1:Int) else 0)) G:=rfl
theorem jmf {G:Gp}{Q:K1}{xs:List U}:lenU [.tup xs] G Q=Q (.int xs.length) G:=rfl
theorem jmd {G:Gp}{Q:K1}{i j:Int}:minU [.int i,.int j] G Q=Q (.int (if j < i then j else i)) G:=rfl
theorem jme {G:Gp}{Q:K1}{i j:Int}:maxU [.int i,.int j] G Q=Q (.int (if j > i then j else i)) G:=rfl
theorem jmh {G:Gp}{Q:K1}{b:Bool}:intU [.bl b] G Q=Q (.int (if b then 1 else 0)) G:=rfl
theorem jmg {G:Gp}{Q:K1}{i:Int}:intU [.int i] G Q=Q (.int i) G:=rfl
theorem G_n {i:Nat}{u:U}{ς:Sg}{k:Sg->Prop}:tgU (.n i) u ς k=k (ς.set i (some u)):=rfl
theorem G_t {ts:Tgs}{us:List U}{ς:Sg}{k:Sg->Prop}:tgU (.t ts) (.tup us) ς k=tgsU ts us ς k:=rfl
theorem joa {us:List U}{ς:Sg}{k:Sg->Prop}:tgsU .nil us ς k=(us=[]/\k ς):=rfl
theorem jmb {t:Tg}{ts:Tgs}{u:U}{r:List U}{ς:Sg}{k:Sg->Prop}:tgsU (.cons t ts) (u::r) ς k=tgU t u ς fun ς'=>tgsU ts r ς' k:=rfl
theorem sl_0 {u:U}{ς:Sg}{k:U->Prop}:slot (some u::ς) 0 k=k u:=rfl
theorem sl_s {o:Option U}{ς:Sg}{i:Nat}{k:U->Prop}:slot (o::ς) (i + 1) k=slot ς i k:=rfl
theorem jbd {G:Gp}{a:Addr}{o:MO}{Q:Gp->Prop}:putO G a o Q=Q (gup G a o):=propext ⟨fun h=>h.at,fun h G1 p=>by rw [p.eq]; exact h⟩
theorem ix_t {xs:List U}{i:Int}{u:U}{G:Gp}{Q:K1}(h:atI xs i=some u):ixU (.tup xs) (.int i) G Q=Q u G:=by unfold ixU; dsimp only; rw [h]
theorem ix_l {a:Addr}{xs:List U}{i:Int}{u:U}{G:Gp}{Q:K1}(g:G a=some (.lst xs))(h:atI xs i=some u):ixU (.loc a) (.int i) G Q=Q u G:=by unfold ixU; dsimp only; rw [g]; dsimp only; rw [h]
theorem ix_d {a:Addr}{kvs:List (Key×U)}{x:Str}{u:U}{G:Gp}{Q:K1}(g:G a=some (.dK kvs))(h:dGet kvs (.inr x)=some u):ixU (.loc a) (.str x) G Q=Q u G:=by unfold ixU; dsimp only; rw [g]; show (match dGet kvs (.inr x) with | some u=>Q u G | none=>False)=_; rw [h]
theorem jjA {a:Addr}{xs:List U}{r:Int}{G:Gp}{Q:K1}(g:G a=some (.lst xs))(h0:0<=r)(h1:r < xs.length)(q:∀ u∈xs,Q u G):ixU (.loc a) (.int r) G Q:=by
 obtain ⟨u,hu,e⟩:=jdj h0 h1
 rw [ix_l g e]
 exact q u hu
theorem jbU (zs:List Int){a:Addr}{r:Int}{G:Gp}{Q:K1}(g:G a=some (.lst (zs.map .int)))(h0:0<=r)(h1:r < zs.length)(q:∀ z∈zs,Q (.int z) G):ixU (.loc a) (.int r) G Q:=
 jjA g h0 (by rw [List.length_map]; exact h1) fun u hu=>by
  obtain ⟨z,hz,rfl⟩:=List.mem_map.mp hu
  exact q z hz
theorem in_l {a:Addr}{ys:List U}{x:U}{G:Gp}{k:Bool->Prop}(g:G a=some (.lst ys))(h1:flat x=true)(h2:ys.all flat=true)(q:k (ys.any fun y=>eqF y x)):inU x (.loc a) G k:=by
 cases x <;> first | (cases h1; done) | (unfold inU; dsimp only; rw [g]; exact .inl ⟨h1,h2,q⟩)
theorem jd5 {a:Addr}{xs:List U}{G:Gp}{Q:K1}(g:G a=some (.lst xs)):lenU [.loc a] G Q=Q (.int xs.length) G:=by unfold lenU; dsimp only; rw [g]
theorem jni {a:Addr}{xs:List U}{G:Gp}{Q:K1}(g:G a=some (.fro xs)):lenU [.loc a] G Q=Q (.int xs.length) G:=by unfold lenU; dsimp only; rw [g]
theorem it_l {a:Addr}{xs:List U}{G:Gp}{k:List U->(Gp->Prop)->Prop}(g:G a=some (.lst xs)):itU (.loc a) G k=k xs fun G'=>lsG G' a=some xs:=by unfold itU; dsimp only; have e:lsG G a=some xs:=(by unfold lsG; rw [g]); rw [e]
theorem jcg {a:Addr}{xs:List U}{v:U}{G:Gp}{Q:K1}(g:G a=some (.lst xs)):jaO .append (.loc a) [v] G Q=(xs.length < sizeLine/\putO G a (.lst (xs++[v])) (Q .non)):=by unfold jaO jeM; dsimp only; rw [g]
theorem jaH {a:Addr}{xs:List U}{G:Gp}(g:G a=some (.lst xs)):mtU .append (.loc a) G=some ("list", "list.append"):=by unfold mtU; dsimp only; rw [g]
theorem jkr {a:Addr}{xs:List U}{i:Int}{j:Nat}{v:U}{G:Gp}{Q:Gp->Prop}(g:G a=some (.lst xs))(h:ixN xs.length i=some j):setU (.loc a) (.int i) v G Q=putO G a (.lst (xs.set j v)) Q:=by unfold setU; dsimp only; rw [g]; dsimp only; rw [h]
theorem jhb {a:Addr}{kvs:List (Key×U)}{x:Str}{v:U}{G:Gp}{Q:Gp->Prop}(g:G a=some (.dK kvs)):setU (.loc a) (.str x) v G Q=(kvs.length < sizeLine/\putO G a (.dK (dPut kvs (.inr x) v)) Q):=by unfold setU; dsimp only; rw [g]; rfl
theorem jgF {n j:Nat}(h:j < n):ixN n (j:Int)=some j:=by unfold ixN; rw [if_pos (Int.natCast_nonneg j),if_pos (by exact_mod_cast h)]; simp
noncomputable def jhN:Nat->Ss->Ss
 | 0,s=>s
 | _ + 1,.nil=>.nil
 | n + 1,.cons _ r=>jhN n r
theorem dr_0 {s:Ss}:jhN 0 s=s:=rfl
theorem dr_s {n:Nat}{s:S}{r:Ss}:jhN (n + 1) (.cons s r)=jhN n r:=rfl
theorem pk_nil {ς:Sg}:jaS [] ς=[]:=rfl
theorem ji2 {ς:Sg}{r:List (Option Nat)}:jaS (none::r) ς=none::jaS r ς:=rfl
theorem ji1 {ς:Sg}{j:Nat}{r:List (Option Nat)}:jaS (some j::r) ς=(ς[j]?).join::jaS r ς:=rfl
theorem jn7 {x:Str}:kU (.str x)=some (.inr x):=rfl
theorem jn8 {i:Int}:kU (.int i)=some (.inl i):=rfl
theorem sl_f {a:Addr}{xs:List U}{lo hi:Option Int}{G:Gp}{Q:K1}(g:G a=some (.fro xs)):slU (.loc a) lo hi G Q=newO G (.lst (cut xs lo hi)) Q:=by unfold slU; dsimp only; have e:lsG G a=some xs:=(by unfold lsG; rw [g]); rw [e]
theorem jjW {α β:Type}(f:α->β)(xs:List α)(lo hi:Option Int):cut (xs.map f) lo hi=(cut xs lo hi).map f:=by unfold cut; rw [List.length_map,<- List.map_drop,<- List.map_take]
theorem jgZ {α:Type}(xs:List α)(n:Nat):cut xs none (some (n:Int))=xs.take n:=by
 unfold cut
 rw [HT.sIx_none,HT.sIx_nat,List.drop_zero,Nat.sub_zero,List.take_eq_take_iff]
 omega
theorem jhM {G:Gp}{f c:Addr}{a l t:Int}{Q:K1}:ixU (.loc f) (.str "cells") (gup G f (.dK (fdU c a l t))) Q=Q (.loc c) (gup G f (.dK (fdU c a l t))):=ix_d jah jjN
theorem jns {G:Gp}{f c:Addr}{a l t:Int}{Q:K1}:ixU (.loc f) (.str "at") (gup G f (.dK (fdU c a l t))) Q=Q (.int a) (gup G f (.dK (fdU c a l t))):=ix_d jah g_at
theorem jjP {G:Gp}{f c:Addr}{a l t:Int}{Q:K1}:ixU (.loc f) (.str "left") (gup G f (.dK (fdU c a l t))) Q=Q (.int l) (gup G f (.dK (fdU c a l t))):=ix_d jah jlJ
theorem jjO {G:Gp}{f c:Addr}{a l t:Int}{Q:K1}:ixU (.loc f) (.str "turn") (gup G f (.dK (fdU c a l t))) Q=Q (.int t) (gup G f (.dK (fdU c a l t))):=ix_d jah jim
theorem jnt {G:Gp}{f c:Addr}{a l t x:Int}{Q:Gp->Prop}:setU (.loc f) (.str "at") (.int x) (gup G f (.dK (fdU c a l t))) Q=Q (gup G f (.dK (fdU c x l t))):=by rw [jhb jah,p_at,jbd,jbC]; exact propext ⟨fun h=>h.2,fun h=>⟨jfh,h⟩⟩
theorem jjS {G:Gp}{f c:Addr}{a l t x:Int}{Q:Gp->Prop}:setU (.loc f) (.str "left") (.int x) (gup G f (.dK (fdU c a l t))) Q=Q (gup G f (.dK (fdU c a x t))):=by rw [jhb jah,jk0,jbd,jbC]; exact propext ⟨fun h=>h.2,fun h=>⟨jfh,h⟩⟩
theorem jjR {G:Gp}{f c:Addr}{a l t x:Int}{Q:Gp->Prop}:setU (.loc f) (.str "turn") (.int x) (gup G f (.dK (fdU c a l t))) Q=Q (gup G f (.dK (fdU c a l x))):=by rw [jhb jah,jh8,jbd,jbC]; exact propext ⟨fun h=>h.2,fun h=>⟨jfh,h⟩⟩
noncomputable abbrev je6:Nat:=0
noncomputable abbrev jcy:Nat:=1
noncomputable abbrev jck:Nat:=2
noncomputable abbrev jb9:Nat:=3
noncomputable abbrev jbQ:Nat:=4
noncomputable abbrev jb5:Nat:=5
noncomputable abbrev jdZ:Nat:=6
noncomputable abbrev jd0:Nat:=7
noncomputable abbrev jbu:Nat:=8
noncomputable abbrev jbP:Nat:=9
noncomputable abbrev jcB:Nat:=10
noncomputable abbrev jc8:Nat:=11
noncomputable abbrev jaa:Nat:=12
noncomputable abbrev jbx:Nat:=13
noncomputable abbrev jaz:Nat:=14
noncomputable abbrev jc6:Nat:=15
noncomputable abbrev jaX:Nat:=16
noncomputable abbrev jc7:Nat:=17
noncomputable abbrev jcz:Nat:=18
noncomputable abbrev jbA:Nat:=19
noncomputable abbrev jd2:Nat:=20
noncomputable abbrev jby:Nat:=21
noncomputable abbrev jaW:Nat:=22
noncomputable abbrev jd3:Nat:=23
noncomputable abbrev jcA:Nat:=24
noncomputable abbrev jd1:Nat:=25
noncomputable abbrev jbh:Nat:=26
noncomputable abbrev jbz:Nat:=27
noncomputable abbrev jfF:Nat:=28
noncomputable def jfl:Fun:=⟨"top_of",["plan", "period", "s"],["plan", "period", "s", "word", "one", "other", "low", "high"],
  (.cons (.asg (.t (.cons (.n 3) (.cons (.n 4) (.cons (.n 5) (.cons (.n 6) (.cons (.n 7) .nil)))))) (.ix (.ix (.v 0) (.int 1)) (.v 2)))
  (.cons (.ret (.ife (.cmp .Eq (.v 3) (.str "span")) (.v 7) (.bin .Sub (.v 1) (.v 7))))
  .nil))⟩
noncomputable def jcJ:Fun:=⟨"length_of",["plan", "period", "beats", "s"],["plan", "period", "beats", "s", "word", "one", "other", "low", "high"],
  (.cons (.asg (.t (.cons (.n 4) (.cons (.n 5) (.cons (.n 6) (.cons (.n 7) (.cons (.n 8) .nil)))))) (.ix (.ix (.v 0) (.int 1)) (.v 3)))
  (.cons (.ret (.bin .Add (.v 7) (.bin .Mod (.bin .Sub (.bin .Sub (.ix (.v 2) (.v 6)) (.ix (.v 2) (.v 5))) (.v 7)) (.v 1))))
  .nil))⟩
noncomputable def jfk:Fun:=⟨"unkept",["plan", "period", "beats"],["plan", "period", "beats", "s"],
  (.cons (.fr (.n 3) (.r1 (.blt .len (.cons (.ix (.v 0) (.int 1)) .nil))) (.cons (.ite (.cmp .Gt (.call jcy (.cons (.v 0) (.cons (.v 1) (.cons (.v 2) (.cons (.v 3) .nil))))) (.call je6 (.cons (.v 0) (.cons (.v 1) (.cons (.v 3) .nil))))) (.cons (.ret (.v 3))
  .nil) .nil)
  .nil))
  (.cons (.ret .non)
  .nil))⟩
noncomputable def jcc:Fun:=⟨"entries_to",["plan", "work"],["plan", "work", "found", "s", "word", "one", "other", "low", "high"],
  (.cons (.asg (.n 2) (.lst .nil))
  (.cons (.fr (.t (.cons (.n 3) (.cons (.t (.cons (.n 4) (.cons (.n 5) (.cons (.n 6) (.cons (.n 7) (.cons (.n 8) .nil)))))) .nil))) (.enum (.ix (.v 0) (.int 1))) (.cons (.ite (.cmp .Eq (.v 6) (.v 1)) (.cons (.expr (.meth .append (.v 2) (.cons (.tup (.cons (.v 3) (.cons (.int 1) (.cons (.v 5) .nil)))) .nil)))
  .nil) .nil)
  (.cons (.ite (.cmp .Eq (.v 5) (.v 1)) (.cons (.expr (.meth .append (.v 2) (.cons (.tup (.cons (.v 3) (.cons (.neg (.int 1)) (.cons (.v 6) .nil)))) .nil)))
  .nil) .nil)
  .nil)))
  (.cons (.ret (.v 2))
  .nil)))⟩
noncomputable def ja9:Ss:=
  (.cons (.wh (.cmp .Lt (.v 4) (.blt .len (.cons (.v 3) .nil))) (.cons (.fr (.t (.cons (.n 5) (.cons (.n 6) (.cons (.n 7) .nil)))) (.e (.call jb9 (.cons (.v 0) (.cons (.ix (.v 3) (.v 4)) .nil)))) (.cons (.ite (.cmp .NotIn (.v 7) (.v 3)) (.cons (.setS (.v 2) (.v 7) (.tup (.cons (.v 5) (.cons (.v 6) .nil))))
  (.cons (.expr (.meth .append (.v 3) (.cons (.v 7) .nil)))
  .nil)) .nil)
  .nil))
  (.cons (.aug 4 .Add (.int 1))
  .nil)))
  (.cons (.ret (.v 2))
  .nil))
noncomputable def jbY:Fun:=⟨"forest_from",["plan", "roots"],["plan", "roots", "forest", "reached", "at", "s", "way", "start"],
  (.cons (.asg (.n 2) (.dic .nil))
  (.cons (.asg (.n 3) (.mkL (.v 1)))
  (.cons (.asg (.n 4) (.int 0))
  ja9)))⟩
noncomputable def jb7:Ss:=
  (.cons (.fr (.n 3) (.r1 (.blt .len (.cons (.ix (.v 0) (.int 0)) .nil))) (.cons (.ite (.cmp .NotIn (.v 3) (.v 2)) (.cons (.asg (.n 4) (.blt .sorted (.cons (.bin .Add (.lst (.cons (.v 3) .nil)) (.mkD (.call jbQ (.cons (.v 0) (.cons (.lst (.cons (.v 3) .nil)) .nil))))) .nil)))
  (.cons (.expr (.meth .extend (.v 2) (.cons (.v 4) .nil)))
  (.cons (.expr (.meth .append (.v 1) (.cons (.mkT (.v 4)) .nil)))
  .nil))) .nil)
  .nil))
  (.cons (.ret (.mkT (.v 1)))
  .nil))
noncomputable def jdb:Fun:=⟨"parts_of",["plan"],["plan", "parts", "placed", "work", "part"],
  (.cons (.asg (.n 1) (.lst .nil))
  (.cons (.asg (.n 2) (.lst .nil))
  jb7))⟩
noncomputable def jef:Fun:=⟨"staying",["part", "stays"],["part", "stays"],
  (.cons (.ret (.lc [none,some 1] (.n 0) (.e (.v 0)) (.cons (.cmp .In (.v 0) (.v 1)) .nil) (.v 0)))
  .nil)⟩
noncomputable def jcq:Ss:=
  (.cons (.fr (.n 5) (.r1 (.bin .Sub (.bin .Sub (.blt .len (.cons (.ix (.v 0) (.int 0)) .nil)) (.blt .len (.cons (.v 2) .nil))) (.blt .len (.cons (.v 3) .nil)))) (.cons (.aug 4 .Mult (.v 1))
  .nil))
  (.cons (.ret (.v 4))
  .nil))
noncomputable def jcr:Ss:=
  (.cons (.asg (.n 4) (.int 1))
  jcq)
noncomputable def jeg:Fun:=⟨"size_of",["plan", "period", "stays"],["plan", "period", "stays", "free", "size", "turn"],
  (.cons (.asgC 3 (.lc [none,some 2] (.n 0) (.e (.call jb5 (.cons (.v 0) .nil))) (.cons (.not (.call jdZ (.cons (.v 0) (.cons (.v 1) .nil)))) .nil) (.v 0)))
  jcr)⟩
noncomputable def jbv:Fun:=⟨"refuse_great",["plan", "period", "stays"],["plan", "period", "stays"],
  (.cons (.ite (.cmp .Gt (.call jd0 (.cons (.v 0) (.cons (.v 1) (.cons (.v 2) .nil)))) (.g 0)) (.cons .never
  .nil) .nil)
  .nil)⟩
noncomputable def ja6:Ss:=
  (.cons (.ret (.v 3))
  .nil)
noncomputable def ja7:Ss:=
  (.cons (.fr (.n 4) (.r1 (.blt .len (.cons (.ix (.v 0) (.int 0)) .nil))) (.cons (.asg (.n 5) (.ife (.cmp .In (.v 4) (.v 2)) (.int 1) (.v 1)))
  (.cons (.asgC 3 (.lc2 [none,none,some 5] (.n 0) (.e (.v 3)) .nil (.n 1) (.r1 (.v 2)) .nil (.bin .Add (.v 0) (.tup (.cons (.v 1) .nil)))))
  .nil)))
  ja6)
noncomputable def jbW:Fun:=⟨"rows_to_try",["plan", "period"],["plan", "period", "firsts", "rows", "work", "many"],
  (.cons (.asgC 2 (.lc [none] (.n 0) (.e (.call jb5 (.cons (.v 0) .nil))) .nil (.ix (.v 0) (.int 0))))
  (.cons (.asg (.n 3) (.lst (.cons (.tup .nil) .nil)))
  ja7))⟩
noncomputable def jcR:Fun:=⟨"all_times",["plan", "period"],["plan", "period"],
  (.cons (.expr (.call jbu (.cons (.v 0) (.cons (.v 1) (.cons (.tup .nil) .nil)))))
  (.cons (.ret (.lc [none,some 0,some 1] (.n 0) (.e (.call jbP (.cons (.v 0) (.cons (.v 1) .nil)))) (.cons (.cmp .Is (.call jck (.cons (.v 1) (.cons (.v 2) (.cons (.v 0) .nil)))) .non) .nil) (.v 0)))
  .nil))⟩
noncomputable def jde:Fun:=⟨"_law_feed",["_law_script"],["_law_script"],
  (.cons (.ret (.dic (.cons (.str "cells") (.cons (.bin .Add (.mkL (.sl (.v 0) .no (.so (.int 63)))) (.bin .Mult (.lst (.cons (.int 0) .nil)) (.blt .int (.cons (.cmp .Eq (.blt .len (.cons (.v 0) .nil)) (.int 0)) .nil)))) (.cons (.str "at") (.cons (.int 0) (.cons (.str "left") (.cons (.int 0) (.cons (.str "turn") (.cons (.int 0) .nil))))))))))
  .nil)⟩
noncomputable def jdf:Fun:=⟨"_law_draw",["_law_feed_here", "_law_many"],["_law_feed_here", "_law_many", "_law_cell", "_law_mixed", "_law_found"],
  (.cons (.setS (.v 0) (.str "turn") (.bin .Add (.ix (.v 0) (.str "turn")) (.int 1)))
  (.cons (.ite (.cmp .Eq (.ix (.v 0) (.str "left")) (.int 0)) (.cons (.asg (.n 2) (.ix (.ix (.v 0) (.str "cells")) (.bin .Mod (.ix (.v 0) (.str "at")) (.blt .len (.cons (.ix (.v 0) (.str "cells")) .nil)))))
  (.cons (.setS (.v 0) (.str "at") (.bin .Add (.ix (.v 0) (.str "at")) (.int 1)))
  (.cons (.ite (.cmp .Lt (.v 2) (.bin .Pow (.int 10) (.int 18))) (.cons (.asg (.n 3) (.bin .Mod (.bin .Mult (.bin .Add (.bin .Mod (.v 2) (.int 2147483629)) (.bin .Mult (.int 1019) (.ix (.v 0) (.str "turn")))) (.int 48271)) (.int 2147483647)))
  (.cons (.asg (.n 3) (.bin .Mod (.bin .Mult (.bin .Add (.bin .FloorDiv (.v 3) (.int 13)) (.bin .Mult (.int 43) (.ix (.v 0) (.str "turn")))) (.int 69621)) (.int 2147483587)))
  (.cons (.ret (.bin .Mod (.bin .FloorDiv (.v 3) (.int 11)) (.v 1)))
  .nil))) .nil)
  (.cons (.setS (.v 0) (.str "left") (.v 2))
  .nil)))) .nil)
  (.cons (.asg (.n 4) (.bin .Mod (.ix (.v 0) (.str "left")) (.v 1)))
  (.cons (.setS (.v 0) (.str "left") (.bin .FloorDiv (.ix (.v 0) (.str "left")) (.v 1)))
  (.cons (.ret (.v 4))
  .nil)))))⟩
noncomputable def jcN:Fun:=⟨"_law_names",["_law_feed_here", "_law_many"],["_law_feed_here", "_law_many", "_law_some", "_law_first", "_law_step"],
  (.cons (.asg (.n 2) (.lst (.cons (.str "a") (.cons (.str "ab") (.cons (.str "abc") (.cons (.str "b") (.cons (.str "ba") (.cons (.str "works") (.cons (.str "span") (.cons (.str "apart") (.cons (.str "at") (.cons (.str "none") (.cons (.str "hold") (.cons (.str "zzzzzzzz") (.cons (.str "z") (.cons (.str "o") (.cons (.str "find") .nil)))))))))))))))))
  (.cons (.asg (.n 2) (.bin .Add (.v 2) (.lst (.cons (.str "late") (.cons (.str "n") .nil)))))
  (.cons (.asg (.n 3) (.call jaa (.cons (.v 0) (.cons (.int 17) .nil))))
  (.cons (.asg (.n 4) (.bin .Add (.int 1) (.call jaa (.cons (.v 0) (.cons (.int 16) .nil)))))
  (.cons (.ret (.mkT (.lc [none,some 2,some 3,some 4] (.n 0) (.r1 (.v 1)) .nil (.ix (.v 1) (.bin .Mod (.bin .Add (.v 2) (.bin .Mult (.v 3) (.v 0))) (.int 17))))))
  .nil)))))⟩
noncomputable def jcb:Fun:=⟨"_law_number",["_law_feed_here", "_law_cycle"],["_law_feed_here", "_law_cycle"],
  (.cons (.ret (.ix (.lst (.cons (.int 0) (.cons (.call jaa (.cons (.v 0) (.cons (.v 1) .nil))) (.cons (.call jaa (.cons (.v 0) (.cons (.v 1) .nil))) (.cons (.call jaa (.cons (.v 0) (.cons (.bin .Add (.bin .Mult (.int 3) (.v 1)) (.int 1)) .nil))) .nil))))) (.call jaa (.cons (.v 0) (.cons (.int 4) .nil)))))
  .nil)⟩
noncomputable def jdc:Fun:=⟨"_law_span",["_law_feed_here", "_law_works", "_law_cycle"],["_law_feed_here", "_law_works", "_law_cycle", "_law_one", "_law_other", "_law_low", "_law_wide"],
  (.cons (.par [3,4] (.cons (.call jaa (.cons (.v 0) (.cons (.v 1) .nil))) (.cons (.call jaa (.cons (.v 0) (.cons (.v 1) .nil))) .nil)))
  (.cons (.asg (.n 5) (.call jaz (.cons (.v 0) (.cons (.v 2) .nil))))
  (.cons (.ite (.cmp .Eq (.call jaa (.cons (.v 0) (.cons (.int 3) .nil))) (.int 0)) (.cons (.ret (.tup (.cons (.str "apart") (.cons (.v 3) (.cons (.v 4) (.cons (.v 5) (.cons (.call jaz (.cons (.v 0) (.cons (.v 2) .nil))) .nil)))))))
  .nil) .nil)
  (.cons (.asg (.n 6) (.ix (.lst (.cons (.int 0) (.cons (.int 0) (.cons (.int 1) (.cons (.call jaa (.cons (.v 0) (.cons (.v 2) .nil))) (.cons (.bin .Sub (.v 2) (.int 1)) (.cons (.bin .Add (.v 2) (.call jaa (.cons (.v 0) (.cons (.int 5) .nil)))) .nil))))))) (.call jaa (.cons (.v 0) (.cons (.int 6) .nil)))))
  (.cons (.ret (.tup (.cons (.str "span") (.cons (.v 3) (.cons (.v 4) (.cons (.v 5) (.cons (.bin .Add (.v 5) (.v 6)) .nil)))))))
  .nil)))))⟩
noncomputable def jbX:Fun:=⟨"_law_fitting",["_law_feed_here", "_law_beats_here", "_law_cycle"],["_law_feed_here", "_law_beats_here", "_law_cycle", "_law_one", "_law_other", "_law_gap", "_law_low", "_law_length"],
  (.cons (.par [3,4] (.cons (.call jaa (.cons (.v 0) (.cons (.blt .len (.cons (.v 1) .nil)) .nil))) (.cons (.call jaa (.cons (.v 0) (.cons (.blt .len (.cons (.v 1) .nil)) .nil))) .nil)))
  (.cons (.asg (.n 5) (.bin .Mod (.bin .Sub (.ix (.v 1) (.v 4)) (.ix (.v 1) (.v 3))) (.v 2)))
  (.cons (.ite (.cmp .Eq (.call jaa (.cons (.v 0) (.cons (.int 3) .nil))) (.int 0)) (.cons (.ret (.tup (.cons (.str "apart") (.cons (.v 3) (.cons (.v 4) (.cons (.call jaa (.cons (.v 0) (.cons (.bin .Add (.v 5) (.int 1)) .nil))) (.cons (.call jaa (.cons (.v 0) (.cons (.bin .Add (.bin .Sub (.v 2) (.v 5)) (.int 1)) .nil))) .nil)))))))
  .nil) .nil)
  (.cons (.asg (.n 6) (.call jaz (.cons (.v 0) (.cons (.v 2) .nil))))
  (.cons (.asg (.n 7) (.bin .Add (.v 6) (.bin .Mod (.bin .Sub (.v 5) (.v 6)) (.v 2))))
  (.cons (.ret (.tup (.cons (.str "span") (.cons (.v 3) (.cons (.v 4) (.cons (.v 6) (.cons (.bin .Add (.v 7) (.ix (.lst (.cons (.int 0) (.cons (.int 0) (.cons (.int 1) (.cons (.call jaa (.cons (.v 0) (.cons (.v 2) .nil))) .nil))))) (.call jaa (.cons (.v 0) (.cons (.int 4) .nil))))) .nil)))))))
  .nil))))))⟩
noncomputable def ja8:Ss:=
  (.cons (.ite (.bop true (.cmp2 .Lt .Lt (.int 0) (.blt .len (.cons (.v 5) .nil)) (.int 24)) (.cons (.cmp .Eq (.call jaa (.cons (.v 0) (.cons (.int 6) .nil))) (.int 0)) .nil)) (.cons (.expr (.meth .insert (.v 5) (.cons (.call jaa (.cons (.v 0) (.cons (.bin .Add (.blt .len (.cons (.v 5) .nil)) (.int 1)) .nil))) (.cons (.ix (.v 5) (.int 0)) .nil))))
  .nil) .nil)
  (.cons (.ret (.tup (.cons (.call jbx (.cons (.v 0) (.cons (.v 1) .nil))) (.cons (.mkT (.v 5)) .nil))))
  .nil))
noncomputable def jdd:Fun:=⟨"_law_plan",["_law_feed_here", "_law_works", "_law_most", "_law_cycle"],["_law_feed_here", "_law_works", "_law_most", "_law_cycle", "_law_beats_here", "_law_spans", "_law_k"],
  (.cons (.asgC 4 (.lc [none,some 0,some 3] (.n 0) (.r1 (.v 1)) .nil (.call jaa (.cons (.v 1) (.cons (.v 2) .nil)))))
  (.cons (.asg (.n 5) (.lst .nil))
  (.cons (.fr (.n 6) (.r1 (.call jaa (.cons (.v 0) (.cons (.bin .Add (.v 2) (.int 1)) .nil)))) (.cons (.ite (.cmp .Gt (.call jaa (.cons (.v 0) (.cons (.int 5) .nil))) (.int 0)) (.cons (.expr (.meth .append (.v 5) (.cons (.call jaX (.cons (.v 0) (.cons (.v 4) (.cons (.v 3) .nil)))) .nil)))
  .nil) (.cons (.expr (.meth .append (.v 5) (.cons (.call jc6 (.cons (.v 0) (.cons (.v 1) (.cons (.v 3) .nil)))) .nil)))
  .nil))
  .nil))
  ja8)))⟩
noncomputable def jbG:Ss:=
  (.cons (.ret (.tup (.cons (.sl (.tup (.cons (.str "a") (.cons (.str "ab") (.cons (.str "b") (.cons (.str "ba") (.cons (.str "abc") (.cons (.str "z") (.cons (.str "n") (.cons (.str "at") .nil))))))))) .no (.so (.v 1))) (.cons (.mkT (.v 5)) .nil))))
  .nil)
noncomputable def jaY:Ss:=
  (.cons (.ite (.cmp .Lt (.v 7) (.int 3)) (.cons (.expr (.meth .append (.v 5) (.cons (.call jaX (.cons (.v 0) (.cons (.v 4) (.cons (.v 3) .nil)))) .nil)))
  .nil) (.cons (.ite (.cmp .Lt (.v 7) (.int 5)) (.cons (.expr (.meth .append (.v 5) (.cons (.tup (.cons (.str "span") (.cons (.bin .Mod (.v 6) (.v 1)) (.cons (.v 9) (.cons (.v 8) (.cons (.bin .Add (.v 8) (.call jaa (.cons (.v 0) (.cons (.bin .Add (.int 1) (.bin .FloorDiv (.v 3) (.int 2))) .nil)))) .nil)))))) .nil)))
  .nil) (.cons (.expr (.meth .append (.v 5) (.cons (.tup (.cons (.str "apart") (.cons (.v 9) (.cons (.bin .Mod (.v 6) (.v 1)) (.cons (.v 8) (.cons (.call jaz (.cons (.v 0) (.cons (.v 3) .nil))) .nil)))))) .nil)))
  .nil))
  .nil))
  .nil)
noncomputable def jcK:Fun:=⟨"_law_tight",["_law_feed_here", "_law_works", "_law_most", "_law_cycle"],["_law_feed_here", "_law_works", "_law_most", "_law_cycle", "_law_beats_here", "_law_spans", "_law_k", "_law_way", "_law_low", "_law_other"],
  (.cons (.asgC 4 (.lc [none,some 0,some 3] (.n 0) (.r1 (.v 1)) .nil (.call jaa (.cons (.v 1) (.cons (.v 2) .nil)))))
  (.cons (.asg (.n 5) (.lst .nil))
  (.cons (.fr (.n 6) (.r1 (.bin .Add (.int 1) (.call jaa (.cons (.v 0) (.cons (.v 2) .nil))))) (.cons (.asg (.n 7) (.call jaa (.cons (.v 0) (.cons (.int 6) .nil))))
  (.cons (.asg (.n 8) (.call jaz (.cons (.v 0) (.cons (.v 3) .nil))))
  (.cons (.asg (.n 9) (.bin .Mod (.bin .Add (.bin .Add (.v 6) (.int 1)) (.call jaa (.cons (.v 0) (.cons (.v 1) .nil)))) (.v 1)))
  jaY))))
  jbG)))⟩
noncomputable def jcQ:Fun:=⟨"_law_beats",["_law_feed_here", "_law_works", "_law_cycle"],["_law_feed_here", "_law_works", "_law_cycle"],
  (.cons (.ret (.mkT (.lc [none,some 0,some 2] (.n 0) (.r1 (.v 1)) .nil (.call jaa (.cons (.v 1) (.cons (.v 2) .nil))))))
  .nil)⟩
noncomputable def jei:Fun:=⟨"_law_end",["_law_cycle", "_law_span_here"],["_law_cycle", "_law_span_here", "_law_top"],
  (.cons (.asg (.n 2) (.ife (.cmp .Eq (.ix (.v 1) (.int 0)) (.str "span")) (.ix (.v 1) (.int 4)) (.bin .Sub (.v 0) (.ix (.v 1) (.int 4)))))
  (.cons (.ret (.blt .min (.cons (.v 2) (.cons (.bin .Sub (.bin .Add (.ix (.v 1) (.int 3)) (.v 0)) (.int 1)) .nil))))
  .nil))⟩
noncomputable def jcO:Fun:=⟨"_law_lacks",["_law_plan_here", "_law_cycle", "_law_beats_here"],["_law_plan_here", "_law_cycle", "_law_beats_here", "_law_found", "_law_s", "_law_word", "_law_one", "_law_other", "_law_low", "_law_high", "_law_gap"],
  (.cons (.asg (.n 3) (.lst .nil))
  (.cons (.fr (.n 4) (.r1 (.blt .len (.cons (.ix (.v 0) (.int 1)) .nil))) (.cons (.asg (.t (.cons (.n 5) (.cons (.n 6) (.cons (.n 7) (.cons (.n 8) (.cons (.n 9) .nil)))))) (.ix (.ix (.v 0) (.int 1)) (.v 4)))
  (.cons (.asg (.n 10) (.bin .Mod (.bin .Sub (.bin .Sub (.ix (.v 2) (.v 7)) (.ix (.v 2) (.v 6))) (.v 8)) (.v 1)))
  (.cons (.ite (.cmp .Gt (.bin .Add (.v 8) (.v 10)) (.call jd2 (.cons (.v 1) (.cons (.ix (.ix (.v 0) (.int 1)) (.v 4)) .nil)))) (.cons (.expr (.meth .append (.v 3) (.cons (.v 4) .nil)))
  .nil) .nil)
  .nil))))
  (.cons (.ret (.v 3))
  .nil)))⟩
noncomputable def jbH:Ss:=
  (.cons (.ret (.blt .sorted (.cons (.v 1) .nil)))
  .nil)
noncomputable def jaZ:Ss:=
  (.cons (.expr (.meth .append (.v 1) (.cons (.blt .sorted (.cons (.v 8) .nil)) .nil)))
  .nil)
noncomputable def ja0:Ss:=
  (.cons (.fr (.n 9) (.e (.v 7)) (.cons (.asg (.n 8) (.bin .Add (.v 8) (.v 9)))
  .nil))
  jaZ)
noncomputable def ja1:Ss:=
  (.cons (.asg (.n 8) (.lst .nil))
  ja0)
noncomputable def ja2:Ss:=
  (.cons (.asgC 1 (.lc [none,some 7] (.n 0) (.e (.v 1)) (.cons (.cmp .NotIn (.v 0) (.v 1)) .nil) (.v 0)))
  ja1)
noncomputable def jaF:Ss:=
  (.cons (.asg (.n 7) (.lc [none,some 3,some 4] (.n 0) (.e (.v 1)) (.cons (.bop false (.cmp .In (.v 1) (.v 0)) (.cons (.cmp .In (.v 2) (.v 0)) .nil)) .nil) (.v 0)))
  ja2)
noncomputable def jbI:Ss:=
  (.cons (.fr (.t (.cons (.n 2) (.cons (.n 3) (.cons (.n 4) (.cons (.n 5) (.cons (.n 6) .nil)))))) (.e (.ix (.v 0) (.int 1))) jaF)
  jbH)
noncomputable def jcM:Fun:=⟨"_law_parts",["_law_plan_here"],["_law_plan_here", "_law_found", "_law_word", "_law_one", "_law_other", "_law_low", "_law_high", "_law_mine", "_law_whole", "_law_part"],
  (.cons (.asgC 1 (.lc [none] (.n 0) (.r1 (.blt .len (.cons (.ix (.v 0) (.int 0)) .nil))) .nil (.lst (.cons (.v 0) .nil))))
  jbI)⟩
noncomputable def jcs:Ss:=
  (.cons (.ret (.lc [none,some 0,some 1] (.n 0) (.e (.v 3)) (.cons (.cmp .Eq (.call jby (.cons (.v 1) (.cons (.v 2) (.cons (.v 0) .nil)))) (.lst .nil)) .nil) (.v 0)))
  .nil)
noncomputable def jbs:Ss:=
  (.cons (.asg (.n 3) (.v 5))
  .nil)
noncomputable def jaE:Ss:=
  (.cons (.expr (.meth .extend (.v 5) (.cons (.lc [none,some 6] (.n 0) (.r1 (.ife (.cmp .In (.v 4) (.v 2)) (.int 1) (.v 1))) .nil (.bin .Add (.v 1) (.tup (.cons (.v 0) .nil)))) .nil)))
  .nil)
noncomputable def jbt:Ss:=
  (.cons (.asg (.n 5) (.lst .nil))
  (.cons (.fr (.n 6) (.e (.v 3)) jaE)
  jbs))
noncomputable def jct:Ss:=
  (.cons (.fr (.n 4) (.r1 (.blt .len (.cons (.ix (.v 0) (.int 0)) .nil))) jbt)
  jcs)
noncomputable def jcu:Ss:=
  (.cons (.asg (.n 3) (.lst (.cons (.tup .nil) .nil)))
  jct)
noncomputable def jej:Fun:=⟨"_law_all",["_law_plan_here", "_law_cycle"],["_law_plan_here", "_law_cycle", "_law_firsts", "_law_found", "_law_work", "_law_longer", "_law_ahead"],
  (.cons (.asgC 2 (.lc [none] (.n 0) (.e (.call jaW (.cons (.v 0) .nil))) .nil (.ix (.v 0) (.int 0))))
  jcu)⟩
noncomputable def jcL:Fun:=⟨"_law_small",["_law_feed_here"],["_law_feed_here", "_law_works", "_law_cycle"],
  (.cons (.ite (.cmp .Gt (.call jaa (.cons (.v 0) (.cons (.int 8) .nil))) (.int 0)) (.cons (.asg (.n 1) (.ix (.lst (.cons (.int 2) (.cons (.int 3) (.cons (.int 3) (.cons (.int 4) (.cons (.int 2) (.cons (.int 1) .nil))))))) (.call jaa (.cons (.v 0) (.cons (.int 6) .nil)))))
  (.cons (.ret (.tup (.cons (.v 1) (.cons (.bin .Add (.int 1) (.call jaa (.cons (.v 0) (.cons (.ix (.lst (.cons (.int 12) (.cons (.int 24) (.cons (.int 6) (.cons (.int 3) .nil))))) (.bin .Sub (.v 1) (.int 1))) .nil)))) (.cons (.int 5) .nil)))))
  .nil)) .nil)
  (.cons (.asg (.n 1) (.bin .Add (.int 2) (.call jaa (.cons (.v 0) (.cons (.int 7) .nil)))))
  (.cons (.asg (.n 2) (.bin .Add (.int 1) (.call jaa (.cons (.v 0) (.cons (.ix (.lst (.cons (.int 300) (.cons (.int 17) (.cons (.int 6) (.cons (.int 4) (.cons (.int 3) (.cons (.int 2) (.cons (.int 2) .nil)))))))) (.bin .Sub (.v 1) (.int 2))) .nil)))))
  (.cons (.ret (.tup (.cons (.v 1) (.cons (.v 2) (.cons (.ix (.lst (.cons (.int 5) (.cons (.int 12) (.cons (.int 24) .nil)))) (.call jaa (.cons (.v 0) (.cons (.int 3) .nil)))) .nil)))))
  .nil))))⟩
noncomputable def jeh:Fun:=⟨"_law_far",["_law_feed_here", "_law_plan_here", "_law_cycle"],["_law_feed_here", "_law_plan_here", "_law_cycle", "_law_spans", "_law_word", "_law_one", "_law_other", "_law_low", "_law_high", "_law_by"],
  (.cons (.asg (.n 3) (.lst .nil))
  (.cons (.fr (.t (.cons (.n 4) (.cons (.n 5) (.cons (.n 6) (.cons (.n 7) (.cons (.n 8) .nil)))))) (.e (.ix (.v 1) (.int 1))) (.cons (.asg (.n 9) (.int 0))
  (.cons (.ite (.cmp .Eq (.v 4) (.str "span")) (.cons (.asg (.n 9) (.bin .Mult (.v 2) (.call jaa (.cons (.v 0) (.cons (.bin .Add (.bin .FloorDiv (.bin .Sub (.int 9999) (.v 8)) (.v 2)) (.int 1)) .nil)))))
  .nil) .nil)
  (.cons (.expr (.meth .append (.v 3) (.cons (.tup (.cons (.v 4) (.cons (.v 5) (.cons (.v 6) (.cons (.bin .Add (.v 7) (.v 9)) (.cons (.bin .Add (.v 8) (.v 9)) .nil)))))) .nil)))
  .nil))))
  (.cons (.ret (.tup (.cons (.ix (.v 1) (.int 0)) (.cons (.mkT (.v 3)) .nil))))
  .nil)))⟩
noncomputable def jbk:Fun:=⟨"_law_some_plan",["_law_feed_here"],["_law_feed_here", "_law_works", "_law_cycle", "_law_most", "_law_plan_here"],
  (.cons (.asg (.t (.cons (.n 1) (.cons (.n 2) (.cons (.n 3) .nil)))) (.call jcA (.cons (.v 0) .nil)))
  (.cons (.asg (.n 4) (.call jcz (.cons (.v 0) (.cons (.v 1) (.cons (.v 3) (.cons (.v 2) .nil))))))
  (.cons (.ite (.cmp .Eq (.call jaa (.cons (.v 0) (.cons (.int 6) .nil))) (.int 0)) (.cons (.asg (.n 4) (.call jd1 (.cons (.v 0) (.cons (.v 4) (.cons (.v 2) .nil)))))
  .nil) .nil)
  (.cons (.ret (.tup (.cons (.v 4) (.cons (.v 2) .nil))))
  .nil))))⟩
noncomputable def jbJ:Ss:=
  (.cons (.ret (.mkT (.v 3)))
  .nil)
noncomputable def jbK:Ss:=
  (.cons (.fr (.n 4) (.e (.call jaW (.cons (.v 0) .nil))) (.cons (.fr (.n 5) (.e (.v 4)) (.cons (.setS (.v 3) (.v 5) (.bin .Mod (.bin .Sub (.ix (.v 2) (.v 5)) (.ix (.v 2) (.ix (.v 4) (.int 0)))) (.v 1)))
  .nil))
  .nil))
  jbJ)
noncomputable def jcP:Fun:=⟨"_law_begun",["_law_plan_here", "_law_cycle", "_law_beats_here"],["_law_plan_here", "_law_cycle", "_law_beats_here", "_law_found", "_law_part", "_law_work"],
  (.cons (.asg (.n 3) (.mkL (.v 2)))
  jbK)⟩
noncomputable def jc0:Ss:=
  (.cons (.ite (.cmp .NotEq (.blt .repr (.cons (.v 3) .nil)) (.v 5)) (.cons (.ret (.bl false))
  .nil) .nil)
  .nil)
noncomputable def jaI:Ss:=
  (.cons (.ite (.cmp .NotEq (.cmp .Is (.call jck (.cons (.v 3) (.cons (.v 4) (.cons (.v 10) .nil)))) .non) (.cmp .In (.call jbz (.cons (.v 3) (.cons (.v 4) (.cons (.v 10) .nil)))) (.v 7))) (.cons (.ret (.bl false))
  .nil) .nil)
  .nil)
noncomputable def ja3:Ss:=
  (.cons (.asg (.n 10) (.mkT (.v 10)))
  .nil)
noncomputable def jaG:Ss:=
  (.cons (.fr (.n 12) (.e (.call jaW (.cons (.v 3) .nil))) (.cons (.fr (.n 13) (.e (.v 12)) (.cons (.setS (.v 10) (.v 13) (.bin .Mod (.bin .Add (.ix (.v 10) (.v 13)) (.ix (.v 11) (.ix (.v 12) (.int 0)))) (.v 4)))
  .nil))
  .nil))
  ja3)
noncomputable def jaU:Ss:=
  (.cons (.asg (.n 10) (.call jbA (.cons (.v 1) (.cons (.blt .len (.cons (.ix (.v 3) (.int 0)) .nil)) (.cons (.v 4) .nil)))))
  (.cons (.ite (.bop true (.cmp .NotEq (.v 7) (.lst .nil)) (.cons (.cmp .Gt (.v 9) (.int 1)) .nil)) (.cons (.asg (.n 11) (.call jbA (.cons (.v 1) (.cons (.blt .len (.cons (.ix (.v 3) (.int 0)) .nil)) (.cons (.v 4) .nil)))))
  (.cons (.asg (.n 10) (.mkL (.ix (.v 7) (.call jaa (.cons (.v 1) (.cons (.blt .len (.cons (.v 7) .nil)) .nil))))))
  jaG)) .nil)
  jaI))
noncomputable def jc1:Ss:=
  (.cons (.fr (.n 9) (.r1 (.int 4)) jaU)
  jc0)
noncomputable def jbL:Ss:=
  (.cons (.ite (.bop false (.not (.blt .isi (.cons (.v 8) (.cons (.ty "list") .nil)))) (.cons (.cmp .NotEq (.blt .repr (.cons (.v 8) .nil)) (.blt .repr (.cons (.v 7) .nil))) .nil)) (.cons (.ret (.bl false))
  .nil) .nil)
  (.cons (.expr (.meth .append (.v 8) (.cons (.tup .nil) .nil)))
  .nil))
noncomputable def jaV:Ss:=
  (.cons (.asg (.n 7) (.call jd3 (.cons (.v 3) (.cons (.v 6) .nil))))
  (.cons (.asg (.n 8) (.call jcB (.cons (.v 3) (.cons (.v 6) .nil))))
  jbL))
noncomputable def jc2:Ss:=
  (.cons (.fr (.n 6) (.e (.tup (.cons (.v 4) (.cons (.bin .Add (.int 1) (.call jaa (.cons (.v 1) (.cons (.v 4) .nil)))) (.cons (.v 4) .nil))))) jaV)
  jc1)
noncomputable def jb1:Ss:=
  (.cons (.asg (.n 5) (.blt .repr (.cons (.v 3) .nil)))
  jc2)
noncomputable def jb2:Ss:=
  (.cons (.asg (.t (.cons (.n 3) (.cons (.n 4) .nil))) (.call jbh (.cons (.v 1) .nil)))
  (.cons (.ite (.cmp .Eq (.call jaa (.cons (.v 1) (.cons (.int 2) .nil))) (.int 0)) (.cons (.asg (.n 3) (.call jc7 (.cons (.v 1) (.cons (.blt .len (.cons (.ix (.v 3) (.int 0)) .nil)) (.cons (.int 6) (.cons (.v 4) .nil))))))
  .nil) .nil)
  jb1))
noncomputable def jf2:Ss:=
  (.cons (.fr (.n 2) (.r1 (.int 3)) jb2)
  (.cons (.ret (.bl true))
  .nil))
noncomputable def jhO:Fun:=⟨"law",["_law_script"],["_law_script", "_law_feed_here", "_law_k", "_law_plan_here", "_law_cycle", "_law_kept", "_law_some", "_law_due", "_law_found", "_law_j", "_law_beats_here", "_law_by", "_law_part", "_law_work"],
  (.cons (.asg (.n 1) (.call jc8 (.cons (.v 0) .nil)))
  jf2)⟩
noncomputable def T:Tab:=⟨[jfl,jcJ,jfk,jcc,jbY,jdb,jef,jeg,jbv,jbW,jcR,jde,jdf,jcN,jcb,jdc,jbX,jdd,jcK,jcQ,jei,jcO,jcM,jej,jcL,jeh,jbk,jcP,jhO],[(.int 300)],["MOST_SIZE"],[]⟩
def top (i:Nat):Stmt:=PySem.Challenge.pw_beatplans_k20_whole_all_times.main.body.getD i (.Pass ⟨0,0,0,0⟩)
noncomputable abbrev s_top_of:Stmt:=top 4
noncomputable abbrev s_length_of:Stmt:=top 5
noncomputable abbrev s_unkept:Stmt:=top 6
noncomputable abbrev s_entries_to:Stmt:=top 8
noncomputable abbrev s_forest_from:Stmt:=top 9
noncomputable abbrev s_parts_of:Stmt:=top 11
noncomputable abbrev s_staying:Stmt:=top 14
noncomputable abbrev s_size_of:Stmt:=top 15
noncomputable abbrev s_refuse_great:Stmt:=top 16
noncomputable abbrev s_rows_to_try:Stmt:=top 18
noncomputable abbrev s_all_times:Stmt:=top 19
noncomputable abbrev s_law_feed:Stmt:=top 21
noncomputable abbrev s_law_draw:Stmt:=top 22
noncomputable abbrev s_law_names:Stmt:=top 23
noncomputable abbrev s_law_number:Stmt:=top 24
noncomputable abbrev s_law_span:Stmt:=top 25
noncomputable abbrev s_law_fitting:Stmt:=top 26
noncomputable abbrev s_law_plan:Stmt:=top 27
noncomputable abbrev s_law_tight:Stmt:=top 28
noncomputable abbrev s_law_beats:Stmt:=top 29
noncomputable abbrev s_law_end:Stmt:=top 30
noncomputable abbrev s_law_lacks:Stmt:=top 31
noncomputable abbrev s_law_parts:Stmt:=top 32
noncomputable abbrev s_law_all:Stmt:=top 33
noncomputable abbrev s_law_small:Stmt:=top 34
noncomputable abbrev s_law_far:Stmt:=top 35
noncomputable abbrev s_law_some_plan:Stmt:=top 36
noncomputable abbrev s_law_begun:Stmt:=top 37
noncomputable abbrev s_law:Stmt:=top 38
local macro_rules
 | `(tactic| simp! only [$xs,*])=>`(tactic| try simp only [D_v,T_v,joi,D_bl,jop,jog,D_g,T_g,D_ty,T_ty,jou,jnZ,joj,jos,jnX,jmj,jl4,jof,jon,jor,D_ix,T_ix,D_sl,jmk,jl5,jot,jnY,jmi,D_lc,joo,jnV,jom,jnU,jol,jok,joh,jnT,joq,jnW,jml,jov,D_or,jn0,T_or,O_no,O_so,joy,jmo,jow,jmm,jn6,jl9,I_e,I_r1,jma,I_dk,jl7,jn5,jl8,jl6,jn2,jn4,jn3,S_fr,jn1,jj1,S_tr,jox,jmn,jnS,jnR,jl2,jnM,jnP,jl0,jlZ,jl1,jnQ,jnN,jnO,jnL,jnH,jnJ,jnF,W_lt,W_gt,jnE,jnI,jlW,jnG,jnK,W_in,jnD,W_is,Y_bl,jnz,jnA,jny,jn9,jnB,joc,jmc,job,jhU,joe,jod,jnC,jl3,jlY,jlX,jmf,jmd,jme,jmh,jmg,G_n,G_t,joa,jmb,sl_0,sl_s,dr_0,dr_s,pk_nil,ji2,ji1,jn7,jn8,jhM,jns,jjP,jjO,jnt,jjS,jjR,List.map_cons,List.map_nil,List.cons_append,List.nil_append,List.length_cons,List.length_nil,List.set_cons_zero,List.set_cons_succ,List.zip_cons_cons,List.zip_nil_right,List.zip_nil_left,List.foldl_cons,List.foldl_nil,List.getElem?_cons_zero,List.getElem?_cons_succ,Option.join_some,ite_true,ite_false,Bool.false_eq_true,Int.toNat_natCast,$xs,*])
set_option maxHeartbeats 1000000
section
variable {k:Nat}{G:Gp}{Q:K1}{X:KX}
theorem jac {f c:Addr}{m:Int}(hf:Fd G f c)(h0:0 < m)(h1:m < 1000000000)(q:∀ (r:Int) (G':Gp),0<=r->r < m->Fd G' f c->Sm f G G'->Q (.int r) G'):jab T (k + 1) jaa [.loc f,.int m] G Q X:=by
 obtain ⟨ns,a,l,t,g1,g2,hn⟩:=hf.ex
 have fin:∀ (z a' l' t':Int),Q (.int (z % m)) (gup G f (.dK (fdU c a' l' t'))):=fun z a' l' t'=>q _ _ (Int.emod_nonneg z (by omega)) (Int.emod_lt_of_pos z h0) (Fd.put ⟨rfl⟩ g1 g2 hn) Sm.put
 have hlen:0 < ns.length:=List.length_pos_iff.mpr hn
 have gc:∀ kvs,gup G f (.dK kvs) c=some (.lst (ns.map .int)):=fun kvs=>by rw [jaT (fun z=>by rw [z,g1] at g2; cases g2)]; exact g2
 obtain ⟨z,hz,ez⟩:=jdj (l:=ns) (r:=a % ns.length) (Int.emod_nonneg _ (by omega)) (Int.emod_lt_of_pos _ (by omega))
 refine ⟨rfl,?_⟩
 simp! only [jdf,jaj,List.replicate,ix_d g1 jim,jhb g1,jbd,jh8,jfh,true_and,jd5 (gc _),List.length_map,ix_l (gc _) ((jbE U.int ns _).trans (congrArg _ ez))]
 have cut:∀ (l' a' t':Int),(0 < m/\0 < m/\m < 1073741824/\Q (.int (l' % m)) (gup G f (.dK (fdU c a' (l' / m) t')))):=fun l' a' t'=>⟨h0,h0,by omega,fin _ _ _ _⟩
 by_cases hl:l=0
 ·rw [if_pos (by simpa using hl)]
  refine ⟨by omega,by constructor <;> decide,?_⟩
  by_cases hc:z < 10 ^ Int.toNat 18
  ·rw [if_pos (by simpa using hc)]
   exact ⟨by decide,.inl (by decide),.inr (by decide),by decide,by decide,by decide,.inl (by decide),.inr (by decide),by decide,by decide,by decide,h0,fin _ _ _ _⟩
  ·rw [if_neg (by simpa using hc)]
   exact cut _ _ _
 ·rw [if_neg (by simpa using hl)]
  exact cut _ _ _
theorem jjo {a:Addr}{ns:List Int}(ha:G a=some (.fro (ns.map .int)))(hl:ns.length<=63)(q:∀ (f c:Addr) (G':Gp),Fd G' f c->Q (.loc f) G'):jab T (k + 1) jc8 [.loc a] G Q X:=by
 have hcl:(cut ns none (some 63)).length<=63:=by rw [show (63:Int)=((63:Nat):Int) from rfl,jgZ]; simp; omega
 refine ⟨rfl,?_⟩
 simp! only [jde,jaj,List.replicate,sl_f ha,jjW]
 intro p1 G1 n1
 rw [it_l n1.at]
 intro p2 G2 n2
 refine ⟨by decide,fun p3 G3 n3=>?_⟩
 simp! only [jni (n3.sa _ _ (n2.sa _ _ (n1.sa _ _ ha)))]
 obtain ⟨zs,ez,lz,hz⟩:∃ zs:List Int,(List.replicate (Int.toNat (if decide (((ns.map U.int).length:Int)=0)=true then 1 else 0)) [U.int 0]).flatten=zs.map U.int/\zs.length<=1/\(ns=[]->zs≠[]):=by
  by_cases h:ns=[]
  ·subst h
   exact ⟨[0],rfl,by decide,fun _=>by simp⟩
  ·refine ⟨[],?_,by decide,fun z=>absurd z h⟩
   rw [if_neg (by simpa using h)]
   rfl
 refine ⟨_,n3.at,by split <;> decide,by split <;> decide,by split <;> decide,fun p4 G4 n4=>?_⟩
 rw [ez] at n4
 refine ⟨_,_,n4.sa _ _ (n3.sa _ _ n2.at),n4.at,?_,fun p5 G5 n5=>⟨by decide,fun p6 G6 n6=>?_⟩⟩
 ·rw [List.length_map,List.length_map]
  exact Nat.le_trans (Nat.add_le_add hcl lz) (by decide:63 + 1<=sizeLine)
 rw [jlr] at n6
 rw [<- List.map_append] at n5
 refine q _ p5 _ ⟨_,0,0,0,n6.at,n6.sa _ _ n5.at,fun z=>?_⟩
 obtain ⟨z1,z2⟩:=List.append_eq_nil_iff.mp z
 refine hz ?_ z2
 rw [show (63:Int)=((63:Nat):Int) from rfl,jgZ] at z1
 cases ns with
 | nil=>rfl
 | cons _ _=>cases z1
end

set_option maxHeartbeats 2000000
structure Nm (x:Str):Prop where
 l8:x.length<=8
 ch:∀ c∈x.cps.toList,c < 128
structure Spn where
 w:Str
 o:Nat
 t:Nat
 lo:Int
 hi:Int
noncomputable def Spn.u (s:Spn):U:=.tup [.str s.w,.int s.o,.int s.t,.int s.lo,.int s.hi]
structure Spn.Ok (W:Nat)(s:Spn):Prop where
 w:s.w = "apart" \/ s.w = "span"
 o:s.o < W
 t:s.t < W
 lo:0<=s.lo/\s.lo<=9999
 hi:0<=s.hi/\s.hi<=9999
noncomputable def jaf (l:List Int):U:=.tup (l.map .int)
theorem jfS {x:Str}(h:x = "apart" \/ x = "span"):x.length<=8/\∀ c∈x.cps.toList,c < 128:=by
 rcases h with rfl | rfl
 ·exact ⟨by decide +kernel,by decide +kernel⟩
 ·exact ⟨by decide +kernel,by decide +kernel⟩
theorem jlK {i:Int}(h:-100000<=i/\i<=100000):Ft 1921 0 (.int i):=Ft.int (Nat.lt_of_le_of_lt (show i.natAbs<=100000 by omega) (by decide))
theorem Spn.Ok.ft {W:Nat}{s:Spn}(h:s.Ok W)(hW:W<=8):Ft 10000 1 s.u:=by
 have:=h.o
 have:=h.t
 have:=h.lo
 have:=h.hi
 refine Ft.tup (n:=1921) (m:=5) (Nat.le_refl _) (fun u hu=>?_) (by decide)
 simp only [List.mem_cons,List.not_mem_nil,or_false] at hu
 rcases hu with rfl | rfl | rfl | rfl | rfl
 ·exact (Ft.str (m:=8) (jfS h.w).1 (jfS h.w).2).mono (by decide) (Nat.le_refl _)
 all_goals exact jlK (by omega)

noncomputable def menu:List Str:=["a", "ab", "abc", "b", "ba", "works", "span", "apart", "at", "none", "hold", "zzzzzzzz", "z", "o", "find", "late", "n"]
theorem jjr:∀ x∈menu,Nm x:=by
 have h:∀ x∈menu,x.length<=8/\∀ c∈x.cps.toList,c < 128:=by decide +kernel
 exact fun x hx=>⟨(h x hx).1,(h x hx).2⟩
noncomputable def jae (xs:List Str)(ss:List Spn):U:=.tup [.tup (xs.map .str),.tup (ss.map Spn.u)]
theorem jnm {a:Addr}{xs:List U}{i:Int}{v:U}{G:Gp}{Q:K1}(g:G a=some (.lst xs)):jaO .insert (.loc a) [.int i,v] G Q=(0<=i/\i<=xs.length/\xs.length < sizeLine/\putO G a (.lst (xs.take i.toNat++v::xs.drop i.toNat)) (Q .non)):=by unfold jaO jeE; dsimp only; rw [g]
theorem jlo {a:Addr}{xs:List U}{G:Gp}(g:G a=some (.lst xs)):mtU .insert (.loc a) G=some ("list", "list.insert"):=by unfold mtU; dsimp only; rw [g]
section
variable {k:Nat}{G:Gp}{Q:K1}{X:KX}
theorem jhz {f c:Addr}{m:Nat}(hf:Fd G f c)(h1:m<=8)(q:∀ (xs:List Str) (G':Gp),xs.length=m->(∀ x∈xs,Nm x)->Fd G' f c->Sm f G G'->Q (.tup (xs.map .str)) G'):jab T (k + 2) jbx [.loc f,.int m] G Q X:=by
 refine ⟨rfl,?_⟩
 simp! only [jcN,jaj,List.replicate]
 refine ⟨by decide,fun p G1 n1=>⟨by decide,fun p2 G2 n2=>⟨_,_,n2.sa _ _ n1.at,n2.at,by decide,fun p3 G3 n3=>?_⟩⟩⟩
 have f3:=((hf.new n1).new n2).new n3
 have s3:Sm f G G3:=n1.sa.sm.trans (n2.sa.sm.trans n3.sa.sm)
 have hp:=((hf.new n1).new n2).away n3
 have g3:G3 p3=some (.lst (menu.map .str)):=n3.at
 refine jac f3 (by decide) (by decide) fun first G4 a4 b4 f4 s4=>jac f4 (by decide) (by decide) fun r5 G5 a5 b5 f5 s5=>?_
 have g5:=s5 _ _ hp.1 (s4 _ _ hp.1 g3)
 simp! only []
 refine ⟨by omega,by omega,by rw [jam]; exact Nat.le_trans (show ((m:Int)).toNat<=8 by omega) (by decide),?_⟩
 refine jan (fun i acc G'=>G'=G5/\∃ xs:List Str,acc=xs.map .str/\xs.length=i/\∀ x∈xs,Nm x) ?_ ?_ ⟨rfl,[],rfl,rfl,fun _ h=>nomatch h⟩
 ·rintro acc G' ⟨rfl,xs,rfl,hl,hx⟩
  rw [jam] at hl
  refine ⟨trivial,fun p6 G6 n6=>?_⟩
  simp! only [it_l n6.at]
  exact q xs G6 (by omega) hx (f5.new n6) ((s3.trans (s4.trans s5)).nw n6)
 ·rintro i x acc G' K hx ⟨rfl,xs,rfl,hl,hn⟩ hk _
  obtain ⟨hi,rfl⟩:=jaA hx
  simp! only []
  obtain ⟨y,hy,ey⟩:=jdj (l:=menu) (r:=(first + (1 + r5) * (i:Int)) % 17) (Int.emod_nonneg _ (by decide)) (Int.emod_lt_of_pos _ (by decide))
  refine ⟨trivial,.inr (by constructor <;> omega),by decide,?_⟩
  rw [ix_l g5 ((jbE U.str menu _).trans (congrArg _ ey))]
  exact hk _ _ ⟨rfl,xs++[y],by simp,by simp [hl],fun z hz=>by
   rcases List.mem_append.mp hz with z' | z'
   ·exact hn z z'
   ·rw [List.mem_singleton.mp z']; exact jjr y hy⟩
theorem jbe {f c:Addr}{P:Int}(hf:Fd G f c)(h1:1<=P)(h2:P<=600)(q:∀ (z:Int) (G':Gp),0<=z->z<=1801->Fd G' f c->Sm f G G'->Q (.int z) G'):jab T (k + 2) jaz [.loc f,.int P] G Q X:=by
 refine ⟨rfl,?_⟩
 simp! only [jcb,jaj,List.replicate]
 refine jac hf (by omega) (by omega) fun r1 G1 a1 b1 f1 s1=>jac f1 (by omega) (by omega) fun r2 G2 a2 b2 f2 s2=>⟨.inl (by decide),jac f2 (by omega) (by omega) fun r3 G3 a3 b3 f3 s3=>⟨by decide,fun p G4 n4=>jac (f3.new n4) (by decide) (by decide) fun r5 G5 a5 b5 f5 s5=>?_⟩⟩
 refine jbU [0,r1,r2,r3] (s5 _ _ (f3.away n4).1 n4.at) a5 b5 fun z hz=>?_
 have:0<=z/\z<=1801:=by simp only [List.mem_cons,List.not_mem_nil,or_false] at hz; omega
 exact q z _ this.1 this.2 f5 (((s1.trans (s2.trans s3)).nw n4).trans s5)
theorem jjl {f c:Addr}{P:Int}{W:Nat}(hf:Fd G f c)(h1:1<=P)(h2:P<=600)(w0:0 < W)(w8:W<=8)(q:∀ (s:Spn) (G':Gp),s.Ok W->Fd G' f c->Sm f G G'->Q s.u G'):jab T (k + 3) jc6 [.loc f,.int W,.int P] G Q X:=by
 refine ⟨rfl,?_⟩
 simp! only [jdc,jaj,List.replicate]
 refine jac hf (by omega) (by omega) fun o' Ga aa ba fa sa=>jac fa (by omega) (by omega) fun t' Gb ab bb fb sb=>?_
 obtain ⟨o,rfl⟩:=Int.eq_ofNat_of_zero_le aa
 obtain ⟨t,rfl⟩:=Int.eq_ofNat_of_zero_le ab
 refine ⟨trivial,?_⟩
 refine jbe fb h1 h2 fun lo G1 a1 b1 f1 s1=>?_
 refine jac f1 (by decide) (by decide) fun r G2 a2 b2 f2 s2=>?_
 have S2:=sa.trans (sb.trans (s1.trans s2))
 simp! only []
 by_cases hr:r=0
 ·rw [if_pos (by simpa using hr)]
  refine jbe f2 h1 h2 fun hi G3 a3 b3 f3 s3=>⟨by decide,?_⟩
  exact q ⟨"apart",o,t,lo,hi⟩ _ ⟨.inl rfl,by dsimp only; omega,by dsimp only; omega,by dsimp only; omega,by dsimp only; omega⟩ f3 (S2.trans s3)
 ·rw [if_neg (by simpa using hr)]
  refine jac f2 (by omega) (by omega) fun r3 G3 a3 b3 f3 s3=>jac f3 (by decide) (by decide) fun r4 G4 a4 b4 f4 s4=>⟨by decide,fun p G5 n5=>jac (f4.new n5) (by decide) (by decide) fun r6 G6 a6 b6 f6 s6=>?_⟩
  refine jbU [0,0,1,r3,P - 1,P + r4] (s6 _ _ (f4.away n5).1 n5.at) a6 b6 fun z hz=>?_
  have hz':0<=z/\z<=700:=by simp only [List.mem_cons,List.not_mem_nil,or_false] at hz; omega
  simp! only []
  exact ⟨by decide,q ⟨"span",o,t,lo,lo + z⟩ _ ⟨.inr rfl,by dsimp only; omega,by dsimp only; omega,by dsimp only; omega,by dsimp only; omega⟩ f6 ((S2.trans (s3.trans s4)).nw n5 |>.trans s6)⟩
theorem jc5 {f c pb:Addr}{P:Int}{W:Nat}{bs:List Int}(hf:Fd G f c)(h1:1<=P)(h2:P<=600)(gb:G pb=some (.lst (bs.map .int)))(hb:pb≠f)(bl:bs.length=W)(w0:0 < W)(w8:W<=8)(q:∀ (s:Spn) (G':Gp),s.Ok W->(s.w = "span" -> s.lo<=s.hi)->Fd G' f c->Sm f G G'->Q s.u G'):jab T (k + 3) jaX [.loc f,.loc pb,.int P] G Q X:=by
 refine ⟨rfl,?_⟩
 simp! only [jbX,jaj,List.replicate,jd5 gb,List.length_map,bl]
 refine jac hf (by omega) (by omega) fun o' Ga aa ba fa sa=>?_
 have ga:=sa _ _ hb gb
 simp! only [jd5 ga,List.length_map,bl]
 refine jac fa (by omega) (by omega) fun t' Gb ab bb fb sb=>?_
 have gb2:=sb _ _ hb ga
 obtain ⟨o,rfl⟩:=Int.eq_ofNat_of_zero_le aa
 obtain ⟨t,rfl⟩:=Int.eq_ofNat_of_zero_le ab
 obtain ⟨x,hx,ex⟩:=jdj (l:=bs) (r:=(t:Int)) ab (by omega)
 obtain ⟨y,hy,ey⟩:=jdj (l:=bs) (r:=(o:Int)) aa (by omega)
 simp! only [ix_l gb2 ((jbE U.int bs _).trans (congrArg _ ex)),ix_l gb2 ((jbE U.int bs _).trans (congrArg _ ey))]
 refine ⟨trivial,by omega,jac fb (by decide) (by decide) fun r G2 a2 b2 f2 s2=>?_⟩
 have S2:=sa.trans (sb.trans s2)
 obtain ⟨gap,hg⟩:∃ gap,gap=(x - y) % P:=⟨_,rfl⟩
 have g0:0<=gap:=by rw [hg]; exact Int.emod_nonneg _ (by omega)
 have g1:gap < P:=by rw [hg]; exact Int.emod_lt_of_pos _ (by omega)
 rw [<- hg]
 simp! only []
 by_cases hr:r=0
 ·rw [if_pos (by simpa using hr)]
  refine jac f2 (by omega) (by omega) fun lo G3 a3 b3 f3 s3=>jac f3 (by omega) (by omega) fun hi G4 a4 b4 f4 s4=>⟨by decide,?_⟩
  exact q ⟨"apart",o,t,lo,hi⟩ _ ⟨.inl rfl,by dsimp only; omega,by dsimp only; omega,by dsimp only; omega,by dsimp only; omega⟩ (fun z=>absurd (show ("apart" : Str) = "span" from z) (by decide +kernel)) f4 (S2.trans (s3.trans s4))
 ·rw [if_neg (by simpa using hr)]
  refine jbe f2 h1 h2 fun lo G3 a3 b3 f3 s3=>⟨by omega,jac f3 (by omega) (by omega) fun r4 G4 a4 b4 f4 s4=>⟨by decide,fun p G5 n5=>jac (f4.new n5) (by decide) (by decide) fun r6 G6 a6 b6 f6 s6=>?_⟩⟩
  refine jbU [0,0,1,r4] (s6 _ _ (f4.away n5).1 n5.at) a6 b6 fun z hz=>?_
  have hz':0<=z/\z<=700:=by simp only [List.mem_cons,List.not_mem_nil,or_false] at hz; omega
  have e0:0<=(gap - lo) % P:=Int.emod_nonneg _ (by omega)
  have e1:(gap - lo) % P < P:=Int.emod_lt_of_pos _ (by omega)
  simp! only []
  exact ⟨by decide,q ⟨"span",o,t,lo,lo + (gap - lo) % P + z⟩ _ ⟨.inr rfl,by dsimp only; omega,by dsimp only; omega,by dsimp only; omega,by dsimp only; omega⟩ (fun _=>by dsimp only; omega) f6 ((S2.trans (s3.trans s4)).nw n5 |>.trans s6)⟩
end

set_option maxHeartbeats 2000000
section
variable {k:Nat}{G:Gp}{Q:K1}{X:KX}
theorem jgc {f c p5:Addr}{P m:Int}{W:Nat}{ss:List Spn}{pb:Addr}{o6:Option U}{G0 G3:Gp}(s0:Sm f G G0)(n0:G0 p5=none)(hf:Fd G3 f c)(h5:p5≠f/\p5≠c)(g5:G3 p5=some (.lst (ss.map Spn.u)))(sl:ss.length<=24)(so:∀ s∈ss,s.Ok W)(w8:W<=8)(s3:Sm f G G3)
  (q:∀ (xs:List Str) (ss:List Spn) (G':Gp),xs.length=W->(∀ x∈xs,Nm x)->ss.length<=24->(∀ s∈ss,s.Ok W)->Fd G' f c->Sm f G G'->Q (jae xs ss) G') :
  jay T.gs (jab T (k + 3)) ja8 ⟨fun _ G'=>Q .non G',Q,fun x _ G'=>X x G'⟩ [some (.loc f),some (.int W),some (.int m),some (.int P),some (.loc pb),some (.loc p5),o6] G3:=by
 have fin:∀ (ss:List Spn) (G4:Gp),G4 p5=some (.lst (ss.map Spn.u))->ss.length<=24->(∀ s∈ss,s.Ok W)->Fd G4 f c->Sm f G G4->jab T (k + 3) jbx [.loc f,.int W] G4 (fun x G1=>itU (.loc p5) G1 fun xs _=>0 + 1 + 1<=sizeLine/\Q (.tup [x,.tup xs]) G1) X:=fun ss G4 g4 l4 o4 f4 s4=>by
  refine jhz f4 w8 fun xs G5 lx nx f5 s5=>?_
  rw [it_l (s5 _ _ h5.1 g4)]
  exact ⟨by decide,q xs ss _ lx nx l4 o4 f5 (s4.trans s5)⟩
 simp! only [ja8,jd5 g5,List.length_map]
 by_cases z1:(0:Int) < ss.length
 ·rw [if_pos (by simpa using z1)]
  by_cases z2:(ss.length:Int) < 24
  ·rw [if_pos (by simpa using z2)]
   refine jac hf (by decide) (by decide) fun r G4 a4 b4 f4 s4=>?_
   have g4:=s4 _ _ h5.1 g5
   simp! only []
   by_cases hr:r=0
   ·rw [if_pos (by simpa using hr)]
    simp! only [jlo g4,jd5 g4,List.length_map]
    refine jac f4 (by omega) (by omega) fun r5 G5 a5 b5 f5 s5=>?_
    have g5':=s5 _ _ h5.1 g4
    obtain ⟨x,hx⟩:∃ x,ss[0]?=some x:=⟨ss[0]'(by omega),List.getElem?_eq_getElem _⟩
    have ox:=so x (List.mem_of_getElem? hx)
    rw [ix_l g5' (show atI (ss.map Spn.u) 0=some x.u from (jbE Spn.u ss _).trans (congrArg _ (jas (j:=0) hx))),jnm g5']
    obtain ⟨j,rfl⟩:=Int.eq_ofNat_of_zero_le a5
    refine ⟨by omega,by rw [List.length_map]; omega,by rw [List.length_map]; exact Nat.lt_of_le_of_lt sl (by decide),fun G6 p6=>?_⟩
    have e:(ss.map Spn.u).take (j:Int).toNat++x.u::(ss.map Spn.u).drop (j:Int).toNat=(ss.take j++x::ss.drop j).map Spn.u:=by
     rw [Int.toNat_natCast,List.map_append,List.map_take,List.map_cons,List.map_drop]
    rw [e] at p6
    refine fin (ss.take j++x::ss.drop j) G6 p6.at ?_ (fun s hs=>?_) (f5.off h5 p6) (Sm.wr s0 n0 (s3.trans (s4.trans s5)) p6)
    ·simp; omega
    ·rcases List.mem_append.mp hs with z | z
     ·exact so s (List.mem_of_mem_take z)
     ·rcases List.mem_cons.mp z with rfl | z
      ·exact ox
      ·exact so s (List.mem_of_mem_drop z)
   ·rw [if_neg (by simpa using hr)]
    exact fin ss G4 g4 sl so f4 (s3.trans s4)
  ·rw [if_neg (by simpa using z2)]
   exact fin ss G3 g5 sl so hf s3
 ·rw [if_neg (by simpa using z1)]
  exact fin ss G3 g5 sl so hf s3
theorem jjn {f c:Addr}{P m:Int}{W:Nat}(hf:Fd G f c)(h1:1<=P)(h2:P<=600)(w0:0 < W)(w8:W<=8)(m0:0<=m)(m1:m<=24)
  (q:∀ (xs:List Str) (ss:List Spn) (G':Gp),xs.length=W->(∀ x∈xs,Nm x)->ss.length<=24->(∀ s∈ss,s.Ok W)->Fd G' f c->Sm f G G'->Q (jae xs ss) G'):jab T (k + 4) jc7 [.loc f,.int W,.int m,.int P] G Q X:=by
 refine ⟨rfl,?_⟩
 simp! only [jdd,jaj,List.replicate]
 refine ⟨by omega,by omega,by rw [jam]; exact Nat.le_trans w8 (by decide),?_⟩
 refine jan (fun i acc G'=>Fd G' f c/\Sm f G G'/\∃ bs:List Int,acc=bs.map .int/\bs.length=i) ?_ ?_ ⟨hf,Sm.refl,[],rfl,rfl⟩
 ·rintro acc G1 ⟨f1,s1,bs,rfl,hl⟩
  rw [jam] at hl
  refine ⟨trivial,fun pb G2 n2=>?_⟩
  simp! only []
  refine ⟨by decide,fun p5 G3 n3=>?_⟩
  have f2:=f1.new n2
  have hb:=f1.away n2
  have h5:=f2.away n3
  have s2:=s1.nw n2
  refine jac (f2.new n3) (by omega) (by omega) fun m' G4 a4 b4 f4 s4=>?_
  have hb5:p5≠pb:=jau n2.at n3.no
  refine ⟨by omega,by omega,?_⟩
  refine jao (fun i ς G'=>∃ (ss:List Spn) (o6:Option U),ς=[some (.loc f),some (.int W),some (.int m),some (.int P),some (.loc pb),some (.loc p5),o6]/\Fd G' f c/\Sm f G G'/\G' pb=some (.lst (bs.map .int))/\G' p5=some (.lst (ss.map Spn.u))/\ss.length=i/\∀ s∈ss,s.Ok W) ?_ ?_
   ⟨[],_,rfl,f4,(s2.nw n3).trans s4,s4 _ _ hb.1 (n3.sa _ _ n2.at),s4 _ _ h5.1 n3.at,rfl,fun _ h=>nomatch h⟩
  ·rintro ς G5 ⟨ss,o6,rfl,f5,s5,gb,g5,l5,o5⟩
   rw [jam] at l5
   exact ⟨trivial,jgc s2 n3.no f5 h5 g5 (by omega) o5 w8 s5 q⟩
  ·rintro i x ς G5 K hx ⟨ss,o6,rfl,f5,s5,gb,g5,l5,o5⟩ hk
   obtain ⟨hi,rfl⟩:=jaA hx
   refine ⟨trivial,?_⟩
   simp! only []
   have add:∀ (s:Spn) (G6:Gp),s.Ok W->Fd G6 f c->Sm f G5 G6->jaO .append (.loc p5) [s.u] G6 fun _ G1=>K [some (.loc f),some (.int W),some (.int m),some (.int P),some (.loc pb),some (.loc p5),some (.int i)] G1:=fun s G6 os f6 s6=>by
    have g6:=s6 _ _ h5.1 g5
    rw [jcg g6]
    refine ⟨by rw [List.length_map]; exact Nat.lt_of_lt_of_le (show ss.length < 25 by omega) (by decide),fun G7 p7=>?_⟩
    refine hk _ _ ⟨ss++[s],_,rfl,f6.off h5 p7,Sm.wr s2 n3.no (s5.trans s6) p7,p7.sm _ _ (Ne.symm hb5) (s6 _ _ hb.1 gb),by rw [List.map_append]; exact p7.at,by simp [l5],fun z hz=>?_⟩
    rcases List.mem_append.mp hz with z' | z'
    ·exact o5 z z'
    ·rw [List.mem_singleton.mp z']; exact os
   refine jac f5 (by decide) (by decide) fun r G6 a6 b6 f6 s6=>?_
   have g6:=s6 _ _ h5.1 g5
   simp! only []
   by_cases hr:0 < r
   ·rw [if_pos (by simpa using hr)]
    simp! only [jaH g6]
    exact jc5 f6 h1 h2 (s6 _ _ hb.1 gb) hb.1 hl w0 w8 fun s G7 os _ f7 s7=>add s G7 os f7 (s6.trans s7)
   ·rw [if_neg (by simpa using hr)]
    simp! only [jaH g6]
    exact jjl f6 h1 h2 w0 w8 fun s G7 os f7 s7=>add s G7 os f7 (s6.trans s7)
 ·rintro i x acc G1 K hx ⟨f1,s1,bs,rfl,hl⟩ hk _
  exact ⟨trivial,jac f1 (by omega) (by omega) fun r G2 a2 b2 f2 s2=>hk _ _ ⟨f2,s1.trans s2,bs++[r],by simp,by simp [hl]⟩⟩
end

set_option maxHeartbeats 1000000
inductive Con (es:List (Int×Int)):Int->Int->Prop
 | refl (x:Int):Con es x x
 | step {x a b:Int}:Con es x a->((a,b)∈es\/(b,a)∈es)->Con es x b
theorem Con.trans {es:List (Int×Int)}{x y z:Int}(h:Con es x y)(g:Con es y z):Con es x z:=by
 induction g with
 | refl=>exact h
 | step _ e ih=>exact .step ih e
theorem Con.one {es:List (Int×Int)}{a b:Int}(e:(a,b)∈es\/(b,a)∈es):Con es a b:=.step (.refl a) e
theorem Con.symm {es:List (Int×Int)}{x y:Int}(h:Con es x y):Con es y x:=by
 induction h with
 | refl=>exact .refl _
 | step _ e ih=>exact (Con.one (Or.symm e)).trans ih
theorem Con.mono {es es':List (Int×Int)}(h:∀ a b,(a,b)∈es->(a,b)∈es'\/(b,a)∈es'){x y:Int}(g:Con es x y):Con es' x y:=by
 induction g with
 | refl=>exact .refl _
 | step _ e ih=>
  rcases e with e | e
  ·exact .step ih (h _ _ e)
  ·exact .step ih (Or.symm (h _ _ e))
theorem Con.closed {es:List (Int×Int)}{S:Int->Prop}(hc:∀ a b,S a->((a,b)∈es\/(b,a)∈es)->S b){x y:Int}(h:Con es x y)(hx:S x):S y:=by
 induction h with
 | refl=>exact hx
 | step _ e ih=>exact hc _ _ ih e
noncomputable abbrev Sl:List Int->List Int->Prop:=fun a b=>HT.lexLt a b=true
theorem pw_ext {α:Type}{r:α->α->Prop}(as:∀ a b,r a b->r b a->False):∀ {l l':List α},l.Pairwise r->l'.Pairwise r->(∀ x,x∈l↔x∈l')->l=l'
 | [],[],_,_,_=>rfl
 | [],b::l',_,_,h=>absurd ((h b).mpr (by simp)) (by simp)
 | a::l,[],_,_,h=>absurd ((h a).mp (by simp)) (by simp)
 | a::l,b::l',h1,h2,h=>by
  obtain ⟨p1,p2⟩:=List.pairwise_cons.mp h1
  obtain ⟨q1,q2⟩:=List.pairwise_cons.mp h2
  have e:a=b:=by
   rcases List.mem_cons.mp ((h a).mp (by simp)) with z | z
   ·exact z
   ·rcases List.mem_cons.mp ((h b).mpr (by simp)) with y | y
    ·exact y.symm
    ·exact (as _ _ (p1 b y) (q1 a z)).elim
  subst e
  rw [pw_ext as p2 q2 fun x=>?_]
  constructor
  ·intro hx
   rcases List.mem_cons.mp ((h x).mp (List.mem_cons_of_mem _ hx)) with z | z
   ·subst z; exact (as _ _ (p1 x hx) (p1 x hx)).elim
   ·exact z
  ·intro hx
   rcases List.mem_cons.mp ((h x).mpr (List.mem_cons_of_mem _ hx)) with z | z
   ·subst z; exact (as _ _ (q1 x hx) (q1 x hx)).elim
   ·exact z
theorem jls (a b:Int)(h:a < b)(g:b < a):False:=by omega
theorem jkq (a b:List Int)(h:Sl a b)(g:Sl b a):False:=by
 have:=jhC a b a h g
 rw [jjt] at this; cases this
structure IsP (W:Nat)(es:List (Int×Int))(ps:List (List Int)):Prop where
 ne:∀ p∈ps,p≠[]
 as:∀ p∈ps,p.Pairwise (·< ·)
 bd:∀ p∈ps,∀ x∈p,0<=x/\x < W
 al:∀ x:Int,0<=x->x < W->∃ p∈ps,x∈p
 un:∀ p∈ps,∀ q∈ps,∀ x,x∈p->x∈q->p=q
 nd:ps.Nodup
 ed:∀ a b,(a,b)∈es->∃ p∈ps,a∈p/\b∈p
 co:∀ p∈ps,∀ x∈p,∀ y∈p,Con es x y
theorem IsP.part {W:Nat}{es:List (Int×Int)}{ps:List (List Int)}(h:IsP W es ps){p:List Int}(hp:p∈ps){x y:Int}(hx:x∈p)(g:Con es x y):y∈p:=by
 refine g.closed (S:=fun z=>z∈p) (fun a b ha e=>?_) hx
 rcases e with e | e
 ·obtain ⟨q,hq,h1,h2⟩:=h.ed a b e
  rw [h.un p hp q hq a ha h1]; exact h2
 ·obtain ⟨q,hq,h1,h2⟩:=h.ed b a e
  rw [h.un p hp q hq a ha h2]; exact h1
theorem IsP.uniq {W:Nat}{es es':List (Int×Int)}{ps qs:List (List Int)}(h:IsP W es ps)(g:IsP W es' qs)(h1:∀ {x y},Con es x y->Con es' x y)(h2:∀ {x y},Con es' x y->Con es x y)(s1:ps.Pairwise Sl)(s2:qs.Pairwise Sl):ps=qs:=by
 have half:∀ {es es':List (Int×Int)} {ps qs:List (List Int)},IsP W es ps->IsP W es' qs->(∀ {x y},Con es x y->Con es' x y)->(∀ {x y},Con es' x y->Con es x y)->∀ p,p∈ps->p∈qs:=fun {es es' ps qs} h g h1 h2 p hp=>by
  obtain ⟨x,r,rfl⟩:∃ x r,p=x::r:=by
   cases p with
   | nil=>exact absurd rfl (h.ne _ hp)
   | cons x r=>exact ⟨x,r,rfl⟩
  have bx:=h.bd _ hp x (by simp)
  obtain ⟨q,hq,hx⟩:=g.al x bx.1 bx.2
  have e:x::r=q:=pw_ext jls (h.as _ hp) (g.as _ hq) fun y=>⟨fun hy=>g.part hq hx (h1 (h.co _ hp x (by simp) y hy)),fun hy=>h.part hp (by simp) (h2 (g.co _ hq x hx y hy))⟩
  rw [e]; exact hq
 exact pw_ext jkq s1 s2 fun p=>⟨half h g h1 h2 p,half g h h2 h1 p⟩
theorem jg8 {α:Type}{r:α->α->Prop}(tr:∀ a b c,r a b->r b c->r a c):∀ {l:List α},(∀ i (h:i + 1 < l.length),r l[i] l[i + 1])->l.Pairwise r
 | [],_=>.nil
 | [a],_=>List.pairwise_singleton _ _
 | a::b::l,h=>by
  have ih:=jg8 tr (l:=b::l) fun i hi=>h (i + 1) (by simpa using hi)
  refine List.pairwise_cons.mpr ⟨fun x hx=>?_,ih⟩
  have h0:=h 0 (by simp)
  rcases List.mem_cons.mp hx with rfl | hx
  ·exact h0
  ·exact tr _ _ _ h0 ((List.pairwise_cons.mp ih).1 x hx)
theorem jdR {α:Type}(l:List α)(d:α){π:List Nat}(h:π.Perm (List.range l.length)):(π.map fun i=>l.getD i d).Perm l:=by
 have:=h.map fun i=>l.getD i d
 have e:(List.range l.length).map (fun i=>l.getD i d)=l:=by
  refine List.ext_getElem (by simp) fun i h1 h2=>?_
  simp [List.getD,h2]
 rw [e] at this
 exact this
section
variable {G:Gp}{Q:K1}{a:Addr}
theorem jkn {ns:List Int}(g:G a=some (.lst (ns.map .int)))(nd:ns.Nodup)(h64:ns.length < 64)(q:∀ zs:List Int,zs.Perm ns->zs.Pairwise (·< ·)->newO G (.lst (zs.map .int)) Q):jba [.loc a] G Q:=by
 unfold jba
 dsimp only
 rw [g]
 refine ⟨ns.map fun n=>[n],?_,by rw [List.length_map]; exact Nat.lt_of_lt_of_le h64 (by decide),by rw [List.length_map,List.length_map],.inl ⟨ns,rfl,rfl⟩,fun π hp hs=>?_⟩
 ·exact List.pairwise_map.mpr (nd.imp fun h z=>h (List.cons.inj z).1)
 ·rw [List.length_map] at hp hs
  have hfl:∀ i∈π,i < ns.length:=fun i hi=>List.mem_range.mp (hp.mem_iff.mp hi)
  have pl:π.length=ns.length:=by rw [hp.length_eq,List.length_range]
  have e:(π.map fun i=>(ns.map U.int).getD i .non)=(π.map fun i=>ns.getD i 0).map .int:=by
   rw [List.map_map]
   refine List.map_congr_left fun i hi=>?_
   simp [List.getD,hfl i hi]
  rw [e]
  refine q _ (jdR ns 0 hp) (jg8 (r:=fun a b:Int=>a < b) (fun _ _ _ h g=>Int.lt_trans h g) fun i hi=>?_)
  have hi:i + 1 < ns.length:=by simpa [pl] using hi
  have h1:i < π.length:=by omega
  have h2:i + 1 < π.length:=by omega
  have b1:=hfl _ (List.getElem_mem h1)
  have b2:=hfl _ (List.getElem_mem h2)
  have:=hs i hi
  rw [show π.getD i 0=π[i] by simp [List.getD,h1],show π.getD (i + 1) 0=π[i + 1] by simp [List.getD,h2]] at this
  have k1:(ns.map fun n=>[n]).getD π[i] []=[ns[π[i]]]:=by simp [List.getD,b1]
  have k2:(ns.map fun n=>[n]).getD π[i + 1] []=[ns[π[i + 1]]]:=by simp [List.getD,b2]
  rw [k1,k2] at this
  have l1:HT.lexLt [ns[π[i]]] [ns[π[i + 1]]]=decide (ns[π[i]] < ns[π[i + 1]]):=by
   rw [HT.lexLt_cons]
   split
   ·rename_i z; rw [z,HT.lexLt_nil_nil]; simp
   ·rfl
  rw [l1] at this
  simpa [List.getD,b1,b2] using of_decide_eq_true this
structure Ls (G:Gp)(p:Addr)(as:List Addr)(ks:List (List Int)):Prop where
 gp:G p=some (.lst (as.map .loc))
 l:as.length=ks.length
 ga:∀ (i:Nat) a k,as[i]?=some a->ks[i]?=some k->G a=some (.lst (k.map .int))
end

set_option maxHeartbeats 2000000
theorem atM {α:Type}{f:α->U}{l:List α}{n:Nat}{a:α}(h:l[n]?=some a):atI (l.map f) (n:Int)=some (f a):=(jbE f l _).trans (congrArg _ (jas h))
noncomputable def edg (ss:List Spn):List (Int×Int):=ss.map fun s=>((s.o:Int),(s.t:Int))
theorem jhL {G:Gp}{a:Addr}{o:MO}(g:G a=some o):G=gup G a o:=by
 funext b
 unfold gup
 split
 ·rename_i z; rw [z]; exact g
 ·rfl
theorem jaJ:∀ (W:Nat) (l:List Int),l.Nodup->(∀ x∈l,0<=x/\x < W)->l.length<=W
 | 0,l,_,h=>by
  cases l with
  | nil=>exact Nat.le_refl _
  | cons a l=>have:=h a (by simp); omega
 | W + 1,l,nd,h=>by
  have ih:=jaJ W (l.erase (W:Int)) (nd.erase _) fun x hx=>by
   obtain ⟨h1,h2⟩:=nd.mem_erase_iff.mp hx
   have:=h x h2
   omega
  by_cases hm:(W:Int)∈l
  ·rw [List.length_erase_of_mem hm] at ih; omega
  ·rw [List.erase_of_not_mem hm] at ih; omega
noncomputable def trU (e:U×U×Int):U:=.tup [e.1,e.2.1,.int e.2.2]

section
variable {k:Nat}{G:Gp}{Q:K1}{X:KX}{xs:List Str}{ss:List Spn}{W:Nat}
theorem jfE {w : Nat}(sl : ss.length <= 24)(q : ∀ (p : Addr) (tr : List (U × U × Int)) (G' : Gp), Sa G G' -> G p = none -> G' p = some (.lst (tr.map trU)) -> tr.length <= 48 -> (∀ z, (∃ e ∈ tr, e.2.2 = z) ↔ ((w : Int), z) ∈ edg ss \/ (z, (w : Int)) ∈ edg ss) -> Q (.loc p) G') : jab T (k + 1) jb9 [jae xs ss, .int w] G Q X := by
  refine ⟨rfl, ?_⟩
  simp! only [jcc, jaj, List.replicate]
  refine ⟨by decide, fun p G1 n1 => ?_⟩
  simp! only [jae, ix_t (jdE _ _ _)]
  refine jao (fun i ς G' => ∃ (tr : List (U × U × Int)) (o3 o4 o5 o6 o7 o8 : Option U), ς = [some (jae xs ss), some (.int w), some (.loc p), o3, o4, o5, o6, o7, o8] /\ G' = gup G1 p (.lst (tr.map trU)) /\ tr.length <= 2 * i /\ ∀ z, (∃ e ∈ tr, e.2.2 = z) ↔ ((w : Int), z) ∈ edg (ss.take i) \/ (z, (w : Int)) ∈ edg (ss.take i)) ?_ ?_ ⟨[], _, _, _, _, _, _, rfl, jhL n1.at, Nat.le_refl _, fun z => by simp [edg]⟩
  · rintro ς G2 ⟨tr, o3, o4, o5, o6, o7, o8, rfl, rfl, hl, hz⟩
    rw [jdz, List.length_map] at hl hz
    rw [List.take_length] at hz
    refine ⟨trivial, ?_⟩
    simp! only []
    refine q p tr _ (fun b o hb => ?_) n1.no jah (by omega) hz
    rw [jaT (fun z => by rw [z, n1.no] at hb; cases hb)]
    exact n1.sa _ _ hb
  · rintro i x ς G2 K hx ⟨tr, o3, o4, o5, o6, o7, o8, rfl, rfl, hl, hz⟩ hk
    obtain ⟨u, hu, rfl⟩ := jdA hx
    rw [List.getElem?_map] at hu
    cases es : ss[i]? with
    | none => rw [es] at hu; cases hu
    | some s =>
      rw [es] at hu
      have hu := (Option.some.inj hu).symm
      subst hu
      have il : i < 24 := Nat.lt_of_lt_of_le (List.getElem?_eq_some_iff.mp es).1 sl
      have e1 : edg (ss.take (i + 1)) = edg (ss.take i) ++ [((s.o : Int), (s.t : Int))] := by unfold edg; rw [List.take_succ, es, List.map_append]; rfl
      have mem : ∀ (tr' : List (U × U × Int)), (∀ z, (∃ e ∈ tr', e.2.2 = z) ↔ (∃ e ∈ tr, e.2.2 = z) \/ (s.t = w /\ z = s.o) \/ (s.o = w /\ z = s.t)) -> ∀ z, (∃ e ∈ tr', e.2.2 = z) ↔ ((w : Int), z) ∈ edg (ss.take (i + 1)) \/ (z, (w : Int)) ∈ edg (ss.take (i + 1)) := fun tr' h z => by
        rw [h z, hz z, e1]
        simp only [List.mem_append, List.mem_singleton, Prod.mk.injEq]
        constructor
        · rintro ((h | h) | ⟨h, rfl⟩ | ⟨h, rfl⟩)
          · exact .inl (.inl h)
          · exact .inr (.inl h)
          · exact .inr (.inr ⟨rfl, by omega⟩)
          · exact .inl (.inr ⟨by omega, rfl⟩)
        · rintro ((h | ⟨h, h'⟩) | (h | ⟨h, h'⟩))
          · exact .inl (.inl h)
          · exact .inr (.inr ⟨by omega, h'⟩)
          · exact .inl (.inr h)
          · exact .inr (.inl ⟨by omega, h⟩)
      refine ⟨trivial, ?_⟩
      simp! only [Spn.u, jaH jah, jcg jah, jbd, jbC]
      refine ⟨trivial, trivial, ?_⟩
      have second : ∀ tr' : List (U × U × Int), tr'.length <= 2 * i + 1 -> (∀ z, (∃ e ∈ tr', e.2.2 = z) ↔ (∃ e ∈ tr, e.2.2 = z) \/ (s.t = w /\ z = s.o)) -> (if decide ((s.o : Int) = (w : Int)) = true then
          0 + 1 + 1 + 1 <= sizeLine /\ (match mtU .append (.loc p) (gup G1 p (.lst (tr'.map trU))) with
            | some _ => jaO .append (.loc p) [U.tup [.int ((0 + i : Nat) : Int), .int (-1), .int s.t]] (gup G1 p (.lst (tr'.map trU))) fun _ G' => K [some (jae xs ss), some (.int w), some (.loc p), some (.int ((0 + i : Nat) : Int)), some (.str s.w), some (.int s.o), some (.int s.t), some (.int s.lo), some (.int s.hi)] G'
            | none => False)
          else K [some (jae xs ss), some (.int w), some (.loc p), some (.int ((0 + i : Nat) : Int)), some (.str s.w), some (.int s.o), some (.int s.t), some (.int s.lo), some (.int s.hi)] (gup G1 p (.lst (tr'.map trU)))) := fun tr' hl' h' => by
        by_cases c : s.o = w
        · rw [if_pos (by simp; omega), jaH jah, jcg jah, jbd, jbC]
          refine ⟨by decide, by rw [List.length_map]; exact Nat.lt_of_le_of_lt (show tr'.length <= 48 by omega) (by decide), hk _ _ ⟨tr' ++ [(.int ((0 + i : Nat) : Int), .int (-1), (s.t : Int))], _, _, _, _, _, _, rfl, by rw [List.map_append]; rfl, by simp; omega, mem _ fun z => ?_⟩⟩
          constructor
          · rintro ⟨e, he, rfl⟩
            rcases List.mem_append.mp he with he | he
            · rcases (h' _).mp ⟨e, he, rfl⟩ with g | g
              · exact .inl g
              · exact .inr (.inl g)
            · rw [List.mem_singleton.mp he]; exact .inr (.inr ⟨c, rfl⟩)
          · rintro (g | g | ⟨_, rfl⟩)
            · obtain ⟨e, he, rfl⟩ := (h' z).mpr (.inl g); exact ⟨e, List.mem_append_left _ he, rfl⟩
            · obtain ⟨e, he, rfl⟩ := (h' z).mpr (.inr g); exact ⟨e, List.mem_append_left _ he, rfl⟩
            · exact ⟨_, List.mem_append_right _ (List.mem_singleton.mpr rfl), rfl⟩
        · rw [if_neg (by simp; omega)]
          refine hk _ _ ⟨tr', _, _, _, _, _, _, rfl, rfl, by omega, mem _ fun z => ?_⟩
          rw [h' z]
          constructor
          · rintro (g | g)
            · exact .inl g
            · exact .inr (.inl g)
          · rintro (g | g | ⟨g, _⟩)
            · exact .inl g
            · exact .inr g
            · exact absurd g c
      by_cases c : s.t = w
      · rw [if_pos (by simp; omega)]
        refine ⟨by decide, by rw [List.length_map]; exact Nat.lt_of_le_of_lt (show tr.length <= 48 by omega) (by decide), ?_⟩
        have := second (tr ++ [(.int ((0 + i : Nat) : Int), .int 1, (s.o : Int))]) (by simp; omega) fun z => by
          constructor
          · rintro ⟨e, he, rfl⟩
            rcases List.mem_append.mp he with he | he
            · exact .inl ⟨e, he, rfl⟩
            · rw [List.mem_singleton.mp he]; exact .inr ⟨c, rfl⟩
          · rintro (⟨e, he, rfl⟩ | ⟨_, rfl⟩)
            · exact ⟨e, List.mem_append_left _ he, rfl⟩
            · exact ⟨_, List.mem_append_right _ (List.mem_singleton.mpr rfl), rfl⟩
        rw [jaH jah, jcg jah, jbd, jbC, List.map_append] at this
        exact this
      · rw [if_neg (by simp; omega)]
        have := second tr (by omega) fun z => by
          constructor
          · exact .inl
          · rintro (g | ⟨g, _⟩)
            · exact g
            · exact absurd g c
        rw [jaH jah, jcg jah, jbd, jbC] at this
        exact this
end

set_option maxHeartbeats 2000000
theorem jks {a:Addr}{kvs:List (Key×U)}{z:Int}{v:U}{G:Gp}{Q:Gp->Prop}(g:G a=some (.dK kvs)):setU (.loc a) (.int z) v G Q=(kvs.length < sizeLine/\putO G a (.dK (dPut kvs (.inl z) v)) Q):=by unfold setU; dsimp only; rw [g]; rfl
theorem jhg {kvs:List (Key×U)}{z:Int}{v:U}{rs:List Int}(h:kvs.map (·.1)=rs.map (fun x=>(Sum.inl x:Key)))(hz:z∉rs):(dPut kvs (.inl z) v).map (·.1)=(rs++[z]).map (fun x=>(Sum.inl x:Key)):=by
 have hn:¬ (kvs.any fun kv=>decide (kv.1=Sum.inl z))=true:=fun h'=>by
  obtain ⟨kv,hkv,e⟩:=List.any_eq_true.mp h'
  have e:=of_decide_eq_true e
  have:kv.1∈rs.map (fun x=>(Sum.inl x:Key)):=by rw [<- h]; exact List.mem_map.mpr ⟨kv,hkv,rfl⟩
  obtain ⟨x,hx,ex⟩:=List.mem_map.mp this
  rw [e] at ex
  have:=Sum.inl.inj ex
  rw [this] at hx; exact hz hx
 unfold dPut
 rw [if_neg hn,List.map_append,h,List.map_append]; rfl
theorem jea (z:Int)(l:List Int):((l.map U.int).any fun y=>eqF y (.int z))=decide (z∈l):=by
 rw [Bool.eq_iff_iff,List.any_eq_true,decide_eq_true_eq]
 constructor
 ·rintro ⟨y,hy,e⟩
  obtain ⟨x,hx,rfl⟩:=List.mem_map.mp hy
  have:x=z:=by simpa [eqF] using e
  rw [<- this]; exact hx
 ·intro h
  exact ⟨.int z,List.mem_map.mpr ⟨z,h,rfl⟩,by simp [eqF]⟩
theorem jbV (l:List Int):(l.map U.int).all flat=true:=by simp [flat]
structure Rch (W:Nat)(es:List (Int×Int))(w:Nat)(rs:List Int):Prop where
 nd:((w:Int)::rs).Nodup
 bd:∀ x∈(w:Int)::rs,0<=x/\x < W
 co:∀ x∈(w:Int)::rs,Con es w x
section
variable {k:Nat}{G:Gp}{Q:K1}{X:KX}{xs:List Str}{ss:List Spn}{W:Nat}
theorem Rch.add {es:List (Int×Int)}{w:Nat}{rs:List Int}(h:Rch W es w rs){x z:Int}(hx:x∈(w:Int)::rs)(e:(x,z)∈es\/(z,x)∈es)(hz:0<=z/\z < W)(hn:z∉(w:Int)::rs):Rch W es w (rs++[z]):=by
 have em:∀ y,y∈(w:Int)::(rs++[z])->y∈(w:Int)::rs\/y=z:=fun y hy=>by
  rw [<- List.cons_append] at hy
  rcases List.mem_append.mp hy with q | q
  ·exact .inl q
  ·exact .inr (List.mem_singleton.mp q)
 refine ⟨?_,fun y hy=>?_,fun y hy=>?_⟩
 ·rw [<- List.cons_append]
  refine List.nodup_append.mpr ⟨h.nd,by simp,fun a ha b hb=>?_⟩
  rw [List.mem_singleton.mp hb]
  exact fun z'=>hn (z' ▸ ha)
 ·rcases em y hy with q | q
  ·exact h.bd y q
  ·rw [q]; exact hz
 ·rcases em y hy with q | q
  ·exact h.co y q
  ·rw [q]; exact .step (h.co x hx) e
theorem jgm {w : Nat}{pr0 : Addr}(so : ∀ s ∈ ss, s.Ok W)(sl : ss.length <= 24)(hw : w < W)(w8 : W <= 8)(g0 : G pr0 = some (.lst [.int w]))
    (q : ∀ (pf : Addr) (kvs : List (Key × U)) (rs : List Int) (G' : Gp), Sa G G' -> G' pf = some (.dK kvs) -> kvs.map (·.1) = rs.map (fun x => (Sum.inl x : Key)) -> Rch W (edg ss) w rs -> (∀ x y, x ∈ (w : Int) :: rs -> ((x, y) ∈ edg ss \/ (y, x) ∈ edg ss) -> y ∈ (w : Int) :: rs) -> Q (.loc pf) G') :
    jab T (k + 2) jbQ [jae xs ss, .loc pr0] G Q X := by
  have ebd : ∀ a b, (a, b) ∈ edg ss -> (0 <= a /\ a < W) /\ 0 <= b /\ b < W := fun a b h => by
    obtain ⟨s, hs, e⟩ := List.mem_map.mp h
    have o := so s hs
    have o1 := o.o
    have o2 := o.t
    obtain ⟨e1, e2⟩ := Prod.mk.inj e
    omega
  refine ⟨rfl, ?_⟩
  simp! only [jbY, jaj, List.replicate]
  refine ⟨by decide, fun pf G1 n1 => ?_⟩
  simp! only [it_l (n1.sa _ _ g0)]
  intro pr G2 n2
  simp! only [ja9]
  have hfr : pf ≠ pr := Ne.symm (jau n1.at n2.no)
  have frame : ∀ {Ga Gb : Gp} {p : Addr} {o : MO}, (p = pf \/ p = pr) -> Sa G Ga -> Put Ga p o Gb -> Sa G Gb := fun {Ga Gb p o} hp s w b u e => w.sm _ _ (fun z => by
    rcases hp with rfl | rfl
    · rw [z, n1.no] at e; cases e
    · rw [z] at e
      have := n1.sa _ _ e
      rw [n2.no] at this; cases this) (s b u e)
  rw [S_wh]
  refine ⟨fun n ς G' => ∃ (kvs : List (Key × U)) (rs : List Int) (i : Nat) (o5 o6 o7 : Option U), ς = [some (jae xs ss), some (.loc pr0), some (.loc pf), some (.loc pr), some (.int i), o5, o6, o7] /\ n = W - i /\ Sa G G' /\ G' pf = some (.dK kvs) /\ kvs.map (·.1) = rs.map (fun x => (Sum.inl x : Key)) /\ G' pr = some (.lst (((w : Int) :: rs).map .int)) /\ Rch W (edg ss) w rs /\ i <= rs.length + 1 /\
      ∀ j x y, j < i -> ((w : Int) :: rs)[j]? = some x -> ((x, y) ∈ edg ss \/ (y, x) ∈ edg ss) -> y ∈ (w : Int) :: rs, ⟨_, [], [], 0, _, _, _, rfl, rfl, n1.sa.trans n2.sa, n2.sa _ _ n1.at, rfl, n2.at, ⟨by simp, fun x hx => ?_, fun x hx => ?_⟩, by simp, fun j x y h => by omega⟩, ?_⟩
  · rw [List.mem_singleton.mp hx]; omega
  · rw [List.mem_singleton.mp hx]; exact .refl _
  rintro n ς G3 ⟨kvs, rs, i, o5, o6, o7, rfl, rfl, s3, gf, hk, gr, rc, il, cl⟩
  have rl := jaJ W _ rc.nd rc.bd
  simp only [List.length_cons] at rl
  simp! only [jd5 gr, List.length_map]
  by_cases c : (i : Int) < ((rs.length + 1 : Nat) : Int)
  · rw [if_pos (by simpa using c)]
    have hi : i < ((w : Int) :: rs).length := by simp; omega
    obtain ⟨x, hx⟩ : ∃ x, ((w : Int) :: rs)[i]? = some x := ⟨_, List.getElem?_eq_getElem hi⟩
    have bx := rc.bd x (List.mem_of_getElem? hx)
    obtain ⟨xn, rfl⟩ := Int.eq_ofNat_of_zero_le bx.1
    rw [ix_l gr (show atI (((w : Int) :: rs).map U.int) (i : Int) = some (.int (xn : Int)) from atM hx)]
    refine jfE sl fun pe tr G4 s4 ne g4 tl tm => ?_
    rw [it_l g4]
    have hpe1 : pe ≠ pf := fun z => by rw [z, gf] at ne; cases ne
    have hpe2 : pe ≠ pr := fun z => by rw [z, gr] at ne; cases ne
    refine jao (fun j ς G' => ∃ (kvs : List (Key × U)) (rs' : List Int) (o5 o6 o7 : Option U), ς = [some (jae xs ss), some (.loc pr0), some (.loc pf), some (.loc pr), some (.int i), o5, o6, o7] /\ Sa G G' /\ G' pe = some (.lst (tr.map trU)) /\ G' pf = some (.dK kvs) /\ kvs.map (·.1) = rs'.map (fun x => (Sum.inl x : Key)) /\ G' pr = some (.lst (((w : Int) :: rs').map .int)) /\ Rch W (edg ss) w rs' /\ (∃ ext, rs' = rs ++ ext) /\ ∀ e ∈ tr.take j, e.2.2 ∈ (w : Int) :: rs')
      ?_ ?_ ⟨kvs, rs, _, _, _, rfl, s3.trans s4, g4, s4 _ _ gf, hk, s4 _ _ gr, rc, ⟨[], by simp⟩, fun e he => by simp at he⟩
    · rintro ς G5 ⟨kvs', rs', o5, o6, o7, rfl, s5, ge, gf', hk', gr', rc', ⟨ext, hext⟩, hm⟩
      rw [List.length_map, List.take_length] at hm
      refine ⟨by unfold lsG; rw [ge], ?_⟩
      simp! only []
      have rl' := jaJ W _ rc'.nd rc'.bd
      simp only [List.length_cons] at rl'
      have ll : rs'.length = rs.length + ext.length := by rw [hext, List.length_append]
      refine ⟨W - (i + 1), by omega, kvs', rs', i + 1, _, _, _, rfl, rfl, s5, gf', hk', gr', rc', by omega, fun j x' y hj hx' e => ?_⟩
      have pre : ((w : Int) :: rs')[j]? = ((w : Int) :: rs)[j]? := by
        rw [hext, <- List.cons_append, List.getElem?_append_left (by simp; omega)]
      rw [pre] at hx'
      by_cases ej : j = i
      · subst ej
        rw [hx] at hx'
        cases hx'
        obtain ⟨e', he', rfl⟩ := (tm y).mpr e
        exact hm e' he'
      · have := cl j x' y (by omega) hx' e
        rw [hext, <- List.cons_append]
        exact List.mem_append_left _ this
    · rintro j u ς G5 K hu ⟨kvs', rs', o5, o6, o7, rfl, s5, ge, gf', hk', gr', rc', ⟨ext, hext⟩, hm⟩ hk2
      rw [List.getElem?_map] at hu
      cases et : tr[j]? with
      | none => rw [et] at hu; cases hu
      | some e =>
        rw [et] at hu
        have hu := (Option.some.inj hu).symm
        subst hu
        refine ⟨by unfold lsG; rw [ge], ?_⟩
        have ez := (tm e.2.2).mp ⟨e, List.mem_of_getElem? et, rfl⟩
        have rl' := jaJ W _ rc'.nd rc'.bd
        simp only [List.length_cons] at rl'
        have hx' : (xn : Int) ∈ (w : Int) :: rs' := by
          rw [hext, <- List.cons_append]
          exact List.mem_append_left _ (List.mem_of_getElem? hx)
        simp! only [trU]
        refine ⟨trivial, in_l gr' rfl (jbV _) ?_⟩
        rw [jea]
        by_cases cz : e.2.2 ∈ (w : Int) :: rs'
        · rw [if_neg (by rw [decide_eq_true cz]; decide)]
          refine hk2 _ _ ⟨kvs', rs', _, _, _, rfl, s5, ge, gf', hk', gr', rc', ⟨ext, hext⟩, fun e' he' => ?_⟩
          rw [List.take_succ, et] at he'
          rcases List.mem_append.mp he' with z | z
          · exact hm e' z
          · rw [List.mem_singleton.mp z]; exact cz
        · rw [if_pos (by rw [decide_eq_false cz]; decide), jks gf']
          have kl : kvs'.length = rs'.length := by simpa using congrArg List.length hk'
          refine ⟨by decide, Nat.lt_of_le_of_lt (show kvs'.length <= 8 by omega) (by decide), fun G6 p6 => ?_⟩
          have gr6 := p6.sm _ _ (Ne.symm hfr) gr'
          simp! only [jaH gr6, jcg gr6]
          refine ⟨Nat.lt_of_le_of_lt (show _ <= 9 by simp; omega) (by decide), fun G7 p7 => ?_⟩
          have bz : 0 <= e.2.2 /\ e.2.2 < (W : Int) := by
            rcases ez with z | z
            · exact (ebd _ _ z).2
            · exact (ebd _ _ z).1
          refine hk2 _ _ ⟨_, rs' ++ [e.2.2], _, _, _, rfl, frame (.inr rfl) (frame (.inl rfl) s5 p6) p7, p7.sm _ _ hpe2 (p6.sm _ _ hpe1 ge), p7.sm _ _ hfr p6.at, jhg hk' (fun z => cz (List.mem_cons_of_mem _ z)), ?_, rc'.add hx' ez bz cz, ⟨ext ++ [e.2.2], by rw [hext, List.append_assoc]⟩, fun e' he' => ?_⟩
          · have := p7.at
            rw [this]; simp
          · rw [List.take_succ, et] at he'
            rw [<- List.cons_append]
            rcases List.mem_append.mp he' with z | z
            · exact List.mem_append_left _ (hm e' z)
            · rw [List.mem_singleton.mp z]; exact List.mem_append_right _ (List.mem_singleton.mpr rfl)
  · rw [if_neg (by simpa using c)]
    refine q pf kvs rs G3 s3 gf hk rc fun x y hx e => ?_
    obtain ⟨j, hj, ej⟩ := List.getElem_of_mem hx
    refine cl j x y ?_ (by rw [List.getElem?_eq_getElem hj, ej]) e
    simp at hj
    omega
end

set_option maxHeartbeats 2000000
theorem jid {a:Addr}{xs:List U}{G:Gp}(g:G a=some (.lst xs)):mtU .extend (.loc a) G=some ("list", "list.extend"):=by unfold mtU; dsimp only; rw [g]
theorem jlL {a b:Addr}{xs ys:List U}{G:Gp}{Q:K1}(g:G a=some (.lst xs))(g':G b=some (.lst ys)):jaO .extend (.loc a) [.loc b] G Q=(xs.length + ys.length<=sizeLine/\putO G a (.lst (xs++ys)) (Q .non)):=by unfold jaO jeF; dsimp only; rw [g,g']
theorem jnf {a:Addr}{kvs:List (Key×U)}{ns:List Int}{G:Gp}{Q:K1}(g:G a=some (.dK kvs))(h:kvs.map (·.1)=ns.map (fun z=>(Sum.inl z:Key)))(q:newO G (.lst (ns.map .int)) Q):mkDU (.loc a) G Q:=by unfold mkDU; dsimp only; rw [g]; exact ⟨ns,h,q⟩
noncomputable def jge (ps:List (List Int)):U:=.tup (ps.map jaf)
structure Pp (W:Nat)(es:List (Int×Int))(i:Nat)(ps:List (List Int))(pl:List Int):Prop where
 hd:∀ p∈ps,∃ h r,p=h::r/\h < (i:Int)
 as:∀ p∈ps,p.Pairwise (·< ·)
 bd:∀ p∈ps,∀ x∈p,0<=x/\x < W
 co:∀ p∈ps,∀ x∈p,∀ y∈p,Con es x y
 cl:∀ p∈ps,∀ x∈p,∀ y,Con es x y->y∈p
 so:ps.Pairwise Sl
 me:∀ x,x∈pl↔∃ p∈ps,x∈p
 up:∀ x:Int,0<=x->x < i->x∈pl
 l1:ps.length<=i
 l2:pl.length<=8 * i
section
variable {W:Nat}{es:List (Int×Int)}
theorem Pp.nil:Pp W es 0 [] []:=⟨fun _ h=>(nomatch h),fun _ h=>(nomatch h),fun _ h=>(nomatch h),fun _ h=>(nomatch h),fun _ h=>(nomatch h),.nil,fun x=>by simp,fun x h1 h2=>by omega,Nat.le_refl _,Nat.le_refl _⟩
theorem Pp.skip {i:Nat}{ps:List (List Int)}{pl:List Int}(h:Pp W es i ps pl)(hi:(i:Int)∈pl):Pp W es (i + 1) ps pl:=by
 refine ⟨fun p hp=>?_,h.as,h.bd,h.co,h.cl,h.so,h.me,fun x h1 h2=>?_,by have:=h.l1; omega,by have:=h.l2; omega⟩
 ·obtain ⟨a,r,e,l⟩:=h.hd p hp
  exact ⟨a,r,e,by omega⟩
 ·by_cases e:x=i
  ·rw [e]; exact hi
  ·exact h.up x h1 (by omega)
theorem Pp.add {i:Nat}{ps:List (List Int)}{pl:List Int}(h:Pp W es i ps pl)(hi:(i:Int)∉pl)(w8:W<=8){rs zs:List Int}(rc:Rch W es i rs)(cl:∀ x y,x∈(i:Int)::rs->((x,y)∈es\/(y,x)∈es)->y∈(i:Int)::rs)
  (hp:zs.Perm ((i:Int)::rs)) (hs:zs.Pairwise (·< ·)):Pp W es (i + 1) (ps++[zs]) (pl++zs):=by
 have mz:∀ y,y∈zs↔y∈(i:Int)::rs:=fun y=>hp.mem_iff
 have zc:∀ x∈zs,∀ y,Con es x y->y∈zs:=fun x hx y g=>(mz y).mpr (g.closed (S:=fun z=>z∈(i:Int)::rs) (fun a b ha e=>cl a b ha e) ((mz x).mp hx))
 have iz:(i:Int)∈zs:=(mz _).mpr (by simp)
 have low:∀ y∈zs,(i:Int)<=y:=fun y hy=>by
  by_cases c:(i:Int)<=y
  ·exact c
  ·have by0:=rc.bd y ((mz y).mp hy)
   obtain ⟨p,hp',hyp⟩:=(h.me y).mp (h.up y by0.1 (by omega))
   exact absurd ((h.me _).mpr ⟨p,hp',h.cl p hp' y hyp i (rc.co y ((mz y).mp hy)).symm⟩) hi
 obtain ⟨r,ez⟩:∃ r,zs=(i:Int)::r:=by
  cases zs with
  | nil=>cases iz
  | cons a r=>
   refine ⟨r,?_⟩
   rcases List.mem_cons.mp iz with z | z
   ·rw [z]
   ·have:=(List.pairwise_cons.mp hs).1 _ z
    have:=low a (by simp)
    omega
 have lz:zs.length<=8:=by
  rw [hp.length_eq]
  exact Nat.le_trans (jaJ W _ rc.nd rc.bd) w8
 have one:∀ {P:List Int->Prop},(∀ p∈ps,P p)->P zs->∀ p∈ps++[zs],P p:=fun {P} h1 h2 p hp=>by
  rcases List.mem_append.mp hp with z | z
  ·exact h1 p z
  ·rw [List.mem_singleton.mp z]; exact h2
 refine ⟨one (fun p hp=>?_) ⟨_,r,ez,by omega⟩,one h.as hs,one h.bd fun x hx=>rc.bd x ((mz x).mp hx),one h.co fun x hx y hy=>(rc.co x ((mz x).mp hx)).symm.trans (rc.co y ((mz y).mp hy)),one h.cl zc,?_,fun x=>?_,fun x h1 h2=>?_,by have:=h.l1; simp; omega,by have:=h.l2; simp; omega⟩
 ·obtain ⟨a,r,e,l⟩:=h.hd p hp
  exact ⟨a,r,e,by omega⟩
 ·refine List.pairwise_append.mpr ⟨h.so,List.pairwise_singleton _ _,fun p hp z hz=>?_⟩
  rw [List.mem_singleton.mp hz,ez]
  obtain ⟨a,r',e,l⟩:=h.hd p hp
  rw [e]
  show HT.lexLt _ _=true
  rw [HT.lexLt_cons,if_neg (by omega)]
  exact decide_eq_true l
 ·rw [List.mem_append,h.me x]
  constructor
  ·rintro (⟨p,hp,hx⟩ | hx)
   ·exact ⟨p,List.mem_append_left _ hp,hx⟩
   ·exact ⟨zs,List.mem_append_right _ (List.mem_singleton.mpr rfl),hx⟩
  ·rintro ⟨p,hp,hx⟩
   rcases List.mem_append.mp hp with z | z
   ·exact .inl ⟨p,z,hx⟩
   ·rw [List.mem_singleton.mp z] at hx; exact .inr hx
 ·by_cases e:x=i
  ·rw [e]; exact List.mem_append_right _ iz
  ·exact List.mem_append_left _ (h.up x h1 (by omega))
theorem Pp.isP {ps:List (List Int)}{pl:List Int}(h:Pp W es W ps pl)(ebd:∀ a b,(a,b)∈es->0<=a/\a < W):IsP W es ps:=by
 refine ⟨fun p hp=>?_,h.as,h.bd,fun x h1 h2=>(h.me x).mp (h.up x h1 h2),fun p hp q hq x h1 h2=>?_,?_,fun a b e=>?_,h.co⟩
 ·obtain ⟨a,r,e,_⟩:=h.hd p hp
  rw [e]; simp
 ·exact pw_ext jls (h.as p hp) (h.as q hq) fun y=>⟨fun hy=>h.cl q hq x h2 y (h.co p hp x h1 y hy),fun hy=>h.cl p hp x h1 y (h.co q hq x h2 y hy)⟩
 ·exact h.so.imp fun {a b} g e=>by rw [e] at g; exact jkq _ _ g g
 ·have b0:=ebd a b e
  obtain ⟨p,hp,ha⟩:=(h.me a).mp (h.up a b0.1 b0.2)
  exact ⟨p,hp,ha,h.cl p hp a ha b (Con.one (.inl e))⟩
end
section
variable {k:Nat}{G:Gp}{Q:K1}{X:KX}{xs:List Str}{ss:List Spn}
theorem jlP {W:Nat}(so:∀ s∈ss,s.Ok W):∀ a b,(a,b)∈edg ss->(0<=a/\a < W)/\0<=b/\b < W:=fun a b h=>by
 obtain ⟨s,hs,e⟩:=List.mem_map.mp h
 have o:=so s hs
 have o1:=o.o
 have o2:=o.t
 obtain ⟨e1,e2⟩:=Prod.mk.inj e
 omega
theorem jcx (so:∀ s∈ss,s.Ok xs.length)(sl:ss.length<=24)(w8:xs.length<=8)(q:∀ (ps:List (List Int)) (G':Gp),IsP xs.length (edg ss) ps->ps.Pairwise Sl->ps.length<=8->Sa G G'->Q (jge ps) G'):jab T (k + 3) jb5 [jae xs ss] G Q X:=by
 refine ⟨rfl,?_⟩
 simp! only [jdb,jaj,List.replicate]
 refine ⟨by decide,fun pp G1 n1=>?_⟩
 simp! only []
 refine ⟨by decide,fun pl G2 n2=>?_⟩
 have hne:pl≠pp:=jau n1.at n2.no
 have frame:∀ {Ga Gb:Gp} {p:Addr} {o:MO},(p=pp\/p=pl)->Sa G Ga->Put Ga p o Gb->Sa G Gb:=fun {Ga Gb p o} hp s w b u e=>w.sm _ _ (fun z=>by
  rcases hp with rfl | rfl
  ·rw [z,n1.no] at e; cases e
  ·rw [z] at e
   have:=n1.sa _ _ e
   rw [n2.no] at this; cases this) (s b u e)
 simp! only [jb7,jae,ix_t (jbZ _ _),List.length_map]
 refine ⟨by omega,by omega,?_⟩
 refine jao (fun i ς G'=>∃ (ps:List (List Int)) (ls:List Int) (o3 o4:Option U),ς=[some (jae xs ss),some (.loc pp),some (.loc pl),o3,o4]/\Sa G G'/\G' pp=some (.lst (ps.map jaf))/\G' pl=some (.lst (ls.map .int))/\Pp xs.length (edg ss) i ps ls) ?_ ?_ ⟨[],[],_,_,rfl,n1.sa.trans n2.sa,n2.sa _ _ n1.at,n2.at,Pp.nil⟩
 ·rintro ς G3 ⟨ps,ls,o3,o4,rfl,s3,gp,gl,h⟩
  rw [jam] at h
  refine ⟨trivial,?_⟩
  simp! only [it_l gp]
  exact q ps _ (h.isP fun a b e=>(jlP so a b e).1) h.so (by have:=h.l1; omega) s3
 ·rintro i x ς G3 K hx ⟨ps,ls,o3,o4,rfl,s3,gp,gl,h⟩ hk
  obtain ⟨hi,rfl⟩:=jaA hx
  refine ⟨trivial,?_⟩
  simp! only []
  refine in_l gl rfl (jbV _) ?_
  rw [jea]
  by_cases c:(i:Int)∈ls
  ·rw [if_neg (by rw [decide_eq_true c]; decide)]
   exact hk _ _ ⟨ps,ls,_,_,rfl,s3,gp,gl,h.skip c⟩
  ·rw [if_pos (by rw [decide_eq_false c]; decide)]
   refine ⟨by decide,fun p4 G4 n4=>⟨by decide,fun p5 G5 n5=>?_⟩⟩
   refine jgm so sl hi w8 n5.at fun pf kvs rs G6 s6 gf hkv rc cl=>?_
   refine jnf gf hkv fun p7 G7 n7=>?_
   have g4:=n7.sa _ _ (s6 _ _ (n5.sa _ _ n4.at))
   have rl:=jaJ _ _ rc.nd rc.bd
   simp only [List.length_cons] at rl
   refine ⟨_,_,g4,n7.at,Nat.le_trans (show _<=9 by simp; omega) (by decide),fun p8 G8 n8=>?_⟩
   have e8:[U.int (i:Int)]++rs.map .int=((i:Int)::rs).map .int:=rfl
   rw [e8] at n8
   simp! only []
   refine jkn n8.at rc.nd (by simp; omega) fun zs hp hs p9 G9 n9=>?_
   have s8:Sa G3 G8:=(((n4.sa.trans n5.sa).trans s6).trans n7.sa).trans n8.sa
   have s9:Sa G3 G9:=s8.trans n9.sa
   have q1:p9≠pl:=jau (s8 _ _ gl) n9.no
   have q2:p9≠pp:=jau (s8 _ _ gp) n9.no
   have gp9:=s9 _ _ gp
   have gl9:=s9 _ _ gl
   have h':=h.add c w8 rc cl hp hs
   have lz:zs.length<=8:=by rw [hp.length_eq]; simp; omega
   have l2:=h.l2
   have l1:=h.l1
   simp! only [jid gl9,jlL gl9 n9.at]
   refine ⟨Nat.le_trans (show _<=100 by simp; omega) (by decide),fun Ga pa=>?_⟩
   have gpa:=pa.sm _ _ (Ne.symm hne) gp9
   have g9a:=pa.sm _ _ q1 n9.at
   simp! only [jaH gpa,it_l g9a,jcg gpa]
   refine ⟨by rw [List.length_map]; exact Nat.lt_of_le_of_lt (show ps.length<=8 by omega) (by decide),fun Gb pb=>?_⟩
   refine hk _ _ ⟨ps++[zs],ls++zs,_,_,rfl,frame (.inl rfl) (frame (.inr rfl) (s3.trans s9) pa) pb,?_,?_,h'⟩
   ·rw [List.map_append]; exact pb.at
   ·rw [List.map_append]; exact pb.sm _ _ hne pa.at
end

set_option maxHeartbeats 2000000
noncomputable def hit (o t:Int)(k:List Int):Bool:=decide (o∈k) || decide (t∈k)
theorem jbj {o t:Int}{k:List Int}:hit o t k=true↔o∈k\/t∈k:=by unfold hit; simp
section
variable {W:Nat}{es:List (Int×Int)}{ks:List (List Int)}
theorem IsP.perm {ks':List (List Int)}(h:IsP W es ks)(p:ks'.Perm ks):IsP W es ks':=by
 have m:∀ k,k∈ks'↔k∈ks:=fun k=>p.mem_iff
 refine ⟨fun k hk=>h.ne k ((m k).mp hk),fun k hk=>h.as k ((m k).mp hk),fun k hk=>h.bd k ((m k).mp hk),fun x h1 h2=>?_,fun k hk q hq=>h.un k ((m k).mp hk) q ((m q).mp hq),p.nodup_iff.mpr h.nd,fun a b e=>?_,fun k hk=>h.co k ((m k).mp hk)⟩
 ·obtain ⟨k,hk,hx⟩:=h.al x h1 h2
  exact ⟨k,(m k).mpr hk,hx⟩
 ·obtain ⟨k,hk,hx⟩:=h.ed a b e
  exact ⟨k,(m k).mpr hk,hx⟩
theorem IsP.zero:IsP W [] ((List.range W).map fun (i:Nat)=>[(i:Int)]):=by
 have m:∀ k,k∈(List.range W).map (fun (i:Nat)=>[(i:Int)])↔∃ i:Nat,i < W/\k=[(i:Int)]:=fun k=>by
  rw [List.mem_map]
  constructor
  ·rintro ⟨i,hi,rfl⟩; exact ⟨i,List.mem_range.mp hi,rfl⟩
  ·rintro ⟨i,hi,rfl⟩; exact ⟨i,List.mem_range.mpr hi,rfl⟩
 refine ⟨fun k hk=>?_,fun k hk=>?_,fun k hk x hx=>?_,fun x h1 h2=>?_,fun k hk q hq x h1 h2=>?_,?_,fun _ _ h=>(nomatch h),fun k hk x hx y hy=>?_⟩
 ·obtain ⟨i,_,rfl⟩:=(m k).mp hk; simp
 ·obtain ⟨i,_,rfl⟩:=(m k).mp hk; exact List.pairwise_singleton _ _
 ·obtain ⟨i,hi,rfl⟩:=(m k).mp hk
  rw [List.mem_singleton.mp hx]; omega
 ·obtain ⟨n,rfl⟩:=Int.eq_ofNat_of_zero_le h1
  exact ⟨[(n:Int)],(m _).mpr ⟨n,by omega,rfl⟩,by simp⟩
 ·obtain ⟨i,_,rfl⟩:=(m k).mp hk
  obtain ⟨j,_,rfl⟩:=(m q).mp hq
  rw [<- List.mem_singleton.mp h1,<- List.mem_singleton.mp h2]
 ·refine List.pairwise_map.mpr (List.nodup_range.imp fun {a b} h e=>h ?_)
  have:=(List.cons.inj e).1
  omega
 ·obtain ⟨i,_,rfl⟩:=(m k).mp hk
  rw [List.mem_singleton.mp hx,List.mem_singleton.mp hy]; exact .refl _
theorem IsP.flat (h:IsP W es ks){o t:Int}:(ks.filter (hit o t)).flatten.Nodup/\∀ x∈(ks.filter (hit o t)).flatten,0<=x/\x < W:=by
 refine ⟨List.pairwise_flatten.mpr ⟨fun l hl=>(h.as l (List.mem_filter.mp hl).1).imp fun {a b} g e=>by omega,?_⟩,fun x hx=>?_⟩
 ·refine (h.nd.sublist List.filter_sublist).imp_of_mem fun {a b} ha hb hne x hx y hy e=>hne ?_
  exact h.un a (List.mem_filter.mp ha).1 b (List.mem_filter.mp hb).1 x hx (e ▸ hy)
 ·obtain ⟨l,hl,hx⟩:=List.mem_flatten.mp hx
  exact h.bd l (List.mem_filter.mp hl).1 x hx
theorem IsP.step (h : IsP W es ks){o t : Int}(ho : 0 <= o /\ o < W)(ht : 0 <= t /\ t < W){zs : List Int}(hp : zs.Perm (ks.filter (hit o t)).flatten)(hs : zs.Pairwise (· < ·)) : IsP W (es ++ [(o, t)]) (ks.filter (fun k => !hit o t k) ++ [zs]) := by
  have mz : ∀ x, x ∈ zs ↔ ∃ k ∈ ks, hit o t k = true /\ x ∈ k := fun x => by
    rw [hp.mem_iff, List.mem_flatten]
    constructor
    · rintro ⟨l, hl, hx⟩; exact ⟨l, (List.mem_filter.mp hl).1, (List.mem_filter.mp hl).2, hx⟩
    · rintro ⟨l, h1, h2, hx⟩; exact ⟨l, List.mem_filter.mpr ⟨h1, h2⟩, hx⟩
  have mf : ∀ k, k ∈ ks.filter (fun k => !hit o t k) ↔ k ∈ ks /\ ¬ hit o t k = true := fun k => by rw [List.mem_filter]; simp
  obtain ⟨ko, hko, oko⟩ := h.al o ho.1 ho.2
  obtain ⟨kt, hkt, tkt⟩ := h.al t ht.1 ht.2
  have oz : o ∈ zs := (mz o).mpr ⟨ko, hko, jbj.mpr (.inl oko), oko⟩
  have tz : t ∈ zs := (mz t).mpr ⟨kt, hkt, jbj.mpr (.inr tkt), tkt⟩
  have up : ∀ {x y}, Con es x y -> Con (es ++ [(o, t)]) x y := fun g => g.mono fun a b e => .inl (List.mem_append_left _ e)
  have ot : Con (es ++ [(o, t)]) o t := Con.one (.inl (List.mem_append_right _ (List.mem_singleton.mpr rfl)))
  have zo : ∀ x ∈ zs, Con (es ++ [(o, t)]) o x := fun x hx => by
    obtain ⟨k, hk, hh, hxk⟩ := (mz x).mp hx
    rcases jbj.mp hh with z | z
    · exact up (h.co k hk o z x hxk)
    · exact ot.trans (up (h.co k hk t z x hxk))
  have one : ∀ {P : List Int -> Prop}, (∀ k ∈ ks, ¬ hit o t k = true -> P k) -> P zs -> ∀ p ∈ ks.filter (fun k => !hit o t k) ++ [zs], P p := fun {P} h1 h2 p hp => by
    rcases List.mem_append.mp hp with z | z
    · exact h1 p ((mf p).mp z).1 ((mf p).mp z).2
    · rw [List.mem_singleton.mp z]; exact h2
  have put : ∀ {k : List Int}, k ∈ ks -> ∀ {P : List Int -> Prop}, P k -> (hit o t k = true -> P zs) -> ∃ p ∈ ks.filter (fun k => !hit o t k) ++ [zs], P p := fun {k} hk {P} h1 h2 => by
    by_cases c : hit o t k = true
    · exact ⟨zs, List.mem_append_right _ (List.mem_singleton.mpr rfl), h2 c⟩
    · exact ⟨k, List.mem_append_left _ ((mf k).mpr ⟨hk, c⟩), h1⟩
  refine ⟨one (fun k hk _ => h.ne k hk) (fun z => by rw [z] at oz; cases oz), one (fun k hk _ => h.as k hk) hs, one (fun k hk _ => h.bd k hk) fun x hx => ?_, fun x h1 h2 => ?_, ?_, ?_, fun a b e => ?_, one (fun k hk _ x hx y hy => up (h.co k hk x hx y hy)) fun x hx y hy => (zo x hx).symm.trans (zo y hy)⟩
  · obtain ⟨k, hk, _, hxk⟩ := (mz x).mp hx
    exact h.bd k hk x hxk
  · obtain ⟨k, hk, hx⟩ := h.al x h1 h2
    exact put hk (P := fun p => x ∈ p) hx fun c => (mz x).mpr ⟨k, hk, c, hx⟩
  · have no : ∀ k ∈ ks, ¬ hit o t k = true -> ∀ x, x ∈ k -> x ∈ zs -> False := fun k hk c x hx hz => by
      obtain ⟨k', hk', c', hx'⟩ := (mz x).mp hz
      rw [h.un k hk k' hk' x hx hx'] at c
      exact c c'
    refine one (fun k hk c => one (fun q hq _ x h1 h2 => h.un k hk q hq x h1 h2) fun x h1 h2 => (no k hk c x h1 h2).elim) (one (fun q hq c x h1 h2 => (no q hq c x h2 h1).elim) fun _ _ _ => rfl)
  · refine List.nodup_append.mpr ⟨h.nd.sublist List.filter_sublist, by simp, fun a ha b hb e => ?_⟩
    rw [List.mem_singleton.mp hb] at e
    rw [e] at ha
    exact ((mf zs).mp ha).2 (jbj.mpr (.inl oz))
  · rcases List.mem_append.mp e with e | e
    · obtain ⟨k, hk, ha, hb⟩ := h.ed a b e
      exact put hk (P := fun p => a ∈ p /\ b ∈ p) ⟨ha, hb⟩ fun c => ⟨(mz a).mpr ⟨k, hk, c, ha⟩, (mz b).mpr ⟨k, hk, c, hb⟩⟩
    · have e := List.mem_singleton.mp e
      obtain ⟨rfl, rfl⟩ := Prod.mk.inj e
      exact ⟨zs, List.mem_append_right _ (List.mem_singleton.mpr rfl), oz, tz⟩
theorem IsP.fewer (h:IsP W es ks){o t:Int}(ho:0<=o/\o < W):(ks.filter (fun k=>!hit o t k)).length < ks.length:=by
 obtain ⟨ko,hko,oko⟩:=h.al o ho.1 ho.2
 have:=jbj (t:=t) |>.mpr (.inl oko)
 exact List.length_filter_lt_length_iff_exists.mpr ⟨ko,hko,by simp [this]⟩
end
structure Lq (G:Gp)(p:Addr)(el:List (Addr×List Int)):Prop where
 gp:G p=some (.lst (el.map fun e=>.loc e.1))
 ga:∀ e∈el,G e.1=some (.lst (e.2.map .int))
theorem Lq.sa {G G':Gp}{p:Addr}{el:List (Addr×List Int)}(h:Lq G p el)(s:Sa G G'):Lq G' p el:=⟨s _ _ h.gp,fun e he=>s _ _ (h.ga e he)⟩
theorem Lq.ls {G:Gp}{p:Addr}{el:List (Addr×List Int)}(h:Lq G p el):Ls G p (el.map (·.1)) (el.map (·.2)):=by
 refine ⟨by rw [h.gp,List.map_map]; rfl,by simp,fun i a k e1 e2=>?_⟩
 rw [List.getElem?_map] at e1 e2
 cases e:el[i]? with
 | none=>rw [e] at e1; cases e1
 | some x=>
  rw [e] at e1 e2
  cases e1; cases e2
  exact h.ga x (List.mem_of_getElem? e)
theorem jcI {G:Gp}:∀ l:List Int,DUs G (l.map .int) (l.map .int)
 | []=>.nil
 | _::r=>.cons (.int _) (jcI r)
theorem jdM (l:List Int):Small (.list (l.map .int)):=⟨(jbi l).1,by show PyData.depthAll (l.map .int) + 1<=100; rw [(jbi l).2.1]; decide⟩
theorem jjK {G : Gp}{b p : Addr}{kx : List Int}{el : List (Addr × List Int)}{k : Bool -> Prop}(gb : G b = some (.lst (kx.map .int)))(h : Lq G p el)(q : k (decide (kx ∈ el.map (·.2)))) : inU (.loc b) (.loc p) G k := by
  unfold inU
  dsimp only
  rw [h.gp]
  refine .inr ⟨.list (kx.map .int), el.map fun e => .list (e.2.map .int), .lst (by unfold lsG; rw [gb]) (jcI _), ?_, jdM kx, fun e he => ?_, ?_⟩
  · have ga := h.ga
    clear h q
    induction el with
    | nil => exact .nil
    | cons e el ih => exact .cons (.lst (by unfold lsG; rw [ga e List.mem_cons_self]) (jcI _)) (ih fun e he => ga e (List.mem_cons_of_mem _ he))
  · obtain ⟨z, _, rfl⟩ := List.mem_map.mp he
    exact jdM z.2
  · have : (el.map fun e => PyData.list (e.2.map .int)).any (fun e => PyData.eqv e (.list (kx.map .int))) = decide (kx ∈ el.map (·.2)) := by
      rw [Bool.eq_iff_iff, List.any_eq_true, decide_eq_true_eq]
      constructor
      · rintro ⟨d, hd, e⟩
        obtain ⟨z, hz, rfl⟩ := List.mem_map.mp hd
        rw [jdy] at e
        exact List.mem_map.mpr ⟨z, hz, of_decide_eq_true e⟩
      · intro hm
        obtain ⟨z, hz, e⟩ := List.mem_map.mp hm
        exact ⟨_, List.mem_map.mpr ⟨z, hz, rfl⟩, by rw [jdy]; exact decide_eq_true e⟩
    rw [this]; exact q
theorem jbn {G G':Gp}{p:Addr}(s:Sa G G')(h:G' p=none):G p=none:=by
 cases e:G p with
 | none=>rfl
 | some o=>rw [s _ _ e] at h; cases h
section
variable {k:Nat}{G:Gp}{Q:K1}{X:KX}{xs:List Str}{ss:List Spn}
theorem jfy {W:Nat}{s:Spn}{K:Sg->Gp->Prop}{u0 u2 u5 u6 o7 o8 o9:Option U}{p:Addr}{el:List (Addr×List Int)}{es:List (Int×Int)}{G3:Gp}(os:s.Ok W)(w8:W<=8)(hq:Lq G3 p el)(hP:IsP W es (el.map (·.2)))(ll:el.length<=8)(s3:Sa G G3)(fr:∀ e∈el,G e.1=none)
  (kk:∀ (p':Addr) (el':List (Addr×List Int)) (G':Gp) (o7 o8 o9:Option U),Lq G' p' el'->IsP W (es++[((s.o:Int),(s.t:Int))]) (el'.map (·.2))->el'.length<=8->Sa G G'->(∀ e∈el',G e.1=none)->K [u0,some (.loc p'),u2,some (.int s.o),some (.int s.t),u5,u6,o7,o8,o9] G') :
  jay T.gs (jab T k) jaF ⟨K,Q,fun x _ G'=>X x G'⟩ [u0,some (.loc p),u2,some (.int s.o),some (.int s.t),u5,u6,o7,o8,o9] G3:=by
 have bo:0<=(s.o:Int)/\(s.o:Int) < W:=by have:=os.o; omega
 have bt:0<=(s.t:Int)/\(s.t:Int) < W:=by have:=os.t; omega
 simp! only [jaF,it_l hq.gp]
 refine ⟨by rw [List.length_map]; exact Nat.le_trans ll (by decide),?_⟩
 refine jan (fun i acc G'=>G'=G3/\acc=((el.take i).filter fun e=>hit s.o s.t e.2).map fun e=>U.loc e.1) ?_ ?_ ⟨rfl,rfl⟩
 ·rintro acc G4 ⟨rfl,rfl⟩
  rw [List.length_map,List.take_length]
  refine ⟨by unfold lsG; rw [hq.gp],fun pm G5 n5=>?_⟩
  have hm:Lq G5 pm (el.filter fun e=>hit s.o s.t e.2):=⟨n5.at,fun e he=>n5.sa _ _ (hq.ga e (List.mem_filter.mp he).1)⟩
  have hq5:=hq.sa n5.sa
  have em:(el.filter fun e=>hit s.o s.t e.2).map (·.2)=(el.map (·.2)).filter (hit s.o s.t):=by rw [List.filter_map]; rfl
  simp! only [ja2,it_l hq5.gp]
  refine ⟨by rw [List.length_map]; exact Nat.le_trans ll (by decide),?_⟩
  refine jan (fun i acc G'=>G'=G5/\acc=((el.take i).filter fun e=>!hit s.o s.t e.2).map fun e=>U.loc e.1) ?_ ?_ ⟨rfl,rfl⟩
  ·rintro acc G6 ⟨rfl,rfl⟩
   rw [List.length_map,List.take_length]
   refine ⟨by unfold lsG; rw [hq5.gp],fun pn G7 n7=>?_⟩
   have hn:Lq G7 pn (el.filter fun e=>!hit s.o s.t e.2):=⟨n7.at,fun e he=>n7.sa _ _ (hq5.ga e (List.mem_filter.mp he).1)⟩
   have hm7:=hm.sa n7.sa
   have en:(el.filter fun e=>!hit s.o s.t e.2).map (·.2)=(el.map (·.2)).filter (fun k=>!hit s.o s.t k):=by rw [List.filter_map]; rfl
   simp! only [ja1]
   refine ⟨by decide,fun p8 G8 n8=>?_⟩
   have hm8:=hm7.sa n8.sa
   have hn8:=hn.sa n8.sa
   have s8:Sa G G8:=((s3.trans n5.sa).trans n7.sa).trans n8.sa
   have fl:=hP.flat (o:=s.o) (t:=s.t)
   simp! only [ja0,it_l hm8.gp]
   refine jao (fun i ς G'=>∃ (pw:Addr) (o9:Option U),ς=[u0,some (.loc pn),u2,some (.int s.o),some (.int s.t),u5,u6,some (.loc pm),some (.loc pw),o9]/\Sa G8 G'/\G' pw=some (.lst ((((el.filter fun e=>hit s.o s.t e.2).take i).map (·.2)).flatten.map .int))) ?_ ?_ ⟨p8,_,rfl,Sa.refl,n8.at⟩
   ·rintro ς G9 ⟨pw,o9,rfl,s9,gw⟩
    rw [List.length_map,List.take_length,em] at gw
    refine ⟨by unfold lsG; rw [s9 _ _ hm8.gp],?_⟩
    have hn9:=hn8.sa s9
    simp! only [jaZ,jaH hn9.gp]
    have lf:=jaJ W _ fl.1 fl.2
    refine jkn gw fl.1 (by omega) fun zs hp hs pz Ga na=>?_
    have hna:=hn9.sa na.sa
    rw [jcg hna.gp]
    have fw:=hP.fewer (t:=s.t) bo
    rw [<- en,List.length_map,List.length_map] at fw
    refine ⟨by rw [List.length_map]; exact Nat.lt_of_le_of_lt (show _<=8 by omega) (by decide),fun Gb pb=>?_⟩
    have fresh:G pn=none:=jbn (s3.trans n5.sa) n7.no
    have npn:∀ e∈el,e.1≠pn:=fun e he=>Ne.symm (jau (hq5.ga e he) n7.no)
    refine kk pn ((el.filter fun e=>!hit s.o s.t e.2)++[(pz,zs)]) Gb _ _ _ ⟨by rw [List.map_append]; exact pb.at,fun e he=>?_⟩ ?_ (by rw [List.length_append]; simp; omega) (fun b o e=>pb.sm _ _ (fun z=>by rw [z,fresh] at e; cases e) (na.sa _ _ (s9 _ _ (s8 _ _ e)))) ?_
    ·rcases List.mem_append.mp he with z | z
     ·exact pb.sm _ _ (npn e (List.mem_filter.mp z).1) (hna.ga e z)
     ·rw [List.mem_singleton.mp z]
      exact pb.sm _ _ (jau hn9.gp na.no) na.at
    ·rw [List.map_append,en]
     exact hP.step bo bt hp hs
    ·intro e he
     rcases List.mem_append.mp he with z | z
     ·exact fr e (List.mem_filter.mp z).1
     ·rw [List.mem_singleton.mp z]
      exact jbn (s8.trans s9) na.no
   ·rintro i x ς G9 K9 hx ⟨pw,o9,rfl,s9,gw⟩ hk
    rw [List.getElem?_map] at hx
    cases ee:(el.filter fun e=>hit s.o s.t e.2)[i]? with
    | none=>rw [ee] at hx; cases hx
    | some e=>
     rw [ee] at hx
     have hx:=(Option.some.inj hx).symm
     subst hx
     refine ⟨by unfold lsG; rw [s9 _ _ hm8.gp],?_⟩
     have ge:=s9 _ _ (hm8.ga e (List.mem_of_getElem? ee))
     simp! only []
     have e1:(((el.filter fun e=>hit s.o s.t e.2).take (i + 1)).map (·.2)).flatten=(((el.filter fun e=>hit s.o s.t e.2).take i).map (·.2)).flatten++e.2:=by
      rw [List.take_succ,ee,List.map_append,List.flatten_append]; simp
     have lf:=jaJ W _ fl.1 fl.2
     have l1:((((el.filter fun e=>hit s.o s.t e.2).take i).map (·.2)).flatten++e.2).length<=8:=by
      rw [<- e1]
      refine Nat.le_trans ?_ (Nat.le_trans lf w8)
      rw [<- em]
      conv=>rhs; rw [<- List.take_append_drop (i + 1) (el.filter fun e=>hit s.o s.t e.2)]
      rw [List.map_append,List.flatten_append,List.length_append]
      omega
     rw [List.length_append] at l1
     refine ⟨_,_,gw,ge,by rw [List.length_map,List.length_map]; exact Nat.le_trans l1 (by decide),fun pz Ga na=>hk _ _ ⟨pz,_,rfl,s9.trans na.sa,?_⟩⟩
     rw [e1,List.map_append]
     exact na.at
  ·rintro i x acc G6 K6 hx ⟨rfl,rfl⟩ hk hn
   rw [List.getElem?_map] at hx
   cases ee:el[i]? with
   | none=>rw [ee] at hx; cases hx
   | some e=>
    rw [ee] at hx
    have hx:=(Option.some.inj hx).symm
    subst hx
    have he:=List.mem_of_getElem? ee
    refine ⟨by unfold lsG; rw [hq5.gp],?_⟩
    simp! only []
    refine jjK (hq5.ga e he) hm ?_
    have e0:decide (e.2∈(el.filter fun e=>hit s.o s.t e.2).map (·.2))=hit s.o s.t e.2:=by
     rw [em,Bool.eq_iff_iff,decide_eq_true_eq,List.mem_filter]
     exact ⟨fun z=>z.2,fun z=>⟨List.mem_map.mpr ⟨e,he,rfl⟩,z⟩⟩
    rw [e0]
    have et:el.take (i + 1)=el.take i++[e]:=by rw [List.take_succ,ee]; rfl
    cases c:hit s.o s.t e.2 with
    | true=>
     rw [if_neg (by decide)]
     exact hn _ ⟨rfl,by rw [et,List.filter_append,List.filter_cons_of_neg (by simp [c])]; simp⟩
    | false=>
     rw [if_pos (by decide)]
     exact hk _ _ ⟨rfl,by rw [et,List.filter_append,List.filter_cons_of_pos (by simp [c]),List.map_append]; rfl⟩
 ·rintro i x acc G4 K4 hx ⟨rfl,rfl⟩ hk hn
  rw [List.getElem?_map] at hx
  cases ee:el[i]? with
  | none=>rw [ee] at hx; cases hx
  | some e=>
   rw [ee] at hx
   have hx:=(Option.some.inj hx).symm
   subst hx
   have ge:=hq.ga e (List.mem_of_getElem? ee)
   refine ⟨by unfold lsG; rw [hq.gp],?_⟩
   simp! only []
   have et:el.take (i + 1)=el.take i++[e]:=by rw [List.take_succ,ee]; rfl
   have yes:hit s.o s.t e.2=true->K4 (some (.loc e.1)) G4:=fun c=>hk _ _ ⟨rfl,by rw [et,List.filter_append,List.filter_cons_of_pos (by simpa using c),List.map_append]; rfl⟩
   have no:¬ hit s.o s.t e.2=true->K4 none G4:=fun c=>hn _ ⟨rfl,by rw [et,List.filter_append,List.filter_cons_of_neg (by simpa using c)]; simp⟩
   refine in_l ge rfl (jbV _) ?_
   rw [jea]
   by_cases c1:(s.o:Int)∈e.2
   ·rw [if_pos (decide_eq_true c1)]
    exact yes (jbj.mpr (.inl c1))
   ·rw [if_neg (by rw [decide_eq_false c1]; decide)]
    refine in_l ge rfl (jbV _) ?_
    rw [jea]
    by_cases c2:(s.t:Int)∈e.2
    ·rw [if_pos (decide_eq_true c2)]
     exact yes (jbj.mpr (.inr c2))
    ·rw [if_neg (by rw [decide_eq_false c2]; decide)]
     exact no fun z=>(jbj.mp z).elim c1 c2
end

set_option maxHeartbeats 2000000
theorem jmT {G:Gp}{a:Addr}{Q:K1}{as:List Addr}{ks:List (List Int)}(h:Ls G a as ks)(nd:ks.Nodup)(h64:ks.length < 64)(q:∀ (p:Addr) (as':List Addr) (ks':List (List Int)) (G':Gp),ks'.Perm ks->ks'.Pairwise Sl->Sa G G'->Ls G' p as' ks'->(∀ b∈as',b∈as)->Q (.loc p) G'):jba [.loc a] G Q:=by
 unfold jba
 dsimp only
 rw [h.gp]
 refine ⟨ks,nd,by rw [List.length_map,h.l]; exact Nat.lt_of_lt_of_le h64 (by decide),by rw [List.length_map,h.l],.inr (.inl ⟨as,rfl,h.ga⟩),fun π hp hs=>?_⟩
 rw [List.length_map,h.l] at hp hs
 have hfl:∀ i∈π,i < ks.length:=fun i hi=>List.mem_range.mp (hp.mem_iff.mp hi)
 have pl:π.length=ks.length:=by rw [hp.length_eq,List.length_range]
 have e:(π.map fun i=>(as.map U.loc).getD i .non)=(π.map fun i=>as.getD i a).map .loc:=by
  rw [List.map_map]
  refine List.map_congr_left fun i hi=>?_
  have:=hfl i hi
  rw [<- h.l] at this
  simp [List.getD,this]
 rw [e]
 intro p G' n
 refine q p _ (π.map fun i=>ks.getD i []) G' (jdR ks [] hp) (jg8 jhC fun i hi=>?_) n.sa ⟨n.at,by simp,fun i a' k e1 e2=>n.sa _ _ ?_⟩ fun b hb=>?_
 ·have hi:i + 1 < ks.length:=by simpa [pl] using hi
  have h1:i < π.length:=by omega
  have h2:i + 1 < π.length:=by omega
  have:=hs i hi
  rw [show π.getD i 0=π[i] by simp [List.getD,h1],show π.getD (i + 1) 0=π[i + 1] by simp [List.getD,h2]] at this
  simpa using this
 ·rw [List.getElem?_map] at e1 e2
  cases ep:π[i]? with
  | none=>rw [ep] at e1; cases e1
  | some j=>
   rw [ep] at e1 e2
   have hj:=hfl j (List.mem_of_getElem? ep)
   have hj':j < as.length:=by rw [h.l]; exact hj
   have e1:=Option.some.inj e1
   have e2:=Option.some.inj e2
   refine h.ga j a' k ?_ ?_
   ·rw [List.getElem?_eq_getElem hj',<- e1]; simp [List.getD,hj']
   ·rw [List.getElem?_eq_getElem hj,<- e2]; simp [List.getD,hj]
 ·obtain ⟨i,hi,rfl⟩:=List.mem_map.mp hb
  have:=hfl i hi
  rw [<- h.l] at this
  rw [show as.getD i a=as[i] by simp [List.getD,this]]
  exact List.getElem_mem this
section
variable {k:Nat}{G:Gp}{Q:K1}{X:KX}{xs:List Str}{ss:List Spn}
theorem jbf (so:∀ s∈ss,s.Ok xs.length)(w8:xs.length<=8)(q:∀ (p:Addr) (as:List Addr) (ks:List (List Int)) (G':Gp),Sa G G'->Ls G' p as ks->IsP xs.length (edg ss) ks->ks.Pairwise Sl->ks.length<=8->(∀ a∈as,G a=none)->Q (.loc p) G'):jab T (k + 1) jaW [jae xs ss] G Q X:=by
 refine ⟨rfl,?_⟩
 simp! only [jcM,jaj,List.replicate,jae,ix_t (jbZ _ _),List.length_map]
 refine ⟨by omega,by omega,by rw [jam]; exact Nat.le_trans w8 (by decide),?_⟩
 refine jan (fun i acc G'=>∃ el:List (Addr×List Int),acc=el.map (fun e=>.loc e.1)/\Sa G G'/\(∀ e∈el,G' e.1=some (.lst (e.2.map .int)))/\el.map (·.2)=((List.range i).map fun (i:Nat)=>[(i:Int)])/\∀ e∈el,G e.1=none) ?_ ?_ ⟨[],rfl,Sa.refl,fun _ h=>(nomatch h),rfl,fun _ h=>(nomatch h)⟩
 ·rintro acc G1 ⟨el,rfl,s1,ga,ek,fr⟩
  rw [jam] at ek
  refine ⟨trivial,fun p G2 n2=>?_⟩
  have hq:Lq G2 p el:=⟨n2.at,fun e he=>n2.sa _ _ (ga e he)⟩
  have ll:el.length<=8:=by
   have:=congrArg List.length ek
   rw [List.length_map,List.length_map,List.length_range] at this
   omega
  simp! only [jbI,ix_t (jdE _ _ _)]
  refine jao (fun i ς G'=>∃ (p:Addr) (el:List (Addr×List Int)) (o2 o3 o4 o5 o6 o7 o8 o9:Option U),ς=[some (jae xs ss),some (.loc p),o2,o3,o4,o5,o6,o7,o8,o9]/\Lq G' p el/\IsP xs.length (edg (ss.take i)) (el.map (·.2))/\el.length<=8/\Sa G G'/\∀ e∈el,G e.1=none) ?_ ?_ ⟨p,el,_,_,_,_,_,_,_,_,rfl,hq,by rw [ek]; exact IsP.zero,ll,s1.trans n2.sa,fr⟩
  ·rintro ς G3 ⟨p,el,o2,o3,o4,o5,o6,o7,o8,o9,rfl,hq,hP,ll,s3,fr⟩
   rw [List.length_map,List.take_length] at hP
   refine ⟨trivial,?_⟩
   simp! only [jbH]
   refine jmT hq.ls hP.nd (by rw [List.length_map]; omega) fun p' as' ks' G4 hp hs s4 h4 hm=>?_
   exact q p' as' ks' G4 (s3.trans s4) h4 (hP.perm hp) hs (by rw [hp.length_eq,List.length_map]; exact ll) fun a ha=>by
    obtain ⟨e,he,rfl⟩:=List.mem_map.mp (hm a ha)
    exact fr e he
  ·rintro i x ς G3 K hx ⟨p,el,o2,o3,o4,o5,o6,o7,o8,o9,rfl,hq,hP,ll,s3,fr⟩ hk
   rw [List.getElem?_map] at hx
   cases es:ss[i]? with
   | none=>rw [es] at hx; cases hx
   | some s=>
    rw [es] at hx
    have hx:=(Option.some.inj hx).symm
    subst hx
    refine ⟨trivial,?_⟩
    simp! only [Spn.u]
    refine ⟨trivial,jfy (so s (List.mem_of_getElem? es)) w8 hq hP ll s3 fr fun p' el' G' o7 o8 o9 h1 h2 h3 h4 h5=>hk _ _ ⟨p',el',_,_,_,_,_,_,_,_,rfl,h1,?_,h3,h4,h5⟩⟩
    have:edg (ss.take (i + 1))=edg (ss.take i)++[((s.o:Int),(s.t:Int))]:=by unfold edg; rw [List.take_succ,es,List.map_append]; rfl
    rw [this]; exact h2
 ·rintro i x acc G1 K hx ⟨el,rfl,s1,ga,ek,fr⟩ hk _
  obtain ⟨hi,rfl⟩:=jaA hx
  refine ⟨trivial,?_⟩
  simp! only []
  refine ⟨by decide,fun p G2 n2=>hk _ _ ⟨el++[(p,[(i:Int)])],by rw [List.map_append]; rfl,s1.trans n2.sa,fun e he=>?_,by rw [List.map_append,ek,List.range_succ,List.map_append]; rfl,fun e he=>?_⟩⟩
  rcases List.mem_append.mp he with z | z
  ·exact n2.sa _ _ (ga e z)
  ·rw [List.mem_singleton.mp z]; exact n2.at
  rcases List.mem_append.mp he with z | z
  ·exact fr e z
  ·rw [List.mem_singleton.mp z]; exact jbn s1 n2.no
end
theorem jjQ {xs:List Str}{ss:List Spn}(x8:xs.length<=8)(nm:∀ x∈xs,Nm x)(sl:ss.length<=24)(so:∀ s∈ss,s.Ok xs.length):Ft 600000 3 (jae xs ss):=by
 refine (Ft.tup (n:=260000) (k:=2) (m:=2) (Nat.le_refl _) (fun u hu=>?_) (by decide)).mono (Nat.le_refl _) (Nat.le_refl _)
 simp only [List.mem_cons,List.not_mem_nil,or_false] at hu
 rcases hu with rfl | rfl
 ·refine (Ft.tup (n:=82) (k:=0) (m:=8) (by rw [List.length_map]; exact x8) (fun v hv=>?_) (by decide:_<=1000)).mono (by decide) (by decide)
  obtain ⟨x,hx,rfl⟩:=List.mem_map.mp hv
  exact Ft.str (nm x hx).l8 (nm x hx).ch
 ·refine Ft.tup (n:=10000) (k:=1) (m:=25) (by rw [List.length_map]; omega) (fun v hv=>?_) (by decide)
  obtain ⟨s,hs,rfl⟩:=List.mem_map.mp hv
  exact (so s hs).ft x8
theorem jgo {x:Str}{G:Gp}{k:Bool->Prop}(h:k false):cmpU .NotEq (.str x) (.str x) G k:=by
 show k (!decide (x=x))
 rw [decide_eq_true rfl]
 exact h

set_option maxHeartbeats 2000000
noncomputable def topZ (P:Int)(s:Spn):Int:=if s.w = "span" then s.hi else P - s.hi
noncomputable def gapZ (P:Int)(bs:List Int)(s:Spn):Int:=(bs.getD s.t 0 - bs.getD s.o 0 - s.lo) % P
noncomputable def kpt (P:Int)(bs:List Int)(s:Spn):Bool:=decide (s.lo + gapZ P bs s<=topZ P s)
noncomputable def jaR (P:Int)(ss:List Spn)(bs:List Int):Bool:=ss.all (kpt P bs)
theorem jlO {a b P:Int}(k:Int)(h:a=b + P * k):a % P=b % P:=by rw [h,Int.add_mul_emod_self_left]
noncomputable def nB (fs:List Int)(P:Nat)(w:Nat):Nat:=if (w:Int)∈fs then 1 else P
noncomputable def rowX (fs:List Int)(P:Nat)(w:Nat)(r:List Int):List (List Int):=(List.range (nB fs P w)).map fun (j:Nat)=>r++[(j:Int)]
noncomputable def jaC (fs:List Int)(P:Nat):Nat->List (List Int)
 | 0=>[[]]
 | w + 1=>(jaC fs P w).flatMap (rowX fs P w)
theorem jhc {fs:List Int}{P w:Nat}{r:List Int}:(rowX fs P w r).length=nB fs P w:=by simp [rowX]
theorem jgp {fs:List Int}{P:Nat}(hP:1<=P)(w:Nat):nB fs P w<=P:=by unfold nB; split <;> omega
theorem jfg {fs:List Int}{P w:Nat}:∀ l:List (List Int),(l.flatMap (rowX fs P w)).length=l.length * nB fs P w
 | []=>by simp
 | r::l=>by rw [List.flatMap_cons,List.length_append,jhc,jfg l,List.length_cons,Nat.add_mul]; omega
theorem je0 {fs:List Int}{P:Nat}(h0:(0:Int)∈fs)(hP:1<=P):∀ w,(jaC fs P (w + 1)).length<=P ^ w
 | 0=>by show ((jaC fs P 0).flatMap (rowX fs P 0)).length<=_; rw [jfg]; simp [jaC,nB,h0]
 | w + 1=>by
  show ((jaC fs P (w + 1)).flatMap (rowX fs P (w + 1))).length<=_
  rw [jfg,Nat.pow_succ]
  exact Nat.mul_le_mul (je0 h0 hP w) (jgp hP _)
theorem jbM {fs:List Int}{P W:Nat}(h0:(0:Int)∈fs)(hP:1<=P)(h:P ^ (W - 1)<=300){w:Nat}(hw:w<=W):(jaC fs P w).length<=300:=by
 cases w with
 | zero=>simp [jaC]
 | succ w=>exact Nat.le_trans (je0 h0 hP w) (Nat.le_trans (Nat.pow_le_pow_right (by omega) (by omega)) h)
theorem jaP {fs:List Int}{P:Nat}:∀ {w:Nat} {b:List Int},b∈jaC fs P w↔b.length=w/\∀ i,i < w->0<=b.getD i 0/\b.getD i 0 < (nB fs P i:Int)
 | 0,b=>by
  simp only [jaC,List.mem_singleton]
  exact ⟨fun h=>⟨by simp [h],fun i h=>absurd h (Nat.not_lt_zero i)⟩,fun h=>List.length_eq_zero_iff.mp h.1⟩
 | w + 1,b=>by
  show b∈(jaC fs P w).flatMap _↔_
  rw [List.mem_flatMap]
  constructor
  ·rintro ⟨r,hr,hb⟩
   obtain ⟨j,hj,rfl⟩:=List.mem_map.mp hb
   obtain ⟨hl,hi⟩:=jaP.mp hr
   have hj:=List.mem_range.mp hj
   refine ⟨by simp [hl],fun i h=>?_⟩
   by_cases e:i=w
   ·subst e
    rw [show (r++[(j:Int)]).getD i 0=j by simp [List.getD,hl]]
    omega
   ·rw [show (r++[(j:Int)]).getD i 0=r.getD i 0 by simp [List.getD,List.getElem?_append_left (show i < r.length by omega)]]
    exact hi i (by omega)
  ·rintro ⟨hl,hi⟩
   refine ⟨b.take w,jaP.mpr ⟨by simp; omega,fun i h=>?_⟩,List.mem_map.mpr ⟨(b.getD w 0).toNat,List.mem_range.mpr ?_,?_⟩⟩
   ·rw [show (b.take w).getD i 0=b.getD i 0 by simp [List.getD,List.getElem?_take,h]]
    exact hi i (by omega)
   ·have:=hi w (by omega); omega
   ·have h1:=hi w (by omega)
    have e:((b.getD w 0).toNat:Int)=b.getD w 0:=by omega
    rw [e]
    have hw:w < b.length:=by omega
    rw [show b.getD w 0=b[w] by simp [List.getD,hw]]
    have:=List.take_append_getElem hw
    rw [this,List.take_of_length_le (by omega)]
theorem jhI {p:List Int}(h:p≠[]):p.headD 0∈p:=by cases p with | nil=>exact absurd rfl h | cons a l=>simp
theorem jhK {W:Nat}{es:List (Int×Int)}{ks:List (List Int)}(h:IsP W es ks)(w0:0 < W):(0:Int)∈ks.map (·.headD 0):=by
 obtain ⟨p,hp,h0⟩:=h.al 0 (by omega) (by omega)
 refine List.mem_map.mpr ⟨p,hp,?_⟩
 have as:=h.as p hp
 have bd:=h.bd p hp
 cases p with
 | nil=>cases h0
 | cons a l=>
  have ba:=bd a List.mem_cons_self
  rcases List.mem_cons.mp h0 with z | z
  ·exact z.symm
  ·have:=(List.pairwise_cons.mp as).1 0 z; omega
noncomputable def Begun (P:Int)(ks:List (List Int))(b g:List Int):Prop:=∀ p∈ks,∀ x∈p,g.getD x.toNat 0=(b.getD x.toNat 0 - b.getD (p.headD 0).toNat 0) % P
theorem jfQ {P:Int}{W:Nat}{ss:List Spn}{ks:List (List Int)}{b g:List Int}(hP:IsP W (edg ss) ks)(h:Begun P ks b g):jaR P ss g=jaR P ss b:=by
 unfold jaR
 rw [Bool.eq_iff_iff,List.all_eq_true,List.all_eq_true]
 refine forall_congr' fun s=>forall_congr' fun hs=>?_
 obtain ⟨p,hp,ho,ht⟩:=hP.ed s.o s.t (by unfold edg; exact List.mem_map.mpr ⟨s,hs,rfl⟩)
 have e1:=h p hp _ ho
 have e2:=h p hp _ ht
 rw [Int.toNat_natCast] at e1 e2
 have e:gapZ P g s=gapZ P b s:=by
  unfold gapZ
  rw [e1,e2]
  refine jlO ((b.getD s.o 0 - b.getD (p.headD 0).toNat 0) / P - (b.getD s.t 0 - b.getD (p.headD 0).toNat 0) / P) ?_
  rw [Int.emod_def,Int.emod_def,Int.mul_sub]
  omega
 unfold kpt
 rw [e]
theorem jg4 {P:Int}{W:Nat}{es:List (Int×Int)}{ks:List (List Int)}{b g:List Int}(h1:1<=P)(hP:IsP W es ks)(gl:g.length=W)(h:Begun P ks b g):g∈jaC (ks.map (·.headD 0)) P.toNat W:=by
 refine jaP.mpr ⟨gl,fun i hi=>?_⟩
 obtain ⟨p,hp,hx⟩:=hP.al i (by omega) (by omega)
 have e:=h p hp _ hx
 rw [Int.toNat_natCast] at e
 have b1:=Int.emod_nonneg (b.getD i 0 - b.getD (p.headD 0).toNat 0) (show P≠0 by omega)
 have b2:=Int.emod_lt_of_pos (b.getD i 0 - b.getD (p.headD 0).toNat 0) (show 0 < P by omega)
 unfold nB
 split
 ·rename_i hm
  obtain ⟨p',hp',e'⟩:=List.mem_map.mp hm
  have hx':(i:Int)∈p':=by rw [<- e']; exact jhI (hP.ne p' hp')
  have:=hP.un p hp p' hp' _ hx hx'
  subst this
  rw [e,e',Int.toNat_natCast,Int.sub_self]
  simp
 ·rw [e]; omega
theorem jhT {P:Int}{W:Nat}{ss:List Spn}{ks:List (List Int)}{b g:List Int}(h1:1<=P)(hP:IsP W (edg ss) ks)(gl:g.length=W)(h:Begun P ks b g):g∈(jaC (ks.map (·.headD 0)) P.toNat W).filter (jaR P ss)↔jaR P ss b=true:=by
 rw [List.mem_filter,jfQ hP h]
 exact ⟨fun h=>h.2,fun hk=>⟨jg4 h1 hP gl h,hk⟩⟩

set_option maxHeartbeats 2000000
theorem gs24:T.gs=[.int 300]:=rfl
theorem jne {a b:Bool}{G:Gp}{k:Bool->Prop}:cmpU .NotEq (.bl a) (.bl b) G k=k (!decide (a=b)):=rfl
theorem jbg {bs:List Int}{n:Nat}(h:n < bs.length):atI (bs.map U.int) (n:Int)=some (.int (bs.getD n 0)):=by
 have:bs[n]?=some (bs.getD n 0):=by simp [List.getD,h]
 exact atM this
section
variable {k:Nat}{G:Gp}{Q:K1}{X:KX}{xs:List Str}{ss:List Spn}{P:Int}{bs:List Int}{s:Spn}{j W:Nat}
theorem jgk (h:ss[j]?=some s)(q:Q (.int (topZ P s)) G):jab T (k + 1) je6 [jae xs ss,.int P,.int j] G Q X:=by
 refine ⟨rfl,?_⟩
 simp! only [jfl,jaj,List.replicate,jae,ix_t (jdE _ _ _),ix_t (atM h),Spn.u]
 unfold topZ at q
 refine ⟨trivial,?_⟩
 by_cases c:s.w = "span"
 ·rw [if_pos (by simpa using c)]
  rw [if_pos c] at q
  exact q
 ·rw [if_neg (by simpa using c)]
  rw [if_neg c] at q
  exact q
theorem jdX (hP:0 < P)(bl:bs.length=W)(os:s.Ok W)(h:ss[j]?=some s)(q:Q (.int (s.lo + gapZ P bs s)) G):jab T (k + 1) jcy [jae xs ss,.int P,jaf bs,.int j] G Q X:=by
 have o:=os.o
 have t:=os.t
 refine ⟨rfl,?_⟩
 simp! only [jcJ,jaj,List.replicate,jae,ix_t (jdE _ _ _),ix_t (atM h),Spn.u,jaf,ix_t (jbg (show s.o < bs.length by omega)),ix_t (jbg (show s.t < bs.length by omega))]
 exact ⟨trivial,by omega,q⟩
theorem jdF {f:Spn->Bool}{i:Nat}(h:ss[i]?=some s):(ss.take (i + 1)).all f=((ss.take i).all f && f s):=by
 rw [List.take_succ,h,List.all_append]; simp
theorem jdV {kk:Bool->Prop}(hP:0 < P)(bl:bs.length=W)(so:∀ s∈ss,s.Ok W)(sl:ss.length<=24)(q:∀ u,isU u .non kk=kk (jaR P ss bs)->Q u G):jab T (k + 2) jck [jae xs ss,.int P,jaf bs] G Q X:=by
 refine ⟨rfl,?_⟩
 simp! only [jfk,jaj,List.replicate,jae,ix_t (jdE _ _ _),List.length_map]
 refine ⟨by omega,by omega,?_⟩
 refine jao (fun i ς G'=>G'=G/\(∃ o3,ς=[some (jae xs ss),some (.int P),some (jaf bs),o3])/\(ss.take i).all (kpt P bs)=true) ?_ ?_ ⟨rfl,⟨_,rfl⟩,rfl⟩
 ·rintro ς G1 ⟨rfl,⟨o3,rfl⟩,h⟩
  rw [jam,List.take_length] at h
  refine ⟨trivial,?_⟩
  simp! only []
  refine q _ ?_
  unfold jaR
  rw [h]
  rfl
 ·rintro i x ς G1 K hx ⟨rfl,⟨o3,rfl⟩,h⟩ hk
  obtain ⟨hi,rfl⟩:=jaA hx
  refine ⟨trivial,?_⟩
  simp! only []
  obtain ⟨s,es⟩:∃ s,ss[i]?=some s:=⟨_,List.getElem?_eq_getElem hi⟩
  refine jdX hP bl (so s (List.mem_of_getElem? es)) es (jgk es ?_)
  simp! only []
  by_cases c:topZ P s < s.lo + gapZ P bs s
  ·rw [if_pos (by simpa using c)]
   refine q _ ?_
   have:jaR P ss bs=false:=by
    rw [Bool.eq_false_iff]
    intro z
    have:=List.all_eq_true.mp z s (List.mem_of_getElem? es)
    unfold kpt at this
    rw [decide_eq_true_eq] at this
    omega
   rw [this]
   rfl
  ·rw [if_neg (by simpa using c)]
   refine hk _ _ ⟨rfl,⟨_,rfl⟩,?_⟩
   rw [jdF es,h]
   unfold kpt
   simp; omega
theorem jlk (q:Q (.int (if s.lo + P - 1 < topZ P s then s.lo + P - 1 else topZ P s)) G):jab T (k + 1) jd2 [.int P,s.u] G Q X:=by
 refine ⟨rfl,?_⟩
 simp! only [jei,jaj,List.replicate,Spn.u,ix_t (jbZ _ _),ix_t (jnx _ _ _ _ _),ix_t (show atI [U.str s.w,.int s.o,.int s.t,.int s.lo,.int s.hi] 4=some (.int s.hi) from jas (j:=4) rfl)]
 unfold topZ at q
 by_cases c:s.w = "span"
 ·rw [if_pos (by simpa using c)]
  rw [if_pos c] at q
  exact q
 ·rw [if_neg (by simpa using c)]
  rw [if_neg c] at q
  exact q
theorem jhA (hP:0 < P)(bl:bs.length=W)(so:∀ s∈ss,s.Ok W)(sl:ss.length<=24)(q:∀ (p:Addr) (zs:List Int) (G':Gp),Sa G G'->G' p=some (.lst (zs.map .int))->(zs.map U.int).isEmpty=jaR P ss bs->Q (.loc p) G'):jab T (k + 2) jby [jae xs ss,.int P,jaf bs] G Q X:=by
 refine ⟨rfl,?_⟩
 simp! only [jcO,jaj,List.replicate]
 refine ⟨by decide,fun p G1 n1=>?_⟩
 simp! only [jae,ix_t (jdE _ _ _),List.length_map]
 refine ⟨by omega,by omega,?_⟩
 refine jao (fun i ς G'=>∃ (zs:List Int) (o4 o5 o6 o7 o8 o9 o10:Option U),ς=[some (jae xs ss),some (.int P),some (jaf bs),some (.loc p),o4,o5,o6,o7,o8,o9,o10]/\Sa G G'/\G' p=some (.lst (zs.map .int))/\zs.length<=i/\zs.isEmpty=(ss.take i).all (kpt P bs)) ?_ ?_ ⟨[],_,_,_,_,_,_,_,rfl,n1.sa,n1.at,Nat.le_refl _,rfl⟩
 ·rintro ς G2 ⟨zs,o4,o5,o6,o7,o8,o9,o10,rfl,s2,g2,_,he⟩
  rw [jam,List.take_length] at he
  refine ⟨trivial,?_⟩
  simp! only []
  exact q p zs _ s2 g2 (by rw [List.isEmpty_map]; exact he)
 ·rintro i x ς G2 K hx ⟨zs,o4,o5,o6,o7,o8,o9,o10,rfl,s2,g2,hl,he⟩ hk
  obtain ⟨hi,rfl⟩:=jaA hx
  refine ⟨trivial,?_⟩
  obtain ⟨s,es⟩:∃ s,ss[i]?=some s:=⟨_,List.getElem?_eq_getElem hi⟩
  have os:=so s (List.mem_of_getElem? es)
  have o:=os.o
  have t:=os.t
  simp! only [jae,ix_t (jdE _ _ _),ix_t (atM es)]
  rw [show s.u=.tup [.str s.w,.int s.o,.int s.t,.int s.lo,.int s.hi] from rfl]
  simp! only [jaf,ix_t (jbg (show s.o < bs.length by omega)),ix_t (jbg (show s.t < bs.length by omega)),jae,ix_t (jdE _ _ _),ix_t (atM es)]
  refine ⟨trivial,by omega,jlk ?_⟩
  simp! only []
  have g0:0<=gapZ P bs s:=Int.emod_nonneg _ (by omega)
  have g1:gapZ P bs s < P:=Int.emod_lt_of_pos _ (by omega)
  rw [show (bs.getD s.t 0 - bs.getD s.o 0 - s.lo) % P=gapZ P bs s from rfl]
  by_cases c:(if s.lo + P - 1 < topZ P s then s.lo + P - 1 else topZ P s) < s.lo + gapZ P bs s
  ·rw [if_pos (by simpa using c)]
   simp! only [jaH g2]
   rw [jcg g2]
   refine ⟨by rw [List.length_map]; exact Nat.lt_of_le_of_lt (show zs.length<=24 by omega) (by decide),fun G3 p3=>?_⟩
   refine hk _ _ ⟨zs++[(i:Int)],_,_,_,_,_,_,_,rfl,?_,by rw [List.map_append]; exact p3.at,by simp; omega,?_⟩
   ·exact fun b u e=>p3.sm _ _ (fun z=>by rw [z,n1.no] at e; cases e) (s2 _ _ e)
   ·rw [jdF es]
    unfold kpt
    rw [decide_eq_false (by split at c <;> omega),Bool.and_false]
    simp
  ·rw [if_neg (by simpa using c)]
   refine hk _ _ ⟨zs,_,_,_,_,_,_,_,rfl,s2,g2,by omega,?_⟩
   rw [jdF es,he]
   unfold kpt
   rw [decide_eq_true (by split at c <;> omega),Bool.and_true]
theorem jgz {kk:Bool->Gp->Prop}(hP:0 < P)(bl:bs.length=W)(so:∀ s∈ss,s.Ok W)(sl:ss.length<=24)(q:∀ G',Sa G G'->kk (jaR P ss bs) G'):jab T (k + 2) jby [jae xs ss,.int P,jaf bs] G (fun x G1=>0<=sizeLine/\newO G1 (.lst []) fun y G2=>cmpU .Eq x y G2 fun c=>kk c G2) X:=by
 refine jhA hP bl so sl fun p zs G1 s1 g1 he=>⟨by decide,fun p2 G2 n2=>?_⟩
 simp! only []
 refine jiq (n:=0) (n2.sa _ _ g1) n2.at (fun u hu=>?_) (by decide) ?_
 ·obtain ⟨z,_,rfl⟩:=List.mem_map.mp hu
  exact Sml.int z
 ·rw [he]
  exact q _ (s1.trans n2.sa)
end

set_option maxHeartbeats 2000000
theorem pw_le {P:Int}{c W:Nat}(h:P<=c)(hc:c ^ (W - 1)<=300):P.toNat ^ (W - 1)<=300:=Nat.le_trans (Nat.pow_le_pow_left (by omega) (W - 1)) hc
structure Sok (W:Nat)(s:Spn):Prop where
 ok:s.Ok W
 le:s.w = "span" -> s.lo<=s.hi
section
variable {k:Nat}{G:Gp}{Q:K1}{X:KX}{xs:List Str}{ss:List Spn}{P:Int}{bs:List Int}{W:Nat}{f c:Addr}
theorem jhy (hf:Fd G f c)(q:∀ (W:Nat) (P m:Int) (G':Gp),1<=W->W<=8->1<=P->P<=300->P.toNat ^ (W - 1)<=300->1<=m->m<=24->Fd G' f c->Sm f G G'->Q (.tup [.int W,.int P,.int m]) G'):jab T (k + 2) jcA [.loc f] G Q X:=by
 refine ⟨rfl,?_⟩
 simp! only [jcL,jaj,List.replicate]
 refine jac hf (by decide) (by decide) fun r G1 a1 b1 f1 s1=>?_
 simp! only []
 by_cases hr:0 < r
 ·rw [if_pos (by simpa using hr)]
  simp! only []
  refine ⟨by decide,fun p G2 n2=>jac (f1.new n2) (by decide) (by decide) fun r3 G3 a3 b3 f3 s3=>?_⟩
  refine jbU [2,3,3,4,2,1] (s3 _ _ (f1.away n2).1 n2.at) a3 b3 fun z hz=>?_
  simp! only []
  refine ⟨by decide,fun p4 G4 n4=>?_⟩
  have S4:Sm f G G4:=((s1.nw n2).trans s3).nw n4
  have f4:=f3.new n4
  suffices h:∃ (W d:Nat),z=W/\1<=W/\W<=8/\atI [U.int 12,.int 24,.int 6,.int 3] (z - 1)=some (.int d)/\0 < d/\d<=300/\d ^ (W - 1)<=300 by
   obtain ⟨W,d,rfl,w1,w8,ha,d0,d1,dp⟩:=h
   dsimp only
   rw [ix_l n4.at ha]
   refine jac f4 (by omega) (by omega) fun r5 G5 a5 b5 f5 s5=>⟨by decide,?_⟩
   exact q W (1 + r5) 5 _ w1 w8 (by omega) (by omega) (pw_le (c:=d) (by omega) dp) (by decide) (by decide) f5 (S4.trans s5)
  simp only [List.mem_cons,List.not_mem_nil,or_false] at hz
  rcases hz with rfl | rfl | rfl | rfl | rfl | rfl
  ·exact ⟨2,24,rfl,by decide,by decide,jas (j:=1) rfl,by decide,by decide,by decide⟩
  ·exact ⟨3,6,rfl,by decide,by decide,jas (j:=2) rfl,by decide,by decide,by decide⟩
  ·exact ⟨3,6,rfl,by decide,by decide,jas (j:=2) rfl,by decide,by decide,by decide⟩
  ·exact ⟨4,3,rfl,by decide,by decide,jas (j:=3) rfl,by decide,by decide,by decide⟩
  ·exact ⟨2,24,rfl,by decide,by decide,jas (j:=1) rfl,by decide,by decide,by decide⟩
  ·exact ⟨1,12,rfl,by decide,by decide,jas (j:=0) rfl,by decide,by decide,by decide⟩
 ·rw [if_neg (by simpa using hr)]
  simp! only []
  refine jac f1 (by decide) (by decide) fun r2 G2 a2 b2 f2 s2=>?_
  simp! only []
  refine ⟨by decide,fun p3 G3 n3=>?_⟩
  have S3:Sm f G G3:=(s1.trans s2).nw n3
  suffices h:∃ (W d:Nat),2 + r2=W/\1<=W/\W<=8/\atI [U.int 300,.int 17,.int 6,.int 4,.int 3,.int 2,.int 2] (2 + r2 - 2)=some (.int d)/\0 < d/\d<=300/\d ^ (W - 1)<=300 by
   obtain ⟨W,d,hW,w1,w8,ha,d0,d1,dp⟩:=h
   dsimp only
   rw [ix_l n3.at ha]
   refine jac (f2.new n3) (by omega) (by omega) fun r5 G5 a5 b5 f5 s5=>?_
   simp! only []
   refine ⟨by decide,fun p6 G6 n6=>jac (f5.new n6) (by decide) (by decide) fun r7 G7 a7 b7 f7 s7=>?_⟩
   refine jbU [5,12,24] (s7 _ _ (f5.away n6).1 n6.at) a7 b7 fun m hm=>?_
   have hm':1<=m/\m<=24:=by simp only [List.mem_cons,List.not_mem_nil,or_false] at hm; omega
   rw [hW]
   exact ⟨by decide,q W (1 + r5) m _ w1 w8 (by omega) (by omega) (pw_le (c:=d) (by omega) dp) hm'.1 hm'.2 f7 (((S3.trans s5).nw n6).trans s7)⟩
  rcases (show r2=0\/r2=1\/r2=2\/r2=3\/r2=4\/r2=5\/r2=6 by omega) with rfl | rfl | rfl | rfl | rfl | rfl | rfl
  ·exact ⟨2,300,rfl,by decide,by decide,jas (j:=0) rfl,by decide,by decide,by decide⟩
  ·exact ⟨3,17,rfl,by decide,by decide,jas (j:=1) rfl,by decide,by decide,by decide⟩
  ·exact ⟨4,6,rfl,by decide,by decide,jas (j:=2) rfl,by decide,by decide,by decide⟩
  ·exact ⟨5,4,rfl,by decide,by decide,jas (j:=3) rfl,by decide,by decide,by decide⟩
  ·exact ⟨6,3,rfl,by decide,by decide,jas (j:=4) rfl,by decide,by decide,by decide⟩
  ·exact ⟨7,2,rfl,by decide,by decide,jas (j:=5) rfl,by decide,by decide,by decide⟩
  ·exact ⟨8,2,rfl,by decide,by decide,jas (j:=6) rfl,by decide,by decide,by decide⟩
noncomputable def nm8:List Str:=["a", "ab", "b", "ba", "abc", "z", "n", "at"]
theorem jlm:∀ x∈nm8,Nm x:=by
 have h:∀ x∈nm8,x.length<=8/\∀ c∈x.cps.toList,c < 128:=by decide +kernel
 exact fun x hx=>⟨(h x hx).1,(h x hx).2⟩
theorem jhx {m:Int}(hf:Fd G f c)(h1:1<=P)(h2:P<=300)(w0:0 < W)(w8:W<=8)(m0:1<=m)(m1:m<=24)
  (q:∀ (xs:List Str) (ss:List Spn) (G':Gp),xs.length=W->(∀ x∈xs,Nm x)->ss≠[]->ss.length<=24->(∀ s∈ss,Sok W s)->Fd G' f c->Sm f G G'->Q (jae xs ss) G'):jab T (k + 4) jcz [.loc f,.int W,.int m,.int P] G Q X:=by
 refine ⟨rfl,?_⟩
 simp! only [jcK,jaj,List.replicate]
 refine ⟨by omega,by omega,by rw [jam]; exact Nat.le_trans w8 (by decide),?_⟩
 refine jan (fun i acc G'=>Fd G' f c/\Sm f G G'/\∃ bs:List Int,acc=bs.map .int/\bs.length=i) ?_ ?_ ⟨hf,Sm.refl,[],rfl,rfl⟩
 ·rintro acc G1 ⟨f1,s1,bs,rfl,hl⟩
  rw [jam] at hl
  refine ⟨trivial,fun pb G2 n2=>?_⟩
  simp! only []
  refine ⟨by decide,fun p5 G3 n3=>?_⟩
  have f2:=f1.new n2
  have hb:=f1.away n2
  have h5:=f2.away n3
  have s2:=s1.nw n2
  refine jac (f2.new n3) (by omega) (by omega) fun m' G4 a4 b4 f4 s4=>?_
  have hb5:p5≠pb:=jau n2.at n3.no
  simp! only []
  refine ⟨by omega,by omega,?_⟩
  refine jao (fun i ς G'=>∃ (ss:List Spn) (o6 o7 o8 o9:Option U),ς=[some (.loc f),some (.int W),some (.int m),some (.int P),some (.loc pb),some (.loc p5),o6,o7,o8,o9]/\Fd G' f c/\Sm f G G'/\G' pb=some (.lst (bs.map .int))/\G' p5=some (.lst (ss.map Spn.u))/\ss.length=i/\∀ s∈ss,Sok W s) ?_ ?_
   ⟨[],_,_,_,_,rfl,f4,(s2.nw n3).trans s4,s4 _ _ hb.1 (n3.sa _ _ n2.at),s4 _ _ h5.1 n3.at,rfl,fun _ h=>(nomatch h)⟩
  ·rintro ς G5 ⟨ss,o6,o7,o8,o9,rfl,f5,s5,gb,g5,l5,o5⟩
   rw [jam] at l5
   refine ⟨trivial,?_⟩
   simp! only [jbG,it_l g5]
   refine ⟨by decide,by decide,?_⟩
   have e:cut [U.str "a",.str "ab",.str "b",.str "ba",.str "abc",.str "z",.str "n",.str "at"] none (some (W:Int))=(nm8.take W).map .str:=by
    rw [jgZ,List.map_take]; rfl
   rw [e]
   exact q _ ss _ (by rw [List.length_take]; exact Nat.min_eq_left w8) (fun x hx=>jlm x (List.mem_of_mem_take hx)) (fun z=>by rw [z] at l5; simp at l5; omega) (by omega) o5 f5 s5
  ·rintro i x ς G5 K hx ⟨ss,o6,o7,o8,o9,rfl,f5,s5,gb,g5,l5,o5⟩ hk
   obtain ⟨hi,rfl⟩:=jaA hx
   refine ⟨trivial,?_⟩
   simp! only []
   refine jac f5 (by decide) (by decide) fun way G6 a6 b6 f6 s6=>?_
   refine jbe f6 h1 (by omega) fun lo G7 a7 b7 f7 s7=>?_
   refine jac f7 (by omega) (by omega) fun r8 G8 a8 b8 f8 s8=>?_
   have S8:=s6.trans (s7.trans s8)
   have g8:=S8 _ _ h5.1 g5
   simp! only [jaY]
   refine ⟨by omega,?_⟩
   obtain ⟨t,ht⟩:∃ t:Nat,((i:Int) + 1 + r8) % (W:Int)=t:=⟨_,(Int.eq_ofNat_of_zero_le (Int.emod_nonneg _ (by omega))).choose_spec⟩
   have ht':(t:Int) < W:=by rw [<- ht]; exact Int.emod_lt_of_pos _ (by omega)
   obtain ⟨o,ho⟩:∃ o:Nat,(i:Int) % (W:Int)=o:=⟨_,(Int.eq_ofNat_of_zero_le (Int.emod_nonneg _ (by omega))).choose_spec⟩
   have ho':(o:Int) < W:=by rw [<- ho]; exact Int.emod_lt_of_pos _ (by omega)
   rw [ht]
   have add:∀ (s:Spn) (G9:Gp) (o8':Option U),Sok W s->Fd G9 f c->Sm f G8 G9->jaO .append (.loc p5) [s.u] G9 fun _ G1=>K [some (.loc f),some (.int W),some (.int m),some (.int P),some (.loc pb),some (.loc p5),some (.int i),some (.int way),some (.int lo),some (.int t)] G1:=fun s G9 _ os f9 s9=>by
    have g9:=s9 _ _ h5.1 g8
    rw [jcg g9]
    refine ⟨by rw [List.length_map]; exact Nat.lt_of_lt_of_le (show ss.length < 25 by omega) (by decide),fun Ga pa=>?_⟩
    refine hk _ _ ⟨ss++[s],_,_,_,_,rfl,f9.off h5 pa,Sm.wr s2 n3.no (s5.trans (S8.trans s9)) pa,pa.sm _ _ (Ne.symm hb5) (s9 _ _ hb.1 (S8 _ _ hb.1 gb)),by rw [List.map_append]; exact pa.at,by simp [l5],fun z hz=>?_⟩
    rcases List.mem_append.mp hz with z' | z'
    ·exact o5 z z'
    ·rw [List.mem_singleton.mp z']; exact os
   by_cases c1:way < 3
   ·rw [if_pos (by simpa using c1)]
    simp! only [jaH g8]
    exact jc5 f8 h1 (by omega) (S8 _ _ hb.1 gb) hb.1 hl w0 w8 fun s G9 os os' f9 s9=>add s G9 none ⟨os,os'⟩ f9 s9
   ·rw [if_neg (by simpa using c1)]
    simp! only []
    by_cases c2:way < 5
    ·rw [if_pos (by simpa using c2)]
     simp! only [jaH g8]
     refine ⟨by omega,by decide,by decide,jac f8 (by omega) (by omega) fun r9 G9 a9 b9 f9 s9=>⟨by decide,?_⟩⟩
     rw [ho]
     exact add ⟨"span",o,t,lo,lo + r9⟩ G9 none ⟨⟨.inr rfl,by dsimp only; omega,by dsimp only; omega,by dsimp only; omega,by dsimp only; omega⟩,fun _=>by dsimp only; omega⟩ f9 s9
    ·rw [if_neg (by simpa using c2)]
     simp! only [jaH g8]
     refine ⟨by omega,jbe f8 h1 (by omega) fun hi' G9 a9 b9 f9 s9=>⟨by decide,?_⟩⟩
     rw [ho]
     exact add ⟨"apart",t,o,lo,hi'⟩ G9 none ⟨⟨.inl rfl,by dsimp only; omega,by dsimp only; omega,by dsimp only; omega,by dsimp only; omega⟩,fun z=>absurd (show ("apart" : Str) = "span" from z) (by decide +kernel)⟩ f9 s9
 ·rintro i x acc G1 K hx ⟨f1,s1,bs,rfl,hl⟩ hk _
  exact ⟨trivial,jac f1 (by omega) (by omega) fun r G2 a2 b2 f2 s2=>hk _ _ ⟨f2,s1.trans s2,bs++[r],by simp,by simp [hl]⟩⟩
theorem jlj (hf:Fd G f c)(h1:1<=P)(h2:P<=300)(sl:ss.length<=24)(so:∀ s∈ss,Sok W s)(q:∀ (ss':List Spn) (G':Gp),ss'.length=ss.length->(∀ s∈ss',Sok W s)->Fd G' f c->Sm f G G'->Q (jae xs ss') G'):jab T (k + 2) jd1 [.loc f,jae xs ss,.int P] G Q X:=by
 refine ⟨rfl,?_⟩
 simp! only [jeh,jaj,List.replicate]
 refine ⟨by decide,fun p G1 n1=>?_⟩
 have hp:=hf.away n1
 simp! only [jae,ix_t (jdE _ _ _)]
 refine jao (fun i ς G'=>∃ (ss':List Spn) (o4 o5 o6 o7 o8 o9:Option U),ς=[some (.loc f),some (jae xs ss),some (.int P),some (.loc p),o4,o5,o6,o7,o8,o9]/\Fd G' f c/\Sm f G G'/\G' p=some (.lst (ss'.map Spn.u))/\ss'.length=i/\∀ s∈ss',Sok W s) ?_ ?_ ⟨[],_,_,_,_,_,_,rfl,hf.new n1,n1.sa.sm,n1.at,rfl,fun _ h=>(nomatch h)⟩
 ·rintro ς G2 ⟨ss',o4,o5,o6,o7,o8,o9,rfl,f2,s2,g2,l2,k2⟩
  rw [List.length_map] at l2
  refine ⟨trivial,?_⟩
  simp! only [jae,ix_t (jbZ _ _),it_l g2]
  exact ⟨by decide,q ss' _ l2 k2 f2 s2⟩
 ·rintro i x ς G2 K hx ⟨ss',o4,o5,o6,o7,o8,o9,rfl,f2,s2,g2,l2,k2⟩ hk
  rw [List.getElem?_map] at hx
  cases es:ss[i]? with
  | none=>rw [es] at hx; cases hx
  | some s=>
   rw [es] at hx
   have hx:=(Option.some.inj hx).symm
   subst hx
   have il:i < 24:=Nat.lt_of_lt_of_le (List.getElem?_eq_some_iff.mp es).1 sl
   have os:=so s (List.mem_of_getElem? es)
   have w:=os.ok.w
   have lo:=os.ok.lo
   have hi:=os.ok.hi
   refine ⟨trivial,?_⟩
   rw [show s.u=.tup [.str s.w,.int s.o,.int s.t,.int s.lo,.int s.hi] from rfl]
   simp! only []
   refine ⟨trivial,?_⟩
   have add:∀ (by':Int) (G9:Gp),Sok W ⟨s.w,s.o,s.t,s.lo + by',s.hi + by'⟩->Fd G9 f c->Sm f G2 G9->jaO .append (.loc p) [.tup [.str s.w,.int s.o,.int s.t,.int (s.lo + by'),.int (s.hi + by')]] G9 fun _ G1=>K [some (.loc f),some (jae xs ss),some (.int P),some (.loc p),some (.str s.w),some (.int s.o),some (.int s.t),some (.int s.lo),some (.int s.hi),some (.int by')] G1:=fun by' G9 os9 f9 s9=>by
    have g9:=s9 _ _ hp.1 g2
    rw [jcg g9]
    refine ⟨by rw [List.length_map]; exact Nat.lt_of_lt_of_le (show ss'.length < 25 by omega) (by decide),fun Ga pa=>?_⟩
    refine hk _ _ ⟨ss'++[⟨s.w,s.o,s.t,s.lo + by',s.hi + by'⟩],_,_,_,_,_,_,rfl,f9.off hp pa,Sm.wr Sm.refl n1.no (s2.trans s9) pa,by rw [List.map_append]; exact pa.at,by simp [l2],fun z hz=>?_⟩
    rcases List.mem_append.mp hz with z' | z'
    ·exact k2 z z'
    ·rw [List.mem_singleton.mp z']; exact os9
   by_cases c1:s.w = "span"
   ·rw [if_pos (by simpa using c1)]
    have d0:0<=(9999 - s.hi) / P:=Int.ediv_nonneg (by omega) (by omega)
    have d1:P * ((9999 - s.hi) / P)<=9999 - s.hi:=Int.mul_ediv_self_le (by omega)
    have d2:(9999 - s.hi) / P<=9999:=by
     have:=Int.mul_le_mul_of_nonneg_right h1 d0
     omega
    simp! only []
    refine ⟨by omega,by omega,jac f2 (by omega) (by omega) fun r G3 a3 b3 f3 s3=>⟨.inl (by constructor <;> omega),?_⟩⟩
    have g3:=s3 _ _ hp.1 g2
    have e0:0<=P * r:=Int.mul_nonneg (by omega) a3
    have e1:P * r<=P * ((9999 - s.hi) / P):=Int.mul_le_mul_of_nonneg_left (by omega) (by omega)
    have le:=os.le c1
    simp! only [jaH g3]
    exact ⟨by decide,add (P * r) G3 ⟨⟨w,os.ok.o,os.ok.t,by dsimp only; omega,by dsimp only; omega⟩,fun _=>by dsimp only; omega⟩ f3 s3⟩
   ·rw [if_neg (by simpa using c1)]
    simp! only [jaH g2]
    exact ⟨by decide,add 0 G2 ⟨⟨w,os.ok.o,os.ok.t,by dsimp only; omega,by dsimp only; omega⟩,fun z=>absurd z c1⟩ f2 Sm.refl⟩
theorem jdW (hf:Fd G f c)(q:∀ (xs:List Str) (ss:List Spn) (P:Int) (G':Gp),1<=xs.length->xs.length<=8->1<=P->P<=300->P.toNat ^ (xs.length - 1)<=300->(∀ x∈xs,Nm x)->ss≠[]->ss.length<=24->(∀ s∈ss,Sok xs.length s)->Fd G' f c->Q (.tup [jae xs ss,.int P]) G'):jab T (k + 5) jbh [.loc f] G Q X:=by
 refine ⟨rfl,?_⟩
 simp! only [jbk,jaj,List.replicate]
 refine jhy hf fun W P m G1 w1 w8 p1 p2 pw m1 m2 f1 s1=>?_
 simp! only []
 refine ⟨trivial,jhx f1 p1 p2 (by omega) w8 m1 m2 fun xs ss G2 xl nm ne sl so f2 s2=>?_⟩
 subst xl
 simp! only []
 refine jac f2 (by decide) (by decide) fun r G3 a3 b3 f3 s3=>?_
 simp! only []
 by_cases hr:r=0
 ·rw [if_pos (by simpa using hr)]
  simp! only []
  refine jlj (xs:=xs) f3 p1 p2 sl so fun ss' G4 l4 so4 f4 s4=>⟨by decide,?_⟩
  exact q xs ss' P _ w1 w8 p1 p2 pw nm (fun z=>by rw [z] at l4; exact ne (List.length_eq_zero_iff.mp l4.symm)) (by omega) so4 f4
 ·rw [if_neg (by simpa using hr)]
  simp! only []
  exact ⟨by decide,q xs ss P _ w1 w8 p1 p2 pw nm ne sl so f3⟩
end

set_option maxHeartbeats 2000000
theorem jfm {ok:Gp->Prop}{b:U->List U->Gp->(List U->Gp->Prop)->Prop}{k:List U->Gp->Prop}:∀ {xs:List U} (I:Nat->List U->Gp->Prop) (_:∀ acc G,I xs.length acc G->ok G/\k acc G)
  (_:∀ i x acc G (K:List U->Gp->Prop),xs[i]?=some x->I i acc G->(∀ acc' G',I (i + 1) acc' G'->K acc' G')->ok G/\b x acc G K) {acc:List U} {G:Gp} (_:I 0 acc G),jfN ok b xs acc G k
 | [],_,h0,_,_,_,h=>h0 _ _ h
 | x::_,I,h0,h1,_,_,h=>h1 0 x _ _ _ rfl h fun _ _ h'=>jfm (fun i=>I (i + 1)) h0 (fun i y a G K e hi hk=>h1 (i + 1) y a G K e hi hk) h'
theorem jgO {α β:Type}{f:α->List β}{l:List α}{i:Nat}{a:α}(h:l[i]?=some a):(l.take (i + 1)).flatMap f=(l.take i).flatMap f++f a:=by
 rw [List.take_succ,h,List.flatMap_append]; simp
theorem jin {fs:List Int}{P w:Nat}{rows:List (List Int)}(hP:1<=P)(h2:P<=300)(hr:rows.length<=300)(i:Nat):((rows.take i).flatMap (rowX fs P w)).length<=90000:=by
 rw [jfg]
 have h1:(rows.take i).length<=300:=by rw [List.length_take]; omega
 have h2:=Nat.le_trans (jgp (fs:=fs) hP w) h2
 exact Nat.le_trans (Nat.mul_le_mul h1 h2) (by decide)
section
variable {k:Nat}{G:Gp}{Q:K1}{X:KX}{xs:List Str}{ss:List Spn}{P:Int}{bs:List Int}{W:Nat}
theorem jlI {a:Addr}{zs:List Int}{z:Int}{kk:Bool->Prop}(g:G a=some (.lst (zs.map .int)))(q:kk (decide (z∈zs))):inU (.int z) (.loc a) G kk:=by
 refine in_l g rfl (jbV _) ?_
 rw [jea]
 exact q
theorem jdo {b:List Int}{i:Nat}:(List.range (i + 1)).map (fun (j:Nat)=>jaf (b++[(j:Int)]))=(List.range i).map (fun (j:Nat)=>jaf (b++[(j:Int)]))++[U.tup (b.map U.int++[.int i])]:=by
 rw [List.range_succ,List.map_append]; simp [jaf]
theorem jg7 {K:Sg->Gp->Prop}{D:En}{u0:Option U}{p2 pf pl:Addr}{zs:List Int}{rows rl:List (List Int)}{w:Nat}{b:List Int}{G3:Gp}(h1:1<=P)(h2:P<=300)(w8:w < 8)(hb:b.length=w)(g2:G3 p2=some (.lst (zs.map .int)))(gf:G3 pf=some (.lst (rows.map jaf)))(gl:G3 pl=some (.lst (rl.map jaf)))(l2:pl≠p2)(lf:pl≠pf)(fr:G pl=none)(s3:Sa G G3)(rb:rl.length<=90000)(hD:D.nx=K)
  (kk:∀ (G':Gp),Sa G G'->G' p2=some (.lst (zs.map .int))->G' pf=some (.lst (rows.map jaf))->G' pl=some (.lst ((rl++rowX zs P.toNat w b).map jaf))->K [u0,some (.int P),some (.loc p2),some (.loc pf),some (.int w),some (.loc pl),some (jaf b)] G') :
  jay T.gs (jab T k) jaE D [u0,some (.int P),some (.loc p2),some (.loc pf),some (.int w),some (.loc pl),some (jaf b)] G3:=by
 have nb:=jgp (fs:=zs) (P:=P.toNat) (by omega) w
 have fin:newO G3 (.lst ((List.range (nB zs P.toNat w)).map fun (j:Nat)=>jaf (b++[(j:Int)]))) fun x G1=>jaO .extend (.loc pl) [x] G1 fun _ G1=>K [u0,some (.int P),some (.loc p2),some (.loc pf),some (.int w),some (.loc pl),some (jaf b)] G1:=fun p9 G4 n4=>by
  dsimp only
  rw [jlL (n4.sa _ _ gl) n4.at]
  refine ⟨by rw [List.length_map,List.length_map,List.length_range]; exact Nat.le_trans (show _<=90300 by omega) (by decide),fun G5 p5=>?_⟩
  refine kk G5 (fun c u e=>p5.sm _ _ (fun z=>by rw [z,fr] at e; cases e) (n4.sa _ _ (s3 _ _ e))) (p5.sm _ _ (Ne.symm l2) (n4.sa _ _ g2)) (p5.sm _ _ (Ne.symm lf) (n4.sa _ _ gf)) ?_
  rw [List.map_append,rowX,List.map_map]
  exact p5.at
 simp! only [jaE,jid gl]
 refine jlI g2 ?_
 by_cases c:(w:Int)∈zs
 ·have e:nB zs P.toNat w=((1:Int)).toNat:=by unfold nB; rw [if_pos c]; rfl
  rw [e] at fin
  rw [if_pos (decide_eq_true c)]
  refine ⟨by decide,by decide,by decide,?_⟩
  refine jan (fun i acc G'=>G'=G3/\acc=(List.range i).map fun (j:Nat)=>jaf (b++[(j:Int)])) ?_ ?_ ⟨rfl,rfl⟩
  ·rintro acc G4 ⟨rfl,rfl⟩
   rw [jam,hD]
   exact ⟨trivial,fin⟩
  ·rintro i x acc G4 K4 hx ⟨rfl,rfl⟩ hk _
   obtain ⟨hi,rfl⟩:=jaA hx
   refine ⟨trivial,?_⟩
   simp! only [jaf]
   refine ⟨by decide,by rw [List.length_map]; exact Nat.le_trans (show b.length + _<=9 by omega) (by decide),?_⟩
   refine hk _ _ ⟨rfl,jdo.symm⟩
 ·have e:nB zs P.toNat w=P.toNat:=by unfold nB; rw [if_neg c]
  rw [e] at fin
  rw [if_neg (by rw [decide_eq_false c]; decide)]
  refine ⟨by omega,by omega,by rw [jam]; exact Nat.le_trans (show P.toNat<=300 by omega) (by decide),?_⟩
  refine jan (fun i acc G'=>G'=G3/\acc=(List.range i).map fun (j:Nat)=>jaf (b++[(j:Int)])) ?_ ?_ ⟨rfl,rfl⟩
  ·rintro acc G4 ⟨rfl,rfl⟩
   rw [jam,hD]
   exact ⟨trivial,fin⟩
  ·rintro i x acc G4 K4 hx ⟨rfl,rfl⟩ hk _
   obtain ⟨hi,rfl⟩:=jaA hx
   refine ⟨trivial,?_⟩
   simp! only [jaf]
   refine ⟨by decide,by rw [List.length_map]; exact Nat.le_trans (show b.length + _<=9 by omega) (by decide),?_⟩
   refine hk _ _ ⟨rfl,jdo.symm⟩
theorem jec {α:Type}{f:α->Bool}{l:List α}{i:Nat}{a:α}(h:l[i]?=some a):(l.take (i + 1)).filter f=(l.take i).filter f++if f a=true then [a] else []:=by
 rw [List.take_succ,h,List.filter_append]
 cases e:f a <;> simp [e]
theorem jll (w0:0 < xs.length)(w8:xs.length<=8)(so:∀ s∈ss,s.Ok xs.length)(sl:ss.length<=24)(h1:1<=P)(h2:P<=300)(pw:P.toNat ^ (xs.length - 1)<=300)
  (q:∀ (ks:List (List Int)) (p:Addr) (G':Gp),IsP xs.length (edg ss) ks->ks.Pairwise Sl->Sa G G'->G p=none->G' p=some (.lst (((jaC (ks.map (·.headD 0)) P.toNat xs.length).filter (jaR P ss)).map jaf))->Q (.loc p) G'):jab T (k + 3) jd3 [jae xs ss,.int P] G Q X:=by
 refine ⟨rfl,?_⟩
 simp! only [jej,jaj,List.replicate]
 refine jbf so w8 fun p as ks' G1 s1 hs hP hs' kl _=>?_
 have q:=q ks'
 have h0:=jhK hP w0
 generalize ezs:ks'.map (·.headD 0)=zs at h0 q
 have P1:1<=P.toNat:=by omega
 have P3:P.toNat<=300:=by omega
 rw [it_l hs.gp]
 refine ⟨by rw [List.length_map,hs.l]; exact Nat.le_trans kl (by decide),?_⟩
 refine jan (fun i acc G'=>G'=G1/\acc=(zs.take i).map .int) ?_ ?_ ⟨rfl,rfl⟩
 ·rintro acc G2 ⟨rfl,rfl⟩
  have el:zs.length=as.length:=by rw [<- ezs,List.length_map,hs.l]
  rw [List.length_map,<- el,List.take_length]
  refine ⟨by unfold lsG; rw [hs.gp],fun p2 G3 n3=>?_⟩
  simp! only [jcu]
  refine ⟨by decide,by decide,fun p3 G4 n4=>?_⟩
  simp! only [jct,jae,ix_t (jbZ _ _),List.length_map]
  refine ⟨by omega,by omega,?_⟩
  refine jao (fun i ς G'=>∃ (pf:Addr) (o4 o5 o6:Option U),ς=[some (jae xs ss),some (.int P),some (.loc p2),some (.loc pf),o4,o5,o6]/\Sa G G'/\G' p2=some (.lst (zs.map .int))/\G' pf=some (.lst ((jaC zs P.toNat i).map jaf))) ?_ ?_ ⟨p3,_,_,_,rfl,(s1.trans n3.sa).trans n4.sa,n4.sa _ _ n3.at,n4.at⟩
  ·rintro ς G5 ⟨pf,o4,o5,o6,rfl,s5,g2,gf⟩
   rw [jam] at gf
   have r3:=jbM h0 P1 pw (Nat.le_refl _)
   refine ⟨trivial,?_⟩
   simp! only [jcs,it_l gf]
   refine ⟨by rw [List.length_map]; exact Nat.le_trans r3 (by decide),?_⟩
   refine jan (fun i acc G'=>Sa G5 G'/\acc=(((jaC zs P.toNat xs.length).take i).filter (jaR P ss)).map jaf) ?_ ?_ ⟨Sa.refl,rfl⟩
   ·rintro acc G6 ⟨s6,rfl⟩
    rw [List.length_map,List.take_length]
    refine ⟨by unfold lsG; rw [s6 _ _ gf],fun p7 G7 n7=>?_⟩
    exact q p7 G7 hP hs' ((s5.trans s6).trans n7.sa) (jbn (s5.trans s6) n7.no) n7.at
   ·rintro i x acc G6 K6 hx ⟨s6,rfl⟩ hk hn
    rw [List.getElem?_map] at hx
    cases es:(jaC zs P.toNat xs.length)[i]? with
    | none=>rw [es] at hx; cases hx
    | some b=>
     rw [es] at hx
     have hx:=(Option.some.inj hx).symm
     subst hx
     have bl:=(jaP.mp (List.mem_of_getElem? es)).1
     have ft:=jec (f:=jaR P ss) es
     refine ⟨by unfold lsG; rw [s6 _ _ gf],?_⟩
     simp! only []
     refine jgz (by omega) bl so sl fun G7 s7=>?_
     cases c:jaR P ss b with
     | true=>
      rw [c,if_pos rfl] at ft
      rw [if_pos rfl]
      exact hk _ _ ⟨s6.trans s7,by rw [ft,List.map_append]; rfl⟩
     | false=>
      rw [c,if_neg (by decide),List.append_nil] at ft
      rw [if_neg (by decide)]
      exact hn _ ⟨s6.trans s7,by rw [ft]⟩
  ·rintro w x ς G5 K hx ⟨pf,o4,o5,o6,rfl,s5,g2,gf⟩ hk
   obtain ⟨hw,rfl⟩:=jaA hx
   have r3:=jbM (w:=w) h0 P1 pw (by omega)
   refine ⟨trivial,?_⟩
   simp! only [jbt]
   refine ⟨by decide,fun pl G6 n6=>?_⟩
   have fr:G pl=none:=jbn s5 n6.no
   have l2:pl≠p2:=jau g2 n6.no
   have lf:pl≠pf:=jau gf n6.no
   have gf6:=n6.sa _ _ gf
   simp! only [it_l gf6]
   refine jao (fun j ς G'=>∃ o6:Option U,ς=[some (jae xs ss),some (.int P),some (.loc p2),some (.loc pf),some (.int w),some (.loc pl),o6]/\Sa G G'/\G' p2=some (.lst (zs.map .int))/\G' pf=some (.lst ((jaC zs P.toNat w).map jaf))/\G' pl=some (.lst ((((jaC zs P.toNat w).take j).flatMap (rowX zs P.toNat w)).map jaf))) ?_ ?_ ⟨_,rfl,s5.trans n6.sa,n6.sa _ _ g2,gf6,n6.at⟩
   ·rintro ς G7 ⟨o6,rfl,s7,g27,gf7,gl7⟩
    rw [List.length_map,List.take_length] at gl7
    refine ⟨by unfold lsG; rw [gf7],?_⟩
    simp! only [jbs]
    exact hk _ _ ⟨pl,_,_,_,rfl,s7,g27,gl7⟩
   ·rintro j y ς G7 K7 hy ⟨o6,rfl,s7,g27,gf7,gl7⟩ hk7
    rw [List.getElem?_map] at hy
    cases es:(jaC zs P.toNat w)[j]? with
    | none=>rw [es] at hy; cases hy
    | some b=>
     rw [es] at hy
     have hy:=(Option.some.inj hy).symm
     subst hy
     have bl:=(jaP.mp (List.mem_of_getElem? es)).1
     refine ⟨by unfold lsG; rw [gf7],?_⟩
     simp! only []
     refine jg7 h1 h2 (by omega) bl g27 gf7 gl7 l2 lf fr s7 (jin P1 P3 r3 j) rfl fun G8 s8 g28 gf8 gl8=>hk7 _ _ ⟨_,rfl,s8,g28,gf8,?_⟩
     rw [gl8,jgO es]
 ·rintro i x acc G2 K hx ⟨rfl,rfl⟩ hk _
  rw [List.getElem?_map] at hx
  cases ea:as[i]? with
  | none=>rw [ea] at hx; cases hx
  | some a=>
   rw [ea] at hx
   have hx:=(Option.some.inj hx).symm
   subst hx
   have hi:i < ks'.length:=by rw [<- hs.l]; exact (List.getElem?_eq_some_iff.mp ea).1
   have ek:=List.getElem?_eq_getElem hi
   have ga:=hs.ga i a _ ea ek
   have ne:=hP.ne _ (List.getElem_mem hi)
   refine ⟨by unfold lsG; rw [hs.gp],?_⟩
   simp! only []
   generalize ks'[i]=kp at ga ne ek
   cases kp with
   | nil=>exact absurd rfl ne
   | cons z l=>
    rw [ix_l ga (jbZ _ _)]
    have ez:zs[i]?=some z:=by rw [<- ezs,List.getElem?_map,ek]; rfl
    exact hk _ _ ⟨rfl,by rw [List.take_succ,ez,List.map_append]; rfl⟩
end

set_option maxHeartbeats 2000000
theorem jmL {a:Addr}{us:List U}{G:Gp}{kk:Bool->Prop}(g:G a=some (.lst us)):truU (.loc a) G kk=kk (!us.isEmpty):=by unfold truU; dsimp only; rw [g]
section
variable {k:Nat}{G:Gp}{Q:K1}{X:KX}{xs:List Str}{ss:List Spn}{P:Int}{bs:List Int}{W:Nat}
theorem jfC {p:List Int}(pl:p.length<=8)(q:∀ (a:Addr) (G':Gp),Sa G G'->G' a=some (.lst [])->Q (.loc a) G'):jab T (k + 1) jdZ [jaf p,.tup []] G Q X:=by
 refine ⟨rfl,?_⟩
 simp! only [jef,jaj,List.replicate,jaf]
 refine ⟨by rw [List.length_map]; exact Nat.le_trans pl (by decide),?_⟩
 refine jan (fun i acc G'=>G'=G/\acc=[]) ?_ ?_ ⟨rfl,rfl⟩
 ·rintro acc G1 ⟨rfl,rfl⟩
  exact ⟨trivial,fun a G2 n2=>q a G2 n2.sa n2.at⟩
 ·rintro i x acc G1 K hx ⟨rfl,rfl⟩ hk hn
  rw [List.getElem?_map] at hx
  cases e:p[i]? with
  | none=>rw [e] at hx; cases hx
  | some z=>
   rw [e] at hx
   have hx:=(Option.some.inj hx).symm
   subst hx
   refine ⟨trivial,?_⟩
   simp! only []
   exact ⟨rfl,rfl,hn _ ⟨rfl,rfl⟩⟩
theorem jhw {W:Nat}{es:List (Int×Int)}{ps:List (List Int)}(h:IsP W es ps)(w8:W<=8){p:List Int}(hp:p∈ps):p.length<=8:=
 Nat.le_trans (jaJ W p ((h.as p hp).imp fun {a b} g e=>by omega) (h.bd p hp)) w8
theorem jhv {W:Nat}{es:List (Int×Int)}{ps:List (List Int)}(h:IsP W es ps)(w0:0 < W):1<=ps.length:=by
 obtain ⟨p,hp,_⟩:=h.al 0 (by omega) (by omega)
 exact List.length_pos_of_mem hp
theorem jfD (w0:0 < xs.length)(w8:xs.length<=8)(so:∀ s∈ss,s.Ok xs.length)(sl:ss.length<=24)(h1:1<=P)(h2:P<=300)(pw:P.toNat ^ (xs.length - 1)<=300)
  (q:∀ (z:Int) (G':Gp),z<=300->Sa G G'->Q (.int z) G'):jab T (k + 4) jd0 [jae xs ss,.int P,.tup []] G Q X:=by
 refine ⟨rfl,?_⟩
 simp! only [jeg,jaj,List.replicate]
 refine jcx so sl w8 fun ps G1 hP hs pl s1=>?_
 have pn:=jhv hP w0
 simp! only [jge]
 refine ⟨by rw [List.length_map]; exact Nat.le_trans pl (by decide),?_⟩
 refine jan (fun i acc G'=>Sa G1 G'/\acc=(ps.take i).map jaf) ?_ ?_ ⟨Sa.refl,rfl⟩
 ·rintro acc G2 ⟨s2,rfl⟩
  rw [List.length_map,List.take_length]
  refine ⟨trivial,fun p3 G3 n3=>?_⟩
  simp! only [jcr]
  simp! only [jcq,jae,ix_t (jbZ _ _),List.length_map,jd5 n3.at]
  refine ⟨by omega,by omega,?_⟩
  refine jao (fun i ς G'=>G'=G3/\∃ o5,ς=[some (jae xs ss),some (.int P),some (.tup []),some (.loc p3),some (.int ((P.toNat ^ i:Nat):Int)),o5]) ?_ ?_ ⟨rfl,_,rfl⟩
  ·rintro ς G4 ⟨rfl,o5,rfl⟩
   rw [jam]
   refine ⟨trivial,?_⟩
   simp! only []
   refine q _ _ ?_ ((s1.trans s2).trans n3.sa)
   have:P.toNat ^ ((xs.length:Int) - ((0:Nat):Int) - (ps.length:Int)).toNat<=300:=Nat.le_trans (Nat.pow_le_pow_right (by omega) (by omega)) pw
   omega
  ·rintro i x ς G4 K hx ⟨rfl,o5,rfl⟩ hk
   obtain ⟨hi,rfl⟩:=jaA hx
   refine ⟨trivial,?_⟩
   simp! only []
   have b1:P.toNat ^ i<=300:=Nat.le_trans (Nat.pow_le_pow_right (by omega) (by omega)) pw
   generalize ez:P.toNat ^ i=z at b1
   refine ⟨.inr (by constructor <;> omega),hk _ _ ⟨rfl,some (.int (i:Int)),?_⟩⟩
   have e:((P.toNat ^ (i + 1):Nat):Int)=(z:Int) * P:=by rw [Nat.pow_succ,ez,Int.natCast_mul]; congr 1; omega
   rw [e]
 ·rintro i x acc G2 K hx ⟨s2,rfl⟩ hk hn
  rw [List.getElem?_map] at hx
  cases e:ps[i]? with
  | none=>rw [e] at hx; cases hx
  | some z=>
   rw [e] at hx
   have hx:=(Option.some.inj hx).symm
   subst hx
   refine ⟨trivial,?_⟩
   simp! only []
   refine jfC (jhw hP w8 (List.mem_of_getElem? e)) fun a G3 s3 g3=>?_
   rw [jmL g3]
   rw [if_pos (by decide)]
   exact hk _ _ ⟨s2.trans s3,by rw [List.take_succ,e,List.map_append]; rfl⟩
theorem jgl (w0:0 < xs.length)(w8:xs.length<=8)(so:∀ s∈ss,s.Ok xs.length)(sl:ss.length<=24)(h1:1<=P)(h2:P<=300)(pw:P.toNat ^ (xs.length - 1)<=300)
  (q:∀ (G':Gp),Sa G G'->Q .non G'):jab T (k + 5) jbu [jae xs ss,.int P,.tup []] G Q X:=by
 refine ⟨rfl,?_⟩
 simp! only [jbv,jaj,List.replicate]
 refine jfD w0 w8 so sl h1 h2 pw fun z G1 hz s1=>?_
 simp! only [gs24,glU]
 rw [if_neg (by simp; omega)]
 exact q _ s1
theorem jjm (w0:0 < xs.length)(w8:xs.length<=8)(so:∀ s∈ss,s.Ok xs.length)(sl:ss.length<=24)(h1:1<=P)(h2:P<=300)(pw:P.toNat ^ (xs.length - 1)<=300)
  (q:∀ (ps:List (List Int)) (p:Addr) (G':Gp),IsP xs.length (edg ss) ps->ps.Pairwise Sl->Sa G G'->G' p=some (.lst ((jaC (ps.map (·.headD 0)) P.toNat xs.length).map jaf))->Q (.loc p) G'):jab T (k + 4) jbP [jae xs ss,.int P] G Q X:=by
 refine ⟨rfl,?_⟩
 simp! only [jbW,jaj,List.replicate]
 refine jcx so sl w8 fun ps G1 hP hs pl s1=>?_
 have q:=q ps
 have h0:=jhK hP w0
 generalize ezs:ps.map (·.headD 0)=zs at h0 q
 have P1:1<=P.toNat:=by omega
 have P3:P.toNat<=300:=by omega
 simp! only [jge]
 refine ⟨by rw [List.length_map]; exact Nat.le_trans pl (by decide),?_⟩
 refine jan (fun i acc G'=>G'=G1/\acc=(zs.take i).map .int) ?_ ?_ ⟨rfl,rfl⟩
 ·rintro acc G2 ⟨rfl,rfl⟩
  have el:zs.length=ps.length:=by rw [<- ezs,List.length_map]
  rw [List.length_map,<- el,List.take_length]
  refine ⟨trivial,fun p2 G3 n3=>?_⟩
  simp! only []
  refine ⟨by decide,by decide,fun p3 G4 n4=>?_⟩
  simp! only [ja7,jae,ix_t (jbZ _ _),List.length_map]
  refine ⟨by omega,by omega,?_⟩
  refine jao (fun i ς G'=>∃ (pf:Addr) (o4 o5:Option U),ς=[some (jae xs ss),some (.int P),some (.loc p2),some (.loc pf),o4,o5]/\Sa G G'/\G' p2=some (.lst (zs.map .int))/\G' pf=some (.lst ((jaC zs P.toNat i).map jaf))) ?_ ?_ ⟨p3,_,_,rfl,(s1.trans n3.sa).trans n4.sa,n4.sa _ _ n3.at,n4.at⟩
  ·rintro ς G5 ⟨pf,o4,o5,rfl,s5,g2,gf⟩
   rw [jam] at gf
   refine ⟨trivial,?_⟩
   simp! only [ja6]
   exact q pf G5 hP hs s5 gf
  ·rintro w x ς G5 K hx ⟨pf,o4,o5,rfl,s5,g2,gf⟩ hk
   obtain ⟨hw,rfl⟩:=jaA hx
   have r3:=jbM (w:=w) h0 P1 pw (by omega)
   refine ⟨trivial,?_⟩
   simp! only []
   refine jlI g2 ?_
   have go:∀ (n:Nat),n=nB zs P.toNat w->(if decide ((w:Int)∈zs)=true then (1:Int) else P)=(n:Int):=fun n hn=>by
    rw [hn]; unfold nB; split <;> rename_i c <;> simp at c <;> simp [c]; omega
   suffices h:∀ (n:Nat),n=nB zs P.toNat w->denE T.gs (jab T (k + 3)) (.lc2 [none,none,some 5] (.n 0) (.e (.v 3)) .nil (.n 1) (.r1 (.v 2)) .nil (.bin .Add (.v 0) (.tup (.cons (.v 1) .nil)))) [some (jae xs ss),some (.int P),some (.loc p2),some (.loc pf),some (.int w),some (.int (n:Int))] G5 (fun u G1=>K [some (jae xs ss),some (.int P),some (.loc p2),some u,some (.int w),some (.int (n:Int))] G1) (fun x G1=>X x G1) by
    have h':=h _ rfl
    have e:=go _ rfl
    by_cases c:(w:Int)∈zs
    ·rw [if_pos (decide_eq_true c)] at e ⊢
     rw [<- e] at h'
     exact h'
    ·rw [if_neg (by simpa using c)] at e ⊢
     rw [<- e] at h'
     exact h'
   intro n hn
   have nb:=jgp (fs:=zs) P1 w
   unfold denE
   simp! only [it_l gf]
   refine jfm (fun i acc G'=>G'=G5/\acc=(((jaC zs P.toNat w).take i).flatMap (rowX zs P.toNat w)).map jaf) ?_ ?_ ⟨rfl,rfl⟩
   ·rintro acc G6 ⟨rfl,rfl⟩
    rw [List.length_map,List.take_length]
    exact ⟨by unfold lsG; rw [gf],fun p7 G7 n7=>hk _ _ ⟨p7,_,_,rfl,s5.trans n7.sa,n7.sa _ _ g2,n7.at⟩⟩
   ·rintro i y acc G6 K6 hy ⟨rfl,rfl⟩ hk6
    rw [List.getElem?_map] at hy
    cases es:(jaC zs P.toNat w)[i]? with
    | none=>rw [es] at hy; cases hy
    | some b=>
     rw [es] at hy
     have hy:=(Option.some.inj hy).symm
     subst hy
     have bl:=(jaP.mp (List.mem_of_getElem? es)).1
     have f3:=jin (fs:=zs) (w:=w) P1 P3 r3 i
     refine ⟨by unfold lsG; rw [gf],?_⟩
     simp! only [jaS,Option.join]
     refine ⟨by omega,by omega,by rw [jam,List.length_map]; exact Nat.le_trans (show _<=90300 by omega) (by decide),?_⟩
     refine jan (fun j acc G'=>G'=G6/\acc=(((jaC zs P.toNat w).take i).flatMap (rowX zs P.toNat w)).map jaf++(List.range j).map fun (j:Nat)=>jaf (b++[(j:Int)])) ?_ ?_ ⟨rfl,by simp⟩
     ·rintro acc G7 ⟨rfl,rfl⟩
      rw [jam]
      refine ⟨trivial,hk6 _ _ ⟨rfl,?_⟩⟩
      rw [jgO es,List.map_append,rowX,<- hn,List.map_map]
      congr 1
     ·rintro j z acc G7 K7 hz ⟨rfl,rfl⟩ hk7 _
      obtain ⟨hj,rfl⟩:=jaA hz
      refine ⟨trivial,?_⟩
      simp! only [jaf]
      refine ⟨by decide,by rw [List.length_map]; exact Nat.le_trans (show b.length + _<=9 by omega) (by decide),?_⟩
      refine hk7 _ _ ⟨rfl,?_⟩
      rw [jdo,List.append_assoc]
 ·rintro i x acc G2 K hx ⟨rfl,rfl⟩ hk _
  rw [List.getElem?_map] at hx
  cases ek:ps[i]? with
  | none=>rw [ek] at hx; cases hx
  | some kp=>
   rw [ek] at hx
   have hx:=(Option.some.inj hx).symm
   subst hx
   have ne:=hP.ne _ (List.mem_of_getElem? ek)
   refine ⟨trivial,?_⟩
   simp! only []
   cases kp with
   | nil=>exact absurd rfl ne
   | cons z l=>
    show ixU (.tup (.int z::l.map .int)) _ _ _
    rw [ix_t (jbZ _ _)]
    have ez:zs[i]?=some z:=by rw [<- ezs,List.getElem?_map,ek]; rfl
    exact hk _ _ ⟨rfl,by rw [List.take_succ,ez,List.map_append]; rfl⟩
end

set_option maxHeartbeats 2000000
theorem jdv {W:Nat}{x:Int}(h:0<=x/\x < W):∃ n:Nat,x=(n:Int)/\n < W:=⟨x.toNat,by omega,by omega⟩
theorem jff {g:List Int}{n m:Nat}{v:Int}(h:n < g.length):(g.set n v).getD m 0=if m=n then v else g.getD m 0:=by
 by_cases e:m=n
 ·subst e; rw [if_pos rfl]; simp [List.getD,h]
 ·rw [if_neg e]; simp [List.getD,List.getElem?_set_ne (Ne.symm e)]
section
variable {k:Nat}{G:Gp}{Q:K1}{X:KX}{xs:List Str}{ss:List Spn}{P:Int}{bs:List Int}{W:Nat}
theorem jb8 {f c:Addr}(hf:Fd G f c)(h1:1<=P)(h2:P<=600)(w8:W<=8)(q:∀ (bs:List Int) (G':Gp),bs.length=W->Fd G' f c->Sm f G G'->Q (jaf bs) G'):jab T (k + 2) jbA [.loc f,.int W,.int P] G Q X:=by
 refine ⟨rfl,?_⟩
 simp! only [jcQ,jaj,List.replicate]
 refine ⟨by omega,by omega,by rw [jam]; exact Nat.le_trans w8 (by decide),?_⟩
 refine jan (fun i acc G'=>Fd G' f c/\Sm f G G'/\∃ bs:List Int,acc=bs.map .int/\bs.length=i) ?_ ?_ ⟨hf,Sm.refl,[],rfl,rfl⟩
 ·rintro acc G1 ⟨f1,s1,bs,rfl,hl⟩
  rw [jam] at hl
  refine ⟨trivial,fun pb G2 n2=>?_⟩
  simp! only [it_l n2.at]
  exact q bs _ hl (f1.new n2) (s1.nw n2)
 ·rintro i x acc G1 K hx ⟨f1,s1,bs,rfl,hl⟩ hk _
  exact ⟨trivial,jac f1 (by omega) (by omega) fun r G2 a2 b2 f2 s2=>hk _ _ ⟨f2,s1.trans s2,bs++[r],by simp,by simp [hl]⟩⟩
theorem je3 {W:Nat}{as:List Addr}{b:List Int}(hW:0 < W)(bl:b.length=W):b.map U.int≠as.map U.loc:=fun e=>by
 cases b with
 | nil=>simp at bl; omega
 | cons z l=>
  cases as with
  | nil=>cases e
  | cons a r=>cases e
theorem jhB {ks:List (List Int)}(hP0:IsP xs.length (edg ss) ks)(hs0:ks.Pairwise Sl)(w0:0 < xs.length)(w8:xs.length<=8)(so:∀ s∈ss,s.Ok xs.length)(h1:1<=P)(bl:bs.length=xs.length)
  (q:∀ (g:List Int) (G':Gp),g.length=xs.length->Begun P ks bs g->Sa G G'->Q (jaf g) G'):jab T (k + 2) jbz [jae xs ss,.int P,jaf bs] G Q X:=by
 refine ⟨rfl,?_⟩
 simp! only [jcP,jaj,List.replicate]
 show itU (.tup (bs.map .int)) _ _
 simp! only []
 intro pb G1 n1
 simp! only [jbK]
 refine jbf so w8 fun p as ks' G2 s2 hs hP hs' kl fr=>?_
 have ek:ks'=ks:=hP.uniq hP0 id id hs' hs0
 subst ek
 have gb2:=s2 _ _ n1.at
 have pp:pb≠p:=fun e=>by
  rw [e,hs.gp] at gb2
  exact je3 w0 bl (MO.lst.inj (Option.some.inj gb2)).symm
 have pa:∀ a∈as,pb≠a:=fun a ha e=>by have:=fr a ha; rw [<- e,n1.at] at this; cases this
 rw [it_l hs.gp]
 refine jao (fun i ς G'=>∃ (g:List Int) (o4 o5:Option U),ς=[some (jae xs ss),some (.int P),some (jaf bs),some (.loc pb),o4,o5]/\G' pb=some (.lst (g.map .int))/\g.length=xs.length/\(∀ b o,b≠pb->G2 b=some o->G' b=some o)/\∀ pt∈ks'.take i,∀ x∈pt,g.getD x.toNat 0=(bs.getD x.toNat 0 - bs.getD (pt.headD 0).toNat 0) % P) ?_ ?_ ⟨bs,_,_,rfl,gb2,bl,fun _ _ _ h=>h,fun pt h=>by simp at h⟩
 ·rintro ς G3 ⟨g,o4,o5,rfl,gb,gl,fr3,hg⟩
  refine ⟨by unfold lsG; rw [fr3 _ _ (Ne.symm pp) hs.gp],?_⟩
  simp! only [jbJ,it_l gb]
  refine q g G3 gl (fun pt hp=>hg pt ?_) fun b o e=>fr3 b o (fun z=>by rw [z,n1.no] at e; cases e) (s2 _ _ (n1.sa _ _ e))
  rw [List.length_map,hs.l,List.take_length]; exact hp
 ·rintro i x ς G3 K hx ⟨g,o4,o5,rfl,gb,gl,fr3,hg⟩ hk
  rw [List.getElem?_map] at hx
  cases ea:as[i]? with
  | none=>rw [ea] at hx; cases hx
  | some a=>
   rw [ea] at hx
   have hx:=(Option.some.inj hx).symm
   subst hx
   have hi:i < ks'.length:=by rw [<- hs.l]; exact (List.getElem?_eq_some_iff.mp ea).1
   have ek:=List.getElem?_eq_getElem hi
   have ha:=pa a (List.mem_of_getElem? ea)
   have ga:=fr3 _ _ (Ne.symm ha) (hs.ga i a _ ea ek)
   have hm:=List.getElem_mem hi
   have ne:=hP.ne _ hm
   refine ⟨by unfold lsG; rw [fr3 _ _ (Ne.symm pp) hs.gp],?_⟩
   simp! only []
   generalize ks'[i]=kp at ga ne ek hm
   cases kp with
   | nil=>exact absurd rfl ne
   | cons z l=>
   rw [it_l ga]
   obtain ⟨nz,rfl,hz⟩:=jdv (hP.bd _ hm z List.mem_cons_self)
   refine jao (fun j ς G'=>∃ (g:List Int) (o5:Option U),ς=[some (jae xs ss),some (.int P),some (jaf bs),some (.loc pb),some (.loc a),o5]/\G' pb=some (.lst (g.map .int))/\g.length=xs.length/\(∀ b o,b≠pb->G2 b=some o->G' b=some o)/\G' a=some (.lst (((nz:Int)::l).map .int))/\(∀ pt∈ks'.take i,∀ x∈pt,g.getD x.toNat 0=(bs.getD x.toNat 0 - bs.getD (pt.headD 0).toNat 0) % P)/\∀ x∈((nz:Int)::l).take j,g.getD x.toNat 0=(bs.getD x.toNat 0 - bs.getD nz 0) % P) ?_ ?_ ⟨g,_,rfl,gb,gl,fr3,ga,hg,fun x h=>by simp at h⟩
   ·rintro ς G4 ⟨g4,o5,rfl,gb4,gl4,fr4,ga4,hg4,hx4⟩
    refine ⟨by unfold lsG; rw [ga4],hk _ _ ⟨g4,_,_,rfl,gb4,gl4,fr4,fun pt hp x hx=>?_⟩⟩
    rw [List.take_succ,ek] at hp
    rcases List.mem_append.mp hp with hp | hp
    ·exact hg4 pt hp x hx
    ·have hp:pt=(nz:Int)::l:=by simpa using hp
     subst hp
     rw [List.length_map,List.take_length] at hx4
     exact hx4 x hx
   ·rintro j y ς G4 K4 hy ⟨g4,o5,rfl,gb4,gl4,fr4,ga4,hg4,hx4⟩ hk4
    rw [List.getElem?_map] at hy
    cases ej:((nz:Int)::l)[j]? with
    | none=>rw [ej] at hy; cases hy
    | some x=>
     rw [ej] at hy
     have hy:=(Option.some.inj hy).symm
     subst hy
     have hxm:=List.mem_of_getElem? ej
     obtain ⟨nx,rfl,hx⟩:=jdv (hP.bd _ hm x hxm)
     refine ⟨by unfold lsG; rw [ga4],?_⟩
     simp! only [jaf,ix_t (jbg (show nx < bs.length by omega)),ix_l ga4 (jbZ _ _),ix_t (jbg (show nz < bs.length by omega))]
     refine ⟨by omega,?_⟩
     rw [jkr gb4 (jgF (by rw [List.length_map]; omega))]
     intro G5 p5
     have e5:G5 pb=some (.lst ((g4.set nx ((bs.getD nx 0 - bs.getD nz 0) % P)).map .int)):=by rw [List.map_set]; exact p5.at
     refine hk4 _ _ ⟨_,_,rfl,e5,by simp [gl4],fun b o hb e=>p5.sm _ _ hb (fr4 b o hb e),p5.sm _ _ (Ne.symm ha) ga4,fun pt hp x' hx'=>?_,fun x' hx'=>?_⟩
     ·rw [jff (by omega)]
      split
      ·rename_i e
       have bx:=hP.bd pt (List.mem_of_mem_take hp) x' hx'
       have:x'=(nx:Int):=by omega
       subst this
       have:=hP.un pt (List.mem_of_mem_take hp) _ hm _ hx' hxm
       subst this
       simp
      ·exact hg4 pt hp x' hx'
     ·rw [jff (by omega)]
      split
      ·rename_i e; rw [e]
      ·rename_i c
       rw [List.take_succ,ej] at hx'
       rcases List.mem_append.mp hx' with h | h
       ·exact hx4 x' h
       ·have h:x'=(nx:Int):=by simpa using h
        rw [h,Int.toNat_natCast] at c
        exact absurd rfl c
theorem jdY {ks:List (List Int)}(hP0:IsP xs.length (edg ss) ks)(hs0:ks.Pairwise Sl)(w0:0 < xs.length)(w8:xs.length<=8)(so:∀ s∈ss,s.Ok xs.length)(sl:ss.length<=24)(h1:1<=P)(h2:P<=300)(pw:P.toNat ^ (xs.length - 1)<=300)
  (q:∀ (p:Addr) (G':Gp),Sa G G'->G p=none->G' p=some (.lst (((jaC (ks.map (·.headD 0)) P.toNat xs.length).filter (jaR P ss)).map jaf))->Q (.loc p) G'):jab T (k + 6) jcB [jae xs ss,.int P] G Q X:=by
 refine ⟨rfl,?_⟩
 simp! only [jcR,jaj,List.replicate]
 refine ⟨by decide,jgl w0 w8 so sl h1 h2 pw fun G1 s1=>jjm w0 w8 so sl h1 h2 pw fun ps p2 G2 hP hs s2 g2=>?_⟩
 have ek:ps=ks:=hP.uniq hP0 id id hs hs0
 subst ek
 have h0:=jhK hP w0
 generalize ezs:ps.map (·.headD 0)=zs at h0 q g2
 have P1:1<=P.toNat:=by omega
 have r3:=jbM h0 P1 pw (Nat.le_refl _)
 rw [it_l g2]
 refine ⟨by rw [List.length_map]; exact Nat.le_trans r3 (by decide),?_⟩
 refine jan (fun i acc G'=>G'=G2/\acc=(((jaC zs P.toNat xs.length).take i).filter (jaR P ss)).map jaf) ?_ ?_ ⟨rfl,rfl⟩
 ·rintro acc G6 ⟨rfl,rfl⟩
  rw [List.length_map,List.take_length]
  refine ⟨by unfold lsG; rw [g2],fun p7 G7 n7=>?_⟩
  exact q p7 G7 ((s1.trans s2).trans n7.sa) (jbn (s1.trans s2) n7.no) n7.at
 ·rintro i x acc G6 K6 hx ⟨rfl,rfl⟩ hk hn
  rw [List.getElem?_map] at hx
  cases es:(jaC zs P.toNat xs.length)[i]? with
  | none=>rw [es] at hx; cases hx
  | some b=>
   rw [es] at hx
   have hx:=(Option.some.inj hx).symm
   subst hx
   have bl:=(jaP.mp (List.mem_of_getElem? es)).1
   have ft:=jec (f:=jaR P ss) es
   refine ⟨by unfold lsG; rw [g2],?_⟩
   simp! only []
   refine jdV (kk:=fun b_1=>if b_1=true then K6 (some (jaf b)) G6 else K6 none G6) (by omega) bl so sl fun u hu=>?_
   rw [hu]
   cases c:jaR P ss b with
   | true=>
    rw [c,if_pos rfl] at ft
    rw [if_pos rfl]
    exact hk _ _ ⟨rfl,by rw [ft,List.map_append]; rfl⟩
   | false=>
    rw [c,if_neg (by decide),List.append_nil] at ft
    rw [if_neg (by decide)]
    exact hn _ ⟨rfl,by rw [ft]⟩
end

set_option maxHeartbeats 2000000
noncomputable def jkA (rows:List (List Int)):PyData:=.list (rows.map fun r=>.tuple (r.map .int))
theorem jeH {G:Gp}:∀ rows:List (List Int),DUs G (rows.map jaf) (rows.map fun r=>.tuple (r.map .int))
 | []=>.nil
 | _::r=>.cons (.tup (jcI _)) (jeH r)
theorem jgP {rows:List (List Int)}(h3:rows.length<=300)(h:∀ r∈rows,r.length<=8/\∀ z∈r,-100000<=z/\z<=100000):Fits 16000000 60 (jkA rows):=by
 refine (Fits.lstLe (n:=16000) (k:=1) (m:=300) (N:=16000000) (by rw [List.length_map]; exact h3) (fun d hd=>?_) (by decide)).mono (Nat.le_refl _) (by decide)
 obtain ⟨r,hr,rfl⟩:=List.mem_map.mp hd
 refine Fits.tupLe (n:=1921) (k:=0) (m:=8) (by rw [List.length_map]; exact (h r hr).1) (fun d hd=>?_) (by decide)
 obtain ⟨z,hz,rfl⟩:=List.mem_map.mp hd
 have:=(h r hr).2 z hz
 exact Fits.int (Nat.lt_of_le_of_lt (show z.natAbs<=100000 by omega) (Nat.lt_of_lt_of_le (by decide:100000 < 2 ^ 17) (Nat.pow_le_pow_right (by decide) (by decide))))
theorem jiQ {rows:List (List Int)}(h3:rows.length<=300)(h:∀ r∈rows,r.length<=8/\∀ z∈r,-100000<=z/\z<=100000):∃ z:Str,∀ (G:Gp) (p:Addr) (Q:K1),G p=some (.lst (rows.map jaf))->Q (.str z) G->jdO [.loc p] G Q:=
 ⟨_,fun G p Q g q=>⟨jkA rows,.lst (by unfold lsG; rw [g]) (jeH rows),jgP h3 h,q⟩⟩
theorem jc3 (l:List Int):Small (.tuple (l.map .int)):=⟨(jbi l).1,by show PyData.depthAll (l.map .int) + 1<=100; rw [(jbi l).2.1]; decide⟩
theorem jjJ {G : Gp}{p : Addr}{rows : List (List Int)}{g : List Int}{k : Bool -> Prop}(gp : G p = some (.lst (rows.map jaf)))(q : k (decide (g ∈ rows))) : inU (jaf g) (.loc p) G k := by
  unfold inU jaf
  dsimp only
  rw [gp]
  refine .inr ⟨.tuple (g.map .int), rows.map fun r => .tuple (r.map .int), .tup (jcI _), jeH rows, jc3 g, fun e he => ?_, ?_⟩
  · obtain ⟨r, _, rfl⟩ := List.mem_map.mp he; exact jc3 r
  · have : (rows.map fun r => PyData.tuple (r.map .int)).any (fun e => PyData.eqv e (.tuple (g.map .int))) = decide (g ∈ rows) := by
      rw [Bool.eq_iff_iff, List.any_eq_true, decide_eq_true_eq]
      constructor
      · rintro ⟨d, hd, e⟩
        obtain ⟨z, hz, rfl⟩ := List.mem_map.mp hd
        have e : PyData.eqv (.list (z.map .int)) (.list (g.map .int)) = true := e
        rw [jdy] at e
        rw [<- of_decide_eq_true e]; exact hz
      · intro hm
        refine ⟨_, List.mem_map.mpr ⟨g, hm, rfl⟩, ?_⟩
        show PyData.eqv (.list (g.map .int)) (.list (g.map .int)) = true
        rw [jdy]; exact decide_eq_true rfl
    rw [this]; exact q
theorem jjE {p:Addr}{us:List U}{G:Gp}{Q:K1}(g:G p=some (.lst us)):jfI [.loc p,.ty "list"] G Q=Q (.bl true) G:=by
 unfold jfI isiU tyN
 dsimp only
 rw [g]
 rfl
noncomputable abbrev rws (xs:List Str)(ss:List Spn)(ks:List (List Int))(P:Int):List (List Int):=(jaC (ks.map (·.headD 0)) P.toNat xs.length).filter (jaR P ss)
section
variable {k:Nat}{G:Gp}{Q:K1}{X:KX}{xs:List Str}{ss:List Spn}{P:Int}{a f c pd:Addr}{K:Sg->Gp->Prop}{ks:List (List Int)}
theorem jh1 (w0:0 < xs.length)(w8:xs.length<=8)(hP:IsP xs.length (edg ss) ks)(h1:1<=P)(h2:P<=300)(pw:P.toNat ^ (xs.length - 1)<=300):(rws xs ss ks P).length<=300/\∀ r∈rws xs ss ks P,r.length=xs.length/\∀ z∈r,-100000<=z/\z<=100000:=by
 refine ⟨Nat.le_trans (List.length_filter_le _ _) (jbM (jhK hP w0) (by omega) pw (Nat.le_refl _)),fun r hr=>?_⟩
 obtain ⟨hl,hb⟩:=jaP.mp (List.mem_filter.mp hr).1
 refine ⟨hl,fun z hz=>?_⟩
 obtain ⟨i,hi,rfl⟩:=List.getElem_of_mem hz
 have:=hb i (by omega)
 rw [show r.getD i 0=r[i] by simp [List.getD,hi]] at this
 have nb:=jgp (fs:=ks.map (·.headD 0)) (P:=P.toNat) (by omega) i
 omega
theorem jj3 {bs:List Int}{W:Nat}{kk:Bool->Gp->Prop}(hP:0 < P)(bl:bs.length=W)(so:∀ s∈ss,s.Ok W)(sl:ss.length<=24)(q:kk (jaR P ss bs) G):jab T (k + 2) jck [jae xs ss,.int P,jaf bs] G (fun x G1=>isU x .non fun c=>kk c G1) X:=
 jdV (kk:=fun c=>kk c G) hP bl so sl fun u hu=>by show isU u .non _; rw [hu]; exact q
theorem jnk {u2 u5 u6 u8 u9 u11 u12 u13:Option U}{b:List Int}(hP:IsP xs.length (edg ss) ks)(hs:ks.Pairwise Sl)(w0:0 < xs.length)(w8:xs.length<=8)(so:∀ s∈ss,s.Ok xs.length)(sl:ss.length<=24)(h1:1<=P)(bl:b.length=xs.length)(gd:G pd=some (.lst ((rws xs ss ks P).map jaf)))
  (kk:∀ G',Sa G G'->K [some (.loc a),some (.loc f),u2,some (jae xs ss),some (.int P),u5,u6,some (.loc pd),u8,u9,some (jaf b),u11,u12,u13] G') :
  jay T.gs (jab T (k + 3)) jaI ⟨K,Q,fun x _ G'=>X x G'⟩ [some (.loc a),some (.loc f),u2,some (jae xs ss),some (.int P),u5,u6,some (.loc pd),u8,u9,some (jaf b),u11,u12,u13] G:=by
 simp! only [jaI]
 refine jj3 (k:=k + 1) (kk:=fun t G=>jab T (k + 3) jbz [jae xs ss,.int P,jaf b] G (fun x G1=>inU x (.loc pd) G1 fun t'=>cmpU .NotEq (.bl t) (.bl t') G1 fun b_1=>if b_1=true then Q (.bl false) G1 else K [some (.loc a),some (.loc f),u2,some (jae xs ss),some (.int P),u5,u6,some (.loc pd),u8,u9,some (jaf b),u11,u12,u13] G1) fun x G'=>X x G') (by omega) bl so sl ?_
 refine jhB (k:=k + 1) hP hs w0 w8 so h1 bl fun g G1 gl hb s1=>jjJ (s1 _ _ gd) ?_
 rw [jne]
 have e:decide (g∈rws xs ss ks P)=jaR P ss b:=by
  rw [Bool.eq_iff_iff,decide_eq_true_eq]
  exact jhT h1 hP gl hb
 rw [e,if_neg (by simp)]
 exact kk G1 s1
theorem jlA {u2 u5 u6 u8 u9 u12 u13:Option U}{b by_:List Int}{pb:Addr}(w0:0 < xs.length)(w8:xs.length<=8)(so:∀ s∈ss,s.Ok xs.length)(h1:1<=P)(bl:b.length=xs.length)(byl:by_.length=xs.length)(gb:G pb=some (.lst (b.map .int)))
  (kk:∀ (b':List Int) (o12 o13:Option U) (G':Gp),b'.length=xs.length->(∀ q o,q≠pb->G q=some o->G' q=some o)->K [some (.loc a),some (.loc f),u2,some (jae xs ss),some (.int P),u5,u6,some (.loc pd),u8,u9,some (jaf b'),some (jaf by_),o12,o13] G') :
  jay T.gs (jab T (k + 1)) jaG ⟨K,Q,fun x _ G'=>X x G'⟩ [some (.loc a),some (.loc f),u2,some (jae xs ss),some (.int P),u5,u6,some (.loc pd),u8,u9,some (.loc pb),some (jaf by_),u12,u13] G:=by
 simp! only [jaG]
 refine jbf so w8 fun p as ks' G2 s2 hs hP hs' kl fr=>?_
 have gb2:=s2 _ _ gb
 have pp:pb≠p:=fun e=>by
  rw [e,hs.gp] at gb2
  exact je3 w0 bl (MO.lst.inj (Option.some.inj gb2)).symm
 have pa:∀ q∈as,pb≠q:=fun q ha e=>by have:=fr q ha; rw [<- e,gb] at this; cases this
 rw [it_l hs.gp]
 refine jao (fun i ς G'=>∃ (g:List Int) (o12 o13:Option U),ς=[some (.loc a),some (.loc f),u2,some (jae xs ss),some (.int P),u5,u6,some (.loc pd),u8,u9,some (.loc pb),some (jaf by_),o12,o13]/\G' pb=some (.lst (g.map .int))/\g.length=xs.length/\∀ q o,q≠pb->G2 q=some o->G' q=some o) ?_ ?_ ⟨b,_,_,rfl,gb2,bl,fun _ _ _ h=>h⟩
 ·rintro ς G3 ⟨g,o12,o13,rfl,gb3,gl,fr3⟩
  refine ⟨by unfold lsG; rw [fr3 _ _ (Ne.symm pp) hs.gp],?_⟩
  simp! only [ja3,it_l gb3]
  exact kk g _ _ G3 gl fun q o hq e=>fr3 q o hq (s2 _ _ e)
 ·rintro i x ς G3 K3 hx ⟨g,o12,o13,rfl,gb3,gl,fr3⟩ hk
  rw [List.getElem?_map] at hx
  cases ea:as[i]? with
  | none=>rw [ea] at hx; cases hx
  | some q=>
   rw [ea] at hx
   have hx:=(Option.some.inj hx).symm
   subst hx
   have hi:i < ks'.length:=by rw [<- hs.l]; exact (List.getElem?_eq_some_iff.mp ea).1
   have ek:=List.getElem?_eq_getElem hi
   have ha:=pa q (List.mem_of_getElem? ea)
   have ga:=fr3 _ _ (Ne.symm ha) (hs.ga i q _ ea ek)
   have hm:=List.getElem_mem hi
   have ne:=hP.ne _ hm
   refine ⟨by unfold lsG; rw [fr3 _ _ (Ne.symm pp) hs.gp],?_⟩
   simp! only []
   generalize ks'[i]=kp at ga ne ek hm
   cases kp with
   | nil=>exact absurd rfl ne
   | cons z l=>
   rw [it_l ga]
   obtain ⟨nz,rfl,hz⟩:=jdv (hP.bd _ hm z List.mem_cons_self)
   refine jao (fun j ς G'=>∃ (g:List Int) (o13:Option U),ς=[some (.loc a),some (.loc f),u2,some (jae xs ss),some (.int P),u5,u6,some (.loc pd),u8,u9,some (.loc pb),some (jaf by_),some (.loc q),o13]/\G' pb=some (.lst (g.map .int))/\g.length=xs.length/\(∀ q o,q≠pb->G2 q=some o->G' q=some o)/\G' q=some (.lst (((nz:Int)::l).map .int))) ?_ ?_ ⟨g,_,rfl,gb3,gl,fr3,ga⟩
   ·rintro ς G4 ⟨g4,o13,rfl,gb4,gl4,fr4,ga4⟩
    exact ⟨by unfold lsG; rw [ga4],hk _ _ ⟨g4,_,_,rfl,gb4,gl4,fr4⟩⟩
   ·rintro j y ς G4 K4 hy ⟨g4,o13,rfl,gb4,gl4,fr4,ga4⟩ hk4
    rw [List.getElem?_map] at hy
    cases ej:((nz:Int)::l)[j]? with
    | none=>rw [ej] at hy; cases hy
    | some x=>
     rw [ej] at hy
     have hy:=(Option.some.inj hy).symm
     subst hy
     obtain ⟨nx,rfl,hx⟩:=jdv (hP.bd _ hm x (List.mem_of_getElem? ej))
     refine ⟨by unfold lsG; rw [ga4],?_⟩
     simp! only [jaf,ix_l gb4 (jbg (show nx < g4.length by omega)),ix_l ga4 (jbZ _ _),ix_t (jbg (show nz < by_.length by omega))]
     refine ⟨by omega,?_⟩
     rw [jkr gb4 (jgF (by rw [List.length_map]; omega))]
     intro G5 p5
     have e5:G5 pb=some (.lst ((g4.set nx ((g4.getD nx 0 + by_.getD nz 0) % P)).map .int)):=by rw [List.map_set]; exact p5.at
     exact hk4 _ _ ⟨_,_,rfl,e5,by simp [gl4],fun b o hb e=>p5.sm _ _ hb (fr4 b o hb e),p5.sm _ _ (Ne.symm ha) ga4⟩
theorem jnj {u2 u5 u6 u8 u10 u11 u12 u13:Option U}{j:Int}(hf:Fd G f c)(hd:pd≠f)(hP:IsP xs.length (edg ss) ks)(hs:ks.Pairwise Sl)(w0:0 < xs.length)(w8:xs.length<=8)(so:∀ s∈ss,s.Ok xs.length)(sl:ss.length<=24)(h1:1<=P)(h2:P<=300)(pw:P.toNat ^ (xs.length - 1)<=300)(gd:G pd=some (.lst ((rws xs ss ks P).map jaf)))
  (kk:∀ o10 o11 o12 o13 G',Fd G' f c->G' pd=some (.lst ((rws xs ss ks P).map jaf))->K [some (.loc a),some (.loc f),u2,some (jae xs ss),some (.int P),u5,u6,some (.loc pd),u8,some (.int j),o10,o11,o12,o13] G') :
  jay T.gs (jab T (k + 3)) jaU ⟨K,Q,fun x _ G'=>X x G'⟩ [some (.loc a),some (.loc f),u2,some (jae xs ss),some (.int P),u5,u6,some (.loc pd),u8,some (.int j),u10,u11,u12,u13] G:=by
 obtain ⟨rl,ro⟩:=jh1 w0 w8 hP h1 h2 pw
 have mid:∀ (b:List Int) (o11 o12 o13:Option U) (G':Gp),b.length=xs.length->Fd G' f c->G' pd=some (.lst ((rws xs ss ks P).map jaf))->jay T.gs (jab T (k + 3)) jaI ⟨K,Q,fun x _ G'=>X x G'⟩ [some (.loc a),some (.loc f),u2,some (jae xs ss),some (.int P),u5,u6,some (.loc pd),u8,some (.int j),some (jaf b),o11,o12,o13] G':=
  fun b o11 o12 o13 G' bl f' g'=>jnk hP hs w0 w8 so sl h1 bl g' fun G2 s2=>kk _ _ _ _ _ (f'.sa s2) (s2 _ _ g')
 generalize hrw:rws xs ss ks P=rows at *
 simp! only [jaU,jae,ix_t (jbZ _ _),List.length_map]
 refine jb8 (k:=k + 1) hf h1 (by omega) w8 fun b0 G1 l0 f1 s1=>?_
 have gd1:=s1 _ _ hd gd
 simp! only []
 refine ⟨by decide,fun p2 G2 n2=>?_⟩
 have gd2:=n2.sa _ _ gd1
 simp! only []
 refine jiq (n:=1) gd2 n2.at (fun u hu=>?_) (by decide) ?_
 ·obtain ⟨r,_,rfl⟩:=List.mem_map.mp hu
  refine Sml.tup fun u hu=>?_
  obtain ⟨z,_,rfl⟩:=List.mem_map.mp hu
  exact Sml.int z
 by_cases hr:rows=[]
 ·subst hr
  rw [if_neg (by decide)]
  exact mid b0 _ _ _ _ l0 (f1.new n2) gd2
 ·have r0:0 < rows.length:=List.length_pos_iff.mpr hr
  have e:(!(rows.map jaf).isEmpty)=true:=by cases rows with | nil=>exact absurd rfl hr | cons=>rfl
  rw [if_pos e]
  by_cases cj:1 < j
  ·rw [if_pos (by simpa using cj)]
   simp! only [jae,ix_t (jbZ _ _),List.length_map]
   refine jb8 (k:=k + 1) (f1.new n2) h1 (by omega) w8 fun by_ G3 l3 f3 s3=>?_
   have gd3:=s3 _ _ hd gd2
   simp! only [jd5 gd3,List.length_map]
   refine jac f3 (by omega) (by omega) fun r G4 a4 b4 f4 s4=>?_
   have gd4:=s4 _ _ hd gd3
   obtain ⟨row,hrow,er⟩:=jdj (l:=rows) (r:=r) a4 b4
   rw [ix_l gd4 ((jbE jaf rows _).trans (congrArg _ er))]
   show itU (.tup (row.map .int)) _ _
   simp! only []
   intro pb G5 n5
   have hp:=f4.away n5
   have ndp:pd≠pb:=Ne.symm (jau gd4 n5.no)
   refine jlA (k:=k + 2) w0 w8 so h1 (ro row hrow).1 l3 n5.at fun b' o12 o13 G6 bl' fr=>mid b' _ _ _ _ bl' ?_ (fr _ _ ndp (n5.sa _ _ gd4))
   obtain ⟨ns,x1,x2,x3,h1,h2,h3⟩:=(f4.new n5).ex
   exact ⟨ns,x1,x2,x3,fr _ _ (Ne.symm hp.1) h1,fr _ _ (Ne.symm hp.2) h2,h3⟩
  ·rw [if_neg (by simpa using cj)]
   exact mid b0 _ _ _ _ l0 (f1.new n2) gd2
theorem jhG {u2 u5 u7 u8 u9 u10 u11 u12 u13:Option U}{P0 S:Int}(hf:Fd G f c)(w0:0 < xs.length)(w8:xs.length<=8)(so:∀ s∈ss,s.Ok xs.length)(sl:ss.length<=24)(h1:1<=S)(h2:S<=300)(pw:S.toNat ^ (xs.length - 1)<=300)
  (kk:∀ ks o8 pd G',IsP xs.length (edg ss) ks->ks.Pairwise Sl->Fd G' f c->pd≠f->G' pd=some (.lst ((rws xs ss ks S).map jaf))->Sm f G G'->K [some (.loc a),some (.loc f),u2,some (jae xs ss),some (.int P0),u5,some (.int S),some (.loc pd),o8,u9,u10,u11,u12,u13] G') :
  jay T.gs (jab T (k + 6)) jaV ⟨K,Q,fun x _ G'=>X x G'⟩ [some (.loc a),some (.loc f),u2,some (jae xs ss),some (.int P0),u5,some (.int S),u7,u8,u9,u10,u11,u12,u13] G:=by
 simp! only [jaV]
 refine jll (k:=k + 3) w0 w8 so sl h1 h2 pw fun ks pd G1 hP hs s1 fd g1=>?_
 obtain ⟨rl,ro⟩:=jh1 w0 w8 hP h1 h2 pw
 obtain ⟨z,hz⟩:=jiQ rl fun r hr=>⟨by rw [(ro r hr).1]; exact w8,(ro r hr).2⟩
 refine jdY (k:=k) hP hs w0 w8 so sl h1 h2 pw fun pf G2 s2 ff g2=>?_
 have g12:=s2 _ _ g1
 have ndf:pd≠f:=by obtain ⟨ns,x1,x2,x3,e1,_⟩:=hf.ex; exact jau e1 fd
 have f2:=(hf.sa s1).sa s2
 have npf:pf≠f/\pf≠c:=by obtain ⟨ns,x1,x2,x3,e1,e2,_⟩:=(hf.sa s1).ex; exact ⟨jau e1 ff,jau e2 ff⟩
 have nfd:pf≠pd:=jau g1 ff
 simp! only [jbL,jjE g2]
 rw [if_neg (by decide)]
 refine hz _ _ _ g2 (hz _ _ _ g12 (jgo ?_))
 rw [if_neg (by decide)]
 simp! only [jaH g2,jcg g2]
 refine ⟨by decide,by rw [List.length_map]; exact Nat.lt_of_le_of_lt rl (by decide),fun G3 p3=>?_⟩
 refine kk ks _ pd G3 hP hs (f2.off npf p3) ndf (p3.sm _ _ (Ne.symm nfd) g12) fun q o hq e=>p3.sm _ _ (fun zz=>?_) (s2 _ _ (s1 _ _ e))
 have:=s1 _ _ e
 rw [zz,ff] at this
 cases this
noncomputable def Rest (a f:Addr)(ς:Sg):Prop:=∃ o2 o3 o4 o5 o6 o7 o8 o9 o10 o11 o12 o13:Option U,ς=[some (.loc a),some (.loc f),o2,o3,o4,o5,o6,o7,o8,o9,o10,o11,o12,o13]
theorem je9 {u2 u5 u6 u7 u8 u9 u10 u11 u12 u13:Option U}(hf:Fd G f c)(nm:∀ x∈xs,Nm x)(w0:0 < xs.length)(w8:xs.length<=8)(so:∀ s∈ss,s.Ok xs.length)(sl:ss.length<=24)(h1:1<=P)(h2:P<=300)(pw:P.toNat ^ (xs.length - 1)<=300)
  (kk:∀ ς G',Rest a f ς->Fd G' f c->K ς G') :
  jay T.gs (jab T (k + 6)) jb1 ⟨K,Q,fun x _ G'=>X x G'⟩ [some (.loc a),some (.loc f),u2,some (jae xs ss),some (.int P),u5,u6,u7,u8,u9,u10,u11,u12,u13] G:=by
 obtain ⟨z0,hz⟩:∃ z:Str,∀ (G:Gp) (Q:K1),Q (.str z) G->jdO [jae xs ss] G Q:=⟨_,fun G Q q=>jkC (jjQ w8 nm sl so) (by decide) (by decide) q⟩
 simp! only [jb1]
 refine hz _ _ ?_
 simp! only [jc2]
 refine jac hf (by omega) (by omega) fun r G1 a1 b1 f1 s1=>⟨by decide,?_⟩
 refine jao (fun i ς G'=>Fd G' f c/\∃ o6 o7 o8,ς=[some (.loc a),some (.loc f),u2,some (jae xs ss),some (.int P),some (.str z0),o6,o7,o8,u9,u10,u11,u12,u13]/\(i=3->∃ ks pd,o7=some (.loc pd)/\pd≠f/\IsP xs.length (edg ss) ks/\ks.Pairwise Sl/\G' pd=some (.lst ((rws xs ss ks P).map jaf)))) ?_ ?_ ⟨f1,_,_,_,rfl,fun h=>by cases h⟩
 ·rintro ς G2 ⟨f2,o6,o7,o8,rfl,h3⟩
  obtain ⟨ks,pd,rfl,hd,hP,hs,gd⟩:=h3 rfl
  refine ⟨trivial,?_⟩
  simp! only [jc1]
  refine ⟨by decide,by decide,?_⟩
  refine jao (fun _ ς G'=>∃ o9 o10 o11 o12 o13,ς=[some (.loc a),some (.loc f),u2,some (jae xs ss),some (.int P),some (.str z0),o6,some (.loc pd),o8,o9,o10,o11,o12,o13]/\Fd G' f c/\G' pd=some (.lst ((rws xs ss ks P).map jaf))) ?_ ?_ ⟨_,_,_,_,_,rfl,f2,gd⟩
  ·rintro ς G3 ⟨o9,o10,o11,o12,o13,rfl,f3,g3⟩
   refine ⟨trivial,?_⟩
   simp! only [jc0]
   refine hz _ _ (jgo ?_)
   rw [if_neg (by decide)]
   exact kk _ _ ⟨_,_,_,_,_,_,_,_,_,_,_,_,rfl⟩ f3
  ·rintro i x ς G3 K3 hx ⟨o9,o10,o11,o12,o13,rfl,f3,g3⟩ hk
   obtain ⟨hi,rfl⟩:=jaA hx
   refine ⟨trivial,?_⟩
   simp! only []
   exact jnj (k:=k + 3) f3 hd hP hs w0 w8 so sl h1 h2 pw g3 fun o10 o11 o12 o13 G4 f4 g4=>hk _ _ ⟨_,_,_,_,_,rfl,f4,g4⟩
 ·rintro i x ς G2 K2 hx ⟨f2,o6,o7,o8,rfl,h3⟩ hk
  obtain ⟨S,rfl,hS⟩:∃ S:Int,x=.int S/\((1<=S/\S<=P)/\(i=2->S=P)):=by
   match i,hx with
   | 0,hx=>exact ⟨P,(Option.some.inj hx).symm,⟨by omega,by omega⟩,fun _=>rfl⟩
   | 1,hx=>exact ⟨1 + r,(Option.some.inj hx).symm,⟨by omega,by omega⟩,fun h=>by cases h⟩
   | 2,hx=>exact ⟨P,(Option.some.inj hx).symm,⟨by omega,by omega⟩,fun _=>rfl⟩
   | _ + 3,hx=>cases hx
  refine ⟨trivial,?_⟩
  simp! only []
  refine jhG (k:=k) f2 w0 w8 so sl hS.1.1 (by omega) (Nat.le_trans (Nat.pow_le_pow_left (by omega) _) pw) fun ks o8 pd G3 hP hs f3 hd g3 s3=>hk _ _ ⟨f3,_,_,_,rfl,fun h=>?_⟩
  rw [hS.2 (by omega)] at g3
  exact ⟨ks,pd,rfl,hd,hP,hs,g3⟩
theorem jhF {u2 u3 u4 u5 u6 u7 u8 u9 u10 u11 u12 u13:Option U}(hf:Fd G f c)(kk:∀ ς G',Rest a f ς->Fd G' f c->K ς G') :
  jay T.gs (jab T (k + 6)) jb2 ⟨K,Q,fun x _ G'=>X x G'⟩ [some (.loc a),some (.loc f),u2,u3,u4,u5,u6,u7,u8,u9,u10,u11,u12,u13] G:=by
 simp! only [jb2]
 refine jdW (k:=k + 1) hf fun xs ss P G1 w1 w8 h1 h2 pw nm ne sl sok f1=>⟨rfl,?_⟩
 have so:∀ s∈ss,s.Ok xs.length:=fun s hs=>(sok s hs).ok
 refine jac f1 (by decide) (by decide) fun r G2 a2 b2 f2 s2=>?_
 simp! only []
 by_cases hr:r=0
 ·rw [if_pos (by simpa using hr)]
  simp! only [jae,ix_t (jbZ _ _),List.length_map]
  refine jjn (k:=k + 2) f2 h1 (by omega) (by omega) w8 (by decide) (by decide) fun xs' ss' G3 xl nm' sl' so' f3 s3=>?_
  rw [<- xl] at so' w1 w8 pw
  exact je9 f3 nm' w1 w8 so' sl' h1 h2 pw kk
 ·rw [if_neg (by simpa using hr)]
  exact je9 f2 nm w1 w8 so sl h1 h2 pw kk
end
theorem law_ir (a:Addr)(ns:List Int)(hl:ns.length<=63):jab T 300 jfF [.loc a] (G0 a ns) (fun u _=>u=.bl true) fun _ _=>False:=by
 refine ⟨rfl,?_⟩
 simp! only [jhO,jaj,List.replicate,jf2]
 refine jjo (k:=298) (show G0 a ns a=some (.fro (ns.map .int)) from if_pos rfl) hl fun f c G1 f1=>?_
 refine ⟨by decide,by decide,?_⟩
 refine jao (fun _ ς G'=>Rest a f ς/\Fd G' f c) ?_ ?_ ⟨⟨_,_,_,_,_,_,_,_,_,_,_,_,rfl⟩,f1⟩
 ·rintro ς G2 ⟨_,_⟩
  exact ⟨trivial,trivial⟩
 ·rintro i x ς G2 K hx ⟨⟨o2,o3,o4,o5,o6,o7,o8,o9,o10,o11,o12,o13,rfl⟩,f2⟩ hk
  exact ⟨trivial,jhF (k:=293) f2 fun ς G' h1 h2=>hk _ _ ⟨h1,h2⟩⟩

noncomputable def sts:List Stmt:=[s_top_of,s_length_of,s_unkept,s_entries_to,s_forest_from,s_parts_of,s_staying,s_size_of,s_refuse_great,s_rows_to_try,s_all_times,s_law_feed,s_law_draw,s_law_names,s_law_number,s_law_span,s_law_fitting,s_law_plan,s_law_tight,s_law_beats,s_law_end,s_law_lacks,s_law_parts,s_law_all,s_law_small,s_law_far,s_law_some_plan,s_law_begun,s_law]
theorem je1:jex T T.funs sts=true:=by decide +kernel
theorem jga:jfw T T.funs sts:=⟨rfl,rfl,rfl,rfl,rfl,rfl,rfl,rfl,rfl,rfl,rfl,rfl,rfl,rfl,rfl,rfl,rfl,rfl,rfl,rfl,rfl,rfl,rfl,rfl,rfl,rfl,rfl,rfl,rfl,trivial⟩
theorem ln1 {α:Type}(us:List α)(h:us.length=1):∃ u0,us=[u0]:=by
 obtain _ | ⟨u0,us⟩:=us
 ·cases h
 obtain _ | ⟨_,_⟩:=us
 ·exact ⟨_,rfl⟩
 ·cases h
theorem ln2 {α:Type}(us:List α)(h:us.length=2):∃ u0 u1,us=[u0,u1]:=by
 obtain _ | ⟨u0,us⟩:=us
 ·cases h
 obtain _ | ⟨u1,us⟩:=us
 ·cases h
 obtain _ | ⟨_,_⟩:=us
 ·exact ⟨_,_,rfl⟩
 ·cases h
theorem ln3 {α:Type}(us:List α)(h:us.length=3):∃ u0 u1 u2,us=[u0,u1,u2]:=by
 obtain _ | ⟨u0,us⟩:=us
 ·cases h
 obtain _ | ⟨u1,us⟩:=us
 ·cases h
 obtain _ | ⟨u2,us⟩:=us
 ·cases h
 obtain _ | ⟨_,_⟩:=us
 ·exact ⟨_,_,_,rfl⟩
 ·cases h
theorem ln4 {α:Type}(us:List α)(h:us.length=4):∃ u0 u1 u2 u3,us=[u0,u1,u2,u3]:=by
 obtain _ | ⟨u0,us⟩:=us
 ·cases h
 obtain _ | ⟨u1,us⟩:=us
 ·cases h
 obtain _ | ⟨u2,us⟩:=us
 ·cases h
 obtain _ | ⟨u3,us⟩:=us
 ·cases h
 obtain _ | ⟨_,_⟩:=us
 ·exact ⟨_,_,_,_,rfl⟩
 ·cases h
theorem all_mk {l:PySem.W.OpenLaw}{w:World}{K:PySem.W.Frag}{h:Heap}{mg:Str->Option Value}{fa:Addr}(X:K.In h)(G:h.Ns mainGlobals mg)(hfa:mg "law" = some (.ref fa))
  {f0:Addr} {od0 an0:Option Addr} {sl0:Array (Option Value)} {oc0 kV0 dc0 pm0 cd0 ct0:Value}
  (a0:PySem.W.nsIn K mainGlobals "top_of" = some (some (.ref f0))) (l0:K.lookup f0=some ⟨oc0,od0,.func (PySem.W.fnOf "top_of" "top_of" (defArgs s_top_of) (defBody s_top_of) (defScope s_top_of) .none kV0 dc0 pm0 an0 cd0 ct0),sl0⟩) (c0:PySem.W.codeIn K cd0 "top_of" = true) (k0:PySem.W.keepIn K (.ref f0)=true)
  {f1:Addr} {od1 an1:Option Addr} {sl1:Array (Option Value)} {oc1 kV1 dc1 pm1 cd1 ct1:Value}
  (a1:PySem.W.nsIn K mainGlobals "length_of" = some (some (.ref f1))) (l1:K.lookup f1=some ⟨oc1,od1,.func (PySem.W.fnOf "length_of" "length_of" (defArgs s_length_of) (defBody s_length_of) (defScope s_length_of) .none kV1 dc1 pm1 an1 cd1 ct1),sl1⟩) (c1:PySem.W.codeIn K cd1 "length_of" = true) (k1:PySem.W.keepIn K (.ref f1)=true)
  {f2:Addr} {od2 an2:Option Addr} {sl2:Array (Option Value)} {oc2 kV2 dc2 pm2 cd2 ct2:Value}
  (a2:PySem.W.nsIn K mainGlobals "unkept" = some (some (.ref f2))) (l2:K.lookup f2=some ⟨oc2,od2,.func (PySem.W.fnOf "unkept" "unkept" (defArgs s_unkept) (defBody s_unkept) (defScope s_unkept) .none kV2 dc2 pm2 an2 cd2 ct2),sl2⟩) (c2:PySem.W.codeIn K cd2 "unkept" = true) (k2:PySem.W.keepIn K (.ref f2)=true)
  {f3:Addr} {od3 an3:Option Addr} {sl3:Array (Option Value)} {oc3 kV3 dc3 pm3 cd3 ct3:Value}
  (a3:PySem.W.nsIn K mainGlobals "entries_to" = some (some (.ref f3))) (l3:K.lookup f3=some ⟨oc3,od3,.func (PySem.W.fnOf "entries_to" "entries_to" (defArgs s_entries_to) (defBody s_entries_to) (defScope s_entries_to) .none kV3 dc3 pm3 an3 cd3 ct3),sl3⟩) (c3:PySem.W.codeIn K cd3 "entries_to" = true) (k3:PySem.W.keepIn K (.ref f3)=true)
  {f4:Addr} {od4 an4:Option Addr} {sl4:Array (Option Value)} {oc4 kV4 dc4 pm4 cd4 ct4:Value}
  (a4:PySem.W.nsIn K mainGlobals "forest_from" = some (some (.ref f4))) (l4:K.lookup f4=some ⟨oc4,od4,.func (PySem.W.fnOf "forest_from" "forest_from" (defArgs s_forest_from) (defBody s_forest_from) (defScope s_forest_from) .none kV4 dc4 pm4 an4 cd4 ct4),sl4⟩) (c4:PySem.W.codeIn K cd4 "forest_from" = true) (k4:PySem.W.keepIn K (.ref f4)=true)
  {f5:Addr} {od5 an5:Option Addr} {sl5:Array (Option Value)} {oc5 kV5 dc5 pm5 cd5 ct5:Value}
  (a5:PySem.W.nsIn K mainGlobals "parts_of" = some (some (.ref f5))) (l5:K.lookup f5=some ⟨oc5,od5,.func (PySem.W.fnOf "parts_of" "parts_of" (defArgs s_parts_of) (defBody s_parts_of) (defScope s_parts_of) .none kV5 dc5 pm5 an5 cd5 ct5),sl5⟩) (c5:PySem.W.codeIn K cd5 "parts_of" = true) (k5:PySem.W.keepIn K (.ref f5)=true)
  {f6:Addr} {od6 an6:Option Addr} {sl6:Array (Option Value)} {oc6 kV6 dc6 pm6 cd6 ct6:Value}
  (a6:PySem.W.nsIn K mainGlobals "staying" = some (some (.ref f6))) (l6:K.lookup f6=some ⟨oc6,od6,.func (PySem.W.fnOf "staying" "staying" (defArgs s_staying) (defBody s_staying) (defScope s_staying) .none kV6 dc6 pm6 an6 cd6 ct6),sl6⟩) (c6:PySem.W.codeIn K cd6 "staying" = true) (k6:PySem.W.keepIn K (.ref f6)=true)
  {f7:Addr} {od7 an7:Option Addr} {sl7:Array (Option Value)} {oc7 kV7 dc7 pm7 cd7 ct7:Value}
  (a7:PySem.W.nsIn K mainGlobals "size_of" = some (some (.ref f7))) (l7:K.lookup f7=some ⟨oc7,od7,.func (PySem.W.fnOf "size_of" "size_of" (defArgs s_size_of) (defBody s_size_of) (defScope s_size_of) .none kV7 dc7 pm7 an7 cd7 ct7),sl7⟩) (c7:PySem.W.codeIn K cd7 "size_of" = true) (k7:PySem.W.keepIn K (.ref f7)=true)
  {f8:Addr} {od8 an8:Option Addr} {sl8:Array (Option Value)} {oc8 kV8 dc8 pm8 cd8 ct8:Value}
  (a8:PySem.W.nsIn K mainGlobals "refuse_great" = some (some (.ref f8))) (l8:K.lookup f8=some ⟨oc8,od8,.func (PySem.W.fnOf "refuse_great" "refuse_great" (defArgs s_refuse_great) (defBody s_refuse_great) (defScope s_refuse_great) .none kV8 dc8 pm8 an8 cd8 ct8),sl8⟩) (c8:PySem.W.codeIn K cd8 "refuse_great" = true) (k8:PySem.W.keepIn K (.ref f8)=true)
  {f9:Addr} {od9 an9:Option Addr} {sl9:Array (Option Value)} {oc9 kV9 dc9 pm9 cd9 ct9:Value}
  (a9:PySem.W.nsIn K mainGlobals "rows_to_try" = some (some (.ref f9))) (l9:K.lookup f9=some ⟨oc9,od9,.func (PySem.W.fnOf "rows_to_try" "rows_to_try" (defArgs s_rows_to_try) (defBody s_rows_to_try) (defScope s_rows_to_try) .none kV9 dc9 pm9 an9 cd9 ct9),sl9⟩) (c9:PySem.W.codeIn K cd9 "rows_to_try" = true) (k9:PySem.W.keepIn K (.ref f9)=true)
  {f10:Addr} {od10 an10:Option Addr} {sl10:Array (Option Value)} {oc10 kV10 dc10 pm10 cd10 ct10:Value}
  (a10:PySem.W.nsIn K mainGlobals "all_times" = some (some (.ref f10))) (l10:K.lookup f10=some ⟨oc10,od10,.func (PySem.W.fnOf "all_times" "all_times" (defArgs s_all_times) (defBody s_all_times) (defScope s_all_times) .none kV10 dc10 pm10 an10 cd10 ct10),sl10⟩) (c10:PySem.W.codeIn K cd10 "all_times" = true) (k10:PySem.W.keepIn K (.ref f10)=true)
  {f11:Addr} {od11 an11:Option Addr} {sl11:Array (Option Value)} {oc11 kV11 dc11 pm11 cd11 ct11:Value}
  (a11:PySem.W.nsIn K mainGlobals "_law_feed" = some (some (.ref f11))) (l11:K.lookup f11=some ⟨oc11,od11,.func (PySem.W.fnOf "_law_feed" "_law_feed" (defArgs s_law_feed) (defBody s_law_feed) (defScope s_law_feed) .none kV11 dc11 pm11 an11 cd11 ct11),sl11⟩) (c11:PySem.W.codeIn K cd11 "_law_feed" = true) (k11:PySem.W.keepIn K (.ref f11)=true)
  {f12:Addr} {od12 an12:Option Addr} {sl12:Array (Option Value)} {oc12 kV12 dc12 pm12 cd12 ct12:Value}
  (a12:PySem.W.nsIn K mainGlobals "_law_draw" = some (some (.ref f12))) (l12:K.lookup f12=some ⟨oc12,od12,.func (PySem.W.fnOf "_law_draw" "_law_draw" (defArgs s_law_draw) (defBody s_law_draw) (defScope s_law_draw) .none kV12 dc12 pm12 an12 cd12 ct12),sl12⟩) (c12:PySem.W.codeIn K cd12 "_law_draw" = true) (k12:PySem.W.keepIn K (.ref f12)=true)
  {f13:Addr} {od13 an13:Option Addr} {sl13:Array (Option Value)} {oc13 kV13 dc13 pm13 cd13 ct13:Value}
  (a13:PySem.W.nsIn K mainGlobals "_law_names" = some (some (.ref f13))) (l13:K.lookup f13=some ⟨oc13,od13,.func (PySem.W.fnOf "_law_names" "_law_names" (defArgs s_law_names) (defBody s_law_names) (defScope s_law_names) .none kV13 dc13 pm13 an13 cd13 ct13),sl13⟩) (c13:PySem.W.codeIn K cd13 "_law_names" = true) (k13:PySem.W.keepIn K (.ref f13)=true)
  {f14:Addr} {od14 an14:Option Addr} {sl14:Array (Option Value)} {oc14 kV14 dc14 pm14 cd14 ct14:Value}
  (a14:PySem.W.nsIn K mainGlobals "_law_number" = some (some (.ref f14))) (l14:K.lookup f14=some ⟨oc14,od14,.func (PySem.W.fnOf "_law_number" "_law_number" (defArgs s_law_number) (defBody s_law_number) (defScope s_law_number) .none kV14 dc14 pm14 an14 cd14 ct14),sl14⟩) (c14:PySem.W.codeIn K cd14 "_law_number" = true) (k14:PySem.W.keepIn K (.ref f14)=true)
  {f15:Addr} {od15 an15:Option Addr} {sl15:Array (Option Value)} {oc15 kV15 dc15 pm15 cd15 ct15:Value}
  (a15:PySem.W.nsIn K mainGlobals "_law_span" = some (some (.ref f15))) (l15:K.lookup f15=some ⟨oc15,od15,.func (PySem.W.fnOf "_law_span" "_law_span" (defArgs s_law_span) (defBody s_law_span) (defScope s_law_span) .none kV15 dc15 pm15 an15 cd15 ct15),sl15⟩) (c15:PySem.W.codeIn K cd15 "_law_span" = true) (k15:PySem.W.keepIn K (.ref f15)=true)
  {f16:Addr} {od16 an16:Option Addr} {sl16:Array (Option Value)} {oc16 kV16 dc16 pm16 cd16 ct16:Value}
  (a16:PySem.W.nsIn K mainGlobals "_law_fitting" = some (some (.ref f16))) (l16:K.lookup f16=some ⟨oc16,od16,.func (PySem.W.fnOf "_law_fitting" "_law_fitting" (defArgs s_law_fitting) (defBody s_law_fitting) (defScope s_law_fitting) .none kV16 dc16 pm16 an16 cd16 ct16),sl16⟩) (c16:PySem.W.codeIn K cd16 "_law_fitting" = true) (k16:PySem.W.keepIn K (.ref f16)=true)
  {f17:Addr} {od17 an17:Option Addr} {sl17:Array (Option Value)} {oc17 kV17 dc17 pm17 cd17 ct17:Value}
  (a17:PySem.W.nsIn K mainGlobals "_law_plan" = some (some (.ref f17))) (l17:K.lookup f17=some ⟨oc17,od17,.func (PySem.W.fnOf "_law_plan" "_law_plan" (defArgs s_law_plan) (defBody s_law_plan) (defScope s_law_plan) .none kV17 dc17 pm17 an17 cd17 ct17),sl17⟩) (c17:PySem.W.codeIn K cd17 "_law_plan" = true) (k17:PySem.W.keepIn K (.ref f17)=true)
  {f18:Addr} {od18 an18:Option Addr} {sl18:Array (Option Value)} {oc18 kV18 dc18 pm18 cd18 ct18:Value}
  (a18:PySem.W.nsIn K mainGlobals "_law_tight" = some (some (.ref f18))) (l18:K.lookup f18=some ⟨oc18,od18,.func (PySem.W.fnOf "_law_tight" "_law_tight" (defArgs s_law_tight) (defBody s_law_tight) (defScope s_law_tight) .none kV18 dc18 pm18 an18 cd18 ct18),sl18⟩) (c18:PySem.W.codeIn K cd18 "_law_tight" = true) (k18:PySem.W.keepIn K (.ref f18)=true)
  {f19:Addr} {od19 an19:Option Addr} {sl19:Array (Option Value)} {oc19 kV19 dc19 pm19 cd19 ct19:Value}
  (a19:PySem.W.nsIn K mainGlobals "_law_beats" = some (some (.ref f19))) (l19:K.lookup f19=some ⟨oc19,od19,.func (PySem.W.fnOf "_law_beats" "_law_beats" (defArgs s_law_beats) (defBody s_law_beats) (defScope s_law_beats) .none kV19 dc19 pm19 an19 cd19 ct19),sl19⟩) (c19:PySem.W.codeIn K cd19 "_law_beats" = true) (k19:PySem.W.keepIn K (.ref f19)=true)
  {f20:Addr} {od20 an20:Option Addr} {sl20:Array (Option Value)} {oc20 kV20 dc20 pm20 cd20 ct20:Value}
  (a20:PySem.W.nsIn K mainGlobals "_law_end" = some (some (.ref f20))) (l20:K.lookup f20=some ⟨oc20,od20,.func (PySem.W.fnOf "_law_end" "_law_end" (defArgs s_law_end) (defBody s_law_end) (defScope s_law_end) .none kV20 dc20 pm20 an20 cd20 ct20),sl20⟩) (c20:PySem.W.codeIn K cd20 "_law_end" = true) (k20:PySem.W.keepIn K (.ref f20)=true)
  {f21:Addr} {od21 an21:Option Addr} {sl21:Array (Option Value)} {oc21 kV21 dc21 pm21 cd21 ct21:Value}
  (a21:PySem.W.nsIn K mainGlobals "_law_lacks" = some (some (.ref f21))) (l21:K.lookup f21=some ⟨oc21,od21,.func (PySem.W.fnOf "_law_lacks" "_law_lacks" (defArgs s_law_lacks) (defBody s_law_lacks) (defScope s_law_lacks) .none kV21 dc21 pm21 an21 cd21 ct21),sl21⟩) (c21:PySem.W.codeIn K cd21 "_law_lacks" = true) (k21:PySem.W.keepIn K (.ref f21)=true)
  {f22:Addr} {od22 an22:Option Addr} {sl22:Array (Option Value)} {oc22 kV22 dc22 pm22 cd22 ct22:Value}
  (a22:PySem.W.nsIn K mainGlobals "_law_parts" = some (some (.ref f22))) (l22:K.lookup f22=some ⟨oc22,od22,.func (PySem.W.fnOf "_law_parts" "_law_parts" (defArgs s_law_parts) (defBody s_law_parts) (defScope s_law_parts) .none kV22 dc22 pm22 an22 cd22 ct22),sl22⟩) (c22:PySem.W.codeIn K cd22 "_law_parts" = true) (k22:PySem.W.keepIn K (.ref f22)=true)
  {f23:Addr} {od23 an23:Option Addr} {sl23:Array (Option Value)} {oc23 kV23 dc23 pm23 cd23 ct23:Value}
  (a23:PySem.W.nsIn K mainGlobals "_law_all" = some (some (.ref f23))) (l23:K.lookup f23=some ⟨oc23,od23,.func (PySem.W.fnOf "_law_all" "_law_all" (defArgs s_law_all) (defBody s_law_all) (defScope s_law_all) .none kV23 dc23 pm23 an23 cd23 ct23),sl23⟩) (c23:PySem.W.codeIn K cd23 "_law_all" = true) (k23:PySem.W.keepIn K (.ref f23)=true)
  {f24:Addr} {od24 an24:Option Addr} {sl24:Array (Option Value)} {oc24 kV24 dc24 pm24 cd24 ct24:Value}
  (a24:PySem.W.nsIn K mainGlobals "_law_small" = some (some (.ref f24))) (l24:K.lookup f24=some ⟨oc24,od24,.func (PySem.W.fnOf "_law_small" "_law_small" (defArgs s_law_small) (defBody s_law_small) (defScope s_law_small) .none kV24 dc24 pm24 an24 cd24 ct24),sl24⟩) (c24:PySem.W.codeIn K cd24 "_law_small" = true) (k24:PySem.W.keepIn K (.ref f24)=true)
  {f25:Addr} {od25 an25:Option Addr} {sl25:Array (Option Value)} {oc25 kV25 dc25 pm25 cd25 ct25:Value}
  (a25:PySem.W.nsIn K mainGlobals "_law_far" = some (some (.ref f25))) (l25:K.lookup f25=some ⟨oc25,od25,.func (PySem.W.fnOf "_law_far" "_law_far" (defArgs s_law_far) (defBody s_law_far) (defScope s_law_far) .none kV25 dc25 pm25 an25 cd25 ct25),sl25⟩) (c25:PySem.W.codeIn K cd25 "_law_far" = true) (k25:PySem.W.keepIn K (.ref f25)=true)
  {f26:Addr} {od26 an26:Option Addr} {sl26:Array (Option Value)} {oc26 kV26 dc26 pm26 cd26 ct26:Value}
  (a26:PySem.W.nsIn K mainGlobals "_law_some_plan" = some (some (.ref f26))) (l26:K.lookup f26=some ⟨oc26,od26,.func (PySem.W.fnOf "_law_some_plan" "_law_some_plan" (defArgs s_law_some_plan) (defBody s_law_some_plan) (defScope s_law_some_plan) .none kV26 dc26 pm26 an26 cd26 ct26),sl26⟩) (c26:PySem.W.codeIn K cd26 "_law_some_plan" = true) (k26:PySem.W.keepIn K (.ref f26)=true)
  {f27:Addr} {od27 an27:Option Addr} {sl27:Array (Option Value)} {oc27 kV27 dc27 pm27 cd27 ct27:Value}
  (a27:PySem.W.nsIn K mainGlobals "_law_begun" = some (some (.ref f27))) (l27:K.lookup f27=some ⟨oc27,od27,.func (PySem.W.fnOf "_law_begun" "_law_begun" (defArgs s_law_begun) (defBody s_law_begun) (defScope s_law_begun) .none kV27 dc27 pm27 an27 cd27 ct27),sl27⟩) (c27:PySem.W.codeIn K cd27 "_law_begun" = true) (k27:PySem.W.keepIn K (.ref f27)=true)
  {f28:Addr} {od28 an28:Option Addr} {sl28:Array (Option Value)} {oc28 kV28 dc28 pm28 cd28 ct28:Value}
  (a28:PySem.W.nsIn K mainGlobals "law" = some (some (.ref f28))) (l28:K.lookup f28=some ⟨oc28,od28,.func (PySem.W.fnOf "law" "law" (defArgs s_law) (defBody s_law) (defScope s_law) .none kV28 dc28 pm28 an28 cd28 ct28),sl28⟩) (c28:PySem.W.codeIn K cd28 "law" = true) (k28:PySem.W.keepIn K (.ref f28)=true)
  (z_len:PySem.W.nsIn K mainGlobals "len" = some none)
  (z_repr:PySem.W.nsIn K mainGlobals "repr" = some none)
  (z_min:PySem.W.nsIn K mainGlobals "min" = some none)
  (z_max:PySem.W.nsIn K mainGlobals "max" = some none)
  (z_sum:PySem.W.nsIn K mainGlobals "sum" = some none)
  (z_all:PySem.W.nsIn K mainGlobals "all" = some none)
  (z_any:PySem.W.nsIn K mainGlobals "any" = some none)
  (z_sorted:PySem.W.nsIn K mainGlobals "sorted" = some none)
  (z_int:PySem.W.nsIn K mainGlobals "int" = some none)
  (z_str:PySem.W.nsIn K mainGlobals "str" = some none)
  (z_isinstance:PySem.W.nsIn K mainGlobals "isinstance" = some none)
  (z_range:PySem.W.nsIn K mainGlobals "range" = some none)
  (z_enumerate:PySem.W.nsIn K mainGlobals "enumerate" = some none)
  (z_list:PySem.W.nsIn K mainGlobals "list" = some none)
  (z_tuple:PySem.W.nsIn K mainGlobals "tuple" = some none)
  (z_bool:PySem.W.nsIn K mainGlobals "bool" = some none)
  (z_dict:PySem.W.nsIn K mainGlobals "dict" = some none)
  (z_ValueError:PySem.W.nsIn K mainGlobals "ValueError" = some none)
  {t_MOST_SIZE:Tok} (g_MOST_SIZE:PySem.W.nsIn K mainGlobals "MOST_SIZE" = some (some (.int 300 t_MOST_SIZE)))
  : ∃ fd:FuncData,(∀ (s:Shared) (v:Value),BindsTo s fd ⟨[v],[]⟩ [("_law_script",v)])/\∀ base:Heap,K.In base->base.Ns mainGlobals mg->FnOk l.prog w K mg base (CX1 l.prog w) 302 fa fd ["_law_script"] (lSp K (jab T 300 jfF)):=by
 have e:=hfa.symm.trans (PySem.W.mg_of X G a28)
 cases e
 have F0:=jap (st:=s_top_of) l0 c0 k0
 have b0:=F0.binds (ps:=["plan", "period", "s"]) fun _ _ _ _ _ _ us hl=>by obtain ⟨u0,u1,u2,rfl⟩:=ln3 us hl; rfl
 have F1:=jap (st:=s_length_of) l1 c1 k1
 have b1:=F1.binds (ps:=["plan", "period", "beats", "s"]) fun _ _ _ _ _ _ us hl=>by obtain ⟨u0,u1,u2,u3,rfl⟩:=ln4 us hl; rfl
 have F2:=jap (st:=s_unkept) l2 c2 k2
 have b2:=F2.binds (ps:=["plan", "period", "beats"]) fun _ _ _ _ _ _ us hl=>by obtain ⟨u0,u1,u2,rfl⟩:=ln3 us hl; rfl
 have F3:=jap (st:=s_entries_to) l3 c3 k3
 have b3:=F3.binds (ps:=["plan", "work"]) fun _ _ _ _ _ _ us hl=>by obtain ⟨u0,u1,rfl⟩:=ln2 us hl; rfl
 have F4:=jap (st:=s_forest_from) l4 c4 k4
 have b4:=F4.binds (ps:=["plan", "roots"]) fun _ _ _ _ _ _ us hl=>by obtain ⟨u0,u1,rfl⟩:=ln2 us hl; rfl
 have F5:=jap (st:=s_parts_of) l5 c5 k5
 have b5:=F5.binds (ps:=["plan"]) fun _ _ _ _ _ _ us hl=>by obtain ⟨u0,rfl⟩:=ln1 us hl; rfl
 have F6:=jap (st:=s_staying) l6 c6 k6
 have b6:=F6.binds (ps:=["part", "stays"]) fun _ _ _ _ _ _ us hl=>by obtain ⟨u0,u1,rfl⟩:=ln2 us hl; rfl
 have F7:=jap (st:=s_size_of) l7 c7 k7
 have b7:=F7.binds (ps:=["plan", "period", "stays"]) fun _ _ _ _ _ _ us hl=>by obtain ⟨u0,u1,u2,rfl⟩:=ln3 us hl; rfl
 have F8:=jap (st:=s_refuse_great) l8 c8 k8
 have b8:=F8.binds (ps:=["plan", "period", "stays"]) fun _ _ _ _ _ _ us hl=>by obtain ⟨u0,u1,u2,rfl⟩:=ln3 us hl; rfl
 have F9:=jap (st:=s_rows_to_try) l9 c9 k9
 have b9:=F9.binds (ps:=["plan", "period"]) fun _ _ _ _ _ _ us hl=>by obtain ⟨u0,u1,rfl⟩:=ln2 us hl; rfl
 have F10:=jap (st:=s_all_times) l10 c10 k10
 have b10:=F10.binds (ps:=["plan", "period"]) fun _ _ _ _ _ _ us hl=>by obtain ⟨u0,u1,rfl⟩:=ln2 us hl; rfl
 have F11:=jap (st:=s_law_feed) l11 c11 k11
 have b11:=F11.binds (ps:=["_law_script"]) fun _ _ _ _ _ _ us hl=>by obtain ⟨u0,rfl⟩:=ln1 us hl; rfl
 have F12:=jap (st:=s_law_draw) l12 c12 k12
 have b12:=F12.binds (ps:=["_law_feed_here", "_law_many"]) fun _ _ _ _ _ _ us hl=>by obtain ⟨u0,u1,rfl⟩:=ln2 us hl; rfl
 have F13:=jap (st:=s_law_names) l13 c13 k13
 have b13:=F13.binds (ps:=["_law_feed_here", "_law_many"]) fun _ _ _ _ _ _ us hl=>by obtain ⟨u0,u1,rfl⟩:=ln2 us hl; rfl
 have F14:=jap (st:=s_law_number) l14 c14 k14
 have b14:=F14.binds (ps:=["_law_feed_here", "_law_cycle"]) fun _ _ _ _ _ _ us hl=>by obtain ⟨u0,u1,rfl⟩:=ln2 us hl; rfl
 have F15:=jap (st:=s_law_span) l15 c15 k15
 have b15:=F15.binds (ps:=["_law_feed_here", "_law_works", "_law_cycle"]) fun _ _ _ _ _ _ us hl=>by obtain ⟨u0,u1,u2,rfl⟩:=ln3 us hl; rfl
 have F16:=jap (st:=s_law_fitting) l16 c16 k16
 have b16:=F16.binds (ps:=["_law_feed_here", "_law_beats_here", "_law_cycle"]) fun _ _ _ _ _ _ us hl=>by obtain ⟨u0,u1,u2,rfl⟩:=ln3 us hl; rfl
 have F17:=jap (st:=s_law_plan) l17 c17 k17
 have b17:=F17.binds (ps:=["_law_feed_here", "_law_works", "_law_most", "_law_cycle"]) fun _ _ _ _ _ _ us hl=>by obtain ⟨u0,u1,u2,u3,rfl⟩:=ln4 us hl; rfl
 have F18:=jap (st:=s_law_tight) l18 c18 k18
 have b18:=F18.binds (ps:=["_law_feed_here", "_law_works", "_law_most", "_law_cycle"]) fun _ _ _ _ _ _ us hl=>by obtain ⟨u0,u1,u2,u3,rfl⟩:=ln4 us hl; rfl
 have F19:=jap (st:=s_law_beats) l19 c19 k19
 have b19:=F19.binds (ps:=["_law_feed_here", "_law_works", "_law_cycle"]) fun _ _ _ _ _ _ us hl=>by obtain ⟨u0,u1,u2,rfl⟩:=ln3 us hl; rfl
 have F20:=jap (st:=s_law_end) l20 c20 k20
 have b20:=F20.binds (ps:=["_law_cycle", "_law_span_here"]) fun _ _ _ _ _ _ us hl=>by obtain ⟨u0,u1,rfl⟩:=ln2 us hl; rfl
 have F21:=jap (st:=s_law_lacks) l21 c21 k21
 have b21:=F21.binds (ps:=["_law_plan_here", "_law_cycle", "_law_beats_here"]) fun _ _ _ _ _ _ us hl=>by obtain ⟨u0,u1,u2,rfl⟩:=ln3 us hl; rfl
 have F22:=jap (st:=s_law_parts) l22 c22 k22
 have b22:=F22.binds (ps:=["_law_plan_here"]) fun _ _ _ _ _ _ us hl=>by obtain ⟨u0,rfl⟩:=ln1 us hl; rfl
 have F23:=jap (st:=s_law_all) l23 c23 k23
 have b23:=F23.binds (ps:=["_law_plan_here", "_law_cycle"]) fun _ _ _ _ _ _ us hl=>by obtain ⟨u0,u1,rfl⟩:=ln2 us hl; rfl
 have F24:=jap (st:=s_law_small) l24 c24 k24
 have b24:=F24.binds (ps:=["_law_feed_here"]) fun _ _ _ _ _ _ us hl=>by obtain ⟨u0,rfl⟩:=ln1 us hl; rfl
 have F25:=jap (st:=s_law_far) l25 c25 k25
 have b25:=F25.binds (ps:=["_law_feed_here", "_law_plan_here", "_law_cycle"]) fun _ _ _ _ _ _ us hl=>by obtain ⟨u0,u1,u2,rfl⟩:=ln3 us hl; rfl
 have F26:=jap (st:=s_law_some_plan) l26 c26 k26
 have b26:=F26.binds (ps:=["_law_feed_here"]) fun _ _ _ _ _ _ us hl=>by obtain ⟨u0,rfl⟩:=ln1 us hl; rfl
 have F27:=jap (st:=s_law_begun) l27 c27 k27
 have b27:=F27.binds (ps:=["_law_plan_here", "_law_cycle", "_law_beats_here"]) fun _ _ _ _ _ _ us hl=>by obtain ⟨u0,u1,u2,rfl⟩:=ln3 us hl; rfl
 have F28:=jap (st:=s_law) l28 c28 k28
 have b28:=F28.binds (ps:=["_law_script"]) fun _ _ _ _ _ _ us hl=>by obtain ⟨u0,rfl⟩:=ln1 us hl; rfl
 refine ⟨PySem.W.fnOf "law" "law" (defArgs s_law) (defBody s_law) (defScope s_law) .none kV28 dc28 pm28 an28 cd28 ct28,fun s v=>.of_eq rfl,fun base _ _=>?_⟩
 have dyn:∀ (n:Nat) (d:Fun) (st:Stmt),T.funs[n]?=some d->sts[n]?=some st->∃ (f:Addr) (fd:FuncData),L2.Fun K d.name d.name st f fd/\mg d.name=some (.ref f)/\Binds K fd d.ps []:=by
  intro n d st h1 h2
  rcases n with _ | n
  ·cases h1; cases h2; exact ⟨_,_,F0,PySem.W.mg_of X G a0,b0⟩
  rcases n with _ | n
  ·cases h1; cases h2; exact ⟨_,_,F1,PySem.W.mg_of X G a1,b1⟩
  rcases n with _ | n
  ·cases h1; cases h2; exact ⟨_,_,F2,PySem.W.mg_of X G a2,b2⟩
  rcases n with _ | n
  ·cases h1; cases h2; exact ⟨_,_,F3,PySem.W.mg_of X G a3,b3⟩
  rcases n with _ | n
  ·cases h1; cases h2; exact ⟨_,_,F4,PySem.W.mg_of X G a4,b4⟩
  rcases n with _ | n
  ·cases h1; cases h2; exact ⟨_,_,F5,PySem.W.mg_of X G a5,b5⟩
  rcases n with _ | n
  ·cases h1; cases h2; exact ⟨_,_,F6,PySem.W.mg_of X G a6,b6⟩
  rcases n with _ | n
  ·cases h1; cases h2; exact ⟨_,_,F7,PySem.W.mg_of X G a7,b7⟩
  rcases n with _ | n
  ·cases h1; cases h2; exact ⟨_,_,F8,PySem.W.mg_of X G a8,b8⟩
  rcases n with _ | n
  ·cases h1; cases h2; exact ⟨_,_,F9,PySem.W.mg_of X G a9,b9⟩
  rcases n with _ | n
  ·cases h1; cases h2; exact ⟨_,_,F10,PySem.W.mg_of X G a10,b10⟩
  rcases n with _ | n
  ·cases h1; cases h2; exact ⟨_,_,F11,PySem.W.mg_of X G a11,b11⟩
  rcases n with _ | n
  ·cases h1; cases h2; exact ⟨_,_,F12,PySem.W.mg_of X G a12,b12⟩
  rcases n with _ | n
  ·cases h1; cases h2; exact ⟨_,_,F13,PySem.W.mg_of X G a13,b13⟩
  rcases n with _ | n
  ·cases h1; cases h2; exact ⟨_,_,F14,PySem.W.mg_of X G a14,b14⟩
  rcases n with _ | n
  ·cases h1; cases h2; exact ⟨_,_,F15,PySem.W.mg_of X G a15,b15⟩
  rcases n with _ | n
  ·cases h1; cases h2; exact ⟨_,_,F16,PySem.W.mg_of X G a16,b16⟩
  rcases n with _ | n
  ·cases h1; cases h2; exact ⟨_,_,F17,PySem.W.mg_of X G a17,b17⟩
  rcases n with _ | n
  ·cases h1; cases h2; exact ⟨_,_,F18,PySem.W.mg_of X G a18,b18⟩
  rcases n with _ | n
  ·cases h1; cases h2; exact ⟨_,_,F19,PySem.W.mg_of X G a19,b19⟩
  rcases n with _ | n
  ·cases h1; cases h2; exact ⟨_,_,F20,PySem.W.mg_of X G a20,b20⟩
  rcases n with _ | n
  ·cases h1; cases h2; exact ⟨_,_,F21,PySem.W.mg_of X G a21,b21⟩
  rcases n with _ | n
  ·cases h1; cases h2; exact ⟨_,_,F22,PySem.W.mg_of X G a22,b22⟩
  rcases n with _ | n
  ·cases h1; cases h2; exact ⟨_,_,F23,PySem.W.mg_of X G a23,b23⟩
  rcases n with _ | n
  ·cases h1; cases h2; exact ⟨_,_,F24,PySem.W.mg_of X G a24,b24⟩
  rcases n with _ | n
  ·cases h1; cases h2; exact ⟨_,_,F25,PySem.W.mg_of X G a25,b25⟩
  rcases n with _ | n
  ·cases h1; cases h2; exact ⟨_,_,F26,PySem.W.mg_of X G a26,b26⟩
  rcases n with _ | n
  ·cases h1; cases h2; exact ⟨_,_,F27,PySem.W.mg_of X G a27,b27⟩
  rcases n with _ | n
  ·cases h1; cases h2; exact ⟨_,_,F28,PySem.W.mg_of X G a28,b28⟩
  cases h1
 have hb:∀ x∈jcd,mg x=none:=by
  intro x hx
  simp only [jcd,List.mem_cons,List.not_mem_nil,or_false] at hx
  rcases hx with rfl | rfl | rfl | rfl | rfl | rfl | rfl | rfl | rfl | rfl | rfl | rfl | rfl | rfl | rfl | rfl | rfl | rfl
  ·exact PySem.W.mg_none_of X G z_len
  ·exact PySem.W.mg_none_of X G z_repr
  ·exact PySem.W.mg_none_of X G z_min
  ·exact PySem.W.mg_none_of X G z_max
  ·exact PySem.W.mg_none_of X G z_sum
  ·exact PySem.W.mg_none_of X G z_all
  ·exact PySem.W.mg_none_of X G z_any
  ·exact PySem.W.mg_none_of X G z_sorted
  ·exact PySem.W.mg_none_of X G z_int
  ·exact PySem.W.mg_none_of X G z_str
  ·exact PySem.W.mg_none_of X G z_isinstance
  ·exact PySem.W.mg_none_of X G z_range
  ·exact PySem.W.mg_none_of X G z_enumerate
  ·exact PySem.W.mg_none_of X G z_list
  ·exact PySem.W.mg_none_of X G z_tuple
  ·exact PySem.W.mg_none_of X G z_bool
  ·exact PySem.W.mg_none_of X G z_dict
  ·exact PySem.W.mg_none_of X G z_ValueError
 have hg:∀ (n:Nat) (x:Str) (u:U),T.gn[n]?=some x->T.gs[n]?=some u->∃ v w,mg x=some w/\RelV v w/\∀ H,RU K H u v:=by
  intro n x u h1 h2
  rcases n with _ | n
  ·cases h1; cases h2; exact ⟨V.int 300,_,PySem.W.mg_of X G g_MOST_SIZE,⟨_,rfl⟩,fun _=>rfl⟩
  cases h1
 have hc:∀ n∈T.cs,1<=n->∃ C,XCls K (gK K) (clsN n) (clsF n) C:=by
  intro n hn h1
  exact absurd hn (by show n∉([]:List Nat); simp)
 have hm:=jlp X G
 obtain ⟨f,fd,F,m,_,_⟩:=jew (P:=l.prog) (w:=w) (base:=base) je1 jga dyn hb hg hc hm 300 jfF jhO rfl
 have e2:=m.symm.trans (PySem.W.mg_of X G a28)
 cases e2
 exact jfv F28 je1 jga dyn hb hg hc hm (d:=jhO) (n:=jfF) rfl rfl (PySem.W.mg_of X G a28) b28
theorem walk {l:PySem.W.OpenLaw}{q:Program}{loose:List Str}{XP:(Str->Option Value)->Heap->Prop}{YP:World->Heap->Prop}{d:DefRec}{K:Params->PySem.W.Frag}(hn:l.most=some 63)(hdf:d.params.defaults=[])
  (hY:∀ (w:World) (h:Heap),YP w h->(K w.params).In h) (hK:∀ w:World,((K w.params).all fun p=>p.2.cls != .type "list")=true) (hsy:∀ w:World,∃ o,(K w.params).lookup sysModules=some o/\o.cls=.type "dict")
  (F:∀ (w:World) (mg:Str->Option Value) (fa:Addr) (h:Heap),(K w.params).In h->h.Ns mainGlobals mg->mg d.name=some (.ref fa)->
   ∃ fd:FuncData,(∀ (s:Shared) (u:Value),BindsTo s fd ⟨[u],[]⟩ [("_law_script",u)])/\∀ base:Heap,(K w.params).In base->base.Ns mainGlobals mg->FnOk l.prog w (K w.params) mg base (CX1 l.prog w) 302 fa fd ["_law_script"] (lSp (K w.params) (jab T 300 jfF))) :
  PySem.W.WalkO q loose XP YP l.row.toRowW d [] (fun f vs=>PySem.call f vs):=
 L2.walk_of (n:=63) (k:=302) (x := "_law_script") (CX:=fun w=>CX1 l.prog w) (sp:=fun w=>lSp (K w.params) (jab T 300 jfF)) hn (by decide) hdf ⟨rfl,by decide,by decide,rfl⟩ hY hsy F (fun w _ a ns hl hO hS=>law_sp (hK w) hO hS (law_ir a ns hl)) fun _ _ _ _ _ ⟨_,_,_,_,_,_,_,_,_,_,z⟩=>z
end Z
def Z.bY4:List PySem.Stmt:=L2.defBody (Z.top 4)
def Z.cY4:PySem.Scope:=L2.defScope (Z.top 4)
def Z.bY5:List PySem.Stmt:=L2.defBody (Z.top 5)
def Z.cY5:PySem.Scope:=L2.defScope (Z.top 5)
def Z.bY6:List PySem.Stmt:=L2.defBody (Z.top 6)
def Z.cY6:PySem.Scope:=L2.defScope (Z.top 6)
def Z.bY8:List PySem.Stmt:=L2.defBody (Z.top 8)
def Z.cY8:PySem.Scope:=L2.defScope (Z.top 8)
def Z.bY9:List PySem.Stmt:=L2.defBody (Z.top 9)
def Z.cY9:PySem.Scope:=L2.defScope (Z.top 9)
def Z.bY11:List PySem.Stmt:=L2.defBody (Z.top 11)
def Z.cY11:PySem.Scope:=L2.defScope (Z.top 11)
def Z.bY14:List PySem.Stmt:=L2.defBody (Z.top 14)
def Z.cY14:PySem.Scope:=L2.defScope (Z.top 14)
def Z.bY15:List PySem.Stmt:=L2.defBody (Z.top 15)
def Z.cY15:PySem.Scope:=L2.defScope (Z.top 15)
def Z.bY16:List PySem.Stmt:=L2.defBody (Z.top 16)
def Z.cY16:PySem.Scope:=L2.defScope (Z.top 16)
def Z.bY18:List PySem.Stmt:=L2.defBody (Z.top 18)
def Z.cY18:PySem.Scope:=L2.defScope (Z.top 18)
def Z.bY19:List PySem.Stmt:=L2.defBody (Z.top 19)
def Z.cY19:PySem.Scope:=L2.defScope (Z.top 19)
def Z.bY21:List PySem.Stmt:=L2.defBody (Z.top 21)
def Z.cY21:PySem.Scope:=L2.defScope (Z.top 21)
def Z.bY22:List PySem.Stmt:=L2.defBody (Z.top 22)
def Z.cY22:PySem.Scope:=L2.defScope (Z.top 22)
def Z.bY23:List PySem.Stmt:=L2.defBody (Z.top 23)
def Z.cY23:PySem.Scope:=L2.defScope (Z.top 23)
def Z.bY24:List PySem.Stmt:=L2.defBody (Z.top 24)
def Z.cY24:PySem.Scope:=L2.defScope (Z.top 24)
def Z.bY25:List PySem.Stmt:=L2.defBody (Z.top 25)
def Z.cY25:PySem.Scope:=L2.defScope (Z.top 25)
def Z.bY26:List PySem.Stmt:=L2.defBody (Z.top 26)
def Z.cY26:PySem.Scope:=L2.defScope (Z.top 26)
def Z.bY27:List PySem.Stmt:=L2.defBody (Z.top 27)
def Z.cY27:PySem.Scope:=L2.defScope (Z.top 27)
def Z.bY28:List PySem.Stmt:=L2.defBody (Z.top 28)
def Z.cY28:PySem.Scope:=L2.defScope (Z.top 28)
def Z.bY29:List PySem.Stmt:=L2.defBody (Z.top 29)
def Z.cY29:PySem.Scope:=L2.defScope (Z.top 29)
def Z.bY30:List PySem.Stmt:=L2.defBody (Z.top 30)
def Z.cY30:PySem.Scope:=L2.defScope (Z.top 30)
def Z.bY31:List PySem.Stmt:=L2.defBody (Z.top 31)
def Z.cY31:PySem.Scope:=L2.defScope (Z.top 31)
def Z.bY32:List PySem.Stmt:=L2.defBody (Z.top 32)
def Z.cY32:PySem.Scope:=L2.defScope (Z.top 32)
def Z.bY33:List PySem.Stmt:=L2.defBody (Z.top 33)
def Z.cY33:PySem.Scope:=L2.defScope (Z.top 33)
def Z.bY34:List PySem.Stmt:=L2.defBody (Z.top 34)
def Z.cY34:PySem.Scope:=L2.defScope (Z.top 34)
def Z.bY35:List PySem.Stmt:=L2.defBody (Z.top 35)
def Z.cY35:PySem.Scope:=L2.defScope (Z.top 35)
def Z.bY36:List PySem.Stmt:=L2.defBody (Z.top 36)
def Z.cY36:PySem.Scope:=L2.defScope (Z.top 36)
def Z.bY37:List PySem.Stmt:=L2.defBody (Z.top 37)
def Z.cY37:PySem.Scope:=L2.defScope (Z.top 37)
def Z.bY38:List PySem.Stmt:=L2.defBody (Z.top 38)
def Z.cY38:PySem.Scope:=L2.defScope (Z.top 38)
def Z.sY0:PySem.Stmt:=(PySem.Stmt.Assign (targets:=[(PySem.Expr.Name "__name__" ⟨1,0,1,8⟩)]) (value:=(PySem.Expr.Constant (PySem.Const.str "beatplans.errors") 0 ⟨1,11,1,29⟩)) (pos:=⟨1,0,1,29⟩))
def Z.sY1:PySem.Stmt:=(PySem.Stmt.ClassDef (name := "PlanError") (bases:=[(PySem.Expr.Name "ValueError" ⟨2,16,2,26⟩)]) (keywords:=[]) (body:=[(PySem.Stmt.Pass ⟨3,4,3,8⟩)]) (decorator_list:=[]) (type_params:=[]) (scope:={ kind:=PySem.ScopeKind.class,names:=[],isGenerator:=false,isCoroutine:=false,more:=[]:PySem.Scope }) (tscope:=none) (bind := "PlanError") (static_attributes:=[]) (pos:=⟨2,0,3,8⟩))
def Z.sY2:PySem.Stmt:=(PySem.Stmt.ClassDef (name := "TooMany") (bases:=[(PySem.Expr.Name "PlanError" ⟨4,14,4,23⟩)]) (keywords:=[]) (body:=[ (PySem.Stmt.FunctionDef (name := "__init__") (args:={ posonlyargs:=[],args:=[ { arg := "self",annotation:=none,pos:=⟨6,17,6,21⟩:PySem.Arg },{ arg := "word",annotation:=none,pos:=⟨6,23,6,27⟩:PySem.Arg }],vararg:=none,kwonlyargs:=[],kw_defaults:=[],kwarg:=none,defaults:=[]:PySem.Arguments }) (body:=[ (PySem.Stmt.Assign (targets:=[(PySem.Expr.Attribute (PySem.Expr.Name "self" ⟨7,8,7,12⟩) "word" ⟨7,8,7,17⟩)]) (value:=(PySem.Expr.Name "word" ⟨7,20,7,24⟩)) (pos:=⟨7,8,7,24⟩))]) (decorator_list:=[]) (returns:=none) (type_params:=[]) (scope:={ kind:=PySem.ScopeKind.function,names:=[(PySem.Str.ofString "self",PySem.NameKind.local),(PySem.Str.ofString "word",PySem.NameKind.local)],isGenerator:=false,isCoroutine:=false,more:=[]:PySem.Scope }) (tscope:=none) (bind := "__init__") (pos:=⟨6,4,7,24⟩))]) (decorator_list:=[]) (type_params:=[]) (scope:={ kind:=PySem.ScopeKind.class,names:=[(PySem.Str.ofString "__init__",PySem.NameKind.local)],isGenerator:=false,isCoroutine:=false,more:=[]:PySem.Scope }) (tscope:=none) (bind := "TooMany") (static_attributes:=[PySem.Str.ofString "word"]) (pos:=⟨4,0,7,24⟩))
def Z.sY3:PySem.Stmt:=(PySem.Stmt.Assign (targets:=[(PySem.Expr.Name "__name__" ⟨8,0,8,8⟩)]) (value:=(PySem.Expr.Constant (PySem.Const.str "beatplans.plans") 0 ⟨8,11,8,28⟩)) (pos:=⟨8,0,8,28⟩))
def Z.sY4:PySem.Stmt:=(PySem.Stmt.FunctionDef (name := "top_of") (args:={ posonlyargs:=[],args:=[ { arg := "plan",annotation:=none,pos:=⟨9,11,9,15⟩:PySem.Arg },{ arg := "period",annotation:=none,pos:=⟨9,17,9,23⟩:PySem.Arg },{ arg := "s",annotation:=none,pos:=⟨9,25,9,26⟩:PySem.Arg }],vararg:=none,kwonlyargs:=[],kw_defaults:=[],kwarg:=none,defaults:=[]:PySem.Arguments }) (body:=Z.bY4) (decorator_list:=[]) (returns:=none) (type_params:=[]) (scope:=Z.cY4) (tscope:=none) (bind := "top_of") (pos:=⟨9,0,11,52⟩))
def Z.sY5:PySem.Stmt:=(PySem.Stmt.FunctionDef (name := "length_of") (args:={ posonlyargs:=[],args:=[ { arg := "plan",annotation:=none,pos:=⟨12,14,12,18⟩:PySem.Arg },{ arg := "period",annotation:=none,pos:=⟨12,20,12,26⟩:PySem.Arg },{ arg := "beats",annotation:=none,pos:=⟨12,28,12,33⟩:PySem.Arg },{ arg := "s",annotation:=none,pos:=⟨12,35,12,36⟩:PySem.Arg }],vararg:=none,kwonlyargs:=[],kw_defaults:=[],kwarg:=none,defaults:=[]:PySem.Arguments }) (body:=Z.bY5) (decorator_list:=[]) (returns:=none) (type_params:=[]) (scope:=Z.cY5) (tscope:=none) (bind := "length_of") (pos:=⟨12,0,14,59⟩))
def Z.sY6:PySem.Stmt:=(PySem.Stmt.FunctionDef (name := "unkept") (args:={ posonlyargs:=[],args:=[ { arg := "plan",annotation:=none,pos:=⟨15,11,15,15⟩:PySem.Arg },{ arg := "period",annotation:=none,pos:=⟨15,17,15,23⟩:PySem.Arg },{ arg := "beats",annotation:=none,pos:=⟨15,25,15,30⟩:PySem.Arg }],vararg:=none,kwonlyargs:=[],kw_defaults:=[],kwarg:=none,defaults:=[]:PySem.Arguments }) (body:=Z.bY6) (decorator_list:=[]) (returns:=none) (type_params:=[]) (scope:=Z.cY6) (tscope:=none) (bind := "unkept") (pos:=⟨15,0,19,15⟩))
def Z.sY7:PySem.Stmt:=(PySem.Stmt.Assign (targets:=[(PySem.Expr.Name "__name__" ⟨20,0,20,8⟩)]) (value:=(PySem.Expr.Constant (PySem.Const.str "beatplans.forests") 0 ⟨20,11,20,30⟩)) (pos:=⟨20,0,20,30⟩))
def Z.sY8:PySem.Stmt:=(PySem.Stmt.FunctionDef (name := "entries_to") (args:={ posonlyargs:=[],args:=[ { arg := "plan",annotation:=none,pos:=⟨21,15,21,19⟩:PySem.Arg },{ arg := "work",annotation:=none,pos:=⟨21,21,21,25⟩:PySem.Arg }],vararg:=none,kwonlyargs:=[],kw_defaults:=[],kwarg:=none,defaults:=[]:PySem.Arguments }) (body:=Z.bY8) (decorator_list:=[]) (returns:=none) (type_params:=[]) (scope:=Z.cY8) (tscope:=none) (bind := "entries_to") (pos:=⟨21,0,28,16⟩))
def Z.sY9:PySem.Stmt:=(PySem.Stmt.FunctionDef (name := "forest_from") (args:={ posonlyargs:=[],args:=[ { arg := "plan",annotation:=none,pos:=⟨29,16,29,20⟩:PySem.Arg },{ arg := "roots",annotation:=none,pos:=⟨29,22,29,27⟩:PySem.Arg }],vararg:=none,kwonlyargs:=[],kw_defaults:=[],kwarg:=none,defaults:=[]:PySem.Arguments }) (body:=Z.bY9) (decorator_list:=[]) (returns:=none) (type_params:=[]) (scope:=Z.cY9) (tscope:=none) (bind := "forest_from") (pos:=⟨29,0,39,17⟩))
def Z.sY10:PySem.Stmt:=(PySem.Stmt.Assign (targets:=[(PySem.Expr.Name "__name__" ⟨40,0,40,8⟩)]) (value:=(PySem.Expr.Constant (PySem.Const.str "beatplans.joining") 0 ⟨40,11,40,30⟩)) (pos:=⟨40,0,40,30⟩))
def Z.sY11:PySem.Stmt:=(PySem.Stmt.FunctionDef (name := "parts_of") (args:={ posonlyargs:=[],args:=[{ arg := "plan",annotation:=none,pos:=⟨41,13,41,17⟩:PySem.Arg }],vararg:=none,kwonlyargs:=[],kw_defaults:=[],kwarg:=none,defaults:=[]:PySem.Arguments }) (body:=Z.bY11) (decorator_list:=[]) (returns:=none) (type_params:=[]) (scope:=Z.cY11) (tscope:=none) (bind := "parts_of") (pos:=⟨41,0,49,23⟩))
def Z.sY12:PySem.Stmt:=(PySem.Stmt.Assign (targets:=[(PySem.Expr.Name "__name__" ⟨50,0,50,8⟩)]) (value:=(PySem.Expr.Constant (PySem.Const.str "beatplans.finding") 0 ⟨50,11,50,30⟩)) (pos:=⟨50,0,50,30⟩))
def Z.sY13:PySem.Stmt:=(PySem.Stmt.Assign (targets:=[(PySem.Expr.Name "MOST_SIZE" ⟨51,0,51,9⟩)]) (value:=(PySem.Expr.Constant (PySem.Const.int 300) 0 ⟨51,12,51,15⟩)) (pos:=⟨51,0,51,15⟩))
def Z.sY14:PySem.Stmt:=(PySem.Stmt.FunctionDef (name := "staying") (args:={ posonlyargs:=[],args:=[ { arg := "part",annotation:=none,pos:=⟨52,12,52,16⟩:PySem.Arg },{ arg := "stays",annotation:=none,pos:=⟨52,18,52,23⟩:PySem.Arg }],vararg:=none,kwonlyargs:=[],kw_defaults:=[],kwarg:=none,defaults:=[]:PySem.Arguments }) (body:=Z.bY14) (decorator_list:=[]) (returns:=none) (type_params:=[]) (scope:=Z.cY14) (tscope:=none) (bind := "staying") (pos:=⟨52,0,53,51⟩))
def Z.sY15:PySem.Stmt:=(PySem.Stmt.FunctionDef (name := "size_of") (args:={ posonlyargs:=[],args:=[ { arg := "plan",annotation:=none,pos:=⟨54,12,54,16⟩:PySem.Arg },{ arg := "period",annotation:=none,pos:=⟨54,18,54,24⟩:PySem.Arg },{ arg := "stays",annotation:=none,pos:=⟨54,26,54,31⟩:PySem.Arg }],vararg:=none,kwonlyargs:=[],kw_defaults:=[],kwarg:=none,defaults:=[]:PySem.Arguments }) (body:=Z.bY15) (decorator_list:=[]) (returns:=none) (type_params:=[]) (scope:=Z.cY15) (tscope:=none) (bind := "size_of") (pos:=⟨54,0,59,15⟩))
def Z.sY16:PySem.Stmt:=(PySem.Stmt.FunctionDef (name := "refuse_great") (args:={ posonlyargs:=[],args:=[ { arg := "plan",annotation:=none,pos:=⟨60,17,60,21⟩:PySem.Arg },{ arg := "period",annotation:=none,pos:=⟨60,23,60,29⟩:PySem.Arg },{ arg := "stays",annotation:=none,pos:=⟨60,31,60,36⟩:PySem.Arg }],vararg:=none,kwonlyargs:=[],kw_defaults:=[],kwarg:=none,defaults:=[]:PySem.Arguments }) (body:=Z.bY16) (decorator_list:=[]) (returns:=none) (type_params:=[]) (scope:=Z.cY16) (tscope:=none) (bind := "refuse_great") (pos:=⟨60,0,62,29⟩))
def Z.sY17:PySem.Stmt:=(PySem.Stmt.Assign (targets:=[(PySem.Expr.Name "__name__" ⟨63,0,63,8⟩)]) (value:=(PySem.Expr.Constant (PySem.Const.str "beatplans.alltimes") 0 ⟨63,11,63,31⟩)) (pos:=⟨63,0,63,31⟩))
def Z.sY18:PySem.Stmt:=(PySem.Stmt.FunctionDef (name := "rows_to_try") (args:={ posonlyargs:=[],args:=[ { arg := "plan",annotation:=none,pos:=⟨64,16,64,20⟩:PySem.Arg },{ arg := "period",annotation:=none,pos:=⟨64,22,64,28⟩:PySem.Arg }],vararg:=none,kwonlyargs:=[],kw_defaults:=[],kwarg:=none,defaults:=[]:PySem.Arguments }) (body:=Z.bY18) (decorator_list:=[]) (returns:=none) (type_params:=[]) (scope:=Z.cY18) (tscope:=none) (bind := "rows_to_try") (pos:=⟨64,0,70,15⟩))
def Z.sY19:PySem.Stmt:=(PySem.Stmt.FunctionDef (name := "all_times") (args:={ posonlyargs:=[],args:=[ { arg := "plan",annotation:=none,pos:=⟨71,14,71,18⟩:PySem.Arg },{ arg := "period",annotation:=none,pos:=⟨71,20,71,26⟩:PySem.Arg }],vararg:=none,kwonlyargs:=[],kw_defaults:=[],kwarg:=none,defaults:=[]:PySem.Arguments }) (body:=Z.bY19) (decorator_list:=[]) (returns:=none) (type_params:=[]) (scope:=Z.cY19) (tscope:=none) (bind := "all_times") (pos:=⟨71,0,73,90⟩))
def Z.sY20:PySem.Stmt:=(PySem.Stmt.Assign (targets:=[(PySem.Expr.Name "__name__" ⟨74,0,74,8⟩)]) (value:=(PySem.Expr.Constant (PySem.Const.str "law_beatplans_k20_whole_all_times") 0 ⟨74,11,74,46⟩)) (pos:=⟨74,0,74,46⟩))
def Z.sY21:PySem.Stmt:=(PySem.Stmt.FunctionDef (name := "_law_feed") (args:={ posonlyargs:=[],args:=[{ arg := "_law_script",annotation:=none,pos:=⟨75,14,75,25⟩:PySem.Arg }],vararg:=none,kwonlyargs:=[],kw_defaults:=[],kwarg:=none,defaults:=[]:PySem.Arguments }) (body:=Z.bY21) (decorator_list:=[]) (returns:=none) (type_params:=[]) (scope:=Z.cY21) (tscope:=none) (bind := "_law_feed") (pos:=⟨75,0,76,110⟩))
def Z.sY22:PySem.Stmt:=(PySem.Stmt.FunctionDef (name := "_law_draw") (args:={ posonlyargs:=[],args:=[ { arg := "_law_feed_here",annotation:=none,pos:=⟨77,14,77,28⟩:PySem.Arg },{ arg := "_law_many",annotation:=none,pos:=⟨77,30,77,39⟩:PySem.Arg }],vararg:=none,kwonlyargs:=[],kw_defaults:=[],kwarg:=none,defaults:=[]:PySem.Arguments }) (body:=Z.bY22) (decorator_list:=[]) (returns:=none) (type_params:=[]) (scope:=Z.cY22) (tscope:=none) (bind := "_law_draw") (pos:=⟨77,0,89,21⟩))
def Z.sY23:PySem.Stmt:=(PySem.Stmt.FunctionDef (name := "_law_names") (args:={ posonlyargs:=[],args:=[ { arg := "_law_feed_here",annotation:=none,pos:=⟨90,15,90,29⟩:PySem.Arg },{ arg := "_law_many",annotation:=none,pos:=⟨90,31,90,40⟩:PySem.Arg }],vararg:=none,kwonlyargs:=[],kw_defaults:=[],kwarg:=none,defaults:=[]:PySem.Arguments }) (body:=Z.bY23) (decorator_list:=[]) (returns:=none) (type_params:=[]) (scope:=Z.cY23) (tscope:=none) (bind := "_law_names") (pos:=⟨90,0,95,100⟩))
def Z.sY24:PySem.Stmt:=(PySem.Stmt.FunctionDef (name := "_law_number") (args:={ posonlyargs:=[],args:=[ { arg := "_law_feed_here",annotation:=none,pos:=⟨96,16,96,30⟩:PySem.Arg },{ arg := "_law_cycle",annotation:=none,pos:=⟨96,32,96,42⟩:PySem.Arg }],vararg:=none,kwonlyargs:=[],kw_defaults:=[],kwarg:=none,defaults:=[]:PySem.Arguments }) (body:=Z.bY24) (decorator_list:=[]) (returns:=none) (type_params:=[]) (scope:=Z.cY24) (tscope:=none) (bind := "_law_number") (pos:=⟨96,0,97,169⟩))
def Z.sY25:PySem.Stmt:=(PySem.Stmt.FunctionDef (name := "_law_span") (args:={ posonlyargs:=[],args:=[ { arg := "_law_feed_here",annotation:=none,pos:=⟨98,14,98,28⟩:PySem.Arg },{ arg := "_law_works",annotation:=none,pos:=⟨98,30,98,40⟩:PySem.Arg },{ arg := "_law_cycle",annotation:=none,pos:=⟨98,42,98,52⟩:PySem.Arg }],vararg:=none,kwonlyargs:=[],kw_defaults:=[],kwarg:=none,defaults:=[]:PySem.Arguments }) (body:=Z.bY25) (decorator_list:=[]) (returns:=none) (type_params:=[]) (scope:=Z.cY25) (tscope:=none) (bind := "_law_span") (pos:=⟨98,0,104,73⟩))
def Z.sY26:PySem.Stmt:=(PySem.Stmt.FunctionDef (name := "_law_fitting") (args:={ posonlyargs:=[],args:=[ { arg := "_law_feed_here",annotation:=none,pos:=⟨105,17,105,31⟩:PySem.Arg },{ arg := "_law_beats_here",annotation:=none,pos:=⟨105,33,105,48⟩:PySem.Arg },{ arg := "_law_cycle",annotation:=none,pos:=⟨105,50,105,60⟩:PySem.Arg }],vararg:=none,kwonlyargs:=[],kw_defaults:=[],kwarg:=none,defaults:=[]:PySem.Arguments }) (body:=Z.bY26) (decorator_list:=[]) (returns:=none) (type_params:=[]) (scope:=Z.cY26) (tscope:=none) (bind := "_law_fitting") (pos:=⟨105,0,112,145⟩))
def Z.sY27:PySem.Stmt:=(PySem.Stmt.FunctionDef (name := "_law_plan") (args:={ posonlyargs:=[],args:=[ { arg := "_law_feed_here",annotation:=none,pos:=⟨113,14,113,28⟩:PySem.Arg },{ arg := "_law_works",annotation:=none,pos:=⟨113,30,113,40⟩:PySem.Arg },{ arg := "_law_most",annotation:=none,pos:=⟨113,42,113,51⟩:PySem.Arg },{ arg := "_law_cycle",annotation:=none,pos:=⟨113,53,113,63⟩:PySem.Arg }],vararg:=none,kwonlyargs:=[],kw_defaults:=[],kwarg:=none,defaults:=[]:PySem.Arguments }) (body:=Z.bY27) (decorator_list:=[]) (returns:=none) (type_params:=[]) (scope:=Z.cY27) (tscope:=none) (bind := "_law_plan") (pos:=⟨113,0,123,70⟩))
def Z.sY28:PySem.Stmt:=(PySem.Stmt.FunctionDef (name := "_law_tight") (args:={ posonlyargs:=[],args:=[ { arg := "_law_feed_here",annotation:=none,pos:=⟨124,15,124,29⟩:PySem.Arg },{ arg := "_law_works",annotation:=none,pos:=⟨124,31,124,41⟩:PySem.Arg },{ arg := "_law_most",annotation:=none,pos:=⟨124,43,124,52⟩:PySem.Arg },{ arg := "_law_cycle",annotation:=none,pos:=⟨124,54,124,64⟩:PySem.Arg }],vararg:=none,kwonlyargs:=[],kw_defaults:=[],kwarg:=none,defaults:=[]:PySem.Arguments }) (body:=Z.bY28) (decorator_list:=[]) (returns:=none) (type_params:=[]) (scope:=Z.cY28) (tscope:=none) (bind := "_law_tight") (pos:=⟨124,0,137,90⟩))
def Z.sY29:PySem.Stmt:=(PySem.Stmt.FunctionDef (name := "_law_beats") (args:={ posonlyargs:=[],args:=[ { arg := "_law_feed_here",annotation:=none,pos:=⟨138,15,138,29⟩:PySem.Arg },{ arg := "_law_works",annotation:=none,pos:=⟨138,31,138,41⟩:PySem.Arg },{ arg := "_law_cycle",annotation:=none,pos:=⟨138,43,138,53⟩:PySem.Arg }],vararg:=none,kwonlyargs:=[],kw_defaults:=[],kwarg:=none,defaults:=[]:PySem.Arguments }) (body:=Z.bY29) (decorator_list:=[]) (returns:=none) (type_params:=[]) (scope:=Z.cY29) (tscope:=none) (bind := "_law_beats") (pos:=⟨138,0,139,89⟩))
def Z.sY30:PySem.Stmt:=(PySem.Stmt.FunctionDef (name := "_law_end") (args:={ posonlyargs:=[],args:=[ { arg := "_law_cycle",annotation:=none,pos:=⟨140,13,140,23⟩:PySem.Arg },{ arg := "_law_span_here",annotation:=none,pos:=⟨140,25,140,39⟩:PySem.Arg }],vararg:=none,kwonlyargs:=[],kw_defaults:=[],kwarg:=none,defaults:=[]:PySem.Arguments }) (body:=Z.bY30) (decorator_list:=[]) (returns:=none) (type_params:=[]) (scope:=Z.cY30) (tscope:=none) (bind := "_law_end") (pos:=⟨140,0,142,60⟩))
def Z.sY31:PySem.Stmt:=(PySem.Stmt.FunctionDef (name := "_law_lacks") (args:={ posonlyargs:=[],args:=[ { arg := "_law_plan_here",annotation:=none,pos:=⟨143,15,143,29⟩:PySem.Arg },{ arg := "_law_cycle",annotation:=none,pos:=⟨143,31,143,41⟩:PySem.Arg },{ arg := "_law_beats_here",annotation:=none,pos:=⟨143,43,143,58⟩:PySem.Arg }],vararg:=none,kwonlyargs:=[],kw_defaults:=[],kwarg:=none,defaults:=[]:PySem.Arguments }) (body:=Z.bY31) (decorator_list:=[]) (returns:=none) (type_params:=[]) (scope:=Z.cY31) (tscope:=none) (bind := "_law_lacks") (pos:=⟨143,0,150,21⟩))
def Z.sY32:PySem.Stmt:=(PySem.Stmt.FunctionDef (name := "_law_parts") (args:={ posonlyargs:=[],args:=[{ arg := "_law_plan_here",annotation:=none,pos:=⟨151,15,151,29⟩:PySem.Arg }],vararg:=none,kwonlyargs:=[],kw_defaults:=[],kwarg:=none,defaults:=[]:PySem.Arguments }) (body:=Z.bY32) (decorator_list:=[]) (returns:=none) (type_params:=[]) (scope:=Z.cY32) (tscope:=none) (bind := "_law_parts") (pos:=⟨151,0,160,29⟩))
def Z.sY33:PySem.Stmt:=(PySem.Stmt.FunctionDef (name := "_law_all") (args:={ posonlyargs:=[],args:=[ { arg := "_law_plan_here",annotation:=none,pos:=⟨161,13,161,27⟩:PySem.Arg },{ arg := "_law_cycle",annotation:=none,pos:=⟨161,29,161,39⟩:PySem.Arg }],vararg:=none,kwonlyargs:=[],kw_defaults:=[],kwarg:=none,defaults:=[]:PySem.Arguments }) (body:=Z.bY33) (decorator_list:=[]) (returns:=none) (type_params:=[]) (scope:=Z.cY33) (tscope:=none) (bind := "_law_all") (pos:=⟨161,0,169,127⟩))
def Z.sY34:PySem.Stmt:=(PySem.Stmt.FunctionDef (name := "_law_small") (args:={ posonlyargs:=[],args:=[{ arg := "_law_feed_here",annotation:=none,pos:=⟨170,15,170,29⟩:PySem.Arg }],vararg:=none,kwonlyargs:=[],kw_defaults:=[],kwarg:=none,defaults:=[]:PySem.Arguments }) (body:=Z.bY34) (decorator_list:=[]) (returns:=none) (type_params:=[]) (scope:=Z.cY34) (tscope:=none) (bind := "_law_small") (pos:=⟨170,0,176,78⟩))
def Z.sY35:PySem.Stmt:=(PySem.Stmt.FunctionDef (name := "_law_far") (args:={ posonlyargs:=[],args:=[ { arg := "_law_feed_here",annotation:=none,pos:=⟨177,13,177,27⟩:PySem.Arg },{ arg := "_law_plan_here",annotation:=none,pos:=⟨177,29,177,43⟩:PySem.Arg },{ arg := "_law_cycle",annotation:=none,pos:=⟨177,45,177,55⟩:PySem.Arg }],vararg:=none,kwonlyargs:=[],kw_defaults:=[],kwarg:=none,defaults:=[]:PySem.Arguments }) (body:=Z.bY35) (decorator_list:=[]) (returns:=none) (type_params:=[]) (scope:=Z.cY35) (tscope:=none) (bind := "_law_far") (pos:=⟨177,0,184,49⟩))
def Z.sY36:PySem.Stmt:=(PySem.Stmt.FunctionDef (name := "_law_some_plan") (args:={ posonlyargs:=[],args:=[{ arg := "_law_feed_here",annotation:=none,pos:=⟨185,19,185,33⟩:PySem.Arg }],vararg:=none,kwonlyargs:=[],kw_defaults:=[],kwarg:=none,defaults:=[]:PySem.Arguments }) (body:=Z.bY36) (decorator_list:=[]) (returns:=none) (type_params:=[]) (scope:=Z.cY36) (tscope:=none) (bind := "_law_some_plan") (pos:=⟨185,0,190,39⟩))
def Z.sY37:PySem.Stmt:=(PySem.Stmt.FunctionDef (name := "_law_begun") (args:={ posonlyargs:=[],args:=[ { arg := "_law_plan_here",annotation:=none,pos:=⟨191,15,191,29⟩:PySem.Arg },{ arg := "_law_cycle",annotation:=none,pos:=⟨191,31,191,41⟩:PySem.Arg },{ arg := "_law_beats_here",annotation:=none,pos:=⟨191,43,191,58⟩:PySem.Arg }],vararg:=none,kwonlyargs:=[],kw_defaults:=[],kwarg:=none,defaults:=[]:PySem.Arguments }) (body:=Z.bY37) (decorator_list:=[]) (returns:=none) (type_params:=[]) (scope:=Z.cY37) (tscope:=none) (bind := "_law_begun") (pos:=⟨191,0,196,28⟩))
def Z.sY38:PySem.Stmt:=(PySem.Stmt.FunctionDef (name := "law") (args:={ posonlyargs:=[],args:=[{ arg := "_law_script",annotation:=none,pos:=⟨197,8,197,19⟩:PySem.Arg }],vararg:=none,kwonlyargs:=[],kw_defaults:=[],kwarg:=none,defaults:=[]:PySem.Arguments }) (body:=Z.bY38) (decorator_list:=[]) (returns:=none) (type_params:=[]) (scope:=Z.cY38) (tscope:=none) (bind := "law") (pos:=⟨197,0,223,15⟩))
set_option maxRecDepth 100000 in
def Z.pwS:PySem.Program:={ main:={ body:=[Z.sY0,Z.sY1,Z.sY2,Z.sY3,Z.sY4,Z.sY5,Z.sY6,Z.sY7,Z.sY8,Z.sY9,Z.sY10,Z.sY11,Z.sY12,Z.sY13,Z.sY14,Z.sY15,Z.sY16,Z.sY17,Z.sY18,Z.sY19,Z.sY20,Z.sY21,Z.sY22,Z.sY23,Z.sY24,Z.sY25,Z.sY26,Z.sY27,Z.sY28,Z.sY29,Z.sY30,Z.sY31,Z.sY32,Z.sY33,Z.sY34,Z.sY35,Z.sY36,Z.sY37,Z.sY38],scope:={ kind:=PySem.ScopeKind.module,names:=[ (PySem.Str.ofString "__name__",PySem.NameKind.local),(PySem.Str.ofString "PlanError",PySem.NameKind.local),(PySem.Str.ofString "ValueError",PySem.NameKind.globalImplicit),(PySem.Str.ofString "TooMany",PySem.NameKind.local),(PySem.Str.ofString "top_of",PySem.NameKind.local),(PySem.Str.ofString "length_of",PySem.NameKind.local),(PySem.Str.ofString "unkept",PySem.NameKind.local),(PySem.Str.ofString "entries_to",PySem.NameKind.local),(PySem.Str.ofString "forest_from",PySem.NameKind.local),(PySem.Str.ofString "parts_of",PySem.NameKind.local),(PySem.Str.ofString "MOST_SIZE",PySem.NameKind.local),(PySem.Str.ofString "staying",PySem.NameKind.local),(PySem.Str.ofString "size_of",PySem.NameKind.local),(PySem.Str.ofString "refuse_great",PySem.NameKind.local),(PySem.Str.ofString "rows_to_try",PySem.NameKind.local),(PySem.Str.ofString "all_times",PySem.NameKind.local),(PySem.Str.ofString "_law_feed",PySem.NameKind.local),(PySem.Str.ofString "_law_draw",PySem.NameKind.local),(PySem.Str.ofString "_law_names",PySem.NameKind.local),(PySem.Str.ofString "_law_number",PySem.NameKind.local),(PySem.Str.ofString "_law_span",PySem.NameKind.local),(PySem.Str.ofString "_law_fitting",PySem.NameKind.local),(PySem.Str.ofString "_law_plan",PySem.NameKind.local),(PySem.Str.ofString "_law_tight",PySem.NameKind.local),(PySem.Str.ofString "_law_beats",PySem.NameKind.local),(PySem.Str.ofString "_law_end",PySem.NameKind.local),(PySem.Str.ofString "_law_lacks",PySem.NameKind.local),(PySem.Str.ofString "_law_parts",PySem.NameKind.local),(PySem.Str.ofString "_law_all",PySem.NameKind.local),(PySem.Str.ofString "_law_small",PySem.NameKind.local),(PySem.Str.ofString "_law_far",PySem.NameKind.local),(PySem.Str.ofString "_law_some_plan",PySem.NameKind.local),(PySem.Str.ofString "_law_begun",PySem.NameKind.local),(PySem.Str.ofString "law",PySem.NameKind.local)],isGenerator:=false,isCoroutine:=false,more:=[]:PySem.Scope },futureAnnotations:=false,file := "/claim/cut.py",more:=[]:PySem.Module },modules:=[],parses:=[],absent:=[],harvested:=[],given:={ argv:=[],stdin:=[],environ:=(some [([76,67,95,65,76,76],[67,46,85,84,70,45,56])]):PySem.Given }:PySem.Program } 
def Z.rwS:PySem.W.OpenLaw :={ prog:=Z.pwS,name:=(PySem.Str.ofString "law"),about:=[(PySem.Str.ofString "all_times")],foot:=18,most:=some 63,bound:=none,writes:=false }
theorem Z.rw_eq:PySem.Challenge.rw_beatplans_k20_whole_all_times=Z.rwS:=rfl
noncomputable def Z.aY4:PySem.Arguments:=L2.defArgs (Z.top 4)
noncomputable def Z.aY5:PySem.Arguments:=L2.defArgs (Z.top 5)
noncomputable def Z.aY6:PySem.Arguments:=L2.defArgs (Z.top 6)
noncomputable def Z.aY8:PySem.Arguments:=L2.defArgs (Z.top 8)
noncomputable def Z.aY9:PySem.Arguments:=L2.defArgs (Z.top 9)
noncomputable def Z.aY11:PySem.Arguments:=L2.defArgs (Z.top 11)
noncomputable def Z.aY14:PySem.Arguments:=L2.defArgs (Z.top 14)
noncomputable def Z.aY15:PySem.Arguments:=L2.defArgs (Z.top 15)
noncomputable def Z.aY16:PySem.Arguments:=L2.defArgs (Z.top 16)
noncomputable def Z.aY18:PySem.Arguments:=L2.defArgs (Z.top 18)
noncomputable def Z.aY19:PySem.Arguments:=L2.defArgs (Z.top 19)
noncomputable def Z.aY21:PySem.Arguments:=L2.defArgs (Z.top 21)
noncomputable def Z.aY22:PySem.Arguments:=L2.defArgs (Z.top 22)
noncomputable def Z.aY23:PySem.Arguments:=L2.defArgs (Z.top 23)
noncomputable def Z.aY24:PySem.Arguments:=L2.defArgs (Z.top 24)
noncomputable def Z.aY25:PySem.Arguments:=L2.defArgs (Z.top 25)
noncomputable def Z.aY26:PySem.Arguments:=L2.defArgs (Z.top 26)
noncomputable def Z.aY27:PySem.Arguments:=L2.defArgs (Z.top 27)
noncomputable def Z.aY28:PySem.Arguments:=L2.defArgs (Z.top 28)
noncomputable def Z.aY29:PySem.Arguments:=L2.defArgs (Z.top 29)
noncomputable def Z.aY30:PySem.Arguments:=L2.defArgs (Z.top 30)
noncomputable def Z.aY31:PySem.Arguments:=L2.defArgs (Z.top 31)
noncomputable def Z.aY32:PySem.Arguments:=L2.defArgs (Z.top 32)
noncomputable def Z.aY33:PySem.Arguments:=L2.defArgs (Z.top 33)
noncomputable def Z.aY34:PySem.Arguments:=L2.defArgs (Z.top 34)
noncomputable def Z.aY35:PySem.Arguments:=L2.defArgs (Z.top 35)
noncomputable def Z.aY36:PySem.Arguments:=L2.defArgs (Z.top 36)
noncomputable def Z.aY37:PySem.Arguments:=L2.defArgs (Z.top 37)
noncomputable def Z.aY38:PySem.Arguments:=L2.defArgs (Z.top 38)
open PySem in
noncomputable def Z.KK:Params->W.Frag:=fun P=>
 ((nat_lit 1:Addr),(W.boot_o_1 P:Obj))::
  ((nat_lit 3:Addr),({ cls:=Value.type "dict",data:=Data.dict (List.toArray (({ hash:=PyData.keyHash P (Str.ofString "__name__"),key:=Value.str (Str.ofString "__name__") 165,val:=Value.str (Str.ofString "law_beatplans_k20_whole_all_times") 356 }:DictEntry)::({ hash:=PyData.keyHash P (Str.ofString "__doc__"),key:=Value.str (Str.ofString "__doc__") 166,val:=Value.none }:DictEntry)::({ hash:=PyData.keyHash P (Str.ofString "__package__"),key:=Value.str (Str.ofString "__package__") 167,val:=Value.none }:DictEntry)::({ hash:=PyData.keyHash P (Str.ofString "__loader__"),key:=Value.str (Str.ofString "__loader__") 168,val:=Value.builtin "__main__.__loader__#opaque" }:DictEntry)::({ hash:=PyData.keyHash P (Str.ofString "__spec__"),key:=Value.str (Str.ofString "__spec__") 169,val:=Value.none }:DictEntry)::({ hash:=PyData.keyHash P (Str.ofString "__annotations__"),key:=Value.str (Str.ofString "__annotations__") 170,val:=Value.ref 6 }:DictEntry)::({ hash:=PyData.keyHash P (Str.ofString "__builtins__"),key:=Value.str (Str.ofString "__builtins__") 171,val:=Value.ref 4 }:DictEntry)::({ hash:=PyData.keyHash P (Str.ofString "__file__"),key:=Value.str (Str.ofString "__file__") 173,val:=Value.str (Str.ofString "/claim/cut.py") 172 }:DictEntry)::({ hash:=PyData.keyHash P (Str.ofString "__cached__"),key:=Value.str (Str.ofString "__cached__") 174,val:=Value.none }:DictEntry)::({ hash:=PyData.keyHash P (Str.ofString "PlanError"),key:=Value.str (Str.ofString "PlanError") 206,val:=Value.ref 24 }:DictEntry)::({ hash:=PyData.keyHash P (Str.ofString "TooMany"),key:=Value.str (Str.ofString "TooMany") 231,val:=Value.ref 44 }:DictEntry)::({ hash:=PyData.keyHash P (Str.ofString "top_of"),key:=Value.str (Str.ofString "top_of") 247,val:=Value.ref 53 }:DictEntry)::({ hash:=PyData.keyHash P (Str.ofString "length_of"),key:=Value.str (Str.ofString "length_of") 262,val:=Value.ref 60 }:DictEntry)::({ hash:=PyData.keyHash P (Str.ofString "unkept"),key:=Value.str (Str.ofString "unkept") 272,val:=Value.ref 67 }:DictEntry)::({ hash:=PyData.keyHash P (Str.ofString "entries_to"),key:=Value.str (Str.ofString "entries_to") 289,val:=Value.ref 74 }:DictEntry)::({ hash:=PyData.keyHash P (Str.ofString "forest_from"),key:=Value.str (Str.ofString "forest_from") 303,val:=Value.ref 81 }:DictEntry)::({ hash:=PyData.keyHash P (Str.ofString "parts_of"),key:=Value.str (Str.ofString "parts_of") 316,val:=Value.ref 88 }:DictEntry)::({ hash:=PyData.keyHash P (Str.ofString "MOST_SIZE"),key:=Value.str (Str.ofString "MOST_SIZE") 320,val:=Value.int 300 319 }:DictEntry)::({ hash:=PyData.keyHash P (Str.ofString "staying"),key:=Value.str (Str.ofString "staying") 326,val:=Value.ref 93 }:DictEntry)::({ hash:=PyData.keyHash P (Str.ofString "size_of"),key:=Value.str (Str.ofString "size_of") 332,val:=Value.ref 98 }:DictEntry)::({ hash:=PyData.keyHash P (Str.ofString "refuse_great"),key:=Value.str (Str.ofString "refuse_great") 341,val:=Value.ref 105 }:DictEntry)::({ hash:=PyData.keyHash P (Str.ofString "rows_to_try"),key:=Value.str (Str.ofString "rows_to_try") 349,val:=Value.ref 110 }:DictEntry)::({ hash:=PyData.keyHash P (Str.ofString "all_times"),key:=Value.str (Str.ofString "all_times") 355,val:=Value.ref 115 }:DictEntry)::({ hash:=PyData.keyHash P (Str.ofString "_law_feed"),key:=Value.str (Str.ofString "_law_feed") 364,val:=Value.ref 122 }:DictEntry)::({ hash:=PyData.keyHash P (Str.ofString "_law_draw"),key:=Value.str (Str.ofString "_law_draw") 375,val:=Value.ref 129 }:DictEntry)::({ hash:=PyData.keyHash P (Str.ofString "_law_names"),key:=Value.str (Str.ofString "_law_names") 381,val:=Value.ref 134 }:DictEntry)::({ hash:=PyData.keyHash P (Str.ofString "_law_number"),key:=Value.str (Str.ofString "_law_number") 389,val:=Value.ref 141 }:DictEntry)::({ hash:=PyData.keyHash P (Str.ofString "_law_span"),key:=Value.str (Str.ofString "_law_span") 402,val:=Value.ref 148 }:DictEntry)::({ hash:=PyData.keyHash P (Str.ofString "_law_fitting"),key:=Value.str (Str.ofString "_law_fitting") 416,val:=Value.ref 155 }:DictEntry)::({ hash:=PyData.keyHash P (Str.ofString "_law_plan"),key:=Value.str (Str.ofString "_law_plan") 422,val:=Value.ref 160 }:DictEntry)::({ hash:=PyData.keyHash P (Str.ofString "_law_tight"),key:=Value.str (Str.ofString "_law_tight") 428,val:=Value.ref 165 }:DictEntry)::({ hash:=PyData.keyHash P (Str.ofString "_law_beats"),key:=Value.str (Str.ofString "_law_beats") 434,val:=Value.ref 170 }:DictEntry)::({ hash:=PyData.keyHash P (Str.ofString "_law_end"),key:=Value.str (Str.ofString "_law_end") 443,val:=Value.ref 177 }:DictEntry)::({ hash:=PyData.keyHash P (Str.ofString "_law_lacks"),key:=Value.str (Str.ofString "_law_lacks") 460,val:=Value.ref 184 }:DictEntry)::({ hash:=PyData.keyHash P (Str.ofString "_law_parts"),key:=Value.str (Str.ofString "_law_parts") 466,val:=Value.ref 189 }:DictEntry)::({ hash:=PyData.keyHash P (Str.ofString "_law_all"),key:=Value.str (Str.ofString "_law_all") 472,val:=Value.ref 194 }:DictEntry)::({ hash:=PyData.keyHash P (Str.ofString "_law_small"),key:=Value.str (Str.ofString "_law_small") 481,val:=Value.ref 201 }:DictEntry)::({ hash:=PyData.keyHash P (Str.ofString "_law_far"),key:=Value.str (Str.ofString "_law_far") 497,val:=Value.ref 208 }:DictEntry)::({ hash:=PyData.keyHash P (Str.ofString "_law_some_plan"),key:=Value.str (Str.ofString "_law_some_plan") 508,val:=Value.ref 215 }:DictEntry)::({ hash:=PyData.keyHash P (Str.ofString "_law_begun"),key:=Value.str (Str.ofString "_law_begun") 520,val:=Value.ref 222 }:DictEntry)::({ hash:=PyData.keyHash P (Str.ofString "law"),key:=Value.str (Str.ofString "law") 540,val:=Value.ref 229 }:DictEntry)::[])) 41 }:Obj))::
  ((nat_lit 52:Addr),({ cls:=Value.type "code",data:=Data.fields #[Value.str (Str.ofString "top_of") 234,Value.str (Str.ofString "top_of") 235,Value.str (Str.ofString "/claim/cut.py") 236,Value.int 9 0,Value.int 3 0,Value.int 0 0,Value.int 0 0,Value.int 3 0,Value.ref 47,Value.bool Bool.true,Value.int 181 0,Value.ref 48,Value.none,Value.ref 49,Value.ref 50,Value.ref 51,Value.int 245 0,Value.int 9 0,Value.str (Str.ofString "/claim/cut.py") 246] }:Obj))::
  ((nat_lit 53:Addr),({ cls:=Value.type "function",data:=Data.func { name:=Str.ofString "top_of",qualname:=Str.ofString "top_of",params:=Z.aY4,body:=FuncBody.stmts Z.bY4,scope:=Z.cY4,globals:=3,closure:=[],defaults:=Value.none,kwdefaults:=Value.none,pyModule:=Value.str (Str.ofString "beatplans.plans") 232,code:=Value.ref 52 } }:Obj))::
  ((nat_lit 59:Addr),({ cls:=Value.type "code",data:=Data.fields #[Value.str (Str.ofString "length_of") 248,Value.str (Str.ofString "length_of") 249,Value.str (Str.ofString "/claim/cut.py") 250,Value.int 12 0,Value.int 4 0,Value.int 0 0,Value.int 0 0,Value.int 3 0,Value.ref 54,Value.bool Bool.true,Value.int 181 0,Value.ref 55,Value.none,Value.ref 56,Value.ref 57,Value.ref 58,Value.int 260 0,Value.int 12 0,Value.str (Str.ofString "/claim/cut.py") 261] }:Obj))::
  ((nat_lit 60:Addr),({ cls:=Value.type "function",data:=Data.func { name:=Str.ofString "length_of",qualname:=Str.ofString "length_of",params:=Z.aY5,body:=FuncBody.stmts Z.bY5,scope:=Z.cY5,globals:=3,closure:=[],defaults:=Value.none,kwdefaults:=Value.none,pyModule:=Value.str (Str.ofString "beatplans.plans") 232,code:=Value.ref 59 } }:Obj))::
  ((nat_lit 66:Addr),({ cls:=Value.type "code",data:=Data.fields #[Value.str (Str.ofString "unkept") 263,Value.str (Str.ofString "unkept") 264,Value.str (Str.ofString "/claim/cut.py") 265,Value.int 15 0,Value.int 3 0,Value.int 0 0,Value.int 0 0,Value.int 3 0,Value.ref 61,Value.bool Bool.true,Value.int 181 0,Value.ref 62,Value.none,Value.ref 63,Value.ref 64,Value.ref 65,Value.int 270 0,Value.int 15 0,Value.str (Str.ofString "/claim/cut.py") 271] }:Obj))::
  ((nat_lit 67:Addr),({ cls:=Value.type "function",data:=Data.func { name:=Str.ofString "unkept",qualname:=Str.ofString "unkept",params:=Z.aY6,body:=FuncBody.stmts Z.bY6,scope:=Z.cY6,globals:=3,closure:=[],defaults:=Value.none,kwdefaults:=Value.none,pyModule:=Value.str (Str.ofString "beatplans.plans") 232,code:=Value.ref 66 } }:Obj))::
  ((nat_lit 73:Addr),({ cls:=Value.type "code",data:=Data.fields #[Value.str (Str.ofString "entries_to") 275,Value.str (Str.ofString "entries_to") 276,Value.str (Str.ofString "/claim/cut.py") 277,Value.int 21 0,Value.int 2 0,Value.int 0 0,Value.int 0 0,Value.int 3 0,Value.ref 68,Value.bool Bool.true,Value.int 181 0,Value.ref 69,Value.none,Value.ref 70,Value.ref 71,Value.ref 72,Value.int 287 0,Value.int 21 0,Value.str (Str.ofString "/claim/cut.py") 288] }:Obj))::
  ((nat_lit 74:Addr),({ cls:=Value.type "function",data:=Data.func { name:=Str.ofString "entries_to",qualname:=Str.ofString "entries_to",params:=Z.aY8,body:=FuncBody.stmts Z.bY8,scope:=Z.cY8,globals:=3,closure:=[],defaults:=Value.none,kwdefaults:=Value.none,pyModule:=Value.str (Str.ofString "beatplans.forests") 273,code:=Value.ref 73 } }:Obj))::
  ((nat_lit 80:Addr),({ cls:=Value.type "code",data:=Data.fields #[Value.str (Str.ofString "forest_from") 290,Value.str (Str.ofString "forest_from") 291,Value.str (Str.ofString "/claim/cut.py") 292,Value.int 29 0,Value.int 2 0,Value.int 0 0,Value.int 0 0,Value.int 3 0,Value.ref 75,Value.bool Bool.true,Value.int 181 0,Value.ref 76,Value.none,Value.ref 77,Value.ref 78,Value.ref 79,Value.int 301 0,Value.int 29 0,Value.str (Str.ofString "/claim/cut.py") 302] }:Obj))::
  ((nat_lit 81:Addr),({ cls:=Value.type "function",data:=Data.func { name:=Str.ofString "forest_from",qualname:=Str.ofString "forest_from",params:=Z.aY9,body:=FuncBody.stmts Z.bY9,scope:=Z.cY9,globals:=3,closure:=[],defaults:=Value.none,kwdefaults:=Value.none,pyModule:=Value.str (Str.ofString "beatplans.forests") 273,code:=Value.ref 80 } }:Obj))::
  ((nat_lit 87:Addr),({ cls:=Value.type "code",data:=Data.fields #[Value.str (Str.ofString "parts_of") 306,Value.str (Str.ofString "parts_of") 307,Value.str (Str.ofString "/claim/cut.py") 308,Value.int 41 0,Value.int 1 0,Value.int 0 0,Value.int 0 0,Value.int 3 0,Value.ref 82,Value.bool Bool.true,Value.int 181 0,Value.ref 83,Value.none,Value.ref 84,Value.ref 85,Value.ref 86,Value.int 314 0,Value.int 41 0,Value.str (Str.ofString "/claim/cut.py") 315] }:Obj))::
  ((nat_lit 88:Addr),({ cls:=Value.type "function",data:=Data.func { name:=Str.ofString "parts_of",qualname:=Str.ofString "parts_of",params:=Z.aY11,body:=FuncBody.stmts Z.bY11,scope:=Z.cY11,globals:=3,closure:=[],defaults:=Value.none,kwdefaults:=Value.none,pyModule:=Value.str (Str.ofString "beatplans.joining") 304,code:=Value.ref 87 } }:Obj))::
  ((nat_lit 92:Addr),({ cls:=Value.type "code",data:=Data.fields #[Value.str (Str.ofString "staying") 321,Value.str (Str.ofString "staying") 322,Value.str (Str.ofString "/claim/cut.py") 323,Value.int 52 0,Value.int 2 0,Value.int 0 0,Value.int 0 0,Value.int 3 0,Value.ref 89,Value.bool Bool.true,Value.int 181 0,Value.ref 90,Value.none,Value.none,Value.none,Value.ref 91,Value.int 324 0,Value.int 52 0,Value.str (Str.ofString "/claim/cut.py") 325] }:Obj))::
  ((nat_lit 93:Addr),({ cls:=Value.type "function",data:=Data.func { name:=Str.ofString "staying",qualname:=Str.ofString "staying",params:=Z.aY14,body:=FuncBody.stmts Z.bY14,scope:=Z.cY14,globals:=3,closure:=[],defaults:=Value.none,kwdefaults:=Value.none,pyModule:=Value.str (Str.ofString "beatplans.finding") 317,code:=Value.ref 92 } }:Obj))::
  ((nat_lit 97:Addr),({ cls:=Value.type "code",data:=Data.fields #[Value.str (Str.ofString "size_of") 327,Value.str (Str.ofString "size_of") 328,Value.str (Str.ofString "/claim/cut.py") 329,Value.int 54 0,Value.int 3 0,Value.int 0 0,Value.int 0 0,Value.int 3 0,Value.ref 94,Value.bool Bool.true,Value.int 181 0,Value.ref 95,Value.none,Value.none,Value.none,Value.ref 96,Value.int 330 0,Value.int 54 0,Value.str (Str.ofString "/claim/cut.py") 331] }:Obj))::
  ((nat_lit 98:Addr),({ cls:=Value.type "function",data:=Data.func { name:=Str.ofString "size_of",qualname:=Str.ofString "size_of",params:=Z.aY15,body:=FuncBody.stmts Z.bY15,scope:=Z.cY15,globals:=3,closure:=[],defaults:=Value.none,kwdefaults:=Value.none,pyModule:=Value.str (Str.ofString "beatplans.finding") 317,code:=Value.ref 97 } }:Obj))::
  ((nat_lit 104:Addr),({ cls:=Value.type "code",data:=Data.fields #[Value.str (Str.ofString "refuse_great") 333,Value.str (Str.ofString "refuse_great") 334,Value.str (Str.ofString "/claim/cut.py") 335,Value.int 60 0,Value.int 3 0,Value.int 0 0,Value.int 0 0,Value.int 3 0,Value.ref 99,Value.bool Bool.true,Value.int 181 0,Value.ref 100,Value.none,Value.ref 101,Value.ref 102,Value.ref 103,Value.int 339 0,Value.int 60 0,Value.str (Str.ofString "/claim/cut.py") 340] }:Obj))::
  ((nat_lit 105:Addr),({ cls:=Value.type "function",data:=Data.func { name:=Str.ofString "refuse_great",qualname:=Str.ofString "refuse_great",params:=Z.aY16,body:=FuncBody.stmts Z.bY16,scope:=Z.cY16,globals:=3,closure:=[],defaults:=Value.none,kwdefaults:=Value.none,pyModule:=Value.str (Str.ofString "beatplans.finding") 317,code:=Value.ref 104 } }:Obj))::
  ((nat_lit 109:Addr),({ cls:=Value.type "code",data:=Data.fields #[Value.str (Str.ofString "rows_to_try") 344,Value.str (Str.ofString "rows_to_try") 345,Value.str (Str.ofString "/claim/cut.py") 346,Value.int 64 0,Value.int 2 0,Value.int 0 0,Value.int 0 0,Value.int 3 0,Value.ref 106,Value.bool Bool.true,Value.int 181 0,Value.ref 107,Value.none,Value.none,Value.none,Value.ref 108,Value.int 347 0,Value.int 64 0,Value.str (Str.ofString "/claim/cut.py") 348] }:Obj))::
  ((nat_lit 110:Addr),({ cls:=Value.type "function",data:=Data.func { name:=Str.ofString "rows_to_try",qualname:=Str.ofString "rows_to_try",params:=Z.aY18,body:=FuncBody.stmts Z.bY18,scope:=Z.cY18,globals:=3,closure:=[],defaults:=Value.none,kwdefaults:=Value.none,pyModule:=Value.str (Str.ofString "beatplans.alltimes") 342,code:=Value.ref 109 } }:Obj))::
  ((nat_lit 114:Addr),({ cls:=Value.type "code",data:=Data.fields #[Value.str (Str.ofString "all_times") 350,Value.str (Str.ofString "all_times") 351,Value.str (Str.ofString "/claim/cut.py") 352,Value.int 71 0,Value.int 2 0,Value.int 0 0,Value.int 0 0,Value.int 3 0,Value.ref 111,Value.bool Bool.true,Value.int 181 0,Value.ref 112,Value.none,Value.none,Value.none,Value.ref 113,Value.int 353 0,Value.int 71 0,Value.str (Str.ofString "/claim/cut.py") 354] }:Obj))::
  ((nat_lit 115:Addr),({ cls:=Value.type "function",data:=Data.func { name:=Str.ofString "all_times",qualname:=Str.ofString "all_times",params:=Z.aY19,body:=FuncBody.stmts Z.bY19,scope:=Z.cY19,globals:=3,closure:=[],defaults:=Value.none,kwdefaults:=Value.none,pyModule:=Value.str (Str.ofString "beatplans.alltimes") 342,code:=Value.ref 114 } }:Obj))::
  ((nat_lit 121:Addr),({ cls:=Value.type "code",data:=Data.fields #[Value.str (Str.ofString "_law_feed") 358,Value.str (Str.ofString "_law_feed") 359,Value.str (Str.ofString "/claim/cut.py") 360,Value.int 75 0,Value.int 1 0,Value.int 0 0,Value.int 0 0,Value.int 3 0,Value.ref 116,Value.bool Bool.true,Value.int 181 0,Value.ref 117,Value.none,Value.ref 118,Value.ref 119,Value.ref 120,Value.int 362 0,Value.int 75 0,Value.str (Str.ofString "/claim/cut.py") 363] }:Obj))::
  ((nat_lit 122:Addr),({ cls:=Value.type "function",data:=Data.func { name:=Str.ofString "_law_feed",qualname:=Str.ofString "_law_feed",params:=Z.aY21,body:=FuncBody.stmts Z.bY21,scope:=Z.cY21,globals:=3,closure:=[],defaults:=Value.none,kwdefaults:=Value.none,pyModule:=Value.str (Str.ofString "law_beatplans_k20_whole_all_times") 356,code:=Value.ref 121 } }:Obj))::
  ((nat_lit 128:Addr),({ cls:=Value.type "code",data:=Data.fields #[Value.str (Str.ofString "_law_draw") 365,Value.str (Str.ofString "_law_draw") 366,Value.str (Str.ofString "/claim/cut.py") 367,Value.int 77 0,Value.int 2 0,Value.int 0 0,Value.int 0 0,Value.int 3 0,Value.ref 123,Value.bool Bool.true,Value.int 181 0,Value.ref 124,Value.none,Value.ref 125,Value.ref 126,Value.ref 127,Value.int 373 0,Value.int 77 0,Value.str (Str.ofString "/claim/cut.py") 374] }:Obj))::
  ((nat_lit 129:Addr),({ cls:=Value.type "function",data:=Data.func { name:=Str.ofString "_law_draw",qualname:=Str.ofString "_law_draw",params:=Z.aY22,body:=FuncBody.stmts Z.bY22,scope:=Z.cY22,globals:=3,closure:=[],defaults:=Value.none,kwdefaults:=Value.none,pyModule:=Value.str (Str.ofString "law_beatplans_k20_whole_all_times") 356,code:=Value.ref 128 } }:Obj))::
  ((nat_lit 133:Addr),({ cls:=Value.type "code",data:=Data.fields #[Value.str (Str.ofString "_law_names") 376,Value.str (Str.ofString "_law_names") 377,Value.str (Str.ofString "/claim/cut.py") 378,Value.int 90 0,Value.int 2 0,Value.int 0 0,Value.int 0 0,Value.int 3 0,Value.ref 130,Value.bool Bool.true,Value.int 181 0,Value.ref 131,Value.none,Value.none,Value.none,Value.ref 132,Value.int 379 0,Value.int 90 0,Value.str (Str.ofString "/claim/cut.py") 380] }:Obj))::
  ((nat_lit 134:Addr),({ cls:=Value.type "function",data:=Data.func { name:=Str.ofString "_law_names",qualname:=Str.ofString "_law_names",params:=Z.aY23,body:=FuncBody.stmts Z.bY23,scope:=Z.cY23,globals:=3,closure:=[],defaults:=Value.none,kwdefaults:=Value.none,pyModule:=Value.str (Str.ofString "law_beatplans_k20_whole_all_times") 356,code:=Value.ref 133 } }:Obj))::
  ((nat_lit 140:Addr),({ cls:=Value.type "code",data:=Data.fields #[Value.str (Str.ofString "_law_number") 382,Value.str (Str.ofString "_law_number") 383,Value.str (Str.ofString "/claim/cut.py") 384,Value.int 96 0,Value.int 2 0,Value.int 0 0,Value.int 0 0,Value.int 3 0,Value.ref 135,Value.bool Bool.true,Value.int 181 0,Value.ref 136,Value.none,Value.ref 137,Value.ref 138,Value.ref 139,Value.int 387 0,Value.int 96 0,Value.str (Str.ofString "/claim/cut.py") 388] }:Obj))::
  ((nat_lit 141:Addr),({ cls:=Value.type "function",data:=Data.func { name:=Str.ofString "_law_number",qualname:=Str.ofString "_law_number",params:=Z.aY24,body:=FuncBody.stmts Z.bY24,scope:=Z.cY24,globals:=3,closure:=[],defaults:=Value.none,kwdefaults:=Value.none,pyModule:=Value.str (Str.ofString "law_beatplans_k20_whole_all_times") 356,code:=Value.ref 140 } }:Obj))::
  ((nat_lit 147:Addr),({ cls:=Value.type "code",data:=Data.fields #[Value.str (Str.ofString "_law_span") 390,Value.str (Str.ofString "_law_span") 391,Value.str (Str.ofString "/claim/cut.py") 392,Value.int 98 0,Value.int 3 0,Value.int 0 0,Value.int 0 0,Value.int 3 0,Value.ref 142,Value.bool Bool.true,Value.int 181 0,Value.ref 143,Value.none,Value.ref 144,Value.ref 145,Value.ref 146,Value.int 400 0,Value.int 98 0,Value.str (Str.ofString "/claim/cut.py") 401] }:Obj))::
  ((nat_lit 148:Addr),({ cls:=Value.type "function",data:=Data.func { name:=Str.ofString "_law_span",qualname:=Str.ofString "_law_span",params:=Z.aY25,body:=FuncBody.stmts Z.bY25,scope:=Z.cY25,globals:=3,closure:=[],defaults:=Value.none,kwdefaults:=Value.none,pyModule:=Value.str (Str.ofString "law_beatplans_k20_whole_all_times") 356,code:=Value.ref 147 } }:Obj))::
  ((nat_lit 154:Addr),({ cls:=Value.type "code",data:=Data.fields #[Value.str (Str.ofString "_law_fitting") 403,Value.str (Str.ofString "_law_fitting") 404,Value.str (Str.ofString "/claim/cut.py") 405,Value.int 105 0,Value.int 3 0,Value.int 0 0,Value.int 0 0,Value.int 3 0,Value.ref 149,Value.bool Bool.true,Value.int 181 0,Value.ref 150,Value.none,Value.ref 151,Value.ref 152,Value.ref 153,Value.int 414 0,Value.int 105 0,Value.str (Str.ofString "/claim/cut.py") 415] }:Obj))::
  ((nat_lit 155:Addr),({ cls:=Value.type "function",data:=Data.func { name:=Str.ofString "_law_fitting",qualname:=Str.ofString "_law_fitting",params:=Z.aY26,body:=FuncBody.stmts Z.bY26,scope:=Z.cY26,globals:=3,closure:=[],defaults:=Value.none,kwdefaults:=Value.none,pyModule:=Value.str (Str.ofString "law_beatplans_k20_whole_all_times") 356,code:=Value.ref 154 } }:Obj))::
  ((nat_lit 159:Addr),({ cls:=Value.type "code",data:=Data.fields #[Value.str (Str.ofString "_law_plan") 417,Value.str (Str.ofString "_law_plan") 418,Value.str (Str.ofString "/claim/cut.py") 419,Value.int 113 0,Value.int 4 0,Value.int 0 0,Value.int 0 0,Value.int 3 0,Value.ref 156,Value.bool Bool.true,Value.int 181 0,Value.ref 157,Value.none,Value.none,Value.none,Value.ref 158,Value.int 420 0,Value.int 113 0,Value.str (Str.ofString "/claim/cut.py") 421] }:Obj))::
  ((nat_lit 160:Addr),({ cls:=Value.type "function",data:=Data.func { name:=Str.ofString "_law_plan",qualname:=Str.ofString "_law_plan",params:=Z.aY27,body:=FuncBody.stmts Z.bY27,scope:=Z.cY27,globals:=3,closure:=[],defaults:=Value.none,kwdefaults:=Value.none,pyModule:=Value.str (Str.ofString "law_beatplans_k20_whole_all_times") 356,code:=Value.ref 159 } }:Obj))::
  ((nat_lit 164:Addr),({ cls:=Value.type "code",data:=Data.fields #[Value.str (Str.ofString "_law_tight") 423,Value.str (Str.ofString "_law_tight") 424,Value.str (Str.ofString "/claim/cut.py") 425,Value.int 124 0,Value.int 4 0,Value.int 0 0,Value.int 0 0,Value.int 3 0,Value.ref 161,Value.bool Bool.true,Value.int 181 0,Value.ref 162,Value.none,Value.none,Value.none,Value.ref 163,Value.int 426 0,Value.int 124 0,Value.str (Str.ofString "/claim/cut.py") 427] }:Obj))::
  ((nat_lit 165:Addr),({ cls:=Value.type "function",data:=Data.func { name:=Str.ofString "_law_tight",qualname:=Str.ofString "_law_tight",params:=Z.aY28,body:=FuncBody.stmts Z.bY28,scope:=Z.cY28,globals:=3,closure:=[],defaults:=Value.none,kwdefaults:=Value.none,pyModule:=Value.str (Str.ofString "law_beatplans_k20_whole_all_times") 356,code:=Value.ref 164 } }:Obj))::
  ((nat_lit 169:Addr),({ cls:=Value.type "code",data:=Data.fields #[Value.str (Str.ofString "_law_beats") 429,Value.str (Str.ofString "_law_beats") 430,Value.str (Str.ofString "/claim/cut.py") 431,Value.int 138 0,Value.int 3 0,Value.int 0 0,Value.int 0 0,Value.int 3 0,Value.ref 166,Value.bool Bool.true,Value.int 181 0,Value.ref 167,Value.none,Value.none,Value.none,Value.ref 168,Value.int 432 0,Value.int 138 0,Value.str (Str.ofString "/claim/cut.py") 433] }:Obj))::
  ((nat_lit 170:Addr),({ cls:=Value.type "function",data:=Data.func { name:=Str.ofString "_law_beats",qualname:=Str.ofString "_law_beats",params:=Z.aY29,body:=FuncBody.stmts Z.bY29,scope:=Z.cY29,globals:=3,closure:=[],defaults:=Value.none,kwdefaults:=Value.none,pyModule:=Value.str (Str.ofString "law_beatplans_k20_whole_all_times") 356,code:=Value.ref 169 } }:Obj))::
  ((nat_lit 176:Addr),({ cls:=Value.type "code",data:=Data.fields #[Value.str (Str.ofString "_law_end") 435,Value.str (Str.ofString "_law_end") 436,Value.str (Str.ofString "/claim/cut.py") 437,Value.int 140 0,Value.int 2 0,Value.int 0 0,Value.int 0 0,Value.int 3 0,Value.ref 171,Value.bool Bool.true,Value.int 181 0,Value.ref 172,Value.none,Value.ref 173,Value.ref 174,Value.ref 175,Value.int 441 0,Value.int 140 0,Value.str (Str.ofString "/claim/cut.py") 442] }:Obj))::
  ((nat_lit 177:Addr),({ cls:=Value.type "function",data:=Data.func { name:=Str.ofString "_law_end",qualname:=Str.ofString "_law_end",params:=Z.aY30,body:=FuncBody.stmts Z.bY30,scope:=Z.cY30,globals:=3,closure:=[],defaults:=Value.none,kwdefaults:=Value.none,pyModule:=Value.str (Str.ofString "law_beatplans_k20_whole_all_times") 356,code:=Value.ref 176 } }:Obj))::
  ((nat_lit 183:Addr),({ cls:=Value.type "code",data:=Data.fields #[Value.str (Str.ofString "_law_lacks") 444,Value.str (Str.ofString "_law_lacks") 445,Value.str (Str.ofString "/claim/cut.py") 446,Value.int 143 0,Value.int 3 0,Value.int 0 0,Value.int 0 0,Value.int 3 0,Value.ref 178,Value.bool Bool.true,Value.int 181 0,Value.ref 179,Value.none,Value.ref 180,Value.ref 181,Value.ref 182,Value.int 458 0,Value.int 143 0,Value.str (Str.ofString "/claim/cut.py") 459] }:Obj))::
  ((nat_lit 184:Addr),({ cls:=Value.type "function",data:=Data.func { name:=Str.ofString "_law_lacks",qualname:=Str.ofString "_law_lacks",params:=Z.aY31,body:=FuncBody.stmts Z.bY31,scope:=Z.cY31,globals:=3,closure:=[],defaults:=Value.none,kwdefaults:=Value.none,pyModule:=Value.str (Str.ofString "law_beatplans_k20_whole_all_times") 356,code:=Value.ref 183 } }:Obj))::
  ((nat_lit 188:Addr),({ cls:=Value.type "code",data:=Data.fields #[Value.str (Str.ofString "_law_parts") 461,Value.str (Str.ofString "_law_parts") 462,Value.str (Str.ofString "/claim/cut.py") 463,Value.int 151 0,Value.int 1 0,Value.int 0 0,Value.int 0 0,Value.int 3 0,Value.ref 185,Value.bool Bool.true,Value.int 181 0,Value.ref 186,Value.none,Value.none,Value.none,Value.ref 187,Value.int 464 0,Value.int 151 0,Value.str (Str.ofString "/claim/cut.py") 465] }:Obj))::
  ((nat_lit 189:Addr),({ cls:=Value.type "function",data:=Data.func { name:=Str.ofString "_law_parts",qualname:=Str.ofString "_law_parts",params:=Z.aY32,body:=FuncBody.stmts Z.bY32,scope:=Z.cY32,globals:=3,closure:=[],defaults:=Value.none,kwdefaults:=Value.none,pyModule:=Value.str (Str.ofString "law_beatplans_k20_whole_all_times") 356,code:=Value.ref 188 } }:Obj))::
  ((nat_lit 193:Addr),({ cls:=Value.type "code",data:=Data.fields #[Value.str (Str.ofString "_law_all") 467,Value.str (Str.ofString "_law_all") 468,Value.str (Str.ofString "/claim/cut.py") 469,Value.int 161 0,Value.int 2 0,Value.int 0 0,Value.int 0 0,Value.int 3 0,Value.ref 190,Value.bool Bool.true,Value.int 181 0,Value.ref 191,Value.none,Value.none,Value.none,Value.ref 192,Value.int 470 0,Value.int 161 0,Value.str (Str.ofString "/claim/cut.py") 471] }:Obj))::
  ((nat_lit 194:Addr),({ cls:=Value.type "function",data:=Data.func { name:=Str.ofString "_law_all",qualname:=Str.ofString "_law_all",params:=Z.aY33,body:=FuncBody.stmts Z.bY33,scope:=Z.cY33,globals:=3,closure:=[],defaults:=Value.none,kwdefaults:=Value.none,pyModule:=Value.str (Str.ofString "law_beatplans_k20_whole_all_times") 356,code:=Value.ref 193 } }:Obj))::
  ((nat_lit 200:Addr),({ cls:=Value.type "code",data:=Data.fields #[Value.str (Str.ofString "_law_small") 473,Value.str (Str.ofString "_law_small") 474,Value.str (Str.ofString "/claim/cut.py") 475,Value.int 170 0,Value.int 1 0,Value.int 0 0,Value.int 0 0,Value.int 3 0,Value.ref 195,Value.bool Bool.true,Value.int 181 0,Value.ref 196,Value.none,Value.ref 197,Value.ref 198,Value.ref 199,Value.int 479 0,Value.int 170 0,Value.str (Str.ofString "/claim/cut.py") 480] }:Obj))::
  ((nat_lit 201:Addr),({ cls:=Value.type "function",data:=Data.func { name:=Str.ofString "_law_small",qualname:=Str.ofString "_law_small",params:=Z.aY34,body:=FuncBody.stmts Z.bY34,scope:=Z.cY34,globals:=3,closure:=[],defaults:=Value.none,kwdefaults:=Value.none,pyModule:=Value.str (Str.ofString "law_beatplans_k20_whole_all_times") 356,code:=Value.ref 200 } }:Obj))::
  ((nat_lit 207:Addr),({ cls:=Value.type "code",data:=Data.fields #[Value.str (Str.ofString "_law_far") 482,Value.str (Str.ofString "_law_far") 483,Value.str (Str.ofString "/claim/cut.py") 484,Value.int 177 0,Value.int 3 0,Value.int 0 0,Value.int 0 0,Value.int 3 0,Value.ref 202,Value.bool Bool.true,Value.int 181 0,Value.ref 203,Value.none,Value.ref 204,Value.ref 205,Value.ref 206,Value.int 495 0,Value.int 177 0,Value.str (Str.ofString "/claim/cut.py") 496] }:Obj))::
  ((nat_lit 208:Addr),({ cls:=Value.type "function",data:=Data.func { name:=Str.ofString "_law_far",qualname:=Str.ofString "_law_far",params:=Z.aY35,body:=FuncBody.stmts Z.bY35,scope:=Z.cY35,globals:=3,closure:=[],defaults:=Value.none,kwdefaults:=Value.none,pyModule:=Value.str (Str.ofString "law_beatplans_k20_whole_all_times") 356,code:=Value.ref 207 } }:Obj))::
  ((nat_lit 214:Addr),({ cls:=Value.type "code",data:=Data.fields #[Value.str (Str.ofString "_law_some_plan") 498,Value.str (Str.ofString "_law_some_plan") 499,Value.str (Str.ofString "/claim/cut.py") 500,Value.int 185 0,Value.int 1 0,Value.int 0 0,Value.int 0 0,Value.int 3 0,Value.ref 209,Value.bool Bool.true,Value.int 181 0,Value.ref 210,Value.none,Value.ref 211,Value.ref 212,Value.ref 213,Value.int 506 0,Value.int 185 0,Value.str (Str.ofString "/claim/cut.py") 507] }:Obj))::
  ((nat_lit 215:Addr),({ cls:=Value.type "function",data:=Data.func { name:=Str.ofString "_law_some_plan",qualname:=Str.ofString "_law_some_plan",params:=Z.aY36,body:=FuncBody.stmts Z.bY36,scope:=Z.cY36,globals:=3,closure:=[],defaults:=Value.none,kwdefaults:=Value.none,pyModule:=Value.str (Str.ofString "law_beatplans_k20_whole_all_times") 356,code:=Value.ref 214 } }:Obj))::
  ((nat_lit 221:Addr),({ cls:=Value.type "code",data:=Data.fields #[Value.str (Str.ofString "_law_begun") 509,Value.str (Str.ofString "_law_begun") 510,Value.str (Str.ofString "/claim/cut.py") 511,Value.int 191 0,Value.int 3 0,Value.int 0 0,Value.int 0 0,Value.int 3 0,Value.ref 216,Value.bool Bool.true,Value.int 181 0,Value.ref 217,Value.none,Value.ref 218,Value.ref 219,Value.ref 220,Value.int 518 0,Value.int 191 0,Value.str (Str.ofString "/claim/cut.py") 519] }:Obj))::
  ((nat_lit 222:Addr),({ cls:=Value.type "function",data:=Data.func { name:=Str.ofString "_law_begun",qualname:=Str.ofString "_law_begun",params:=Z.aY37,body:=FuncBody.stmts Z.bY37,scope:=Z.cY37,globals:=3,closure:=[],defaults:=Value.none,kwdefaults:=Value.none,pyModule:=Value.str (Str.ofString "law_beatplans_k20_whole_all_times") 356,code:=Value.ref 221 } }:Obj))::
  ((nat_lit 228:Addr),({ cls:=Value.type "code",data:=Data.fields #[Value.str (Str.ofString "law") 521,Value.str (Str.ofString "law") 522,Value.str (Str.ofString "/claim/cut.py") 523,Value.int 197 0,Value.int 1 0,Value.int 0 0,Value.int 0 0,Value.int 3 0,Value.ref 223,Value.bool Bool.true,Value.int 181 0,Value.ref 224,Value.none,Value.ref 225,Value.ref 226,Value.ref 227,Value.int 538 0,Value.int 197 0,Value.str (Str.ofString "/claim/cut.py") 539] }:Obj))::
  ((nat_lit 229:Addr),({ cls:=Value.type "function",data:=Data.func { name:=Str.ofString "law",qualname:=Str.ofString "law",params:=Z.aY38,body:=FuncBody.stmts Z.bY38,scope:=Z.cY38,globals:=3,closure:=[],defaults:=Value.none,kwdefaults:=Value.none,pyModule:=Value.str (Str.ofString "law_beatplans_k20_whole_all_times") 356,code:=Value.ref 228 } }:Obj))::[]
open PySem in
noncomputable def Z.KA:List Addr:=(nat_lit 1)::(nat_lit 3)::(nat_lit 52)::(nat_lit 53)::(nat_lit 59)::(nat_lit 60)::(nat_lit 66)::(nat_lit 67)::(nat_lit 73)::(nat_lit 74)::(nat_lit 80)::(nat_lit 81)::(nat_lit 87)::(nat_lit 88)::(nat_lit 92)::(nat_lit 93)::(nat_lit 97)::(nat_lit 98)::(nat_lit 104)::(nat_lit 105)::(nat_lit 109)::(nat_lit 110)::(nat_lit 114)::(nat_lit 115)::(nat_lit 121)::(nat_lit 122)::(nat_lit 128)::(nat_lit 129)::(nat_lit 133)::(nat_lit 134)::(nat_lit 140)::(nat_lit 141)::(nat_lit 147)::(nat_lit 148)::(nat_lit 154)::(nat_lit 155)::(nat_lit 159)::(nat_lit 160)::(nat_lit 164)::(nat_lit 165)::(nat_lit 169)::(nat_lit 170)::(nat_lit 176)::(nat_lit 177)::(nat_lit 183)::(nat_lit 184)::(nat_lit 188)::(nat_lit 189)::(nat_lit 193)::(nat_lit 194)::(nat_lit 200)::(nat_lit 201)::(nat_lit 207)::(nat_lit 208)::(nat_lit 214)::(nat_lit 215)::(nat_lit 221)::(nat_lit 222)::(nat_lit 228)::(nat_lit 229)::[]

noncomputable def PySem.W.Fast.tw13824537170926309635:List PySem.Stmt:=Z.bY4
theorem PySem.W.Fast.te13824537170926309635:Z.bY4=PySem.W.Fast.tw13824537170926309635:=rfl
noncomputable def PySem.W.Fast.tw853859412168447107:PySem.Scope:=Z.cY4
theorem PySem.W.Fast.te853859412168447107:Z.cY4=PySem.W.Fast.tw853859412168447107:=rfl
noncomputable def PySem.W.Fast.tw14051996984328462559:PySem.Arguments:=Z.aY4
theorem PySem.W.Fast.te14051996984328462559:Z.aY4=PySem.W.Fast.tw14051996984328462559:=rfl
noncomputable def PySem.W.Fast.tw7701149334205249493:List PySem.Stmt:=Z.bY5
theorem PySem.W.Fast.te7701149334205249493:Z.bY5=PySem.W.Fast.tw7701149334205249493:=rfl
noncomputable def PySem.W.Fast.tw10693017314217230493:PySem.Scope:=Z.cY5
theorem PySem.W.Fast.te10693017314217230493:Z.cY5=PySem.W.Fast.tw10693017314217230493:=rfl
noncomputable def PySem.W.Fast.tw2985174410971842343:PySem.Arguments:=Z.aY5
theorem PySem.W.Fast.te2985174410971842343:Z.aY5=PySem.W.Fast.tw2985174410971842343:=rfl
noncomputable def PySem.W.Fast.tw4333012738630735508:List PySem.Stmt:=Z.bY6
theorem PySem.W.Fast.te4333012738630735508:Z.bY6=PySem.W.Fast.tw4333012738630735508:=rfl
noncomputable def PySem.W.Fast.tw9351588486136842362:PySem.Scope:=Z.cY6
theorem PySem.W.Fast.te9351588486136842362:Z.cY6=PySem.W.Fast.tw9351588486136842362:=rfl
noncomputable def PySem.W.Fast.tw17812285979442850112:PySem.Arguments:=Z.aY6
theorem PySem.W.Fast.te17812285979442850112:Z.aY6=PySem.W.Fast.tw17812285979442850112:=rfl
noncomputable def PySem.W.Fast.tw7891013550986899784:List PySem.Stmt:=Z.bY8
theorem PySem.W.Fast.te7891013550986899784:Z.bY8=PySem.W.Fast.tw7891013550986899784:=rfl
noncomputable def PySem.W.Fast.tw9080550850168601643:PySem.Scope:=Z.cY8
theorem PySem.W.Fast.te9080550850168601643:Z.cY8=PySem.W.Fast.tw9080550850168601643:=rfl
noncomputable def PySem.W.Fast.tw10738812580571829077:PySem.Arguments:=Z.aY8
theorem PySem.W.Fast.te10738812580571829077:Z.aY8=PySem.W.Fast.tw10738812580571829077:=rfl
noncomputable def PySem.W.Fast.tw10276996883930140848:List PySem.Stmt:=Z.bY9
theorem PySem.W.Fast.te10276996883930140848:Z.bY9=PySem.W.Fast.tw10276996883930140848:=rfl
noncomputable def PySem.W.Fast.tw16118459055452923545:PySem.Scope:=Z.cY9
theorem PySem.W.Fast.te16118459055452923545:Z.cY9=PySem.W.Fast.tw16118459055452923545:=rfl
noncomputable def PySem.W.Fast.tw8409190299368717739:PySem.Arguments:=Z.aY9
theorem PySem.W.Fast.te8409190299368717739:Z.aY9=PySem.W.Fast.tw8409190299368717739:=rfl
noncomputable def PySem.W.Fast.tw14519903988610552633:List PySem.Stmt:=Z.bY11
theorem PySem.W.Fast.te14519903988610552633:Z.bY11=PySem.W.Fast.tw14519903988610552633:=rfl
noncomputable def PySem.W.Fast.tw3058807829669123397:PySem.Scope:=Z.cY11
theorem PySem.W.Fast.te3058807829669123397:Z.cY11=PySem.W.Fast.tw3058807829669123397:=rfl
noncomputable def PySem.W.Fast.tw17676326535124858346:PySem.Arguments:=Z.aY11
theorem PySem.W.Fast.te17676326535124858346:Z.aY11=PySem.W.Fast.tw17676326535124858346:=rfl
noncomputable def PySem.W.Fast.tw14359422736358066993:List PySem.Stmt:=Z.bY14
theorem PySem.W.Fast.te14359422736358066993:Z.bY14=PySem.W.Fast.tw14359422736358066993:=rfl
noncomputable def PySem.W.Fast.tw6360249018492097982:PySem.Scope:=Z.cY14
theorem PySem.W.Fast.te6360249018492097982:Z.cY14=PySem.W.Fast.tw6360249018492097982:=rfl
noncomputable def PySem.W.Fast.tw13822440407875897259:PySem.Arguments:=Z.aY14
theorem PySem.W.Fast.te13822440407875897259:Z.aY14=PySem.W.Fast.tw13822440407875897259:=rfl
noncomputable def PySem.W.Fast.tw7833547661901591470:List PySem.Stmt:=Z.bY15
theorem PySem.W.Fast.te7833547661901591470:Z.bY15=PySem.W.Fast.tw7833547661901591470:=rfl
noncomputable def PySem.W.Fast.tw8101764399625425153:PySem.Scope:=Z.cY15
theorem PySem.W.Fast.te8101764399625425153:Z.cY15=PySem.W.Fast.tw8101764399625425153:=rfl
noncomputable def PySem.W.Fast.tw6856576199937072082:PySem.Arguments:=Z.aY15
theorem PySem.W.Fast.te6856576199937072082:Z.aY15=PySem.W.Fast.tw6856576199937072082:=rfl
noncomputable def PySem.W.Fast.tw11446803262430998167:List PySem.Stmt:=Z.bY16
theorem PySem.W.Fast.te11446803262430998167:Z.bY16=PySem.W.Fast.tw11446803262430998167:=rfl
noncomputable def PySem.W.Fast.tw9530570746764545675:PySem.Scope:=Z.cY16
theorem PySem.W.Fast.te9530570746764545675:Z.cY16=PySem.W.Fast.tw9530570746764545675:=rfl
noncomputable def PySem.W.Fast.tw13100361516219107942:PySem.Arguments:=Z.aY16
theorem PySem.W.Fast.te13100361516219107942:Z.aY16=PySem.W.Fast.tw13100361516219107942:=rfl
noncomputable def PySem.W.Fast.tw5727634772876231:List PySem.Stmt:=Z.bY18
theorem PySem.W.Fast.te5727634772876231:Z.bY18=PySem.W.Fast.tw5727634772876231:=rfl
noncomputable def PySem.W.Fast.tw6865636664558906297:PySem.Scope:=Z.cY18
theorem PySem.W.Fast.te6865636664558906297:Z.cY18=PySem.W.Fast.tw6865636664558906297:=rfl
noncomputable def PySem.W.Fast.tw4956039584453317913:PySem.Arguments:=Z.aY18
theorem PySem.W.Fast.te4956039584453317913:Z.aY18=PySem.W.Fast.tw4956039584453317913:=rfl
noncomputable def PySem.W.Fast.tw11194721788962368185:List PySem.Stmt:=Z.bY19
theorem PySem.W.Fast.te11194721788962368185:Z.bY19=PySem.W.Fast.tw11194721788962368185:=rfl
noncomputable def PySem.W.Fast.tw16727905199392536027:PySem.Scope:=Z.cY19
theorem PySem.W.Fast.te16727905199392536027:Z.cY19=PySem.W.Fast.tw16727905199392536027:=rfl
noncomputable def PySem.W.Fast.tw17378076412252255655:PySem.Arguments:=Z.aY19
theorem PySem.W.Fast.te17378076412252255655:Z.aY19=PySem.W.Fast.tw17378076412252255655:=rfl
noncomputable def PySem.W.Fast.tw9887112076633143260:List PySem.Stmt:=Z.bY21
theorem PySem.W.Fast.te9887112076633143260:Z.bY21=PySem.W.Fast.tw9887112076633143260:=rfl
noncomputable def PySem.W.Fast.tw16652175780040137316:PySem.Scope:=Z.cY21
theorem PySem.W.Fast.te16652175780040137316:Z.cY21=PySem.W.Fast.tw16652175780040137316:=rfl
noncomputable def PySem.W.Fast.tw771454083561337269:PySem.Arguments:=Z.aY21
theorem PySem.W.Fast.te771454083561337269:Z.aY21=PySem.W.Fast.tw771454083561337269:=rfl
noncomputable def PySem.W.Fast.tw3184669192085748957:List PySem.Stmt:=Z.bY22
theorem PySem.W.Fast.te3184669192085748957:Z.bY22=PySem.W.Fast.tw3184669192085748957:=rfl
noncomputable def PySem.W.Fast.tw4757630134925260912:PySem.Scope:=Z.cY22
theorem PySem.W.Fast.te4757630134925260912:Z.cY22=PySem.W.Fast.tw4757630134925260912:=rfl
noncomputable def PySem.W.Fast.tw7465873080701871002:PySem.Arguments:=Z.aY22
theorem PySem.W.Fast.te7465873080701871002:Z.aY22=PySem.W.Fast.tw7465873080701871002:=rfl
noncomputable def PySem.W.Fast.tw12889549704734639409:List PySem.Stmt:=Z.bY23
theorem PySem.W.Fast.te12889549704734639409:Z.bY23=PySem.W.Fast.tw12889549704734639409:=rfl
noncomputable def PySem.W.Fast.tw10242745095938490599:PySem.Scope:=Z.cY23
theorem PySem.W.Fast.te10242745095938490599:Z.cY23=PySem.W.Fast.tw10242745095938490599:=rfl
noncomputable def PySem.W.Fast.tw9783613512567632517:PySem.Arguments:=Z.aY23
theorem PySem.W.Fast.te9783613512567632517:Z.aY23=PySem.W.Fast.tw9783613512567632517:=rfl
noncomputable def PySem.W.Fast.tw253982975610095124:List PySem.Stmt:=Z.bY24
theorem PySem.W.Fast.te253982975610095124:Z.bY24=PySem.W.Fast.tw253982975610095124:=rfl
noncomputable def PySem.W.Fast.tw16275538113687255351:PySem.Scope:=Z.cY24
theorem PySem.W.Fast.te16275538113687255351:Z.cY24=PySem.W.Fast.tw16275538113687255351:=rfl
noncomputable def PySem.W.Fast.tw8631897014996469195:PySem.Arguments:=Z.aY24
theorem PySem.W.Fast.te8631897014996469195:Z.aY24=PySem.W.Fast.tw8631897014996469195:=rfl
noncomputable def PySem.W.Fast.tw16567001819157486034:List PySem.Stmt:=Z.bY25
theorem PySem.W.Fast.te16567001819157486034:Z.bY25=PySem.W.Fast.tw16567001819157486034:=rfl
noncomputable def PySem.W.Fast.tw7982987530691195544:PySem.Scope:=Z.cY25
theorem PySem.W.Fast.te7982987530691195544:Z.cY25=PySem.W.Fast.tw7982987530691195544:=rfl
noncomputable def PySem.W.Fast.tw13013389684767732081:PySem.Arguments:=Z.aY25
theorem PySem.W.Fast.te13013389684767732081:Z.aY25=PySem.W.Fast.tw13013389684767732081:=rfl
noncomputable def PySem.W.Fast.tw4244449392144476589:List PySem.Stmt:=Z.bY26
theorem PySem.W.Fast.te4244449392144476589:Z.bY26=PySem.W.Fast.tw4244449392144476589:=rfl
noncomputable def PySem.W.Fast.tw14390090659230534699:PySem.Scope:=Z.cY26
theorem PySem.W.Fast.te14390090659230534699:Z.cY26=PySem.W.Fast.tw14390090659230534699:=rfl
noncomputable def PySem.W.Fast.tw12686048097710121713:PySem.Arguments:=Z.aY26
theorem PySem.W.Fast.te12686048097710121713:Z.aY26=PySem.W.Fast.tw12686048097710121713:=rfl
noncomputable def PySem.W.Fast.tw7251329012966193718:List PySem.Stmt:=Z.bY27
theorem PySem.W.Fast.te7251329012966193718:Z.bY27=PySem.W.Fast.tw7251329012966193718:=rfl
noncomputable def PySem.W.Fast.tw6989610931706019681:PySem.Scope:=Z.cY27
theorem PySem.W.Fast.te6989610931706019681:Z.cY27=PySem.W.Fast.tw6989610931706019681:=rfl
noncomputable def PySem.W.Fast.tw9645709375656358629:PySem.Arguments:=Z.aY27
theorem PySem.W.Fast.te9645709375656358629:Z.aY27=PySem.W.Fast.tw9645709375656358629:=rfl
noncomputable def PySem.W.Fast.tw5650864977710570941:List PySem.Stmt:=Z.bY28
theorem PySem.W.Fast.te5650864977710570941:Z.bY28=PySem.W.Fast.tw5650864977710570941:=rfl
noncomputable def PySem.W.Fast.tw3088784125654015763:PySem.Scope:=Z.cY28
theorem PySem.W.Fast.te3088784125654015763:Z.cY28=PySem.W.Fast.tw3088784125654015763:=rfl
noncomputable def PySem.W.Fast.tw11561044847845218375:PySem.Arguments:=Z.aY28
theorem PySem.W.Fast.te11561044847845218375:Z.aY28=PySem.W.Fast.tw11561044847845218375:=rfl
noncomputable def PySem.W.Fast.tw15678913842311952932:List PySem.Stmt:=Z.bY29
theorem PySem.W.Fast.te15678913842311952932:Z.bY29=PySem.W.Fast.tw15678913842311952932:=rfl
noncomputable def PySem.W.Fast.tw2973153766501714000:PySem.Scope:=Z.cY29
theorem PySem.W.Fast.te2973153766501714000:Z.cY29=PySem.W.Fast.tw2973153766501714000:=rfl
noncomputable def PySem.W.Fast.tw14768156425524150083:PySem.Arguments:=Z.aY29
theorem PySem.W.Fast.te14768156425524150083:Z.aY29=PySem.W.Fast.tw14768156425524150083:=rfl
noncomputable def PySem.W.Fast.tw16800058748430543514:List PySem.Stmt:=Z.bY30
theorem PySem.W.Fast.te16800058748430543514:Z.bY30=PySem.W.Fast.tw16800058748430543514:=rfl
noncomputable def PySem.W.Fast.tw11984650095909266282:PySem.Scope:=Z.cY30
theorem PySem.W.Fast.te11984650095909266282:Z.cY30=PySem.W.Fast.tw11984650095909266282:=rfl
noncomputable def PySem.W.Fast.tw5284715696713304373:PySem.Arguments:=Z.aY30
theorem PySem.W.Fast.te5284715696713304373:Z.aY30=PySem.W.Fast.tw5284715696713304373:=rfl
noncomputable def PySem.W.Fast.tw8496613351848183148:List PySem.Stmt:=Z.bY31
theorem PySem.W.Fast.te8496613351848183148:Z.bY31=PySem.W.Fast.tw8496613351848183148:=rfl
noncomputable def PySem.W.Fast.tw12920458419419353967:PySem.Scope:=Z.cY31
theorem PySem.W.Fast.te12920458419419353967:Z.cY31=PySem.W.Fast.tw12920458419419353967:=rfl
noncomputable def PySem.W.Fast.tw6461874459675472292:PySem.Arguments:=Z.aY31
theorem PySem.W.Fast.te6461874459675472292:Z.aY31=PySem.W.Fast.tw6461874459675472292:=rfl
noncomputable def PySem.W.Fast.tw9889016406116733806:List PySem.Stmt:=Z.bY32
theorem PySem.W.Fast.te9889016406116733806:Z.bY32=PySem.W.Fast.tw9889016406116733806:=rfl
noncomputable def PySem.W.Fast.tw13386225782591130324:PySem.Scope:=Z.cY32
theorem PySem.W.Fast.te13386225782591130324:Z.cY32=PySem.W.Fast.tw13386225782591130324:=rfl
noncomputable def PySem.W.Fast.tw9209456220916044748:PySem.Arguments:=Z.aY32
theorem PySem.W.Fast.te9209456220916044748:Z.aY32=PySem.W.Fast.tw9209456220916044748:=rfl
noncomputable def PySem.W.Fast.tw1971946427293814465:List PySem.Stmt:=Z.bY33
theorem PySem.W.Fast.te1971946427293814465:Z.bY33=PySem.W.Fast.tw1971946427293814465:=rfl
noncomputable def PySem.W.Fast.tw13547686609883382050:PySem.Scope:=Z.cY33
theorem PySem.W.Fast.te13547686609883382050:Z.cY33=PySem.W.Fast.tw13547686609883382050:=rfl
noncomputable def PySem.W.Fast.tw7077472300823571452:PySem.Arguments:=Z.aY33
theorem PySem.W.Fast.te7077472300823571452:Z.aY33=PySem.W.Fast.tw7077472300823571452:=rfl
noncomputable def PySem.W.Fast.tw16278622391476282283:List PySem.Stmt:=Z.bY34
theorem PySem.W.Fast.te16278622391476282283:Z.bY34=PySem.W.Fast.tw16278622391476282283:=rfl
noncomputable def PySem.W.Fast.tw10909203978021369478:PySem.Scope:=Z.cY34
theorem PySem.W.Fast.te10909203978021369478:Z.cY34=PySem.W.Fast.tw10909203978021369478:=rfl
noncomputable def PySem.W.Fast.tw10577829675439628756:PySem.Arguments:=Z.aY34
theorem PySem.W.Fast.te10577829675439628756:Z.aY34=PySem.W.Fast.tw10577829675439628756:=rfl
noncomputable def PySem.W.Fast.tw11081007370344357474:List PySem.Stmt:=Z.bY35
theorem PySem.W.Fast.te11081007370344357474:Z.bY35=PySem.W.Fast.tw11081007370344357474:=rfl
noncomputable def PySem.W.Fast.tw3396337560275370438:PySem.Scope:=Z.cY35
theorem PySem.W.Fast.te3396337560275370438:Z.cY35=PySem.W.Fast.tw3396337560275370438:=rfl
noncomputable def PySem.W.Fast.tw7680091405477127721:PySem.Arguments:=Z.aY35
theorem PySem.W.Fast.te7680091405477127721:Z.aY35=PySem.W.Fast.tw7680091405477127721:=rfl
noncomputable def PySem.W.Fast.tw15768161232882298370:List PySem.Stmt:=Z.bY36
theorem PySem.W.Fast.te15768161232882298370:Z.bY36=PySem.W.Fast.tw15768161232882298370:=rfl
noncomputable def PySem.W.Fast.tw13605502614324691279:PySem.Scope:=Z.cY36
theorem PySem.W.Fast.te13605502614324691279:Z.cY36=PySem.W.Fast.tw13605502614324691279:=rfl
noncomputable def PySem.W.Fast.tw16179005119362175415:PySem.Arguments:=Z.aY36
theorem PySem.W.Fast.te16179005119362175415:Z.aY36=PySem.W.Fast.tw16179005119362175415:=rfl
noncomputable def PySem.W.Fast.tw1851548532174186869:List PySem.Stmt:=Z.bY37
theorem PySem.W.Fast.te1851548532174186869:Z.bY37=PySem.W.Fast.tw1851548532174186869:=rfl
noncomputable def PySem.W.Fast.tw1716947729413667878:PySem.Scope:=Z.cY37
theorem PySem.W.Fast.te1716947729413667878:Z.cY37=PySem.W.Fast.tw1716947729413667878:=rfl
noncomputable def PySem.W.Fast.tw13885413795255261590:PySem.Arguments:=Z.aY37
theorem PySem.W.Fast.te13885413795255261590:Z.aY37=PySem.W.Fast.tw13885413795255261590:=rfl
noncomputable def PySem.W.Fast.tw13573237691992662684:List PySem.Stmt:=Z.bY38
theorem PySem.W.Fast.te13573237691992662684:Z.bY38=PySem.W.Fast.tw13573237691992662684:=rfl
noncomputable def PySem.W.Fast.tw8714895791053989350:PySem.Scope:=Z.cY38
theorem PySem.W.Fast.te8714895791053989350:Z.cY38=PySem.W.Fast.tw8714895791053989350:=rfl
noncomputable def PySem.W.Fast.tw7849200660511394447:PySem.Arguments:=Z.aY38
theorem PySem.W.Fast.te7849200660511394447:Z.aY38=PySem.W.Fast.tw7849200660511394447:=rfl
noncomputable def PySem.W.Fast.tw5160444039759204164:PySem.Params->PySem.W.Frag:=Z.KK
theorem PySem.W.Fast.te5160444039759204164:Z.KK=PySem.W.Fast.tw5160444039759204164:=rfl
set_option maxRecDepth 100000 in
set_option maxHeartbeats 0 in
theorem Z.wellS:PySem.Challenge.rw_beatplans_k20_whole_all_times.wellSaid=true:=by decide +kernel
open PySem PySem.W PyProof.Rows
set_option maxRecDepth 100000 in
set_option maxHeartbeats 0 in
theorem PySem.Challenge.cw_beatplans_k20_whole_all_times_holds : PySem.Challenge.rw_beatplans_k20_whole_all_times.Holds := by
 w_on; refine PySem.W.holds_law Z.wellS fun said=>?_
 rw [Z.rw_eq] at said ⊢
 o_head (kHook Z.KK Z.KA (fun _=>by kernel_rfl)); (case hw=>w_witness2)
 k_fill
 refine Z.walk (l:=Z.rwS) rfl rfl (fun w h Y=>PySem.W.kIn_of Y) ?K ?S ?F
 case K=>intro w; rfl
 case S=>intro w; exact ⟨_,rfl,rfl⟩
 case F=>
  intro w mg fa h KX G hmg
  refine' Z.all_mk KX G hmg ?a0 ?l0 ?c0 ?k0 ?a1 ?l1 ?c1 ?k1 ?a2 ?l2 ?c2 ?k2 ?a3 ?l3 ?c3 ?k3 ?a4 ?l4 ?c4 ?k4 ?a5 ?l5 ?c5 ?k5 ?a6 ?l6 ?c6 ?k6 ?a7 ?l7 ?c7 ?k7 ?a8 ?l8 ?c8 ?k8 ?a9 ?l9 ?c9 ?k9 ?a10 ?l10 ?c10 ?k10 ?a11 ?l11 ?c11 ?k11 ?a12 ?l12 ?c12 ?k12 ?a13 ?l13 ?c13 ?k13 ?a14 ?l14 ?c14 ?k14 ?a15 ?l15 ?c15 ?k15 ?a16 ?l16 ?c16 ?k16 ?a17 ?l17 ?c17 ?k17 ?a18 ?l18 ?c18 ?k18 ?a19 ?l19 ?c19 ?k19 ?a20 ?l20 ?c20 ?k20 ?a21 ?l21 ?c21 ?k21 ?a22 ?l22 ?c22 ?k22 ?a23 ?l23 ?c23 ?k23 ?a24 ?l24 ?c24 ?k24 ?a25 ?l25 ?c25 ?k25 ?a26 ?l26 ?c26 ?k26 ?a27 ?l27 ?c27 ?k27 ?a28 ?l28 ?c28 ?k28 ?z_len ?z_repr ?z_min ?z_max ?z_sum ?z_all ?z_any ?z_sorted ?z_int ?z_str ?z_isinstance ?z_range ?z_enumerate ?z_list ?z_tuple ?z_bool ?z_dict ?z_ValueError ?g_MOST_SIZE
  (case a0=>k_is)
  (case l0=>k_is)
  (case c0=>k_is)
  (case k0=>k_is)
  (case a1=>k_is)
  (case l1=>k_is)
  (case c1=>k_is)
  (case k1=>k_is)
  (case a2=>k_is)
  (case l2=>k_is)
  (case c2=>k_is)
  (case k2=>k_is)
  (case a3=>k_is)
  (case l3=>k_is)
  (case c3=>k_is)
  (case k3=>k_is)
  (case a4=>k_is)
  (case l4=>k_is)
  (case c4=>k_is)
  (case k4=>k_is)
  (case a5=>k_is)
  (case l5=>k_is)
  (case c5=>k_is)
  (case k5=>k_is)
  (case a6=>k_is)
  (case l6=>k_is)
  (case c6=>k_is)
  (case k6=>k_is)
  (case a7=>k_is)
  (case l7=>k_is)
  (case c7=>k_is)
  (case k7=>k_is)
  (case a8=>k_is)
  (case l8=>k_is)
  (case c8=>k_is)
  (case k8=>k_is)
  (case a9=>k_is)
  (case l9=>k_is)
  (case c9=>k_is)
  (case k9=>k_is)
  (case a10=>k_is)
  (case l10=>k_is)
  (case c10=>k_is)
  (case k10=>k_is)
  (case a11=>k_is)
  (case l11=>k_is)
  (case c11=>k_is)
  (case k11=>k_is)
  (case a12=>k_is)
  (case l12=>k_is)
  (case c12=>k_is)
  (case k12=>k_is)
  (case a13=>k_is)
  (case l13=>k_is)
  (case c13=>k_is)
  (case k13=>k_is)
  (case a14=>k_is)
  (case l14=>k_is)
  (case c14=>k_is)
  (case k14=>k_is)
  (case a15=>k_is)
  (case l15=>k_is)
  (case c15=>k_is)
  (case k15=>k_is)
  (case a16=>k_is)
  (case l16=>k_is)
  (case c16=>k_is)
  (case k16=>k_is)
  (case a17=>k_is)
  (case l17=>k_is)
  (case c17=>k_is)
  (case k17=>k_is)
  (case a18=>k_is)
  (case l18=>k_is)
  (case c18=>k_is)
  (case k18=>k_is)
  (case a19=>k_is)
  (case l19=>k_is)
  (case c19=>k_is)
  (case k19=>k_is)
  (case a20=>k_is)
  (case l20=>k_is)
  (case c20=>k_is)
  (case k20=>k_is)
  (case a21=>k_is)
  (case l21=>k_is)
  (case c21=>k_is)
  (case k21=>k_is)
  (case a22=>k_is)
  (case l22=>k_is)
  (case c22=>k_is)
  (case k22=>k_is)
  (case a23=>k_is)
  (case l23=>k_is)
  (case c23=>k_is)
  (case k23=>k_is)
  (case a24=>k_is)
  (case l24=>k_is)
  (case c24=>k_is)
  (case k24=>k_is)
  (case a25=>k_is)
  (case l25=>k_is)
  (case c25=>k_is)
  (case k25=>k_is)
  (case a26=>k_is)
  (case l26=>k_is)
  (case c26=>k_is)
  (case k26=>k_is)
  (case a27=>k_is)
  (case l27=>k_is)
  (case c27=>k_is)
  (case k27=>k_is)
  (case a28=>k_is)
  (case l28=>k_is)
  (case c28=>k_is)
  (case k28=>k_is)
  (case z_len=>k_is)
  (case z_repr=>k_is)
  (case z_min=>k_is)
  (case z_max=>k_is)
  (case z_sum=>k_is)
  (case z_all=>k_is)
  (case z_any=>k_is)
  (case z_sorted=>k_is)
  (case z_int=>k_is)
  (case z_str=>k_is)
  (case z_isinstance=>k_is)
  (case z_range=>k_is)
  (case z_enumerate=>k_is)
  (case z_list=>k_is)
  (case z_tuple=>k_is)
  (case z_bool=>k_is)
  (case z_dict=>k_is)
  (case z_ValueError=>k_is)
  (case g_MOST_SIZE=>k_is)
