import PyProof.Rows.All
import Wide.All
import OpenK.AllK
import Wide.FinOn
import Lean
import PyProof.EqAt
import PyProof.EqKinds
import PyProof.TupleCall
import PySem.Challenge.RW_beatplans_k74_plans_as_lines
set_option compiler.extract_closed false
set_option Elab.async false
set_option linter.all false
set_option maxRecDepth 100000
namespace L2
open PySem PySem.Spec PyProof.Rows

noncomputable abbrev Key:=Sum Int Str
noncomputable def jeR:Key->Value->Bool
 | .inl k,v=>Value.isInt k v
 | .inr x,v=>Value.isStrOf x v
noncomputable def keyH (w:World):Key->Int
 | .inl k=>hashInt k
 | .inr x=>hashStr w x
theorem jak:∀ {k:Key} {v:Value},jeR k v=true->(∃ i t,k=Sum.inl i/\v=Value.int i t)\/(∃ x t,k=Sum.inr x/\v=Value.str x t)
 | .inl i,v,h=>by
  obtain ⟨t,e⟩:=Value.isInt_shape (k:=i) (v:=v) h
  exact .inl ⟨i,t,rfl,e⟩
 | .inr x,v,h=>by
  obtain ⟨t,e⟩:=Value.isStrOf_shape (x:=x) (v:=v) h
  exact .inr ⟨x,t,rfl,e⟩
theorem jfE (i:Int)(t:Tok):jeR (.inl i) (.int i t)=true:=by simp [jeR,Value.isInt]
theorem jfD (x:Str)(t:Tok):jeR (.inr x) (.str x t)=true:=by simp [jeR,Value.isStrOf]
theorem jkB (a b:Int):decide ((Sum.inl a:Key)=Sum.inl b)=(a == b):=by
 by_cases e:a=b
 ·subst e; simp
 ·have h:¬ (Sum.inl a:Key)=Sum.inl b:=fun q=>e (Sum.inl.inj q)
  rw [decide_eq_false h]
  exact (beq_eq_false_iff_ne.mpr e).symm
theorem jky (a b:Str):decide ((Sum.inr a:Key)=Sum.inr b)=decide (a=b):=by
 by_cases e:a=b
 ·subst e; simp
 ·have h:¬ (Sum.inr a:Key)=Sum.inr b:=fun q=>e (Sum.inr.inj q)
  rw [decide_eq_false h,decide_eq_false e]
theorem jkA (a:Int)(b:Str):decide ((Sum.inl a:Key)=Sum.inr b)=false:=decide_eq_false (fun q=>nomatch q)
theorem jkz (a:Str)(b:Int):decide ((Sum.inr a:Key)=Sum.inl b)=false:=decide_eq_false (fun q=>nomatch q)

noncomputable def jao (prog:Program)(w:World):PySem.KeyKind prog w Key where
 is:=jeR
 hash:=keyH w
 inj:=fun v a b ha hb=>by
  rcases jak ha with ⟨i,t,rfl,rfl⟩ | ⟨x,t,rfl,rfl⟩
  ·rcases jak hb with ⟨j,u,rfl,e⟩ | ⟨y,u,rfl,e⟩
   ·injection e with e1 _; rw [e1]
   ·exact nomatch e
  ·rcases jak hb with ⟨j,u,rfl,e⟩ | ⟨y,u,rfl,e⟩
   ·exact nomatch e
   ·injection e with e1 _; rw [e1]
 byValue:=fun k v h=>by
  rcases jak h with ⟨i,t,rfl,rfl⟩ | ⟨x,t,rfl,rfl⟩ <;> rfl
 pyHash:=fun hv h=>by
  rcases jak hv with ⟨i,t,rfl,rfl⟩ | ⟨x,t,rfl,rfl⟩
  ·exact wpAny_pyHash_int h
  ·exact wpAny_pyHash_str h
 eqBool:=fun hu hv h=>by
  rcases jak hu with ⟨i,t,rfl,rfl⟩ | ⟨x,t,rfl,rfl⟩
  ·rcases jak hv with ⟨j,u,rfl,rfl⟩ | ⟨y,u,rfl,rfl⟩
   ·rw [jkB] at h; exact wpAny_eqBool_int h
   ·rw [jkA] at h; exact SeqAt.EqAt.int_str i t y u _ _ _ _ h
  ·rcases jak hv with ⟨j,u,rfl,rfl⟩ | ⟨y,u,rfl,rfl⟩
   ·rw [jkz] at h; exact SeqAt.EqAt.str_int x t j u _ _ _ _ h
   ·rw [jky] at h; exact wpAny_eqBool_str h
 «strs»:=fun k x t v h=>by
  rcases jak h with ⟨i,u,rfl,e⟩ | ⟨y,u,rfl,e⟩
  ·exact nomatch e
  ·injection e with e1 _
   subst e1
   cases v <;> rfl

theorem jdT (prog:Program)(w:World)(i:Int)(t:Tok):(jao prog w).is (.inl i) (.int i t)=true:=jfE i t
theorem jdS (prog:Program)(w:World)(x:Str)(t:Tok):(jao prog w).is (.inr x) (.str x t)=true:=jfD x t

inductive V where
 | non | bl (b:Bool) | int (i:Int) | str (x:Str) | byt (b:Array UInt8) | flt (b:UInt64) | ref (a:Addr) | ty (n:String)
 deriving DecidableEq

noncomputable def RelV:V->Value->Prop
 | .non,u=>u=Value.none
 | .bl b,u=>u=Value.bool b
 | .int i,u=>∃ t,u=Value.int i t
 | .str x,u=>∃ t,u=Value.str x t
 | .byt b,u=>∃ t,u=Value.bytes b t
 | .flt b,u=>∃ t,u=Value.float b t
 | .ref a,u=>u=Value.ref a
 | .ty n,u=>u=Value.type n

noncomputable abbrev Vals:List V->List Value->Prop:=Paired RelV
theorem Vals.length {xs:List V}{us:List Value}(r:Vals xs us):xs.length=us.length:=Paired.length r
theorem Vals.get:∀ {xs:List V} {us:List Value} {i:Nat} {x:V},Vals xs us->xs[i]?=some x->∃ u,us[i]?=some u/\RelV x u
 | _,_,_,_,.nil,e=>by simp at e
 | _,_,0,_,.cons r _,e=>by simp at e; subst e; exact ⟨_,rfl,r⟩
 | _,_,i + 1,x,.cons _ t,e=>by
  obtain ⟨u,h1,h2⟩:=Vals.get (i:=i) (x:=x) t (by simpa using e)
  exact ⟨u,by simpa using h1,h2⟩
theorem Vals.set {x:V}{u:Value}(r:RelV x u):∀ {xs:List V} {us:List Value} (i:Nat),Vals xs us->Vals (xs.set i x) (us.set i u)
 | _,_,_,.nil=>.nil
 | _,_,0,.cons _ t=>.cons r t
 | _,_,i + 1,.cons q t=>.cons q (Vals.set r i t)
theorem Vals.append:∀ {xs ys:List V} {us ws:List Value},Vals xs us->Vals ys ws->Vals (xs++ys) (us++ws)
 | _,_,_,_,.nil,s=>s
 | _,_,_,_,.cons r t,s=>.cons r (Vals.append t s)
theorem Vals.take:∀ {xs:List V} {us:List Value} (n:Nat),Vals xs us->Vals (xs.take n) (us.take n)
 | _,_,0,_=>.nil
 | _,_,_ + 1,.nil=>.nil
 | _,_,n + 1,.cons r t=>.cons r (Vals.take n t)
theorem Vals.drop:∀ {xs:List V} {us:List Value} (n:Nat),Vals xs us->Vals (xs.drop n) (us.drop n)
 | _,_,0,r=>r
 | _,_,_ + 1,.nil=>.nil
 | _,_,n + 1,.cons _ t=>Vals.drop n t
noncomputable def RelO:Option V->Option Value->Prop
 | some v,some u=>RelV v u
 | none,none=>True
 | _,_=>False
noncomputable def KV {κ:Type}:List (κ×V)->List (κ×Value)->Prop:=Paired fun (p:κ×V) (q:κ×Value)=>p.1=q.1/\RelV p.2 q.2

noncomputable def kV:Key->V
 | .inl i=>.int i
 | .inr x=>.str x

inductive HO where
 | lst (xs:List V)
 | tup (xs:List V)
 | dK (kvs:List (Key×V)) | dT (kvs:List (List Key×V))
 | set (S:Int->Bool) (n:Nat)
 | ins (C dx:Addr) (fs:List (Str×V))
 | own (x:Addr)
 | xd (fs:List (Str×V))
 | met (f x:Addr)
 | rng (lo hi:Int)
 | frz (o:Obj) (u:HO)
 | tbl (ps:Array Value)
 | ext (φ:Heap->Prop)

noncomputable abbrev Hp:=Addr->Option HO
noncomputable def upd (H:Hp)(a:Addr)(o:HO):Hp:=fun b=>if b=a then some o else H b
theorem jah {H:Hp}{a:Addr}{o:HO}:upd H a o a=some o:=by unfold upd; rw [if_pos rfl]
theorem jac {H:Hp}{a b:Addr}{o:HO}(h:b≠a):upd H a o b=H b:=by unfold upd; rw [if_neg h]
theorem jmn {H:Hp}{a b:Addr}{o u:HO}(h:H a=some o)(h':H b=some u)(d:o≠u):a≠b:=by
 intro e; subst e; rw [h] at h'; exact d (Option.some.inj h')
theorem jae {H:Hp}{a b:Addr}{o:HO}(h:H a=some o)(h':H b=none):a≠b:=by
 intro e; subst e; rw [h] at h'; cases h'

noncomputable def TupD (h:Heap)(a:Addr)(items:Array Value):Prop:=∃ o,h.get? a=some o/\o.cls=.type "tuple" /\ ∃ n,o.data=.seq items n/\o.dict=none
theorem TupD.tup {h:Heap}{a:Addr}{items:Array Value}(x:TupD h a items):IsTup h a items:=let ⟨o,e,c,n,d,_⟩:=x; ⟨o,e,c,n,d⟩
theorem TupD.new (h:Heap)(items:Array Value):TupD (h.push { cls:=.type "tuple",data:=.seq items }) h.objs.size items:=⟨_,Heap.get?_push_size _ rfl,rfl,_,rfl,rfl⟩
section
variable (P:Program)(w:World)
noncomputable def jav (H : Hp)(h : Heap)(a : Addr) : HO -> Prop
  | .lst xs => xs.length <= sizeLine /\ ∃ (its : List Value) (n : Nat), Vals xs its /\ h.get? a = some { cls := .type "list", data := .seq its.toArray n }
  | .tup xs => xs.length <= sizeLine /\ ∃ its : List Value, Vals xs its /\ TupD h a its.toArray
  | .dK kvs => kvs.length <= sizeLine /\ (a == sysModules) = false /\ ∃ vs, KV kvs vs /\ h.DictOf (jao P w) a vs
  | .dT kvs => kvs.length <= sizeLine /\ (a == sysModules) = false /\ ∃ xs : List (List Key × Addr × Value),
      Paired (fun (p : List Key × V) (q : List Key × Addr × Value) => p.1 = q.1 /\ H q.2.1 = some (.tup (p.1.map kV)) /\ RelV p.2 q.2.2) kvs xs /\
      ∃ o es ep, h.get? a = some o /\ o.ExactDict /\ o.data = .dict es ep /\ es.toList = xs.map (entryOfKey (tupleKind (jao P w))) /\ (xs.map (·.1)).Nodup
  | .set S n => h.SetOf (intKind P w) a S n
  | .ins C dx fs => H dx = some (.own a) /\ fs.length <= 1000 /\ dx ≠ a /\ h.get? a = some (PySem.W.instObj C dx) /\
      ∃ mA, h.Ns1 dx mA /\ (∀ f, RelO (fs.lookup f) (mA f)) /\ PySem.Within mA (fs.map (·.1))
  | .own _ => ∃ o, h.get? a = some o
  | .xd fs => ∃ mA, h.Ns1 a mA /\ ∀ f, RelO (fs.lookup f) (mA f)
  | .rng lo hi => ∃ t u v, h.get? a = some { cls := .type "range", data := .fields #[.int lo t, .int hi u, .int 1 v] }
  | .frz o u => h.get? a = some o /\ jav H h a u
  | .tbl ps => h.get? a = some { cls := .none, data := .fields ps }
  | .met f x => h.get? a = some (PySem.W.methodObj (.ref f) (.ref x))
  | .ext φ => φ h /\ (∃ o, h.get? a = some o) /\ ∀ h1 h2 : Heap, φ h1 -> (∀ o, h1.get? a = some o -> h2.get? a = some o) -> φ h2
noncomputable def HOk (H:Hp)(h:Heap):Prop:=∀ a o,H a=some o->jav P w H h a o
end

section
variable {P:Program}{w:World}{H H':Hp}{h h':Heap}{a:Addr}{o:HO}
theorem jav.lt (x:jav P w H h a o):a < h.objs.size:=by
 cases o with
 | lst xs=>obtain ⟨_,_,_,_,e⟩:=x; exact Heap.lt_size e
 | tup xs=>obtain ⟨_,_,_,p⟩:=x; exact p.tup.lt
 | dK kvs=>obtain ⟨_,_,_,_,o,_,_,e,_⟩:=x; exact Heap.lt_size e
 | dT kvs=>obtain ⟨_,_,_,_,o,_,_,e,_⟩:=x; exact Heap.lt_size e
 | set S n=>obtain ⟨o,_,_,_,e,_⟩:=x; exact Heap.lt_size e
 | ins C dx fs=>obtain ⟨_,_,_,e,_⟩:=x; exact Heap.lt_size e
 | own y=>obtain ⟨_,e⟩:=x; exact Heap.lt_size e
 | xd fs=>obtain ⟨_,⟨_,_,_,e,_⟩,_⟩:=x; exact Heap.lt_size e
 | rng lo hi=>obtain ⟨_,_,_,e⟩:=x; exact Heap.lt_size e
 | frz ob u=>obtain ⟨e,_⟩:=x; exact Heap.lt_size e
 | tbl ps=>exact Heap.lt_size (show h.get? a=some _ from x)
 | met f y=>exact Heap.lt_size (show h.get? a=some _ from x)
 | ext φ=>obtain ⟨_,⟨_,e⟩,_⟩:=x; exact Heap.lt_size e
theorem Paired.mapP {α β:Type}{F G:α->β->Prop}:∀ {l₁:List α} {l₂:List β},Paired F l₁ l₂->(∀ a b,F a b->G a b)->Paired G l₁ l₂
 | _,_,.nil,_=>.nil
 | _,_,.cons r t,f=>.cons (f _ _ r) (Paired.mapP t f)
theorem jav.stay (x:jav P w H h a o)(k:∀ b u,(b=a\/H b=some (.own a))->h.get? b=some u->h'.get? b=some u)
  (ho:∀ b,H b=some (.own a)->H' b=some (.own a)) (ht:∀ b xs,H b=some (.tup xs)->H' b=some (.tup xs)):jav P w H' h' a o:=by
 induction o with
 | lst xs=>obtain ⟨z,its,n,r,e⟩:=x; exact ⟨z,its,n,r,k _ _ (.inl rfl) e⟩
 | tup xs=>obtain ⟨z,its,r,ob,e,c⟩:=x; exact ⟨z,its,r,ob,k _ _ (.inl rfl) e,c⟩
 | dK kvs=>obtain ⟨z,y,vs,r,ob,es,ep,e,c⟩:=x; exact ⟨z,y,vs,r,ob,es,ep,k _ _ (.inl rfl) e,c⟩
 | dT kvs=>
  obtain ⟨z,y,xs,r,ob,es,ep,e,c⟩:=x
  exact ⟨z,y,xs,Paired.mapP r fun p q z=>⟨z.1,ht _ _ z.2.1,z.2.2⟩,ob,es,ep,k _ _ (.inl rfl) e,c⟩
 | set S n=>obtain ⟨ob,es,ep,t,e,c⟩:=x; exact ⟨ob,es,ep,t,k _ _ (.inl rfl) e,c⟩
 | ins C dx fs=>
  obtain ⟨d,z,ne,e,mA,⟨od,es,ep,e2,c⟩,r⟩:=x
  exact ⟨ho _ d,z,ne,k _ _ (.inl rfl) e,mA,⟨od,es,ep,k _ _ (.inr d) e2,c⟩,r⟩
 | own y=>obtain ⟨ob,e⟩:=x; exact ⟨ob,k _ _ (.inl rfl) e⟩
 | xd fs=>obtain ⟨mA,⟨od,es,ep,e,c⟩,r⟩:=x; exact ⟨mA,⟨od,es,ep,k _ _ (.inl rfl) e,c⟩,r⟩
 | rng lo hi=>obtain ⟨t,u,v,e⟩:=x; exact ⟨t,u,v,k _ _ (.inl rfl) e⟩
 | frz ob u ih=>obtain ⟨e,q⟩:=x; exact ⟨k _ _ (.inl rfl) e,ih q⟩
 | tbl ps=>
  have e:h.get? a=some { cls:=.none,data:=.fields ps }:=x
  show h'.get? a=some { cls:=.none,data:=.fields ps }
  exact k a _ (.inl rfl) e
 | met f y=>
  have e:h.get? a=some (PySem.W.methodObj (.ref f) (.ref y)):=x
  show h'.get? a=some (PySem.W.methodObj (.ref f) (.ref y))
  exact k a _ (.inl rfl) e
 | ext φ=>obtain ⟨p,⟨o,e⟩,st⟩:=x; exact ⟨st _ _ p fun o q=>k _ _ (.inl rfl) q,⟨o,k _ _ (.inl rfl) e⟩,st⟩
theorem HOk.lt (x:HOk P w H h)(e:H a=some o):a < h.objs.size:=(x a o e).lt
theorem HOk.fresh (x:HOk P w H h)(e:h.objs.size<=a):H a=none:=by
 cases q:H a with
 | none=>rfl
 | some u=>exact absurd (Nat.lt_of_lt_of_le (x.lt q) e) (Nat.lt_irrefl _)
theorem HOk.kept (x:HOk P w H h)(k:∀ b u,h.get? b=some u->h'.get? b=some u):HOk P w H h':=fun a o e=>
 (x a o e).stay (fun b u _ q=>k b u q) (fun _ q=>q) fun _ _ q=>q
theorem HOk.laid (x:HOk P w H h)(k:∀ b u,h.get? b=some u->h'.get? b=some u)(hp:h.objs.size<=a)(new:jav P w (upd H a o) h' a o):HOk P w (upd H a o) h':=fun b u e=>by
 have hn:=x.fresh hp
 by_cases hb:b=a
 ·subst hb; rw [jah] at e; cases e; exact new
 ·rw [jac hb] at e
  exact (x b u e).stay (fun c v _ q=>k c v q) (fun c q=>by rw [jac (jae q hn)]; exact q) fun c xs q=>by rw [jac (jae q hn)]; exact q
end

noncomputable def Rd (H:Hp)(a:Addr)(u:HO):Prop:=H a=some u\/∃ o,H a=some (.frz o u)
theorem Rd.of {H:Hp}{a:Addr}{u:HO}(h:H a=some u):Rd H a u:=.inl h
theorem Rd.ok {P:Program}{w:World}{H:Hp}{h:Heap}{a:Addr}{u:HO}(r:Rd H a u)(x:HOk P w H h):jav P w H h a u:=by
 rcases r with r | ⟨o,r⟩
 ·exact x a u r
 ·obtain ⟨_,q⟩:=x a _ r
  exact q
noncomputable def Mut:Option HO->Prop
 | some (.lst _)=>True
 | some (.dK _)=>True
 | some (.dT _)=>True
 | some (.set _ _)=>True
 | some (.ins _ _ _)=>True
 | some (.ext _)=>True
 | _=>False
section
variable {P:Program}{w:World}{H:Hp}{h h':Heap}{x e:Addr}{o':HO}
theorem HOk.write (ok : HOk P w H h)(mu : Mut (H x))(he : e = x \/ H e = some (.own x))(k : ∀ b u, b ≠ e -> h.get? b = some u -> h'.get? b = some u)(heo : ∃ u, h'.get? e = some u)
    (new : jav P w (upd H x o') h' x o') : HOk P w (upd H x o') h' := fun b u q => by
  have nown : ∀ c y, H c = some (.own y) -> c ≠ x := fun c y r z => by subst z; rw [r] at mu; exact mu
  have ntup : ∀ c xs, H c = some (.tup xs) -> c ≠ x := fun c xs r z => by subst z; rw [r] at mu; exact mu
  by_cases hb : b = x
  · subst hb; rw [jah] at q; cases q; exact new
  · rw [jac hb] at q
    by_cases hbe : b = e
    · have q' : H b = some (.own x) := by
        rcases he with z | z
        · exact absurd (hbe.trans z) hb
        · rw [hbe]; exact z
      rw [q] at q'; cases q'
      obtain ⟨v, hv⟩ := heo
      exact ⟨v, by rw [hbe]; exact hv⟩
    · refine (ok b u q).stay (fun c v hc r => k c v ?_ r) (fun c r => by rw [jac (nown c b r)]; exact r) fun c xs r => by rw [jac (ntup c xs r)]; exact r
      rcases hc with rfl | hc
      · exact hbe
      · rintro rfl
        rcases he with z | z
        · exact nown c b hc z
        · rw [hc] at z; cases z; exact hb rfl
end

structure Un (fs ex:List Addr)(H H':Hp)(h h':Heap):Prop where
 keep:∀ b o,h.get? b=some o->H b=none->b∉fs->b∉ex->h'.get? b=some o
 slot:∀ b o,h.get? b=some o->H b=none->b∈fs->b∉ex->∃ sl,h'.get? b=some { o with slots:=sl }
 free:∀ b o,h.get? b=some o->H b=none->b∉ex->H' b=none
 there:∀ b o,h.get? b=some o->b∉ex->∃ o',h'.get? b=some o'
 tups:∀ b xs,H b=some (.tup xs)->H' b=some (.tup xs)
 frzs:∀ b o u,H b=some (.frz o u)->H' b=some (.frz o u)
 tbls:∀ b ps,H b=some (.tbl ps)->∃ more,H' b=some (.tbl (ps++more))
section
variable {fs fs' ex ex':List Addr}{H H1 H2:Hp}{h h1 h2 h':Heap}{a x e:Addr}{o:HO}
theorem Un.any (u:Un fs ex H H1 h h1){b:Addr}{ob:Obj}(q:h.get? b=some ob)(n:H b=none)(hx:b∉ex):∃ sl,h1.get? b=some { ob with slots:=sl }:=by
 by_cases hb:b∈fs
 ·exact u.slot b ob q n hb hx
 ·exact ⟨ob.slots,u.keep b ob q n hb hx⟩
theorem Un.kept (k:∀ b u,h.get? b=some u->h'.get? b=some u):Un fs ex H H h h':=
 ⟨fun b ob q _ _ _=>k b ob q,fun b ob q _ _ _=>⟨ob.slots,k b ob q⟩,fun _ _ _ n _=>n,fun b ob q _=>⟨ob,k b ob q⟩,fun _ _ q=>q,fun _ _ _ q=>q,fun _ ps q=>⟨#[],by rw [q]; simp⟩⟩
theorem Un.refl:Un fs ex H H h h:=Un.kept fun _ _ q=>q
theorem Un.laid (k:∀ b u,h.get? b=some u->h'.get? b=some u)(hp:h.objs.size<=a)(hn:H a=none):Un fs ex H (upd H a o) h h' where
 keep:=fun b u q _ _ _=>k b u q
 slot:=fun b u q _ _ _=>⟨u.slots,k b u q⟩
 free:=fun b u q n _=>by rw [jac (Nat.ne_of_lt (Nat.lt_of_lt_of_le (Heap.lt_size q) hp))]; exact n
 there:=fun b u q _=>⟨u,k b u q⟩
 tups:=fun b xs q=>by rw [jac (jae q hn)]; exact q
 frzs:=fun b u xs q=>by rw [jac (jae q hn)]; exact q
 tbls:=fun b ps q=>⟨#[],by rw [jac (jae q hn),q]; simp⟩
theorem Un.write (mu:Mut (H x))(he:e=x\/H e=some (.own x))(k:∀ b u,b≠e->h.get? b=some u->h'.get? b=some u)(heo:∃ u,h'.get? e=some u):Un fs ex H (upd H x o) h h':=by
 have hx:∀ b,H b=none->b≠x:=fun b n z=>by subst z; rw [n] at mu; exact mu
 have hb:∀ b,H b=none->b≠e:=fun b n z=>by
  subst z
  rcases he with r | r
  ·exact hx b n r
  ·rw [n] at r; cases r
 have hm:∀ b u,H b=some u->¬ Mut (some u)->b≠x:=fun b u q nm z=>by subst z; rw [q] at mu; exact nm mu
 refine ⟨fun b u q n _ _=>k b u (hb b n) q,fun b u q n _ _=>⟨u.slots,k b u (hb b n) q⟩,fun b u q n _=>by rw [jac (hx b n)]; exact n,fun b u q _=>?_,
  fun b xs q=>by rw [jac (hm b _ q fun z=>z)]; exact q,fun b u xs q=>by rw [jac (hm b _ q fun z=>z)]; exact q,fun b ps q=>⟨#[],by rw [jac (hm b _ q fun z=>z),q]; simp⟩⟩
 by_cases hbe:b=e
 ·subst hbe; exact heo
 ·exact ⟨u,k b u hbe q⟩
end

noncomputable def trk (h:Heap)(H:Hp):List Addr:=(List.range h.objs.size).filter fun a=>(H a).isSome
noncomputable def hidT (h:Heap)(H:Hp):Heap:=PySem.W.hideAll h (trk h H)
theorem jfO (h:Heap)(H:Hp):(hidT h H).objs.size=h.objs.size:=PySem.W.hideAll_size _ _
theorem jcY {h:Heap}{H:Hp}{b:Addr}{o:Obj}(e:h.get? b=some o)(n:H b=none):(hidT h H).get? b=some o:=
 PySem.W.hideAll_get _ e fun hm=>by
  have q:(H b).isSome=true:=(List.mem_filter.mp hm).2
  rw [n] at q; simp at q
theorem jiz {h:Heap}{H:Hp}{b:Addr}{o:Obj}(e:(hidT h H).get? b=some o):h.get? b=some o/\H b=none:=by
 have e':h.get? b=some o:=PySem.W.of_hideAll (trk h H) e
 refine ⟨e',?_⟩
 cases q:H b with
 | none=>rfl
 | some x=>
  have hm:b∈trk h H:=List.mem_filter.mpr ⟨List.mem_range.mpr (Heap.lt_size e'),by simp [q]⟩
  have z:(hidT h H).get? b=none:=PySem.W.hideAll_none (trk h H) hm
  rw [z] at e; cases e

noncomputable def jjb (g h:Heap)(L:Addr):List (Addr×Obj):=(List.range h.objs.size).filterMap fun a=>if a=L\/(g.get? a).isSome=true then none else (h.get? a).map fun o=>(a,o)
noncomputable def rest (g h:Heap)(L d:Addr):List (Addr×Obj):=(jjb g h L).filter fun p=>decide (p.1≠d)

structure Mod (K:PySem.W.Frag)(mg:Str->Option Value)(base:Heap):Prop where
 kin:K.In base
 glob:base.Ns mainGlobals mg
 blt:∃ mb,base.Ns builtinsNs mb/\∀ x:Str,x ≠ "__name__" -> mb x=bootBuiltins x
 nolimit:base.NoLimit
 sys:∃ o,K.lookup sysModules=some o/\o.cls=.type "dict"

structure Cx where
 prog:Program
 w:World
 K:PySem.W.Frag
 mg:Str->Option Value
 base:Heap
 A:Around
 N:List Str
 s₀:Shared
 H₀:Hp
 env:Env
 outer:List Env
 stack:List Env
 ex:List Addr
 fn:Str->Bool
 calm:Bool
 pn:List (Addr×Obj)
 xe:Value->Shared->Prop
noncomputable def frs (l:List Env):List Addr:=l.filterMap (·.frame)
noncomputable abbrev Cx.fs (X:Cx):List Addr:=frs X.outer

noncomputable def Vis (sc:Scope)(x:Str):Prop:=sc.names.lookup x=some .local\/sc.names.lookup x=some .cell\/sc.names.lookup x=some .free
noncomputable def Loc (sc:Scope)(x:Str):Prop:=sc.names.lookup x=some .local\/sc.names.lookup x=some .cell
noncomputable def Look (env:Env)(h:Heap)(m:Str->Option Value)(x:Str)(u:Value):Prop:=
 (env.kindOf x=some .local/\m x=some u)\/((env.kindOf x=some .cell\/env.kindOf x=some .free)/\∃ c,env.cells.lookup x=some c/\h.IsCell c (some u))

structure Cx.Ok (X:Cx):Prop where
 mod:Mod X.K X.mg X.base
 kind:X.env.scope.kind=.function
 glob:X.env.globals=mainGlobals
 blt:X.env.builtins=builtinsNs
 above:X.s₀.heap.objs.size<=X.env.locals
 inj:∀ x y c,X.env.cells.lookup x=some c->X.env.cells.lookup y=some c->x=y
 has:∀ x,(X.env.kindOf x=some .cell\/X.env.kindOf x=some .free)->∃ c,X.env.cells.lookup x=some c
 cab:∀ x c,X.fn x=true->X.env.cells.lookup x=some c->X.s₀.heap.objs.size<=c
 hd:X.calm=true->X.A.handled=none
 frames:X.A.frames=some X.stack
 stk:X.stack=X.outer\/(X.stack=X.env::X.outer/\X.env.frame=some X.env.locals)
 exf:∀ b∈X.ex,b≠X.env.locals/\∀ x c,X.env.cells.lookup x=some c->c≠b
 bs:∀ b o,X.base.get? b=some o->X.s₀.heap.get? b=some o/\X.H₀ b=none
 bsz:X.base.objs.size<=X.s₀.heap.objs.size
 noex:∀ b o,X.base.get? b=some o->b∉X.ex
 exfs:∀ b∈X.ex,b∉X.fs
 funs:X.s₀.heap.FunFrames X.base X.outer
 frf:∀ b∈X.fs,X.H₀ b=none

structure Inv (X:Cx)(pins:List (Addr×Obj))(σ:List (Option V))(H:Hp)(s:Shared):Prop where
 ok:X.Ok
 os:s.os=X.s₀.os
 bare:AllBare s.gens
 base:Un X.fs X.ex X.H₀ H X.s₀.heap s.heap
 loc:∃ m,s.heap.Ns X.env.locals m/\∀ (i:Nat) (x:Str) (v:V),X.N[i]?=some x->σ[i]?=some (some v)->Vis X.env.scope x->∃ u,RelV v u/\Look X.env s.heap m x u
 cell:∀ x c,X.env.cells.lookup x=some c->∃ v,s.heap.IsCell c v
 free:H X.env.locals=none
 freeC:∀ x c,X.env.cells.lookup x=some c->H c=none
 pin:∀ p∈X.pn++pins,s.heap.get? p.1=some p.2/\H p.1=none/\p.1≠X.env.locals/\p.1∉X.fs/\∀ v,p.2.data≠.cell v
 hok:HOk X.prog X.w H s.heap
 len:σ.length=X.N.length

section
variable {X:Cx}{pins:List (Addr×Obj)}{σ:List (Option V)}{H H':Hp}{s:Shared}{h':Heap}

theorem Cx.Ok.nofr (ok:X.Ok){b:Addr}{o:Obj}(e:X.base.get? b=some o):b∉X.fs:=fun hb=>by
 have:=(ok.funs.mem hb).1
 rw [e] at this; cases this
theorem Inv.bs (I:Inv X pins σ H s):∀ b o,X.base.get? b=some o->s.heap.get? b=some o/\H b=none:=fun b o e=>
 ⟨I.base.keep b o (I.ok.bs b o e).1 (I.ok.bs b o e).2 (I.ok.nofr e) (I.ok.noex b o e),I.base.free b o (I.ok.bs b o e).1 (I.ok.bs b o e).2 (I.ok.noex b o e)⟩
theorem Inv.bk (I:Inv X pins σ H s):∀ b o,X.base.get? b=some o->s.heap.get? b=some o:=fun b o e=>(I.bs b o e).1
theorem Inv.mod (I:Inv X pins σ H s):Mod X.K X.mg X.base:=I.ok.mod
theorem Inv.kIn (I:Inv X pins σ H s):X.K.In s.heap:=I.ok.mod.kin.keeps I.bk
theorem Inv.lt (I:Inv X pins σ H s):X.env.locals < s.heap.objs.size:=let ⟨_,hn,_⟩:=I.loc; hn.lt
theorem Inv.sz (I:Inv X pins σ H s):X.s₀.heap.objs.size<=s.heap.objs.size:=Nat.le_trans I.ok.above (Nat.le_of_lt I.lt)
theorem Inv.nofs (I:Inv X pins σ H s){a:Addr}(h:s.heap.objs.size<=a):a∉X.fs:=fun hb=>by
 obtain ⟨_,o,ho,_⟩:=I.ok.funs.mem hb
 exact absurd (Nat.lt_of_lt_of_le (Heap.lt_size ho) (Nat.le_trans I.sz h)) (Nat.lt_irrefl _)
theorem Inv.cne (I:Inv X pins σ H s):∀ x c,X.env.cells.lookup x=some c->c≠X.env.locals:=fun x c e z=>by
 obtain ⟨v,o,ho,hd⟩:=I.cell x c e
 obtain ⟨m,⟨o',es,ep,ho',hd',_⟩,_⟩:=I.loc
 rw [z,ho'] at ho; cases ho; rw [hd'] at hd; cases hd
theorem Inv.funs (I:Inv X pins σ H s):s.heap.FunFrames X.base X.outer:=by
 have all:∀ (l:List Env),(∀ b∈frs l,b∈X.fs)->X.s₀.heap.FunFrames X.base l->s.heap.FunFrames X.base l:=by
  intro l
  induction l with
  | nil=>intro _ _; trivial
  | cons env r ih=>
   intro hs hl
   obtain ⟨hk,⟨L,o,hf,hn,ho,hd⟩,hr⟩:=hl
   have hL:L∈X.fs:=hs L (by unfold frs; rw [List.filterMap_cons,hf]; exact List.mem_cons_self)
   obtain ⟨sl,e⟩:=I.base.slot L o ho (I.ok.frf L hL) hL fun z=>I.ok.exfs L z hL
   exact ⟨hk,⟨L,_,hf,hn,e,hd⟩,ih (fun b hb=>hs b (by unfold frs; rw [List.filterMap_cons,hf]; exact List.mem_cons_of_mem _ hb)) hr⟩
 exact all X.outer (fun _ hb=>hb) I.ok.funs

theorem Inv.stack (I:Inv X pins σ H s):s.heap.FunFrames X.base X.stack:=by
 rcases I.ok.stk with e | ⟨e,hf⟩
 ·rw [e]; exact I.funs
 ·rw [e]
  obtain ⟨m,hn,_⟩:=I.loc
  refine .cons (by rw [I.ok.kind]; decide) hf hn ?_ I.funs
  exact Heap.get?_none_of_le (Nat.le_trans I.ok.bsz I.ok.above)
theorem Inv.stkSub (I:Inv X pins σ H s):∀ b∈frs X.stack,b∈X.env.locals::X.fs:=fun b hb=>by
 rcases I.ok.stk with e | ⟨e,hf⟩
 ·rw [e] at hb; exact List.mem_cons_of_mem _ hb
 ·rw [e] at hb
  unfold frs at hb
  rw [List.filterMap_cons,hf] at hb
  exact hb
theorem Inv.stkFree (I:Inv X pins σ H s):∀ b∈frs X.stack,H b=none:=fun b hb=>by
 rcases List.mem_cons.mp (I.stkSub b hb) with e | hb
 ·rw [e]; exact I.free
 ·obtain ⟨_,o,ho,_⟩:=I.ok.funs.mem hb
  exact I.base.free b o ho (I.ok.frf b hb) fun z=>I.ok.exfs b z hb

theorem Inv.step {g':Array GenState}{t':Nat}{d':Drawn}{ch:List Addr}(I:Inv X pins σ H s)
  (hch:∀ b∈ch,(b∈X.ex\/X.s₀.heap.objs.size<=b)/\b≠X.env.locals/\(∀ x c,X.env.cells.lookup x=some c->c≠b)/\∀ p∈X.pn++pins,p.1≠b)
  (keep:∀ b o,b≠X.env.locals->b∉X.fs->b∉ch->s.heap.get? b=some o->H b=none->h'.get? b=some o)
  (slot:∀ b o,b≠X.env.locals->b∈X.fs->b∉ch->s.heap.get? b=some o->H b=none->∃ sl,h'.get? b=some { o with slots:=sl }) (free:∀ b o,b∉ch->s.heap.get? b=some o->H b=none->H' b=none)
  (there:∀ b o,b∉ch->s.heap.get? b=some o->∃ o',h'.get? b=some o')
  (tups:∀ b xs,H b=some (.tup xs)->H' b=some (.tup xs)) (frzs:∀ b o u,H b=some (.frz o u)->H' b=some (.frz o u)) (tbls:∀ b ps,H b=some (.tbl ps)->∃ more,H' b=some (.tbl (ps++more)))
  (ns:∀ m,s.heap.Ns X.env.locals m->h'.Ns X.env.locals m) (hok:HOk X.prog X.w H' h') (hg:AllBare g') :
  Inv X pins σ H' { s with heap:=h',gens:=g',drawn:=d',toks:=t' }:=by
 have neL:∀ b o,X.s₀.heap.get? b=some o->b≠X.env.locals:=fun b o e=>Nat.ne_of_lt (Nat.lt_of_lt_of_le (Heap.lt_size e) I.ok.above)
 have neC:∀ b o,X.s₀.heap.get? b=some o->b∉X.ex->b∉ch:=fun b o e hx hb=>by
  rcases (hch b hb).1 with z | z
  ·exact hx z
  ·exact absurd (Nat.lt_of_lt_of_le (Heap.lt_size e) z) (Nat.lt_irrefl _)
 have cellK:∀ x c,X.env.cells.lookup x=some c->∀ v,s.heap.IsCell c v->h'.IsCell c v:=fun x c e v ⟨o,ho,hd⟩=>by
  have nch:c∉ch:=fun z=>(hch c z).2.2.1 x c e rfl
  by_cases hc:c∈X.fs
  ·obtain ⟨sl,q⟩:=slot c o (I.cne x c e) hc nch ho (I.freeC x c e)
   exact ⟨_,q,hd⟩
  ·exact ⟨o,keep c o (I.cne x c e) hc nch ho (I.freeC x c e),hd⟩
 refine ⟨I.ok,I.os,hg,⟨fun b o e n hb hx=>?_,fun b o e n hb hx=>?_,fun b o e n hx=>?_,fun b o e hx=>?_,fun b xs e=>tups b xs (I.base.tups b xs e),fun b o xs e=>frzs b o xs (I.base.frzs b o xs e),fun b ps e=>?_⟩,?_,fun x c e=>?_,?_,fun x c e=>?_,fun p hp=>?_,hok,I.len⟩
 ·exact keep b o (neL b o e) hb (neC b o e hx) (I.base.keep b o e n hb hx) (I.base.free b o e n hx)
 ·obtain ⟨sl,e1⟩:=I.base.slot b o e n hb hx
  obtain ⟨sl',e2⟩:=slot b _ (neL b o e) hb (neC b o e hx) e1 (I.base.free b o e n hx)
  exact ⟨sl',e2⟩
 ·obtain ⟨o',e1⟩:=I.base.there b o e hx
  exact free b o' (neC b o e hx) e1 (I.base.free b o e n hx)
 ·obtain ⟨o',e1⟩:=I.base.there b o e hx
  exact there b o' (neC b o e hx) e1
 ·obtain ⟨m1,e1⟩:=I.base.tbls b ps e
  obtain ⟨m2,e2⟩:=tbls b _ e1
  exact ⟨m1++m2,by rw [e2,Array.append_assoc]⟩
 ·obtain ⟨m,hn,hl⟩:=I.loc
  refine ⟨m,ns m hn,fun i x v e1 e2 e3=>?_⟩
  obtain ⟨u,r,l⟩:=hl i x v e1 e2 e3
  refine ⟨u,r,?_⟩
  rcases l with l | ⟨k,c,e,z⟩
  ·exact .inl l
  ·exact .inr ⟨k,c,e,cellK x c e _ z⟩
 ·obtain ⟨v,z⟩:=I.cell x c e
  exact ⟨v,cellK x c e v z⟩
 ·obtain ⟨m,⟨o,_,_,ho,_⟩,_⟩:=I.loc
  exact free _ o (fun z=>(hch _ z).2.1 rfl) ho I.free
 ·obtain ⟨v,o,ho,hd⟩:=I.cell x c e
  exact free c o (fun z=>(hch c z).2.2.1 x c e rfl) ho (I.freeC x c e)
 ·obtain ⟨e,n,ne,nf,d⟩:=I.pin p hp
  have nch:p.1∉ch:=fun z=>(hch p.1 z).2.2.2 p hp rfl
  exact ⟨keep p.1 p.2 ne nf nch e n,free p.1 p.2 nch e n,ne,nf,d⟩
theorem Inv.un {t':Nat}(I:Inv X pins σ H s)(u:Un X.fs [] H H' s.heap h')(hok:HOk X.prog X.w H' h'):Inv X pins σ H' { s with heap:=h',toks:=t' }:=by
 obtain ⟨m,⟨o,es,ep,ho,r⟩,_⟩:=id I.loc
 obtain ⟨sl,hL⟩:=u.any ho I.free (by simp)
 exact I.step (g':=s.gens) (d':=s.drawn) (ch:=[]) (fun _ z=>nomatch z) (fun b o _ hb _ e n=>u.keep b o e n hb (by simp)) (fun b o _ hb _ e n=>u.slot b o e n hb (by simp)) (fun b o _ e n=>u.free b o e n (by simp)) (fun b o _ e=>u.there b o e (by simp)) u.tups u.frzs u.tbls (fun m' hm=>by
  obtain ⟨o',es',ep',ho',r'⟩:=hm
  rw [ho] at ho'; cases ho'
  exact ⟨_,es',ep',hL,r'⟩) hok I.bare
theorem Inv.call {g':Array GenState}{t':Nat}{d':Drawn}{ch:List Addr}(I:Inv X pins σ H s)(u:Un (frs X.stack) ch H H' s.heap h')(hok:HOk X.prog X.w H' h')(hg:AllBare g')
  (hch:∀ b∈ch,(b∈X.ex\/X.s₀.heap.objs.size<=b)/\b≠X.env.locals/\(∀ x c,X.env.cells.lookup x=some c->c≠b)/\∀ p∈X.pn++pins,p.1≠b) :
  Inv X pins σ H' { s with heap:=h',gens:=g',drawn:=d',toks:=t' }:=by
 obtain ⟨m,⟨o,es,ep,ho,r⟩,_⟩:=id I.loc
 obtain ⟨sl,hL⟩:=u.any ho I.free fun z=>(hch _ z).2.1 rfl
 exact I.step (ch:=ch) hch (fun b o hL hb hc e n=>u.keep b o e n (fun z=>(List.mem_cons.mp (I.stkSub b z)).elim hL hb) hc) (fun b o _ _ hc e n=>u.any e n hc) (fun b o hc e n=>u.free b o e n hc) (fun b o hc e=>u.there b o e hc) u.tups u.frzs u.tbls (fun m' hm=>by
  obtain ⟨o',es',ep',ho',r'⟩:=hm
  rw [ho] at ho'; cases ho'
  exact ⟨_,es',ep',hL,r'⟩) hok hg
theorem Inv.turned {t':Nat}{it:Addr}(I:Inv X pins σ H s)(k:∀ b o,b≠it->s.heap.get? b=some o->h'.get? b=some o)(hn:H it=none)(hL:it≠X.env.locals)
  (h1:it∈X.ex\/X.s₀.heap.objs.size<=it) (h2:∀ x c,X.env.cells.lookup x=some c->c≠it) (h3:∀ p∈X.pn++pins,p.1≠it):Inv X pins σ H { s with heap:=h',toks:=t' }:=by
 have nit:∀ b u,H b=some u->b≠it:=fun b u e z=>by rw [z,hn] at e; cases e
 refine I.step (g':=s.gens) (d':=s.drawn) (ch:=[it]) (fun b hb=>?_) (fun b o _ _ hc e _=>k b o (fun z=>hc (by simp [z])) e) (fun b o _ _ hc e _=>⟨o.slots,k b o (fun z=>hc (by simp [z])) e⟩) (fun _ _ _ _ n=>n)
  (fun b o hc e=>⟨o,k b o (fun z=>hc (by simp [z])) e⟩) (fun _ _ e=>e) (fun _ _ _ e=>e) (fun b ps e=>⟨#[],by rw [e]; simp⟩) (fun m hm=>?_) (fun b u e=>?_) I.bare
 ·have e:b=it:=by simpa using hb
  subst e
  exact ⟨h1,hL,h2,h3⟩
 ·obtain ⟨o,es,ep,ho,r⟩:=hm
  exact ⟨o,es,ep,k _ o (Ne.symm hL) ho,r⟩
 ·refine (I.hok b u e).stay (fun c v hc q=>k c v ?_ q) (fun _ q=>q) fun _ _ q=>q
  rcases hc with z | z
  ·rw [z]; exact nit b u e
  ·exact nit c _ z
theorem Inv.tok (I:Inv X pins σ H s)(t:Nat):Inv X pins σ H { s with toks:=t }:=I.un (h':=s.heap) (t':=t) Un.refl I.hok
theorem Inv.kept {t':Nat}(I:Inv X pins σ H s)(k:∀ b u,s.heap.get? b=some u->h'.get? b=some u):Inv X pins σ H { s with heap:=h',toks:=t' }:=I.un (Un.kept k) (I.hok.kept k)
theorem Inv.laid {a:Addr}{o:HO}{t':Nat}(I:Inv X pins σ H s)(k:∀ b u,s.heap.get? b=some u->h'.get? b=some u)(hp:s.heap.objs.size<=a)(new:jav X.prog X.w (upd H a o) h' a o) :
  Inv X pins σ (upd H a o) { s with heap:=h',toks:=t' }:=I.un (Un.laid k hp (I.hok.fresh hp)) (I.hok.laid k hp new)
theorem Inv.write {x e:Addr}{o:HO}{t':Nat}(I:Inv X pins σ H s)(mu:Mut (H x))(he:e=x\/H e=some (.own x))(k:∀ b u,b≠e->s.heap.get? b=some u->h'.get? b=some u)(heo:∃ u,h'.get? e=some u)
  (new:jav X.prog X.w (upd H x o) h' x o):Inv X pins σ (upd H x o) { s with heap:=h',toks:=t' }:=I.un (Un.write mu he k heo) (I.hok.write mu he k heo new)
theorem Inv.pins_of {pins':List (Addr×Obj)}(I:Inv X pins σ H s)(h:∀ p∈pins',s.heap.get? p.1=some p.2/\H p.1=none/\p.1≠X.env.locals/\p.1∉X.fs/\∀ v,p.2.data≠.cell v):Inv X pins' σ H s:=
 ⟨I.ok,I.os,I.bare,I.base,I.loc,I.cell,I.free,I.freeC,fun p hp=>(List.mem_append.mp hp).elim (fun z=>I.pin p (List.mem_append_left _ z)) (h p),I.hok,I.len⟩

theorem jcT {N:List Str}(hN:N.Nodup){i j:Nat}{x:Str}(a:N[i]?=some x)(b:N[j]?=some x):i=j:=by
 obtain ⟨h1,e1⟩:=List.getElem?_eq_some_iff.mp a
 obtain ⟨h2,e2⟩:=List.getElem?_eq_some_iff.mp b
 exact (List.getElem_inj hN).mp (e1.trans e2.symm)

theorem jc9 {M : Model}{A : Around}{E : Value -> Shared -> Prop}{i : Nat}{x : Str}{v : V}{u : Value}{Q : Unit -> Shared -> Prop}(I : Inv X pins σ H s)(hN : X.N.Nodup)(hi : X.N[i]? = some x)(hx : Loc X.env.scope x)(r : RelV v u)
    (h : ∀ s', Inv X pins (σ.set i (some v)) H s' -> (∃ a, Heap.SameBut a s.heap s'.heap /\ (a = X.env.locals \/ X.env.cells.lookup x = some a)) -> Q () s') (hf : X.fn x = true \/ X.env.scope.names.lookup x = some .local := by first | exact .inl rfl | exact .inr rfl | assumption) : wpAny M A (storeName X.env x u) Q E s := by
  obtain ⟨m, hn, hl⟩ := id I.loc
  have hcls : (X.env.scope.kind == .class || (X.env.scope.kind == .module && X.env.locals != X.env.globals)) = false := by rw [I.ok.kind]; rfl
  have hiσ : i < σ.length := by rw [I.len]; exact (List.getElem?_eq_some_iff.mp hi).1
  have cne := I.cne
  have tracked : ∀ {a : Addr} {h' : Heap}, (∃ o, s.heap.get? a = some o /\ H a = none) -> Heap.SameBut a s.heap h' -> HOk X.prog X.w H h' := fun {a h'} ha hs b ob e => by
    obtain ⟨_, _, hfree⟩ := ha
    refine (I.hok b ob e).stay (fun c w' hc q => (hs.2 c ?_).trans q) (fun _ q => q) fun _ _ q => q
    rintro rfl
    rcases hc with rfl | hc
    · rw [hfree] at e; cases e
    · rw [hfree] at hc; cases hc
  rcases hx with hk | hk
  · refine wpAny_storeName_local hk hn (fun h' hn' hs => ?_) hcls
    obtain ⟨oL, _, _, hoL, _⟩ := id hn
    refine h _ ⟨I.ok, I.os, I.bare, ⟨fun b o e n hb hx => ?_, fun b o e n hb hx => ?_, I.base.free, fun b o e hx => ?_, I.base.tups, I.base.frzs, I.base.tbls⟩, ⟨_, hn', fun j y v' e1 e2 e3 => ?_⟩, fun y c e => ?_, I.free, I.freeC, fun p hp => ?_, tracked ⟨oL, hoL, I.free⟩ hs, by simpa using I.len⟩ ⟨_, hs, .inl rfl⟩
    · exact (hs.2 b (Nat.ne_of_lt (Nat.lt_of_lt_of_le (Heap.lt_size e) I.ok.above))).trans (I.base.keep b o e n hb hx)
    · obtain ⟨sl, e1⟩ := I.base.slot b o e n hb hx
      exact ⟨sl, (hs.2 b (Nat.ne_of_lt (Nat.lt_of_lt_of_le (Heap.lt_size e) I.ok.above))).trans e1⟩
    · obtain ⟨o', e1⟩ := I.base.there b o e hx
      exact ⟨o', (hs.2 b (Nat.ne_of_lt (Nat.lt_of_lt_of_le (Heap.lt_size e) I.ok.above))).trans e1⟩
    · by_cases hj : j = i
      · subst hj
        rw [hi] at e1; cases e1
        rw [List.getElem?_set_self hiσ] at e2
        cases e2
        exact ⟨u, r, .inl ⟨hk, by simp⟩⟩
      · rw [List.getElem?_set_ne (Ne.symm hj)] at e2
        obtain ⟨u', r', q⟩ := hl j y v' e1 e2 e3
        refine ⟨u', r', ?_⟩
        rcases q with ⟨k, e⟩ | ⟨k, c, e, z⟩
        · refine .inl ⟨k, ?_⟩
          have : y ≠ x := fun e => hj (jcT hN e1 (e ▸ hi))
          simp [this, e]
        · exact .inr ⟨k, c, e, z.sameBut hs (cne y c e)⟩
    · obtain ⟨w', z⟩ := I.cell y c e
      exact ⟨w', z.sameBut hs (cne y c e)⟩
    · obtain ⟨e, n, ne, nf, d⟩ := I.pin p hp
      exact ⟨(hs.2 p.1 ne).trans e, n, ne, nf, d⟩
  · have hfn : X.fn x = true := by
      rcases hf with z | z
      · exact z
      · rw [z] at hk; cases hk
    obtain ⟨c, hc⟩ := I.ok.has x (.inl hk)
    obtain ⟨w', z⟩ := I.cell x c hc
    refine wpAny_storeName_cell I.ok.kind hk hc z (fun h' hc' hs => ?_)
    obtain ⟨oc, hoc, hocd⟩ := id z
    refine h { s with heap := h' } ⟨I.ok, I.os, I.bare, ⟨fun b o e n hb hx => ?_, fun b o e n hb hx => ?_, I.base.free, fun b o e hx => ?_, I.base.tups, I.base.frzs, I.base.tbls⟩, ⟨m, hn.sameBut hs (Ne.symm (cne x c hc)), fun j y v' e1 e2 e3 => ?_⟩, fun y c' e => ?_, I.free, I.freeC, fun p hp => ?_, tracked ⟨oc, hoc, I.freeC x c hc⟩ hs, by simpa using I.len⟩ ⟨c, hs, .inr hc⟩
    · exact (hs.2 b (Nat.ne_of_lt (Nat.lt_of_lt_of_le (Heap.lt_size e) (I.ok.cab x c hfn hc)))).trans (I.base.keep b o e n hb hx)
    · obtain ⟨sl, e1⟩ := I.base.slot b o e n hb hx
      exact ⟨sl, (hs.2 b (Nat.ne_of_lt (Nat.lt_of_lt_of_le (Heap.lt_size e) (I.ok.cab x c hfn hc)))).trans e1⟩
    · obtain ⟨o', e1⟩ := I.base.there b o e hx
      exact ⟨o', (hs.2 b (Nat.ne_of_lt (Nat.lt_of_lt_of_le (Heap.lt_size e) (I.ok.cab x c hfn hc)))).trans e1⟩
    · by_cases hj : j = i
      · subst hj
        rw [hi] at e1; cases e1
        rw [List.getElem?_set_self hiσ] at e2
        cases e2
        exact ⟨u, r, .inr ⟨.inl hk, c, hc, hc'⟩⟩
      · rw [List.getElem?_set_ne (Ne.symm hj)] at e2
        obtain ⟨u', r', q⟩ := hl j y v' e1 e2 e3
        refine ⟨u', r', ?_⟩
        rcases q with q | ⟨k, c', e, z'⟩
        · exact .inl q
        · refine .inr ⟨k, c', e, z'.sameBut hs ?_⟩
          rintro rfl
          exact hj (jcT hN e1 (I.ok.inj _ _ _ e hc ▸ hi))
    · by_cases hcc : c' = c
      · subst hcc; exact ⟨_, hc'⟩
      · obtain ⟨w2, z2⟩ := I.cell y c' e
        exact ⟨w2, z2.sameBut hs hcc⟩
    · obtain ⟨e, n, ne, nf, d⟩ := I.pin p hp
      refine ⟨(hs.2 p.1 ?_).trans e, n, ne, nf, d⟩
      intro q
      rw [q, hoc] at e
      have q' : oc = p.2 := Option.some.inj e
      exact d w' (by rw [<- q']; exact hocd)
theorem jcL {M:Model}{A:Around}{E:Value->Shared->Prop}{i:Nat}{x:Str}{v:V}{u:Value}{Q:Unit->Shared->Prop}(I:Inv X pins σ H s)(hN:X.N.Nodup)(hi:X.N[i]?=some x)(hx:Loc X.env.scope x)(r:RelV v u)
  (h:∀ s',Inv X pins (σ.set i (some v)) H s'->Q () s') (hf:X.fn x=true\/X.env.scope.names.lookup x=some .local:=by first | exact .inl rfl | exact .inr rfl | assumption):wpAny M A (storeName X.env x u) Q E s:=
 jc9 I hN hi hx r (fun s' I' _=>h s' I') hf
theorem Inv.call' {s':Shared}{ch:List Addr}(I:Inv X pins σ H s)(ho:s'.os=s.os)(u:Un (frs X.stack) ch H H' s.heap s'.heap)(hok:HOk X.prog X.w H' s'.heap)(hg:AllBare s'.gens)
  (hch:∀ b∈ch,(b∈X.ex\/X.s₀.heap.objs.size<=b)/\b≠X.env.locals/\(∀ x c,X.env.cells.lookup x=some c->c≠b)/\∀ p∈X.pn++pins,p.1≠b):Inv X pins σ H' s':=by
 obtain ⟨h',g',d',t',o'⟩:=s'
 have e:o'=s.os:=ho
 subst e
 exact I.call (g':=g') (t':=t') (d':=d') u hok hg hch
end

noncomputable abbrev XK:=Value->Option Addr->Hp->Prop
noncomputable abbrev St:=List (Option V)
noncomputable abbrev VK:=V->Hp->Prop
noncomputable abbrev TE:=St->Hp->VK->Prop
noncomputable abbrev TT:=St->Hp->(Bool->Hp->Prop)->Prop
noncomputable abbrev TA:=St->Hp->(List V->Hp->Prop)->Prop
structure Ends where
 nx:St->Hp->Prop
 rt:VK
 bk:St->Hp->Prop:=fun _ _=>False
 ct:St->Hp->Prop:=fun _ _=>False
noncomputable abbrev TS:=Ends->St->Hp->Prop

noncomputable def EP (X:Cx)(pins:List (Addr×Obj))(σ:St)(Q:VK)(u:Value)(s':Shared):Prop:=∃ v H',Inv X pins σ H' s'/\RelV v u/\Q v H'
noncomputable def TP (X:Cx)(pins:List (Addr×Obj))(σ:St)(Q:Bool->Hp->Prop)(b:Bool)(s':Shared):Prop:=∃ H',Inv X pins σ H' s'/\Q b H'
noncomputable def AP (X:Cx)(pins:List (Addr×Obj))(σ:St)(Q:List V->Hp->Prop)(us:List Value)(s':Shared):Prop:=∃ vs H',Inv X pins σ H' s'/\Vals vs us/\Q vs H'
noncomputable def SP (X:Cx)(pins:List (Addr×Obj))(D:Ends)(f:Flow)(s':Shared):Prop:=
 match f with
 | .next=>∃ σ' H',Inv X pins σ' H' s'/\D.nx σ' H'
 | .brk=>∃ σ' H',Inv X pins σ' H' s'/\D.bk σ' H'
 | .cont=>∃ σ' H',Inv X pins σ' H' s'/\D.ct σ' H'
 | .ret u=>∃ v σ' H',Inv X pins σ' H' s'/\RelV v u/\D.rt v H'

noncomputable def PE (X:Cx)(e:Expr)(t:TE):Prop:=
 ∀ (pins:List (Addr×Obj)) (s:Shared) (σ:St) (H:Hp) (Q:VK),Inv X pins σ H s->t σ H Q->wpAny (model X.prog X.w) X.A (eval e X.env) (EP X pins σ Q) X.xe s
noncomputable def PT (X:Cx)(e:Expr)(t:TT):Prop:=
 ∀ (pins:List (Addr×Obj)) (s:Shared) (σ:St) (H:Hp) (Q:Bool->Hp->Prop),Inv X pins σ H s->t σ H Q->wpAny (model X.prog X.w) X.A (isTrue e X.env (eval e X.env)) (TP X pins σ Q) X.xe s
noncomputable def PW (X:Cx)(e:Expr)(t:TT):Prop:=
 ∀ (whole:Sem Value) (pins:List (Addr×Obj)) (s:Shared) (σ:St) (H:Hp) (Q:Bool->Hp->Prop),Inv X pins σ H s->t σ H Q->wpAny (model X.prog X.w) X.A (isTrue e X.env whole) (TP X pins σ Q) X.xe s
theorem PW.pt {X:Cx}{e:Expr}{t:TT}(h:PW X e t):PT X e t:=h _
noncomputable def PA (X:Cx)(es:List Expr)(t:TA):Prop:=
 ∀ (pos:Pos) (pins:List (Addr×Obj)) (s:Shared) (σ:St) (H:Hp) (Q:List V->Hp->Prop),Inv X pins σ H s->t σ H Q->wpAny (model X.prog X.w) X.A (spliced (backTo pos (starEach es X.env))) (AP X pins σ Q) X.xe s
noncomputable def PS (X:Cx)(st:Stmt)(t:TS):Prop:=
 ∀ (pins:List (Addr×Obj)) (s:Shared) (σ:St) (H:Hp) (D:Ends),Inv X pins σ H s->t D σ H->wpAny (model X.prog X.w) X.A (exec st X.env) (SP X pins D) X.xe s
noncomputable def PSs (X:Cx)(st:List Stmt)(t:TS):Prop:=
 ∀ (pins:List (Addr×Obj)) (s:Shared) (σ:St) (H:Hp) (D:Ends),Inv X pins σ H s->t D σ H->wpAny (model X.prog X.w) X.A (execs st X.env) (SP X pins D) X.xe s
theorem thn {α:Type}{t:Sem α}{Q Q':α->Shared->Prop}{M:Model}{A:Around}{E:Value->Shared->Prop}{s:Shared}(h:wpAny M A t Q E s)(hQ:∀ a s,Q a s->Q' a s):wpAny M A t Q' E s:=wpAny_mono h hQ fun _ _ x=>x
section
variable {X:Cx}

noncomputable def tVar (i:Nat):TE:=fun σ H Q=>∃ v,σ[i]?=some (some v)/\Q v H
noncomputable def tC (v:V):TE:=fun _ H Q=>Q v H
theorem jen {i:Nat}{x:Str}{pos:Pos}(hN:X.N[i]?=some x)(hv:Vis X.env.scope x)(hd:(x == ("__debug__" : Str))=false:=by decide)(hcd:(x == ("__classdict__" : Str))=false:=by decide):PE X (.Name x pos) (tVar i):=by
 intro pins s σ H Q I h
 obtain ⟨v,e,h⟩:=h
 obtain ⟨m,hn,hl⟩:=I.loc
 obtain ⟨u,r,l⟩:=hl i x v hN e hv
 have fin:EP X pins σ Q u s:=⟨v,H,I,r,h⟩
 rcases l with ⟨hk,hm⟩ | ⟨hk,c,hc,hcell⟩
 ·exact wpAny_Name (wpAny_loadName_local I.ok.kind hk hn hm fin) hd
 ·rcases hk with hk | hk
  ·exact wpAny_Name (wpAny_loadName_cell I.ok.kind hk hc hcell fin) hd
  ·exact wpAny_Name (wpAny_loadName_free I.ok.kind hk hc hcell fin hcd) hd
theorem jhd {i j pos}:PE X (.Constant (.int i) j pos) (tC (.int i)):=fun _ _ _ H _ I h=>wpAny_Constant_int ⟨.int i,H,I.tok _,⟨_,rfl⟩,h⟩
theorem jmg {b j pos}:PE X (.Constant (.bool b) j pos) (tC (.bl b)):=fun _ _ _ H _ I h=>Constant_bool ⟨.bl b,H,I,rfl,h⟩
theorem jj2 {j pos}:PE X (.Constant .none j pos) (tC .non):=fun _ _ _ H _ I h=>Constant_none ⟨.non,H,I,rfl,h⟩
theorem jj0 {x j pos}:PE X (.Constant (.str x) j pos) (tC (.str x)):=fun _ _ _ H _ I h=>Calls.Constant_str ⟨.str x,H,I.tok _,⟨_,rfl⟩,h⟩

noncomputable def Gl (X:Cx)(x:Str):Prop:=X.env.kindOf x=some .globalImplicit
theorem jcW {E:Value->Shared->Prop}{pins:List (Addr×Obj)}{s:Shared}{σ:St}{H:Hp}{x:Str}{u:Value}{pos:Pos}{Q:Value->Shared->Prop}(I:Inv X pins σ H s)(hg:Gl X x)(hm:X.mg x=some u)(h:Q u s)
  (hd:(x == ("__debug__" : Str))=false:=by decide):wpAny (model X.prog X.w) X.A (eval (.Name x pos) X.env) Q E s:=
 Calls.Name_function_global I.ok.kind hg (Calls.loadGlobal_global (by rw [I.ok.glob]; exact I.mod.glob.keeps I.bk) hm h) hd
theorem jdn {E:Value->Shared->Prop}{pins:List (Addr×Obj)}{s:Shared}{σ:St}{H:Hp}{x:Str}{u:Value}{pos:Pos}{Q:Value->Shared->Prop}(I:Inv X pins σ H s)(hg:Gl X x)(hm:X.mg x=none)(hv:bootBuiltins x=some u)(h:Q u s)
  (hn:x ≠ "__name__" := by decide) (hd:(x == ("__debug__" : Str))=false:=by decide):wpAny (model X.prog X.w) X.A (eval (.Name x pos) X.env) Q E s:=by
 obtain ⟨mb,h1,h2⟩:=I.mod.blt
 exact Calls.Name_function_global I.ok.kind hg (Calls.loadGlobal_builtin (by rw [I.ok.glob]; exact I.mod.glob.keeps I.bk) hm (by rw [I.ok.blt]; exact h1.keeps I.bk) ((h2 x hn).trans hv) h) hd
theorem jik {x:Str}{v:V}{u:Value}{pos:Pos}(hg:Gl X x)(hm:X.mg x=some u)(r:RelV v u)(hd:(x == ("__debug__" : Str))=false:=by decide):PE X (.Name x pos) (tC v):=
 fun _ _ _ H _ I h=>jcW I hg hm ⟨v,H,I,r,h⟩ hd
theorem jin {x:Str}{v:V}{u:Value}{pos:Pos}(hg:Gl X x)(hm:X.mg x=none)(hv:bootBuiltins x=some u)(r:RelV v u)(hn:x ≠ "__name__" := by decide)(hd:(x == ("__debug__" : Str))=false:=by decide):PE X (.Name x pos) (tC v):=
 fun _ _ _ H _ I h=>jdn I hg hm hv ⟨v,H,I,r,h⟩ hn hd

variable {a b:Expr}{ta tb:TE}{pos:Pos}
noncomputable def tB (t:TE):TT:=fun σ H Q=>t σ H fun x H1=>∃ c,x=.bl c/\Q c H1
variable {tA tB':TT}{rest:List Expr}
noncomputable def tAnd (t u:TT):TT:=fun σ H Q=>t σ H fun c H1=>if c=true then u σ H1 Q else Q false H1
noncomputable def tOr (t u:TT):TT:=fun σ H Q=>t σ H fun c H1=>if c=true then Q true H1 else u σ H1 Q
noncomputable def tNot (t:TT):TT:=fun σ H Q=>t σ H fun c H1=>Q (!c) H1
theorem pw_and1 (ha:PT X a tA):PW X (.BoolOp .And [a] pos) tA:=by
 intro wh pins s σ H Q I h
 refine isTrue_and (thn (ha pins s σ H Q I h) fun c s1 e=>?_)
 cases c with
 | true=>exact isTrue_and_nil e
 | false=>exact e
theorem pw_or1 (ha:PT X a tA):PW X (.BoolOp .Or [a] pos) tA:=by
 intro wh pins s σ H Q I h
 refine isTrue_or (thn (ha pins s σ H Q I h) fun c s1 e=>?_)
 cases c with
 | false=>exact isTrue_or_nil e
 | true=>exact e
theorem pw_and (ha:PT X a tA)(hb:PW X (.BoolOp .And (b::rest) pos) tB'):PW X (.BoolOp .And (a::b::rest) pos) (tAnd tA tB'):=by
 intro wh pins s σ H Q I h
 refine isTrue_and (thn (ha pins s σ H _ I h) fun c s1 ⟨H1,I1,q1⟩=>?_)
 cases c with
 | true=>exact hb wh pins s1 σ H1 Q I1 q1
 | false=>exact ⟨H1,I1,q1⟩
theorem pw_or (ha:PT X a tA)(hb:PW X (.BoolOp .Or (b::rest) pos) tB'):PW X (.BoolOp .Or (a::b::rest) pos) (tOr tA tB'):=by
 intro wh pins s σ H Q I h
 refine isTrue_or (thn (ha pins s σ H _ I h) fun c s1 ⟨H1,I1,q1⟩=>?_)
 cases c with
 | true=>exact ⟨H1,I1,q1⟩
 | false=>exact hb wh pins s1 σ H1 Q I1 q1
theorem jjP (ha:PT X a tA):PT X (.UnaryOp .Not a pos) (tNot tA):=by
 intro pins s σ H Q I h
 exact isTrue_not (ha pins s σ H (fun c H1=>Q (!c) H1) I h)
noncomputable def jnO (ta tb:TE):TE:=fun σ H Q=>ta σ H fun x H1=>∃ c,x=.bl c/\if c=true then tb σ H1 Q else Q (.bl false) H1
noncomputable def tOrV (ta tb:TE):TE:=fun σ H Q=>ta σ H fun x H1=>∃ c,x=.bl c/\if c=true then Q (.bl true) H1 else tb σ H1 Q
noncomputable def jnN (ta:TE):TE:=fun σ H Q=>ta σ H fun x H1=>∃ c,x=.bl c/\Q (.bl (!c)) H1
theorem jhc {op}{t:TE}(h:PE X a t):PE X (.BoolOp op [a] pos) t:=fun pins s σ H Q I hw=>BoolOp_one (h pins s σ H Q I hw)
noncomputable def tIf (t:TT)(ta tb:TE):TE:=fun σ H Q=>t σ H fun c H1=>if c=true then ta σ H1 Q else tb σ H1 Q
theorem jgx {c:Expr}(hc:PT X c tA)(ha:PE X a ta)(hb:PE X b tb):PE X (.IfExp c a b pos) (tIf tA ta tb):=by
 intro pins s σ H Q I h
 refine wpAny_IfExp (thn (hc pins s σ H _ I h) fun d s1 ⟨H1,I1,q1⟩=>?_)
 cases d with
 | true=>exact ha pins s1 σ H1 Q I1 q1
 | false=>exact hb pins s1 σ H1 Q I1 q1
end

noncomputable def SqL (K:PySem.W.Frag)(H:Hp)(a:Addr)(xs:List V):Prop:=
 Rd H a (.lst xs)\/
  ∃ (o:Obj) (its:Array Value) (n:Nat),K.lookup a=some o/\o.cls=.type "list" /\ o.dict=none/\o.data=.seq its n/\its.size<=sizeLine/\Vals xs its.toList
noncomputable def SqT (K:PySem.W.Frag)(H:Hp)(a:Addr)(xs:List V):Prop:=
 Rd H a (.tup xs)\/
  ∃ (o:Obj) (its:Array Value) (n:Nat),K.lookup a=some o/\o.cls=.type "tuple" /\ o.data=.seq its n/\its.size<=sizeLine/\Vals xs its.toList
noncomputable def absV:Value->Option V
 | .none=>some .non
 | .bool b=>some (.bl b)
 | .int i _=>some (.int i)
 | .str x _=>some (.str x)
 | .bytes b _=>some (.byt b)
 | .float b _=>some (.flt b)
 | .ref a=>some (.ref a)
 | .type n=>some (.ty n)
 | _=>none
theorem RelV.abs {x:V}{u:Value}(r:RelV x u):absV u=some x:=by
 cases x with
 | non=>cases r; rfl
 | bl _=>cases r; rfl
 | int _=>obtain ⟨t,rfl⟩:=r; rfl
 | str _=>obtain ⟨t,rfl⟩:=r; rfl
 | byt _=>obtain ⟨t,rfl⟩:=r; rfl
 | flt _=>obtain ⟨t,rfl⟩:=r; rfl
 | ref _=>cases r; rfl
 | ty _=>cases r; rfl
theorem RelV.inj {x y:V}{u:Value}(r:RelV x u)(q:RelV y u):x=y:=Option.some.inj (r.abs.symm.trans q.abs)
theorem Vals.inj:∀ {xs ys:List V} {us:List Value},Vals xs us->Vals ys us->xs=ys
 | _,_,_,.nil,.nil=>rfl
 | _,_,_,.cons r t,.cons r' t'=>by rw [r.inj r',Vals.inj t t']
section
variable {X:Cx}{pins:List (Addr×Obj)}{σ:St}{H:Hp}{s:Shared}{a:Addr}{xs ys:List V}
theorem SqL.of {K:PySem.W.Frag}(h:H a=some (.lst xs)):SqL K H a xs:=.inl (.inl h)
theorem SqT.of {K:PySem.W.Frag}(h:H a=some (.tup xs)):SqT K H a xs:=.inl (.inl h)
theorem Inv.list (I:Inv X pins σ H s)(h:SqL X.K H a xs):∃ its:List Value,Vals xs its/\PlainL s.heap a its.toArray/\xs.length<=sizeLine:=by
 rcases h with h | ⟨o,its,n,hk,hc,hd,hs,hz,r⟩
 ·obtain ⟨z,its,n,r,e⟩:=h.ok I.hok
  exact ⟨its,r,⟨_,n,e,rfl,rfl,rfl⟩,z⟩
 ·refine ⟨its.toList,r,⟨o,n,I.kIn a o hk,hc,hd,by simpa using hs⟩,?_⟩
  have e:=r.length
  simp only [Array.length_toList] at e
  omega
theorem Inv.tuple (I:Inv X pins σ H s)(h:SqT X.K H a xs):∃ its:List Value,Vals xs its/\IsTup s.heap a its.toArray/\xs.length<=sizeLine:=by
 rcases h with h | ⟨o,its,n,hk,hc,hs,hz,r⟩
 ·obtain ⟨z,its,r,p⟩:=h.ok I.hok
  exact ⟨its,r,p.tup,z⟩
 ·refine ⟨its.toList,r,⟨o,I.kIn a o hk,hc,n,by simpa using hs⟩,?_⟩
  have e:=r.length
  simp only [Array.length_toList] at e
  omega
theorem Inv.list_inj (I:Inv X pins σ H s)(h:SqL X.K H a xs)(h':SqL X.K H a ys):xs=ys:=by
 obtain ⟨its,r,⟨o,n,e,_,_,d⟩,_⟩:=I.list h
 obtain ⟨its',r',⟨o',n',e',_,_,d'⟩,_⟩:=I.list h'
 rw [e] at e'; cases e'
 rw [d] at d'
 injection d' with d1 _
 have:its=its':=by simpa using congrArg Array.toList d1
 subst this
 exact r.inj r'
theorem Inv.tuple_inj (I:Inv X pins σ H s)(h:SqT X.K H a xs)(h':SqT X.K H a ys):xs=ys:=by
 obtain ⟨its,r,⟨o,e,_,n,d⟩,_⟩:=I.tuple h
 obtain ⟨its',r',⟨o',e',_,n',d'⟩,_⟩:=I.tuple h'
 rw [e] at e'; cases e'
 rw [d] at d'
 injection d' with d1 _
 have:its=its':=by simpa using congrArg Array.toList d1
 subst this
 exact r.inj r'
end

noncomputable abbrev Cx.wish (X:Cx)(E:Value->Shared->Prop):Cx:={ X with xe:=E }
noncomputable abbrev Cx.nox (X:Cx):Cx:=X.wish fun _ _=>False
theorem Cx.Ok.wish {X:Cx}(ok:X.Ok)(E:Value->Shared->Prop):(X.wish E).Ok:=
 ⟨ok.mod,ok.kind,ok.glob,ok.blt,ok.above,ok.inj,ok.has,ok.cab,ok.hd,ok.frames,ok.stk,ok.exf,ok.bs,ok.bsz,ok.noex,ok.exfs,ok.funs,ok.frf⟩
theorem Cx.Ok.unwish {X:Cx}{E:Value->Shared->Prop}(ok:(X.wish E).Ok):X.Ok:=
 ⟨ok.mod,ok.kind,ok.glob,ok.blt,ok.above,ok.inj,ok.has,ok.cab,ok.hd,ok.frames,ok.stk,ok.exf,ok.bs,ok.bsz,ok.noex,ok.exfs,ok.funs,ok.frf⟩
section
variable {X:Cx}{pins:List (Addr×Obj)}{σ:St}{H:Hp}{s:Shared}{E:Value->Shared->Prop}
theorem Inv.wish (I:Inv X pins σ H s)(E:Value->Shared->Prop):Inv (X.wish E) pins σ H s:=⟨I.ok.wish E,I.os,I.bare,I.base,I.loc,I.cell,I.free,I.freeC,I.pin,I.hok,I.len⟩
theorem Inv.unwish (I:Inv (X.wish E) pins σ H s):Inv X pins σ H s:=⟨I.ok.unwish,I.os,I.bare,I.base,I.loc,I.cell,I.free,I.freeC,I.pin,I.hok,I.len⟩
theorem SP.unwish {D:Ends}{f:Flow}{s':Shared}(h:SP (X.wish E) pins D f s'):SP X pins D f s':=by
 cases f with
 | next=>obtain ⟨σ',H',I,q⟩:=h; exact ⟨σ',H',I.unwish,q⟩
 | brk=>obtain ⟨σ',H',I,q⟩:=h; exact ⟨σ',H',I.unwish,q⟩
 | cont=>obtain ⟨σ',H',I,q⟩:=h; exact ⟨σ',H',I.unwish,q⟩
 | ret u=>obtain ⟨v,σ',H',I,r,q⟩:=h; exact ⟨v,σ',H',I.unwish,r,q⟩
end

section
variable {X:Cx}{st:Stmt}{rest:List Stmt}{t u:TS}{e:Expr}{te:TE}{pos:Pos}
noncomputable def jlV:TS:=fun D σ H=>D.nx σ H
noncomputable def tSeq (t u:TS):TS:=fun D σ H=>t { D with nx:=u D } σ H
theorem jh5:PSs X [] jlV:=fun _ _ σ H _ I h=>wpAny_execs_nil ⟨σ,H,I,h⟩
theorem jgo (h1:PS X st t)(h2:PSs X rest u):PSs X (st::rest) (tSeq t u):=by
 intro pins s σ H D I h
 refine wpAny_execs_cons (thn (h1 pins s σ H { D with nx:=u D } I h) fun f s1 q=>?_)
 cases f with
 | next=>
  obtain ⟨σ',H',I',q⟩:=q
  exact h2 pins s1 σ' H' D I' q
 | ret v=>exact q
 | brk=>exact q
 | cont=>exact q
theorem Inv.quiet {pins:List (Addr×Obj)}{σ:St}{H:Hp}{s:Shared}(I:Inv X pins σ H s):interactive X.env=false:=by simp [interactive,I.ok.kind]
noncomputable def jlW (te:TE):TS:=fun D σ H=>te σ H fun _ H1=>D.nx σ H1
theorem jh6 (he:PE X e te)(hs:swapsWith e none pos.line X.env=pure false:=by rfl):PS X (.Expr e pos) (jlW te):=by
 intro pins s σ H D I h
 exact wpAny_Expr_any (thn (he pins s σ H _ I h) fun v s1 ⟨x,H1,I1,r1,q1⟩=>⟨σ,H1,I1,q1⟩) I.quiet hs
noncomputable def tRet (te:TE):TS:=fun D σ H=>te σ H D.rt
theorem jjQ (he:PE X e te):PS X (.Return (some e) pos) (tRet te):=by
 intro pins s σ H D I h
 exact wpAny_Return_some (thn (he pins s σ H _ I h) fun v s1 ⟨x,H1,I1,r1,q1⟩=>⟨x,σ,H1,I1,r1,q1⟩)
noncomputable def tIfS (c:TT)(t u:TS):TS:=fun D σ H=>c σ H fun b H1=>if b=true then t D σ H1 else u D σ H1
theorem jma {c:Expr}{a b:List Stmt}{tc:TT}(hc:PT X c tc)(ha:PSs X a t)(hb:PSs X b u):PS X (.If c a b pos) (tIfS tc t u):=by
 intro pins s σ H D I h
 refine wpAny_If (thn (hc pins s σ H _ I h) fun d s1 ⟨H1,I1,q1⟩=>?_)
 cases d with
 | true=>exact ha pins s1 σ H1 D I1 q1
 | false=>exact hb pins s1 σ H1 D I1 q1
end

noncomputable abbrev TG:=V->St->Hp->(St->Hp->Prop)->Prop
noncomputable abbrev TGs:=List V->St->Hp->(St->Hp->Prop)->Prop
noncomputable def PG (X:Cx)(target:Expr)(t:TG):Prop:=
 ∀ (pins:List (Addr×Obj)) (s:Shared) (σ:St) (H:Hp) (v:V) (u:Value) (Q:St->Hp->Prop),Inv X pins σ H s->RelV v u->t v σ H Q->
  wpAny (model X.prog X.w) X.A (assign target X.env u) (fun _ s'=>∃ σ' H',Inv X pins σ' H' s'/\Q σ' H') X.xe s
noncomputable def PGs (X:Cx)(ts:List Expr)(t:TGs):Prop:=
 ∀ (pins:List (Addr×Obj)) (s:Shared) (σ:St) (H:Hp) (vs:List V) (us:List Value) (Q:St->Hp->Prop),Inv X pins σ H s->Vals vs us->t vs σ H Q->
  wpAny (model X.prog X.w) X.A (assignInOrder ((assignEach ts X.env).map (·.2)) us) (fun _ s'=>∃ σ' H',Inv X pins σ' H' s'/\Q σ' H') X.xe s
noncomputable abbrev TSet:=V->V->V->Hp->(Hp->Prop)->Prop
noncomputable def PSet (X:Cx)(t:TSet):Prop:=
 ∀ (pins:List (Addr×Obj)) (s:Shared) (σ:St) (H:Hp) (o i v:V) (ov iv u:Value) (Q:Hp->Prop),Inv X pins σ H s->RelV o ov->RelV i iv->RelV v u->t o i v H Q->
  wpAny (model X.prog X.w) X.A (setItem ov iv u) (fun _ s'=>∃ H',Inv X pins σ H' s'/\Q H') X.xe s
section
variable {X:Cx}{pos:Pos}
noncomputable def jgM (i:Nat):TG:=fun v σ H Q=>Q (σ.set i (some v)) H
theorem jii {i:Nat}{x:Str}(hN:X.N.Nodup)(hi:X.N[i]?=some x)(hx:Loc X.env.scope x)(hf:X.fn x=true\/X.env.scope.names.lookup x=some .local:=by first | exact .inl rfl | exact .inr rfl | assumption):PG X (.Name x pos) (jgM i):=by
 intro pins s σ H v u Q I r h
 exact wpAny_assign_Name (jcL I hN hi hx r (fun s' I'=>⟨_,H,I',h⟩) hf)
noncomputable def gNil:TGs:=fun vs σ H Q=>vs=[]/\Q σ H
noncomputable def jmy (t:TG)(u:TGs):TGs:=fun vs σ H Q=>∃ v r,vs=v::r/\t v σ H fun σ' H'=>u r σ' H' Q
theorem jih:PGs X [] gNil:=by
 intro pins s σ H vs us Q I r h
 obtain ⟨e,h⟩:=h
 subst e
 cases r
 exact assignInOrder_nil ⟨σ,H,I,h⟩
theorem jgv {e:Expr}{es:List Expr}{t:TG}{u:TGs}(h1:PG X e t)(h2:PGs X es u)
  (hs:(assignEach (e::es) X.env).map (·.2)=assign e X.env::(assignEach es X.env).map (·.2):=by rfl):PGs X (e::es) (jmy t u):=by
 intro pins s σ H vs us Q I r h
 obtain ⟨v,vr,e1,h⟩:=h
 subst e1
 cases r with
 | cons r rr=>
  rw [hs]
  refine assignInOrder_cons (thn (h1 pins s σ H _ _ _ I r h) fun _ s1 ⟨σ1,H1,I1,q1⟩=>?_)
  exact h2 pins s1 σ1 H1 _ _ Q I1 rr q1
noncomputable def gTup (K:PySem.W.Frag)(n:Nat)(t:TGs):TG:=fun v σ H Q=>∃ a xs,v=.ref a/\SqT K H a xs/\xs.length=n/\t xs σ H Q
theorem jjW {es:List Expr}{k:Nat}{t:TGs}{n:Nat}(hc:X.calm=true)(h:PGs X es t)
  (hn:(assignEach es X.env).length=n:=by rfl) (hst:(assignEach es X.env).findIdx? (·.1)=none:=by rfl):PG X (.Tuple es k pos) (gTup X.K n t):=by
 intro pins s σ H v u Q I r hw
 obtain ⟨a,xs,e1,hq,hl,hw⟩:=hw
 subst e1
 cases r
 obtain ⟨its,rv,ht,hz⟩:=I.tuple hq
 refine assign_Tuple_tuple (I.ok.hd hc) ht (by simp [hn,<- hl,rv.length]) hst fun h' hx=>?_
 have I1:Inv X pins σ H { s with heap:=h' }:=I.kept (t':=s.toks) fun b o e=>hx b o (Nat.ne_of_lt (Heap.lt_size e)) e
 exact h pins _ σ H xs _ Q I1 (by simpa using rv) hw
noncomputable def gSub (to ti:TE)(t:TSet):TG:=fun v σ H Q=>to σ H fun o H1=>ti σ H1 fun i H2=>t o i v H2 fun H3=>Q σ H3
theorem jjX {o i:Expr}{to ti:TE}{t:TSet}(ho:PE X o to)(hi:PE X i ti)(hs:PSet X t)
  (ha:∀ v,assign (.Subscript o i pos) X.env v=(do
   let ov <- holding [v] (eval o X.env)
   let iv <- holding [v,ov] (eval i X.env)
   standAt pos
   holding [v,ov,iv] (setItem ov iv v)
   release [v,ov,iv] []):=by intro _; rfl):PG X (.Subscript o i pos) (gSub to ti t):=by
 intro pins s σ H v u Q I r h
 rw [ha]
 refine wpAny_bind (wpAny_holding (thn (ho pins s σ H _ I h) fun ov s1 ⟨x,H1,I1,r1,q1⟩=>?_))
 refine wpAny_bind (wpAny_holding (thn (hi pins s1 σ H1 _ I1 q1) fun iv s2 ⟨y,H2,I2,r2,q2⟩=>?_))
 refine wpAny_bind (wpAny_standAt (wpAny_bind (wpAny_holding (thn (hs pins s2 σ H2 x y v ov iv u _ I2 r1 r2 r q2) fun _ s3 ⟨H3,I3,q3⟩=>?_))))
 exact wpAny_release ⟨σ,H3,I3,q3⟩
noncomputable def tAsg (te:TE)(g:TG):TS:=fun D σ H=>te σ H fun x H1=>g x σ H1 D.nx
theorem jff {tg e:Expr}{te:TE}{g:TG}(he:PE X e te)(hg:PG X tg g)(hs:swapsWithSole [tg] e pos.line X.env=pure false:=by rfl)(hw:swappedStores [tg] e X.env=pure none:=by rfl)
  (h1:(assignEach [tg] X.env).map (·.2)=[assign tg X.env]:=by rfl):PS X (.Assign [tg] e pos) (tAsg te g):=by
 intro pins s σ H D I h
 refine wpAny_Assign_stores (thn (he pins s σ H _ I h) fun v s1 ⟨x,H1,I1,r1,q1⟩=>?_) hs hw
 rw [h1]
 exact thn (hg pins s1 σ H1 x v _ I1 r1 q1) fun _ s2 q=>q
noncomputable def PGet (X:Cx)(t:V->V->Hp->VK->Prop):Prop:=
 ∀ (pins:List (Addr×Obj)) (s:Shared) (σ:St) (H:Hp) (o i:V) (ov iv:Value) (Q:VK),Inv X pins σ H s->RelV o ov->RelV i iv->t o i H Q->
  wpAny (model X.prog X.w) X.A (getItem ov iv) (EP X pins σ Q) X.xe s
end

section
variable {X:Cx}{pos:Pos}
end

structure It where
 go:Nat->Hp->Prop
 yld:Nat->Hp->V->Hp->Prop
 stop:Nat->Hp->Prop
noncomputable def FpOk (X:Cx)(pins:List (Addr×Obj))(H:Hp)(b:Addr):Prop:=
 H b=none/\b≠X.env.locals/\b∉X.fs/\(b∈X.ex\/X.s₀.heap.objs.size<=b)/\(∀ x c,X.env.cells.lookup x=some c->c≠b)/\∀ p∈X.pn++pins,p.1≠b
theorem Inv.fpOk {X:Cx}{pins:List (Addr×Obj)}{σ:St}{H H':Hp}{s:Shared}{b:Addr}(I:Inv X pins σ H s)(hb:s.heap.objs.size<=b)(hn:H' b=none):FpOk X pins H' b:=by
 refine ⟨hn,Nat.ne_of_gt (Nat.lt_of_lt_of_le I.lt hb),I.nofs hb,.inr (Nat.le_trans I.sz hb),fun x c e z=>?_,fun p hp z=>?_⟩
 ·obtain ⟨v,q⟩:=I.cell x c e
  exact absurd (Nat.lt_of_lt_of_le q.lt (by rw [z]; exact hb)) (Nat.lt_irrefl _)
 ·exact absurd (Nat.lt_of_lt_of_le (Heap.lt_size (I.pin p hp).1) (by rw [z]; exact hb)) (Nat.lt_irrefl _)
structure Turn (P:Program)(w:World)(K:PySem.W.Frag)(tg:Expr)(J:It)(fp:List Addr)(it:Addr)(tn:Nat->Heap->Prop):Prop where
 mem:it∈fp
 obj:∀ i h,tn i h->∀ b∈fp,∃ o,h.get? b=some o/\∀ v,o.data≠.cell v
 keep:∀ i h h',tn i h->(∀ b∈fp,∀ o,h.get? b=some o->h'.get? b=some o)->tn i h'
 item:∀ (X:Cx),X.prog=P->X.w=w->X.K=K->X.calm=true->∀ (i:Nat) (pins:List (Addr×Obj)) (s:Shared) (σ:St) (H:Hp) (E:Value->Shared->Prop),Inv X pins σ H s->(∀ b∈fp,FpOk X pins H b)->tn i s.heap->J.go i H->
  wpAny (model P w) X.A (pyNext (.ref it)) (fun r s1=>∃ u,r=some u/\
   wpAny (model P w) X.A (letOwnedTupleGo tg (.ref it) u) (fun _ s2=>∃ x H',Inv X pins σ H' s2/\RelV x u/\J.yld i H x H'/\tn (i + 1) s2.heap/\∀ b∈fp,H' b=none) E s1) E s
 done:∀ (X:Cx),X.prog=P->X.w=w->X.K=K->X.calm=true->∀ (i:Nat) (pins:List (Addr×Obj)) (s:Shared) (σ:St) (H:Hp) (E:Value->Shared->Prop),Inv X pins σ H s->(∀ b∈fp,FpOk X pins H b)->tn i s.heap->J.stop i H->
  wpAny (model P w) X.A (pyNext (.ref it)) (fun r s1=>r=none/\Inv X pins σ H s1) E s
 self:∀ (A:Around) (i:Nat) (s:Shared) (Q:Value->Shared->Prop) (E:Value->Shared->Prop),tn i s.heap->Q (.ref it) s->wpAny (model P w) A (pyIter (.ref it)) Q E s
noncomputable abbrev TI:=St->Hp->(It->Hp->Prop)->Prop
noncomputable def PIE (X:Cx)(pins:List (Addr×Obj))(σ:St)(tg:Expr)(R:It->Hp->Prop)(itv:Value)(s2:Shared):Prop:=
 ∃ (it:Addr) (fp:List Addr) (tn:Nat->Heap->Prop) (J:It) (H':Hp),itv=.ref it/\Inv X pins σ H' s2/\Turn X.prog X.w X.K tg J fp it tn/\tn 0 s2.heap/\(∀ b∈fp,FpOk X pins H' b)/\R J H'
noncomputable def PI (X:Cx)(tg iter:Expr)(wi:TI):Prop:=
 ∀ (pins:List (Addr×Obj)) (s:Shared) (σ:St) (H:Hp) (R:It->Hp->Prop),Inv X pins σ H s->wi σ H R->
  wpAny (model X.prog X.w) X.A (eval iter X.env) (fun v s1=>wpAny (model X.prog X.w) X.A (pyIter v) (PIE X pins σ tg R) X.xe s1) X.xe s

theorem jgL {M : Model}{A : Around}{E : Value -> Shared -> Prop}{s : Shared}{tg : Expr}{it : Addr}{u : Value}{o : Obj}{n : String}{vs : Array Value}{Q : Unit -> Shared -> Prop}(ho : s.heap.get? it = some o)(hc : o.cls = .type n)(hd : o.data = .fields vs)
    (hn : ["enumerate", "zip", "dict_itemiterator", "dict_reverseitemiterator", "odict_iterator", "itertools.zip_longest", "itertools.pairwise"].contains n = false) (hQ : Q () s) : wpAny M A (letOwnedTupleGo tg (.ref it) u) Q E s := by
  unfold letOwnedTupleGo
  cases tg <;> first
    | exact wpAny_pure hQ
    | (cases u <;> first
        | exact wpAny_pure hQ
        | (refine wpAny_bind (wpAny_load ho ?_)
           rw [hc, hd]
           show wpAny M A (if (["enumerate", "zip", "dict_itemiterator", "dict_reverseitemiterator", "odict_iterator", "itertools.zip_longest", "itertools.pairwise"].contains n && vs[0]? == some (rawInt _)) = true then _ else _) Q E s
           rw [if_neg (by intro h; rw [hn, Bool.false_and] at h; cases h)]
           exact wpAny_pure hQ))

noncomputable def Itl (K:PySem.W.Frag)(a:Addr):It:=
 ⟨fun i H=>∃ xs x,SqL K H a xs/\xs[i]?=some x,fun i H x H'=>H'=H/\∀ xs,SqL K H a xs->xs[i]?=some x,fun i H=>∃ xs,SqL K H a xs/\xs.length<=i⟩
noncomputable def Itt (K:PySem.W.Frag)(a:Addr):It:=
 ⟨fun i H=>∃ xs x,SqT K H a xs/\xs[i]?=some x,fun i H x H'=>H'=H/\∀ xs,SqT K H a xs->xs[i]?=some x,fun i H=>∃ xs,SqT K H a xs/\xs.length<=i⟩
noncomputable def Itr (lo:Int)(n:Nat):It:=⟨fun i _=>i < n,fun i H x H'=>H'=H/\x=.int (lo + i),fun i _=>n<=i⟩
theorem je4 {P:Program}{w:World}{K:PySem.W.Frag}{tg:Expr}(a it:Addr):Turn P w K tg (Itl K a) [it] it (fun i h=>h.IsListIter it a i) where
 mem:=by simp
 obj:=fun i h st b hb=>by
  have e:b=it:=by simpa using hb
  subst e
  obtain ⟨o,e,c,d⟩:=st
  exact ⟨o,e,fun v z=>by rw [d] at z; cases z⟩
 keep:=fun i h h' st k=>st.at fun o e=>k it (by simp) o e
 item:=by
  intro X hP hw hK hc i pins s σ H E I hf st hg
  subst hP hw hK
  obtain ⟨xs,x,hq,hx⟩:=hg
  obtain ⟨its,rv,p,hz⟩:=I.list hq
  obtain ⟨u,hu,ru⟩:=rv.get hx
  obtain ⟨f0,f1,f2,f3,f4,f5⟩:=hf it (by simp)
  refine wpAny_pyNext_list_item st p.isList (x:=u) (by simpa using hu) fun h' st' sb=>?_
  have I1:Inv X pins σ H { s with heap:=h' }:=I.turned (t':=s.toks) (fun b o hb e=>(sb.2 b hb).trans e) f0 f1 f3 f4 f5
  obtain ⟨o,e,c,d⟩:=id st'
  exact ⟨u,rfl,jgL (s:={ s with heap:=h' }) e c d (by decide) ⟨x,H,I1,ru,⟨rfl,fun ys hy=>by rw [I.list_inj hy hq]; exact hx⟩,st',fun b hb=>(hf b hb).1⟩⟩
 done:=by
  intro X hP hw hK hc i pins s σ H E I hf st hg
  subst hP hw hK
  obtain ⟨xs,hq,hx⟩:=hg
  obtain ⟨its,rv,p,hz⟩:=I.list hq
  obtain ⟨f0,f1,f2,f3,f4,f5⟩:=hf it (by simp)
  have hl:=rv.length
  exact wpAny_pyNext_list_end (I.ok.hd hc) st p.isList (by simp; omega) fun h' eb=>⟨rfl,I.turned (t':=s.toks) (fun b o hb e=>eb b o hb e) f0 f1 f3 f4 f5⟩
 self:=fun _ _ _ _ _ st h=>wpAny_pyIter_listiter st h
theorem jeD {P:Program}{w:World}{K:PySem.W.Frag}{tg:Expr}(a it:Addr):Turn P w K tg (Itt K a) [it] it (fun i h=>h.IsTupleIter it a i) where
 mem:=by simp
 obj:=fun i h st b hb=>by
  have e:b=it:=by simpa using hb
  subst e
  obtain ⟨o,e,c,d⟩:=st
  exact ⟨o,e,fun v z=>by rw [d] at z; cases z⟩
 keep:=fun i h h' st k=>st.at fun o e=>k it (by simp) o e
 item:=by
  intro X hP hw hK hc i pins s σ H E I hf st hg
  subst hP hw hK
  obtain ⟨xs,x,hq,hx⟩:=hg
  obtain ⟨its,rv,p,hz⟩:=I.tuple hq
  obtain ⟨u,hu,ru⟩:=rv.get hx
  obtain ⟨f0,f1,f2,f3,f4,f5⟩:=hf it (by simp)
  refine wpAny_pyNext_tuple_item st (show s.heap.IsTuple a its.toArray from p) (x:=u) (by simpa using hu) fun h' st' sb=>?_
  have I1:Inv X pins σ H { s with heap:=h' }:=I.turned (t':=s.toks) (fun b o hb e=>(sb.2 b hb).trans e) f0 f1 f3 f4 f5
  obtain ⟨o,e,c,d⟩:=id st'
  exact ⟨u,rfl,jgL (s:={ s with heap:=h' }) e c d (by decide) ⟨x,H,I1,ru,⟨rfl,fun ys hy=>by rw [I.tuple_inj hy hq]; exact hx⟩,st',fun b hb=>(hf b hb).1⟩⟩
 done:=by
  intro X hP hw hK hc i pins s σ H E I hf st hg
  subst hP hw hK
  obtain ⟨xs,hq,hx⟩:=hg
  obtain ⟨its,rv,p,hz⟩:=I.tuple hq
  obtain ⟨f0,f1,f2,f3,f4,f5⟩:=hf it (by simp)
  have hl:=rv.length
  exact wpAny_pyNext_tuple_end (I.ok.hd hc) st (show s.heap.IsTuple a its.toArray from p) (by simp; omega) fun h' eb=>⟨rfl,I.turned (t':=s.toks) (fun b o hb e=>eb b o hb e) f0 f1 f3 f4 f5⟩
 self:=fun _ _ _ _ _ st h=>wpAny_pyIter_tupleiter st h
theorem jeE {P:Program}{w:World}{K:PySem.W.Frag}{tg:Expr}(it:Addr)(lo:Int)(n:Nat):Turn P w K tg (Itr lo n) [it] it (fun i h=>IsRangeIter h it (lo + (i:Nat) * 1) ((n:Int) - (i:Nat)) 1) where
 mem:=by simp
 obj:=fun i h st b hb=>by
  have e:b=it:=by simpa using hb
  subst e
  exact ⟨_,st,fun v z=>by
   have z':Data.fields _=Data.cell v:=z
   cases z'⟩
 keep:=fun i h h' st k=>k it (by simp) _ st
 item:=by
  intro X hP hw hK hc i pins s σ H E I hf st hg
  subst hP hw hK
  obtain ⟨f0,f1,f2,f3,f4,f5⟩:=hf it (by simp)
  have W:=Walks.range (prog:=X.prog) (w:=X.w) (I.ok.hd hc) it lo 1 n
  refine W.item i s _ _ hg st fun v h' tk hv st' kk=>?_
  obtain ⟨t,rfl⟩:=hv
  have I1:Inv X pins σ H { s with heap:=h',toks:=tk }:=I.turned (fun b o hb e=>kk b o (by simpa using hb) e) f0 f1 f3 f4 f5
  refine ⟨_,rfl,jgL (s:={ s with heap:=h',toks:=tk }) (n := "range_iterator") st' rfl rfl (by decide) ⟨.int (lo + i),H,I1,⟨t,?_⟩,⟨rfl,rfl⟩,st',fun b hb=>(hf b hb).1⟩⟩
  rw [Int.mul_one]
 done:=by
  intro X hP hw hK hc i pins s σ H E I hf st hg
  subst hP hw hK
  obtain ⟨f0,f1,f2,f3,f4,f5⟩:=hf it (by simp)
  exact wpAny_pyNext_range_end (I.ok.hd hc) st (by have:n<=i:=hg; omega) fun h' eb=>⟨rfl,I.turned (t':=s.toks) (fun b o hb e=>eb b o hb e) f0 f1 f3 f4 f5⟩
 self:=fun _ _ _ _ _ st h=>wpAny_pyIter_rangeiter st h
section
variable {X:Cx}{tg:Expr}
theorem jek {pins:List (Addr×Obj)}{σ:St}{H:Hp}{s:Shared}{R:It->Hp->Prop}{E:Value->Shared->Prop}{lo hi:Int}{t u v:Tok}{tk:Nat}(I:Inv X pins σ H s)(h1:-(2 ^ 62)<=lo)(h2:lo < 2 ^ 62)(h3:-(2 ^ 62)<=hi)(h4:hi < 2 ^ 62)
  (q:R (Itr lo (hi - lo).toNat) H):wpAny (model X.prog X.w) X.A (pyIter (.ref s.heap.objs.size)) (PIE X pins σ tg R) E { s with heap:=s.heap.push { cls:=.type "range",data:=.fields #[.int lo t,.int hi u,.int 1 v] },toks:=tk }:=by
 refine wpAny_pyIter_range (IsRange.new ..) (small_one h1 h2 h3 h4) ?_
 have I1:Inv X pins σ H { s with heap:=s.heap.push { cls:=.type "range",data:=.fields #[.int lo t,.int hi u,.int 1 v] },toks:=tk }:=I.kept fun b o e=>Heap.get?_push_of_some _ e
 refine ⟨(s.heap.push { cls:=.type "range",data:=.fields #[.int lo t,.int hi u,.int 1 v] }).objs.size,[(s.heap.push { cls:=.type "range",data:=.fields #[.int lo t,.int hi u,.int 1 v] }).objs.size],_,_,H,rfl,
  I1.kept (t':=tk) fun b o e=>Heap.get?_push_of_some _ e,jeE _ lo (hi - lo).toNat,?_,fun b hb=>?_,q⟩
 ·have e1:lo + ((0:Nat):Int) * 1=lo:=by simp
  have e2:(((hi - lo).toNat:Nat):Int) - ((0:Nat):Int)=Builtin.Range.rangeSize lo hi 1:=by rw [rangeSize_one]; split <;> omega
  show IsRangeIter _ _ (lo + ((0:Nat):Int) * 1) ((((hi - lo).toNat:Nat):Int) - ((0:Nat):Int)) 1
  rw [e1,e2]
  exact Heap.get?_push_size _ rfl
 ·have e:b=(s.heap.push { cls:=.type "range",data:=.fields #[.int lo t,.int hi u,.int 1 v] }).objs.size:=by simpa using hb
  subst e
  exact I1.fpOk (Nat.le_refl _) (I1.hok.fresh (Nat.le_refl _))
noncomputable def jmv (ta:TA):TI:=fun σ H R=>ta σ H fun vs H1=>∃ j:Int,vs=[.int j]/\-(2 ^ 62)<=j/\j < 2 ^ 62/\R (Itr 0 j.toNat) H1
noncomputable def jmu (ta:TA):TI:=fun σ H R=>ta σ H fun vs H1=>∃ i j:Int,vs=[.int i,.int j]/\(-(2 ^ 62)<=i/\i < 2 ^ 62/\-(2 ^ 62)<=j/\j < 2 ^ 62)/\R (Itr i (j - i).toNat) H1
theorem jfj {a:Expr}{ta:TA}{p pos:Pos}(hg:Gl X "range")(hm:X.mg "range" = none)(ha:PA X [a] ta)(hs:starEach [a] X.env=[(false,eval a X.env)]:=by rfl):PI X tg (.Call (.Name "range" p) [a] [] pos) (jmv ta):=by
 intro pins s σ H R I h
 refine Call_ (jdn I hg hm boot_range (PyProof.Rows.callWith_type1 (thn (ha pos pins s σ H _ I h) fun us s1 ⟨vs,H1,I1,r1,q1⟩=>?_) hs rfl))
 obtain ⟨j,e,q1,q2,q⟩:=q1
 subst e
 cases r1 with
 | cons r rr=>
  cases rr
  obtain ⟨t,rfl⟩:=r
  exact call_range_1 (jek I1 (by omega) (by omega) q1 q2 (by simpa using q))
theorem jfi {a b:Expr}{ta:TA}{p pos:Pos}(hg:Gl X "range")(hm:X.mg "range" = none)(ha:PA X [a,b] ta)(hs:starEach [a,b] X.env=[(false,eval a X.env),(false,eval b X.env)]:=by rfl)(hs2:starEach [b] X.env=[(false,eval b X.env)]:=by rfl) :
  PI X tg (.Call (.Name "range" p) [a,b] [] pos) (jmu ta):=by
 intro pins s σ H R I h
 refine Call_ (jdn I hg hm boot_range (PyProof.Rows.callWith_type1 (thn (ha pos pins s σ H _ I h) fun us s1 ⟨vs,H1,I1,r1,q1⟩=>?_) (by rw [hs,hs2]) (by rw [hs2]; rfl)))
 obtain ⟨i,j,e,⟨q1,q2,q3,q4⟩,q⟩:=q1
 subst e
 cases r1 with
 | cons r rr=>
  cases rr with
  | cons r' rr=>
   cases rr
   obtain ⟨t,rfl⟩:=r
   obtain ⟨t',rfl⟩:=r'
   exact call_range_2 (jek I1 q1 q2 q3 q4 q)

noncomputable def tFor (wi:TI)(g:TG)(tb:TS):TS:=fun D σ H=>wi σ H fun J H1=>∃ W:Nat->Nat->St->Hp->Prop,(∃ m,W 0 m σ H1)/\∀ i m σ H,W i m σ H->
 (J.stop i H/\D.nx σ H)\/(J.go i H/\∃ N:St->Hp->Prop,(∀ σ' H',N σ' H'->∃ m',m' < m/\W (i + 1) m' σ' H')/\∀ x H',J.yld i H x H'->g x σ H' fun σ2 H2=>tb { D with nx:=N,ct:=N,bk:=D.nx } σ2 H2)
noncomputable def jdc (fp:List Addr)(h:Heap):List (Addr×Obj):=fp.filterMap fun b=>(h.get? b).map fun o=>(b,o)
theorem ja4 {fp:List Addr}{h:Heap}{b:Addr}{o:Obj}(hb:b∈fp)(e:h.get? b=some o):(b,o)∈jdc fp h:=List.mem_filterMap.mpr ⟨b,hb,by rw [e]; rfl⟩
theorem jfs {fp:List Addr}{h:Heap}{p:Addr×Obj}(hp:p∈jdc fp h):p.1∈fp/\h.get? p.1=some p.2:=by
 obtain ⟨b,hb,e⟩:=List.mem_filterMap.mp hp
 cases q:h.get? b with
 | none=>rw [q] at e; cases e
 | some o=>
  rw [q] at e
  have e':(b,o)=p:=Option.some.inj e
  subst e'
  exact ⟨hb,q⟩
theorem Inv.pinned {pins:List (Addr×Obj)}{σ:St}{H:Hp}{s:Shared}{fp:List Addr}(I:Inv X pins σ H s)(hf:∀ b∈fp,FpOk X pins H b)(ho:∀ b∈fp,∃ o,s.heap.get? b=some o/\∀ v,o.data≠.cell v):Inv X (pins++jdc fp s.heap) σ H s:=
 I.pins_of fun p hp=>(List.mem_append.mp hp).elim (fun z=>I.pin p (List.mem_append_right _ z)) fun z=>by
  obtain ⟨hb,e⟩:=jfs z
  obtain ⟨f0,f1,f2,_⟩:=hf p.1 hb
  obtain ⟨o,e',d⟩:=ho p.1 hb
  rw [e] at e'; cases e'
  exact ⟨e,f0,f1,f2,d⟩
theorem Inv.unpinned {pins pl:List (Addr×Obj)}{σ:St}{H:Hp}{s:Shared}(I:Inv X (pins++pl) σ H s):Inv X pins σ H s:=I.pins_of fun p hp=>I.pin p (List.mem_append_right _ (List.mem_append_left _ hp))
theorem jjS {iter:Expr}{body:List Stmt}{wi:TI}{g:TG}{tb:TS}{pos:Pos}(hp:PassesOwn (model X.prog X.w) X.A X.env X.xe)(hc:X.calm=true)(hi:PI X tg iter wi)(hg:PG X tg g)(hb:PSs X body tb)
  (hs:∀ x,foldedSetIterable iter X.env x=pure x:=by intro _; rfl):PS X (.For tg iter body [] pos) (tFor wi g tb):=by
 intro pins s σ H D I h
 refine wpAny_For (thn (hi pins s σ H _ I h) fun v s1 h1=>thn h1 fun itv s2 h2=>?_) hs
 obtain ⟨it,fp,tn,J,H2,e,I2,T,st2,f2,W,⟨m0,w0⟩,turn⟩:=h2
 subst e
 have stat:∀ {H':Hp},(∀ b∈fp,H' b=none)->∀ b∈fp,FpOk X pins H' b:=fun hn b hb=>⟨hn b hb,(f2 b hb).2⟩
 refine codeAny_forLoop_any (fun n s'=>∃ i σ' H',Inv X pins σ' H' s'/\tn i s'.heap/\(∀ b∈fp,H' b=none)/\W i n σ' H') ?_ m0 ⟨0,σ,H2,I2,st2,fun b hb=>(f2 b hb).1,w0⟩
 rintro n s3 ⟨i,σ3,H3,I3,st3,fr3,w3⟩
 rcases turn i n σ3 H3 w3 with ⟨stop,qn⟩ | ⟨go,N,hN,step⟩
 ·refine wpAny_passesOwn hp (thn (T.done X rfl rfl rfl hc i pins s3 σ3 H3 X.xe I3 (stat fr3) st3 stop) fun r s4 ⟨hr,I4⟩=>?_)
  subst hr
  exact wpAny_execs_nil ⟨σ3,H3,I4,qn⟩
 ·refine wpAny_passesOwn hp (thn (T.item X rfl rfl rfl hc i pins s3 σ3 H3 X.xe I3 (stat fr3) st3 go) fun r s4 ⟨u,hr,h4⟩=>?_)
  subst hr
  refine wpAny_passesOwn hp (thn h4 fun _ s5 ⟨x,H5,I5,r5,y5,st5,fr5⟩=>?_)
  have I5':=I5.pinned (stat fr5) (T.obj _ _ st5)
  refine wpAny_passesOwn hp (thn (hg _ s5 σ3 H5 x u _ I5' r5 (step x H5 y5)) fun _ s6 ⟨σ6,H6,I6,q6⟩=>?_)
  refine wpAny_passesOwn hp (thn (hb _ s6 σ6 H6 _ I6 q6) fun f s7 q7=>?_)
  have again:∀ {σ7:St} {H7:Hp},Inv X (pins++jdc fp s5.heap) σ7 H7 s7->N σ7 H7->∃ m,m < n/\∃ i σ' H',Inv X pins σ' H' s7/\tn i s7.heap/\(∀ b∈fp,H' b=none)/\W i m σ' H':=fun {σ7 H7} I7 n7=>by
   obtain ⟨m',hm,w7⟩:=hN σ7 H7 n7
   refine ⟨m',hm,i + 1,σ7,H7,I7.unpinned,T.keep _ _ _ st5 fun b hb o e=>(I7.pin (b,o) (List.mem_append_right _ (List.mem_append_right _ (ja4 hb e)))).1,fun b hb=>?_,w7⟩
   obtain ⟨o,e,d⟩:=T.obj _ _ st5 b hb
   exact (I7.pin (b,o) (List.mem_append_right _ (List.mem_append_right _ (ja4 hb e)))).2.1
  cases f with
  | next=>obtain ⟨σ7,H7,I7,n7⟩:=q7; exact again I7 n7
  | cont=>obtain ⟨σ7,H7,I7,n7⟩:=q7; exact again I7 n7
  | brk=>obtain ⟨σ7,H7,I7,q7⟩:=q7; exact ⟨σ7,H7,I7.unpinned,q7⟩
  | ret v=>obtain ⟨x7,σ7,H7,I7,r7,q7⟩:=q7; exact ⟨x7,σ7,H7,I7.unpinned,r7,q7⟩
end


noncomputable abbrev R2:=V->V->Hp->VK->Prop
noncomputable def OpR (X:Cx)(f:Value->Value->Sem Value)(r:R2):Prop:=
 ∀ (pins:List (Addr×Obj)) (s:Shared) (σ:St) (H:Hp) (x y:V) (v u:Value) (Q:VK),Inv X pins σ H s->RelV x v->RelV y u->r x y H Q->
  wpAny (model X.prog X.w) X.A (f v u) (EP X pins σ Q) X.xe s
noncomputable def UnR (X:Cx)(f:Value->Sem Value)(r:V->Hp->VK->Prop):Prop:=
 ∀ (pins:List (Addr×Obj)) (s:Shared) (σ:St) (H:Hp) (x:V) (v:Value) (Q:VK),Inv X pins σ H s->RelV x v->r x H Q->
  wpAny (model X.prog X.w) X.A (f v) (EP X pins σ Q) X.xe s
noncomputable def jaN (X:Cx)(f:Value)(r:List V->Hp->VK->Prop):Prop:=
 ∀ (pins:List (Addr×Obj)) (s:Shared) (σ:St) (H:Hp) (xs:List V) (us:List Value) (Q:VK),Inv X pins σ H s->Vals xs us->r xs H Q->
  wpAny (model X.prog X.w) X.A (call f us) (EP X pins σ Q) X.xe s
noncomputable def TruR (X:Cx)(r:V->Hp->(Bool->Hp->Prop)->Prop):Prop:=
 ∀ (pins:List (Addr×Obj)) (s:Shared) (σ:St) (H:Hp) (x:V) (v:Value) (Q:Bool->Hp->Prop),Inv X pins σ H s->RelV x v->r x H Q->
  wpAny (model X.prog X.w) X.A (truthy v) (TP X pins σ Q) X.xe s

noncomputable def tOp (r:R2)(ta tb:TE):TE:=fun σ H Q=>ta σ H fun x H1=>tb σ H1 fun y H2=>r x y H2 Q
noncomputable def tUn (r:V->Hp->VK->Prop)(ta:TE):TE:=fun σ H Q=>ta σ H fun x H1=>r x H1 Q
noncomputable def rI (C:Int->Int->Prop)(g:Int->Int->V):R2:=fun x y H Q=>∃ i j,x=.int i/\y=.int j/\C i j/\Q (g i j) H
noncomputable def rI0 (g:Int->Int->V):R2:=fun x y H Q=>∃ i j,x=.int i/\y=.int j/\Q (g i j) H
noncomputable def rU (g:Int->V):V->Hp->VK->Prop:=fun x H Q=>∃ i,x=.int i/\Q (g i) H

section
variable {X:Cx}{a b c:Expr}{ta tb tc:TE}{pos:Pos}

theorem binT (ha:PE X a ta)(hb:PE X b tb){pins:List (Addr×Obj)}{s:Shared}{σ:St}{H:Hp}{R:V->V->Hp->Prop}(I:Inv X pins σ H s)
  (h:ta σ H fun x H1=>tb σ H1 fun y H2=>R x y H2) {Q:Value->Shared->Prop} {f:Value->Value->Sem Value}
  (hf:∀ v u s2 x y H2,Inv X pins σ H2 s2->RelV x v->RelV y u->R x y H2->wpAny (model X.prog X.w) X.A (f v u) Q X.xe s2) :
  wpAny (model X.prog X.w) X.A (eval a X.env) (fun v s₁=>wpAny (model X.prog X.w) X.A (eval b X.env) (fun u s₂=>wpAny (model X.prog X.w) X.A (f v u) Q X.xe s₂) X.xe s₁) X.xe s:=by
 refine thn (ha pins s σ H _ I h) fun v s1 ⟨x,H1,I1,r1,q1⟩=>?_
 refine thn (hb pins s1 σ H1 _ I1 q1) fun u s2 ⟨y,H2,I2,r2,q2⟩=>?_
 exact hf v u s2 x y H2 I2 r1 r2 q2

theorem jmd {op:Operator}{r:R2}(ho:OpR X (binaryOp op) r)(ha:PE X a ta)(hb:PE X b tb):PE X (.BinOp a op b pos) (tOp r ta tb):=by
 intro pins s σ H Q I h
 exact wpAny_BinOp (binT ha hb I h fun v u s2 x y H2 I2 rx ry q=>ho pins s2 σ H2 x y v u Q I2 rx ry q)
theorem jmc {op:UnaryOp}{r:V->Hp->VK->Prop}(ho:UnR X (unaryOp op) r)(ha:PE X a ta):PE X (.UnaryOp op a pos) (tUn r ta):=by
 intro pins s σ H Q I h
 exact UnaryOp_ (thn (ha pins s σ H _ I h) fun v s1 ⟨x,H1,I1,r1,q1⟩=>ho pins s1 σ H1 x v Q I1 r1 q1)
theorem opI {f:Value->Value->Sem Value}{C:Int->Int->Prop}{g:Int->Int->Int}
  (rule:∀ (i j:Int) (t u:Tok) (s:Shared) (Q:Value->Shared->Prop) (E:Value->Shared->Prop),C i j->Q (.int (g i j) s.toks) { s with toks:=s.toks + 1 }->wpAny (model X.prog X.w) X.A (f (.int i t) (.int j u)) Q E s) :
  OpR X f (rI C fun i j=>.int (g i j)):=by
 intro pins s σ H x y v u Q I rx ry h
 obtain ⟨i,j,rfl,rfl,hc,q⟩:=h
 obtain ⟨t,rfl⟩:=rx
 obtain ⟨t',rfl⟩:=ry
 exact rule i j t t' s _ _ hc ⟨.int (g i j),H,I.tok _,⟨_,rfl⟩,q⟩
theorem opI0 {f:Value->Value->Sem Value}{g:Int->Int->Int}
  (rule:∀ (i j:Int) (t u:Tok) (s:Shared) (Q:Value->Shared->Prop) (E:Value->Shared->Prop),Q (.int (g i j) s.toks) { s with toks:=s.toks + 1 }->wpAny (model X.prog X.w) X.A (f (.int i t) (.int j u)) Q E s) :
  OpR X f (rI0 fun i j=>.int (g i j)):=by
 intro pins s σ H x y v u Q I rx ry h
 obtain ⟨i,j,rfl,rfl,q⟩:=h
 obtain ⟨t,rfl⟩:=rx
 obtain ⟨t',rfl⟩:=ry
 exact rule i j t t' s _ _ ⟨.int (g i j),H,I.tok _,⟨_,rfl⟩,q⟩
theorem opB0 {f:Value->Value->Sem Value}{g:Int->Int->Bool}
  (rule:∀ (i j:Int) (t u:Tok) (s:Shared) (Q:Value->Shared->Prop) (E:Value->Shared->Prop),Q (.bool (g i j)) s->wpAny (model X.prog X.w) X.A (f (.int i t) (.int j u)) Q E s) :
  OpR X f (rI0 fun i j=>.bl (g i j)):=by
 intro pins s σ H x y v u Q I rx ry h
 obtain ⟨i,j,rfl,rfl,q⟩:=h
 obtain ⟨t,rfl⟩:=rx
 obtain ⟨t',rfl⟩:=ry
 exact rule i j t t' s _ _ ⟨.bl (g i j),H,I,rfl,q⟩

noncomputable def CDiv (i j:Int):Prop:=0 < j/\j < 1073741824
noncomputable def CPow (i j:Int):Prop:=0<=j/\j<=1000000/\i.natAbs < 2 ^ 64
noncomputable def CMul (i j:Int):Prop:=(-(2 ^ 64) < i/\i < 2 ^ 64)\/(-(2 ^ 64) < j/\j < 2 ^ 64)
theorem CMul.ok {i j:Int}(h:CMul i j):IntMulOk i j:=by
 rcases h with ⟨h1,h2⟩ | ⟨h1,h2⟩
 ·exact .of_left (intBits_le_64 h1 h2)
 ·exact .of_right (intBits_le_64 h1 h2)
theorem jkp:OpR X (binaryOp .Add) (rI0 fun i j=>.int (i + j)):=opI0 fun _ _ _ _ _ _ _ q=>add_int q
theorem jke:OpR X (binaryOp .Sub) (rI0 fun i j=>.int (i - j)):=opI0 fun _ _ _ _ _ _ _ q=>sub_int q
theorem jki:OpR X (binaryOp .Mult) (rI CMul fun i j=>.int (i * j)):=opI fun _ _ _ _ _ _ _ hc q=>mul_int q hc.ok
theorem jis:OpR X (binaryOp .FloorDiv) (rI CDiv fun i j=>.int (i / j)):=opI fun i j _ _ _ _ _ hc q=>by
 have h1:(0:Int) < j:=hc.1
 have h2:j < 1073741824:=hc.2
 exact floordiv_int (by omega) (by rw [Int.fdiv_eq_ediv_of_nonneg i (by omega)]; exact q) (.inl (PyProof.noPylong_small (by omega)))
theorem jkj:OpR X (binaryOp .Mod) (rI (fun _ j=>0 < j) fun i j=>.int (i % j)):=opI fun i j _ _ _ _ _ hc q=>by
 have h1:(0:Int) < j:=hc
 exact mod_int' (by omega) (by rw [Int.fmod_eq_emod_of_nonneg i (by omega)]; exact q)
theorem jkg:OpR X (binaryOp .Pow) (rI CPow fun i j=>.int (i ^ j.toNat)):=opI fun _ _ _ _ _ _ _ hc q=>pow_int_small hc.1 hc.2.1 hc.2.2 q
theorem unI {f:Value->Sem Value}{g:Int->Int}
  (rule:∀ (i:Int) (t:Tok) (s:Shared) (Q:Value->Shared->Prop) (E:Value->Shared->Prop),Q (.int (g i) s.toks) { s with toks:=s.toks + 1 }->wpAny (model X.prog X.w) X.A (f (.int i t)) Q E s) :
  UnR X f (rU fun i=>.int (g i)):=by
 intro pins s σ H x v Q I rx h
 obtain ⟨i,rfl,q⟩:=h
 obtain ⟨t,rfl⟩:=rx
 exact rule i t s _ _ ⟨.int (g i),H,I.tok _,⟨_,rfl⟩,q⟩
theorem jjf:UnR X (unaryOp .USub) (rU fun i=>.int (-i)):=unI fun _ _ _ _ _ q=>neg_int q
end

noncomputable def scal:V->V->Bool
 | .non,.non=>true | .non,.int _=>true | .int _,.non=>true | .non,.bl _=>true | .bl _,.non=>true | .non,.str _=>true | .str _,.non=>true
 | .int _,.int _=>true | .bl _,.bl _=>true | .str _,.str _=>true | .byt _,.byt _=>true
 | .int _,.str _=>true | .str _,.int _=>true | .bl _,.str _=>true | .str _,.bl _=>true
 | _,_=>false
noncomputable def rEq:R2:=fun x y H Q=>scal x y=true/\Q (.bl (decide (x=y))) H
noncomputable def rNe:R2:=fun x y H Q=>scal x y=true/\Q (.bl (!decide (x=y))) H

theorem jfU {i j:Int}:decide (V.int i=V.int j)=(i == j):=by
 rw [Bool.eq_iff_iff]
 simp
theorem jhy {i j:Bool}:decide (V.bl i=V.bl j)=(i == j):=by
 rw [Bool.eq_iff_iff]
 simp
theorem jfT {i j:Str}:decide (V.str i=V.str j)=(i == j):=by
 rw [Bool.eq_iff_iff]
 simp
theorem jfV {i j:Array UInt8}:decide (V.byt i=V.byt j)=(i.toList == j.toList):=by
 rw [Bool.eq_iff_iff]
 cases i
 cases j
 simp

section
variable {X:Cx}{a b c:Expr}{ta tb tc:TE}{pos:Pos}
theorem jaf {pins:List (Addr×Obj)}{σ:St}{H:Hp}{s:Shared}{Q:VK}{k k':Bool}(I:Inv X pins σ H s)(q:Q (.bl k) H)(e:k=k'):EP X pins σ Q (.bool k') s:=by
 subst e
 exact ⟨.bl k,H,I,rfl,q⟩
theorem jml:OpR X (compareOp .Eq) rEq:=by
 intro pins s σ H x y v u Q I rx ry h
 obtain ⟨hs,q⟩:=h
 cases x with
 | non=>
  cases rx
  cases y with
  | non=>cases ry; exact PySem.EqNone.eq_none_none (jaf I q (by simp))
  | bl j=>cases ry; exact PySem.EqNone.eq_none_bool (jaf I q (by simp))
  | int j=>obtain ⟨t',rfl⟩:=ry; exact PySem.EqNone.eq_none_int (jaf I q (by simp))
  | str j=>obtain ⟨t',rfl⟩:=ry; exact PySem.EqNone.eq_none_str (jaf I q (by simp))
  | _=>exact absurd (show false=true from hs) Bool.false_ne_true
 | bl i=>
  cases rx
  cases y with
  | non=>cases ry; exact PySem.EqNone.eq_bool_none (jaf I q (by simp))
  | bl j=>cases ry; exact eq_bool (jaf I q jhy)
  | str j=>obtain ⟨t',rfl⟩:=ry; exact PySem.EqMixed.eq_bool_str (jaf I q (by simp))
  | _=>exact absurd (show false=true from hs) Bool.false_ne_true
 | int i=>
  obtain ⟨t,rfl⟩:=rx
  cases y with
  | non=>cases ry; exact PySem.EqNone.eq_int_none (jaf I q (by simp))
  | int j=>obtain ⟨t',rfl⟩:=ry; exact eq_int (jaf I q jfU)
  | str j=>obtain ⟨t',rfl⟩:=ry; exact PySem.EqMixed.eq_int_str (jaf I q (by simp))
  | _=>exact absurd (show false=true from hs) Bool.false_ne_true
 | str i=>
  obtain ⟨t,rfl⟩:=rx
  cases y with
  | non=>cases ry; exact PySem.EqNone.eq_str_none (jaf I q (by simp))
  | bl j=>cases ry; exact PySem.EqMixed.eq_str_bool (jaf I q (by simp))
  | int j=>obtain ⟨t',rfl⟩:=ry; exact PySem.EqMixed.eq_str_int (jaf I q (by simp))
  | str j=>obtain ⟨t',rfl⟩:=ry; exact eq_str (jaf I q jfT)
  | _=>exact absurd (show false=true from hs) Bool.false_ne_true
 | byt i=>
  obtain ⟨t,rfl⟩:=rx
  cases y with
  | byt j=>obtain ⟨t',rfl⟩:=ry; exact PySem.W.eq_bytes (jaf I q jfV)
  | _=>exact absurd (show false=true from hs) Bool.false_ne_true
 | _=>cases y <;> exact absurd (show false=true from hs) Bool.false_ne_true
theorem jmh:OpR X (compareOp .NotEq) rNe:=by
 intro pins s σ H x y v u Q I rx ry h
 obtain ⟨hs,q⟩:=h
 cases x with
 | non=>
  cases rx
  cases y with
  | non=>cases ry; exact PySem.EqNone.ne_none_none (jaf I q (by simp))
  | bl j=>cases ry; exact PySem.EqNone.ne_none_bool (jaf I q (by simp))
  | int j=>obtain ⟨t',rfl⟩:=ry; exact PySem.EqNone.ne_none_int (jaf I q (by simp))
  | str j=>obtain ⟨t',rfl⟩:=ry; exact PySem.EqNone.ne_none_str (jaf I q (by simp))
  | _=>exact absurd (show false=true from hs) Bool.false_ne_true
 | bl i=>
  cases rx
  cases y with
  | non=>cases ry; exact PySem.EqNone.ne_bool_none (jaf I q (by simp))
  | bl j=>cases ry; exact ne_bool (jaf I q (congrArg not jhy))
  | str j=>obtain ⟨t',rfl⟩:=ry; exact PySem.EqMixed.ne_bool_str (jaf I q (by simp))
  | _=>exact absurd (show false=true from hs) Bool.false_ne_true
 | int i=>
  obtain ⟨t,rfl⟩:=rx
  cases y with
  | non=>cases ry; exact PySem.EqNone.ne_int_none (jaf I q (by simp))
  | int j=>obtain ⟨t',rfl⟩:=ry; exact ne_int (jaf I q (congrArg not jfU))
  | str j=>obtain ⟨t',rfl⟩:=ry; exact PySem.EqMixed.ne_int_str (jaf I q (by simp))
  | _=>exact absurd (show false=true from hs) Bool.false_ne_true
 | str i=>
  obtain ⟨t,rfl⟩:=rx
  cases y with
  | non=>cases ry; exact PySem.EqNone.ne_str_none (jaf I q (by simp))
  | bl j=>cases ry; exact PySem.EqMixed.ne_str_bool (jaf I q (by simp))
  | int j=>obtain ⟨t',rfl⟩:=ry; exact PySem.EqMixed.ne_str_int (jaf I q (by simp))
  | str j=>obtain ⟨t',rfl⟩:=ry; exact ne_str (jaf I q (congrArg not jfT))
  | _=>exact absurd (show false=true from hs) Bool.false_ne_true
 | byt i=>
  obtain ⟨t,rfl⟩:=rx
  cases y with
  | byt j=>obtain ⟨t',rfl⟩:=ry; exact PySem.W.ne_bytes (jaf I q (congrArg not jfV))
  | _=>exact absurd (show false=true from hs) Bool.false_ne_true
 | _=>cases y <;> exact absurd (show false=true from hs) Bool.false_ne_true

theorem jmi:OpR X (compareOp .Lt) (rI0 fun i j=>.bl (decide (i < j))):=opB0 fun _ _ _ _ _ _ _ q=>lt_int q
theorem jmj:OpR X (compareOp .LtE) (rI0 fun i j=>.bl (decide (i<=j))):=opB0 fun _ _ _ _ _ _ _ q=>le_int q
theorem jmk:OpR X (compareOp .Gt) (rI0 fun i j=>.bl (decide (j < i))):=opB0 fun _ _ _ _ _ _ _ q=>gt_int q
theorem jfn:OpR X (compareOp .In) (fun x y H Q=>∃ i j,x=.str i/\y=.str j/\Q (.bl (!(Builtin.Str.occurrences j i 0 j.length 1).isEmpty)) H):=by
 intro pins s σ H x y v u Q I rx ry h
 obtain ⟨i,j,rfl,rfl,q⟩:=h
 obtain ⟨t,rfl⟩:=rx
 obtain ⟨t',rfl⟩:=ry
 exact in_str (jaf I q rfl)

theorem jdd:OpR X (compareOp .NotIn) (fun x y H Q=>∃ i j,x=.str i/\y=.str j/\Q (.bl (!(!(Builtin.Str.occurrences j i 0 j.length 1).isEmpty))) H):=by
 intro pins s σ H x y v u Q I rx ry h
 obtain ⟨i,j,rfl,rfl,q⟩:=h
 obtain ⟨t,rfl⟩:=rx
 obtain ⟨t',rfl⟩:=ry
 exact notIn_str (jaf I q rfl)
theorem OpR.or {f:Value->Value->Sem Value}{r r':R2}(h:OpR X f r)(h':OpR X f r'):OpR X f (fun x y H Q=>r x y H Q\/r' x y H Q):=by
 intro pins s σ H x y v u Q I rx ry q
 rcases q with q | q
 ·exact h pins s σ H x y v u Q I rx ry q
 ·exact h' pins s σ H x y v u Q I rx ry q

theorem jim {op:CmpOp}{r:R2}(ho:OpR X (compareOp op) r)(ha:PE X a ta)(hb:PE X b tb)(hm:behindInMarks op b=false):PE X (.Compare a [op] [b] pos) (tOp r ta tb):=by
 intro pins s σ H Q I h
 exact wpAny_Compare1 (binT ha hb I h fun v u s2 x y H2 I2 rx ry q=>ho pins s2 σ H2 x y v u Q I2 rx ry q) hm
noncomputable def jjr (t:TE):TT:=fun σ H Q=>t σ H fun x H'=>∃ k,x=.bl k/\Q k H'
theorem jh4 {op:CmpOp}{r:R2}(ho:OpR X (compareOp op) r)(ha:PE X a ta)(hb:PE X b tb)(hm:behindInMarks op b=false):PT X (.Compare a [op] [b] pos) (jjr (tOp r ta tb)):=by
 intro pins s σ H Q I h
 refine wpAny_isTrue_Compare1 (thn (ha pins s σ H _ I h) fun v s1 ⟨x,H1,I1,r1,q1⟩=>thn (hb pins s1 σ H1 _ I1 q1) fun u s2 ⟨y,H2,I2,r2,q2⟩=>
  thn (ho pins s2 σ H2 x y v u _ I2 r1 r2 q2) fun c s3 ⟨z,H3,I3,r3,k,e,q3⟩=>?_) hm
 subst e
 cases r3
 exact wpAny_truthy_bool ⟨H3,I3,q3⟩
noncomputable def jg8 (r r':R2)(ta tb tc:TE):TE:=fun σ H Q=>ta σ H fun x H1=>tb σ H1 fun y H2=>r x y H2 fun z H3=>∃ k,z=.bl k/\
 (if k=true then tc σ H3 fun w' H4=>r' y w' H4 Q else Q (.bl false) H3)
theorem jgz {op op':CmpOp}{r r':R2}(ho:OpR X (compareOp op) r)(ho':OpR X (compareOp op') r')(ha:PE X a ta)(hb:PE X b tb)(hc:PE X c tc)
  (hm:lastMarks [op,op'] [b,c]=false:=by with_unfolding_all rfl):PE X (.Compare a [op,op'] [b,c] pos) (jg8 r r' ta tb tc):=by
 intro pins s σ H Q I h
 refine Compare_chain (thn (ha pins s σ H _ I h) fun v s1 ⟨x,H1,I1,r1,q1⟩=>chain_link (thn (hb pins s1 σ H1 _ I1 q1) fun u s2 ⟨y,H2,I2,r2,q2⟩=>
  thn (ho pins s2 σ H2 x y v u _ I2 r1 r2 q2) fun d s3 ⟨z,H3,I3,r3,k,e,q3⟩=>?_)) hm
 subst e
 cases r3
 refine wpAny_truthy_bool ?_
 cases k with
 | false=>exact ite_ff ⟨.bl false,H3,I3,rfl,q3⟩
 | true=>exact ite_tt (chain_last (thn (hc pins s3 σ H3 _ I3 q3) fun w' s4 ⟨z',H4,I4,r4,q4⟩=>ho' pins s4 σ H4 y z' u w' Q I4 r2 r4 q4))
theorem jgn {op op':CmpOp}{r r':R2}(ho:OpR X (compareOp op) r)(ho':OpR X (compareOp op') r')(ha:PE X a ta)(hb:PE X b tb)(hc:PE X c tc)
  (hm:lastMarks [op,op'] [b,c]=false:=by with_unfolding_all rfl):PT X (.Compare a [op,op'] [b,c] pos) (jjr (jg8 r r' ta tb tc)):=by
 intro pins s σ H Q I h
 refine isTrue_chain (thn (ha pins s σ H _ I h) fun v s1 ⟨x,H1,I1,r1,q1⟩=>test_link (thn (hb pins s1 σ H1 _ I1 q1) fun u s2 ⟨y,H2,I2,r2,q2⟩=>
  thn (ho pins s2 σ H2 x y v u _ I2 r1 r2 q2) fun d s3 ⟨z,H3,I3,r3,k,e,q3⟩=>?_)) hm
 subst e
 cases r3
 refine wpAny_truthy_bool ?_
 cases k with
 | false=>
  obtain ⟨k',e',q'⟩:=q3
  cases e'
  exact ite_ff ⟨H3,I3,q'⟩
 | true=>
  refine ite_tt (test_last (thn (hc pins s3 σ H3 _ I3 q3) fun w' s4 ⟨z',H4,I4,r4,q4⟩=>thn (ho' pins s4 σ H4 y z' u w' _ I4 r2 r4 q4) fun d' s5 ⟨z2,H5,I5,r5,k2,e2,q5⟩=>?_))
  subst e2
  cases r5
  exact wpAny_truthy_bool ⟨H5,I5,q5⟩

noncomputable def TruV (K:PySem.W.Frag)(x:V)(H:Hp)(k:Bool):Prop:=
 match x with
 | .non=>k=false
 | .bl b=>k=b
 | .int i=>k=(i != 0)
 | .str y=>y.length<=sizeLine/\k=((y.length:Int) != 0)
 | .byt y=>y.size<=sizeLine/\k=((y.size:Int) != 0)
 | .ref p=>(∃ xs,SqL K H p xs/\k = !xs.isEmpty)\/(∃ xs,SqT K H p xs/\k = !xs.isEmpty)\/∃ kvs,H p=some (.dK kvs)/\k = !kvs.isEmpty
 | _=>False
theorem jeT {κ:Type}{kvs:List (κ×V)}{vs:List (κ×Value)}(r:KV kvs vs):(!vs.isEmpty) = !kvs.isEmpty:=by
 cases r <;> rfl
theorem jcv {xs:List V}{its:List Value}(r:Vals xs its):(!its.toArray.isEmpty) = !xs.isEmpty:=by
 cases r <;> simp
theorem jb2:(sizeLine:Nat) < 2 ^ 63:=by rw [sizeLine_eq]; decide
theorem jec:TruR X (fun x H Q=>∃ k,TruV X.K x H k/\Q k H):=by
 intro pins s σ H x v Q I rx h
 obtain ⟨k,e,q⟩:=h
 have hl:=jb2
 have hs:sizeLine=16777216:=sizeLine_eq
 cases x with
 | non=>
  cases rx
  have e':k=false:=e
  subst e'
  exact truthy_none ⟨H,I,q⟩
 | bl b=>
  cases rx
  have e':k=b:=e
  subst e'
  exact wpAny_truthy_bool ⟨H,I,q⟩
 | int i=>
  obtain ⟨t,rfl⟩:=rx
  have e':k=(i != 0):=e
  subst e'
  exact PySem.P.truthy_int ⟨H,I,q⟩
 | str y=>
  obtain ⟨t,rfl⟩:=rx
  obtain ⟨hy,e'⟩:y.length<=sizeLine/\k=((y.length:Int) != 0):=e
  subst e'
  exact PySem.P.truthy_str (by omega) ⟨H,I.tok _,q⟩
 | byt y=>
  obtain ⟨t,rfl⟩:=rx
  obtain ⟨hy,e'⟩:y.size<=sizeLine/\k=((y.size:Int) != 0):=e
  subst e'
  exact PySem.W.truthy_bytes (by omega) ⟨H,I.tok _,q⟩
 | ref p=>
  cases rx
  have e':(∃ xs,SqL X.K H p xs/\k = !xs.isEmpty)\/(∃ xs,SqT X.K H p xs/\k = !xs.isEmpty)\/∃ kvs,H p=some (.dK kvs)/\k = !kvs.isEmpty:=e
  rcases e' with ⟨xs,hx,e'⟩ | ⟨xs,hx,e'⟩ | ⟨kvs,hx,e'⟩
  ·subst e'
   obtain ⟨its,r,pl,hz⟩:=I.list hx
   have hlen:=r.length
   exact wpAny_truthy_list pl.isList (by simp only [List.size_toArray]; omega) ⟨H,I.tok _,by rw [jcv r]; exact q⟩
  ·subst e'
   obtain ⟨its,r,pl,hz⟩:=I.tuple hx
   have hlen:=r.length
   exact truthy_tuple pl (by simp only [List.size_toArray]; omega) ⟨H,I.tok _,by rw [jcv r]; exact q⟩
  ·subst e'
   obtain ⟨hz,hS,vs,r,m⟩:kvs.length<=sizeLine/\(p == sysModules)=false/\∃ vs,KV kvs vs/\s.heap.DictOf (jao X.prog X.w) p vs:=I.hok p _ hx
   have hlen:kvs.length=vs.length:=Paired.length r
   exact wpAny_truthy_dict hS m (by omega) ⟨H,I.tok _,by rw [jeT r]; exact q⟩
 | _=>exact (show False from e).elim
theorem jgm (ha:PE X a ta)(he:∀ whole,isTrue a X.env whole=(do let v <- whole; standAt a.pos; holding [v] (truthy v))) :
  PT X a (fun σ H Q=>ta σ H fun x H'=>∃ k,TruV X.K x H' k/\Q k H'):=by
 intro pins s σ H Q I h
 exact isTrue_plain (thn (ha pins s σ H _ I h) fun v s1 ⟨x,H1,I1,r1,q1⟩=>jec pins s1 σ H1 x v Q I1 r1 q1) (he _)

theorem jeN:OpR X (binaryOp .Add) (fun x y H Q=>∃ i j,x=.str i/\y=.str j/\i.length + j.length<=sizeLine/\Q (.str (i++j)) H):=by
 intro pins s σ H x y v u Q I rx ry h
 obtain ⟨i,j,rfl,rfl,hz,q⟩:=h
 obtain ⟨t,rfl⟩:=rx
 obtain ⟨t',rfl⟩:=ry
 exact add_str (fun t' tk=>⟨.str (i++j),H,I.tok _,⟨_,rfl⟩,q⟩) hz
theorem jbK {x:V}{us:List Value}(r:Vals [x] us):∃ u,us=[u]/\RelV x u:=by
 cases r with
 | cons r1 r2=>cases r2; exact ⟨_,rfl,r1⟩
theorem jlu {x y:V}{us:List Value}(r:Vals [x,y] us):∃ u w',us=[u,w']/\RelV x u/\RelV y w':=by
 cases r with
 | cons r1 r2=>
  cases r2 with
  | cons r3 r4=>cases r4; exact ⟨_,_,rfl,r1,r3⟩
theorem jf3 (hc:X.calm=true):jaN X (.builtin "min") (fun xs H Q=>∃ i j,xs=[.int i,.int j]/\Q (.int (if j < i then j else i)) H):=by
 intro pins s σ H xs us Q I r h
 obtain ⟨i,j,rfl,q⟩:=h
 obtain ⟨u,w',rfl,⟨t,rfl⟩,⟨t',rfl⟩⟩:=jlu r
 refine min_two_ints (I.ok.hd hc) fun h' tk k=>⟨_,H,I.kept k,?_,q⟩
 by_cases hj:j < i
 ·rw [if_pos hj,if_pos hj]; exact ⟨_,rfl⟩
 ·rw [if_neg hj,if_neg hj]; exact ⟨_,rfl⟩
theorem jf5:jaN X (.type "int") (fun xs H Q=>(∃ i,xs=[.int i]/\Q (.int i) H)\/∃ k,xs=[.bl k]/\Q (.int (if k then 1 else 0)) H):=by
 intro pins s σ H xs us Q I r h
 rcases h with ⟨i,rfl,q⟩ | ⟨k,rfl,q⟩
 ·obtain ⟨u,rfl,t,rfl⟩:=jbK r
  exact call_int_int ⟨.int i,H,I,⟨_,rfl⟩,q⟩
 ·obtain ⟨u,rfl,r1⟩:=jbK r
  cases r1
  exact call_int_bool ⟨.int (if k then 1 else 0),H,I.tok _,⟨_,rfl⟩,q⟩
theorem jdA:jaN X (.type "str") (fun xs H Q=>∃ i,xs=[.int i]/\i.natAbs.log2 < 1920/\Q (.str (toString i)) H):=by
 intro pins s σ H xs us Q I r h
 obtain ⟨i,rfl,hz,q⟩:=h
 obtain ⟨u,rfl,t,rfl⟩:=jbK r
 exact PySem.P.str_of_int hz ⟨.str _,H,I.tok _,⟨_,rfl⟩,q⟩
noncomputable def LenV (K:PySem.W.Frag)(x:V)(H:Hp)(n:Nat):Prop:=
 match x with
 | .str y=>y.length<=sizeLine/\n=y.length
 | .byt y=>y.size<=sizeLine/\n=y.size
 | .ref p=>(∃ xs,SqL K H p xs/\n=xs.length)\/∃ xs,SqT K H p xs/\n=xs.length
 | _=>False
theorem jgT:jaN X (.builtin "len") (fun xs H Q=>∃ x n,xs=[x]/\LenV X.K x H n/\Q (.int n) H):=by
 intro pins s σ H xs us Q I r h
 obtain ⟨x,n,rfl,e,q⟩:=h
 obtain ⟨u,rfl,rx⟩:=jbK r
 have hl:=jb2
 have hs:sizeLine=16777216:=sizeLine_eq
 cases x with
 | str y=>
  obtain ⟨t,rfl⟩:=rx
  obtain ⟨hy,e'⟩:y.length<=sizeLine/\n=y.length:=e
  subst e'
  exact len_str (by omega) ⟨.int _,H,I.tok _,⟨_,rfl⟩,q⟩
 | byt y=>
  obtain ⟨t,rfl⟩:=rx
  obtain ⟨hy,e'⟩:y.size<=sizeLine/\n=y.size:=e
  subst e'
  exact PySem.W.len_bytes (by omega) ⟨.int _,H,I.tok _,⟨_,rfl⟩,q⟩
 | ref p=>
  cases rx
  have e':(∃ xs,SqL X.K H p xs/\n=xs.length)\/∃ xs,SqT X.K H p xs/\n=xs.length:=e
  rcases e' with ⟨xs,hx,e'⟩ | ⟨xs,hx,e'⟩
  ·subst e'
   obtain ⟨its,r',pl,hz⟩:=I.list hx
   have hlen:=r'.length
   exact Calls.call_len_list pl.isList (by simp only [List.size_toArray]; omega) ⟨.int xs.length,H,I.tok _,⟨_,by simp only [List.size_toArray]; rw [hlen]⟩,q⟩
  ·subst e'
   obtain ⟨its,r',pl,hz⟩:=I.tuple hx
   have hlen:=r'.length
   exact len_tuple pl (by simp only [List.size_toArray]; omega) ⟨.int xs.length,H,I.tok _,⟨_,by simp only [List.size_toArray]; rw [hlen]⟩,q⟩
 | _=>exact (show False from e).elim
end

structure ObjM (h:Heap)(x dx C:Addr)(mA:Str->Option Value):Prop where
 obj:h.get? x=some (PySem.W.instObj C dx)
 ns:h.Ns1 dx mA
 ne:dx≠x

theorem jfz {h:Heap}{dx:Addr}{mA:Str->Option Value}(n:h.Ns1 dx mA):∃ od,h.get? dx=some od/\∀ name,PySem.W.lookIn name od=some (mA name):=by
 obtain ⟨o,es,ep,ho,hd,hk,_,hm⟩:=n
 refine ⟨o,ho,fun name=>?_⟩
 have e:=hm name
 unfold nsFind findBy at e
 rw [<- Array.find?_toList] at e
 unfold PySem.W.lookIn
 rw [hd]
 dsimp only
 split
 ·rename_i y q
  rw [q] at e
  exact congrArg some e
 ·rename_i q
  rw [q] at e
  have a:es.toList.any (·.refKey)=false:=by
   rw [List.any_eq_false]
   intro y hy
   obtain ⟨z,t,hkey⟩:=hk y (Array.mem_toList_iff.mp hy)
   simp [DictEntry.refKey,hkey]
  have a':¬ es.toList.any (·.refKey)=true:=by rw [a]; exact Bool.false_ne_true
  rw [if_neg a']
  exact congrArg some e

theorem ObjM.look {h:Heap}{x dx C:Addr}{mA:Str->Option Value}(I:ObjM h x dx C mA):∃ od,PySem.W.InstAt h x (PySem.W.instObj C dx) C (some od)/\∀ name,PySem.W.lookIn name od=some (mA name):=
 let ⟨od,ho,hl⟩:=jfz I.ns
 ⟨od,⟨I.obj,rfl,rfl,ho⟩,hl⟩

section
variable {prog:Program}{w:World}{A:Around}{E:Value->Shared->Prop}{s:Shared}{K:PySem.W.Frag}{x dx C f:Addr}{mA:Str->Option Value}{name:Str}{v:Value}

end

theorem RelO.some_of {v:V}{o:Option Value}(r:RelO (some v) o):∃ u,o=some u/\RelV v u:=by
 cases o with
 | none=>exact (show False from r).elim
 | some u=>exact ⟨u,rfl,r⟩
section
variable {P:Program}{w:World}{H H':Hp}{h h':Heap}{a C dx:Addr}{fs fs':List (Str×V)}
theorem jiQ (hok:HOk P w H h)(e:H a=some (.ins C dx fs)):∃ mA,ObjM h a dx C mA/\(∀ f,RelO (fs.lookup f) (mA f))/\PySem.Within mA (fs.map (·.1))/\fs.length<=1000/\H dx=some (.own a):=by
 obtain ⟨d,z,ne,ob,mA,n,r,q⟩:=(show jav P w H h a (.ins C dx fs) from hok a _ e)
 exact ⟨mA,⟨ob,n,ne⟩,r,q,z,d⟩
end

structure Cls (K:PySem.W.Frag)(C:Addr):Prop where
 pg:PySem.W.plainGet K C Str.empty=true
 hd:PySem.W.hasDictIn K C=true
 po:PySem.W.plainOver K C=true
 sa:PySem.W.findIn K (.ref C) "__setattr__" = some (some (.builtin "object.__setattr__"))
theorem Cls.get {K:PySem.W.Frag}{C:Addr}(c:Cls K C)(f:Str):PySem.W.plainGet K C f=true:=c.pg
structure Con (K:PySem.W.Frag)(C:Addr)(f:Str)(v:V)(u:Value):Prop where
 at_:PySem.W.findIn K (.ref C) f=some (some u)
 rel:RelV v u
 get:PySem.W.specialIn K u "__get__" = some none
 cp:PySem.W.copiedNames.contains f=false
structure Meth (K:PySem.W.Frag)(C:Addr)(m:Str)(f:Addr):Prop where
 at_:PySem.W.findIn K (.ref C) m=some (some (.ref f))
 fn:PySem.W.isFn K (.ref f)=true
 kp:PySem.W.keepIn K (.ref f)=true

section
variable {X:Cx}{pins:List (Addr×Obj)}{σ:St}{H:Hp}{s:Shared}{a C dx:Addr}{fs:List (Str×V)}{f:Str}{v:V}{A:Around}{E:Value->Shared->Prop}

end

section
variable {X:Cx}{o e value:Expr}{f:Str}{pos pos' tpos:Pos}{ta tv:TE}
end

section
variable {X:Cx}{pins:List (Addr×Obj)}{σ:St}{H:Hp}{s:Shared}{A:Around}{E:Value->Shared->Prop}{Q:Value->Shared->Prop}{c:Value}{b:Bool}
inductive TyOf (K : PySem.W.Frag)(H : Hp) : V -> Value -> Prop where
  | non : TyOf K H .non (.type "NoneType")
  | bl (x : Bool) : TyOf K H (.bl x) (.type "bool")
  | int (i : Int) : TyOf K H (.int i) (.type "int")
  | str (x : Str) : TyOf K H (.str x) (.type "str")
  | flt (x : UInt64) : TyOf K H (.flt x) (.type "float")
  | lst {a : Addr} {xs : List V} (e : H a = some (.lst xs)) : TyOf K H (.ref a) (.type "list")
  | frz {a : Addr} {o : Obj} {xs : List V} (e : H a = some (.frz o (.lst xs))) : TyOf K H (.ref a) (.type "list")
  | tup {a : Addr} {xs : List V} (e : H a = some (.tup xs)) : TyOf K H (.ref a) (.type "tuple")
  | dK {a : Addr} {kvs : List (Key × V)} (e : H a = some (.dK kvs)) : TyOf K H (.ref a) (.type "dict")
  | dT {a : Addr} {kvs : List (List Key × V)} (e : H a = some (.dT kvs)) : TyOf K H (.ref a) (.type "dict")
  | ins {a C dx : Addr} {fs : List (Str × V)} (e : H a = some (.ins C dx fs)) (cl : Cls K C) (ha : PySem.W.findIn K (.ref C) "__class__" = some (some (.builtin "object.__class__")))
      (hn : PySem.W.specialIn K (.builtin "object.__class__") "__get__" = some (some (.builtin "getset_descriptor.__get__"))) (htk : PySem.W.takesIn K (.builtin "object.__class__") = some true)
      (hm : PySem.W.mroIn K C (.type "object") = some true) : TyOf K H (.ref a) (.ref C)
theorem jfJ {x:V}{u t:Value}(I:Inv X pins σ H s)(rx:RelV x u)(ty:TyOf X.K H x t)(e:PySem.W.kitOne X.K t c=some b)(h:∀ tk,Q (.bool b) { s with toks:=tk }) :
  wpAny (model X.prog X.w) A (call (.builtin "isinstance") [u,c]) Q E s:=by
 cases ty with
 | non=>cases (show u=Value.none from rx); exact PySem.W.kia_one PySem.W.kitx_none I.kIn True.intro e (fun z=>nomatch z) h
 | bl y=>cases (show u=Value.bool y from rx); exact PySem.W.kia_one PySem.W.kitx_bool I.kIn True.intro e (fun z=>nomatch z) h
 | int i=>obtain ⟨t,q⟩:=(show ∃ t,u=Value.int i t from rx); cases q; exact PySem.W.kia_one PySem.W.kitx_int I.kIn True.intro e (fun z=>nomatch z) h
 | str y=>obtain ⟨t,q⟩:=(show ∃ t,u=Value.str y t from rx); cases q; exact PySem.W.kia_one PySem.W.kitx_str I.kIn True.intro e (fun z=>nomatch z) h
 | flt y=>obtain ⟨t,q⟩:=(show ∃ t,u=Value.float y t from rx); cases q; exact PySem.W.kia_one PySem.W.kitx_float I.kIn True.intro e (fun z=>nomatch z) h
 | @lst a xs ea=>
  cases (show u=Value.ref a from rx)
  obtain ⟨_,_,n,_,h1⟩:=(show jav X.prog X.w H s.heap a (.lst xs) from I.hok a _ ea)
  exact PySem.W.kia_one PySem.W.kitx_list I.kIn ⟨_,h1,rfl⟩ e (fun z=>nomatch z) h
 | @frz a ob xs ea=>
  cases (show u=Value.ref a from rx)
  obtain ⟨_,_,_,n,_,h1⟩:=(show jav X.prog X.w H s.heap a (.frz ob (.lst xs)) from I.hok a _ ea)
  exact PySem.W.kia_one PySem.W.kitx_list I.kIn ⟨_,h1,rfl⟩ e (fun z=>nomatch z) h
 | @tup a xs ea=>
  cases (show u=Value.ref a from rx)
  obtain ⟨_,_,_,p⟩:=(show jav X.prog X.w H s.heap a (.tup xs) from I.hok a _ ea)
  obtain ⟨o,h1,h2,_⟩:=p
  exact PySem.W.kia_one PySem.W.kitx_tuple I.kIn ⟨o,h1,h2⟩ e (fun z=>nomatch z) h
 | @dK a kvs ea=>
  cases (show u=Value.ref a from rx)
  obtain ⟨_,_,vs,_,p⟩:=(show jav X.prog X.w H s.heap a (.dK kvs) from I.hok a _ ea)
  obtain ⟨o,es,ep,h1,h2,_⟩:=p
  exact PySem.W.kia_one PySem.W.kitx_dict I.kIn ⟨o,h1,h2.1⟩ e (fun z=>nomatch z) h
 | @dT a kvs ea=>
  cases (show u=Value.ref a from rx)
  obtain ⟨_,_,xs,_,o,es,ep,h1,h2,_⟩:=(show jav X.prog X.w H s.heap a (.dT kvs) from I.hok a _ ea)
  exact PySem.W.kia_one PySem.W.kitx_dict I.kIn ⟨o,h1,h2.1⟩ e (fun z=>nomatch z) h
 | @ins a C dx fs ea cl ha hn htk hm=>
  cases (show u=Value.ref a from rx)
  obtain ⟨mA,O,_⟩:=jiQ I.hok ea
  obtain ⟨od,J,_⟩:=O.look
  exact PySem.W.kia_one (PySem.W.kitx_own (cl.get _) cl.hd ha hn htk hm) I.kIn J e (fun z=>nomatch z) h
end

structure Room (k:Nat)(A:Around):Prop where
 hd:A.handled=none
 dp:A.depth + k + 20 < recursionLimit
 un:A.units + 8 * k + 200 < cLine
 gd:A.guards=some []
theorem Room.mono {j k:Nat}{A:Around}(r:Room k A)(h:j<=k):Room j A:=⟨r.hd,by have:=r.dp; omega,by have:=r.un; omega,r.gd⟩
theorem Room.deeper {k:Nat}{A:Around}(r:Room (k + 1) A)(env:Env):Room k (A.deeper env):=
 ⟨r.hd,by have:=r.dp; show A.depth + 1 + k + 20 < _; omega,by have:=r.un; show A.units + 3 + 8 * k + 200 < _; omega,r.gd⟩
theorem Room.depth {k:Nat}{A:Around}(r:Room k A):A.depth < recursionLimit:=by have:=r.dp; omega
theorem Room.units {k:Nat}{A:Around}(r:Room k A):A.units + 64 < cLine:=by have:=r.un; omega
theorem Room.units0 {k:Nat}{A:Around}(r:Room k A):A.units < cLine:=by have:=r.un; omega

noncomputable def tNil:TA:=fun _ H Q=>Q [] H
noncomputable def jgb (ta:TE)(tr:TA):TA:=fun σ H Q=>ta σ H fun x H1=>tr σ H1 fun xs H2=>Q (x::xs) H2
section
variable {X:Cx}{e:Expr}{es:List Expr}{te:TE}{t:TA}{pos:Pos}
theorem jhe:PA X [] tNil:=fun _ _ _ _ H Q I h=>Calls.spliced_nil ⟨[],H,I,.nil,h⟩
theorem jcP (ha:PE X e te)(hr:PA X es t)(hs:starEach (e::es) X.env=(false,eval e X.env)::starEach es X.env:=by rfl):PA X (e::es) (jgb te t):=by
 intro pos pins s σ H Q I h
 rw [hs]
 show wpAny _ _ (spliced ((false,eval e X.env)::backTo pos (starEach es X.env))) _ _ s
 refine Calls.spliced_cons (thn (ha pins s σ H _ I h) fun u s1 ⟨x,H1,I1,r1,q1⟩=>?_)
 exact thn (hr pos pins s1 σ H1 _ I1 q1) fun us s2 ⟨xs,H2,I2,r2,q2⟩=>⟨x::xs,H2,I2,.cons r1 r2,q2⟩

noncomputable def tTup (t:TA):TE:=fun σ H Q=>t σ H fun xs H1=>xs.length<=sizeLine/\∀ p,H1 p=none->Q (.ref p) (upd H1 p (.tup xs))
noncomputable def tLst (t:TA):TE:=fun σ H Q=>t σ H fun xs H1=>xs.length<=sizeLine/\∀ p,H1 p=none->Q (.ref p) (upd H1 p (.lst xs))
theorem jjZ {x1}(h:PA X es t):PE X (.Tuple es x1 pos) (tTup t):=by
 intro pins s σ H Q I hq
 refine wpAny_Tuple_spliced (thn (h pos pins s σ H _ I hq) fun us s1 ⟨xs,H1,I1,r,z,q⟩=>⟨by rw [<- r.length]; exact z,?_⟩)
 have hf:H1 s1.heap.objs.size=none:=I1.hok.fresh (Nat.le_refl _)
 refine ⟨.ref s1.heap.objs.size,upd H1 s1.heap.objs.size (.tup xs),I1.laid (t':=s1.toks) (fun b u e=>Heap.get?_push_of_some _ e) (Nat.le_refl _) ?_,rfl,q _ hf⟩
 exact ⟨z,us,r,⟨_,Heap.get?_push_size _ rfl,rfl,_,rfl,rfl⟩⟩
theorem jj3 (h:PA X es t):PE X (.List es pos) (tLst t):=by
 intro pins s σ H Q I hq
 refine wpAny_List_spliced (thn (h pos pins s σ H _ I hq) fun us s1 ⟨xs,H1,I1,r,z,q⟩=>⟨by rw [<- r.length]; exact z,?_⟩)
 have hf:H1 s1.heap.objs.size=none:=I1.hok.fresh (Nat.le_refl _)
 refine ⟨.ref s1.heap.objs.size,upd H1 s1.heap.objs.size (.lst xs),I1.laid (t':=s1.toks) (fun b u e=>Heap.get?_push_of_some _ e) (Nat.le_refl _) ?_,rfl,q _ hf⟩
 exact ⟨z,us,0,r,Heap.get?_push_size _ rfl⟩
end

noncomputable abbrev Sp:=List V->Hp->VK->XK->Prop
noncomputable abbrev CXT:=List Env->Hp->Shared->XK->Value->Shared->Prop

structure Env0 (P:Program)(w:World)(K:PySem.W.Frag)(mg:Str->Option Value)(base:Heap)(A:Around)(outer:List Env)(s:Shared)(H:Hp):Prop where
 frames:A.frames=some outer
 mod:Mod K mg base
 bs:∀ b o,base.get? b=some o->s.heap.get? b=some o/\H b=none
 bsz:base.objs.size<=s.heap.objs.size
 funs:s.heap.FunFrames base outer
 frf:∀ b∈frs outer,H b=none
 hok:HOk P w H s.heap
 bare:AllBare s.gens
noncomputable def CE (outer:List Env)(P:Program)(w:World)(H:Hp)(s:Shared)(Q:VK)(u:Value)(s':Shared):Prop:=
 ∃ v H',s'.os=s.os/\AllBare s'.gens/\Un (frs outer) [] H H' s.heap s'.heap/\HOk P w H' s'.heap/\RelV v u/\Q v H'
noncomputable def CR (CX:CXT)(outer:List Env)(P:Program)(w:World)(H:Hp)(s:Shared)(Q:VK)(E:XK)(r:Result)(s':Shared):Prop:=
 match r with
 | .ok (.ret u)=>CE outer P w H s Q u s'
 | .ok _=>False
 | .error e=>CX outer H s E e s'
structure FnOk (P:Program)(w:World)(K:PySem.W.Frag)(mg:Str->Option Value)(base:Heap)(CX:CXT)(k:Nat)(f:Addr)(fd:FuncData)(ps:List Str)(sp:Sp):Prop where
 len:∀ vs H Q E,sp vs H Q E->vs.length=ps.length
 run:∀ (A:Around) (outer:List Env) (s:Shared) (H:Hp) (args:Args) (us:List Value) (vs:List V) (Q:VK) (E:XK),Room k A->Env0 P w K mg base A outer s H->BindsTo s fd args (ps.zip us)->Vals vs us->sp vs H Q E->
  codeAny (model P w) A (.call (.ref f) args) (CR CX outer P w H s Q E) s
section
variable {X:Cx}{pins:List (Addr×Obj)}{σ:St}{H:Hp}{s s':Shared}
theorem Inv.env0 (I:Inv X pins σ H s):Env0 X.prog X.w X.K X.mg X.base X.A X.stack s H:=
 ⟨I.ok.frames,I.ok.mod,I.bs,Nat.le_trans I.ok.bsz I.sz,I.stack,I.stkFree,I.hok,I.bare⟩
theorem Inv.after {Q:VK}{u:Value}(I:Inv X pins σ H s)(h:CE X.stack X.prog X.w H s Q u s'):EP X pins σ Q u s':=by
 obtain ⟨v,H',os,bare,un,hok,r,q⟩:=h
 obtain ⟨hh,g,d,t,os'⟩:=s'
 obtain rfl:os'=s.os:=os
 exact ⟨v,H',I.call (h':=hh) (g':=g) (d':=d) (t':=t) (ch:=[]) un hok bare (fun b z=>absurd z (by simp)),r,q⟩
end

noncomputable def Binds (K:PySem.W.Frag)(fd:FuncData)(ps:List Str)(ds:List Value):Prop:=
 ∀ (s:Shared) (us:List Value),K.In s.heap->(us++ds).length=ps.length->BindsTo s fd ⟨us,[]⟩ (ps.zip (us++ds))
theorem Binds.all {K:PySem.W.Frag}{fd:FuncData}{ps:List Str}(h:∀ us:List Value,us.length=ps.length->bindArgs fd ⟨us,[]⟩=pure (ps.zip us)):Binds K fd ps []:=fun s us _ hl=>by
 rw [List.append_nil] at hl ⊢
 exact .of_eq (h us hl)

section
variable {X:Cx}{CX:CXT}{k:Nat}{f C:Addr}{fd:FuncData}{ps:List Str}{sp:Sp}{dvs:List V}{ds:List Value}{E:XK}{x m:Str}{p pos apos:Pos}{e o:Expr}{es:List Expr}{ta:TE}{t:TA}

structure Mk (K:PySem.W.Frag)(C f:Addr):Prop where
 makes:PySem.W.makesIn K C=true
 init:PySem.W.findIn K (.ref C) "__init__" = some (some (.ref f))
 fn:PySem.W.isFn K (.ref f)=true
 kp:PySem.W.keepIn K (.ref C)=true

end

noncomputable def PK (X:Cx)(kws:List Keyword)(t:TA):Prop:=
 ∀ (pos:Pos) (pins:List (Addr×Obj)) (s:Shared) (σ:St) (H:Hp) (Q:List V->Hp->Prop),Inv X pins σ H s->t σ H Q->wpAny (model X.prog X.w) X.A (evalAll ((backToKw pos (keywordEach kws X.env)).map (·.2))) (AP X pins σ Q) X.xe s
section
variable {X:Cx}{CX:CXT}{k:Nat}{f C:Addr}{fd:FuncData}{ps ks:List Str}{sp:Sp}{E:XK}{x m:Str}{p pos apos kpos:Pos}{e o:Expr}{es:List Expr}{kws:List Keyword}{te ta:TE}{t tk:TA}{nm:Option Str}
theorem pk_nil:PK X [] tNil:=fun _ _ _ _ H Q I h=>wpAny_evalAll_nil ⟨[],H,I,.nil,h⟩
structure KBinds (K:PySem.W.Frag)(fd:FuncData)(ps ks:List Str)(g:List Value->List Value->List Value)(gV:List V->List V->List V):Prop where
 to:∀ (s:Shared) (us ws:List Value),K.In s.heap->(g us ws).length=ps.length->BindsTo s fd ⟨us,ks.zip ws⟩ (ps.zip (g us ws))
 rel:∀ {vs:List V} {us:List Value} {zs:List V} {ws:List Value},Vals vs us->Vals zs ws->Vals (gV vs zs) (g us ws)
variable {g:List Value->List Value->List Value}{gV:List V->List V->List V}
end

structure FnScope (N P:List Str)(sc:Scope):Prop where
 kind:sc.kind=.function
 co:sc.isCoroutine=false
 gen:sc.isGenerator=false
 nd:N.Nodup
 pre:N.take P.length=P
 par:∀ x∈P,sc.names.lookup x=some .local\/sc.names.lookup x=some .cell
 nofree:∀ y∈sc.names,y.2≠.free

theorem jdC {kindOf:Str->Option NameKind}{x:Str}:∀ {binds:List (Str×Value)} {m:Str->Option Value},(∀ v,(x,v)∉binds)->bindL kindOf binds m x=m x
 | [],_,_=>rfl
 | (n,v)::r,m,h=>by
  unfold bindL
  rw [jdC fun w hw=>h w (List.mem_cons_of_mem _ hw)]
  split
  ·have:x≠n:=by rintro rfl; exact h v List.mem_cons_self
   simp [this]
  ·rfl
theorem jdE {kindOf:Str->Option NameKind}{x:Str}:∀ {binds:List (Str×Value)} {m:Str->Option Value},(∀ v,(x,v)∉binds)->bindC kindOf binds m x=m x
 | [],_,_=>rfl
 | (n,v)::r,m,h=>by
  unfold bindC
  rw [jdE fun w hw=>h w (List.mem_cons_of_mem _ hw)]
  split
  ·rfl
  ·have:x≠n:=by rintro rfl; exact h v List.mem_cons_self
   simp [this]
theorem jdD {kindOf:Str->Option NameKind}{x:Str}{v:Value}:∀ {P:List Str} {vs:List Value} {i:Nat} {m:Str->Option Value},P.Nodup->P[i]?=some x->vs[i]?=some v->kindOf x=some .local->
  bindL kindOf (P.zip vs) m x=some v
 | [],_,_,_,_,h,_,_=>by simp at h
 | _::_,[],_,_,_,_,h,_=>by simp at h
 | p::P,w::vs,0,m,nd,h1,h2,hk=>by
  simp at h1 h2; subst h1; subst h2
  show bindL kindOf ((p,w)::P.zip vs) m p=_
  unfold bindL
  rw [jdC fun v hv=>(List.nodup_cons.mp nd).1 (List.of_mem_zip hv).1,if_pos hk]
  simp
 | p::P,w::vs,i + 1,m,nd,h1,h2,hk=>by
  show bindL kindOf ((p,w)::P.zip vs) m x=_
  unfold bindL
  exact jdD (i:=i) (List.nodup_cons.mp nd).2 (by simpa using h1) (by simpa using h2) hk
theorem jdF {kindOf:Str->Option NameKind}{x:Str}{v:Value}:∀ {P:List Str} {vs:List Value} {i:Nat} {m:Str->Option Value},P.Nodup->P[i]?=some x->vs[i]?=some v->kindOf x≠some .local->
  bindC kindOf (P.zip vs) m x=some v
 | [],_,_,_,_,h,_,_=>by simp at h
 | _::_,[],_,_,_,_,h,_=>by simp at h
 | p::P,w::vs,0,m,nd,h1,h2,hk=>by
  simp at h1 h2; subst h1; subst h2
  show bindC kindOf ((p,w)::P.zip vs) m p=_
  unfold bindC
  rw [jdE fun v hv=>(List.nodup_cons.mp nd).1 (List.of_mem_zip hv).1,if_neg hk]
  simp
 | p::P,w::vs,i + 1,m,nd,h1,h2,hk=>by
  show bindC kindOf ((p,w)::P.zip vs) m x=_
  unfold bindC
  exact jdF (i:=i) (List.nodup_cons.mp nd).2 (by simpa using h1) (by simpa using h2) hk

noncomputable def start (N:List Str)(vs:List V):St:=vs.map some++List.replicate (N.length - vs.length) none

noncomputable def cxOf (CX:CXT)(P:Program)(w:World)(K:PySem.W.Frag)(mg:Str->Option Value)(base:Heap)(N:List Str)(qual:Str)(scope:Scope)(f:Addr)(cd:Value)(A:Around)(outer:List Env)(s:Shared)(H:Hp)(E:XK):Cx where
 prog:=P
 w:=w
 K:=K
 mg:=mg
 base:=base
 A:=A.deeper (envOfC qual scope s.heap.objs.size f cd)
 N:=N
 s₀:=s
 H₀:=H
 env:=envOfC qual scope s.heap.objs.size f cd
 outer:=outer
 stack:=envOfC qual scope s.heap.objs.size f cd::outer
 ex:=[]
 calm:=true
 fn:=fun _=>true
 pn:=[]
 xe:=fun e s'=>wpAny (model P w) (A.deeper (envOfC qual scope s.heap.objs.size f cd)) (leaving (envOfC qual scope s.heap.objs.size f cd) e) (fun _ s''=>CX outer H s E e s'') (fun e' s''=>CX outer H s E e' s'') s'

theorem jc2 {sc:Scope}{n:Nat}{x:Str}(h:sc.names.lookup x=some .cell):∃ c,(cellsFrom n sc.names []).lookup x=some c:=by
 have q:=PySem.W.cellsFrom_some sc.names n [] (.inl h)
 exact Option.isSome_iff_exists.mp q

theorem jdr {CX : CXT}{P : Program}{w : World}{K : PySem.W.Frag}{mg : Str -> Option Value}{base : Heap}{N ps : List Str}{qual : Str}{scope : Scope}{f : Addr}{cd : Value}{A : Around}{outer : List Env}{s s1 : Shared}{H : Hp}{E : XK}{us : List Value}{vs : List V}
    (S : FnScope N ps scope) (hd : A.handled = none) (e0 : Env0 P w K mg base A outer s H) (hl : vs.length = ps.length) (r : Vals vs us)
    (x : InCallC s s.heap.objs.size (bindL (envOfC qual scope s.heap.objs.size f cd).kindOf (ps.zip us) fun _ => none) (cellsFrom (s.heap.objs.size + 1) scope.names []) (bindC (envOfC qual scope s.heap.objs.size f cd).kindOf (ps.zip us) fun _ => none) s1) :
    Inv (cxOf CX P w K mg base N qual scope f cd A outer s H E) [] (start N vs) H s1 := by
  have hpl : ps.length <= N.length := by have := congrArg List.length S.pre; rw [List.length_take] at this; omega
  obtain ⟨h1, tk, rfl, hk⟩ := x.done
  have noA : ∀ b : Addr, b ∉ (cxOf CX P w K mg base N qual scope f cd A outer s H E).ex := fun b z => absurd (show b ∈ ([] : List Addr) from z) (by simp)
  refine ⟨⟨e0.mod, S.kind, rfl, rfl, Nat.le_refl _, fun y z c h1 h2 => ?_, fun y hy => ?_, fun y c _ h => ?_, fun _ => hd, Around.frames_deeper e0.frames, .inr ⟨rfl, rfl⟩, fun b z => absurd z (noA b), e0.bs, e0.bsz, fun b _ _ => noA b, fun b z => absurd z (noA b), e0.funs, e0.frf⟩,
    rfl, e0.bare, Un.kept hk, ⟨_, x.toInCall.ns, fun i y v h1 h2 h3 => ?_⟩, fun y c h => ⟨_, x.cell y c h⟩, e0.hok.fresh (Nat.le_refl _), fun y c h => ?_, fun p hp => absurd (show p ∈ ([] : List (Addr × Obj)) from hp) (by simp), e0.hok.kept hk, ?_⟩
  · exact name_of_addr x.apart (PySem.mem_of_lookup h1) (PySem.mem_of_lookup h2)
  · have hy : scope.names.lookup y = some .cell \/ scope.names.lookup y = some .free := hy
    rcases hy with hy | hy
    · exact jc2 hy
    · exact absurd rfl (S.nofree _ (PySem.mem_of_lookup hy))
  · exact Nat.le_of_lt (x.above y c (PySem.mem_of_lookup h))
  · have hi : i < vs.length := by
      unfold start at h2
      by_cases hi : i < vs.length
      · exact hi
      · rw [List.getElem?_append_right (by simpa using hi)] at h2
        rw [List.getElem?_replicate] at h2
        split at h2 <;> cases h2
    have ha : vs[i]? = some v := by
      unfold start at h2
      rw [List.getElem?_append_left (by simpa using hi), List.getElem?_map] at h2
      cases e : vs[i]? with
      | none => rw [e] at h2; cases h2
      | some a => rw [e] at h2; cases h2; rfl
    obtain ⟨u, hu, rv⟩ := r.get ha
    have hp : ps[i]? = some y := by
      rw [<- S.pre, List.getElem?_take_of_lt (by omega)]; exact h1
    have ndP : ps.Nodup := by rw [<- S.pre]; exact S.nd.sublist (List.take_sublist _ _)
    refine ⟨u, rv, ?_⟩
    rcases S.par y (List.mem_of_getElem? hp) with k | k
    · exact .inl ⟨k, jdD ndP hp hu k⟩
    · obtain ⟨c, e⟩ := jc2 (n := s.heap.objs.size + 1) k
      refine .inr ⟨.inl k, c, e, ?_⟩
      have q := x.cell y c e
      rw [jdF ndP hp hu (by show scope.names.lookup y ≠ _; rw [k]; decide)] at q
      exact q
  · exact e0.hok.fresh (Nat.le_of_lt (x.above y c (PySem.mem_of_lookup h)))
  · unfold start
    show _ = N.length
    rw [List.length_append, List.length_map, List.length_replicate]
    omega

theorem jmB {CX:CXT}{P:Program}{w:World}{K:PySem.W.Frag}{mg:Str->Option Value}{base:Heap}{k:Nat}{f:Addr}{name qual:Str}{params:Arguments}{body:List Stmt}{scope:Scope}{dV kV doc pm cdv ct oc:Value}{an od:Option Addr}
  {osl:Array (Option Value)} {N ps:List Str} {sp:Sp} (lk:K.lookup f=some ⟨oc,od,.func (PySem.W.fnOf name qual params body scope dV kV doc pm an cdv ct),osl⟩) (hcd:PySem.W.codeIn K cdv qual=true) (S:FnScope N ps scope)
  (len:∀ vs H Q E,sp vs H Q E->vs.length=ps.length)
  (hbody:∀ (A:Around) (outer:List Env) (s:Shared) (H:Hp) (vs:List V) (Q:VK) (E:XK),Room k (A.deeper (envOfC qual scope s.heap.objs.size f cdv))->sp vs H Q E->
   ∃ t,PSs (cxOf CX P w K mg base N qual scope f cdv A outer s H E) body t/\t { nx:=fun _ H'=>Q .non H',rt:=Q } (start N vs) H) :
  FnOk P w K mg base CX (k + 1) f (PySem.W.fnOf name qual params body scope dV kV doc pm an cdv ct) ps sp:=by
 refine ⟨len,fun A outer s H args us vs Q E hr e0 hb r hsp=>?_⟩
 have hl:=len _ _ _ _ hsp
 have KX:K.In s.heap:=e0.mod.kin.keeps fun b o e=>(e0.bs b o e).1
 have lim:s.heap.NoLimit:=e0.mod.nolimit.keeps fun b o e=>(e0.bs b o e).1
 have hkind:∀ y∈ps.zip us,scope.names.lookup y.1=some .local\/(scope.names.lookup y.1=some .cell/\((cellsFrom (s.heap.objs.size + 1) scope.names []).lookup y.1).isSome=true):=fun ⟨n,v⟩ hy=>by
  rcases S.par n (List.of_mem_zip hy).1 with q | q
  ·exact .inl q
  ·exact .inr ⟨q,PySem.W.cellsFrom_some _ _ _ (.inl q)⟩
 refine codeAny_call_function hr.depth (KX _ _ lk) rfl S.co S.gen rfl (PySem.W.codeRec_of KX hcd) (hb _ _ _ _ ?_)
 refine wpAny_newFunctionEnv_cells S.kind hkind fun env he s1 x=>?_
 subst he
 refine ⟨lim.keeps x.toInCall.keep,codeAny_func ?_⟩
 obtain ⟨t,ht,hq⟩:=hbody A outer s H vs Q E (hr.deeper _) hsp
 have I:Inv (cxOf CX P w K mg base N qual scope f cdv A outer s H E) [] (start N vs) H s1:=jdr S hr.hd e0 hl r x
 refine wpAny_mono (ht [] s1 (start N vs) H _ I hq) (fun fl s' hs=>?_) fun e s' hs=>hs
 have fin:∀ {σ':St} {H':Hp} {v:V} {u:Value},Inv (cxOf CX P w K mg base N qual scope f cdv A outer s H E) [] σ' H' s'->RelV v u->Q v H'->CE outer P w H s Q u s':=
  fun {σ' H' v u} J rv q=>⟨v,H',J.os,J.bare,J.base,J.hok,rv,q⟩
 cases fl with
 | ret u=>
  obtain ⟨v,σ',H',J,rv,q⟩:=hs
  exact fin J rv q
 | next=>
  obtain ⟨σ',H',J,q⟩:=hs
  exact fin (v:=V.non) (u:=Value.none) J rfl q
 | brk=>
  obtain ⟨_,_,_,q⟩:=hs
  exact False.elim q
 | cont=>
  obtain ⟨_,_,_,q⟩:=hs
  exact False.elim q
section
variable {X:Cx}{x:Str}{p pos:Pos}{e:Expr}{es:List Expr}{t:TA}{id T:String}{r:List V->Hp->VK->Prop}

noncomputable def tCB (r:List V->Hp->VK->Prop)(t:TA):TE:=fun σ H Q=>t σ H fun vs H1=>r vs H1 Q
theorem jgA (hc:jaN X (.builtin id) r)(hg:Gl X x)(hm:X.mg x=none)(hv:bootBuiltins x=some (.builtin id))(ha:PA X (e::es) t)(hn:x ≠ "__name__" := by decide)(hdb:(x == ("__debug__" : Str))=false:=by decide)
  (he:starEach (e::es) X.env=(false,eval e X.env)::starEach es X.env:=by rfl) (hpl:(backTo pos (starEach es X.env)).any (·.1)=false:=by rfl):PE X (.Call (.Name x p) (e::es) [] pos) (tCB r t):=by
 intro pins s σ H Q I h
 refine wpAny_Call_Name_kw (jdn I hg hm hv ?_ hn hdb)
 exact PyProof.Rows.callWith_builtin1 (thn (ha pos pins s σ H _ I h) fun us s1 ⟨vs,H1,I1,r1,q1⟩=>hc pins s1 σ H1 vs us Q I1 r1 q1) he hpl
theorem jbS (hc:jaN X (.type T) r)(hg:Gl X x)(hm:X.mg x=none)(hv:bootBuiltins x=some (.type T))(ha:PA X (e::es) t)(hn:x ≠ "__name__" := by decide)(hdb:(x == ("__debug__" : Str))=false:=by decide)
  (he:starEach (e::es) X.env=(false,eval e X.env)::starEach es X.env:=by rfl) (hpl:(backTo pos (starEach es X.env)).any (·.1)=false:=by rfl):PE X (.Call (.Name x p) (e::es) [] pos) (tCB r t):=by
 intro pins s σ H Q I h
 refine wpAny_Call_Name_kw (jdn I hg hm hv ?_ hn hdb)
 exact PyProof.Rows.callWith_type1 (thn (ha pos pins s σ H _ I h) fun us s1 ⟨vs,H1,I1,r1,q1⟩=>hc pins s1 σ H1 vs us Q I1 r1 q1) he hpl
end
end L2

namespace HT
open PySem PyProof.Rows

noncomputable def lexLt:List Int->List Int->Bool
 | [],[]=>false
 | [],_::_=>true
 | _::_,[]=>false
 | x::xs,y::ys=>if x=y then lexLt xs ys else decide (x < y)
section
open PySem.SeqAt
open PySem.AutoSeq1 (wpAny_loadPart')
open PySem.MeetsSeq PySem.MeetsSeq2 PySem.MeetsSeq3

end

section
variable {prog:Program}{w:World}{A:Around}{E:Value->Shared->Prop}{s:Shared}

theorem cat_tup {t b : Addr}{vs ws : List Value}{Q : Value -> Shared -> Prop}(ht : IsTup s.heap t vs.toArray)(hb : IsTup s.heap b ws.toArray)(hv : vs ≠ [])
    (h1 : ws = [] -> Q (.ref t) s) (h2 : ws ≠ [] -> Q (.ref s.heap.objs.size) { s with heap := s.heap.push { cls := .type "tuple", data := .seq (vs ++ ws).toArray } })
    (hsz : vs.length + ws.length <= sizeLine) : wpAny (model prog w) A (binaryOp .Add (.ref t) (.ref b)) Q E s := by
  obtain ⟨⟨cls, dd, data, sl⟩, ho, hc, n, hd⟩ := id ht
  obtain ⟨⟨cls2, dd2, data2, sl2⟩, ho2, hc2, n2, hd2⟩ := id hb
  simp only at hc hd hc2 hd2
  subst hc hd hc2 hd2
  have e : vs.toArray ++ ws.toArray = (vs ++ ws).toArray := by simp
  by_cases hw : ws = []
  · exact concat_meets ⟨_, ho, rfl⟩ ⟨_, ho2, rfl⟩ noFill_tuple_add seq_tuple_add PySem.F.slot_tuple_add PySem.F.entry_tuple_add (PySem.F.args_tuple_add_2 _ _)
      (tuple_addW1 t b vs.toArray ws.toArray n n2 dd dd2 sl sl2 (by simpa using hv) (by simp [hw])) ⟨ho, ho2, h1 hw⟩
  · refine concat_meets ⟨_, ho, rfl⟩ ⟨_, ho2, rfl⟩ noFill_tuple_add seq_tuple_add PySem.F.slot_tuple_add PySem.F.entry_tuple_add (PySem.F.args_tuple_add_2 _ _)
      (tuple_addW2 t b vs.toArray ws.toArray n n2 dd dd2 sl sl2 (by simpa using hv) (by simpa using hw) (by rw [List.size_toArray, List.size_toArray]; exact hsz)) ⟨ho, ho2, ?_⟩
    rw [e]
    exact h2 hw

noncomputable def sIx (n d:Nat):Option Int->Nat
 | none=>d
 | some v=>if v < 0 then (v + (n:Int)).toNat else min v.toNat n
theorem sIx_none (n d:Nat):sIx n d none=d:=rfl
theorem sIx_nat (n d k:Nat):sIx n d (some (k:Int))=min k n:=by
 show (if (k:Int) < 0 then ((k:Int) + (n:Int)).toNat else min (k:Int).toNat n)=min k n
 rw [if_neg (by omega),Int.toNat_natCast]
theorem jjG (n d:Nat)(hd:d<=n)(o:Option Int):sIx n d o<=n:=by
 cases o with
 | none=>exact hd
 | some v=>
  show (if v < 0 then (v + (n:Int)).toNat else min v.toNat n)<=n
  by_cases hv:v < 0
  ·rw [if_pos hv]; omega
  ·rw [if_neg hv]; exact Nat.min_le_right _ _
theorem jf0 (v:Int)(n d:Nat):(if v < 0 then max (v + (n:Int)) 0 else min v (n:Int))=((sIx n d (some v):Nat):Int):=by
 show (if v < 0 then max (v + (n:Int)) 0 else min v (n:Int))=(((if v < 0 then (v + (n:Int)).toNat else min v.toNat n):Nat):Int)
 by_cases hv:v < 0
 ·simp only [if_pos hv]; omega
 ·simp only [if_neg hv]; omega
theorem jeZ (lo hi:Option Int)(n:Nat):Builtin.Slice.sliceAdjust lo hi 1 (n:Int)=(((sIx n 0 lo:Nat):Int),((sIx n n hi:Nat):Int)):=by
 have h1:¬ ((1:Int) < 0):=by omega
 unfold Builtin.Slice.sliceAdjust
 simp only [h1,if_false]
 refine Prod.ext ?_ ?_
 ·cases lo with
  | none=>rfl
  | some v=>exact jf0 v n 0
 ·cases hi with
  | none=>rfl
  | some v=>exact jf0 v n n
theorem jeL (i j:Nat):Builtin.Slice.slicePlaces (i:Int) (j:Int) 1=j - i:=by
 unfold Builtin.Slice.slicePlaces
 have h1:(1:Int) > 0:=by omega
 simp only [h1,if_true,Int.ediv_one]
 split <;> omega
theorem jaL {v:Value}{o:Option Int}{Q:Option Int->Shared->Prop}(p:IsPart v o)(h:Q o s):wpAny (model prog w) A (Builtin.Slice.slicePartIndex v) Q E s:=by
 cases p with
 | none=>exact slicePart_none h
 | int i t=>exact slicePart_int h
theorem jaU {sl:Addr}{vl vu:Value}{lo hi:Option Int}{n:Nat}{Q:Int×Int×Nat->Shared->Prop}(hs:s.heap.IsSliceOf sl vl vu .none)(pl:IsPart vl lo)(pu:IsPart vu hi)
  (h:Q (((sIx n 0 lo:Nat):Int),1,sIx n n hi - sIx n 0 lo) s):wpAny (model prog w) A (Builtin.Slice.sliceApplied (.ref sl) (pure (n:Int))) Q E s:=by
 obtain ⟨os,hos,hcs,hds⟩:=id hs
 unfold Builtin.Slice.sliceApplied Builtin.Slice.sliceFields
 refine wpAny_bind (wpAny_bind (wpAny_field hos hds (x:=vl) rfl (wpAny_bind (wpAny_field hos hds (x:=vu) rfl (wpAny_bind (wpAny_field hos hds (x:=.none) rfl (wpAny_pure ?_)))))))
 refine wpAny_bind (slicePart_none ?_)
 show wpAny _ _ (if ((1:Int) == 0)=true then _ else _) _ _ s
 rw [if_neg (by decide)]
 refine wpAny_bind (jaL pl (wpAny_bind (jaL pu (wpAny_bind (wpAny_pure ?_)))))
 show wpAny _ _ (match Builtin.Slice.sliceAdjust lo hi 1 (n:Int) with | (lo,hi)=>pure (lo,(1:Int),Builtin.Slice.slicePlaces lo hi 1)) _ _ s
 rw [jeZ lo hi n]
 show wpAny _ _ (pure (((sIx n 0 lo:Nat):Int),(1:Int),Builtin.Slice.slicePlaces ((sIx n 0 lo:Nat):Int) ((sIx n n hi:Nat):Int) 1)) _ _ s
 rw [jeL]
 exact wpAny_pure h
theorem jgu (xs:Array Value)(i k:Nat):((List.range k).filterMap fun (m:Nat)=>xs[((i:Int) + (m:Int) * 1).toNat]?).toArray=((xs.toList.drop i).take k).toArray:=by
 have e:(fun (m:Nat)=>xs[((i:Int) + (m:Int) * 1).toNat]?)=fun m=>xs[i + m]?:=by
  funext m
  have:((i:Int) + (m:Int) * 1).toNat=i + m:=by omega
  rw [this]
 rw [e]
 have:=pick_run xs i k
 rw [List.filterMap_map] at this
 have e2:((fun x=>xs[x]?) ∘ fun x=>i + x)=fun m=>xs[i + m]?:=rfl
 rw [e2] at this
 rw [this]

theorem getItem_tuple_cut {t sl:Addr}{items:Array Value}{vl vu:Value}{lo hi:Option Int}{Q:Value->Shared->Prop}(ht:IsTup s.heap t items)(hs:s.heap.IsSliceOf sl vl vu .none)(pl:IsPart vl lo)(pu:IsPart vu hi)
  (hw:¬ (sIx items.size 0 lo=0/\sIx items.size items.size hi=items.size))
  (h:Q (.ref s.heap.objs.size) { s with heap:=s.heap.push { cls:=.type "tuple",data:=.seq ((items.toList.drop (sIx items.size 0 lo)).take (sIx items.size items.size hi - sIx items.size 0 lo)).toArray } })
  (hsz:items.size<=sizeLine):wpAny (model prog w) A (getItem (.ref t) (.ref sl)) Q E s:=by
 have htake:sizeOk (.seq ((items.toList.drop (sIx items.size 0 lo)).take (sIx items.size items.size hi - sIx items.size 0 lo)).toArray):=by
  show ((items.toList.drop (sIx items.size 0 lo)).take (sIx items.size items.size hi - sIx items.size 0 lo)).toArray.size<=sizeLine
  rw [List.size_toArray,List.length_take,List.length_drop,Array.length_toList]
  omega
 have hj:sIx items.size items.size hi<=items.size:=jjG _ _ (Nat.le_refl _) hi
 obtain ⟨os,hos,hcs,hds⟩:=id hs
 have hTs:s.TypeIs (.ref sl) "slice" := ⟨os,hos,hcs⟩
 unfold getItem
 try with_reducible refine wpAny_holding ?_
 first | refine wpAny_bind (wpAny_pure ?_) | skip
 refine wpAny_bind (wpAny_sequenceKey ht.typeIs (by decide) ?_)
 refine wpAny_bind (wpAny_callSpecial?_slot (name:=Str.ofString "__getitem__") ht.typeIs PyProof.Rows.slot_tuple_getitem
  (wpAny_call_entry PyProof.Rows.slot_tuple_getitem ht.typeIs entry_tuple_getitem ?_ (args_tuple_getitem _ _)))
 show wpAny _ _ (Builtin.Tuple.tupleItemsOf (.ref t) >>= _) _ _ s
 refine wpAny_bind (tupleItemsOf_ ht ?_)
 refine wpAny_bind (wpAny_typeOf hTs ?_)
 rw [if_pos (by decide)]
 refine wpAny_bind (jaU hs pl pu ?_)
 have hno:¬ ((((sIx items.size 0 lo:Nat):Int) == 0 && (1:Int) == 1 && (sIx items.size items.size hi - sIx items.size 0 lo) == items.size)=true):=by
  intro q
  rw [Bool.and_eq_true,Bool.and_eq_true] at q
  have q1:((sIx items.size 0 lo:Nat):Int)=0:=eq_of_beq q.1.1
  have q2:sIx items.size items.size hi - sIx items.size 0 lo=items.size:=eq_of_beq q.2
  exact hw ⟨by omega,by omega⟩
 show wpAny _ _ (if (((sIx items.size 0 lo:Nat):Int) == 0 && (1:Int) == 1 && (sIx items.size items.size hi - sIx items.size 0 lo) == items.size)=true then _ else _) _ _ s
 rw [if_neg hno,jgu]
 first
  | exact wpAny_bind (m:=Builtin.Tuple.tupleExact _) (wpAny_newObj_type (wpAny_pure ⟨_,rfl,wpAny_pure h⟩) htake)
  | exact wpAny_bind (m:=Builtin.Tuple.tupleExact _) (wpAny_newObj_type (wpAny_bind (wpAny_pure (wpAny_pure ⟨_,rfl,wpAny_pure h⟩))) htake)
  | exact wpAny_bind (wpAny_bind (m:=Builtin.Tuple.tupleExact _) (wpAny_newObj_type (wpAny_pure (wpAny_pure ⟨_,rfl,wpAny_pure h⟩)) htake))
  | exact wpAny_bind (wpAny_bind (m:=Builtin.Tuple.tupleExact _) (wpAny_newObj_type (wpAny_pure ⟨_,rfl,wpAny_pure h⟩) htake))
end
end HT

namespace L2
open PySem PySem.Spec PyProof.Rows

noncomputable abbrev TO:=St->Hp->(Option Int->Hp->Prop)->Prop
noncomputable def PO (X:Cx)(e:Option Expr)(t:TO):Prop:=
 ∀ (pins:List (Addr×Obj)) (s:Shared) (σ:St) (H:Hp) (Q:Option Int->Hp->Prop),Inv X pins σ H s->t σ H Q->
  wpAny (model X.prog X.w) X.A (evalPart e X.env) (fun u s'=>∃ o H',Inv X pins σ H' s'/\IsPart u o/\Q o H') X.xe s
noncomputable def jhR:TO:=fun _ H Q=>Q none H
noncomputable def jlT (t:TE):TO:=fun σ H Q=>t σ H fun x H1=>∃ i,x=.int i/\Q (some i) H1

section
variable {X:Cx}{e:Expr}{te:TE}{lo hi:Option Expr}{tl th:TO}{pos p2:Pos}

theorem jib:PO X none jhR:=by
 intro pins s σ H Q I h
 rw [evalPart_none]
 exact wpAny_pure ⟨none,H,I,.none,h⟩
theorem jia (h:PE X e te):PO X (some e) (jlT te):=by
 intro pins s σ H Q I hw
 rw [evalPart_some]
 refine thn (h pins s σ H _ I hw) fun u s1 ⟨x,H1,I1,r1,q1⟩=>?_
 obtain ⟨i,rfl,q⟩:=q1
 obtain ⟨t,rfl⟩:=r1
 exact ⟨some i,H1,I1,.int i t,q⟩

noncomputable def SlR (X:Cx)(r:V->Option Int->Option Int->Hp->VK->Prop):Prop:=
 ∀ (pins:List (Addr×Obj)) (s:Shared) (σ:St) (H:Hp) (x:V) (v vl vu:Value) (lo hi:Option Int) (sl:Addr) (Q:VK),Inv X pins σ H s->RelV x v->s.heap.IsSliceOf sl vl vu .none->IsPart vl lo->IsPart vu hi->r x lo hi H Q->
  ∃ T id,typeLookup (.type T) "__getitem__" = pure (some (.builtin id))/\s.TypeIs v T/\wpAny (model X.prog X.w) X.A (getItem v (.ref sl)) (EP X pins σ Q) X.xe s
theorem SlR.or {r r':V->Option Int->Option Int->Hp->VK->Prop}(h:SlR X r)(h':SlR X r'):SlR X (fun x lo hi H Q=>r x lo hi H Q\/r' x lo hi H Q):=by
 intro pins s σ H x v vl vu lo hi sl Q I rx hs pl pu q
 rcases q with q | q
 ·exact h pins s σ H x v vl vu lo hi sl Q I rx hs pl pu q
 ·exact h' pins s σ H x v vl vu lo hi sl Q I rx hs pl pu q
noncomputable def tSl (r:V->Option Int->Option Int->Hp->VK->Prop)(te:TE)(tl th:TO):TE:=fun σ H Q=>te σ H fun x H1=>tl σ H1 fun l H2=>th σ H2 fun u H3=>r x l u H3 Q
theorem jgw {r:V->Option Int->Option Int->Hp->VK->Prop}(hr:SlR X r)(he:PE X e te)(hl:PO X lo tl)(hu:PO X hi th):PE X (.Subscript e (.Slice lo hi none p2) pos) (tSl r te tl th):=by
 intro pins s σ H Q I h
 refine Subscript_ (thn (he pins s σ H _ I h) fun v s1 ⟨x,H1,I1,r1,q1⟩=>?_)
 refine wpAny_Slice (thn (hl pins s1 σ H1 _ I1 q1) fun vl s2 ⟨l,H2,I2,pl,q2⟩=>thn (hu pins s2 σ H2 _ I2 q2) fun vu s3 ⟨u,H3,I3,pu,q3⟩=>?_)
 rw [evalPart_none]
 refine wpAny_pure ?_
 have I4:Inv X pins σ H3 { s3 with heap:=s3.heap.push { cls:=.type "slice",data:=.fields #[vl,vu,.none] } }:=I3.kept (t':=s3.toks) fun b ob q=>Heap.get?_push_of_some _ q
 obtain ⟨T,id,hT,ht,hg⟩:=hr pins { s3 with heap:=s3.heap.push { cls:=.type "slice",data:=.fields #[vl,vu,.none] } } σ H3 x v vl vu l u s3.heap.objs.size Q I4 r1 (Heap.IsSliceOf.new ..) pl pu q3
 show wpAny (model X.prog X.w) X.A (subscriptTail e (.Slice lo hi none p2) v (.ref s3.heap.objs.size)) (EP X pins σ Q) X.xe { s3 with heap:=s3.heap.push { cls:=.type "slice",data:=.fields #[vl,vu,.none] } }
 exact tail_any (ops:=[.ref s3.heap.objs.size,v]) ht hT hg (by with_unfolding_all rfl)

noncomputable def cutV (xs:List V)(lo hi:Option Int):List V:=(xs.drop (HT.sIx xs.length 0 lo)).take (HT.sIx xs.length xs.length hi - HT.sIx xs.length 0 lo)
theorem jcd (xs:List V)(lo hi:Option Int):(cutV xs lo hi).length<=xs.length:=by
 unfold cutV
 rw [List.length_take,List.length_drop]
 omega
noncomputable def rSlT (K:PySem.W.Frag):V->Option Int->Option Int->Hp->VK->Prop:=fun x lo hi H Q=>∃ a xs,x=.ref a/\SqT K H a xs/\
 ¬ (HT.sIx xs.length 0 lo=0/\HT.sIx xs.length xs.length hi=xs.length)/\∀ p,H p=none->Q (.ref p) (upd H p (.tup (cutV xs lo hi)))
theorem jjw:SlR X (rSlT X.K):=by
 intro pins s σ H x v vl vu lo hi sl Q I rx hs pl pu h
 obtain ⟨a,xs,rfl,hx,hw,q⟩:=h
 cases rx
 obtain ⟨its,r,ht,hz⟩:=I.tuple hx
 have hlen:its.toArray.size=xs.length:=by rw [List.size_toArray]; exact r.length.symm
 refine ⟨"tuple",_,PyProof.Rows.slot_tuple_getitem.lookup,ht.typeIs,?_⟩
 refine HT.getItem_tuple_cut ht hs pl pu (by rw [hlen]; exact hw) ?_ (by rw [hlen]; exact hz)
 rw [hlen]
 refine ⟨.ref s.heap.objs.size,_,I.laid (t':=s.toks) (o:=.tup (cutV xs lo hi)) (fun b ob q=>Heap.get?_push_of_some _ q) (Nat.le_refl _) ?_,rfl,q _ (I.hok.fresh (Nat.le_refl _))⟩
 exact ⟨Nat.le_trans (jcd xs lo hi) hz,_,(r.drop (HT.sIx xs.length 0 lo)).take (HT.sIx xs.length xs.length hi - HT.sIx xs.length 0 lo),TupD.new _ _⟩

noncomputable def jl7 (K:PySem.W.Frag):R2:=fun x y H Q=>∃ a b xs ys,x=.ref a/\y=.ref b/\SqT K H a xs/\SqT K H b ys/\xs≠[]/\xs.length + ys.length<=sizeLine/\
 (ys=[]->Q (.ref a) H)/\(ys≠[]->∀ p,H p=none->Q (.ref p) (upd H p (.tup (xs++ys))))
theorem Vals.nil_iff {xs:List V}{us:List Value}(r:Vals xs us):us=[]↔xs=[]:=by
 cases r with
 | nil=>simp
 | cons _ _=>simp
theorem jit:OpR X (binaryOp .Add) (jl7 X.K):=by
 intro pins s σ H x y v u Q I rx ry h
 obtain ⟨a,b,xs,ys,rfl,rfl,ha,hb,hx,hz,q1,q2⟩:=h
 cases rx
 cases ry
 obtain ⟨its,r1,p1,_⟩:=I.tuple ha
 obtain ⟨its2,r2,p2,_⟩:=I.tuple hb
 refine HT.cat_tup p1 p2 (fun z=>hx (r1.nil_iff.mp z)) (fun z=>⟨.ref a,H,I,rfl,q1 (r2.nil_iff.mp z)⟩) (fun z=>?_) (by rw [<- r1.length,<- r2.length]; exact hz)
 refine ⟨.ref s.heap.objs.size,_,I.laid (t':=s.toks) (o:=.tup (xs++ys)) (fun b ob q=>Heap.get?_push_of_some _ q) (Nat.le_refl _) ?_,rfl,q2 (fun w=>z (r2.nil_iff.mpr w)) _ (I.hok.fresh (Nat.le_refl _))⟩
 exact ⟨by rw [List.length_append]; exact hz,_,r1.append r2,TupD.new _ _⟩
end

noncomputable def ixN (n:Nat)(i:Int):Option Nat:=if 0<=i then (if i < n then some i.toNat else none) else if -(n:Int)<=i then some (i + n).toNat else none
noncomputable def atI {α:Type}(xs:List α)(i:Int):Option α:=(ixN xs.length i).bind fun j=>xs[j]?
theorem jfH {n:Nat}{i:Int}{j:Nat}(h:ixN n i=some j):seqIndex? i n=some j/\j < n/\-(n:Int)<=i/\i < n:=by
 unfold ixN at h
 by_cases h0:0<=i
 ·rw [if_pos h0] at h
  by_cases h1:i < n
  ·rw [if_pos h1] at h
   have e:i.toNat=j:=Option.some.inj h
   exact ⟨by rw [seqIndex_of h0 h1,e],by omega,by omega,h1⟩
  ·rw [if_neg h1] at h; cases h
 ·rw [if_neg h0] at h
  by_cases h1:-(n:Int)<=i
  ·rw [if_pos h1] at h
   have e:(i + n).toNat=j:=Option.some.inj h
   exact ⟨by rw [seqIndex_neg (by omega) h1,e],by omega,h1,by omega⟩
  ·rw [if_neg h1] at h; cases h
theorem jd4 {α:Type}{xs:List α}{i:Int}{v:α}(h:atI xs i=some v):∃ j,seqIndex? i xs.length=some j/\xs[j]?=some v/\j < xs.length/\-(xs.length:Int)<=i/\i < xs.length:=by
 unfold atI at h
 cases e:ixN xs.length i with
 | none=>rw [e] at h; cases h
 | some j=>
  rw [e] at h
  obtain ⟨h1,h2,h3,h4⟩:=jfH e
  exact ⟨j,h1,h,h2,h3,h4⟩
theorem jax {α:Type}{xs:List α}{j:Nat}{v:α}(h:xs[j]?=some v):atI xs (j:Int)=some v:=by
 have hj:j < xs.length:=(List.getElem?_eq_some_iff.mp h).1
 have e:ixN xs.length (j:Int)=some j:=by
  unfold ixN
  rw [if_pos (by omega),if_pos (by omega)]; simp
 unfold atI; rw [e]; exact h
noncomputable def jd9 (b:Expr):Prop:=∀ o i,subscripted b false o i=operate [o,i] (getItem o i)
noncomputable def IxR (X:Cx)(r:R2):Prop:=
 ∀ (value slice:Expr) (pins:List (Addr×Obj)) (s:Shared) (σ:St) (H:Hp) (x y:V) (v u:Value) (Q:VK),Inv X pins σ H s->RelV x v->RelV y u->r x y H Q->
  subscripted slice false v u=operate [v,u] (getItem v u)->wpAny (model X.prog X.w) X.A (subscriptTail value slice v u) (EP X pins σ Q) X.xe s
noncomputable def MtR (X:Cx)(id:String)(r:V->List V->Hp->VK->Prop):Prop:=
 ∀ (pins:List (Addr×Obj)) (s:Shared) (σ:St) (H:Hp) (x:V) (xs:List V) (v:Value) (us:List Value) (Q:VK),Inv X pins σ H s->RelV x v->Vals xs us->r x xs H Q->
  wpAny (model X.prog X.w) X.A (call (.builtin id) (v::us)) (EP X pins σ Q) X.xe s
section
variable {X:Cx}{a b:Expr}{ta tb:TE}{pos:Pos}
theorem IxR.or {r r':R2}(h:IxR X r)(h':IxR X r'):IxR X (fun x y H Q=>r x y H Q\/r' x y H Q):=by
 intro value slice pins s σ H x y v u Q I rx ry q hs
 rcases q with q | q
 ·exact h value slice pins s σ H x y v u Q I rx ry q hs
 ·exact h' value slice pins s σ H x y v u Q I rx ry q hs
theorem jmf {r:R2}(hr:IxR X r)(ha:PE X a ta)(hb:PE X b tb)(hs:jd9 b):PE X (.Subscript a b pos) (tOp r ta tb):=by
 intro pins s σ H Q I h
 exact Subscript_ (binT ha hb I h fun v u s2 x y H2 I2 rx ry q=>hr a b pins s2 σ H2 x y v u Q I2 rx ry q (hs _ _))

noncomputable def rIxL (K:PySem.W.Frag):R2:=fun x y H Q=>∃ p xs i v,x=.ref p/\y=.int i/\SqL K H p xs/\atI xs i=some v/\Q v H
noncomputable def rIxT (K:PySem.W.Frag):R2:=fun x y H Q=>∃ p xs i v,x=.ref p/\y=.int i/\SqT K H p xs/\atI xs i=some v/\Q v H
noncomputable def rIxS:R2:=fun x y H Q=>∃ z i c,x=.str z/\y=.int i/\z.length<=sizeLine/\atI z.cps.toList i=some c/\Q (.str ⟨#[c]⟩) H
theorem jiK : IxR X (rIxL X.K) := by
  intro value slice pins s σ H x y v u Q I rx ry h hs
  obtain ⟨p, xs, i, z, rfl, rfl, hq, he, q⟩ := h
  cases rx
  obtain ⟨t, rfl⟩ := ry
  obtain ⟨its, r, pl, hz⟩ := I.list hq
  obtain ⟨j, h1, h2, h3, h4, h5⟩ := jd4 he
  obtain ⟨w, ew, rw'⟩ := r.get h2
  have hl := r.length
  have hn := jb2
  have fin : EP X pins σ Q w s := ⟨z, H, I, rw', q⟩
  by_cases h0 : 0 <= i
  · have hj : i.toNat = j := by
      rw [seqIndex_of h0 h5] at h1
      exact Option.some.inj h1
    exact item_listR pl.isList h0 (by omega) (by rw [hj]; simpa using ew) fin hs
  · have hj : (i + (its.toArray.size : Int)).toNat = j := by
      rw [seqIndex_neg (by omega) h4] at h1
      rw [List.size_toArray, <- hl]
      exact Option.some.inj h1
    exact subscriptTail_builtinR (x := w) pl.isList.typeIs slot_list_getitem.lookup
      (wpAny_getItem_list_neg (Q := fun r s' => r = w /\ EP X pins σ Q r s') pl.isList (by omega) (by rw [List.size_toArray] <;> omega) (by omega) (by rw [hj]; simpa using ew) ⟨rfl, fin⟩) hs
theorem jkE:IxR X (rIxT X.K):=by
 intro value slice pins s σ H x y v u Q I rx ry h hs
 obtain ⟨p,xs,i,z,rfl,rfl,hq,he,q⟩:=h
 cases rx
 obtain ⟨t,rfl⟩:=ry
 obtain ⟨its,r,pl,hz⟩:=I.tuple hq
 obtain ⟨j,h1,h2,h3,h4,h5⟩:=jd4 he
 obtain ⟨w,ew,rw'⟩:=r.get h2
 have hl:=r.length
 have hn:=jb2
 have fin:EP X pins σ Q w s:=⟨z,H,I,rw',q⟩
 exact subscriptTail_builtinR (x:=w) pl.typeIs slot_tuple_getitem.lookup
  (getItem_tuple (j:=j) (Q:=fun r s'=>r=w/\EP X pins σ Q r s') pl (by omega) (by omega) (by rw [List.size_toArray,<- hl]; exact h1) (by simpa using ew) ⟨rfl,fin⟩) hs
theorem jkF:IxR X rIxS:=by
 intro value slice pins s σ H x y v u Q I rx ry h hs
 obtain ⟨z,i,c,rfl,rfl,hz,he,q⟩:=h
 obtain ⟨t,rfl⟩:=rx
 obtain ⟨t',rfl⟩:=ry
 obtain ⟨j,h1,h2,h3,h4,h5⟩:=jd4 he
 have hl:z.cps.toList.length=z.length:=by simp [Str.length]
 rw [hl] at h1 h4 h5
 have hn:=jb2
 exact tail_any (typeIs_str s z t) slot_str_getitem.lookup (getItem_str (c:=c) (by
  have e1:decide (i < -(2 ^ 63:Int))=false:=decide_eq_false (by omega)
  have e2:decide (i ≥ 2 ^ 63)=false:=decide_eq_false (by omega)
  rw [e1,e2,Bool.or_false]) (by rw [h1]; simpa using h2) ⟨.str ⟨#[c]⟩,H,I.tok _,⟨_,rfl⟩,q⟩) hs
noncomputable def rIx (K:PySem.W.Frag):R2:=fun x y H Q=>rIxL K x y H Q\/rIxT K x y H Q\/rIxS x y H Q
theorem jkG:IxR X (rIx X.K):=jiK.or (jkE.or jkF)

theorem jeQ (its:List Value)(n j:Nat)(u:Value):Obj.mapSeq (·.setIfInBounds j u) { cls:=.type "list",data:=.seq its.toArray n }={ cls:=.type "list",data:=.seq (its.set j u).toArray n }:=by
 simp [Obj.mapSeq]
theorem Inv.lst {pins:List (Addr×Obj)}{σ:St}{H:Hp}{s:Shared}{p:Addr}{xs:List V}(I:Inv X pins σ H s)(h:H p=some (.lst xs)) :
  ∃ (its:List Value) (n:Nat),Vals xs its/\s.heap.get? p=some { cls:=.type "list",data:=.seq its.toArray n }/\xs.length<=sizeLine:=by
 obtain ⟨z,its,n,r,e⟩:=I.hok p _ h
 exact ⟨its,n,r,e,z⟩
theorem Inv.lstUpd {pins:List (Addr×Obj)}{σ:St}{H:Hp}{s:Shared}{p:Addr}{xs ys:List V}{its its':List Value}{n n':Nat}{f:Obj->Obj}(I:Inv X pins σ H s)(h:H p=some (.lst xs))
  (ho:s.heap.get? p=some { cls:=.type "list",data:=.seq its.toArray n }) (hf:f { cls:=.type "list",data:=.seq its.toArray n }={ cls:=.type "list",data:=.seq its'.toArray n' }) (r:Vals ys its') (hz:ys.length<=sizeLine) (t:Nat) :
  Inv X pins σ (upd H p (.lst ys)) { s with heap:=s.heap.update p f,toks:=t }:=by
 have e:(s.heap.update p f).get? p=some { cls:=.type "list",data:=.seq its'.toArray n' }:=by
  rw [Heap.get?_update_self f ho (by rw [hf] <;> rfl),hf]
 refine I.write (x:=p) (e:=p) (by rw [h]; trivial) (.inl rfl) (fun b u hb q=>(Heap.get?_update_other _ _ (Ne.symm hb)).trans q) ⟨_,e⟩ ?_
 exact ⟨hz,its',n',r,e⟩
noncomputable def jjM:V->V->V->Hp->(Hp->Prop)->Prop:=fun o i v H Q=>∃ p xs k j,o=.ref p/\i=.int k/\H p=some (.lst xs)/\ixN xs.length k=some j/\Q (upd H p (.lst (xs.set j v)))
theorem jgf : PSet X jjM := by
  intro pins s σ H o i v ov iv u Q I ro ri rv h
  obtain ⟨p, xs, k, j, rfl, rfl, hp, hj, q⟩ := h
  cases ro
  obtain ⟨t, rfl⟩ := ri
  obtain ⟨its, n, r, ho, hz⟩ := I.lst hp
  obtain ⟨h1, h2, h3, h4⟩ := jfH hj
  have hl := r.length
  have hn := jb2
  have I' : Inv X pins σ (upd H p (.lst (xs.set j v))) { s with heap := s.heap.update p (Obj.mapSeq (·.setIfInBounds j u)) } :=
    I.lstUpd hp ho (jeQ its n j u) (r.set rv j) (by rw [List.length_set]; exact hz) s.toks
  by_cases h0 : 0 <= k
  · have hk : k.toNat = j := by
      rw [seqIndex_of h0 h4] at h1
      exact Option.some.inj h1
    exact PySem.W.ki_setAt ho h0 (by omega) (by rw [List.size_toArray, <- hl]; exact h4) (by rw [hk]; exact ⟨_, I', q⟩)
  · have hk : (k + (its.toArray.size : Int)).toNat = j := by
      rw [seqIndex_neg (by omega) h3] at h1
      rw [List.size_toArray, <- hl]
      exact Option.some.inj h1
    exact PySem.W.ki_setBack ho (by omega) (by rw [List.size_toArray, <- hl]; exact h3) (by omega) (by rw [hk]; exact ⟨_, I', q⟩)

theorem jda (lo hi:Option Int)(n:Nat):(sliceBounds lo hi none n).1=((HT.sIx n 0 lo:Nat):Int)/\(sliceBounds lo hi none n).2.1=((HT.sIx n n hi:Nat):Int)/\(sliceBounds lo hi none n).2.2=1:=by
 refine ⟨?_,?_,rfl⟩
 ·cases lo with
  | none=>simp [sliceBounds,HT.sIx]
  | some i=>
   simp only [sliceBounds,HT.sIx,Option.getD_none,show (1:Int) > 0 by decide,if_true]
   by_cases h:i < 0
   ·simp only [h,if_true] <;> omega
   ·simp only [h,if_false] <;> omega
 ·cases hi with
  | none=>simp [sliceBounds,HT.sIx]
  | some i=>
   simp only [sliceBounds,HT.sIx,Option.getD_none,show (1:Int) > 0 by decide,if_true]
   by_cases h:i < 0
   ·simp only [h,if_true] <;> omega
   ·simp only [h,if_false] <;> omega
theorem jcM (its:List Value)(lo hi:Option Int):slicePick its.toArray lo hi none=((its.drop (HT.sIx its.length 0 lo)).take (HT.sIx its.length its.length hi - HT.sIx its.length 0 lo)).toArray:=by
 obtain ⟨h1,h2,h3⟩:=jda lo hi its.toArray.size
 unfold slicePick
 rw [h1,h2,h3]
 simp only [sliceRange_one,pick_run,List.size_toArray] <;> rfl
noncomputable def rSlL (K:PySem.W.Frag):V->Option Int->Option Int->Hp->VK->Prop:=fun x lo hi H Q=>∃ a xs,x=.ref a/\SqL K H a xs/\∀ p,H p=none->Q (.ref p) (upd H p (.lst (cutV xs lo hi)))
theorem jhW:SlR X (rSlL X.K):=by
 intro pins s σ H x v vl vu lo hi sl Q I rx hs pl pu h
 obtain ⟨a,xs,rfl,hx,q⟩:=h
 cases rx
 obtain ⟨its,r,ht,hz⟩:=I.list hx
 have hlen:=r.length
 refine ⟨"list",_,slot_list_getitem.lookup,ht.isList.typeIs,?_⟩
 refine wpAny_getItem_list_slice ht.isList hs pl pu .none (by simp) ?_ (by rw [List.size_toArray] <;> omega)
 rw [jcM,<- hlen]
 refine ⟨.ref s.heap.objs.size,_,I.laid (t':=s.toks) (o:=.lst (cutV xs lo hi)) (fun b ob q=>Heap.get?_push_of_some _ q) (Nat.le_refl _) ?_,rfl,q _ (I.hok.fresh (Nat.le_refl _))⟩
 exact ⟨Nat.le_trans (jcd xs lo hi) hz,_,0,(r.drop (HT.sIx xs.length 0 lo)).take (HT.sIx xs.length xs.length hi - HT.sIx xs.length 0 lo),Heap.get?_push_size _ rfl⟩

noncomputable def flatV:V->Bool
 | .non=>true
 | .bl _=>true
 | .int _=>true
 | .str _=>true
 | _=>false
noncomputable def eqV:V->V->Bool
 | .non,.non=>true
 | .bl a,.bl b=>a == b
 | .bl a,.int b=>(if a then 1 else 0) == b
 | .int a,.bl b=>a == (if b then 1 else 0)
 | .int a,.int b=>a == b
 | .str a,.str b=>a == b
 | _,_=>false
theorem jkS {A:Around}{s:Shared}{y x:V}{u v:Value}(ry:RelV y u)(rx:RelV x v)(fy:flatV y=true)(fx:flatV x=true):SeqAt.EqAt A s u v (eqV y x):=by
 cases y with
 | non=>
  cases ry
  cases x with
  | non=>cases rx; exact SeqAt.EqAt.same _
  | bl b=>cases rx; exact SeqAt.EqAt.none_bool b
  | int b=>obtain ⟨t,rfl⟩:=rx; exact SeqAt.EqAt.none_int b t
  | str b=>obtain ⟨t,rfl⟩:=rx; exact SeqAt.EqAt.none_str b t
  | _=>exact absurd (show false=true from fx) Bool.false_ne_true
 | bl a=>
  cases ry
  cases x with
  | non=>cases rx; exact SeqAt.EqAt.bool_none a
  | bl b=>cases rx; exact SeqAt.EqAt.bool_bool a b
  | int b=>obtain ⟨t,rfl⟩:=rx; exact SeqAt.EqAt.bool_int a b t
  | str b=>obtain ⟨t,rfl⟩:=rx; exact SeqAt.EqAt.bool_str a b t
  | _=>exact absurd (show false=true from fx) Bool.false_ne_true
 | int a=>
  obtain ⟨t',rfl⟩:=ry
  cases x with
  | non=>cases rx; exact SeqAt.EqAt.int_none a t'
  | bl b=>cases rx; exact SeqAt.EqAt.int_bool a t' b
  | int b=>obtain ⟨t,rfl⟩:=rx; exact SeqAt.EqAt.int_int a t' b t
  | str b=>obtain ⟨t,rfl⟩:=rx; exact SeqAt.EqAt.int_str a t' b t
  | _=>exact absurd (show false=true from fx) Bool.false_ne_true
 | str a=>
  obtain ⟨t',rfl⟩:=ry
  cases x with
  | non=>cases rx; exact SeqAt.EqAt.str_none a t'
  | bl b=>cases rx; exact SeqAt.EqAt.str_bool a t' b
  | int b=>obtain ⟨t,rfl⟩:=rx; exact SeqAt.EqAt.str_int a t' b t
  | str b=>obtain ⟨t,rfl⟩:=rx; exact SeqAt.EqAt.str_str a t' b t
  | _=>exact absurd (show false=true from fx) Bool.false_ne_true
 | _=>exact absurd (show false=true from fy) Bool.false_ne_true
noncomputable def eqU (x:V)(u:Value):Bool:=match u with
 | .none=>eqV .non x
 | .bool b=>eqV (.bl b) x
 | .int i _=>eqV (.int i) x
 | .str z _=>eqV (.str z) x
 | _=>false
theorem jhv {x y:V}{u:Value}(r:RelV y u)(f:flatV y=true):eqU x u=eqV y x:=by
 cases y with
 | non=>cases r; rfl
 | bl b=>cases r; rfl
 | int i=>obtain ⟨t,rfl⟩:=r; rfl
 | str z=>obtain ⟨t,rfl⟩:=r; rfl
 | _=>exact absurd (show false=true from f) Bool.false_ne_true
theorem jci {x:V}:∀ {xs:List V} {us:List Value},Vals xs us->xs.all flatV=true->us.any (eqU x)=xs.any fun y=>eqV y x
 | _,_,.nil,_=>rfl
 | y::xs,u::us,.cons r t,f=>by
  rw [List.all_cons,Bool.and_eq_true] at f
  rw [List.any_cons,List.any_cons,jhv r f.1,jci t f.2]
theorem jaP {A:Around}{s:Shared}{x:V}{v:Value}(rx:RelV x v)(fx:flatV x=true):∀ {xs:List V} {us:List Value},Vals xs us->xs.all flatV=true->∀ u∈us,SeqAt.EqAt A s u v (eqU x u)
 | _,_,.nil,_=>fun u hu=>by cases hu
 | y::xs,u::us,.cons r t,f=>fun u' hu=>by
  rw [List.all_cons,Bool.and_eq_true] at f
  rcases List.mem_cons.mp hu with rfl | hu
  ·rw [jhv r f.1]; exact jkS r rx f.1 fx
  ·exact jaP rx fx t f.2 u' hu
noncomputable def inV (x:V)(xs:List V):Bool:=xs.any fun y=>eqV y x
noncomputable def rIn (K:PySem.W.Frag)(neg:Bool):R2:=fun x y H Q=>∃ p xs,y=.ref p/\(SqL K H p xs\/SqT K H p xs)/\flatV x=true/\xs.all flatV=true/\Q (.bl (if neg then !inV x xs else inV x xs)) H
theorem jfo:OpR X (compareOp .In) (rIn X.K false):=by
 intro pins s σ H x y v u Q I rx ry h
 obtain ⟨p,xs,rfl,hq,fx,fs,q⟩:=h
 cases ry
 rcases hq with hq | hq
 ·obtain ⟨its,r,pl,hz⟩:=I.list hq
  refine SeqAt.in_listAt (eqU x) pl.isList (fun w hw=>jaP rx fx r fs w (by simpa using hw)) ⟨.bl _,H,I,rfl,?_⟩
  rw [show its.toArray.any (eqU x)=its.any (eqU x) by simp,jci r fs]
  exact q
 ·obtain ⟨its,r,pl,hz⟩:=I.tuple hq
  refine SeqAt.in_tupleAt (eqU x) pl (fun w hw=>jaP rx fx r fs w (by simpa using hw)) ⟨.bl _,H,I,rfl,?_⟩
  rw [show its.toArray.any (eqU x)=its.any (eqU x) by simp,jci r fs]
  exact q
theorem jde:OpR X (compareOp .NotIn) (rIn X.K true):=by
 intro pins s σ H x y v u Q I rx ry h
 obtain ⟨p,xs,rfl,hq,fx,fs,q⟩:=h
 cases ry
 rcases hq with hq | hq
 ·obtain ⟨its,r,pl,hz⟩:=I.list hq
  refine SeqAt.notIn_listAt (eqU x) pl.isList (fun w hw=>jaP rx fx r fs w (by simpa using hw)) ⟨.bl _,H,I,rfl,?_⟩
  rw [show its.toArray.any (eqU x)=its.any (eqU x) by simp,jci r fs]
  exact q
 ·obtain ⟨its,r,pl,hz⟩:=I.tuple hq
  refine SeqAt.notIn_tupleAt (eqU x) pl (fun w hw=>jaP rx fx r fs w (by simpa using hw)) ⟨.bl _,H,I,rfl,?_⟩
  rw [show its.toArray.any (eqU x)=its.any (eqU x) by simp,jci r fs]
  exact q
theorem jaN.or {f:Value}{r r':List V->Hp->VK->Prop}(h:jaN X f r)(h':jaN X f r'):jaN X f (fun xs H Q=>r xs H Q\/r' xs H Q):=by
 intro pins s σ H xs us Q I rs q
 rcases q with q | q
 ·exact h pins s σ H xs us Q I rs q
 ·exact h' pins s σ H xs us Q I rs q
theorem jdB : jaN X (.type "list") (fun xs H Q => ∃ p ys, xs = [.ref p] /\ (SqL X.K H p ys \/ SqT X.K H p ys) /\ ∀ l, H l = none -> Q (.ref l) (upd H l (.lst ys))) := by
  intro pins s σ H xs us Q I r h
  obtain ⟨p, ys, rfl, hq, q⟩ := h
  obtain ⟨u, rfl, rx⟩ := jbK r
  cases rx
  have fin : ∀ (its : List Value), Vals ys its -> ys.length <= sizeLine -> ∀ (h' : Heap) (c' : Nat), (∀ b o', s.heap.get? b = some o' -> h'.get? b = some o') ->
      h'.get? s.heap.objs.size = some { cls := .type "list", dict := none, data := .seq its.toArray c', slots := #[] } -> EP X pins σ Q (.ref s.heap.objs.size) { s with heap := h' } := fun its r' hz h' c' kp e =>
    ⟨.ref s.heap.objs.size, _, I.laid (t' := s.toks) kp (Nat.le_refl _) (show jav X.prog X.w _ h' _ (.lst ys) from ⟨hz, its, c', r', e⟩), rfl, q _ (I.hok.fresh (Nat.le_refl _))⟩
  rcases hq with hq | hq
  · obtain ⟨its, r', pl, hz⟩ := I.list hq
    have hlen := r'.length
    obtain ⟨o, ho, hc, n, hd⟩ := pl.isList
    exact call_list_seq p (.inl rfl) ho hc hd (fun h' c' kp e => fin its r' hz h' c' kp e) (by simp only [List.size_toArray] <;> omega)
  · obtain ⟨its, r', pl, hz⟩ := I.tuple hq
    have hlen := r'.length
    obtain ⟨o, ho, hc, n, hd⟩ := pl
    exact call_list_seq p (.inr rfl) ho hc hd (fun h' c' kp e => fin its r' hz h' c' kp e) (by simp only [List.size_toArray] <;> omega)
theorem jc3:jaN X (.type "tuple") (fun xs H Q=>∃ p ys,xs=[.ref p]/\((SqL X.K H p ys/\∀ l,H l=none->Q (.ref l) (upd H l (.tup ys)))\/(SqT X.K H p ys/\Q (.ref p) H))):=by
 intro pins s σ H xs us Q I r h
 obtain ⟨p,ys,rfl,h⟩:=h
 obtain ⟨u,rfl,rx⟩:=jbK r
 cases rx
 rcases h with ⟨hq,q⟩ | ⟨hq,q⟩
 ·obtain ⟨its,r',pl,hz⟩:=I.list hq
  have hlen:=r'.length
  refine call_tuple_list pl.isList (fun h' kp=>?_) (by simp only [List.size_toArray] <;> omega)
  have I1:Inv X pins σ H { s with heap:=h' }:=I.kept (t':=s.toks) kp
  have I2:Inv X pins σ (upd H h'.objs.size (.tup ys)) { s with heap:=h'.push { cls:=.type "tuple",data:=.seq its.toArray } }:=
   I1.laid (t':=s.toks) (fun b o e=>Heap.get?_push_of_some _ e) (Nat.le_refl _) (show jav X.prog X.w _ _ _ (.tup ys) from ⟨hz,its,r',TupD.new _ _⟩)
  exact ⟨.ref h'.objs.size,_,I2,rfl,q _ (I1.hok.fresh (Nat.le_refl _))⟩
 ·obtain ⟨its,r',pl,hz⟩:=I.tuple hq
  exact call_tuple_same pl ⟨.ref p,H,I,rfl,q⟩

noncomputable def tyV (K : PySem.W.Frag)(T : String)(x : V)(H : Hp) : Prop := match x with
  | .str _ => T = "str"
  | .int _ => T = "int"
  | .ref p => (T = "list" /\ ∃ xs, SqL K H p xs) \/ (T = "tuple" /\ ∃ o, K.lookup p = some o /\ o.cls = .type "tuple" /\ o.dict = none) \/
      (T = "dict" /\ ((∃ kvs, H p = some (.dK kvs)) \/ ∃ kvs, H p = some (.dT kvs))) \/ (T = "set" /\ ∃ S n, H p = some (.set S n)) \/ (T = "tuple" /\ ∃ xs, H p = some (.tup xs))
  | _ => False
theorem jg6 {pins : List (Addr × Obj)}{σ : St}{H : Hp}{s : Shared}{T : String}{x : V}{v : Value}(I : Inv X pins σ H s)(r : RelV x v)(ty : tyV X.K T x H) :
    s.TypeIs v T /\ ∀ a, v = .ref a -> ∃ ob, s.heap.get? a = some ob /\ ob.dict = none := by
  cases x with
  | str z =>
    obtain ⟨t, rfl⟩ := r
    cases (show T = "str" from ty)
    exact ⟨typeIs_str s z t, fun _ e => nomatch e⟩
  | int i =>
    obtain ⟨t, rfl⟩ := r
    cases (show T = "int" from ty)
    exact ⟨typeIs_int s i t, fun _ e => nomatch e⟩
  | ref p =>
    cases r
    rcases ty with ⟨rfl, xs, hq⟩ | ⟨rfl, o, hk, hc, hd⟩ | ⟨rfl, hk⟩ | ⟨rfl, S, n, hk⟩ | ⟨rfl, xs, hk⟩
    · obtain ⟨its, _, pl, _⟩ := I.list hq
      refine ⟨pl.isList.typeIs, fun a e => ?_⟩
      cases e
      obtain ⟨o, n, e, c, hd, _⟩ := pl
      exact ⟨o, e, hd⟩
    · refine ⟨⟨o, I.kIn p o hk, hc⟩, fun a e => ?_⟩
      cases e
      exact ⟨o, I.kIn _ o hk, hd⟩
    · have z : ∃ o, s.heap.get? p = some o /\ o.ExactDict := by
        rcases hk with ⟨kvs, hk⟩ | ⟨kvs, hk⟩
        · obtain ⟨_, _, _, _, o, _, _, e, ex, _⟩ := I.hok p _ hk
          exact ⟨o, e, ex⟩
        · obtain ⟨_, _, _, _, o, _, _, e, ex, _⟩ := I.hok p _ hk
          exact ⟨o, e, ex⟩
      obtain ⟨o, e, ex⟩ := z
      refine ⟨⟨o, e, ex.1⟩, fun a e2 => ?_⟩
      cases e2
      exact ⟨o, e, ex.2.1⟩
    · obtain ⟨o, _, _, _, e, ex, _⟩ := I.hok p _ hk
      refine ⟨⟨o, e, ex.1⟩, fun a e2 => ?_⟩
      cases e2
      exact ⟨o, e, ex.2.1⟩
    · obtain ⟨_, its, r, o, e, c, n, d, hd⟩ := (show jav X.prog X.w H s.heap p (.tup xs) from I.hok p _ hk)
      refine ⟨⟨o, e, c⟩, fun a e2 => ?_⟩
      cases e2
      exact ⟨o, e, hd⟩
  | _ => exact False.elim ty
variable {o e:Expr}{es:List Expr}{to:TE}{t:TA}{name:Str}{apos cpos:Pos}{T id:String}{r:V->List V->Hp->VK->Prop}
end

noncomputable def MtM (X:Cx)(id:String)(r:V->List V->Hp->VK->Prop):Prop:=
 ∀ (pins:List (Addr×Obj)) (s:Shared) (σ:St) (H:Hp) (x:V) (xs:List V) (v:Value) (us:List Value) (Q:VK),Inv X pins σ H s->RelV x v->Vals xs us->r x xs H Q->
  wpAny (model X.prog X.w) X.A (call (.builtin id) (v::us)) (EP X pins σ Q) X.xe s

theorem Vals.one:∀ {x:V} {us:List Value},Vals [x] us->∃ u,us=[u]/\RelV x u
 | _,_,.cons r .nil=>⟨_,rfl,r⟩
theorem Vals.two:∀ {x y:V} {us:List Value},Vals [x,y] us->∃ u v,us=[u,v]/\RelV x u/\RelV y v
 | _,_,_,.cons r (.cons q .nil)=>⟨_,_,rfl,r,q⟩
theorem Vals.rep {xs:List V}{us:List Value}(h:Vals xs us):∀ k:Nat,Vals (List.replicate k xs).flatten (List.replicate k us).flatten
 | 0=>.nil
 | k + 1=>by
  rw [List.replicate_succ,List.replicate_succ,List.flatten_cons,List.flatten_cons]
  exact Vals.append h (Vals.rep h k)
theorem jb4 (its:List Value):∀ (k:Nat) (acc:List Value),
  List.foldl (fun x1 x2=>x1++x2) acc.toArray (List.replicate k its.toArray)=(acc++(List.replicate k its).flatten).toArray
 | 0,acc=>by simp
 | k + 1,acc=>by
  have e:acc.toArray++its.toArray=(acc++its).toArray:=by simp
  have e2:(acc++its)++(List.replicate k its).flatten=acc++(List.replicate (k + 1) its).flatten:=by
   rw [List.replicate_succ,List.flatten_cons,List.append_assoc]
  rw [<- e2,<- jb4 its k (acc++its),<- e,List.replicate_succ,List.foldl_cons]

section
variable {X:Cx}{pins:List (Addr×Obj)}{σ:St}{H:Hp}{s:Shared}{l b:Addr}{xs ys zs:List V}

theorem Inv.lset {its its':List Value}{n:Nat}{f:Array Value->Array Value}{t':Nat}(I:Inv X pins σ H s)(hH:H l=some (.lst xs))
  (e:s.heap.get? l=some { cls:=.type "list",data:=.seq its.toArray n }) (hf:f its.toArray=its'.toArray) (hv:Vals ys its') (hz:ys.length<=sizeLine) :
  Inv X pins σ (upd H l (.lst ys)) { s with heap:=s.heap.update l (Obj.mapSeq f),toks:=t' }:=by
 have q:=PySem.IsL.update e f
 rw [hf] at q
 refine I.write (x:=l) (e:=l) (by rw [hH]; exact trivial) (.inl rfl) (fun b' u hb hu=>(Heap.get?_update_other s.heap (Obj.mapSeq f) (Ne.symm hb)).trans hu) ⟨_,q⟩ ?_
 exact ⟨hz,its',_,hv,q⟩
theorem Inv.lnew {its:List Value}{t':Nat}(I:Inv X pins σ H s)(hv:Vals ys its)(hz:ys.length<=sizeLine) :
  Inv X pins σ (upd H s.heap.objs.size (.lst ys)) { s with heap:=s.heap.push { cls:=.type "list",data:=.seq its.toArray },toks:=t' }:=
 I.laid (fun _ _ q=>Heap.get?_push_of_some _ q) (Nat.le_refl _) ⟨hz,its,0,hv,Heap.get?_push_size _ rfl⟩
theorem Inv.fresh (I:Inv X pins σ H s):H s.heap.objs.size=none:=I.hok.fresh (Nat.le_refl _)
theorem Inv.lstM (I:Inv X pins σ H s)(hH:H l=some (.lst xs)):xs.length<=sizeLine/\∃ (its:List Value) (n:Nat),Vals xs its/\xs.length=its.length/\s.heap.get? l=some { cls:=.type "list",data:=.seq its.toArray n }:=by
 obtain ⟨z,its,n,r,e⟩:=I.hok l _ hH
 exact ⟨z,its,n,r,r.length,e⟩

theorem jgE {n:Nat}(h:n<=sizeLine):Builtin.List.listTooLong n=false:=by
 unfold Builtin.List.listTooLong
 exact decide_eq_false (by omega)
end

section
variable {X:Cx}

noncomputable def jh3:V->List V->Hp->VK->Prop:=fun x vs H Q=>∃ l xs y,x=.ref l/\vs=[y]/\H l=some (.lst xs)/\xs.length < sizeLine/\Q .non (upd H l (.lst (xs++[y])))
theorem jdm:MtM X "list.append" jh3:=by
 intro pins s σ H x vs v us Q I rx rv h
 obtain ⟨l,xs,y,rfl,rfl,hH,hz,q⟩:=h
 cases rx
 obtain ⟨u,rfl,ru⟩:=rv.one
 obtain ⟨z,its,n,r,hl,e⟩:=I.lstM hH
 refine call_meets F.slot_list_append ⟨_,e,rfl⟩ F.entry_list_append (F.args_list_append_2 _ _) (PySem.list_append l its.toArray n u (by rw [List.size_toArray]; omega)) ⟨e,?_⟩
 refine ⟨.non,_,I.lset (its':=its++[u]) hH e (by simp) (r.append (.cons ru .nil)) ?_,rfl,q⟩
 rw [List.length_append,List.length_singleton]
 omega

noncomputable def rCat:R2:=fun x y H Q=>∃ l b xs zs,x=.ref l/\y=.ref b/\H l=some (.lst xs)/\H b=some (.lst zs)/\xs.length + zs.length<=sizeLine/\∀ p,H p=none->Q (.ref p) (upd H p (.lst (xs++zs)))
theorem jko:OpR X (binaryOp .Add) rCat:=by
 intro pins s σ H x y v u Q I rx ry h
 obtain ⟨l,b,xs,zs,rfl,rfl,hH,hB,hz,q⟩:=h
 cases rx
 cases ry
 obtain ⟨z,its,n,r,hl,e⟩:=I.lstM hH
 obtain ⟨z2,its2,n2,r2,hl2,e2⟩:=I.lstM hB
 refine PySem.P.add_list e e2 ?_ (by rw [List.size_toArray,List.size_toArray]; omega)
 have ea:its.toArray++its2.toArray=(its++its2).toArray:=by simp
 rw [ea]
 exact ⟨.ref _,_,I.lnew (t':=s.toks) (r.append r2) (by rw [List.length_append]; omega),rfl,q _ I.fresh⟩
noncomputable def rRep:R2:=fun x y H Q=>∃ l k xs,x=.ref l/\y=.int k/\H l=some (.lst xs)/\-(2 ^ 63)<=k/\k < 2 ^ 63/\xs.length * k.toNat<=sizeLine/\
 ∀ p,H p=none->Q (.ref p) (upd H p (.lst (List.replicate k.toNat xs).flatten))
theorem jfB {α:Type}(xs:List α)(k:Nat):(List.replicate k xs).flatten.length=k * xs.length:=by
 induction k with
 | zero=>simp
 | succ k ih=>rw [List.replicate_succ,List.flatten_cons,List.length_append,ih,Nat.succ_mul,Nat.add_comm]
theorem jkf:OpR X (binaryOp .Mult) rRep:=by
 intro pins s σ H x y v u Q I rx ry h
 obtain ⟨l,k,xs,rfl,rfl,hH,h1,h2,hz,q⟩:=h
 cases rx
 obtain ⟨t,rfl⟩:=ry
 obtain ⟨z,its,n,r,hl,e⟩:=I.lstM hH
 have hlen:its.toArray.size * k.toNat<=sizeLine:=by rw [List.size_toArray,<- hl]; exact hz
 have hcap:¬ its.toArray.size * k.toNat > (2 ^ 63 - 1) / 8:=by
  have:(sizeLine:Nat)<=(2 ^ 63 - 1) / 8:=by decide
  omega
 have hfit:¬ (!Builtin.List.listFitsIndex k)=true:=by
  rw [fitsIndex_both h1 h2]
  exact Bool.false_ne_true
 have hlong:¬ Builtin.List.listTooLong (its.toArray.size * k.toNat)=true:=by
  rw [jgE hlen]
  exact Bool.false_ne_true
 have hnew:List.foldl (fun x1 x2=>x1++x2) #[] (List.replicate (if its.toArray.isEmpty=true then 0 else k.toNat) its.toArray)=(List.replicate k.toNat its).flatten.toArray:=by
  have f0:∀ m:Nat,List.foldl (fun x1 x2=>x1++x2) #[] (List.replicate m its.toArray)=(List.replicate m its).flatten.toArray:=fun m=>by
   have:=jb4 its m []
   rw [List.nil_append] at this
   exact this
  rw [f0]
  cases its with
  | nil=>simp
  | cons a r'=>rw [if_neg (by simp)]
 refine wpAny_binaryOp_repeat_ref (T := "list") (U := "int") (by decide) ⟨_,e,rfl⟩ (fun s'=>typeIs_int s' k t) noFill_list_mul F.fills_int_mul F.slot_int_rmul repeat_list F.slot_int_index.lookup
  (call_meets F.slot_int_rmul (typeIs_int s k t) F.entry_int_rmul (F.args_int_rmul_2 _ _) (int___rmul___int_list k t l its.toArray n)
   ⟨e,rfl,⟨_,e,rfl⟩,call_meets F.slot_list_mul ⟨_,e,rfl⟩ F.entry_list_mul (F.args_list_mul_2 _ _) (AutoListH.list___mul___list_int_3 l its.toArray n k t hfit hcap hlong) ⟨e,?_⟩⟩)
 rw [hnew]
 exact ⟨.ref _,_,I.lnew (t':=s.toks) (r.rep k.toNat) (by rw [jfB,Nat.mul_comm]; exact hz),rfl,q _ I.fresh⟩

end

section
variable {prog:Program}{w:World}{A:Around}{E:Value->Shared->Prop}{s:Shared}
end

section
variable {X:Cx}
end

section
variable {κ:Type}[DecidableEq κ]
noncomputable def valV (kvs:List (κ×V))(k:κ):Option V:=(kvs.find? fun kv=>decide (kv.1=k)).map (·.2)
noncomputable def putK (kvs:List (κ×V))(k:κ)(v:V):List (κ×V):=
 if (kvs.any fun kv=>decide (kv.1=k))=true then kvs.map (fun kv=>if kv.1=k then (kv.1,v) else kv) else kvs++[(k,v)]
noncomputable def jnP (kvs:List (κ×V))(k:κ):List (κ×V):=kvs.filter fun kv=>decide (kv.1≠k)

theorem jbC {p:κ×V}{r:List (κ×V)}{k:κ}(e:p.1=k):valV (p::r) k=some p.2:=by simp [valV,List.find?_cons,e]
theorem jbD {p:κ×V}{r:List (κ×V)}{k:κ}(e:¬ p.1=k):valV (p::r) k=valV r k:=by simp [valV,List.find?_cons,e]
theorem jeb (k:κ):∀ kvs:List (κ×V),(kvs.any fun kv=>decide (kv.1=k))=(valV kvs k).isSome
 | []=>rfl
 | p::r=>by
  rw [List.any_cons]
  by_cases e:p.1=k
  ·simp only [jbC e,decide_eq_true e,Bool.true_or,Option.isSome_some]
  ·rw [jbD e,decide_eq_false e,Bool.false_or]; exact jeb k r
theorem jba (kvs:List (κ×V))(k:κ)(v:V):(putK kvs k v).length<=kvs.length + 1:=by
 unfold putK
 split
 ·rw [List.length_map]; omega
 ·rw [List.length_append,List.length_cons,List.length_nil]; omega
theorem RelO.isSome_eq {o:Option V}{u:Option Value}(r:RelO o u):o.isSome=u.isSome:=by
 cases o with
 | none=>cases u with
  | none=>rfl
  | some _=>exact (show False from r).elim
 | some _=>cases u with
  | none=>exact (show False from r).elim
  | some _=>rfl
theorem KV.val {kvs:List (κ×V)}{vs:List (κ×Value)}(r:KV kvs vs)(k:κ):RelO (valV kvs k) (valueAt vs k):=by
 unfold KV at r
 induction r with
 | nil=>exact True.intro
 | @cons p q ps qs h t ih=>
  obtain ⟨h1,h2⟩:=h
  by_cases e:p.1=k
  ·have e':q.1=k:=h1.symm.trans e
   have b:valueAt (q::qs) k=some q.2:=by simp [valueAt,List.find?_cons,e']
   rw [jbC e,b]; exact h2
  ·have e':¬ q.1=k:=fun z=>e (h1.trans z)
   have b:valueAt (q::qs) k=valueAt qs k:=by simp [valueAt,List.find?_cons,e']
   rw [jbD e,b]; exact ih
theorem KV.any {kvs:List (κ×V)}{vs:List (κ×Value)}(r:KV kvs vs)(k:κ):(kvs.any fun kv=>decide (kv.1=k))=vs.any fun kv=>decide (kv.1=k):=by
 unfold KV at r
 induction r with
 | nil=>rfl
 | cons h t ih=>rw [List.any_cons,List.any_cons,ih,h.1]
theorem KV.repl {kvs:List (κ×V)}{vs:List (κ×Value)}(r:KV kvs vs)(k:κ){y:V}{u:Value}(ry:RelV y u) :
  KV (kvs.map fun kv=>if kv.1=k then (kv.1,y) else kv) (vs.map fun kv=>if kv.1=k then (kv.1,u) else kv):=by
 unfold KV at r ⊢
 induction r with
 | nil=>exact .nil
 | @cons p q ps qs h t ih=>
  rw [List.map_cons,List.map_cons]
  refine .cons ?_ ih
  obtain ⟨h1,h2⟩:=h
  by_cases e:p.1=k
  ·rw [if_pos e,if_pos (h1.symm.trans e)]; exact ⟨h1,ry⟩
  ·rw [if_neg e,if_neg (fun z=>e (h1.trans z))]; exact ⟨h1,h2⟩
theorem KV.put {kvs:List (κ×V)}{vs:List (κ×Value)}(r:KV kvs vs)(k:κ){y:V}{u:Value}(ry:RelV y u):KV (putK kvs k y) (stored vs k u):=by
 unfold putK stored
 rw [r.any k]
 by_cases e:(vs.any fun kv=>decide (kv.1=k))=true
 ·rw [if_pos e,if_pos e]; exact r.repl k ry
 ·rw [if_neg e,if_neg e]; exact Paired.snoc r ⟨rfl,ry⟩
theorem KV.length {kvs:List (κ×V)}{vs:List (κ×Value)}(r:KV kvs vs):kvs.length=vs.length:=Paired.length r
end

theorem jeS {P:Program}{w:World}{k:Key}{u:Value}(r:RelV (kV k) u):(jao P w).is k u=true:=by
 cases k with
 | inl i=>obtain ⟨t,e⟩:=(show ∃ t,u=Value.int i t from r); subst e; exact jdT P w i t
 | inr x=>obtain ⟨t,e⟩:=(show ∃ t,u=Value.str x t from r); subst e; exact jdS P w x t
theorem jdp {P:Program}{w:World}:∀ {ks:List Key} {us:List Value},Vals (ks.map kV) us->ItemsAre (jao P w) ks us
 | [],_,r=>by rw [List.map_nil] at r; cases r; exact .nil
 | k::ks,_,r=>by
  rw [List.map_cons] at r
  cases r with
  | cons h t=>exact .cons (jeS h) (jdp t)

noncomputable abbrev KT (H:Hp):List (List Key×V)->List (List Key×Addr×Value)->Prop:=Paired fun p q=>p.1=q.1/\H q.2.1=some (.tup (p.1.map kV))/\RelV p.2 q.2.2
theorem KT.val {H:Hp}{kvs:List (List Key×V)}{xs:List (List Key×Addr×Value)}(r:KT H kvs xs)(k:List Key):RelO (valV kvs k) ((atKey xs k).map (·.2)):=by
 induction r with
 | nil=>exact True.intro
 | @cons p q ps qs h t ih=>
  obtain ⟨h1,_,h2⟩:=h
  by_cases e:p.1=k
  ·have e':q.1=k:=h1.symm.trans e
   have b:atKey (q::qs) k=some q.2:=by simp [atKey,List.find?_cons,e']
   rw [jbC e,b]; exact h2
  ·have e':¬ q.1=k:=fun z=>e (h1.trans z)
   have b:atKey (q::qs) k=atKey qs k:=by simp [atKey,List.find?_cons,e']
   rw [jbD e,b]; exact ih
theorem KT.repl {H:Hp}{kvs:List (List Key×V)}{xs:List (List Key×Addr×Value)}(r:KT H kvs xs)(k:List Key){y:V}{u:Value}(ry:RelV y u) :
  KT H (kvs.map fun kv=>if kv.1=k then (kv.1,y) else kv) (xs.map (putAt k u)):=by
 induction r with
 | nil=>exact .nil
 | @cons p q ps qs h t ih=>
  rw [List.map_cons,List.map_cons]
  refine .cons ?_ ih
  obtain ⟨h1,h2,h3⟩:=h
  unfold putAt
  by_cases e:p.1=k
  ·rw [if_pos e,if_pos (h1.symm.trans e)]; exact ⟨h1,h2,ry⟩
  ·rw [if_neg e,if_neg (fun z=>e (h1.trans z))]; exact ⟨h1,h2,h3⟩
theorem KT.put {H:Hp}{kvs:List (List Key×V)}{xs:List (List Key×Addr×Value)}(r:KT H kvs xs)(k:List Key){b:Addr}{y:V}{u:Value}(hb:H b=some (.tup (k.map kV)))(ry:RelV y u) :
  KT H (putK kvs k y) (storedH xs k b u):=by
 have e:(kvs.any fun kv=>decide (kv.1=k))=(atKey xs k).isSome:=by
  rw [jeb,(r.val k).isSome_eq,Option.isSome_map]
 unfold putK storedH
 rw [e]
 by_cases q:(atKey xs k).isSome=true
 ·rw [if_pos q,if_pos q]; exact r.repl k ry
 ·rw [if_neg q,if_neg q]; exact Paired.snoc r ⟨rfl,hb,ry⟩
theorem KT.keeps {H H':Hp}{kvs:List (List Key×V)}{xs:List (List Key×Addr×Value)}(r:KT H kvs xs)(ht:∀ b ys,H b=some (.tup ys)->H' b=some (.tup ys)):KT H' kvs xs:=
 Paired.mapP r fun _ _ z=>⟨z.1,ht _ _ z.2.1,z.2.2⟩

section
variable {P:Program}{w:World}{H:Hp}{h:Heap}{a:Addr}
theorem jjK {u:HO}(ok:HOk P w H h)(e:Rd H a u):jav P w H h a u:=e.ok ok
theorem jeV {kvs:List (Key×V)}(ok:HOk P w H h)(e:Rd H a (.dK kvs)):kvs.length<=sizeLine/\(a == sysModules)=false/\∃ vs,KV kvs vs/\h.DictOf (jao P w) a vs:=
 show jav P w H h a (.dK kvs) from jjK ok e
theorem jkU {kvs:List (Key×V)}(ok:HOk P w H h)(e:H a=some (.dK kvs)):kvs.length<=sizeLine/\(a == sysModules)=false/\∃ vs,KV kvs vs/\h.DictOf (jao P w) a vs:=jeV ok (.inl e)
theorem jdo {ks:List Key}(ok:HOk P w H h)(e:H a=some (.tup (ks.map kV))):(tupleKind (jao P w)).is h ks a:=by
 obtain ⟨_,its,r,o,h1,h2,n,h3,_⟩:=(show jav P w H h a (.tup (ks.map kV)) from ok a _ e)
 exact ⟨o,its.toArray,n,h1,h2,h3,by simpa using jdp r⟩
theorem jfR {kvs:List (List Key×V)}(ok:HOk P w H h)(e:Rd H a (.dT kvs)):kvs.length<=sizeLine/\(a == sysModules)=false/\
  ∃ xs,KT H kvs xs/\h.DictOfH (tupleKind (jao P w)) a xs:=by
 obtain ⟨z,y,xs,r,o,es,ep,h1,h2,h3,h4,h5⟩:=(show jav P w H h a (.dT kvs) from jjK ok e)
 refine ⟨z,y,xs,r,o,es,ep,h1,h2,h3,h4,fun x hx=>?_,h5⟩
 have all:∀ {l:List (List Key×V)} {m:List (List Key×Addr×Value)},KT H l m->∀ x∈m,(tupleKind (jao P w)).is h x.1 x.2.1:=by
  intro l m q
  induction q with
  | nil=>intro x hx; exact nomatch hx
  | @cons p q ps qs hq t ih=>
   intro x hx
   rcases List.mem_cons.mp hx with e | hx
   ·subst e
    exact jdo ok (by rw [<- hq.1]; exact hq.2.1)
   ·exact ih x hx
 exact all r x hx
theorem jmD {kvs:List (List Key×V)}(ok:HOk P w H h)(e:H a=some (.dT kvs)):kvs.length<=sizeLine/\(a == sysModules)=false/\
  ∃ xs,KT H kvs xs/\h.DictOfH (tupleKind (jao P w)) a xs:=jfR ok (.inl e)
end

noncomputable def DGet (H:Hp)(a:Addr)(y:V)(r:Option V):Prop:=
 (∃ kvs k,Rd H a (.dK kvs)/\y=kV k/\r=valV kvs k)\/∃ kvs k b,Rd H a (.dT kvs)/\y=.ref b/\H b=some (.tup (k.map kV))/\r=valV kvs k
noncomputable def DPut (H:Hp)(a:Addr)(y v:V)(H':Hp):Prop:=
 (∃ kvs k,H a=some (.dK kvs)/\y=kV k/\kvs.length < sizeLine/\H'=upd H a (.dK (putK kvs k v)))\/
 ∃ kvs k b,H a=some (.dT kvs)/\y=.ref b/\H b=some (.tup (k.map kV))/\kvs.length < sizeLine/\H'=upd H a (.dT (putK kvs k v))
theorem DGet.k {H:Hp}{a:Addr}{kvs:List (Key×V)}{k:Key}(e:H a=some (.dK kvs)):DGet H a (kV k) (valV kvs k):=.inl ⟨kvs,k,.inl e,rfl,rfl⟩
theorem DGet.t {H:Hp}{a b:Addr}{kvs:List (List Key×V)}{k:List Key}(e:H a=some (.dT kvs))(eb:H b=some (.tup (k.map kV))):DGet H a (.ref b) (valV kvs k):=.inr ⟨kvs,k,b,.inl e,rfl,eb,rfl⟩
theorem DPut.k {H:Hp}{a:Addr}{kvs:List (Key×V)}{k:Key}{v:V}(e:H a=some (.dK kvs))(hl:kvs.length < sizeLine):DPut H a (kV k) v (upd H a (.dK (putK kvs k v))):=.inl ⟨kvs,k,e,rfl,hl,rfl⟩
theorem DPut.t {H:Hp}{a b:Addr}{kvs:List (List Key×V)}{k:List Key}{v:V}(e:H a=some (.dT kvs))(eb:H b=some (.tup (k.map kV)))(hl:kvs.length < sizeLine) :
  DPut H a (.ref b) v (upd H a (.dT (putK kvs k v))):=.inr ⟨kvs,k,b,e,rfl,eb,hl,rfl⟩

section
variable {X:Cx}{pins:List (Addr×Obj)}{σ:St}{H:Hp}{s:Shared}{a:Addr}{y v:V}{u r:Value}{o:Option V}{A:Around}{E:Value->Shared->Prop}

theorem Inv.big (I:Inv X pins σ H s):sysModules < s.heap.objs.size:=by
 have h:mainGlobals < s.heap.objs.size:=(I.mod.glob.keeps I.bk).lt
 exact Nat.lt_trans (by decide) h

theorem jfX {Q:Value->Shared->Prop}(hu:A.units + 1 < cLine)(I:Inv X pins σ H s)(g:DGet H a y (some v))(ry:RelV y u)(h:∀ w' s',Inv X pins σ H s'->RelV v w'->Q w' s') :
  wpAny (model X.prog X.w) A (getItem (.ref a) u) Q E s:=by
 rcases g with ⟨kvs,k,e,ey,l⟩ | ⟨kvs,k,b,e,ey,eb,l⟩
 ·subst ey
  obtain ⟨z,hd,vs,rel,dd⟩:=jeV I.hok e
  obtain ⟨w',hw,rw'⟩:=RelO.some_of (v:=v) (o:=valueAt vs k) (by rw [l]; exact rel.val k)
  exact wpAny_getItem_of (jeS ry) dd.mapOf hw (h w' _ (I.tok _) rw')
 ·subst ey
  cases (show u=Value.ref b from ry)
  obtain ⟨z,hd,xs,rel,dd⟩:=jfR I.hok e
  obtain ⟨w',hw,rw'⟩:=RelO.some_of (v:=v) (o:=(atKey xs k).map (·.2)) (by rw [l]; exact rel.val k)
  obtain ⟨p,hp,hp2⟩:=Option.map_eq_some_iff.mp hw
  refine wpAny_getItem_heap (tupleKind_room_in1 hu) (jdo I.hok eb) dd hp ?_
  rw [hp2]
  exact h w' _ (I.tok _) rw'
theorem d_in {Q:Value->Shared->Prop}(hu:A.units + 1 < cLine)(I:Inv X pins σ H s)(g:DGet H a y o)(ry:RelV y u)(h:∀ s',Inv X pins σ H s'->Q (.bool o.isSome) s') :
  wpAny (model X.prog X.w) A (compareOp .In u (.ref a)) Q E s:=by
 rcases g with ⟨kvs,k,e,ey,l⟩ | ⟨kvs,k,b,e,ey,eb,l⟩
 ·subst ey
  obtain ⟨z,hd,vs,rel,dd⟩:=jeV I.hok e
  refine wpAny_in_of (jeS ry) hd dd.mapOf ?_
  rw [<- (rel.val k).isSome_eq,<- l]
  exact h _ (I.tok _)
 ·subst ey
  cases (show u=Value.ref b from ry)
  obtain ⟨z,hd,xs,rel,dd⟩:=jfR I.hok e
  refine wpAny_in_heap (tupleKind_room_in1 hu) (jdo I.hok eb) hd dd ?_
  have q:=(rel.val k).isSome_eq
  rw [Option.isSome_map] at q
  rw [<- q,<- l]
  exact h _ (I.tok _)
theorem ji3 {Q:Value->Shared->Prop}(hu:A.units + 1 < cLine)(I:Inv X pins σ H s)(g:DGet H a y o)(ry:RelV y u)(h:∀ s',Inv X pins σ H s'->Q (.bool (!o.isSome)) s') :
  wpAny (model X.prog X.w) A (compareOp .NotIn u (.ref a)) Q E s:=by
 rcases g with ⟨kvs,k,e,ey,l⟩ | ⟨kvs,k,b,e,ey,eb,l⟩
 ·subst ey
  obtain ⟨z,hd,vs,rel,dd⟩:=jeV I.hok e
  refine wpAny_notIn_of (jeS ry) hd dd.mapOf ?_
  rw [<- (rel.val k).isSome_eq,<- l]
  exact h _ (I.tok _)
 ·subst ey
  cases (show u=Value.ref b from ry)
  obtain ⟨z,hd,xs,rel,dd⟩:=jfR I.hok e
  refine wpAny_notIn_heap (tupleKind_room_in1 hu) (jdo I.hok eb) hd dd ?_
  have q:=(rel.val k).isSome_eq
  rw [Option.isSome_map] at q
  rw [<- q,<- l]
  exact h _ (I.tok _)
theorem jd0 {h':Heap}{t':Nat}{ob:HO}(I:Inv X pins σ H s)(mu:Mut (H a))(hs:Heap.SameBut a s.heap h')(he:∃ q,h'.get? a=some q)(new:jav X.prog X.w (upd H a ob) h' a ob) :
  Inv X pins σ (upd H a ob) { s with heap:=h',toks:=t' }:=
 I.write (x:=a) (e:=a) mu (.inl rfl) (fun b q hb z=>(hs.2 b hb).trans z) he new
theorem jhx {P:Program}{w:World}{H':Hp}{h':Heap}{kvs:List (Key×V)}{vs:List (Key×Value)}(z:kvs.length<=sizeLine)(hd:(a == sysModules)=false)(rel:KV kvs vs)(dd:h'.DictOf (jao P w) a vs) :
  jav P w H' h' a (.dK kvs):=⟨z,hd,vs,rel,dd⟩
theorem jfW {H':Hp}{Q:Unit->Shared->Prop}(hu:A.units + 1 < cLine)(I:Inv X pins σ H s)(g:DPut H a y v H')(ry:RelV y u)(rv:RelV v r)(h:∀ s',Inv X pins σ H' s'->Q () s') :
  wpAny (model X.prog X.w) A (setItem (.ref a) u r) Q E s:=by
 rcases g with ⟨kvs,k,e,ey,l,eH⟩ | ⟨kvs,k,b,e,ey,eb,l,eH⟩
 ·subst ey eH
  obtain ⟨z,hd,vs,rel,dd⟩:=jkU I.hok e
  have hz:vs.length<=sizeLine:=by rw [<- rel.length]; exact z
  have hl:(putK kvs k v).length<=sizeLine:=by have:=jba kvs k v; omega
  refine wpAny_setItem_pairs (hsz:=hz) (jeS ry) dd fun h' dd' hs=>h _ ?_
  have he:∃ q,h'.get? a=some q:=let ⟨q,_,_,hq,_⟩:=dd'; ⟨q,hq⟩
  exact jd0 I (by rw [e]; exact True.intro) hs he (jhx hl hd (rel.put k rv) dd')
 ·subst ey eH
  cases (show u=Value.ref b from ry)
  obtain ⟨z,hd,xs,rel,dd⟩:=jmD I.hok e
  have hz:xs.length<=sizeLine:=by rw [<- Paired.length rel]; exact z
  have hl:(putK kvs k v).length<=sizeLine:=by have:=jba kvs k v; omega
  refine wpAny_setItem_heap (hsz:=hz) (tupleKind_room_in1 hu) (jdo I.hok eb) dd fun h' dd' hs=>h _ ?_
  obtain ⟨q,es,ep,hq,h2,h3,h4,_,h5⟩:=dd'
  refine jd0 I (by rw [e]; exact True.intro) hs ⟨q,hq⟩ ⟨hl,hd,_,(rel.put k eb rv).keeps fun c ys ec=>?_,q,es,ep,hq,h2,h3,h4,h5⟩
  rw [jac (jmn ec e (fun z=>nomatch z))]
  exact ec
end

section
variable {X:Cx}{pins:List (Addr×Obj)}{σ:St}{H:Hp}{s:Shared}{a:Addr}{kvs:List (Key×V)}{k:Key}{u:Value}{A:Around}{E:Value->Shared->Prop}
theorem jmE {Q:Value->Shared->Prop}(I:Inv X pins σ H s)(e:Rd H a (.dK kvs))(h:∀ t s',Inv X pins σ H s'->Q (.int kvs.length t) s'):wpAny (model X.prog X.w) A (call (.builtin "len") [.ref a]) Q E s:=by
 obtain ⟨z,hd,vs,rel,dd⟩:=jeV I.hok e
 refine call_len_dict hd dd (by rw [<- rel.length]; rw [sizeLine_eq] at z; omega) ?_
 rw [<- rel.length]
 exact h _ _ (I.tok _)
end

theorem jdZ {X:Cx}{pins:List (Addr×Obj)}{σ:St}{H:Hp}{s:Shared}{a:Addr}{y:V}{o:Option V}(I:Inv X pins σ H s)(g:DGet H a y o):s.TypeIs (.ref a) "dict" := by
 rcases g with ⟨kvs,k,e,_,_⟩ | ⟨kvs,k,b,e,_,_,_⟩
 ·obtain ⟨_,_,vs,_,dd⟩:=jeV I.hok e
  exact dd.typeIs
 ·obtain ⟨_,_,xs,_,dd⟩:=jfR I.hok e
  exact dd.typeIs
section
variable {X:Cx}{o i e value:Expr}{pos pos' tpos:Pos}{td ty tv:TE}
end

theorem jey {P:Program}{w:World}{H:Hp}(h:Heap)(hb:sysModules < h.objs.size):jav P w H (h.push { cls:=.type "dict",data:=.dict #[] }) h.objs.size (.dK []):=
 ⟨Nat.zero_le _,beq_eq_false_iff_ne.mpr (Ne.symm (Nat.ne_of_lt hb)),[],.nil,Heap.DictOf.new h⟩
noncomputable def jjs:TE:=fun _ H Q=>∀ p,H p=none->Q (.ref p) (upd H p (.dK []))
section
variable {X:Cx}{pos:Pos}
theorem jgy:PE X (.Dict [] [] pos) jjs:=fun pins s σ H Q I h=>
 wpAny_Dict_empty ⟨.ref s.heap.objs.size,_,I.laid (a:=s.heap.objs.size) (o:=.dK []) (t':=s.toks) (fun _ _ q=>Heap.get?_push_of_some _ q) (Nat.le_refl _) (jey s.heap I.big),rfl,h _ (I.hok.fresh (Nat.le_refl _))⟩
end

noncomputable def jef:List (TE×TE)->St->Hp->(List (V×V)->Hp->Prop)->Prop
 | [],_,H,Q=>Q [] H
 | (tk,tv)::r,σ,H,Q=>tk σ H fun x H1=>tv σ H1 fun y H2=>jef r σ H2 fun ps H3=>Q ((x,y)::ps) H3
noncomputable abbrev VV:List (V×V)->List (Value×Value)->Prop:=Paired fun p q=>RelV p.1 q.1/\RelV p.2 q.2
noncomputable def PPs (X:Cx)(pos:Pos)(keys:List (Option Expr))(values:List Expr)(trs:List (TE×TE)):Prop:=
 ∀ (pins:List (Addr×Obj)) (s:Shared) (σ:St) (H:Hp) (Q:List (V×V)->Hp->Prop),Inv X pins σ H s->jef trs σ H Q->
  wpAny (model X.prog X.w) X.A (evalPairs (pairTrees keys values X.env pos)) (fun vs s'=>∃ ps H',Inv X pins σ H' s'/\VV ps vs/\Q ps H') X.xe s
theorem jh9 {X:Cx}{pos:Pos}:PPs X pos [] [] []:=fun pins s σ H Q I h=>pairTrees_nil_walk ⟨[],H,I,.nil,h⟩
theorem jgq {X:Cx}{pos:Pos}{k v:Expr}{ks:List (Option Expr)}{vs:List Expr}{tk tv:TE}{trs:List (TE×TE)}(hk:PE X k tk)(hv:PE X v tv)(hr:PPs X pos ks vs trs) :
  PPs X pos (some k::ks) (v::vs) ((tk,tv)::trs):=fun pins s σ H Q I h=>
 pairTrees_cons_walk (thn (hk pins s σ H _ I h) fun u s1 ⟨x,H1,I1,rx,q1⟩=>thn (hv pins s1 σ H1 _ I1 q1) fun w2 s2 ⟨y,H2,I2,ry,q2⟩=>
  thn (hr pins s2 σ H2 _ I2 q2) fun ws s3 ⟨ps,H3,I3,rel,q3⟩=>⟨(x,y)::ps,H3,I3,.cons ⟨rx,ry⟩ rel,q3⟩)

noncomputable def jb1 (kvs more:List (Key×V)):List (Key×V):=more.foldl (fun acc kv=>putK acc kv.1 kv.2) kvs
theorem KV.merge:∀ {more:List (Key×V)} {rs:List (Key×Value)} {kvs:List (Key×V)} {vs:List (Key×Value)},KV more rs->KV kvs vs->KV (jb1 kvs more) (merged vs rs):=by
 intro more rs kvs vs r
 unfold KV at r
 induction r generalizing kvs vs with
 | nil=>intro q; exact q
 | @cons p q ps qs h t ih=>
  intro r0
  have e:KV (putK kvs p.1 p.2) (stored vs q.1 q.2):=by
   have:=r0.put p.1 h.2
   rw [<- h.1]; exact this
  exact ih e
theorem jbi:∀ (more kvs:List (Key×V)),(jb1 kvs more).length<=kvs.length + more.length
 | [],kvs=>by show kvs.length<=kvs.length + 0; omega
 | p::r,kvs=>by
  have h1:=jbi r (putK kvs p.1 p.2)
  have h2:=jba kvs p.1 p.2
  show (jb1 (putK kvs p.1 p.2) r).length<=_
  rw [List.length_cons]; omega
theorem jcE {P:Program}{w:World}:∀ {kvs:List (Key×V)} {ws:List (Value×Value)},VV (kvs.map fun kv=>(kV kv.1,kv.2)) ws->∃ rs,Carries (jao P w) ws rs/\KV kvs rs
 | [],_,r=>by rw [List.map_nil] at r; cases r; exact ⟨[],True.intro,.nil⟩
 | p::kvs,_,r=>by
  rw [List.map_cons] at r
  cases r with
  | @cons a b as bs h t=>
   obtain ⟨rs,c,q⟩:=jcE (P:=P) (w:=w) t
   obtain ⟨b1,b2⟩:=b
   exact ⟨(p.1,b2)::rs,⟨jeS h.1,rfl,c⟩,.cons ⟨rfl,h.2⟩ q⟩
noncomputable def jlX (trs:List (TE×TE)):TE:=fun σ H Q=>∀ p,H p=none->jef trs σ (upd H p (.dK [])) fun ps H2=>H2 p=some (.dK [])/\∃ kvs:List (Key×V),ps=kvs.map (fun kv=>(kV kv.1,kv.2))/\kvs.length<=15/\Q (.ref p) (upd H2 p (.dK (jb1 [] kvs)))
theorem jil {X:Cx}{pos:Pos}{keys:List (Option Expr)}{values:List Expr}{trs:List (TE×TE)}(h:PPs X pos keys values trs)(hall:keys.all (·.isSome)=true)(hl:keys.length=values.length)(h0:keys≠[])
  (h15:keys.length<=15):PE X (.Dict keys values pos) (jlX trs):=by
 intro pins s σ H Q I q
 have hn:=I.hok.fresh (Nat.le_refl s.heap.objs.size)
 have I1:=I.laid (a:=s.heap.objs.size) (o:=.dK []) (h':=s.heap.push { cls:=.type "dict",data:=.dict #[] }) (t':=s.toks) (fun _ _ q=>Heap.get?_push_of_some _ q) (Nat.le_refl _) (jey s.heap I.big)
 refine wpAny_Dict_walk (knd:=jao X.prog X.w) hall hl h0 h15 (thn (h pins _ σ _ _ I1 (q _ hn)) fun ws s2 ⟨ps,H2,I2,rel,e,kvs,ep,lk,q2⟩=>?_)
 subst ep
 obtain ⟨rs,c,rk⟩:=jcE (P:=X.prog) (w:=X.w) rel
 obtain ⟨z,hd,vs0,r0,dd⟩:=jkU I2.hok e
 cases r0
 refine ⟨rs,c,dd,fun h' dd' hs=>⟨.ref s.heap.objs.size,_,?_,rfl,q2⟩⟩
 have hz:(jb1 [] kvs).length<=sizeLine:=by
  have h1:=jbi kvs []
  rw [List.length_nil] at h1
  rw [sizeLine_eq]; omega
 have he:∃ q,h'.get? s.heap.objs.size=some q:=let ⟨q,_,_,hq,_⟩:=dd'; ⟨q,hq⟩
 exact jd0 I2 (by rw [e]; exact True.intro) hs he (jhx hz hd (rk.merge .nil) dd')

structure M1 (X:Cx)(o:Expr)(m:Str)(apos:Pos)(e:Expr)(cpos:Pos):Prop where
 base:attributeBase o m X.env (eval o X.env)=eval o X.env
 few:((backTo cpos (starEach [e] X.env)).all (fun x=>!x.1) && (backToKw cpos (keywordEach [] X.env)).all (fun x=>x.1.isSome)
  && decide (([e]:List Expr).length + ([]:List Keyword).length + (if ([]:List Keyword).isEmpty then 0 else 1) < 30))=true
 line:(apos.endLine == cpos.line)=true
 trees:backTo cpos (starEach [e] X.env)=[(false,eval e X.env)]
structure M2 (X:Cx)(o:Expr)(m:Str)(apos:Pos)(e f:Expr)(cpos:Pos):Prop where
 base:attributeBase o m X.env (eval o X.env)=eval o X.env
 few:((backTo cpos (starEach [e,f] X.env)).all (fun x=>!x.1) && (backToKw cpos (keywordEach [] X.env)).all (fun x=>x.1.isSome)
  && decide (([e,f]:List Expr).length + ([]:List Keyword).length + (if ([]:List Keyword).isEmpty then 0 else 1) < 30))=true
 line:(apos.endLine == cpos.line)=true
 trees:backTo cpos (starEach [e,f] X.env)=[(false,eval e X.env),(false,eval f X.env)]

section
variable {X:Cx}{pins:List (Addr×Obj)}{σ:St}{H:Hp}{s:Shared}{a:Addr}{y d:V}{u r:Value}{o:Option V}{A:Around}{E:Value->Shared->Prop}
end

section
variable {X:Cx}{o e f:Expr}{apos cpos:Pos}{td ty tx:TE}
end

section
variable {X:Cx}{pins:List (Addr×Obj)}{σ:St}{H:Hp}{s:Shared}{a:Addr}{kvs:List (Key×V)}{A:Around}{E:Value->Shared->Prop}
end

section
variable {X:Cx}{pins:List (Addr×Obj)}{σ:St}{H:Hp}{s:Shared}{a:Addr}{y:V}{u:Value}{A:Around}{E:Value->Shared->Prop}
end
end L2

namespace Att
open PySem PySem.W PySem.Calls PyProof.Rows

theorem jb3 {P:Params}{h:Heap}:∀ (ns:List Int) (vs:List Value),WellAll P h vs (ns.map WData.int)->IntsAre vs ns:=by
 intro ns
 induction ns with
 | nil=>
  intro vs w
  rw [List.map_nil] at w
  cases w
  exact .nil
 | cons n ns ih=>
  intro vs w
  rw [List.map_cons] at w
  cases w with
  | cons a b=>
   cases a
   exact .cons _ _ (ih _ b)

theorem jfa {l:OpenLaw}{n:Nat}(hn:l.most=some n){P:Params}{h:Heap}{args:List WData}{vals:List Value}
  (hpre:l.row.toRowW.claim.pre args=true) (hwl:WellAll P h vals args) :
  ∃ a vs ns,vals=[Value.ref a]/\args=[WData.list (ns.map WData.int)]/\h.get? a=some { cls:=.type "list",data:=.seq vs.toArray }/\IntsAre vs ns/\ns.length<=n:=by
 have hsh:WShape.hasAll [] args [.list .int]=true:=(pre_splitW hpre).1
 have hc:l.pre.holds [] { args:=args }=true:=(pre_splitW hpre).2
 obtain ⟨d,r,rfl,h1,h2⟩:=hasAllW_cons hsh
 obtain rfl:=hasAllW_nil h2
 obtain ⟨xs,rfl,h3⟩:=hasW_list h1
 obtain ⟨ns,rfl⟩:=items_int h3
 have hlen:ns.length<=n:=by
  unfold OpenLaw.pre at hc
  have h4:(WTm.not (.lt (.lit (.int (n:Int))) (.len (.arg 0)))).holds [] { args:=[.list (ns.map .int)] }=true:=by
   have h4:=(holds_andW hc).1
   rw [hn] at h4
   exact h4
  have h5:=condW_of h4 (w_not (w_lt w_lit (w_len_list (w_arg rfl))))
  rw [List.length_map] at h5
  refine Nat.le_of_not_lt fun q=>?_
  have q':(n:Int) < ((ns.length:Nat):Int):=by omega
  first
   | (rw [decide_eq_true q'] at h5; exact absurd h5 (by decide))
   | (simp at h5; omega)
 cases hwl with
 | cons w1 w2=>
  cases w2
  cases w1 with
  | list ho hall=>exact ⟨_,_,ns,rfl,rfl,ho,jb3 ns _ hall,hlen⟩

theorem jfg (l:OpenLaw)(args:List WData):l.row.toRowW.claim.post args (.bool true) args=true:=
 postW_of (r:=l.row.toRowW) (X:=(true == true))
  (show WShape.has [] (.bool true) .bool=true by first | rfl | decide | simp [WShape.has,WShape.arms,WShape.armsAll])
  (show (WTm.eq .res (.lit (.bool true))).value [] { args:=args,res:=some (.bool true),after:=args }=some (.bool (true == true)) from w_eq_bool (w_res rfl) w_lit) rfl

theorem attach_call {l:OpenLaw}{n:Nat}{q:Program}{loose:List Str}{XP:(Str->Option Value)->Heap->Prop}{YP:World->Heap->Prop}{d:DefRec}
  (hn:l.most=some n) (hdf:d.params.defaults=[])
  (call:∀ (w:World) (s₀ s₁:Shared) (mg mb:Str->Option Value) (fa:Addr) (o:Obj) (pm cd doc:Value) (a:Addr) (vs:List Value) (ns:List Int),
   Ground q loose [] XP w s₀ mg mb s₁.heap->YP w s₁.heap->
   s₁.heap.get? fa=some o->o.data=.func (docDef d.name d.params d.body d.scope pm cd doc)->s₁.heap.CodeRec cd d.name->mg d.name=some (.ref fa)->
   s₁.heap.get? a=some { cls:=.type "list",data:=.seq vs.toArray }->IntsAre vs ns->ns.length<=n->s₁.gens=#[]->
   codeAny (model l.prog w) callerA (.call (.ref fa) ⟨[.ref a],[]⟩) (fun r s'=>r=.ok (.ret (.bool true))/\OldK s₁.heap s'.heap/\s'.os=s₁.os/\AllBare s'.gens) s₁) :
  WalkO q loose XP YP l.row.toRowW d [] (fun f vs=>PySem.call f vs):=by
 intro w s₀ s₁ mg mb G Y fa o pm cd doc dV kV ho hd hcd hD hmg hg args vals as hpre hlay hrd hwl hlo
 obtain rfl:dV=.none:=Dflts.none hD hdf
 obtain rfl:kV=.none:=Dflts.noKw hD
 obtain ⟨a,vs,ns,rfl,rfl,hobj,hints,hlen⟩:=jfa hn hpre hwl
 refine enter_call (codeAny_mono (call w s₀ s₁ mg mb fa o pm cd doc a vs ns G Y ho (fd_plain hd) hcd hmg hobj hints hlen hg) fun r s' hq=>?_)
 obtain ⟨rfl,h2,h3,h4⟩:=hq
 exact ⟨.inl ⟨.bool true,.bool true,[],rfl,fun _=>rfl,.bool true,jfg l _,fun _=>⟨List.Pairwise.nil,fun _ hm=>(nomatch hm)⟩⟩,h2,h3,h4⟩

section
variable {prog:Program}{w:World}{A:Around}{E:Value->Shared->Prop}{s:Shared}{K:Frag}

end
end Att

namespace L2
open PySem PySem.Spec PyProof.Rows

theorem jc5:∀ {vs:List Value} {ns:List Int},IntsAre vs ns->Vals (ns.map V.int) vs
 | _,_,.nil=>.nil
 | _,_,.cons n t h=>.cons ⟨t,rfl⟩ (jc5 h)



def defArgs (s:Stmt):Arguments:=match s with
 | .FunctionDef _ a _ _ _ _ _ _ _ _=>a
 | _=>{ posonlyargs:=[],args:=[],vararg:=none,kwonlyargs:=[],kw_defaults:=[],kwarg:=none,defaults:=[] }
def defBody (s:Stmt):List Stmt:=match s with
 | .FunctionDef _ _ b _ _ _ _ _ _ _=>b
 | _=>[]
def defScope (s:Stmt):Scope:=match s with
 | .FunctionDef _ _ _ _ _ _ sc _ _ _=>sc
 | _=>{ kind:=.function,names:=[],isGenerator:=false,isCoroutine:=false }

noncomputable abbrev CX0:CXT:=fun _ _ _ _ _ _=>False
noncomputable abbrev E0:XK:=fun _ _ _=>False
structure Fun (K:PySem.W.Frag)(x qual:Str)(st:Stmt)(f:Addr)(fd:FuncData):Prop where
 ex:∃ (oc:Value) (od:Option Addr) (kV doc pm:Value) (an:Option Addr) (cdv ct:Value) (osl:Array (Option Value)),
  fd=PySem.W.fnOf x qual (defArgs st) (defBody st) (defScope st) .none kV doc pm an cdv ct/\K.lookup f=some ⟨oc,od,.func fd,osl⟩/\PySem.W.codeIn K cdv qual=true
 kp:PySem.W.keepIn K (.ref f)=true
section
variable {P:Program}{w:World}{K:PySem.W.Frag}{mg:Str->Option Value}{base:Heap}
theorem Fun.binds {x qual:Str}{st:Stmt}{f:Addr}{fd:FuncData}{ps:List Str}(F:Fun K x qual st f fd)
  (h:∀ (kV doc pm:Value) (an:Option Addr) (cdv ct:Value) (us:List Value),us.length=ps.length->bindArgs (PySem.W.fnOf x qual (defArgs st) (defBody st) (defScope st) .none kV doc pm an cdv ct) ⟨us,[]⟩=pure (ps.zip us)):Binds K fd ps []:=by
 obtain ⟨oc,od,kV,doc,pm,an,cdv,ct,osl,rfl,lk,hcd⟩:=F.ex
 exact .all (h kV doc pm an cdv ct)
theorem jaw {x qual:Str}{st:Stmt}{f:Addr}{oc:Value}{od an:Option Addr}{osl:Array (Option Value)}{kV doc pm cdv ct:Value}(l:K.lookup f=some ⟨oc,od,.func (PySem.W.fnOf x qual (defArgs st) (defBody st) (defScope st) .none kV doc pm an cdv ct),osl⟩)
  (c:PySem.W.codeIn K cdv qual=true) (k:PySem.W.keepIn K (.ref f)=true):Fun K x qual st f (PySem.W.fnOf x qual (defArgs st) (defBody st) (defScope st) .none kV doc pm an cdv ct):=⟨⟨oc,od,kV,doc,pm,an,cdv,ct,osl,rfl,l,c⟩,k⟩
end
theorem jmw {A:Around}{k:Nat}(hr:Room k A):A.units + 1 < cLine:=Nat.lt_of_le_of_lt (Nat.add_le_add_left (by decide:1<=64) _) hr.units
section
variable {X:Cx}
end

noncomputable def Same (H H':Hp):Prop:=∀ b o,H b=some o->H' b=some o
section
variable {X:Cx}
theorem jf4:jaN X (.builtin "len") (fun xs H Q=>∃ a kvs,xs=[V.ref a]/\H a=some (.dK kvs)/\Q (.int kvs.length) H):=by
 intro pins s σ H xs us Q I r h
 obtain ⟨a,kvs,rfl,ha,q⟩:=h
 obtain ⟨u,rfl,ru⟩:=jbK r
 cases ru
 exact jmE I (.inl ha) fun t s' I'=>⟨.int kvs.length,H,I',⟨t,rfl⟩,q⟩
end
section
variable {κ:Type}[DecidableEq κ]
end
end L2

namespace L2
open PySem PySem.Spec PyProof.Rows
set_option maxHeartbeats 4000000

section
variable {prog:Program}{w:World}{A:Around}{R:Result->Shared->Prop}{s:Shared}
noncomputable def jdQ (env:Env)(ifs:List Expr):Sem Bool:=forIn ifs true fun c r=>ite (r=true) (isTrue c env (eval c env) >>= fun b=>pure (.yield b)) (pure (.yield r))
noncomputable def jbT (ip:Pos)(tg:Expr)(ifs:List Expr)(it:Value)(env:Env)(em:Sem Unit)(next:Code):Sem Fin:=
 standAt ip >>= fun _=>pyNext it >>= fun r=>match r with
  | none=>pure (.done .next)
  | some v=>letOwnedTupleGo tg it v >>= fun _=>assign tg env v >>= fun _=>jdQ env ifs >>= fun ok=>ite (ok=true) (em >>= fun _=>again next) (again next)
noncomputable def jhP (M:Model)(A:Around)(tg:Expr)(ifs:List Expr)(it:Value)(env:Env)(em:Sem Unit)(fin:Shared->Prop)(less:Shared->Prop):Option Value->Shared->Prop
 | none,s=>fin s
 | some v,s=>wpAny M A (letOwnedTupleGo tg it v) (fun _ s=>wpAny M A (assign tg env v) (fun _ s=>wpAny M A (jdQ env ifs) (fun ok s=>if ok=true then wpAny M A em (fun _ s=>less s) (fun _ _=>False) s else less s) (fun _ _=>False) s) (fun _ _=>False) s) (fun _ _=>False) s
theorem jdw {elt:Expr}{gens:List Comprehension}{scope:Scope}{pos:Pos}{dp:Nat}{target:Expr}{ip:Pos}{ifs:List Expr}{it acc:Value}{env:Env}{em:Sem Unit}(I:Nat->Shared->Prop)
  (hct:compTurn (.ListComp elt gens scope pos) dp it acc env=jbT ip target ifs it env em (.compLoop (.ListComp elt gens scope pos) dp it acc env))
  (turn:∀ k t,I k t->wpAny (model prog w) A (pyNext it) (jhP (model prog w) A target ifs it env em (R (.ok .next)) fun t=>∃ m,m < k/\I m t) (fun _ _=>False) t)
  (n:Nat) (h:I n s):codeAny (model prog w) A (.compLoop (.ListComp elt gens scope pos) dp it acc env) R s:=by
 have no:∀ {Z:Value->Shared->Prop} (e:Value) (t:Shared),False->Z e t:=fun _ _ f=>f.elim
 refine codeAny_loop rfl I (fun k t hk=>wpAny_noted (m:=compTurn (.ListComp elt gens scope pos) dp it acc env) (hct ▸ ?_)) n h
 refine wpAny_bind (wpAny_standAt (wpAny_bind (wpAny_mono (turn k t hk) (fun r t1 p=>?_) no)))
 match r,p with
 | none,p=>exact wpAny_pure p
 | some v,p=>
  refine wpAny_bind (wpAny_mono p (fun _ t2 p=>wpAny_bind (wpAny_mono p (fun _ t3 p=>wpAny_bind (wpAny_mono p (fun ok t4 p=>?_) no)) no)) no)
  match ok,p with
  | false,p=>exact wpAny_pure ⟨rfl,p⟩
  | true,p=>exact wpAny_bind (wpAny_mono p (fun _ t5 p=>wpAny_pure ⟨rfl,p⟩) no)
end

theorem ja1 (env:Env):∀ (names:List (Str×NameKind)) (acc:List (Str×Addr)),(∀ y∈names,y.2=.free->∃ c,env.cells.lookup y.1=some c)->
  ∃ cl:List (Str×Addr),(forIn names acc (fun (y:Str×NameKind) (cs:List (Str×Addr))=>(if (y.2 == NameKind.free)=true then (do let c <- cellOf env y.1; pure (ForInStep.yield ((y.1,c)::cs))) else pure (ForInStep.yield cs):Sem (ForInStep (List (Str×Addr))))):Sem (List (Str×Addr)))=pure cl/\
   (∀ x c,(x,c)∈cl->(x,c)∈acc\/(env.cells.lookup x=some c/\(x,NameKind.free)∈names))/\(∀ p∈acc,p∈cl)/\(∀ y∈names,y.2=.free->∃ c,(y.1,c)∈cl)
 | [],acc,_=>⟨acc,rfl,fun _ _ h=>.inl h,fun _ h=>h,fun _ h=>nomatch h⟩
 | (n,k)::r,acc,h=>by
  by_cases hk:k=.free
  ·subst hk
   obtain ⟨c,hc⟩:=h (n,.free) List.mem_cons_self rfl
   obtain ⟨cl,e,h1,h2,h3⟩:=ja1 env r ((n,c)::acc) fun y hy=>h y (List.mem_cons_of_mem _ hy)
   refine ⟨cl,?_,fun x d hd=>?_,fun p hp=>h2 p (List.mem_cons_of_mem _ hp),fun y hy hf=>?_⟩
   ·rw [List.forIn_cons]
    have:(cellOf env n:Sem Addr)=pure c:=by unfold cellOf; rw [hc]
    simp only [beq_self_eq_true,if_true,this,pure_bind]
    exact e
   ·rcases h1 x d hd with z | ⟨z,z'⟩
    ·rcases List.mem_cons.mp z with z | z
     ·cases z; exact .inr ⟨hc,List.mem_cons_self⟩
     ·exact .inl z
    ·exact .inr ⟨z,List.mem_cons_of_mem _ z'⟩
   ·rcases List.mem_cons.mp hy with z | z
    ·subst z; exact ⟨c,h2 _ List.mem_cons_self⟩
    ·exact h3 y z hf
  ·obtain ⟨cl,e,h1,h2,h3⟩:=ja1 env r acc fun y hy=>h y (List.mem_cons_of_mem _ hy)
   have hb:(k == NameKind.free)=false:=by simpa using hk
   refine ⟨cl,?_,fun x d hd=>?_,h2,fun y hy hf=>?_⟩
   ·rw [List.forIn_cons]
    simp only [hb,Bool.false_eq_true,if_false,pure_bind]
    exact e
   ·rcases h1 x d hd with z | ⟨z,z'⟩
    ·exact .inl z
    ·exact .inr ⟨z,List.mem_cons_of_mem _ z'⟩
   ·rcases List.mem_cons.mp hy with z | z
    ·subst z; exact absurd hf hk
    ·exact h3 y z hf
theorem jbh {β:Type}:∀ {l:List (Str×β)} {x:Str} {c:β},(x,c)∈l->∃ d,l.lookup x=some d/\(x,d)∈l
 | (n,k)::r,x,c,h=>by
  cases hx:x == n with
  | true=>
   refine ⟨k,by simp only [List.lookup_cons,hx],?_⟩
   rw [eq_of_beq hx]; exact List.mem_cons_self
  | false=>
   rcases List.mem_cons.mp h with z | z
   ·cases z; simp at hx
   ·obtain ⟨d,e,m⟩:=jbh z
    exact ⟨d,by simp only [List.lookup_cons,hx]; exact e,List.mem_cons_of_mem _ m⟩
theorem jcD {scope:Scope}{env:Env}(h:∀ y∈scope.names,y.2=.free->∃ c,env.cells.lookup y.1=some c) :
  ∃ cl:List (Str×Addr),closureFor scope env=pure cl/\(∀ x c,cl.lookup x=some c->env.cells.lookup x=some c)/\(∀ y∈scope.names,y.2=.free->∃ c,cl.lookup y.1=some c):=by
 obtain ⟨cl,e,h1,_,h3⟩:=ja1 env scope.names [] h
 refine ⟨cl,?_,fun x c hx=>?_,fun y hy hf=>?_⟩
 ·unfold closureFor
  rw [<- e]
  simp only [bind_pure]
 ·rcases h1 x c (PySem.mem_of_lookup hx) with z | ⟨z,_⟩
  ·exact nomatch z
  ·exact z
 ·obtain ⟨c,hc⟩:=h3 y hy hf
  obtain ⟨d,e,_⟩:=jbh hc
  exact ⟨d,e⟩

noncomputable def jag (X:Cx)(N:List Str)(scope:Scope)(cl:List (Str×Addr))(C:Addr)(s₀:Shared)(H₀:Hp)(fp:List Addr):Cx where
 prog:=X.prog
 w:=X.w
 K:=X.K
 mg:=X.mg
 base:=X.base
 A:=X.A
 N:=N
 s₀:=s₀
 H₀:=H₀
 env:=compEnvC scope cl C X.env
 outer:=X.stack
 stack:=X.stack
 ex:=fp
 fn:=fun x=>scope.names.lookup x == some .cell
 calm:=X.calm
 pn:=[]
 xe:=fun _ _=>False

noncomputable def cOk (oN:List Str)(on:List (Str×NameKind))(N:List Str)(pick:List (Option Nat))(scope:Scope):Bool:=
 decide (scope.kind=.function) && scope.names.all (fun y=>y.2 != .cell || scope.names.lookup y.1 == some .cell) && scope.names.all (fun y=>y.2 != .local || scope.names.lookup y.1 == some .local)
  && scope.names.all (fun y=>y.2 != .free || (scope.names.lookup y.1 == some .free && (on.lookup y.1 == some .cell || on.lookup y.1 == some .free)))
  && pick.length == N.length && (N.zip pick).all (fun p=>match p.2 with | none=>true | some j=>oN[j]? == some p.1 && scope.names.lookup p.1 == some .free)

structure CScope (X:Cx)(N:List Str)(pick:List (Option Nat))(scope:Scope):Prop where
 kind:scope.kind=.function
 cells:∀ y∈scope.names,y.2=.cell->scope.names.lookup y.1=some .cell
 names:∀ y∈scope.names,y.2=.local->scope.names.lookup y.1=some .local
 fre:∀ y∈scope.names,y.2=.free->scope.names.lookup y.1=some .free/\(X.env.kindOf y.1=some .cell\/X.env.kindOf y.1=some .free)
 len:pick.length=N.length
 caps:∀ (i j:Nat) (x:Str),N[i]?=some x->pick[i]?=some (some j)->X.N[j]?=some x/\scope.names.lookup x=some .free
theorem jbv (f:Str->NameKind->NameKind):∀ (names:List (Str×NameKind)) (x:Str),(names.map fun y=>(y.1,f y.1 y.2)).lookup x=(names.lookup x).map (f x)
 | [],_=>rfl
 | (n,k)::r,x=>by
  rw [List.map_cons,List.lookup_cons,List.lookup_cons,jbv f r x]
  by_cases e:x=n
  ·subst e; rw [beq_self_eq_true]; rfl
  ·rw [beq_false_of_ne e]
noncomputable def jhn (env:Env)(n:Str)(k:NameKind):NameKind:=if (k == NameKind.free && env.scope.kind == .function && env.kindOf n == some .cell) then .cell else k
theorem jbf (env:Env)(names:List (Str×NameKind))(x:Str) :
  (names.map fun (n,k)=>if (k == NameKind.free && env.scope.kind == .function && env.kindOf n == some .cell) then (n,NameKind.cell) else (n,k)).lookup x=(names.lookup x).map (jhn env x):=by
 rw [<- jbv (jhn env)]
 congr 2
 funext y
 show ite _ _ _=(y.1,ite _ _ _)
 split <;> rfl
theorem jaD {env:Env}{names:List (Str×NameKind)}{x:Str}(h:names.lookup x=some .free) :
  (names.map fun (n,k)=>if (k == NameKind.free && env.scope.kind == .function && env.kindOf n == some .cell) then (n,NameKind.cell) else (n,k)).lookup x=some .cell\/
  (names.map fun (n,k)=>if (k == NameKind.free && env.scope.kind == .function && env.kindOf n == some .cell) then (n,NameKind.cell) else (n,k)).lookup x=some .free:=by
 rw [jbf,h]
 show some (ite _ _ _)=_\/some (ite _ _ _)=_
 split
 ·exact .inl rfl
 ·exact .inr rfl
theorem jaq {env:Env}{q:NameKind}(hq:q≠.free){names:List (Str×NameKind)}{x:Str}(h:names.lookup x=some q) :
  (names.map fun (n,k)=>if (k == NameKind.free && env.scope.kind == .function && env.kindOf n == some .cell) then (n,NameKind.cell) else (n,k)).lookup x=some q:=by
 rw [jbf,h]
 show some (ite _ _ _)=_
 rw [beq_false_of_ne hq]
 rfl
theorem jaW {env:Env}:∀ {names:List (Str×NameKind)} {x:Str},
  ((names.map fun (n,k)=>if (k == NameKind.free && env.scope.kind == .function && env.kindOf n == some .cell) then (n,NameKind.cell) else (n,k)).lookup x=some .cell\/
  (names.map fun (n,k)=>if (k == NameKind.free && env.scope.kind == .function && env.kindOf n == some .cell) then (n,NameKind.cell) else (n,k)).lookup x=some .free)->(x,NameKind.free)∈names\/(x,NameKind.cell)∈names
 | [],_,h=>by simp at h
 | (n,k)::r,x,h=>by
  have ih:_->_:=@jaW env r x
  have h':List.lookup x ((if (k == NameKind.free && env.scope.kind == .function && env.kindOf n == some .cell)=true then (n,NameKind.cell) else (n,k))::r.map fun (n,k)=>if (k == NameKind.free && env.scope.kind == .function && env.kindOf n == some .cell) then (n,NameKind.cell) else (n,k))=some .cell\/List.lookup x ((if (k == NameKind.free && env.scope.kind == .function && env.kindOf n == some .cell)=true then (n,NameKind.cell) else (n,k))::r.map fun (n,k)=>if (k == NameKind.free && env.scope.kind == .function && env.kindOf n == some .cell) then (n,NameKind.cell) else (n,k))=some .free:=h
  by_cases hk:k=.free
  ·cases hx:x == n with
   | true=>rw [eq_of_beq hx,hk]; exact .inl List.mem_cons_self
   | false=>
    refine (ih ?_).imp (List.mem_cons_of_mem _) (List.mem_cons_of_mem _)
    by_cases hcc:(k == NameKind.free && env.scope.kind == .function && env.kindOf n == some .cell)=true
    ·rw [if_pos hcc] at h'; simpa only [List.lookup_cons,hx] using h'
    ·rw [if_neg hcc] at h'; simpa only [List.lookup_cons,hx] using h'
  ·have hb:(k == NameKind.free)=false:=by simpa using hk
   rw [if_neg (by simp [hb])] at h'
   cases hx:x == n with
   | true=>
    simp only [List.lookup_cons,hx] at h'
    rcases h' with z | z
    ·rw [eq_of_beq hx,Option.some.inj z]; exact .inr List.mem_cons_self
    ·exact absurd (Option.some.inj z) hk
   | false=>exact (ih (by simpa only [List.lookup_cons,hx] using h')).imp (List.mem_cons_of_mem _) (List.mem_cons_of_mem _)

theorem jau:∀ (names:List (Str×NameKind)) (n:Nat) (acc:List (Str×Addr)),cellsFrom n names acc=cellsFrom n names []++acc
 | [],_,_=>rfl
 | (x,k)::r,n,acc=>by
  unfold cellsFrom
  split
  ·rw [jau r (n + 1) ((x,n)::acc),jau r (n + 1) [(x,n)],List.append_assoc]; rfl
  ·exact jau r n acc
theorem jaB:∀ (names:List (Str×NameKind)) (n:Nat) {x:Str} {c:Addr},(x,c)∈cellsFrom n names []->(x,NameKind.cell)∈names
 | [],_,_,_,h=>nomatch h
 | (y,k)::r,n,x,c,h=>by
  unfold cellsFrom at h
  split at h
  ·rename_i hk
   rw [jau] at h
   rcases List.mem_append.mp h with h | h
   ·exact List.mem_cons_of_mem _ (jaB r _ h)
   ·have e:(x,c)=(y,n):=by simpa using h
    cases e
    rw [eq_of_beq hk]; exact List.mem_cons_self
  ·exact List.mem_cons_of_mem _ (jaB r _ h)
theorem jcu {β:Type}:∀ (l m:List (Str×β)) (x:Str),(l++m).lookup x=(l.lookup x).or (m.lookup x)
 | [],_,_=>by simp
 | (n,k)::r,m,x=>by
  rw [List.cons_append,List.lookup_cons,List.lookup_cons]
  cases hx:x == n with
  | true=>simp
  | false=>exact jcu r m x
structure BCells (scope:Scope)(cl cs:List (Str×Addr))(lo:Nat)(h:Heap):Prop where
 lk:∀ x c,cs.lookup x=some c->((x,NameKind.cell)∈scope.names/\lo < c/\h.IsCell c none)\/((x,NameKind.cell)∉scope.names/\cl.lookup x=some c)
 own:∀ x,scope.names.lookup x=some .cell->∃ c,cs.lookup x=some c/\lo < c
 old:∀ x c,(x,NameKind.cell)∉scope.names->cl.lookup x=some c->cs.lookup x=some c
 inj:∀ x y c,cs.lookup x=some c->cs.lookup y=some c->lo < c->x=y
theorem jf6 {scope:Scope}{cl:List (Str×Addr)}{h:Heap}{lo:Nat}(hl:h.objs.size=lo + 1)(S:∀ y∈scope.names,y.2=.cell->scope.names.lookup y.1=some .cell)(hcl:∀ x c,cl.lookup x=some c->c<=lo):BCells scope cl (cellsFrom (lo + 1) scope.names cl) lo (pushCells h scope.names):=by
 have ok:=cellsFrom_ok scope.names h (lo + 1) [] ⟨fun _ _ hm=>(nomatch hm),List.Pairwise.nil⟩ (by omega)
 rw [hl] at ok
 have look:∀ x,(cellsFrom (lo + 1) scope.names cl).lookup x=((cellsFrom (lo + 1) scope.names []).lookup x).or (cl.lookup x):=fun x=>by rw [jau,jcu]
 have own:∀ x,(x,NameKind.cell)∈scope.names->∃ c,(cellsFrom (lo + 1) scope.names []).lookup x=some c:=fun x hx=>jc2 (S _ hx rfl)
 refine ⟨fun x c e=>?_,fun x hx=>?_,fun x c hx hc=>?_,fun x y c e1 e2 hc=>?_⟩
 ·rw [look] at e
  by_cases hx:(x,NameKind.cell)∈scope.names
  ·obtain ⟨c',e'⟩:=own x hx
   rw [e',Option.some_or] at e
   have e:c'=c:=Option.some.inj e
   subst e
   obtain ⟨z1,z2⟩:=ok.empty x c' (PySem.mem_of_lookup e')
   exact .inl ⟨hx,z2,z1⟩
  ·cases q:(cellsFrom (lo + 1) scope.names []).lookup x with
   | some c'=>exact absurd (jaB _ _ (PySem.mem_of_lookup q)) hx
   | none=>rw [q,Option.none_or] at e; exact .inr ⟨hx,e⟩
 ·obtain ⟨c,e⟩:=own x (PySem.mem_of_lookup hx)
  exact ⟨c,by rw [look,e,Option.some_or],(ok.empty x c (PySem.mem_of_lookup e)).2⟩
 ·rw [look]
  cases q:(cellsFrom (lo + 1) scope.names []).lookup x with
  | some c'=>exact absurd (jaB _ _ (PySem.mem_of_lookup q)) hx
  | none=>rw [Option.none_or]; exact hc
 ·rw [look] at e1 e2
  have new:∀ x,((cellsFrom (lo + 1) scope.names []).lookup x).or (cl.lookup x)=some c->(cellsFrom (lo + 1) scope.names []).lookup x=some c:=fun x e=>by
   cases q:(cellsFrom (lo + 1) scope.names []).lookup x with
   | some c'=>rw [q,Option.some_or] at e; exact e
   | none=>
    rw [q,Option.none_or] at e
    exact absurd (Nat.lt_of_lt_of_le hc (hcl x c e)) (Nat.lt_irrefl _)
  exact name_of_addr ok.apart (PySem.mem_of_lookup (new x e1)) (PySem.mem_of_lookup (new y e2))
theorem jbd {M:Model}{A:Around}{E:Value->Shared->Prop}{s:Shared}{scope:Scope}{globals:Addr}{cl:List (Str×Addr)}{qual:Str}{env:Env}{Q:Env->Shared->Prop}
  (hQ:Q (newEnv scope s.heap.objs.size globals (cellsFrom (s.heap.objs.size + 1) scope.names cl) qual none .none (some env) builtinsNs) { s with heap:=pushCells (s.heap.push { cls:=.type "dict",data:=.dict #[] }) scope.names }) :
  wpAny M A (newFunctionEnv scope globals cl [] qual none .none (some env)) Q E s:=by
 have sz:(s.heap.push { cls:=.type "dict",data:=.dict #[] }).objs.size=s.heap.objs.size + 1:=Heap.size_push ..
 unfold newFunctionEnv
 rw [if_pos (by rfl)]
 refine wpAny_bind (wpAny_alloc (wpAny_bind (wpAny_layCells _ (fun x k c=>by by_cases e:(k == NameKind.cell)=true <;> simp [e]) _ _ _ _ ?_)))
 rw [show Heap.objs (Shared.heap _)=(s.heap.push { cls:=.type "dict",data:=.dict #[] }).objs from rfl,sz]
 exact wpAny_bind (wpAny_pure (wpAny_pure hQ))

section
variable {X:Cx}{N:List Str}{scope:Scope}{cl:List (Str×Addr)}{C:Addr}{s₀:Shared}{H₀:Hp}{fp:List Addr}
theorem glc {x:Str}(h:scope.names.lookup x=some .globalImplicit):Gl (jag X N scope cl C s₀ H₀ fp) x:=jaq (by decide) h
end

noncomputable def PIfs (X:Cx)(ifs:List Expr)(t:TT):Prop:=
 ∀ (pins:List (Addr×Obj)) (s:Shared) (σ:St) (H:Hp) (Q:Bool->Hp->Prop),Inv X pins σ H s->t σ H Q->
  wpAny (model X.prog X.w) X.A (jdQ X.env ifs) (TP X pins σ Q) X.xe s
noncomputable def jlU:TT:=fun _ H Q=>Q true H
theorem jig {X:Cx}:PIfs X [] jlU:=fun _ _ _ H _ I h=>wpAny_tests_nil ⟨H,I,h⟩
theorem jif {X:Cx}{c:Expr}{t:TT}(h:PT X c t):PIfs X [c] t:=fun pins s σ H Q I q=>wpAny_tests_one (h pins s σ H Q I q)

noncomputable abbrev TEm:=St->List V->Hp->(St->List V->Hp->Prop)->Prop
noncomputable def jf8 (J:It)(g:TG)(tt:TT)(tem:TEm)(QQ:St->List V->Hp->Prop)(τ0:St)(ys0:List V)(H1:Hp):Prop:=∃ W:Nat->Nat->St->List V->Hp->Prop,
 (∃ m,W 0 m τ0 ys0 H1)/\∀ i m τ ys H,W i m τ ys H->
  (J.stop i H/\QQ τ ys H)\/(J.go i H/\∀ x H',J.yld i H x H'->g x τ H' fun τ2 H2=>tt τ2 H2 fun b H3=>if b=true then tem τ2 ys H3 fun τ3 ys' H4=>∃ m',m' < m/\W (i + 1) m' τ3 ys' H4
   else ∃ m',m' < m/\W (i + 1) m' τ2 ys H3)
noncomputable def emA (te:TE)(D:Addr):TEm:=fun τ ys H Q=>te τ H fun v H4=>H4 D=some (.lst ys)/\ys.length < sizeLine/\Q τ (ys++[v]) (upd H4 D (.lst (ys++[v])))
noncomputable def LcGG (J:It)(g:TG)(tt:TT)(tem:Addr->TEm)(D:Addr)(τ0:St)(Q:VK)(H1:Hp):Prop:=jf8 J g tt (tem D) (fun _ _ H=>Q (.ref D) H) τ0 [] (upd H1 D (.lst []))
noncomputable def PEm (Y:Cx)(em:Sem Unit)(tem:TEm):Prop:=∀ (pins:List (Addr×Obj)) (s:Shared) (τ:St) (ys:List V) (H:Hp) (Q:St->List V->Hp->Prop),Inv Y pins τ H s->tem τ ys H Q->
 wpAny (model Y.prog Y.w) Y.A em (fun _ s'=>∃ τ' ys' H',Inv Y pins τ' H' s'/\Q τ' ys' H') Y.xe s
noncomputable def tLcG (pick:List (Option Nat))(wi:TI)(g:TG)(tt:TT)(tem:Addr->TEm):TE:=fun σ H Q=>wi σ H fun J H1=>∀ D,H1 D=none->LcGG J g tt tem D (pick.map fun o=>o.bind fun j=>(σ[j]?).join) Q H1
noncomputable abbrev tLc (pick:List (Option Nat))(wi:TI)(g:TG)(tt:TT)(te:TE):TE:=tLcG pick wi g tt (emA te)
section
variable {X:Cx}{N:List Str}{pick:List (Option Nat)}{scope:Scope}{pins:List (Addr×Obj)}{σ:St}{s s3:Shared}{H H3:Hp}

theorem jeW {cl cs : List (Str × Addr)}{fp : List Addr}{h₁ : Heap}{tk : Nat}{mB : Str -> Option Value}(S : CScope X N pick scope)(I3 : Inv X pins σ H3 s3)(hf : ∀ b ∈ fp, FpOk X pins H3 b)(hlt : ∀ b ∈ fp, b < s3.heap.objs.size)
    (c1 : ∀ x c, cl.lookup x = some c -> X.env.cells.lookup x = some c) (c2 : ∀ y ∈ scope.names, y.2 = .free -> ∃ c, cl.lookup y.1 = some c) (B : BCells scope cl cs s3.heap.objs.size h₁)
    (hns : h₁.Ns s3.heap.objs.size mB) (hk : ∀ b o, s3.heap.get? b = some o -> h₁.get? b = some o) :
    Inv (jag X N scope cs s3.heap.objs.size s3 H3 fp) [] (pick.map fun o => o.bind fun j => (σ[j]?).join) H3 { s3 with heap := h₁, toks := tk } := by
  have fsub : ∀ b ∈ frs X.stack, b ∈ X.env.locals :: X.fs := I3.stkSub
  have oc : ∀ x c, cs.lookup x = some c -> X.env.cells.lookup x = some c \/ s3.heap.objs.size < c := fun x c e => by
    rcases B.lk x c e with ⟨_, z, _⟩ | ⟨_, z⟩
    · exact .inr z
    · exact .inl (c1 x c z)
  have has : ∀ x, ((x, NameKind.free) ∈ scope.names \/ (x, NameKind.cell) ∈ scope.names) -> ∃ c, cs.lookup x = some c := fun x hx => by
    by_cases hc : (x, NameKind.cell) ∈ scope.names
    · obtain ⟨c, e, _⟩ := B.own x (S.cells _ hc rfl)
      exact ⟨c, e⟩
    · rcases hx with hx | hx
      · obtain ⟨c, e⟩ := c2 _ hx rfl
        exact ⟨c, B.old x c hc e⟩
      · exact absurd hx hc
  refine ⟨⟨I3.ok.mod, S.kind, I3.ok.glob, I3.ok.blt, Nat.le_refl _, fun x y c e1 e2 => ?_, fun x hx => has x (jaW hx), fun x c z e => ?_, I3.ok.hd, I3.ok.frames, .inl rfl, fun b hb => ⟨Nat.ne_of_lt (hlt b hb), fun x c e => ?_⟩,
      I3.bs, Nat.le_trans I3.ok.bsz I3.sz, fun b o e hb => ?_, fun b hb hm => ?_, I3.stack, I3.stkFree⟩,
    rfl, I3.bare, Un.kept hk, ⟨_, hns, fun i x v e1 e2 e3 => ?_⟩, fun x c e => ?_, I3.hok.fresh (Nat.le_refl _), fun x c e => ?_, fun p hp => absurd (show p ∈ ([] : List (Addr × Obj)) from hp) (by simp), I3.hok.kept hk, ?_⟩
  · by_cases hc : s3.heap.objs.size < c
    · exact B.inj x y c e1 e2 hc
    · exact I3.ok.inj x y c ((oc x c e1).resolve_right hc) ((oc y c e2).resolve_right hc)
  · have z' : scope.names.lookup x = some .cell := eq_of_beq z
    rcases B.lk x c e with ⟨_, y, _⟩ | ⟨y, _⟩
    · exact Nat.le_of_lt y
    · exact absurd (PySem.mem_of_lookup z') y
  · rcases oc x c e with z | z
    · exact (hf b hb).2.2.2.2.1 x c z
    · intro q
      rw [q] at z
      exact absurd (Nat.lt_trans z (hlt b hb)) (Nat.lt_irrefl _)
  · rcases (hf b hb).2.2.2.1 with z | z
    · exact I3.ok.noex b o e z
    · exact absurd (Nat.lt_of_lt_of_le (Heap.lt_size e) (Nat.le_trans I3.ok.bsz z)) (Nat.lt_irrefl _)
  · rcases List.mem_cons.mp (fsub b hm) with z | z
    · exact (hf b hb).2.1 z
    · exact (hf b hb).2.2.1 z
  · -- a captured name
    have e2' : ∃ j, pick[i]? = some (some j) /\ σ[j]? = some (some v) := by
      rw [List.getElem?_map] at e2
      cases q : pick[i]? with
      | none => rw [q] at e2; cases e2
      | some o =>
        rw [q] at e2
        cases o with
        | none => simp at e2
        | some j =>
          simp at e2
          refine ⟨j, rfl, ?_⟩
          cases q2 : σ[j]? with
          | none => rw [q2] at e2; cases e2
          | some w' => rw [q2] at e2; simp at e2; rw [e2]
    obtain ⟨j, ej, ev⟩ := e2'
    obtain ⟨hN, hfr⟩ := S.caps i j x e1 ej
    have hmem : (x, NameKind.free) ∈ scope.names := PySem.mem_of_lookup hfr
    have hnc : (x, NameKind.cell) ∉ scope.names := fun z => by
      have := S.cells _ z rfl
      rw [hfr] at this; cases this
    obtain ⟨_, hkind⟩ := S.fre _ hmem rfl
    obtain ⟨m, hn, hl⟩ := I3.loc
    obtain ⟨u, r, l⟩ := hl j x v hN ev (hkind.elim (fun z => .inr (.inl z)) fun z => .inr (.inr z))
    refine ⟨u, r, .inr ⟨?_, ?_⟩⟩
    · exact jaD (env := X.env) hfr
    · obtain ⟨c, hc⟩ := c2 _ hmem rfl
      have hc' := c1 _ _ hc
      rcases l with ⟨z, _⟩ | ⟨_, c', e, o, ho, hd⟩
      · rcases hkind with y | y
        · rw [y] at z; cases z
        · rw [y] at z; cases z
      · have : c' = c := by rw [hc'] at e; exact (Option.some.inj e).symm
        subst this
        exact ⟨c', B.old x c' hnc hc, o, hk _ _ ho, hd⟩
  · rcases B.lk x c e with ⟨_, _, z⟩ | ⟨_, z⟩
    · exact ⟨none, z⟩
    · obtain ⟨v, o, ho, hd⟩ := I3.cell x c (c1 x c z)
      exact ⟨v, o, hk _ _ ho, hd⟩
  · rcases oc x c e with z | z
    · exact I3.freeC x c z
    · exact I3.hok.fresh (Nat.le_of_lt z)
  · rw [List.length_map]
    exact S.len

theorem jgS {cl:List (Str×Addr)}{fp:List Addr}{C:Addr}{τ:St}{H':Hp}{s':Shared}{pins':List (Addr×Obj)}(I3:Inv X pins σ H3 s3)(hf:∀ b∈fp,FpOk X pins H3 b)(J:Inv (jag X N scope cl C s3 H3 fp) pins' τ H' s') :
  Inv X pins σ H' s':=I3.call' J.os J.base J.hok J.bare fun b hb=>⟨(hf b hb).2.2.2.1,(hf b hb).2.1,(hf b hb).2.2.2.2.1,(hf b hb).2.2.2.2.2⟩

theorem jiE {Y:Cx}{elt tg:Expr}{gens:List Comprehension}{pos ip:Pos}{ifs:List Expr}{dp:Nat}{acc:Value}{em:Sem Unit}{g:TG}{tt:TT}{tem:TEm}{J:It}{fp:List Addr}{it:Addr}{tn:Nat->Heap->Prop}{QQ:St->List V->Hp->Prop}{τ0:St}{ys0:List V}
  (yc:Y.calm=true) (yxe:Y.xe=fun _ _=>False)
  (hct:compTurn (.ListComp elt gens scope pos) dp (.ref it) acc Y.env=jbT ip tg ifs (.ref it) Y.env em (.compLoop (.ListComp elt gens scope pos) dp (.ref it) acc Y.env))
  (yg:PG Y tg g) (yi:PIfs Y ifs tt) (ym:PEm Y em tem) (J0:Inv Y pins τ0 H s) (T:Turn Y.prog Y.w Y.K tg J fp it tn) (t0:tn 0 s.heap) (f0:∀ b∈fp,FpOk Y pins H b) (hW:jf8 J g tt tem QQ τ0 ys0 H) :
  codeAny (model Y.prog Y.w) Y.A (.compLoop (.ListComp elt gens scope pos) dp (.ref it) acc Y.env) (fun r s'=>r=.ok .next/\∃ τ' ys' H',Inv Y pins τ' H' s'/\QQ τ' ys' H') s:=by
 obtain ⟨W,⟨m0,w0⟩,turn⟩:=hW
 have stat:∀ {H':Hp},(∀ b∈fp,H' b=none)->∀ b∈fp,FpOk Y pins H' b:=fun hn b hb=>⟨hn b hb,(f0 b hb).2⟩
 refine jdw (fun n s'=>∃ i τ ys H',Inv Y pins τ H' s'/\tn i s'.heap/\(∀ b∈fp,H' b=none)/\W i n τ ys H') hct ?_ m0 ⟨0,_,ys0,_,J0,t0,fun b hb=>(f0 b hb).1,w0⟩
 rintro n s4 ⟨i,τ,ys,H4,J4,t4,fr4,w4⟩
 rcases turn i n τ ys H4 w4 with ⟨stop,q⟩ | ⟨go,step⟩
 ·refine wpAny_mono (T.done Y rfl rfl rfl yc i pins s4 τ H4 (fun _ _=>False) J4 (stat fr4) t4 stop) (fun r s5 ⟨hr,J5⟩=>?_) fun _ _ f=>f
  subst hr
  exact ⟨rfl,τ,ys,H4,J5,q⟩
 ·refine wpAny_mono (T.item Y rfl rfl rfl yc i pins s4 τ H4 (fun _ _=>False) J4 (stat fr4) t4 go) (fun r s5 ⟨u,hr,h5⟩=>?_) fun _ _ f=>f
  subst hr
  refine wpAny_mono h5 (fun _ s6 ⟨x,H6,J6,r6,y6,t6,fr6⟩=>?_) fun _ _ f=>f
  have J6':=J6.pinned (stat fr6) (T.obj _ _ t6)
  have ag:=yg _ s6 τ H6 x u _ J6' r6 (step x H6 y6)
  rw [yxe] at ag
  refine wpAny_mono ag (fun _ s7 ⟨τ7,H7,J7,q7⟩=>?_) fun _ _ f=>f
  have ai:=yi _ s7 τ7 H7 _ J7 q7
  rw [yxe] at ai
  refine wpAny_mono ai (fun ok s8 ⟨H8,J8,q8⟩=>?_) fun _ _ f=>f
  have again:∀ {τ9:St} {H9:Hp} {s9:Shared} {zs:List V},Inv Y (pins++jdc fp s6.heap) τ9 H9 s9->(∃ m',m' < n/\W (i + 1) m' τ9 zs H9)->∃ m,m < n/\∃ i τ ys H',Inv Y pins τ H' s9/\tn i s9.heap/\(∀ b∈fp,H' b=none)/\W i m τ ys H':=fun {τ9 H9 s9 zs} J9 ⟨m',hm,w9⟩=>by
   refine ⟨m',hm,i + 1,τ9,zs,H9,J9.unpinned,T.keep _ _ _ t6 fun b hb o e=>(J9.pin (b,o) (List.mem_append_right _ (List.mem_append_right _ (ja4 hb e)))).1,fun b hb=>?_,w9⟩
   obtain ⟨o,e,d⟩:=T.obj _ _ t6 b hb
   exact (J9.pin (b,o) (List.mem_append_right _ (List.mem_append_right _ (ja4 hb e)))).2.1
  cases ok with
  | false=>exact again J8 q8
  | true=>
   have am:=ym _ s8 τ7 ys H8 _ J8 q8
   rw [yxe] at am
   exact wpAny_mono am (fun _ s9 ⟨τ9,zs,H9,J9,q9⟩=>again J9 q9) fun _ _ f=>f
theorem jhw {Y:Cx}{elt:Expr}{te:TE}{D:Addr}(yxe:Y.xe=fun _ _=>False)(he:PE Y elt te):PEm Y (do let _ <- call (.builtin "list.append") [.ref D,<- eval elt Y.env]) (emA te D):=by
 intro pins s τ ys H Q J q
 have ae:=he _ s τ H _ J q
 refine wpAny_bind (wpAny_mono ae (fun v s9 ⟨z,H9,J9,r9,hD9,hz9,q9⟩=>?_) fun _ _ f=>f)
 have aa:=jdm (X:=Y) _ s9 τ H9 (.ref D) [z] (.ref D) [v] (fun x H'=>H'=upd H9 D (.lst (ys++[z]))) J9 rfl (.cons r9 .nil) ⟨_,ys,z,rfl,rfl,hD9,hz9,rfl⟩
 refine wpAny_bind (wpAny_mono aa (fun _ s10 ⟨_,H10,J10,_,e10⟩=>?_) fun _ _ f=>f)
 subst e10
 exact wpAny_pure ⟨τ,_,_,J10,q9⟩
theorem jeq {tg iter elt:Expr}{ifs:List Expr}{rest:List Comprehension}{pos:Pos}{g:TG}{tt:TT}{tem:Addr->TEm}{em:Addr->Env->Sem Unit}{J:It}{fp:List Addr}{it:Addr}{tn:Nat->Heap->Prop}{cl:List (Str×Addr)}{Q:VK}{E:Value->Shared->Prop}{RR:Value->Addr->Result->Shared->Prop}
  (hc:X.calm=true) (S:CScope X N pick scope) (c1:∀ x c,cl.lookup x=some c->X.env.cells.lookup x=some c) (c2:∀ y∈scope.names,y.2=.free->∃ c,cl.lookup y.1=some c)
  (hg:∀ cl C s₀ H₀ fp,PG (jag X N scope cl C s₀ H₀ fp) tg g) (hi:∀ cl C s₀ H₀ fp,PIfs (jag X N scope cl C s₀ H₀ fp) ifs tt) (he:∀ D cl C s₀ H₀ fp,PEm (jag X N scope cl C s₀ H₀ fp) (em D (jag X N scope cl C s₀ H₀ fp).env) (tem D))
  (hct:∀ (it:Value) (D:Addr) (env:Env),compTurn (.ListComp elt (⟨tg,iter,ifs,0⟩::rest) scope pos) 0 it (.ref D) env=jbT iter.pos tg ifs it env (em D env) (.compLoop (.ListComp elt (⟨tg,iter,ifs,0⟩::rest) scope pos) 0 it (.ref D) env))
  (I2:Inv X pins σ H s) (T:Turn X.prog X.w X.K tg J fp it tn) (st:tn 0 s.heap) (hf:∀ b∈fp,FpOk X pins H b)
  (hW:∀ D,H D=none->LcGG J g tt tem D (pick.map fun o=>o.bind fun j=>(σ[j]?).join) Q H)
  (hRR:∀ D C H' s',Inv X pins σ H' s'->(∃ m,s'.heap.Ns C m)->FpOk X pins H' C->Q (.ref D) H'->RR (.ref D) C (.ok .next) s') :
  wpAny (model X.prog X.w) X.A (newList []) (fun acc s₃=>wpAny (model X.prog X.w) X.A (newFunctionEnv scope X.env.globals cl [] X.env.qual none .none (some X.env)) (fun cenv s₄=>
   codeAny (model X.prog X.w) X.A (.compStart (.ListComp elt (⟨tg,iter,ifs,0⟩::rest) scope pos) 0 (.ref it) acc { cenv with scope:=relabel scope X.env }) (RR acc cenv.locals) s₄) E s₃) E s:=by
 have hD:H s.heap.objs.size=none:=I2.hok.fresh (Nat.le_refl _)
 have hlt:∀ b∈fp,b < s.heap.objs.size:=fun b hb=>let ⟨o,e,_⟩:=T.obj _ _ st b hb; Heap.lt_size e
 refine wpAny_newObj_type (jbd ?_)
 have I3:Inv X pins σ (upd H s.heap.objs.size (.lst [])) { s with heap:=s.heap.push { cls:=.type "list",dict:=none,data:=.seq ([]:List Value).toArray } }:=
  I2.laid (t':=s.toks) (fun b u e=>Heap.get?_push_of_some _ e) (Nat.le_refl _) ⟨Nat.zero_le _,[],0,.nil,Heap.get?_push_size _ rfl⟩
 generalize hs3:({ s with heap:=s.heap.push { cls:=.type "list",dict:=none,data:=.seq ([]:List Value).toArray } }:Shared)=s3 at I3 ⊢
 have hsz:s3.heap.objs.size=s.heap.objs.size + 1:=by rw [<- hs3]; exact Heap.size_push ..
 have hf3:∀ b∈fp,FpOk X pins (upd H s.heap.objs.size (.lst [])) b:=fun b hb=>⟨by rw [jac (Nat.ne_of_lt (hlt b hb))]; exact (hf b hb).1,(hf b hb).2⟩
 have hsz':(s3.heap.push { cls:=.type "dict",data:=.dict #[] }).objs.size=s3.heap.objs.size + 1:=Heap.size_push ..
 have hk:∀ b o,s3.heap.get? b=some o->(pushCells (s3.heap.push { cls:=.type "dict",data:=.dict #[] }) scope.names).get? b=some o:=fun b o e=>pushCells_keeps _ _ b o (Heap.get?_push_of_some _ e)
 have hns₁:(pushCells (s3.heap.push { cls:=.type "dict",data:=.dict #[] }) scope.names).Ns s3.heap.objs.size fun _=>none:=(Heap.Ns.new s3.heap (.type "dict")).keeps (pushCells_keeps _ _)
 have B:=jf6 (cl:=cl) hsz' S.cells fun x c e=>by
  obtain ⟨v,z⟩:=I3.cell x c (c1 x c e)
  exact Nat.le_of_lt z.lt
 generalize pushCells (s3.heap.push { cls:=.type "dict",data:=.dict #[] }) scope.names=h₁ at hk hns₁ B ⊢
 generalize cellsFrom (s3.heap.objs.size + 1) scope.names cl=cs at B ⊢
 have c1':∀ x c,cs.lookup x=some c->X.env.cells.lookup x=some c\/s3.heap.objs.size < c:=fun x c e=>by
  rcases B.lk x c e with ⟨_,z,_⟩ | ⟨_,z⟩
  ·exact .inr z
  ·exact .inl (c1 x c z)
 have st1:tn 0 h₁:=T.keep _ _ _ st fun b _ o e=>hk b o (by rw [<- hs3]; exact Heap.get?_push_of_some _ e)
 have IY:Inv (jag X N scope cs s3.heap.objs.size s3 (upd H s.heap.objs.size (.lst [])) fp) [] (pick.map fun o=>o.bind fun j=>(σ[j]?).join) (upd H s.heap.objs.size (.lst [])) { s3 with heap:=h₁ }:=
  jeW (tk:=s3.toks) S I3 hf3 (fun b hb=>Nat.lt_of_lt_of_le (hlt b hb) (by omega)) c1 c2 B hns₁ hk
 generalize hY:jag X N scope cs s3.heap.objs.size s3 (upd H s.heap.objs.size (.lst [])) fp=Y at IY
 have yg:PG Y tg g:=hY ▸ hg _ _ _ _ _
 have yi:PIfs Y ifs tt:=hY ▸ hi _ _ _ _ _
 have ye:PEm Y (em s.heap.objs.size Y.env) (tem s.heap.objs.size):=hY ▸ he _ _ _ _ _ _
 have yprog:Y.prog=X.prog:=by rw [<- hY]; rfl
 have yw:Y.w=X.w:=by rw [<- hY]; rfl
 have yK:Y.K=X.K:=by rw [<- hY]; rfl
 have yA:Y.A=X.A:=by rw [<- hY]; rfl
 have yc:Y.calm=true:=by rw [<- hY]; exact hc
 have yenv:Y.env=compEnvC scope cs s3.heap.objs.size X.env:=by rw [<- hY]; rfl
 have yex:∀ b,b∈Y.ex↔b∈fp:=fun b=>by rw [<- hY]; rfl
 have yxe:Y.xe=fun _ _=>False:=by rw [<- hY]; rfl
 have ypn:Y.pn=[]:=by rw [<- hY]; rfl
 have yfs:∀ b,b∈Y.fs->b∈X.env.locals::X.fs:=fun b hb=>I3.stkSub b (by rw [<- hY] at hb; exact hb)
 have stat:∀ {H':Hp},(∀ b∈fp,H' b=none)->∀ b∈fp,FpOk Y [] H' b:=fun hn b hb=>by
  refine ⟨hn b hb,?_,fun hm=>?_,.inl ((yex b).mpr hb),fun x c e=>?_,fun p hp=>?_⟩
  ·rw [yenv]
   show b≠s3.heap.objs.size
   exact Nat.ne_of_lt (Nat.lt_of_lt_of_le (hlt b hb) (by omega))
  ·rcases List.mem_cons.mp (yfs b hm) with z | z
   ·exact (hf b hb).2.1 z
   ·exact (hf b hb).2.2.1 z
  ·rw [yenv] at e
   rcases c1' x c e with z | z
   ·exact (hf b hb).2.2.2.2.1 x c z
   ·intro q
    rw [q] at z
    exact absurd (Nat.lt_trans z (Nat.lt_of_lt_of_le (hlt b hb) (by omega))) (Nat.lt_irrefl _)
  ·rw [ypn] at hp; simp at hp
 have fin:∀ {τ:St} {H':Hp} {s':Shared},Inv Y [] τ H' s'->Q (.ref s.heap.objs.size) H'->RR (.ref s.heap.objs.size) s3.heap.objs.size (.ok .next) s':=fun {τ H' s'} J q=>by
  have fr:H' s3.heap.objs.size=none:=by have:=J.free; rw [yenv] at this; exact this
  obtain ⟨m,hn,_⟩:=J.loc
  rw [yenv] at hn
  exact hRR _ _ H' s' (jgS I3 hf3 (hY ▸ J)) ⟨m,hn⟩ (I3.fpOk (Nat.le_refl _) fr) q
 have hn:∀ b∈fp,upd H s.heap.objs.size (.lst []) b=none:=fun b hb=>(hf3 b hb).1
 have lp:=jiE (pins:=[]) (s:={ s3 with heap:=h₁ }) (acc:=.ref s.heap.objs.size) (ifs:=ifs) (em:=em s.heap.objs.size Y.env) yc yxe (hct (.ref it) s.heap.objs.size Y.env) yg yi ye IY (by rw [yprog,yw,yK]; exact T) st1 (stat hn) (hW _ hD)
 rw [yprog,yw,yA,yenv] at lp
 have lp:=codeAny_mono lp (R':=RR (.ref s.heap.objs.size) s3.heap.objs.size) fun r s' ⟨hr,τ',ys',H',I',q'⟩=>by subst hr; exact fin I' q'
 show codeAny (model X.prog X.w) X.A (.compStart (.ListComp elt (⟨tg,iter,ifs,0⟩::rest) scope pos) 0 (.ref it) (.ref s.heap.objs.size) (compEnvC scope cs s3.heap.objs.size X.env)) (RR (.ref s.heap.objs.size) s3.heap.objs.size) _
 exact codeAny_compStart_list lp (T.self _ 0 _ _ _ st1 lp)

theorem jj4 {tg iter elt:Expr}{ifs:List Expr}{pos:Pos}{wi:TI}{g:TG}{tt:TT}{rest:List Comprehension}{tem:Addr->TEm}{em:Addr->Env->Sem Unit}(hc:X.calm=true)(S:CScope X N pick scope)(hw:PI X tg iter wi)
  (hg:∀ cl C s₀ H₀ fp,PG (jag X N scope cl C s₀ H₀ fp) tg g) (hi:∀ cl C s₀ H₀ fp,PIfs (jag X N scope cl C s₀ H₀ fp) ifs tt) (he:∀ D cl C s₀ H₀ fp,PEm (jag X N scope cl C s₀ H₀ fp) (em D (jag X N scope cl C s₀ H₀ fp).env) (tem D))
  (hct:∀ (it:Value) (D:Addr) (env:Env),compTurn (.ListComp elt (⟨tg,iter,ifs,0⟩::rest) scope pos) 0 it (.ref D) env=jbT iter.pos tg ifs it env (em D env) (.compLoop (.ListComp elt (⟨tg,iter,ifs,0⟩::rest) scope pos) 0 it (.ref D) env))
  (hs:∀ x,foldedSetIterable iter X.env x=pure x:=by intro _; rfl):PE X (.ListComp elt (⟨tg,iter,ifs,0⟩::rest) scope pos) (tLcG pick wi g tt tem):=by
 intro pins s σ H Q I h
 obtain ⟨cl,hclos,c1,c2⟩:=jcD (scope:=scope) (env:=X.env) fun y hy hf=>I.ok.has _ (S.fre y hy hf).2
 rw [eval_ListComp]
 refine wpAny_comprehension_free (use:=none) rfl hs hclos S.kind S.names (thn (hw pins s σ H _ I h) fun v s1 h1=>thn h1 fun itv s2 h2=>?_)
 obtain ⟨it,fp,tn,J,H2,e,I2,T,st2,f2,hW⟩:=h2
 subst e
 refine jeq (RR:=fun acc C=>compPost (model X.prog X.w) X.A X.xe none (EP X pins σ Q) acc C) hc S c1 c2 hg hi he hct I2 T st2 f2 hW fun D C H' s' J' ⟨m,hn⟩ fC q=>?_
 refine ⟨m,hn,fun h' hs'=>⟨.ref D,H',?_,rfl,q⟩⟩
 exact J'.turned (t':=s'.toks) (it:=C) (fun b o hb e=>hs'.extBut b o hb e) fC.1 fC.2.1 fC.2.2.2.1 fC.2.2.2.2.1 fC.2.2.2.2.2

theorem jjR {tg iter elt:Expr}{ifs:List Expr}{pos py spos:Pos}{wi:TI}{g:TG}{tt:TT}{rest:List Comprehension}{tem:Addr->TEm}{em:Addr->Env->Sem Unit}{i:Nat}{y:Str}(hN:X.N.Nodup)(hi':X.N[i]?=some y)(hy:X.env.scope.names.lookup y=some .local)(hc:X.calm=true)(S:CScope X N pick scope)(hw:PI X tg iter wi)
  (hg:∀ cl C s₀ H₀ fp,PG (jag X N scope cl C s₀ H₀ fp) tg g) (hi:∀ cl C s₀ H₀ fp,PIfs (jag X N scope cl C s₀ H₀ fp) ifs tt) (he:∀ D cl C s₀ H₀ fp,PEm (jag X N scope cl C s₀ H₀ fp) (em D (jag X N scope cl C s₀ H₀ fp).env) (tem D))
  (hct:∀ (it:Value) (D:Addr) (env:Env),compTurn (.ListComp elt (⟨tg,iter,ifs,0⟩::rest) scope pos) 0 it (.ref D) env=jbT iter.pos tg ifs it env (em D env) (.compLoop (.ListComp elt (⟨tg,iter,ifs,0⟩::rest) scope pos) 0 it (.ref D) env))
  (hsw:swapsWith (.ListComp elt (⟨tg,iter,ifs,0⟩::rest) scope pos) (some (.Name y py)) spos.line X.env=pure true) (hs:∀ x,foldedSetIterable iter X.env x=pure x:=by intro _; rfl) :
  PS X (.Assign [.Name y py] (.ListComp elt (⟨tg,iter,ifs,0⟩::rest) scope pos) spos) (tAsg (tLcG pick wi g tt tem) (jgM i)):=by
 intro pins s σ H D0 I h
 obtain ⟨cl,hclos,c1,c2⟩:=jcD (scope:=scope) (env:=X.env) fun y hy hf=>I.ok.has _ (S.fre y hy hf).2
 rw [exec_Assign_Name_used _ _ _ _ hsw]
 refine wpAny_bind (wpAny_standAt (wpAny_bind ?_))
 show wpAny _ _ (do let _ <- comprehension (.ListComp elt (⟨tg,iter,ifs,0⟩::rest) scope pos) scope X.env _ (newList []) false (eval iter X.env) (some (assign (.Name y py) X.env))) _ _ s
 refine wpAny_bind (thn (wpAny_comprehension_free (use:=some (assign (.Name y py) X.env)) (Q:=fun _ s'=>SP X pins D0 .next s') rfl hs hclos S.kind S.names
  (thn (hw pins s σ H _ I h) fun v s1 h1=>thn h1 fun itv s2 h2=>?_)) fun _ s' hq=>wpAny_pure (wpAny_pure hq))
 obtain ⟨it,fp,tn,J,H2,e,I2,T,st2,f2,hW⟩:=h2
 subst e
 refine jeq (Q:=fun x H1=>jgM i x σ H1 D0.nx) (RR:=fun acc C=>compPost (model X.prog X.w) X.A X.xe (some (assign (.Name y py) X.env)) (fun _ s'=>SP X pins D0 .next s') acc C) hc S c1 c2 hg hi he hct I2 T st2 f2 hW fun D C H' s' J' ⟨m,hn⟩ fC q=>?_
 show wpAny _ _ (assign (.Name y py) X.env (.ref D)) _ _ _
 refine wpAny_assign_Name (jc9 (v:=.ref D) J' hN hi' (.inl hy) rfl (fun s'' J'' ⟨a,sb,ha⟩=>?_) (.inr hy))
 have hne:C≠a:=by
  rcases ha with z | z
  ·rw [z]; exact fC.2.1
  ·exact fun e=>fC.2.2.2.2.1 y a z e.symm
 refine ⟨m,hn.sameBut sb hne,fun h' hs'=>?_⟩
 refine ⟨_,H',J''.turned (t':=s''.toks) (it:=C) (fun b o hb e=>hs'.extBut b o hb e) fC.1 fC.2.1 fC.2.2.2.1 fC.2.2.2.2.1 fC.2.2.2.2.2,q⟩
theorem jme {tg iter elt:Expr}{ifs:List Expr}{pos:Pos}{wi:TI}{g:TG}{tt:TT}{te:TE}(hc:X.calm=true)(S:CScope X N pick scope)(hw:PI X tg iter wi)
  (hg:∀ cl C s₀ H₀ fp,PG (jag X N scope cl C s₀ H₀ fp) tg g) (hi:∀ cl C s₀ H₀ fp,PIfs (jag X N scope cl C s₀ H₀ fp) ifs tt) (he:∀ cl C s₀ H₀ fp,PE (jag X N scope cl C s₀ H₀ fp) elt te)
  (hs:∀ x,foldedSetIterable iter X.env x=pure x:=by intro _; rfl):PE X (.ListComp elt [⟨tg,iter,ifs,0⟩] scope pos) (tLc pick wi g tt te):=
 jj4 (em:=fun D env=>do let _ <- call (.builtin "list.append") [.ref D,<- eval elt env]) (rest:=[]) hc S hw hg hi (fun D cl C s₀ H₀ fp=>jhw rfl (he cl C s₀ H₀ fp)) (fun _ _ _=>rfl) hs
theorem jl9 {tg iter elt:Expr}{ifs:List Expr}{pos:Pos}{wi:TI}{g:TG}{tt:TT}{te:TE}{py spos:Pos}{i:Nat}{y:Str}(hN:X.N.Nodup)(hi':X.N[i]?=some y)(hy:X.env.scope.names.lookup y=some .local)(hc:X.calm=true)(S:CScope X N pick scope)(hw:PI X tg iter wi)
  (hg:∀ cl C s₀ H₀ fp,PG (jag X N scope cl C s₀ H₀ fp) tg g) (hi:∀ cl C s₀ H₀ fp,PIfs (jag X N scope cl C s₀ H₀ fp) ifs tt) (he:∀ cl C s₀ H₀ fp,PE (jag X N scope cl C s₀ H₀ fp) elt te)
  (hsw:swapsWith (.ListComp elt [⟨tg,iter,ifs,0⟩] scope pos) (some (.Name y py)) spos.line X.env=pure true) (hs:∀ x,foldedSetIterable iter X.env x=pure x:=by intro _; rfl):PS X (.Assign [.Name y py] (.ListComp elt [⟨tg,iter,ifs,0⟩] scope pos) spos) (tAsg (tLc pick wi g tt te) (jgM i)):=
 jjR (em:=fun D env=>do let _ <- call (.builtin "list.append") [.ref D,<- eval elt env]) (rest:=[]) hN hi' hy hc S hw hg hi (fun D cl C s₀ H₀ fp=>jhw rfl (he cl C s₀ H₀ fp)) (fun _ _ _=>rfl) hsw hs
end

mutual
inductive DV (K:PySem.W.Frag)(H:Hp):V->PyData->Prop
 | non:DV K H .non .none
 | bl (b:Bool):DV K H (.bl b) (.bool b)
 | int (i:Int):DV K H (.int i) (.int i)
 | str (x:Str):DV K H (.str x) (.str x)
 | tup {a:Addr} {xs:List V} {ds:List PyData}:SqT K H a xs->DVs K H xs ds->DV K H (.ref a) (.tuple ds)
 | lst {a:Addr} {xs:List V} {ds:List PyData}:Rd H a (.lst xs)->DVs K H xs ds->DV K H (.ref a) (.list ds)
 | dic {a:Addr}:H a=some (.dK [])->DV K H (.ref a) (.dict [])
inductive DVs (K:PySem.W.Frag)(H:Hp):List V->List PyData->Prop
 | nil:DVs K H [] []
 | cons {x:V} {d:PyData} {xs:List V} {ds:List PyData}:DV K H x d->DVs K H xs ds->DVs K H (x::xs) (d::ds)
end
section
variable {K:PySem.W.Frag}{H H':Hp}
end
mutual
noncomputable def noL:PyData->Bool
 | .list _=>false
 | .tuple xs=>noLs xs
 | .dict _=>false
 | .none | .bool _ | .int _ | .str _=>true
noncomputable def noLs:List PyData->Bool
 | []=>true
 | x::r=>noL x && noLs r
end
section
variable {K:PySem.W.Frag}{H H':Hp}
noncomputable def TK (H H':Hp):Prop:=∀ b xs,H b=some (.tup xs)->H' b=some (.tup xs)
end

theorem Inv.noSys {X:Cx}{pins:List (Addr×Obj)}{σ:St}{H:Hp}{s:Shared}(I:Inv X pins σ H s){a:Addr}{o:Obj}(h:s.heap.get? a=some o)(c:o.cls=.type "list"):sysModules≠a:=fun e=>by
 obtain ⟨o',l,c'⟩:=I.mod.sys
 have:=I.kIn _ _ l
 rw [e,h] at this
 cases this
 rw [c] at c'
 exact absurd c' (by decide)
mutual
theorem DV.reads2 {X:Cx}{pins:List (Addr×Obj)}{σ:St}{H:Hp}{s:Shared}(I:Inv X pins σ H s):∀ {x:V} {d:PyData} {u:Value},DV X.K H x d->RelV x u->∃ as,Reads s.heap u d as/\sysModules∉as
 | _,_,_,.non,r=>by cases r; exact ⟨_,.none,by simp⟩
 | _,_,_,.bl b,r=>by cases r; exact ⟨_,.bool b,by simp⟩
 | _,_,_,.int i,r=>by obtain ⟨t,rfl⟩:=r; exact ⟨_,.int i t,by simp⟩
 | _,_,_,.str x,r=>by obtain ⟨t,rfl⟩:=r; exact ⟨_,.str x t,by simp⟩
 | _,_,_,.tup e h,r=>by
  cases r
  obtain ⟨its,rv,⟨o,ho,hc,n,hd⟩,_⟩:=I.tuple e
  obtain ⟨as,q,z⟩:=DVs.reads2 I h rv
  exact ⟨_,.tuple ho hc hd q,z⟩
 | _,_,_,@DV.lst _ _ a _ _ e h,r=>by
  cases r
  obtain ⟨its,rv,⟨o,n,ho,hc,_,hd⟩,_⟩:=I.list (.inl e)
  obtain ⟨as,q,z⟩:=DVs.reads2 I h rv
  refine ⟨_,.list ho hc hd q,fun hm=>?_⟩
  rcases List.mem_cons.mp hm with hm | hm
  ·exact I.noSys ho hc hm
  ·exact z hm
 | _,_,_,@DV.dic _ _ a e,r=>by
  cases r
  obtain ⟨_,hS,vs,kv,o,es,ep,ho,hx,hd,_,hp,_⟩:([]:List (Key×V)).length<=sizeLine/\(a == sysModules)=false/\∃ vs,KV [] vs/\s.heap.DictOf (jao X.prog X.w) a vs:=I.hok a _ e
  have e0:es.toList=[]:=by
   cases kv
   revert hp
   cases es.toList with
   | nil=>exact fun _=>rfl
   | cons x r=>exact fun hp=>(nomatch hp)
  refine ⟨_,.dict (kvs:=[]) (as:=[]) (bs:=[]) ho hx.1 hd (by rw [e0]; exact .nil) (by rw [e0]; exact .nil),fun hm=>?_⟩
  have:sysModules=a:=by simpa using hm
  rw [<- this] at hS
  exact absurd hS (by simp)
theorem DVs.reads2 {X:Cx}{pins:List (Addr×Obj)}{σ:St}{H:Hp}{s:Shared}(I:Inv X pins σ H s):∀ {xs:List V} {ds:List PyData} {us:List Value},DVs X.K H xs ds->Vals xs us->∃ as,ReadsAll s.heap us ds as/\sysModules∉as
 | _,_,_,.nil,r=>by cases r; exact ⟨_,.nil,by simp⟩
 | _,_,_,.cons a b,r=>by
  cases r with
  | cons r rr=>
   obtain ⟨as,q,z⟩:=DV.reads2 I a r
   obtain ⟨bs,q',z'⟩:=DVs.reads2 I b rr
   exact ⟨_,.cons q q',by rw [List.mem_append,not_or]; exact ⟨z,z'⟩⟩
end
theorem DV.reads {X:Cx}{pins:List (Addr×Obj)}{σ:St}{H:Hp}{s:Shared}(I:Inv X pins σ H s){x:V}{d:PyData}{u:Value}(h:DV X.K H x d)(r:RelV x u):∃ as,Reads s.heap u d as:=let ⟨as,q,_⟩:=DV.reads2 I h r; ⟨as,q⟩
theorem DVs.reads {X:Cx}{pins:List (Addr×Obj)}{σ:St}{H:Hp}{s:Shared}(I:Inv X pins σ H s){xs:List V}{ds:List PyData}{us:List Value}(h:DVs X.K H xs ds)(r:Vals xs us):∃ as,ReadsAll s.heap us ds as:=let ⟨as,q,_⟩:=DVs.reads2 I h r; ⟨as,q⟩

structure Fits (n k:Nat)(d:PyData):Prop where
 sh:d.showable=true
 ln:d.shown.length<=n
 dp:d.depth<=k
theorem Fits.mono {n n' k k':Nat}{d:PyData}(h:Fits n k d)(h1:n<=n')(h2:k<=k'):Fits n' k' d:=⟨h.sh,Nat.le_trans h.ln h1,Nat.le_trans h.dp h2⟩
theorem Fits.int {i:Int}(h:i.natAbs < 2 ^ 1000):Fits 1921 0 (.int i):=by
 have hl:i.natAbs.log2 < 1920:=by
  by_cases z:i.natAbs=0
  ·rw [z]; decide
  ·exact Nat.lt_of_lt_of_le ((Nat.log2_lt z).mpr h) (by decide)
 refine ⟨by simp [PyData.showable,hl],?_,Nat.le_refl _⟩
 simp only [PyData.shown]
 exact int_text_len_1921 hl
theorem Fits.str {x:Str}{m:Nat}(h:x.length<=m)(hc:∀ c∈x.cps.toList,c < 16 ^ 8):Fits (10 * m + 2) 0 (.str x):=by
 refine ⟨rfl,?_,Nat.le_refl _⟩
 simp only [PyData.shown]
 exact Nat.le_trans (StrLaws.reprText_len x hc) (by omega)
theorem jgs {ts:List Str}{n:Nat}(h:∀ t∈ts,t.length<=n):piled ts<=ts.length * (n + 2):=by
 induction ts with
 | nil=>simp [piled]
 | cons t r ih=>
  have h1:=h t List.mem_cons_self
  have h2:=ih fun q hq=>h q (List.mem_cons_of_mem _ hq)
  rw [piled_cons,List.length_cons,Nat.add_mul]
  omega
theorem jbt:∀ {ds:List PyData} {t:Str},t∈PyData.shownAll ds->∃ d∈ds,t=d.shown
 | [],_,h=>by simp [PyData.shownAll] at h
 | d::r,t,h=>by
  simp only [PyData.shownAll,List.mem_cons] at h
  rcases h with h | h
  ·exact ⟨d,List.mem_cons_self,h⟩
  ·obtain ⟨e,he,q⟩:=jbt h
   exact ⟨e,List.mem_cons_of_mem _ he,q⟩
theorem jaV:∀ ds:List PyData,(PyData.shownAll ds).length=ds.length
 | []=>rfl
 | _::r=>by simp [PyData.shownAll,jaV r]
theorem jiH (ts:List Str):(Str.join ", " ts).length<=piled ts:=by
 rcases Classical.em (ts=[]) with rfl | hz
 ·exact Nat.zero_le _
 ·exact Nat.le_of_add_right_le (Nat.le_of_eq (join_length_add ts hz))
theorem jc6 {ts:List Str}{n:Nat}(h:∀ t∈ts,t.length<=n):(tupleText ts).length<=ts.length * (n + 2) + 3:=by
 have hp:=Nat.le_trans (jiH ts) (jgs h)
 have two:∀ b:Bool,((((if b=true then ",)" else ")"):String):Str)).length<=2:=by decide
 have z:=two (ts.length == 1)
 have one:(("(" : String):Str).length=1:=rfl
 simp only [tupleText,strLen_append] at z ⊢
 omega
theorem ja8:∀ {ds:List PyData},(∀ d∈ds,d.showable=true)->PyData.showableAll ds=true
 | [],_=>rfl
 | d::r,h=>by simp [PyData.showableAll,h d List.mem_cons_self,ja8 fun q hq=>h q (List.mem_cons_of_mem _ hq)]
theorem jb6:∀ {ds:List PyData} {k:Nat},(∀ d∈ds,d.depth<=k)->PyData.depthAll ds<=k
 | [],_,_=>Nat.zero_le _
 | d::r,k,h=>by
  simp only [PyData.depthAll]
  exact Nat.max_le.mpr ⟨h d List.mem_cons_self,jb6 fun q hq=>h q (List.mem_cons_of_mem _ hq)⟩
theorem Fits.tup {n k:Nat}{ds:List PyData}(h:∀ d∈ds,Fits n k d):Fits (ds.length * (n + 2) + 3) (k + 1) (.tuple ds):=by
 refine ⟨?_,?_,?_⟩
 ·simp only [PyData.showable]; exact ja8 fun d hd=>(h d hd).sh
 ·simp only [PyData.shown]
  have:=jc6 (ts:=PyData.shownAll ds) (n:=n) fun t ht=>by obtain ⟨d,hd,e⟩:=jbt ht; rw [e]; exact (h d hd).ln
  rw [jaV] at this
  exact this
 ·simp only [PyData.depth]
  exact Nat.succ_le_succ (jb6 fun d hd=>(h d hd).dp)
theorem Fits.tupLe {n k m N:Nat}{ds:List PyData}(hl:ds.length<=m)(h:∀ d∈ds,Fits n k d)(hN:m * (n + 2) + 3<=N):Fits N (k + 1) (.tuple ds):=
 (Fits.tup h).mono (Nat.le_trans (Nat.add_le_add_right (Nat.mul_le_mul_right _ hl) _) hN) (Nat.le_refl _)
noncomputable def jl4 (K:PySem.W.Frag):List V->Hp->VK->Prop:=fun xs H Q=>∃ x d,xs=[x]/\DV K H x d/\Fits 16000000 60 d/\Q (.str d.shown) H
theorem jeX {X:Cx}{k:Nat}(hr:Room k X.A):jaN X (.builtin "repr") (jl4 X.K):=by
 intro pins s σ H xs us Q I r h
 obtain ⟨x,d,rfl,dv,ft,q⟩:=h
 obtain ⟨u,rfl,ru⟩:=jbK r
 have hu:=hr.un
 have done:∀ (h':Heap) (u':Tok) (tk:Nat),(∀ b o,s.heap.get? b=some o->h'.get? b=some o)->EP X pins σ Q (.str d.shown u') { s with heap:=h',toks:=tk }:=fun h' u' tk hk=>
  ⟨.str d.shown,H,I.kept (t':=tk) hk,⟨u',rfl⟩,q⟩
 have hz:d.shown.length<=sizeLine:=Nat.le_trans ft.ln (by decide)
 cases dv with
 | non=>cases ru; exact P.repr_of_none (done _ _ _ fun _ _ e=>e)
 | bl b=>cases ru; exact P.repr_of_bool (by have:=done s.heap s.toks (s.toks + 1) fun _ _ e=>e; simp only [PyData.shown] at this; exact this)
 | int i=>
  obtain ⟨t,rfl⟩:=ru
  refine P.repr_of_int (by simpa [PyData.showable] using ft.sh) ?_
  have:=done s.heap s.toks (s.toks + 1) fun _ _ e=>e
  simp only [PyData.shown] at this
  exact this
 | str x=>
  obtain ⟨t,rfl⟩:=ru
  simp only [PyData.shown] at hz
  refine P.repr_of_str ?_ hz
  have:=done s.heap s.toks (s.toks + 1) fun _ _ e=>e
  simp only [PyData.shown] at this
  exact this
 | @tup a xs ds e hd=>
  obtain ⟨as,rd,hsy⟩:=DV.reads2 I (DV.tup e hd) ru
  cases ru
  exact repr_of_reads' rd ft.sh (fun _=>hsy) hr.gd (by have:=ft.dp; omega) (fun _ _ e=>e) (fun h' u' tk hk=>done h' u' tk hk) hz
 | @lst a xs ds e hd=>
  obtain ⟨as,rd,hsy⟩:=DV.reads2 I (DV.lst e hd) ru
  cases ru
  exact repr_of_reads' rd ft.sh (fun _=>hsy) hr.gd (by have:=ft.dp; omega) (fun _ _ e=>e) (fun h' u' tk hk=>done h' u' tk hk) hz
 | @dic a e=>
  obtain ⟨as,rd,hsy⟩:=DV.reads2 I (DV.dic e) ru
  cases ru
  exact repr_of_reads' rd ft.sh (fun _=>hsy) hr.gd (by have:=ft.dp; omega) (fun _ _ e=>e) (fun h' u' tk hk=>done h' u' tk hk) hz
section
variable {X:Cx}{k:Nat}{x:Str}{ps:List Str}{sp:Sp}{e:Expr}{es:List Expr}{t:TA}{p pos:Pos}
end
noncomputable def Sm (f:Addr)(H H':Hp):Prop:=∀ b o,b≠f->H b=some o->H' b=some o
noncomputable def LcW (n k:Nat)(caps:St)(Pv:Nat->List V->Hp->Prop):Nat->Nat->St->List V->Hp->Prop:=fun i m τ ys H=>m=n - i/\i<=n/\(∃ os:St,os.length=k/\τ=os++caps)/\Pv i ys H
noncomputable def LcN (D:Addr)(n k:Nat)(caps:St)(Pv:Nat->List V->Hp->Prop)(i:Nat)(ys:List V)(τ:St)(v:V)(H:Hp):Prop:=
 H D=some (.lst ys)/\ys.length < sizeLine/\∃ m',m' < n - i/\LcW n k caps Pv (i + 1) m' τ (ys++[v]) (upd H D (.lst (ys++[v])))
noncomputable def LcS (n k:Nat)(caps:St)(Pv:Nat->List V->Hp->Prop)(i:Nat)(ys:List V)(τ:St)(H:Hp):Prop:=∃ m',m' < n - i/\LcW n k caps Pv (i + 1) m' τ ys H
section
variable {g:TG}{tt:TT}{te:TE}{Q:VK}{τ0:St}{H:Hp}{D:Addr}
end
section
variable {X:Cx}
end
section
variable {X:Cx}{es:List Expr}{te:TE}{t:TA}
end
section
variable {X:Cx}{N:List Str}{scope:Scope}{cl:List (Str×Addr)}{C:Addr}{s₀:Shared}{H₀:Hp}{fp:List Addr}
end
section
variable {X:Cx}
end
section
variable {X:Cx}{N:List Str}{scope:Scope}{cl:List (Str×Addr)}{C:Addr}{s₀:Shared}{H₀:Hp}{fp:List Addr}
end
theorem fm_rev (xs:List Value):∀ n,n<=xs.length->(List.range n).filterMap (fun k=>xs[xs.length - 1 - k]?)=(xs.drop (xs.length - n)).reverse
 | 0,_=>by simp
 | n + 1,h=>by
  rw [List.range_succ,List.filterMap_append,fm_rev xs n (by omega)]
  have hk:xs.length - 1 - n < xs.length:=by omega
  have:xs.drop (xs.length - (n + 1))=xs[xs.length - 1 - n]::xs.drop (xs.length - n):=by
   rw [show xs.length - (n + 1)=xs.length - 1 - n by omega,List.drop_eq_getElem_cons hk,show xs.length - 1 - n + 1=xs.length - n by omega]
  rw [this,List.reverse_cons]
  simp [List.getElem?_eq_getElem hk]
theorem jgk (xs:List Value):slicePick xs.toArray none none (some (-1))=xs.reverse.toArray:=by
 have e:sliceRange ((xs.length:Int) - 1) (-1) (-1)=(List.range xs.length).map fun k=>xs.length - 1 - k:=by
  unfold sliceRange
  have hc:(if (-1:Int) > 0 then (if (xs.length:Int) - 1 < -1 then (-1 - ((xs.length:Int) - 1) + -1 - 1) / -1 else 0) else (if (xs.length:Int) - 1 > -1 then ((xs.length:Int) - 1 - -1 - -1 - 1) / (- -1) else 0)).toNat=xs.length:=by
   rw [if_neg (by omega),show (- -1:Int)=1 from rfl,Int.ediv_one]
   split <;> omega
  simp only [hc]
  refine List.map_congr_left fun k hk=>?_
  have:=List.mem_range.mp hk
  omega
 have b:sliceBounds none none (some (-1)) xs.toArray.size=((xs.length:Int) - 1,-1,-1):=by
  simp [sliceBounds]
 unfold slicePick
 rw [b]
 simp only
 rw [e,List.filterMap_map]
 have:=fm_rev xs xs.length (Nat.le_refl _)
 rw [Nat.sub_self,List.drop_zero] at this
 rw [<- this]
 congr 1
 refine congrArg (fun f=>List.filterMap f (List.range xs.length)) (funext fun k=>?_)
 simp
theorem jgX (xs:List Value):slicePick xs.toArray none none (some 1)=xs.toArray:=by
 have:=slicePick_all xs.toArray
 unfold slicePick at this ⊢
 exact this
theorem Vals.rev {xs:List V}{us:List Value}(r:Vals xs us):Vals xs.reverse us.reverse:=by
 induction r with
 | nil=>exact .nil
 | cons h r ih=>rw [List.reverse_cons,List.reverse_cons]; exact ih.append (.cons h .nil)
section
variable {X:Cx}{e st:Expr}{te tst:TE}{pos p2:Pos}
end
end L2
namespace HT
open PySem PySem.Spec PyProof.Rows
section
variable {prog:Program}{w:World}{A:Around}{E:Value->Shared->Prop}{s:Shared}
theorem getItem_tuple_all {t sl:Addr}{items:Array Value}{vl vu:Value}{lo hi:Option Int}{Q:Value->Shared->Prop}(ht:IsTup s.heap t items)(hs:s.heap.IsSliceOf sl vl vu .none)(pl:IsPart vl lo)(pu:IsPart vu hi)
  (hw:sIx items.size 0 lo=0/\sIx items.size items.size hi=items.size) (h:Q (.ref t) s):wpAny (model prog w) A (getItem (.ref t) (.ref sl)) Q E s:=by
 obtain ⟨os,hos,hcs,hds⟩:=id hs
 have hTs:s.TypeIs (.ref sl) "slice" := ⟨os,hos,hcs⟩
 unfold getItem
 try with_reducible refine wpAny_holding ?_
 first | refine wpAny_bind (wpAny_pure ?_) | skip
 refine wpAny_bind (wpAny_sequenceKey ht.typeIs (by decide) ?_)
 refine wpAny_bind (wpAny_callSpecial?_slot (name:=Str.ofString "__getitem__") ht.typeIs PyProof.Rows.slot_tuple_getitem
  (wpAny_call_entry PyProof.Rows.slot_tuple_getitem ht.typeIs entry_tuple_getitem ?_ (args_tuple_getitem _ _)))
 show wpAny _ _ (Builtin.Tuple.tupleItemsOf (.ref t) >>= _) _ _ s
 refine wpAny_bind (tupleItemsOf_ ht ?_)
 refine wpAny_bind (wpAny_typeOf hTs ?_)
 rw [if_pos (by decide)]
 refine wpAny_bind (jaU hs pl pu ?_)
 have hyes:((((sIx items.size 0 lo:Nat):Int) == 0 && (1:Int) == 1 && (sIx items.size items.size hi - sIx items.size 0 lo) == items.size)=true):=by
  rw [hw.1,hw.2]
  simp
 show wpAny _ _ (if (((sIx items.size 0 lo:Nat):Int) == 0 && (1:Int) == 1 && (sIx items.size items.size hi - sIx items.size 0 lo) == items.size)=true then _ else _) _ _ s
 rw [if_pos hyes]
 refine wpAny_bind (m:=Builtin.Tuple.tupleIsExact (.ref t)) ?_
 unfold Builtin.Tuple.tupleIsExact
 refine wpAny_bind (wpAny_typeOf ht.typeIs (wpAny_pure ?_))
 rw [if_pos (by decide)]
 exact wpAny_bind (wpAny_rule (wpAny_pure ⟨_,rfl,wpAny_pure h⟩))
end
end HT
namespace L2
open PySem PySem.Spec PyProof.Rows
section
variable {X:Cx}
noncomputable def rSlW (K:PySem.W.Frag):V->Option Int->Option Int->Hp->VK->Prop:=fun x lo hi H Q=>∃ a xs,x=.ref a/\SqT K H a xs/\
 (HT.sIx xs.length 0 lo=0/\HT.sIx xs.length xs.length hi=xs.length)/\Q (.ref a) H
theorem jhU:SlR X (rSlW X.K):=by
 intro pins s σ H x v vl vu lo hi sl Q I rx hs pl pu h
 obtain ⟨a,xs,rfl,hx,hw,q⟩:=h
 cases rx
 obtain ⟨its,r,ht,hz⟩:=I.tuple hx
 have hlen:its.toArray.size=xs.length:=by rw [List.size_toArray]; exact r.length.symm
 refine ⟨"tuple",_,PyProof.Rows.slot_tuple_getitem.lookup,ht.typeIs,?_⟩
 exact HT.getItem_tuple_all ht hs pl pu (by rw [hlen]; exact hw) ⟨.ref a,H,I,rfl,q⟩
theorem jhV:SlR X (fun x lo hi H Q=>rSlT X.K x lo hi H Q\/rSlW X.K x lo hi H Q):=SlR.or jjw jhU
end
section
variable {X:Cx}
end
end L2
namespace HT
open PySem PySem.Spec PyProof.Rows
section
variable {prog:Program}{w:World}{A:Around}{E:Value->Shared->Prop}{s:Shared}
theorem jbA {sl:Addr}{t:Tok}{n:Nat}{Q:Int×Int×Nat->Shared->Prop}(hs:s.heap.IsSliceOf sl .none .none (.int (-1) t))(h:Q ((n:Int) - 1,-1,n) s):wpAny (model prog w) A (Builtin.Slice.sliceApplied (.ref sl) (pure (n:Int))) Q E s:=by
 obtain ⟨os,hos,hcs,hds⟩:=id hs
 unfold Builtin.Slice.sliceApplied Builtin.Slice.sliceFields
 refine wpAny_bind (wpAny_bind (wpAny_field hos hds (x:=.none) rfl (wpAny_bind (wpAny_field hos hds (x:=.none) rfl (wpAny_bind (wpAny_field hos hds (x:=.int (-1) t) rfl (wpAny_pure ?_)))))))
 refine wpAny_bind (jaL (.int (-1) t) ?_)
 show wpAny _ _ (if ((-1:Int) == 0)=true then _ else _) _ _ s
 rw [if_neg (by decide)]
 refine wpAny_bind (jaL .none (wpAny_bind (jaL .none (wpAny_bind (wpAny_pure ?_)))))
 have e1:Builtin.Slice.sliceAdjust none none (-1) (n:Int)=((n:Int) - 1,-1):=rfl
 have e2:Builtin.Slice.slicePlaces ((n:Int) - 1) (-1) (-1)=n:=by
  unfold Builtin.Slice.slicePlaces
  rw [if_neg (by omega),show (- -1:Int)=1 from rfl,Int.ediv_one]
  split <;> omega
 show wpAny _ _ (match Builtin.Slice.sliceAdjust none none (-1) (n:Int) with | (lo,hi)=>pure (lo,(-1:Int),Builtin.Slice.slicePlaces lo hi (-1))) _ _ s
 rw [e1]
 show wpAny _ _ (pure ((n:Int) - 1,(-1:Int),Builtin.Slice.slicePlaces ((n:Int) - 1) (-1) (-1))) _ _ s
 rw [e2]
 exact wpAny_pure h
theorem jgt (xs:List Value):((List.range xs.length).filterMap fun (k:Nat)=>xs.toArray[((xs.length:Int) - 1 + (k:Int) * (-1)).toNat]?).toArray=xs.reverse.toArray:=by
 have:=L2.fm_rev xs xs.length (Nat.le_refl _)
 rw [Nat.sub_self,List.drop_zero] at this
 rw [<- this]
 congr 1
 refine congrArg (fun f=>List.filterMap f (List.range xs.length)) (funext fun k=>?_)
 rw [show ((xs.length:Int) - 1 + (k:Int) * (-1)).toNat=xs.length - 1 - k by omega]
 simp
theorem getItem_tuple_rev {t sl:Addr}{its:List Value}{tk:Tok}{Q:Value->Shared->Prop}(ht:IsTup s.heap t its.toArray)(hs:s.heap.IsSliceOf sl .none .none (.int (-1) tk))
  (h:Q (.ref s.heap.objs.size) { s with heap:=s.heap.push { cls:=.type "tuple",data:=.seq its.reverse.toArray } }) (hsz:its.length<=sizeLine):wpAny (model prog w) A (getItem (.ref t) (.ref sl)) Q E s:=by
 have htake:sizeOk (.seq its.reverse.toArray):=by
  show its.reverse.toArray.size<=sizeLine
  rw [List.size_toArray,List.length_reverse]
  exact hsz
 obtain ⟨os,hos,hcs,hds⟩:=id hs
 have hTs:s.TypeIs (.ref sl) "slice" := ⟨os,hos,hcs⟩
 unfold getItem
 try with_reducible refine wpAny_holding ?_
 first | refine wpAny_bind (wpAny_pure ?_) | skip
 refine wpAny_bind (wpAny_sequenceKey ht.typeIs (by decide) ?_)
 refine wpAny_bind (wpAny_callSpecial?_slot (name:=Str.ofString "__getitem__") ht.typeIs PyProof.Rows.slot_tuple_getitem
  (wpAny_call_entry PyProof.Rows.slot_tuple_getitem ht.typeIs entry_tuple_getitem ?_ (args_tuple_getitem _ _)))
 show wpAny _ _ (Builtin.Tuple.tupleItemsOf (.ref t) >>= _) _ _ s
 refine wpAny_bind (tupleItemsOf_ ht ?_)
 refine wpAny_bind (wpAny_typeOf hTs ?_)
 rw [if_pos (by decide)]
 refine wpAny_bind (jbA (n:=its.length) hs ?_)
 have hno:¬ ((((its.length:Int) - 1) == 0 && (-1:Int) == 1 && its.length == its.toArray.size)=true):=by simp
 show wpAny _ _ (if (((its.length:Int) - 1) == 0 && (-1:Int) == 1 && its.length == its.toArray.size)=true then _ else _) _ _ s
 rw [if_neg hno,jgt]
 first
  | exact wpAny_bind (m:=Builtin.Tuple.tupleExact _) (wpAny_newObj_type (wpAny_pure ⟨_,rfl,wpAny_pure h⟩) htake)
  | exact wpAny_bind (m:=Builtin.Tuple.tupleExact _) (wpAny_newObj_type (wpAny_bind (wpAny_pure (wpAny_pure ⟨_,rfl,wpAny_pure h⟩))) htake)
  | exact wpAny_bind (wpAny_bind (m:=Builtin.Tuple.tupleExact _) (wpAny_newObj_type (wpAny_pure (wpAny_pure ⟨_,rfl,wpAny_pure h⟩)) htake))
  | exact wpAny_bind (wpAny_bind (m:=Builtin.Tuple.tupleExact _) (wpAny_newObj_type (wpAny_pure ⟨_,rfl,wpAny_pure h⟩) htake))
end
end HT
namespace L2
open PySem PySem.Spec PyProof.Rows
section
variable {X:Cx}{e st:Expr}{te tst:TE}{pos p2:Pos}
end
section
variable {X:Cx}{N:List Str}{scope:Scope}{cl:List (Str×Addr)}{C:Addr}{s₀:Shared}{H₀:Hp}{fp:List Addr}
end
end L2

namespace L2
open PySem PySem.Spec PyProof.Rows
set_option maxHeartbeats 4000000
section
variable {X:Cx}{pos:Pos}
noncomputable def jl8 (K:PySem.W.Frag):R2:=fun x y H Q=>∃ a b xs ys,x=.ref a/\y=.ref b/\SqT K H a xs/\SqT K H b ys/\xs.length + ys.length<=sizeLine/\
 (xs=[]->Q (.ref b) H)/\(xs≠[]->ys=[]->Q (.ref a) H)/\(xs≠[]->ys≠[]->∀ p,H p=none->Q (.ref p) (upd H p (.tup (xs++ys))))
theorem jiu:OpR X (binaryOp .Add) (jl8 X.K):=by
 intro pins s σ H x y v u Q I rx ry h
 obtain ⟨a,b,xs,ys,rfl,rfl,ha,hb,hz,q0,q1,q2⟩:=h
 by_cases hx:xs=[]
 ·cases rx
  cases ry
  obtain ⟨its,r1,p1,_⟩:=I.tuple ha
  obtain ⟨its2,r2,p2,_⟩:=I.tuple hb
  have hv:its=[]:=r1.nil_iff.mpr hx
  subst hv
  obtain ⟨⟨cls,dd,data,sl⟩,ho,hc,n,hd⟩:=id p1
  obtain ⟨⟨cls2,dd2,data2,sl2⟩,ho2,hc2,n2,hd2⟩:=id p2
  simp only at hc hd hc2 hd2
  subst hc hd hc2 hd2
  exact concat_meets ⟨_,ho,rfl⟩ ⟨_,ho2,rfl⟩ noFill_tuple_add seq_tuple_add PySem.F.slot_tuple_add PySem.F.entry_tuple_add (PySem.F.args_tuple_add_2 _ _)
   (tuple_addW0 a b _ its2.toArray n n2 dd dd2 sl sl2 rfl) ⟨ho,ho2,⟨.ref b,H,I,rfl,q0 hx⟩⟩
 ·exact jit pins s σ H _ _ _ _ Q I rx ry ⟨a,b,xs,ys,rfl,rfl,ha,hb,hx,hz,q1 hx,q2 hx⟩
theorem jeM {k:Nat}(hr:Room k X.A):OpR X (compareOp .Eq) (fun x y H Q=>∃ a b xs,x=.ref a/\y=.ref b/\SqT X.K H a xs/\SqT X.K H b []/\Q (.bl xs.isEmpty) H):=by
 intro pins s σ H x y v u Q I rx ry h
 obtain ⟨a,b,xs,rfl,rfl,ha,hb,q⟩:=h
 cases rx; cases ry
 obtain ⟨its,rv,pa,_⟩:=I.tuple ha
 obtain ⟨its2,rv2,pb,_⟩:=I.tuple hb
 cases rv2
 have hu:X.A.units < cLine:=hr.units0
 have e:((List.range (min its.toArray.size ([]:List Value).toArray.size)).all (fun _=>true) && its.toArray.size == ([]:List Value).toArray.size)=xs.isEmpty:=by
  cases rv <;> simp
 refine EqBoolInt.of_rc (SeqAt.RcAt.tuples (e:=fun _=>true) (show s.heap.IsTuple a its.toArray from pa) (show s.heap.IsTuple b ([]:List Value).toArray from pb) hu fun j _ h2=>?_) ?_
 ·simp at h2
 ·rw [e]
  exact ⟨.bl xs.isEmpty,H,I,rfl,q⟩
end
section
variable {X:Cx}{N:List Str}{scope:Scope}{cl:List (Str×Addr)}{C:Addr}{s₀:Shared}{H₀:Hp}{fp:List Addr}
end
theorem jbJ:∀ {ys:List Str} {us:List Value},Vals (ys.map V.str) us->StrsAre us ys
 | [],_,.nil=>.nil
 | y::r,_,.cons ⟨t,e⟩ q=>by subst e; exact .cons y t (jbJ q)
section
variable {X:Cx}
noncomputable def jl6 (K:PySem.W.Frag):V->List V->Hp->VK->Prop:=fun x vs H Q=>∃ (z:Str) (p:Addr) (ys:List Str),x=.str z/\vs=[.ref p]/\(SqL K H p (ys.map V.str)\/SqT K H p (ys.map V.str))/\z.length<=16/\(ys.map (·.length)).sum + ys.length<=1048576/\Q (.str (Str.join z ys)) H
theorem mt_join:MtR X "str.join" (jl6 X.K):=by
 intro pins s σ H x vs v us Q I rx rv h
 obtain ⟨z,p,ys,rfl,rfl,hq,h1,h2,q⟩:=h
 obtain ⟨t,rfl⟩:=rx
 obtain ⟨u,rfl,ru⟩:=Vals.one rv
 cases ru
 rcases hq with hq | hq
 ·obtain ⟨its,r',pl,hz⟩:=I.list hq
  exact join_listW pl.isList (by simpa using jbJ r') h1 h2 fun t' k=>⟨.str (Str.join z ys),H,I.tok k,⟨t',by rw [<- StrLaws.glued_eq_join]; rfl⟩,q⟩
 ·obtain ⟨its,r',pl,hz⟩:=I.tuple hq
  exact join_tupleW pl (by simpa using jbJ r') h1 h2 fun t' k=>⟨.str (Str.join z ys),H,I.tok k,⟨t',by rw [<- StrLaws.glued_eq_join]; rfl⟩,q⟩
end
section
variable {X:Cx}{N:List Str}{scope:Scope}{cl:List (Str×Addr)}{C:Addr}{s₀:Shared}{H₀:Hp}{fp:List Addr}
end
theorem jaH:∀ (ts:List Str) (c:Nat),c∈(Str.join "" ts).cps.toList↔∃ t∈ts,c∈t.cps.toList:=fun ts c=>by
 rw [mem_join]
 constructor
 ·rintro (h | ⟨_,h⟩)
  ·exact h
  ·exact absurd h (by show ¬ c∈(([]:List Nat)); simp)
 ·exact .inl
theorem jaI:∀ (ts:List Str),(∀ t∈ts,t.length=1)->(Str.join "" ts).length=ts.length
 | [],_=>rfl
 | [x],h=>h x (by simp)
 | x::y::r,h=>by
  have ih:=jaI (y::r) fun t ht=>h t (List.mem_cons_of_mem _ ht)
  have h1:=h x (by simp)
  show (x ++ "" ++ Str.join "" (y::r)).length=_
  have e:(x ++ "" ++ Str.join "" (y::r)).length=x.length + (Str.join "" (y::r)).length:=by
   show (x.cps++("" : Str).cps++(Str.join "" (y::r)).cps).size=_
   rw [Array.size_append,Array.size_append]
   show x.cps.size + 0 + _=_
   rfl
  rw [e,ih,h1,List.length_cons,List.length_cons,List.length_cons]
  omega
section
variable {X:Cx}
noncomputable def jjO (K:PySem.W.Frag)(neg:Bool):R2:=fun x y H Q=>∃ d e,DV K H x d/\DV K H y e/\d.canLay0=true/\e.canLay0=true/\d.depth<=100/\Q (.bl (if neg then !PyData.eqv d e else PyData.eqv d e)) H
theorem jkh {k:Nat}(hr:Room k X.A):OpR X (compareOp .NotEq) (jjO X.K true):=by
 intro pins s σ H x y v u Q I rx ry h
 obtain ⟨d,e,hd,he,c1,c2,hk,q⟩:=h
 obtain ⟨as,ra⟩:=hd.reads I rx
 obtain ⟨bs,rb⟩:=he.reads I ry
 exact SeqAt.compareNe_reads ra rb c1 c2 (by have:=hr.un; omega) ⟨.bl _,H,I,rfl,q⟩
theorem jkm {k:Nat}(hr:Room k X.A):OpR X (compareOp .Eq) (jjO X.K false):=by
 intro pins s σ H x y v u Q I rx ry h
 obtain ⟨d,e,hd,he,c1,c2,hk,q⟩:=h
 obtain ⟨as,ra⟩:=hd.reads I rx
 obtain ⟨bs,rb⟩:=he.reads I ry
 exact SeqAt.compareEq_reads ra rb c1 c2 (by have:=hr.un; omega) ⟨.bl _,H,I,rfl,q⟩
end
section
variable {X:Cx}{N:List Str}{scope:Scope}{cl:List (Str×Addr)}{C:Addr}{s₀:Shared}{H₀:Hp}{fp:List Addr}
end
mutual
noncomputable def noB:PyData->Bool
 | .none=>true
 | .bool _=>false
 | .int _=>true
 | .str _=>true
 | .list ds=>noBs ds
 | .tuple ds=>noBs ds
 | .dict _=>false
noncomputable def noBs:List PyData->Bool
 | []=>true
 | d::r=>noB d && noBs r
end
mutual
theorem jfQ:∀ {d e:PyData},noB d=true->noB e=true->PyData.eqv d e=true->d=e
 | .none,.none,_,_,_=>rfl
 | .int i,.int j,_,_,h=>by rw [PyData.eqv] at h; rw [eq_of_beq h]
 | .str i,.str j,_,_,h=>by rw [PyData.eqv] at h; rw [eq_of_beq h]
 | .list xs,.list ys,h1,h2,h=>by rw [PyData.eqv] at h; rw [noB] at h1 h2; rw [jdX h1 h2 h]
 | .tuple xs,.tuple ys,h1,h2,h=>by rw [PyData.eqv] at h; rw [noB] at h1 h2; rw [jdX h1 h2 h]
 | .bool _,_,h,_,_=>by rw [noB] at h; cases h
 | .dict _,_,h,_,_=>by rw [noB] at h; cases h
 | .none,.bool _,_,h,_ | .int _,.bool _,_,h,_ | .str _,.bool _,_,h,_ | .list _,.bool _,_,h,_ | .tuple _,.bool _,_,h,_=>by rw [noB] at h; cases h
 | .none,.dict _,_,h,_ | .int _,.dict _,_,h,_ | .str _,.dict _,_,h,_ | .list _,.dict _,_,h,_ | .tuple _,.dict _,_,h,_=>by rw [noB] at h; cases h
 | .none,.int _,_,_,h | .none,.str _,_,_,h | .none,.list _,_,_,h | .none,.tuple _,_,_,h=>by rw [PyData.eqv] at h; cases h
 | .int _,.none,_,_,h | .int _,.str _,_,_,h | .int _,.list _,_,_,h | .int _,.tuple _,_,_,h=>by rw [PyData.eqv] at h; cases h
 | .str _,.none,_,_,h | .str _,.int _,_,_,h | .str _,.list _,_,_,h | .str _,.tuple _,_,_,h=>by rw [PyData.eqv] at h; cases h
 | .list _,.none,_,_,h | .list _,.int _,_,_,h | .list _,.str _,_,_,h | .list _,.tuple _,_,_,h=>by rw [PyData.eqv] at h; cases h
 | .tuple _,.none,_,_,h | .tuple _,.int _,_,_,h | .tuple _,.str _,_,_,h | .tuple _,.list _,_,_,h=>by rw [PyData.eqv] at h; cases h
theorem jdX:∀ {ds es:List PyData},noBs ds=true->noBs es=true->PyData.eqvAll ds es=true->ds=es
 | [],[],_,_,_=>rfl
 | d::r,e::q,h1,h2,h=>by
  rw [noBs,Bool.and_eq_true] at h1 h2
  rw [PyData.eqvAll,Bool.and_eq_true] at h
  rw [jfQ h1.1 h2.1 h.1,jdX h1.2 h2.2 h.2]
 | [],_::_,_,_,h=>by rw [PyData.eqvAll] at h; cases h
 | _::_,[],_,_,h=>by rw [PyData.eqvAll] at h; cases h
end
theorem jcI (l:Addr)(items:Array Value)(n:Nat)(dd:Option Addr)(sl:Array (Option Value))(x:Value)(e:Value->Bool)(j:Nat)(hj:j < items.size)
  (hit:e items[j]=true) (hno:∀ m (hm:m < items.size),m < j->e items[m]=false) :
  Meets (Builtin.«tuple.index» ⟨[.ref l,x],[]⟩)
   (fun A R s=>s.heap.get? l=some { cls:=.type "tuple",dict:=dd,data:=.seq items n,slots:=sl }/\(∀ y,y∈items->SeqAt.EqAt A.in1 s y x (e y))/\R (.ok (.ret (.int j s.toks))) { s with toks:=s.toks + 1 }):=
 .of_wp fun prog w A R s h=>by
  obtain ⟨hp,g,d,tk,os⟩:=s; obtain ⟨hl,he,h⟩:=h
  unfold Builtin.«tuple.index»
  simp only [Std.Legacy.Range.forIn_eq_forIn_range']
  wp_walk using wpAny_loadPart' hl,wpAny_forIn_list _ (fun rest b s'=>b.1=none/\s'=⟨hp,g,d,tk,os⟩/\∃ i,i<=j/\rest=(List.range' 0 items.size 1).drop i) _
  case turn=>
   rintro y rest b s' ⟨hb,rfl,i,hij,hz⟩
   have hlt:i < (List.range' 0 items.size 1).length:=by simp; omega
   rw [List.drop_eq_getElem_cons hlt] at hz
   injection hz with hy hrest
   have hy:y=i:=by simpa using hy
   subst hy
   have hlt':y < items.size:=by omega
   have hi:items[y]?=some items[y]:=Array.getElem?_eq_getElem hlt'
   rw [hi]
   refine wpAny_bind (he _ (Array.getElem_mem hlt') prog w _ _ ?_)
   by_cases hyj:y=j
   ·subst hyj
    rw [hit]
    wp_walk
    exact ⟨_,rfl,h⟩
   ·rw [hno y hlt' (by omega)]
    wp_walk
    exact ⟨rfl,rfl,y + 1,by omega,hrest⟩
  case fin=>
   rintro ⟨b1,b2⟩ s' ⟨hb,rfl,i,hij,hz⟩
   have hlt:i < (List.range' 0 items.size 1).length:=by simp; omega
   rw [List.drop_eq_getElem_cons hlt] at hz
   cases hz
  case h=>
   refine ⟨rfl,rfl,0,Nat.zero_le _,?_⟩
   simp [Std.Legacy.Range.size]
theorem jbG {α:Type}(l:List α)(d:α){i:Nat}(h:i < l.length):l.getD i d=l[i]:=by simp [List.getD,List.getElem?_eq_getElem h]
theorem jat:∀ {ys:List Str} {us:List Value} {j:Nat} (h:j < us.length),Vals (ys.map V.str) us->∃ t,us[j]=Value.str (ys.getD j "") t
 | y::r,_,0,_,.cons ⟨t,e⟩ _=>⟨t,e⟩
 | y::r,_,j + 1,h,.cons _ q=>by
  obtain ⟨t,e⟩:=jat (j:=j) (by simpa using h) q
  exact ⟨t,by simpa using e⟩
 | [],_,j,h,.nil=>by simp at h
section
variable {X:Cx}
noncomputable def jfd (K:PySem.W.Frag)(T:Bool):V->List V->Hp->VK->Prop:=fun x vs H Q=>∃ (p:Addr) (ys:List Str) (n:Str),x=.ref p/\vs=[.str n]/\(if T then SqT K H p (ys.map V.str) else SqL K H p (ys.map V.str))/\n∈ys/\Q (.int (ys.idxOf n)) H
theorem jhs {ys:List Str}{n:Str}{m:Nat}(h:m < ys.idxOf n)(hm:m < ys.length):(ys[m] == n)=false:=by
 have:=List.not_of_lt_findIdx (p:=(·== n)) (xs:=ys) h
 simpa using this
theorem jfx:MtR X "tuple.index" (jfd X.K true):=by
 intro pins s σ H x vs v us Q I rx rv h
 obtain ⟨p,ys,n,rfl,rfl,hq,hn,q⟩:=h
 cases rx
 obtain ⟨u,rfl,t,rfl⟩:=Vals.one rv
 obtain ⟨its,r,pl,hz⟩:=I.tuple hq
 have hl:=r.length
 rw [List.length_map] at hl
 obtain ⟨⟨cls,dd,data,sl⟩,ho,hc,m,hd⟩:=id pl
 simp only at hc hd
 subst hc hd
 have hj:ys.idxOf n < ys.length:=List.idxOf_lt_length_iff.mpr hn
 have fs:(ys.map V.str).all L2.flatV=true:=by rw [List.all_eq_true]; intro x hx; obtain ⟨y,_,rfl⟩:=List.mem_map.mp hx; rfl
 refine call_meets F.slot_tuple_index ⟨_,ho,rfl⟩ F.entry_tuple_index (F.args_tuple_index_2 _ _)
  (jcI p its.toArray m dd sl (.str n t) (eqU (.str n)) (ys.idxOf n) (by simpa using (by omega:ys.idxOf n < its.length)) ?_ ?_) ⟨ho,fun y hy=>jaP (x:=.str n) ⟨t,rfl⟩ rfl r fs y (by simpa using hy),⟨.int _,H,I.tok _,⟨_,rfl⟩,q⟩⟩
 ·obtain ⟨t',e⟩:=jat (j:=ys.idxOf n) (by omega) r
  simp only [List.getElem_toArray,e]
  show (ys.getD (ys.idxOf n) "" == n)=true
  rw [jbG _ _ hj,List.getElem_idxOf hj]
  exact beq_self_eq_true _
 ·intro m' hm hlt
  have hm':m' < ys.length:=by omega
  obtain ⟨t',e⟩:=jat (j:=m') (by omega) r
  simp only [List.getElem_toArray,e]
  show (ys.getD m' "" == n)=false
  rw [jbG _ _ hm']
  exact jhs hlt hm'
theorem jfy:MtR X "list.index" (jfd X.K false):=by
 intro pins s σ H x vs v us Q I rx rv h
 obtain ⟨p,ys,n,rfl,rfl,hq,hn,q⟩:=h
 cases rx
 obtain ⟨u,rfl,t,rfl⟩:=Vals.one rv
 obtain ⟨its,r,pl,hz⟩:=I.list hq
 have hl:=r.length
 rw [List.length_map] at hl hz
 obtain ⟨⟨cls,dd,data,sl⟩,m,ho,hc,hdd,hd⟩:=id pl
 simp only at hc hd hdd
 subst hc hd hdd
 have hj:ys.idxOf n < ys.length:=List.idxOf_lt_length_iff.mpr hn
 have fs:(ys.map V.str).all L2.flatV=true:=by rw [List.all_eq_true]; intro x hx; obtain ⟨y,_,rfl⟩:=List.mem_map.mp hx; rfl
 have h63:=jb2
 refine call_meets F.slot_list_index ⟨_,ho,rfl⟩ F.entry_list_index (F.args_list_index_2 _ _)
  (SeqAt.list_indexAt p its.toArray m none sl (.str n t) (eqU (.str n)) (ys.idxOf n) (by simpa using (by omega:ys.idxOf n < its.length)) (by omega) ?_ ?_) ⟨ho,fun y hy=>jaP (x:=.str n) ⟨t,rfl⟩ rfl r fs y (by simpa using hy),⟨.int _,H,I.tok _,⟨_,rfl⟩,q⟩⟩
 ·obtain ⟨t',e⟩:=jat (j:=ys.idxOf n) (by omega) r
  simp only [List.getElem_toArray,e]
  show (ys.getD (ys.idxOf n) "" == n)=true
  rw [jbG _ _ hj,List.getElem_idxOf hj]
  exact beq_self_eq_true _
 ·intro m' hm hlt
  have hm':m' < ys.length:=by omega
  obtain ⟨t',e⟩:=jat (j:=m') (by omega) r
  simp only [List.getElem_toArray,e]
  show (ys.getD m' "" == n)=false
  rw [jbG _ _ hm']
  exact jhs hlt hm'
end
section
variable {X:Cx}{N:List Str}{scope:Scope}{cl:List (Str×Addr)}{C:Addr}{s₀:Shared}{H₀:Hp}{fp:List Addr}
end
theorem jeU (ds:List PyData):PyData.eqvAll ds []=ds.isEmpty:=by
 cases ds <;> rfl
theorem jbB:fillsNumberSlot (.type "tuple") "mul" = pure false:=
 PySem.fillsNumberSlot_seq (id := "tuple.__mul__") (r:=some (.builtin "tuple.__rmul__")) F.slot_tuple_mul.lookup (by decide +kernel) F.slot_tuple_rmul.lookup (by decide +kernel)
theorem jdb:seqRepeat? (.type "tuple")=pure (some (.builtin "tuple.__mul__")):=by
 unfold seqRepeat?
 rw [PySem.seqSlot_of (T := "tuple") (name := "__mul__") (id := "tuple.__mul__") F.slot_tuple_mul.lookup (by decide +kernel),PySem.seqSlot_of (T := "tuple") (name := "__rmul__") (id := "tuple.__rmul__") F.slot_tuple_rmul.lookup (by decide +kernel)]
 rfl
theorem jcm (a:Int)(t:Tok)(l:Addr)(items:Array Value)(n:Nat)(dd:Option Addr)(sl:Array (Option Value)) :
  Meets (Builtin.«int.__rmul__» ⟨[.int a t,.ref l],[]⟩) (fun _ R s=>s.heap.get? l=some { cls:=.type "tuple",dict:=dd,data:=.seq items n,slots:=sl }/\R (.ok (.ret Value.notImplemented)) s):=
 .of_wp fun prog w A R s h=>by obtain ⟨hp,g,d,tk,os⟩:=s; obtain ⟨hl,h⟩:=h; wp_walk; exact ⟨_,rfl,h⟩
theorem jeF (l:Addr)(items:Array Value)(n:Nat)(dd:Option Addr)(sl:Array (Option Value))(x:Int)(t:Tok)(hx:2<=x)(hx2:x < 2 ^ 62)(h0:items.isEmpty=false)(hsz:items.size * x.toNat<=sizeLine) :
  Meets (Builtin.«tuple.__mul__» ⟨[.ref l,.int x t],[]⟩)
   (fun A R s=>s.heap.get? l=some { cls:=.type "tuple",dict:=dd,data:=.seq items n,slots:=sl }/\R (.ok (.ret (.ref s.heap.objs.size))) { s with heap:=s.heap.push { cls:=.type "tuple",data:=.seq ((List.replicate x.toNat items).foldl (·++·) #[]) } }):=
 .of_wp fun prog w A R s h=>by
  obtain ⟨hp,g,d,tk,os⟩:=s; obtain ⟨hl,h⟩:=h
  have c1:(decide (x < -2 ^ 63) || decide (x ≥ 2 ^ 63))=false:=by simp; omega
  have c2:(items.isEmpty || x == 1)=false:=by rw [h0]; simp; omega
  have c3:(decide (x<=0) || items.isEmpty)=false:=by rw [h0]; simp; omega
  have hz:(items.size:Int) * x=((items.size * x.toNat:Nat):Int):=by rw [Int.natCast_mul,Int.toNat_of_nonneg (by omega)]
  have h63:(sizeLine:Nat)<=(2 ^ 63 - 1) / 8:=by decide
  wp_walk using wpAny_loadPart' hl
  simp only [c1,Bool.false_eq_true,if_false]
  wp_walk using wpAny_loadPart' hl
  simp only [c2,c3,Bool.false_eq_true,if_false]
  rw [if_neg (by rw [hz]; omega)]
  have c4:Builtin.Tuple.tupleTooMany ((items.size:Int) * x)=false:=by
   rw [hz]
   unfold Builtin.Tuple.tupleTooMany
   exact decide_eq_false (by omega)
  simp only [c4,Bool.false_eq_true,if_false]
  have hs:(List.foldl (fun x1 x2=>x1++x2) #[] (List.replicate x.toNat items)).size<=sizeLine:=by
   rw [AutoListH.size_joined]
   simp only [List.size_toArray,List.length_nil,Nat.zero_add]
   rw [Nat.mul_comm]
   exact hsz
  revert hs h
  generalize List.foldl (fun x1 x2=>x1++x2) #[] (List.replicate x.toNat items)=G
  intro h hs
  wp_walk
  exact ⟨_,rfl,h⟩
theorem jeG (l:Addr)(items:Array Value)(n:Nat)(dd:Option Addr)(sl:Array (Option Value))(t:Tok) :
  Meets (Builtin.«tuple.__mul__» ⟨[.ref l,.int 1 t],[]⟩)
   (fun A R s=>s.heap.get? l=some { cls:=.type "tuple",dict:=dd,data:=.seq items n,slots:=sl }/\R (.ok (.ret (.ref l))) s):=
 .of_wp fun prog w A R s h=>by
  obtain ⟨hp,g,d,tk,os⟩:=s; obtain ⟨hl,h⟩:=h
  have c1:(decide ((1:Int) < -2 ^ 63) || decide ((1:Int) ≥ 2 ^ 63))=false:=by decide
  have c2:(items.isEmpty || (1:Int) == 1)=true:=by simp
  wp_walk using wpAny_loadPart' hl
  exact ⟨_,rfl,h⟩
section
variable {X:Cx}
noncomputable def jl5 (K:PySem.W.Frag):R2:=fun x y H Q=>∃ l k xs,x=.ref l/\y=.int k/\SqT K H l xs/\xs≠[]/\1<=k/\k < 2 ^ 62/\xs.length * k.toNat<=sizeLine/\(k=1->Q (.ref l) H)/\(k≠1->∀ p,H p=none->Q (.ref p) (upd H p (.tup (List.replicate k.toNat xs).flatten)))
theorem jir:OpR X (binaryOp .Mult) (jl5 X.K):=by
 intro pins s σ H x y v u Q I rx ry h
 obtain ⟨l,k,xs,rfl,rfl,hH,h0,h1,h2,hz,q1,q2⟩:=h
 cases rx
 obtain ⟨t,rfl⟩:=ry
 obtain ⟨its,r,pl,_⟩:=I.tuple hH
 have hl:=r.length
 obtain ⟨⟨cls,dd,data,sl⟩,e,hc,n,hd⟩:=id pl
 simp only at hc hd
 subst hc hd
 have hne:its≠[]:=fun z=>h0 (r.nil_iff.mp z)
 refine wpAny_binaryOp_repeat_ref (T := "tuple") (U := "int") (by decide) ⟨_,e,rfl⟩ (fun s'=>typeIs_int s' k t) jbB F.fills_int_mul F.slot_int_rmul jdb F.slot_int_index.lookup
  (call_meets F.slot_int_rmul (typeIs_int s k t) F.entry_int_rmul (F.args_int_rmul_2 _ _) (jcm k t l its.toArray n dd sl) ⟨e,rfl,⟨_,e,rfl⟩,?_⟩)
 by_cases hk:k=1
 ·subst hk
  exact call_meets F.slot_tuple_mul ⟨_,e,rfl⟩ F.entry_tuple_mul (F.args_tuple_mul_2 _ _) (jeG l its.toArray n dd sl t) ⟨e,⟨.ref l,H,I,rfl,q1 rfl⟩⟩
 ·refine call_meets F.slot_tuple_mul ⟨_,e,rfl⟩ F.entry_tuple_mul (F.args_tuple_mul_2 _ _) (jeF l its.toArray n dd sl k t (by omega) h2 (by simpa using hne) (by rw [List.size_toArray,<- hl]; exact hz)) ⟨e,?_⟩
  have f0:=jb4 its k.toNat []
  rw [List.nil_append] at f0
  rw [f0]
  refine ⟨.ref s.heap.objs.size,_,I.laid (t':=s.toks) (o:=.tup (List.replicate k.toNat xs).flatten) (fun b ob q=>Heap.get?_push_of_some _ q) (Nat.le_refl _) ?_,rfl,q2 hk _ (I.hok.fresh (Nat.le_refl _))⟩
  exact ⟨by rw [jfB,Nat.mul_comm]; exact hz,_,r.rep k.toNat,TupD.new _ _⟩
theorem jcn:∀ {bs:List Bool} {us:List Value} {i:Nat} {v:Value},Vals (bs.map V.bl) us->us[i]?=some v->∃ b,bs[i]?=some b/\v=.bool b
 | b::r,_,0,v,.cons e q,h=>by
  cases e
  exact ⟨b,rfl,(Option.some.inj h).symm⟩
 | b::r,_,i + 1,v,.cons e q,h=>jcn (bs:=r) (i:=i) q (by simpa using h)
 | [],_,i,v,.nil,h=>by simp at h
theorem jeY {pins:List (Addr×Obj)}{s:Shared}{σ:St}{H:Hp}{p:Addr}{bs:List Bool}(hc:X.calm=true)(I:Inv X pins σ H s)(hq:SqL X.K H p (bs.map V.bl))(d:Bool) :
  ∃ its fp wr P S,s.heap.IsList p its/\Walks X.prog X.w X.A.in1 s.heap.objs.size fp wr bs.length P S/\S 0 (s.heap.push ⟨.type "list_iterator",none,.fields #[.ref p,.int 0 0],#[]⟩)/\TruthOf X.prog X.w X.A.in1 P (fun i=>(bs[i]?).getD d)/\
   ∀ h':Heap,(∀ b o,b∉wr->(s.heap.push ⟨.type "list_iterator",none,.fields #[.ref p,.int 0 0],#[]⟩).get? b=some o->h'.get? b=some o)->∀ b o,s.heap.get? b=some o->h'.get? b=some o:=by
 obtain ⟨its,r',pl,-⟩:=I.list hq
 have n:its.toArray.size=bs.length:=by simpa using r'.length.symm
 obtain ⟨o,ho,-⟩:=id pl.isList
 have W:=Walks.list (prog:=X.prog) (w:=X.w) (A:=X.A.in1) (I.ok.hd hc) s.heap.objs.size p (Nat.ne_of_lt (Heap.lt_size ho)) its.toArray
 rw [n] at W
 refine ⟨its.toArray,_,_,_,_,pl.isList,W,⟨⟨_,Heap.get?_push_size _ rfl,rfl,rfl⟩,pl.isList.push _⟩,fun i v t Q E hP hQ=>?_,fun h' hk b o e=>hk b o (fun m=>?_) (Heap.get?_push_of_some _ e)⟩
 ·obtain ⟨b,e,rfl⟩:=jcn (i:=i) (v:=v) r' (by simpa using hP)
  exact wpAny_truthy_bool (by simpa only [e,Option.getD] using hQ)
 ·exact absurd (Heap.lt_size e) (by rw [List.mem_singleton.mp m]; exact Nat.lt_irrefl _)
end
section
variable {X:Cx}
end
end L2

namespace L2
open PySem PySem.Spec PyProof.Rows
open Sem (wp)
open AutoSeq1 (wpAny_loadPart')
set_option maxHeartbeats 4000000
section
variable {prog:Program}{w:World}{A:Around}{E:Value->Shared->Prop}{s:Shared}
end
section
variable {X:Cx}{pins:List (Addr×Obj)}{σ:St}{H:Hp}{s:Shared}{h':Heap}
end
section
variable {X:Cx}
end
end L2

namespace L2
open PySem PySem.Spec PyProof.Rows
set_option maxHeartbeats 4000000
section
variable {X:Cx}
theorem jd2:jaN X (.builtin "isinstance") (fun xs H Q=>∃ (x:V) (c:String) (t:Value) (b:Bool),xs=[x,.ty c]/\TyOf X.K H x t/\PySem.W.kitOne X.K t (.type c)=some b/\Q (.bl b) H):=by
 intro pins s σ H xs us Q I r h
 obtain ⟨x,c,t,b,rfl,ty,e,q⟩:=h
 obtain ⟨u,v,rfl,ru,rv⟩:=Vals.two r
 cases rv
 exact jfJ I ru ty e fun tk=>⟨.bl b,H,I.tok tk,rfl,q⟩
end
section
variable {prog:Program}{w:World}{A:Around}{R:Result->Shared->Prop}{I:Addr}{fp wr:List Addr}{n:Nat}{P:Nat->Value->Prop}{St:Nat->Heap->Prop}
end
section
variable {prog:Program}{w:World}{A:Around}{E:Value->Shared->Prop}{s:Shared}
end

noncomputable def jkZ (ks:List (List Int)):Nat:=argBest (fun i j=>HT.lexLt (ks.getD i []) (ks.getD j [])) (ks.length - 1)
section
variable {X:Cx}
end
end L2

namespace L2
open PySem PySem.Spec PyProof.Rows PySem.W
set_option maxHeartbeats 4000000
section
variable {n:Nat}{lt:Nat->Nat->Bool}{cmp:Nat->Nat->(Bool->Shared->Prop)->Shared->Prop}{s:Shared}
structure Asks (n:Nat)(lt:Nat->Nat->Bool)(cmp:Nat->Nat->(Bool->Shared->Prop)->Shared->Prop)(s:Shared):Prop where
 ask:∀ i j C,i < n->j < n->C (lt i j) s->cmp i j C s
 tr:∀ i j k,i < n->j < n->k < n->lt i j=true->lt j k=true->lt i k=true
 tot:∀ i j,i < n->j < n->i≠j->lt i j=true\/lt j i=true
 ir:∀ i,i < n->lt i i=false
noncomputable def gD (p:Array Nat)(k:Nat):Nat:=p.getD k 0
structure Arr (n:Nat)(p:Array Nat):Prop where
 z:p.size=n
 b:∀ i,i < n->gD p i < n
 inj:∀ i j,i < n->j < n->gD p i=gD p j->i=j
 pm:p.toList.Perm (List.range n)
noncomputable def Asc (lt:Nat->Nat->Bool)(p:Array Nat)(m:Nat):Prop:=∀ i,i + 1 < m->lt (gD p i) (gD p (i + 1))=true
end
end L2

namespace L2
open PySem PySem.Spec PyProof.Rows PySem.W
open PySem.AutoSeq1 (wpAny_loadPart')
open PySem.MeetsSeq PySem.MeetsSeq2 PySem.MeetsSeq3
set_option maxHeartbeats 4000000
end L2

namespace L2
open PySem PySem.Spec PyProof.Rows PySem.W
set_option maxHeartbeats 4000000

section
variable {prog:Program}{w:World}{A:Around}{E:Value->Shared->Prop}{s:Shared}{κ:SortKind}{S:Keyed->Prop}{ρ:Keyed->Int}
end
section
variable {ρ:Keyed->Int}
noncomputable def Srt (ρ:Keyed->Int)(l:List Keyed):Prop:=l.Pairwise fun x y=>ρ x<=ρ y
structure Mg (ρ:Keyed->Int)(a b out xs ys:List Keyed):Prop where
 sx:Srt ρ (out++xs)
 sy:Srt ρ (out++ys)
 pm:(out++xs++ys).Perm (a++b)
variable {a b out xs ys x1 y1:List Keyed}
end
section
variable {α:Type}{a:Array α}{i k:Nat}{x:α}
end
section
noncomputable abbrev T2:=Option (Array Keyed)×Array Keyed×Nat×Nat×Nat×Nat×Nat
end
structure Fr (st st':SortSt):Prop where
 k:kindOf st'=kindOf st
 a:arrOf st'=arrOf st
 p:pendingOf st'=pendingOf st
 f:failedOf st'=failedOf st
noncomputable def Fin2 (ρ:Keyed->Int)(a b zs:Array Keyed):Prop:=Srt ρ zs.toList/\zs.toList.Perm (a.toList++b.toList)
structure Two2 (S:Keyed->Prop)(ρ:Keyed->Int)(a b:Array Keyed):Prop where
 sa:∀ (i:Nat) (x:Keyed),a[i]?=some x->S x
 sb:∀ (i:Nat) (x:Keyed),b[i]?=some x->S x
 oa:Srt ρ a.toList
 ob:Srt ρ b.toList
 last:∀ x,a[a.size - 1]?=some x->∀ y∈b.toList,ρ y<=ρ x
 first:∀ y,b[0]?=some y->∀ x∈a.toList,ρ y<=ρ x
 na:0 < a.size
 nb:0 < b.size
structure Lo (ρ:Keyed->Int)(a b out:Array Keyed)(ia ib:Nat):Prop where
 m:Mg ρ a.toList b.toList out.toList (a.toList.drop ia) (b.toList.drop ib)
 ia:ia + 1 < a.size
 ib:ib < b.size
section
variable {S:Keyed->Prop}{ρ:Keyed->Int}{a b out:Array Keyed}{ia ib k:Nat}{x y:Keyed}
end
section
variable {prog:Program}{w:World}{A:Around}{E:Value->Shared->Prop}{s:Shared}{κ:SortKind}{S:Keyed->Prop}{ρ:Keyed->Int}{a b out:Array Keyed}{ia ib g ac bc m:Nat}{st0 st:SortSt}{Q:ForInStep T2->SortSt->Prop}
structure Out2 (ρ:Keyed->Int)(a b:Array Keyed)(st0:SortSt)(m:Nat)(Q:ForInStep T2->SortSt->Prop):Prop where
 fin:∀ zs d st',Fr st0 st'->Fin2 ρ a b zs->Q (.done (some zs,d)) st'
 go:∀ out ia ib g ac bc st',Fr st0 st'->Lo ρ a b out ia ib->m<=ia + ib->Q (.done (none,out,ia,ib,g,ac,bc)) st'/\Q (.yield (none,out,ia,ib,g,ac,bc)) st'
end
section
noncomputable abbrev H2:=Option (Array Keyed)×Nat×Nat×Array Keyed×Nat×Nat×Nat
noncomputable abbrev H1:=Option (Array Keyed)×Nat×Nat×Array Keyed×Nat×Nat
noncomputable abbrev H0:=Option (Array Keyed)×Nat×Nat×Array Keyed×Nat
end
structure Mh (ρ:Keyed->Int)(a b xs ys o:List Keyed):Prop where
 sx:Srt ρ (xs++o)
 sy:Srt ρ (ys++o)
 pm:(xs++ys++o).Perm (a++b)
section
variable {ρ:Keyed->Int}{a b o xs ys x1 y1:List Keyed}
end
section
variable {α:Type}{a:Array α}{i k:Nat}{x:α}
end
structure Hi (ρ:Keyed->Int)(a b out:Array Keyed)(na nb:Nat):Prop where
 m:Mh ρ a.toList b.toList (a.toList.take na) (b.toList.take nb) out.toList.reverse
 a0:0 < na
 b1:1 < nb
 la:na<=a.size
 lb:nb<=b.size
section
variable {S:Keyed->Prop}{ρ:Keyed->Int}{a b out:Array Keyed}{na nb k:Nat}{x y:Keyed}
end
section
variable {prog:Program}{w:World}{A:Around}{E:Value->Shared->Prop}{s:Shared}{κ:SortKind}{S:Keyed->Prop}{ρ:Keyed->Int}{a b out:Array Keyed}{na nb g ac bc m:Nat}{st0 st:SortSt}{Q:ForInStep H2->SortSt->Prop}
structure Oh2 (ρ:Keyed->Int)(a b:Array Keyed)(st0:SortSt)(m:Nat)(Q:ForInStep H2->SortSt->Prop):Prop where
 fin:∀ zs d st',Fr st0 st'->Fin2 ρ a b zs->Q (.done (some zs,d)) st'
 go:∀ na nb out g ac bc st',Fr st0 st'->Hi ρ a b out na nb->na + nb<=m->Q (.done (none,na,nb,out,g,ac,bc)) st'/\Q (.yield (none,na,nb,out,g,ac,bc)) st'
end
section
variable {α:Type}
end
section
variable {prog:Program}{w:World}{A:Around}{E:Value->Shared->Prop}{s:Shared}{κ:SortKind}{S:Keyed->Prop}{ρ:Keyed->Int}
structure Base2 (κ:SortKind)(S:Keyed->Prop)(st:SortSt):Prop where
 k:kindOf st=κ
 f:failedOf st=none
 S:∀ x∈(arrOf st).toList,S x
end
noncomputable def kk (ρ:Keyed->Int)(xs:Array Keyed)(i:Nat):Int:=match xs[i]? with
 | some x=>ρ x
 | none=>0
noncomputable def Up2 (ρ:Keyed->Int)(xs:Array Keyed)(l h:Nat):Prop:=∀ i j,l<=i->i<=j->j < h->kk ρ xs i<=kk ρ xs j
structure Ch (l:Nat)(st st':SortSt):Prop where
 e:st'=setArr st (arrOf st')
 pm:(arrOf st').Perm (arrOf st)
 pre:∀ i,i < l->(arrOf st')[i]?=(arrOf st)[i]?
section
end
section
variable {prog:Program}{w:World}{A:Around}{E:Value->Shared->Prop}{s:Shared}{κ:SortKind}{S:Keyed->Prop}{ρ:Keyed->Int}{l n h:Nat}{st:SortSt}
end
noncomputable def starts:Nat->List (List Keyed)->List (Nat×Nat)
 | _,[]=>[]
 | b,r::rs=>(b,r.length)::starts (b + r.length) rs
noncomputable abbrev prd (p:Nat×Nat×Nat):Nat×Nat:=(p.1,p.2.1)
structure Rws (ρ:Keyed->Int)(st:SortSt)(rs:List (List Keyed))(rest:List Keyed):Prop where
 ar:(arrOf st).toList=rs.flatten++rest
 pd:(pendingOf st).toList.map prd=starts 0 rs
 ok:∀ r∈rs,r≠[]/\Srt ρ r
section
variable {prog:Program}{w:World}{A:Around}{E:Value->Shared->Prop}{s:Shared}{κ:SortKind}{S:Keyed->Prop}{ρ:Keyed->Int}{st:SortSt}{rs:List (List Keyed)}{rest:List Keyed}
end
section
variable {prog:Program}{w:World}{A:Around}{E:Value->Shared->Prop}{s:Shared}{κ:SortKind}{S:Keyed->Prop}{ρ:Keyed->Int}{st:SortSt}{rs:List (List Keyed)}{rest:List Keyed}
end
section
variable {prog:Program}{w:World}{A:Around}{s:Shared}
open Classical in
end
section
variable {prog:Program}{w:World}{A:Around}{E:Value->Shared->Prop}{s:Shared}
end

section
variable {X:Cx}
end
section
variable {X:Cx}
noncomputable def rInD (X:Cx)(neg:Bool):R2:=fun x y H Q=>∃ (p:Addr) (vs:List V) (d:PyData) (ds:List PyData),y=.ref p/\SqL X.K H p vs/\DV X.K H x d/\DVs X.K H vs ds/\d.canLay0=true/\d.depth<=100/\(∀ e∈ds,e.canLay0=true)/\Q (.bl (if neg then !(ds.any fun e=>PyData.eqv e d) else ds.any fun e=>PyData.eqv e d)) H
open Classical in
noncomputable def eD (h:Heap)(d:PyData)(w:Value):Bool:=decide (∃ e as,e.canLay0=true/\Reads h w e as/\PyData.eqv e d=true)
open Classical in
theorem jkT {h:Heap}{d e:PyData}{w:Value}{as:List Addr}(r:Reads h w e as)(c:e.canLay0=true):eD h d w=PyData.eqv e d:=by
 unfold eD
 cases q:PyData.eqv e d with
 | true=>exact decide_eq_true ⟨e,as,c,r,q⟩
 | false=>
  refine decide_eq_false fun ⟨e',as',c',r',q'⟩=>?_
  rw [SeqAt.Reads.unique e' e w as' as c' r' r,q] at q'
  cases q'
theorem jfN {h:Heap}{d:PyData}:∀ {us:List Value} {ds:List PyData} {as:List Addr},ReadsAll h us ds as->(∀ e∈ds,e.canLay0=true)->us.any (eD h d)=(ds.any fun e=>PyData.eqv e d)/\∀ w∈us,∃ e as,e.canLay0=true/\Reads h w e as
 | _,_,_,.nil,_=>⟨rfl,fun w hw=>by simp at hw⟩
 | _,_,_,.cons r rs,c=>by
  obtain ⟨h1,h2⟩:=jfN (d:=d) rs fun e he=>c e (List.mem_cons_of_mem _ he)
  refine ⟨by rw [List.any_cons,List.any_cons,h1,jkT r (c _ List.mem_cons_self)],fun w hw=>?_⟩
  rcases List.mem_cons.mp hw with rfl | hw
  ·exact ⟨_,_,c _ List.mem_cons_self,r⟩
  ·exact h2 w hw
theorem jhr {pins:List (Addr×Obj)}{σ:St}{H:Hp}{s:Shared}{A:Around}{x:V}{u:Value}{d:PyData}{vs:List V}{ds:List PyData}{its:List Value}(hu:A.units + 100 < cLine)(I:Inv X pins σ H s)(rx:RelV x u)(hd:DV X.K H x d)(c:d.canLay0=true)(hp:d.depth<=100)(r:Vals vs its)(hv:DVs X.K H vs ds)(cs:∀ e∈ds,e.canLay0=true) :
  (∀ w,w∈its->SeqAt.EqAt A s w u (eD s.heap d w))/\its.any (eD s.heap d)=ds.any fun e=>PyData.eqv e d:=by
 obtain ⟨as,ra⟩:=DVs.reads I hv r
 obtain ⟨bs,rb⟩:=DV.reads I hd rx
 obtain ⟨h1,h2⟩:=jfN (d:=d) ra cs
 refine ⟨fun w hw=>?_,h1⟩
 obtain ⟨e,as',ce,re⟩:=h2 w hw
 rw [jkT re ce]
 exact SeqAt.eqAt_reads _ _ A s _ _ _ _ re rb ce c (Nat.lt_of_le_of_lt (Nat.add_le_add_left (Nat.le_trans (Nat.min_le_right _ _) hp) _) hu)
theorem jkl {k:Nat}(hr:Room k X.A):OpR X (compareOp .In) (rInD X false):=by
 intro pins s σ H x y v u Q I rx ry h
 obtain ⟨p,vs,d,ds,rfl,hq,hd,hv,c,hp,cs,q⟩:=h
 cases ry
 obtain ⟨its,r,pl,hz⟩:=I.list hq
 obtain ⟨h1,h2⟩:=jhr (A:=X.A.in1) (by have:=hr.un; rw [Around.in1_units]; omega) I rx hd c hp r hv cs
 refine SeqAt.in_listAt (eD s.heap d) pl.isList (fun w hw=>h1 w (by simpa using hw)) ⟨.bl _,H,I,rfl,?_⟩
 rw [show its.toArray.any (eD s.heap d)=its.any (eD s.heap d) by simp,h2]
 exact q
theorem jfk {k:Nat}(hr:Room k X.A):OpR X (compareOp .NotIn) (rInD X true):=by
 intro pins s σ H x y v u Q I rx ry h
 obtain ⟨p,vs,d,ds,rfl,hq,hd,hv,c,hp,cs,q⟩:=h
 cases ry
 obtain ⟨its,r,pl,hz⟩:=I.list hq
 obtain ⟨h1,h2⟩:=jhr (A:=X.A.in1) (by have:=hr.un; rw [Around.in1_units]; omega) I rx hd c hp r hv cs
 refine SeqAt.notIn_listAt (eD s.heap d) pl.isList (fun w hw=>h1 w (by simpa using hw)) ⟨.bl _,H,I,rfl,?_⟩
 rw [show its.toArray.any (eD s.heap d)=its.any (eD s.heap d) by simp,h2]
 exact q
end
section
variable {X:Cx}
end
end L2

namespace L2
open PySem PySem.Spec PyProof.Rows
set_option maxHeartbeats 4000000
section
variable {prog:Program}{w:World}{A:Around}{R:Result->Shared->Prop}{I:Addr}{fp wr:List Addr}{n:Nat}{P:Nat->Value->Prop}{St:Nat->Heap->Prop}
end
section
variable {prog:Program}{w:World}{A:Around}{E:Value->Shared->Prop}{s:Shared}
end

section
variable {X:Cx}
end
end L2

namespace L2
open PySem PySem.Spec PyProof.Rows PySem.SeqAt PySem.MeetsSeq
set_option maxHeartbeats 4000000
theorem ja7 (l:Addr)(es:Array DictEntry)(n:Nat)(dd:Option Addr)(sl:Array (Option Value))(b:Str)(u:Tok) :
  Meets (Builtin.«dict.__eq__» ⟨[.ref l,.str b u],[]⟩) (fun _ R s=>s.heap.get? l=some { cls:=.type "dict",dict:=dd,data:=.dict es n,slots:=sl }/\R (.ok (.ret .notImplemented)) s):=
 .of_wp fun prog w A R s h=>by obtain ⟨hp,g,d,tk,os⟩:=s; obtain ⟨hl,h⟩:=h; have f1:=F.sub_str_dict; wp_walk using wpAny_loadPart' hl; exact ⟨_,rfl,h⟩
theorem ja5 (b:Str)(u:Tok)(l:Addr)(es:Array DictEntry)(n:Nat)(dd:Option Addr)(sl:Array (Option Value)) :
  Meets (Builtin.«str.__eq__» ⟨[.str b u,.ref l],[]⟩) (fun _ R s=>s.heap.get? l=some { cls:=.type "dict",dict:=dd,data:=.dict es n,slots:=sl }/\R (.ok (.ret .notImplemented)) s):=
 .of_wp fun prog w A R s h=>by obtain ⟨hp,g,d,tk,os⟩:=s; obtain ⟨hl,h⟩:=h; wp_walk using wpAny_loadPart' hl,wpAny_load hl; exact ⟨_,rfl,h⟩
section
variable {X:Cx}
theorem jdO {A:Around}{s:Shared}{l:Addr}{o:Obj}{es:Array DictEntry}{n:Nat}(b:Str)(u:Tok)(ho:s.heap.get? l=some o)(hc:o.cls=.type "dict")(hd:o.data=.dict es n)(hu:A.units < cLine):RcAt A s (.ref l) (.str b u) false:=fun prog w E Q h=>by
 obtain ⟨cls,dd,data,sl⟩:=o
 simp only at hc hd
 subst hc hd
 exact rc_eq_decline_or (k:=false) ⟨_,ho,rfl⟩ (typeIs_str s b u) (by decide) F.sub_str_dict F.slot_dict_eq F.slot_str_eq_refl
  (fun _ hq=>call_meets F.slot_dict_eq ⟨_,ho,rfl⟩ F.entry_dict_eq (F.args_dict_eq_2 _ _) (ja7 l es n dd sl b u) ⟨ho,hq⟩)
  (fun _ hq=>call_meets F.slot_str_eq_refl (typeIs_str s b u) F.entry_str_eq (F.args_str_eq_2 _ _) (ja5 b u l es n dd sl) ⟨ho,hq⟩)
  (fun _ hq=>wpAny_of_eq (rfl:isSame (.ref l) (.str b u)=pure false) hq) (.inr hu) h
noncomputable def jgl:R2:=fun x y H Q=>∃ a z kvs,x=.ref a/\y=.str z/\H a=some (.dK kvs)/\Q (.bl false) H
theorem jcQ {k:Nat}(hr:Room k X.A):OpR X (compareOp .Eq) jgl:=by
 intro pins s σ H x y v u Q I rx ry h
 obtain ⟨a,z,kvs,rfl,rfl,ha,q⟩:=h
 cases rx
 obtain ⟨t,rfl⟩:=ry
 obtain ⟨_,_,vs,_,o,es,ep,ho,hx,hd,_⟩:kvs.length<=sizeLine/\(a == sysModules)=false/\∃ vs,KV kvs vs/\s.heap.DictOf (jao X.prog X.w) a vs:=I.hok a _ ha
 exact jdO z t ho hx.1 hd (by have:=hr.un; omega) X.prog X.w X.xe _ ⟨.bl false,H,I,rfl,q⟩
end
noncomputable def rSlS:V->Option Int->Option Int->Hp->VK->Prop:=fun x lo hi H Q=>∃ z,x=.str z/\z.length<=sizeLine/\Q (.str (Txt.slice z lo hi)) H
section
variable {X:Cx}
theorem jjx:SlR X rSlS:=by
 intro pins s σ H x v vl vu lo hi sl Q I rx hs pl pu h
 obtain ⟨z,rfl,hz,q⟩:=h
 obtain ⟨t,rfl⟩:=rx
 refine ⟨"str",_,F.slot_str_getitem.lookup,typeIs_str _ _ _,?_⟩
 obtain ⟨o,ho,hc,hd⟩:=hs
 have fin:∀ t' k,EP X pins σ Q (.str (Txt.slice z lo hi) t') { s with toks:=k }:=fun t' k=>⟨.str _,H,I.tok _,⟨_,rfl⟩,q⟩
 cases pl with
 | none=>
  cases pu with
  | none=>exact wpAny_getItem_str_slice (l:=none) (u:=none) (st:=none) ⟨o,ho,hc,hd⟩ rfl (post_val_or_str ⟨Nat.le_trans (Txt.slice_le z _ _) hz,fin⟩)
  | int j uj=>exact wpAny_getItem_str_slice (l:=none) (u:=some (j,uj)) (st:=none) ⟨o,ho,hc,hd⟩ rfl (post_val_or_str ⟨Nat.le_trans (Txt.slice_le z _ _) hz,fin⟩)
 | int i ui=>
  cases pu with
  | none=>exact wpAny_getItem_str_slice (l:=some (i,ui)) (u:=none) (st:=none) ⟨o,ho,hc,hd⟩ rfl (post_val_or_str ⟨Nat.le_trans (Txt.slice_le z _ _) hz,fin⟩)
  | int j uj=>exact wpAny_getItem_str_slice (l:=some (i,ui)) (u:=some (j,uj)) (st:=none) ⟨o,ho,hc,hd⟩ rfl (post_val_or_str ⟨Nat.le_trans (Txt.slice_le z _ _) hz,fin⟩)
theorem jiv:OpR X (binaryOp .Add) (fun x y H Q=>∃ b j,x=.bl b/\y=.int j/\Q (.int ((if b=true then (1:Int) else 0) + j)) H):=by
 intro pins s σ H x y v u Q I rx ry h
 obtain ⟨b,j,rfl,rfl,q⟩:=h
 cases rx
 obtain ⟨t,rfl⟩:=ry
 exact PySem.IntBool.add_bool_int ⟨.int _,H,I.tok _,⟨_,rfl⟩,q⟩
theorem jiq:OpR X (binaryOp .Sub) (fun x y H Q=>(∃ b j,x=.bl b/\y=.int j/\Q (.int ((if b=true then (1:Int) else 0) - j)) H)\/∃ i b,x=.int i/\y=.bl b/\Q (.int (i - if b=true then (1:Int) else 0)) H):=by
 intro pins s σ H x y v u Q I rx ry h
 rcases h with ⟨b,j,rfl,rfl,q⟩ | ⟨i,b,rfl,rfl,q⟩
 ·cases rx
  obtain ⟨t,rfl⟩:=ry
  exact PySem.IntBool.sub_bool_int ⟨.int _,H,I.tok _,⟨_,rfl⟩,q⟩
 ·cases ry
  obtain ⟨t,rfl⟩:=rx
  exact PySem.IntBool.sub_int_bool ⟨.int _,H,I.tok _,⟨_,rfl⟩,q⟩
theorem jdL {prog:Program}{w:World}{A:Around}{E:Value->Shared->Prop}{s:Shared}{b:Bool}{Q:Value->Shared->Prop}(h:Q (.str (if b then "True" else "False") s.toks) { s with toks:=s.toks + 1 }):wpAny (model prog w) A (call (.type "str") [.bool b]) Q E s:=
 callType_new F.called_str (by decide) (F.typeCall_str_1 _) (F.newCall_str_1 _) (fun obj=>F.args_object_init_2 obj _) F.entry_str_new
  (meets_str_new (S:=fun _ R s=>R (.ok (.ret (.str (if b then "True" else "False") s.toks))) { s with toks:=s.toks + 1 }) fun _ _ _ _ s hq=>
   wpAny_strOf_gives rfl (PySem.typeIs_bool s b) F.slot_bool_str F.slot_bool_repr F.entry_bool_repr (F.args_bool_repr_1 _) (gives_bool_repr b) hq (hsz:=by cases b <;> decide)) ⟨typeIs_str _ _ _,h⟩
theorem jf2:jaN X (.type "str") (fun xs H Q=>∃ b,xs=[.bl b]/\Q (.str (if b=true then "True" else "False")) H):=by
 intro pins s σ H xs us Q I r h
 obtain ⟨b,rfl,q⟩:=h
 obtain ⟨u,rfl,r1⟩:=jbK r
 cases r1
 exact jdL ⟨.str _,H,I.tok _,⟨_,rfl⟩,q⟩
noncomputable def jh2 (K:PySem.W.Frag):R2:=fun x y H Q=>∃ a z xs,x=.ref a/\y=.str z/\(SqT K H a xs\/SqL K H a xs)/\Q (.bl false) H
theorem jdf {k:Nat}(hr:Room k X.A):OpR X (compareOp .Eq) (jh2 X.K):=by
 intro pins s σ H x y v u Q I rx ry h
 obtain ⟨a,z,xs,rfl,rfl,ha,q⟩:=h
 cases rx
 obtain ⟨t,rfl⟩:=ry
 have hu:X.A.units < cLine:=hr.units0
 rcases ha with ha | ha
 ·obtain ⟨its,rv,pa,_⟩:=I.tuple ha
  exact SeqAt.RcAt.tuple_str z t (show s.heap.IsTuple a its.toArray from pa) hu X.prog X.w X.xe _ ⟨.bl false,H,I,rfl,q⟩
 ·obtain ⟨its,rv,pa,_⟩:=I.list ha
  exact SeqAt.RcAt.list_str z t pa.isList hu X.prog X.w X.xe _ ⟨.bl false,H,I,rfl,q⟩
end
end L2

namespace L2
open PySem PySem.Spec PyProof.Rows
open AutoSeq1 (wpAny_loadPart')
set_option maxHeartbeats 4000000
section
variable {prog:Program}{w:World}{A:Around}{E:Value->Shared->Prop}{s:Shared}
end
section
variable {X:Cx}
end
end L2

namespace L2
open PySem PySem.Spec PyProof.Rows PySem.W
set_option maxHeartbeats 4000000
structure Lies (lo:Nat)(pn:List (Addr×Obj))(H:Hp)(h:Heap)(e:Addr)(cls:Value)(dx:Option Addr):Prop where
 ob:∃ oe vs,h.get? e=some oe/\oe.cls=cls/\oe.dict=dx/\oe.data=.fields vs/\
  (vs[1]?=some .none\/∃ T oT ts,vs[1]?=some (.ref T)/\T≠e/\h.get? T=some oT/\oT.data=.fields ts/\ts[3]?=some .none/\H T=none/\lo<=T/\∀ p∈pn,p.1≠T)
 hn:H e=none
 le:lo<=e
 pn:∀ p∈pn,p.1≠e
section
variable {M:Model}{A:Around}{E:Value->Shared->Prop}{s:Shared}
theorem jbR {h:Heap}{a:Addr}{o:Obj}{vs:Array Value}(i:Nat)(x:Value)(ho:h.get? a=some o)(hd:o.data=.fields vs) :
  (∃ o',(h.update a (Obj.mapFields (·.setIfInBounds i x))).get? a=some o'/\o'.cls=o.cls/\o'.dict=o.dict/\o'.data=.fields (vs.setIfInBounds i x))/\∀ b,b≠a->(h.update a (Obj.mapFields (·.setIfInBounds i x))).get? b=h.get? b:=by
 have z:=Obj.data_mapFields hd (·.setIfInBounds i x)
 refine ⟨⟨_,Heap.get?_update_self _ ho (Obj.isFreed_of_fields z),Obj.cls_mapFields _ _,?_,z⟩,fun b hb=>Heap.get?_update_other _ _ (Ne.symm hb)⟩
 unfold Obj.mapFields
 split <;> rfl
theorem jev {base:Heap}{env:Env}{outer:List Env}{L e:Addr}{oe:Obj}{vs:Array Value}{head:Value}{had:Bool}{Q:Unit->Shared->Prop}
  (hfr:A.frames=some (env::outer)) (hl:s.heap.FunFrames base (env::outer)) (hf:env.frame=some L) (he:s.heap.get? e=some oe) (hd:oe.data=.fields vs) (hsz:1 < vs.size)
  (h:∀ (h':Heap) (T:Addr) (oe' oT:Obj) (vs' ts:Array Value),(∀ b o,b∉frs (env::outer)->b≠e->s.heap.get? b=some o->h'.get? b=some o)->(∀ b o,b∈frs (env::outer)->b≠e->s.heap.get? b=some o->∃ sl,h'.get? b=some { o with slots:=sl })->
   s.heap.objs.size<=T->h'.get? e=some oe'->oe'.cls=oe.cls->oe'.dict=oe.dict->oe'.data=.fields vs'->vs'[1]?=some (.ref T)->h'.get? T=some oT->oT.data=.fields ts->ts[3]?=some .none->Q () { s with heap:=h' }) :
  wpAny M A (do let a <- frameOf env; let pl <- entryPlaceOf L had; let b <- EntryCells.newEntry head a .none (rawInt L) .none pl; setField (.ref e) 1 b) (fun _ s'=>wpAny M A (setFlight (.ref e) none) Q E s') E s:=by
 have out:e∉frs (env::outer):=fun m=>by
  rcases hl.mem m with ⟨-,o,ho,no⟩
  exact no vs (by rw [<- hd,Option.some.inj (he.symm.trans ho)])
 refine wpAny_bind (wpAny_frameOf_fun hfr hl hf fun h1 fs=>wpAny_bind (wpAny_entryPlaceOf fun pl hpl=>wpAny_bind (wpAny_newObj_type ?_ (hpl.sizeOk5 _ _ _ _ _))))
 have n3:3 < ([head,.ref L,.none,rawInt L,.none]++(if pl.isEmpty then List.replicate 6 Value.none else pl)).toArray.size:=by
  rw [List.size_toArray,List.length_append]
  exact Nat.lt_add_right _ (Nat.lt_of_sub_pos (Nat.zero_lt_succ 1))
 generalize eot:(⟨.type "traceback",none,.fields ([head,.ref L,.none,rawInt L,.none]++(if pl.isEmpty then List.replicate 6 Value.none else pl)).toArray,#[]⟩:Obj)=ot
 have dt:ot.data=.fields ([head,.ref L,.none,rawInt L,.none]++(if pl.isEmpty then List.replicate 6 Value.none else pl)).toArray:=by rw [<- eot]
 have g1:h1.get? e=some oe:=by rw [fs.2.1 e out,he]
 have new:=Heap.get?_push_size h1 (Obj.isFreed_of_fields dt)
 have ne:h1.objs.size≠e:=fun z=>Nat.lt_irrefl _ (z ▸ Heap.lt_size g1)
 obtain ⟨⟨o2,g2,c2,d2,v2⟩,r2⟩:=jbR 1 (.ref h1.objs.size) (Heap.get?_push_of_some ot g1) hd
 have g2':=(r2 _ ne).trans new
 obtain ⟨⟨o3,g3,c3,d3,v3⟩,r3⟩:=jbR 3 .none g2' dt
 refine wpAny_setField (Heap.get?_push_of_some ot g1) hd hsz (wpAny_bind (wpAny_field g2 v2 (Array.getElem?_setIfInBounds_self_of_lt hsz) ?_))
 rw [if_pos (by rfl)]
 refine wpAny_setField g2' dt n3 ?_
 have keep:∀ b o,b≠e->h1.get? b=some o->_:=fun b o hb g=>(r3 b (Nat.ne_of_lt (Heap.lt_size g))).trans ((r2 b hb).trans (Heap.get?_push_of_some ot g))
 refine h _ h1.objs.size o2 o3 _ _ (fun b o hb hbe g=>keep b o hbe (by rw [fs.2.1 b hb,g])) (fun b o _ hbe g=>?_) (Nat.le_of_eq fs.1.symm) ((r3 e (Ne.symm ne)).trans g2) c2 d2 v2 (Array.getElem?_setIfInBounds_self_of_lt hsz) g3 v3 (Array.getElem?_setIfInBounds_self_of_lt n3)
 rcases fs.2.2 b o g with ⟨sl,q⟩
 exact ⟨sl,keep b _ hbe q⟩
end
section
variable {X:Cx}{pins:List (Addr×Obj)}{σ:St}{H:Hp}{s:Shared}
theorem Inv.left {h':Heap}{ch:List Addr}(I:Inv X pins σ H s)(hH:∀ b∈ch,H b=none)(hlo:∀ b∈ch,X.s₀.heap.objs.size<=b)(hd:∀ b∈ch,∃ o vs,s.heap.get? b=some o/\o.data=.fields vs)(hp:∀ b∈ch,∀ p∈X.pn++pins,p.1≠b)
  (k:∀ b o,b∉frs X.stack->b∉ch->s.heap.get? b=some o->h'.get? b=some o) (sl:∀ b o,b∈frs X.stack->b∉ch->s.heap.get? b=some o->∃ t,h'.get? b=some { o with slots:=t }):Inv X pins σ H { s with heap:=h' }:=by
 have u:Un (frs X.stack) ch H H s.heap h':=by
  refine ⟨fun b o e _ hb hc=>k b o hb hc e,fun b o e _ hb hc=>sl b o hb hc e,fun _ _ _ n _=>n,fun b o e hc=>?_,fun _ _ e=>e,fun _ _ _ e=>e,fun b ps e=>⟨#[],by rw [e]; simp⟩⟩
  by_cases hb:b∈frs X.stack
  ·obtain ⟨t,q⟩:=sl b o hb hc e
   exact ⟨_,q⟩
  ·exact ⟨o,k b o hb hc e⟩
 have tr:∀ b u,H b=some u->b∉frs X.stack/\b∉ch:=fun b u e=>⟨fun z=>(by rw [I.stkFree b z] at e; cases e),fun z=>(by rw [hH b z] at e; cases e)⟩
 have hok:HOk X.prog X.w H h':=fun a o e=>(I.hok a o e).stay (fun b v hb q=>by
  rcases hb with z | z
  ·subst z; exact k b v (tr b _ e).1 (tr b _ e).2 q
  ·exact k b v (tr b _ z).1 (tr b _ z).2 q) (fun _ q=>q) fun _ _ q=>q
 refine I.call (g':=s.gens) (d':=s.drawn) (t':=s.toks) u hok I.bare fun b hb=>⟨.inr (hlo b hb),fun z=>?_,fun x c e z=>?_,hp b hb⟩
 ·obtain ⟨o,vs,g,d⟩:=hd b hb
  obtain ⟨m,⟨o',_,_,ho,r⟩,_⟩:=I.loc
  rw [z,ho] at g
  cases g
  have:=r.1
  rw [this] at d; cases d
 ·obtain ⟨o,vs,g,d⟩:=hd b hb
  obtain ⟨v,o',ho,hc⟩:=I.cell x c e
  rw [z,g] at ho
  cases ho
  rw [d] at hc; cases hc
theorem jhl {M:Model}{E:Value->Shared->Prop}{ea:Addr}{cls:Value}{dx:Option Addr}{Q:Unit->Shared->Prop}(I:Inv X [] σ H s)(hst:X.stack=X.env::X.outer)(hf:X.env.frame=some X.env.locals)
  (l:Lies X.s₀.heap.objs.size X.pn H s.heap ea cls dx) (q:∀ h',Inv X [] σ H { s with heap:=h' }->Lies X.s₀.heap.objs.size X.pn H h' ea cls dx->Q () { s with heap:=h' }):wpAny M X.A (noteFrame (.ref ea) X.env) (fun _ s'=>wpAny M X.A (setFlight (.ref ea) none) Q E s') E s:=by
 obtain ⟨oe,vs,he,hc,hdx,hd,ht⟩:=l.ob
 have hfr:X.A.frames=some (X.env::X.outer):=by rw [<- hst]; exact I.ok.frames
 have hl:s.heap.FunFrames X.base (X.env::X.outer):=by rw [<- hst]; exact I.stack
 have pe:∀ p∈X.pn++[],p.1≠ea:=fun p hp=>l.pn p (by simpa using hp)
 unfold noteFrame
 simp only [hf]
 rcases ht with h1 | ⟨T,oT,ts,h1,hTe,hT,hdT,h3,nT,lT,pT⟩
 ·refine wpAny_bind (wpAny_field he hd h1 ?_)
  rw [if_neg (by decide)]
  refine jev hfr hl hf he hd (Array.getElem?_eq_some_iff.mp h1).1 fun h' T' oe' oT' vs' ts' k sl zT g1 c1 c2 c3 c4 g2 c5 c6=>?_
  rw [<- hst] at k sl
  have J:Inv X [] σ H { s with heap:=h' }:=I.left (ch:=[ea]) (fun b hb=>by rw [List.mem_singleton.mp hb]; exact l.hn) (fun b hb=>by rw [List.mem_singleton.mp hb]; exact l.le) (fun b hb=>by rw [List.mem_singleton.mp hb]; exact ⟨oe,vs,he,hd⟩) (fun b hb=>by rw [List.mem_singleton.mp hb]; exact pe)
   (fun b o hb hc e=>k b o hb (fun z=>hc (by simp [z])) e) fun b o hb hc e=>sl b o hb (fun z=>hc (by simp [z])) e
  refine q h' J ⟨⟨oe',vs',g1,c1.trans hc,c2.trans hdx,c3,.inr ⟨T',oT',ts',c4,?_,g2,c5,c6,I.hok.fresh zT,Nat.le_trans I.sz zT,fun p hp z=>?_⟩⟩,l.hn,l.le,l.pn⟩
  ·exact fun z=>absurd (Heap.lt_size he) (Nat.not_lt.mpr (z ▸ zT))
  ·exact absurd (Heap.lt_size (I.pin p (by simpa using hp)).1) (Nat.not_lt.mpr (z ▸ zT))
 ·have old:(Value.none == rawInt X.env.locals)=false:=rfl
  refine wpAny_bind (wpAny_field he hd h1 ?_)
  rw [if_pos (by rfl)]
  refine wpAny_bind (wpAny_field hT hdT h3 ?_)
  rw [old,if_neg Bool.false_ne_true]
  refine wpAny_bind (wpAny_setField hT hdT (Array.getElem?_eq_some_iff.mp h3).1 ?_)
  have other:=(jbR 3 .none hT hdT).2
  have I1:Inv X [] σ H { s with heap:=s.heap.update T (Obj.mapFields (·.setIfInBounds 3 Value.none)) }:=I.left (ch:=[T]) (fun b hb=>by rw [List.mem_singleton.mp hb]; exact nT) (fun b hb=>by rw [List.mem_singleton.mp hb]; exact lT) (fun b hb=>by rw [List.mem_singleton.mp hb]; exact ⟨oT,ts,hT,hdT⟩) (fun b hb p hp=>by rw [List.mem_singleton.mp hb]; exact pT p (by simpa using hp))
   (fun b o _ hc e=>(other b (by simpa using hc)).trans e) fun b o _ hc e=>⟨o.slots,(other b (by simpa using hc)).trans e⟩
  have he1:=(other ea (Ne.symm hTe)).trans he
  have hl1:(s.heap.update T (Obj.mapFields (·.setIfInBounds 3 Value.none))).FunFrames X.base (X.env::X.outer):=by rw [<- hst]; exact I1.stack
  refine jev (s:={ s with heap:=s.heap.update T (Obj.mapFields (·.setIfInBounds 3 Value.none)) }) hfr hl1 hf he1 hd (Array.getElem?_eq_some_iff.mp h1).1 fun h' T' oe' oT' vs' ts' k sl zT g1 c1 c2 c3 c4 g2 c5 c6=>?_
  rw [<- hst] at k sl
  have J:Inv X [] σ H { s with heap:=h' }:=Inv.left (s:={ s with heap:=s.heap.update T (Obj.mapFields (·.setIfInBounds 3 Value.none)) }) (ch:=[ea]) I1 (fun b hb=>by rw [List.mem_singleton.mp hb]; exact l.hn) (fun b hb=>by rw [List.mem_singleton.mp hb]; exact l.le) (fun b hb=>by rw [List.mem_singleton.mp hb]; exact ⟨oe,vs,he1,hd⟩) (fun b hb=>by rw [List.mem_singleton.mp hb]; exact pe)
   (fun b o hb hc e=>k b o hb (fun z=>hc (by simp [z])) e) fun b o hb hc e=>sl b o hb (fun z=>hc (by simp [z])) e
  refine q h' J ⟨⟨oe',vs',g1,c1.trans hc,c2.trans hdx,c3,.inr ⟨T',oT',ts',c4,?_,g2,c5,c6,I1.hok.fresh zT,Nat.le_trans I1.sz zT,fun p hp z=>?_⟩⟩,l.hn,l.le,l.pn⟩
  ·exact fun z=>absurd (Heap.lt_size he1) (Nat.not_lt.mpr (z ▸ zT))
  ·exact absurd (Heap.lt_size (I1.pin p (by simpa using hp)).1) (Nat.not_lt.mpr (z ▸ zT))
end
noncomputable def CX1 (P:Program)(w:World):CXT:=fun outer H s E e s'=>∃ (ea:Addr) (H':Hp) (cls:Value) (dx:Option Addr),e=.ref ea/\s'.os=s.os/\AllBare s'.gens/\Un (frs outer) [] H H' s.heap s'.heap/\HOk P w H' s'.heap/\Lies s.heap.objs.size [] H' s'.heap ea cls dx/\E cls dx H'
section
variable {X:Cx}{pins:List (Addr×Obj)}{σ:St}{H:Hp}{s s':Shared}{e:Value}{E:XK}
theorem CX1.back (I:Inv X pins σ H s)(h:CX1 X.prog X.w X.stack H s E e s'):∃ (ea:Addr) (H':Hp) (cls:Value) (dx:Option Addr),e=.ref ea/\Inv X pins σ H' s'/\Lies X.s₀.heap.objs.size X.pn H' s'.heap ea cls dx/\E cls dx H':=by
 obtain ⟨ea,H',cls,dx,rfl,os,bare,un,hok,l,q⟩:=h
 have pn:∀ b,s.heap.objs.size<=b->∀ p∈X.pn,p.1≠b:=fun b hb p hp z=>absurd (Heap.lt_size (I.pin p (List.mem_append_left _ hp)).1) (Nat.not_lt.mpr (z ▸ hb))
 refine ⟨ea,H',cls,dx,rfl,I.call' (ch:=[]) os un hok bare (fun b z=>absurd z (by simp)),⟨?_,l.hn,Nat.le_trans I.sz l.le,pn ea l.le⟩,q⟩
 obtain ⟨oe,vs,he,hc,hdx,hd,ht⟩:=l.ob
 refine ⟨oe,vs,he,hc,hdx,hd,ht.imp id ?_⟩
 rintro ⟨T,oT,ts,h1,h2,h3,h4,h5,h6,h7,_⟩
 exact ⟨T,oT,ts,h1,h2,h3,h4,h5,h6,Nat.le_trans I.sz h7,pn T h7⟩
end
end L2

namespace L2
open PySem PySem.Spec PyProof.Rows PySem.W
open Builtin Builtin.ObjectAttr
set_option maxHeartbeats 4000000
section
variable {M:Model}{A:Around}{E:Value->Shared->Prop}{h:Heap}{g:Array GenState}{d:Drawn}{t:Nat}{os:OsState}
variable {nm q:Str}{C N D:Addr}{bs bmB:List Value}{hdct:Bool}{sn:List Str}{sub:List Value}{ab:Bool}{col:Option Bool}{dd:Option Addr}{k0 k1 k2 k3 k5:Option Value}{B newId:String}{mN mD:Str->Option Value}{name:Str}
structure Two (h:Heap)(C N D:Addr)(mN mD:Str->Option Value)(bmB:List Value)(newId:String):Prop where
 cls:∃ nm q bs sn sub ab col dd k0 k1 k2 k3 k5,h.get? C=some (excClassObj nm q C N bs (.ref D::bmB) true sn sub ab col dd k0 k1 k2 k3 k5 newId)
 ns:h.Ns N mN
 low:∃ c0 dd cd sl,h.get? D=some { cls:=c0,dict:=dd,data:=.cls cd,slots:=sl }/\h.Ns cd.ns mD
end
section
variable {prog:Program}{w:World}{A:Around}{E:Value->Shared->Prop}{h:Heap}{g:Array GenState}{d:Drawn}{t:Nat}{os:OsState}
variable {C N D x:Addr}{bmB:List Value}{B newId sa owner:String}{mN mD mA:Str->Option Value}{name:Str}{v:Value}
structure Reads (B:String)(bmB:List Value):Prop where
 ga:Slot B "__getattribute__" "BaseException.__getattribute__"
 mro:mroOf (.type B)=pure bmB
 no:typeLookup (.type B) "__getattr__" = pure none
 has:bmB.contains (.type "BaseException")=true
end
section
variable {X:Cx}{pins:List (Addr×Obj)}{σ:St}{H:Hp}{s:Shared}
end
section
variable {X:Cx}{pins:List (Addr×Obj)}{σ:St}{H:Hp}{s:Shared}
end
section
variable {X:Cx}{H:Hp}{s:Shared}{C N D fI:Addr}{bmB:List Value}{B newId sa owner:String}{mN mD:Str->Option Value}{qual self f a f2 a2:Str}{scope:Scope}{cdv:Value}{p1 p2 p3 pos q1 q2 q3 qos:Pos}{v v2:V}
end
section
variable {M:Model}{A:Around}{E:Value->Shared->Prop}{env:Env}{C N D:Addr}{bmB:List Value}{newId:String}{mN mD:Str->Option Value}
end
end L2

namespace L2
open PySem PySem.Spec PyProof.Rows PySem.W
set_option maxHeartbeats 4000000
section
variable {M:Model}{A:Around}{E:Value->Shared->Prop}{h:Heap}{g:Array GenState}{d:Drawn}{t:Nat}{os:OsState}
variable {nm q nm' q':Str}{C N D ND e:Addr}{bs bm bs' bm':List Value}{hdct hdct':Bool}{sn sn':List Str}{sub sub':List Value}{ab ab':Bool}{col col':Option Bool}{dd dd':Option Addr}{k0 k1 k2 k3 k5 l0 l1 l2 l3 l5:Option Value}{newId newId':String}{oe:Obj}
end
section
variable {X:Cx}{pins:List (Addr×Obj)}{σ:St}{H:Hp}{s:Shared}
end
noncomputable def XL (M:Model)(A:Around)(env:Env)(R:Value->Shared->Prop):Value->Shared->Prop:=fun e s'=>wpAny M A (noteFrame e env) (fun _ s''=>wpAny M A (setFlight e none) (fun _ s3=>R e s3) R s'') R s'
theorem jic {M:Model}{A:Around}{env:Env}{R:Value->Shared->Prop}:PassesOwn M A env (XL M A env R):=PassesOwn.looking
section
variable {P:Program}{w:World}{K:PySem.W.Frag}{mg:Str->Option Value}{base:Heap}
noncomputable abbrev cx1 (P:Program)(w:World)(K:PySem.W.Frag)(mg:Str->Option Value)(base:Heap)(N:List Str)(qual:Str)(scope:Scope)(f:Addr)(cd:Value)(A:Around)(outer:List Env)(s:Shared)(H:Hp)(E:XK):Cx:=
 (cxOf (CX1 P w) P w K mg base N qual scope f cd A outer s H E).wish (XL (model P w) (A.deeper (envOfC qual scope s.heap.objs.size f cd)) (envOfC qual scope s.heap.objs.size f cd) fun e s'=>CX1 P w outer H s E e s')
theorem Fun.okX {x qual:Str}{st:Stmt}{f:Addr}{fd:FuncData}{N ps:List Str}{k:Nat}{sp:Sp}(F:Fun K x qual st f fd)(S:FnScope N ps (defScope st))(len:∀ vs H Q E,sp vs H Q E->vs.length=ps.length)
  (hbody:∀ (cdv:Value) (A:Around) (outer:List Env) (s:Shared) (H:Hp) (vs:List V) (Q:VK) (E:XK),Room k (A.deeper (envOfC qual (defScope st) s.heap.objs.size f cdv))->sp vs H Q E->
   ∃ t,PSs (cx1 P w K mg base N qual (defScope st) f cdv A outer s H E) (defBody st) t/\t { nx:=fun _ H'=>Q .non H',rt:=Q } (start N vs) H):FnOk P w K mg base (CX1 P w) (k + 1) f fd ps sp:=by
 obtain ⟨oc,od,kV,doc,pm,an,cdv,ct,osl,rfl,lk,hcd⟩:=F.ex
 refine jmB lk hcd S len fun A outer s H vs Q E hr hsp=>?_
 obtain ⟨t,h,q⟩:=hbody cdv A outer s H vs Q E hr hsp
 refine ⟨t,fun pins s1 σ H1 D I hw=>?_,q⟩
 refine wpAny_mono (h pins s1 σ H1 D (I.wish _) hw) (fun _ _ q=>q.unwish) fun e s' z=>?_
 show wpAny _ _ (leaving _ e) _ _ s'
 unfold leaving
 exact wpAny_bind z
theorem CX1.out1 {N:List Str}{qual:Str}{scope:Scope}{f:Addr}{cd:Value}{A:Around}{outer:List Env}{s s':Shared}{H H':Hp}{E:XK}{pins:List (Addr×Obj)}{σ:St}{ea:Addr}{cls:Value}{dx:Option Addr}
  (I:Inv (cx1 P w K mg base N qual scope f cd A outer s H E) pins σ H' s') (l:Lies s.heap.objs.size [] H' s'.heap ea cls dx) (q:E cls dx H'):(cx1 P w K mg base N qual scope f cd A outer s H E).xe (.ref ea) s':=by
 have I0:Inv (cxOf (CX1 P w) P w K mg base N qual scope f cd A outer s H E) [] σ H' s':=I.unwish.pins_of fun p hp=>absurd hp (by simp)
 refine jhl (X:=cxOf (CX1 P w) P w K mg base N qual scope f cd A outer s H E) (E:=fun e s'=>CX1 P w outer H s E e s') I0 rfl rfl l fun h' J l'=>?_
 exact ⟨ea,H',cls,dx,rfl,J.os,J.bare,J.base,J.hok,l',q⟩
end
end L2

namespace L2
open PySem PySem.Spec PyProof.Rows PySem.W
open Builtin Builtin.ObjectAttr
set_option maxHeartbeats 4000000
noncomputable abbrev bmV:List Value:=[.type "ValueError",.type "Exception",.type "BaseException",.type "object"]
section
variable {prog:Program}{w:World}{A:Around}{E:Value->Shared->Prop}{h:Heap}{g:Array GenState}{d:Drawn}{t:Nat}{os:OsState}
variable {C N D x:Addr}{bmB:List Value}{B newId sa owner:String}{mN mD mA:Str->Option Value}{name:Str}{v:Value}
end
noncomputable def offN:List Str:=["__setattr__", "__getattribute__", "__getattr__", "__class__", "word", "at", "row"]
structure XBase (K:Frag)(mg:Str->Option Value)(D:Addr)(mD:Str->Option Value):Prop where
 m:mg "PlanError" = some (.ref D)
 kp:keepIn K (.ref D)=true
 lk:∃ q ND bs hd sn sub ab col dd k0 k1 k2 k3 k5 nid,K.lookup D=some (excClassObj "PlanError" q D ND bs bmV hd sn sub ab col dd k0 k1 k2 k3 k5 nid)/\∀ h,K.In h->h.Ns ND mD
 no:∀ y∈offN,mD y=none
 ni:mD "__init__" = none
structure XCls (K:Frag)(mg:Str->Option Value)(x:Str)(fs:List Str)(C:Addr):Prop where
 m:mg x=some (.ref C)
 kp:keepIn K (.ref C)=true
 ex:∃ (D N fI:Addr) (mN mD:Str->Option Value),XBase K mg D mD/\(∃ q bs sn sub ab col dd k0 k1 k2 k3 k5,K.lookup C=some (excClassObj x q C N bs (.ref D::bmV) true sn sub ab col dd k0 k1 k2 k3 k5 "ValueError.__new__"))/\(∀ h,K.In h->h.Ns N mN)/\(∀ y∈offN,mN y=none)/\
  mN "__init__" = some (.ref fI)/\∃ (st:Stmt) (qual:Str) (fd:FuncData),L2.Fun K "__init__" qual st fI fd/\(∃ od osl,K.lookup fI=some ⟨.type "function",od,.func fd,osl⟩)/\FnScope ("self" :: fs) ("self" :: fs) (defScope st)/\Binds K fd ("self" :: fs) []/\(∀ y∈(("self" : Str)::fs),(defScope st).names.lookup y=some .local)/\
  ((∃ f p1 p2 p3 pos,fs=[f]/\defBody st=[.Assign [.Attribute (.Name "self" p1) f p2] (.Name f p3) pos])\/∃ f f2 p1 p2 p3 pos q1 q2 q3 qos,fs=[f,f2]/\f≠f2/\defBody st=[.Assign [.Attribute (.Name "self" p1) f p2] (.Name f p3) pos,.Assign [.Attribute (.Name "self" q1) f2 q2] (.Name f2 q3) qos])
section
variable {K:Frag}{mg:Str->Option Value}{x:Str}{fs:List Str}{C:Addr}
end
noncomputable def fldN:List Str:=["word", "at", "row"]
section
variable {K:Frag}{mg:Str->Option Value}{x:Str}{fs:List Str}{C:Addr}
structure XPin (X:Cx)(ea C dx:Addr):Prop where
 ex:∃ oe vs,(ea,oe)∈X.pn/\oe.cls=.ref C/\oe.dict=some dx/\oe.data=.fields vs
end
section
variable {X:Cx}{mg:Str->Option Value}{x:Str}{fs:List Str}{C ea dx:Addr}
inductive XMany (X:Cx)(mg:Str->Option Value):List Str->List Addr->Prop
 | nil:XMany X mg [] []
 | cons {x:Str} {fs:List Str} {C:Addr} {xs:List Str} {Cs:List Addr}:XCls X.K mg x fs C->x ≠ "PlanError" -> XMany X mg xs Cs->XMany X mg (x::xs) (C::Cs)
end
end L2

namespace L2
open PySem PySem.Spec PyProof.Rows
section
variable {prog:Program}{w:World}{A:Around}{E:Value->Shared->Prop}{s:Shared}{d it:Addr}{o:Obj}{es:Array DictEntry}{ep i:Nat}
end
end L2

namespace L2
open PySem PySem.Spec PyProof.Rows
set_option maxHeartbeats 4000000
theorem jbs:∀ (l:List (Str×Tok)),Vals ((l.map (·.1)).map V.str) (strValues l)
 | []=>.nil
 | (_,t)::l=>.cons ⟨t,rfl⟩ (jbs l)
section
variable {X:Cx}
noncomputable def jjL:V->List V->Hp->VK->Prop:=fun x vs H Q=>∃ z y:Str,x=.str z/\vs=[.str y]/\(y.length == 0)=false/\z.length<=sizeLine/\(Txt.split z y).length<=sizeLine/\∀ l,H l=none->Q (.ref l) (upd H l (.lst ((Txt.split z y).map V.str)))
theorem jgI:MtR X "str.split" jjL:=by
 intro pins s σ H x vs v us Q I rx rv h
 obtain ⟨z,y,rfl,rfl,hy,hz,hn,q⟩:=h
 obtain ⟨t,rfl⟩:=rx
 obtain ⟨w,rfl,ru⟩:=Vals.one rv
 obtain ⟨u,rfl⟩:=ru
 have fin:∀ (l:List (Str×Tok)) (tk:Nat),l.map (·.1)=Txt.split z y->EP X pins σ Q (.ref s.heap.objs.size) { s with toks:=tk,heap:=s.heap.push { cls:=.type "list",data:=.seq (strValues l).toArray } }:=fun l tk e=>by
  have hv:=jbs l
  rw [e] at hv
  refine ⟨.ref _,_,I.laid (t':=tk) (o:=.lst ((Txt.split z y).map V.str)) (fun b o e=>Heap.get?_push_of_some _ e) (Nat.le_refl _) ?_,rfl,q _ (I.hok.fresh (Nat.le_refl _))⟩
  exact ⟨by rw [List.length_map]; exact hn,strValues l,0,hv,Heap.get?_push_size _ rfl⟩
 cases h1:(decide (z.length < y.length) || decide (Builtin.Str.strKind z < Builtin.Str.strKind y))
 ·cases hf:(Builtin.Str.occurrences z y 0 z.length (z.length + 1)).isEmpty
  ·have es:Txt.split z y=Builtin.Str.partsBetween z (Builtin.Str.occurrences z y 0 z.length (z.length + 1)) y.length:=(if_neg (ne_true_of_eq_false h1)).trans (if_neg (ne_true_of_eq_false hf))
   refine call_meets F.slot_str_split (typeIs_str _ _ _) F.entry_str_split (F.args_str_split_2 _ _) (meets_str_split_sep z y t u h1 hy hf hz (by rw [<- es]; exact hn)) ?_
   show EP X pins σ Q _ { s with toks:=_,heap:=s.heap.push { cls:=.type "list",data:=.seq (strsFrom s.toks (Builtin.Str.partsBetween z (Builtin.Str.occurrences z y 0 z.length (z.length + 1)) y.length)).toArray } }
   rw [strsFrom_eq]
   exact fin (numbered s.toks _) _ ((numbered_texts _ _).trans es.symm)
  ·exact call_meets F.slot_str_split (typeIs_str _ _ _) F.entry_str_split (F.args_str_split_2 _ _) (meets_str_split_not_found z y t u h1 hy hf) (fin [(z,t)] _ ((if_neg (ne_true_of_eq_false h1)).trans (if_pos hf)).symm)
 ·exact call_meets F.slot_str_split (typeIs_str _ _ _) F.entry_str_split (F.args_str_split_2 _ _) (meets_str_split_cannot_occur z y t u h1) (fin [(z,t)] _ (if_pos h1).symm)
end
end L2

namespace L2
open PySem PySem.Spec PyProof.Rows PySem.W
set_option maxHeartbeats 4000000
noncomputable def ja2 (cells:List (Str×Addr)):List (Str×NameKind)->List (Str×Addr)->List (Str×Addr)
 | [],acc=>acc
 | (n,k)::r,acc=>ja2 cells r (if k == .free then (match cells.lookup n with | some c=>(n,c)::acc | none=>acc) else acc)
theorem jc1 {env:Env}{f:Str×NameKind->List (Str×Addr)->Sem (ForInStep (List (Str×Addr)))}
  (hf:∀ n k cs,f (n,k) cs=if k == .free then (do let a <- cellOf env n; pure (.yield ((n,a)::cs))) else pure (.yield cs)) :
  ∀ (names:List (Str×NameKind)) (acc:List (Str×Addr)),(∀ y∈names,y.2=.free->∃ c,env.cells.lookup y.1=some c)->forIn names acc f=pure (ja2 env.cells names acc)
 | [],acc,_=>rfl
 | (n,k)::r,acc,h=>by
  rw [List.forIn_cons,hf]
  unfold ja2
  cases hk:k == NameKind.free with
  | true=>
   obtain ⟨c,e⟩:=h (n,k) List.mem_cons_self (eq_of_beq hk)
   simp only [if_true,cellOf,e,pure_bind]
   exact jc1 hf r _ fun y hy=>h y (List.mem_cons_of_mem _ hy)
  | false=>
   simp only [Bool.false_eq_true,if_false,pure_bind]
   exact jc1 hf r _ fun y hy=>h y (List.mem_cons_of_mem _ hy)
theorem jbj {scope:Scope}{env:Env}(h:∀ y∈scope.names,y.2=.free->∃ c,env.cells.lookup y.1=some c):closureFor scope env=pure (ja2 env.cells scope.names []):=by
 simp only [closureFor]
 rw [jc1 (env:=env) (fun n k cs=>by cases hk:k == NameKind.free <;> simp [hk]) _ _ h]
 rfl
theorem jez {cells:List (Str×Addr)}{x:Str}{c:Addr}:∀ {names:List (Str×NameKind)} {acc:List (Str×Addr)},(ja2 cells names acc).lookup x=some c->(cells.lookup x=some c/\(x,NameKind.free)∈names)\/acc.lookup x=some c
 | [],_,h=>.inr h
 | (n,k)::r,acc,h=>by
  unfold ja2 at h
  rcases jez h with ⟨e,m⟩ | e
  ·exact .inl ⟨e,List.mem_cons_of_mem _ m⟩
  ·by_cases hk:(k == NameKind.free)=true
   ·rw [if_pos hk] at e
    cases hc:cells.lookup n with
    | none=>rw [hc] at e; exact .inr e
    | some c'=>
     rw [hc] at e
     simp only [List.lookup_cons] at e
     by_cases hx:x=n
     ·subst hx
      simp only [beq_self_eq_true] at e
      cases e
      exact .inl ⟨hc,by rw [eq_of_beq hk]; exact List.mem_cons_self⟩
     ·rw [beq_eq_false_iff_ne.mpr hx] at e
      exact .inr e
   ·rw [if_neg hk] at e
    exact .inr e
theorem jdy {cells:List (Str×Addr)}{x:Str}{c:Addr}:∀ {names:List (Str×NameKind)} {acc:List (Str×Addr)},cells.lookup x=some c->acc.lookup x=some c->(ja2 cells names acc).lookup x=some c
 | [],_,_,h=>h
 | (n,k)::r,acc,hc,h=>by
  unfold ja2
  refine jdy hc ?_
  split
  ·split
   ·rename_i c' e
    by_cases hx:x=n
    ·subst hx
     rw [hc] at e; cases e
     simp
    ·simp only [List.lookup_cons,beq_eq_false_iff_ne.mpr hx]
     exact h
   ·exact h
  ·exact h
theorem jcg {cells:List (Str×Addr)}{x:Str}{c:Addr}:∀ {names:List (Str×NameKind)} {acc:List (Str×Addr)},cells.lookup x=some c->(x,NameKind.free)∈names->(ja2 cells names acc).lookup x=some c
 | (n,k)::r,acc,hc,h=>by
  unfold ja2
  rcases List.mem_cons.mp h with e | h
  ·cases e
   refine jdy hc ?_
   simp [hc]
  ·exact jcg hc h
structure CloScope (N P:List Str)(sc:Scope):Prop where
 kind:sc.kind=.function
 co:sc.isCoroutine=false
 gen:sc.isGenerator=false
 nd:N.Nodup
 pre:N.take P.length=P
 par:∀ x∈P,sc.names.lookup x=some .local
 nocell:∀ y∈sc.names,y.2≠.cell
 frees:∀ x,(x,NameKind.free)∈sc.names->sc.names.lookup x=some .free
section
variable {P:Program}{w:World}{K:PySem.W.Frag}{mg:Str->Option Value}{base:Heap}
noncomputable def cxC (P:Program)(w:World)(K:PySem.W.Frag)(mg:Str->Option Value)(base:Heap)(N:List Str)(qual:Str)(scope:Scope)(cl:List (Str×Addr))(f:Addr)(cd:Value)(A:Around)(outer:List Env)(s:Shared)(H:Hp)(E:XK):Cx where
 prog:=P
 w:=w
 K:=K
 mg:=mg
 base:=base
 A:=A.deeper (envX qual scope s.heap.objs.size f cd cl)
 N:=N
 s₀:=s
 H₀:=H
 env:=envX qual scope s.heap.objs.size f cd cl
 outer:=outer
 stack:=envX qual scope s.heap.objs.size f cd cl::outer
 ex:=[]
 calm:=true
 fn:=fun x=>scope.names.lookup x != some .free
 pn:=[]
 xe:=XL (model P w) (A.deeper (envX qual scope s.heap.objs.size f cd cl)) (envX qual scope s.heap.objs.size f cd cl) fun e s'=>CX1 P w outer H s E e s'
theorem je7 {N:List Str}{vs:List V}{i:Nat}{v:V}(h:(start N vs)[i]?=some (some v)):vs[i]?=some v:=by
 unfold start at h
 by_cases hi:i < vs.length
 ·rw [List.getElem?_append_left (by simpa using hi),List.getElem?_map] at h
  cases e:vs[i]? with
  | none=>rw [e] at h; cases h
  | some a=>rw [e] at h; simpa using h
 ·rw [List.getElem?_append_right (by simpa using hi),List.getElem?_replicate] at h
  split at h <;> cases h
theorem jhF {ps:List Str}{us:List Value}{i:Nat}{x:Str}{u:Value}(nd:ps.Nodup)(h1:ps[i]?=some x)(h2:us[i]?=some u):(ps.zip us).reverse.lookup x=some u:=by
 have hm:(x,u)∈ps.zip us:=List.mem_of_getElem? (List.getElem?_zip_eq_some.mpr ⟨h1,h2⟩)
 have key:∀ {l:List (Str×Value)},(x,u)∈l->(∀ v,(x,v)∈l->v=u)->l.lookup x=some u:=by
  intro l
  induction l with
  | nil=>intro h _; exact absurd h (by simp)
  | cons p r ih=>
   obtain ⟨y,v⟩:=p
   intro h hu
   rw [List.lookup_cons]
   by_cases hy:x=y
   ·subst hy
    rw [beq_self_eq_true,hu v List.mem_cons_self]
   ·rw [beq_eq_false_iff_ne.mpr hy]
    rcases List.mem_cons.mp h with e | h
    ·cases e; exact absurd rfl hy
    ·exact ih h fun v hv=>hu v (List.mem_cons_of_mem _ hv)
 refine key (List.mem_reverse.mpr hm) fun v hv=>?_
 obtain ⟨j,hj⟩:=List.getElem?_of_mem (List.mem_reverse.mp hv)
 obtain ⟨e1,e2⟩:=List.getElem?_zip_eq_some.mp hj
 obtain rfl:=jcT nd h1 e1
 rw [h2] at e2
 exact (Option.some.inj e2).symm
theorem jiP {N ps:List Str}{qual:Str}{scope:Scope}{cl:List (Str×Addr)}{f:Addr}{cd:Value}{A:Around}{outer:List Env}{s:Shared}{h1:Heap}{tk:Tok}{H:Hp}{E:XK}{us:List Value}{vs cvs:List V}
  (S:CloScope N ps scope) (hd:A.handled=none) (e0:Env0 P w K mg base A outer s H) (hl:vs.length=ps.length) (r:Vals vs us) (hN:vs.length + cvs.length<=N.length)
  (hns:h1.Ns s.heap.objs.size fun x=>(ps.zip us).reverse.lookup x) (hk:∀ b o,s.heap.get? b=some o->h1.get? b=some o)
  (hcl:∀ x c,cl.lookup x=some c->scope.names.lookup x=some .free/\(∃ v,s.heap.IsCell c v)/\H c=none) (inj:∀ x y c,cl.lookup x=some c->cl.lookup y=some c->x=y)
  (has:∀ x,scope.names.lookup x=some .free->∃ c,cl.lookup x=some c)
  (hv:∀ i x v,N[ps.length + i]?=some x->cvs[i]?=some v->scope.names.lookup x=some .free/\∃ c u,cl.lookup x=some c/\RelV v u/\s.heap.IsCell c (some u)) :
  Inv (cxC P w K mg base N qual scope cl f cd A outer s H E) [] (start N (vs++cvs)) H { s with heap:=h1,toks:=tk }:=by
 have noA:∀ b:Addr,b∉(cxC P w K mg base N qual scope cl f cd A outer s H E).ex:=fun b z=>absurd (show b∈([]:List Addr) from z) (by simp)
 have cellK:∀ {c:Addr} {v:Option Value},s.heap.IsCell c v->h1.IsCell c v:=fun ⟨o,ho,hd⟩=>⟨o,hk _ _ ho,hd⟩
 refine ⟨⟨e0.mod,S.kind,rfl,rfl,Nat.le_refl _,inj,fun y hy=>?_,fun y c hf h=>?_,fun _=>hd,Around.frames_deeper e0.frames,.inr ⟨rfl,rfl⟩,fun b z=>absurd z (noA b),e0.bs,e0.bsz,fun b _ _=>noA b,fun b z=>absurd z (noA b),e0.funs,e0.frf⟩,
  rfl,e0.bare,Un.kept hk,⟨_,hns,fun i y v h1 h2 h3=>?_⟩,fun y c h=>?_,e0.hok.fresh (Nat.le_refl _),fun y c h=>(hcl y c h).2.2,fun p hp=>absurd (show p∈([]:List (Addr×Obj)) from hp) (by simp),e0.hok.kept hk,?_⟩
 ·have hy:scope.names.lookup y=some .cell\/scope.names.lookup y=some .free:=hy
  rcases hy with hy | hy
  ·exact absurd rfl (S.nocell _ (PySem.mem_of_lookup hy))
  ·exact has y hy
 ·have hf:(scope.names.lookup y != some .free)=true:=hf
  rw [(hcl y c h).1] at hf
  exact absurd hf (by decide)
 ·have e:=je7 h2
  by_cases hi:i < vs.length
  ·rw [List.getElem?_append_left hi] at e
   obtain ⟨u,hu,rv⟩:=r.get e
   have hp:ps[i]?=some y:=by
    rw [<- S.pre,List.getElem?_take_of_lt (by omega)]; exact h1
   have ndP:ps.Nodup:=by rw [<- S.pre]; exact S.nd.sublist (List.take_sublist _ _)
   exact ⟨u,rv,.inl ⟨S.par y (List.mem_of_getElem? hp),jhF ndP hp hu⟩⟩
  ·rw [List.getElem?_append_right (by omega)] at e
   obtain ⟨hf,c,u,hc,rv,z⟩:=hv (i - vs.length) y v (by rw [<- hl,Nat.add_sub_cancel' (by omega)]; exact h1) e
   exact ⟨u,rv,.inr ⟨.inr hf,c,hc,cellK z⟩⟩
 ·obtain ⟨_,⟨v,z⟩,_⟩:=hcl y c h
  exact ⟨v,cellK z⟩
 ·unfold start
  show _=N.length
  rw [List.length_append,List.length_map,List.length_replicate,List.length_append]
  omega
theorem ji8 {name qual : Str}{params : Arguments}{body : List Stmt}{scope : Scope}{cl : List (Str × Addr)}{doc pm ctv cdv : Value}{f : Addr}{o : Obj}{N ps : List Str}{k : Nat}{A : Around}{outer : List Env}{s : Shared}{H : Hp}{args : Args}{us : List Value}{vs cvs : List V}{Q : VK}{E : XK}
    (ho : s.heap.get? f = some o) (hd : o.data = .func (fnX name qual params body scope cl .none .none doc pm none cdv ctv)) (hcd : s.heap.CodeRec cdv qual) (S : CloScope N ps scope) (hr : Room (k + 1) A) (e0 : Env0 P w K mg base A outer s H)
    (hb : BindsTo s (fnX name qual params body scope cl .none .none doc pm none cdv ctv) args (ps.zip us)) (r : Vals vs us) (hl : vs.length = ps.length) (hN : vs.length + cvs.length <= N.length)
    (hcl : ∀ x c, cl.lookup x = some c -> scope.names.lookup x = some .free /\ (∃ v, s.heap.IsCell c v) /\ H c = none) (inj : ∀ x y c, cl.lookup x = some c -> cl.lookup y = some c -> x = y)
    (has : ∀ x, scope.names.lookup x = some .free -> ∃ c, cl.lookup x = some c)
    (hv : ∀ i x v, N[ps.length + i]? = some x -> cvs[i]? = some v -> scope.names.lookup x = some .free /\ ∃ c u, cl.lookup x = some c /\ RelV v u /\ s.heap.IsCell c (some u))
    (hbody : Room k (A.deeper (envX qual scope s.heap.objs.size f cdv cl)) -> ∃ t, PSs (cxC P w K mg base N qual scope cl f cdv A outer s H E) body t /\ t { nx := fun _ H' => Q .non H', rt := Q } (start N (vs ++ cvs)) H) :
    codeAny (model P w) A (.call (.ref f) args) (CR (CX1 P w) outer P w H s Q E) s := by
  have lim : s.heap.NoLimit := e0.mod.nolimit.keeps fun b o e => (e0.bs b o e).1
  refine codeAny_call_def (fd := fnX name qual params body scope cl .none .none doc pm none cdv ctv) (body := body) hr.depth ho hd lim hcd rfl hb S.nocell (fun y hy => S.par y.1 (List.of_mem_zip (show (y.1, y.2) ∈ _ from hy)).1) (fun h1 hns hk => ?_) S.co S.gen S.kind
  obtain ⟨t, ht, hq⟩ := hbody (hr.deeper _)
  have I := jiP (tk := s.toks + (ps.zip us).length) (qual := qual) (f := f) (cd := cdv) (E := E) S hr.hd e0 hl r hN hns hk hcl inj has hv
  refine wpAny_mono (ht [] _ _ H _ I hq) (fun fl s' hs => ?_) fun e s' z => ?_
  · have fin : ∀ {σ' : St} {H' : Hp} {v : V} {u : Value}, Inv (cxC P w K mg base N qual scope cl f cdv A outer s H E) [] σ' H' s' -> RelV v u -> Q v H' -> CE outer P w H s Q u s' :=
      fun {σ' H' v u} J rv q => ⟨v, H', J.os, J.bare, J.base, J.hok, rv, q⟩
    cases fl with
    | ret u =>
      obtain ⟨v, σ', H', J, rv, q⟩ := hs
      exact fin J rv q
    | next =>
      obtain ⟨σ', H', J, q⟩ := hs
      exact fin (v := V.non) (u := Value.none) J rfl q
    | brk =>
      obtain ⟨_, _, _, q⟩ := hs
      exact False.elim q
    | cont =>
      obtain ⟨_, _, _, q⟩ := hs
      exact False.elim q
  · show wpAny _ _ (leaving _ e) _ _ s'
    unfold leaving
    exact wpAny_bind z
theorem Fun.runX {x qual:Str}{st:Stmt}{f:Addr}{fd:FuncData}{N ps:List Str}{k:Nat}{A:Around}{outer:List Env}{s:Shared}{H:Hp}{args:Args}{us:List Value}{vs:List V}{Q:VK}{E:XK}
  (F:Fun K x qual st f fd) (S:FnScope N ps (defScope st)) (hr:Room (k + 1) A) (e0:Env0 P w K mg base A outer s H) (hb:BindsTo s fd args (ps.zip us)) (r:Vals vs us) (hl:vs.length=ps.length)
  (hbody:∀ cdv,fd.code=cdv->Room k (A.deeper (envOfC qual (defScope st) s.heap.objs.size f cdv))->∃ t,PSs (cx1 P w K mg base N qual (defScope st) f cdv A outer s H E) (defBody st) t/\t { nx:=fun _ H'=>Q .non H',rt:=Q } (start N vs) H) :
  codeAny (model P w) A (.call (.ref f) args) (CR (CX1 P w) outer P w H s Q E) s:=by
 obtain ⟨oc,od,kV,doc,pm,an,cdv,ct,osl,rfl,lk,hcd⟩:=F.ex
 have kx:K.In s.heap:=e0.mod.kin.keeps fun b o e=>(e0.bs b o e).1
 have hcell:∀ y∈ps.zip us,(defScope st).names.lookup y.1=some .local\/((defScope st).names.lookup y.1=some .cell/\((cellsFrom (s.heap.objs.size + 1) (defScope st).names []).lookup y.1).isSome=true):=fun ⟨n,v⟩ hy=>
  (S.par n (List.of_mem_zip hy).1).imp id fun q=>⟨q,PySem.W.cellsFrom_some _ _ _ (.inl q)⟩
 refine codeAny_call_function hr.depth (kx _ _ lk) rfl S.co S.gen rfl (PySem.W.codeRec_of kx hcd) (hb _ _ _ _ (wpAny_newFunctionEnv_cells S.kind hcell fun env he s1 y=>?_))
 subst he
 refine ⟨(e0.mod.nolimit.keeps fun b o e=>(e0.bs b o e).1).keeps y.toInCall.keep,codeAny_func ?_⟩
 obtain ⟨t,ht,hq⟩:=hbody cdv rfl (hr.deeper _)
 have I:Inv (cxOf (CX1 P w) P w K mg base N qual (defScope st) f cdv A outer s H E) [] (start N vs) H s1:=jdr S hr.hd e0 hl r y
 refine wpAny_mono (ht [] s1 (start N vs) H _ (I.wish _) hq) (fun fl s' hs=>?_) fun e s' z=>?_
 ·cases fl with
  | ret u=>obtain ⟨v,σ',H',J,rv,q⟩:=hs; exact ⟨v,H',J.os,J.bare,J.base,J.hok,rv,q⟩
  | next=>obtain ⟨σ',H',J,q⟩:=hs; exact ⟨.non,H',J.os,J.bare,J.base,J.hok,rfl,q⟩
  | brk=>obtain ⟨_,_,_,q⟩:=hs; exact q.elim
  | cont=>obtain ⟨_,_,_,q⟩:=hs; exact q.elim
 ·show wpAny _ _ (leaving _ e) _ _ s'
  unfold leaving
  exact wpAny_bind z
theorem CX1.outC {N:List Str}{qual:Str}{scope:Scope}{cl:List (Str×Addr)}{f:Addr}{cd:Value}{A:Around}{outer:List Env}{s s':Shared}{H H':Hp}{E:XK}{pins:List (Addr×Obj)}{σ:St}{ea:Addr}{cls:Value}{dx:Option Addr}
  (I:Inv (cxC P w K mg base N qual scope cl f cd A outer s H E) pins σ H' s') (l:Lies s.heap.objs.size [] H' s'.heap ea cls dx) (q:E cls dx H'):(cxC P w K mg base N qual scope cl f cd A outer s H E).xe (.ref ea) s':=by
 have J:Inv (cxC P w K mg base N qual scope cl f cd A outer s H E) [] σ H' s':=I.pins_of fun p hp=>absurd hp (by simp)
 exact jhl (X:=cxC P w K mg base N qual scope cl f cd A outer s H E) (E:=fun e s'=>CX1 P w outer H s E e s') J rfl rfl l fun h' J' l'=>⟨ea,H',cls,dx,rfl,J'.os,J'.bare,J'.base,J'.hok,l',q⟩
end
noncomputable def jjd (o:Obj)(q:Str):Prop:=∃ vs t,o.data=.fields vs/\vs[1]?=some (.str q t)
noncomputable abbrev frzC (o:Obj):HO:=.frz o (.ext fun _=>True)
noncomputable def jhD (H:Hp)(P:Addr)(pos:Pos)(q:Str):Prop:=
 H P=some (.tbl #[])\/∃ c oc,H P=some (.tbl #[rawInt pos.line,rawInt pos.col,.ref c])/\H c=some (frzC oc)/\jjd oc q
noncomputable def jhE (H H':Hp)(P:Addr)(pos:Pos)(q:Str)(c:Addr)(oc:Obj):Prop:=
 H' c=some (frzC oc)/\jjd oc q/\(H'=H\/(H P=some (.tbl #[])/\H c=none/\H'=upd (upd H c (frzC oc)) P (.tbl #[rawInt pos.line,rawInt pos.col,.ref c])))
noncomputable def BmAt (mg:Str->Option Value)(base:Heap):Prop:=∃ bm ob,mg "__builtins__" = some (.ref bm)/\bm≠builtinsNs/\base.get? bm=some ob/\ob.cls=.type "module" /\ ob.dict=some builtinsNs/\ob.data=.plain
section
variable {X:Cx}{pins:List (Addr×Obj)}{σ:St}{H:Hp}{s:Shared}
theorem jgF {name:Str}{params:Arguments}{body:List Stmt}{scope:Scope}{pos:Pos}{c P:Addr}{i:Nat}{Q:Flow->Shared->Prop}(I:Inv X pins σ H s)(hN:X.N.Nodup)(hi:X.N[i]?=some name)(hx:Loc X.env.scope name)(hfn:X.fn name=true\/X.env.scope.names.lookup name=some .local)
  (hcd:X.env.code=.ref c) (hC:CodeHd X.base c P) (hB:BmAt X.mg X.base) (hT:jhD H P pos (qualnameIn X.env name name)) (hd0:params.defaults=[]) (hk0:params.kw_defaults=[]) (ha:annTrees params none X.env=[])
  (hfree:∀ y∈scope.names,y.2=.free->∃ c,X.env.cells.lookup y.1=some c)
  (h:∀ f c' oc doc ctv H' s',jhE H H' P pos (qualnameIn X.env name name) c' oc->
   Inv X (pins++[(f,fnMade name (qualnameIn X.env name name) params body scope (ja2 X.env.cells scope.names []) doc ((X.mg "__name__").getD .none) c' ctv)]) (σ.set i (some (.ref f))) H' s'->Q .next s') :
  wpAny (model X.prog X.w) X.A (exec (.FunctionDef name params body [] none [] scope none name pos) X.env) Q X.xe s:=by
 refine nestDef_K hd0 hk0 ha ?_
 have hg:s.heap.Ns mainGlobals X.mg:=I.mod.glob.keeps I.bk
 obtain ⟨bm,ob,b1,b2,b3,b4,b5,b6⟩:=hB
 have b3s:=I.bk _ _ b3
 have neG:bm≠mainGlobals:=fun q=>by
  obtain ⟨o,es,ep,e,hd,_⟩:=hg
  rw [q,e] at b3s; cases b3s; rw [hd] at b6; cases b6
 have noP:∀ {ps:Array Value},s.heap.get? P=some (tabObj ps)->mainGlobals≠P/\bm≠P:=by
  intro ps hP
  constructor
  ·intro q
   obtain ⟨o,es,ep,e,hd,_⟩:=hg
   rw [q,hP] at e
   cases e
   cases hd
  ·intro q
   rw [q,hP] at b3s
   cases b3s
   cases b4
 have pinOk:∀ {f:Addr} {fo:Obj} {H':Hp} {s':Shared},s.heap.objs.size<=f->s'.heap.get? f=some fo->H' f=none->(∀ v,fo.data≠.cell v)->Inv X pins σ H' s'->Inv X (pins++[(f,fo)]) σ H' s':=fun {f fo H' s'} hf hg hn hd J=>
  J.pins_of fun p hp=>(List.mem_append.mp hp).elim (fun z=>J.pin p (List.mem_append_right _ z)) fun z=>by
   rw [List.mem_singleton.mp z]
   exact ⟨hg,hn,Nat.ne_of_gt (Nat.lt_of_lt_of_le I.lt hf),I.nofs hf,hd⟩
 rcases hT with hP | ⟨c',oc,hP,hc',hco⟩
 ·have gP:s.heap.get? P=some (tabObj #[]):=I.hok P _ hP
  refine makeFunction_K (mg:=X.mg) (jbj hfree) I.ok.glob hg hcd (hC.keeps I.bk) gP trivial rfl (noP gP).1 ⟨bm,ob,b1,b2,neG,(noP gP).2,b3s,b4,b5,b6⟩ fun c' ctv doc h' tk hx1 hge hlt hrec htb=>?_
  obtain ⟨c2,oc,vs,t,e2,hoc,hdc,hvc⟩:=hrec
  cases e2
  have hcn:H c'=none:=I.hok.fresh hge
  have hcP:c'≠P:=fun z=>by rw [z,hP] at hcn; cases hcn
  have htb':h'.get? P=some (tabObj #[rawInt pos.line,rawInt pos.col,.ref c']):=by
   have e:(#[]:Array Value)++#[rawInt pos.line,rawInt pos.col,.ref c']=#[rawInt pos.line,rawInt pos.col,.ref c']:=by simp
   rw [e] at htb; exact htb
  let fo:=fnMade name (qualnameIn X.env name name) params body scope (ja2 X.env.cells scope.names []) doc ((X.mg "__name__").getD .none) c' ctv
  let H':=upd (upd H c' (frzC oc)) P (.tbl #[rawInt pos.line,rawInt pos.col,.ref c'])
  have oth:∀ b,b≠P->b≠c'->H' b=H b:=fun b h1 h2=>by show upd _ _ _ b=_; rw [jac h1,jac h2]
  have hPP:H' P=some (.tbl #[rawInt pos.line,rawInt pos.col,.ref c']):=jah
  have hcc:H' c'=some (frzC oc):=by show upd _ _ _ c'=_; rw [jac hcP,jah]
  have neP:∀ b,H b=none->b≠P:=fun b n z=>by rw [z,hP] at n; cases n
  have neC:∀ b o,s.heap.get? b=some o->b≠c':=fun b o e z=>absurd (Heap.lt_size e) (Nat.not_lt.mpr (z ▸ hge))
  have kp:∀ b o,b≠P->s.heap.get? b=some o->(h'.push fo).get? b=some o:=fun b o hb e=>Heap.get?_push_of_some _ (hx1 b o hb e)
  have trc:∀ b u,H b=some u->b≠c':=fun b u e z=>by rw [z,hcn] at e; cases e
  have un:Un X.fs [] H H' s.heap (h'.push fo):=by
   refine ⟨fun b o e n _ _=>kp b o (neP b n) e,fun b o e n _ _=>⟨o.slots,kp b o (neP b n) e⟩,fun b o e n _=>?_,fun b o e _=>?_,fun b xs e=>?_,fun b o u e=>?_,fun b ps e=>?_⟩
   ·rw [oth b (neP b n) (neC b o e)]; exact n
   ·by_cases hb:b=P
    ·exact ⟨_,by rw [hb]; exact Heap.get?_push_of_some _ htb'⟩
    ·exact ⟨o,kp b o hb e⟩
   ·rw [oth b (fun z=>by rw [z,hP] at e; cases e) (trc b _ e)]; exact e
   ·rw [oth b (fun z=>by rw [z,hP] at e; cases e) (trc b _ e)]; exact e
   ·by_cases hb:b=P
    ·subst hb
     rw [hP] at e; cases e
     exact ⟨#[rawInt pos.line,rawInt pos.col,.ref c'],by rw [hPP]; simp⟩
    ·exact ⟨#[],by rw [oth b hb (trc b _ e),e]; simp⟩
  have hok:HOk X.prog X.w H' (h'.push fo):=fun b u e=>by
   by_cases hb:b=P
   ·subst hb
    rw [hPP] at e; cases e
    exact Heap.get?_push_of_some _ htb'
   ·by_cases hbc:b=c'
    ·subst hbc
     rw [hcc] at e; cases e
     exact ⟨Heap.get?_push_of_some _ hoc,trivial,⟨_,Heap.get?_push_of_some _ hoc⟩,fun _ _ _ _=>trivial⟩
    ·rw [oth b hb hbc] at e
     refine (I.hok b u e).stay (fun d v hd q=>kp d v ?_ q) (fun d q=>?_) fun d xs q=>?_
     ·rcases hd with rfl | hd
      ·exact hb
      ·intro z; rw [z,hP] at hd; cases hd
     ·rw [oth d (fun z=>by rw [z,hP] at q; cases q) (trc d _ q)]; exact q
     ·rw [oth d (fun z=>by rw [z,hP] at q; cases q) (trc d _ q)]; exact q
  have hfs:s.heap.objs.size<=h'.objs.size:=Nat.le_of_lt (Nat.lt_of_le_of_lt hge hlt)
  have hfn':H' h'.objs.size=none:=by
   have hn:H h'.objs.size=none:=I.hok.fresh hfs
   rw [oth _ (neP _ hn) (Nat.ne_of_gt hlt)]; exact hn
  have J:=pinOk (fo:=fo) (s':={ s with heap:=h'.push fo,toks:=tk }) hfs (Heap.get?_push_size _ rfl) hfn' (fun v z=>by cases z) (I.un (t':=tk) un hok)
  exact jcL J hN hi hx (v:=.ref h'.objs.size) rfl (fun s' J'=>h _ c' oc doc ctv H' s' ⟨hcc,⟨vs,t,hdc,hvc⟩,.inr ⟨hP,hcn,rfl⟩⟩ J') hfn
 ·have gP:s.heap.get? P=some (tabObj #[rawInt pos.line,rawInt pos.col,.ref c']):=I.hok P _ hP
  refine makeFunction_hit (mg:=X.mg) (cv:=.ref c') (jbj hfree) I.ok.glob hg hcd (hC.keeps I.bk) gP trivial (by simp [codeAmong,rawInt]) ⟨bm,ob,b1,b2,neG,(noP gP).2,b3s,b4,b5,b6⟩ fun ctv doc h' tk hk hsz=>?_
  have kp:∀ b o,s.heap.get? b=some o->(h'.push (fnMade name (qualnameIn X.env name name) params body scope (ja2 X.env.cells scope.names []) doc ((X.mg "__name__").getD .none) c' ctv)).get? b=some o:=fun b o e=>Heap.get?_push_of_some _ (hk b o e)
  have J:=pinOk (fo:=fnMade name (qualnameIn X.env name name) params body scope (ja2 X.env.cells scope.names []) doc ((X.mg "__name__").getD .none) c' ctv) (H':=H) (s':={ s with heap:=_,toks:=tk }) hsz (Heap.get?_push_size _ rfl) (I.hok.fresh hsz) (fun v z=>by cases z) (I.kept (t':=tk) kp)
  exact jcL J hN hi hx (v:=.ref h'.objs.size) rfl (fun s' J'=>h _ c' oc doc ctv H s' ⟨hc',hco,.inl rfl⟩ J') hfn
end
noncomputable def jgY (tb:List Addr)(H:Hp):Prop:=∀ b,if b∈tb then H b=some (.tbl #[]) else H b=none\/∃ o xs,H b=some (.frz o (.lst xs))
theorem law_callT {P:Program}{w:World}{K:PySem.W.Frag}{mg mb:Str->Option Value}{CX:CXT}{k:Nat}{fa a:Addr}{fd:FuncData}{x:Str}{sp:Sp}{s₁:Shared}{vs:List Value}{ns:List Int}{tb:List Addr}
  (hKl:(K.all fun p=>p.2.cls != .type "list")=true) (htb:∀ b∈tb,s₁.heap.get? b=some (tabObj #[])/\isCodeTable s₁.heap b/\K.lookup b=none) (hbm:BmAt mg s₁.heap)
  (KX:K.In s₁.heap) (hsys:∃ o,K.lookup sysModules=some o/\o.cls=.type "dict") (hns:s₁.heap.Ns mainGlobals mg) (hb:s₁.heap.Ns builtinsNs mb) (hbb:∀ x:Str,x ≠ "__name__" -> mb x=bootBuiltins x) (hlim:s₁.heap.NoLimit) (hg:s₁.gens=#[])
  (ha:s₁.heap.get? a=some { cls:=.type "list",data:=.seq vs.toArray }) (hi:IntsAre vs ns) (hl:ns.length<=sizeLine) (hr:Room k callerA)
  (F:∀ base:Heap,K.In base->base.Ns mainGlobals mg->BmAt mg base->FnOk P w K mg base CX k fa fd [x] sp) (hbind:∀ (s:Shared) (u:Value),BindsTo s fd ⟨[u],[]⟩ [(x,u)])
  (hsp:∀ (H:Hp) (o:Obj),jgY tb H->H a=some (.frz o (.lst (ns.map V.int)))->sp [.ref a] H (fun v _=>v=.bl true) fun _ _ _=>False)
  (hCX:∀ H e s',CX [] H s₁ (fun _ _ _=>False) e s'->False) :
  codeAny (model P w) callerA (.call (.ref fa) ⟨[.ref a],[]⟩) (fun r s'=>r=.ok (.ret (.bool true))/\OldK s₁.heap s'.heap/\s'.os=s₁.os/\AllBare s'.gens) s₁:=by
 have ka:K.lookup a=none:=by
  cases hk:K.lookup a with
  | none=>rfl
  | some o=>
   have e:=KX a o hk
   rw [ha] at e
   cases e
   have:=List.all_eq_true.mp hKl (a,_) (mem_of_lookupK hk)
   simp at this
 let oa:Obj:={ cls:=.type "list",data:=.seq vs.toArray }
 have hat:a∉tb:=fun z=>by
  have e:=(htb a z).1
  rw [ha] at e
  cases e
 obtain ⟨H,hH⟩:∃ H:Hp,H=fun b=>if b∈tb then some (.tbl #[]) else if b=a then some (.frz oa (.lst (ns.map V.int))) else none:=⟨_,rfl⟩
 have H1:∀ {b},b∈tb->H b=some (.tbl #[]):=fun hb=>by rw [hH]; exact if_pos hb
 have H2:H a=some (.frz oa (.lst (ns.map V.int))):=by
  rw [hH]
  show (if a∈tb then _ else if a=a then _ else _)=_
  rw [if_neg hat,if_pos rfl]
 have H3:∀ {b},b∉tb->b≠a->H b=none:=fun {b} h1 h2=>by
  rw [hH]
  show (if b∈tb then _ else if b=a then _ else _)=_
  rw [if_neg h1,if_neg h2]
 clear hH
 have free:∀ {b:Addr} {o:Obj},s₁.heap.get? b=some o->o.cls≠.none->(∀ xs n,o.data≠.seq xs n)->H b=none:=fun {b o} e h1 h2=>by
  refine H3 (fun z=>?_) fun z=>?_
  ·have e2:=(htb b z).1
   rw [e] at e2; cases e2
   exact h1 rfl
  ·rw [z,ha] at e; cases e
   exact h2 _ _ rfl
 have hok:HOk P w H s₁.heap:=fun b u e=>by
  by_cases h1:b∈tb
  ·rw [H1 h1] at e; cases e
   exact (htb b h1).1
  ·by_cases h2:b=a
   ·subst h2
    rw [H2] at e; cases e
    exact ⟨ha,by rw [List.length_map]; exact hl,vs,_,jc5 hi,ha⟩
   ·rw [H3 h1 h2] at e; cases e
 have nsK:∀ {b:Addr} {m:Str->Option Value},s₁.heap.Ns b m->(hidT s₁.heap H).Ns b m:=fun {b m} ⟨o,es,ep,e,d,r⟩=>by
  refine ⟨o,es,ep,jcY e (H3 (fun z=>?_) fun z=>?_),d,r⟩
  ·have e2:=(htb b z).1
   rw [e] at e2; cases e2; cases d
  ·rw [z,ha] at e; cases e; cases d
 have hKb:K.In (hidT s₁.heap H):=fun b o e=>jcY (KX b o e) (H3 (fun z=>by rw [(htb b z).2.2] at e; cases e) fun z=>by rw [z,ka] at e; cases e)
 have hM:Mod K mg (hidT s₁.heap H):=⟨hKb,nsK hns,⟨mb,nsK hb,hbb⟩,let ⟨mc,h1,h2⟩:=hlim; ⟨mc,nsK h1,h2⟩,hsys⟩
 have hBb:BmAt mg (hidT s₁.heap H):=by
  obtain ⟨bm,ob,b1,b2,b3,b4,b5,b6⟩:=hbm
  exact ⟨bm,ob,b1,b2,jcY b3 (free b3 (by rw [b4]; nofun) (by rw [b6]; nofun)),b4,b5,b6⟩
 have e0:Env0 P w K mg (hidT s₁.heap H) callerA [] s₁ H:=⟨rfl,hM,fun b o e=>jiz e,Nat.le_of_eq (jfO _ _),trivial,fun b hb=>(nomatch hb),hok,.of_eq hg⟩
 have only:jgY tb H:=fun b=>by
  by_cases h1:b∈tb
  ·rw [if_pos h1]; exact H1 h1
  ·rw [if_neg h1]
   by_cases h2:b=a
   ·subst h2; exact .inr ⟨_,_,H2⟩
   ·exact .inl (H3 h1 h2)
 refine codeAny_mono ((F _ hKb (nsK hns) hBb).run callerA [] s₁ H ⟨[.ref a],[]⟩ [.ref a] [.ref a] _ _ hr e0 (hbind s₁ (.ref a)) (.cons rfl .nil) (hsp H oa only H2)) fun r s' h=>?_
 match r,h with
 | .error e,h=>exact (hCX H e s' h).elim
 | .ok (.ret u),h=>
  obtain ⟨v,H',os,bare,un,hok',r',q⟩:=h
  have q':v=.bl true:=q
  subst q'
  obtain rfl:u=Value.bool true:=r'
  refine ⟨rfl,⟨fun b o e=>?_,fun b o e=>un.there b o e (by simp)⟩,os,bare⟩
  by_cases h1:b∈tb
  ·obtain ⟨e1,ht,_⟩:=htb b h1
   rw [e] at e1; cases e1
   obtain ⟨more,e2⟩:=un.tbls b _ (H1 h1)
   exact .inr (.inl ⟨ht,rfl,#[],more,rfl,hok' b _ e2⟩)
  ·by_cases h2:b=a
   ·subst h2
    obtain ⟨e2,_⟩:=hok' b _ (un.frzs b _ _ H2)
    rw [ha] at e; cases e
    exact .inl e2
   ·exact .inl (un.keep b o e (H3 h1 h2) (by intro z; exact (nomatch z)) (by simp))
theorem walk_ofT {l:PySem.W.OpenLaw}{n k:Nat}{q:Program}{loose:List Str}{XP:(Str->Option Value)->Heap->Prop}{YP:World->Heap->Prop}{d:DefRec}{K:Params->PySem.W.Frag}{CX:World->CXT}{sp:World->Sp}{x:Str}{tbs:List (Str×Addr×Addr)}
  (hKl:∀ w:World,((K w.params).all fun p=>p.2.cls != .type "list")=true) (htb:∀ (w:World),∀ t∈tbs,(∃ dr,(recsOf q).find? (fun e=>e.name == t.1)=some dr)/\tabIn (K w.params) t.1=some (t.2.1,t.2.2)/\(K w.params).lookup t.2.2=none)
  (hn:l.most=some n) (hn2:n<=sizeLine) (hdf:d.params.defaults=[]) (hr:Room k callerA)
  (hY:∀ (w:World) (h:Heap),YP w h->(K w.params).In h) (hsy:∀ w:World,∃ o,(K w.params).lookup sysModules=some o/\o.cls=.type "dict")
  (F:∀ (w:World) (mg:Str->Option Value) (fa:Addr) (h:Heap),(K w.params).In h->h.Ns mainGlobals mg->mg d.name=some (.ref fa)->
   ∃ fd:FuncData,(∀ (s:Shared) (u:Value),BindsTo s fd ⟨[u],[]⟩ [(x,u)])/\
    ∀ base:Heap,(K w.params).In base->base.Ns mainGlobals mg->BmAt mg base->FnOk l.prog w (K w.params) mg base (CX w) k fa fd [x] (sp w))
  (hsp:∀ (w:World) (H:Hp) (o:Obj) (a:Addr) (ns:List Int),ns.length<=n->jgY (tbs.map (·.2.2)) H->H a=some (.frz o (.lst (ns.map V.int)))->sp w [.ref a] H (fun v _=>v=.bl true) fun _ _ _=>False)
  (hCX:∀ (w:World) (H:Hp) (s:Shared) (e:Value) (s':Shared),CX w [] H s (fun _ _ _=>False) e s'->False) :
  PySem.W.WalkO q loose XP YP l.row.toRowW d [] (fun f vs=>PySem.call f vs):=by
 refine Att.attach_call hn hdf fun w s₀ s₁ mg mb fa o pm cd doc a vs ns G Y ho hd hcd hmg hobj hints hlen hg=>?_
 have kx:=hY w _ Y
 obtain ⟨fd,hb,hF⟩:=F w mg fa _ kx G.T.g hmg
 refine law_callT (tb:=tbs.map (·.2.2)) (hKl w) (fun b hb=>?_) ?_ kx (hsy w) G.T.g G.T.b G.T.builtins G.T.nolimit hg hobj hints (Nat.le_trans hlen hn2) hr hF hb (fun H o hO hS=>hsp w H o a ns hlen hO hS) fun H e s'=>hCX w H s₁ e s'
 ·obtain ⟨t,ht,rfl⟩:=List.mem_map.mp hb
  obtain ⟨⟨dr,h1⟩,h2,h3⟩:=htb w t ht
  obtain ⟨c1,c2⟩:=tab_of G.T kx h1 h2
  exact ⟨c2,(c1.tab c2).isCodeTable,h3⟩
 ·obtain ⟨bm,ob,b1,b2,b3,b4,b5,b6⟩:=G.T.bmain
  exact ⟨bm,ob,b1,b2,b3,b4,b5,b6⟩
end L2

namespace L2
open PySem PySem.Spec PyProof.Rows
open Sem (wp)
open AutoSeq1 (wpAny_loadPart')
set_option maxHeartbeats 4000000
section
variable {prog:Program}{w:World}{A:Around}{E:Value->Shared->Prop}{s:Shared}
end
section
variable {X:Cx}{pins:List (Addr×Obj)}{σ:St}{H:Hp}{s:Shared}{h':Heap}
end
section
variable {X:Cx}
end
end L2

namespace L2
open PySem PySem.Spec PyProof.Rows
set_option maxHeartbeats 4000000
section
variable {X:Cx}
theorem jfl:OpR X (compareOp .LtE) (fun x y H Q=>∃ i j,x=.str i/\y=.str j/\Q (.bl (!decide (j.cps.toList < i.cps.toList))) H):=by
 intro pins s σ H x y v u Q I rx ry h
 obtain ⟨i,j,rfl,rfl,q⟩:=h
 obtain ⟨t,rfl⟩:=rx
 obtain ⟨t',rfl⟩:=ry
 exact PySem.P.le_str (jaf I q rfl)
theorem jc4:jaN X (.type "int") (fun xs H Q=>∃ z n,xs=[.str z]/\PySem.intText? z=some n/\z.length<=640/\Q (.int n) H):=by
 intro pins s σ H xs us Q I r h
 obtain ⟨z,n,rfl,h1,h2,q⟩:=h
 obtain ⟨u,rfl,rx⟩:=jbK r
 obtain ⟨t,rfl⟩:=rx
 exact PySem.W.KIN.call_text h1 h2 ⟨.int n,H,I.tok _,⟨_,rfl⟩,q⟩
noncomputable def Its (x:Str):It:=⟨fun i _=>i < x.cps.size,fun i H y H'=>H'=H/\∃ c,x.cps[i]?=some c/\y=.str ⟨#[c]⟩,fun i _=>x.cps.size<=i⟩
theorem jga {P:Program}{w:World}{K:PySem.W.Frag}{tg:Expr}(x:Str)(t:Tok)(it:Addr):Turn P w K tg (Its x) [it] it (fun i h=>h.IsStrIter it "str_ascii_iterator" x t i) where
 mem:=by simp
 obj:=fun i h st b hb=>by
  obtain rfl:b=it:=by simpa using hb
  obtain ⟨o,e,c,d⟩:=st
  exact ⟨o,e,fun v z=>by rw [d] at z; cases z⟩
 keep:=fun i h h' st k=>let ⟨o,e,r⟩:=st; ⟨o,k it (by simp) o e,r⟩
 item:=by
  intro X hP hw hK hc i pins s σ H E I hf st hg
  subst hP hw hK
  obtain ⟨f0,f1,f2,f3,f4,f5⟩:=hf it (by simp)
  have hg:i < x.cps.size:=hg
  have hx:x.cps[i]?=some x.cps[i]:=by simp [hg]
  refine wpAny_pyNext_ascii_item st hx fun h' st' sb=>?_
  have I1:Inv X pins σ H { s with heap:=h',toks:=s.toks + 1 }:=I.turned (t':=s.toks + 1) (fun b o hb e=>(sb.2 b hb).trans e) f0 f1 f3 f4 f5
  obtain ⟨o,e,c,d⟩:=id st'
  exact ⟨_,rfl,jgL (s:={ s with heap:=h',toks:=s.toks + 1 }) e c d (by decide) ⟨.str ⟨#[x.cps[i]]⟩,H,I1,⟨_,rfl⟩,⟨rfl,_,hx,rfl⟩,st',fun b hb=>(hf b hb).1⟩⟩
 done:=by
  intro X hP hw hK hc i pins s σ H E I hf st hg
  subst hP hw hK
  obtain ⟨f0,f1,f2,f3,f4,f5⟩:=hf it (by simp)
  have hg:x.cps.size<=i:=hg
  exact wpAny_pyNext_ascii_end (I.ok.hd hc) st (by simpa using hg) fun h' eb=>⟨rfl,I.turned (t':=s.toks) (fun b o hb e=>eb b o hb e) f0 f1 f3 f4 f5⟩
 self:=fun _ _ _ _ _ st h=>wpAny_pyIter_striter_ascii st h
noncomputable def iStr (tl:TE):TI:=fun σ H R=>tl σ H fun x H1=>∃ z:Str,x=.str z/\z.cps.all (·< 128)=true/\R (Its z) H1
theorem jjU {tg l:Expr}{tl:TE}(hl:PE X l tl):PI X tg l (iStr tl):=by
 intro pins s σ H R I h
 refine thn (hl pins s σ H _ I h) fun v s1 ⟨x,H1,I1,r1,z,e,ha,q⟩=>?_
 subst e
 obtain ⟨t,rfl⟩:=r1
 refine wpAny_pyIter_ascii ha ?_
 refine ⟨s1.heap.objs.size,[s1.heap.objs.size],_,_,H1,rfl,I1.kept (t':=s1.toks) fun b o e=>Heap.get?_push_of_some _ e,jga z t _,⟨_,Heap.get?_push_size _ rfl,rfl,rfl⟩,fun b hb=>?_,q⟩
 obtain rfl:b=s1.heap.objs.size:=by simpa using hb
 exact I1.fpOk (Nat.le_refl _) (I1.hok.fresh (Nat.le_refl _))
noncomputable abbrev TF:=St->Hp->(List Str->Hp->Prop)->Prop
noncomputable def cats (out:Str)(ys:List Str):Str:=ys.foldl (·++·) out
noncomputable def PJ (X:Cx)(vs:List Expr)(t:TF):Prop:=
 ∀ (out:Str) (pins:List (Addr×Obj)) (s:Shared) (σ:St) (H:Hp) (Q:VK),out.length + 10000 * vs.length<=sizeLine->Inv X pins σ H s->t σ H (fun ys H1=>Q (.str (cats out ys)) H1)->wpAny (model X.prog X.w) X.A (joinParts out (evalEach vs X.env)) (EP X pins σ Q) X.xe s
theorem jjT:PJ X [] fun _ H Q=>Q [] H:=fun out pins s σ H Q hl I h=>joinParts_nil ⟨.str out,H,I.tok _,⟨_,rfl⟩,h⟩ (by simpa using hl)
theorem jf1 {out x:Str}{n:Nat}(h:out.length + 10000 * (n + 1)<=sizeLine)(hx:x.length<=10000):(out++x).length + 10000 * n<=sizeLine:=by
 rw [Str.length_append]; omega
theorem jgr {x:Str}{j:Nat}{pos:Pos}{vs:List Expr}{t:TF}(hx:x.length<=10000)(h:PJ X vs t):PJ X (.Constant (.str x) j pos::vs) fun σ H Q=>t σ H fun ys H1=>Q (x::ys) H1:=by
 intro out pins s σ H Q hl I q
 have hc:=jf1 hl hx
 show wpAny _ _ (joinParts out (eval (.Constant (.str x) j pos) X.env::evalEach vs X.env)) _ _ s
 exact joinParts_cons (Calls.Constant_str ⟨by omega,h (out++x) pins _ σ H Q hc (I.tok _) q⟩)
noncomputable def tFV (te:TE)(t:TF):TF:=fun σ H Q=>te σ H fun v H1=>(∃ z,v=.str z/\z.length<=10000/\t σ H1 fun ys H2=>Q (z::ys) H2)\/∃ i:Int,v=.int i/\i.natAbs.log2 < 1920/\t σ H1 fun ys H2=>Q ((toString i:String)::ys) H2
theorem jmb {e:Expr}{pos:Pos}{vs:List Expr}{te:TE}{t:TF}(he:PE X e te)(h:PJ X vs t):PJ X (.FormattedValue e (-1) none pos::vs) (tFV te t):=by
 intro out pins s σ H Q hl I q
 show wpAny _ _ (joinParts out (eval (.FormattedValue e (-1) none pos) X.env::evalEach vs X.env)) _ _ s
 refine joinParts_cons (FormattedValue_plain (thn (he pins s σ H _ I q) fun u s1 ⟨v,H1,I1,r1,q1⟩=>?_))
 rcases q1 with ⟨z,rfl,hz,q1⟩ | ⟨i,rfl,hi,q1⟩
 ·obtain ⟨tk,rfl⟩:=r1
  have hc:=jf1 hl hz
  exact formatField_str (fun t' tk'=>⟨by omega,h (out++z) pins _ σ H1 Q hc (I1.tok _) q1⟩) (Nat.le_trans hz (by decide))
 ·obtain ⟨tk,rfl⟩:=r1
  have hz:(Str.ofString (toString i)).length<=10000:=by
   rw [PySem.ofString_length]
   exact Nat.le_trans (PySem.int_text_length_le (k:=1920) (by decide) hi) (by decide)
  have hc:=jf1 hl hz
  exact formatField_int_small hi ⟨by omega,h (out++Str.ofString (toString i)) pins _ σ H1 Q hc (I1.tok _) q1⟩
noncomputable def tFst (t:TF):TE:=fun σ H Q=>t σ H fun ys H1=>Q (.str (cats Str.empty ys)) H1
theorem jj5 {v w:Expr}{vs:List Expr}{pos:Pos}{t:TF}(h:PJ X (v::w::vs) t)(hn:(v::w::vs).length<=20):PE X (.JoinedStr (v::w::vs) pos) (tFst t):=by
 intro pins s σ H Q I q
 refine JoinedStr_many (h Str.empty pins s σ H Q ?_ I q)
 refine Nat.le_trans (Nat.add_le_add_left (Nat.mul_le_mul_left 10000 hn) _) (by decide)
theorem jex {prog:Program}{w:World}{A:Around}{E:Value->Shared->Prop}{it a:Addr}{its:Array Value}(hne:a≠it):∀ (m i:Nat) (s:Shared) (Q:List Value->Shared->Prop),s.heap.IsListIter it a i->s.heap.IsList a its->i + m<=its.size->
  (∀ h',h'.IsListIter it a (i + m)->Heap.SameBut it s.heap h'->Q ((its.toList.drop i).take m) { s with heap:=h' })->wpAny (model prog w) A (draw (.ref it) m) Q E s
 | 0,i,s,Q,hit,_,_,q=>wpAny_pure (by simpa using q s.heap hit (Heap.SameBut.refl ..))
 | m + 1,i,s,Q,hit,hl,hle,q=>by
  have hi:i < its.size:=by omega
  show wpAny _ _ (pyNext (.ref it) >>= _) Q E s
  refine wpAny_bind (wpAny_pyNext_list_item hit hl (x:=its[i]) (by simp [hi]) fun h1 hit1 sb1=>?_)
  refine wpAny_bind (wpAny_holding (jex hne m (i + 1) _ _ hit1 (hl.extBut sb1.extBut hne) (by omega) fun h2 hit2 sb2=>wpAny_pure ?_))
  have e:its.toList.drop i=its[i]::its.toList.drop (i + 1):=by simp [List.drop_eq_getElem_cons,hi]
  have r:=q h2 (by rw [show i + (m + 1)=i + 1 + m by omega]; exact hit2) (sb1.trans sb2)
  rw [e,List.take_succ_cons] at r
  exact r
noncomputable def gLst (K:PySem.W.Frag)(n:Nat)(t:TGs):TG:=fun v σ H Q=>∃ a xs,v=.ref a/\SqL K H a xs/\xs.length=n/\t xs σ H Q
theorem jjY {es:List Expr}{k n:Nat}{pos:Pos}{t:TGs}(hc:X.calm=true)(h:PGs X es t)
  (hn:(assignEach es X.env).length=n:=by rfl) (hst:(assignEach es X.env).findIdx? (·.1)=none:=by rfl):PG X (.Tuple es k pos) (gLst X.K n t):=by
 intro pins s σ H v u Q I r hw
 obtain ⟨a,xs,rfl,hq,hl,hw⟩:=hw
 cases r
 obtain ⟨its,rv,hp,hz⟩:=I.list hq
 have hL:=hp.isList
 have hlt:a≠s.heap.objs.size:=by obtain ⟨o,ho,_⟩:=hL; exact Nat.ne_of_lt (Heap.lt_size ho)
 have sz:its.toArray.size=n:=by rw [List.size_toArray,<- rv.length]; exact hl
 rw [assign_Tuple]
 refine wpAny_bind (wpAny_standAt ?_)
 unfold unpack
 rw [hn,hst]
 refine wpAny_bind (wpAny_holding ?_)
 unfold unpackItems
 refine wpAny_bind ?_
 unfold notIterableAtAll
 refine wpAny_bind (wpAny_specialOf hL.typeIs slot_list_iter.lookup ?_)
 refine wpAny_pure ?_
 simp only [Bool.false_eq_true,if_false]
 refine wpAny_bind (wpAny_holding (wpAny_pyIter_list hL ?_))
 refine wpAny_bind (wpAny_holding (jex hlt n 0 _ _ ⟨_,Heap.get?_push_size _ rfl,rfl,rfl⟩ (hL.push _) (by omega) fun h1 hit1 sb1=>?_))
 have hall:List.take n (List.drop 0 its.toArray.toList)=its:=by
  rw [List.drop_zero]
  exact List.take_of_length_le (by simp; rw [<- rv.length]; omega)
 rw [hall]
 have hil:its.length=n:=by rw [<- rv.length]; exact hl
 rw [if_neg (by omega)]
 have hL1:h1.IsList a its.toArray:=(hL.push _).extBut sb1.extBut hlt
 refine wpAny_bind (wpAny_holding (wpAny_pyNext_list_end (I.ok.hd hc) hit1 hL1 (by simp; omega) fun h2 eb=>?_))
 simp only [Option.isSome_none,Bool.false_eq_true,if_false]
 refine wpAny_pure ?_
 have I1:Inv X pins σ H { s with heap:=h2 }:=I.kept (t':=s.toks) fun b o e=>eb b o (Nat.ne_of_lt (Heap.lt_size e)) (sb1.extBut b o (Nat.ne_of_lt (Heap.lt_size e)) (Heap.get?_push_of_some _ e))
 exact h pins _ σ H xs _ Q I1 rv hw
end
end L2

namespace Z
open PySem L2
set_option maxHeartbeats 4000000
inductive U where
 | non | bl (b:Bool) | int (i:Int) | str (x:Str) | tup (xs:List U) | loc (a:Addr) | fn (n:Nat) | ty (n:String)
 | exc (c:Nat) (fs:List U) | own (n:Nat) | clo (n:Nat) (cs:List U)
inductive MO where
 | lst (xs:List U) | fro (xs:List U) | dK (kvs:List (Key×U)) | dT (kvs:List (List Key×U)) | frd (o:Obj) (kvs:List (List Key×U))
noncomputable abbrev Gp:=Addr->Option MO
noncomputable def gup (G:Gp)(a:Addr)(o:MO):Gp:=fun b=>if b=a then some o else G b
structure New (G:Gp)(p:Addr)(o:MO)(G':Gp):Prop where
 no:G p=none
 eq:G'=gup G p o
structure Put (G:Gp)(a:Addr)(o:MO)(G':Gp):Prop where
 eq:G'=gup G a o
structure XV where
 c:Nat
 fs:List U
noncomputable abbrev Sg:=List (Option U)
noncomputable abbrev K1:=U->Gp->Prop
noncomputable abbrev KX:=XV->Gp->Prop
noncomputable def newO (G:Gp)(o:MO)(Q:K1):Prop:=∀ p G',New G p o G'->Q (.loc p) G'
noncomputable def putO (G:Gp)(a:Addr)(o:MO)(Q:Gp->Prop):Prop:=∀ G',Put G a o G'->Q G'
theorem newO.at {G:Gp}{o:MO}{Q:K1}(h:newO G o Q):∀ p,G p=none->Q (.loc p) (gup G p o):=fun p hp=>h p _ ⟨hp,rfl⟩
theorem putO.at {G:Gp}{a:Addr}{o:MO}{Q:Gp->Prop}(h:putO G a o Q):Q (gup G a o):=h _ ⟨rfl⟩
structure En where
 nx:Sg->Gp->Prop
 rt:K1
 ex:XV->Sg->Gp->Prop
noncomputable def lsG (G:Gp)(a:Addr):Option (List U):=match G a with
 | some (.lst xs)=>some xs
 | some (.fro xs)=>some xs
 | _=>none
noncomputable def kU:U->Option Key
 | .int i=>some (.inl i)
 | .str x=>some (.inr x)
 | _=>none
noncomputable def kUs:List U->Option (List Key)
 | []=>some []
 | u::r=>match kU u,kUs r with
  | some k,some ks=>some (k::ks)
  | _,_=>none
noncomputable def Ku:Key->U
 | .inl i=>.int i
 | .inr x=>.str x
section
variable {κ α:Type}[DecidableEq κ]
noncomputable def dGet (kvs:List (κ×α))(k:κ):Option α:=(kvs.find? fun kv=>decide (kv.1=k)).map (·.2)
noncomputable def dPut (kvs:List (κ×α))(k:κ)(v:α):List (κ×α):=
 if (kvs.any fun kv=>decide (kv.1=k))=true then kvs.map (fun kv=>if kv.1=k then (kv.1,v) else kv) else kvs++[(k,v)]
noncomputable def jcc (more:List (κ×α)):List (κ×α):=more.foldl (fun acc kv=>dPut acc kv.1 kv.2) []
end
noncomputable def cut {α:Type}(xs:List α)(lo hi:Option Int):List α:=(xs.drop (HT.sIx xs.length 0 lo)).take (HT.sIx xs.length xs.length hi - HT.sIx xs.length 0 lo)
mutual
inductive DU (G:Gp):U->PyData->Prop
 | non:DU G .non .none
 | bl (b:Bool):DU G (.bl b) (.bool b)
 | int (i:Int):DU G (.int i) (.int i)
 | str (x:Str):DU G (.str x) (.str x)
 | tup {us:List U} {ds:List PyData}:DUs G us ds->DU G (.tup us) (.tuple ds)
 | lst {a:Addr} {us:List U} {ds:List PyData}:lsG G a=some us->DUs G us ds->DU G (.loc a) (.list ds)
 | dic {a:Addr}:G a=some (.dK [])->DU G (.loc a) (.dict [])
inductive DUs (G:Gp):List U->List PyData->Prop
 | nil:DUs G [] []
 | cons {u:U} {d:PyData} {us:List U} {ds:List PyData}:DU G u d->DUs G us ds->DUs G (u::us) (d::ds)
end
noncomputable def addU:U->U->Gp->K1->Prop
 | .int i,.int j,G,Q=>Q (.int (i + j)) G
 | .str x,.str y,G,Q=>x.length + y.length<=sizeLine/\Q (.str (x++y)) G
 | .tup xs,.tup ys,G,Q=>xs.length + ys.length<=sizeLine/\Q (.tup (xs++ys)) G
 | .loc a,.loc b,G,Q=>∃ xs ys,G a=some (.lst xs)/\G b=some (.lst ys)/\xs.length + ys.length<=sizeLine/\newO G (.lst (xs++ys)) Q
 | .bl b,.int j,G,Q=>Q (.int ((if b=true then (1:Int) else 0) + j)) G
 | _,_,_,_=>False
noncomputable def subU:U->U->Gp->K1->Prop
 | .int i,.int j,G,Q=>Q (.int (i - j)) G
 | .bl b,.int j,G,Q=>Q (.int ((if b=true then (1:Int) else 0) - j)) G
 | .int i,.bl b,G,Q=>Q (.int (i - if b=true then (1:Int) else 0)) G
 | _,_,_,_=>False
noncomputable def mulU:U->U->Gp->K1->Prop
 | .int i,.int j,G,Q=>CMul i j/\Q (.int (i * j)) G
 | .loc a,.int k,G,Q=>∃ xs,G a=some (.lst xs)/\-(2 ^ 63)<=k/\k < 2 ^ 63/\xs.length * k.toNat<=sizeLine/\newO G (.lst (List.replicate k.toNat xs).flatten) Q
 | .tup xs,.int k,G,Q=>xs≠[]/\1<=k/\k < 2 ^ 62/\xs.length * k.toNat<=sizeLine/\Q (.tup (List.replicate k.toNat xs).flatten) G
 | _,_,_,_=>False
noncomputable def jiZ:U->U->Gp->K1->Prop
 | .int i,.int j,G,Q=>0 < j/\j < 1073741824/\Q (.int (i / j)) G
 | _,_,_,_=>False
noncomputable def modU:U->U->Gp->K1->Prop
 | .int i,.int j,G,Q=>0 < j/\Q (.int (i % j)) G
 | _,_,_,_=>False
noncomputable def powU:U->U->Gp->K1->Prop
 | .int i,.int j,G,Q=>CPow i j/\Q (.int (i ^ j.toNat)) G
 | _,_,_,_=>False
noncomputable def binU:Operator->U->U->Gp->K1->Prop
 | .Add=>addU
 | .Sub=>subU
 | .Mult=>mulU
 | .FloorDiv=>jiZ
 | .Mod=>modU
 | .Pow=>powU
 | _=>fun _ _ _ _=>False
noncomputable def jkL:Operator->U->U->Gp->K1->Prop
 | .Add,.int i,.int j,G,Q=>Q (.int (i + j)) G
 | .Add,.str x,.str y,G,Q=>x.length + y.length<=sizeLine/\Q (.str (x++y)) G
 | .Sub,.int i,.int j,G,Q=>Q (.int (i - j)) G
 | .Mult,.int i,.int j,G,Q=>CMul i j/\Q (.int (i * j)) G
 | _,_,_,_,_=>False
noncomputable def negU:U->Gp->K1->Prop
 | .int i,G,Q=>Q (.int (-i)) G
 | _,_,_=>False
noncomputable def Small (d:PyData):Prop:=d.canLay0=true/\d.depth<=100
noncomputable def eqU:U->U->Gp->(Bool->Prop)->Prop
 | .non,.non,_,k=>k true
 | .non,.bl _,_,k=>k false
 | .non,.int _,_,k=>k false
 | .non,.str _,_,k=>k false
 | .bl _,.non,_,k=>k false
 | .bl a,.bl b,_,k=>k (decide (a=b))
 | .bl _,.str _,_,k=>k false
 | .int _,.non,_,k=>k false
 | .int i,.int j,_,k=>k (decide (i=j))
 | .int _,.str _,_,k=>k false
 | .str _,.non,_,k=>k false
 | .str _,.bl _,_,k=>k false
 | .str _,.int _,_,k=>k false
 | .str x,.str y,_,k=>k (decide (x=y))
 | x,y,G,k=>∃ d e,DU G x d/\DU G y e/\Small d/\Small e/\k (PyData.eqv d e)
noncomputable def eqQ:U->U->Gp->(Bool->Prop)->Prop
 | .loc a,.str y,G,k=>(∃ kvs,G a=some (.dK kvs)/\k false)\/(∃ xs,G a=some (.lst xs)/\k false)\/eqU (.loc a) (.str y) G k
 | .tup xs,.tup [],_,k=>k xs.isEmpty
 | .tup _,.str _,_,k=>k false
 | x,y,G,k=>eqU x y G k
noncomputable def isU:U->U->(Bool->Prop)->Prop
 | .non,.non,k=>k true
 | .bl a,.bl b,k=>k (decide (a=b))
 | .non,.bl _,k | .non,.int _,k | .non,.str _,k | .non,.tup _,k | .non,.loc _,k=>k false
 | .bl _,.non,k | .int _,.non,k | .str _,.non,k | .tup _,.non,k | .loc _,.non,k=>k false
 | .int _,.bl _,k | .str _,.bl _,k | .tup _,.bl _,k | .loc _,.bl _,k=>k false
 | _,_,_=>False
noncomputable def flat:U->Bool
 | .non | .bl _ | .int _ | .str _=>true
 | _=>false
noncomputable def eqF:U->U->Bool
 | .non,.non=>true
 | .bl a,.bl b=>a == b
 | .bl a,.int b=>(if a then 1 else 0) == b
 | .int a,.bl b=>a == (if b then 1 else 0)
 | .int a,.int b=>a == b
 | .str a,.str b=>a == b
 | _,_=>false
noncomputable def inU : U -> U -> Gp -> (Bool -> Prop) -> Prop
  | .str x, .str y, _, k => k (!(Builtin.Str.occurrences y x 0 y.length 1).isEmpty)
  | x, .tup ys, _, k => flat x = true /\ ys.all flat = true /\ k (ys.any fun y => eqF y x)
  | x, .loc a, G, k => match G a with
    | some (.lst ys) => (flat x = true /\ ys.all flat = true /\ k (ys.any fun y => eqF y x)) \/
        ∃ d ds, DU G x d /\ DUs G ys ds /\ Small d /\ (∀ e ∈ ds, Small e) /\ k (ds.any fun e => PyData.eqv e d)
    | some (.fro ys) => flat x = true /\ ys.all flat = true /\ k (ys.any fun y => eqF y x)
    | some (.dK kvs) => match kU x with
      | some y => k (dGet kvs y).isSome
      | none => False
    | some (.dT kvs) => match x with
      | .tup xs => match kUs xs with
        | some y => k (dGet kvs y).isSome
        | none => False
      | _ => False
    | _ => False
  | _, _, _, _ => False
noncomputable def ordU:CmpOp->U->U->(Bool->Prop)->Prop
 | .Lt,.int i,.int j,k=>k (decide (i < j))
 | .LtE,.int i,.int j,k=>k (decide (i<=j))
 | .LtE,.str x,.str y,k=>k (!decide (y.cps.toList < x.cps.toList))
 | .Gt,.int i,.int j,k=>k (decide (j < i))
 | _,_,_,_=>False
noncomputable def cmpU:CmpOp->U->U->Gp->(Bool->Prop)->Prop
 | .Eq,x,y,G,k=>eqQ x y G k
 | .NotEq,x,y,G,k=>eqU x y G fun b=>k (!b)
 | .Is,x,y,_,k=>isU x y k
 | .IsNot,x,y,_,k=>isU x y fun b=>k (!b)
 | .In,x,y,G,k=>inU x y G k
 | .NotIn,x,y,G,k=>inU x y G fun b=>k (!b)
 | o,x,y,_,k=>ordU o x y k
noncomputable def truU:U->Gp->(Bool->Prop)->Prop
 | .non,_,k=>k false
 | .bl b,_,k=>k b
 | .int i,_,k=>k (i != 0)
 | .str x,_,k=>x.length<=sizeLine/\k ((x.length:Int) != 0)
 | .tup xs,_,k=>k (!xs.isEmpty)
 | .loc a,G,k=>match G a with
  | some (.lst xs)=>k (!xs.isEmpty)
  | some (.fro xs)=>k (!xs.isEmpty)
  | some (.dK kvs)=>k (!kvs.isEmpty)
  | _=>False
 | _,_,_=>False
noncomputable def ixU:U->U->Gp->K1->Prop
 | .tup xs,.int i,G,Q=>match atI xs i with
  | some u=>Q u G
  | none=>False
 | .str x,.int i,G,Q=>x.length<=sizeLine/\match atI x.cps.toList i with
  | some c=>Q (.str ⟨#[c]⟩) G
  | none=>False
 | .loc a,y,G,Q=>match G a with
  | some (.lst xs)=>(match y with | .int i=>(match atI xs i with | some u=>Q u G | none=>False) | _=>False)
  | some (.fro xs)=>(match y with | .int i=>(match atI xs i with | some u=>Q u G | none=>False) | _=>False)
  | some (.dK kvs)=>(match kU y with | some k=>(match dGet kvs k with | some u=>Q u G | none=>False) | none=>False)
  | some (.dT kvs)=>(match y with | .tup ys=>(match kUs ys with | some k=>(match dGet kvs k with | some u=>Q u G | none=>False) | none=>False) | _=>False)
  | _=>False
 | _,_,_,_=>False
noncomputable def slU:U->Option Int->Option Int->Gp->K1->Prop
 | .tup xs,lo,hi,G,Q=>Q (.tup (cut xs lo hi)) G
 | .str x,lo,hi,G,Q=>x.length<=sizeLine/\Q (.str (Txt.slice x lo hi)) G
 | .loc a,lo,hi,G,Q=>match lsG G a with
  | some xs=>newO G (.lst (cut xs lo hi)) Q
  | none=>False
 | _,_,_,_,_=>False
noncomputable def revU:U->U->Gp->K1->Prop
 | .tup xs,.int i,G,Q=>i=-1/\Q (.tup xs.reverse) G
 | .loc a,.int i,G,Q=>match lsG G a with
  | some xs=>(i=1\/i=-1)/\newO G (.lst (if i=1 then xs else xs.reverse)) Q
  | none=>False
 | _,_,_,_=>False
noncomputable def jmr:U->U->Gp->K1->Prop
 | .loc a,.int i,G,Q=>(match G a with
  | some (.lst xs)=>0<=i/\(match xs[i.toNat]? with | some u=>Q u G | none=>False)
  | _=>False)
 | _,_,_,_=>False
noncomputable def setU:U->U->U->Gp->(Gp->Prop)->Prop
 | .loc a,y,v,G,Q=>match G a with
  | some (.lst xs)=>(match y with | .int i=>(match ixN xs.length i with | some j=>putO G a (.lst (xs.set j v)) Q | none=>False) | _=>False)
  | some (.dK kvs)=>(match kU y with | some k=>kvs.length < sizeLine/\putO G a (.dK (dPut kvs k v)) Q | none=>False)
  | some (.dT kvs)=>(match y with | .tup ys=>(match kUs ys with | some k=>kvs.length < sizeLine/\putO G a (.dT (dPut kvs k v)) Q | none=>False) | _=>False)
  | _=>False
 | _,_,_,_,_=>False
inductive Blt | len | repr | min | max | sum | all | any | sorted | int | str | isi
 deriving DecidableEq
inductive Mth | append | extend | insert | pop | reverse | index | join | get | split
 deriving DecidableEq
noncomputable def jkJ:List U->Option (List Int)
 | []=>some []
 | .int i::r=>(match jkJ r with | some l=>some (i::l) | none=>none)
 | _=>none
noncomputable def jbz:List U->Option (List Str)
 | []=>some []
 | .str x::r=>(match jbz r with | some l=>some (x::l) | none=>none)
 | _=>none
noncomputable def jby:List U->Option (List Bool)
 | []=>some []
 | .bl x::r=>(match jby r with | some l=>some (x::l) | none=>none)
 | _=>none
noncomputable def tyN:U->Gp->Option String
 | .non,_=>some "NoneType"
 | .bl _,_=>some "bool"
 | .int _,_=>some "int"
 | .str _,_=>some "str"
 | .tup _,_=>some "tuple"
 | .loc a,G=>match G a with
  | some (.lst _)=>some "list"
  | some (.dK _)=>some "dict"
  | some (.dT _)=>some "dict"
  | _=>none
 | _,_=>none
noncomputable def isiU (x:U)(G:Gp)(t:String):Option Bool:=match tyN x G with
 | some n=>if t∈["bool", "int", "str", "list", "tuple", "dict"] then some (n == t || (n == "bool" && t == "int")) else none
 | none=>none
noncomputable def lenU:List U->Gp->K1->Prop
 | [.tup xs],G,Q=>Q (.int xs.length) G
 | [.str x],G,Q=>x.length<=sizeLine/\Q (.int x.length) G
 | [.loc a],G,Q=>(match G a with
  | some (.lst xs)=>Q (.int xs.length) G
  | some (.fro xs)=>Q (.int xs.length) G
  | some (.dK kvs)=>Q (.int kvs.length) G
  | _=>False)
 | _,_,_=>False
noncomputable def jdN:List U->Gp->K1->Prop
 | [u],G,Q=>∃ d,DU G u d/\Fits 16000000 60 d/\Q (.str d.shown) G
 | _,_,_=>False
noncomputable def minU:List U->Gp->K1->Prop
 | [.int i,.int j],G,Q=>Q (.int (if j < i then j else i)) G
 | _,_,_=>False
noncomputable def jks (xs:List U)(G:Gp)(Q:K1):Prop:=match jkJ xs with
 | some ns=>ns≠[]/\∀ z∈ns,(∀ y∈ns,y<=z)->Q (.int z) G
 | none=>False
noncomputable def maxU:List U->Gp->K1->Prop
 | [.int i,.int j],G,Q=>Q (.int (if j > i then j else i)) G
 | [.loc a],G,Q=>(match G a with
  | some (.lst xs)=>jks xs G Q
  | _=>False)
 | [.tup xs],G,Q=>jks xs G Q
 | _,_,_=>False
noncomputable def allU:List U->Gp->K1->Prop
 | [.loc a],G,Q=>(match G a with
  | some (.lst xs)=>(match jby xs with | some bs=>Q (.bl (bs.all id)) G | none=>False)
  | _=>False)
 | _,_,_=>False
noncomputable def intU:List U->Gp->K1->Prop
 | [.int i],G,Q=>Q (.int i) G
 | [.bl b],G,Q=>Q (.int (if b then 1 else 0)) G
 | [.str z],G,Q=>∃ n,PySem.intText? z=some n/\z.length<=640/\Q (.int n) G
 | _,_,_=>False
noncomputable def strU:List U->Gp->K1->Prop
 | [.int i],G,Q=>i.natAbs.log2 < 1920/\Q (.str (toString i:String)) G
 | [.bl b],G,Q=>Q (.str (if b=true then ("True" : Str) else "False")) G
 | _,_,_=>False
noncomputable def jdV:List U->Gp->K1->Prop
 | [x,.ty t],G,Q=>(match isiU x G t with | some b=>Q (.bl b) G | none=>False)
 | _,_,_=>False
noncomputable def mkDU:U->Gp->K1->Prop
 | .loc a,G,Q=>(match G a with
  | some (.dK kvs)=>∃ ns:List Int,kvs.map (·.1)=ns.map (fun z=>(Sum.inl z:Key))/\newO G (.lst (ns.map .int)) Q
  | _=>False)
 | _,_,_=>False
noncomputable def jlZ:U->Gp->K1->Prop
 | .tup us,G,Q=>∃ ns:List Int,us=ns.map .int/\ns.length < 64/\∀ ms:List Int,ms.Pairwise (·< ·)->(∀ z,z∈ms↔z∈ns)->newO G (.lst (ms.map .int)) Q
 | _,_,_=>False
noncomputable def jmo:U->Gp->K1->Prop
 | .loc a,G,Q=>(match G a with
  | some (.lst us)=>∃ ks:List (List Int),(us=ks.map (fun k=>U.tup (k.map .int))\/∃ ns:List Int,us=ns.map .int/\ks=ns.map fun n=>[n])/\(us=[]->Q .non G)/\∀ u,us[jkZ ks]?=some u->Q u G
  | _=>False)
 | _,_,_=>False
noncomputable def jmp:U->Gp->K1->Prop
 | .loc a,G,Q=>(match G a with
  | some (.lst us)=>∃ ns:List Int,us=ns.map .int/\(ns=[]->Q (.int 0) G)/\∀ z∈ns,(∀ y∈ns,y<=z)->Q (.int z) G
  | _=>False)
 | _,_,_=>False
noncomputable def bltU:Blt->List U->Gp->K1->Prop
 | .len=>lenU
 | .repr=>jdN
 | .min=>minU
 | .max=>fun _ _ _=>False
 | .sum=>fun _ _ _=>False
 | .all=>allU
 | .any=>fun _ _ _=>False
 | .sorted=>fun _ _ _=>False
 | .int=>intU
 | .str=>strU
 | .isi=>jdV
noncomputable def jd5:U->List U->Gp->K1->Prop
 | .loc a,[v],G,Q=>(match G a with
  | some (.lst xs)=>xs.length < sizeLine/\putO G a (.lst (xs++[v])) (Q .non)
  | _=>False)
 | _,_,_,_=>False
noncomputable def jfM:U->List U->Gp->K1->Prop
 | .tup xs,[.str n],G,Q=>(match jbz xs with | some ys=>n∈ys/\Q (.int (ys.idxOf n)) G | none=>False)
 | .loc a,[.str n],G,Q=>(match G a with
  | some (.lst xs)=>(match jbz xs with | some ys=>n∈ys/\Q (.int (ys.idxOf n)) G | none=>False)
  | _=>False)
 | _,_,_,_=>False
noncomputable def jiI:U->List U->Gp->K1->Prop
 | .str z,[.tup xs],G,Q=>(match jbz xs with | some ys=>z.length<=16/\(ys.map (·.length)).sum + ys.length<=1048576/\Q (.str (Str.join z ys)) G | none=>False)
 | .str z,[.loc a],G,Q=>(match G a with
  | some (.lst xs)=>(match jbz xs with | some ys=>z.length<=16/\(ys.map (·.length)).sum + ys.length<=1048576/\Q (.str (Str.join z ys)) G | none=>False)
  | _=>False)
 | _,_,_,_=>False
noncomputable def jhb:U->List U->Gp->K1->Prop
 | .str z,[.str y],G,Q=>(y.length == 0)=false/\z.length<=sizeLine/\(PySem.Txt.split z y).length<=sizeLine/\newO G (.lst ((PySem.Txt.split z y).map .str)) Q
 | _,_,_,_=>False
noncomputable def jaF:Mth->U->List U->Gp->K1->Prop
 | .append=>jd5
 | .extend=>fun _ _ _ _=>False
 | .insert=>fun _ _ _ _=>False
 | .pop=>fun _ _ _ _=>False
 | .reverse=>fun _ _ _ _=>False
 | .index=>jfM
 | .join=>jiI
 | .get=>fun _ _ _ _=>False
 | .split=>jhb
noncomputable def mtU:Mth->U->Gp->Option (String×String)
 | .append,x,G=>(match x with | .loc a=>(match G a with | some (.lst _)=>some ("list", "list.append") | _=>none) | _=>none)
 | .extend,_,_=>none
 | .insert,_,_=>none
 | .pop,_,_=>none
 | .reverse,_,_=>none
 | .index,x,G=>(match x with | .loc a=>(match G a with | some (.lst _)=>some ("list", "list.index") | _=>none) | .tup _=>some ("tuple", "tuple.index") | _=>none)
 | .join,x,_=>(match x with | .str _=>some ("str", "str.join") | _=>none)
 | .get,_,_=>none
 | .split,x,_=>(match x with | .str _=>some ("str", "str.split") | _=>none)
noncomputable def clsA:List (Str×List Str):=[("PlanError",[]),("NoPaper",["word", "at"]),("TooMany",["word"]),("NoRing",["word"]),("NoText",["row", "word"]),("NoRow",["row"])]
noncomputable def clsN (c:Nat):Str:=(clsA.getD c ("",[])).1
noncomputable def clsF (c:Nat):List Str:=(clsA.getD c ("",[])).2
inductive HL where
 | is1 (c:Nat) | isi (cs:List Nat) | isiV | v (i:Nat)
inductive HA where
 | str (x:Str) | att (f:Str)
inductive HV where
 | cond (k:Bool) (a:Bool×HL) (as:List (Bool×HL)) | one (a:HA) | bl (b:Bool) | tup (as:List HA) | lst (as:List HA)
inductive HS where
 | asg (i:Nat) (e:HV) | ifa (k:Bool) (a:Bool×HL) (as:List (Bool×HL)) (i:Nat) (e:HV)
section
variable (x:XV)
noncomputable def litH (ς:Sg):HL->Option Bool
 | .is1 c=>some (decide (x.c=c))
 | .isi cs=>some (cs.contains x.c)
 | .isiV=>some true
 | .v i=>match ς[i]? with
  | some (some (.bl b))=>some b
  | _=>none
noncomputable def lit1 (ς:Sg)(p:Bool×HL):Option Bool:=match litH x ς p.2 with
 | some b=>some (if p.1=true then !b else b)
 | none=>none
noncomputable def ji5 (ς:Sg)(k:Bool):Bool×HL->List (Bool×HL)->Option Bool
 | a,[]=>lit1 x ς a
 | a,b::r=>match lit1 x ς a with
  | some t=>if t=k then ji5 ς k b r else some t
  | none=>none
noncomputable def atH:HA->Option U
 | .str y=>some (.str y)
 | .att f=>((clsF x.c).zip x.fs).lookup f
noncomputable def atsH:List HA->Option (List U)
 | []=>some []
 | a::r=>match atH x a,atsH r with
  | some u,some us=>some (u::us)
  | _,_=>none
noncomputable def hvH (ς:Sg):HV->Gp->K1->Prop
 | .cond k a as,G,Q=>match ji5 x ς k a as with
  | some b=>Q (.bl b) G
  | none=>False
 | .one a,G,Q=>match atH x a with
  | some u=>Q u G
  | none=>False
 | .bl b,G,Q=>Q (.bl b) G
 | .tup as,G,Q=>match atsH x as with
  | some us=>Q (.tup us) G
  | none=>False
 | .lst as,G,Q=>match atsH x as with
  | some us=>newO G (.lst us) Q
  | none=>False
noncomputable def hsH:List HS->Sg->Gp->(Sg->Gp->Prop)->Prop
 | [],ς,G,k=>k ς G
 | .asg i e::r,ς,G,k=>hvH x ς e G fun u G1=>hsH r (ς.set i (some u)) G1 k
 | .ifa q a as i e::r,ς,G,k=>match ji5 x ς q a as with
  | some true=>hvH x ς e G fun u G1=>hsH r (ς.set i (some u)) G1 k
  | some false=>hsH r ς G k
  | none=>False
end
mutual
inductive E where
 | v (i:Nat) | non | bl (b:Bool) | int (i:Int) | str (x:Str) | g (n:Nat)
 | bin (o:Operator) (a b:E) | neg (a:E) | not (a:E) | bop (k:Bool) (a:E) (es:Es)
 | cmp (o:CmpOp) (a b:E) | cmp2 (o p:CmpOp) (a b c:E) | ife (c a b:E)
 | tup (es:Es) | lst (es:Es) | dic (es:Es) | dicT
 | ix (a b:E) | sl (a:E) (lo hi:Eo) | rev (a st:E)
 | call (n:Nat) (es:Es) | app (i:Nat) (es:Es) | blt (b:Blt) (es:Es) | meth (m:Mth) (o:E) (es:Es)
 | ty (n:String)
 | lc (pick:List (Option Nat)) (t:Tg) (it:It) (ifs:Es) (e:E) | lc2 (pick:List (Option Nat)) (t:Tg) (it:It) (ifs:Es) (t2:Tg) (it2:It) (ifs2:Es) (e:E) | mkL (e:E) | mkT (e:E) | rngL (a:E) | rngT (a:E) | rngL2 (a b:E) | minD (e:E) | maxD (e:E) | mkD (e:E) | sset (e:E) | fst (es:Es)
inductive Eo where
 | no | so (e:E)
inductive Es where
 | nil | cons (e:E) (es:Es)
inductive Tg where
 | n (i:Nat) | t (ts:Tgs)
inductive Tgs where
 | nil | cons (t:Tg) (ts:Tgs)
inductive It where
 | e (e:E) | r1 (e:E) | r2 (a b:E) | enum (e:E) | dk (e:E) | s (e:E)
end
mutual
inductive S where
 | pass | expr (e:E) | asg (t:Tg) (e:E) | asgC (i:Nat) (e:E) | unp (ts:Tgs) (e:E) | setS (o i e:E) | par (is:List Nat) (es:Es) | aug (i:Nat) (o:Operator) (e:E) | augS (o i:E) (p:Operator) (e:E)
 | ite (c:E) (a b:Ss) | fr (t:Tg) (it:It) (b:Ss) | wh (c:E) (b:Ss) | ret (e:E) | retN
 | never | raise (c:Nat) (es:Es) | tr (b:Ss) (c:Nat) (n:Nat) (h:List HS)
inductive Ss where
 | nil | cons (s:S) (ss:Ss)
end
mutual
noncomputable def tgU:Tg->U->Sg->(Sg->Prop)->Prop
 | .n i,u,ς,k=>k (ς.set i (some u))
 | .t ts,u,ς,k=>match u with
  | .tup us=>tgsU ts us ς k
  | _=>False
noncomputable def tgsU:Tgs->List U->Sg->(Sg->Prop)->Prop
 | .nil,us,ς,k=>us=[]/\k ς
 | .cons t ts,us,ς,k=>match us with
  | []=>False
  | u::r=>tgU t u ς fun ς'=>tgsU ts r ς' k
end
noncomputable abbrev Cl:=Nat->List U->Gp->K1->KX->Prop
noncomputable def slot (ς:Sg)(i:Nat)(k:U->Prop):Prop:=match ς[i]? with
 | some (some u)=>k u
 | _=>False
noncomputable def ja9 (pick:List (Option Nat))(ς:Sg):Sg:=pick.map fun o=>o.bind fun j=>(ς[j]?).join
noncomputable def jce (ok:Gp->Prop)(b:U->Gp->(Option U->Gp->Prop)->Prop):List U->List U->Gp->(List U->Gp->Prop)->Prop
 | [],acc,G,k=>ok G/\k acc G
 | x::xs,acc,G,k=>ok G/\b x G fun o G'=>jce ok b xs (match o with | some u=>acc++[u] | none=>acc) G' k
noncomputable def ji6 (ok:Gp->Prop)(b:U->List U->Gp->(List U->Gp->Prop)->Prop):List U->List U->Gp->(List U->Gp->Prop)->Prop
 | [],acc,G,k=>ok G/\k acc G
 | x::xs,acc,G,k=>ok G/\b x acc G fun acc' G'=>ji6 ok b xs acc' G' k
noncomputable def forL (ok:Gp->Prop)(b:U->Sg->Gp->(Sg->Gp->Prop)->Prop):List U->Sg->Gp->(Sg->Gp->Prop)->Prop
 | [],ς,G,k=>ok G/\k ς G
 | x::xs,ς,G,k=>ok G/\b x ς G fun ς' G'=>forL ok b xs ς' G' k
noncomputable def rngU (i:Int)(n:Nat):List U:=(List.range n).map fun k:Nat=>.int (i + k)
noncomputable def ji2:Nat->List U->List U
 | _,[]=>[]
 | n,u::r=>.tup [.int n,u]::ji2 (n + 1) r
noncomputable def itU:U->Gp->(List U->(Gp->Prop)->Prop)->Prop
 | .tup xs,_,k=>k xs fun _=>True
 | .loc a,G,k=>match lsG G a with
  | some xs=>k xs fun G'=>lsG G' a=some xs
  | none=>False
 | _,_,_=>False
noncomputable def enI:U->Gp->(List U->(Gp->Prop)->Prop)->Prop
 | .tup xs,_,k=>k (ji2 0 xs) fun _=>True
 | .loc a,G,k=>match lsG G a with
  | some xs=>k (ji2 0 xs) fun G'=>lsG G' a=some xs
  | none=>False
 | _,_,_=>False
noncomputable def jje:U->Gp->(List U->(Gp->Prop)->Gp->Prop)->Prop
 | .loc a,G,Q=>match G a with
  | some (.dT kvs)=>∀ o G',Put G a (.frd o kvs) G'->Q (kvs.map fun p=>.tup (p.1.map Ku)) (fun G'=>G' a=some (.frd o kvs)) G'
  | _=>False
 | _,_,_=>False
noncomputable def sgU:U->(List U->Prop)->Prop
 | .str z,k=>z.cps.all (·< 128)=true/\k (z.cps.toList.map fun c=>.str ⟨#[c]⟩)
 | _,_=>False
noncomputable def fpU:U->(Str->Prop)->Prop
 | .str z,k=>z.length<=10000/\k z
 | .int i,k=>i.natAbs.log2 < 1920/\k (toString i:String)
 | _,_=>False
noncomputable def unpU (ts:Tgs):U->Gp->Sg->(Sg->Prop)->Prop
 | .loc a,G,ς,k=>match lsG G a with
  | some us=>tgsU ts us ς k
  | none=>False
 | _,_,_,_=>False
noncomputable def glU (gs:List U)(n:Nat)(k:U->Prop):Prop:=match gs[n]? with
 | some u=>k u
 | none=>False
noncomputable abbrev UE:=Sg->Gp->K1->KX->Prop
noncomputable abbrev UT:=Sg->Gp->(Bool->Gp->Prop)->KX->Prop
noncomputable abbrev UA:=Sg->Gp->(List U->Gp->Prop)->KX->Prop
noncomputable def truT (t:UE):UT:=fun ς G Q X=>t ς G (fun x G1=>truU x G1 fun b=>Q b G1) X
noncomputable abbrev tp (t:UE):UE×UT:=(t,truT t)
noncomputable def comb:Bool->UE×UT->UE×UT->UE×UT
 | true,p,q=>(fun ς G Q X=>p.1 ς G (fun x G1=>truU x G1 fun c=>if c=true then q.1 ς G1 Q X else Q x G1) X,fun ς G Q X=>p.2 ς G (fun c G1=>if c=true then q.2 ς G1 Q X else Q false G1) X)
 | false,p,q=>(fun ς G Q X=>p.1 ς G (fun x G1=>truU x G1 fun c=>if c=true then Q x G1 else q.1 ς G1 Q X) X,fun ς G Q X=>p.2 ς G (fun c G1=>if c=true then Q true G1 else q.2 ς G1 Q X) X)
section
variable (gs:List U)(Δ:Cl)
mutual
noncomputable def den : E -> UE × UT
  | .v i => tp fun ς G Q _ => slot ς i fun u => Q u G
  | .non => tp fun _ G Q _ => Q .non G
  | .bl b => tp fun _ G Q _ => Q (.bl b) G
  | .int i => tp fun _ G Q _ => Q (.int i) G
  | .str x => tp fun _ G Q _ => Q (.str x) G
  | .g n => tp fun _ G Q _ => glU gs n fun u => Q u G
  | .bin o a b => tp fun ς G Q X => (den a).1 ς G (fun x G1 => (den b).1 ς G1 (fun y G2 => binU o x y G2 Q) X) X
  | .neg a => tp fun ς G Q X => (den a).1 ς G (fun x G1 => negU x G1 Q) X
  | .not a => (fun ς G Q X => (den a).1 ς G (fun x G1 => truU x G1 fun b => Q (.bl (!b)) G1) X,
      fun ς G Q X => (den a).2 ς G (fun b G1 => Q (!b) G1) X)
  | .bop k a es => denB k (den a) es
  | .cmp o a b => tp fun ς G Q X => (den a).1 ς G (fun x G1 => (den b).1 ς G1 (fun y G2 => cmpU o x y G2 fun c => Q (.bl c) G2) X) X
  | .cmp2 o p a b c => tp fun ς G Q X => (den a).1 ς G (fun x G1 => (den b).1 ς G1 (fun y G2 => cmpU o x y G2 fun t => if t = true then (den c).1 ς G2 (fun z G3 => cmpU p y z G3 fun t' => Q (.bl t') G3) X else Q (.bl false) G2) X) X
  | .ife c a b => (fun ς G Q X => (den c).2 ς G (fun t G1 => if t = true then (den a).1 ς G1 Q X else (den b).1 ς G1 Q X) X,
      fun ς G Q X => (den c).2 ς G (fun t G1 => if t = true then (den a).2 ς G1 Q X else (den b).2 ς G1 Q X) X)
  | .tup es => tp fun ς G Q X => jas es ς G (fun us G1 => us.length <= sizeLine /\ Q (.tup us) G1) X
  | .lst es => tp fun ς G Q X => jas es ς G (fun us G1 => us.length <= sizeLine /\ newO G1 (.lst us) Q) X
  | .dic es => tp fun ς G Q X => denD es ς G (fun kvs G1 => kvs.length <= 15 /\ newO G1 (.dK (jcc kvs)) Q) X
  | .dicT => tp fun _ G Q _ => newO G (.dT []) Q
  | .ix a b => tp fun ς G Q X => (den a).1 ς G (fun x G1 => (den b).1 ς G1 (fun y G2 => ixU x y G2 Q) X) X
  | .sl a lo hi => tp fun ς G Q X => (den a).1 ς G (fun x G1 => denO lo ς G1 (fun l G2 => denO hi ς G2 (fun h G3 => slU x l h G3 Q) X) X) X
  | .rev a b => tp fun ς G Q X => (den a).1 ς G (fun x G1 => (den b).1 ς G1 (fun y G2 => revU x y G2 Q) X) X
  | .call n es => tp fun ς G Q X => jas es ς G (fun us G1 => Δ n us G1 Q X) X
  | .app _ _ => tp fun _ _ _ _ => False
  | .blt b es => tp fun ς G Q X => jas es ς G (fun us G1 => bltU b us G1 Q) X
  | .meth m o es => tp fun ς G Q X => (den o).1 ς G (fun x G1 => match mtU m x G1 with
      | some _ => jas es ς G1 (fun us G2 => jaF m x us G2 Q) X
      | none => False) X
  | .ty n => tp fun _ G Q _ => Q (.ty n) G
  | .lc pick t it ifs e => tp fun ς G Q X => denI it ς G (fun xs ok G1 => xs.length <= sizeLine /\ jce ok (fun x G2 k => tgU t x (ja9 pick ς) fun τ => denC ifs τ G2 (fun b G3 => if b = true then (den e).1 τ G3 (fun u G4 => k (some u) G4) (fun _ _ => False) else k none G3)) xs [] G1
      fun us G5 => newO G5 (.lst us) Q) X
  | .lc2 pick t it ifs t2 it2 ifs2 e => tp fun ς G Q X => denI it ς G (fun xs ok G1 => ji6 ok (fun x acc G2 k => tgU t x (ja9 pick ς) fun τ => denC ifs τ G2 (fun b G3 => if b = true then denI it2 τ G3 (fun ys ok2 G4 => acc.length + ys.length <= sizeLine /\ jce ok2 (fun y G5 k5 => tgU t2 y τ fun τ' => denC ifs2 τ' G5 (fun b2 G6 => if b2 = true then (den e).1 τ' G6 (fun u G7 => k5 (some u) G7) (fun _ _ => False) else k5 none G6)) ys acc G4 k) (fun _ _ => False) else k acc G3)) xs [] G1
      fun us G5 => newO G5 (.lst us) Q) X
  | .sset e => tp fun ς G Q X => (den e).1 ς G (fun x G1 => jlZ x G1 Q) X
  | .fst es => tp fun ς G Q X => denF es ς G (fun zs G1 => Q (.str (L2.cats Str.empty zs)) G1) X
  | .mkD e => tp fun ς G Q X => (den e).1 ς G (fun x G1 => mkDU x G1 Q) X
  | .maxD e => tp fun ς G Q X => (den e).1 ς G (fun x G1 => jmp x G1 Q) X
  | .minD e => tp fun ς G Q X => (den e).1 ς G (fun x G1 => jmo x G1 Q) X
  | .mkL e => tp fun ς G Q X => (den e).1 ς G (fun x G1 => itU x G1 fun xs _ => newO G1 (.lst xs) Q) X
  | .mkT e => tp fun ς G Q X => (den e).1 ς G (fun x G1 => itU x G1 fun xs _ => Q (.tup xs) G1) X
  | .rngL e => tp fun ς G Q X => (den e).1 ς G (fun x G1 => match x with
      | .int j => 0 <= j /\ j <= 1000000 /\ newO G1 (.lst (rngU 0 j.toNat)) Q
      | _ => False) X
  | .rngT e => tp fun ς G Q X => (den e).1 ς G (fun x G1 => match x with
      | .int j => 0 <= j /\ j <= 1000000 /\ Q (.tup (rngU 0 j.toNat)) G1
      | _ => False) X
  | .rngL2 a b => tp fun ς G Q X => (den a).1 ς G (fun x G1 => (den b).1 ς G1 (fun y G2 => match x, y with
      | .int i, .int j => 0 <= i /\ i <= j /\ j <= 1000000000 /\ j - i <= 1000000 /\ newO G2 (.lst (rngU i (j - i).toNat)) Q
      | _, _ => False) X) X
noncomputable def denB (k : Bool)(p : UE × UT) : Es -> UE × UT
  | .nil => p
  | .cons e es => comb k p (denB k (den e) es)
noncomputable def denC : Es -> Sg -> Gp -> (Bool -> Gp -> Prop) -> Prop
  | .nil, _, G, Q => Q true G
  | .cons e es, ς, G, Q => (den e).2 ς G (fun b G1 => if b = true then denC es ς G1 Q else Q false G1) (fun _ _ => False)
noncomputable def denO : Eo -> Sg -> Gp -> (Option Int -> Gp -> Prop) -> KX -> Prop
  | .no, _, G, Q, _ => Q none G
  | .so e, ς, G, Q, X => (den e).1 ς G (fun x G1 => match x with | .int i => Q (some i) G1 | _ => False) X
noncomputable def jas : Es -> Sg -> Gp -> (List U -> Gp -> Prop) -> KX -> Prop
  | .nil, _, G, Q, _ => Q [] G
  | .cons e es, ς, G, Q, X => (den e).1 ς G (fun x G1 => jas es ς G1 (fun xs G2 => Q (x :: xs) G2) X) X
noncomputable def denF : Es -> Sg -> Gp -> (List Str -> Gp -> Prop) -> KX -> Prop
  | .nil, _, G, Q, _ => Q [] G
  | .cons e es, ς, G, Q, X => (den e).1 ς G (fun x G1 => fpU x fun z => denF es ς G1 (fun zs G2 => Q (z :: zs) G2) X) X
noncomputable def denD : Es -> Sg -> Gp -> (List (Key × U) -> Gp -> Prop) -> KX -> Prop
  | .nil, _, G, Q, _ => Q [] G
  | .cons e (.cons f es), ς, G, Q, X => (den e).1 ς G (fun x G1 => (den f).1 ς G1 (fun y G2 => match kU x with
      | some k => denD es ς G2 (fun kvs G3 => Q ((k, y) :: kvs) G3) X
      | none => False) X) X
  | .cons _ .nil, _, _, _, _ => False
noncomputable def denI : It -> Sg -> Gp -> (List U -> (Gp -> Prop) -> Gp -> Prop) -> KX -> Prop
  | .e e, ς, G, Q, X => (den e).1 ς G (fun x G1 => itU x G1 fun xs ok => Q xs ok G1) X
  | .r1 e, ς, G, Q, X => (den e).1 ς G (fun x G1 => match x with
      | .int j => -(2 ^ 62) <= j /\ j < 2 ^ 62 /\ Q (rngU 0 j.toNat) (fun _ => True) G1
      | _ => False) X
  | .r2 a b, ς, G, Q, X => (den a).1 ς G (fun x G1 => (den b).1 ς G1 (fun y G2 => match x, y with
      | .int i, .int j => -(2 ^ 62) <= i /\ i < 2 ^ 62 /\ -(2 ^ 62) <= j /\ j < 2 ^ 62 /\ Q (rngU i (j - i).toNat) (fun _ => True) G2
      | _, _ => False) X) X
  | .enum e, ς, G, Q, X => (den e).1 ς G (fun x G1 => enI x G1 fun xs ok => Q xs ok G1) X
  | .dk e, ς, G, Q, X => (den e).1 ς G (fun x G1 => jje x G1 Q) X
  | .s e, ς, G, Q, X => (den e).1 ς G (fun x G1 => sgU x fun xs => Q xs (fun _ => True) G1) X
end
noncomputable def denE (e:E):UE:=(den gs Δ e).1
noncomputable def denT (e:E):UT:=(den gs Δ e).2
mutual
noncomputable def denS : S -> En -> Sg -> Gp -> Prop
  | .pass, D, ς, G => D.nx ς G
  | .expr e, D, ς, G => denE gs Δ e ς G (fun _ G1 => D.nx ς G1) fun x G1 => D.ex x ς G1
  | .asg t e, D, ς, G => denE gs Δ e ς G (fun u G1 => tgU t u ς fun ς' => D.nx ς' G1) fun x G1 => D.ex x ς G1
  | .asgC i e, D, ς, G => denE gs Δ e ς G (fun u G1 => D.nx (ς.set i (some u)) G1) fun x G1 => D.ex x ς G1
  | .unp ts e, D, ς, G => denE gs Δ e ς G (fun u G1 => unpU ts u G1 ς fun ς' => D.nx ς' G1) fun x G1 => D.ex x ς G1
  | .setS o i e, D, ς, G => denE gs Δ e ς G (fun v G1 => denE gs Δ o ς G1 (fun x G2 => denE gs Δ i ς G2 (fun y G3 => setU x y v G3 fun G4 => D.nx ς G4) fun x G1 => D.ex x ς G1) fun x G1 => D.ex x ς G1) fun x G1 => D.ex x ς G1
  | .par is es, D, ς, G => jas gs Δ es ς G (fun us G1 => us.length = is.length /\ D.nx ((is.zip us).foldl (fun s p => s.set p.1 (some p.2)) ς) G1) fun x G1 => D.ex x ς G1
  | .aug i o e, D, ς, G => slot ς i fun x => denE gs Δ e ς G (fun y G1 => jkL o x y G1 fun z G2 => D.nx (ς.set i (some z)) G2) fun x G1 => D.ex x ς G1
  | .augS o i p e, D, ς, G => denE gs Δ o ς G (fun x G1 => denE gs Δ i ς G1 (fun y G2 => jmr x y G2 fun a G3 => denE gs Δ e ς G3 (fun b G4 => jkL p a b G4 fun z G5 => setU x y z G5 fun G6 => D.nx ς G6) fun x G1 => D.ex x ς G1) fun x G1 => D.ex x ς G1) fun x G1 => D.ex x ς G1
  | .ite c a b, D, ς, G => denT gs Δ c ς G (fun t G1 => if t = true then jaz a D ς G1 else jaz b D ς G1) fun x G1 => D.ex x ς G1
  | .fr t it b, D, ς, G => denI gs Δ it ς G (fun xs ok G1 => forL ok (fun x ς1 G2 k => tgU t x ς1 fun ς2 => jaz b { D with nx := k } ς2 G2) xs ς G1 D.nx) fun x G1 => D.ex x ς G1
  | .wh c b, D, ς, G => ∃ W : Nat -> Sg -> Gp -> Prop, (∃ m, W m ς G) /\ ∀ m ς1 G1, W m ς1 G1 ->
      denT gs Δ c ς1 G1 (fun t G2 => if t = true then jaz b { D with nx := fun ς' G' => ∃ m', m' < m /\ W m' ς' G' } ς1 G2 else D.nx ς1 G2) fun x G1 => D.ex x ς1 G1
  | .ret e, D, ς, G => denE gs Δ e ς G D.rt fun x G1 => D.ex x ς G1
  | .retN, D, _, G => D.rt .non G
  | .never, _, _, _ => False
  | .raise c es, D, ς, G => jas gs Δ es ς G (fun us G1 => us.length = (clsF c).length /\ D.ex ⟨c, us⟩ ς G1) fun x G1 => D.ex x ς G1
  | .tr b c n h, D, ς, G => jaz b { D with ex := fun x ς1 G1 => (c = 0 \/ x.c = c) /\ hsH x h (ς1.set n none) G1 fun ς2 G2 => D.nx (ς2.set n none) G2 } ς G
noncomputable def jaz : Ss -> En -> Sg -> Gp -> Prop
  | .nil, D, ς, G => D.nx ς G
  | .cons s ss, D, ς, G => denS s { D with nx := fun ς' G' => jaz ss D ς' G' } ς G
end
end
structure Fun where
 name:Str
 ps:List Str
 N:List Str
 body:Ss
structure Nst where
 P:Addr
 ff:Nat
 vi:Nat
 fi:Nat
 caps:List Nat
 wi:Nat
 fni:Nat
 least:Int
 wn:Str
 fn:Str
 at':Str
structure Tab where
 funs:List Fun
 gs:List U
 gn:List Str:=[]
 cs:List Nat:=[]
 vf:List Fun:=[]
 ns:List (Nat×Nst):=[]
noncomputable def jad (n:Nat)(us:List U):Sg:=us.map some++List.replicate (n - us.length) none
noncomputable def jaa (T:Tab):Nat->Cl
 | 0,_,_,_,_,_=>False
 | k + 1,n,us,G,Q,X=>match (T.funs++T.vf)[n]? with
  | some d=>us.length=d.ps.length/\jaz T.gs (jaa T k) d.body ⟨fun _ G'=>Q .non G',Q,fun x _ G'=>X x G'⟩ (jad d.N.length us) G
  | none=>False
mutual
noncomputable def RU (K:PySem.W.Frag)(H:Hp):U->V->Prop
 | .non,v=>v=.non
 | .bl b,v=>v=.bl b
 | .int i,v=>v=.int i
 | .str x,v=>v=.str x
 | .tup xs,v=>∃ a vs,v=.ref a/\H a=some (.tup vs)/\RUs K H xs vs
 | .loc a,v=>v=.ref a
 | .fn _,_=>False
 | .ty n,v=>v=.ty n
 | .exc _ _,_=>False
 | .own _,_=>False
 | .clo _ _,_=>False
noncomputable def RUs (K:PySem.W.Frag)(H:Hp):List U->List V->Prop
 | [],vs=>vs=[]
 | u::us,vs=>∃ v vr,vs=v::vr/\RU K H u v/\RUs K H us vr
end
noncomputable def RKs {κ:Type}(K:PySem.W.Frag)(H:Hp):List (κ×U)->List (κ×V)->Prop
 | [],l=>l=[]
 | (k,u)::r,l=>∃ v l',l=(k,v)::l'/\RU K H u v/\RKs K H r l'
noncomputable def MOk (K:PySem.W.Frag)(H:Hp)(a:Addr):MO->Prop
 | .lst us=>∃ vs,H a=some (.lst vs)/\RUs K H us vs
 | .fro us=>∃ o vs,H a=some (.frz o (.lst vs))/\RUs K H us vs
 | .dK kvs=>∃ l,H a=some (.dK l)/\RKs K H kvs l
 | .dT kvs=>∃ l,H a=some (.dT l)/\RKs K H kvs l
 | .frd o kvs=>∃ l,H a=some (.frz o (.dT l))/\RKs K H kvs l
noncomputable def tabs:List (Addr×Pos×Str):=[(72,⟨33,4,36,89⟩,("works_fault" : Str) ++ ".<locals>." ++ "fits"),(79,⟨40,4,47,91⟩,("span_fault" : Str) ++ ".<locals>." ++ "fits")]
noncomputable def jdG (H:Hp):Prop:=∀ t∈tabs,jhD H t.1 t.2.1 t.2.2
structure HR (K:PySem.W.Frag)(H:Hp)(G:Gp):Prop where
 mo:∀ a o,G a=some o->MOk K H a o
 tab:jdG H
instance {K:PySem.W.Frag} {H:Hp} {G:Gp}:CoeFun (HR K H G) fun _=>∀ a o,G a=some o->MOk K H a o:=⟨HR.mo⟩
noncomputable def noTb:HO->Bool
 | .tbl _=>false
 | _=>true
structure Fr (H:Hp)(G:Gp)(H':Hp)(G':Gp):Prop where
 go:∀ a o,H a=some o->G a=none->(nt:noTb o=true:=by rfl)->H' a=some o/\G' a=none
instance {H H':Hp} {G G':Gp}:CoeFun (Fr H G H' G') fun _=>∀ a o,H a=some o->G a=none->(nt:noTb o=true:=by rfl)->H' a=some o/\G' a=none:=⟨@Fr.go H G H' G'⟩
noncomputable def SR (K:PySem.W.Frag)(H:Hp)(ς:Sg)(σ:St):Prop:=ς.length=σ.length/\∀ (i:Nat) (u:U),ς[i]?=some (some u)->∃ v,σ[i]?=some (some v)/\RU K H u v
section
variable {K:PySem.W.Frag}{H H' H1 H2:Hp}{G G' G1 G2:Gp}
theorem Fr.refl (H:Hp)(G:Gp):Fr H G H G:=⟨fun _ _ h g _=>⟨h,g⟩⟩
theorem Fr.trans (a:Fr H G H1 G1)(b:Fr H1 G1 H2 G2):Fr H G H2 G2:=⟨fun c o h g nt=>let ⟨h1,g1⟩:=a c o h g nt; b c o h1 g1 nt⟩
structure TS (H H':Hp):Prop where
 tup:∀ a xs,H a=some (.tup xs)->H' a=some (.tup xs)
 cod:∀ a o,H a=some (frzC o)->H' a=some (frzC o)
instance:CoeFun (TS H H') fun _=>∀ a xs,H a=some (.tup xs)->H' a=some (.tup xs):=⟨TS.tup⟩
theorem TS.trans (a:TS H H1)(b:TS H1 H2):TS H H2:=⟨fun c xs h=>b.tup c xs (a.tup c xs h),fun c o h=>b.cod c o (a.cod c o h)⟩
mutual
theorem RU.ts (t:TS H H'):∀ {u:U} {v:V},RU K H u v->RU K H' u v
 | .non,_,h=>h
 | .bl _,_,h=>h
 | .int _,_,h=>h
 | .str _,_,h=>h
 | .tup xs,_,h=>by
  obtain ⟨a,vs,e,q,r⟩:=h
  exact ⟨a,vs,e,t _ _ q,RUs.ts t r⟩
 | .loc _,_,h=>h
 | .fn _,_,h=>h
 | .ty _,_,h=>h
 | .exc _ _,_,h=>h
 | .own _,_,h=>h
 | .clo _ _,_,h=>h
theorem RUs.ts (t:TS H H'):∀ {us:List U} {vs:List V},RUs K H us vs->RUs K H' us vs
 | [],_,h=>h
 | _::_,_,h=>by
  obtain ⟨v,vr,e,r,rs⟩:=h
  exact ⟨v,vr,e,RU.ts t r,RUs.ts t rs⟩
end
theorem RKs.ts {κ:Type}(t:TS H H'):∀ {kvs:List (κ×U)} {l:List (κ×V)},RKs K H kvs l->RKs K H' kvs l
 | [],_,h=>h
 | (_,_)::_,_,h=>by
  obtain ⟨v,l',e,r,rs⟩:=h
  exact ⟨v,l',e,r.ts t,RKs.ts t rs⟩
theorem SR.ts {ς:Sg}{σ:St}(t:TS H H')(h:SR K H ς σ):SR K H' ς σ:=⟨h.1,fun i u e=>let ⟨v,e1,r⟩:=h.2 i u e; ⟨v,e1,r.ts t⟩⟩
theorem HR.tupNone (h:HR K H G){a:Addr}{xs:List V}(e:H a=some (.tup xs)):G a=none:=by
 cases q:G a with
 | none=>rfl
 | some o=>
  have m:=h a o q
  cases o with
  | lst us=>obtain ⟨_,e2,_⟩:=m; rw [e] at e2; cases e2
  | fro us=>obtain ⟨_,_,e2,_⟩:=m; rw [e] at e2; cases e2
  | dK us=>obtain ⟨_,e2,_⟩:=m; rw [e] at e2; cases e2
  | dT us=>obtain ⟨_,e2,_⟩:=m; rw [e] at e2; cases e2
  | frd _ us=>obtain ⟨_,e2,_⟩:=m; rw [e] at e2; cases e2
theorem HR.codNone (h:HR K H G){a:Addr}{ob:Obj}(e:H a=some (frzC ob)):G a=none:=by
 cases q:G a with
 | none=>rfl
 | some o=>
  have m:=h a o q
  cases o with
  | lst us=>obtain ⟨_,e2,_⟩:=m; rw [e] at e2; cases e2
  | fro us=>obtain ⟨_,_,e2,_⟩:=m; rw [e] at e2; cases e2
  | dK us=>obtain ⟨_,e2,_⟩:=m; rw [e] at e2; cases e2
  | dT us=>obtain ⟨_,e2,_⟩:=m; rw [e] at e2; cases e2
  | frd _ us=>obtain ⟨_,e2,_⟩:=m; rw [e] at e2; cases e2
theorem HR.tblNone (h:HR K H G){a:Addr}{ps:Array Value}(e:H a=some (.tbl ps)):G a=none:=by
 cases q:G a with
 | none=>rfl
 | some o=>
  have m:=h a o q
  cases o with
  | lst us=>obtain ⟨_,e2,_⟩:=m; rw [e] at e2; cases e2
  | fro us=>obtain ⟨_,_,e2,_⟩:=m; rw [e] at e2; cases e2
  | dK us=>obtain ⟨_,e2,_⟩:=m; rw [e] at e2; cases e2
  | dT us=>obtain ⟨_,e2,_⟩:=m; rw [e] at e2; cases e2
  | frd _ us=>obtain ⟨_,e2,_⟩:=m; rw [e] at e2; cases e2
theorem Fr.ts (f:Fr H G H' G')(h:HR K H G):TS H H':=⟨fun a xs e=>(f a _ e (h.tupNone e)).1,fun a o e=>(f a _ e (h.codNone e)).1⟩
theorem jdG.upd (h:jdG H){p:Addr}{o:HO}(h1:∀ ps,H p≠some (.tbl ps))(h2:∀ ob,H p≠some (frzC ob)):jdG (L2.upd H p o):=fun t ht=>by
 rcases h t ht with e | ⟨c,oc,e1,e2,q⟩
 ·exact .inl (by rw [jac (fun z=>h1 _ (z ▸ e))]; exact e)
 ·exact .inr ⟨c,oc,by rw [jac (fun z=>h1 _ (z ▸ e1))]; exact e1,by rw [jac (fun z=>h2 _ (z ▸ e2))]; exact e2,q⟩
theorem jdG.new (h:jdG H){p:Addr}{o:HO}(e:H p=none):jdG (L2.upd H p o):=h.upd (fun ps z=>by rw [e] at z; cases z) fun ob z=>by rw [e] at z; cases z
theorem HR.tabW (h:HR K H G){p:Addr}{o:HO}{mo:MO}(g:G p=some mo):jdG (L2.upd H p o):=h.tab.upd (fun ps z=>by rw [h.tblNone z] at g; cases g) fun ob z=>by rw [h.codNone z] at g; cases g
theorem MOk.there {a:Addr}{o:MO}(m:MOk K H a o):∃ ho,H a=some ho:=by
 cases o with
 | lst _=>obtain ⟨_,e,_⟩:=m; exact ⟨_,e⟩
 | fro _=>obtain ⟨_,_,e,_⟩:=m; exact ⟨_,e⟩
 | dK _=>obtain ⟨_,e,_⟩:=m; exact ⟨_,e⟩
 | dT _=>obtain ⟨_,e,_⟩:=m; exact ⟨_,e⟩
 | frd _ _=>obtain ⟨_,e,_⟩:=m; exact ⟨_,e⟩
theorem MOk.keep {a:Addr}{o:MO}(m:MOk K H a o)(e:H' a=H a)(t:TS H H'):MOk K H' a o:=by
 cases o with
 | lst _=>obtain ⟨vs,q,r⟩:=m; exact ⟨vs,e.trans q,r.ts t⟩
 | fro _=>obtain ⟨ob,vs,q,r⟩:=m; exact ⟨ob,vs,e.trans q,r.ts t⟩
 | dK _=>obtain ⟨l,q,r⟩:=m; exact ⟨l,e.trans q,r.ts t⟩
 | dT _=>obtain ⟨l,q,r⟩:=m; exact ⟨l,e.trans q,r.ts t⟩
 | frd _ _=>obtain ⟨l,q,r⟩:=m; exact ⟨l,e.trans q,r.ts t⟩
theorem HR.nope (h:HR K H G){a:Addr}(e:H a=none):G a=none:=by
 cases q:G a with
 | none=>rfl
 | some o=>
  obtain ⟨_,e2⟩:=(h a o q).there
  rw [e] at e2; cases e2
theorem jap {a:Addr}{o:MO}:gup G a o a=some o:=by unfold gup; rw [if_pos rfl]
theorem jaZ {a b:Addr}{o:MO}(h:b≠a):gup G a o b=G b:=by unfold gup; rw [if_neg h]
theorem TS.new {p:Addr}{o:HO}(e:H p=none):TS H (upd H p o):=⟨fun a xs h=>by rw [jac (jae h e)]; exact h,fun a ob h=>by rw [jac (jae h e)]; exact h⟩
theorem HR.newT (h:HR K H G){p:Addr}{xs:List V}(e:H p=none):HR K (upd H p (.tup xs)) G:=⟨fun a o q=>by
 have m:=h a o q
 obtain ⟨ho,e2⟩:=m.there
 exact m.keep (jac (jae e2 e)) (TS.new e),h.tab.new e⟩
theorem Fr.new {p:Addr}{o:HO}(e:H p=none):Fr H G (upd H p o) G:=⟨fun a ob h g _=>⟨by rw [jac (jae h e)]; exact h,g⟩⟩
theorem HR.newO (h:HR K H G){p:Addr}{o:HO}{mo:MO}(e:H p=none)(m:MOk K (upd H p o) p mo):HR K (upd H p o) (gup G p mo):=⟨fun a ob q=>by
 by_cases z:a=p
 ·subst z
  rw [jap] at q
  cases q
  exact m
 ·rw [jaZ z] at q
  exact (h a ob q).keep (jac z) (TS.new e),h.tab.new e⟩
theorem Fr.newO {p:Addr}{o:HO}{mo:MO}(e:H p=none):Fr H G (upd H p o) (gup G p mo):=⟨fun a ob h g _=>by
 have z:a≠p:=jae h e
 exact ⟨by rw [jac z]; exact h,by rw [jaZ z]; exact g⟩⟩
theorem TS.write (h:HR K H G){p:Addr}{o:HO}{mo:MO}(g:G p=some mo):TS H (upd H p o):=⟨fun a xs e=>by
 have z:a≠p:=fun z=>by subst z; rw [h.tupNone e] at g; cases g
 rw [jac z]; exact e,fun a ob e=>by
 have z:a≠p:=fun z=>by subst z; rw [h.codNone e] at g; cases g
 rw [jac z]; exact e⟩
theorem HR.write (h:HR K H G){p:Addr}{o:HO}{mo mo':MO}(g:G p=some mo)(m:MOk K (upd H p o) p mo'):HR K (upd H p o) (gup G p mo'):=⟨fun a ob q=>by
 by_cases z:a=p
 ·subst z
  rw [jap] at q
  cases q
  exact m
 ·rw [jaZ z] at q
  exact (h a ob q).keep (jac z) (TS.write h g),h.tabW g⟩
theorem Fr.write {p:Addr}{o:HO}{mo mo':MO}(g:G p=some mo):Fr H G (upd H p o) (gup G p mo'):=⟨fun a ob h n _=>by
 have z:a≠p:=fun z=>by subst z; rw [n] at g; cases g
 exact ⟨by rw [jac z]; exact h,by rw [jaZ z]; exact n⟩⟩
theorem RUs.length:∀ {us:List U} {vs:List V},RUs K H us vs->us.length=vs.length
 | [],_,h=>by cases h; rfl
 | _::_,_,h=>by
  obtain ⟨v,vr,rfl,_,rs⟩:=h
  simp [rs.length]
theorem RUs.append:∀ {us ws:List U} {vs xs:List V},RUs K H us vs->RUs K H ws xs->RUs K H (us++ws) (vs++xs)
 | [],_,_,_,h,h'=>by cases h; exact h'
 | _::_,_,_,_,h,h'=>by
  obtain ⟨v,vr,rfl,r,rs⟩:=h
  exact ⟨v,vr++_,rfl,r,rs.append h'⟩
theorem RUs.get:∀ {us:List U} {vs:List V} {i:Nat} {u:U},RUs K H us vs->us[i]?=some u->∃ v,vs[i]?=some v/\RU K H u v
 | [],_,_,_,_,e=>by simp at e
 | _::_,_,0,_,h,e=>by
  obtain ⟨v,vr,rfl,r,_⟩:=h
  simp at e; subst e
  exact ⟨v,rfl,r⟩
 | _::_,_,i + 1,_,h,e=>by
  obtain ⟨v,vr,rfl,_,rs⟩:=h
  obtain ⟨w,h1,h2⟩:=rs.get (i:=i) (by simpa using e)
  exact ⟨w,by simpa using h1,h2⟩
theorem RUs.take:∀ {us:List U} {vs:List V} (n:Nat),RUs K H us vs->RUs K H (us.take n) (vs.take n)
 | _,_,0,_=>rfl
 | [],_,_ + 1,h=>by cases h; rfl
 | _::_,_,n + 1,h=>by
  obtain ⟨v,vr,rfl,r,rs⟩:=h
  exact ⟨v,vr.take n,rfl,r,rs.take n⟩
theorem RUs.drop:∀ {us:List U} {vs:List V} (n:Nat),RUs K H us vs->RUs K H (us.drop n) (vs.drop n)
 | _,_,0,h=>h
 | [],_,_ + 1,h=>by cases h; rfl
 | _::_,_,n + 1,h=>by
  obtain ⟨v,vr,rfl,_,rs⟩:=h
  exact rs.drop n
theorem RUs.set {u:U}{v:V}(r:RU K H u v):∀ {us:List U} {vs:List V} (i:Nat),RUs K H us vs->RUs K H (us.set i u) (vs.set i v)
 | [],_,_,h=>by cases h; rfl
 | _::_,_,0,h=>by
  obtain ⟨w,vr,rfl,_,rs⟩:=h
  exact ⟨v,vr,rfl,r,rs⟩
 | _::_,_,i + 1,h=>by
  obtain ⟨w,vr,rfl,q,rs⟩:=h
  exact ⟨w,vr.set i v,rfl,q,rs.set r i⟩
theorem RUs.reverse:∀ {us:List U} {vs:List V},RUs K H us vs->RUs K H us.reverse vs.reverse
 | [],_,h=>by cases h; rfl
 | _::_,_,h=>by
  obtain ⟨v,vr,rfl,r,rs⟩:=h
  rw [List.reverse_cons,List.reverse_cons]
  exact rs.reverse.append ⟨v,[],rfl,r,rfl⟩
theorem RUs.rep {us:List U}{vs:List V}(h:RUs K H us vs):∀ k:Nat,RUs K H (List.replicate k us).flatten (List.replicate k vs).flatten
 | 0=>rfl
 | k + 1=>by
  rw [List.replicate_succ,List.replicate_succ,List.flatten_cons,List.flatten_cons]
  exact h.append (h.rep k)
theorem RUs.atI {us:List U}{vs:List V}{i:Int}{u:U}(h:RUs K H us vs)(e:atI us i=some u):∃ v,L2.atI vs i=some v/\RU K H u v:=by
 unfold L2.atI at e ⊢
 rw [h.length] at e
 cases q:ixN vs.length i with
 | none=>rw [q] at e; cases e
 | some j=>
  rw [q] at e
  exact h.get e
theorem RUs.cut {us:List U}{vs:List V}(h:RUs K H us vs)(lo hi:Option Int):RUs K H (Z.cut us lo hi) (cutV vs lo hi):=by
 unfold Z.cut cutV
 rw [h.length]
 exact (h.drop _).take _
theorem RUs.isEmpty {us:List U}{vs:List V}(h:RUs K H us vs):us.isEmpty=vs.isEmpty:=by
 cases us with
 | nil=>cases h; rfl
 | cons u us=>obtain ⟨v,vr,rfl,_⟩:=h; rfl
theorem RUs.strs:∀ {us:List U} {vs:List V} {ns:List Str},RUs K H us vs->jbz us=some ns->vs=ns.map V.str
 | [],_,_,h,e=>by cases h; cases e; rfl
 | u::us,_,ns,h,e=>by
  obtain ⟨v,vr,rfl,r,rs⟩:=h
  cases u with
  | str i=>
   cases r
   rw [jbz] at e
   cases q:jbz us with
   | none=>rw [q] at e; cases e
   | some l=>rw [q] at e; cases e; rw [rs.strs q]; rfl
  | _=>cases e
theorem RUs.bools:∀ {us:List U} {vs:List V} {ns:List Bool},RUs K H us vs->jby us=some ns->vs=ns.map V.bl
 | [],_,_,h,e=>by cases h; cases e; rfl
 | u::us,_,ns,h,e=>by
  obtain ⟨v,vr,rfl,r,rs⟩:=h
  cases u with
  | bl i=>
   cases r
   rw [jby] at e
   cases q:jby us with
   | none=>rw [q] at e; cases e
   | some l=>rw [q] at e; cases e; rw [rs.bools q]; rfl
  | _=>cases e
theorem HR.lst (h:HR K H G){a:Addr}{us:List U}(e:G a=some (.lst us)):∃ vs,H a=some (.lst vs)/\RUs K H us vs:=h a _ e
theorem HR.ls (h:HR K H G){a:Addr}{us:List U}(e:lsG G a=some us):∃ vs,SqL K H a vs/\RUs K H us vs:=by
 unfold lsG at e
 split at e
 ·rename_i xs q
  cases e
  obtain ⟨vs,q2,r⟩:=h a _ q
  exact ⟨vs,.inl (.inl q2),r⟩
 ·rename_i xs q
  cases e
  obtain ⟨o,vs,q2,r⟩:=h a _ q
  exact ⟨vs,.inl (.inr ⟨o,q2⟩),r⟩
 ·cases e
theorem HR.rd (h:HR K H G){a:Addr}{us:List U}(e:lsG G a=some us):∃ vs,Rd H a (.lst vs)/\RUs K H us vs:=by
 unfold lsG at e
 split at e
 ·rename_i xs q
  cases e
  obtain ⟨vs,q2,r⟩:=h a _ q
  exact ⟨vs,.inl q2,r⟩
 ·rename_i xs q
  cases e
  obtain ⟨o,vs,q2,r⟩:=h a _ q
  exact ⟨vs,.inr ⟨o,q2⟩,r⟩
 ·cases e
end
mutual
theorem DU.dv {K:PySem.W.Frag}{H:Hp}{G:Gp}(h:HR K H G):∀ {u:U} {d:PyData} {v:V},DU G u d->RU K H u v->DV K H v d
 | _,_,_,.non,r=>by cases r; exact .non
 | _,_,_,.bl b,r=>by cases r; exact .bl b
 | _,_,_,.int i,r=>by cases r; exact .int i
 | _,_,_,.str x,r=>by cases r; exact .str x
 | _,_,_,.tup q,r=>by
  obtain ⟨a,vs,rfl,s,rs⟩:=r
  exact .tup (.of s) (DUs.dv h q rs)
 | _,_,_,.lst e q,r=>by
  cases r
  obtain ⟨vs,s,rs⟩:=h.rd e
  exact .lst s (DUs.dv h q rs)
 | _,_,_,.dic e,r=>by
  cases r
  obtain ⟨l,q,rs⟩:=h _ _ e
  cases rs
  exact .dic q
theorem DUs.dv {K:PySem.W.Frag}{H:Hp}{G:Gp}(h:HR K H G):∀ {us:List U} {ds:List PyData} {vs:List V},DUs G us ds->RUs K H us vs->DVs K H vs ds
 | _,_,_,.nil,r=>by cases r; exact .nil
 | _,_,_,.cons a b,r=>by
  obtain ⟨v,vr,rfl,r1,rs⟩:=r
  exact .cons (DU.dv h a r1) (DUs.dv h b rs)
end
end Z

namespace L2
open PySem
theorem PE.imp {X:Cx}{e:Expr}{t t':TE}(h:PE X e t)(i:∀ σ H Q,t' σ H Q->t σ H Q):PE X e t':=fun pins s σ H Q I q=>h pins s σ H Q I (i σ H Q q)
theorem PT.imp {X:Cx}{e:Expr}{t t':TT}(h:PT X e t)(i:∀ σ H Q,t' σ H Q->t σ H Q):PT X e t':=fun pins s σ H Q I q=>h pins s σ H Q I (i σ H Q q)
theorem PW.imp {X:Cx}{e:Expr}{t t':TT}(h:PW X e t)(i:∀ σ H Q,t' σ H Q->t σ H Q):PW X e t':=fun w pins s σ H Q I q=>h w pins s σ H Q I (i σ H Q q)
theorem PA.imp {X:Cx}{e:List Expr}{t t':TA}(h:PA X e t)(i:∀ σ H Q,t' σ H Q->t σ H Q):PA X e t':=fun pos pins s σ H Q I q=>h pos pins s σ H Q I (i σ H Q q)
theorem PO.imp {X:Cx}{e:Option Expr}{t t':TO}(h:PO X e t)(i:∀ σ H Q,t' σ H Q->t σ H Q):PO X e t':=fun pins s σ H Q I q=>h pins s σ H Q I (i σ H Q q)
theorem PS.imp {X:Cx}{e:Stmt}{t t':L2.TS}(h:PS X e t)(i:∀ D σ H,t' D σ H->t D σ H):PS X e t':=fun pins s σ H D I q=>h pins s σ H D I (i D σ H q)
theorem PSs.imp {X:Cx}{e:List Stmt}{t t':L2.TS}(h:PSs X e t)(i:∀ D σ H,t' D σ H->t D σ H):PSs X e t':=fun pins s σ H D I q=>h pins s σ H D I (i D σ H q)
end L2
namespace Z
open PySem L2
set_option maxHeartbeats 4000000
noncomputable def gK (K:PySem.W.Frag):Str->Option Value:=fun x=>(PySem.W.nsIn K mainGlobals x).join
noncomputable def XD (K:PySem.W.Frag)(H:Hp)(C dx:Addr)(x:XV):Prop:=1<=x.c/\x.c < 6/\XCls K (gK K) (clsN x.c) (clsF x.c) C/\∃ l,H dx=some (.xd l)/\l.map (·.1)=clsF x.c/\RUs K H x.fs (l.map (·.2))
noncomputable def XAt (X:Cx)(H:Hp)(s:Shared)(e:Value)(x:XV):Prop:=∃ ea C dx,e=.ref ea/\Lies X.s₀.heap.objs.size X.pn H s.heap ea (.ref C) (some dx)/\XD X.K H C dx x
section
variable (X:Cx)
noncomputable def LX (σ:St)(H:Hp)(G:Gp)(E:KX):Prop:=∀ (pins:List (Addr×Obj)) (e:Value) (s':Shared) (x:XV) (G':Gp) (H':Hp),Inv X pins σ H' s'->XAt X H' s' e x->HR X.K H' G'->Fr H G H' G'->E x G'->X.xe e s'
noncomputable def LV (H:Hp)(G:Gp)(Q:K1)(Q0:VK):Prop:=∀ w v G' H',RU X.K H' w v->HR X.K H' G'->Fr H G H' G'->Q w G'->Q0 v H'
noncomputable def lE (t:UE):TE:=fun σ H Q0=>∃ ς G Q E,SR X.K H ς σ/\HR X.K H G/\t ς G Q E/\LV X H G Q Q0/\LX X σ H G E
noncomputable def lT (t:UT):TT:=fun σ H Q0=>∃ ς G Q E,SR X.K H ς σ/\HR X.K H G/\t ς G Q E/\(∀ b G' H',HR X.K H' G'->Fr H G H' G'->Q b G'->Q0 b H')/\LX X σ H G E
noncomputable def lA (t:UA):TA:=fun σ H Q0=>∃ ς G Q E,SR X.K H ς σ/\HR X.K H G/\t ς G Q E/\(∀ ws vs G' H',RUs X.K H' ws vs->HR X.K H' G'->Fr H G H' G'->Q ws G'->Q0 vs H')/\LX X σ H G E
noncomputable def lO (t:Sg->Gp->(Option Int->Gp->Prop)->KX->Prop):TO:=fun σ H Q0=>∃ ς G Q E,SR X.K H ς σ/\HR X.K H G/\t ς G Q E/\(∀ o G' H',HR X.K H' G'->Fr H G H' G'->Q o G'->Q0 o H')/\LX X σ H G E
end
section
variable {X:Cx}{σ:St}{H H1 H2:Hp}{G G1 G2:Gp}
theorem LX.fr {E:KX}(h:LX X σ H G E)(f:Fr H G H1 G1):LX X σ H1 G1 E:=fun pins e s' x G' H' I a hr f' q=>h pins e s' x G' H' I a hr (f.trans f') q
theorem LV.fr {Q:K1}{Q0:VK}(h:LV X H G Q Q0)(f:Fr H G H1 G1):LV X H1 G1 Q Q0:=fun w v G' H' r hr f' q=>h w v G' H' r hr (f.trans f') q
theorem LV.here {Q:K1}{Q0:VK}(h:LV X H G Q Q0){w:U}{v:V}(r:RU X.K H w v)(hr:HR X.K H G)(q:Q w G):Q0 v H:=h w v G H r hr (Fr.refl _ _) q
theorem LV.bl {Q:K1}{Q0:VK}(h:LV X H G Q Q0){b:Bool}(hr:HR X.K H G)(q:Q (.bl b) G):Q0 (.bl b) H:=h.here (w:=.bl b) rfl hr q
theorem LV.int {Q:K1}{Q0:VK}(h:LV X H G Q Q0){b:Int}(hr:HR X.K H G)(q:Q (.int b) G):Q0 (.int b) H:=h.here (w:=.int b) rfl hr q
theorem LV.str {Q:K1}{Q0:VK}(h:LV X H G Q Q0){b:Str}(hr:HR X.K H G)(q:Q (.str b) G):Q0 (.str b) H:=h.here (w:=.str b) rfl hr q
theorem LV.tup {Q:K1}{Q0:VK}(h:LV X H G Q Q0){p:Addr}{us:List U}{vs:List V}(e:H p=none)(r:RUs X.K H us vs)(hr:HR X.K H G)(q:Q (.tup us) G):Q0 (.ref p) (upd H p (.tup vs)):=
 h (.tup us) (.ref p) G _ ⟨p,vs,rfl,jah,r.ts (TS.new e)⟩ (hr.newT e) (Fr.new e) q
theorem LV.lst {Q:K1}{Q0:VK}(h:LV X H G Q Q0){p:Addr}{us:List U}{vs:List V}(e:H p=none)(r:RUs X.K H us vs)(hr:HR X.K H G)(q:newO G (.lst us) Q):Q0 (.ref p) (upd H p (.lst vs)):=
 h (.loc p) (.ref p) _ _ rfl (hr.newO (mo:=.lst us) e ⟨vs,jah,r.ts (TS.new e)⟩) (Fr.newO e) (q.at p (hr.nope e))
theorem LV.wl {Q:K1}{Q0:VK}(h:LV X H G Q Q0){p:Addr}{us:List U}{vs:List V}{mo:MO}(g:G p=some mo)(r:RUs X.K H us vs)(hr:HR X.K H G){w:U}{v:V}(rw':RU X.K H w v)(q:putO G p (.lst us) (Q w)):Q0 v (upd H p (.lst vs)):=
 h w v _ _ (rw'.ts (TS.write hr g)) (hr.write (mo':=.lst us) g ⟨vs,jah,r.ts (TS.write hr g)⟩) (Fr.write g) q.at
end
section
variable {X:Cx}{σ:St}{H:Hp}{Q0:VK}{ta tb:UE}
theorem lE.two {R:V->V->Hp->Prop}{k:U->U->Gp->K1->Prop}(h:lE X (fun ς G Q E=>ta ς G (fun x G1=>tb ς G1 (fun y G2=>k x y G2 Q) E) E) σ H Q0)
  (f:∀ x y v v' G H' Q,RU X.K H' x v->RU X.K H' y v'->HR X.K H' G->k x y G Q->LV X H' G Q Q0->R v v' H'):lE X ta σ H fun v H1=>lE X tb σ H1 fun v' H2=>R v v' H2:=by
 obtain ⟨ς,G,Q,E,hς,hG,h,lv,lx⟩:=h
 refine ⟨ς,G,_,E,hς,hG,h,fun x v G1 H1 rx hG1 f1 h1=>?_,lx⟩
 refine ⟨ς,G1,_,E,hς.ts (f1.ts hG),hG1,h1,fun y v' G2 H2 ry hG2 f2 h2=>?_,lx.fr f1⟩
 exact f x y v v' G2 H2 Q (rx.ts (f2.ts hG1)) ry hG2 h2 (lv.fr (f1.trans f2))
theorem lE.one {R:V->Hp->Prop}{k:U->Gp->K1->Prop}(h:lE X (fun ς G Q E=>ta ς G (fun x G1=>k x G1 Q) E) σ H Q0)
  (f:∀ x v G H' Q,RU X.K H' x v->HR X.K H' G->k x G Q->LV X H' G Q Q0->R v H'):lE X ta σ H R:=by
 obtain ⟨ς,G,Q,E,hς,hG,h,lv,lx⟩:=h
 exact ⟨ς,G,_,E,hς,hG,h,fun x v G1 H1 rx hG1 f1 h1=>f x v G1 H1 Q rx hG1 h1 (lv.fr f1),lx⟩
theorem lE.many {ta:UA}{R:List V->Hp->Prop}{k:List U->Gp->K1->Prop}(h:lE X (fun ς G Q E=>ta ς G (fun x G1=>k x G1 Q) E) σ H Q0)
  (f:∀ x v G H' Q,RUs X.K H' x v->HR X.K H' G->k x G Q->LV X H' G Q Q0->R v H'):lA X ta σ H R:=by
 obtain ⟨ς,G,Q,E,hς,hG,h,lv,lx⟩:=h
 exact ⟨ς,G,_,E,hς,hG,h,fun x v G1 H1 rx hG1 f1 h1=>f x v G1 H1 Q rx hG1 h1 (lv.fr f1),lx⟩
end
section
variable {X:Cx}{pos:Pos}
theorem jlx {i:Nat}{x:Str}(hN:X.N[i]?=some x)(hv:Vis X.env.scope x)(hd:(x == ("__debug__" : Str))=false)(hcd:(x == ("__classdict__" : Str))=false):PE X (.Name x pos) (lE X fun ς G Q _=>slot ς i fun u=>Q u G):=by
 refine (jen hN hv hd hcd).imp fun σ H Q0 h=>?_
 obtain ⟨ς,G,Q,E,hς,hG,h,lv,_⟩:=h
 unfold slot at h
 split at h
 ·rename_i u e
  obtain ⟨v,e1,r⟩:=hς.2 i u e
  exact ⟨v,e1,lv.here r hG h⟩
 ·exact h.elim
theorem jbl {e:Expr}{u:U}{v:V}(h:PE X e (tC v))(r:∀ H,RU X.K H u v):PE X e (lE X fun _ G Q _=>Q u G):=
 h.imp fun _ _ _ ⟨_,_,_,_,_,hG,q,lv,_⟩=>lv.here (r _) hG q
end
noncomputable def OpU (X:Cx)(f:Value->Value->Sem Value)(b:U->U->Gp->K1->Prop):Prop:=
 ∃ r:R2,OpR X f r/\∀ x y v v' G H Q Q0,RU X.K H x v->RU X.K H y v'->HR X.K H G->b x y G Q->LV X H G Q Q0->r v v' H Q0
section
variable {X:Cx}{pos:Pos}{a b c:Expr}{ta tb tc:UE}
theorem jlN {o:Operator}{k:U->U->Gp->K1->Prop}(ho:OpU X (binaryOp o) k)(ha:PE X a (lE X ta))(hb:PE X b (lE X tb)) :
  PE X (.BinOp a o b pos) (lE X fun ς G Q E=>ta ς G (fun x G1=>tb ς G1 (fun y G2=>k x y G2 Q) E) E):=by
 obtain ⟨r,h1,h2⟩:=ho
 exact (jmd h1 ha hb).imp fun σ H Q0 h=>lE.two h fun x y v v' G H' Q rx ry hG q lv=>h2 x y v v' G H' Q Q0 rx ry hG q lv
theorem jkd:OpU X (binaryOp .Add) addU:=by
 refine ⟨_,jkp.or (jeN.or ((jiu (X:=X)).or (jko.or jiv))),?_⟩
 intro x y v v' G H Q Q0 rx ry hG h lv
 cases x <;> try exact h.elim
 ·cases y <;> try exact h.elim
  cases rx; cases ry
  exact .inr (.inr (.inr (.inr ⟨_,_,rfl,rfl,lv.int hG h⟩)))
 ·cases y <;> try exact h.elim
  cases rx; cases ry
  exact .inl ⟨_,_,rfl,rfl,lv.int hG h⟩
 ·cases y <;> try exact h.elim
  cases rx; cases ry
  exact .inr (.inl ⟨_,_,rfl,rfl,h.1,lv.str hG h.2⟩)
 ·cases y <;> try exact h.elim
  rename_i xs ys
  obtain ⟨a,vs,rfl,s1,r1⟩:=rx
  obtain ⟨b,ws,rfl,s2,r2⟩:=ry
  obtain ⟨hl,q⟩:=h
  refine .inr (.inr (.inl ⟨a,b,vs,ws,rfl,rfl,.of s1,.of s2,by rw [<- r1.length,<- r2.length]; exact hl,fun z=>?_,fun _ z=>?_,fun _ _ p hp=>?_⟩))
  ·have:xs=[]:=by have:=r1.length; rw [z] at this; simpa using this
   subst this
   exact lv.here (w:=.tup ys) ⟨b,ws,rfl,s2,r2⟩ hG q
  ·have:ys=[]:=by have:=r2.length; rw [z] at this; simpa using this
   subst this
   rw [List.append_nil] at q
   exact lv.here (w:=.tup xs) ⟨a,vs,rfl,s1,r1⟩ hG q
  ·exact lv.tup hp (r1.append r2) hG q
 ·cases y <;> try exact h.elim
  cases rx; cases ry
  obtain ⟨xs,ys,g1,g2,hl,q⟩:=h
  obtain ⟨vs,e1,r1⟩:=hG.lst g1
  obtain ⟨ws,e2,r2⟩:=hG.lst g2
  exact .inr (.inr (.inr (.inl ⟨_,_,vs,ws,rfl,rfl,e1,e2,by rw [<- r1.length,<- r2.length]; exact hl,fun p hp=>lv.lst hp (r1.append r2) hG q⟩)))
theorem jj8:OpU X (binaryOp .Sub) subU:=by
 refine ⟨_,jke.or (jiq (X:=X)),?_⟩
 intro x y v v' G H Q Q0 rx ry hG h lv
 unfold subU at h
 split at h
 ·cases rx; cases ry
  exact .inl ⟨_,_,rfl,rfl,lv.int hG h⟩
 ·cases rx; cases ry
  exact .inr (.inl ⟨_,_,rfl,rfl,lv.int hG h⟩)
 ·cases rx; cases ry
  exact .inr (.inr ⟨_,_,rfl,rfl,lv.int hG h⟩)
 ·exact h.elim
theorem jka:OpU X (binaryOp .Mult) mulU:=by
 refine ⟨_,jki.or (jkf.or (jir (X:=X))),?_⟩
 intro x y v v' G H Q Q0 rx ry hG h lv
 unfold mulU at h
 split at h
 ·cases rx; cases ry
  exact .inl ⟨_,_,rfl,rfl,h.1,lv.int hG h.2⟩
 ·cases rx; cases ry
  obtain ⟨xs,g1,h1,h2,hl,q⟩:=h
  obtain ⟨vs,e1,r1⟩:=hG.lst g1
  exact .inr (.inl ⟨_,_,vs,rfl,rfl,e1,h1,h2,by rw [<- r1.length]; exact hl,fun p hp=>lv.lst hp (r1.rep _) hG q⟩)
 ·rename_i xs k
  obtain ⟨a,vs,rfl,s1,r1⟩:=rx
  cases ry
  obtain ⟨h0,h1,h2,hl,q⟩:=h
  refine .inr (.inr ⟨a,k,vs,rfl,rfl,.of s1,?_,h1,h2,by rw [<- r1.length]; exact hl,fun z=>?_,fun _ p hp=>lv.tup hp (r1.rep _) hG q⟩)
  ·intro z
   subst z
   exact h0 (by have:=r1.length; simpa using this)
  ·subst z
   have e:(List.replicate (Int.toNat 1) xs).flatten=xs:=by simp
   rw [e] at q
   exact lv.here (w:=.tup xs) ⟨a,vs,rfl,s1,r1⟩ hG q
 ·exact h.elim
theorem jip:OpU X (binaryOp .FloorDiv) jiZ:=by
 refine ⟨_,jis,?_⟩
 intro x y v v' G H Q Q0 rx ry hG h lv
 unfold jiZ at h
 split at h
 ·cases rx; cases ry
  exact ⟨_,_,rfl,rfl,⟨h.1,h.2.1⟩,lv.int hG h.2.2⟩
 ·exact h.elim
theorem jkb:OpU X (binaryOp .Mod) modU:=by
 refine ⟨_,jkj,?_⟩
 intro x y v v' G H Q Q0 rx ry hG h lv
 unfold modU at h
 split at h
 ·cases rx; cases ry
  exact ⟨_,_,rfl,rfl,h.1,lv.int hG h.2⟩
 ·exact h.elim
theorem jj9:OpU X (binaryOp .Pow) powU:=by
 refine ⟨_,jkg,?_⟩
 intro x y v v' G H Q Q0 rx ry hG h lv
 unfold powU at h
 split at h
 ·cases rx; cases ry
  exact ⟨_,_,rfl,rfl,h.1,lv.int hG h.2⟩
 ·exact h.elim
theorem jkc (o:Operator):OpU X (binaryOp o) (binU o):=by
 cases o with
 | Add=>exact jkd
 | Sub=>exact jj8
 | Mult=>exact jka
 | FloorDiv=>exact jip
 | Mod=>exact jkb
 | Pow=>exact jj9
 | _=>exact ⟨fun _ _ _ _=>False,fun _ _ _ _ _ _ _ _ _ _ _ _ h=>h.elim,fun _ _ _ _ _ _ _ _ _ _ _ h _=>h⟩
theorem jlE (ha:PE X a (lE X ta)):PE X (.UnaryOp .USub a pos) (lE X fun ς G Q E=>ta ς G (fun x G1=>negU x G1 Q) E):=by
 refine (jmc jjf ha).imp fun σ H Q0 h=>lE.one h fun x v G H' Q rx hG q lv=>?_
 unfold negU at q
 split at q
 ·cases rx
  exact ⟨_,rfl,lv.int hG q⟩
 ·exact q.elim
end
noncomputable def CmU (X:Cx)(o:CmpOp):Prop:=
 ∃ r:R2,OpR X (compareOp o) r/\∀ x y v v' G H (k:Bool->Prop) (Q0:VK),RU X.K H x v->RU X.K H y v'->HR X.K H G->cmpU o x y G k->(∀ c,k c->Q0 (.bl c) H)->r v v' H Q0
section
variable {X:Cx}
noncomputable def rIs (neg:Bool):R2:=fun x y H Q=>((x=.non\/∃ b,x=.bl b)\/(y=.non\/∃ b,y=.bl b))/\Q (.bl (if neg then !decide (x=y) else decide (x=y))) H
theorem jem {x y:V}{v u:Value}(rx:RelV x v)(ry:RelV y u)(h:(x=.non\/∃ b,x=.bl b)\/(y=.non\/∃ b,y=.bl b)):plainIs v u=true/\(v == u)=decide (x=y):=by
 rcases h with (rfl | ⟨b,rfl⟩) | (rfl | ⟨b,rfl⟩)
 ·cases rx
  cases y with
  | non=>cases ry; exact ⟨rfl,by simp⟩
  | bl c=>cases ry; exact ⟨rfl,by simp⟩
  | int _=>obtain ⟨t,rfl⟩:=ry; exact ⟨rfl,by simp⟩
  | str _=>obtain ⟨t,rfl⟩:=ry; exact ⟨rfl,by simp⟩
  | byt _=>obtain ⟨t,rfl⟩:=ry; exact ⟨rfl,by simp⟩
  | flt _=>obtain ⟨t,rfl⟩:=ry; exact ⟨rfl,by simp⟩
  | ref _=>cases ry; exact ⟨rfl,by simp⟩
  | ty _=>cases ry; exact ⟨rfl,by simp⟩
 ·cases rx
  cases y with
  | non=>cases ry; exact ⟨rfl,by simp⟩
  | bl c=>cases ry; exact ⟨rfl,by cases b <;> cases c <;> rfl⟩
  | int _=>obtain ⟨t,rfl⟩:=ry; exact ⟨rfl,by simp⟩
  | str _=>obtain ⟨t,rfl⟩:=ry; exact ⟨rfl,by simp⟩
  | byt _=>obtain ⟨t,rfl⟩:=ry; exact ⟨rfl,by simp⟩
  | flt _=>obtain ⟨t,rfl⟩:=ry; exact ⟨rfl,by simp⟩
  | ref _=>cases ry; exact ⟨rfl,by simp⟩
  | ty _=>cases ry; exact ⟨rfl,by simp⟩
 ·cases ry
  cases x with
  | non=>cases rx; exact ⟨rfl,by simp⟩
  | bl c=>cases rx; exact ⟨rfl,by simp⟩
  | int _=>obtain ⟨t,rfl⟩:=rx; exact ⟨rfl,by simp⟩
  | str _=>obtain ⟨t,rfl⟩:=rx; exact ⟨rfl,by simp⟩
  | byt _=>obtain ⟨t,rfl⟩:=rx; exact ⟨rfl,by simp⟩
  | flt _=>obtain ⟨t,rfl⟩:=rx; exact ⟨rfl,by simp⟩
  | ref _=>cases rx; exact ⟨rfl,by simp⟩
  | ty _=>cases rx; exact ⟨rfl,by simp⟩
 ·cases ry
  cases x with
  | non=>cases rx; exact ⟨rfl,by simp⟩
  | bl c=>cases rx; exact ⟨rfl,by cases b <;> cases c <;> rfl⟩
  | int _=>obtain ⟨t,rfl⟩:=rx; exact ⟨rfl,by simp⟩
  | str _=>obtain ⟨t,rfl⟩:=rx; exact ⟨rfl,by simp⟩
  | byt _=>obtain ⟨t,rfl⟩:=rx; exact ⟨rfl,by simp⟩
  | flt _=>obtain ⟨t,rfl⟩:=rx; exact ⟨rfl,by simp⟩
  | ref _=>cases rx; exact ⟨rfl,by simp⟩
  | ty _=>cases rx; exact ⟨rfl,by simp⟩
theorem jkk:OpR X (compareOp .Is) (rIs false):=by
 intro pins s σ H x y v u Q I rx ry h
 obtain ⟨c,q⟩:=h
 obtain ⟨h1,h2⟩:=jem rx ry c
 refine wpAny_is_plain h1 ⟨.bl _,H,I,?_,q⟩
 rw [h2]; rfl
theorem jfm:OpR X (compareOp .IsNot) (rIs true):=by
 intro pins s σ H x y v u Q I rx ry h
 obtain ⟨c,q⟩:=h
 obtain ⟨h1,h2⟩:=jem rx ry c
 refine wpAny_isNot_plain h1 ⟨.bl _,H,I,?_,q⟩
 rw [h2]; rfl
theorem jhp {K : PySem.W.Frag}{H : Hp}{x y : U}{v v' : V}{k : Bool -> Prop}(rx : RU K H x v)(ry : RU K H y v')(h : isU x y k) : ((v = .non \/ ∃ b, v = .bl b) \/ (v' = .non \/ ∃ b, v' = .bl b)) /\ k (decide (v = v')) := by
  have e : ∀ {a b : V}, a ≠ b -> k false -> k (decide (a = b)) := fun n q => by rw [decide_eq_false n]; exact q
  cases x <;> try exact h.elim
  · cases y
    case non => have h' : k true := h; cases rx; cases ry; exact ⟨.inl (.inl rfl), by simpa using h'⟩
    all_goals first
      | exact h.elim
      | (cases rx; obtain ⟨a, vs, rfl, _⟩ := ry; exact ⟨.inl (.inl rfl), e (fun z => nomatch z) h⟩)
      | (cases rx; cases ry; exact ⟨.inl (.inl rfl), e (fun z => nomatch z) h⟩)
  · cases y <;> first
      | exact h.elim
      | (cases rx; cases ry; exact ⟨.inr (.inl rfl), e (fun z => nomatch z) h⟩)
      | (cases rx; cases ry; rename_i b c; exact ⟨.inl (.inr ⟨_, rfl⟩), by rw [decide_eq_decide.mpr (⟨fun z => V.bl.inj z, fun z => z ▸ rfl⟩ : V.bl b = .bl c ↔ b = c)]; exact h⟩)
  · cases y <;> first
      | exact h.elim
      | (cases rx; cases ry; exact ⟨.inr (.inl rfl), e (fun z => nomatch z) h⟩)
      | (cases rx; cases ry; exact ⟨.inr (.inr ⟨_, rfl⟩), e (fun z => nomatch z) h⟩)
  · cases y <;> first
      | exact h.elim
      | (cases rx; cases ry; exact ⟨.inr (.inl rfl), e (fun z => nomatch z) h⟩)
      | (cases rx; cases ry; exact ⟨.inr (.inr ⟨_, rfl⟩), e (fun z => nomatch z) h⟩)
  · cases y <;> first
      | exact h.elim
      | (cases ry; obtain ⟨a, vs, rfl, _⟩ := rx; exact ⟨.inr (.inl rfl), e (fun z => nomatch z) h⟩)
      | (cases ry; obtain ⟨a, vs, rfl, _⟩ := rx; exact ⟨.inr (.inr ⟨_, rfl⟩), e (fun z => nomatch z) h⟩)
  · cases y <;> first
      | exact h.elim
      | (cases rx; cases ry; exact ⟨.inr (.inl rfl), e (fun z => nomatch z) h⟩)
      | (cases rx; cases ry; exact ⟨.inr (.inr ⟨_, rfl⟩), e (fun z => nomatch z) h⟩)
theorem jhu {H:Hp}{G:Gp}{x y:U}{v v':V}{k:Bool->Prop}(rx:RU X.K H x v)(ry:RU X.K H y v')(hG:HR X.K H G)(h:eqU x y G k) :
  (scal v v'=true/\k (decide (v=v')))\/∃ d e,DV X.K H v d/\DV X.K H v' e/\d.canLay0=true/\e.canLay0=true/\d.depth<=100/\k (PyData.eqv d e):=by
 have g:(∃ d e,DU G x d/\DU G y e/\Small d/\Small e/\k (PyData.eqv d e))->(scal v v'=true/\k (decide (v=v')))\/∃ d e,DV X.K H v d/\DV X.K H v' e/\d.canLay0=true/\e.canLay0=true/\d.depth<=100/\k (PyData.eqv d e):=
  fun ⟨d,e,h1,h2,⟨s1,s2⟩,⟨s3,_⟩,q⟩=>.inr ⟨d,e,h1.dv hG rx,h2.dv hG ry,s1,s3,s2,q⟩
 have e:∀ {p:Prop} [Decidable p],¬p->k false->k (decide p):=fun n q=>by rw [decide_eq_false n]; exact q
 cases x <;> try exact g h
 all_goals
  cases y <;> first
   | exact g h
   | (cases rx; cases ry; exact .inl ⟨rfl,e (fun z=>V.noConfusion z) h⟩)
   | (cases rx; cases ry; exact .inl ⟨rfl,by simp only [V.bl.injEq,V.int.injEq,V.str.injEq]; exact h⟩)
theorem jfb {K:PySem.W.Frag}{H:Hp}{us:List U}{vs:List V}(r:RUs K H us vs):vs.isEmpty=us.isEmpty:=by
 have:=r.length
 cases us <;> cases vs <;> first | rfl | cases this
theorem ji1 {H:Hp}{G:Gp}{x y:U}{v v':V}{k:Bool->Prop}(rx:RU X.K H x v)(ry:RU X.K H y v')(hG:HR X.K H G)(h:eqQ x y G k):eqU x y G k\/(∃ a z kvs,v=.ref a/\v'=.str z/\H a=some (.dK kvs)/\k false)\/(∃ a b xs,v=.ref a/\v'=.ref b/\SqT X.K H a xs/\SqT X.K H b []/\k xs.isEmpty)\/∃ a z xs,v=.ref a/\v'=.str z/\(SqT X.K H a xs\/SqL X.K H a xs)/\k false:=by
 unfold eqQ at h
 split at h
 ·rcases h with ⟨kvs,g,q⟩ | ⟨xs,g,q⟩ | h
  ·cases rx; cases ry
   obtain ⟨l,e,rs⟩:=hG _ _ g
   exact .inr (.inl ⟨_,_,l,rfl,rfl,e,q⟩)
  ·cases rx; cases ry
   obtain ⟨vs,e,rs⟩:=hG.lst g
   exact .inr (.inr (.inr ⟨_,_,vs,rfl,rfl,.inr (.of e),q⟩))
  ·exact .inl h
 ·obtain ⟨a,vs,rfl,s1,r1⟩:=rx
  obtain ⟨b,ws,rfl,s2,r2⟩:=ry
  cases r2
  refine .inr (.inr (.inl ⟨a,b,vs,rfl,rfl,.of s1,.of s2,?_⟩))
  rw [jfb r1]; exact h
 ·obtain ⟨a,vs,rfl,s1,r1⟩:=rx
  cases ry
  exact .inr (.inr (.inr ⟨a,_,vs,rfl,rfl,.inl (.of s1),h⟩))
 ·exact .inl h
theorem jfF {K:PySem.W.Frag}{H:Hp}{x:U}{v:V}{k:Key}(r:RU K H x v)(e:kU x=some k):v=kV k:=by
 cases x with
 | int i=>cases r; cases e; rfl
 | str i=>cases r; cases e; rfl
 | _=>cases e
theorem jer {K:PySem.W.Frag}{H:Hp}:∀ {xs:List U} {vs:List V} {ks:List Key},RUs K H xs vs->kUs xs=some ks->vs=ks.map kV
 | [],_,_,r,e=>by cases r; cases e; rfl
 | x::xs,_,ks,r,e=>by
  obtain ⟨v,vr,rfl,r1,rs⟩:=r
  rw [kUs] at e
  cases h1:kU x with
  | none=>rw [h1] at e; cases e
  | some k=>
   cases h2:kUs xs with
   | none=>rw [h1,h2] at e; cases e
   | some l=>
    rw [h1,h2] at e
    cases e
    rw [jfF r1 h1,jer rs h2]; rfl
theorem jcZ {K:PySem.W.Frag}{H:Hp}{x:U}{v:V}(r:RU K H x v)(e:flat x=true):flatV v=true:=by
 cases x <;> first | (cases r; rfl) | exact absurd (show false=true from e) (by decide)
theorem jbH {K:PySem.W.Frag}{H:Hp}:∀ {xs:List U} {vs:List V},RUs K H xs vs->xs.all flat=true->vs.all flatV=true
 | [],_,r,_=>by cases r; rfl
 | x::xs,_,r,e=>by
  obtain ⟨v,vr,rfl,r1,rs⟩:=r
  rw [List.all_cons,Bool.and_eq_true] at e
  rw [List.all_cons,jcZ r1 e.1,jbH rs e.2]; rfl
theorem jkR {K:PySem.W.Frag}{H:Hp}{x y:U}{v v':V}(r:RU K H x v)(r':RU K H y v')(e:flat x=true)(e':flat y=true):eqV v v'=eqF x y:=by
 cases x <;> first | (exact absurd (show false=true from e) (by decide)) | (cases y <;> first | (exact absurd (show false=true from e') (by decide)) | (cases r; cases r'; rfl))
theorem jeC {K:PySem.W.Frag}{H:Hp}{x:U}{v:V}(r:RU K H x v)(e:flat x=true):∀ {xs:List U} {vs:List V},RUs K H xs vs->xs.all flat=true->inV v vs=xs.any fun y=>eqF y x
 | [],_,rs,_=>by cases rs; rfl
 | y::xs,_,rs,e'=>by
  obtain ⟨v',vr,rfl,r1,rs⟩:=rs
  rw [List.all_cons,Bool.and_eq_true] at e'
  have ih:=jeC r e rs e'.2
  unfold inV at ih ⊢
  rw [List.any_cons,List.any_cons,jkR r1 r e'.1 e,ih]
theorem jcG {κ:Type}[DecidableEq κ]{K:PySem.W.Frag}{H:Hp}(k:κ):∀ {kvs:List (κ×U)} {l:List (κ×V)},RKs K H kvs l->match dGet kvs k with | some u=>∃ v,valV l k=some v/\RU K H u v | none=>valV l k=none
 | [],_,r=>by cases r; exact rfl
 | (k',u)::kvs,_,r=>by
  obtain ⟨v,l',rfl,r1,rs⟩:=r
  by_cases e:k'=k
  ·subst e
   have:dGet ((k',u)::kvs) k'=some u:=by simp [dGet,List.find?_cons]
   rw [this]
   exact ⟨v,jbC rfl,r1⟩
  ·have:dGet ((k',u)::kvs) k=dGet kvs k:=by simp [dGet,List.find?_cons,e]
   rw [this,jbD (p:=(k',v)) e]
   exact jcG k rs
theorem jdq {κ:Type}[DecidableEq κ]{K:PySem.W.Frag}{H:Hp}(k:κ){kvs:List (κ×U)}{l:List (κ×V)}(r:RKs K H kvs l):(valV l k).isSome=(dGet kvs k).isSome:=by
 have:=jcG k r
 cases e:dGet kvs k with
 | none=>rw [e] at this; rw [show valV l k=none from this]; rfl
 | some u=>rw [e] at this; obtain ⟨v,h,_⟩:=this; rw [h]; rfl
noncomputable def rDIn (neg:Bool):R2:=fun x y H Q=>∃ a o,y=.ref a/\DGet H a x o/\Q (.bl (if neg then !o.isSome else o.isSome)) H
theorem jkn (hu:X.A.units + 1 < cLine):OpR X (compareOp .In) (rDIn false):=by
 intro pins s σ H x y v u Q I rx ry h
 obtain ⟨a,o,rfl,g,q⟩:=h
 cases ry
 exact d_in hu I g rx fun s' I'=>⟨.bl o.isSome,H,I',rfl,q⟩
theorem jfp (hu:X.A.units + 1 < cLine):OpR X (compareOp .NotIn) (rDIn true):=by
 intro pins s σ H x y v u Q I rx ry h
 obtain ⟨a,o,rfl,g,q⟩:=h
 cases ry
 exact ji3 hu I g rx fun s' I'=>⟨.bl (!o.isSome),H,I',rfl,q⟩
theorem jhq {H:Hp}{G:Gp}{x y:U}{v v':V}{k:Bool->Prop}(rx:RU X.K H x v)(ry:RU X.K H y v')(hG:HR X.K H G)(h:inU x y G k) :
  (∃ i j,v=.str i/\v'=.str j/\k (!(Builtin.Str.occurrences j i 0 j.length 1).isEmpty))\/(∃ p xs,v'=.ref p/\(SqL X.K H p xs\/SqT X.K H p xs)/\flatV v=true/\xs.all flatV=true/\k (inV v xs))\/
   (∃ a o,v'=.ref a/\DGet H a v o/\k o.isSome)\/∃ (p:Addr) (vs:List V) (d:PyData) (ds:List PyData),v'=.ref p/\SqL X.K H p vs/\DV X.K H v d/\DVs X.K H vs ds/\d.canLay0=true/\d.depth<=100/\(∀ e∈ds,e.canLay0=true)/\k (ds.any fun e=>PyData.eqv e d):=by
 unfold inU at h
 split at h
 ·cases rx; cases ry
  exact .inl ⟨_,_,rfl,rfl,h⟩
 ·obtain ⟨a,vs,rfl,e,rs⟩:=ry
  obtain ⟨f1,f2,q⟩:=h
  exact .inr (.inl ⟨a,vs,rfl,.inr (.of e),jcZ rx f1,jbH rs f2,by rw [jeC rx f1 rs f2]; exact q⟩)
 ·cases ry
  rename_i a
  split at h
  ·rename_i ys g
   obtain ⟨vs,e,rs⟩:=hG.lst g
   rcases h with ⟨f1,f2,q⟩ | ⟨d,ds,hd,hds,sd,sds,q⟩
   ·exact .inr (.inl ⟨a,vs,rfl,.inl (.of e),jcZ rx f1,jbH rs f2,by rw [jeC rx f1 rs f2]; exact q⟩)
   ·exact .inr (.inr (.inr ⟨a,vs,d,ds,rfl,.inl (.of e),hd.dv hG rx,hds.dv hG rs,sd.1,sd.2,fun e he=>(sds e he).1,q⟩))
  ·rename_i ys g
   obtain ⟨ob,vs,e,rs⟩:=hG a _ g
   obtain ⟨f1,f2,q⟩:=h
   exact .inr (.inl ⟨a,vs,rfl,.inl (.inl (.inr ⟨ob,e⟩)),jcZ rx f1,jbH rs f2,by rw [jeC rx f1 rs f2]; exact q⟩)
  ·rename_i kvs g
   obtain ⟨l,e,rs⟩:=hG a _ g
   split at h
   ·rename_i y ek
    have:=jfF rx ek
    subst this
    exact .inr (.inr (.inl ⟨a,_,rfl,DGet.k e,by rw [jdq y rs]; exact h⟩))
   ·exact h.elim
  ·rename_i kvs g
   obtain ⟨l,e,rs⟩:=hG a _ g
   split at h
   ·rename_i xs
    obtain ⟨b,vs,rfl,eb,rb⟩:=rx
    split at h
    ·rename_i y ek
     have:=jer rb ek
     subst this
     exact .inr (.inr (.inl ⟨a,_,rfl,DGet.t e eb,by rw [jdq y rs]; exact h⟩))
    ·exact h.elim
   ·exact h.elim
  ·exact h.elim
 ·exact h.elim
theorem jdR {o:CmpOp}{x y:U}{k:Bool->Prop}(h:ordU o x y k):(∃ i j,x=.int i/\y=.int j)\/(o=.LtE/\∃ i j,x=.str i/\y=.str j):=by
 unfold ordU at h
 split at h <;> first | exact .inl ⟨_,_,rfl,rfl⟩ | exact .inr ⟨rfl,_,_,rfl,rfl⟩ | exact h.elim
theorem jcC {k:Nat}(hr:Room k X.A)(o:CmpOp):CmU X o:=by
 have hu:X.A.units + 1 < cLine:=by have:=hr.un; omega
 cases o with
 | Eq=>
  refine ⟨_,jml.or ((jkm hr).or ((jcQ hr).or ((jeM hr).or (jdf hr)))),fun x y v v' G H k Q0 rx ry hG h q=>?_⟩
  rcases ji1 rx ry hG h with h | ⟨a,z,kvs,h1,h2,h3,h4⟩ | ⟨a,b,xs,h1,h2,h3,h4,h5⟩ | ⟨a,z,xs,h1,h2,h3,h4⟩
  ·rcases jhu rx ry hG h with ⟨h1,h2⟩ | ⟨d,e,h1,h2,h3,h4,h5,h6⟩
   ·exact .inl ⟨h1,q _ h2⟩
   ·exact .inr (.inl ⟨d,e,h1,h2,h3,h4,h5,q _ h6⟩)
  ·exact .inr (.inr (.inl ⟨a,z,kvs,h1,h2,h3,q _ h4⟩))
  ·exact .inr (.inr (.inr (.inl ⟨a,b,xs,h1,h2,h3,h4,q _ h5⟩)))
  ·exact .inr (.inr (.inr (.inr ⟨a,z,xs,h1,h2,h3,q _ h4⟩)))
 | NotEq=>
  refine ⟨_,jmh.or (jkh hr),fun x y v v' G H k Q0 rx ry hG h q=>?_⟩
  rcases jhu rx ry hG h with ⟨h1,h2⟩ | ⟨d,e,h1,h2,h3,h4,h5,h6⟩
  ·exact .inl ⟨h1,q _ h2⟩
  ·exact .inr ⟨d,e,h1,h2,h3,h4,h5,q _ h6⟩
 | Is=>
  refine ⟨_,jkk,fun x y v v' G H k Q0 rx ry hG h q=>?_⟩
  obtain ⟨h1,h2⟩:=jhp rx ry h
  exact ⟨h1,q _ h2⟩
 | IsNot=>
  refine ⟨_,jfm,fun x y v v' G H k Q0 rx ry hG h q=>?_⟩
  obtain ⟨h1,h2⟩:=jhp rx ry h
  exact ⟨h1,q _ h2⟩
 | In=>
  refine ⟨_,jfn.or ((jfo (X:=X)).or ((jkn hu).or (jkl hr))),fun x y v v' G H k Q0 rx ry hG h q=>?_⟩
  rcases jhq rx ry hG h with ⟨i,j,h1,h2,h3⟩ | ⟨p,xs,h1,h2,h3,h4,h5⟩ | ⟨a,o,h1,h2,h3⟩ | ⟨p,vs,d,ds,h1,h2,h3,h4,h5,h6,h7,h8⟩
  ·exact .inl ⟨i,j,h1,h2,q _ h3⟩
  ·exact .inr (.inl ⟨p,xs,h1,h2,h3,h4,q _ h5⟩)
  ·exact .inr (.inr (.inl ⟨a,o,h1,h2,q _ h3⟩))
  ·exact .inr (.inr (.inr ⟨p,vs,d,ds,h1,h2,h3,h4,h5,h6,h7,q _ h8⟩))
 | NotIn=>
  refine ⟨_,jdd.or ((jde (X:=X)).or ((jfp hu).or (jfk hr))),fun x y v v' G H k Q0 rx ry hG h q=>?_⟩
  rcases jhq rx ry hG h with ⟨i,j,h1,h2,h3⟩ | ⟨p,xs,h1,h2,h3,h4,h5⟩ | ⟨a,o,h1,h2,h3⟩ | ⟨p,vs,d,ds,h1,h2,h3,h4,h5,h6,h7,h8⟩
  ·exact .inl ⟨i,j,h1,h2,q _ h3⟩
  ·exact .inr (.inl ⟨p,xs,h1,h2,h3,h4,q _ h5⟩)
  ·exact .inr (.inr (.inl ⟨a,o,h1,h2,q _ h3⟩))
  ·exact .inr (.inr (.inr ⟨p,vs,d,ds,h1,h2,h3,h4,h5,h6,h7,q _ h8⟩))
 | Lt=>
  refine ⟨_,jmi,fun x y v v' G H k Q0 rx ry hG h q=>?_⟩
  obtain ⟨i,j,rfl,rfl⟩ | ⟨z,_⟩:=jdR h
  rotate_left
  ·cases z
  cases rx; cases ry
  exact ⟨_,_,rfl,rfl,q _ h⟩
 | LtE=>
  refine ⟨_,jmj.or jfl,fun x y v v' G H k Q0 rx ry hG h q=>?_⟩
  obtain ⟨i,j,rfl,rfl⟩ | ⟨_,i,j,rfl,rfl⟩:=jdR h
  ·cases rx; cases ry
   exact .inl ⟨_,_,rfl,rfl,q _ h⟩
  ·cases rx; cases ry
   exact .inr ⟨_,_,rfl,rfl,q _ h⟩
 | Gt=>
  refine ⟨_,jmk,fun x y v v' G H k Q0 rx ry hG h q=>?_⟩
  obtain ⟨i,j,rfl,rfl⟩ | ⟨z,_⟩:=jdR h
  rotate_left
  ·cases z
  cases rx; cases ry
  exact ⟨_,_,rfl,rfl,q _ h⟩
 | GtE=>exact ⟨fun _ _ _ _=>False,fun _ _ _ _ _ _ _ _ _ _ _ _ h=>h.elim,fun _ _ _ _ _ _ _ _ _ _ _ h _=>h.elim⟩
variable {pos:Pos}{a b c:Expr}{ta tb tc:UE}{tA tB:UT}
theorem jlL {o:CmpOp}(ho:CmU X o)(ha:PE X a (lE X ta))(hb:PE X b (lE X tb))(hm:behindInMarks o b=false) :
  PE X (.Compare a [o] [b] pos) (lE X fun ς G Q E=>ta ς G (fun x G1=>tb ς G1 (fun y G2=>cmpU o x y G2 fun c=>Q (.bl c) G2) E) E):=by
 obtain ⟨r,h1,h2⟩:=ho
 exact (jim h1 ha hb hm).imp fun σ H Q0 h=>lE.two h fun x y v v' G H' Q rx ry hG q lv=>h2 x y v v' G H' _ Q0 rx ry hG q fun c q=>lv.bl hG q
theorem jjn {o o':CmpOp}(ho:CmU X o)(ho':CmU X o')(ha:PE X a (lE X ta))(hb:PE X b (lE X tb))(hc:PE X c (lE X tc))(hm:lastMarks [o,o'] [b,c]=false) :
  PE X (.Compare a [o,o'] [b,c] pos) (lE X fun ς G Q E=>ta ς G (fun x G1=>tb ς G1 (fun y G2=>cmpU o x y G2 fun t=>if t=true then tc ς G2 (fun z G3=>cmpU o' y z G3 fun t'=>Q (.bl t') G3) E else Q (.bl false) G2) E) E):=by
 obtain ⟨r,h1,h2⟩:=ho
 obtain ⟨r',h1',h2'⟩:=ho'
 refine (jgz h1 h1' ha hb hc hm).imp fun σ H Q0 h=>?_
 obtain ⟨ς,G,Q,E,hς,hG,h,lv,lx⟩:=h
 refine ⟨ς,G,_,E,hς,hG,h,fun x v G1 H1 rx hG1 f1 h1=>?_,lx⟩
 refine ⟨ς,G1,_,E,hς.ts (f1.ts hG),hG1,h1,fun y v' G2 H2 ry hG2 f2 h3=>?_,lx.fr f1⟩
 refine h2 x y v v' G2 H2 _ _ (rx.ts (f2.ts hG1)) ry hG2 h3 fun t q=>⟨t,rfl,?_⟩
 cases t with
 | false=>
  rw [if_neg Bool.false_ne_true] at q ⊢
  exact (lv.fr (f1.trans f2)).bl hG2 q
 | true=>
  rw [if_pos rfl] at q ⊢
  refine ⟨ς,G2,_,E,(hς.ts (f1.ts hG)).ts (f2.ts hG1),hG2,q,fun z v3 G3 H3 rz hG3 f3 h4=>?_,lx.fr (f1.trans f2)⟩
  exact h2' y z v' v3 G3 H3 _ Q0 (ry.ts (f3.ts hG2)) rz hG3 h4 fun c q=>(lv.fr ((f1.trans f2).trans f3)).bl hG3 q
theorem jcJ {H:Hp}{G:Gp}{x:U}{v:V}{k:Bool->Prop}(rx:RU X.K H x v)(hG:HR X.K H G)(h:truU x G k):∃ b,TruV X.K v H b/\k b:=by
 unfold truU at h
 split at h
 ·cases rx; exact ⟨_,rfl,h⟩
 ·cases rx; exact ⟨_,rfl,h⟩
 ·cases rx; exact ⟨_,rfl,h⟩
 ·cases rx; exact ⟨_,⟨h.1,rfl⟩,h.2⟩
 ·obtain ⟨a,vs,rfl,e,rs⟩:=rx
  exact ⟨_,.inr (.inl ⟨vs,.of e,rfl⟩),by rw [<- rs.isEmpty]; exact h⟩
 ·cases rx
  split at h
  ·rename_i g
   obtain ⟨vs,e,rs⟩:=hG.lst g
   exact ⟨_,.inl ⟨vs,.of e,rfl⟩,by rw [<- rs.isEmpty]; exact h⟩
  ·rename_i g
   obtain ⟨ob,vs,e,rs⟩:=hG _ _ g
   exact ⟨_,.inl ⟨vs,.inl (.inr ⟨ob,e⟩),rfl⟩,by rw [<- rs.isEmpty]; exact h⟩
  ·rename_i kvs g
   obtain ⟨l,e,rs⟩:=hG _ _ g
   refine ⟨_,.inr (.inr ⟨l,e,rfl⟩),?_⟩
   cases kvs with
   | nil=>cases rs; exact h
   | cons p r=>obtain ⟨v,l',rfl,_⟩:=rs; exact h
  ·exact h.elim
 ·exact h.elim
theorem jji (ha:PE X a (lE X ta))(he:∀ whole,isTrue a X.env whole=(do let v <- whole; standAt a.pos; holding [v] (truthy v))):PT X a (lT X fun ς G Q E=>ta ς G (fun x G1=>truU x G1 fun b=>Q b G1) E):=by
 refine (jgm ha he).imp fun σ H Q0 h=>?_
 obtain ⟨ς,G,Q,E,hς,hG,h,lv,lx⟩:=h
 refine ⟨ς,G,_,E,hς,hG,h,fun x v G1 H1 rx hG1 f1 h1=>?_,lx⟩
 obtain ⟨b,h2,h3⟩:=jcJ rx hG1 h1
 exact ⟨b,h2,lv b G1 H1 hG1 f1 h3⟩
theorem jjm {o:CmpOp}(ho:CmU X o)(ha:PE X a (lE X ta))(hb:PE X b (lE X tb))(hm:behindInMarks o b=false) :
  PT X (.Compare a [o] [b] pos) (lT X fun ς G Q E=>ta ς G (fun x G1=>tb ς G1 (fun y G2=>cmpU o x y G2 fun c=>truU (.bl c) G2 fun c=>Q c G2) E) E):=by
 obtain ⟨r,h1,h2⟩:=ho
 refine (jh4 h1 ha hb hm).imp fun σ H Q0 h=>?_
 obtain ⟨ς,G,Q,E,hς,hG,h,lv,lx⟩:=h
 refine ⟨ς,G,_,E,hς,hG,h,fun x v G1 H1 rx hG1 f1 h1=>?_,lx⟩
 refine ⟨ς,G1,_,E,hς.ts (f1.ts hG),hG1,h1,fun y v' G2 H2 ry hG2 f2 h3=>?_,lx.fr f1⟩
 exact h2 x y v v' G2 H2 _ _ (rx.ts (f2.ts hG1)) ry hG2 h3 fun t q=>⟨t,rfl,lv t G2 H2 hG2 (f1.trans f2) q⟩
theorem jhM {o o':CmpOp}(ho:CmU X o)(ho':CmU X o')(ha:PE X a (lE X ta))(hb:PE X b (lE X tb))(hc:PE X c (lE X tc))(hm:lastMarks [o,o'] [b,c]=false) :
  PT X (.Compare a [o,o'] [b,c] pos) (lT X fun ς G Q E=>ta ς G (fun x G1=>tb ς G1 (fun y G2=>cmpU o x y G2 fun t=>if t=true then tc ς G2 (fun z G3=>cmpU o' y z G3 fun t'=>truU (.bl t') G3 fun c=>Q c G3) E else truU (.bl false) G2 fun c=>Q c G2) E) E):=by
 obtain ⟨r,h1,h2⟩:=ho
 obtain ⟨r',h1',h2'⟩:=ho'
 refine (jgn h1 h1' ha hb hc hm).imp fun σ H Q0 h=>?_
 obtain ⟨ς,G,Q,E,hς,hG,h,lv,lx⟩:=h
 refine ⟨ς,G,_,E,hς,hG,h,fun x v G1 H1 rx hG1 f1 h1=>?_,lx⟩
 refine ⟨ς,G1,_,E,hς.ts (f1.ts hG),hG1,h1,fun y v' G2 H2 ry hG2 f2 h3=>?_,lx.fr f1⟩
 refine h2 x y v v' G2 H2 _ _ (rx.ts (f2.ts hG1)) ry hG2 h3 fun t q=>⟨t,rfl,?_⟩
 cases t with
 | false=>
  rw [if_neg Bool.false_ne_true] at q ⊢
  exact ⟨false,rfl,lv false G2 H2 hG2 (f1.trans f2) q⟩
 | true=>
  rw [if_pos rfl] at q ⊢
  refine ⟨ς,G2,_,E,(hς.ts (f1.ts hG)).ts (f2.ts hG1),hG2,q,fun z v3 G3 H3 rz hG3 f3 h4=>?_,lx.fr (f1.trans f2)⟩
  exact h2' y z v' v3 G3 H3 _ _ (ry.ts (f3.ts hG2)) rz hG3 h4 fun c q=>⟨c,rfl,lv c G3 H3 hG3 ((f1.trans f2).trans f3) q⟩
theorem jio {rest:List Expr}{sa sb:TE}(ha:PE X a sa)(hb:PE X (.BoolOp .And (b::rest) pos) sb):PE X (.BoolOp .And (a::b::rest) pos) (fun σ H Q=>sa σ H fun x H1=>∃ k,TruV X.K x H1 k/\if k=true then sb σ H1 Q else Q x H1):=by
 intro pins s σ H Q I h
 refine PyProof.Rows.BoolOp_and (thn (ha pins s σ H _ I h) fun v s1 ⟨x,H1,I1,r1,k,hk,q1⟩=>?_)
 refine thn (jec pins s1 σ H1 x v (fun c H2=>c=k/\H2=H1) I1 r1 ⟨k,hk,rfl,rfl⟩) fun c s2 ⟨H2,I2,e1,e2⟩=>?_
 subst e1 e2
 cases c with
 | true=>exact hb pins s2 σ H2 Q I2 q1
 | false=>exact ⟨x,H2,I2,r1,q1⟩
theorem jj1 {rest:List Expr}{sa sb:TE}(ha:PE X a sa)(hb:PE X (.BoolOp .Or (b::rest) pos) sb):PE X (.BoolOp .Or (a::b::rest) pos) (fun σ H Q=>sa σ H fun x H1=>∃ k,TruV X.K x H1 k/\if k=true then Q x H1 else sb σ H1 Q):=by
 intro pins s σ H Q I h
 refine PyProof.Rows.BoolOp_or (thn (ha pins s σ H _ I h) fun v s1 ⟨x,H1,I1,r1,k,hk,q1⟩=>?_)
 refine thn (jec pins s1 σ H1 x v (fun c H2=>c=k/\H2=H1) I1 r1 ⟨k,hk,rfl,rfl⟩) fun c s2 ⟨H2,I2,e1,e2⟩=>?_
 subst e1 e2
 cases c with
 | true=>exact ⟨x,H2,I2,r1,q1⟩
 | false=>exact hb pins s2 σ H2 Q I2 q1
theorem jlP {rest:List Expr}(ha:PE X a (lE X ta))(hb:PE X (.BoolOp .And (b::rest) pos) (lE X tb)):PE X (.BoolOp .And (a::b::rest) pos) (lE X fun ς G Q E=>ta ς G (fun x G1=>truU x G1 fun c=>if c=true then tb ς G1 Q E else Q x G1) E):=by
 refine (jio ha hb).imp fun σ H Q0 h=>?_
 obtain ⟨ς,G,Q,E,hς,hG,h,lv,lx⟩:=h
 refine ⟨ς,G,_,E,hς,hG,h,fun x v G1 H1 rx hG1 f1 h1=>?_,lx⟩
 obtain ⟨k,h2,h3⟩:=jcJ rx hG1 h1
 refine ⟨k,h2,?_⟩
 cases k with
 | true=>rw [if_pos rfl] at h3 ⊢; exact ⟨ς,G1,Q,E,hς.ts (f1.ts hG),hG1,h3,lv.fr f1,lx.fr f1⟩
 | false=>rw [if_neg Bool.false_ne_true] at h3 ⊢; exact (lv.fr f1).here rx hG1 h3
theorem u_or {rest:List Expr}(ha:PE X a (lE X ta))(hb:PE X (.BoolOp .Or (b::rest) pos) (lE X tb)):PE X (.BoolOp .Or (a::b::rest) pos) (lE X fun ς G Q E=>ta ς G (fun x G1=>truU x G1 fun c=>if c=true then Q x G1 else tb ς G1 Q E) E):=by
 refine (jj1 ha hb).imp fun σ H Q0 h=>?_
 obtain ⟨ς,G,Q,E,hς,hG,h,lv,lx⟩:=h
 refine ⟨ς,G,_,E,hς,hG,h,fun x v G1 H1 rx hG1 f1 h1=>?_,lx⟩
 obtain ⟨k,h2,h3⟩:=jcJ rx hG1 h1
 refine ⟨k,h2,?_⟩
 cases k with
 | true=>rw [if_pos rfl] at h3 ⊢; exact (lv.fr f1).here rx hG1 h3
 | false=>rw [if_neg Bool.false_ne_true] at h3 ⊢; exact ⟨ς,G1,Q,E,hς.ts (f1.ts hG),hG1,h3,lv.fr f1,lx.fr f1⟩
theorem jlD (ha:PE X a (lE X ta)):PE X (.UnaryOp .Not a pos) (lE X fun ς G Q E=>ta ς G (fun x G1=>truU x G1 fun b=>Q (.bl (!b)) G1) E):=by
 intro pins s σ H Q0 I h
 obtain ⟨ς,G,Q,E,hς,hG,h,lv,lx⟩:=h
 refine PyProof.Rows.UnaryOp_ (thn (ha pins s σ H (fun v H1=>∃ k,TruV X.K v H1 k/\Q0 (.bl (!k)) H1) I ⟨ς,G,_,E,hς,hG,h,fun x v G1 H1 rx hG1 f1 h1=>?_,lx⟩) fun v s1 ⟨x,H1,I1,r1,k,hk,q1⟩=>?_)
 ·obtain ⟨k,h2,h3⟩:=jcJ rx hG1 h1
  exact ⟨k,h2,(lv.fr f1).bl hG1 h3⟩
 ·refine PyProof.Rows.not_of (thn (jec pins s1 σ H1 x v (fun c H2=>c=k/\H2=H1) I1 r1 ⟨k,hk,rfl,rfl⟩) fun c s2 ⟨H2,I2,e1,e2⟩=>?_)
  subst e1 e2
  exact ⟨.bl (!c),H2,I2,rfl,q1⟩
theorem jjk (hc:PT X c (lT X tA)){tC:UT}(ha:PT X a (lT X tB))(hb:PT X b (lT X tC)):PT X (.IfExp c a b pos) (lT X fun ς G Q E=>tA ς G (fun t G1=>if t=true then tB ς G1 Q E else tC ς G1 Q E) E):=by
 intro pins s σ H Q0 I h
 obtain ⟨ς,G,Q,E,hς,hG,h,lv,lx⟩:=h
 show wpAny _ _ (do if <- isTrue c X.env (eval c X.env) then isTrue a X.env (eval a X.env) else isTrue b X.env (eval b X.env)) _ _ s
 refine wpAny_bind (thn (hc pins s σ H (fun t H1=>∃ G1,HR X.K H1 G1/\Fr H G H1 G1/\if t=true then tB ς G1 Q E else tC ς G1 Q E) I ⟨ς,G,_,E,hς,hG,h,fun t G1 H1 hG1 f1 h1=>⟨G1,hG1,f1,h1⟩,lx⟩) fun t s1 ⟨H1,I1,G1,hG1,f1,h1⟩=>?_)
 cases t with
 | true=>exact ha pins s1 σ H1 Q0 I1 ⟨ς,G1,Q,E,hς.ts (f1.ts hG),hG1,h1,fun b G2 H2 hG2 f2 h2=>lv b G2 H2 hG2 (f1.trans f2) h2,lx.fr f1⟩
 | false=>exact hb pins s1 σ H1 Q0 I1 ⟨ς,G1,Q,E,hς.ts (f1.ts hG),hG1,h1,fun b G2 H2 hG2 f2 h2=>lv b G2 H2 hG2 (f1.trans f2) h2,lx.fr f1⟩
theorem jg4 (ha:PT X a (lT X tA)):PT X (.UnaryOp .Not a pos) (lT X fun ς G Q E=>tA ς G (fun b G1=>Q (!b) G1) E):=by
 refine (jjP ha).imp fun σ H Q0 h=>?_
 obtain ⟨ς,G,Q,E,hς,hG,h,lv,lx⟩:=h
 exact ⟨ς,G,_,E,hς,hG,h,fun b G1 H1 hG1 f1 h1=>lv (!b) G1 H1 hG1 f1 h1,lx⟩
theorem jjp {rest:List Expr}(ha:PT X a (lT X tA))(hb:PW X (.BoolOp .And (b::rest) pos) (lT X tB)):PW X (.BoolOp .And (a::b::rest) pos) (lT X fun ς G Q E=>tA ς G (fun c G1=>if c=true then tB ς G1 Q E else Q false G1) E):=by
 refine (pw_and ha hb).imp fun σ H Q0 h=>?_
 obtain ⟨ς,G,Q,E,hς,hG,h,lv,lx⟩:=h
 refine ⟨ς,G,_,E,hς,hG,h,fun c G1 H1 hG1 f1 h1=>?_,lx⟩
 cases c with
 | false=>rw [if_neg Bool.false_ne_true] at h1 ⊢; exact lv false G1 H1 hG1 f1 h1
 | true=>rw [if_pos rfl] at h1 ⊢; exact ⟨ς,G1,Q,E,hς.ts (f1.ts hG),hG1,h1,fun b G2 H2 hG2 f2 h2=>lv b G2 H2 hG2 (f1.trans f2) h2,lx.fr f1⟩
theorem jlC {rest:List Expr}(ha:PT X a (lT X tA))(hb:PW X (.BoolOp .Or (b::rest) pos) (lT X tB)):PW X (.BoolOp .Or (a::b::rest) pos) (lT X fun ς G Q E=>tA ς G (fun c G1=>if c=true then Q true G1 else tB ς G1 Q E) E):=by
 refine (pw_or ha hb).imp fun σ H Q0 h=>?_
 obtain ⟨ς,G,Q,E,hς,hG,h,lv,lx⟩:=h
 refine ⟨ς,G,_,E,hς,hG,h,fun c G1 H1 hG1 f1 h1=>?_,lx⟩
 cases c with
 | true=>rw [if_pos rfl] at h1 ⊢; exact lv true G1 H1 hG1 f1 h1
 | false=>rw [if_neg Bool.false_ne_true] at h1 ⊢; exact ⟨ς,G1,Q,E,hς.ts (f1.ts hG),hG1,h1,fun b G2 H2 hG2 f2 h2=>lv b G2 H2 hG2 (f1.trans f2) h2,lx.fr f1⟩
theorem jlI (hc:PT X c (lT X tA))(ha:PE X a (lE X ta))(hb:PE X b (lE X tb)):PE X (.IfExp c a b pos) (lE X fun ς G Q E=>tA ς G (fun t G1=>if t=true then ta ς G1 Q E else tb ς G1 Q E) E):=by
 refine (jgx hc ha hb).imp fun σ H Q0 h=>?_
 obtain ⟨ς,G,Q,E,hς,hG,h,lv,lx⟩:=h
 refine ⟨ς,G,_,E,hς,hG,h,fun c G1 H1 hG1 f1 h1=>?_,lx⟩
 cases c with
 | true=>rw [if_pos rfl] at h1 ⊢; exact ⟨ς,G1,Q,E,hς.ts (f1.ts hG),hG1,h1,lv.fr f1,lx.fr f1⟩
 | false=>rw [if_neg Bool.false_ne_true] at h1 ⊢; exact ⟨ς,G1,Q,E,hς.ts (f1.ts hG),hG1,h1,lv.fr f1,lx.fr f1⟩
end
end Z

namespace L2
open PySem PySem.Spec PyProof.Rows
set_option maxHeartbeats 4000000
section
variable {X:Cx}{e st:Expr}{te tst:TE}{pos p2:Pos}
noncomputable def jlS (K:PySem.W.Frag)(te tst:TE):TE:=fun σ H Q=>te σ H fun x H1=>tst σ H1 fun y H2=>(∃ a xs,x=.ref a/\SqL K H2 a xs/\
 ((y=.int 1/\∀ p,H2 p=none->Q (.ref p) (upd H2 p (.lst xs)))\/(y=.int (-1)/\∀ p,H2 p=none->Q (.ref p) (upd H2 p (.lst xs.reverse)))))\/
 ∃ a xs,x=.ref a/\SqT K H2 a xs/\y=.int (-1)/\∀ p,H2 p=none->Q (.ref p) (upd H2 p (.tup xs.reverse))
theorem jij (he:PE X e te)(hs:PE X st tst):PE X (.Subscript e (.Slice none none (some st) p2) pos) (jlS X.K te tst):=by
 intro pins s σ H Q I h
 refine Subscript_ (thn (he pins s σ H _ I h) fun v s1 ⟨x,H1,I1,r1,q1⟩=>?_)
 refine wpAny_Slice ?_
 rw [evalPart_none,evalPart_some]
 refine wpAny_pure (wpAny_pure ?_)
 refine thn (hs pins s1 σ H1 _ I1 q1) fun u s3 ⟨y,H3,I3,r3,q3⟩=>?_
 have I4:Inv X pins σ H3 { s3 with heap:=s3.heap.push { cls:=.type "slice",data:=.fields #[.none,.none,u] } }:=I3.kept (t':=s3.toks) fun b ob q=>Heap.get?_push_of_some _ q
 rcases q3 with ⟨a,xs,rfl,hx,q3⟩ | ⟨a,xs,rfl,hx,rfl,q⟩
 ·cases r1
  obtain ⟨its,r,ht,hz⟩:=I4.list hx
  have hlen:=r.length
  show wpAny (model X.prog X.w) X.A (subscriptTail e (.Slice none none (some st) p2) (.ref a) (.ref s3.heap.objs.size)) (EP X pins σ Q) X.xe { s3 with heap:=s3.heap.push { cls:=.type "slice",data:=.fields #[.none,.none,u] } }
  refine tail_any (ops:=[.ref a,.ref s3.heap.objs.size]) ht.isList.typeIs slot_list_getitem.lookup ?_ (by with_unfolding_all rfl)
  rcases q3 with ⟨rfl,q⟩ | ⟨rfl,q⟩
  ·obtain ⟨t,rfl⟩:=r3
   refine wpAny_getItem_list_slice ht.isList (Heap.IsSliceOf.new ..) .none .none (.int 1 t) (by decide) ?_ (by rw [List.size_toArray] <;> omega)
   rw [jgX]
   refine ⟨.ref _,_,I4.laid (t':=s3.toks) (o:=.lst xs) (fun b ob q=>Heap.get?_push_of_some _ q) (Nat.le_refl _) ?_,rfl,q _ (I4.hok.fresh (Nat.le_refl _))⟩
   exact ⟨hz,_,0,r,Heap.get?_push_size _ rfl⟩
  ·obtain ⟨t,rfl⟩:=r3
   refine wpAny_getItem_list_slice ht.isList (Heap.IsSliceOf.new ..) .none .none (.int (-1) t) (by decide) ?_ (by rw [List.size_toArray] <;> omega)
   rw [jgk]
   refine ⟨.ref _,_,I4.laid (t':=s3.toks) (o:=.lst xs.reverse) (fun b ob q=>Heap.get?_push_of_some _ q) (Nat.le_refl _) ?_,rfl,q _ (I4.hok.fresh (Nat.le_refl _))⟩
   exact ⟨by rw [List.length_reverse]; exact hz,_,0,r.rev,Heap.get?_push_size _ rfl⟩
 ·cases r1
  obtain ⟨t,rfl⟩:=r3
  obtain ⟨its,r,ht,hz⟩:=I4.tuple hx
  have hlen:=r.length
  show wpAny (model X.prog X.w) X.A (subscriptTail e (.Slice none none (some st) p2) (.ref a) (.ref s3.heap.objs.size)) (EP X pins σ Q) X.xe { s3 with heap:=s3.heap.push { cls:=.type "slice",data:=.fields #[.none,.none,.int (-1) t] } }
  refine tail_any (ops:=[.ref a,.ref s3.heap.objs.size]) ht.typeIs PyProof.Rows.slot_tuple_getitem.lookup ?_ (by with_unfolding_all rfl)
  refine HT.getItem_tuple_rev ht (Heap.IsSliceOf.new ..) ?_ (by rw [<- hlen]; exact hz)
  refine ⟨.ref _,_,I4.laid (t':=s3.toks) (o:=.tup xs.reverse) (fun b ob q=>Heap.get?_push_of_some _ q) (Nat.le_refl _) ?_,rfl,q _ (I4.hok.fresh (Nat.le_refl _))⟩
  exact ⟨by rw [List.length_reverse]; exact hz,_,r.rev,TupD.new _ _⟩
end
end L2
namespace Z
open PySem L2
set_option maxHeartbeats 4000000
section
variable {X:Cx}{pos:Pos}{a b e:Expr}{es:List Expr}{ta tb te:UE}{ts:UA}
theorem je2:PA X [] (lA X fun _ G Q _=>Q [] G):=by
 refine jhe.imp fun σ H Q0 h=>?_
 obtain ⟨ς,G,Q,E,hς,hG,h,lv,lx⟩:=h
 exact lv [] [] G H rfl hG (Fr.refl _ _) h
theorem jco (ha:PE X e (lE X te))(hr:PA X es (lA X ts))(hs:starEach (e::es) X.env=(false,eval e X.env)::starEach es X.env):PA X (e::es) (lA X fun ς G Q E=>te ς G (fun x G1=>ts ς G1 (fun xs G2=>Q (x::xs) G2) E) E):=by
 refine (jcP ha hr hs).imp fun σ H Q0 h=>?_
 obtain ⟨ς,G,Q,E,hς,hG,h,lv,lx⟩:=h
 refine ⟨ς,G,_,E,hς,hG,h,fun x v G1 H1 rx hG1 f1 h1=>?_,lx⟩
 refine ⟨ς,G1,_,E,hς.ts (f1.ts hG),hG1,h1,fun xs vs G2 H2 rxs hG2 f2 h2=>?_,lx.fr f1⟩
 exact lv (x::xs) (v::vs) G2 H2 ⟨v,vs,rfl,rx.ts (f2.ts hG1),rxs⟩ hG2 (f1.trans f2) h2
theorem jly {k}(h:PA X es (lA X ts)):PE X (.Tuple es k pos) (lE X fun ς G Q E=>ts ς G (fun us G1=>us.length<=sizeLine/\Q (.tup us) G1) E):=
 (jjZ h).imp fun σ H Q0 h=>lE.many h fun us vs G H' Q r hG q lv=>⟨by rw [<- r.length]; exact q.1,fun p hp=>lv.tup hp r hG q.2⟩
theorem jlH (h:PA X es (lA X ts)):PE X (.List es pos) (lE X fun ς G Q E=>ts ς G (fun us G1=>us.length<=sizeLine/\newO G1 (.lst us) Q) E):=
 (jj3 h).imp fun σ H Q0 h=>lE.many h fun us vs G H' Q r hG q lv=>⟨by rw [<- r.length]; exact q.1,fun p hp=>lv.lst hp r hG q.2⟩
noncomputable def rDix:R2:=fun x y H Q=>∃ a v,x=.ref a/\DGet H a y (some v)/\Q v H
theorem jiL (hu:X.A.units + 1 < cLine):IxR X rDix:=by
 intro value slice pins s σ H x y v u Q I rx ry h hs
 obtain ⟨a,w,rfl,g,q⟩:=h
 cases rx
 exact PyProof.Rows.tail_any (jdZ I g) PySem.F.slot_dict_getitem.lookup (jfX hu I g ry fun w' s3 I3 rw'=>⟨w,H,I3,rw',q⟩) hs
theorem jho {H:Hp}{G:Gp}{y:U}{v':V}{Q:K1}{Q0:VK}{a:Addr}{xs:List U}{vs:List V}(h:match y with | .int i=>(match atI xs i with | some u=>Q u G | none=>False) | _=>False)
  (ry:RU X.K H y v') (hG:HR X.K H G) (lv:LV X H G Q Q0) (sq:SqL X.K H a vs) (rs:RUs X.K H xs vs):rIx X.K (.ref a) v' H Q0:=by
 cases y with
 | int i=>
  cases ry
  dsimp only at h
  split at h
  ·rename_i u e
   obtain ⟨w,e2,r⟩:=rs.atI e
   exact .inl ⟨_,vs,_,w,rfl,rfl,sq,e2,lv.here r hG h⟩
  ·exact h.elim
 | _=>exact h.elim
theorem jkH {H:Hp}{G:Gp}{x y:U}{v v':V}{Q:K1}{Q0:VK}(rx:RU X.K H x v)(ry:RU X.K H y v')(hG:HR X.K H G)(h:ixU x y G Q)(lv:LV X H G Q Q0):rIx X.K v v' H Q0\/rDix v v' H Q0:=by
 unfold ixU at h
 split at h
 ·obtain ⟨a,vs,rfl,e,rs⟩:=rx
  cases ry
  split at h
  ·rename_i u e1
   obtain ⟨w,e2,r⟩:=rs.atI e1
   exact .inl (.inr (.inl ⟨a,vs,_,w,rfl,rfl,.of e,e2,lv.here r hG h⟩))
  ·exact h.elim
 ·cases rx; cases ry
  obtain ⟨h1,h⟩:=h
  split at h
  ·rename_i c e1
   exact .inl (.inr (.inr ⟨_,_,c,rfl,rfl,h1,e1,lv.str hG h⟩))
  ·exact h.elim
 ·cases rx
  split at h
  ·rename_i g
   obtain ⟨vs,e,rs⟩:=hG.lst g
   exact .inl (jho h ry hG lv (.of e) rs)
  ·rename_i g
   obtain ⟨ob,vs,e,rs⟩:=hG _ _ g
   exact .inl (jho h ry hG lv (.inl (.inr ⟨ob,e⟩)) rs)
  ·rename_i kvs g
   obtain ⟨l,e,rs⟩:=hG _ _ g
   split at h
   ·rename_i k ek
    have:=jfF ry ek
    subst this
    split at h
    ·rename_i u eu
     have:=jcG k rs
     rw [eu] at this
     obtain ⟨w,e2,r⟩:=this
     exact .inr ⟨_,w,rfl,by rw [<- e2]; exact DGet.k e,lv.here r hG h⟩
    ·exact h.elim
   ·exact h.elim
  ·rename_i kvs g
   obtain ⟨l,e,rs⟩:=hG _ _ g
   split at h
   ·rename_i ys
    obtain ⟨b,bs,rfl,eb,rb⟩:=ry
    split at h
    ·rename_i k ek
     have:=jer rb ek
     subst this
     split at h
     ·rename_i u eu
      have:=jcG k rs
      rw [eu] at this
      obtain ⟨w,e2,r⟩:=this
      exact .inr ⟨_,w,rfl,by rw [<- e2]; exact DGet.t e eb,lv.here r hG h⟩
     ·exact h.elim
    ·exact h.elim
   ·exact h.elim
  ·exact h.elim
 ·exact h.elim
theorem u_ix (hu:X.A.units + 1 < cLine)(ha:PE X a (lE X ta))(hb:PE X b (lE X tb))(hs:jd9 b):PE X (.Subscript a b pos) (lE X fun ς G Q E=>ta ς G (fun x G1=>tb ς G1 (fun y G2=>ixU x y G2 Q) E) E):=
 (jmf ((jkG (X:=X)).or (jiL hu)) ha hb hs).imp fun σ H Q0 h=>lE.two h fun x y v v' G H' Q rx ry hG q lv=>jkH rx ry hG q lv
theorem u_no:PO X none (lO X fun _ G Q _=>Q none G):=jib.imp fun σ H Q0 h=>by
 obtain ⟨ς,G,Q,E,hς,hG,h,lv,lx⟩:=h
 exact lv none G H hG (Fr.refl _ _) h
theorem u_so (ha:PE X e (lE X te)):PO X (some e) (lO X fun ς G Q E=>te ς G (fun x G1=>match x with | .int i=>Q (some i) G1 | _=>False) E):=(jia ha).imp fun σ H Q0 h=>by
 obtain ⟨ς,G,Q,E,hς,hG,h,lv,lx⟩:=h
 refine ⟨ς,G,_,E,hς,hG,h,fun x v G1 H1 rx hG1 f1 h1=>?_,lx⟩
 dsimp only at h1
 split at h1
 ·cases rx
  exact ⟨_,rfl,lv _ G1 H1 hG1 f1 h1⟩
 ·exact h1.elim
theorem u_sl {lo hi:Option Expr}{p2:Pos}{tl th:Sg->Gp->(Option Int->Gp->Prop)->KX->Prop}(ha:PE X e (lE X te))(hl:PO X lo (lO X tl))(hh:PO X hi (lO X th)) :
  PE X (.Subscript e (.Slice lo hi none p2) pos) (lE X fun ς G Q E=>te ς G (fun x G1=>tl ς G1 (fun l G2=>th ς G2 (fun h G3=>slU x l h G3 Q) E) E) E):=by
 refine (jgw (SlR.or (jhV (X:=X)) (SlR.or jhW jjx)) ha hl hh).imp fun σ H Q0 h=>?_
 obtain ⟨ς,G,Q,E,hς,hG,h,lv,lx⟩:=h
 refine ⟨ς,G,_,E,hς,hG,h,fun x v G1 H1 rx hG1 f1 h1=>?_,lx⟩
 refine ⟨ς,G1,_,E,hς.ts (f1.ts hG),hG1,h1,fun l G2 H2 hG2 f2 h2=>?_,lx.fr f1⟩
 refine ⟨ς,G2,_,E,(hς.ts (f1.ts hG)).ts (f2.ts hG1),hG2,h2,fun u G3 H3 hG3 f3 h3=>?_,lx.fr (f1.trans f2)⟩
 have lv3:=lv.fr ((f1.trans f2).trans f3)
 have rx3:=rx.ts ((f2.ts hG1).trans (f3.ts hG2))
 unfold slU at h3
 split at h3
 ·obtain ⟨a,vs,rfl,ea,rs⟩:=rx3
  by_cases z:HT.sIx vs.length 0 l=0/\HT.sIx vs.length vs.length u=vs.length
  ·refine .inl (.inr ⟨a,vs,rfl,.of ea,z,?_⟩)
   refine lv3.here (w:=.tup _) ⟨a,vs,rfl,ea,?_⟩ hG3 h3
   have e2:cutV vs l u=vs:=by unfold cutV; rw [z.1,z.2]; simp
   have:=rs.cut l u
   rw [e2] at this
   exact this
  ·exact .inl (.inl ⟨a,vs,rfl,.of ea,z,fun p hp=>lv3.tup hp (rs.cut l u) hG3 h3⟩)
 ·cases rx3
  exact .inr (.inr ⟨_,rfl,h3.1,lv3.str hG3 h3.2⟩)
 ·cases rx3
  split at h3
  ·rename_i us eu
   obtain ⟨vs,sq,rs⟩:=hG3.ls eu
   exact .inr (.inl ⟨_,vs,rfl,sq,fun p hp=>lv3.lst hp (rs.cut l u) hG3 h3⟩)
  ·exact h3.elim
 ·exact h3.elim
theorem jlB {st:Expr}{p2:Pos}(ha:PE X a (lE X ta))(hb:PE X st (lE X tb)):PE X (.Subscript a (.Slice none none (some st) p2) pos) (lE X fun ς G Q E=>ta ς G (fun x G1=>tb ς G1 (fun y G2=>revU x y G2 Q) E) E):=by
 refine (jij ha hb).imp fun σ H Q0 h=>lE.two h fun x y v v' G H' Q rx ry hG q lv=>?_
 unfold revU at q
 split at q
 ·obtain ⟨a,vs,rfl,ea,rs⟩:=rx
  cases ry
  obtain ⟨rfl,q⟩:=q
  exact .inr ⟨a,vs,rfl,.of ea,rfl,fun p hp=>lv.tup hp rs.reverse hG q⟩
 ·cases rx; cases ry
  split at q
  ·rename_i us eu
   obtain ⟨vs,sq,rs⟩:=hG.ls eu
   obtain ⟨hi,q⟩:=q
   rcases hi with rfl | rfl
   ·exact .inl ⟨_,vs,rfl,sq,.inl ⟨rfl,fun p hp=>lv.lst hp rs hG q⟩⟩
   ·exact .inl ⟨_,vs,rfl,sq,.inr ⟨rfl,fun p hp=>lv.lst hp rs.reverse hG q⟩⟩
  ·exact q.elim
 ·exact q.elim
end
end Z

namespace L2
open PySem PySem.Spec PyProof.Rows
set_option maxHeartbeats 4000000
section
variable {X:Cx}
theorem jgU (hc:X.calm=true):jaN X (.builtin "all") (fun xs H Q=>∃ (p:Addr) (bs:List Bool),xs=[.ref p]/\SqL X.K H p (bs.map V.bl)/\Q (.bl (bs.all id)) H):=by
 rintro pins s σ H xs us Q I r ⟨p,bs,rfl,hq,q⟩
 obtain ⟨u,rfl,rx⟩:=jbK r
 cases rx
 obtain ⟨its,fp,wr,P,S,hl,W,st,tr,kp⟩:=jeY hc I hq true
 exact call_all_walk (wpAny_pyIter_list hl ⟨_,fp,wr,_,P,S,_,rfl,W,st,tr,fun h' tk hk=>⟨.bl _,H,I.kept (kp h' hk),congrArg Value.bool (LSm.range_all bs),q⟩⟩)
end
end L2
namespace Z
open PySem L2
set_option maxHeartbeats 4000000
noncomputable def bltN:Blt->Str
 | .len => "len" | .repr => "repr" | .min => "min" | .max => "max" | .sum => "sum" | .all => "all" | .any => "any" | .sorted => "sorted" | .int => "int" | .str => "str" | .isi => "isinstance"
noncomputable def bltV:Blt->Value
 | .len=>.builtin "len" | .repr=>.builtin "repr" | .min=>.builtin "min" | .max=>.builtin "max" | .sum=>.builtin "sum" | .all=>.builtin "all" | .any=>.builtin "any" | .sorted=>.builtin "sorted" | .int=>.type "int" | .str=>.type "str" | .isi=>.builtin "isinstance"
section
variable {X:Cx}
theorem RUs.one {K:PySem.W.Frag}{H:Hp}{u:U}{vs:List V}(r:RUs K H [u] vs):∃ v,vs=[v]/\RU K H u v:=by
 obtain ⟨v,vr,rfl,r1,rs⟩:=r
 cases rs
 exact ⟨v,rfl,r1⟩
theorem RUs.two {K:PySem.W.Frag}{H:Hp}{u w:U}{vs:List V}(r:RUs K H [u,w] vs):∃ v v',vs=[v,v']/\RU K H u v/\RU K H w v':=by
 obtain ⟨v,vr,rfl,r1,rs⟩:=r
 obtain ⟨v',rfl,r2⟩:=rs.one
 exact ⟨v,v',rfl,r1,r2⟩
theorem jiG (K:PySem.W.Frag):∀ t∈["NoneType", "bool", "int", "str", "list", "tuple", "dict"],∀ c∈["bool", "int", "str", "list", "tuple", "dict"],PySem.W.kitOne K (.type t) (.type c)=some (t == c || (t == "bool" && c == "int")):=by
 simp only [List.forall_mem_cons,List.not_mem_nil,false_implies,implies_true,and_true]
 refine ⟨?_,?_,?_,?_,?_,?_,?_⟩ <;> refine ⟨?_,?_,?_,?_,?_,?_⟩ <;> rfl
theorem jhO {x:U}{G:Gp}{n:String}(h:tyN x G=some n):n∈["NoneType", "bool", "int", "str", "list", "tuple", "dict"]:=by
 unfold tyN at h
 split at h <;> first | (cases h; decide) | (split at h <;> first | (cases h; decide) | cases h) | cases h
theorem jiN {H:Hp}{G:Gp}{x:U}{v:V}{t:String}{b:Bool}(r:RU X.K H x v)(hG:HR X.K H G)(h:isiU x G t=some b):∃ tv,TyOf X.K H v tv/\PySem.W.kitOne X.K tv (.type t)=some b:=by
 unfold isiU at h
 split at h
 ·rename_i n en
  split at h
  ·rename_i ht
   cases h
   refine ⟨.type n,?_,jiG X.K n (jhO en) t ht⟩
   unfold tyN at en
   split at en
   ·cases en; cases r; exact .non
   ·cases en; cases r; exact .bl _
   ·cases en; cases r; exact .int _
   ·cases en; cases r; exact .str _
   ·cases en; obtain ⟨a,ws,rfl,e,_⟩:=r; exact .tup e
   ·cases r
    split at en
    ·rename_i g; cases en; obtain ⟨ws,e,_⟩:=hG.lst g; exact .lst e
    ·rename_i g; cases en; obtain ⟨ws,e,_⟩:=hG _ _ g; exact .dK e
    ·rename_i g; cases en; obtain ⟨ws,e,_⟩:=hG _ _ g; exact .dT e
    ·cases en
   ·cases en
  ·cases h
 ·cases h
noncomputable def BlU (X:Cx)(b:Blt):Prop:=∃ r,jaN X (bltV b) r/\∀ us vs G H Q Q0,RUs X.K H us vs->HR X.K H G->bltU b us G Q->LV X H G Q Q0->r vs H Q0
theorem jkX {k:Nat}(hr:Room k X.A)(hc:X.calm=true)(b:Blt):BlU X b:=by
 cases b with
 | len=>
  refine ⟨_,jaN.or (jgT (X:=X)) jf4,fun us vs G H Q Q0 r hG h lv=>?_⟩
  change lenU us G Q at h
  unfold lenU at h
  split at h <;> first | exact h.elim | skip
  ·obtain ⟨v,rfl,r1⟩:=r.one
   obtain ⟨a,ws,rfl,e,rs⟩:=r1
   exact .inl ⟨_,_,rfl,.inr ⟨ws,.of e,rfl⟩,by rw [<- rs.length]; exact lv.int hG h⟩
  ·obtain ⟨v,rfl,r1⟩:=r.one
   cases r1
   exact .inl ⟨_,_,rfl,⟨h.1,rfl⟩,lv.int hG h.2⟩
  ·obtain ⟨v,rfl,r1⟩:=r.one
   cases r1
   split at h
   ·rename_i g
    obtain ⟨ws,e,rs⟩:=hG.lst g
    exact .inl ⟨_,_,rfl,.inl ⟨ws,.of e,rfl⟩,by rw [<- rs.length]; exact lv.int hG h⟩
   ·rename_i g
    obtain ⟨ob,ws,e,rs⟩:=hG _ _ g
    exact .inl ⟨_,_,rfl,.inl ⟨ws,.inl (.inr ⟨ob,e⟩),rfl⟩,by rw [<- rs.length]; exact lv.int hG h⟩
   ·rename_i kvs g
    obtain ⟨l,e,rs⟩:=hG _ _ g
    refine .inr ⟨_,l,rfl,e,?_⟩
    have:∀ {kvs:List (Key×U)} {l:List (Key×V)},RKs X.K H kvs l->kvs.length=l.length:=by
     intro kvs
     induction kvs with
     | nil=>intro l r; cases r; rfl
     | cons p q ih=>intro l r; obtain ⟨v,l',rfl,_,rs⟩:=r; simp [ih rs]
    rw [<- this rs]
    exact lv.int hG h
   ·exact h.elim
 | repr=>
  refine ⟨_,jeX hr,fun us vs G H Q Q0 r hG h lv=>?_⟩
  change jdN us G Q at h
  unfold jdN at h
  split at h <;> first | exact h.elim | skip
  obtain ⟨v,rfl,r1⟩:=r.one
  obtain ⟨d,h1,h2,h3⟩:=h
  exact ⟨v,d,rfl,h1.dv hG r1,h2,lv.str hG h3⟩
 | min=>
  refine ⟨_,jf3 hc,fun us vs G H Q Q0 r hG h lv=>?_⟩
  change minU us G Q at h
  unfold minU at h
  split at h <;> first | exact h.elim | skip
  obtain ⟨v,v',rfl,r1,r2⟩:=r.two
  cases r1; cases r2
  exact ⟨_,_,rfl,lv.int hG h⟩
 | max=>exact ⟨fun _ _ _=>False,fun _ _ _ _ _ _ _ _ _ h=>h.elim,fun _ _ _ _ _ _ _ _ h _=>h.elim⟩
 | sum=>exact ⟨fun _ _ _=>False,fun _ _ _ _ _ _ _ _ _ h=>h.elim,fun _ _ _ _ _ _ _ _ h _=>h.elim⟩
 | any=>exact ⟨fun _ _ _=>False,fun _ _ _ _ _ _ _ _ _ h=>h.elim,fun _ _ _ _ _ _ _ _ h _=>h.elim⟩
 | all=>
  refine ⟨_,jgU hc,fun us vs G H Q Q0 r hG h lv=>?_⟩
  change allU us G Q at h
  unfold allU at h
  split at h <;> first | exact h.elim | skip
  obtain ⟨v,rfl,r1⟩:=r.one
  cases r1
  split at h
  ·rename_i g
   obtain ⟨ws,e,rs⟩:=hG.lst g
   split at h
   ·rename_i ns en
    have:=rs.bools en
    subst this
    exact ⟨_,ns,rfl,.of e,lv.bl hG h⟩
   ·exact h.elim
  ·exact h.elim
 | sorted=>exact ⟨fun _ _ _=>False,fun _ _ _ _ _ _ _ _ _ h=>h.elim,fun _ _ _ _ _ _ _ _ h _=>h.elim⟩
 | int=>
  refine ⟨_,jf5.or jc4,fun us vs G H Q Q0 r hG h lv=>?_⟩
  change intU us G Q at h
  unfold intU at h
  split at h <;> first | exact h.elim | skip
  ·obtain ⟨v,rfl,r1⟩:=r.one
   cases r1
   exact .inl (.inl ⟨_,rfl,lv.int hG h⟩)
  ·obtain ⟨v,rfl,r1⟩:=r.one
   cases r1
   exact .inl (.inr ⟨_,rfl,lv.int hG h⟩)
  ·obtain ⟨v,rfl,r1⟩:=r.one
   cases r1
   obtain ⟨n,h1,h2,h⟩:=h
   exact .inr ⟨_,n,rfl,h1,h2,lv.int hG h⟩
 | str=>
  refine ⟨_,jdA.or (jf2 (X:=X)),fun us vs G H Q Q0 r hG h lv=>?_⟩
  change strU us G Q at h
  unfold strU at h
  split at h <;> first | exact h.elim | skip
  ·obtain ⟨v,rfl,r1⟩:=r.one
   cases r1
   exact .inl ⟨_,rfl,h.1,lv.str hG h.2⟩
  ·obtain ⟨v,rfl,r1⟩:=r.one
   cases r1
   exact .inr ⟨_,rfl,lv.str hG h⟩
 | isi=>
  refine ⟨_,jd2,fun us vs G H Q Q0 r hG h lv=>?_⟩
  change jdV us G Q at h
  unfold jdV at h
  split at h <;> first | exact h.elim | skip
  rename_i t
  obtain ⟨v,v',rfl,r1,r2⟩:=r.two
  cases r2
  split at h
  ·rename_i b eb
   obtain ⟨tv,h1,h2⟩:=jiN r1 hG eb
   exact ⟨v,t,tv,b,rfl,h1,h2,lv.bl hG h⟩
  ·exact h.elim
theorem jgV (b:Blt):bootBuiltins (bltN b)=some (bltV b):=by
 cases b with
 | len=>exact PySem.boot_len
 | repr=>exact (by with_unfolding_all rfl)
 | min=>exact PyProof.Rows.boot_min
 | max=>exact PyProof.Rows.boot_max
 | sum=>exact PyProof.Rows.boot_sum
 | any=>exact PyProof.Rows.boot_any
 | all=>exact PyProof.Rows.boot_all
 | sorted=>exact PyProof.Rows.boot_sorted
 | int=>exact PyProof.Rows.boot_int
 | str=>exact PyProof.Rows.boot_str
 | isi=>exact PyProof.Rows.boot_isinstance
theorem jkY (b:Blt):bltN b ≠ "__name__" /\ (bltN b == ("__debug__" : Str))=false:=by cases b <;> decide
theorem jlM {b:Blt}{e:Expr}{es:List Expr}{ts:UA}{p pos:Pos}(hb:BlU X b)(hg:Gl X (bltN b))(hm:X.mg (bltN b)=none)(ha:PA X (e::es) (lA X ts))
  (he:starEach (e::es) X.env=(false,eval e X.env)::starEach es X.env) (hpl:(backTo pos (starEach es X.env)).any (·.1)=false) :
  PE X (.Call (.Name (bltN b) p) (e::es) [] pos) (lE X fun ς G Q E=>ts ς G (fun us G1=>bltU b us G1 Q) E):=by
 obtain ⟨r,h1,h2⟩:=hb
 have fin:∀ σ H Q0,lE X (fun ς G Q E=>ts ς G (fun us G1=>bltU b us G1 Q) E) σ H Q0->tCB r (lA X ts) σ H Q0:=fun σ H Q0 h=>lE.many h fun us vs G H' Q rs hG q lv=>h2 us vs G H' Q Q0 rs hG q lv
 have hv:=jgV b
 obtain ⟨n1,n2⟩:=jkY b
 cases b
 all_goals first
  | exact (jgA h1 hg hm hv ha n1 n2 he hpl).imp fin
  | exact (jbS h1 hg hm hv ha n1 n2 he hpl).imp fin
end
noncomputable def mthN:Mth->Str
 | .append => "append" | .extend => "extend" | .insert => "insert" | .pop => "pop" | .reverse => "reverse" | .index => "index" | .join => "join" | .get => "get" | .split => "split"
section
variable {X:Cx}
theorem RUs.mk {K:PySem.W.Frag}{H:Hp}{u:U}{v:V}{us:List U}{vs:List V}(r:RU K H u v)(rs:RUs K H us vs):RUs K H (u::us) (v::vs):=⟨v,vs,rfl,r,rs⟩
structure MtK (X:Cx)(m:Mth)(T id:String):Prop where
 pa:PlainAttrs T
 sl:Slot T (mthN m) id
 ty:typeOf (.builtin id)=pure (.type "method_descriptor")
noncomputable def MtU (X:Cx)(m:Mth):Prop:=∀ x G1 T id,mtU m x G1=some (T,id)->MtK X m T id/\(∀ v H1,RU X.K H1 x v->HR X.K H1 G1->tyV X.K T v H1)/\
 ∃ r,MtR X id r/\∀ us v vs G H Q Q0,RU X.K H x v->RUs X.K H us vs->HR X.K H G->jaF m x us G Q->LV X H G Q Q0->r v vs H Q0
theorem jg5 {a:Addr}{G:Gp}{us:List U}(g:G a=some (.lst us)):∀ v H1,RU X.K H1 (.loc a) v->HR X.K H1 G->tyV X.K "list" v H1:=fun v H1 r hG=>by
 cases r
 obtain ⟨vs,e,_⟩:=hG.lst g
 exact .inl ⟨rfl,vs,.of e⟩
theorem jfw:MtU X .append:=by
 intro x G1 T id h
 dsimp only [mtU] at h
 split at h <;> first | contradiction | skip
 split at h
 ·rename_i g
  cases h
  refine ⟨⟨PySem.F.plainAttrs_list,PySem.F.slot_list_append,PySem.F.type_list_append⟩,jg5 g,_,jdm,fun us v vs G H Q Q0 rx rs hG h lv=>?_⟩
  cases rx
  dsimp only [jaF] at h
  unfold jd5 at h
  split at h <;> first | exact h.elim | skip
  rename_i e2
  cases e2
  split at h
  ·rename_i g2
   obtain ⟨ws,e,r⟩:=hG.lst g2
   obtain ⟨y,rfl,ry⟩:=rs.one
   refine ⟨_,ws,y,rfl,rfl,e,by rw [<- r.length]; exact h.1,?_⟩
   exact lv.wl g2 (r.append (RUs.mk (us:=[]) (vs:=[]) ry rfl)) hG (w:=.non) rfl h.2
  ·exact h.elim
 ·cases h
theorem jgH:MtU X .index:=by
 intro x G1 T id h
 dsimp only [mtU] at h
 split at h <;> first | contradiction | skip
 ·split at h
  ·rename_i g
   cases h
   refine ⟨⟨PySem.F.plainAttrs_list,PySem.F.slot_list_index,PySem.F.type_list_index⟩,jg5 g,_,jfy,fun us v vs G H Q Q0 rx rs hG h lv=>?_⟩
   cases rx
   dsimp only [jaF] at h
   unfold jfM at h
   split at h <;> first | exact h.elim | contradiction | skip
   rename_i e2
   cases e2
   split at h
   ·rename_i g2
    obtain ⟨ws,e,r⟩:=hG.lst g2
    obtain ⟨y,rfl,ry⟩:=rs.one
    cases ry
    split at h
    ·rename_i ys ey
     have:=r.strs ey
     subst this
     exact ⟨_,ys,_,rfl,rfl,.of e,h.1,lv.int hG h.2⟩
    ·exact h.elim
   ·exact h.elim
  ·cases h
 ·cases h
  refine ⟨⟨PySem.F.plainAttrs_tuple,PySem.F.slot_tuple_index,PySem.F.type_tuple_index⟩,fun v H1 r hG=>?_,_,jfx,fun us v vs G H Q Q0 rx rs hG h lv=>?_⟩
  ·obtain ⟨a,ws,rfl,e,_⟩:=r
   exact .inr (.inr (.inr (.inr ⟨rfl,ws,e⟩)))
  ·obtain ⟨a,ws,rfl,e,r⟩:=rx
   dsimp only [jaF] at h
   unfold jfM at h
   split at h <;> first | exact h.elim | contradiction | skip
   rename_i e2
   cases e2
   obtain ⟨y,rfl,ry⟩:=rs.one
   cases ry
   split at h
   ·rename_i ys ey
    have:=r.strs ey
    subst this
    exact ⟨_,ys,_,rfl,rfl,.of e,h.1,lv.int hG h.2⟩
   ·exact h.elim
theorem jiB:MtU X .join:=by
 intro x G1 T id h
 dsimp only [mtU] at h
 split at h <;> first | contradiction | skip
 cases h
 refine ⟨⟨PySem.F.plainAttrs_str,PySem.F.slot_str_join,PySem.F.type_str_join⟩,fun v H1 r hG=>by cases r; rfl,_,mt_join,fun us v vs G H Q Q0 rx rs hG h lv=>?_⟩
 cases rx
 dsimp only [jaF] at h
 unfold jiI at h
 split at h <;> first | exact h.elim | skip
 ·rename_i e2
  cases e2
  obtain ⟨y,rfl,ry⟩:=rs.one
  obtain ⟨a,ws,rfl,e,r⟩:=ry
  split at h
  ·rename_i ys ey
   have:=r.strs ey
   subst this
   exact ⟨_,a,ys,rfl,rfl,.inr (.of e),h.1,h.2.1,lv.str hG h.2.2⟩
  ·exact h.elim
 ·rename_i e2
  cases e2
  obtain ⟨y,rfl,ry⟩:=rs.one
  cases ry
  split at h
  ·rename_i g2
   obtain ⟨ws,e,r⟩:=hG.lst g2
   split at h
   ·rename_i ys ey
    have:=r.strs ey
    subst this
    exact ⟨_,_,ys,rfl,rfl,.inl (.of e),h.1,h.2.1,lv.str hG h.2.2⟩
   ·exact h.elim
  ·exact h.elim
theorem je6 {K:PySem.W.Frag}{H:Hp}:∀ ys:List Str,RUs K H (ys.map .str) (ys.map V.str)
 | []=>rfl
 | _::r=>⟨_,_,rfl,rfl,je6 r⟩
theorem jgG:MtU X .split:=by
 intro x G1 T id h
 dsimp only [mtU] at h
 split at h <;> first | contradiction | skip
 cases h
 refine ⟨⟨PySem.F.plainAttrs_str,PySem.F.slot_str_split,PySem.F.type_str_split⟩,fun v H1 r hG=>by cases r; rfl,_,jgI,fun us v vs G H Q Q0 rx rs hG h lv=>?_⟩
 cases rx
 dsimp only [jaF] at h
 unfold jhb at h
 split at h <;> first | exact h.elim | skip
 rename_i e2
 cases e2
 obtain ⟨y,rfl,ry⟩:=rs.one
 cases ry
 exact ⟨_,_,rfl,rfl,h.1,h.2.1,h.2.2.1,fun l hl=>lv.lst hl (je6 _) hG h.2.2.2⟩
theorem jhk (m:Mth):MtU X m:=by
 cases m with
 | append=>exact jfw
 | extend=>intro x G1 T id h; cases h
 | insert=>intro x G1 T id h; cases h
 | pop=>intro x G1 T id h; cases h
 | reverse=>intro x G1 T id h; cases h
 | index=>exact jgH
 | join=>exact jiB
 | split=>exact jgG
 | get=>intro x G1 T id h; unfold mtU at h; split at h <;> contradiction
variable {m:Mth}{o e:Expr}{es:List Expr}{to:UE}{ts:UA}{apos cpos:Pos}
theorem jjj (hm:MtU X m)(ho:PE X o (lE X to))(ha:PA X (e::es) (lA X ts))(hbase:attributeBase o (mthN m) X.env (eval o X.env)=eval o X.env)
  (hfew:((backTo cpos (starEach (e::es) X.env)).all (fun x=>!x.1) && (backToKw cpos (keywordEach [] X.env)).all (fun x=>x.1.isSome)
   && decide ((e::es).length + ([]:List Keyword).length + (if ([]:List Keyword).isEmpty then 0 else 1) < 30))=true)
  (hline:(apos.endLine == cpos.line)=true) (hs:starEach (e::es) X.env=(false,eval e X.env)::starEach es X.env) (hplain:(backTo cpos (starEach es X.env)).any (·.1)=false) :
  PE X (.Call (.Attribute o (mthN m) apos) (e::es) [] cpos) (lE X fun ς G Q E=>to ς G (fun x G1=>match mtU m x G1 with | some _=>ts ς G1 (fun us G2=>jaF m x us G2 Q) E | none=>False) E):=by
 intro pins s σ H Q0 I h
 obtain ⟨ς,G,Q,E,hς,hG,h,lv,lx⟩:=h
 refine PySem.wpAny_Call_method_late hbase hfew hline rfl (thn (ho pins s σ H (fun v H1=>∃ x G1 T id,RU X.K H1 x v/\HR X.K H1 G1/\Fr H G H1 G1/\mtU m x G1=some (T,id)/\ts ς G1 (fun us G2=>jaF m x us G2 Q) E) I
  ⟨ς,G,_,E,hς,hG,h,fun x v G1 H1 rx hG1 f1 h1=>?_,lx⟩) fun v s1 ⟨xv,H1,I1,r1,x,G1,T,id,rx,hG1,f1,em,h1⟩=>?_)
 ·dsimp only at h1
  split at h1
  ·rename_i p ep
   exact ⟨x,G1,p.1,p.2,rx,hG1,f1,ep,h1⟩
  ·exact h1.elim
 ·obtain ⟨k,hty,r,hr1,hr2⟩:=hm x G1 T id em
  obtain ⟨t1,t2⟩:=jg6 I1 r1 (hty xv H1 rx hG1)
  refine ⟨T,id,k.pa,k.sl,k.ty,t1,t2,?_⟩
  have hA:=ha cpos pins s1 σ H1 (fun vs H2=>∃ us G2,RUs X.K H2 us vs/\HR X.K H2 G2/\Fr H1 G1 H2 G2/\jaF m x us G2 Q) I1 ⟨ς,G1,_,E,hς.ts (f1.ts hG),hG1,h1,fun us vs G2 H2 rs hG2 f2 h2=>⟨us,G2,rs,hG2,f2,h2⟩,lx.fr f1⟩
  rw [hs] at hA ⊢
  refine Calls.callWith_builtin (by show (false || (backTo cpos (starEach es X.env)).any (·.1))=false; rw [hplain] <;> rfl) (Calls.evalArgs_plain ?_)
  exact thn hA fun us s2 ⟨vs,H2,I2,r2,ws,G2,rs,hG2,f2,h2⟩=>hr1 pins s2 σ H2 xv vs v us Q0 I2 r1 r2 (hr2 ws xv vs G2 H2 Q Q0 (rx.ts (f2.ts hG1)) rs hG2 h2 (lv.fr (f1.trans f2)))
theorem jhL (hm:MtU X m)(ho:PE X o (lE X to))(hbase:attributeBase o (mthN m) X.env (eval o X.env)=eval o X.env)(hline:(apos.endLine == cpos.line)=true) :
  PE X (.Call (.Attribute o (mthN m) apos) [] [] cpos) (lE X fun ς G Q E=>to ς G (fun x G1=>match mtU m x G1 with | some _=>jaF m x [] G1 Q | none=>False) E):=by
 intro pins s σ H Q0 I h
 obtain ⟨ς,G,Q,E,hς,hG,h,lv,lx⟩:=h
 refine PySem.wpAny_Call_method0_late hbase hline (thn (ho pins s σ H (fun v H1=>∃ x G1 T id,RU X.K H1 x v/\HR X.K H1 G1/\Fr H G H1 G1/\mtU m x G1=some (T,id)/\jaF m x [] G1 Q) I
  ⟨ς,G,_,E,hς,hG,h,fun x v G1 H1 rx hG1 f1 h1=>?_,lx⟩) fun v s1 ⟨xv,H1,I1,r1,x,G1,T,id,rx,hG1,f1,em,h1⟩=>?_)
 ·dsimp only at h1
  split at h1
  ·rename_i p ep
   exact ⟨x,G1,p.1,p.2,rx,hG1,f1,ep,h1⟩
  ·exact h1.elim
 ·obtain ⟨k,hty,r,hr1,hr2⟩:=hm x G1 T id em
  obtain ⟨t1,t2⟩:=jg6 I1 r1 (hty xv H1 rx hG1)
  exact ⟨T,id,k.pa,k.sl,k.ty,t1,t2,Calls.callWith_builtin rfl (PySem.evalArgs_none (hr1 pins s1 σ H1 xv [] v [] Q0 I1 r1 .nil (hr2 [] xv [] G1 H1 Q Q0 rx rfl hG1 h1 (lv.fr f1))))⟩
end
end Z

namespace L2
open PySem PySem.Spec PyProof.Rows
set_option maxHeartbeats 4000000
section
variable {X:Cx}{tg:Expr}
noncomputable def iSeq (K:PySem.W.Frag)(tl:TE):TI:=fun σ H R=>tl σ H fun x H1=>∃ a,x=.ref a/\(((∃ xs,SqL K H1 a xs)/\R (Itl K a) H1)\/((∃ xs,SqT K H1 a xs)/\R (Itt K a) H1))
theorem jjV {l:Expr}{tl:TE}(hl:PE X l tl):PI X tg l (iSeq X.K tl):=by
 intro pins s σ H R I h
 refine thn (hl pins s σ H _ I h) fun v s1 ⟨x,H1,I1,r1,q1⟩=>?_
 obtain ⟨a,e,⟨⟨xs,hq⟩,q⟩ | ⟨⟨xs,hq⟩,q⟩⟩:=q1
 ·subst e
  cases r1
  obtain ⟨its,rv,p,hz⟩:=I1.list hq
  refine wpAny_pyIter_list p.isList ?_
  refine ⟨s1.heap.objs.size,[s1.heap.objs.size],_,_,H1,rfl,I1.kept (t':=s1.toks) fun b o e=>Heap.get?_push_of_some _ e,je4 a _,⟨_,Heap.get?_push_size _ rfl,rfl,rfl⟩,fun b hb=>?_,q⟩
  have e:b=s1.heap.objs.size:=by simpa using hb
  subst e
  exact I1.fpOk (Nat.le_refl _) (I1.hok.fresh (Nat.le_refl _))
 ·subst e
  cases r1
  obtain ⟨its,rv,p,hz⟩:=I1.tuple hq
  refine wpAny_pyIter_tuple (show s1.heap.IsTuple a its.toArray from p) ?_
  refine ⟨s1.heap.objs.size,[s1.heap.objs.size],_,_,H1,rfl,I1.kept (t':=s1.toks) fun b o e=>Heap.get?_push_of_some _ e,jeD a _,⟨_,Heap.get?_push_size _ rfl,rfl,rfl⟩,fun b hb=>?_,q⟩
  have e:b=s1.heap.objs.size:=by simpa using hb
  subst e
  exact I1.fpOk (Nat.le_refl _) (I1.hok.fresh (Nat.le_refl _))
theorem PI.imp {iter:Expr}{t t':TI}(h:PI X tg iter t)(i:∀ σ H R,t' σ H R->t σ H R):PI X tg iter t':=fun pins s σ H R I q=>h pins s σ H R I (i σ H R q)
theorem PG.imp {target:Expr}{t t':TG}(h:PG X target t)(i:∀ v σ H Q,t' v σ H Q->t v σ H Q):PG X target t':=fun pins s σ H v u Q I r q=>h pins s σ H v u Q I r (i v σ H Q q)
theorem PGs.imp {ts:List Expr}{t t':TGs}(h:PGs X ts t)(i:∀ v σ H Q,t' v σ H Q->t v σ H Q):PGs X ts t':=fun pins s σ H v u Q I r q=>h pins s σ H v u Q I r (i v σ H Q q)
theorem PIfs.imp {ifs:List Expr}{t t':TT}(h:PIfs X ifs t)(i:∀ σ H Q,t' σ H Q->t σ H Q):PIfs X ifs t':=fun pins s σ H Q I q=>h pins s σ H Q I (i σ H Q q)
end
end L2
namespace Z
open PySem L2
set_option maxHeartbeats 4000000
noncomputable abbrev UI:=Sg->Gp->(List U->(Gp->Prop)->Gp->Prop)->KX->Prop
noncomputable def jd8 (K:PySem.W.Frag)(J:L2.It)(H:Hp)(G:Gp)(xs:List U)(ok:Gp->Prop):Prop:=∀ i H' G',TS H H'->HR K H' G'->ok G'->
 (∀ u,xs[i]?=some u->J.go i H'/\∀ v H'',J.yld i H' v H''->RU K H'' u v/\HR K H'' G'/\Fr H' G' H'' G')/\(i=xs.length->J.stop i H')
theorem jd8.mono {K:PySem.W.Frag}{J:L2.It}{H H2:Hp}{G G2:Gp}{xs:List U}{ok:Gp->Prop}(h:jd8 K J H G xs ok)(t:TS H H2):jd8 K J H2 G2 xs ok:=fun i H' G' t'=>h i H' G' (t.trans t')
section
variable (X:Cx)
noncomputable def lI (t:UI):TI:=fun σ H R=>∃ ς G Q E,SR X.K H ς σ/\HR X.K H G/\t ς G Q E/\(∀ xs ok G' H' J,HR X.K H' G'->Fr H G H' G'->jd8 X.K J H' G' xs ok->Q xs ok G'->R J H')/\LX X σ H G E
noncomputable def lG (K:PySem.W.Frag)(t:U->Sg->(Sg->Prop)->Prop):TG:=fun v σ H Q0=>∃ u ς k,RU K H u v/\SR K H ς σ/\t u ς k/\∀ ς' σ',SR K H ς' σ'->k ς'->Q0 σ' H
noncomputable def lGs (K:PySem.W.Frag)(t:List U->Sg->(Sg->Prop)->Prop):TGs:=fun vs σ H Q0=>∃ us ς k,RUs K H us vs/\SR K H ς σ/\t us ς k/\∀ ς' σ',SR K H ς' σ'->k ς'->Q0 σ' H
end
section
variable {X:Cx}{tg:Expr}{pos:Pos}{te ta tb:UE}
theorem u_ie {l:Expr}(hl:PE X l (lE X te)):PI X tg l (lI X fun ς G Q E=>te ς G (fun x G1=>itU x G1 fun xs ok=>Q xs ok G1) E):=by
 refine (jjV hl).imp fun σ H R h=>?_
 obtain ⟨ς,G,Q,E,hς,hG,h,lv,lx⟩:=h
 refine ⟨ς,G,_,E,hς,hG,h,fun x v G1 H1 rx hG1 f1 h1=>?_,lx⟩
 dsimp only at h1
 unfold itU at h1
 split at h1
 ·obtain ⟨a,vs,rfl,ea,rs⟩:=rx
  refine ⟨a,rfl,.inr ⟨⟨vs,.of ea⟩,lv _ _ _ H1 _ hG1 f1 (fun i H' G' f hr _=>?_) h1⟩⟩
  have e':H' a=some (.tup vs):=f a _ ea
  refine ⟨fun u eu=>?_,fun e=>⟨vs,.of e',by rw [e,rs.length]; exact Nat.le_refl _⟩⟩
  obtain ⟨w,ew,rw'⟩:=rs.get eu
  refine ⟨⟨vs,w,.of e',ew⟩,fun v H'' y=>?_⟩
  obtain ⟨rfl,y⟩:=y
  have:=y vs (.of e')
  rw [ew] at this
  cases this
  exact ⟨rw'.ts f,hr,Fr.refl _ _⟩
 ·cases rx
  rename_i a
  split at h1
  ·rename_i us eu
   obtain ⟨vs,sq,rs⟩:=hG1.ls eu
   refine ⟨_,rfl,.inl ⟨⟨vs,sq⟩,lv _ _ _ H1 _ hG1 f1 (fun i H' G' f hr ok=>?_) h1⟩⟩
   obtain ⟨vs',sq',rs'⟩:=hr.ls ok
   refine ⟨fun u eu=>?_,fun e=>⟨vs',sq',by rw [e,rs'.length]; exact Nat.le_refl _⟩⟩
   obtain ⟨w,ew,rw'⟩:=rs'.get eu
   refine ⟨⟨vs',w,sq',ew⟩,fun v H'' y=>?_⟩
   obtain ⟨rfl,y⟩:=y
   have:=y vs' sq'
   rw [ew] at this
   cases this
   exact ⟨rw',hr,Fr.refl _ _⟩
  ·exact h1.elim
 ·exact h1.elim
theorem jej {K:PySem.W.Frag}{H:Hp}{G:Gp}(lo:Int)(n:Nat):jd8 K (Itr lo n) H G (rngU lo n) fun _=>True:=by
 intro i H' G' f hr _
 have hl:(rngU lo n).length=n:=by simp [rngU]
 refine ⟨fun u eu=>?_,fun e=>by rw [hl] at e; exact Nat.le_of_eq e.symm⟩
 have hi:i < n:=by have:=(List.getElem?_eq_some_iff.mp eu).1; omega
 refine ⟨hi,fun v H'' y=>?_⟩
 obtain ⟨rfl,rfl⟩:=y
 have:(rngU lo n)[i]?=some (.int (lo + i)):=by simp [rngU,List.getElem?_map,List.getElem?_range hi]
 rw [this] at eu
 cases eu
 exact ⟨rfl,hr,Fr.refl _ _⟩
theorem u_r1 {a : Expr}{p : Pos}(hg : Gl X "range")(hm : X.mg "range" = none)(ha : PE X a (lE X ta))(hs : starEach [a] X.env = [(false, eval a X.env)]) : PI X tg (.Call (.Name "range" p) [a] [] pos) (lI X fun ς G Q E => ta ς G (fun x G1 => match x with
      | .int j => -(2 ^ 62) <= j /\ j < 2 ^ 62 /\ Q (rngU 0 j.toNat) (fun _ => True) G1
      | _ => False) E) := by
  refine (jfj hg hm (jco ha je2 hs) hs).imp fun σ H R h => ?_
  obtain ⟨ς, G, Q, E, hς, hG, h, lv, lx⟩ := h
  refine ⟨ς, G, fun us G1 => match us with | [x] => (match x with | .int j => -(2 ^ 62) <= j /\ j < 2 ^ 62 /\ Q (rngU 0 j.toNat) (fun _ => True) G1 | _ => False) | _ => False, E, hς, hG, h, fun us vs G1 H1 rs hG1 f1 h1 => ?_, lx⟩
  dsimp only at h1
  split at h1
  · obtain ⟨v, rfl, r⟩ := rs.one
    split at h1
    · cases r
      exact ⟨_, rfl, h1.1, h1.2.1, lv _ _ G1 H1 _ hG1 f1 (jej 0 _) h1.2.2⟩
    · exact h1.elim
  · exact h1.elim
theorem u_r2 {a b:Expr}{p:Pos}(hg:Gl X "range")(hm:X.mg "range" = none)(ha:PE X a (lE X ta))(hb:PE X b (lE X tb))(hs:starEach [a,b] X.env=[(false,eval a X.env),(false,eval b X.env)])(hs2:starEach [b] X.env=[(false,eval b X.env)]) :
  PI X tg (.Call (.Name "range" p) [a,b] [] pos) (lI X fun ς G Q E=>ta ς G (fun x G1=>tb ς G1 (fun y G2=>match x,y with
   | .int i,.int j=>-(2 ^ 62)<=i/\i < 2 ^ 62/\-(2 ^ 62)<=j/\j < 2 ^ 62/\Q (rngU i (j - i).toNat) (fun _=>True) G2
   | _,_=>False) E) E):=by
 refine (jfi hg hm (jco ha (jco hb je2 hs2) (by rw [hs,hs2])) hs hs2).imp fun σ H R h=>?_
 obtain ⟨ς,G,Q,E,hς,hG,h,lv,lx⟩:=h
 refine ⟨ς,G,fun us G1=>match us with | [x,y]=>(match x,y with | .int i,.int j=>-(2 ^ 62)<=i/\i < 2 ^ 62/\-(2 ^ 62)<=j/\j < 2 ^ 62/\Q (rngU i (j - i).toNat) (fun _=>True) G1 | _,_=>False) | _=>False,E,hς,hG,h,fun us vs G1 H1 rs hG1 f1 h1=>?_,lx⟩
 dsimp only at h1
 split at h1
 ·obtain ⟨v,v',rfl,r,r'⟩:=rs.two
  split at h1
  ·cases r; cases r'
   exact ⟨_,_,rfl,⟨h1.1,h1.2.1,h1.2.2.1,h1.2.2.2.1⟩,lv _ _ G1 H1 _ hG1 f1 (jej _ _) h1.2.2.2.2⟩
  ·exact h1.elim
 ·exact h1.elim
theorem u_is {l:Expr}(hl:PE X l (lE X te)):PI X tg l (lI X fun ς G Q E=>te ς G (fun x G1=>sgU x fun xs=>Q xs (fun _=>True) G1) E):=by
 refine (jjU hl).imp fun σ H R h=>?_
 obtain ⟨ς,G,Q,E,hς,hG,h,lv,lx⟩:=h
 refine ⟨ς,G,_,E,hς,hG,h,fun x v G1 H1 rx hG1 f1 h1=>?_,lx⟩
 cases x with
 | str z=>
  cases rx
  obtain ⟨ha,h1⟩:=h1
  refine ⟨z,rfl,ha,lv _ _ _ H1 _ hG1 f1 (fun i H' G' f hr _=>⟨fun u eu=>?_,fun e=>?_⟩) h1⟩
  ·rw [List.getElem?_map] at eu
   cases ec:z.cps.toList[i]? with
   | none=>rw [ec] at eu; cases eu
   | some c=>
    rw [ec] at eu
    cases eu
    have ec':z.cps[i]?=some c:=by simpa using ec
    refine ⟨(Array.getElem?_eq_some_iff.mp ec').1,fun v H'' y=>?_⟩
    obtain ⟨rfl,d,ed,rfl⟩:=y
    rw [ec'] at ed
    cases ed
    exact ⟨rfl,hr,Fr.refl _ _⟩
  ·rw [e]; simp [Its]
 | _=>exact h1.elim
theorem SR.set {K:PySem.W.Frag}{H:Hp}{ς:Sg}{σ:St}{u:U}{v:V}(h:SR K H ς σ)(r:RU K H u v)(i:Nat):SR K H (ς.set i (some u)) (σ.set i (some v)):=by
 refine ⟨by simp [h.1],fun j w e=>?_⟩
 by_cases hj:j=i
 ·subst hj
  by_cases hl:j < ς.length
  ·rw [List.getElem?_set_self hl] at e
   cases e
   exact ⟨v,List.getElem?_set_self (by rw [<- h.1]; exact hl),r⟩
  ·rw [List.getElem?_eq_none (by simp; omega)] at e
   cases e
 ·rw [List.getElem?_set_ne (Ne.symm hj)] at e ⊢
  exact h.2 j w e
theorem u_tn {i:Nat}{x:Str}(hN:X.N.Nodup)(hi:X.N[i]?=some x)(hx:Loc X.env.scope x)(hf:X.fn x=true\/X.env.scope.names.lookup x=some .local):PG X (.Name x pos) (lG X.K (tgU (.n i))):=by
 refine (jii hN hi hx hf).imp fun v σ H Q h=>?_
 obtain ⟨u,ς,k,r,hς,h,q⟩:=h
 exact q _ _ (hς.set r i) h
theorem u_tt {es:List Expr}{k n:Nat}{ts:Tgs}(hc:X.calm=true)(h:PGs X es (lGs X.K (tgsU ts)))(hn:(assignEach es X.env).length=n)(hst:(assignEach es X.env).findIdx? (·.1)=none)(hl:∀ us ς k,tgsU ts us ς k->us.length=n) :
  PG X (.Tuple es k pos) (lG X.K (tgU (.t ts))):=by
 refine (jjW hc h hn hst).imp fun v σ H Q h=>?_
 obtain ⟨u,ς,k,r,hς,h,q⟩:=h
 cases u with
 | tup us=>
  obtain ⟨a,vs,rfl,e,rs⟩:=r
  have h':tgsU ts us ς k:=h
  exact ⟨a,vs,rfl,.of e,by rw [<- rs.length]; exact hl _ _ _ h',us,ς,k,rs,hς,h',q⟩
 | _=>exact h.elim
theorem jlz:PGs X [] (lGs X.K (tgsU .nil)):=by
 refine jih.imp fun vs σ H Q h=>?_
 obtain ⟨us,ς,k,r,hς,h,q⟩:=h
 obtain ⟨rfl,h⟩:=h
 cases r
 exact ⟨rfl,q _ _ hς h⟩
theorem jlA {e:Expr}{es:List Expr}{t:Tg}{ts:Tgs}(h1:PG X e (lG X.K (tgU t)))(h2:PGs X es (lGs X.K (tgsU ts)))(hs:(assignEach (e::es) X.env).map (·.2)=assign e X.env::(assignEach es X.env).map (·.2)) :
  PGs X (e::es) (lGs X.K (tgsU (.cons t ts))):=by
 refine (jgv h1 h2 hs).imp fun vs σ H Q h=>?_
 obtain ⟨us,ς,k,r,hς,h,q⟩:=h
 cases us with
 | nil=>exact h.elim
 | cons u us=>
  obtain ⟨v,vr,rfl,r1,rs⟩:=r
  exact ⟨v,vr,rfl,u,ς,_,r1,hς,h,fun ς' σ' hs' h'=>⟨us,ς',k,rs,hs',h',q⟩⟩
end
noncomputable def lE0 (K:PySem.W.Frag)(t:UE):TE:=fun τ H Q0=>∃ ς G Q,SR K H ς τ/\HR K H G/\t ς G Q (fun _ _=>False)/\∀ w v G' H',RU K H' w v->HR K H' G'->Fr H G H' G'->Q w G'->Q0 v H'
noncomputable def lT0 (K:PySem.W.Frag)(t:Sg->Gp->(Bool->Gp->Prop)->Prop):TT:=fun τ H Q0=>∃ ς G Q,SR K H ς τ/\HR K H G/\t ς G Q/\∀ b G' H',HR K H' G'->Fr H G H' G'->Q b G'->Q0 b H'
theorem LX.no {X:Cx}{σ:St}{H:Hp}{G:Gp}:LX X σ H G fun _ _=>False:=fun _ _ _ _ _ _ _ _ _ _ h=>h.elim
theorem lE0.of {X:Cx}{e:Expr}{t:UE}(h:PE X e (lE X t)):PE X e (lE0 X.K t):=h.imp fun σ H Q0 ⟨ς,G,Q,h1,h2,h3,h4⟩=>⟨ς,G,Q,_,h1,h2,h3,h4,LX.no⟩
theorem lT0.of {X:Cx}{e:Expr}{t:UT}(h:PT X e (lT X t)):PT X e (lT0 X.K fun ς G Q=>t ς G Q fun _ _=>False):=h.imp fun σ H Q0 ⟨ς,G,Q,h1,h2,h3,h4⟩=>⟨ς,G,Q,_,h1,h2,h3,h4,LX.no⟩
mutual
noncomputable def tgS:Tg->List Nat
 | .n i=>[i]
 | .t ts=>tgsS ts
noncomputable def tgsS:Tgs->List Nat
 | .nil=>[]
 | .cons t ts=>tgS t++tgsS ts
end
noncomputable def Ext (ς0 ς:Sg):Prop:=ς0.length=ς.length/\∀ (j:Nat) (w:U),ς0[j]?=some (some w)->ς[j]?=some (some w)
mutual
theorem jg7 {ς0:Sg}:∀ {t:Tg} {u:U} {ς:Sg} {k:Sg->Prop},(∀ i∈tgS t,∀ w,ς0[i]?≠some (some w))->Ext ς0 ς->tgU t u ς k->tgU t u ς fun ς'=>k ς'/\Ext ς0 ς'
 | .n i,u,ς,k,hf,he,h=>by
  refine ⟨h,by simp [he.1],fun j w e=>?_⟩
  have hj:j≠i:=fun z=>hf i (by simp [tgS]) w (z ▸ e)
  rw [List.getElem?_set_ne (Ne.symm hj)]
  exact he.2 j w e
 | .t ts,u,ς,k,hf,he,h=>by
  cases u with
  | tup us=>exact je5 (ts:=ts) (us:=us) (fun i hi=>hf i hi) he h
  | _=>exact h
theorem je5 {ς0:Sg}:∀ {ts:Tgs} {us:List U} {ς:Sg} {k:Sg->Prop},(∀ i∈tgsS ts,∀ w,ς0[i]?≠some (some w))->Ext ς0 ς->tgsU ts us ς k->tgsU ts us ς fun ς'=>k ς'/\Ext ς0 ς'
 | .nil,us,ς,k,_,he,h=>⟨h.1,h.2,he⟩
 | .cons t ts,us,ς,k,hf,he,h=>by
  cases us with
  | nil=>exact h
  | cons u r=>
   have:=jg7 (t:=t) (u:=u) (fun i hi=>hf i (by simp [tgsS,hi])) he h
   refine jbN this fun ς' ⟨h1,h2⟩=>je5 (fun i hi=>hf i (by simp [tgsS,hi])) h2 h1
theorem jbN:∀ {t:Tg} {u:U} {ς:Sg} {k k':Sg->Prop},tgU t u ς k->(∀ ς,k ς->k' ς)->tgU t u ς k'
 | .n _,_,_,_,_,h,i=>i _ h
 | .t ts,u,ς,_,_,h,i=>by
  cases u with
  | tup us=>exact jed (ts:=ts) (us:=us) h i
  | _=>exact h
theorem jed:∀ {ts:Tgs} {us:List U} {ς:Sg} {k k':Sg->Prop},tgsU ts us ς k->(∀ ς,k ς->k' ς)->tgsU ts us ς k'
 | .nil,_,_,_,_,h,i=>⟨h.1,i _ h.2⟩
 | .cons t ts,us,ς,_,_,h,i=>by
  cases us with
  | nil=>exact h
  | cons u r=>exact jbN (t:=t) h fun ς' h'=>jed h' i
end
theorem SR.ext {K:PySem.W.Frag}{H:Hp}{ς0 ς:Sg}{σ:St}(h:SR K H ς σ)(e:Ext ς0 ς):SR K H ς0 σ:=⟨e.1.trans h.1,fun i u q=>h.2 i u (e.2 i u q)⟩
theorem SR.pick {K:PySem.W.Frag}{H:Hp}{ς:Sg}{σ:St}(h:SR K H ς σ)(pick:List (Option Nat)):SR K H (ja9 pick ς) (pick.map fun o=>o.bind fun j=>(σ[j]?).join):=by
 refine ⟨by simp [ja9],fun i u e=>?_⟩
 unfold ja9 at e
 rw [List.getElem?_map] at e ⊢
 cases q:pick[i]? with
 | none=>rw [q] at e; cases e
 | some o=>
  rw [q] at e
  cases o with
  | none=>simp at e
  | some j=>
   simp only [Option.map_some,Option.bind_some,Option.some.injEq] at e ⊢
   have e':ς[j]?=some (some u):=by
    cases z:ς[j]? with
    | none=>rw [z] at e; cases e
    | some w=>rw [z] at e; simp at e; rw [e]
   obtain ⟨v,ev,r⟩:=h.2 j u e'
   exact ⟨v,by rw [ev]; rfl,r⟩
section
variable {K:PySem.W.Frag}{H:Hp}{G:Gp}
theorem HR.newH (h:HR K H G){p:Addr}{o:HO}(e:H p=none):HR K (upd H p o) G:=⟨fun a ob q=>by
 have m:=h a ob q
 obtain ⟨ho,e2⟩:=m.there
 exact m.keep (jac (jae e2 e)) (TS.new e),h.tab.new e⟩
theorem TS.hid {p:Addr}{ys:List V}{o:HO}(e:H p=some (.lst ys)):TS H (upd H p o):=⟨fun a xs h=>by
 have:a≠p:=fun z=>by subst z; rw [e] at h; cases h
 rw [jac this]; exact h,fun a ob h=>by
 have:a≠p:=fun z=>by subst z; rw [e] at h; cases h
 rw [jac this]; exact h⟩
theorem HR.hid (h:HR K H G){p:Addr}{ys:List V}{o:HO}(e:H p=some (.lst ys))(g:G p=none):HR K (upd H p o) G:=⟨fun a ob q=>by
 have:a≠p:=fun z=>by subst z; rw [g] at q; cases q
 exact (h a ob q).keep (jac this) (TS.hid e),h.tab.upd (fun ps z=>by rw [e] at z; cases z) fun ob z=>by rw [e] at z; cases z⟩
theorem HR.know (h:HR K H G){p:Addr}{ys:List V}{us:List U}(e:H p=some (.lst ys))(r:RUs K H us ys):HR K H (gup G p (.lst us)):=⟨fun a ob q=>by
 by_cases z:a=p
 ·subst z
  rw [jap] at q
  cases q
  exact ⟨ys,e,r⟩
 ·rw [jaZ z] at q
  exact h a ob q,h.tab⟩
end
section
variable {X:Cx}{pick:List (Option Nat)}{ti:UI}{t:Tg}{tc:Sg->Gp->(Bool->Gp->Prop)->Prop}{te:UE}{σ:St}{H:Hp}{Q0:VK}
noncomputable abbrev lcD (pick : List (Option Nat))(ti : UI)(t : Tg)(tc : Sg -> Gp -> (Bool -> Gp -> Prop) -> Prop)(te : UE) : UE := fun ς G Q E => ti ς G (fun xs ok G1 => xs.length <= sizeLine /\ jce ok (fun x G2 k => tgU t x (ja9 pick ς) fun τ => tc τ G2 (fun b G3 => if b = true then te τ G3 (fun u G4 => k (some u) G4) (fun _ _ => False) else k none G3)) xs [] G1
      fun us G5 => newO G5 (.lst us) Q) E
structure FrX (D:Addr)(H:Hp)(G:Gp)(H':Hp)(G':Gp):Prop where
 go:∀ a o,a≠D->H a=some o->G a=none->(nt:noTb o=true:=by rfl)->H' a=some o/\G' a=none
instance {D:Addr} {H H':Hp} {G G':Gp}:CoeFun (FrX D H G H' G') fun _=>∀ a o,a≠D->H a=some o->G a=none->(nt:noTb o=true:=by rfl)->H' a=some o/\G' a=none:=⟨@FrX.go D H G H' G'⟩
theorem jku {xs:List U}{ok:Gp->Prop}{G1:Gp}{H1:Hp}{J:L2.It}{τu:Sg}{τ0:St}{D:Addr}{acc0:List U}{ys0:List V}{kk:List U->Gp->Prop}{QQ:St->List V->Hp->Prop}
  (free:∀ i∈tgS t,∀ w,τu[i]?≠some (some w)) (wk:jd8 X.K J H1 G1 xs ok) (hG1:HR X.K H1 G1) (eD1:H1 D=some (.lst ys0)) (gD1:G1 D=none) (ra1:RUs X.K H1 acc0 ys0) (sr1:SR X.K H1 τu τ0) (hl:acc0.length + xs.length<=sizeLine)
  (h1:jce ok (fun x G2 k=>tgU t x τu fun τ=>tc τ G2 (fun b G3=>if b=true then te τ G3 (fun u G4=>k (some u) G4) (fun _ _=>False) else k none G3)) xs acc0 G1 kk)
  (fin:∀ τ' acc' ys' G' H',SR X.K H' τu τ'->HR X.K H' G'->FrX D H1 G1 H' G'->H' D=some (.lst ys')->G' D=none->RUs X.K H' acc' ys'->kk acc' G'->QQ τ' ys' H') :
  jf8 J (lG X.K (tgU t)) (lT0 X.K tc) (emA (lE0 X.K te) D) QQ τ0 ys0 H1:=by
 refine ⟨fun i m τ ys H'=>m=xs.length - i/\i<=xs.length/\∃ acc G',SR X.K H' τu τ/\HR X.K H' G'/\FrX D H1 G1 H' G'/\H' D=some (.lst ys)/\G' D=none/\RUs X.K H' acc ys/\acc.length<=acc0.length + i/\
  jce ok (fun x G2 k=>tgU t x τu fun τ=>tc τ G2 (fun b G3=>if b=true then te τ G3 (fun u G4=>k (some u) G4) (fun _ _=>False) else k none G3)) (xs.drop i) acc G' kk,⟨xs.length,by simp,Nat.zero_le _,acc0,G1,sr1,hG1,⟨fun _ _ _ a b _=>⟨a,b⟩⟩,eD1,gD1,ra1,by omega,by simpa using h1⟩,?_⟩
 rintro i m τ ys H' ⟨rfl,hi,acc,G',sr,hr,f,eD,gD',ra,hal,hc⟩
 have ts:TS H1 H':=⟨fun a zs e=>(f a _ (fun z=>by rw [z,eD1] at e; cases e) e (hG1.tupNone e)).1,fun a zs e=>(f a _ (fun z=>by rw [z,eD1] at e; cases e) e (hG1.codNone e)).1⟩
 by_cases hlt:i < xs.length
 ·rw [List.drop_eq_getElem_cons hlt] at hc
  obtain ⟨hok,hb⟩:=hc
  obtain ⟨w1,_⟩:=wk i H' G' ts hr hok
  obtain ⟨go,yl⟩:=w1 xs[i] (by simp [hlt])
  refine .inr ⟨go,fun v H'' y=>?_⟩
  obtain ⟨rx,hr2,f2⟩:=yl v H'' y
  have sr2:=sr.ts (f2.ts hr)
  refine ⟨xs[i],τu,_,rx,sr2,jg7 free ⟨rfl,fun _ _ e=>e⟩ hb,fun τv σ' hs' ⟨hk,he⟩=>?_⟩
  refine ⟨τv,G',_,hs',hr2,hk,fun b G3 H3 hr3 f3 h3=>?_⟩
  have f13:FrX D H1 G1 H3 G3:=⟨fun a o n h g nt=>let ⟨a1,a2⟩:=f a o n h g nt; let ⟨b1,b2⟩:=f2 a o a1 a2 nt; f3 a o b1 b2 nt⟩
  have hs3:SR X.K H3 τu σ':=(hs'.ext he).ts (f3.ts hr2)
  obtain ⟨eD2,gD2⟩:=f2 D _ eD gD'
  obtain ⟨eD3,gD3⟩:=f3 D _ eD2 gD2
  have ra3:=(ra.ts (f2.ts hr)).ts (f3.ts hr2)
  cases b with
  | false=>
   rw [if_neg Bool.false_ne_true] at h3
   dsimp only
   rw [if_neg Bool.false_ne_true]
   exact ⟨xs.length - (i + 1),by omega,rfl,hlt,acc,G3,hs3,hr3,f13,eD3,gD3,ra3,by omega,h3⟩
  | true=>
   rw [if_pos rfl] at h3
   dsimp only
   rw [if_pos rfl]
   refine ⟨τv,G3,_,hs'.ts (f3.ts hr2),hr3,h3,fun u v G4 H4 ru hr4 f4 h4=>?_⟩
   obtain ⟨eD4,gD4⟩:=f4 D _ eD3 gD3
   have ra4:=ra3.ts (f4.ts hr3)
   have tsn:=TS.hid (o:=.lst (ys++[v])) eD4
   refine ⟨eD4,by rw [<- ra.length]; omega,xs.length - (i + 1),by omega,rfl,hlt,acc++[u],G4,(hs3.ts (f4.ts hr3)).ts tsn,hr4.hid eD4 gD4,?_,jah,gD4,(ra4.append (RUs.mk (us:=[]) (vs:=[]) ru rfl)).ts tsn,by simp; omega,h4⟩
   refine ⟨fun a o n ha ga nt=>?_⟩
   obtain ⟨x1,x2⟩:=f13 a o n ha ga nt
   obtain ⟨y1,y2⟩:=f4 a o x1 x2 nt
   exact ⟨by rw [jac n]; exact y1,y2⟩
 ·have e:i=xs.length:=by omega
  subst e
  rw [List.drop_length] at hc
  obtain ⟨hok,q⟩:=hc
  obtain ⟨_,w2⟩:=wk xs.length H' G' ts hr hok
  exact .inl ⟨w2 rfl,fin τ acc ys G' H' sr hr f eD gD' ra q⟩
theorem jfh {is:List Nat}(hp:is.all (fun i=>(pick[i]?).join.isNone)=true)(ς:Sg):∀ i∈is,∀ w,(ja9 pick ς)[i]?≠some (some w):=fun i hi w e=>by
 have:=List.all_eq_true.mp hp i hi
 unfold ja9 at e
 rw [List.getElem?_map] at e
 cases q:pick[i]? with
 | none=>rw [q] at e; cases e
 | some o=>
  rw [q] at e this
  cases o with
  | none=>simp at e
  | some j=>simp at this
theorem jhm (hp:(tgS t).all (fun i=>(pick[i]?).join.isNone)=true)(h:lE X (lcD pick ti t tc te) σ H Q0):tLc pick (lI X ti) (lG X.K (tgU t)) (lT0 X.K tc) (lE0 X.K te) σ H Q0:=by
 obtain ⟨ς,G,Q,E,hς,hG,h,lv,lx⟩:=h
 refine ⟨ς,G,_,E,hς,hG,h,fun xs ok G1 H1 J hG1 f1 wk h1=>?_,lx⟩
 obtain ⟨hl,h1⟩:=h1
 intro D hD
 refine jku (acc0:=[]) (jfh hp ς) (wk.mono (TS.new hD)) (hG1.newH hD) jah (hG1.nope hD) rfl (((hς.ts (f1.ts hG)).ts (TS.new hD)).pick pick) (by simpa using hl) h1 fun τ' acc' ys' G' H' sr hr f eD gD' ra q=>?_
 refine lv (.loc D) (.ref D) _ H' rfl (hr.know eD ra) ?_ (q.at D gD')
 refine ⟨fun a o ha ga nt=>?_⟩
 obtain ⟨x1,x2⟩:=f1 a o ha ga nt
 obtain ⟨y1,y2⟩:=f a o (jae x1 hD) (by rw [jac (jae x1 hD)]; exact x1) x2 nt
 exact ⟨y1,by rw [jaZ (jae x1 hD)]; exact y2⟩
noncomputable def lI0 (K:PySem.W.Frag)(t:UI):TI:=fun σ H R=>∃ ς G Q,SR K H ς σ/\HR K H G/\t ς G Q (fun _ _=>False)/\∀ xs ok G' H' J,HR K H' G'->Fr H G H' G'->jd8 K J H' G' xs ok->Q xs ok G'->R J H'
mutual
theorem jhQ {is:List Nat}:∀ {t:Tg} {u:U} {ς:Sg} {k:Sg->Prop},(∀ i∈is,i∉tgS t)->(∀ i∈is,∀ w,ς[i]?≠some (some w))->tgU t u ς k->tgU t u ς fun ς'=>k ς'/\∀ i∈is,∀ w,ς'[i]?≠some (some w)
 | .n j,u,ς,k,hf,he,h=>by
  refine ⟨h,fun i hi w e=>?_⟩
  have hj:i≠j:=fun z=>hf i hi (by simp [tgS,z])
  rw [List.getElem?_set_ne (Ne.symm hj)] at e
  exact he i hi w e
 | .t ts,u,ς,k,hf,he,h=>by
  cases u with
  | tup us=>exact jee (ts:=ts) (us:=us) (fun i hi=>hf i hi) he h
  | _=>exact h
theorem jee {is:List Nat}:∀ {ts:Tgs} {us:List U} {ς:Sg} {k:Sg->Prop},(∀ i∈is,i∉tgsS ts)->(∀ i∈is,∀ w,ς[i]?≠some (some w))->tgsU ts us ς k->tgsU ts us ς fun ς'=>k ς'/\∀ i∈is,∀ w,ς'[i]?≠some (some w)
 | .nil,us,ς,k,_,he,h=>⟨h.1,h.2,he⟩
 | .cons t ts,us,ς,k,hf,he,h=>by
  cases us with
  | nil=>exact h
  | cons u r=>
   have:=jhQ (t:=t) (u:=u) (fun i hi z=>hf i hi (by simp [tgsS,z])) he h
   refine jbN this fun ς' ⟨h1,h2⟩=>jee (fun i hi z=>hf i hi (by simp [tgsS,z])) h2 h1
end
variable {tg iter elt:Expr}{ifs:List Expr}{pos:Pos}{N:List Str}{scope:Scope}
theorem u_lc (hc:X.calm=true)(S:CScope X N pick scope)(hw:PI X tg iter (lI X ti))(hp:(tgS t).all (fun i=>(pick[i]?).join.isNone)=true)
  (hg:∀ cl C s₀ H₀ fp,PG (jag X N scope cl C s₀ H₀ fp) tg (lG X.K (tgU t))) (hi:∀ cl C s₀ H₀ fp,PIfs (jag X N scope cl C s₀ H₀ fp) ifs (lT0 X.K tc)) (he:∀ cl C s₀ H₀ fp,PE (jag X N scope cl C s₀ H₀ fp) elt (lE0 X.K te))
  (hs:∀ x,foldedSetIterable iter X.env x=pure x):PE X (.ListComp elt [⟨tg,iter,ifs,0⟩] scope pos) (lE X (lcD pick ti t tc te)):=
 (jme hc S hw hg hi he hs).imp fun _ _ _ h=>jhm hp h
end
section
variable {X:Cx}{e:Expr}{te ta tb:UE}{p pos:Pos}
theorem jlG (hg:Gl X "list")(hm:X.mg "list" = none)(ha:PE X e (lE X te))(he:starEach [e] X.env=[(false,eval e X.env)]) :
  PE X (.Call (.Name "list" p) [e] [] pos) (lE X fun ς G Q E=>te ς G (fun x G1=>itU x G1 fun xs _=>newO G1 (.lst xs) Q) E):=by
 refine (jbS (jdB (X:=X)) hg hm PyProof.Rows.boot_list (jco ha je2 he) (by decide) (by decide) he rfl).imp fun σ H Q0 h=>?_
 obtain ⟨ς,G,Q,E,hς,hG,h,lv,lx⟩:=h
 refine ⟨ς,G,fun us G1=>match us with | [x]=>(itU x G1 fun xs _=>newO G1 (.lst xs) Q) | _=>False,E,hς,hG,h,fun us vs G1 H1 rs hG1 f1 h1=>?_,lx⟩
 dsimp only at h1
 split at h1
 ·obtain ⟨v,rfl,r⟩:=rs.one
  unfold itU at h1
  split at h1
  ·obtain ⟨a,ws,rfl,ea,rr⟩:=r
   exact ⟨a,ws,rfl,.inr (.of ea),fun l hl=>(lv.fr f1).lst hl rr hG1 h1⟩
  ·cases r
   split at h1
   ·rename_i us eu
    obtain ⟨ws,sq,rr⟩:=hG1.ls eu
    exact ⟨_,ws,rfl,.inl sq,fun l hl=>(lv.fr f1).lst hl rr hG1 h1⟩
   ·exact h1.elim
  ·exact h1.elim
 ·exact h1.elim
theorem jlF (hg:Gl X "tuple")(hm:X.mg "tuple" = none)(ha:PE X e (lE X te))(he:starEach [e] X.env=[(false,eval e X.env)]) :
  PE X (.Call (.Name "tuple" p) [e] [] pos) (lE X fun ς G Q E=>te ς G (fun x G1=>itU x G1 fun xs _=>Q (.tup xs) G1) E):=by
 refine (jbS (jc3 (X:=X)) hg hm PyProof.Rows.boot_tuple (jco ha je2 he) (by decide) (by decide) he rfl).imp fun σ H Q0 h=>?_
 obtain ⟨ς,G,Q,E,hς,hG,h,lv,lx⟩:=h
 refine ⟨ς,G,fun us G1=>match us with | [x]=>(itU x G1 fun xs _=>Q (.tup xs) G1) | _=>False,E,hς,hG,h,fun us vs G1 H1 rs hG1 f1 h1=>?_,lx⟩
 dsimp only at h1
 split at h1
 ·obtain ⟨v,rfl,r⟩:=rs.one
  unfold itU at h1
  split at h1
  ·obtain ⟨a,ws,rfl,ea,rr⟩:=r
   exact ⟨a,ws,rfl,.inr ⟨.of ea,(lv.fr f1).here (w:=.tup _) ⟨a,ws,rfl,ea,rr⟩ hG1 h1⟩⟩
  ·cases r
   split at h1
   ·rename_i us eu
    obtain ⟨ws,sq,rr⟩:=hG1.ls eu
    exact ⟨_,ws,rfl,.inl ⟨sq,fun l hl=>(lv.fr f1).tup hl rr hG1 h1⟩⟩
   ·exact h1.elim
  ·exact h1.elim
 ·exact h1.elim
theorem u_ty {x:Str}{n:String}(hg:Gl X x)(hm:X.mg x=none)(hv:bootBuiltins x=some (.type n))(hn:x ≠ "__name__")(hd:(x == ("__debug__" : Str))=false):PE X (.Name x pos) (lE X fun _ G Q _=>Q (.ty n) G):=
 jbl (u:=.ty n) (jin (v:=.ty n) hg hm hv rfl hn hd) fun _=>rfl
theorem u_gl {x:Str}{u:U}{v:V}{w:Value}(hg:Gl X x)(hm:X.mg x=some w)(r:RelV v w)(hr:∀ H,RU X.K H u v)(hd:(x == ("__debug__" : Str))=false):PE X (.Name x pos) (lE X fun _ G Q _=>Q u G):=
 jbl (jik hg hm r hd) hr
theorem jjl:PE X (.Dict [] [] pos) (lE X fun _ G Q _=>newO G (.dK []) Q):=by
 refine jgy.imp fun σ H Q0 h p hp=>?_
 obtain ⟨ς,G,Q,E,hς,hG,h,lv,lx⟩:=h
 exact lv (.loc p) (.ref p) _ _ rfl (hG.newO (mo:=.dK []) hp ⟨[],jah,rfl⟩) (Fr.newO hp) (h.at p (hG.nope hp))
theorem RKs.put {κ:Type}[DecidableEq κ]{K:PySem.W.Frag}{H:Hp}{k:κ}{u:U}{v:V}(r:RU K H u v):∀ {kvs:List (κ×U)} {l:List (κ×V)},RKs K H kvs l->RKs K H (dPut kvs k u) (putK l k v):=by
 intro kvs l h
 have any:∀ {kvs:List (κ×U)} {l:List (κ×V)},RKs K H kvs l->(kvs.any fun kv=>decide (kv.1=k))=l.any fun kv=>decide (kv.1=k):=by
  intro kvs
  induction kvs with
  | nil=>intro l h; cases h; rfl
  | cons p q ih=>intro l h; obtain ⟨w,l',rfl,_,rs⟩:=h; simp only [List.any_cons]; rw [ih rs]
 have repl:∀ {kvs:List (κ×U)} {l:List (κ×V)},RKs K H kvs l->RKs K H (kvs.map fun kv=>if kv.1=k then (kv.1,u) else kv) (l.map fun kv=>if kv.1=k then (kv.1,v) else kv):=by
  intro kvs
  induction kvs with
  | nil=>intro l h; cases h; rfl
  | cons p q ih=>
   intro l h
   obtain ⟨k',u'⟩:=p
   obtain ⟨w,l',rfl,rw',rs⟩:=h
   simp only [List.map_cons]
   by_cases e:k'=k
   ·rw [if_pos e,if_pos e]; exact ⟨v,_,rfl,r,ih rs⟩
   ·rw [if_neg e,if_neg e]; exact ⟨w,_,rfl,rw',ih rs⟩
 have snoc:∀ {kvs:List (κ×U)} {l:List (κ×V)},RKs K H kvs l->RKs K H (kvs++[(k,u)]) (l++[(k,v)]):=by
  intro kvs
  induction kvs with
  | nil=>intro l h; cases h; exact ⟨v,[],rfl,r,rfl⟩
  | cons p q ih=>intro l h; obtain ⟨k',u'⟩:=p; obtain ⟨w,l',rfl,rw',rs⟩:=h; exact ⟨w,_,rfl,rw',ih rs⟩
 unfold dPut putK
 rw [any h]
 split
 ·exact repl h
 ·exact snoc h
theorem RKs.length {κ:Type}{K:PySem.W.Frag}{H:Hp}:∀ {kvs:List (κ×U)} {l:List (κ×V)},RKs K H kvs l->kvs.length=l.length
 | [],_,h=>by cases h; rfl
 | (_,_)::_,_,h=>by obtain ⟨v,l',rfl,_,rs⟩:=h; simp [rs.length]
theorem RKs.merge {K:PySem.W.Frag}{H:Hp}:∀ {more:List (Key×U)} {m:List (Key×V)},RKs K H more m->∀ {kvs:List (Key×U)} {l:List (Key×V)},RKs K H kvs l->RKs K H (more.foldl (fun acc kv=>dPut acc kv.1 kv.2) kvs) (jb1 l m)
 | [],_,h,_,_,h'=>by cases h; exact h'
 | (k,u)::more,_,h,_,_,h'=>by
  obtain ⟨v,l',rfl,r,rs⟩:=h
  exact RKs.merge rs (h'.put r)
noncomputable def lD (X:Cx)(t:Sg->Gp->(List (Key×U)->Gp->Prop)->KX->Prop)(trs:List (TE×TE)):Prop:=
 ∀ σ H ς G Q E (Q0:List (V×V)->Hp->Prop),SR X.K H ς σ->HR X.K H G->t ς G Q E->LX X σ H G E->
  (∀ kvs (l:List (Key×V)) G' H',RKs X.K H' kvs l->HR X.K H' G'->Fr H G H' G'->Q kvs G'->Q0 (l.map fun kv=>(kV kv.1,kv.2)) H')->jef trs σ H Q0
theorem jlK {keys:List (Option Expr)}{values:List Expr}{trs:List (TE×TE)}{t:Sg->Gp->(List (Key×U)->Gp->Prop)->KX->Prop}(hp:PPs X pos keys values trs)(hd:lD X t trs)(hall:keys.all (·.isSome)=true)(hl:keys.length=values.length)(h0:keys≠[])
  (h15:keys.length<=15):PE X (.Dict keys values pos) (lE X fun ς G Q E=>t ς G (fun kvs G1=>kvs.length<=15/\newO G1 (.dK (jcc kvs)) Q) E):=by
 refine (jil hp hall hl h0 h15).imp fun σ H Q0 h p hp=>?_
 obtain ⟨ς,G,Q,E,hς,hG,h,lv,lx⟩:=h
 have gp:=hG.nope hp
 refine hd σ _ ς G _ E _ (hς.ts (TS.new hp)) (hG.newH hp) h (lx.fr (Fr.new hp)) fun kvs l G' H' r hG' f q=>?_
 obtain ⟨e,g⟩:=f p _ jah gp
 refine ⟨e,l,rfl,by rw [<- r.length]; exact q.1,?_⟩
 have ts:TS H' (upd H' p (.dK (jb1 [] l))):=⟨fun a xs h=>by
  have:a≠p:=fun z=>by subst z; rw [e] at h; cases h
  rw [jac this]; exact h,fun a xs h=>by
  have:a≠p:=fun z=>by subst z; rw [e] at h; cases h
  rw [jac this]; exact h⟩
 refine lv (.loc p) (.ref p) (gup G' p (.dK (jcc kvs))) _ rfl ⟨fun a ob z=>?_,hG'.tab.upd (fun ps z=>by rw [e] at z; cases z) fun ob z=>by rw [e] at z; cases z⟩ ⟨fun a o ha ga nt=>?_⟩ (q.2.at p g)
 ·by_cases ea:a=p
  ·subst ea
   rw [jap] at z
   cases z
   exact ⟨_,jah,(RKs.merge r (kvs:=[]) (l:=[]) rfl).ts ts⟩
  ·rw [jaZ ea] at z
   exact (hG' a ob z).keep (jac ea) ts
 ·have ea:a≠p:=jae ha hp
  obtain ⟨x1,x2⟩:=f a o (by rw [jac ea]; exact ha) ga nt
  exact ⟨by rw [jac ea]; exact x1,by rw [jaZ ea]; exact x2⟩
theorem jkx:lD X (fun _ G Q _=>Q [] G) []:=fun σ H ς G Q E Q0 hς hG h lx q=>q [] [] G H rfl hG (Fr.refl _ _) h
theorem jiF {tk tv : UE}{t : Sg -> Gp -> (List (Key × U) -> Gp -> Prop) -> KX -> Prop}{trs : List (TE × TE)}(hr : lD X t trs) : lD X (fun ς G Q E => tk ς G (fun x G1 => tv ς G1 (fun y G2 => match kU x with
      | some k => t ς G2 (fun kvs G3 => Q ((k, y) :: kvs) G3) E
      | none => False) E) E) ((lE X tk, lE X tv) :: trs) := by
  intro σ H ς G Q E Q0 hς hG h lx q
  refine ⟨ς, G, _, E, hς, hG, h, fun x v G1 H1 rx hG1 f1 h1 => ?_, lx⟩
  refine ⟨ς, G1, _, E, hς.ts (f1.ts hG), hG1, h1, fun y v' G2 H2 ry hG2 f2 h2 => ?_, lx.fr f1⟩
  dsimp only at h2
  split at h2
  · rename_i k ek
    have := jfF rx ek
    subst this
    refine hr σ H2 ς G2 _ E _ ((hς.ts (f1.ts hG)).ts (f2.ts hG1)) hG2 h2 (lx.fr (f1.trans f2)) fun kvs l G3 H3 r hG3 f3 h3 => ?_
    exact q ((k, y) :: kvs) ((k, v') :: l) G3 H3 ⟨v', l, rfl, ry.ts (f3.ts hG2), r⟩ hG3 ((f1.trans f2).trans f3) h3
  · exact h2.elim
end
end Z

namespace L2
open PySem
end L2
namespace Z
open PySem L2
set_option maxHeartbeats 4000000
structure LD (X:Cx)(H:Hp)(G:Gp)(De:En)(D:Ends):Prop where
 nx:∀ ς' σ' G' H',SR X.K H' ς' σ'->HR X.K H' G'->Fr H G H' G'->De.nx ς' G'->D.nx σ' H'
 rt:∀ w v G' H',RU X.K H' w v->HR X.K H' G'->Fr H G H' G'->De.rt w G'->D.rt v H'
 ex:∀ (pins:List (Addr×Obj)) (e:Value) (s':Shared) (x:XV) ς' σ' G' H',Inv X pins σ' H' s'->SR X.K H' ς' σ'->XAt X H' s' e x->HR X.K H' G'->Fr H G H' G'->De.ex x ς' G'->X.xe e s'
noncomputable abbrev US:=En->Sg->Gp->Prop
noncomputable def lS (X:Cx)(t:US):L2.TS:=fun D σ H=>∃ De ς G,SR X.K H ς σ/\HR X.K H G/\t De ς G/\LD X H G De D
section
variable {X:Cx}{H H1:Hp}{G G1:Gp}{De:En}{D:Ends}{ς:Sg}{σ:St}
theorem LD.fr (h:LD X H G De D)(f:Fr H G H1 G1):LD X H1 G1 De D:=
 ⟨fun ς' σ' G' H' a b c=>h.nx ς' σ' G' H' a b (f.trans c),fun w v G' H' a b c=>h.rt w v G' H' a b (f.trans c),fun pins e s' x ς' σ' G' H' i a b c d=>h.ex pins e s' x ς' σ' G' H' i a b c (f.trans d)⟩
theorem LD.lx (h:LD X H G De D)(hς:SR X.K H ς σ)(hG:HR X.K H G):LX X σ H G fun x G1=>De.ex x ς G1:=fun pins e s' x G' H' I a hr f q=>h.ex pins e s' x ς σ G' H' I (hς.ts (f.ts hG)) a hr f q
theorem LD.here (h:LD X H G De D)(hς:SR X.K H ς σ)(hG:HR X.K H G)(q:De.nx ς G):D.nx σ H:=h.nx ς σ G H hς hG (Fr.refl _ _) q
theorem LD.with {k:Sg->Gp->Prop}{D':Ends}(h:LD X H G De D)(hn:∀ ς' σ' G' H',SR X.K H' ς' σ'->HR X.K H' G'->Fr H G H' G'->k ς' G'->D'.nx σ' H')(hr:D'.rt=D.rt):LD X H G { De with nx:=k } D':=
 ⟨hn,fun w v G' H' a b c d=>by rw [hr]; exact h.rt w v G' H' a b c d,h.ex⟩
end
section
variable {X:Cx}{st:Stmt}{rest:List Stmt}{pos:Pos}{e:Expr}{te:UE}{t u:US}
theorem s_nil:PSs X [] (lS X fun D ς G=>D.nx ς G):=jh5.imp fun D σ H ⟨De,ς,G,hς,hG,h,ld⟩=>ld.here hς hG h
theorem s_cons (h1:PS X st (lS X t))(h2:PSs X rest (lS X u)):PSs X (st::rest) (lS X fun D ς G=>t { D with nx:=fun ς' G'=>u D ς' G' } ς G):=by
 refine (jgo h1 h2).imp fun D σ H ⟨De,ς,G,hς,hG,h,ld⟩=>?_
 exact ⟨_,ς,G,hς,hG,h,ld.with (fun ς' σ' G' H' a b c d=>⟨De,ς',G',a,b,d,ld.fr c⟩) rfl⟩
theorem s_expr (he:PE X e (lE X te))(hs:swapsWith e none pos.line X.env=pure false):PS X (.Expr e pos) (lS X fun D ς G=>te ς G (fun _ G1=>D.nx ς G1) fun x G1=>D.ex x ς G1):=
 (jh6 he hs).imp fun D σ H ⟨De,ς,G,hς,hG,h,ld⟩=>⟨ς,G,_,_,hς,hG,h,fun w v G' H' _ hr f q=>ld.nx ς σ G' H' (hς.ts (f.ts hG)) hr f q,ld.lx hς hG⟩
theorem s_ret (he:PE X e (lE X te)):PS X (.Return (some e) pos) (lS X fun D ς G=>te ς G D.rt fun x G1=>D.ex x ς G1):=
 (jjQ he).imp fun D σ H ⟨De,ς,G,hς,hG,h,ld⟩=>⟨ς,G,_,_,hς,hG,h,fun w v G' H' r hr f q=>ld.rt w v G' H' r hr f q,ld.lx hς hG⟩
theorem s_if {c:Expr}{a b:List Stmt}{tc:UT}(hc:PT X c (lT X tc))(ha:PSs X a (lS X t))(hb:PSs X b (lS X u)):PS X (.If c a b pos) (lS X fun D ς G=>tc ς G (fun x G1=>if x=true then t D ς G1 else u D ς G1) fun x G1=>D.ex x ς G1):=by
 refine (jma hc ha hb).imp fun D σ H ⟨De,ς,G,hς,hG,h,ld⟩=>⟨ς,G,_,_,hς,hG,h,fun b G' H' hr f q=>?_,ld.lx hς hG⟩
 cases b with
 | true=>rw [if_pos rfl] at q ⊢; exact ⟨De,ς,G',hς.ts (f.ts hG),hr,q,ld.fr f⟩
 | false=>rw [if_neg Bool.false_ne_true] at q ⊢; exact ⟨De,ς,G',hς.ts (f.ts hG),hr,q,ld.fr f⟩
theorem jja {g:Tg}{D:Ends}{σ:St}{H:Hp}(h:lS X (fun D ς G=>te ς G (fun u G1=>tgU g u ς fun ς'=>D.nx ς' G1) fun x G1=>D.ex x ς G1) D σ H) :
  lE X te σ H fun x H1=>lG X.K (tgU g) x σ H1 D.nx:=by
 obtain ⟨De,ς,G,hς,hG,h,ld⟩:=h
 exact ⟨ς,G,_,_,hς,hG,h,fun w v G' H' r hr f q=>⟨w,ς,_,r,hς.ts (f.ts hG),q,fun ς' σ' hs hk=>ld.nx ς' σ' G' H' hs hr f hk⟩,ld.lx hς hG⟩
theorem s_unp {ts:Tgs}{es:List Expr}{k n:Nat}{p:Pos}(hc:X.calm=true)(he:PE X e (lE X te))(hg:PGs X es (lGs X.K (tgsU ts)))(hn:(assignEach es X.env).length=n)(hst:(assignEach es X.env).findIdx? (·.1)=none)(hl:∀ us ς k,tgsU ts us ς k->us.length=n)
  (hs:swapsWithSole [.Tuple es k p] e pos.line X.env=pure false) (hw:swappedStores [.Tuple es k p] e X.env=pure none) (h1:(assignEach [.Tuple es k p] X.env).map (·.2)=[assign (.Tuple es k p) X.env]) :
  PS X (.Assign [.Tuple es k p] e pos) (lS X fun D ς G=>te ς G (fun u G1=>unpU ts u G1 ς fun ς'=>D.nx ς' G1) fun x G1=>D.ex x ς G1):=by
 refine (jff he (jjY hc hg hn hst) hs hw h1).imp fun D σ H h=>?_
 obtain ⟨De,ς,G,hς,hG,h,ld⟩:=h
 refine ⟨ς,G,_,_,hς,hG,h,fun w v G' H' r hr f q=>?_,ld.lx hς hG⟩
 cases w with
 | loc a=>
  cases r
  unfold unpU at q
  dsimp only at q
  split at q
  ·rename_i us eu
   obtain ⟨vs,sq,rs⟩:=hr.ls eu
   exact ⟨a,vs,rfl,sq,by rw [<- rs.length]; exact hl _ _ _ q,us,ς,_,rs,hς.ts (f.ts hG),q,fun ς' σ' hs hk=>ld.nx ς' σ' G' H' hs hr f hk⟩
  ·exact q.elim
 | _=>exact q.elim
noncomputable def lF (X:Cx)(t:Sg->Gp->(List Str->Gp->Prop)->KX->Prop):TF:=fun σ H Q0=>∃ ς G Q E,SR X.K H ς σ/\HR X.K H G/\t ς G Q E/\(∀ zs G' H',HR X.K H' G'->Fr H G H' G'->Q zs G'->Q0 zs H')/\LX X σ H G E
theorem PJ.imp {vs:List Expr}{t t':TF}(h:PJ X vs t)(i:∀ σ H Q,t' σ H Q->t σ H Q):PJ X vs t':=fun out pins s σ H Q hl I q=>h out pins s σ H Q hl I (i σ H _ q)
theorem jmC:PJ X [] (lF X fun _ G Q _=>Q [] G):=PJ.imp jjT fun σ H Q ⟨ς,G,Q',E,hς,hG,h,lv,lx⟩=>lv [] G H hG (Fr.refl _ _) h
theorem ji0 {x:Str}{j:Nat}{p:Pos}{vs:List Expr}{tf:Sg->Gp->(List Str->Gp->Prop)->KX->Prop}(hx:x.length<=10000)(h:PJ X vs (lF X tf)):PJ X (.Constant (.str x) j p::vs) (lF X fun ς G Q E=>fpU (.str x) fun z=>tf ς G (fun zs G2=>Q (z::zs) G2) E):=
 PJ.imp (jgr hx h) fun σ H Q ⟨ς,G,Q',E,hς,hG,h,lv,lx⟩=>⟨ς,G,_,E,hς,hG,h.2,fun zs G' H' hr f q=>lv _ G' H' hr f q,lx⟩
theorem f_fv {p:Pos}{vs:List Expr}{tf:Sg->Gp->(List Str->Gp->Prop)->KX->Prop}(he:PE X e (lE X te))(h:PJ X vs (lF X tf)):PJ X (.FormattedValue e (-1) none p::vs) (lF X fun ς G Q E=>te ς G (fun x G1=>fpU x fun z=>tf ς G1 (fun zs G2=>Q (z::zs) G2) E) E):=by
 refine PJ.imp (jmb he h) fun σ H Q ⟨ς,G,Q',E,hς,hG,h,lv,lx⟩=>?_
 refine ⟨ς,G,_,E,hς,hG,h,fun w v G1 H1 r hG1 f1 q=>?_,lx⟩
 cases w with
 | str z=>
  cases r
  exact .inl ⟨z,rfl,q.1,ς,G1,_,E,hς.ts (f1.ts hG),hG1,q.2,fun zs G' H' hr f q=>lv _ G' H' hr (f1.trans f) q,lx.fr f1⟩
 | int i=>
  cases r
  exact .inr ⟨i,rfl,q.1,ς,G1,_,E,hς.ts (f1.ts hG),hG1,q.2,fun zs G' H' hr f q=>lv _ G' H' hr (f1.trans f) q,lx.fr f1⟩
 | _=>exact q.elim
theorem jlJ {a b:Expr}{vs:List Expr}{tf:Sg->Gp->(List Str->Gp->Prop)->KX->Prop}(h:PJ X (a::b::vs) (lF X tf))(hn:(a::b::vs).length<=20):PE X (.JoinedStr (a::b::vs) pos) (lE X fun ς G Q E=>tf ς G (fun zs G1=>Q (.str (L2.cats Str.empty zs)) G1) E):=
 PE.imp (jj5 h hn) fun σ H Q ⟨ς,G,Q',E,hς,hG,h,lv,lx⟩=>⟨ς,G,_,E,hς,hG,h,fun zs G' H' hr f q=>lv (.str _) _ G' H' rfl hr f q,lx⟩
theorem s_asg {tg:Expr}{g:Tg}(he:PE X e (lE X te))(hg:PG X tg (lG X.K (tgU g)))(hs:swapsWithSole [tg] e pos.line X.env=pure false)(hw:swappedStores [tg] e X.env=pure none)
  (h1:(assignEach [tg] X.env).map (·.2)=[assign tg X.env]):PS X (.Assign [tg] e pos) (lS X fun D ς G=>te ς G (fun u G1=>tgU g u ς fun ς'=>D.nx ς' G1) fun x G1=>D.ex x ς G1):=
 (jff he hg hs hw h1).imp fun _ _ _ h=>jja h
theorem s_lc {i:Nat}{y:Str}{py spos:Pos}{tg iter elt:Expr}{ifs:List Expr}{pick:List (Option Nat)}{N:List Str}{scope:Scope}{ti:UI}{g:Tg}{tc:Sg->Gp->(Bool->Gp->Prop)->Prop}
  (hN:X.N.Nodup) (hi':X.N[i]?=some y) (hy:X.env.scope.names.lookup y=some .local) (hc:X.calm=true) (S:CScope X N pick scope) (hw:PI X tg iter (lI X ti)) (hp:(tgS g).all (fun i=>(pick[i]?).join.isNone)=true)
  (hg:∀ cl C s₀ H₀ fp,PG (jag X N scope cl C s₀ H₀ fp) tg (lG X.K (tgU g))) (hi:∀ cl C s₀ H₀ fp,PIfs (jag X N scope cl C s₀ H₀ fp) ifs (lT0 X.K tc)) (he:∀ cl C s₀ H₀ fp,PE (jag X N scope cl C s₀ H₀ fp) elt (lE0 X.K te))
  (hsw:swapsWith (.ListComp elt [⟨tg,iter,ifs,0⟩] scope pos) (some (.Name y py)) spos.line X.env=pure true) (hs:∀ x,foldedSetIterable iter X.env x=pure x) :
  PS X (.Assign [.Name y py] (.ListComp elt [⟨tg,iter,ifs,0⟩] scope pos) spos) (lS X fun D ς G=>lcD pick ti g tc te ς G (fun u G1=>tgU (.n i) u ς fun ς'=>D.nx ς' G1) fun x G1=>D.ex x ς G1):=by
 refine (jl9 hN hi' hy hc S hw hg hi he hsw hs).imp fun D σ H h=>?_
 obtain ⟨De,ς,G,hς,hG,h,ld⟩:=h
 exact jhm hp ⟨ς,G,_,_,hς,hG,h,fun w v G' H' r hr f q=>ld.nx _ _ G' H' ((hς.ts (f.ts hG)).set r i) hr f q,ld.lx hς hG⟩
noncomputable def jjN:TSet:=fun o i v H Q=>∃ a H',o=.ref a/\DPut H a i v H'/\Q H'
theorem jgg (hu:X.A.units + 1 < cLine):PSet X jjN:=by
 intro pins s σ H o i v ov iv u Q I ro ri rv h
 obtain ⟨a,H',rfl,g,q⟩:=h
 cases ro
 exact jfW hu I g ri rv fun s' I'=>⟨H',I',q⟩
theorem _root_.L2.PSet.or {t t':TSet}(h:PSet X t)(h':PSet X t'):PSet X fun o i v H Q=>t o i v H Q\/t' o i v H Q:=by
 intro pins s σ H o i v ov iv u Q I ro ri rv q
 rcases q with q | q
 ·exact h pins s σ H o i v ov iv u Q I ro ri rv q
 ·exact h' pins s σ H o i v ov iv u Q I ro ri rv q
theorem jhZ {H:Hp}{G:Gp}{x y w:U}{v v' v'':V}{k:Gp->Prop}{Q0:Hp->Prop}(rx:RU X.K H x v)(ry:RU X.K H y v')(rw':RU X.K H w v'')(hG:HR X.K H G)(h:setU x y w G k)
  (q:∀ G' H',HR X.K H' G'->Fr H G H' G'->k G'->Q0 H'):jjM v v' v'' H Q0\/jjN v v' v'' H Q0:=by
 cases x with
 | loc a=>
  cases rx
  unfold setU at h
  dsimp only at h
  split at h
  ·rename_i xs g
   obtain ⟨vs,e,rs⟩:=hG.lst g
   cases y with
   | int i=>
    cases ry
    dsimp only at h
    split at h
    ·rename_i j ej
     refine .inl ⟨a,vs,i,j,rfl,rfl,e,by rw [<- rs.length]; exact ej,?_⟩
     exact q _ _ (hG.write (mo':=.lst (xs.set j w)) g ⟨_,jah,(rs.set rw' j).ts (TS.write hG g)⟩) (Fr.write g) h.at
    ·exact h.elim
   | _=>exact h.elim
  ·rename_i kvs g
   obtain ⟨l,e,rs⟩:=hG a _ g
   split at h
   ·rename_i k' ek
    have:=jfF ry ek
    subst this
    refine .inr ⟨a,_,rfl,DPut.k e (by rw [<- rs.length]; exact h.1),?_⟩
    exact q _ _ (hG.write (mo':=.dK (dPut kvs k' w)) g ⟨_,jah,(rs.put rw').ts (TS.write hG g)⟩) (Fr.write g) h.2.at
   ·exact h.elim
  ·rename_i kvs g
   obtain ⟨l,e,rs⟩:=hG a _ g
   cases y with
   | tup ys=>
    obtain ⟨b,ws,rfl,eb,rb⟩:=ry
    dsimp only at h
    split at h
    ·rename_i k' ek
     have:=jer rb ek
     subst this
     refine .inr ⟨a,_,rfl,DPut.t e eb (by rw [<- rs.length]; exact h.1),?_⟩
     exact q _ _ (hG.write (mo':=.dT (dPut kvs k' w)) g ⟨_,jah,(rs.put rw').ts (TS.write hG g)⟩) (Fr.write g) h.2.at
    ·exact h.elim
   | _=>exact h.elim
  ·exact h.elim
 | _=>exact h.elim
theorem s_set {o i:Expr}{to ti:UE}{tpos:Pos}(hu:X.A.units + 1 < cLine)(he:PE X e (lE X te))(ho:PE X o (lE X to))(hi:PE X i (lE X ti))(hs:swapsWithSole [.Subscript o i tpos] e pos.line X.env=pure false)(hw:swappedStores [.Subscript o i tpos] e X.env=pure none)
  (h1:(assignEach [.Subscript o i tpos] X.env).map (·.2)=[assign (.Subscript o i tpos) X.env]) (ha:∀ v,assign (.Subscript o i tpos) X.env v=(do
   let ov <- holding [v] (eval o X.env)
   let iv <- holding [v,ov] (eval i X.env)
   standAt tpos
   holding [v,ov,iv] (setItem ov iv v)
   release [v,ov,iv] [])):PS X (.Assign [.Subscript o i tpos] e pos) (lS X fun D ς G=>te ς G (fun v G1=>to ς G1 (fun x G2=>ti ς G2 (fun y G3=>setU x y v G3 fun G4=>D.nx ς G4) fun x G1=>D.ex x ς G1) fun x G1=>D.ex x ς G1) fun x G1=>D.ex x ς G1):=by
 refine (jff he (jjX ho hi (PSet.or jgf (jgg hu)) ha) hs hw h1).imp fun D σ H ⟨De,ς,G,hς,hG,h,ld⟩=>?_
 refine ⟨ς,G,_,_,hς,hG,h,fun w v G1 H1 rw' hG1 f1 h1=>?_,ld.lx hς hG⟩
 have hς1:=hς.ts (f1.ts hG)
 refine ⟨ς,G1,_,_,hς1,hG1,h1,fun x vx G2 H2 rx hG2 f2 h2=>?_,(ld.fr f1).lx hς1 hG1⟩
 have hς2:=hς1.ts (f2.ts hG1)
 refine ⟨ς,G2,_,_,hς2,hG2,h2,fun y vy G3 H3 ry hG3 f3 h3=>?_,(ld.fr (f1.trans f2)).lx hς2 hG2⟩
 have hς3:=hς2.ts (f3.ts hG2)
 exact jhZ (rx.ts (f3.ts hG2)) ry ((rw'.ts (f2.ts hG1)).ts (f3.ts hG2)) hG3 h3 fun G' H' hr f q=>ld.nx ς σ G' H' (hς3.ts (f.ts hG3)) hr (((f1.trans f2).trans f3).trans f) q
theorem _root_.L2.PGet.or {t t':V->V->Hp->VK->Prop}(h:PGet X t)(h':PGet X t'):PGet X fun o i H Q=>t o i H Q\/t' o i H Q:=by
 intro pins s σ H o i ov iv Q I ro ri q
 rcases q with q | q
 ·exact h pins s σ H o i ov iv Q I ro ri q
 ·exact h' pins s σ H o i ov iv Q I ro ri q
theorem s_for {tg iter:Expr}{body:List Stmt}{ti:UI}{g:Tg}{tb:US}(hp:PassesOwn (model X.prog X.w) X.A X.env X.xe)(hc:X.calm=true)(hi:PI X tg iter (lI X ti))(hg:PG X tg (lG X.K (tgU g)))(hb:PSs X body (lS X tb))
  (hs:∀ x,foldedSetIterable iter X.env x=pure x):PS X (.For tg iter body [] pos) (lS X fun D ς G=>ti ς G (fun xs ok G1=>forL ok (fun x ς1 G2 k=>tgU g x ς1 fun ς2=>tb { D with nx:=k } ς2 G2) xs ς G1 D.nx) fun x G1=>D.ex x ς G1):=by
 refine (jjS hp hc hi hg hb hs).imp fun D σ H ⟨De,ς,G,hς,hG,h,ld⟩=>?_
 refine ⟨ς,G,_,_,hς,hG,h,fun xs ok G1 H1 J hG1 f1 wk h1=>?_,ld.lx hς hG⟩
 refine ⟨fun i m σ' H'=>m=xs.length - i/\i<=xs.length/\∃ ς' G',SR X.K H' ς' σ'/\HR X.K H' G'/\Fr H1 G1 H' G'/\forL ok (fun x ς1 G2 k=>tgU g x ς1 fun ς2=>tb { De with nx:=k } ς2 G2) (xs.drop i) ς' G' De.nx,⟨xs.length,by simp,Nat.zero_le _,ς,G1,hς.ts (f1.ts hG),hG1,Fr.refl _ _,by simpa using h1⟩,?_⟩
 rintro i m σ' H' ⟨rfl,hi',ς',G',sr,hr,f,hc'⟩
 by_cases hlt:i < xs.length
 ·rw [List.drop_eq_getElem_cons hlt] at hc'
  obtain ⟨hok,hb'⟩:=hc'
  obtain ⟨w1,_⟩:=wk i H' G' (f.ts hG1) hr hok
  obtain ⟨go,yl⟩:=w1 xs[i] (by simp [hlt])
  refine .inr ⟨go,fun σ2 H2=>∃ ς2 G2,SR X.K H2 ς2 σ2/\HR X.K H2 G2/\Fr H1 G1 H2 G2/\forL ok (fun x ς1 G2 k=>tgU g x ς1 fun ς2=>tb { De with nx:=k } ς2 G2) (xs.drop (i + 1)) ς2 G2 De.nx,fun σ2 H2 q=>⟨xs.length - (i + 1),by omega,rfl,hlt,q⟩,fun v H'' y=>?_⟩
  obtain ⟨rx,hr2,f2⟩:=yl v H'' y
  refine ⟨xs[i],ς',_,rx,sr.ts (f2.ts hr),hb',fun ς2 σ2 hs2 hk=>?_⟩
  have f3:=(f1.trans f).trans f2
  refine ⟨_,ς2,G',hs2,hr2,hk,(ld.fr f3).with (fun ς3 σ3 G3 H3 a b c d=>⟨ς3,G3,a,b,(f.trans f2).trans c,d⟩) rfl⟩
 ·have e:i=xs.length:=by omega
  subst e
  rw [List.drop_length] at hc'
  obtain ⟨hok,q⟩:=hc'
  exact .inl ⟨(wk xs.length H' G' (f.ts hG1) hr hok).2 rfl,ld.nx ς' σ' G' H' sr hr (f1.trans f) q⟩
end
structure Ctx where
 N:List Str
 sc:List (Str×NameKind)
noncomputable def kd (c:Ctx)(x:Str)(k:NameKind):Bool:=c.sc.lookup x == some k
noncomputable def glo (c:Ctx)(x:Str):Bool:=kd c x .globalImplicit && !(x == ("__debug__" : Str))
noncomputable def nm1:Expr->List Str
 | .Name x _=>[x]
 | _=>[]
noncomputable def nm2:Expr->List Str
 | .Tuple es _ _=>es.flatMap nm1
 | e=>nm1 e
noncomputable def jdJ:Expr->List Str
 | .Tuple es _ _=>es.flatMap nm2
 | e=>nm1 e
noncomputable def je3:List String:=["bool", "int", "str", "list", "tuple", "dict"]
noncomputable def cOkS (c:Ctx)(N:List Str)(pick:List (Option Nat))(scope:Scope):Bool:=
 decide (scope.kind=.function) && scope.names.all (fun y=>y.2 != .cell || scope.names.lookup y.1 == some .cell) && scope.names.all (fun y=>y.2 != .local || scope.names.lookup y.1 == some .local)
  && scope.names.all (fun y=>y.2 != .free || (scope.names.lookup y.1 == some .free && (kd c y.1 .cell || kd c y.1 .free)))
  && pick.length == N.length && (N.zip pick).all (fun p=>match p.2 with | none=>true | some j=>c.N[j]? == some p.1 && scope.names.lookup p.1 == some .free) && decide N.Nodup
noncomputable def jhi:Expr->Bool
 | .Call (.Name _ _) [] [] _=>false
 | _=>true
noncomputable def e0:Expr:=.Name "" ⟨0,0,0,0⟩
noncomputable def hd:List Expr->Expr
 | []=>e0
 | e::_=>e
noncomputable def c0:Expr->Expr
 | .BinOp l _ _ _=>l
 | .UnaryOp _ x _=>x
 | .IfExp t _ _ _=>t
 | .Compare l _ _ _=>l
 | .Subscript v _ _=>v
 | .Attribute v _ _=>v
 | .Call f _ _ _=>f
 | .ListComp e _ _ _=>e
 | .FormattedValue v _ _ _=>v
 | _=>e0
noncomputable def c1:Expr->Expr
 | .BinOp _ _ r _=>r
 | .IfExp _ b _ _=>b
 | .Subscript _ s _=>s
 | _=>e0
noncomputable def c2:Expr->Expr
 | .IfExp _ _ b _=>b
 | _=>e0
noncomputable def cl:Expr->List Expr
 | .BoolOp _ vs _=>vs
 | .Compare _ _ vs _=>vs
 | .Call _ vs _ _=>vs
 | .List vs _=>vs
 | .Tuple vs _ _=>vs
 | .Dict _ vs _=>vs
 | .JoinedStr vs _=>vs
 | _=>[]
noncomputable def kw0:Expr->Keyword
 | .Call _ _ (k::_) _=>k
 | _=>⟨none,e0,⟨0,0,0,0⟩⟩
noncomputable def kk:Expr->Nat
 | .Constant _ k _=>k
 | .Tuple _ k _=>k
 | _=>0
noncomputable def oe:Option Expr->Expr
 | some e=>e
 | none=>e0
noncomputable def dk:Expr->List Expr
 | .Dict ks _ _=>ks.map oe
 | _=>[]
noncomputable def gen1:Expr->Comprehension
 | .ListComp _ (g::_) _ _=>g
 | _=>⟨e0,e0,[],0⟩
noncomputable def gen2:Expr->Comprehension
 | .ListComp _ (_::g::_) _ _=>g
 | _=>⟨e0,e0,[],0⟩
noncomputable def scp:Expr->Scope
 | .ListComp _ _ s _=>s
 | _=>⟨.module,[],false,false,[]⟩
noncomputable def s0:Expr->Expr
 | .Slice (some e) _ _ _=>e
 | _=>e0
noncomputable def s1:Expr->Expr
 | .Slice _ (some e) _ _=>e
 | _=>e0
noncomputable def s2:Expr->Expr
 | .Slice _ _ (some e) _=>e
 | _=>e0
noncomputable def nmA (c:Ctx)(i:Nat):Str:=c.N.getD i ""
noncomputable def boU:Bool->PySem.BoolOp
 | true=>.And
 | false=>.Or
noncomputable def ja6:Es->Nat
 | .nil=>0
 | .cons _ es=>ja6 es + 1
noncomputable def jc7:Tgs->Nat
 | .nil=>0
 | .cons _ ts=>jc7 ts + 1
noncomputable def isLc:E->Bool
 | .lc ..=>true
 | .lc2 ..=>true
 | _=>false
noncomputable def cc (c:Ctx)(pick:List (Option Nat))(h:Expr):Ctx:=⟨jdJ (gen1 h).target++(pick.filterMap id).filterMap (fun j=>c.N[j]?),(scp h).names⟩
noncomputable def cc2 (c:Ctx)(pick:List (Option Nat))(h:Expr):Ctx:=⟨jdJ (gen1 h).target++jdJ (gen2 h).target++(pick.filterMap id).filterMap (fun j=>c.N[j]?),(scp h).names⟩
mutual
noncomputable def unTg (c:Ctx):Tg->Expr->Expr
 | .n i,h=>.Name (nmA c i) h.pos
 | .t ts,h=>.Tuple (jcH c ts (cl h)) (kk h) h.pos
noncomputable def jcH (c:Ctx):Tgs->List Expr->List Expr
 | .nil,_=>[]
 | .cons t ts,hs=>unTg c t (hd hs)::jcH c ts hs.tail
end
noncomputable def okN (c:Ctx)(i:Nat):Bool:=decide (i < c.N.length) && (kd c (nmA c i) .local || kd c (nmA c i) .cell)
mutual
noncomputable def okTg (c:Ctx):Tg->Bool
 | .n i=>okN c i
 | .t ts=>jgD c ts
noncomputable def jgD (c:Ctx):Tgs->Bool
 | .nil=>true
 | .cons t ts=>okTg c t && jgD c ts
end
section
variable (T:Tab)
noncomputable def fnN (n:Nat):Str:=match T.funs[n]? with
 | some d=>d.name
 | none => ""
mutual
noncomputable def unE (c:Ctx):E->Expr->Expr
 | .v i,h=>.Name (nmA c i) h.pos
 | .non,h=>.Constant .none (kk h) h.pos
 | .bl b,h=>.Constant (.bool b) (kk h) h.pos
 | .int i,h=>.Constant (.int i) (kk h) h.pos
 | .str x,h=>.Constant (.str x) (kk h) h.pos
 | .g n,h=>.Name (T.gn.getD n "") h.pos
 | .ty n,h=>.Name (Str.ofString n) h.pos
 | .bin o a b,h=>.BinOp (unE c a (c0 h)) o (unE c b (c1 h)) h.pos
 | .neg a,h=>.UnaryOp .USub (unE c a (c0 h)) h.pos
 | .not a,h=>.UnaryOp .Not (unE c a (c0 h)) h.pos
 | .bop k a es,h=>.BoolOp (boU k) (unE c a (hd (cl h))::unEs c es (cl h).tail) h.pos
 | .cmp o a b,h=>.Compare (unE c a (c0 h)) [o] [unE c b (hd (cl h))] h.pos
 | .cmp2 o p a b d,h=>.Compare (unE c a (c0 h)) [o,p] [unE c b (hd (cl h)),unE c d (hd (cl h).tail)] h.pos
 | .ife t a b,h=>.IfExp (unE c t (c0 h)) (unE c a (c1 h)) (unE c b (c2 h)) h.pos
 | .tup es,h=>.Tuple (unEs c es (cl h)) (kk h) h.pos
 | .lst es,h=>.List (unEs c es (cl h)) h.pos
 | .dic es,h=>.Dict (unK c es (dk h)) (unV c es (cl h)) h.pos
 | .dicT,h=>.Dict [] [] h.pos
 | .ix a b,h=>.Subscript (unE c a (c0 h)) (unE c b (c1 h)) h.pos
 | .sl a lo hi,h=>.Subscript (unE c a (c0 h)) (.Slice (unO c lo (s0 (c1 h))) (unO c hi (s1 (c1 h))) none (c1 h).pos) h.pos
 | .rev a b,h=>.Subscript (unE c a (c0 h)) (.Slice none none (some (unE c b (s2 (c1 h)))) (c1 h).pos) h.pos
 | .call n es,h=>.Call (.Name (fnN T n) (c0 h).pos) (unEs c es (cl h)) [] h.pos
 | .app i es,h=>.Call (.Name (nmA c i) (c0 h).pos) (unEs c es (cl h)) [] h.pos
 | .blt b es,h=>.Call (.Name (bltN b) (c0 h).pos) (unEs c es (cl h)) [] h.pos
 | .meth m o es,h=>.Call (.Attribute (unE c o (c0 (c0 h))) (mthN m) (c0 h).pos) (unEs c es (cl h)) [] h.pos
 | .lc pick t it ifs d,h=>.ListComp (unE (cc c pick h) d (c0 h)) [⟨unTg (cc c pick h) t (gen1 h).target,unI c it (gen1 h).iter,unEs (cc c pick h) ifs (gen1 h).ifs,0⟩] (scp h) h.pos
 | .lc2 pick t it ifs t2 it2 ifs2 d,h=>.ListComp (unE (cc2 c pick h) d (c0 h)) [⟨unTg (cc2 c pick h) t (gen1 h).target,unI c it (gen1 h).iter,unEs (cc2 c pick h) ifs (gen1 h).ifs,0⟩,⟨unTg (cc2 c pick h) t2 (gen2 h).target,unI (cc2 c pick h) it2 (gen2 h).iter,unEs (cc2 c pick h) ifs2 (gen2 h).ifs,0⟩] (scp h) h.pos
 | .fst es,h=>.JoinedStr (unF c es (cl h)) h.pos
 | .sset d,h=>.Call (.Name "sorted" (c0 h).pos) [.Call (.Name "set" (c0 (hd (cl h))).pos) [unE c d (hd (cl (hd (cl h))))] [] (hd (cl h)).pos] [] h.pos
 | .mkD d,h=>.Call (.Name "list" (c0 h).pos) [unE c d (hd (cl h))] [] h.pos
 | .maxD d,h=>.Call (.Name "max" (c0 h).pos) [unE c d (hd (cl h))] [⟨some "default",.Constant (.int 0) (kk (kw0 h).value) (kw0 h).value.pos,(kw0 h).pos⟩] h.pos
 | .minD d,h=>.Call (.Name "min" (c0 h).pos) [unE c d (hd (cl h))] [⟨some "default",.Constant .none (kk (kw0 h).value) (kw0 h).value.pos,(kw0 h).pos⟩] h.pos
 | .mkL d,h=>.Call (.Name "list" (c0 h).pos) [unE c d (hd (cl h))] [] h.pos
 | .mkT d,h=>.Call (.Name "tuple" (c0 h).pos) [unE c d (hd (cl h))] [] h.pos
 | .rngL d,h=>.Call (.Name "list" (c0 h).pos) [.Call (.Name "range" (c0 (hd (cl h))).pos) [unE c d (hd (cl (hd (cl h))))] [] (hd (cl h)).pos] [] h.pos
 | .rngT d,h=>.Call (.Name "tuple" (c0 h).pos) [.Call (.Name "range" (c0 (hd (cl h))).pos) [unE c d (hd (cl (hd (cl h))))] [] (hd (cl h)).pos] [] h.pos
 | .rngL2 _ _,_=>e0
noncomputable def unO (c:Ctx):Eo->Expr->Option Expr
 | .no,_=>none
 | .so d,h=>some (unE c d h)
noncomputable def unEs (c:Ctx):Es->List Expr->List Expr
 | .nil,_=>[]
 | .cons d es,hs=>unE c d (hd hs)::unEs c es hs.tail
noncomputable def unK (c:Ctx):Es->List Expr->List (Option Expr)
 | .cons d (.cons _ es),hs=>some (unE c d (hd hs))::unK c es hs.tail
 | _,_=>[]
noncomputable def unV (c:Ctx):Es->List Expr->List Expr
 | .cons _ (.cons d es),hs=>unE c d (hd hs)::unV c es hs.tail
 | _,_=>[]
noncomputable def unF (c:Ctx):Es->List Expr->List Expr
 | .nil,_=>[]
 | .cons d es,hs=>(match d with
  | .str x=>.Constant (.str x) (kk (hd hs)) (hd hs).pos
  | d=>.FormattedValue (unE c d (c0 (hd hs))) (-1) none (hd hs).pos)::unF c es hs.tail
noncomputable def unI (c:Ctx):It->Expr->Expr
 | .e d,h=>unE c d h
 | .r1 d,h=>.Call (.Name "range" (c0 h).pos) [unE c d (hd (cl h))] [] h.pos
 | .r2 a b,h=>.Call (.Name "range" (c0 h).pos) [unE c a (hd (cl h)),unE c b (hd (cl h).tail)] [] h.pos
 | .enum d,h=>.Call (.Name "enumerate" (c0 h).pos) [unE c d (hd (cl h))] [] h.pos
 | .dk d,h=>unE c d h
 | .s d,h=>unE c d h
end
mutual
noncomputable def okE (c:Ctx):E->Expr->Bool
 | .v i,_=>decide (i < c.N.length) && (kd c (nmA c i) .local || kd c (nmA c i) .cell || kd c (nmA c i) .free) && !(nmA c i == ("__debug__" : Str)) && !(nmA c i == ("__classdict__" : Str))
 | .non,_=>true
 | .bl _,_=>true
 | .int _,_=>true
 | .str _,_=>true
 | .g n,_=>decide (n < T.gs.length) && decide (n < T.gn.length) && glo c (T.gn.getD n "")
 | .ty n,_=>je3.contains n && glo c (Str.ofString n)
 | .bin _ a b,h=>okE c a (c0 h) && okE c b (c1 h)
 | .neg a,h=>okE c a (c0 h)
 | .not a,h=>okE c a (c0 h)
 | .bop _ a es,h=>okE c a (hd (cl h)) && okEs c es (cl h).tail
 | .cmp o a b,h=>okE c a (c0 h) && okE c b (hd (cl h)) && !behindInMarks o (unE T c b (hd (cl h)))
 | .cmp2 o p a b d,h=>okE c a (c0 h) && okE c b (hd (cl h)) && okE c d (hd (cl h).tail) && !lastMarks [o,p] [unE T c b (hd (cl h)),unE T c d (hd (cl h).tail)]
 | .ife t a b,h=>okE c t (c0 h) && okE c a (c1 h) && okE c b (c2 h)
 | .tup es,h=>okEs c es (cl h)
 | .lst es,h=>okEs c es (cl h)
 | .dic es,h=>okD c es (dk h) (cl h) && decide (ja6 es<=30)
 | .dicT,_=>false
 | .ix a b,h=>okE c a (c0 h) && okE c b (c1 h)
 | .sl a lo hi,h=>okE c a (c0 h) && okO c lo (s0 (c1 h)) && okO c hi (s1 (c1 h))
 | .rev a b,h=>okE c a (c0 h) && okE c b (s2 (c1 h))
 | .call n es,h=>decide (n < T.funs.length) && glo c (fnN T n) && okEs c es (cl h)
 | .app i es,h=>decide (i < c.N.length) && (kd c (nmA c i) .local || kd c (nmA c i) .cell || kd c (nmA c i) .free) && !(nmA c i == ("__debug__" : Str)) && !(nmA c i == ("__classdict__" : Str)) && okEs c es (cl h)
 | .blt b es,h=>decide (0 < ja6 es) && glo c (bltN b) && okEs c es (cl h)
 | .meth _ o es,h=>okE c o (c0 (c0 h)) && okEs c es (cl h) && ((c0 h).pos.endLine == h.pos.line) && decide (ja6 es < 30) && jhi (unE T c o (c0 (c0 h)))
 | .lc pick t it ifs d,h=>cOkS c (cc c pick h).N pick (scp h) && (tgS t).all (fun i=>(pick[i]?).join.isNone) && okTg (cc c pick h) t && okI c t it (gen1 h).iter && okEs (cc c pick h) ifs (gen1 h).ifs && decide (ja6 ifs<=1) && okE (cc c pick h) d (c0 h)
 | .lc2 _ _ _ _ _ _ _ _,_=>false
 | .fst es,h=>decide (2<=ja6 es) && decide (ja6 es<=20) && okF c es (cl h)
 | .sset _,_=>false
 | .mkD _,_=>false
 | .maxD _,_=>false
 | .minD _,_=>false
 | .mkL d,h=>glo c "list" && okE c d (hd (cl h))
 | .mkT d,h=>glo c "tuple" && okE c d (hd (cl h))
 | .rngL _,_=>false
 | .rngT _,_=>false
 | .rngL2 _ _,_=>false
noncomputable def okO (c:Ctx):Eo->Expr->Bool
 | .no,_=>true
 | .so d,h=>okE c d h
noncomputable def okEs (c:Ctx):Es->List Expr->Bool
 | .nil,_=>true
 | .cons d es,hs=>okE c d (hd hs) && okEs c es hs.tail
noncomputable def okD (c:Ctx):Es->List Expr->List Expr->Bool
 | .nil,_,_=>true
 | .cons d (.cons f es),hs,gs=>okE c d (hd hs) && okE c f (hd gs) && okD c es hs.tail gs.tail
 | .cons _ .nil,_,_=>false
noncomputable def okF (c:Ctx):Es->List Expr->Bool
 | .nil,_=>true
 | .cons d es,hs=>(match d with
  | .str x=>decide (x.length<=10000)
  | d=>okE c d (c0 (hd hs))) && okF c es hs.tail
noncomputable def okI (c:Ctx)(t:Tg):It->Expr->Bool
 | .e d,h=>okE c d h
 | .r1 d,h=>glo c "range" && okE c d (hd (cl h))
 | .r2 a b,h=>glo c "range" && okE c a (hd (cl h)) && okE c b (hd (cl h).tail)
 | .enum _,_=>false
 | .dk _,_=>false
 | .s d,h=>okE c d h
end
noncomputable def jg9 (ts:List Expr):Nat:=(ts.head?.map (·.pos.line)).getD 0
noncomputable def jaC (c:Ctx)(ts:List Expr):List Str:=ts.filterMap fun
  | .Name id pos=>if c.sc.lookup id == some .local && pos.line == jg9 ts then some id else none
  | _=>none
noncomputable def jfK:Expr->Bool
 | .Starred ..=>true
 | _=>false
noncomputable def jbn (c:Ctx)(ts vs:List Expr):Bool:=
 !(ts.length == 2 || ts.length == 3) || vs.length != ts.length || (!(vs.any jfK) && ((jaC c ts).length != ts.length || (jaC c ts).eraseDups.length != (jaC c ts).length || vs.all (foldedForSure 8)))
noncomputable def lcSw (c:Ctx)(y:Str)(py p:Pos)(s:Scope):Bool:=c.sc.lookup y == some .local && py.line == p.line && !(s.names.any fun (n,k)=>n == y && (k == .local || k == .cell))
noncomputable def q0:Stmt->Expr
 | .Expr e _=>e
 | .Assign _ e _=>e
 | .Return (some e) _=>e
 | .AugAssign _ _ e _=>e
 | .If e _ _ _=>e
 | .While e _ _ _=>e
 | .For _ e _ _ _=>e
 | _=>e0
noncomputable def q1:Stmt->Expr
 | .Assign (t::_) _ _=>t
 | .AugAssign t _ _ _=>t
 | .For t _ _ _ _=>t
 | _=>e0
noncomputable def qr:Stmt->Expr
 | .Raise (some e) _ _=>e
 | _=>e0
noncomputable def hTy:Stmt->Expr
 | .Try _ (.ExceptHandler (some t) _ _ _::_) _ _ _=>t
 | _=>e0
noncomputable def hBd:Stmt->List Stmt
 | .Try _ (.ExceptHandler _ _ b _::_) _ _ _=>b
 | _=>[]
noncomputable def hPs:Stmt->Pos
 | .Try _ (.ExceptHandler _ _ _ p::_) _ _ _=>p
 | _=>⟨0,0,0,0⟩
noncomputable def qa:Stmt->List Stmt
 | .Try a _ _ _ _=>a
 | .If _ a _ _=>a
 | .While _ a _ _=>a
 | .For _ _ a _ _=>a
 | _=>[]
noncomputable def qb:Stmt->List Stmt
 | .If _ _ b _=>b
 | _=>[]
noncomputable def qh:List Stmt->Stmt
 | []=>.Pass ⟨0,0,0,0⟩
 | s::_=>s
noncomputable def unNs (c:Ctx):List Nat->List Expr->List Expr
 | [],_=>[]
 | i::is,hs=>.Name (nmA c i) (hd hs).pos::unNs c is hs.tail
noncomputable def unCs:List Nat->List Expr->List Expr
 | [],_=>[]
 | k::ks,hs=>.Name (clsN k) (hd hs).pos::unCs ks hs.tail
section
variable (c:Ctx)(n:Nat)
noncomputable def unHL:HL->Expr->Expr
 | .v i,h=>.Name (nmA c i) h.pos
 | .isiV,h=>.Call (.Name "isinstance" (c0 h).pos) [.Name (nmA c n) (hd (cl h)).pos,.Name "ValueError" (hd (cl h).tail).pos] [] h.pos
 | .is1 k,h=>.Call (.Name "isinstance" (c0 h).pos) [.Name (nmA c n) (hd (cl h)).pos,.Name (clsN k) (hd (cl h).tail).pos] [] h.pos
 | .isi ks,h=>.Call (.Name "isinstance" (c0 h).pos) [.Name (nmA c n) (hd (cl h)).pos,.Tuple (unCs ks (cl (hd (cl h).tail))) (kk (hd (cl h).tail)) (hd (cl h).tail).pos] [] h.pos
noncomputable def jhJ:Bool×HL->Expr->Expr
 | (true,l),h=>.UnaryOp .Not (unHL c n l (c0 h)) h.pos
 | (false,l),h=>unHL c n l h
noncomputable def jg2:List (Bool×HL)->List Expr->List Expr
 | [],_=>[]
 | a::r,hs=>jhJ c n a (hd hs)::jg2 r hs.tail
noncomputable def jg3 (k:Bool)(a:Bool×HL):List (Bool×HL)->Expr->Expr
 | [],h=>jhJ c n a h
 | b::r,h=>.BoolOp (boU k) (jhJ c n a (hd (cl h))::jg2 c n (b::r) (cl h).tail) h.pos
noncomputable def unHA:HA->Expr->Expr
 | .str x,h=>.Constant (.str x) (kk h) h.pos
 | .att f,h=>.Attribute (.Name (nmA c n) (c0 h).pos) f h.pos
noncomputable def jhK:List HA->List Expr->List Expr
 | [],_=>[]
 | a::r,hs=>unHA c n a (hd hs)::jhK r hs.tail
noncomputable def unHV:HV->Expr->Expr
 | .cond k a as,h=>jg3 c n k a as h
 | .one a,h=>unHA c n a h
 | .bl b,h=>.Constant (.bool b) (kk h) h.pos
 | .tup as,h=>.Tuple (jhK c n as (cl h)) (kk h) h.pos
 | .lst as,h=>.List (jhK c n as (cl h)) h.pos
noncomputable def jjh (i:Nat)(e:HV)(h:Stmt):Stmt:=.Assign [.Name (nmA c i) (q1 h).pos] (unHV c n e (q0 h)) h.pos
noncomputable def unHS:HS->Stmt->Stmt
 | .asg i e,h=>jjh c n i e h
 | .ifa k a as i e,h=>.If (jg3 c n k a as (q0 h)) [jjh c n i e (qh (qa h))] [] h.pos
noncomputable def jjg:List HS->List Stmt->List Stmt
 | [],_=>[]
 | s::r,hs=>unHS c n s (qh hs)::jjg r hs.tail
end
section
variable (cs:List Nat)(c:Ctx)
noncomputable def okC (k:Nat):Bool:=decide (1<=k) && decide (k < 6) && cs.contains k && glo c (clsN k)
noncomputable def okHL:HL->Bool
 | .v i=>decide (i < c.N.length) && (kd c (nmA c i) .local || kd c (nmA c i) .cell || kd c (nmA c i) .free) && !(nmA c i == ("__debug__" : Str)) && !(nmA c i == ("__classdict__" : Str))
 | .isiV=>glo c "isinstance" && glo c "ValueError"
 | .is1 k=>glo c "isinstance" && okC cs c k
 | .isi ks=>glo c "isinstance" && ks.all (okC cs c) && decide (ks.length<=8)
noncomputable def jhg (as:List (Bool×HL)):Bool:=as.all fun p=>okHL cs c p.2
noncomputable def okHA:HA->Bool
 | .str _=>true
 | .att f=>fldN.contains f
noncomputable def okHV:HV->Bool
 | .cond _ a as=>okHL cs c a.2 && jhg cs c as
 | .one a=>okHA a
 | .bl _=>true
 | .tup as=>as.all okHA && decide (as.length<=8)
 | .lst as=>as.all okHA && decide (as.length<=8)
noncomputable def okHS (n:Nat):HS->Bool
 | .asg i e=>okN c i && decide (i≠n) && okHV cs c e
 | .ifa _ a as i e=>okHL cs c a.2 && jhg cs c as && okN c i && decide (i≠n) && okHV cs c e
end
mutual
noncomputable def unS (c:Ctx):S->Stmt->Stmt
 | .pass,h=>.Pass h.pos
 | .expr d,h=>.Expr (unE T c d (q0 h)) h.pos
 | .asg t d,h=>.Assign [unTg c t (q1 h)] (unE T c d (q0 h)) h.pos
 | .unp ts d,h=>.Assign [.Tuple (jcH c ts (cl (q1 h))) (kk (q1 h)) (q1 h).pos] (unE T c d (q0 h)) h.pos
 | .asgC i d,h=>.Assign [.Name (nmA c i) (q1 h).pos] (unE T c d (q0 h)) h.pos
 | .setS o i d,h=>.Assign [.Subscript (unE T c o (c0 (q1 h))) (unE T c i (c1 (q1 h))) (q1 h).pos] (unE T c d (q0 h)) h.pos
 | .par is es,h=>.Assign [.Tuple (unNs c is (cl (q1 h))) (kk (q1 h)) (q1 h).pos] (.Tuple (unEs T c es (cl (q0 h))) (kk (q0 h)) (q0 h).pos) h.pos
 | .aug i o d,h=>.AugAssign (.Name (nmA c i) (q1 h).pos) o (unE T c d (q0 h)) h.pos
 | .augS a i o d,h=>.AugAssign (.Subscript (unE T c a (c0 (q1 h))) (unE T c i (c1 (q1 h))) (q1 h).pos) o (unE T c d (q0 h)) h.pos
 | .ite t a b,h=>.If (unE T c t (q0 h)) (unSs c a (qa h)) (unSs c b (qb h)) h.pos
 | .fr t it b,h=>.For (unTg c t (q1 h)) (unI T c it (q0 h)) (unSs c b (qa h)) [] h.pos
 | .wh t b,h=>.While (unE T c t (q0 h)) (unSs c b (qa h)) [] h.pos
 | .ret d,h=>.Return (some (unE T c d (q0 h))) h.pos
 | .retN,h=>.Return none h.pos
 | .never,h=>h
 | .raise k es,h=>.Raise (some (.Call (.Name (clsN k) (c0 (qr h)).pos) (unEs T c es (cl (qr h))) [] (qr h).pos)) none h.pos
 | .tr b k n hs,h=>.Try (unSs c b (qa h)) [.ExceptHandler (some (.Name (clsN k) (hTy h).pos)) (some (nmA c n)) (jjg c n hs (hBd h)) (hPs h)] [] [] h.pos
noncomputable def unSs (c:Ctx):Ss->List Stmt->List Stmt
 | .nil,_=>[]
 | .cons s r,hs=>unS c s (qh hs)::unSs c r hs.tail
end
noncomputable def okA (c:Ctx):Tg->E->Stmt->Bool
 | .n i,.lc ..,_=>!(kd c (nmA c i) .local)
 | .n i,.lc2 ..,_=>!(kd c (nmA c i) .local)
 | .t _,.lc ..,_=>false
 | .t _,.lc2 ..,_=>false
 | .t ts,.tup es,h=>jbn c (jcH c ts (cl (q1 h))) (unEs T c es (cl (q0 h)))
 | _,_,_=>true
mutual
noncomputable def okS (c:Ctx):S->Stmt->Bool
 | .pass,_=>false
 | .expr d,h=>okE T c d (q0 h) && !isLc d
 | .asg t d,h=>okE T c d (q0 h) && okTg c t && okA T c t d h
 | .unp ts d,h=>okE T c d (q0 h) && jgD c ts && okA T c (.t ts) d h
 | .asgC i d,h=>isLc d && okE T c d (q0 h) && decide (i < c.N.length) && lcSw c (nmA c i) (q1 h).pos (q0 h).pos (scp (q0 h))
 | .setS o i d,h=>okE T c d (q0 h) && okE T c o (c0 (q1 h)) && okE T c i (c1 (q1 h))
 | .par _ _,_=>false
 | .aug _ _ _,_=>false
 | .augS _ _ _ _,_=>false
 | .ite t a b,h=>okE T c t (q0 h) && okSs c a (qa h) && okSs c b (qb h)
 | .fr t it b,h=>okTg c t && okI T c t it (q0 h) && okSs c b (qa h)
 | .wh _ _,_=>false
 | .ret d,h=>okE T c d (q0 h)
 | .retN,_=>false
 | .never,_=>true
 | .raise _ _,_=>false
 | .tr _ _ _ _,_=>false
noncomputable def okSs (c:Ctx):Ss->List Stmt->Bool
 | .nil,_=>true
 | .cons s r,hs=>okS c s (qh hs) && okSs c r hs.tail
end
end
noncomputable def lSp (K:PySem.W.Frag)(t:List U->Gp->K1->KX->Prop):Sp:=fun vs H Q0 E0=>∃ us G Q E,RUs K H us vs/\HR K H G/\t us G Q E/\(∀ w v G' H',RU K H' w v->HR K H' G'->Fr H G H' G'->Q w G'->Q0 v H')/\
 ∀ x G' H' C dx,XD K H' C dx x->HR K H' G'->Fr H G H' G'->E x G'->E0 (.ref C) (some dx) H'
noncomputable def FnU (P:Program)(w:World)(K:PySem.W.Frag)(mg:Str->Option Value)(base:Heap)(k:Nat)(d:Fun)(t:List U->Gp->K1->KX->Prop):Prop:=
 ∃ (f:Addr) (fd:FuncData),FnOk P w K mg base (CX1 P w) (k + 2) f fd d.ps (lSp K t)/\mg d.name=some (.ref f)/\PySem.W.keepIn K (.ref f)=true/\Binds K fd d.ps []
noncomputable def jbk:List Str:=["len", "repr", "min", "max", "sum", "all", "any", "sorted", "int", "str", "isinstance", "range", "enumerate", "list", "tuple", "bool", "dict", "ValueError", "set"]
structure Cok (T:Tab)(k:Nat)(X:Cx)(c:Ctx):Prop where
 hN:X.N=c.N
 nd:c.N.Nodup
 loc:∀ x,kd c x .local=true->X.env.scope.names.lookup x=some .local
 cel:∀ x,kd c x .cell=true->X.env.scope.names.lookup x=some .cell/\X.fn x=true
 fre:∀ x,kd c x .free=true->X.env.scope.names.lookup x=some .cell\/X.env.scope.names.lookup x=some .free
 glb:∀ x,kd c x .globalImplicit=true->Gl X x
 room:Room k X.A
 calm:X.calm=true
 po:PassesOwn (model X.prog X.w) X.A X.env X.xe
 blt:∀ x∈jbk,X.mg x=none
 fns:∀ (n:Nat) (d:Fun),T.funs[n]?=some d->FnU X.prog X.w X.K X.mg X.base k d (jaa T k n)
 gls:∀ (n:Nat) (x:Str) (u:U),T.gn[n]?=some x->T.gs[n]?=some u->∃ v w,X.mg x=some w/\RelV v w/\∀ H,RU X.K H u v
 room2:Room (k + 2) X.A
 cls:∀ n∈T.cs,1<=n->∃ C,XCls X.K (gK X.K) (clsN n) (clsF n) C
 mgK:∀ x v,gK X.K x=some v->X.mg x=some v
structure Cos (T:Tab)(k:Nat)(X:Cx)(c:Ctx):Prop extends Cok T k X c where
 sc:X.env.scope.names=c.sc
 kind:X.env.scope.kind=.function
 stk:X.stack=X.env::X.outer/\X.env.frame=some X.env.locals
section
variable {T:Tab}{k:Nat}{X:Cx}{c:Ctx}
theorem Cok.hu (h:Cok T k X c):X.A.units + 1 < cLine:=jmw h.room
theorem Cok.vis (h:Cok T k X c){x:Str}(v:(kd c x .local || kd c x .cell || kd c x .free)=true):Vis X.env.scope x:=by
 simp only [Bool.or_eq_true] at v
 rcases v with (v | v) | v
 ·exact .inl (h.loc x v)
 ·exact .inr (.inl (h.cel x v).1)
 ·rcases h.fre x v with z | z
  ·exact .inr (.inl z)
  ·exact .inr (.inr z)
theorem Cok.store (h:Cok T k X c){x:Str}(v:(kd c x .local || kd c x .cell)=true):Loc X.env.scope x/\(X.fn x=true\/X.env.scope.names.lookup x=some .local):=by
 simp only [Bool.or_eq_true] at v
 rcases v with v | v
 ·exact ⟨.inl (h.loc x v),.inr (h.loc x v)⟩
 ·exact ⟨.inr (h.cel x v).1,.inl (h.cel x v).2⟩
theorem Cok.gl (h:Cok T k X c){x:Str}(v:glo c x=true):Gl X x/\(x == ("__debug__" : Str))=false:=by
 unfold glo at v
 rw [Bool.and_eq_true] at v
 exact ⟨h.glb x v.1,by simpa using v.2⟩
end
noncomputable def jds:Expr->Bool
 | .BoolOp .. | .BinOp .. | .UnaryOp .. | .IfExp .. | .Dict .. | .ListComp .. | .Compare .. | .Call .. | .Constant .. | .Subscript .. | .Name .. | .List .. | .Tuple .. | .JoinedStr ..=>true
 | _=>false
section
variable {T:Tab}{c:Ctx}
theorem jai (ir:E)(h:Expr):jds (unE T c ir h)=true:=by cases ir <;> rfl
theorem jan {e:Expr}(h:jds e=true)(es:List Expr)(env:Env):starEach (e::es) env=(false,eval e env)::starEach es env:=by
 cases e <;> first | rfl | cases h
theorem jiR {e:Expr}(h:jds e=true):jd9 e:=by
 intro o i
 cases e <;> first | rfl | cases h
theorem jaY {e:Expr}(h:jds e=true)(env:Env):∀ x,foldedSetIterable e env x=pure x:=by
 intro x
 cases e <;> first | rfl | cases h
theorem jhH (it:It)(h:Expr)(env:Env):∀ x,foldedSetIterable (unI T c it h) env x=pure x:=by
 cases it with
 | e d=>exact jaY (jai d _) env
 | dk d=>exact jaY (jai d _) env
 | s d=>exact jaY (jai d _) env
 | _=>exact fun _=>rfl
theorem jgK {o i:Expr}(h:jds i=true)(env:Env)(tpos:Pos):∀ v,assign (.Subscript o i tpos) env v=(holding [v] (eval o env) >>= fun a=>holding [v,a] (eval i env) >>= fun b=>standAt tpos >>= fun _=>holding [v,a,b] (setItem a b v) >>= fun _=>release [v,a,b] []):=by
 intro v
 cases i <;> first | rfl | cases h
theorem jhI {ir:E}(q:isLc ir=false)(h:Expr)(env:Env)(l:Nat):swapsWith (unE T c ir h) none l env=pure false:=by
 cases ir <;> first | rfl | cases q
theorem jhG {ir:E}(q:isLc ir=false)(h tg:Expr)(env:Env)(l:Nat):swapsWithSole [tg] (unE T c ir h) l env=pure false:=by
 cases ir <;> first | rfl | cases q
theorem jg0 (ir:E)(h x y:Expr)(p:Pos)(env:Env)(l:Nat):swapsWithSole [.Subscript x y p] (unE T c ir h) l env=pure false/\swappedStores [.Subscript x y p] (unE T c ir h) env=pure none:=by
 cases ir <;> exact ⟨rfl,rfl⟩
theorem jlw (ir:E)(h:Expr)(x:Str)(p:Pos)(env:Env):swappedStores [.Name x p] (unE T c ir h) env=pure none:=by
 cases ir <;> rfl
theorem je0 (t:Tg)(h:Expr)(env:Env):(assignEach [unTg c t h] env).map (·.2)=[assign (unTg c t h) env]:=by
 cases t <;> rfl
theorem jf7 {o:Expr}(h:jhi o=true)(m:Str)(env:Env)(w:Sem Value):attributeBase o m env w=w:=by
 unfold attributeBase
 split
 ·cases h
 ·rfl
theorem jbL:∀ (es:Es) (hs:List Expr) (env:Env) (pos:Pos),(backTo pos (starEach (unEs T c es hs) env)).any (·.1)=false/\(backTo pos (starEach (unEs T c es hs) env)).all (fun x=>!x.1)=true
 | .nil,_,_,_=>⟨rfl,rfl⟩
 | .cons d es,hs,env,pos=>by
  obtain ⟨h1,h2⟩:=jbL es hs.tail env pos
  show (backTo pos (starEach (unE T c d (hd hs)::unEs T c es hs.tail) env)).any (·.1)=false/\(backTo pos (starEach (unE T c d (hd hs)::unEs T c es hs.tail) env)).all (fun x=>!x.1)=true
  rw [jan (jai d _)]
  exact ⟨by show (false || (backTo pos (starEach (unEs T c es hs.tail) env)).any (·.1))=false; rw [h1]; rfl,by show (!false && (backTo pos (starEach (unEs T c es hs.tail) env)).all (fun x=>!x.1))=true; rw [h2]; rfl⟩
theorem jg1:∀ (es:Es) (hs:List Expr),(unEs T c es hs).length=ja6 es
 | .nil,_=>rfl
 | .cons _ es,hs=>congrArg (·+ 1) (jg1 es hs.tail)
theorem ba {a b:Bool}(h:(a && b)=true):a=true/\b=true:=by simpa using h
theorem bn {a:Bool}(h:(!a)=true):a=false:=by simpa using h
theorem jmm {i:Nat}(h:decide (i < c.N.length)=true):c.N[i]?=some (nmA c i):=by
 unfold nmA
 rw [List.getD_eq_getElem?_getD,List.getElem?_eq_getElem (of_decide_eq_true h)]
 rfl
end
theorem jdI:∀ {ts:Tgs} {us:List U} {ς:Sg} {k:Sg->Prop},tgsU ts us ς k->us.length=jc7 ts
 | .nil,us,ς,k,h=>by rw [h.1]; rfl
 | .cons t ts,us,ς,k,h=>by
  cases us with
  | nil=>exact h.elim
  | cons u r=>
   have:∃ ς',tgsU ts r ς' k:=tg_some h
   obtain ⟨ς',h'⟩:=this
   show r.length + 1=jc7 ts + 1
   rw [jdI h']
where
 tg_some {t:Tg} {u:U} {ς:Sg} {P:Sg->Prop} (h:tgU t u ς P):∃ ς',P ς':=by
  have:=jbN (k':=fun _=>∃ ς',P ς') h fun ς' h'=>⟨ς',h'⟩
  exact tg_const this
 tg_const:∀ {t:Tg} {u:U} {ς:Sg} {P:Prop},tgU t u ς (fun _=>P)->P
  | .n _,_,_,_,h=>h
  | .t ts,u,ς,P,h=>by
   cases u with
   | tup us=>exact tgs_const (ts:=ts) (us:=us) h
   | _=>exact h.elim
 tgs_const:∀ {ts:Tgs} {us:List U} {ς:Sg} {P:Prop},tgsU ts us ς (fun _=>P)->P
  | .nil,_,_,_,h=>h.2
  | .cons t ts,us,ς,P,h=>by
   cases us with
   | nil=>exact h.elim
   | cons u r=>exact tg_const (jbN (t:=t) h fun ς' h'=>tgs_const h')
section
variable {T:Tab}{k:Nat}{X:Cx}{c:Ctx}
theorem jbM:∀ (ts:Tgs) (hs:List Expr) (env:Env),(assignEach (jcH c ts hs) env).length=jc7 ts/\(assignEach (jcH c ts hs) env).findIdx? (·.1)=none
 | .nil,_,_=>⟨rfl,rfl⟩
 | .cons t ts,hs,env=>by
  obtain ⟨h1,h2⟩:=jbM ts hs.tail env
  have e:assignEach (jcH c (.cons t ts) hs) env=(false,assign (unTg c t (hd hs)) env)::assignEach (jcH c ts hs.tail) env:=by cases t <;> rfl
  rw [e]
  exact ⟨by simp [h1,jc7],by simp [List.findIdx?_cons,h2]⟩
theorem Cok.nm {i:Nat}(C:Cok T k X c)(h:decide (i < c.N.length)=true):X.N[i]?=some (nmA c i):=by rw [C.hN]; exact jmm h
mutual
theorem sTg (C:Cok T k X c):∀ (t:Tg) (h:Expr),okTg c t=true->PG X (unTg c t h) (lG X.K (tgU t))
 | .n _,_,q=>let s:=C.store (ba q).2; u_tn (by rw [C.hN]; exact C.nd) (C.nm (ba q).1) s.1 s.2
 | .t ts,h,q=>u_tt C.calm (sTgs C ts (cl h) q) (jbM ts _ X.env).1 (jbM ts _ X.env).2 fun us ς k q=>jdI q
theorem sTgs (C:Cok T k X c):∀ (ts:Tgs) (hs:List Expr),jgD c ts=true->PGs X (jcH c ts hs) (lGs X.K (tgsU ts))
 | .nil,_,_=>jlz
 | .cons t ts,hs,q=>jlA (sTg C t (hd hs) (ba q).1) (sTgs C ts hs.tail (ba q).2) (by cases t <;> rfl)
end
noncomputable def EB (X:Cx)(σ:St):XK:=fun cls dx H'=>∀ (pins:List (Addr×Obj)) (ea:Addr) (s':Shared),Inv X pins σ H' s'->Lies X.s₀.heap.objs.size X.pn H' s'.heap ea cls dx->X.xe (.ref ea) s'
theorem jfc {j:Nat}{f:Addr}{fd:FuncData}{ps:List Str}{sp:Sp}{pins:List (Addr×Obj)}{σ:St}{H:Hp}{s:Shared}{Q:VK}{us:List Value}{vs:List V}(F:FnOk X.prog X.w X.K X.mg X.base (CX1 X.prog X.w) j f fd ps sp)(hr:Room j X.A)(hb:Binds X.K fd ps [])
  (I:Inv X pins σ H s) (r:Vals vs us) (h:sp vs H Q (EB X σ)):wpAny (model X.prog X.w) X.A (call (.ref f) us) (EP X pins σ Q) X.xe s:=by
 have hl:(us++[]).length=ps.length:=by rw [List.append_nil,<- r.length]; exact F.len _ _ _ _ h
 have hbs:=hb s us I.kIn hl
 rw [List.append_nil] at hbs
 refine wpAny_call (codeAny_mono (F.run X.A X.stack s H ⟨us,[]⟩ us vs Q (EB X σ) hr I.env0 hbs r h) fun r s' hq=>?_)
 cases r with
 | error e=>
  obtain ⟨ea,H',cls,dx,rfl,I',l,q⟩:=CX1.back I hq
  exact q pins ea s' I' l
 | ok fl=>
  cases fl with
  | ret u=>exact I.after hq
  | next=>exact False.elim hq
  | brk=>exact False.elim hq
  | cont=>exact False.elim hq
theorem je8 {n:Nat}{σ:St}{H:Hp}{G:Gp}{us:List U}{vs:List V}{Q:K1}{E:KX}{Q0:VK}(r:RUs X.K H us vs)(hG:HR X.K H G)(h:jaa T k n us G Q E)(lv:LV X H G Q Q0)(lx:LX X σ H G E):lSp X.K (jaa T k n) vs H Q0 (EB X σ):=
 ⟨us,G,Q,E,r,hG,h,lv,fun x G' H' C dx xd hr f q pins ea s' I' l=>lx pins (.ref ea) s' x G' H' I' ⟨ea,C,dx,rfl,l,xd⟩ hr f q⟩
theorem jjo {n:Nat}{d:Fun}{x:Str}{e:Expr}{es:List Expr}{ts:UA}{p pos:Pos}(C:Cok T k X c)(hd:T.funs[n]?=some d)(hx:d.name=x)(hg:glo c x=true)(ha:PA X (e::es) (lA X ts))
  (he:starEach (e::es) X.env=(false,eval e X.env)::starEach es X.env) (hpl:(backTo pos (starEach es X.env)).any (·.1)=false) :
  PE X (.Call (.Name x p) (e::es) [] pos) (lE X fun ς G Q E=>ts ς G (fun us G1=>jaa T k n us G1 Q E) E):=by
 obtain ⟨f,fd,F,hm,hk,hb⟩:=C.fns n d hd
 obtain ⟨g1,g2⟩:=C.gl hg
 rw [hx] at hm
 intro pins s σ H Q0 I ⟨ς,G,Q,E,hς,hG,h,lv,lx⟩
 refine wpAny_Call_Name_kw (jcW I g1 hm ?_ g2)
 have h':lA X ts σ H fun vs H1=>lSp X.K (jaa T k n) vs H1 Q0 (EB X σ):=⟨ς,G,_,E,hς,hG,h,fun us vs G1 H1 rs hG1 f1 h1=>je8 rs hG1 h1 (lv.fr f1) (lx.fr f1),lx⟩
 refine PySem.W.callWith_K (h₀:=X.base) I.ok.mod.kin hk (thn (ha pos pins s σ H _ I h') fun us s1 ⟨vs,H1,I1,r,q⟩=>⟨I1.kIn,?_⟩) he hpl
 exact jfc F C.room2 hb I1 r q
theorem jhN {n:Nat}{d:Fun}{x:Str}{p pos:Pos}(C:Cok T k X c)(hd:T.funs[n]?=some d)(hx:d.name=x)(hg:glo c x=true) :
  PE X (.Call (.Name x p) [] [] pos) (lE X fun _ G Q E=>jaa T k n [] G Q E):=by
 obtain ⟨f,fd,F,hm,hk,hb⟩:=C.fns n d hd
 obtain ⟨g1,g2⟩:=C.gl hg
 rw [hx] at hm
 intro pins s σ H Q0 I ⟨ς,G,Q,E,hς,hG,h,lv,lx⟩
 refine wpAny_Call_Name_kw (jcW I g1 hm ?_ g2)
 exact PySem.W.callWith_K0 I.kIn hk (jfc (us:=[]) (vs:=[]) F C.room2 hb I .nil (je8 (show RUs X.K H [] [] from rfl) hG h lv lx))
theorem Cok.comp {pick:List (Option Nat)}{scope:Scope}{N:List Str}(C:Cok T k X c)(h:cOkS c N pick scope=true):CScope X N pick scope/\∀ cl A s₀ H₀ fp,Cok T k (jag X N scope cl A s₀ H₀ fp) ⟨N,scope.names⟩:=by
 unfold cOkS at h
 simp only [Bool.and_eq_true,decide_eq_true_eq] at h
 obtain ⟨⟨⟨⟨⟨⟨h1,h2⟩,h3⟩,h4⟩,h5⟩,h6⟩,h7⟩:=h
 have cells:∀ y∈scope.names,y.2=.cell->scope.names.lookup y.1=some .cell:=fun y hy hc=>by
  have:=List.all_eq_true.mp h2 y hy
  rw [hc] at this
  simpa using this
 refine ⟨⟨h1,cells,fun y hy hl=>?_,fun y hy hf=>?_,by simpa using h5,fun i j x e1 e2=>?_⟩,fun cl A s₀ H₀ fp=>?_⟩
 ·have:=List.all_eq_true.mp h3 y hy
  rw [hl] at this
  simpa using this
 ·have:=List.all_eq_true.mp h4 y hy
  rw [hf] at this
  simp only [bne_self_eq_false,Bool.false_or,Bool.and_eq_true,Bool.or_eq_true,beq_iff_eq] at this
  refine ⟨this.1,?_⟩
  rcases this.2 with z | z
  ·exact .inl (C.cel _ z).1
  ·exact C.fre _ z
 ·have hz:(N.zip pick)[i]?=some (x,some j):=by rw [List.getElem?_zip_eq_some]; exact ⟨e1,e2⟩
  have:=List.all_eq_true.mp h6 _ (List.mem_of_getElem? hz)
  rw [C.hN]
  simpa using this
 ·refine ⟨rfl,h7,fun x z=>?_,fun x z=>?_,fun x z=>?_,fun x z=>?_,C.room,C.calm,PassesOwn.never,C.blt,C.fns,C.gls,C.room2,C.cls,C.mgK⟩
  ·exact jaq (by decide) (eq_of_beq z)
  ·exact ⟨jaq (by decide) (eq_of_beq z),z⟩
  ·exact jaD (eq_of_beq z)
  ·exact glc (eq_of_beq z)
end
end Z

namespace Z
open PySem L2
set_option maxHeartbeats 8000000
section
variable {K:PySem.W.Frag}{H H':Hp}{G G':Gp}
end
section
variable {T:Tab}{k:Nat}{X:Cx}{c:Ctx}
end
structure HC (T:Tab)(X:Cx)(c:Ctx)(n:Nat)(ea C dx:Addr)(x:XV):Prop where
 hN:X.N=c.N
 nd:c.N.Nodup
 loc:∀ y,kd c y .local=true->X.env.scope.names.lookup y=some .local
 cel:∀ y,kd c y .cell=true->X.env.scope.names.lookup y=some .cell/\X.fn y=true
 fre:∀ y,kd c y .free=true->X.env.scope.names.lookup y=some .cell\/X.env.scope.names.lookup y=some .free
 glb:∀ y,kd c y .globalImplicit=true->Gl X y
 blt:∀ y∈jbk,X.mg y=none
 cls:∀ n∈T.cs,1<=n->∃ C,XCls X.K (gK X.K) (clsN n) (clsF n) C
 me:XCls X.K (gK X.K) (clsN x.c) (clsF x.c) C
 lo:1<=x.c
 hi:x.c < 6
 pin:XPin X ea C dx
 mgK:∀ y v,gK X.K y=some v->X.mg y=some v
 en:n < c.N.length/\kd c (nmA c n) .local=true/\(nmA c n == ("__debug__" : Str))=false/\(nmA c n == ("__classdict__" : Str))=false
structure HSt (X:Cx)(n:Nat)(ea C dx:Addr)(x:XV)(σ:St)(H:Hp)(ς:Sg)(G:Gp):Prop where
 sr:SR X.K H ς σ
 hr:HR X.K H G
 en:σ[n]?=some (some (.ref ea))
 xd:XD X.K H C dx x
noncomputable def hB (X:Cx)(n:Nat)(ea C dx:Addr)(x:XV)(f:Sg->Option Bool):TE:=fun σ H Q=>∃ ς G b,HSt X n ea C dx x σ H ς G/\f ς=some b/\∀ H',HR X.K H' G->Fr H G H' G->Q (.bl b) H'
noncomputable def hT (X:Cx)(n:Nat)(ea C dx:Addr)(x:XV)(f:Sg->Option Bool):TT:=fun σ H Q=>∃ ς G b,HSt X n ea C dx x σ H ς G/\f ς=some b/\∀ H',HR X.K H' G->Fr H G H' G->Q b H'
section
variable {T:Tab}{X:Cx}{c:Ctx}{n:Nat}{ea C dx:Addr}{x:XV}
noncomputable def hV (X:Cx)(n:Nat)(ea C dx:Addr)(x:XV)(f:Sg->Gp->K1->Prop):TE:=fun σ H Q0=>∃ ς G Q,HSt X n ea C dx x σ H ς G/\f ς G Q/\LV X H G Q Q0
noncomputable def hS (X:Cx)(n:Nat)(ea C dx:Addr)(x:XV)(hs:List HS):L2.TS:=fun D σ H=>∃ ς G k,HSt X n ea C dx x σ H ς G/\hsH x hs ς G k/\∀ ς' σ' G' H',HSt X n ea C dx x σ' H' ς' G'->Fr H G H' G'->k ς' G'->D.nx σ' H'
end
section
variable {T:Tab}{k:Nat}{X:Cx}{c:Ctx}
end
section
variable {T:Tab}{k:Nat}
theorem jiD (b:Blt):bltN b∈jbk:=by cases b <;> decide
theorem jjq:∀ n∈je3,bootBuiltins (Str.ofString n)=some (.type n)/\Str.ofString n∈jbk/\Str.ofString n ≠ "__name__" := by decide +kernel
noncomputable abbrev SE (T:Tab)(k:Nat)(X:Cx)(c:Ctx)(ir:E)(h:Expr):Prop:=PE X (unE T c ir h) (lE X (den T.gs (jaa T k) ir).1)/\PT X (unE T c ir h) (lT X (den T.gs (jaa T k) ir).2)
section
variable {X:Cx}{c:Ctx}
theorem tru {e:Expr}{t:UE}(h:PE X e (lE X t))(hp:∀ whole,isTrue e X.env whole=(do let v <- whole; standAt e.pos; holding [v] (truthy v))):PE X e (lE X t)/\PT X e (lT X (truT t)):=⟨h,jji h hp⟩
theorem jjF {a b:Expr}{rest:List Expr}{pos:Pos}{p q:UE×UT}(ha:PE X a (lE X p.1)/\PT X a (lT X p.2))(hb:PE X (.BoolOp .And (b::rest) pos) (lE X q.1)/\PW X (.BoolOp .And (b::rest) pos) (lT X q.2)) :
  PE X (.BoolOp .And (a::b::rest) pos) (lE X (comb true p q).1)/\PW X (.BoolOp .And (a::b::rest) pos) (lT X (comb true p q).2):=⟨jlP ha.1 hb.1,jjp ha.2 hb.2⟩
theorem jl3 {a b:Expr}{rest:List Expr}{pos:Pos}{p q:UE×UT}(ha:PE X a (lE X p.1)/\PT X a (lT X p.2))(hb:PE X (.BoolOp .Or (b::rest) pos) (lE X q.1)/\PW X (.BoolOp .Or (b::rest) pos) (lT X q.2)) :
  PE X (.BoolOp .Or (a::b::rest) pos) (lE X (comb false p q).1)/\PW X (.BoolOp .Or (a::b::rest) pos) (lT X (comb false p q).2):=⟨u_or ha.1 hb.1,jlC ha.2 hb.2⟩
theorem se_v {i:Nat}{h:Expr}(C:Cok T k X c)(q:okE T c (.v i) h=true):SE T k X c (.v i) h:=tru (jlx (C.nm (ba (ba (ba q).1).1).1) (C.vis (ba (ba (ba q).1).1).2) (bn (ba (ba q).1).2) (bn (ba q).2)) fun _=>rfl
theorem se_g {n:Nat}{h:Expr}(C:Cok T k X c)(q:okE T c (.g n) h=true):SE T k X c (.g n) h:=by
 have h1:=of_decide_eq_true (ba (ba q).1).1
 have h2:=of_decide_eq_true (ba (ba q).1).2
 have hn:T.gn[n]?=some (T.gn.getD n ""):=by rw [List.getD_eq_getElem?_getD,List.getElem?_eq_getElem h2]; rfl
 obtain ⟨v,w,m,r,ru⟩:=C.gls n _ T.gs[n] hn (by simp [h1])
 obtain ⟨g1,g2⟩:=C.gl (ba q).2
 refine tru (PE.imp (u_gl (u:=T.gs[n]) g1 m r ru g2) fun σ H Q0 ⟨ς,G,Q,E,hς,hG,h,lv,lx⟩=>⟨ς,G,Q,E,hς,hG,?_,lv,lx⟩) fun _=>rfl
 have h':glU T.gs n fun u=>Q u G:=h
 unfold glU at h'
 rw [List.getElem?_eq_getElem h1] at h'
 exact h'
theorem jl2 {n:String}{h:Expr}(C:Cok T k X c)(q:okE T c (.ty n) h=true):SE T k X c (.ty n) h:=by
 obtain ⟨g1,g2⟩:=C.gl (ba q).2
 obtain ⟨t1,t2,t3⟩:=jjq n (by simpa using (ba q).1)
 exact tru (u_ty g1 (C.blt _ t2) t1 t3 g2) fun _=>rfl
theorem jjB {es:Es}{h:Expr}{trs:List (TE×TE)}(h1:PPs X h.pos (unK T c es (dk h)) (unV T c es (cl h)) trs)(h2:lD X (denD T.gs (jaa T k) es) trs)(h3:(unK T c es (dk h)).all (·.isSome)=true)(h4:(unK T c es (dk h)).length=(unV T c es (cl h)).length)
  (h5:(unK T c es (dk h)).length<=15):SE T k X c (.dic es) h:=by
 refine tru ?_ fun _=>rfl
 match es,h1,h2,h3,h4,h5 with
 | .nil,_,_,_,_,_=>exact PE.imp jjl fun σ H Q0 ⟨ς,G,Q,E,hς,hG,h,lv,lx⟩=>⟨ς,G,Q,E,hς,hG,(show ([]:List (Key×U)).length<=15/\newO G (.dK (jcc [])) Q from h).2,lv,lx⟩
 | .cons _ .nil,_,_,_,_,_=>exact fun pins s σ H Q0 I ⟨ς,G,Q,E,hς,hG,h,lv,lx⟩=>(show False from h).elim
 | .cons d (.cons f es),h1,h2,h3,h4,h5=>exact jlK h1 h2 h3 h4 (fun z=>nomatch z) h5
theorem je1:∀ (es:Es) (hs:List Expr),(unF T c es hs).length=ja6 es
 | .nil,_=>rfl
 | .cons _ es,hs=>congrArg (·+ 1) (je1 es hs.tail)
theorem jjA {es:Es}{h:Expr}(q:okE T c (.fst es) h=true)(ha:PJ X (unF T c es (cl h)) (lF X (denF T.gs (jaa T k) es))):PE X (unE T c (.fst es) h) (lE X (den T.gs (jaa T k) (.fst es)).1):=by
 have h1:=of_decide_eq_true (ba (ba q).1).1
 have h2:=of_decide_eq_true (ba (ba q).1).2
 have hl:=je1 (T:=T) (c:=c) es (cl h)
 show PE X (.JoinedStr (unF T c es (cl h)) h.pos) _
 generalize unF T c es (cl h)=l at ha hl
 match l,ha,hl with
 | [],_,hl=>exact absurd hl (by show ¬ (0=ja6 es); omega)
 | [_],_,hl=>exact absurd hl (by show ¬ (1=ja6 es); omega)
 | _::_::_,ha,hl=>exact jlJ ha (by rw [hl]; exact h2)
theorem jh1 {n:Nat}{es:Es}{h:Expr}(C:Cok T k X c)(q:okE T c (.call n es) h=true)(ha:PA X (unEs T c es (cl h)) (lA X (jas T.gs (jaa T k) es))):SE T k X c (.call n es) h:=by
 refine tru ?_ fun _=>rfl
 have hn:=of_decide_eq_true (ba (ba q).1).1
 have hd':T.funs[n]?=some T.funs[n]:=by simp [hn]
 have hx:T.funs[n].name=fnN T n:=by unfold fnN; rw [hd']
 match es,ha with
 | .nil,_=>exact jhN C hd' hx (ba (ba q).1).2
 | .cons d es,ha=>exact jjo C hd' hx (ba (ba q).1).2 ha (jan (jai d _) _ _) (jbL es _ _ _).1
theorem jjC {b:Blt}{es:Es}{h:Expr}(C:Cok T k X c)(q:okE T c (.blt b es) h=true)(ha:PA X (unEs T c es (cl h)) (lA X (jas T.gs (jaa T k) es))):SE T k X c (.blt b es) h:=by
 refine tru ?_ fun _=>rfl
 obtain ⟨g1,g2⟩:=C.gl (ba (ba q).1).2
 match es,ha,q with
 | .nil,_,q=>exact absurd (of_decide_eq_true (ba (ba q).1).1) (Nat.lt_irrefl 0)
 | .cons d es,ha,_=>exact jlM (jkX C.room C.calm b) g1 (C.blt _ (jiD b)) ha (jan (jai d _) _ _) (jbL es _ _ _).1
theorem jh0 {m:Mth}{o:E}{es:Es}{h:Expr}(q:okE T c (.meth m o es) h=true)(ho:PE X (unE T c o (c0 (c0 h))) (lE X (den T.gs (jaa T k) o).1))(ha:PA X (unEs T c es (cl h)) (lA X (jas T.gs (jaa T k) es))):SE T k X c (.meth m o es) h:=by
 refine tru ?_ fun _=>rfl
 have h6:=(ba q).2
 have h5:=of_decide_eq_true (ba (ba q).1).2
 have h4:=(ba (ba (ba q).1).1).2
 match es,ha,h5 with
 | .nil,_,_=>exact jhL (jhk m) ho (jf7 h6 _ _ _) h4
 | .cons d es,ha,h5=>
  refine jjj (jhk m) ho ha (jf7 h6 _ _ _) ?_ h4 (jan (jai d _) _ _) (jbL es _ _ _).1
  have e:=(jbL (T:=T) (c:=c) (.cons d es) (cl h) X.env h.pos).2
  show ((backTo h.pos (starEach (unEs T c (.cons d es) (cl h)) X.env)).all (fun x=>!x.1) && _ && decide ((unEs T c (.cons d es) (cl h)).length + 0 + 0 < 30))=true
  rw [e,jg1]
  exact decide_eq_true h5
theorem s_r2 {a b:E}{h:Expr}{tg:Expr}(C:Cok T k X c)(g:glo c "range" = true)(ha:SE T k X c a (hd (cl h)))(hb:SE T k X c b (hd (cl h).tail)):PI X tg (unI T c (.r2 a b) h) (lI X (denI T.gs (jaa T k) (.r2 a b))):=
 u_r2 (C.gl g).1 (C.blt _ (by decide)) ha.1 hb.1 (by rw [jan (jai a _),jan (jai b _)]; rfl) (jan (jai b _) _ _)
theorem jjD {d:E}{e:Expr}(h:PT X e (lT X (den T.gs (jaa T k) d).2)):PIfs X [e] (lT0 X.K (denC T.gs (jaa T k) (.cons d .nil))):=by
 refine PIfs.imp (jif (lT0.of h)) fun σ H Q0 ⟨ς,G,Q,h1,h2,h3,h4⟩=>⟨ς,G,fun b G'=>Q b G',h1,h2,?_,h4⟩
 have h3':(den T.gs (jaa T k) d).2 ς G (fun b G1=>if b=true then Q true G1 else Q false G1) (fun _ _=>False):=h3
 have e:(fun (b:Bool) (G1:Gp)=>if b=true then Q true G1 else Q false G1)=fun b G'=>Q b G':=by
  funext b G1
  cases b <;> simp
 rw [e] at h3'
 exact h3'
theorem jjE:PIfs X [] (lT0 X.K (denC T.gs (jaa T k) .nil)):=PIfs.imp jig fun σ H Q0 ⟨ς,G,Q,h1,h2,h3,h4⟩=>h4 true G H h2 (Fr.refl _ _) h3
theorem jkC:∀ (es:Es) (hs:List Expr),2 * (unK T c es hs).length<=ja6 es
 | .nil,_=>Nat.le_refl _
 | .cons _ .nil,_=>Nat.zero_le _
 | .cons _ (.cons _ es),hs=>by
  have:=jkC es hs.tail
  show 2 * ((unK T c es hs.tail).length + 1)<=ja6 es + 1 + 1
  omega
theorem k_le {es:Es}{hs:List Expr}(h:ja6 es<=30):(unK T c es hs).length<=15:=by
 have:=jkC (T:=T) (c:=c) es hs
 omega
end
mutual
theorem sE : ∀ (ir : E) {X : Cx} {c : Ctx} {h : Expr}, Cok T k X c -> okE T c ir h = true -> SE T k X c ir h
  | .v _, _, _, _, C, q => se_v C q
  | .non, _, _, _, _, _ => tru (jbl (u := .non) jj2 fun _ => rfl) fun _ => rfl
  | .bl b, _, _, _, _, _ => tru (jbl (u := .bl b) jmg fun _ => rfl) fun _ => rfl
  | .int i, _, _, _, _, _ => tru (jbl (u := .int i) jhd fun _ => rfl) fun _ => rfl
  | .str x, _, _, _, _, _ => tru (jbl (u := .str x) jj0 fun _ => rfl) fun _ => rfl
  | .g _, _, _, _, C, q => se_g C q
  | .ty _, _, _, _, C, q => jl2 C q
  | .bin o a b, _, _, _, C, q => tru (jlN (jkc o) (sE a C (ba q).1).1 (sE b C (ba q).2).1) fun _ => rfl
  | .neg a, _, _, _, C, q => tru (jlE (sE a C q).1) fun _ => rfl
  | .not a, _, _, _, C, q => ⟨jlD (sE a C q).1, jg4 (sE a C q).2⟩
  | .bop k a es, _, _, h, C, q => let r := sB es k C (sE a C (ba q).1) (ba q).2 h.pos; ⟨r.1, r.2.pt⟩
  | .cmp o a b, _, _, _, C, q => ⟨jlL (jcC C.room o) (sE a C (ba (ba q).1).1).1 (sE b C (ba (ba q).1).2).1 (bn (ba q).2), jjm (jcC C.room o) (sE a C (ba (ba q).1).1).1 (sE b C (ba (ba q).1).2).1 (bn (ba q).2)⟩
  | .cmp2 o p a b d, _, _, _, C, q => ⟨jjn (jcC C.room o) (jcC C.room p) (sE a C (ba (ba (ba q).1).1).1).1 (sE b C (ba (ba (ba q).1).1).2).1 (sE d C (ba (ba q).1).2).1 (bn (ba q).2),
      PT.imp (jhM (jcC C.room o) (jcC C.room p) (sE a C (ba (ba (ba q).1).1).1).1 (sE b C (ba (ba (ba q).1).1).2).1 (sE d C (ba (ba q).1).2).1 (bn (ba q).2)) fun _ _ _ ⟨ς, G, Q, E, hς, hG, h, lv, lx⟩ => ⟨ς, G, Q, E, hς, hG, h, lv, lx⟩⟩
  | .ife t a b, _, _, _, C, q => ⟨jlI (sE t C (ba (ba q).1).1).2 (sE a C (ba (ba q).1).2).1 (sE b C (ba q).2).1, jjk (sE t C (ba (ba q).1).1).2 (sE a C (ba (ba q).1).2).2 (sE b C (ba q).2).2⟩
  | .tup es, _, _, _, C, q => tru (jly (sEs es C q)) fun _ => rfl
  | .lst es, _, _, _, C, q => tru (jlH (sEs es C q)) fun _ => rfl
  | .dic es, _, _, h, C, q => let ⟨_, h1, h2, h3, h4⟩ := sD es C h.pos (ba q).1; jjB h1 h2 h3 h4 (k_le (of_decide_eq_true (ba q).2))
  | .dicT, _, _, _, _, q => nomatch q
  | .ix a b, _, _, _, C, q => tru (u_ix C.hu (sE a C (ba q).1).1 (sE b C (ba q).2).1 (jiR (jai b _))) fun _ => rfl
  | .sl a lo hi, _, _, _, C, q => tru (u_sl (sE a C (ba (ba q).1).1).1 (sO lo C (ba (ba q).1).2) (sO hi C (ba q).2)) fun _ => rfl
  | .rev a b, _, _, _, C, q => tru (jlB (sE a C (ba q).1).1 (sE b C (ba q).2).1) fun _ => rfl
  | .call _ es, _, _, _, C, q => jh1 C q (sEs es C (ba q).2)
  | .app _ _, _, _, _, _, _ => ⟨fun _ _ _ _ _ _ ⟨_, _, _, _, _, _, h, _⟩ => (show False from h).elim, fun _ _ _ _ _ _ ⟨_, _, _, _, _, _, h, _⟩ => (show False from h).elim⟩
  | .blt _ es, _, _, _, C, q => jjC C q (sEs es C (ba q).2)
  | .meth _ o es, _, _, _, C, q => jh0 q (sE o C (ba (ba (ba (ba q).1).1).1).1).1 (sEs es C (ba (ba (ba (ba q).1).1).1).2)
  | .lc _ t it ifs d, _, _, _, C, q => let S := C.comp (ba (ba (ba (ba (ba (ba q).1).1).1).1).1).1
      tru (u_lc C.calm S.1 (sI it t _ _ C (ba (ba (ba (ba q).1).1).1).2).1 (ba (ba (ba (ba (ba (ba q).1).1).1).1).1).2 (fun cl A s₀ H₀ fp => sTg (S.2 cl A s₀ H₀ fp) t _ (ba (ba (ba (ba (ba q).1).1).1).1).2)
        (fun cl A s₀ H₀ fp => sC ifs (S.2 cl A s₀ H₀ fp) (of_decide_eq_true (ba (ba q).1).2) (ba (ba (ba q).1).1).2) (fun cl A s₀ H₀ fp => lE0.of (sE d (S.2 cl A s₀ H₀ fp) (ba q).2).1) (sI it t ⟨[], []⟩ e0 C (ba (ba (ba (ba q).1).1).1).2).2) fun _ => rfl
  | .lc2 _ _ _ _ _ _ _ _, _, _, _, _, q => nomatch q
  | .fst es, _, _, h, C, q => tru (jjA q (sF es C (ba q).2)) fun _ => rfl
  | .sset _, _, _, _, _, q => nomatch q
  | .mkD _, _, _, _, _, q => nomatch q
  | .maxD _, _, _, _, _, q => nomatch q
  | .minD _, _, _, _, _, q => nomatch q
  | .mkL d, _, _, _, C, q => tru (jlG (C.gl (ba q).1).1 (C.blt _ (by decide)) (sE d C (ba q).2).1 (jan (jai d _) _ _)) fun _ => rfl
  | .mkT d, _, _, _, C, q => tru (jlF (C.gl (ba q).1).1 (C.blt _ (by decide)) (sE d C (ba q).2).1 (jan (jai d _) _ _)) fun _ => rfl
  | .rngL _, _, _, _, _, q => nomatch q
  | .rngT _, _, _, _, _, q => nomatch q
  | .rngL2 _ _, _, _, _, _, q => nomatch q
theorem sO : ∀ (ir : Eo) {X : Cx} {c : Ctx} {h : Expr}, Cok T k X c -> okO T c ir h = true -> PO X (unO T c ir h) (lO X (denO T.gs (jaa T k) ir))
  | .no, _, _, _, _, _ => u_no
  | .so d, _, _, _, C, q => u_so (sE d C q).1
theorem sEs : ∀ (ir : Es) {X : Cx} {c : Ctx} {hs : List Expr}, Cok T k X c -> okEs T c ir hs = true -> PA X (unEs T c ir hs) (lA X (jas T.gs (jaa T k) ir))
  | .nil, _, _, _, _, _ => je2
  | .cons d ir, _, _, _, C, q => jco (sE d C (ba q).1).1 (sEs ir C (ba q).2) (jan (jai d _) _ _)
theorem sB : ∀ (ir : Es) (b : Bool) {X : Cx} {c : Ctx} {hs : List Expr} {a : Expr} {p : UE × UT}, Cok T k X c -> PE X a (lE X p.1) /\ PT X a (lT X p.2) -> okEs T c ir hs = true -> ∀ pos : Pos,
    PE X (.BoolOp (boU b) (a :: unEs T c ir hs) pos) (lE X (denB T.gs (jaa T k) b p ir).1) /\ PW X (.BoolOp (boU b) (a :: unEs T c ir hs) pos) (lT X (denB T.gs (jaa T k) b p ir).2)
  | .nil, true, _, _, _, _, _, _, ha, _, _ => ⟨jhc ha.1, pw_and1 ha.2⟩
  | .nil, false, _, _, _, _, _, _, ha, _, _ => ⟨jhc ha.1, pw_or1 ha.2⟩
  | .cons d ir, true, _, _, _, _, _, C, ha, q, pos => jjF ha (sB ir true C (sE d C (ba q).1) (ba q).2 pos)
  | .cons d ir, false, _, _, _, _, _, C, ha, q, pos => jl3 ha (sB ir false C (sE d C (ba q).1) (ba q).2 pos)
theorem sC : ∀ (ir : Es) {X : Cx} {c : Ctx} {hs : List Expr}, Cok T k X c -> ja6 ir <= 1 -> okEs T c ir hs = true -> PIfs X (unEs T c ir hs) (lT0 X.K (denC T.gs (jaa T k) ir))
  | .nil, _, _, _, _, _, _ => jjE
  | .cons d .nil, _, _, _, C, _, q => jjD (sE d C (ba q).1).2
  | .cons _ (.cons _ es), _, _, _, _, l, _ => absurd l (by show ¬ (ja6 es + 1 + 1 <= 1); omega)
theorem sD : ∀ (ir : Es) {X : Cx} {c : Ctx} {hs gs : List Expr}, Cok T k X c -> (p : Pos) -> okD T c ir hs gs = true -> ∃ trs, PPs X p (unK T c ir hs) (unV T c ir gs) trs /\ lD X (denD T.gs (jaa T k) ir) trs /\ (unK T c ir hs).all (·.isSome) = true /\ (unK T c ir hs).length = (unV T c ir gs).length
  | .nil, _, _, _, _, _, _, _ => ⟨[], jh9, jkx, rfl, rfl⟩
  | .cons d (.cons f ir), _, _, _, _, C, p, q => let ⟨_, h1, h2, h3, h4⟩ := sD ir C p (ba q).2; ⟨_, jgq (sE d C (ba (ba q).1).1).1 (sE f C (ba (ba q).1).2).1 h1, jiF h2, h3, congrArg (· + 1) h4⟩
  | .cons _ .nil, _, _, _, _, _, _, q => nomatch q
theorem sF : ∀ (ir : Es) {X : Cx} {c : Ctx} {hs : List Expr}, Cok T k X c -> okF T c ir hs = true -> PJ X (unF T c ir hs) (lF X (denF T.gs (jaa T k) ir))
  | .nil, _, _, _, _, _ => jmC
  | .cons d es, _, _, hs, C, q => by
    cases d with
    | str x => exact ji0 (of_decide_eq_true (ba q).1) (sF es C (ba q).2)
    | _ => exact f_fv (sE _ C (ba q).1).1 (sF es C (ba q).2)
theorem sI : ∀ (ir : It) (t : Tg) (ct : Ctx) (ht : Expr) {X : Cx} {c : Ctx} {h : Expr}, Cok T k X c -> okI T c t ir h = true -> PI X (unTg ct t ht) (unI T c ir h) (lI X (denI T.gs (jaa T k) ir)) /\ ∀ x, foldedSetIterable (unI T c ir h) X.env x = pure x
  | .e d, _, _, _, _, _, _, C, q => ⟨u_ie (sE d C q).1, jaY (jai d _) _⟩
  | .r1 d, _, _, _, _, _, _, C, q => ⟨u_r1 (C.gl (ba q).1).1 (C.blt _ (by decide)) (sE d C (ba q).2).1 (jan (jai d _) _ _), fun _ => rfl⟩
  | .r2 a b, _, _, _, _, _, _, C, q => ⟨s_r2 C (ba (ba q).1).1 (sE a C (ba (ba q).1).2) (sE b C (ba q).2), fun _ => rfl⟩
  | .enum _, _, _, _, _, _, _, _, q => nomatch q
  | .dk _, _, _, _, _, _, _, _, q => nomatch q
  | .s d, _, _, _, _, _, _, C, q => ⟨u_is (sE d C q).1, jaY (jai d _) _⟩
end
end
section
variable {c:Ctx}{env:Env}
noncomputable def swF (sb:Bool)(names:List Str)(bk:ScopeKind)(ts vs:List Expr):Sem (Option (List Str)):=
 if (!(ts.length == 2 || ts.length == 3) || vs.length != ts.length || bk != .function)=true then pure none
 else if sb=true then pure none
 else if (names.length != ts.length || names.eraseDups.length != names.length)=true then pure none
 else if vs.all (foldedForSure 8)=true then pure none
 else if vs.all (constantsAlone 8)=true then do unsupported "assign.tuple-of-constant-expressions:order-of-the-stores"; pure (some names)
 else pure (some names)
noncomputable def jcK (env:Env)(ts:List Expr):List Str:=ts.filterMap fun
  | .Name id pos=>if env.kindOf id == some .local && pos.line == jg9 ts then some id else none
  | _=>none
theorem jlY {ts vs:List Expr}{a b:Nat}{p q:Pos}:swappedStores [.Tuple ts a p] (.Tuple vs b q) env=swF (vs.any jfK) (jcK env ts) env.blockKind ts vs:=by
 have e1:jfK=fun | .Starred ..=>true | _=>false:=by funext e; cases e <;> rfl
 with_unfolding_all rfl
theorem jgd (hk:∀ x,env.kindOf x=c.sc.lookup x)(ts:List Expr):jcK env ts=jaC c ts:=by
 unfold jaC jcK
 congr 1
 funext e
 cases e <;> first | rfl | (dsimp only; rw [hk])
theorem jc8 (hk:∀ x,env.kindOf x=c.sc.lookup x)(hb:env.blockKind=.function){ts vs:List Expr}{a b:Nat}{p q:Pos}(h:jbn c ts vs=true):swappedStores [.Tuple ts a p] (.Tuple vs b q) env=pure none:=by
 rw [jlY,jgd hk,hb]
 unfold swF
 unfold jbn at h
 by_cases h1:(!(ts.length == 2 || ts.length == 3) || vs.length != ts.length)=true
 ·rw [if_pos (by rw [h1]; rfl)]
 ·have h1':(!(ts.length == 2 || ts.length == 3) || vs.length != ts.length)=false:=by simpa using h1
  rw [h1'] at h
  rw [if_neg (by rw [h1']; decide)]
  simp only [Bool.false_or,Bool.and_eq_true,Bool.not_eq_true'] at h
  obtain ⟨h2,h3⟩:=h
  rw [if_neg (by rw [h2]; decide)]
  by_cases h4:((jaC c ts).length != ts.length || (jaC c ts).eraseDups.length != (jaC c ts).length)=true
  ·rw [if_pos h4]
  ·rw [if_neg h4]
   have h4':((jaC c ts).length != ts.length || (jaC c ts).eraseDups.length != (jaC c ts).length)=false:=by simpa using h4
   rw [h4'] at h3
   rw [if_pos (by simpa using h3)]
theorem jgc (hk:∀ x,env.kindOf x=c.sc.lookup x)(hb:env.blockKind=.function){elt:Expr}{gs:List Comprehension}{s:Scope}{p py:Pos}{y:Str}{l:Nat}(h:lcSw c y py p s=true) :
  swapsWith (.ListComp elt gs s p) (some (.Name y py)) l env=pure true:=by
 unfold lcSw at h
 simp only [Bool.and_eq_true] at h
 unfold swapsWith
 dsimp only
 show (pure (env.blockKind == .function && env.kindOf y == some .local && py.line == p.line && !(s.names.any fun (n,k)=>n == y && (k == .local || k == .cell))):Sem Bool)=pure true
 rw [hb,hk,h.1.1,h.1.2,h.2]
 rfl
theorem jeg (hk:∀ x,env.kindOf x=c.sc.lookup x){elt:Expr}{gs:List Comprehension}{s:Scope}{p py:Pos}{y:Str}{l:Nat}(h:(c.sc.lookup y == some .local)=false) :
  swapsWithSole [.Name y py] (.ListComp elt gs s p) l env=pure false:=by
 show (pure (env.blockKind == .function && env.kindOf y == some .local && py.line == p.line && !(s.names.any fun (n,k)=>n == y && (k == .local || k == .cell))):Sem Bool)=pure false
 rw [hk,h]
 simp
end
section
variable {T:Tab}{k:Nat}
theorem Cos.kindOf {X:Cx}{c:Ctx}(C:Cos T k X c):∀ x,X.env.kindOf x=c.sc.lookup x:=fun x=>by
 unfold Env.kindOf
 rw [C.sc]
theorem Cos.block {X:Cx}{c:Ctx}(C:Cos T k X c):X.env.blockKind=.function:=by
 unfold Env.blockKind
 rw [C.kind]
 rfl
section
variable {X:Cx}{c:Ctx}
theorem jju {t:Tg}{d:E}{h:Stmt}(C:Cos T k X c)(q:okS T c (.asg t d) h=true)(hs:PE X (unE T c d (q0 h)) (lE X (den T.gs (jaa T k) d).1)):PS X (unS T c (.asg t d) h) (lS X (denS T.gs (jaa T k) (.asg t d))):=by
 have hg:=sTg C.toCok t (q1 h) (ba (ba q).1).2
 have q3:=(ba q).2
 have fin:swapsWithSole [unTg c t (q1 h)] (unE T c d (q0 h)) h.pos.line X.env=pure false/\swappedStores [unTg c t (q1 h)] (unE T c d (q0 h)) X.env=pure none:=by
  cases t with
  | n i=>
   refine ⟨?_,jlw d _ _ _ _⟩
   by_cases hl:isLc d=true
   ·cases d with
    | lc=>exact jeg C.kindOf (bn q3)
    | lc2=>exact jeg C.kindOf (bn q3)
    | _=>cases hl
   ·exact jhG (by simpa using hl) _ _ _ _
  | t ts=>
   cases d with
   | lc=>cases q3
   | lc2=>cases q3
   | tup es=>exact ⟨rfl,jc8 C.kindOf C.block q3⟩
   | _=>exact ⟨rfl,rfl⟩
 exact s_asg hs hg fin.1 fin.2 (je0 t _ _)
theorem jjt {ts:Tgs}{d:E}{h:Stmt}(C:Cos T k X c)(q:okS T c (.unp ts d) h=true)(hs:PE X (unE T c d (q0 h)) (lE X (den T.gs (jaa T k) d).1)):PS X (unS T c (.unp ts d) h) (lS X (denS T.gs (jaa T k) (.unp ts d))):=by
 have hg:=sTgs C.toCok ts (cl (q1 h)) (ba (ba q).1).2
 have q3:=(ba q).2
 have fin:swapsWithSole [unTg c (.t ts) (q1 h)] (unE T c d (q0 h)) h.pos.line X.env=pure false/\swappedStores [unTg c (.t ts) (q1 h)] (unE T c d (q0 h)) X.env=pure none:=by
  cases d with
  | lc=>cases q3
  | lc2=>cases q3
  | tup es=>exact ⟨rfl,jc8 C.kindOf C.block q3⟩
  | _=>exact ⟨rfl,rfl⟩
 exact s_unp C.calm hs hg (jbM ts _ X.env).1 (jbM ts _ X.env).2 (fun us ς k q=>jdI q) fin.1 fin.2 (je0 (.t ts) (q1 h) _)
theorem jhS {i:Nat}{d:E}{h:Stmt}(C:Cos T k X c)(q:okS T c (.asgC i d) h=true):PS X (unS T c (.asgC i d) h) (lS X (denS T.gs (jaa T k) (.asgC i d))):=by
 have qd:=(ba (ba (ba q).1).1)
 have hl:=(ba q).2
 have hi:=C.nm (ba (ba q).1).2
 have hy:=eq_of_beq (ba (ba hl).1).1
 cases d with
 | lc pick t it ifs d=>
  have q1':=qd.2
  have S:=C.toCok.comp (ba (ba (ba (ba (ba (ba q1').1).1).1).1).1).1
  exact s_lc (by rw [C.hN]; exact C.nd) hi (by rw [C.sc]; exact hy) C.calm S.1 (sI it t _ _ C.toCok (ba (ba (ba (ba q1').1).1).1).2).1 (ba (ba (ba (ba (ba (ba q1').1).1).1).1).1).2
   (fun cl A s₀ H₀ fp=>sTg (S.2 cl A s₀ H₀ fp) t _ (ba (ba (ba (ba (ba q1').1).1).1).1).2) (fun cl A s₀ H₀ fp=>sC ifs (S.2 cl A s₀ H₀ fp) (of_decide_eq_true (ba (ba q1').1).2) (ba (ba (ba q1').1).1).2)
   (fun cl A s₀ H₀ fp=>lE0.of (sE d (S.2 cl A s₀ H₀ fp) (ba q1').2).1) (jgc C.kindOf C.block hl) (jhH it _ _)
 | lc2 pick t it ifs t2 it2 ifs2 d=>exact Bool.noConfusion (show false=true from qd.2)
 | _=>cases qd.1
end
mutual
theorem sS:∀ (ir:S) {X:Cx} {c:Ctx} {h:Stmt},Cos T k X c->okS T c ir h=true->PS X (unS T c ir h) (lS X (denS T.gs (jaa T k) ir))
 | .pass,_,_,_,_,q=>nomatch q
 | .expr d,_,_,_,C,q=>s_expr (sE d C.toCok (ba q).1).1 (jhI (bn (ba q).2) _ _ _)
 | .asg _ d,_,_,_,C,q=>jju C q (sE d C.toCok (ba (ba q).1).1).1
 | .asgC _ _,_,_,_,C,q=>jhS C q
 | .unp _ d,_,_,_,C,q=>jjt C q (sE d C.toCok (ba (ba q).1).1).1
 | .setS o i d,_,_,_,C,q=>s_set C.toCok.hu (sE d C.toCok (ba (ba q).1).1).1 (sE o C.toCok (ba (ba q).1).2).1 (sE i C.toCok (ba q).2).1 (jg0 d _ _ _ _ _ _).1 (jg0 d _ _ _ _ _ 0).2 rfl (jgK (jai i _) _ _)
 | .par _ _,_,_,_,_,q=>nomatch q
 | .aug _ _ _,_,_,_,_,q=>nomatch q
 | .augS _ _ _ _,_,_,_,_,q=>nomatch q
 | .ite t a b,_,_,_,C,q=>s_if (sE t C.toCok (ba (ba q).1).1).2 (sSs a C (ba (ba q).1).2) (sSs b C (ba q).2)
 | .fr t it b,_,_,_,C,q=>s_for C.po C.calm (sI it t _ _ C.toCok (ba (ba q).1).2).1 (sTg C.toCok t _ (ba (ba q).1).1) (sSs b C (ba q).2) (sI it t ⟨[],[]⟩ e0 C.toCok (ba (ba q).1).2).2
 | .wh _ _,_,_,_,_,q=>nomatch q
 | .ret d,_,_,_,C,q=>s_ret (sE d C.toCok q).1
 | .retN,_,_,_,_,q=>nomatch q
 | .never,_,_,_,_,_=>fun _ _ _ _ _ _ ⟨_,_,_,_,_,q,_⟩=>(show False from q).elim
 | .raise _ _,_,_,_,_,q=>nomatch q
 | .tr _ _ _ _,_,_,_,_,q=>nomatch q
theorem sSs:∀ (ir:Ss) {X:Cx} {c:Ctx} {hs:List Stmt},Cos T k X c->okSs T c ir hs=true->PSs X (unSs T c ir hs) (lS X (jaz T.gs (jaa T k) ir))
 | .nil,_,_,_,_,_=>s_nil
 | .cons s r,_,_,_,C,q=>s_cons (t:=denS T.gs (jaa T k) s) (u:=jaz T.gs (jaa T k) r) (sS s C (ba q).1) (sSs r C (ba q).2)
end
end
section
variable {T:Tab}{k:Nat}{X:Cx}{c:Ctx}
structure CloU (X:Cx)(f:Addr)(Ψ:List U->Gp->K1->KX->Prop):Prop where
 fn:∀ (pins:List (Addr×Obj)) (σ:St) (H:Hp) (s:Shared),Inv X pins σ H s->PySem.W.FnAt f s.heap
 run:∀ (pins:List (Addr×Obj)) (σ:St) (H:Hp) (s:Shared) (us:List Value) (vs:List V) (Q0:VK) (E0:XK),Inv X pins σ H s->Vals vs us->lSp X.K Ψ vs H Q0 E0->
  codeAny (model X.prog X.w) X.A (.call (.ref f) ⟨us,[]⟩) (CR (CX1 X.prog X.w) X.stack X.prog X.w H s Q0 E0) s
noncomputable def appD (i:Nat)(f:Addr)(Ψ:List U->Gp->K1->KX->Prop)(ts:UA):UE:=fun ς G Q E=>slot ς i fun u=>u=.loc f/\ts ς G (fun us G1=>Ψ us G1 Q E) E
theorem jbe {ς:Sg}{i:Nat}{φ:U->Prop}(h:slot ς i φ):∃ u,ς[i]?=some (some u)/\φ u:=by
 unfold slot at h
 split at h
 ·rename_i u e; exact ⟨u,e,h⟩
 ·exact h.elim
theorem jlO {f:Addr}{Ψ:List U->Gp->K1->KX->Prop}{i:Nat}{x:Str}{e:Expr}{es:List Expr}{ts:UA}{p pos:Pos}(A:CloU X f Ψ)(hN:X.N[i]?=some x)(hv:Vis X.env.scope x)(hd:(x == ("__debug__" : Str))=false)(hcd:(x == ("__classdict__" : Str))=false)
  (ha:PA X (e::es) (lA X ts)) (he:starEach (e::es) X.env=(false,eval e X.env)::starEach es X.env) (hpl:(backTo pos (starEach es X.env)).any (·.1)=false) :
  PE X (.Call (.Name x p) (e::es) [] pos) (lE X (appD i f Ψ ts)):=by
 intro pins s σ H Q0 I ⟨ς,G,Q,E,hς,hG,h,lv,lx⟩
 obtain ⟨u,hu,rfl,h⟩:=jbe h
 obtain ⟨v,ev,rv⟩:=hς.2 i _ hu
 obtain rfl:v=.ref f:=rv
 refine wpAny_Call_Name_kw (thn (jen hN hv hd hcd pins s σ H (fun v' H'=>v'=.ref f/\H'=H) I ⟨_,ev,rfl,rfl⟩) fun u0 s0 ⟨v0,H0,I0,r0,e1,e2⟩=>?_)
 subst e1; subst e2
 obtain rfl:u0=Value.ref f:=r0
 have h':lA X ts σ H0 fun vs H1=>lSp X.K Ψ vs H1 Q0 (EB X σ):=⟨ς,G,_,E,hς,hG,h,fun us vs G1 H1 rs hG1 f1 h1=>⟨us,G1,Q,E,rs,hG1,h1,lv.fr f1,fun x G' H' C dx xd hr f q pins ea s' I' l=>(lx.fr f1) pins (.ref ea) s' x G' H' I' ⟨ea,C,dx,rfl,l,xd⟩ hr f q⟩,lx⟩
 refine PySem.W.callWith_F (first:=[]) (A.fn pins σ H0 s0 I0) (thn (ha pos pins s0 σ H0 _ I0 h') fun us s1 ⟨vs,H1,I1,r,q⟩=>⟨A.fn pins σ H1 s1 I1,?_⟩) he hpl
 refine wpAny_call (codeAny_mono (A.run pins σ H1 s1 us vs Q0 (EB X σ) I1 r q) fun r s' hq=>?_)
 cases r with
 | error e=>
  obtain ⟨ea,H',cls,dx,rfl,I',l,q⟩:=CX1.back I1 hq
  exact q pins ea s' I' l
 | ok fl=>
  cases fl with
  | ret u=>exact I1.after hq
  | next=>exact False.elim hq
  | brk=>exact False.elim hq
  | cont=>exact False.elim hq
noncomputable def irL (i:Nat):E:=.blt .len (.cons (.v i) .nil)
noncomputable def irFF:Ss:=.cons (.fr (.n 3) (.r1 (irL 0)) (.cons (.ite (.not (.app 2 (.cons (.v 3) .nil))) (.cons (.ret (.v 3)) .nil) .nil) .nil))
 (.cons (.ret (.ife (.cmp .Lt (irL 0) (.v 1)) (irL 0) .non)) .nil)
noncomputable def ffB1 (gs:List U)(Δ:Cl)(f:Addr)(Ψ:List U->Gp->K1->KX->Prop):US:=fun D ς G=>
 truT (appD 2 f Ψ (jas gs Δ (.cons (.v 3) .nil))) ς G (fun b G1=>if (!b)=true then jaz gs Δ (.cons (.ret (.v 3)) .nil) { D with nx:=fun ς' G'=>D.nx ς' G' } ς G1 else D.nx ς G1) fun x G1=>D.ex x ς G1
noncomputable def ffD (gs:List U)(Δ:Cl)(f:Addr)(Ψ:List U->Gp->K1->KX->Prop):US:=fun D ς G=>
 denI gs Δ (.r1 (irL 0)) ς G (fun xs ok G1=>forL ok (fun x ς1 G2 k=>tgU (.n 3) x ς1 fun ς2=>ffB1 gs Δ f Ψ { D with nx:=k } ς2 G2) xs ς G1 fun ς' G'=>jaz gs Δ (.cons (.ret (.ife (.cmp .Lt (irL 0) (.v 1)) (irL 0) .non)) .nil) D ς' G') fun x G1=>D.ex x ς G1
theorem jiY {f:Addr}{Ψ:List U->Gp->K1->KX->Prop}{hs:List Stmt}(C:Cos T k X c)(A:CloU X f Ψ)(q:okSs T c irFF hs=true):PSs X (unSs T c irFF hs) (lS X (ffD T.gs (jaa T k) f Ψ)):=by
 have q1:=(ba q).1
 have q2:=(ba q).2
 have qb:=(ba q1).2
 have qi:=(ba (ba (ba qb).1).1).1
 have qr:=(ba (ba (ba qb).1).1).2
 have qe:=(ba qi).2
 have pa:=sEs (T:=T) (k:=k) (.cons (.v 3) .nil) C.toCok qe
 have ap:=jlO (p:=(c0 (c0 (q0 (qh (qa (qh hs)))))).pos) (pos:=(c0 (q0 (qh (qa (qh hs))))).pos) A (C.nm (ba (ba (ba (ba qi).1).1).1).1) (C.vis (ba (ba (ba (ba qi).1).1).1).2) (bn (ba (ba (ba qi).1).1).2) (bn (ba (ba qi).1).2) pa (jan (jai (.v 3) _) _ _) rfl
 have hb:PSs X (unSs T c (.cons (.ite (.not (.app 2 (.cons (.v 3) .nil))) (.cons (.ret (.v 3)) .nil) .nil) .nil) (qa (qh hs))) (lS X (ffB1 T.gs (jaa T k) f Ψ)):=
  s_cons (s_if (jg4 (jji ap fun _=>rfl)) (sSs (.cons (.ret (.v 3)) .nil) C qr) s_nil) s_nil
 have hf:=s_for C.po C.calm (sI (.r1 (irL 0)) (.n 3) c (Z.q1 (qh hs)) C.toCok (ba (ba q1).1).2).1 (sTg C.toCok (.n 3) (Z.q1 (qh hs)) (ba (ba q1).1).1) hb (sI (.r1 (irL 0)) (.n 3) ⟨[],[]⟩ e0 C.toCok (ba (ba q1).1).2).2 (pos:=(qh hs).pos)
 have he:=s_cons hf (sSs (.cons (.ret (.ife (.cmp .Lt (irL 0) (.v 1)) (irL 0) .non)) .nil) C q2)
 exact he
end
noncomputable def vsE:Nat->Nat->Es
 | _,0=>.nil
 | i,n + 1=>.cons (.v i) (vsE (i + 1) n)
noncomputable def ffB (m fi:Nat):Ss:=.cons (.fr (.n (m + 2)) (.r1 (irL m)) (.cons (.ite (.not (.call fi (.cons (.v (m + 2)) (vsE 0 m)))) (.cons (.ret (.v (m + 2))) .nil) .nil) .nil))
 (.cons (.ret (.ife (.cmp .Lt (irL m) (.v (m + 1))) (irL m) .non)) .nil)
section
variable {gs:List U}{Δ Δ':Cl}
theorem jbP {ς:Sg}{i:Nat}{u:U}{φ:U->Prop}(e:ς[i]?=some (some u)):slot ς i φ=φ u:=by unfold slot; rw [e]
theorem jgZ {ς:Sg}{G:Gp}{X:KX}:∀ {cs:List U} {i:Nat} {Q:List U->Gp->Prop},(∀ j u,cs[j]?=some u->ς[i + j]?=some (some u))->jas gs Δ (vsE i cs.length) ς G Q X=Q cs G
 | [],_,_,_=>rfl
 | u::cs,i,Q,e=>by
  show (slot ς i fun x=>jas gs Δ (vsE (i + 1) cs.length) ς G (fun xs G2=>Q (x::xs) G2) X)=_
  rw [jbP (show ς[i]?=some (some u) from e 0 u rfl)]
  exact jgZ (fun j v hj=>by rw [show i + 1 + j=i + (j + 1) by omega]; exact e (j + 1) v (by simpa using hj))
theorem jbq {ς:Sg}{G:Gp}{X:KX}{Q:K1}{i:Nat}{w:U}(e:ς[i]?=some (some w)):(den gs Δ (irL i)).1 ς G Q X=bltU .len [w] G Q:=by
 show (slot ς i fun x=>bltU .len [x] G Q)=_
 rw [jbP e]
noncomputable def sgA (cs:List U)(w l:U)(a:Option U):Sg:=(cs++[w,l]).map some++[a]
theorem jl1 {cs:List U}{w l:U}{a:Option U}:∀ j u,cs[j]?=some u->(sgA cs w l a)[0 + j]?=some (some u):=fun j u e=>by
 have hj:=(List.getElem?_eq_some_iff.mp e).1
 unfold sgA
 rw [Nat.zero_add,List.getElem?_append_left (by simp; omega),List.getElem?_map,List.getElem?_append_left hj,e]
 rfl
theorem jhX {cs:List U}{w l:U}{a:Option U}:(sgA cs w l a)[cs.length]?=some (some w):=by
 unfold sgA
 rw [List.getElem?_append_left (by simp),List.getElem?_map,List.getElem?_append_right (Nat.le_refl _)]
 simp
theorem jl0 {cs:List U}{w l:U}{a:Option U}:(sgA cs w l a)[cs.length + 1]?=some (some l):=by
 unfold sgA
 rw [List.getElem?_append_left (by simp),List.getElem?_map,List.getElem?_append_right (by omega)]
 simp
theorem jjy {cs:List U}{w l:U}{a:Option U}:(sgA cs w l a)[cs.length + 2]?=some a:=by
 unfold sgA
 rw [List.getElem?_append_right (by simp)]
 simp
theorem jhY {cs:List U}{w l x:U}{a:Option U}:(sgA cs w l a).set (cs.length + 2) (some x)=sgA cs w l (some x):=by
 unfold sgA
 rw [List.set_append_right _ _ (by simp)]
 simp
theorem je9 {cs:List U}{w l:U}:jad (cs.length + 3) (cs++[w,l])=sgA cs w l none:=by
 unfold jad sgA
 simp
theorem jfP {ok:Gp->Prop}{b b':U->Sg->Gp->(Sg->Gp->Prop)->Prop}{A B:Option U->Sg}{k k':Sg->Gp->Prop}
  (hb:∀ x a G (kk kk':Sg->Gp->Prop),(∀ a G,kk (A a) G=kk' (B a) G)->b x (A a) G kk=b' x (B a) G kk') (hk:∀ a G,k (A a) G=k' (B a) G) :
  ∀ (xs:List U) (a:Option U) (G:Gp),forL ok b xs (A a) G k=forL ok b' xs (B a) G k'
 | [],a,G=>congrArg (ok G/\·) (hk a G)
 | x::xs,a,G=>congrArg (ok G/\·) (hb x a G _ _ fun a G=>jfP hb hk xs a G)
theorem jkO {fi : Nat}{cs : List U}{w l : U}{f : Addr}{n0 n1 : Sg -> Gp -> Prop}{rt : K1}{ex : KX}{G : Gp} :
    jaz gs Δ (ffB cs.length fi) ⟨n0, rt, fun x _ G' => ex x G'⟩ (jad (cs.length + 3) (cs ++ [w, l])) G = ffD gs Δ' f (fun us G Q E => Δ fi (us ++ cs) G Q E) ⟨n1, rt, fun x _ G' => ex x G'⟩ [some w, some l, some (.loc f), none] G := by
  rw [je9]
  have last : ∀ (a : Option U) (G : Gp), jaz gs Δ (.cons (.ret (.ife (.cmp .Lt (irL cs.length) (.v (cs.length + 1))) (irL cs.length) .non)) .nil) ⟨n0, rt, fun x _ G' => ex x G'⟩ (sgA cs w l a) G =
      jaz gs Δ' (.cons (.ret (.ife (.cmp .Lt (irL 0) (.v 1)) (irL 0) .non)) .nil) ⟨n1, rt, fun x _ G' => ex x G'⟩ [some w, some l, some (.loc f), a] G := fun a G => by
    show (den gs Δ (irL cs.length)).1 (sgA cs w l a) G (fun x G1 => slot (sgA cs w l a) (cs.length + 1) fun y => cmpU .Lt x y G1 fun c => truU (.bl c) G1 fun b => if b = true then (den gs Δ (irL cs.length)).1 (sgA cs w l a) G1 rt ex else rt .non G1) ex =
      (den gs Δ' (irL 0)).1 [some w, some l, some (.loc f), a] G (fun x G1 => cmpU .Lt x l G1 fun c => truU (.bl c) G1 fun b => if b = true then (den gs Δ' (irL 0)).1 [some w, some l, some (.loc f), a] G1 rt ex else rt .non G1) ex
    rw [jbq jhX, jbq rfl]
    congr 1
    funext x G1
    rw [jbP jl0, jbq jhX, jbq rfl]
  show (den gs Δ (irL cs.length)).1 (sgA cs w l none) G (fun x G1 => match x with
      | .int j => -(2 ^ 62) <= j /\ j < 2 ^ 62 /\ forL (fun _ => True) (fun x ς1 G2 k => jaz gs Δ (.cons (.ite (.not (.call fi (.cons (.v (cs.length + 2)) (vsE 0 cs.length)))) (.cons (.ret (.v (cs.length + 2))) .nil) .nil) .nil) ⟨k, rt, fun x _ G' => ex x G'⟩ (ς1.set (cs.length + 2) (some x)) G2) (rngU 0 j.toNat) (sgA cs w l none) G1
        fun ς' G' => jaz gs Δ (.cons (.ret (.ife (.cmp .Lt (irL cs.length) (.v (cs.length + 1))) (irL cs.length) .non)) .nil) ⟨n0, rt, fun x _ G' => ex x G'⟩ ς' G'
      | _ => False) ex =
    (den gs Δ' (irL 0)).1 [some w, some l, some (.loc f), none] G (fun x G1 => match x with
      | .int j => -(2 ^ 62) <= j /\ j < 2 ^ 62 /\ forL (fun _ => True) (fun x ς1 G2 k => ffB1 gs Δ' f (fun us G Q E => Δ fi (us ++ cs) G Q E) ⟨k, rt, fun x _ G' => ex x G'⟩ (ς1.set 3 (some x)) G2) (rngU 0 j.toNat) [some w, some l, some (.loc f), none] G1
        fun ς' G' => jaz gs Δ' (.cons (.ret (.ife (.cmp .Lt (irL 0) (.v 1)) (irL 0) .non)) .nil) ⟨n1, rt, fun x _ G' => ex x G'⟩ ς' G'
      | _ => False) ex
  rw [jbq jhX, jbq rfl]
  congr 1
  funext x G1
  cases x with
  | int j =>
    refine congrArg (-(2 ^ 62) <= j /\ j < 2 ^ 62 /\ ·) (jfP (A := sgA cs w l) (B := fun a => [some w, some l, some (.loc f), a]) (fun x a G kk kk' hkk => ?_) last _ _ _)
    rw [jhY]
    show (slot (sgA cs w l (some x)) (cs.length + 2) fun u => jas gs Δ (vsE 0 cs.length) (sgA cs w l (some x)) G (fun us G1 => Δ fi (u :: us) G1 (fun r G2 => truU r G2 fun b => if (!b) = true then (slot (sgA cs w l (some x)) (cs.length + 2) fun z => rt z G2) else kk (sgA cs w l (some x)) G2) ex) ex) =
      (U.loc f = .loc f /\ Δ fi (x :: cs) G (fun r G2 => truU r G2 fun b => if (!b) = true then rt x G2 else kk' [some w, some l, some (.loc f), some x] G2) ex)
    rw [jbP jjy, jgZ jl1]
    have e : (fun r G2 => truU r G2 fun b => if (!b) = true then (slot (sgA cs w l (some x)) (cs.length + 2) fun z => rt z G2) else kk (sgA cs w l (some x)) G2) = fun (r : U) (G2 : Gp) => truU r G2 fun b => if (!b) = true then rt x G2 else kk' [some w, some l, some (.loc f), some x] G2 := by
      funext r G2
      rw [jbP jjy, hkk]
    rw [e]
    exact propext ⟨fun h => ⟨rfl, h⟩, fun h => h.2⟩
  | _ => rfl
end
theorem jet {T:Tab}{n:Nat}{d:Fun}(h:T.funs[n]?=some d):(T.funs++T.vf)[n]?=some d:=by
 rw [List.getElem?_append_left (List.getElem?_eq_some_iff.mp h).1]; exact h
theorem jbb {T:Tab}{k n:Nat}{d:Fun}(hd:(T.funs++T.vf)[n]?=some d){us:List U}{G:Gp}{Q:K1}{E:KX}(h:jaa T (k + 1) n us G Q E) :
  us.length=d.ps.length/\jaz T.gs (jaa T k) d.body ⟨fun _ G'=>Q .non G',Q,fun x _ G'=>E x G'⟩ (jad d.N.length us) G:=by
 have h':(match (T.funs++T.vf)[n]? with | some d=>us.length=d.ps.length/\jaz T.gs (jaa T k) d.body ⟨fun _ G'=>Q .non G',Q,fun x _ G'=>E x G'⟩ (jad d.N.length us) G | none=>False):=h
 rw [hd] at h'
 exact h'
theorem jfe {X:Cx}{a b:List Stmt}{t:L2.TS}(e:a=b)(h:PSs X a t):PSs X b t:=e ▸ h
theorem jbO {K:PySem.W.Frag}{H:Hp}{N:List Str}{us:List U}{vs:List V}(r:RUs K H us vs):SR K H (jad N.length us) (L2.start N vs):=by
 unfold jad L2.start
 refine ⟨by simp [r.length],fun i u e=>?_⟩
 by_cases hi:i < us.length
 ·rw [List.getElem?_append_left (by simpa using hi),List.getElem?_map] at e
  cases q:us[i]? with
  | none=>rw [q] at e; cases e
  | some w=>
   rw [q] at e
   have:w=u:=by simpa using e
   subst this
   obtain ⟨v,ev,rv⟩:=r.get q
   have hv:i < vs.length:=by rw [<- r.length]; exact hi
   exact ⟨v,by rw [List.getElem?_append_left (by simpa using hv),List.getElem?_map,ev]; rfl,rv⟩
 ·rw [List.getElem?_append_right (by simpa using hi),List.getElem?_replicate] at e
  split at e <;> cases e
structure PF (T:Tab)(P:Program)(w:World)(K:PySem.W.Frag)(mg:Str->Option Value)(base:Heap)(k:Nat):Prop where
 blt:∀ x∈jbk,mg x=none
 fns:∀ (n:Nat) (d:Fun),T.funs[n]?=some d->FnU P w K mg base k d (jaa T k n)
 gls:∀ (n:Nat) (x:Str) (u:U),T.gn[n]?=some x->T.gs[n]?=some u->∃ v w,mg x=some w/\RelV v w/\∀ H,RU K H u v
 cls:∀ n∈T.cs,1<=n->∃ C,XCls K (gK K) (clsN n) (clsF n) C
 mgK:∀ x v,gK K x=some v->mg x=some v
theorem Inv.tsU {X:Cx}{pins:List (Addr×Obj)}{σ:St}{H:Hp}{s:Shared}(I:Inv X pins σ H s):TS X.H₀ H:=⟨I.base.tups,fun a o e=>I.base.frzs a o _ e⟩
section
variable {T:Tab}{k:Nat}{X:Cx}
theorem jkW {j:Nat}{f c':Addr}{name qual:Str}{params:Arguments}{body:List Stmt}{scope:Scope}{cl:List (Str×Addr)}{doc pm ctv:Value}{oc:Obj}{d:Fun}{n:Nat}{cs:List U}{cvs:List V}{ps:List Str}
  (F:PF T X.prog X.w X.K X.mg X.base (j - 1)) (hex:X.ex=[]) (ho:X.s₀.heap.get? f=some (PySem.W.fnMade name qual params body scope cl doc pm c' ctv)) (hn:X.H₀ f=none) (hfs:f∉X.fs) (hc:X.H₀ c'=some (frzC oc)) (hco:jjd oc qual) (S:CloScope d.N ps scope)
  (hcl:∀ x c,cl.lookup x=some c->scope.names.lookup x=some .free/\(∃ v,X.s₀.heap.IsCell c v)/\X.H₀ c=none/\c∉X.fs) (inj:∀ x y c,cl.lookup x=some c->cl.lookup y=some c->x=y) (has:∀ x,scope.names.lookup x=some .free->∃ c,cl.lookup x=some c)
  (hv:∀ i x v,d.N[ps.length + i]?=some x->cvs[i]?=some v->scope.names.lookup x=some .free/\∃ c u,cl.lookup x=some c/\RelV v u/\X.s₀.heap.IsCell c (some u))
  (rc:RUs X.K X.H₀ cs cvs) (hdp:d.ps.length=ps.length + cs.length) (hNl:d.ps.length<=d.N.length)
  (hb:∀ (s:Shared) (us:List Value),us.length=ps.length->BindsTo s (PySem.W.fnX name qual params body scope cl .none .none doc pm none (.ref c') ctv) ⟨us,[]⟩ (ps.zip us))
  (hr:Room (j + 2) X.A) (hd:(T.funs++T.vf)[n]?=some d) (ok:okSs T ⟨d.N,scope.names⟩ d.body body=true) (un:unSs T ⟨d.N,scope.names⟩ d.body body=body) :
  CloU X f fun us G Q E=>jaa T j n (us++cs) G Q E:=by
 have noX:∀ b,b∉X.ex:=fun b z=>by rw [hex] at z; exact absurd z (by simp)
 have cellK:∀ {pins:List (Addr×Obj)} {σ:St} {H:Hp} {s:Shared} {x:Str} {c:Addr} {v:Option Value},Inv X pins σ H s->cl.lookup x=some c->X.s₀.heap.IsCell c v->s.heap.IsCell c v:=fun {pins σ H s x c v} I e ⟨o,h1,h2⟩=>
  ⟨o,I.base.keep c o h1 (hcl x c e).2.2.1 (hcl x c e).2.2.2 (noX c),h2⟩
 refine ⟨fun pins σ H s I=>⟨_,_,_,_,I.base.keep f _ ho hn hfs (noX f)⟩,fun pins σ H s us vs Q0 E0 I r hsp=>?_⟩
 obtain ⟨zs,G,Q,E,rz,hG,h,lv,lx⟩:=hsp
 obtain _ | k:=j
 ·exact (show False from h).elim
 obtain ⟨hl,h⟩:=jbb hd h
 rw [List.length_append] at hl
 have hvl:vs.length=ps.length:=by rw [<- rz.length]; omega
 have hcH:H c'=some (frzC oc):=I.base.frzs c' oc _ hc
 obtain ⟨hco1,_⟩:=I.hok c' _ hcH
 obtain ⟨wv,wt,w1,w2⟩:=hco
 have rc':=rc.ts (Inv.tsU I)
 refine ji8 (k:=k + 2) (cvs:=cvs) (N:=d.N) (ps:=ps) (I.base.keep f _ ho hn hfs (noX f)) rfl ⟨c',oc,wv,wt,rfl,hco1,w1,w2⟩ S hr I.env0 (hb s us (by rw [<- r.length]; exact hvl)) r hvl (by rw [<- rc.length]; omega)
  (fun x c e=>⟨(hcl x c e).1,let ⟨v,z⟩:=(hcl x c e).2.1; ⟨v,cellK I e z⟩,let ⟨_,o,h1,_⟩:=(hcl x c e).2.1; I.base.free c o h1 (hcl x c e).2.2.1 (noX c)⟩) inj has
  (fun i x v e1 e2=>let ⟨a,c,u,e,rv,z⟩:=hv i x v e1 e2; ⟨a,c,u,e,rv,cellK I e z⟩) fun hroom=>?_
 refine ⟨_,jfe un (sSs d.body (k:=k) (c:=⟨d.N,scope.names⟩) (hs:=body) ⟨⟨rfl,S.nd,fun x z=>eq_of_beq z,fun x z=>⟨eq_of_beq z,by show (scope.names.lookup x != some .free)=true; rw [eq_of_beq z]; rfl⟩,fun x z=>.inr (eq_of_beq z),fun x z=>eq_of_beq z,hroom.mono (by omega),rfl,jic,F.blt,F.fns,F.gls,hroom,F.cls,F.mgK⟩,rfl,S.kind,rfl,rfl⟩ ok),?_⟩
 exact ⟨_,_,G,jbO (rz.append rc'),hG,h,⟨fun ς' σ' G' H' a b c q=>lv .non .non G' H' rfl b c q,fun w v G' H' a b c q=>lv w v G' H' a b c q,fun pins e s' x ς' σ' G' H' I sr xat hr' f q=>by obtain ⟨ea,C0,dx,rfl,l,xd⟩:=xat; exact CX1.outC I l (lx x G' H' C0 dx xd hr' f q)⟩⟩
theorem HR.tabNew {K:PySem.W.Frag}{H H':Hp}{G:Gp}{P c:Addr}{pos:Pos}{q:Str}{oc:Obj}(h:HR K H G)(hU:∀ t∈tabs,∀ t'∈tabs,t.1=t'.1->t=t')(ht:(P,pos,q)∈tabs)(n:jhE H H' P pos q c oc):HR K H' G/\Fr H G H' G:=by
 obtain ⟨hc,hco,rfl | ⟨hP,hn,rfl⟩⟩:=n
 ·exact ⟨h,Fr.refl _ _⟩
 have oth:∀ b,b≠P->b≠c->L2.upd (L2.upd H c (frzC oc)) P (.tbl #[rawInt pos.line,rawInt pos.col,.ref c]) b=H b:=fun b h1 h2=>by rw [jac h1,jac h2]
 have neC:∀ {b u},H b=some u->b≠c:=fun {b u} e z=>by rw [z,hn] at e; cases e
 have ts:TS H (L2.upd (L2.upd H c (frzC oc)) P (.tbl #[rawInt pos.line,rawInt pos.col,.ref c])):=⟨fun a xs e=>by rw [oth a (fun z=>by rw [z,hP] at e; cases e) (neC e)]; exact e,fun a xs e=>by rw [oth a (fun z=>by rw [z,hP] at e; cases e) (neC e)]; exact e⟩
 refine ⟨⟨fun a o g=>?_,fun t hm=>?_⟩,⟨fun a o e g nt=>⟨?_,g⟩⟩⟩
 ·have m:=h a o g
  obtain ⟨ho,e⟩:=m.there
  exact m.keep (oth a (fun z=>by rw [z,h.tblNone hP] at g; cases g) (neC e)) ts
 ·by_cases e:t.1=P
  ·obtain rfl:=hU t hm _ ht e
   exact .inr ⟨c,oc,jah,hc,hco⟩
  ·rcases h.tab t hm with e1 | ⟨c2,oc2,e1,e2,q2⟩
   ·exact .inl (by rw [oth _ e (neC e1)]; exact e1)
   ·exact .inr ⟨c2,oc2,by rw [oth _ e (neC e1)]; exact e1,ts.cod _ _ e2,q2⟩
 ·rw [oth a (fun z=>by rw [z,hP] at e; cases e; cases nt) (neC e)]; exact e
end
end Z

namespace Z
open PySem L2
set_option maxHeartbeats 16000000
noncomputable def nDef (st:Stmt):Stmt:=(defBody st).getD 0 (.Pass ⟨0,0,0,0⟩)
noncomputable def capE:List Nat->Es->Es
 | [],r=>r
 | i::is,r=>.cons (.v i) (capE is r)
structure NestS (T:Tab)(sts:List Stmt)(d:Fun)(st:Stmt)(z:Nst)(dff:Fun)(stff:Stmt)(dv dc:Fun):Prop where
 sc:FnScope d.N d.ps (defScope st)
 body:d.body=.cons (.ret (.call z.vi (capE z.caps (.cons (.v z.wi) (.cons (.int z.least) .nil))))) .nil
 text:∃ pos p1 p2 p3 p4 p5 p6 j,defBody st=[.FunctionDef z.fn (defArgs (nDef st)) (defBody (nDef st)) [] none [] (defScope (nDef st)) none z.fn pos,.Return (some (.Call (.Name dff.name p1) [.Name z.wn p2,.Constant (.int z.least) j p3,.Name z.fn p4] [] p5)) p6]/\(z.P,pos,d.name ++ ".<locals>." ++ z.fn)∈tabs
 wi:d.N[z.wi]?=some z.wn
 wv:(defScope st).names.lookup z.wn=some .local\/(defScope st).names.lookup z.wn=some .cell
 fi:d.N[z.fni]?=some z.fn
 fl:(defScope st).names.lookup z.fn=some .local
 gl:(defScope st).names.lookup dff.name=some .globalImplicit
 dbg:(z.wn == ("__debug__" : Str))=false/\(z.wn == ("__classdict__" : Str))=false/\(z.fn == ("__debug__" : Str))=false/\(z.fn == ("__classdict__" : Str))=false/\(dff.name == ("__debug__" : Str))=false
 caps:∀ (i j:Nat),z.caps[i]?=some j->j < d.ps.length/\∃ x,d.N[j]?=some x/\dc.N[1 + i]?=some x/\(defScope (nDef st)).names.lookup x=some .free/\(defScope st).names.lookup x=some .cell
 wlt:z.wi < d.ps.length
 fge:d.ps.length<=z.fni
 frees:∀ y∈(defScope (nDef st)).names,y.2=.free->(defScope st).names.lookup y.1=some .cell
 cs:CloScope dc.N [z.at'] (defScope (nDef st))
 args:(defArgs (nDef st)).defaults=[]/\(defArgs (nDef st)).kw_defaults=[]
 ann:∀ env,annTrees (defArgs (nDef st)) none env=[]
 bind:∀ (qual:Str) (cl:List (Str×Addr)) (doc pm cv ctv u:Value),bindArgs (PySem.W.fnX z.fn qual (defArgs (nDef st)) (defBody (nDef st)) (defScope (nDef st)) cl .none .none doc pm none cv ctv) ⟨[u],[]⟩=pure [(z.at',u)]
 ff:T.funs[z.ff]?=some dff
 ffs:sts[z.ff]?=some stff
 ffb:dff.body=irFF
 ffp:dff.ps.length=3
 ffl:dff.N.length=4
 hdv:(T.funs++T.vf)[z.vi]?=some dv
 dvb:dv.body=ffB z.caps.length z.fi
 dvN:dv.N.length=z.caps.length + 3
 hdc:(T.funs++T.vf)[z.fi]?=some dc
 dcp:dc.ps.length=1 + z.caps.length
 dcN:dc.ps.length<=dc.N.length
 ok:okSs T ⟨dc.N,(defScope (nDef st)).names⟩ dc.body (defBody (nDef st))=true
 un:unSs T ⟨dc.N,(defScope (nDef st)).names⟩ dc.body (defBody (nDef st))=defBody (nDef st)
theorem jd1 {gs:List U}{Δ:Cl}{ς:Sg}{G:Gp}{X:KX}{r:Es}:∀ {is:List Nat} {Q:List U->Gp->Prop},jas gs Δ (capE is r) ς G Q X->∃ cs:List U,cs.length=is.length/\(∀ (i j:Nat),is[i]?=some j->∃ u,cs[i]?=some u/\ς[j]?=some (some u))/\jas gs Δ r ς G (fun us G'=>Q (cs++us) G') X
 | [],_,h=>⟨[],rfl,fun _ _ e=>by simp at e,h⟩
 | i::is,Q,h=>by
  have h':slot ς i fun x=>jas gs Δ (capE is r) ς G (fun xs G2=>Q (x::xs) G2) X:=h
  obtain ⟨u,e,h'⟩:=jbe h'
  obtain ⟨cs,h1,h2,h3⟩:=jd1 h'
  refine ⟨u::cs,by simp [h1],fun a j ej=>?_,h3⟩
  cases a with
  | zero=>simp at ej; subst ej; exact ⟨u,rfl,e⟩
  | succ a=>simpa using h2 a j (by simpa using ej)
theorem jcp {n i:Nat}{us:List U}{u:U}(h:(jad n us)[i]?=some (some u)):us[i]?=some u:=by
 unfold jad at h
 by_cases hi:i < us.length
 ·rw [List.getElem?_append_left (by simpa using hi),List.getElem?_map] at h
  cases e:us[i]? with
  | none=>rw [e] at h; cases h
  | some a=>rw [e] at h; simpa using h
 ·rw [List.getElem?_append_right (by simpa using hi),List.getElem?_replicate] at h
  split at h <;> cases h
theorem jei {N:List Str}{vs:List V}{i:Nat}{v:V}(h:vs[i]?=some v):(L2.start N vs)[i]?=some (some v):=by
 unfold L2.start
 have hi:=(List.getElem?_eq_some_iff.mp h).1
 rw [List.getElem?_append_left (by simpa using hi),List.getElem?_map,h]
 rfl
theorem jdz {K:PySem.W.Frag}{H:Hp}{us:List U}{vs:List V}(r:RUs K H us vs):∀ {is:List Nat} {cs:List U},cs.length=is.length->(∀ (i j:Nat),is[i]?=some j->∃ u,cs[i]?=some u/\us[j]?=some u)->∃ cvs:List V,RUs K H cs cvs/\cvs.length=is.length/\∀ (i j:Nat) (v:V),is[i]?=some j->cvs[i]?=some v->vs[j]?=some v
 | [],[],_,_=>⟨[],rfl,rfl,fun _ _ _ e=>by simp at e⟩
 | [],_::_,h,_=>by simp at h
 | _::_,[],h,_=>by simp at h
 | j::is,c::cs,hl,h=>by
  obtain ⟨u,e1,e2⟩:=h 0 j rfl
  have:c=u:=by simpa using e1
  subst this
  obtain ⟨v,ev,rv⟩:=r.get e2
  obtain ⟨cvs,r2,l2,g2⟩:=jdz r (is:=is) (cs:=cs) (by simpa using hl) fun i j' e=>by simpa using h (i + 1) j' (by simpa using e)
  refine ⟨v::cvs,⟨v,cvs,rfl,rv,r2⟩,by simp [l2],fun i j' w e e'=>?_⟩
  cases i with
  | zero=>simp at e e'; subst e; subst e'; exact ev
  | succ i=>exact g2 i j' w (by simpa using e) (by simpa using e')
section
variable {T:Tab}{k j:Nat}{P:Program}{w:World}{K:PySem.W.Frag}{mg:Str->Option Value}{base:Heap}
theorem jiA {n:Nat}{sts:List Stmt}{d dff dv dc:Fun}{st stff:Stmt}{z:Nst}{f fff:Addr}{fd fdff:FuncData}(N:NestS T sts d st z dff stff dv dc)(hU:∀ t∈tabs,∀ t'∈tabs,t.1=t'.1->t=t')(Sff:FnScope dff.N dff.ps (defScope stff))(okf:okSs T ⟨dff.N,(defScope stff).names⟩ dff.body (defBody stff)=true)(unf:unSs T ⟨dff.N,(defScope stff).names⟩ dff.body (defBody stff)=defBody stff)
  (F:L2.Fun K d.name d.name st f fd) (Fff:L2.Fun K dff.name dff.name stff fff fdff) (mff:mg dff.name=some (.ref fff)) (bff:Binds K fdff dff.ps []) (hcode:∃ c,fd.code=.ref c/\PySem.W.CodeHd base c z.P) (hB:BmAt mg base) (pf:PF T P w K mg base (j - 1)) (hd:(T.funs++T.vf)[n]?=some d) :
  FnOk P w K mg base (CX1 P w) (j + 4) f fd d.ps (lSp K (jaa T (j + 2) n)):=by
 have len:∀ vs H Q E,lSp K (jaa T (j + 2) n) vs H Q E->vs.length=d.ps.length:=fun vs H Q E ⟨us,G,Q',E',r,hG,h,lv,lx⟩=>by rw [<- r.length]; exact (jbb hd h).1
 refine ⟨len,fun A outer s H args us0 vs Q E hr e0 hb r hsp=>F.runX (k:=j + 3) N.sc hr e0 hb r (len _ _ _ _ hsp) fun cdv hcdv hroom=>?_⟩
 have hvl:=len _ _ _ _ hsp
 obtain ⟨us,G,Q',E',ru,hG,h,lv,lx⟩:=hsp
 obtain ⟨hul,h⟩:=jbb hd h
 rw [N.body] at h
 have h:jas T.gs (jaa T (j + 1)) (capE z.caps (.cons (.v z.wi) (.cons (.int z.least) .nil))) (jad d.N.length us) G (fun zs G1=>jaa T (j + 1) z.vi zs G1 Q' fun x G'=>E' x G') fun x G'=>E' x G':=h
 obtain ⟨cs,csl,csg,h⟩:=jd1 h
 have h:slot (jad d.N.length us) z.wi fun x=>jaa T (j + 1) z.vi (cs++[x,.int z.least]) G Q' fun x G'=>E' x G':=h
 obtain ⟨uw,euw,h⟩:=jbe h
 have euw:=jcp euw
 obtain ⟨vw,evw,rvw⟩:=ru.get euw
 obtain ⟨cvs,rcs,cvl,cvg⟩:=jdz ru csl fun i j e=>let ⟨u,a,b⟩:=csg i j e; ⟨u,a,jcp b⟩
 obtain ⟨_,h⟩:=jbb N.hdv h
 rw [N.dvb,N.dvN,<- csl] at h
 obtain ⟨c,hcc,hCH⟩:=hcode
 obtain ⟨pos,p1,p2,p3,p4,p5,p6,jj,text,htab⟩:=N.text
 let X0:=cx1 P w K mg base d.N d.name (defScope st) f cdv A outer s H E
 refine ⟨fun D σ' H'=>σ'=L2.start d.N vs/\H'=H/\D.rt=Q,fun pins s1 σ1 H1 D I ⟨e1,e2,e3⟩=>?_,rfl,rfl,rfl⟩
 subst e1; subst e2; subst e3
 rw [text]
 have hq:qualnameIn X0.env z.fn z.fn=d.name ++ ".<locals>." ++ z.fn:=by
  unfold qualnameIn
  have:X0.env.kindOf z.fn=some .local:=N.fl
  rw [this]
  rfl
 refine wpAny_execs_cons (jgF (X:=X0) (c:=c) (P:=z.P) (i:=z.fni) I N.sc.nd N.fi (.inl N.fl) (.inr N.fl) (hcdv.symm.trans hcc) hCH hB (by rw [hq]; exact hG.tab _ htab) N.args.1 N.args.2 (N.ann _)
  (fun y hy hf=>I.ok.has y.1 (.inl (N.frees y hy hf))) fun f' c' oc doc ctv H' s2 tn J=>?_)
 rw [hq] at tn J
 obtain ⟨hG',fr'⟩:=hG.tabNew hU htab tn
 let σ2:St:=(L2.start d.N vs).set z.fni (some (.ref f'))
 have hws:σ2[z.wi]?=some (some vw):=by
  show ((L2.start d.N vs).set z.fni (some (.ref f')))[z.wi]?=_
  rw [List.getElem?_set_ne (by have:=N.wlt; have:=N.fge; omega)]
  exact jei evw
 have hfs:σ2[z.fni]?=some (some (.ref f')):=by
  show ((L2.start d.N vs).set z.fni (some (.ref f')))[z.fni]?=_
  rw [List.getElem?_set_self (by have:=I.len; rw [this]; exact (List.getElem?_eq_some_iff.mp N.fi).1)]
 have hcall:wpAny (model X0.prog X0.w) X0.A (eval (.Call (.Name dff.name p1) [.Name z.wn p2,.Constant (.int z.least) jj p3,.Name z.fn p4] [] p5) X0.env) (EP X0 (pins++[(f',PySem.W.fnMade z.fn (d.name ++ ".<locals>." ++ z.fn) (defArgs (nDef st)) (defBody (nDef st)) (defScope (nDef st)) (ja2 X0.env.cells (defScope (nDef st)).names []) doc ((mg "__name__").getD .none) c' ctv)]) σ2 D.rt) X0.xe s2:=by
  have pa:PA X0 [.Name z.wn p2,.Constant (.int z.least) jj p3,.Name z.fn p4] (jgb (tVar z.wi) (jgb (tC (.int z.least)) (jgb (tVar z.fni) tNil))):=
   jcP (jen N.wi (N.wv.imp id fun q=>.inl q) N.dbg.1 N.dbg.2.1) (jcP jhd (jcP (jen N.fi (.inl N.fl) N.dbg.2.2.1 N.dbg.2.2.2.1) jhe))
  refine wpAny_Call_Name_kw (jcW J N.gl mff ?_ N.dbg.2.2.2.2)
  refine PySem.W.callWith_K (h₀:=base) J.ok.mod.kin Fff.kp (thn (pa p5 _ s2 σ2 H' (fun vs3 H3=>vs3=[vw,.int z.least,.ref f']/\H3=H') J ⟨_,hws,_,hfs,rfl,rfl⟩) fun us3 s3 ⟨vs3,H3,J3,r3,e1,e2⟩=>⟨J3.kIn,?_⟩) rfl rfl
  subst e1; subst e2
  have l3:us3.length=dff.ps.length:=by rw [<- r3.length,N.ffp]; rfl
  have hb3:=bff s3 us3 J3.kIn (by rw [List.append_nil]; exact l3)
  rw [List.append_nil] at hb3
  refine wpAny_call (codeAny_mono (Fff.runX (k:=j + 2) (Q:=D.rt) (E:=EB X0 σ2) Sff hroom J3.env0 hb3 r3 (by rw [N.ffp]; rfl) fun cdv2 _ hroom2=>?_) fun r s' hq=>?_)
  ·have hp:=J3.pin (f',PySem.W.fnMade z.fn (d.name ++ ".<locals>." ++ z.fn) (defArgs (nDef st)) (defBody (nDef st)) (defScope (nDef st)) (ja2 X0.env.cells (defScope (nDef st)).names []) doc ((mg "__name__").getD .none) c' ctv) (List.mem_append_right _ (List.mem_append_right _ (List.mem_singleton.mpr rfl)))
   obtain ⟨hp1,hp2,hp3,hp4,_⟩:=hp
   have nofs:∀ b,b≠X0.env.locals->b∉X0.fs->b∉frs X0.stack:=fun b h1 h2 hb=>(List.mem_cons.mp (J3.stkSub b hb)).elim h1 h2
   have clof:∀ x c,(ja2 X0.env.cells (defScope (nDef st)).names []).lookup x=some c->X0.env.cells.lookup x=some c/\(x,NameKind.free)∈(defScope (nDef st)).names:=fun x c e=>(jez e).elim id fun z=>by cases z
   obtain ⟨m,hns,hloc⟩:=J3.loc
   have CLO:=jkW (T:=T) (j:=j) (X:=cx1 P w K mg base dff.N dff.name (defScope stff) fff cdv2 X0.A X0.stack s3 H3 (EB X0 σ2)) (d:=dc) (n:=z.fi) (cs:=cs) (cvs:=cvs) (ps:=[z.at']) pf rfl hp1 hp2 (nofs f' hp3 hp4) tn.1 tn.2.1 N.cs
    (fun x c e=>⟨N.cs.frees x (clof x c e).2,J3.cell x c (clof x c e).1,J3.freeC x c (clof x c e).1,nofs c (J3.cne x c (clof x c e).1) fun hb=>by
     obtain ⟨_,o,ho,_⟩:=J3.ok.funs.mem hb
     exact absurd (Heap.lt_size ho) (Nat.not_lt.mpr (J3.ok.cab x c rfl (clof x c e).1))⟩)
    (fun x y c e1 e2=>J3.ok.inj x y c (clof x c e1).1 (clof y c e2).1)
    (fun x e=>by
     have hm:=PySem.mem_of_lookup e
     obtain ⟨c,hc⟩:=J3.ok.has x (.inl (N.frees _ hm rfl))
     exact ⟨c,jcg hc hm⟩)
    (fun i x v e1 e2=>by
     have hi:i < z.caps.length:=by rw [<- cvl]; exact (List.getElem?_eq_some_iff.mp e2).1
     obtain ⟨jl,y,g1,g2,g3,g4⟩:=N.caps i z.caps[i] (by simp [hi])
     have:x=y:=by
      have e1':dc.N[1 + i]?=some x:=e1
      rw [g2] at e1'; exact (Option.some.inj e1').symm
     subst this
     refine ⟨g3,?_⟩
     have ev:=cvg i z.caps[i] v (by simp [hi]) e2
     have es:σ2[z.caps[i]]?=some (some v):=by
      show ((L2.start d.N vs).set z.fni (some (.ref f')))[z.caps[i]]?=_
      rw [List.getElem?_set_ne (by have:=N.fge; omega)]
      exact jei ev
     obtain ⟨u,rv,lk⟩:=hloc z.caps[i] x v g1 es (.inr (.inl g4))
     rcases lk with ⟨k1,_⟩ | ⟨_,c,hc,hcell⟩
     ·have k2:(defScope st).names.lookup x=some .local:=k1
      rw [g4] at k2; cases k2
     ·exact ⟨c,u,jcg hc (PySem.mem_of_lookup g3),rv,hcell⟩)
    (rcs.ts (fr'.ts hG)) (by rw [N.dcp,csl]; rfl) N.dcN (fun s us hl=>by
     obtain _ | ⟨u,_ | ⟨_,_⟩⟩:=us
     ·cases hl
     ·exact .of_eq (N.bind _ _ _ _ _ _ _)
     ·cases hl) hroom2 N.hdc N.ok N.un
   refine ⟨_,jfe unf (by
    rw [N.ffb] at okf ⊢
    exact jiY (T:=T) (k:=j - 1) (c:=⟨dff.N,(defScope stff).names⟩) ⟨⟨rfl,Sff.nd,fun x z=>eq_of_beq z,fun x z=>⟨eq_of_beq z,rfl⟩,fun x z=>.inr (eq_of_beq z),fun x z=>eq_of_beq z,hroom2.mono (by omega),rfl,jic,pf.blt,pf.fns,pf.gls,hroom2.mono (by omega),pf.cls,pf.mgK⟩,rfl,Sff.kind,rfl,rfl⟩ CLO okf),?_⟩
   have ru3:RUs K H3 [uw,.int z.least,.loc f'] [vw,.int z.least,.ref f']:=⟨_,_,rfl,rvw.ts (fr'.ts hG),_,_,rfl,rfl,_,_,rfl,rfl,rfl⟩
   have sr:=jbO (N:=dff.N) ru3
   rw [N.ffl] at sr
   refine ⟨⟨fun _ _=>False,Q',fun x _ G'=>E' x G'⟩,_,G,sr,hG',jkO.mp h,⟨fun _ _ _ _ _ _ _ q=>q.elim,fun w v G' H' a b c q=>lv w v G' H' a b (fr'.trans c) q,fun pins e s' x ς' σ' G' H' I1 sr xat hr' fx q=>?_⟩⟩
   obtain ⟨ea,C0,dx,rfl,l,xd⟩:=xat
   exact CX1.out1 I1 l fun pins' ea' s'' I'' l''=>CX1.out1 I'' l'' (lx x G' H' C0 dx xd hr' (fr'.trans fx) q)
  ·cases r with
   | error e=>
    obtain ⟨ea,H',cls,dx,rfl,I',l,q⟩:=CX1.back J3 hq
    exact q _ ea s' I' l
   | ok fl=>
    cases fl with
    | ret u=>exact J3.after hq
    | next=>exact False.elim hq
    | brk=>exact False.elim hq
    | cont=>exact False.elim hq
 refine wpAny_execs_cons (wpAny_Return_some (thn hcall fun u s3 ⟨v,H3,I3,rv,q⟩=>?_))
 exact ⟨v,σ2,H3,I3.unpinned,rv,q⟩
end
noncomputable def scB (N ps:List Str)(sc:Scope):Bool:=
 decide (sc.kind=.function) && !sc.isCoroutine && !sc.isGenerator && decide N.Nodup && (N.take ps.length == ps) && ps.all (fun x=>sc.names.lookup x == some .local || sc.names.lookup x == some .cell) && sc.names.all (fun y=>y.2 != .free)
theorem jgi {N ps:List Str}{sc:Scope}(h:scB N ps sc=true):FnScope N ps sc:=by
 unfold scB at h
 simp only [Bool.and_eq_true,decide_eq_true_eq,Bool.not_eq_true'] at h
 obtain ⟨⟨⟨⟨⟨⟨h1,h2⟩,h3⟩,h4⟩,h5⟩,h6⟩,h7⟩:=h
 refine ⟨h1,h2,h3,h4,eq_of_beq h5,fun x hx=>?_,fun y hy=>?_⟩
 ·have:=List.all_eq_true.mp h6 x hx
  simpa using this
 ·simpa using List.all_eq_true.mp h7 y hy
noncomputable def cloB (N ps:List Str)(sc:Scope):Bool:=
 decide (sc.kind=.function) && !sc.isCoroutine && !sc.isGenerator && decide N.Nodup && (N.take ps.length == ps) && ps.all (fun x=>sc.names.lookup x == some .local) && sc.names.all (fun y=>y.2 != .cell) && sc.names.all (fun y=>y.2 != .free || sc.names.lookup y.1 == some .free)
theorem jhB {N ps:List Str}{sc:Scope}(h:cloB N ps sc=true):CloScope N ps sc:=by
 unfold cloB at h
 simp only [Bool.and_eq_true,decide_eq_true_eq,Bool.not_eq_true'] at h
 obtain ⟨⟨⟨⟨⟨⟨⟨h1,h2⟩,h3⟩,h4⟩,h5⟩,h6⟩,h7⟩,h8⟩:=h
 refine ⟨h1,h2,h3,h4,eq_of_beq h5,fun x hx=>?_,fun y hy=>?_,fun x hx=>?_⟩
 ·simpa using List.all_eq_true.mp h6 x hx
 ·simpa using List.all_eq_true.mp h7 y hy
 ·simpa using List.all_eq_true.mp h8 _ hx
noncomputable def jdP (T:Tab):Nat->List Fun->List Stmt->Bool
 | _,[],[]=>true
 | i,d::ds,st::sts=>scB d.N d.ps (defScope st) && ((T.ns.lookup i).isSome || okSs T ⟨d.N,(defScope st).names⟩ d.body (defBody st)) && jdP T (i + 1) ds sts
 | _,_,_=>false
noncomputable def jeK (T:Tab)(all:List Stmt):Nat->List Fun->List Stmt->Prop
 | _,[],_=>True
 | i,d::ds,st::sts=>(match T.ns.lookup i with
  | none=>unSs T ⟨d.N,(defScope st).names⟩ d.body (defBody st)=defBody st
  | some z=>T.ns.lookup z.ff=none/\∃ dff stff dv dc,NestS T all d st z dff stff dv dc)/\jeK T all (i + 1) ds sts
 | _,_::_,[]=>False
theorem jcO {T:Tab}{all:List Stmt}:∀ {i:Nat} {ds:List Fun} {sts:List Stmt},jdP T i ds sts=true->jeK T all i ds sts->∀ {n:Nat} {d:Fun},ds[n]?=some d->∃ st,sts[n]?=some st/\scB d.N d.ps (defScope st)=true/\(match T.ns.lookup (i + n) with
  | none=>okSs T ⟨d.N,(defScope st).names⟩ d.body (defBody st)=true/\unSs T ⟨d.N,(defScope st).names⟩ d.body (defBody st)=defBody st
  | some z=>T.ns.lookup z.ff=none/\∃ dff stff dv dc,NestS T all d st z dff stff dv dc)
 | _,[],_,_,_,_,_,e=>by simp at e
 | _,_::_,[],h,_,_,_,_=>by unfold jdP at h; cases h
 | i,d::ds,st::sts,h,g,n,d',e=>by
  unfold jdP at h
  unfold jeK at g
  simp only [Bool.and_eq_true] at h
  cases n with
  | zero=>
   simp at e
   subst e
   refine ⟨st,rfl,h.1.1,?_⟩
   have g1:=g.1
   have h1:=h.1.2
   rw [Nat.add_zero]
   cases q:T.ns.lookup i with
   | none=>rw [q] at g1 h1; exact ⟨by simpa using h1,g1⟩
   | some z=>rw [q] at g1; exact g1
  | succ n=>
   obtain ⟨st',e',q⟩:=jcO h.2 g.2 (n:=n) (by simpa using e)
   rw [show i + 1 + n=i + (n + 1) by omega] at q
   exact ⟨st',by simpa using e',q⟩
noncomputable def jcf (K:PySem.W.Frag)(v:Value)(P:Addr):Bool:=match v with
 | .ref c=>(match K.lookup c with
  | some ⟨.type t,_,.fields vs,_⟩=>t == "code" && (match (vs[11]?:Option Value) with | some (.ref Q)=>Q == P | _=>false) && (match vs.getD 18 .none with | .str _ _=>true | _=>false) && (match vs.getD 7 .none with | .int _ _=>true | _=>false)
   && (match vs.getD 9 .none with | .bool _=>true | _=>false) && (match vs.getD 10 .none with | .int _ _=>true | _=>false) && c != P
  | _=>false)
 | _=>false
theorem jfY {K:PySem.W.Frag}{h:Heap}{v:Value}{P:Addr}(X:K.In h)(q:jcf K v P=true):∃ c,v=.ref c/\PySem.W.CodeHd h c P:=by
 unfold jcf at q
 split at q
 ·rename_i c
  split at q
  ·rename_i t dd vs sl hk
   simp only [Bool.and_eq_true] at q
   obtain ⟨⟨⟨⟨⟨⟨q1,q2⟩,q3⟩,q4⟩,q5⟩,q6⟩,q7⟩:=q
   refine ⟨c,rfl,⟨.type t,dd,.fields vs,sl⟩,vs,?_⟩
   have ho:=X c _ hk
   split at q2
   ·rename_i Q e11
    obtain rfl:Q=P:=by simpa using q2
    split at q3
    ·rename_i s1 t1 e18
     split at q4
     ·rename_i s2 t2 e7
      split at q5
      ·rename_i b e9
       split at q6
       ·rename_i s3 t3 e10
        exact ⟨s1,t1,s2,t2,b,s3,t3,ho,by rw [eq_of_beq q1],rfl,e11,by rw [Array.getD_eq_getD_getElem?,e11]; rfl,e18,e7,e9,e10,by simpa using q7⟩
       ·cases q6
      ·cases q5
     ·cases q4
    ·cases q3
   ·cases q2
  ·cases q
 ·cases q
section
variable {T:Tab}{P:Program}{w:World}{K:PySem.W.Frag}{mg:Str->Option Value}{base:Heap}
theorem jcF {j n:Nat}{f:Addr}{fd:FuncData}{ps:List Str}{t:List U->Gp->K1->KX->Prop}(hz:∀ us G Q E,¬ t us G Q E):FnOk P w K mg base (CX1 P w) j f fd ps (lSp K t):=
 ⟨fun vs H Q E ⟨_,_,_,_,_,_,h,_⟩=>(hz _ _ _ _ h).elim,fun A outer s H args us vs Q E _ _ _ _ ⟨_,_,_,_,_,_,h,_⟩=>(hz _ _ _ _ h).elim⟩
theorem jel {k n:Nat}{d:Fun}{st:Stmt}{f:Addr}{fd:FuncData}(F:L2.Fun K d.name d.name st f fd)(h1:scB d.N d.ps (defScope st)=true)(h2:okSs T ⟨d.N,(defScope st).names⟩ d.body (defBody st)=true)(h3:unSs T ⟨d.N,(defScope st).names⟩ d.body (defBody st)=defBody st)
  (pf:PF T P w K mg base k) (hd:T.funs[n]?=some d):FnOk P w K mg base (CX1 P w) (k + 3) f fd d.ps (lSp K (jaa T (k + 1) n)):=by
 have S:=jgi h1
 refine F.okX S (fun vs H Q E ⟨us,G,Q',E',r,hG,h,lv,lx⟩=>by rw [<- r.length]; exact (jbb (jet hd) h).1) fun cdv A outer s H vs Q E hr hsp=>?_
 obtain ⟨us,G,Q',E',r,hG,h,lv,lx⟩:=hsp
 obtain ⟨hl,h⟩:=jbb (jet hd) h
 refine ⟨_,jfe h3 (sSs d.body (k:=k) (c:=⟨d.N,(defScope st).names⟩) (hs:=defBody st) ⟨⟨rfl,S.nd,fun x z=>eq_of_beq z,fun x z=>⟨eq_of_beq z,rfl⟩,fun x z=>.inr (eq_of_beq z),fun x z=>eq_of_beq z,hr.mono (by omega),rfl,jic,pf.blt,pf.fns,pf.gls,hr,pf.cls,pf.mgK⟩,rfl,S.kind,rfl,rfl⟩ h2),?_⟩
 exact ⟨_,_,G,jbO r,hG,h,⟨fun ς' σ' G' H' a b c q=>lv .non .non G' H' rfl b c q,fun w v G' H' a b c q=>lv w v G' H' a b c q,fun pins e s' x ς' σ' G' H' I sr xat hr' f q=>by obtain ⟨ea,C0,dx,rfl,l,xd⟩:=xat; exact CX1.out1 I l (lx x G' H' C0 dx xd hr' f q)⟩⟩
noncomputable abbrev Dyn (T:Tab)(K:PySem.W.Frag)(mg:Str->Option Value)(sts:List Stmt):Prop:=∀ (n:Nat) (d:Fun) (st:Stmt),T.funs[n]?=some d->sts[n]?=some st->∃ (f:Addr) (fd:FuncData),L2.Fun K d.name d.name st f fd/\mg d.name=some (.ref f)/\Binds K fd d.ps []/\∀ z,T.ns.lookup n=some z->jcf K fd.code z.P=true
theorem jh7 {sts:List Stmt}(hst:jdP T 0 T.funs sts=true)(heq:jeK T sts 0 T.funs sts)(dyn:Dyn T K mg sts)(hU:∀ t∈tabs,∀ t'∈tabs,t.1=t'.1->t=t')(hKb:K.In base)(hB:BmAt mg base)
  (hb:∀ x∈jbk,mg x=none) (hg:∀ (n:Nat) (x:Str) (u:U),T.gn[n]?=some x->T.gs[n]?=some u->∃ v w,mg x=some w/\RelV v w/\∀ H,RU K H u v) (hc:∀ n∈T.cs,1<=n->∃ C,XCls K (gK K) (clsN n) (clsF n) C) (hm:∀ x v,gK K x=some v->mg x=some v) :
  ∀ (k:Nat),PF T P w K mg base k:=by
 intro k
 induction k using Nat.strongRecOn with
 | ind k ih=>
  refine ⟨hb,fun n d hd=>?_,hg,hc,hm⟩
  obtain ⟨st,e,h1,h2⟩:=jcO hst heq hd
  obtain ⟨f,fd,F,m,b,hz⟩:=dyn n d st hd e
  refine ⟨f,fd,?_,m,F.kp,b⟩
  rw [Nat.zero_add] at h2
  cases q:T.ns.lookup n with
  | none=>
   rw [q] at h2
   obtain _ | k:=k
   ·exact jcF (n:=n) fun _ _ _ _ h=>h
   ·exact jel F h1 h2.1 h2.2 (ih k (by omega)) hd
  | some z=>
   rw [q] at h2
   obtain ⟨hff,dff,stff,dv,dc,N⟩:=h2
   obtain _ | _ | j:=k
   ·exact jcF (n:=n) fun _ _ _ _ h=>h
   ·refine jcF (n:=n) fun us G Q E h=>?_
    obtain ⟨_,h⟩:=jbb (jet hd) h
    rw [N.body] at h
    obtain ⟨cs,_,_,h⟩:=jd1 (show jas T.gs (jaa T 0) (capE z.caps (.cons (.v z.wi) (.cons (.int z.least) .nil))) (jad d.N.length us) G (fun zs G1=>jaa T 0 z.vi zs G1 Q fun x G'=>E x G') _ from h)
    obtain ⟨_,_,h⟩:=jbe (show slot (jad d.N.length us) z.wi fun x=>jaa T 0 z.vi (cs++[x,.int z.least]) G Q fun x G'=>E x G' from h)
    exact h
   ·obtain ⟨st2,e2,g1,g2⟩:=jcO hst heq N.ff
    rw [Nat.zero_add,hff] at g2
    obtain ⟨fff,fdff,Fff,mff,bff,_⟩:=dyn z.ff dff st2 N.ff e2
    have:st2=stff:=by rw [N.ffs] at e2; exact (Option.some.inj e2).symm
    subst this
    exact jiA N hU (jgi g1) g2.1 g2.2 F Fff mff bff (jfY hKb (hz z q)) hB (ih (j - 1) (by omega)) (jet hd)
noncomputable def G0 (a:Addr)(ns:List Int):Gp:=fun b=>if b=a then some (.fro (ns.map .int)) else none
theorem jfL {H:Hp}:∀ ns:List Int,RUs K H (ns.map .int) (ns.map V.int)
 | []=>rfl
 | _::r=>⟨_,_,rfl,rfl,jfL r⟩
theorem law_sp {k n:Nat}{H:Hp}{o:Obj}{a:Addr}{ns:List Int}{tb:List Addr}(hT:∀ t∈tabs,t.1∈tb)(hO:jgY tb H)(fr:H a=some (.frz o (.lst (ns.map V.int))))(h:jaa T k n [.loc a] (G0 a ns) (fun u _=>u=.bl true) fun _ _=>False) :
  lSp K (jaa T k n) [.ref a] H (fun v _=>v=.bl true) fun _ _ _=>False:=by
 refine ⟨[.loc a],G0 a ns,_,_,⟨_,_,rfl,rfl,rfl⟩,⟨fun b mo e=>?_,fun t ht=>.inl ?_⟩,h,fun w v G' H' r _ _ q=>?_,fun _ _ _ _ _ _ _ _ z=>z.elim⟩
 ·unfold G0 at e
  split at e
  ·rename_i z
   subst z
   cases e
   exact ⟨o,_,fr,jfL ns⟩
  ·cases e
 ·have:=hO t.1
  rw [if_pos (hT t ht)] at this
  exact this
 ·subst q
  exact r
end
section
variable {T:Tab}{P:Program}{w:World}{K:PySem.W.Frag}{mg:Str->Option Value}{base:Heap}
theorem jeJ {sts:List Stmt}{k n:Nat}{d:Fun}{st:Stmt}{f:Addr}{fd:FuncData}(F:L2.Fun K d.name d.name st f fd)(hst:jdP T 0 T.funs sts=true)(heq:jeK T sts 0 T.funs sts)(dyn:Dyn T K mg sts)(hU:∀ t∈tabs,∀ t'∈tabs,t.1=t'.1->t=t')(hKb:K.In base)(hB:BmAt mg base)
  (hb:∀ x∈jbk,mg x=none) (hg:∀ (n:Nat) (x:Str) (u:U),T.gn[n]?=some x->T.gs[n]?=some u->∃ v w,mg x=some w/\RelV v w/\∀ H,RU K H u v) (hc:∀ n∈T.cs,1<=n->∃ C,XCls K (gK K) (clsN n) (clsF n) C) (hm:∀ x v,gK K x=some v->mg x=some v) (hd:T.funs[n]?=some d) (hs:sts[n]?=some st) (hn:T.ns.lookup n=none) :
  FnOk P w K mg base (CX1 P w) (k + 2) f fd d.ps (lSp K (jaa T k n)):=by
 cases k with
 | zero=>exact jcF (n:=n) fun _ _ _ _ h=>h
 | succ k=>
  obtain ⟨st',e,h1,h2⟩:=jcO hst heq hd
  rw [hs] at e
  cases e
  rw [Nat.zero_add,hn] at h2
  exact jel F h1 h2.1 h2.2 (jh7 hst heq dyn hU hKb hB hb hg hc hm k) hd
end
section
variable {K:PySem.W.Frag}
theorem jmx {x:Str}{v:Value}(h:gK K x=some v):PySem.W.nsIn K mainGlobals x=some (some v):=by
 unfold gK at h
 cases q:PySem.W.nsIn K mainGlobals x with
 | none=>rw [q] at h; cases h
 | some o=>rw [q] at h; rw [show o=some v from h]
theorem jkr {h:Heap}{mg:Str->Option Value}(X:K.In h)(G:h.Ns mainGlobals mg):∀ x v,gK K x=some v->mg x=some v:=fun _ _ e=>PySem.W.mg_of X G (jmx e)
end
theorem jdW {G:Gp}{a:Addr}{o u:MO}:gup (gup G a o) a u=gup G a u:=by funext b; unfold gup; split <;> rfl
noncomputable def Sm (f:Addr)(G G':Gp):Prop:=∀ b o,b≠f->G b=some o->G' b=some o
noncomputable def Sa (G G':Gp):Prop:=∀ b o,G b=some o->G' b=some o
theorem Sm.refl {f:Addr}{G:Gp}:Sm f G G:=fun _ _ _ h=>h
theorem Sa.refl {G:Gp}:Sa G G:=fun _ _ h=>h
theorem Sm.trans {f:Addr}{G G1 G2:Gp}(a:Sm f G G1)(b:Sm f G1 G2):Sm f G G2:=fun c o n h=>b c o n (a c o n h)
theorem Sa.trans {G G1 G2:Gp}(a:Sa G G1)(b:Sa G1 G2):Sa G G2:=fun c o h=>b c o (a c o h)
theorem Sa.sm {f:Addr}{G G':Gp}(a:Sa G G'):Sm f G G':=fun c o _ h=>a c o h
theorem Sa.new {G:Gp}{p:Addr}{o:MO}(h:G p=none):Sa G (gup G p o):=fun c u e=>by
 rw [jaZ (fun z=>by rw [z,h] at e; cases e)]; exact e
theorem Sm.put {G:Gp}{f:Addr}{o:MO}:Sm f G (gup G f o):=fun c u n e=>by rw [jaZ n]; exact e
theorem jcU {G:Gp}{a p:Addr}{o:MO}(h:G a=some o)(hp:G p=none):p≠a:=fun z=>by rw [z,h] at hp; cases hp
theorem New.at {G G':Gp}{p:Addr}{o:MO}(n:New G p o G'):G' p=some o:=by rw [n.eq]; exact jap
theorem New.sa {G G':Gp}{p:Addr}{o:MO}(n:New G p o G'):Sa G G':=by rw [n.eq]; exact Sa.new n.no
theorem Put.at {G G':Gp}{p:Addr}{o:MO}(n:Put G p o G'):G' p=some o:=by rw [n.eq]; exact jap
theorem Put.sm {G G':Gp}{p:Addr}{o:MO}(n:Put G p o G'):Sm p G G':=by rw [n.eq]; exact Sm.put
mutual
noncomputable def pd:U->PyData
 | .non=>.none
 | .bl b=>.bool b
 | .int i=>.int i
 | .str x=>.str x
 | .tup us=>.tuple (pds us)
 | .loc _=>.none
 | .fn _=>.none
 | .ty _=>.none
 | .exc _ _=>.none
 | .own _=>.none
 | .clo _ _=>.none
noncomputable def pds:List U->List PyData
 | []=>[]
 | u::us=>pd u::pds us
end
mutual
noncomputable def bare:U->Bool
 | .non=>true
 | .bl _=>true
 | .int _=>true
 | .str _=>true
 | .tup us=>bares us
 | .loc _=>false
 | .fn _=>false
 | .ty _=>false
 | .exc _ _=>false
 | .own _=>false
 | .clo _ _=>false
noncomputable def bares:List U->Bool
 | []=>true
 | u::us=>bare u && bares us
end
mutual
theorem jgP {G:Gp}:∀ {u:U},bare u=true->DU G u (pd u)
 | .non,_=>.non
 | .bl b,_=>.bl b
 | .int i,_=>.int i
 | .str x,_=>.str x
 | .tup _,h=>.tup (jew h)
 | .loc _,h=>nomatch h
 | .fn _,h=>nomatch h
 | .ty _,h=>nomatch h
 | .exc _ _,h=>nomatch h
 | .own _,h=>nomatch h
 | .clo _ _,h=>nomatch h
theorem jew {G:Gp}:∀ {us:List U},bares us=true->DUs G us (pds us)
 | [],_=>.nil
 | _::_,h=>.cons (jgP (ba h).1) (jew (ba h).2)
end
theorem jeA:∀ {us:List U},(∀ u∈us,bare u=true)->bares us=true
 | [],_=>rfl
 | u::us,h=>by
  show (bare u && bares us)=true
  rw [h u List.mem_cons_self,jeA fun v hv=>h v (List.mem_cons_of_mem _ hv)]; rfl
theorem jcr:∀ us:List U,pds us=us.map pd
 | []=>rfl
 | u::us=>by
  show pd u::pds us=_
  rw [jcr us]; rfl
theorem jjI {G:Gp}{u:U}{Q:K1}(h:bare u=true)(f:Fits 16000000 60 (pd u))(q:Q (.str (pd u).shown) G):jdN [u] G Q:=⟨pd u,jgP h,f,q⟩
structure Sml (n:Nat)(u:U):Prop where
 b:bare u=true
 l:(pd u).canLay0=true
 d:(pd u).depth<=n
theorem Sml.mono {n m:Nat}{u:U}(h:Sml n u)(e:n<=m):Sml m u:=⟨h.b,h.l,Nat.le_trans h.d e⟩
theorem Sml.int (i:Int):Sml 0 (.int i):=⟨rfl,rfl,Nat.le_refl _⟩
theorem Sml.str {x:Str}(h:∀ c∈x.cps.toList,c < 128):Sml 0 (.str x):=⟨rfl,by
 show x.cps.all (fun c=>decide (c < 0x110000))=true
 rw [<- Array.all_toList,List.all_eq_true]
 exact fun c hc=>by simpa using Nat.lt_trans (h c hc) (by decide),Nat.le_refl _⟩
theorem smls {n:Nat}:∀ {us:List U},(∀ u∈us,Sml n u)->bares us=true/\PyData.canLayAll0 (pds us)=true/\PyData.depthAll (pds us)<=n
 | [],_=>⟨rfl,rfl,Nat.zero_le _⟩
 | u::us,h=>by
  obtain ⟨h1,h2,h3⟩:=smls fun v hv=>h v (List.mem_cons_of_mem _ hv)
  have hu:=h u List.mem_cons_self
  refine ⟨?_,?_,?_⟩
  ·show (bare u && bares us)=true
   rw [hu.b,h1]; rfl
  ·show ((pd u).canLay0 && PyData.canLayAll0 (pds us))=true
   rw [hu.l,h2]; rfl
  ·show max (pd u).depth (PyData.depthAll (pds us))<=n
   exact Nat.max_le.mpr ⟨hu.d,h3⟩
theorem Sml.tup {n:Nat}{us:List U}(h:∀ u∈us,Sml n u):Sml (n + 1) (.tup us):=let ⟨h1,h2,h3⟩:=smls h; ⟨h1,h2,Nat.succ_le_succ h3⟩
theorem Sml.small {n:Nat}{u:U}(h:Sml n u)(hn:n<=100):Small (pd u):=⟨h.l,Nat.le_trans h.d hn⟩
theorem jkQ {G : Gp}{n : Nat}{a b : Addr}{us : List U}{k : Bool -> Prop}(ga : G a = some (.lst us))(gb : G b = some (.lst []))(h : ∀ u ∈ us, Sml n u)(hn : n < 100)(q : k us.isEmpty) : eqU (.loc a) (.loc b) G k := by
  obtain ⟨h1, h2, h3⟩ := smls h
  have la : lsG G a = some us := by unfold lsG; rw [ga]
  have lb : lsG G b = some [] := by unfold lsG; rw [gb]
  refine ⟨.list (pds us), .list [], .lst la (jew h1), .lst lb .nil, ⟨h2, ?_⟩, ⟨rfl, by decide⟩, ?_⟩
  · show PyData.depthAll (pds us) + 1 <= 100
    omega
  · have e : PyData.eqv (.list (pds us)) (.list []) = us.isEmpty := by
      show PyData.eqvAll (pds us) [] = _
      rw [jeU]
      cases us <;> rfl
    rw [e]; exact q
structure Ft (n k:Nat)(u:U):Prop where
 b:bare u=true
 f:Fits n k (pd u)
theorem Ft.mono {n n' k k':Nat}{u:U}(h:Ft n k u)(h1:n<=n')(h2:k<=k'):Ft n' k' u:=⟨h.b,h.f.mono h1 h2⟩
theorem Ft.int {i:Int}(h:i.natAbs < 2 ^ 1000):Ft 1921 0 (.int i):=⟨rfl,Fits.int h⟩
theorem Ft.str {x:Str}{m:Nat}(h:x.length<=m)(hc:∀ c∈x.cps.toList,c < 128):Ft (10 * m + 2) 0 (.str x):=⟨rfl,Fits.str h fun c hc'=>Nat.lt_trans (hc c hc') (by decide)⟩
theorem Ft.tup {n k m N:Nat}{us:List U}(hl:us.length<=m)(h:∀ u∈us,Ft n k u)(hN:m * (n + 2) + 3<=N):Ft N (k + 1) (.tup us):=by
 refine ⟨jeA fun u hu=>(h u hu).b,?_⟩
 show Fits N (k + 1) (.tuple (pds us))
 rw [jcr]
 refine Fits.tupLe (m:=m) (n:=n) (by rw [List.length_map]; exact hl) (fun d hd=>?_) hN
 obtain ⟨u,hu,rfl⟩:=List.mem_map.mp hd
 exact (h u hu).f
theorem jjJ {G:Gp}{n k:Nat}{u:U}{Q:K1}(h:Ft n k u)(h1:n<=16000000)(h2:k<=60)(q:Q (.str (pd u).shown) G):jdN [u] G Q:=jjI h.b (h.f.mono h1 h2) q
theorem jaE {ok:Gp->Prop}{b:U->Sg->Gp->(Sg->Gp->Prop)->Prop}{k:Sg->Gp->Prop}:∀ {xs:List U} (I:Nat->Sg->Gp->Prop) (_:∀ ς G,I xs.length ς G->ok G/\k ς G)
  (_:∀ i x ς G (K:Sg->Gp->Prop),xs[i]?=some x->I i ς G->(∀ ς' G',I (i + 1) ς' G'->K ς' G')->ok G/\b x ς G K) {ς:Sg} {G:Gp} (_:I 0 ς G),forL ok b xs ς G k
 | [],_,h0,_,_,_,h=>h0 _ _ h
 | x::_,I,h0,h1,_,_,h=>h1 0 x _ _ _ rfl h fun _ _ h'=>jaE (fun i=>I (i + 1)) h0 (fun i y ς G K e hi hk=>h1 (i + 1) y ς G K e hi hk) h'
theorem jbI {ok:Gp->Prop}{b:U->Gp->(Option U->Gp->Prop)->Prop}{k:List U->Gp->Prop}:∀ {xs:List U} (I:Nat->List U->Gp->Prop) (_:∀ acc G,I xs.length acc G->ok G/\k acc G)
  (_:∀ i x acc G (K:Option U->Gp->Prop),xs[i]?=some x->I i acc G->(∀ u G',I (i + 1) (acc++[u]) G'->K (some u) G')->(∀ G',I (i + 1) acc G'->K none G')->ok G/\b x G K) {acc:List U} {G:Gp} (_:I 0 acc G),jce ok b xs acc G k
 | [],_,h0,_,_,_,h=>h0 _ _ h
 | x::_,I,h0,h1,_,_,h=>h1 0 x _ _ _ rfl h (fun _ _ h'=>jbI (fun i=>I (i + 1)) h0 (fun i y a G K e hi hk hn=>h1 (i + 1) y a G K e hi hk hn) h') (fun _ h'=>jbI (fun i=>I (i + 1)) h0 (fun i y a G K e hi hk hn=>h1 (i + 1) y a G K e hi hk hn) h')
theorem jdx {ok:Gp->Prop}{b:U->Gp->(Option U->Gp->Prop)->Prop}{k:List U->Gp->Prop}{G:Gp}(f:U->U)(hok:ok G):∀ {xs:List U} (_:∀ x∈xs,∀ K:Option U->Gp->Prop,K (some (f x)) G->b x G K) {acc:List U} (_:k (acc++xs.map f) G),jce ok b xs acc G k
 | [],_,acc,q=>⟨hok,by simpa using q⟩
 | x::xs,hb,acc,q=>⟨hok,hb x List.mem_cons_self _ (jdx f hok (fun y hy=>hb y (List.mem_cons_of_mem _ hy)) (by simpa using q))⟩
theorem jbm (i:Int)(n:Nat):(rngU i n).length=n:=by unfold rngU; simp
theorem jbQ {n i:Nat}{x:U}(h:(rngU 0 n)[i]?=some x):i < n/\x=.int i:=by
 unfold rngU at h
 rw [List.getElem?_map] at h
 by_cases hi:i < n
 ·rw [List.getElem?_range hi] at h
  exact ⟨hi,by simpa using h.symm⟩
 ·rw [List.getElem?_eq_none (by simpa using hi)] at h
  cases h
theorem jd3 {α β:Type}(f:α->β)(l:List α)(i:Int):atI (l.map f) i=(atI l i).map f:=by
 unfold atI
 rw [List.length_map]
 cases ixN l.length i with
 | none=>rfl
 | some j=>simp
theorem jgW {α:Type}(a:α)(l:List α):atI (a::l) 0=some a:=jax (xs:=a::l) (j:=0) rfl
theorem jmH {α:Type}(a b:α)(l:List α):atI (a::b::l) 1=some b:=jax (xs:=a::b::l) (j:=1) rfl
theorem jmG {α:Type}(a b c d:α)(l:List α):atI (a::b::c::d::l) 3=some d:=jax (xs:=a::b::c::d::l) (j:=3) rfl
theorem jeB {α:Type}{l:List α}{r:Int}(h0:0<=r)(h1:r < l.length):∃ x,x∈l/\atI l r=some x:=by
 obtain ⟨j,rfl⟩:=Int.eq_ofNat_of_zero_le h0
 have hj:j < l.length:=by omega
 exact ⟨l[j],List.getElem_mem hj,jax (List.getElem?_eq_getElem hj)⟩
noncomputable def fdU (c:Addr)(a l t:Int):List (Key×U):=[(.inr "cells",.loc c),(.inr "at",.int a),(.inr "left",.int l),(.inr "turn",.int t)]
structure Fd (G:Gp)(f c:Addr):Prop where
 ex:∃ (ns:List Int) (a l t:Int),G f=some (.dK (fdU c a l t))/\G c=some (.lst (ns.map .int))/\ns≠[]
section
theorem k_ca:¬ ((Sum.inr ("cells" : Str):Key)=Sum.inr ("at" : Str)):=by decide +kernel
theorem k_cl:¬ ((Sum.inr ("cells" : Str):Key)=Sum.inr ("left" : Str)):=by decide +kernel
theorem k_ct:¬ ((Sum.inr ("cells" : Str):Key)=Sum.inr ("turn" : Str)):=by decide +kernel
theorem k_al:¬ ((Sum.inr ("at" : Str):Key)=Sum.inr ("left" : Str)):=by decide +kernel
theorem k_at:¬ ((Sum.inr ("at" : Str):Key)=Sum.inr ("turn" : Str)):=by decide +kernel
theorem k_lt:¬ ((Sum.inr ("left" : Str):Key)=Sum.inr ("turn" : Str)):=by decide +kernel
variable {c:Addr}{a l t:Int}
theorem jiS:dGet (fdU c a l t) (.inr "cells")=some (.loc c):=by simp [dGet,fdU]
theorem g_at:dGet (fdU c a l t) (.inr "at")=some (.int a):=by simp [dGet,fdU,k_ca,-Sum.inr.injEq]
theorem jkM:dGet (fdU c a l t) (.inr "left")=some (.int l):=by simp [dGet,fdU,k_cl,k_al,-Sum.inr.injEq]
theorem jht:dGet (fdU c a l t) (.inr "turn")=some (.int t):=by simp [dGet,fdU,k_ct,k_at,k_lt,-Sum.inr.injEq]
theorem jhf (x:Int):dPut (fdU c a l t) (.inr "turn") (.int x)=fdU c a l x:=by simp [dPut,fdU,k_ct,k_at,k_lt,-Sum.inr.injEq]
theorem p_at (x:Int):dPut (fdU c a l t) (.inr "at") (.int x)=fdU c x l t:=by simp [dPut,fdU,k_ca,Ne.symm k_al,Ne.symm k_at,-Sum.inr.injEq]
theorem jj7 (x:Int):dPut (fdU c a l t) (.inr "left") (.int x)=fdU c a x t:=by simp [dPut,fdU,k_cl,k_al,Ne.symm k_lt,-Sum.inr.injEq]
theorem jkt {p:Addr}:jcc [((Sum.inr ("cells" : Str):Key),U.loc p),(.inr "at",.int 0),(.inr "left",.int 0),(.inr "turn",.int 0)]=fdU p 0 0 0:=by
 simp [jcc,dPut,fdU,k_ca,k_cl,k_ct,k_al,k_at,k_lt,-Sum.inr.injEq]
theorem jeu:(fdU c a l t).length < sizeLine:=by show 4 < sizeLine; decide
theorem Fd.put {G G':Gp}{f c:Addr}{ns:List Int}{kvs:List (Key×U)}{a l t:Int}(p:Put G f (.dK (fdU c a l t)) G')(h:G f=some (.dK kvs))(hc:G c=some (.lst (ns.map .int)))(hn:ns≠[]):Fd G' f c:=
 ⟨ns,a,l,t,p.at,p.sm _ _ (fun z=>by rw [z,h] at hc; cases hc) hc,hn⟩
theorem Fd.sa {G G':Gp}{f c:Addr}(h:Fd G f c)(s:Sa G G'):Fd G' f c:=let ⟨ns,a,l,t,h1,h2,h3⟩:=h.ex; ⟨ns,a,l,t,s _ _ h1,s _ _ h2,h3⟩
theorem Fd.new {G G':Gp}{f c p:Addr}{o:MO}(h:Fd G f c)(n:New G p o G'):Fd G' f c:=h.sa n.sa
theorem Fd.away {G G':Gp}{f c p:Addr}{o:MO}(h:Fd G f c)(n:New G p o G'):p≠f/\p≠c:=by
 obtain ⟨ns,a,l,t,h1,h2,_⟩:=h.ex
 exact ⟨jcU h1 n.no,jcU h2 n.no⟩
theorem Fd.off {G G':Gp}{f c p:Addr}{o:MO}(h:Fd G f c)(hp:p≠f/\p≠c)(w:Put G p o G'):Fd G' f c:=let ⟨ns,a,l,t,h1,h2,h3⟩:=h.ex; ⟨ns,a,l,t,w.sm _ _ (Ne.symm hp.1) h1,w.sm _ _ (Ne.symm hp.2) h2,h3⟩
theorem Sm.wr {f p:Addr}{G G1 G2 G3:Gp}{o:MO}(s1:Sm f G G1)(n:G1 p=none)(s2:Sm f G G2)(w:Put G2 p o G3):Sm f G G3:=fun b u hb e=>w.sm b u (fun z=>by
 have:=s1 _ _ hb e
 rw [z,n] at this; cases this) (s2 b u hb e)
theorem Sm.nw {f p:Addr}{G G1 G2:Gp}{o:MO}(s:Sm f G G1)(n:New G1 p o G2):Sm f G G2:=s.trans n.sa.sm
end
theorem D_v {gs:List U}{Δ:Cl}{ς:Sg}{G:Gp}{Q:K1}{X:KX}(i:Nat):(den gs Δ (.v i)).1 ς G Q X=(slot ς i fun u=>Q u G):=rfl
theorem T_v {gs:List U}{Δ:Cl}{ς:Sg}{G:Gp}{R:Bool->Gp->Prop}{X:KX}(i:Nat):(den gs Δ (.v i)).2 ς G R X=(den gs Δ (.v i)).1 ς G (fun x G1=>truU x G1 fun b=>R b G1) X:=rfl
theorem jnw {gs:List U}{Δ:Cl}{ς:Sg}{G:Gp}{Q:K1}{X:KX}  : (den gs Δ (.non)).1 ς G Q X=(Q .non G):=rfl
theorem D_bl {gs:List U}{Δ:Cl}{ς:Sg}{G:Gp}{Q:K1}{X:KX}(b:Bool):(den gs Δ (.bl b)).1 ς G Q X=(Q (.bl b) G):=rfl
theorem jnC {gs:List U}{Δ:Cl}{ς:Sg}{G:Gp}{Q:K1}{X:KX}(i:Int):(den gs Δ (.int i)).1 ς G Q X=(Q (.int i) G):=rfl
theorem jnt {gs:List U}{Δ:Cl}{ς:Sg}{G:Gp}{Q:K1}{X:KX}(x:Str):(den gs Δ (.str x)).1 ς G Q X=(Q (.str x) G):=rfl
theorem D_g {gs:List U}{Δ:Cl}{ς:Sg}{G:Gp}{Q:K1}{X:KX}(n:Nat):(den gs Δ (.g n)).1 ς G Q X=(glU gs n fun u=>Q u G):=rfl
theorem T_g {gs:List U}{Δ:Cl}{ς:Sg}{G:Gp}{R:Bool->Gp->Prop}{X:KX}(n:Nat):(den gs Δ (.g n)).2 ς G R X=(den gs Δ (.g n)).1 ς G (fun x G1=>truU x G1 fun b=>R b G1) X:=rfl
theorem D_ty {gs:List U}{Δ:Cl}{ς:Sg}{G:Gp}{Q:K1}{X:KX}(n:String):(den gs Δ (.ty n)).1 ς G Q X=(Q (.ty n) G):=rfl
theorem T_ty {gs:List U}{Δ:Cl}{ς:Sg}{G:Gp}{R:Bool->Gp->Prop}{X:KX}(n:String):(den gs Δ (.ty n)).2 ς G R X=(den gs Δ (.ty n)).1 ς G (fun x G1=>truU x G1 fun b=>R b G1) X:=rfl
theorem jnI {gs:List U}{Δ:Cl}{ς:Sg}{G:Gp}{Q:K1}{X:KX}(o:Operator)(a b:E):(den gs Δ (.bin o a b)).1 ς G Q X=((den gs Δ a).1 ς G (fun x G1=>(den gs Δ b).1 ς G1 (fun y G2=>binU o x y G2 Q) X) X):=rfl
theorem jna {gs:List U}{Δ:Cl}{ς:Sg}{G:Gp}{R:Bool->Gp->Prop}{X:KX}(o:Operator)(a b:E):(den gs Δ (.bin o a b)).2 ς G R X=(den gs Δ (.bin o a b)).1 ς G (fun x G1=>truU x G1 fun b=>R b G1) X:=rfl
theorem jnx {gs:List U}{Δ:Cl}{ς:Sg}{G:Gp}{Q:K1}{X:KX}(a:E):(den gs Δ (.neg a)).1 ς G Q X=((den gs Δ a).1 ς G (fun x G1=>negU x G1 Q) X):=rfl
theorem jnG {gs:List U}{Δ:Cl}{ς:Sg}{G:Gp}{Q:K1}{X:KX}(o:CmpOp)(a b:E):(den gs Δ (.cmp o a b)).1 ς G Q X=((den gs Δ a).1 ς G (fun x G1=>(den gs Δ b).1 ς G1 (fun y G2=>cmpU o x y G2 fun c=>Q (.bl c) G2) X) X):=rfl
theorem jm8 {gs:List U}{Δ:Cl}{ς:Sg}{G:Gp}{R:Bool->Gp->Prop}{X:KX}(o:CmpOp)(a b:E):(den gs Δ (.cmp o a b)).2 ς G R X=(den gs Δ (.cmp o a b)).1 ς G (fun x G1=>truU x G1 fun b=>R b G1) X:=rfl
theorem jlo {gs:List U}{Δ:Cl}{ς:Sg}{G:Gp}{Q:K1}{X:KX}(o p:CmpOp)(a b c:E):(den gs Δ (.cmp2 o p a b c)).1 ς G Q X=((den gs Δ a).1 ς G (fun x G1=>(den gs Δ b).1 ς G1 (fun y G2=>cmpU o x y G2 fun t=>if t=true then (den gs Δ c).1 ς G2 (fun z G3=>cmpU p y z G3 fun t'=>Q (.bl t') G3) X else Q (.bl false) G2) X) X):=rfl
theorem jk9 {gs:List U}{Δ:Cl}{ς:Sg}{G:Gp}{R:Bool->Gp->Prop}{X:KX}(o p:CmpOp)(a b c:E):(den gs Δ (.cmp2 o p a b c)).2 ς G R X=(den gs Δ (.cmp2 o p a b c)).1 ς G (fun x G1=>truU x G1 fun b=>R b G1) X:=rfl
theorem jns {gs:List U}{Δ:Cl}{ς:Sg}{G:Gp}{Q:K1}{X:KX}(es:Es):(den gs Δ (.tup es)).1 ς G Q X=(jas gs Δ es ς G (fun us G1=>us.length<=sizeLine/\Q (.tup us) G1) X):=rfl
theorem jnA {gs:List U}{Δ:Cl}{ς:Sg}{G:Gp}{Q:K1}{X:KX}(es:Es):(den gs Δ (.lst es)).1 ς G Q X=(jas gs Δ es ς G (fun us G1=>us.length<=sizeLine/\newO G1 (.lst us) Q) X):=rfl
theorem jnF {gs:List U}{Δ:Cl}{ς:Sg}{G:Gp}{Q:K1}{X:KX}(es:Es):(den gs Δ (.dic es)).1 ς G Q X=(denD gs Δ es ς G (fun kvs G1=>kvs.length<=15/\newO G1 (.dK (jcc kvs)) Q) X):=rfl
theorem D_ix {gs:List U}{Δ:Cl}{ς:Sg}{G:Gp}{Q:K1}{X:KX}(a b:E):(den gs Δ (.ix a b)).1 ς G Q X=((den gs Δ a).1 ς G (fun x G1=>(den gs Δ b).1 ς G1 (fun y G2=>ixU x y G2 Q) X) X):=rfl
theorem T_ix {gs:List U}{Δ:Cl}{ς:Sg}{G:Gp}{R:Bool->Gp->Prop}{X:KX}(a b:E):(den gs Δ (.ix a b)).2 ς G R X=(den gs Δ (.ix a b)).1 ς G (fun x G1=>truU x G1 fun b=>R b G1) X:=rfl
theorem D_sl {gs:List U}{Δ:Cl}{ς:Sg}{G:Gp}{Q:K1}{X:KX}(a:E)(lo hi:Eo):(den gs Δ (.sl a lo hi)).1 ς G Q X=((den gs Δ a).1 ς G (fun x G1=>denO gs Δ lo ς G1 (fun l G2=>denO gs Δ hi ς G2 (fun h G3=>slU x l h G3 Q) X) X) X):=rfl
theorem jnu {gs:List U}{Δ:Cl}{ς:Sg}{G:Gp}{Q:K1}{X:KX}(a b:E):(den gs Δ (.rev a b)).1 ς G Q X=((den gs Δ a).1 ς G (fun x G1=>(den gs Δ b).1 ς G1 (fun y G2=>revU x y G2 Q) X) X):=rfl
theorem jlp {gs:List U}{Δ:Cl}{ς:Sg}{G:Gp}{Q:K1}{X:KX}(n:Nat)(es:Es):(den gs Δ (.call n es)).1 ς G Q X=(jas gs Δ es ς G (fun us G1=>Δ n us G1 Q X) X):=rfl
theorem jla {gs:List U}{Δ:Cl}{ς:Sg}{G:Gp}{R:Bool->Gp->Prop}{X:KX}(n:Nat)(es:Es):(den gs Δ (.call n es)).2 ς G R X=(den gs Δ (.call n es)).1 ς G (fun x G1=>truU x G1 fun b=>R b G1) X:=rfl
theorem jnH {gs:List U}{Δ:Cl}{ς:Sg}{G:Gp}{Q:K1}{X:KX}(b:Blt)(es:Es):(den gs Δ (.blt b es)).1 ς G Q X=(jas gs Δ es ς G (fun us G1=>bltU b us G1 Q) X):=rfl
theorem jm9 {gs:List U}{Δ:Cl}{ς:Sg}{G:Gp}{R:Bool->Gp->Prop}{X:KX}(b:Blt)(es:Es):(den gs Δ (.blt b es)).2 ς G R X=(den gs Δ (.blt b es)).1 ς G (fun x G1=>truU x G1 fun b=>R b G1) X:=rfl
theorem jln {gs:List U}{Δ:Cl}{ς:Sg}{G:Gp}{Q:K1}{X:KX}(m:Mth)(o:E)(es:Es):(den gs Δ (.meth m o es)).1 ς G Q X=((den gs Δ o).1 ς G (fun x G1=>match mtU m x G1 with | some _=>jas gs Δ es ς G1 (fun us G2=>jaF m x us G2 Q) X | none=>False) X):=rfl
theorem D_lc {gs:List U}{Δ:Cl}{ς:Sg}{G:Gp}{Q:K1}{X:KX}(pick:List (Option Nat))(t:Tg)(it:It)(ifs:Es)(e:E):(den gs Δ (.lc pick t it ifs e)).1 ς G Q X=(denI gs Δ it ς G (fun xs ok G1=>xs.length<=sizeLine/\jce ok (fun x G2 k=>tgU t x (ja9 pick ς) fun τ=>denC gs Δ ifs τ G2 (fun b G3=>if b=true then (den gs Δ e).1 τ G3 (fun u G4=>k (some u) G4) (fun _ _=>False) else k none G3)) xs [] G1 fun us G5=>newO G5 (.lst us) Q) X):=rfl
theorem jnB {gs:List U}{Δ:Cl}{ς:Sg}{G:Gp}{Q:K1}{X:KX}(pick:List (Option Nat))(t:Tg)(it:It)(ifs:Es)(t2:Tg)(it2:It)(ifs2:Es)(e:E):(den gs Δ (.lc2 pick t it ifs t2 it2 ifs2 e)).1 ς G Q X=(denI gs Δ it ς G (fun xs ok G1=>ji6 ok (fun x acc G2 k=>tgU t x (ja9 pick ς) fun τ=>denC gs Δ ifs τ G2 (fun b G3=>if b=true then denI gs Δ it2 τ G3 (fun ys ok2 G4=>acc.length + ys.length<=sizeLine/\jce ok2 (fun y G5 k5=>tgU t2 y τ fun τ'=>denC gs Δ ifs2 τ' G5 (fun b2 G6=>if b2=true then (den gs Δ e).1 τ' G6 (fun u G7=>k5 (some u) G7) (fun _ _=>False) else k5 none G6)) ys acc G4 k) (fun _ _=>False) else k acc G3)) xs [] G1 fun us G5=>newO G5 (.lst us) Q) X):=rfl
theorem jm5 {gs:List U}{Δ:Cl}{ς:Sg}{G:Gp}{R:Bool->Gp->Prop}{X:KX}(pick:List (Option Nat))(t:Tg)(it:It)(ifs:Es)(t2:Tg)(it2:It)(ifs2:Es)(e:E):(den gs Δ (.lc2 pick t it ifs t2 it2 ifs2 e)).2 ς G R X=(den gs Δ (.lc2 pick t it ifs t2 it2 ifs2 e)).1 ς G (fun x G1=>truU x G1 fun b=>R b G1) X:=rfl
theorem jnE {gs:List U}{Δ:Cl}{ς:Sg}{G:Gp}{Q:K1}{X:KX}(es:Es):(den gs Δ (.fst es)).1 ς G Q X=(denF gs Δ es ς G (fun zs G1=>Q (.str (L2.cats Str.empty zs)) G1) X):=rfl
theorem jm7 {gs:List U}{Δ:Cl}{ς:Sg}{G:Gp}{R:Bool->Gp->Prop}{X:KX}(es:Es):(den gs Δ (.fst es)).2 ς G R X=(den gs Δ (.fst es)).1 ς G (fun x G1=>truU x G1 fun b=>R b G1) X:=rfl
theorem jnz {gs:List U}{Δ:Cl}{ς:Sg}{G:Gp}{Q:K1}{X:KX}(e:E):(den gs Δ (.mkL e)).1 ς G Q X=((den gs Δ e).1 ς G (fun x G1=>itU x G1 fun xs _=>newO G1 (.lst xs) Q) X):=rfl
theorem jny {gs:List U}{Δ:Cl}{ς:Sg}{G:Gp}{Q:K1}{X:KX}(e:E):(den gs Δ (.mkT e)).1 ς G Q X=((den gs Δ e).1 ς G (fun x G1=>itU x G1 fun xs _=>Q (.tup xs) G1) X):=rfl
theorem jnv {gs:List U}{Δ:Cl}{ς:Sg}{G:Gp}{Q:K1}{X:KX}(a:E):(den gs Δ (.not a)).1 ς G Q X=((den gs Δ a).1 ς G (fun x G1=>truU x G1 fun b=>Q (.bl (!b)) G1) X):=rfl
theorem jm4 {gs:List U}{Δ:Cl}{ς:Sg}{G:Gp}{R:Bool->Gp->Prop}{X:KX}(a:E):(den gs Δ (.not a)).2 ς G R X=((den gs Δ a).2 ς G (fun b G1=>R (!b) G1) X):=rfl
theorem jnD {gs:List U}{Δ:Cl}{ς:Sg}{G:Gp}{Q:K1}{X:KX}(c a b:E):(den gs Δ (.ife c a b)).1 ς G Q X=((den gs Δ c).2 ς G (fun t G1=>if t=true then (den gs Δ a).1 ς G1 Q X else (den gs Δ b).1 ς G1 Q X) X):=rfl
theorem jm6 {gs:List U}{Δ:Cl}{ς:Sg}{G:Gp}{R:Bool->Gp->Prop}{X:KX}(c a b:E):(den gs Δ (.ife c a b)).2 ς G R X=((den gs Δ c).2 ς G (fun t G1=>if t=true then (den gs Δ a).2 ς G1 R X else (den gs Δ b).2 ς G1 R X) X):=rfl
theorem jlq {gs:List U}{Δ:Cl}{k:Bool}{a:E}:den gs Δ (.bop k a .nil)=den gs Δ a:=rfl
theorem jnJ {gs:List U}{Δ:Cl}{ς:Sg}{G:Gp}{Q:K1}{X:KX}{a b:E}{es:Es}:(den gs Δ (.bop true a (.cons b es))).1 ς G Q X=(den gs Δ a).1 ς G (fun x G1=>truU x G1 fun c=>if c=true then (den gs Δ (.bop true b es)).1 ς G1 Q X else Q x G1) X:=rfl
theorem D_or {gs:List U}{Δ:Cl}{ς:Sg}{G:Gp}{Q:K1}{X:KX}{a b:E}{es:Es}:(den gs Δ (.bop false a (.cons b es))).1 ς G Q X=(den gs Δ a).1 ς G (fun x G1=>truU x G1 fun c=>if c=true then Q x G1 else (den gs Δ (.bop false b es)).1 ς G1 Q X) X:=rfl
theorem jnb {gs:List U}{Δ:Cl}{ς:Sg}{G:Gp}{R:Bool->Gp->Prop}{X:KX}{a b:E}{es:Es}:(den gs Δ (.bop true a (.cons b es))).2 ς G R X=(den gs Δ a).2 ς G (fun c G1=>if c=true then (den gs Δ (.bop true b es)).2 ς G1 R X else R false G1) X:=rfl
theorem T_or {gs:List U}{Δ:Cl}{ς:Sg}{G:Gp}{R:Bool->Gp->Prop}{X:KX}{a b:E}{es:Es}:(den gs Δ (.bop false a (.cons b es))).2 ς G R X=(den gs Δ a).2 ς G (fun c G1=>if c=true then R true G1 else (den gs Δ (.bop false b es)).2 ς G1 R X) X:=rfl
theorem O_no {gs:List U}{Δ:Cl}{ς:Sg}{G:Gp}{X:KX}{Q:Option Int->Gp->Prop}:denO gs Δ .no ς G Q X=Q none G:=rfl
theorem O_so {gs:List U}{Δ:Cl}{ς:Sg}{G:Gp}{X:KX}{Q:Option Int->Gp->Prop}{e:E}:denO gs Δ (.so e) ς G Q X=(den gs Δ e).1 ς G (fun x G1=>match x with | .int i=>Q (some i) G1 | _=>False) X:=rfl
theorem jnM {gs:List U}{Δ:Cl}{ς:Sg}{G:Gp}{X:KX}{Q:List U->Gp->Prop}:jas gs Δ .nil ς G Q X=Q [] G:=rfl
theorem jlt {gs:List U}{Δ:Cl}{ς:Sg}{G:Gp}{X:KX}{Q:List U->Gp->Prop}{e:E}{es:Es}:jas gs Δ (.cons e es) ς G Q X=(den gs Δ e).1 ς G (fun x G1=>jas gs Δ es ς G1 (fun xs G2=>Q (x::xs) G2) X) X:=rfl
theorem jnK {gs:List U}{Δ:Cl}{ς:Sg}{G:Gp}{Q:Bool->Gp->Prop}:denC gs Δ .nil ς G Q=Q true G:=rfl
theorem jlr {gs:List U}{Δ:Cl}{ς:Sg}{G:Gp}{Q:Bool->Gp->Prop}{e:E}{es:Es}:denC gs Δ (.cons e es) ς G Q=(den gs Δ e).2 ς G (fun b G1=>if b=true then denC gs Δ es ς G1 Q else Q false G1) (fun _ _=>False):=rfl
theorem jng {gs:List U}{Δ:Cl}{ς:Sg}{G:Gp}{X:KX}{Q:List (Key×U)->Gp->Prop}:denD gs Δ .nil ς G Q X=Q [] G:=rfl
theorem jle {gs:List U}{Δ:Cl}{ς:Sg}{G:Gp}{X:KX}{Q:List (Key×U)->Gp->Prop}{e f:E}{es:Es}:denD gs Δ (.cons e (.cons f es)) ς G Q X=(den gs Δ e).1 ς G (fun x G1=>(den gs Δ f).1 ς G1 (fun y G2=>match kU x with | some k=>denD gs Δ es ς G2 (fun kvs G3=>Q ((k,y)::kvs) G3) X | none=>False) X) X:=rfl
theorem I_e {gs:List U}{Δ:Cl}{ς:Sg}{G:Gp}{X:KX}{Q:List U->(Gp->Prop)->Gp->Prop}{e:E}:denI gs Δ (.e e) ς G Q X=(den gs Δ e).1 ς G (fun x G1=>itU x G1 fun xs ok=>Q xs ok G1) X:=rfl
theorem I_r1 {gs:List U}{Δ:Cl}{ς:Sg}{G:Gp}{X:KX}{Q:List U->(Gp->Prop)->Gp->Prop}{e:E}:denI gs Δ (.r1 e) ς G Q X=(den gs Δ e).1 ς G (fun x G1=>match x with | .int j=>-(2 ^ 62)<=j/\j < 2 ^ 62/\Q (rngU 0 j.toNat) (fun _=>True) G1 | _=>False) X:=rfl
theorem I_r2 {gs:List U}{Δ:Cl}{ς:Sg}{G:Gp}{X:KX}{Q:List U->(Gp->Prop)->Gp->Prop}{a b:E}:denI gs Δ (.r2 a b) ς G Q X=(den gs Δ a).1 ς G (fun x G1=>(den gs Δ b).1 ς G1 (fun y G2=>match x,y with | .int i,.int j=>-(2 ^ 62)<=i/\i < 2 ^ 62/\-(2 ^ 62)<=j/\j < 2 ^ 62/\Q (rngU i (j - i).toNat) (fun _=>True) G2 | _,_=>False) X) X:=rfl
theorem I_s {gs:List U}{Δ:Cl}{ς:Sg}{G:Gp}{X:KX}{Q:List U->(Gp->Prop)->Gp->Prop}{e:E}:denI gs Δ (.s e) ς G Q X=(den gs Δ e).1 ς G (fun x G1=>sgU x fun xs=>Q xs (fun _=>True) G1) X:=rfl
theorem jnm {gs:List U}{Δ:Cl}{ς:Sg}{G:Gp}{X:KX}{Q:List Str->Gp->Prop}:denF gs Δ .nil ς G Q X=Q [] G:=rfl
theorem jlm {gs:List U}{Δ:Cl}{ς:Sg}{G:Gp}{X:KX}{Q:List Str->Gp->Prop}{e:E}{es:Es}:denF gs Δ (.cons e es) ς G Q X=(den gs Δ e).1 ς G (fun x G1=>fpU x fun z=>denF gs Δ es ς G1 (fun zs G2=>Q (z::zs) G2) X) X:=rfl
theorem I_dk {gs:List U}{Δ:Cl}{ς:Sg}{G:Gp}{X:KX}{Q:List U->(Gp->Prop)->Gp->Prop}{e:E}:denI gs Δ (.dk e) ς G Q X=(den gs Δ e).1 ς G (fun x G1=>jje x G1 Q) X:=rfl
theorem jnc {gs:List U}{Δ:Cl}{D:En}{ς:Sg}{G:Gp}{ts:Tgs}{e:E}:denS gs Δ (.unp ts e) D ς G=(den gs Δ e).1 ς G (fun u G1=>unpU ts u G1 ς fun ς'=>D.nx ς' G1) fun x G1=>D.ex x ς G1:=rfl
theorem jlc {gs:List U}{Δ:Cl}{D:En}{ς:Sg}{G:Gp}{e:E}:denS gs Δ (.expr e) D ς G=(den gs Δ e).1 ς G (fun _ G1=>D.nx ς G1) fun x G1=>D.ex x ς G1:=rfl
theorem jnf {gs:List U}{Δ:Cl}{D:En}{ς:Sg}{G:Gp}{t:Tg}{e:E}:denS gs Δ (.asg t e) D ς G=(den gs Δ e).1 ς G (fun u G1=>tgU t u ς fun ς'=>D.nx ς' G1) fun x G1=>D.ex x ς G1:=rfl
theorem jld {gs:List U}{Δ:Cl}{D:En}{ς:Sg}{G:Gp}{i:Nat}{e:E}:denS gs Δ (.asgC i e) D ς G=(den gs Δ e).1 ς G (fun u G1=>D.nx (ς.set i (some u)) G1) fun x G1=>D.ex x ς G1:=rfl
theorem jlb {gs:List U}{Δ:Cl}{D:En}{ς:Sg}{G:Gp}{o i e:E}:denS gs Δ (.setS o i e) D ς G=(den gs Δ e).1 ς G (fun v G1=>(den gs Δ o).1 ς G1 (fun x G2=>(den gs Δ i).1 ς G2 (fun y G3=>setU x y v G3 fun G4=>D.nx ς G4) (fun x G1=>D.ex x ς G1)) (fun x G1=>D.ex x ς G1)) (fun x G1=>D.ex x ς G1):=rfl
theorem jne {gs:List U}{Δ:Cl}{D:En}{ς:Sg}{G:Gp}{c:E}{a b:Ss}:denS gs Δ (.ite c a b) D ς G=(den gs Δ c).2 ς G (fun t G1=>if t=true then jaz gs Δ a D ς G1 else jaz gs Δ b D ς G1) fun x G1=>D.ex x ς G1:=rfl
theorem S_fr {gs:List U}{Δ:Cl}{D:En}{ς:Sg}{G:Gp}{t:Tg}{it:It}{b:Ss}:denS gs Δ (.fr t it b) D ς G=denI gs Δ it ς G (fun xs ok G1=>forL ok (fun x ς1 G2 k=>tgU t x ς1 fun ς2=>jaz gs Δ b { D with nx:=k } ς2 G2) xs ς G1 D.nx) fun x G1=>D.ex x ς G1:=rfl
theorem jnd {gs:List U}{Δ:Cl}{D:En}{ς:Sg}{G:Gp}{e:E}:denS gs Δ (.ret e) D ς G=(den gs Δ e).1 ς G D.rt fun x G1=>D.ex x ς G1:=rfl
theorem jjc {gs:List U}{Δ:Cl}{D:En}{ς:Sg}{G:Gp}{c:Nat}{es:Es}:denS gs Δ (.raise c es) D ς G=jas gs Δ es ς G (fun us G1=>us.length=(clsF c).length/\D.ex ⟨c,us⟩ ς G1) fun x G1=>D.ex x ς G1:=rfl
theorem S_tr {gs:List U}{Δ:Cl}{D:En}{ς:Sg}{G:Gp}{b:Ss}{c n:Nat}{h:List HS}:denS gs Δ (.tr b c n h) D ς G=jaz gs Δ b { D with ex:=fun x ς1 G1=>(c=0\/x.c=c)/\hsH x h (ς1.set n none) G1 fun ς2 G2=>D.nx (ς2.set n none) G2 } ς G:=rfl
theorem jnL {gs:List U}{Δ:Cl}{D:En}{ς:Sg}{G:Gp}:jaz gs Δ .nil D ς G=D.nx ς G:=rfl
theorem jls {gs:List U}{Δ:Cl}{D:En}{ς:Sg}{G:Gp}{s:S}{r:Ss}:jaz gs Δ (.cons s r) D ς G=denS gs Δ s { D with nx:=fun ς' G'=>jaz gs Δ r D ς' G' } ς G:=rfl
theorem jm3 {G:Gp}{Q:K1}{i j:Int}:binU .Add (.int i) (.int j) G Q=Q (.int (i + j)) G:=rfl
theorem jm2 {G:Gp}{Q:K1}{xs ys:List U}:binU .Add (.tup xs) (.tup ys) G Q=(xs.length + ys.length<=sizeLine/\Q (.tup (xs++ys)) G):=rfl
theorem jk7 {G:Gp}{Q:K1}{a b:Addr}:binU .Add (.loc a) (.loc b) G Q=∃ xs ys,G a=some (.lst xs)/\G b=some (.lst ys)/\xs.length + ys.length<=sizeLine/\newO G (.lst (xs++ys)) Q:=rfl
theorem jmX {G:Gp}{Q:K1}{i j:Int}:binU .Sub (.int i) (.int j) G Q=Q (.int (i - j)) G:=rfl
theorem jm0 {G:Gp}{Q:K1}{i j:Int}:binU .Mult (.int i) (.int j) G Q=(CMul i j/\Q (.int (i * j)) G):=rfl
theorem jk5 {G:Gp}{Q:K1}{a:Addr}{k:Int}:binU .Mult (.loc a) (.int k) G Q=∃ xs,G a=some (.lst xs)/\-(2 ^ 63)<=k/\k < 2 ^ 63/\xs.length * k.toNat<=sizeLine/\newO G (.lst (List.replicate k.toNat xs).flatten) Q:=rfl
theorem jk4 {G:Gp}{Q:K1}{xs:List U}{k:Int}:binU .Mult (.tup xs) (.int k) G Q=(xs≠[]/\1<=k/\k < 2 ^ 62/\xs.length * k.toNat<=sizeLine/\Q (.tup (List.replicate k.toNat xs).flatten) G):=rfl
theorem jk6 {G:Gp}{Q:K1}{i j:Int}:binU .FloorDiv (.int i) (.int j) G Q=(0 < j/\j < 1073741824/\Q (.int (i / j)) G):=rfl
theorem jm1 {G:Gp}{Q:K1}{i j:Int}:binU .Mod (.int i) (.int j) G Q=(0 < j/\Q (.int (i % j)) G):=rfl
theorem jmY {G:Gp}{Q:K1}{i j:Int}:binU .Pow (.int i) (.int j) G Q=(CPow i j/\Q (.int (i ^ j.toNat)) G):=rfl
theorem jmZ {G:Gp}{Q:K1}{i:Int}:negU (.int i) G Q=Q (.int (-i)) G:=rfl
theorem jmW {G:Gp}{k:Bool->Prop}{i j:Int}:cmpU .Eq (.int i) (.int j) G k=k (decide (i=j)):=rfl
theorem jmR {G:Gp}{k:Bool->Prop}{i j:Int}:cmpU .NotEq (.int i) (.int j) G k=k (!decide (i=j)):=rfl
theorem jmU {G:Gp}{k:Bool->Prop}{i j:Str}:cmpU .Eq (.str i) (.str j) G k=k (decide (i=j)):=rfl
theorem jmP {G:Gp}{k:Bool->Prop}{i j:Str}:cmpU .NotEq (.str i) (.str j) G k=k (!decide (i=j)):=rfl
theorem W_lt {G:Gp}{k:Bool->Prop}{i j:Int}:cmpU .Lt (.int i) (.int j) G k=k (decide (i < j)):=rfl
theorem W_le {G:Gp}{k:Bool->Prop}{i j:Int}:cmpU .LtE (.int i) (.int j) G k=k (decide (i<=j)):=rfl
theorem W_gt {G:Gp}{k:Bool->Prop}{i j:Int}:cmpU .Gt (.int i) (.int j) G k=k (decide (j < i)):=rfl
theorem jmO {G:Gp}{k:Bool->Prop}{xs ys:List U}:cmpU .NotEq (.tup xs) (.tup ys) G k=eqU (.tup xs) (.tup ys) G fun b=>k (!b):=rfl
theorem jmT {G:Gp}{k:Bool->Prop}{xs ys:List U}{y:U}:cmpU .Eq (.tup xs) (.tup (y::ys)) G k=eqU (.tup xs) (.tup (y::ys)) G k:=rfl
theorem jk1 {G:Gp}{k:Bool->Prop}{xs:List U}:cmpU .Eq (.tup xs) (.tup []) G k=k xs.isEmpty:=rfl
theorem jmQ {G:Gp}{k:Bool->Prop}{a b:Addr}:cmpU .NotEq (.loc a) (.loc b) G k=eqU (.loc a) (.loc b) G fun b=>k (!b):=rfl
theorem jmV {G:Gp}{k:Bool->Prop}{a b:Addr}:cmpU .Eq (.loc a) (.loc b) G k=eqU (.loc a) (.loc b) G k:=rfl
theorem W_in {G:Gp}{k:Bool->Prop}{x y:U}:cmpU .In x y G k=inU x y G k:=rfl
theorem jmN {G:Gp}{k:Bool->Prop}{x y:U}:cmpU .NotIn x y G k=inU x y G fun b=>k (!b):=rfl
theorem W_is {G:Gp}{k:Bool->Prop}{x y:U}:cmpU .Is x y G k=isU x y k:=rfl
theorem jmS {G:Gp}{k:Bool->Prop}{x y:U}:cmpU .IsNot x y G k=isU x y fun b=>k (!b):=rfl
theorem Y_bl {G:Gp}{k:Bool->Prop}{b:Bool}:truU (.bl b) G k=k b:=rfl
theorem jmJ {G:Gp}{k:Bool->Prop}:truU .non G k=k false:=rfl
theorem jmK {G:Gp}{k:Bool->Prop}{i:Int}:truU (.int i) G k=k (i != 0):=rfl
theorem jmI {G:Gp}{k:Bool->Prop}{xs:List U}:truU (.tup xs) G k=k (!xs.isEmpty):=rfl
theorem jnj {G:Gp}{k:List U->(Gp->Prop)->Prop}{xs:List U}:itU (.tup xs) G k=k xs fun _=>True:=rfl
theorem jmL {G:Gp}{Q:K1}{lo hi:Option Int}{xs:List U}:slU (.tup xs) lo hi G Q=Q (.tup (cut xs lo hi)) G:=rfl
theorem jno {us:List U}{G:Gp}{Q:K1}:bltU .len us G Q=lenU us G Q:=rfl
theorem jlg {us:List U}{G:Gp}{Q:K1}:bltU .repr us G Q=jdN us G Q:=rfl
theorem jnn {us:List U}{G:Gp}{Q:K1}:bltU .min us G Q=minU us G Q:=rfl
theorem jnr {us:List U}{G:Gp}{Q:K1}:bltU .all us G Q=allU us G Q:=rfl
theorem jnq {us:List U}{G:Gp}{Q:K1}:bltU .int us G Q=intU us G Q:=rfl
theorem jnl {us:List U}{G:Gp}{Q:K1}:bltU .str us G Q=strU us G Q:=rfl
theorem jnp {us:List U}{G:Gp}{Q:K1}:bltU .isi us G Q=jdV us G Q:=rfl
theorem jmM {G:Gp}{Q:K1}{lo hi:Option Int}{x:Str}:slU (.str x) lo hi G Q=(x.length<=sizeLine/\Q (.str (Txt.slice x lo hi)) G):=rfl
theorem jk8 {G:Gp}{Q:K1}{b:Bool}{j:Int}:binU .Add (.bl b) (.int j) G Q=Q (.int ((if b=true then (1:Int) else 0) + j)) G:=rfl
theorem jk3 {G:Gp}{Q:K1}{b:Bool}{j:Int}:binU .Sub (.bl b) (.int j) G Q=Q (.int ((if b=true then (1:Int) else 0) - j)) G:=rfl
theorem jk2 {G:Gp}{Q:K1}{b:Bool}{i:Int}:binU .Sub (.int i) (.bl b) G Q=Q (.int (i - if b=true then (1:Int) else 0)) G:=rfl
theorem jlj {G:Gp}{Q:K1}{xs:List U}:lenU [.tup xs] G Q=Q (.int xs.length) G:=rfl
theorem jlh {G:Gp}{Q:K1}{i j:Int}:minU [.int i,.int j] G Q=Q (.int (if j < i then j else i)) G:=rfl
theorem jli {G:Gp}{Q:K1}{i j:Int}:maxU [.int i,.int j] G Q=Q (.int (if j > i then j else i)) G:=rfl
theorem jll {G:Gp}{Q:K1}{b:Bool}:intU [.bl b] G Q=Q (.int (if b then 1 else 0)) G:=rfl
theorem jlk {G:Gp}{Q:K1}{i:Int}:intU [.int i] G Q=Q (.int i) G:=rfl
theorem G_n {i:Nat}{u:U}{ς:Sg}{k:Sg->Prop}:tgU (.n i) u ς k=k (ς.set i (some u)):=rfl
theorem G_t {ts:Tgs}{us:List U}{ς:Sg}{k:Sg->Prop}:tgU (.t ts) (.tup us) ς k=tgsU ts us ς k:=rfl
theorem jnk {us:List U}{ς:Sg}{k:Sg->Prop}:tgsU .nil us ς k=(us=[]/\k ς):=rfl
theorem jlf {t:Tg}{ts:Tgs}{u:U}{r:List U}{ς:Sg}{k:Sg->Prop}:tgsU (.cons t ts) (u::r) ς k=tgU t u ς fun ς'=>tgsU ts r ς' k:=rfl
theorem sl_0 {u:U}{ς:Sg}{k:U->Prop}:slot (some u::ς) 0 k=k u:=rfl
theorem sl_s {o:Option U}{ς:Sg}{i:Nat}{k:U->Prop}:slot (o::ς) (i + 1) k=slot ς i k:=rfl
theorem jcN {G:Gp}{a:Addr}{o:MO}{Q:Gp->Prop}:putO G a o Q=Q (gup G a o):=propext ⟨fun h=>h.at,fun h G1 p=>by rw [p.eq]; exact h⟩
theorem ix_t {xs:List U}{i:Int}{u:U}{G:Gp}{Q:K1}(h:atI xs i=some u):ixU (.tup xs) (.int i) G Q=Q u G:=by unfold ixU; dsimp only; rw [h]
theorem ix_l {a:Addr}{xs:List U}{i:Int}{u:U}{G:Gp}{Q:K1}(g:G a=some (.lst xs))(h:atI xs i=some u):ixU (.loc a) (.int i) G Q=Q u G:=by unfold ixU; dsimp only; rw [g]; dsimp only; rw [h]
theorem ix_d {a:Addr}{kvs:List (Key×U)}{x:Str}{u:U}{G:Gp}{Q:K1}(g:G a=some (.dK kvs))(h:dGet kvs (.inr x)=some u):ixU (.loc a) (.str x) G Q=Q u G:=by unfold ixU; dsimp only; rw [g]; show (match dGet kvs (.inr x) with | some u=>Q u G | none=>False)=_; rw [h]
theorem jiJ {a:Addr}{xs:List U}{r:Int}{G:Gp}{Q:K1}(g:G a=some (.lst xs))(h0:0<=r)(h1:r < xs.length)(q:∀ u∈xs,Q u G):ixU (.loc a) (.int r) G Q:=by
 obtain ⟨u,hu,e⟩:=jeB h0 h1
 rw [ix_l g e]
 exact q u hu
theorem jaQ (zs:List Int){a:Addr}{r:Int}{G:Gp}{Q:K1}(g:G a=some (.lst (zs.map .int)))(h0:0<=r)(h1:r < zs.length)(q:∀ z∈zs,Q (.int z) G):ixU (.loc a) (.int r) G Q:=
 jiJ g h0 (by rw [List.length_map]; exact h1) fun u hu=>by
  obtain ⟨z,hz,rfl⟩:=List.mem_map.mp hu
  exact q z hz
theorem jbE:∀ zs:List Str,jbz (zs.map .str)=some zs
 | []=>rfl
 | x::r=>by show (match jbz (r.map .str) with | some l=>some (x::l) | none=>none)=_; rw [jbE r]
theorem mt_join {z:Str}{G:Gp}:mtU .join (.str z) G=some ("str", "str.join"):=rfl
theorem jfG {z:Str}{a:Addr}{ys:List Str}{G:Gp}{Q:K1}(g:G a=some (.lst (ys.map .str))):jaF .join (.str z) [.loc a] G Q=(z.length<=16/\(ys.map (·.length)).sum + ys.length<=1048576/\Q (.str (Str.join z ys)) G):=by
 unfold jaF jiI; dsimp only; rw [g]; dsimp only; rw [jbE]
theorem ix_s {x:Str}{i:Int}{c:Nat}{G:Gp}{Q:K1}(h1:x.length<=sizeLine)(h:atI x.cps.toList i=some c)(q:Q (.str ⟨#[c]⟩) G):ixU (.str x) (.int i) G Q:=by unfold ixU; dsimp only; rw [h]; exact ⟨h1,q⟩
theorem jb5 (zs:List Str):(zs.map U.str).all flat=true:=by simp [flat]
theorem in_l {a:Addr}{ys:List U}{x:U}{G:Gp}{k:Bool->Prop}(g:G a=some (.lst ys))(h1:flat x=true)(h2:ys.all flat=true)(q:k (ys.any fun y=>eqF y x)):inU x (.loc a) G k:=by
 cases x <;> first | (cases h1; done) | (unfold inU; dsimp only; rw [g]; exact .inl ⟨h1,h2,q⟩)
theorem jdU {a:Addr}{xs:List U}{G:Gp}{Q:K1}(g:G a=some (.lst xs)):lenU [.loc a] G Q=Q (.int xs.length) G:=by unfold lenU; dsimp only; rw [g]
theorem jmq {a:Addr}{xs:List U}{G:Gp}{Q:K1}(g:G a=some (.fro xs)):lenU [.loc a] G Q=Q (.int xs.length) G:=by unfold lenU; dsimp only; rw [g]
theorem it_l {a:Addr}{xs:List U}{G:Gp}{k:List U->(Gp->Prop)->Prop}(g:G a=some (.lst xs)):itU (.loc a) G k=k xs fun G'=>lsG G' a=some xs:=by unfold itU; dsimp only; have e:lsG G a=some xs:=(by unfold lsG; rw [g]); rw [e]
theorem jd6 {a:Addr}{xs:List U}{v:U}{G:Gp}{Q:K1}(g:G a=some (.lst xs)):jaF .append (.loc a) [v] G Q=(xs.length < sizeLine/\putO G a (.lst (xs++[v])) (Q .non)):=by unfold jaF jd5; dsimp only; rw [g]
theorem jb0 {a:Addr}{xs:List U}{G:Gp}(g:G a=some (.lst xs)):mtU .append (.loc a) G=some ("list", "list.append"):=by unfold mtU; dsimp only; rw [g]
theorem jjz {a:Addr}{xs:List U}{i:Int}{j:Nat}{v:U}{G:Gp}{Q:Gp->Prop}(g:G a=some (.lst xs))(h:ixN xs.length i=some j):setU (.loc a) (.int i) v G Q=putO G a (.lst (xs.set j v)) Q:=by unfold setU; dsimp only; rw [g]; dsimp only; rw [h]
theorem jgh {a:Addr}{kvs:List (Key×U)}{x:Str}{v:U}{G:Gp}{Q:Gp->Prop}(g:G a=some (.dK kvs)):setU (.loc a) (.str x) v G Q=(kvs.length < sizeLine/\putO G a (.dK (dPut kvs (.inr x) v)) Q):=by unfold setU; dsimp only; rw [g]; rfl
theorem jfI {n j:Nat}(h:j < n):ixN n (j:Int)=some j:=by unfold ixN; rw [if_pos (Int.natCast_nonneg j),if_pos (by exact_mod_cast h)]; simp
noncomputable def jgQ:Nat->Ss->Ss
 | 0,s=>s
 | _ + 1,.nil=>.nil
 | n + 1,.cons _ r=>jgQ n r
theorem dr_0 {s:Ss}:jgQ 0 s=s:=rfl
theorem dr_s {n:Nat}{s:S}{r:Ss}:jgQ (n + 1) (.cons s r)=jgQ n r:=rfl
theorem pk_nil {ς:Sg}:ja9 [] ς=[]:=rfl
theorem jie {ς:Sg}{r:List (Option Nat)}:ja9 (none::r) ς=none::ja9 r ς:=rfl
theorem jid {ς:Sg}{j:Nat}{r:List (Option Nat)}:ja9 (some j::r) ς=(ς[j]?).join::ja9 r ς:=rfl
theorem jnh {x:Str}:kU (.str x)=some (.inr x):=rfl
theorem jni {i:Int}:kU (.int i)=some (.inl i):=rfl
theorem sl_f {a:Addr}{xs:List U}{lo hi:Option Int}{G:Gp}{Q:K1}(g:G a=some (.fro xs)):slU (.loc a) lo hi G Q=newO G (.lst (cut xs lo hi)) Q:=by unfold slU; dsimp only; have e:lsG G a=some xs:=(by unfold lsG; rw [g]); rw [e]
theorem sl_l {a:Addr}{xs:List U}{lo hi:Option Int}{G:Gp}{Q:K1}(g:G a=some (.lst xs)):slU (.loc a) lo hi G Q=newO G (.lst (cut xs lo hi)) Q:=by unfold slU; dsimp only; have e:lsG G a=some xs:=(by unfold lsG; rw [g]); rw [e]
theorem jc0 {α β:Type}(f:α->β)(xs:List α)(lo hi:Option Int):cut (xs.map f) lo hi=(cut xs lo hi).map f:=by unfold cut; rw [List.length_map,<- List.map_drop,<- List.map_take]
theorem jhz {α:Type}(xs:List α)(n:Nat):cut xs none (some (n:Int))=xs.take n:=by
 unfold cut
 rw [HT.sIx_none,HT.sIx_nat,List.drop_zero,Nat.sub_zero,List.take_eq_take_iff]
 omega
theorem jgR {α:Type}(xs:List α)(n:Nat):cut xs (some (n:Int)) none=xs.drop n:=by
 unfold cut
 rw [HT.sIx_none,HT.sIx_nat]
 by_cases h:n<=xs.length
 ·rw [Nat.min_eq_left h,List.take_of_length_le (by simp)]
 ·rw [Nat.min_eq_right (by omega),List.drop_of_length_le (Nat.le_refl _),List.drop_of_length_le (by omega),List.take_nil]
theorem jgN {G:Gp}{f c:Addr}{a l t:Int}{Q:K1}:ixU (.loc f) (.str "cells") (gup G f (.dK (fdU c a l t))) Q=Q (.loc c) (gup G f (.dK (fdU c a l t))):=ix_d jap jiS
theorem jmz {G:Gp}{f c:Addr}{a l t:Int}{Q:K1}:ixU (.loc f) (.str "at") (gup G f (.dK (fdU c a l t))) Q=Q (.int a) (gup G f (.dK (fdU c a l t))):=ix_d jap g_at
theorem jiU {G:Gp}{f c:Addr}{a l t:Int}{Q:K1}:ixU (.loc f) (.str "left") (gup G f (.dK (fdU c a l t))) Q=Q (.int l) (gup G f (.dK (fdU c a l t))):=ix_d jap jkM
theorem jiT {G:Gp}{f c:Addr}{a l t:Int}{Q:K1}:ixU (.loc f) (.str "turn") (gup G f (.dK (fdU c a l t))) Q=Q (.int t) (gup G f (.dK (fdU c a l t))):=ix_d jap jht
theorem jmA {G:Gp}{f c:Addr}{a l t x:Int}{Q:Gp->Prop}:setU (.loc f) (.str "at") (.int x) (gup G f (.dK (fdU c a l t))) Q=Q (gup G f (.dK (fdU c x l t))):=by rw [jgh jap,p_at,jcN,jdW]; exact propext ⟨fun h=>h.2,fun h=>⟨jeu,h⟩⟩
theorem jiX {G:Gp}{f c:Addr}{a l t x:Int}{Q:Gp->Prop}:setU (.loc f) (.str "left") (.int x) (gup G f (.dK (fdU c a l t))) Q=Q (gup G f (.dK (fdU c a x t))):=by rw [jgh jap,jj7,jcN,jdW]; exact propext ⟨fun h=>h.2,fun h=>⟨jeu,h⟩⟩
theorem jiW {G:Gp}{f c:Addr}{a l t x:Int}{Q:Gp->Prop}:setU (.loc f) (.str "turn") (.int x) (gup G f (.dK (fdU c a l t))) Q=Q (gup G f (.dK (fdU c a l x))):=by rw [jgh jap,jhf,jcN,jdW]; exact propext ⟨fun h=>h.2,fun h=>⟨jeu,h⟩⟩
noncomputable abbrev jdl:Nat:=0
noncomputable abbrev jbo:Nat:=1
noncomputable abbrev jar:Nat:=2
noncomputable abbrev jbg:Nat:=4
noncomputable abbrev jbu:Nat:=5
noncomputable abbrev jdk:Nat:=6
noncomputable abbrev jaG:Nat:=7
noncomputable abbrev jbW:Nat:=8
noncomputable abbrev jct:Nat:=9
noncomputable abbrev jab:Nat:=10
noncomputable abbrev jbX:Nat:=11
noncomputable abbrev jbZ:Nat:=12
noncomputable abbrev jaX:Nat:=13
noncomputable abbrev jbp:Nat:=14
noncomputable abbrev jcs:Nat:=15
noncomputable abbrev jbY:Nat:=16
noncomputable abbrev jfv:Nat:=17
noncomputable def jdu:Fun:=⟨"is_name",["thing"],["thing"],
  (.cons (.ite (.not (.bop true (.blt .isi (.cons (.v 0) (.cons (.ty "str") .nil))) (.cons (.cmp2 .LtE .LtE (.int 1) (.blt .len (.cons (.v 0) .nil)) (.g 0)) .nil))) (.cons (.ret (.bl false))
  .nil) .nil)
  (.cons (.ret (.blt .all (.cons (.lc [none] (.n 0) (.s (.v 0)) .nil (.cmp2 .LtE .LtE (.str "a") (.v 0) (.str "z"))) .nil)))
  .nil))⟩
noncomputable def jcx:Fun:=⟨"words_of",["line"],["line"],
  (.cons (.ret (.meth .split (.v 0) (.cons (.str " ") .nil)))
  .nil)⟩
noncomputable def jb8:Fun:=⟨"number_in",["word"],["word"],
  (.cons (.ite (.bop false (.not (.cmp2 .LtE .LtE (.int 1) (.blt .len (.cons (.v 0) .nil)) (.g 1))) (.cons (.not (.blt .all (.cons (.lc [none] (.n 0) (.s (.v 0)) .nil (.cmp .In (.v 0) (.g 2))) .nil))) .nil)) (.cons (.ret .non)
  .nil) .nil)
  (.cons (.ret (.ife (.bop true (.cmp .Gt (.blt .len (.cons (.v 0) .nil)) (.int 1)) (.cons (.cmp .Eq (.ix (.v 0) (.int 0)) (.str "0")) .nil)) .non (.blt .int (.cons (.v 0) .nil))))
  .nil))⟩
noncomputable def jaT:Fun:=⟨"first_fault",["words", "least", "fits"],["words", "least", "fits", "at"],
  (.cons (.fr (.n 3) (.r1 (.blt .len (.cons (.v 0) .nil))) (.cons (.ite (.not (.app 2 (.cons (.v 3) .nil))) (.cons (.ret (.v 3))
  .nil) .nil)
  .nil))
  (.cons (.ret (.ife (.cmp .Lt (.blt .len (.cons (.v 0) .nil)) (.v 1)) (.blt .len (.cons (.v 0) .nil)) .non))
  .nil))⟩
noncomputable abbrev jcl:Nat:=19
noncomputable def jaS:Fun:=⟨"works_fault",["words"],["words", "fits"],
  (.cons (.ret (.call 18 (.cons (.v 0) (.cons (.v 0) (.cons (.int 2) .nil))))) .nil)⟩
noncomputable def jaJ:Fun:=⟨"ff@works_fault",["words", "w@", "n@"],["words", "w@", "n@", "at@"],
  (.cons (.fr (.n 3) (.r1 (.blt .len (.cons (.v 1) .nil))) (.cons (.ite (.not (.call 19 (.cons (.v 3) (.cons (.v 0) .nil)))) (.cons (.ret (.v 3)) .nil) .nil) .nil)) (.cons (.ret (.ife (.cmp .Lt (.blt .len (.cons (.v 1) .nil)) (.v 2)) (.blt .len (.cons (.v 1) .nil)) .non)) .nil))⟩
noncomputable def jaK:Fun:=⟨"fits@works_fault",["at", "words"],["at", "words"],
  (.cons (.ite (.cmp .Eq (.v 0) (.int 0)) (.cons (.ret (.cmp .Eq (.ix (.v 1) (.v 0)) (.str "works")))
  .nil) .nil)
  (.cons (.ret (.bop true (.cmp .LtE (.v 0) (.g 3)) (.cons (.call jdl (.cons (.ix (.v 1) (.v 0)) .nil)) (.cons (.cmp .NotIn (.ix (.v 1) (.v 0)) (.sl (.v 1) (.so (.int 1)) (.so (.v 0)))) .nil))))
  .nil))⟩
noncomputable def jbc:Nst:=⟨72,3,18,19,[0],0,1,2, "words", "fits", "at"⟩
noncomputable abbrev jcV:Nat:=21
noncomputable def ja0:Fun:=⟨"span_fault",["names", "words"],["names", "words", "fits"],
  (.cons (.ret (.call 20 (.cons (.v 0) (.cons (.v 1) (.cons (.v 1) (.cons (.int 5) .nil)))))) .nil)⟩
noncomputable def jaR:Fun:=⟨"ff@span_fault",["names", "words", "w@", "n@"],["names", "words", "w@", "n@", "at@"],
  (.cons (.fr (.n 4) (.r1 (.blt .len (.cons (.v 2) .nil))) (.cons (.ite (.not (.call 21 (.cons (.v 4) (.cons (.v 0) (.cons (.v 1) .nil))))) (.cons (.ret (.v 4)) .nil) .nil) .nil)) (.cons (.ret (.ife (.cmp .Lt (.blt .len (.cons (.v 2) .nil)) (.v 3)) (.blt .len (.cons (.v 2) .nil)) .non)) .nil))⟩
noncomputable def jal:Fun:=⟨"fits@span_fault",["at", "names", "words"],["at", "names", "words"],
  (.cons (.ite (.cmp .Eq (.v 0) (.int 0)) (.cons (.ret (.cmp .In (.ix (.v 2) (.v 0)) (.tup (.cons (.str "span") (.cons (.str "apart") .nil)))))
  .nil) .nil)
  (.cons (.ite (.cmp .Lt (.v 0) (.int 3)) (.cons (.ret (.cmp .In (.ix (.v 2) (.v 0)) (.v 1)))
  .nil) .nil)
  (.cons (.ite (.bop false (.cmp .Gt (.v 0) (.int 4)) (.cons (.cmp .Is (.call jar (.cons (.ix (.v 2) (.v 0)) .nil)) .non) .nil)) (.cons (.ret (.bl false))
  .nil) .nil)
  (.cons (.ret (.bop false (.cmp .Eq (.v 0) (.int 3)) (.cons (.cmp .Eq (.ix (.v 2) (.int 0)) (.str "apart")) (.cons (.cmp .LtE (.call jar (.cons (.ix (.v 2) (.int 3)) .nil)) (.call jar (.cons (.ix (.v 2) (.int 4)) .nil))) .nil))))
  .nil))))⟩
noncomputable def jbr:Nst:=⟨79,3,20,21,[0,1],1,2,5, "words", "fits", "at"⟩
noncomputable def jdt:Fun:=⟨"span_in",["names", "words"],["names", "words", "word", "one", "other", "low", "high"],
  (.cons (.unp (.cons (.n 2) (.cons (.n 3) (.cons (.n 4) (.cons (.n 5) (.cons (.n 6) .nil))))) (.v 1))
  (.cons (.ret (.tup (.cons (.v 2) (.cons (.meth .index (.v 0) (.cons (.v 3) .nil)) (.cons (.meth .index (.v 0) (.cons (.v 4) .nil)) (.cons (.call jar (.cons (.v 5) .nil)) (.cons (.call jar (.cons (.v 6) .nil)) .nil)))))))
  .nil))⟩
noncomputable def jbw:Fun:=⟨"plan_lines",["plan"],["plan", "names", "spans", "lines", "word", "one", "other", "low", "high"],
  (.cons (.asg (.t (.cons (.n 1) (.cons (.n 2) .nil))) (.v 0))
  (.cons (.asg (.n 3) (.lst (.cons (.meth .join (.str " ") (.cons (.bin .Add (.tup (.cons (.str "works") .nil)) (.v 1)) .nil)) .nil)))
  (.cons (.fr (.t (.cons (.n 4) (.cons (.n 5) (.cons (.n 6) (.cons (.n 7) (.cons (.n 8) .nil)))))) (.e (.v 2)) (.cons (.expr (.meth .append (.v 3) (.cons (.fst (.cons (.v 4) (.cons (.str " ") (.cons (.ix (.v 1) (.v 5)) (.cons (.str " ") (.cons (.ix (.v 1) (.v 6)) (.cons (.str " ") (.cons (.v 7) (.cons (.str " ") (.cons (.v 8) .nil)))))))))) .nil)))
  .nil))
  (.cons (.ret (.v 3))
  .nil))))⟩
noncomputable def jb7:Fun:=⟨"read_plan",["lines"],["lines", "first", "at", "names", "spans", "row", "words"],
  (.cons (.ite (.not (.v 0)) (.cons .never
  .nil) .nil)
  (.cons (.asg (.n 1) (.call jbo (.cons (.ix (.v 0) (.int 0)) .nil)))
  (.cons (.asg (.n 2) (.call jbg (.cons (.v 1) .nil)))
  (.cons (.ite (.cmp .IsNot (.v 2) .non) (.cons .never
  .nil) .nil)
  (.cons (.asg (.n 3) (.mkT (.sl (.v 1) (.so (.int 1)) .no)))
  (.cons (.asg (.n 4) (.lst .nil))
  (.cons (.fr (.n 5) (.r2 (.int 1) (.blt .len (.cons (.v 0) .nil))) (.cons (.asg (.n 6) (.call jbo (.cons (.ix (.v 0) (.v 5)) .nil)))
  (.cons (.asg (.n 2) (.ife (.cmp .LtE (.v 5) (.g 4)) (.call jbu (.cons (.v 3) (.cons (.v 6) .nil))) (.int 0)))
  (.cons (.ite (.cmp .IsNot (.v 2) .non) (.cons .never
  .nil) .nil)
  (.cons (.expr (.meth .append (.v 4) (.cons (.call jdk (.cons (.v 3) (.cons (.v 6) .nil))) .nil)))
  .nil)))))
  (.cons (.ret (.tup (.cons (.v 3) (.cons (.mkT (.v 4)) .nil))))
  .nil))))))))⟩
noncomputable def jcA:Fun:=⟨"_law_feed",["_law_script"],["_law_script"],
  (.cons (.ret (.dic (.cons (.str "cells") (.cons (.bin .Add (.mkL (.sl (.v 0) .no (.so (.int 63)))) (.bin .Mult (.lst (.cons (.int 0) .nil)) (.blt .int (.cons (.cmp .Eq (.blt .len (.cons (.v 0) .nil)) (.int 0)) .nil)))) (.cons (.str "at") (.cons (.int 0) (.cons (.str "left") (.cons (.int 0) (.cons (.str "turn") (.cons (.int 0) .nil))))))))))
  .nil)⟩
noncomputable def jcB:Fun:=⟨"_law_draw",["_law_feed_here", "_law_many"],["_law_feed_here", "_law_many", "_law_cell", "_law_mixed", "_law_found"],
  (.cons (.setS (.v 0) (.str "turn") (.bin .Add (.ix (.v 0) (.str "turn")) (.int 1)))
  (.cons (.ite (.cmp .Eq (.ix (.v 0) (.str "left")) (.int 0)) (.cons (.asg (.n 2) (.ix (.ix (.v 0) (.str "cells")) (.bin .Mod (.ix (.v 0) (.str "at")) (.blt .len (.cons (.ix (.v 0) (.str "cells")) .nil)))))
  (.cons (.setS (.v 0) (.str "at") (.bin .Add (.ix (.v 0) (.str "at")) (.int 1)))
  (.cons (.ite (.cmp .Lt (.v 2) (.bin .Pow (.int 10) (.int 18))) (.cons (.asg (.n 3) (.bin .Mod (.bin .Mult (.bin .Add (.bin .Mod (.v 2) (.int 2147483629)) (.bin .Mult (.int 1013) (.ix (.v 0) (.str "turn")))) (.int 48271)) (.int 2147483647)))
  (.cons (.asg (.n 3) (.bin .Mod (.bin .Mult (.bin .Add (.bin .FloorDiv (.v 3) (.int 64)) (.bin .Mult (.int 41) (.ix (.v 0) (.str "turn")))) (.int 69621)) (.int 2147483587)))
  (.cons (.ret (.bin .Mod (.bin .FloorDiv (.v 3) (.int 64)) (.v 1)))
  .nil))) .nil)
  (.cons (.setS (.v 0) (.str "left") (.v 2))
  .nil)))) .nil)
  (.cons (.asg (.n 4) (.bin .Mod (.ix (.v 0) (.str "left")) (.v 1)))
  (.cons (.setS (.v 0) (.str "left") (.bin .FloorDiv (.ix (.v 0) (.str "left")) (.v 1)))
  (.cons (.ret (.v 4))
  .nil)))))⟩
noncomputable def jb9:Fun:=⟨"_law_names",["_law_feed_here", "_law_many"],["_law_feed_here", "_law_many", "_law_menu", "_law_first", "_law_step", "_law_names_here", "_law_signs"],
  (.cons (.asg (.n 2) (.lst (.cons (.str "a") (.cons (.str "ab") (.cons (.str "abc") (.cons (.str "works") (.cons (.str "span") (.cons (.str "apart") (.cons (.str "none") (.cons (.str "round") (.cons (.str "held") (.cons (.str "zzzzzzzz") (.cons (.str "undo") (.cons (.str "b") (.cons (.str "ba") (.cons (.str "plan") .nil))))))))))))))))
  (.cons (.expr (.meth .append (.v 2) (.cons (.str "x") .nil)))
  (.cons (.asg (.n 3) (.call jab (.cons (.v 0) (.cons (.int 15) .nil))))
  (.cons (.asg (.n 4) (.ix (.lst (.cons (.int 1) (.cons (.int 2) (.cons (.int 4) (.cons (.int 7) (.cons (.int 8) (.cons (.int 11) (.cons (.int 13) (.cons (.int 14) .nil))))))))) (.call jab (.cons (.v 0) (.cons (.int 8) .nil)))))
  (.cons (.asgC 5 (.lc [none,some 2,some 3,some 4] (.n 0) (.r1 (.v 1)) .nil (.ix (.v 1) (.bin .Mod (.bin .Add (.v 2) (.bin .Mult (.v 3) (.v 0))) (.int 15)))))
  (.cons (.ite (.cmp .Eq (.call jab (.cons (.v 0) (.cons (.int 3) .nil))) (.int 0)) (.cons (.asgC 6 (.lc [none,some 0] (.n 0) (.r1 (.bin .Add (.int 1) (.call jab (.cons (.v 0) (.cons (.int 8) .nil))))) .nil (.ix (.str "abcdefghijklmnopqrstuvwxyz") (.call jab (.cons (.v 1) (.cons (.int 26) .nil))))))
  (.cons (.ite (.cmp .NotIn (.meth .join (.str "") (.cons (.v 6) .nil)) (.v 5)) (.cons (.setS (.v 5) (.call jab (.cons (.v 0) (.cons (.v 1) .nil))) (.meth .join (.str "") (.cons (.v 6) .nil)))
  .nil) .nil)
  .nil)) .nil)
  (.cons (.ret (.mkT (.v 5)))
  .nil)))))))⟩
noncomputable def jcb:Fun:=⟨"_law_cycle",["_law_feed_here"],["_law_feed_here"],
  (.cons (.ret (.ix (.lst (.cons (.int 1) (.cons (.int 2) (.cons (.int 3) (.cons (.int 4) (.cons (.int 5) (.cons (.int 6) (.cons (.int 7) (.cons (.int 8) (.cons (.int 10) (.cons (.int 12) (.cons (.int 30) (.cons (.int 60) (.cons (.int 120) (.cons (.int 600) .nil))))))))))))))) (.call jab (.cons (.v 0) (.cons (.int 14) .nil)))))
  .nil)⟩
noncomputable def jbx:Fun:=⟨"_law_number",["_law_feed_here", "_law_cycle_here"],["_law_feed_here", "_law_cycle_here", "_law_way"],
  (.cons (.asg (.n 2) (.call jab (.cons (.v 0) (.cons (.int 6) .nil))))
  (.cons (.ite (.cmp .Lt (.v 2) (.int 3)) (.cons (.ret (.call jab (.cons (.v 0) (.cons (.bin .Add (.v 1) (.int 1)) .nil))))
  .nil) .nil)
  (.cons (.ite (.cmp .Eq (.v 2) (.int 3)) (.cons (.ret (.ix (.lst (.cons (.int 0) (.cons (.int 1) (.cons (.v 1) (.cons (.bin .Sub (.bin .Mult (.int 2) (.v 1)) (.int 1)) (.cons (.bin .Mult (.int 2) (.v 1)) .nil)))))) (.call jab (.cons (.v 0) (.cons (.int 5) .nil)))))
  .nil) .nil)
  (.cons (.ret (.call jab (.cons (.v 0) (.cons (.ix (.lst (.cons (.bin .Add (.bin .Mult (.int 3) (.v 1)) (.int 1)) (.cons (.int 10000) .nil))) (.bin .Sub (.v 2) (.int 4))) .nil))))
  .nil))))⟩
noncomputable def jcy:Fun:=⟨"_law_span",["_law_feed_here", "_law_one", "_law_other", "_law_cycle_here"],["_law_feed_here", "_law_one", "_law_other", "_law_cycle_here", "_law_low", "_law_more"],
  (.cons (.asg (.n 4) (.call jaX (.cons (.v 0) (.cons (.v 3) .nil))))
  (.cons (.ite (.cmp .Eq (.call jab (.cons (.v 0) (.cons (.int 4) .nil))) (.int 0)) (.cons (.ret (.tup (.cons (.str "apart") (.cons (.v 1) (.cons (.v 2) (.cons (.v 4) (.cons (.call jaX (.cons (.v 0) (.cons (.v 3) .nil))) .nil)))))))
  .nil) .nil)
  (.cons (.asg (.n 5) (.ix (.lst (.cons (.int 0) (.cons (.int 0) (.cons (.int 1) (.cons (.int 2) (.cons (.bin .FloorDiv (.v 3) (.int 2)) (.cons (.bin .Sub (.v 3) (.int 1)) (.cons (.bin .Mult (.int 3) (.v 3)) (.cons (.int 9999) .nil))))))))) (.call jab (.cons (.v 0) (.cons (.int 8) .nil)))))
  (.cons (.ret (.tup (.cons (.str "span") (.cons (.v 1) (.cons (.v 2) (.cons (.v 4) (.cons (.blt .min (.cons (.int 9999) (.cons (.bin .Add (.v 4) (.v 5)) .nil))) .nil)))))))
  .nil))))⟩
noncomputable def jcz:Fun:=⟨"_law_plan",["_law_feed_here", "_law_cycle_here"],["_law_feed_here", "_law_cycle_here", "_law_works", "_law_names_here", "_law_spans", "_law_k"],
  (.cons (.asg (.n 2) (.ix (.lst (.cons (.int 1) (.cons (.int 2) (.cons (.int 2) (.cons (.int 3) (.cons (.int 3) (.cons (.int 4) (.cons (.int 5) (.cons (.int 8) .nil))))))))) (.call jab (.cons (.v 0) (.cons (.int 8) .nil)))))
  (.cons (.asg (.n 3) (.call jbX (.cons (.v 0) (.cons (.v 2) .nil))))
  (.cons (.asg (.n 4) (.lst .nil))
  (.cons (.fr (.n 5) (.r1 (.ix (.lst (.cons (.int 0) (.cons (.int 1) (.cons (.int 2) (.cons (.int 3) (.cons (.int 4) (.cons (.int 6) (.cons (.int 9) (.cons (.int 24) .nil))))))))) (.call jab (.cons (.v 0) (.cons (.int 8) .nil))))) (.cons (.ite (.bop true (.cmp .NotEq (.v 4) (.lst .nil)) (.cons (.cmp .Eq (.call jab (.cons (.v 0) (.cons (.int 9) .nil))) (.int 0)) .nil)) (.cons (.expr (.meth .append (.v 4) (.cons (.ix (.v 4) (.call jab (.cons (.v 0) (.cons (.blt .len (.cons (.v 4) .nil)) .nil)))) .nil)))
  .nil) (.cons (.expr (.meth .append (.v 4) (.cons (.call jbp (.cons (.v 0) (.cons (.call jab (.cons (.v 0) (.cons (.v 2) .nil))) (.cons (.call jab (.cons (.v 0) (.cons (.v 2) .nil))) (.cons (.v 1) .nil))))) .nil)))
  .nil))
  .nil))
  (.cons (.ret (.tup (.cons (.v 3) (.cons (.mkT (.v 4)) .nil))))
  .nil)))))⟩
noncomputable def jca:Fun:=⟨"_law_lines",["_law_plan_here"],["_law_plan_here", "_law_names_here", "_law_spans", "_law_lines_here", "_law_word", "_law_one", "_law_other", "_law_low", "_law_high", "_law_words"],
  (.cons (.asg (.t (.cons (.n 1) (.cons (.n 2) .nil))) (.v 0))
  (.cons (.asg (.n 3) (.lst (.cons (.meth .join (.str " ") (.cons (.bin .Add (.lst (.cons (.str "works") .nil)) (.mkL (.v 1))) .nil)) .nil)))
  (.cons (.fr (.t (.cons (.n 4) (.cons (.n 5) (.cons (.n 6) (.cons (.n 7) (.cons (.n 8) .nil)))))) (.e (.v 2)) (.cons (.asg (.n 9) (.lst (.cons (.v 4) (.cons (.ix (.v 1) (.v 5)) (.cons (.ix (.v 1) (.v 6)) .nil)))))
  (.cons (.expr (.meth .append (.v 3) (.cons (.meth .join (.str " ") (.cons (.bin .Add (.v 9) (.lst (.cons (.blt .str (.cons (.v 7) .nil)) (.cons (.blt .str (.cons (.v 8) .nil)) .nil)))) .nil)) .nil)))
  .nil)))
  (.cons (.ret (.v 3))
  .nil))))⟩
noncomputable def ji4:Fun:=⟨"law",["_law_script"],["_law_script", "_law_feed_here", "_law_some", "_law_k", "_law_plan_here", "_law_due", "_law_kept", "_law_turn", "_law_found", "_law_other"],
  (.cons (.asg (.n 1) (.call jct (.cons (.v 0) .nil)))
  (.cons (.asg (.n 2) (.lst .nil))
  (.cons (.fr (.n 3) (.r1 (.int 4)) (.cons (.asg (.n 4) (.call jcs (.cons (.v 1) (.cons (.call jbZ (.cons (.v 1) .nil)) .nil))))
  (.cons (.asg (.n 2) (.bin .Add (.v 2) (.lst (.cons (.v 4) (.cons (.tup (.cons (.ix (.v 4) (.int 0)) (.cons (.rev (.ix (.v 4) (.int 1)) (.neg (.int 1))) .nil))) (.cons (.tup (.cons (.rev (.ix (.v 4) (.int 0)) (.neg (.int 1))) (.cons (.ix (.v 4) (.int 1)) .nil))) (.cons (.tup (.cons (.ix (.v 4) (.int 0)) (.cons (.sl (.ix (.v 4) (.int 1)) .no (.so (.neg (.int 1)))) .nil))) .nil)))))))
  .nil)))
  (.cons (.fr (.n 4) (.e (.v 2)) (.cons (.asg (.n 5) (.call jbY (.cons (.v 4) .nil)))
  (.cons (.asg (.n 6) (.blt .repr (.cons (.v 4) .nil)))
  (.cons (.fr (.n 7) (.r1 (.int 2)) (.cons (.asg (.n 8) (.call jaG (.cons (.v 4) .nil)))
  (.cons (.ite (.bop false (.not (.blt .isi (.cons (.v 8) (.cons (.ty "list") .nil)))) (.cons (.cmp .NotEq (.v 8) (.v 5)) .nil)) (.cons (.ret (.bl false))
  .nil) .nil)
  (.cons (.ite (.bop false (.cmp .NotEq (.blt .repr (.cons (.call jbW (.cons (.v 8) .nil)) .nil)) (.v 6)) (.cons (.cmp .NotEq (.v 8) (.v 5)) .nil)) (.cons (.ret (.bl false))
  .nil) .nil)
  (.cons (.expr (.meth .append (.v 8) (.cons (.str "span a a 0 0") .nil)))
  (.cons (.setS (.v 8) (.int 0) (.str "works"))
  .nil))))))
  (.cons (.ite (.cmp .NotEq (.blt .repr (.cons (.v 4) .nil)) (.v 6)) (.cons (.ret (.bl false))
  .nil) .nil)
  (.cons (.fr (.n 9) (.e (.v 2)) (.cons (.ite (.cmp .NotEq (.cmp .Eq (.call jaG (.cons (.v 4) .nil)) (.call jaG (.cons (.v 9) .nil))) (.cmp .Eq (.v 4) (.v 9))) (.cons (.ret (.bl false))
  .nil) .nil)
  .nil))
  .nil))))))
  (.cons (.ret (.bl true))
  .nil)))))⟩
noncomputable def T:Tab:=⟨[jdu,jcx,jb8,jaT,jaS,ja0,jdt,jbw,jb7,jcA,jcB,jb9,jcb,jbx,jcy,jcz,jca,ji4],[(.int 8),(.int 4),(.str "0123456789"),(.int 8),(.int 24)],["MOST_SIGNS", "MOST_FIGURES", "FIGURES", "MOST_NAMES", "MOST_SPANS"],[],[jaJ,jaK,jaR,jal],[(4,jbc),(5,jbr)]⟩
def top (i:Nat):Stmt:=PySem.Challenge.pw_beatplans_k74_plans_as_lines.main.body.getD i (.Pass ⟨0,0,0,0⟩)
noncomputable abbrev s_is_name:Stmt:=top 7
noncomputable abbrev s_words_of:Stmt:=top 11
noncomputable abbrev s_number_in:Stmt:=top 12
noncomputable abbrev s_first_fault:Stmt:=top 13
noncomputable abbrev s_works_fault:Stmt:=top 14
noncomputable abbrev s_span_fault:Stmt:=top 15
noncomputable abbrev s_span_in:Stmt:=top 16
noncomputable abbrev s_plan_lines:Stmt:=top 17
noncomputable abbrev s_read_plan:Stmt:=top 18
noncomputable abbrev s_law_feed:Stmt:=top 20
noncomputable abbrev s_law_draw:Stmt:=top 21
noncomputable abbrev s_law_names:Stmt:=top 22
noncomputable abbrev s_law_cycle:Stmt:=top 23
noncomputable abbrev s_law_number:Stmt:=top 24
noncomputable abbrev s_law_span:Stmt:=top 25
noncomputable abbrev s_law_plan:Stmt:=top 26
noncomputable abbrev s_law_lines:Stmt:=top 27
noncomputable abbrev s_law:Stmt:=top 28
local macro_rules
 | `(tactic| simp! only [$xs,*])=>`(tactic| try simp only [D_v,T_v,jnw,D_bl,jnC,jnt,D_g,T_g,D_ty,T_ty,jnI,jna,jnx,jnG,jm8,jlo,jk9,jns,jnA,jnF,D_ix,T_ix,D_sl,jnu,jlp,jla,jnH,jm9,jln,D_lc,jnB,jm5,jnE,jm7,jnz,jny,jnv,jm4,jnD,jm6,jlq,jnJ,D_or,jnb,T_or,O_no,O_so,jnM,jlt,jnK,jlr,jng,jle,I_e,I_r1,I_r2,I_s,jnm,jlm,I_dk,jnc,jlc,jnf,jld,jlb,jne,S_fr,jnd,jjc,S_tr,jnL,jls,jm3,jm2,jk7,jmX,jm0,jk5,jk4,jk6,jm1,jmY,jmZ,jmW,jmR,jmU,jmP,W_lt,W_le,W_gt,jmO,jmT,jk1,jmQ,jmV,W_in,jmN,W_is,jmS,Y_bl,jmJ,jmK,jmI,jnj,jmL,jno,jlg,jnn,jnr,jnq,jnl,jnp,jmM,jk8,jk3,jk2,jlj,jlh,jli,jll,jlk,G_n,G_t,jnk,jlf,sl_0,sl_s,dr_0,dr_s,pk_nil,jie,jid,jnh,jni,jgN,jmz,jiU,jiT,jmA,jiX,jiW,List.map_cons,List.map_nil,List.cons_append,List.nil_append,List.length_cons,List.length_nil,List.set_cons_zero,List.set_cons_succ,List.zip_cons_cons,List.zip_nil_right,List.zip_nil_left,List.foldl_cons,List.foldl_nil,List.getElem?_cons_zero,List.getElem?_cons_succ,Option.join_some,ite_true,ite_false,Bool.false_eq_true,Int.toNat_natCast,$xs,*])
set_option maxHeartbeats 2000000
theorem jch (x y:Str):(x++y).cps.toList=x.cps.toList++y.cps.toList:=by
 show (x.cps++y.cps).toList=_
 simp
theorem jdM {x y:Str}(h:x.cps.toList=y.cps.toList):x=y:=Str.ext' (Array.toList_inj.mp h)
theorem jhA {c:Nat}:∀ {a b as bs:List Nat},c∉a->c∉b->a++c::as=b++c::bs->a=b/\as=bs
 | [],[],_,_,_,_,h=>⟨rfl,(List.cons.inj h).2⟩
 | [],y::b,_,_,_,hb,h=>absurd (List.cons.inj h).1 fun z=>hb (by rw [z]; simp)
 | x::a,[],_,_,ha,_,h=>absurd (List.cons.inj h).1 fun z=>ha (by rw [z]; simp)
 | x::a,y::b,_,_,ha,hb,h=>by
  obtain ⟨e,h⟩:=List.cons.inj h
  obtain ⟨e1,e2⟩:=jhA (fun z=>ha (List.mem_cons_of_mem _ z)) (fun z=>hb (List.mem_cons_of_mem _ z)) h
  exact ⟨by rw [e,e1],e2⟩
theorem jgJ {y a b:Str}{r:List Str}:Str.join y (a::b::r)=a++y++Str.join y (b::r):=rfl
theorem jes {c:Nat}:∀ {ws vs:List Str},ws≠[]->vs≠[]->(∀ x∈ws,c∉x.cps.toList)->(∀ x∈vs,c∉x.cps.toList)->Str.join ⟨#[c]⟩ ws=Str.join ⟨#[c]⟩ vs->ws=vs
 | [],_,h,_,_,_,_=>absurd rfl h
 | _,[],_,h,_,_,_=>absurd rfl h
 | [x],[y],_,_,_,_,h=>by
  have:x=y:=h
  rw [this]
 | [x],y::z::r,_,_,hx,_,h=>by
  have e:x=y++⟨#[c]⟩++Str.join ⟨#[c]⟩ (z::r):=h
  refine absurd ?_ (hx x (by simp))
  rw [e,jch,jch]
  simp
 | x::z::r,[y],_,_,_,hy,h=>by
  have e:x++⟨#[c]⟩++Str.join ⟨#[c]⟩ (z::r)=y:=h
  refine absurd ?_ (hy y (by simp))
  rw [<- e,jch,jch]
  simp
 | x::z::r,y::w::q,_,_,hx,hy,h=>by
  have e:(x++⟨#[c]⟩++Str.join ⟨#[c]⟩ (z::r)).cps.toList=(y++⟨#[c]⟩++Str.join ⟨#[c]⟩ (w::q)).cps.toList:=congrArg (fun s:Str=>s.cps.toList) h
  rw [jch,jch,jch,jch] at e
  have e':x.cps.toList++c::(Str.join ⟨#[c]⟩ (z::r)).cps.toList=y.cps.toList++c::(Str.join ⟨#[c]⟩ (w::q)).cps.toList:=by simpa using e
  obtain ⟨e1,e2⟩:=jhA (hx x (by simp)) (hy y (by simp)) e'
  have:=jes (ws:=z::r) (vs:=w::q) (by simp) (by simp) (fun t ht=>hx t (List.mem_cons_of_mem _ ht)) (fun t ht=>hy t (List.mem_cons_of_mem _ ht)) (jdM e2)
  rw [jdM e1,this]
theorem jjv:(" " : Str)=⟨#[32]⟩:=by decide +kernel
theorem jge (x:Str)(c:Nat):Txt.split x ⟨#[c]⟩≠[]:=by
 intro h
 have e:=StrLaws.join_split x ⟨#[c]⟩
 unfold Txt.split at h
 split at h
 ·cases h
 ·split at h
  ·cases h
  ·rw [StrLaws.partsBetween_eq] at h
   obtain ⟨p,q,e⟩:=StrLaws.partsFrom_ne x (⟨#[c]⟩:Str).length 0 (Builtin.Str.occurrences x ⟨#[c]⟩ 0 x.length (x.length + 1))
   rw [h] at e; cases e
theorem jeI {ws:List Str}(h0:ws≠[])(h:∀ x∈ws,32∉x.cps.toList):Txt.split (Str.join " " ws) " " = ws:=by
 rw [jjv]
 exact jes (jge _ _) h0 (fun x hx=>StrLaws.split_free _ _ x hx) h (StrLaws.join_split _ _)

set_option maxHeartbeats 1000000
section
variable {k:Nat}{G:Gp}{Q:K1}{X:KX}
theorem jaj {f c:Addr}{m:Int}(hf:Fd G f c)(h0:0 < m)(h1:m < 1073741824)(q:∀ (r:Int) (G':Gp),0<=r->r < m->Fd G' f c->Sm f G G'->Q (.int r) G'):jaa T (k + 1) jab [.loc f,.int m] G Q X:=by
 obtain ⟨ns,a,l,t,g1,g2,hn⟩:=hf.ex
 have fin:∀ (z a' l' t':Int),Q (.int (z % m)) (gup G f (.dK (fdU c a' l' t'))):=fun z a' l' t'=>q _ _ (Int.emod_nonneg z (by omega)) (Int.emod_lt_of_pos z h0) (Fd.put ⟨rfl⟩ g1 g2 hn) Sm.put
 have hlen:0 < ns.length:=List.length_pos_iff.mpr hn
 have gc:∀ kvs,gup G f (.dK kvs) c=some (.lst (ns.map .int)):=fun kvs=>by rw [jaZ (fun z=>by rw [z,g1] at g2; cases g2)]; exact g2
 obtain ⟨z,hz,ez⟩:=jeB (l:=ns) (r:=a % ns.length) (Int.emod_nonneg _ (by omega)) (Int.emod_lt_of_pos _ (by omega))
 refine ⟨rfl,?_⟩
 simp! only [jcB,jad,List.replicate,ix_d g1 jht,jgh g1,jcN,jhf,jeu,true_and,jdU (gc _),List.length_map,ix_l (gc _) ((jd3 U.int ns _).trans (congrArg _ ez))]
 have cut:∀ (l' a' t':Int),(0 < m/\0 < m/\m < 1073741824/\Q (.int (l' % m)) (gup G f (.dK (fdU c a' (l' / m) t')))):=fun l' a' t'=>⟨h0,h0,by omega,fin _ _ _ _⟩
 by_cases hl:l=0
 ·rw [if_pos (by simpa using hl)]
  refine ⟨by omega,by constructor <;> decide,?_⟩
  by_cases hc:z < 10 ^ Int.toNat 18
  ·rw [if_pos (by simpa using hc)]
   exact ⟨by decide,.inl (by decide),.inr (by decide),by decide,by decide,by decide,.inl (by decide),.inr (by decide),by decide,by decide,by decide,h0,fin _ _ _ _⟩
  ·rw [if_neg (by simpa using hc)]
   exact cut _ _ _
 ·rw [if_neg (by simpa using hl)]
  exact cut _ _ _
theorem jiy {a:Addr}{ns:List Int}(ha:G a=some (.fro (ns.map .int)))(hl:ns.length<=63)(q:∀ (f c:Addr) (G':Gp),Fd G' f c->Q (.loc f) G'):jaa T (k + 1) jct [.loc a] G Q X:=by
 have hcl:(cut ns none (some 63)).length<=63:=by rw [show (63:Int)=((63:Nat):Int) from rfl,jhz]; simp; omega
 refine ⟨rfl,?_⟩
 simp! only [jcA,jad,List.replicate,sl_f ha,jc0]
 intro p1 G1 n1
 rw [it_l n1.at]
 intro p2 G2 n2
 refine ⟨by decide,fun p3 G3 n3=>?_⟩
 simp! only [jmq (n3.sa _ _ (n2.sa _ _ (n1.sa _ _ ha)))]
 obtain ⟨zs,ez,lz,hz⟩:∃ zs:List Int,(List.replicate (Int.toNat (if decide (((ns.map U.int).length:Int)=0)=true then 1 else 0)) [U.int 0]).flatten=zs.map U.int/\zs.length<=1/\(ns=[]->zs≠[]):=by
  by_cases h:ns=[]
  ·subst h
   exact ⟨[0],rfl,by decide,fun _=>by simp⟩
  ·refine ⟨[],?_,by decide,fun z=>absurd z h⟩
   rw [if_neg (by simpa using h)]
   rfl
 refine ⟨_,n3.at,by split <;> decide,by split <;> decide,by split <;> decide,fun p4 G4 n4=>?_⟩
 rw [ez] at n4
 refine ⟨_,_,n4.sa _ _ (n3.sa _ _ n2.at),n4.at,?_,fun p5 G5 n5=>⟨by decide,fun p6 G6 n6=>?_⟩⟩
 ·rw [List.length_map,List.length_map]
  exact Nat.le_trans (Nat.add_le_add hcl lz) (by decide:63 + 1<=sizeLine)
 rw [jkt] at n6
 rw [<- List.map_append] at n5
 refine q _ p5 _ ⟨_,0,0,0,n6.at,n6.sa _ _ n5.at,fun z=>?_⟩
 obtain ⟨z1,z2⟩:=List.append_eq_nil_iff.mp z
 refine hz ?_ z2
 rw [show (63:Int)=((63:Nat):Int) from rfl,jhz] at z1
 cases ns with
 | nil=>rfl
 | cons _ _=>cases z1
end

set_option maxHeartbeats 2000000
structure Nm (x:Str):Prop where
 l8:x.length<=8
 ch:∀ c∈x.cps.toList,c < 128
 lw:∀ c∈x.cps.toList,97<=c
 up:∀ c∈x.cps.toList,c<=122
 ne:0 < x.length
noncomputable def menu:List Str:=["a", "ab", "abc", "works", "span", "apart", "none", "round", "held", "zzzzzzzz", "undo", "b", "ba", "plan", "x"]
theorem jiC:∀ x∈menu,Nm x:=by
 have h:∀ x∈menu,x.length<=8/\(∀ c∈x.cps.toList,c < 128)/\(∀ c∈x.cps.toList,97<=c)/\(∀ c∈x.cps.toList,c<=122)/\0 < x.length:=by decide +kernel
 exact fun x hx=>⟨(h x hx).1,(h x hx).2.1,(h x hx).2.2.1,(h x hx).2.2.2.1,(h x hx).2.2.2.2⟩
noncomputable def nm3 (first step:Int)(k:Nat):Str:=menu.getD ((first + step * (k:Int)) % 15).toNat "a"
theorem jfu {first step:Int}{n:Nat}(h0:0<=first)(h1:first < 15)(hs:step∈([1,2,4,7,8,11,13,14]:List Int))(hn:n<=8):((List.range n).map (nm3 first step)).Nodup:=by
 have key:∀ f∈List.range 15,∀ st∈([1,2,4,7,8,11,13,14]:List Int),((List.range 8).map (nm3 (f:Int) st)).Nodup:=by decide +kernel
 have h2:=key first.toNat (List.mem_range.mpr (by omega)) step hs
 rw [Int.toNat_of_nonneg h0] at h2
 have e:(List.range n).map (nm3 first step)=((List.range 8).map (nm3 first step)).take n:=by
  rw [<- List.map_take,List.take_range,Nat.min_eq_left hn]
 rw [e]
 exact h2.sublist (List.take_sublist _ _)
theorem jdj {α:Type}:∀ {l:List α} {i:Nat} {x:α},l.Nodup->x∉l->(l.set i x).Nodup
 | [],_,_,_,_=>by simp
 | a::r,0,x,h,hx=>by
  rw [List.set_cons_zero]
  exact List.nodup_cons.mpr ⟨fun m=>hx (List.mem_cons_of_mem _ m),(List.nodup_cons.mp h).2⟩
 | a::r,i + 1,x,h,hx=>by
  rw [List.set_cons_succ]
  have h2:=List.nodup_cons.mp h
  refine List.nodup_cons.mpr ⟨fun m=>?_,jdj h2.2 fun m=>hx (List.mem_cons_of_mem _ m)⟩
  rcases List.mem_or_eq_of_mem_set m with z | z
  ·exact h2.1 z
  ·exact hx (by rw [z]; simp)
theorem jd7 {x:Str}{l:List Str}:((l.map U.str).any fun y=>eqF y (.str x))=decide (x∈l):=by
 induction l with
 | nil=>simp
 | cons y r ih=>
  rw [List.map_cons,List.any_cons,ih]
  show ((y == x) || _)=_
  by_cases h:x=y
  ·subst h; simp
  ·have:¬ y=x:=fun z=>h z.symm
   simp [h,this]
structure Nms (xs:List Str):Prop where
 ok:∀ x∈xs,Nm x
 nd:xs.Nodup
 one:∃ w,∀ x∈xs,x∈menu\/x=w
section
variable {k:Nat}{G:Gp}{Q:K1}{X:KX}
theorem jgB {f c:Addr}{m:Nat}(hf:Fd G f c)(h0:0 < m)(h1:m<=8)(q:∀ (xs:List Str) (G':Gp),xs.length=m->Nms xs->Fd G' f c->Sm f G G'->Q (.tup (xs.map .str)) G'):jaa T (k + 2) jbX [.loc f,.int m] G Q X:=by
 refine ⟨rfl,?_⟩
 simp! only [jb9,jad,List.replicate]
 refine ⟨by decide,fun p G1 n1=>?_⟩
 simp! only [jb0 n1.at,jd6 n1.at]
 refine ⟨by decide,fun G2 p2=>?_⟩
 have hp:=hf.away n1
 have f2:=(hf.new n1).off hp p2
 have s2:Sm f G G2:=Sm.wr Sm.refl n1.no n1.sa.sm p2
 have g2:G2 p=some (.lst (menu.map .str)):=p2.at
 refine jaj f2 (by decide) (by decide) fun first G3 a3 b3 f3 s3=>?_
 have g3:=s3 _ _ hp.1 g2
 refine ⟨by decide,fun p4 G4 n4=>jaj (f3.new n4) (by decide) (by decide) fun r5 G5 a5 b5 f5 s5=>?_⟩
 have g5:=s5 _ _ hp.1 (n4.sa _ _ g3)
 refine jaQ [1,2,4,7,8,11,13,14] (s5 _ _ (f3.away n4).1 n4.at) a5 b5 fun step hs=>?_
 have s5':=(s2.trans s3).nw n4 |>.trans s5
 refine ⟨by omega,by omega,by rw [jbm]; exact Nat.le_trans h1 (by decide),?_⟩
 have fin:∀ (xs:List Str) (p6:Addr) (G6:Gp),xs.length=m->Nms xs->Fd G6 f c->Sm f G G6->G6 p6=some (.lst (xs.map .str))->itU (.loc p6) G6 fun xs _=>Q (.tup xs) G6:=fun xs p6 G6 e1 e2 e3 e4 e5=>by
  rw [it_l e5]
  exact q xs G6 e1 e2 e3 e4
 refine jbI (fun i acc G'=>G'=G5/\∃ xs:List Str,acc=xs.map .str/\xs.length=i/\(∀ x∈xs,x∈menu)/\xs=(List.range i).map (nm3 first step)) ?_ ?_ ⟨rfl,[],rfl,rfl,(fun _ h=>(nomatch h)),rfl⟩
 ·rintro acc G' ⟨rfl,xs,rfl,hl,hm,hxe⟩
  rw [jbm] at hl hxe
  have hnd:xs.Nodup:=by rw [hxe]; exact jfu a3 b3 hs (by omega)
  have hx:∀ x∈xs,Nm x:=fun x hx=>jiC x (hm x hx)
  have hN:Nms xs:=⟨hx,hnd, "a",fun x hx=>.inl (hm x hx)⟩
  refine ⟨trivial,fun p6 G6 n6=>?_⟩
  have f6:=f5.new n6
  have h6:=f5.away n6
  have s6:=s5'.nw n6
  refine jaj f6 (by decide) (by decide) fun r7 G7 a7 b7 f7 s7=>?_
  have g7:=s7 _ _ h6.1 n6.at
  simp! only []
  by_cases hr:r7=0
  ·rw [if_pos (by simpa using hr)]
   refine jaj f7 (by decide) (by decide) fun r8 G8 a8 b8 f8 s8=>?_
   have g8:=s8 _ _ h6.1 g7
   simp! only []
   refine ⟨by omega,by omega,by rw [jbm]; exact Nat.le_trans (by omega:(1 + r8).toNat<=8) (by decide),?_⟩
   refine jbI (fun i acc G'=>Fd G' f c/\Sm f G8 G'/\∃ zs:List Str,acc=zs.map .str/\zs.length=i/\∀ x∈zs,x.length=1/\∀ c∈x.cps.toList,c < 128/\97<=c/\c<=122) ?_ ?_ ⟨f8,Sm.refl,[],rfl,rfl,fun _ h=>nomatch h⟩
   ·rintro acc G9 ⟨f9,s9,zs,rfl,lz,hz⟩
    rw [jbm] at lz
    refine ⟨trivial,fun pa Ga na=>?_⟩
    have fa:=f9.new na
    have ga:=na.sa _ _ (s9 _ _ h6.1 g8)
    have sa:=(s6.trans (s7.trans (s8.trans s9))).nw na
    have hnew:Nm (Str.join "" zs):=by
     refine ⟨?_,fun c hc=>?_,fun c hc=>?_,fun c hc=>?_,?_⟩
     ·rw [jaI zs fun t ht=>(hz t ht).1]; omega
     ·obtain ⟨t,ht,hd⟩:=(jaH zs c).mp hc
      exact ((hz t ht).2 c hd).1
     ·obtain ⟨t,ht,hd⟩:=(jaH zs c).mp hc
      exact ((hz t ht).2 c hd).2.1
     ·obtain ⟨t,ht,hd⟩:=(jaH zs c).mp hc
      exact ((hz t ht).2 c hd).2.2
     ·rw [jaI zs fun t ht=>(hz t ht).1]; omega
    have hsum:(zs.map (·.length)).sum + zs.length<=1048576:=by
     have:∀ l:List Str,(∀ x∈l,x.length=1)->(l.map (·.length)).sum=l.length:=fun l=>by
      induction l with
      | nil=>intro _; rfl
      | cons x r ih=>
       intro h
       rw [List.map_cons,List.sum_cons,List.length_cons,ih fun y hy=>h y (List.mem_cons_of_mem _ hy),h x (by simp)]
       omega
     rw [this zs fun t ht=>(hz t ht).1]; omega
    simp! only [mt_join,jfG na.at]
    refine ⟨by decide,hsum,in_l ga rfl (jb5 _) ?_⟩
    rw [jd7]
    split
    ·rename_i hni
     have hni':Str.join "" zs∉xs:=by simpa using hni
     refine ⟨by decide,hsum,jaj fa (by omega) (by omega) fun r G' a' b' f' s'=>?_⟩
     have g':=s' _ _ h6.1 ga
     rw [jjz g' (show ixN _ r=some r.toNat from by
      rw [List.length_map]
      obtain ⟨j,rfl⟩:=Int.eq_ofNat_of_zero_le a'
      exact jfI (by omega))]
     intro Gb pb
     have e:(xs.map U.str).set r.toNat (.str (Str.join "" zs))=(xs.set r.toNat (Str.join "" zs)).map .str:=by rw [List.map_set]
     rw [e] at pb
     refine fin _ p6 Gb (by rw [List.length_set]; exact hl) ⟨fun x hx'=>?_,jdj hnd hni',Str.join "" zs,fun x hx'=>?_⟩ (f'.off h6 pb) (Sm.wr s5' n6.no (sa.trans s') pb) pb.at
     ·rcases List.mem_or_eq_of_mem_set hx' with z | z
      ·exact hx x z
      ·rw [z]; exact hnew
     ·rcases List.mem_or_eq_of_mem_set hx' with z | z
      ·exact .inl (hm x z)
      ·exact .inr z
    ·exact fin xs p6 Ga hl hN fa sa ga
   ·rintro i x acc G9 K hx9 ⟨f9,s9,zs,rfl,lz,hz⟩ hk _
    refine ⟨trivial,jaj f9 (by decide) (by decide) fun r G' a' b' f' s'=>?_⟩
    have hb:∀ c∈("abcdefghijklmnopqrstuvwxyz" : Str).cps.toList,c < 128/\97<=c/\c<=122:=by decide +kernel
    have e26:("abcdefghijklmnopqrstuvwxyz" : Str).cps.toList.length=26:=by decide +kernel
    obtain ⟨d,hd,ed⟩:=jeB (l:=("abcdefghijklmnopqrstuvwxyz" : Str).cps.toList) a' (by rw [e26]; exact b')
    refine ix_s (by decide +kernel) ed (hk _ _ ⟨f',s9.trans s',zs++[⟨#[d]⟩],by simp,by simp [lz],fun z hz'=>?_⟩)
    rcases List.mem_append.mp hz' with z' | z'
    ·exact hz z z'
    ·rw [List.mem_singleton.mp z']
     exact ⟨rfl,fun e he=>by
      have:e=d:=by simpa using he
      rw [this]; exact hb d hd⟩
  ·rw [if_neg (by simpa using hr)]
   exact fin xs p6 G7 hl hN f7 (s6.trans s7) g7
 ·rintro i x acc G' K hx ⟨rfl,xs,rfl,hl,hn,hxe⟩ hk _
  obtain ⟨hi,rfl⟩:=jbQ hx
  simp! only []
  have e0:0<=(first + step * (i:Int)) % 15:=Int.emod_nonneg _ (by decide)
  have e1:(first + step * (i:Int)) % 15 < 15:=Int.emod_lt_of_pos _ (by decide)
  have hlt:((first + step * (i:Int)) % 15).toNat < menu.length:=by show _ < 15; omega
  have ey:menu[((first + step * (i:Int)) % 15).toNat]?=some (nm3 first step i):=by unfold nm3; simp [List.getD,hlt]
  have ea:atI menu ((first + step * (i:Int)) % 15)=some (nm3 first step i):=by
   have:=jax ey
   rwa [Int.toNat_of_nonneg e0] at this
  have hy:=List.mem_of_getElem? ey
  refine ⟨trivial,.inr (by constructor <;> omega),by decide,?_⟩
  rw [ix_l g5 ((jd3 U.str menu _).trans (congrArg _ ea))]
  exact hk _ _ ⟨rfl,xs++[nm3 first step i],by simp,by simp [hl],fun z hz=>by
   rcases List.mem_append.mp hz with z' | z'
   ·exact hn z z'
   ·rw [List.mem_singleton.mp z']; exact hy,by rw [hxe,List.range_succ,List.map_append]; rfl⟩
theorem jgC {f c:Addr}(hf:Fd G f c)(q:∀ (P:Int) (G':Gp),1<=P->P<=600->Fd G' f c->Sm f G G'->Q (.int P) G'):jaa T (k + 2) jbZ [.loc f] G Q X:=by
 refine ⟨rfl,?_⟩
 simp! only [jcb,jad,List.replicate]
 refine ⟨by decide,fun p G1 n1=>jaj (hf.new n1) (by decide) (by decide) fun r G2 a2 b2 f2 s2=>?_⟩
 refine jaQ [1,2,3,4,5,6,7,8,10,12,30,60,120,600] (s2 _ _ (hf.away n1).1 n1.at) a2 b2 fun z hz=>?_
 have:1<=z/\z<=600:=by simp only [List.mem_cons,List.not_mem_nil,or_false] at hz; omega
 exact q z _ this.1 this.2 f2 (n1.sa.sm.trans s2)
theorem jdh {f c:Addr}{P:Int}(hf:Fd G f c)(h1:1<=P)(h2:P<=600)(q:∀ (z:Int) (G':Gp),0<=z->z<=9999->Fd G' f c->Sm f G G'->Q (.int z) G'):jaa T (k + 2) jaX [.loc f,.int P] G Q X:=by
 refine ⟨rfl,?_⟩
 simp! only [jbx,jad,List.replicate]
 refine jaj hf (by decide) (by decide) fun w G1 a1 b1 f1 s1=>?_
 simp! only []
 by_cases hw:w < 3
 ·rw [if_pos (by simpa using hw)]
  exact jaj f1 (by omega) (by omega) fun r G2 a2 b2 f2 s2=>q r _ a2 (by omega) f2 (s1.trans s2)
 rw [if_neg (by simpa using hw)]
 by_cases hw':w=3
 ·rw [if_pos (by simpa using hw')]
  refine ⟨.inl (by decide),.inl (by decide),by decide,fun p G2 n2=>jaj (f1.new n2) (by decide) (by decide) fun r G3 a3 b3 f3 s3=>?_⟩
  refine jaQ [0,1,P,2 * P - 1,2 * P] (s3 _ _ (f1.away n2).1 n2.at) a3 b3 fun z hz=>?_
  have:0<=z/\z<=9999:=by simp only [List.mem_cons,List.not_mem_nil,or_false] at hz; omega
  exact q z _ this.1 this.2 f3 ((s1.nw n2).trans s3)
 ·rw [if_neg (by simpa using hw')]
  refine ⟨.inl (by decide),by decide,fun p G2 n2=>?_⟩
  refine jaQ [3 * P + 1,10000] n2.at (by omega) (by show w - 4 < 2; omega) fun z hz=>?_
  have:0 < z/\z<=10000:=by simp only [List.mem_cons,List.not_mem_nil,or_false] at hz; omega
  exact jaj (f1.new n2) this.1 (by omega) fun r G3 a3 b3 f3 s3=>q r _ a3 (by omega) f3 ((s1.nw n2).trans s3)
end

set_option maxHeartbeats 2000000
structure Spn where
 w:Str
 o:Nat
 t:Nat
 lo:Int
 hi:Int
noncomputable def Spn.u (s:Spn):U:=.tup [.str s.w,.int s.o,.int s.t,.int s.lo,.int s.hi]
structure Spn.Ok (W:Nat)(s:Spn):Prop where
 w:s.w = "apart" \/ s.w = "span"
 o:s.o < W
 t:s.t < W
 lo:0<=s.lo/\s.lo<=9999
 hi:0<=s.hi/\s.hi<=9999
 le:s.w = "span" -> s.lo<=s.hi
theorem jdH {x:Str}(h:x = "apart" \/ x = "span"):x.length<=8/\∀ c∈x.cps.toList,c < 128:=by
 rcases h with rfl | rfl
 ·exact ⟨by decide +kernel,by decide +kernel⟩
 ·exact ⟨by decide +kernel,by decide +kernel⟩
theorem Spn.Ok.sml {W:Nat}{s:Spn}(h:s.Ok W):Sml 1 s.u:=Sml.tup fun u hu=>by
 simp only [List.mem_cons,List.not_mem_nil,or_false] at hu
 rcases hu with rfl | rfl | rfl | rfl | rfl
 ·exact Sml.str (jdH h.w).2
 all_goals exact Sml.int _
theorem jkN {i:Int}(h:-100000<=i/\i<=100000):Ft 1921 0 (.int i):=Ft.int (Nat.lt_of_le_of_lt (show i.natAbs<=100000 by omega) (by decide))
theorem Spn.Ok.ft {W:Nat}{s:Spn}(h:s.Ok W)(hW:W<=8):Ft 10000 1 s.u:=by
 have:=h.o
 have:=h.t
 have:=h.lo
 have:=h.hi
 refine Ft.tup (n:=1921) (m:=5) (Nat.le_refl _) (fun u hu=>?_) (by decide)
 simp only [List.mem_cons,List.not_mem_nil,or_false] at hu
 rcases hu with rfl | rfl | rfl | rfl | rfl
 ·exact (Ft.str (m:=8) (jdH h.w).1 (jdH h.w).2).mono (by decide) (Nat.le_refl _)
 all_goals exact jkN (by omega)
section
variable {k:Nat}{G:Gp}{Q:K1}{X:KX}
theorem jiw {f c:Addr}{P:Int}{W o t:Nat}(hf:Fd G f c)(h1:1<=P)(h2:P<=600)(ho:o < W)(ht:t < W)(q:∀ (s:Spn) (G':Gp),s.Ok W->Fd G' f c->Sm f G G'->Q s.u G'):jaa T (k + 3) jbp [.loc f,.int o,.int t,.int P] G Q X:=by
 refine ⟨rfl,?_⟩
 simp! only [jcy,jad,List.replicate]
 refine jdh hf h1 h2 fun lo G1 a1 b1 f1 s1=>?_
 refine jaj f1 (by decide) (by decide) fun r G2 a2 b2 f2 s2=>?_
 simp! only []
 by_cases hr:r=0
 ·rw [if_pos (by simpa using hr)]
  refine jdh f2 h1 h2 fun hi G3 a3 b3 f3 s3=>⟨by decide,?_⟩
  exact q ⟨"apart",o,t,lo,hi⟩ _ ⟨.inl rfl,ho,ht,⟨a1,b1⟩,⟨a3,b3⟩,fun z=>absurd (show ("apart" : Str) = "span" from z) (by decide +kernel)⟩ f3 (s1.trans (s2.trans s3))
 ·rw [if_neg (by simpa using hr)]
  refine ⟨by decide,by decide,.inl (by decide),by decide,fun p G3 n3=>jaj (f2.new n3) (by decide) (by decide) fun r4 G4 a4 b4 f4 s4=>?_⟩
  refine jaQ [0,0,1,2,P / 2,P - 1,3 * P,9999] (s4 _ _ (f2.away n3).1 n3.at) a4 b4 fun z hz=>?_
  have hz':0<=z:=by simp only [List.mem_cons,List.not_mem_nil,or_false] at hz; omega
  simp! only []
  refine ⟨by decide,q ⟨"span",o,t,lo,if lo + z < 9999 then lo + z else 9999⟩ _ ⟨.inr rfl,ho,ht,⟨a1,b1⟩,by dsimp only; split <;> omega,fun _=>by dsimp only; split <;> omega⟩ f4 ((s1.trans s2).nw n3 |>.trans s4)⟩
theorem jix {f c : Addr}{P : Int}(hf : Fd G f c)(h1 : 1 <= P)(h2 : P <= 600)(q : ∀ (xs : List Str) (ss : List Spn) (G' : Gp), 0 < xs.length -> xs.length <= 8 -> Nms xs -> ss.length <= 24 -> (∀ s ∈ ss, s.Ok xs.length) -> Fd G' f c -> Sm f G G' -> Q (.tup [.tup (xs.map .str), .tup (ss.map Spn.u)]) G') :
    jaa T (k + 4) jcs [.loc f, .int P] G Q X := by
  refine ⟨rfl, ?_⟩
  simp! only [jcz, jad, List.replicate]
  refine ⟨by decide, fun p G1 n1 => jaj (hf.new n1) (by decide) (by decide) fun r G2 a2 b2 f2 s2 => ?_⟩
  refine jaQ [1, 2, 2, 3, 3, 4, 5, 8] (s2 _ _ (hf.away n1).1 n1.at) a2 b2 fun W' hW => ?_
  have hW' : 1 <= W' /\ W' <= 8 := by simp only [List.mem_cons, List.not_mem_nil, or_false] at hW; omega
  obtain ⟨W, rfl⟩ := Int.eq_ofNat_of_zero_le (show 0 <= W' by omega)
  refine jgB f2 (by omega) (by omega) fun xs G3 l3 x3 f3 s3 => ?_
  have S3 : Sm f G G3 := n1.sa.sm.trans (s2.trans s3)
  refine ⟨by decide, fun p4 G4 n4 => ⟨by decide, fun p5 G5 n5 => jaj ((f3.new n4).new n5) (by decide) (by decide) fun r6 G6 a6 b6 f6 s6 => ?_⟩⟩
  have aw := f3.away n4
  have S6 : Sm f G G6 := ((S3.nw n4).nw n5).trans s6
  refine jaQ [0, 1, 2, 3, 4, 6, 9, 24] (s6 _ _ ((f3.new n4).away n5).1 n5.at) a6 b6 fun m hm => ?_
  have hm' : 0 <= m /\ m <= 24 := by simp only [List.mem_cons, List.not_mem_nil, or_false] at hm; omega
  have g6 : G6 p4 = some (.lst []) := s6 _ _ aw.1 (n5.sa _ _ n4.at)
  simp! only []
  refine ⟨by omega, by omega, ?_⟩
  refine jaE (fun i ς G' => ∃ (ss : List Spn) (o : Option U), ς = [some (.loc f), some (.int P), some (.int (W : Int)), some (.tup (xs.map .str)), some (.loc p4), o] /\ Fd G' f c /\ Sm f G G' /\ G' p4 = some (.lst (ss.map Spn.u)) /\ ss.length = i /\ ∀ s ∈ ss, s.Ok W) ?_ ?_ ⟨[], _, rfl, f6, S6, g6, rfl, fun _ h => nomatch h⟩
  · rintro ς G7 ⟨ss, o, rfl, f7, s7, g7, l7, o7⟩
    rw [jbm] at l7
    simp! only []
    refine ⟨trivial, ?_⟩
    rw [it_l g7]
    exact ⟨by decide, q xs ss _ (by omega) (by omega) x3 (by omega) (by rw [l3]; exact o7) f7 s7⟩
  · rintro i x ς G7 K hx ⟨ss, o, rfl, f7, s7, g7, l7, o7⟩ hk
    obtain ⟨hi, rfl⟩ := jbQ hx
    simp! only []
    have add : ∀ (s : Spn) (G8 : Gp), s.Ok W -> Fd G8 f c -> Sm f G G8 -> G8 p4 = some (.lst (ss.map Spn.u)) -> ∀ o, ((ss.map Spn.u).length < sizeLine /\ putO G8 p4 (.lst (ss.map Spn.u ++ [s.u])) fun G' => K [some (.loc f), some (.int P), some (.int (W : Int)), some (.tup (xs.map .str)), some (.loc p4), o] G') := fun s G8 e1 e2 e3 e4 o => by
      refine ⟨?_, fun G9 p9 => ?_⟩
      · rw [List.length_map]
        exact Nat.lt_of_lt_of_le (show ss.length < 25 by omega) (by decide)
      · refine hk _ _ ⟨ss ++ [s], _, rfl, e2.off aw p9, Sm.wr S3 n4.no e3 p9, by rw [List.map_append]; exact p9.at, by simp [l7], fun z hz => ?_⟩
        rcases List.mem_append.mp hz with z' | z'
        · exact o7 z z'
        · rw [List.mem_singleton.mp z']; exact e1
    have fresh : ∀ (o : Option U) (G8 : Gp), Fd G8 f c -> Sm f G G8 -> G8 p4 = some (.lst (ss.map Spn.u)) -> (match mtU .append (.loc p4) G8 with
        | some _ => jaa T (k + 3) jab [.loc f, .int (W : Int)] G8 (fun x G1 => jaa T (k + 3) jab [.loc f, .int (W : Int)] G1 (fun x_1 G1 => jaa T (k + 3) jbp [.loc f, x, x_1, .int P] G1 (fun x_2 G1 => jaF .append (.loc p4) [x_2] G1 fun _ G1 => K [some (.loc f), some (.int P), some (.int (W : Int)), some (.tup (xs.map .str)), some (.loc p4), o] G1) X) X) X
        | none => False) := fun o G8 e1 e2 e3 => by
      rw [jb0 e3]
      refine jaj e1 (by omega) (by omega) fun r9 G9 a9 b9 f9 s9 => jaj f9 (by omega) (by omega) fun ra Ga aa ba fa sa => ?_
      obtain ⟨o1, rfl⟩ := Int.eq_ofNat_of_zero_le a9
      obtain ⟨o2, rfl⟩ := Int.eq_ofNat_of_zero_le aa
      refine jiw (W := W) fa h1 h2 (by omega) (by omega) fun s Gb ob fb sb => ?_
      have gb := sb _ _ aw.1 (sa _ _ aw.1 (s9 _ _ aw.1 e3))
      rw [jd6 gb]
      exact add s Gb ob fb (e2.trans (s9.trans (sa.trans sb))) gb _
    refine ⟨trivial, by decide, fun pb Gb nb => ?_⟩
    have gb := nb.sa _ _ g7
    have fb := f7.new nb
    have sb := s7.nw nb
    simp! only []
    refine jkQ gb nb.at (fun u hu => ?_) (show 1 < 100 by decide) ?_
    · obtain ⟨s, hs, rfl⟩ := List.mem_map.mp hu
      exact (o7 s hs).sml
    by_cases hss : ss = []
    · rw [if_neg (by rw [hss]; simp)]
      exact fresh _ Gb fb sb gb
    · rw [if_pos (by simpa using hss)]
      refine jaj fb (by decide) (by decide) fun r8 G8 a8 b8 f8 s8 => ?_
      have g8 := s8 _ _ aw.1 gb
      have hl : 0 < ss.length := List.length_pos_iff.mpr hss
      simp! only []
      by_cases hr : r8 = 0
      · rw [if_pos (by simpa using hr)]
        simp! only [jb0 g8, jdU g8, List.length_map]
        refine jaj f8 (by omega) (by omega) fun r9 G9 a9 b9 f9 s9 => ?_
        have g9 := s9 _ _ aw.1 g8
        obtain ⟨s, hs, es⟩ := jeB (l := ss) a9 b9
        rw [ix_l g9 ((jd3 Spn.u ss _).trans (congrArg _ es)), jd6 g9]
        exact add s G9 (o7 s hs) f9 (sb.trans (s8.trans s9)) g9 _
      · rw [if_neg (by simpa using hr)]
        exact fresh _ G8 f8 (sb.trans s8) g8
end

set_option maxHeartbeats 4000000
noncomputable def nstr (t:Int):Str:=(toString t:String)
theorem jfS:∀ (n m:Nat),m<=n->0 < m->((Nat.toDigits 10 m).map Char.toNat).head?≠some 48
 | 0,m,h,h0=>by omega
 | n + 1,m,h,h0=>by
  by_cases hm:m < 10
  ·rw [Nat.toDigits_of_lt_base hm]
   have:∀ m∈List.range 10,0 < m->([Nat.digitChar m].map Char.toNat).head?≠some 48:=by decide
   exact this m (List.mem_range.mpr hm) h0
  ·rw [Nat.toDigits_of_base_le (by decide) (by omega),List.map_append]
   have ih:=jfS n (m / 10) (by omega) (by omega)
   cases hc:(Nat.toDigits 10 (m / 10)).map Char.toNat with
   | nil=>exact absurd (List.map_eq_nil_iff.mp hc) Nat.toDigits_ne_nil
   | cons a l=>
    rw [hc] at ih
    rw [List.cons_append]
    exact ih
theorem jft {t:Int}(h0:0<=t)(h1:t<=9999):(1<=(nstr t).length/\(nstr t).length<=4)/\(∀ c∈(nstr t).cps.toList,48<=c/\c<=57)/\((nstr t).length<=1\/(nstr t).cps.toList.head?≠some 48):=by
 obtain ⟨m,rfl⟩:=Int.eq_ofNat_of_zero_le h0
 have e:nstr (m:Int)=⟨((Nat.toDigits 10 m).map Char.toNat).toArray⟩:=PyProof.Rows.text_ofNat m
 have el:(nstr (m:Int)).length=(Nat.toDigits 10 m).length:=by
  rw [e]
  show (((Nat.toDigits 10 m).map Char.toNat).toArray).size=_
  rw [List.size_toArray,List.length_map]
 have ec:(nstr (m:Int)).cps.toList=(Nat.toDigits 10 m).map Char.toNat:=by rw [e]
 rw [el,ec]
 refine ⟨⟨Nat.length_toDigits_pos,(Nat.length_toDigits_le_iff (by decide) (by decide)).mpr (by omega)⟩,fun c hc=>?_,?_⟩
 ·obtain ⟨d,hd,rfl⟩:=List.mem_map.mp hc
  have:=Nat.isDigit_of_mem_toDigits (by decide) (by decide) hd
  unfold Char.isDigit at this
  obtain ⟨a,b⟩:=(Bool.and_eq_true _ _).mp this |> fun z=>(⟨of_decide_eq_true z.1,of_decide_eq_true z.2⟩:_/\_)
  exact ⟨UInt32.le_iff_toNat_le.mp a,UInt32.le_iff_toNat_le.mp b⟩
 ·by_cases hm:m < 10
  ·exact .inl ((Nat.length_toDigits_le_iff (by decide) (by decide)).mpr (by omega))
  ·exact .inr (jfS m m (Nat.le_refl _) (by omega))
theorem jbV {t:Int}(h0:0<=t)(h1:t<=9999):intText? (nstr t)=some t:=PySem.W.KIN.num_reads h0 (by omega)
theorem jeo {t u:Int}(h0:0<=t)(h1:t<=9999)(u0:0<=u)(u1:u<=9999)(e:nstr t=nstr u):t=u:=by
 have:=jbV h0 h1
 rw [e,jbV u0 u1] at this
 exact (Option.some.inj this).symm
theorem jep {t:Int}(h0:0<=t)(h1:t<=9999):t.natAbs.log2 < 1920:=by
 have h2:t.natAbs < 2 ^ 14:=by omega
 by_cases hz:t.natAbs=0
 ·rw [hz]; decide
 ·exact Nat.lt_trans ((Nat.log2_lt hz).mpr h2) (by decide)

set_option maxHeartbeats 4000000
section
variable {k n:Nat}{G:Gp}{Q:K1}{X:KX}
theorem g0 {φ:U->Prop}:glU T.gs 0 φ=φ (.int 8):=rfl
theorem g1 {φ:U->Prop}:glU T.gs 1 φ=φ (.int 4):=rfl
theorem g2 {φ:U->Prop}:glU T.gs 2 φ=φ (.str "0123456789"):=rfl
theorem g3 {φ:U->Prop}:glU T.gs 3 φ=φ (.int 8):=rfl
theorem jkV:∀ c,48<=c->c<=57->(Builtin.Str.occurrences "0123456789" ⟨#[c]⟩ 0 ("0123456789" : Str).length 1).isEmpty=false:=by
 have h:∀ d∈List.range 10,(Builtin.Str.occurrences "0123456789" ⟨#[48 + d]⟩ 0 ("0123456789" : Str).length 1).isEmpty=false:=by decide +kernel
 intro c h1 h2
 have:=h (c - 48) (List.mem_range.mpr (by omega))
 rw [show 48 + (c - 48)=c by omega] at this
 exact this
theorem jkv {x:Str}:lenU [.str x] G Q=(x.length<=sizeLine/\Q (.int x.length) G):=rfl
theorem jfC {x y:Int}{φ:Bool->Prop}:cmpU .LtE (.int x) (.int y) G φ=φ (decide (x<=y)):=rfl
theorem jkP {x y:Str}{φ:Bool->Prop}:cmpU .Eq (.str x) (.str y) G φ=φ (decide (x=y)):=rfl
theorem jkw {x y:Str}{φ:Bool->Prop}:cmpU .LtE (.str x) (.str y) G φ=φ (!decide (y.cps.toList < x.cps.toList)):=rfl
theorem jms {x y:Str}{φ:Bool->Prop}:inU (.str x) (.str y) G φ=φ (!(Builtin.Str.occurrences y x 0 y.length 1).isEmpty):=rfl
theorem sg_s {z:Str}{φ:List U->Prop}:sgU (.str z) φ=(z.cps.all (·< 128)=true/\φ (z.cps.toList.map fun c=>.str ⟨#[c]⟩)):=rfl
theorem jeH {b:Bool}{φ:Bool->Prop}:truU (.bl b) G φ=φ b:=rfl
theorem jk0 {p:Addr}{m:Nat}(g:G p=some (.lst (List.replicate m (.bl true))))(q:Q (.bl true) G):allU [.loc p] G Q:=by
 have e:∀ m:Nat,jby (List.replicate m (.bl true))=some (List.replicate m true):=fun m=>by
  induction m with
  | zero=>rfl
  | succ m ih=>
   rw [List.replicate_succ,List.replicate_succ]
   show (match jby (List.replicate m (.bl true)) with | some l=>some (true::l) | none=>none)=_
   rw [ih]
 unfold allU
 dsimp only
 rw [g]
 show (match jby (List.replicate m (.bl true)) with | some bs=>Q (.bl (bs.all id)) G | none=>False)
 rw [e]
 show Q (.bl ((List.replicate m true).all id)) G
 have h:(List.replicate m true).all id=true:=List.all_eq_true.mpr fun b hb=>List.eq_of_mem_replicate hb
 rw [h]
 exact q
theorem jhC {z:Str}(h:∀ c∈z.cps.toList,c < 128):z.cps.all (·< 128)=true:=by
 rw [<- Array.all_toList]
 exact List.all_eq_true.mpr fun c hc=>decide_eq_true (h c hc)
theorem jdv {z:Str}{b:U->Gp->(Option U->Gp->Prop)->Prop}{kk:List U->Gp->Prop}(hb:∀ c∈z.cps.toList,∀ K:Option U->Gp->Prop,K (some (.bl true)) G->b (.str ⟨#[c]⟩) G K)(q:kk (List.replicate z.cps.toList.length (.bl true)) G) :
  jce (fun _=>True) b (z.cps.toList.map fun c=>.str ⟨#[c]⟩) [] G kk:=by
 refine jdx (fun _=>.bl true) trivial (fun x hx K hk=>?_) ?_
 ·obtain ⟨c,hc,rfl⟩:=List.mem_map.mp hx
  exact hb c hc K hk
 ·rw [List.nil_append,List.map_map]
  have e:(z.cps.toList.map ((fun _=>U.bl true) ∘ fun c=>U.str ⟨#[c]⟩))=List.replicate z.cps.toList.length (U.bl true):=List.map_const' ..
  rw [e]
  exact q
theorem jay {t:Int}(h0:0<=t)(h1:t<=9999)(q:∀ G',Sa G G'->Q (.int t) G'):jaa T (k + 1) jar [.str (nstr t)] G Q X:=by
 obtain ⟨⟨l1,l4⟩,hd,hz⟩:=jft h0 h1
 refine ⟨rfl,?_⟩
 simp! only [jb8,jad,List.replicate,jkv,jfC,g1,sg_s]
 have hs:(nstr t).length<=sizeLine:=Nat.le_trans l4 (by decide)
 have hlen:(nstr t).cps.toList.length=(nstr t).length:=by simp [Str.length]
 refine ⟨hs,?_⟩
 rw [if_pos (by simp; omega),if_neg (by simp; omega)]
 refine ⟨jhC fun c hc=>by have:=(hd c hc).2; omega,by rw [List.length_map,hlen]; exact hs,?_⟩
 refine jdv (fun c hc K hk=>?_) fun p G1 n1=>?_
 ·rw [g2,jms,jkV c (hd c hc).1 (hd c hc).2]
  exact hk
 ·refine jk0 n1.at ?_
  rw [jeH,if_neg (by simp)]
  have fin:intU [.str (nstr t)] G1 Q:=⟨t,jbV h0 h1,Nat.le_trans l4 (by decide),q G1 n1.sa⟩
  refine ⟨hs,?_⟩
  by_cases h2:1 < (nstr t).length
  ·rw [if_pos (by simp; omega)]
   obtain ⟨d,r,e⟩:∃ d r,(nstr t).cps.toList=d::r:=by
    cases e:(nstr t).cps.toList with
    | nil=>rw [e] at hlen; simp at hlen; omega
    | cons d r=>exact ⟨d,r,rfl⟩
   refine ix_s hs (c:=d) (by rw [e]; exact jgW _ _) ?_
   rw [jkP,if_neg]
   ·exact fin
   ·intro z
    have z:(⟨#[d]⟩:Str) = "0" := by simpa using z
    have hd0:d≠48:=by
     rcases hz with hz | hz
     ·omega
     ·rw [e] at hz; intro y; exact hz (by rw [y]; rfl)
    have:[d]=[48]:=by
     have:=congrArg (fun s:Str=>s.cps.toList) z
     have e0:("0" : Str).cps.toList=[48]:=by decide +kernel
     rw [show (⟨#[d]⟩:Str).cps.toList=[d] from rfl,e0] at this
     exact this
    exact hd0 (List.cons.inj this).1
  ·rw [if_neg (by simp; omega)]
   exact fin
theorem jiM {x:Str}:jdV [.str x,.ty "str"] G Q=Q (.bl true) G:=rfl
theorem lex1 {a b:Nat}(h:b<=a):decide ([a] < [b])=false:=by
 refine decide_eq_false fun z=>?_
 rcases List.cons_lt_cons_iff.mp z with z | ⟨_,z⟩
 ·omega
 ·exact absurd z (by simp)
theorem jeP {x:Str}(h:Nm x)(q:∀ G',Sa G G'->Q (.bl true) G'):jaa T (k + 1) jdl [.str x] G Q X:=by
 have hs:x.length<=sizeLine:=Nat.le_trans h.l8 (by decide)
 have hlen:x.cps.toList.length=x.length:=by simp [Str.length]
 have h8:=h.l8
 have h0:=h.ne
 refine ⟨rfl,?_⟩
 simp! only [jdu,jad,List.replicate,jkv,jfC,g0,sg_s,jiM,jeH]
 refine ⟨hs,?_⟩
 rw [if_pos (by simp; omega),if_neg (by simp; omega)]
 refine ⟨jhC h.ch,by rw [List.length_map,hlen]; exact hs,?_⟩
 refine jdv (fun c hc K hk=>?_) fun p G1 n1=>jk0 n1.at (q G1 n1.sa)
 have c1:=h.lw c hc
 have c2:=h.up c hc
 have ea:("a" : Str).cps.toList=[97]:=by decide +kernel
 have ez:("z" : Str).cps.toList=[122]:=by decide +kernel
 rw [jkw,ea,show (⟨#[c]⟩:Str).cps.toList=[c] from rfl,lex1 c1,if_pos (by simp),jkw,ez,show (⟨#[c]⟩:Str).cps.toList=[c] from rfl,lex1 c2]
 exact hk
end

set_option maxHeartbeats 4000000
noncomputable def jaA (xs:List Str)(ss:List Spn):U:=.tup [.tup (xs.map .str),.tup (ss.map Spn.u)]
noncomputable def wl (xs:List Str):List Str := "works" :: xs
noncomputable def sw (xs:List Str)(s:Spn):List Str:=[s.w,xs.getD s.o "",xs.getD s.t "",nstr s.lo,nstr s.hi]
noncomputable def jam (xs:List Str)(ss:List Spn):List Str:=Str.join " " (wl xs)::ss.map fun s=>Str.join " " (sw xs s)
structure Pl (xs:List Str)(ss:List Spn):Prop where
 x0:0 < xs.length
 x8:xs.length<=8
 nm:Nms xs
 sl:ss.length<=24
 so:∀ s∈ss,s.Ok xs.length
section
variable {k n:Nat}{G:Gp}{Q:K1}{X:KX}{xs:List Str}{ss:List Spn}
theorem at_o {W o:Nat}(hx:xs.length=W)(h:o < W):xs[o]?=some (xs.getD o "")/\xs.getD o "" ∈ xs:=by
 have ho:o < xs.length:=by omega
 have e:xs.getD o "" = xs[o]:=by simp [List.getD,ho]
 rw [e]
 exact ⟨by simp [ho],List.getElem_mem ho⟩
theorem jha {n:Nat}:∀ {l:List Str},(∀ x∈l,x.length<=n)->(l.map (·.length)).sum<=l.length * n
 | [],_=>Nat.zero_le _
 | x::r,h=>by
  rw [List.map_cons,List.sum_cons,List.length_cons,Nat.succ_mul]
  have:=jha (l:=r) fun y hy=>h y (List.mem_cons_of_mem _ hy)
  have:=h x (by simp)
  omega
structure Wd (x:Str):Prop where
 l:x.length<=8
 c:∀ c∈x.cps.toList,c < 128/\c≠32
theorem Nm.wd {x:Str}(h:Nm x):Wd x:=⟨h.l8,fun c hc=>⟨h.ch c hc,fun z=>absurd (h.lw c hc) (by omega)⟩⟩
theorem jhh {t:Int}(h0:0<=t)(h1:t<=9999):Wd (nstr t):=by
 obtain ⟨⟨_,l4⟩,hd,_⟩:=jft h0 h1
 exact ⟨by omega,fun c hc=>⟨by have:=(hd c hc).2; omega,by have:=(hd c hc).1; omega⟩⟩
theorem jf9:Wd "works" := ⟨by decide +kernel,by decide +kernel⟩
theorem w_wd {x:Str}(h:x = "apart" \/ x = "span"):Wd x:=by
 rcases h with rfl | rfl
 ·exact ⟨by decide +kernel,by decide +kernel⟩
 ·exact ⟨by decide +kernel,by decide +kernel⟩
theorem Pl.wl (h:Pl xs ss):(∀ x∈wl xs,Wd x)/\(wl xs).length<=9:=⟨fun x hx=>by
 rcases List.mem_cons.mp hx with rfl | hx
 ·exact jf9
 ·exact (h.nm.ok x hx).wd,by have:=h.x8; show xs.length + 1<=9; omega⟩
theorem Pl.sw (h:Pl xs ss){s:Spn}(hs:s∈ss):(∀ x∈sw xs s,Wd x)/\(sw xs s).length<=9:=⟨fun x hx=>by
 have o:=h.so s hs
 unfold Z.sw at hx
 simp only [List.mem_cons,List.not_mem_nil,or_false] at hx
 rcases hx with rfl | rfl | rfl | rfl | rfl
 ·exact w_wd o.w
 ·exact (h.nm.ok _ (at_o rfl o.o).2).wd
 ·exact (h.nm.ok _ (at_o rfl o.t).2).wd
 ·exact jhh o.lo.1 o.lo.2
 ·exact jhh o.hi.1 o.hi.2,by show 5<=9; decide⟩
theorem jea {ws:List Str}(h:(∀ x∈ws,Wd x)/\ws.length<=9):(ws.map (·.length)).sum + ws.length<=81:=by
 have:=jha (n:=8) fun x hx=>(h.1 x hx).l
 have:=h.2
 omega
theorem jcX {ws : List Str}(h : (∀ x ∈ ws, Wd x) /\ ws.length <= 9) : (Str.join " " ws).length <= 100 /\ ∀ c ∈ (Str.join " " ws).cps.toList, c < 128 := by
  refine ⟨?_, ?_⟩
  · have a := StrLaws.join_length_le " " ws
    have e : (" " : Str).length = 1 := rfl
    rw [e] at a
    have := jea h
    omega
  · have key : ∀ (ws : List Str), (∀ x ∈ ws, ∀ c ∈ x.cps.toList, c < 128) -> ∀ c ∈ (Str.join " " ws).cps.toList, c < 128 := by
      intro ws
      induction ws with
      | nil => intro _ c hc; exact absurd hc (by show c ∉ ([] : List Nat); simp)
      | cons x r ih =>
        intro hw c hc
        cases r with
        | nil => exact hw x (by simp) c hc
        | cons y r =>
          rw [jgJ, jch, jch] at hc
          rcases List.mem_append.mp hc with hc | hc
          · rcases List.mem_append.mp hc with hc | hc
            · exact hw x (by simp) c hc
            · have : c = 32 := by simpa [jjv] using hc
              omega
          · exact ih (fun z hz => hw z (List.mem_cons_of_mem _ hz)) c hc
    exact key _ fun x hx c hc => ((h.1 x hx).c c hc).1
theorem ja3 {ws:List Str}(h0:ws≠[])(h:(∀ x∈ws,Wd x)/\ws.length<=9):Txt.split (Str.join " " ws) " " = ws:=jeI h0 fun x hx hc=>((h.1 x hx).c 32 hc).2 rfl
theorem jkD {z:Str}{ys:List Str}:jaF .join (.str z) [.tup (ys.map .str)] G Q=(z.length<=16/\(ys.map (·.length)).sum + ys.length<=1048576/\Q (.str (Str.join z ys)) G):=by
 show (match jbz (ys.map U.str) with | some zs=>z.length<=16/\(zs.map fun x:Str=>x.length).sum + zs.length<=1048576/\Q (.str (Str.join z zs)) G | none=>False)=_
 rw [jbE]
theorem ji9 {a b c d e:Str}:L2.cats Str.empty [a, " ",b, " ",c, " ",d, " ",e]=Str.join " " [a,b,c,d,e]:=by
 show ((((((((Str.empty++a) ++ " ")++b) ++ " ")++c) ++ " ")++d) ++ " ")++e=a ++ " " ++ (b ++ " " ++ (c ++ " " ++ (d ++ " " ++ e)))
 refine jdM ?_
 simp only [jch,show Str.empty.cps.toList=[] from rfl,List.nil_append,List.append_assoc]
theorem jbU {x:Str}{ws:List Str}(h1:x.length<=100)(h2:Txt.split x " " = ws)(h3:ws.length<=100)(q:∀ (p:Addr) (G':Gp),G p=none->Sa G G'->G' p=some (.lst (ws.map .str))->Q (.loc p) G'):jaa T (k + 1) jbo [.str x] G Q X:=by
 refine ⟨rfl,?_⟩
 simp! only [jcx,jad,List.replicate]
 show _/\_/\_/\newO G _ _
 rw [h2]
 exact ⟨by decide,Nat.le_trans h1 (by decide),Nat.le_trans h3 (by decide),fun p G' n=>q p G' n.no n.sa n.at⟩
theorem fp_s {z:Str}{φ:Str->Prop}:fpU (.str z) φ=(z.length<=10000/\φ z):=rfl
theorem fp_i {i:Int}{φ:Str->Prop}:fpU (.int i) φ=(i.natAbs.log2 < 1920/\φ (nstr i)):=rfl
theorem jdK {α:Type}{l:List α}{i:Nat}{a:α}(h:l[i]?=some a):l.take (i + 1)=l.take i++[a]:=by
 rw [List.take_succ,h]; rfl
theorem jaO (h:Pl xs ss)(q:∀ (p:Addr) (G':Gp),G p=none->Sa G G'->G' p=some (.lst ((jam xs ss).map .str))->Q (.loc p) G'):jaa T (k + 1) jaG [jaA xs ss] G Q X:=by
 refine ⟨rfl,?_⟩
 simp! only [jbw,jad,List.replicate,jaA,mt_join]
 refine ⟨trivial,by decide,by simp; exact Nat.le_trans (Nat.add_le_add_left h.x8 1) (by decide),?_⟩
 rw [show (U.tup (U.str "works" :: xs.map U.str))=U.tup ((wl xs).map U.str) from rfl,jkD]
 refine ⟨by decide,Nat.le_trans (jea h.wl) (by decide),by decide,fun p1 G1 n1=>?_⟩
 refine jaE (fun i ς G'=>(∃ o4 o5 o6 o7 o8,ς=[some (jaA xs ss),some (.tup (xs.map .str)),some (.tup (ss.map Spn.u)),some (.loc p1),o4,o5,o6,o7,o8])/\Sa G G'/\G' p1=some (.lst ((Str.join " " (wl xs)::(ss.take i).map fun s=>Str.join " " (sw xs s)).map .str))) ?_ ?_ ⟨⟨_,_,_,_,_,rfl⟩,n1.sa,n1.at⟩
 ·rintro ς G2 ⟨⟨o4,o5,o6,o7,o8,rfl⟩,s2,g2⟩
  rw [List.length_map,List.take_length] at g2
  simp! only []
  exact ⟨trivial,q p1 G2 n1.no s2 g2⟩
 ·rintro i x ς G2 K hx ⟨⟨o4,o5,o6,o7,o8,rfl⟩,s2,g2⟩ hk
  have hi:i < ss.length:=by have:=(List.getElem?_eq_some_iff.mp hx).1; simpa using this
  have es:ss[i]?=some ss[i]:=by simp [hi]
  have eu:x=ss[i].u:=by
   rw [List.getElem?_map,es] at hx
   exact (Option.some.inj hx).symm
  subst eu
  have hm:ss[i]∈ss:=List.getElem_mem hi
  have o:=h.so _ hm
  have ao:atI (xs.map U.str) (ss[i].o:Int)=some (.str (xs.getD ss[i].o "")):=jax (by rw [List.getElem?_map,(at_o rfl o.o).1]; rfl)
  have at':atI (xs.map U.str) (ss[i].t:Int)=some (.str (xs.getD ss[i].t "")):=jax (by rw [List.getElem?_map,(at_o rfl o.t).1]; rfl)
  have w:=(h.sw hm).1
  have hw:∀ x∈sw xs ss[i],x.length<=10000:=fun x hx=>Nat.le_trans (w x hx).l (by decide)
  simp! only [Spn.u,jb0 g2,ix_t ao,ix_t at',fp_s,fp_i]
  have b1:(" " : Str).length<=10000:=by decide
  refine ⟨trivial,trivial,hw _ (by simp [sw]),b1,hw _ (by simp [sw]),b1,hw _ (by simp [sw]),b1,jep o.lo.1 o.lo.2,b1,jep o.hi.1 o.hi.2,?_⟩
  rw [ji9,jd6 g2]
  refine ⟨by simp; exact Nat.lt_of_le_of_lt (show _<=25 by have:=h.sl; omega) (by decide),fun G3 w3=>hk _ _ ⟨⟨_,_,_,_,_,rfl⟩,fun b o h=>w3.sm b o (fun z=>by rw [z,n1.no] at h; cases h) (s2 b o h),?_⟩⟩
  rw [w3.at,jdK es,List.map_append,List.map_cons,List.map_cons,List.map_append]
  rfl
theorem jdi (h:Pl xs ss)(q:∀ (p:Addr) (G':Gp),G p=none->Sa G G'->G' p=some (.lst ((jam xs ss).map .str))->Q (.loc p) G'):jaa T (k + 1) jbY [jaA xs ss] G Q X:=by
 refine ⟨rfl,?_⟩
 simp! only [jca,jad,List.replicate,jaA,mt_join]
 refine ⟨trivial,by decide,fun pa Ga na pb Gb nb=>?_⟩
 have ga:=nb.sa _ _ na.at
 refine ⟨_,_,ga,nb.at,by simp; exact Nat.le_trans (Nat.add_le_add_left h.x8 1) (by decide),fun pc Gc nc=>?_⟩
 dsimp only
 rw [jfG (ys:=wl xs) nc.at]
 refine ⟨by decide,Nat.le_trans (jea h.wl) (by decide),by decide,fun p1 G1 n1=>?_⟩
 have s1:Sa G G1:=na.sa.trans (nb.sa.trans (nc.sa.trans n1.sa))
 have hp1:G p1=none:=by
  cases e:G p1 with
  | none=>rfl
  | some o=>have:=n1.no; rw [nc.sa _ _ (nb.sa _ _ (na.sa _ _ e))] at this; cases this
 refine jaE (fun i ς G'=>(∃ o4 o5 o6 o7 o8 o9,ς=[some (jaA xs ss),some (.tup (xs.map .str)),some (.tup (ss.map Spn.u)),some (.loc p1),o4,o5,o6,o7,o8,o9])/\Sa G G'/\G' p1=some (.lst ((Str.join " " (wl xs)::(ss.take i).map fun s=>Str.join " " (sw xs s)).map .str))) ?_ ?_ ⟨⟨_,_,_,_,_,_,rfl⟩,s1,n1.at⟩
 ·rintro ς G2 ⟨⟨o4,o5,o6,o7,o8,o9,rfl⟩,s2,g2⟩
  rw [List.length_map,List.take_length] at g2
  simp! only []
  exact ⟨trivial,q p1 G2 hp1 s2 g2⟩
 ·rintro i x ς G2 K hx ⟨⟨o4,o5,o6,o7,o8,o9,rfl⟩,s2,g2⟩ hk
  have hi:i < ss.length:=by have:=(List.getElem?_eq_some_iff.mp hx).1; simpa using this
  have es:ss[i]?=some ss[i]:=by simp [hi]
  have eu:x=ss[i].u:=by
   rw [List.getElem?_map,es] at hx
   exact (Option.some.inj hx).symm
  subst eu
  have hm:ss[i]∈ss:=List.getElem_mem hi
  have o:=h.so _ hm
  have ao:atI (xs.map U.str) (ss[i].o:Int)=some (.str (xs.getD ss[i].o "")):=jax (by rw [List.getElem?_map,(at_o rfl o.o).1]; rfl)
  have at':atI (xs.map U.str) (ss[i].t:Int)=some (.str (xs.getD ss[i].t "")):=jax (by rw [List.getElem?_map,(at_o rfl o.t).1]; rfl)
  simp! only [Spn.u,ix_t ao,ix_t at']
  refine ⟨trivial,trivial,by decide,fun pd Gd nd=>?_⟩
  have gd2:=nd.sa _ _ g2
  simp! only [jb0 gd2,mt_join]
  refine ⟨jep o.lo.1 o.lo.2,jep o.hi.1 o.hi.2,by decide,fun pe Ge ne=>?_⟩
  refine ⟨_,_,ne.sa _ _ nd.at,ne.at,by show 3 + 2<=sizeLine; decide,fun pf Gf nf=>?_⟩
  dsimp only
  rw [jfG (ys:=sw xs ss[i]) nf.at]
  refine ⟨by decide,Nat.le_trans (jea (h.sw hm)) (by decide),?_⟩
  have gf2:=nf.sa _ _ (ne.sa _ _ gd2)
  rw [jd6 gf2]
  refine ⟨by simp; exact Nat.lt_of_le_of_lt (show _<=25 by have:=h.sl; omega) (by decide),fun G3 w3=>hk _ _ ⟨⟨_,_,_,_,_,_,rfl⟩,fun b o h=>w3.sm b o (fun z=>by rw [z,hp1] at h; cases h) (nf.sa _ _ (ne.sa _ _ (nd.sa _ _ (s2 b o h)))),?_⟩⟩
  rw [w3.at,jdK es,List.map_append,List.map_cons,List.map_cons,List.map_append]
  rfl
end

set_option maxHeartbeats 4000000
section
variable {k n:Nat}{G:Gp}{Q:K1}{X:KX}{xs:List Str}{ss:List Spn}
theorem in_t {x:Str}{ys:List Str}{φ:Bool->Prop}(q:φ (decide (x∈ys))):inU (.str x) (.tup (ys.map .str)) G φ:=⟨rfl,jb5 _,by rw [jd7]; exact q⟩
theorem jkK {x:Str}{ys:List Str}(h:x∈ys)(q:Q (.int (ys.idxOf x)) G):jaF .index (.tup (ys.map .str)) [.str x] G Q:=by
 show (match jbz (ys.map .str) with | some ys=>x∈ys/\Q (.int (ys.idxOf x)) G | none=>False)
 rw [jbE]
 exact ⟨h,q⟩
theorem jcw {o:Nat}(nd:xs.Nodup)(h:o < xs.length):xs.idxOf (xs.getD o "")=o:=by
 have e:xs.getD o "" = xs[o]:=by simp [List.getD,h]
 rw [e]
 exact nd.idxOf_getElem o h
theorem jmt {a:Addr}{x:Str}{ys:List Str}{φ:Bool->Prop}(g:G a=some (.lst (ys.map .str)))(q:φ (decide (x∈ys))):inU (.str x) (.loc a) G φ:=in_l g rfl (jb5 _) (by rw [jd7]; exact q)
theorem jmF {α:Type}(l:List α)(n:Nat):cut l (some 1) (some ((n + 1:Nat):Int))=(l.drop 1).take n:=by
 unfold cut
 have e1:HT.sIx l.length 0 (some 1)=min 1 l.length:=HT.sIx_nat l.length 0 1
 have e2:HT.sIx l.length l.length (some ((n + 1:Nat):Int))=min (n + 1) l.length:=HT.sIx_nat l.length l.length (n + 1)
 rw [e1,e2]
 cases l with
 | nil=>simp
 | cons a r=>
  have:min 1 (a::r).length=1:=by simp
  rw [this]
  show (r.drop 0).take _=(r.drop 0).take n
  rw [List.drop_zero]
  by_cases h:n<=r.length
  ·rw [show min (n + 1) (a::r).length - 1=n by simp; omega]
  ·rw [List.take_of_length_le (by simp; omega),List.take_of_length_le (by omega)]
theorem jfq {i:Nat}{pw:Addr}(h:Pl xs ss)(hi:i < (wl xs).length)(gw:G pw=some (.lst ((wl xs).map .str)))(q:∀ G',Sa G G'->Q (.bl true) G'):jaa T (k + 2) jcl [.int i,.loc pw] G Q X:=by
 refine ⟨rfl,?_⟩
 have aw:atI ((wl xs).map U.str) (i:Int)=some (.str (wl xs)[i]):=jax (by simp [hi])
 simp! only [jaK,jad,List.replicate,ix_l gw aw]
 obtain _ | i:=i
 ·rw [if_pos (by simp)]
  rw [decide_eq_true (show (wl xs)[0] = "works" from rfl)]
  exact q G Sa.refl
 ·rw [if_neg (by simp; omega)]
  have hx:i < xs.length:=by have:i + 1 < xs.length + 1:=hi; omega
  have ex:(wl xs)[i + 1]=xs[i]:=rfl
  have h8:=h.x8
  rw [ex,g3,jfC,if_pos (by simp; omega)]
  refine jeP (h.nm.ok _ (List.getElem_mem hx)) fun G1 s1=>?_
  have gw1:=s1 _ _ gw
  rw [jeH,if_pos rfl,ix_l gw1 aw,sl_l gw1,jc0,jmF]
  intro p2 G2 n2
  refine jmt n2.at ?_
  have hni:(wl xs)[i + 1]∉((wl xs).drop 1).take i:=by
   rw [ex]
   show xs[i]∉xs.take i
   intro hm
   obtain ⟨a,ha,ea⟩:=List.mem_iff_getElem.mp hm
   rw [List.getElem_take] at ea
   have hal:a < i:=by rw [List.length_take] at ha; omega
   have:=(List.getElem_inj (h₀:=by omega) (h₁:=hx) h.nm.nd).mp ea
   omega
  rw [decide_eq_false hni]
  exact q G2 (s1.trans n2.sa)
theorem jcj {pw:Addr}(h:Pl xs ss)(gw:G pw=some (.lst ((wl xs).map .str)))(q:∀ G',Sa G G'->Q .non G'):jaa T (k + 4) jbg [.loc pw] G Q X:=by
 refine ⟨rfl,?_⟩
 simp! only [jaS,jad,List.replicate]
 refine ⟨rfl,?_⟩
 simp! only [jaJ,jad,List.replicate,jdU gw]
 have b:=h.wl.2
 refine ⟨by omega,by simp; omega,?_⟩
 refine jaE (fun i ς G'=>(∃ o,ς=[some (.loc pw),some (.loc pw),some (.int 2),o])/\Sa G G') ?_ ?_ ⟨⟨_,rfl⟩,Sa.refl⟩
 ·rintro ς G1 ⟨⟨o,rfl⟩,s1⟩
  simp! only [jdU (s1 _ _ gw)]
  refine ⟨trivial,?_⟩
  have h2:2<=(wl xs).length:=by show 2<=xs.length + 1; have:=h.x0; omega
  rw [if_neg (by simp; omega)]
  exact q G1 s1
 ·rintro i x ς G1 K hx ⟨⟨o,rfl⟩,s1⟩ hk'
  obtain ⟨hi,rfl⟩:=jbQ hx
  have hi:i < (wl xs).length:=by simpa using hi
  simp! only []
  refine ⟨trivial,?_⟩
  refine jfq h hi (s1 _ _ gw) fun G2 s2=>?_
  rw [jeH,if_neg (by simp)]
  exact hk' _ _ ⟨⟨_,rfl⟩,s1.trans s2⟩
theorem jfr {i:Nat}{pw:Addr}{s:Spn}(h:Pl xs ss)(hs:s∈ss)(hi:i < 5)(gw:G pw=some (.lst ((sw xs s).map .str)))(q:∀ G',Sa G G'->Q (.bl true) G'):jaa T (k + 2) jcV [.int i,.tup (xs.map .str),.loc pw] G Q X:=by
 have o:=h.so s hs
 have a0:∀ {G:Gp} {Q:K1},G pw=some (.lst ((sw xs s).map .str))->ixU (.loc pw) (.int 0) G Q=Q (.str s.w) G:=fun g=>ix_l g (jgW _ _)
 have a3:∀ {G:Gp} {Q:K1},G pw=some (.lst ((sw xs s).map .str))->ixU (.loc pw) (.int 3) G Q=Q (.str (nstr s.lo)) G:=fun g=>ix_l g (jmG _ _ _ _ _)
 have a4:∀ {G:Gp} {Q:K1},G pw=some (.lst ((sw xs s).map .str))->ixU (.loc pw) (.int 4) G Q=Q (.str (nstr s.hi)) G:=fun g=>ix_l g (jax (xs:=(sw xs s).map U.str) (j:=4) rfl)
 refine ⟨rfl,?_⟩
 have aw:∀ {j:Nat} {x:Str},(sw xs s)[j]?=some x->atI ((sw xs s).map U.str) (j:Int)=some (.str x):=fun e=>jax (by rw [List.getElem?_map,e]; rfl)
 have is_i:∀ {z:Int} {φ:Bool->Prop},isU (.int z) .non φ=φ false:=rfl
 have num:∀ {t:Int} {K:K1},0<=t->t<=9999->(∀ G1,Sa G G1->K (.int t) G1)->jaa T (k + 1) jar [.str (nstr t)] G K X:=fun h0 h1 q=>jay h0 h1 q
 obtain _ | _ | _ | _ | _ | i:=i
 ·simp! only [jal,jad,List.replicate]
  rw [if_pos (by simp),ix_l gw (aw (j:=0) rfl)]
  refine ⟨by decide,in_t (ys:=["span", "apart"]) ?_⟩
  rw [decide_eq_true (show s.w∈(["span", "apart"]:List Str) by rcases o.w with e | e <;> simp [e])]
  exact q G Sa.refl
 ·simp! only [jal,jad,List.replicate]
  rw [if_neg (by simp),if_pos (by simp),ix_l gw (aw (j:=0 + 1) rfl)]
  refine in_t ?_
  rw [decide_eq_true (at_o rfl o.o).2]
  exact q G Sa.refl
 ·simp! only [jal,jad,List.replicate]
  rw [if_neg (by simp),if_pos (by simp),ix_l gw (aw (j:=0 + 1 + 1) rfl)]
  refine in_t ?_
  rw [decide_eq_true (at_o rfl o.t).2]
  exact q G Sa.refl
 ·simp! only [jal,jad,List.replicate]
  rw [if_neg (by simp),if_neg (by simp),if_neg (by simp),ix_l gw (aw (j:=0 + 1 + 1 + 1) rfl)]
  refine num o.lo.1 o.lo.2 fun G1 s1=>?_
  rw [is_i,if_neg (by simp),if_pos (by simp)]
  exact q G1 s1
 ·simp! only [jal,jad,List.replicate]
  rw [if_neg (by simp),if_neg (by simp),if_neg (by simp),ix_l gw (aw (j:=0 + 1 + 1 + 1 + 1) rfl)]
  refine num o.hi.1 o.hi.2 fun G1 s1=>?_
  have gw1:=s1 _ _ gw
  rw [is_i,if_neg (by simp),if_neg (by simp),a0 gw1,jkP]
  by_cases hp:s.w = "apart"
  ·rw [if_pos (by simpa using hp),decide_eq_true hp]
   exact q G1 s1
  ·rw [if_neg (by simpa using hp),a3 gw1]
   refine jay o.lo.1 o.lo.2 fun G2 s2=>?_
   rw [a4 (s2 _ _ gw1)]
   refine jay o.hi.1 o.hi.2 fun G3 s3=>?_
   rw [jfC,decide_eq_true (o.le (o.w.resolve_left hp))]
   exact q G3 (s1.trans (s2.trans s3))
 ·omega
theorem jcR {pw:Addr}{s:Spn}(h:Pl xs ss)(hs:s∈ss)(gw:G pw=some (.lst ((sw xs s).map .str)))(q:∀ G',Sa G G'->Q .non G'):jaa T (k + 4) jbu [.tup (xs.map .str),.loc pw] G Q X:=by
 refine ⟨rfl,?_⟩
 simp! only [ja0,jad,List.replicate]
 refine ⟨rfl,?_⟩
 simp! only [jaR,jad,List.replicate,jdU gw]
 refine ⟨by omega,by simp [sw],?_⟩
 refine jaE (fun i ς G'=>(∃ o,ς=[some (.tup (xs.map .str)),some (.loc pw),some (.loc pw),some (.int 5),o])/\Sa G G') ?_ ?_ ⟨⟨_,rfl⟩,Sa.refl⟩
 ·rintro ς G1 ⟨⟨o,rfl⟩,s1⟩
  simp! only [jdU (s1 _ _ gw)]
  refine ⟨trivial,?_⟩
  rw [if_neg (by simp [sw])]
  exact q G1 s1
 ·rintro i x ς G1 K hx ⟨⟨o,rfl⟩,s1⟩ hk'
  obtain ⟨hi,rfl⟩:=jbQ hx
  have hi:i < 5:=by simpa [sw] using hi
  simp! only []
  refine ⟨trivial,?_⟩
  refine jfr h hs hi (s1 _ _ gw) fun G2 s2=>?_
  rw [jeH,if_neg (by simp)]
  exact hk' _ _ ⟨⟨_,rfl⟩,s1.trans s2⟩
theorem jlv {ts:Tgs}{a:Addr}{us:List U}{ς:Sg}{φ:Sg->Prop}(g:G a=some (.lst us)):unpU ts (.loc a) G ς φ=tgsU ts us ς φ:=by
 have:lsG G a=some us:=by unfold lsG; rw [g]
 unfold unpU
 dsimp only
 rw [this]
theorem jeO {pw:Addr}{s:Spn}(h:Pl xs ss)(hs:s∈ss)(gw:G pw=some (.lst ((sw xs s).map .str)))(q:∀ G',Sa G G'->Q s.u G'):jaa T (k + 2) jdk [.tup (xs.map .str),.loc pw] G Q X:=by
 have o:=h.so s hs
 refine ⟨rfl,?_⟩
 simp! only [jdt,jad,List.replicate,jlv gw,sw]
 refine ⟨trivial,?_⟩
 show jaF .index _ _ _ _
 refine jkK (at_o rfl o.o).2 ?_
 show jaF .index _ _ _ _
 refine jkK (at_o rfl o.t).2 ?_
 refine jay o.lo.1 o.lo.2 fun G1 s1=>jay o.hi.1 o.hi.2 fun G2 s2=>⟨by decide,?_⟩
 rw [jcw h.nm.nd o.o,jcw h.nm.nd o.t]
 exact q G2 (s1.trans s2)
theorem jlQ {a:Addr}{us:List U}{φ:Bool->Prop}(g:G a=some (.lst us)):truU (.loc a) G φ=φ (!us.isEmpty):=by
 unfold truU
 dsimp only
 rw [g]
theorem jkI {φ:Bool->Prop}:isU .non .non φ=φ true:=rfl
theorem g4 {φ:U->Prop}:glU T.gs 4 φ=φ (.int 24):=rfl
theorem jgj {n i:Nat}{x:U}(h:(rngU 1 n)[i]?=some x):i < n/\x=.int (1 + (i:Int)):=by
 unfold rngU at h
 rw [List.getElem?_map] at h
 by_cases hi:i < n
 ·rw [List.getElem?_range hi] at h
  exact ⟨hi,(Option.some.inj h).symm⟩
 ·rw [List.getElem?_eq_none (by simpa using hi)] at h
  cases h
theorem jdg {pl:Addr}(h:Pl xs ss)(gl:G pl=some (.lst ((jam xs ss).map .str)))(q:∀ G',Sa G G'->Q (jaA xs ss) G'):jaa T (k + 5) jbW [.loc pl] G Q X:=by
 refine ⟨rfl,?_⟩
 simp! only [jb7,jad,List.replicate,jlQ gl]
 rw [if_neg (by simp [jam])]
 rw [ix_l gl (jgW _ _)]
 have jb:=jcX h.wl
 have h9:=h.wl.2
 refine jbU jb.1 (ja3 (by simp [wl]) h.wl) (by omega) fun p1 G1 hp1 s1 g1=>?_
 refine jcj h g1 fun G2 s2=>?_
 have g21:=s2 _ _ g1
 simp! only [jkI,sl_l g21]
 rw [if_neg (by simp),show (some (1:Int))=some ((1:Nat):Int) from rfl,jc0,jgR]
 intro p3 G3 n3
 rw [it_l n3.at]
 refine ⟨by decide,fun p4 G4 n4=>?_⟩
 have s4:Sa G G4:=s1.trans (s2.trans (n3.sa.trans n4.sa))
 have gl4:=s4 _ _ gl
 have hsl:=h.sl
 have hlen:(jam xs ss).length=ss.length + 1:=by simp [jam]
 have hp4:G p4=none:=by
  cases e:G p4 with
  | none=>rfl
  | some o=>have:=n4.no; rw [n3.sa _ _ (s2 _ _ (s1 _ _ e))] at this; cases this
 dsimp only
 simp! only [jdU gl4]
 rw [List.length_map,hlen]
 refine ⟨by decide,by decide,by omega,by omega,?_⟩
 rw [show (((ss.length + 1:Nat):Int) - 1).toNat=ss.length by omega]
 refine jaE (fun i ς G'=>(∃ o2 o5 o6,ς=[some (.loc pl),some (.loc p1),o2,some (.tup (xs.map .str)),some (.loc p4),o5,o6])/\Sa G G'/\G' p4=some (.lst ((ss.take i).map Spn.u))) ?_ ?_ ⟨⟨_,_,_,rfl⟩,s4,n4.at⟩
 ·rintro ς G5 ⟨⟨o2,o5,o6,rfl⟩,s5,g5⟩
  rw [jbm,List.take_length] at g5
  simp! only []
  rw [it_l g5]
  exact ⟨trivial,by decide,q G5 s5⟩
 ·rintro i x ς G5 K hx ⟨⟨o2,o5,o6,rfl⟩,s5,g5⟩ hk
  obtain ⟨hi,rfl⟩:=jgj hx
  have es:ss[i]?=some ss[i]:=by simp [hi]
  have hm:ss[i]∈ss:=List.getElem_mem hi
  have al:atI ((jam xs ss).map U.str) (1 + (i:Int))=some (.str (Str.join " " (sw xs ss[i]))):=by
   have:atI ((jam xs ss).map U.str) ((i + 1:Nat):Int)=some (.str (Str.join " " (sw xs ss[i]))):=jax (by simp [jam,hi])
   rw [show (1 + (i:Int))=((i + 1:Nat):Int) by omega]
   exact this
  have wb:=h.sw hm
  simp! only [ix_l (s5 _ _ gl) al]
  refine ⟨trivial,jbU (jcX wb).1 (ja3 (by simp [sw]) wb) (by omega) fun p6 G6 hp6 s6 g6=>?_⟩
  rw [g4,jfC,if_pos (by simp; omega)]
  refine jcR h hm g6 fun G7 s7=>?_
  have g75:=s7 _ _ (s6 _ _ g5)
  simp! only [jkI,jb0 g75]
  rw [if_neg (by simp)]
  refine jeO h hm (s7 _ _ g6) fun G8 s8=>?_
  rw [jd6 (s8 _ _ g75)]
  refine ⟨by simp; exact Nat.lt_of_le_of_lt (show _<=24 by omega) (by decide),fun G9 w9=>hk _ _ ⟨⟨_,_,_,rfl⟩,fun b o h=>w9.sm b o (fun z=>by rw [z,hp4] at h; cases h) (s8 _ _ (s7 _ _ (s6 _ _ (s5 b o h)))),?_⟩⟩
  rw [w9.at,jdK es,List.map_append]
  rfl
end

set_option maxHeartbeats 4000000
section
variable {k n:Nat}{G:Gp}{Q:K1}{X:KX}{xs ys:List Str}{ss ts:List Spn}
theorem jbF:∀ l:List Str,noBs (l.map PyData.str)=true
 | []=>rfl
 | _::r=>by
  show (noB (.str _) && noBs (r.map PyData.str))=true
  rw [jbF r]; rfl
theorem jeh {l l':List Str}(h:l.map PyData.str=l'.map PyData.str):l=l':=by
 have:=congrArg (List.map fun d:PyData=>match d with | .str x=>x | _ => "") h
 rw [List.map_map,List.map_map] at this
 have e:((fun d:PyData=>match d with | .str x=>x | _ => "") ∘ PyData.str)=id:=rfl
 rw [e,List.map_id,List.map_id] at this
 exact this
theorem jcq {l:List Str}(h:∀ x∈l,∀ c∈x.cps.toList,c < 128):Small (.list (l.map .str))/\DUs G (l.map .str) (l.map PyData.str):=by
 have hs:∀ u∈l.map U.str,Sml 0 u:=fun u hu=>by
  obtain ⟨x,hx,rfl⟩:=List.mem_map.mp hu
  exact Sml.str (h x hx)
 obtain ⟨h1,h2,h3⟩:=smls hs
 have e:pds (l.map U.str)=l.map PyData.str:=by rw [jcr,List.map_map]; rfl
 rw [e] at h2 h3
 refine ⟨⟨h2,?_⟩,by have:=jew (G:=G) h1; rw [e] at this; exact this⟩
 show PyData.depthAll (l.map PyData.str) + 1<=100
 omega
theorem jdY {a b:Addr}{l l':List Str}{φ:Bool->Prop}(ga:G a=some (.lst (l.map .str)))(gb:G b=some (.lst (l'.map .str)))(h:∀ x∈l,∀ c∈x.cps.toList,c < 128)(h':∀ x∈l',∀ c∈x.cps.toList,c < 128)(q:φ (decide (l=l'))):eqU (.loc a) (.loc b) G φ:=by
 obtain ⟨s1,d1⟩:=jcq (G:=G) h
 obtain ⟨s2,d2⟩:=jcq (G:=G) h'
 refine ⟨.list (l.map .str),.list (l'.map .str),.lst (by unfold lsG; rw [ga]) d1,.lst (by unfold lsG; rw [gb]) d2,s1,s2,?_⟩
 have e:PyData.eqv (.list (l.map .str)) (.list (l'.map .str))=decide (l=l'):=by
  by_cases hl:l=l'
  ·subst hl
   rw [PySem.SeqAt.eqv_refl _ s1.1]
   simp
  ·rw [decide_eq_false hl]
   cases e:PyData.eqv (.list (l.map .str)) (.list (l'.map .str)) with
   | false=>rfl
   | true=>
    have:=jfQ (d:=.list (l.map .str)) (e:=.list (l'.map .str)) (jbF l) (jbF l') e
    exact absurd (jeh (PyData.list.inj this)) hl
 rw [e]
 exact q
theorem jiO {p:Addr}{us:List U}(g:G p=some (.lst us)):jdV [.loc p,.ty "list"] G Q=Q (.bl true) G:=by
 unfold jdV isiU tyN
 dsimp only
 rw [g]
 rfl
theorem ji7 {a b:Addr}{φ:Bool->Prop}:cmpU .Eq (.loc a) (.loc b) G φ=eqU (.loc a) (.loc b) G φ:=rfl
theorem jfZ {a b:Addr}{φ:Bool->Prop}:cmpU .NotEq (.loc a) (.loc b) G φ=eqU (.loc a) (.loc b) G fun b=>φ (!b):=rfl
theorem jkq {x y:Str}{φ:Bool->Prop}:cmpU .NotEq (.str x) (.str y) G φ=φ (!decide (x=y)):=rfl
theorem jiV (h:Pl xs ss):∃ z:Str,∀ (G:Gp) (Q:K1),Q (.str z) G->jdN [jaA xs ss] G Q:=by
 have f1:Ft 675 1 (.tup (xs.map .str)):=Ft.tup (m:=8) (n:=82) (k:=0) (by simp; exact h.x8) (fun u hu=>by
  obtain ⟨x,hx,rfl⟩:=List.mem_map.mp hu
  exact Ft.str (m:=8) (h.nm.ok x hx).l8 (h.nm.ok x hx).ch) (by decide)
 have f2:Ft 240051 2 (.tup (ss.map Spn.u)):=Ft.tup (m:=24) (n:=10000) (k:=1) (by simpa using h.sl) (fun u hu=>by
  obtain ⟨s,hs,rfl⟩:=List.mem_map.mp hu
  exact (h.so s hs).ft h.x8) (by decide)
 have f3:Ft 480109 3 (jaA xs ss):=Ft.tup (m:=2) (n:=240051) (k:=2) (Nat.le_refl _) (fun u hu=>by
  rcases List.mem_cons.mp hu with rfl | hu
  ·exact f1.mono (by decide) (by decide)
  ·rw [List.mem_singleton.mp hu]; exact f2) (by decide)
 exact ⟨_,fun G Q q=>jjJ f3 (by decide) (by decide) q⟩
theorem Pl.sml (h : Pl xs ss) : Sml 3 (jaA xs ss) := Sml.tup fun u hu => by
  simp only [List.mem_cons, List.not_mem_nil, or_false] at hu
  rcases hu with rfl | rfl
  · exact (Sml.tup (n := 0) fun u hu => by
      obtain ⟨x, hx, rfl⟩ := List.mem_map.mp hu
      exact Sml.str (h.nm.ok x hx).ch).mono (by decide)
  · exact Sml.tup (n := 1) fun u hu => by
      obtain ⟨s, hs, rfl⟩ := List.mem_map.mp hu
      exact (h.so s hs).sml
theorem jhj:noB (pd (jaA xs ss))=true:=by
 have e1:noBs (pds (xs.map U.str))=true:=by
  rw [jcr,List.map_map]
  exact jbF xs
 have e2:noBs (pds (ss.map Spn.u))=true:=by
  rw [jcr,List.map_map]
  induction ss with
  | nil=>rfl
  | cons s r ih=>
   show (noB (pd s.u) && noBs (r.map (pd ∘ Spn.u)))=true
   rw [ih]; rfl
 show (noBs (pds (xs.map U.str)) && (noBs (pds (ss.map Spn.u)) && true))=true
 rw [e1,e2]
 rfl
theorem jhT {s s':Spn}(h:pd s.u=pd s'.u):s=s':=by
 have h:PyData.tuple [.str s.w,.int s.o,.int s.t,.int s.lo,.int s.hi]=PyData.tuple [.str s'.w,.int s'.o,.int s'.t,.int s'.lo,.int s'.hi]:=h
 obtain ⟨w,o,t,lo,hi⟩:=s
 obtain ⟨w',o',t',lo',hi'⟩:=s'
 simp only [PyData.tuple.injEq,List.cons.injEq,PyData.str.injEq,PyData.int.injEq,and_true] at h
 obtain ⟨h1,h2,h3,h4,h5⟩:=h
 subst h1; subst h4; subst h5
 rw [Int.ofNat.inj h2,Int.ofNat.inj h3]
theorem jj6 (h:pd (jaA xs ss)=pd (jaA ys ts)):xs=ys/\ss=ts:=by
 have h:PyData.tuple [.tuple (pds (xs.map U.str)),.tuple (pds (ss.map Spn.u))]=PyData.tuple [.tuple (pds (ys.map U.str)),.tuple (pds (ts.map Spn.u))]:=h
 simp only [PyData.tuple.injEq,List.cons.injEq,and_true,jcr,List.map_map] at h
 exact ⟨jeh h.1,(List.map_inj_right fun a b e=>jhT e).mp h.2⟩
theorem jfA (h:Pl xs ss)(h':Pl ys ts)(e:jam xs ss=jam ys ts):xs=ys/\ss=ts:=by
 obtain ⟨e1,e2⟩:=List.cons.inj e
 have ex:xs=ys:=by
  have:=ja3 (by simp [wl]) h.wl
  rw [e1,ja3 (by simp [wl]) h'.wl] at this
  exact ((List.cons.inj this).2).symm
 subst ex
 refine ⟨rfl,?_⟩
 have hl:ss.length=ts.length:=by have:=congrArg List.length e2; simpa using this
 refine List.ext_getElem hl fun i h1 h2=>?_
 have hm1:ss[i]∈ss:=List.getElem_mem h1
 have hm2:ts[i]∈ts:=List.getElem_mem h2
 have ei:Str.join " " (sw xs ss[i])=Str.join " " (sw xs ts[i]):=by
  have:=congrArg (fun l:List Str=>l[i]?) e2
  simpa [h1,h2] using this
 have ew:sw xs ss[i]=sw xs ts[i]:=by
  have:=ja3 (by simp [sw]) (h.sw hm1)
  rw [ei,ja3 (by simp [sw]) (h'.sw hm2)] at this
  exact this.symm
 have o1:=h.so _ hm1
 have o2:=h'.so _ hm2
 obtain ⟨a1,a2,a3,a4,a5⟩:ss[i].w=ts[i].w/\xs.getD ss[i].o "" = xs.getD ts[i].o "" /\ xs.getD ss[i].t "" = xs.getD ts[i].t "" /\ nstr ss[i].lo=nstr ts[i].lo/\nstr ss[i].hi=nstr ts[i].hi:=by
  simp only [sw,List.cons.injEq,and_true] at ew
  exact ew
 have b2:ss[i].o=ts[i].o:=by rw [<- jcw h.nm.nd o1.o,a2,jcw h.nm.nd o2.o]
 have b3:ss[i].t=ts[i].t:=by rw [<- jcw h.nm.nd o1.t,a3,jcw h.nm.nd o2.t]
 have b4:=jeo o1.lo.1 o1.lo.2 o2.lo.1 o2.lo.2 a4
 have b5:=jeo o1.hi.1 o1.hi.2 o2.hi.1 o2.hi.2 a5
 cases hs:ss[i] with
 | mk w o t lo hi=>
  cases ht:ts[i] with
  | mk w' o' t' lo' hi'=>
   rw [hs,ht] at a1 b2 b3 b4 b5
   dsimp only at a1 b2 b3 b4 b5
   rw [a1,b2,b3,b4,b5]
theorem jgO (h:Pl xs ss)(h':Pl ys ts){φ:Bool->Prop}(q:φ (decide (jam xs ss=jam ys ts))):cmpU .Eq (jaA xs ss) (jaA ys ts) G φ:=by
 refine ⟨pd (jaA xs ss),pd (jaA ys ts),jgP h.sml.b,jgP h'.sml.b,h.sml.small (by decide),h'.sml.small (by decide),?_⟩
 have e:PyData.eqv (pd (jaA xs ss)) (pd (jaA ys ts))=decide (jam xs ss=jam ys ts):=by
  by_cases hl:jam xs ss=jam ys ts
  ·obtain ⟨rfl,rfl⟩:=jfA h h' hl
   rw [PySem.SeqAt.eqv_refl _ (h.sml.small (by decide)).1]
   simp
  ·rw [decide_eq_false hl]
   cases e:PyData.eqv (pd (jaA xs ss)) (pd (jaA ys ts)) with
   | false=>rfl
   | true=>
    obtain ⟨rfl,rfl⟩:=jj6 (jfQ jhj jhj e)
    exact absurd rfl hl
 rw [e]
 exact q
theorem Pl.revS (h:Pl xs ss):Pl xs ss.reverse:=⟨h.x0,h.x8,h.nm,by simpa using h.sl,fun s hs=>h.so s (by simpa using hs)⟩
theorem Pl.revN (h:Pl xs ss):Pl xs.reverse ss:=⟨by simpa using h.x0,by simpa using h.x8,⟨fun x hx=>h.nm.ok x (by simpa using hx),((List.reverse_perm xs).nodup_iff).mpr h.nm.nd,let ⟨w,hw⟩:=h.nm.one; ⟨w,fun x hx=>hw x (by simpa using hx)⟩⟩,h.sl,fun s hs=>by rw [List.length_reverse]; exact h.so s hs⟩
theorem Pl.sub (h:Pl xs ss)(hs:ts.Sublist ss):Pl xs ts:=⟨h.x0,h.x8,h.nm,Nat.le_trans hs.length_le h.sl,fun s hm=>h.so s (hs.subset hm)⟩
theorem jaM (h:Pl xs ss):∀ y∈jam xs ss,∀ c∈y.cps.toList,c < 128:=fun y hy=>by
 rcases List.mem_cons.mp hy with rfl | hy
 ·exact (jcX h.wl).2
 ·obtain ⟨s,hs,rfl⟩:=List.mem_map.mp hy
  exact (jcX (h.sw hs)).2
end

set_option maxHeartbeats 4000000
noncomputable abbrev PD:=List Str×List Spn
noncomputable def plU (p:PD):U:=jaA p.1 p.2
theorem jjH {l:List U}{G:Gp}{Q:K1}:revU (.tup l) (.int (-1)) G Q=((-1:Int)=-1/\Q (.tup l.reverse) G):=rfl
theorem law_ir (a:Addr)(ns:List Int)(hl:ns.length<=63):jaa T 300 jfv [.loc a] (G0 a ns) (fun u _=>u=.bl true) fun _ _=>False:=by
 refine ⟨rfl,?_⟩
 simp! only [ji4,jad,List.replicate]
 refine jiy (by unfold G0; rw [if_pos rfl]) hl fun f c G1 f1=>⟨by decide,fun p0 G2 n2=>⟨by decide,by decide,?_⟩⟩
 refine jaE (fun i ς G'=>(∃ (o3 o4 o5 o6 o7 o8 o9:Option U) (q:Addr) (pls:List PD),ς=[some (.loc a),some (.loc f),some (.loc q),o3,o4,o5,o6,o7,o8,o9]/\G' q=some (.lst (pls.map plU))/\pls.length<=4 * i/\(∀ p∈pls,Pl p.1 p.2)/\q≠f/\q≠c)/\Fd G' f c) ?_ ?_ ⟨⟨_,_,_,_,_,_,_,p0,[],rfl,n2.at,Nat.zero_le _,(fun _ h=>(nomatch h)),f1.away n2⟩,f1.new n2⟩
 ·rintro ς G3 ⟨⟨o3,o4,o5,o6,o7,o8,o9,q,pls,rfl,g3,hlen,hpl,hq⟩,f3⟩
  refine ⟨trivial,?_⟩
  simp! only []
  rw [it_l g3]
  refine jaE (fun i ς G'=>(∃ o3 o4 o5 o6 o7 o8 o9,ς=[some (.loc a),some (.loc f),some (.loc q),o3,o4,o5,o6,o7,o8,o9])/\G' q=some (.lst (pls.map plU))) ?_ ?_ ⟨⟨_,_,_,_,_,_,_,rfl⟩,g3⟩
  ·rintro ς G4 ⟨⟨o3,o4,o5,o6,o7,o8,o9,rfl⟩,g4⟩
   simp! only []
   exact ⟨by unfold lsG; rw [g4],trivial⟩
  ·rintro i x ς G4 K hx ⟨⟨o3,o4,o5,o6,o7,o8,o9,rfl⟩,g4⟩ hk
   refine ⟨by unfold lsG; rw [g4],?_⟩
   obtain ⟨⟨xs,ss⟩,hp,rfl⟩:=List.mem_map.mp (List.mem_of_getElem? hx)
   have H:Pl xs ss:=hpl _ hp
   obtain ⟨z,rz⟩:=jiV H
   simp! only [plU]
   refine jdi H fun pd Gd hpd sd gd=>rz _ _ ⟨by decide,by decide,?_⟩
   have gq:=sd _ _ g4
   refine jaE (fun j ς G'=>(∃ o7 o8 o9,ς=[some (.loc a),some (.loc f),some (.loc q),o3,some (jaA xs ss),some (.loc pd),some (.str z),o7,o8,o9])/\G' q=some (.lst (pls.map plU))/\G' pd=some (.lst ((jam xs ss).map .str))) ?_ ?_ ⟨⟨_,_,_,rfl⟩,gq,gd⟩
   ·rintro ς G5 ⟨⟨o7',o8',o9',rfl⟩,g5,d5⟩
    refine ⟨trivial,?_⟩
    simp! only []
    refine rz _ _ ?_
    rw [jkq,decide_eq_true rfl,if_neg (by simp),it_l g5]
    refine jaE (fun j ς G'=>(∃ o9,ς=[some (.loc a),some (.loc f),some (.loc q),o3,some (jaA xs ss),some (.loc pd),some (.str z),o7',o8',o9])/\G' q=some (.lst (pls.map plU))) ?_ ?_ ⟨⟨_,rfl⟩,g5⟩
    ·rintro ς G6 ⟨⟨o,rfl⟩,g6⟩
     exact ⟨by unfold lsG; rw [g6],hk _ _ ⟨⟨_,_,_,_,_,_,_,rfl⟩,g6⟩⟩
    ·rintro j y ς G6 K' hy ⟨⟨o,rfl⟩,g6⟩ hk'
     refine ⟨by unfold lsG; rw [g6],?_⟩
     obtain ⟨⟨ys,ts⟩,hp',rfl⟩:=List.mem_map.mp (List.mem_of_getElem? hy)
     have H':Pl ys ts:=hpl _ hp'
     simp! only [plU]
     refine jaO H fun pa Ga ha sa ga=>?_
     refine jaO H' fun pb Gb hb sb gb=>?_
     rw [ji7]
     refine jdY (sb _ _ ga) gb (jaM H) (jaM H') ?_
     refine jgO H H' ?_
     refine (?_:if (!decide (decide (jam xs ss=jam ys ts)=decide (jam xs ss=jam ys ts)))=true then _ else _)
     rw [if_neg (by simp)]
     exact hk' _ _ ⟨⟨_,rfl⟩,sb _ _ (sa _ _ g6)⟩
   ·rintro j y ς G5 K' hy ⟨⟨o7',o8',o9',rfl⟩,g5,d5⟩ hk'
    refine ⟨trivial,?_⟩
    simp! only []
    refine jaO H fun pf Gf hpf sf gf=>?_
    have df:=sf _ _ d5
    rw [jiO gf,jeH,if_neg (by simp),jfZ]
    refine jdY gf df (jaM H) (jaM H) ?_
    rw [decide_eq_true rfl,if_neg (by simp)]
    refine jdg H gf fun Gr sr=>rz _ _ ?_
    have gfr:=sr _ _ gf
    have dr:=sr _ _ df
    rw [jkq,decide_eq_true rfl,if_neg (by simp),jfZ]
    refine jdY gfr dr (jaM H) (jaM H) ?_
    rw [decide_eq_true rfl,if_neg (by simp),jb0 gfr]
    rw [jd6 gfr]
    refine ⟨by simp [jam]; exact Nat.lt_of_le_of_lt (show _<=25 by have:=H.sl; omega) (by decide),fun G6 w6=>?_⟩
    dsimp only
    rw [jjz w6.at (show ixN _ 0=some 0 from jfI (by simp [jam]))]
    intro G7 w7
    have n1:pf≠pd:=jcU d5 hpf
    have n2:pf≠q:=jcU g5 hpf
    exact hk' _ _ ⟨⟨_,_,_,rfl⟩,w7.sm _ _ (Ne.symm n2) (w6.sm _ _ (Ne.symm n2) (sr _ _ (sf _ _ g5))),w7.sm _ _ (Ne.symm n1) (w6.sm _ _ (Ne.symm n1) dr)⟩
 ·rintro i x ς G3 K hx ⟨⟨o3,o4,o5,o6,o7,o8,o9,q,pls,rfl,g3,hlen,hpl,hq⟩,f3⟩ hk
  obtain ⟨hi,rfl⟩:=jbQ hx
  have hi:i < 4:=by simpa using hi
  refine ⟨trivial,?_⟩
  simp! only []
  refine jgC f3 fun P G4 p1 p6 f4 s4=>?_
  refine jix f4 p1 p6 fun xs ss G5 x0 x8 hxs sl so f5 s5=>?_
  have H:Pl xs ss:=⟨x0,x8,hxs,sl,so⟩
  have e0:atI [U.tup (xs.map U.str),U.tup (ss.map Spn.u)] 0=some (U.tup (xs.map U.str)):=jgW _ _
  have e1:atI [U.tup (xs.map U.str),U.tup (ss.map Spn.u)] 1=some (U.tup (ss.map Spn.u)):=jmH _ _ _
  simp! only [ix_t e0,ix_t e1]
  rw [jjH]
  refine ⟨rfl,by decide,?_⟩
  rw [jjH]
  refine ⟨rfl,by decide,by decide,by decide,fun p7 G7 n7=>?_⟩
  have g5:=s5 _ _ hq.1 (s4 _ _ hq.1 g3)
  refine ⟨_,_,n7.sa _ _ g5,n7.at,by simp; exact Nat.le_trans (show _<=16 by omega) (by decide),fun p8 G8 n8=>?_⟩
  refine hk _ _ ⟨⟨_,_,_,_,_,_,_,p8,pls++[(xs,ss),(xs,ss.reverse),(xs.reverse,ss),(xs,cut ss none (some (-1)))],rfl,?_,by simp; omega,fun p hp=>?_,(f5.new n7).away n8⟩,(f5.new n7).new n8⟩
  ·rw [n8.at,List.map_append,jc0]
   simp [plU,jaA,List.map_reverse]
  ·rcases List.mem_append.mp hp with hp | hp
   ·exact hpl p hp
   ·simp only [List.mem_cons,List.not_mem_nil,or_false] at hp
    rcases hp with rfl | rfl | rfl | rfl
    ·exact H
    ·exact H.revS
    ·exact H.revN
    ·exact H.sub ((List.take_sublist _ _).trans (List.drop_sublist _ _))

noncomputable def sts:List Stmt:=[s_is_name,s_words_of,s_number_in,s_first_fault,s_works_fault,s_span_fault,s_span_in,s_plan_lines,s_read_plan,s_law_feed,s_law_draw,s_law_names,s_law_cycle,s_law_number,s_law_span,s_law_plan,s_law_lines,s_law]
theorem jgp:jdP T 0 T.funs sts=true:=by decide +kernel
theorem jck:NestS T sts jaS s_works_fault jbc jaT s_first_fault jaJ jaK where
 sc:=jgi (by decide +kernel)
 body:=rfl
 text:=⟨_,_,_,_,_,_,_,_,rfl,by unfold tabs; exact List.Mem.head _⟩
 wi:=rfl
 wv:=.inr rfl
 fi:=rfl
 fl:=rfl
 gl:=rfl
 dbg:=⟨rfl,rfl,rfl,rfl,rfl⟩
 caps:=fun i j e=>by
  rcases i with _ | i
  ·cases e; exact ⟨by decide,_,rfl,rfl,rfl,rfl⟩
  cases e
 wlt:=by decide
 fge:=by decide
 frees:=by decide +kernel
 cs:=jhB (by decide +kernel)
 args:=⟨rfl,rfl⟩
 ann:=fun _=>rfl
 bind:=fun _ _ _ _ _ _ _=>rfl
 ff:=rfl
 ffs:=rfl
 ffb:=rfl
 ffp:=rfl
 ffl:=rfl
 hdv:=rfl
 dvb:=rfl
 dvN:=rfl
 hdc:=rfl
 dcp:=rfl
 dcN:=by decide
 ok:=by decide +kernel
 un:=rfl
theorem jcS:NestS T sts ja0 s_span_fault jbr jaT s_first_fault jaR jal where
 sc:=jgi (by decide +kernel)
 body:=rfl
 text:=⟨_,_,_,_,_,_,_,_,rfl,by unfold tabs; exact List.Mem.tail _ (List.Mem.head _)⟩
 wi:=rfl
 wv:=.inr rfl
 fi:=rfl
 fl:=rfl
 gl:=rfl
 dbg:=⟨rfl,rfl,rfl,rfl,rfl⟩
 caps:=fun i j e=>by
  rcases i with _ | i
  ·cases e; exact ⟨by decide,_,rfl,rfl,rfl,rfl⟩
  rcases i with _ | i
  ·cases e; exact ⟨by decide,_,rfl,rfl,rfl,rfl⟩
  cases e
 wlt:=by decide
 fge:=by decide
 frees:=by decide +kernel
 cs:=jhB (by decide +kernel)
 args:=⟨rfl,rfl⟩
 ann:=fun _=>rfl
 bind:=fun _ _ _ _ _ _ _=>rfl
 ff:=rfl
 ffs:=rfl
 ffb:=rfl
 ffp:=rfl
 ffl:=rfl
 hdv:=rfl
 dvb:=rfl
 dvN:=rfl
 hdc:=rfl
 dcp:=rfl
 dcN:=by decide
 ok:=by decide +kernel
 un:=rfl
theorem jh8:jeK T sts 0 T.funs sts:=⟨rfl,rfl,rfl,rfl,⟨rfl,_,_,_,_,jck⟩,⟨rfl,_,_,_,_,jcS⟩,rfl,rfl,rfl,rfl,rfl,rfl,rfl,rfl,rfl,rfl,rfl,rfl,trivial⟩
theorem jlR:∀ t∈tabs,∀ t'∈tabs,t.1=t'.1->t=t':=by
 intro t h t' h' e
 simp only [tabs,List.mem_cons,List.not_mem_nil,or_false] at h
 simp only [tabs,List.mem_cons,List.not_mem_nil,or_false] at h'
 rcases h with rfl | rfl <;> rcases h' with rfl | rfl <;> first | rfl | exact absurd e (by decide)
theorem ln1 {α:Type}(us:List α)(h:us.length=1):∃ u0,us=[u0]:=by
 obtain _ | ⟨u0,us⟩:=us
 ·cases h
 obtain _ | ⟨_,_⟩:=us
 ·exact ⟨_,rfl⟩
 ·cases h
theorem ln2 {α:Type}(us:List α)(h:us.length=2):∃ u0 u1,us=[u0,u1]:=by
 obtain _ | ⟨u0,us⟩:=us
 ·cases h
 obtain _ | ⟨u1,us⟩:=us
 ·cases h
 obtain _ | ⟨_,_⟩:=us
 ·exact ⟨_,_,rfl⟩
 ·cases h
theorem ln3 {α:Type}(us:List α)(h:us.length=3):∃ u0 u1 u2,us=[u0,u1,u2]:=by
 obtain _ | ⟨u0,us⟩:=us
 ·cases h
 obtain _ | ⟨u1,us⟩:=us
 ·cases h
 obtain _ | ⟨u2,us⟩:=us
 ·cases h
 obtain _ | ⟨_,_⟩:=us
 ·exact ⟨_,_,_,rfl⟩
 ·cases h
theorem ln4 {α:Type}(us:List α)(h:us.length=4):∃ u0 u1 u2 u3,us=[u0,u1,u2,u3]:=by
 obtain _ | ⟨u0,us⟩:=us
 ·cases h
 obtain _ | ⟨u1,us⟩:=us
 ·cases h
 obtain _ | ⟨u2,us⟩:=us
 ·cases h
 obtain _ | ⟨u3,us⟩:=us
 ·cases h
 obtain _ | ⟨_,_⟩:=us
 ·exact ⟨_,_,_,_,rfl⟩
 ·cases h
noncomputable abbrev FnN (K:PySem.W.Frag)(x:Str)(f:Addr):Prop:=PySem.W.nsIn K mainGlobals x=some (some (.ref f))
noncomputable abbrev FnL (K:PySem.W.Frag)(f:Addr)(x:Str)(s:Stmt)(oc:Value)(od:Option Addr)(sl:Array (Option Value))(kV dc pm:Value)(an:Option Addr)(cd ct:Value):Prop:=K.lookup f=some ⟨oc,od,.func (PySem.W.fnOf x x (defArgs s) (defBody s) (defScope s) .none kV dc pm an cd ct),sl⟩
noncomputable abbrev FnC (K:PySem.W.Frag)(cd:Value)(x:Str):Prop:=PySem.W.codeIn K cd x=true
noncomputable abbrev FnK (K:PySem.W.Frag)(f:Addr):Prop:=PySem.W.keepIn K (.ref f)=true
theorem all_mk {l:PySem.W.OpenLaw}{w:World}{K:PySem.W.Frag}{h:Heap}{mg:Str->Option Value}{fa:Addr}(X:K.In h)(G:h.Ns mainGlobals mg)(hfa:mg "law" = some (.ref fa))
  {f0:Addr} {od0 an0:Option Addr} {sl0:Array (Option Value)} {oc0 kV0 dc0 pm0 cd0 ct0:Value}
  (a0:FnN K "is_name" f0) (l0:FnL K f0 "is_name" s_is_name oc0 od0 sl0 kV0 dc0 pm0 an0 cd0 ct0) (c0:FnC K cd0 "is_name") (k0:FnK K f0)
  {f1:Addr} {od1 an1:Option Addr} {sl1:Array (Option Value)} {oc1 kV1 dc1 pm1 cd1 ct1:Value}
  (a1:FnN K "words_of" f1) (l1:FnL K f1 "words_of" s_words_of oc1 od1 sl1 kV1 dc1 pm1 an1 cd1 ct1) (c1:FnC K cd1 "words_of") (k1:FnK K f1)
  {f2:Addr} {od2 an2:Option Addr} {sl2:Array (Option Value)} {oc2 kV2 dc2 pm2 cd2 ct2:Value}
  (a2:FnN K "number_in" f2) (l2:FnL K f2 "number_in" s_number_in oc2 od2 sl2 kV2 dc2 pm2 an2 cd2 ct2) (c2:FnC K cd2 "number_in") (k2:FnK K f2)
  {f3:Addr} {od3 an3:Option Addr} {sl3:Array (Option Value)} {oc3 kV3 dc3 pm3 cd3 ct3:Value}
  (a3:FnN K "first_fault" f3) (l3:FnL K f3 "first_fault" s_first_fault oc3 od3 sl3 kV3 dc3 pm3 an3 cd3 ct3) (c3:FnC K cd3 "first_fault") (k3:FnK K f3)
  {f4:Addr} {od4 an4:Option Addr} {sl4:Array (Option Value)} {oc4 kV4 dc4 pm4 cd4 ct4:Value}
  (a4:FnN K "works_fault" f4) (l4:FnL K f4 "works_fault" s_works_fault oc4 od4 sl4 kV4 dc4 pm4 an4 cd4 ct4) (c4:FnC K cd4 "works_fault") (k4:FnK K f4) (q4:jcf K cd4 72=true)
  {f5:Addr} {od5 an5:Option Addr} {sl5:Array (Option Value)} {oc5 kV5 dc5 pm5 cd5 ct5:Value}
  (a5:FnN K "span_fault" f5) (l5:FnL K f5 "span_fault" s_span_fault oc5 od5 sl5 kV5 dc5 pm5 an5 cd5 ct5) (c5:FnC K cd5 "span_fault") (k5:FnK K f5) (q5:jcf K cd5 79=true)
  {f6:Addr} {od6 an6:Option Addr} {sl6:Array (Option Value)} {oc6 kV6 dc6 pm6 cd6 ct6:Value}
  (a6:FnN K "span_in" f6) (l6:FnL K f6 "span_in" s_span_in oc6 od6 sl6 kV6 dc6 pm6 an6 cd6 ct6) (c6:FnC K cd6 "span_in") (k6:FnK K f6)
  {f7:Addr} {od7 an7:Option Addr} {sl7:Array (Option Value)} {oc7 kV7 dc7 pm7 cd7 ct7:Value}
  (a7:FnN K "plan_lines" f7) (l7:FnL K f7 "plan_lines" s_plan_lines oc7 od7 sl7 kV7 dc7 pm7 an7 cd7 ct7) (c7:FnC K cd7 "plan_lines") (k7:FnK K f7)
  {f8:Addr} {od8 an8:Option Addr} {sl8:Array (Option Value)} {oc8 kV8 dc8 pm8 cd8 ct8:Value}
  (a8:FnN K "read_plan" f8) (l8:FnL K f8 "read_plan" s_read_plan oc8 od8 sl8 kV8 dc8 pm8 an8 cd8 ct8) (c8:FnC K cd8 "read_plan") (k8:FnK K f8)
  {f9:Addr} {od9 an9:Option Addr} {sl9:Array (Option Value)} {oc9 kV9 dc9 pm9 cd9 ct9:Value}
  (a9:FnN K "_law_feed" f9) (l9:FnL K f9 "_law_feed" s_law_feed oc9 od9 sl9 kV9 dc9 pm9 an9 cd9 ct9) (c9:FnC K cd9 "_law_feed") (k9:FnK K f9)
  {f10:Addr} {od10 an10:Option Addr} {sl10:Array (Option Value)} {oc10 kV10 dc10 pm10 cd10 ct10:Value}
  (a10:FnN K "_law_draw" f10) (l10:FnL K f10 "_law_draw" s_law_draw oc10 od10 sl10 kV10 dc10 pm10 an10 cd10 ct10) (c10:FnC K cd10 "_law_draw") (k10:FnK K f10)
  {f11:Addr} {od11 an11:Option Addr} {sl11:Array (Option Value)} {oc11 kV11 dc11 pm11 cd11 ct11:Value}
  (a11:FnN K "_law_names" f11) (l11:FnL K f11 "_law_names" s_law_names oc11 od11 sl11 kV11 dc11 pm11 an11 cd11 ct11) (c11:FnC K cd11 "_law_names") (k11:FnK K f11)
  {f12:Addr} {od12 an12:Option Addr} {sl12:Array (Option Value)} {oc12 kV12 dc12 pm12 cd12 ct12:Value}
  (a12:FnN K "_law_cycle" f12) (l12:FnL K f12 "_law_cycle" s_law_cycle oc12 od12 sl12 kV12 dc12 pm12 an12 cd12 ct12) (c12:FnC K cd12 "_law_cycle") (k12:FnK K f12)
  {f13:Addr} {od13 an13:Option Addr} {sl13:Array (Option Value)} {oc13 kV13 dc13 pm13 cd13 ct13:Value}
  (a13:FnN K "_law_number" f13) (l13:FnL K f13 "_law_number" s_law_number oc13 od13 sl13 kV13 dc13 pm13 an13 cd13 ct13) (c13:FnC K cd13 "_law_number") (k13:FnK K f13)
  {f14:Addr} {od14 an14:Option Addr} {sl14:Array (Option Value)} {oc14 kV14 dc14 pm14 cd14 ct14:Value}
  (a14:FnN K "_law_span" f14) (l14:FnL K f14 "_law_span" s_law_span oc14 od14 sl14 kV14 dc14 pm14 an14 cd14 ct14) (c14:FnC K cd14 "_law_span") (k14:FnK K f14)
  {f15:Addr} {od15 an15:Option Addr} {sl15:Array (Option Value)} {oc15 kV15 dc15 pm15 cd15 ct15:Value}
  (a15:FnN K "_law_plan" f15) (l15:FnL K f15 "_law_plan" s_law_plan oc15 od15 sl15 kV15 dc15 pm15 an15 cd15 ct15) (c15:FnC K cd15 "_law_plan") (k15:FnK K f15)
  {f16:Addr} {od16 an16:Option Addr} {sl16:Array (Option Value)} {oc16 kV16 dc16 pm16 cd16 ct16:Value}
  (a16:FnN K "_law_lines" f16) (l16:FnL K f16 "_law_lines" s_law_lines oc16 od16 sl16 kV16 dc16 pm16 an16 cd16 ct16) (c16:FnC K cd16 "_law_lines") (k16:FnK K f16)
  {f17:Addr} {od17 an17:Option Addr} {sl17:Array (Option Value)} {oc17 kV17 dc17 pm17 cd17 ct17:Value}
  (a17:FnN K "law" f17) (l17:FnL K f17 "law" s_law oc17 od17 sl17 kV17 dc17 pm17 an17 cd17 ct17) (c17:FnC K cd17 "law") (k17:FnK K f17)
  (z_len:PySem.W.nsIn K mainGlobals "len" = some none)
  (z_repr:PySem.W.nsIn K mainGlobals "repr" = some none)
  (z_min:PySem.W.nsIn K mainGlobals "min" = some none)
  (z_max:PySem.W.nsIn K mainGlobals "max" = some none)
  (z_sum:PySem.W.nsIn K mainGlobals "sum" = some none)
  (z_all:PySem.W.nsIn K mainGlobals "all" = some none)
  (z_any:PySem.W.nsIn K mainGlobals "any" = some none)
  (z_sorted:PySem.W.nsIn K mainGlobals "sorted" = some none)
  (z_int:PySem.W.nsIn K mainGlobals "int" = some none)
  (z_str:PySem.W.nsIn K mainGlobals "str" = some none)
  (z_isinstance:PySem.W.nsIn K mainGlobals "isinstance" = some none)
  (z_range:PySem.W.nsIn K mainGlobals "range" = some none)
  (z_enumerate:PySem.W.nsIn K mainGlobals "enumerate" = some none)
  (z_list:PySem.W.nsIn K mainGlobals "list" = some none)
  (z_tuple:PySem.W.nsIn K mainGlobals "tuple" = some none)
  (z_bool:PySem.W.nsIn K mainGlobals "bool" = some none)
  (z_dict:PySem.W.nsIn K mainGlobals "dict" = some none)
  (z_ValueError:PySem.W.nsIn K mainGlobals "ValueError" = some none)
  (z_set:PySem.W.nsIn K mainGlobals "set" = some none)
  {t_MOST_SIGNS:Tok} (g_MOST_SIGNS:PySem.W.nsIn K mainGlobals "MOST_SIGNS" = some (some (.int 8 t_MOST_SIGNS)))
  {t_MOST_FIGURES:Tok} (g_MOST_FIGURES:PySem.W.nsIn K mainGlobals "MOST_FIGURES" = some (some (.int 4 t_MOST_FIGURES)))
  {t_FIGURES:Tok} (g_FIGURES:PySem.W.nsIn K mainGlobals "FIGURES" = some (some (.str "0123456789" t_FIGURES)))
  {t_MOST_NAMES:Tok} (g_MOST_NAMES:PySem.W.nsIn K mainGlobals "MOST_NAMES" = some (some (.int 8 t_MOST_NAMES)))
  {t_MOST_SPANS:Tok} (g_MOST_SPANS:PySem.W.nsIn K mainGlobals "MOST_SPANS" = some (some (.int 24 t_MOST_SPANS)))
  : ∃ fd:FuncData,(∀ (s:Shared) (v:Value),BindsTo s fd ⟨[v],[]⟩ [("_law_script",v)])/\∀ base:Heap,K.In base->base.Ns mainGlobals mg->BmAt mg base->FnOk l.prog w K mg base (CX1 l.prog w) 302 fa fd ["_law_script"] (lSp K (jaa T 300 jfv)):=by
 have e:=hfa.symm.trans (PySem.W.mg_of X G a17)
 cases e
 have F0:=jaw (st:=s_is_name) l0 c0 k0
 have b0:=F0.binds (ps:=["thing"]) fun _ _ _ _ _ _ us hl=>by obtain ⟨u0,rfl⟩:=ln1 us hl; rfl
 have F1:=jaw (st:=s_words_of) l1 c1 k1
 have b1:=F1.binds (ps:=["line"]) fun _ _ _ _ _ _ us hl=>by obtain ⟨u0,rfl⟩:=ln1 us hl; rfl
 have F2:=jaw (st:=s_number_in) l2 c2 k2
 have b2:=F2.binds (ps:=["word"]) fun _ _ _ _ _ _ us hl=>by obtain ⟨u0,rfl⟩:=ln1 us hl; rfl
 have F3:=jaw (st:=s_first_fault) l3 c3 k3
 have b3:=F3.binds (ps:=["words", "least", "fits"]) fun _ _ _ _ _ _ us hl=>by obtain ⟨u0,u1,u2,rfl⟩:=ln3 us hl; rfl
 have F4:=jaw (st:=s_works_fault) l4 c4 k4
 have b4:=F4.binds (ps:=["words"]) fun _ _ _ _ _ _ us hl=>by obtain ⟨u0,rfl⟩:=ln1 us hl; rfl
 have F5:=jaw (st:=s_span_fault) l5 c5 k5
 have b5:=F5.binds (ps:=["names", "words"]) fun _ _ _ _ _ _ us hl=>by obtain ⟨u0,u1,rfl⟩:=ln2 us hl; rfl
 have F6:=jaw (st:=s_span_in) l6 c6 k6
 have b6:=F6.binds (ps:=["names", "words"]) fun _ _ _ _ _ _ us hl=>by obtain ⟨u0,u1,rfl⟩:=ln2 us hl; rfl
 have F7:=jaw (st:=s_plan_lines) l7 c7 k7
 have b7:=F7.binds (ps:=["plan"]) fun _ _ _ _ _ _ us hl=>by obtain ⟨u0,rfl⟩:=ln1 us hl; rfl
 have F8:=jaw (st:=s_read_plan) l8 c8 k8
 have b8:=F8.binds (ps:=["lines"]) fun _ _ _ _ _ _ us hl=>by obtain ⟨u0,rfl⟩:=ln1 us hl; rfl
 have F9:=jaw (st:=s_law_feed) l9 c9 k9
 have b9:=F9.binds (ps:=["_law_script"]) fun _ _ _ _ _ _ us hl=>by obtain ⟨u0,rfl⟩:=ln1 us hl; rfl
 have F10:=jaw (st:=s_law_draw) l10 c10 k10
 have b10:=F10.binds (ps:=["_law_feed_here", "_law_many"]) fun _ _ _ _ _ _ us hl=>by obtain ⟨u0,u1,rfl⟩:=ln2 us hl; rfl
 have F11:=jaw (st:=s_law_names) l11 c11 k11
 have b11:=F11.binds (ps:=["_law_feed_here", "_law_many"]) fun _ _ _ _ _ _ us hl=>by obtain ⟨u0,u1,rfl⟩:=ln2 us hl; rfl
 have F12:=jaw (st:=s_law_cycle) l12 c12 k12
 have b12:=F12.binds (ps:=["_law_feed_here"]) fun _ _ _ _ _ _ us hl=>by obtain ⟨u0,rfl⟩:=ln1 us hl; rfl
 have F13:=jaw (st:=s_law_number) l13 c13 k13
 have b13:=F13.binds (ps:=["_law_feed_here", "_law_cycle_here"]) fun _ _ _ _ _ _ us hl=>by obtain ⟨u0,u1,rfl⟩:=ln2 us hl; rfl
 have F14:=jaw (st:=s_law_span) l14 c14 k14
 have b14:=F14.binds (ps:=["_law_feed_here", "_law_one", "_law_other", "_law_cycle_here"]) fun _ _ _ _ _ _ us hl=>by obtain ⟨u0,u1,u2,u3,rfl⟩:=ln4 us hl; rfl
 have F15:=jaw (st:=s_law_plan) l15 c15 k15
 have b15:=F15.binds (ps:=["_law_feed_here", "_law_cycle_here"]) fun _ _ _ _ _ _ us hl=>by obtain ⟨u0,u1,rfl⟩:=ln2 us hl; rfl
 have F16:=jaw (st:=s_law_lines) l16 c16 k16
 have b16:=F16.binds (ps:=["_law_plan_here"]) fun _ _ _ _ _ _ us hl=>by obtain ⟨u0,rfl⟩:=ln1 us hl; rfl
 have F17:=jaw (st:=s_law) l17 c17 k17
 have b17:=F17.binds (ps:=["_law_script"]) fun _ _ _ _ _ _ us hl=>by obtain ⟨u0,rfl⟩:=ln1 us hl; rfl
 refine ⟨PySem.W.fnOf "law" "law" (defArgs s_law) (defBody s_law) (defScope s_law) .none kV17 dc17 pm17 an17 cd17 ct17,fun s v=>.of_eq rfl,fun base hKb _ hB=>?_⟩
 have dyn:Dyn T K mg sts:=by
  intro n d st h1 h2
  rcases n with _ | n
  ·cases h1; cases h2; exact ⟨_,_,F0,PySem.W.mg_of X G a0,b0,fun z h=>by cases (show (none:Option Nst)=some z from h)⟩
  rcases n with _ | n
  ·cases h1; cases h2; exact ⟨_,_,F1,PySem.W.mg_of X G a1,b1,fun z h=>by cases (show (none:Option Nst)=some z from h)⟩
  rcases n with _ | n
  ·cases h1; cases h2; exact ⟨_,_,F2,PySem.W.mg_of X G a2,b2,fun z h=>by cases (show (none:Option Nst)=some z from h)⟩
  rcases n with _ | n
  ·cases h1; cases h2; exact ⟨_,_,F3,PySem.W.mg_of X G a3,b3,fun z h=>by cases (show (none:Option Nst)=some z from h)⟩
  rcases n with _ | n
  ·cases h1; cases h2; exact ⟨_,_,F4,PySem.W.mg_of X G a4,b4,fun z h=>by cases h; exact q4⟩
  rcases n with _ | n
  ·cases h1; cases h2; exact ⟨_,_,F5,PySem.W.mg_of X G a5,b5,fun z h=>by cases h; exact q5⟩
  rcases n with _ | n
  ·cases h1; cases h2; exact ⟨_,_,F6,PySem.W.mg_of X G a6,b6,fun z h=>by cases (show (none:Option Nst)=some z from h)⟩
  rcases n with _ | n
  ·cases h1; cases h2; exact ⟨_,_,F7,PySem.W.mg_of X G a7,b7,fun z h=>by cases (show (none:Option Nst)=some z from h)⟩
  rcases n with _ | n
  ·cases h1; cases h2; exact ⟨_,_,F8,PySem.W.mg_of X G a8,b8,fun z h=>by cases (show (none:Option Nst)=some z from h)⟩
  rcases n with _ | n
  ·cases h1; cases h2; exact ⟨_,_,F9,PySem.W.mg_of X G a9,b9,fun z h=>by cases (show (none:Option Nst)=some z from h)⟩
  rcases n with _ | n
  ·cases h1; cases h2; exact ⟨_,_,F10,PySem.W.mg_of X G a10,b10,fun z h=>by cases (show (none:Option Nst)=some z from h)⟩
  rcases n with _ | n
  ·cases h1; cases h2; exact ⟨_,_,F11,PySem.W.mg_of X G a11,b11,fun z h=>by cases (show (none:Option Nst)=some z from h)⟩
  rcases n with _ | n
  ·cases h1; cases h2; exact ⟨_,_,F12,PySem.W.mg_of X G a12,b12,fun z h=>by cases (show (none:Option Nst)=some z from h)⟩
  rcases n with _ | n
  ·cases h1; cases h2; exact ⟨_,_,F13,PySem.W.mg_of X G a13,b13,fun z h=>by cases (show (none:Option Nst)=some z from h)⟩
  rcases n with _ | n
  ·cases h1; cases h2; exact ⟨_,_,F14,PySem.W.mg_of X G a14,b14,fun z h=>by cases (show (none:Option Nst)=some z from h)⟩
  rcases n with _ | n
  ·cases h1; cases h2; exact ⟨_,_,F15,PySem.W.mg_of X G a15,b15,fun z h=>by cases (show (none:Option Nst)=some z from h)⟩
  rcases n with _ | n
  ·cases h1; cases h2; exact ⟨_,_,F16,PySem.W.mg_of X G a16,b16,fun z h=>by cases (show (none:Option Nst)=some z from h)⟩
  rcases n with _ | n
  ·cases h1; cases h2; exact ⟨_,_,F17,PySem.W.mg_of X G a17,b17,fun z h=>by cases (show (none:Option Nst)=some z from h)⟩
  cases h1
 have hb:∀ x∈jbk,mg x=none:=by
  intro x hx
  simp only [jbk,List.mem_cons,List.not_mem_nil,or_false] at hx
  rcases hx with rfl | rfl | rfl | rfl | rfl | rfl | rfl | rfl | rfl | rfl | rfl | rfl | rfl | rfl | rfl | rfl | rfl | rfl | rfl
  ·exact PySem.W.mg_none_of X G z_len
  ·exact PySem.W.mg_none_of X G z_repr
  ·exact PySem.W.mg_none_of X G z_min
  ·exact PySem.W.mg_none_of X G z_max
  ·exact PySem.W.mg_none_of X G z_sum
  ·exact PySem.W.mg_none_of X G z_all
  ·exact PySem.W.mg_none_of X G z_any
  ·exact PySem.W.mg_none_of X G z_sorted
  ·exact PySem.W.mg_none_of X G z_int
  ·exact PySem.W.mg_none_of X G z_str
  ·exact PySem.W.mg_none_of X G z_isinstance
  ·exact PySem.W.mg_none_of X G z_range
  ·exact PySem.W.mg_none_of X G z_enumerate
  ·exact PySem.W.mg_none_of X G z_list
  ·exact PySem.W.mg_none_of X G z_tuple
  ·exact PySem.W.mg_none_of X G z_bool
  ·exact PySem.W.mg_none_of X G z_dict
  ·exact PySem.W.mg_none_of X G z_ValueError
  ·exact PySem.W.mg_none_of X G z_set
 have hg:∀ (n:Nat) (x:Str) (u:U),T.gn[n]?=some x->T.gs[n]?=some u->∃ v w,mg x=some w/\RelV v w/\∀ H,RU K H u v:=by
  intro n x u h1 h2
  rcases n with _ | n
  ·cases h1; cases h2; exact ⟨V.int 8,_,PySem.W.mg_of X G g_MOST_SIGNS,⟨_,rfl⟩,fun _=>rfl⟩
  rcases n with _ | n
  ·cases h1; cases h2; exact ⟨V.int 4,_,PySem.W.mg_of X G g_MOST_FIGURES,⟨_,rfl⟩,fun _=>rfl⟩
  rcases n with _ | n
  ·cases h1; cases h2; exact ⟨V.str "0123456789",_,PySem.W.mg_of X G g_FIGURES,⟨_,rfl⟩,fun _=>rfl⟩
  rcases n with _ | n
  ·cases h1; cases h2; exact ⟨V.int 8,_,PySem.W.mg_of X G g_MOST_NAMES,⟨_,rfl⟩,fun _=>rfl⟩
  rcases n with _ | n
  ·cases h1; cases h2; exact ⟨V.int 24,_,PySem.W.mg_of X G g_MOST_SPANS,⟨_,rfl⟩,fun _=>rfl⟩
  cases h1
 have hc:∀ n∈T.cs,1<=n->∃ C,XCls K (gK K) (clsN n) (clsF n) C:=by
  intro n hn h1
  exact absurd hn (by show n∉([]:List Nat); simp)
 have hm:=jkr X G
 exact jeJ F17 jgp jh8 dyn jlR hKb hB hb hg hc hm (d:=ji4) (n:=jfv) rfl rfl rfl
noncomputable def tbs:List (Str×Addr×Addr):=[("works_fault",76,72),("span_fault",83,79)]
theorem walk {l:PySem.W.OpenLaw}{q:Program}{loose:List Str}{XP:(Str->Option Value)->Heap->Prop}{YP:World->Heap->Prop}{d:DefRec}{K:Params->PySem.W.Frag}(hn:l.most=some 63)(hdf:d.params.defaults=[])
  (hY:∀ (w:World) (h:Heap),YP w h->(K w.params).In h) (hK:∀ w:World,((K w.params).all fun p=>p.2.cls != .type "list")=true) (hsy:∀ w:World,∃ o,(K w.params).lookup sysModules=some o/\o.cls=.type "dict")
  (hT:∀ (w:World),∀ t∈tbs,(∃ dr,(PyProof.Rows.recsOf q).find? (fun e=>e.name == t.1)=some dr)/\PySem.W.tabIn (K w.params) t.1=some (t.2.1,t.2.2)/\(K w.params).lookup t.2.2=none)
  (F:∀ (w:World) (mg:Str->Option Value) (fa:Addr) (h:Heap),(K w.params).In h->h.Ns mainGlobals mg->mg d.name=some (.ref fa)->
   ∃ fd:FuncData,(∀ (s:Shared) (u:Value),BindsTo s fd ⟨[u],[]⟩ [("_law_script",u)])/\∀ base:Heap,(K w.params).In base->base.Ns mainGlobals mg->BmAt mg base->FnOk l.prog w (K w.params) mg base (CX1 l.prog w) 302 fa fd ["_law_script"] (lSp (K w.params) (jaa T 300 jfv))) :
  PySem.W.WalkO q loose XP YP l.row.toRowW d [] (fun f vs=>PySem.call f vs):=
 L2.walk_ofT (n:=63) (k:=302) (x := "_law_script") (CX:=fun w=>CX1 l.prog w) (sp:=fun w=>lSp (K w.params) (jaa T 300 jfv)) hK hT hn (by decide) hdf ⟨rfl,by decide,by decide,rfl⟩ hY hsy F (fun w _ _ a ns hl hO hS=>law_sp (by decide) hO hS (law_ir a ns hl)) fun _ _ _ _ _ ⟨_,_,_,_,_,_,_,_,_,_,z⟩=>z
end Z
def Z.bY7:List PySem.Stmt:=L2.defBody (Z.top 7)
def Z.cY7:PySem.Scope:=L2.defScope (Z.top 7)
def Z.bY11:List PySem.Stmt:=L2.defBody (Z.top 11)
def Z.cY11:PySem.Scope:=L2.defScope (Z.top 11)
def Z.bY12:List PySem.Stmt:=L2.defBody (Z.top 12)
def Z.cY12:PySem.Scope:=L2.defScope (Z.top 12)
def Z.bY13:List PySem.Stmt:=L2.defBody (Z.top 13)
def Z.cY13:PySem.Scope:=L2.defScope (Z.top 13)
def Z.bY14:List PySem.Stmt:=L2.defBody (Z.top 14)
def Z.cY14:PySem.Scope:=L2.defScope (Z.top 14)
def Z.bY15:List PySem.Stmt:=L2.defBody (Z.top 15)
def Z.cY15:PySem.Scope:=L2.defScope (Z.top 15)
def Z.bY16:List PySem.Stmt:=L2.defBody (Z.top 16)
def Z.cY16:PySem.Scope:=L2.defScope (Z.top 16)
def Z.bY17:List PySem.Stmt:=L2.defBody (Z.top 17)
def Z.cY17:PySem.Scope:=L2.defScope (Z.top 17)
def Z.bY18:List PySem.Stmt:=L2.defBody (Z.top 18)
def Z.cY18:PySem.Scope:=L2.defScope (Z.top 18)
def Z.bY20:List PySem.Stmt:=L2.defBody (Z.top 20)
def Z.cY20:PySem.Scope:=L2.defScope (Z.top 20)
def Z.bY21:List PySem.Stmt:=L2.defBody (Z.top 21)
def Z.cY21:PySem.Scope:=L2.defScope (Z.top 21)
def Z.bY22:List PySem.Stmt:=L2.defBody (Z.top 22)
def Z.cY22:PySem.Scope:=L2.defScope (Z.top 22)
def Z.bY23:List PySem.Stmt:=L2.defBody (Z.top 23)
def Z.cY23:PySem.Scope:=L2.defScope (Z.top 23)
def Z.bY24:List PySem.Stmt:=L2.defBody (Z.top 24)
def Z.cY24:PySem.Scope:=L2.defScope (Z.top 24)
def Z.bY25:List PySem.Stmt:=L2.defBody (Z.top 25)
def Z.cY25:PySem.Scope:=L2.defScope (Z.top 25)
def Z.bY26:List PySem.Stmt:=L2.defBody (Z.top 26)
def Z.cY26:PySem.Scope:=L2.defScope (Z.top 26)
def Z.bY27:List PySem.Stmt:=L2.defBody (Z.top 27)
def Z.cY27:PySem.Scope:=L2.defScope (Z.top 27)
def Z.bY28:List PySem.Stmt:=L2.defBody (Z.top 28)
def Z.cY28:PySem.Scope:=L2.defScope (Z.top 28)
def Z.sY0:PySem.Stmt:=(PySem.Stmt.Assign (targets:=[(PySem.Expr.Name "__name__" ⟨1,0,1,8⟩)]) (value:=(PySem.Expr.Constant (PySem.Const.str "beatplans.errors") 0 ⟨1,11,1,29⟩)) (pos:=⟨1,0,1,29⟩))
def Z.sY1:PySem.Stmt:=(PySem.Stmt.ClassDef (name := "PlanError") (bases:=[(PySem.Expr.Name "ValueError" ⟨2,16,2,26⟩)]) (keywords:=[]) (body:=[(PySem.Stmt.Pass ⟨3,4,3,8⟩)]) (decorator_list:=[]) (type_params:=[]) (scope:={ kind:=PySem.ScopeKind.class,names:=[],isGenerator:=false,isCoroutine:=false,more:=[]:PySem.Scope }) (tscope:=none) (bind := "PlanError") (static_attributes:=[]) (pos:=⟨2,0,3,8⟩))
def Z.sY2:PySem.Stmt:=(PySem.Stmt.ClassDef (name := "NoText") (bases:=[(PySem.Expr.Name "PlanError" ⟨4,13,4,22⟩)]) (keywords:=[]) (body:=[ (PySem.Stmt.FunctionDef (name := "__init__") (args:={ posonlyargs:=[],args:=[ { arg := "self",annotation:=none,pos:=⟨6,17,6,21⟩:PySem.Arg },{ arg := "row",annotation:=none,pos:=⟨6,23,6,26⟩:PySem.Arg },{ arg := "word",annotation:=none,pos:=⟨6,28,6,32⟩:PySem.Arg }],vararg:=none,kwonlyargs:=[],kw_defaults:=[],kwarg:=none,defaults:=[]:PySem.Arguments }) (body:=[ (PySem.Stmt.Assign (targets:=[(PySem.Expr.Attribute (PySem.Expr.Name "self" ⟨7,8,7,12⟩) "row" ⟨7,8,7,16⟩)]) (value:=(PySem.Expr.Name "row" ⟨7,19,7,22⟩)) (pos:=⟨7,8,7,22⟩)),(PySem.Stmt.Assign (targets:=[(PySem.Expr.Attribute (PySem.Expr.Name "self" ⟨8,8,8,12⟩) "word" ⟨8,8,8,17⟩)]) (value:=(PySem.Expr.Name "word" ⟨8,20,8,24⟩)) (pos:=⟨8,8,8,24⟩))]) (decorator_list:=[]) (returns:=none) (type_params:=[]) (scope:={ kind:=PySem.ScopeKind.function,names:=[ (PySem.Str.ofString "self",PySem.NameKind.local),(PySem.Str.ofString "row",PySem.NameKind.local),(PySem.Str.ofString "word",PySem.NameKind.local)],isGenerator:=false,isCoroutine:=false,more:=[]:PySem.Scope }) (tscope:=none) (bind := "__init__") (pos:=⟨6,4,8,24⟩))]) (decorator_list:=[]) (type_params:=[]) (scope:={ kind:=PySem.ScopeKind.class,names:=[(PySem.Str.ofString "__init__",PySem.NameKind.local)],isGenerator:=false,isCoroutine:=false,more:=[]:PySem.Scope }) (tscope:=none) (bind := "NoText") (static_attributes:=[PySem.Str.ofString "row",PySem.Str.ofString "word"]) (pos:=⟨4,0,8,24⟩))
def Z.sY3:PySem.Stmt:=(PySem.Stmt.Assign (targets:=[(PySem.Expr.Name "__name__" ⟨9,0,9,8⟩)]) (value:=(PySem.Expr.Constant (PySem.Const.str "beatplans.plans") 0 ⟨9,11,9,28⟩)) (pos:=⟨9,0,9,28⟩))
def Z.sY4:PySem.Stmt:=(PySem.Stmt.Assign (targets:=[(PySem.Expr.Name "MOST_SIGNS" ⟨10,0,10,10⟩)]) (value:=(PySem.Expr.Constant (PySem.Const.int 8) 0 ⟨10,13,10,14⟩)) (pos:=⟨10,0,10,14⟩))
def Z.sY5:PySem.Stmt:=(PySem.Stmt.Assign (targets:=[(PySem.Expr.Name "MOST_NAMES" ⟨11,0,11,10⟩)]) (value:=(PySem.Expr.Constant (PySem.Const.int 8) 0 ⟨11,13,11,14⟩)) (pos:=⟨11,0,11,14⟩))
def Z.sY6:PySem.Stmt:=(PySem.Stmt.Assign (targets:=[(PySem.Expr.Name "MOST_SPANS" ⟨12,0,12,10⟩)]) (value:=(PySem.Expr.Constant (PySem.Const.int 24) 0 ⟨12,13,12,15⟩)) (pos:=⟨12,0,12,15⟩))
def Z.sY7:PySem.Stmt:=(PySem.Stmt.FunctionDef (name := "is_name") (args:={ posonlyargs:=[],args:=[{ arg := "thing",annotation:=none,pos:=⟨13,12,13,17⟩:PySem.Arg }],vararg:=none,kwonlyargs:=[],kw_defaults:=[],kwarg:=none,defaults:=[]:PySem.Arguments }) (body:=Z.bY7) (decorator_list:=[]) (returns:=none) (type_params:=[]) (scope:=Z.cY7) (tscope:=none) (bind := "is_name") (pos:=⟨13,0,16,54⟩))
def Z.sY8:PySem.Stmt:=(PySem.Stmt.Assign (targets:=[(PySem.Expr.Name "__name__" ⟨17,0,17,8⟩)]) (value:=(PySem.Expr.Constant (PySem.Const.str "beatplans.lines") 0 ⟨17,11,17,28⟩)) (pos:=⟨17,0,17,28⟩))
def Z.sY9:PySem.Stmt:=(PySem.Stmt.Assign (targets:=[(PySem.Expr.Name "MOST_FIGURES" ⟨18,0,18,12⟩)]) (value:=(PySem.Expr.Constant (PySem.Const.int 4) 0 ⟨18,15,18,16⟩)) (pos:=⟨18,0,18,16⟩))
def Z.sY10:PySem.Stmt:=(PySem.Stmt.Assign (targets:=[(PySem.Expr.Name "FIGURES" ⟨19,0,19,7⟩)]) (value:=(PySem.Expr.Constant (PySem.Const.str "0123456789") 0 ⟨19,10,19,22⟩)) (pos:=⟨19,0,19,22⟩))
def Z.sY11:PySem.Stmt:=(PySem.Stmt.FunctionDef (name := "words_of") (args:={ posonlyargs:=[],args:=[{ arg := "line",annotation:=none,pos:=⟨20,13,20,17⟩:PySem.Arg }],vararg:=none,kwonlyargs:=[],kw_defaults:=[],kwarg:=none,defaults:=[]:PySem.Arguments }) (body:=Z.bY11) (decorator_list:=[]) (returns:=none) (type_params:=[]) (scope:=Z.cY11) (tscope:=none) (bind := "words_of") (pos:=⟨20,0,21,26⟩))
def Z.sY12:PySem.Stmt:=(PySem.Stmt.FunctionDef (name := "number_in") (args:={ posonlyargs:=[],args:=[{ arg := "word",annotation:=none,pos:=⟨22,14,22,18⟩:PySem.Arg }],vararg:=none,kwonlyargs:=[],kw_defaults:=[],kwarg:=none,defaults:=[]:PySem.Arguments }) (body:=Z.bY12) (decorator_list:=[]) (returns:=none) (type_params:=[]) (scope:=Z.cY12) (tscope:=none) (bind := "number_in") (pos:=⟨22,0,25,66⟩))
def Z.sY13:PySem.Stmt:=(PySem.Stmt.FunctionDef (name := "first_fault") (args:={ posonlyargs:=[],args:=[ { arg := "words",annotation:=none,pos:=⟨26,16,26,21⟩:PySem.Arg },{ arg := "least",annotation:=none,pos:=⟨26,23,26,28⟩:PySem.Arg },{ arg := "fits",annotation:=none,pos:=⟨26,30,26,34⟩:PySem.Arg }],vararg:=none,kwonlyargs:=[],kw_defaults:=[],kwarg:=none,defaults:=[]:PySem.Arguments }) (body:=Z.bY13) (decorator_list:=[]) (returns:=none) (type_params:=[]) (scope:=Z.cY13) (tscope:=none) (bind := "first_fault") (pos:=⟨26,0,30,53⟩))
def Z.sY14:PySem.Stmt:=(PySem.Stmt.FunctionDef (name := "works_fault") (args:={ posonlyargs:=[],args:=[{ arg := "words",annotation:=none,pos:=⟨31,16,31,21⟩:PySem.Arg }],vararg:=none,kwonlyargs:=[],kw_defaults:=[],kwarg:=none,defaults:=[]:PySem.Arguments }) (body:=Z.bY14) (decorator_list:=[]) (returns:=none) (type_params:=[]) (scope:=Z.cY14) (tscope:=none) (bind := "works_fault") (pos:=⟨31,0,37,38⟩))
def Z.sY15:PySem.Stmt:=(PySem.Stmt.FunctionDef (name := "span_fault") (args:={ posonlyargs:=[],args:=[ { arg := "names",annotation:=none,pos:=⟨38,15,38,20⟩:PySem.Arg },{ arg := "words",annotation:=none,pos:=⟨38,22,38,27⟩:PySem.Arg }],vararg:=none,kwonlyargs:=[],kw_defaults:=[],kwarg:=none,defaults:=[]:PySem.Arguments }) (body:=Z.bY15) (decorator_list:=[]) (returns:=none) (type_params:=[]) (scope:=Z.cY15) (tscope:=none) (bind := "span_fault") (pos:=⟨38,0,48,38⟩))
def Z.sY16:PySem.Stmt:=(PySem.Stmt.FunctionDef (name := "span_in") (args:={ posonlyargs:=[],args:=[ { arg := "names",annotation:=none,pos:=⟨49,12,49,17⟩:PySem.Arg },{ arg := "words",annotation:=none,pos:=⟨49,19,49,24⟩:PySem.Arg }],vararg:=none,kwonlyargs:=[],kw_defaults:=[],kwarg:=none,defaults:=[]:PySem.Arguments }) (body:=Z.bY16) (decorator_list:=[]) (returns:=none) (type_params:=[]) (scope:=Z.cY16) (tscope:=none) (bind := "span_in") (pos:=⟨49,0,51,88⟩))
def Z.sY17:PySem.Stmt:=(PySem.Stmt.FunctionDef (name := "plan_lines") (args:={ posonlyargs:=[],args:=[{ arg := "plan",annotation:=none,pos:=⟨52,15,52,19⟩:PySem.Arg }],vararg:=none,kwonlyargs:=[],kw_defaults:=[],kwarg:=none,defaults:=[]:PySem.Arguments }) (body:=Z.bY17) (decorator_list:=[]) (returns:=none) (type_params:=[]) (scope:=Z.cY17) (tscope:=none) (bind := "plan_lines") (pos:=⟨52,0,57,16⟩))
def Z.sY18:PySem.Stmt:=(PySem.Stmt.FunctionDef (name := "read_plan") (args:={ posonlyargs:=[],args:=[{ arg := "lines",annotation:=none,pos:=⟨58,14,58,19⟩:PySem.Arg }],vararg:=none,kwonlyargs:=[],kw_defaults:=[],kwarg:=none,defaults:=[]:PySem.Arguments }) (body:=Z.bY18) (decorator_list:=[]) (returns:=none) (type_params:=[]) (scope:=Z.cY18) (tscope:=none) (bind := "read_plan") (pos:=⟨58,0,73,32⟩))
def Z.sY19:PySem.Stmt:=(PySem.Stmt.Assign (targets:=[(PySem.Expr.Name "__name__" ⟨74,0,74,8⟩)]) (value:=(PySem.Expr.Constant (PySem.Const.str "law_beatplans_k74_plans_as_lines") 0 ⟨74,11,74,45⟩)) (pos:=⟨74,0,74,45⟩))
def Z.sY20:PySem.Stmt:=(PySem.Stmt.FunctionDef (name := "_law_feed") (args:={ posonlyargs:=[],args:=[{ arg := "_law_script",annotation:=none,pos:=⟨75,14,75,25⟩:PySem.Arg }],vararg:=none,kwonlyargs:=[],kw_defaults:=[],kwarg:=none,defaults:=[]:PySem.Arguments }) (body:=Z.bY20) (decorator_list:=[]) (returns:=none) (type_params:=[]) (scope:=Z.cY20) (tscope:=none) (bind := "_law_feed") (pos:=⟨75,0,76,110⟩))
def Z.sY21:PySem.Stmt:=(PySem.Stmt.FunctionDef (name := "_law_draw") (args:={ posonlyargs:=[],args:=[ { arg := "_law_feed_here",annotation:=none,pos:=⟨77,14,77,28⟩:PySem.Arg },{ arg := "_law_many",annotation:=none,pos:=⟨77,30,77,39⟩:PySem.Arg }],vararg:=none,kwonlyargs:=[],kw_defaults:=[],kwarg:=none,defaults:=[]:PySem.Arguments }) (body:=Z.bY21) (decorator_list:=[]) (returns:=none) (type_params:=[]) (scope:=Z.cY21) (tscope:=none) (bind := "_law_draw") (pos:=⟨77,0,89,21⟩))
def Z.sY22:PySem.Stmt:=(PySem.Stmt.FunctionDef (name := "_law_names") (args:={ posonlyargs:=[],args:=[ { arg := "_law_feed_here",annotation:=none,pos:=⟨90,15,90,29⟩:PySem.Arg },{ arg := "_law_many",annotation:=none,pos:=⟨90,31,90,40⟩:PySem.Arg }],vararg:=none,kwonlyargs:=[],kw_defaults:=[],kwarg:=none,defaults:=[]:PySem.Arguments }) (body:=Z.bY22) (decorator_list:=[]) (returns:=none) (type_params:=[]) (scope:=Z.cY22) (tscope:=none) (bind := "_law_names") (pos:=⟨90,0,100,33⟩))
def Z.sY23:PySem.Stmt:=(PySem.Stmt.FunctionDef (name := "_law_cycle") (args:={ posonlyargs:=[],args:=[{ arg := "_law_feed_here",annotation:=none,pos:=⟨101,15,101,29⟩:PySem.Arg }],vararg:=none,kwonlyargs:=[],kw_defaults:=[],kwarg:=none,defaults:=[]:PySem.Arguments }) (body:=Z.bY23) (decorator_list:=[]) (returns:=none) (type_params:=[]) (scope:=Z.cY23) (tscope:=none) (bind := "_law_cycle") (pos:=⟨101,0,102,92⟩))
def Z.sY24:PySem.Stmt:=(PySem.Stmt.FunctionDef (name := "_law_number") (args:={ posonlyargs:=[],args:=[ { arg := "_law_feed_here",annotation:=none,pos:=⟨103,16,103,30⟩:PySem.Arg },{ arg := "_law_cycle_here",annotation:=none,pos:=⟨103,32,103,47⟩:PySem.Arg }],vararg:=none,kwonlyargs:=[],kw_defaults:=[],kwarg:=none,defaults:=[]:PySem.Arguments }) (body:=Z.bY24) (decorator_list:=[]) (returns:=none) (type_params:=[]) (scope:=Z.cY24) (tscope:=none) (bind := "_law_number") (pos:=⟨103,0,109,84⟩))
def Z.sY25:PySem.Stmt:=(PySem.Stmt.FunctionDef (name := "_law_span") (args:={ posonlyargs:=[],args:=[ { arg := "_law_feed_here",annotation:=none,pos:=⟨110,14,110,28⟩:PySem.Arg },{ arg := "_law_one",annotation:=none,pos:=⟨110,30,110,38⟩:PySem.Arg },{ arg := "_law_other",annotation:=none,pos:=⟨110,40,110,50⟩:PySem.Arg },{ arg := "_law_cycle_here",annotation:=none,pos:=⟨110,52,110,67⟩:PySem.Arg }],vararg:=none,kwonlyargs:=[],kw_defaults:=[],kwarg:=none,defaults:=[]:PySem.Arguments }) (body:=Z.bY25) (decorator_list:=[]) (returns:=none) (type_params:=[]) (scope:=Z.cY25) (tscope:=none) (bind := "_law_span") (pos:=⟨110,0,115,84⟩))
def Z.sY26:PySem.Stmt:=(PySem.Stmt.FunctionDef (name := "_law_plan") (args:={ posonlyargs:=[],args:=[ { arg := "_law_feed_here",annotation:=none,pos:=⟨116,14,116,28⟩:PySem.Arg },{ arg := "_law_cycle_here",annotation:=none,pos:=⟨116,30,116,45⟩:PySem.Arg }],vararg:=none,kwonlyargs:=[],kw_defaults:=[],kwarg:=none,defaults:=[]:PySem.Arguments }) (body:=Z.bY26) (decorator_list:=[]) (returns:=none) (type_params:=[]) (scope:=Z.cY26) (tscope:=none) (bind := "_law_plan") (pos:=⟨116,0,125,47⟩))
def Z.sY27:PySem.Stmt:=(PySem.Stmt.FunctionDef (name := "_law_lines") (args:={ posonlyargs:=[],args:=[{ arg := "_law_plan_here",annotation:=none,pos:=⟨126,15,126,29⟩:PySem.Arg }],vararg:=none,kwonlyargs:=[],kw_defaults:=[],kwarg:=none,defaults:=[]:PySem.Arguments }) (body:=Z.bY27) (decorator_list:=[]) (returns:=none) (type_params:=[]) (scope:=Z.cY27) (tscope:=none) (bind := "_law_lines") (pos:=⟨126,0,132,26⟩))
def Z.sY28:PySem.Stmt:=(PySem.Stmt.FunctionDef (name := "law") (args:={ posonlyargs:=[],args:=[{ arg := "_law_script",annotation:=none,pos:=⟨133,8,133,19⟩:PySem.Arg }],vararg:=none,kwonlyargs:=[],kw_defaults:=[],kwarg:=none,defaults:=[]:PySem.Arguments }) (body:=Z.bY28) (decorator_list:=[]) (returns:=none) (type_params:=[]) (scope:=Z.cY28) (tscope:=none) (bind := "law") (pos:=⟨133,0,155,15⟩))
set_option maxRecDepth 100000 in
def Z.pwS:PySem.Program:={ main:={ body:=[Z.sY0,Z.sY1,Z.sY2,Z.sY3,Z.sY4,Z.sY5,Z.sY6,Z.sY7,Z.sY8,Z.sY9,Z.sY10,Z.sY11,Z.sY12,Z.sY13,Z.sY14,Z.sY15,Z.sY16,Z.sY17,Z.sY18,Z.sY19,Z.sY20,Z.sY21,Z.sY22,Z.sY23,Z.sY24,Z.sY25,Z.sY26,Z.sY27,Z.sY28],scope:={ kind:=PySem.ScopeKind.module,names:=[ (PySem.Str.ofString "__name__",PySem.NameKind.local),(PySem.Str.ofString "PlanError",PySem.NameKind.local),(PySem.Str.ofString "ValueError",PySem.NameKind.globalImplicit),(PySem.Str.ofString "NoText",PySem.NameKind.local),(PySem.Str.ofString "MOST_SIGNS",PySem.NameKind.local),(PySem.Str.ofString "MOST_NAMES",PySem.NameKind.local),(PySem.Str.ofString "MOST_SPANS",PySem.NameKind.local),(PySem.Str.ofString "is_name",PySem.NameKind.local),(PySem.Str.ofString "MOST_FIGURES",PySem.NameKind.local),(PySem.Str.ofString "FIGURES",PySem.NameKind.local),(PySem.Str.ofString "words_of",PySem.NameKind.local),(PySem.Str.ofString "number_in",PySem.NameKind.local),(PySem.Str.ofString "first_fault",PySem.NameKind.local),(PySem.Str.ofString "works_fault",PySem.NameKind.local),(PySem.Str.ofString "span_fault",PySem.NameKind.local),(PySem.Str.ofString "span_in",PySem.NameKind.local),(PySem.Str.ofString "plan_lines",PySem.NameKind.local),(PySem.Str.ofString "read_plan",PySem.NameKind.local),(PySem.Str.ofString "_law_feed",PySem.NameKind.local),(PySem.Str.ofString "_law_draw",PySem.NameKind.local),(PySem.Str.ofString "_law_names",PySem.NameKind.local),(PySem.Str.ofString "_law_cycle",PySem.NameKind.local),(PySem.Str.ofString "_law_number",PySem.NameKind.local),(PySem.Str.ofString "_law_span",PySem.NameKind.local),(PySem.Str.ofString "_law_plan",PySem.NameKind.local),(PySem.Str.ofString "_law_lines",PySem.NameKind.local),(PySem.Str.ofString "law",PySem.NameKind.local)],isGenerator:=false,isCoroutine:=false,more:=[]:PySem.Scope },futureAnnotations:=false,file := "/claim/cut.py",more:=[]:PySem.Module },modules:=[],parses:=[],absent:=[],harvested:=[],given:={ argv:=[],stdin:=[],environ:=(some [([76,67,95,65,76,76],[67,46,85,84,70,45,56])]):PySem.Given }:PySem.Program } 
def Z.rwS:PySem.W.OpenLaw :={ prog:=Z.pwS,name:=(PySem.Str.ofString "law"),about:=[(PySem.Str.ofString "read_plan")],foot:=9,most:=some 63,bound:=none,writes:=false }
theorem Z.rw_eq:PySem.Challenge.rw_beatplans_k74_plans_as_lines=Z.rwS:=rfl
noncomputable def Z.aY7:PySem.Arguments:=L2.defArgs (Z.top 7)
noncomputable def Z.aY11:PySem.Arguments:=L2.defArgs (Z.top 11)
noncomputable def Z.aY12:PySem.Arguments:=L2.defArgs (Z.top 12)
noncomputable def Z.aY13:PySem.Arguments:=L2.defArgs (Z.top 13)
noncomputable def Z.aY14:PySem.Arguments:=L2.defArgs (Z.top 14)
noncomputable def Z.aY15:PySem.Arguments:=L2.defArgs (Z.top 15)
noncomputable def Z.aY16:PySem.Arguments:=L2.defArgs (Z.top 16)
noncomputable def Z.aY17:PySem.Arguments:=L2.defArgs (Z.top 17)
noncomputable def Z.aY18:PySem.Arguments:=L2.defArgs (Z.top 18)
noncomputable def Z.aY20:PySem.Arguments:=L2.defArgs (Z.top 20)
noncomputable def Z.aY21:PySem.Arguments:=L2.defArgs (Z.top 21)
noncomputable def Z.aY22:PySem.Arguments:=L2.defArgs (Z.top 22)
noncomputable def Z.aY23:PySem.Arguments:=L2.defArgs (Z.top 23)
noncomputable def Z.aY24:PySem.Arguments:=L2.defArgs (Z.top 24)
noncomputable def Z.aY25:PySem.Arguments:=L2.defArgs (Z.top 25)
noncomputable def Z.aY26:PySem.Arguments:=L2.defArgs (Z.top 26)
noncomputable def Z.aY27:PySem.Arguments:=L2.defArgs (Z.top 27)
noncomputable def Z.aY28:PySem.Arguments:=L2.defArgs (Z.top 28)
open PySem in
noncomputable def Z.KK:Params->W.Frag:=fun P=>
 ((nat_lit 1:Addr),(W.boot_o_1 P:Obj))::
  ((nat_lit 3:Addr),({ cls:=Value.type "dict",data:=Data.dict (List.toArray (({ hash:=PyData.keyHash P (Str.ofString "__name__"),key:=Value.str (Str.ofString "__name__") 165,val:=Value.str (Str.ofString "law_beatplans_k74_plans_as_lines") 338 }:DictEntry)::({ hash:=PyData.keyHash P (Str.ofString "__doc__"),key:=Value.str (Str.ofString "__doc__") 166,val:=Value.none }:DictEntry)::({ hash:=PyData.keyHash P (Str.ofString "__package__"),key:=Value.str (Str.ofString "__package__") 167,val:=Value.none }:DictEntry)::({ hash:=PyData.keyHash P (Str.ofString "__loader__"),key:=Value.str (Str.ofString "__loader__") 168,val:=Value.builtin "__main__.__loader__#opaque" }:DictEntry)::({ hash:=PyData.keyHash P (Str.ofString "__spec__"),key:=Value.str (Str.ofString "__spec__") 169,val:=Value.none }:DictEntry)::({ hash:=PyData.keyHash P (Str.ofString "__annotations__"),key:=Value.str (Str.ofString "__annotations__") 170,val:=Value.ref 6 }:DictEntry)::({ hash:=PyData.keyHash P (Str.ofString "__builtins__"),key:=Value.str (Str.ofString "__builtins__") 171,val:=Value.ref 4 }:DictEntry)::({ hash:=PyData.keyHash P (Str.ofString "__file__"),key:=Value.str (Str.ofString "__file__") 173,val:=Value.str (Str.ofString "/claim/cut.py") 172 }:DictEntry)::({ hash:=PyData.keyHash P (Str.ofString "__cached__"),key:=Value.str (Str.ofString "__cached__") 174,val:=Value.none }:DictEntry)::({ hash:=PyData.keyHash P (Str.ofString "PlanError"),key:=Value.str (Str.ofString "PlanError") 206,val:=Value.ref 24 }:DictEntry)::({ hash:=PyData.keyHash P (Str.ofString "NoText"),key:=Value.str (Str.ofString "NoText") 233,val:=Value.ref 44 }:DictEntry)::({ hash:=PyData.keyHash P (Str.ofString "MOST_SIGNS"),key:=Value.str (Str.ofString "MOST_SIGNS") 237,val:=Value.int 8 236 }:DictEntry)::({ hash:=PyData.keyHash P (Str.ofString "MOST_NAMES"),key:=Value.str (Str.ofString "MOST_NAMES") 239,val:=Value.int 8 238 }:DictEntry)::({ hash:=PyData.keyHash P (Str.ofString "MOST_SPANS"),key:=Value.str (Str.ofString "MOST_SPANS") 241,val:=Value.int 24 240 }:DictEntry)::({ hash:=PyData.keyHash P (Str.ofString "is_name"),key:=Value.str (Str.ofString "is_name") 247,val:=Value.ref 51 }:DictEntry)::({ hash:=PyData.keyHash P (Str.ofString "MOST_FIGURES"),key:=Value.str (Str.ofString "MOST_FIGURES") 251,val:=Value.int 4 250 }:DictEntry)::({ hash:=PyData.keyHash P (Str.ofString "FIGURES"),key:=Value.str (Str.ofString "FIGURES") 253,val:=Value.str (Str.ofString "0123456789") 252 }:DictEntry)::({ hash:=PyData.keyHash P (Str.ofString "words_of"),key:=Value.str (Str.ofString "words_of") 260,val:=Value.ref 58 }:DictEntry)::({ hash:=PyData.keyHash P (Str.ofString "number_in"),key:=Value.str (Str.ofString "number_in") 266,val:=Value.ref 63 }:DictEntry)::({ hash:=PyData.keyHash P (Str.ofString "first_fault"),key:=Value.str (Str.ofString "first_fault") 276,val:=Value.ref 70 }:DictEntry)::({ hash:=PyData.keyHash P (Str.ofString "works_fault"),key:=Value.str (Str.ofString "works_fault") 285,val:=Value.ref 77 }:DictEntry)::({ hash:=PyData.keyHash P (Str.ofString "span_fault"),key:=Value.str (Str.ofString "span_fault") 296,val:=Value.ref 84 }:DictEntry)::({ hash:=PyData.keyHash P (Str.ofString "span_in"),key:=Value.str (Str.ofString "span_in") 309,val:=Value.ref 91 }:DictEntry)::({ hash:=PyData.keyHash P (Str.ofString "plan_lines"),key:=Value.str (Str.ofString "plan_lines") 324,val:=Value.ref 98 }:DictEntry)::({ hash:=PyData.keyHash P (Str.ofString "read_plan"),key:=Value.str (Str.ofString "read_plan") 337,val:=Value.ref 105 }:DictEntry)::({ hash:=PyData.keyHash P (Str.ofString "_law_feed"),key:=Value.str (Str.ofString "_law_feed") 346,val:=Value.ref 112 }:DictEntry)::({ hash:=PyData.keyHash P (Str.ofString "_law_draw"),key:=Value.str (Str.ofString "_law_draw") 357,val:=Value.ref 119 }:DictEntry)::({ hash:=PyData.keyHash P (Str.ofString "_law_names"),key:=Value.str (Str.ofString "_law_names") 363,val:=Value.ref 124 }:DictEntry)::({ hash:=PyData.keyHash P (Str.ofString "_law_cycle"),key:=Value.str (Str.ofString "_law_cycle") 370,val:=Value.ref 131 }:DictEntry)::({ hash:=PyData.keyHash P (Str.ofString "_law_number"),key:=Value.str (Str.ofString "_law_number") 379,val:=Value.ref 138 }:DictEntry)::({ hash:=PyData.keyHash P (Str.ofString "_law_span"),key:=Value.str (Str.ofString "_law_span") 391,val:=Value.ref 145 }:DictEntry)::({ hash:=PyData.keyHash P (Str.ofString "_law_plan"),key:=Value.str (Str.ofString "_law_plan") 403,val:=Value.ref 152 }:DictEntry)::({ hash:=PyData.keyHash P (Str.ofString "_law_lines"),key:=Value.str (Str.ofString "_law_lines") 419,val:=Value.ref 159 }:DictEntry)::({ hash:=PyData.keyHash P (Str.ofString "law"),key:=Value.str (Str.ofString "law") 435,val:=Value.ref 166 }:DictEntry)::[])) 34 }:Obj))::
  ((nat_lit 50:Addr),({ cls:=Value.type "code",data:=Data.fields #[Value.str (Str.ofString "is_name") 242,Value.str (Str.ofString "is_name") 243,Value.str (Str.ofString "/claim/cut.py") 244,Value.int 13 0,Value.int 1 0,Value.int 0 0,Value.int 0 0,Value.int 3 0,Value.ref 47,Value.bool Bool.true,Value.int 181 0,Value.ref 48,Value.none,Value.none,Value.none,Value.ref 49,Value.int 245 0,Value.int 13 0,Value.str (Str.ofString "/claim/cut.py") 246] }:Obj))::
  ((nat_lit 51:Addr),({ cls:=Value.type "function",data:=Data.func { name:=Str.ofString "is_name",qualname:=Str.ofString "is_name",params:=Z.aY7,body:=FuncBody.stmts Z.bY7,scope:=Z.cY7,globals:=3,closure:=[],defaults:=Value.none,kwdefaults:=Value.none,pyModule:=Value.str (Str.ofString "beatplans.plans") 234,code:=Value.ref 50 } }:Obj))::
  ((nat_lit 57:Addr),({ cls:=Value.type "code",data:=Data.fields #[Value.str (Str.ofString "words_of") 254,Value.str (Str.ofString "words_of") 255,Value.str (Str.ofString "/claim/cut.py") 256,Value.int 20 0,Value.int 1 0,Value.int 0 0,Value.int 0 0,Value.int 3 0,Value.ref 52,Value.bool Bool.true,Value.int 181 0,Value.ref 53,Value.none,Value.ref 54,Value.ref 55,Value.ref 56,Value.int 258 0,Value.int 20 0,Value.str (Str.ofString "/claim/cut.py") 259] }:Obj))::
  ((nat_lit 58:Addr),({ cls:=Value.type "function",data:=Data.func { name:=Str.ofString "words_of",qualname:=Str.ofString "words_of",params:=Z.aY11,body:=FuncBody.stmts Z.bY11,scope:=Z.cY11,globals:=3,closure:=[],defaults:=Value.none,kwdefaults:=Value.none,pyModule:=Value.str (Str.ofString "beatplans.lines") 248,code:=Value.ref 57 } }:Obj))::
  ((nat_lit 62:Addr),({ cls:=Value.type "code",data:=Data.fields #[Value.str (Str.ofString "number_in") 261,Value.str (Str.ofString "number_in") 262,Value.str (Str.ofString "/claim/cut.py") 263,Value.int 22 0,Value.int 1 0,Value.int 0 0,Value.int 0 0,Value.int 3 0,Value.ref 59,Value.bool Bool.true,Value.int 181 0,Value.ref 60,Value.none,Value.none,Value.none,Value.ref 61,Value.int 264 0,Value.int 22 0,Value.str (Str.ofString "/claim/cut.py") 265] }:Obj))::
  ((nat_lit 63:Addr),({ cls:=Value.type "function",data:=Data.func { name:=Str.ofString "number_in",qualname:=Str.ofString "number_in",params:=Z.aY12,body:=FuncBody.stmts Z.bY12,scope:=Z.cY12,globals:=3,closure:=[],defaults:=Value.none,kwdefaults:=Value.none,pyModule:=Value.str (Str.ofString "beatplans.lines") 248,code:=Value.ref 62 } }:Obj))::
  ((nat_lit 69:Addr),({ cls:=Value.type "code",data:=Data.fields #[Value.str (Str.ofString "first_fault") 267,Value.str (Str.ofString "first_fault") 268,Value.str (Str.ofString "/claim/cut.py") 269,Value.int 26 0,Value.int 3 0,Value.int 0 0,Value.int 0 0,Value.int 3 0,Value.ref 64,Value.bool Bool.true,Value.int 181 0,Value.ref 65,Value.none,Value.ref 66,Value.ref 67,Value.ref 68,Value.int 274 0,Value.int 26 0,Value.str (Str.ofString "/claim/cut.py") 275] }:Obj))::
  ((nat_lit 70:Addr),({ cls:=Value.type "function",data:=Data.func { name:=Str.ofString "first_fault",qualname:=Str.ofString "first_fault",params:=Z.aY13,body:=FuncBody.stmts Z.bY13,scope:=Z.cY13,globals:=3,closure:=[],defaults:=Value.none,kwdefaults:=Value.none,pyModule:=Value.str (Str.ofString "beatplans.lines") 248,code:=Value.ref 69 } }:Obj))::
  ((nat_lit 76:Addr),({ cls:=Value.type "code",data:=Data.fields #[Value.str (Str.ofString "works_fault") 277,Value.str (Str.ofString "works_fault") 278,Value.str (Str.ofString "/claim/cut.py") 279,Value.int 31 0,Value.int 1 0,Value.int 0 0,Value.int 0 0,Value.int 3 0,Value.ref 71,Value.bool Bool.true,Value.int 181 0,Value.ref 72,Value.none,Value.ref 73,Value.ref 74,Value.ref 75,Value.int 283 0,Value.int 31 0,Value.str (Str.ofString "/claim/cut.py") 284] }:Obj))::
  ((nat_lit 77:Addr),({ cls:=Value.type "function",data:=Data.func { name:=Str.ofString "works_fault",qualname:=Str.ofString "works_fault",params:=Z.aY14,body:=FuncBody.stmts Z.bY14,scope:=Z.cY14,globals:=3,closure:=[],defaults:=Value.none,kwdefaults:=Value.none,pyModule:=Value.str (Str.ofString "beatplans.lines") 248,code:=Value.ref 76 } }:Obj))::
  ((nat_lit 83:Addr),({ cls:=Value.type "code",data:=Data.fields #[Value.str (Str.ofString "span_fault") 286,Value.str (Str.ofString "span_fault") 287,Value.str (Str.ofString "/claim/cut.py") 288,Value.int 38 0,Value.int 2 0,Value.int 0 0,Value.int 0 0,Value.int 3 0,Value.ref 78,Value.bool Bool.true,Value.int 181 0,Value.ref 79,Value.none,Value.ref 80,Value.ref 81,Value.ref 82,Value.int 294 0,Value.int 38 0,Value.str (Str.ofString "/claim/cut.py") 295] }:Obj))::
  ((nat_lit 84:Addr),({ cls:=Value.type "function",data:=Data.func { name:=Str.ofString "span_fault",qualname:=Str.ofString "span_fault",params:=Z.aY15,body:=FuncBody.stmts Z.bY15,scope:=Z.cY15,globals:=3,closure:=[],defaults:=Value.none,kwdefaults:=Value.none,pyModule:=Value.str (Str.ofString "beatplans.lines") 248,code:=Value.ref 83 } }:Obj))::
  ((nat_lit 90:Addr),({ cls:=Value.type "code",data:=Data.fields #[Value.str (Str.ofString "span_in") 297,Value.str (Str.ofString "span_in") 298,Value.str (Str.ofString "/claim/cut.py") 299,Value.int 49 0,Value.int 2 0,Value.int 0 0,Value.int 0 0,Value.int 3 0,Value.ref 85,Value.bool Bool.true,Value.int 181 0,Value.ref 86,Value.none,Value.ref 87,Value.ref 88,Value.ref 89,Value.int 307 0,Value.int 49 0,Value.str (Str.ofString "/claim/cut.py") 308] }:Obj))::
  ((nat_lit 91:Addr),({ cls:=Value.type "function",data:=Data.func { name:=Str.ofString "span_in",qualname:=Str.ofString "span_in",params:=Z.aY16,body:=FuncBody.stmts Z.bY16,scope:=Z.cY16,globals:=3,closure:=[],defaults:=Value.none,kwdefaults:=Value.none,pyModule:=Value.str (Str.ofString "beatplans.lines") 248,code:=Value.ref 90 } }:Obj))::
  ((nat_lit 97:Addr),({ cls:=Value.type "code",data:=Data.fields #[Value.str (Str.ofString "plan_lines") 310,Value.str (Str.ofString "plan_lines") 311,Value.str (Str.ofString "/claim/cut.py") 312,Value.int 52 0,Value.int 1 0,Value.int 0 0,Value.int 0 0,Value.int 3 0,Value.ref 92,Value.bool Bool.true,Value.int 181 0,Value.ref 93,Value.none,Value.ref 94,Value.ref 95,Value.ref 96,Value.int 322 0,Value.int 52 0,Value.str (Str.ofString "/claim/cut.py") 323] }:Obj))::
  ((nat_lit 98:Addr),({ cls:=Value.type "function",data:=Data.func { name:=Str.ofString "plan_lines",qualname:=Str.ofString "plan_lines",params:=Z.aY17,body:=FuncBody.stmts Z.bY17,scope:=Z.cY17,globals:=3,closure:=[],defaults:=Value.none,kwdefaults:=Value.none,pyModule:=Value.str (Str.ofString "beatplans.lines") 248,code:=Value.ref 97 } }:Obj))::
  ((nat_lit 104:Addr),({ cls:=Value.type "code",data:=Data.fields #[Value.str (Str.ofString "read_plan") 325,Value.str (Str.ofString "read_plan") 326,Value.str (Str.ofString "/claim/cut.py") 327,Value.int 58 0,Value.int 1 0,Value.int 0 0,Value.int 0 0,Value.int 3 0,Value.ref 99,Value.bool Bool.true,Value.int 181 0,Value.ref 100,Value.none,Value.ref 101,Value.ref 102,Value.ref 103,Value.int 335 0,Value.int 58 0,Value.str (Str.ofString "/claim/cut.py") 336] }:Obj))::
  ((nat_lit 105:Addr),({ cls:=Value.type "function",data:=Data.func { name:=Str.ofString "read_plan",qualname:=Str.ofString "read_plan",params:=Z.aY18,body:=FuncBody.stmts Z.bY18,scope:=Z.cY18,globals:=3,closure:=[],defaults:=Value.none,kwdefaults:=Value.none,pyModule:=Value.str (Str.ofString "beatplans.lines") 248,code:=Value.ref 104 } }:Obj))::
  ((nat_lit 111:Addr),({ cls:=Value.type "code",data:=Data.fields #[Value.str (Str.ofString "_law_feed") 340,Value.str (Str.ofString "_law_feed") 341,Value.str (Str.ofString "/claim/cut.py") 342,Value.int 75 0,Value.int 1 0,Value.int 0 0,Value.int 0 0,Value.int 3 0,Value.ref 106,Value.bool Bool.true,Value.int 181 0,Value.ref 107,Value.none,Value.ref 108,Value.ref 109,Value.ref 110,Value.int 344 0,Value.int 75 0,Value.str (Str.ofString "/claim/cut.py") 345] }:Obj))::
  ((nat_lit 112:Addr),({ cls:=Value.type "function",data:=Data.func { name:=Str.ofString "_law_feed",qualname:=Str.ofString "_law_feed",params:=Z.aY20,body:=FuncBody.stmts Z.bY20,scope:=Z.cY20,globals:=3,closure:=[],defaults:=Value.none,kwdefaults:=Value.none,pyModule:=Value.str (Str.ofString "law_beatplans_k74_plans_as_lines") 338,code:=Value.ref 111 } }:Obj))::
  ((nat_lit 118:Addr),({ cls:=Value.type "code",data:=Data.fields #[Value.str (Str.ofString "_law_draw") 347,Value.str (Str.ofString "_law_draw") 348,Value.str (Str.ofString "/claim/cut.py") 349,Value.int 77 0,Value.int 2 0,Value.int 0 0,Value.int 0 0,Value.int 3 0,Value.ref 113,Value.bool Bool.true,Value.int 181 0,Value.ref 114,Value.none,Value.ref 115,Value.ref 116,Value.ref 117,Value.int 355 0,Value.int 77 0,Value.str (Str.ofString "/claim/cut.py") 356] }:Obj))::
  ((nat_lit 119:Addr),({ cls:=Value.type "function",data:=Data.func { name:=Str.ofString "_law_draw",qualname:=Str.ofString "_law_draw",params:=Z.aY21,body:=FuncBody.stmts Z.bY21,scope:=Z.cY21,globals:=3,closure:=[],defaults:=Value.none,kwdefaults:=Value.none,pyModule:=Value.str (Str.ofString "law_beatplans_k74_plans_as_lines") 338,code:=Value.ref 118 } }:Obj))::
  ((nat_lit 123:Addr),({ cls:=Value.type "code",data:=Data.fields #[Value.str (Str.ofString "_law_names") 358,Value.str (Str.ofString "_law_names") 359,Value.str (Str.ofString "/claim/cut.py") 360,Value.int 90 0,Value.int 2 0,Value.int 0 0,Value.int 0 0,Value.int 3 0,Value.ref 120,Value.bool Bool.true,Value.int 181 0,Value.ref 121,Value.none,Value.none,Value.none,Value.ref 122,Value.int 361 0,Value.int 90 0,Value.str (Str.ofString "/claim/cut.py") 362] }:Obj))::
  ((nat_lit 124:Addr),({ cls:=Value.type "function",data:=Data.func { name:=Str.ofString "_law_names",qualname:=Str.ofString "_law_names",params:=Z.aY22,body:=FuncBody.stmts Z.bY22,scope:=Z.cY22,globals:=3,closure:=[],defaults:=Value.none,kwdefaults:=Value.none,pyModule:=Value.str (Str.ofString "law_beatplans_k74_plans_as_lines") 338,code:=Value.ref 123 } }:Obj))::
  ((nat_lit 130:Addr),({ cls:=Value.type "code",data:=Data.fields #[Value.str (Str.ofString "_law_cycle") 364,Value.str (Str.ofString "_law_cycle") 365,Value.str (Str.ofString "/claim/cut.py") 366,Value.int 101 0,Value.int 1 0,Value.int 0 0,Value.int 0 0,Value.int 3 0,Value.ref 125,Value.bool Bool.true,Value.int 181 0,Value.ref 126,Value.none,Value.ref 127,Value.ref 128,Value.ref 129,Value.int 368 0,Value.int 101 0,Value.str (Str.ofString "/claim/cut.py") 369] }:Obj))::
  ((nat_lit 131:Addr),({ cls:=Value.type "function",data:=Data.func { name:=Str.ofString "_law_cycle",qualname:=Str.ofString "_law_cycle",params:=Z.aY23,body:=FuncBody.stmts Z.bY23,scope:=Z.cY23,globals:=3,closure:=[],defaults:=Value.none,kwdefaults:=Value.none,pyModule:=Value.str (Str.ofString "law_beatplans_k74_plans_as_lines") 338,code:=Value.ref 130 } }:Obj))::
  ((nat_lit 137:Addr),({ cls:=Value.type "code",data:=Data.fields #[Value.str (Str.ofString "_law_number") 371,Value.str (Str.ofString "_law_number") 372,Value.str (Str.ofString "/claim/cut.py") 373,Value.int 103 0,Value.int 2 0,Value.int 0 0,Value.int 0 0,Value.int 3 0,Value.ref 132,Value.bool Bool.true,Value.int 181 0,Value.ref 133,Value.none,Value.ref 134,Value.ref 135,Value.ref 136,Value.int 377 0,Value.int 103 0,Value.str (Str.ofString "/claim/cut.py") 378] }:Obj))::
  ((nat_lit 138:Addr),({ cls:=Value.type "function",data:=Data.func { name:=Str.ofString "_law_number",qualname:=Str.ofString "_law_number",params:=Z.aY24,body:=FuncBody.stmts Z.bY24,scope:=Z.cY24,globals:=3,closure:=[],defaults:=Value.none,kwdefaults:=Value.none,pyModule:=Value.str (Str.ofString "law_beatplans_k74_plans_as_lines") 338,code:=Value.ref 137 } }:Obj))::
  ((nat_lit 144:Addr),({ cls:=Value.type "code",data:=Data.fields #[Value.str (Str.ofString "_law_span") 380,Value.str (Str.ofString "_law_span") 381,Value.str (Str.ofString "/claim/cut.py") 382,Value.int 110 0,Value.int 4 0,Value.int 0 0,Value.int 0 0,Value.int 3 0,Value.ref 139,Value.bool Bool.true,Value.int 181 0,Value.ref 140,Value.none,Value.ref 141,Value.ref 142,Value.ref 143,Value.int 389 0,Value.int 110 0,Value.str (Str.ofString "/claim/cut.py") 390] }:Obj))::
  ((nat_lit 145:Addr),({ cls:=Value.type "function",data:=Data.func { name:=Str.ofString "_law_span",qualname:=Str.ofString "_law_span",params:=Z.aY25,body:=FuncBody.stmts Z.bY25,scope:=Z.cY25,globals:=3,closure:=[],defaults:=Value.none,kwdefaults:=Value.none,pyModule:=Value.str (Str.ofString "law_beatplans_k74_plans_as_lines") 338,code:=Value.ref 144 } }:Obj))::
  ((nat_lit 151:Addr),({ cls:=Value.type "code",data:=Data.fields #[Value.str (Str.ofString "_law_plan") 392,Value.str (Str.ofString "_law_plan") 393,Value.str (Str.ofString "/claim/cut.py") 394,Value.int 116 0,Value.int 2 0,Value.int 0 0,Value.int 0 0,Value.int 3 0,Value.ref 146,Value.bool Bool.true,Value.int 181 0,Value.ref 147,Value.none,Value.ref 148,Value.ref 149,Value.ref 150,Value.int 401 0,Value.int 116 0,Value.str (Str.ofString "/claim/cut.py") 402] }:Obj))::
  ((nat_lit 152:Addr),({ cls:=Value.type "function",data:=Data.func { name:=Str.ofString "_law_plan",qualname:=Str.ofString "_law_plan",params:=Z.aY26,body:=FuncBody.stmts Z.bY26,scope:=Z.cY26,globals:=3,closure:=[],defaults:=Value.none,kwdefaults:=Value.none,pyModule:=Value.str (Str.ofString "law_beatplans_k74_plans_as_lines") 338,code:=Value.ref 151 } }:Obj))::
  ((nat_lit 158:Addr),({ cls:=Value.type "code",data:=Data.fields #[Value.str (Str.ofString "_law_lines") 404,Value.str (Str.ofString "_law_lines") 405,Value.str (Str.ofString "/claim/cut.py") 406,Value.int 126 0,Value.int 1 0,Value.int 0 0,Value.int 0 0,Value.int 3 0,Value.ref 153,Value.bool Bool.true,Value.int 181 0,Value.ref 154,Value.none,Value.ref 155,Value.ref 156,Value.ref 157,Value.int 417 0,Value.int 126 0,Value.str (Str.ofString "/claim/cut.py") 418] }:Obj))::
  ((nat_lit 159:Addr),({ cls:=Value.type "function",data:=Data.func { name:=Str.ofString "_law_lines",qualname:=Str.ofString "_law_lines",params:=Z.aY27,body:=FuncBody.stmts Z.bY27,scope:=Z.cY27,globals:=3,closure:=[],defaults:=Value.none,kwdefaults:=Value.none,pyModule:=Value.str (Str.ofString "law_beatplans_k74_plans_as_lines") 338,code:=Value.ref 158 } }:Obj))::
  ((nat_lit 165:Addr),({ cls:=Value.type "code",data:=Data.fields #[Value.str (Str.ofString "law") 420,Value.str (Str.ofString "law") 421,Value.str (Str.ofString "/claim/cut.py") 422,Value.int 133 0,Value.int 1 0,Value.int 0 0,Value.int 0 0,Value.int 3 0,Value.ref 160,Value.bool Bool.true,Value.int 181 0,Value.ref 161,Value.none,Value.ref 162,Value.ref 163,Value.ref 164,Value.int 433 0,Value.int 133 0,Value.str (Str.ofString "/claim/cut.py") 434] }:Obj))::
  ((nat_lit 166:Addr),({ cls:=Value.type "function",data:=Data.func { name:=Str.ofString "law",qualname:=Str.ofString "law",params:=Z.aY28,body:=FuncBody.stmts Z.bY28,scope:=Z.cY28,globals:=3,closure:=[],defaults:=Value.none,kwdefaults:=Value.none,pyModule:=Value.str (Str.ofString "law_beatplans_k74_plans_as_lines") 338,code:=Value.ref 165 } }:Obj))::[]
open PySem in
noncomputable def Z.KA:List Addr:=(nat_lit 1)::(nat_lit 3)::(nat_lit 50)::(nat_lit 51)::(nat_lit 57)::(nat_lit 58)::(nat_lit 62)::(nat_lit 63)::(nat_lit 69)::(nat_lit 70)::(nat_lit 76)::(nat_lit 77)::(nat_lit 83)::(nat_lit 84)::(nat_lit 90)::(nat_lit 91)::(nat_lit 97)::(nat_lit 98)::(nat_lit 104)::(nat_lit 105)::(nat_lit 111)::(nat_lit 112)::(nat_lit 118)::(nat_lit 119)::(nat_lit 123)::(nat_lit 124)::(nat_lit 130)::(nat_lit 131)::(nat_lit 137)::(nat_lit 138)::(nat_lit 144)::(nat_lit 145)::(nat_lit 151)::(nat_lit 152)::(nat_lit 158)::(nat_lit 159)::(nat_lit 165)::(nat_lit 166)::[]

noncomputable def PySem.W.Fast.tw16576739452043423082:List PySem.Stmt:=Z.bY7
theorem PySem.W.Fast.te16576739452043423082:Z.bY7=PySem.W.Fast.tw16576739452043423082:=rfl
noncomputable def PySem.W.Fast.tw1178883823693561651:PySem.Scope:=Z.cY7
theorem PySem.W.Fast.te1178883823693561651:Z.cY7=PySem.W.Fast.tw1178883823693561651:=rfl
noncomputable def PySem.W.Fast.tw8869203458546103418:PySem.Arguments:=Z.aY7
theorem PySem.W.Fast.te8869203458546103418:Z.aY7=PySem.W.Fast.tw8869203458546103418:=rfl
noncomputable def PySem.W.Fast.tw14519903988610552633:List PySem.Stmt:=Z.bY11
theorem PySem.W.Fast.te14519903988610552633:Z.bY11=PySem.W.Fast.tw14519903988610552633:=rfl
noncomputable def PySem.W.Fast.tw3058807829669123397:PySem.Scope:=Z.cY11
theorem PySem.W.Fast.te3058807829669123397:Z.cY11=PySem.W.Fast.tw3058807829669123397:=rfl
noncomputable def PySem.W.Fast.tw17676326535124858346:PySem.Arguments:=Z.aY11
theorem PySem.W.Fast.te17676326535124858346:Z.aY11=PySem.W.Fast.tw17676326535124858346:=rfl
noncomputable def PySem.W.Fast.tw18164753679283922878:List PySem.Stmt:=Z.bY12
theorem PySem.W.Fast.te18164753679283922878:Z.bY12=PySem.W.Fast.tw18164753679283922878:=rfl
noncomputable def PySem.W.Fast.tw18339184722527120439:PySem.Scope:=Z.cY12
theorem PySem.W.Fast.te18339184722527120439:Z.cY12=PySem.W.Fast.tw18339184722527120439:=rfl
noncomputable def PySem.W.Fast.tw1446015608239144218:PySem.Arguments:=Z.aY12
theorem PySem.W.Fast.te1446015608239144218:Z.aY12=PySem.W.Fast.tw1446015608239144218:=rfl
noncomputable def PySem.W.Fast.tw17739840880004349974:List PySem.Stmt:=Z.bY13
theorem PySem.W.Fast.te17739840880004349974:Z.bY13=PySem.W.Fast.tw17739840880004349974:=rfl
noncomputable def PySem.W.Fast.tw4228003467210183882:PySem.Scope:=Z.cY13
theorem PySem.W.Fast.te4228003467210183882:Z.cY13=PySem.W.Fast.tw4228003467210183882:=rfl
noncomputable def PySem.W.Fast.tw5854879517739080986:PySem.Arguments:=Z.aY13
theorem PySem.W.Fast.te5854879517739080986:Z.aY13=PySem.W.Fast.tw5854879517739080986:=rfl
noncomputable def PySem.W.Fast.tw14359422736358066993:List PySem.Stmt:=Z.bY14
theorem PySem.W.Fast.te14359422736358066993:Z.bY14=PySem.W.Fast.tw14359422736358066993:=rfl
noncomputable def PySem.W.Fast.tw6360249018492097982:PySem.Scope:=Z.cY14
theorem PySem.W.Fast.te6360249018492097982:Z.cY14=PySem.W.Fast.tw6360249018492097982:=rfl
noncomputable def PySem.W.Fast.tw13822440407875897259:PySem.Arguments:=Z.aY14
theorem PySem.W.Fast.te13822440407875897259:Z.aY14=PySem.W.Fast.tw13822440407875897259:=rfl
noncomputable def PySem.W.Fast.tw7833547661901591470:List PySem.Stmt:=Z.bY15
theorem PySem.W.Fast.te7833547661901591470:Z.bY15=PySem.W.Fast.tw7833547661901591470:=rfl
noncomputable def PySem.W.Fast.tw8101764399625425153:PySem.Scope:=Z.cY15
theorem PySem.W.Fast.te8101764399625425153:Z.cY15=PySem.W.Fast.tw8101764399625425153:=rfl
noncomputable def PySem.W.Fast.tw6856576199937072082:PySem.Arguments:=Z.aY15
theorem PySem.W.Fast.te6856576199937072082:Z.aY15=PySem.W.Fast.tw6856576199937072082:=rfl
noncomputable def PySem.W.Fast.tw11446803262430998167:List PySem.Stmt:=Z.bY16
theorem PySem.W.Fast.te11446803262430998167:Z.bY16=PySem.W.Fast.tw11446803262430998167:=rfl
noncomputable def PySem.W.Fast.tw9530570746764545675:PySem.Scope:=Z.cY16
theorem PySem.W.Fast.te9530570746764545675:Z.cY16=PySem.W.Fast.tw9530570746764545675:=rfl
noncomputable def PySem.W.Fast.tw13100361516219107942:PySem.Arguments:=Z.aY16
theorem PySem.W.Fast.te13100361516219107942:Z.aY16=PySem.W.Fast.tw13100361516219107942:=rfl
noncomputable def PySem.W.Fast.tw7606716932492997581:List PySem.Stmt:=Z.bY17
theorem PySem.W.Fast.te7606716932492997581:Z.bY17=PySem.W.Fast.tw7606716932492997581:=rfl
noncomputable def PySem.W.Fast.tw502235002237357205:PySem.Scope:=Z.cY17
theorem PySem.W.Fast.te502235002237357205:Z.cY17=PySem.W.Fast.tw502235002237357205:=rfl
noncomputable def PySem.W.Fast.tw4003557264338402016:PySem.Arguments:=Z.aY17
theorem PySem.W.Fast.te4003557264338402016:Z.aY17=PySem.W.Fast.tw4003557264338402016:=rfl
noncomputable def PySem.W.Fast.tw5727634772876231:List PySem.Stmt:=Z.bY18
theorem PySem.W.Fast.te5727634772876231:Z.bY18=PySem.W.Fast.tw5727634772876231:=rfl
noncomputable def PySem.W.Fast.tw6865636664558906297:PySem.Scope:=Z.cY18
theorem PySem.W.Fast.te6865636664558906297:Z.cY18=PySem.W.Fast.tw6865636664558906297:=rfl
noncomputable def PySem.W.Fast.tw4956039584453317913:PySem.Arguments:=Z.aY18
theorem PySem.W.Fast.te4956039584453317913:Z.aY18=PySem.W.Fast.tw4956039584453317913:=rfl
noncomputable def PySem.W.Fast.tw5086509110111126984:List PySem.Stmt:=Z.bY20
theorem PySem.W.Fast.te5086509110111126984:Z.bY20=PySem.W.Fast.tw5086509110111126984:=rfl
noncomputable def PySem.W.Fast.tw8613126992762786810:PySem.Scope:=Z.cY20
theorem PySem.W.Fast.te8613126992762786810:Z.cY20=PySem.W.Fast.tw8613126992762786810:=rfl
noncomputable def PySem.W.Fast.tw7742198557474056662:PySem.Arguments:=Z.aY20
theorem PySem.W.Fast.te7742198557474056662:Z.aY20=PySem.W.Fast.tw7742198557474056662:=rfl
noncomputable def PySem.W.Fast.tw9887112076633143260:List PySem.Stmt:=Z.bY21
theorem PySem.W.Fast.te9887112076633143260:Z.bY21=PySem.W.Fast.tw9887112076633143260:=rfl
noncomputable def PySem.W.Fast.tw16652175780040137316:PySem.Scope:=Z.cY21
theorem PySem.W.Fast.te16652175780040137316:Z.cY21=PySem.W.Fast.tw16652175780040137316:=rfl
noncomputable def PySem.W.Fast.tw771454083561337269:PySem.Arguments:=Z.aY21
theorem PySem.W.Fast.te771454083561337269:Z.aY21=PySem.W.Fast.tw771454083561337269:=rfl
noncomputable def PySem.W.Fast.tw3184669192085748957:List PySem.Stmt:=Z.bY22
theorem PySem.W.Fast.te3184669192085748957:Z.bY22=PySem.W.Fast.tw3184669192085748957:=rfl
noncomputable def PySem.W.Fast.tw4757630134925260912:PySem.Scope:=Z.cY22
theorem PySem.W.Fast.te4757630134925260912:Z.cY22=PySem.W.Fast.tw4757630134925260912:=rfl
noncomputable def PySem.W.Fast.tw7465873080701871002:PySem.Arguments:=Z.aY22
theorem PySem.W.Fast.te7465873080701871002:Z.aY22=PySem.W.Fast.tw7465873080701871002:=rfl
noncomputable def PySem.W.Fast.tw12889549704734639409:List PySem.Stmt:=Z.bY23
theorem PySem.W.Fast.te12889549704734639409:Z.bY23=PySem.W.Fast.tw12889549704734639409:=rfl
noncomputable def PySem.W.Fast.tw10242745095938490599:PySem.Scope:=Z.cY23
theorem PySem.W.Fast.te10242745095938490599:Z.cY23=PySem.W.Fast.tw10242745095938490599:=rfl
noncomputable def PySem.W.Fast.tw9783613512567632517:PySem.Arguments:=Z.aY23
theorem PySem.W.Fast.te9783613512567632517:Z.aY23=PySem.W.Fast.tw9783613512567632517:=rfl
noncomputable def PySem.W.Fast.tw253982975610095124:List PySem.Stmt:=Z.bY24
theorem PySem.W.Fast.te253982975610095124:Z.bY24=PySem.W.Fast.tw253982975610095124:=rfl
noncomputable def PySem.W.Fast.tw16275538113687255351:PySem.Scope:=Z.cY24
theorem PySem.W.Fast.te16275538113687255351:Z.cY24=PySem.W.Fast.tw16275538113687255351:=rfl
noncomputable def PySem.W.Fast.tw8631897014996469195:PySem.Arguments:=Z.aY24
theorem PySem.W.Fast.te8631897014996469195:Z.aY24=PySem.W.Fast.tw8631897014996469195:=rfl
noncomputable def PySem.W.Fast.tw16567001819157486034:List PySem.Stmt:=Z.bY25
theorem PySem.W.Fast.te16567001819157486034:Z.bY25=PySem.W.Fast.tw16567001819157486034:=rfl
noncomputable def PySem.W.Fast.tw7982987530691195544:PySem.Scope:=Z.cY25
theorem PySem.W.Fast.te7982987530691195544:Z.cY25=PySem.W.Fast.tw7982987530691195544:=rfl
noncomputable def PySem.W.Fast.tw13013389684767732081:PySem.Arguments:=Z.aY25
theorem PySem.W.Fast.te13013389684767732081:Z.aY25=PySem.W.Fast.tw13013389684767732081:=rfl
noncomputable def PySem.W.Fast.tw4244449392144476589:List PySem.Stmt:=Z.bY26
theorem PySem.W.Fast.te4244449392144476589:Z.bY26=PySem.W.Fast.tw4244449392144476589:=rfl
noncomputable def PySem.W.Fast.tw14390090659230534699:PySem.Scope:=Z.cY26
theorem PySem.W.Fast.te14390090659230534699:Z.cY26=PySem.W.Fast.tw14390090659230534699:=rfl
noncomputable def PySem.W.Fast.tw12686048097710121713:PySem.Arguments:=Z.aY26
theorem PySem.W.Fast.te12686048097710121713:Z.aY26=PySem.W.Fast.tw12686048097710121713:=rfl
noncomputable def PySem.W.Fast.tw7251329012966193718:List PySem.Stmt:=Z.bY27
theorem PySem.W.Fast.te7251329012966193718:Z.bY27=PySem.W.Fast.tw7251329012966193718:=rfl
noncomputable def PySem.W.Fast.tw6989610931706019681:PySem.Scope:=Z.cY27
theorem PySem.W.Fast.te6989610931706019681:Z.cY27=PySem.W.Fast.tw6989610931706019681:=rfl
noncomputable def PySem.W.Fast.tw9645709375656358629:PySem.Arguments:=Z.aY27
theorem PySem.W.Fast.te9645709375656358629:Z.aY27=PySem.W.Fast.tw9645709375656358629:=rfl
noncomputable def PySem.W.Fast.tw5650864977710570941:List PySem.Stmt:=Z.bY28
theorem PySem.W.Fast.te5650864977710570941:Z.bY28=PySem.W.Fast.tw5650864977710570941:=rfl
noncomputable def PySem.W.Fast.tw3088784125654015763:PySem.Scope:=Z.cY28
theorem PySem.W.Fast.te3088784125654015763:Z.cY28=PySem.W.Fast.tw3088784125654015763:=rfl
noncomputable def PySem.W.Fast.tw11561044847845218375:PySem.Arguments:=Z.aY28
theorem PySem.W.Fast.te11561044847845218375:Z.aY28=PySem.W.Fast.tw11561044847845218375:=rfl
noncomputable def PySem.W.Fast.tw5160444039759204164:PySem.Params->PySem.W.Frag:=Z.KK
theorem PySem.W.Fast.te5160444039759204164:Z.KK=PySem.W.Fast.tw5160444039759204164:=rfl
set_option maxRecDepth 100000 in
set_option maxHeartbeats 0 in
theorem Z.wellS:PySem.Challenge.rw_beatplans_k74_plans_as_lines.wellSaid=true:=by decide +kernel
open PySem PySem.W PyProof.Rows
set_option maxRecDepth 100000 in
set_option maxHeartbeats 0 in
theorem PySem.Challenge.cw_beatplans_k74_plans_as_lines_holds : PySem.Challenge.rw_beatplans_k74_plans_as_lines.Holds := by
 w_on; refine PySem.W.holds_law Z.wellS fun said=>?_
 rw [Z.rw_eq] at said ⊢
 o_head (kHook Z.KK Z.KA (fun _=>by kernel_rfl)); (case hw=>w_witness2)
 k_fill
 refine Z.walk (l:=Z.rwS) rfl rfl (fun w h Y=>PySem.W.kIn_of Y) ?K ?S ?B ?F
 case K=>intro w; rfl
 case S=>intro w; exact ⟨_,rfl,rfl⟩
 case B=>
  intro w t ht
  simp only [Z.tbs,List.mem_cons,List.not_mem_nil,or_false] at ht
  rcases ht with rfl | rfl
  ·exact ⟨⟨_,rfl⟩,by kernel_rfl,by kernel_rfl⟩
  ·exact ⟨⟨_,rfl⟩,by kernel_rfl,by kernel_rfl⟩
 case F=>
  intro w mg fa h KX G hmg
  refine' Z.all_mk KX G hmg ?a0 ?l0 ?c0 ?k0 ?a1 ?l1 ?c1 ?k1 ?a2 ?l2 ?c2 ?k2 ?a3 ?l3 ?c3 ?k3 ?a4 ?l4 ?c4 ?k4 ?q4 ?a5 ?l5 ?c5 ?k5 ?q5 ?a6 ?l6 ?c6 ?k6 ?a7 ?l7 ?c7 ?k7 ?a8 ?l8 ?c8 ?k8 ?a9 ?l9 ?c9 ?k9 ?a10 ?l10 ?c10 ?k10 ?a11 ?l11 ?c11 ?k11 ?a12 ?l12 ?c12 ?k12 ?a13 ?l13 ?c13 ?k13 ?a14 ?l14 ?c14 ?k14 ?a15 ?l15 ?c15 ?k15 ?a16 ?l16 ?c16 ?k16 ?a17 ?l17 ?c17 ?k17 ?z_len ?z_repr ?z_min ?z_max ?z_sum ?z_all ?z_any ?z_sorted ?z_int ?z_str ?z_isinstance ?z_range ?z_enumerate ?z_list ?z_tuple ?z_bool ?z_dict ?z_ValueError ?z_set ?g_MOST_SIGNS ?g_MOST_FIGURES ?g_FIGURES ?g_MOST_NAMES ?g_MOST_SPANS
  (case a0=>show _=_; k_is)
  (case l0=>show _=_; k_is)
  (case c0=>show _=_; k_is)
  (case k0=>show _=_; k_is)
  (case a1=>show _=_; k_is)
  (case l1=>show _=_; k_is)
  (case c1=>show _=_; k_is)
  (case k1=>show _=_; k_is)
  (case a2=>show _=_; k_is)
  (case l2=>show _=_; k_is)
  (case c2=>show _=_; k_is)
  (case k2=>show _=_; k_is)
  (case a3=>show _=_; k_is)
  (case l3=>show _=_; k_is)
  (case c3=>show _=_; k_is)
  (case k3=>show _=_; k_is)
  (case a4=>show _=_; k_is)
  (case l4=>show _=_; k_is)
  (case c4=>show _=_; k_is)
  (case k4=>show _=_; k_is)
  (case q4=>kernel_rfl)
  (case a5=>show _=_; k_is)
  (case l5=>show _=_; k_is)
  (case c5=>show _=_; k_is)
  (case k5=>show _=_; k_is)
  (case q5=>kernel_rfl)
  (case a6=>show _=_; k_is)
  (case l6=>show _=_; k_is)
  (case c6=>show _=_; k_is)
  (case k6=>show _=_; k_is)
  (case a7=>show _=_; k_is)
  (case l7=>show _=_; k_is)
  (case c7=>show _=_; k_is)
  (case k7=>show _=_; k_is)
  (case a8=>show _=_; k_is)
  (case l8=>show _=_; k_is)
  (case c8=>show _=_; k_is)
  (case k8=>show _=_; k_is)
  (case a9=>show _=_; k_is)
  (case l9=>show _=_; k_is)
  (case c9=>show _=_; k_is)
  (case k9=>show _=_; k_is)
  (case a10=>show _=_; k_is)
  (case l10=>show _=_; k_is)
  (case c10=>show _=_; k_is)
  (case k10=>show _=_; k_is)
  (case a11=>show _=_; k_is)
  (case l11=>show _=_; k_is)
  (case c11=>show _=_; k_is)
  (case k11=>show _=_; k_is)
  (case a12=>show _=_; k_is)
  (case l12=>show _=_; k_is)
  (case c12=>show _=_; k_is)
  (case k12=>show _=_; k_is)
  (case a13=>show _=_; k_is)
  (case l13=>show _=_; k_is)
  (case c13=>show _=_; k_is)
  (case k13=>show _=_; k_is)
  (case a14=>show _=_; k_is)
  (case l14=>show _=_; k_is)
  (case c14=>show _=_; k_is)
  (case k14=>show _=_; k_is)
  (case a15=>show _=_; k_is)
  (case l15=>show _=_; k_is)
  (case c15=>show _=_; k_is)
  (case k15=>show _=_; k_is)
  (case a16=>show _=_; k_is)
  (case l16=>show _=_; k_is)
  (case c16=>show _=_; k_is)
  (case k16=>show _=_; k_is)
  (case a17=>show _=_; k_is)
  (case l17=>show _=_; k_is)
  (case c17=>show _=_; k_is)
  (case k17=>show _=_; k_is)
  (case z_len=>k_is)
  (case z_repr=>k_is)
  (case z_min=>k_is)
  (case z_max=>k_is)
  (case z_sum=>k_is)
  (case z_all=>k_is)
  (case z_any=>k_is)
  (case z_sorted=>k_is)
  (case z_int=>k_is)
  (case z_str=>k_is)
  (case z_isinstance=>k_is)
  (case z_range=>k_is)
  (case z_enumerate=>k_is)
  (case z_list=>k_is)
  (case z_tuple=>k_is)
  (case z_bool=>k_is)
  (case z_dict=>k_is)
  (case z_ValueError=>k_is)
  (case z_set=>k_is)
  (case g_MOST_SIGNS=>k_is)
  (case g_MOST_FIGURES=>k_is)
  (case g_FIGURES=>k_is)
  (case g_MOST_NAMES=>k_is)
  (case g_MOST_SPANS=>k_is)
