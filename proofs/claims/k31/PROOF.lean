import PyProof.Rows.All
import Wide.All
import OpenK.AllK
import Wide.FinOn
import Lean
import PyProof.EqAt
import PyProof.EqKinds
import PyProof.TupleCall
import PySem.Challenge.RW_beatplans_k31_prices_of_any_thing
set_option compiler.extract_closed false
set_option Elab.async false
set_option linter.all false
set_option maxRecDepth 100000
namespace L2
open PySem PySem.Spec PyProof.Rows

noncomputable abbrev Key:=Sum Int Str
noncomputable def jfx:Key->Value->Bool
 | .inl k,v=>Value.isInt k v
 | .inr x,v=>Value.isStrOf x v
noncomputable def keyH (w:World):Key->Int
 | .inl k=>hashInt k
 | .inr x=>hashStr w x
theorem jan:∀ {k:Key} {v:Value},jfx k v=true->(∃ i t,k=Sum.inl i/\v=Value.int i t)\/(∃ x t,k=Sum.inr x/\v=Value.str x t)
 | .inl i,v,h=>by
  obtain ⟨t,e⟩:=Value.isInt_shape (k:=i) (v:=v) h
  exact .inl ⟨i,t,rfl,e⟩
 | .inr x,v,h=>by
  obtain ⟨t,e⟩:=Value.isStrOf_shape (x:=x) (v:=v) h
  exact .inr ⟨x,t,rfl,e⟩
theorem jgm (i:Int)(t:Tok):jfx (.inl i) (.int i t)=true:=by simp [jfx,Value.isInt]
theorem jgl (x:Str)(t:Tok):jfx (.inr x) (.str x t)=true:=by simp [jfx,Value.isStrOf]
theorem jk3 (a b:Int):decide ((Sum.inl a:Key)=Sum.inl b)=(a == b):=by
 by_cases e:a=b
 ·subst e; simp
 ·have h:¬ (Sum.inl a:Key)=Sum.inl b:=fun q=>e (Sum.inl.inj q)
  rw [decide_eq_false h]
  exact (beq_eq_false_iff_ne.mpr e).symm
theorem jk0 (a b:Str):decide ((Sum.inr a:Key)=Sum.inr b)=decide (a=b):=by
 by_cases e:a=b
 ·subst e; simp
 ·have h:¬ (Sum.inr a:Key)=Sum.inr b:=fun q=>e (Sum.inr.inj q)
  rw [decide_eq_false h,decide_eq_false e]
theorem jk2 (a:Int)(b:Str):decide ((Sum.inl a:Key)=Sum.inr b)=false:=decide_eq_false (fun q=>nomatch q)
theorem jk1 (a:Str)(b:Int):decide ((Sum.inr a:Key)=Sum.inl b)=false:=decide_eq_false (fun q=>nomatch q)

noncomputable def jap (prog:Program)(w:World):PySem.KeyKind prog w Key where
 is:=jfx
 hash:=keyH w
 inj:=fun v a b ha hb=>by
  rcases jan ha with ⟨i,t,rfl,rfl⟩ | ⟨x,t,rfl,rfl⟩
  ·rcases jan hb with ⟨j,u,rfl,e⟩ | ⟨y,u,rfl,e⟩
   ·injection e with e1 _; rw [e1]
   ·exact nomatch e
  ·rcases jan hb with ⟨j,u,rfl,e⟩ | ⟨y,u,rfl,e⟩
   ·exact nomatch e
   ·injection e with e1 _; rw [e1]
 byValue:=fun k v h=>by
  rcases jan h with ⟨i,t,rfl,rfl⟩ | ⟨x,t,rfl,rfl⟩ <;> rfl
 pyHash:=fun hv h=>by
  rcases jan hv with ⟨i,t,rfl,rfl⟩ | ⟨x,t,rfl,rfl⟩
  ·exact wpAny_pyHash_int h
  ·exact wpAny_pyHash_str h
 eqBool:=fun hu hv h=>by
  rcases jan hu with ⟨i,t,rfl,rfl⟩ | ⟨x,t,rfl,rfl⟩
  ·rcases jan hv with ⟨j,u,rfl,rfl⟩ | ⟨y,u,rfl,rfl⟩
   ·rw [jk3] at h; exact wpAny_eqBool_int h
   ·rw [jk2] at h; exact SeqAt.EqAt.int_str i t y u _ _ _ _ h
  ·rcases jan hv with ⟨j,u,rfl,rfl⟩ | ⟨y,u,rfl,rfl⟩
   ·rw [jk1] at h; exact SeqAt.EqAt.str_int x t j u _ _ _ _ h
   ·rw [jk0] at h; exact wpAny_eqBool_str h
 «strs»:=fun k x t v h=>by
  rcases jan h with ⟨i,u,rfl,e⟩ | ⟨y,u,rfl,e⟩
  ·exact nomatch e
  ·injection e with e1 _
   subst e1
   cases v <;> rfl

theorem jeD (prog:Program)(w:World)(i:Int)(t:Tok):(jap prog w).is (.inl i) (.int i t)=true:=jgm i t
theorem jeC (prog:Program)(w:World)(x:Str)(t:Tok):(jap prog w).is (.inr x) (.str x t)=true:=jgl x t

inductive V where
 | non | bl (b:Bool) | int (i:Int) | str (x:Str) | byt (b:Array UInt8) | flt (b:UInt64) | ref (a:Addr) | ty (n:String)
 deriving DecidableEq

noncomputable def RelV:V->Value->Prop
 | .non,u=>u=Value.none
 | .bl b,u=>u=Value.bool b
 | .int i,u=>∃ t,u=Value.int i t
 | .str x,u=>∃ t,u=Value.str x t
 | .byt b,u=>∃ t,u=Value.bytes b t
 | .flt b,u=>∃ t,u=Value.float b t
 | .ref a,u=>u=Value.ref a
 | .ty n,u=>u=Value.type n

noncomputable abbrev Vals:List V->List Value->Prop:=Paired RelV
theorem Vals.length {xs:List V}{us:List Value}(r:Vals xs us):xs.length=us.length:=Paired.length r
theorem Vals.get:∀ {xs:List V} {us:List Value} {i:Nat} {x:V},Vals xs us->xs[i]?=some x->∃ u,us[i]?=some u/\RelV x u
 | _,_,_,_,.nil,e=>by simp at e
 | _,_,0,_,.cons r _,e=>by simp at e; subst e; exact ⟨_,rfl,r⟩
 | _,_,i + 1,x,.cons _ t,e=>by
  obtain ⟨u,h1,h2⟩:=Vals.get (i:=i) (x:=x) t (by simpa using e)
  exact ⟨u,by simpa using h1,h2⟩
theorem Vals.set {x:V}{u:Value}(r:RelV x u):∀ {xs:List V} {us:List Value} (i:Nat),Vals xs us->Vals (xs.set i x) (us.set i u)
 | _,_,_,.nil=>.nil
 | _,_,0,.cons _ t=>.cons r t
 | _,_,i + 1,.cons q t=>.cons q (Vals.set r i t)
theorem Vals.append:∀ {xs ys:List V} {us ws:List Value},Vals xs us->Vals ys ws->Vals (xs++ys) (us++ws)
 | _,_,_,_,.nil,s=>s
 | _,_,_,_,.cons r t,s=>.cons r (Vals.append t s)
theorem Vals.take:∀ {xs:List V} {us:List Value} (n:Nat),Vals xs us->Vals (xs.take n) (us.take n)
 | _,_,0,_=>.nil
 | _,_,_ + 1,.nil=>.nil
 | _,_,n + 1,.cons r t=>.cons r (Vals.take n t)
theorem Vals.drop:∀ {xs:List V} {us:List Value} (n:Nat),Vals xs us->Vals (xs.drop n) (us.drop n)
 | _,_,0,r=>r
 | _,_,_ + 1,.nil=>.nil
 | _,_,n + 1,.cons _ t=>Vals.drop n t
noncomputable def RelO:Option V->Option Value->Prop
 | some v,some u=>RelV v u
 | none,none=>True
 | _,_=>False
noncomputable def KV {κ:Type}:List (κ×V)->List (κ×Value)->Prop:=Paired fun (p:κ×V) (q:κ×Value)=>p.1=q.1/\RelV p.2 q.2

noncomputable def kV:Key->V
 | .inl i=>.int i
 | .inr x=>.str x

inductive HO where
 | lst (xs:List V)
 | tup (xs:List V)
 | dK (kvs:List (Key×V)) | dT (kvs:List (List Key×V))
 | set (S:Int->Bool) (n:Nat)
 | ins (C dx:Addr) (fs:List (Str×V))
 | own (x:Addr)
 | xd (fs:List (Str×V))
 | met (f x:Addr)
 | rng (lo hi:Int)
 | frz (o:Obj) (u:HO)
 | tbl (ps:Array Value)
 | ext (φ:Heap->Prop)

noncomputable abbrev Hp:=Addr->Option HO
noncomputable def upd (H:Hp)(a:Addr)(o:HO):Hp:=fun b=>if b=a then some o else H b
theorem jar {H:Hp}{a:Addr}{o:HO}:upd H a o a=some o:=by unfold upd; rw [if_pos rfl]
theorem jaf {H:Hp}{a b:Addr}{o:HO}(h:b≠a):upd H a o b=H b:=by unfold upd; rw [if_neg h]
theorem jmK {H:Hp}{a b:Addr}{o u:HO}(h:H a=some o)(h':H b=some u)(d:o≠u):a≠b:=by
 intro e; subst e; rw [h] at h'; exact d (Option.some.inj h')
theorem jae {H:Hp}{a b:Addr}{o:HO}(h:H a=some o)(h':H b=none):a≠b:=by
 intro e; subst e; rw [h] at h'; cases h'

noncomputable def TupD (h:Heap)(a:Addr)(items:Array Value):Prop:=∃ o,h.get? a=some o/\o.cls=.type "tuple" /\ ∃ n,o.data=.seq items n/\o.dict=none
theorem TupD.tup {h:Heap}{a:Addr}{items:Array Value}(x:TupD h a items):IsTup h a items:=let ⟨o,e,c,n,d,_⟩:=x; ⟨o,e,c,n,d⟩
theorem TupD.new (h:Heap)(items:Array Value):TupD (h.push { cls:=.type "tuple",data:=.seq items }) h.objs.size items:=⟨_,Heap.get?_push_size _ rfl,rfl,_,rfl,rfl⟩
section
variable (P:Program)(w:World)
noncomputable def jaF (H : Hp)(h : Heap)(a : Addr) : HO -> Prop
  | .lst xs => xs.length <= sizeLine /\ ∃ (its : List Value) (n : Nat), Vals xs its /\ h.get? a = some { cls := .type "list", data := .seq its.toArray n }
  | .tup xs => xs.length <= sizeLine /\ ∃ its : List Value, Vals xs its /\ TupD h a its.toArray
  | .dK kvs => kvs.length <= sizeLine /\ (a == sysModules) = false /\ ∃ vs, KV kvs vs /\ h.DictOf (jap P w) a vs
  | .dT kvs => kvs.length <= sizeLine /\ (a == sysModules) = false /\ ∃ xs : List (List Key × Addr × Value),
      Paired (fun (p : List Key × V) (q : List Key × Addr × Value) => p.1 = q.1 /\ H q.2.1 = some (.tup (p.1.map kV)) /\ RelV p.2 q.2.2) kvs xs /\
      ∃ o es ep, h.get? a = some o /\ o.ExactDict /\ o.data = .dict es ep /\ es.toList = xs.map (entryOfKey (tupleKind (jap P w))) /\ (xs.map (·.1)).Nodup
  | .set S n => h.SetOf (intKind P w) a S n
  | .ins C dx fs => H dx = some (.own a) /\ fs.length <= 1000 /\ dx ≠ a /\ h.get? a = some (PySem.W.instObj C dx) /\
      ∃ mA, h.Ns1 dx mA /\ (∀ f, RelO (fs.lookup f) (mA f)) /\ PySem.Within mA (fs.map (·.1))
  | .own _ => ∃ o, h.get? a = some o
  | .xd fs => ∃ mA, h.Ns1 a mA /\ ∀ f, RelO (fs.lookup f) (mA f)
  | .rng lo hi => ∃ t u v, h.get? a = some { cls := .type "range", data := .fields #[.int lo t, .int hi u, .int 1 v] }
  | .frz o u => h.get? a = some o /\ jaF H h a u
  | .tbl ps => h.get? a = some { cls := .none, data := .fields ps }
  | .met f x => h.get? a = some (PySem.W.methodObj (.ref f) (.ref x))
  | .ext φ => φ h /\ (∃ o, h.get? a = some o) /\ ∀ h1 h2 : Heap, φ h1 -> (∀ o, h1.get? a = some o -> h2.get? a = some o) -> φ h2
noncomputable def HOk (H:Hp)(h:Heap):Prop:=∀ a o,H a=some o->jaF P w H h a o
end

section
variable {P:Program}{w:World}{H H':Hp}{h h':Heap}{a:Addr}{o:HO}
theorem jaF.lt (x:jaF P w H h a o):a < h.objs.size:=by
 cases o with
 | lst xs=>obtain ⟨_,_,_,_,e⟩:=x; exact Heap.lt_size e
 | tup xs=>obtain ⟨_,_,_,p⟩:=x; exact p.tup.lt
 | dK kvs=>obtain ⟨_,_,_,_,o,_,_,e,_⟩:=x; exact Heap.lt_size e
 | dT kvs=>obtain ⟨_,_,_,_,o,_,_,e,_⟩:=x; exact Heap.lt_size e
 | set S n=>obtain ⟨o,_,_,_,e,_⟩:=x; exact Heap.lt_size e
 | ins C dx fs=>obtain ⟨_,_,_,e,_⟩:=x; exact Heap.lt_size e
 | own y=>obtain ⟨_,e⟩:=x; exact Heap.lt_size e
 | xd fs=>obtain ⟨_,⟨_,_,_,e,_⟩,_⟩:=x; exact Heap.lt_size e
 | rng lo hi=>obtain ⟨_,_,_,e⟩:=x; exact Heap.lt_size e
 | frz ob u=>obtain ⟨e,_⟩:=x; exact Heap.lt_size e
 | tbl ps=>exact Heap.lt_size (show h.get? a=some _ from x)
 | met f y=>exact Heap.lt_size (show h.get? a=some _ from x)
 | ext φ=>obtain ⟨_,⟨_,e⟩,_⟩:=x; exact Heap.lt_size e
theorem Paired.mapP {α β:Type}{F G:α->β->Prop}:∀ {l₁:List α} {l₂:List β},Paired F l₁ l₂->(∀ a b,F a b->G a b)->Paired G l₁ l₂
 | _,_,.nil,_=>.nil
 | _,_,.cons r t,f=>.cons (f _ _ r) (Paired.mapP t f)
theorem jaF.stay (x:jaF P w H h a o)(k:∀ b u,(b=a\/H b=some (.own a))->h.get? b=some u->h'.get? b=some u)
  (ho:∀ b,H b=some (.own a)->H' b=some (.own a)) (ht:∀ b xs,H b=some (.tup xs)->H' b=some (.tup xs)):jaF P w H' h' a o:=by
 induction o with
 | lst xs=>obtain ⟨z,its,n,r,e⟩:=x; exact ⟨z,its,n,r,k _ _ (.inl rfl) e⟩
 | tup xs=>obtain ⟨z,its,r,ob,e,c⟩:=x; exact ⟨z,its,r,ob,k _ _ (.inl rfl) e,c⟩
 | dK kvs=>obtain ⟨z,y,vs,r,ob,es,ep,e,c⟩:=x; exact ⟨z,y,vs,r,ob,es,ep,k _ _ (.inl rfl) e,c⟩
 | dT kvs=>
  obtain ⟨z,y,xs,r,ob,es,ep,e,c⟩:=x
  exact ⟨z,y,xs,Paired.mapP r fun p q z=>⟨z.1,ht _ _ z.2.1,z.2.2⟩,ob,es,ep,k _ _ (.inl rfl) e,c⟩
 | set S n=>obtain ⟨ob,es,ep,t,e,c⟩:=x; exact ⟨ob,es,ep,t,k _ _ (.inl rfl) e,c⟩
 | ins C dx fs=>
  obtain ⟨d,z,ne,e,mA,⟨od,es,ep,e2,c⟩,r⟩:=x
  exact ⟨ho _ d,z,ne,k _ _ (.inl rfl) e,mA,⟨od,es,ep,k _ _ (.inr d) e2,c⟩,r⟩
 | own y=>obtain ⟨ob,e⟩:=x; exact ⟨ob,k _ _ (.inl rfl) e⟩
 | xd fs=>obtain ⟨mA,⟨od,es,ep,e,c⟩,r⟩:=x; exact ⟨mA,⟨od,es,ep,k _ _ (.inl rfl) e,c⟩,r⟩
 | rng lo hi=>obtain ⟨t,u,v,e⟩:=x; exact ⟨t,u,v,k _ _ (.inl rfl) e⟩
 | frz ob u ih=>obtain ⟨e,q⟩:=x; exact ⟨k _ _ (.inl rfl) e,ih q⟩
 | tbl ps=>
  have e:h.get? a=some { cls:=.none,data:=.fields ps }:=x
  show h'.get? a=some { cls:=.none,data:=.fields ps }
  exact k a _ (.inl rfl) e
 | met f y=>
  have e:h.get? a=some (PySem.W.methodObj (.ref f) (.ref y)):=x
  show h'.get? a=some (PySem.W.methodObj (.ref f) (.ref y))
  exact k a _ (.inl rfl) e
 | ext φ=>obtain ⟨p,⟨o,e⟩,st⟩:=x; exact ⟨st _ _ p fun o q=>k _ _ (.inl rfl) q,⟨o,k _ _ (.inl rfl) e⟩,st⟩
theorem HOk.lt (x:HOk P w H h)(e:H a=some o):a < h.objs.size:=(x a o e).lt
theorem HOk.fresh (x:HOk P w H h)(e:h.objs.size<=a):H a=none:=by
 cases q:H a with
 | none=>rfl
 | some u=>exact absurd (Nat.lt_of_lt_of_le (x.lt q) e) (Nat.lt_irrefl _)
theorem HOk.kept (x:HOk P w H h)(k:∀ b u,h.get? b=some u->h'.get? b=some u):HOk P w H h':=fun a o e=>
 (x a o e).stay (fun b u _ q=>k b u q) (fun _ q=>q) fun _ _ q=>q
theorem HOk.laid (x:HOk P w H h)(k:∀ b u,h.get? b=some u->h'.get? b=some u)(hp:h.objs.size<=a)(new:jaF P w (upd H a o) h' a o):HOk P w (upd H a o) h':=fun b u e=>by
 have hn:=x.fresh hp
 by_cases hb:b=a
 ·subst hb; rw [jar] at e; cases e; exact new
 ·rw [jaf hb] at e
  exact (x b u e).stay (fun c v _ q=>k c v q) (fun c q=>by rw [jaf (jae q hn)]; exact q) fun c xs q=>by rw [jaf (jae q hn)]; exact q
end

noncomputable def Rd (H:Hp)(a:Addr)(u:HO):Prop:=H a=some u\/∃ o,H a=some (.frz o u)
theorem Rd.of {H:Hp}{a:Addr}{u:HO}(h:H a=some u):Rd H a u:=.inl h
theorem Rd.ok {P:Program}{w:World}{H:Hp}{h:Heap}{a:Addr}{u:HO}(r:Rd H a u)(x:HOk P w H h):jaF P w H h a u:=by
 rcases r with r | ⟨o,r⟩
 ·exact x a u r
 ·obtain ⟨_,q⟩:=x a _ r
  exact q
noncomputable def Mut:Option HO->Prop
 | some (.lst _)=>True
 | some (.dK _)=>True
 | some (.dT _)=>True
 | some (.set _ _)=>True
 | some (.ins _ _ _)=>True
 | some (.ext _)=>True
 | _=>False
section
variable {P:Program}{w:World}{H:Hp}{h h':Heap}{x e:Addr}{o':HO}
theorem HOk.write (ok : HOk P w H h)(mu : Mut (H x))(he : e = x \/ H e = some (.own x))(k : ∀ b u, b ≠ e -> h.get? b = some u -> h'.get? b = some u)(heo : ∃ u, h'.get? e = some u)
    (new : jaF P w (upd H x o') h' x o') : HOk P w (upd H x o') h' := fun b u q => by
  have nown : ∀ c y, H c = some (.own y) -> c ≠ x := fun c y r z => by subst z; rw [r] at mu; exact mu
  have ntup : ∀ c xs, H c = some (.tup xs) -> c ≠ x := fun c xs r z => by subst z; rw [r] at mu; exact mu
  by_cases hb : b = x
  · subst hb; rw [jar] at q; cases q; exact new
  · rw [jaf hb] at q
    by_cases hbe : b = e
    · have q' : H b = some (.own x) := by
        rcases he with z | z
        · exact absurd (hbe.trans z) hb
        · rw [hbe]; exact z
      rw [q] at q'; cases q'
      obtain ⟨v, hv⟩ := heo
      exact ⟨v, by rw [hbe]; exact hv⟩
    · refine (ok b u q).stay (fun c v hc r => k c v ?_ r) (fun c r => by rw [jaf (nown c b r)]; exact r) fun c xs r => by rw [jaf (ntup c xs r)]; exact r
      rcases hc with rfl | hc
      · exact hbe
      · rintro rfl
        rcases he with z | z
        · exact nown c b hc z
        · rw [hc] at z; cases z; exact hb rfl
end

structure Un (fs ex:List Addr)(H H':Hp)(h h':Heap):Prop where
 keep:∀ b o,h.get? b=some o->H b=none->b∉fs->b∉ex->h'.get? b=some o
 slot:∀ b o,h.get? b=some o->H b=none->b∈fs->b∉ex->∃ sl,h'.get? b=some { o with slots:=sl }
 free:∀ b o,h.get? b=some o->H b=none->b∉ex->H' b=none
 there:∀ b o,h.get? b=some o->b∉ex->∃ o',h'.get? b=some o'
 tups:∀ b xs,H b=some (.tup xs)->H' b=some (.tup xs)
 frzs:∀ b o u,H b=some (.frz o u)->H' b=some (.frz o u)
 tbls:∀ b ps,H b=some (.tbl ps)->∃ more,H' b=some (.tbl (ps++more))
section
variable {fs fs' ex ex':List Addr}{H H1 H2:Hp}{h h1 h2 h':Heap}{a x e:Addr}{o:HO}
theorem Un.any (u:Un fs ex H H1 h h1){b:Addr}{ob:Obj}(q:h.get? b=some ob)(n:H b=none)(hx:b∉ex):∃ sl,h1.get? b=some { ob with slots:=sl }:=by
 by_cases hb:b∈fs
 ·exact u.slot b ob q n hb hx
 ·exact ⟨ob.slots,u.keep b ob q n hb hx⟩
theorem Un.kept (k:∀ b u,h.get? b=some u->h'.get? b=some u):Un fs ex H H h h':=
 ⟨fun b ob q _ _ _=>k b ob q,fun b ob q _ _ _=>⟨ob.slots,k b ob q⟩,fun _ _ _ n _=>n,fun b ob q _=>⟨ob,k b ob q⟩,fun _ _ q=>q,fun _ _ _ q=>q,fun _ ps q=>⟨#[],by rw [q]; simp⟩⟩
theorem Un.refl:Un fs ex H H h h:=Un.kept fun _ _ q=>q
theorem Un.laid (k:∀ b u,h.get? b=some u->h'.get? b=some u)(hp:h.objs.size<=a)(hn:H a=none):Un fs ex H (upd H a o) h h' where
 keep:=fun b u q _ _ _=>k b u q
 slot:=fun b u q _ _ _=>⟨u.slots,k b u q⟩
 free:=fun b u q n _=>by rw [jaf (Nat.ne_of_lt (Nat.lt_of_lt_of_le (Heap.lt_size q) hp))]; exact n
 there:=fun b u q _=>⟨u,k b u q⟩
 tups:=fun b xs q=>by rw [jaf (jae q hn)]; exact q
 frzs:=fun b u xs q=>by rw [jaf (jae q hn)]; exact q
 tbls:=fun b ps q=>⟨#[],by rw [jaf (jae q hn),q]; simp⟩
theorem Un.write (mu:Mut (H x))(he:e=x\/H e=some (.own x))(k:∀ b u,b≠e->h.get? b=some u->h'.get? b=some u)(heo:∃ u,h'.get? e=some u):Un fs ex H (upd H x o) h h':=by
 have hx:∀ b,H b=none->b≠x:=fun b n z=>by subst z; rw [n] at mu; exact mu
 have hb:∀ b,H b=none->b≠e:=fun b n z=>by
  subst z
  rcases he with r | r
  ·exact hx b n r
  ·rw [n] at r; cases r
 have hm:∀ b u,H b=some u->¬ Mut (some u)->b≠x:=fun b u q nm z=>by subst z; rw [q] at mu; exact nm mu
 refine ⟨fun b u q n _ _=>k b u (hb b n) q,fun b u q n _ _=>⟨u.slots,k b u (hb b n) q⟩,fun b u q n _=>by rw [jaf (hx b n)]; exact n,fun b u q _=>?_,
  fun b xs q=>by rw [jaf (hm b _ q fun z=>z)]; exact q,fun b u xs q=>by rw [jaf (hm b _ q fun z=>z)]; exact q,fun b ps q=>⟨#[],by rw [jaf (hm b _ q fun z=>z),q]; simp⟩⟩
 by_cases hbe:b=e
 ·subst hbe; exact heo
 ·exact ⟨u,k b u hbe q⟩
end

noncomputable def trk (h:Heap)(H:Hp):List Addr:=(List.range h.objs.size).filter fun a=>(H a).isSome
noncomputable def hidT (h:Heap)(H:Hp):Heap:=PySem.W.hideAll h (trk h H)
theorem jgv (h:Heap)(H:Hp):(hidT h H).objs.size=h.objs.size:=PySem.W.hideAll_size _ _
theorem jhl {h:Heap}{H:Hp}{b:Addr}{o:Obj}(e:h.get? b=some o)(n:H b=none):(hidT h H).get? b=some o:=
 PySem.W.hideAll_get _ e fun hm=>by
  have q:(H b).isSome=true:=(List.mem_filter.mp hm).2
  rw [n] at q; simp at q
theorem ji6 {h:Heap}{H:Hp}{b:Addr}{o:Obj}(e:(hidT h H).get? b=some o):h.get? b=some o/\H b=none:=by
 have e':h.get? b=some o:=PySem.W.of_hideAll (trk h H) e
 refine ⟨e',?_⟩
 cases q:H b with
 | none=>rfl
 | some x=>
  have hm:b∈trk h H:=List.mem_filter.mpr ⟨List.mem_range.mpr (Heap.lt_size e'),by simp [q]⟩
  have z:(hidT h H).get? b=none:=PySem.W.hideAll_none (trk h H) hm
  rw [z] at e; cases e

noncomputable def jjE (g h:Heap)(L:Addr):List (Addr×Obj):=(List.range h.objs.size).filterMap fun a=>if a=L\/(g.get? a).isSome=true then none else (h.get? a).map fun o=>(a,o)
noncomputable def rest (g h:Heap)(L d:Addr):List (Addr×Obj):=(jjE g h L).filter fun p=>decide (p.1≠d)

structure Mod (K:PySem.W.Frag)(mg:Str->Option Value)(base:Heap):Prop where
 kin:K.In base
 glob:base.Ns mainGlobals mg
 blt:∃ mb,base.Ns builtinsNs mb/\∀ x:Str,x ≠ "__name__" -> mb x=bootBuiltins x
 nolimit:base.NoLimit
 sys:∃ o,K.lookup sysModules=some o/\o.cls=.type "dict"

structure Cx where
 prog:Program
 w:World
 K:PySem.W.Frag
 mg:Str->Option Value
 base:Heap
 A:Around
 N:List Str
 s₀:Shared
 H₀:Hp
 env:Env
 outer:List Env
 stack:List Env
 ex:List Addr
 fn:Str->Bool
 calm:Bool
 pn:List (Addr×Obj)
 xe:Value->Shared->Prop
noncomputable def frs (l:List Env):List Addr:=l.filterMap (·.frame)
noncomputable abbrev Cx.fs (X:Cx):List Addr:=frs X.outer

noncomputable def Vis (sc:Scope)(x:Str):Prop:=sc.names.lookup x=some .local\/sc.names.lookup x=some .cell\/sc.names.lookup x=some .free
noncomputable def Loc (sc:Scope)(x:Str):Prop:=sc.names.lookup x=some .local\/sc.names.lookup x=some .cell
noncomputable def Look (env:Env)(h:Heap)(m:Str->Option Value)(x:Str)(u:Value):Prop:=
 (env.kindOf x=some .local/\m x=some u)\/((env.kindOf x=some .cell\/env.kindOf x=some .free)/\∃ c,env.cells.lookup x=some c/\h.IsCell c (some u))

structure Cx.Ok (X:Cx):Prop where
 mod:Mod X.K X.mg X.base
 kind:X.env.scope.kind=.function
 glob:X.env.globals=mainGlobals
 blt:X.env.builtins=builtinsNs
 above:X.s₀.heap.objs.size<=X.env.locals
 inj:∀ x y c,X.env.cells.lookup x=some c->X.env.cells.lookup y=some c->x=y
 has:∀ x,(X.env.kindOf x=some .cell\/X.env.kindOf x=some .free)->∃ c,X.env.cells.lookup x=some c
 cab:∀ x c,X.fn x=true->X.env.cells.lookup x=some c->X.s₀.heap.objs.size<=c
 hd:X.calm=true->X.A.handled=none
 frames:X.A.frames=some X.stack
 stk:X.stack=X.outer\/(X.stack=X.env::X.outer/\X.env.frame=some X.env.locals)
 exf:∀ b∈X.ex,b≠X.env.locals/\∀ x c,X.env.cells.lookup x=some c->c≠b
 bs:∀ b o,X.base.get? b=some o->X.s₀.heap.get? b=some o/\X.H₀ b=none
 bsz:X.base.objs.size<=X.s₀.heap.objs.size
 noex:∀ b o,X.base.get? b=some o->b∉X.ex
 exfs:∀ b∈X.ex,b∉X.fs
 funs:X.s₀.heap.FunFrames X.base X.outer
 frf:∀ b∈X.fs,X.H₀ b=none

structure Inv (X:Cx)(pins:List (Addr×Obj))(σ:List (Option V))(H:Hp)(s:Shared):Prop where
 ok:X.Ok
 os:s.os=X.s₀.os
 bare:AllBare s.gens
 base:Un X.fs X.ex X.H₀ H X.s₀.heap s.heap
 loc:∃ m,s.heap.Ns X.env.locals m/\∀ (i:Nat) (x:Str) (v:V),X.N[i]?=some x->σ[i]?=some (some v)->Vis X.env.scope x->∃ u,RelV v u/\Look X.env s.heap m x u
 cell:∀ x c,X.env.cells.lookup x=some c->∃ v,s.heap.IsCell c v
 free:H X.env.locals=none
 freeC:∀ x c,X.env.cells.lookup x=some c->H c=none
 pin:∀ p∈X.pn++pins,s.heap.get? p.1=some p.2/\H p.1=none/\p.1≠X.env.locals/\p.1∉X.fs/\∀ v,p.2.data≠.cell v
 hok:HOk X.prog X.w H s.heap
 len:σ.length=X.N.length

section
variable {X:Cx}{pins:List (Addr×Obj)}{σ:List (Option V)}{H H':Hp}{s:Shared}{h':Heap}

theorem Cx.Ok.nofr (ok:X.Ok){b:Addr}{o:Obj}(e:X.base.get? b=some o):b∉X.fs:=fun hb=>by
 have:=(ok.funs.mem hb).1
 rw [e] at this; cases this
theorem Inv.bs (I:Inv X pins σ H s):∀ b o,X.base.get? b=some o->s.heap.get? b=some o/\H b=none:=fun b o e=>
 ⟨I.base.keep b o (I.ok.bs b o e).1 (I.ok.bs b o e).2 (I.ok.nofr e) (I.ok.noex b o e),I.base.free b o (I.ok.bs b o e).1 (I.ok.bs b o e).2 (I.ok.noex b o e)⟩
theorem Inv.bk (I:Inv X pins σ H s):∀ b o,X.base.get? b=some o->s.heap.get? b=some o:=fun b o e=>(I.bs b o e).1
theorem Inv.mod (I:Inv X pins σ H s):Mod X.K X.mg X.base:=I.ok.mod
theorem Inv.kIn (I:Inv X pins σ H s):X.K.In s.heap:=I.ok.mod.kin.keeps I.bk
theorem Inv.lt (I:Inv X pins σ H s):X.env.locals < s.heap.objs.size:=let ⟨_,hn,_⟩:=I.loc; hn.lt
theorem Inv.sz (I:Inv X pins σ H s):X.s₀.heap.objs.size<=s.heap.objs.size:=Nat.le_trans I.ok.above (Nat.le_of_lt I.lt)
theorem Inv.nofs (I:Inv X pins σ H s){a:Addr}(h:s.heap.objs.size<=a):a∉X.fs:=fun hb=>by
 obtain ⟨_,o,ho,_⟩:=I.ok.funs.mem hb
 exact absurd (Nat.lt_of_lt_of_le (Heap.lt_size ho) (Nat.le_trans I.sz h)) (Nat.lt_irrefl _)
theorem Inv.cne (I:Inv X pins σ H s):∀ x c,X.env.cells.lookup x=some c->c≠X.env.locals:=fun x c e z=>by
 obtain ⟨v,o,ho,hd⟩:=I.cell x c e
 obtain ⟨m,⟨o',es,ep,ho',hd',_⟩,_⟩:=I.loc
 rw [z,ho'] at ho; cases ho; rw [hd'] at hd; cases hd
theorem Inv.funs (I:Inv X pins σ H s):s.heap.FunFrames X.base X.outer:=by
 have all:∀ (l:List Env),(∀ b∈frs l,b∈X.fs)->X.s₀.heap.FunFrames X.base l->s.heap.FunFrames X.base l:=by
  intro l
  induction l with
  | nil=>intro _ _; trivial
  | cons env r ih=>
   intro hs hl
   obtain ⟨hk,⟨L,o,hf,hn,ho,hd⟩,hr⟩:=hl
   have hL:L∈X.fs:=hs L (by unfold frs; rw [List.filterMap_cons,hf]; exact List.mem_cons_self)
   obtain ⟨sl,e⟩:=I.base.slot L o ho (I.ok.frf L hL) hL fun z=>I.ok.exfs L z hL
   exact ⟨hk,⟨L,_,hf,hn,e,hd⟩,ih (fun b hb=>hs b (by unfold frs; rw [List.filterMap_cons,hf]; exact List.mem_cons_of_mem _ hb)) hr⟩
 exact all X.outer (fun _ hb=>hb) I.ok.funs

theorem Inv.stack (I:Inv X pins σ H s):s.heap.FunFrames X.base X.stack:=by
 rcases I.ok.stk with e | ⟨e,hf⟩
 ·rw [e]; exact I.funs
 ·rw [e]
  obtain ⟨m,hn,_⟩:=I.loc
  refine .cons (by rw [I.ok.kind]; decide) hf hn ?_ I.funs
  exact Heap.get?_none_of_le (Nat.le_trans I.ok.bsz I.ok.above)
theorem Inv.stkSub (I:Inv X pins σ H s):∀ b∈frs X.stack,b∈X.env.locals::X.fs:=fun b hb=>by
 rcases I.ok.stk with e | ⟨e,hf⟩
 ·rw [e] at hb; exact List.mem_cons_of_mem _ hb
 ·rw [e] at hb
  unfold frs at hb
  rw [List.filterMap_cons,hf] at hb
  exact hb
theorem Inv.stkFree (I:Inv X pins σ H s):∀ b∈frs X.stack,H b=none:=fun b hb=>by
 rcases List.mem_cons.mp (I.stkSub b hb) with e | hb
 ·rw [e]; exact I.free
 ·obtain ⟨_,o,ho,_⟩:=I.ok.funs.mem hb
  exact I.base.free b o ho (I.ok.frf b hb) fun z=>I.ok.exfs b z hb

theorem Inv.step {g':Array GenState}{t':Nat}{d':Drawn}{ch:List Addr}(I:Inv X pins σ H s)
  (hch:∀ b∈ch,(b∈X.ex\/X.s₀.heap.objs.size<=b)/\b≠X.env.locals/\(∀ x c,X.env.cells.lookup x=some c->c≠b)/\∀ p∈X.pn++pins,p.1≠b)
  (keep:∀ b o,b≠X.env.locals->b∉X.fs->b∉ch->s.heap.get? b=some o->H b=none->h'.get? b=some o)
  (slot:∀ b o,b≠X.env.locals->b∈X.fs->b∉ch->s.heap.get? b=some o->H b=none->∃ sl,h'.get? b=some { o with slots:=sl }) (free:∀ b o,b∉ch->s.heap.get? b=some o->H b=none->H' b=none)
  (there:∀ b o,b∉ch->s.heap.get? b=some o->∃ o',h'.get? b=some o')
  (tups:∀ b xs,H b=some (.tup xs)->H' b=some (.tup xs)) (frzs:∀ b o u,H b=some (.frz o u)->H' b=some (.frz o u)) (tbls:∀ b ps,H b=some (.tbl ps)->∃ more,H' b=some (.tbl (ps++more)))
  (ns:∀ m,s.heap.Ns X.env.locals m->h'.Ns X.env.locals m) (hok:HOk X.prog X.w H' h') (hg:AllBare g') :
  Inv X pins σ H' { s with heap:=h',gens:=g',drawn:=d',toks:=t' }:=by
 have neL:∀ b o,X.s₀.heap.get? b=some o->b≠X.env.locals:=fun b o e=>Nat.ne_of_lt (Nat.lt_of_lt_of_le (Heap.lt_size e) I.ok.above)
 have neC:∀ b o,X.s₀.heap.get? b=some o->b∉X.ex->b∉ch:=fun b o e hx hb=>by
  rcases (hch b hb).1 with z | z
  ·exact hx z
  ·exact absurd (Nat.lt_of_lt_of_le (Heap.lt_size e) z) (Nat.lt_irrefl _)
 have cellK:∀ x c,X.env.cells.lookup x=some c->∀ v,s.heap.IsCell c v->h'.IsCell c v:=fun x c e v ⟨o,ho,hd⟩=>by
  have nch:c∉ch:=fun z=>(hch c z).2.2.1 x c e rfl
  by_cases hc:c∈X.fs
  ·obtain ⟨sl,q⟩:=slot c o (I.cne x c e) hc nch ho (I.freeC x c e)
   exact ⟨_,q,hd⟩
  ·exact ⟨o,keep c o (I.cne x c e) hc nch ho (I.freeC x c e),hd⟩
 refine ⟨I.ok,I.os,hg,⟨fun b o e n hb hx=>?_,fun b o e n hb hx=>?_,fun b o e n hx=>?_,fun b o e hx=>?_,fun b xs e=>tups b xs (I.base.tups b xs e),fun b o xs e=>frzs b o xs (I.base.frzs b o xs e),fun b ps e=>?_⟩,?_,fun x c e=>?_,?_,fun x c e=>?_,fun p hp=>?_,hok,I.len⟩
 ·exact keep b o (neL b o e) hb (neC b o e hx) (I.base.keep b o e n hb hx) (I.base.free b o e n hx)
 ·obtain ⟨sl,e1⟩:=I.base.slot b o e n hb hx
  obtain ⟨sl',e2⟩:=slot b _ (neL b o e) hb (neC b o e hx) e1 (I.base.free b o e n hx)
  exact ⟨sl',e2⟩
 ·obtain ⟨o',e1⟩:=I.base.there b o e hx
  exact free b o' (neC b o e hx) e1 (I.base.free b o e n hx)
 ·obtain ⟨o',e1⟩:=I.base.there b o e hx
  exact there b o' (neC b o e hx) e1
 ·obtain ⟨m1,e1⟩:=I.base.tbls b ps e
  obtain ⟨m2,e2⟩:=tbls b _ e1
  exact ⟨m1++m2,by rw [e2,Array.append_assoc]⟩
 ·obtain ⟨m,hn,hl⟩:=I.loc
  refine ⟨m,ns m hn,fun i x v e1 e2 e3=>?_⟩
  obtain ⟨u,r,l⟩:=hl i x v e1 e2 e3
  refine ⟨u,r,?_⟩
  rcases l with l | ⟨k,c,e,z⟩
  ·exact .inl l
  ·exact .inr ⟨k,c,e,cellK x c e _ z⟩
 ·obtain ⟨v,z⟩:=I.cell x c e
  exact ⟨v,cellK x c e v z⟩
 ·obtain ⟨m,⟨o,_,_,ho,_⟩,_⟩:=I.loc
  exact free _ o (fun z=>(hch _ z).2.1 rfl) ho I.free
 ·obtain ⟨v,o,ho,hd⟩:=I.cell x c e
  exact free c o (fun z=>(hch c z).2.2.1 x c e rfl) ho (I.freeC x c e)
 ·obtain ⟨e,n,ne,nf,d⟩:=I.pin p hp
  have nch:p.1∉ch:=fun z=>(hch p.1 z).2.2.2 p hp rfl
  exact ⟨keep p.1 p.2 ne nf nch e n,free p.1 p.2 nch e n,ne,nf,d⟩
theorem Inv.un {t':Nat}(I:Inv X pins σ H s)(u:Un X.fs [] H H' s.heap h')(hok:HOk X.prog X.w H' h'):Inv X pins σ H' { s with heap:=h',toks:=t' }:=by
 obtain ⟨m,⟨o,es,ep,ho,r⟩,_⟩:=id I.loc
 obtain ⟨sl,hL⟩:=u.any ho I.free (by simp)
 exact I.step (g':=s.gens) (d':=s.drawn) (ch:=[]) (fun _ z=>nomatch z) (fun b o _ hb _ e n=>u.keep b o e n hb (by simp)) (fun b o _ hb _ e n=>u.slot b o e n hb (by simp)) (fun b o _ e n=>u.free b o e n (by simp)) (fun b o _ e=>u.there b o e (by simp)) u.tups u.frzs u.tbls (fun m' hm=>by
  obtain ⟨o',es',ep',ho',r'⟩:=hm
  rw [ho] at ho'; cases ho'
  exact ⟨_,es',ep',hL,r'⟩) hok I.bare
theorem Inv.call {g':Array GenState}{t':Nat}{d':Drawn}{ch:List Addr}(I:Inv X pins σ H s)(u:Un (frs X.stack) ch H H' s.heap h')(hok:HOk X.prog X.w H' h')(hg:AllBare g')
  (hch:∀ b∈ch,(b∈X.ex\/X.s₀.heap.objs.size<=b)/\b≠X.env.locals/\(∀ x c,X.env.cells.lookup x=some c->c≠b)/\∀ p∈X.pn++pins,p.1≠b) :
  Inv X pins σ H' { s with heap:=h',gens:=g',drawn:=d',toks:=t' }:=by
 obtain ⟨m,⟨o,es,ep,ho,r⟩,_⟩:=id I.loc
 obtain ⟨sl,hL⟩:=u.any ho I.free fun z=>(hch _ z).2.1 rfl
 exact I.step (ch:=ch) hch (fun b o hL hb hc e n=>u.keep b o e n (fun z=>(List.mem_cons.mp (I.stkSub b z)).elim hL hb) hc) (fun b o _ _ hc e n=>u.any e n hc) (fun b o hc e n=>u.free b o e n hc) (fun b o hc e=>u.there b o e hc) u.tups u.frzs u.tbls (fun m' hm=>by
  obtain ⟨o',es',ep',ho',r'⟩:=hm
  rw [ho] at ho'; cases ho'
  exact ⟨_,es',ep',hL,r'⟩) hok hg
theorem Inv.turned {t':Nat}{it:Addr}(I:Inv X pins σ H s)(k:∀ b o,b≠it->s.heap.get? b=some o->h'.get? b=some o)(hn:H it=none)(hL:it≠X.env.locals)
  (h1:it∈X.ex\/X.s₀.heap.objs.size<=it) (h2:∀ x c,X.env.cells.lookup x=some c->c≠it) (h3:∀ p∈X.pn++pins,p.1≠it):Inv X pins σ H { s with heap:=h',toks:=t' }:=by
 have nit:∀ b u,H b=some u->b≠it:=fun b u e z=>by rw [z,hn] at e; cases e
 refine I.step (g':=s.gens) (d':=s.drawn) (ch:=[it]) (fun b hb=>?_) (fun b o _ _ hc e _=>k b o (fun z=>hc (by simp [z])) e) (fun b o _ _ hc e _=>⟨o.slots,k b o (fun z=>hc (by simp [z])) e⟩) (fun _ _ _ _ n=>n)
  (fun b o hc e=>⟨o,k b o (fun z=>hc (by simp [z])) e⟩) (fun _ _ e=>e) (fun _ _ _ e=>e) (fun b ps e=>⟨#[],by rw [e]; simp⟩) (fun m hm=>?_) (fun b u e=>?_) I.bare
 ·have e:b=it:=by simpa using hb
  subst e
  exact ⟨h1,hL,h2,h3⟩
 ·obtain ⟨o,es,ep,ho,r⟩:=hm
  exact ⟨o,es,ep,k _ o (Ne.symm hL) ho,r⟩
 ·refine (I.hok b u e).stay (fun c v hc q=>k c v ?_ q) (fun _ q=>q) fun _ _ q=>q
  rcases hc with z | z
  ·rw [z]; exact nit b u e
  ·exact nit c _ z
theorem Inv.tok (I:Inv X pins σ H s)(t:Nat):Inv X pins σ H { s with toks:=t }:=I.un (h':=s.heap) (t':=t) Un.refl I.hok
theorem Inv.kept {t':Nat}(I:Inv X pins σ H s)(k:∀ b u,s.heap.get? b=some u->h'.get? b=some u):Inv X pins σ H { s with heap:=h',toks:=t' }:=I.un (Un.kept k) (I.hok.kept k)
theorem Inv.laid {a:Addr}{o:HO}{t':Nat}(I:Inv X pins σ H s)(k:∀ b u,s.heap.get? b=some u->h'.get? b=some u)(hp:s.heap.objs.size<=a)(new:jaF X.prog X.w (upd H a o) h' a o) :
  Inv X pins σ (upd H a o) { s with heap:=h',toks:=t' }:=I.un (Un.laid k hp (I.hok.fresh hp)) (I.hok.laid k hp new)
theorem Inv.write {x e:Addr}{o:HO}{t':Nat}(I:Inv X pins σ H s)(mu:Mut (H x))(he:e=x\/H e=some (.own x))(k:∀ b u,b≠e->s.heap.get? b=some u->h'.get? b=some u)(heo:∃ u,h'.get? e=some u)
  (new:jaF X.prog X.w (upd H x o) h' x o):Inv X pins σ (upd H x o) { s with heap:=h',toks:=t' }:=I.un (Un.write mu he k heo) (I.hok.write mu he k heo new)
theorem Inv.pins_of {pins':List (Addr×Obj)}(I:Inv X pins σ H s)(h:∀ p∈pins',s.heap.get? p.1=some p.2/\H p.1=none/\p.1≠X.env.locals/\p.1∉X.fs/\∀ v,p.2.data≠.cell v):Inv X pins' σ H s:=
 ⟨I.ok,I.os,I.bare,I.base,I.loc,I.cell,I.free,I.freeC,fun p hp=>(List.mem_append.mp hp).elim (fun z=>I.pin p (List.mem_append_left _ z)) (h p),I.hok,I.len⟩

theorem je5 {N:List Str}(hN:N.Nodup){i j:Nat}{x:Str}(a:N[i]?=some x)(b:N[j]?=some x):i=j:=by
 obtain ⟨h1,e1⟩:=List.getElem?_eq_some_iff.mp a
 obtain ⟨h2,e2⟩:=List.getElem?_eq_some_iff.mp b
 exact (List.getElem_inj hN).mp (e1.trans e2.symm)

theorem jdP {M : Model}{A : Around}{E : Value -> Shared -> Prop}{i : Nat}{x : Str}{v : V}{u : Value}{Q : Unit -> Shared -> Prop}(I : Inv X pins σ H s)(hN : X.N.Nodup)(hi : X.N[i]? = some x)(hx : Loc X.env.scope x)(r : RelV v u)
    (h : ∀ s', Inv X pins (σ.set i (some v)) H s' -> (∃ a, Heap.SameBut a s.heap s'.heap /\ (a = X.env.locals \/ X.env.cells.lookup x = some a)) -> Q () s') (hf : X.fn x = true \/ X.env.scope.names.lookup x = some .local := by first | exact .inl rfl | exact .inr rfl | assumption) : wpAny M A (storeName X.env x u) Q E s := by
  obtain ⟨m, hn, hl⟩ := id I.loc
  have hcls : (X.env.scope.kind == .class || (X.env.scope.kind == .module && X.env.locals != X.env.globals)) = false := by rw [I.ok.kind]; rfl
  have hiσ : i < σ.length := by rw [I.len]; exact (List.getElem?_eq_some_iff.mp hi).1
  have cne := I.cne
  have tracked : ∀ {a : Addr} {h' : Heap}, (∃ o, s.heap.get? a = some o /\ H a = none) -> Heap.SameBut a s.heap h' -> HOk X.prog X.w H h' := fun {a h'} ha hs b ob e => by
    obtain ⟨_, _, hfree⟩ := ha
    refine (I.hok b ob e).stay (fun c w' hc q => (hs.2 c ?_).trans q) (fun _ q => q) fun _ _ q => q
    rintro rfl
    rcases hc with rfl | hc
    · rw [hfree] at e; cases e
    · rw [hfree] at hc; cases hc
  rcases hx with hk | hk
  · refine wpAny_storeName_local hk hn (fun h' hn' hs => ?_) hcls
    obtain ⟨oL, _, _, hoL, _⟩ := id hn
    refine h _ ⟨I.ok, I.os, I.bare, ⟨fun b o e n hb hx => ?_, fun b o e n hb hx => ?_, I.base.free, fun b o e hx => ?_, I.base.tups, I.base.frzs, I.base.tbls⟩, ⟨_, hn', fun j y v' e1 e2 e3 => ?_⟩, fun y c e => ?_, I.free, I.freeC, fun p hp => ?_, tracked ⟨oL, hoL, I.free⟩ hs, by simpa using I.len⟩ ⟨_, hs, .inl rfl⟩
    · exact (hs.2 b (Nat.ne_of_lt (Nat.lt_of_lt_of_le (Heap.lt_size e) I.ok.above))).trans (I.base.keep b o e n hb hx)
    · obtain ⟨sl, e1⟩ := I.base.slot b o e n hb hx
      exact ⟨sl, (hs.2 b (Nat.ne_of_lt (Nat.lt_of_lt_of_le (Heap.lt_size e) I.ok.above))).trans e1⟩
    · obtain ⟨o', e1⟩ := I.base.there b o e hx
      exact ⟨o', (hs.2 b (Nat.ne_of_lt (Nat.lt_of_lt_of_le (Heap.lt_size e) I.ok.above))).trans e1⟩
    · by_cases hj : j = i
      · subst hj
        rw [hi] at e1; cases e1
        rw [List.getElem?_set_self hiσ] at e2
        cases e2
        exact ⟨u, r, .inl ⟨hk, by simp⟩⟩
      · rw [List.getElem?_set_ne (Ne.symm hj)] at e2
        obtain ⟨u', r', q⟩ := hl j y v' e1 e2 e3
        refine ⟨u', r', ?_⟩
        rcases q with ⟨k, e⟩ | ⟨k, c, e, z⟩
        · refine .inl ⟨k, ?_⟩
          have : y ≠ x := fun e => hj (je5 hN e1 (e ▸ hi))
          simp [this, e]
        · exact .inr ⟨k, c, e, z.sameBut hs (cne y c e)⟩
    · obtain ⟨w', z⟩ := I.cell y c e
      exact ⟨w', z.sameBut hs (cne y c e)⟩
    · obtain ⟨e, n, ne, nf, d⟩ := I.pin p hp
      exact ⟨(hs.2 p.1 ne).trans e, n, ne, nf, d⟩
  · have hfn : X.fn x = true := by
      rcases hf with z | z
      · exact z
      · rw [z] at hk; cases hk
    obtain ⟨c, hc⟩ := I.ok.has x (.inl hk)
    obtain ⟨w', z⟩ := I.cell x c hc
    refine wpAny_storeName_cell I.ok.kind hk hc z (fun h' hc' hs => ?_)
    obtain ⟨oc, hoc, hocd⟩ := id z
    refine h { s with heap := h' } ⟨I.ok, I.os, I.bare, ⟨fun b o e n hb hx => ?_, fun b o e n hb hx => ?_, I.base.free, fun b o e hx => ?_, I.base.tups, I.base.frzs, I.base.tbls⟩, ⟨m, hn.sameBut hs (Ne.symm (cne x c hc)), fun j y v' e1 e2 e3 => ?_⟩, fun y c' e => ?_, I.free, I.freeC, fun p hp => ?_, tracked ⟨oc, hoc, I.freeC x c hc⟩ hs, by simpa using I.len⟩ ⟨c, hs, .inr hc⟩
    · exact (hs.2 b (Nat.ne_of_lt (Nat.lt_of_lt_of_le (Heap.lt_size e) (I.ok.cab x c hfn hc)))).trans (I.base.keep b o e n hb hx)
    · obtain ⟨sl, e1⟩ := I.base.slot b o e n hb hx
      exact ⟨sl, (hs.2 b (Nat.ne_of_lt (Nat.lt_of_lt_of_le (Heap.lt_size e) (I.ok.cab x c hfn hc)))).trans e1⟩
    · obtain ⟨o', e1⟩ := I.base.there b o e hx
      exact ⟨o', (hs.2 b (Nat.ne_of_lt (Nat.lt_of_lt_of_le (Heap.lt_size e) (I.ok.cab x c hfn hc)))).trans e1⟩
    · by_cases hj : j = i
      · subst hj
        rw [hi] at e1; cases e1
        rw [List.getElem?_set_self hiσ] at e2
        cases e2
        exact ⟨u, r, .inr ⟨.inl hk, c, hc, hc'⟩⟩
      · rw [List.getElem?_set_ne (Ne.symm hj)] at e2
        obtain ⟨u', r', q⟩ := hl j y v' e1 e2 e3
        refine ⟨u', r', ?_⟩
        rcases q with q | ⟨k, c', e, z'⟩
        · exact .inl q
        · refine .inr ⟨k, c', e, z'.sameBut hs ?_⟩
          rintro rfl
          exact hj (je5 hN e1 (I.ok.inj _ _ _ e hc ▸ hi))
    · by_cases hcc : c' = c
      · subst hcc; exact ⟨_, hc'⟩
      · obtain ⟨w2, z2⟩ := I.cell y c' e
        exact ⟨w2, z2.sameBut hs hcc⟩
    · obtain ⟨e, n, ne, nf, d⟩ := I.pin p hp
      refine ⟨(hs.2 p.1 ?_).trans e, n, ne, nf, d⟩
      intro q
      rw [q, hoc] at e
      have q' : oc = p.2 := Option.some.inj e
      exact d w' (by rw [<- q']; exact hocd)
theorem jdy {M:Model}{A:Around}{E:Value->Shared->Prop}{i:Nat}{x:Str}{v:V}{u:Value}{Q:Unit->Shared->Prop}(I:Inv X pins σ H s)(hN:X.N.Nodup)(hi:X.N[i]?=some x)(hx:Loc X.env.scope x)(r:RelV v u)
  (h:∀ s',Inv X pins (σ.set i (some v)) H s'->Q () s') (hf:X.fn x=true\/X.env.scope.names.lookup x=some .local:=by first | exact .inl rfl | exact .inr rfl | assumption):wpAny M A (storeName X.env x u) Q E s:=
 jdP I hN hi hx r (fun s' I' _=>h s' I') hf
theorem Inv.call' {s':Shared}{ch:List Addr}(I:Inv X pins σ H s)(ho:s'.os=s.os)(u:Un (frs X.stack) ch H H' s.heap s'.heap)(hok:HOk X.prog X.w H' s'.heap)(hg:AllBare s'.gens)
  (hch:∀ b∈ch,(b∈X.ex\/X.s₀.heap.objs.size<=b)/\b≠X.env.locals/\(∀ x c,X.env.cells.lookup x=some c->c≠b)/\∀ p∈X.pn++pins,p.1≠b):Inv X pins σ H' s':=by
 obtain ⟨h',g',d',t',o'⟩:=s'
 have e:o'=s.os:=ho
 subst e
 exact I.call (g':=g') (t':=t') (d':=d') u hok hg hch
end

noncomputable abbrev XK:=Value->Option Addr->Hp->Prop
noncomputable abbrev St:=List (Option V)
noncomputable abbrev VK:=V->Hp->Prop
noncomputable abbrev TE:=St->Hp->VK->Prop
noncomputable abbrev TT:=St->Hp->(Bool->Hp->Prop)->Prop
noncomputable abbrev TA:=St->Hp->(List V->Hp->Prop)->Prop
structure Ends where
 nx:St->Hp->Prop
 rt:VK
 bk:St->Hp->Prop:=fun _ _=>False
 ct:St->Hp->Prop:=fun _ _=>False
noncomputable abbrev TS:=Ends->St->Hp->Prop

noncomputable def EP (X:Cx)(pins:List (Addr×Obj))(σ:St)(Q:VK)(u:Value)(s':Shared):Prop:=∃ v H',Inv X pins σ H' s'/\RelV v u/\Q v H'
noncomputable def TP (X:Cx)(pins:List (Addr×Obj))(σ:St)(Q:Bool->Hp->Prop)(b:Bool)(s':Shared):Prop:=∃ H',Inv X pins σ H' s'/\Q b H'
noncomputable def AP (X:Cx)(pins:List (Addr×Obj))(σ:St)(Q:List V->Hp->Prop)(us:List Value)(s':Shared):Prop:=∃ vs H',Inv X pins σ H' s'/\Vals vs us/\Q vs H'
noncomputable def SP (X:Cx)(pins:List (Addr×Obj))(D:Ends)(f:Flow)(s':Shared):Prop:=
 match f with
 | .next=>∃ σ' H',Inv X pins σ' H' s'/\D.nx σ' H'
 | .brk=>∃ σ' H',Inv X pins σ' H' s'/\D.bk σ' H'
 | .cont=>∃ σ' H',Inv X pins σ' H' s'/\D.ct σ' H'
 | .ret u=>∃ v σ' H',Inv X pins σ' H' s'/\RelV v u/\D.rt v H'

noncomputable def PE (X:Cx)(e:Expr)(t:TE):Prop:=
 ∀ (pins:List (Addr×Obj)) (s:Shared) (σ:St) (H:Hp) (Q:VK),Inv X pins σ H s->t σ H Q->wpAny (model X.prog X.w) X.A (eval e X.env) (EP X pins σ Q) X.xe s
noncomputable def PT (X:Cx)(e:Expr)(t:TT):Prop:=
 ∀ (pins:List (Addr×Obj)) (s:Shared) (σ:St) (H:Hp) (Q:Bool->Hp->Prop),Inv X pins σ H s->t σ H Q->wpAny (model X.prog X.w) X.A (isTrue e X.env (eval e X.env)) (TP X pins σ Q) X.xe s
noncomputable def PW (X:Cx)(e:Expr)(t:TT):Prop:=
 ∀ (whole:Sem Value) (pins:List (Addr×Obj)) (s:Shared) (σ:St) (H:Hp) (Q:Bool->Hp->Prop),Inv X pins σ H s->t σ H Q->wpAny (model X.prog X.w) X.A (isTrue e X.env whole) (TP X pins σ Q) X.xe s
theorem PW.pt {X:Cx}{e:Expr}{t:TT}(h:PW X e t):PT X e t:=h _
noncomputable def PA (X:Cx)(es:List Expr)(t:TA):Prop:=
 ∀ (pos:Pos) (pins:List (Addr×Obj)) (s:Shared) (σ:St) (H:Hp) (Q:List V->Hp->Prop),Inv X pins σ H s->t σ H Q->wpAny (model X.prog X.w) X.A (spliced (backTo pos (starEach es X.env))) (AP X pins σ Q) X.xe s
noncomputable def PS (X:Cx)(st:Stmt)(t:TS):Prop:=
 ∀ (pins:List (Addr×Obj)) (s:Shared) (σ:St) (H:Hp) (D:Ends),Inv X pins σ H s->t D σ H->wpAny (model X.prog X.w) X.A (exec st X.env) (SP X pins D) X.xe s
noncomputable def PSs (X:Cx)(st:List Stmt)(t:TS):Prop:=
 ∀ (pins:List (Addr×Obj)) (s:Shared) (σ:St) (H:Hp) (D:Ends),Inv X pins σ H s->t D σ H->wpAny (model X.prog X.w) X.A (execs st X.env) (SP X pins D) X.xe s
theorem thn {α:Type}{t:Sem α}{Q Q':α->Shared->Prop}{M:Model}{A:Around}{E:Value->Shared->Prop}{s:Shared}(h:wpAny M A t Q E s)(hQ:∀ a s,Q a s->Q' a s):wpAny M A t Q' E s:=wpAny_mono h hQ fun _ _ x=>x
section
variable {X:Cx}

noncomputable def tVar (i:Nat):TE:=fun σ H Q=>∃ v,σ[i]?=some (some v)/\Q v H
noncomputable def tC (v:V):TE:=fun _ H Q=>Q v H
theorem jkq {i:Nat}{x:Str}{pos:Pos}(hN:X.N[i]?=some x)(hv:Vis X.env.scope x)(hd:(x == ("__debug__" : Str))=false:=by decide)(hcd:(x == ("__classdict__" : Str))=false:=by decide):PE X (.Name x pos) (tVar i):=by
 intro pins s σ H Q I h
 obtain ⟨v,e,h⟩:=h
 obtain ⟨m,hn,hl⟩:=I.loc
 obtain ⟨u,r,l⟩:=hl i x v hN e hv
 have fin:EP X pins σ Q u s:=⟨v,H,I,r,h⟩
 rcases l with ⟨hk,hm⟩ | ⟨hk,c,hc,hcell⟩
 ·exact wpAny_Name (wpAny_loadName_local I.ok.kind hk hn hm fin) hd
 ·rcases hk with hk | hk
  ·exact wpAny_Name (wpAny_loadName_cell I.ok.kind hk hc hcell fin) hd
  ·exact wpAny_Name (wpAny_loadName_free I.ok.kind hk hc hcell fin hcd) hd
theorem jkx {i j pos}:PE X (.Constant (.int i) j pos) (tC (.int i)):=fun _ _ _ H _ I h=>wpAny_Constant_int ⟨.int i,H,I.tok _,⟨_,rfl⟩,h⟩
theorem jmB {b j pos}:PE X (.Constant (.bool b) j pos) (tC (.bl b)):=fun _ _ _ H _ I h=>Constant_bool ⟨.bl b,H,I,rfl,h⟩
theorem jku {j pos}:PE X (.Constant .none j pos) (tC .non):=fun _ _ _ H _ I h=>Constant_none ⟨.non,H,I,rfl,h⟩
theorem jks {x j pos}:PE X (.Constant (.str x) j pos) (tC (.str x)):=fun _ _ _ H _ I h=>Calls.Constant_str ⟨.str x,H,I.tok _,⟨_,rfl⟩,h⟩

noncomputable def Gl (X:Cx)(x:Str):Prop:=X.env.kindOf x=some .globalImplicit
theorem jeF {E:Value->Shared->Prop}{pins:List (Addr×Obj)}{s:Shared}{σ:St}{H:Hp}{x:Str}{u:Value}{pos:Pos}{Q:Value->Shared->Prop}(I:Inv X pins σ H s)(hg:Gl X x)(hm:X.mg x=some u)(h:Q u s)
  (hd:(x == ("__debug__" : Str))=false:=by decide):wpAny (model X.prog X.w) X.A (eval (.Name x pos) X.env) Q E s:=
 Calls.Name_function_global I.ok.kind hg (Calls.loadGlobal_global (by rw [I.ok.glob]; exact I.mod.glob.keeps I.bk) hm h) hd
theorem jdj {E:Value->Shared->Prop}{pins:List (Addr×Obj)}{s:Shared}{σ:St}{H:Hp}{x:Str}{u:Value}{pos:Pos}{Q:Value->Shared->Prop}(I:Inv X pins σ H s)(hg:Gl X x)(hm:X.mg x=none)(hv:bootBuiltins x=some u)(h:Q u s)
  (hn:x ≠ "__name__" := by decide) (hd:(x == ("__debug__" : Str))=false:=by decide):wpAny (model X.prog X.w) X.A (eval (.Name x pos) X.env) Q E s:=by
 obtain ⟨mb,h1,h2⟩:=I.mod.blt
 exact Calls.Name_function_global I.ok.kind hg (Calls.loadGlobal_builtin (by rw [I.ok.glob]; exact I.mod.glob.keeps I.bk) hm (by rw [I.ok.blt]; exact h1.keeps I.bk) ((h2 x hn).trans hv) h) hd
theorem jiQ {x:Str}{v:V}{u:Value}{pos:Pos}(hg:Gl X x)(hm:X.mg x=some u)(r:RelV v u)(hd:(x == ("__debug__" : Str))=false:=by decide):PE X (.Name x pos) (tC v):=
 fun _ _ _ H _ I h=>jeF I hg hm ⟨v,H,I,r,h⟩ hd
theorem jiT {x:Str}{v:V}{u:Value}{pos:Pos}(hg:Gl X x)(hm:X.mg x=none)(hv:bootBuiltins x=some u)(r:RelV v u)(hn:x ≠ "__name__" := by decide)(hd:(x == ("__debug__" : Str))=false:=by decide):PE X (.Name x pos) (tC v):=
 fun _ _ _ H _ I h=>jdj I hg hm hv ⟨v,H,I,r,h⟩ hn hd

variable {a b:Expr}{ta tb:TE}{pos:Pos}
noncomputable def tB (t:TE):TT:=fun σ H Q=>t σ H fun x H1=>∃ c,x=.bl c/\Q c H1
variable {tA tB':TT}{rest:List Expr}
noncomputable def tAnd (t u:TT):TT:=fun σ H Q=>t σ H fun c H1=>if c=true then u σ H1 Q else Q false H1
noncomputable def tOr (t u:TT):TT:=fun σ H Q=>t σ H fun c H1=>if c=true then Q true H1 else u σ H1 Q
noncomputable def tNot (t:TT):TT:=fun σ H Q=>t σ H fun c H1=>Q (!c) H1
theorem pw_and1 (ha:PT X a tA):PW X (.BoolOp .And [a] pos) tA:=by
 intro wh pins s σ H Q I h
 refine isTrue_and (thn (ha pins s σ H Q I h) fun c s1 e=>?_)
 cases c with
 | true=>exact isTrue_and_nil e
 | false=>exact e
theorem pw_or1 (ha:PT X a tA):PW X (.BoolOp .Or [a] pos) tA:=by
 intro wh pins s σ H Q I h
 refine isTrue_or (thn (ha pins s σ H Q I h) fun c s1 e=>?_)
 cases c with
 | false=>exact isTrue_or_nil e
 | true=>exact e
theorem pw_and (ha:PT X a tA)(hb:PW X (.BoolOp .And (b::rest) pos) tB'):PW X (.BoolOp .And (a::b::rest) pos) (tAnd tA tB'):=by
 intro wh pins s σ H Q I h
 refine isTrue_and (thn (ha pins s σ H _ I h) fun c s1 ⟨H1,I1,q1⟩=>?_)
 cases c with
 | true=>exact hb wh pins s1 σ H1 Q I1 q1
 | false=>exact ⟨H1,I1,q1⟩
theorem pw_or (ha:PT X a tA)(hb:PW X (.BoolOp .Or (b::rest) pos) tB'):PW X (.BoolOp .Or (a::b::rest) pos) (tOr tA tB'):=by
 intro wh pins s σ H Q I h
 refine isTrue_or (thn (ha pins s σ H _ I h) fun c s1 ⟨H1,I1,q1⟩=>?_)
 cases c with
 | true=>exact ⟨H1,I1,q1⟩
 | false=>exact hb wh pins s1 σ H1 Q I1 q1
theorem jkh (ha:PT X a tA):PT X (.UnaryOp .Not a pos) (tNot tA):=by
 intro pins s σ H Q I h
 exact isTrue_not (ha pins s σ H (fun c H1=>Q (!c) H1) I h)
noncomputable def jn4 (ta tb:TE):TE:=fun σ H Q=>ta σ H fun x H1=>∃ c,x=.bl c/\if c=true then tb σ H1 Q else Q (.bl false) H1
noncomputable def tOrV (ta tb:TE):TE:=fun σ H Q=>ta σ H fun x H1=>∃ c,x=.bl c/\if c=true then Q (.bl true) H1 else tb σ H1 Q
noncomputable def jn3 (ta:TE):TE:=fun σ H Q=>ta σ H fun x H1=>∃ c,x=.bl c/\Q (.bl (!c)) H1
theorem jhR {op}{t:TE}(h:PE X a t):PE X (.BoolOp op [a] pos) t:=fun pins s σ H Q I hw=>BoolOp_one (h pins s σ H Q I hw)
noncomputable def tIf (t:TT)(ta tb:TE):TE:=fun σ H Q=>t σ H fun c H1=>if c=true then ta σ H1 Q else tb σ H1 Q
theorem jg9 {c:Expr}(hc:PT X c tA)(ha:PE X a ta)(hb:PE X b tb):PE X (.IfExp c a b pos) (tIf tA ta tb):=by
 intro pins s σ H Q I h
 refine wpAny_IfExp (thn (hc pins s σ H _ I h) fun d s1 ⟨H1,I1,q1⟩=>?_)
 cases d with
 | true=>exact ha pins s1 σ H1 Q I1 q1
 | false=>exact hb pins s1 σ H1 Q I1 q1
end

noncomputable def SqL (K:PySem.W.Frag)(H:Hp)(a:Addr)(xs:List V):Prop:=
 Rd H a (.lst xs)\/
  ∃ (o:Obj) (its:Array Value) (n:Nat),K.lookup a=some o/\o.cls=.type "list" /\ o.dict=none/\o.data=.seq its n/\its.size<=sizeLine/\Vals xs its.toList
noncomputable def SqT (K:PySem.W.Frag)(H:Hp)(a:Addr)(xs:List V):Prop:=
 Rd H a (.tup xs)\/
  ∃ (o:Obj) (its:Array Value) (n:Nat),K.lookup a=some o/\o.cls=.type "tuple" /\ o.data=.seq its n/\its.size<=sizeLine/\Vals xs its.toList
noncomputable def absV:Value->Option V
 | .none=>some .non
 | .bool b=>some (.bl b)
 | .int i _=>some (.int i)
 | .str x _=>some (.str x)
 | .bytes b _=>some (.byt b)
 | .float b _=>some (.flt b)
 | .ref a=>some (.ref a)
 | .type n=>some (.ty n)
 | _=>none
theorem RelV.abs {x:V}{u:Value}(r:RelV x u):absV u=some x:=by
 cases x with
 | non=>cases r; rfl
 | bl _=>cases r; rfl
 | int _=>obtain ⟨t,rfl⟩:=r; rfl
 | str _=>obtain ⟨t,rfl⟩:=r; rfl
 | byt _=>obtain ⟨t,rfl⟩:=r; rfl
 | flt _=>obtain ⟨t,rfl⟩:=r; rfl
 | ref _=>cases r; rfl
 | ty _=>cases r; rfl
theorem RelV.inj {x y:V}{u:Value}(r:RelV x u)(q:RelV y u):x=y:=Option.some.inj (r.abs.symm.trans q.abs)
theorem Vals.inj:∀ {xs ys:List V} {us:List Value},Vals xs us->Vals ys us->xs=ys
 | _,_,_,.nil,.nil=>rfl
 | _,_,_,.cons r t,.cons r' t'=>by rw [r.inj r',Vals.inj t t']
section
variable {X:Cx}{pins:List (Addr×Obj)}{σ:St}{H:Hp}{s:Shared}{a:Addr}{xs ys:List V}
theorem SqL.of {K:PySem.W.Frag}(h:H a=some (.lst xs)):SqL K H a xs:=.inl (.inl h)
theorem SqT.of {K:PySem.W.Frag}(h:H a=some (.tup xs)):SqT K H a xs:=.inl (.inl h)
theorem Inv.list (I:Inv X pins σ H s)(h:SqL X.K H a xs):∃ its:List Value,Vals xs its/\PlainL s.heap a its.toArray/\xs.length<=sizeLine:=by
 rcases h with h | ⟨o,its,n,hk,hc,hd,hs,hz,r⟩
 ·obtain ⟨z,its,n,r,e⟩:=h.ok I.hok
  exact ⟨its,r,⟨_,n,e,rfl,rfl,rfl⟩,z⟩
 ·refine ⟨its.toList,r,⟨o,n,I.kIn a o hk,hc,hd,by simpa using hs⟩,?_⟩
  have e:=r.length
  simp only [Array.length_toList] at e
  omega
theorem Inv.tuple (I:Inv X pins σ H s)(h:SqT X.K H a xs):∃ its:List Value,Vals xs its/\IsTup s.heap a its.toArray/\xs.length<=sizeLine:=by
 rcases h with h | ⟨o,its,n,hk,hc,hs,hz,r⟩
 ·obtain ⟨z,its,r,p⟩:=h.ok I.hok
  exact ⟨its,r,p.tup,z⟩
 ·refine ⟨its.toList,r,⟨o,I.kIn a o hk,hc,n,by simpa using hs⟩,?_⟩
  have e:=r.length
  simp only [Array.length_toList] at e
  omega
theorem Inv.list_inj (I:Inv X pins σ H s)(h:SqL X.K H a xs)(h':SqL X.K H a ys):xs=ys:=by
 obtain ⟨its,r,⟨o,n,e,_,_,d⟩,_⟩:=I.list h
 obtain ⟨its',r',⟨o',n',e',_,_,d'⟩,_⟩:=I.list h'
 rw [e] at e'; cases e'
 rw [d] at d'
 injection d' with d1 _
 have:its=its':=by simpa using congrArg Array.toList d1
 subst this
 exact r.inj r'
theorem Inv.tuple_inj (I:Inv X pins σ H s)(h:SqT X.K H a xs)(h':SqT X.K H a ys):xs=ys:=by
 obtain ⟨its,r,⟨o,e,_,n,d⟩,_⟩:=I.tuple h
 obtain ⟨its',r',⟨o',e',_,n',d'⟩,_⟩:=I.tuple h'
 rw [e] at e'; cases e'
 rw [d] at d'
 injection d' with d1 _
 have:its=its':=by simpa using congrArg Array.toList d1
 subst this
 exact r.inj r'
end

noncomputable abbrev Cx.wish (X:Cx)(E:Value->Shared->Prop):Cx:={ X with xe:=E }
noncomputable abbrev Cx.nox (X:Cx):Cx:=X.wish fun _ _=>False
theorem Cx.Ok.wish {X:Cx}(ok:X.Ok)(E:Value->Shared->Prop):(X.wish E).Ok:=
 ⟨ok.mod,ok.kind,ok.glob,ok.blt,ok.above,ok.inj,ok.has,ok.cab,ok.hd,ok.frames,ok.stk,ok.exf,ok.bs,ok.bsz,ok.noex,ok.exfs,ok.funs,ok.frf⟩
theorem Cx.Ok.unwish {X:Cx}{E:Value->Shared->Prop}(ok:(X.wish E).Ok):X.Ok:=
 ⟨ok.mod,ok.kind,ok.glob,ok.blt,ok.above,ok.inj,ok.has,ok.cab,ok.hd,ok.frames,ok.stk,ok.exf,ok.bs,ok.bsz,ok.noex,ok.exfs,ok.funs,ok.frf⟩
section
variable {X:Cx}{pins:List (Addr×Obj)}{σ:St}{H:Hp}{s:Shared}{E:Value->Shared->Prop}
theorem Inv.wish (I:Inv X pins σ H s)(E:Value->Shared->Prop):Inv (X.wish E) pins σ H s:=⟨I.ok.wish E,I.os,I.bare,I.base,I.loc,I.cell,I.free,I.freeC,I.pin,I.hok,I.len⟩
theorem Inv.unwish (I:Inv (X.wish E) pins σ H s):Inv X pins σ H s:=⟨I.ok.unwish,I.os,I.bare,I.base,I.loc,I.cell,I.free,I.freeC,I.pin,I.hok,I.len⟩
theorem SP.unwish {D:Ends}{f:Flow}{s':Shared}(h:SP (X.wish E) pins D f s'):SP X pins D f s':=by
 cases f with
 | next=>obtain ⟨σ',H',I,q⟩:=h; exact ⟨σ',H',I.unwish,q⟩
 | brk=>obtain ⟨σ',H',I,q⟩:=h; exact ⟨σ',H',I.unwish,q⟩
 | cont=>obtain ⟨σ',H',I,q⟩:=h; exact ⟨σ',H',I.unwish,q⟩
 | ret u=>obtain ⟨v,σ',H',I,r,q⟩:=h; exact ⟨v,σ',H',I.unwish,r,q⟩
end

section
variable {X:Cx}{st:Stmt}{rest:List Stmt}{t u:TS}{e:Expr}{te:TE}{pos:Pos}
noncomputable def jmi:TS:=fun D σ H=>D.nx σ H
noncomputable def tSeq (t u:TS):TS:=fun D σ H=>t { D with nx:=u D } σ H
theorem jiE:PSs X [] jmi:=fun _ _ σ H _ I h=>wpAny_execs_nil ⟨σ,H,I,h⟩
theorem jg1 (h1:PS X st t)(h2:PSs X rest u):PSs X (st::rest) (tSeq t u):=by
 intro pins s σ H D I h
 refine wpAny_execs_cons (thn (h1 pins s σ H { D with nx:=u D } I h) fun f s1 q=>?_)
 cases f with
 | next=>
  obtain ⟨σ',H',I',q⟩:=q
  exact h2 pins s1 σ' H' D I' q
 | ret v=>exact q
 | brk=>exact q
 | cont=>exact q
theorem Inv.quiet {pins:List (Addr×Obj)}{σ:St}{H:Hp}{s:Shared}(I:Inv X pins σ H s):interactive X.env=false:=by simp [interactive,I.ok.kind]
noncomputable def jmj (te:TE):TS:=fun D σ H=>te σ H fun _ H1=>D.nx σ H1
theorem jiF (he:PE X e te)(hs:swapsWith e none pos.line X.env=pure false:=by rfl):PS X (.Expr e pos) (jmj te):=by
 intro pins s σ H D I h
 exact wpAny_Expr_any (thn (he pins s σ H _ I h) fun v s1 ⟨x,H1,I1,r1,q1⟩=>⟨σ,H1,I1,q1⟩) I.quiet hs
noncomputable def tRet (te:TE):TS:=fun D σ H=>te σ H D.rt
theorem jki (he:PE X e te):PS X (.Return (some e) pos) (tRet te):=by
 intro pins s σ H D I h
 exact wpAny_Return_some (thn (he pins s σ H _ I h) fun v s1 ⟨x,H1,I1,r1,q1⟩=>⟨x,σ,H1,I1,r1,q1⟩)
noncomputable def tIfS (c:TT)(t u:TS):TS:=fun D σ H=>c σ H fun b H1=>if b=true then t D σ H1 else u D σ H1
theorem jmw {c:Expr}{a b:List Stmt}{tc:TT}(hc:PT X c tc)(ha:PSs X a t)(hb:PSs X b u):PS X (.If c a b pos) (tIfS tc t u):=by
 intro pins s σ H D I h
 refine wpAny_If (thn (hc pins s σ H _ I h) fun d s1 ⟨H1,I1,q1⟩=>?_)
 cases d with
 | true=>exact ha pins s1 σ H1 D I1 q1
 | false=>exact hb pins s1 σ H1 D I1 q1
end

noncomputable abbrev TG:=V->St->Hp->(St->Hp->Prop)->Prop
noncomputable abbrev TGs:=List V->St->Hp->(St->Hp->Prop)->Prop
noncomputable def PG (X:Cx)(target:Expr)(t:TG):Prop:=
 ∀ (pins:List (Addr×Obj)) (s:Shared) (σ:St) (H:Hp) (v:V) (u:Value) (Q:St->Hp->Prop),Inv X pins σ H s->RelV v u->t v σ H Q->
  wpAny (model X.prog X.w) X.A (assign target X.env u) (fun _ s'=>∃ σ' H',Inv X pins σ' H' s'/\Q σ' H') X.xe s
noncomputable def PGs (X:Cx)(ts:List Expr)(t:TGs):Prop:=
 ∀ (pins:List (Addr×Obj)) (s:Shared) (σ:St) (H:Hp) (vs:List V) (us:List Value) (Q:St->Hp->Prop),Inv X pins σ H s->Vals vs us->t vs σ H Q->
  wpAny (model X.prog X.w) X.A (assignInOrder ((assignEach ts X.env).map (·.2)) us) (fun _ s'=>∃ σ' H',Inv X pins σ' H' s'/\Q σ' H') X.xe s
noncomputable abbrev TSet:=V->V->V->Hp->(Hp->Prop)->Prop
noncomputable def PSet (X:Cx)(t:TSet):Prop:=
 ∀ (pins:List (Addr×Obj)) (s:Shared) (σ:St) (H:Hp) (o i v:V) (ov iv u:Value) (Q:Hp->Prop),Inv X pins σ H s->RelV o ov->RelV i iv->RelV v u->t o i v H Q->
  wpAny (model X.prog X.w) X.A (setItem ov iv u) (fun _ s'=>∃ H',Inv X pins σ H' s'/\Q H') X.xe s
section
variable {X:Cx}{pos:Pos}
noncomputable def jhn (i:Nat):TG:=fun v σ H Q=>Q (σ.set i (some v)) H
theorem jiO {i:Nat}{x:Str}(hN:X.N.Nodup)(hi:X.N[i]?=some x)(hx:Loc X.env.scope x)(hf:X.fn x=true\/X.env.scope.names.lookup x=some .local:=by first | exact .inl rfl | exact .inr rfl | assumption):PG X (.Name x pos) (jhn i):=by
 intro pins s σ H v u Q I r h
 exact wpAny_assign_Name (jdy I hN hi hx r (fun s' I'=>⟨_,H,I',h⟩) hf)
noncomputable def gNil:TGs:=fun vs σ H Q=>vs=[]/\Q σ H
noncomputable def jmV (t:TG)(u:TGs):TGs:=fun vs σ H Q=>∃ v r,vs=v::r/\t v σ H fun σ' H'=>u r σ' H' Q
theorem jiN:PGs X [] gNil:=by
 intro pins s σ H vs us Q I r h
 obtain ⟨e,h⟩:=h
 subst e
 cases r
 exact assignInOrder_nil ⟨σ,H,I,h⟩
theorem jg7 {e:Expr}{es:List Expr}{t:TG}{u:TGs}(h1:PG X e t)(h2:PGs X es u)
  (hs:(assignEach (e::es) X.env).map (·.2)=assign e X.env::(assignEach es X.env).map (·.2):=by rfl):PGs X (e::es) (jmV t u):=by
 intro pins s σ H vs us Q I r h
 obtain ⟨v,vr,e1,h⟩:=h
 subst e1
 cases r with
 | cons r rr=>
  rw [hs]
  refine assignInOrder_cons (thn (h1 pins s σ H _ _ _ I r h) fun _ s1 ⟨σ1,H1,I1,q1⟩=>?_)
  exact h2 pins s1 σ1 H1 _ _ Q I1 rr q1
noncomputable def gTup (K:PySem.W.Frag)(n:Nat)(t:TGs):TG:=fun v σ H Q=>∃ a xs,v=.ref a/\SqT K H a xs/\xs.length=n/\t xs σ H Q
theorem jko {es:List Expr}{k:Nat}{t:TGs}{n:Nat}(hc:X.calm=true)(h:PGs X es t)
  (hn:(assignEach es X.env).length=n:=by rfl) (hst:(assignEach es X.env).findIdx? (·.1)=none:=by rfl):PG X (.Tuple es k pos) (gTup X.K n t):=by
 intro pins s σ H v u Q I r hw
 obtain ⟨a,xs,e1,hq,hl,hw⟩:=hw
 subst e1
 cases r
 obtain ⟨its,rv,ht,hz⟩:=I.tuple hq
 refine assign_Tuple_tuple (I.ok.hd hc) ht (by simp [hn,<- hl,rv.length]) hst fun h' hx=>?_
 have I1:Inv X pins σ H { s with heap:=h' }:=I.kept (t':=s.toks) fun b o e=>hx b o (Nat.ne_of_lt (Heap.lt_size e)) e
 exact h pins _ σ H xs _ Q I1 (by simpa using rv) hw
noncomputable def gSub (to ti:TE)(t:TSet):TG:=fun v σ H Q=>to σ H fun o H1=>ti σ H1 fun i H2=>t o i v H2 fun H3=>Q σ H3
theorem jkp {o i:Expr}{to ti:TE}{t:TSet}(ho:PE X o to)(hi:PE X i ti)(hs:PSet X t)
  (ha:∀ v,assign (.Subscript o i pos) X.env v=(do
   let ov <- holding [v] (eval o X.env)
   let iv <- holding [v,ov] (eval i X.env)
   standAt pos
   holding [v,ov,iv] (setItem ov iv v)
   release [v,ov,iv] []):=by intro _; rfl):PG X (.Subscript o i pos) (gSub to ti t):=by
 intro pins s σ H v u Q I r h
 rw [ha]
 refine wpAny_bind (wpAny_holding (thn (ho pins s σ H _ I h) fun ov s1 ⟨x,H1,I1,r1,q1⟩=>?_))
 refine wpAny_bind (wpAny_holding (thn (hi pins s1 σ H1 _ I1 q1) fun iv s2 ⟨y,H2,I2,r2,q2⟩=>?_))
 refine wpAny_bind (wpAny_standAt (wpAny_bind (wpAny_holding (thn (hs pins s2 σ H2 x y v ov iv u _ I2 r1 r2 r q2) fun _ s3 ⟨H3,I3,q3⟩=>?_))))
 exact wpAny_release ⟨σ,H3,I3,q3⟩
noncomputable def tAsg (te:TE)(g:TG):TS:=fun D σ H=>te σ H fun x H1=>g x σ H1 D.nx
theorem jhP {tg e:Expr}{te:TE}{g:TG}(he:PE X e te)(hg:PG X tg g)(hs:swapsWithSole [tg] e pos.line X.env=pure false:=by rfl)(hw:swappedStores [tg] e X.env=pure none:=by rfl)
  (h1:(assignEach [tg] X.env).map (·.2)=[assign tg X.env]:=by rfl):PS X (.Assign [tg] e pos) (tAsg te g):=by
 intro pins s σ H D I h
 refine wpAny_Assign_stores (thn (he pins s σ H _ I h) fun v s1 ⟨x,H1,I1,r1,q1⟩=>?_) hs hw
 rw [h1]
 exact thn (hg pins s1 σ H1 x v _ I1 r1 q1) fun _ s2 q=>q
noncomputable def tPar (i j:Nat)(ta:TA):TS:=fun D σ H=>ta σ H fun vs H1=>∃ v w,vs=[v,w]/\D.nx ((σ.set i (some v)).set j (some w)) H1
theorem jkj {i j:Nat}{x y:Str}{a b:Expr}{ta:TA}{px py pt:Pos}{kt k2 pt2}(hc:X.calm=true)(hN:X.N.Nodup)(hi:X.N[i]?=some x)(hj:X.N[j]?=some y)(hij:i≠j)
  (hx:X.env.scope.names.lookup x=some .local) (hy:X.env.scope.names.lookup y=some .local) (ha:PA X [a,b] ta)
  (hw:swappedStores [.Tuple [.Name x px,.Name y py] kt pt] (.Tuple [a,b] k2 pt2) X.env=pure (some [x,y]))
  (hs:swapsWithSole [.Tuple [.Name x px,.Name y py] kt pt] (.Tuple [a,b] k2 pt2) pos.line X.env=pure false:=by rfl) :
  PS X (.Assign [.Tuple [.Name x px,.Name y py] kt pt] (.Tuple [a,b] k2 pt2) pos) (tPar i j ta):=by
 intro pins s σ H D I h
 rw [exec_Assign_arm]
 refine wpAny_bind (wpAny_standAt ?_)
 rw [hs]
 refine wpAny_bind (wpAny_pure ?_)
 rw [if_neg (by decide)]
 refine wpAny_bind (Tuple_ (thn (ha _ pins s σ H _ I h) fun us s1 ⟨vs,H1,I1,r1,q1⟩=>?_))
 obtain ⟨v,w,e1,q1⟩:=q1
 subst e1
 obtain ⟨u1,u2,rfl,rv,rw'⟩:∃ u1 u2,us=[u1,u2]/\RelV v u1/\RelV w u2:=by
  cases r1 with
  | cons p q=>
   cases q with
   | cons p' q'=>
    cases q'
    exact ⟨_,_,rfl,p,p'⟩
 refine wpAny_newObj_type ?_ (by show 2<=sizeLine; decide)
 have I2:Inv X pins σ H1 { s1 with heap:=s1.heap.push { cls:=.type "tuple",data:=.seq [u1,u2].toArray } }:=I1.kept (t':=s1.toks) fun b o e=>Heap.get?_push_of_some _ e
 rw [hw]
 refine wpAny_bind (wpAny_pure ?_)
 show wpAny (model X.prog X.w) X.A (do rule "assign.swapped-stores"; let items <- unpackItems (.ref s1.heap.objs.size) 2 none; assignInOrder [fun v=>bindName X.env y v,fun v=>bindName X.env x v] items.reverse; pure Flow.next) _ _ _
 refine wpAny_bind (wpAny_rule (wpAny_bind (unpackItems_tuple (items:=#[u1,u2]) (I.ok.hd hc) (IsTup.new s1.heap _) fun h' hx'=>?_)))
 have I3:=I2.kept (h':=h') (t':=s1.toks) fun b o e=>hx' b o (Nat.ne_of_lt (Heap.lt_size e)) e
 show wpAny _ _ (assignInOrder [fun v=>bindName X.env y v,fun v=>bindName X.env x v] [u2,u1] >>= fun _=>pure Flow.next) _ _ _
 refine wpAny_bind (assignInOrder_cons (wpAny_bindName (jdy I3 hN hj (.inl hy) rw' (fun s2 I4=>?_) (.inr hy))))
 refine assignInOrder_cons (wpAny_bindName (jdy I4 hN hi (.inl hx) rv (fun s3 I5=>assignInOrder_nil (wpAny_pure ?_)) (.inr hx)))
 rw [List.set_comm _ _ (Ne.symm hij)] at I5
 exact ⟨_,H1,I5,q1⟩
noncomputable def PGet (X:Cx)(t:V->V->Hp->VK->Prop):Prop:=
 ∀ (pins:List (Addr×Obj)) (s:Shared) (σ:St) (H:Hp) (o i:V) (ov iv:Value) (Q:VK),Inv X pins σ H s->RelV o ov->RelV i iv->t o i H Q->
  wpAny (model X.prog X.w) X.A (getItem ov iv) (EP X pins σ Q) X.xe s
end

section
variable {X:Cx}{pos:Pos}
noncomputable def jjV (c:TT)(tb:TS):TS:=fun D σ H=>∃ W:Nat->St->Hp->Prop,(∃ m,W m σ H)/\∀ m σ H,W m σ H->
 c σ H fun b H1=>if b=true then ∃ N:St->Hp->Prop,(∀ σ' H',N σ' H'->∃ m',m' < m/\W m' σ' H')/\tb { D with nx:=N,ct:=N,bk:=D.nx } σ H1 else D.nx σ H1
theorem jg2 {c:Expr}{body:List Stmt}{tc:TT}{tb:TS}(hp:PassesOwn (model X.prog X.w) X.A X.env X.xe)(hc:PT X c tc)(hb:PSs X body tb):PS X (.While c body [] pos) (jjV tc tb):=by
 intro pins s σ H D I h
 obtain ⟨W,⟨m0,w0⟩,turn⟩:=h
 refine wpAny_While (codeAny_whileLoop (fun n s'=>∃ σ' H',Inv X pins σ' H' s'/\W n σ' H') ?_ m0 ⟨σ,H,I,w0⟩)
 rintro n s1 ⟨σ1,H1,I1,w1⟩
 refine wpAny_passesOwn hp (thn (hc pins s1 σ1 H1 _ I1 (turn n σ1 H1 w1)) fun b s2 ⟨H2,I2,q2⟩=>?_)
 cases b with
 | true=>
  obtain ⟨N,hN,q2⟩:=q2
  rw [if_pos rfl]
  refine wpAny_passesOwn hp (thn (hb pins s2 σ1 H2 _ I2 q2) fun f s3 q3=>?_)
  cases f with
  | next=>
   obtain ⟨σ3,H3,I3,n3⟩:=q3
   obtain ⟨m',hm,w3⟩:=hN σ3 H3 n3
   exact ⟨m',hm,σ3,H3,I3,w3⟩
  | cont=>
   obtain ⟨σ3,H3,I3,n3⟩:=q3
   obtain ⟨m',hm,w3⟩:=hN σ3 H3 n3
   exact ⟨m',hm,σ3,H3,I3,w3⟩
  | brk=>exact q3
  | ret v=>exact q3
 | false=>
  rw [if_neg Bool.false_ne_true]
  exact wpAny_execs_nil ⟨σ1,H2,I2,q2⟩
end

structure It where
 go:Nat->Hp->Prop
 yld:Nat->Hp->V->Hp->Prop
 stop:Nat->Hp->Prop
noncomputable def FpOk (X:Cx)(pins:List (Addr×Obj))(H:Hp)(b:Addr):Prop:=
 H b=none/\b≠X.env.locals/\b∉X.fs/\(b∈X.ex\/X.s₀.heap.objs.size<=b)/\(∀ x c,X.env.cells.lookup x=some c->c≠b)/\∀ p∈X.pn++pins,p.1≠b
theorem Inv.fpOk {X:Cx}{pins:List (Addr×Obj)}{σ:St}{H H':Hp}{s:Shared}{b:Addr}(I:Inv X pins σ H s)(hb:s.heap.objs.size<=b)(hn:H' b=none):FpOk X pins H' b:=by
 refine ⟨hn,Nat.ne_of_gt (Nat.lt_of_lt_of_le I.lt hb),I.nofs hb,.inr (Nat.le_trans I.sz hb),fun x c e z=>?_,fun p hp z=>?_⟩
 ·obtain ⟨v,q⟩:=I.cell x c e
  exact absurd (Nat.lt_of_lt_of_le q.lt (by rw [z]; exact hb)) (Nat.lt_irrefl _)
 ·exact absurd (Nat.lt_of_lt_of_le (Heap.lt_size (I.pin p hp).1) (by rw [z]; exact hb)) (Nat.lt_irrefl _)
structure Turn (P:Program)(w:World)(K:PySem.W.Frag)(tg:Expr)(J:It)(fp:List Addr)(it:Addr)(tn:Nat->Heap->Prop):Prop where
 mem:it∈fp
 obj:∀ i h,tn i h->∀ b∈fp,∃ o,h.get? b=some o/\∀ v,o.data≠.cell v
 keep:∀ i h h',tn i h->(∀ b∈fp,∀ o,h.get? b=some o->h'.get? b=some o)->tn i h'
 item:∀ (X:Cx),X.prog=P->X.w=w->X.K=K->X.calm=true->∀ (i:Nat) (pins:List (Addr×Obj)) (s:Shared) (σ:St) (H:Hp) (E:Value->Shared->Prop),Inv X pins σ H s->(∀ b∈fp,FpOk X pins H b)->tn i s.heap->J.go i H->
  wpAny (model P w) X.A (pyNext (.ref it)) (fun r s1=>∃ u,r=some u/\
   wpAny (model P w) X.A (letOwnedTupleGo tg (.ref it) u) (fun _ s2=>∃ x H',Inv X pins σ H' s2/\RelV x u/\J.yld i H x H'/\tn (i + 1) s2.heap/\∀ b∈fp,H' b=none) E s1) E s
 done:∀ (X:Cx),X.prog=P->X.w=w->X.K=K->X.calm=true->∀ (i:Nat) (pins:List (Addr×Obj)) (s:Shared) (σ:St) (H:Hp) (E:Value->Shared->Prop),Inv X pins σ H s->(∀ b∈fp,FpOk X pins H b)->tn i s.heap->J.stop i H->
  wpAny (model P w) X.A (pyNext (.ref it)) (fun r s1=>r=none/\Inv X pins σ H s1) E s
 self:∀ (A:Around) (i:Nat) (s:Shared) (Q:Value->Shared->Prop) (E:Value->Shared->Prop),tn i s.heap->Q (.ref it) s->wpAny (model P w) A (pyIter (.ref it)) Q E s
noncomputable abbrev TI:=St->Hp->(It->Hp->Prop)->Prop
noncomputable def PIE (X:Cx)(pins:List (Addr×Obj))(σ:St)(tg:Expr)(R:It->Hp->Prop)(itv:Value)(s2:Shared):Prop:=
 ∃ (it:Addr) (fp:List Addr) (tn:Nat->Heap->Prop) (J:It) (H':Hp),itv=.ref it/\Inv X pins σ H' s2/\Turn X.prog X.w X.K tg J fp it tn/\tn 0 s2.heap/\(∀ b∈fp,FpOk X pins H' b)/\R J H'
noncomputable def PI (X:Cx)(tg iter:Expr)(wi:TI):Prop:=
 ∀ (pins:List (Addr×Obj)) (s:Shared) (σ:St) (H:Hp) (R:It->Hp->Prop),Inv X pins σ H s->wi σ H R->
  wpAny (model X.prog X.w) X.A (eval iter X.env) (fun v s1=>wpAny (model X.prog X.w) X.A (pyIter v) (PIE X pins σ tg R) X.xe s1) X.xe s

theorem jjj {M : Model}{A : Around}{E : Value -> Shared -> Prop}{s : Shared}{tg : Expr}{it : Addr}{u : Value}{o : Obj}{n : String}{vs : Array Value}{Q : Unit -> Shared -> Prop}(ho : s.heap.get? it = some o)(hc : o.cls = .type n)(hd : o.data = .fields vs)
    (hn : ["enumerate", "zip", "dict_itemiterator", "dict_reverseitemiterator", "odict_iterator", "itertools.zip_longest", "itertools.pairwise"].contains n = false) (hQ : Q () s) : wpAny M A (letOwnedTupleGo tg (.ref it) u) Q E s := by
  unfold letOwnedTupleGo
  cases tg <;> first
    | exact wpAny_pure hQ
    | (cases u <;> first
        | exact wpAny_pure hQ
        | (refine wpAny_bind (wpAny_load ho ?_)
           rw [hc, hd]
           show wpAny M A (if (["enumerate", "zip", "dict_itemiterator", "dict_reverseitemiterator", "odict_iterator", "itertools.zip_longest", "itertools.pairwise"].contains n && vs[0]? == some (rawInt _)) = true then _ else _) Q E s
           rw [if_neg (by intro h; rw [hn, Bool.false_and] at h; cases h)]
           exact wpAny_pure hQ))

noncomputable def Itl (K:PySem.W.Frag)(a:Addr):It:=
 ⟨fun i H=>∃ xs x,SqL K H a xs/\xs[i]?=some x,fun i H x H'=>H'=H/\∀ xs,SqL K H a xs->xs[i]?=some x,fun i H=>∃ xs,SqL K H a xs/\xs.length<=i⟩
noncomputable def Itt (K:PySem.W.Frag)(a:Addr):It:=
 ⟨fun i H=>∃ xs x,SqT K H a xs/\xs[i]?=some x,fun i H x H'=>H'=H/\∀ xs,SqT K H a xs->xs[i]?=some x,fun i H=>∃ xs,SqT K H a xs/\xs.length<=i⟩
noncomputable def Itr (lo:Int)(n:Nat):It:=⟨fun i _=>i < n,fun i H x H'=>H'=H/\x=.int (lo + i),fun i _=>n<=i⟩
theorem jfN {P:Program}{w:World}{K:PySem.W.Frag}{tg:Expr}(a it:Addr):Turn P w K tg (Itl K a) [it] it (fun i h=>h.IsListIter it a i) where
 mem:=by simp
 obj:=fun i h st b hb=>by
  have e:b=it:=by simpa using hb
  subst e
  obtain ⟨o,e,c,d⟩:=st
  exact ⟨o,e,fun v z=>by rw [d] at z; cases z⟩
 keep:=fun i h h' st k=>st.at fun o e=>k it (by simp) o e
 item:=by
  intro X hP hw hK hc i pins s σ H E I hf st hg
  subst hP hw hK
  obtain ⟨xs,x,hq,hx⟩:=hg
  obtain ⟨its,rv,p,hz⟩:=I.list hq
  obtain ⟨u,hu,ru⟩:=rv.get hx
  obtain ⟨f0,f1,f2,f3,f4,f5⟩:=hf it (by simp)
  refine wpAny_pyNext_list_item st p.isList (x:=u) (by simpa using hu) fun h' st' sb=>?_
  have I1:Inv X pins σ H { s with heap:=h' }:=I.turned (t':=s.toks) (fun b o hb e=>(sb.2 b hb).trans e) f0 f1 f3 f4 f5
  obtain ⟨o,e,c,d⟩:=id st'
  exact ⟨u,rfl,jjj (s:={ s with heap:=h' }) e c d (by decide) ⟨x,H,I1,ru,⟨rfl,fun ys hy=>by rw [I.list_inj hy hq]; exact hx⟩,st',fun b hb=>(hf b hb).1⟩⟩
 done:=by
  intro X hP hw hK hc i pins s σ H E I hf st hg
  subst hP hw hK
  obtain ⟨xs,hq,hx⟩:=hg
  obtain ⟨its,rv,p,hz⟩:=I.list hq
  obtain ⟨f0,f1,f2,f3,f4,f5⟩:=hf it (by simp)
  have hl:=rv.length
  exact wpAny_pyNext_list_end (I.ok.hd hc) st p.isList (by simp; omega) fun h' eb=>⟨rfl,I.turned (t':=s.toks) (fun b o hb e=>eb b o hb e) f0 f1 f3 f4 f5⟩
 self:=fun _ _ _ _ _ st h=>wpAny_pyIter_listiter st h
theorem jfi {P:Program}{w:World}{K:PySem.W.Frag}{tg:Expr}(a it:Addr):Turn P w K tg (Itt K a) [it] it (fun i h=>h.IsTupleIter it a i) where
 mem:=by simp
 obj:=fun i h st b hb=>by
  have e:b=it:=by simpa using hb
  subst e
  obtain ⟨o,e,c,d⟩:=st
  exact ⟨o,e,fun v z=>by rw [d] at z; cases z⟩
 keep:=fun i h h' st k=>st.at fun o e=>k it (by simp) o e
 item:=by
  intro X hP hw hK hc i pins s σ H E I hf st hg
  subst hP hw hK
  obtain ⟨xs,x,hq,hx⟩:=hg
  obtain ⟨its,rv,p,hz⟩:=I.tuple hq
  obtain ⟨u,hu,ru⟩:=rv.get hx
  obtain ⟨f0,f1,f2,f3,f4,f5⟩:=hf it (by simp)
  refine wpAny_pyNext_tuple_item st (show s.heap.IsTuple a its.toArray from p) (x:=u) (by simpa using hu) fun h' st' sb=>?_
  have I1:Inv X pins σ H { s with heap:=h' }:=I.turned (t':=s.toks) (fun b o hb e=>(sb.2 b hb).trans e) f0 f1 f3 f4 f5
  obtain ⟨o,e,c,d⟩:=id st'
  exact ⟨u,rfl,jjj (s:={ s with heap:=h' }) e c d (by decide) ⟨x,H,I1,ru,⟨rfl,fun ys hy=>by rw [I.tuple_inj hy hq]; exact hx⟩,st',fun b hb=>(hf b hb).1⟩⟩
 done:=by
  intro X hP hw hK hc i pins s σ H E I hf st hg
  subst hP hw hK
  obtain ⟨xs,hq,hx⟩:=hg
  obtain ⟨its,rv,p,hz⟩:=I.tuple hq
  obtain ⟨f0,f1,f2,f3,f4,f5⟩:=hf it (by simp)
  have hl:=rv.length
  exact wpAny_pyNext_tuple_end (I.ok.hd hc) st (show s.heap.IsTuple a its.toArray from p) (by simp; omega) fun h' eb=>⟨rfl,I.turned (t':=s.toks) (fun b o hb e=>eb b o hb e) f0 f1 f3 f4 f5⟩
 self:=fun _ _ _ _ _ st h=>wpAny_pyIter_tupleiter st h
theorem jfj {P:Program}{w:World}{K:PySem.W.Frag}{tg:Expr}(it:Addr)(lo:Int)(n:Nat):Turn P w K tg (Itr lo n) [it] it (fun i h=>IsRangeIter h it (lo + (i:Nat) * 1) ((n:Int) - (i:Nat)) 1) where
 mem:=by simp
 obj:=fun i h st b hb=>by
  have e:b=it:=by simpa using hb
  subst e
  exact ⟨_,st,fun v z=>by
   have z':Data.fields _=Data.cell v:=z
   cases z'⟩
 keep:=fun i h h' st k=>k it (by simp) _ st
 item:=by
  intro X hP hw hK hc i pins s σ H E I hf st hg
  subst hP hw hK
  obtain ⟨f0,f1,f2,f3,f4,f5⟩:=hf it (by simp)
  have W:=Walks.range (prog:=X.prog) (w:=X.w) (I.ok.hd hc) it lo 1 n
  refine W.item i s _ _ hg st fun v h' tk hv st' kk=>?_
  obtain ⟨t,rfl⟩:=hv
  have I1:Inv X pins σ H { s with heap:=h',toks:=tk }:=I.turned (fun b o hb e=>kk b o (by simpa using hb) e) f0 f1 f3 f4 f5
  refine ⟨_,rfl,jjj (s:={ s with heap:=h',toks:=tk }) (n := "range_iterator") st' rfl rfl (by decide) ⟨.int (lo + i),H,I1,⟨t,?_⟩,⟨rfl,rfl⟩,st',fun b hb=>(hf b hb).1⟩⟩
  rw [Int.mul_one]
 done:=by
  intro X hP hw hK hc i pins s σ H E I hf st hg
  subst hP hw hK
  obtain ⟨f0,f1,f2,f3,f4,f5⟩:=hf it (by simp)
  exact wpAny_pyNext_range_end (I.ok.hd hc) st (by have:n<=i:=hg; omega) fun h' eb=>⟨rfl,I.turned (t':=s.toks) (fun b o hb e=>eb b o hb e) f0 f1 f3 f4 f5⟩
 self:=fun _ _ _ _ _ st h=>wpAny_pyIter_rangeiter st h
section
variable {X:Cx}{tg:Expr}
theorem jgX {pins:List (Addr×Obj)}{σ:St}{H:Hp}{s:Shared}{R:It->Hp->Prop}{E:Value->Shared->Prop}{lo hi:Int}{t u v:Tok}{tk:Nat}(I:Inv X pins σ H s)(h1:-(2 ^ 62)<=lo)(h2:lo < 2 ^ 62)(h3:-(2 ^ 62)<=hi)(h4:hi < 2 ^ 62)
  (q:R (Itr lo (hi - lo).toNat) H):wpAny (model X.prog X.w) X.A (pyIter (.ref s.heap.objs.size)) (PIE X pins σ tg R) E { s with heap:=s.heap.push { cls:=.type "range",data:=.fields #[.int lo t,.int hi u,.int 1 v] },toks:=tk }:=by
 refine wpAny_pyIter_range (IsRange.new ..) (small_one h1 h2 h3 h4) ?_
 have I1:Inv X pins σ H { s with heap:=s.heap.push { cls:=.type "range",data:=.fields #[.int lo t,.int hi u,.int 1 v] },toks:=tk }:=I.kept fun b o e=>Heap.get?_push_of_some _ e
 refine ⟨(s.heap.push { cls:=.type "range",data:=.fields #[.int lo t,.int hi u,.int 1 v] }).objs.size,[(s.heap.push { cls:=.type "range",data:=.fields #[.int lo t,.int hi u,.int 1 v] }).objs.size],_,_,H,rfl,
  I1.kept (t':=tk) fun b o e=>Heap.get?_push_of_some _ e,jfj _ lo (hi - lo).toNat,?_,fun b hb=>?_,q⟩
 ·have e1:lo + ((0:Nat):Int) * 1=lo:=by simp
  have e2:(((hi - lo).toNat:Nat):Int) - ((0:Nat):Int)=Builtin.Range.rangeSize lo hi 1:=by rw [rangeSize_one]; split <;> omega
  show IsRangeIter _ _ (lo + ((0:Nat):Int) * 1) ((((hi - lo).toNat:Nat):Int) - ((0:Nat):Int)) 1
  rw [e1,e2]
  exact Heap.get?_push_size _ rfl
 ·have e:b=(s.heap.push { cls:=.type "range",data:=.fields #[.int lo t,.int hi u,.int 1 v] }).objs.size:=by simpa using hb
  subst e
  exact I1.fpOk (Nat.le_refl _) (I1.hok.fresh (Nat.le_refl _))
noncomputable def jmS (ta:TA):TI:=fun σ H R=>ta σ H fun vs H1=>∃ j:Int,vs=[.int j]/\-(2 ^ 62)<=j/\j < 2 ^ 62/\R (Itr 0 j.toNat) H1
theorem jf1 {a:Expr}{ta:TA}{p pos:Pos}(hg:Gl X "range")(hm:X.mg "range" = none)(ha:PA X [a] ta)(hs:starEach [a] X.env=[(false,eval a X.env)]:=by rfl):PI X tg (.Call (.Name "range" p) [a] [] pos) (jmS ta):=by
 intro pins s σ H R I h
 refine Call_ (jdj I hg hm boot_range (PyProof.Rows.callWith_type1 (thn (ha pos pins s σ H _ I h) fun us s1 ⟨vs,H1,I1,r1,q1⟩=>?_) hs rfl))
 obtain ⟨j,e,q1,q2,q⟩:=q1
 subst e
 cases r1 with
 | cons r rr=>
  cases rr
  obtain ⟨t,rfl⟩:=r
  exact call_range_1 (jgX I1 (by omega) (by omega) q1 q2 (by simpa using q))
noncomputable def tFor (wi:TI)(g:TG)(tb:TS):TS:=fun D σ H=>wi σ H fun J H1=>∃ W:Nat->Nat->St->Hp->Prop,(∃ m,W 0 m σ H1)/\∀ i m σ H,W i m σ H->
 (J.stop i H/\D.nx σ H)\/(J.go i H/\∃ N:St->Hp->Prop,(∀ σ' H',N σ' H'->∃ m',m' < m/\W (i + 1) m' σ' H')/\∀ x H',J.yld i H x H'->g x σ H' fun σ2 H2=>tb { D with nx:=N,ct:=N,bk:=D.nx } σ2 H2)
noncomputable def jdV (fp:List Addr)(h:Heap):List (Addr×Obj):=fp.filterMap fun b=>(h.get? b).map fun o=>(b,o)
theorem jbD {fp:List Addr}{h:Heap}{b:Addr}{o:Obj}(hb:b∈fp)(e:h.get? b=some o):(b,o)∈jdV fp h:=List.mem_filterMap.mpr ⟨b,hb,by rw [e]; rfl⟩
theorem jgb {fp:List Addr}{h:Heap}{p:Addr×Obj}(hp:p∈jdV fp h):p.1∈fp/\h.get? p.1=some p.2:=by
 obtain ⟨b,hb,e⟩:=List.mem_filterMap.mp hp
 cases q:h.get? b with
 | none=>rw [q] at e; cases e
 | some o=>
  rw [q] at e
  have e':(b,o)=p:=Option.some.inj e
  subst e'
  exact ⟨hb,q⟩
theorem Inv.pinned {pins:List (Addr×Obj)}{σ:St}{H:Hp}{s:Shared}{fp:List Addr}(I:Inv X pins σ H s)(hf:∀ b∈fp,FpOk X pins H b)(ho:∀ b∈fp,∃ o,s.heap.get? b=some o/\∀ v,o.data≠.cell v):Inv X (pins++jdV fp s.heap) σ H s:=
 I.pins_of fun p hp=>(List.mem_append.mp hp).elim (fun z=>I.pin p (List.mem_append_right _ z)) fun z=>by
  obtain ⟨hb,e⟩:=jgb z
  obtain ⟨f0,f1,f2,_⟩:=hf p.1 hb
  obtain ⟨o,e',d⟩:=ho p.1 hb
  rw [e] at e'; cases e'
  exact ⟨e,f0,f1,f2,d⟩
theorem Inv.unpinned {pins pl:List (Addr×Obj)}{σ:St}{H:Hp}{s:Shared}(I:Inv X (pins++pl) σ H s):Inv X pins σ H s:=I.pins_of fun p hp=>I.pin p (List.mem_append_right _ (List.mem_append_left _ hp))
theorem jkl {iter:Expr}{body:List Stmt}{wi:TI}{g:TG}{tb:TS}{pos:Pos}(hp:PassesOwn (model X.prog X.w) X.A X.env X.xe)(hc:X.calm=true)(hi:PI X tg iter wi)(hg:PG X tg g)(hb:PSs X body tb)
  (hs:∀ x,foldedSetIterable iter X.env x=pure x:=by intro _; rfl):PS X (.For tg iter body [] pos) (tFor wi g tb):=by
 intro pins s σ H D I h
 refine wpAny_For (thn (hi pins s σ H _ I h) fun v s1 h1=>thn h1 fun itv s2 h2=>?_) hs
 obtain ⟨it,fp,tn,J,H2,e,I2,T,st2,f2,W,⟨m0,w0⟩,turn⟩:=h2
 subst e
 have stat:∀ {H':Hp},(∀ b∈fp,H' b=none)->∀ b∈fp,FpOk X pins H' b:=fun hn b hb=>⟨hn b hb,(f2 b hb).2⟩
 refine codeAny_forLoop_any (fun n s'=>∃ i σ' H',Inv X pins σ' H' s'/\tn i s'.heap/\(∀ b∈fp,H' b=none)/\W i n σ' H') ?_ m0 ⟨0,σ,H2,I2,st2,fun b hb=>(f2 b hb).1,w0⟩
 rintro n s3 ⟨i,σ3,H3,I3,st3,fr3,w3⟩
 rcases turn i n σ3 H3 w3 with ⟨stop,qn⟩ | ⟨go,N,hN,step⟩
 ·refine wpAny_passesOwn hp (thn (T.done X rfl rfl rfl hc i pins s3 σ3 H3 X.xe I3 (stat fr3) st3 stop) fun r s4 ⟨hr,I4⟩=>?_)
  subst hr
  exact wpAny_execs_nil ⟨σ3,H3,I4,qn⟩
 ·refine wpAny_passesOwn hp (thn (T.item X rfl rfl rfl hc i pins s3 σ3 H3 X.xe I3 (stat fr3) st3 go) fun r s4 ⟨u,hr,h4⟩=>?_)
  subst hr
  refine wpAny_passesOwn hp (thn h4 fun _ s5 ⟨x,H5,I5,r5,y5,st5,fr5⟩=>?_)
  have I5':=I5.pinned (stat fr5) (T.obj _ _ st5)
  refine wpAny_passesOwn hp (thn (hg _ s5 σ3 H5 x u _ I5' r5 (step x H5 y5)) fun _ s6 ⟨σ6,H6,I6,q6⟩=>?_)
  refine wpAny_passesOwn hp (thn (hb _ s6 σ6 H6 _ I6 q6) fun f s7 q7=>?_)
  have again:∀ {σ7:St} {H7:Hp},Inv X (pins++jdV fp s5.heap) σ7 H7 s7->N σ7 H7->∃ m,m < n/\∃ i σ' H',Inv X pins σ' H' s7/\tn i s7.heap/\(∀ b∈fp,H' b=none)/\W i m σ' H':=fun {σ7 H7} I7 n7=>by
   obtain ⟨m',hm,w7⟩:=hN σ7 H7 n7
   refine ⟨m',hm,i + 1,σ7,H7,I7.unpinned,T.keep _ _ _ st5 fun b hb o e=>(I7.pin (b,o) (List.mem_append_right _ (List.mem_append_right _ (jbD hb e)))).1,fun b hb=>?_,w7⟩
   obtain ⟨o,e,d⟩:=T.obj _ _ st5 b hb
   exact (I7.pin (b,o) (List.mem_append_right _ (List.mem_append_right _ (jbD hb e)))).2.1
  cases f with
  | next=>obtain ⟨σ7,H7,I7,n7⟩:=q7; exact again I7 n7
  | cont=>obtain ⟨σ7,H7,I7,n7⟩:=q7; exact again I7 n7
  | brk=>obtain ⟨σ7,H7,I7,q7⟩:=q7; exact ⟨σ7,H7,I7.unpinned,q7⟩
  | ret v=>obtain ⟨x7,σ7,H7,I7,r7,q7⟩:=q7; exact ⟨x7,σ7,H7,I7.unpinned,r7,q7⟩
end


noncomputable abbrev R2:=V->V->Hp->VK->Prop
noncomputable def OpR (X:Cx)(f:Value->Value->Sem Value)(r:R2):Prop:=
 ∀ (pins:List (Addr×Obj)) (s:Shared) (σ:St) (H:Hp) (x y:V) (v u:Value) (Q:VK),Inv X pins σ H s->RelV x v->RelV y u->r x y H Q->
  wpAny (model X.prog X.w) X.A (f v u) (EP X pins σ Q) X.xe s
noncomputable def UnR (X:Cx)(f:Value->Sem Value)(r:V->Hp->VK->Prop):Prop:=
 ∀ (pins:List (Addr×Obj)) (s:Shared) (σ:St) (H:Hp) (x:V) (v:Value) (Q:VK),Inv X pins σ H s->RelV x v->r x H Q->
  wpAny (model X.prog X.w) X.A (f v) (EP X pins σ Q) X.xe s
noncomputable def jbd (X:Cx)(f:Value)(r:List V->Hp->VK->Prop):Prop:=
 ∀ (pins:List (Addr×Obj)) (s:Shared) (σ:St) (H:Hp) (xs:List V) (us:List Value) (Q:VK),Inv X pins σ H s->Vals xs us->r xs H Q->
  wpAny (model X.prog X.w) X.A (call f us) (EP X pins σ Q) X.xe s
noncomputable def TruR (X:Cx)(r:V->Hp->(Bool->Hp->Prop)->Prop):Prop:=
 ∀ (pins:List (Addr×Obj)) (s:Shared) (σ:St) (H:Hp) (x:V) (v:Value) (Q:Bool->Hp->Prop),Inv X pins σ H s->RelV x v->r x H Q->
  wpAny (model X.prog X.w) X.A (truthy v) (TP X pins σ Q) X.xe s

noncomputable def tOp (r:R2)(ta tb:TE):TE:=fun σ H Q=>ta σ H fun x H1=>tb σ H1 fun y H2=>r x y H2 Q
noncomputable def tUn (r:V->Hp->VK->Prop)(ta:TE):TE:=fun σ H Q=>ta σ H fun x H1=>r x H1 Q
noncomputable def rI (C:Int->Int->Prop)(g:Int->Int->V):R2:=fun x y H Q=>∃ i j,x=.int i/\y=.int j/\C i j/\Q (g i j) H
noncomputable def rI0 (g:Int->Int->V):R2:=fun x y H Q=>∃ i j,x=.int i/\y=.int j/\Q (g i j) H
noncomputable def rU (g:Int->V):V->Hp->VK->Prop:=fun x H Q=>∃ i,x=.int i/\Q (g i) H

section
variable {X:Cx}{a b c:Expr}{ta tb tc:TE}{pos:Pos}

theorem binT (ha:PE X a ta)(hb:PE X b tb){pins:List (Addr×Obj)}{s:Shared}{σ:St}{H:Hp}{R:V->V->Hp->Prop}(I:Inv X pins σ H s)
  (h:ta σ H fun x H1=>tb σ H1 fun y H2=>R x y H2) {Q:Value->Shared->Prop} {f:Value->Value->Sem Value}
  (hf:∀ v u s2 x y H2,Inv X pins σ H2 s2->RelV x v->RelV y u->R x y H2->wpAny (model X.prog X.w) X.A (f v u) Q X.xe s2) :
  wpAny (model X.prog X.w) X.A (eval a X.env) (fun v s₁=>wpAny (model X.prog X.w) X.A (eval b X.env) (fun u s₂=>wpAny (model X.prog X.w) X.A (f v u) Q X.xe s₂) X.xe s₁) X.xe s:=by
 refine thn (ha pins s σ H _ I h) fun v s1 ⟨x,H1,I1,r1,q1⟩=>?_
 refine thn (hb pins s1 σ H1 _ I1 q1) fun u s2 ⟨y,H2,I2,r2,q2⟩=>?_
 exact hf v u s2 x y H2 I2 r1 r2 q2

theorem jmy {op:Operator}{r:R2}(ho:OpR X (binaryOp op) r)(ha:PE X a ta)(hb:PE X b tb):PE X (.BinOp a op b pos) (tOp r ta tb):=by
 intro pins s σ H Q I h
 exact wpAny_BinOp (binT ha hb I h fun v u s2 x y H2 I2 rx ry q=>ho pins s2 σ H2 x y v u Q I2 rx ry q)
theorem jmx {op:UnaryOp}{r:V->Hp->VK->Prop}(ho:UnR X (unaryOp op) r)(ha:PE X a ta):PE X (.UnaryOp op a pos) (tUn r ta):=by
 intro pins s σ H Q I h
 exact UnaryOp_ (thn (ha pins s σ H _ I h) fun v s1 ⟨x,H1,I1,r1,q1⟩=>ho pins s1 σ H1 x v Q I1 r1 q1)
theorem opI {f:Value->Value->Sem Value}{C:Int->Int->Prop}{g:Int->Int->Int}
  (rule:∀ (i j:Int) (t u:Tok) (s:Shared) (Q:Value->Shared->Prop) (E:Value->Shared->Prop),C i j->Q (.int (g i j) s.toks) { s with toks:=s.toks + 1 }->wpAny (model X.prog X.w) X.A (f (.int i t) (.int j u)) Q E s) :
  OpR X f (rI C fun i j=>.int (g i j)):=by
 intro pins s σ H x y v u Q I rx ry h
 obtain ⟨i,j,rfl,rfl,hc,q⟩:=h
 obtain ⟨t,rfl⟩:=rx
 obtain ⟨t',rfl⟩:=ry
 exact rule i j t t' s _ _ hc ⟨.int (g i j),H,I.tok _,⟨_,rfl⟩,q⟩
theorem opI0 {f:Value->Value->Sem Value}{g:Int->Int->Int}
  (rule:∀ (i j:Int) (t u:Tok) (s:Shared) (Q:Value->Shared->Prop) (E:Value->Shared->Prop),Q (.int (g i j) s.toks) { s with toks:=s.toks + 1 }->wpAny (model X.prog X.w) X.A (f (.int i t) (.int j u)) Q E s) :
  OpR X f (rI0 fun i j=>.int (g i j)):=by
 intro pins s σ H x y v u Q I rx ry h
 obtain ⟨i,j,rfl,rfl,q⟩:=h
 obtain ⟨t,rfl⟩:=rx
 obtain ⟨t',rfl⟩:=ry
 exact rule i j t t' s _ _ ⟨.int (g i j),H,I.tok _,⟨_,rfl⟩,q⟩
theorem opB0 {f:Value->Value->Sem Value}{g:Int->Int->Bool}
  (rule:∀ (i j:Int) (t u:Tok) (s:Shared) (Q:Value->Shared->Prop) (E:Value->Shared->Prop),Q (.bool (g i j)) s->wpAny (model X.prog X.w) X.A (f (.int i t) (.int j u)) Q E s) :
  OpR X f (rI0 fun i j=>.bl (g i j)):=by
 intro pins s σ H x y v u Q I rx ry h
 obtain ⟨i,j,rfl,rfl,q⟩:=h
 obtain ⟨t,rfl⟩:=rx
 obtain ⟨t',rfl⟩:=ry
 exact rule i j t t' s _ _ ⟨.bl (g i j),H,I,rfl,q⟩

noncomputable def CDiv (i j:Int):Prop:=0 < j/\j < 1073741824
noncomputable def CPow (i j:Int):Prop:=0<=j/\j<=1000000/\i.natAbs < 2 ^ 64
noncomputable def CMul (i j:Int):Prop:=(-(2 ^ 64) < i/\i < 2 ^ 64)\/(-(2 ^ 64) < j/\j < 2 ^ 64)
theorem CMul.ok {i j:Int}(h:CMul i j):IntMulOk i j:=by
 rcases h with ⟨h1,h2⟩ | ⟨h1,h2⟩
 ·exact .of_left (intBits_le_64 h1 h2)
 ·exact .of_right (intBits_le_64 h1 h2)
theorem jkP:OpR X (binaryOp .Add) (rI0 fun i j=>.int (i + j)):=opI0 fun _ _ _ _ _ _ _ q=>add_int q
theorem jkF:OpR X (binaryOp .Sub) (rI0 fun i j=>.int (i - j)):=opI0 fun _ _ _ _ _ _ _ q=>sub_int q
theorem jkJ:OpR X (binaryOp .Mult) (rI CMul fun i j=>.int (i * j)):=opI fun _ _ _ _ _ _ _ hc q=>mul_int q hc.ok
theorem jiZ:OpR X (binaryOp .FloorDiv) (rI CDiv fun i j=>.int (i / j)):=opI fun i j _ _ _ _ _ hc q=>by
 have h1:(0:Int) < j:=hc.1
 have h2:j < 1073741824:=hc.2
 exact floordiv_int (by omega) (by rw [Int.fdiv_eq_ediv_of_nonneg i (by omega)]; exact q) (.inl (PyProof.noPylong_small (by omega)))
theorem jkK:OpR X (binaryOp .Mod) (rI (fun _ j=>0 < j) fun i j=>.int (i % j)):=opI fun i j _ _ _ _ _ hc q=>by
 have h1:(0:Int) < j:=hc
 exact mod_int' (by omega) (by rw [Int.fmod_eq_emod_of_nonneg i (by omega)]; exact q)
theorem jkH:OpR X (binaryOp .Pow) (rI CPow fun i j=>.int (i ^ j.toNat)):=opI fun _ _ _ _ _ _ _ hc q=>pow_int_small hc.1 hc.2.1 hc.2.2 q
theorem unI {f:Value->Sem Value}{g:Int->Int}
  (rule:∀ (i:Int) (t:Tok) (s:Shared) (Q:Value->Shared->Prop) (E:Value->Shared->Prop),Q (.int (g i) s.toks) { s with toks:=s.toks + 1 }->wpAny (model X.prog X.w) X.A (f (.int i t)) Q E s) :
  UnR X f (rU fun i=>.int (g i)):=by
 intro pins s σ H x v Q I rx h
 obtain ⟨i,rfl,q⟩:=h
 obtain ⟨t,rfl⟩:=rx
 exact rule i t s _ _ ⟨.int (g i),H,I.tok _,⟨_,rfl⟩,q⟩
theorem jjI:UnR X (unaryOp .USub) (rU fun i=>.int (-i)):=unI fun _ _ _ _ _ q=>neg_int q
end

noncomputable def scal:V->V->Bool
 | .non,.non=>true | .non,.int _=>true | .int _,.non=>true | .non,.bl _=>true | .bl _,.non=>true | .non,.str _=>true | .str _,.non=>true
 | .int _,.int _=>true | .bl _,.bl _=>true | .str _,.str _=>true | .byt _,.byt _=>true
 | .int _,.str _=>true | .str _,.int _=>true | .bl _,.str _=>true | .str _,.bl _=>true
 | _,_=>false
noncomputable def rEq:R2:=fun x y H Q=>scal x y=true/\Q (.bl (decide (x=y))) H
noncomputable def rNe:R2:=fun x y H Q=>scal x y=true/\Q (.bl (!decide (x=y))) H

theorem jgC {i j:Int}:decide (V.int i=V.int j)=(i == j):=by
 rw [Bool.eq_iff_iff]
 simp
theorem jia {i j:Bool}:decide (V.bl i=V.bl j)=(i == j):=by
 rw [Bool.eq_iff_iff]
 simp
theorem jgB {i j:Str}:decide (V.str i=V.str j)=(i == j):=by
 rw [Bool.eq_iff_iff]
 simp
theorem jgD {i j:Array UInt8}:decide (V.byt i=V.byt j)=(i.toList == j.toList):=by
 rw [Bool.eq_iff_iff]
 cases i
 cases j
 simp

section
variable {X:Cx}{a b c:Expr}{ta tb tc:TE}{pos:Pos}
theorem jai {pins:List (Addr×Obj)}{σ:St}{H:Hp}{s:Shared}{Q:VK}{k k':Bool}(I:Inv X pins σ H s)(q:Q (.bl k) H)(e:k=k'):EP X pins σ Q (.bool k') s:=by
 subst e
 exact ⟨.bl k,H,I,rfl,q⟩
theorem jmH:OpR X (compareOp .Eq) rEq:=by
 intro pins s σ H x y v u Q I rx ry h
 obtain ⟨hs,q⟩:=h
 cases x with
 | non=>
  cases rx
  cases y with
  | non=>cases ry; exact PySem.EqNone.eq_none_none (jai I q (by simp))
  | bl j=>cases ry; exact PySem.EqNone.eq_none_bool (jai I q (by simp))
  | int j=>obtain ⟨t',rfl⟩:=ry; exact PySem.EqNone.eq_none_int (jai I q (by simp))
  | str j=>obtain ⟨t',rfl⟩:=ry; exact PySem.EqNone.eq_none_str (jai I q (by simp))
  | _=>exact absurd (show false=true from hs) Bool.false_ne_true
 | bl i=>
  cases rx
  cases y with
  | non=>cases ry; exact PySem.EqNone.eq_bool_none (jai I q (by simp))
  | bl j=>cases ry; exact eq_bool (jai I q jia)
  | str j=>obtain ⟨t',rfl⟩:=ry; exact PySem.EqMixed.eq_bool_str (jai I q (by simp))
  | _=>exact absurd (show false=true from hs) Bool.false_ne_true
 | int i=>
  obtain ⟨t,rfl⟩:=rx
  cases y with
  | non=>cases ry; exact PySem.EqNone.eq_int_none (jai I q (by simp))
  | int j=>obtain ⟨t',rfl⟩:=ry; exact eq_int (jai I q jgC)
  | str j=>obtain ⟨t',rfl⟩:=ry; exact PySem.EqMixed.eq_int_str (jai I q (by simp))
  | _=>exact absurd (show false=true from hs) Bool.false_ne_true
 | str i=>
  obtain ⟨t,rfl⟩:=rx
  cases y with
  | non=>cases ry; exact PySem.EqNone.eq_str_none (jai I q (by simp))
  | bl j=>cases ry; exact PySem.EqMixed.eq_str_bool (jai I q (by simp))
  | int j=>obtain ⟨t',rfl⟩:=ry; exact PySem.EqMixed.eq_str_int (jai I q (by simp))
  | str j=>obtain ⟨t',rfl⟩:=ry; exact eq_str (jai I q jgB)
  | _=>exact absurd (show false=true from hs) Bool.false_ne_true
 | byt i=>
  obtain ⟨t,rfl⟩:=rx
  cases y with
  | byt j=>obtain ⟨t',rfl⟩:=ry; exact PySem.W.eq_bytes (jai I q jgD)
  | _=>exact absurd (show false=true from hs) Bool.false_ne_true
 | _=>cases y <;> exact absurd (show false=true from hs) Bool.false_ne_true
theorem jmC:OpR X (compareOp .NotEq) rNe:=by
 intro pins s σ H x y v u Q I rx ry h
 obtain ⟨hs,q⟩:=h
 cases x with
 | non=>
  cases rx
  cases y with
  | non=>cases ry; exact PySem.EqNone.ne_none_none (jai I q (by simp))
  | bl j=>cases ry; exact PySem.EqNone.ne_none_bool (jai I q (by simp))
  | int j=>obtain ⟨t',rfl⟩:=ry; exact PySem.EqNone.ne_none_int (jai I q (by simp))
  | str j=>obtain ⟨t',rfl⟩:=ry; exact PySem.EqNone.ne_none_str (jai I q (by simp))
  | _=>exact absurd (show false=true from hs) Bool.false_ne_true
 | bl i=>
  cases rx
  cases y with
  | non=>cases ry; exact PySem.EqNone.ne_bool_none (jai I q (by simp))
  | bl j=>cases ry; exact ne_bool (jai I q (congrArg not jia))
  | str j=>obtain ⟨t',rfl⟩:=ry; exact PySem.EqMixed.ne_bool_str (jai I q (by simp))
  | _=>exact absurd (show false=true from hs) Bool.false_ne_true
 | int i=>
  obtain ⟨t,rfl⟩:=rx
  cases y with
  | non=>cases ry; exact PySem.EqNone.ne_int_none (jai I q (by simp))
  | int j=>obtain ⟨t',rfl⟩:=ry; exact ne_int (jai I q (congrArg not jgC))
  | str j=>obtain ⟨t',rfl⟩:=ry; exact PySem.EqMixed.ne_int_str (jai I q (by simp))
  | _=>exact absurd (show false=true from hs) Bool.false_ne_true
 | str i=>
  obtain ⟨t,rfl⟩:=rx
  cases y with
  | non=>cases ry; exact PySem.EqNone.ne_str_none (jai I q (by simp))
  | bl j=>cases ry; exact PySem.EqMixed.ne_str_bool (jai I q (by simp))
  | int j=>obtain ⟨t',rfl⟩:=ry; exact PySem.EqMixed.ne_str_int (jai I q (by simp))
  | str j=>obtain ⟨t',rfl⟩:=ry; exact ne_str (jai I q (congrArg not jgB))
  | _=>exact absurd (show false=true from hs) Bool.false_ne_true
 | byt i=>
  obtain ⟨t,rfl⟩:=rx
  cases y with
  | byt j=>obtain ⟨t',rfl⟩:=ry; exact PySem.W.ne_bytes (jai I q (congrArg not jgD))
  | _=>exact absurd (show false=true from hs) Bool.false_ne_true
 | _=>cases y <;> exact absurd (show false=true from hs) Bool.false_ne_true

theorem jmD:OpR X (compareOp .Lt) (rI0 fun i j=>.bl (decide (i < j))):=opB0 fun _ _ _ _ _ _ _ q=>lt_int q
theorem jmE:OpR X (compareOp .LtE) (rI0 fun i j=>.bl (decide (i<=j))):=opB0 fun _ _ _ _ _ _ _ q=>le_int q
theorem jmF:OpR X (compareOp .Gt) (rI0 fun i j=>.bl (decide (j < i))):=opB0 fun _ _ _ _ _ _ _ q=>gt_int q
theorem jmG:OpR X (compareOp .GtE) (rI0 fun i j=>.bl (decide (j<=i))):=opB0 fun _ _ _ _ _ _ _ q=>ge_int q
theorem jf4:OpR X (compareOp .In) (fun x y H Q=>∃ i j,x=.str i/\y=.str j/\Q (.bl (!(Builtin.Str.occurrences j i 0 j.length 1).isEmpty)) H):=by
 intro pins s σ H x y v u Q I rx ry h
 obtain ⟨i,j,rfl,rfl,q⟩:=h
 obtain ⟨t,rfl⟩:=rx
 obtain ⟨t',rfl⟩:=ry
 exact in_str (jai I q rfl)

theorem jdX:OpR X (compareOp .NotIn) (fun x y H Q=>∃ i j,x=.str i/\y=.str j/\Q (.bl (!(!(Builtin.Str.occurrences j i 0 j.length 1).isEmpty))) H):=by
 intro pins s σ H x y v u Q I rx ry h
 obtain ⟨i,j,rfl,rfl,q⟩:=h
 obtain ⟨t,rfl⟩:=rx
 obtain ⟨t',rfl⟩:=ry
 exact notIn_str (jai I q rfl)
theorem OpR.or {f:Value->Value->Sem Value}{r r':R2}(h:OpR X f r)(h':OpR X f r'):OpR X f (fun x y H Q=>r x y H Q\/r' x y H Q):=by
 intro pins s σ H x y v u Q I rx ry q
 rcases q with q | q
 ·exact h pins s σ H x y v u Q I rx ry q
 ·exact h' pins s σ H x y v u Q I rx ry q

theorem jiS {op:CmpOp}{r:R2}(ho:OpR X (compareOp op) r)(ha:PE X a ta)(hb:PE X b tb)(hm:behindInMarks op b=false):PE X (.Compare a [op] [b] pos) (tOp r ta tb):=by
 intro pins s σ H Q I h
 exact wpAny_Compare1 (binT ha hb I h fun v u s2 x y H2 I2 rx ry q=>ho pins s2 σ H2 x y v u Q I2 rx ry q) hm
noncomputable def jjW (t:TE):TT:=fun σ H Q=>t σ H fun x H'=>∃ k,x=.bl k/\Q k H'
theorem jiD {op:CmpOp}{r:R2}(ho:OpR X (compareOp op) r)(ha:PE X a ta)(hb:PE X b tb)(hm:behindInMarks op b=false):PT X (.Compare a [op] [b] pos) (jjW (tOp r ta tb)):=by
 intro pins s σ H Q I h
 refine wpAny_isTrue_Compare1 (thn (ha pins s σ H _ I h) fun v s1 ⟨x,H1,I1,r1,q1⟩=>thn (hb pins s1 σ H1 _ I1 q1) fun u s2 ⟨y,H2,I2,r2,q2⟩=>
  thn (ho pins s2 σ H2 x y v u _ I2 r1 r2 q2) fun c s3 ⟨z,H3,I3,r3,k,e,q3⟩=>?_) hm
 subst e
 cases r3
 exact wpAny_truthy_bool ⟨H3,I3,q3⟩
noncomputable def jhH (r r':R2)(ta tb tc:TE):TE:=fun σ H Q=>ta σ H fun x H1=>tb σ H1 fun y H2=>r x y H2 fun z H3=>∃ k,z=.bl k/\
 (if k=true then tc σ H3 fun w' H4=>r' y w' H4 Q else Q (.bl false) H3)
theorem jhb {op op':CmpOp}{r r':R2}(ho:OpR X (compareOp op) r)(ho':OpR X (compareOp op') r')(ha:PE X a ta)(hb:PE X b tb)(hc:PE X c tc)
  (hm:lastMarks [op,op'] [b,c]=false:=by with_unfolding_all rfl):PE X (.Compare a [op,op'] [b,c] pos) (jhH r r' ta tb tc):=by
 intro pins s σ H Q I h
 refine Compare_chain (thn (ha pins s σ H _ I h) fun v s1 ⟨x,H1,I1,r1,q1⟩=>chain_link (thn (hb pins s1 σ H1 _ I1 q1) fun u s2 ⟨y,H2,I2,r2,q2⟩=>
  thn (ho pins s2 σ H2 x y v u _ I2 r1 r2 q2) fun d s3 ⟨z,H3,I3,r3,k,e,q3⟩=>?_)) hm
 subst e
 cases r3
 refine wpAny_truthy_bool ?_
 cases k with
 | false=>exact ite_ff ⟨.bl false,H3,I3,rfl,q3⟩
 | true=>exact ite_tt (chain_last (thn (hc pins s3 σ H3 _ I3 q3) fun w' s4 ⟨z',H4,I4,r4,q4⟩=>ho' pins s4 σ H4 y z' u w' Q I4 r2 r4 q4))
theorem jg0 {op op':CmpOp}{r r':R2}(ho:OpR X (compareOp op) r)(ho':OpR X (compareOp op') r')(ha:PE X a ta)(hb:PE X b tb)(hc:PE X c tc)
  (hm:lastMarks [op,op'] [b,c]=false:=by with_unfolding_all rfl):PT X (.Compare a [op,op'] [b,c] pos) (jjW (jhH r r' ta tb tc)):=by
 intro pins s σ H Q I h
 refine isTrue_chain (thn (ha pins s σ H _ I h) fun v s1 ⟨x,H1,I1,r1,q1⟩=>test_link (thn (hb pins s1 σ H1 _ I1 q1) fun u s2 ⟨y,H2,I2,r2,q2⟩=>
  thn (ho pins s2 σ H2 x y v u _ I2 r1 r2 q2) fun d s3 ⟨z,H3,I3,r3,k,e,q3⟩=>?_)) hm
 subst e
 cases r3
 refine wpAny_truthy_bool ?_
 cases k with
 | false=>
  obtain ⟨k',e',q'⟩:=q3
  cases e'
  exact ite_ff ⟨H3,I3,q'⟩
 | true=>
  refine ite_tt (test_last (thn (hc pins s3 σ H3 _ I3 q3) fun w' s4 ⟨z',H4,I4,r4,q4⟩=>thn (ho' pins s4 σ H4 y z' u w' _ I4 r2 r4 q4) fun d' s5 ⟨z2,H5,I5,r5,k2,e2,q5⟩=>?_))
  subst e2
  cases r5
  exact wpAny_truthy_bool ⟨H5,I5,q5⟩

noncomputable def TruV (K:PySem.W.Frag)(x:V)(H:Hp)(k:Bool):Prop:=
 match x with
 | .non=>k=false
 | .bl b=>k=b
 | .int i=>k=(i != 0)
 | .str y=>y.length<=sizeLine/\k=((y.length:Int) != 0)
 | .byt y=>y.size<=sizeLine/\k=((y.size:Int) != 0)
 | .ref p=>(∃ xs,SqL K H p xs/\k = !xs.isEmpty)\/(∃ xs,SqT K H p xs/\k = !xs.isEmpty)\/∃ kvs,H p=some (.dK kvs)/\k = !kvs.isEmpty
 | _=>False
theorem jfA {κ:Type}{kvs:List (κ×V)}{vs:List (κ×Value)}(r:KV kvs vs):(!vs.isEmpty) = !kvs.isEmpty:=by
 cases r <;> rfl
theorem jdk {xs:List V}{its:List Value}(r:Vals xs its):(!its.toArray.isEmpty) = !xs.isEmpty:=by
 cases r <;> simp
theorem jdi:(sizeLine:Nat) < 2 ^ 63:=by rw [sizeLine_eq]; decide
theorem jeX:TruR X (fun x H Q=>∃ k,TruV X.K x H k/\Q k H):=by
 intro pins s σ H x v Q I rx h
 obtain ⟨k,e,q⟩:=h
 have hl:=jdi
 have hs:sizeLine=16777216:=sizeLine_eq
 cases x with
 | non=>
  cases rx
  have e':k=false:=e
  subst e'
  exact truthy_none ⟨H,I,q⟩
 | bl b=>
  cases rx
  have e':k=b:=e
  subst e'
  exact wpAny_truthy_bool ⟨H,I,q⟩
 | int i=>
  obtain ⟨t,rfl⟩:=rx
  have e':k=(i != 0):=e
  subst e'
  exact PySem.P.truthy_int ⟨H,I,q⟩
 | str y=>
  obtain ⟨t,rfl⟩:=rx
  obtain ⟨hy,e'⟩:y.length<=sizeLine/\k=((y.length:Int) != 0):=e
  subst e'
  exact PySem.P.truthy_str (by omega) ⟨H,I.tok _,q⟩
 | byt y=>
  obtain ⟨t,rfl⟩:=rx
  obtain ⟨hy,e'⟩:y.size<=sizeLine/\k=((y.size:Int) != 0):=e
  subst e'
  exact PySem.W.truthy_bytes (by omega) ⟨H,I.tok _,q⟩
 | ref p=>
  cases rx
  have e':(∃ xs,SqL X.K H p xs/\k = !xs.isEmpty)\/(∃ xs,SqT X.K H p xs/\k = !xs.isEmpty)\/∃ kvs,H p=some (.dK kvs)/\k = !kvs.isEmpty:=e
  rcases e' with ⟨xs,hx,e'⟩ | ⟨xs,hx,e'⟩ | ⟨kvs,hx,e'⟩
  ·subst e'
   obtain ⟨its,r,pl,hz⟩:=I.list hx
   have hlen:=r.length
   exact wpAny_truthy_list pl.isList (by simp only [List.size_toArray]; omega) ⟨H,I.tok _,by rw [jdk r]; exact q⟩
  ·subst e'
   obtain ⟨its,r,pl,hz⟩:=I.tuple hx
   have hlen:=r.length
   exact truthy_tuple pl (by simp only [List.size_toArray]; omega) ⟨H,I.tok _,by rw [jdk r]; exact q⟩
  ·subst e'
   obtain ⟨hz,hS,vs,r,m⟩:kvs.length<=sizeLine/\(p == sysModules)=false/\∃ vs,KV kvs vs/\s.heap.DictOf (jap X.prog X.w) p vs:=I.hok p _ hx
   have hlen:kvs.length=vs.length:=Paired.length r
   exact wpAny_truthy_dict hS m (by omega) ⟨H,I.tok _,by rw [jfA r]; exact q⟩
 | _=>exact (show False from e).elim
theorem jgZ (ha:PE X a ta)(he:∀ whole,isTrue a X.env whole=(do let v <- whole; standAt a.pos; holding [v] (truthy v))) :
  PT X a (fun σ H Q=>ta σ H fun x H'=>∃ k,TruV X.K x H' k/\Q k H'):=by
 intro pins s σ H Q I h
 exact isTrue_plain (thn (ha pins s σ H _ I h) fun v s1 ⟨x,H1,I1,r1,q1⟩=>jeX pins s1 σ H1 x v Q I1 r1 q1) (he _)

theorem jfr:OpR X (binaryOp .Add) (fun x y H Q=>∃ i j,x=.str i/\y=.str j/\i.length + j.length<=sizeLine/\Q (.str (i++j)) H):=by
 intro pins s σ H x y v u Q I rx ry h
 obtain ⟨i,j,rfl,rfl,hz,q⟩:=h
 obtain ⟨t,rfl⟩:=rx
 obtain ⟨t',rfl⟩:=ry
 exact add_str (fun t' tk=>⟨.str (i++j),H,I.tok _,⟨_,rfl⟩,q⟩) hz
theorem jc8 {x:V}{us:List Value}(r:Vals [x] us):∃ u,us=[u]/\RelV x u:=by
 cases r with
 | cons r1 r2=>cases r2; exact ⟨_,rfl,r1⟩
theorem jlT {x y:V}{us:List Value}(r:Vals [x,y] us):∃ u w',us=[u,w']/\RelV x u/\RelV y w':=by
 cases r with
 | cons r1 r2=>
  cases r2 with
  | cons r3 r4=>cases r4; exact ⟨_,_,rfl,r1,r3⟩
theorem jgJ (hc:X.calm=true):jbd X (.builtin "min") (fun xs H Q=>∃ i j,xs=[.int i,.int j]/\Q (.int (if j < i then j else i)) H):=by
 intro pins s σ H xs us Q I r h
 obtain ⟨i,j,rfl,q⟩:=h
 obtain ⟨u,w',rfl,⟨t,rfl⟩,⟨t',rfl⟩⟩:=jlT r
 refine min_two_ints (I.ok.hd hc) fun h' tk k=>⟨_,H,I.kept k,?_,q⟩
 by_cases hj:j < i
 ·rw [if_pos hj,if_pos hj]; exact ⟨_,rfl⟩
 ·rw [if_neg hj,if_neg hj]; exact ⟨_,rfl⟩
theorem jgL:jbd X (.type "int") (fun xs H Q=>(∃ i,xs=[.int i]/\Q (.int i) H)\/∃ k,xs=[.bl k]/\Q (.int (if k then 1 else 0)) H):=by
 intro pins s σ H xs us Q I r h
 rcases h with ⟨i,rfl,q⟩ | ⟨k,rfl,q⟩
 ·obtain ⟨u,rfl,t,rfl⟩:=jc8 r
  exact call_int_int ⟨.int i,H,I,⟨_,rfl⟩,q⟩
 ·obtain ⟨u,rfl,r1⟩:=jc8 r
  cases r1
  exact call_int_bool ⟨.int (if k then 1 else 0),H,I.tok _,⟨_,rfl⟩,q⟩
theorem jej:jbd X (.type "str") (fun xs H Q=>∃ i,xs=[.int i]/\i.natAbs.log2 < 1920/\Q (.str (toString i)) H):=by
 intro pins s σ H xs us Q I r h
 obtain ⟨i,rfl,hz,q⟩:=h
 obtain ⟨u,rfl,t,rfl⟩:=jc8 r
 exact PySem.P.str_of_int hz ⟨.str _,H,I.tok _,⟨_,rfl⟩,q⟩
noncomputable def LenV (K:PySem.W.Frag)(x:V)(H:Hp)(n:Nat):Prop:=
 match x with
 | .str y=>y.length<=sizeLine/\n=y.length
 | .byt y=>y.size<=sizeLine/\n=y.size
 | .ref p=>(∃ xs,SqL K H p xs/\n=xs.length)\/∃ xs,SqT K H p xs/\n=xs.length
 | _=>False
theorem jhv:jbd X (.builtin "len") (fun xs H Q=>∃ x n,xs=[x]/\LenV X.K x H n/\Q (.int n) H):=by
 intro pins s σ H xs us Q I r h
 obtain ⟨x,n,rfl,e,q⟩:=h
 obtain ⟨u,rfl,rx⟩:=jc8 r
 have hl:=jdi
 have hs:sizeLine=16777216:=sizeLine_eq
 cases x with
 | str y=>
  obtain ⟨t,rfl⟩:=rx
  obtain ⟨hy,e'⟩:y.length<=sizeLine/\n=y.length:=e
  subst e'
  exact len_str (by omega) ⟨.int _,H,I.tok _,⟨_,rfl⟩,q⟩
 | byt y=>
  obtain ⟨t,rfl⟩:=rx
  obtain ⟨hy,e'⟩:y.size<=sizeLine/\n=y.size:=e
  subst e'
  exact PySem.W.len_bytes (by omega) ⟨.int _,H,I.tok _,⟨_,rfl⟩,q⟩
 | ref p=>
  cases rx
  have e':(∃ xs,SqL X.K H p xs/\n=xs.length)\/∃ xs,SqT X.K H p xs/\n=xs.length:=e
  rcases e' with ⟨xs,hx,e'⟩ | ⟨xs,hx,e'⟩
  ·subst e'
   obtain ⟨its,r',pl,hz⟩:=I.list hx
   have hlen:=r'.length
   exact Calls.call_len_list pl.isList (by simp only [List.size_toArray]; omega) ⟨.int xs.length,H,I.tok _,⟨_,by simp only [List.size_toArray]; rw [hlen]⟩,q⟩
  ·subst e'
   obtain ⟨its,r',pl,hz⟩:=I.tuple hx
   have hlen:=r'.length
   exact len_tuple pl (by simp only [List.size_toArray]; omega) ⟨.int xs.length,H,I.tok _,⟨_,by simp only [List.size_toArray]; rw [hlen]⟩,q⟩
 | _=>exact (show False from e).elim
end

structure ObjM (h:Heap)(x dx C:Addr)(mA:Str->Option Value):Prop where
 obj:h.get? x=some (PySem.W.instObj C dx)
 ns:h.Ns1 dx mA
 ne:dx≠x

theorem jgi {h:Heap}{dx:Addr}{mA:Str->Option Value}(n:h.Ns1 dx mA):∃ od,h.get? dx=some od/\∀ name,PySem.W.lookIn name od=some (mA name):=by
 obtain ⟨o,es,ep,ho,hd,hk,_,hm⟩:=n
 refine ⟨o,ho,fun name=>?_⟩
 have e:=hm name
 unfold nsFind findBy at e
 rw [<- Array.find?_toList] at e
 unfold PySem.W.lookIn
 rw [hd]
 dsimp only
 split
 ·rename_i y q
  rw [q] at e
  exact congrArg some e
 ·rename_i q
  rw [q] at e
  have a:es.toList.any (·.refKey)=false:=by
   rw [List.any_eq_false]
   intro y hy
   obtain ⟨z,t,hkey⟩:=hk y (Array.mem_toList_iff.mp hy)
   simp [DictEntry.refKey,hkey]
  have a':¬ es.toList.any (·.refKey)=true:=by rw [a]; exact Bool.false_ne_true
  rw [if_neg a']
  exact congrArg some e

theorem ObjM.look {h:Heap}{x dx C:Addr}{mA:Str->Option Value}(I:ObjM h x dx C mA):∃ od,PySem.W.InstAt h x (PySem.W.instObj C dx) C (some od)/\∀ name,PySem.W.lookIn name od=some (mA name):=
 let ⟨od,ho,hl⟩:=jgi I.ns
 ⟨od,⟨I.obj,rfl,rfl,ho⟩,hl⟩

section
variable {prog:Program}{w:World}{A:Around}{E:Value->Shared->Prop}{s:Shared}{K:PySem.W.Frag}{x dx C f:Addr}{mA:Str->Option Value}{name:Str}{v:Value}

end

theorem RelO.some_of {v:V}{o:Option Value}(r:RelO (some v) o):∃ u,o=some u/\RelV v u:=by
 cases o with
 | none=>exact (show False from r).elim
 | some u=>exact ⟨u,rfl,r⟩
section
variable {P:Program}{w:World}{H H':Hp}{h h':Heap}{a C dx:Addr}{fs fs':List (Str×V)}
theorem jjg (hok:HOk P w H h)(e:H a=some (.ins C dx fs)):∃ mA,ObjM h a dx C mA/\(∀ f,RelO (fs.lookup f) (mA f))/\PySem.Within mA (fs.map (·.1))/\fs.length<=1000/\H dx=some (.own a):=by
 obtain ⟨d,z,ne,ob,mA,n,r,q⟩:=(show jaF P w H h a (.ins C dx fs) from hok a _ e)
 exact ⟨mA,⟨ob,n,ne⟩,r,q,z,d⟩
end

structure Cls (K:PySem.W.Frag)(C:Addr):Prop where
 pg:PySem.W.plainGet K C Str.empty=true
 hd:PySem.W.hasDictIn K C=true
 po:PySem.W.plainOver K C=true
 sa:PySem.W.findIn K (.ref C) "__setattr__" = some (some (.builtin "object.__setattr__"))
theorem Cls.get {K:PySem.W.Frag}{C:Addr}(c:Cls K C)(f:Str):PySem.W.plainGet K C f=true:=c.pg
structure Con (K:PySem.W.Frag)(C:Addr)(f:Str)(v:V)(u:Value):Prop where
 at_:PySem.W.findIn K (.ref C) f=some (some u)
 rel:RelV v u
 get:PySem.W.specialIn K u "__get__" = some none
 cp:PySem.W.copiedNames.contains f=false
structure Meth (K:PySem.W.Frag)(C:Addr)(m:Str)(f:Addr):Prop where
 at_:PySem.W.findIn K (.ref C) m=some (some (.ref f))
 fn:PySem.W.isFn K (.ref f)=true
 kp:PySem.W.keepIn K (.ref f)=true

section
variable {X:Cx}{pins:List (Addr×Obj)}{σ:St}{H:Hp}{s:Shared}{a C dx:Addr}{fs:List (Str×V)}{f:Str}{v:V}{A:Around}{E:Value->Shared->Prop}

end

section
variable {X:Cx}{o e value:Expr}{f:Str}{pos pos' tpos:Pos}{ta tv:TE}
end

section
variable {X:Cx}{pins:List (Addr×Obj)}{σ:St}{H:Hp}{s:Shared}{A:Around}{E:Value->Shared->Prop}{Q:Value->Shared->Prop}{c:Value}{b:Bool}
inductive TyOf (K : PySem.W.Frag)(H : Hp) : V -> Value -> Prop where
  | non : TyOf K H .non (.type "NoneType")
  | bl (x : Bool) : TyOf K H (.bl x) (.type "bool")
  | int (i : Int) : TyOf K H (.int i) (.type "int")
  | str (x : Str) : TyOf K H (.str x) (.type "str")
  | flt (x : UInt64) : TyOf K H (.flt x) (.type "float")
  | lst {a : Addr} {xs : List V} (e : H a = some (.lst xs)) : TyOf K H (.ref a) (.type "list")
  | frz {a : Addr} {o : Obj} {xs : List V} (e : H a = some (.frz o (.lst xs))) : TyOf K H (.ref a) (.type "list")
  | tup {a : Addr} {xs : List V} (e : H a = some (.tup xs)) : TyOf K H (.ref a) (.type "tuple")
  | dK {a : Addr} {kvs : List (Key × V)} (e : H a = some (.dK kvs)) : TyOf K H (.ref a) (.type "dict")
  | dT {a : Addr} {kvs : List (List Key × V)} (e : H a = some (.dT kvs)) : TyOf K H (.ref a) (.type "dict")
  | ins {a C dx : Addr} {fs : List (Str × V)} (e : H a = some (.ins C dx fs)) (cl : Cls K C) (ha : PySem.W.findIn K (.ref C) "__class__" = some (some (.builtin "object.__class__")))
      (hn : PySem.W.specialIn K (.builtin "object.__class__") "__get__" = some (some (.builtin "getset_descriptor.__get__"))) (htk : PySem.W.takesIn K (.builtin "object.__class__") = some true)
      (hm : PySem.W.mroIn K C (.type "object") = some true) : TyOf K H (.ref a) (.ref C)
theorem jgq {x:V}{u t:Value}(I:Inv X pins σ H s)(rx:RelV x u)(ty:TyOf X.K H x t)(e:PySem.W.kitOne X.K t c=some b)(h:∀ tk,Q (.bool b) { s with toks:=tk }) :
  wpAny (model X.prog X.w) A (call (.builtin "isinstance") [u,c]) Q E s:=by
 cases ty with
 | non=>cases (show u=Value.none from rx); exact PySem.W.kia_one PySem.W.kitx_none I.kIn True.intro e (fun z=>nomatch z) h
 | bl y=>cases (show u=Value.bool y from rx); exact PySem.W.kia_one PySem.W.kitx_bool I.kIn True.intro e (fun z=>nomatch z) h
 | int i=>obtain ⟨t,q⟩:=(show ∃ t,u=Value.int i t from rx); cases q; exact PySem.W.kia_one PySem.W.kitx_int I.kIn True.intro e (fun z=>nomatch z) h
 | str y=>obtain ⟨t,q⟩:=(show ∃ t,u=Value.str y t from rx); cases q; exact PySem.W.kia_one PySem.W.kitx_str I.kIn True.intro e (fun z=>nomatch z) h
 | flt y=>obtain ⟨t,q⟩:=(show ∃ t,u=Value.float y t from rx); cases q; exact PySem.W.kia_one PySem.W.kitx_float I.kIn True.intro e (fun z=>nomatch z) h
 | @lst a xs ea=>
  cases (show u=Value.ref a from rx)
  obtain ⟨_,_,n,_,h1⟩:=(show jaF X.prog X.w H s.heap a (.lst xs) from I.hok a _ ea)
  exact PySem.W.kia_one PySem.W.kitx_list I.kIn ⟨_,h1,rfl⟩ e (fun z=>nomatch z) h
 | @frz a ob xs ea=>
  cases (show u=Value.ref a from rx)
  obtain ⟨_,_,_,n,_,h1⟩:=(show jaF X.prog X.w H s.heap a (.frz ob (.lst xs)) from I.hok a _ ea)
  exact PySem.W.kia_one PySem.W.kitx_list I.kIn ⟨_,h1,rfl⟩ e (fun z=>nomatch z) h
 | @tup a xs ea=>
  cases (show u=Value.ref a from rx)
  obtain ⟨_,_,_,p⟩:=(show jaF X.prog X.w H s.heap a (.tup xs) from I.hok a _ ea)
  obtain ⟨o,h1,h2,_⟩:=p
  exact PySem.W.kia_one PySem.W.kitx_tuple I.kIn ⟨o,h1,h2⟩ e (fun z=>nomatch z) h
 | @dK a kvs ea=>
  cases (show u=Value.ref a from rx)
  obtain ⟨_,_,vs,_,p⟩:=(show jaF X.prog X.w H s.heap a (.dK kvs) from I.hok a _ ea)
  obtain ⟨o,es,ep,h1,h2,_⟩:=p
  exact PySem.W.kia_one PySem.W.kitx_dict I.kIn ⟨o,h1,h2.1⟩ e (fun z=>nomatch z) h
 | @dT a kvs ea=>
  cases (show u=Value.ref a from rx)
  obtain ⟨_,_,xs,_,o,es,ep,h1,h2,_⟩:=(show jaF X.prog X.w H s.heap a (.dT kvs) from I.hok a _ ea)
  exact PySem.W.kia_one PySem.W.kitx_dict I.kIn ⟨o,h1,h2.1⟩ e (fun z=>nomatch z) h
 | @ins a C dx fs ea cl ha hn htk hm=>
  cases (show u=Value.ref a from rx)
  obtain ⟨mA,O,_⟩:=jjg I.hok ea
  obtain ⟨od,J,_⟩:=O.look
  exact PySem.W.kia_one (PySem.W.kitx_own (cl.get _) cl.hd ha hn htk hm) I.kIn J e (fun z=>nomatch z) h
end

structure Room (k:Nat)(A:Around):Prop where
 hd:A.handled=none
 dp:A.depth + k + 20 < recursionLimit
 un:A.units + 8 * k + 200 < cLine
 gd:A.guards=some []
theorem Room.mono {j k:Nat}{A:Around}(r:Room k A)(h:j<=k):Room j A:=⟨r.hd,by have:=r.dp; omega,by have:=r.un; omega,r.gd⟩
theorem Room.deeper {k:Nat}{A:Around}(r:Room (k + 1) A)(env:Env):Room k (A.deeper env):=
 ⟨r.hd,by have:=r.dp; show A.depth + 1 + k + 20 < _; omega,by have:=r.un; show A.units + 3 + 8 * k + 200 < _; omega,r.gd⟩
theorem Room.depth {k:Nat}{A:Around}(r:Room k A):A.depth < recursionLimit:=by have:=r.dp; omega
theorem Room.units {k:Nat}{A:Around}(r:Room k A):A.units + 64 < cLine:=by have:=r.un; omega
theorem Room.units0 {k:Nat}{A:Around}(r:Room k A):A.units < cLine:=by have:=r.un; omega

noncomputable def tNil:TA:=fun _ H Q=>Q [] H
noncomputable def jml (ta:TE)(tr:TA):TA:=fun σ H Q=>ta σ H fun x H1=>tr σ H1 fun xs H2=>Q (x::xs) H2
section
variable {X:Cx}{e:Expr}{es:List Expr}{te:TE}{t:TA}{pos:Pos}
theorem jky:PA X [] tNil:=fun _ _ _ _ H Q I h=>Calls.spliced_nil ⟨[],H,I,.nil,h⟩
theorem jiV (ha:PE X e te)(hr:PA X es t)(hs:starEach (e::es) X.env=(false,eval e X.env)::starEach es X.env:=by rfl):PA X (e::es) (jml te t):=by
 intro pos pins s σ H Q I h
 rw [hs]
 show wpAny _ _ (spliced ((false,eval e X.env)::backTo pos (starEach es X.env))) _ _ s
 refine Calls.spliced_cons (thn (ha pins s σ H _ I h) fun u s1 ⟨x,H1,I1,r1,q1⟩=>?_)
 exact thn (hr pos pins s1 σ H1 _ I1 q1) fun us s2 ⟨xs,H2,I2,r2,q2⟩=>⟨x::xs,H2,I2,.cons r1 r2,q2⟩

noncomputable def tTup (t:TA):TE:=fun σ H Q=>t σ H fun xs H1=>xs.length<=sizeLine/\∀ p,H1 p=none->Q (.ref p) (upd H1 p (.tup xs))
noncomputable def tLst (t:TA):TE:=fun σ H Q=>t σ H fun xs H1=>xs.length<=sizeLine/\∀ p,H1 p=none->Q (.ref p) (upd H1 p (.lst xs))
theorem jkr {x1}(h:PA X es t):PE X (.Tuple es x1 pos) (tTup t):=by
 intro pins s σ H Q I hq
 refine wpAny_Tuple_spliced (thn (h pos pins s σ H _ I hq) fun us s1 ⟨xs,H1,I1,r,z,q⟩=>⟨by rw [<- r.length]; exact z,?_⟩)
 have hf:H1 s1.heap.objs.size=none:=I1.hok.fresh (Nat.le_refl _)
 refine ⟨.ref s1.heap.objs.size,upd H1 s1.heap.objs.size (.tup xs),I1.laid (t':=s1.toks) (fun b u e=>Heap.get?_push_of_some _ e) (Nat.le_refl _) ?_,rfl,q _ hf⟩
 exact ⟨z,us,r,⟨_,Heap.get?_push_size _ rfl,rfl,_,rfl,rfl⟩⟩
theorem jkv (h:PA X es t):PE X (.List es pos) (tLst t):=by
 intro pins s σ H Q I hq
 refine wpAny_List_spliced (thn (h pos pins s σ H _ I hq) fun us s1 ⟨xs,H1,I1,r,z,q⟩=>⟨by rw [<- r.length]; exact z,?_⟩)
 have hf:H1 s1.heap.objs.size=none:=I1.hok.fresh (Nat.le_refl _)
 refine ⟨.ref s1.heap.objs.size,upd H1 s1.heap.objs.size (.lst xs),I1.laid (t':=s1.toks) (fun b u e=>Heap.get?_push_of_some _ e) (Nat.le_refl _) ?_,rfl,q _ hf⟩
 exact ⟨z,us,0,r,Heap.get?_push_size _ rfl⟩
end

noncomputable abbrev Sp:=List V->Hp->VK->XK->Prop
noncomputable abbrev CXT:=List Env->Hp->Shared->XK->Value->Shared->Prop

structure Env0 (P:Program)(w:World)(K:PySem.W.Frag)(mg:Str->Option Value)(base:Heap)(A:Around)(outer:List Env)(s:Shared)(H:Hp):Prop where
 frames:A.frames=some outer
 mod:Mod K mg base
 bs:∀ b o,base.get? b=some o->s.heap.get? b=some o/\H b=none
 bsz:base.objs.size<=s.heap.objs.size
 funs:s.heap.FunFrames base outer
 frf:∀ b∈frs outer,H b=none
 hok:HOk P w H s.heap
 bare:AllBare s.gens
noncomputable def CE (outer:List Env)(P:Program)(w:World)(H:Hp)(s:Shared)(Q:VK)(u:Value)(s':Shared):Prop:=
 ∃ v H',s'.os=s.os/\AllBare s'.gens/\Un (frs outer) [] H H' s.heap s'.heap/\HOk P w H' s'.heap/\RelV v u/\Q v H'
noncomputable def CR (CX:CXT)(outer:List Env)(P:Program)(w:World)(H:Hp)(s:Shared)(Q:VK)(E:XK)(r:Result)(s':Shared):Prop:=
 match r with
 | .ok (.ret u)=>CE outer P w H s Q u s'
 | .ok _=>False
 | .error e=>CX outer H s E e s'
structure FnOk (P:Program)(w:World)(K:PySem.W.Frag)(mg:Str->Option Value)(base:Heap)(CX:CXT)(k:Nat)(f:Addr)(fd:FuncData)(ps:List Str)(sp:Sp):Prop where
 len:∀ vs H Q E,sp vs H Q E->vs.length=ps.length
 run:∀ (A:Around) (outer:List Env) (s:Shared) (H:Hp) (args:Args) (us:List Value) (vs:List V) (Q:VK) (E:XK),Room k A->Env0 P w K mg base A outer s H->BindsTo s fd args (ps.zip us)->Vals vs us->sp vs H Q E->
  codeAny (model P w) A (.call (.ref f) args) (CR CX outer P w H s Q E) s
section
variable {X:Cx}{pins:List (Addr×Obj)}{σ:St}{H:Hp}{s s':Shared}
theorem Inv.env0 (I:Inv X pins σ H s):Env0 X.prog X.w X.K X.mg X.base X.A X.stack s H:=
 ⟨I.ok.frames,I.ok.mod,I.bs,Nat.le_trans I.ok.bsz I.sz,I.stack,I.stkFree,I.hok,I.bare⟩
theorem Inv.after {Q:VK}{u:Value}(I:Inv X pins σ H s)(h:CE X.stack X.prog X.w H s Q u s'):EP X pins σ Q u s':=by
 obtain ⟨v,H',os,bare,un,hok,r,q⟩:=h
 obtain ⟨hh,g,d,t,os'⟩:=s'
 obtain rfl:os'=s.os:=os
 exact ⟨v,H',I.call (h':=hh) (g':=g) (d':=d) (t':=t) (ch:=[]) un hok bare (fun b z=>absurd z (by simp)),r,q⟩
end

noncomputable def Binds (K:PySem.W.Frag)(fd:FuncData)(ps:List Str)(ds:List Value):Prop:=
 ∀ (s:Shared) (us:List Value),K.In s.heap->(us++ds).length=ps.length->BindsTo s fd ⟨us,[]⟩ (ps.zip (us++ds))
theorem Binds.all {K:PySem.W.Frag}{fd:FuncData}{ps:List Str}(h:∀ us:List Value,us.length=ps.length->bindArgs fd ⟨us,[]⟩=pure (ps.zip us)):Binds K fd ps []:=fun s us _ hl=>by
 rw [List.append_nil] at hl ⊢
 exact .of_eq (h us hl)

section
variable {X:Cx}{CX:CXT}{k:Nat}{f C:Addr}{fd:FuncData}{ps:List Str}{sp:Sp}{dvs:List V}{ds:List Value}{E:XK}{x m:Str}{p pos apos:Pos}{e o:Expr}{es:List Expr}{ta:TE}{t:TA}

structure Mk (K:PySem.W.Frag)(C f:Addr):Prop where
 makes:PySem.W.makesIn K C=true
 init:PySem.W.findIn K (.ref C) "__init__" = some (some (.ref f))
 fn:PySem.W.isFn K (.ref f)=true
 kp:PySem.W.keepIn K (.ref C)=true

end

noncomputable def PK (X:Cx)(kws:List Keyword)(t:TA):Prop:=
 ∀ (pos:Pos) (pins:List (Addr×Obj)) (s:Shared) (σ:St) (H:Hp) (Q:List V->Hp->Prop),Inv X pins σ H s->t σ H Q->wpAny (model X.prog X.w) X.A (evalAll ((backToKw pos (keywordEach kws X.env)).map (·.2))) (AP X pins σ Q) X.xe s
section
variable {X:Cx}{CX:CXT}{k:Nat}{f C:Addr}{fd:FuncData}{ps ks:List Str}{sp:Sp}{E:XK}{x m:Str}{p pos apos kpos:Pos}{e o:Expr}{es:List Expr}{kws:List Keyword}{te ta:TE}{t tk:TA}{nm:Option Str}
theorem pk_nil:PK X [] tNil:=fun _ _ _ _ H Q I h=>wpAny_evalAll_nil ⟨[],H,I,.nil,h⟩
structure KBinds (K:PySem.W.Frag)(fd:FuncData)(ps ks:List Str)(g:List Value->List Value->List Value)(gV:List V->List V->List V):Prop where
 to:∀ (s:Shared) (us ws:List Value),K.In s.heap->(g us ws).length=ps.length->BindsTo s fd ⟨us,ks.zip ws⟩ (ps.zip (g us ws))
 rel:∀ {vs:List V} {us:List Value} {zs:List V} {ws:List Value},Vals vs us->Vals zs ws->Vals (gV vs zs) (g us ws)
variable {g:List Value->List Value->List Value}{gV:List V->List V->List V}
end

structure FnScope (N P:List Str)(sc:Scope):Prop where
 kind:sc.kind=.function
 co:sc.isCoroutine=false
 gen:sc.isGenerator=false
 nd:N.Nodup
 pre:N.take P.length=P
 par:∀ x∈P,sc.names.lookup x=some .local\/sc.names.lookup x=some .cell
 nofree:∀ y∈sc.names,y.2≠.free

theorem jel {kindOf:Str->Option NameKind}{x:Str}:∀ {binds:List (Str×Value)} {m:Str->Option Value},(∀ v,(x,v)∉binds)->bindL kindOf binds m x=m x
 | [],_,_=>rfl
 | (n,v)::r,m,h=>by
  unfold bindL
  rw [jel fun w hw=>h w (List.mem_cons_of_mem _ hw)]
  split
  ·have:x≠n:=by rintro rfl; exact h v List.mem_cons_self
   simp [this]
  ·rfl
theorem jen {kindOf:Str->Option NameKind}{x:Str}:∀ {binds:List (Str×Value)} {m:Str->Option Value},(∀ v,(x,v)∉binds)->bindC kindOf binds m x=m x
 | [],_,_=>rfl
 | (n,v)::r,m,h=>by
  unfold bindC
  rw [jen fun w hw=>h w (List.mem_cons_of_mem _ hw)]
  split
  ·rfl
  ·have:x≠n:=by rintro rfl; exact h v List.mem_cons_self
   simp [this]
theorem jem {kindOf:Str->Option NameKind}{x:Str}{v:Value}:∀ {P:List Str} {vs:List Value} {i:Nat} {m:Str->Option Value},P.Nodup->P[i]?=some x->vs[i]?=some v->kindOf x=some .local->
  bindL kindOf (P.zip vs) m x=some v
 | [],_,_,_,_,h,_,_=>by simp at h
 | _::_,[],_,_,_,_,h,_=>by simp at h
 | p::P,w::vs,0,m,nd,h1,h2,hk=>by
  simp at h1 h2; subst h1; subst h2
  show bindL kindOf ((p,w)::P.zip vs) m p=_
  unfold bindL
  rw [jel fun v hv=>(List.nodup_cons.mp nd).1 (List.of_mem_zip hv).1,if_pos hk]
  simp
 | p::P,w::vs,i + 1,m,nd,h1,h2,hk=>by
  show bindL kindOf ((p,w)::P.zip vs) m x=_
  unfold bindL
  exact jem (i:=i) (List.nodup_cons.mp nd).2 (by simpa using h1) (by simpa using h2) hk
theorem jeo {kindOf:Str->Option NameKind}{x:Str}{v:Value}:∀ {P:List Str} {vs:List Value} {i:Nat} {m:Str->Option Value},P.Nodup->P[i]?=some x->vs[i]?=some v->kindOf x≠some .local->
  bindC kindOf (P.zip vs) m x=some v
 | [],_,_,_,_,h,_,_=>by simp at h
 | _::_,[],_,_,_,_,h,_=>by simp at h
 | p::P,w::vs,0,m,nd,h1,h2,hk=>by
  simp at h1 h2; subst h1; subst h2
  show bindC kindOf ((p,w)::P.zip vs) m p=_
  unfold bindC
  rw [jen fun v hv=>(List.nodup_cons.mp nd).1 (List.of_mem_zip hv).1,if_neg hk]
  simp
 | p::P,w::vs,i + 1,m,nd,h1,h2,hk=>by
  show bindC kindOf ((p,w)::P.zip vs) m x=_
  unfold bindC
  exact jeo (i:=i) (List.nodup_cons.mp nd).2 (by simpa using h1) (by simpa using h2) hk

noncomputable def start (N:List Str)(vs:List V):St:=vs.map some++List.replicate (N.length - vs.length) none

noncomputable def cxOf (CX:CXT)(P:Program)(w:World)(K:PySem.W.Frag)(mg:Str->Option Value)(base:Heap)(N:List Str)(qual:Str)(scope:Scope)(f:Addr)(cd:Value)(A:Around)(outer:List Env)(s:Shared)(H:Hp)(E:XK):Cx where
 prog:=P
 w:=w
 K:=K
 mg:=mg
 base:=base
 A:=A.deeper (envOfC qual scope s.heap.objs.size f cd)
 N:=N
 s₀:=s
 H₀:=H
 env:=envOfC qual scope s.heap.objs.size f cd
 outer:=outer
 stack:=envOfC qual scope s.heap.objs.size f cd::outer
 ex:=[]
 calm:=true
 fn:=fun _=>true
 pn:=[]
 xe:=fun e s'=>wpAny (model P w) (A.deeper (envOfC qual scope s.heap.objs.size f cd)) (leaving (envOfC qual scope s.heap.objs.size f cd) e) (fun _ s''=>CX outer H s E e s'') (fun e' s''=>CX outer H s E e' s'') s'

theorem jdH {sc:Scope}{n:Nat}{x:Str}(h:sc.names.lookup x=some .cell):∃ c,(cellsFrom n sc.names []).lookup x=some c:=by
 have q:=PySem.W.cellsFrom_some sc.names n [] (.inl h)
 exact Option.isSome_iff_exists.mp q

theorem jgr {CX : CXT}{P : Program}{w : World}{K : PySem.W.Frag}{mg : Str -> Option Value}{base : Heap}{N ps : List Str}{qual : Str}{scope : Scope}{f : Addr}{cd : Value}{A : Around}{outer : List Env}{s s1 : Shared}{H : Hp}{E : XK}{us : List Value}{vs : List V}
    (S : FnScope N ps scope) (hd : A.handled = none) (e0 : Env0 P w K mg base A outer s H) (hl : vs.length = ps.length) (r : Vals vs us)
    (x : InCallC s s.heap.objs.size (bindL (envOfC qual scope s.heap.objs.size f cd).kindOf (ps.zip us) fun _ => none) (cellsFrom (s.heap.objs.size + 1) scope.names []) (bindC (envOfC qual scope s.heap.objs.size f cd).kindOf (ps.zip us) fun _ => none) s1) :
    Inv (cxOf CX P w K mg base N qual scope f cd A outer s H E) [] (start N vs) H s1 := by
  have hpl : ps.length <= N.length := by have := congrArg List.length S.pre; rw [List.length_take] at this; omega
  obtain ⟨h1, tk, rfl, hk⟩ := x.done
  have noA : ∀ b : Addr, b ∉ (cxOf CX P w K mg base N qual scope f cd A outer s H E).ex := fun b z => absurd (show b ∈ ([] : List Addr) from z) (by simp)
  refine ⟨⟨e0.mod, S.kind, rfl, rfl, Nat.le_refl _, fun y z c h1 h2 => ?_, fun y hy => ?_, fun y c _ h => ?_, fun _ => hd, Around.frames_deeper e0.frames, .inr ⟨rfl, rfl⟩, fun b z => absurd z (noA b), e0.bs, e0.bsz, fun b _ _ => noA b, fun b z => absurd z (noA b), e0.funs, e0.frf⟩,
    rfl, e0.bare, Un.kept hk, ⟨_, x.toInCall.ns, fun i y v h1 h2 h3 => ?_⟩, fun y c h => ⟨_, x.cell y c h⟩, e0.hok.fresh (Nat.le_refl _), fun y c h => ?_, fun p hp => absurd (show p ∈ ([] : List (Addr × Obj)) from hp) (by simp), e0.hok.kept hk, ?_⟩
  · exact name_of_addr x.apart (PySem.mem_of_lookup h1) (PySem.mem_of_lookup h2)
  · have hy : scope.names.lookup y = some .cell \/ scope.names.lookup y = some .free := hy
    rcases hy with hy | hy
    · exact jdH hy
    · exact absurd rfl (S.nofree _ (PySem.mem_of_lookup hy))
  · exact Nat.le_of_lt (x.above y c (PySem.mem_of_lookup h))
  · have hi : i < vs.length := by
      unfold start at h2
      by_cases hi : i < vs.length
      · exact hi
      · rw [List.getElem?_append_right (by simpa using hi)] at h2
        rw [List.getElem?_replicate] at h2
        split at h2 <;> cases h2
    have ha : vs[i]? = some v := by
      unfold start at h2
      rw [List.getElem?_append_left (by simpa using hi), List.getElem?_map] at h2
      cases e : vs[i]? with
      | none => rw [e] at h2; cases h2
      | some a => rw [e] at h2; cases h2; rfl
    obtain ⟨u, hu, rv⟩ := r.get ha
    have hp : ps[i]? = some y := by
      rw [<- S.pre, List.getElem?_take_of_lt (by omega)]; exact h1
    have ndP : ps.Nodup := by rw [<- S.pre]; exact S.nd.sublist (List.take_sublist _ _)
    refine ⟨u, rv, ?_⟩
    rcases S.par y (List.mem_of_getElem? hp) with k | k
    · exact .inl ⟨k, jem ndP hp hu k⟩
    · obtain ⟨c, e⟩ := jdH (n := s.heap.objs.size + 1) k
      refine .inr ⟨.inl k, c, e, ?_⟩
      have q := x.cell y c e
      rw [jeo ndP hp hu (by show scope.names.lookup y ≠ _; rw [k]; decide)] at q
      exact q
  · exact e0.hok.fresh (Nat.le_of_lt (x.above y c (PySem.mem_of_lookup h)))
  · unfold start
    show _ = N.length
    rw [List.length_append, List.length_map, List.length_replicate]
    omega

theorem jmY {CX:CXT}{P:Program}{w:World}{K:PySem.W.Frag}{mg:Str->Option Value}{base:Heap}{k:Nat}{f:Addr}{name qual:Str}{params:Arguments}{body:List Stmt}{scope:Scope}{dV kV doc pm cdv ct oc:Value}{an od:Option Addr}
  {osl:Array (Option Value)} {N ps:List Str} {sp:Sp} (lk:K.lookup f=some ⟨oc,od,.func (PySem.W.fnOf name qual params body scope dV kV doc pm an cdv ct),osl⟩) (hcd:PySem.W.codeIn K cdv qual=true) (S:FnScope N ps scope)
  (len:∀ vs H Q E,sp vs H Q E->vs.length=ps.length)
  (hbody:∀ (A:Around) (outer:List Env) (s:Shared) (H:Hp) (vs:List V) (Q:VK) (E:XK),Room k (A.deeper (envOfC qual scope s.heap.objs.size f cdv))->sp vs H Q E->
   ∃ t,PSs (cxOf CX P w K mg base N qual scope f cdv A outer s H E) body t/\t { nx:=fun _ H'=>Q .non H',rt:=Q } (start N vs) H) :
  FnOk P w K mg base CX (k + 1) f (PySem.W.fnOf name qual params body scope dV kV doc pm an cdv ct) ps sp:=by
 refine ⟨len,fun A outer s H args us vs Q E hr e0 hb r hsp=>?_⟩
 have hl:=len _ _ _ _ hsp
 have KX:K.In s.heap:=e0.mod.kin.keeps fun b o e=>(e0.bs b o e).1
 have lim:s.heap.NoLimit:=e0.mod.nolimit.keeps fun b o e=>(e0.bs b o e).1
 have hkind:∀ y∈ps.zip us,scope.names.lookup y.1=some .local\/(scope.names.lookup y.1=some .cell/\((cellsFrom (s.heap.objs.size + 1) scope.names []).lookup y.1).isSome=true):=fun ⟨n,v⟩ hy=>by
  rcases S.par n (List.of_mem_zip hy).1 with q | q
  ·exact .inl q
  ·exact .inr ⟨q,PySem.W.cellsFrom_some _ _ _ (.inl q)⟩
 refine codeAny_call_function hr.depth (KX _ _ lk) rfl S.co S.gen rfl (PySem.W.codeRec_of KX hcd) (hb _ _ _ _ ?_)
 refine wpAny_newFunctionEnv_cells S.kind hkind fun env he s1 x=>?_
 subst he
 refine ⟨lim.keeps x.toInCall.keep,codeAny_func ?_⟩
 obtain ⟨t,ht,hq⟩:=hbody A outer s H vs Q E (hr.deeper _) hsp
 have I:Inv (cxOf CX P w K mg base N qual scope f cdv A outer s H E) [] (start N vs) H s1:=jgr S hr.hd e0 hl r x
 refine wpAny_mono (ht [] s1 (start N vs) H _ I hq) (fun fl s' hs=>?_) fun e s' hs=>hs
 have fin:∀ {σ':St} {H':Hp} {v:V} {u:Value},Inv (cxOf CX P w K mg base N qual scope f cdv A outer s H E) [] σ' H' s'->RelV v u->Q v H'->CE outer P w H s Q u s':=
  fun {σ' H' v u} J rv q=>⟨v,H',J.os,J.bare,J.base,J.hok,rv,q⟩
 cases fl with
 | ret u=>
  obtain ⟨v,σ',H',J,rv,q⟩:=hs
  exact fin J rv q
 | next=>
  obtain ⟨σ',H',J,q⟩:=hs
  exact fin (v:=V.non) (u:=Value.none) J rfl q
 | brk=>
  obtain ⟨_,_,_,q⟩:=hs
  exact False.elim q
 | cont=>
  obtain ⟨_,_,_,q⟩:=hs
  exact False.elim q
section
variable {X:Cx}{x:Str}{p pos:Pos}{e:Expr}{es:List Expr}{t:TA}{id T:String}{r:List V->Hp->VK->Prop}

noncomputable def tCB (r:List V->Hp->VK->Prop)(t:TA):TE:=fun σ H Q=>t σ H fun vs H1=>r vs H1 Q
theorem jhc (hc:jbd X (.builtin id) r)(hg:Gl X x)(hm:X.mg x=none)(hv:bootBuiltins x=some (.builtin id))(ha:PA X (e::es) t)(hn:x ≠ "__name__" := by decide)(hdb:(x == ("__debug__" : Str))=false:=by decide)
  (he:starEach (e::es) X.env=(false,eval e X.env)::starEach es X.env:=by rfl) (hpl:(backTo pos (starEach es X.env)).any (·.1)=false:=by rfl):PE X (.Call (.Name x p) (e::es) [] pos) (tCB r t):=by
 intro pins s σ H Q I h
 refine wpAny_Call_Name_kw (jdj I hg hm hv ?_ hn hdb)
 exact PyProof.Rows.callWith_builtin1 (thn (ha pos pins s σ H _ I h) fun us s1 ⟨vs,H1,I1,r1,q1⟩=>hc pins s1 σ H1 vs us Q I1 r1 q1) he hpl
theorem jcP (hc:jbd X (.type T) r)(hg:Gl X x)(hm:X.mg x=none)(hv:bootBuiltins x=some (.type T))(ha:PA X (e::es) t)(hn:x ≠ "__name__" := by decide)(hdb:(x == ("__debug__" : Str))=false:=by decide)
  (he:starEach (e::es) X.env=(false,eval e X.env)::starEach es X.env:=by rfl) (hpl:(backTo pos (starEach es X.env)).any (·.1)=false:=by rfl):PE X (.Call (.Name x p) (e::es) [] pos) (tCB r t):=by
 intro pins s σ H Q I h
 refine wpAny_Call_Name_kw (jdj I hg hm hv ?_ hn hdb)
 exact PyProof.Rows.callWith_type1 (thn (ha pos pins s σ H _ I h) fun us s1 ⟨vs,H1,I1,r1,q1⟩=>hc pins s1 σ H1 vs us Q I1 r1 q1) he hpl
end
end L2

namespace HT
open PySem PyProof.Rows

noncomputable def lexLt:List Int->List Int->Bool
 | [],[]=>false
 | [],_::_=>true
 | _::_,[]=>false
 | x::xs,y::ys=>if x=y then lexLt xs ys else decide (x < y)
section
open PySem.SeqAt
open PySem.AutoSeq1 (wpAny_loadPart')
open PySem.MeetsSeq PySem.MeetsSeq2 PySem.MeetsSeq3

end

section
variable {prog:Program}{w:World}{A:Around}{E:Value->Shared->Prop}{s:Shared}

theorem cat_tup {t b : Addr}{vs ws : List Value}{Q : Value -> Shared -> Prop}(ht : IsTup s.heap t vs.toArray)(hb : IsTup s.heap b ws.toArray)(hv : vs ≠ [])
    (h1 : ws = [] -> Q (.ref t) s) (h2 : ws ≠ [] -> Q (.ref s.heap.objs.size) { s with heap := s.heap.push { cls := .type "tuple", data := .seq (vs ++ ws).toArray } })
    (hsz : vs.length + ws.length <= sizeLine) : wpAny (model prog w) A (binaryOp .Add (.ref t) (.ref b)) Q E s := by
  obtain ⟨⟨cls, dd, data, sl⟩, ho, hc, n, hd⟩ := id ht
  obtain ⟨⟨cls2, dd2, data2, sl2⟩, ho2, hc2, n2, hd2⟩ := id hb
  simp only at hc hd hc2 hd2
  subst hc hd hc2 hd2
  have e : vs.toArray ++ ws.toArray = (vs ++ ws).toArray := by simp
  by_cases hw : ws = []
  · exact concat_meets ⟨_, ho, rfl⟩ ⟨_, ho2, rfl⟩ noFill_tuple_add seq_tuple_add PySem.F.slot_tuple_add PySem.F.entry_tuple_add (PySem.F.args_tuple_add_2 _ _)
      (tuple_addW1 t b vs.toArray ws.toArray n n2 dd dd2 sl sl2 (by simpa using hv) (by simp [hw])) ⟨ho, ho2, h1 hw⟩
  · refine concat_meets ⟨_, ho, rfl⟩ ⟨_, ho2, rfl⟩ noFill_tuple_add seq_tuple_add PySem.F.slot_tuple_add PySem.F.entry_tuple_add (PySem.F.args_tuple_add_2 _ _)
      (tuple_addW2 t b vs.toArray ws.toArray n n2 dd dd2 sl sl2 (by simpa using hv) (by simpa using hw) (by rw [List.size_toArray, List.size_toArray]; exact hsz)) ⟨ho, ho2, ?_⟩
    rw [e]
    exact h2 hw

noncomputable def sIx (n d:Nat):Option Int->Nat
 | none=>d
 | some v=>if v < 0 then (v + (n:Int)).toNat else min v.toNat n
theorem sIx_none (n d:Nat):sIx n d none=d:=rfl
theorem sIx_nat (n d k:Nat):sIx n d (some (k:Int))=min k n:=by
 show (if (k:Int) < 0 then ((k:Int) + (n:Int)).toNat else min (k:Int).toNat n)=min k n
 rw [if_neg (by omega),Int.toNat_natCast]
theorem jka (n d:Nat)(hd:d<=n)(o:Option Int):sIx n d o<=n:=by
 cases o with
 | none=>exact hd
 | some v=>
  show (if v < 0 then (v + (n:Int)).toNat else min v.toNat n)<=n
  by_cases hv:v < 0
  ·rw [if_pos hv]; omega
  ·rw [if_neg hv]; exact Nat.min_le_right _ _
theorem jgH (v:Int)(n d:Nat):(if v < 0 then max (v + (n:Int)) 0 else min v (n:Int))=((sIx n d (some v):Nat):Int):=by
 show (if v < 0 then max (v + (n:Int)) 0 else min v (n:Int))=(((if v < 0 then (v + (n:Int)).toNat else min v.toNat n):Nat):Int)
 by_cases hv:v < 0
 ·simp only [if_pos hv]; omega
 ·simp only [if_neg hv]; omega
theorem jfH (lo hi:Option Int)(n:Nat):Builtin.Slice.sliceAdjust lo hi 1 (n:Int)=(((sIx n 0 lo:Nat):Int),((sIx n n hi:Nat):Int)):=by
 have h1:¬ ((1:Int) < 0):=by omega
 unfold Builtin.Slice.sliceAdjust
 simp only [h1,if_false]
 refine Prod.ext ?_ ?_
 ·cases lo with
  | none=>rfl
  | some v=>exact jgH v n 0
 ·cases hi with
  | none=>rfl
  | some v=>exact jgH v n n
theorem jfp (i j:Nat):Builtin.Slice.slicePlaces (i:Int) (j:Int) 1=j - i:=by
 unfold Builtin.Slice.slicePlaces
 have h1:(1:Int) > 0:=by omega
 simp only [h1,if_true,Int.ediv_one]
 split <;> omega
theorem ja9 {v:Value}{o:Option Int}{Q:Option Int->Shared->Prop}(p:IsPart v o)(h:Q o s):wpAny (model prog w) A (Builtin.Slice.slicePartIndex v) Q E s:=by
 cases p with
 | none=>exact slicePart_none h
 | int i t=>exact slicePart_int h
theorem jbf {sl:Addr}{vl vu:Value}{lo hi:Option Int}{n:Nat}{Q:Int×Int×Nat->Shared->Prop}(hs:s.heap.IsSliceOf sl vl vu .none)(pl:IsPart vl lo)(pu:IsPart vu hi)
  (h:Q (((sIx n 0 lo:Nat):Int),1,sIx n n hi - sIx n 0 lo) s):wpAny (model prog w) A (Builtin.Slice.sliceApplied (.ref sl) (pure (n:Int))) Q E s:=by
 obtain ⟨os,hos,hcs,hds⟩:=id hs
 unfold Builtin.Slice.sliceApplied Builtin.Slice.sliceFields
 refine wpAny_bind (wpAny_bind (wpAny_field hos hds (x:=vl) rfl (wpAny_bind (wpAny_field hos hds (x:=vu) rfl (wpAny_bind (wpAny_field hos hds (x:=.none) rfl (wpAny_pure ?_)))))))
 refine wpAny_bind (slicePart_none ?_)
 show wpAny _ _ (if ((1:Int) == 0)=true then _ else _) _ _ s
 rw [if_neg (by decide)]
 refine wpAny_bind (ja9 pl (wpAny_bind (ja9 pu (wpAny_bind (wpAny_pure ?_)))))
 show wpAny _ _ (match Builtin.Slice.sliceAdjust lo hi 1 (n:Int) with | (lo,hi)=>pure (lo,(1:Int),Builtin.Slice.slicePlaces lo hi 1)) _ _ s
 rw [jfH lo hi n]
 show wpAny _ _ (pure (((sIx n 0 lo:Nat):Int),(1:Int),Builtin.Slice.slicePlaces ((sIx n 0 lo:Nat):Int) ((sIx n n hi:Nat):Int) 1)) _ _ s
 rw [jfp]
 exact wpAny_pure h
theorem jg6 (xs:Array Value)(i k:Nat):((List.range k).filterMap fun (m:Nat)=>xs[((i:Int) + (m:Int) * 1).toNat]?).toArray=((xs.toList.drop i).take k).toArray:=by
 have e:(fun (m:Nat)=>xs[((i:Int) + (m:Int) * 1).toNat]?)=fun m=>xs[i + m]?:=by
  funext m
  have:((i:Int) + (m:Int) * 1).toNat=i + m:=by omega
  rw [this]
 rw [e]
 have:=pick_run xs i k
 rw [List.filterMap_map] at this
 have e2:((fun x=>xs[x]?) ∘ fun x=>i + x)=fun m=>xs[i + m]?:=rfl
 rw [e2] at this
 rw [this]

theorem getItem_tuple_cut {t sl:Addr}{items:Array Value}{vl vu:Value}{lo hi:Option Int}{Q:Value->Shared->Prop}(ht:IsTup s.heap t items)(hs:s.heap.IsSliceOf sl vl vu .none)(pl:IsPart vl lo)(pu:IsPart vu hi)
  (hw:¬ (sIx items.size 0 lo=0/\sIx items.size items.size hi=items.size))
  (h:Q (.ref s.heap.objs.size) { s with heap:=s.heap.push { cls:=.type "tuple",data:=.seq ((items.toList.drop (sIx items.size 0 lo)).take (sIx items.size items.size hi - sIx items.size 0 lo)).toArray } })
  (hsz:items.size<=sizeLine):wpAny (model prog w) A (getItem (.ref t) (.ref sl)) Q E s:=by
 have htake:sizeOk (.seq ((items.toList.drop (sIx items.size 0 lo)).take (sIx items.size items.size hi - sIx items.size 0 lo)).toArray):=by
  show ((items.toList.drop (sIx items.size 0 lo)).take (sIx items.size items.size hi - sIx items.size 0 lo)).toArray.size<=sizeLine
  rw [List.size_toArray,List.length_take,List.length_drop,Array.length_toList]
  omega
 have hj:sIx items.size items.size hi<=items.size:=jka _ _ (Nat.le_refl _) hi
 obtain ⟨os,hos,hcs,hds⟩:=id hs
 have hTs:s.TypeIs (.ref sl) "slice" := ⟨os,hos,hcs⟩
 unfold getItem
 try with_reducible refine wpAny_holding ?_
 first | refine wpAny_bind (wpAny_pure ?_) | skip
 refine wpAny_bind (wpAny_sequenceKey ht.typeIs (by decide) ?_)
 refine wpAny_bind (wpAny_callSpecial?_slot (name:=Str.ofString "__getitem__") ht.typeIs PyProof.Rows.slot_tuple_getitem
  (wpAny_call_entry PyProof.Rows.slot_tuple_getitem ht.typeIs entry_tuple_getitem ?_ (args_tuple_getitem _ _)))
 show wpAny _ _ (Builtin.Tuple.tupleItemsOf (.ref t) >>= _) _ _ s
 refine wpAny_bind (tupleItemsOf_ ht ?_)
 refine wpAny_bind (wpAny_typeOf hTs ?_)
 rw [if_pos (by decide)]
 refine wpAny_bind (jbf hs pl pu ?_)
 have hno:¬ ((((sIx items.size 0 lo:Nat):Int) == 0 && (1:Int) == 1 && (sIx items.size items.size hi - sIx items.size 0 lo) == items.size)=true):=by
  intro q
  rw [Bool.and_eq_true,Bool.and_eq_true] at q
  have q1:((sIx items.size 0 lo:Nat):Int)=0:=eq_of_beq q.1.1
  have q2:sIx items.size items.size hi - sIx items.size 0 lo=items.size:=eq_of_beq q.2
  exact hw ⟨by omega,by omega⟩
 show wpAny _ _ (if (((sIx items.size 0 lo:Nat):Int) == 0 && (1:Int) == 1 && (sIx items.size items.size hi - sIx items.size 0 lo) == items.size)=true then _ else _) _ _ s
 rw [if_neg hno,jg6]
 first
  | exact wpAny_bind (m:=Builtin.Tuple.tupleExact _) (wpAny_newObj_type (wpAny_pure ⟨_,rfl,wpAny_pure h⟩) htake)
  | exact wpAny_bind (m:=Builtin.Tuple.tupleExact _) (wpAny_newObj_type (wpAny_bind (wpAny_pure (wpAny_pure ⟨_,rfl,wpAny_pure h⟩))) htake)
  | exact wpAny_bind (wpAny_bind (m:=Builtin.Tuple.tupleExact _) (wpAny_newObj_type (wpAny_pure (wpAny_pure ⟨_,rfl,wpAny_pure h⟩)) htake))
  | exact wpAny_bind (wpAny_bind (m:=Builtin.Tuple.tupleExact _) (wpAny_newObj_type (wpAny_pure ⟨_,rfl,wpAny_pure h⟩) htake))
end
end HT

namespace L2
open PySem PySem.Spec PyProof.Rows

noncomputable abbrev TO:=St->Hp->(Option Int->Hp->Prop)->Prop
noncomputable def PO (X:Cx)(e:Option Expr)(t:TO):Prop:=
 ∀ (pins:List (Addr×Obj)) (s:Shared) (σ:St) (H:Hp) (Q:Option Int->Hp->Prop),Inv X pins σ H s->t σ H Q->
  wpAny (model X.prog X.w) X.A (evalPart e X.env) (fun u s'=>∃ o H',Inv X pins σ H' s'/\IsPart u o/\Q o H') X.xe s
noncomputable def jir:TO:=fun _ H Q=>Q none H
noncomputable def jmg (t:TE):TO:=fun σ H Q=>t σ H fun x H1=>∃ i,x=.int i/\Q (some i) H1

section
variable {X:Cx}{e:Expr}{te:TE}{lo hi:Option Expr}{tl th:TO}{pos p2:Pos}

theorem jiI:PO X none jir:=by
 intro pins s σ H Q I h
 rw [evalPart_none]
 exact wpAny_pure ⟨none,H,I,.none,h⟩
theorem jiH (h:PE X e te):PO X (some e) (jmg te):=by
 intro pins s σ H Q I hw
 rw [evalPart_some]
 refine thn (h pins s σ H _ I hw) fun u s1 ⟨x,H1,I1,r1,q1⟩=>?_
 obtain ⟨i,rfl,q⟩:=q1
 obtain ⟨t,rfl⟩:=r1
 exact ⟨some i,H1,I1,.int i t,q⟩

noncomputable def SlR (X:Cx)(r:V->Option Int->Option Int->Hp->VK->Prop):Prop:=
 ∀ (pins:List (Addr×Obj)) (s:Shared) (σ:St) (H:Hp) (x:V) (v vl vu:Value) (lo hi:Option Int) (sl:Addr) (Q:VK),Inv X pins σ H s->RelV x v->s.heap.IsSliceOf sl vl vu .none->IsPart vl lo->IsPart vu hi->r x lo hi H Q->
  ∃ T id,typeLookup (.type T) "__getitem__" = pure (some (.builtin id))/\s.TypeIs v T/\wpAny (model X.prog X.w) X.A (getItem v (.ref sl)) (EP X pins σ Q) X.xe s
theorem SlR.or {r r':V->Option Int->Option Int->Hp->VK->Prop}(h:SlR X r)(h':SlR X r'):SlR X (fun x lo hi H Q=>r x lo hi H Q\/r' x lo hi H Q):=by
 intro pins s σ H x v vl vu lo hi sl Q I rx hs pl pu q
 rcases q with q | q
 ·exact h pins s σ H x v vl vu lo hi sl Q I rx hs pl pu q
 ·exact h' pins s σ H x v vl vu lo hi sl Q I rx hs pl pu q
noncomputable def tSl (r:V->Option Int->Option Int->Hp->VK->Prop)(te:TE)(tl th:TO):TE:=fun σ H Q=>te σ H fun x H1=>tl σ H1 fun l H2=>th σ H2 fun u H3=>r x l u H3 Q
theorem jg8 {r:V->Option Int->Option Int->Hp->VK->Prop}(hr:SlR X r)(he:PE X e te)(hl:PO X lo tl)(hu:PO X hi th):PE X (.Subscript e (.Slice lo hi none p2) pos) (tSl r te tl th):=by
 intro pins s σ H Q I h
 refine Subscript_ (thn (he pins s σ H _ I h) fun v s1 ⟨x,H1,I1,r1,q1⟩=>?_)
 refine wpAny_Slice (thn (hl pins s1 σ H1 _ I1 q1) fun vl s2 ⟨l,H2,I2,pl,q2⟩=>thn (hu pins s2 σ H2 _ I2 q2) fun vu s3 ⟨u,H3,I3,pu,q3⟩=>?_)
 rw [evalPart_none]
 refine wpAny_pure ?_
 have I4:Inv X pins σ H3 { s3 with heap:=s3.heap.push { cls:=.type "slice",data:=.fields #[vl,vu,.none] } }:=I3.kept (t':=s3.toks) fun b ob q=>Heap.get?_push_of_some _ q
 obtain ⟨T,id,hT,ht,hg⟩:=hr pins { s3 with heap:=s3.heap.push { cls:=.type "slice",data:=.fields #[vl,vu,.none] } } σ H3 x v vl vu l u s3.heap.objs.size Q I4 r1 (Heap.IsSliceOf.new ..) pl pu q3
 show wpAny (model X.prog X.w) X.A (subscriptTail e (.Slice lo hi none p2) v (.ref s3.heap.objs.size)) (EP X pins σ Q) X.xe { s3 with heap:=s3.heap.push { cls:=.type "slice",data:=.fields #[vl,vu,.none] } }
 exact tail_any (ops:=[.ref s3.heap.objs.size,v]) ht hT hg (by with_unfolding_all rfl)

noncomputable def cutV (xs:List V)(lo hi:Option Int):List V:=(xs.drop (HT.sIx xs.length 0 lo)).take (HT.sIx xs.length xs.length hi - HT.sIx xs.length 0 lo)
theorem jc3 (xs:List V)(lo hi:Option Int):(cutV xs lo hi).length<=xs.length:=by
 unfold cutV
 rw [List.length_take,List.length_drop]
 omega
noncomputable def rSlT (K:PySem.W.Frag):V->Option Int->Option Int->Hp->VK->Prop:=fun x lo hi H Q=>∃ a xs,x=.ref a/\SqT K H a xs/\
 ¬ (HT.sIx xs.length 0 lo=0/\HT.sIx xs.length xs.length hi=xs.length)/\∀ p,H p=none->Q (.ref p) (upd H p (.tup (cutV xs lo hi)))
theorem jj2:SlR X (rSlT X.K):=by
 intro pins s σ H x v vl vu lo hi sl Q I rx hs pl pu h
 obtain ⟨a,xs,rfl,hx,hw,q⟩:=h
 cases rx
 obtain ⟨its,r,ht,hz⟩:=I.tuple hx
 have hlen:its.toArray.size=xs.length:=by rw [List.size_toArray]; exact r.length.symm
 refine ⟨"tuple",_,PyProof.Rows.slot_tuple_getitem.lookup,ht.typeIs,?_⟩
 refine HT.getItem_tuple_cut ht hs pl pu (by rw [hlen]; exact hw) ?_ (by rw [hlen]; exact hz)
 rw [hlen]
 refine ⟨.ref s.heap.objs.size,_,I.laid (t':=s.toks) (o:=.tup (cutV xs lo hi)) (fun b ob q=>Heap.get?_push_of_some _ q) (Nat.le_refl _) ?_,rfl,q _ (I.hok.fresh (Nat.le_refl _))⟩
 exact ⟨Nat.le_trans (jc3 xs lo hi) hz,_,(r.drop (HT.sIx xs.length 0 lo)).take (HT.sIx xs.length xs.length hi - HT.sIx xs.length 0 lo),TupD.new _ _⟩

noncomputable def jmt (K:PySem.W.Frag):R2:=fun x y H Q=>∃ a b xs ys,x=.ref a/\y=.ref b/\SqT K H a xs/\SqT K H b ys/\xs≠[]/\xs.length + ys.length<=sizeLine/\
 (ys=[]->Q (.ref a) H)/\(ys≠[]->∀ p,H p=none->Q (.ref p) (upd H p (.tup (xs++ys))))
theorem Vals.nil_iff {xs:List V}{us:List Value}(r:Vals xs us):us=[]↔xs=[]:=by
 cases r with
 | nil=>simp
 | cons _ _=>simp
theorem ji0:OpR X (binaryOp .Add) (jmt X.K):=by
 intro pins s σ H x y v u Q I rx ry h
 obtain ⟨a,b,xs,ys,rfl,rfl,ha,hb,hx,hz,q1,q2⟩:=h
 cases rx
 cases ry
 obtain ⟨its,r1,p1,_⟩:=I.tuple ha
 obtain ⟨its2,r2,p2,_⟩:=I.tuple hb
 refine HT.cat_tup p1 p2 (fun z=>hx (r1.nil_iff.mp z)) (fun z=>⟨.ref a,H,I,rfl,q1 (r2.nil_iff.mp z)⟩) (fun z=>?_) (by rw [<- r1.length,<- r2.length]; exact hz)
 refine ⟨.ref s.heap.objs.size,_,I.laid (t':=s.toks) (o:=.tup (xs++ys)) (fun b ob q=>Heap.get?_push_of_some _ q) (Nat.le_refl _) ?_,rfl,q2 (fun w=>z (r2.nil_iff.mpr w)) _ (I.hok.fresh (Nat.le_refl _))⟩
 exact ⟨by rw [List.length_append]; exact hz,_,r1.append r2,TupD.new _ _⟩
end

noncomputable def ixN (n:Nat)(i:Int):Option Nat:=if 0<=i then (if i < n then some i.toNat else none) else if -(n:Int)<=i then some (i + n).toNat else none
noncomputable def atI {α:Type}(xs:List α)(i:Int):Option α:=(ixN xs.length i).bind fun j=>xs[j]?
theorem jgp {n:Nat}{i:Int}{j:Nat}(h:ixN n i=some j):seqIndex? i n=some j/\j < n/\-(n:Int)<=i/\i < n:=by
 unfold ixN at h
 by_cases h0:0<=i
 ·rw [if_pos h0] at h
  by_cases h1:i < n
  ·rw [if_pos h1] at h
   have e:i.toNat=j:=Option.some.inj h
   exact ⟨by rw [seqIndex_of h0 h1,e],by omega,by omega,h1⟩
  ·rw [if_neg h1] at h; cases h
 ·rw [if_neg h0] at h
  by_cases h1:-(n:Int)<=i
  ·rw [if_pos h1] at h
   have e:(i + n).toNat=j:=Option.some.inj h
   exact ⟨by rw [seqIndex_neg (by omega) h1,e],by omega,h1,by omega⟩
  ·rw [if_neg h1] at h; cases h
theorem jeP {α:Type}{xs:List α}{i:Int}{v:α}(h:atI xs i=some v):∃ j,seqIndex? i xs.length=some j/\xs[j]?=some v/\j < xs.length/\-(xs.length:Int)<=i/\i < xs.length:=by
 unfold atI at h
 cases e:ixN xs.length i with
 | none=>rw [e] at h; cases h
 | some j=>
  rw [e] at h
  obtain ⟨h1,h2,h3,h4⟩:=jgp e
  exact ⟨j,h1,h,h2,h3,h4⟩
theorem jbR {α:Type}{xs:List α}{j:Nat}{v:α}(h:xs[j]?=some v):atI xs (j:Int)=some v:=by
 have hj:j < xs.length:=(List.getElem?_eq_some_iff.mp h).1
 have e:ixN xs.length (j:Int)=some j:=by
  unfold ixN
  rw [if_pos (by omega),if_pos (by omega)]; simp
 unfold atI; rw [e]; exact h
noncomputable def jeS (b:Expr):Prop:=∀ o i,subscripted b false o i=operate [o,i] (getItem o i)
noncomputable def IxR (X:Cx)(r:R2):Prop:=
 ∀ (value slice:Expr) (pins:List (Addr×Obj)) (s:Shared) (σ:St) (H:Hp) (x y:V) (v u:Value) (Q:VK),Inv X pins σ H s->RelV x v->RelV y u->r x y H Q->
  subscripted slice false v u=operate [v,u] (getItem v u)->wpAny (model X.prog X.w) X.A (subscriptTail value slice v u) (EP X pins σ Q) X.xe s
noncomputable def MtR (X:Cx)(id:String)(r:V->List V->Hp->VK->Prop):Prop:=
 ∀ (pins:List (Addr×Obj)) (s:Shared) (σ:St) (H:Hp) (x:V) (xs:List V) (v:Value) (us:List Value) (Q:VK),Inv X pins σ H s->RelV x v->Vals xs us->r x xs H Q->
  wpAny (model X.prog X.w) X.A (call (.builtin id) (v::us)) (EP X pins σ Q) X.xe s
section
variable {X:Cx}{a b:Expr}{ta tb:TE}{pos:Pos}
theorem IxR.or {r r':R2}(h:IxR X r)(h':IxR X r'):IxR X (fun x y H Q=>r x y H Q\/r' x y H Q):=by
 intro value slice pins s σ H x y v u Q I rx ry q hs
 rcases q with q | q
 ·exact h value slice pins s σ H x y v u Q I rx ry q hs
 ·exact h' value slice pins s σ H x y v u Q I rx ry q hs
theorem jmA {r:R2}(hr:IxR X r)(ha:PE X a ta)(hb:PE X b tb)(hs:jeS b):PE X (.Subscript a b pos) (tOp r ta tb):=by
 intro pins s σ H Q I h
 exact Subscript_ (binT ha hb I h fun v u s2 x y H2 I2 rx ry q=>hr a b pins s2 σ H2 x y v u Q I2 rx ry q (hs _ _))

noncomputable def rIxL (K:PySem.W.Frag):R2:=fun x y H Q=>∃ p xs i v,x=.ref p/\y=.int i/\SqL K H p xs/\atI xs i=some v/\Q v H
noncomputable def rIxT (K:PySem.W.Frag):R2:=fun x y H Q=>∃ p xs i v,x=.ref p/\y=.int i/\SqT K H p xs/\atI xs i=some v/\Q v H
noncomputable def rIxS:R2:=fun x y H Q=>∃ z i c,x=.str z/\y=.int i/\z.length<=sizeLine/\atI z.cps.toList i=some c/\Q (.str ⟨#[c]⟩) H
theorem jjd : IxR X (rIxL X.K) := by
  intro value slice pins s σ H x y v u Q I rx ry h hs
  obtain ⟨p, xs, i, z, rfl, rfl, hq, he, q⟩ := h
  cases rx
  obtain ⟨t, rfl⟩ := ry
  obtain ⟨its, r, pl, hz⟩ := I.list hq
  obtain ⟨j, h1, h2, h3, h4, h5⟩ := jeP he
  obtain ⟨w, ew, rw'⟩ := r.get h2
  have hl := r.length
  have hn := jdi
  have fin : EP X pins σ Q w s := ⟨z, H, I, rw', q⟩
  by_cases h0 : 0 <= i
  · have hj : i.toNat = j := by
      rw [seqIndex_of h0 h5] at h1
      exact Option.some.inj h1
    exact item_listR pl.isList h0 (by omega) (by rw [hj]; simpa using ew) fin hs
  · have hj : (i + (its.toArray.size : Int)).toNat = j := by
      rw [seqIndex_neg (by omega) h4] at h1
      rw [List.size_toArray, <- hl]
      exact Option.some.inj h1
    exact subscriptTail_builtinR (x := w) pl.isList.typeIs slot_list_getitem.lookup
      (wpAny_getItem_list_neg (Q := fun r s' => r = w /\ EP X pins σ Q r s') pl.isList (by omega) (by rw [List.size_toArray] <;> omega) (by omega) (by rw [hj]; simpa using ew) ⟨rfl, fin⟩) hs
theorem jk6:IxR X (rIxT X.K):=by
 intro value slice pins s σ H x y v u Q I rx ry h hs
 obtain ⟨p,xs,i,z,rfl,rfl,hq,he,q⟩:=h
 cases rx
 obtain ⟨t,rfl⟩:=ry
 obtain ⟨its,r,pl,hz⟩:=I.tuple hq
 obtain ⟨j,h1,h2,h3,h4,h5⟩:=jeP he
 obtain ⟨w,ew,rw'⟩:=r.get h2
 have hl:=r.length
 have hn:=jdi
 have fin:EP X pins σ Q w s:=⟨z,H,I,rw',q⟩
 exact subscriptTail_builtinR (x:=w) pl.typeIs slot_tuple_getitem.lookup
  (getItem_tuple (j:=j) (Q:=fun r s'=>r=w/\EP X pins σ Q r s') pl (by omega) (by omega) (by rw [List.size_toArray,<- hl]; exact h1) (by simpa using ew) ⟨rfl,fin⟩) hs
theorem jk7:IxR X rIxS:=by
 intro value slice pins s σ H x y v u Q I rx ry h hs
 obtain ⟨z,i,c,rfl,rfl,hz,he,q⟩:=h
 obtain ⟨t,rfl⟩:=rx
 obtain ⟨t',rfl⟩:=ry
 obtain ⟨j,h1,h2,h3,h4,h5⟩:=jeP he
 have hl:z.cps.toList.length=z.length:=by simp [Str.length]
 rw [hl] at h1 h4 h5
 have hn:=jdi
 exact tail_any (typeIs_str s z t) slot_str_getitem.lookup (getItem_str (c:=c) (by
  have e1:decide (i < -(2 ^ 63:Int))=false:=decide_eq_false (by omega)
  have e2:decide (i ≥ 2 ^ 63)=false:=decide_eq_false (by omega)
  rw [e1,e2,Bool.or_false]) (by rw [h1]; simpa using h2) ⟨.str ⟨#[c]⟩,H,I.tok _,⟨_,rfl⟩,q⟩) hs
noncomputable def rIx (K:PySem.W.Frag):R2:=fun x y H Q=>rIxL K x y H Q\/rIxT K x y H Q\/rIxS x y H Q
theorem jk8:IxR X (rIx X.K):=jjd.or (jk6.or jk7)

theorem jfw (its:List Value)(n j:Nat)(u:Value):Obj.mapSeq (·.setIfInBounds j u) { cls:=.type "list",data:=.seq its.toArray n }={ cls:=.type "list",data:=.seq (its.set j u).toArray n }:=by
 simp [Obj.mapSeq]
theorem Inv.lst {pins:List (Addr×Obj)}{σ:St}{H:Hp}{s:Shared}{p:Addr}{xs:List V}(I:Inv X pins σ H s)(h:H p=some (.lst xs)) :
  ∃ (its:List Value) (n:Nat),Vals xs its/\s.heap.get? p=some { cls:=.type "list",data:=.seq its.toArray n }/\xs.length<=sizeLine:=by
 obtain ⟨z,its,n,r,e⟩:=I.hok p _ h
 exact ⟨its,n,r,e,z⟩
theorem Inv.lstUpd {pins:List (Addr×Obj)}{σ:St}{H:Hp}{s:Shared}{p:Addr}{xs ys:List V}{its its':List Value}{n n':Nat}{f:Obj->Obj}(I:Inv X pins σ H s)(h:H p=some (.lst xs))
  (ho:s.heap.get? p=some { cls:=.type "list",data:=.seq its.toArray n }) (hf:f { cls:=.type "list",data:=.seq its.toArray n }={ cls:=.type "list",data:=.seq its'.toArray n' }) (r:Vals ys its') (hz:ys.length<=sizeLine) (t:Nat) :
  Inv X pins σ (upd H p (.lst ys)) { s with heap:=s.heap.update p f,toks:=t }:=by
 have e:(s.heap.update p f).get? p=some { cls:=.type "list",data:=.seq its'.toArray n' }:=by
  rw [Heap.get?_update_self f ho (by rw [hf] <;> rfl),hf]
 refine I.write (x:=p) (e:=p) (by rw [h]; trivial) (.inl rfl) (fun b u hb q=>(Heap.get?_update_other _ _ (Ne.symm hb)).trans q) ⟨_,e⟩ ?_
 exact ⟨hz,its',n',r,e⟩
noncomputable def jke:V->V->V->Hp->(Hp->Prop)->Prop:=fun o i v H Q=>∃ p xs k j,o=.ref p/\i=.int k/\H p=some (.lst xs)/\ixN xs.length k=some j/\Q (upd H p (.lst (xs.set j v)))
theorem jgS : PSet X jke := by
  intro pins s σ H o i v ov iv u Q I ro ri rv h
  obtain ⟨p, xs, k, j, rfl, rfl, hp, hj, q⟩ := h
  cases ro
  obtain ⟨t, rfl⟩ := ri
  obtain ⟨its, n, r, ho, hz⟩ := I.lst hp
  obtain ⟨h1, h2, h3, h4⟩ := jgp hj
  have hl := r.length
  have hn := jdi
  have I' : Inv X pins σ (upd H p (.lst (xs.set j v))) { s with heap := s.heap.update p (Obj.mapSeq (·.setIfInBounds j u)) } :=
    I.lstUpd hp ho (jfw its n j u) (r.set rv j) (by rw [List.length_set]; exact hz) s.toks
  by_cases h0 : 0 <= k
  · have hk : k.toNat = j := by
      rw [seqIndex_of h0 h4] at h1
      exact Option.some.inj h1
    exact PySem.W.ki_setAt ho h0 (by omega) (by rw [List.size_toArray, <- hl]; exact h4) (by rw [hk]; exact ⟨_, I', q⟩)
  · have hk : (k + (its.toArray.size : Int)).toNat = j := by
      rw [seqIndex_neg (by omega) h3] at h1
      rw [List.size_toArray, <- hl]
      exact Option.some.inj h1
    exact PySem.W.ki_setBack ho (by omega) (by rw [List.size_toArray, <- hl]; exact h3) (by omega) (by rw [hk]; exact ⟨_, I', q⟩)

theorem jdT (lo hi:Option Int)(n:Nat):(sliceBounds lo hi none n).1=((HT.sIx n 0 lo:Nat):Int)/\(sliceBounds lo hi none n).2.1=((HT.sIx n n hi:Nat):Int)/\(sliceBounds lo hi none n).2.2=1:=by
 refine ⟨?_,?_,rfl⟩
 ·cases lo with
  | none=>simp [sliceBounds,HT.sIx]
  | some i=>
   simp only [sliceBounds,HT.sIx,Option.getD_none,show (1:Int) > 0 by decide,if_true]
   by_cases h:i < 0
   ·simp only [h,if_true] <;> omega
   ·simp only [h,if_false] <;> omega
 ·cases hi with
  | none=>simp [sliceBounds,HT.sIx]
  | some i=>
   simp only [sliceBounds,HT.sIx,Option.getD_none,show (1:Int) > 0 by decide,if_true]
   by_cases h:i < 0
   ·simp only [h,if_true] <;> omega
   ·simp only [h,if_false] <;> omega
theorem jdz (its:List Value)(lo hi:Option Int):slicePick its.toArray lo hi none=((its.drop (HT.sIx its.length 0 lo)).take (HT.sIx its.length its.length hi - HT.sIx its.length 0 lo)).toArray:=by
 obtain ⟨h1,h2,h3⟩:=jdT lo hi its.toArray.size
 unfold slicePick
 rw [h1,h2,h3]
 simp only [sliceRange_one,pick_run,List.size_toArray] <;> rfl
noncomputable def rSlL (K:PySem.W.Frag):V->Option Int->Option Int->Hp->VK->Prop:=fun x lo hi H Q=>∃ a xs,x=.ref a/\SqL K H a xs/\∀ p,H p=none->Q (.ref p) (upd H p (.lst (cutV xs lo hi)))
theorem jiv:SlR X (rSlL X.K):=by
 intro pins s σ H x v vl vu lo hi sl Q I rx hs pl pu h
 obtain ⟨a,xs,rfl,hx,q⟩:=h
 cases rx
 obtain ⟨its,r,ht,hz⟩:=I.list hx
 have hlen:=r.length
 refine ⟨"list",_,slot_list_getitem.lookup,ht.isList.typeIs,?_⟩
 refine wpAny_getItem_list_slice ht.isList hs pl pu .none (by simp) ?_ (by rw [List.size_toArray] <;> omega)
 rw [jdz,<- hlen]
 refine ⟨.ref s.heap.objs.size,_,I.laid (t':=s.toks) (o:=.lst (cutV xs lo hi)) (fun b ob q=>Heap.get?_push_of_some _ q) (Nat.le_refl _) ?_,rfl,q _ (I.hok.fresh (Nat.le_refl _))⟩
 exact ⟨Nat.le_trans (jc3 xs lo hi) hz,_,0,(r.drop (HT.sIx xs.length 0 lo)).take (HT.sIx xs.length xs.length hi - HT.sIx xs.length 0 lo),Heap.get?_push_size _ rfl⟩

noncomputable def jcC:V->Bool
 | .non=>true
 | .bl _=>true
 | .int _=>true
 | .str _=>true
 | _=>false
noncomputable def eqV:V->V->Bool
 | .non,.non=>true
 | .bl a,.bl b=>a == b
 | .bl a,.int b=>(if a then 1 else 0) == b
 | .int a,.bl b=>a == (if b then 1 else 0)
 | .int a,.int b=>a == b
 | .str a,.str b=>a == b
 | _,_=>false
theorem jli {A:Around}{s:Shared}{y x:V}{u v:Value}(ry:RelV y u)(rx:RelV x v)(fy:jcC y=true)(fx:jcC x=true):SeqAt.EqAt A s u v (eqV y x):=by
 cases y with
 | non=>
  cases ry
  cases x with
  | non=>cases rx; exact SeqAt.EqAt.same _
  | bl b=>cases rx; exact SeqAt.EqAt.none_bool b
  | int b=>obtain ⟨t,rfl⟩:=rx; exact SeqAt.EqAt.none_int b t
  | str b=>obtain ⟨t,rfl⟩:=rx; exact SeqAt.EqAt.none_str b t
  | _=>exact absurd (show false=true from fx) Bool.false_ne_true
 | bl a=>
  cases ry
  cases x with
  | non=>cases rx; exact SeqAt.EqAt.bool_none a
  | bl b=>cases rx; exact SeqAt.EqAt.bool_bool a b
  | int b=>obtain ⟨t,rfl⟩:=rx; exact SeqAt.EqAt.bool_int a b t
  | str b=>obtain ⟨t,rfl⟩:=rx; exact SeqAt.EqAt.bool_str a b t
  | _=>exact absurd (show false=true from fx) Bool.false_ne_true
 | int a=>
  obtain ⟨t',rfl⟩:=ry
  cases x with
  | non=>cases rx; exact SeqAt.EqAt.int_none a t'
  | bl b=>cases rx; exact SeqAt.EqAt.int_bool a t' b
  | int b=>obtain ⟨t,rfl⟩:=rx; exact SeqAt.EqAt.int_int a t' b t
  | str b=>obtain ⟨t,rfl⟩:=rx; exact SeqAt.EqAt.int_str a t' b t
  | _=>exact absurd (show false=true from fx) Bool.false_ne_true
 | str a=>
  obtain ⟨t',rfl⟩:=ry
  cases x with
  | non=>cases rx; exact SeqAt.EqAt.str_none a t'
  | bl b=>cases rx; exact SeqAt.EqAt.str_bool a t' b
  | int b=>obtain ⟨t,rfl⟩:=rx; exact SeqAt.EqAt.str_int a t' b t
  | str b=>obtain ⟨t,rfl⟩:=rx; exact SeqAt.EqAt.str_str a t' b t
  | _=>exact absurd (show false=true from fx) Bool.false_ne_true
 | _=>exact absurd (show false=true from fy) Bool.false_ne_true
noncomputable def eqU (x:V)(u:Value):Bool:=match u with
 | .none=>eqV .non x
 | .bool b=>eqV (.bl b) x
 | .int i _=>eqV (.int i) x
 | .str z _=>eqV (.str z) x
 | _=>false
theorem jh7 {x y:V}{u:Value}(r:RelV y u)(f:jcC y=true):eqU x u=eqV y x:=by
 cases y with
 | non=>cases r; rfl
 | bl b=>cases r; rfl
 | int i=>obtain ⟨t,rfl⟩:=r; rfl
 | str z=>obtain ⟨t,rfl⟩:=r; rfl
 | _=>exact absurd (show false=true from f) Bool.false_ne_true
theorem jc7 {x:V}:∀ {xs:List V} {us:List Value},Vals xs us->xs.all jcC=true->us.any (eqU x)=xs.any fun y=>eqV y x
 | _,_,.nil,_=>rfl
 | y::xs,u::us,.cons r t,f=>by
  rw [List.all_cons,Bool.and_eq_true] at f
  rw [List.any_cons,List.any_cons,jh7 r f.1,jc7 t f.2]
theorem jb0 {A:Around}{s:Shared}{x:V}{v:Value}(rx:RelV x v)(fx:jcC x=true):∀ {xs:List V} {us:List Value},Vals xs us->xs.all jcC=true->∀ u∈us,SeqAt.EqAt A s u v (eqU x u)
 | _,_,.nil,_=>fun u hu=>by cases hu
 | y::xs,u::us,.cons r t,f=>fun u' hu=>by
  rw [List.all_cons,Bool.and_eq_true] at f
  rcases List.mem_cons.mp hu with rfl | hu
  ·rw [jh7 r f.1]; exact jli r rx f.1 fx
  ·exact jb0 rx fx t f.2 u' hu
noncomputable def inV (x:V)(xs:List V):Bool:=xs.any fun y=>eqV y x
noncomputable def rIn (K:PySem.W.Frag)(neg:Bool):R2:=fun x y H Q=>∃ p xs,y=.ref p/\(SqL K H p xs\/SqT K H p xs)/\jcC x=true/\xs.all jcC=true/\Q (.bl (if neg then !inV x xs else inV x xs)) H
theorem jf5:OpR X (compareOp .In) (rIn X.K false):=by
 intro pins s σ H x y v u Q I rx ry h
 obtain ⟨p,xs,rfl,hq,fx,fs,q⟩:=h
 cases ry
 rcases hq with hq | hq
 ·obtain ⟨its,r,pl,hz⟩:=I.list hq
  refine SeqAt.in_listAt (eqU x) pl.isList (fun w hw=>jb0 rx fx r fs w (by simpa using hw)) ⟨.bl _,H,I,rfl,?_⟩
  rw [show its.toArray.any (eqU x)=its.any (eqU x) by simp,jc7 r fs]
  exact q
 ·obtain ⟨its,r,pl,hz⟩:=I.tuple hq
  refine SeqAt.in_tupleAt (eqU x) pl (fun w hw=>jb0 rx fx r fs w (by simpa using hw)) ⟨.bl _,H,I,rfl,?_⟩
  rw [show its.toArray.any (eqU x)=its.any (eqU x) by simp,jc7 r fs]
  exact q
theorem jdY:OpR X (compareOp .NotIn) (rIn X.K true):=by
 intro pins s σ H x y v u Q I rx ry h
 obtain ⟨p,xs,rfl,hq,fx,fs,q⟩:=h
 cases ry
 rcases hq with hq | hq
 ·obtain ⟨its,r,pl,hz⟩:=I.list hq
  refine SeqAt.notIn_listAt (eqU x) pl.isList (fun w hw=>jb0 rx fx r fs w (by simpa using hw)) ⟨.bl _,H,I,rfl,?_⟩
  rw [show its.toArray.any (eqU x)=its.any (eqU x) by simp,jc7 r fs]
  exact q
 ·obtain ⟨its,r,pl,hz⟩:=I.tuple hq
  refine SeqAt.notIn_tupleAt (eqU x) pl (fun w hw=>jb0 rx fx r fs w (by simpa using hw)) ⟨.bl _,H,I,rfl,?_⟩
  rw [show its.toArray.any (eqU x)=its.any (eqU x) by simp,jc7 r fs]
  exact q
theorem jbd.or {f:Value}{r r':List V->Hp->VK->Prop}(h:jbd X f r)(h':jbd X f r'):jbd X f (fun xs H Q=>r xs H Q\/r' xs H Q):=by
 intro pins s σ H xs us Q I rs q
 rcases q with q | q
 ·exact h pins s σ H xs us Q I rs q
 ·exact h' pins s σ H xs us Q I rs q
theorem jek : jbd X (.type "list") (fun xs H Q => ∃ p ys, xs = [.ref p] /\ (SqL X.K H p ys \/ SqT X.K H p ys) /\ ∀ l, H l = none -> Q (.ref l) (upd H l (.lst ys))) := by
  intro pins s σ H xs us Q I r h
  obtain ⟨p, ys, rfl, hq, q⟩ := h
  obtain ⟨u, rfl, rx⟩ := jc8 r
  cases rx
  have fin : ∀ (its : List Value), Vals ys its -> ys.length <= sizeLine -> ∀ (h' : Heap) (c' : Nat), (∀ b o', s.heap.get? b = some o' -> h'.get? b = some o') ->
      h'.get? s.heap.objs.size = some { cls := .type "list", dict := none, data := .seq its.toArray c', slots := #[] } -> EP X pins σ Q (.ref s.heap.objs.size) { s with heap := h' } := fun its r' hz h' c' kp e =>
    ⟨.ref s.heap.objs.size, _, I.laid (t' := s.toks) kp (Nat.le_refl _) (show jaF X.prog X.w _ h' _ (.lst ys) from ⟨hz, its, c', r', e⟩), rfl, q _ (I.hok.fresh (Nat.le_refl _))⟩
  rcases hq with hq | hq
  · obtain ⟨its, r', pl, hz⟩ := I.list hq
    have hlen := r'.length
    obtain ⟨o, ho, hc, n, hd⟩ := pl.isList
    exact call_list_seq p (.inl rfl) ho hc hd (fun h' c' kp e => fin its r' hz h' c' kp e) (by simp only [List.size_toArray] <;> omega)
  · obtain ⟨its, r', pl, hz⟩ := I.tuple hq
    have hlen := r'.length
    obtain ⟨o, ho, hc, n, hd⟩ := pl
    exact call_list_seq p (.inr rfl) ho hc hd (fun h' c' kp e => fin its r' hz h' c' kp e) (by simp only [List.size_toArray] <;> omega)
theorem jdI:jbd X (.type "tuple") (fun xs H Q=>∃ p ys,xs=[.ref p]/\((SqL X.K H p ys/\∀ l,H l=none->Q (.ref l) (upd H l (.tup ys)))\/(SqT X.K H p ys/\Q (.ref p) H))):=by
 intro pins s σ H xs us Q I r h
 obtain ⟨p,ys,rfl,h⟩:=h
 obtain ⟨u,rfl,rx⟩:=jc8 r
 cases rx
 rcases h with ⟨hq,q⟩ | ⟨hq,q⟩
 ·obtain ⟨its,r',pl,hz⟩:=I.list hq
  have hlen:=r'.length
  refine call_tuple_list pl.isList (fun h' kp=>?_) (by simp only [List.size_toArray] <;> omega)
  have I1:Inv X pins σ H { s with heap:=h' }:=I.kept (t':=s.toks) kp
  have I2:Inv X pins σ (upd H h'.objs.size (.tup ys)) { s with heap:=h'.push { cls:=.type "tuple",data:=.seq its.toArray } }:=
   I1.laid (t':=s.toks) (fun b o e=>Heap.get?_push_of_some _ e) (Nat.le_refl _) (show jaF X.prog X.w _ _ _ (.tup ys) from ⟨hz,its,r',TupD.new _ _⟩)
  exact ⟨.ref h'.objs.size,_,I2,rfl,q _ (I1.hok.fresh (Nat.le_refl _))⟩
 ·obtain ⟨its,r',pl,hz⟩:=I.tuple hq
  exact call_tuple_same pl ⟨.ref p,H,I,rfl,q⟩

noncomputable def tyV (K : PySem.W.Frag)(T : String)(x : V)(H : Hp) : Prop := match x with
  | .str _ => T = "str"
  | .int _ => T = "int"
  | .ref p => (T = "list" /\ ∃ xs, SqL K H p xs) \/ (T = "tuple" /\ ∃ o, K.lookup p = some o /\ o.cls = .type "tuple" /\ o.dict = none) \/
      (T = "dict" /\ ((∃ kvs, H p = some (.dK kvs)) \/ ∃ kvs, H p = some (.dT kvs))) \/ (T = "set" /\ ∃ S n, H p = some (.set S n)) \/ (T = "tuple" /\ ∃ xs, H p = some (.tup xs))
  | _ => False
theorem jhE {pins : List (Addr × Obj)}{σ : St}{H : Hp}{s : Shared}{T : String}{x : V}{v : Value}(I : Inv X pins σ H s)(r : RelV x v)(ty : tyV X.K T x H) :
    s.TypeIs v T /\ ∀ a, v = .ref a -> ∃ ob, s.heap.get? a = some ob /\ ob.dict = none := by
  cases x with
  | str z =>
    obtain ⟨t, rfl⟩ := r
    cases (show T = "str" from ty)
    exact ⟨typeIs_str s z t, fun _ e => nomatch e⟩
  | int i =>
    obtain ⟨t, rfl⟩ := r
    cases (show T = "int" from ty)
    exact ⟨typeIs_int s i t, fun _ e => nomatch e⟩
  | ref p =>
    cases r
    rcases ty with ⟨rfl, xs, hq⟩ | ⟨rfl, o, hk, hc, hd⟩ | ⟨rfl, hk⟩ | ⟨rfl, S, n, hk⟩ | ⟨rfl, xs, hk⟩
    · obtain ⟨its, _, pl, _⟩ := I.list hq
      refine ⟨pl.isList.typeIs, fun a e => ?_⟩
      cases e
      obtain ⟨o, n, e, c, hd, _⟩ := pl
      exact ⟨o, e, hd⟩
    · refine ⟨⟨o, I.kIn p o hk, hc⟩, fun a e => ?_⟩
      cases e
      exact ⟨o, I.kIn _ o hk, hd⟩
    · have z : ∃ o, s.heap.get? p = some o /\ o.ExactDict := by
        rcases hk with ⟨kvs, hk⟩ | ⟨kvs, hk⟩
        · obtain ⟨_, _, _, _, o, _, _, e, ex, _⟩ := I.hok p _ hk
          exact ⟨o, e, ex⟩
        · obtain ⟨_, _, _, _, o, _, _, e, ex, _⟩ := I.hok p _ hk
          exact ⟨o, e, ex⟩
      obtain ⟨o, e, ex⟩ := z
      refine ⟨⟨o, e, ex.1⟩, fun a e2 => ?_⟩
      cases e2
      exact ⟨o, e, ex.2.1⟩
    · obtain ⟨o, _, _, _, e, ex, _⟩ := I.hok p _ hk
      refine ⟨⟨o, e, ex.1⟩, fun a e2 => ?_⟩
      cases e2
      exact ⟨o, e, ex.2.1⟩
    · obtain ⟨_, its, r, o, e, c, n, d, hd⟩ := (show jaF X.prog X.w H s.heap p (.tup xs) from I.hok p _ hk)
      refine ⟨⟨o, e, c⟩, fun a e2 => ?_⟩
      cases e2
      exact ⟨o, e, hd⟩
  | _ => exact False.elim ty
variable {o e:Expr}{es:List Expr}{to:TE}{t:TA}{name:Str}{apos cpos:Pos}{T id:String}{r:V->List V->Hp->VK->Prop}
end

noncomputable def MtM (X:Cx)(id:String)(r:V->List V->Hp->VK->Prop):Prop:=
 ∀ (pins:List (Addr×Obj)) (s:Shared) (σ:St) (H:Hp) (x:V) (xs:List V) (v:Value) (us:List Value) (Q:VK),Inv X pins σ H s->RelV x v->Vals xs us->r x xs H Q->
  wpAny (model X.prog X.w) X.A (call (.builtin id) (v::us)) (EP X pins σ Q) X.xe s

theorem Vals.one:∀ {x:V} {us:List Value},Vals [x] us->∃ u,us=[u]/\RelV x u
 | _,_,.cons r .nil=>⟨_,rfl,r⟩
theorem Vals.two:∀ {x y:V} {us:List Value},Vals [x,y] us->∃ u v,us=[u,v]/\RelV x u/\RelV y v
 | _,_,_,.cons r (.cons q .nil)=>⟨_,_,rfl,r,q⟩
theorem Vals.rep {xs:List V}{us:List Value}(h:Vals xs us):∀ k:Nat,Vals (List.replicate k xs).flatten (List.replicate k us).flatten
 | 0=>.nil
 | k + 1=>by
  rw [List.replicate_succ,List.replicate_succ,List.flatten_cons,List.flatten_cons]
  exact Vals.append h (Vals.rep h k)
theorem jcY (its:List Value):∀ (k:Nat) (acc:List Value),
  List.foldl (fun x1 x2=>x1++x2) acc.toArray (List.replicate k its.toArray)=(acc++(List.replicate k its).flatten).toArray
 | 0,acc=>by simp
 | k + 1,acc=>by
  have e:acc.toArray++its.toArray=(acc++its).toArray:=by simp
  have e2:(acc++its)++(List.replicate k its).flatten=acc++(List.replicate (k + 1) its).flatten:=by
   rw [List.replicate_succ,List.flatten_cons,List.append_assoc]
  rw [<- e2,<- jcY its k (acc++its),<- e,List.replicate_succ,List.foldl_cons]

section
variable {X:Cx}{pins:List (Addr×Obj)}{σ:St}{H:Hp}{s:Shared}{l b:Addr}{xs ys zs:List V}

theorem Inv.lset {its its':List Value}{n:Nat}{f:Array Value->Array Value}{t':Nat}(I:Inv X pins σ H s)(hH:H l=some (.lst xs))
  (e:s.heap.get? l=some { cls:=.type "list",data:=.seq its.toArray n }) (hf:f its.toArray=its'.toArray) (hv:Vals ys its') (hz:ys.length<=sizeLine) :
  Inv X pins σ (upd H l (.lst ys)) { s with heap:=s.heap.update l (Obj.mapSeq f),toks:=t' }:=by
 have q:=PySem.IsL.update e f
 rw [hf] at q
 refine I.write (x:=l) (e:=l) (by rw [hH]; exact trivial) (.inl rfl) (fun b' u hb hu=>(Heap.get?_update_other s.heap (Obj.mapSeq f) (Ne.symm hb)).trans hu) ⟨_,q⟩ ?_
 exact ⟨hz,its',_,hv,q⟩
theorem Inv.lnew {its:List Value}{t':Nat}(I:Inv X pins σ H s)(hv:Vals ys its)(hz:ys.length<=sizeLine) :
  Inv X pins σ (upd H s.heap.objs.size (.lst ys)) { s with heap:=s.heap.push { cls:=.type "list",data:=.seq its.toArray },toks:=t' }:=
 I.laid (fun _ _ q=>Heap.get?_push_of_some _ q) (Nat.le_refl _) ⟨hz,its,0,hv,Heap.get?_push_size _ rfl⟩
theorem Inv.fresh (I:Inv X pins σ H s):H s.heap.objs.size=none:=I.hok.fresh (Nat.le_refl _)
theorem Inv.lstM (I:Inv X pins σ H s)(hH:H l=some (.lst xs)):xs.length<=sizeLine/\∃ (its:List Value) (n:Nat),Vals xs its/\xs.length=its.length/\s.heap.get? l=some { cls:=.type "list",data:=.seq its.toArray n }:=by
 obtain ⟨z,its,n,r,e⟩:=I.hok l _ hH
 exact ⟨z,its,n,r,r.length,e⟩

theorem je4 {n:Nat}(h:n<=sizeLine):Builtin.List.listTooLong n=false:=by
 unfold Builtin.List.listTooLong
 exact decide_eq_false (by omega)
end

section
variable {X:Cx}

noncomputable def jiC:V->List V->Hp->VK->Prop:=fun x vs H Q=>∃ l xs y,x=.ref l/\vs=[y]/\H l=some (.lst xs)/\xs.length < sizeLine/\Q .non (upd H l (.lst (xs++[y])))
theorem jd5:MtM X "list.append" jiC:=by
 intro pins s σ H x vs v us Q I rx rv h
 obtain ⟨l,xs,y,rfl,rfl,hH,hz,q⟩:=h
 cases rx
 obtain ⟨u,rfl,ru⟩:=rv.one
 obtain ⟨z,its,n,r,hl,e⟩:=I.lstM hH
 refine call_meets F.slot_list_append ⟨_,e,rfl⟩ F.entry_list_append (F.args_list_append_2 _ _) (PySem.list_append l its.toArray n u (by rw [List.size_toArray]; omega)) ⟨e,?_⟩
 refine ⟨.non,_,I.lset (its':=its++[u]) hH e (by simp) (r.append (.cons ru .nil)) ?_,rfl,q⟩
 rw [List.length_append,List.length_singleton]
 omega

noncomputable def jiB:V->List V->Hp->VK->Prop:=fun x vs H Q=>∃ l b xs zs,x=.ref l/\vs=[.ref b]/\H l=some (.lst xs)/\H b=some (.lst zs)/\xs.length + zs.length<=sizeLine/\Q .non (upd H l (.lst (xs++zs)))
theorem jgh:MtM X "list.extend" jiB:=by
 intro pins s σ H x vs v us Q I rx rv h
 obtain ⟨l,b,xs,zs,rfl,rfl,hH,hB,hz,q⟩:=h
 cases rx
 obtain ⟨u,rfl,ru⟩:=rv.one
 cases ru
 obtain ⟨z,its,n,r,hl,e⟩:=I.lstM hH
 obtain ⟨z2,its2,n2,r2,hl2,e2⟩:=I.lstM hB
 have hsz:its.toArray.size + its2.toArray.size<=sizeLine:=by rw [List.size_toArray,List.size_toArray]; omega
 have hlong:¬ (!its.toArray.isEmpty && Builtin.List.listTooLong (its.toArray.size + its2.toArray.size))=true:=by
  rw [je4 hsz,Bool.and_false]
  exact Bool.false_ne_true
 refine call_meets F.slot_list_extend ⟨_,e,rfl⟩ F.entry_list_extend (F.args_list_extend_2 _ _)
  (AutoSeq1.list_extend_list_list_0 l its.toArray n b its2.toArray n2 hlong (by rw [List.size_toArray]; omega) (by omega)) ⟨e,e2,?_⟩
 refine ⟨.non,_,I.lset (its':=its++its2) hH e (by simp) (r.append r2) ?_,rfl,q⟩
 rw [List.length_append]
 omega

noncomputable def rCat:R2:=fun x y H Q=>∃ l b xs zs,x=.ref l/\y=.ref b/\H l=some (.lst xs)/\H b=some (.lst zs)/\xs.length + zs.length<=sizeLine/\∀ p,H p=none->Q (.ref p) (upd H p (.lst (xs++zs)))
theorem jkO:OpR X (binaryOp .Add) rCat:=by
 intro pins s σ H x y v u Q I rx ry h
 obtain ⟨l,b,xs,zs,rfl,rfl,hH,hB,hz,q⟩:=h
 cases rx
 cases ry
 obtain ⟨z,its,n,r,hl,e⟩:=I.lstM hH
 obtain ⟨z2,its2,n2,r2,hl2,e2⟩:=I.lstM hB
 refine PySem.P.add_list e e2 ?_ (by rw [List.size_toArray,List.size_toArray]; omega)
 have ea:its.toArray++its2.toArray=(its++its2).toArray:=by simp
 rw [ea]
 exact ⟨.ref _,_,I.lnew (t':=s.toks) (r.append r2) (by rw [List.length_append]; omega),rfl,q _ I.fresh⟩
noncomputable def rRep:R2:=fun x y H Q=>∃ l k xs,x=.ref l/\y=.int k/\H l=some (.lst xs)/\-(2 ^ 63)<=k/\k < 2 ^ 63/\xs.length * k.toNat<=sizeLine/\
 ∀ p,H p=none->Q (.ref p) (upd H p (.lst (List.replicate k.toNat xs).flatten))
theorem jgk {α:Type}(xs:List α)(k:Nat):(List.replicate k xs).flatten.length=k * xs.length:=by
 induction k with
 | zero=>simp
 | succ k ih=>rw [List.replicate_succ,List.flatten_cons,List.length_append,ih,Nat.succ_mul,Nat.add_comm]
theorem jkG:OpR X (binaryOp .Mult) rRep:=by
 intro pins s σ H x y v u Q I rx ry h
 obtain ⟨l,k,xs,rfl,rfl,hH,h1,h2,hz,q⟩:=h
 cases rx
 obtain ⟨t,rfl⟩:=ry
 obtain ⟨z,its,n,r,hl,e⟩:=I.lstM hH
 have hlen:its.toArray.size * k.toNat<=sizeLine:=by rw [List.size_toArray,<- hl]; exact hz
 have hcap:¬ its.toArray.size * k.toNat > (2 ^ 63 - 1) / 8:=by
  have:(sizeLine:Nat)<=(2 ^ 63 - 1) / 8:=by decide
  omega
 have hfit:¬ (!Builtin.List.listFitsIndex k)=true:=by
  rw [fitsIndex_both h1 h2]
  exact Bool.false_ne_true
 have hlong:¬ Builtin.List.listTooLong (its.toArray.size * k.toNat)=true:=by
  rw [je4 hlen]
  exact Bool.false_ne_true
 have hnew:List.foldl (fun x1 x2=>x1++x2) #[] (List.replicate (if its.toArray.isEmpty=true then 0 else k.toNat) its.toArray)=(List.replicate k.toNat its).flatten.toArray:=by
  have f0:∀ m:Nat,List.foldl (fun x1 x2=>x1++x2) #[] (List.replicate m its.toArray)=(List.replicate m its).flatten.toArray:=fun m=>by
   have:=jcY its m []
   rw [List.nil_append] at this
   exact this
  rw [f0]
  cases its with
  | nil=>simp
  | cons a r'=>rw [if_neg (by simp)]
 refine wpAny_binaryOp_repeat_ref (T := "list") (U := "int") (by decide) ⟨_,e,rfl⟩ (fun s'=>typeIs_int s' k t) noFill_list_mul F.fills_int_mul F.slot_int_rmul repeat_list F.slot_int_index.lookup
  (call_meets F.slot_int_rmul (typeIs_int s k t) F.entry_int_rmul (F.args_int_rmul_2 _ _) (int___rmul___int_list k t l its.toArray n)
   ⟨e,rfl,⟨_,e,rfl⟩,call_meets F.slot_list_mul ⟨_,e,rfl⟩ F.entry_list_mul (F.args_list_mul_2 _ _) (AutoListH.list___mul___list_int_3 l its.toArray n k t hfit hcap hlong) ⟨e,?_⟩⟩)
 rw [hnew]
 exact ⟨.ref _,_,I.lnew (t':=s.toks) (r.rep k.toNat) (by rw [jgk,Nat.mul_comm]; exact hz),rfl,q _ I.fresh⟩

end

section
variable {prog:Program}{w:World}{A:Around}{E:Value->Shared->Prop}{s:Shared}
end

section
variable {X:Cx}
end

section
variable {κ:Type}[DecidableEq κ]
noncomputable def valV (kvs:List (κ×V))(k:κ):Option V:=(kvs.find? fun kv=>decide (kv.1=k)).map (·.2)
noncomputable def putK (kvs:List (κ×V))(k:κ)(v:V):List (κ×V):=
 if (kvs.any fun kv=>decide (kv.1=k))=true then kvs.map (fun kv=>if kv.1=k then (kv.1,v) else kv) else kvs++[(k,v)]
noncomputable def jn5 (kvs:List (κ×V))(k:κ):List (κ×V):=kvs.filter fun kv=>decide (kv.1≠k)

theorem jcD {p:κ×V}{r:List (κ×V)}{k:κ}(e:p.1=k):valV (p::r) k=some p.2:=by simp [valV,List.find?_cons,e]
theorem jcE {p:κ×V}{r:List (κ×V)}{k:κ}(e:¬ p.1=k):valV (p::r) k=valV r k:=by simp [valV,List.find?_cons,e]
theorem jeW (k:κ):∀ kvs:List (κ×V),(kvs.any fun kv=>decide (kv.1=k))=(valV kvs k).isSome
 | []=>rfl
 | p::r=>by
  rw [List.any_cons]
  by_cases e:p.1=k
  ·simp only [jcD e,decide_eq_true e,Bool.true_or,Option.isSome_some]
  ·rw [jcE e,decide_eq_false e,Bool.false_or]; exact jeW k r
theorem jbP (kvs:List (κ×V))(k:κ)(v:V):(putK kvs k v).length<=kvs.length + 1:=by
 unfold putK
 split
 ·rw [List.length_map]; omega
 ·rw [List.length_append,List.length_cons,List.length_nil]; omega
theorem RelO.isSome_eq {o:Option V}{u:Option Value}(r:RelO o u):o.isSome=u.isSome:=by
 cases o with
 | none=>cases u with
  | none=>rfl
  | some _=>exact (show False from r).elim
 | some _=>cases u with
  | none=>exact (show False from r).elim
  | some _=>rfl
theorem KV.val {kvs:List (κ×V)}{vs:List (κ×Value)}(r:KV kvs vs)(k:κ):RelO (valV kvs k) (valueAt vs k):=by
 unfold KV at r
 induction r with
 | nil=>exact True.intro
 | @cons p q ps qs h t ih=>
  obtain ⟨h1,h2⟩:=h
  by_cases e:p.1=k
  ·have e':q.1=k:=h1.symm.trans e
   have b:valueAt (q::qs) k=some q.2:=by simp [valueAt,List.find?_cons,e']
   rw [jcD e,b]; exact h2
  ·have e':¬ q.1=k:=fun z=>e (h1.trans z)
   have b:valueAt (q::qs) k=valueAt qs k:=by simp [valueAt,List.find?_cons,e']
   rw [jcE e,b]; exact ih
theorem KV.any {kvs:List (κ×V)}{vs:List (κ×Value)}(r:KV kvs vs)(k:κ):(kvs.any fun kv=>decide (kv.1=k))=vs.any fun kv=>decide (kv.1=k):=by
 unfold KV at r
 induction r with
 | nil=>rfl
 | cons h t ih=>rw [List.any_cons,List.any_cons,ih,h.1]
theorem KV.repl {kvs:List (κ×V)}{vs:List (κ×Value)}(r:KV kvs vs)(k:κ){y:V}{u:Value}(ry:RelV y u) :
  KV (kvs.map fun kv=>if kv.1=k then (kv.1,y) else kv) (vs.map fun kv=>if kv.1=k then (kv.1,u) else kv):=by
 unfold KV at r ⊢
 induction r with
 | nil=>exact .nil
 | @cons p q ps qs h t ih=>
  rw [List.map_cons,List.map_cons]
  refine .cons ?_ ih
  obtain ⟨h1,h2⟩:=h
  by_cases e:p.1=k
  ·rw [if_pos e,if_pos (h1.symm.trans e)]; exact ⟨h1,ry⟩
  ·rw [if_neg e,if_neg (fun z=>e (h1.trans z))]; exact ⟨h1,h2⟩
theorem KV.put {kvs:List (κ×V)}{vs:List (κ×Value)}(r:KV kvs vs)(k:κ){y:V}{u:Value}(ry:RelV y u):KV (putK kvs k y) (stored vs k u):=by
 unfold putK stored
 rw [r.any k]
 by_cases e:(vs.any fun kv=>decide (kv.1=k))=true
 ·rw [if_pos e,if_pos e]; exact r.repl k ry
 ·rw [if_neg e,if_neg e]; exact Paired.snoc r ⟨rfl,ry⟩
theorem KV.length {kvs:List (κ×V)}{vs:List (κ×Value)}(r:KV kvs vs):kvs.length=vs.length:=Paired.length r
end

theorem jfy {P:Program}{w:World}{k:Key}{u:Value}(r:RelV (kV k) u):(jap P w).is k u=true:=by
 cases k with
 | inl i=>obtain ⟨t,e⟩:=(show ∃ t,u=Value.int i t from r); subst e; exact jeD P w i t
 | inr x=>obtain ⟨t,e⟩:=(show ∃ t,u=Value.str x t from r); subst e; exact jeC P w x t
theorem jd8 {P:Program}{w:World}:∀ {ks:List Key} {us:List Value},Vals (ks.map kV) us->ItemsAre (jap P w) ks us
 | [],_,r=>by rw [List.map_nil] at r; cases r; exact .nil
 | k::ks,_,r=>by
  rw [List.map_cons] at r
  cases r with
  | cons h t=>exact .cons (jfy h) (jd8 t)

noncomputable abbrev KT (H:Hp):List (List Key×V)->List (List Key×Addr×Value)->Prop:=Paired fun p q=>p.1=q.1/\H q.2.1=some (.tup (p.1.map kV))/\RelV p.2 q.2.2
theorem KT.val {H:Hp}{kvs:List (List Key×V)}{xs:List (List Key×Addr×Value)}(r:KT H kvs xs)(k:List Key):RelO (valV kvs k) ((atKey xs k).map (·.2)):=by
 induction r with
 | nil=>exact True.intro
 | @cons p q ps qs h t ih=>
  obtain ⟨h1,_,h2⟩:=h
  by_cases e:p.1=k
  ·have e':q.1=k:=h1.symm.trans e
   have b:atKey (q::qs) k=some q.2:=by simp [atKey,List.find?_cons,e']
   rw [jcD e,b]; exact h2
  ·have e':¬ q.1=k:=fun z=>e (h1.trans z)
   have b:atKey (q::qs) k=atKey qs k:=by simp [atKey,List.find?_cons,e']
   rw [jcE e,b]; exact ih
theorem KT.repl {H:Hp}{kvs:List (List Key×V)}{xs:List (List Key×Addr×Value)}(r:KT H kvs xs)(k:List Key){y:V}{u:Value}(ry:RelV y u) :
  KT H (kvs.map fun kv=>if kv.1=k then (kv.1,y) else kv) (xs.map (putAt k u)):=by
 induction r with
 | nil=>exact .nil
 | @cons p q ps qs h t ih=>
  rw [List.map_cons,List.map_cons]
  refine .cons ?_ ih
  obtain ⟨h1,h2,h3⟩:=h
  unfold putAt
  by_cases e:p.1=k
  ·rw [if_pos e,if_pos (h1.symm.trans e)]; exact ⟨h1,h2,ry⟩
  ·rw [if_neg e,if_neg (fun z=>e (h1.trans z))]; exact ⟨h1,h2,h3⟩
theorem KT.put {H:Hp}{kvs:List (List Key×V)}{xs:List (List Key×Addr×Value)}(r:KT H kvs xs)(k:List Key){b:Addr}{y:V}{u:Value}(hb:H b=some (.tup (k.map kV)))(ry:RelV y u) :
  KT H (putK kvs k y) (storedH xs k b u):=by
 have e:(kvs.any fun kv=>decide (kv.1=k))=(atKey xs k).isSome:=by
  rw [jeW,(r.val k).isSome_eq,Option.isSome_map]
 unfold putK storedH
 rw [e]
 by_cases q:(atKey xs k).isSome=true
 ·rw [if_pos q,if_pos q]; exact r.repl k ry
 ·rw [if_neg q,if_neg q]; exact Paired.snoc r ⟨rfl,hb,ry⟩
theorem KT.keeps {H H':Hp}{kvs:List (List Key×V)}{xs:List (List Key×Addr×Value)}(r:KT H kvs xs)(ht:∀ b ys,H b=some (.tup ys)->H' b=some (.tup ys)):KT H' kvs xs:=
 Paired.mapP r fun _ _ z=>⟨z.1,ht _ _ z.2.1,z.2.2⟩

section
variable {P:Program}{w:World}{H:Hp}{h:Heap}{a:Addr}
theorem jkd {u:HO}(ok:HOk P w H h)(e:Rd H a u):jaF P w H h a u:=e.ok ok
theorem jfD {kvs:List (Key×V)}(ok:HOk P w H h)(e:Rd H a (.dK kvs)):kvs.length<=sizeLine/\(a == sysModules)=false/\∃ vs,KV kvs vs/\h.DictOf (jap P w) a vs:=
 show jaF P w H h a (.dK kvs) from jkd ok e
theorem jll {kvs:List (Key×V)}(ok:HOk P w H h)(e:H a=some (.dK kvs)):kvs.length<=sizeLine/\(a == sysModules)=false/\∃ vs,KV kvs vs/\h.DictOf (jap P w) a vs:=jfD ok (.inl e)
theorem jd7 {ks:List Key}(ok:HOk P w H h)(e:H a=some (.tup (ks.map kV))):(tupleKind (jap P w)).is h ks a:=by
 obtain ⟨_,its,r,o,h1,h2,n,h3,_⟩:=(show jaF P w H h a (.tup (ks.map kV)) from ok a _ e)
 exact ⟨o,its.toArray,n,h1,h2,h3,by simpa using jd8 r⟩
theorem jgA {kvs:List (List Key×V)}(ok:HOk P w H h)(e:Rd H a (.dT kvs)):kvs.length<=sizeLine/\(a == sysModules)=false/\
  ∃ xs,KT H kvs xs/\h.DictOfH (tupleKind (jap P w)) a xs:=by
 obtain ⟨z,y,xs,r,o,es,ep,h1,h2,h3,h4,h5⟩:=(show jaF P w H h a (.dT kvs) from jkd ok e)
 refine ⟨z,y,xs,r,o,es,ep,h1,h2,h3,h4,fun x hx=>?_,h5⟩
 have all:∀ {l:List (List Key×V)} {m:List (List Key×Addr×Value)},KT H l m->∀ x∈m,(tupleKind (jap P w)).is h x.1 x.2.1:=by
  intro l m q
  induction q with
  | nil=>intro x hx; exact nomatch hx
  | @cons p q ps qs hq t ih=>
   intro x hx
   rcases List.mem_cons.mp hx with e | hx
   ·subst e
    exact jd7 ok (by rw [<- hq.1]; exact hq.2.1)
   ·exact ih x hx
 exact all r x hx
theorem jm0 {kvs:List (List Key×V)}(ok:HOk P w H h)(e:H a=some (.dT kvs)):kvs.length<=sizeLine/\(a == sysModules)=false/\
  ∃ xs,KT H kvs xs/\h.DictOfH (tupleKind (jap P w)) a xs:=jgA ok (.inl e)
end

noncomputable def DGet (H:Hp)(a:Addr)(y:V)(r:Option V):Prop:=
 (∃ kvs k,Rd H a (.dK kvs)/\y=kV k/\r=valV kvs k)\/∃ kvs k b,Rd H a (.dT kvs)/\y=.ref b/\H b=some (.tup (k.map kV))/\r=valV kvs k
noncomputable def DPut (H:Hp)(a:Addr)(y v:V)(H':Hp):Prop:=
 (∃ kvs k,H a=some (.dK kvs)/\y=kV k/\kvs.length < sizeLine/\H'=upd H a (.dK (putK kvs k v)))\/
 ∃ kvs k b,H a=some (.dT kvs)/\y=.ref b/\H b=some (.tup (k.map kV))/\kvs.length < sizeLine/\H'=upd H a (.dT (putK kvs k v))
theorem DGet.k {H:Hp}{a:Addr}{kvs:List (Key×V)}{k:Key}(e:H a=some (.dK kvs)):DGet H a (kV k) (valV kvs k):=.inl ⟨kvs,k,.inl e,rfl,rfl⟩
theorem DGet.t {H:Hp}{a b:Addr}{kvs:List (List Key×V)}{k:List Key}(e:H a=some (.dT kvs))(eb:H b=some (.tup (k.map kV))):DGet H a (.ref b) (valV kvs k):=.inr ⟨kvs,k,b,.inl e,rfl,eb,rfl⟩
theorem DPut.k {H:Hp}{a:Addr}{kvs:List (Key×V)}{k:Key}{v:V}(e:H a=some (.dK kvs))(hl:kvs.length < sizeLine):DPut H a (kV k) v (upd H a (.dK (putK kvs k v))):=.inl ⟨kvs,k,e,rfl,hl,rfl⟩
theorem DPut.t {H:Hp}{a b:Addr}{kvs:List (List Key×V)}{k:List Key}{v:V}(e:H a=some (.dT kvs))(eb:H b=some (.tup (k.map kV)))(hl:kvs.length < sizeLine) :
  DPut H a (.ref b) v (upd H a (.dT (putK kvs k v))):=.inr ⟨kvs,k,b,e,rfl,eb,hl,rfl⟩

section
variable {X:Cx}{pins:List (Addr×Obj)}{σ:St}{H:Hp}{s:Shared}{a:Addr}{y v:V}{u r:Value}{o:Option V}{A:Around}{E:Value->Shared->Prop}

theorem Inv.big (I:Inv X pins σ H s):sysModules < s.heap.objs.size:=by
 have h:mainGlobals < s.heap.objs.size:=(I.mod.glob.keeps I.bk).lt
 exact Nat.lt_trans (by decide) h

theorem jgF {Q:Value->Shared->Prop}(hu:A.units + 1 < cLine)(I:Inv X pins σ H s)(g:DGet H a y (some v))(ry:RelV y u)(h:∀ w' s',Inv X pins σ H s'->RelV v w'->Q w' s') :
  wpAny (model X.prog X.w) A (getItem (.ref a) u) Q E s:=by
 rcases g with ⟨kvs,k,e,ey,l⟩ | ⟨kvs,k,b,e,ey,eb,l⟩
 ·subst ey
  obtain ⟨z,hd,vs,rel,dd⟩:=jfD I.hok e
  obtain ⟨w',hw,rw'⟩:=RelO.some_of (v:=v) (o:=valueAt vs k) (by rw [l]; exact rel.val k)
  exact wpAny_getItem_of (jfy ry) dd.mapOf hw (h w' _ (I.tok _) rw')
 ·subst ey
  cases (show u=Value.ref b from ry)
  obtain ⟨z,hd,xs,rel,dd⟩:=jgA I.hok e
  obtain ⟨w',hw,rw'⟩:=RelO.some_of (v:=v) (o:=(atKey xs k).map (·.2)) (by rw [l]; exact rel.val k)
  obtain ⟨p,hp,hp2⟩:=Option.map_eq_some_iff.mp hw
  refine wpAny_getItem_heap (tupleKind_room_in1 hu) (jd7 I.hok eb) dd hp ?_
  rw [hp2]
  exact h w' _ (I.tok _) rw'
theorem d_in {Q:Value->Shared->Prop}(hu:A.units + 1 < cLine)(I:Inv X pins σ H s)(g:DGet H a y o)(ry:RelV y u)(h:∀ s',Inv X pins σ H s'->Q (.bool o.isSome) s') :
  wpAny (model X.prog X.w) A (compareOp .In u (.ref a)) Q E s:=by
 rcases g with ⟨kvs,k,e,ey,l⟩ | ⟨kvs,k,b,e,ey,eb,l⟩
 ·subst ey
  obtain ⟨z,hd,vs,rel,dd⟩:=jfD I.hok e
  refine wpAny_in_of (jfy ry) hd dd.mapOf ?_
  rw [<- (rel.val k).isSome_eq,<- l]
  exact h _ (I.tok _)
 ·subst ey
  cases (show u=Value.ref b from ry)
  obtain ⟨z,hd,xs,rel,dd⟩:=jgA I.hok e
  refine wpAny_in_heap (tupleKind_room_in1 hu) (jd7 I.hok eb) hd dd ?_
  have q:=(rel.val k).isSome_eq
  rw [Option.isSome_map] at q
  rw [<- q,<- l]
  exact h _ (I.tok _)
theorem jjx {Q:Value->Shared->Prop}(hu:A.units + 1 < cLine)(I:Inv X pins σ H s)(g:DGet H a y o)(ry:RelV y u)(h:∀ s',Inv X pins σ H s'->Q (.bool (!o.isSome)) s') :
  wpAny (model X.prog X.w) A (compareOp .NotIn u (.ref a)) Q E s:=by
 rcases g with ⟨kvs,k,e,ey,l⟩ | ⟨kvs,k,b,e,ey,eb,l⟩
 ·subst ey
  obtain ⟨z,hd,vs,rel,dd⟩:=jfD I.hok e
  refine wpAny_notIn_of (jfy ry) hd dd.mapOf ?_
  rw [<- (rel.val k).isSome_eq,<- l]
  exact h _ (I.tok _)
 ·subst ey
  cases (show u=Value.ref b from ry)
  obtain ⟨z,hd,xs,rel,dd⟩:=jgA I.hok e
  refine wpAny_notIn_heap (tupleKind_room_in1 hu) (jd7 I.hok eb) hd dd ?_
  have q:=(rel.val k).isSome_eq
  rw [Option.isSome_map] at q
  rw [<- q,<- l]
  exact h _ (I.tok _)
theorem jeM {h':Heap}{t':Nat}{ob:HO}(I:Inv X pins σ H s)(mu:Mut (H a))(hs:Heap.SameBut a s.heap h')(he:∃ q,h'.get? a=some q)(new:jaF X.prog X.w (upd H a ob) h' a ob) :
  Inv X pins σ (upd H a ob) { s with heap:=h',toks:=t' }:=
 I.write (x:=a) (e:=a) mu (.inl rfl) (fun b q hb z=>(hs.2 b hb).trans z) he new
theorem jh9 {P:Program}{w:World}{H':Hp}{h':Heap}{kvs:List (Key×V)}{vs:List (Key×Value)}(z:kvs.length<=sizeLine)(hd:(a == sysModules)=false)(rel:KV kvs vs)(dd:h'.DictOf (jap P w) a vs) :
  jaF P w H' h' a (.dK kvs):=⟨z,hd,vs,rel,dd⟩
theorem jgE {H':Hp}{Q:Unit->Shared->Prop}(hu:A.units + 1 < cLine)(I:Inv X pins σ H s)(g:DPut H a y v H')(ry:RelV y u)(rv:RelV v r)(h:∀ s',Inv X pins σ H' s'->Q () s') :
  wpAny (model X.prog X.w) A (setItem (.ref a) u r) Q E s:=by
 rcases g with ⟨kvs,k,e,ey,l,eH⟩ | ⟨kvs,k,b,e,ey,eb,l,eH⟩
 ·subst ey eH
  obtain ⟨z,hd,vs,rel,dd⟩:=jll I.hok e
  have hz:vs.length<=sizeLine:=by rw [<- rel.length]; exact z
  have hl:(putK kvs k v).length<=sizeLine:=by have:=jbP kvs k v; omega
  refine wpAny_setItem_pairs (hsz:=hz) (jfy ry) dd fun h' dd' hs=>h _ ?_
  have he:∃ q,h'.get? a=some q:=let ⟨q,_,_,hq,_⟩:=dd'; ⟨q,hq⟩
  exact jeM I (by rw [e]; exact True.intro) hs he (jh9 hl hd (rel.put k rv) dd')
 ·subst ey eH
  cases (show u=Value.ref b from ry)
  obtain ⟨z,hd,xs,rel,dd⟩:=jm0 I.hok e
  have hz:xs.length<=sizeLine:=by rw [<- Paired.length rel]; exact z
  have hl:(putK kvs k v).length<=sizeLine:=by have:=jbP kvs k v; omega
  refine wpAny_setItem_heap (hsz:=hz) (tupleKind_room_in1 hu) (jd7 I.hok eb) dd fun h' dd' hs=>h _ ?_
  obtain ⟨q,es,ep,hq,h2,h3,h4,_,h5⟩:=dd'
  refine jeM I (by rw [e]; exact True.intro) hs ⟨q,hq⟩ ⟨hl,hd,_,(rel.put k eb rv).keeps fun c ys ec=>?_,q,es,ep,hq,h2,h3,h4,h5⟩
  rw [jaf (jmK ec e (fun z=>nomatch z))]
  exact ec
end

section
variable {X:Cx}{pins:List (Addr×Obj)}{σ:St}{H:Hp}{s:Shared}{a:Addr}{kvs:List (Key×V)}{k:Key}{u:Value}{A:Around}{E:Value->Shared->Prop}
theorem jm1 {Q:Value->Shared->Prop}(I:Inv X pins σ H s)(e:Rd H a (.dK kvs))(h:∀ t s',Inv X pins σ H s'->Q (.int kvs.length t) s'):wpAny (model X.prog X.w) A (call (.builtin "len") [.ref a]) Q E s:=by
 obtain ⟨z,hd,vs,rel,dd⟩:=jfD I.hok e
 refine call_len_dict hd dd (by rw [<- rel.length]; rw [sizeLine_eq] at z; omega) ?_
 rw [<- rel.length]
 exact h _ _ (I.tok _)
end

theorem jeL {X:Cx}{pins:List (Addr×Obj)}{σ:St}{H:Hp}{s:Shared}{a:Addr}{y:V}{o:Option V}(I:Inv X pins σ H s)(g:DGet H a y o):s.TypeIs (.ref a) "dict" := by
 rcases g with ⟨kvs,k,e,_,_⟩ | ⟨kvs,k,b,e,_,_,_⟩
 ·obtain ⟨_,_,vs,_,dd⟩:=jfD I.hok e
  exact dd.typeIs
 ·obtain ⟨_,_,xs,_,dd⟩:=jgA I.hok e
  exact dd.typeIs
section
variable {X:Cx}{o i e value:Expr}{pos pos' tpos:Pos}{td ty tv:TE}
end

theorem jfd {P:Program}{w:World}{H:Hp}(h:Heap)(hb:sysModules < h.objs.size):jaF P w H (h.push { cls:=.type "dict",data:=.dict #[] }) h.objs.size (.dK []):=
 ⟨Nat.zero_le _,beq_eq_false_iff_ne.mpr (Ne.symm (Nat.ne_of_lt hb)),[],.nil,Heap.DictOf.new h⟩
noncomputable def jjX:TE:=fun _ H Q=>∀ p,H p=none->Q (.ref p) (upd H p (.dK []))
section
variable {X:Cx}{pos:Pos}
theorem jha:PE X (.Dict [] [] pos) jjX:=fun pins s σ H Q I h=>
 wpAny_Dict_empty ⟨.ref s.heap.objs.size,_,I.laid (a:=s.heap.objs.size) (o:=.dK []) (t':=s.toks) (fun _ _ q=>Heap.get?_push_of_some _ q) (Nat.le_refl _) (jfd s.heap I.big),rfl,h _ (I.hok.fresh (Nat.le_refl _))⟩
end

noncomputable def je0:List (TE×TE)->St->Hp->(List (V×V)->Hp->Prop)->Prop
 | [],_,H,Q=>Q [] H
 | (tk,tv)::r,σ,H,Q=>tk σ H fun x H1=>tv σ H1 fun y H2=>je0 r σ H2 fun ps H3=>Q ((x,y)::ps) H3
noncomputable abbrev VV:List (V×V)->List (Value×Value)->Prop:=Paired fun p q=>RelV p.1 q.1/\RelV p.2 q.2
noncomputable def PPs (X:Cx)(pos:Pos)(keys:List (Option Expr))(values:List Expr)(trs:List (TE×TE)):Prop:=
 ∀ (pins:List (Addr×Obj)) (s:Shared) (σ:St) (H:Hp) (Q:List (V×V)->Hp->Prop),Inv X pins σ H s->je0 trs σ H Q->
  wpAny (model X.prog X.w) X.A (evalPairs (pairTrees keys values X.env pos)) (fun vs s'=>∃ ps H',Inv X pins σ H' s'/\VV ps vs/\Q ps H') X.xe s
theorem jiG {X:Cx}{pos:Pos}:PPs X pos [] [] []:=fun pins s σ H Q I h=>pairTrees_nil_walk ⟨[],H,I,.nil,h⟩
theorem jg3 {X:Cx}{pos:Pos}{k v:Expr}{ks:List (Option Expr)}{vs:List Expr}{tk tv:TE}{trs:List (TE×TE)}(hk:PE X k tk)(hv:PE X v tv)(hr:PPs X pos ks vs trs) :
  PPs X pos (some k::ks) (v::vs) ((tk,tv)::trs):=fun pins s σ H Q I h=>
 pairTrees_cons_walk (thn (hk pins s σ H _ I h) fun u s1 ⟨x,H1,I1,rx,q1⟩=>thn (hv pins s1 σ H1 _ I1 q1) fun w2 s2 ⟨y,H2,I2,ry,q2⟩=>
  thn (hr pins s2 σ H2 _ I2 q2) fun ws s3 ⟨ps,H3,I3,rel,q3⟩=>⟨(x,y)::ps,H3,I3,.cons ⟨rx,ry⟩ rel,q3⟩)

noncomputable def jcT (kvs more:List (Key×V)):List (Key×V):=more.foldl (fun acc kv=>putK acc kv.1 kv.2) kvs
theorem KV.merge:∀ {more:List (Key×V)} {rs:List (Key×Value)} {kvs:List (Key×V)} {vs:List (Key×Value)},KV more rs->KV kvs vs->KV (jcT kvs more) (merged vs rs):=by
 intro more rs kvs vs r
 unfold KV at r
 induction r generalizing kvs vs with
 | nil=>intro q; exact q
 | @cons p q ps qs h t ih=>
  intro r0
  have e:KV (putK kvs p.1 p.2) (stored vs q.1 q.2):=by
   have:=r0.put p.1 h.2
   rw [<- h.1]; exact this
  exact ih e
theorem jb2:∀ (more kvs:List (Key×V)),(jcT kvs more).length<=kvs.length + more.length
 | [],kvs=>by show kvs.length<=kvs.length + 0; omega
 | p::r,kvs=>by
  have h1:=jb2 r (putK kvs p.1 p.2)
  have h2:=jbP kvs p.1 p.2
  show (jcT (putK kvs p.1 p.2) r).length<=_
  rw [List.length_cons]; omega
theorem jdu {P:Program}{w:World}:∀ {kvs:List (Key×V)} {ws:List (Value×Value)},VV (kvs.map fun kv=>(kV kv.1,kv.2)) ws->∃ rs,Carries (jap P w) ws rs/\KV kvs rs
 | [],_,r=>by rw [List.map_nil] at r; cases r; exact ⟨[],True.intro,.nil⟩
 | p::kvs,_,r=>by
  rw [List.map_cons] at r
  cases r with
  | @cons a b as bs h t=>
   obtain ⟨rs,c,q⟩:=jdu (P:=P) (w:=w) t
   obtain ⟨b1,b2⟩:=b
   exact ⟨(p.1,b2)::rs,⟨jfy h.1,rfl,c⟩,.cons ⟨rfl,h.2⟩ q⟩
noncomputable def jmk (trs:List (TE×TE)):TE:=fun σ H Q=>∀ p,H p=none->je0 trs σ (upd H p (.dK [])) fun ps H2=>H2 p=some (.dK [])/\∃ kvs:List (Key×V),ps=kvs.map (fun kv=>(kV kv.1,kv.2))/\kvs.length<=15/\Q (.ref p) (upd H2 p (.dK (jcT [] kvs)))
theorem jiR {X:Cx}{pos:Pos}{keys:List (Option Expr)}{values:List Expr}{trs:List (TE×TE)}(h:PPs X pos keys values trs)(hall:keys.all (·.isSome)=true)(hl:keys.length=values.length)(h0:keys≠[])
  (h15:keys.length<=15):PE X (.Dict keys values pos) (jmk trs):=by
 intro pins s σ H Q I q
 have hn:=I.hok.fresh (Nat.le_refl s.heap.objs.size)
 have I1:=I.laid (a:=s.heap.objs.size) (o:=.dK []) (h':=s.heap.push { cls:=.type "dict",data:=.dict #[] }) (t':=s.toks) (fun _ _ q=>Heap.get?_push_of_some _ q) (Nat.le_refl _) (jfd s.heap I.big)
 refine wpAny_Dict_walk (knd:=jap X.prog X.w) hall hl h0 h15 (thn (h pins _ σ _ _ I1 (q _ hn)) fun ws s2 ⟨ps,H2,I2,rel,e,kvs,ep,lk,q2⟩=>?_)
 subst ep
 obtain ⟨rs,c,rk⟩:=jdu (P:=X.prog) (w:=X.w) rel
 obtain ⟨z,hd,vs0,r0,dd⟩:=jll I2.hok e
 cases r0
 refine ⟨rs,c,dd,fun h' dd' hs=>⟨.ref s.heap.objs.size,_,?_,rfl,q2⟩⟩
 have hz:(jcT [] kvs).length<=sizeLine:=by
  have h1:=jb2 kvs []
  rw [List.length_nil] at h1
  rw [sizeLine_eq]; omega
 have he:∃ q,h'.get? s.heap.objs.size=some q:=let ⟨q,_,_,hq,_⟩:=dd'; ⟨q,hq⟩
 exact jeM I2 (by rw [e]; exact True.intro) hs he (jh9 hz hd (rk.merge .nil) dd')

structure M1 (X:Cx)(o:Expr)(m:Str)(apos:Pos)(e:Expr)(cpos:Pos):Prop where
 base:attributeBase o m X.env (eval o X.env)=eval o X.env
 few:((backTo cpos (starEach [e] X.env)).all (fun x=>!x.1) && (backToKw cpos (keywordEach [] X.env)).all (fun x=>x.1.isSome)
  && decide (([e]:List Expr).length + ([]:List Keyword).length + (if ([]:List Keyword).isEmpty then 0 else 1) < 30))=true
 line:(apos.endLine == cpos.line)=true
 trees:backTo cpos (starEach [e] X.env)=[(false,eval e X.env)]
structure M2 (X:Cx)(o:Expr)(m:Str)(apos:Pos)(e f:Expr)(cpos:Pos):Prop where
 base:attributeBase o m X.env (eval o X.env)=eval o X.env
 few:((backTo cpos (starEach [e,f] X.env)).all (fun x=>!x.1) && (backToKw cpos (keywordEach [] X.env)).all (fun x=>x.1.isSome)
  && decide (([e,f]:List Expr).length + ([]:List Keyword).length + (if ([]:List Keyword).isEmpty then 0 else 1) < 30))=true
 line:(apos.endLine == cpos.line)=true
 trees:backTo cpos (starEach [e,f] X.env)=[(false,eval e X.env),(false,eval f X.env)]

section
variable {X:Cx}{pins:List (Addr×Obj)}{σ:St}{H:Hp}{s:Shared}{a:Addr}{y d:V}{u r:Value}{o:Option V}{A:Around}{E:Value->Shared->Prop}
end

section
variable {X:Cx}{o e f:Expr}{apos cpos:Pos}{td ty tx:TE}
end

section
variable {X:Cx}{pins:List (Addr×Obj)}{σ:St}{H:Hp}{s:Shared}{a:Addr}{kvs:List (Key×V)}{A:Around}{E:Value->Shared->Prop}
end

section
variable {X:Cx}{pins:List (Addr×Obj)}{σ:St}{H:Hp}{s:Shared}{a:Addr}{y:V}{u:Value}{A:Around}{E:Value->Shared->Prop}
end
end L2

namespace Att
open PySem PySem.W PySem.Calls PyProof.Rows

theorem jcW {P:Params}{h:Heap}:∀ (ns:List Int) (vs:List Value),WellAll P h vs (ns.map WData.int)->IntsAre vs ns:=by
 intro ns
 induction ns with
 | nil=>
  intro vs w
  rw [List.map_nil] at w
  cases w
  exact .nil
 | cons n ns ih=>
  intro vs w
  rw [List.map_cons] at w
  cases w with
  | cons a b=>
   cases a
   exact .cons _ _ (ih _ b)

theorem jfV {l:OpenLaw}{n:Nat}(hn:l.most=some n){P:Params}{h:Heap}{args:List WData}{vals:List Value}
  (hpre:l.row.toRowW.claim.pre args=true) (hwl:WellAll P h vals args) :
  ∃ a vs ns,vals=[Value.ref a]/\args=[WData.list (ns.map WData.int)]/\h.get? a=some { cls:=.type "list",data:=.seq vs.toArray }/\IntsAre vs ns/\ns.length<=n:=by
 have hsh:WShape.hasAll [] args [.list .int]=true:=(pre_splitW hpre).1
 have hc:l.pre.holds [] { args:=args }=true:=(pre_splitW hpre).2
 obtain ⟨d,r,rfl,h1,h2⟩:=hasAllW_cons hsh
 obtain rfl:=hasAllW_nil h2
 obtain ⟨xs,rfl,h3⟩:=hasW_list h1
 obtain ⟨ns,rfl⟩:=items_int h3
 have hlen:ns.length<=n:=by
  unfold OpenLaw.pre at hc
  have h4:(WTm.not (.lt (.lit (.int (n:Int))) (.len (.arg 0)))).holds [] { args:=[.list (ns.map .int)] }=true:=by
   have h4:=(holds_andW hc).1
   rw [hn] at h4
   exact h4
  have h5:=condW_of h4 (w_not (w_lt w_lit (w_len_list (w_arg rfl))))
  rw [List.length_map] at h5
  refine Nat.le_of_not_lt fun q=>?_
  have q':(n:Int) < ((ns.length:Nat):Int):=by omega
  first
   | (rw [decide_eq_true q'] at h5; exact absurd h5 (by decide))
   | (simp at h5; omega)
 cases hwl with
 | cons w1 w2=>
  cases w2
  cases w1 with
  | list ho hall=>exact ⟨_,_,ns,rfl,rfl,ho,jcW ns _ hall,hlen⟩

theorem jfZ (l:OpenLaw)(args:List WData):l.row.toRowW.claim.post args (.bool true) args=true:=
 postW_of (r:=l.row.toRowW) (X:=(true == true))
  (show WShape.has [] (.bool true) .bool=true by first | rfl | decide | simp [WShape.has,WShape.arms,WShape.armsAll])
  (show (WTm.eq .res (.lit (.bool true))).value [] { args:=args,res:=some (.bool true),after:=args }=some (.bool (true == true)) from w_eq_bool (w_res rfl) w_lit) rfl

theorem attach_call {l:OpenLaw}{n:Nat}{q:Program}{loose:List Str}{XP:(Str->Option Value)->Heap->Prop}{YP:World->Heap->Prop}{d:DefRec}
  (hn:l.most=some n) (hdf:d.params.defaults=[])
  (call:∀ (w:World) (s₀ s₁:Shared) (mg mb:Str->Option Value) (fa:Addr) (o:Obj) (pm cd doc:Value) (a:Addr) (vs:List Value) (ns:List Int),
   Ground q loose [] XP w s₀ mg mb s₁.heap->YP w s₁.heap->
   s₁.heap.get? fa=some o->o.data=.func (docDef d.name d.params d.body d.scope pm cd doc)->s₁.heap.CodeRec cd d.name->mg d.name=some (.ref fa)->
   s₁.heap.get? a=some { cls:=.type "list",data:=.seq vs.toArray }->IntsAre vs ns->ns.length<=n->s₁.gens=#[]->
   codeAny (model l.prog w) callerA (.call (.ref fa) ⟨[.ref a],[]⟩) (fun r s'=>r=.ok (.ret (.bool true))/\OldK s₁.heap s'.heap/\s'.os=s₁.os/\AllBare s'.gens) s₁) :
  WalkO q loose XP YP l.row.toRowW d [] (fun f vs=>PySem.call f vs):=by
 intro w s₀ s₁ mg mb G Y fa o pm cd doc dV kV ho hd hcd hD hmg hg args vals as hpre hlay hrd hwl hlo
 obtain rfl:dV=.none:=Dflts.none hD hdf
 obtain rfl:kV=.none:=Dflts.noKw hD
 obtain ⟨a,vs,ns,rfl,rfl,hobj,hints,hlen⟩:=jfV hn hpre hwl
 refine enter_call (codeAny_mono (call w s₀ s₁ mg mb fa o pm cd doc a vs ns G Y ho (fd_plain hd) hcd hmg hobj hints hlen hg) fun r s' hq=>?_)
 obtain ⟨rfl,h2,h3,h4⟩:=hq
 exact ⟨.inl ⟨.bool true,.bool true,[],rfl,fun _=>rfl,.bool true,jfZ l _,fun _=>⟨List.Pairwise.nil,fun _ hm=>(nomatch hm)⟩⟩,h2,h3,h4⟩

section
variable {prog:Program}{w:World}{A:Around}{E:Value->Shared->Prop}{s:Shared}{K:Frag}

end
end Att

namespace L2
open PySem PySem.Spec PyProof.Rows

theorem jdJ:∀ {vs:List Value} {ns:List Int},IntsAre vs ns->Vals (ns.map V.int) vs
 | _,_,.nil=>.nil
 | _,_,.cons n t h=>.cons ⟨t,rfl⟩ (jdJ h)

noncomputable def Only (H:Hp):Prop:=∀ b,H b=none\/∃ o xs,H b=some (.frz o (.lst xs))

theorem law_call {P : Program}{w : World}{K : PySem.W.Frag}{mg mb : Str -> Option Value}{CX : CXT}{k : Nat}{fa a : Addr}{fd : FuncData}{x : Str}{sp : Sp}{s₁ : Shared}{vs : List Value}{ns : List Int}
    (KX : K.In s₁.heap) (hsys : ∃ o, K.lookup sysModules = some o /\ o.cls = .type "dict") (hns : s₁.heap.Ns mainGlobals mg) (hb : s₁.heap.Ns builtinsNs mb) (hbb : ∀ x : Str, x ≠ "__name__" -> mb x = bootBuiltins x) (hlim : s₁.heap.NoLimit) (hg : s₁.gens = #[])
    (ha : s₁.heap.get? a = some { cls := .type "list", data := .seq vs.toArray }) (hi : IntsAre vs ns) (hl : ns.length <= sizeLine) (hr : Room k callerA)
    (F : ∀ base : Heap, K.In base -> base.Ns mainGlobals mg -> FnOk P w K mg base CX k fa fd [x] sp) (hbind : ∀ (s : Shared) (u : Value), BindsTo s fd ⟨[u], []⟩ [(x, u)])
    (hsp : ∀ H : Hp, Only H -> SqL K H a (ns.map V.int) -> sp [.ref a] H (fun v _ => v = .bl true) fun _ _ _ => False)
    (hCX : ∀ H e s', CX [] H s₁ (fun _ _ _ => False) e s' -> False) :
    codeAny (model P w) callerA (.call (.ref fa) ⟨[.ref a], []⟩) (fun r s' => r = .ok (.ret (.bool true)) /\ OldK s₁.heap s'.heap /\ s'.os = s₁.os /\ AllBare s'.gens) s₁ := by
  have rv := jdJ hi
  have lenV := hi.length
  have core : ∀ H : Hp, Only H -> SqL K H a (ns.map V.int) -> HOk P w H s₁.heap -> (∀ b, H b ≠ none -> b = a) -> (H a ≠ none -> K.lookup a = none) ->
      codeAny (model P w) callerA (.call (.ref fa) ⟨[.ref a], []⟩) (fun r s' => r = .ok (.ret (.bool true)) /\ OldK s₁.heap s'.heap /\ s'.os = s₁.os /\ AllBare s'.gens) s₁ := by
    intro H hO hS hok hA hK
    have jc6 : ∀ {b : Addr} {o : Obj}, s₁.heap.get? b = some o -> H b = none -> (hidT s₁.heap H).get? b = some o := fun e n => jhl e n
    have noA : ∀ {b : Addr} {o : Obj} {es : Array DictEntry} {ep : Nat}, s₁.heap.get? b = some o -> o.data = .dict es ep -> H b = none := fun {b o es ep} e d => by
      cases q : H b with
      | none => rfl
      | some u =>
        have e' : b = a := hA b (by rw [q]; simp)
        subst e'
        rw [ha] at e; cases e
        have d' : Data.seq vs.toArray _ = Data.dict es ep := d
        cases d'
    have nsK : ∀ {b : Addr} {m : Str -> Option Value}, s₁.heap.Ns b m -> (hidT s₁.heap H).Ns b m := fun {b m} ⟨o, es, ep, e, d, r⟩ => ⟨o, es, ep, jc6 e (noA e d), d, r⟩
    have hKb : K.In (hidT s₁.heap H) := fun b o e => jc6 (KX b o e) (by
      cases q : H b with
      | none => rfl
      | some u =>
        have e' : b = a := hA b (by rw [q]; simp)
        subst e'
        rw [hK (by rw [q]; simp)] at e; cases e)
    have hM : Mod K mg (hidT s₁.heap H) := ⟨hKb, nsK hns, ⟨mb, nsK hb, hbb⟩, let ⟨mc, h1, h2⟩ := hlim; ⟨mc, nsK h1, h2⟩, hsys⟩
    have e0 : Env0 P w K mg (hidT s₁.heap H) callerA [] s₁ H := ⟨rfl, hM, fun b o e => ji6 e, Nat.le_of_eq (jgv _ _), trivial, fun b hb => absurd (show b ∈ ([] : List Addr) from hb) (by simp), hok, .of_eq hg⟩
    refine codeAny_mono ((F _ hKb (nsK hns)).run callerA [] s₁ H ⟨[.ref a], []⟩ [.ref a] [.ref a] _ _ hr e0 (hbind s₁ (.ref a)) (.cons rfl .nil) (hsp H hO hS)) fun r s' h => ?_
    cases r with
    | error e => exact (hCX H e s' h).elim
    | ok fl =>
      cases fl with
      | next => exact False.elim h
      | brk => exact False.elim h
      | cont => exact False.elim h
      | ret u =>
        obtain ⟨v, H', os, bare, un, hok', r', q⟩ := h
        have q' : v = .bl true := q
        subst q'
        obtain rfl : u = Value.bool true := r'
        refine ⟨rfl, OldK.of_keep fun b o e => ?_, os, bare⟩
        cases q : H b with
        | none => exact un.keep b o e q (by intro z; exact absurd (show b ∈ ([] : List Addr) from z) (by simp)) (by simp)
        | some u =>
          rcases hO b with z | ⟨ob, xs, z⟩
          · rw [q] at z; cases z
          · have z2 := un.frzs b ob _ z
            obtain ⟨e1, _⟩ := hok b _ z
            obtain ⟨e2, _⟩ := hok' b _ z2
            rw [e] at e1; cases e1
            exact e2
  cases hk : K.lookup a with
  | some o =>
    have e := KX a o hk
    rw [ha] at e
    cases e
    refine core (fun _ => none) (fun _ => .inl rfl) (.inr ⟨_, vs.toArray, _, hk, rfl, rfl, rfl, by rw [List.size_toArray, lenV]; exact hl, by simpa using rv⟩) (fun b u z => by have z' : (none : Option HO) = some u := z; cases z') (fun b z => absurd rfl z) fun z => absurd rfl z
  | none =>
    refine core (fun b => if b = a then some (.frz { cls := .type "list", data := .seq vs.toArray } (.lst (ns.map V.int))) else none) (fun b => ?_) (.inl (.inr ⟨{ cls := .type "list", data := .seq vs.toArray }, if_pos rfl⟩)) (fun b u z => ?_) (fun b z => ?_) fun _ => hk
    · by_cases hb : b = a
      · exact .inr ⟨_, _, if_pos hb⟩
      · exact .inl (if_neg hb)
    · by_cases hb : b = a
      · have z' := (if_pos hb).symm.trans z
        cases z'
        subst hb
        exact ⟨ha, by rw [List.length_map]; exact hl, vs, _, rv, ha⟩
      · have z' := (if_neg hb).symm.trans z
        cases z'
    · by_cases hb : b = a
      · exact hb
      · exact absurd (if_neg hb) z

theorem walk_of {l:PySem.W.OpenLaw}{n k:Nat}{q:Program}{loose:List Str}{XP:(Str->Option Value)->Heap->Prop}{YP:World->Heap->Prop}{d:DefRec}{K:Params->PySem.W.Frag}{CX:World->CXT}{sp:World->Sp}{x:Str}
  (hn:l.most=some n) (hn2:n<=sizeLine) (hdf:d.params.defaults=[]) (hr:Room k callerA)
  (hY:∀ (w:World) (h:Heap),YP w h->(K w.params).In h) (hsy:∀ w:World,∃ o,(K w.params).lookup sysModules=some o/\o.cls=.type "dict")
  (F:∀ (w:World) (mg:Str->Option Value) (fa:Addr) (h:Heap),(K w.params).In h->h.Ns mainGlobals mg->mg d.name=some (.ref fa)->
   ∃ fd:FuncData,(∀ (s:Shared) (u:Value),BindsTo s fd ⟨[u],[]⟩ [(x,u)])/\
    ∀ base:Heap,(K w.params).In base->base.Ns mainGlobals mg->FnOk l.prog w (K w.params) mg base (CX w) k fa fd [x] (sp w))
  (hsp:∀ (w:World) (H:Hp) (a:Addr) (ns:List Int),ns.length<=n->Only H->SqL (K w.params) H a (ns.map V.int)->sp w [.ref a] H (fun v _=>v=.bl true) fun _ _ _=>False)
  (hCX:∀ (w:World) (H:Hp) (s:Shared) (e:Value) (s':Shared),CX w [] H s (fun _ _ _=>False) e s'->False) :
  PySem.W.WalkO q loose XP YP l.row.toRowW d [] (fun f vs=>PySem.call f vs):=by
 refine Att.attach_call hn hdf fun w s₀ s₁ mg mb fa o pm cd doc a vs ns G Y ho hd hcd hmg hobj hints hlen hg=>?_
 have KX:=hY w _ Y
 obtain ⟨fd,hb,hF⟩:=F w mg fa _ KX G.T.g hmg
 exact law_call KX (hsy w) G.T.g G.T.b G.T.builtins G.T.nolimit hg hobj hints (Nat.le_trans hlen hn2) hr hF hb (fun H hO hS=>hsp w H a ns hlen hO hS) fun H e s'=>hCX w H s₁ e s'

def defArgs (s:Stmt):Arguments:=match s with
 | .FunctionDef _ a _ _ _ _ _ _ _ _=>a
 | _=>{ posonlyargs:=[],args:=[],vararg:=none,kwonlyargs:=[],kw_defaults:=[],kwarg:=none,defaults:=[] }
def defBody (s:Stmt):List Stmt:=match s with
 | .FunctionDef _ _ b _ _ _ _ _ _ _=>b
 | _=>[]
def defScope (s:Stmt):Scope:=match s with
 | .FunctionDef _ _ _ _ _ _ sc _ _ _=>sc
 | _=>{ kind:=.function,names:=[],isGenerator:=false,isCoroutine:=false }

noncomputable abbrev CX0:CXT:=fun _ _ _ _ _ _=>False
noncomputable abbrev E0:XK:=fun _ _ _=>False
structure Fun (K:PySem.W.Frag)(x qual:Str)(st:Stmt)(f:Addr)(fd:FuncData):Prop where
 ex:∃ (oc:Value) (od:Option Addr) (kV doc pm:Value) (an:Option Addr) (cdv ct:Value) (osl:Array (Option Value)),
  fd=PySem.W.fnOf x qual (defArgs st) (defBody st) (defScope st) .none kV doc pm an cdv ct/\K.lookup f=some ⟨oc,od,.func fd,osl⟩/\PySem.W.codeIn K cdv qual=true
 kp:PySem.W.keepIn K (.ref f)=true
section
variable {P:Program}{w:World}{K:PySem.W.Frag}{mg:Str->Option Value}{base:Heap}
theorem Fun.binds {x qual:Str}{st:Stmt}{f:Addr}{fd:FuncData}{ps:List Str}(F:Fun K x qual st f fd)
  (h:∀ (kV doc pm:Value) (an:Option Addr) (cdv ct:Value) (us:List Value),us.length=ps.length->bindArgs (PySem.W.fnOf x qual (defArgs st) (defBody st) (defScope st) .none kV doc pm an cdv ct) ⟨us,[]⟩=pure (ps.zip us)):Binds K fd ps []:=by
 obtain ⟨oc,od,kV,doc,pm,an,cdv,ct,osl,rfl,lk,hcd⟩:=F.ex
 exact .all (h kV doc pm an cdv ct)
theorem jam {x qual:Str}{st:Stmt}{f:Addr}{oc:Value}{od an:Option Addr}{osl:Array (Option Value)}{kV doc pm cdv ct:Value}(l:K.lookup f=some ⟨oc,od,.func (PySem.W.fnOf x qual (defArgs st) (defBody st) (defScope st) .none kV doc pm an cdv ct),osl⟩)
  (c:PySem.W.codeIn K cdv qual=true) (k:PySem.W.keepIn K (.ref f)=true):Fun K x qual st f (PySem.W.fnOf x qual (defArgs st) (defBody st) (defScope st) .none kV doc pm an cdv ct):=⟨⟨oc,od,kV,doc,pm,an,cdv,ct,osl,rfl,l,c⟩,k⟩
end
theorem jmT {A:Around}{k:Nat}(hr:Room k A):A.units + 1 < cLine:=Nat.lt_of_le_of_lt (Nat.add_le_add_left (by decide:1<=64) _) hr.units
section
variable {X:Cx}
end

noncomputable def Same (H H':Hp):Prop:=∀ b o,H b=some o->H' b=some o
section
variable {X:Cx}
theorem jgK:jbd X (.builtin "len") (fun xs H Q=>∃ a kvs,xs=[V.ref a]/\H a=some (.dK kvs)/\Q (.int kvs.length) H):=by
 intro pins s σ H xs us Q I r h
 obtain ⟨a,kvs,rfl,ha,q⟩:=h
 obtain ⟨u,rfl,ru⟩:=jc8 r
 cases ru
 exact jm1 I (.inl ha) fun t s' I'=>⟨.int kvs.length,H,I',⟨t,rfl⟩,q⟩
end
section
variable {κ:Type}[DecidableEq κ]
end
end L2

namespace L2
open PySem PySem.Spec PyProof.Rows
set_option maxHeartbeats 4000000

section
variable {prog:Program}{w:World}{A:Around}{R:Result->Shared->Prop}{s:Shared}
noncomputable def jex (env:Env)(ifs:List Expr):Sem Bool:=forIn ifs true fun c r=>ite (r=true) (isTrue c env (eval c env) >>= fun b=>pure (.yield b)) (pure (.yield r))
noncomputable def jcQ (ip:Pos)(tg:Expr)(ifs:List Expr)(it:Value)(env:Env)(em:Sem Unit)(next:Code):Sem Fin:=
 standAt ip >>= fun _=>pyNext it >>= fun r=>match r with
  | none=>pure (.done .next)
  | some v=>letOwnedTupleGo tg it v >>= fun _=>assign tg env v >>= fun _=>jex env ifs >>= fun ok=>ite (ok=true) (em >>= fun _=>again next) (again next)
noncomputable def jip (M:Model)(A:Around)(tg:Expr)(ifs:List Expr)(it:Value)(env:Env)(em:Sem Unit)(fin:Shared->Prop)(less:Shared->Prop):Option Value->Shared->Prop
 | none,s=>fin s
 | some v,s=>wpAny M A (letOwnedTupleGo tg it v) (fun _ s=>wpAny M A (assign tg env v) (fun _ s=>wpAny M A (jex env ifs) (fun ok s=>if ok=true then wpAny M A em (fun _ s=>less s) (fun _ _=>False) s else less s) (fun _ _=>False) s) (fun _ _=>False) s) (fun _ _=>False) s
theorem jeh {elt:Expr}{gens:List Comprehension}{scope:Scope}{pos:Pos}{dp:Nat}{target:Expr}{ip:Pos}{ifs:List Expr}{it acc:Value}{env:Env}{em:Sem Unit}(I:Nat->Shared->Prop)
  (hct:compTurn (.ListComp elt gens scope pos) dp it acc env=jcQ ip target ifs it env em (.compLoop (.ListComp elt gens scope pos) dp it acc env))
  (turn:∀ k t,I k t->wpAny (model prog w) A (pyNext it) (jip (model prog w) A target ifs it env em (R (.ok .next)) fun t=>∃ m,m < k/\I m t) (fun _ _=>False) t)
  (n:Nat) (h:I n s):codeAny (model prog w) A (.compLoop (.ListComp elt gens scope pos) dp it acc env) R s:=by
 have no:∀ {Z:Value->Shared->Prop} (e:Value) (t:Shared),False->Z e t:=fun _ _ f=>f.elim
 refine codeAny_loop rfl I (fun k t hk=>wpAny_noted (m:=compTurn (.ListComp elt gens scope pos) dp it acc env) (hct ▸ ?_)) n h
 refine wpAny_bind (wpAny_standAt (wpAny_bind (wpAny_mono (turn k t hk) (fun r t1 p=>?_) no)))
 match r,p with
 | none,p=>exact wpAny_pure p
 | some v,p=>
  refine wpAny_bind (wpAny_mono p (fun _ t2 p=>wpAny_bind (wpAny_mono p (fun _ t3 p=>wpAny_bind (wpAny_mono p (fun ok t4 p=>?_) no)) no)) no)
  match ok,p with
  | false,p=>exact wpAny_pure ⟨rfl,p⟩
  | true,p=>exact wpAny_bind (wpAny_mono p (fun _ t5 p=>wpAny_pure ⟨rfl,p⟩) no)
end

theorem jby (env:Env):∀ (names:List (Str×NameKind)) (acc:List (Str×Addr)),(∀ y∈names,y.2=.free->∃ c,env.cells.lookup y.1=some c)->
  ∃ cl:List (Str×Addr),(forIn names acc (fun (y:Str×NameKind) (cs:List (Str×Addr))=>(if (y.2 == NameKind.free)=true then (do let c <- cellOf env y.1; pure (ForInStep.yield ((y.1,c)::cs))) else pure (ForInStep.yield cs):Sem (ForInStep (List (Str×Addr))))):Sem (List (Str×Addr)))=pure cl/\
   (∀ x c,(x,c)∈cl->(x,c)∈acc\/(env.cells.lookup x=some c/\(x,NameKind.free)∈names))/\(∀ p∈acc,p∈cl)/\(∀ y∈names,y.2=.free->∃ c,(y.1,c)∈cl)
 | [],acc,_=>⟨acc,rfl,fun _ _ h=>.inl h,fun _ h=>h,fun _ h=>nomatch h⟩
 | (n,k)::r,acc,h=>by
  by_cases hk:k=.free
  ·subst hk
   obtain ⟨c,hc⟩:=h (n,.free) List.mem_cons_self rfl
   obtain ⟨cl,e,h1,h2,h3⟩:=jby env r ((n,c)::acc) fun y hy=>h y (List.mem_cons_of_mem _ hy)
   refine ⟨cl,?_,fun x d hd=>?_,fun p hp=>h2 p (List.mem_cons_of_mem _ hp),fun y hy hf=>?_⟩
   ·rw [List.forIn_cons]
    have:(cellOf env n:Sem Addr)=pure c:=by unfold cellOf; rw [hc]
    simp only [beq_self_eq_true,if_true,this,pure_bind]
    exact e
   ·rcases h1 x d hd with z | ⟨z,z'⟩
    ·rcases List.mem_cons.mp z with z | z
     ·cases z; exact .inr ⟨hc,List.mem_cons_self⟩
     ·exact .inl z
    ·exact .inr ⟨z,List.mem_cons_of_mem _ z'⟩
   ·rcases List.mem_cons.mp hy with z | z
    ·subst z; exact ⟨c,h2 _ List.mem_cons_self⟩
    ·exact h3 y z hf
  ·obtain ⟨cl,e,h1,h2,h3⟩:=jby env r acc fun y hy=>h y (List.mem_cons_of_mem _ hy)
   have hb:(k == NameKind.free)=false:=by simpa using hk
   refine ⟨cl,?_,fun x d hd=>?_,h2,fun y hy hf=>?_⟩
   ·rw [List.forIn_cons]
    simp only [hb,Bool.false_eq_true,if_false,pure_bind]
    exact e
   ·rcases h1 x d hd with z | ⟨z,z'⟩
    ·exact .inl z
    ·exact .inr ⟨z,List.mem_cons_of_mem _ z'⟩
   ·rcases List.mem_cons.mp hy with z | z
    ·subst z; exact absurd hf hk
    ·exact h3 y z hf
theorem jb1 {β:Type}:∀ {l:List (Str×β)} {x:Str} {c:β},(x,c)∈l->∃ d,l.lookup x=some d/\(x,d)∈l
 | (n,k)::r,x,c,h=>by
  cases hx:x == n with
  | true=>
   refine ⟨k,by simp only [List.lookup_cons,hx],?_⟩
   rw [eq_of_beq hx]; exact List.mem_cons_self
  | false=>
   rcases List.mem_cons.mp h with z | z
   ·cases z; simp at hx
   ·obtain ⟨d,e,m⟩:=jb1 z
    exact ⟨d,by simp only [List.lookup_cons,hx]; exact e,List.mem_cons_of_mem _ m⟩
theorem jdt {scope:Scope}{env:Env}(h:∀ y∈scope.names,y.2=.free->∃ c,env.cells.lookup y.1=some c) :
  ∃ cl:List (Str×Addr),closureFor scope env=pure cl/\(∀ x c,cl.lookup x=some c->env.cells.lookup x=some c)/\(∀ y∈scope.names,y.2=.free->∃ c,cl.lookup y.1=some c):=by
 obtain ⟨cl,e,h1,_,h3⟩:=jby env scope.names [] h
 refine ⟨cl,?_,fun x c hx=>?_,fun y hy hf=>?_⟩
 ·unfold closureFor
  rw [<- e]
  simp only [bind_pure]
 ·rcases h1 x c (PySem.mem_of_lookup hx) with z | ⟨z,_⟩
  ·exact nomatch z
  ·exact z
 ·obtain ⟨c,hc⟩:=h3 y hy hf
  obtain ⟨d,e,_⟩:=jb1 hc
  exact ⟨d,e⟩

noncomputable def jaj (X:Cx)(N:List Str)(scope:Scope)(cl:List (Str×Addr))(C:Addr)(s₀:Shared)(H₀:Hp)(fp:List Addr):Cx where
 prog:=X.prog
 w:=X.w
 K:=X.K
 mg:=X.mg
 base:=X.base
 A:=X.A
 N:=N
 s₀:=s₀
 H₀:=H₀
 env:=compEnvC scope cl C X.env
 outer:=X.stack
 stack:=X.stack
 ex:=fp
 fn:=fun x=>scope.names.lookup x == some .cell
 calm:=X.calm
 pn:=[]
 xe:=fun _ _=>False

noncomputable def cOk (oN:List Str)(on:List (Str×NameKind))(N:List Str)(pick:List (Option Nat))(scope:Scope):Bool:=
 decide (scope.kind=.function) && scope.names.all (fun y=>y.2 != .cell || scope.names.lookup y.1 == some .cell) && scope.names.all (fun y=>y.2 != .local || scope.names.lookup y.1 == some .local)
  && scope.names.all (fun y=>y.2 != .free || (scope.names.lookup y.1 == some .free && (on.lookup y.1 == some .cell || on.lookup y.1 == some .free)))
  && pick.length == N.length && (N.zip pick).all (fun p=>match p.2 with | none=>true | some j=>oN[j]? == some p.1 && scope.names.lookup p.1 == some .free)

structure CScope (X:Cx)(N:List Str)(pick:List (Option Nat))(scope:Scope):Prop where
 kind:scope.kind=.function
 cells:∀ y∈scope.names,y.2=.cell->scope.names.lookup y.1=some .cell
 names:∀ y∈scope.names,y.2=.local->scope.names.lookup y.1=some .local
 fre:∀ y∈scope.names,y.2=.free->scope.names.lookup y.1=some .free/\(X.env.kindOf y.1=some .cell\/X.env.kindOf y.1=some .free)
 len:pick.length=N.length
 caps:∀ (i j:Nat) (x:Str),N[i]?=some x->pick[i]?=some (some j)->X.N[j]?=some x/\scope.names.lookup x=some .free
theorem jcu (f:Str->NameKind->NameKind):∀ (names:List (Str×NameKind)) (x:Str),(names.map fun y=>(y.1,f y.1 y.2)).lookup x=(names.lookup x).map (f x)
 | [],_=>rfl
 | (n,k)::r,x=>by
  rw [List.map_cons,List.lookup_cons,List.lookup_cons,jcu f r x]
  by_cases e:x=n
  ·subst e; rw [beq_self_eq_true]; rfl
  ·rw [beq_false_of_ne e]
noncomputable def jh1 (env:Env)(n:Str)(k:NameKind):NameKind:=if (k == NameKind.free && env.scope.kind == .function && env.kindOf n == some .cell) then .cell else k
theorem jbX (env:Env)(names:List (Str×NameKind))(x:Str) :
  (names.map fun (n,k)=>if (k == NameKind.free && env.scope.kind == .function && env.kindOf n == some .cell) then (n,NameKind.cell) else (n,k)).lookup x=(names.lookup x).map (jh1 env x):=by
 rw [<- jcu (jh1 env)]
 congr 2
 funext y
 show ite _ _ _=(y.1,ite _ _ _)
 split <;> rfl
theorem ja0 {env:Env}{names:List (Str×NameKind)}{x:Str}(h:names.lookup x=some .free) :
  (names.map fun (n,k)=>if (k == NameKind.free && env.scope.kind == .function && env.kindOf n == some .cell) then (n,NameKind.cell) else (n,k)).lookup x=some .cell\/
  (names.map fun (n,k)=>if (k == NameKind.free && env.scope.kind == .function && env.kindOf n == some .cell) then (n,NameKind.cell) else (n,k)).lookup x=some .free:=by
 rw [jbX,h]
 show some (ite _ _ _)=_\/some (ite _ _ _)=_
 split
 ·exact .inl rfl
 ·exact .inr rfl
theorem jay {env:Env}{q:NameKind}(hq:q≠.free){names:List (Str×NameKind)}{x:Str}(h:names.lookup x=some q) :
  (names.map fun (n,k)=>if (k == NameKind.free && env.scope.kind == .function && env.kindOf n == some .cell) then (n,NameKind.cell) else (n,k)).lookup x=some q:=by
 rw [jbX,h]
 show some (ite _ _ _)=_
 rw [beq_false_of_ne hq]
 rfl
theorem jbp {env:Env}:∀ {names:List (Str×NameKind)} {x:Str},
  ((names.map fun (n,k)=>if (k == NameKind.free && env.scope.kind == .function && env.kindOf n == some .cell) then (n,NameKind.cell) else (n,k)).lookup x=some .cell\/
  (names.map fun (n,k)=>if (k == NameKind.free && env.scope.kind == .function && env.kindOf n == some .cell) then (n,NameKind.cell) else (n,k)).lookup x=some .free)->(x,NameKind.free)∈names\/(x,NameKind.cell)∈names
 | [],_,h=>by simp at h
 | (n,k)::r,x,h=>by
  have ih:_->_:=@jbp env r x
  have h':List.lookup x ((if (k == NameKind.free && env.scope.kind == .function && env.kindOf n == some .cell)=true then (n,NameKind.cell) else (n,k))::r.map fun (n,k)=>if (k == NameKind.free && env.scope.kind == .function && env.kindOf n == some .cell) then (n,NameKind.cell) else (n,k))=some .cell\/List.lookup x ((if (k == NameKind.free && env.scope.kind == .function && env.kindOf n == some .cell)=true then (n,NameKind.cell) else (n,k))::r.map fun (n,k)=>if (k == NameKind.free && env.scope.kind == .function && env.kindOf n == some .cell) then (n,NameKind.cell) else (n,k))=some .free:=h
  by_cases hk:k=.free
  ·cases hx:x == n with
   | true=>rw [eq_of_beq hx,hk]; exact .inl List.mem_cons_self
   | false=>
    refine (ih ?_).imp (List.mem_cons_of_mem _) (List.mem_cons_of_mem _)
    by_cases hcc:(k == NameKind.free && env.scope.kind == .function && env.kindOf n == some .cell)=true
    ·rw [if_pos hcc] at h'; simpa only [List.lookup_cons,hx] using h'
    ·rw [if_neg hcc] at h'; simpa only [List.lookup_cons,hx] using h'
  ·have hb:(k == NameKind.free)=false:=by simpa using hk
   rw [if_neg (by simp [hb])] at h'
   cases hx:x == n with
   | true=>
    simp only [List.lookup_cons,hx] at h'
    rcases h' with z | z
    ·rw [eq_of_beq hx,Option.some.inj z]; exact .inr List.mem_cons_self
    ·exact absurd (Option.some.inj z) hk
   | false=>exact (ih (by simpa only [List.lookup_cons,hx] using h')).imp (List.mem_cons_of_mem _) (List.mem_cons_of_mem _)

theorem jaE:∀ (names:List (Str×NameKind)) (n:Nat) (acc:List (Str×Addr)),cellsFrom n names acc=cellsFrom n names []++acc
 | [],_,_=>rfl
 | (x,k)::r,n,acc=>by
  unfold cellsFrom
  split
  ·rw [jaE r (n + 1) ((x,n)::acc),jaE r (n + 1) [(x,n)],List.append_assoc]; rfl
  ·exact jaE r n acc
theorem jaW:∀ (names:List (Str×NameKind)) (n:Nat) {x:Str} {c:Addr},(x,c)∈cellsFrom n names []->(x,NameKind.cell)∈names
 | [],_,_,_,h=>nomatch h
 | (y,k)::r,n,x,c,h=>by
  unfold cellsFrom at h
  split at h
  ·rename_i hk
   rw [jaE] at h
   rcases List.mem_append.mp h with h | h
   ·exact List.mem_cons_of_mem _ (jaW r _ h)
   ·have e:(x,c)=(y,n):=by simpa using h
    cases e
    rw [eq_of_beq hk]; exact List.mem_cons_self
  ·exact List.mem_cons_of_mem _ (jaW r _ h)
theorem jdh {β:Type}:∀ (l m:List (Str×β)) (x:Str),(l++m).lookup x=(l.lookup x).or (m.lookup x)
 | [],_,_=>by simp
 | (n,k)::r,m,x=>by
  rw [List.cons_append,List.lookup_cons,List.lookup_cons]
  cases hx:x == n with
  | true=>simp
  | false=>exact jdh r m x
structure BCells (scope:Scope)(cl cs:List (Str×Addr))(lo:Nat)(h:Heap):Prop where
 lk:∀ x c,cs.lookup x=some c->((x,NameKind.cell)∈scope.names/\lo < c/\h.IsCell c none)\/((x,NameKind.cell)∉scope.names/\cl.lookup x=some c)
 own:∀ x,scope.names.lookup x=some .cell->∃ c,cs.lookup x=some c/\lo < c
 old:∀ x c,(x,NameKind.cell)∉scope.names->cl.lookup x=some c->cs.lookup x=some c
 inj:∀ x y c,cs.lookup x=some c->cs.lookup y=some c->lo < c->x=y
theorem jgM {scope:Scope}{cl:List (Str×Addr)}{h:Heap}{lo:Nat}(hl:h.objs.size=lo + 1)(S:∀ y∈scope.names,y.2=.cell->scope.names.lookup y.1=some .cell)(hcl:∀ x c,cl.lookup x=some c->c<=lo):BCells scope cl (cellsFrom (lo + 1) scope.names cl) lo (pushCells h scope.names):=by
 have ok:=cellsFrom_ok scope.names h (lo + 1) [] ⟨fun _ _ hm=>(nomatch hm),List.Pairwise.nil⟩ (by omega)
 rw [hl] at ok
 have look:∀ x,(cellsFrom (lo + 1) scope.names cl).lookup x=((cellsFrom (lo + 1) scope.names []).lookup x).or (cl.lookup x):=fun x=>by rw [jaE,jdh]
 have own:∀ x,(x,NameKind.cell)∈scope.names->∃ c,(cellsFrom (lo + 1) scope.names []).lookup x=some c:=fun x hx=>jdH (S _ hx rfl)
 refine ⟨fun x c e=>?_,fun x hx=>?_,fun x c hx hc=>?_,fun x y c e1 e2 hc=>?_⟩
 ·rw [look] at e
  by_cases hx:(x,NameKind.cell)∈scope.names
  ·obtain ⟨c',e'⟩:=own x hx
   rw [e',Option.some_or] at e
   have e:c'=c:=Option.some.inj e
   subst e
   obtain ⟨z1,z2⟩:=ok.empty x c' (PySem.mem_of_lookup e')
   exact .inl ⟨hx,z2,z1⟩
  ·cases q:(cellsFrom (lo + 1) scope.names []).lookup x with
   | some c'=>exact absurd (jaW _ _ (PySem.mem_of_lookup q)) hx
   | none=>rw [q,Option.none_or] at e; exact .inr ⟨hx,e⟩
 ·obtain ⟨c,e⟩:=own x (PySem.mem_of_lookup hx)
  exact ⟨c,by rw [look,e,Option.some_or],(ok.empty x c (PySem.mem_of_lookup e)).2⟩
 ·rw [look]
  cases q:(cellsFrom (lo + 1) scope.names []).lookup x with
  | some c'=>exact absurd (jaW _ _ (PySem.mem_of_lookup q)) hx
  | none=>rw [Option.none_or]; exact hc
 ·rw [look] at e1 e2
  have new:∀ x,((cellsFrom (lo + 1) scope.names []).lookup x).or (cl.lookup x)=some c->(cellsFrom (lo + 1) scope.names []).lookup x=some c:=fun x e=>by
   cases q:(cellsFrom (lo + 1) scope.names []).lookup x with
   | some c'=>rw [q,Option.some_or] at e; exact e
   | none=>
    rw [q,Option.none_or] at e
    exact absurd (Nat.lt_of_lt_of_le hc (hcl x c e)) (Nat.lt_irrefl _)
  exact name_of_addr ok.apart (PySem.mem_of_lookup (new x e1)) (PySem.mem_of_lookup (new y e2))
theorem jbS {M:Model}{A:Around}{E:Value->Shared->Prop}{s:Shared}{scope:Scope}{globals:Addr}{cl:List (Str×Addr)}{qual:Str}{env:Env}{Q:Env->Shared->Prop}
  (hQ:Q (newEnv scope s.heap.objs.size globals (cellsFrom (s.heap.objs.size + 1) scope.names cl) qual none .none (some env) builtinsNs) { s with heap:=pushCells (s.heap.push { cls:=.type "dict",data:=.dict #[] }) scope.names }) :
  wpAny M A (newFunctionEnv scope globals cl [] qual none .none (some env)) Q E s:=by
 have sz:(s.heap.push { cls:=.type "dict",data:=.dict #[] }).objs.size=s.heap.objs.size + 1:=Heap.size_push ..
 unfold newFunctionEnv
 rw [if_pos (by rfl)]
 refine wpAny_bind (wpAny_alloc (wpAny_bind (wpAny_layCells _ (fun x k c=>by by_cases e:(k == NameKind.cell)=true <;> simp [e]) _ _ _ _ ?_)))
 rw [show Heap.objs (Shared.heap _)=(s.heap.push { cls:=.type "dict",data:=.dict #[] }).objs from rfl,sz]
 exact wpAny_bind (wpAny_pure (wpAny_pure hQ))

section
variable {X:Cx}{N:List Str}{scope:Scope}{cl:List (Str×Addr)}{C:Addr}{s₀:Shared}{H₀:Hp}{fp:List Addr}
theorem glc {x:Str}(h:scope.names.lookup x=some .globalImplicit):Gl (jaj X N scope cl C s₀ H₀ fp) x:=jay (by decide) h
end

noncomputable def PIfs (X:Cx)(ifs:List Expr)(t:TT):Prop:=
 ∀ (pins:List (Addr×Obj)) (s:Shared) (σ:St) (H:Hp) (Q:Bool->Hp->Prop),Inv X pins σ H s->t σ H Q->
  wpAny (model X.prog X.w) X.A (jex X.env ifs) (TP X pins σ Q) X.xe s
noncomputable def jmh:TT:=fun _ H Q=>Q true H
theorem jiM {X:Cx}:PIfs X [] jmh:=fun _ _ _ H _ I h=>wpAny_tests_nil ⟨H,I,h⟩
theorem jiL {X:Cx}{c:Expr}{t:TT}(h:PT X c t):PIfs X [c] t:=fun pins s σ H Q I q=>wpAny_tests_one (h pins s σ H Q I q)

noncomputable abbrev TEm:=St->List V->Hp->(St->List V->Hp->Prop)->Prop
noncomputable def jgP (J:It)(g:TG)(tt:TT)(tem:TEm)(QQ:St->List V->Hp->Prop)(τ0:St)(ys0:List V)(H1:Hp):Prop:=∃ W:Nat->Nat->St->List V->Hp->Prop,
 (∃ m,W 0 m τ0 ys0 H1)/\∀ i m τ ys H,W i m τ ys H->
  (J.stop i H/\QQ τ ys H)\/(J.go i H/\∀ x H',J.yld i H x H'->g x τ H' fun τ2 H2=>tt τ2 H2 fun b H3=>if b=true then tem τ2 ys H3 fun τ3 ys' H4=>∃ m',m' < m/\W (i + 1) m' τ3 ys' H4
   else ∃ m',m' < m/\W (i + 1) m' τ2 ys H3)
noncomputable def emA (te:TE)(D:Addr):TEm:=fun τ ys H Q=>te τ H fun v H4=>H4 D=some (.lst ys)/\ys.length < sizeLine/\Q τ (ys++[v]) (upd H4 D (.lst (ys++[v])))
noncomputable def LcGG (J:It)(g:TG)(tt:TT)(tem:Addr->TEm)(D:Addr)(τ0:St)(Q:VK)(H1:Hp):Prop:=jgP J g tt (tem D) (fun _ _ H=>Q (.ref D) H) τ0 [] (upd H1 D (.lst []))
noncomputable def PEm (Y:Cx)(em:Sem Unit)(tem:TEm):Prop:=∀ (pins:List (Addr×Obj)) (s:Shared) (τ:St) (ys:List V) (H:Hp) (Q:St->List V->Hp->Prop),Inv Y pins τ H s->tem τ ys H Q->
 wpAny (model Y.prog Y.w) Y.A em (fun _ s'=>∃ τ' ys' H',Inv Y pins τ' H' s'/\Q τ' ys' H') Y.xe s
noncomputable def tLcG (pick:List (Option Nat))(wi:TI)(g:TG)(tt:TT)(tem:Addr->TEm):TE:=fun σ H Q=>wi σ H fun J H1=>∀ D,H1 D=none->LcGG J g tt tem D (pick.map fun o=>o.bind fun j=>(σ[j]?).join) Q H1
noncomputable abbrev tLc (pick:List (Option Nat))(wi:TI)(g:TG)(tt:TT)(te:TE):TE:=tLcG pick wi g tt (emA te)
section
variable {X:Cx}{N:List Str}{pick:List (Option Nat)}{scope:Scope}{pins:List (Addr×Obj)}{σ:St}{s s3:Shared}{H H3:Hp}

theorem jfE {cl cs : List (Str × Addr)}{fp : List Addr}{h₁ : Heap}{tk : Nat}{mB : Str -> Option Value}(S : CScope X N pick scope)(I3 : Inv X pins σ H3 s3)(hf : ∀ b ∈ fp, FpOk X pins H3 b)(hlt : ∀ b ∈ fp, b < s3.heap.objs.size)
    (c1 : ∀ x c, cl.lookup x = some c -> X.env.cells.lookup x = some c) (c2 : ∀ y ∈ scope.names, y.2 = .free -> ∃ c, cl.lookup y.1 = some c) (B : BCells scope cl cs s3.heap.objs.size h₁)
    (hns : h₁.Ns s3.heap.objs.size mB) (hk : ∀ b o, s3.heap.get? b = some o -> h₁.get? b = some o) :
    Inv (jaj X N scope cs s3.heap.objs.size s3 H3 fp) [] (pick.map fun o => o.bind fun j => (σ[j]?).join) H3 { s3 with heap := h₁, toks := tk } := by
  have fsub : ∀ b ∈ frs X.stack, b ∈ X.env.locals :: X.fs := I3.stkSub
  have oc : ∀ x c, cs.lookup x = some c -> X.env.cells.lookup x = some c \/ s3.heap.objs.size < c := fun x c e => by
    rcases B.lk x c e with ⟨_, z, _⟩ | ⟨_, z⟩
    · exact .inr z
    · exact .inl (c1 x c z)
  have has : ∀ x, ((x, NameKind.free) ∈ scope.names \/ (x, NameKind.cell) ∈ scope.names) -> ∃ c, cs.lookup x = some c := fun x hx => by
    by_cases hc : (x, NameKind.cell) ∈ scope.names
    · obtain ⟨c, e, _⟩ := B.own x (S.cells _ hc rfl)
      exact ⟨c, e⟩
    · rcases hx with hx | hx
      · obtain ⟨c, e⟩ := c2 _ hx rfl
        exact ⟨c, B.old x c hc e⟩
      · exact absurd hx hc
  refine ⟨⟨I3.ok.mod, S.kind, I3.ok.glob, I3.ok.blt, Nat.le_refl _, fun x y c e1 e2 => ?_, fun x hx => has x (jbp hx), fun x c z e => ?_, I3.ok.hd, I3.ok.frames, .inl rfl, fun b hb => ⟨Nat.ne_of_lt (hlt b hb), fun x c e => ?_⟩,
      I3.bs, Nat.le_trans I3.ok.bsz I3.sz, fun b o e hb => ?_, fun b hb hm => ?_, I3.stack, I3.stkFree⟩,
    rfl, I3.bare, Un.kept hk, ⟨_, hns, fun i x v e1 e2 e3 => ?_⟩, fun x c e => ?_, I3.hok.fresh (Nat.le_refl _), fun x c e => ?_, fun p hp => absurd (show p ∈ ([] : List (Addr × Obj)) from hp) (by simp), I3.hok.kept hk, ?_⟩
  · by_cases hc : s3.heap.objs.size < c
    · exact B.inj x y c e1 e2 hc
    · exact I3.ok.inj x y c ((oc x c e1).resolve_right hc) ((oc y c e2).resolve_right hc)
  · have z' : scope.names.lookup x = some .cell := eq_of_beq z
    rcases B.lk x c e with ⟨_, y, _⟩ | ⟨y, _⟩
    · exact Nat.le_of_lt y
    · exact absurd (PySem.mem_of_lookup z') y
  · rcases oc x c e with z | z
    · exact (hf b hb).2.2.2.2.1 x c z
    · intro q
      rw [q] at z
      exact absurd (Nat.lt_trans z (hlt b hb)) (Nat.lt_irrefl _)
  · rcases (hf b hb).2.2.2.1 with z | z
    · exact I3.ok.noex b o e z
    · exact absurd (Nat.lt_of_lt_of_le (Heap.lt_size e) (Nat.le_trans I3.ok.bsz z)) (Nat.lt_irrefl _)
  · rcases List.mem_cons.mp (fsub b hm) with z | z
    · exact (hf b hb).2.1 z
    · exact (hf b hb).2.2.1 z
  · -- a captured name
    have e2' : ∃ j, pick[i]? = some (some j) /\ σ[j]? = some (some v) := by
      rw [List.getElem?_map] at e2
      cases q : pick[i]? with
      | none => rw [q] at e2; cases e2
      | some o =>
        rw [q] at e2
        cases o with
        | none => simp at e2
        | some j =>
          simp at e2
          refine ⟨j, rfl, ?_⟩
          cases q2 : σ[j]? with
          | none => rw [q2] at e2; cases e2
          | some w' => rw [q2] at e2; simp at e2; rw [e2]
    obtain ⟨j, ej, ev⟩ := e2'
    obtain ⟨hN, hfr⟩ := S.caps i j x e1 ej
    have hmem : (x, NameKind.free) ∈ scope.names := PySem.mem_of_lookup hfr
    have hnc : (x, NameKind.cell) ∉ scope.names := fun z => by
      have := S.cells _ z rfl
      rw [hfr] at this; cases this
    obtain ⟨_, hkind⟩ := S.fre _ hmem rfl
    obtain ⟨m, hn, hl⟩ := I3.loc
    obtain ⟨u, r, l⟩ := hl j x v hN ev (hkind.elim (fun z => .inr (.inl z)) fun z => .inr (.inr z))
    refine ⟨u, r, .inr ⟨?_, ?_⟩⟩
    · exact ja0 (env := X.env) hfr
    · obtain ⟨c, hc⟩ := c2 _ hmem rfl
      have hc' := c1 _ _ hc
      rcases l with ⟨z, _⟩ | ⟨_, c', e, o, ho, hd⟩
      · rcases hkind with y | y
        · rw [y] at z; cases z
        · rw [y] at z; cases z
      · have : c' = c := by rw [hc'] at e; exact (Option.some.inj e).symm
        subst this
        exact ⟨c', B.old x c' hnc hc, o, hk _ _ ho, hd⟩
  · rcases B.lk x c e with ⟨_, _, z⟩ | ⟨_, z⟩
    · exact ⟨none, z⟩
    · obtain ⟨v, o, ho, hd⟩ := I3.cell x c (c1 x c z)
      exact ⟨v, o, hk _ _ ho, hd⟩
  · rcases oc x c e with z | z
    · exact I3.freeC x c z
    · exact I3.hok.fresh (Nat.le_of_lt z)
  · rw [List.length_map]
    exact S.len

theorem jhu {cl:List (Str×Addr)}{fp:List Addr}{C:Addr}{τ:St}{H':Hp}{s':Shared}{pins':List (Addr×Obj)}(I3:Inv X pins σ H3 s3)(hf:∀ b∈fp,FpOk X pins H3 b)(J:Inv (jaj X N scope cl C s3 H3 fp) pins' τ H' s') :
  Inv X pins σ H' s':=I3.call' J.os J.base J.hok J.bare fun b hb=>⟨(hf b hb).2.2.2.1,(hf b hb).2.1,(hf b hb).2.2.2.2.1,(hf b hb).2.2.2.2.2⟩

theorem jja {Y:Cx}{elt tg:Expr}{gens:List Comprehension}{pos ip:Pos}{ifs:List Expr}{dp:Nat}{acc:Value}{em:Sem Unit}{g:TG}{tt:TT}{tem:TEm}{J:It}{fp:List Addr}{it:Addr}{tn:Nat->Heap->Prop}{QQ:St->List V->Hp->Prop}{τ0:St}{ys0:List V}
  (yc:Y.calm=true) (yxe:Y.xe=fun _ _=>False)
  (hct:compTurn (.ListComp elt gens scope pos) dp (.ref it) acc Y.env=jcQ ip tg ifs (.ref it) Y.env em (.compLoop (.ListComp elt gens scope pos) dp (.ref it) acc Y.env))
  (yg:PG Y tg g) (yi:PIfs Y ifs tt) (ym:PEm Y em tem) (J0:Inv Y pins τ0 H s) (T:Turn Y.prog Y.w Y.K tg J fp it tn) (t0:tn 0 s.heap) (f0:∀ b∈fp,FpOk Y pins H b) (hW:jgP J g tt tem QQ τ0 ys0 H) :
  codeAny (model Y.prog Y.w) Y.A (.compLoop (.ListComp elt gens scope pos) dp (.ref it) acc Y.env) (fun r s'=>r=.ok .next/\∃ τ' ys' H',Inv Y pins τ' H' s'/\QQ τ' ys' H') s:=by
 obtain ⟨W,⟨m0,w0⟩,turn⟩:=hW
 have stat:∀ {H':Hp},(∀ b∈fp,H' b=none)->∀ b∈fp,FpOk Y pins H' b:=fun hn b hb=>⟨hn b hb,(f0 b hb).2⟩
 refine jeh (fun n s'=>∃ i τ ys H',Inv Y pins τ H' s'/\tn i s'.heap/\(∀ b∈fp,H' b=none)/\W i n τ ys H') hct ?_ m0 ⟨0,_,ys0,_,J0,t0,fun b hb=>(f0 b hb).1,w0⟩
 rintro n s4 ⟨i,τ,ys,H4,J4,t4,fr4,w4⟩
 rcases turn i n τ ys H4 w4 with ⟨stop,q⟩ | ⟨go,step⟩
 ·refine wpAny_mono (T.done Y rfl rfl rfl yc i pins s4 τ H4 (fun _ _=>False) J4 (stat fr4) t4 stop) (fun r s5 ⟨hr,J5⟩=>?_) fun _ _ f=>f
  subst hr
  exact ⟨rfl,τ,ys,H4,J5,q⟩
 ·refine wpAny_mono (T.item Y rfl rfl rfl yc i pins s4 τ H4 (fun _ _=>False) J4 (stat fr4) t4 go) (fun r s5 ⟨u,hr,h5⟩=>?_) fun _ _ f=>f
  subst hr
  refine wpAny_mono h5 (fun _ s6 ⟨x,H6,J6,r6,y6,t6,fr6⟩=>?_) fun _ _ f=>f
  have J6':=J6.pinned (stat fr6) (T.obj _ _ t6)
  have ag:=yg _ s6 τ H6 x u _ J6' r6 (step x H6 y6)
  rw [yxe] at ag
  refine wpAny_mono ag (fun _ s7 ⟨τ7,H7,J7,q7⟩=>?_) fun _ _ f=>f
  have ai:=yi _ s7 τ7 H7 _ J7 q7
  rw [yxe] at ai
  refine wpAny_mono ai (fun ok s8 ⟨H8,J8,q8⟩=>?_) fun _ _ f=>f
  have again:∀ {τ9:St} {H9:Hp} {s9:Shared} {zs:List V},Inv Y (pins++jdV fp s6.heap) τ9 H9 s9->(∃ m',m' < n/\W (i + 1) m' τ9 zs H9)->∃ m,m < n/\∃ i τ ys H',Inv Y pins τ H' s9/\tn i s9.heap/\(∀ b∈fp,H' b=none)/\W i m τ ys H':=fun {τ9 H9 s9 zs} J9 ⟨m',hm,w9⟩=>by
   refine ⟨m',hm,i + 1,τ9,zs,H9,J9.unpinned,T.keep _ _ _ t6 fun b hb o e=>(J9.pin (b,o) (List.mem_append_right _ (List.mem_append_right _ (jbD hb e)))).1,fun b hb=>?_,w9⟩
   obtain ⟨o,e,d⟩:=T.obj _ _ t6 b hb
   exact (J9.pin (b,o) (List.mem_append_right _ (List.mem_append_right _ (jbD hb e)))).2.1
  cases ok with
  | false=>exact again J8 q8
  | true=>
   have am:=ym _ s8 τ7 ys H8 _ J8 q8
   rw [yxe] at am
   exact wpAny_mono am (fun _ s9 ⟨τ9,zs,H9,J9,q9⟩=>again J9 q9) fun _ _ f=>f
theorem jh8 {Y:Cx}{elt:Expr}{te:TE}{D:Addr}(yxe:Y.xe=fun _ _=>False)(he:PE Y elt te):PEm Y (do let _ <- call (.builtin "list.append") [.ref D,<- eval elt Y.env]) (emA te D):=by
 intro pins s τ ys H Q J q
 have ae:=he _ s τ H _ J q
 refine wpAny_bind (wpAny_mono ae (fun v s9 ⟨z,H9,J9,r9,hD9,hz9,q9⟩=>?_) fun _ _ f=>f)
 have aa:=jd5 (X:=Y) _ s9 τ H9 (.ref D) [z] (.ref D) [v] (fun x H'=>H'=upd H9 D (.lst (ys++[z]))) J9 rfl (.cons r9 .nil) ⟨_,ys,z,rfl,rfl,hD9,hz9,rfl⟩
 refine wpAny_bind (wpAny_mono aa (fun _ s10 ⟨_,H10,J10,_,e10⟩=>?_) fun _ _ f=>f)
 subst e10
 exact wpAny_pure ⟨τ,_,_,J10,q9⟩
theorem je7 {tg iter elt:Expr}{ifs:List Expr}{rest:List Comprehension}{pos:Pos}{g:TG}{tt:TT}{tem:Addr->TEm}{em:Addr->Env->Sem Unit}{J:It}{fp:List Addr}{it:Addr}{tn:Nat->Heap->Prop}{cl:List (Str×Addr)}{Q:VK}{E:Value->Shared->Prop}{RR:Value->Addr->Result->Shared->Prop}
  (hc:X.calm=true) (S:CScope X N pick scope) (c1:∀ x c,cl.lookup x=some c->X.env.cells.lookup x=some c) (c2:∀ y∈scope.names,y.2=.free->∃ c,cl.lookup y.1=some c)
  (hg:∀ cl C s₀ H₀ fp,PG (jaj X N scope cl C s₀ H₀ fp) tg g) (hi:∀ cl C s₀ H₀ fp,PIfs (jaj X N scope cl C s₀ H₀ fp) ifs tt) (he:∀ D cl C s₀ H₀ fp,PEm (jaj X N scope cl C s₀ H₀ fp) (em D (jaj X N scope cl C s₀ H₀ fp).env) (tem D))
  (hct:∀ (it:Value) (D:Addr) (env:Env),compTurn (.ListComp elt (⟨tg,iter,ifs,0⟩::rest) scope pos) 0 it (.ref D) env=jcQ iter.pos tg ifs it env (em D env) (.compLoop (.ListComp elt (⟨tg,iter,ifs,0⟩::rest) scope pos) 0 it (.ref D) env))
  (I2:Inv X pins σ H s) (T:Turn X.prog X.w X.K tg J fp it tn) (st:tn 0 s.heap) (hf:∀ b∈fp,FpOk X pins H b)
  (hW:∀ D,H D=none->LcGG J g tt tem D (pick.map fun o=>o.bind fun j=>(σ[j]?).join) Q H)
  (hRR:∀ D C H' s',Inv X pins σ H' s'->(∃ m,s'.heap.Ns C m)->FpOk X pins H' C->Q (.ref D) H'->RR (.ref D) C (.ok .next) s') :
  wpAny (model X.prog X.w) X.A (newList []) (fun acc s₃=>wpAny (model X.prog X.w) X.A (newFunctionEnv scope X.env.globals cl [] X.env.qual none .none (some X.env)) (fun cenv s₄=>
   codeAny (model X.prog X.w) X.A (.compStart (.ListComp elt (⟨tg,iter,ifs,0⟩::rest) scope pos) 0 (.ref it) acc { cenv with scope:=relabel scope X.env }) (RR acc cenv.locals) s₄) E s₃) E s:=by
 have hD:H s.heap.objs.size=none:=I2.hok.fresh (Nat.le_refl _)
 have hlt:∀ b∈fp,b < s.heap.objs.size:=fun b hb=>let ⟨o,e,_⟩:=T.obj _ _ st b hb; Heap.lt_size e
 refine wpAny_newObj_type (jbS ?_)
 have I3:Inv X pins σ (upd H s.heap.objs.size (.lst [])) { s with heap:=s.heap.push { cls:=.type "list",dict:=none,data:=.seq ([]:List Value).toArray } }:=
  I2.laid (t':=s.toks) (fun b u e=>Heap.get?_push_of_some _ e) (Nat.le_refl _) ⟨Nat.zero_le _,[],0,.nil,Heap.get?_push_size _ rfl⟩
 generalize hs3:({ s with heap:=s.heap.push { cls:=.type "list",dict:=none,data:=.seq ([]:List Value).toArray } }:Shared)=s3 at I3 ⊢
 have hsz:s3.heap.objs.size=s.heap.objs.size + 1:=by rw [<- hs3]; exact Heap.size_push ..
 have hf3:∀ b∈fp,FpOk X pins (upd H s.heap.objs.size (.lst [])) b:=fun b hb=>⟨by rw [jaf (Nat.ne_of_lt (hlt b hb))]; exact (hf b hb).1,(hf b hb).2⟩
 have hsz':(s3.heap.push { cls:=.type "dict",data:=.dict #[] }).objs.size=s3.heap.objs.size + 1:=Heap.size_push ..
 have hk:∀ b o,s3.heap.get? b=some o->(pushCells (s3.heap.push { cls:=.type "dict",data:=.dict #[] }) scope.names).get? b=some o:=fun b o e=>pushCells_keeps _ _ b o (Heap.get?_push_of_some _ e)
 have hns₁:(pushCells (s3.heap.push { cls:=.type "dict",data:=.dict #[] }) scope.names).Ns s3.heap.objs.size fun _=>none:=(Heap.Ns.new s3.heap (.type "dict")).keeps (pushCells_keeps _ _)
 have B:=jgM (cl:=cl) hsz' S.cells fun x c e=>by
  obtain ⟨v,z⟩:=I3.cell x c (c1 x c e)
  exact Nat.le_of_lt z.lt
 generalize pushCells (s3.heap.push { cls:=.type "dict",data:=.dict #[] }) scope.names=h₁ at hk hns₁ B ⊢
 generalize cellsFrom (s3.heap.objs.size + 1) scope.names cl=cs at B ⊢
 have c1':∀ x c,cs.lookup x=some c->X.env.cells.lookup x=some c\/s3.heap.objs.size < c:=fun x c e=>by
  rcases B.lk x c e with ⟨_,z,_⟩ | ⟨_,z⟩
  ·exact .inr z
  ·exact .inl (c1 x c z)
 have st1:tn 0 h₁:=T.keep _ _ _ st fun b _ o e=>hk b o (by rw [<- hs3]; exact Heap.get?_push_of_some _ e)
 have IY:Inv (jaj X N scope cs s3.heap.objs.size s3 (upd H s.heap.objs.size (.lst [])) fp) [] (pick.map fun o=>o.bind fun j=>(σ[j]?).join) (upd H s.heap.objs.size (.lst [])) { s3 with heap:=h₁ }:=
  jfE (tk:=s3.toks) S I3 hf3 (fun b hb=>Nat.lt_of_lt_of_le (hlt b hb) (by omega)) c1 c2 B hns₁ hk
 generalize hY:jaj X N scope cs s3.heap.objs.size s3 (upd H s.heap.objs.size (.lst [])) fp=Y at IY
 have yg:PG Y tg g:=hY ▸ hg _ _ _ _ _
 have yi:PIfs Y ifs tt:=hY ▸ hi _ _ _ _ _
 have ye:PEm Y (em s.heap.objs.size Y.env) (tem s.heap.objs.size):=hY ▸ he _ _ _ _ _ _
 have yprog:Y.prog=X.prog:=by rw [<- hY]; rfl
 have yw:Y.w=X.w:=by rw [<- hY]; rfl
 have yK:Y.K=X.K:=by rw [<- hY]; rfl
 have yA:Y.A=X.A:=by rw [<- hY]; rfl
 have yc:Y.calm=true:=by rw [<- hY]; exact hc
 have yenv:Y.env=compEnvC scope cs s3.heap.objs.size X.env:=by rw [<- hY]; rfl
 have yex:∀ b,b∈Y.ex↔b∈fp:=fun b=>by rw [<- hY]; rfl
 have yxe:Y.xe=fun _ _=>False:=by rw [<- hY]; rfl
 have ypn:Y.pn=[]:=by rw [<- hY]; rfl
 have yfs:∀ b,b∈Y.fs->b∈X.env.locals::X.fs:=fun b hb=>I3.stkSub b (by rw [<- hY] at hb; exact hb)
 have stat:∀ {H':Hp},(∀ b∈fp,H' b=none)->∀ b∈fp,FpOk Y [] H' b:=fun hn b hb=>by
  refine ⟨hn b hb,?_,fun hm=>?_,.inl ((yex b).mpr hb),fun x c e=>?_,fun p hp=>?_⟩
  ·rw [yenv]
   show b≠s3.heap.objs.size
   exact Nat.ne_of_lt (Nat.lt_of_lt_of_le (hlt b hb) (by omega))
  ·rcases List.mem_cons.mp (yfs b hm) with z | z
   ·exact (hf b hb).2.1 z
   ·exact (hf b hb).2.2.1 z
  ·rw [yenv] at e
   rcases c1' x c e with z | z
   ·exact (hf b hb).2.2.2.2.1 x c z
   ·intro q
    rw [q] at z
    exact absurd (Nat.lt_trans z (Nat.lt_of_lt_of_le (hlt b hb) (by omega))) (Nat.lt_irrefl _)
  ·rw [ypn] at hp; simp at hp
 have fin:∀ {τ:St} {H':Hp} {s':Shared},Inv Y [] τ H' s'->Q (.ref s.heap.objs.size) H'->RR (.ref s.heap.objs.size) s3.heap.objs.size (.ok .next) s':=fun {τ H' s'} J q=>by
  have fr:H' s3.heap.objs.size=none:=by have:=J.free; rw [yenv] at this; exact this
  obtain ⟨m,hn,_⟩:=J.loc
  rw [yenv] at hn
  exact hRR _ _ H' s' (jhu I3 hf3 (hY ▸ J)) ⟨m,hn⟩ (I3.fpOk (Nat.le_refl _) fr) q
 have hn:∀ b∈fp,upd H s.heap.objs.size (.lst []) b=none:=fun b hb=>(hf3 b hb).1
 have lp:=jja (pins:=[]) (s:={ s3 with heap:=h₁ }) (acc:=.ref s.heap.objs.size) (ifs:=ifs) (em:=em s.heap.objs.size Y.env) yc yxe (hct (.ref it) s.heap.objs.size Y.env) yg yi ye IY (by rw [yprog,yw,yK]; exact T) st1 (stat hn) (hW _ hD)
 rw [yprog,yw,yA,yenv] at lp
 have lp:=codeAny_mono lp (R':=RR (.ref s.heap.objs.size) s3.heap.objs.size) fun r s' ⟨hr,τ',ys',H',I',q'⟩=>by subst hr; exact fin I' q'
 show codeAny (model X.prog X.w) X.A (.compStart (.ListComp elt (⟨tg,iter,ifs,0⟩::rest) scope pos) 0 (.ref it) (.ref s.heap.objs.size) (compEnvC scope cs s3.heap.objs.size X.env)) (RR (.ref s.heap.objs.size) s3.heap.objs.size) _
 exact codeAny_compStart_list lp (T.self _ 0 _ _ _ st1 lp)

theorem jkw {tg iter elt:Expr}{ifs:List Expr}{pos:Pos}{wi:TI}{g:TG}{tt:TT}{rest:List Comprehension}{tem:Addr->TEm}{em:Addr->Env->Sem Unit}(hc:X.calm=true)(S:CScope X N pick scope)(hw:PI X tg iter wi)
  (hg:∀ cl C s₀ H₀ fp,PG (jaj X N scope cl C s₀ H₀ fp) tg g) (hi:∀ cl C s₀ H₀ fp,PIfs (jaj X N scope cl C s₀ H₀ fp) ifs tt) (he:∀ D cl C s₀ H₀ fp,PEm (jaj X N scope cl C s₀ H₀ fp) (em D (jaj X N scope cl C s₀ H₀ fp).env) (tem D))
  (hct:∀ (it:Value) (D:Addr) (env:Env),compTurn (.ListComp elt (⟨tg,iter,ifs,0⟩::rest) scope pos) 0 it (.ref D) env=jcQ iter.pos tg ifs it env (em D env) (.compLoop (.ListComp elt (⟨tg,iter,ifs,0⟩::rest) scope pos) 0 it (.ref D) env))
  (hs:∀ x,foldedSetIterable iter X.env x=pure x:=by intro _; rfl):PE X (.ListComp elt (⟨tg,iter,ifs,0⟩::rest) scope pos) (tLcG pick wi g tt tem):=by
 intro pins s σ H Q I h
 obtain ⟨cl,hclos,c1,c2⟩:=jdt (scope:=scope) (env:=X.env) fun y hy hf=>I.ok.has _ (S.fre y hy hf).2
 rw [eval_ListComp]
 refine wpAny_comprehension_free (use:=none) rfl hs hclos S.kind S.names (thn (hw pins s σ H _ I h) fun v s1 h1=>thn h1 fun itv s2 h2=>?_)
 obtain ⟨it,fp,tn,J,H2,e,I2,T,st2,f2,hW⟩:=h2
 subst e
 refine je7 (RR:=fun acc C=>compPost (model X.prog X.w) X.A X.xe none (EP X pins σ Q) acc C) hc S c1 c2 hg hi he hct I2 T st2 f2 hW fun D C H' s' J' ⟨m,hn⟩ fC q=>?_
 refine ⟨m,hn,fun h' hs'=>⟨.ref D,H',?_,rfl,q⟩⟩
 exact J'.turned (t':=s'.toks) (it:=C) (fun b o hb e=>hs'.extBut b o hb e) fC.1 fC.2.1 fC.2.2.2.1 fC.2.2.2.2.1 fC.2.2.2.2.2

theorem jkk {tg iter elt:Expr}{ifs:List Expr}{pos py spos:Pos}{wi:TI}{g:TG}{tt:TT}{rest:List Comprehension}{tem:Addr->TEm}{em:Addr->Env->Sem Unit}{i:Nat}{y:Str}(hN:X.N.Nodup)(hi':X.N[i]?=some y)(hy:X.env.scope.names.lookup y=some .local)(hc:X.calm=true)(S:CScope X N pick scope)(hw:PI X tg iter wi)
  (hg:∀ cl C s₀ H₀ fp,PG (jaj X N scope cl C s₀ H₀ fp) tg g) (hi:∀ cl C s₀ H₀ fp,PIfs (jaj X N scope cl C s₀ H₀ fp) ifs tt) (he:∀ D cl C s₀ H₀ fp,PEm (jaj X N scope cl C s₀ H₀ fp) (em D (jaj X N scope cl C s₀ H₀ fp).env) (tem D))
  (hct:∀ (it:Value) (D:Addr) (env:Env),compTurn (.ListComp elt (⟨tg,iter,ifs,0⟩::rest) scope pos) 0 it (.ref D) env=jcQ iter.pos tg ifs it env (em D env) (.compLoop (.ListComp elt (⟨tg,iter,ifs,0⟩::rest) scope pos) 0 it (.ref D) env))
  (hsw:swapsWith (.ListComp elt (⟨tg,iter,ifs,0⟩::rest) scope pos) (some (.Name y py)) spos.line X.env=pure true) (hs:∀ x,foldedSetIterable iter X.env x=pure x:=by intro _; rfl) :
  PS X (.Assign [.Name y py] (.ListComp elt (⟨tg,iter,ifs,0⟩::rest) scope pos) spos) (tAsg (tLcG pick wi g tt tem) (jhn i)):=by
 intro pins s σ H D0 I h
 obtain ⟨cl,hclos,c1,c2⟩:=jdt (scope:=scope) (env:=X.env) fun y hy hf=>I.ok.has _ (S.fre y hy hf).2
 rw [exec_Assign_Name_used _ _ _ _ hsw]
 refine wpAny_bind (wpAny_standAt (wpAny_bind ?_))
 show wpAny _ _ (do let _ <- comprehension (.ListComp elt (⟨tg,iter,ifs,0⟩::rest) scope pos) scope X.env _ (newList []) false (eval iter X.env) (some (assign (.Name y py) X.env))) _ _ s
 refine wpAny_bind (thn (wpAny_comprehension_free (use:=some (assign (.Name y py) X.env)) (Q:=fun _ s'=>SP X pins D0 .next s') rfl hs hclos S.kind S.names
  (thn (hw pins s σ H _ I h) fun v s1 h1=>thn h1 fun itv s2 h2=>?_)) fun _ s' hq=>wpAny_pure (wpAny_pure hq))
 obtain ⟨it,fp,tn,J,H2,e,I2,T,st2,f2,hW⟩:=h2
 subst e
 refine je7 (Q:=fun x H1=>jhn i x σ H1 D0.nx) (RR:=fun acc C=>compPost (model X.prog X.w) X.A X.xe (some (assign (.Name y py) X.env)) (fun _ s'=>SP X pins D0 .next s') acc C) hc S c1 c2 hg hi he hct I2 T st2 f2 hW fun D C H' s' J' ⟨m,hn⟩ fC q=>?_
 show wpAny _ _ (assign (.Name y py) X.env (.ref D)) _ _ _
 refine wpAny_assign_Name (jdP (v:=.ref D) J' hN hi' (.inl hy) rfl (fun s'' J'' ⟨a,sb,ha⟩=>?_) (.inr hy))
 have hne:C≠a:=by
  rcases ha with z | z
  ·rw [z]; exact fC.2.1
  ·exact fun e=>fC.2.2.2.2.1 y a z e.symm
 refine ⟨m,hn.sameBut sb hne,fun h' hs'=>?_⟩
 refine ⟨_,H',J''.turned (t':=s''.toks) (it:=C) (fun b o hb e=>hs'.extBut b o hb e) fC.1 fC.2.1 fC.2.2.2.1 fC.2.2.2.2.1 fC.2.2.2.2.2,q⟩
theorem jmz {tg iter elt:Expr}{ifs:List Expr}{pos:Pos}{wi:TI}{g:TG}{tt:TT}{te:TE}(hc:X.calm=true)(S:CScope X N pick scope)(hw:PI X tg iter wi)
  (hg:∀ cl C s₀ H₀ fp,PG (jaj X N scope cl C s₀ H₀ fp) tg g) (hi:∀ cl C s₀ H₀ fp,PIfs (jaj X N scope cl C s₀ H₀ fp) ifs tt) (he:∀ cl C s₀ H₀ fp,PE (jaj X N scope cl C s₀ H₀ fp) elt te)
  (hs:∀ x,foldedSetIterable iter X.env x=pure x:=by intro _; rfl):PE X (.ListComp elt [⟨tg,iter,ifs,0⟩] scope pos) (tLc pick wi g tt te):=
 jkw (em:=fun D env=>do let _ <- call (.builtin "list.append") [.ref D,<- eval elt env]) (rest:=[]) hc S hw hg hi (fun D cl C s₀ H₀ fp=>jh8 rfl (he cl C s₀ H₀ fp)) (fun _ _ _=>rfl) hs
theorem jmv {tg iter elt:Expr}{ifs:List Expr}{pos:Pos}{wi:TI}{g:TG}{tt:TT}{te:TE}{py spos:Pos}{i:Nat}{y:Str}(hN:X.N.Nodup)(hi':X.N[i]?=some y)(hy:X.env.scope.names.lookup y=some .local)(hc:X.calm=true)(S:CScope X N pick scope)(hw:PI X tg iter wi)
  (hg:∀ cl C s₀ H₀ fp,PG (jaj X N scope cl C s₀ H₀ fp) tg g) (hi:∀ cl C s₀ H₀ fp,PIfs (jaj X N scope cl C s₀ H₀ fp) ifs tt) (he:∀ cl C s₀ H₀ fp,PE (jaj X N scope cl C s₀ H₀ fp) elt te)
  (hsw:swapsWith (.ListComp elt [⟨tg,iter,ifs,0⟩] scope pos) (some (.Name y py)) spos.line X.env=pure true) (hs:∀ x,foldedSetIterable iter X.env x=pure x:=by intro _; rfl):PS X (.Assign [.Name y py] (.ListComp elt [⟨tg,iter,ifs,0⟩] scope pos) spos) (tAsg (tLc pick wi g tt te) (jhn i)):=
 jkk (em:=fun D env=>do let _ <- call (.builtin "list.append") [.ref D,<- eval elt env]) (rest:=[]) hN hi' hy hc S hw hg hi (fun D cl C s₀ H₀ fp=>jh8 rfl (he cl C s₀ H₀ fp)) (fun _ _ _=>rfl) hsw hs
end

mutual
inductive DV (K:PySem.W.Frag)(H:Hp):V->PyData->Prop
 | non:DV K H .non .none
 | bl (b:Bool):DV K H (.bl b) (.bool b)
 | int (i:Int):DV K H (.int i) (.int i)
 | str (x:Str):DV K H (.str x) (.str x)
 | tup {a:Addr} {xs:List V} {ds:List PyData}:SqT K H a xs->DVs K H xs ds->DV K H (.ref a) (.tuple ds)
 | lst {a:Addr} {xs:List V} {ds:List PyData}:Rd H a (.lst xs)->DVs K H xs ds->DV K H (.ref a) (.list ds)
 | dic {a:Addr}:H a=some (.dK [])->DV K H (.ref a) (.dict [])
inductive DVs (K:PySem.W.Frag)(H:Hp):List V->List PyData->Prop
 | nil:DVs K H [] []
 | cons {x:V} {d:PyData} {xs:List V} {ds:List PyData}:DV K H x d->DVs K H xs ds->DVs K H (x::xs) (d::ds)
end
section
variable {K:PySem.W.Frag}{H H':Hp}
end
mutual
noncomputable def noL:PyData->Bool
 | .list _=>false
 | .tuple xs=>noLs xs
 | .dict _=>false
 | .none | .bool _ | .int _ | .str _=>true
noncomputable def noLs:List PyData->Bool
 | []=>true
 | x::r=>noL x && noLs r
end
section
variable {K:PySem.W.Frag}{H H':Hp}
noncomputable def TK (H H':Hp):Prop:=∀ b xs,H b=some (.tup xs)->H' b=some (.tup xs)
end

theorem Inv.noSys {X:Cx}{pins:List (Addr×Obj)}{σ:St}{H:Hp}{s:Shared}(I:Inv X pins σ H s){a:Addr}{o:Obj}(h:s.heap.get? a=some o)(c:o.cls=.type "list"):sysModules≠a:=fun e=>by
 obtain ⟨o',l,c'⟩:=I.mod.sys
 have:=I.kIn _ _ l
 rw [e,h] at this
 cases this
 rw [c] at c'
 exact absurd c' (by decide)
mutual
theorem DV.reads2 {X:Cx}{pins:List (Addr×Obj)}{σ:St}{H:Hp}{s:Shared}(I:Inv X pins σ H s):∀ {x:V} {d:PyData} {u:Value},DV X.K H x d->RelV x u->∃ as,Reads s.heap u d as/\sysModules∉as
 | _,_,_,.non,r=>by cases r; exact ⟨_,.none,by simp⟩
 | _,_,_,.bl b,r=>by cases r; exact ⟨_,.bool b,by simp⟩
 | _,_,_,.int i,r=>by obtain ⟨t,rfl⟩:=r; exact ⟨_,.int i t,by simp⟩
 | _,_,_,.str x,r=>by obtain ⟨t,rfl⟩:=r; exact ⟨_,.str x t,by simp⟩
 | _,_,_,.tup e h,r=>by
  cases r
  obtain ⟨its,rv,⟨o,ho,hc,n,hd⟩,_⟩:=I.tuple e
  obtain ⟨as,q,z⟩:=DVs.reads2 I h rv
  exact ⟨_,.tuple ho hc hd q,z⟩
 | _,_,_,@DV.lst _ _ a _ _ e h,r=>by
  cases r
  obtain ⟨its,rv,⟨o,n,ho,hc,_,hd⟩,_⟩:=I.list (.inl e)
  obtain ⟨as,q,z⟩:=DVs.reads2 I h rv
  refine ⟨_,.list ho hc hd q,fun hm=>?_⟩
  rcases List.mem_cons.mp hm with hm | hm
  ·exact I.noSys ho hc hm
  ·exact z hm
 | _,_,_,@DV.dic _ _ a e,r=>by
  cases r
  obtain ⟨_,hS,vs,kv,o,es,ep,ho,hx,hd,_,hp,_⟩:([]:List (Key×V)).length<=sizeLine/\(a == sysModules)=false/\∃ vs,KV [] vs/\s.heap.DictOf (jap X.prog X.w) a vs:=I.hok a _ e
  have e0:es.toList=[]:=by
   cases kv
   revert hp
   cases es.toList with
   | nil=>exact fun _=>rfl
   | cons x r=>exact fun hp=>(nomatch hp)
  refine ⟨_,.dict (kvs:=[]) (as:=[]) (bs:=[]) ho hx.1 hd (by rw [e0]; exact .nil) (by rw [e0]; exact .nil),fun hm=>?_⟩
  have:sysModules=a:=by simpa using hm
  rw [<- this] at hS
  exact absurd hS (by simp)
theorem DVs.reads2 {X:Cx}{pins:List (Addr×Obj)}{σ:St}{H:Hp}{s:Shared}(I:Inv X pins σ H s):∀ {xs:List V} {ds:List PyData} {us:List Value},DVs X.K H xs ds->Vals xs us->∃ as,ReadsAll s.heap us ds as/\sysModules∉as
 | _,_,_,.nil,r=>by cases r; exact ⟨_,.nil,by simp⟩
 | _,_,_,.cons a b,r=>by
  cases r with
  | cons r rr=>
   obtain ⟨as,q,z⟩:=DV.reads2 I a r
   obtain ⟨bs,q',z'⟩:=DVs.reads2 I b rr
   exact ⟨_,.cons q q',by rw [List.mem_append,not_or]; exact ⟨z,z'⟩⟩
end
theorem DV.reads {X:Cx}{pins:List (Addr×Obj)}{σ:St}{H:Hp}{s:Shared}(I:Inv X pins σ H s){x:V}{d:PyData}{u:Value}(h:DV X.K H x d)(r:RelV x u):∃ as,Reads s.heap u d as:=let ⟨as,q,_⟩:=DV.reads2 I h r; ⟨as,q⟩
theorem DVs.reads {X:Cx}{pins:List (Addr×Obj)}{σ:St}{H:Hp}{s:Shared}(I:Inv X pins σ H s){xs:List V}{ds:List PyData}{us:List Value}(h:DVs X.K H xs ds)(r:Vals xs us):∃ as,ReadsAll s.heap us ds as:=let ⟨as,q,_⟩:=DVs.reads2 I h r; ⟨as,q⟩

structure Fits (n k:Nat)(d:PyData):Prop where
 sh:d.showable=true
 ln:d.shown.length<=n
 dp:d.depth<=k
theorem Fits.mono {n n' k k':Nat}{d:PyData}(h:Fits n k d)(h1:n<=n')(h2:k<=k'):Fits n' k' d:=⟨h.sh,Nat.le_trans h.ln h1,Nat.le_trans h.dp h2⟩
theorem Fits.non:Fits 4 0 .none:=⟨rfl,by decide +kernel,Nat.le_refl _⟩
theorem Fits.bl (b:Bool):Fits 5 0 (.bool b):=⟨rfl,by cases b <;> decide +kernel,Nat.le_refl _⟩
theorem Fits.int {i:Int}(h:i.natAbs < 2 ^ 1000):Fits 1921 0 (.int i):=by
 have hl:i.natAbs.log2 < 1920:=by
  by_cases z:i.natAbs=0
  ·rw [z]; decide
  ·exact Nat.lt_of_lt_of_le ((Nat.log2_lt z).mpr h) (by decide)
 refine ⟨by simp [PyData.showable,hl],?_,Nat.le_refl _⟩
 simp only [PyData.shown]
 exact int_text_len_1921 hl
theorem Fits.dic:Fits 2 1 (.dict []):=⟨rfl,by decide +kernel,by decide +kernel⟩
theorem Fits.str {x:Str}{m:Nat}(h:x.length<=m)(hc:∀ c∈x.cps.toList,c < 16 ^ 8):Fits (10 * m + 2) 0 (.str x):=by
 refine ⟨rfl,?_,Nat.le_refl _⟩
 simp only [PyData.shown]
 exact Nat.le_trans (StrLaws.reprText_len x hc) (by omega)
theorem jg4 {ts:List Str}{n:Nat}(h:∀ t∈ts,t.length<=n):piled ts<=ts.length * (n + 2):=by
 induction ts with
 | nil=>simp [piled]
 | cons t r ih=>
  have h1:=h t List.mem_cons_self
  have h2:=ih fun q hq=>h q (List.mem_cons_of_mem _ hq)
  rw [piled_cons,List.length_cons,Nat.add_mul]
  omega
theorem jcr:∀ {ds:List PyData} {t:Str},t∈PyData.shownAll ds->∃ d∈ds,t=d.shown
 | [],_,h=>by simp [PyData.shownAll] at h
 | d::r,t,h=>by
  simp only [PyData.shownAll,List.mem_cons] at h
  rcases h with h | h
  ·exact ⟨d,List.mem_cons_self,h⟩
  ·obtain ⟨e,he,q⟩:=jcr h
   exact ⟨e,List.mem_cons_of_mem _ he,q⟩
theorem jbo:∀ ds:List PyData,(PyData.shownAll ds).length=ds.length
 | []=>rfl
 | _::r=>by simp [PyData.shownAll,jbo r]
theorem jgo (ts:List Str):(Str.join ", " ts).length<=piled ts:=by
 rcases Classical.em (ts=[]) with rfl | hz
 ·exact Nat.zero_le _
 ·exact Nat.le_of_add_right_le (Nat.le_of_eq (join_length_add ts hz))
theorem jdM {ts:List Str}{n:Nat}(h:∀ t∈ts,t.length<=n):(tupleText ts).length<=ts.length * (n + 2) + 3:=by
 have hp:=Nat.le_trans (jgo ts) (jg4 h)
 have two:∀ b:Bool,((((if b=true then ",)" else ")"):String):Str)).length<=2:=by decide
 have z:=two (ts.length == 1)
 have one:(("(" : String):Str).length=1:=rfl
 simp only [tupleText,strLen_append] at z ⊢
 omega
theorem jcJ:∀ (ts:List Str) (k:Nat) (acc:Str),(textFrom k acc ts).length<=acc.length + piled ts
 | [],_,_=>Nat.le_refl _
 | t::r,k,acc=>by
  have two:(((if k > 0 then ", " else "" : String):Str)).length<=2:=by split <;> decide
  have ih:=jcJ r (k + 1) (acc++(if k > 0 then ", " else "" : String)++t)
  simp only [strLen_append] at ih
  rw [piled_cons]
  exact Nat.le_trans ih (by omega)
theorem jbI:∀ {ds:List PyData},(∀ d∈ds,d.showable=true)->PyData.showableAll ds=true
 | [],_=>rfl
 | d::r,h=>by simp [PyData.showableAll,h d List.mem_cons_self,jbI fun q hq=>h q (List.mem_cons_of_mem _ hq)]
theorem ja1:∀ {ds:List PyData} {k:Nat},(∀ d∈ds,d.depth<=k)->PyData.depthAll ds<=k
 | [],_,_=>Nat.zero_le _
 | d::r,k,h=>by
  simp only [PyData.depthAll]
  exact Nat.max_le.mpr ⟨h d List.mem_cons_self,ja1 fun q hq=>h q (List.mem_cons_of_mem _ hq)⟩
theorem Fits.tup {n k:Nat}{ds:List PyData}(h:∀ d∈ds,Fits n k d):Fits (ds.length * (n + 2) + 3) (k + 1) (.tuple ds):=by
 refine ⟨?_,?_,?_⟩
 ·simp only [PyData.showable]; exact jbI fun d hd=>(h d hd).sh
 ·simp only [PyData.shown]
  have:=jdM (ts:=PyData.shownAll ds) (n:=n) fun t ht=>by obtain ⟨d,hd,e⟩:=jcr ht; rw [e]; exact (h d hd).ln
  rw [jbo] at this
  exact this
 ·simp only [PyData.depth]
  exact Nat.succ_le_succ (ja1 fun d hd=>(h d hd).dp)
theorem Fits.tupLe {n k m N:Nat}{ds:List PyData}(hl:ds.length<=m)(h:∀ d∈ds,Fits n k d)(hN:m * (n + 2) + 3<=N):Fits N (k + 1) (.tuple ds):=
 (Fits.tup h).mono (Nat.le_trans (Nat.add_le_add_right (Nat.mul_le_mul_right _ hl) _) hN) (Nat.le_refl _)
noncomputable def jmr (K:PySem.W.Frag):List V->Hp->VK->Prop:=fun xs H Q=>∃ x d,xs=[x]/\DV K H x d/\Fits 16000000 60 d/\Q (.str d.shown) H
theorem jfF {X:Cx}{k:Nat}(hr:Room k X.A):jbd X (.builtin "repr") (jmr X.K):=by
 intro pins s σ H xs us Q I r h
 obtain ⟨x,d,rfl,dv,ft,q⟩:=h
 obtain ⟨u,rfl,ru⟩:=jc8 r
 have hu:=hr.un
 have done:∀ (h':Heap) (u':Tok) (tk:Nat),(∀ b o,s.heap.get? b=some o->h'.get? b=some o)->EP X pins σ Q (.str d.shown u') { s with heap:=h',toks:=tk }:=fun h' u' tk hk=>
  ⟨.str d.shown,H,I.kept (t':=tk) hk,⟨u',rfl⟩,q⟩
 have hz:d.shown.length<=sizeLine:=Nat.le_trans ft.ln (by decide)
 cases dv with
 | non=>cases ru; exact P.repr_of_none (done _ _ _ fun _ _ e=>e)
 | bl b=>cases ru; exact P.repr_of_bool (by have:=done s.heap s.toks (s.toks + 1) fun _ _ e=>e; simp only [PyData.shown] at this; exact this)
 | int i=>
  obtain ⟨t,rfl⟩:=ru
  refine P.repr_of_int (by simpa [PyData.showable] using ft.sh) ?_
  have:=done s.heap s.toks (s.toks + 1) fun _ _ e=>e
  simp only [PyData.shown] at this
  exact this
 | str x=>
  obtain ⟨t,rfl⟩:=ru
  simp only [PyData.shown] at hz
  refine P.repr_of_str ?_ hz
  have:=done s.heap s.toks (s.toks + 1) fun _ _ e=>e
  simp only [PyData.shown] at this
  exact this
 | @tup a xs ds e hd=>
  obtain ⟨as,rd,hsy⟩:=DV.reads2 I (DV.tup e hd) ru
  cases ru
  exact repr_of_reads' rd ft.sh (fun _=>hsy) hr.gd (by have:=ft.dp; omega) (fun _ _ e=>e) (fun h' u' tk hk=>done h' u' tk hk) hz
 | @lst a xs ds e hd=>
  obtain ⟨as,rd,hsy⟩:=DV.reads2 I (DV.lst e hd) ru
  cases ru
  exact repr_of_reads' rd ft.sh (fun _=>hsy) hr.gd (by have:=ft.dp; omega) (fun _ _ e=>e) (fun h' u' tk hk=>done h' u' tk hk) hz
 | @dic a e=>
  obtain ⟨as,rd,hsy⟩:=DV.reads2 I (DV.dic e) ru
  cases ru
  exact repr_of_reads' rd ft.sh (fun _=>hsy) hr.gd (by have:=ft.dp; omega) (fun _ _ e=>e) (fun h' u' tk hk=>done h' u' tk hk) hz
section
variable {X:Cx}{k:Nat}{x:Str}{ps:List Str}{sp:Sp}{e:Expr}{es:List Expr}{t:TA}{p pos:Pos}
end
noncomputable def Sm (f:Addr)(H H':Hp):Prop:=∀ b o,b≠f->H b=some o->H' b=some o
noncomputable def LcW (n k:Nat)(caps:St)(Pv:Nat->List V->Hp->Prop):Nat->Nat->St->List V->Hp->Prop:=fun i m τ ys H=>m=n - i/\i<=n/\(∃ os:St,os.length=k/\τ=os++caps)/\Pv i ys H
noncomputable def LcN (D:Addr)(n k:Nat)(caps:St)(Pv:Nat->List V->Hp->Prop)(i:Nat)(ys:List V)(τ:St)(v:V)(H:Hp):Prop:=
 H D=some (.lst ys)/\ys.length < sizeLine/\∃ m',m' < n - i/\LcW n k caps Pv (i + 1) m' τ (ys++[v]) (upd H D (.lst (ys++[v])))
noncomputable def LcS (n k:Nat)(caps:St)(Pv:Nat->List V->Hp->Prop)(i:Nat)(ys:List V)(τ:St)(H:Hp):Prop:=∃ m',m' < n - i/\LcW n k caps Pv (i + 1) m' τ ys H
section
variable {g:TG}{tt:TT}{te:TE}{Q:VK}{τ0:St}{H:Hp}{D:Addr}
end
section
variable {X:Cx}
end
section
variable {X:Cx}{es:List Expr}{te:TE}{t:TA}
end
section
variable {X:Cx}{N:List Str}{scope:Scope}{cl:List (Str×Addr)}{C:Addr}{s₀:Shared}{H₀:Hp}{fp:List Addr}
end
section
variable {X:Cx}
end
section
variable {X:Cx}{N:List Str}{scope:Scope}{cl:List (Str×Addr)}{C:Addr}{s₀:Shared}{H₀:Hp}{fp:List Addr}
end
theorem fm_rev (xs:List Value):∀ n,n<=xs.length->(List.range n).filterMap (fun k=>xs[xs.length - 1 - k]?)=(xs.drop (xs.length - n)).reverse
 | 0,_=>by simp
 | n + 1,h=>by
  rw [List.range_succ,List.filterMap_append,fm_rev xs n (by omega)]
  have hk:xs.length - 1 - n < xs.length:=by omega
  have:xs.drop (xs.length - (n + 1))=xs[xs.length - 1 - n]::xs.drop (xs.length - n):=by
   rw [show xs.length - (n + 1)=xs.length - 1 - n by omega,List.drop_eq_getElem_cons hk,show xs.length - 1 - n + 1=xs.length - n by omega]
  rw [this,List.reverse_cons]
  simp [List.getElem?_eq_getElem hk]
theorem jgW (xs:List Value):slicePick xs.toArray none none (some (-1))=xs.reverse.toArray:=by
 have e:sliceRange ((xs.length:Int) - 1) (-1) (-1)=(List.range xs.length).map fun k=>xs.length - 1 - k:=by
  unfold sliceRange
  have hc:(if (-1:Int) > 0 then (if (xs.length:Int) - 1 < -1 then (-1 - ((xs.length:Int) - 1) + -1 - 1) / -1 else 0) else (if (xs.length:Int) - 1 > -1 then ((xs.length:Int) - 1 - -1 - -1 - 1) / (- -1) else 0)).toNat=xs.length:=by
   rw [if_neg (by omega),show (- -1:Int)=1 from rfl,Int.ediv_one]
   split <;> omega
  simp only [hc]
  refine List.map_congr_left fun k hk=>?_
  have:=List.mem_range.mp hk
  omega
 have b:sliceBounds none none (some (-1)) xs.toArray.size=((xs.length:Int) - 1,-1,-1):=by
  simp [sliceBounds]
 unfold slicePick
 rw [b]
 simp only
 rw [e,List.filterMap_map]
 have:=fm_rev xs xs.length (Nat.le_refl _)
 rw [Nat.sub_self,List.drop_zero] at this
 rw [<- this]
 congr 1
 refine congrArg (fun f=>List.filterMap f (List.range xs.length)) (funext fun k=>?_)
 simp
theorem jhy (xs:List Value):slicePick xs.toArray none none (some 1)=xs.toArray:=by
 have:=slicePick_all xs.toArray
 unfold slicePick at this ⊢
 exact this
theorem Vals.rev {xs:List V}{us:List Value}(r:Vals xs us):Vals xs.reverse us.reverse:=by
 induction r with
 | nil=>exact .nil
 | cons h r ih=>rw [List.reverse_cons,List.reverse_cons]; exact ih.append (.cons h .nil)
section
variable {X:Cx}{e st:Expr}{te tst:TE}{pos p2:Pos}
end
end L2
namespace HT
open PySem PySem.Spec PyProof.Rows
section
variable {prog:Program}{w:World}{A:Around}{E:Value->Shared->Prop}{s:Shared}
theorem getItem_tuple_all {t sl:Addr}{items:Array Value}{vl vu:Value}{lo hi:Option Int}{Q:Value->Shared->Prop}(ht:IsTup s.heap t items)(hs:s.heap.IsSliceOf sl vl vu .none)(pl:IsPart vl lo)(pu:IsPart vu hi)
  (hw:sIx items.size 0 lo=0/\sIx items.size items.size hi=items.size) (h:Q (.ref t) s):wpAny (model prog w) A (getItem (.ref t) (.ref sl)) Q E s:=by
 obtain ⟨os,hos,hcs,hds⟩:=id hs
 have hTs:s.TypeIs (.ref sl) "slice" := ⟨os,hos,hcs⟩
 unfold getItem
 try with_reducible refine wpAny_holding ?_
 first | refine wpAny_bind (wpAny_pure ?_) | skip
 refine wpAny_bind (wpAny_sequenceKey ht.typeIs (by decide) ?_)
 refine wpAny_bind (wpAny_callSpecial?_slot (name:=Str.ofString "__getitem__") ht.typeIs PyProof.Rows.slot_tuple_getitem
  (wpAny_call_entry PyProof.Rows.slot_tuple_getitem ht.typeIs entry_tuple_getitem ?_ (args_tuple_getitem _ _)))
 show wpAny _ _ (Builtin.Tuple.tupleItemsOf (.ref t) >>= _) _ _ s
 refine wpAny_bind (tupleItemsOf_ ht ?_)
 refine wpAny_bind (wpAny_typeOf hTs ?_)
 rw [if_pos (by decide)]
 refine wpAny_bind (jbf hs pl pu ?_)
 have hyes:((((sIx items.size 0 lo:Nat):Int) == 0 && (1:Int) == 1 && (sIx items.size items.size hi - sIx items.size 0 lo) == items.size)=true):=by
  rw [hw.1,hw.2]
  simp
 show wpAny _ _ (if (((sIx items.size 0 lo:Nat):Int) == 0 && (1:Int) == 1 && (sIx items.size items.size hi - sIx items.size 0 lo) == items.size)=true then _ else _) _ _ s
 rw [if_pos hyes]
 refine wpAny_bind (m:=Builtin.Tuple.tupleIsExact (.ref t)) ?_
 unfold Builtin.Tuple.tupleIsExact
 refine wpAny_bind (wpAny_typeOf ht.typeIs (wpAny_pure ?_))
 rw [if_pos (by decide)]
 exact wpAny_bind (wpAny_rule (wpAny_pure ⟨_,rfl,wpAny_pure h⟩))
end
end HT
namespace L2
open PySem PySem.Spec PyProof.Rows
section
variable {X:Cx}
noncomputable def rSlW (K:PySem.W.Frag):V->Option Int->Option Int->Hp->VK->Prop:=fun x lo hi H Q=>∃ a xs,x=.ref a/\SqT K H a xs/\
 (HT.sIx xs.length 0 lo=0/\HT.sIx xs.length xs.length hi=xs.length)/\Q (.ref a) H
theorem jit:SlR X (rSlW X.K):=by
 intro pins s σ H x v vl vu lo hi sl Q I rx hs pl pu h
 obtain ⟨a,xs,rfl,hx,hw,q⟩:=h
 cases rx
 obtain ⟨its,r,ht,hz⟩:=I.tuple hx
 have hlen:its.toArray.size=xs.length:=by rw [List.size_toArray]; exact r.length.symm
 refine ⟨"tuple",_,PyProof.Rows.slot_tuple_getitem.lookup,ht.typeIs,?_⟩
 exact HT.getItem_tuple_all ht hs pl pu (by rw [hlen]; exact hw) ⟨.ref a,H,I,rfl,q⟩
theorem jiu:SlR X (fun x lo hi H Q=>rSlT X.K x lo hi H Q\/rSlW X.K x lo hi H Q):=SlR.or jj2 jit
end
theorem jcG:∀ (xs:List V) (us:List Value),xs.length=us.length->(∀ (i:Nat) (x:V) (u:Value),xs[i]?=some x->us[i]?=some u->RelV x u)->Vals xs us
 | [],[],_,_=>.nil
 | x::xs,u::us,h,g=>.cons (g 0 x u rfl rfl) (jcG xs us (by simpa using h) fun i y z hy hz=>g (i + 1) y z (by simpa using hy) (by simpa using hz))
 | [],_::_,h,_=>by simp at h
 | _::_,[],h,_=>by simp at h
noncomputable def jgQ (ta:TA):TE:=fun σ H Q=>ta σ H fun vs H1=>∃ j:Int,vs=[.int j]/\0<=j/\j<=1000000/\∀ l,H1 l=none->Q (.ref l) (upd H1 l (.lst ((List.range j.toNat).map fun k:Nat=>V.int (k:Int))))
section
variable {X:Cx}
theorem jdW {a:Expr}{ta:TA}{p p2 pos pos2:Pos}(hc:X.calm=true)(hgl:Gl X "list")(hml:X.mg "list" = none)(hgr:Gl X "range")(hmr:X.mg "range" = none)(ha:PA X [a] ta)(hs:starEach [a] X.env=[(false,eval a X.env)]:=by rfl)
  (hs2:starEach [.Call (.Name "range" p2) [a] [] pos2] X.env=[(false,eval (.Call (.Name "range" p2) [a] [] pos2) X.env)]:=by rfl):PE X (.Call (.Name "list" p) [.Call (.Name "range" p2) [a] [] pos2] [] pos) (jgQ ta):=by
 intro pins s σ H Q I h
 refine wpAny_Call_Name_kw (jdj I hgl hml boot_list ?_ (by decide) (by decide))
 refine PyProof.Rows.callWith_type1 ?_ hs2 rfl
 rw [hs2]
 refine Calls.spliced_cons (rest:=[]) ?_
 refine Call_ (jdj I hgr hmr boot_range (PyProof.Rows.callWith_type1 (thn (ha pos2 pins s σ H _ I h) fun us s1 ⟨vs,H1,I1,r1,q1⟩=>?_) hs rfl))
 obtain ⟨j,e,h0,h1,q⟩:=q1
 subst e
 cases r1 with
 | cons r rr=>
  cases rr
  obtain ⟨t,rfl⟩:=r
  refine call_range_1 ?_
  refine wpAny_pure ?_
  have I2:Inv X pins σ H1 { s1 with heap:=s1.heap.push { cls:=.type "range",data:=.fields #[.int 0 s1.toks,.int j t,.int 1 (s1.toks + 1)] },toks:=s1.toks + 1 + 1 }:=I1.kept fun b o e=>Heap.get?_push_of_some _ e
  have hn:Builtin.Range.rangeSize 0 j 1=(j.toNat:Nat):=by rw [rangeSize_one]; split <;> omega
  refine call_list_range (I2.ok.hd hc) (IsRange.new ..) (small_one (by omega) (by omega) (by omega) (by omega)) hn (by omega) fun h' tk acc' c' hk hS' hacc=>?_
  have hv:Vals ((List.range j.toNat).map fun k:Nat=>V.int (k:Int)) acc'.toList:=jcG _ _ (by simp [hacc.1]) fun i x u hx hu=>by
   have hi:i < j.toNat:=by
    have:=(List.getElem?_eq_some_iff.mp hx).1
    simpa using this
   rw [List.getElem?_map,List.getElem?_range hi] at hx
   obtain ⟨tk',e⟩:=hacc.2 i u (by simpa using hu)
   cases hx
   exact ⟨tk',by rw [e]; congr 1; omega⟩
  have hz:((List.range j.toNat).map fun k:Nat=>V.int (k:Int)).length<=sizeLine:=by
   rw [List.length_map,List.length_range]
   exact Nat.le_trans (show j.toNat<=1000000 by omega) (by decide)
  refine ⟨.ref _,_,I2.laid (t':=tk) (o:=.lst ((List.range j.toNat).map fun k:Nat=>V.int (k:Int))) hk (Nat.le_refl _) ?_,rfl,q _ (I2.hok.fresh (Nat.le_refl _))⟩
  exact ⟨hz,_,c',hv,hS'⟩
end
end L2
namespace HT
open PySem PySem.Spec PyProof.Rows
section
variable {prog:Program}{w:World}{A:Around}{E:Value->Shared->Prop}{s:Shared}
theorem jcz {sl:Addr}{t:Tok}{n:Nat}{Q:Int×Int×Nat->Shared->Prop}(hs:s.heap.IsSliceOf sl .none .none (.int (-1) t))(h:Q ((n:Int) - 1,-1,n) s):wpAny (model prog w) A (Builtin.Slice.sliceApplied (.ref sl) (pure (n:Int))) Q E s:=by
 obtain ⟨os,hos,hcs,hds⟩:=id hs
 unfold Builtin.Slice.sliceApplied Builtin.Slice.sliceFields
 refine wpAny_bind (wpAny_bind (wpAny_field hos hds (x:=.none) rfl (wpAny_bind (wpAny_field hos hds (x:=.none) rfl (wpAny_bind (wpAny_field hos hds (x:=.int (-1) t) rfl (wpAny_pure ?_)))))))
 refine wpAny_bind (ja9 (.int (-1) t) ?_)
 show wpAny _ _ (if ((-1:Int) == 0)=true then _ else _) _ _ s
 rw [if_neg (by decide)]
 refine wpAny_bind (ja9 .none (wpAny_bind (ja9 .none (wpAny_bind (wpAny_pure ?_)))))
 have e1:Builtin.Slice.sliceAdjust none none (-1) (n:Int)=((n:Int) - 1,-1):=rfl
 have e2:Builtin.Slice.slicePlaces ((n:Int) - 1) (-1) (-1)=n:=by
  unfold Builtin.Slice.slicePlaces
  rw [if_neg (by omega),show (- -1:Int)=1 from rfl,Int.ediv_one]
  split <;> omega
 show wpAny _ _ (match Builtin.Slice.sliceAdjust none none (-1) (n:Int) with | (lo,hi)=>pure (lo,(-1:Int),Builtin.Slice.slicePlaces lo hi (-1))) _ _ s
 rw [e1]
 show wpAny _ _ (pure ((n:Int) - 1,(-1:Int),Builtin.Slice.slicePlaces ((n:Int) - 1) (-1) (-1))) _ _ s
 rw [e2]
 exact wpAny_pure h
theorem jg5 (xs:List Value):((List.range xs.length).filterMap fun (k:Nat)=>xs.toArray[((xs.length:Int) - 1 + (k:Int) * (-1)).toNat]?).toArray=xs.reverse.toArray:=by
 have:=L2.fm_rev xs xs.length (Nat.le_refl _)
 rw [Nat.sub_self,List.drop_zero] at this
 rw [<- this]
 congr 1
 refine congrArg (fun f=>List.filterMap f (List.range xs.length)) (funext fun k=>?_)
 rw [show ((xs.length:Int) - 1 + (k:Int) * (-1)).toNat=xs.length - 1 - k by omega]
 simp
theorem getItem_tuple_rev {t sl:Addr}{its:List Value}{tk:Tok}{Q:Value->Shared->Prop}(ht:IsTup s.heap t its.toArray)(hs:s.heap.IsSliceOf sl .none .none (.int (-1) tk))
  (h:Q (.ref s.heap.objs.size) { s with heap:=s.heap.push { cls:=.type "tuple",data:=.seq its.reverse.toArray } }) (hsz:its.length<=sizeLine):wpAny (model prog w) A (getItem (.ref t) (.ref sl)) Q E s:=by
 have htake:sizeOk (.seq its.reverse.toArray):=by
  show its.reverse.toArray.size<=sizeLine
  rw [List.size_toArray,List.length_reverse]
  exact hsz
 obtain ⟨os,hos,hcs,hds⟩:=id hs
 have hTs:s.TypeIs (.ref sl) "slice" := ⟨os,hos,hcs⟩
 unfold getItem
 try with_reducible refine wpAny_holding ?_
 first | refine wpAny_bind (wpAny_pure ?_) | skip
 refine wpAny_bind (wpAny_sequenceKey ht.typeIs (by decide) ?_)
 refine wpAny_bind (wpAny_callSpecial?_slot (name:=Str.ofString "__getitem__") ht.typeIs PyProof.Rows.slot_tuple_getitem
  (wpAny_call_entry PyProof.Rows.slot_tuple_getitem ht.typeIs entry_tuple_getitem ?_ (args_tuple_getitem _ _)))
 show wpAny _ _ (Builtin.Tuple.tupleItemsOf (.ref t) >>= _) _ _ s
 refine wpAny_bind (tupleItemsOf_ ht ?_)
 refine wpAny_bind (wpAny_typeOf hTs ?_)
 rw [if_pos (by decide)]
 refine wpAny_bind (jcz (n:=its.length) hs ?_)
 have hno:¬ ((((its.length:Int) - 1) == 0 && (-1:Int) == 1 && its.length == its.toArray.size)=true):=by simp
 show wpAny _ _ (if (((its.length:Int) - 1) == 0 && (-1:Int) == 1 && its.length == its.toArray.size)=true then _ else _) _ _ s
 rw [if_neg hno,jg5]
 first
  | exact wpAny_bind (m:=Builtin.Tuple.tupleExact _) (wpAny_newObj_type (wpAny_pure ⟨_,rfl,wpAny_pure h⟩) htake)
  | exact wpAny_bind (m:=Builtin.Tuple.tupleExact _) (wpAny_newObj_type (wpAny_bind (wpAny_pure (wpAny_pure ⟨_,rfl,wpAny_pure h⟩))) htake)
  | exact wpAny_bind (wpAny_bind (m:=Builtin.Tuple.tupleExact _) (wpAny_newObj_type (wpAny_pure (wpAny_pure ⟨_,rfl,wpAny_pure h⟩)) htake))
  | exact wpAny_bind (wpAny_bind (m:=Builtin.Tuple.tupleExact _) (wpAny_newObj_type (wpAny_pure ⟨_,rfl,wpAny_pure h⟩) htake))
end
end HT
namespace L2
open PySem PySem.Spec PyProof.Rows
section
variable {X:Cx}{e st:Expr}{te tst:TE}{pos p2:Pos}
end
section
variable {X:Cx}{N:List Str}{scope:Scope}{cl:List (Str×Addr)}{C:Addr}{s₀:Shared}{H₀:Hp}{fp:List Addr}
end
end L2

namespace L2
open PySem PySem.Spec PyProof.Rows
set_option maxHeartbeats 4000000
section
variable {X:Cx}{pos:Pos}
noncomputable def jmu (K:PySem.W.Frag):R2:=fun x y H Q=>∃ a b xs ys,x=.ref a/\y=.ref b/\SqT K H a xs/\SqT K H b ys/\xs.length + ys.length<=sizeLine/\
 (xs=[]->Q (.ref b) H)/\(xs≠[]->ys=[]->Q (.ref a) H)/\(xs≠[]->ys≠[]->∀ p,H p=none->Q (.ref p) (upd H p (.tup (xs++ys))))
theorem ji1:OpR X (binaryOp .Add) (jmu X.K):=by
 intro pins s σ H x y v u Q I rx ry h
 obtain ⟨a,b,xs,ys,rfl,rfl,ha,hb,hz,q0,q1,q2⟩:=h
 by_cases hx:xs=[]
 ·cases rx
  cases ry
  obtain ⟨its,r1,p1,_⟩:=I.tuple ha
  obtain ⟨its2,r2,p2,_⟩:=I.tuple hb
  have hv:its=[]:=r1.nil_iff.mpr hx
  subst hv
  obtain ⟨⟨cls,dd,data,sl⟩,ho,hc,n,hd⟩:=id p1
  obtain ⟨⟨cls2,dd2,data2,sl2⟩,ho2,hc2,n2,hd2⟩:=id p2
  simp only at hc hd hc2 hd2
  subst hc hd hc2 hd2
  exact concat_meets ⟨_,ho,rfl⟩ ⟨_,ho2,rfl⟩ noFill_tuple_add seq_tuple_add PySem.F.slot_tuple_add PySem.F.entry_tuple_add (PySem.F.args_tuple_add_2 _ _)
   (tuple_addW0 a b _ its2.toArray n n2 dd dd2 sl sl2 rfl) ⟨ho,ho2,⟨.ref b,H,I,rfl,q0 hx⟩⟩
 ·exact ji0 pins s σ H _ _ _ _ Q I rx ry ⟨a,b,xs,ys,rfl,rfl,ha,hb,hx,hz,q1 hx,q2 hx⟩
theorem jfq {k:Nat}(hr:Room k X.A):OpR X (compareOp .Eq) (fun x y H Q=>∃ a b xs,x=.ref a/\y=.ref b/\SqT X.K H a xs/\SqT X.K H b []/\Q (.bl xs.isEmpty) H):=by
 intro pins s σ H x y v u Q I rx ry h
 obtain ⟨a,b,xs,rfl,rfl,ha,hb,q⟩:=h
 cases rx; cases ry
 obtain ⟨its,rv,pa,_⟩:=I.tuple ha
 obtain ⟨its2,rv2,pb,_⟩:=I.tuple hb
 cases rv2
 have hu:X.A.units < cLine:=hr.units0
 have e:((List.range (min its.toArray.size ([]:List Value).toArray.size)).all (fun _=>true) && its.toArray.size == ([]:List Value).toArray.size)=xs.isEmpty:=by
  cases rv <;> simp
 refine EqBoolInt.of_rc (SeqAt.RcAt.tuples (e:=fun _=>true) (show s.heap.IsTuple a its.toArray from pa) (show s.heap.IsTuple b ([]:List Value).toArray from pb) hu fun j _ h2=>?_) ?_
 ·simp at h2
 ·rw [e]
  exact ⟨.bl xs.isEmpty,H,I,rfl,q⟩
end
section
variable {X:Cx}{N:List Str}{scope:Scope}{cl:List (Str×Addr)}{C:Addr}{s₀:Shared}{H₀:Hp}{fp:List Addr}
end
section
variable {X:Cx}
end
section
variable {X:Cx}{N:List Str}{scope:Scope}{cl:List (Str×Addr)}{C:Addr}{s₀:Shared}{H₀:Hp}{fp:List Addr}
end
section
variable {X:Cx}
noncomputable def jkg (K:PySem.W.Frag)(neg:Bool):R2:=fun x y H Q=>∃ d e,DV K H x d/\DV K H y e/\d.canLay0=true/\e.canLay0=true/\d.depth<=100/\Q (.bl (if neg then !PyData.eqv d e else PyData.eqv d e)) H
theorem jkI {k:Nat}(hr:Room k X.A):OpR X (compareOp .NotEq) (jkg X.K true):=by
 intro pins s σ H x y v u Q I rx ry h
 obtain ⟨d,e,hd,he,c1,c2,hk,q⟩:=h
 obtain ⟨as,ra⟩:=hd.reads I rx
 obtain ⟨bs,rb⟩:=he.reads I ry
 exact SeqAt.compareNe_reads ra rb c1 c2 (by have:=hr.un; omega) ⟨.bl _,H,I,rfl,q⟩
theorem jkM {k:Nat}(hr:Room k X.A):OpR X (compareOp .Eq) (jkg X.K false):=by
 intro pins s σ H x y v u Q I rx ry h
 obtain ⟨d,e,hd,he,c1,c2,hk,q⟩:=h
 obtain ⟨as,ra⟩:=hd.reads I rx
 obtain ⟨bs,rb⟩:=he.reads I ry
 exact SeqAt.compareEq_reads ra rb c1 c2 (by have:=hr.un; omega) ⟨.bl _,H,I,rfl,q⟩
end
section
variable {X:Cx}{N:List Str}{scope:Scope}{cl:List (Str×Addr)}{C:Addr}{s₀:Shared}{H₀:Hp}{fp:List Addr}
end
mutual
noncomputable def noB:PyData->Bool
 | .none=>true
 | .bool _=>false
 | .int _=>true
 | .str _=>true
 | .list ds=>noBs ds
 | .tuple ds=>noBs ds
 | .dict _=>false
noncomputable def noBs:List PyData->Bool
 | []=>true
 | d::r=>noB d && noBs r
end
mutual
theorem jh5:∀ {d e:PyData},noB d=true->noB e=true->PyData.eqv d e=true->d=e
 | .none,.none,_,_,_=>rfl
 | .int i,.int j,_,_,h=>by rw [PyData.eqv] at h; rw [eq_of_beq h]
 | .str i,.str j,_,_,h=>by rw [PyData.eqv] at h; rw [eq_of_beq h]
 | .list xs,.list ys,h1,h2,h=>by rw [PyData.eqv] at h; rw [noB] at h1 h2; rw [jeI h1 h2 h]
 | .tuple xs,.tuple ys,h1,h2,h=>by rw [PyData.eqv] at h; rw [noB] at h1 h2; rw [jeI h1 h2 h]
 | .bool _,_,h,_,_=>by rw [noB] at h; cases h
 | .dict _,_,h,_,_=>by rw [noB] at h; cases h
 | .none,.bool _,_,h,_ | .int _,.bool _,_,h,_ | .str _,.bool _,_,h,_ | .list _,.bool _,_,h,_ | .tuple _,.bool _,_,h,_=>by rw [noB] at h; cases h
 | .none,.dict _,_,h,_ | .int _,.dict _,_,h,_ | .str _,.dict _,_,h,_ | .list _,.dict _,_,h,_ | .tuple _,.dict _,_,h,_=>by rw [noB] at h; cases h
 | .none,.int _,_,_,h | .none,.str _,_,_,h | .none,.list _,_,_,h | .none,.tuple _,_,_,h=>by rw [PyData.eqv] at h; cases h
 | .int _,.none,_,_,h | .int _,.str _,_,_,h | .int _,.list _,_,_,h | .int _,.tuple _,_,_,h=>by rw [PyData.eqv] at h; cases h
 | .str _,.none,_,_,h | .str _,.int _,_,_,h | .str _,.list _,_,_,h | .str _,.tuple _,_,_,h=>by rw [PyData.eqv] at h; cases h
 | .list _,.none,_,_,h | .list _,.int _,_,_,h | .list _,.str _,_,_,h | .list _,.tuple _,_,_,h=>by rw [PyData.eqv] at h; cases h
 | .tuple _,.none,_,_,h | .tuple _,.int _,_,_,h | .tuple _,.str _,_,_,h | .tuple _,.list _,_,_,h=>by rw [PyData.eqv] at h; cases h
theorem jeI:∀ {ds es:List PyData},noBs ds=true->noBs es=true->PyData.eqvAll ds es=true->ds=es
 | [],[],_,_,_=>rfl
 | d::r,e::q,h1,h2,h=>by
  rw [noBs,Bool.and_eq_true] at h1 h2
  rw [PyData.eqvAll,Bool.and_eq_true] at h
  rw [jh5 h1.1 h2.1 h.1,jeI h1.2 h2.2 h.2]
 | [],_::_,_,_,h=>by rw [PyData.eqvAll] at h; cases h
 | _::_,[],_,_,h=>by rw [PyData.eqvAll] at h; cases h
end
section
variable {X:Cx}
end
section
variable {X:Cx}{N:List Str}{scope:Scope}{cl:List (Str×Addr)}{C:Addr}{s₀:Shared}{H₀:Hp}{fp:List Addr}
end
theorem jdl (ds:List PyData):PyData.eqvAll ds []=ds.isEmpty:=by
 cases ds <;> rfl
theorem jcB:fillsNumberSlot (.type "tuple") "mul" = pure false:=
 PySem.fillsNumberSlot_seq (id := "tuple.__mul__") (r:=some (.builtin "tuple.__rmul__")) F.slot_tuple_mul.lookup (by decide +kernel) F.slot_tuple_rmul.lookup (by decide +kernel)
theorem jdU:seqRepeat? (.type "tuple")=pure (some (.builtin "tuple.__mul__")):=by
 unfold seqRepeat?
 rw [PySem.seqSlot_of (T := "tuple") (name := "__mul__") (id := "tuple.__mul__") F.slot_tuple_mul.lookup (by decide +kernel),PySem.seqSlot_of (T := "tuple") (name := "__rmul__") (id := "tuple.__rmul__") F.slot_tuple_rmul.lookup (by decide +kernel)]
 rfl
theorem jda (a:Int)(t:Tok)(l:Addr)(items:Array Value)(n:Nat)(dd:Option Addr)(sl:Array (Option Value)) :
  Meets (Builtin.«int.__rmul__» ⟨[.int a t,.ref l],[]⟩) (fun _ R s=>s.heap.get? l=some { cls:=.type "tuple",dict:=dd,data:=.seq items n,slots:=sl }/\R (.ok (.ret Value.notImplemented)) s):=
 .of_wp fun prog w A R s h=>by obtain ⟨hp,g,d,tk,os⟩:=s; obtain ⟨hl,h⟩:=h; wp_walk; exact ⟨_,rfl,h⟩
theorem jfk (l:Addr)(items:Array Value)(n:Nat)(dd:Option Addr)(sl:Array (Option Value))(x:Int)(t:Tok)(hx:2<=x)(hx2:x < 2 ^ 62)(h0:items.isEmpty=false)(hsz:items.size * x.toNat<=sizeLine) :
  Meets (Builtin.«tuple.__mul__» ⟨[.ref l,.int x t],[]⟩)
   (fun A R s=>s.heap.get? l=some { cls:=.type "tuple",dict:=dd,data:=.seq items n,slots:=sl }/\R (.ok (.ret (.ref s.heap.objs.size))) { s with heap:=s.heap.push { cls:=.type "tuple",data:=.seq ((List.replicate x.toNat items).foldl (·++·) #[]) } }):=
 .of_wp fun prog w A R s h=>by
  obtain ⟨hp,g,d,tk,os⟩:=s; obtain ⟨hl,h⟩:=h
  have c1:(decide (x < -2 ^ 63) || decide (x ≥ 2 ^ 63))=false:=by simp; omega
  have c2:(items.isEmpty || x == 1)=false:=by rw [h0]; simp; omega
  have c3:(decide (x<=0) || items.isEmpty)=false:=by rw [h0]; simp; omega
  have hz:(items.size:Int) * x=((items.size * x.toNat:Nat):Int):=by rw [Int.natCast_mul,Int.toNat_of_nonneg (by omega)]
  have h63:(sizeLine:Nat)<=(2 ^ 63 - 1) / 8:=by decide
  wp_walk using wpAny_loadPart' hl
  simp only [c1,Bool.false_eq_true,if_false]
  wp_walk using wpAny_loadPart' hl
  simp only [c2,c3,Bool.false_eq_true,if_false]
  rw [if_neg (by rw [hz]; omega)]
  have c4:Builtin.Tuple.tupleTooMany ((items.size:Int) * x)=false:=by
   rw [hz]
   unfold Builtin.Tuple.tupleTooMany
   exact decide_eq_false (by omega)
  simp only [c4,Bool.false_eq_true,if_false]
  have hs:(List.foldl (fun x1 x2=>x1++x2) #[] (List.replicate x.toNat items)).size<=sizeLine:=by
   rw [AutoListH.size_joined]
   simp only [List.size_toArray,List.length_nil,Nat.zero_add]
   rw [Nat.mul_comm]
   exact hsz
  revert hs h
  generalize List.foldl (fun x1 x2=>x1++x2) #[] (List.replicate x.toNat items)=G
  intro h hs
  wp_walk
  exact ⟨_,rfl,h⟩
theorem jfl (l:Addr)(items:Array Value)(n:Nat)(dd:Option Addr)(sl:Array (Option Value))(t:Tok) :
  Meets (Builtin.«tuple.__mul__» ⟨[.ref l,.int 1 t],[]⟩)
   (fun A R s=>s.heap.get? l=some { cls:=.type "tuple",dict:=dd,data:=.seq items n,slots:=sl }/\R (.ok (.ret (.ref l))) s):=
 .of_wp fun prog w A R s h=>by
  obtain ⟨hp,g,d,tk,os⟩:=s; obtain ⟨hl,h⟩:=h
  have c1:(decide ((1:Int) < -2 ^ 63) || decide ((1:Int) ≥ 2 ^ 63))=false:=by decide
  have c2:(items.isEmpty || (1:Int) == 1)=true:=by simp
  wp_walk using wpAny_loadPart' hl
  exact ⟨_,rfl,h⟩
section
variable {X:Cx}
noncomputable def jms (K:PySem.W.Frag):R2:=fun x y H Q=>∃ l k xs,x=.ref l/\y=.int k/\SqT K H l xs/\xs≠[]/\1<=k/\k < 2 ^ 62/\xs.length * k.toNat<=sizeLine/\(k=1->Q (.ref l) H)/\(k≠1->∀ p,H p=none->Q (.ref p) (upd H p (.tup (List.replicate k.toNat xs).flatten)))
theorem jiY:OpR X (binaryOp .Mult) (jms X.K):=by
 intro pins s σ H x y v u Q I rx ry h
 obtain ⟨l,k,xs,rfl,rfl,hH,h0,h1,h2,hz,q1,q2⟩:=h
 cases rx
 obtain ⟨t,rfl⟩:=ry
 obtain ⟨its,r,pl,_⟩:=I.tuple hH
 have hl:=r.length
 obtain ⟨⟨cls,dd,data,sl⟩,e,hc,n,hd⟩:=id pl
 simp only at hc hd
 subst hc hd
 have hne:its≠[]:=fun z=>h0 (r.nil_iff.mp z)
 refine wpAny_binaryOp_repeat_ref (T := "tuple") (U := "int") (by decide) ⟨_,e,rfl⟩ (fun s'=>typeIs_int s' k t) jcB F.fills_int_mul F.slot_int_rmul jdU F.slot_int_index.lookup
  (call_meets F.slot_int_rmul (typeIs_int s k t) F.entry_int_rmul (F.args_int_rmul_2 _ _) (jda k t l its.toArray n dd sl) ⟨e,rfl,⟨_,e,rfl⟩,?_⟩)
 by_cases hk:k=1
 ·subst hk
  exact call_meets F.slot_tuple_mul ⟨_,e,rfl⟩ F.entry_tuple_mul (F.args_tuple_mul_2 _ _) (jfl l its.toArray n dd sl t) ⟨e,⟨.ref l,H,I,rfl,q1 rfl⟩⟩
 ·refine call_meets F.slot_tuple_mul ⟨_,e,rfl⟩ F.entry_tuple_mul (F.args_tuple_mul_2 _ _) (jfk l its.toArray n dd sl k t (by omega) h2 (by simpa using hne) (by rw [List.size_toArray,<- hl]; exact hz)) ⟨e,?_⟩
  have f0:=jcY its k.toNat []
  rw [List.nil_append] at f0
  rw [f0]
  refine ⟨.ref s.heap.objs.size,_,I.laid (t':=s.toks) (o:=.tup (List.replicate k.toNat xs).flatten) (fun b ob q=>Heap.get?_push_of_some _ q) (Nat.le_refl _) ?_,rfl,q2 hk _ (I.hok.fresh (Nat.le_refl _))⟩
  exact ⟨by rw [jgk,Nat.mul_comm]; exact hz,_,r.rep k.toNat,TupD.new _ _⟩
theorem jdc:∀ {bs:List Bool} {us:List Value} {i:Nat} {v:Value},Vals (bs.map V.bl) us->us[i]?=some v->∃ b,bs[i]?=some b/\v=.bool b
 | b::r,_,0,v,.cons e q,h=>by
  cases e
  exact ⟨b,rfl,(Option.some.inj h).symm⟩
 | b::r,_,i + 1,v,.cons e q,h=>jdc (bs:=r) (i:=i) q (by simpa using h)
 | [],_,i,v,.nil,h=>by simp at h
theorem jfG {pins:List (Addr×Obj)}{s:Shared}{σ:St}{H:Hp}{p:Addr}{bs:List Bool}(hc:X.calm=true)(I:Inv X pins σ H s)(hq:SqL X.K H p (bs.map V.bl))(d:Bool) :
  ∃ its fp wr P S,s.heap.IsList p its/\Walks X.prog X.w X.A.in1 s.heap.objs.size fp wr bs.length P S/\S 0 (s.heap.push ⟨.type "list_iterator",none,.fields #[.ref p,.int 0 0],#[]⟩)/\TruthOf X.prog X.w X.A.in1 P (fun i=>(bs[i]?).getD d)/\
   ∀ h':Heap,(∀ b o,b∉wr->(s.heap.push ⟨.type "list_iterator",none,.fields #[.ref p,.int 0 0],#[]⟩).get? b=some o->h'.get? b=some o)->∀ b o,s.heap.get? b=some o->h'.get? b=some o:=by
 obtain ⟨its,r',pl,-⟩:=I.list hq
 have n:its.toArray.size=bs.length:=by simpa using r'.length.symm
 obtain ⟨o,ho,-⟩:=id pl.isList
 have W:=Walks.list (prog:=X.prog) (w:=X.w) (A:=X.A.in1) (I.ok.hd hc) s.heap.objs.size p (Nat.ne_of_lt (Heap.lt_size ho)) its.toArray
 rw [n] at W
 refine ⟨its.toArray,_,_,_,_,pl.isList,W,⟨⟨_,Heap.get?_push_size _ rfl,rfl,rfl⟩,pl.isList.push _⟩,fun i v t Q E hP hQ=>?_,fun h' hk b o e=>hk b o (fun m=>?_) (Heap.get?_push_of_some _ e)⟩
 ·obtain ⟨b,e,rfl⟩:=jdc (i:=i) (v:=v) r' (by simpa using hP)
  exact wpAny_truthy_bool (by simpa only [e,Option.getD] using hQ)
 ·exact absurd (Heap.lt_size e) (by rw [List.mem_singleton.mp m]; exact Nat.lt_irrefl _)
end
section
variable {X:Cx}
end
end L2

namespace L2
open PySem PySem.Spec PyProof.Rows
open Sem (wp)
open AutoSeq1 (wpAny_loadPart')
set_option maxHeartbeats 4000000
section
variable {prog:Program}{w:World}{A:Around}{E:Value->Shared->Prop}{s:Shared}
end
section
variable {X:Cx}{pins:List (Addr×Obj)}{σ:St}{H:Hp}{s:Shared}{h':Heap}
end
section
variable {X:Cx}
end
end L2

namespace L2
open PySem PySem.Spec PyProof.Rows
set_option maxHeartbeats 4000000
section
variable {X:Cx}
theorem jeN:jbd X (.builtin "isinstance") (fun xs H Q=>∃ (x:V) (c:String) (t:Value) (b:Bool),xs=[x,.ty c]/\TyOf X.K H x t/\PySem.W.kitOne X.K t (.type c)=some b/\Q (.bl b) H):=by
 intro pins s σ H xs us Q I r h
 obtain ⟨x,c,t,b,rfl,ty,e,q⟩:=h
 obtain ⟨u,v,rfl,ru,rv⟩:=Vals.two r
 cases rv
 exact jgq I ru ty e fun tk=>⟨.bl b,H,I.tok tk,rfl,q⟩
end
section
variable {prog:Program}{w:World}{A:Around}{R:Result->Shared->Prop}{I:Addr}{fp wr:List Addr}{n:Nat}{P:Nat->Value->Prop}{St:Nat->Heap->Prop}
end
section
variable {prog:Program}{w:World}{A:Around}{E:Value->Shared->Prop}{s:Shared}
end

noncomputable def jlo (ks:List (List Int)):Nat:=argBest (fun i j=>HT.lexLt (ks.getD i []) (ks.getD j [])) (ks.length - 1)
section
variable {X:Cx}
end
end L2

namespace L2
open PySem PySem.Spec PyProof.Rows PySem.W
set_option maxHeartbeats 4000000
section
variable {n:Nat}{lt:Nat->Nat->Bool}{cmp:Nat->Nat->(Bool->Shared->Prop)->Shared->Prop}{s:Shared}
structure Asks (n:Nat)(lt:Nat->Nat->Bool)(cmp:Nat->Nat->(Bool->Shared->Prop)->Shared->Prop)(s:Shared):Prop where
 ask:∀ i j C,i < n->j < n->C (lt i j) s->cmp i j C s
 tr:∀ i j k,i < n->j < n->k < n->lt i j=true->lt j k=true->lt i k=true
 tot:∀ i j,i < n->j < n->i≠j->lt i j=true\/lt j i=true
 ir:∀ i,i < n->lt i i=false
noncomputable def gD (p:Array Nat)(k:Nat):Nat:=p.getD k 0
structure Arr (n:Nat)(p:Array Nat):Prop where
 z:p.size=n
 b:∀ i,i < n->gD p i < n
 inj:∀ i j,i < n->j < n->gD p i=gD p j->i=j
 pm:p.toList.Perm (List.range n)
noncomputable def Asc (lt:Nat->Nat->Bool)(p:Array Nat)(m:Nat):Prop:=∀ i,i + 1 < m->lt (gD p i) (gD p (i + 1))=true
end
end L2

namespace L2
open PySem PySem.Spec PyProof.Rows PySem.W
open PySem.AutoSeq1 (wpAny_loadPart')
open PySem.MeetsSeq PySem.MeetsSeq2 PySem.MeetsSeq3
set_option maxHeartbeats 4000000
end L2

namespace L2
open PySem PySem.Spec PyProof.Rows PySem.W
set_option maxHeartbeats 4000000

section
variable {prog:Program}{w:World}{A:Around}{E:Value->Shared->Prop}{s:Shared}{κ:SortKind}{S:Keyed->Prop}{ρ:Keyed->Int}
end
section
variable {ρ:Keyed->Int}
noncomputable def Srt (ρ:Keyed->Int)(l:List Keyed):Prop:=l.Pairwise fun x y=>ρ x<=ρ y
structure Mg (ρ:Keyed->Int)(a b out xs ys:List Keyed):Prop where
 sx:Srt ρ (out++xs)
 sy:Srt ρ (out++ys)
 pm:(out++xs++ys).Perm (a++b)
variable {a b out xs ys x1 y1:List Keyed}
end
section
variable {α:Type}{a:Array α}{i k:Nat}{x:α}
end
section
noncomputable abbrev T2:=Option (Array Keyed)×Array Keyed×Nat×Nat×Nat×Nat×Nat
end
structure Fr (st st':SortSt):Prop where
 k:kindOf st'=kindOf st
 a:arrOf st'=arrOf st
 p:pendingOf st'=pendingOf st
 f:failedOf st'=failedOf st
noncomputable def Fin2 (ρ:Keyed->Int)(a b zs:Array Keyed):Prop:=Srt ρ zs.toList/\zs.toList.Perm (a.toList++b.toList)
structure Two2 (S:Keyed->Prop)(ρ:Keyed->Int)(a b:Array Keyed):Prop where
 sa:∀ (i:Nat) (x:Keyed),a[i]?=some x->S x
 sb:∀ (i:Nat) (x:Keyed),b[i]?=some x->S x
 oa:Srt ρ a.toList
 ob:Srt ρ b.toList
 last:∀ x,a[a.size - 1]?=some x->∀ y∈b.toList,ρ y<=ρ x
 first:∀ y,b[0]?=some y->∀ x∈a.toList,ρ y<=ρ x
 na:0 < a.size
 nb:0 < b.size
structure Lo (ρ:Keyed->Int)(a b out:Array Keyed)(ia ib:Nat):Prop where
 m:Mg ρ a.toList b.toList out.toList (a.toList.drop ia) (b.toList.drop ib)
 ia:ia + 1 < a.size
 ib:ib < b.size
section
variable {S:Keyed->Prop}{ρ:Keyed->Int}{a b out:Array Keyed}{ia ib k:Nat}{x y:Keyed}
end
section
variable {prog:Program}{w:World}{A:Around}{E:Value->Shared->Prop}{s:Shared}{κ:SortKind}{S:Keyed->Prop}{ρ:Keyed->Int}{a b out:Array Keyed}{ia ib g ac bc m:Nat}{st0 st:SortSt}{Q:ForInStep T2->SortSt->Prop}
structure Out2 (ρ:Keyed->Int)(a b:Array Keyed)(st0:SortSt)(m:Nat)(Q:ForInStep T2->SortSt->Prop):Prop where
 fin:∀ zs d st',Fr st0 st'->Fin2 ρ a b zs->Q (.done (some zs,d)) st'
 go:∀ out ia ib g ac bc st',Fr st0 st'->Lo ρ a b out ia ib->m<=ia + ib->Q (.done (none,out,ia,ib,g,ac,bc)) st'/\Q (.yield (none,out,ia,ib,g,ac,bc)) st'
end
section
noncomputable abbrev H2:=Option (Array Keyed)×Nat×Nat×Array Keyed×Nat×Nat×Nat
noncomputable abbrev H1:=Option (Array Keyed)×Nat×Nat×Array Keyed×Nat×Nat
end
structure Mh (ρ:Keyed->Int)(a b xs ys o:List Keyed):Prop where
 sx:Srt ρ (xs++o)
 sy:Srt ρ (ys++o)
 pm:(xs++ys++o).Perm (a++b)
section
variable {ρ:Keyed->Int}{a b o xs ys x1 y1:List Keyed}
end
section
variable {α:Type}{a:Array α}{i k:Nat}{x:α}
end
structure Hi (ρ:Keyed->Int)(a b out:Array Keyed)(na nb:Nat):Prop where
 m:Mh ρ a.toList b.toList (a.toList.take na) (b.toList.take nb) out.toList.reverse
 a0:0 < na
 b1:1 < nb
 la:na<=a.size
 lb:nb<=b.size
section
variable {S:Keyed->Prop}{ρ:Keyed->Int}{a b out:Array Keyed}{na nb k:Nat}{x y:Keyed}
end
section
variable {prog:Program}{w:World}{A:Around}{E:Value->Shared->Prop}{s:Shared}{κ:SortKind}{S:Keyed->Prop}{ρ:Keyed->Int}{a b out:Array Keyed}{na nb g ac bc m:Nat}{st0 st:SortSt}{Q:ForInStep H2->SortSt->Prop}
structure Oh2 (ρ:Keyed->Int)(a b:Array Keyed)(st0:SortSt)(m:Nat)(Q:ForInStep H2->SortSt->Prop):Prop where
 fin:∀ zs d st',Fr st0 st'->Fin2 ρ a b zs->Q (.done (some zs,d)) st'
 go:∀ na nb out g ac bc st',Fr st0 st'->Hi ρ a b out na nb->na + nb<=m->Q (.done (none,na,nb,out,g,ac,bc)) st'/\Q (.yield (none,na,nb,out,g,ac,bc)) st'
end
section
variable {α:Type}
end
section
variable {prog:Program}{w:World}{A:Around}{E:Value->Shared->Prop}{s:Shared}{κ:SortKind}{S:Keyed->Prop}{ρ:Keyed->Int}
structure Base2 (κ:SortKind)(S:Keyed->Prop)(st:SortSt):Prop where
 k:kindOf st=κ
 f:failedOf st=none
 S:∀ x∈(arrOf st).toList,S x
end
noncomputable def kk (ρ:Keyed->Int)(xs:Array Keyed)(i:Nat):Int:=match xs[i]? with
 | some x=>ρ x
 | none=>0
noncomputable def Up2 (ρ:Keyed->Int)(xs:Array Keyed)(l h:Nat):Prop:=∀ i j,l<=i->i<=j->j < h->kk ρ xs i<=kk ρ xs j
structure Ch (l:Nat)(st st':SortSt):Prop where
 e:st'=setArr st (arrOf st')
 pm:(arrOf st').Perm (arrOf st)
 pre:∀ i,i < l->(arrOf st')[i]?=(arrOf st)[i]?
section
end
section
variable {prog:Program}{w:World}{A:Around}{E:Value->Shared->Prop}{s:Shared}{κ:SortKind}{S:Keyed->Prop}{ρ:Keyed->Int}{l n h:Nat}{st:SortSt}
end
noncomputable def starts:Nat->List (List Keyed)->List (Nat×Nat)
 | _,[]=>[]
 | b,r::rs=>(b,r.length)::starts (b + r.length) rs
noncomputable abbrev prd (p:Nat×Nat×Nat):Nat×Nat:=(p.1,p.2.1)
structure Rws (ρ:Keyed->Int)(st:SortSt)(rs:List (List Keyed))(rest:List Keyed):Prop where
 ar:(arrOf st).toList=rs.flatten++rest
 pd:(pendingOf st).toList.map prd=starts 0 rs
 ok:∀ r∈rs,r≠[]/\Srt ρ r
section
variable {prog:Program}{w:World}{A:Around}{E:Value->Shared->Prop}{s:Shared}{κ:SortKind}{S:Keyed->Prop}{ρ:Keyed->Int}{st:SortSt}{rs:List (List Keyed)}{rest:List Keyed}
end
section
variable {prog:Program}{w:World}{A:Around}{E:Value->Shared->Prop}{s:Shared}{κ:SortKind}{S:Keyed->Prop}{ρ:Keyed->Int}{st:SortSt}{rs:List (List Keyed)}{rest:List Keyed}
end
section
variable {prog:Program}{w:World}{A:Around}{s:Shared}
open Classical in
end
section
variable {prog:Program}{w:World}{A:Around}{E:Value->Shared->Prop}{s:Shared}
end

section
variable {X:Cx}
end
section
variable {X:Cx}
theorem jch:∀ r:List Int,PyData.canLayAll0 (r.map .int)=true/\PyData.depthAll (r.map .int)=0/\noBs (r.map .int)=true
 | []=>⟨rfl,rfl,rfl⟩
 | i::r=>by
  obtain ⟨h1,h2,h3⟩:=jch r
  refine ⟨?_,?_,?_⟩
  ·show ((PyData.int i).canLay0 && PyData.canLayAll0 (r.map .int))=true
   rw [h1]; rfl
  ·show max (PyData.int i).depth (PyData.depthAll (r.map .int))=0
   rw [h2]; rfl
  ·show (noB (.int i) && noBs (r.map .int))=true
   rw [h3]; rfl
theorem jfa:∀ {l l':List Int},l.map PyData.int=l'.map PyData.int->l=l'
 | [],[],_=>rfl
 | [],_::_,h=>by cases h
 | _::_,[],h=>by cases h
 | a::l,b::l',h=>by
  have h:=List.cons.inj h
  rw [PyData.int.inj h.1,jfa h.2]
theorem jjr (k k':List Int):PyData.eqv (.list (k.map .int)) (.list (k'.map .int))=decide (k=k'):=by
 by_cases h:k=k'
 ·rw [h,PySem.SeqAt.eqv_refl (.list (k'.map .int)) (jch k').1]; simp
 ·cases e:PyData.eqv (.list (k.map .int)) (.list (k'.map .int)) with
  | false=>simp [h]
  | true=>
   have e:=PyData.list.inj (jh5 (d:=.list (k.map .int)) (e:=.list (k'.map .int)) (jch k).2.2 (jch k').2.2 e)
   exact absurd (jfa e) h

noncomputable def rInD (X:Cx)(neg:Bool):R2:=fun x y H Q=>∃ (p:Addr) (vs:List V) (d:PyData) (ds:List PyData),y=.ref p/\SqL X.K H p vs/\DV X.K H x d/\DVs X.K H vs ds/\d.canLay0=true/\d.depth<=100/\(∀ e∈ds,e.canLay0=true)/\Q (.bl (if neg then !(ds.any fun e=>PyData.eqv e d) else ds.any fun e=>PyData.eqv e d)) H
open Classical in
noncomputable def eD (h:Heap)(d:PyData)(w:Value):Bool:=decide (∃ e as,e.canLay0=true/\Reads h w e as/\PyData.eqv e d=true)
open Classical in
theorem jlk {h:Heap}{d e:PyData}{w:Value}{as:List Addr}(r:Reads h w e as)(c:e.canLay0=true):eD h d w=PyData.eqv e d:=by
 unfold eD
 cases q:PyData.eqv e d with
 | true=>exact decide_eq_true ⟨e,as,c,r,q⟩
 | false=>
  refine decide_eq_false fun ⟨e',as',c',r',q'⟩=>?_
  rw [SeqAt.Reads.unique e' e w as' as c' r' r,q] at q'
  cases q'
theorem jgu {h:Heap}{d:PyData}:∀ {us:List Value} {ds:List PyData} {as:List Addr},ReadsAll h us ds as->(∀ e∈ds,e.canLay0=true)->us.any (eD h d)=(ds.any fun e=>PyData.eqv e d)/\∀ w∈us,∃ e as,e.canLay0=true/\Reads h w e as
 | _,_,_,.nil,_=>⟨rfl,fun w hw=>by simp at hw⟩
 | _,_,_,.cons r rs,c=>by
  obtain ⟨h1,h2⟩:=jgu (d:=d) rs fun e he=>c e (List.mem_cons_of_mem _ he)
  refine ⟨by rw [List.any_cons,List.any_cons,h1,jlk r (c _ List.mem_cons_self)],fun w hw=>?_⟩
  rcases List.mem_cons.mp hw with rfl | hw
  ·exact ⟨_,_,c _ List.mem_cons_self,r⟩
  ·exact h2 w hw
theorem jh4 {pins:List (Addr×Obj)}{σ:St}{H:Hp}{s:Shared}{A:Around}{x:V}{u:Value}{d:PyData}{vs:List V}{ds:List PyData}{its:List Value}(hu:A.units + 100 < cLine)(I:Inv X pins σ H s)(rx:RelV x u)(hd:DV X.K H x d)(c:d.canLay0=true)(hp:d.depth<=100)(r:Vals vs its)(hv:DVs X.K H vs ds)(cs:∀ e∈ds,e.canLay0=true) :
  (∀ w,w∈its->SeqAt.EqAt A s w u (eD s.heap d w))/\its.any (eD s.heap d)=ds.any fun e=>PyData.eqv e d:=by
 obtain ⟨as,ra⟩:=DVs.reads I hv r
 obtain ⟨bs,rb⟩:=DV.reads I hd rx
 obtain ⟨h1,h2⟩:=jgu (d:=d) ra cs
 refine ⟨fun w hw=>?_,h1⟩
 obtain ⟨e,as',ce,re⟩:=h2 w hw
 rw [jlk re ce]
 exact SeqAt.eqAt_reads _ _ A s _ _ _ _ re rb ce c (Nat.lt_of_le_of_lt (Nat.add_le_add_left (Nat.le_trans (Nat.min_le_right _ _) hp) _) hu)
theorem jkL {k:Nat}(hr:Room k X.A):OpR X (compareOp .In) (rInD X false):=by
 intro pins s σ H x y v u Q I rx ry h
 obtain ⟨p,vs,d,ds,rfl,hq,hd,hv,c,hp,cs,q⟩:=h
 cases ry
 obtain ⟨its,r,pl,hz⟩:=I.list hq
 obtain ⟨h1,h2⟩:=jh4 (A:=X.A.in1) (by have:=hr.un; rw [Around.in1_units]; omega) I rx hd c hp r hv cs
 refine SeqAt.in_listAt (eD s.heap d) pl.isList (fun w hw=>h1 w (by simpa using hw)) ⟨.bl _,H,I,rfl,?_⟩
 rw [show its.toArray.any (eD s.heap d)=its.any (eD s.heap d) by simp,h2]
 exact q
theorem jf3 {k:Nat}(hr:Room k X.A):OpR X (compareOp .NotIn) (rInD X true):=by
 intro pins s σ H x y v u Q I rx ry h
 obtain ⟨p,vs,d,ds,rfl,hq,hd,hv,c,hp,cs,q⟩:=h
 cases ry
 obtain ⟨its,r,pl,hz⟩:=I.list hq
 obtain ⟨h1,h2⟩:=jh4 (A:=X.A.in1) (by have:=hr.un; rw [Around.in1_units]; omega) I rx hd c hp r hv cs
 refine SeqAt.notIn_listAt (eD s.heap d) pl.isList (fun w hw=>h1 w (by simpa using hw)) ⟨.bl _,H,I,rfl,?_⟩
 rw [show its.toArray.any (eD s.heap d)=its.any (eD s.heap d) by simp,h2]
 exact q
end
section
variable {X:Cx}
end
end L2

namespace L2
open PySem PySem.Spec PyProof.Rows
set_option maxHeartbeats 4000000
section
variable {prog:Program}{w:World}{A:Around}{R:Result->Shared->Prop}{I:Addr}{fp wr:List Addr}{n:Nat}{P:Nat->Value->Prop}{St:Nat->Heap->Prop}
end
section
variable {prog:Program}{w:World}{A:Around}{E:Value->Shared->Prop}{s:Shared}
end

section
variable {X:Cx}
end
end L2

namespace L2
open PySem PySem.Spec PyProof.Rows PySem.SeqAt PySem.MeetsSeq
set_option maxHeartbeats 4000000
theorem jbF (l:Addr)(es:Array DictEntry)(n:Nat)(dd:Option Addr)(sl:Array (Option Value))(b:Str)(u:Tok) :
  Meets (Builtin.«dict.__eq__» ⟨[.ref l,.str b u],[]⟩) (fun _ R s=>s.heap.get? l=some { cls:=.type "dict",dict:=dd,data:=.dict es n,slots:=sl }/\R (.ok (.ret .notImplemented)) s):=
 .of_wp fun prog w A R s h=>by obtain ⟨hp,g,d,tk,os⟩:=s; obtain ⟨hl,h⟩:=h; have f1:=F.sub_str_dict; wp_walk using wpAny_loadPart' hl; exact ⟨_,rfl,h⟩
theorem jbE (b:Str)(u:Tok)(l:Addr)(es:Array DictEntry)(n:Nat)(dd:Option Addr)(sl:Array (Option Value)) :
  Meets (Builtin.«str.__eq__» ⟨[.str b u,.ref l],[]⟩) (fun _ R s=>s.heap.get? l=some { cls:=.type "dict",dict:=dd,data:=.dict es n,slots:=sl }/\R (.ok (.ret .notImplemented)) s):=
 .of_wp fun prog w A R s h=>by obtain ⟨hp,g,d,tk,os⟩:=s; obtain ⟨hl,h⟩:=h; wp_walk using wpAny_loadPart' hl,wpAny_load hl; exact ⟨_,rfl,h⟩
section
variable {X:Cx}
theorem jet {A:Around}{s:Shared}{l:Addr}{o:Obj}{es:Array DictEntry}{n:Nat}(b:Str)(u:Tok)(ho:s.heap.get? l=some o)(hc:o.cls=.type "dict")(hd:o.data=.dict es n)(hu:A.units < cLine):RcAt A s (.ref l) (.str b u) false:=fun prog w E Q h=>by
 obtain ⟨cls,dd,data,sl⟩:=o
 simp only at hc hd
 subst hc hd
 exact rc_eq_decline_or (k:=false) ⟨_,ho,rfl⟩ (typeIs_str s b u) (by decide) F.sub_str_dict F.slot_dict_eq F.slot_str_eq_refl
  (fun _ hq=>call_meets F.slot_dict_eq ⟨_,ho,rfl⟩ F.entry_dict_eq (F.args_dict_eq_2 _ _) (jbF l es n dd sl b u) ⟨ho,hq⟩)
  (fun _ hq=>call_meets F.slot_str_eq_refl (typeIs_str s b u) F.entry_str_eq (F.args_str_eq_2 _ _) (jbE b u l es n dd sl) ⟨ho,hq⟩)
  (fun _ hq=>wpAny_of_eq (rfl:isSame (.ref l) (.str b u)=pure false) hq) (.inr hu) h
noncomputable def jgY:R2:=fun x y H Q=>∃ a z kvs,x=.ref a/\y=.str z/\H a=some (.dK kvs)/\Q (.bl false) H
theorem jdC {k:Nat}(hr:Room k X.A):OpR X (compareOp .Eq) jgY:=by
 intro pins s σ H x y v u Q I rx ry h
 obtain ⟨a,z,kvs,rfl,rfl,ha,q⟩:=h
 cases rx
 obtain ⟨t,rfl⟩:=ry
 obtain ⟨_,_,vs,_,o,es,ep,ho,hx,hd,_⟩:kvs.length<=sizeLine/\(a == sysModules)=false/\∃ vs,KV kvs vs/\s.heap.DictOf (jap X.prog X.w) a vs:=I.hok a _ ha
 exact jet z t ho hx.1 hd (by have:=hr.un; omega) X.prog X.w X.xe _ ⟨.bl false,H,I,rfl,q⟩
end
noncomputable def rSlS:V->Option Int->Option Int->Hp->VK->Prop:=fun x lo hi H Q=>∃ z,x=.str z/\z.length<=sizeLine/\Q (.str (Txt.slice z lo hi)) H
section
variable {X:Cx}
theorem jj3:SlR X rSlS:=by
 intro pins s σ H x v vl vu lo hi sl Q I rx hs pl pu h
 obtain ⟨z,rfl,hz,q⟩:=h
 obtain ⟨t,rfl⟩:=rx
 refine ⟨"str",_,F.slot_str_getitem.lookup,typeIs_str _ _ _,?_⟩
 obtain ⟨o,ho,hc,hd⟩:=hs
 have fin:∀ t' k,EP X pins σ Q (.str (Txt.slice z lo hi) t') { s with toks:=k }:=fun t' k=>⟨.str _,H,I.tok _,⟨_,rfl⟩,q⟩
 cases pl with
 | none=>
  cases pu with
  | none=>exact wpAny_getItem_str_slice (l:=none) (u:=none) (st:=none) ⟨o,ho,hc,hd⟩ rfl (post_val_or_str ⟨Nat.le_trans (Txt.slice_le z _ _) hz,fin⟩)
  | int j uj=>exact wpAny_getItem_str_slice (l:=none) (u:=some (j,uj)) (st:=none) ⟨o,ho,hc,hd⟩ rfl (post_val_or_str ⟨Nat.le_trans (Txt.slice_le z _ _) hz,fin⟩)
 | int i ui=>
  cases pu with
  | none=>exact wpAny_getItem_str_slice (l:=some (i,ui)) (u:=none) (st:=none) ⟨o,ho,hc,hd⟩ rfl (post_val_or_str ⟨Nat.le_trans (Txt.slice_le z _ _) hz,fin⟩)
  | int j uj=>exact wpAny_getItem_str_slice (l:=some (i,ui)) (u:=some (j,uj)) (st:=none) ⟨o,ho,hc,hd⟩ rfl (post_val_or_str ⟨Nat.le_trans (Txt.slice_le z _ _) hz,fin⟩)
theorem ji2:OpR X (binaryOp .Add) (fun x y H Q=>∃ b j,x=.bl b/\y=.int j/\Q (.int ((if b=true then (1:Int) else 0) + j)) H):=by
 intro pins s σ H x y v u Q I rx ry h
 obtain ⟨b,j,rfl,rfl,q⟩:=h
 cases rx
 obtain ⟨t,rfl⟩:=ry
 exact PySem.IntBool.add_bool_int ⟨.int _,H,I.tok _,⟨_,rfl⟩,q⟩
theorem jiX:OpR X (binaryOp .Sub) (fun x y H Q=>(∃ b j,x=.bl b/\y=.int j/\Q (.int ((if b=true then (1:Int) else 0) - j)) H)\/∃ i b,x=.int i/\y=.bl b/\Q (.int (i - if b=true then (1:Int) else 0)) H):=by
 intro pins s σ H x y v u Q I rx ry h
 rcases h with ⟨b,j,rfl,rfl,q⟩ | ⟨i,b,rfl,rfl,q⟩
 ·cases rx
  obtain ⟨t,rfl⟩:=ry
  exact PySem.IntBool.sub_bool_int ⟨.int _,H,I.tok _,⟨_,rfl⟩,q⟩
 ·cases ry
  obtain ⟨t,rfl⟩:=rx
  exact PySem.IntBool.sub_int_bool ⟨.int _,H,I.tok _,⟨_,rfl⟩,q⟩
theorem jes {prog:Program}{w:World}{A:Around}{E:Value->Shared->Prop}{s:Shared}{b:Bool}{Q:Value->Shared->Prop}(h:Q (.str (if b then "True" else "False") s.toks) { s with toks:=s.toks + 1 }):wpAny (model prog w) A (call (.type "str") [.bool b]) Q E s:=
 callType_new F.called_str (by decide) (F.typeCall_str_1 _) (F.newCall_str_1 _) (fun obj=>F.args_object_init_2 obj _) F.entry_str_new
  (meets_str_new (S:=fun _ R s=>R (.ok (.ret (.str (if b then "True" else "False") s.toks))) { s with toks:=s.toks + 1 }) fun _ _ _ _ s hq=>
   wpAny_strOf_gives rfl (PySem.typeIs_bool s b) F.slot_bool_str F.slot_bool_repr F.entry_bool_repr (F.args_bool_repr_1 _) (gives_bool_repr b) hq (hsz:=by cases b <;> decide)) ⟨typeIs_str _ _ _,h⟩
theorem jgI:jbd X (.type "str") (fun xs H Q=>∃ b,xs=[.bl b]/\Q (.str (if b=true then "True" else "False")) H):=by
 intro pins s σ H xs us Q I r h
 obtain ⟨b,rfl,q⟩:=h
 obtain ⟨u,rfl,r1⟩:=jc8 r
 cases r1
 exact jes ⟨.str _,H,I.tok _,⟨_,rfl⟩,q⟩
noncomputable def jiA (K:PySem.W.Frag):R2:=fun x y H Q=>∃ a z xs,x=.ref a/\y=.str z/\(SqT K H a xs\/SqL K H a xs)/\Q (.bl false) H
theorem jdZ {k:Nat}(hr:Room k X.A):OpR X (compareOp .Eq) (jiA X.K):=by
 intro pins s σ H x y v u Q I rx ry h
 obtain ⟨a,z,xs,rfl,rfl,ha,q⟩:=h
 cases rx
 obtain ⟨t,rfl⟩:=ry
 have hu:X.A.units < cLine:=hr.units0
 rcases ha with ha | ha
 ·obtain ⟨its,rv,pa,_⟩:=I.tuple ha
  exact SeqAt.RcAt.tuple_str z t (show s.heap.IsTuple a its.toArray from pa) hu X.prog X.w X.xe _ ⟨.bl false,H,I,rfl,q⟩
 ·obtain ⟨its,rv,pa,_⟩:=I.list ha
  exact SeqAt.RcAt.list_str z t pa.isList hu X.prog X.w X.xe _ ⟨.bl false,H,I,rfl,q⟩
end
end L2

namespace L2
open PySem PySem.Spec PyProof.Rows
open AutoSeq1 (wpAny_loadPart')
set_option maxHeartbeats 4000000
section
variable {prog:Program}{w:World}{A:Around}{E:Value->Shared->Prop}{s:Shared}
end
section
variable {X:Cx}
end
end L2

namespace L2
open PySem PySem.Spec PyProof.Rows PySem.W
set_option maxHeartbeats 4000000
structure Lies (lo:Nat)(pn:List (Addr×Obj))(H:Hp)(h:Heap)(e:Addr)(cls:Value)(dx:Option Addr):Prop where
 ob:∃ oe vs,h.get? e=some oe/\oe.cls=cls/\oe.dict=dx/\oe.data=.fields vs/\
  (vs[1]?=some .none\/∃ T oT ts,vs[1]?=some (.ref T)/\T≠e/\h.get? T=some oT/\oT.data=.fields ts/\ts[3]?=some .none/\H T=none/\lo<=T/\∀ p∈pn,p.1≠T)
 hn:H e=none
 le:lo<=e
 pn:∀ p∈pn,p.1≠e
section
variable {M:Model}{A:Around}{E:Value->Shared->Prop}{s:Shared}
theorem jcN {h:Heap}{a:Addr}{o:Obj}{vs:Array Value}(i:Nat)(x:Value)(ho:h.get? a=some o)(hd:o.data=.fields vs) :
  (∃ o',(h.update a (Obj.mapFields (·.setIfInBounds i x))).get? a=some o'/\o'.cls=o.cls/\o'.dict=o.dict/\o'.data=.fields (vs.setIfInBounds i x))/\∀ b,b≠a->(h.update a (Obj.mapFields (·.setIfInBounds i x))).get? b=h.get? b:=by
 have z:=Obj.data_mapFields hd (·.setIfInBounds i x)
 refine ⟨⟨_,Heap.get?_update_self _ ho (Obj.isFreed_of_fields z),Obj.cls_mapFields _ _,?_,z⟩,fun b hb=>Heap.get?_update_other _ _ (Ne.symm hb)⟩
 unfold Obj.mapFields
 split <;> rfl
theorem jfc {base:Heap}{env:Env}{outer:List Env}{L e:Addr}{oe:Obj}{vs:Array Value}{head:Value}{had:Bool}{Q:Unit->Shared->Prop}
  (hfr:A.frames=some (env::outer)) (hl:s.heap.FunFrames base (env::outer)) (hf:env.frame=some L) (he:s.heap.get? e=some oe) (hd:oe.data=.fields vs) (hsz:1 < vs.size)
  (h:∀ (h':Heap) (T:Addr) (oe' oT:Obj) (vs' ts:Array Value),(∀ b o,b∉frs (env::outer)->b≠e->s.heap.get? b=some o->h'.get? b=some o)->(∀ b o,b∈frs (env::outer)->b≠e->s.heap.get? b=some o->∃ sl,h'.get? b=some { o with slots:=sl })->
   s.heap.objs.size<=T->h'.get? e=some oe'->oe'.cls=oe.cls->oe'.dict=oe.dict->oe'.data=.fields vs'->vs'[1]?=some (.ref T)->h'.get? T=some oT->oT.data=.fields ts->ts[3]?=some .none->Q () { s with heap:=h' }) :
  wpAny M A (do let a <- frameOf env; let pl <- entryPlaceOf L had; let b <- EntryCells.newEntry head a .none (rawInt L) .none pl; setField (.ref e) 1 b) (fun _ s'=>wpAny M A (setFlight (.ref e) none) Q E s') E s:=by
 have out:e∉frs (env::outer):=fun m=>by
  rcases hl.mem m with ⟨-,o,ho,no⟩
  exact no vs (by rw [<- hd,Option.some.inj (he.symm.trans ho)])
 refine wpAny_bind (wpAny_frameOf_fun hfr hl hf fun h1 fs=>wpAny_bind (wpAny_entryPlaceOf fun pl hpl=>wpAny_bind (wpAny_newObj_type ?_ (hpl.sizeOk5 _ _ _ _ _))))
 have n3:3 < ([head,.ref L,.none,rawInt L,.none]++(if pl.isEmpty then List.replicate 6 Value.none else pl)).toArray.size:=by
  rw [List.size_toArray,List.length_append]
  exact Nat.lt_add_right _ (Nat.lt_of_sub_pos (Nat.zero_lt_succ 1))
 generalize eot:(⟨.type "traceback",none,.fields ([head,.ref L,.none,rawInt L,.none]++(if pl.isEmpty then List.replicate 6 Value.none else pl)).toArray,#[]⟩:Obj)=ot
 have dt:ot.data=.fields ([head,.ref L,.none,rawInt L,.none]++(if pl.isEmpty then List.replicate 6 Value.none else pl)).toArray:=by rw [<- eot]
 have g1:h1.get? e=some oe:=by rw [fs.2.1 e out,he]
 have new:=Heap.get?_push_size h1 (Obj.isFreed_of_fields dt)
 have ne:h1.objs.size≠e:=fun z=>Nat.lt_irrefl _ (z ▸ Heap.lt_size g1)
 obtain ⟨⟨o2,g2,c2,d2,v2⟩,r2⟩:=jcN 1 (.ref h1.objs.size) (Heap.get?_push_of_some ot g1) hd
 have g2':=(r2 _ ne).trans new
 obtain ⟨⟨o3,g3,c3,d3,v3⟩,r3⟩:=jcN 3 .none g2' dt
 refine wpAny_setField (Heap.get?_push_of_some ot g1) hd hsz (wpAny_bind (wpAny_field g2 v2 (Array.getElem?_setIfInBounds_self_of_lt hsz) ?_))
 rw [if_pos (by rfl)]
 refine wpAny_setField g2' dt n3 ?_
 have keep:∀ b o,b≠e->h1.get? b=some o->_:=fun b o hb g=>(r3 b (Nat.ne_of_lt (Heap.lt_size g))).trans ((r2 b hb).trans (Heap.get?_push_of_some ot g))
 refine h _ h1.objs.size o2 o3 _ _ (fun b o hb hbe g=>keep b o hbe (by rw [fs.2.1 b hb,g])) (fun b o _ hbe g=>?_) (Nat.le_of_eq fs.1.symm) ((r3 e (Ne.symm ne)).trans g2) c2 d2 v2 (Array.getElem?_setIfInBounds_self_of_lt hsz) g3 v3 (Array.getElem?_setIfInBounds_self_of_lt n3)
 rcases fs.2.2 b o g with ⟨sl,q⟩
 exact ⟨sl,keep b _ hbe q⟩
end
section
variable {X:Cx}{pins:List (Addr×Obj)}{σ:St}{H:Hp}{s:Shared}
theorem Inv.left {h':Heap}{ch:List Addr}(I:Inv X pins σ H s)(hH:∀ b∈ch,H b=none)(hlo:∀ b∈ch,X.s₀.heap.objs.size<=b)(hd:∀ b∈ch,∃ o vs,s.heap.get? b=some o/\o.data=.fields vs)(hp:∀ b∈ch,∀ p∈X.pn++pins,p.1≠b)
  (k:∀ b o,b∉frs X.stack->b∉ch->s.heap.get? b=some o->h'.get? b=some o) (sl:∀ b o,b∈frs X.stack->b∉ch->s.heap.get? b=some o->∃ t,h'.get? b=some { o with slots:=t }):Inv X pins σ H { s with heap:=h' }:=by
 have u:Un (frs X.stack) ch H H s.heap h':=by
  refine ⟨fun b o e _ hb hc=>k b o hb hc e,fun b o e _ hb hc=>sl b o hb hc e,fun _ _ _ n _=>n,fun b o e hc=>?_,fun _ _ e=>e,fun _ _ _ e=>e,fun b ps e=>⟨#[],by rw [e]; simp⟩⟩
  by_cases hb:b∈frs X.stack
  ·obtain ⟨t,q⟩:=sl b o hb hc e
   exact ⟨_,q⟩
  ·exact ⟨o,k b o hb hc e⟩
 have tr:∀ b u,H b=some u->b∉frs X.stack/\b∉ch:=fun b u e=>⟨fun z=>(by rw [I.stkFree b z] at e; cases e),fun z=>(by rw [hH b z] at e; cases e)⟩
 have hok:HOk X.prog X.w H h':=fun a o e=>(I.hok a o e).stay (fun b v hb q=>by
  rcases hb with z | z
  ·subst z; exact k b v (tr b _ e).1 (tr b _ e).2 q
  ·exact k b v (tr b _ z).1 (tr b _ z).2 q) (fun _ q=>q) fun _ _ q=>q
 refine I.call (g':=s.gens) (d':=s.drawn) (t':=s.toks) u hok I.bare fun b hb=>⟨.inr (hlo b hb),fun z=>?_,fun x c e z=>?_,hp b hb⟩
 ·obtain ⟨o,vs,g,d⟩:=hd b hb
  obtain ⟨m,⟨o',_,_,ho,r⟩,_⟩:=I.loc
  rw [z,ho] at g
  cases g
  have:=r.1
  rw [this] at d; cases d
 ·obtain ⟨o,vs,g,d⟩:=hd b hb
  obtain ⟨v,o',ho,hc⟩:=I.cell x c e
  rw [z,g] at ho
  cases ho
  rw [d] at hc; cases hc
theorem jkY {M:Model}{E:Value->Shared->Prop}{ea:Addr}{cls:Value}{dx:Option Addr}{Q:Unit->Shared->Prop}(I:Inv X [] σ H s)(hst:X.stack=X.env::X.outer)(hf:X.env.frame=some X.env.locals)
  (l:Lies X.s₀.heap.objs.size X.pn H s.heap ea cls dx) (q:∀ h',Inv X [] σ H { s with heap:=h' }->Lies X.s₀.heap.objs.size X.pn H h' ea cls dx->Q () { s with heap:=h' }):wpAny M X.A (noteFrame (.ref ea) X.env) (fun _ s'=>wpAny M X.A (setFlight (.ref ea) none) Q E s') E s:=by
 obtain ⟨oe,vs,he,hc,hdx,hd,ht⟩:=l.ob
 have hfr:X.A.frames=some (X.env::X.outer):=by rw [<- hst]; exact I.ok.frames
 have hl:s.heap.FunFrames X.base (X.env::X.outer):=by rw [<- hst]; exact I.stack
 have pe:∀ p∈X.pn++[],p.1≠ea:=fun p hp=>l.pn p (by simpa using hp)
 unfold noteFrame
 simp only [hf]
 rcases ht with h1 | ⟨T,oT,ts,h1,hTe,hT,hdT,h3,nT,lT,pT⟩
 ·refine wpAny_bind (wpAny_field he hd h1 ?_)
  rw [if_neg (by decide)]
  refine jfc hfr hl hf he hd (Array.getElem?_eq_some_iff.mp h1).1 fun h' T' oe' oT' vs' ts' k sl zT g1 c1 c2 c3 c4 g2 c5 c6=>?_
  rw [<- hst] at k sl
  have J:Inv X [] σ H { s with heap:=h' }:=I.left (ch:=[ea]) (fun b hb=>by rw [List.mem_singleton.mp hb]; exact l.hn) (fun b hb=>by rw [List.mem_singleton.mp hb]; exact l.le) (fun b hb=>by rw [List.mem_singleton.mp hb]; exact ⟨oe,vs,he,hd⟩) (fun b hb=>by rw [List.mem_singleton.mp hb]; exact pe)
   (fun b o hb hc e=>k b o hb (fun z=>hc (by simp [z])) e) fun b o hb hc e=>sl b o hb (fun z=>hc (by simp [z])) e
  refine q h' J ⟨⟨oe',vs',g1,c1.trans hc,c2.trans hdx,c3,.inr ⟨T',oT',ts',c4,?_,g2,c5,c6,I.hok.fresh zT,Nat.le_trans I.sz zT,fun p hp z=>?_⟩⟩,l.hn,l.le,l.pn⟩
  ·exact fun z=>absurd (Heap.lt_size he) (Nat.not_lt.mpr (z ▸ zT))
  ·exact absurd (Heap.lt_size (I.pin p (by simpa using hp)).1) (Nat.not_lt.mpr (z ▸ zT))
 ·have old:(Value.none == rawInt X.env.locals)=false:=rfl
  refine wpAny_bind (wpAny_field he hd h1 ?_)
  rw [if_pos (by rfl)]
  refine wpAny_bind (wpAny_field hT hdT h3 ?_)
  rw [old,if_neg Bool.false_ne_true]
  refine wpAny_bind (wpAny_setField hT hdT (Array.getElem?_eq_some_iff.mp h3).1 ?_)
  have other:=(jcN 3 .none hT hdT).2
  have I1:Inv X [] σ H { s with heap:=s.heap.update T (Obj.mapFields (·.setIfInBounds 3 Value.none)) }:=I.left (ch:=[T]) (fun b hb=>by rw [List.mem_singleton.mp hb]; exact nT) (fun b hb=>by rw [List.mem_singleton.mp hb]; exact lT) (fun b hb=>by rw [List.mem_singleton.mp hb]; exact ⟨oT,ts,hT,hdT⟩) (fun b hb p hp=>by rw [List.mem_singleton.mp hb]; exact pT p (by simpa using hp))
   (fun b o _ hc e=>(other b (by simpa using hc)).trans e) fun b o _ hc e=>⟨o.slots,(other b (by simpa using hc)).trans e⟩
  have he1:=(other ea (Ne.symm hTe)).trans he
  have hl1:(s.heap.update T (Obj.mapFields (·.setIfInBounds 3 Value.none))).FunFrames X.base (X.env::X.outer):=by rw [<- hst]; exact I1.stack
  refine jfc (s:={ s with heap:=s.heap.update T (Obj.mapFields (·.setIfInBounds 3 Value.none)) }) hfr hl1 hf he1 hd (Array.getElem?_eq_some_iff.mp h1).1 fun h' T' oe' oT' vs' ts' k sl zT g1 c1 c2 c3 c4 g2 c5 c6=>?_
  rw [<- hst] at k sl
  have J:Inv X [] σ H { s with heap:=h' }:=Inv.left (s:={ s with heap:=s.heap.update T (Obj.mapFields (·.setIfInBounds 3 Value.none)) }) (ch:=[ea]) I1 (fun b hb=>by rw [List.mem_singleton.mp hb]; exact l.hn) (fun b hb=>by rw [List.mem_singleton.mp hb]; exact l.le) (fun b hb=>by rw [List.mem_singleton.mp hb]; exact ⟨oe,vs,he1,hd⟩) (fun b hb=>by rw [List.mem_singleton.mp hb]; exact pe)
   (fun b o hb hc e=>k b o hb (fun z=>hc (by simp [z])) e) fun b o hb hc e=>sl b o hb (fun z=>hc (by simp [z])) e
  refine q h' J ⟨⟨oe',vs',g1,c1.trans hc,c2.trans hdx,c3,.inr ⟨T',oT',ts',c4,?_,g2,c5,c6,I1.hok.fresh zT,Nat.le_trans I1.sz zT,fun p hp z=>?_⟩⟩,l.hn,l.le,l.pn⟩
  ·exact fun z=>absurd (Heap.lt_size he1) (Nat.not_lt.mpr (z ▸ zT))
  ·exact absurd (Heap.lt_size (I1.pin p (by simpa using hp)).1) (Nat.not_lt.mpr (z ▸ zT))
end
noncomputable def CX1 (P:Program)(w:World):CXT:=fun outer H s E e s'=>∃ (ea:Addr) (H':Hp) (cls:Value) (dx:Option Addr),e=.ref ea/\s'.os=s.os/\AllBare s'.gens/\Un (frs outer) [] H H' s.heap s'.heap/\HOk P w H' s'.heap/\Lies s.heap.objs.size [] H' s'.heap ea cls dx/\E cls dx H'
section
variable {X:Cx}{pins:List (Addr×Obj)}{σ:St}{H:Hp}{s s':Shared}{e:Value}{E:XK}
theorem CX1.back (I:Inv X pins σ H s)(h:CX1 X.prog X.w X.stack H s E e s'):∃ (ea:Addr) (H':Hp) (cls:Value) (dx:Option Addr),e=.ref ea/\Inv X pins σ H' s'/\Lies X.s₀.heap.objs.size X.pn H' s'.heap ea cls dx/\E cls dx H':=by
 obtain ⟨ea,H',cls,dx,rfl,os,bare,un,hok,l,q⟩:=h
 have pn:∀ b,s.heap.objs.size<=b->∀ p∈X.pn,p.1≠b:=fun b hb p hp z=>absurd (Heap.lt_size (I.pin p (List.mem_append_left _ hp)).1) (Nat.not_lt.mpr (z ▸ hb))
 refine ⟨ea,H',cls,dx,rfl,I.call' (ch:=[]) os un hok bare (fun b z=>absurd z (by simp)),⟨?_,l.hn,Nat.le_trans I.sz l.le,pn ea l.le⟩,q⟩
 obtain ⟨oe,vs,he,hc,hdx,hd,ht⟩:=l.ob
 refine ⟨oe,vs,he,hc,hdx,hd,ht.imp id ?_⟩
 rintro ⟨T,oT,ts,h1,h2,h3,h4,h5,h6,h7,_⟩
 exact ⟨T,oT,ts,h1,h2,h3,h4,h5,h6,Nat.le_trans I.sz h7,pn T h7⟩
end
end L2

namespace L2
open PySem PySem.Spec PyProof.Rows PySem.W
open Builtin Builtin.ObjectAttr
set_option maxHeartbeats 4000000
section
variable {M:Model}{A:Around}{E:Value->Shared->Prop}{h:Heap}{g:Array GenState}{d:Drawn}{t:Nat}{os:OsState}
variable {nm q:Str}{C N D:Addr}{bs bmB:List Value}{hdct:Bool}{sn:List Str}{sub:List Value}{ab:Bool}{col:Option Bool}{dd:Option Addr}{k0 k1 k2 k3 k5:Option Value}{B newId:String}{mN mD:Str->Option Value}{name:Str}
structure Two (h:Heap)(C N D:Addr)(mN mD:Str->Option Value)(bmB:List Value)(newId:String):Prop where
 cls:∃ nm q bs sn sub ab col dd k0 k1 k2 k3 k5,h.get? C=some (excClassObj nm q C N bs (.ref D::bmB) true sn sub ab col dd k0 k1 k2 k3 k5 newId)
 ns:h.Ns N mN
 low:∃ c0 dd cd sl,h.get? D=some { cls:=c0,dict:=dd,data:=.cls cd,slots:=sl }/\h.Ns cd.ns mD
end
section
variable {prog:Program}{w:World}{A:Around}{E:Value->Shared->Prop}{h:Heap}{g:Array GenState}{d:Drawn}{t:Nat}{os:OsState}
variable {C N D x:Addr}{bmB:List Value}{B newId sa owner:String}{mN mD mA:Str->Option Value}{name:Str}{v:Value}
structure Reads (B:String)(bmB:List Value):Prop where
 ga:Slot B "__getattribute__" "BaseException.__getattribute__"
 mro:mroOf (.type B)=pure bmB
 no:typeLookup (.type B) "__getattr__" = pure none
 has:bmB.contains (.type "BaseException")=true
end
section
variable {X:Cx}{pins:List (Addr×Obj)}{σ:St}{H:Hp}{s:Shared}
end
section
variable {X:Cx}{pins:List (Addr×Obj)}{σ:St}{H:Hp}{s:Shared}
end
section
variable {X:Cx}{H:Hp}{s:Shared}{C N D fI:Addr}{bmB:List Value}{B newId sa owner:String}{mN mD:Str->Option Value}{qual self f a f2 a2:Str}{scope:Scope}{cdv:Value}{p1 p2 p3 pos q1 q2 q3 qos:Pos}{v v2:V}
end
section
variable {M:Model}{A:Around}{E:Value->Shared->Prop}{env:Env}{C N D:Addr}{bmB:List Value}{newId:String}{mN mD:Str->Option Value}
end
end L2

namespace L2
open PySem PySem.Spec PyProof.Rows PySem.W
set_option maxHeartbeats 4000000
section
variable {M:Model}{A:Around}{E:Value->Shared->Prop}{h:Heap}{g:Array GenState}{d:Drawn}{t:Nat}{os:OsState}
variable {nm q nm' q':Str}{C N D ND e:Addr}{bs bm bs' bm':List Value}{hdct hdct':Bool}{sn sn':List Str}{sub sub':List Value}{ab ab':Bool}{col col':Option Bool}{dd dd':Option Addr}{k0 k1 k2 k3 k5 l0 l1 l2 l3 l5:Option Value}{newId newId':String}{oe:Obj}
end
section
variable {X:Cx}{pins:List (Addr×Obj)}{σ:St}{H:Hp}{s:Shared}
end
noncomputable def XL (M:Model)(A:Around)(env:Env)(R:Value->Shared->Prop):Value->Shared->Prop:=fun e s'=>wpAny M A (noteFrame e env) (fun _ s''=>wpAny M A (setFlight e none) (fun _ s3=>R e s3) R s'') R s'
theorem jkm {M:Model}{A:Around}{env:Env}{R:Value->Shared->Prop}:PassesOwn M A env (XL M A env R):=PassesOwn.looking
section
variable {P:Program}{w:World}{K:PySem.W.Frag}{mg:Str->Option Value}{base:Heap}
noncomputable abbrev cx1 (P:Program)(w:World)(K:PySem.W.Frag)(mg:Str->Option Value)(base:Heap)(N:List Str)(qual:Str)(scope:Scope)(f:Addr)(cd:Value)(A:Around)(outer:List Env)(s:Shared)(H:Hp)(E:XK):Cx:=
 (cxOf (CX1 P w) P w K mg base N qual scope f cd A outer s H E).wish (XL (model P w) (A.deeper (envOfC qual scope s.heap.objs.size f cd)) (envOfC qual scope s.heap.objs.size f cd) fun e s'=>CX1 P w outer H s E e s')
theorem Fun.okX {x qual:Str}{st:Stmt}{f:Addr}{fd:FuncData}{N ps:List Str}{k:Nat}{sp:Sp}(F:Fun K x qual st f fd)(S:FnScope N ps (defScope st))(len:∀ vs H Q E,sp vs H Q E->vs.length=ps.length)
  (hbody:∀ (cdv:Value) (A:Around) (outer:List Env) (s:Shared) (H:Hp) (vs:List V) (Q:VK) (E:XK),Room k (A.deeper (envOfC qual (defScope st) s.heap.objs.size f cdv))->sp vs H Q E->
   ∃ t,PSs (cx1 P w K mg base N qual (defScope st) f cdv A outer s H E) (defBody st) t/\t { nx:=fun _ H'=>Q .non H',rt:=Q } (start N vs) H):FnOk P w K mg base (CX1 P w) (k + 1) f fd ps sp:=by
 obtain ⟨oc,od,kV,doc,pm,an,cdv,ct,osl,rfl,lk,hcd⟩:=F.ex
 refine jmY lk hcd S len fun A outer s H vs Q E hr hsp=>?_
 obtain ⟨t,h,q⟩:=hbody cdv A outer s H vs Q E hr hsp
 refine ⟨t,fun pins s1 σ H1 D I hw=>?_,q⟩
 refine wpAny_mono (h pins s1 σ H1 D (I.wish _) hw) (fun _ _ q=>q.unwish) fun e s' z=>?_
 show wpAny _ _ (leaving _ e) _ _ s'
 unfold leaving
 exact wpAny_bind z
theorem CX1.out1 {N:List Str}{qual:Str}{scope:Scope}{f:Addr}{cd:Value}{A:Around}{outer:List Env}{s s':Shared}{H H':Hp}{E:XK}{pins:List (Addr×Obj)}{σ:St}{ea:Addr}{cls:Value}{dx:Option Addr}
  (I:Inv (cx1 P w K mg base N qual scope f cd A outer s H E) pins σ H' s') (l:Lies s.heap.objs.size [] H' s'.heap ea cls dx) (q:E cls dx H'):(cx1 P w K mg base N qual scope f cd A outer s H E).xe (.ref ea) s':=by
 have I0:Inv (cxOf (CX1 P w) P w K mg base N qual scope f cd A outer s H E) [] σ H' s':=I.unwish.pins_of fun p hp=>absurd hp (by simp)
 refine jkY (X:=cxOf (CX1 P w) P w K mg base N qual scope f cd A outer s H E) (E:=fun e s'=>CX1 P w outer H s E e s') I0 rfl rfl l fun h' J l'=>?_
 exact ⟨ea,H',cls,dx,rfl,J.os,J.bare,J.base,J.hok,l',q⟩
end
end L2

namespace L2
open PySem PySem.Spec PyProof.Rows PySem.W
open Builtin Builtin.ObjectAttr
set_option maxHeartbeats 4000000
noncomputable abbrev bmV:List Value:=[.type "ValueError",.type "Exception",.type "BaseException",.type "object"]
section
variable {prog:Program}{w:World}{A:Around}{E:Value->Shared->Prop}{h:Heap}{g:Array GenState}{d:Drawn}{t:Nat}{os:OsState}
variable {C N D x:Addr}{bmB:List Value}{B newId sa owner:String}{mN mD mA:Str->Option Value}{name:Str}{v:Value}
end
noncomputable def offN:List Str:=["__setattr__", "__getattribute__", "__getattr__", "__class__", "word", "at", "row"]
structure XBase (K:Frag)(mg:Str->Option Value)(D:Addr)(mD:Str->Option Value):Prop where
 m:mg "PlanError" = some (.ref D)
 kp:keepIn K (.ref D)=true
 lk:∃ q ND bs hd sn sub ab col dd k0 k1 k2 k3 k5 nid,K.lookup D=some (excClassObj "PlanError" q D ND bs bmV hd sn sub ab col dd k0 k1 k2 k3 k5 nid)/\∀ h,K.In h->h.Ns ND mD
 no:∀ y∈offN,mD y=none
 ni:mD "__init__" = none
structure XCls (K:Frag)(mg:Str->Option Value)(x:Str)(fs:List Str)(C:Addr):Prop where
 m:mg x=some (.ref C)
 kp:keepIn K (.ref C)=true
 ex:∃ (D N fI:Addr) (mN mD:Str->Option Value),XBase K mg D mD/\(∃ q bs sn sub ab col dd k0 k1 k2 k3 k5,K.lookup C=some (excClassObj x q C N bs (.ref D::bmV) true sn sub ab col dd k0 k1 k2 k3 k5 "ValueError.__new__"))/\(∀ h,K.In h->h.Ns N mN)/\(∀ y∈offN,mN y=none)/\
  mN "__init__" = some (.ref fI)/\∃ (st:Stmt) (qual:Str) (fd:FuncData),L2.Fun K "__init__" qual st fI fd/\(∃ od osl,K.lookup fI=some ⟨.type "function",od,.func fd,osl⟩)/\FnScope ("self" :: fs) ("self" :: fs) (defScope st)/\Binds K fd ("self" :: fs) []/\(∀ y∈(("self" : Str)::fs),(defScope st).names.lookup y=some .local)/\
  ((∃ f p1 p2 p3 pos,fs=[f]/\defBody st=[.Assign [.Attribute (.Name "self" p1) f p2] (.Name f p3) pos])\/∃ f f2 p1 p2 p3 pos q1 q2 q3 qos,fs=[f,f2]/\f≠f2/\defBody st=[.Assign [.Attribute (.Name "self" p1) f p2] (.Name f p3) pos,.Assign [.Attribute (.Name "self" q1) f2 q2] (.Name f2 q3) qos])
section
variable {K:Frag}{mg:Str->Option Value}{x:Str}{fs:List Str}{C:Addr}
end
noncomputable def fldN:List Str:=["word", "at", "row"]
section
variable {K:Frag}{mg:Str->Option Value}{x:Str}{fs:List Str}{C:Addr}
structure XPin (X:Cx)(ea C dx:Addr):Prop where
 ex:∃ oe vs,(ea,oe)∈X.pn/\oe.cls=.ref C/\oe.dict=some dx/\oe.data=.fields vs
end
section
variable {X:Cx}{mg:Str->Option Value}{x:Str}{fs:List Str}{C ea dx:Addr}
inductive XMany (X:Cx)(mg:Str->Option Value):List Str->List Addr->Prop
 | nil:XMany X mg [] []
 | cons {x:Str} {fs:List Str} {C:Addr} {xs:List Str} {Cs:List Addr}:XCls X.K mg x fs C->x ≠ "PlanError" -> XMany X mg xs Cs->XMany X mg (x::xs) (C::Cs)
end
end L2

namespace L2
open PySem PySem.Spec PyProof.Rows
section
variable {prog:Program}{w:World}{A:Around}{E:Value->Shared->Prop}{s:Shared}{d it:Addr}{o:Obj}{es:Array DictEntry}{ep i:Nat}
end
end L2

namespace Z
open PySem L2
set_option maxHeartbeats 4000000
inductive U where
 | non | bl (b:Bool) | int (i:Int) | str (x:Str) | tup (xs:List U) | loc (a:Addr) | fn (n:Nat) | ty (n:String)
 | exc (c:Nat) (fs:List U) | own (n:Nat) | clo (n:Nat) (cs:List U)
inductive MO where
 | lst (xs:List U) | fro (xs:List U) | dK (kvs:List (Key×U)) | dT (kvs:List (List Key×U)) | frd (o:Obj) (kvs:List (List Key×U))
noncomputable abbrev Gp:=Addr->Option MO
noncomputable def gup (G:Gp)(a:Addr)(o:MO):Gp:=fun b=>if b=a then some o else G b
structure New (G:Gp)(p:Addr)(o:MO)(G':Gp):Prop where
 no:G p=none
 eq:G'=gup G p o
structure Put (G:Gp)(a:Addr)(o:MO)(G':Gp):Prop where
 eq:G'=gup G a o
structure XV where
 c:Nat
 fs:List U
noncomputable abbrev Sg:=List (Option U)
noncomputable abbrev K1:=U->Gp->Prop
noncomputable abbrev KX:=XV->Gp->Prop
noncomputable def newO (G:Gp)(o:MO)(Q:K1):Prop:=∀ p G',New G p o G'->Q (.loc p) G'
noncomputable def putO (G:Gp)(a:Addr)(o:MO)(Q:Gp->Prop):Prop:=∀ G',Put G a o G'->Q G'
theorem newO.at {G:Gp}{o:MO}{Q:K1}(h:newO G o Q):∀ p,G p=none->Q (.loc p) (gup G p o):=fun p hp=>h p _ ⟨hp,rfl⟩
theorem putO.at {G:Gp}{a:Addr}{o:MO}{Q:Gp->Prop}(h:putO G a o Q):Q (gup G a o):=h _ ⟨rfl⟩
structure En where
 nx:Sg->Gp->Prop
 rt:K1
 ex:XV->Sg->Gp->Prop
noncomputable def lsG (G:Gp)(a:Addr):Option (List U):=match G a with
 | some (.lst xs)=>some xs
 | some (.fro xs)=>some xs
 | _=>none
noncomputable def kU:U->Option Key
 | .int i=>some (.inl i)
 | .str x=>some (.inr x)
 | _=>none
noncomputable def kUs:List U->Option (List Key)
 | []=>some []
 | u::r=>match kU u,kUs r with
  | some k,some ks=>some (k::ks)
  | _,_=>none
noncomputable def Ku:Key->U
 | .inl i=>.int i
 | .inr x=>.str x
section
variable {κ α:Type}[DecidableEq κ]
noncomputable def dGet (kvs:List (κ×α))(k:κ):Option α:=(kvs.find? fun kv=>decide (kv.1=k)).map (·.2)
noncomputable def dPut (kvs:List (κ×α))(k:κ)(v:α):List (κ×α):=
 if (kvs.any fun kv=>decide (kv.1=k))=true then kvs.map (fun kv=>if kv.1=k then (kv.1,v) else kv) else kvs++[(k,v)]
noncomputable def jc2 (more:List (κ×α)):List (κ×α):=more.foldl (fun acc kv=>dPut acc kv.1 kv.2) []
end
noncomputable def cut {α:Type}(xs:List α)(lo hi:Option Int):List α:=(xs.drop (HT.sIx xs.length 0 lo)).take (HT.sIx xs.length xs.length hi - HT.sIx xs.length 0 lo)
mutual
inductive DU (G:Gp):U->PyData->Prop
 | non:DU G .non .none
 | bl (b:Bool):DU G (.bl b) (.bool b)
 | int (i:Int):DU G (.int i) (.int i)
 | str (x:Str):DU G (.str x) (.str x)
 | tup {us:List U} {ds:List PyData}:DUs G us ds->DU G (.tup us) (.tuple ds)
 | lst {a:Addr} {us:List U} {ds:List PyData}:lsG G a=some us->DUs G us ds->DU G (.loc a) (.list ds)
 | dic {a:Addr}:G a=some (.dK [])->DU G (.loc a) (.dict [])
inductive DUs (G:Gp):List U->List PyData->Prop
 | nil:DUs G [] []
 | cons {u:U} {d:PyData} {us:List U} {ds:List PyData}:DU G u d->DUs G us ds->DUs G (u::us) (d::ds)
end
noncomputable def addU:U->U->Gp->K1->Prop
 | .int i,.int j,G,Q=>Q (.int (i + j)) G
 | .str x,.str y,G,Q=>x.length + y.length<=sizeLine/\Q (.str (x++y)) G
 | .tup xs,.tup ys,G,Q=>xs.length + ys.length<=sizeLine/\Q (.tup (xs++ys)) G
 | .loc a,.loc b,G,Q=>∃ xs ys,G a=some (.lst xs)/\G b=some (.lst ys)/\xs.length + ys.length<=sizeLine/\newO G (.lst (xs++ys)) Q
 | .bl b,.int j,G,Q=>Q (.int ((if b=true then (1:Int) else 0) + j)) G
 | _,_,_,_=>False
noncomputable def subU:U->U->Gp->K1->Prop
 | .int i,.int j,G,Q=>Q (.int (i - j)) G
 | .bl b,.int j,G,Q=>Q (.int ((if b=true then (1:Int) else 0) - j)) G
 | .int i,.bl b,G,Q=>Q (.int (i - if b=true then (1:Int) else 0)) G
 | _,_,_,_=>False
noncomputable def mulU:U->U->Gp->K1->Prop
 | .int i,.int j,G,Q=>CMul i j/\Q (.int (i * j)) G
 | .loc a,.int k,G,Q=>∃ xs,G a=some (.lst xs)/\-(2 ^ 63)<=k/\k < 2 ^ 63/\xs.length * k.toNat<=sizeLine/\newO G (.lst (List.replicate k.toNat xs).flatten) Q
 | .tup xs,.int k,G,Q=>xs≠[]/\1<=k/\k < 2 ^ 62/\xs.length * k.toNat<=sizeLine/\Q (.tup (List.replicate k.toNat xs).flatten) G
 | _,_,_,_=>False
noncomputable def jjq:U->U->Gp->K1->Prop
 | .int i,.int j,G,Q=>0 < j/\j < 1073741824/\Q (.int (i / j)) G
 | _,_,_,_=>False
noncomputable def modU:U->U->Gp->K1->Prop
 | .int i,.int j,G,Q=>0 < j/\Q (.int (i % j)) G
 | _,_,_,_=>False
noncomputable def powU:U->U->Gp->K1->Prop
 | .int i,.int j,G,Q=>CPow i j/\Q (.int (i ^ j.toNat)) G
 | _,_,_,_=>False
noncomputable def binU:Operator->U->U->Gp->K1->Prop
 | .Add=>addU
 | .Sub=>subU
 | .Mult=>mulU
 | .FloorDiv=>jjq
 | .Mod=>modU
 | .Pow=>powU
 | _=>fun _ _ _ _=>False
noncomputable def jlc:Operator->U->U->Gp->K1->Prop
 | .Add,.int i,.int j,G,Q=>Q (.int (i + j)) G
 | .Add,.str x,.str y,G,Q=>x.length + y.length<=sizeLine/\Q (.str (x++y)) G
 | .Sub,.int i,.int j,G,Q=>Q (.int (i - j)) G
 | .Mult,.int i,.int j,G,Q=>CMul i j/\Q (.int (i * j)) G
 | _,_,_,_,_=>False
noncomputable def negU:U->Gp->K1->Prop
 | .int i,G,Q=>Q (.int (-i)) G
 | _,_,_=>False
noncomputable def Small (d:PyData):Prop:=d.canLay0=true/\d.depth<=100
noncomputable def eqU:U->U->Gp->(Bool->Prop)->Prop
 | .non,.non,_,k=>k true
 | .non,.bl _,_,k=>k false
 | .non,.int _,_,k=>k false
 | .non,.str _,_,k=>k false
 | .bl _,.non,_,k=>k false
 | .bl a,.bl b,_,k=>k (decide (a=b))
 | .bl _,.str _,_,k=>k false
 | .int _,.non,_,k=>k false
 | .int i,.int j,_,k=>k (decide (i=j))
 | .int _,.str _,_,k=>k false
 | .str _,.non,_,k=>k false
 | .str _,.bl _,_,k=>k false
 | .str _,.int _,_,k=>k false
 | .str x,.str y,_,k=>k (decide (x=y))
 | x,y,G,k=>∃ d e,DU G x d/\DU G y e/\Small d/\Small e/\k (PyData.eqv d e)
noncomputable def eqQ:U->U->Gp->(Bool->Prop)->Prop
 | .loc a,.str y,G,k=>(∃ kvs,G a=some (.dK kvs)/\k false)\/(∃ xs,G a=some (.lst xs)/\k false)\/eqU (.loc a) (.str y) G k
 | .tup xs,.tup [],_,k=>k xs.isEmpty
 | .tup _,.str _,_,k=>k false
 | x,y,G,k=>eqU x y G k
noncomputable def flat:U->Bool
 | .non | .bl _ | .int _ | .str _=>true
 | _=>false
noncomputable def eqF:U->U->Bool
 | .non,.non=>true
 | .bl a,.bl b=>a == b
 | .bl a,.int b=>(if a then 1 else 0) == b
 | .int a,.bl b=>a == (if b then 1 else 0)
 | .int a,.int b=>a == b
 | .str a,.str b=>a == b
 | _,_=>false
noncomputable def inU : U -> U -> Gp -> (Bool -> Prop) -> Prop
  | .str x, .str y, _, k => k (!(Builtin.Str.occurrences y x 0 y.length 1).isEmpty)
  | x, .tup ys, _, k => flat x = true /\ ys.all flat = true /\ k (ys.any fun y => eqF y x)
  | x, .loc a, G, k => match G a with
    | some (.lst ys) => (flat x = true /\ ys.all flat = true /\ k (ys.any fun y => eqF y x)) \/
        ∃ d ds, DU G x d /\ DUs G ys ds /\ Small d /\ (∀ e ∈ ds, Small e) /\ k (ds.any fun e => PyData.eqv e d)
    | some (.fro ys) => flat x = true /\ ys.all flat = true /\ k (ys.any fun y => eqF y x)
    | some (.dK kvs) => match kU x with
      | some y => k (dGet kvs y).isSome
      | none => False
    | some (.dT kvs) => match x with
      | .tup xs => match kUs xs with
        | some y => k (dGet kvs y).isSome
        | none => False
      | _ => False
    | _ => False
  | _, _, _, _ => False
noncomputable def ordU:CmpOp->U->U->(Bool->Prop)->Prop
 | .Lt,.int i,.int j,k=>k (decide (i < j))
 | .LtE,.int i,.int j,k=>k (decide (i<=j))
 | .Gt,.int i,.int j,k=>k (decide (j < i))
 | .GtE,.int i,.int j,k=>k (decide (j<=i))
 | _,_,_,_=>False
noncomputable def cmpU:CmpOp->U->U->Gp->(Bool->Prop)->Prop
 | .Eq,x,y,G,k=>eqQ x y G k
 | .NotEq,x,y,G,k=>eqU x y G fun b=>k (!b)
 | .Is,_,_,_,_=>False
 | .IsNot,_,_,_,_=>False
 | .In,x,y,G,k=>inU x y G k
 | .NotIn,x,y,G,k=>inU x y G fun b=>k (!b)
 | o,x,y,_,k=>ordU o x y k
noncomputable def truU:U->Gp->(Bool->Prop)->Prop
 | .non,_,k=>k false
 | .bl b,_,k=>k b
 | .int i,_,k=>k (i != 0)
 | .str x,_,k=>x.length<=sizeLine/\k ((x.length:Int) != 0)
 | .tup xs,_,k=>k (!xs.isEmpty)
 | .loc a,G,k=>match G a with
  | some (.lst xs)=>k (!xs.isEmpty)
  | some (.fro xs)=>k (!xs.isEmpty)
  | some (.dK kvs)=>k (!kvs.isEmpty)
  | _=>False
 | _,_,_=>False
noncomputable def ixU:U->U->Gp->K1->Prop
 | .tup xs,.int i,G,Q=>match atI xs i with
  | some u=>Q u G
  | none=>False
 | .str x,.int i,G,Q=>x.length<=sizeLine/\match atI x.cps.toList i with
  | some c=>Q (.str ⟨#[c]⟩) G
  | none=>False
 | .loc a,y,G,Q=>match G a with
  | some (.lst xs)=>(match y with | .int i=>(match atI xs i with | some u=>Q u G | none=>False) | _=>False)
  | some (.fro xs)=>(match y with | .int i=>(match atI xs i with | some u=>Q u G | none=>False) | _=>False)
  | some (.dK kvs)=>(match kU y with | some k=>(match dGet kvs k with | some u=>Q u G | none=>False) | none=>False)
  | some (.dT kvs)=>(match y with | .tup ys=>(match kUs ys with | some k=>(match dGet kvs k with | some u=>Q u G | none=>False) | none=>False) | _=>False)
  | _=>False
 | _,_,_,_=>False
noncomputable def slU:U->Option Int->Option Int->Gp->K1->Prop
 | .tup xs,lo,hi,G,Q=>Q (.tup (cut xs lo hi)) G
 | .str x,lo,hi,G,Q=>x.length<=sizeLine/\Q (.str (Txt.slice x lo hi)) G
 | .loc a,lo,hi,G,Q=>match lsG G a with
  | some xs=>newO G (.lst (cut xs lo hi)) Q
  | none=>False
 | _,_,_,_,_=>False
noncomputable def revU:U->U->Gp->K1->Prop
 | .tup xs,.int i,G,Q=>i=-1/\Q (.tup xs.reverse) G
 | .loc a,.int i,G,Q=>match lsG G a with
  | some xs=>(i=1\/i=-1)/\newO G (.lst (if i=1 then xs else xs.reverse)) Q
  | none=>False
 | _,_,_,_=>False
noncomputable def jmR:U->U->Gp->K1->Prop
 | .loc a,.int i,G,Q=>(match G a with
  | some (.lst xs)=>0<=i/\(match xs[i.toNat]? with | some u=>Q u G | none=>False)
  | _=>False)
 | _,_,_,_=>False
noncomputable def setU:U->U->U->Gp->(Gp->Prop)->Prop
 | .loc a,y,v,G,Q=>match G a with
  | some (.lst xs)=>(match y with | .int i=>(match ixN xs.length i with | some j=>putO G a (.lst (xs.set j v)) Q | none=>False) | _=>False)
  | some (.dK kvs)=>(match kU y with | some k=>kvs.length < sizeLine/\putO G a (.dK (dPut kvs k v)) Q | none=>False)
  | some (.dT kvs)=>(match y with | .tup ys=>(match kUs ys with | some k=>kvs.length < sizeLine/\putO G a (.dT (dPut kvs k v)) Q | none=>False) | _=>False)
  | _=>False
 | _,_,_,_,_=>False
inductive Blt | len | repr | min | max | sum | all | any | sorted | int | str | isi
 deriving DecidableEq
inductive Mth | append | extend | insert | pop | reverse | index | join | get
 deriving DecidableEq
noncomputable def jla:List U->Option (List Int)
 | []=>some []
 | .int i::r=>(match jla r with | some l=>some (i::l) | none=>none)
 | _=>none
noncomputable def jmm:List U->Option (List Str)
 | []=>some []
 | .str x::r=>(match jmm r with | some l=>some (x::l) | none=>none)
 | _=>none
noncomputable def jc5:List U->Option (List Bool)
 | []=>some []
 | .bl x::r=>(match jc5 r with | some l=>some (x::l) | none=>none)
 | _=>none
noncomputable def tyN:U->Gp->Option String
 | .non,_=>some "NoneType"
 | .bl _,_=>some "bool"
 | .int _,_=>some "int"
 | .str _,_=>some "str"
 | .tup _,_=>some "tuple"
 | .loc a,G=>match G a with
  | some (.lst _)=>some "list"
  | some (.dK _)=>some "dict"
  | some (.dT _)=>some "dict"
  | _=>none
 | _,_=>none
noncomputable def isiU (x:U)(G:Gp)(t:String):Option Bool:=match tyN x G with
 | some n=>if t∈["bool", "int", "str", "list", "tuple", "dict"] then some (n == t || (n == "bool" && t == "int")) else none
 | none=>none
noncomputable def lenU:List U->Gp->K1->Prop
 | [.tup xs],G,Q=>Q (.int xs.length) G
 | [.str x],G,Q=>x.length<=sizeLine/\Q (.int x.length) G
 | [.loc a],G,Q=>(match G a with
  | some (.lst xs)=>Q (.int xs.length) G
  | some (.fro xs)=>Q (.int xs.length) G
  | some (.dK kvs)=>Q (.int kvs.length) G
  | _=>False)
 | _,_,_=>False
noncomputable def jfm:List U->Gp->K1->Prop
 | [u],G,Q=>∃ d,DU G u d/\Fits 16000000 60 d/\Q (.str d.shown) G
 | _,_,_=>False
noncomputable def minU:List U->Gp->K1->Prop
 | [.int i,.int j],G,Q=>Q (.int (if j < i then j else i)) G
 | _,_,_=>False
noncomputable def jkV (xs:List U)(G:Gp)(Q:K1):Prop:=match jla xs with
 | some ns=>ns≠[]/\∀ z∈ns,(∀ y∈ns,y<=z)->Q (.int z) G
 | none=>False
noncomputable def maxU:List U->Gp->K1->Prop
 | [.int i,.int j],G,Q=>Q (.int (if j > i then j else i)) G
 | [.loc a],G,Q=>(match G a with
  | some (.lst xs)=>jkV xs G Q
  | _=>False)
 | [.tup xs],G,Q=>jkV xs G Q
 | _,_,_=>False
noncomputable def allU:List U->Gp->K1->Prop
 | [.loc a],G,Q=>(match G a with
  | some (.lst xs)=>(match jc5 xs with | some bs=>Q (.bl (bs.all id)) G | none=>False)
  | _=>False)
 | _,_,_=>False
noncomputable def intU:List U->Gp->K1->Prop
 | [.int i],G,Q=>Q (.int i) G
 | [.bl b],G,Q=>Q (.int (if b then 1 else 0)) G
 | _,_,_=>False
noncomputable def strU:List U->Gp->K1->Prop
 | [.int i],G,Q=>i.natAbs.log2 < 1920/\Q (.str (toString i:String)) G
 | [.bl b],G,Q=>Q (.str (if b=true then ("True" : Str) else "False")) G
 | _,_,_=>False
noncomputable def jfz:List U->Gp->K1->Prop
 | [x,.ty t],G,Q=>(match isiU x G t with | some b=>Q (.bl b) G | none=>False)
 | _,_,_=>False
noncomputable def mkDU:U->Gp->K1->Prop
 | .loc a,G,Q=>(match G a with
  | some (.dK kvs)=>∃ ns:List Int,kvs.map (·.1)=ns.map (fun z=>(Sum.inl z:Key))/\newO G (.lst (ns.map .int)) Q
  | _=>False)
 | _,_,_=>False
noncomputable def jmL:U->Gp->K1->Prop
 | .loc a,G,Q=>(match G a with
  | some (.lst us)=>∃ ks:List (List Int),(us=ks.map (fun k=>U.tup (k.map .int))\/∃ ns:List Int,us=ns.map .int/\ks=ns.map fun n=>[n])/\(us=[]->Q .non G)/\∀ u,us[jlo ks]?=some u->Q u G
  | _=>False)
 | _,_,_=>False
noncomputable def jmM:U->Gp->K1->Prop
 | .loc a,G,Q=>(match G a with
  | some (.lst us)=>∃ ns:List Int,us=ns.map .int/\(ns=[]->Q (.int 0) G)/\∀ z∈ns,(∀ y∈ns,y<=z)->Q (.int z) G
  | _=>False)
 | _,_,_=>False
noncomputable def bltU:Blt->List U->Gp->K1->Prop
 | .len=>lenU
 | .repr=>jfm
 | .min=>minU
 | .max=>fun _ _ _=>False
 | .sum=>fun _ _ _=>False
 | .all=>allU
 | .any=>fun _ _ _=>False
 | .sorted=>fun _ _ _=>False
 | .int=>intU
 | .str=>strU
 | .isi=>jfz
noncomputable def jeQ:U->List U->Gp->K1->Prop
 | .loc a,[v],G,Q=>(match G a with
  | some (.lst xs)=>xs.length < sizeLine/\putO G a (.lst (xs++[v])) (Q .non)
  | _=>False)
 | _,_,_,_=>False
noncomputable def jeH:U->List U->Gp->K1->Prop
 | .loc a,[.loc b],G,Q=>(match G a,G b with
  | some (.lst xs),some (.lst ys)=>xs.length + ys.length<=sizeLine/\putO G a (.lst (xs++ys)) (Q .non)
  | _,_=>False)
 | _,_,_,_=>False
noncomputable def jbt:Mth->U->List U->Gp->K1->Prop
 | .append=>jeQ
 | .extend=>jeH
 | .insert=>fun _ _ _ _=>False
 | .pop=>fun _ _ _ _=>False
 | .reverse=>fun _ _ _ _=>False
 | .index=>fun _ _ _ _=>False
 | .join=>fun _ _ _ _=>False
 | .get=>fun _ _ _ _=>False
noncomputable def mtU:Mth->U->Gp->Option (String×String)
 | .append,x,G=>(match x with | .loc a=>(match G a with | some (.lst _)=>some ("list", "list.append") | _=>none) | _=>none)
 | .extend,x,G=>(match x with | .loc a=>(match G a with | some (.lst _)=>some ("list", "list.extend") | _=>none) | _=>none)
 | .insert,_,_=>none
 | .pop,_,_=>none
 | .reverse,_,_=>none
 | .index,_,_=>none
 | .join,_,_=>none
 | .get,_,_=>none
noncomputable def clsA:List (Str×List Str):=[("PlanError",[]),("NoPaper",["word", "at"]),("TooMany",["word"]),("NoRing",["word"]),("NoText",["row", "word"]),("NoRow",["row"])]
noncomputable def clsN (c:Nat):Str:=(clsA.getD c ("",[])).1
noncomputable def clsF (c:Nat):List Str:=(clsA.getD c ("",[])).2
inductive HL where
 | is1 (c:Nat) | isi (cs:List Nat) | isiV | v (i:Nat)
inductive HA where
 | str (x:Str) | att (f:Str)
inductive HV where
 | cond (k:Bool) (a:Bool×HL) (as:List (Bool×HL)) | one (a:HA) | bl (b:Bool) | tup (as:List HA) | lst (as:List HA)
inductive HS where
 | asg (i:Nat) (e:HV) | ifa (k:Bool) (a:Bool×HL) (as:List (Bool×HL)) (i:Nat) (e:HV)
section
variable (x:XV)
noncomputable def litH (ς:Sg):HL->Option Bool
 | .is1 c=>some (decide (x.c=c))
 | .isi cs=>some (cs.contains x.c)
 | .isiV=>some true
 | .v i=>match ς[i]? with
  | some (some (.bl b))=>some b
  | _=>none
noncomputable def lit1 (ς:Sg)(p:Bool×HL):Option Bool:=match litH x ς p.2 with
 | some b=>some (if p.1=true then !b else b)
 | none=>none
noncomputable def jjA (ς:Sg)(k:Bool):Bool×HL->List (Bool×HL)->Option Bool
 | a,[]=>lit1 x ς a
 | a,b::r=>match lit1 x ς a with
  | some t=>if t=k then jjA ς k b r else some t
  | none=>none
noncomputable def atH:HA->Option U
 | .str y=>some (.str y)
 | .att f=>((clsF x.c).zip x.fs).lookup f
noncomputable def atsH:List HA->Option (List U)
 | []=>some []
 | a::r=>match atH x a,atsH r with
  | some u,some us=>some (u::us)
  | _,_=>none
noncomputable def hvH (ς:Sg):HV->Gp->K1->Prop
 | .cond k a as,G,Q=>match jjA x ς k a as with
  | some b=>Q (.bl b) G
  | none=>False
 | .one a,G,Q=>match atH x a with
  | some u=>Q u G
  | none=>False
 | .bl b,G,Q=>Q (.bl b) G
 | .tup as,G,Q=>match atsH x as with
  | some us=>Q (.tup us) G
  | none=>False
 | .lst as,G,Q=>match atsH x as with
  | some us=>newO G (.lst us) Q
  | none=>False
noncomputable def hsH:List HS->Sg->Gp->(Sg->Gp->Prop)->Prop
 | [],ς,G,k=>k ς G
 | .asg i e::r,ς,G,k=>hvH x ς e G fun u G1=>hsH r (ς.set i (some u)) G1 k
 | .ifa q a as i e::r,ς,G,k=>match jjA x ς q a as with
  | some true=>hvH x ς e G fun u G1=>hsH r (ς.set i (some u)) G1 k
  | some false=>hsH r ς G k
  | none=>False
end
mutual
inductive E where
 | v (i:Nat) | non | bl (b:Bool) | int (i:Int) | str (x:Str) | g (n:Nat)
 | bin (o:Operator) (a b:E) | neg (a:E) | not (a:E) | bop (k:Bool) (a:E) (es:Es)
 | cmp (o:CmpOp) (a b:E) | cmp2 (o p:CmpOp) (a b c:E) | ife (c a b:E)
 | tup (es:Es) | lst (es:Es) | dic (es:Es) | dicT
 | ix (a b:E) | sl (a:E) (lo hi:Eo) | rev (a st:E)
 | call (n:Nat) (es:Es) | app (i:Nat) (es:Es) | blt (b:Blt) (es:Es) | meth (m:Mth) (o:E) (es:Es)
 | ty (n:String)
 | lc (pick:List (Option Nat)) (t:Tg) (it:It) (ifs:Es) (e:E) | lc2 (pick:List (Option Nat)) (t:Tg) (it:It) (ifs:Es) (t2:Tg) (it2:It) (ifs2:Es) (e:E) | mkL (e:E) | mkT (e:E) | rngL (a:E) | rngT (a:E) | rngL2 (a b:E) | minD (e:E) | maxD (e:E) | mkD (e:E)
inductive Eo where
 | no | so (e:E)
inductive Es where
 | nil | cons (e:E) (es:Es)
inductive Tg where
 | n (i:Nat) | t (ts:Tgs)
inductive Tgs where
 | nil | cons (t:Tg) (ts:Tgs)
inductive It where
 | e (e:E) | r1 (e:E) | r2 (a b:E) | enum (e:E) | dk (e:E)
end
mutual
inductive S where
 | pass | expr (e:E) | asg (t:Tg) (e:E) | asgC (i:Nat) (e:E) | setS (o i e:E) | par (is:List Nat) (es:Es) | aug (i:Nat) (o:Operator) (e:E) | augS (o i:E) (p:Operator) (e:E)
 | ite (c:E) (a b:Ss) | fr (t:Tg) (it:It) (b:Ss) | wh (c:E) (b:Ss) | ret (e:E) | retN
 | never | raise (c:Nat) (es:Es) | tr (b:Ss) (c:Nat) (n:Nat) (h:List HS)
inductive Ss where
 | nil | cons (s:S) (ss:Ss)
end
mutual
noncomputable def tgU:Tg->U->Sg->(Sg->Prop)->Prop
 | .n i,u,ς,k=>k (ς.set i (some u))
 | .t ts,u,ς,k=>match u with
  | .tup us=>tgsU ts us ς k
  | _=>False
noncomputable def tgsU:Tgs->List U->Sg->(Sg->Prop)->Prop
 | .nil,us,ς,k=>us=[]/\k ς
 | .cons t ts,us,ς,k=>match us with
  | []=>False
  | u::r=>tgU t u ς fun ς'=>tgsU ts r ς' k
end
noncomputable abbrev Cl:=Nat->List U->Gp->K1->KX->Prop
noncomputable def slot (ς:Sg)(i:Nat)(k:U->Prop):Prop:=match ς[i]? with
 | some (some u)=>k u
 | _=>False
noncomputable def jbN (pick:List (Option Nat))(ς:Sg):Sg:=pick.map fun o=>o.bind fun j=>(ς[j]?).join
noncomputable def jdb (ok:Gp->Prop)(b:U->Gp->(Option U->Gp->Prop)->Prop):List U->List U->Gp->(List U->Gp->Prop)->Prop
 | [],acc,G,k=>ok G/\k acc G
 | x::xs,acc,G,k=>ok G/\b x G fun o G'=>jdb ok b xs (match o with | some u=>acc++[u] | none=>acc) G' k
noncomputable def jjB (ok:Gp->Prop)(b:U->List U->Gp->(List U->Gp->Prop)->Prop):List U->List U->Gp->(List U->Gp->Prop)->Prop
 | [],acc,G,k=>ok G/\k acc G
 | x::xs,acc,G,k=>ok G/\b x acc G fun acc' G'=>jjB ok b xs acc' G' k
noncomputable def forL (ok:Gp->Prop)(b:U->Sg->Gp->(Sg->Gp->Prop)->Prop):List U->Sg->Gp->(Sg->Gp->Prop)->Prop
 | [],ς,G,k=>ok G/\k ς G
 | x::xs,ς,G,k=>ok G/\b x ς G fun ς' G'=>forL ok b xs ς' G' k
noncomputable def rngU (i:Int)(n:Nat):List U:=(List.range n).map fun k:Nat=>.int (i + k)
noncomputable def jlj:Nat->List U->List U
 | _,[]=>[]
 | n,u::r=>.tup [.int n,u]::jlj (n + 1) r
noncomputable def itU:U->Gp->(List U->(Gp->Prop)->Prop)->Prop
 | .tup xs,_,k=>k xs fun _=>True
 | .loc a,G,k=>match lsG G a with
  | some xs=>k xs fun G'=>lsG G' a=some xs
  | none=>False
 | _,_,_=>False
noncomputable def jjH:U->Gp->(List U->(Gp->Prop)->Gp->Prop)->Prop
 | .loc a,G,Q=>match G a with
  | some (.dT kvs)=>∀ o G',Put G a (.frd o kvs) G'->Q (kvs.map fun p=>.tup (p.1.map Ku)) (fun G'=>G' a=some (.frd o kvs)) G'
  | _=>False
 | _,_,_=>False
noncomputable def glU (gs:List U)(n:Nat)(k:U->Prop):Prop:=match gs[n]? with
 | some u=>k u
 | none=>False
noncomputable abbrev UE:=Sg->Gp->K1->KX->Prop
noncomputable abbrev UT:=Sg->Gp->(Bool->Gp->Prop)->KX->Prop
noncomputable abbrev UA:=Sg->Gp->(List U->Gp->Prop)->KX->Prop
noncomputable def truT (t:UE):UT:=fun ς G Q X=>t ς G (fun x G1=>truU x G1 fun b=>Q b G1) X
noncomputable abbrev tp (t:UE):UE×UT:=(t,truT t)
noncomputable def comb:Bool->UE×UT->UE×UT->UE×UT
 | true,p,q=>(fun ς G Q X=>p.1 ς G (fun x G1=>truU x G1 fun c=>if c=true then q.1 ς G1 Q X else Q x G1) X,fun ς G Q X=>p.2 ς G (fun c G1=>if c=true then q.2 ς G1 Q X else Q false G1) X)
 | false,p,q=>(fun ς G Q X=>p.1 ς G (fun x G1=>truU x G1 fun c=>if c=true then Q x G1 else q.1 ς G1 Q X) X,fun ς G Q X=>p.2 ς G (fun c G1=>if c=true then Q true G1 else q.2 ς G1 Q X) X)
section
variable (gs:List U)(Δ:Cl)
mutual
noncomputable def den : E -> UE × UT
  | .v i => tp fun ς G Q _ => slot ς i fun u => Q u G
  | .non => tp fun _ G Q _ => Q .non G
  | .bl b => tp fun _ G Q _ => Q (.bl b) G
  | .int i => tp fun _ G Q _ => Q (.int i) G
  | .str x => tp fun _ G Q _ => Q (.str x) G
  | .g n => tp fun _ G Q _ => glU gs n fun u => Q u G
  | .bin o a b => tp fun ς G Q X => (den a).1 ς G (fun x G1 => (den b).1 ς G1 (fun y G2 => binU o x y G2 Q) X) X
  | .neg a => tp fun ς G Q X => (den a).1 ς G (fun x G1 => negU x G1 Q) X
  | .not a => (fun ς G Q X => (den a).1 ς G (fun x G1 => truU x G1 fun b => Q (.bl (!b)) G1) X,
      fun ς G Q X => (den a).2 ς G (fun b G1 => Q (!b) G1) X)
  | .bop k a es => denB k (den a) es
  | .cmp o a b => tp fun ς G Q X => (den a).1 ς G (fun x G1 => (den b).1 ς G1 (fun y G2 => cmpU o x y G2 fun c => Q (.bl c) G2) X) X
  | .cmp2 o p a b c => tp fun ς G Q X => (den a).1 ς G (fun x G1 => (den b).1 ς G1 (fun y G2 => cmpU o x y G2 fun t => if t = true then (den c).1 ς G2 (fun z G3 => cmpU p y z G3 fun t' => Q (.bl t') G3) X else Q (.bl false) G2) X) X
  | .ife c a b => (fun ς G Q X => (den c).2 ς G (fun t G1 => if t = true then (den a).1 ς G1 Q X else (den b).1 ς G1 Q X) X,
      fun ς G Q X => (den c).2 ς G (fun t G1 => if t = true then (den a).2 ς G1 Q X else (den b).2 ς G1 Q X) X)
  | .tup es => tp fun ς G Q X => ja2 es ς G (fun us G1 => us.length <= sizeLine /\ Q (.tup us) G1) X
  | .lst es => tp fun ς G Q X => ja2 es ς G (fun us G1 => us.length <= sizeLine /\ newO G1 (.lst us) Q) X
  | .dic es => tp fun ς G Q X => denD es ς G (fun kvs G1 => kvs.length <= 15 /\ newO G1 (.dK (jc2 kvs)) Q) X
  | .dicT => tp fun _ G Q _ => newO G (.dT []) Q
  | .ix a b => tp fun ς G Q X => (den a).1 ς G (fun x G1 => (den b).1 ς G1 (fun y G2 => ixU x y G2 Q) X) X
  | .sl a lo hi => tp fun ς G Q X => (den a).1 ς G (fun x G1 => denO lo ς G1 (fun l G2 => denO hi ς G2 (fun h G3 => slU x l h G3 Q) X) X) X
  | .rev a b => tp fun ς G Q X => (den a).1 ς G (fun x G1 => (den b).1 ς G1 (fun y G2 => revU x y G2 Q) X) X
  | .call n es => tp fun ς G Q X => ja2 es ς G (fun us G1 => Δ n us G1 Q X) X
  | .app _ _ => tp fun _ _ _ _ => False
  | .blt b es => tp fun ς G Q X => ja2 es ς G (fun us G1 => bltU b us G1 Q) X
  | .meth m o es => tp fun ς G Q X => (den o).1 ς G (fun x G1 => match mtU m x G1 with
      | some _ => ja2 es ς G1 (fun us G2 => jbt m x us G2 Q) X
      | none => False) X
  | .ty n => tp fun _ G Q _ => Q (.ty n) G
  | .lc pick t it ifs e => tp fun ς G Q X => denI it ς G (fun xs ok G1 => xs.length <= sizeLine /\ jdb ok (fun x G2 k => tgU t x (jbN pick ς) fun τ => denC ifs τ G2 (fun b G3 => if b = true then (den e).1 τ G3 (fun u G4 => k (some u) G4) (fun _ _ => False) else k none G3)) xs [] G1
      fun us G5 => newO G5 (.lst us) Q) X
  | .lc2 pick t it ifs t2 it2 ifs2 e => tp fun ς G Q X => denI it ς G (fun xs ok G1 => jjB ok (fun x acc G2 k => tgU t x (jbN pick ς) fun τ => denC ifs τ G2 (fun b G3 => if b = true then denI it2 τ G3 (fun ys ok2 G4 => acc.length + ys.length <= sizeLine /\ jdb ok2 (fun y G5 k5 => tgU t2 y τ fun τ' => denC ifs2 τ' G5 (fun b2 G6 => if b2 = true then (den e).1 τ' G6 (fun u G7 => k5 (some u) G7) (fun _ _ => False) else k5 none G6)) ys acc G4 k) (fun _ _ => False) else k acc G3)) xs [] G1
      fun us G5 => newO G5 (.lst us) Q) X
  | .mkD e => tp fun ς G Q X => (den e).1 ς G (fun x G1 => mkDU x G1 Q) X
  | .maxD e => tp fun ς G Q X => (den e).1 ς G (fun x G1 => jmM x G1 Q) X
  | .minD e => tp fun ς G Q X => (den e).1 ς G (fun x G1 => jmL x G1 Q) X
  | .mkL e => tp fun ς G Q X => (den e).1 ς G (fun x G1 => itU x G1 fun xs _ => newO G1 (.lst xs) Q) X
  | .mkT e => tp fun ς G Q X => (den e).1 ς G (fun x G1 => itU x G1 fun xs _ => Q (.tup xs) G1) X
  | .rngL e => tp fun ς G Q X => (den e).1 ς G (fun x G1 => match x with
      | .int j => 0 <= j /\ j <= 1000000 /\ newO G1 (.lst (rngU 0 j.toNat)) Q
      | _ => False) X
  | .rngT e => tp fun ς G Q X => (den e).1 ς G (fun x G1 => match x with
      | .int j => 0 <= j /\ j <= 1000000 /\ Q (.tup (rngU 0 j.toNat)) G1
      | _ => False) X
  | .rngL2 a b => tp fun ς G Q X => (den a).1 ς G (fun x G1 => (den b).1 ς G1 (fun y G2 => match x, y with
      | .int i, .int j => 0 <= i /\ i <= j /\ j <= 1000000000 /\ j - i <= 1000000 /\ newO G2 (.lst (rngU i (j - i).toNat)) Q
      | _, _ => False) X) X
noncomputable def denB (k : Bool)(p : UE × UT) : Es -> UE × UT
  | .nil => p
  | .cons e es => comb k p (denB k (den e) es)
noncomputable def denC : Es -> Sg -> Gp -> (Bool -> Gp -> Prop) -> Prop
  | .nil, _, G, Q => Q true G
  | .cons e es, ς, G, Q => (den e).2 ς G (fun b G1 => if b = true then denC es ς G1 Q else Q false G1) (fun _ _ => False)
noncomputable def denO : Eo -> Sg -> Gp -> (Option Int -> Gp -> Prop) -> KX -> Prop
  | .no, _, G, Q, _ => Q none G
  | .so e, ς, G, Q, X => (den e).1 ς G (fun x G1 => match x with | .int i => Q (some i) G1 | _ => False) X
noncomputable def ja2 : Es -> Sg -> Gp -> (List U -> Gp -> Prop) -> KX -> Prop
  | .nil, _, G, Q, _ => Q [] G
  | .cons e es, ς, G, Q, X => (den e).1 ς G (fun x G1 => ja2 es ς G1 (fun xs G2 => Q (x :: xs) G2) X) X
noncomputable def denD : Es -> Sg -> Gp -> (List (Key × U) -> Gp -> Prop) -> KX -> Prop
  | .nil, _, G, Q, _ => Q [] G
  | .cons e (.cons f es), ς, G, Q, X => (den e).1 ς G (fun x G1 => (den f).1 ς G1 (fun y G2 => match kU x with
      | some k => denD es ς G2 (fun kvs G3 => Q ((k, y) :: kvs) G3) X
      | none => False) X) X
  | .cons _ .nil, _, _, _, _ => False
noncomputable def denI : It -> Sg -> Gp -> (List U -> (Gp -> Prop) -> Gp -> Prop) -> KX -> Prop
  | .e e, ς, G, Q, X => (den e).1 ς G (fun x G1 => itU x G1 fun xs ok => Q xs ok G1) X
  | .r1 e, ς, G, Q, X => (den e).1 ς G (fun x G1 => match x with
      | .int j => -(2 ^ 62) <= j /\ j < 2 ^ 62 /\ Q (rngU 0 j.toNat) (fun _ => True) G1
      | _ => False) X
  | .r2 a b, ς, G, Q, X => (den a).1 ς G (fun x G1 => (den b).1 ς G1 (fun y G2 => match x, y with
      | .int i, .int j => -(2 ^ 62) <= i /\ i < 2 ^ 62 /\ -(2 ^ 62) <= j /\ j < 2 ^ 62 /\ Q (rngU i (j - i).toNat) (fun _ => True) G2
      | _, _ => False) X) X
  | .enum e, ς, G, Q, X => (den e).1 ς G (fun x G1 => match x with
      | .tup xs => Q (jlj 0 xs) (fun _ => True) G1
      | _ => False) X
  | .dk e, ς, G, Q, X => (den e).1 ς G (fun x G1 => jjH x G1 Q) X
end
noncomputable def denE (e:E):UE:=(den gs Δ e).1
noncomputable def denT (e:E):UT:=(den gs Δ e).2
mutual
noncomputable def denS : S -> En -> Sg -> Gp -> Prop
  | .pass, D, ς, G => D.nx ς G
  | .expr e, D, ς, G => denE gs Δ e ς G (fun _ G1 => D.nx ς G1) fun x G1 => D.ex x ς G1
  | .asg t e, D, ς, G => denE gs Δ e ς G (fun u G1 => tgU t u ς fun ς' => D.nx ς' G1) fun x G1 => D.ex x ς G1
  | .asgC i e, D, ς, G => denE gs Δ e ς G (fun u G1 => D.nx (ς.set i (some u)) G1) fun x G1 => D.ex x ς G1
  | .setS o i e, D, ς, G => denE gs Δ e ς G (fun v G1 => denE gs Δ o ς G1 (fun x G2 => denE gs Δ i ς G2 (fun y G3 => setU x y v G3 fun G4 => D.nx ς G4) fun x G1 => D.ex x ς G1) fun x G1 => D.ex x ς G1) fun x G1 => D.ex x ς G1
  | .par is es, D, ς, G => ja2 gs Δ es ς G (fun us G1 => us.length = is.length /\ D.nx ((is.zip us).foldl (fun s p => s.set p.1 (some p.2)) ς) G1) fun x G1 => D.ex x ς G1
  | .aug i o e, D, ς, G => slot ς i fun x => denE gs Δ e ς G (fun y G1 => jlc o x y G1 fun z G2 => D.nx (ς.set i (some z)) G2) fun x G1 => D.ex x ς G1
  | .augS o i p e, D, ς, G => denE gs Δ o ς G (fun x G1 => denE gs Δ i ς G1 (fun y G2 => jmR x y G2 fun a G3 => denE gs Δ e ς G3 (fun b G4 => jlc p a b G4 fun z G5 => setU x y z G5 fun G6 => D.nx ς G6) fun x G1 => D.ex x ς G1) fun x G1 => D.ex x ς G1) fun x G1 => D.ex x ς G1
  | .ite c a b, D, ς, G => denT gs Δ c ς G (fun t G1 => if t = true then jag a D ς G1 else jag b D ς G1) fun x G1 => D.ex x ς G1
  | .fr t it b, D, ς, G => denI gs Δ it ς G (fun xs ok G1 => forL ok (fun x ς1 G2 k => tgU t x ς1 fun ς2 => jag b { D with nx := k } ς2 G2) xs ς G1 D.nx) fun x G1 => D.ex x ς G1
  | .wh c b, D, ς, G => ∃ W : Nat -> Sg -> Gp -> Prop, (∃ m, W m ς G) /\ ∀ m ς1 G1, W m ς1 G1 ->
      denT gs Δ c ς1 G1 (fun t G2 => if t = true then jag b { D with nx := fun ς' G' => ∃ m', m' < m /\ W m' ς' G' } ς1 G2 else D.nx ς1 G2) fun x G1 => D.ex x ς1 G1
  | .ret e, D, ς, G => denE gs Δ e ς G D.rt fun x G1 => D.ex x ς G1
  | .retN, D, _, G => D.rt .non G
  | .never, _, _, _ => False
  | .raise c es, D, ς, G => ja2 gs Δ es ς G (fun us G1 => us.length = (clsF c).length /\ D.ex ⟨c, us⟩ ς G1) fun x G1 => D.ex x ς G1
  | .tr b c n h, D, ς, G => jag b { D with ex := fun x ς1 G1 => (c = 0 \/ x.c = c) /\ hsH x h (ς1.set n none) G1 fun ς2 G2 => D.nx (ς2.set n none) G2 } ς G
noncomputable def jag : Ss -> En -> Sg -> Gp -> Prop
  | .nil, D, ς, G => D.nx ς G
  | .cons s ss, D, ς, G => denS s { D with nx := fun ς' G' => jag ss D ς' G' } ς G
end
end
structure Fun where
 name:Str
 ps:List Str
 N:List Str
 body:Ss
structure Tab where
 funs:List Fun
 gs:List U
 gn:List Str:=[]
 cs:List Nat:=[]
noncomputable def jad (n:Nat)(us:List U):Sg:=us.map some++List.replicate (n - us.length) none
noncomputable def jab (T:Tab):Nat->Cl
 | 0,_,_,_,_,_=>False
 | k + 1,n,us,G,Q,X=>match T.funs[n]? with
  | some d=>us.length=d.ps.length/\jag T.gs (jab T k) d.body ⟨fun _ G'=>Q .non G',Q,fun x _ G'=>X x G'⟩ (jad d.N.length us) G
  | none=>False
mutual
noncomputable def RU (K:PySem.W.Frag)(H:Hp):U->V->Prop
 | .non,v=>v=.non
 | .bl b,v=>v=.bl b
 | .int i,v=>v=.int i
 | .str x,v=>v=.str x
 | .tup xs,v=>∃ a vs,v=.ref a/\H a=some (.tup vs)/\RUs K H xs vs
 | .loc a,v=>v=.ref a
 | .fn _,_=>False
 | .ty n,v=>v=.ty n
 | .exc _ _,_=>False
 | .own _,_=>False
 | .clo _ _,_=>False
noncomputable def RUs (K:PySem.W.Frag)(H:Hp):List U->List V->Prop
 | [],vs=>vs=[]
 | u::us,vs=>∃ v vr,vs=v::vr/\RU K H u v/\RUs K H us vr
end
noncomputable def RKs {κ:Type}(K:PySem.W.Frag)(H:Hp):List (κ×U)->List (κ×V)->Prop
 | [],l=>l=[]
 | (k,u)::r,l=>∃ v l',l=(k,v)::l'/\RU K H u v/\RKs K H r l'
noncomputable def MOk (K:PySem.W.Frag)(H:Hp)(a:Addr):MO->Prop
 | .lst us=>∃ vs,H a=some (.lst vs)/\RUs K H us vs
 | .fro us=>∃ o vs,H a=some (.frz o (.lst vs))/\RUs K H us vs
 | .dK kvs=>∃ l,H a=some (.dK l)/\RKs K H kvs l
 | .dT kvs=>∃ l,H a=some (.dT l)/\RKs K H kvs l
 | .frd o kvs=>∃ l,H a=some (.frz o (.dT l))/\RKs K H kvs l
noncomputable def HR (K:PySem.W.Frag)(H:Hp)(G:Gp):Prop:=∀ a o,G a=some o->MOk K H a o
noncomputable def Fr (H:Hp)(G:Gp)(H':Hp)(G':Gp):Prop:=∀ a o,H a=some o->G a=none->H' a=some o/\G' a=none
noncomputable def SR (K:PySem.W.Frag)(H:Hp)(ς:Sg)(σ:St):Prop:=ς.length=σ.length/\∀ (i:Nat) (u:U),ς[i]?=some (some u)->∃ v,σ[i]?=some (some v)/\RU K H u v
section
variable {K:PySem.W.Frag}{H H' H1 H2:Hp}{G G' G1 G2:Gp}
theorem Fr.refl (H:Hp)(G:Gp):Fr H G H G:=fun _ _ h g=>⟨h,g⟩
theorem Fr.trans (a:Fr H G H1 G1)(b:Fr H1 G1 H2 G2):Fr H G H2 G2:=fun c o h g=>let ⟨h1,g1⟩:=a c o h g; b c o h1 g1
noncomputable def TS (H H':Hp):Prop:=∀ a xs,H a=some (.tup xs)->H' a=some (.tup xs)
mutual
theorem RU.ts (t:TS H H'):∀ {u:U} {v:V},RU K H u v->RU K H' u v
 | .non,_,h=>h
 | .bl _,_,h=>h
 | .int _,_,h=>h
 | .str _,_,h=>h
 | .tup xs,_,h=>by
  obtain ⟨a,vs,e,q,r⟩:=h
  exact ⟨a,vs,e,t _ _ q,RUs.ts t r⟩
 | .loc _,_,h=>h
 | .fn _,_,h=>h
 | .ty _,_,h=>h
 | .exc _ _,_,h=>h
 | .own _,_,h=>h
 | .clo _ _,_,h=>h
theorem RUs.ts (t:TS H H'):∀ {us:List U} {vs:List V},RUs K H us vs->RUs K H' us vs
 | [],_,h=>h
 | _::_,_,h=>by
  obtain ⟨v,vr,e,r,rs⟩:=h
  exact ⟨v,vr,e,RU.ts t r,RUs.ts t rs⟩
end
theorem RKs.ts {κ:Type}(t:TS H H'):∀ {kvs:List (κ×U)} {l:List (κ×V)},RKs K H kvs l->RKs K H' kvs l
 | [],_,h=>h
 | (_,_)::_,_,h=>by
  obtain ⟨v,l',e,r,rs⟩:=h
  exact ⟨v,l',e,r.ts t,RKs.ts t rs⟩
theorem SR.ts {ς:Sg}{σ:St}(t:TS H H')(h:SR K H ς σ):SR K H' ς σ:=⟨h.1,fun i u e=>let ⟨v,e1,r⟩:=h.2 i u e; ⟨v,e1,r.ts t⟩⟩
theorem HR.tupNone (h:HR K H G){a:Addr}{xs:List V}(e:H a=some (.tup xs)):G a=none:=by
 cases q:G a with
 | none=>rfl
 | some o=>
  have m:=h a o q
  cases o with
  | lst us=>obtain ⟨_,e2,_⟩:=m; rw [e] at e2; cases e2
  | fro us=>obtain ⟨_,_,e2,_⟩:=m; rw [e] at e2; cases e2
  | dK us=>obtain ⟨_,e2,_⟩:=m; rw [e] at e2; cases e2
  | dT us=>obtain ⟨_,e2,_⟩:=m; rw [e] at e2; cases e2
  | frd _ us=>obtain ⟨_,e2,_⟩:=m; rw [e] at e2; cases e2
theorem Fr.ts (f:Fr H G H' G')(h:HR K H G):TS H H':=fun a xs e=>(f a _ e (h.tupNone e)).1
theorem MOk.there {a:Addr}{o:MO}(m:MOk K H a o):∃ ho,H a=some ho:=by
 cases o with
 | lst _=>obtain ⟨_,e,_⟩:=m; exact ⟨_,e⟩
 | fro _=>obtain ⟨_,_,e,_⟩:=m; exact ⟨_,e⟩
 | dK _=>obtain ⟨_,e,_⟩:=m; exact ⟨_,e⟩
 | dT _=>obtain ⟨_,e,_⟩:=m; exact ⟨_,e⟩
 | frd _ _=>obtain ⟨_,e,_⟩:=m; exact ⟨_,e⟩
theorem MOk.keep {a:Addr}{o:MO}(m:MOk K H a o)(e:H' a=H a)(t:TS H H'):MOk K H' a o:=by
 cases o with
 | lst _=>obtain ⟨vs,q,r⟩:=m; exact ⟨vs,e.trans q,r.ts t⟩
 | fro _=>obtain ⟨ob,vs,q,r⟩:=m; exact ⟨ob,vs,e.trans q,r.ts t⟩
 | dK _=>obtain ⟨l,q,r⟩:=m; exact ⟨l,e.trans q,r.ts t⟩
 | dT _=>obtain ⟨l,q,r⟩:=m; exact ⟨l,e.trans q,r.ts t⟩
 | frd _ _=>obtain ⟨l,q,r⟩:=m; exact ⟨l,e.trans q,r.ts t⟩
theorem HR.nope (h:HR K H G){a:Addr}(e:H a=none):G a=none:=by
 cases q:G a with
 | none=>rfl
 | some o=>
  obtain ⟨_,e2⟩:=(h a o q).there
  rw [e] at e2; cases e2
theorem jao {a:Addr}{o:MO}:gup G a o a=some o:=by unfold gup; rw [if_pos rfl]
theorem jbv {a b:Addr}{o:MO}(h:b≠a):gup G a o b=G b:=by unfold gup; rw [if_neg h]
theorem TS.new {p:Addr}{o:HO}(e:H p=none):TS H (upd H p o):=fun a xs h=>by rw [jaf (jae h e)]; exact h
theorem HR.newT (h:HR K H G){p:Addr}{xs:List V}(e:H p=none):HR K (upd H p (.tup xs)) G:=fun a o q=>by
 have m:=h a o q
 obtain ⟨ho,e2⟩:=m.there
 exact m.keep (jaf (jae e2 e)) (TS.new e)
theorem Fr.new {p:Addr}{o:HO}(e:H p=none):Fr H G (upd H p o) G:=fun a ob h g=>⟨by rw [jaf (jae h e)]; exact h,g⟩
theorem HR.newO (h:HR K H G){p:Addr}{o:HO}{mo:MO}(e:H p=none)(m:MOk K (upd H p o) p mo):HR K (upd H p o) (gup G p mo):=fun a ob q=>by
 by_cases z:a=p
 ·subst z
  rw [jao] at q
  cases q
  exact m
 ·rw [jbv z] at q
  exact (h a ob q).keep (jaf z) (TS.new e)
theorem Fr.newO {p:Addr}{o:HO}{mo:MO}(e:H p=none):Fr H G (upd H p o) (gup G p mo):=fun a ob h g=>by
 have z:a≠p:=jae h e
 exact ⟨by rw [jaf z]; exact h,by rw [jbv z]; exact g⟩
theorem TS.write (h:HR K H G){p:Addr}{o:HO}{mo:MO}(g:G p=some mo):TS H (upd H p o):=fun a xs e=>by
 have z:a≠p:=fun z=>by subst z; rw [h.tupNone e] at g; cases g
 rw [jaf z]; exact e
theorem HR.write (h:HR K H G){p:Addr}{o:HO}{mo mo':MO}(g:G p=some mo)(m:MOk K (upd H p o) p mo'):HR K (upd H p o) (gup G p mo'):=fun a ob q=>by
 by_cases z:a=p
 ·subst z
  rw [jao] at q
  cases q
  exact m
 ·rw [jbv z] at q
  exact (h a ob q).keep (jaf z) (TS.write h g)
theorem Fr.write {p:Addr}{o:HO}{mo mo':MO}(g:G p=some mo):Fr H G (upd H p o) (gup G p mo'):=fun a ob h n=>by
 have z:a≠p:=fun z=>by subst z; rw [n] at g; cases g
 exact ⟨by rw [jaf z]; exact h,by rw [jbv z]; exact n⟩
theorem RUs.length:∀ {us:List U} {vs:List V},RUs K H us vs->us.length=vs.length
 | [],_,h=>by cases h; rfl
 | _::_,_,h=>by
  obtain ⟨v,vr,rfl,_,rs⟩:=h
  simp [rs.length]
theorem RUs.append:∀ {us ws:List U} {vs xs:List V},RUs K H us vs->RUs K H ws xs->RUs K H (us++ws) (vs++xs)
 | [],_,_,_,h,h'=>by cases h; exact h'
 | _::_,_,_,_,h,h'=>by
  obtain ⟨v,vr,rfl,r,rs⟩:=h
  exact ⟨v,vr++_,rfl,r,rs.append h'⟩
theorem RUs.get:∀ {us:List U} {vs:List V} {i:Nat} {u:U},RUs K H us vs->us[i]?=some u->∃ v,vs[i]?=some v/\RU K H u v
 | [],_,_,_,_,e=>by simp at e
 | _::_,_,0,_,h,e=>by
  obtain ⟨v,vr,rfl,r,_⟩:=h
  simp at e; subst e
  exact ⟨v,rfl,r⟩
 | _::_,_,i + 1,_,h,e=>by
  obtain ⟨v,vr,rfl,_,rs⟩:=h
  obtain ⟨w,h1,h2⟩:=rs.get (i:=i) (by simpa using e)
  exact ⟨w,by simpa using h1,h2⟩
theorem RUs.take:∀ {us:List U} {vs:List V} (n:Nat),RUs K H us vs->RUs K H (us.take n) (vs.take n)
 | _,_,0,_=>rfl
 | [],_,_ + 1,h=>by cases h; rfl
 | _::_,_,n + 1,h=>by
  obtain ⟨v,vr,rfl,r,rs⟩:=h
  exact ⟨v,vr.take n,rfl,r,rs.take n⟩
theorem RUs.drop:∀ {us:List U} {vs:List V} (n:Nat),RUs K H us vs->RUs K H (us.drop n) (vs.drop n)
 | _,_,0,h=>h
 | [],_,_ + 1,h=>by cases h; rfl
 | _::_,_,n + 1,h=>by
  obtain ⟨v,vr,rfl,_,rs⟩:=h
  exact rs.drop n
theorem RUs.set {u:U}{v:V}(r:RU K H u v):∀ {us:List U} {vs:List V} (i:Nat),RUs K H us vs->RUs K H (us.set i u) (vs.set i v)
 | [],_,_,h=>by cases h; rfl
 | _::_,_,0,h=>by
  obtain ⟨w,vr,rfl,_,rs⟩:=h
  exact ⟨v,vr,rfl,r,rs⟩
 | _::_,_,i + 1,h=>by
  obtain ⟨w,vr,rfl,q,rs⟩:=h
  exact ⟨w,vr.set i v,rfl,q,rs.set r i⟩
theorem RUs.reverse:∀ {us:List U} {vs:List V},RUs K H us vs->RUs K H us.reverse vs.reverse
 | [],_,h=>by cases h; rfl
 | _::_,_,h=>by
  obtain ⟨v,vr,rfl,r,rs⟩:=h
  rw [List.reverse_cons,List.reverse_cons]
  exact rs.reverse.append ⟨v,[],rfl,r,rfl⟩
theorem RUs.rep {us:List U}{vs:List V}(h:RUs K H us vs):∀ k:Nat,RUs K H (List.replicate k us).flatten (List.replicate k vs).flatten
 | 0=>rfl
 | k + 1=>by
  rw [List.replicate_succ,List.replicate_succ,List.flatten_cons,List.flatten_cons]
  exact h.append (h.rep k)
theorem RUs.atI {us:List U}{vs:List V}{i:Int}{u:U}(h:RUs K H us vs)(e:atI us i=some u):∃ v,L2.atI vs i=some v/\RU K H u v:=by
 unfold L2.atI at e ⊢
 rw [h.length] at e
 cases q:ixN vs.length i with
 | none=>rw [q] at e; cases e
 | some j=>
  rw [q] at e
  exact h.get e
theorem RUs.cut {us:List U}{vs:List V}(h:RUs K H us vs)(lo hi:Option Int):RUs K H (Z.cut us lo hi) (cutV vs lo hi):=by
 unfold Z.cut cutV
 rw [h.length]
 exact (h.drop _).take _
theorem RUs.isEmpty {us:List U}{vs:List V}(h:RUs K H us vs):us.isEmpty=vs.isEmpty:=by
 cases us with
 | nil=>cases h; rfl
 | cons u us=>obtain ⟨v,vr,rfl,_⟩:=h; rfl
theorem RUs.bools:∀ {us:List U} {vs:List V} {ns:List Bool},RUs K H us vs->jc5 us=some ns->vs=ns.map V.bl
 | [],_,_,h,e=>by cases h; cases e; rfl
 | u::us,_,ns,h,e=>by
  obtain ⟨v,vr,rfl,r,rs⟩:=h
  cases u with
  | bl i=>
   cases r
   rw [jc5] at e
   cases q:jc5 us with
   | none=>rw [q] at e; cases e
   | some l=>rw [q] at e; cases e; rw [rs.bools q]; rfl
  | _=>cases e
theorem HR.lst (h:HR K H G){a:Addr}{us:List U}(e:G a=some (.lst us)):∃ vs,H a=some (.lst vs)/\RUs K H us vs:=h a _ e
theorem HR.ls (h:HR K H G){a:Addr}{us:List U}(e:lsG G a=some us):∃ vs,SqL K H a vs/\RUs K H us vs:=by
 unfold lsG at e
 split at e
 ·rename_i xs q
  cases e
  obtain ⟨vs,q2,r⟩:=h a _ q
  exact ⟨vs,.inl (.inl q2),r⟩
 ·rename_i xs q
  cases e
  obtain ⟨o,vs,q2,r⟩:=h a _ q
  exact ⟨vs,.inl (.inr ⟨o,q2⟩),r⟩
 ·cases e
theorem HR.rd (h:HR K H G){a:Addr}{us:List U}(e:lsG G a=some us):∃ vs,Rd H a (.lst vs)/\RUs K H us vs:=by
 unfold lsG at e
 split at e
 ·rename_i xs q
  cases e
  obtain ⟨vs,q2,r⟩:=h a _ q
  exact ⟨vs,.inl q2,r⟩
 ·rename_i xs q
  cases e
  obtain ⟨o,vs,q2,r⟩:=h a _ q
  exact ⟨vs,.inr ⟨o,q2⟩,r⟩
 ·cases e
end
mutual
theorem DU.dv {K:PySem.W.Frag}{H:Hp}{G:Gp}(h:HR K H G):∀ {u:U} {d:PyData} {v:V},DU G u d->RU K H u v->DV K H v d
 | _,_,_,.non,r=>by cases r; exact .non
 | _,_,_,.bl b,r=>by cases r; exact .bl b
 | _,_,_,.int i,r=>by cases r; exact .int i
 | _,_,_,.str x,r=>by cases r; exact .str x
 | _,_,_,.tup q,r=>by
  obtain ⟨a,vs,rfl,s,rs⟩:=r
  exact .tup (.of s) (DUs.dv h q rs)
 | _,_,_,.lst e q,r=>by
  cases r
  obtain ⟨vs,s,rs⟩:=h.rd e
  exact .lst s (DUs.dv h q rs)
 | _,_,_,.dic e,r=>by
  cases r
  obtain ⟨l,q,rs⟩:=h _ _ e
  cases rs
  exact .dic q
theorem DUs.dv {K:PySem.W.Frag}{H:Hp}{G:Gp}(h:HR K H G):∀ {us:List U} {ds:List PyData} {vs:List V},DUs G us ds->RUs K H us vs->DVs K H vs ds
 | _,_,_,.nil,r=>by cases r; exact .nil
 | _,_,_,.cons a b,r=>by
  obtain ⟨v,vr,rfl,r1,rs⟩:=r
  exact .cons (DU.dv h a r1) (DUs.dv h b rs)
end
end Z

namespace L2
open PySem
theorem PE.imp {X:Cx}{e:Expr}{t t':TE}(h:PE X e t)(i:∀ σ H Q,t' σ H Q->t σ H Q):PE X e t':=fun pins s σ H Q I q=>h pins s σ H Q I (i σ H Q q)
theorem PT.imp {X:Cx}{e:Expr}{t t':TT}(h:PT X e t)(i:∀ σ H Q,t' σ H Q->t σ H Q):PT X e t':=fun pins s σ H Q I q=>h pins s σ H Q I (i σ H Q q)
theorem PW.imp {X:Cx}{e:Expr}{t t':TT}(h:PW X e t)(i:∀ σ H Q,t' σ H Q->t σ H Q):PW X e t':=fun w pins s σ H Q I q=>h w pins s σ H Q I (i σ H Q q)
theorem PA.imp {X:Cx}{e:List Expr}{t t':TA}(h:PA X e t)(i:∀ σ H Q,t' σ H Q->t σ H Q):PA X e t':=fun pos pins s σ H Q I q=>h pos pins s σ H Q I (i σ H Q q)
theorem PO.imp {X:Cx}{e:Option Expr}{t t':TO}(h:PO X e t)(i:∀ σ H Q,t' σ H Q->t σ H Q):PO X e t':=fun pins s σ H Q I q=>h pins s σ H Q I (i σ H Q q)
theorem PS.imp {X:Cx}{e:Stmt}{t t':L2.TS}(h:PS X e t)(i:∀ D σ H,t' D σ H->t D σ H):PS X e t':=fun pins s σ H D I q=>h pins s σ H D I (i D σ H q)
theorem PSs.imp {X:Cx}{e:List Stmt}{t t':L2.TS}(h:PSs X e t)(i:∀ D σ H,t' D σ H->t D σ H):PSs X e t':=fun pins s σ H D I q=>h pins s σ H D I (i D σ H q)
end L2
namespace Z
open PySem L2
set_option maxHeartbeats 4000000
noncomputable def gK (K:PySem.W.Frag):Str->Option Value:=fun x=>(PySem.W.nsIn K mainGlobals x).join
noncomputable def XD (K:PySem.W.Frag)(H:Hp)(C dx:Addr)(x:XV):Prop:=1<=x.c/\x.c < 6/\XCls K (gK K) (clsN x.c) (clsF x.c) C/\∃ l,H dx=some (.xd l)/\l.map (·.1)=clsF x.c/\RUs K H x.fs (l.map (·.2))
noncomputable def XAt (X:Cx)(H:Hp)(s:Shared)(e:Value)(x:XV):Prop:=∃ ea C dx,e=.ref ea/\Lies X.s₀.heap.objs.size X.pn H s.heap ea (.ref C) (some dx)/\XD X.K H C dx x
section
variable (X:Cx)
noncomputable def LX (σ:St)(H:Hp)(G:Gp)(E:KX):Prop:=∀ (pins:List (Addr×Obj)) (e:Value) (s':Shared) (x:XV) (G':Gp) (H':Hp),Inv X pins σ H' s'->XAt X H' s' e x->HR X.K H' G'->Fr H G H' G'->E x G'->X.xe e s'
noncomputable def LV (H:Hp)(G:Gp)(Q:K1)(Q0:VK):Prop:=∀ w v G' H',RU X.K H' w v->HR X.K H' G'->Fr H G H' G'->Q w G'->Q0 v H'
noncomputable def lE (t:UE):TE:=fun σ H Q0=>∃ ς G Q E,SR X.K H ς σ/\HR X.K H G/\t ς G Q E/\LV X H G Q Q0/\LX X σ H G E
noncomputable def lT (t:UT):TT:=fun σ H Q0=>∃ ς G Q E,SR X.K H ς σ/\HR X.K H G/\t ς G Q E/\(∀ b G' H',HR X.K H' G'->Fr H G H' G'->Q b G'->Q0 b H')/\LX X σ H G E
noncomputable def lA (t:UA):TA:=fun σ H Q0=>∃ ς G Q E,SR X.K H ς σ/\HR X.K H G/\t ς G Q E/\(∀ ws vs G' H',RUs X.K H' ws vs->HR X.K H' G'->Fr H G H' G'->Q ws G'->Q0 vs H')/\LX X σ H G E
noncomputable def lO (t:Sg->Gp->(Option Int->Gp->Prop)->KX->Prop):TO:=fun σ H Q0=>∃ ς G Q E,SR X.K H ς σ/\HR X.K H G/\t ς G Q E/\(∀ o G' H',HR X.K H' G'->Fr H G H' G'->Q o G'->Q0 o H')/\LX X σ H G E
end
section
variable {X:Cx}{σ:St}{H H1 H2:Hp}{G G1 G2:Gp}
theorem LX.fr {E:KX}(h:LX X σ H G E)(f:Fr H G H1 G1):LX X σ H1 G1 E:=fun pins e s' x G' H' I a hr f' q=>h pins e s' x G' H' I a hr (f.trans f') q
theorem LV.fr {Q:K1}{Q0:VK}(h:LV X H G Q Q0)(f:Fr H G H1 G1):LV X H1 G1 Q Q0:=fun w v G' H' r hr f' q=>h w v G' H' r hr (f.trans f') q
theorem LV.here {Q:K1}{Q0:VK}(h:LV X H G Q Q0){w:U}{v:V}(r:RU X.K H w v)(hr:HR X.K H G)(q:Q w G):Q0 v H:=h w v G H r hr (Fr.refl _ _) q
theorem LV.bl {Q:K1}{Q0:VK}(h:LV X H G Q Q0){b:Bool}(hr:HR X.K H G)(q:Q (.bl b) G):Q0 (.bl b) H:=h.here (w:=.bl b) rfl hr q
theorem LV.int {Q:K1}{Q0:VK}(h:LV X H G Q Q0){b:Int}(hr:HR X.K H G)(q:Q (.int b) G):Q0 (.int b) H:=h.here (w:=.int b) rfl hr q
theorem LV.str {Q:K1}{Q0:VK}(h:LV X H G Q Q0){b:Str}(hr:HR X.K H G)(q:Q (.str b) G):Q0 (.str b) H:=h.here (w:=.str b) rfl hr q
theorem LV.tup {Q:K1}{Q0:VK}(h:LV X H G Q Q0){p:Addr}{us:List U}{vs:List V}(e:H p=none)(r:RUs X.K H us vs)(hr:HR X.K H G)(q:Q (.tup us) G):Q0 (.ref p) (upd H p (.tup vs)):=
 h (.tup us) (.ref p) G _ ⟨p,vs,rfl,jar,r.ts (TS.new e)⟩ (hr.newT e) (Fr.new e) q
theorem LV.lst {Q:K1}{Q0:VK}(h:LV X H G Q Q0){p:Addr}{us:List U}{vs:List V}(e:H p=none)(r:RUs X.K H us vs)(hr:HR X.K H G)(q:newO G (.lst us) Q):Q0 (.ref p) (upd H p (.lst vs)):=
 h (.loc p) (.ref p) _ _ rfl (hr.newO (mo:=.lst us) e ⟨vs,jar,r.ts (TS.new e)⟩) (Fr.newO e) (q.at p (hr.nope e))
theorem LV.wl {Q:K1}{Q0:VK}(h:LV X H G Q Q0){p:Addr}{us:List U}{vs:List V}{mo:MO}(g:G p=some mo)(r:RUs X.K H us vs)(hr:HR X.K H G){w:U}{v:V}(rw':RU X.K H w v)(q:putO G p (.lst us) (Q w)):Q0 v (upd H p (.lst vs)):=
 h w v _ _ (rw'.ts (TS.write hr g)) (hr.write (mo':=.lst us) g ⟨vs,jar,r.ts (TS.write hr g)⟩) (Fr.write g) q.at
end
section
variable {X:Cx}{σ:St}{H:Hp}{Q0:VK}{ta tb:UE}
theorem lE.two {R:V->V->Hp->Prop}{k:U->U->Gp->K1->Prop}(h:lE X (fun ς G Q E=>ta ς G (fun x G1=>tb ς G1 (fun y G2=>k x y G2 Q) E) E) σ H Q0)
  (f:∀ x y v v' G H' Q,RU X.K H' x v->RU X.K H' y v'->HR X.K H' G->k x y G Q->LV X H' G Q Q0->R v v' H'):lE X ta σ H fun v H1=>lE X tb σ H1 fun v' H2=>R v v' H2:=by
 obtain ⟨ς,G,Q,E,hς,hG,h,lv,lx⟩:=h
 refine ⟨ς,G,_,E,hς,hG,h,fun x v G1 H1 rx hG1 f1 h1=>?_,lx⟩
 refine ⟨ς,G1,_,E,hς.ts (f1.ts hG),hG1,h1,fun y v' G2 H2 ry hG2 f2 h2=>?_,lx.fr f1⟩
 exact f x y v v' G2 H2 Q (rx.ts (f2.ts hG1)) ry hG2 h2 (lv.fr (f1.trans f2))
theorem lE.one {R:V->Hp->Prop}{k:U->Gp->K1->Prop}(h:lE X (fun ς G Q E=>ta ς G (fun x G1=>k x G1 Q) E) σ H Q0)
  (f:∀ x v G H' Q,RU X.K H' x v->HR X.K H' G->k x G Q->LV X H' G Q Q0->R v H'):lE X ta σ H R:=by
 obtain ⟨ς,G,Q,E,hς,hG,h,lv,lx⟩:=h
 exact ⟨ς,G,_,E,hς,hG,h,fun x v G1 H1 rx hG1 f1 h1=>f x v G1 H1 Q rx hG1 h1 (lv.fr f1),lx⟩
theorem lE.many {ta:UA}{R:List V->Hp->Prop}{k:List U->Gp->K1->Prop}(h:lE X (fun ς G Q E=>ta ς G (fun x G1=>k x G1 Q) E) σ H Q0)
  (f:∀ x v G H' Q,RUs X.K H' x v->HR X.K H' G->k x G Q->LV X H' G Q Q0->R v H'):lA X ta σ H R:=by
 obtain ⟨ς,G,Q,E,hς,hG,h,lv,lx⟩:=h
 exact ⟨ς,G,_,E,hς,hG,h,fun x v G1 H1 rx hG1 f1 h1=>f x v G1 H1 Q rx hG1 h1 (lv.fr f1),lx⟩
end
section
variable {X:Cx}{pos:Pos}
theorem jlV {i:Nat}{x:Str}(hN:X.N[i]?=some x)(hv:Vis X.env.scope x)(hd:(x == ("__debug__" : Str))=false)(hcd:(x == ("__classdict__" : Str))=false):PE X (.Name x pos) (lE X fun ς G Q _=>slot ς i fun u=>Q u G):=by
 refine (jkq hN hv hd hcd).imp fun σ H Q0 h=>?_
 obtain ⟨ς,G,Q,E,hς,hG,h,lv,_⟩:=h
 unfold slot at h
 split at h
 ·rename_i u e
  obtain ⟨v,e1,r⟩:=hς.2 i u e
  exact ⟨v,e1,lv.here r hG h⟩
 ·exact h.elim
theorem jb7 {e:Expr}{u:U}{v:V}(h:PE X e (tC v))(r:∀ H,RU X.K H u v):PE X e (lE X fun _ G Q _=>Q u G):=
 h.imp fun _ _ _ ⟨_,_,_,_,_,hG,q,lv,_⟩=>lv.here (r _) hG q
end
noncomputable def OpU (X:Cx)(f:Value->Value->Sem Value)(b:U->U->Gp->K1->Prop):Prop:=
 ∃ r:R2,OpR X f r/\∀ x y v v' G H Q Q0,RU X.K H x v->RU X.K H y v'->HR X.K H G->b x y G Q->LV X H G Q Q0->r v v' H Q0
section
variable {X:Cx}{pos:Pos}{a b c:Expr}{ta tb tc:UE}
theorem jmb {o:Operator}{k:U->U->Gp->K1->Prop}(ho:OpU X (binaryOp o) k)(ha:PE X a (lE X ta))(hb:PE X b (lE X tb)) :
  PE X (.BinOp a o b pos) (lE X fun ς G Q E=>ta ς G (fun x G1=>tb ς G1 (fun y G2=>k x y G2 Q) E) E):=by
 obtain ⟨r,h1,h2⟩:=ho
 exact (jmy h1 ha hb).imp fun σ H Q0 h=>lE.two h fun x y v v' G H' Q rx ry hG q lv=>h2 x y v v' G H' Q Q0 rx ry hG q lv
theorem jkE:OpU X (binaryOp .Add) addU:=by
 refine ⟨_,jkP.or (jfr.or ((ji1 (X:=X)).or (jkO.or ji2))),?_⟩
 intro x y v v' G H Q Q0 rx ry hG h lv
 unfold addU at h
 split at h
 ·cases rx; cases ry
  exact .inl ⟨_,_,rfl,rfl,lv.int hG h⟩
 ·cases rx; cases ry
  exact .inr (.inl ⟨_,_,rfl,rfl,h.1,lv.str hG h.2⟩)
 ·rename_i xs ys
  obtain ⟨a,vs,rfl,s1,r1⟩:=rx
  obtain ⟨b,ws,rfl,s2,r2⟩:=ry
  obtain ⟨hl,q⟩:=h
  refine .inr (.inr (.inl ⟨a,b,vs,ws,rfl,rfl,.of s1,.of s2,by rw [<- r1.length,<- r2.length]; exact hl,fun z=>?_,fun _ z=>?_,fun _ _ p hp=>?_⟩))
  ·have:xs=[]:=by have:=r1.length; rw [z] at this; simpa using this
   subst this
   exact lv.here (w:=.tup ys) ⟨b,ws,rfl,s2,r2⟩ hG q
  ·have:ys=[]:=by have:=r2.length; rw [z] at this; simpa using this
   subst this
   rw [List.append_nil] at q
   exact lv.here (w:=.tup xs) ⟨a,vs,rfl,s1,r1⟩ hG q
  ·exact lv.tup hp (r1.append r2) hG q
 ·cases rx; cases ry
  obtain ⟨xs,ys,g1,g2,hl,q⟩:=h
  obtain ⟨vs,e1,r1⟩:=hG.lst g1
  obtain ⟨ws,e2,r2⟩:=hG.lst g2
  exact .inr (.inr (.inr (.inl ⟨_,_,vs,ws,rfl,rfl,e1,e2,by rw [<- r1.length,<- r2.length]; exact hl,fun p hp=>lv.lst hp (r1.append r2) hG q⟩)))
 ·cases rx; cases ry
  exact .inr (.inr (.inr (.inr ⟨_,_,rfl,rfl,lv.int hG h⟩)))
 ·exact h.elim
theorem jkz:OpU X (binaryOp .Sub) subU:=by
 refine ⟨_,jkF.or (jiX (X:=X)),?_⟩
 intro x y v v' G H Q Q0 rx ry hG h lv
 unfold subU at h
 split at h
 ·cases rx; cases ry
  exact .inl ⟨_,_,rfl,rfl,lv.int hG h⟩
 ·cases rx; cases ry
  exact .inr (.inl ⟨_,_,rfl,rfl,lv.int hG h⟩)
 ·cases rx; cases ry
  exact .inr (.inr ⟨_,_,rfl,rfl,lv.int hG h⟩)
 ·exact h.elim
theorem jkB:OpU X (binaryOp .Mult) mulU:=by
 refine ⟨_,jkJ.or (jkG.or (jiY (X:=X))),?_⟩
 intro x y v v' G H Q Q0 rx ry hG h lv
 unfold mulU at h
 split at h
 ·cases rx; cases ry
  exact .inl ⟨_,_,rfl,rfl,h.1,lv.int hG h.2⟩
 ·cases rx; cases ry
  obtain ⟨xs,g1,h1,h2,hl,q⟩:=h
  obtain ⟨vs,e1,r1⟩:=hG.lst g1
  exact .inr (.inl ⟨_,_,vs,rfl,rfl,e1,h1,h2,by rw [<- r1.length]; exact hl,fun p hp=>lv.lst hp (r1.rep _) hG q⟩)
 ·rename_i xs k
  obtain ⟨a,vs,rfl,s1,r1⟩:=rx
  cases ry
  obtain ⟨h0,h1,h2,hl,q⟩:=h
  refine .inr (.inr ⟨a,k,vs,rfl,rfl,.of s1,?_,h1,h2,by rw [<- r1.length]; exact hl,fun z=>?_,fun _ p hp=>lv.tup hp (r1.rep _) hG q⟩)
  ·intro z
   subst z
   exact h0 (by have:=r1.length; simpa using this)
  ·subst z
   have e:(List.replicate (Int.toNat 1) xs).flatten=xs:=by simp
   rw [e] at q
   exact lv.here (w:=.tup xs) ⟨a,vs,rfl,s1,r1⟩ hG q
 ·exact h.elim
theorem jiW:OpU X (binaryOp .FloorDiv) jjq:=by
 refine ⟨_,jiZ,?_⟩
 intro x y v v' G H Q Q0 rx ry hG h lv
 unfold jjq at h
 split at h
 ·cases rx; cases ry
  exact ⟨_,_,rfl,rfl,⟨h.1,h.2.1⟩,lv.int hG h.2.2⟩
 ·exact h.elim
theorem jkC:OpU X (binaryOp .Mod) modU:=by
 refine ⟨_,jkK,?_⟩
 intro x y v v' G H Q Q0 rx ry hG h lv
 unfold modU at h
 split at h
 ·cases rx; cases ry
  exact ⟨_,_,rfl,rfl,h.1,lv.int hG h.2⟩
 ·exact h.elim
theorem jkA:OpU X (binaryOp .Pow) powU:=by
 refine ⟨_,jkH,?_⟩
 intro x y v v' G H Q Q0 rx ry hG h lv
 unfold powU at h
 split at h
 ·cases rx; cases ry
  exact ⟨_,_,rfl,rfl,h.1,lv.int hG h.2⟩
 ·exact h.elim
theorem jkD (o:Operator):OpU X (binaryOp o) (binU o):=by
 cases o with
 | Add=>exact jkE
 | Sub=>exact jkz
 | Mult=>exact jkB
 | FloorDiv=>exact jiW
 | Mod=>exact jkC
 | Pow=>exact jkA
 | _=>exact ⟨fun _ _ _ _=>False,fun _ _ _ _ _ _ _ _ _ _ _ _ h=>h.elim,fun _ _ _ _ _ _ _ _ _ _ _ h _=>h⟩
theorem jl3 (ha:PE X a (lE X ta)):PE X (.UnaryOp .USub a pos) (lE X fun ς G Q E=>ta ς G (fun x G1=>negU x G1 Q) E):=by
 refine (jmx jjI ha).imp fun σ H Q0 h=>lE.one h fun x v G H' Q rx hG q lv=>?_
 unfold negU at q
 split at q
 ·cases rx
  exact ⟨_,rfl,lv.int hG q⟩
 ·exact q.elim
end
noncomputable def CmU (X:Cx)(o:CmpOp):Prop:=
 ∃ r:R2,OpR X (compareOp o) r/\∀ x y v v' G H (k:Bool->Prop) (Q0:VK),RU X.K H x v->RU X.K H y v'->HR X.K H G->cmpU o x y G k->(∀ c,k c->Q0 (.bl c) H)->r v v' H Q0
section
variable {X:Cx}
theorem jh6 {H:Hp}{G:Gp}{x y:U}{v v':V}{k:Bool->Prop}(rx:RU X.K H x v)(ry:RU X.K H y v')(hG:HR X.K H G)(h:eqU x y G k) :
  (scal v v'=true/\k (decide (v=v')))\/∃ d e,DV X.K H v d/\DV X.K H v' e/\d.canLay0=true/\e.canLay0=true/\d.depth<=100/\k (PyData.eqv d e):=by
 unfold eqU at h
 split at h
 iterate 14 (first | (cases rx; cases ry; exact .inl ⟨rfl,by simpa using h⟩))
 obtain ⟨d,e,h1,h2,⟨s1,s2⟩,⟨s3,_⟩,q⟩:=h
 exact .inr ⟨d,e,h1.dv hG rx,h2.dv hG ry,s1,s3,s2,q⟩
theorem jfW {K:PySem.W.Frag}{H:Hp}{us:List U}{vs:List V}(r:RUs K H us vs):vs.isEmpty=us.isEmpty:=by
 have:=r.length
 cases us <;> cases vs <;> first | rfl | cases this
theorem jju {H:Hp}{G:Gp}{x y:U}{v v':V}{k:Bool->Prop}(rx:RU X.K H x v)(ry:RU X.K H y v')(hG:HR X.K H G)(h:eqQ x y G k):eqU x y G k\/(∃ a z kvs,v=.ref a/\v'=.str z/\H a=some (.dK kvs)/\k false)\/(∃ a b xs,v=.ref a/\v'=.ref b/\SqT X.K H a xs/\SqT X.K H b []/\k xs.isEmpty)\/∃ a z xs,v=.ref a/\v'=.str z/\(SqT X.K H a xs\/SqL X.K H a xs)/\k false:=by
 unfold eqQ at h
 split at h
 ·rcases h with ⟨kvs,g,q⟩ | ⟨xs,g,q⟩ | h
  ·cases rx; cases ry
   obtain ⟨l,e,rs⟩:=hG _ _ g
   exact .inr (.inl ⟨_,_,l,rfl,rfl,e,q⟩)
  ·cases rx; cases ry
   obtain ⟨vs,e,rs⟩:=hG.lst g
   exact .inr (.inr (.inr ⟨_,_,vs,rfl,rfl,.inr (.of e),q⟩))
  ·exact .inl h
 ·obtain ⟨a,vs,rfl,s1,r1⟩:=rx
  obtain ⟨b,ws,rfl,s2,r2⟩:=ry
  cases r2
  refine .inr (.inr (.inl ⟨a,b,vs,rfl,rfl,.of s1,.of s2,?_⟩))
  rw [jfW r1]; exact h
 ·obtain ⟨a,vs,rfl,s1,r1⟩:=rx
  cases ry
  exact .inr (.inr (.inr ⟨a,_,vs,rfl,rfl,.inl (.of s1),h⟩))
 ·exact .inl h
theorem jgn {K:PySem.W.Frag}{H:Hp}{x:U}{v:V}{k:Key}(r:RU K H x v)(e:kU x=some k):v=kV k:=by
 cases x with
 | int i=>cases r; cases e; rfl
 | str i=>cases r; cases e; rfl
 | _=>cases e
theorem je8 {K:PySem.W.Frag}{H:Hp}:∀ {xs:List U} {vs:List V} {ks:List Key},RUs K H xs vs->kUs xs=some ks->vs=ks.map kV
 | [],_,_,r,e=>by cases r; cases e; rfl
 | x::xs,_,ks,r,e=>by
  obtain ⟨v,vr,rfl,r1,rs⟩:=r
  rw [kUs] at e
  cases h1:kU x with
  | none=>rw [h1] at e; cases e
  | some k=>
   cases h2:kUs xs with
   | none=>rw [h1,h2] at e; cases e
   | some l=>
    rw [h1,h2] at e
    cases e
    rw [jgn r1 h1,je8 rs h2]; rfl
theorem jdG {K:PySem.W.Frag}{H:Hp}{x:U}{v:V}(r:RU K H x v)(e:flat x=true):jcC v=true:=by
 cases x <;> first | (cases r; rfl) | exact absurd (show false=true from e) (by decide)
theorem jcF {K:PySem.W.Frag}{H:Hp}:∀ {xs:List U} {vs:List V},RUs K H xs vs->xs.all flat=true->vs.all jcC=true
 | [],_,r,_=>by cases r; rfl
 | x::xs,_,r,e=>by
  obtain ⟨v,vr,rfl,r1,rs⟩:=r
  rw [List.all_cons,Bool.and_eq_true] at e
  rw [List.all_cons,jdG r1 e.1,jcF rs e.2]; rfl
theorem jlh {K:PySem.W.Frag}{H:Hp}{x y:U}{v v':V}(r:RU K H x v)(r':RU K H y v')(e:flat x=true)(e':flat y=true):eqV v v'=eqF x y:=by
 cases x <;> first | (exact absurd (show false=true from e) (by decide)) | (cases y <;> first | (exact absurd (show false=true from e') (by decide)) | (cases r; cases r'; rfl))
theorem jfh {K:PySem.W.Frag}{H:Hp}{x:U}{v:V}(r:RU K H x v)(e:flat x=true):∀ {xs:List U} {vs:List V},RUs K H xs vs->xs.all flat=true->inV v vs=xs.any fun y=>eqF y x
 | [],_,rs,_=>by cases rs; rfl
 | y::xs,_,rs,e'=>by
  obtain ⟨v',vr,rfl,r1,rs⟩:=rs
  rw [List.all_cons,Bool.and_eq_true] at e'
  have ih:=jfh r e rs e'.2
  unfold inV at ih ⊢
  rw [List.any_cons,List.any_cons,jlh r1 r e'.1 e,ih]
theorem jdv {κ:Type}[DecidableEq κ]{K:PySem.W.Frag}{H:Hp}(k:κ):∀ {kvs:List (κ×U)} {l:List (κ×V)},RKs K H kvs l->match dGet kvs k with | some u=>∃ v,valV l k=some v/\RU K H u v | none=>valV l k=none
 | [],_,r=>by cases r; exact rfl
 | (k',u)::kvs,_,r=>by
  obtain ⟨v,l',rfl,r1,rs⟩:=r
  by_cases e:k'=k
  ·subst e
   have:dGet ((k',u)::kvs) k'=some u:=by simp [dGet,List.find?_cons]
   rw [this]
   exact ⟨v,jcD rfl,r1⟩
  ·have:dGet ((k',u)::kvs) k=dGet kvs k:=by simp [dGet,List.find?_cons,e]
   rw [this,jcE (p:=(k',v)) e]
   exact jdv k rs
theorem jd9 {κ:Type}[DecidableEq κ]{K:PySem.W.Frag}{H:Hp}(k:κ){kvs:List (κ×U)}{l:List (κ×V)}(r:RKs K H kvs l):(valV l k).isSome=(dGet kvs k).isSome:=by
 have:=jdv k r
 cases e:dGet kvs k with
 | none=>rw [e] at this; rw [show valV l k=none from this]; rfl
 | some u=>rw [e] at this; obtain ⟨v,h,_⟩:=this; rw [h]; rfl
noncomputable def rDIn (neg:Bool):R2:=fun x y H Q=>∃ a o,y=.ref a/\DGet H a x o/\Q (.bl (if neg then !o.isSome else o.isSome)) H
theorem jkN (hu:X.A.units + 1 < cLine):OpR X (compareOp .In) (rDIn false):=by
 intro pins s σ H x y v u Q I rx ry h
 obtain ⟨a,o,rfl,g,q⟩:=h
 cases ry
 exact d_in hu I g rx fun s' I'=>⟨.bl o.isSome,H,I',rfl,q⟩
theorem jf6 (hu:X.A.units + 1 < cLine):OpR X (compareOp .NotIn) (rDIn true):=by
 intro pins s σ H x y v u Q I rx ry h
 obtain ⟨a,o,rfl,g,q⟩:=h
 cases ry
 exact jjx hu I g rx fun s' I'=>⟨.bl (!o.isSome),H,I',rfl,q⟩
theorem jh3 {H:Hp}{G:Gp}{x y:U}{v v':V}{k:Bool->Prop}(rx:RU X.K H x v)(ry:RU X.K H y v')(hG:HR X.K H G)(h:inU x y G k) :
  (∃ i j,v=.str i/\v'=.str j/\k (!(Builtin.Str.occurrences j i 0 j.length 1).isEmpty))\/(∃ p xs,v'=.ref p/\(SqL X.K H p xs\/SqT X.K H p xs)/\jcC v=true/\xs.all jcC=true/\k (inV v xs))\/
   (∃ a o,v'=.ref a/\DGet H a v o/\k o.isSome)\/∃ (p:Addr) (vs:List V) (d:PyData) (ds:List PyData),v'=.ref p/\SqL X.K H p vs/\DV X.K H v d/\DVs X.K H vs ds/\d.canLay0=true/\d.depth<=100/\(∀ e∈ds,e.canLay0=true)/\k (ds.any fun e=>PyData.eqv e d):=by
 unfold inU at h
 split at h
 ·cases rx; cases ry
  exact .inl ⟨_,_,rfl,rfl,h⟩
 ·obtain ⟨a,vs,rfl,e,rs⟩:=ry
  obtain ⟨f1,f2,q⟩:=h
  exact .inr (.inl ⟨a,vs,rfl,.inr (.of e),jdG rx f1,jcF rs f2,by rw [jfh rx f1 rs f2]; exact q⟩)
 ·cases ry
  rename_i a
  split at h
  ·rename_i ys g
   obtain ⟨vs,e,rs⟩:=hG.lst g
   rcases h with ⟨f1,f2,q⟩ | ⟨d,ds,hd,hds,sd,sds,q⟩
   ·exact .inr (.inl ⟨a,vs,rfl,.inl (.of e),jdG rx f1,jcF rs f2,by rw [jfh rx f1 rs f2]; exact q⟩)
   ·exact .inr (.inr (.inr ⟨a,vs,d,ds,rfl,.inl (.of e),hd.dv hG rx,hds.dv hG rs,sd.1,sd.2,fun e he=>(sds e he).1,q⟩))
  ·rename_i ys g
   obtain ⟨ob,vs,e,rs⟩:=hG a _ g
   obtain ⟨f1,f2,q⟩:=h
   exact .inr (.inl ⟨a,vs,rfl,.inl (.inl (.inr ⟨ob,e⟩)),jdG rx f1,jcF rs f2,by rw [jfh rx f1 rs f2]; exact q⟩)
  ·rename_i kvs g
   obtain ⟨l,e,rs⟩:=hG a _ g
   split at h
   ·rename_i y ek
    have:=jgn rx ek
    subst this
    exact .inr (.inr (.inl ⟨a,_,rfl,DGet.k e,by rw [jd9 y rs]; exact h⟩))
   ·exact h.elim
  ·rename_i kvs g
   obtain ⟨l,e,rs⟩:=hG a _ g
   split at h
   ·rename_i xs
    obtain ⟨b,vs,rfl,eb,rb⟩:=rx
    split at h
    ·rename_i y ek
     have:=je8 rb ek
     subst this
     exact .inr (.inr (.inl ⟨a,_,rfl,DGet.t e eb,by rw [jd9 y rs]; exact h⟩))
    ·exact h.elim
   ·exact h.elim
  ·exact h.elim
 ·exact h.elim
theorem jdB {o:CmpOp}{x y:U}{k:Bool->Prop}(h:ordU o x y k):∃ i j,x=.int i/\y=.int j:=by
 unfold ordU at h
 split at h <;> first | exact ⟨_,_,rfl,rfl⟩ | exact h.elim
theorem jds {k:Nat}(hr:Room k X.A)(o:CmpOp):CmU X o:=by
 have hu:X.A.units + 1 < cLine:=by have:=hr.un; omega
 cases o with
 | Eq=>
  refine ⟨_,jmH.or ((jkM hr).or ((jdC hr).or ((jfq hr).or (jdZ hr)))),fun x y v v' G H k Q0 rx ry hG h q=>?_⟩
  rcases jju rx ry hG h with h | ⟨a,z,kvs,h1,h2,h3,h4⟩ | ⟨a,b,xs,h1,h2,h3,h4,h5⟩ | ⟨a,z,xs,h1,h2,h3,h4⟩
  ·rcases jh6 rx ry hG h with ⟨h1,h2⟩ | ⟨d,e,h1,h2,h3,h4,h5,h6⟩
   ·exact .inl ⟨h1,q _ h2⟩
   ·exact .inr (.inl ⟨d,e,h1,h2,h3,h4,h5,q _ h6⟩)
  ·exact .inr (.inr (.inl ⟨a,z,kvs,h1,h2,h3,q _ h4⟩))
  ·exact .inr (.inr (.inr (.inl ⟨a,b,xs,h1,h2,h3,h4,q _ h5⟩)))
  ·exact .inr (.inr (.inr (.inr ⟨a,z,xs,h1,h2,h3,q _ h4⟩)))
 | NotEq=>
  refine ⟨_,jmC.or (jkI hr),fun x y v v' G H k Q0 rx ry hG h q=>?_⟩
  rcases jh6 rx ry hG h with ⟨h1,h2⟩ | ⟨d,e,h1,h2,h3,h4,h5,h6⟩
  ·exact .inl ⟨h1,q _ h2⟩
  ·exact .inr ⟨d,e,h1,h2,h3,h4,h5,q _ h6⟩
 | Is=>exact ⟨fun _ _ _ _=>False,fun _ _ _ _ _ _ _ _ _ _ _ _ h=>h.elim,fun _ _ _ _ _ _ _ _ _ _ _ h _=>h.elim⟩
 | IsNot=>exact ⟨fun _ _ _ _=>False,fun _ _ _ _ _ _ _ _ _ _ _ _ h=>h.elim,fun _ _ _ _ _ _ _ _ _ _ _ h _=>h.elim⟩
 | In=>
  refine ⟨_,jf4.or ((jf5 (X:=X)).or ((jkN hu).or (jkL hr))),fun x y v v' G H k Q0 rx ry hG h q=>?_⟩
  rcases jh3 rx ry hG h with ⟨i,j,h1,h2,h3⟩ | ⟨p,xs,h1,h2,h3,h4,h5⟩ | ⟨a,o,h1,h2,h3⟩ | ⟨p,vs,d,ds,h1,h2,h3,h4,h5,h6,h7,h8⟩
  ·exact .inl ⟨i,j,h1,h2,q _ h3⟩
  ·exact .inr (.inl ⟨p,xs,h1,h2,h3,h4,q _ h5⟩)
  ·exact .inr (.inr (.inl ⟨a,o,h1,h2,q _ h3⟩))
  ·exact .inr (.inr (.inr ⟨p,vs,d,ds,h1,h2,h3,h4,h5,h6,h7,q _ h8⟩))
 | NotIn=>
  refine ⟨_,jdX.or ((jdY (X:=X)).or ((jf6 hu).or (jf3 hr))),fun x y v v' G H k Q0 rx ry hG h q=>?_⟩
  rcases jh3 rx ry hG h with ⟨i,j,h1,h2,h3⟩ | ⟨p,xs,h1,h2,h3,h4,h5⟩ | ⟨a,o,h1,h2,h3⟩ | ⟨p,vs,d,ds,h1,h2,h3,h4,h5,h6,h7,h8⟩
  ·exact .inl ⟨i,j,h1,h2,q _ h3⟩
  ·exact .inr (.inl ⟨p,xs,h1,h2,h3,h4,q _ h5⟩)
  ·exact .inr (.inr (.inl ⟨a,o,h1,h2,q _ h3⟩))
  ·exact .inr (.inr (.inr ⟨p,vs,d,ds,h1,h2,h3,h4,h5,h6,h7,q _ h8⟩))
 | Lt=>
  refine ⟨_,jmD,fun x y v v' G H k Q0 rx ry hG h q=>?_⟩
  obtain ⟨i,j,rfl,rfl⟩:=jdB h
  cases rx; cases ry
  exact ⟨_,_,rfl,rfl,q _ h⟩
 | LtE=>
  refine ⟨_,jmE,fun x y v v' G H k Q0 rx ry hG h q=>?_⟩
  obtain ⟨i,j,rfl,rfl⟩:=jdB h
  cases rx; cases ry
  exact ⟨_,_,rfl,rfl,q _ h⟩
 | Gt=>
  refine ⟨_,jmF,fun x y v v' G H k Q0 rx ry hG h q=>?_⟩
  obtain ⟨i,j,rfl,rfl⟩:=jdB h
  cases rx; cases ry
  exact ⟨_,_,rfl,rfl,q _ h⟩
 | GtE=>
  refine ⟨_,jmG,fun x y v v' G H k Q0 rx ry hG h q=>?_⟩
  obtain ⟨i,j,rfl,rfl⟩:=jdB h
  cases rx; cases ry
  exact ⟨_,_,rfl,rfl,q _ h⟩
variable {pos:Pos}{a b c:Expr}{ta tb tc:UE}{tA tB:UT}
theorem jl9 {o:CmpOp}(ho:CmU X o)(ha:PE X a (lE X ta))(hb:PE X b (lE X tb))(hm:behindInMarks o b=false) :
  PE X (.Compare a [o] [b] pos) (lE X fun ς G Q E=>ta ς G (fun x G1=>tb ς G1 (fun y G2=>cmpU o x y G2 fun c=>Q (.bl c) G2) E) E):=by
 obtain ⟨r,h1,h2⟩:=ho
 exact (jiS h1 ha hb hm).imp fun σ H Q0 h=>lE.two h fun x y v v' G H' Q rx ry hG q lv=>h2 x y v v' G H' _ Q0 rx ry hG q fun c q=>lv.bl hG q
theorem jjR {o o':CmpOp}(ho:CmU X o)(ho':CmU X o')(ha:PE X a (lE X ta))(hb:PE X b (lE X tb))(hc:PE X c (lE X tc))(hm:lastMarks [o,o'] [b,c]=false) :
  PE X (.Compare a [o,o'] [b,c] pos) (lE X fun ς G Q E=>ta ς G (fun x G1=>tb ς G1 (fun y G2=>cmpU o x y G2 fun t=>if t=true then tc ς G2 (fun z G3=>cmpU o' y z G3 fun t'=>Q (.bl t') G3) E else Q (.bl false) G2) E) E):=by
 obtain ⟨r,h1,h2⟩:=ho
 obtain ⟨r',h1',h2'⟩:=ho'
 refine (jhb h1 h1' ha hb hc hm).imp fun σ H Q0 h=>?_
 obtain ⟨ς,G,Q,E,hς,hG,h,lv,lx⟩:=h
 refine ⟨ς,G,_,E,hς,hG,h,fun x v G1 H1 rx hG1 f1 h1=>?_,lx⟩
 refine ⟨ς,G1,_,E,hς.ts (f1.ts hG),hG1,h1,fun y v' G2 H2 ry hG2 f2 h3=>?_,lx.fr f1⟩
 refine h2 x y v v' G2 H2 _ _ (rx.ts (f2.ts hG1)) ry hG2 h3 fun t q=>⟨t,rfl,?_⟩
 cases t with
 | false=>
  rw [if_neg Bool.false_ne_true] at q ⊢
  exact (lv.fr (f1.trans f2)).bl hG2 q
 | true=>
  rw [if_pos rfl] at q ⊢
  refine ⟨ς,G2,_,E,(hς.ts (f1.ts hG)).ts (f2.ts hG1),hG2,q,fun z v3 G3 H3 rz hG3 f3 h4=>?_,lx.fr (f1.trans f2)⟩
  exact h2' y z v' v3 G3 H3 _ Q0 (ry.ts (f3.ts hG2)) rz hG3 h4 fun c q=>(lv.fr ((f1.trans f2).trans f3)).bl hG3 q
theorem jdw {H:Hp}{G:Gp}{x:U}{v:V}{k:Bool->Prop}(rx:RU X.K H x v)(hG:HR X.K H G)(h:truU x G k):∃ b,TruV X.K v H b/\k b:=by
 unfold truU at h
 split at h
 ·cases rx; exact ⟨_,rfl,h⟩
 ·cases rx; exact ⟨_,rfl,h⟩
 ·cases rx; exact ⟨_,rfl,h⟩
 ·cases rx; exact ⟨_,⟨h.1,rfl⟩,h.2⟩
 ·obtain ⟨a,vs,rfl,e,rs⟩:=rx
  exact ⟨_,.inr (.inl ⟨vs,.of e,rfl⟩),by rw [<- rs.isEmpty]; exact h⟩
 ·cases rx
  split at h
  ·rename_i g
   obtain ⟨vs,e,rs⟩:=hG.lst g
   exact ⟨_,.inl ⟨vs,.of e,rfl⟩,by rw [<- rs.isEmpty]; exact h⟩
  ·rename_i g
   obtain ⟨ob,vs,e,rs⟩:=hG _ _ g
   exact ⟨_,.inl ⟨vs,.inl (.inr ⟨ob,e⟩),rfl⟩,by rw [<- rs.isEmpty]; exact h⟩
  ·rename_i kvs g
   obtain ⟨l,e,rs⟩:=hG _ _ g
   refine ⟨_,.inr (.inr ⟨l,e,rfl⟩),?_⟩
   cases kvs with
   | nil=>cases rs; exact h
   | cons p r=>obtain ⟨v,l',rfl,_⟩:=rs; exact h
  ·exact h.elim
 ·exact h.elim
theorem jlZ (ha:PE X a (lE X ta))(he:∀ whole,isTrue a X.env whole=(do let v <- whole; standAt a.pos; holding [v] (truthy v))):PT X a (lT X fun ς G Q E=>ta ς G (fun x G1=>truU x G1 fun b=>Q b G1) E):=by
 refine (jgZ ha he).imp fun σ H Q0 h=>?_
 obtain ⟨ς,G,Q,E,hς,hG,h,lv,lx⟩:=h
 refine ⟨ς,G,_,E,hς,hG,h,fun x v G1 H1 rx hG1 f1 h1=>?_,lx⟩
 obtain ⟨b,h2,h3⟩:=jdw rx hG1 h1
 exact ⟨b,h2,lv b G1 H1 hG1 f1 h3⟩
theorem jjQ {o:CmpOp}(ho:CmU X o)(ha:PE X a (lE X ta))(hb:PE X b (lE X tb))(hm:behindInMarks o b=false) :
  PT X (.Compare a [o] [b] pos) (lT X fun ς G Q E=>ta ς G (fun x G1=>tb ς G1 (fun y G2=>cmpU o x y G2 fun c=>truU (.bl c) G2 fun c=>Q c G2) E) E):=by
 obtain ⟨r,h1,h2⟩:=ho
 refine (jiD h1 ha hb hm).imp fun σ H Q0 h=>?_
 obtain ⟨ς,G,Q,E,hς,hG,h,lv,lx⟩:=h
 refine ⟨ς,G,_,E,hς,hG,h,fun x v G1 H1 rx hG1 f1 h1=>?_,lx⟩
 refine ⟨ς,G1,_,E,hς.ts (f1.ts hG),hG1,h1,fun y v' G2 H2 ry hG2 f2 h3=>?_,lx.fr f1⟩
 exact h2 x y v v' G2 H2 _ _ (rx.ts (f2.ts hG1)) ry hG2 h3 fun t q=>⟨t,rfl,lv t G2 H2 hG2 (f1.trans f2) q⟩
theorem jim {o o':CmpOp}(ho:CmU X o)(ho':CmU X o')(ha:PE X a (lE X ta))(hb:PE X b (lE X tb))(hc:PE X c (lE X tc))(hm:lastMarks [o,o'] [b,c]=false) :
  PT X (.Compare a [o,o'] [b,c] pos) (lT X fun ς G Q E=>ta ς G (fun x G1=>tb ς G1 (fun y G2=>cmpU o x y G2 fun t=>if t=true then tc ς G2 (fun z G3=>cmpU o' y z G3 fun t'=>truU (.bl t') G3 fun c=>Q c G3) E else truU (.bl false) G2 fun c=>Q c G2) E) E):=by
 obtain ⟨r,h1,h2⟩:=ho
 obtain ⟨r',h1',h2'⟩:=ho'
 refine (jg0 h1 h1' ha hb hc hm).imp fun σ H Q0 h=>?_
 obtain ⟨ς,G,Q,E,hς,hG,h,lv,lx⟩:=h
 refine ⟨ς,G,_,E,hς,hG,h,fun x v G1 H1 rx hG1 f1 h1=>?_,lx⟩
 refine ⟨ς,G1,_,E,hς.ts (f1.ts hG),hG1,h1,fun y v' G2 H2 ry hG2 f2 h3=>?_,lx.fr f1⟩
 refine h2 x y v v' G2 H2 _ _ (rx.ts (f2.ts hG1)) ry hG2 h3 fun t q=>⟨t,rfl,?_⟩
 cases t with
 | false=>
  rw [if_neg Bool.false_ne_true] at q ⊢
  exact ⟨false,rfl,lv false G2 H2 hG2 (f1.trans f2) q⟩
 | true=>
  rw [if_pos rfl] at q ⊢
  refine ⟨ς,G2,_,E,(hς.ts (f1.ts hG)).ts (f2.ts hG1),hG2,q,fun z v3 G3 H3 rz hG3 f3 h4=>?_,lx.fr (f1.trans f2)⟩
  exact h2' y z v' v3 G3 H3 _ _ (ry.ts (f3.ts hG2)) rz hG3 h4 fun c q=>⟨c,rfl,lv c G3 H3 hG3 ((f1.trans f2).trans f3) q⟩
theorem jiU {rest:List Expr}{sa sb:TE}(ha:PE X a sa)(hb:PE X (.BoolOp .And (b::rest) pos) sb):PE X (.BoolOp .And (a::b::rest) pos) (fun σ H Q=>sa σ H fun x H1=>∃ k,TruV X.K x H1 k/\if k=true then sb σ H1 Q else Q x H1):=by
 intro pins s σ H Q I h
 refine PyProof.Rows.BoolOp_and (thn (ha pins s σ H _ I h) fun v s1 ⟨x,H1,I1,r1,k,hk,q1⟩=>?_)
 refine thn (jeX pins s1 σ H1 x v (fun c H2=>c=k/\H2=H1) I1 r1 ⟨k,hk,rfl,rfl⟩) fun c s2 ⟨H2,I2,e1,e2⟩=>?_
 subst e1 e2
 cases c with
 | true=>exact hb pins s2 σ H2 Q I2 q1
 | false=>exact ⟨x,H2,I2,r1,q1⟩
theorem jkt {rest:List Expr}{sa sb:TE}(ha:PE X a sa)(hb:PE X (.BoolOp .Or (b::rest) pos) sb):PE X (.BoolOp .Or (a::b::rest) pos) (fun σ H Q=>sa σ H fun x H1=>∃ k,TruV X.K x H1 k/\if k=true then Q x H1 else sb σ H1 Q):=by
 intro pins s σ H Q I h
 refine PyProof.Rows.BoolOp_or (thn (ha pins s σ H _ I h) fun v s1 ⟨x,H1,I1,r1,k,hk,q1⟩=>?_)
 refine thn (jeX pins s1 σ H1 x v (fun c H2=>c=k/\H2=H1) I1 r1 ⟨k,hk,rfl,rfl⟩) fun c s2 ⟨H2,I2,e1,e2⟩=>?_
 subst e1 e2
 cases c with
 | true=>exact ⟨x,H2,I2,r1,q1⟩
 | false=>exact hb pins s2 σ H2 Q I2 q1
theorem jmc {rest:List Expr}(ha:PE X a (lE X ta))(hb:PE X (.BoolOp .And (b::rest) pos) (lE X tb)):PE X (.BoolOp .And (a::b::rest) pos) (lE X fun ς G Q E=>ta ς G (fun x G1=>truU x G1 fun c=>if c=true then tb ς G1 Q E else Q x G1) E):=by
 refine (jiU ha hb).imp fun σ H Q0 h=>?_
 obtain ⟨ς,G,Q,E,hς,hG,h,lv,lx⟩:=h
 refine ⟨ς,G,_,E,hς,hG,h,fun x v G1 H1 rx hG1 f1 h1=>?_,lx⟩
 obtain ⟨k,h2,h3⟩:=jdw rx hG1 h1
 refine ⟨k,h2,?_⟩
 cases k with
 | true=>rw [if_pos rfl] at h3 ⊢; exact ⟨ς,G1,Q,E,hς.ts (f1.ts hG),hG1,h3,lv.fr f1,lx.fr f1⟩
 | false=>rw [if_neg Bool.false_ne_true] at h3 ⊢; exact (lv.fr f1).here rx hG1 h3
theorem u_or {rest:List Expr}(ha:PE X a (lE X ta))(hb:PE X (.BoolOp .Or (b::rest) pos) (lE X tb)):PE X (.BoolOp .Or (a::b::rest) pos) (lE X fun ς G Q E=>ta ς G (fun x G1=>truU x G1 fun c=>if c=true then Q x G1 else tb ς G1 Q E) E):=by
 refine (jkt ha hb).imp fun σ H Q0 h=>?_
 obtain ⟨ς,G,Q,E,hς,hG,h,lv,lx⟩:=h
 refine ⟨ς,G,_,E,hς,hG,h,fun x v G1 H1 rx hG1 f1 h1=>?_,lx⟩
 obtain ⟨k,h2,h3⟩:=jdw rx hG1 h1
 refine ⟨k,h2,?_⟩
 cases k with
 | true=>rw [if_pos rfl] at h3 ⊢; exact (lv.fr f1).here rx hG1 h3
 | false=>rw [if_neg Bool.false_ne_true] at h3 ⊢; exact ⟨ς,G1,Q,E,hς.ts (f1.ts hG),hG1,h3,lv.fr f1,lx.fr f1⟩
theorem jl2 (ha:PE X a (lE X ta)):PE X (.UnaryOp .Not a pos) (lE X fun ς G Q E=>ta ς G (fun x G1=>truU x G1 fun b=>Q (.bl (!b)) G1) E):=by
 intro pins s σ H Q0 I h
 obtain ⟨ς,G,Q,E,hς,hG,h,lv,lx⟩:=h
 refine PyProof.Rows.UnaryOp_ (thn (ha pins s σ H (fun v H1=>∃ k,TruV X.K v H1 k/\Q0 (.bl (!k)) H1) I ⟨ς,G,_,E,hς,hG,h,fun x v G1 H1 rx hG1 f1 h1=>?_,lx⟩) fun v s1 ⟨x,H1,I1,r1,k,hk,q1⟩=>?_)
 ·obtain ⟨k,h2,h3⟩:=jdw rx hG1 h1
  exact ⟨k,h2,(lv.fr f1).bl hG1 h3⟩
 ·refine PyProof.Rows.not_of (thn (jeX pins s1 σ H1 x v (fun c H2=>c=k/\H2=H1) I1 r1 ⟨k,hk,rfl,rfl⟩) fun c s2 ⟨H2,I2,e1,e2⟩=>?_)
  subst e1 e2
  exact ⟨.bl (!c),H2,I2,rfl,q1⟩
theorem jjO (hc:PT X c (lT X tA)){tC:UT}(ha:PT X a (lT X tB))(hb:PT X b (lT X tC)):PT X (.IfExp c a b pos) (lT X fun ς G Q E=>tA ς G (fun t G1=>if t=true then tB ς G1 Q E else tC ς G1 Q E) E):=by
 intro pins s σ H Q0 I h
 obtain ⟨ς,G,Q,E,hς,hG,h,lv,lx⟩:=h
 show wpAny _ _ (do if <- isTrue c X.env (eval c X.env) then isTrue a X.env (eval a X.env) else isTrue b X.env (eval b X.env)) _ _ s
 refine wpAny_bind (thn (hc pins s σ H (fun t H1=>∃ G1,HR X.K H1 G1/\Fr H G H1 G1/\if t=true then tB ς G1 Q E else tC ς G1 Q E) I ⟨ς,G,_,E,hς,hG,h,fun t G1 H1 hG1 f1 h1=>⟨G1,hG1,f1,h1⟩,lx⟩) fun t s1 ⟨H1,I1,G1,hG1,f1,h1⟩=>?_)
 cases t with
 | true=>exact ha pins s1 σ H1 Q0 I1 ⟨ς,G1,Q,E,hς.ts (f1.ts hG),hG1,h1,fun b G2 H2 hG2 f2 h2=>lv b G2 H2 hG2 (f1.trans f2) h2,lx.fr f1⟩
 | false=>exact hb pins s1 σ H1 Q0 I1 ⟨ς,G1,Q,E,hς.ts (f1.ts hG),hG1,h1,fun b G2 H2 hG2 f2 h2=>lv b G2 H2 hG2 (f1.trans f2) h2,lx.fr f1⟩
theorem jjM (ha:PT X a (lT X tA)):PT X (.UnaryOp .Not a pos) (lT X fun ς G Q E=>tA ς G (fun b G1=>Q (!b) G1) E):=by
 refine (jkh ha).imp fun σ H Q0 h=>?_
 obtain ⟨ς,G,Q,E,hς,hG,h,lv,lx⟩:=h
 exact ⟨ς,G,_,E,hς,hG,h,fun b G1 H1 hG1 f1 h1=>lv (!b) G1 H1 hG1 f1 h1,lx⟩
theorem jjT {rest:List Expr}(ha:PT X a (lT X tA))(hb:PW X (.BoolOp .And (b::rest) pos) (lT X tB)):PW X (.BoolOp .And (a::b::rest) pos) (lT X fun ς G Q E=>tA ς G (fun c G1=>if c=true then tB ς G1 Q E else Q false G1) E):=by
 refine (pw_and ha hb).imp fun σ H Q0 h=>?_
 obtain ⟨ς,G,Q,E,hς,hG,h,lv,lx⟩:=h
 refine ⟨ς,G,_,E,hς,hG,h,fun c G1 H1 hG1 f1 h1=>?_,lx⟩
 cases c with
 | false=>rw [if_neg Bool.false_ne_true] at h1 ⊢; exact lv false G1 H1 hG1 f1 h1
 | true=>rw [if_pos rfl] at h1 ⊢; exact ⟨ς,G1,Q,E,hς.ts (f1.ts hG),hG1,h1,fun b G2 H2 hG2 f2 h2=>lv b G2 H2 hG2 (f1.trans f2) h2,lx.fr f1⟩
theorem jl1 {rest:List Expr}(ha:PT X a (lT X tA))(hb:PW X (.BoolOp .Or (b::rest) pos) (lT X tB)):PW X (.BoolOp .Or (a::b::rest) pos) (lT X fun ς G Q E=>tA ς G (fun c G1=>if c=true then Q true G1 else tB ς G1 Q E) E):=by
 refine (pw_or ha hb).imp fun σ H Q0 h=>?_
 obtain ⟨ς,G,Q,E,hς,hG,h,lv,lx⟩:=h
 refine ⟨ς,G,_,E,hς,hG,h,fun c G1 H1 hG1 f1 h1=>?_,lx⟩
 cases c with
 | true=>rw [if_pos rfl] at h1 ⊢; exact lv true G1 H1 hG1 f1 h1
 | false=>rw [if_neg Bool.false_ne_true] at h1 ⊢; exact ⟨ς,G1,Q,E,hς.ts (f1.ts hG),hG1,h1,fun b G2 H2 hG2 f2 h2=>lv b G2 H2 hG2 (f1.trans f2) h2,lx.fr f1⟩
theorem jl7 (hc:PT X c (lT X tA))(ha:PE X a (lE X ta))(hb:PE X b (lE X tb)):PE X (.IfExp c a b pos) (lE X fun ς G Q E=>tA ς G (fun t G1=>if t=true then ta ς G1 Q E else tb ς G1 Q E) E):=by
 refine (jg9 hc ha hb).imp fun σ H Q0 h=>?_
 obtain ⟨ς,G,Q,E,hς,hG,h,lv,lx⟩:=h
 refine ⟨ς,G,_,E,hς,hG,h,fun c G1 H1 hG1 f1 h1=>?_,lx⟩
 cases c with
 | true=>rw [if_pos rfl] at h1 ⊢; exact ⟨ς,G1,Q,E,hς.ts (f1.ts hG),hG1,h1,lv.fr f1,lx.fr f1⟩
 | false=>rw [if_neg Bool.false_ne_true] at h1 ⊢; exact ⟨ς,G1,Q,E,hς.ts (f1.ts hG),hG1,h1,lv.fr f1,lx.fr f1⟩
end
end Z

namespace L2
open PySem PySem.Spec PyProof.Rows
set_option maxHeartbeats 4000000
section
variable {X:Cx}{e st:Expr}{te tst:TE}{pos p2:Pos}
noncomputable def jmf (K:PySem.W.Frag)(te tst:TE):TE:=fun σ H Q=>te σ H fun x H1=>tst σ H1 fun y H2=>(∃ a xs,x=.ref a/\SqL K H2 a xs/\
 ((y=.int 1/\∀ p,H2 p=none->Q (.ref p) (upd H2 p (.lst xs)))\/(y=.int (-1)/\∀ p,H2 p=none->Q (.ref p) (upd H2 p (.lst xs.reverse)))))\/
 ∃ a xs,x=.ref a/\SqT K H2 a xs/\y=.int (-1)/\∀ p,H2 p=none->Q (.ref p) (upd H2 p (.tup xs.reverse))
theorem jiP (he:PE X e te)(hs:PE X st tst):PE X (.Subscript e (.Slice none none (some st) p2) pos) (jmf X.K te tst):=by
 intro pins s σ H Q I h
 refine Subscript_ (thn (he pins s σ H _ I h) fun v s1 ⟨x,H1,I1,r1,q1⟩=>?_)
 refine wpAny_Slice ?_
 rw [evalPart_none,evalPart_some]
 refine wpAny_pure (wpAny_pure ?_)
 refine thn (hs pins s1 σ H1 _ I1 q1) fun u s3 ⟨y,H3,I3,r3,q3⟩=>?_
 have I4:Inv X pins σ H3 { s3 with heap:=s3.heap.push { cls:=.type "slice",data:=.fields #[.none,.none,u] } }:=I3.kept (t':=s3.toks) fun b ob q=>Heap.get?_push_of_some _ q
 rcases q3 with ⟨a,xs,rfl,hx,q3⟩ | ⟨a,xs,rfl,hx,rfl,q⟩
 ·cases r1
  obtain ⟨its,r,ht,hz⟩:=I4.list hx
  have hlen:=r.length
  show wpAny (model X.prog X.w) X.A (subscriptTail e (.Slice none none (some st) p2) (.ref a) (.ref s3.heap.objs.size)) (EP X pins σ Q) X.xe { s3 with heap:=s3.heap.push { cls:=.type "slice",data:=.fields #[.none,.none,u] } }
  refine tail_any (ops:=[.ref a,.ref s3.heap.objs.size]) ht.isList.typeIs slot_list_getitem.lookup ?_ (by with_unfolding_all rfl)
  rcases q3 with ⟨rfl,q⟩ | ⟨rfl,q⟩
  ·obtain ⟨t,rfl⟩:=r3
   refine wpAny_getItem_list_slice ht.isList (Heap.IsSliceOf.new ..) .none .none (.int 1 t) (by decide) ?_ (by rw [List.size_toArray] <;> omega)
   rw [jhy]
   refine ⟨.ref _,_,I4.laid (t':=s3.toks) (o:=.lst xs) (fun b ob q=>Heap.get?_push_of_some _ q) (Nat.le_refl _) ?_,rfl,q _ (I4.hok.fresh (Nat.le_refl _))⟩
   exact ⟨hz,_,0,r,Heap.get?_push_size _ rfl⟩
  ·obtain ⟨t,rfl⟩:=r3
   refine wpAny_getItem_list_slice ht.isList (Heap.IsSliceOf.new ..) .none .none (.int (-1) t) (by decide) ?_ (by rw [List.size_toArray] <;> omega)
   rw [jgW]
   refine ⟨.ref _,_,I4.laid (t':=s3.toks) (o:=.lst xs.reverse) (fun b ob q=>Heap.get?_push_of_some _ q) (Nat.le_refl _) ?_,rfl,q _ (I4.hok.fresh (Nat.le_refl _))⟩
   exact ⟨by rw [List.length_reverse]; exact hz,_,0,r.rev,Heap.get?_push_size _ rfl⟩
 ·cases r1
  obtain ⟨t,rfl⟩:=r3
  obtain ⟨its,r,ht,hz⟩:=I4.tuple hx
  have hlen:=r.length
  show wpAny (model X.prog X.w) X.A (subscriptTail e (.Slice none none (some st) p2) (.ref a) (.ref s3.heap.objs.size)) (EP X pins σ Q) X.xe { s3 with heap:=s3.heap.push { cls:=.type "slice",data:=.fields #[.none,.none,.int (-1) t] } }
  refine tail_any (ops:=[.ref a,.ref s3.heap.objs.size]) ht.typeIs PyProof.Rows.slot_tuple_getitem.lookup ?_ (by with_unfolding_all rfl)
  refine HT.getItem_tuple_rev ht (Heap.IsSliceOf.new ..) ?_ (by rw [<- hlen]; exact hz)
  refine ⟨.ref _,_,I4.laid (t':=s3.toks) (o:=.tup xs.reverse) (fun b ob q=>Heap.get?_push_of_some _ q) (Nat.le_refl _) ?_,rfl,q _ (I4.hok.fresh (Nat.le_refl _))⟩
  exact ⟨by rw [List.length_reverse]; exact hz,_,r.rev,TupD.new _ _⟩
end
end L2
namespace Z
open PySem L2
set_option maxHeartbeats 4000000
section
variable {X:Cx}{pos:Pos}{a b e:Expr}{es:List Expr}{ta tb te:UE}{ts:UA}
theorem jfL:PA X [] (lA X fun _ G Q _=>Q [] G):=by
 refine jky.imp fun σ H Q0 h=>?_
 obtain ⟨ς,G,Q,E,hς,hG,h,lv,lx⟩:=h
 exact lv [] [] G H rfl hG (Fr.refl _ _) h
theorem jdL (ha:PE X e (lE X te))(hr:PA X es (lA X ts))(hs:starEach (e::es) X.env=(false,eval e X.env)::starEach es X.env):PA X (e::es) (lA X fun ς G Q E=>te ς G (fun x G1=>ts ς G1 (fun xs G2=>Q (x::xs) G2) E) E):=by
 refine (jiV ha hr hs).imp fun σ H Q0 h=>?_
 obtain ⟨ς,G,Q,E,hς,hG,h,lv,lx⟩:=h
 refine ⟨ς,G,_,E,hς,hG,h,fun x v G1 H1 rx hG1 f1 h1=>?_,lx⟩
 refine ⟨ς,G1,_,E,hς.ts (f1.ts hG),hG1,h1,fun xs vs G2 H2 rxs hG2 f2 h2=>?_,lx.fr f1⟩
 exact lv (x::xs) (v::vs) G2 H2 ⟨v,vs,rfl,rx.ts (f2.ts hG1),rxs⟩ hG2 (f1.trans f2) h2
theorem jlW {k}(h:PA X es (lA X ts)):PE X (.Tuple es k pos) (lE X fun ς G Q E=>ts ς G (fun us G1=>us.length<=sizeLine/\Q (.tup us) G1) E):=
 (jkr h).imp fun σ H Q0 h=>lE.many h fun us vs G H' Q r hG q lv=>⟨by rw [<- r.length]; exact q.1,fun p hp=>lv.tup hp r hG q.2⟩
theorem jl6 (h:PA X es (lA X ts)):PE X (.List es pos) (lE X fun ς G Q E=>ts ς G (fun us G1=>us.length<=sizeLine/\newO G1 (.lst us) Q) E):=
 (jkv h).imp fun σ H Q0 h=>lE.many h fun us vs G H' Q r hG q lv=>⟨by rw [<- r.length]; exact q.1,fun p hp=>lv.lst hp r hG q.2⟩
noncomputable def rDix:R2:=fun x y H Q=>∃ a v,x=.ref a/\DGet H a y (some v)/\Q v H
theorem jje (hu:X.A.units + 1 < cLine):IxR X rDix:=by
 intro value slice pins s σ H x y v u Q I rx ry h hs
 obtain ⟨a,w,rfl,g,q⟩:=h
 cases rx
 exact PyProof.Rows.tail_any (jeL I g) PySem.F.slot_dict_getitem.lookup (jgF hu I g ry fun w' s3 I3 rw'=>⟨w,H,I3,rw',q⟩) hs
theorem jh2 {H:Hp}{G:Gp}{y:U}{v':V}{Q:K1}{Q0:VK}{a:Addr}{xs:List U}{vs:List V}(h:match y with | .int i=>(match atI xs i with | some u=>Q u G | none=>False) | _=>False)
  (ry:RU X.K H y v') (hG:HR X.K H G) (lv:LV X H G Q Q0) (sq:SqL X.K H a vs) (rs:RUs X.K H xs vs):rIx X.K (.ref a) v' H Q0:=by
 cases y with
 | int i=>
  cases ry
  dsimp only at h
  split at h
  ·rename_i u e
   obtain ⟨w,e2,r⟩:=rs.atI e
   exact .inl ⟨_,vs,_,w,rfl,rfl,sq,e2,lv.here r hG h⟩
  ·exact h.elim
 | _=>exact h.elim
theorem jk9 {H:Hp}{G:Gp}{x y:U}{v v':V}{Q:K1}{Q0:VK}(rx:RU X.K H x v)(ry:RU X.K H y v')(hG:HR X.K H G)(h:ixU x y G Q)(lv:LV X H G Q Q0):rIx X.K v v' H Q0\/rDix v v' H Q0:=by
 unfold ixU at h
 split at h
 ·obtain ⟨a,vs,rfl,e,rs⟩:=rx
  cases ry
  split at h
  ·rename_i u e1
   obtain ⟨w,e2,r⟩:=rs.atI e1
   exact .inl (.inr (.inl ⟨a,vs,_,w,rfl,rfl,.of e,e2,lv.here r hG h⟩))
  ·exact h.elim
 ·cases rx; cases ry
  obtain ⟨h1,h⟩:=h
  split at h
  ·rename_i c e1
   exact .inl (.inr (.inr ⟨_,_,c,rfl,rfl,h1,e1,lv.str hG h⟩))
  ·exact h.elim
 ·cases rx
  split at h
  ·rename_i g
   obtain ⟨vs,e,rs⟩:=hG.lst g
   exact .inl (jh2 h ry hG lv (.of e) rs)
  ·rename_i g
   obtain ⟨ob,vs,e,rs⟩:=hG _ _ g
   exact .inl (jh2 h ry hG lv (.inl (.inr ⟨ob,e⟩)) rs)
  ·rename_i kvs g
   obtain ⟨l,e,rs⟩:=hG _ _ g
   split at h
   ·rename_i k ek
    have:=jgn ry ek
    subst this
    split at h
    ·rename_i u eu
     have:=jdv k rs
     rw [eu] at this
     obtain ⟨w,e2,r⟩:=this
     exact .inr ⟨_,w,rfl,by rw [<- e2]; exact DGet.k e,lv.here r hG h⟩
    ·exact h.elim
   ·exact h.elim
  ·rename_i kvs g
   obtain ⟨l,e,rs⟩:=hG _ _ g
   split at h
   ·rename_i ys
    obtain ⟨b,bs,rfl,eb,rb⟩:=ry
    split at h
    ·rename_i k ek
     have:=je8 rb ek
     subst this
     split at h
     ·rename_i u eu
      have:=jdv k rs
      rw [eu] at this
      obtain ⟨w,e2,r⟩:=this
      exact .inr ⟨_,w,rfl,by rw [<- e2]; exact DGet.t e eb,lv.here r hG h⟩
     ·exact h.elim
    ·exact h.elim
   ·exact h.elim
  ·exact h.elim
 ·exact h.elim
theorem u_ix (hu:X.A.units + 1 < cLine)(ha:PE X a (lE X ta))(hb:PE X b (lE X tb))(hs:jeS b):PE X (.Subscript a b pos) (lE X fun ς G Q E=>ta ς G (fun x G1=>tb ς G1 (fun y G2=>ixU x y G2 Q) E) E):=
 (jmA ((jk8 (X:=X)).or (jje hu)) ha hb hs).imp fun σ H Q0 h=>lE.two h fun x y v v' G H' Q rx ry hG q lv=>jk9 rx ry hG q lv
theorem u_no:PO X none (lO X fun _ G Q _=>Q none G):=jiI.imp fun σ H Q0 h=>by
 obtain ⟨ς,G,Q,E,hς,hG,h,lv,lx⟩:=h
 exact lv none G H hG (Fr.refl _ _) h
theorem u_so (ha:PE X e (lE X te)):PO X (some e) (lO X fun ς G Q E=>te ς G (fun x G1=>match x with | .int i=>Q (some i) G1 | _=>False) E):=(jiH ha).imp fun σ H Q0 h=>by
 obtain ⟨ς,G,Q,E,hς,hG,h,lv,lx⟩:=h
 refine ⟨ς,G,_,E,hς,hG,h,fun x v G1 H1 rx hG1 f1 h1=>?_,lx⟩
 dsimp only at h1
 split at h1
 ·cases rx
  exact ⟨_,rfl,lv _ G1 H1 hG1 f1 h1⟩
 ·exact h1.elim
theorem u_sl {lo hi:Option Expr}{p2:Pos}{tl th:Sg->Gp->(Option Int->Gp->Prop)->KX->Prop}(ha:PE X e (lE X te))(hl:PO X lo (lO X tl))(hh:PO X hi (lO X th)) :
  PE X (.Subscript e (.Slice lo hi none p2) pos) (lE X fun ς G Q E=>te ς G (fun x G1=>tl ς G1 (fun l G2=>th ς G2 (fun h G3=>slU x l h G3 Q) E) E) E):=by
 refine (jg8 (SlR.or (jiu (X:=X)) (SlR.or jiv jj3)) ha hl hh).imp fun σ H Q0 h=>?_
 obtain ⟨ς,G,Q,E,hς,hG,h,lv,lx⟩:=h
 refine ⟨ς,G,_,E,hς,hG,h,fun x v G1 H1 rx hG1 f1 h1=>?_,lx⟩
 refine ⟨ς,G1,_,E,hς.ts (f1.ts hG),hG1,h1,fun l G2 H2 hG2 f2 h2=>?_,lx.fr f1⟩
 refine ⟨ς,G2,_,E,(hς.ts (f1.ts hG)).ts (f2.ts hG1),hG2,h2,fun u G3 H3 hG3 f3 h3=>?_,lx.fr (f1.trans f2)⟩
 have lv3:=lv.fr ((f1.trans f2).trans f3)
 have rx3:=rx.ts (fun a xs e=>(f3.ts hG2) a xs ((f2.ts hG1) a xs e))
 unfold slU at h3
 split at h3
 ·obtain ⟨a,vs,rfl,ea,rs⟩:=rx3
  by_cases z:HT.sIx vs.length 0 l=0/\HT.sIx vs.length vs.length u=vs.length
  ·refine .inl (.inr ⟨a,vs,rfl,.of ea,z,?_⟩)
   refine lv3.here (w:=.tup _) ⟨a,vs,rfl,ea,?_⟩ hG3 h3
   have e2:cutV vs l u=vs:=by unfold cutV; rw [z.1,z.2]; simp
   have:=rs.cut l u
   rw [e2] at this
   exact this
  ·exact .inl (.inl ⟨a,vs,rfl,.of ea,z,fun p hp=>lv3.tup hp (rs.cut l u) hG3 h3⟩)
 ·cases rx3
  exact .inr (.inr ⟨_,rfl,h3.1,lv3.str hG3 h3.2⟩)
 ·cases rx3
  split at h3
  ·rename_i us eu
   obtain ⟨vs,sq,rs⟩:=hG3.ls eu
   exact .inr (.inl ⟨_,vs,rfl,sq,fun p hp=>lv3.lst hp (rs.cut l u) hG3 h3⟩)
  ·exact h3.elim
 ·exact h3.elim
theorem jl0 {st:Expr}{p2:Pos}(ha:PE X a (lE X ta))(hb:PE X st (lE X tb)):PE X (.Subscript a (.Slice none none (some st) p2) pos) (lE X fun ς G Q E=>ta ς G (fun x G1=>tb ς G1 (fun y G2=>revU x y G2 Q) E) E):=by
 refine (jiP ha hb).imp fun σ H Q0 h=>lE.two h fun x y v v' G H' Q rx ry hG q lv=>?_
 unfold revU at q
 split at q
 ·obtain ⟨a,vs,rfl,ea,rs⟩:=rx
  cases ry
  obtain ⟨rfl,q⟩:=q
  exact .inr ⟨a,vs,rfl,.of ea,rfl,fun p hp=>lv.tup hp rs.reverse hG q⟩
 ·cases rx; cases ry
  split at q
  ·rename_i us eu
   obtain ⟨vs,sq,rs⟩:=hG.ls eu
   obtain ⟨hi,q⟩:=q
   rcases hi with rfl | rfl
   ·exact .inl ⟨_,vs,rfl,sq,.inl ⟨rfl,fun p hp=>lv.lst hp rs hG q⟩⟩
   ·exact .inl ⟨_,vs,rfl,sq,.inr ⟨rfl,fun p hp=>lv.lst hp rs.reverse hG q⟩⟩
  ·exact q.elim
 ·exact q.elim
end
end Z

namespace L2
open PySem PySem.Spec PyProof.Rows
set_option maxHeartbeats 4000000
section
variable {X:Cx}
theorem jhw (hc:X.calm=true):jbd X (.builtin "all") (fun xs H Q=>∃ (p:Addr) (bs:List Bool),xs=[.ref p]/\SqL X.K H p (bs.map V.bl)/\Q (.bl (bs.all id)) H):=by
 rintro pins s σ H xs us Q I r ⟨p,bs,rfl,hq,q⟩
 obtain ⟨u,rfl,rx⟩:=jc8 r
 cases rx
 obtain ⟨its,fp,wr,P,S,hl,W,st,tr,kp⟩:=jfG hc I hq true
 exact call_all_walk (wpAny_pyIter_list hl ⟨_,fp,wr,_,P,S,_,rfl,W,st,tr,fun h' tk hk=>⟨.bl _,H,I.kept (kp h' hk),congrArg Value.bool (LSm.range_all bs),q⟩⟩)
end
end L2
namespace Z
open PySem L2
set_option maxHeartbeats 4000000
noncomputable def bltN:Blt->Str
 | .len => "len" | .repr => "repr" | .min => "min" | .max => "max" | .sum => "sum" | .all => "all" | .any => "any" | .sorted => "sorted" | .int => "int" | .str => "str" | .isi => "isinstance"
noncomputable def bltV:Blt->Value
 | .len=>.builtin "len" | .repr=>.builtin "repr" | .min=>.builtin "min" | .max=>.builtin "max" | .sum=>.builtin "sum" | .all=>.builtin "all" | .any=>.builtin "any" | .sorted=>.builtin "sorted" | .int=>.type "int" | .str=>.type "str" | .isi=>.builtin "isinstance"
section
variable {X:Cx}
theorem RUs.one {K:PySem.W.Frag}{H:Hp}{u:U}{vs:List V}(r:RUs K H [u] vs):∃ v,vs=[v]/\RU K H u v:=by
 obtain ⟨v,vr,rfl,r1,rs⟩:=r
 cases rs
 exact ⟨v,rfl,r1⟩
theorem RUs.two {K:PySem.W.Frag}{H:Hp}{u w:U}{vs:List V}(r:RUs K H [u,w] vs):∃ v v',vs=[v,v']/\RU K H u v/\RU K H w v':=by
 obtain ⟨v,vr,rfl,r1,rs⟩:=r
 obtain ⟨v',rfl,r2⟩:=rs.one
 exact ⟨v,v',rfl,r1,r2⟩
theorem jjc (K:PySem.W.Frag):∀ t∈["NoneType", "bool", "int", "str", "list", "tuple", "dict"],∀ c∈["bool", "int", "str", "list", "tuple", "dict"],PySem.W.kitOne K (.type t) (.type c)=some (t == c || (t == "bool" && c == "int")):=by
 simp only [List.forall_mem_cons,List.not_mem_nil,false_implies,implies_true,and_true]
 refine ⟨?_,?_,?_,?_,?_,?_,?_⟩ <;> refine ⟨?_,?_,?_,?_,?_,?_⟩ <;> rfl
theorem jio {x:U}{G:Gp}{n:String}(h:tyN x G=some n):n∈["NoneType", "bool", "int", "str", "list", "tuple", "dict"]:=by
 unfold tyN at h
 split at h <;> first | (cases h; decide) | (split at h <;> first | (cases h; decide) | cases h) | cases h
theorem jjf {H:Hp}{G:Gp}{x:U}{v:V}{t:String}{b:Bool}(r:RU X.K H x v)(hG:HR X.K H G)(h:isiU x G t=some b):∃ tv,TyOf X.K H v tv/\PySem.W.kitOne X.K tv (.type t)=some b:=by
 unfold isiU at h
 split at h
 ·rename_i n en
  split at h
  ·rename_i ht
   cases h
   refine ⟨.type n,?_,jjc X.K n (jio en) t ht⟩
   unfold tyN at en
   split at en
   ·cases en; cases r; exact .non
   ·cases en; cases r; exact .bl _
   ·cases en; cases r; exact .int _
   ·cases en; cases r; exact .str _
   ·cases en; obtain ⟨a,ws,rfl,e,_⟩:=r; exact .tup e
   ·cases r
    split at en
    ·rename_i g; cases en; obtain ⟨ws,e,_⟩:=hG.lst g; exact .lst e
    ·rename_i g; cases en; obtain ⟨ws,e,_⟩:=hG _ _ g; exact .dK e
    ·rename_i g; cases en; obtain ⟨ws,e,_⟩:=hG _ _ g; exact .dT e
    ·cases en
   ·cases en
  ·cases h
 ·cases h
noncomputable def BlU (X:Cx)(b:Blt):Prop:=∃ r,jbd X (bltV b) r/\∀ us vs G H Q Q0,RUs X.K H us vs->HR X.K H G->bltU b us G Q->LV X H G Q Q0->r vs H Q0
theorem jlm {k:Nat}(hr:Room k X.A)(hc:X.calm=true)(b:Blt):BlU X b:=by
 cases b with
 | len=>
  refine ⟨_,jbd.or (jhv (X:=X)) jgK,fun us vs G H Q Q0 r hG h lv=>?_⟩
  change lenU us G Q at h
  unfold lenU at h
  split at h <;> first | exact h.elim | skip
  ·obtain ⟨v,rfl,r1⟩:=r.one
   obtain ⟨a,ws,rfl,e,rs⟩:=r1
   exact .inl ⟨_,_,rfl,.inr ⟨ws,.of e,rfl⟩,by rw [<- rs.length]; exact lv.int hG h⟩
  ·obtain ⟨v,rfl,r1⟩:=r.one
   cases r1
   exact .inl ⟨_,_,rfl,⟨h.1,rfl⟩,lv.int hG h.2⟩
  ·obtain ⟨v,rfl,r1⟩:=r.one
   cases r1
   split at h
   ·rename_i g
    obtain ⟨ws,e,rs⟩:=hG.lst g
    exact .inl ⟨_,_,rfl,.inl ⟨ws,.of e,rfl⟩,by rw [<- rs.length]; exact lv.int hG h⟩
   ·rename_i g
    obtain ⟨ob,ws,e,rs⟩:=hG _ _ g
    exact .inl ⟨_,_,rfl,.inl ⟨ws,.inl (.inr ⟨ob,e⟩),rfl⟩,by rw [<- rs.length]; exact lv.int hG h⟩
   ·rename_i kvs g
    obtain ⟨l,e,rs⟩:=hG _ _ g
    refine .inr ⟨_,l,rfl,e,?_⟩
    have:∀ {kvs:List (Key×U)} {l:List (Key×V)},RKs X.K H kvs l->kvs.length=l.length:=by
     intro kvs
     induction kvs with
     | nil=>intro l r; cases r; rfl
     | cons p q ih=>intro l r; obtain ⟨v,l',rfl,_,rs⟩:=r; simp [ih rs]
    rw [<- this rs]
    exact lv.int hG h
   ·exact h.elim
 | repr=>
  refine ⟨_,jfF hr,fun us vs G H Q Q0 r hG h lv=>?_⟩
  change jfm us G Q at h
  unfold jfm at h
  split at h <;> first | exact h.elim | skip
  obtain ⟨v,rfl,r1⟩:=r.one
  obtain ⟨d,h1,h2,h3⟩:=h
  exact ⟨v,d,rfl,h1.dv hG r1,h2,lv.str hG h3⟩
 | min=>
  refine ⟨_,jgJ hc,fun us vs G H Q Q0 r hG h lv=>?_⟩
  change minU us G Q at h
  unfold minU at h
  split at h <;> first | exact h.elim | skip
  obtain ⟨v,v',rfl,r1,r2⟩:=r.two
  cases r1; cases r2
  exact ⟨_,_,rfl,lv.int hG h⟩
 | max=>exact ⟨fun _ _ _=>False,fun _ _ _ _ _ _ _ _ _ h=>h.elim,fun _ _ _ _ _ _ _ _ h _=>h.elim⟩
 | sum=>exact ⟨fun _ _ _=>False,fun _ _ _ _ _ _ _ _ _ h=>h.elim,fun _ _ _ _ _ _ _ _ h _=>h.elim⟩
 | any=>exact ⟨fun _ _ _=>False,fun _ _ _ _ _ _ _ _ _ h=>h.elim,fun _ _ _ _ _ _ _ _ h _=>h.elim⟩
 | all=>
  refine ⟨_,jhw hc,fun us vs G H Q Q0 r hG h lv=>?_⟩
  change allU us G Q at h
  unfold allU at h
  split at h <;> first | exact h.elim | skip
  obtain ⟨v,rfl,r1⟩:=r.one
  cases r1
  split at h
  ·rename_i g
   obtain ⟨ws,e,rs⟩:=hG.lst g
   split at h
   ·rename_i ns en
    have:=rs.bools en
    subst this
    exact ⟨_,ns,rfl,.of e,lv.bl hG h⟩
   ·exact h.elim
  ·exact h.elim
 | sorted=>exact ⟨fun _ _ _=>False,fun _ _ _ _ _ _ _ _ _ h=>h.elim,fun _ _ _ _ _ _ _ _ h _=>h.elim⟩
 | int=>
  refine ⟨_,jgL,fun us vs G H Q Q0 r hG h lv=>?_⟩
  change intU us G Q at h
  unfold intU at h
  split at h <;> first | exact h.elim | skip
  ·obtain ⟨v,rfl,r1⟩:=r.one
   cases r1
   exact .inl ⟨_,rfl,lv.int hG h⟩
  ·obtain ⟨v,rfl,r1⟩:=r.one
   cases r1
   exact .inr ⟨_,rfl,lv.int hG h⟩
 | str=>
  refine ⟨_,jej.or (jgI (X:=X)),fun us vs G H Q Q0 r hG h lv=>?_⟩
  change strU us G Q at h
  unfold strU at h
  split at h <;> first | exact h.elim | skip
  ·obtain ⟨v,rfl,r1⟩:=r.one
   cases r1
   exact .inl ⟨_,rfl,h.1,lv.str hG h.2⟩
  ·obtain ⟨v,rfl,r1⟩:=r.one
   cases r1
   exact .inr ⟨_,rfl,lv.str hG h⟩
 | isi=>
  refine ⟨_,jeN,fun us vs G H Q Q0 r hG h lv=>?_⟩
  change jfz us G Q at h
  unfold jfz at h
  split at h <;> first | exact h.elim | skip
  rename_i t
  obtain ⟨v,v',rfl,r1,r2⟩:=r.two
  cases r2
  split at h
  ·rename_i b eb
   obtain ⟨tv,h1,h2⟩:=jjf r1 hG eb
   exact ⟨v,t,tv,b,rfl,h1,h2,lv.bl hG h⟩
  ·exact h.elim
theorem jhx (b:Blt):bootBuiltins (bltN b)=some (bltV b):=by
 cases b with
 | len=>exact PySem.boot_len
 | repr=>exact (by with_unfolding_all rfl)
 | min=>exact PyProof.Rows.boot_min
 | max=>exact PyProof.Rows.boot_max
 | sum=>exact PyProof.Rows.boot_sum
 | any=>exact PyProof.Rows.boot_any
 | all=>exact PyProof.Rows.boot_all
 | sorted=>exact PyProof.Rows.boot_sorted
 | int=>exact PyProof.Rows.boot_int
 | str=>exact PyProof.Rows.boot_str
 | isi=>exact PyProof.Rows.boot_isinstance
theorem jln (b:Blt):bltN b ≠ "__name__" /\ (bltN b == ("__debug__" : Str))=false:=by cases b <;> decide
theorem jma {b:Blt}{e:Expr}{es:List Expr}{ts:UA}{p pos:Pos}(hb:BlU X b)(hg:Gl X (bltN b))(hm:X.mg (bltN b)=none)(ha:PA X (e::es) (lA X ts))
  (he:starEach (e::es) X.env=(false,eval e X.env)::starEach es X.env) (hpl:(backTo pos (starEach es X.env)).any (·.1)=false) :
  PE X (.Call (.Name (bltN b) p) (e::es) [] pos) (lE X fun ς G Q E=>ts ς G (fun us G1=>bltU b us G1 Q) E):=by
 obtain ⟨r,h1,h2⟩:=hb
 have fin:∀ σ H Q0,lE X (fun ς G Q E=>ts ς G (fun us G1=>bltU b us G1 Q) E) σ H Q0->tCB r (lA X ts) σ H Q0:=fun σ H Q0 h=>lE.many h fun us vs G H' Q rs hG q lv=>h2 us vs G H' Q Q0 rs hG q lv
 have hv:=jhx b
 obtain ⟨n1,n2⟩:=jln b
 cases b
 all_goals first
  | exact (jhc h1 hg hm hv ha n1 n2 he hpl).imp fin
  | exact (jcP h1 hg hm hv ha n1 n2 he hpl).imp fin
end
noncomputable def mthN:Mth->Str
 | .append => "append" | .extend => "extend" | .insert => "insert" | .pop => "pop" | .reverse => "reverse" | .index => "index" | .join => "join" | .get => "get"
section
variable {X:Cx}
theorem RUs.mk {K:PySem.W.Frag}{H:Hp}{u:U}{v:V}{us:List U}{vs:List V}(r:RU K H u v)(rs:RUs K H us vs):RUs K H (u::us) (v::vs):=⟨v,vs,rfl,r,rs⟩
structure MtK (X:Cx)(m:Mth)(T id:String):Prop where
 pa:PlainAttrs T
 sl:Slot T (mthN m) id
 ty:typeOf (.builtin id)=pure (.type "method_descriptor")
noncomputable def MtU (X:Cx)(m:Mth):Prop:=∀ x G1 T id,mtU m x G1=some (T,id)->MtK X m T id/\(∀ v H1,RU X.K H1 x v->HR X.K H1 G1->tyV X.K T v H1)/\
 ∃ r,MtR X id r/\∀ us v vs G H Q Q0,RU X.K H x v->RUs X.K H us vs->HR X.K H G->jbt m x us G Q->LV X H G Q Q0->r v vs H Q0
theorem jhD {a:Addr}{G:Gp}{us:List U}(g:G a=some (.lst us)):∀ v H1,RU X.K H1 (.loc a) v->HR X.K H1 G->tyV X.K "list" v H1:=fun v H1 r hG=>by
 cases r
 obtain ⟨vs,e,_⟩:=hG.lst g
 exact .inl ⟨rfl,vs,.of e⟩
theorem jgg:MtU X .append:=by
 intro x G1 T id h
 dsimp only [mtU] at h
 split at h <;> first | contradiction | skip
 split at h
 ·rename_i g
  cases h
  refine ⟨⟨PySem.F.plainAttrs_list,PySem.F.slot_list_append,PySem.F.type_list_append⟩,jhD g,_,jd5,fun us v vs G H Q Q0 rx rs hG h lv=>?_⟩
  cases rx
  dsimp only [jbt] at h
  unfold jeQ at h
  split at h <;> first | exact h.elim | skip
  rename_i e2
  cases e2
  split at h
  ·rename_i g2
   obtain ⟨ws,e,r⟩:=hG.lst g2
   obtain ⟨y,rfl,ry⟩:=rs.one
   refine ⟨_,ws,y,rfl,rfl,e,by rw [<- r.length]; exact h.1,?_⟩
   exact lv.wl g2 (r.append (RUs.mk (us:=[]) (vs:=[]) ry rfl)) hG (w:=.non) rfl h.2
  ·exact h.elim
 ·cases h
theorem jgf:MtU X .extend:=by
 intro x G1 T id h
 dsimp only [mtU] at h
 split at h <;> first | contradiction | skip
 split at h
 ·rename_i g
  cases h
  refine ⟨⟨PySem.F.plainAttrs_list,PySem.F.slot_list_extend,PySem.F.type_list_extend⟩,jhD g,_,jgh,fun us v vs G H Q Q0 rx rs hG h lv=>?_⟩
  cases rx
  dsimp only [jbt] at h
  unfold jeH at h
  split at h <;> first | exact h.elim | skip
  rename_i e2
  cases e2
  split at h
  ·rename_i g2 g3
   obtain ⟨ws,e,r⟩:=hG.lst g2
   obtain ⟨zs,e',r'⟩:=hG.lst g3
   obtain ⟨y,rfl,ry⟩:=rs.one
   cases ry
   refine ⟨_,_,ws,zs,rfl,rfl,e,e',by rw [<- r.length,<- r'.length]; exact h.1,?_⟩
   exact lv.wl g2 (r.append r') hG (w:=.non) rfl h.2
  ·exact h.elim
 ·cases h
theorem jhY (m:Mth):MtU X m:=by
 cases m with
 | append=>exact jgg
 | extend=>exact jgf
 | insert=>intro x G1 T id h; cases h
 | pop=>intro x G1 T id h; cases h
 | reverse=>intro x G1 T id h; cases h
 | index=>intro x G1 T id h; cases h
 | join=>intro x G1 T id h; cases h
 | get=>intro x G1 T id h; unfold mtU at h; split at h <;> contradiction
variable {m:Mth}{o e:Expr}{es:List Expr}{to:UE}{ts:UA}{apos cpos:Pos}
theorem jjN (hm:MtU X m)(ho:PE X o (lE X to))(ha:PA X (e::es) (lA X ts))(hbase:attributeBase o (mthN m) X.env (eval o X.env)=eval o X.env)
  (hfew:((backTo cpos (starEach (e::es) X.env)).all (fun x=>!x.1) && (backToKw cpos (keywordEach [] X.env)).all (fun x=>x.1.isSome)
   && decide ((e::es).length + ([]:List Keyword).length + (if ([]:List Keyword).isEmpty then 0 else 1) < 30))=true)
  (hline:(apos.endLine == cpos.line)=true) (hs:starEach (e::es) X.env=(false,eval e X.env)::starEach es X.env) (hplain:(backTo cpos (starEach es X.env)).any (·.1)=false) :
  PE X (.Call (.Attribute o (mthN m) apos) (e::es) [] cpos) (lE X fun ς G Q E=>to ς G (fun x G1=>match mtU m x G1 with | some _=>ts ς G1 (fun us G2=>jbt m x us G2 Q) E | none=>False) E):=by
 intro pins s σ H Q0 I h
 obtain ⟨ς,G,Q,E,hς,hG,h,lv,lx⟩:=h
 refine PySem.wpAny_Call_method_late hbase hfew hline rfl (thn (ho pins s σ H (fun v H1=>∃ x G1 T id,RU X.K H1 x v/\HR X.K H1 G1/\Fr H G H1 G1/\mtU m x G1=some (T,id)/\ts ς G1 (fun us G2=>jbt m x us G2 Q) E) I
  ⟨ς,G,_,E,hς,hG,h,fun x v G1 H1 rx hG1 f1 h1=>?_,lx⟩) fun v s1 ⟨xv,H1,I1,r1,x,G1,T,id,rx,hG1,f1,em,h1⟩=>?_)
 ·dsimp only at h1
  split at h1
  ·rename_i p ep
   exact ⟨x,G1,p.1,p.2,rx,hG1,f1,ep,h1⟩
  ·exact h1.elim
 ·obtain ⟨k,hty,r,hr1,hr2⟩:=hm x G1 T id em
  obtain ⟨t1,t2⟩:=jhE I1 r1 (hty xv H1 rx hG1)
  refine ⟨T,id,k.pa,k.sl,k.ty,t1,t2,?_⟩
  have hA:=ha cpos pins s1 σ H1 (fun vs H2=>∃ us G2,RUs X.K H2 us vs/\HR X.K H2 G2/\Fr H1 G1 H2 G2/\jbt m x us G2 Q) I1 ⟨ς,G1,_,E,hς.ts (f1.ts hG),hG1,h1,fun us vs G2 H2 rs hG2 f2 h2=>⟨us,G2,rs,hG2,f2,h2⟩,lx.fr f1⟩
  rw [hs] at hA ⊢
  refine Calls.callWith_builtin (by show (false || (backTo cpos (starEach es X.env)).any (·.1))=false; rw [hplain] <;> rfl) (Calls.evalArgs_plain ?_)
  exact thn hA fun us s2 ⟨vs,H2,I2,r2,ws,G2,rs,hG2,f2,h2⟩=>hr1 pins s2 σ H2 xv vs v us Q0 I2 r1 r2 (hr2 ws xv vs G2 H2 Q Q0 (rx.ts (f2.ts hG1)) rs hG2 h2 (lv.fr (f1.trans f2)))
theorem jil (hm:MtU X m)(ho:PE X o (lE X to))(hbase:attributeBase o (mthN m) X.env (eval o X.env)=eval o X.env)(hline:(apos.endLine == cpos.line)=true) :
  PE X (.Call (.Attribute o (mthN m) apos) [] [] cpos) (lE X fun ς G Q E=>to ς G (fun x G1=>match mtU m x G1 with | some _=>jbt m x [] G1 Q | none=>False) E):=by
 intro pins s σ H Q0 I h
 obtain ⟨ς,G,Q,E,hς,hG,h,lv,lx⟩:=h
 refine PySem.wpAny_Call_method0_late hbase hline (thn (ho pins s σ H (fun v H1=>∃ x G1 T id,RU X.K H1 x v/\HR X.K H1 G1/\Fr H G H1 G1/\mtU m x G1=some (T,id)/\jbt m x [] G1 Q) I
  ⟨ς,G,_,E,hς,hG,h,fun x v G1 H1 rx hG1 f1 h1=>?_,lx⟩) fun v s1 ⟨xv,H1,I1,r1,x,G1,T,id,rx,hG1,f1,em,h1⟩=>?_)
 ·dsimp only at h1
  split at h1
  ·rename_i p ep
   exact ⟨x,G1,p.1,p.2,rx,hG1,f1,ep,h1⟩
  ·exact h1.elim
 ·obtain ⟨k,hty,r,hr1,hr2⟩:=hm x G1 T id em
  obtain ⟨t1,t2⟩:=jhE I1 r1 (hty xv H1 rx hG1)
  exact ⟨T,id,k.pa,k.sl,k.ty,t1,t2,Calls.callWith_builtin rfl (PySem.evalArgs_none (hr1 pins s1 σ H1 xv [] v [] Q0 I1 r1 .nil (hr2 [] xv [] G1 H1 Q Q0 rx rfl hG1 h1 (lv.fr f1))))⟩
end
end Z

namespace L2
open PySem PySem.Spec PyProof.Rows
set_option maxHeartbeats 4000000
section
variable {X:Cx}{tg:Expr}
noncomputable def iSeq (K:PySem.W.Frag)(tl:TE):TI:=fun σ H R=>tl σ H fun x H1=>∃ a,x=.ref a/\(((∃ xs,SqL K H1 a xs)/\R (Itl K a) H1)\/((∃ xs,SqT K H1 a xs)/\R (Itt K a) H1))
theorem jkn {l:Expr}{tl:TE}(hl:PE X l tl):PI X tg l (iSeq X.K tl):=by
 intro pins s σ H R I h
 refine thn (hl pins s σ H _ I h) fun v s1 ⟨x,H1,I1,r1,q1⟩=>?_
 obtain ⟨a,e,⟨⟨xs,hq⟩,q⟩ | ⟨⟨xs,hq⟩,q⟩⟩:=q1
 ·subst e
  cases r1
  obtain ⟨its,rv,p,hz⟩:=I1.list hq
  refine wpAny_pyIter_list p.isList ?_
  refine ⟨s1.heap.objs.size,[s1.heap.objs.size],_,_,H1,rfl,I1.kept (t':=s1.toks) fun b o e=>Heap.get?_push_of_some _ e,jfN a _,⟨_,Heap.get?_push_size _ rfl,rfl,rfl⟩,fun b hb=>?_,q⟩
  have e:b=s1.heap.objs.size:=by simpa using hb
  subst e
  exact I1.fpOk (Nat.le_refl _) (I1.hok.fresh (Nat.le_refl _))
 ·subst e
  cases r1
  obtain ⟨its,rv,p,hz⟩:=I1.tuple hq
  refine wpAny_pyIter_tuple (show s1.heap.IsTuple a its.toArray from p) ?_
  refine ⟨s1.heap.objs.size,[s1.heap.objs.size],_,_,H1,rfl,I1.kept (t':=s1.toks) fun b o e=>Heap.get?_push_of_some _ e,jfi a _,⟨_,Heap.get?_push_size _ rfl,rfl,rfl⟩,fun b hb=>?_,q⟩
  have e:b=s1.heap.objs.size:=by simpa using hb
  subst e
  exact I1.fpOk (Nat.le_refl _) (I1.hok.fresh (Nat.le_refl _))
theorem PI.imp {iter:Expr}{t t':TI}(h:PI X tg iter t)(i:∀ σ H R,t' σ H R->t σ H R):PI X tg iter t':=fun pins s σ H R I q=>h pins s σ H R I (i σ H R q)
theorem PG.imp {target:Expr}{t t':TG}(h:PG X target t)(i:∀ v σ H Q,t' v σ H Q->t v σ H Q):PG X target t':=fun pins s σ H v u Q I r q=>h pins s σ H v u Q I r (i v σ H Q q)
theorem PGs.imp {ts:List Expr}{t t':TGs}(h:PGs X ts t)(i:∀ v σ H Q,t' v σ H Q->t v σ H Q):PGs X ts t':=fun pins s σ H v u Q I r q=>h pins s σ H v u Q I r (i v σ H Q q)
theorem PIfs.imp {ifs:List Expr}{t t':TT}(h:PIfs X ifs t)(i:∀ σ H Q,t' σ H Q->t σ H Q):PIfs X ifs t':=fun pins s σ H Q I q=>h pins s σ H Q I (i σ H Q q)
end
end L2
namespace Z
open PySem L2
set_option maxHeartbeats 4000000
noncomputable abbrev UI:=Sg->Gp->(List U->(Gp->Prop)->Gp->Prop)->KX->Prop
noncomputable def jeR (K:PySem.W.Frag)(J:L2.It)(H:Hp)(G:Gp)(xs:List U)(ok:Gp->Prop):Prop:=∀ i H' G',TS H H'->HR K H' G'->ok G'->
 (∀ u,xs[i]?=some u->J.go i H'/\∀ v H'',J.yld i H' v H''->RU K H'' u v/\HR K H'' G'/\Fr H' G' H'' G')/\(i=xs.length->J.stop i H')
theorem jeR.mono {K:PySem.W.Frag}{J:L2.It}{H H2:Hp}{G G2:Gp}{xs:List U}{ok:Gp->Prop}(h:jeR K J H G xs ok)(t:TS H H2):jeR K J H2 G2 xs ok:=fun i H' G' t'=>h i H' G' fun a ys e=>t' a ys (t a ys e)
section
variable (X:Cx)
noncomputable def lI (t:UI):TI:=fun σ H R=>∃ ς G Q E,SR X.K H ς σ/\HR X.K H G/\t ς G Q E/\(∀ xs ok G' H' J,HR X.K H' G'->Fr H G H' G'->jeR X.K J H' G' xs ok->Q xs ok G'->R J H')/\LX X σ H G E
noncomputable def lG (K:PySem.W.Frag)(t:U->Sg->(Sg->Prop)->Prop):TG:=fun v σ H Q0=>∃ u ς k,RU K H u v/\SR K H ς σ/\t u ς k/\∀ ς' σ',SR K H ς' σ'->k ς'->Q0 σ' H
noncomputable def lGs (K:PySem.W.Frag)(t:List U->Sg->(Sg->Prop)->Prop):TGs:=fun vs σ H Q0=>∃ us ς k,RUs K H us vs/\SR K H ς σ/\t us ς k/\∀ ς' σ',SR K H ς' σ'->k ς'->Q0 σ' H
end
section
variable {X:Cx}{tg:Expr}{pos:Pos}{te ta tb:UE}
theorem u_ie {l:Expr}(hl:PE X l (lE X te)):PI X tg l (lI X fun ς G Q E=>te ς G (fun x G1=>itU x G1 fun xs ok=>Q xs ok G1) E):=by
 refine (jkn hl).imp fun σ H R h=>?_
 obtain ⟨ς,G,Q,E,hς,hG,h,lv,lx⟩:=h
 refine ⟨ς,G,_,E,hς,hG,h,fun x v G1 H1 rx hG1 f1 h1=>?_,lx⟩
 dsimp only at h1
 unfold itU at h1
 split at h1
 ·obtain ⟨a,vs,rfl,ea,rs⟩:=rx
  refine ⟨a,rfl,.inr ⟨⟨vs,.of ea⟩,lv _ _ _ H1 _ hG1 f1 (fun i H' G' f hr _=>?_) h1⟩⟩
  have e':H' a=some (.tup vs):=f a _ ea
  refine ⟨fun u eu=>?_,fun e=>⟨vs,.of e',by rw [e,rs.length]; exact Nat.le_refl _⟩⟩
  obtain ⟨w,ew,rw'⟩:=rs.get eu
  refine ⟨⟨vs,w,.of e',ew⟩,fun v H'' y=>?_⟩
  obtain ⟨rfl,y⟩:=y
  have:=y vs (.of e')
  rw [ew] at this
  cases this
  exact ⟨rw'.ts f,hr,Fr.refl _ _⟩
 ·cases rx
  rename_i a
  split at h1
  ·rename_i us eu
   obtain ⟨vs,sq,rs⟩:=hG1.ls eu
   refine ⟨_,rfl,.inl ⟨⟨vs,sq⟩,lv _ _ _ H1 _ hG1 f1 (fun i H' G' f hr ok=>?_) h1⟩⟩
   obtain ⟨vs',sq',rs'⟩:=hr.ls ok
   refine ⟨fun u eu=>?_,fun e=>⟨vs',sq',by rw [e,rs'.length]; exact Nat.le_refl _⟩⟩
   obtain ⟨w,ew,rw'⟩:=rs'.get eu
   refine ⟨⟨vs',w,sq',ew⟩,fun v H'' y=>?_⟩
   obtain ⟨rfl,y⟩:=y
   have:=y vs' sq'
   rw [ew] at this
   cases this
   exact ⟨rw',hr,Fr.refl _ _⟩
  ·exact h1.elim
 ·exact h1.elim
theorem jgU {K:PySem.W.Frag}{H:Hp}{G:Gp}(lo:Int)(n:Nat):jeR K (Itr lo n) H G (rngU lo n) fun _=>True:=by
 intro i H' G' f hr _
 have hl:(rngU lo n).length=n:=by simp [rngU]
 refine ⟨fun u eu=>?_,fun e=>by rw [hl] at e; exact Nat.le_of_eq e.symm⟩
 have hi:i < n:=by have:=(List.getElem?_eq_some_iff.mp eu).1; omega
 refine ⟨hi,fun v H'' y=>?_⟩
 obtain ⟨rfl,rfl⟩:=y
 have:(rngU lo n)[i]?=some (.int (lo + i)):=by simp [rngU,List.getElem?_map,List.getElem?_range hi]
 rw [this] at eu
 cases eu
 exact ⟨rfl,hr,Fr.refl _ _⟩
theorem u_r1 {a : Expr}{p : Pos}(hg : Gl X "range")(hm : X.mg "range" = none)(ha : PE X a (lE X ta))(hs : starEach [a] X.env = [(false, eval a X.env)]) : PI X tg (.Call (.Name "range" p) [a] [] pos) (lI X fun ς G Q E => ta ς G (fun x G1 => match x with
      | .int j => -(2 ^ 62) <= j /\ j < 2 ^ 62 /\ Q (rngU 0 j.toNat) (fun _ => True) G1
      | _ => False) E) := by
  refine (jf1 hg hm (jdL ha jfL hs) hs).imp fun σ H R h => ?_
  obtain ⟨ς, G, Q, E, hς, hG, h, lv, lx⟩ := h
  refine ⟨ς, G, fun us G1 => match us with | [x] => (match x with | .int j => -(2 ^ 62) <= j /\ j < 2 ^ 62 /\ Q (rngU 0 j.toNat) (fun _ => True) G1 | _ => False) | _ => False, E, hς, hG, h, fun us vs G1 H1 rs hG1 f1 h1 => ?_, lx⟩
  dsimp only at h1
  split at h1
  · obtain ⟨v, rfl, r⟩ := rs.one
    split at h1
    · cases r
      exact ⟨_, rfl, h1.1, h1.2.1, lv _ _ G1 H1 _ hG1 f1 (jgU 0 _) h1.2.2⟩
    · exact h1.elim
  · exact h1.elim
theorem SR.set {K:PySem.W.Frag}{H:Hp}{ς:Sg}{σ:St}{u:U}{v:V}(h:SR K H ς σ)(r:RU K H u v)(i:Nat):SR K H (ς.set i (some u)) (σ.set i (some v)):=by
 refine ⟨by simp [h.1],fun j w e=>?_⟩
 by_cases hj:j=i
 ·subst hj
  by_cases hl:j < ς.length
  ·rw [List.getElem?_set_self hl] at e
   cases e
   exact ⟨v,List.getElem?_set_self (by rw [<- h.1]; exact hl),r⟩
  ·rw [List.getElem?_eq_none (by simp; omega)] at e
   cases e
 ·rw [List.getElem?_set_ne (Ne.symm hj)] at e ⊢
  exact h.2 j w e
theorem u_tn {i:Nat}{x:Str}(hN:X.N.Nodup)(hi:X.N[i]?=some x)(hx:Loc X.env.scope x)(hf:X.fn x=true\/X.env.scope.names.lookup x=some .local):PG X (.Name x pos) (lG X.K (tgU (.n i))):=by
 refine (jiO hN hi hx hf).imp fun v σ H Q h=>?_
 obtain ⟨u,ς,k,r,hς,h,q⟩:=h
 exact q _ _ (hς.set r i) h
theorem u_tt {es:List Expr}{k n:Nat}{ts:Tgs}(hc:X.calm=true)(h:PGs X es (lGs X.K (tgsU ts)))(hn:(assignEach es X.env).length=n)(hst:(assignEach es X.env).findIdx? (·.1)=none)(hl:∀ us ς k,tgsU ts us ς k->us.length=n) :
  PG X (.Tuple es k pos) (lG X.K (tgU (.t ts))):=by
 refine (jko hc h hn hst).imp fun v σ H Q h=>?_
 obtain ⟨u,ς,k,r,hς,h,q⟩:=h
 cases u with
 | tup us=>
  obtain ⟨a,vs,rfl,e,rs⟩:=r
  have h':tgsU ts us ς k:=h
  exact ⟨a,vs,rfl,.of e,by rw [<- rs.length]; exact hl _ _ _ h',us,ς,k,rs,hς,h',q⟩
 | _=>exact h.elim
theorem jlX:PGs X [] (lGs X.K (tgsU .nil)):=by
 refine jiN.imp fun vs σ H Q h=>?_
 obtain ⟨us,ς,k,r,hς,h,q⟩:=h
 obtain ⟨rfl,h⟩:=h
 cases r
 exact ⟨rfl,q _ _ hς h⟩
theorem jlY {e:Expr}{es:List Expr}{t:Tg}{ts:Tgs}(h1:PG X e (lG X.K (tgU t)))(h2:PGs X es (lGs X.K (tgsU ts)))(hs:(assignEach (e::es) X.env).map (·.2)=assign e X.env::(assignEach es X.env).map (·.2)) :
  PGs X (e::es) (lGs X.K (tgsU (.cons t ts))):=by
 refine (jg7 h1 h2 hs).imp fun vs σ H Q h=>?_
 obtain ⟨us,ς,k,r,hς,h,q⟩:=h
 cases us with
 | nil=>exact h.elim
 | cons u us=>
  obtain ⟨v,vr,rfl,r1,rs⟩:=r
  exact ⟨v,vr,rfl,u,ς,_,r1,hς,h,fun ς' σ' hs' h'=>⟨us,ς',k,rs,hs',h',q⟩⟩
end
noncomputable def lE0 (K:PySem.W.Frag)(t:UE):TE:=fun τ H Q0=>∃ ς G Q,SR K H ς τ/\HR K H G/\t ς G Q (fun _ _=>False)/\∀ w v G' H',RU K H' w v->HR K H' G'->Fr H G H' G'->Q w G'->Q0 v H'
noncomputable def lT0 (K:PySem.W.Frag)(t:Sg->Gp->(Bool->Gp->Prop)->Prop):TT:=fun τ H Q0=>∃ ς G Q,SR K H ς τ/\HR K H G/\t ς G Q/\∀ b G' H',HR K H' G'->Fr H G H' G'->Q b G'->Q0 b H'
theorem LX.no {X:Cx}{σ:St}{H:Hp}{G:Gp}:LX X σ H G fun _ _=>False:=fun _ _ _ _ _ _ _ _ _ _ h=>h.elim
theorem lE0.of {X:Cx}{e:Expr}{t:UE}(h:PE X e (lE X t)):PE X e (lE0 X.K t):=h.imp fun σ H Q0 ⟨ς,G,Q,h1,h2,h3,h4⟩=>⟨ς,G,Q,_,h1,h2,h3,h4,LX.no⟩
theorem lT0.of {X:Cx}{e:Expr}{t:UT}(h:PT X e (lT X t)):PT X e (lT0 X.K fun ς G Q=>t ς G Q fun _ _=>False):=h.imp fun σ H Q0 ⟨ς,G,Q,h1,h2,h3,h4⟩=>⟨ς,G,Q,_,h1,h2,h3,h4,LX.no⟩
mutual
noncomputable def tgS:Tg->List Nat
 | .n i=>[i]
 | .t ts=>tgsS ts
noncomputable def tgsS:Tgs->List Nat
 | .nil=>[]
 | .cons t ts=>tgS t++tgsS ts
end
noncomputable def Ext (ς0 ς:Sg):Prop:=ς0.length=ς.length/\∀ (j:Nat) (w:U),ς0[j]?=some (some w)->ς[j]?=some (some w)
mutual
theorem jhG {ς0:Sg}:∀ {t:Tg} {u:U} {ς:Sg} {k:Sg->Prop},(∀ i∈tgS t,∀ w,ς0[i]?≠some (some w))->Ext ς0 ς->tgU t u ς k->tgU t u ς fun ς'=>k ς'/\Ext ς0 ς'
 | .n i,u,ς,k,hf,he,h=>by
  refine ⟨h,by simp [he.1],fun j w e=>?_⟩
  have hj:j≠i:=fun z=>hf i (by simp [tgS]) w (z ▸ e)
  rw [List.getElem?_set_ne (Ne.symm hj)]
  exact he.2 j w e
 | .t ts,u,ς,k,hf,he,h=>by
  cases u with
  | tup us=>exact jfP (ts:=ts) (us:=us) (fun i hi=>hf i hi) he h
  | _=>exact h
theorem jfP {ς0:Sg}:∀ {ts:Tgs} {us:List U} {ς:Sg} {k:Sg->Prop},(∀ i∈tgsS ts,∀ w,ς0[i]?≠some (some w))->Ext ς0 ς->tgsU ts us ς k->tgsU ts us ς fun ς'=>k ς'/\Ext ς0 ς'
 | .nil,us,ς,k,_,he,h=>⟨h.1,h.2,he⟩
 | .cons t ts,us,ς,k,hf,he,h=>by
  cases us with
  | nil=>exact h
  | cons u r=>
   have:=jhG (t:=t) (u:=u) (fun i hi=>hf i (by simp [tgsS,hi])) he h
   refine jcI this fun ς' ⟨h1,h2⟩=>jfP (fun i hi=>hf i (by simp [tgsS,hi])) h2 h1
theorem jcI:∀ {t:Tg} {u:U} {ς:Sg} {k k':Sg->Prop},tgU t u ς k->(∀ ς,k ς->k' ς)->tgU t u ς k'
 | .n _,_,_,_,_,h,i=>i _ h
 | .t ts,u,ς,_,_,h,i=>by
  cases u with
  | tup us=>exact jeY (ts:=ts) (us:=us) h i
  | _=>exact h
theorem jeY:∀ {ts:Tgs} {us:List U} {ς:Sg} {k k':Sg->Prop},tgsU ts us ς k->(∀ ς,k ς->k' ς)->tgsU ts us ς k'
 | .nil,_,_,_,_,h,i=>⟨h.1,i _ h.2⟩
 | .cons t ts,us,ς,_,_,h,i=>by
  cases us with
  | nil=>exact h
  | cons u r=>exact jcI (t:=t) h fun ς' h'=>jeY h' i
end
theorem SR.ext {K:PySem.W.Frag}{H:Hp}{ς0 ς:Sg}{σ:St}(h:SR K H ς σ)(e:Ext ς0 ς):SR K H ς0 σ:=⟨e.1.trans h.1,fun i u q=>h.2 i u (e.2 i u q)⟩
theorem SR.pick {K:PySem.W.Frag}{H:Hp}{ς:Sg}{σ:St}(h:SR K H ς σ)(pick:List (Option Nat)):SR K H (jbN pick ς) (pick.map fun o=>o.bind fun j=>(σ[j]?).join):=by
 refine ⟨by simp [jbN],fun i u e=>?_⟩
 unfold jbN at e
 rw [List.getElem?_map] at e ⊢
 cases q:pick[i]? with
 | none=>rw [q] at e; cases e
 | some o=>
  rw [q] at e
  cases o with
  | none=>simp at e
  | some j=>
   simp only [Option.map_some,Option.bind_some,Option.some.injEq] at e ⊢
   have e':ς[j]?=some (some u):=by
    cases z:ς[j]? with
    | none=>rw [z] at e; cases e
    | some w=>rw [z] at e; simp at e; rw [e]
   obtain ⟨v,ev,r⟩:=h.2 j u e'
   exact ⟨v,by rw [ev]; rfl,r⟩
section
variable {K:PySem.W.Frag}{H:Hp}{G:Gp}
theorem HR.newH (h:HR K H G){p:Addr}{o:HO}(e:H p=none):HR K (upd H p o) G:=fun a ob q=>by
 have m:=h a ob q
 obtain ⟨ho,e2⟩:=m.there
 exact m.keep (jaf (jae e2 e)) (TS.new e)
theorem TS.hid {p:Addr}{ys:List V}{o:HO}(e:H p=some (.lst ys)):TS H (upd H p o):=fun a xs h=>by
 have:a≠p:=fun z=>by subst z; rw [e] at h; cases h
 rw [jaf this]; exact h
theorem HR.hid (h:HR K H G){p:Addr}{ys:List V}{o:HO}(e:H p=some (.lst ys))(g:G p=none):HR K (upd H p o) G:=fun a ob q=>by
 have:a≠p:=fun z=>by subst z; rw [g] at q; cases q
 exact (h a ob q).keep (jaf this) (TS.hid e)
theorem HR.know (h:HR K H G){p:Addr}{ys:List V}{us:List U}(e:H p=some (.lst ys))(r:RUs K H us ys):HR K H (gup G p (.lst us)):=fun a ob q=>by
 by_cases z:a=p
 ·subst z
  rw [jao] at q
  cases q
  exact ⟨ys,e,r⟩
 ·rw [jbv z] at q
  exact h a ob q
end
section
variable {X:Cx}{pick:List (Option Nat)}{ti:UI}{t:Tg}{tc:Sg->Gp->(Bool->Gp->Prop)->Prop}{te:UE}{σ:St}{H:Hp}{Q0:VK}
noncomputable abbrev lcD (pick : List (Option Nat))(ti : UI)(t : Tg)(tc : Sg -> Gp -> (Bool -> Gp -> Prop) -> Prop)(te : UE) : UE := fun ς G Q E => ti ς G (fun xs ok G1 => xs.length <= sizeLine /\ jdb ok (fun x G2 k => tgU t x (jbN pick ς) fun τ => tc τ G2 (fun b G3 => if b = true then te τ G3 (fun u G4 => k (some u) G4) (fun _ _ => False) else k none G3)) xs [] G1
      fun us G5 => newO G5 (.lst us) Q) E
noncomputable def FrX (D:Addr)(H:Hp)(G:Gp)(H':Hp)(G':Gp):Prop:=∀ a o,a≠D->H a=some o->G a=none->H' a=some o/\G' a=none
theorem jkX {xs:List U}{ok:Gp->Prop}{G1:Gp}{H1:Hp}{J:L2.It}{τu:Sg}{τ0:St}{D:Addr}{acc0:List U}{ys0:List V}{kk:List U->Gp->Prop}{QQ:St->List V->Hp->Prop}
  (free:∀ i∈tgS t,∀ w,τu[i]?≠some (some w)) (wk:jeR X.K J H1 G1 xs ok) (hG1:HR X.K H1 G1) (eD1:H1 D=some (.lst ys0)) (gD1:G1 D=none) (ra1:RUs X.K H1 acc0 ys0) (sr1:SR X.K H1 τu τ0) (hl:acc0.length + xs.length<=sizeLine)
  (h1:jdb ok (fun x G2 k=>tgU t x τu fun τ=>tc τ G2 (fun b G3=>if b=true then te τ G3 (fun u G4=>k (some u) G4) (fun _ _=>False) else k none G3)) xs acc0 G1 kk)
  (fin:∀ τ' acc' ys' G' H',SR X.K H' τu τ'->HR X.K H' G'->FrX D H1 G1 H' G'->H' D=some (.lst ys')->G' D=none->RUs X.K H' acc' ys'->kk acc' G'->QQ τ' ys' H') :
  jgP J (lG X.K (tgU t)) (lT0 X.K tc) (emA (lE0 X.K te) D) QQ τ0 ys0 H1:=by
 refine ⟨fun i m τ ys H'=>m=xs.length - i/\i<=xs.length/\∃ acc G',SR X.K H' τu τ/\HR X.K H' G'/\FrX D H1 G1 H' G'/\H' D=some (.lst ys)/\G' D=none/\RUs X.K H' acc ys/\acc.length<=acc0.length + i/\
  jdb ok (fun x G2 k=>tgU t x τu fun τ=>tc τ G2 (fun b G3=>if b=true then te τ G3 (fun u G4=>k (some u) G4) (fun _ _=>False) else k none G3)) (xs.drop i) acc G' kk,⟨xs.length,by simp,Nat.zero_le _,acc0,G1,sr1,hG1,fun _ _ _ a b=>⟨a,b⟩,eD1,gD1,ra1,by omega,by simpa using h1⟩,?_⟩
 rintro i m τ ys H' ⟨rfl,hi,acc,G',sr,hr,f,eD,gD',ra,hal,hc⟩
 have ts:TS H1 H':=fun a zs e=>(f a _ (fun z=>by rw [z,eD1] at e; cases e) e (hG1.tupNone e)).1
 by_cases hlt:i < xs.length
 ·rw [List.drop_eq_getElem_cons hlt] at hc
  obtain ⟨hok,hb⟩:=hc
  obtain ⟨w1,_⟩:=wk i H' G' ts hr hok
  obtain ⟨go,yl⟩:=w1 xs[i] (by simp [hlt])
  refine .inr ⟨go,fun v H'' y=>?_⟩
  obtain ⟨rx,hr2,f2⟩:=yl v H'' y
  have sr2:=sr.ts (f2.ts hr)
  refine ⟨xs[i],τu,_,rx,sr2,jhG free ⟨rfl,fun _ _ e=>e⟩ hb,fun τv σ' hs' ⟨hk,he⟩=>?_⟩
  refine ⟨τv,G',_,hs',hr2,hk,fun b G3 H3 hr3 f3 h3=>?_⟩
  have f13:FrX D H1 G1 H3 G3:=fun a o n h g=>let ⟨a1,a2⟩:=f a o n h g; let ⟨b1,b2⟩:=f2 a o a1 a2; f3 a o b1 b2
  have hs3:SR X.K H3 τu σ':=(hs'.ext he).ts (f3.ts hr2)
  obtain ⟨eD2,gD2⟩:=f2 D _ eD gD'
  obtain ⟨eD3,gD3⟩:=f3 D _ eD2 gD2
  have ra3:=(ra.ts (f2.ts hr)).ts (f3.ts hr2)
  cases b with
  | false=>
   rw [if_neg Bool.false_ne_true] at h3
   dsimp only
   rw [if_neg Bool.false_ne_true]
   exact ⟨xs.length - (i + 1),by omega,rfl,hlt,acc,G3,hs3,hr3,f13,eD3,gD3,ra3,by omega,h3⟩
  | true=>
   rw [if_pos rfl] at h3
   dsimp only
   rw [if_pos rfl]
   refine ⟨τv,G3,_,hs'.ts (f3.ts hr2),hr3,h3,fun u v G4 H4 ru hr4 f4 h4=>?_⟩
   obtain ⟨eD4,gD4⟩:=f4 D _ eD3 gD3
   have ra4:=ra3.ts (f4.ts hr3)
   have tsn:=TS.hid (o:=.lst (ys++[v])) eD4
   refine ⟨eD4,by rw [<- ra.length]; omega,xs.length - (i + 1),by omega,rfl,hlt,acc++[u],G4,(hs3.ts (f4.ts hr3)).ts tsn,hr4.hid eD4 gD4,?_,jar,gD4,(ra4.append (RUs.mk (us:=[]) (vs:=[]) ru rfl)).ts tsn,by simp; omega,h4⟩
   intro a o n ha ga
   obtain ⟨x1,x2⟩:=f13 a o n ha ga
   obtain ⟨y1,y2⟩:=f4 a o x1 x2
   exact ⟨by rw [jaf n]; exact y1,y2⟩
 ·have e:i=xs.length:=by omega
  subst e
  rw [List.drop_length] at hc
  obtain ⟨hok,q⟩:=hc
  obtain ⟨_,w2⟩:=wk xs.length H' G' ts hr hok
  exact .inl ⟨w2 rfl,fin τ acc ys G' H' sr hr f eD gD' ra q⟩
theorem jf0 {is:List Nat}(hp:is.all (fun i=>(pick[i]?).join.isNone)=true)(ς:Sg):∀ i∈is,∀ w,(jbN pick ς)[i]?≠some (some w):=fun i hi w e=>by
 have:=List.all_eq_true.mp hp i hi
 unfold jbN at e
 rw [List.getElem?_map] at e
 cases q:pick[i]? with
 | none=>rw [q] at e; cases e
 | some o=>
  rw [q] at e this
  cases o with
  | none=>simp at e
  | some j=>simp at this
theorem jh0 (hp:(tgS t).all (fun i=>(pick[i]?).join.isNone)=true)(h:lE X (lcD pick ti t tc te) σ H Q0):tLc pick (lI X ti) (lG X.K (tgU t)) (lT0 X.K tc) (lE0 X.K te) σ H Q0:=by
 obtain ⟨ς,G,Q,E,hς,hG,h,lv,lx⟩:=h
 refine ⟨ς,G,_,E,hς,hG,h,fun xs ok G1 H1 J hG1 f1 wk h1=>?_,lx⟩
 obtain ⟨hl,h1⟩:=h1
 intro D hD
 refine jkX (acc0:=[]) (jf0 hp ς) (wk.mono (TS.new hD)) (hG1.newH hD) jar (hG1.nope hD) rfl (((hς.ts (f1.ts hG)).ts (TS.new hD)).pick pick) (by simpa using hl) h1 fun τ' acc' ys' G' H' sr hr f eD gD' ra q=>?_
 refine lv (.loc D) (.ref D) _ H' rfl (hr.know eD ra) ?_ (q.at D gD')
 intro a o ha ga
 obtain ⟨x1,x2⟩:=f1 a o ha ga
 obtain ⟨y1,y2⟩:=f a o (jae x1 hD) (by rw [jaf (jae x1 hD)]; exact x1) x2
 exact ⟨y1,by rw [jbv (jae x1 hD)]; exact y2⟩
noncomputable def lI0 (K:PySem.W.Frag)(t:UI):TI:=fun σ H R=>∃ ς G Q,SR K H ς σ/\HR K H G/\t ς G Q (fun _ _=>False)/\∀ xs ok G' H' J,HR K H' G'->Fr H G H' G'->jeR K J H' G' xs ok->Q xs ok G'->R J H'
mutual
theorem jiq {is:List Nat}:∀ {t:Tg} {u:U} {ς:Sg} {k:Sg->Prop},(∀ i∈is,i∉tgS t)->(∀ i∈is,∀ w,ς[i]?≠some (some w))->tgU t u ς k->tgU t u ς fun ς'=>k ς'/\∀ i∈is,∀ w,ς'[i]?≠some (some w)
 | .n j,u,ς,k,hf,he,h=>by
  refine ⟨h,fun i hi w e=>?_⟩
  have hj:i≠j:=fun z=>hf i hi (by simp [tgS,z])
  rw [List.getElem?_set_ne (Ne.symm hj)] at e
  exact he i hi w e
 | .t ts,u,ς,k,hf,he,h=>by
  cases u with
  | tup us=>exact jeZ (ts:=ts) (us:=us) (fun i hi=>hf i hi) he h
  | _=>exact h
theorem jeZ {is:List Nat}:∀ {ts:Tgs} {us:List U} {ς:Sg} {k:Sg->Prop},(∀ i∈is,i∉tgsS ts)->(∀ i∈is,∀ w,ς[i]?≠some (some w))->tgsU ts us ς k->tgsU ts us ς fun ς'=>k ς'/\∀ i∈is,∀ w,ς'[i]?≠some (some w)
 | .nil,us,ς,k,_,he,h=>⟨h.1,h.2,he⟩
 | .cons t ts,us,ς,k,hf,he,h=>by
  cases us with
  | nil=>exact h
  | cons u r=>
   have:=jiq (t:=t) (u:=u) (fun i hi z=>hf i hi (by simp [tgsS,z])) he h
   refine jcI this fun ς' ⟨h1,h2⟩=>jeZ (fun i hi z=>hf i hi (by simp [tgsS,z])) h2 h1
end
variable {tg iter elt:Expr}{ifs:List Expr}{pos:Pos}{N:List Str}{scope:Scope}
theorem u_lc (hc:X.calm=true)(S:CScope X N pick scope)(hw:PI X tg iter (lI X ti))(hp:(tgS t).all (fun i=>(pick[i]?).join.isNone)=true)
  (hg:∀ cl C s₀ H₀ fp,PG (jaj X N scope cl C s₀ H₀ fp) tg (lG X.K (tgU t))) (hi:∀ cl C s₀ H₀ fp,PIfs (jaj X N scope cl C s₀ H₀ fp) ifs (lT0 X.K tc)) (he:∀ cl C s₀ H₀ fp,PE (jaj X N scope cl C s₀ H₀ fp) elt (lE0 X.K te))
  (hs:∀ x,foldedSetIterable iter X.env x=pure x):PE X (.ListComp elt [⟨tg,iter,ifs,0⟩] scope pos) (lE X (lcD pick ti t tc te)):=
 (jmz hc S hw hg hi he hs).imp fun _ _ _ h=>jh0 hp h
end
section
variable {X:Cx}{e:Expr}{te ta tb:UE}{p pos:Pos}
theorem jl5 (hg:Gl X "list")(hm:X.mg "list" = none)(ha:PE X e (lE X te))(he:starEach [e] X.env=[(false,eval e X.env)]) :
  PE X (.Call (.Name "list" p) [e] [] pos) (lE X fun ς G Q E=>te ς G (fun x G1=>itU x G1 fun xs _=>newO G1 (.lst xs) Q) E):=by
 refine (jcP (jek (X:=X)) hg hm PyProof.Rows.boot_list (jdL ha jfL he) (by decide) (by decide) he rfl).imp fun σ H Q0 h=>?_
 obtain ⟨ς,G,Q,E,hς,hG,h,lv,lx⟩:=h
 refine ⟨ς,G,fun us G1=>match us with | [x]=>(itU x G1 fun xs _=>newO G1 (.lst xs) Q) | _=>False,E,hς,hG,h,fun us vs G1 H1 rs hG1 f1 h1=>?_,lx⟩
 dsimp only at h1
 split at h1
 ·obtain ⟨v,rfl,r⟩:=rs.one
  unfold itU at h1
  split at h1
  ·obtain ⟨a,ws,rfl,ea,rr⟩:=r
   exact ⟨a,ws,rfl,.inr (.of ea),fun l hl=>(lv.fr f1).lst hl rr hG1 h1⟩
  ·cases r
   split at h1
   ·rename_i us eu
    obtain ⟨ws,sq,rr⟩:=hG1.ls eu
    exact ⟨_,ws,rfl,.inl sq,fun l hl=>(lv.fr f1).lst hl rr hG1 h1⟩
   ·exact h1.elim
  ·exact h1.elim
 ·exact h1.elim
theorem jl4 (hg:Gl X "tuple")(hm:X.mg "tuple" = none)(ha:PE X e (lE X te))(he:starEach [e] X.env=[(false,eval e X.env)]) :
  PE X (.Call (.Name "tuple" p) [e] [] pos) (lE X fun ς G Q E=>te ς G (fun x G1=>itU x G1 fun xs _=>Q (.tup xs) G1) E):=by
 refine (jcP (jdI (X:=X)) hg hm PyProof.Rows.boot_tuple (jdL ha jfL he) (by decide) (by decide) he rfl).imp fun σ H Q0 h=>?_
 obtain ⟨ς,G,Q,E,hς,hG,h,lv,lx⟩:=h
 refine ⟨ς,G,fun us G1=>match us with | [x]=>(itU x G1 fun xs _=>Q (.tup xs) G1) | _=>False,E,hς,hG,h,fun us vs G1 H1 rs hG1 f1 h1=>?_,lx⟩
 dsimp only at h1
 split at h1
 ·obtain ⟨v,rfl,r⟩:=rs.one
  unfold itU at h1
  split at h1
  ·obtain ⟨a,ws,rfl,ea,rr⟩:=r
   exact ⟨a,ws,rfl,.inr ⟨.of ea,(lv.fr f1).here (w:=.tup _) ⟨a,ws,rfl,ea,rr⟩ hG1 h1⟩⟩
  ·cases r
   split at h1
   ·rename_i us eu
    obtain ⟨ws,sq,rr⟩:=hG1.ls eu
    exact ⟨_,ws,rfl,.inl ⟨sq,fun l hl=>(lv.fr f1).tup hl rr hG1 h1⟩⟩
   ·exact h1.elim
  ·exact h1.elim
 ·exact h1.elim
theorem jiz {K:PySem.W.Frag}{H:Hp}(i:Int)(n:Nat):RUs K H (rngU i n) ((List.range n).map fun k:Nat=>V.int (i + (k:Int))):=by
 unfold rngU
 induction (List.range n) with
 | nil=>rfl
 | cons a r ih=>exact ⟨_,_,rfl,rfl,ih⟩
theorem jjL {p2 pos2:Pos}{a:Expr}(hc:X.calm=true)(hgl:Gl X "list")(hml:X.mg "list" = none)(hgr:Gl X "range")(hmr:X.mg "range" = none)(ha:PE X a (lE X ta))(hs:starEach [a] X.env=[(false,eval a X.env)])
  (hs2:starEach [.Call (.Name "range" p2) [a] [] pos2] X.env=[(false,eval (.Call (.Name "range" p2) [a] [] pos2) X.env)]) :
  PE X (.Call (.Name "list" p) [.Call (.Name "range" p2) [a] [] pos2] [] pos) (lE X fun ς G Q E=>ta ς G (fun x G1=>match x with
   | .int j=>0<=j/\j<=1000000/\newO G1 (.lst (rngU 0 j.toNat)) Q
   | _=>False) E):=by
 refine (jdW hc hgl hml hgr hmr (jdL ha jfL hs) hs hs2).imp fun σ H Q0 h=>?_
 obtain ⟨ς,G,Q,E,hς,hG,h,lv,lx⟩:=h
 refine ⟨ς,G,fun us G1=>match us with | [x]=>(match x with | .int j=>0<=j/\j<=1000000/\newO G1 (.lst (rngU 0 j.toNat)) Q | _=>False) | _=>False,E,hς,hG,h,fun us vs G1 H1 rs hG1 f1 h1=>?_,lx⟩
 dsimp only at h1
 split at h1
 ·obtain ⟨v,rfl,r⟩:=rs.one
  split at h1
  ·rename_i j
   cases r
   refine ⟨_,rfl,h1.1,h1.2.1,fun l hl=>?_⟩
   have:=jiz (K:=X.K) (H:=H1) 0 j.toNat
   simp only [Int.zero_add] at this
   exact (lv.fr f1).lst hl this hG1 h1.2.2
  ·exact h1.elim
 ·exact h1.elim
theorem u_ty {x:Str}{n:String}(hg:Gl X x)(hm:X.mg x=none)(hv:bootBuiltins x=some (.type n))(hn:x ≠ "__name__")(hd:(x == ("__debug__" : Str))=false):PE X (.Name x pos) (lE X fun _ G Q _=>Q (.ty n) G):=
 jb7 (u:=.ty n) (jiT (v:=.ty n) hg hm hv rfl hn hd) fun _=>rfl
theorem u_gl {x:Str}{u:U}{v:V}{w:Value}(hg:Gl X x)(hm:X.mg x=some w)(r:RelV v w)(hr:∀ H,RU X.K H u v)(hd:(x == ("__debug__" : Str))=false):PE X (.Name x pos) (lE X fun _ G Q _=>Q u G):=
 jb7 (jiQ hg hm r hd) hr
theorem jjP:PE X (.Dict [] [] pos) (lE X fun _ G Q _=>newO G (.dK []) Q):=by
 refine jha.imp fun σ H Q0 h p hp=>?_
 obtain ⟨ς,G,Q,E,hς,hG,h,lv,lx⟩:=h
 exact lv (.loc p) (.ref p) _ _ rfl (hG.newO (mo:=.dK []) hp ⟨[],jar,rfl⟩) (Fr.newO hp) (h.at p (hG.nope hp))
theorem RKs.put {κ:Type}[DecidableEq κ]{K:PySem.W.Frag}{H:Hp}{k:κ}{u:U}{v:V}(r:RU K H u v):∀ {kvs:List (κ×U)} {l:List (κ×V)},RKs K H kvs l->RKs K H (dPut kvs k u) (putK l k v):=by
 intro kvs l h
 have any:∀ {kvs:List (κ×U)} {l:List (κ×V)},RKs K H kvs l->(kvs.any fun kv=>decide (kv.1=k))=l.any fun kv=>decide (kv.1=k):=by
  intro kvs
  induction kvs with
  | nil=>intro l h; cases h; rfl
  | cons p q ih=>intro l h; obtain ⟨w,l',rfl,_,rs⟩:=h; simp only [List.any_cons]; rw [ih rs]
 have repl:∀ {kvs:List (κ×U)} {l:List (κ×V)},RKs K H kvs l->RKs K H (kvs.map fun kv=>if kv.1=k then (kv.1,u) else kv) (l.map fun kv=>if kv.1=k then (kv.1,v) else kv):=by
  intro kvs
  induction kvs with
  | nil=>intro l h; cases h; rfl
  | cons p q ih=>
   intro l h
   obtain ⟨k',u'⟩:=p
   obtain ⟨w,l',rfl,rw',rs⟩:=h
   simp only [List.map_cons]
   by_cases e:k'=k
   ·rw [if_pos e,if_pos e]; exact ⟨v,_,rfl,r,ih rs⟩
   ·rw [if_neg e,if_neg e]; exact ⟨w,_,rfl,rw',ih rs⟩
 have snoc:∀ {kvs:List (κ×U)} {l:List (κ×V)},RKs K H kvs l->RKs K H (kvs++[(k,u)]) (l++[(k,v)]):=by
  intro kvs
  induction kvs with
  | nil=>intro l h; cases h; exact ⟨v,[],rfl,r,rfl⟩
  | cons p q ih=>intro l h; obtain ⟨k',u'⟩:=p; obtain ⟨w,l',rfl,rw',rs⟩:=h; exact ⟨w,_,rfl,rw',ih rs⟩
 unfold dPut putK
 rw [any h]
 split
 ·exact repl h
 ·exact snoc h
theorem RKs.length {κ:Type}{K:PySem.W.Frag}{H:Hp}:∀ {kvs:List (κ×U)} {l:List (κ×V)},RKs K H kvs l->kvs.length=l.length
 | [],_,h=>by cases h; rfl
 | (_,_)::_,_,h=>by obtain ⟨v,l',rfl,_,rs⟩:=h; simp [rs.length]
theorem RKs.merge {K:PySem.W.Frag}{H:Hp}:∀ {more:List (Key×U)} {m:List (Key×V)},RKs K H more m->∀ {kvs:List (Key×U)} {l:List (Key×V)},RKs K H kvs l->RKs K H (more.foldl (fun acc kv=>dPut acc kv.1 kv.2) kvs) (jcT l m)
 | [],_,h,_,_,h'=>by cases h; exact h'
 | (k,u)::more,_,h,_,_,h'=>by
  obtain ⟨v,l',rfl,r,rs⟩:=h
  exact RKs.merge rs (h'.put r)
noncomputable def lD (X:Cx)(t:Sg->Gp->(List (Key×U)->Gp->Prop)->KX->Prop)(trs:List (TE×TE)):Prop:=
 ∀ σ H ς G Q E (Q0:List (V×V)->Hp->Prop),SR X.K H ς σ->HR X.K H G->t ς G Q E->LX X σ H G E->
  (∀ kvs (l:List (Key×V)) G' H',RKs X.K H' kvs l->HR X.K H' G'->Fr H G H' G'->Q kvs G'->Q0 (l.map fun kv=>(kV kv.1,kv.2)) H')->je0 trs σ H Q0
theorem jl8 {keys:List (Option Expr)}{values:List Expr}{trs:List (TE×TE)}{t:Sg->Gp->(List (Key×U)->Gp->Prop)->KX->Prop}(hp:PPs X pos keys values trs)(hd:lD X t trs)(hall:keys.all (·.isSome)=true)(hl:keys.length=values.length)(h0:keys≠[])
  (h15:keys.length<=15):PE X (.Dict keys values pos) (lE X fun ς G Q E=>t ς G (fun kvs G1=>kvs.length<=15/\newO G1 (.dK (jc2 kvs)) Q) E):=by
 refine (jiR hp hall hl h0 h15).imp fun σ H Q0 h p hp=>?_
 obtain ⟨ς,G,Q,E,hς,hG,h,lv,lx⟩:=h
 have gp:=hG.nope hp
 refine hd σ _ ς G _ E _ (hς.ts (TS.new hp)) (hG.newH hp) h (lx.fr (Fr.new hp)) fun kvs l G' H' r hG' f q=>?_
 obtain ⟨e,g⟩:=f p _ jar gp
 refine ⟨e,l,rfl,by rw [<- r.length]; exact q.1,?_⟩
 have ts:TS H' (upd H' p (.dK (jcT [] l))):=fun a xs h=>by
  have:a≠p:=fun z=>by subst z; rw [e] at h; cases h
  rw [jaf this]; exact h
 refine lv (.loc p) (.ref p) (gup G' p (.dK (jc2 kvs))) _ rfl (fun a ob z=>?_) (fun a o ha ga=>?_) (q.2.at p g)
 ·by_cases ea:a=p
  ·subst ea
   rw [jao] at z
   cases z
   exact ⟨_,jar,(RKs.merge r (kvs:=[]) (l:=[]) rfl).ts ts⟩
  ·rw [jbv ea] at z
   exact (hG' a ob z).keep (jaf ea) ts
 ·have ea:a≠p:=jae ha hp
  obtain ⟨x1,x2⟩:=f a o (by rw [jaf ea]; exact ha) ga
  exact ⟨by rw [jaf ea]; exact x1,by rw [jbv ea]; exact x2⟩
theorem jkZ:lD X (fun _ G Q _=>Q [] G) []:=fun σ H ς G Q E Q0 hς hG h lx q=>q [] [] G H rfl hG (Fr.refl _ _) h
theorem jjb {tk tv : UE}{t : Sg -> Gp -> (List (Key × U) -> Gp -> Prop) -> KX -> Prop}{trs : List (TE × TE)}(hr : lD X t trs) : lD X (fun ς G Q E => tk ς G (fun x G1 => tv ς G1 (fun y G2 => match kU x with
      | some k => t ς G2 (fun kvs G3 => Q ((k, y) :: kvs) G3) E
      | none => False) E) E) ((lE X tk, lE X tv) :: trs) := by
  intro σ H ς G Q E Q0 hς hG h lx q
  refine ⟨ς, G, _, E, hς, hG, h, fun x v G1 H1 rx hG1 f1 h1 => ?_, lx⟩
  refine ⟨ς, G1, _, E, hς.ts (f1.ts hG), hG1, h1, fun y v' G2 H2 ry hG2 f2 h2 => ?_, lx.fr f1⟩
  dsimp only at h2
  split at h2
  · rename_i k ek
    have := jgn rx ek
    subst this
    refine hr σ H2 ς G2 _ E _ ((hς.ts (f1.ts hG)).ts (f2.ts hG1)) hG2 h2 (lx.fr (f1.trans f2)) fun kvs l G3 H3 r hG3 f3 h3 => ?_
    exact q ((k, y) :: kvs) ((k, v') :: l) G3 H3 ⟨v', l, rfl, ry.ts (f3.ts hG2), r⟩ hG3 ((f1.trans f2).trans f3) h3
  · exact h2.elim
end
end Z

namespace L2
open PySem
end L2
namespace Z
open PySem L2
set_option maxHeartbeats 4000000
structure LD (X:Cx)(H:Hp)(G:Gp)(De:En)(D:Ends):Prop where
 nx:∀ ς' σ' G' H',SR X.K H' ς' σ'->HR X.K H' G'->Fr H G H' G'->De.nx ς' G'->D.nx σ' H'
 rt:∀ w v G' H',RU X.K H' w v->HR X.K H' G'->Fr H G H' G'->De.rt w G'->D.rt v H'
 ex:∀ (pins:List (Addr×Obj)) (e:Value) (s':Shared) (x:XV) ς' σ' G' H',Inv X pins σ' H' s'->SR X.K H' ς' σ'->XAt X H' s' e x->HR X.K H' G'->Fr H G H' G'->De.ex x ς' G'->X.xe e s'
noncomputable abbrev US:=En->Sg->Gp->Prop
noncomputable def lS (X:Cx)(t:US):L2.TS:=fun D σ H=>∃ De ς G,SR X.K H ς σ/\HR X.K H G/\t De ς G/\LD X H G De D
section
variable {X:Cx}{H H1:Hp}{G G1:Gp}{De:En}{D:Ends}{ς:Sg}{σ:St}
theorem LD.fr (h:LD X H G De D)(f:Fr H G H1 G1):LD X H1 G1 De D:=
 ⟨fun ς' σ' G' H' a b c=>h.nx ς' σ' G' H' a b (f.trans c),fun w v G' H' a b c=>h.rt w v G' H' a b (f.trans c),fun pins e s' x ς' σ' G' H' i a b c d=>h.ex pins e s' x ς' σ' G' H' i a b c (f.trans d)⟩
theorem LD.lx (h:LD X H G De D)(hς:SR X.K H ς σ)(hG:HR X.K H G):LX X σ H G fun x G1=>De.ex x ς G1:=fun pins e s' x G' H' I a hr f q=>h.ex pins e s' x ς σ G' H' I (hς.ts (f.ts hG)) a hr f q
theorem LD.here (h:LD X H G De D)(hς:SR X.K H ς σ)(hG:HR X.K H G)(q:De.nx ς G):D.nx σ H:=h.nx ς σ G H hς hG (Fr.refl _ _) q
theorem LD.with {k:Sg->Gp->Prop}{D':Ends}(h:LD X H G De D)(hn:∀ ς' σ' G' H',SR X.K H' ς' σ'->HR X.K H' G'->Fr H G H' G'->k ς' G'->D'.nx σ' H')(hr:D'.rt=D.rt):LD X H G { De with nx:=k } D':=
 ⟨hn,fun w v G' H' a b c d=>by rw [hr]; exact h.rt w v G' H' a b c d,h.ex⟩
end
section
variable {X:Cx}{st:Stmt}{rest:List Stmt}{pos:Pos}{e:Expr}{te:UE}{t u:US}
theorem s_nil:PSs X [] (lS X fun D ς G=>D.nx ς G):=jiE.imp fun D σ H ⟨De,ς,G,hς,hG,h,ld⟩=>ld.here hς hG h
theorem s_cons (h1:PS X st (lS X t))(h2:PSs X rest (lS X u)):PSs X (st::rest) (lS X fun D ς G=>t { D with nx:=fun ς' G'=>u D ς' G' } ς G):=by
 refine (jg1 h1 h2).imp fun D σ H ⟨De,ς,G,hς,hG,h,ld⟩=>?_
 exact ⟨_,ς,G,hς,hG,h,ld.with (fun ς' σ' G' H' a b c d=>⟨De,ς',G',a,b,d,ld.fr c⟩) rfl⟩
theorem s_expr (he:PE X e (lE X te))(hs:swapsWith e none pos.line X.env=pure false):PS X (.Expr e pos) (lS X fun D ς G=>te ς G (fun _ G1=>D.nx ς G1) fun x G1=>D.ex x ς G1):=
 (jiF he hs).imp fun D σ H ⟨De,ς,G,hς,hG,h,ld⟩=>⟨ς,G,_,_,hς,hG,h,fun w v G' H' _ hr f q=>ld.nx ς σ G' H' (hς.ts (f.ts hG)) hr f q,ld.lx hς hG⟩
theorem s_ret (he:PE X e (lE X te)):PS X (.Return (some e) pos) (lS X fun D ς G=>te ς G D.rt fun x G1=>D.ex x ς G1):=
 (jki he).imp fun D σ H ⟨De,ς,G,hς,hG,h,ld⟩=>⟨ς,G,_,_,hς,hG,h,fun w v G' H' r hr f q=>ld.rt w v G' H' r hr f q,ld.lx hς hG⟩
theorem s_if {c:Expr}{a b:List Stmt}{tc:UT}(hc:PT X c (lT X tc))(ha:PSs X a (lS X t))(hb:PSs X b (lS X u)):PS X (.If c a b pos) (lS X fun D ς G=>tc ς G (fun x G1=>if x=true then t D ς G1 else u D ς G1) fun x G1=>D.ex x ς G1):=by
 refine (jmw hc ha hb).imp fun D σ H ⟨De,ς,G,hς,hG,h,ld⟩=>⟨ς,G,_,_,hς,hG,h,fun b G' H' hr f q=>?_,ld.lx hς hG⟩
 cases b with
 | true=>rw [if_pos rfl] at q ⊢; exact ⟨De,ς,G',hς.ts (f.ts hG),hr,q,ld.fr f⟩
 | false=>rw [if_neg Bool.false_ne_true] at q ⊢; exact ⟨De,ς,G',hς.ts (f.ts hG),hr,q,ld.fr f⟩
theorem jjC {g:Tg}{D:Ends}{σ:St}{H:Hp}(h:lS X (fun D ς G=>te ς G (fun u G1=>tgU g u ς fun ς'=>D.nx ς' G1) fun x G1=>D.ex x ς G1) D σ H) :
  lE X te σ H fun x H1=>lG X.K (tgU g) x σ H1 D.nx:=by
 obtain ⟨De,ς,G,hς,hG,h,ld⟩:=h
 exact ⟨ς,G,_,_,hς,hG,h,fun w v G' H' r hr f q=>⟨w,ς,_,r,hς.ts (f.ts hG),q,fun ς' σ' hs hk=>ld.nx ς' σ' G' H' hs hr f hk⟩,ld.lx hς hG⟩
theorem s_asg {tg:Expr}{g:Tg}(he:PE X e (lE X te))(hg:PG X tg (lG X.K (tgU g)))(hs:swapsWithSole [tg] e pos.line X.env=pure false)(hw:swappedStores [tg] e X.env=pure none)
  (h1:(assignEach [tg] X.env).map (·.2)=[assign tg X.env]):PS X (.Assign [tg] e pos) (lS X fun D ς G=>te ς G (fun u G1=>tgU g u ς fun ς'=>D.nx ς' G1) fun x G1=>D.ex x ς G1):=
 (jhP he hg hs hw h1).imp fun _ _ _ h=>jjC h
theorem s_lc {i:Nat}{y:Str}{py spos:Pos}{tg iter elt:Expr}{ifs:List Expr}{pick:List (Option Nat)}{N:List Str}{scope:Scope}{ti:UI}{g:Tg}{tc:Sg->Gp->(Bool->Gp->Prop)->Prop}
  (hN:X.N.Nodup) (hi':X.N[i]?=some y) (hy:X.env.scope.names.lookup y=some .local) (hc:X.calm=true) (S:CScope X N pick scope) (hw:PI X tg iter (lI X ti)) (hp:(tgS g).all (fun i=>(pick[i]?).join.isNone)=true)
  (hg:∀ cl C s₀ H₀ fp,PG (jaj X N scope cl C s₀ H₀ fp) tg (lG X.K (tgU g))) (hi:∀ cl C s₀ H₀ fp,PIfs (jaj X N scope cl C s₀ H₀ fp) ifs (lT0 X.K tc)) (he:∀ cl C s₀ H₀ fp,PE (jaj X N scope cl C s₀ H₀ fp) elt (lE0 X.K te))
  (hsw:swapsWith (.ListComp elt [⟨tg,iter,ifs,0⟩] scope pos) (some (.Name y py)) spos.line X.env=pure true) (hs:∀ x,foldedSetIterable iter X.env x=pure x) :
  PS X (.Assign [.Name y py] (.ListComp elt [⟨tg,iter,ifs,0⟩] scope pos) spos) (lS X fun D ς G=>lcD pick ti g tc te ς G (fun u G1=>tgU (.n i) u ς fun ς'=>D.nx ς' G1) fun x G1=>D.ex x ς G1):=by
 refine (jmv hN hi' hy hc S hw hg hi he hsw hs).imp fun D σ H h=>?_
 obtain ⟨De,ς,G,hς,hG,h,ld⟩:=h
 exact jh0 hp ⟨ς,G,_,_,hς,hG,h,fun w v G' H' r hr f q=>ld.nx _ _ G' H' ((hς.ts (f.ts hG)).set r i) hr f q,ld.lx hς hG⟩
noncomputable def jkf:TSet:=fun o i v H Q=>∃ a H',o=.ref a/\DPut H a i v H'/\Q H'
theorem jgT (hu:X.A.units + 1 < cLine):PSet X jkf:=by
 intro pins s σ H o i v ov iv u Q I ro ri rv h
 obtain ⟨a,H',rfl,g,q⟩:=h
 cases ro
 exact jgE hu I g ri rv fun s' I'=>⟨H',I',q⟩
theorem _root_.L2.PSet.or {t t':TSet}(h:PSet X t)(h':PSet X t'):PSet X fun o i v H Q=>t o i v H Q\/t' o i v H Q:=by
 intro pins s σ H o i v ov iv u Q I ro ri rv q
 rcases q with q | q
 ·exact h pins s σ H o i v ov iv u Q I ro ri rv q
 ·exact h' pins s σ H o i v ov iv u Q I ro ri rv q
theorem jiw {H:Hp}{G:Gp}{x y w:U}{v v' v'':V}{k:Gp->Prop}{Q0:Hp->Prop}(rx:RU X.K H x v)(ry:RU X.K H y v')(rw':RU X.K H w v'')(hG:HR X.K H G)(h:setU x y w G k)
  (q:∀ G' H',HR X.K H' G'->Fr H G H' G'->k G'->Q0 H'):jke v v' v'' H Q0\/jkf v v' v'' H Q0:=by
 cases x with
 | loc a=>
  cases rx
  unfold setU at h
  dsimp only at h
  split at h
  ·rename_i xs g
   obtain ⟨vs,e,rs⟩:=hG.lst g
   cases y with
   | int i=>
    cases ry
    dsimp only at h
    split at h
    ·rename_i j ej
     refine .inl ⟨a,vs,i,j,rfl,rfl,e,by rw [<- rs.length]; exact ej,?_⟩
     exact q _ _ (hG.write (mo':=.lst (xs.set j w)) g ⟨_,jar,(rs.set rw' j).ts (TS.write hG g)⟩) (Fr.write g) h.at
    ·exact h.elim
   | _=>exact h.elim
  ·rename_i kvs g
   obtain ⟨l,e,rs⟩:=hG a _ g
   split at h
   ·rename_i k' ek
    have:=jgn ry ek
    subst this
    refine .inr ⟨a,_,rfl,DPut.k e (by rw [<- rs.length]; exact h.1),?_⟩
    exact q _ _ (hG.write (mo':=.dK (dPut kvs k' w)) g ⟨_,jar,(rs.put rw').ts (TS.write hG g)⟩) (Fr.write g) h.2.at
   ·exact h.elim
  ·rename_i kvs g
   obtain ⟨l,e,rs⟩:=hG a _ g
   cases y with
   | tup ys=>
    obtain ⟨b,ws,rfl,eb,rb⟩:=ry
    dsimp only at h
    split at h
    ·rename_i k' ek
     have:=je8 rb ek
     subst this
     refine .inr ⟨a,_,rfl,DPut.t e eb (by rw [<- rs.length]; exact h.1),?_⟩
     exact q _ _ (hG.write (mo':=.dT (dPut kvs k' w)) g ⟨_,jar,(rs.put rw').ts (TS.write hG g)⟩) (Fr.write g) h.2.at
    ·exact h.elim
   | _=>exact h.elim
  ·exact h.elim
 | _=>exact h.elim
theorem s_set {o i:Expr}{to ti:UE}{tpos:Pos}(hu:X.A.units + 1 < cLine)(he:PE X e (lE X te))(ho:PE X o (lE X to))(hi:PE X i (lE X ti))(hs:swapsWithSole [.Subscript o i tpos] e pos.line X.env=pure false)(hw:swappedStores [.Subscript o i tpos] e X.env=pure none)
  (h1:(assignEach [.Subscript o i tpos] X.env).map (·.2)=[assign (.Subscript o i tpos) X.env]) (ha:∀ v,assign (.Subscript o i tpos) X.env v=(do
   let ov <- holding [v] (eval o X.env)
   let iv <- holding [v,ov] (eval i X.env)
   standAt tpos
   holding [v,ov,iv] (setItem ov iv v)
   release [v,ov,iv] [])):PS X (.Assign [.Subscript o i tpos] e pos) (lS X fun D ς G=>te ς G (fun v G1=>to ς G1 (fun x G2=>ti ς G2 (fun y G3=>setU x y v G3 fun G4=>D.nx ς G4) fun x G1=>D.ex x ς G1) fun x G1=>D.ex x ς G1) fun x G1=>D.ex x ς G1):=by
 refine (jhP he (jkp ho hi (PSet.or jgS (jgT hu)) ha) hs hw h1).imp fun D σ H ⟨De,ς,G,hς,hG,h,ld⟩=>?_
 refine ⟨ς,G,_,_,hς,hG,h,fun w v G1 H1 rw' hG1 f1 h1=>?_,ld.lx hς hG⟩
 have hς1:=hς.ts (f1.ts hG)
 refine ⟨ς,G1,_,_,hς1,hG1,h1,fun x vx G2 H2 rx hG2 f2 h2=>?_,(ld.fr f1).lx hς1 hG1⟩
 have hς2:=hς1.ts (f2.ts hG1)
 refine ⟨ς,G2,_,_,hς2,hG2,h2,fun y vy G3 H3 ry hG3 f3 h3=>?_,(ld.fr (f1.trans f2)).lx hς2 hG2⟩
 have hς3:=hς2.ts (f3.ts hG2)
 exact jiw (rx.ts (f3.ts hG2)) ry ((rw'.ts (f2.ts hG1)).ts (f3.ts hG2)) hG3 h3 fun G' H' hr f q=>ld.nx ς σ G' H' (hς3.ts (f.ts hG3)) hr (((f1.trans f2).trans f3).trans f) q
theorem _root_.L2.PGet.or {t t':V->V->Hp->VK->Prop}(h:PGet X t)(h':PGet X t'):PGet X fun o i H Q=>t o i H Q\/t' o i H Q:=by
 intro pins s σ H o i ov iv Q I ro ri q
 rcases q with q | q
 ·exact h pins s σ H o i ov iv Q I ro ri q
 ·exact h' pins s σ H o i ov iv Q I ro ri q
theorem s_par2 {i j:Nat}{x y:Str}{a b:Expr}{ts:UA}{px py pt:Pos}{kt k2 pt2}(hc:X.calm=true)(hN:X.N.Nodup)(hi:X.N[i]?=some x)(hj:X.N[j]?=some y)(hij:i≠j)
  (hx:X.env.scope.names.lookup x=some .local) (hy:X.env.scope.names.lookup y=some .local) (ha:PA X [a,b] (lA X ts))
  (hw:swappedStores [.Tuple [.Name x px,.Name y py] kt pt] (.Tuple [a,b] k2 pt2) X.env=pure (some [x,y])) (hs:swapsWithSole [.Tuple [.Name x px,.Name y py] kt pt] (.Tuple [a,b] k2 pt2) pos.line X.env=pure false) :
  PS X (.Assign [.Tuple [.Name x px,.Name y py] kt pt] (.Tuple [a,b] k2 pt2) pos) (lS X fun D ς G=>ts ς G (fun us G1=>us.length=[i,j].length/\D.nx (([i,j].zip us).foldl (fun s p=>s.set p.1 (some p.2)) ς) G1) fun x G1=>D.ex x ς G1):=by
 refine (jkj hc hN hi hj hij hx hy ha hw hs).imp fun D σ H ⟨De,ς,G,hς,hG,h,ld⟩=>?_
 refine ⟨ς,G,_,_,hς,hG,h,fun us vs G1 H1 rs hG1 f1 h1=>?_,ld.lx hς hG⟩
 obtain ⟨h1,h2⟩:=h1
 match us,h1,h2,rs with
 | [u,w],_,h2,rs=>
  obtain ⟨v,v',rfl,r1,r2⟩:=rs.two
  exact ⟨v,v',rfl,ld.nx _ _ G1 H1 (((hς.ts (f1.ts hG)).set r1 i).set r2 j) hG1 f1 h2⟩
theorem s_for {tg iter:Expr}{body:List Stmt}{ti:UI}{g:Tg}{tb:US}(hp:PassesOwn (model X.prog X.w) X.A X.env X.xe)(hc:X.calm=true)(hi:PI X tg iter (lI X ti))(hg:PG X tg (lG X.K (tgU g)))(hb:PSs X body (lS X tb))
  (hs:∀ x,foldedSetIterable iter X.env x=pure x):PS X (.For tg iter body [] pos) (lS X fun D ς G=>ti ς G (fun xs ok G1=>forL ok (fun x ς1 G2 k=>tgU g x ς1 fun ς2=>tb { D with nx:=k } ς2 G2) xs ς G1 D.nx) fun x G1=>D.ex x ς G1):=by
 refine (jkl hp hc hi hg hb hs).imp fun D σ H ⟨De,ς,G,hς,hG,h,ld⟩=>?_
 refine ⟨ς,G,_,_,hς,hG,h,fun xs ok G1 H1 J hG1 f1 wk h1=>?_,ld.lx hς hG⟩
 refine ⟨fun i m σ' H'=>m=xs.length - i/\i<=xs.length/\∃ ς' G',SR X.K H' ς' σ'/\HR X.K H' G'/\Fr H1 G1 H' G'/\forL ok (fun x ς1 G2 k=>tgU g x ς1 fun ς2=>tb { De with nx:=k } ς2 G2) (xs.drop i) ς' G' De.nx,⟨xs.length,by simp,Nat.zero_le _,ς,G1,hς.ts (f1.ts hG),hG1,Fr.refl _ _,by simpa using h1⟩,?_⟩
 rintro i m σ' H' ⟨rfl,hi',ς',G',sr,hr,f,hc'⟩
 by_cases hlt:i < xs.length
 ·rw [List.drop_eq_getElem_cons hlt] at hc'
  obtain ⟨hok,hb'⟩:=hc'
  obtain ⟨w1,_⟩:=wk i H' G' (f.ts hG1) hr hok
  obtain ⟨go,yl⟩:=w1 xs[i] (by simp [hlt])
  refine .inr ⟨go,fun σ2 H2=>∃ ς2 G2,SR X.K H2 ς2 σ2/\HR X.K H2 G2/\Fr H1 G1 H2 G2/\forL ok (fun x ς1 G2 k=>tgU g x ς1 fun ς2=>tb { De with nx:=k } ς2 G2) (xs.drop (i + 1)) ς2 G2 De.nx,fun σ2 H2 q=>⟨xs.length - (i + 1),by omega,rfl,hlt,q⟩,fun v H'' y=>?_⟩
  obtain ⟨rx,hr2,f2⟩:=yl v H'' y
  refine ⟨xs[i],ς',_,rx,sr.ts (f2.ts hr),hb',fun ς2 σ2 hs2 hk=>?_⟩
  have f3:=(f1.trans f).trans f2
  refine ⟨_,ς2,G',hs2,hr2,hk,(ld.fr f3).with (fun ς3 σ3 G3 H3 a b c d=>⟨ς3,G3,a,b,(f.trans f2).trans c,d⟩) rfl⟩
 ·have e:i=xs.length:=by omega
  subst e
  rw [List.drop_length] at hc'
  obtain ⟨hok,q⟩:=hc'
  exact .inl ⟨(wk xs.length H' G' (f.ts hG1) hr hok).2 rfl,ld.nx ς' σ' G' H' sr hr (f1.trans f) q⟩
theorem s_wh {c:Expr}{body:List Stmt}{tc:UT}{tb:US}(hp:PassesOwn (model X.prog X.w) X.A X.env X.xe)(hc:PT X c (lT X tc))(hb:PSs X body (lS X tb)) :
  PS X (.While c body [] pos) (lS X fun D ς G=>∃ W:Nat->Sg->Gp->Prop,(∃ m,W m ς G)/\∀ m ς1 G1,W m ς1 G1->
   tc ς1 G1 (fun t G2=>if t=true then tb { D with nx:=fun ς' G'=>∃ m',m' < m/\W m' ς' G' } ς1 G2 else D.nx ς1 G2) fun x G1=>D.ex x ς1 G1):=by
 refine (jg2 hp hc hb).imp fun D σ H ⟨De,ς,G,hς,hG,h,ld⟩=>?_
 obtain ⟨W,⟨m0,w0⟩,turn⟩:=h
 refine ⟨fun m σ' H'=>∃ ς' G',SR X.K H' ς' σ'/\HR X.K H' G'/\Fr H G H' G'/\W m ς' G',⟨m0,ς,G,hς,hG,Fr.refl _ _,w0⟩,?_⟩
 rintro m σ' H' ⟨ς',G',sr,hr,f,w⟩
 refine ⟨ς',G',_,_,sr,hr,turn m ς' G' w,fun b G2 H2 hr2 f2 q=>?_,(ld.fr f).lx sr hr⟩
 cases b with
 | true=>
  rw [if_pos rfl] at q ⊢
  refine ⟨fun σ3 H3=>∃ ς3 G3,SR X.K H3 ς3 σ3/\HR X.K H3 G3/\Fr H G H3 G3/\∃ m',m' < m/\W m' ς3 G3,fun σ3 H3 ⟨ς3,G3,a,b,c,m',hm,w'⟩=>⟨m',hm,ς3,G3,a,b,c,w'⟩,?_⟩
  exact ⟨_,ς',G2,sr.ts (f2.ts hr),hr2,q,(ld.fr (f.trans f2)).with (fun ς3 σ3 G3 H3 a b c d=>⟨ς3,G3,a,b,(f.trans f2).trans c,d⟩) rfl⟩
 | false=>
  rw [if_neg Bool.false_ne_true] at q ⊢
  exact ld.nx ς' σ' G2 H2 (sr.ts (f2.ts hr)) hr2 (f.trans f2) q
end
structure Ctx where
 N:List Str
 sc:List (Str×NameKind)
noncomputable def kd (c:Ctx)(x:Str)(k:NameKind):Bool:=c.sc.lookup x == some k
noncomputable def glo (c:Ctx)(x:Str):Bool:=kd c x .globalImplicit && !(x == ("__debug__" : Str))
noncomputable def nm1:Expr->List Str
 | .Name x _=>[x]
 | _=>[]
noncomputable def nm2:Expr->List Str
 | .Tuple es _ _=>es.flatMap nm1
 | e=>nm1 e
noncomputable def jer:Expr->List Str
 | .Tuple es _ _=>es.flatMap nm2
 | e=>nm1 e
noncomputable def jfM:List String:=["bool", "int", "str", "list", "tuple", "dict"]
noncomputable def cOkS (c:Ctx)(N:List Str)(pick:List (Option Nat))(scope:Scope):Bool:=
 decide (scope.kind=.function) && scope.names.all (fun y=>y.2 != .cell || scope.names.lookup y.1 == some .cell) && scope.names.all (fun y=>y.2 != .local || scope.names.lookup y.1 == some .local)
  && scope.names.all (fun y=>y.2 != .free || (scope.names.lookup y.1 == some .free && (kd c y.1 .cell || kd c y.1 .free)))
  && pick.length == N.length && (N.zip pick).all (fun p=>match p.2 with | none=>true | some j=>c.N[j]? == some p.1 && scope.names.lookup p.1 == some .free) && decide N.Nodup
noncomputable def jhX:Expr->Bool
 | .Call (.Name _ _) [] [] _=>false
 | _=>true
noncomputable def e0:Expr:=.Name "" ⟨0,0,0,0⟩
noncomputable def hd:List Expr->Expr
 | []=>e0
 | e::_=>e
noncomputable def c0:Expr->Expr
 | .BinOp l _ _ _=>l
 | .UnaryOp _ x _=>x
 | .IfExp t _ _ _=>t
 | .Compare l _ _ _=>l
 | .Subscript v _ _=>v
 | .Attribute v _ _=>v
 | .Call f _ _ _=>f
 | .ListComp e _ _ _=>e
 | _=>e0
noncomputable def c1:Expr->Expr
 | .BinOp _ _ r _=>r
 | .IfExp _ b _ _=>b
 | .Subscript _ s _=>s
 | _=>e0
noncomputable def c2:Expr->Expr
 | .IfExp _ _ b _=>b
 | _=>e0
noncomputable def cl:Expr->List Expr
 | .BoolOp _ vs _=>vs
 | .Compare _ _ vs _=>vs
 | .Call _ vs _ _=>vs
 | .List vs _=>vs
 | .Tuple vs _ _=>vs
 | .Dict _ vs _=>vs
 | _=>[]
noncomputable def kw0:Expr->Keyword
 | .Call _ _ (k::_) _=>k
 | _=>⟨none,e0,⟨0,0,0,0⟩⟩
noncomputable def kk:Expr->Nat
 | .Constant _ k _=>k
 | .Tuple _ k _=>k
 | _=>0
noncomputable def oe:Option Expr->Expr
 | some e=>e
 | none=>e0
noncomputable def dk:Expr->List Expr
 | .Dict ks _ _=>ks.map oe
 | _=>[]
noncomputable def gen1:Expr->Comprehension
 | .ListComp _ (g::_) _ _=>g
 | _=>⟨e0,e0,[],0⟩
noncomputable def gen2:Expr->Comprehension
 | .ListComp _ (_::g::_) _ _=>g
 | _=>⟨e0,e0,[],0⟩
noncomputable def scp:Expr->Scope
 | .ListComp _ _ s _=>s
 | _=>⟨.module,[],false,false,[]⟩
noncomputable def s0:Expr->Expr
 | .Slice (some e) _ _ _=>e
 | _=>e0
noncomputable def s1:Expr->Expr
 | .Slice _ (some e) _ _=>e
 | _=>e0
noncomputable def s2:Expr->Expr
 | .Slice _ _ (some e) _=>e
 | _=>e0
noncomputable def nmA (c:Ctx)(i:Nat):Str:=c.N.getD i ""
noncomputable def boU:Bool->PySem.BoolOp
 | true=>.And
 | false=>.Or
noncomputable def jb3:Es->Nat
 | .nil=>0
 | .cons _ es=>jb3 es + 1
noncomputable def jdO:Tgs->Nat
 | .nil=>0
 | .cons _ ts=>jdO ts + 1
noncomputable def isLc:E->Bool
 | .lc ..=>true
 | .lc2 ..=>true
 | _=>false
noncomputable def cc (c:Ctx)(pick:List (Option Nat))(h:Expr):Ctx:=⟨jer (gen1 h).target++(pick.filterMap id).filterMap (fun j=>c.N[j]?),(scp h).names⟩
noncomputable def cc2 (c:Ctx)(pick:List (Option Nat))(h:Expr):Ctx:=⟨jer (gen1 h).target++jer (gen2 h).target++(pick.filterMap id).filterMap (fun j=>c.N[j]?),(scp h).names⟩
mutual
noncomputable def unTg (c:Ctx):Tg->Expr->Expr
 | .n i,h=>.Name (nmA c i) h.pos
 | .t ts,h=>.Tuple (jdK c ts (cl h)) (kk h) h.pos
noncomputable def jdK (c:Ctx):Tgs->List Expr->List Expr
 | .nil,_=>[]
 | .cons t ts,hs=>unTg c t (hd hs)::jdK c ts hs.tail
end
noncomputable def okN (c:Ctx)(i:Nat):Bool:=decide (i < c.N.length) && (kd c (nmA c i) .local || kd c (nmA c i) .cell)
mutual
noncomputable def okTg (c:Ctx):Tg->Bool
 | .n i=>okN c i
 | .t ts=>ji5 c ts
noncomputable def ji5 (c:Ctx):Tgs->Bool
 | .nil=>true
 | .cons t ts=>okTg c t && ji5 c ts
end
section
variable (T:Tab)
noncomputable def fnN (n:Nat):Str:=match T.funs[n]? with
 | some d=>d.name
 | none => ""
mutual
noncomputable def unE (c:Ctx):E->Expr->Expr
 | .v i,h=>.Name (nmA c i) h.pos
 | .non,h=>.Constant .none (kk h) h.pos
 | .bl b,h=>.Constant (.bool b) (kk h) h.pos
 | .int i,h=>.Constant (.int i) (kk h) h.pos
 | .str x,h=>.Constant (.str x) (kk h) h.pos
 | .g n,h=>.Name (T.gn.getD n "") h.pos
 | .ty n,h=>.Name (Str.ofString n) h.pos
 | .bin o a b,h=>.BinOp (unE c a (c0 h)) o (unE c b (c1 h)) h.pos
 | .neg a,h=>.UnaryOp .USub (unE c a (c0 h)) h.pos
 | .not a,h=>.UnaryOp .Not (unE c a (c0 h)) h.pos
 | .bop k a es,h=>.BoolOp (boU k) (unE c a (hd (cl h))::unEs c es (cl h).tail) h.pos
 | .cmp o a b,h=>.Compare (unE c a (c0 h)) [o] [unE c b (hd (cl h))] h.pos
 | .cmp2 o p a b d,h=>.Compare (unE c a (c0 h)) [o,p] [unE c b (hd (cl h)),unE c d (hd (cl h).tail)] h.pos
 | .ife t a b,h=>.IfExp (unE c t (c0 h)) (unE c a (c1 h)) (unE c b (c2 h)) h.pos
 | .tup es,h=>.Tuple (unEs c es (cl h)) (kk h) h.pos
 | .lst es,h=>.List (unEs c es (cl h)) h.pos
 | .dic es,h=>.Dict (unK c es (dk h)) (unV c es (cl h)) h.pos
 | .dicT,h=>.Dict [] [] h.pos
 | .ix a b,h=>.Subscript (unE c a (c0 h)) (unE c b (c1 h)) h.pos
 | .sl a lo hi,h=>.Subscript (unE c a (c0 h)) (.Slice (unO c lo (s0 (c1 h))) (unO c hi (s1 (c1 h))) none (c1 h).pos) h.pos
 | .rev a b,h=>.Subscript (unE c a (c0 h)) (.Slice none none (some (unE c b (s2 (c1 h)))) (c1 h).pos) h.pos
 | .call n es,h=>.Call (.Name (fnN T n) (c0 h).pos) (unEs c es (cl h)) [] h.pos
 | .app _ _,_=>e0
 | .blt b es,h=>.Call (.Name (bltN b) (c0 h).pos) (unEs c es (cl h)) [] h.pos
 | .meth m o es,h=>.Call (.Attribute (unE c o (c0 (c0 h))) (mthN m) (c0 h).pos) (unEs c es (cl h)) [] h.pos
 | .lc pick t it ifs d,h=>.ListComp (unE (cc c pick h) d (c0 h)) [⟨unTg (cc c pick h) t (gen1 h).target,unI c it (gen1 h).iter,unEs (cc c pick h) ifs (gen1 h).ifs,0⟩] (scp h) h.pos
 | .lc2 pick t it ifs t2 it2 ifs2 d,h=>.ListComp (unE (cc2 c pick h) d (c0 h)) [⟨unTg (cc2 c pick h) t (gen1 h).target,unI c it (gen1 h).iter,unEs (cc2 c pick h) ifs (gen1 h).ifs,0⟩,⟨unTg (cc2 c pick h) t2 (gen2 h).target,unI (cc2 c pick h) it2 (gen2 h).iter,unEs (cc2 c pick h) ifs2 (gen2 h).ifs,0⟩] (scp h) h.pos
 | .mkD d,h=>.Call (.Name "list" (c0 h).pos) [unE c d (hd (cl h))] [] h.pos
 | .maxD d,h=>.Call (.Name "max" (c0 h).pos) [unE c d (hd (cl h))] [⟨some "default",.Constant (.int 0) (kk (kw0 h).value) (kw0 h).value.pos,(kw0 h).pos⟩] h.pos
 | .minD d,h=>.Call (.Name "min" (c0 h).pos) [unE c d (hd (cl h))] [⟨some "default",.Constant .none (kk (kw0 h).value) (kw0 h).value.pos,(kw0 h).pos⟩] h.pos
 | .mkL d,h=>.Call (.Name "list" (c0 h).pos) [unE c d (hd (cl h))] [] h.pos
 | .mkT d,h=>.Call (.Name "tuple" (c0 h).pos) [unE c d (hd (cl h))] [] h.pos
 | .rngL d,h=>.Call (.Name "list" (c0 h).pos) [.Call (.Name "range" (c0 (hd (cl h))).pos) [unE c d (hd (cl (hd (cl h))))] [] (hd (cl h)).pos] [] h.pos
 | .rngT d,h=>.Call (.Name "tuple" (c0 h).pos) [.Call (.Name "range" (c0 (hd (cl h))).pos) [unE c d (hd (cl (hd (cl h))))] [] (hd (cl h)).pos] [] h.pos
 | .rngL2 _ _,_=>e0
noncomputable def unO (c:Ctx):Eo->Expr->Option Expr
 | .no,_=>none
 | .so d,h=>some (unE c d h)
noncomputable def unEs (c:Ctx):Es->List Expr->List Expr
 | .nil,_=>[]
 | .cons d es,hs=>unE c d (hd hs)::unEs c es hs.tail
noncomputable def unK (c:Ctx):Es->List Expr->List (Option Expr)
 | .cons d (.cons _ es),hs=>some (unE c d (hd hs))::unK c es hs.tail
 | _,_=>[]
noncomputable def unV (c:Ctx):Es->List Expr->List Expr
 | .cons _ (.cons d es),hs=>unE c d (hd hs)::unV c es hs.tail
 | _,_=>[]
noncomputable def unI (c:Ctx):It->Expr->Expr
 | .e d,h=>unE c d h
 | .r1 d,h=>.Call (.Name "range" (c0 h).pos) [unE c d (hd (cl h))] [] h.pos
 | .r2 a b,h=>.Call (.Name "range" (c0 h).pos) [unE c a (hd (cl h)),unE c b (hd (cl h).tail)] [] h.pos
 | .enum d,h=>.Call (.Name "enumerate" (c0 h).pos) [unE c d (hd (cl h))] [] h.pos
 | .dk d,h=>unE c d h
end
mutual
noncomputable def okE (c:Ctx):E->Expr->Bool
 | .v i,_=>decide (i < c.N.length) && (kd c (nmA c i) .local || kd c (nmA c i) .cell || kd c (nmA c i) .free) && !(nmA c i == ("__debug__" : Str)) && !(nmA c i == ("__classdict__" : Str))
 | .non,_=>true
 | .bl _,_=>true
 | .int _,_=>true
 | .str _,_=>true
 | .g n,_=>decide (n < T.gs.length) && decide (n < T.gn.length) && glo c (T.gn.getD n "")
 | .ty n,_=>jfM.contains n && glo c (Str.ofString n)
 | .bin _ a b,h=>okE c a (c0 h) && okE c b (c1 h)
 | .neg a,h=>okE c a (c0 h)
 | .not a,h=>okE c a (c0 h)
 | .bop _ a es,h=>okE c a (hd (cl h)) && okEs c es (cl h).tail
 | .cmp o a b,h=>okE c a (c0 h) && okE c b (hd (cl h)) && !behindInMarks o (unE T c b (hd (cl h)))
 | .cmp2 o p a b d,h=>okE c a (c0 h) && okE c b (hd (cl h)) && okE c d (hd (cl h).tail) && !lastMarks [o,p] [unE T c b (hd (cl h)),unE T c d (hd (cl h).tail)]
 | .ife t a b,h=>okE c t (c0 h) && okE c a (c1 h) && okE c b (c2 h)
 | .tup es,h=>okEs c es (cl h)
 | .lst es,h=>okEs c es (cl h)
 | .dic es,h=>okD c es (dk h) (cl h) && decide (jb3 es<=30)
 | .dicT,_=>false
 | .ix a b,h=>okE c a (c0 h) && okE c b (c1 h)
 | .sl a lo hi,h=>okE c a (c0 h) && okO c lo (s0 (c1 h)) && okO c hi (s1 (c1 h))
 | .rev a b,h=>okE c a (c0 h) && okE c b (s2 (c1 h))
 | .call n es,h=>decide (n < T.funs.length) && glo c (fnN T n) && okEs c es (cl h)
 | .app _ _,_=>false
 | .blt b es,h=>decide (0 < jb3 es) && glo c (bltN b) && okEs c es (cl h)
 | .meth _ o es,h=>okE c o (c0 (c0 h)) && okEs c es (cl h) && ((c0 h).pos.endLine == h.pos.line) && decide (jb3 es < 30) && jhX (unE T c o (c0 (c0 h)))
 | .lc pick t it ifs d,h=>cOkS c (cc c pick h).N pick (scp h) && (tgS t).all (fun i=>(pick[i]?).join.isNone) && okTg (cc c pick h) t && okI c t it (gen1 h).iter && okEs (cc c pick h) ifs (gen1 h).ifs && decide (jb3 ifs<=1) && okE (cc c pick h) d (c0 h)
 | .lc2 _ _ _ _ _ _ _ _,_=>false
 | .mkD _,_=>false
 | .maxD _,_=>false
 | .minD _,_=>false
 | .mkL d,h=>glo c "list" && okE c d (hd (cl h))
 | .mkT d,h=>glo c "tuple" && okE c d (hd (cl h))
 | .rngL d,h=>glo c "list" && glo c "range" && okE c d (hd (cl (hd (cl h))))
 | .rngT _,_=>false
 | .rngL2 _ _,_=>false
noncomputable def okO (c:Ctx):Eo->Expr->Bool
 | .no,_=>true
 | .so d,h=>okE c d h
noncomputable def okEs (c:Ctx):Es->List Expr->Bool
 | .nil,_=>true
 | .cons d es,hs=>okE c d (hd hs) && okEs c es hs.tail
noncomputable def okD (c:Ctx):Es->List Expr->List Expr->Bool
 | .nil,_,_=>true
 | .cons d (.cons f es),hs,gs=>okE c d (hd hs) && okE c f (hd gs) && okD c es hs.tail gs.tail
 | .cons _ .nil,_,_=>false
noncomputable def okI (c:Ctx)(t:Tg):It->Expr->Bool
 | .e d,h=>okE c d h
 | .r1 d,h=>glo c "range" && okE c d (hd (cl h))
 | .r2 _ _,_=>false
 | .enum _,_=>false
 | .dk _,_=>false
end
noncomputable def jhI (ts:List Expr):Nat:=(ts.head?.map (·.pos.line)).getD 0
noncomputable def jah (c:Ctx)(ts:List Expr):List Str:=ts.filterMap fun
  | .Name id pos=>if c.sc.lookup id == some .local && pos.line == jhI ts then some id else none
  | _=>none
noncomputable def je9:Expr->Bool
 | .Starred ..=>true
 | _=>false
noncomputable def swapped (c:Ctx)(ts vs:List Expr):Bool:=
 (ts.length == 2 || ts.length == 3) && vs.length == ts.length && !(vs.any je9) && (jah c ts).length == ts.length && (jah c ts).eraseDups.length == (jah c ts).length && !(vs.all (foldedForSure 8)) && !(vs.all (constantsAlone 8))
noncomputable def jce (c:Ctx)(ts vs:List Expr):Bool:=
 !(ts.length == 2 || ts.length == 3) || vs.length != ts.length || (!(vs.any je9) && ((jah c ts).length != ts.length || (jah c ts).eraseDups.length != (jah c ts).length || vs.all (foldedForSure 8)))
noncomputable def lcSw (c:Ctx)(y:Str)(py p:Pos)(s:Scope):Bool:=c.sc.lookup y == some .local && py.line == p.line && !(s.names.any fun (n,k)=>n == y && (k == .local || k == .cell))
noncomputable def q0:Stmt->Expr
 | .Expr e _=>e
 | .Assign _ e _=>e
 | .Return (some e) _=>e
 | .AugAssign _ _ e _=>e
 | .If e _ _ _=>e
 | .While e _ _ _=>e
 | .For _ e _ _ _=>e
 | _=>e0
noncomputable def q1:Stmt->Expr
 | .Assign (t::_) _ _=>t
 | .AugAssign t _ _ _=>t
 | .For t _ _ _ _=>t
 | _=>e0
noncomputable def qr:Stmt->Expr
 | .Raise (some e) _ _=>e
 | _=>e0
noncomputable def hTy:Stmt->Expr
 | .Try _ (.ExceptHandler (some t) _ _ _::_) _ _ _=>t
 | _=>e0
noncomputable def hBd:Stmt->List Stmt
 | .Try _ (.ExceptHandler _ _ b _::_) _ _ _=>b
 | _=>[]
noncomputable def hPs:Stmt->Pos
 | .Try _ (.ExceptHandler _ _ _ p::_) _ _ _=>p
 | _=>⟨0,0,0,0⟩
noncomputable def qa:Stmt->List Stmt
 | .Try a _ _ _ _=>a
 | .If _ a _ _=>a
 | .While _ a _ _=>a
 | .For _ _ a _ _=>a
 | _=>[]
noncomputable def qb:Stmt->List Stmt
 | .If _ _ b _=>b
 | _=>[]
noncomputable def qh:List Stmt->Stmt
 | []=>.Pass ⟨0,0,0,0⟩
 | s::_=>s
noncomputable def unNs (c:Ctx):List Nat->List Expr->List Expr
 | [],_=>[]
 | i::is,hs=>.Name (nmA c i) (hd hs).pos::unNs c is hs.tail
noncomputable def unCs:List Nat->List Expr->List Expr
 | [],_=>[]
 | k::ks,hs=>.Name (clsN k) (hd hs).pos::unCs ks hs.tail
section
variable (c:Ctx)(n:Nat)
noncomputable def unHL:HL->Expr->Expr
 | .v i,h=>.Name (nmA c i) h.pos
 | .isiV,h=>.Call (.Name "isinstance" (c0 h).pos) [.Name (nmA c n) (hd (cl h)).pos,.Name "ValueError" (hd (cl h).tail).pos] [] h.pos
 | .is1 k,h=>.Call (.Name "isinstance" (c0 h).pos) [.Name (nmA c n) (hd (cl h)).pos,.Name (clsN k) (hd (cl h).tail).pos] [] h.pos
 | .isi ks,h=>.Call (.Name "isinstance" (c0 h).pos) [.Name (nmA c n) (hd (cl h)).pos,.Tuple (unCs ks (cl (hd (cl h).tail))) (kk (hd (cl h).tail)) (hd (cl h).tail).pos] [] h.pos
noncomputable def jij:Bool×HL->Expr->Expr
 | (true,l),h=>.UnaryOp .Not (unHL c n l (c0 h)) h.pos
 | (false,l),h=>unHL c n l h
noncomputable def jhB:List (Bool×HL)->List Expr->List Expr
 | [],_=>[]
 | a::r,hs=>jij c n a (hd hs)::jhB r hs.tail
noncomputable def jhC (k:Bool)(a:Bool×HL):List (Bool×HL)->Expr->Expr
 | [],h=>jij c n a h
 | b::r,h=>.BoolOp (boU k) (jij c n a (hd (cl h))::jhB c n (b::r) (cl h).tail) h.pos
noncomputable def unHA:HA->Expr->Expr
 | .str x,h=>.Constant (.str x) (kk h) h.pos
 | .att f,h=>.Attribute (.Name (nmA c n) (c0 h).pos) f h.pos
noncomputable def jik:List HA->List Expr->List Expr
 | [],_=>[]
 | a::r,hs=>unHA c n a (hd hs)::jik r hs.tail
noncomputable def unHV:HV->Expr->Expr
 | .cond k a as,h=>jhC c n k a as h
 | .one a,h=>unHA c n a h
 | .bl b,h=>.Constant (.bool b) (kk h) h.pos
 | .tup as,h=>.Tuple (jik c n as (cl h)) (kk h) h.pos
 | .lst as,h=>.List (jik c n as (cl h)) h.pos
noncomputable def jjK (i:Nat)(e:HV)(h:Stmt):Stmt:=.Assign [.Name (nmA c i) (q1 h).pos] (unHV c n e (q0 h)) h.pos
noncomputable def unHS:HS->Stmt->Stmt
 | .asg i e,h=>jjK c n i e h
 | .ifa k a as i e,h=>.If (jhC c n k a as (q0 h)) [jjK c n i e (qh (qa h))] [] h.pos
noncomputable def jjJ:List HS->List Stmt->List Stmt
 | [],_=>[]
 | s::r,hs=>unHS c n s (qh hs)::jjJ r hs.tail
end
section
variable (cs:List Nat)(c:Ctx)
noncomputable def okC (k:Nat):Bool:=decide (1<=k) && decide (k < 6) && cs.contains k && glo c (clsN k)
noncomputable def okHL:HL->Bool
 | .v i=>decide (i < c.N.length) && (kd c (nmA c i) .local || kd c (nmA c i) .cell || kd c (nmA c i) .free) && !(nmA c i == ("__debug__" : Str)) && !(nmA c i == ("__classdict__" : Str))
 | .isiV=>glo c "isinstance" && glo c "ValueError"
 | .is1 k=>glo c "isinstance" && okC cs c k
 | .isi ks=>glo c "isinstance" && ks.all (okC cs c) && decide (ks.length<=8)
noncomputable def jhV (as:List (Bool×HL)):Bool:=as.all fun p=>okHL cs c p.2
noncomputable def okHA:HA->Bool
 | .str _=>true
 | .att f=>fldN.contains f
noncomputable def okHV:HV->Bool
 | .cond _ a as=>okHL cs c a.2 && jhV cs c as
 | .one a=>okHA a
 | .bl _=>true
 | .tup as=>as.all okHA && decide (as.length<=8)
 | .lst as=>as.all okHA && decide (as.length<=8)
noncomputable def okHS (n:Nat):HS->Bool
 | .asg i e=>okN c i && decide (i≠n) && okHV cs c e
 | .ifa _ a as i e=>okHL cs c a.2 && jhV cs c as && okN c i && decide (i≠n) && okHV cs c e
end
mutual
noncomputable def unS (c:Ctx):S->Stmt->Stmt
 | .pass,h=>.Pass h.pos
 | .expr d,h=>.Expr (unE T c d (q0 h)) h.pos
 | .asg t d,h=>.Assign [unTg c t (q1 h)] (unE T c d (q0 h)) h.pos
 | .asgC i d,h=>.Assign [.Name (nmA c i) (q1 h).pos] (unE T c d (q0 h)) h.pos
 | .setS o i d,h=>.Assign [.Subscript (unE T c o (c0 (q1 h))) (unE T c i (c1 (q1 h))) (q1 h).pos] (unE T c d (q0 h)) h.pos
 | .par is es,h=>.Assign [.Tuple (unNs c is (cl (q1 h))) (kk (q1 h)) (q1 h).pos] (.Tuple (unEs T c es (cl (q0 h))) (kk (q0 h)) (q0 h).pos) h.pos
 | .aug i o d,h=>.AugAssign (.Name (nmA c i) (q1 h).pos) o (unE T c d (q0 h)) h.pos
 | .augS a i o d,h=>.AugAssign (.Subscript (unE T c a (c0 (q1 h))) (unE T c i (c1 (q1 h))) (q1 h).pos) o (unE T c d (q0 h)) h.pos
 | .ite t a b,h=>.If (unE T c t (q0 h)) (unSs c a (qa h)) (unSs c b (qb h)) h.pos
 | .fr t it b,h=>.For (unTg c t (q1 h)) (unI T c it (q0 h)) (unSs c b (qa h)) [] h.pos
 | .wh t b,h=>.While (unE T c t (q0 h)) (unSs c b (qa h)) [] h.pos
 | .ret d,h=>.Return (some (unE T c d (q0 h))) h.pos
 | .retN,h=>.Return none h.pos
 | .never,h=>h
 | .raise k es,h=>.Raise (some (.Call (.Name (clsN k) (c0 (qr h)).pos) (unEs T c es (cl (qr h))) [] (qr h).pos)) none h.pos
 | .tr b k n hs,h=>.Try (unSs c b (qa h)) [.ExceptHandler (some (.Name (clsN k) (hTy h).pos)) (some (nmA c n)) (jjJ c n hs (hBd h)) (hPs h)] [] [] h.pos
noncomputable def unSs (c:Ctx):Ss->List Stmt->List Stmt
 | .nil,_=>[]
 | .cons s r,hs=>unS c s (qh hs)::unSs c r hs.tail
end
noncomputable def okA (c:Ctx):Tg->E->Stmt->Bool
 | .n i,.lc ..,_=>!(kd c (nmA c i) .local)
 | .n i,.lc2 ..,_=>!(kd c (nmA c i) .local)
 | .t _,.lc ..,_=>false
 | .t _,.lc2 ..,_=>false
 | .t ts,.tup es,h=>jce c (jdK c ts (cl (q1 h))) (unEs T c es (cl (q0 h)))
 | _,_,_=>true
noncomputable def okNs (c:Ctx):List Nat->Bool
 | []=>true
 | i::is=>decide (i < c.N.length) && kd c (nmA c i) .local && !(is.contains i) && okNs c is
mutual
noncomputable def okS (c:Ctx):S->Stmt->Bool
 | .pass,_=>false
 | .expr d,h=>okE T c d (q0 h) && !isLc d
 | .asg t d,h=>okE T c d (q0 h) && okTg c t && okA T c t d h
 | .asgC i d,h=>isLc d && okE T c d (q0 h) && decide (i < c.N.length) && lcSw c (nmA c i) (q1 h).pos (q0 h).pos (scp (q0 h))
 | .setS o i d,h=>okE T c d (q0 h) && okE T c o (c0 (q1 h)) && okE T c i (c1 (q1 h))
 | .par is es,h=>okEs T c es (cl (q0 h)) && okNs c is && swapped c (unNs c is (cl (q1 h))) (unEs T c es (cl (q0 h))) && decide (is.length=2)
 | .aug _ _ _,_=>false
 | .augS _ _ _ _,_=>false
 | .ite t a b,h=>okE T c t (q0 h) && okSs c a (qa h) && okSs c b (qb h)
 | .fr t it b,h=>okTg c t && okI T c t it (q0 h) && okSs c b (qa h)
 | .wh t b,h=>okE T c t (q0 h) && okSs c b (qa h)
 | .ret d,h=>okE T c d (q0 h)
 | .retN,_=>false
 | .never,_=>true
 | .raise _ _,_=>false
 | .tr _ _ _ _,_=>false
noncomputable def okSs (c:Ctx):Ss->List Stmt->Bool
 | .nil,_=>true
 | .cons s r,hs=>okS c s (qh hs) && okSs c r hs.tail
end
end
noncomputable def lSp (K:PySem.W.Frag)(t:List U->Gp->K1->KX->Prop):Sp:=fun vs H Q0 E0=>∃ us G Q E,RUs K H us vs/\HR K H G/\t us G Q E/\(∀ w v G' H',RU K H' w v->HR K H' G'->Fr H G H' G'->Q w G'->Q0 v H')/\
 ∀ x G' H' C dx,XD K H' C dx x->HR K H' G'->Fr H G H' G'->E x G'->E0 (.ref C) (some dx) H'
noncomputable def FnU (P:Program)(w:World)(K:PySem.W.Frag)(mg:Str->Option Value)(base:Heap)(k:Nat)(d:Fun)(t:List U->Gp->K1->KX->Prop):Prop:=
 ∃ (f:Addr) (fd:FuncData),FnOk P w K mg base (CX1 P w) (k + 2) f fd d.ps (lSp K t)/\mg d.name=some (.ref f)/\PySem.W.keepIn K (.ref f)=true/\Binds K fd d.ps []
noncomputable def jcy:List Str:=["len", "repr", "min", "max", "sum", "all", "any", "sorted", "int", "str", "isinstance", "range", "enumerate", "list", "tuple", "bool", "dict", "ValueError"]
structure Cok (T:Tab)(k:Nat)(X:Cx)(c:Ctx):Prop where
 hN:X.N=c.N
 nd:c.N.Nodup
 loc:∀ x,kd c x .local=true->X.env.scope.names.lookup x=some .local
 cel:∀ x,kd c x .cell=true->X.env.scope.names.lookup x=some .cell/\X.fn x=true
 fre:∀ x,kd c x .free=true->X.env.scope.names.lookup x=some .cell\/X.env.scope.names.lookup x=some .free
 glb:∀ x,kd c x .globalImplicit=true->Gl X x
 room:Room k X.A
 calm:X.calm=true
 po:PassesOwn (model X.prog X.w) X.A X.env X.xe
 blt:∀ x∈jcy,X.mg x=none
 fns:∀ (n:Nat) (d:Fun),T.funs[n]?=some d->FnU X.prog X.w X.K X.mg X.base k d (jab T k n)
 gls:∀ (n:Nat) (x:Str) (u:U),T.gn[n]?=some x->T.gs[n]?=some u->∃ v w,X.mg x=some w/\RelV v w/\∀ H,RU X.K H u v
 room2:Room (k + 2) X.A
 cls:∀ n∈T.cs,1<=n->∃ C,XCls X.K (gK X.K) (clsN n) (clsF n) C
 mgK:∀ x v,gK X.K x=some v->X.mg x=some v
structure Cos (T:Tab)(k:Nat)(X:Cx)(c:Ctx):Prop extends Cok T k X c where
 sc:X.env.scope.names=c.sc
 kind:X.env.scope.kind=.function
 stk:X.stack=X.env::X.outer/\X.env.frame=some X.env.locals
section
variable {T:Tab}{k:Nat}{X:Cx}{c:Ctx}
theorem Cok.hu (h:Cok T k X c):X.A.units + 1 < cLine:=jmT h.room
theorem Cok.vis (h:Cok T k X c){x:Str}(v:(kd c x .local || kd c x .cell || kd c x .free)=true):Vis X.env.scope x:=by
 simp only [Bool.or_eq_true] at v
 rcases v with (v | v) | v
 ·exact .inl (h.loc x v)
 ·exact .inr (.inl (h.cel x v).1)
 ·rcases h.fre x v with z | z
  ·exact .inr (.inl z)
  ·exact .inr (.inr z)
theorem Cok.store (h:Cok T k X c){x:Str}(v:(kd c x .local || kd c x .cell)=true):Loc X.env.scope x/\(X.fn x=true\/X.env.scope.names.lookup x=some .local):=by
 simp only [Bool.or_eq_true] at v
 rcases v with v | v
 ·exact ⟨.inl (h.loc x v),.inr (h.loc x v)⟩
 ·exact ⟨.inr (h.cel x v).1,.inl (h.cel x v).2⟩
theorem Cok.gl (h:Cok T k X c){x:Str}(v:glo c x=true):Gl X x/\(x == ("__debug__" : Str))=false:=by
 unfold glo at v
 rw [Bool.and_eq_true] at v
 exact ⟨h.glb x v.1,by simpa using v.2⟩
end
noncomputable def jea:Expr->Bool
 | .BoolOp .. | .BinOp .. | .UnaryOp .. | .IfExp .. | .Dict .. | .ListComp .. | .Compare .. | .Call .. | .Constant .. | .Subscript .. | .Name .. | .List .. | .Tuple ..=>true
 | _=>false
section
variable {T:Tab}{c:Ctx}
theorem jaA (ir:E)(h:Expr):jea (unE T c ir h)=true:=by cases ir <;> rfl
theorem jaC {e:Expr}(h:jea e=true)(es:List Expr)(env:Env):starEach (e::es) env=(false,eval e env)::starEach es env:=by
 cases e <;> first | rfl | cases h
theorem jji {e:Expr}(h:jea e=true):jeS e:=by
 intro o i
 cases e <;> first | rfl | cases h
theorem jcX {e:Expr}(h:jea e=true)(env:Env):∀ x,foldedSetIterable e env x=pure x:=by
 intro x
 cases e <;> first | rfl | cases h
theorem jig (it:It)(h:Expr)(env:Env):∀ x,foldedSetIterable (unI T c it h) env x=pure x:=by
 cases it with
 | e d=>exact jcX (jaA d _) env
 | dk d=>exact jcX (jaA d _) env
 | _=>exact fun _=>rfl
theorem jhm {o i:Expr}(h:jea i=true)(env:Env)(tpos:Pos):∀ v,assign (.Subscript o i tpos) env v=(holding [v] (eval o env) >>= fun a=>holding [v,a] (eval i env) >>= fun b=>standAt tpos >>= fun _=>holding [v,a,b] (setItem a b v) >>= fun _=>release [v,a,b] []):=by
 intro v
 cases i <;> first | rfl | cases h
theorem jii {ir:E}(q:isLc ir=false)(h:Expr)(env:Env)(l:Nat):swapsWith (unE T c ir h) none l env=pure false:=by
 cases ir <;> first | rfl | cases q
theorem jif {ir:E}(q:isLc ir=false)(h tg:Expr)(env:Env)(l:Nat):swapsWithSole [tg] (unE T c ir h) l env=pure false:=by
 cases ir <;> first | rfl | cases q
theorem jhA (ir:E)(h x y:Expr)(p:Pos)(env:Env)(l:Nat):swapsWithSole [.Subscript x y p] (unE T c ir h) l env=pure false/\swappedStores [.Subscript x y p] (unE T c ir h) env=pure none:=by
 cases ir <;> exact ⟨rfl,rfl⟩
theorem jlU (ir:E)(h:Expr)(x:Str)(p:Pos)(env:Env):swappedStores [.Name x p] (unE T c ir h) env=pure none:=by
 cases ir <;> rfl
theorem jih (t:Tg)(h:Expr)(env:Env):(assignEach [unTg c t h] env).map (·.2)=[assign (unTg c t h) env]:=by
 cases t <;> rfl
theorem jc6 {o:Expr}(h:jhX o=true)(m:Str)(env:Env)(w:Sem Value):attributeBase o m env w=w:=by
 unfold attributeBase
 split
 ·cases h
 ·rfl
theorem jcH:∀ (es:Es) (hs:List Expr) (env:Env) (pos:Pos),(backTo pos (starEach (unEs T c es hs) env)).any (·.1)=false/\(backTo pos (starEach (unEs T c es hs) env)).all (fun x=>!x.1)=true
 | .nil,_,_,_=>⟨rfl,rfl⟩
 | .cons d es,hs,env,pos=>by
  obtain ⟨h1,h2⟩:=jcH es hs.tail env pos
  show (backTo pos (starEach (unE T c d (hd hs)::unEs T c es hs.tail) env)).any (·.1)=false/\(backTo pos (starEach (unE T c d (hd hs)::unEs T c es hs.tail) env)).all (fun x=>!x.1)=true
  rw [jaC (jaA d _)]
  exact ⟨by show (false || (backTo pos (starEach (unEs T c es hs.tail) env)).any (·.1))=false; rw [h1]; rfl,by show (!false && (backTo pos (starEach (unEs T c es hs.tail) env)).all (fun x=>!x.1))=true; rw [h2]; rfl⟩
theorem jfK:∀ (es:Es) (hs:List Expr),(unEs T c es hs).length=jb3 es
 | .nil,_=>rfl
 | .cons _ es,hs=>congrArg (·+ 1) (jfK es hs.tail)
theorem ba {a b:Bool}(h:(a && b)=true):a=true/\b=true:=by simpa using h
theorem bn {a:Bool}(h:(!a)=true):a=false:=by simpa using h
theorem jmJ {i:Nat}(h:decide (i < c.N.length)=true):c.N[i]?=some (nmA c i):=by
 unfold nmA
 rw [List.getD_eq_getElem?_getD,List.getElem?_eq_getElem (of_decide_eq_true h)]
 rfl
end
theorem jfO:∀ {ts:Tgs} {us:List U} {ς:Sg} {k:Sg->Prop},tgsU ts us ς k->us.length=jdO ts
 | .nil,us,ς,k,h=>by rw [h.1]; rfl
 | .cons t ts,us,ς,k,h=>by
  cases us with
  | nil=>exact h.elim
  | cons u r=>
   have:∃ ς',tgsU ts r ς' k:=tg_some h
   obtain ⟨ς',h'⟩:=this
   show r.length + 1=jdO ts + 1
   rw [jfO h']
where
 tg_some {t:Tg} {u:U} {ς:Sg} {P:Sg->Prop} (h:tgU t u ς P):∃ ς',P ς':=by
  have:=jcI (k':=fun _=>∃ ς',P ς') h fun ς' h'=>⟨ς',h'⟩
  exact tg_const this
 tg_const:∀ {t:Tg} {u:U} {ς:Sg} {P:Prop},tgU t u ς (fun _=>P)->P
  | .n _,_,_,_,h=>h
  | .t ts,u,ς,P,h=>by
   cases u with
   | tup us=>exact tgs_const (ts:=ts) (us:=us) h
   | _=>exact h.elim
 tgs_const:∀ {ts:Tgs} {us:List U} {ς:Sg} {P:Prop},tgsU ts us ς (fun _=>P)->P
  | .nil,_,_,_,h=>h.2
  | .cons t ts,us,ς,P,h=>by
   cases us with
   | nil=>exact h.elim
   | cons u r=>exact tg_const (jcI (t:=t) h fun ς' h'=>tgs_const h')
section
variable {T:Tab}{k:Nat}{X:Cx}{c:Ctx}
theorem jeq:∀ (ts:Tgs) (hs:List Expr) (env:Env),(assignEach (jdK c ts hs) env).length=jdO ts/\(assignEach (jdK c ts hs) env).findIdx? (·.1)=none
 | .nil,_,_=>⟨rfl,rfl⟩
 | .cons t ts,hs,env=>by
  obtain ⟨h1,h2⟩:=jeq ts hs.tail env
  have e:assignEach (jdK c (.cons t ts) hs) env=(false,assign (unTg c t (hd hs)) env)::assignEach (jdK c ts hs.tail) env:=by cases t <;> rfl
  rw [e]
  exact ⟨by simp [h1,jdO],by simp [List.findIdx?_cons,h2]⟩
theorem Cok.nm {i:Nat}(C:Cok T k X c)(h:decide (i < c.N.length)=true):X.N[i]?=some (nmA c i):=by rw [C.hN]; exact jmJ h
mutual
theorem sTg (C:Cok T k X c):∀ (t:Tg) (h:Expr),okTg c t=true->PG X (unTg c t h) (lG X.K (tgU t))
 | .n _,_,q=>let s:=C.store (ba q).2; u_tn (by rw [C.hN]; exact C.nd) (C.nm (ba q).1) s.1 s.2
 | .t ts,h,q=>u_tt C.calm (sTgs C ts (cl h) q) (jeq ts _ X.env).1 (jeq ts _ X.env).2 fun us ς k q=>jfO q
theorem sTgs (C:Cok T k X c):∀ (ts:Tgs) (hs:List Expr),ji5 c ts=true->PGs X (jdK c ts hs) (lGs X.K (tgsU ts))
 | .nil,_,_=>jlX
 | .cons t ts,hs,q=>jlY (sTg C t (hd hs) (ba q).1) (sTgs C ts hs.tail (ba q).2) (by cases t <;> rfl)
end
noncomputable def EB (X:Cx)(σ:St):XK:=fun cls dx H'=>∀ (pins:List (Addr×Obj)) (ea:Addr) (s':Shared),Inv X pins σ H' s'->Lies X.s₀.heap.objs.size X.pn H' s'.heap ea cls dx->X.xe (.ref ea) s'
theorem jfX {j:Nat}{f:Addr}{fd:FuncData}{ps:List Str}{sp:Sp}{pins:List (Addr×Obj)}{σ:St}{H:Hp}{s:Shared}{Q:VK}{us:List Value}{vs:List V}(F:FnOk X.prog X.w X.K X.mg X.base (CX1 X.prog X.w) j f fd ps sp)(hr:Room j X.A)(hb:Binds X.K fd ps [])
  (I:Inv X pins σ H s) (r:Vals vs us) (h:sp vs H Q (EB X σ)):wpAny (model X.prog X.w) X.A (call (.ref f) us) (EP X pins σ Q) X.xe s:=by
 have hl:(us++[]).length=ps.length:=by rw [List.append_nil,<- r.length]; exact F.len _ _ _ _ h
 have hbs:=hb s us I.kIn hl
 rw [List.append_nil] at hbs
 refine wpAny_call (codeAny_mono (F.run X.A X.stack s H ⟨us,[]⟩ us vs Q (EB X σ) hr I.env0 hbs r h) fun r s' hq=>?_)
 cases r with
 | error e=>
  obtain ⟨ea,H',cls,dx,rfl,I',l,q⟩:=CX1.back I hq
  exact q pins ea s' I' l
 | ok fl=>
  cases fl with
  | ret u=>exact I.after hq
  | next=>exact False.elim hq
  | brk=>exact False.elim hq
  | cont=>exact False.elim hq
theorem jfT {n:Nat}{σ:St}{H:Hp}{G:Gp}{us:List U}{vs:List V}{Q:K1}{E:KX}{Q0:VK}(r:RUs X.K H us vs)(hG:HR X.K H G)(h:jab T k n us G Q E)(lv:LV X H G Q Q0)(lx:LX X σ H G E):lSp X.K (jab T k n) vs H Q0 (EB X σ):=
 ⟨us,G,Q,E,r,hG,h,lv,fun x G' H' C dx xd hr f q pins ea s' I' l=>lx pins (.ref ea) s' x G' H' I' ⟨ea,C,dx,rfl,l,xd⟩ hr f q⟩
theorem jjS {n:Nat}{d:Fun}{x:Str}{e:Expr}{es:List Expr}{ts:UA}{p pos:Pos}(C:Cok T k X c)(hd:T.funs[n]?=some d)(hx:d.name=x)(hg:glo c x=true)(ha:PA X (e::es) (lA X ts))
  (he:starEach (e::es) X.env=(false,eval e X.env)::starEach es X.env) (hpl:(backTo pos (starEach es X.env)).any (·.1)=false) :
  PE X (.Call (.Name x p) (e::es) [] pos) (lE X fun ς G Q E=>ts ς G (fun us G1=>jab T k n us G1 Q E) E):=by
 obtain ⟨f,fd,F,hm,hk,hb⟩:=C.fns n d hd
 obtain ⟨g1,g2⟩:=C.gl hg
 rw [hx] at hm
 intro pins s σ H Q0 I ⟨ς,G,Q,E,hς,hG,h,lv,lx⟩
 refine wpAny_Call_Name_kw (jeF I g1 hm ?_ g2)
 have h':lA X ts σ H fun vs H1=>lSp X.K (jab T k n) vs H1 Q0 (EB X σ):=⟨ς,G,_,E,hς,hG,h,fun us vs G1 H1 rs hG1 f1 h1=>jfT rs hG1 h1 (lv.fr f1) (lx.fr f1),lx⟩
 refine PySem.W.callWith_K (h₀:=X.base) I.ok.mod.kin hk (thn (ha pos pins s σ H _ I h') fun us s1 ⟨vs,H1,I1,r,q⟩=>⟨I1.kIn,?_⟩) he hpl
 exact jfX F C.room2 hb I1 r q
theorem jin {n:Nat}{d:Fun}{x:Str}{p pos:Pos}(C:Cok T k X c)(hd:T.funs[n]?=some d)(hx:d.name=x)(hg:glo c x=true) :
  PE X (.Call (.Name x p) [] [] pos) (lE X fun _ G Q E=>jab T k n [] G Q E):=by
 obtain ⟨f,fd,F,hm,hk,hb⟩:=C.fns n d hd
 obtain ⟨g1,g2⟩:=C.gl hg
 rw [hx] at hm
 intro pins s σ H Q0 I ⟨ς,G,Q,E,hς,hG,h,lv,lx⟩
 refine wpAny_Call_Name_kw (jeF I g1 hm ?_ g2)
 exact PySem.W.callWith_K0 I.kIn hk (jfX (us:=[]) (vs:=[]) F C.room2 hb I .nil (jfT (show RUs X.K H [] [] from rfl) hG h lv lx))
theorem Cok.comp {pick:List (Option Nat)}{scope:Scope}{N:List Str}(C:Cok T k X c)(h:cOkS c N pick scope=true):CScope X N pick scope/\∀ cl A s₀ H₀ fp,Cok T k (jaj X N scope cl A s₀ H₀ fp) ⟨N,scope.names⟩:=by
 unfold cOkS at h
 simp only [Bool.and_eq_true,decide_eq_true_eq] at h
 obtain ⟨⟨⟨⟨⟨⟨h1,h2⟩,h3⟩,h4⟩,h5⟩,h6⟩,h7⟩:=h
 have cells:∀ y∈scope.names,y.2=.cell->scope.names.lookup y.1=some .cell:=fun y hy hc=>by
  have:=List.all_eq_true.mp h2 y hy
  rw [hc] at this
  simpa using this
 refine ⟨⟨h1,cells,fun y hy hl=>?_,fun y hy hf=>?_,by simpa using h5,fun i j x e1 e2=>?_⟩,fun cl A s₀ H₀ fp=>?_⟩
 ·have:=List.all_eq_true.mp h3 y hy
  rw [hl] at this
  simpa using this
 ·have:=List.all_eq_true.mp h4 y hy
  rw [hf] at this
  simp only [bne_self_eq_false,Bool.false_or,Bool.and_eq_true,Bool.or_eq_true,beq_iff_eq] at this
  refine ⟨this.1,?_⟩
  rcases this.2 with z | z
  ·exact .inl (C.cel _ z).1
  ·exact C.fre _ z
 ·have hz:(N.zip pick)[i]?=some (x,some j):=by rw [List.getElem?_zip_eq_some]; exact ⟨e1,e2⟩
  have:=List.all_eq_true.mp h6 _ (List.mem_of_getElem? hz)
  rw [C.hN]
  simpa using this
 ·refine ⟨rfl,h7,fun x z=>?_,fun x z=>?_,fun x z=>?_,fun x z=>?_,C.room,C.calm,PassesOwn.never,C.blt,C.fns,C.gls,C.room2,C.cls,C.mgK⟩
  ·exact jay (by decide) (eq_of_beq z)
  ·exact ⟨jay (by decide) (eq_of_beq z),z⟩
  ·exact ja0 (eq_of_beq z)
  ·exact glc (eq_of_beq z)
end
end Z

namespace Z
open PySem L2
set_option maxHeartbeats 8000000
section
variable {K:PySem.W.Frag}{H H':Hp}{G G':Gp}
end
section
variable {T:Tab}{k:Nat}{X:Cx}{c:Ctx}
end
structure HC (T:Tab)(X:Cx)(c:Ctx)(n:Nat)(ea C dx:Addr)(x:XV):Prop where
 hN:X.N=c.N
 nd:c.N.Nodup
 loc:∀ y,kd c y .local=true->X.env.scope.names.lookup y=some .local
 cel:∀ y,kd c y .cell=true->X.env.scope.names.lookup y=some .cell/\X.fn y=true
 fre:∀ y,kd c y .free=true->X.env.scope.names.lookup y=some .cell\/X.env.scope.names.lookup y=some .free
 glb:∀ y,kd c y .globalImplicit=true->Gl X y
 blt:∀ y∈jcy,X.mg y=none
 cls:∀ n∈T.cs,1<=n->∃ C,XCls X.K (gK X.K) (clsN n) (clsF n) C
 me:XCls X.K (gK X.K) (clsN x.c) (clsF x.c) C
 lo:1<=x.c
 hi:x.c < 6
 pin:XPin X ea C dx
 mgK:∀ y v,gK X.K y=some v->X.mg y=some v
 en:n < c.N.length/\kd c (nmA c n) .local=true/\(nmA c n == ("__debug__" : Str))=false/\(nmA c n == ("__classdict__" : Str))=false
structure HSt (X:Cx)(n:Nat)(ea C dx:Addr)(x:XV)(σ:St)(H:Hp)(ς:Sg)(G:Gp):Prop where
 sr:SR X.K H ς σ
 hr:HR X.K H G
 en:σ[n]?=some (some (.ref ea))
 xd:XD X.K H C dx x
noncomputable def hB (X:Cx)(n:Nat)(ea C dx:Addr)(x:XV)(f:Sg->Option Bool):TE:=fun σ H Q=>∃ ς G b,HSt X n ea C dx x σ H ς G/\f ς=some b/\∀ H',HR X.K H' G->Fr H G H' G->Q (.bl b) H'
noncomputable def hT (X:Cx)(n:Nat)(ea C dx:Addr)(x:XV)(f:Sg->Option Bool):TT:=fun σ H Q=>∃ ς G b,HSt X n ea C dx x σ H ς G/\f ς=some b/\∀ H',HR X.K H' G->Fr H G H' G->Q b H'
section
variable {T:Tab}{X:Cx}{c:Ctx}{n:Nat}{ea C dx:Addr}{x:XV}
noncomputable def hV (X:Cx)(n:Nat)(ea C dx:Addr)(x:XV)(f:Sg->Gp->K1->Prop):TE:=fun σ H Q0=>∃ ς G Q,HSt X n ea C dx x σ H ς G/\f ς G Q/\LV X H G Q Q0
noncomputable def hS (X:Cx)(n:Nat)(ea C dx:Addr)(x:XV)(hs:List HS):L2.TS:=fun D σ H=>∃ ς G k,HSt X n ea C dx x σ H ς G/\hsH x hs ς G k/\∀ ς' σ' G' H',HSt X n ea C dx x σ' H' ς' G'->Fr H G H' G'->k ς' G'->D.nx σ' H'
end
section
variable {T:Tab}{k:Nat}{X:Cx}{c:Ctx}
end
section
variable {T:Tab}{k:Nat}
theorem ji9 (b:Blt):bltN b∈jcy:=by cases b <;> decide
theorem jjU:∀ n∈jfM,bootBuiltins (Str.ofString n)=some (.type n)/\Str.ofString n∈jcy/\Str.ofString n ≠ "__name__" := by decide +kernel
noncomputable abbrev SE (T:Tab)(k:Nat)(X:Cx)(c:Ctx)(ir:E)(h:Expr):Prop:=PE X (unE T c ir h) (lE X (den T.gs (jab T k) ir).1)/\PT X (unE T c ir h) (lT X (den T.gs (jab T k) ir).2)
section
variable {X:Cx}{c:Ctx}
theorem tru {e:Expr}{t:UE}(h:PE X e (lE X t))(hp:∀ whole,isTrue e X.env whole=(do let v <- whole; standAt e.pos; holding [v] (truthy v))):PE X e (lE X t)/\PT X e (lT X (truT t)):=⟨h,jlZ h hp⟩
theorem jj9 {a b:Expr}{rest:List Expr}{pos:Pos}{p q:UE×UT}(ha:PE X a (lE X p.1)/\PT X a (lT X p.2))(hb:PE X (.BoolOp .And (b::rest) pos) (lE X q.1)/\PW X (.BoolOp .And (b::rest) pos) (lT X q.2)) :
  PE X (.BoolOp .And (a::b::rest) pos) (lE X (comb true p q).1)/\PW X (.BoolOp .And (a::b::rest) pos) (lT X (comb true p q).2):=⟨jmc ha.1 hb.1,jjT ha.2 hb.2⟩
theorem jmq {a b:Expr}{rest:List Expr}{pos:Pos}{p q:UE×UT}(ha:PE X a (lE X p.1)/\PT X a (lT X p.2))(hb:PE X (.BoolOp .Or (b::rest) pos) (lE X q.1)/\PW X (.BoolOp .Or (b::rest) pos) (lT X q.2)) :
  PE X (.BoolOp .Or (a::b::rest) pos) (lE X (comb false p q).1)/\PW X (.BoolOp .Or (a::b::rest) pos) (lT X (comb false p q).2):=⟨u_or ha.1 hb.1,jl1 ha.2 hb.2⟩
theorem se_v {i:Nat}{h:Expr}(C:Cok T k X c)(q:okE T c (.v i) h=true):SE T k X c (.v i) h:=tru (jlV (C.nm (ba (ba (ba q).1).1).1) (C.vis (ba (ba (ba q).1).1).2) (bn (ba (ba q).1).2) (bn (ba q).2)) fun _=>rfl
theorem se_g {n:Nat}{h:Expr}(C:Cok T k X c)(q:okE T c (.g n) h=true):SE T k X c (.g n) h:=by
 have h1:=of_decide_eq_true (ba (ba q).1).1
 have h2:=of_decide_eq_true (ba (ba q).1).2
 have hn:T.gn[n]?=some (T.gn.getD n ""):=by rw [List.getD_eq_getElem?_getD,List.getElem?_eq_getElem h2]; rfl
 obtain ⟨v,w,m,r,ru⟩:=C.gls n _ T.gs[n] hn (by simp [h1])
 obtain ⟨g1,g2⟩:=C.gl (ba q).2
 refine tru (PE.imp (u_gl (u:=T.gs[n]) g1 m r ru g2) fun σ H Q0 ⟨ς,G,Q,E,hς,hG,h,lv,lx⟩=>⟨ς,G,Q,E,hς,hG,?_,lv,lx⟩) fun _=>rfl
 have h':glU T.gs n fun u=>Q u G:=h
 unfold glU at h'
 rw [List.getElem?_eq_getElem h1] at h'
 exact h'
theorem jmp {n:String}{h:Expr}(C:Cok T k X c)(q:okE T c (.ty n) h=true):SE T k X c (.ty n) h:=by
 obtain ⟨g1,g2⟩:=C.gl (ba q).2
 obtain ⟨t1,t2,t3⟩:=jjU n (by simpa using (ba q).1)
 exact tru (u_ty g1 (C.blt _ t2) t1 t3 g2) fun _=>rfl
theorem jj4 {es:Es}{h:Expr}{trs:List (TE×TE)}(h1:PPs X h.pos (unK T c es (dk h)) (unV T c es (cl h)) trs)(h2:lD X (denD T.gs (jab T k) es) trs)(h3:(unK T c es (dk h)).all (·.isSome)=true)(h4:(unK T c es (dk h)).length=(unV T c es (cl h)).length)
  (h5:(unK T c es (dk h)).length<=15):SE T k X c (.dic es) h:=by
 refine tru ?_ fun _=>rfl
 match es,h1,h2,h3,h4,h5 with
 | .nil,_,_,_,_,_=>exact PE.imp jjP fun σ H Q0 ⟨ς,G,Q,E,hς,hG,h,lv,lx⟩=>⟨ς,G,Q,E,hς,hG,(show ([]:List (Key×U)).length<=15/\newO G (.dK (jc2 [])) Q from h).2,lv,lx⟩
 | .cons _ .nil,_,_,_,_,_=>exact fun pins s σ H Q0 I ⟨ς,G,Q,E,hς,hG,h,lv,lx⟩=>(show False from h).elim
 | .cons d (.cons f es),h1,h2,h3,h4,h5=>exact jl8 h1 h2 h3 h4 (fun z=>nomatch z) h5
theorem jiy {n:Nat}{es:Es}{h:Expr}(C:Cok T k X c)(q:okE T c (.call n es) h=true)(ha:PA X (unEs T c es (cl h)) (lA X (ja2 T.gs (jab T k) es))):SE T k X c (.call n es) h:=by
 refine tru ?_ fun _=>rfl
 have hn:=of_decide_eq_true (ba (ba q).1).1
 have hd':T.funs[n]?=some T.funs[n]:=by simp [hn]
 have hx:T.funs[n].name=fnN T n:=by unfold fnN; rw [hd']
 match es,ha with
 | .nil,_=>exact jin C hd' hx (ba (ba q).1).2
 | .cons d es,ha=>exact jjS C hd' hx (ba (ba q).1).2 ha (jaC (jaA d _) _ _) (jcH es _ _ _).1
theorem jj5 {b:Blt}{es:Es}{h:Expr}(C:Cok T k X c)(q:okE T c (.blt b es) h=true)(ha:PA X (unEs T c es (cl h)) (lA X (ja2 T.gs (jab T k) es))):SE T k X c (.blt b es) h:=by
 refine tru ?_ fun _=>rfl
 obtain ⟨g1,g2⟩:=C.gl (ba (ba q).1).2
 match es,ha,q with
 | .nil,_,q=>exact absurd (of_decide_eq_true (ba (ba q).1).1) (Nat.lt_irrefl 0)
 | .cons d es,ha,_=>exact jma (jlm C.room C.calm b) g1 (C.blt _ (ji9 b)) ha (jaC (jaA d _) _ _) (jcH es _ _ _).1
theorem jix {m:Mth}{o:E}{es:Es}{h:Expr}(q:okE T c (.meth m o es) h=true)(ho:PE X (unE T c o (c0 (c0 h))) (lE X (den T.gs (jab T k) o).1))(ha:PA X (unEs T c es (cl h)) (lA X (ja2 T.gs (jab T k) es))):SE T k X c (.meth m o es) h:=by
 refine tru ?_ fun _=>rfl
 have h6:=(ba q).2
 have h5:=of_decide_eq_true (ba (ba q).1).2
 have h4:=(ba (ba (ba q).1).1).2
 match es,ha,h5 with
 | .nil,_,_=>exact jil (jhY m) ho (jc6 h6 _ _ _) h4
 | .cons d es,ha,h5=>
  refine jjN (jhY m) ho ha (jc6 h6 _ _ _) ?_ h4 (jaC (jaA d _) _ _) (jcH es _ _ _).1
  have e:=(jcH (T:=T) (c:=c) (.cons d es) (cl h) X.env h.pos).2
  show ((backTo h.pos (starEach (unEs T c (.cons d es) (cl h)) X.env)).all (fun x=>!x.1) && _ && decide ((unEs T c (.cons d es) (cl h)).length + 0 + 0 < 30))=true
  rw [e,jfK]
  exact decide_eq_true h5
theorem jj6 {d:E}{e:Expr}(h:PT X e (lT X (den T.gs (jab T k) d).2)):PIfs X [e] (lT0 X.K (denC T.gs (jab T k) (.cons d .nil))):=by
 refine PIfs.imp (jiL (lT0.of h)) fun σ H Q0 ⟨ς,G,Q,h1,h2,h3,h4⟩=>⟨ς,G,fun b G'=>Q b G',h1,h2,?_,h4⟩
 have h3':(den T.gs (jab T k) d).2 ς G (fun b G1=>if b=true then Q true G1 else Q false G1) (fun _ _=>False):=h3
 have e:(fun (b:Bool) (G1:Gp)=>if b=true then Q true G1 else Q false G1)=fun b G'=>Q b G':=by
  funext b G1
  cases b <;> simp
 rw [e] at h3'
 exact h3'
theorem jj8:PIfs X [] (lT0 X.K (denC T.gs (jab T k) .nil)):=PIfs.imp jiM fun σ H Q0 ⟨ς,G,Q,h1,h2,h3,h4⟩=>h4 true G H h2 (Fr.refl _ _) h3
theorem jk4:∀ (es:Es) (hs:List Expr),2 * (unK T c es hs).length<=jb3 es
 | .nil,_=>Nat.le_refl _
 | .cons _ .nil,_=>Nat.zero_le _
 | .cons _ (.cons _ es),hs=>by
  have:=jk4 es hs.tail
  show 2 * ((unK T c es hs.tail).length + 1)<=jb3 es + 1 + 1
  omega
theorem k_le {es:Es}{hs:List Expr}(h:jb3 es<=30):(unK T c es hs).length<=15:=by
 have:=jk4 (T:=T) (c:=c) es hs
 omega
end
mutual
theorem sE : ∀ (ir : E) {X : Cx} {c : Ctx} {h : Expr}, Cok T k X c -> okE T c ir h = true -> SE T k X c ir h
  | .v _, _, _, _, C, q => se_v C q
  | .non, _, _, _, _, _ => tru (jb7 (u := .non) jku fun _ => rfl) fun _ => rfl
  | .bl b, _, _, _, _, _ => tru (jb7 (u := .bl b) jmB fun _ => rfl) fun _ => rfl
  | .int i, _, _, _, _, _ => tru (jb7 (u := .int i) jkx fun _ => rfl) fun _ => rfl
  | .str x, _, _, _, _, _ => tru (jb7 (u := .str x) jks fun _ => rfl) fun _ => rfl
  | .g _, _, _, _, C, q => se_g C q
  | .ty _, _, _, _, C, q => jmp C q
  | .bin o a b, _, _, _, C, q => tru (jmb (jkD o) (sE a C (ba q).1).1 (sE b C (ba q).2).1) fun _ => rfl
  | .neg a, _, _, _, C, q => tru (jl3 (sE a C q).1) fun _ => rfl
  | .not a, _, _, _, C, q => ⟨jl2 (sE a C q).1, jjM (sE a C q).2⟩
  | .bop k a es, _, _, h, C, q => let r := sB es k C (sE a C (ba q).1) (ba q).2 h.pos; ⟨r.1, r.2.pt⟩
  | .cmp o a b, _, _, _, C, q => ⟨jl9 (jds C.room o) (sE a C (ba (ba q).1).1).1 (sE b C (ba (ba q).1).2).1 (bn (ba q).2), jjQ (jds C.room o) (sE a C (ba (ba q).1).1).1 (sE b C (ba (ba q).1).2).1 (bn (ba q).2)⟩
  | .cmp2 o p a b d, _, _, _, C, q => ⟨jjR (jds C.room o) (jds C.room p) (sE a C (ba (ba (ba q).1).1).1).1 (sE b C (ba (ba (ba q).1).1).2).1 (sE d C (ba (ba q).1).2).1 (bn (ba q).2),
      PT.imp (jim (jds C.room o) (jds C.room p) (sE a C (ba (ba (ba q).1).1).1).1 (sE b C (ba (ba (ba q).1).1).2).1 (sE d C (ba (ba q).1).2).1 (bn (ba q).2)) fun _ _ _ ⟨ς, G, Q, E, hς, hG, h, lv, lx⟩ => ⟨ς, G, Q, E, hς, hG, h, lv, lx⟩⟩
  | .ife t a b, _, _, _, C, q => ⟨jl7 (sE t C (ba (ba q).1).1).2 (sE a C (ba (ba q).1).2).1 (sE b C (ba q).2).1, jjO (sE t C (ba (ba q).1).1).2 (sE a C (ba (ba q).1).2).2 (sE b C (ba q).2).2⟩
  | .tup es, _, _, _, C, q => tru (jlW (sEs es C q)) fun _ => rfl
  | .lst es, _, _, _, C, q => tru (jl6 (sEs es C q)) fun _ => rfl
  | .dic es, _, _, h, C, q => let ⟨_, h1, h2, h3, h4⟩ := sD es C h.pos (ba q).1; jj4 h1 h2 h3 h4 (k_le (of_decide_eq_true (ba q).2))
  | .dicT, _, _, _, _, q => nomatch q
  | .ix a b, _, _, _, C, q => tru (u_ix C.hu (sE a C (ba q).1).1 (sE b C (ba q).2).1 (jji (jaA b _))) fun _ => rfl
  | .sl a lo hi, _, _, _, C, q => tru (u_sl (sE a C (ba (ba q).1).1).1 (sO lo C (ba (ba q).1).2) (sO hi C (ba q).2)) fun _ => rfl
  | .rev a b, _, _, _, C, q => tru (jl0 (sE a C (ba q).1).1 (sE b C (ba q).2).1) fun _ => rfl
  | .call _ es, _, _, _, C, q => jiy C q (sEs es C (ba q).2)
  | .app _ _, _, _, _, _, q => nomatch q
  | .blt _ es, _, _, _, C, q => jj5 C q (sEs es C (ba q).2)
  | .meth _ o es, _, _, _, C, q => jix q (sE o C (ba (ba (ba (ba q).1).1).1).1).1 (sEs es C (ba (ba (ba (ba q).1).1).1).2)
  | .lc _ t it ifs d, _, _, _, C, q => let S := C.comp (ba (ba (ba (ba (ba (ba q).1).1).1).1).1).1
      tru (u_lc C.calm S.1 (sI it t _ _ C (ba (ba (ba (ba q).1).1).1).2).1 (ba (ba (ba (ba (ba (ba q).1).1).1).1).1).2 (fun cl A s₀ H₀ fp => sTg (S.2 cl A s₀ H₀ fp) t _ (ba (ba (ba (ba (ba q).1).1).1).1).2)
        (fun cl A s₀ H₀ fp => sC ifs (S.2 cl A s₀ H₀ fp) (of_decide_eq_true (ba (ba q).1).2) (ba (ba (ba q).1).1).2) (fun cl A s₀ H₀ fp => lE0.of (sE d (S.2 cl A s₀ H₀ fp) (ba q).2).1) (sI it t ⟨[], []⟩ e0 C (ba (ba (ba (ba q).1).1).1).2).2) fun _ => rfl
  | .lc2 _ _ _ _ _ _ _ _, _, _, _, _, q => nomatch q
  | .mkD _, _, _, _, _, q => nomatch q
  | .maxD _, _, _, _, _, q => nomatch q
  | .minD _, _, _, _, _, q => nomatch q
  | .mkL d, _, _, _, C, q => tru (jl5 (C.gl (ba q).1).1 (C.blt _ (by decide)) (sE d C (ba q).2).1 (jaC (jaA d _) _ _)) fun _ => rfl
  | .mkT d, _, _, _, C, q => tru (jl4 (C.gl (ba q).1).1 (C.blt _ (by decide)) (sE d C (ba q).2).1 (jaC (jaA d _) _ _)) fun _ => rfl
  | .rngL d, _, _, _, C, q => tru (jjL C.calm (C.gl (ba (ba q).1).1).1 (C.blt _ (by decide)) (C.gl (ba (ba q).1).2).1 (C.blt _ (by decide)) (sE d C (ba q).2).1 (jaC (jaA d _) _ _) rfl) fun _ => rfl
  | .rngT _, _, _, _, _, q => nomatch q
  | .rngL2 _ _, _, _, _, _, q => nomatch q
theorem sO : ∀ (ir : Eo) {X : Cx} {c : Ctx} {h : Expr}, Cok T k X c -> okO T c ir h = true -> PO X (unO T c ir h) (lO X (denO T.gs (jab T k) ir))
  | .no, _, _, _, _, _ => u_no
  | .so d, _, _, _, C, q => u_so (sE d C q).1
theorem sEs : ∀ (ir : Es) {X : Cx} {c : Ctx} {hs : List Expr}, Cok T k X c -> okEs T c ir hs = true -> PA X (unEs T c ir hs) (lA X (ja2 T.gs (jab T k) ir))
  | .nil, _, _, _, _, _ => jfL
  | .cons d ir, _, _, _, C, q => jdL (sE d C (ba q).1).1 (sEs ir C (ba q).2) (jaC (jaA d _) _ _)
theorem sB : ∀ (ir : Es) (b : Bool) {X : Cx} {c : Ctx} {hs : List Expr} {a : Expr} {p : UE × UT}, Cok T k X c -> PE X a (lE X p.1) /\ PT X a (lT X p.2) -> okEs T c ir hs = true -> ∀ pos : Pos,
    PE X (.BoolOp (boU b) (a :: unEs T c ir hs) pos) (lE X (denB T.gs (jab T k) b p ir).1) /\ PW X (.BoolOp (boU b) (a :: unEs T c ir hs) pos) (lT X (denB T.gs (jab T k) b p ir).2)
  | .nil, true, _, _, _, _, _, _, ha, _, _ => ⟨jhR ha.1, pw_and1 ha.2⟩
  | .nil, false, _, _, _, _, _, _, ha, _, _ => ⟨jhR ha.1, pw_or1 ha.2⟩
  | .cons d ir, true, _, _, _, _, _, C, ha, q, pos => jj9 ha (sB ir true C (sE d C (ba q).1) (ba q).2 pos)
  | .cons d ir, false, _, _, _, _, _, C, ha, q, pos => jmq ha (sB ir false C (sE d C (ba q).1) (ba q).2 pos)
theorem sC : ∀ (ir : Es) {X : Cx} {c : Ctx} {hs : List Expr}, Cok T k X c -> jb3 ir <= 1 -> okEs T c ir hs = true -> PIfs X (unEs T c ir hs) (lT0 X.K (denC T.gs (jab T k) ir))
  | .nil, _, _, _, _, _, _ => jj8
  | .cons d .nil, _, _, _, C, _, q => jj6 (sE d C (ba q).1).2
  | .cons _ (.cons _ es), _, _, _, _, l, _ => absurd l (by show ¬ (jb3 es + 1 + 1 <= 1); omega)
theorem sD : ∀ (ir : Es) {X : Cx} {c : Ctx} {hs gs : List Expr}, Cok T k X c -> (p : Pos) -> okD T c ir hs gs = true -> ∃ trs, PPs X p (unK T c ir hs) (unV T c ir gs) trs /\ lD X (denD T.gs (jab T k) ir) trs /\ (unK T c ir hs).all (·.isSome) = true /\ (unK T c ir hs).length = (unV T c ir gs).length
  | .nil, _, _, _, _, _, _, _ => ⟨[], jiG, jkZ, rfl, rfl⟩
  | .cons d (.cons f ir), _, _, _, _, C, p, q => let ⟨_, h1, h2, h3, h4⟩ := sD ir C p (ba q).2; ⟨_, jg3 (sE d C (ba (ba q).1).1).1 (sE f C (ba (ba q).1).2).1 h1, jjb h2, h3, congrArg (· + 1) h4⟩
  | .cons _ .nil, _, _, _, _, _, _, q => nomatch q
theorem sI : ∀ (ir : It) (t : Tg) (ct : Ctx) (ht : Expr) {X : Cx} {c : Ctx} {h : Expr}, Cok T k X c -> okI T c t ir h = true -> PI X (unTg ct t ht) (unI T c ir h) (lI X (denI T.gs (jab T k) ir)) /\ ∀ x, foldedSetIterable (unI T c ir h) X.env x = pure x
  | .e d, _, _, _, _, _, _, C, q => ⟨u_ie (sE d C q).1, jcX (jaA d _) _⟩
  | .r1 d, _, _, _, _, _, _, C, q => ⟨u_r1 (C.gl (ba q).1).1 (C.blt _ (by decide)) (sE d C (ba q).2).1 (jaC (jaA d _) _ _), fun _ => rfl⟩
  | .r2 _ _, _, _, _, _, _, _, _, q => nomatch q
  | .enum _, _, _, _, _, _, _, _, q => nomatch q
  | .dk _, _, _, _, _, _, _, _, q => nomatch q
end
end
section
variable {c:Ctx}{env:Env}
noncomputable def swF (sb:Bool)(names:List Str)(bk:ScopeKind)(ts vs:List Expr):Sem (Option (List Str)):=
 if (!(ts.length == 2 || ts.length == 3) || vs.length != ts.length || bk != .function)=true then pure none
 else if sb=true then pure none
 else if (names.length != ts.length || names.eraseDups.length != names.length)=true then pure none
 else if vs.all (foldedForSure 8)=true then pure none
 else if vs.all (constantsAlone 8)=true then do unsupported "assign.tuple-of-constant-expressions:order-of-the-stores"; pure (some names)
 else pure (some names)
noncomputable def jdx (env:Env)(ts:List Expr):List Str:=ts.filterMap fun
  | .Name id pos=>if env.kindOf id == some .local && pos.line == jhI ts then some id else none
  | _=>none
theorem jjY {ts vs:List Expr}{a b:Nat}{p q:Pos}:swappedStores [.Tuple ts a p] (.Tuple vs b q) env=swF (vs.any je9) (jdx env ts) env.blockKind ts vs:=by
 have e1:je9=fun | .Starred ..=>true | _=>false:=by funext e; cases e <;> rfl
 with_unfolding_all rfl
theorem je2 (hk:∀ x,env.kindOf x=c.sc.lookup x)(ts:List Expr):jdx env ts=jah c ts:=by
 unfold jah jdx
 congr 1
 funext e
 cases e <;> first | rfl | (dsimp only; rw [hk])
theorem jfS (hk:∀ x,env.kindOf x=c.sc.lookup x)(hb:env.blockKind=.function){ts vs:List Expr}{a b:Nat}{p q:Pos}(h:jce c ts vs=true):swappedStores [.Tuple ts a p] (.Tuple vs b q) env=pure none:=by
 rw [jjY,je2 hk,hb]
 unfold swF
 unfold jce at h
 by_cases h1:(!(ts.length == 2 || ts.length == 3) || vs.length != ts.length)=true
 ·rw [if_pos (by rw [h1]; rfl)]
 ·have h1':(!(ts.length == 2 || ts.length == 3) || vs.length != ts.length)=false:=by simpa using h1
  rw [h1'] at h
  rw [if_neg (by rw [h1']; decide)]
  simp only [Bool.false_or,Bool.and_eq_true,Bool.not_eq_true'] at h
  obtain ⟨h2,h3⟩:=h
  rw [if_neg (by rw [h2]; decide)]
  by_cases h4:((jah c ts).length != ts.length || (jah c ts).eraseDups.length != (jah c ts).length)=true
  ·rw [if_pos h4]
  ·rw [if_neg h4]
   have h4':((jah c ts).length != ts.length || (jah c ts).eraseDups.length != (jah c ts).length)=false:=by simpa using h4
   rw [h4'] at h3
   rw [if_pos (by simpa using h3)]
theorem jfR (hk:∀ x,env.kindOf x=c.sc.lookup x)(hb:env.blockKind=.function){ts vs:List Expr}{a b:Nat}{p q:Pos}(h:swapped c ts vs=true):swappedStores [.Tuple ts a p] (.Tuple vs b q) env=pure (some (jah c ts)):=by
 rw [jjY,je2 hk,hb]
 unfold swF
 unfold swapped at h
 simp only [Bool.and_eq_true,Bool.not_eq_true'] at h
 obtain ⟨⟨⟨⟨⟨⟨h1,h2⟩,h3⟩,h4⟩,h5⟩,h6⟩,h7⟩:=h
 have e1:(!(ts.length == 2 || ts.length == 3) || vs.length != ts.length || (ScopeKind.function != ScopeKind.function))=false:=by
  have:(vs.length != ts.length)=false:=by simpa using h2
  rw [h1,this]; rfl
 rw [if_neg (by rw [e1]; decide),if_neg (by rw [h3]; decide)]
 have e2:((jah c ts).length != ts.length || (jah c ts).eraseDups.length != (jah c ts).length)=false:=by
  have z1:((jah c ts).length != ts.length)=false:=by simpa using h4
  have z2:((jah c ts).eraseDups.length != (jah c ts).length)=false:=by simpa using h5
  rw [z1,z2]; rfl
 rw [if_neg (by rw [e2]; decide),if_neg (by rw [h6]; decide),if_neg (by rw [h7]; decide)]
theorem jgR (hk:∀ x,env.kindOf x=c.sc.lookup x)(hb:env.blockKind=.function){elt:Expr}{gs:List Comprehension}{s:Scope}{p py:Pos}{y:Str}{l:Nat}(h:lcSw c y py p s=true) :
  swapsWith (.ListComp elt gs s p) (some (.Name y py)) l env=pure true:=by
 unfold lcSw at h
 simp only [Bool.and_eq_true] at h
 unfold swapsWith
 dsimp only
 show (pure (env.blockKind == .function && env.kindOf y == some .local && py.line == p.line && !(s.names.any fun (n,k)=>n == y && (k == .local || k == .cell))):Sem Bool)=pure true
 rw [hb,hk,h.1.1,h.1.2,h.2]
 rfl
theorem je1 (hk:∀ x,env.kindOf x=c.sc.lookup x){elt:Expr}{gs:List Comprehension}{s:Scope}{p py:Pos}{y:Str}{l:Nat}(h:(c.sc.lookup y == some .local)=false) :
  swapsWithSole [.Name y py] (.ListComp elt gs s p) l env=pure false:=by
 show (pure (env.blockKind == .function && env.kindOf y == some .local && py.line == p.line && !(s.names.any fun (n,k)=>n == y && (k == .local || k == .cell))):Sem Bool)=pure false
 rw [hk,h]
 simp
end
section
variable {T:Tab}{k:Nat}
theorem Cos.kindOf {X:Cx}{c:Ctx}(C:Cos T k X c):∀ x,X.env.kindOf x=c.sc.lookup x:=fun x=>by
 unfold Env.kindOf
 rw [C.sc]
theorem Cos.block {X:Cx}{c:Ctx}(C:Cos T k X c):X.env.blockKind=.function:=by
 unfold Env.blockKind
 rw [C.kind]
 rfl
theorem jhW {c:Ctx}:∀ (is:List Nat) (hs:List Expr),(unNs c is hs).length=is.length
 | [],_=>rfl
 | _::is,hs=>congrArg (·+ 1) (jhW is hs.tail)
theorem sw2 {c:Ctx}{x y:Str}{p q:Pos}(h:(jah c [.Name x p,.Name y q]).length=2):jah c [.Name x p,.Name y q]=[x,y]:=by
 unfold jah at h ⊢
 simp only [List.filterMap_cons,List.filterMap_nil] at h ⊢
 split at h <;> split at h <;> simp_all
section
variable {X:Cx}{c:Ctx}
theorem jj0 {t:Tg}{d:E}{h:Stmt}(C:Cos T k X c)(q:okS T c (.asg t d) h=true)(hs:PE X (unE T c d (q0 h)) (lE X (den T.gs (jab T k) d).1)):PS X (unS T c (.asg t d) h) (lS X (denS T.gs (jab T k) (.asg t d))):=by
 have hg:=sTg C.toCok t (q1 h) (ba (ba q).1).2
 have q3:=(ba q).2
 have fin:swapsWithSole [unTg c t (q1 h)] (unE T c d (q0 h)) h.pos.line X.env=pure false/\swappedStores [unTg c t (q1 h)] (unE T c d (q0 h)) X.env=pure none:=by
  cases t with
  | n i=>
   refine ⟨?_,jlU d _ _ _ _⟩
   by_cases hl:isLc d=true
   ·cases d with
    | lc=>exact je1 C.kindOf (bn q3)
    | lc2=>exact je1 C.kindOf (bn q3)
    | _=>cases hl
   ·exact jif (by simpa using hl) _ _ _ _
  | t ts=>
   cases d with
   | lc=>cases q3
   | lc2=>cases q3
   | tup es=>exact ⟨rfl,jfS C.kindOf C.block q3⟩
   | _=>exact ⟨rfl,rfl⟩
 exact s_asg hs hg fin.1 fin.2 (jih t _ _)
theorem jjZ {is:List Nat}{es:Es}{h:Stmt}(C:Cos T k X c)(q:okS T c (.par is es) h=true)(ha:PA X (unEs T c es (cl (q0 h))) (lA X (ja2 T.gs (jab T k) es))):PS X (unS T c (.par is es) h) (lS X (denS T.gs (jab T k) (.par is es))):=by
 have h3:=(ba (ba q).1).2
 have h2:=(ba (ba (ba q).1).1).2
 have hsw:=jfR (a:=kk (q1 h)) (b:=kk (q0 h)) (p:=(q1 h).pos) (q:=(q0 h).pos) C.kindOf C.block h3
 unfold swapped at h3
 simp only [Bool.and_eq_true,Bool.or_eq_true,beq_iff_eq] at h3
 obtain ⟨⟨⟨⟨⟨⟨_,l2⟩,_⟩,l4⟩,_⟩,_⟩,_⟩:=h3
 rw [jfK,jhW] at l2
 have l1:is.length=2:=of_decide_eq_true (ba q).2
 have nd:X.N.Nodup:=by rw [C.hN]; exact C.nd
 match is,es,l1,l2,l4,hsw,h2,ha with
 | [i,j],.cons a (.cons b .nil),_,_,l4,hsw,h2,ha=>
  have u1:=ba h2
  have u2:=ba u1.2
  refine s_par2 C.calm nd (C.nm (ba (ba u1.1).1).1) (C.nm (ba (ba u2.1).1).1) (by intro z; subst z; have:=(ba u1.1).2; simp at this) (C.loc _ (ba (ba u1.1).1).2) (C.loc _ (ba (ba u2.1).1).2) ha ?_ rfl
  rw [<- sw2 l4]
  exact hsw
 | [],_,l1,_,_,_,_,_=>exact absurd l1 (by simp)
 | [_],_,l1,_,_,_,_,_=>exact absurd l1 (by simp)
 | _::_::_::_,_,l1,_,_,_,_,_=>exact absurd l1 (by simp)
 | [_,_],.nil,_,l2,_,_,_,_=>exact absurd l2 (by simp [jb3])
 | [_,_],.cons _ .nil,_,l2,_,_,_,_=>exact absurd l2 (by simp [jb3])
 | [_,_],.cons _ (.cons _ (.cons _ _)),_,l2,_,_,_,_=>exact absurd l2 (by simp [jb3])
theorem jis {i:Nat}{d:E}{h:Stmt}(C:Cos T k X c)(q:okS T c (.asgC i d) h=true):PS X (unS T c (.asgC i d) h) (lS X (denS T.gs (jab T k) (.asgC i d))):=by
 have qd:=(ba (ba (ba q).1).1)
 have hl:=(ba q).2
 have hi:=C.nm (ba (ba q).1).2
 have hy:=eq_of_beq (ba (ba hl).1).1
 cases d with
 | lc pick t it ifs d=>
  have q1':=qd.2
  have S:=C.toCok.comp (ba (ba (ba (ba (ba (ba q1').1).1).1).1).1).1
  exact s_lc (by rw [C.hN]; exact C.nd) hi (by rw [C.sc]; exact hy) C.calm S.1 (sI it t _ _ C.toCok (ba (ba (ba (ba q1').1).1).1).2).1 (ba (ba (ba (ba (ba (ba q1').1).1).1).1).1).2
   (fun cl A s₀ H₀ fp=>sTg (S.2 cl A s₀ H₀ fp) t _ (ba (ba (ba (ba (ba q1').1).1).1).1).2) (fun cl A s₀ H₀ fp=>sC ifs (S.2 cl A s₀ H₀ fp) (of_decide_eq_true (ba (ba q1').1).2) (ba (ba (ba q1').1).1).2)
   (fun cl A s₀ H₀ fp=>lE0.of (sE d (S.2 cl A s₀ H₀ fp) (ba q1').2).1) (jgR C.kindOf C.block hl) (jig it _ _)
 | lc2 pick t it ifs t2 it2 ifs2 d=>exact Bool.noConfusion (show false=true from qd.2)
 | _=>cases qd.1
end
mutual
theorem sS:∀ (ir:S) {X:Cx} {c:Ctx} {h:Stmt},Cos T k X c->okS T c ir h=true->PS X (unS T c ir h) (lS X (denS T.gs (jab T k) ir))
 | .pass,_,_,_,_,q=>nomatch q
 | .expr d,_,_,_,C,q=>s_expr (sE d C.toCok (ba q).1).1 (jii (bn (ba q).2) _ _ _)
 | .asg _ d,_,_,_,C,q=>jj0 C q (sE d C.toCok (ba (ba q).1).1).1
 | .asgC _ _,_,_,_,C,q=>jis C q
 | .setS o i d,_,_,_,C,q=>s_set C.toCok.hu (sE d C.toCok (ba (ba q).1).1).1 (sE o C.toCok (ba (ba q).1).2).1 (sE i C.toCok (ba q).2).1 (jhA d _ _ _ _ _ _).1 (jhA d _ _ _ _ _ 0).2 rfl (jhm (jaA i _) _ _)
 | .par _ es,_,_,_,C,q=>jjZ C q (sEs es C.toCok (ba (ba (ba q).1).1).1)
 | .aug _ _ _,_,_,_,_,q=>nomatch q
 | .augS _ _ _ _,_,_,_,_,q=>nomatch q
 | .ite t a b,_,_,_,C,q=>s_if (sE t C.toCok (ba (ba q).1).1).2 (sSs a C (ba (ba q).1).2) (sSs b C (ba q).2)
 | .fr t it b,_,_,_,C,q=>s_for C.po C.calm (sI it t _ _ C.toCok (ba (ba q).1).2).1 (sTg C.toCok t _ (ba (ba q).1).1) (sSs b C (ba q).2) (sI it t ⟨[],[]⟩ e0 C.toCok (ba (ba q).1).2).2
 | .wh t b,_,_,_,C,q=>s_wh C.po (sE t C.toCok (ba q).1).2 (sSs b C (ba q).2)
 | .ret d,_,_,_,C,q=>s_ret (sE d C.toCok q).1
 | .retN,_,_,_,_,q=>nomatch q
 | .never,_,_,_,_,_=>fun _ _ _ _ _ _ ⟨_,_,_,_,_,q,_⟩=>(show False from q).elim
 | .raise _ _,_,_,_,_,q=>nomatch q
 | .tr _ _ _ _,_,_,_,_,q=>nomatch q
theorem sSs:∀ (ir:Ss) {X:Cx} {c:Ctx} {hs:List Stmt},Cos T k X c->okSs T c ir hs=true->PSs X (unSs T c ir hs) (lS X (jag T.gs (jab T k) ir))
 | .nil,_,_,_,_,_=>s_nil
 | .cons s r,_,_,_,C,q=>s_cons (t:=denS T.gs (jab T k) s) (u:=jag T.gs (jab T k) r) (sS s C (ba q).1) (sSs r C (ba q).2)
end
end
noncomputable def scB (N ps:List Str)(sc:Scope):Bool:=
 decide (sc.kind=.function) && !sc.isCoroutine && !sc.isGenerator && decide N.Nodup && (N.take ps.length == ps) && ps.all (fun x=>sc.names.lookup x == some .local || sc.names.lookup x == some .cell) && sc.names.all (fun y=>y.2 != .free)
theorem jj7 {N ps:List Str}{sc:Scope}(h:scB N ps sc=true):FnScope N ps sc:=by
 unfold scB at h
 simp only [Bool.and_eq_true,decide_eq_true_eq,Bool.not_eq_true'] at h
 obtain ⟨⟨⟨⟨⟨⟨h1,h2⟩,h3⟩,h4⟩,h5⟩,h6⟩,h7⟩:=h
 refine ⟨h1,h2,h3,h4,eq_of_beq h5,fun x hx=>?_,fun y hy=>?_⟩
 ·have:=List.all_eq_true.mp h6 x hx
  simpa using this
 ·simpa using List.all_eq_true.mp h7 y hy
noncomputable def jev (T:Tab):List Fun->List Stmt->Bool
 | [],[]=>true
 | d::ds,st::sts=>scB d.N d.ps (defScope st) && okSs T ⟨d.N,(defScope st).names⟩ d.body (defBody st) && jev T ds sts
 | _,_=>false
noncomputable def jfo (T:Tab):List Fun->List Stmt->Prop
 | [],_=>True
 | d::ds,st::sts=>unSs T ⟨d.N,(defScope st).names⟩ d.body (defBody st)=defBody st/\jfo T ds sts
 | _::_,[]=>False
theorem jdA {T:Tab}:∀ {ds:List Fun} {sts:List Stmt},jev T ds sts=true->jfo T ds sts->∀ {n:Nat} {d:Fun},ds[n]?=some d->∃ st,sts[n]?=some st/\scB d.N d.ps (defScope st)=true/\okSs T ⟨d.N,(defScope st).names⟩ d.body (defBody st)=true/\unSs T ⟨d.N,(defScope st).names⟩ d.body (defBody st)=defBody st
 | [],_,_,_,_,_,e=>by simp at e
 | _::_,[],h,_,_,_,_=>by unfold jev at h; cases h
 | d::ds,st::sts,h,g,n,d',e=>by
  unfold jev at h
  unfold jfo at g
  simp only [Bool.and_eq_true] at h
  cases n with
  | zero=>
   simp at e
   subst e
   exact ⟨st,rfl,h.1.1,h.1.2,g.1⟩
  | succ n=>
   obtain ⟨st',e',q⟩:=jdA h.2 g.2 (n:=n) (by simpa using e)
   exact ⟨st',by simpa using e',q⟩
theorem jhO {X:Cx}{a b:List Stmt}{t:L2.TS}(e:a=b)(h:PSs X a t):PSs X b t:=e ▸ h
theorem jdQ {K:PySem.W.Frag}{H:Hp}{N:List Str}{us:List U}{vs:List V}(r:RUs K H us vs):SR K H (jad N.length us) (L2.start N vs):=by
 unfold jad L2.start
 refine ⟨by simp [r.length],fun i u e=>?_⟩
 by_cases hi:i < us.length
 ·rw [List.getElem?_append_left (by simpa using hi),List.getElem?_map] at e
  cases q:us[i]? with
  | none=>rw [q] at e; cases e
  | some w=>
   rw [q] at e
   have:w=u:=by simpa using e
   subst this
   obtain ⟨v,ev,rv⟩:=r.get q
   have hv:i < vs.length:=by rw [<- r.length]; exact hi
   exact ⟨v,by rw [List.getElem?_append_left (by simpa using hv),List.getElem?_map,ev]; rfl,rv⟩
 ·rw [List.getElem?_append_right (by simpa using hi),List.getElem?_replicate] at e
  split at e <;> cases e
section
variable {T:Tab}{P:Program}{w:World}{K:PySem.W.Frag}{mg:Str->Option Value}{base:Heap}
theorem jeu {sts:List Stmt}(hst:jev T T.funs sts=true)(heq:jfo T T.funs sts)
  (dyn:∀ (n:Nat) (d:Fun) (st:Stmt),T.funs[n]?=some d->sts[n]?=some st->∃ (f:Addr) (fd:FuncData),L2.Fun K d.name d.name st f fd/\mg d.name=some (.ref f)/\Binds K fd d.ps [])
  (hb:∀ x∈jcy,mg x=none) (hg:∀ (n:Nat) (x:Str) (u:U),T.gn[n]?=some x->T.gs[n]?=some u->∃ v w,mg x=some w/\RelV v w/\∀ H,RU K H u v) (hc:∀ n∈T.cs,1<=n->∃ C,XCls K (gK K) (clsN n) (clsF n) C) (hm:∀ x v,gK K x=some v->mg x=some v) :
  ∀ (k n:Nat) (d:Fun),T.funs[n]?=some d->FnU P w K mg base k d (jab T k n):=by
 intro k
 induction k with
 | zero=>
  intro n d hd
  obtain ⟨st,e,_⟩:=jdA hst heq hd
  obtain ⟨f,fd,F,m,b⟩:=dyn n d st hd e
  exact ⟨f,fd,⟨fun vs H Q E ⟨_,_,_,_,_,_,h,_⟩=>h.elim,fun A outer s H args us vs Q E _ _ _ _ ⟨_,_,_,_,_,_,h,_⟩=>h.elim⟩,m,F.kp,b⟩
 | succ k ih=>
  intro n d hd
  obtain ⟨st,e,h1,h2,h3⟩:=jdA hst heq hd
  obtain ⟨f,fd,F,m,b⟩:=dyn n d st hd e
  have S:=jj7 h1
  have un:∀ {us:List U} {G:Gp} {Q:K1} {E:KX},jab T (k + 1) n us G Q E->us.length=d.ps.length/\jag T.gs (jab T k) d.body ⟨fun _ G'=>Q .non G',Q,fun x _ G'=>E x G'⟩ (jad d.N.length us) G:=fun {us G Q E} h=>by
   have h':(match T.funs[n]? with | some d=>us.length=d.ps.length/\jag T.gs (jab T k) d.body ⟨fun _ G'=>Q .non G',Q,fun x _ G'=>E x G'⟩ (jad d.N.length us) G | none=>False):=h
   rw [hd] at h'
   exact h'
  refine ⟨f,fd,F.okX S (fun vs H Q E ⟨us,G,Q',E',r,hG,h,lv,lx⟩=>by rw [<- r.length]; exact (un h).1) fun cdv A outer s H vs Q E hr hsp=>?_,m,F.kp,b⟩
  obtain ⟨us,G,Q',E',r,hG,h,lv,lx⟩:=hsp
  obtain ⟨hl,h⟩:=un h
  refine ⟨_,jhO h3 (sSs d.body (k:=k) (c:=⟨d.N,(defScope st).names⟩) (hs:=defBody st) ⟨⟨rfl,S.nd,fun x z=>eq_of_beq z,fun x z=>⟨eq_of_beq z,rfl⟩,fun x z=>.inr (eq_of_beq z),fun x z=>eq_of_beq z,hr.mono (by omega),rfl,jkm,hb,ih,hg,hr,hc,hm⟩,rfl,S.kind,rfl,rfl⟩ h2),?_⟩
  exact ⟨_,_,G,jdQ r,hG,h,⟨fun ς' σ' G' H' a b c q=>lv .non .non G' H' rfl b c q,fun w v G' H' a b c q=>lv w v G' H' a b c q,fun pins e s' x ς' σ' G' H' I sr xat hr' f q=>by obtain ⟨ea,C0,dx,rfl,l,xd⟩:=xat; exact CX1.out1 I l (lx x G' H' C0 dx xd hr' f q)⟩⟩
theorem jhZ {α β:Type}[BEq α][LawfulBEq α]:∀ {l:List (α×β)} {a:α} {b:β},l.lookup a=some b->(a,b)∈l
 | (x,y)::r,a,b,h=>by
  simp only [List.lookup_cons] at h
  split at h
  ·rename_i e
   cases h
   rw [eq_of_beq e]; exact List.mem_cons_self
  ·exact List.mem_cons_of_mem _ (jhZ h)
noncomputable def G0 (a:Addr)(ns:List Int):Gp:=fun b=>if b=a then some (.fro (ns.map .int)) else none
theorem jgs {H:Hp}:∀ ns:List Int,RUs K H (ns.map .int) (ns.map V.int)
 | []=>rfl
 | _::r=>⟨_,_,rfl,rfl,jgs r⟩
theorem law_sp {k n:Nat}{H:Hp}{a:Addr}{ns:List Int}(hK:(K.all fun p=>p.2.cls != .type "list")=true)(hO:Only H)(hS:SqL K H a (ns.map V.int))(h:jab T k n [.loc a] (G0 a ns) (fun u _=>u=.bl true) fun _ _=>False) :
  lSp K (jab T k n) [.ref a] H (fun v _=>v=.bl true) fun _ _ _=>False:=by
 have fr:∃ o,H a=some (.frz o (.lst (ns.map V.int))):=by
  rcases hS with (q | q) | ⟨o,its,m,lk,hc,_⟩
  ·rcases hO a with z | ⟨o,xs,z⟩ <;> (rw [q] at z; cases z)
  ·exact q
  ·have:=List.all_eq_true.mp hK (a,o) (jhZ lk)
   simp [hc] at this
 obtain ⟨o,fr⟩:=fr
 refine ⟨[.loc a],G0 a ns,_,_,⟨_,_,rfl,rfl,rfl⟩,fun b mo e=>?_,h,fun w v G' H' r _ _ q=>?_,fun _ _ _ _ _ _ _ _ z=>z.elim⟩
 ·unfold G0 at e
  split at e
  ·rename_i z
   subst z
   cases e
   exact ⟨o,_,fr,jgs ns⟩
  ·cases e
 ·subst q
  exact r
end
section
variable {T:Tab}{P:Program}{w:World}{K:PySem.W.Frag}{mg:Str->Option Value}{base:Heap}
theorem jfn {sts:List Stmt}{k n:Nat}{d:Fun}{st:Stmt}{f:Addr}{fd:FuncData}(F:L2.Fun K d.name d.name st f fd)(hst:jev T T.funs sts=true)(heq:jfo T T.funs sts)
  (dyn:∀ (n:Nat) (d:Fun) (st:Stmt),T.funs[n]?=some d->sts[n]?=some st->∃ (f:Addr) (fd:FuncData),L2.Fun K d.name d.name st f fd/\mg d.name=some (.ref f)/\Binds K fd d.ps [])
  (hb:∀ x∈jcy,mg x=none) (hg:∀ (n:Nat) (x:Str) (u:U),T.gn[n]?=some x->T.gs[n]?=some u->∃ v w,mg x=some w/\RelV v w/\∀ H,RU K H u v) (hc:∀ n∈T.cs,1<=n->∃ C,XCls K (gK K) (clsN n) (clsF n) C) (hm:∀ x v,gK K x=some v->mg x=some v) (hd:T.funs[n]?=some d) (hs:sts[n]?=some st) (m:mg d.name=some (.ref f)) (b:Binds K fd d.ps []) :
  FnOk P w K mg base (CX1 P w) (k + 2) f fd d.ps (lSp K (jab T k n)):=by
 have all:=jeu (P:=P) (w:=w) (base:=base) hst heq (fun n' d' st' h1 h2=>by
  by_cases e:n'=n
  ·subst e
   rw [hd] at h1
   rw [hs] at h2
   cases h1; cases h2
   exact ⟨f,fd,F,m,b⟩
  ·exact dyn n' d' st' h1 h2) hb hg hc hm k
 cases k with
 | zero=>exact ⟨fun vs H Q E ⟨_,_,_,_,_,_,h,_⟩=>h.elim,fun A outer s H args us vs Q E _ _ _ _ ⟨_,_,_,_,_,_,h,_⟩=>h.elim⟩
 | succ k=>
  have ih:=jeu (P:=P) (w:=w) (base:=base) hst heq dyn hb hg hc hm k
  obtain ⟨st',e,h1,h2,h3⟩:=jdA hst heq hd
  rw [hs] at e
  cases e
  have S:=jj7 h1
  have un:∀ {us:List U} {G:Gp} {Q:K1} {E:KX},jab T (k + 1) n us G Q E->us.length=d.ps.length/\jag T.gs (jab T k) d.body ⟨fun _ G'=>Q .non G',Q,fun x _ G'=>E x G'⟩ (jad d.N.length us) G:=fun {us G Q E} h=>by
   have h':(match T.funs[n]? with | some d=>us.length=d.ps.length/\jag T.gs (jab T k) d.body ⟨fun _ G'=>Q .non G',Q,fun x _ G'=>E x G'⟩ (jad d.N.length us) G | none=>False):=h
   rw [hd] at h'
   exact h'
  refine F.okX S (fun vs H Q E ⟨us,G,Q',E',r,hG,h,lv,lx⟩=>by rw [<- r.length]; exact (un h).1) fun cdv A outer s H vs Q E hr hsp=>?_
  obtain ⟨us,G,Q',E',r,hG,h,lv,lx⟩:=hsp
  obtain ⟨hl,h⟩:=un h
  refine ⟨_,jhO h3 (sSs d.body (k:=k) (c:=⟨d.N,(defScope st).names⟩) (hs:=defBody st) ⟨⟨rfl,S.nd,fun x z=>eq_of_beq z,fun x z=>⟨eq_of_beq z,rfl⟩,fun x z=>.inr (eq_of_beq z),fun x z=>eq_of_beq z,hr.mono (by omega),rfl,jkm,hb,ih,hg,hr,hc,hm⟩,rfl,S.kind,rfl,rfl⟩ h2),?_⟩
  exact ⟨_,_,G,jdQ r,hG,h,⟨fun ς' σ' G' H' a b c q=>lv .non .non G' H' rfl b c q,fun w v G' H' a b c q=>lv w v G' H' a b c q,fun pins e s' x ς' σ' G' H' I sr xat hr' f q=>by obtain ⟨ea,C0,dx,rfl,l,xd⟩:=xat; exact CX1.out1 I l (lx x G' H' C0 dx xd hr' f q)⟩⟩
end
section
variable {K:PySem.W.Frag}
theorem jmU {x:Str}{v:Value}(h:gK K x=some v):PySem.W.nsIn K mainGlobals x=some (some v):=by
 unfold gK at h
 cases q:PySem.W.nsIn K mainGlobals x with
 | none=>rw [q] at h; cases h
 | some o=>rw [q] at h; rw [show o=some v from h]
theorem jkU {h:Heap}{mg:Str->Option Value}(X:K.In h)(G:h.Ns mainGlobals mg):∀ x v,gK K x=some v->mg x=some v:=fun _ _ e=>PySem.W.mg_of X G (jmU e)
end
theorem jeG {G:Gp}{a:Addr}{o u:MO}:gup (gup G a o) a u=gup G a u:=by funext b; unfold gup; split <;> rfl
noncomputable def Sm (f:Addr)(G G':Gp):Prop:=∀ b o,b≠f->G b=some o->G' b=some o
noncomputable def Sa (G G':Gp):Prop:=∀ b o,G b=some o->G' b=some o
theorem Sm.refl {f:Addr}{G:Gp}:Sm f G G:=fun _ _ _ h=>h
theorem Sa.refl {G:Gp}:Sa G G:=fun _ _ h=>h
theorem Sm.trans {f:Addr}{G G1 G2:Gp}(a:Sm f G G1)(b:Sm f G1 G2):Sm f G G2:=fun c o n h=>b c o n (a c o n h)
theorem Sa.trans {G G1 G2:Gp}(a:Sa G G1)(b:Sa G1 G2):Sa G G2:=fun c o h=>b c o (a c o h)
theorem Sa.sm {f:Addr}{G G':Gp}(a:Sa G G'):Sm f G G':=fun c o _ h=>a c o h
theorem Sa.new {G:Gp}{p:Addr}{o:MO}(h:G p=none):Sa G (gup G p o):=fun c u e=>by
 rw [jbv (fun z=>by rw [z,h] at e; cases e)]; exact e
theorem Sm.put {G:Gp}{f:Addr}{o:MO}:Sm f G (gup G f o):=fun c u n e=>by rw [jbv n]; exact e
theorem jeB {G:Gp}{a p:Addr}{o:MO}(h:G a=some o)(hp:G p=none):p≠a:=fun z=>by rw [z,h] at hp; cases hp
theorem New.at {G G':Gp}{p:Addr}{o:MO}(n:New G p o G'):G' p=some o:=by rw [n.eq]; exact jao
theorem New.sa {G G':Gp}{p:Addr}{o:MO}(n:New G p o G'):Sa G G':=by rw [n.eq]; exact Sa.new n.no
theorem Put.at {G G':Gp}{p:Addr}{o:MO}(n:Put G p o G'):G' p=some o:=by rw [n.eq]; exact jao
theorem Put.sm {G G':Gp}{p:Addr}{o:MO}(n:Put G p o G'):Sm p G G':=by rw [n.eq]; exact Sm.put
mutual
noncomputable def pd:U->PyData
 | .non=>.none
 | .bl b=>.bool b
 | .int i=>.int i
 | .str x=>.str x
 | .tup us=>.tuple (pds us)
 | .loc _=>.none
 | .fn _=>.none
 | .ty _=>.none
 | .exc _ _=>.none
 | .own _=>.none
 | .clo _ _=>.none
noncomputable def pds:List U->List PyData
 | []=>[]
 | u::us=>pd u::pds us
end
mutual
noncomputable def bare:U->Bool
 | .non=>true
 | .bl _=>true
 | .int _=>true
 | .str _=>true
 | .tup us=>bares us
 | .loc _=>false
 | .fn _=>false
 | .ty _=>false
 | .exc _ _=>false
 | .own _=>false
 | .clo _ _=>false
noncomputable def bares:List U->Bool
 | []=>true
 | u::us=>bare u && bares us
end
mutual
theorem jjw {G:Gp}:∀ {u:U},bare u=true->DU G u (pd u)
 | .non,_=>.non
 | .bl b,_=>.bl b
 | .int i,_=>.int i
 | .str x,_=>.str x
 | .tup _,h=>.tup (jgy h)
 | .loc _,h=>nomatch h
 | .fn _,h=>nomatch h
 | .ty _,h=>nomatch h
 | .exc _ _,h=>nomatch h
 | .own _,h=>nomatch h
 | .clo _ _,h=>nomatch h
theorem jgy {G:Gp}:∀ {us:List U},bares us=true->DUs G us (pds us)
 | [],_=>.nil
 | _::_,h=>.cons (jjw (ba h).1) (jgy (ba h).2)
end
theorem jfg:∀ {us:List U},(∀ u∈us,bare u=true)->bares us=true
 | [],_=>rfl
 | u::us,h=>by
  show (bare u && bares us)=true
  rw [h u List.mem_cons_self,jfg fun v hv=>h v (List.mem_cons_of_mem _ hv)]; rfl
theorem jf2:∀ us:List U,pds us=us.map pd
 | []=>rfl
 | u::us=>by
  show pd u::pds us=_
  rw [jf2 us]; rfl
structure Sml (n:Nat)(u:U):Prop where
 b:bare u=true
 l:(pd u).canLay0=true
 d:(pd u).depth<=n
theorem Sml.int (i:Int):Sml 0 (.int i):=⟨rfl,rfl,Nat.le_refl _⟩
theorem Sml.str {x:Str}(h:∀ c∈x.cps.toList,c < 128):Sml 0 (.str x):=⟨rfl,by
 show x.cps.all (fun c=>decide (c < 0x110000))=true
 rw [<- Array.all_toList,List.all_eq_true]
 exact fun c hc=>by simpa using Nat.lt_trans (h c hc) (by decide),Nat.le_refl _⟩
theorem smls {n:Nat}:∀ {us:List U},(∀ u∈us,Sml n u)->bares us=true/\PyData.canLayAll0 (pds us)=true/\PyData.depthAll (pds us)<=n
 | [],_=>⟨rfl,rfl,Nat.zero_le _⟩
 | u::us,h=>by
  obtain ⟨h1,h2,h3⟩:=smls fun v hv=>h v (List.mem_cons_of_mem _ hv)
  have hu:=h u List.mem_cons_self
  refine ⟨?_,?_,?_⟩
  ·show (bare u && bares us)=true
   rw [hu.b,h1]; rfl
  ·show ((pd u).canLay0 && PyData.canLayAll0 (pds us))=true
   rw [hu.l,h2]; rfl
  ·show max (pd u).depth (PyData.depthAll (pds us))<=n
   exact Nat.max_le.mpr ⟨hu.d,h3⟩
theorem Sml.tup {n:Nat}{us:List U}(h:∀ u∈us,Sml n u):Sml (n + 1) (.tup us):=let ⟨h1,h2,h3⟩:=smls h; ⟨h1,h2,Nat.succ_le_succ h3⟩
theorem Sml.small {n:Nat}{u:U}(h:Sml n u)(hn:n<=100):Small (pd u):=⟨h.l,Nat.le_trans h.d hn⟩
theorem jlg {G : Gp}{n : Nat}{a b : Addr}{us : List U}{k : Bool -> Prop}(ga : G a = some (.lst us))(gb : G b = some (.lst []))(h : ∀ u ∈ us, Sml n u)(hn : n < 100)(q : k us.isEmpty) : eqU (.loc a) (.loc b) G k := by
  obtain ⟨h1, h2, h3⟩ := smls h
  have la : lsG G a = some us := by unfold lsG; rw [ga]
  have lb : lsG G b = some [] := by unfold lsG; rw [gb]
  refine ⟨.list (pds us), .list [], .lst la (jgy h1), .lst lb .nil, ⟨h2, ?_⟩, ⟨rfl, by decide⟩, ?_⟩
  · show PyData.depthAll (pds us) + 1 <= 100
    omega
  · have e : PyData.eqv (.list (pds us)) (.list []) = us.isEmpty := by
      show PyData.eqvAll (pds us) [] = _
      rw [jdl]
      cases us <;> rfl
    rw [e]; exact q
structure Ft (n k:Nat)(u:U):Prop where
 b:bare u=true
 f:Fits n k (pd u)
theorem Ft.mono {n n' k k':Nat}{u:U}(h:Ft n k u)(h1:n<=n')(h2:k<=k'):Ft n' k' u:=⟨h.b,h.f.mono h1 h2⟩
theorem Ft.int {i:Int}(h:i.natAbs < 2 ^ 1000):Ft 1921 0 (.int i):=⟨rfl,Fits.int h⟩
theorem Ft.str {x:Str}{m:Nat}(h:x.length<=m)(hc:∀ c∈x.cps.toList,c < 128):Ft (10 * m + 2) 0 (.str x):=⟨rfl,Fits.str h fun c hc'=>Nat.lt_trans (hc c hc') (by decide)⟩
theorem Ft.tup {n k m N:Nat}{us:List U}(hl:us.length<=m)(h:∀ u∈us,Ft n k u)(hN:m * (n + 2) + 3<=N):Ft N (k + 1) (.tup us):=by
 refine ⟨jfg fun u hu=>(h u hu).b,?_⟩
 show Fits N (k + 1) (.tuple (pds us))
 rw [jf2]
 refine Fits.tupLe (m:=m) (n:=n) (by rw [List.length_map]; exact hl) (fun d hd=>?_) hN
 obtain ⟨u,hu,rfl⟩:=List.mem_map.mp hd
 exact (h u hu).f
theorem jaU {ok:Gp->Prop}{b:U->Sg->Gp->(Sg->Gp->Prop)->Prop}{k:Sg->Gp->Prop}:∀ {xs:List U} (I:Nat->Sg->Gp->Prop) (_:∀ ς G,I xs.length ς G->ok G/\k ς G)
  (_:∀ i x ς G (K:Sg->Gp->Prop),xs[i]?=some x->I i ς G->(∀ ς' G',I (i + 1) ς' G'->K ς' G')->ok G/\b x ς G K) {ς:Sg} {G:Gp} (_:I 0 ς G),forL ok b xs ς G k
 | [],_,h0,_,_,_,h=>h0 _ _ h
 | x::_,I,h0,h1,_,_,h=>h1 0 x _ _ _ rfl h fun _ _ h'=>jaU (fun i=>I (i + 1)) h0 (fun i y ς G K e hi hk=>h1 (i + 1) y ς G K e hi hk) h'
theorem jaD {ok:Gp->Prop}{b:U->Gp->(Option U->Gp->Prop)->Prop}{k:List U->Gp->Prop}:∀ {xs:List U} (I:Nat->List U->Gp->Prop) (_:∀ acc G,I xs.length acc G->ok G/\k acc G)
  (_:∀ i x acc G (K:Option U->Gp->Prop),xs[i]?=some x->I i acc G->(∀ u G',I (i + 1) (acc++[u]) G'->K (some u) G')->(∀ G',I (i + 1) acc G'->K none G')->ok G/\b x G K) {acc:List U} {G:Gp} (_:I 0 acc G),jdb ok b xs acc G k
 | [],_,h0,_,_,_,h=>h0 _ _ h
 | x::_,I,h0,h1,_,_,h=>h1 0 x _ _ _ rfl h (fun _ _ h'=>jaD (fun i=>I (i + 1)) h0 (fun i y a G K e hi hk hn=>h1 (i + 1) y a G K e hi hk hn) h') (fun _ h'=>jaD (fun i=>I (i + 1)) h0 (fun i y a G K e hi hk hn=>h1 (i + 1) y a G K e hi hk hn) h')
theorem jei {ok:Gp->Prop}{b:U->Gp->(Option U->Gp->Prop)->Prop}{k:List U->Gp->Prop}{G:Gp}(f:U->U)(hok:ok G):∀ {xs:List U} (_:∀ x∈xs,∀ K:Option U->Gp->Prop,K (some (f x)) G->b x G K) {acc:List U} (_:k (acc++xs.map f) G),jdb ok b xs acc G k
 | [],_,acc,q=>⟨hok,by simpa using q⟩
 | x::xs,hb,acc,q=>⟨hok,hb x List.mem_cons_self _ (jei f hok (fun y hy=>hb y (List.mem_cons_of_mem _ hy)) (by simpa using q))⟩
theorem jaM (i:Int)(n:Nat):(rngU i n).length=n:=by unfold rngU; simp
theorem ja7 {n i:Nat}{x:U}(h:(rngU 0 n)[i]?=some x):i < n/\x=.int i:=by
 unfold rngU at h
 rw [List.getElem?_map] at h
 by_cases hi:i < n
 ·rw [List.getElem?_range hi] at h
  exact ⟨hi,by simpa using h.symm⟩
 ·rw [List.getElem?_eq_none (by simpa using hi)] at h
  cases h
theorem jeO {α β:Type}(f:α->β)(l:List α)(i:Int):atI (l.map f) i=(atI l i).map f:=by
 unfold atI
 rw [List.length_map]
 cases ixN l.length i with
 | none=>rfl
 | some j=>simp
theorem jcj {α:Type}(a:α)(l:List α):atI (a::l) 0=some a:=jbR (xs:=a::l) (j:=0) rfl
theorem jaR {α:Type}(a b:α)(l:List α):atI (a::b::l) 1=some b:=jbR (xs:=a::b::l) (j:=1) rfl
theorem jgN {α:Type}{l:List α}{r:Int}(h0:0<=r)(h1:r < l.length):∃ x,x∈l/\atI l r=some x:=by
 obtain ⟨j,rfl⟩:=Int.eq_ofNat_of_zero_le h0
 have hj:j < l.length:=by omega
 exact ⟨l[j],List.getElem_mem hj,jbR (List.getElem?_eq_getElem hj)⟩
noncomputable def fdU (c:Addr)(a l t:Int):List (Key×U):=[(.inr "cells",.loc c),(.inr "at",.int a),(.inr "left",.int l),(.inr "turn",.int t)]
structure Fd (G:Gp)(f c:Addr):Prop where
 ex:∃ (ns:List Int) (a l t:Int),G f=some (.dK (fdU c a l t))/\G c=some (.lst (ns.map .int))/\ns≠[]
section
theorem k_ca:¬ ((Sum.inr ("cells" : Str):Key)=Sum.inr ("at" : Str)):=by decide +kernel
theorem k_cl:¬ ((Sum.inr ("cells" : Str):Key)=Sum.inr ("left" : Str)):=by decide +kernel
theorem k_ct:¬ ((Sum.inr ("cells" : Str):Key)=Sum.inr ("turn" : Str)):=by decide +kernel
theorem k_al:¬ ((Sum.inr ("at" : Str):Key)=Sum.inr ("left" : Str)):=by decide +kernel
theorem k_at:¬ ((Sum.inr ("at" : Str):Key)=Sum.inr ("turn" : Str)):=by decide +kernel
theorem k_lt:¬ ((Sum.inr ("left" : Str):Key)=Sum.inr ("turn" : Str)):=by decide +kernel
variable {c:Addr}{a l t:Int}
theorem jjk:dGet (fdU c a l t) (.inr "cells")=some (.loc c):=by simp [dGet,fdU]
theorem g_at:dGet (fdU c a l t) (.inr "at")=some (.int a):=by simp [dGet,fdU,k_ca,-Sum.inr.injEq]
theorem jld:dGet (fdU c a l t) (.inr "left")=some (.int l):=by simp [dGet,fdU,k_cl,k_al,-Sum.inr.injEq]
theorem jfb:dGet (fdU c a l t) (.inr "turn")=some (.int t):=by simp [dGet,fdU,k_ct,k_at,k_lt,-Sum.inr.injEq]
theorem jhS (x:Int):dPut (fdU c a l t) (.inr "turn") (.int x)=fdU c a l x:=by simp [dPut,fdU,k_ct,k_at,k_lt,-Sum.inr.injEq]
theorem p_at (x:Int):dPut (fdU c a l t) (.inr "at") (.int x)=fdU c x l t:=by simp [dPut,fdU,k_ca,Ne.symm k_al,Ne.symm k_at,-Sum.inr.injEq]
theorem jhT (x:Int):dPut (fdU c a l t) (.inr "left") (.int x)=fdU c a x t:=by simp [dPut,fdU,k_cl,k_al,Ne.symm k_lt,-Sum.inr.injEq]
theorem jkW {p:Addr}:jc2 [((Sum.inr ("cells" : Str):Key),U.loc p),(.inr "at",.int 0),(.inr "left",.int 0),(.inr "turn",.int 0)]=fdU p 0 0 0:=by
 simp [jc2,dPut,fdU,k_ca,k_cl,k_ct,k_al,k_at,k_lt,-Sum.inr.injEq]
theorem jeb:(fdU c a l t).length < sizeLine:=by show 4 < sizeLine; decide
theorem Sm.nw {f p:Addr}{G G1 G2:Gp}{o:MO}(s:Sm f G G1)(n:New G1 p o G2):Sm f G G2:=s.trans n.sa.sm
end
theorem D_v {gs:List U}{Δ:Cl}{ς:Sg}{G:Gp}{Q:K1}{X:KX}(i:Nat):(den gs Δ (.v i)).1 ς G Q X=(slot ς i fun u=>Q u G):=rfl
theorem T_v {gs:List U}{Δ:Cl}{ς:Sg}{G:Gp}{R:Bool->Gp->Prop}{X:KX}(i:Nat):(den gs Δ (.v i)).2 ς G R X=(den gs Δ (.v i)).1 ς G (fun x G1=>truU x G1 fun b=>R b G1) X:=rfl
theorem jnN {gs:List U}{Δ:Cl}{ς:Sg}{G:Gp}{Q:K1}{X:KX}  : (den gs Δ (.non)).1 ς G Q X=(Q .non G):=rfl
theorem D_bl {gs:List U}{Δ:Cl}{ς:Sg}{G:Gp}{Q:K1}{X:KX}(b:Bool):(den gs Δ (.bl b)).1 ς G Q X=(Q (.bl b) G):=rfl
theorem jnT {gs:List U}{Δ:Cl}{ς:Sg}{G:Gp}{Q:K1}{X:KX}(i:Int):(den gs Δ (.int i)).1 ς G Q X=(Q (.int i) G):=rfl
theorem jnK {gs:List U}{Δ:Cl}{ς:Sg}{G:Gp}{Q:K1}{X:KX}(x:Str):(den gs Δ (.str x)).1 ς G Q X=(Q (.str x) G):=rfl
theorem D_g {gs:List U}{Δ:Cl}{ς:Sg}{G:Gp}{Q:K1}{X:KX}(n:Nat):(den gs Δ (.g n)).1 ς G Q X=(glU gs n fun u=>Q u G):=rfl
theorem T_g {gs:List U}{Δ:Cl}{ς:Sg}{G:Gp}{R:Bool->Gp->Prop}{X:KX}(n:Nat):(den gs Δ (.g n)).2 ς G R X=(den gs Δ (.g n)).1 ς G (fun x G1=>truU x G1 fun b=>R b G1) X:=rfl
theorem D_ty {gs:List U}{Δ:Cl}{ς:Sg}{G:Gp}{Q:K1}{X:KX}(n:String):(den gs Δ (.ty n)).1 ς G Q X=(Q (.ty n) G):=rfl
theorem T_ty {gs:List U}{Δ:Cl}{ς:Sg}{G:Gp}{R:Bool->Gp->Prop}{X:KX}(n:String):(den gs Δ (.ty n)).2 ς G R X=(den gs Δ (.ty n)).1 ς G (fun x G1=>truU x G1 fun b=>R b G1) X:=rfl
theorem jnY {gs:List U}{Δ:Cl}{ς:Sg}{G:Gp}{Q:K1}{X:KX}(o:Operator)(a b:E):(den gs Δ (.bin o a b)).1 ς G Q X=((den gs Δ a).1 ς G (fun x G1=>(den gs Δ b).1 ς G1 (fun y G2=>binU o x y G2 Q) X) X):=rfl
theorem jns {gs:List U}{Δ:Cl}{ς:Sg}{G:Gp}{R:Bool->Gp->Prop}{X:KX}(o:Operator)(a b:E):(den gs Δ (.bin o a b)).2 ς G R X=(den gs Δ (.bin o a b)).1 ς G (fun x G1=>truU x G1 fun b=>R b G1) X:=rfl
theorem jnO {gs:List U}{Δ:Cl}{ς:Sg}{G:Gp}{Q:K1}{X:KX}(a:E):(den gs Δ (.neg a)).1 ς G Q X=((den gs Δ a).1 ς G (fun x G1=>negU x G1 Q) X):=rfl
theorem jnW {gs:List U}{Δ:Cl}{ς:Sg}{G:Gp}{Q:K1}{X:KX}(o:CmpOp)(a b:E):(den gs Δ (.cmp o a b)).1 ς G Q X=((den gs Δ a).1 ς G (fun x G1=>(den gs Δ b).1 ς G1 (fun y G2=>cmpU o x y G2 fun c=>Q (.bl c) G2) X) X):=rfl
theorem jnq {gs:List U}{Δ:Cl}{ς:Sg}{G:Gp}{R:Bool->Gp->Prop}{X:KX}(o:CmpOp)(a b:E):(den gs Δ (.cmp o a b)).2 ς G R X=(den gs Δ (.cmp o a b)).1 ς G (fun x G1=>truU x G1 fun b=>R b G1) X:=rfl
theorem jlM {gs:List U}{Δ:Cl}{ς:Sg}{G:Gp}{Q:K1}{X:KX}(o p:CmpOp)(a b c:E):(den gs Δ (.cmp2 o p a b c)).1 ς G Q X=((den gs Δ a).1 ς G (fun x G1=>(den gs Δ b).1 ς G1 (fun y G2=>cmpU o x y G2 fun t=>if t=true then (den gs Δ c).1 ς G2 (fun z G3=>cmpU p y z G3 fun t'=>Q (.bl t') G3) X else Q (.bl false) G2) X) X):=rfl
theorem jlx {gs:List U}{Δ:Cl}{ς:Sg}{G:Gp}{R:Bool->Gp->Prop}{X:KX}(o p:CmpOp)(a b c:E):(den gs Δ (.cmp2 o p a b c)).2 ς G R X=(den gs Δ (.cmp2 o p a b c)).1 ς G (fun x G1=>truU x G1 fun b=>R b G1) X:=rfl
theorem jnJ {gs:List U}{Δ:Cl}{ς:Sg}{G:Gp}{Q:K1}{X:KX}(es:Es):(den gs Δ (.tup es)).1 ς G Q X=(ja2 gs Δ es ς G (fun us G1=>us.length<=sizeLine/\Q (.tup us) G1) X):=rfl
theorem jnR {gs:List U}{Δ:Cl}{ς:Sg}{G:Gp}{Q:K1}{X:KX}(es:Es):(den gs Δ (.lst es)).1 ς G Q X=(ja2 gs Δ es ς G (fun us G1=>us.length<=sizeLine/\newO G1 (.lst us) Q) X):=rfl
theorem jnV {gs:List U}{Δ:Cl}{ς:Sg}{G:Gp}{Q:K1}{X:KX}(es:Es):(den gs Δ (.dic es)).1 ς G Q X=(denD gs Δ es ς G (fun kvs G1=>kvs.length<=15/\newO G1 (.dK (jc2 kvs)) Q) X):=rfl
theorem D_ix {gs:List U}{Δ:Cl}{ς:Sg}{G:Gp}{Q:K1}{X:KX}(a b:E):(den gs Δ (.ix a b)).1 ς G Q X=((den gs Δ a).1 ς G (fun x G1=>(den gs Δ b).1 ς G1 (fun y G2=>ixU x y G2 Q) X) X):=rfl
theorem T_ix {gs:List U}{Δ:Cl}{ς:Sg}{G:Gp}{R:Bool->Gp->Prop}{X:KX}(a b:E):(den gs Δ (.ix a b)).2 ς G R X=(den gs Δ (.ix a b)).1 ς G (fun x G1=>truU x G1 fun b=>R b G1) X:=rfl
theorem D_sl {gs:List U}{Δ:Cl}{ς:Sg}{G:Gp}{Q:K1}{X:KX}(a:E)(lo hi:Eo):(den gs Δ (.sl a lo hi)).1 ς G Q X=((den gs Δ a).1 ς G (fun x G1=>denO gs Δ lo ς G1 (fun l G2=>denO gs Δ hi ς G2 (fun h G3=>slU x l h G3 Q) X) X) X):=rfl
theorem jnL {gs:List U}{Δ:Cl}{ς:Sg}{G:Gp}{Q:K1}{X:KX}(a b:E):(den gs Δ (.rev a b)).1 ς G Q X=((den gs Δ a).1 ς G (fun x G1=>(den gs Δ b).1 ς G1 (fun y G2=>revU x y G2 Q) X) X):=rfl
theorem jlN {gs:List U}{Δ:Cl}{ς:Sg}{G:Gp}{Q:K1}{X:KX}(n:Nat)(es:Es):(den gs Δ (.call n es)).1 ς G Q X=(ja2 gs Δ es ς G (fun us G1=>Δ n us G1 Q X) X):=rfl
theorem jly {gs:List U}{Δ:Cl}{ς:Sg}{G:Gp}{R:Bool->Gp->Prop}{X:KX}(n:Nat)(es:Es):(den gs Δ (.call n es)).2 ς G R X=(den gs Δ (.call n es)).1 ς G (fun x G1=>truU x G1 fun b=>R b G1) X:=rfl
theorem jnX {gs:List U}{Δ:Cl}{ς:Sg}{G:Gp}{Q:K1}{X:KX}(b:Blt)(es:Es):(den gs Δ (.blt b es)).1 ς G Q X=(ja2 gs Δ es ς G (fun us G1=>bltU b us G1 Q) X):=rfl
theorem jnr {gs:List U}{Δ:Cl}{ς:Sg}{G:Gp}{R:Bool->Gp->Prop}{X:KX}(b:Blt)(es:Es):(den gs Δ (.blt b es)).2 ς G R X=(den gs Δ (.blt b es)).1 ς G (fun x G1=>truU x G1 fun b=>R b G1) X:=rfl
theorem jlL {gs:List U}{Δ:Cl}{ς:Sg}{G:Gp}{Q:K1}{X:KX}(m:Mth)(o:E)(es:Es):(den gs Δ (.meth m o es)).1 ς G Q X=((den gs Δ o).1 ς G (fun x G1=>match mtU m x G1 with | some _=>ja2 gs Δ es ς G1 (fun us G2=>jbt m x us G2 Q) X | none=>False) X):=rfl
theorem D_lc {gs:List U}{Δ:Cl}{ς:Sg}{G:Gp}{Q:K1}{X:KX}(pick:List (Option Nat))(t:Tg)(it:It)(ifs:Es)(e:E):(den gs Δ (.lc pick t it ifs e)).1 ς G Q X=(denI gs Δ it ς G (fun xs ok G1=>xs.length<=sizeLine/\jdb ok (fun x G2 k=>tgU t x (jbN pick ς) fun τ=>denC gs Δ ifs τ G2 (fun b G3=>if b=true then (den gs Δ e).1 τ G3 (fun u G4=>k (some u) G4) (fun _ _=>False) else k none G3)) xs [] G1 fun us G5=>newO G5 (.lst us) Q) X):=rfl
theorem jnS {gs:List U}{Δ:Cl}{ς:Sg}{G:Gp}{Q:K1}{X:KX}(pick:List (Option Nat))(t:Tg)(it:It)(ifs:Es)(t2:Tg)(it2:It)(ifs2:Es)(e:E):(den gs Δ (.lc2 pick t it ifs t2 it2 ifs2 e)).1 ς G Q X=(denI gs Δ it ς G (fun xs ok G1=>jjB ok (fun x acc G2 k=>tgU t x (jbN pick ς) fun τ=>denC gs Δ ifs τ G2 (fun b G3=>if b=true then denI gs Δ it2 τ G3 (fun ys ok2 G4=>acc.length + ys.length<=sizeLine/\jdb ok2 (fun y G5 k5=>tgU t2 y τ fun τ'=>denC gs Δ ifs2 τ' G5 (fun b2 G6=>if b2=true then (den gs Δ e).1 τ' G6 (fun u G7=>k5 (some u) G7) (fun _ _=>False) else k5 none G6)) ys acc G4 k) (fun _ _=>False) else k acc G3)) xs [] G1 fun us G5=>newO G5 (.lst us) Q) X):=rfl
theorem jno {gs:List U}{Δ:Cl}{ς:Sg}{G:Gp}{R:Bool->Gp->Prop}{X:KX}(pick:List (Option Nat))(t:Tg)(it:It)(ifs:Es)(t2:Tg)(it2:It)(ifs2:Es)(e:E):(den gs Δ (.lc2 pick t it ifs t2 it2 ifs2 e)).2 ς G R X=(den gs Δ (.lc2 pick t it ifs t2 it2 ifs2 e)).1 ς G (fun x G1=>truU x G1 fun b=>R b G1) X:=rfl
theorem jnQ {gs:List U}{Δ:Cl}{ς:Sg}{G:Gp}{Q:K1}{X:KX}(e:E):(den gs Δ (.mkL e)).1 ς G Q X=((den gs Δ e).1 ς G (fun x G1=>itU x G1 fun xs _=>newO G1 (.lst xs) Q) X):=rfl
theorem jnP {gs:List U}{Δ:Cl}{ς:Sg}{G:Gp}{Q:K1}{X:KX}(e:E):(den gs Δ (.mkT e)).1 ς G Q X=((den gs Δ e).1 ς G (fun x G1=>itU x G1 fun xs _=>Q (.tup xs) G1) X):=rfl
theorem jnM {gs:List U}{Δ:Cl}{ς:Sg}{G:Gp}{Q:K1}{X:KX}(a:E):(den gs Δ (.not a)).1 ς G Q X=((den gs Δ a).1 ς G (fun x G1=>truU x G1 fun b=>Q (.bl (!b)) G1) X):=rfl
theorem jnn {gs:List U}{Δ:Cl}{ς:Sg}{G:Gp}{R:Bool->Gp->Prop}{X:KX}(a:E):(den gs Δ (.not a)).2 ς G R X=((den gs Δ a).2 ς G (fun b G1=>R (!b) G1) X):=rfl
theorem jnU {gs:List U}{Δ:Cl}{ς:Sg}{G:Gp}{Q:K1}{X:KX}(c a b:E):(den gs Δ (.ife c a b)).1 ς G Q X=((den gs Δ c).2 ς G (fun t G1=>if t=true then (den gs Δ a).1 ς G1 Q X else (den gs Δ b).1 ς G1 Q X) X):=rfl
theorem jnp {gs:List U}{Δ:Cl}{ς:Sg}{G:Gp}{R:Bool->Gp->Prop}{X:KX}(c a b:E):(den gs Δ (.ife c a b)).2 ς G R X=((den gs Δ c).2 ς G (fun t G1=>if t=true then (den gs Δ a).2 ς G1 R X else (den gs Δ b).2 ς G1 R X) X):=rfl
theorem jlO {gs:List U}{Δ:Cl}{k:Bool}{a:E}:den gs Δ (.bop k a .nil)=den gs Δ a:=rfl
theorem jnZ {gs:List U}{Δ:Cl}{ς:Sg}{G:Gp}{Q:K1}{X:KX}{a b:E}{es:Es}:(den gs Δ (.bop true a (.cons b es))).1 ς G Q X=(den gs Δ a).1 ς G (fun x G1=>truU x G1 fun c=>if c=true then (den gs Δ (.bop true b es)).1 ς G1 Q X else Q x G1) X:=rfl
theorem D_or {gs:List U}{Δ:Cl}{ς:Sg}{G:Gp}{Q:K1}{X:KX}{a b:E}{es:Es}:(den gs Δ (.bop false a (.cons b es))).1 ς G Q X=(den gs Δ a).1 ς G (fun x G1=>truU x G1 fun c=>if c=true then Q x G1 else (den gs Δ (.bop false b es)).1 ς G1 Q X) X:=rfl
theorem jnt {gs:List U}{Δ:Cl}{ς:Sg}{G:Gp}{R:Bool->Gp->Prop}{X:KX}{a b:E}{es:Es}:(den gs Δ (.bop true a (.cons b es))).2 ς G R X=(den gs Δ a).2 ς G (fun c G1=>if c=true then (den gs Δ (.bop true b es)).2 ς G1 R X else R false G1) X:=rfl
theorem T_or {gs:List U}{Δ:Cl}{ς:Sg}{G:Gp}{R:Bool->Gp->Prop}{X:KX}{a b:E}{es:Es}:(den gs Δ (.bop false a (.cons b es))).2 ς G R X=(den gs Δ a).2 ς G (fun c G1=>if c=true then R true G1 else (den gs Δ (.bop false b es)).2 ς G1 R X) X:=rfl
theorem O_no {gs:List U}{Δ:Cl}{ς:Sg}{G:Gp}{X:KX}{Q:Option Int->Gp->Prop}:denO gs Δ .no ς G Q X=Q none G:=rfl
theorem O_so {gs:List U}{Δ:Cl}{ς:Sg}{G:Gp}{X:KX}{Q:Option Int->Gp->Prop}{e:E}:denO gs Δ (.so e) ς G Q X=(den gs Δ e).1 ς G (fun x G1=>match x with | .int i=>Q (some i) G1 | _=>False) X:=rfl
theorem jn2 {gs:List U}{Δ:Cl}{ς:Sg}{G:Gp}{X:KX}{Q:List U->Gp->Prop}:ja2 gs Δ .nil ς G Q X=Q [] G:=rfl
theorem jlR {gs:List U}{Δ:Cl}{ς:Sg}{G:Gp}{X:KX}{Q:List U->Gp->Prop}{e:E}{es:Es}:ja2 gs Δ (.cons e es) ς G Q X=(den gs Δ e).1 ς G (fun x G1=>ja2 gs Δ es ς G1 (fun xs G2=>Q (x::xs) G2) X) X:=rfl
theorem jn0 {gs:List U}{Δ:Cl}{ς:Sg}{G:Gp}{Q:Bool->Gp->Prop}:denC gs Δ .nil ς G Q=Q true G:=rfl
theorem jlP {gs:List U}{Δ:Cl}{ς:Sg}{G:Gp}{Q:Bool->Gp->Prop}{e:E}{es:Es}:denC gs Δ (.cons e es) ς G Q=(den gs Δ e).2 ς G (fun b G1=>if b=true then denC gs Δ es ς G1 Q else Q false G1) (fun _ _=>False):=rfl
theorem jny {gs:List U}{Δ:Cl}{ς:Sg}{G:Gp}{X:KX}{Q:List (Key×U)->Gp->Prop}:denD gs Δ .nil ς G Q X=Q [] G:=rfl
theorem jlC {gs:List U}{Δ:Cl}{ς:Sg}{G:Gp}{X:KX}{Q:List (Key×U)->Gp->Prop}{e f:E}{es:Es}:denD gs Δ (.cons e (.cons f es)) ς G Q X=(den gs Δ e).1 ς G (fun x G1=>(den gs Δ f).1 ς G1 (fun y G2=>match kU x with | some k=>denD gs Δ es ς G2 (fun kvs G3=>Q ((k,y)::kvs) G3) X | none=>False) X) X:=rfl
theorem I_e {gs:List U}{Δ:Cl}{ς:Sg}{G:Gp}{X:KX}{Q:List U->(Gp->Prop)->Gp->Prop}{e:E}:denI gs Δ (.e e) ς G Q X=(den gs Δ e).1 ς G (fun x G1=>itU x G1 fun xs ok=>Q xs ok G1) X:=rfl
theorem I_r1 {gs:List U}{Δ:Cl}{ς:Sg}{G:Gp}{X:KX}{Q:List U->(Gp->Prop)->Gp->Prop}{e:E}:denI gs Δ (.r1 e) ς G Q X=(den gs Δ e).1 ς G (fun x G1=>match x with | .int j=>-(2 ^ 62)<=j/\j < 2 ^ 62/\Q (rngU 0 j.toNat) (fun _=>True) G1 | _=>False) X:=rfl
theorem I_dk {gs:List U}{Δ:Cl}{ς:Sg}{G:Gp}{X:KX}{Q:List U->(Gp->Prop)->Gp->Prop}{e:E}:denI gs Δ (.dk e) ς G Q X=(den gs Δ e).1 ς G (fun x G1=>jjH x G1 Q) X:=rfl
theorem jlA {gs:List U}{Δ:Cl}{D:En}{ς:Sg}{G:Gp}{e:E}:denS gs Δ (.expr e) D ς G=(den gs Δ e).1 ς G (fun _ G1=>D.nx ς G1) fun x G1=>D.ex x ς G1:=rfl
theorem jnx {gs:List U}{Δ:Cl}{D:En}{ς:Sg}{G:Gp}{t:Tg}{e:E}:denS gs Δ (.asg t e) D ς G=(den gs Δ e).1 ς G (fun u G1=>tgU t u ς fun ς'=>D.nx ς' G1) fun x G1=>D.ex x ς G1:=rfl
theorem jlB {gs:List U}{Δ:Cl}{D:En}{ς:Sg}{G:Gp}{i:Nat}{e:E}:denS gs Δ (.asgC i e) D ς G=(den gs Δ e).1 ς G (fun u G1=>D.nx (ς.set i (some u)) G1) fun x G1=>D.ex x ς G1:=rfl
theorem jlz {gs:List U}{Δ:Cl}{D:En}{ς:Sg}{G:Gp}{o i e:E}:denS gs Δ (.setS o i e) D ς G=(den gs Δ e).1 ς G (fun v G1=>(den gs Δ o).1 ς G1 (fun x G2=>(den gs Δ i).1 ς G2 (fun y G3=>setU x y v G3 fun G4=>D.nx ς G4) (fun x G1=>D.ex x ς G1)) (fun x G1=>D.ex x ς G1)) (fun x G1=>D.ex x ς G1):=rfl
theorem jnv {gs:List U}{Δ:Cl}{D:En}{ς:Sg}{G:Gp}{is:List Nat}{es:Es}:denS gs Δ (.par is es) D ς G=ja2 gs Δ es ς G (fun us G1=>us.length=is.length/\D.nx ((is.zip us).foldl (fun s p=>s.set p.1 (some p.2)) ς) G1) fun x G1=>D.ex x ς G1:=rfl
theorem jnw {gs:List U}{Δ:Cl}{D:En}{ς:Sg}{G:Gp}{c:E}{a b:Ss}:denS gs Δ (.ite c a b) D ς G=(den gs Δ c).2 ς G (fun t G1=>if t=true then jag gs Δ a D ς G1 else jag gs Δ b D ς G1) fun x G1=>D.ex x ς G1:=rfl
theorem S_fr {gs:List U}{Δ:Cl}{D:En}{ς:Sg}{G:Gp}{t:Tg}{it:It}{b:Ss}:denS gs Δ (.fr t it b) D ς G=denI gs Δ it ς G (fun xs ok G1=>forL ok (fun x ς1 G2 k=>tgU t x ς1 fun ς2=>jag gs Δ b { D with nx:=k } ς2 G2) xs ς G1 D.nx) fun x G1=>D.ex x ς G1:=rfl
theorem jnu {gs:List U}{Δ:Cl}{D:En}{ς:Sg}{G:Gp}{e:E}:denS gs Δ (.ret e) D ς G=(den gs Δ e).1 ς G D.rt fun x G1=>D.ex x ς G1:=rfl
theorem jjF {gs:List U}{Δ:Cl}{D:En}{ς:Sg}{G:Gp}{c:Nat}{es:Es}:denS gs Δ (.raise c es) D ς G=ja2 gs Δ es ς G (fun us G1=>us.length=(clsF c).length/\D.ex ⟨c,us⟩ ς G1) fun x G1=>D.ex x ς G1:=rfl
theorem S_tr {gs:List U}{Δ:Cl}{D:En}{ς:Sg}{G:Gp}{b:Ss}{c n:Nat}{h:List HS}:denS gs Δ (.tr b c n h) D ς G=jag gs Δ b { D with ex:=fun x ς1 G1=>(c=0\/x.c=c)/\hsH x h (ς1.set n none) G1 fun ς2 G2=>D.nx (ς2.set n none) G2 } ς G:=rfl
theorem jn1 {gs:List U}{Δ:Cl}{D:En}{ς:Sg}{G:Gp}:jag gs Δ .nil D ς G=D.nx ς G:=rfl
theorem jlQ {gs:List U}{Δ:Cl}{D:En}{ς:Sg}{G:Gp}{s:S}{r:Ss}:jag gs Δ (.cons s r) D ς G=denS gs Δ s { D with nx:=fun ς' G'=>jag gs Δ r D ς' G' } ς G:=rfl
theorem S_wh {gs:List U}{Δ:Cl}{D:En}{ς:Sg}{G:Gp}{c:E}{b:Ss}:denS gs Δ (.wh c b) D ς G=∃ W:Nat->Sg->Gp->Prop,(∃ m,W m ς G)/\∀ m ς1 G1,W m ς1 G1->(den gs Δ c).2 ς1 G1 (fun t G2=>if t=true then jag gs Δ b { D with nx:=fun ς' G'=>∃ m',m' < m/\W m' ς' G' } ς1 G2 else D.nx ς1 G2) fun x G1=>D.ex x ς1 G1:=rfl
theorem jnm {G:Gp}{Q:K1}{i j:Int}:binU .Add (.int i) (.int j) G Q=Q (.int (i + j)) G:=rfl
theorem jnl {G:Gp}{Q:K1}{xs ys:List U}:binU .Add (.tup xs) (.tup ys) G Q=(xs.length + ys.length<=sizeLine/\Q (.tup (xs++ys)) G):=rfl
theorem jlv {G:Gp}{Q:K1}{a b:Addr}:binU .Add (.loc a) (.loc b) G Q=∃ xs ys,G a=some (.lst xs)/\G b=some (.lst ys)/\xs.length + ys.length<=sizeLine/\newO G (.lst (xs++ys)) Q:=rfl
theorem jng {G:Gp}{Q:K1}{i j:Int}:binU .Sub (.int i) (.int j) G Q=Q (.int (i - j)) G:=rfl
theorem jnj {G:Gp}{Q:K1}{i j:Int}:binU .Mult (.int i) (.int j) G Q=(CMul i j/\Q (.int (i * j)) G):=rfl
theorem jlt {G:Gp}{Q:K1}{a:Addr}{k:Int}:binU .Mult (.loc a) (.int k) G Q=∃ xs,G a=some (.lst xs)/\-(2 ^ 63)<=k/\k < 2 ^ 63/\xs.length * k.toNat<=sizeLine/\newO G (.lst (List.replicate k.toNat xs).flatten) Q:=rfl
theorem jls {G:Gp}{Q:K1}{xs:List U}{k:Int}:binU .Mult (.tup xs) (.int k) G Q=(xs≠[]/\1<=k/\k < 2 ^ 62/\xs.length * k.toNat<=sizeLine/\Q (.tup (List.replicate k.toNat xs).flatten) G):=rfl
theorem jlu {G:Gp}{Q:K1}{i j:Int}:binU .FloorDiv (.int i) (.int j) G Q=(0 < j/\j < 1073741824/\Q (.int (i / j)) G):=rfl
theorem jnk {G:Gp}{Q:K1}{i j:Int}:binU .Mod (.int i) (.int j) G Q=(0 < j/\Q (.int (i % j)) G):=rfl
theorem jnh {G:Gp}{Q:K1}{i j:Int}:binU .Pow (.int i) (.int j) G Q=(CPow i j/\Q (.int (i ^ j.toNat)) G):=rfl
theorem jni {G:Gp}{Q:K1}{i:Int}:negU (.int i) G Q=Q (.int (-i)) G:=rfl
theorem jnf {G:Gp}{k:Bool->Prop}{i j:Int}:cmpU .Eq (.int i) (.int j) G k=k (decide (i=j)):=rfl
theorem jnb {G:Gp}{k:Bool->Prop}{i j:Int}:cmpU .NotEq (.int i) (.int j) G k=k (!decide (i=j)):=rfl
theorem jnd {G:Gp}{k:Bool->Prop}{i j:Str}:cmpU .Eq (.str i) (.str j) G k=k (decide (i=j)):=rfl
theorem jm9 {G:Gp}{k:Bool->Prop}{i j:Str}:cmpU .NotEq (.str i) (.str j) G k=k (!decide (i=j)):=rfl
theorem W_lt {G:Gp}{k:Bool->Prop}{i j:Int}:cmpU .Lt (.int i) (.int j) G k=k (decide (i < j)):=rfl
theorem W_le {G:Gp}{k:Bool->Prop}{i j:Int}:cmpU .LtE (.int i) (.int j) G k=k (decide (i<=j)):=rfl
theorem W_gt {G:Gp}{k:Bool->Prop}{i j:Int}:cmpU .Gt (.int i) (.int j) G k=k (decide (j < i)):=rfl
theorem W_ge {G:Gp}{k:Bool->Prop}{i j:Int}:cmpU .GtE (.int i) (.int j) G k=k (decide (j<=i)):=rfl
theorem jm8 {G:Gp}{k:Bool->Prop}{xs ys:List U}:cmpU .NotEq (.tup xs) (.tup ys) G k=eqU (.tup xs) (.tup ys) G fun b=>k (!b):=rfl
theorem jnc {G:Gp}{k:Bool->Prop}{xs ys:List U}{y:U}:cmpU .Eq (.tup xs) (.tup (y::ys)) G k=eqU (.tup xs) (.tup (y::ys)) G k:=rfl
theorem jlp {G:Gp}{k:Bool->Prop}{xs:List U}:cmpU .Eq (.tup xs) (.tup []) G k=k xs.isEmpty:=rfl
theorem jna {G:Gp}{k:Bool->Prop}{a b:Addr}:cmpU .NotEq (.loc a) (.loc b) G k=eqU (.loc a) (.loc b) G fun b=>k (!b):=rfl
theorem jne {G:Gp}{k:Bool->Prop}{a b:Addr}:cmpU .Eq (.loc a) (.loc b) G k=eqU (.loc a) (.loc b) G k:=rfl
theorem W_in {G:Gp}{k:Bool->Prop}{x y:U}:cmpU .In x y G k=inU x y G k:=rfl
theorem jm7 {G:Gp}{k:Bool->Prop}{x y:U}:cmpU .NotIn x y G k=inU x y G fun b=>k (!b):=rfl
theorem Y_bl {G:Gp}{k:Bool->Prop}{b:Bool}:truU (.bl b) G k=k b:=rfl
theorem jm3 {G:Gp}{k:Bool->Prop}:truU .non G k=k false:=rfl
theorem jm4 {G:Gp}{k:Bool->Prop}{i:Int}:truU (.int i) G k=k (i != 0):=rfl
theorem jm2 {G:Gp}{k:Bool->Prop}{xs:List U}:truU (.tup xs) G k=k (!xs.isEmpty):=rfl
theorem jnB {G:Gp}{k:List U->(Gp->Prop)->Prop}{xs:List U}:itU (.tup xs) G k=k xs fun _=>True:=rfl
theorem jm5 {G:Gp}{Q:K1}{lo hi:Option Int}{xs:List U}:slU (.tup xs) lo hi G Q=Q (.tup (cut xs lo hi)) G:=rfl
theorem jnF {us:List U}{G:Gp}{Q:K1}:bltU .len us G Q=lenU us G Q:=rfl
theorem jlE {us:List U}{G:Gp}{Q:K1}:bltU .repr us G Q=jfm us G Q:=rfl
theorem jnE {us:List U}{G:Gp}{Q:K1}:bltU .min us G Q=minU us G Q:=rfl
theorem jnI {us:List U}{G:Gp}{Q:K1}:bltU .all us G Q=allU us G Q:=rfl
theorem jnH {us:List U}{G:Gp}{Q:K1}:bltU .int us G Q=intU us G Q:=rfl
theorem jnD {us:List U}{G:Gp}{Q:K1}:bltU .str us G Q=strU us G Q:=rfl
theorem jnG {us:List U}{G:Gp}{Q:K1}:bltU .isi us G Q=jfz us G Q:=rfl
theorem jm6 {G:Gp}{Q:K1}{lo hi:Option Int}{x:Str}:slU (.str x) lo hi G Q=(x.length<=sizeLine/\Q (.str (Txt.slice x lo hi)) G):=rfl
theorem jlw {G:Gp}{Q:K1}{b:Bool}{j:Int}:binU .Add (.bl b) (.int j) G Q=Q (.int ((if b=true then (1:Int) else 0) + j)) G:=rfl
theorem jlr {G:Gp}{Q:K1}{b:Bool}{j:Int}:binU .Sub (.bl b) (.int j) G Q=Q (.int ((if b=true then (1:Int) else 0) - j)) G:=rfl
theorem jlq {G:Gp}{Q:K1}{b:Bool}{i:Int}:binU .Sub (.int i) (.bl b) G Q=Q (.int (i - if b=true then (1:Int) else 0)) G:=rfl
theorem jlH {G:Gp}{Q:K1}{xs:List U}:lenU [.tup xs] G Q=Q (.int xs.length) G:=rfl
theorem jlF {G:Gp}{Q:K1}{i j:Int}:minU [.int i,.int j] G Q=Q (.int (if j < i then j else i)) G:=rfl
theorem jlG {G:Gp}{Q:K1}{i j:Int}:maxU [.int i,.int j] G Q=Q (.int (if j > i then j else i)) G:=rfl
theorem jlJ {G:Gp}{Q:K1}{b:Bool}:intU [.bl b] G Q=Q (.int (if b then 1 else 0)) G:=rfl
theorem jlI {G:Gp}{Q:K1}{i:Int}:intU [.int i] G Q=Q (.int i) G:=rfl
theorem G_n {i:Nat}{u:U}{ς:Sg}{k:Sg->Prop}:tgU (.n i) u ς k=k (ς.set i (some u)):=rfl
theorem G_t {ts:Tgs}{us:List U}{ς:Sg}{k:Sg->Prop}:tgU (.t ts) (.tup us) ς k=tgsU ts us ς k:=rfl
theorem jnC {us:List U}{ς:Sg}{k:Sg->Prop}:tgsU .nil us ς k=(us=[]/\k ς):=rfl
theorem jlD {t:Tg}{ts:Tgs}{u:U}{r:List U}{ς:Sg}{k:Sg->Prop}:tgsU (.cons t ts) (u::r) ς k=tgU t u ς fun ς'=>tgsU ts r ς' k:=rfl
theorem sl_0 {u:U}{ς:Sg}{k:U->Prop}:slot (some u::ς) 0 k=k u:=rfl
theorem sl_s {o:Option U}{ς:Sg}{i:Nat}{k:U->Prop}:slot (o::ς) (i + 1) k=slot ς i k:=rfl
theorem jcO {G:Gp}{a:Addr}{o:MO}{Q:Gp->Prop}:putO G a o Q=Q (gup G a o):=propext ⟨fun h=>h.at,fun h G1 p=>by rw [p.eq]; exact h⟩
theorem ix_t {xs:List U}{i:Int}{u:U}{G:Gp}{Q:K1}(h:atI xs i=some u):ixU (.tup xs) (.int i) G Q=Q u G:=by unfold ixU; dsimp only; rw [h]
theorem ix_l {a:Addr}{xs:List U}{i:Int}{u:U}{G:Gp}{Q:K1}(g:G a=some (.lst xs))(h:atI xs i=some u):ixU (.loc a) (.int i) G Q=Q u G:=by unfold ixU; dsimp only; rw [g]; dsimp only; rw [h]
theorem ix_d {a:Addr}{kvs:List (Key×U)}{x:Str}{u:U}{G:Gp}{Q:K1}(g:G a=some (.dK kvs))(h:dGet kvs (.inr x)=some u):ixU (.loc a) (.str x) G Q=Q u G:=by unfold ixU; dsimp only; rw [g]; show (match dGet kvs (.inr x) with | some u=>Q u G | none=>False)=_; rw [h]
theorem jcU {a:Addr}{xs:List U}{r:Int}{G:Gp}{Q:K1}(g:G a=some (.lst xs))(h0:0<=r)(h1:r < xs.length)(q:∀ u∈xs,Q u G):ixU (.loc a) (.int r) G Q:=by
 obtain ⟨u,hu,e⟩:=jgN h0 h1
 rw [ix_l g e]
 exact q u hu
theorem jaz (zs:List Int){a:Addr}{r:Int}{G:Gp}{Q:K1}(g:G a=some (.lst (zs.map .int)))(h0:0<=r)(h1:r < zs.length)(q:∀ z∈zs,Q (.int z) G):ixU (.loc a) (.int r) G Q:=
 jcU g h0 (by rw [List.length_map]; exact h1) fun u hu=>by
  obtain ⟨z,hz,rfl⟩:=List.mem_map.mp hu
  exact q z hz
theorem in_l {a:Addr}{ys:List U}{x:U}{G:Gp}{k:Bool->Prop}(g:G a=some (.lst ys))(h1:flat x=true)(h2:ys.all flat=true)(q:k (ys.any fun y=>eqF y x)):inU x (.loc a) G k:=by
 cases x <;> first | (cases h1; done) | (unfold inU; dsimp only; rw [g]; exact .inl ⟨h1,h2,q⟩)
theorem jd6 {a:Addr}{xs:List U}{G:Gp}{Q:K1}(g:G a=some (.lst xs)):lenU [.loc a] G Q=Q (.int xs.length) G:=by unfold lenU; dsimp only; rw [g]
theorem it_l {a:Addr}{xs:List U}{G:Gp}{k:List U->(Gp->Prop)->Prop}(g:G a=some (.lst xs)):itU (.loc a) G k=k xs fun G'=>lsG G' a=some xs:=by unfold itU; dsimp only; have e:lsG G a=some xs:=(by unfold lsG; rw [g]); rw [e]
theorem jgO {a:Addr}{xs:List U}{v:U}{G:Gp}{Q:K1}(g:G a=some (.lst xs)):jbt .append (.loc a) [v] G Q=(xs.length < sizeLine/\putO G a (.lst (xs++[v])) (Q .non)):=by unfold jbt jeQ; dsimp only; rw [g]
theorem je6 {a:Addr}{xs:List U}{G:Gp}(g:G a=some (.lst xs)):mtU .append (.loc a) G=some ("list", "list.append"):=by unfold mtU; dsimp only; rw [g]
theorem jfU {a:Addr}{kvs:List (Key×U)}{x:Str}{v:U}{G:Gp}{Q:Gp->Prop}(g:G a=some (.dK kvs)):setU (.loc a) (.str x) v G Q=(kvs.length < sizeLine/\putO G a (.dK (dPut kvs (.inr x) v)) Q):=by unfold setU; dsimp only; rw [g]; rfl
noncomputable def jhr:Nat->Ss->Ss
 | 0,s=>s
 | _ + 1,.nil=>.nil
 | n + 1,.cons _ r=>jhr n r
theorem dr_0 {s:Ss}:jhr 0 s=s:=rfl
theorem dr_s {n:Nat}{s:S}{r:Ss}:jhr (n + 1) (.cons s r)=jhr n r:=rfl
theorem pk_nil {ς:Sg}:jbN [] ς=[]:=rfl
theorem jiK {ς:Sg}{r:List (Option Nat)}:jbN (none::r) ς=none::jbN r ς:=rfl
theorem jiJ {ς:Sg}{j:Nat}{r:List (Option Nat)}:jbN (some j::r) ς=(ς[j]?).join::jbN r ς:=rfl
theorem jnz {x:Str}:kU (.str x)=some (.inr x):=rfl
theorem jnA {i:Int}:kU (.int i)=some (.inl i):=rfl
theorem sl_f {a:Addr}{xs:List U}{lo hi:Option Int}{G:Gp}{Q:K1}(g:G a=some (.fro xs)):slU (.loc a) lo hi G Q=newO G (.lst (cut xs lo hi)) Q:=by unfold slU; dsimp only; have e:lsG G a=some xs:=(by unfold lsG; rw [g]); rw [e]
theorem sl_l {a:Addr}{xs:List U}{lo hi:Option Int}{G:Gp}{Q:K1}(g:G a=some (.lst xs)):slU (.loc a) lo hi G Q=newO G (.lst (cut xs lo hi)) Q:=by unfold slU; dsimp only; have e:lsG G a=some xs:=(by unfold lsG; rw [g]); rw [e]
theorem jjz {α β:Type}(f:α->β)(xs:List α)(lo hi:Option Int):cut (xs.map f) lo hi=(cut xs lo hi).map f:=by unfold cut; rw [List.length_map,<- List.map_drop,<- List.map_take]
theorem jeg {α:Type}(xs:List α)(n:Nat):cut xs none (some (n:Int))=xs.take n:=by
 unfold cut
 rw [HT.sIx_none,HT.sIx_nat,List.drop_zero,Nat.sub_zero,List.take_eq_take_iff]
 omega
theorem jff {α:Type}(xs:List α)(n:Nat):cut xs (some (n:Int)) none=xs.drop n:=by
 unfold cut
 rw [HT.sIx_none,HT.sIx_nat]
 by_cases h:n<=xs.length
 ·rw [Nat.min_eq_left h,List.take_of_length_le (by simp)]
 ·rw [Nat.min_eq_right (by omega),List.drop_of_length_le (Nat.le_refl _),List.drop_of_length_le (by omega),List.take_nil]
theorem jho {G:Gp}{f c:Addr}{a l t:Int}{Q:K1}:ixU (.loc f) (.str "cells") (gup G f (.dK (fdU c a l t))) Q=Q (.loc c) (gup G f (.dK (fdU c a l t))):=ix_d jao jjk
theorem jmW {G:Gp}{f c:Addr}{a l t:Int}{Q:K1}:ixU (.loc f) (.str "at") (gup G f (.dK (fdU c a l t))) Q=Q (.int a) (gup G f (.dK (fdU c a l t))):=ix_d jao g_at
theorem jjm {G:Gp}{f c:Addr}{a l t:Int}{Q:K1}:ixU (.loc f) (.str "left") (gup G f (.dK (fdU c a l t))) Q=Q (.int l) (gup G f (.dK (fdU c a l t))):=ix_d jao jld
theorem jjl {G:Gp}{f c:Addr}{a l t:Int}{Q:K1}:ixU (.loc f) (.str "turn") (gup G f (.dK (fdU c a l t))) Q=Q (.int t) (gup G f (.dK (fdU c a l t))):=ix_d jao jfb
theorem jmX {G:Gp}{f c:Addr}{a l t x:Int}{Q:Gp->Prop}:setU (.loc f) (.str "at") (.int x) (gup G f (.dK (fdU c a l t))) Q=Q (gup G f (.dK (fdU c x l t))):=by rw [jfU jao,p_at,jcO,jeG]; exact propext ⟨fun h=>h.2,fun h=>⟨jeb,h⟩⟩
theorem jjp {G:Gp}{f c:Addr}{a l t x:Int}{Q:Gp->Prop}:setU (.loc f) (.str "left") (.int x) (gup G f (.dK (fdU c a l t))) Q=Q (gup G f (.dK (fdU c a x t))):=by rw [jfU jao,jhT,jcO,jeG]; exact propext ⟨fun h=>h.2,fun h=>⟨jeb,h⟩⟩
theorem jjo {G:Gp}{f c:Addr}{a l t x:Int}{Q:Gp->Prop}:setU (.loc f) (.str "turn") (.int x) (gup G f (.dK (fdU c a l t))) Q=Q (gup G f (.dK (fdU c a l x))):=by rw [jfU jao,jhS,jcO,jeG]; exact propext ⟨fun h=>h.2,fun h=>⟨jeb,h⟩⟩
noncomputable abbrev jbC:Nat:=0
noncomputable abbrev jbO:Nat:=1
noncomputable abbrev jbs:Nat:=2
noncomputable abbrev jdg:Nat:=3
noncomputable abbrev jd4:Nat:=4
noncomputable abbrev jd3:Nat:=5
noncomputable abbrev jbh:Nat:=6
noncomputable abbrev jct:Nat:=7
noncomputable abbrev jd2:Nat:=8
noncomputable abbrev jaa:Nat:=9
noncomputable abbrev jcS:Nat:=10
noncomputable abbrev ja8:Nat:=11
noncomputable abbrev jcs:Nat:=12
noncomputable abbrev jax:Nat:=13
noncomputable abbrev jbJ:Nat:=14
noncomputable abbrev jbZ:Nat:=15
noncomputable abbrev jbg:Nat:=16
noncomputable abbrev jcR:Nat:=17
noncomputable abbrev jdf:Nat:=18
noncomputable abbrev jcg:Nat:=19
noncomputable abbrev jcf:Nat:=20
noncomputable abbrev jba:Nat:=21
noncomputable abbrev jbq:Nat:=22
noncomputable abbrev jbB:Nat:=23
noncomputable abbrev jbr:Nat:=24
noncomputable abbrev jfv:Nat:=25
noncomputable def jdq:Fun:=⟨"is_whole",["thing"],["thing"],
  (.cons (.ret (.bop true (.blt .isi (.cons (.v 0) (.cons (.ty "int") .nil))) (.cons (.not (.blt .isi (.cons (.v 0) (.cons (.ty "bool") .nil)))) .nil)))
  .nil)⟩
noncomputable def jc0:Fun:=⟨"is_within",["thing", "least", "most"],["thing", "least", "most"],
  (.cons (.ret (.bop true (.call jbC (.cons (.v 0) .nil)) (.cons (.cmp2 .LtE .LtE (.v 1) (.v 0) (.v 2)) .nil)))
  .nil)⟩
noncomputable def jcw:Fun:=⟨"is_work_of",["stays", "thing"],["stays", "thing"],
  (.cons (.ret (.bop true (.call jbC (.cons (.v 1) .nil)) (.cons (.cmp .In (.v 1) (.v 0)) .nil)))
  .nil)⟩
noncomputable def jcp:Ss:=
  (.cons (.asg (.t (.cons (.n 6) (.cons (.n 7) .nil))) (.v 2))
  (.cons (.ret (.bop true (.call jbO (.cons (.v 6) (.cons (.int 0) (.cons (.bin .Sub (.blt .len (.cons (.ix (.v 0) (.int 1)) .nil)) (.int 1)) .nil)))) (.cons (.call jbC (.cons (.v 7) .nil)) (.cons (.cmp .In (.v 7) (.tup (.cons (.int 1) (.cons (.neg (.int 1)) .nil)))) .nil))))
  .nil))
noncomputable def jaQ:Ss:=
  (.cons (.ite (.cmp .NotEq (.blt .len (.cons (.v 2) .nil)) (.int 2)) (.cons (.ret (.bl false))
  .nil) .nil)
  jcp)
noncomputable def jcq:Ss:=
  (.cons (.ite (.cmp .Eq (.blt .len (.cons (.v 2) .nil)) (.int 3)) (.cons (.asg (.t (.cons (.n 3) (.cons (.n 4) (.cons (.n 5) .nil)))) (.v 2))
  (.cons (.ret (.bop true (.cmp .Eq (.v 3) (.str "home")) (.cons (.call jbs (.cons (.v 1) (.cons (.v 4) .nil))) (.cons (.call jbs (.cons (.v 1) (.cons (.v 5) .nil))) .nil))))
  .nil)) .nil)
  jaQ)
noncomputable def jdr:Fun:=⟨"is_entry",["plan", "stays", "thing"],["plan", "stays", "thing", "word", "start", "end", "s", "way"],
  (.cons (.ite (.not (.blt .isi (.cons (.v 2) (.cons (.ty "tuple") .nil)))) (.cons (.ret (.bl false))
  .nil) .nil)
  jcq)⟩
noncomputable def jc1:Fun:=⟨"ends_of",["plan", "entry"],["plan", "entry", "s", "way", "word", "one", "other", "low", "high"],
  (.cons (.ite (.cmp .Eq (.blt .len (.cons (.v 1) .nil)) (.int 3)) (.cons (.ret (.tup (.cons (.ix (.v 1) (.int 1)) (.cons (.ix (.v 1) (.int 2)) .nil))))
  .nil) .nil)
  (.cons (.asg (.t (.cons (.n 2) (.cons (.n 3) .nil))) (.v 1))
  (.cons (.asg (.t (.cons (.n 4) (.cons (.n 5) (.cons (.n 6) (.cons (.n 7) (.cons (.n 8) .nil)))))) (.ix (.ix (.v 0) (.int 1)) (.v 2)))
  (.cons (.ret (.ife (.cmp .Eq (.v 3) (.int 1)) (.tup (.cons (.v 5) (.cons (.v 6) .nil))) (.tup (.cons (.v 6) (.cons (.v 5) .nil)))))
  .nil))))⟩
noncomputable def jcK:Ss:=
  (.cons (.ret (.blt .all (.cons (.lc [none,some 3] (.n 0) (.r1 (.blt .len (.cons (.v 3) .nil))) .nil (.cmp .Eq (.ix (.ix (.v 1) (.bin .Sub (.v 0) (.int 1))) (.int 1)) (.ix (.ix (.v 1) (.v 0)) (.int 0)))) .nil)))
  .nil)
noncomputable def jcL:Ss:=
  (.cons (.asg (.n 3) (.lc [none,some 0] (.n 0) (.e (.v 2)) .nil (.call jd4 (.cons (.v 1) (.cons (.v 0) .nil)))))
  jcK)
noncomputable def jcM:Ss:=
  (.cons (.ite (.not (.blt .all (.cons (.lc [none,some 0,some 1] (.n 0) (.e (.v 2)) .nil (.call jdg (.cons (.v 1) (.cons (.v 2) (.cons (.v 0) .nil))))) .nil))) (.cons (.ret (.bl false))
  .nil) .nil)
  jcL)
noncomputable def jef:Fun:=⟨"is_ring",["plan", "stays", "thing"],["plan", "stays", "thing", "ends"],
  (.cons (.ite (.not (.bop true (.blt .isi (.cons (.v 2) (.cons (.ty "tuple") .nil))) (.cons (.cmp2 .LtE .LtE (.int 1) (.blt .len (.cons (.v 2) .nil)) (.g 0)) .nil))) (.cons (.ret (.bl false))
  .nil) .nil)
  jcM)⟩
noncomputable def jbj:Fun:=⟨"is_priced_ring",["plan", "thing"],["plan", "thing", "price", "ring"],
  (.cons (.ite (.not (.bop true (.blt .isi (.cons (.v 1) (.cons (.ty "tuple") .nil))) (.cons (.cmp .Eq (.blt .len (.cons (.v 1) .nil)) (.int 2)) .nil))) (.cons (.ret (.bl false))
  .nil) .nil)
  (.cons (.asg (.t (.cons (.n 2) (.cons (.n 3) .nil))) (.v 1))
  (.cons (.ret (.bop true (.call jbO (.cons (.v 2) (.cons (.int 1) (.cons (.g 1) .nil)))) (.cons (.call jd3 (.cons (.v 0) (.cons (.tup .nil) (.cons (.v 3) .nil)))) .nil)))
  .nil)))⟩
noncomputable def jcx:Fun:=⟨"are_prices",["plan", "thing"],["plan", "thing"],
  (.cons (.ite (.not (.bop true (.blt .isi (.cons (.v 1) (.cons (.ty "tuple") .nil))) (.cons (.cmp .LtE (.blt .len (.cons (.v 1) .nil)) (.g 2)) .nil))) (.cons (.ret (.bl false))
  .nil) .nil)
  (.cons (.ret (.blt .all (.cons (.lc [none,some 0] (.n 0) (.e (.v 1)) .nil (.call jbh (.cons (.v 1) (.cons (.v 0) .nil)))) .nil)))
  .nil))⟩
noncomputable def jee:Fun:=⟨"_law_fed",["_law_script"],["_law_script"],
  (.cons (.ret (.dic (.cons (.str "cells") (.cons (.sl (.v 0) .no (.so (.int 63))) (.cons (.str "at") (.cons (.int 0) (.cons (.str "left") (.cons (.int 0) (.cons (.str "turn") (.cons (.int 0) .nil))))))))))
  .nil)⟩
noncomputable def jdo:Fun:=⟨"_law_draw",["_law_feed", "_law_many"],["_law_feed", "_law_many", "_law_digit", "_law_cells", "_law_at", "_law_cell", "_law_mixed"],
  (.cons (.setS (.v 0) (.str "turn") (.bin .Add (.ix (.v 0) (.str "turn")) (.int 1)))
  (.cons (.ite (.cmp .Gt (.ix (.v 0) (.str "left")) (.int 0)) (.cons (.asg (.n 2) (.bin .Mod (.ix (.v 0) (.str "left")) (.v 1)))
  (.cons (.setS (.v 0) (.str "left") (.bin .FloorDiv (.ix (.v 0) (.str "left")) (.v 1)))
  (.cons (.ret (.v 2))
  .nil))) .nil)
  (.cons (.asg (.n 3) (.ix (.v 0) (.str "cells")))
  (.cons (.asg (.n 4) (.ix (.v 0) (.str "at")))
  (.cons (.setS (.v 0) (.str "at") (.bin .Add (.v 4) (.int 1)))
  (.cons (.asg (.n 5) (.ife (.cmp .NotEq (.v 3) (.lst .nil)) (.ix (.v 3) (.bin .Mod (.v 4) (.blt .len (.cons (.v 3) .nil)))) (.int 0)))
  (.cons (.ite (.bop true (.cmp .GtE (.v 5) (.bin .Pow (.int 10) (.int 18))) (.cons (.cmp .Lt (.v 4) (.blt .len (.cons (.v 3) .nil))) .nil)) (.cons (.setS (.v 0) (.str "left") (.bin .FloorDiv (.v 5) (.v 1)))
  (.cons (.ret (.bin .Mod (.v 5) (.v 1)))
  .nil)) .nil)
  (.cons (.asg (.n 6) (.bin .Mod (.bin .Add (.bin .Add (.bin .Mult (.bin .Mod (.v 5) (.int 1000003)) (.int 48271)) (.bin .Mult (.int 7919) (.ix (.v 0) (.str "turn")))) (.int 104729)) (.int 2147483647)))
  (.cons (.asg (.n 6) (.bin .Mod (.bin .Add (.bin .Add (.bin .Mult (.bin .FloorDiv (.v 6) (.int 64)) (.int 69621)) (.bin .Mult (.bin .Mult (.int 31) (.ix (.v 0) (.str "turn"))) (.ix (.v 0) (.str "turn")))) (.int 17)) (.int 2147483587)))
  (.cons (.ret (.bin .Mod (.bin .FloorDiv (.v 6) (.int 64)) (.v 1)))
  .nil))))))))))⟩
noncomputable def jed:Fun:=⟨"_law_fit",["_law_feed", "_law_cycle", "_law_beats", "_law_one", "_law_other"],["_law_feed", "_law_cycle", "_law_beats", "_law_one", "_law_other", "_law_gap", "_law_far", "_law_low"],
  (.cons (.asg (.n 5) (.bin .Mod (.bin .Sub (.ix (.v 2) (.v 4)) (.ix (.v 2) (.v 3))) (.v 1)))
  (.cons (.ite (.cmp .Eq (.call jaa (.cons (.v 0) (.cons (.int 4) .nil))) (.int 0)) (.cons (.ret (.tup (.cons (.str "apart") (.cons (.v 3) (.cons (.v 4) (.cons (.call jaa (.cons (.v 0) (.cons (.bin .Add (.v 5) (.int 1)) .nil))) (.cons (.call jaa (.cons (.v 0) (.cons (.bin .Add (.bin .Sub (.v 1) (.v 5)) (.int 1)) .nil))) .nil)))))))
  .nil) .nil)
  (.cons (.asg (.n 6) (.bin .Add (.v 5) (.bin .Mult (.v 1) (.ix (.lst (.cons (.int 0) (.cons (.int 0) (.cons (.int 0) (.cons (.int 1) (.cons (.int 2) .nil)))))) (.call jaa (.cons (.v 0) (.cons (.int 5) .nil)))))))
  (.cons (.asg (.n 7) (.bin .Sub (.v 6) (.blt .min (.cons (.v 6) (.cons (.ix (.lst (.cons (.int 0) (.cons (.int 1) (.cons (.int 2) (.cons (.call jaa (.cons (.v 0) (.cons (.v 1) .nil))) .nil))))) (.call jaa (.cons (.v 0) (.cons (.int 4) .nil)))) .nil)))))
  (.cons (.ret (.tup (.cons (.str "span") (.cons (.v 3) (.cons (.v 4) (.cons (.v 7) (.cons (.bin .Add (.v 6) (.ix (.lst (.cons (.int 0) (.cons (.int 0) (.cons (.int 1) (.cons (.call jaa (.cons (.v 0) (.cons (.v 1) .nil))) .nil))))) (.call jaa (.cons (.v 0) (.cons (.int 4) .nil))))) .nil)))))))
  .nil)))))⟩
noncomputable def jbL:Fun:=⟨"_law_any_span",["_law_feed", "_law_cycle", "_law_one", "_law_other"],["_law_feed", "_law_cycle", "_law_one", "_law_other", "_law_low"],
  (.cons (.asg (.n 4) (.ix (.lst (.cons (.int 0) (.cons (.call jaa (.cons (.v 0) (.cons (.v 1) .nil))) (.cons (.call jaa (.cons (.v 0) (.cons (.bin .Mult (.int 3) (.v 1)) .nil))) (.cons (.v 1) .nil))))) (.call jaa (.cons (.v 0) (.cons (.int 4) .nil)))))
  (.cons (.ite (.cmp .Eq (.call jaa (.cons (.v 0) (.cons (.int 3) .nil))) (.int 0)) (.cons (.ret (.tup (.cons (.str "apart") (.cons (.v 2) (.cons (.v 3) (.cons (.call jaa (.cons (.v 0) (.cons (.bin .Add (.v 1) (.int 1)) .nil))) (.cons (.call jaa (.cons (.v 0) (.cons (.bin .Add (.v 1) (.int 2)) .nil))) .nil)))))))
  .nil) .nil)
  (.cons (.ret (.tup (.cons (.str "span") (.cons (.v 2) (.cons (.v 3) (.cons (.v 4) (.cons (.bin .Add (.v 4) (.ix (.lst (.cons (.int 0) (.cons (.int 0) (.cons (.int 1) (.cons (.call jaa (.cons (.v 0) (.cons (.v 1) .nil))) (.cons (.bin .Sub (.v 1) (.int 1)) (.cons (.bin .Mult (.int 2) (.v 1)) .nil))))))) (.call jaa (.cons (.v 0) (.cons (.int 6) .nil))))) .nil)))))))
  .nil)))⟩
noncomputable def jaN:Ss:=
  (.cons (.asg (.n 6) (.rev (.v 6) (.ix (.lst (.cons (.int 1) (.cons (.neg (.int 1)) .nil))) (.blt .int (.cons (.cmp .Eq (.call jaa (.cons (.v 0) (.cons (.int 3) .nil))) (.int 0)) .nil)))))
  (.cons (.ret (.tup (.cons (.sl (.tup (.cons (.str "a") (.cons (.str "ab") (.cons (.str "works") (.cons (.str "span") (.cons (.str "apart") (.cons (.str "ring") (.cons (.str "b") (.cons (.str "stay") .nil))))))))) .no (.so (.v 1))) (.cons (.mkT (.v 6)) .nil))))
  .nil))
noncomputable def ja6:Ss:=
  (.cons (.asg (.n 6) (.bin .Add (.v 6) (.bin .Mult (.sl (.v 6) .no (.so (.int 1))) (.blt .int (.cons (.bop true (.cmp2 .Lt .Lt (.int 0) (.blt .len (.cons (.v 6) .nil)) (.v 3)) (.cons (.cmp .Eq (.call jaa (.cons (.v 0) (.cons (.int 4) .nil))) (.int 0)) .nil)) .nil)))))
  jaN)
noncomputable def jaw:Ss:=
  (.cons (.asg (.n 11) (.bop false (.cmp .Eq (.v 5) (.int 5)) (.cons (.bop true (.cmp .Gt (.v 5) (.int 2)) (.cons (.cmp .Eq (.call jaa (.cons (.v 0) (.cons (.int 5) .nil))) (.int 0)) .nil)) .nil)))
  (.cons (.expr (.meth .append (.v 6) (.cons (.ife (.v 11) (.call ja8 (.cons (.v 0) (.cons (.v 2) (.cons (.v 9) (.cons (.v 10) .nil))))) (.call jcS (.cons (.v 0) (.cons (.v 2) (.cons (.v 4) (.cons (.v 9) (.cons (.v 10) .nil))))))) .nil)))
  .nil))
noncomputable def jaJ:Ss:=
  (.cons (.asg (.t (.cons (.n 9) (.cons (.n 10) .nil))) (.ix (.lst (.cons (.tup (.cons (.v 9) (.cons (.v 10) .nil))) (.cons (.tup (.cons (.v 10) (.cons (.v 9) .nil))) .nil))) (.call jaa (.cons (.v 0) (.cons (.int 2) .nil)))))
  jaw)
noncomputable def jaK:Ss:=
  (.cons (.ite (.cmp .Lt (.bin .Add (.v 8) (.int 1)) (.v 1)) (.cons (.par [9,10] (.cons (.bin .Add (.v 8) (.int 1)) (.cons (.call jaa (.cons (.v 0) (.cons (.bin .Add (.v 8) (.int 1)) .nil))) .nil)))
  .nil) .nil)
  jaJ)
noncomputable def jaL:Ss:=
  (.cons (.par [9,10] (.cons (.call jaa (.cons (.v 0) (.cons (.v 1) .nil))) (.cons (.call jaa (.cons (.v 0) (.cons (.v 1) .nil))) .nil)))
  (.cons (.ite (.bop true (.cmp .Eq (.v 9) (.v 10)) (.cons (.cmp .Gt (.call jaa (.cons (.v 0) (.cons (.int 4) .nil))) (.int 0)) .nil)) (.cons (.asg (.n 10) (.bin .Mod (.bin .Add (.v 9) (.int 1)) (.v 1)))
  .nil) .nil)
  jaK))
noncomputable def jbG:Ss:=
  (.cons (.fr (.n 8) (.r1 (.blt .min (.cons (.v 3) (.cons (.v 7) .nil)))) jaL)
  ja6)
noncomputable def jbH:Ss:=
  (.cons (.asg (.n 3) (.ix (.lst (.cons (.v 3) (.cons (.int 24) .nil))) (.blt .int (.cons (.cmp .Eq (.call jaa (.cons (.v 0) (.cons (.int 16) .nil))) (.int 0)) .nil))))
  (.cons (.asg (.n 5) (.call jaa (.cons (.v 0) (.cons (.int 6) .nil))))
  (.cons (.asg (.n 6) (.lst .nil))
  (.cons (.asg (.n 7) (.ix (.lst (.cons (.bin .Sub (.v 1) (.int 1)) (.cons (.v 1) (.cons (.bin .Add (.v 1) (.int 1)) (.cons (.call jaa (.cons (.v 0) (.cons (.bin .Add (.v 3) (.int 1)) .nil))) (.cons (.v 3) (.cons (.v 1) .nil))))))) (.call jaa (.cons (.v 0) (.cons (.int 6) .nil)))))
  jbG))))
noncomputable def jcv:Fun:=⟨"_law_a_plan",["_law_feed", "_law_works", "_law_cycle", "_law_most"],["_law_feed", "_law_works", "_law_cycle", "_law_most", "_law_beats", "_law_way", "_law_spans", "_law_many", "_law_k", "_law_one", "_law_other", "_law_odd_here"],
  (.cons (.asgC 4 (.lc [none,some 0,some 2] (.n 0) (.r1 (.v 1)) .nil (.call jaa (.cons (.v 1) (.cons (.v 2) .nil)))))
  jbH)⟩
noncomputable def jb5:Fun:=⟨"_law_is_from",["_law_least", "_law_most", "_law_thing"],["_law_least", "_law_most", "_law_thing"],
  (.cons (.ret (.bop true (.blt .isi (.cons (.v 2) (.cons (.ty "int") .nil))) (.cons (.not (.blt .isi (.cons (.v 2) (.cons (.ty "bool") .nil)))) (.cons (.cmp2 .LtE .LtE (.v 0) (.v 2) (.v 1)) .nil))))
  .nil)⟩
noncomputable def jaS:Ss:=
  (.cons (.asg (.t (.cons (.n 4) (.cons (.n 5) .nil))) (.sl (.ix (.ix (.v 0) (.int 1)) (.ix (.v 2) (.int 0))) (.so (.int 1)) (.so (.int 3))))
  (.cons (.ret (.ix (.lst (.cons (.tup (.cons (.v 4) (.cons (.v 5) .nil))) (.cons (.tup (.cons (.v 5) (.cons (.v 4) .nil))) .nil))) (.blt .int (.cons (.cmp .Eq (.ix (.v 2) (.int 1)) (.neg (.int 1))) .nil))))
  .nil))
noncomputable def jbe:Ss:=
  (.cons (.ite (.bop false (.not (.call jax (.cons (.int 0) (.cons (.bin .Sub (.blt .len (.cons (.ix (.v 0) (.int 1)) .nil)) (.int 1)) (.cons (.ix (.v 2) (.int 0)) .nil))))) (.cons (.not (.call jax (.cons (.neg (.int 1)) (.cons (.int 1) (.cons (.ix (.v 2) (.int 1)) .nil))))) (.cons (.cmp .Eq (.ix (.v 2) (.int 1)) (.int 0)) .nil))) (.cons (.ret .non)
  .nil) .nil)
  jaS)
noncomputable def jaT:Ss:=
  (.cons (.ite (.cmp .Eq (.blt .len (.cons (.v 2) .nil)) (.int 3)) (.cons (.asgC 3 (.lc [none,some 1] (.n 0) (.e (.sl (.v 2) (.so (.int 1)) .no)) .nil (.bop true (.call jax (.cons (.int 0) (.cons (.int 7) (.cons (.v 0) .nil)))) (.cons (.cmp .In (.v 0) (.v 1)) .nil))))
  (.cons (.ret (.ife (.bop true (.blt .isi (.cons (.ix (.v 2) (.int 0)) (.cons (.ty "str") .nil))) (.cons (.cmp .Eq (.ix (.v 2) (.int 0)) (.str "home")) (.cons (.cmp .NotIn (.bl false) (.v 3)) .nil))) (.sl (.v 2) (.so (.int 1)) .no) .non))
  .nil)) .nil)
  jbe)
noncomputable def jbK:Fun:=⟨"_law_two_ends",["_law_plan", "_law_stays", "_law_entry"],["_law_plan", "_law_stays", "_law_entry", "_law_fine", "_law_one", "_law_other"],
  (.cons (.ite (.bop false (.not (.blt .isi (.cons (.v 2) (.cons (.ty "tuple") .nil)))) (.cons (.cmp .NotIn (.blt .len (.cons (.v 2) .nil)) (.tup (.cons (.int 2) (.cons (.int 3) .nil)))) .nil)) (.cons (.ret .non)
  .nil) .nil)
  jaT)⟩
noncomputable def jbl:Ss:=
  (.cons (.ret (.cmp .Eq (.lc [none,some 3] (.n 0) (.r1 (.blt .len (.cons (.v 3) .nil))) (.cons (.cmp .NotEq (.ix (.ix (.v 1) (.bin .Sub (.v 0) (.int 1))) (.int 1)) (.ix (.ix (.v 1) (.v 0)) (.int 0))) .nil) (.v 0)) (.lst .nil)))
  .nil)
noncomputable def jbm:Ss:=
  (.cons (.ite (.cmp .In .non (.v 3)) (.cons (.ret (.bl false))
  .nil) .nil)
  jbl)
noncomputable def jbn:Ss:=
  (.cons (.asg (.n 3) (.lc [none,some 0,some 1] (.n 0) (.e (.v 2)) .nil (.call jbJ (.cons (.v 1) (.cons (.v 2) (.cons (.v 0) .nil))))))
  jbm)
noncomputable def jb4:Fun:=⟨"_law_is_ring",["_law_plan", "_law_stays", "_law_thing"],["_law_plan", "_law_stays", "_law_thing", "_law_ends"],
  (.cons (.ite (.bop false (.not (.blt .isi (.cons (.v 2) (.cons (.ty "tuple") .nil)))) (.cons (.not (.cmp2 .LtE .LtE (.int 1) (.blt .len (.cons (.v 2) .nil)) (.int 60))) .nil)) (.cons (.ret (.bl false))
  .nil) .nil)
  jbn)⟩
noncomputable def jaP:Ss:=
  (.cons (.ite (.bop false (.not (.blt .isi (.cons (.v 2) (.cons (.ty "tuple") .nil)))) (.cons (.cmp .NotEq (.blt .len (.cons (.v 2) .nil)) (.int 2)) (.cons (.not (.call jax (.cons (.int 1) (.cons (.int 999) (.cons (.ix (.v 2) (.int 0)) .nil))))) .nil))) (.cons (.ret (.bl false))
  .nil) .nil)
  (.cons (.ite (.not (.call jbZ (.cons (.v 0) (.cons (.tup .nil) (.cons (.ix (.v 2) (.int 1)) .nil))))) (.cons (.ret (.bl false))
  .nil) .nil)
  .nil))
noncomputable def ja4:Ss:=
  (.cons (.fr (.n 2) (.e (.v 1)) jaP)
  (.cons (.ret (.bl true))
  .nil))
noncomputable def jbi:Fun:=⟨"_law_are_prices",["_law_plan", "_law_thing"],["_law_plan", "_law_thing", "_law_one"],
  (.cons (.ite (.bop false (.not (.blt .isi (.cons (.v 1) (.cons (.ty "tuple") .nil)))) (.cons (.cmp .Gt (.blt .len (.cons (.v 1) .nil)) (.int 24)) .nil)) (.cons (.ret (.bl false))
  .nil) .nil)
  ja4)⟩
noncomputable def jbT:Ss:=
  (.cons (.fr (.n 4) (.r1 (.blt .len (.cons (.ix (.v 0) (.int 1)) .nil))) (.cons (.asg (.t (.cons (.n 3) (.cons (.n 5) .nil))) (.sl (.ix (.ix (.v 0) (.int 1)) (.v 4)) (.so (.int 1)) (.so (.int 3))))
  (.cons (.expr (.meth .extend (.v 2) (.cons (.lst (.cons (.tup (.cons (.tup (.cons (.v 4) (.cons (.int 1) .nil))) (.cons (.v 3) (.cons (.v 5) .nil)))) (.cons (.tup (.cons (.tup (.cons (.v 4) (.cons (.neg (.int 1)) .nil))) (.cons (.v 5) (.cons (.v 3) .nil)))) .nil))) .nil)))
  .nil)))
  (.cons (.ret (.v 2))
  .nil))
noncomputable def jbU:Ss:=
  (.cons (.fr (.n 3) (.e (.v 1)) (.cons (.expr (.meth .extend (.v 2) (.cons (.lc [none,some 3] (.n 0) (.e (.v 1)) (.cons (.cmp .NotEq (.v 0) (.v 1)) .nil) (.tup (.cons (.tup (.cons (.str "home") (.cons (.v 1) (.cons (.v 0) .nil)))) (.cons (.v 1) (.cons (.v 0) .nil))))) .nil)))
  .nil))
  jbT)
noncomputable def jcZ:Fun:=⟨"_law_steps",["_law_plan", "_law_stays"],["_law_plan", "_law_stays", "_law_found", "_law_one", "_law_s", "_law_other"],
  (.cons (.asg (.n 2) (.lst .nil))
  jbU)⟩
noncomputable def jaq:Ss:=
  (.cons (.fr (.t (.cons (.n 6) (.cons (.n 7) (.cons (.n 8) .nil)))) (.e (.v 2)) (.cons (.ite (.bop true (.cmp .In (.v 7) (.v 3)) (.cons (.cmp .Eq (.ix (.ix (.v 3) (.v 7)) (.int 0)) (.v 4)) (.cons (.cmp .NotIn (.v 8) (.v 3)) .nil))) (.cons (.setS (.v 3) (.v 8) (.tup (.cons (.v 4) (.cons (.bin .Add (.ix (.ix (.v 3) (.v 7)) (.int 1)) (.tup (.cons (.v 6) .nil))) .nil))))
  .nil) .nil)
  .nil))
  .nil)
noncomputable def jaO:Ss:=
  (.cons (.asg (.n 5) (.blt .len (.cons (.v 3) .nil)))
  jaq)
noncomputable def jaB:Ss:=
  (.cons (.wh (.cmp .NotEq (.v 5) (.blt .len (.cons (.v 3) .nil))) jaO)
  .nil)
noncomputable def ja3:Ss:=
  (.cons (.setS (.v 3) (.v 4) (.tup (.cons (.v 4) (.cons (.tup .nil) .nil))))
  (.cons (.asg (.n 5) (.neg (.int 1)))
  jaB))
noncomputable def jbk:Ss:=
  (.cons (.ite (.cmp .NotIn (.v 4) (.v 3)) ja3 .nil)
  .nil)
noncomputable def jck:Ss:=
  (.cons (.fr (.n 4) (.e (.bin .Add (.mkL (.sl (.v 1) .no (.so (.int 1)))) (.rngL (.blt .len (.cons (.ix (.v 0) (.int 0)) .nil))))) jbk)
  (.cons (.ret (.v 3))
  .nil))
noncomputable def jdm:Fun:=⟨"_law_ways",["_law_plan", "_law_stays", "_law_entries"],["_law_plan", "_law_stays", "_law_entries", "_law_paths", "_law_root", "_law_many", "_law_entry", "_law_one", "_law_other"],
  (.cons (.asg (.n 3) (.dic .nil))
  jck)⟩
noncomputable def jdp:Fun:=⟨"_law_back",["_law_path"],["_law_path", "_law_found", "_law_entry"],
  (.cons (.asg (.n 1) (.lst .nil))
  (.cons (.fr (.n 2) (.e (.rev (.v 0) (.neg (.int 1)))) (.cons (.expr (.meth .append (.v 1) (.cons (.ife (.cmp .Eq (.blt .len (.cons (.v 2) .nil)) (.int 3)) (.tup (.cons (.str "home") (.cons (.ix (.v 2) (.int 2)) (.cons (.ix (.v 2) (.int 1)) .nil)))) (.tup (.cons (.ix (.v 2) (.int 0)) (.cons (.bin .Sub (.int 0) (.ix (.v 2) (.int 1))) .nil)))) .nil)))
  .nil))
  (.cons (.ret (.mkT (.v 1)))
  .nil)))⟩
noncomputable def jcl:Ss:=
  (.cons (.ret (.bin .Add (.bin .Add (.v 7) (.call jcg (.cons (.ix (.ix (.v 3) (.v 6)) (.int 1)) .nil))) (.ix (.ix (.v 3) (.v 5)) (.int 1))))
  .nil)
noncomputable def jaX:Ss:=
  (.cons (.asgC 9 (.lc [none,some 6] (.n 0) (.e (.v 2)) (.cons (.cmp .Eq (.ix (.v 0) (.int 1)) (.v 1)) .nil) (.v 0)))
  (.cons (.asg (.t (.cons (.n 4) (.cons (.n 10) (.cons (.n 6) .nil)))) (.ix (.v 9) (.call jaa (.cons (.v 0) (.cons (.blt .len (.cons (.v 9) .nil)) .nil)))))
  (.cons (.asg (.n 7) (.bin .Add (.v 7) (.tup (.cons (.v 4) .nil))))
  .nil)))
noncomputable def jcm:Ss:=
  (.cons (.fr (.n 8) (.r1 (.ix (.lst (.cons (.int 0) (.cons (.int 1) (.cons (.int 2) (.cons (.int 5) .nil))))) (.call jaa (.cons (.v 0) (.cons (.int 4) .nil))))) jaX)
  jcl)
noncomputable def jcn:Ss:=
  (.cons (.asg (.t (.cons (.n 4) (.cons (.n 5) (.cons (.n 6) .nil)))) (.ix (.v 2) (.call jaa (.cons (.v 0) (.cons (.blt .len (.cons (.v 2) .nil)) .nil)))))
  (.cons (.asg (.n 7) (.tup (.cons (.v 4) .nil)))
  jcm))
noncomputable def jdn:Fun:=⟨"_law_walk",["_law_feed", "_law_plan"],["_law_feed", "_law_plan", "_law_entries", "_law_paths", "_law_entry", "_law_first", "_law_last", "_law_ring", "_law_k", "_law_some", "_law_start"],
  (.cons (.asg (.n 2) (.call jcR (.cons (.v 1) (.cons (.tup .nil) .nil))))
  (.cons (.asg (.n 3) (.call jdf (.cons (.v 1) (.cons (.tup .nil) (.cons (.v 2) .nil)))))
  jcn))⟩
noncomputable def jaG:Ss:=
  (.cons (.asg (.n 4) (.ix (.lst (.cons (.int 1) (.cons (.bin .Add (.int 1) (.call jaa (.cons (.v 0) (.cons (.int 9) .nil)))) (.cons (.bin .Add (.int 1) (.call jaa (.cons (.v 0) (.cons (.int 99) .nil)))) (.cons (.int 999) .nil))))) (.call jaa (.cons (.v 0) (.cons (.int 4) .nil)))))
  (.cons (.expr (.meth .append (.v 2) (.cons (.tup (.cons (.v 4) (.cons (.call jcf (.cons (.v 0) (.cons (.v 1) .nil))) .nil))) .nil)))
  .nil))
noncomputable def jaY:Ss:=
  (.cons (.fr (.n 3) (.r1 (.bin .Mult (.ix (.lst (.cons (.int 0) (.cons (.int 1) (.cons (.int 2) (.cons (.int 3) (.cons (.int 5) (.cons (.int 24) .nil))))))) (.call jaa (.cons (.v 0) (.cons (.int 6) .nil)))) (.blt .int (.cons (.cmp .NotEq (.ix (.v 1) (.int 1)) (.tup .nil)) .nil)))) jaG)
  (.cons (.ret (.mkT (.v 2)))
  .nil))
noncomputable def jbb:Fun:=⟨"_law_some_prices",["_law_feed", "_law_plan"],["_law_feed", "_law_plan", "_law_found", "_law_k", "_law_price"],
  (.cons (.asg (.n 2) (.lst .nil))
  jaY)⟩
noncomputable def jaZ:Ss:=
  (.cons (.ret (.ix (.v 2) (.call jaa (.cons (.v 0) (.cons (.blt .len (.cons (.v 2) .nil)) .nil)))))
  .nil)
noncomputable def jbM:Ss:=
  (.cons (.ite (.blt .isi (.cons (.v 1) (.cons (.ty "tuple") .nil))) (.cons (.asg (.n 2) (.bin .Add (.v 2) (.bin .Mult (.lst (.cons (.mkL (.v 1)) (.cons (.sl (.v 1) .no (.so (.neg (.int 1)))) (.cons (.sl (.v 1) (.so (.int 1)) .no) (.cons (.bin .Add (.v 1) (.sl (.v 1) .no (.so (.int 1)))) (.cons (.rev (.v 1) (.neg (.int 1))) (.cons (.tup (.cons (.v 1) .nil)) .nil))))))) (.int 3))))
  .nil) (.cons (.ite (.blt .isi (.cons (.v 1) (.cons (.ty "int") .nil))) (.cons (.asg (.n 2) (.bin .Add (.v 2) (.bin .Mult (.lst (.cons (.bin .Add (.v 1) (.int 1)) (.cons (.bin .Sub (.v 1) (.int 1)) (.cons (.cmp .Eq (.v 1) (.int 1)) (.cons (.bin .Sub (.int 0) (.v 1)) (.cons (.blt .str (.cons (.v 1) .nil)) (.cons (.lst (.cons (.v 1) .nil)) .nil))))))) (.int 3))))
  .nil) (.cons (.ite (.blt .isi (.cons (.v 1) (.cons (.ty "str") .nil))) (.cons (.par [3,4] (.cons (.call jaa (.cons (.v 0) (.cons (.bin .Add (.blt .len (.cons (.v 1) .nil)) (.int 1)) .nil))) (.cons (.ix (.str "abcdefghijklmnopqrstuvwxyz") (.call jaa (.cons (.v 0) (.cons (.int 26) .nil)))) .nil)))
  (.cons (.asg (.n 2) (.bin .Add (.v 2) (.bin .Mult (.lst (.cons (.bin .Add (.bin .Add (.sl (.v 1) .no (.so (.v 3))) (.v 4)) (.sl (.v 1) (.so (.v 3)) .no)) (.cons (.bin .Add (.bin .Add (.sl (.v 1) .no (.so (.v 3))) (.v 4)) (.sl (.v 1) (.so (.bin .Add (.v 3) (.int 1))) .no)) (.cons (.sl (.v 1) .no (.so (.neg (.int 1)))) .nil)))) (.int 6))))
  .nil)) .nil)
  .nil))
  .nil))
  jaZ)
noncomputable def jec:Fun:=⟨"_law_odd",["_law_feed", "_law_thing"],["_law_feed", "_law_thing", "_law_some", "_law_at", "_law_letter"],
  (.cons (.asg (.n 2) (.lst (.cons .non (.cons (.bl true) (.cons (.bl false) (.cons (.neg (.int 1)) (.cons (.int 0) (.cons (.int 1) (.cons (.bin .Pow (.int 10) (.int 39)) (.cons (.str "") (.cons (.str "ring") (.cons (.str "split") (.cons (.str "prices") (.cons (.tup .nil) (.cons (.lst .nil) (.cons (.dic .nil) (.cons (.tup (.cons (.int 0) .nil)) (.cons (.tup (.cons (.tup (.cons (.int 0) (.cons (.int 1) .nil))) .nil)) .nil))))))))))))))))))
  (.cons (.asg (.n 2) (.bin .Add (.v 2) (.lst (.cons (.tup (.cons (.str "ring") (.cons (.tup .nil) .nil))) (.cons (.tup (.cons (.str "ring") (.cons (.tup (.cons (.tup (.cons (.int 0) (.cons (.int 1) .nil))) .nil)) .nil))) (.cons (.tup (.cons (.str "prices") (.cons (.tup .nil) .nil))) (.cons (.tup (.cons (.str "enough") .nil)) (.cons (.tup (.cons (.str "home") (.cons (.int 0) (.cons (.int 0) .nil)))) .nil))))))))
  jbM))⟩
noncomputable def jco:Ss:=
  (.cons (.asg (.n 3) (.call jaa (.cons (.v 0) (.cons (.blt .len (.cons (.v 1) .nil)) .nil))))
  (.cons (.ret (.bin .Add (.bin .Add (.sl (.v 1) .no (.so (.v 3))) (.tup (.cons (.call jbB (.cons (.v 0) (.cons (.ix (.v 1) (.v 3)) (.cons (.bin .Sub (.v 2) (.int 1)) .nil)))) .nil))) (.sl (.v 1) (.so (.bin .Add (.v 3) (.int 1))) .no)))
  .nil))
noncomputable def jci:Fun:=⟨"_law_bent",["_law_feed", "_law_thing", "_law_deep"],["_law_feed", "_law_thing", "_law_deep", "_law_at"],
  (.cons (.ite (.bop false (.not (.blt .isi (.cons (.v 1) (.cons (.ty "tuple") .nil)))) (.cons (.cmp .Eq (.v 1) (.tup .nil)) (.cons (.cmp .Eq (.v 2) (.int 0)) (.cons (.cmp .Eq (.call jaa (.cons (.v 0) (.cons (.int 5) .nil))) (.int 0)) .nil)))) (.cons (.ret (.call jbq (.cons (.v 0) (.cons (.v 1) .nil))))
  .nil) .nil)
  jco)⟩
noncomputable def jas:Ss:=
  (.cons (.ret (.bin .Add (.v 4) (.lst (.cons (.tup (.cons (.tup (.cons (.int 1) (.cons (.mkL (.v 2)) .nil))) .nil)) (.cons (.tup (.cons (.tup (.cons (.int 1) (.cons (.rev (.v 2) (.neg (.int 1))) .nil))) .nil)) (.cons (.tup (.cons (.tup (.cons (.int 1) (.cons (.bin .Add (.tup (.cons (.tup (.cons (.int 0) (.cons (.bl true) .nil))) .nil)) (.sl (.v 2) (.so (.int 1)) .no)) .nil))) .nil)) (.cons (.tup (.cons (.tup (.cons (.int 1) (.cons (.bin .Mult (.sl (.v 2) .no (.so (.int 1))) (.int 2)) .nil))) .nil)) .nil)))))))
  .nil)
noncomputable def jat:Ss:=
  (.cons (.asg (.n 4) (.bin .Add (.v 4) (.lst (.cons (.tup (.cons (.tup (.cons (.int 1) (.cons (.tup (.cons (.tup (.cons (.str "home") (.cons (.int 0) (.cons (.int 0) .nil)))) .nil)) .nil))) .nil)) (.cons (.tup (.cons (.int 1) (.cons (.v 2) .nil))) (.cons (.tup (.cons (.tup (.cons (.int 1) (.cons (.v 2) (.cons (.int 1) .nil)))) .nil)) (.cons (.tup (.cons (.lst (.cons (.int 1) (.cons (.v 2) .nil))) .nil)) (.cons (.lst (.cons (.tup (.cons (.int 1) (.cons (.v 2) .nil))) .nil)) (.cons (.tup (.cons (.tup (.cons (.v 2) (.cons (.int 1) .nil))) .nil)) .nil)))))))))
  jas)
noncomputable def jau:Ss:=
  (.cons (.asg (.n 4) (.bin .Add (.v 4) (.lst (.cons (.tup (.cons (.tup (.cons (.int 1) (.cons (.bin .Mult (.v 3) (.int 31)) .nil))) .nil)) (.cons (.tup (.cons (.tup (.cons (.int 1) (.cons (.tup .nil) .nil))) .nil)) (.cons (.tup (.cons (.tup (.cons (.int 1) (.cons (.sl (.v 2) .no (.so (.neg (.int 1)))) .nil))) .nil)) (.cons (.tup (.cons (.tup (.cons (.int 1) (.cons (.bin .Add (.v 2) (.tup (.cons (.tup (.cons (.str "home") (.cons (.int 0) (.cons (.int 0) .nil)))) .nil))) .nil))) .nil)) .nil)))))))
  jat)
noncomputable def jav:Ss:=
  (.cons (.asg (.n 4) (.bin .Add (.v 4) (.lst (.cons (.bin .Mult (.tup (.cons (.tup (.cons (.int 1) (.cons (.v 3) .nil))) .nil)) (.int 24)) (.cons (.bin .Mult (.tup (.cons (.tup (.cons (.int 1) (.cons (.v 3) .nil))) .nil)) (.int 25)) (.cons (.tup (.cons (.tup (.cons (.int 1) (.cons (.bin .Mult (.v 3) (.int 30)) .nil))) .nil)) (.cons (.tup (.cons (.tup (.cons (.int 1) (.cons (.bin .Add (.bin .Mult (.v 3) (.int 30)) (.v 2)) .nil))) .nil)) .nil)))))))
  jau)
noncomputable def jaI:Ss:=
  (.cons (.asgC 4 (.lc [none,some 2] (.n 0) (.e (.tup (.cons (.int 0) (.cons (.int 1) (.cons (.int 999) (.cons (.int 1000) (.cons (.bl true) (.cons (.neg (.int 1)) (.cons .non (.cons (.str "1") .nil)))))))))) .nil (.tup (.cons (.tup (.cons (.v 0) (.cons (.v 1) .nil))) .nil))))
  jav)
noncomputable def jbx:Fun:=⟨"_law_at_bounds",["_law_feed", "_law_plan"],["_law_feed", "_law_plan", "_law_ring", "_law_there", "_law_some"],
  (.cons (.asg (.n 2) (.call jcf (.cons (.v 0) (.cons (.v 1) .nil))))
  (.cons (.asg (.n 3) (.bin .Add (.sl (.v 2) .no (.so (.int 1))) (.call jcg (.cons (.sl (.v 2) .no (.so (.int 1))) .nil))))
  jaI))⟩
noncomputable def jbV:Ss:=
  (.cons (.asg (.n 9) (.blt .repr (.cons (.tup (.cons (.v 4) (.cons (.v 8) .nil))) .nil)))
  (.cons (.ite (.bop false (.cmp .NotEq (.blt .repr (.cons (.call jct (.cons (.v 4) (.cons (.v 8) .nil))) .nil)) (.blt .repr (.cons (.call jbg (.cons (.v 4) (.cons (.v 8) .nil))) .nil))) (.cons (.cmp .NotEq (.blt .repr (.cons (.tup (.cons (.v 4) (.cons (.v 8) .nil))) .nil)) (.v 9)) .nil)) (.cons (.ret (.bl false))
  .nil) .nil)
  .nil))
noncomputable def jb8:Ss:=
  (.cons (.fr (.n 8) (.e (.v 6)) jbV)
  .nil)
noncomputable def jbW:Ss:=
  (.cons (.asg (.n 8) (.call jbB (.cons (.v 1) (.cons (.v 5) (.cons (.int 5) .nil)))))
  (.cons (.expr (.meth .append (.v 6) (.cons (.ife (.cmp .Eq (.call jaa (.cons (.v 1) (.cons (.int 3) .nil))) (.int 0)) (.call jbB (.cons (.v 1) (.cons (.v 8) (.cons (.int 5) .nil)))) (.v 8)) .nil)))
  .nil))
noncomputable def jb9:Ss:=
  (.cons (.fr (.n 7) (.r1 (.int 12)) jbW)
  jb8)
noncomputable def jca:Ss:=
  (.cons (.ite (.cmp .NotEq (.ix (.v 4) (.int 1)) (.tup .nil)) (.cons (.asg (.n 6) (.bin .Add (.v 6) (.call jbr (.cons (.v 1) (.cons (.v 4) .nil)))))
  .nil) .nil)
  jb9)
noncomputable def jcb:Ss:=
  (.cons (.asg (.n 6) (.lst (.cons (.v 5) (.cons (.tup .nil) (.cons .non (.cons (.int 0) (.cons (.str "") (.cons (.tup (.cons (.tup .nil) .nil)) (.cons (.tup (.cons (.tup (.cons (.int 1) .nil)) .nil)) (.cons (.dic .nil) (.cons (.tup (.cons (.tup (.cons (.int 1) (.cons (.tup (.cons (.tup (.cons (.int 0) (.cons (.int 1) .nil))) .nil)) .nil))) .nil)) (.cons (.tup (.cons (.tup (.cons (.int 1) (.cons (.tup (.cons (.tup (.cons (.int 24) (.cons (.int 1) .nil))) .nil)) .nil))) .nil)) (.cons (.mkL (.v 5)) .nil)))))))))))))
  jca)
noncomputable def jdd:Ss:=
  (.cons (.asg (.n 5) (.call jba (.cons (.v 1) (.cons (.v 4) .nil))))
  jcb)
noncomputable def jcc:Ss:=
  (.cons (.asg (.n 3) (.bin .Add (.int 1) (.call jaa (.cons (.v 1) (.cons (.int 8) .nil)))))
  (.cons (.asg (.n 4) (.call jcs (.cons (.v 1) (.cons (.v 3) (.cons (.bin .Add (.int 1) (.call jaa (.cons (.v 1) (.cons (.int 12) .nil)))) (.cons (.ix (.lst (.cons (.int 6) (.cons (.int 24) .nil))) (.call jaa (.cons (.v 1) (.cons (.int 2) .nil)))) .nil))))))
  jdd))
noncomputable def jfQ:Ss:=
  (.cons (.fr (.n 2) (.r1 (.int 3)) jcc)
  (.cons (.ret (.bl true))
  .nil))
noncomputable def jhs:Fun:=⟨"law",["_law_script"],["_law_script", "_law_feed", "_law_k", "_law_works", "_law_plan", "_law_priced", "_law_things", "_law_turn", "_law_thing", "_law_former"],
  (.cons (.asg (.n 1) (.call jd2 (.cons (.v 0) .nil)))
  jfQ)⟩
noncomputable def T:Tab:=⟨[jdq,jc0,jcw,jdr,jc1,jef,jbj,jcx,jee,jdo,jed,jbL,jcv,jb5,jbK,jb4,jbi,jcZ,jdm,jdp,jdn,jbb,jec,jci,jbx,jhs],[(.int 60),(.int 999),(.int 24)],["MOST_ENTRIES", "MOST_PRICE", "MOST_PRICES"],[]⟩
def top (i:Nat):Stmt:=PySem.Challenge.pw_beatplans_k31_prices_of_any_thing.main.body.getD i (.Pass ⟨0,0,0,0⟩)
noncomputable abbrev s_is_whole:Stmt:=top 1
noncomputable abbrev s_is_within:Stmt:=top 2
noncomputable abbrev s_is_work_of:Stmt:=top 5
noncomputable abbrev s_is_entry:Stmt:=top 6
noncomputable abbrev s_ends_of:Stmt:=top 7
noncomputable abbrev s_is_ring:Stmt:=top 8
noncomputable abbrev s_is_priced_ring:Stmt:=top 12
noncomputable abbrev s_are_prices:Stmt:=top 13
noncomputable abbrev s_law_fed:Stmt:=top 15
noncomputable abbrev s_law_draw:Stmt:=top 16
noncomputable abbrev s_law_fit:Stmt:=top 17
noncomputable abbrev s_law_any_span:Stmt:=top 18
noncomputable abbrev s_law_a_plan:Stmt:=top 19
noncomputable abbrev s_law_is_from:Stmt:=top 20
noncomputable abbrev s_law_two_ends:Stmt:=top 21
noncomputable abbrev s_law_is_ring:Stmt:=top 22
noncomputable abbrev s_law_are_prices:Stmt:=top 23
noncomputable abbrev s_law_steps:Stmt:=top 24
noncomputable abbrev s_law_ways:Stmt:=top 25
noncomputable abbrev s_law_back:Stmt:=top 26
noncomputable abbrev s_law_walk:Stmt:=top 27
noncomputable abbrev s_law_some_prices:Stmt:=top 28
noncomputable abbrev s_law_odd:Stmt:=top 29
noncomputable abbrev s_law_bent:Stmt:=top 30
noncomputable abbrev s_law_at_bounds:Stmt:=top 31
noncomputable abbrev s_law:Stmt:=top 32
local macro_rules
 | `(tactic| simp! only [$xs,*])=>`(tactic| try simp only [D_v,T_v,jnN,D_bl,jnT,jnK,D_g,T_g,D_ty,T_ty,jnY,jns,jnO,jnW,jnq,jlM,jlx,jnJ,jnR,jnV,D_ix,T_ix,D_sl,jnL,jlN,jly,jnX,jnr,jlL,D_lc,jnS,jno,jnQ,jnP,jnM,jnn,jnU,jnp,jlO,jnZ,D_or,jnt,T_or,O_no,O_so,jn2,jlR,jn0,jlP,jny,jlC,I_e,I_r1,I_dk,jlA,jnx,jlB,jlz,jnv,jnw,S_fr,jnu,jjF,S_tr,jn1,jlQ,jnm,jnl,jlv,jng,jnj,jlt,jls,jlu,jnk,jnh,jni,jnf,jnb,jnd,jm9,W_lt,W_le,W_gt,W_ge,jm8,jnc,jlp,jna,jne,W_in,jm7,Y_bl,jm3,jm4,jm2,jnB,jm5,jnF,jlE,jnE,jnI,jnH,jnD,jnG,jm6,jlw,jlr,jlq,jlH,jlF,jlG,jlJ,jlI,G_n,G_t,jnC,jlD,sl_0,sl_s,dr_0,dr_s,pk_nil,jiK,jiJ,jnz,jnA,jho,jmW,jjm,jjl,jmX,jjp,jjo,List.map_cons,List.map_nil,List.cons_append,List.nil_append,List.length_cons,List.length_nil,List.set_cons_zero,List.set_cons_succ,List.zip_cons_cons,List.zip_nil_right,List.zip_nil_left,List.foldl_cons,List.foldl_nil,List.getElem?_cons_zero,List.getElem?_cons_succ,Option.join_some,ite_true,ite_false,Bool.false_eq_true,Int.toNat_natCast,$xs,*])
set_option maxHeartbeats 2000000
structure Fn (G:Gp)(f c:Addr)(n:Nat):Prop where
 ex:∃ (ns:List Int) (a l t:Int),G f=some (.dK (fdU c a l t))/\G c=some (.lst (ns.map .int))/\0<=t/\t<=n
section
variable {G G':Gp}{f c p:Addr}{n m:Nat}{o:MO}
theorem Fn.mono (h:Fn G f c n)(e:n<=m):Fn G f c m:=let ⟨ns,a,l,t,h1,h2,h3,h4⟩:=h.ex; ⟨ns,a,l,t,h1,h2,h3,by omega⟩
theorem Fn.sa (h:Fn G f c n)(s:Sa G G'):Fn G' f c n:=let ⟨ns,a,l,t,h1,h2,h3⟩:=h.ex; ⟨ns,a,l,t,s _ _ h1,s _ _ h2,h3⟩
theorem Fn.new (h:Fn G f c n)(w:New G p o G'):Fn G' f c n:=h.sa w.sa
theorem Fn.away (h:Fn G f c n)(w:New G p o G'):p≠f/\p≠c:=by
 obtain ⟨ns,a,l,t,h1,h2,_⟩:=h.ex
 exact ⟨jeB h1 w.no,jeB h2 w.no⟩
theorem Fn.off (h:Fn G f c n)(hp:p≠f/\p≠c)(w:Put G p o G'):Fn G' f c n:=let ⟨ns,a,l,t,h1,h2,h3⟩:=h.ex; ⟨ns,a,l,t,w.sm _ _ (Ne.symm hp.1) h1,w.sm _ _ (Ne.symm hp.2) h2,h3⟩
theorem jeK {G:Gp}:∀ l:List Int,DUs G (l.map .int) (l.map .int)
 | []=>.nil
 | _::r=>.cons (.int _) (jeK r)
theorem jdS (l:List Int):Small (.list (l.map .int)):=⟨(jch l).1,by show PyData.depthAll (l.map .int) + 1<=100; rw [(jch l).2.1]; decide⟩
theorem jjs {p q:Addr}{ns ms:List Int}{kk:Bool->Prop}(g:G p=some (.lst (ns.map .int)))(g':G q=some (.lst (ms.map .int)))(h:kk (decide (ns=ms))):eqU (.loc p) (.loc q) G kk:=by
 refine ⟨.list (ns.map .int),.list (ms.map .int),.lst (by unfold lsG; rw [g]) (jeK _),.lst (by unfold lsG; rw [g']) (jeK _),jdS _,jdS _,?_⟩
 rw [jjr]; exact h
end
section
variable {k:Nat}{G:Gp}{Q:K1}{X:KX}{f c:Addr}{n:Nat}
theorem jac {m:Int}(hf:Fn G f c n)(hn:n<=1000000000)(h0:0 < m)(h1:m < 1000000000)(q:∀ (r:Int) (G':Gp),0<=r->r < m->Fn G' f c (n + 1)->Sm f G G'->Q (.int r) G'):jab T (k + 1) jaa [.loc f,.int m] G Q X:=by
 obtain ⟨ns,a,l,t,g1,g2,t0,t1⟩:=hf.ex
 have ne:c≠f:=fun z=>by rw [z,g1] at g2; cases g2
 have fin:∀ (z a' l':Int) (G1:Gp),Sm f G G1->Q (.int (z % m)) (gup G1 f (.dK (fdU c a' l' (t + 1)))):=fun z a' l' G1 s=>q _ _ (Int.emod_nonneg z (by omega)) (Int.emod_lt_of_pos z h0) ⟨ns,_,_,_,jao,by rw [jbv ne]; exact s _ _ ne g2,by omega,by omega⟩ (s.trans Sm.put)
 refine ⟨rfl,?_⟩
 simp! only [jdo,jad,List.replicate,ix_d g1 jfb,jfU g1,jcO,jhS,jeb,true_and]
 by_cases hl:0 < l
 ·rw [if_pos (by simpa using hl)]
  exact ⟨h0,h0,by omega,fin _ _ _ _ Sm.refl⟩
 ·rw [if_neg (by simpa using hl)]
  simp! only []
  refine ⟨by decide,fun p G2 n2=>?_⟩
  have s2:Sm f G G2:=Sm.put.trans n2.sa.sm
  have gf:G2 f=some (.dK (fdU c (a + 1) l (t + 1))):=n2.sa _ _ jao
  have gc:G2 c=some (.lst (ns.map .int)):=s2 _ _ ne g2
  simp! only []
  refine jjs (ms:=[]) gc n2.at ?_
  have two:CMul (31 * (t + 1)) (t + 1):=.inr ⟨by omega,by omega⟩
  have e3:CMul 7919 (t + 1):=.inl (by decide)
  have e4:CMul 31 (t + 1):=.inl (by decide)
  have mix:∀ z:Int,Q (.int (z % m)) G2:=fun z=>q _ _ (Int.emod_nonneg z (by omega)) (Int.emod_lt_of_pos z h0) ⟨ns,_,_,_,gf,gc,by omega,by omega⟩ s2
  by_cases hns:ns=[]
  ·subst hns
   rw [if_neg (by decide)]
   simp! only [ix_d gf jfb,jd6 gc]
   refine ⟨⟨by decide,by decide,by decide⟩,?_⟩
   rw [if_neg (by decide)]
   exact ⟨by decide,.inr (by decide),e3,by decide,by decide,by decide,.inr (by decide),e4,two,by decide,by decide,by decide,h0,mix _⟩
  ·rw [if_pos (by simpa using hns)]
   have hlen:0 < ns.length:=List.length_pos_iff.mpr hns
   obtain ⟨z,hz,ez⟩:=jgN (l:=ns) (r:=a % ns.length) (Int.emod_nonneg _ (by omega)) (Int.emod_lt_of_pos _ (by omega))
   simp! only [ix_d gf jfb,jd6 gc,List.length_map,ix_l gc ((jeO U.int ns _).trans (congrArg _ ez)),jfU gf,jcO,jhT,jeb,true_and]
   refine ⟨by omega,⟨by decide,by decide,by decide⟩,?_⟩
   by_cases hc:10 ^ Int.toNat 18<=z
   ·rw [if_pos (by simpa using hc)]
    by_cases ha:a < ns.length
    ·rw [if_pos (by simpa using ha)]
     exact ⟨h0,by omega,h0,fin _ _ _ _ s2⟩
    ·rw [if_neg (by simpa using ha)]
     exact ⟨by decide,.inr (by decide),e3,by decide,by decide,by decide,.inr (by decide),e4,two,by decide,by decide,by decide,h0,mix _⟩
   ·rw [if_neg (by simpa using hc)]
    exact ⟨by decide,.inr (by decide),e3,by decide,by decide,by decide,.inr (by decide),e4,two,by decide,by decide,by decide,h0,mix _⟩
theorem jkR {a:Addr}{ns:List Int}(ha:G a=some (.fro (ns.map .int)))(q:∀ (f c:Addr) (G':Gp),Fn G' f c 0->Q (.loc f) G'):jab T (k + 1) jd2 [.loc a] G Q X:=by
 refine ⟨rfl,?_⟩
 simp! only [jee,jad,List.replicate,sl_f ha,jjz]
 intro p1 G1 n1
 refine ⟨by decide,fun p6 G6 n6=>?_⟩
 rw [jkW] at n6
 exact q _ p1 _ ⟨_,0,0,0,n6.at,n6.sa _ _ n1.at,Int.le_refl _,Int.le_refl _⟩
end

set_option maxHeartbeats 2000000
structure Nm (x:Str):Prop where
 l8:x.length<=8
 ch:∀ c∈x.cps.toList,c < 128
structure Spn where
 w:Str
 o:Nat
 t:Nat
 lo:Int
 hi:Int
noncomputable def Spn.u (s:Spn):U:=.tup [.str s.w,.int s.o,.int s.t,.int s.lo,.int s.hi]
structure Spn.Ok (W:Nat)(s:Spn):Prop where
 w:s.w = "apart" \/ s.w = "span"
 o:s.o < W
 t:s.t < W
 lo:0<=s.lo/\s.lo<=9999
 hi:0<=s.hi/\s.hi<=9999
noncomputable def jeA (l:List Int):U:=.tup (l.map .int)
theorem jep {x:Str}(h:x = "apart" \/ x = "span"):x.length<=8/\∀ c∈x.cps.toList,c < 128:=by
 rcases h with rfl | rfl
 ·exact ⟨by decide +kernel,by decide +kernel⟩
 ·exact ⟨by decide +kernel,by decide +kernel⟩
theorem Spn.Ok.sml {W:Nat}{s:Spn}(h:s.Ok W):Sml 1 s.u:=Sml.tup fun u hu=>by
 simp only [List.mem_cons,List.not_mem_nil,or_false] at hu
 rcases hu with rfl | rfl | rfl | rfl | rfl
 ·exact Sml.str (jep h.w).2
 all_goals exact Sml.int _
theorem jlf {i:Int}(h:-100000<=i/\i<=100000):Ft 1921 0 (.int i):=Ft.int (Nat.lt_of_le_of_lt (show i.natAbs<=100000 by omega) (by decide))
theorem Spn.Ok.ft {W:Nat}{s:Spn}(h:s.Ok W)(hW:W<=8):Ft 10000 1 s.u:=by
 have:=h.o
 have:=h.t
 have:=h.lo
 have:=h.hi
 refine Ft.tup (n:=1921) (m:=5) (Nat.le_refl _) (fun u hu=>?_) (by decide)
 simp only [List.mem_cons,List.not_mem_nil,or_false] at hu
 rcases hu with rfl | rfl | rfl | rfl | rfl
 ·exact (Ft.str (m:=8) (jep h.w).1 (jep h.w).2).mono (by decide) (Nat.le_refl _)
 all_goals exact jlf (by omega)
noncomputable def jak (xs:List Str)(ss:List Spn):U:=.tup [.tup (xs.map .str),.tup (ss.map Spn.u)]
theorem jgc {bs:List Int}{i:Nat}(h:i < bs.length):atI (bs.map U.int) (i:Int)=some (.int (bs.getD i 0)):=jbR (by rw [List.getElem?_map,List.getElem?_eq_getElem h]; simp [List.getD,h])
section
variable {k:Nat}{G:Gp}{Q:K1}{X:KX}{f c pb:Addr}{n W o t:Nat}{P:Int}{bs:List Int}
theorem jkQ (hf:Fn G f c n)(hn:n<=900000000)(h1:1<=P)(h2:P<=12)(gb:G pb=some (.lst (bs.map .int)))(bl:bs.length=W)(ho:o < W)(ht:t < W)(q:∀ (s:Spn) (G':Gp),s.Ok W->Fn G' f c (n + 6)->Sm f G G'->Q s.u G'):jab T (k + 2) jcS [.loc f,.int P,.loc pb,.int o,.int t] G Q X:=by
 refine ⟨rfl,?_⟩
 simp! only [jed,jad,List.replicate,ix_l gb (jgc (show t < bs.length by omega)),ix_l gb (jgc (show o < bs.length by omega))]
 refine ⟨by omega,?_⟩
 have g0:=Int.emod_nonneg (bs.getD t 0 - bs.getD o 0) (show P≠0 by omega)
 have g1:=Int.emod_lt_of_pos (bs.getD t 0 - bs.getD o 0) (show 0 < P by omega)
 generalize (bs.getD t 0 - bs.getD o 0) % P=gap at g0 g1 ⊢
 refine jac hf (by omega) (by decide) (by decide) fun r1 G1 a1 b1 f1 s1=>?_
 simp! only []
 by_cases hr:r1=0
 ·rw [if_pos (by simpa using hr)]
  refine jac f1 (by omega) (by omega) (by omega) fun lo G2 a2 b2 f2 s2=>jac f2 (by omega) (by omega) (by omega) fun hi G3 a3 b3 f3 s3=>⟨by decide,?_⟩
  exact q ⟨"apart",o,t,lo,hi⟩ _ ⟨.inl rfl,ho,ht,by dsimp only; omega,by dsimp only; omega⟩ (f3.mono (by omega)) ((s1.trans s2).trans s3)
 ·rw [if_neg (by simpa using hr)]
  refine ⟨by decide,fun p2 G2 n2=>jac (f1.new n2) (by omega) (by decide) (by decide) fun r3 G3 a3 b3 f3 s3=>?_⟩
  refine jaz [0,0,0,1,2] (s3 _ _ (f1.away n2).1 n2.at) a3 b3 fun z hz=>?_
  have hz':z=0\/z=1\/z=2:=by simp only [List.mem_cons,List.not_mem_nil,or_false] at hz; omega
  have S3:=(s1.nw n2).trans s3
  simp! only []
  refine ⟨.inr (by omega),?_⟩
  obtain ⟨far,ef,fa,fb⟩:∃ far,gap + P * z=far/\0<=far/\far<=36:=⟨_,rfl,by rcases hz' with rfl | rfl | rfl <;> omega,by rcases hz' with rfl | rfl | rfl <;> omega⟩
  rw [ef]
  refine jac f3 (by omega) (by omega) (by omega) fun r4 G4 a4 b4 f4 s4=>⟨by decide,fun p5 G5 n5=>jac (f4.new n5) (by omega) (by decide) (by decide) fun r6 G6 a6 b6 f6 s6=>?_⟩
  refine jaz [0,1,2,r4] (s6 _ _ (f4.away n5).1 n5.at) a6 b6 fun y hy=>?_
  have hy':0<=y/\y<=12:=by simp only [List.mem_cons,List.not_mem_nil,or_false] at hy; omega
  have S6:=((S3.trans s4).nw n5).trans s6
  simp! only []
  refine jac f6 (by omega) (by omega) (by omega) fun r7 G7 a7 b7 f7 s7=>⟨by decide,fun p8 G8 n8=>jac (f7.new n8) (by omega) (by decide) (by decide) fun r9 G9 a9 b9 f9 s9=>?_⟩
  refine jaz [0,0,1,r7] (s9 _ _ (f7.away n8).1 n8.at) a9 b9 fun x hx=>?_
  have hx':0<=x/\x<=12:=by simp only [List.mem_cons,List.not_mem_nil,or_false] at hx; omega
  simp! only []
  refine ⟨by decide,q ⟨"span",o,t,far - (if y < far then y else far),far + x⟩ _ ⟨.inr rfl,ho,ht,?_,by dsimp only; omega⟩ (f9.mono (by omega)) (((S6.trans s7).nw n8).trans s9)⟩
  dsimp only
  split <;> omega
theorem jez (hf:Fn G f c n)(hn:n<=900000000)(h1:1<=P)(h2:P<=12)(ho:o < W)(ht:t < W)(q:∀ (s:Spn) (G':Gp),s.Ok W->Fn G' f c (n + 6)->Sm f G G'->Q s.u G'):jab T (k + 2) ja8 [.loc f,.int P,.int o,.int t] G Q X:=by
 refine ⟨rfl,?_⟩
 simp! only [jbL,jad,List.replicate]
 refine jac hf (by omega) (by omega) (by omega) fun r1 G1 a1 b1 f1 s1=>⟨.inl (by decide),jac f1 (by omega) (by omega) (by omega) fun r2 G2 a2 b2 f2 s2=>⟨by decide,fun p3 G3 n3=>jac (f2.new n3) (by omega) (by decide) (by decide) fun r4 G4 a4 b4 f4 s4=>?_⟩⟩
 refine jaz [0,r1,r2,P] (s4 _ _ (f2.away n3).1 n3.at) a4 b4 fun z hz=>?_
 have hz':0<=z/\z<=36:=by simp only [List.mem_cons,List.not_mem_nil,or_false] at hz; omega
 have S4:=((s1.trans s2).nw n3).trans s4
 simp! only []
 refine jac f4 (by omega) (by decide) (by decide) fun r5 G5 a5 b5 f5 s5=>?_
 simp! only []
 by_cases hr:r5=0
 ·rw [if_pos (by simpa using hr)]
  refine jac f5 (by omega) (by omega) (by omega) fun lo G6 a6 b6 f6 s6=>jac f6 (by omega) (by omega) (by omega) fun hi G7 a7 b7 f7 s7=>⟨by decide,?_⟩
  exact q ⟨"apart",o,t,lo,hi⟩ _ ⟨.inl rfl,ho,ht,by dsimp only; omega,by dsimp only; omega⟩ (f7.mono (by omega)) (((S4.trans s5).trans s6).trans s7)
 ·rw [if_neg (by simpa using hr)]
  refine jac f5 (by omega) (by omega) (by omega) fun r6 G6 a6 b6 f6 s6=>⟨.inl (by decide),by decide,fun p7 G7 n7=>jac (f6.new n7) (by omega) (by decide) (by decide) fun r8 G8 a8 b8 f8 s8=>?_⟩
  refine jaz [0,0,1,r6,P - 1,2 * P] (s8 _ _ (f6.away n7).1 n7.at) a8 b8 fun x hx=>?_
  have hx':0<=x/\x<=24:=by simp only [List.mem_cons,List.not_mem_nil,or_false] at hx; omega
  simp! only []
  exact ⟨by decide,q ⟨"span",o,t,z,z + x⟩ _ ⟨.inr rfl,ho,ht,by dsimp only; omega,by dsimp only; omega⟩ (f8.mono (by omega)) ((((S4.trans s5).trans s6).nw n7).trans s8)⟩
end

set_option maxHeartbeats 2000000
theorem atM {α:Type}{f:α->U}{l:List α}{n:Nat}{a:α}(h:l[n]?=some a):atI (l.map f) (n:Int)=some (f a):=(jeO f l _).trans (congrArg _ (jbR h))
theorem jbA:∀ (W:Nat) (l:List Int),l.Nodup->(∀ x∈l,0<=x/\x < W)->l.length<=W
 | 0,l,_,h=>by
  cases l with
  | nil=>exact Nat.le_refl _
  | cons a l=>have:=h a (by simp); omega
 | W + 1,l,nd,h=>by
  have ih:=jbA W (l.erase (W:Int)) (nd.erase _) fun x hx=>by
   obtain ⟨h1,h2⟩:=nd.mem_erase_iff.mp hx
   have:=h x h2
   omega
  by_cases hm:(W:Int)∈l
  ·rw [List.length_erase_of_mem hm] at ih; omega
  ·rw [List.erase_of_not_mem hm] at ih; omega
theorem jlb (z:Int)(l:List Int):((l.map U.int).any fun y=>eqF y (.int z))=decide (z∈l):=by
 rw [Bool.eq_iff_iff,List.any_eq_true,decide_eq_true_eq]
 constructor
 ·rintro ⟨y,hy,e⟩
  obtain ⟨x,hx,rfl⟩:=List.mem_map.mp hy
  have:x=z:=by simpa [eqF] using e
  rw [<- this]; exact hx
 ·intro h
  exact ⟨.int z,List.mem_map.mpr ⟨z,h,rfl⟩,by simp [eqF]⟩
theorem jhp (l:List Int):(l.map U.int).all flat=true:=by simp [flat]
theorem jjn {xs:List Str}{ss:List Spn}(x8:xs.length<=8)(nm:∀ x∈xs,Nm x)(sl:ss.length<=24)(so:∀ s∈ss,s.Ok xs.length):Ft 600000 3 (jak xs ss):=by
 refine (Ft.tup (n:=260000) (k:=2) (m:=2) (Nat.le_refl _) (fun u hu=>?_) (by decide)).mono (Nat.le_refl _) (Nat.le_refl _)
 simp only [List.mem_cons,List.not_mem_nil,or_false] at hu
 rcases hu with rfl | rfl
 ·refine (Ft.tup (n:=82) (k:=0) (m:=8) (by rw [List.length_map]; exact x8) (fun v hv=>?_) (by decide:_<=1000)).mono (by decide) (by decide)
  obtain ⟨x,hx,rfl⟩:=List.mem_map.mp hv
  exact Ft.str (nm x hx).l8 (nm x hx).ch
 ·refine Ft.tup (n:=10000) (k:=1) (m:=25) (by rw [List.length_map]; omega) (fun v hv=>?_) (by decide)
  obtain ⟨s,hs,rfl⟩:=List.mem_map.mp hv
  exact (so s hs).ft x8
theorem jgd {x:Str}{G:Gp}{k:Bool->Prop}(h:k false):cmpU .NotEq (.str x) (.str x) G k:=by
 show k (!decide (x=x))
 rw [decide_eq_true rfl]
 exact h

set_option maxHeartbeats 2000000
mutual
inductive Th (G:Gp):U->PyData->Prop
 | non:Th G .non .none
 | bl (b:Bool):Th G (.bl b) (.bool b)
 | int (i:Int):Th G (.int i) (.int i)
 | str (x:Str):Th G (.str x) (.str x)
 | tup {us:List U} {ds:List PyData}:Ths G us ds->Th G (.tup us) (.tuple ds)
 | lst {a:Addr} {us:List U} {ds:List PyData}:G a=some (.lst us)->Ths G us ds->Th G (.loc a) (.list ds)
 | dic {a:Addr}:G a=some (.dK [])->Th G (.loc a) (.dict [])
inductive Ths (G:Gp):List U->List PyData->Prop
 | nil:Ths G [] []
 | cons {u:U} {d:PyData} {us:List U} {ds:List PyData}:Th G u d->Ths G us ds->Ths G (u::us) (d::ds)
end
mutual
theorem Th.du {G:Gp}:∀ {u:U} {d:PyData},Th G u d->DU G u d
 | _,_,.non=>.non
 | _,_,.bl b=>.bl b
 | _,_,.int i=>.int i
 | _,_,.str x=>.str x
 | _,_,.tup h=>.tup (Ths.dus h)
 | _,_,.lst g h=>.lst (by unfold lsG; rw [g]) (Ths.dus h)
 | _,_,.dic g=>.dic g
theorem Ths.dus {G:Gp}:∀ {us:List U} {ds:List PyData},Ths G us ds->DUs G us ds
 | _,_,.nil=>.nil
 | _,_,.cons a b=>.cons (Th.du a) (Ths.dus b)
end
mutual
theorem Th.mono {G G':Gp}{f c:Addr}{n:Nat}(hf:Fn G f c n)(s:Sm f G G'):∀ {u:U} {d:PyData},Th G u d->Th G' u d
 | _,_,.non=>.non
 | _,_,.bl b=>.bl b
 | _,_,.int i=>.int i
 | _,_,.str x=>.str x
 | _,_,.tup h=>.tup (Ths.mono hf s h)
 | _,_,.lst g h=>.lst (s _ _ (fun e=>by obtain ⟨ns,x,y,z,h1,_⟩:=hf.ex; rw [e,h1] at g; cases g) g) (Ths.mono hf s h)
 | _,_,.dic g=>.dic (s _ _ (fun e=>by obtain ⟨ns,x,y,z,h1,_⟩:=hf.ex; rw [e,h1] at g; cases g) g)
theorem Ths.mono {G G':Gp}{f c:Addr}{n:Nat}(hf:Fn G f c n)(s:Sm f G G'):∀ {us:List U} {ds:List PyData},Ths G us ds->Ths G' us ds
 | _,_,.nil=>.nil
 | _,_,.cons a b=>.cons (Th.mono hf s a) (Ths.mono hf s b)
end
mutual
theorem Th.sa {G G':Gp}(s:Sa G G'):∀ {u:U} {d:PyData},Th G u d->Th G' u d
 | _,_,.non=>.non
 | _,_,.bl b=>.bl b
 | _,_,.int i=>.int i
 | _,_,.str x=>.str x
 | _,_,.tup h=>.tup (Ths.sa s h)
 | _,_,.lst g h=>.lst (s _ _ g) (Ths.sa s h)
 | _,_,.dic g=>.dic (s _ _ g)
theorem Ths.sa {G G':Gp}(s:Sa G G'):∀ {us:List U} {ds:List PyData},Ths G us ds->Ths G' us ds
 | _,_,.nil=>.nil
 | _,_,.cons a b=>.cons (Th.sa s a) (Ths.sa s b)
end
section
variable {G:Gp}
theorem Ths.append:∀ {us vs:List U} {ds es:List PyData},Ths G us ds->Ths G vs es->Ths G (us++vs) (ds++es)
 | _,_,_,_,.nil,h=>h
 | _,_,_,_,.cons a b,h=>.cons a (Ths.append b h)
theorem Ths.length:∀ {us:List U} {ds:List PyData},Ths G us ds->us.length=ds.length
 | _,_,.nil=>rfl
 | _,_,.cons _ b=>by simp [Ths.length b]
theorem Ths.get:∀ {us:List U} {ds:List PyData} {i:Nat} {u:U},Ths G us ds->us[i]?=some u->∃ d,ds[i]?=some d/\Th G u d
 | _,_,_,_,.nil,e=>by simp at e
 | _,_,0,_,.cons a _,e=>by simp at e; subst e; exact ⟨_,rfl,a⟩
 | _,_,i + 1,u,.cons _ b,e=>by
  obtain ⟨d,e1,h⟩:=Ths.get (i:=i) (u:=u) b (by simpa using e)
  exact ⟨d,by simpa using e1,h⟩
end
mutual
theorem jme {G:Gp}:∀ {u:U},bare u=true->Th G u (pd u)
 | .non,_=>.non
 | .bl b,_=>.bl b
 | .int i,_=>.int i
 | .str x,_=>.str x
 | .tup us,h=>.tup (jhF (show bares us=true from h))
 | .loc _,h=>by cases h
 | .fn _,h=>by cases h
 | .ty _,h=>by cases h
 | .exc _ _,h=>by cases h
 | .own _,h=>by cases h
 | .clo _ _,h=>by cases h
theorem jhF {G:Gp}:∀ {us:List U},bares us=true->Ths G us (pds us)
 | [],_=>.nil
 | u::us,h=>by
  have h:(bare u && bares us)=true:=h
  rw [Bool.and_eq_true] at h
  exact .cons (jme h.1) (jhF h.2)
end
noncomputable def kdD:PyData->String
 | .none => "NoneType"
 | .bool _ => "bool"
 | .int _ => "int"
 | .str _ => "str"
 | .tuple _ => "tuple"
 | .list _ => "list"
 | .dict _ => "dict"
noncomputable def isD (d:PyData)(t:String):Bool:=kdD d == t || (kdD d == "bool" && t == "int")
theorem jmd {G:Gp}{u:U}{d:PyData}(h:Th G u d):tyN u G=some (kdD d):=by
 cases h with
 | lst g _=>unfold tyN; dsimp only; rw [g]; rfl
 | dic g=>unfold tyN; dsimp only; rw [g]; rfl
 | _=>rfl
theorem jaH {G:Gp}{u:U}{d:PyData}{t:String}{Q:K1}(h:Th G u d)(ht:t∈["bool", "int", "str", "list", "tuple", "dict"]):jfz [u,.ty t] G Q=Q (.bl (isD d t)) G:=by
 unfold jfz isiU
 dsimp only
 rw [jmd h]
 dsimp only
 rw [if_pos ht]
 rfl
noncomputable def cmpD (_:PyData):Bool:=true
noncomputable def jcV:U->Bool
 | .str w=>decide (w = "home")
 | _=>false
theorem jjt {G:Gp}{u:U}{d:PyData}{k:Bool->Prop}(h:Th G u d)(_:cmpD d=true)(q:k (jcV u)):cmpU .Eq u (.str "home") G k:=by
 show eqQ u (.str "home") G k
 cases h with
 | lst g h=>exact .inr (.inl ⟨_,g,q⟩)
 | dic g=>exact .inl ⟨_,g,q⟩
 | _=>exact q
noncomputable def isI:U->Bool
 | .int _=>true
 | _=>false
noncomputable def inI (lo hi:Int):U->Bool
 | .int i=>decide (lo<=i) && decide (i<=hi)
 | _=>false
noncomputable def jaV (st:List Int):U->Bool
 | .int i=>decide (i∈st)
 | _=>false
noncomputable def wayB:U->Bool
 | .int i=>decide (i=1) || decide (i=-1)
 | _=>false
noncomputable def entB (n:Nat)(st:List Int):U->Bool
 | .tup [w,a,b]=>jcV w && (jaV st a && jaV st b)
 | .tup [s,y]=>inI 0 ((n:Int) - 1) s && wayB y
 | _=>false
noncomputable def entD:PyData->Bool
 | .tuple ds=>ds.all cmpD
 | _=>true
noncomputable def jkb:PyData->Bool
 | .tuple ds=>ds.all entD
 | _=>true
noncomputable def endZ (ss:List Spn):U->Int×Int
 | .tup [_,.int a,.int b]=>(a,b)
 | .tup [.int s,.int y]=>if y=1 then (((ss.getD s.toNat ⟨"",0,0,0,0⟩).o:Int),((ss.getD s.toNat ⟨"",0,0,0,0⟩).t:Int)) else (((ss.getD s.toNat ⟨"",0,0,0,0⟩).t:Int),((ss.getD s.toNat ⟨"",0,0,0,0⟩).o:Int))
 | _=>(0,0)
noncomputable def prZ (p:Int×Int):U:=.tup [.int p.1,.int p.2]
theorem jjv:∀ d:PyData,entD d=true
 | .tuple ds=>List.all_eq_true.mpr fun _ _=>rfl
 | .none | .bool _ | .int _ | .str _ | .list _ | .dict _=>rfl
theorem jgV:∀ d:PyData,jkb d=true
 | .tuple ds=>List.all_eq_true.mpr fun d _=>jjv d
 | .none | .bool _ | .int _ | .str _ | .list _ | .dict _=>rfl
theorem gs07:T.gs=[.int 60,.int 999,.int 24]:=rfl
theorem jgt {i:Int}{st:List Int}{G:Gp}{k:Bool->Prop}(q:k (decide (i∈st))):inU (.int i) (jeA st) G k:=by
 refine ⟨rfl,jhp _,?_⟩
 rw [jlb]; exact q
section
variable {k:Nat}{G:Gp}{Q:K1}{X:KX}{xs:List Str}{ss:List Spn}{st:List Int}{u:U}{d:PyData}
theorem jdD (h:Th G u d)(q:Q (.bl (isI u)) G):jab T (k + 1) jbC [u] G Q X:=by
 refine ⟨rfl,?_⟩
 simp! only [jdq,jad,List.replicate,jaH h (show "int" ∈ ["bool", "int", "str", "list", "tuple", "dict"] by decide),jaH h (show "bool" ∈ ["bool", "int", "str", "list", "tuple", "dict"] by decide)]
 cases h <;> exact q
theorem jd0 {lo hi:Int}(h:Th G u d)(q:Q (.bl (inI lo hi u)) G):jab T (k + 2) jbO [u,.int lo,.int hi] G Q X:=by
 refine ⟨rfl,?_⟩
 simp! only [jc0,jad,List.replicate]
 refine jdD h ?_
 simp! only []
 cases h with
 | int i=>
  rw [show isI (.int i)=true from rfl,if_pos rfl]
  simp! only []
  by_cases c:lo<=i
  ·rw [if_pos (decide_eq_true c)]
   have:inI lo hi (.int i)=decide (i<=hi):=by show (decide (lo<=i) && _)=_; rw [decide_eq_true c]; rfl
   rw [this] at q; exact q
  ·rw [if_neg (by simpa using c)]
   have:inI lo hi (.int i)=false:=by show (decide (lo<=i) && _)=_; rw [decide_eq_false c]; rfl
   rw [this] at q; exact q
 | _=>exact q
theorem jde (h:Th G u d)(q:Q (.bl (jaV st u)) G):jab T (k + 2) jbs [jeA st,u] G Q X:=by
 refine ⟨rfl,?_⟩
 simp! only [jcw,jad,List.replicate]
 refine jdD h ?_
 simp! only []
 cases h with
 | int i=>
  rw [show isI (.int i)=true from rfl,if_pos rfl]
  simp! only []
  exact jgt q
 | _=>exact q
theorem and3 {a b c:Bool}:(a && (b && c))=true↔a=true/\b=true/\c=true:=by cases a <;> cases b <;> cases c <;> simp
theorem jhg (h:Th G u d)(hd:entD d=true)(sl:ss.length<=24)(q:Q (.bl (entB ss.length st u)) G):jab T (k + 3) jdg [jak xs ss,jeA st,u] G Q X:=by
 refine ⟨rfl,?_⟩
 simp! only [jdr,jad,List.replicate,jaH h (show "tuple" ∈ ["bool", "int", "str", "list", "tuple", "dict"] by decide)]
 cases h with
 | @tup us ds h=>
  rw [show isD (.tuple ds) "tuple" = true from rfl,if_neg (by decide)]
  simp! only [jcq]
  have hd:ds.all cmpD=true:=hd
  match us,ds,h with
  | [],_,.nil=>
   rw [if_neg (by simp)]
   simp! only [jaQ]
   exact q
  | [x],_,.cons _ .nil=>
   rw [if_neg (by simp)]
   simp! only [jaQ]
   exact q
  | [s,y],[_,_],.cons hs (.cons hy .nil)=>
   rw [if_neg (by simp)]
   simp! only [jaQ]
   simp! only [jcp,jak,ix_t (jaR _ _ _),List.length_map]
   refine ⟨trivial,jd0 (k:=k) hs ?_⟩
   have eq:entB ss.length st (.tup [s,y])=(inI 0 ((ss.length:Int) - 1) s && wayB y):=rfl
   rw [eq] at q
   simp! only []
   cases c:inI 0 ((ss.length:Int) - 1) s with
   | false=>rw [if_neg (by decide)]; rw [c] at q; exact q
   | true=>
    rw [if_pos rfl]
    rw [c,Bool.true_and] at q
    refine jdD (k:=k + 1) hy ?_
    simp! only []
    cases hy with
    | int i=>
     rw [show isI (.int i)=true from rfl,if_pos rfl]
     simp! only []
     refine ⟨by decide,rfl,rfl,?_⟩
     have:(List.any [U.int 1,.int (-1)] fun y=>eqF y (.int i))=wayB (.int i):=by
      show ((1 == i) || (((-1:Int) == i) || false))=(decide (i=1) || decide (i=-1))
      rw [Bool.eq_iff_iff]; simp; omega
     rw [this]; exact q
    | _=>exact q
  | [w,x,y],[dw,_,_],.cons hw (.cons hx (.cons hy .nil))=>
   rw [if_pos (by simp)]
   simp! only []
   have cw:cmpD dw=true:=by simp only [List.all_cons,Bool.and_eq_true] at hd; exact hd.1
   refine ⟨trivial,jjt hw cw ?_⟩
   have eq:entB ss.length st (.tup [w,x,y])=(jcV w && (jaV st x && jaV st y)):=rfl
   rw [eq] at q
   cases c:jcV w with
   | false=>rw [c] at q; exact q
   | true=>
    rw [c,Bool.true_and] at q
    simp! only []
    refine jde (k:=k) hx ?_
    simp! only []
    cases c2:jaV st x with
    | false=>rw [c2] at q; exact q
    | true=>
     rw [c2,Bool.true_and] at q
     rw [if_pos rfl]
     simp! only []
     exact jde (k:=k) hy q
  | _::_::_::_::r,_,h=>
   rw [if_neg (by simp; omega)]
   simp! only [jaQ]
   rw [if_pos (by simp; omega)]
   simp! only []
   exact q
 | non=>exact q
 | bl b=>exact q
 | int i=>exact q
 | str x=>exact q
 | lst g h=>exact q
 | dic g=>exact q
theorem jgx {n:Nat}(he:entB n st u=true):(∃ a b:Int,u=.tup [.str "home",.int a,.int b]/\a∈st/\b∈st)\/∃ (s:Nat) (y:Int),u=.tup [.int s,.int y]/\s < n/\(y=1\/y=-1):=by
 unfold entB at he
 split at he
 ·rename_i w a b
  rw [and3] at he
  obtain ⟨h1,h2,h3⟩:=he
  cases w <;> try (cases h1; done)
  cases a <;> try (cases h2; done)
  cases b <;> try (cases h3; done)
  rename_i w a b
  refine .inl ⟨a,b,?_,of_decide_eq_true h2,of_decide_eq_true h3⟩
  rw [of_decide_eq_true h1]
 ·rename_i s y
  rw [Bool.and_eq_true] at he
  cases s <;> try (cases he.1; done)
  cases y <;> try (cases he.2; done)
  rename_i s y
  obtain ⟨h1,h2⟩:=he
  have h1:(decide (0<=s) && decide (s<=(n:Int) - 1))=true:=h1
  have h2:(decide (y=1) || decide (y=-1))=true:=h2
  simp only [Bool.and_eq_true,Bool.or_eq_true,decide_eq_true_eq] at h1 h2
  exact .inr ⟨s.toNat,y,by rw [show ((s.toNat:Nat):Int)=s by omega],by omega,h2⟩
 ·cases he
theorem jj1 {s:Nat}(h:s < ss.length):ss[s]?=some (ss.getD s ⟨"",0,0,0,0⟩):=by simp [List.getD,h]
theorem jfu (he:entB ss.length st u=true)(q:Q (prZ (endZ ss u)) G):jab T (k + 1) jd4 [jak xs ss,u] G Q X:=by
 refine ⟨rfl,?_⟩
 rcases jgx he with ⟨a,b,rfl,_,_⟩ | ⟨s,y,rfl,hs,hy⟩
 ·simp! only [jc1,jad,List.replicate,ix_t (jaR _ _ _)]
  rw [if_pos (by decide)]
  simp! only [ix_t (jaR _ _ _)]
  exact ⟨by decide,q⟩
 ·have e:=atM (f:=Spn.u) (jj1 hs)
  simp! only [jc1,jad,List.replicate]
  rw [if_neg (by decide)]
  simp! only [jak,ix_t (jaR _ _ _),ix_t e,Spn.u]
  refine ⟨trivial,trivial,?_⟩
  rcases hy with rfl | rfl
  ·rw [if_pos (by decide)]
   exact ⟨by decide,q⟩
  ·rw [if_neg (by decide)]
   exact ⟨by decide,q⟩
end

set_option maxHeartbeats 2000000
noncomputable def prvZ (l:List (Int×Int))(i:Nat):Int×Int:=l.getD (if i=0 then l.length - 1 else i - 1) (0,0)
noncomputable def fitB (l:List (Int×Int))(i:Nat):Bool:=decide ((prvZ l i).2=(l.getD i (0,0)).1)
noncomputable def jc4 (l:List (Int×Int)):Bool:=(List.range l.length).all (fitB l)
noncomputable def jcd (ss:List Spn)(st:List Int):U->Bool
 | .tup us=>decide (1<=us.length/\us.length<=60) && (us.all (entB ss.length st) && jc4 (us.map (endZ ss)))
 | _=>false
theorem jib {l:List (Int×Int)}{i:Nat}(h:i < l.length):atI (l.map prZ) ((i:Int) - 1)=some (prZ (prvZ l i)):=by
 suffices h:atI l ((i:Int) - 1)=some (prvZ l i) by rw [jeO,h]; rfl
 unfold prvZ
 by_cases z:i=0
 ·subst z
  rw [if_pos rfl]
  have:atI l (((0:Nat):Int) - 1)=l[l.length - 1]?:=by
   unfold atI ixN
   simp only [show ¬ (0:Int)<=((0:Nat):Int) - 1 by omega,if_false]
   rw [if_pos (by omega)]
   show l[_]?=_
   congr 1
   omega
  rw [this]
  simp [List.getD,List.getElem?_eq_getElem (show l.length - 1 < l.length by omega)]
 ·rw [if_neg z,show (i:Int) - 1=((i - 1:Nat):Int) by omega]
  refine jbR ?_
  simp [List.getD,List.getElem?_eq_getElem (show i - 1 < l.length by omega)]
theorem jic {l:List (Int×Int)}{i:Nat}(h:i < l.length):atI (l.map prZ) (i:Int)=some (prZ (l.getD i (0,0))):=atM (by simp [List.getD,h])
theorem jjD {a:Addr}{bs:List Bool}{G:Gp}{Q:K1}(g:G a=some (.lst (bs.map .bl)))(q:Q (.bl (bs.all id)) G):allU [.loc a] G Q:=by
 unfold allU
 dsimp only
 rw [g]
 have:jc5 (bs.map .bl)=some bs:=by
  clear g q
  induction bs with
  | nil=>rfl
  | cons b r ih=>rw [List.map_cons,jc5,ih]
 dsimp only
 rw [this]
 exact q
section
variable {k:Nat}{G:Gp}{Q:K1}{X:KX}{xs:List Str}{ss:List Spn}{st:List Int}{u:U}{d:PyData}
theorem jft (h:Th G u d)(hd:jkb d=true)(sl:ss.length<=24)(q:∀ G',Sa G G'->Q (.bl (jcd ss st u)) G'):jab T (k + 4) jd3 [jak xs ss,jeA st,u] G Q X:=by
 refine ⟨rfl,?_⟩
 simp! only [jef,jad,List.replicate,jaH h (show "tuple" ∈ ["bool", "int", "str", "list", "tuple", "dict"] by decide)]
 cases h with
 | @tup us ds h=>
  have hd:ds.all entD=true:=hd
  rw [show isD (.tuple ds) "tuple" = true from rfl,if_pos rfl]
  simp! only [gs07,glU]
  by_cases c1:1<=us.length
  ·rw [if_pos (by simpa using (by omega:(1:Int)<=us.length))]
   by_cases c2:us.length<=60
   ·have e:decide ((us.length:Int)<=60)=true:=decide_eq_true (by omega)
    rw [e,if_neg (by decide)]
    have q:∀ G',Sa G G'->Q (.bl (us.all (entB ss.length st) && jc4 (us.map (endZ ss)))) G':=fun G' s=>by
     have:=q G' s
     have e:jcd ss st (.tup us)=(us.all (entB ss.length st) && jc4 (us.map (endZ ss))):=by
      show (decide (1<=us.length/\us.length<=60) && _)=_
      rw [decide_eq_true ⟨c1,c2⟩]; rfl
     rw [e] at this; exact this
    simp! only [jcM]
    refine ⟨Nat.le_trans c2 (by decide),?_⟩
    refine jaD (fun i acc G'=>G'=G/\acc=((us.take i).map (entB ss.length st)).map .bl) ?_ ?_ ⟨rfl,rfl⟩
    ·rintro acc G1 ⟨rfl,rfl⟩
     rw [List.take_length]
     refine ⟨trivial,fun p G2 n2=>jjD n2.at ?_⟩
     have ea:(us.map (entB ss.length st)).all id=us.all (entB ss.length st):=by rw [List.all_map]; rfl
     rw [ea]
     cases c:us.all (entB ss.length st) with
     | false=>
      have:=q G2 n2.sa
      rw [c] at this; exact this
     | true=>
      simp! only []
      have he:∀ v∈us,entB ss.length st v=true:=List.all_eq_true.mp c
      simp! only [jcL]
      refine ⟨Nat.le_trans c2 (by decide),?_⟩
      refine jaD (fun i acc G'=>G'=G2/\acc=((us.take i).map (endZ ss)).map prZ) ?_ ?_ ⟨rfl,rfl⟩
      ·rintro acc G3 ⟨rfl,rfl⟩
       rw [List.take_length]
       refine ⟨trivial,fun p4 G4 n4=>?_⟩
       rw [c] at q
       have q:∀ G',Sa G1 G'->Q (.bl (jc4 (us.map (endZ ss)))) G':=q
       generalize hl:us.map (endZ ss)=l at n4 q
       have ll:l.length=us.length:=by rw [<- hl,List.length_map]
       have g4:=n4.at
       simp! only [jcK,jd6 g4,List.length_map]
       refine ⟨by omega,by omega,by rw [jaM]; exact Nat.le_trans (show _<=60 by omega) (by decide),?_⟩
       refine jaD (fun i acc G'=>G'=G4/\acc=((List.range i).map (fitB l)).map .bl) ?_ ?_ ⟨rfl,rfl⟩
       ·rintro acc G5 ⟨rfl,rfl⟩
        rw [jaM]
        refine ⟨trivial,fun p6 G6 n6=>jjD n6.at ?_⟩
        have:((List.range l.length).map (fitB l)).all id=jc4 l:=by unfold jc4; rw [List.all_map]; rfl
        rw [this]
        exact q G6 ((n2.sa.trans n4.sa).trans n6.sa)
       ·rintro i x acc G5 K hx ⟨rfl,rfl⟩ hk _
        obtain ⟨hi,rfl⟩:=ja7 hx
        refine ⟨trivial,?_⟩
        have hi:i < l.length:=by omega
        simp! only [ix_l g4 (jib hi),ix_l g4 (jic hi),prZ,ix_t (jaR _ _ _),ix_t (jcj _ _)]
        exact hk _ _ ⟨rfl,by rw [List.range_succ,List.map_append,List.map_append]; rfl⟩
      ·rintro i x acc G3 K hx ⟨rfl,rfl⟩ hk _
       refine ⟨trivial,?_⟩
       simp! only []
       refine jfu (k:=k + 2) (he x (List.mem_of_getElem? hx)) (hk _ _ ⟨rfl,?_⟩)
       rw [List.take_succ,hx]; simp
    ·rintro i x acc G1 K hx ⟨rfl,rfl⟩ hk _
     refine ⟨trivial,?_⟩
     obtain ⟨dx,ex,hx'⟩:=h.get hx
     simp! only []
     refine jhg (k:=k) hx' (List.all_eq_true.mp hd dx (List.mem_of_getElem? ex)) sl (hk _ _ ⟨rfl,?_⟩)
     rw [List.take_succ,hx]; simp
   ·have e:decide ((us.length:Int)<=60)=false:=decide_eq_false (by omega)
    rw [e,if_pos (by decide)]
    simp! only []
    have e:jcd ss st (.tup us)=false:=by
     show (decide (1<=us.length/\us.length<=60) && _)=_
     rw [decide_eq_false (by omega)]; rfl
    have:=q G Sa.refl
    rw [e] at this; exact this
  ·rw [if_neg (by simp; omega),if_pos (by decide)]
   simp! only []
   have e:jcd ss st (.tup us)=false:=by
    show (decide (1<=us.length/\us.length<=60) && _)=_
    rw [decide_eq_false (by omega)]; rfl
   have:=q G Sa.refl
   rw [e] at this; exact this
 | non=>exact q G Sa.refl
 | bl b=>exact q G Sa.refl
 | int i=>exact q G Sa.refl
 | str x=>exact q G Sa.refl
 | lst g h=>exact q G Sa.refl
 | dic g=>exact q G Sa.refl
end

set_option maxHeartbeats 2000000
section
variable {k:Nat}{G:Gp}{Q:K1}{X:KX}{xs:List Str}{ss:List Spn}{st:List Int}{u:U}{d:PyData}
theorem jbY {lo hi:Int}(h:Th G u d)(q:Q (.bl (inI lo hi u)) G):jab T (k + 1) jax [.int lo,.int hi,u] G Q X:=by
 refine ⟨rfl,?_⟩
 simp! only [jb5,jad,List.replicate,jaH h (show "int" ∈ ["bool", "int", "str", "list", "tuple", "dict"] by decide),jaH h (show "bool" ∈ ["bool", "int", "str", "list", "tuple", "dict"] by decide)]
 cases h with
 | int i=>
  rw [show isD (.int i) "int" = true from rfl,if_pos rfl,show isD (.int i) "bool" = false from rfl,if_pos (by decide)]
  simp! only []
  by_cases c:lo<=i
  ·rw [if_pos (decide_eq_true c)]
   have:inI lo hi (.int i)=decide (i<=hi):=by show (decide (lo<=i) && _)=_; rw [decide_eq_true c]; rfl
   rw [this] at q; exact q
  ·rw [if_neg (by simpa using c)]
   have:inI lo hi (.int i)=false:=by show (decide (lo<=i) && _)=_; rw [decide_eq_false c]; rfl
   rw [this] at q; exact q
 | _=>exact q
noncomputable def jfC (ss:List Spn)(st:List Int)(u:U):U:=if entB ss.length st u=true then prZ (endZ ss u) else .non
theorem jid (hs:∀ z∈st,0<=z/\z<=7)(v:U):(inI 0 7 v && jaV st v)=jaV st v:=by
 cases v with
 | int i=>
  show ((decide (0<=i) && decide (i<=7)) && decide (i∈st))=decide (i∈st)
  by_cases c:i∈st
  ·have:=hs i c
   rw [decide_eq_true c,decide_eq_true this.1,decide_eq_true this.2]; rfl
  ·rw [decide_eq_false c]; simp
 | _=>rfl
theorem jhd {v:U}{dv:PyData}{K:Option U->Gp->Prop}(hv:Th G v dv)(hs:∀ z∈st,0<=z/\z<=7)(hK:K (some (.bl (jaV st v))) G) :
  jab T (k + 1) jax [.int 0,.int 7,v] G (fun x G1=>truU x G1 fun c=>if c=true then inU v (jeA st) G1 fun c=>K (some (.bl c)) G1 else K (some x) G1) (fun _ _=>False):=by
 refine jbY (k:=k) hv ?_
 show (if inI 0 7 v=true then _ else _)
 have e:=jid hs v
 cases c:inI 0 7 v with
 | true=>
  rw [if_pos rfl]
  cases hv <;> first | (cases c; done) | exact jgt hK
 | false=>
  rw [if_neg (by decide)]
  rw [c,Bool.false_and] at e
  rw [<- e] at hK; exact hK
theorem in23 {n:Int}{kk:Bool->Prop}(h2:n≠2)(h3:n≠3)(q:kk false):inU (.int n) (.tup [.int 2,.int 3]) G kk:=by
 refine ⟨rfl,rfl,?_⟩
 have:(List.any [U.int 2,.int 3] fun y=>eqF y (.int n))=false:=by
  show (((2:Int) == n) || (((3:Int) == n) || false))=false
  simp; omega
 rw [this]; exact q
theorem c13 {a b c d e:U}:Z.cut [a,b,c,d,e] (some 1) (some 3)=[b,c]:=rfl
theorem ji4 (h:Th G u d)(hs:∀ z∈st,0<=z/\z<=7)(sl:ss.length<=24)(q:∀ G',Sa G G'->Q (jfC ss st u) G'):jab T (k + 2) jbJ [jak xs ss,jeA st,u] G Q X:=by
 refine ⟨rfl,?_⟩
 simp! only [jbK,jad,List.replicate,jaH h (show "tuple" ∈ ["bool", "int", "str", "list", "tuple", "dict"] by decide)]
 cases h with
 | @tup us ds h=>
  rw [show isD (.tuple ds) "tuple" = true from rfl,if_neg (by decide)]
  match us,ds,h with
  | [],_,.nil=>
   refine ⟨by decide,rfl,rfl,?_⟩
   exact q G Sa.refl
  | [x],_,.cons _ .nil=>
   refine ⟨by decide,rfl,rfl,?_⟩
   exact q G Sa.refl
  | [s,y],[_,_],.cons hs' (.cons hy .nil)=>
   refine ⟨by decide,rfl,rfl,?_⟩
   have q:∀ G',Sa G G'->Q (if (inI 0 ((ss.length:Int) - 1) s && wayB y)=true then prZ (endZ ss (.tup [s,y])) else .non) G':=q
   simp! only [jaT]
   rw [if_neg (by decide),if_neg (by simp)]
   simp! only [jbe,ix_t (jcj _ _),ix_t (jaR _ _ _),jak,List.length_map]
   refine jbY (k:=k) hs' ?_
   simp! only []
   cases c:inI 0 ((ss.length:Int) - 1) s with
   | false=>rw [if_pos (by decide)]; simp! only []; have:=q G Sa.refl; rw [c] at this; exact this
   | true=>
    rw [if_neg (by decide)]
    rw [c] at q
    simp! only [ix_t (jaR _ _ _)]
    refine jbY (k:=k) hy ?_
    simp! only []
    cases hy with
    | int y=>
     cases s with
     | int s=>
      have hr:0<=s/\s<=(ss.length:Int) - 1:=by
       have:(decide (0<=s) && decide (s<=(ss.length:Int) - 1))=true:=c
       simpa using this
      obtain ⟨n,rfl⟩:=Int.eq_ofNat_of_zero_le hr.1
      have e:=atM (f:=Spn.u) (jj1 (ss:=ss) (s:=n) (by omega))
      have w:wayB (.int y)=(decide (y=1) || decide (y=-1)):=rfl
      have i1:inI (-1) 1 (.int y)=(decide (-1<=y) && decide (y<=1)):=rfl
      by_cases c1:y=1
      ·subst c1
       rw [show inI (-1) 1 (.int 1)=true from rfl,if_neg (by decide)]
       simp! only [ix_t (jaR _ _ _)]
       rw [if_neg (by decide)]
       simp! only [jaS,jak,ix_t (jaR _ _ _),ix_t (jcj _ _),ix_t e,Spn.u,c13,ix_t (jaR _ _ _)]
       refine ⟨trivial,by decide,by decide,by decide,fun p G2 n2=>?_⟩
       show ixU (.loc p) (.int 0) G2 Q
       rw [ix_l n2.at (jcj _ _)]
       exact q G2 n2.sa
      ·by_cases c2:y=-1
       ·subst c2
        rw [show inI (-1) 1 (.int (-1))=true from rfl,if_neg (by decide)]
        simp! only [ix_t (jaR _ _ _)]
        rw [if_neg (by decide)]
        simp! only [jaS,jak,ix_t (jaR _ _ _),ix_t (jcj _ _),ix_t e,Spn.u,c13,ix_t (jaR _ _ _)]
        refine ⟨trivial,by decide,by decide,by decide,fun p G2 n2=>?_⟩
        show ixU (.loc p) (.int 1) G2 Q
        rw [ix_l n2.at (jaR _ _ _)]
        exact q G2 n2.sa
       ·have q:=q G Sa.refl
        rw [w,decide_eq_false c1,decide_eq_false c2] at q
        by_cases c3:y=0
        ·subst c3
         rw [show inI (-1) 1 (.int 0)=true from rfl,if_neg (by decide)]
         simp! only [ix_t (jaR _ _ _)]
         exact q
        ·have:inI (-1) 1 (.int y)=false:=by rw [i1]; simp; omega
         rw [this,if_pos (by decide)]
         simp! only []
         exact q
     | _=>cases c
    | _=>rw [if_pos (by rfl)]; simp! only []; exact q G Sa.refl
  | [w,x,y],[dw,_,_],.cons hw (.cons hx (.cons hy .nil))=>
   refine ⟨by decide,rfl,rfl,?_⟩
   have q:∀ G',Sa G G'->Q (if (jcV w && (jaV st x && jaV st y))=true then prZ (endZ ss (.tup [w,x,y])) else .non) G':=q
   simp! only [jaT]
   rw [if_neg (by decide),if_pos (by simp)]
   have ec:Z.cut [w,x,y] (some 1) none=[x,y]:=jff [w,x,y] 1
   simp! only [ec]
   refine ⟨show 2<=sizeLine by decide,?_⟩
   have hxy:Ths G [x,y] _:=.cons hx (.cons hy .nil)
   refine jaD (fun i acc G'=>G'=G/\acc=([x,y].take i).map fun v=>.bl (jaV st v)) ?_ ?_ ⟨rfl,rfl⟩
   ·rintro acc G1 ⟨rfl,rfl⟩
    refine ⟨trivial,fun p G2 n2=>?_⟩
    have g2:G2 p=some (.lst [.bl (jaV st x),.bl (jaV st y)]):=n2.at
    simp! only [ix_t (jcj _ _),jaH (hw.sa n2.sa) (show "str" ∈ ["bool", "int", "str", "list", "tuple", "dict"] by decide)]
    cases hw with
    | str w=>
     rw [show isD (.str w) "str" = true from rfl,if_pos rfl]
     simp! only [ix_t (jcj _ _)]
     by_cases c:w = "home"
     ·subst c
      rw [show jcV (.str "home")=true from rfl,Bool.true_and] at q
      rw [if_pos (by simp)]
      refine in_l g2 rfl rfl ?_
      have ea:(List.any [U.bl (jaV st x),.bl (jaV st y)] fun z=>eqF z (.bl false)) = !(jaV st x && jaV st y):=by
       show ((jaV st x == false) || ((jaV st y == false) || false))=_
       cases jaV st x <;> cases jaV st y <;> rfl
      rw [ea]
      cases c2:(jaV st x && jaV st y) with
      | false=>
       rw [c2] at q
       exact q G2 n2.sa
      | true=>
       rw [c2] at q
       rw [Bool.and_eq_true] at c2
       obtain ⟨w1,w2⟩:=c2
       cases hx <;> try (cases w1; done)
       cases hy <;> try (cases w2; done)
       exact q G2 n2.sa
     ·rw [if_neg (by simpa using c)]
      have:=q G2 n2.sa
      rw [show jcV (.str w)=decide (w = "home") from rfl,decide_eq_false c] at this
      exact this
    | _=>exact q G2 n2.sa
   ·rintro i v acc G1 K hv ⟨rfl,rfl⟩ hk _
    obtain ⟨dv,_,tv⟩:=hxy.get hv
    refine ⟨trivial,jhd tv hs (hk _ _ ⟨rfl,?_⟩)⟩
    rw [List.take_succ,hv,List.map_append]; rfl
  | _::_::_::_::r,_,h=>
   simp! only []
   refine ⟨by decide,in23 (by simp; omega) (by simp; omega) ?_⟩
   exact q G Sa.refl
 | non=>exact q G Sa.refl
 | bl b=>exact q G Sa.refl
 | int i=>exact q G Sa.refl
 | str x=>exact q G Sa.refl
 | lst g h=>exact q G Sa.refl
 | dic g=>exact q G Sa.refl
end

set_option maxHeartbeats 2000000
noncomputable def jeJ (ss:List Spn)(st:List Int)(u:U):PyData:=if entB ss.length st u=true then .tuple [.int (endZ ss u).1,.int (endZ ss u).2] else .none
theorem jgz {G:Gp}{ss:List Spn}{st:List Int}:∀ us:List U,DUs G (us.map (jfC ss st)) (us.map (jeJ ss st))
 | []=>.nil
 | u::r=>by
  refine .cons ?_ (jgz r)
  unfold jfC jeJ
  split
  ·exact .tup (.cons (.int _) (.cons (.int _) .nil))
  ·exact .non
theorem jfB {ss:List Spn}{st:List Int}(u:U):Small (jeJ ss st u):=by
 unfold jeJ
 split
 ·exact ⟨rfl,by show max 0 (max 0 0) + 1<=100; decide⟩
 ·exact ⟨rfl,by decide⟩
theorem ji7 {G : Gp}{p : Addr}{ss : List Spn}{st : List Int}{us : List U}{kk : Bool -> Prop}(g : G p = some (.lst (us.map (jfC ss st))))(q : kk (!us.all (entB ss.length st))) : inU .non (.loc p) G kk := by
  unfold inU
  dsimp only
  rw [g]
  refine .inr ⟨.none, us.map (jeJ ss st), .non, jgz us, ⟨rfl, by decide⟩, fun e he => ?_, ?_⟩
  · obtain ⟨v, _, rfl⟩ := List.mem_map.mp he; exact jfB v
  · have : (us.map (jeJ ss st)).any (fun e => PyData.eqv e .none) = !us.all (entB ss.length st) := by
      clear g q
      induction us with
      | nil => rfl
      | cons v r ih =>
        rw [List.map_cons, List.any_cons, List.all_cons, ih, Bool.not_and]
        congr 1
        unfold jeJ
        cases entB ss.length st v <;> rfl
    rw [this]; exact q
section
variable {k:Nat}{G:Gp}{Q:K1}{X:KX}{xs:List Str}{ss:List Spn}{st:List Int}{u:U}{d:PyData}
theorem jhf (h : Th G u d)(hs : ∀ z ∈ st, 0 <= z /\ z <= 7)(sl : ss.length <= 24)(q : ∀ G', Sa G G' -> Q (.bl (jcd ss st u)) G') : jab T (k + 3) jbZ [jak xs ss, jeA st, u] G Q X := by
  refine ⟨rfl, ?_⟩
  simp! only [jb4, jad, List.replicate, jaH h (show "tuple" ∈ ["bool", "int", "str", "list", "tuple", "dict"] by decide)]
  cases h with
  | @tup us ds h =>
    rw [show isD (.tuple ds) "tuple" = true from rfl, if_neg (by decide)]
    simp! only []
    by_cases c1 : 1 <= us.length
    · rw [if_pos (by simpa using (by omega : (1 : Int) <= us.length))]
      by_cases c2 : us.length <= 60
      · have e : decide ((us.length : Int) <= 60) = true := decide_eq_true (by omega)
        rw [e, if_neg (by decide)]
        have q : ∀ G', Sa G G' -> Q (.bl (us.all (entB ss.length st) && jc4 (us.map (endZ ss)))) G' := fun G' s => by
          have := q G' s
          have e : jcd ss st (.tup us) = (us.all (entB ss.length st) && jc4 (us.map (endZ ss))) := by
            show (decide (1 <= us.length /\ us.length <= 60) && _) = _
            rw [decide_eq_true ⟨c1, c2⟩]; rfl
          rw [e] at this; exact this
        simp! only [jbn]
        refine ⟨Nat.le_trans c2 (by decide), ?_⟩
        refine jaD (fun i acc G' => Sa G G' /\ acc = (us.take i).map (jfC ss st)) ?_ ?_ ⟨Sa.refl, rfl⟩
        · rintro acc G1 ⟨s1, rfl⟩
          rw [List.take_length]
          refine ⟨trivial, fun p G2 n2 => ?_⟩
          simp! only [jbm]
          refine ji7 n2.at ?_
          cases c : us.all (entB ss.length st) with
          | false =>
            have := q G2 (s1.trans n2.sa)
            rw [c] at this; exact this
          | true =>
            rw [if_neg (by decide)]
            rw [c] at q
            have q : ∀ G', Sa G G' -> Q (.bl (jc4 (us.map (endZ ss)))) G' := q
            have he : ∀ v ∈ us, entB ss.length st v = true := List.all_eq_true.mp c
            have eu : us.map (jfC ss st) = (us.map (endZ ss)).map prZ := by
              rw [List.map_map]
              refine List.map_congr_left fun v hv => ?_
              show (if entB ss.length st v = true then _ else _) = _
              rw [if_pos (he v hv)]; rfl
            have g2 := n2.at
            rw [eu] at g2
            generalize hl : us.map (endZ ss) = l at g2 q
            have ll : l.length = us.length := by rw [<- hl, List.length_map]
            simp! only [jbl, jd6 g2, List.length_map]
            refine ⟨by omega, by omega, by rw [jaM]; exact Nat.le_trans (show _ <= 60 by omega) (by decide), ?_⟩
            refine jaD (fun i acc G' => G' = G2 /\ acc = ((List.range i).filter fun j => !fitB l j).map fun (j : Nat) => U.int (j : Int)) ?_ ?_ ⟨rfl, rfl⟩
            · rintro acc G3 ⟨rfl, rfl⟩
              rw [jaM]
              refine ⟨trivial, fun p4 G4 n4 => ⟨by decide, fun p5 G5 n5 => ?_⟩⟩
              simp! only []
              refine jlg (n := 0) (n5.sa _ _ n4.at) n5.at (fun u hu => ?_) (by decide) ?_
              · obtain ⟨j, _, rfl⟩ := List.mem_map.mp hu
                exact Sml.int _
              · have e : (((List.range l.length).filter fun j => !fitB l j).map fun (j : Nat) => U.int (j : Int)).isEmpty = jc4 l := by
                  unfold jc4
                  rw [Bool.eq_iff_iff, List.isEmpty_iff, List.map_eq_nil_iff, List.filter_eq_nil_iff, List.all_eq_true]
                  exact forall_congr' fun j => forall_congr' fun _ => by simp
                rw [e]
                exact q G5 (((s1.trans n2.sa).trans n4.sa).trans n5.sa)
            · rintro i x acc G3 K hx ⟨rfl, rfl⟩ hk hn
              obtain ⟨hi, rfl⟩ := ja7 hx
              have hi : i < l.length := by omega
              refine ⟨trivial, ?_⟩
              simp! only [ix_l g2 (jib hi), ix_l g2 (jic hi), prZ, ix_t (jaR _ _ _), ix_t (jcj _ _)]
              have ef : fitB l i = decide ((prvZ l i).2 = (l.getD i (0, 0)).1) := rfl
              have er : (List.range (i + 1)).filter (fun j => !fitB l j) = (List.range i).filter (fun j => !fitB l j) ++ if fitB l i = true then [] else [i] := by
                rw [List.range_succ, List.filter_append]
                cases c : fitB l i <;> simp [c]
              rw [<- ef]
              cases c : fitB l i with
              | true =>
                rw [c, if_pos rfl, List.append_nil] at er
                rw [if_neg (by decide)]
                exact hn _ ⟨rfl, by rw [er]⟩
              | false =>
                rw [c, if_neg (by decide)] at er
                rw [if_pos (by decide)]
                exact hk _ _ ⟨rfl, by rw [er, List.map_append]; rfl⟩
        · rintro i x acc G1 K hx ⟨s1, rfl⟩ hk _
          refine ⟨trivial, ?_⟩
          obtain ⟨dx, ex, hx'⟩ := h.get hx
          simp! only []
          refine ji4 (k := k) (hx'.sa s1) hs sl fun G2 s2 => hk _ _ ⟨s1.trans s2, ?_⟩
          rw [List.take_succ, hx, List.map_append]; rfl
      · have e : decide ((us.length : Int) <= 60) = false := decide_eq_false (by omega)
        rw [e, if_pos (by decide)]
        simp! only []
        have e : jcd ss st (.tup us) = false := by
          show (decide (1 <= us.length /\ us.length <= 60) && _) = _
          rw [decide_eq_false (by omega)]; rfl
        have := q G Sa.refl
        rw [e] at this; exact this
    · rw [if_neg (by simp; omega), if_pos (by decide)]
      simp! only []
      have e : jcd ss st (.tup us) = false := by
        show (decide (1 <= us.length /\ us.length <= 60) && _) = _
        rw [decide_eq_false (by omega)]; rfl
      have := q G Sa.refl
      rw [e] at this; exact this
  | non => exact q G Sa.refl
  | bl b => exact q G Sa.refl
  | int i => exact q G Sa.refl
  | str x => exact q G Sa.refl
  | lst g h => exact q G Sa.refl
  | dic g => exact q G Sa.refl
end

set_option maxHeartbeats 2000000
noncomputable def jcA (ss:List Spn):U->Bool
 | .tup [p,r]=>inI 1 999 p && jcd ss [] r
 | _=>false
noncomputable def jew (ss:List Spn):U->Bool
 | .tup us=>decide (us.length<=24) && us.all (jcA ss)
 | _=>false
section
variable {k:Nat}{G:Gp}{Q:K1}{X:KX}{xs:List Str}{ss:List Spn}{u:U}{d:PyData}
theorem jf8 (h:Th G u d)(sl:ss.length<=24)(q:∀ G',Sa G G'->Q (.bl (jcA ss u)) G'):jab T (k + 5) jbh [jak xs ss,u] G Q X:=by
 refine ⟨rfl,?_⟩
 simp! only [jbj,jad,List.replicate,jaH h (show "tuple" ∈ ["bool", "int", "str", "list", "tuple", "dict"] by decide)]
 cases h with
 | @tup us ds h=>
  rw [show isD (.tuple ds) "tuple" = true from rfl,if_pos rfl]
  simp! only []
  match us,ds,h with
  | [],_,_=>exact q G Sa.refl
  | [x],_,_=>exact q G Sa.refl
  | [p,r],[dp,dr],.cons hp (.cons hr .nil)=>
   rw [if_neg (by simp)]
   simp! only [gs07,glU]
   refine ⟨trivial,jd0 (k:=k + 2) hp ?_⟩
   have q:∀ G',Sa G G'->Q (.bl (inI 1 999 p && jcd ss [] r)) G':=q
   simp! only []
   cases c:inI 1 999 p with
   | false=>
    rw [if_neg (by decide)]
    rw [c] at q
    exact q G Sa.refl
   | true=>
    rw [if_pos rfl]
    rw [c] at q
    exact ⟨by decide,jft (k:=k) (st:=[]) hr (jgV _) sl q⟩
  | _::_::_::r,_,h=>
   rw [if_pos (by simp; omega)]
   exact q G Sa.refl
 | non=>exact q G Sa.refl
 | bl b=>exact q G Sa.refl
 | int i=>exact q G Sa.refl
 | str x=>exact q G Sa.refl
 | lst g h=>exact q G Sa.refl
 | dic g=>exact q G Sa.refl
theorem jdE (h:Th G u d)(sl:ss.length<=24)(q:∀ G',Sa G G'->Q (.bl (jew ss u)) G'):jab T (k + 6) jct [jak xs ss,u] G Q X:=by
 refine ⟨rfl,?_⟩
 simp! only [jcx,jad,List.replicate,jaH h (show "tuple" ∈ ["bool", "int", "str", "list", "tuple", "dict"] by decide)]
 cases h with
 | @tup us ds h=>
  rw [show isD (.tuple ds) "tuple" = true from rfl,if_pos rfl]
  simp! only [gs07,glU]
  have q:∀ G',Sa G G'->Q (.bl (decide (us.length<=24) && us.all (jcA ss))) G':=q
  by_cases c:us.length<=24
  ·rw [show decide ((us.length:Int)<=24)=true from decide_eq_true (by omega),if_neg (by decide)]
   rw [decide_eq_true c] at q
   simp! only []
   refine ⟨Nat.le_trans c (by decide),?_⟩
   refine jaD (fun i acc G'=>Sa G G'/\acc=((us.take i).map (jcA ss)).map .bl) ?_ ?_ ⟨Sa.refl,rfl⟩
   ·rintro acc G1 ⟨s1,rfl⟩
    rw [List.take_length]
    refine ⟨trivial,fun p G2 n2=>?_⟩
    refine jjD n2.at ?_
    rw [show (us.map (jcA ss)).all id=us.all (jcA ss) by rw [List.all_map]; rfl]
    exact q G2 (s1.trans n2.sa)
   ·rintro i x acc G1 K hx ⟨s1,rfl⟩ hk _
    obtain ⟨dx,_,tx⟩:=h.get hx
    refine ⟨trivial,?_⟩
    simp! only []
    refine jf8 (k:=k) (tx.sa s1) sl fun G2 s2=>hk _ _ ⟨s1.trans s2,?_⟩
    rw [List.take_succ,hx,List.map_append,List.map_append]; rfl
  ·rw [show decide ((us.length:Int)<=24)=false from decide_eq_false (by omega),if_pos (by decide)]
   rw [decide_eq_false c] at q
   exact q G Sa.refl
 | non=>exact q G Sa.refl
 | bl b=>exact q G Sa.refl
 | int i=>exact q G Sa.refl
 | str x=>exact q G Sa.refl
 | lst g h=>exact q G Sa.refl
 | dic g=>exact q G Sa.refl
theorem jfs (h:Th G u d)(sl:ss.length<=24)(q:∀ G',Sa G G'->Q (.bl (jew ss u)) G'):jab T (k + 4) jbg [jak xs ss,u] G Q X:=by
 refine ⟨rfl,?_⟩
 simp! only [jbi,jad,List.replicate,jaH h (show "tuple" ∈ ["bool", "int", "str", "list", "tuple", "dict"] by decide)]
 cases h with
 | @tup us ds h=>
  rw [show isD (.tuple ds) "tuple" = true from rfl,if_neg (by decide)]
  simp! only []
  have q:∀ G',Sa G G'->Q (.bl (decide (us.length<=24) && us.all (jcA ss))) G':=q
  by_cases c:us.length<=24
  ·rw [if_neg (by simp; omega)]
   rw [decide_eq_true c] at q
   simp! only [ja4]
   refine jaU (fun i ς G'=>Sa G G'/\(us.take i).all (jcA ss)=true/\∃ o2,ς=[some (jak xs ss),some (.tup us),o2]) ?_ ?_ ⟨Sa.refl,rfl,_,rfl⟩
   ·rintro ς G1 ⟨s1,a1,o2,rfl⟩
    rw [List.take_length] at a1
    rw [a1] at q
    exact ⟨trivial,q G1 s1⟩
   ·rintro i x ς G1 K hx ⟨s1,a1,o2,rfl⟩ hk
    obtain ⟨dx,_,tx⟩:=h.get hx
    refine ⟨trivial,?_⟩
    have go:jcA ss x=true->∀ G',Sa G1 G'->K [some (jak xs ss),some (.tup us),some x] G':=fun hp G' s=>hk _ _ ⟨s1.trans s,by rw [List.take_succ,hx,List.all_append,a1]; simp [hp],_,rfl⟩
    have no:jcA ss x=false->∀ G',Sa G1 G'->Q (.bl false) G':=fun hp G' s=>by
     have:us.all (jcA ss)=false:=by
      cases z:us.all (jcA ss) with
      | false=>rfl
      | true=>rw [List.all_eq_true.mp z x (List.mem_of_getElem? hx)] at hp; cases hp
     rw [this] at q
     exact q G' (s1.trans s)
    have tx1:=tx.sa s1
    simp! only [jaP,jaH tx1 (show "tuple" ∈ ["bool", "int", "str", "list", "tuple", "dict"] by decide)]
    cases tx1 with
    | @tup us' ds' h'=>
     rw [show isD (.tuple ds') "tuple" = true from rfl,if_neg (by decide)]
     simp! only []
     match us',ds',h' with
     | [],_,_=>exact no rfl G1 Sa.refl
     | [x],_,_=>exact no rfl G1 Sa.refl
     | [p,r],[dp,dr],.cons hp (.cons hr .nil)=>
      rw [if_neg (by simp)]
      simp! only [ix_t (jcj _ _)]
      refine jbY (k:=k + 2) hp ?_
      simp! only []
      cases c:inI 1 999 p with
      | false=>
       rw [if_pos (by decide)]
       exact no (by show (inI 1 999 p && _)=false; rw [c]; rfl) G1 Sa.refl
      | true=>
       rw [if_neg (by decide)]
       simp! only [ix_t (jaR _ _ _)]
       refine ⟨by decide,jhf (k:=k) (st:=[]) hr (fun z hz=>(nomatch hz)) sl fun G2 s2=>?_⟩
       simp! only []
       cases c2:jcd ss [] r with
       | false=>
        rw [if_pos (by decide)]
        exact no (by show (inI 1 999 p && jcd ss [] r)=false; rw [c,c2]; rfl) G2 s2
       | true=>
        rw [if_neg (by decide)]
        exact go (by show (inI 1 999 p && jcd ss [] r)=true; rw [c,c2]; rfl) G2 s2
     | _::_::_::r,_,h=>
      rw [if_pos (by simp; omega)]
      exact no rfl G1 Sa.refl
    | non=>exact no rfl G1 Sa.refl
    | bl b=>exact no rfl G1 Sa.refl
    | int i=>exact no rfl G1 Sa.refl
    | str x=>exact no rfl G1 Sa.refl
    | lst g h=>exact no rfl G1 Sa.refl
    | dic g=>exact no rfl G1 Sa.refl
  ·rw [if_pos (by simp; omega)]
   rw [decide_eq_false c] at q
   exact q G Sa.refl
 | non=>exact q G Sa.refl
 | bl b=>exact q G Sa.refl
 | int i=>exact q G Sa.refl
 | str x=>exact q G Sa.refl
 | lst g h=>exact q G Sa.refl
 | dic g=>exact q G Sa.refl
end

set_option maxHeartbeats 2000000
section
variable {k:Nat}{G:Gp}{Q:K1}{X:KX}{f c pb p:Addr}{n W:Nat}{P m way i:Int}{bs:List Int}{ss:List Spn}{K:Sg->Gp->Prop}{u3 u7 u8 u9 u10 u11:Option U}
theorem ap_4 {o t : Nat}(hf : Fn G f c n)(hn : n <= 850000000)(h1 : 1 <= P)(h2 : P <= 12)(gb : G pb = some (.lst (bs.map .int)))(bl : bs.length = W)(ho : o < W)(ht : t < W)(gp : G p = some (.lst (ss.map Spn.u)))(hp : p ≠ f /\ p ≠ c /\ p ≠ pb)(sl : ss.length <= 30)
    (kk : ∀ (s : Spn) o11 G', s.Ok W -> Fn G' f c (n + 7) -> G' p = some (.lst ((ss ++ [s]).map Spn.u)) -> G' pb = some (.lst (bs.map .int)) -> (∀ q v, q ≠ f -> q ≠ p -> G q = some v -> G' q = some v) -> K [some (.loc f), some (.int W), some (.int P), u3, some (.loc pb), some (.int way), some (.loc p), u7, u8, some (.int o), some (.int t), o11] G') :
    jag T.gs (jab T (k + 2)) jaw ⟨K, Q, fun x _ G' => X x G'⟩ [some (.loc f), some (.int W), some (.int P), u3, some (.loc pb), some (.int way), some (.loc p), u7, u8, some (.int o), some (.int t), u11] G := by
  have fin : ∀ (s : Spn) o11 G1, s.Ok W -> Fn G1 f c (n + 7) -> Sm f G G1 -> putO G1 p (.lst (ss.map Spn.u ++ [s.u])) fun G2 => K [some (.loc f), some (.int W), some (.int P), u3, some (.loc pb), some (.int way), some (.loc p), u7, u8, some (.int o), some (.int t), o11] G2 := fun s o11 G1 so f1 s1 G2 p2 => by
    refine kk s o11 G2 so (f1.off ⟨hp.1, hp.2.1⟩ p2) (by rw [List.map_append]; exact p2.at) (p2.sm _ _ (Ne.symm hp.2.2) (s1 _ _ ?_ gb)) fun q v hq hqp e => p2.sm _ _ hqp (s1 _ _ hq e)
    intro z
    obtain ⟨ns, a, l, t, e1, _⟩ := hf.ex
    rw [z, e1] at gb; cases gb
  have app : ∀ (b : Bool) (G0 : Gp) (n0 : Nat), n0 <= n + 1 -> Fn G0 f c n0 -> Sm f G G0 -> (match mtU .append (.loc p) G0 with
      | some _ => if b = true then jab T (k + 2) ja8 [.loc f, .int P, .int o, .int t] G0 (fun x G1 => jbt .append (.loc p) [x] G1 fun _ G1 => K [some (.loc f), some (.int W), some (.int P), u3, some (.loc pb), some (.int way), some (.loc p), u7, u8, some (.int o), some (.int t), some (.bl b)] G1) (fun x G1 => X x G1) else jab T (k + 2) jcS [.loc f, .int P, .loc pb, .int o, .int t] G0 (fun x G1 => jbt .append (.loc p) [x] G1 fun _ G1 => K [some (.loc f), some (.int W), some (.int P), u3, some (.loc pb), some (.int way), some (.loc p), u7, u8, some (.int o), some (.int t), some (.bl b)] G1) (fun x G1 => X x G1)
      | none => False) := by
    intro b G0 n0 h0 f0 s0
    have g0 := s0 _ _ hp.1 gp
    have pbf : pb ≠ f := fun z => by
      obtain ⟨ns, a, l, t, e1, _⟩ := hf.ex
      rw [z, e1] at gb; cases gb
    rw [je6 g0]
    dsimp only
    have ap : ∀ (s : Spn) (G1 : Gp), s.Ok W -> Fn G1 f c (n0 + 6) -> Sm f G0 G1 -> jbt .append (.loc p) [s.u] G1 fun _ G1 => K [some (.loc f), some (.int W), some (.int P), u3, some (.loc pb), some (.int way), some (.loc p), u7, u8, some (.int o), some (.int t), some (.bl b)] G1 := fun s G1 so f1 s1 => by
      have g1 := s1 _ _ hp.1 g0
      rw [jgO g1]
      exact ⟨by rw [List.length_map]; exact Nat.lt_of_le_of_lt sl (by decide), fin s _ G1 so (f1.mono (by omega)) (s0.trans s1)⟩
    cases b with
    | true => rw [if_pos rfl]; exact jez (k := k) f0 (by omega) h1 h2 ho ht ap
    | false => rw [if_neg (by decide)]; exact jkQ (k := k) f0 (by omega) h1 h2 (s0 _ _ pbf gb) bl ho ht ap
  simp! only [jaw]
  by_cases c5 : way = 5
  · rw [if_pos (by simpa using c5)]
    exact app _ G n (by omega) hf Sm.refl
  · rw [if_neg (by simpa using c5)]
    by_cases c2 : 2 < way
    · rw [if_pos (by simpa using c2)]
      refine jac hf (by omega) (by decide) (by decide) fun r G1 a1 b1 f1 s1 => ?_
      simp! only []
      exact app _ G1 (n + 1) (Nat.le_refl _) f1 s1
    · rw [if_neg (by simpa using c2)]
      exact app _ G n (by omega) hf Sm.refl
theorem ap_0 {i:Nat}(hf:Fn G f c n)(hn:n<=840000000)(h1:1<=P)(h2:P<=12)(gb:G pb=some (.lst (bs.map .int)))(bl:bs.length=W)(w0:0 < W)(w8:W<=8)(gp:G p=some (.lst (ss.map Spn.u)))(hp:p≠f/\p≠c/\p≠pb)(sl:ss.length<=30)
  (kk:∀ (s:Spn) o9 o10 o11 G',s.Ok W->Fn G' f c (n + 12)->G' p=some (.lst ((ss++[s]).map Spn.u))->G' pb=some (.lst (bs.map .int))->(∀ q v,q≠f->q≠p->G q=some v->G' q=some v)->K [some (.loc f),some (.int W),some (.int P),u3,some (.loc pb),some (.int way),some (.loc p),u7,some (.int i),o9,o10,o11] G') :
  jag T.gs (jab T (k + 2)) jaL ⟨K,Q,fun x _ G'=>X x G'⟩ [some (.loc f),some (.int W),some (.int P),u3,some (.loc pb),some (.int way),some (.loc p),u7,some (.int i),u9,u10,u11] G:=by
 have pbf:pb≠f:=fun z=>by
  obtain ⟨ns,a,l,t,e1,_⟩:=hf.ex
  rw [z,e1] at gb; cases gb
 have t3:∀ (o t:Nat) (G0:Gp),o < W->t < W->Fn G0 f c (n + 4)->Sm f G G0->jag T.gs (jab T (k + 2)) jaJ ⟨K,Q,fun x _ G'=>X x G'⟩ [some (.loc f),some (.int W),some (.int P),u3,some (.loc pb),some (.int way),some (.loc p),u7,some (.int i),some (.int o),some (.int t),u11] G0:=by
  intro o t G0 ho ht f0 s0
  simp! only [jaJ]
  refine ⟨by decide,by decide,by decide,fun p1 G1 n1=>jac (f0.new n1) (by omega) (by decide) (by decide) fun r G2 a2 b2 f2 s2=>?_⟩
  have S2:Sm f G G2:=(s0.nw n1).trans s2
  have fin:∀ (o t:Nat),o < W->t < W->jag T.gs (jab T (k + 2)) jaw ⟨K,Q,fun x _ G'=>X x G'⟩ [some (.loc f),some (.int W),some (.int P),u3,some (.loc pb),some (.int way),some (.loc p),u7,some (.int i),some (.int o),some (.int t),u11] G2:=fun o t ho ht=>
   ap_4 (k:=k) f2 (by omega) h1 h2 (S2 _ _ pbf gb) bl ho ht (S2 _ _ hp.1 gp) hp sl fun s o11 G3 so f3 g3 gb3 fr=>kk s _ _ _ G3 so (f3.mono (by omega)) g3 gb3 fun q v hq hqp e=>fr q v hq hqp (S2 _ _ hq e)
  refine jcU (s2 _ _ (f0.away n1).1 n1.at) a2 b2 fun u hu=>?_
  simp only [List.mem_cons,List.not_mem_nil,or_false] at hu
  rcases hu with rfl | rfl
  ·simp! only []
   exact ⟨trivial,fin o t ho ht⟩
  ·simp! only []
   exact ⟨trivial,fin t o ht ho⟩
 have t2:∀ (o t:Nat) (G0:Gp),o < W->t < W->Fn G0 f c (n + 3)->Sm f G G0->jag T.gs (jab T (k + 2)) jaK ⟨K,Q,fun x _ G'=>X x G'⟩ [some (.loc f),some (.int W),some (.int P),u3,some (.loc pb),some (.int way),some (.loc p),u7,some (.int i),some (.int o),some (.int t),u11] G0:=by
  intro o t G0 ho ht f0 s0
  simp! only [jaK]
  by_cases c:(i:Int) + 1 < W
  ·rw [if_pos (by simpa using c)]
   refine jac f0 (by omega) (by omega) (by omega) fun r G2 a2 b2 f2 s2=>?_
   obtain ⟨r,rfl⟩:=Int.eq_ofNat_of_zero_le a2
   simp! only []
   exact ⟨trivial,t3 (i + 1) r G2 (by omega) (by omega) f2 (s0.trans s2)⟩
  ·rw [if_neg (by simpa using c)]
   exact t3 o t G0 ho ht (f0.mono (by omega)) s0
 simp! only [jaL]
 refine jac hf (by omega) (by omega) (by omega) fun o G1 a1 b1 f1 s1=>jac f1 (by omega) (by omega) (by omega) fun t G2 a2 b2 f2 s2=>?_
 obtain ⟨o,rfl⟩:=Int.eq_ofNat_of_zero_le a1
 obtain ⟨t,rfl⟩:=Int.eq_ofNat_of_zero_le a2
 have S2:=s1.trans s2
 simp! only []
 refine ⟨trivial,?_⟩
 by_cases c:(o:Int)=t
 ·rw [if_pos (by simpa using c)]
  refine jac f2 (by omega) (by decide) (by decide) fun r G3 a3 b3 f3 s3=>?_
  simp! only []
  by_cases c2:0 < r
  ·rw [if_pos (by simpa using c2)]
   refine ⟨by omega,?_⟩
   exact t2 o ((o + 1) % W) G3 (by omega) (Nat.mod_lt _ w0) f3 (S2.trans s3)
  ·rw [if_neg (by simpa using c2)]
   exact t2 o t G3 (by omega) (by omega) f3 (S2.trans s3)
 ·rw [if_neg (by simpa using c)]
  exact t2 o t G2 (by omega) (by omega) (f2.mono (by omega)) S2
end

set_option maxHeartbeats 2000000
noncomputable def jhi:List Str:=["a", "ab", "works", "span", "apart", "ring", "b", "stay"]
theorem jhh:∀ x∈jhi,Nm x:=by
 have h:∀ x∈jhi,x.length<=8/\∀ c∈x.cps.toList,c < 128:=by decide +kernel
 exact fun x hx=>⟨(h x hx).1,(h x hx).2⟩
section
variable {k:Nat}{G:Gp}{Q:K1}{X:KX}{f c pb p:Addr}{n W:Nat}{P m way:Int}{bs:List Int}{ss:List Spn}{u3 u4 u5 u7 u8 u9 u10 u11:Option U}
theorem ap_6 {M:Int}(hf:Fn G f c n)(hn:n<=850000000)(w0:0 < W)(w8:W<=8)(M0:1<=M)(M1:M<=24)(gp:G p=some (.lst (ss.map Spn.u)))(sl:(ss.length:Int)<=M)(so:∀ s∈ss,s.Ok W)
  (q:∀ (xs:List Str) (ss:List Spn) (G':Gp),xs.length=W->(∀ x∈xs,Nm x)->ss.length<=24->(∀ s∈ss,s.Ok W)->Fn G' f c (n + 2)->Sm f G G'->Q (jak xs ss) G') :
  jag T.gs (jab T (k + 2)) ja6 ⟨fun _ G'=>Q .non G',Q,fun x _ G'=>X x G'⟩ [some (.loc f),some (.int W),u3,some (.int M),u4,u5,some (.loc p),u7,u8,u9,u10,u11] G:=by
 have fin:∀ (ss:List Spn) (p:Addr) (G1:Gp),G1 p=some (.lst (ss.map Spn.u))->ss.length<=24->(∀ s∈ss,s.Ok W)->Fn G1 f c (n + 1)->Sm f G G1->jag T.gs (jab T (k + 2)) jaN ⟨fun _ G'=>Q .non G',Q,fun x _ G'=>X x G'⟩ [some (.loc f),some (.int W),u3,some (.int M),u4,u5,some (.loc p),u7,u8,u9,u10,u11] G1:=by
  intro ss p G1 g1 sl so f1 s1
  simp! only [jaN]
  refine ⟨by decide,fun p2 G2 n2=>jac (f1.new n2) (by omega) (by decide) (by decide) fun r G3 a3 b3 f3 s3=>?_⟩
  have S3:=(s1.nw n2).trans s3
  have pf:p≠f:=fun z=>by
   obtain ⟨ns,a,l,t,e1,_⟩:=f1.ex
   rw [z,e1] at g1; cases g1
  have g3:=s3 _ _ pf (n2.sa _ _ g1)
  simp! only []
  refine jaz [1,-1] (s3 _ _ (f1.away n2).1 n2.at) (by split <;> decide) (by split <;> decide) fun z hz=>?_
  have hz':z=1\/z=-1:=by simpa using hz
  unfold revU lsG
  dsimp only
  rw [g3]
  dsimp only
  refine ⟨hz',fun p4 G4 n4=>⟨by decide,?_⟩⟩
  obtain ⟨ts,et,lt,mt⟩:∃ ts:List Spn,(if z=1 then ss.map Spn.u else (ss.map Spn.u).reverse)=ts.map Spn.u/\ts.length=ss.length/\∀ s∈ts,s∈ss:=by
   rcases hz' with rfl | rfl
   ·exact ⟨ss,rfl,rfl,fun _ h=>h⟩
   ·exact ⟨ss.reverse,by rw [if_neg (by decide),List.map_reverse],by simp,fun s h=>List.mem_reverse.mp h⟩
  rw [et] at n4
  rw [it_l n4.at]
  refine ⟨by decide,?_⟩
  have ec:Z.cut [U.str "a",.str "ab",.str "works",.str "span",.str "apart",.str "ring",.str "b",.str "stay"] none (some (W:Int))=(jhi.take W).map .str:=by rw [jeg,List.map_take]; rfl
  rw [ec]
  exact q (jhi.take W) ts G4 (by rw [List.length_take]; exact Nat.min_eq_left w8) (fun x hx=>jhh x (List.mem_of_mem_take hx)) (by omega) (fun s hs=>so s (mt s hs)) (f3.new n4) (S3.nw n4)
 have pf:p≠f:=fun z=>by
  obtain ⟨ns,a,l,t,e1,_⟩:=hf.ex
  rw [z,e1] at gp; cases gp
 simp! only [ja6,sl_l gp]
 intro p1 G1 n1
 have c1:Z.cut (ss.map Spn.u) none (some 1)=(ss.take 1).map Spn.u:=by rw [show (1:Int)=((1:Nat):Int) from rfl,jeg,List.map_take]
 rw [c1] at n1
 have f1:=hf.new n1
 have hp1:=hf.away n1
 have mul:∀ (z:Int) (G2:Gp),(z=0\/(z=1/\(ss.length:Int) < M))->Fn G2 f c (n + 1)->Sm f G1 G2->binU .Mult (.loc p1) (.int z) G2 fun y G2=>binU .Add (.loc p) y G2 fun u G1=>jag T.gs (jab T (k + 2)) jaN ⟨fun _ G'=>Q .non G',Q,fun x _ G'=>X x G'⟩ [some (.loc f),some (.int W),u3,some (.int M),u4,u5,some u,u7,u8,u9,u10,u11] G1:=by
  intro z G2 hz f2 s2
  have tl:(ss.take 1).length<=1:=by rw [List.length_take]; omega
  refine ⟨_,s2 _ _ hp1.1 n1.at,by rcases hz with rfl | ⟨rfl,_⟩ <;> decide,by rcases hz with rfl | ⟨rfl,_⟩ <;> decide,?_,fun p3 G3 n3=>⟨_,_,n3.sa _ _ (s2 _ _ pf (n1.sa _ _ gp)),n3.at,?_,fun p4 G4 n4=>?_⟩⟩
  ·rw [List.length_map]
   rcases hz with rfl | ⟨rfl,_⟩
   ·exact Nat.zero_le _
   ·exact Nat.le_trans (show _<=1 by simpa using tl) (by decide)
  ·rcases hz with rfl | ⟨rfl,_⟩
   ·exact Nat.le_trans (show (ss.map Spn.u).length + 0<=24 by rw [List.length_map]; omega) (by decide)
   ·have e:(List.replicate (Int.toNat 1) ((ss.take 1).map Spn.u)).flatten=(ss.take 1).map Spn.u:=by simp
    rw [e,List.length_map,List.length_map]
    exact Nat.le_trans (show ss.length + (ss.take 1).length<=25 by omega) (by decide)
  have S4:Sm f G G4:=((n1.sa.sm.trans s2).nw n3).nw n4
  have f4:=(f2.new n3).new n4
  have n4a:=n4.at
  rcases hz with rfl | ⟨rfl,hl⟩
  ·have e:ss.map Spn.u++(List.replicate (Int.toNat 0) ((ss.take 1).map Spn.u)).flatten=ss.map Spn.u:=by simp
   rw [e] at n4a
   exact fin ss p4 G4 n4a (by omega) so f4 S4
  ·have e:ss.map Spn.u++(List.replicate (Int.toNat 1) ((ss.take 1).map Spn.u)).flatten=(ss++ss.take 1).map Spn.u:=by simp
   rw [e] at n4a
   refine fin _ p4 G4 n4a (by rw [List.length_append]; omega) (fun s hs=>?_) f4 S4
   rcases List.mem_append.mp hs with hs | hs
   ·exact so s hs
   ·exact so s (List.mem_of_mem_take hs)
 simp! only [jd6 (n1.sa _ _ gp),List.length_map]
 by_cases l0:(0:Int) < ss.length
 ·rw [if_pos (by simpa using l0)]
  by_cases l1:(ss.length:Int) < M
  ·rw [if_pos (by simpa using l1)]
   refine jac f1 (by omega) (by decide) (by decide) fun r G2 a2 b2 f2 s2=>?_
   simp! only []
   refine mul _ G2 ?_ f2 s2
   split
   ·exact .inr ⟨rfl,l1⟩
   ·exact .inl rfl
  ·rw [if_neg (by simpa using l1)]
   simp! only []
   refine mul _ G1 (.inl ?_) (f1.mono (by omega)) Sm.refl
   rw [if_neg (by simpa using l1)]
 ·rw [if_neg (by simpa using l0)]
  simp! only []
  exact mul _ G1 (.inl rfl) (f1.mono (by omega)) Sm.refl
theorem jga (hf:Fn G f c n)(hn:n<=800000000)(h1:1<=P)(h2:P<=12)(w0:0 < W)(w8:W<=8)(m0:1<=m)(m1:m<=24)
  (q:∀ (xs:List Str) (ss:List Spn) (G':Gp),xs.length=W->(∀ x∈xs,Nm x)->ss.length<=24->(∀ s∈ss,s.Ok W)->Fn G' f c (n + 1000)->Sm f G G'->Q (jak xs ss) G'):jab T (k + 3) jcs [.loc f,.int W,.int P,.int m] G Q X:=by
 refine ⟨rfl,?_⟩
 simp! only [jcv,jad,List.replicate]
 refine ⟨by omega,by omega,by rw [jaM]; exact Nat.le_trans (show _<=8 by omega) (by decide),?_⟩
 refine jaD (fun i acc G'=>Fn G' f c (n + i)/\Sm f G G'/\∃ bs:List Int,acc=bs.map .int/\bs.length=i) ?_ ?_ ⟨hf,Sm.refl,[],rfl,rfl⟩
 ·rintro acc G1 ⟨f1,s1,bs,rfl,bl⟩
  rw [jaM] at f1 bl
  refine ⟨trivial,fun pb G2 n2=>?_⟩
  have f2:=f1.new n2
  have hb:=f1.away n2
  simp! only [jbH]
  refine ⟨by decide,fun p3 G3 n3=>jac (f2.new n3) (by omega) (by decide) (by decide) fun r4 G4 a4 b4 f4 s4=>?_⟩
  simp! only []
  refine jaz [m,24] (s4 _ _ (f2.away n3).1 n3.at) (by split <;> decide) (by show _ < (2:Int); split <;> decide) fun M hM=>?_
  have hM':1<=M/\M<=24:=by simp only [List.mem_cons,List.not_mem_nil,or_false] at hM; omega
  refine jac f4 (by omega) (by decide) (by decide) fun way G5 a5 b5 f5 s5=>⟨by decide,fun p6 G6 n6=>?_⟩
  have f6:=f5.new n6
  have h6:=f5.away n6
  simp! only []
  refine jac f6 (by omega) (by omega) (by omega) fun r7 G7 a7 b7 f7 s7=>⟨by decide,fun p8 G8 n8=>jac (f7.new n8) (by omega) (by decide) (by decide) fun r9 G9 a9 b9 f9 s9=>?_⟩
  refine jaz [(W:Int) - 1,W,W + 1,r7,M,W] (s9 _ _ (f7.away n8).1 n8.at) a9 b9 fun many hmany=>?_
  have hm:0<=many/\many<=24:=by simp only [List.mem_cons,List.not_mem_nil,or_false] at hmany; omega
  have S5:Sm f G G5:=(((s1.nw n2).nw n3).trans s4).trans s5
  have S69:Sm f G6 G9:=(s7.nw n8).trans s9
  have S9:Sm f G G9:=(S5.nw n6).trans S69
  have gb5:G5 pb=some (.lst (bs.map .int)):=s5 _ _ hb.1 (s4 _ _ hb.1 (n3.sa _ _ n2.at))
  have gb9:G9 pb=some (.lst (bs.map .int)):=S69 _ _ hb.1 (n6.sa _ _ gb5)
  have gp9:G9 p6=some (.lst []):=S69 _ _ h6.1 n6.at
  have p6b:p6≠pb:=jeB gb5 n6.no
  simp! only [jbG]
  obtain ⟨R,hR,R24,RM⟩:∃ R:Nat,(if many < M then many else M)=(R:Int)/\R<=24/\(R:Int)<=M:=by
   obtain ⟨a,ha⟩:=Int.eq_ofNat_of_zero_le (show 0<=if many < M then many else M by split <;> omega)
   exact ⟨a,ha,by split at ha <;> omega,by split at ha <;> omega⟩
  rw [hR]
  refine ⟨by omega,by omega,?_⟩
  refine jaU (fun i ς G'=>∃ ss o8 o9 o10 o11,ς=[some (.loc f),some (.int W),some (.int P),some (.int M),some (.loc pb),some (.int way),some (.loc p6),some (.int many),o8,o9,o10,o11]/\Fn G' f c (n + 30 + 12 * i)/\Sm f G G'/\G' p6=some (.lst (ss.map Spn.u))/\G' pb=some (.lst (bs.map .int))/\ss.length=i/\∀ s∈ss,s.Ok W) ?_ ?_ ⟨[],_,_,_,_,rfl,f9.mono (by omega),S9,gp9,gb9,rfl,fun s h=>(nomatch h)⟩
  ·rintro ς Ga ⟨ss,o8,o9,o10,o11,rfl,fa,sa,ga,gba,sl,so⟩
   rw [jaM] at sl fa
   refine ⟨trivial,?_⟩
   exact ap_6 (k:=k) fa (by omega) w0 w8 hM'.1 hM'.2 ga (by omega) so fun xs ss' Gb xl nm sl' so' fb sb=>q xs ss' Gb xl nm sl' so' (fb.mono (by omega)) (sa.trans sb)
  ·rintro i x ς Ga K hx ⟨ss,o8,o9,o10,o11,rfl,fa,sa,ga,gba,sl,so⟩ hk
   obtain ⟨hi,rfl⟩:=ja7 hx
   refine ⟨trivial,?_⟩
   refine ap_0 (k:=k) fa (by omega) h1 h2 gba bl w0 w8 ga ⟨h6.1,h6.2,p6b⟩ (by omega) fun s o9 o10 o11 Gb hs fb gb ggb fr=>hk _ _ ⟨ss++[s],_,_,_,_,rfl,fb.mono (by omega),fun b o hb' e=>fr b o hb' (fun z=>?_) (sa _ _ hb' e),gb,ggb,by rw [List.length_append,sl]; rfl,fun t ht=>?_⟩
   ·have:=S5 _ _ hb' e
    rw [z,n6.no] at this; cases this
   ·rcases List.mem_append.mp ht with h | h
    ·exact so t h
    ·rw [List.mem_singleton.mp h]; exact hs
 ·rintro i x acc G1 K hx ⟨f1,s1,bs,rfl,bl⟩ hk _
  obtain ⟨hi,rfl⟩:=ja7 hx
  refine ⟨trivial,?_⟩
  simp! only []
  exact jac f1 (by omega) (by omega) (by omega) fun r G2 a2 b2 f2 s2=>hk _ _ ⟨f2,s1.trans s2,bs++[r],by simp,by simp [bl]⟩
end

set_option maxHeartbeats 2000000
noncomputable def stU (s:Nat)(y:Int)(a b:Nat):U:=.tup [.tup [.int s,.int y],.int a,.int b]
structure Stp (W N:Nat)(es:List U):Prop where
 mem:∀ e∈es,∃ (s:Nat) (y:Int) (a b:Nat),e=stU s y a b/\s < N/\(y=1\/y=-1)/\a < W/\b < W
 sym:∀ s y a b,stU s y a b∈es->∃ s' y' b',stU s' y' b b'∈es
theorem Stp.nil {W N:Nat}:Stp W N []:=⟨fun _ h=>(nomatch h),fun _ _ _ _ h=>(nomatch h)⟩
theorem Stp.add {W N:Nat}{es:List U}{s a b:Nat}(h:Stp W N es)(hs:s < N)(ha:a < W)(hb:b < W):Stp W N (es++[stU s 1 a b,stU s (-1) b a]):=by
 refine ⟨fun e he=>?_,fun s' y' a' b' he=>?_⟩
 ·rcases List.mem_append.mp he with he | he
  ·exact h.mem e he
  ·simp only [List.mem_cons,List.not_mem_nil,or_false] at he
   rcases he with rfl | rfl
   ·exact ⟨s,1,a,b,rfl,hs,.inl rfl,ha,hb⟩
   ·exact ⟨s,-1,b,a,rfl,hs,.inr rfl,hb,ha⟩
 ·rcases List.mem_append.mp he with he | he
  ·obtain ⟨x,y,z,hm⟩:=h.sym _ _ _ _ he
   exact ⟨x,y,z,List.mem_append_left _ hm⟩
  ·simp only [List.mem_cons,List.not_mem_nil,or_false] at he
   have m1:stU s 1 a b∈es++[stU s 1 a b,stU s (-1) b a]:=List.mem_append_right _ (by simp)
   have m2:stU s (-1) b a∈es++[stU s 1 a b,stU s (-1) b a]:=List.mem_append_right _ (by simp)
   rcases he with he | he
   ·have:b'=b:=by unfold stU at he; simp at he; omega
    exact ⟨s,-1,a,by rw [this]; exact m2⟩
   ·have:b'=a:=by unfold stU at he; simp at he; omega
    exact ⟨s,1,b,by rw [this]; exact m1⟩
theorem jmZ {a b:Addr}{xs ys:List U}{G:Gp}{Q:K1}(g:G a=some (.lst xs))(g':G b=some (.lst ys))(h:xs.length + ys.length<=sizeLine)(q:∀ G',Put G a (.lst (xs++ys)) G'->Q .non G'):jbt .extend (.loc a) [.loc b] G Q:=by
 unfold jbt jeH
 dsimp only
 rw [g,g']
 exact ⟨h,q⟩
theorem jkT {a:Addr}{xs:List U}{G:Gp}(g:G a=some (.lst xs)):mtU .extend (.loc a) G=some ("list", "list.extend"):=by unfold mtU; dsimp only; rw [g]
section
variable {k:Nat}{G:Gp}{Q:K1}{X:KX}{f c pb p:Addr}{n W:Nat}{xs:List Str}{ss:List Spn}
theorem jhe (so:∀ s∈ss,s.Ok W)(sl:ss.length<=24)(q:∀ p es G',Sa G G'->G' p=some (.lst es)->Stp W ss.length es->es.length=2 * ss.length->Q (.loc p) G'):jab T (k + 1) jcR [jak xs ss,.tup []] G Q X:=by
 refine ⟨rfl,?_⟩
 simp! only [jcZ,jad,List.replicate]
 refine ⟨by decide,fun p G1 n1=>?_⟩
 simp! only [jbU]
 refine ⟨trivial,?_⟩
 simp! only [jbT,jak,ix_t (jaR _ _ _),List.length_map]
 refine ⟨by omega,by omega,?_⟩
 refine jaU (fun i ς G'=>∃ es o3 o4 o5,ς=[some (jak xs ss),some (.tup []),some (.loc p),o3,o4,o5]/\(∀ q v,q≠p->G1 q=some v->G' q=some v)/\G' p=some (.lst es)/\Stp W ss.length es/\es.length=2 * i) ?_ ?_ ⟨[],_,_,_,rfl,fun _ _ _ e=>e,n1.at,Stp.nil,rfl⟩
 ·rintro ς G2 ⟨es,o3,o4,o5,rfl,fr,g2,st,el⟩
  rw [jaM] at el
  refine ⟨trivial,?_⟩
  simp! only []
  exact q p es G2 (fun b o e=>fr b o (fun z=>by rw [z,n1.no] at e; cases e) (n1.sa _ _ e)) g2 st el
 ·rintro i x ς G2 K hx ⟨es,o3,o4,o5,rfl,fr,g2,st,el⟩ hk
  obtain ⟨hi,rfl⟩:=ja7 hx
  have hi:i < ss.length:=by omega
  obtain ⟨sp,es',em⟩:∃ sp,ss[i]?=some sp/\sp∈ss:=⟨ss[i],List.getElem?_eq_getElem hi,List.getElem_mem hi⟩
  have ho:=so sp em
  refine ⟨trivial,?_⟩
  simp! only [jak,ix_t (jaR _ _ _),ix_t (atM (f:=Spn.u) es'),Spn.u,c13,jkT g2]
  refine ⟨trivial,by decide,by decide,by decide,by decide,by decide,fun p3 G3 n3=>?_⟩
  refine jmZ (n3.sa _ _ g2) n3.at ?_ fun G4 p4=>?_
  ·exact Nat.le_trans (show es.length + 2<=60 by omega) (by decide)
  ·refine hk _ _ ⟨_,_,_,_,rfl,fun b o hb e=>p4.sm _ _ hb (n3.sa _ _ (fr b o hb e)),p4.at,st.add hi ho.o ho.t,by rw [List.length_append,el]; show _ + 2=_; omega⟩
end

set_option maxHeartbeats 2000000
theorem jfe {κ α:Type}[DecidableEq κ](kvs:List (κ×α))(k k':κ)(v:α):dGet (dPut kvs k v) k'=if k'=k then some v else dGet kvs k':=by
 unfold dGet dPut
 by_cases h:(kvs.any fun kv=>decide (kv.1=k))=true
 ·rw [if_pos h]
  induction kvs with
  | nil=>cases h
  | cons a r ih=>
   simp only [List.map_cons,List.find?_cons]
   by_cases ha:a.1=k
   ·rw [if_pos ha]
    by_cases hk:k'=k
    ·subst hk; simp [ha]
    ·have n1:¬ (a.1=k'):=fun z=>hk (z.symm.trans ha)
     simp only [n1,decide_false,if_neg hk]
     have:∀ r:List (κ×α),(List.find? (fun kv=>decide (kv.1=k')) (r.map fun kv=>if kv.1=k then (kv.1,v) else kv)).map (·.2)=(List.find? (fun kv=>decide (kv.1=k')) r).map (·.2):=fun r=>by
      induction r with
      | nil=>rfl
      | cons b r ih=>
       simp only [List.map_cons,List.find?_cons]
       by_cases hb:b.1=k
       ·rw [if_pos hb]
        have n2:¬ (b.1=k'):=fun z=>hk (z.symm.trans hb)
        simp only [n2,decide_false]; exact ih
       ·rw [if_neg hb]
        by_cases hb':b.1=k'
        ·simp [hb']
        ·simp only [hb',decide_false]; exact ih
     exact this r
   ·rw [if_neg ha]
    have h':(r.any fun kv=>decide (kv.1=k))=true:=by simpa [ha] using h
    by_cases hb:a.1=k'
    ·have:¬ (k'=k):=fun z=>ha (hb.trans z)
     simp [hb,this]
    ·simp only [hb,decide_false]; exact ih h'
 ·rw [if_neg h]
  have hn:∀ kv∈kvs,¬ (kv.1=k):=fun kv hkv e=>h (List.any_eq_true.mpr ⟨kv,hkv,by simpa using e⟩)
  rw [List.find?_append]
  by_cases hk:k'=k
  ·subst hk
   have:List.find? (fun kv=>decide (kv.1=k')) kvs=none:=List.find?_eq_none.mpr fun x hx=>by simpa using hn x hx
   simp [this]
  ·rw [if_neg hk]
   have:List.find? (fun kv:κ×α=>decide (kv.1=k')) [(k,v)]=none:=List.find?_eq_none.mpr fun x hx=>by
    rw [List.mem_singleton.mp hx]; simpa using fun z=>hk z.symm
   rw [this]; simp
theorem jht {kvs:List (Key×U)}{k:Key}{v:U}:(dPut kvs k v).length<=kvs.length + 1:=by
 unfold dPut
 split
 ·rw [List.length_map]; omega
 ·simp
theorem jjh {a:Addr}{kvs:List (Key×U)}{z:Int}{G:Gp}{k:Bool->Prop}(g:G a=some (.dK kvs)):inU (.int z) (.loc a) G k=k (dGet kvs (.inl z)).isSome:=by unfold inU; dsimp only; rw [g]; rfl
theorem jhk {a:Addr}{kvs:List (Key×U)}{z:Int}{u:U}{G:Gp}{Q:K1}(g:G a=some (.dK kvs))(h:dGet kvs (.inl z)=some u):ixU (.loc a) (.int z) G Q=Q u G:=by
 unfold ixU; dsimp only; rw [g]; show (match dGet kvs (.inl z) with | some u=>Q u G | none=>False)=_; rw [h]
theorem jhJ {a:Addr}{kvs:List (Key×U)}{z:Int}{v:U}{G:Gp}{Q:Gp->Prop}(g:G a=some (.dK kvs)):setU (.loc a) (.int z) v G Q=(kvs.length < sizeLine/\putO G a (.dK (dPut kvs (.inl z) v)) Q):=by unfold setU; dsimp only; rw [g]; rfl
theorem jjy {kvs:List (Key×U)}{k:Key}{v:U}:kvs.length<=(dPut kvs k v).length:=by
 unfold dPut
 split
 ·rw [List.length_map]; exact Nat.le_refl _
 ·simp
noncomputable def Ew (N:Nat)(e:U):Prop:=∃ (s:Nat) (y:Int),e=.tup [.int s,.int y]/\s < N/\(y=1\/y=-1)
structure Wk (W N:Nat)(kvs:List (Key×U))(ln:List Int):Prop where
 kl:kvs.length<=ln.length
 mem:∀ z:Int,(dGet kvs (.inl z)).isSome=true↔z∈ln
 ex:∀ (z:Int) (v:U),dGet kvs (.inl z)=some v->∃ (r:Int) (us:List U),v=.tup [.int r,.tup us]/\(∀ e∈us,Ew N e)/\us.length + 1<=ln.length
 nd:ln.Nodup
 bd:∀ z∈ln,0<=z/\z < W
theorem Wk.no {W N:Nat}{kvs:List (Key×U)}{ln:List Int}(h:Wk W N kvs ln){z:Int}(c:z∉ln):(dGet kvs (.inl z)).isSome=false:=by
 cases e:(dGet kvs (.inl z)).isSome with
 | false=>rfl
 | true=>exact absurd ((h.mem z).mp e) c
theorem Wk.put {W N:Nat}{kvs:List (Key×U)}{ln:List Int}(h:Wk W N kvs ln){z r:Int}{us:List U}(c:z∉ln)(hz:0<=z/\z < W)(hu:∀ e∈us,Ew N e)(hl:us.length<=ln.length):Wk W N (dPut kvs (.inl z) (.tup [.int r,.tup us])) (ln++[z]):=by
 refine ⟨?_,fun y=>?_,fun y w ew=>?_,?_,fun y hy=>?_⟩
 ·have:=jht (kvs:=kvs) (k:=.inl z) (v:=.tup [.int r,.tup us])
  have:=h.kl
  rw [List.length_append]
  simp only [List.length_cons,List.length_nil]
  omega
 ·rw [jfe]
  by_cases ey:y=z
  ·rw [if_pos (by rw [ey])]; simp [ey]
  ·rw [if_neg (fun q=>ey (Sum.inl.inj q)),h.mem,List.mem_append]
   exact ⟨.inl,fun q=>q.elim id fun q=>absurd (List.mem_singleton.mp q) ey⟩
 ·rw [jfe] at ew
  rw [List.length_append]
  by_cases ey:y=z
  ·rw [if_pos (by rw [ey])] at ew
   exact ⟨r,us,(Option.some.inj ew).symm,hu,Nat.add_le_add_right hl 1⟩
  ·rw [if_neg (fun q=>ey (Sum.inl.inj q))] at ew
   obtain ⟨r',us',e1,e2,e3⟩:=h.ex y w ew
   exact ⟨r',us',e1,e2,by omega⟩
 ·rw [List.nodup_append]
  exact ⟨h.nd,by simp,fun a ha b hb e=>c (by rw [<- List.mem_singleton.mp hb,<- e]; exact ha)⟩
 ·rcases List.mem_append.mp hy with hy | hy
  ·exact h.bd y hy
  ·rw [List.mem_singleton.mp hy]; exact hz
section
variable {k:Nat}{G:Gp}{Q:K1}{X:KX}{pd pe:Addr}{n W N:Nat}{xs:List Str}{ss:List Spn}{es:List U}{K:Sg->Gp->Prop}{kvs:List (Key×U)}{ln:List Int}{u0 u1 u5 u6 u7 u8:Option U}{root:Int}
theorem jlK {gs:List U}{Δ:Cl}{ς:Sg}{G:Gp}{Q:K1}{X:KX}{e:E}:(den gs Δ (.rngL e)).1 ς G Q X=(den gs Δ e).1 ς G (fun x G1=>match x with | .int j=>0<=j/\j<=1000000/\newO G1 (.lst (rngU 0 j.toNat)) Q | _=>False) X:=rfl
theorem jjG (st:Stp W N es)(w8:W<=8)(gd:G pd=some (.dK kvs))(ge:G pe=some (.lst es))(wk:Wk W N kvs ln)
  (kk:∀ kvs' ln' o6 o7 o8 G',G' pd=some (.dK kvs')->(∀ q v,q≠pd->G q=some v->G' q=some v)->Wk W N kvs' ln'->kvs.length<=kvs'.length->(∀ z∈ln,z∈ln')->K [u0,u1,some (.loc pe),some (.loc pd),some (.int root),u5,o6,o7,o8] G') :
  jag T.gs (jab T k) jaq ⟨K,Q,fun x _ G'=>X x G'⟩ [u0,u1,some (.loc pe),some (.loc pd),some (.int root),u5,u6,u7,u8] G:=by
 have ped:pe≠pd:=fun z=>by rw [z,gd] at ge; cases ge
 simp! only [jaq]
 rw [it_l ge]
 refine jaU (fun _ ς G'=>∃ kvs' ln' o6 o7 o8,ς=[u0,u1,some (.loc pe),some (.loc pd),some (.int root),u5,o6,o7,o8]/\G' pd=some (.dK kvs')/\(∀ q v,q≠pd->G q=some v->G' q=some v)/\Wk W N kvs' ln'/\kvs.length<=kvs'.length/\∀ z∈ln,z∈ln') ?_ ?_ ⟨kvs,ln,_,_,_,rfl,gd,fun _ _ _ e=>e,wk,Nat.le_refl _,fun _ h=>h⟩
 ·rintro ς G1 ⟨kvs1,ln1,o6,o7,o8,rfl,g1,fr,wk1,l1,m1⟩
  exact ⟨by unfold lsG; rw [fr _ _ ped ge],kk _ _ _ _ _ _ g1 fr wk1 l1 m1⟩
 ·rintro i x ς G1 K1 hx ⟨kvs1,ln1,o6,o7,o8,rfl,g1,fr,wk1,l1,m1⟩ hk
  refine ⟨by unfold lsG; rw [fr _ _ ped ge],?_⟩
  obtain ⟨s,y,a,b,rfl,hs,hy,ha,hb⟩:=st.mem x (List.mem_of_getElem? hx)
  have stay:∀ o6 o7 o8,K1 [u0,u1,some (.loc pe),some (.loc pd),some (.int root),u5,o6,o7,o8] G1:=fun o6 o7 o8=>hk _ _ ⟨kvs1,ln1,_,_,_,rfl,g1,fr,wk1,l1,m1⟩
  simp! only [stU,jjh g1]
  refine ⟨trivial,?_⟩
  by_cases ca:(a:Int)∈ln1
  ·obtain ⟨va,ea⟩:=Option.isSome_iff_exists.mp ((wk1.mem a).mpr ca)
   obtain ⟨ra,ua,rfl,hua,hla⟩:=wk1.ex _ _ ea
   rw [(wk1.mem a).mpr ca,if_pos rfl]
   simp! only [jhk g1 ea,ix_t (jcj _ _),jjh g1]
   by_cases cr:ra=root
   ·rw [if_pos (by simpa using cr)]
    by_cases cb:(b:Int)∈ln1
    ·rw [(wk1.mem b).mpr cb,if_neg (by decide)]
     exact stay _ _ _
    ·rw [wk1.no cb,if_pos (by decide)]
     simp! only [jhk g1 ea,ix_t (jaR _ _ _)]
     have ll:=jbA W ln1 wk1.nd wk1.bd
     have kl:=wk1.kl
     refine ⟨by decide,Nat.le_trans (show ua.length + 1<=8 by omega) (by decide),by decide,?_⟩
     rw [jhJ g1]
     refine ⟨Nat.lt_of_le_of_lt (show kvs1.length<=8 by omega) (by decide),fun G2 p2=>?_⟩
     refine hk _ _ ⟨_,ln1++[(b:Int)],_,_,_,rfl,p2.at,fun q v hq e=>p2.sm _ _ hq (fr q v hq e),wk1.put cb (by omega) (fun e he=>?_) (by rw [List.length_append]; exact hla),Nat.le_trans l1 jjy,fun z hz=>List.mem_append_left _ (m1 z hz)⟩
     rcases List.mem_append.mp he with he | he
     ·exact hua e he
     ·rw [List.mem_singleton.mp he]
      exact ⟨s,y,rfl,hs,hy⟩
   ·rw [if_neg (by simpa using cr)]
    exact stay _ _ _
  ·rw [wk1.no ca,if_neg (by decide)]
   exact stay _ _ _
theorem jlS {many:Int}(st:Stp W N es)(w8:W<=8)(gd:G pd=some (.dK kvs))(ge:G pe=some (.lst es))(wk:Wk W N kvs ln)
  (kk:∀ kvs' ln' o5 o6 o7 o8 G',G' pd=some (.dK kvs')->(∀ q v,q≠pd->G q=some v->G' q=some v)->Wk W N kvs' ln'->(∀ z∈ln,z∈ln')->K [u0,u1,some (.loc pe),some (.loc pd),some (.int root),o5,o6,o7,o8] G') :
  jag T.gs (jab T k) jaB ⟨K,Q,fun x _ G'=>X x G'⟩ [u0,u1,some (.loc pe),some (.loc pd),some (.int root),some (.int many),u6,u7,u8] G:=by
 have ped:pe≠pd:=fun z=>by rw [z,gd] at ge; cases ge
 simp! only [jaB]
 rw [S_wh]
 refine ⟨fun m ς G'=>∃ (kvs':List (Key×U)) (ln':List Int) (many:Int) (o6 o7 o8:Option U),ς=[u0,u1,some (.loc pe),some (.loc pd),some (.int root),some (.int many),o6,o7,o8]/\m=2 * (8 - kvs'.length) + (if many=kvs'.length then 0 else 1)/\G' pd=some (.dK kvs')/\(∀ q v,q≠pd->G q=some v->G' q=some v)/\Wk W N kvs' ln'/\∀ z∈ln,z∈ln',⟨_,kvs,ln,many,_,_,_,rfl,rfl,gd,fun _ _ _ e=>e,wk,fun _ h=>h⟩,?_⟩
 rintro m ς G1 ⟨kvs1,ln1,many1,o6,o7,o8,rfl,rfl,g1,fr,wk1,m1⟩
 have ll:=jbA W ln1 wk1.nd wk1.bd
 have kl:=wk1.kl
 have ln:lenU [.loc pd] G1=fun Q=>Q (.int kvs1.length) G1:=by funext Q; unfold lenU; dsimp only; rw [g1]
 simp! only [ln]
 by_cases cm:many1=kvs1.length
 ·rw [if_neg (by simpa using cm)]
  exact kk _ _ _ _ _ _ _ g1 fr wk1 m1
 ·rw [if_pos (by simpa using cm)]
  simp! only [jaO,ln]
  refine jjG (k:=k) st w8 g1 (fr _ _ ped ge) wk1 fun kvs2 ln2 o6 o7 o8 G2 g2 fr2 wk2 l2 m2=>?_
  have ll2:=jbA W ln2 wk2.nd wk2.bd
  have kl2:=wk2.kl
  refine ⟨_,?_,kvs2,ln2,_,_,_,_,rfl,rfl,g2,fun q v hq e=>fr2 q v hq (fr q v hq e),wk2,fun z hz=>m2 z (m1 z hz)⟩
  rw [if_neg cm]
  split <;> omega
end
section
variable {k:Nat}{G:Gp}{Q:K1}{X:KX}{pe:Addr}{n W N:Nat}{xs:List Str}{ss:List Spn}{es:List U}
theorem ji3 (st:Stp W N es)(w8:W<=8)(xl:xs.length=W)(ge:G pe=some (.lst es))
  (q:∀ p kvs G',Sa G G'->G' p=some (.dK kvs)->(∀ a:Nat,a < W->∃ (r:Int) (us:List U),dGet kvs (.inl (a:Int))=some (.tup [.int r,.tup us])/\(∀ e∈us,Ew N e)/\us.length<=7)->Q (.loc p) G'):jab T (k + 1) jdf [jak xs ss,.tup [],.loc pe] G Q X:=by
 refine ⟨rfl,?_⟩
 simp! only [jdm,jad,List.replicate]
 refine ⟨by decide,fun pd G1 n1=>?_⟩
 simp! only [jck,jak,ix_t (jcj _ _),List.length_map]
 intro p2 G2 n2
 rw [jlK]
 simp! only [ix_t (jcj _ _),List.length_map]
 refine ⟨by omega,by omega,fun p3 G3 n3=>⟨_,_,n3.sa _ _ n2.at,n3.at,?_,fun p4 G4 n4=>?_⟩⟩
 ·rw [jaM]
  exact Nat.le_trans (show (Z.cut ([]:List U) none (some 1)).length + _<=8 by rw [show (Z.cut ([]:List U) none (some 1))=[] from rfl]; show 0 + xs.length<=8; omega) (by decide)
 have n4a:=n4.at
 rw [show Z.cut ([]:List U) none (some 1)++rngU 0 xs.length=rngU 0 xs.length from rfl] at n4a
 have n1no:=n1.no
 have gd:G4 pd=some (.dK []):=n4.sa _ _ (n3.sa _ _ (n2.sa _ _ n1.at))
 have s14:Sa G1 G4:=(n2.sa.trans n3.sa).trans n4.sa
 have ge4:=s14 _ _ (n1.sa _ _ ge)
 have p4d:p4≠pd:=fun z=>by rw [z,gd] at n4a; cases n4a
 have ped:pe≠pd:=fun z=>by rw [z,gd] at ge4; cases ge4
 dsimp only
 rw [it_l n4a]
 refine jaU (fun i ς G'=>∃ kvs ln o4 o5 o6 o7 o8,ς=[some (jak xs ss),some (.tup []),some (.loc pe),some (.loc pd),o4,o5,o6,o7,o8]/\G' pd=some (.dK kvs)/\(∀ q v,q≠pd->G4 q=some v->G' q=some v)/\Wk W N kvs ln/\∀ j:Nat,j < i->(j:Int)∈ln) ?_ ?_ ⟨[],[],_,_,_,_,_,rfl,gd,fun _ _ _ e=>e,⟨Nat.le_refl _,fun z=>by simp [dGet],fun z v e=>by simp [dGet] at e,List.nodup_nil,fun z hz=>(nomatch hz)⟩,fun j hj=>absurd hj (Nat.not_lt_zero j)⟩
 ·rintro ς G5 ⟨kvs,ln,o4,o5,o6,o7,o8,rfl,g5,fr,wk,hm⟩
  rw [jaM] at hm
  refine ⟨by unfold lsG; rw [fr _ _ p4d n4a],?_⟩
  simp! only []
  refine q pd kvs G5 (fun b o e=>fr b o (fun z=>by rw [z,n1no] at e; cases e) (s14 _ _ (n1.sa _ _ e))) g5 fun a ha=>?_
  obtain ⟨v,ev⟩:=Option.isSome_iff_exists.mp ((wk.mem a).mpr (hm a (by omega)))
  obtain ⟨r,us,rfl,hu,hl⟩:=wk.ex _ _ ev
  have:=jbA W ln wk.nd wk.bd
  exact ⟨r,us,ev,hu,by omega⟩
 ·rintro i x ς G5 K hx ⟨kvs,ln,o4,o5,o6,o7,o8,rfl,g5,fr,wk,hm⟩ hk
  obtain ⟨hi,rfl⟩:=ja7 hx
  refine ⟨by unfold lsG; rw [fr _ _ p4d n4a],?_⟩
  simp! only [jbk,jjh g5]
  by_cases ci:(i:Int)∈ln
  ·rw [(wk.mem i).mpr ci,if_neg (by decide)]
   refine hk _ _ ⟨kvs,ln,_,_,_,_,_,rfl,g5,fr,wk,fun j hj=>?_⟩
   by_cases e:j=i
   ·rw [e]; exact ci
   ·exact hm j (by omega)
  ·rw [wk.no ci,if_pos (by decide)]
   have ll:=jbA W ln wk.nd wk.bd
   have kl:=wk.kl
   simp! only [ja3]
   refine ⟨by decide,by decide,?_⟩
   rw [jhJ g5]
   refine ⟨Nat.lt_of_le_of_lt (show kvs.length<=8 by omega) (by decide),fun G6 p6=>?_⟩
   simp! only []
   refine jlS (k:=k) st w8 p6.at (p6.sm _ _ ped (fr _ _ ped ge4)) (wk.put ci (by omega) (fun e he=>(nomatch he)) (Nat.zero_le _)) fun kvs' ln' o5 o6 o7 o8 G7 g7 fr7 wk7 m7=>hk _ _ ⟨kvs',ln',_,_,_,_,_,rfl,g7,fun q v hq e=>fr7 q v hq (p6.sm _ _ hq (fr q v hq e)),wk7,fun j hj=>?_⟩
   by_cases e:j=i
   ·rw [e]; exact m7 _ (List.mem_append_right _ (by simp))
   ·exact m7 _ (List.mem_append_left _ (hm j (by omega)))
end

set_option maxHeartbeats 2000000
noncomputable def fil (z:Int):U->Bool
 | .tup [_,.int a,_]=>decide (a=z)
 | _=>false
theorem jkc {xs:List U}{G:Gp}{Q:K1}:revU (.tup xs) (.int (-1)) G Q=Q (.tup xs.reverse) G:=by
 unfold revU
 dsimp only
 exact propext ⟨fun h=>h.2,fun h=>⟨rfl,h⟩⟩
section
variable {k:Nat}{G:Gp}{Q:K1}{X:KX}{f c pd pe:Addr}{n W N:Nat}{xs:List Str}{ss:List Spn}{es us:List U}{kvs:List (Key×U)}{K:Sg->Gp->Prop}{u1 u4 u5 u8 u9 u10:Option U}
theorem jf9 (hu:∀ e∈us,Ew N e)(hl:us.length<=60)(q:∀ vs G',Sa G G'->(∀ e∈vs,Ew N e)->vs.length=us.length->Q (.tup vs) G'):jab T (k + 1) jcg [.tup us] G Q X:=by
 refine ⟨rfl,?_⟩
 simp! only [jdp,jad,List.replicate]
 refine ⟨by decide,fun p G1 n1=>?_⟩
 simp! only [jkc]
 refine jaU (fun i ς G'=>∃ vs o2,ς=[some (.tup us),some (.loc p),o2]/\G' p=some (.lst vs)/\(∀ q v,q≠p->G1 q=some v->G' q=some v)/\(∀ e∈vs,Ew N e)/\vs.length=i) ?_ ?_ ⟨[],_,rfl,n1.at,fun _ _ _ e=>e,fun _ h=>(nomatch h),rfl⟩
 ·rintro ς G2 ⟨vs,o2,rfl,g2,fr,hv,vl⟩
  rw [List.length_reverse] at vl
  refine ⟨trivial,?_⟩
  simp! only []
  rw [it_l g2]
  exact q vs G2 (fun b o e=>fr b o (fun z=>by rw [z,n1.no] at e; cases e) (n1.sa _ _ e)) hv vl
 ·rintro i x ς G2 K hx ⟨vs,o2,rfl,g2,fr,hv,vl⟩ hk
  have hil:i < us.reverse.length:=(List.getElem?_eq_some_iff.mp hx).1
  rw [List.length_reverse] at hil
  obtain ⟨s,y,rfl,hs,hy⟩:=hu x (List.mem_reverse.mp (List.mem_of_getElem? hx))
  refine ⟨trivial,?_⟩
  simp! only [je6 g2]
  rw [if_neg (by decide)]
  simp! only [ix_t (jcj _ _),ix_t (jaR _ _ _),jgO g2]
  refine ⟨by decide,Nat.lt_of_le_of_lt (show vs.length<=60 by omega) (by decide),fun G3 p3=>hk _ _ ⟨_,_,rfl,p3.at,fun b o hb e=>p3.sm _ _ hb (fr b o hb e),fun e he=>?_,by rw [List.length_append,vl]; rfl⟩⟩
  rcases List.mem_append.mp he with he | he
  ·exact hv e he
  ·rw [List.mem_singleton.mp he]
   exact ⟨s,0 - y,rfl,hs,by rcases hy with rfl | rfl <;> decide⟩
theorem jie {last:Nat}(hf:Fn G f c n)(hn:n<=900000000)(st:Stp W N es)(el:es.length<=48)(ge:G pe=some (.lst es))(hl:∃ s y b,stU s y last b∈es)(hu:∀ e∈us,Ew N e)(ul:us.length<=50)
  (kk:∀ (e:U) (last':Nat) o9 o10 G',Ew N e->last' < W->(∃ s y b,stU s y last' b∈es)->Fn G' f c (n + 1)->Sm f G G'->K [some (.loc f),u1,some (.loc pe),some (.loc pd),some e,u5,some (.int last'),some (.tup (us++[e])),u8,o9,o10] G') :
  jag T.gs (jab T (k + 1)) jaX ⟨K,Q,fun x _ G'=>X x G'⟩ [some (.loc f),u1,some (.loc pe),some (.loc pd),u4,u5,some (.int last),some (.tup us),u8,u9,u10] G:=by
 simp! only [jaX]
 rw [it_l ge]
 refine ⟨Nat.le_trans el (by decide),?_⟩
 refine jaD (fun i acc G'=>G'=G/\acc=(es.take i).filter (fil last)) ?_ ?_ ⟨rfl,rfl⟩
 ·rintro acc G1 ⟨rfl,rfl⟩
  rw [List.take_length]
  refine ⟨by unfold lsG; rw [ge],fun p2 G2 n2=>?_⟩
  obtain ⟨s0,y0,b0,hm0⟩:=hl
  have pos:0 < (es.filter (fil last)).length:=List.length_pos_iff.mpr fun z=>by
   have:stU s0 y0 last b0∈es.filter (fil last):=List.mem_filter.mpr ⟨hm0,decide_eq_true rfl⟩
   rw [z] at this; cases this
  have fl:(es.filter (fil last)).length<=es.length:=List.length_filter_le _ _
  simp! only [jd6 n2.at]
  refine jac (hf.new n2) (by omega) (by omega) (by omega) fun r G3 a3 b3 f3 s3=>?_
  refine jcU (s3 _ _ (hf.away n2).1 n2.at) a3 b3 fun u hu'=>?_
  obtain ⟨hm,_⟩:=List.mem_filter.mp hu'
  obtain ⟨s,y,a,b,rfl,hs,hy,ha,hb⟩:=st.mem u hm
  simp! only [stU]
  refine ⟨trivial,by decide,Nat.le_trans (show us.length + 1<=60 by omega) (by decide),?_⟩
  exact kk _ b _ _ G3 ⟨s,y,rfl,hs,hy⟩ hb (let ⟨s',y',b',h'⟩:=st.sym _ _ _ _ hm; ⟨s',y',b',h'⟩) f3 (n2.sa.sm.trans s3)
 ·rintro i x acc G1 K1 hx ⟨rfl,rfl⟩ hk hn'
  refine ⟨by unfold lsG; rw [ge],?_⟩
  obtain ⟨s,y,a,b,rfl,_⟩:=st.mem x (List.mem_of_getElem? hx)
  have et:(es.take (i + 1)).filter (fil last)=(es.take i).filter (fil last)++if (a:Int)=last then [stU s y a b] else []:=by
   rw [List.take_succ,hx,List.filter_append]
   congr 1
   show List.filter (fil last) [stU s y a b]=_
   by_cases ce:(a:Int)=last
   ·rw [if_pos ce]; simp [fil,stU,ce]
   ·rw [if_neg ce]; simp [fil,stU,ce]
  simp! only [stU,ix_t (jaR _ _ _)]
  by_cases ce:(a:Int)=last
  ·rw [if_pos (by simpa using ce)]
   rw [if_pos ce] at et
   exact hk _ _ ⟨rfl,et.symm⟩
  ·rw [if_neg (by simpa using ce)]
   rw [if_neg ce,List.append_nil] at et
   exact hn' _ ⟨rfl,et.symm⟩
end

set_option maxHeartbeats 2000000
section
variable {k:Nat}{G:Gp}{Q:K1}{X:KX}{f c:Addr}{n W:Nat}{xs:List Str}{ss:List Spn}
theorem jf7 (hf:Fn G f c n)(hn:n<=890000000)(so:∀ s∈ss,s.Ok W)(sl:ss.length<=24)(w8:W<=8)(xl:xs.length=W)(ne:ss≠[])(q:∀ us G',(∀ e∈us,Ew ss.length e)->us≠[]->us.length<=20->Fn G' f c (n + 7)->Sm f G G'->Q (.tup us) G'):jab T (k + 2) jcf [.loc f,jak xs ss] G Q X:=by
 have s0:0 < ss.length:=List.length_pos_iff.mpr ne
 refine ⟨rfl,?_⟩
 simp! only [jdn,jad,List.replicate]
 refine ⟨by decide,jhe (k:=k) (xs:=xs) so sl fun pe es G1 s1 ge st el=>?_⟩
 simp! only []
 refine ⟨by decide,ji3 (k:=k) (ss:=ss) st w8 xl ge fun pd kvs G2 s2 gd hw=>?_⟩
 have S2:=s1.trans s2
 have f2:=hf.sa S2
 have ge2:=s2 _ _ ge
 simp! only [jcn,jd6 ge2]
 refine jac f2 (by omega) (by omega) (by omega) fun r G3 a3 b3 f3 s3=>?_
 have pef:pe≠f:=fun z=>by
  obtain ⟨ns,a,l,t,e1,_⟩:=f2.ex
  rw [z,e1] at ge2; cases ge2
 have pdf:∀ {G':Gp},pd=f->dGet kvs (.inl (0:Int))=none:=fun {G'} z=>by
  obtain ⟨ns,a,l,t,e1,_⟩:=f2.ex
  rw [z,e1] at gd
  have:=(MO.dK.inj (Option.some.inj gd)).symm
  rw [this]
  simp [dGet,fdU]
 have w0:0 < W:=by
  obtain ⟨sp,hsp⟩:=List.exists_mem_of_ne_nil _ ne
  have:=(so sp hsp).o
  omega
 have pdf:pd≠f:=fun z=>by
  have e:=pdf (G':=G) z
  obtain ⟨r,us,e',_⟩:=hw 0 w0
  rw [show ((0:Nat):Int)=0 from rfl,e] at e'; cases e'
 refine jcU (s3 _ _ pef ge2) a3 b3 fun u hu=>?_
 obtain ⟨s,y,a,b,rfl,hs,hy,ha,hb⟩:=st.mem u hu
 simp! only [stU]
 refine ⟨trivial,by decide,?_⟩
 simp! only [jcm]
 refine ⟨by decide,fun p4 G4 n4=>jac (f3.new n4) (by omega) (by decide) (by decide) fun r5 G5 a5 b5 f5 s5=>?_⟩
 refine jaz [0,1,2,5] (s5 _ _ (f3.away n4).1 n4.at) a5 b5 fun z hz=>?_
 have hz':0<=z/\z<=5:=by simp only [List.mem_cons,List.not_mem_nil,or_false] at hz; omega
 obtain ⟨R,rfl⟩:=Int.eq_ofNat_of_zero_le hz'.1
 have S25:Sm f G2 G5:=(s3.nw n4).trans s5
 have S5:Sm f G G5:=S2.sm.trans S25
 simp! only []
 refine ⟨by omega,by omega,?_⟩
 refine jaU (fun i ς G'=>∃ (us:List U) (last:Nat) (o4 o8 o9 o10:Option U),ς=[some (.loc f),some (jak xs ss),some (.loc pe),some (.loc pd),o4,some (.int a),some (.int last),some (.tup us),o8,o9,o10]/\(∀ e∈us,Ew ss.length e)/\us.length=i + 1/\last < W/\(∃ s y b,stU s y last b∈es)/\Fn G' f c (n + 2 + i)/\Sm f G2 G') ?_ ?_ ⟨_,b,_,_,_,_,rfl,fun e he=>by rw [List.mem_singleton.mp he]; exact ⟨s,y,rfl,hs,hy⟩,rfl,hb,st.sym _ _ _ _ hu,f5,S25⟩
 ·rintro ς G6 ⟨us,last,o4,o8,o9,o10,rfl,hus,ul,hlast,_,f6,s6⟩
  rw [jaM] at ul f6
  refine ⟨trivial,?_⟩
  have gd6:=s6 _ _ pdf gd
  obtain ⟨r1,u1,e1,h1,l1⟩:=hw last hlast
  obtain ⟨r2,u2,e2,h2,l2⟩:=hw a ha
  simp! only [jcl,jhk gd6 e1,ix_t (jaR _ _ _)]
  refine jf9 (k:=k) h1 (by omega) fun vs G7 s7 hv vl=>?_
  simp! only [jhk (s7 _ _ gd6) e2,ix_t (jaR _ _ _)]
  refine ⟨Nat.le_trans (show us.length + vs.length<=60 by omega) (by decide),Nat.le_trans (show (us++vs).length + u2.length<=60 by rw [List.length_append]; omega) (by decide),?_⟩
  refine q _ G7 (fun e he=>?_) (fun z=>by have:=congrArg List.length z; rw [List.length_append,List.length_append] at this; simp only [List.length_nil] at this; omega) (by simp only [List.length_append]; omega) ((f6.sa s7).mono (by omega)) ((S2.sm.trans s6).trans s7.sm)
  rcases List.mem_append.mp he with he | he
  ·rcases List.mem_append.mp he with he | he
   ·exact hus e he
   ·exact hv e he
  ·exact h2 e he
 ·rintro i x ς G6 K hx ⟨us,last,o4,o8,o9,o10,rfl,hus,ul,hlast,hst,f6,s6⟩ hk
  obtain ⟨hi,rfl⟩:=ja7 hx
  refine ⟨trivial,?_⟩
  refine jie (k:=k) (W:=W) f6 (by omega) st (by omega) (s6 _ _ pef ge2) hst hus (by omega) fun e last' o9 o10 G7 he hl' hs' f7 s7=>hk _ _ ⟨_,last',_,_,_,_,rfl,fun e' he'=>?_,by rw [List.length_append,ul]; rfl,hl',hs',f7,s6.trans s7⟩
  rcases List.mem_append.mp he' with he' | he'
  ·exact hus e' he'
  ·rw [List.mem_singleton.mp he']; exact he
end

set_option maxHeartbeats 2000000
theorem jge {us:List U}{G:Gp}{kk:Bool->Prop}{n:Nat}(sm:Sml n (.tup us))(hn:n<=100)(q:kk us.isEmpty):eqU (.tup us) (.tup []) G kk:=by
 refine ⟨_,_,jjw (u:=.tup us) sm.b,.tup .nil,sm.small hn,⟨rfl,by decide⟩,?_⟩
 have:PyData.eqv (pd (.tup us)) (.tuple [])=us.isEmpty:=by
  show PyData.eqvAll (pds us) []=_
  rw [jdl,jf2]
  cases us <;> rfl
 rw [this]; exact q
theorem jdR {W:Nat}{ss:List Spn}(so:∀ s∈ss,s.Ok W):Sml 2 (.tup (ss.map Spn.u)):=Sml.tup (n:=1) fun u hu=>by
 obtain ⟨s,hs,rfl⟩:=List.mem_map.mp hu
 exact (so s hs).sml
noncomputable def Pr (N:Nat)(u:U):Prop:=∃ (z:Int) (us:List U),u=.tup [.int z,.tup us]/\(1<=z/\z<=999)/\(∀ e∈us,Ew N e)/\us.length<=20
section
variable {k:Nat}{G:Gp}{Q:K1}{X:KX}{f c:Addr}{n W:Nat}{xs:List Str}{ss:List Spn}
theorem jc9 (hf:Fn G f c n)(hn:n<=880000000)(so:∀ s∈ss,s.Ok W)(sl:ss.length<=24)(w8:W<=8)(xl:xs.length=W)(q:∀ ps G',(∀ u∈ps,Pr ss.length u)->ps.length<=24->Fn G' f c (n + 400)->Sm f G G'->Q (.tup ps) G'):jab T (k + 3) jba [.loc f,jak xs ss] G Q X:=by
 refine ⟨rfl,?_⟩
 simp! only [jbb,jad,List.replicate]
 refine ⟨by decide,fun p G1 n1=>?_⟩
 have f1:=hf.new n1
 have hp:=hf.away n1
 simp! only [jaY]
 refine ⟨by decide,fun p2 G2 n2=>jac (f1.new n2) (by omega) (by decide) (by decide) fun r3 G3 a3 b3 f3 s3=>?_⟩
 refine jaz [0,1,2,3,5,24] (s3 _ _ (f1.away n2).1 n2.at) a3 b3 fun z hz=>?_
 have hz':0<=z/\z<=24:=by simp only [List.mem_cons,List.not_mem_nil,or_false] at hz; omega
 simp! only [jak,ix_t (jaR _ _ _)]
 refine ⟨by decide,jge (jdR so) (by decide) ?_⟩
 refine ⟨.inl (by omega),?_⟩
 have g3:G3 p=some (.lst []):=s3 _ _ hp.1 (n2.sa _ _ n1.at)
 have S3:Sm f G G3:=(n1.sa.sm.nw n2).trans s3
 obtain ⟨R,hR,R24,Rn⟩:∃ R:Nat,z * (if (!(ss.map Spn.u).isEmpty)=true then (1:Int) else 0)=(R:Int)/\R<=24/\(0 < R->ss≠[]):=by
  by_cases e:ss=[]
  ·subst e
   exact ⟨0,by simp,by omega,fun h=>absurd h (by omega)⟩
  ·have:(ss.map Spn.u).isEmpty=false:=by cases ss with | nil=>exact absurd rfl e | cons=>rfl
   rw [this]
   obtain ⟨m,rfl⟩:=Int.eq_ofNat_of_zero_le hz'.1
   exact ⟨m,by simp,by omega,fun _=>e⟩
 rw [hR]
 simp! only []
 refine ⟨by omega,by omega,?_⟩
 refine jaU (fun i ς G'=>∃ ps o3 o4,ς=[some (.loc f),some (jak xs ss),some (.loc p),o3,o4]/\G' p=some (.lst ps)/\(∀ u∈ps,Pr ss.length u)/\ps.length=i/\Fn G' f c (n + 1 + 10 * i)/\Sm f G G') ?_ ?_ ⟨[],_,_,rfl,g3,fun _ h=>(nomatch h),rfl,f3,S3⟩
 ·rintro ς G4 ⟨ps,o3,o4,rfl,g4,hps,pl,f4,s4⟩
  rw [jaM] at pl f4
  refine ⟨trivial,?_⟩
  simp! only []
  rw [it_l g4]
  exact q ps G4 hps (by omega) (f4.mono (by omega)) s4
 ·rintro i x ς G4 K hx ⟨ps,o3,o4,rfl,g4,hps,pl,f4,s4⟩ hk
  obtain ⟨hi,rfl⟩:=ja7 hx
  refine ⟨trivial,?_⟩
  simp! only [jaG]
  refine jac f4 (by omega) (by decide) (by decide) fun ra Ga aa ba fa sa=>jac fa (by omega) (by decide) (by decide) fun rb Gb ab bb fb sb=>⟨by decide,fun pc Gc nc=>jac (fb.new nc) (by omega) (by decide) (by decide) fun rd Gd ad bd fd sd=>?_⟩
  refine jaz [1,1 + ra,1 + rb,999] (sd _ _ (fb.away nc).1 nc.at) ad bd fun y hy=>?_
  have hy':1<=y/\y<=999:=by simp only [List.mem_cons,List.not_mem_nil,or_false] at hy; omega
  have S4d:Sm f G4 Gd:=((sa.trans sb).nw nc).trans sd
  have gd:=S4d _ _ hp.1 g4
  simp! only [je6 gd]
  refine jf7 (k:=k) fd (by omega) so sl w8 xl (Rn (by omega)) fun us Ge hus une ul fe se=>⟨by decide,?_⟩
  have ge:=se _ _ hp.1 gd
  rw [jgO ge]
  refine ⟨Nat.lt_of_le_of_lt (show ps.length<=24 by omega) (by decide),fun Gf pf=>hk _ _ ⟨_,_,_,rfl,pf.at,fun u hu=>?_,by rw [List.length_append,pl]; rfl,(fe.off hp pf).mono (by omega),fun b o hb e=>pf.sm _ _ (fun z=>?_) (se _ _ hb (S4d _ _ hb (s4 _ _ hb e)))⟩⟩
  ·rcases List.mem_append.mp hu with hu | hu
   ·exact hps u hu
   ·rw [List.mem_singleton.mp hu]; exact ⟨y,us,rfl,hy',hus,ul⟩
  ·rw [z,n1.no] at e; cases e
end

set_option maxHeartbeats 2000000
mutual
noncomputable def wt:PyData->Nat
 | .none=>5
 | .bool _=>5
 | .int _=>50
 | .str x=>10 * x.length + 2
 | .tuple ds=>wtA ds + 3
 | .list ds=>wtA ds + 3
 | .dict _=>2
noncomputable def wtA:List PyData->Nat
 | []=>0
 | d::r=>wt d + 2 + wtA r
end
mutual
noncomputable def wkD (j:Nat):PyData->Prop
 | .none=>True
 | .bool _=>True
 | .int i=>i.natAbs<=10 ^ 39 + j
 | .str x=>∀ c∈x.cps.toList,c < 16 ^ 8
 | .tuple ds=>wkA j ds
 | .list ds=>wkA j ds
 | .dict l=>l=[]
noncomputable def wkA (j:Nat):List PyData->Prop
 | []=>True
 | d::r=>wkD j d/\wkA j r
end
theorem jdN {ts:List Str}:(tupleText ts).length<=piled ts + 3:=by
 have two:∀ b:Bool,((((if b=true then ",)" else ")"):String):Str)).length<=2:=by decide
 have z:=two (ts.length == 1)
 have one:(("(" : String):Str).length=1:=rfl
 have:=jgo ts
 simp only [tupleText,strLen_append] at z ⊢
 omega
theorem jeE {ts:List Str}:(listText ts).length<=piled ts + 3:=by
 have:=jcJ ts 0 "["
 have one:(("[" : String):Str).length=1/\(("]" : String):Str).length=1:=⟨rfl,rfl⟩
 simp only [listText,strLen_append]
 omega
theorem jhq {i:Int}(h:i.natAbs < 10 ^ 45):Fits 50 0 (.int i):=by
 have hl:i.natAbs.log2 < 1920:=by
  by_cases z:i.natAbs=0
  ·rw [z]; decide
  ·exact Nat.lt_of_lt_of_le ((Nat.log2_lt z).mpr (Nat.lt_of_lt_of_le h (by decide:10 ^ 45<=2 ^ 160))) (by decide)
 refine ⟨by simp [PyData.showable,hl],?_,Nat.le_refl _⟩
 simp only [PyData.shown]
 have:=int_text_length_le10 (a:=i) (k:=45) (by decide) h
 show (PySem.Str.ofString (toString i)).length<=50
 rw [ofString_length]
 omega
mutual
theorem jle {j:Nat}(hj:j<=1000):∀ {d:PyData},wkD j d->Fits (wt d) d.depth d
 | .none,_=>Fits.non.mono (by decide) (Nat.zero_le _)
 | .bool b,_=>(Fits.bl b).mono (Nat.le_refl _) (Nat.zero_le _)
 | .int i,h=>(jhq (Nat.lt_of_le_of_lt (show i.natAbs<=10 ^ 39 + j from h) (Nat.lt_of_le_of_lt (Nat.add_le_add_left hj _) (by decide)))).mono (Nat.le_refl _) (Nat.zero_le _)
 | .str x,h=>(Fits.str (m:=x.length) (Nat.le_refl _) h).mono (Nat.le_refl _) (Nat.zero_le _)
 | .tuple ds,h=>by
  obtain ⟨h1,h2⟩:=jgw hj (ds:=ds) h
  refine ⟨by simp only [PyData.showable]; exact h1,?_,Nat.le_refl _⟩
  simp only [PyData.shown]
  exact Nat.le_trans jdN (Nat.add_le_add_right h2 3)
 | .list ds,h=>by
  obtain ⟨h1,h2⟩:=jgw hj (ds:=ds) h
  refine ⟨by simp only [PyData.showable]; exact h1,?_,Nat.le_refl _⟩
  simp only [PyData.shown]
  exact Nat.le_trans jeE (Nat.add_le_add_right h2 3)
 | .dict l,h=>by
  have h:l=[]:=h
  subst h
  exact ⟨Fits.dic.sh,Fits.dic.ln,Nat.le_refl _⟩
theorem jgw {j:Nat}(hj:j<=1000):∀ {ds:List PyData},wkA j ds->PyData.showableAll ds=true/\piled (PyData.shownAll ds)<=wtA ds
 | [],_=>⟨rfl,Nat.le_refl _⟩
 | d::r,h=>by
  have f:=jle hj (d:=d) h.1
  obtain ⟨h1,h2⟩:=jgw hj (ds:=r) h.2
  refine ⟨by simp [PyData.showableAll,f.sh,h1],?_⟩
  show piled (d.shown::PyData.shownAll r)<=wt d + 2 + wtA r
  rw [piled_cons]
  have:=f.ln
  omega
end
structure Bx (w k j:Nat)(d:PyData):Prop where
 ok:wkD j d
 w:wt d<=w
 k:d.depth<=k
structure BxA (w k j:Nat)(ds:List PyData):Prop where
 ok:wkA j ds
 w:wtA ds<=w
 k:PyData.depthAll ds<=k
theorem jbc {j:Nat}:∀ {ds:List PyData},wkA j ds↔∀ d∈ds,wkD j d
 | []=>⟨fun _ _ h=>(nomatch h),fun _=>trivial⟩
 | d::r=>by
  show (wkD j d/\wkA j r)↔_
  rw [jbc (ds:=r)]
  simp
theorem jbw:∀ {ds:List PyData} {d:PyData},d∈ds->d.depth<=PyData.depthAll ds
 | e::r,d,h=>by
  show _<=max e.depth (PyData.depthAll r)
  rcases List.mem_cons.mp h with rfl | h
  ·exact Nat.le_max_left _ _
  ·exact Nat.le_trans (jbw h) (Nat.le_max_right _ _)
theorem jbz:∀ (ds es:List PyData),wtA (ds++es)=wtA ds + wtA es
 | [],es=>by simp [wtA]
 | d::r,es=>by
  show wt d + 2 + wtA (r++es)=wt d + 2 + wtA r + wtA es
  rw [jbz r es]; omega
theorem jeT:∀ (ds:List PyData) (n:Nat),wtA (ds.take n)<=wtA ds
 | _,0=>Nat.zero_le _
 | [],_ + 1=>Nat.le_refl _
 | d::r,n + 1=>Nat.add_le_add_left (jeT r n) _
theorem jeU:∀ (ds:List PyData) (n:Nat),wtA (ds.drop n)<=wtA ds
 | _,0=>Nat.le_refl _
 | [],_ + 1=>Nat.le_refl _
 | d::r,n + 1=>Nat.le_trans (jeU r n) (Nat.le_add_left _ _)
theorem jfJ:∀ ds:List PyData,wtA ds.reverse=wtA ds
 | []=>rfl
 | d::r=>by
  rw [List.reverse_cons,jbz,jfJ r]
  show wtA r + (wt d + 2 + 0)=wt d + 2 + wtA r
  omega
theorem jhz:∀ {ds:List PyData} {d:PyData},d∈ds->wt d + 2<=wtA ds
 | e::r,d,h=>by
  show _<=wt e + 2 + wtA r
  rcases List.mem_cons.mp h with rfl | h
  ·omega
  ·have:=jhz h; omega
section
variable {w w' k k' j j':Nat}{d:PyData}{ds es:List PyData}
theorem jeV (h:j<=j'):wkD j d->wkD j' d:=by
 intro hd
 exact (go h d).1 hd
where
 go {j j':Nat} (h:j<=j') (d:PyData):(wkD j d->wkD j' d)/\True:=⟨fun hd=>aux h hd,trivial⟩
 aux {j j':Nat} (h:j<=j'):∀ {d:PyData},wkD j d->wkD j' d
  | .none,_=>trivial
  | .bool _,_=>trivial
  | .int i,hd=>Nat.le_trans (show i.natAbs<=10 ^ 39 + j from hd) (Nat.add_le_add_left h _)
  | .str _,hd=>hd
  | .tuple ds,hd=>auxA h (ds:=ds) hd
  | .list ds,hd=>auxA h (ds:=ds) hd
  | .dict _,hd=>hd
 auxA {j j':Nat} (h:j<=j'):∀ {ds:List PyData},wkA j ds->wkA j' ds
  | [],_=>trivial
  | _::_,hd=>⟨aux h hd.1,auxA h hd.2⟩
theorem Bx.mono (h:Bx w k j d)(h1:w<=w')(h2:k<=k')(h3:j<=j'):Bx w' k' j' d:=⟨jeV h3 h.ok,Nat.le_trans h.w h1,Nat.le_trans h.k h2⟩
theorem Bx.ft (h:Bx w k j d)(hj:j<=1000):Fits w k d:=(jle hj h.ok).mono h.w h.k
theorem BxA.sub (h:BxA w k j ds)(hs:∀ d∈es,d∈ds)(hw:wtA es<=w'):BxA w' k j es:=⟨jbc.mpr fun d hd=>jbc.mp h.ok d (hs d hd),hw,ja1 fun d hd=>Nat.le_trans (jbw (hs d hd)) h.k⟩
theorem BxA.take (h:BxA w k j ds)(n:Nat):BxA w k j (ds.take n):=h.sub (fun _=>List.mem_of_mem_take) (Nat.le_trans (jeT ds n) h.w)
theorem BxA.drop (h:BxA w k j ds)(n:Nat):BxA w k j (ds.drop n):=h.sub (fun _=>List.mem_of_mem_drop) (Nat.le_trans (jeU ds n) h.w)
theorem BxA.cut (h:BxA w k j ds)(lo hi:Option Int):BxA w k j (Z.cut ds lo hi):=(h.drop _).take _
theorem BxA.rev (h:BxA w k j ds):BxA w k j ds.reverse:=h.sub (fun _=>List.mem_reverse.mp) (by rw [jfJ]; exact h.w)
theorem BxA.app (h:BxA w k j ds)(h':BxA w' k j es):BxA (w + w') k j (ds++es):=by
 refine ⟨jbc.mpr fun d hd=>?_,by rw [jbz]; exact Nat.add_le_add h.w h'.w,ja1 fun d hd=>?_⟩ <;> rcases List.mem_append.mp hd with hd | hd
 ·exact jbc.mp h.ok d hd
 ·exact jbc.mp h'.ok d hd
 ·exact Nat.le_trans (jbw hd) h.k
 ·exact Nat.le_trans (jbw hd) h'.k
theorem BxA.one (h:Bx w k j d):BxA (w + 2) k j [d]:=⟨⟨h.ok,trivial⟩,Nat.add_le_add_right h.w 2,ja1 fun e he=>by rw [List.mem_singleton.mp he]; exact h.k⟩
theorem BxA.tup (h:BxA w k j ds):Bx (w + 3) (k + 1) j (.tuple ds):=⟨h.ok,Nat.add_le_add_right h.w 3,Nat.succ_le_succ h.k⟩
theorem BxA.lst (h:BxA w k j ds):Bx (w + 3) (k + 1) j (.list ds):=⟨h.ok,Nat.add_le_add_right h.w 3,Nat.succ_le_succ h.k⟩
theorem BxA.mem (h:BxA w k j ds)(hd:d∈ds):Bx w k j d:=⟨jbc.mp h.ok d hd,Nat.le_trans (Nat.le_trans (Nat.le_add_right _ 2) (jhz hd)) h.w,Nat.le_trans (jbw hd) h.k⟩
theorem BxA.mono (h:BxA w k j ds)(h1:w<=w')(h2:k<=k')(h3:j<=j'):BxA w' k' j' ds:=⟨jbc.mpr fun d hd=>jeV h3 (jbc.mp h.ok d hd),Nat.le_trans h.w h1,Nat.le_trans h.k h2⟩
end

set_option maxHeartbeats 2000000
noncomputable def Ob (w k j:Nat)(G:Gp)(u:U):Prop:=∃ d,Th G u d/\Bx w k j d
theorem ji8 {α:Type}{l:List α}{n:Nat}{x:α}(h:x∈(List.replicate n l).flatten):x∈l:=by
 obtain ⟨m,hm,hx⟩:=List.mem_flatten.mp h
 rw [(List.mem_replicate.mp hm).2] at hx; exact hx
theorem jb6 (x:String):∀ c∈(Str.ofString x).cps.toList,c < 0x110000:=by
 rw [Str.ofString_eq_byList]
 unfold Str.ofStringByList
 intro c hc
 have hc:c∈(x.toList.map Char.toNat):=by simpa using hc
 obtain ⟨ch,_,rfl⟩:=List.mem_map.mp hc
 have:=ch.valid
 unfold UInt32.isValidChar Nat.isValidChar at this
 show ch.val.toNat < _
 omega
section
variable {k:Nat}{G G':Gp}{Q:K1}{X:KX}{f c p:Addr}{n w k0 j:Nat}{u:U}{d:PyData}{us:List U}{u1 u3 u4:Option U}
theorem Ob.sa (h:Ob w k0 j G u)(s:Sa G G'):Ob w k0 j G' u:=let ⟨d,t,b⟩:=h; ⟨d,t.sa s,b⟩
theorem Ob.mn (h:Ob w k0 j G u)(hf:Fn G f c n)(s:Sm f G G'):Ob w k0 j G' u:=let ⟨d,t,b⟩:=h; ⟨d,t.mono hf s,b⟩
noncomputable def hide (G:Gp)(p:Addr):Gp:=fun b=>if b=p then none else G b
theorem jbu {G:Gp}{p:Addr}:Sa (hide G p) G:=fun b o e=>by
 unfold hide at e; split at e
 ·cases e
 ·exact e
theorem jbQ {G:Gp}{p b:Addr}{o:MO}(e:G b=some o)(h:b≠p):hide G p b=some o:=by unfold hide; rw [if_neg h]; exact e
theorem Sm.hide {f p:Addr}{G G':Gp}(s:Sm f G G'):Sm f (hide G p) (hide G' p):=fun b o hb e=>by
 by_cases z:b=p
 ·unfold Z.hide at e; rw [if_pos z] at e; cases e
 ·exact jbQ (s b o hb (jbu b o e)) z
theorem Sa.hide {p:Addr}{G G':Gp}(s:Sa G G'):Sa (hide G p) (hide G' p):=fun b o e=>by
 by_cases z:b=p
 ·unfold Z.hide at e; rw [if_pos z] at e; cases e
 ·exact jbQ (s b o (jbu b o e)) z
structure Hd (G:Gp)(p0 f c:Addr):Prop where
 nf:p0≠f
 nc:p0≠c
 ex:∃ o,G p0=some o
theorem Hd.sm {p0:Addr}(h:Hd G p0 f c)(s:Sm f G G'):Hd G' p0 f c:=⟨h.nf,h.nc,let ⟨o,e⟩:=h.ex; ⟨o,s _ _ h.nf e⟩⟩
theorem Hd.sa {p0:Addr}(h:Hd G p0 f c)(s:Sa G G'):Hd G' p0 f c:=h.sm s.sm
theorem Hd.nw {p0 p:Addr}{o:MO}(h:Hd G p0 f c)(n:New G p o G'):Z.hide G' p0 p=some o:=jbQ n.at fun z=>by
 obtain ⟨o',e⟩:=h.ex
 rw [<- z,n.no] at e; cases e
theorem Fn.hide {p0:Addr}(h:Fn G f c n)(hd:Hd G p0 f c):Fn (hide G p0) f c n:=let ⟨ns,a,l,t,h1,h2,h3⟩:=h.ex; ⟨ns,a,l,t,jbQ h1 (Ne.symm hd.nf),jbQ h2 (Ne.symm hd.nc),h3⟩
noncomputable def Oh (p0:Addr)(w k j:Nat)(G:Gp)(u:U):Prop:=Ob w k j (hide G p0) u
variable {p0:Addr}
theorem Oh.sa (h:Oh p0 w k0 j G u)(s:Sa G G'):Oh p0 w k0 j G' u:=Ob.sa (G:=Z.hide G p0) h s.hide
theorem Oh.mn (h:Oh p0 w k0 j G u)(hf:Fn G f c n)(hd:Hd G p0 f c)(s:Sm f G G'):Oh p0 w k0 j G' u:=Ob.mn (G:=Z.hide G p0) h (hf.hide hd) s.hide
theorem jkS (hf:Fn G f c n)(hd:Hd G p0 f c)(hn:n<=900000000)(g:G p=some (.lst us))(l0:0 < us.length)(l1:us.length<=1000)(ho:∀ u∈us,Oh p0 w k0 j G u)(q:∀ u' G',Oh p0 w k0 j G' u'->Fn G' f c (n + 1)->Sm f G G'->Q u' G') :
  jag T.gs (jab T (k + 1)) jaZ ⟨fun _ G'=>Q .non G',Q,fun x _ G'=>X x G'⟩ [some (.loc f),u1,some (.loc p),u3,u4] G:=by
 simp! only [jaZ,jd6 g]
 have pf:p≠f:=fun z=>by
  obtain ⟨ns,a,l,t,e1,_⟩:=hf.ex
  rw [z,e1] at g; cases g
 refine jac hf (by omega) (by omega) (by omega) fun r G1 a1 b1 f1 s1=>?_
 exact jcU (s1 _ _ pf g) a1 b1 fun u hu=>q u G1 ((ho u hu).mn hf hd s1) f1 s1
theorem jmI (hf:Fn G f c n)(hd:Hd G p0 f c)(q:∀ p us G',G' p=some (.lst us)->us.length=21->(∀ u∈us,Oh p0 600 3 0 G' u)->Sa G G'->jag T.gs (jab T (k + 1)) jbM ⟨fun _ G'=>Q .non G',Q,fun x _ G'=>X x G'⟩ [some (.loc f),some u,some (.loc p),none,none] G'):jab T (k + 2) jbq [.loc f,u] G Q X:=by
 refine ⟨rfl,?_⟩
 simp! only [jec,jad,List.replicate]
 refine ⟨⟨by decide,by decide,by decide⟩,by decide,by decide,fun p1 G1 n1=>⟨by decide,fun p2 G2 n2=>⟨by decide,by decide,by decide,by decide,fun p3 G3 n3=>⟨by decide,by decide,by decide,by decide,by decide,by decide,by decide,by decide,by decide,by decide,fun p4 G4 n4=>?_⟩⟩⟩⟩
 simp! only []
 refine ⟨_,_,n4.sa _ _ n3.at,n4.at,show 16 + 5<=sizeLine by decide,fun p5 G5 n5=>?_⟩
 have S5:Sa G G5:=(((n1.sa.trans n2.sa).trans n3.sa).trans n4.sa).trans n5.sa
 have g1:hide G5 p0 p1=some (.lst []):=((n2.sa.trans n3.sa).trans (n4.sa.trans n5.sa)).hide _ _ (hd.nw n1)
 have g2:hide G5 p0 p2=some (.dK []):=(n3.sa.trans (n4.sa.trans n5.sa)).hide _ _ ((hd.sa n1.sa).nw n2)
 have i0:∀ i:Int,i.natAbs<=10 ^ 39->Bx 50 0 0 (.int i):=fun i h=>⟨h,Nat.le_refl _,Nat.le_refl _⟩
 have s0:∀ x:String,x.length<=10->Bx 102 0 0 (.str (Str.ofString x)):=fun x h=>⟨fun c hc=>Nat.lt_trans (jb6 x c hc) (by decide),by show 10 * (Str.ofString x).length + 2<=102; rw [ofString_length]; omega,Nat.le_refl _⟩
 have nl:BxA 0 0 0 []:=⟨trivial,Nat.le_refl _,Nat.le_refl _⟩
 have pz:=(BxA.one (i0 0 (by decide))).tup
 have p01:=((BxA.one (i0 0 (by decide))).app (BxA.one (i0 1 (by decide)))).tup
 have p11:=(BxA.one p01).tup
 have sn:∀ x:String,x.length<=10->Bx 114 2 0 (.tuple [.str (Str.ofString x),.tuple []]):=fun x h=>((BxA.one ((s0 x h).mono (Nat.le_refl _) (by decide:0<=1) (Nat.le_refl _))).app (BxA.one nl.tup)).tup.mono (by decide) (Nat.le_refl _) (Nat.le_refl _)
 have sr:=((BxA.one ((s0 "ring" (by decide)).mono (Nat.le_refl _) (by decide:0<=2) (Nat.le_refl _))).app (BxA.one p11)).tup
 have up:∀ {w k:Nat} {u:U} {d:PyData},w<=600->k<=3->Th (hide G5 p0) u d->Bx w k 0 d->Oh p0 600 3 0 G5 u:=fun h1 h2 t b=>⟨_,t,b.mono h1 h2 (Nat.le_refl _)⟩
 refine q p5 _ G5 n5.at rfl (fun u hu=>?_) S5
 simp only [List.cons_append,List.nil_append,List.mem_cons,List.not_mem_nil,or_false] at hu
 rcases hu with rfl | rfl | rfl | rfl | rfl | rfl | rfl | rfl | rfl | rfl | rfl | rfl | rfl | rfl | rfl | rfl | rfl | rfl | rfl | rfl | rfl
 ·exact up (w:=5) (k:=0) (by decide) (by decide) .non ⟨trivial,Nat.le_refl _,Nat.le_refl _⟩
 ·exact up (w:=5) (k:=0) (by decide) (by decide) (.bl _) ⟨trivial,Nat.le_refl _,Nat.le_refl _⟩
 ·exact up (w:=5) (k:=0) (by decide) (by decide) (.bl _) ⟨trivial,Nat.le_refl _,Nat.le_refl _⟩
 ·exact up (by decide) (by decide) (.int _) (i0 _ (by decide))
 ·exact up (by decide) (by decide) (.int _) (i0 _ (by decide))
 ·exact up (by decide) (by decide) (.int _) (i0 _ (by decide))
 ·exact up (by decide) (by decide) (.int _) (i0 _ (by decide))
 ·exact up (by decide) (by decide) (.str _) (s0 "" (by decide))
 ·exact up (by decide) (by decide) (.str _) (s0 "ring" (by decide))
 ·exact up (by decide) (by decide) (.str _) (s0 "split" (by decide))
 ·exact up (by decide) (by decide) (.str _) (s0 "prices" (by decide))
 ·exact up (by decide) (by decide) (.tup .nil) nl.tup
 ·exact up (by decide) (by decide) (.lst g1 .nil) nl.lst
 ·exact up (w:=2) (k:=1) (by decide) (by decide) (.dic g2) ⟨rfl,Nat.le_refl _,Nat.le_refl _⟩
 ·exact up (by decide) (by decide) (.tup (.cons (.int _) .nil)) pz
 ·exact up (by decide) (by decide) (.tup (.cons (.tup (.cons (.int _) (.cons (.int _) .nil))) .nil)) p11
 ·exact up (by decide) (by decide) (.tup (.cons (.str _) (.cons (.tup .nil) .nil))) (sn "ring" (by decide))
 ·exact up (by decide) (by decide) (.tup (.cons (.str _) (.cons (.tup (.cons (.tup (.cons (.int _) (.cons (.int _) .nil))) .nil)) .nil))) sr
 ·exact up (by decide) (by decide) (.tup (.cons (.str _) (.cons (.tup .nil) .nil))) (sn "prices" (by decide))
 ·exact up (by decide) (by decide) (.tup (.cons (.str _) .nil)) (BxA.one (s0 "enough" (by decide))).tup
 ·exact up (by decide) (by decide) (.tup (.cons (.str _) (.cons (.int _) (.cons (.int _) .nil)))) (((BxA.one (s0 "home" (by decide))).app (BxA.one (i0 0 (by decide)))).app (BxA.one (i0 0 (by decide)))).tup
end

set_option maxHeartbeats 2000000
theorem jgj:∀ ds:List PyData,2 * ds.length<=wtA ds
 | []=>Nat.le_refl _
 | d::r=>by
  have:=jgj r
  show 2 * (r.length + 1)<=wt d + 2 + wtA r
  omega
theorem jhK {xs:List U}{G:Gp}{Q:K1}:revU (.tup xs) (.int (-1)) G Q=Q (.tup xs.reverse) G:=jkc
section
variable {k:Nat}{G:Gp}{Q:K1}{X:KX}{f c p:Addr}{n w k0 j:Nat}{u:U}{d:PyData}{us:List U}
theorem jmn {i:Int}{G:Gp}{Q:K1}:strU [.int i] G Q=(i.natAbs.log2 < 1920/\Q (.str (toString i:String)) G):=rfl
theorem jmo {b:Bool}{G:Gp}{Q:K1}:strU [.bl b] G Q=Q (.str (if b=true then ("True" : Str) else "False")) G:=rfl
theorem jgG {α:Type}(l:List α)(lo hi:Option Int):(Z.cut l lo hi).length<=l.length:=by
 unfold Z.cut
 rw [List.length_take,List.length_drop]
 omega
theorem Ths.take:∀ {us:List U} {ds:List PyData} (_:Ths G us ds) (n:Nat),Ths G (us.take n) (ds.take n)
 | _,_,_,0=>.nil
 | _,_,.nil,_ + 1=>.nil
 | _,_,.cons a b,n + 1=>.cons a (Ths.take b n)
theorem Ths.drop:∀ {us:List U} {ds:List PyData} (_:Ths G us ds) (n:Nat),Ths G (us.drop n) (ds.drop n)
 | _,_,h,0=>h
 | _,_,.nil,_ + 1=>.nil
 | _,_,.cons _ b,n + 1=>Ths.drop b n
theorem Ths.cut {us:List U}{ds:List PyData}(h:Ths G us ds)(lo hi:Option Int):Ths G (Z.cut us lo hi) (Z.cut ds lo hi):=by
 unfold Z.cut
 rw [h.length]
 exact (h.drop _).take _
theorem Ths.rev:∀ {us:List U} {ds:List PyData},Ths G us ds->Ths G us.reverse ds.reverse
 | _,_,.nil=>.nil
 | _,_,.cons a b=>by rw [List.reverse_cons,List.reverse_cons]; exact (Ths.rev b).append (.cons a .nil)
theorem jmQ {x:Str}{i:Int}{ch:Nat}{G:Gp}{Q:K1}(hl:x.length<=sizeLine)(h:atI x.cps.toList i=some ch):ixU (.str x) (.int i) G Q=Q (.str ⟨#[ch]⟩) G:=by
 unfold ixU
 dsimp only
 rw [h]
 exact propext ⟨fun h=>h.2,fun h=>⟨hl,h⟩⟩
structure Sk (m:Nat)(y:Str):Prop where
 l:y.length<=m
 c:∀ c∈y.cps.toList,c < 16 ^ 8
theorem Sk.app {m m':Nat}{y z:Str}(h:Sk m y)(h':Sk m' z):Sk (m + m') (y++z):=by
 refine ⟨by rw [strLen_append]; exact Nat.add_le_add h.l h'.l,fun c hc=>?_⟩
 have hc:c∈(y.cps++z.cps).toList:=hc
 rw [Array.toList_append] at hc
 rcases List.mem_append.mp hc with hc | hc
 ·exact h.c c hc
 ·exact h'.c c hc
theorem Sk.cut {m:Nat}{y:Str}(h:Sk m y)(lo hi:Option Int):Sk m (Txt.slice y lo hi):=by
 refine ⟨Nat.le_trans (Txt.slice_le y lo hi) h.l,fun c hc=>?_⟩
 unfold Txt.slice at hc
 split at hc
 ·exact h.c c hc
 ·have hc:c∈(List.filterMap (fun i=>y.cps[i]?) (Builtin.Str.strSliceIndices lo hi 1 y.length)):=by simpa using hc
  obtain ⟨i,_,e⟩:=List.mem_filterMap.mp hc
  exact h.c c (Array.mem_toList_iff.mpr (Array.mem_of_getElem? e))
variable {p0:Addr}
theorem jdF {vs:List U}{pv:Addr}{m:Nat}{u1 u3 u4:Option U}(hm:m<=6)(hf:Fn G f c n)(hd:Hd G p0 f c)(hn:n<=890000000)(g:G p=some (.lst us))(ul:us.length=21)(gv:G pv=some (.lst vs))(vl:vs.length<=6)(ho:∀ u∈us,Oh p0 w k0 j G u)(hv:∀ u∈vs,Oh p0 w k0 j G u)(q:∀ u' G',Oh p0 w k0 j G' u'->Fn G' f c (n + 1)->Sm f G G'->Q u' G') :
  binU .Mult (.loc pv) (.int m) G fun y G2=>binU .Add (.loc p) y G2 fun x G1=>jag T.gs (jab T (k + 1)) jaZ ⟨fun _ G'=>Q .non G',Q,fun x _ G'=>X x G'⟩ [some (.loc f),u1,some x,u3,u4] G1:=by
 have fl:(List.replicate m vs).flatten.length<=36:=by
  rw [List.length_flatten,List.map_replicate,List.sum_replicate_nat]
  exact Nat.le_trans (Nat.mul_le_mul hm vl) (by decide)
 refine ⟨_,gv,by omega,by omega,?_,fun p2 G2 n2=>⟨_,_,n2.sa _ _ g,n2.at,?_,fun p3 G3 n3=>?_⟩⟩
 ·exact Nat.le_trans (Nat.mul_le_mul vl (show Int.toNat m<=6 by omega)) (by decide)
 ·exact Nat.le_trans (show us.length + (List.replicate (Int.toNat m) vs).flatten.length<=60 by rw [Int.toNat_natCast]; omega) (by decide)
 have S:=n2.sa.trans n3.sa
 rw [Int.toNat_natCast] at n3
 refine jkS (k:=k) (hf.sa S) (hd.sa S) (by omega) n3.at (by rw [List.length_append]; omega) (by rw [List.length_append]; omega) (fun u hu=>?_) fun u' G' o f' s'=>q u' G' o f' (S.sm.trans s')
 rcases List.mem_append.mp hu with hu | hu
 ·exact (ho u hu).sa S
 ·exact (hv u (ji8 hu)).sa S
theorem jhU (hf:Fn G f c n)(hd:Hd G p0 f c)(hn:n<=880000000)(h:Th (hide G p0) u d)(hb:Bx w k0 j d)(hw:w<=1000000)(hj:j<=100)(q:∀ u' G',Oh p0 (2 * w + 600) (k0 + 3) (j + 1) G' u'->Fn G' f c (n + 3)->Sm f G G'->Q u' G'):jab T (k + 2) jbq [.loc f,u] G Q X:=by
 refine jmI (k:=k) hf hd fun p us G1 g1 ul ho s1=>?_
 have f1:=hf.sa s1
 have h1:=h.sa s1.hide
 have d1:=hd.sa s1
 have h1':=h1.sa jbu
 have ho':∀ u∈us,Oh p0 (2 * w + 600) (k0 + 3) (j + 1) G1 u:=fun u hu=>let ⟨d,t,b⟩:=ho u hu; ⟨d,t,b.mono (by omega) (by omega) (by omega)⟩
 have fin:∀ {u3 u4:Option U},jag T.gs (jab T (k + 1)) jaZ ⟨fun _ G'=>Q .non G',Q,fun x _ G'=>X x G'⟩ [some (.loc f),some u,some (.loc p),u3,u4] G1:=jkS (k:=k) f1 d1 (by omega) g1 (by omega) (by omega) ho' fun u' G' o f' s'=>q u' G' o (f'.mono (by omega)) (s1.sm.trans s')
 simp! only [jbM,jaH h1' (show "tuple" ∈ ["bool", "int", "str", "list", "tuple", "dict"] by decide),jaH h1' (show "int" ∈ ["bool", "int", "str", "list", "tuple", "dict"] by decide),jaH h1' (show "str" ∈ ["bool", "int", "str", "list", "tuple", "dict"] by decide)]
 cases h1 with
 | non=>exact fin
 | lst g h=>exact fin
 | dic g=>exact fin
 | @tup vs ds hv=>
  rw [show isD (.tuple ds) "tuple" = true from rfl,if_pos rfl]
  simp! only [jhK]
  intro p2 G2 n2
  have hw1:wtA ds + 3<=w:=hb.w
  have vl:vs.length<=500000:=by have:=jgj ds; have:=hv.length; omega
  have cl:=jgG vs none (some 1)
  refine ⟨Nat.le_trans (show vs.length + (Z.cut vs none (some 1)).length<=1000000 by omega) (by decide),by decide,by decide,fun p3 G3 n3=>?_⟩
  have S3:=n2.sa.trans n3.sa
  have hv3:Ths (hide G3 p0) vs ds:=hv.sa S3.hide
  have hk0:PyData.depthAll ds + 1<=k0:=hb.k
  have ba:BxA w k0 j ds:=⟨hb.ok,by omega,by omega⟩
  refine jdF (k:=k) (m:=3) (by decide) (f1.sa S3) (d1.sa S3) (by omega) (S3 _ _ g1) ul n3.at (Nat.le_refl 6) (fun u hu=>(ho' u hu).sa S3) (fun u hu=>?_) fun u' G' o f' s'=>q u' G' o (f'.mono (by omega)) ((s1.trans S3).sm.trans s')
  simp only [List.mem_cons,List.not_mem_nil,or_false] at hu
  rcases hu with rfl | rfl | rfl | rfl | rfl | rfl
  ·exact ⟨_,.lst (n3.sa.hide _ _ (d1.nw n2)) hv3,ba.lst.mono (by omega) (by omega) (by omega)⟩
  ·exact ⟨_,.tup (hv3.cut _ _),(ba.cut _ _).tup.mono (by omega) (by omega) (by omega)⟩
  ·exact ⟨_,.tup (hv3.cut _ _),(ba.cut _ _).tup.mono (by omega) (by omega) (by omega)⟩
  ·exact ⟨_,.tup (hv3.append (hv3.cut _ _)),(ba.app (ba.cut _ _)).tup.mono (by omega) (by omega) (by omega)⟩
  ·exact ⟨_,.tup hv3.rev,ba.rev.tup.mono (by omega) (by omega) (by omega)⟩
  ·exact ⟨_,.tup (.cons (.tup hv3) .nil),(BxA.one hb).tup.mono (by omega) (by omega) (by omega)⟩
 | int i=>
  rw [show isD (.int i) "tuple" = false from rfl,if_neg (by decide),show isD (.int i) "int" = true from rfl,if_pos rfl]
  simp! only [jmn]
  have hi:i.natAbs<=10 ^ 39 + j:=hb.ok
  have h45:i.natAbs < 10 ^ 45:=Nat.lt_of_le_of_lt hi (Nat.lt_of_le_of_lt (Nat.add_le_add_left hj _) (by decide))
  have hl:i.natAbs.log2 < 1920:=by
   by_cases z:i.natAbs=0
   ·rw [z]; decide
   ·exact Nat.lt_of_lt_of_le ((Nat.log2_lt z).mpr (Nat.lt_of_lt_of_le h45 (by decide:10 ^ 45<=2 ^ 160))) (by decide)
  refine ⟨hl,by decide,fun p2 G2 n2=>⟨by decide,fun p3 G3 n3=>?_⟩⟩
  have S3:=n2.sa.trans n3.sa
  have bi:∀ z:Int,z.natAbs<=i.natAbs + 1->Bx (2 * w + 600) (k0 + 3) (j + 1) (.int z):=fun z hz=>⟨Nat.le_trans hz (by show _<=10 ^ 39 + (j + 1); generalize 10 ^ 39=N at hi ⊢; omega),by show 50<=_; omega,Nat.zero_le _⟩
  refine jdF (k:=k) (m:=3) (by decide) (f1.sa S3) (d1.sa S3) (by omega) (S3 _ _ g1) ul n3.at (Nat.le_refl 6) (fun u hu=>(ho' u hu).sa S3) (fun u hu=>?_) fun u' G' o f' s'=>q u' G' o (f'.mono (by omega)) ((s1.trans S3).sm.trans s')
  simp only [List.mem_cons,List.not_mem_nil,or_false] at hu
  rcases hu with rfl | rfl | rfl | rfl | rfl | rfl
  ·exact ⟨_,.int _,bi _ (by omega)⟩
  ·exact ⟨_,.int _,bi _ (by omega)⟩
  ·exact ⟨_,.bl _,⟨trivial,by show 5<=_; omega,Nat.zero_le _⟩⟩
  ·exact ⟨_,.int _,bi _ (by omega)⟩
  ·refine ⟨_,.str _,⟨fun c hc=>Nat.lt_trans (jb6 _ c hc) (by decide),?_,Nat.zero_le _⟩⟩
   have:=int_text_length_le10 (a:=i) (k:=45) (by decide) h45
   show 10 * (Str.ofString (toString i)).length + 2<=_
   rw [ofString_length]
   omega
  ·exact ⟨_,.lst (n3.sa.hide _ _ (d1.nw n2)) (.cons (.int _) .nil),(BxA.one hb).lst.mono (by omega) (by omega) (by omega)⟩
 | bl b=>
  rw [show isD (.bool b) "tuple" = false from rfl,if_neg (by decide),show isD (.bool b) "int" = true from rfl,if_pos rfl]
  simp! only [jmo]
  refine ⟨.bool b,.int 1,.bl b,.int 1,⟨rfl,by cases b <;> decide⟩,⟨rfl,by decide⟩,by decide,fun p2 G2 n2=>⟨by decide,fun p3 G3 n3=>?_⟩⟩
  have S3:=n2.sa.trans n3.sa
  have bi:∀ z:Int,z.natAbs<=2->Bx (2 * w + 600) (k0 + 3) (j + 1) (.int z):=fun z hz=>⟨Nat.le_trans hz (Nat.le_trans (by decide:2<=10 ^ 39) (Nat.le_add_right _ _)),by show 50<=_; omega,Nat.zero_le _⟩
  refine jdF (k:=k) (m:=3) (by decide) (f1.sa S3) (d1.sa S3) (by omega) (S3 _ _ g1) ul n3.at (Nat.le_refl 6) (fun u hu=>(ho' u hu).sa S3) (fun u hu=>?_) fun u' G' o f' s'=>q u' G' o (f'.mono (by omega)) ((s1.trans S3).sm.trans s')
  simp only [List.mem_cons,List.not_mem_nil,or_false] at hu
  rcases hu with rfl | rfl | rfl | rfl | rfl | rfl
  ·exact ⟨_,.int _,bi _ (by cases b <;> decide)⟩
  ·exact ⟨_,.int _,bi _ (by cases b <;> decide)⟩
  ·exact ⟨_,.bl _,⟨trivial,by show 5<=_; omega,Nat.zero_le _⟩⟩
  ·exact ⟨_,.int _,bi _ (by cases b <;> decide)⟩
  ·refine ⟨_,.str _,⟨fun c hc=>?_,?_,Nat.zero_le _⟩⟩
   ·cases b
    ·exact Nat.lt_trans (jb6 "False" c hc) (by decide)
    ·exact Nat.lt_trans (jb6 "True" c hc) (by decide)
   ·have:(if b=true then (Str.ofString "True") else Str.ofString "False").length<=5:=by cases b <;> decide +kernel
    show 10 * _ + 2<=_
    omega
  ·exact ⟨_,.lst (n3.sa.hide _ _ (d1.nw n2)) (.cons (.bl _) .nil),(BxA.one hb).lst.mono (by omega) (by omega) (by omega)⟩
 | str x=>
  rw [show isD (.str x) "tuple" = false from rfl,if_neg (by decide),show isD (.str x) "int" = false from rfl,if_neg (by decide),show isD (.str x) "str" = true from rfl,if_pos rfl]
  simp! only []
  have hx:∀ c∈x.cps.toList,c < 16 ^ 8:=hb.ok
  have hw1:10 * x.length + 2<=w:=hb.w
  have xl:x.length<=100000:=by omega
  have xs:x.length<=sizeLine:=Nat.le_trans xl (by decide)
  refine ⟨xs,?_⟩
  simp! only []
  refine jac f1 (by omega) (by omega) (by omega) fun r G2 a2 b2 f2 s2=>jac f2 (by omega) (by decide) (by decide) fun r3 G3 a3 b3 f3 s3=>?_
  obtain ⟨ch,hch,ech⟩:=jgN (l:=(Str.ofString "abcdefghijklmnopqrstuvwxyz").cps.toList) (r:=r3) a3 (by rw [show (Str.ofString "abcdefghijklmnopqrstuvwxyz").cps.toList.length=26 by decide +kernel]; exact b3)
  rw [jmQ (by decide +kernel) ech]
  have sx:Sk x.length x:=⟨Nat.le_refl _,hx⟩
  have sc:Sk 1 (⟨#[ch]⟩:Str):=⟨Nat.le_refl _,fun c hc=>by
   have:c=ch:=by simpa using hc
   rw [this]; exact Nat.lt_trans (jb6 _ ch hch) (by decide)⟩
  have kA:=(sx.cut none (some r)).app sc
  have kB:=kA.app (sx.cut (some r) none)
  have kC:=kA.app (sx.cut (some (r + 1)) none)
  have kD:=sx.cut none (some (-1))
  have l1:=(sx.cut none (some r)).l
  have l2:=(sx.cut (some r) none).l
  have l3:=(sx.cut (some (r + 1)) none).l
  have lc:=sc.l
  have la:=kA.l
  simp! only []
  have le:∀ {m:Nat},m<=300000->m<=sizeLine:=fun h=>Nat.le_trans h (by decide)
  refine ⟨trivial,xs,le (by omega),xs,le (by omega),xs,le (by omega),xs,le (by omega),xs,by decide,fun p4 G4 n4=>?_⟩
  have S4:Sm f G1 G4:=(s2.trans s3).nw n4
  have f4:=f3.new n4
  have pf:p≠f:=fun z=>by
   obtain ⟨ns,a,l,t,e1,_⟩:=f1.ex
   rw [z,e1] at g1; cases g1
  have ob:∀ {m:Nat} {y:Str},Sk m y->m<=2 * x.length + 1->Oh p0 (2 * w + 600) (k0 + 3) (j + 1) G4 (.str y):=fun {m y} h hm=>⟨_,.str _,⟨h.c,by have:=h.l; show 10 * y.length + 2<=_; omega,Nat.zero_le _⟩⟩
  refine jdF (k:=k) (m:=6) (by decide) f4 (d1.sm S4) (by omega) (S4 _ _ pf g1) ul n4.at (by simp) (fun u hu=>(ho' u hu).mn f1 d1 S4) (fun u hu=>?_) fun u' G' o f' s'=>q u' G' o (f'.mono (by omega)) ((s1.sm.trans S4).trans s')
  simp only [List.mem_cons,List.not_mem_nil,or_false] at hu
  rcases hu with rfl | rfl | rfl
  ·exact ob kB (by omega)
  ·exact ob kC (by omega)
  ·exact ob kD (by omega)
end

set_option maxHeartbeats 2000000
section
variable {Q:K1}{X:KX}{f c p0:Addr}
theorem jfI {ds:List PyData}{r:Nat}{d:PyData}(h:ds[r]?=some d):wtA (ds.take r) + (wt d + 2) + wtA (ds.drop (r + 1))=wtA ds:=by
 have hr:r < ds.length:=(List.getElem?_eq_some_iff.mp h).1
 have e:ds=ds.take r++(d::ds.drop (r + 1)):=by
  have:ds.drop r=d::ds.drop (r + 1):=by
   rw [List.drop_eq_getElem_cons hr]
   congr 1
   exact (List.getElem?_eq_some_iff.mp h).2
  rw [<- this,List.take_append_drop]
 have:=congrArg wtA e
 rw [jbz] at this
 rw [this]
 show _=wtA (ds.take r) + (wt d + 2 + wtA (ds.drop (r + 1)))
 omega
theorem jey (k:Nat):∀ (D:Nat) {G:Gp} {u:U} {d:PyData} {w k0 j n:Nat} {Q:K1} (_:Fn G f c n) (_:Hd G p0 f c) (_:n + 2 * D<=800000000) (_:Th (hide G p0) u d) (_:Bx w k0 j d) (_:w<=1000000) (_:j<=100) (_:D<=5) (_:∀ u' G',Oh p0 (3 * w + 600) (k0 + 3) (j + 1) G' u'->Fn G' f c (n + 2 * D + 3)->Sm f G G'->Q u' G'),jab T (k + 3 + D) jbB [.loc f,u,.int D] G Q X
 | 0,G,u,d,w,k0,j,n,Q,hf,hd,hn,h,hb,hw,hj,_,q=>by
  have od:jab T (k + 2) jbq [.loc f,u] G Q fun x G1=>X x G1:=jhU (k:=k) hf hd (by omega) h hb hw hj fun u' G' ⟨d',t',b'⟩ f' s'=>q u' G' ⟨d',t',b'.mono (by omega) (by omega) (by omega)⟩ f' s'
  refine ⟨rfl,?_⟩
  simp! only [jci,jad,List.replicate,jaH (h.sa jbu) (show "tuple" ∈ ["bool", "int", "str", "list", "tuple", "dict"] by decide)]
  cases h with
  | @tup us ds hu=>
   rw [show isD (.tuple ds) "tuple" = true from rfl,if_neg (by decide)]
   simp! only []
   refine ⟨by decide,?_⟩
   cases us.isEmpty with
   | true=>rw [if_pos rfl]; exact od
   | false=>rw [if_neg (by decide),if_pos (by decide)]; exact od
  | _=>exact od
 | D + 1,G,u,d,w,k0,j,n,Q,hf,hd,hn,h,hb,hw,hj,hD,q=>by
  have ed:(k + 3).add D=k + 1 + D + 2:=by show k + 3 + D=_; omega
  have od:∀ (G0:Gp) (n0:Nat),n0<=n + 1->Fn G0 f c n0->Sm f G G0->jab T (k + 1 + D + 2) jbq [.loc f,u] G0 Q fun x G1=>X x G1:=fun G0 n0 h0 f0 s0=>
   jhU (k:=k + 1 + D) f0 (hd.sm s0) (by omega) (h.mono (hf.hide hd) s0.hide) hb hw hj fun u' G' ⟨d',t',b'⟩ f' s'=>q u' G' ⟨d',t',b'.mono (by omega) (by omega) (by omega)⟩ (f'.mono (by omega)) (s0.trans s')
  refine ⟨rfl,?_⟩
  simp! only [jci,jad,List.replicate,jaH (h.sa jbu) (show "tuple" ∈ ["bool", "int", "str", "list", "tuple", "dict"] by decide)]
  rw [ed]
  cases h with
  | @tup us ds hu=>
   rw [show isD (.tuple ds) "tuple" = true from rfl,if_neg (by decide)]
   simp! only []
   refine ⟨by decide,?_⟩
   cases ce:us.isEmpty with
   | true=>rw [if_pos rfl]; exact od G n (by omega) hf Sm.refl
   | false=>
    rw [if_neg (by decide),if_neg (by simp; omega)]
    refine jac (k:=k + 1 + D + 1) hf (by omega) (by decide) (by decide) fun r1 G1 a1 b1 f1 s1=>?_
    simp! only []
    by_cases cr:r1=0
    ·rw [if_pos (by simpa using cr)]
     exact od G1 (n + 1) (by omega) f1 s1
    ·rw [if_neg (by simpa using cr)]
     have hne:us≠[]:=fun z=>by rw [z] at ce; cases ce
     have u0:0 < us.length:=List.length_pos_iff.mpr hne
     have hw1:wtA ds + 3<=w:=hb.w
     have hl:=hu.length
     have lw:=jgj ds
     simp! only [jco]
     refine jac (k:=k + 1 + D + 1) f1 (by omega) (by omega) (by omega) fun r G2 a2 b2 f2 s2=>?_
     obtain ⟨r,rfl⟩:=Int.eq_ofNat_of_zero_le a2
     have hr:r < us.length:=by omega
     have ev:=List.getElem?_eq_getElem hr
     obtain ⟨dv,edv,tv⟩:=hu.get ev
     generalize us[r]=v at ev tv
     have sp:=jfI edv
     have hk1:PyData.depthAll ds + 1<=k0:=hb.k
     have ba:BxA w (k0 - 1) j ds:=⟨hb.ok,by omega,by omega⟩
     have bv:Bx (wt dv) (k0 - 1) j dv:=⟨(ba.mem (List.mem_of_getElem? edv)).ok,Nat.le_refl _,(ba.mem (List.mem_of_getElem? edv)).k⟩
     have S2:=s1.trans s2
     have c1:Z.cut us none (some (r:Int))=us.take r:=jeg us r
     have c2:Z.cut us (some ((r:Int) + 1)) none=us.drop (r + 1):=by rw [show (r:Int) + 1=((r + 1:Nat):Int) by omega,jff]
     simp! only [ix_t (jbR ev),c1,c2]
     rw [show ((D + 1:Nat):Int) - 1=(D:Int) by omega]
     rw [show k + 1 + D + 2=k + 3 + D by omega]
     refine jey k D f2 (hd.sm S2) (by omega) (tv.mono (hf.hide hd) S2.hide) bv (by omega) hj (by omega) fun u' G3 o' f3 s3=>?_
     obtain ⟨d',t',b'⟩:=o'
     have tl:(us.take r).length<=us.length:=by rw [List.length_take]; omega
     have dl:(us.drop (r + 1)).length<=us.length:=by rw [List.length_drop]; omega
     have S3:=S2.trans s3
     have hu3:=hu.mono (hf.hide hd) S3.hide
     refine ⟨by decide,Nat.le_trans (show (us.take r).length + 1<=600000 by omega) (by decide),Nat.le_trans (show (us.take r++[u']).length + (us.drop (r + 1)).length<=2000000 by rw [List.length_append]; show (us.take r).length + 1 + _<=_; omega) (by decide),?_⟩
     have b1:BxA (wtA (ds.take r)) (k0 + 2) (j + 1) (ds.take r):=(ba.sub (fun _=>List.mem_of_mem_take) (Nat.le_refl _)).mono (Nat.le_refl _) (by omega) (by omega)
     have b2:BxA (wtA (ds.drop (r + 1))) (k0 + 2) (j + 1) (ds.drop (r + 1)):=(ba.sub (fun _=>List.mem_of_mem_drop) (Nat.le_refl _)).mono (Nat.le_refl _) (by omega) (by omega)
     have b3:=(b1.app (BxA.one (b'.mono (Nat.le_refl _) (by omega) (Nat.le_refl _)))).app b2
     exact q _ G3 ⟨_,.tup (((hu3.take r).append (.cons t' .nil)).append (hu3.drop (r + 1))),b3.tup.mono (by omega) (by omega) (Nat.le_refl _)⟩ (f3.mono (by omega)) S3
  | _=>exact od G n (by omega) hf Sm.refl
end

set_option maxHeartbeats 2000000
noncomputable def RB (us:List U)(n:Nat):Prop:=∃ ds,(∀ G,Ths G us ds)/\BxA (109 * n) 1 0 ds
theorem ja5 {i:Int}(h:i.natAbs<=10 ^ 39):Bx 50 0 0 (.int i):=⟨h,Nat.le_refl _,Nat.le_refl _⟩
theorem RB.of {N:Nat}(hN:N<=24):∀ {us:List U},(∀ e∈us,Ew N e)->RB us us.length
 | [],_=>⟨[],fun _=>.nil,trivial,Nat.le_refl _,Nat.zero_le _⟩
 | u::r,h=>by
  obtain ⟨s,y,rfl,hs,hy⟩:=h u List.mem_cons_self
  obtain ⟨ds,t,b⟩:=RB.of hN fun e he=>h e (List.mem_cons_of_mem _ he)
  have y1:y.natAbs<=10 ^ 39:=by rcases hy with rfl | rfl <;> decide
  have s1:(s:Int).natAbs<=10 ^ 39:=Nat.le_trans (show (s:Int).natAbs<=24 by omega) (by decide)
  have be:Bx 107 1 0 (.tuple [.int s,.int y]):=((BxA.one (ja5 s1)).app (BxA.one (ja5 y1))).tup
  refine ⟨.tuple [.int s,.int y]::ds,fun G=>.cons (.tup (.cons (.int _) (.cons (.int _) .nil))) (t G),((BxA.one be).app b).mono ?_ (Nat.le_refl _) (Nat.le_refl _)⟩
  show 107 + 2 + 109 * r.length<=109 * (r.length + 1)
  omega
section
variable {us vs:List U}{n m:Nat}
theorem RB.app (h:RB us n)(h':RB vs m):RB (us++vs) (n + m):=by
 obtain ⟨ds,t,b⟩:=h
 obtain ⟨es,t',b'⟩:=h'
 exact ⟨ds++es,fun G=>(t G).append (t' G),(b.app b').mono (by omega) (Nat.le_refl _) (Nat.le_refl _)⟩
theorem RB.cut (h:RB us n)(lo hi:Option Int):RB (Z.cut us lo hi) n:=by
 obtain ⟨ds,t,b⟩:=h
 exact ⟨_,fun G=>(t G).cut lo hi,b.cut lo hi⟩
theorem RB.rev (h:RB us n):RB us.reverse n:=by
 obtain ⟨ds,t,b⟩:=h
 exact ⟨_,fun G=>(t G).rev,b.rev⟩
theorem RB.rep (h:RB us n):∀ k:Nat,RB (List.replicate k us).flatten (k * n)
 | 0=>⟨[],fun _=>.nil,trivial,Nat.zero_le _,Nat.zero_le _⟩
 | k + 1=>by
  rw [List.replicate_succ,List.flatten_cons,Nat.succ_mul,Nat.add_comm]
  exact h.app (RB.rep h k)
theorem RB.tup (h:RB us n)(hn:n<=100):∃ d,(∀ G,Th G (.tup us) d)/\Bx 11000 2 0 d:=by
 obtain ⟨ds,t,b⟩:=h
 exact ⟨_,fun G=>.tup (t G),b.tup.mono (by omega) (Nat.le_refl _) (Nat.le_refl _)⟩
end

set_option maxHeartbeats 2000000
section
variable {k:Nat}{G:Gp}{Q:K1}{X:KX}{f c:Addr}{n W:Nat}{xs:List Str}{ss:List Spn}
noncomputable abbrev Ab (G:Gp)(u:U):Prop:=Ob 300000 6 0 G u
theorem jal {x y:U}{dx dy:PyData}{a b:Nat}(hx:Th G x dx)(bx:Bx a 2 0 dx)(hy:Th G y dy)(by_:Bx b 2 0 dy)(h:a + b<=290000):Ab G (.tup [.tup [x,y]]):=
 ⟨_,.tup (.cons (.tup (.cons hx (.cons hy .nil))) .nil),(BxA.one ((BxA.one bx).app (BxA.one by_)).tup).tup.mono (by omega) (by omega) (Nat.le_refl _)⟩
theorem jhL {x:U}{d:PyData}(h:Th G x d):∀ m:Nat,Ths G (List.replicate m [x]).flatten (List.replicate m d)
 | 0=>.nil
 | m + 1=>by rw [List.replicate_succ,List.flatten_cons,List.replicate_succ]; exact .cons h (jhL h m)
theorem jhN {d:PyData}{a b:Nat}(h:Bx a b 0 d):∀ m:Nat,BxA (m * (a + 2)) b 0 (List.replicate m d)
 | 0=>⟨trivial,Nat.zero_le _,Nat.zero_le _⟩
 | m + 1=>by rw [List.replicate_succ,Nat.succ_mul,Nat.add_comm]; exact (BxA.one h).app (jhN h m)
theorem jhM {x:U}{d:PyData}{a m:Nat}(h:Th G x d)(hb:Bx a 3 0 d)(hm:m * (a + 2) + 3<=300000):Ab G (.tup (List.replicate m [x]).flatten):=
 ⟨_,.tup (jhL h m),(jhN hb m).tup.mono hm (by decide) (Nat.le_refl _)⟩
theorem ab_2 {us vs:List U}{p:Addr}{u1:Option U}(ru:RB us 20)(rv:RB vs 2)(vn:vs≠[])(vl:vs.length=2)(un:us≠[])(ul:us.length<=20)(q:∀ p ws G',G' p=some (.lst ws)->ws.length=8->(∀ u∈ws,Ab G' u)->Sa G G'->jag T.gs (jab T (k + 2)) jav ⟨fun _ G'=>Q .non G',Q,fun x _ G'=>X x G'⟩ [some (.loc f),u1,some (.tup us),some (.tup vs),some (.loc p)] G') :
  jag T.gs (jab T (k + 2)) jaI ⟨fun _ G'=>Q .non G',Q,fun x _ G'=>X x G'⟩ [some (.loc f),u1,some (.tup us),some (.tup vs),none] G:=by
 obtain ⟨du,tu,bu⟩:=ru.tup (by decide)
 simp! only [jaI]
 refine ⟨by decide,by decide,jei (fun x=>.tup [.tup [x,.tup us]]) trivial (fun x _ K hK=>⟨by decide,by decide,hK⟩) fun p G1 n1=>?_⟩
 refine q p _ G1 n1.at rfl (fun u hu=>?_) n1.sa
 have i0:∀ i:Int,i.natAbs<=1000->Bx 50 2 0 (.int i):=fun i h=>(ja5 (Nat.le_trans h (by decide))).mono (Nat.le_refl _) (by decide) (Nat.le_refl _)
 simp only [List.nil_append,List.map_cons,List.map_nil,List.mem_cons,List.not_mem_nil,or_false] at hu
 rcases hu with rfl | rfl | rfl | rfl | rfl | rfl | rfl | rfl
 ·exact jal (.int _) (i0 _ (by decide)) (tu G1) bu (by decide)
 ·exact jal (.int _) (i0 _ (by decide)) (tu G1) bu (by decide)
 ·exact jal (.int _) (i0 _ (by decide)) (tu G1) bu (by decide)
 ·exact jal (.int _) (i0 _ (by decide)) (tu G1) bu (by decide)
 ·exact jal (a:=5) (.bl _) ⟨trivial,Nat.le_refl _,Nat.zero_le _⟩ (tu G1) bu (by decide)
 ·exact jal (.int _) (i0 _ (by decide)) (tu G1) bu (by decide)
 ·exact jal (a:=5) .non ⟨trivial,Nat.le_refl _,Nat.zero_le _⟩ (tu G1) bu (by decide)
 ·exact jal (a:=12) (.str _) ⟨fun c hc=>Nat.lt_trans (jb6 "1" c hc) (by decide),by decide +kernel,Nat.zero_le _⟩ (tu G1) bu (by decide)
theorem ab_3 {us vs ws:List U}{p:Addr}{u1:Option U}(ru:RB us 20)(rv:RB vs 2)(vn:vs≠[])(vl:vs.length=2)(ul:us.length<=20)(g:G p=some (.lst ws))(wl:ws.length=8)(hw:∀ u∈ws,Ab G u)(q:∀ p ws G',G' p=some (.lst ws)->ws.length=12->(∀ u∈ws,Ab G' u)->Sa G G'->jag T.gs (jab T (k + 2)) jau ⟨fun _ G'=>Q .non G',Q,fun x _ G'=>X x G'⟩ [some (.loc f),u1,some (.tup us),some (.tup vs),some (.loc p)] G') :
  jag T.gs (jab T (k + 2)) jav ⟨fun _ G'=>Q .non G',Q,fun x _ G'=>X x G'⟩ [some (.loc f),u1,some (.tup us),some (.tup vs),some (.loc p)] G:=by
 simp! only [jav]
 have vL:vs.length * Int.toNat 30<=sizeLine:=by rw [vl]; decide
 have fl:(List.replicate (Int.toNat 30) vs).flatten.length=60:=by rw [List.length_flatten,List.map_replicate,List.sum_replicate_nat,vl]; rfl
 refine ⟨by decide,by decide,by simp,by decide,by decide,by decide,by decide,by decide,by simp,by decide,by decide,by decide,vn,by decide,by decide,vL,by decide,by decide,vn,by decide,by decide,vL,by rw [fl]; exact Nat.le_trans (Nat.add_le_add_left ul 60) (by decide),by decide,by decide,by decide,fun p2 G2 n2=>?_⟩
 simp! only []
 refine ⟨_,_,n2.sa _ _ g,n2.at,by rw [wl]; exact (by decide:8 + 4<=sizeLine),fun p3 G3 n3=>q p3 _ G3 n3.at (by rw [List.length_append,wl]; rfl) (fun u hu=>?_) (n2.sa.trans n3.sa)⟩
 obtain ⟨dv,tv,bv⟩:=rv.tup (by decide)
 obtain ⟨d3,t3,b3⟩:=(rv.rep 30).tup (by decide)
 obtain ⟨d4,t4,b4⟩:=((rv.rep 30).app ru).tup (by decide)
 have i1:Bx 50 2 0 (.int 1):=(ja5 (by decide)).mono (Nat.le_refl _) (by decide) (Nat.le_refl _)
 have pv:=((BxA.one i1).app (BxA.one bv)).tup
 have tp:Th G3 (.tup [.int 1,.tup vs]) _:=.tup (.cons (.int 1) (.cons (tv G3) .nil))
 rcases List.mem_append.mp hu with hu | hu
 ·exact (hw u hu).sa (n2.sa.trans n3.sa)
 simp only [List.mem_cons,List.not_mem_nil,or_false] at hu
 rcases hu with rfl | rfl | rfl | rfl
 ·exact jhM tp pv (by decide)
 ·exact jhM tp pv (by decide)
 ·exact jal (.int 1) i1 (t3 G3) b3 (by decide)
 ·exact jal (.int 1) i1 (t4 G3) b4 (by decide)
theorem ab_4 {us vs ws:List U}{p:Addr}{u1:Option U}(ru:RB us 20)(rv:RB vs 2)(vn:vs≠[])(vl:vs.length=2)(ul:us.length<=20)(g:G p=some (.lst ws))(wl:ws.length=12)(hw:∀ u∈ws,Ab G u)(q:∀ p ws G',G' p=some (.lst ws)->ws.length=16->(∀ u∈ws,Ab G' u)->Sa G G'->jag T.gs (jab T (k + 2)) jat ⟨fun _ G'=>Q .non G',Q,fun x _ G'=>X x G'⟩ [some (.loc f),u1,some (.tup us),some (.tup vs),some (.loc p)] G') :
  jag T.gs (jab T (k + 2)) jau ⟨fun _ G'=>Q .non G',Q,fun x _ G'=>X x G'⟩ [some (.loc f),u1,some (.tup us),some (.tup vs),some (.loc p)] G:=by
 have vL:vs.length * Int.toNat 31<=sizeLine:=by rw [vl]; decide
 have fl:us.length + (0 + 1)<=sizeLine:=Nat.le_trans (Nat.add_le_add_right ul 1) (by decide)
 simp! only [jau]
 refine ⟨vn,by decide,by decide,vL,by decide,by decide,by decide,by decide,by decide,by decide,by decide,by decide,by decide,fl,by decide,by decide,by decide,fun p2 G2 n2=>?_⟩
 simp! only []
 refine ⟨_,_,n2.sa _ _ g,n2.at,by rw [wl]; exact (by decide:12 + 4<=sizeLine),fun p3 G3 n3=>q p3 _ G3 n3.at (by rw [List.length_append,wl]; rfl) (fun u hu=>?_) (n2.sa.trans n3.sa)⟩
 have i1:Bx 50 2 0 (.int 1):=(ja5 (by decide)).mono (Nat.le_refl _) (by decide) (Nat.le_refl _)
 have hm:RB [.tup [.str "home",.int 0,.int 0]] 2:=⟨_,fun G=>.cons (.tup (.cons (.str _) (.cons (.int 0) (.cons (.int 0) .nil)))) .nil,(BxA.one (((BxA.one (w:=42) (k:=0) (j:=0) (d:=.str (Str.ofString "home")) ⟨fun c hc=>Nat.lt_trans (jb6 "home" c hc) (by decide),by decide +kernel,Nat.zero_le _⟩).app (BxA.one (ja5 (i:=0) (by decide)))).app (BxA.one (ja5 (i:=0) (by decide)))).tup).mono (by decide) (by decide) (Nat.le_refl _)⟩
 obtain ⟨d1,t1,b1⟩:=(rv.rep 31).tup (by decide)
 obtain ⟨d3,t3,b3⟩:=(ru.cut none (some (-1))).tup (by decide)
 obtain ⟨d4,t4,b4⟩:=(ru.app hm).tup (by decide)
 rcases List.mem_append.mp hu with hu | hu
 ·exact (hw u hu).sa (n2.sa.trans n3.sa)
 simp only [List.mem_cons,List.not_mem_nil,or_false] at hu
 rcases hu with rfl | rfl | rfl | rfl
 ·exact jal (.int 1) i1 (t1 G3) b1 (by decide)
 ·exact jal (b:=3) (.int 1) i1 (.tup .nil) ⟨trivial,Nat.le_refl _,by decide⟩ (by decide)
 ·exact jal (.int 1) i1 (t3 G3) b3 (by decide)
 ·exact jal (.int 1) i1 (t4 G3) b4 (by decide)
theorem ab_5 {us vs ws:List U}{p:Addr}{u1:Option U}(ru:RB us 20)(g:G p=some (.lst ws))(wl:ws.length=16)(hw:∀ u∈ws,Ab G u)(q:∀ p ws G',G' p=some (.lst ws)->ws.length=22->(∀ u∈ws,Ab G' u)->Sa G G'->jag T.gs (jab T (k + 2)) jas ⟨fun _ G'=>Q .non G',Q,fun x _ G'=>X x G'⟩ [some (.loc f),u1,some (.tup us),some (.tup vs),some (.loc p)] G') :
  jag T.gs (jab T (k + 2)) jat ⟨fun _ G'=>Q .non G',Q,fun x _ G'=>X x G'⟩ [some (.loc f),u1,some (.tup us),some (.tup vs),some (.loc p)] G:=by
 simp! only [jat]
 refine ⟨by decide,by decide,by decide,by decide,by decide,by decide,by decide,by decide,fun pa Ga na=>⟨by decide,by decide,by decide,fun pb Gb nb=>⟨by decide,by decide,by decide,fun p2 G2 n2=>?_⟩⟩⟩
 simp! only []
 have S2:=(na.sa.trans nb.sa).trans n2.sa
 refine ⟨_,_,S2 _ _ g,n2.at,by rw [wl]; exact (by decide:16 + 6<=sizeLine),fun p3 G3 n3=>q p3 _ G3 n3.at (by rw [List.length_append,wl]; rfl) (fun u hu=>?_) (S2.trans n3.sa)⟩
 have i1:Bx 50 2 0 (.int 1):=(ja5 (by decide)).mono (Nat.le_refl _) (by decide) (Nat.le_refl _)
 have hm:RB [.tup [.str "home",.int 0,.int 0]] 2:=⟨_,fun G=>.cons (.tup (.cons (.str _) (.cons (.int 0) (.cons (.int 0) .nil)))) .nil,(BxA.one (((BxA.one (w:=42) (k:=0) (j:=0) (d:=.str (Str.ofString "home")) ⟨fun c hc=>Nat.lt_trans (jb6 "home" c hc) (by decide),by decide +kernel,Nat.zero_le _⟩).app (BxA.one (ja5 (i:=0) (by decide)))).app (BxA.one (ja5 (i:=0) (by decide)))).tup).mono (by decide) (by decide) (Nat.le_refl _)⟩
 obtain ⟨d1,t1,b1⟩:=hm.tup (by decide)
 obtain ⟨d2,t2,b2⟩:=ru.tup (by decide)
 have ga:G3 pa=some (.lst [.int 1,.tup us]):=n3.sa _ _ (n2.sa _ _ (nb.sa _ _ na.at))
 have gb:G3 pb=some (.lst [.tup [.int 1,.tup us]]):=n3.sa _ _ (n2.sa _ _ nb.at)
 have two:Ths G3 [.int 1,.tup us] _:=.cons (.int 1) (.cons (t2 G3) .nil)
 have bt:=(BxA.one i1).app (BxA.one b2)
 rcases List.mem_append.mp hu with hu | hu
 ·exact (hw u hu).sa (S2.trans n3.sa)
 simp only [List.mem_cons,List.not_mem_nil,or_false] at hu
 rcases hu with rfl | rfl | rfl | rfl | rfl | rfl
 ·exact jal (.int 1) i1 (t1 G3) b1 (by decide)
 ·exact ⟨_,.tup two,bt.tup.mono (by decide) (by decide) (Nat.le_refl _)⟩
 ·exact ⟨_,.tup (.cons (.tup (.cons (.int 1) (.cons (t2 G3) (.cons (.int 1) .nil)))) .nil),(BxA.one (bt.app (BxA.one i1)).tup).tup.mono (by decide) (by decide) (Nat.le_refl _)⟩
 ·exact ⟨_,.tup (.cons (.lst ga two) .nil),(BxA.one bt.lst).tup.mono (by decide) (by decide) (Nat.le_refl _)⟩
 ·exact ⟨_,.lst gb (.cons (.tup two) .nil),(BxA.one bt.tup).lst.mono (by decide) (by decide) (Nat.le_refl _)⟩
 ·exact jal (t2 G3) b2 (.int 1) i1 (by decide)
theorem ab_6 {us vs ws:List U}{p:Addr}{u1:Option U}(ru:RB us 20)(un:us≠[])(ul:us.length<=20)(g:G p=some (.lst ws))(wl:ws.length=22)(hw:∀ u∈ws,Ab G u)(q:∀ p ws G',G' p=some (.lst ws)->ws.length=26->(∀ u∈ws,Ab G' u)->Sa G G'->Q (.loc p) G') :
  jag T.gs (jab T (k + 2)) jas ⟨fun _ G'=>Q .non G',Q,fun x _ G'=>X x G'⟩ [some (.loc f),u1,some (.tup us),some (.tup vs),some (.loc p)] G:=by
 have c1:Z.cut us none (some 1)=us.take 1:=jeg us 1
 have tl:(us.take 1).length=1:=by rw [List.length_take]; have:=List.length_pos_iff.mpr un; omega
 have tn:us.take 1≠[]:=fun z=>by rw [z] at tl; cases tl
 have cl:=jgG us (some 1) none
 simp! only [jas,jhK,c1]
 intro pa Ga na
 refine ⟨by decide,by decide,by decide,by decide,by decide,by decide,Nat.le_trans (show 0 + 1 + (Z.cut us (some 1) none).length<=30 by omega) (by decide),by decide,by decide,tn,by decide,by decide,by rw [tl]; decide,by decide,by decide,by decide,fun p2 G2 n2=>?_⟩
 simp! only []
 have S2:=na.sa.trans n2.sa
 refine ⟨_,_,S2 _ _ g,n2.at,by rw [wl]; exact (by decide:22 + 4<=sizeLine),fun p3 G3 n3=>q p3 _ G3 n3.at (by rw [List.length_append,wl]; rfl) (fun u hu=>?_) (S2.trans n3.sa)⟩
 have i1:Bx 50 2 0 (.int 1):=(ja5 (by decide)).mono (Nat.le_refl _) (by decide) (Nat.le_refl _)
 have ot:RB [.tup [.int 0,.bl true]] 1:=⟨_,fun G=>.cons (.tup (.cons (.int 0) (.cons (.bl true) .nil))) .nil,(BxA.one ((BxA.one (ja5 (i:=0) (by decide))).app (BxA.one (w:=5) (k:=0) (j:=0) (d:=.bool true) ⟨trivial,Nat.le_refl _,Nat.zero_le _⟩)).tup).mono (by decide) (by decide) (Nat.le_refl _)⟩
 obtain ⟨d2,t2,b2⟩:=ru.rev.tup (by decide)
 obtain ⟨d3,t3,b3⟩:=(ot.app (ru.cut (some 1) none)).tup (by decide)
 obtain ⟨d4,t4,b4⟩:=((ru.cut none (some 1)).rep 2).tup (by decide)
 rw [c1] at t4
 obtain ⟨ds,td,bd⟩:=ru
 have ga:G3 pa=some (.lst us):=n3.sa _ _ (n2.sa _ _ na.at)
 rcases List.mem_append.mp hu with hu | hu
 ·exact (hw u hu).sa (S2.trans n3.sa)
 simp only [List.mem_cons,List.not_mem_nil,or_false] at hu
 rcases hu with rfl | rfl | rfl | rfl
 ·exact jal (.int 1) i1 (.lst ga (td G3)) bd.lst (by decide)
 ·exact jal (.int 1) i1 (t2 G3) b2 (by decide)
 ·exact jal (.int 1) i1 (t3 G3) b3 (by decide)
 ·exact jal (.int 1) i1 (t4 G3) b4 (by decide)
end

set_option maxHeartbeats 2000000
theorem RB.mono {us:List U}{n m:Nat}(h:RB us n)(e:n<=m):RB us m:=let ⟨ds,t,b⟩:=h; ⟨ds,t,b.mono (by omega) (Nat.le_refl _) (Nat.le_refl _)⟩
section
variable {k:Nat}{G:Gp}{Q:K1}{X:KX}{f c:Addr}{n W:Nat}{xs:List Str}{ss:List Spn}
theorem jd1 (hf:Fn G f c n)(hn:n<=880000000)(so:∀ s∈ss,s.Ok W)(sl:ss.length<=24)(w8:W<=8)(xl:xs.length=W)(ne:ss≠[])(q:∀ p ws G',G' p=some (.lst ws)->ws.length=26->(∀ u∈ws,Ab G' u)->Fn G' f c (n + 7)->Sm f G G'->Q (.loc p) G'):jab T (k + 3) jbr [.loc f,jak xs ss] G Q X:=by
 refine ⟨rfl,?_⟩
 simp! only [jbx,jad,List.replicate]
 refine jf7 (k:=k) hf (by omega) so sl w8 xl ne fun us G1 hus un ul f1 s1=>?_
 have c1:Z.cut us none (some 1)=us.take 1:=jeg us 1
 have tl:(us.take 1).length=1:=by rw [List.length_take]; have:=List.length_pos_iff.mpr un; omega
 simp! only [c1]
 refine jf9 (k:=k + 1) (N:=ss.length) (us:=us.take 1) (fun e he=>hus e (List.mem_of_mem_take he)) (by omega) fun vs G2 s2 hv vl=>?_
 refine ⟨Nat.le_trans (show (us.take 1).length + vs.length<=10 by omega) (by decide),?_⟩
 have ru:RB us 20:=(RB.of sl hus).mono ul
 have tvl:(us.take 1++vs).length=2:=by rw [List.length_append]; omega
 have rv:RB (us.take 1++vs) 2:=(RB.of sl fun e he=>(List.mem_append.mp he).elim (fun h=>hus e (List.mem_of_mem_take h)) (hv e)).mono (by omega)
 have vn:us.take 1++vs≠[]:=fun z=>by rw [z] at tvl; cases tvl
 exact ab_2 (k:=k) (p:=0) ru rv vn tvl un ul fun p3 w3 G3 g3 l3 h3 s3=>ab_3 (k:=k) ru rv vn tvl ul g3 l3 h3 fun p4 w4 G4 g4 l4 h4 s4=>ab_4 (k:=k) ru rv vn tvl ul g4 l4 h4 fun p5 w5 G5 g5 l5 h5 s5=>ab_5 (k:=k) ru g5 l5 h5 fun p6 w6 G6 g6 l6 h6 s6=>ab_6 (k:=k) ru un ul g6 l6 h6 fun p7 w7 G7 g7 l7 h7 s7=>q p7 w7 G7 g7 l7 h7 (f1.sa (((((s2.trans s3).trans s4).trans s5).trans s6).trans s7)) (s1.trans (((((s2.trans s3).trans s4).trans s5).trans s6).trans s7).sm)
end

set_option maxHeartbeats 2000000
theorem New.hid {G G':Gp}{p:Addr}{o:MO}(n:New G p o G'):Sa G (hide G' p):=fun b u e=>jbQ (n.sa _ _ e) fun z=>by rw [z,n.no] at e; cases e
theorem Put.hid {G G':Gp}{p:Addr}{o:MO}(n:Put G p o G'):Sa (hide G p) (hide G' p):=fun b u e=>by
 by_cases z:b=p
 ·unfold hide at e; rw [if_pos z] at e; cases e
 ·exact jbQ (n.sm _ _ z (jbu _ _ e)) z
structure Tl (G:Gp)(p f c:Addr)(us:List U)(n:Nat):Prop where
 g:G p=some (.lst us)
 hd:Hd G p f c
 l:us.length<=n
 o:∀ u∈us,Oh p 600000 10 2 G u
section
variable {G G':Gp}{u:U}{us vs:List U}{n m:Nat}{f c p:Addr}
theorem Tl.sm (h:Tl G p f c us m)(hf:Fn G f c n)(s:Sm f G G'):Tl G' p f c us m:=⟨s _ _ h.hd.nf h.g,h.hd.sm s,h.l,fun u hu=>(h.o u hu).mn hf h.hd s⟩
theorem Tl.app {x:U}(h:Tl G p f c us m)(hx:Oh p 600000 10 2 G x)(w:Put G p (.lst (us++[x])) G'):Tl G' p f c (us++[x]) (m + 1):=by
 have s:∀ {y:U},Oh p 600000 10 2 G y->Oh p 600000 10 2 G' y:=fun o=>Ob.sa (G:=hide G p) o w.hid
 refine ⟨w.at,⟨h.hd.nf,h.hd.nc,_,w.at⟩,by rw [List.length_append]; exact Nat.succ_le_succ h.l,fun y hy=>?_⟩
 rcases List.mem_append.mp hy with hy | hy
 ·exact s (h.o y hy)
 ·rw [List.mem_singleton.mp hy]; exact s hx
theorem jhQ {N:Nat}(hN:N<=24):∀ {ps:List U},(∀ u∈ps,Pr N u)->∃ ds,(∀ G,Ths G ps ds)/\BxA (2242 * ps.length) 3 0 ds
 | [],_=>⟨[],fun _=>.nil,trivial,Nat.le_refl _,Nat.zero_le _⟩
 | u::r,h=>by
  obtain ⟨z,es,rfl,hz,he,el⟩:=h u List.mem_cons_self
  obtain ⟨ds,t,b⟩:=jhQ hN fun e he=>h e (List.mem_cons_of_mem _ he)
  obtain ⟨rs,tr,br⟩:=(RB.of hN he)
  have z1:z.natAbs<=10 ^ 39:=Nat.le_trans (show z.natAbs<=999 by omega) (by decide)
  have be:Bx 2240 3 0 (.tuple [.int z,.tuple rs]):=(((BxA.one ((ja5 z1).mono (Nat.le_refl _) (by decide:0<=2) (Nat.le_refl _))).app (BxA.one br.tup)).tup).mono (by show 50 + 2 + (109 * es.length + 3 + 2) + 3<=2240; omega) (by decide) (Nat.le_refl _)
  refine ⟨.tuple [.int z,.tuple rs]::ds,fun G=>.cons (.tup (.cons (.int _) (.cons (.tup (tr G)) .nil))) (t G),((BxA.one be).app b).mono ?_ (Nat.le_refl _) (Nat.le_refl _)⟩
  show 2240 + 2 + 2242 * r.length<=2242 * (r.length + 1)
  omega
end
section
variable {k:Nat}{G:Gp}{Q:K1}{X:KX}{xs:List Str}{ss:List Spn}{W:Nat}{a f c p:Addr}{K:Sg->Gp->Prop}{u2 u3 u5 u6 u7 u8 u9:Option U}{n:Nat}{us ps:List U}
theorem jmN (x8:xs.length<=8)(nm:∀ x∈xs,Nm x)(sl:ss.length<=24)(so:∀ s∈ss,s.Ok xs.length)(hf:Fn G f c n)(h:Tl G p f c us 100)(kk:∀ o8 o9 G',Fn G' f c n->K [some (.loc a),some (.loc f),u2,u3,some (jak xs ss),u5,some (.loc p),u7,o8,o9] G') :
  jag T.gs (jab T (k + 8)) jb8 ⟨K,Q,fun x _ G'=>X x G'⟩ [some (.loc a),some (.loc f),u2,u3,some (jak xs ss),u5,some (.loc p),u7,u8,u9] G:=by
 simp! only [jb8]
 rw [it_l h.g]
 refine jaU (fun _ ς G'=>Sa G G'/\∃ o8 o9,ς=[some (.loc a),some (.loc f),u2,u3,some (jak xs ss),u5,some (.loc p),u7,o8,o9]) ?_ ?_ ⟨Sa.refl,_,_,rfl⟩
 ·rintro ς G1 ⟨s1,o8,o9,rfl⟩
  refine ⟨by unfold lsG; rw [s1 _ _ h.g],?_⟩
  exact kk _ _ _ (hf.sa s1)
 ·rintro i x ς G1 Kz hx ⟨s1,o8,o9,rfl⟩ hk
  refine ⟨by unfold lsG; rw [s1 _ _ h.g],?_⟩
  obtain ⟨d,t,b⟩:=h.o x (List.mem_of_getElem? hx)
  have t0:Th G1 x d:=(t.sa jbu).sa s1
  have fp:=jjn x8 nm sl so
  have fit:Fits 16000000 60 (.tuple [pd (jak xs ss),d]):=(Fits.tupLe (n:=600000) (k:=10) (m:=2) (N:=1200007) (Nat.le_refl _) (fun e he=>by
   simp only [List.mem_cons,List.not_mem_nil,or_false] at he
   rcases he with rfl | rfl
   ·exact fp.f.mono (Nat.le_refl _) (by decide)
   ·exact b.ft (by decide)) (by decide)).mono (by decide) (by decide)
  obtain ⟨z,hz⟩:∃ z:Str,∀ (G':Gp) (Q:K1),Sa G1 G'->Q (.str z) G'->jfm [.tup [jak xs ss,x]] G' Q:=⟨_,fun G' Q s q=>⟨.tuple [pd (jak xs ss),d],.tup (.cons (jjw fp.b) (.cons (t0.sa s).du .nil)),fit,q⟩⟩
  have rb:∀ (b:Bool),∃ z:Str,∀ (G':Gp) (Q:K1),Q (.str z) G'->jfm [.bl b] G' Q:=fun b=>⟨_,fun G' Q q=>⟨.bool b,.bl b,(Fits.bl b).mono (by decide) (by decide),q⟩⟩
  simp! only [jbV]
  refine ⟨by decide,hz _ _ Sa.refl ?_⟩
  simp! only []
  refine jdE (k:=k + 2) t0 sl fun G2 s2=>?_
  obtain ⟨v,hv⟩:∃ v,jew ss x=v:=⟨_,rfl⟩
  rw [hv]
  obtain ⟨zb,hzb⟩:=rb v
  refine hzb _ _ ?_
  refine jfs (k:=k + 4) (t0.sa s2) sl fun G3 s3=>?_
  rw [hv]
  refine hzb _ _ (jgd ?_)
  rw [if_neg (by decide)]
  refine ⟨by decide,hz _ _ (s2.trans s3) (jgd ?_)⟩
  rw [if_neg (by decide)]
  exact hk _ _ ⟨(s1.trans s2).trans s3,_,_,rfl⟩
theorem jk5 (x8:xs.length<=8)(nm:∀ x∈xs,Nm x)(sl:ss.length<=24)(so:∀ s∈ss,s.Ok xs.length)(hp:∃ d,(∀ G,Th G (.tup ps) d)/\Bx 54000 4 0 d)(hf:Fn G f c n)(hn:n<=700000000)(h:Tl G p f c us 40)(kk:∀ o7 o8 o9 G',Fn G' f c (n + 400)->K [some (.loc a),some (.loc f),u2,u3,some (jak xs ss),some (.tup ps),some (.loc p),o7,o8,o9] G') :
  jag T.gs (jab T (k + 8)) jb9 ⟨K,Q,fun x _ G'=>X x G'⟩ [some (.loc a),some (.loc f),u2,u3,some (jak xs ss),some (.tup ps),some (.loc p),u7,u8,u9] G:=by
 obtain ⟨dp,tp,bp⟩:=hp
 simp! only [jb9]
 refine ⟨by decide,by decide,?_⟩
 refine jaU (fun i ς G'=>∃ us o7 o8,ς=[some (.loc a),some (.loc f),u2,u3,some (jak xs ss),some (.tup ps),some (.loc p),o7,o8,u9]/\Fn G' f c (n + 30 * i)/\Tl G' p f c us (40 + i)) ?_ ?_ ⟨us,_,_,rfl,hf,h⟩
 ·rintro ς G1 ⟨us,o7,o8,rfl,f1,h1⟩
  rw [jaM] at f1 h1
  refine ⟨trivial,?_⟩
  exact jmN (k:=k) x8 nm sl so f1 ⟨h1.g,h1.hd,Nat.le_trans h1.l (by decide),h1.o⟩ fun _ _ G' f'=>kk _ _ _ _ (f'.mono (Nat.add_le_add_left (by decide) _))
 ·rintro i x ς G1 Kz hx ⟨us,o7,o8,rfl,f1,h1⟩ hk
  obtain ⟨hi,rfl⟩:=ja7 hx
  have hi:i < 12:=hi
  have ul:=h1.l
  refine ⟨trivial,?_⟩
  simp! only [jbW]
  refine jey k 5 f1 h1.hd (by omega) (tp _) bp (by decide) (by decide) (by decide) fun y G2 o2 f2 s2=>?_
  have h2:=h1.sm f1 s2
  simp! only [je6 h2.g]
  refine jac f2 (by omega) (by decide) (by decide) fun r G3 a3 b3 f3 s3=>?_
  have h3:=h2.sm f2 s3
  have o3:=o2.mn f2 h2.hd s3
  simp! only []
  by_cases hr:r=0
  ·rw [if_pos (by simpa using hr)]
   obtain ⟨d3,t3,b3⟩:=o3
   refine jey k 5 f3 h3.hd (by omega) t3 b3 (by decide) (by decide) (by decide) fun z G4 o4 f4 s4=>?_
   have h4:=h3.sm f3 s4
   rw [jgO h4.g]
   refine ⟨Nat.lt_of_le_of_lt (show us.length<=100 by omega) (by decide),fun G5 p5=>hk _ _ ⟨_,_,_,rfl,(f4.off ⟨h4.hd.nf,h4.hd.nc⟩ p5).mono (by omega),h4.app ?_ p5⟩⟩
   obtain ⟨d4,t4,b4⟩:=o4
   exact ⟨d4,t4,b4.mono (by decide) (by decide) (by decide)⟩
  ·rw [if_neg (by simpa using hr)]
   rw [jgO h3.g]
   refine ⟨Nat.lt_of_le_of_lt (show us.length<=100 by omega) (by decide),fun G5 p5=>hk _ _ ⟨_,_,_,rfl,(f3.off ⟨h3.hd.nf,h3.hd.nc⟩ p5).mono (by omega),h3.app ?_ p5⟩⟩
   obtain ⟨d4,t4,b4⟩:=o3
   exact ⟨d4,t4,b4.mono (by decide) (by decide) (by decide)⟩
theorem jmO (x8:xs.length<=8)(nm:∀ x∈xs,Nm x)(sl:ss.length<=24)(so:∀ s∈ss,s.Ok xs.length)(hp:∃ d,(∀ G,Th G (.tup ps) d)/\Bx 54000 4 0 d)(hf:Fn G f c n)(hn:n<=600000000)(h:Tl G p f c us 11)(kk:∀ o6 o7 o8 o9 G',Fn G' f c (n + 500)->K [some (.loc a),some (.loc f),u2,u3,some (jak xs ss),some (.tup ps),o6,o7,o8,o9] G') :
  jag T.gs (jab T (k + 8)) jca ⟨K,Q,fun x _ G'=>X x G'⟩ [some (.loc a),some (.loc f),u2,u3,some (jak xs ss),some (.tup ps),some (.loc p),u7,u8,u9] G:=by
 have ul:=h.l
 simp! only [jca,jak,ix_t (jaR _ _ _)]
 refine ⟨by decide,jge (jdR so) (by decide) ?_⟩
 by_cases e:ss=[]
 ·rw [if_neg (by rw [e]; decide)]
  exact jk5 (k:=k) x8 nm sl so hp hf (by omega) ⟨h.g,h.hd,by omega,h.o⟩ fun _ _ _ G' f'=>kk _ _ _ _ _ (f'.mono (by omega))
 ·have e':(ss.map Spn.u).isEmpty=false:=by cases ss with | nil=>exact absurd rfl e | cons=>rfl
  rw [if_pos (by rw [e']; decide)]
  refine jd1 (k:=k + 5) hf (by omega) so sl x8 rfl e fun p1 ws G1 g1 wl hw f1 s1=>?_
  have h1:=h.sm hf s1
  refine ⟨_,_,h1.g,g1,Nat.le_trans (show us.length + ws.length<=100 by omega) (by decide),fun p2 G2 n2=>?_⟩
  have aw:=f1.away n2
  refine jk5 (k:=k) x8 nm sl so hp (f1.new n2) (by omega) ⟨n2.at,⟨aw.1,aw.2,_,n2.at⟩,by rw [List.length_append]; omega,fun u hu=>?_⟩ fun _ _ _ G' f'=>kk _ _ _ _ _ (f'.mono (by omega))
  rcases List.mem_append.mp hu with hu | hu
  ·obtain ⟨d,t,b⟩:=h1.o u hu
   exact ⟨d,(t.sa jbu).sa n2.hid,b⟩
  ·obtain ⟨d,t,b⟩:=hw u hu
   exact ⟨d,t.sa n2.hid,b.mono (by decide) (by decide) (by decide)⟩
theorem jmP (x8:xs.length<=8)(nm:∀ x∈xs,Nm x)(sl:ss.length<=24)(so:∀ s∈ss,s.Ok xs.length)(hp:∀ u∈ps,Pr ss.length u)(pl:ps.length<=24)(hf:Fn G f c n)(hn:n<=600000000)(kk:∀ o6 o7 o8 o9 G',Fn G' f c (n + 500)->K [some (.loc a),some (.loc f),u2,u3,some (jak xs ss),some (.tup ps),o6,o7,o8,o9] G') :
  jag T.gs (jab T (k + 8)) jcb ⟨K,Q,fun x _ G'=>X x G'⟩ [some (.loc a),some (.loc f),u2,u3,some (jak xs ss),some (.tup ps),u6,u7,u8,u9] G:=by
 obtain ⟨dp,tp,bp⟩:=jhQ sl hp
 have hp':∃ d,(∀ G,Th G (.tup ps) d)/\Bx 54000 4 0 d:=⟨_,fun G=>.tup (tp G),bp.tup.mono (by omega) (by decide) (Nat.le_refl _)⟩
 have bl:=bp.lst
 simp! only [jcb]
 refine ⟨by decide,by decide,by decide,by decide,by decide,by decide,fun p1 G1 n1=>⟨by decide,by decide,by decide,by decide,by decide,by decide,by decide,by decide,fun p2 G2 n2=>⟨by decide,fun p3 G3 n3=>?_⟩⟩⟩
 have f2:=(hf.new n1).new n2
 have aw:=f2.away n3
 refine jmO (k:=k) x8 nm sl so hp' (f2.new n3) hn ⟨n3.at,⟨aw.1,aw.2,_,n3.at⟩,by simp,fun u hu=>?_⟩ kk
 have up:∀ {w k:Nat} {u:U} {d:PyData},w<=600000->k<=10->Th G2 u d->Bx w k 0 d->Oh p3 600000 10 2 G3 u:=fun h1 h2 t b=>⟨_,t.sa n3.hid,b.mono h1 h2 (by decide)⟩
 have nl:BxA 0 0 0 []:=⟨trivial,Nat.le_refl _,Nat.le_refl _⟩
 have i0:∀ i:Int,i.natAbs<=100->Bx 50 0 0 (.int i):=fun i h=>ja5 (Nat.le_trans h (by decide))
 have pr:∀ i:Int,i.natAbs<=100->Th G2 (.tup [.tup [.int 1,.tup [.tup [.int i,.int 1]]]]) (.tuple [.tuple [.int 1,.tuple [.tuple [.int i,.int 1]]]])/\Bx 600 4 0 (.tuple [.tuple [.int 1,.tuple [.tuple [.int i,.int 1]]]]):=fun i h=>⟨.tup (.cons (.tup (.cons (.int _) (.cons (.tup (.cons (.tup (.cons (.int _) (.cons (.int _) .nil))) .nil)) .nil))) .nil),((BxA.one (((BxA.one ((i0 1 (by decide)).mono (Nat.le_refl _) (by decide:0<=2) (Nat.le_refl _))).app (BxA.one (BxA.one ((BxA.one (i0 i h)).app (BxA.one (i0 1 (by decide)))).tup).tup)).tup)).tup).mono (by decide) (by decide) (Nat.le_refl _)⟩
 simp only [List.mem_cons,List.not_mem_nil,or_false] at hu
 rcases hu with rfl | rfl | rfl | rfl | rfl | rfl | rfl | rfl | rfl | rfl | rfl
 ·obtain ⟨d,t,b⟩:=hp'
  exact up (by decide) (by decide) (t G2) b
 ·exact up (by decide) (by decide) (.tup .nil) nl.tup
 ·exact up (w:=5) (k:=0) (by decide) (by decide) .non ⟨trivial,Nat.le_refl _,Nat.le_refl _⟩
 ·exact up (by decide) (by decide) (.int _) (i0 0 (by decide))
 ·exact up (w:=2) (k:=0) (by decide) (by decide) (.str _) ⟨fun c hc=>Nat.lt_trans (jb6 "" c hc) (by decide),by decide +kernel,Nat.le_refl _⟩
 ·exact up (by decide) (by decide) (.tup (.cons (.tup .nil) .nil)) (BxA.one nl.tup).tup
 ·exact up (by decide) (by decide) (.tup (.cons (.tup (.cons (.int _) .nil)) .nil)) (BxA.one (BxA.one (i0 1 (by decide))).tup).tup
 ·exact up (w:=2) (k:=1) (by decide) (by decide) (.dic (n2.sa _ _ n1.at)) ⟨rfl,Nat.le_refl _,Nat.le_refl _⟩
 ·exact up (by decide) (by decide) (pr 0 (by decide)).1 (pr 0 (by decide)).2
 ·exact up (by decide) (by decide) (pr 24 (by decide)).1 (pr 24 (by decide)).2
 ·exact up (show 2242 * ps.length + 3<=600000 by omega) (by decide) (.lst n2.at (tp G2)) bl
noncomputable def Rest (a f:Addr)(ς:Sg):Prop:=∃ o2 o3 o4 o5 o6 o7 o8 o9:Option U,ς=[some (.loc a),some (.loc f),o2,o3,o4,o5,o6,o7,o8,o9]
theorem jhj {o2 o3 o4 o5 o6 o7 o8 o9:Option U}(hf:Fn G f c n)(hn:n<=100000000)(kk:∀ ς G',Rest a f ς->Fn G' f c (n + 2000)->K ς G') :
  jag T.gs (jab T (k + 8)) jcc ⟨K,Q,fun x _ G'=>X x G'⟩ [some (.loc a),some (.loc f),o2,o3,o4,o5,o6,o7,o8,o9] G:=by
 simp! only [jcc]
 refine jac hf (by omega) (by decide) (by decide) fun r G1 a1 b1 f1 s1=>?_
 obtain ⟨W,hW⟩:=Int.eq_ofNat_of_zero_le (show 0<=1 + r by omega)
 refine jac f1 (by omega) (by decide) (by decide) fun r2 G2 a2 b2 f2 s2=>?_
 refine ⟨by decide,fun p3 G3 n3=>jac (f2.new n3) (by omega) (by decide) (by decide) fun r4 G4 a4 b4 f4 s4=>?_⟩
 refine jaz [6,24] (s4 _ _ (f2.away n3).1 n3.at) a4 b4 fun m hm=>?_
 have hm':1<=m/\m<=24:=by simp only [List.mem_cons,List.not_mem_nil,or_false] at hm; omega
 rw [show (1:Int) + r=(W:Int) from hW]
 refine jga (k:=k + 5) f4 (by omega) (by omega) (by omega) (by omega) (by omega) hm'.1 hm'.2 fun xs ss G5 xl nm sl so f5 s5=>?_
 have x8:xs.length<=8:=by omega
 rw [<- xl] at so
 simp! only [jdd]
 refine jc9 (k:=k + 5) f5 (by omega) so sl x8 rfl fun ps G6 hps pl f6 s6=>?_
 exact jmP (k:=k) x8 nm sl so hps pl f6 (by omega) fun _ _ _ _ G' f'=>kk _ _ ⟨_,_,_,_,_,_,_,_,rfl⟩ (f'.mono (by omega))
end
theorem law_ir (a:Addr)(ns:List Int)(hl:ns.length<=63):jab T 300 jfv [.loc a] (G0 a ns) (fun u _=>u=.bl true) fun _ _=>False:=by
 refine ⟨rfl,?_⟩
 simp! only [jhs,jad,List.replicate,jfQ]
 refine jkR (k:=298) (show G0 a ns a=some (.fro (ns.map .int)) from if_pos rfl) fun f c G1 f1=>?_
 refine ⟨by decide,by decide,?_⟩
 refine jaU (fun i ς G'=>Rest a f ς/\Fn G' f c (2000 * i)) ?_ ?_ ⟨⟨_,_,_,_,_,_,_,_,rfl⟩,f1⟩
 ·rintro ς G2 ⟨_,_⟩
  exact ⟨trivial,trivial⟩
 ·rintro i x ς G2 K hx ⟨⟨o2,o3,o4,o5,o6,o7,o8,o9,rfl⟩,f2⟩ hk
  obtain ⟨hi,rfl⟩:=ja7 hx
  have hi:i < 3:=hi
  exact ⟨trivial,jhj (k:=291) f2 (by omega) fun ς G' h1 h2=>hk _ _ ⟨h1,h2⟩⟩

noncomputable def sts:List Stmt:=[s_is_whole,s_is_within,s_is_work_of,s_is_entry,s_ends_of,s_is_ring,s_is_priced_ring,s_are_prices,s_law_fed,s_law_draw,s_law_fit,s_law_any_span,s_law_a_plan,s_law_is_from,s_law_two_ends,s_law_is_ring,s_law_are_prices,s_law_steps,s_law_ways,s_law_back,s_law_walk,s_law_some_prices,s_law_odd,s_law_bent,s_law_at_bounds,s_law]
theorem je3:jev T T.funs sts=true:=by decide +kernel
theorem jfY:jfo T T.funs sts:=⟨rfl,rfl,rfl,rfl,rfl,rfl,rfl,rfl,rfl,rfl,rfl,rfl,rfl,rfl,rfl,rfl,rfl,rfl,rfl,rfl,rfl,rfl,rfl,rfl,rfl,rfl,trivial⟩
theorem ln1 {α:Type}(us:List α)(h:us.length=1):∃ u0,us=[u0]:=by
 obtain _ | ⟨u0,us⟩:=us
 ·cases h
 obtain _ | ⟨_,_⟩:=us
 ·exact ⟨_,rfl⟩
 ·cases h
theorem ln2 {α:Type}(us:List α)(h:us.length=2):∃ u0 u1,us=[u0,u1]:=by
 obtain _ | ⟨u0,us⟩:=us
 ·cases h
 obtain _ | ⟨u1,us⟩:=us
 ·cases h
 obtain _ | ⟨_,_⟩:=us
 ·exact ⟨_,_,rfl⟩
 ·cases h
theorem ln3 {α:Type}(us:List α)(h:us.length=3):∃ u0 u1 u2,us=[u0,u1,u2]:=by
 obtain _ | ⟨u0,us⟩:=us
 ·cases h
 obtain _ | ⟨u1,us⟩:=us
 ·cases h
 obtain _ | ⟨u2,us⟩:=us
 ·cases h
 obtain _ | ⟨_,_⟩:=us
 ·exact ⟨_,_,_,rfl⟩
 ·cases h
theorem ln4 {α:Type}(us:List α)(h:us.length=4):∃ u0 u1 u2 u3,us=[u0,u1,u2,u3]:=by
 obtain _ | ⟨u0,us⟩:=us
 ·cases h
 obtain _ | ⟨u1,us⟩:=us
 ·cases h
 obtain _ | ⟨u2,us⟩:=us
 ·cases h
 obtain _ | ⟨u3,us⟩:=us
 ·cases h
 obtain _ | ⟨_,_⟩:=us
 ·exact ⟨_,_,_,_,rfl⟩
 ·cases h
theorem ln5 {α:Type}(us:List α)(h:us.length=5):∃ u0 u1 u2 u3 u4,us=[u0,u1,u2,u3,u4]:=by
 obtain _ | ⟨u0,us⟩:=us
 ·cases h
 obtain _ | ⟨u1,us⟩:=us
 ·cases h
 obtain _ | ⟨u2,us⟩:=us
 ·cases h
 obtain _ | ⟨u3,us⟩:=us
 ·cases h
 obtain _ | ⟨u4,us⟩:=us
 ·cases h
 obtain _ | ⟨_,_⟩:=us
 ·exact ⟨_,_,_,_,_,rfl⟩
 ·cases h
theorem all_mk {l:PySem.W.OpenLaw}{w:World}{K:PySem.W.Frag}{h:Heap}{mg:Str->Option Value}{fa:Addr}(X:K.In h)(G:h.Ns mainGlobals mg)(hfa:mg "law" = some (.ref fa))
  {f0:Addr} {od0 an0:Option Addr} {sl0:Array (Option Value)} {oc0 kV0 dc0 pm0 cd0 ct0:Value}
  (a0:PySem.W.nsIn K mainGlobals "is_whole" = some (some (.ref f0))) (l0:K.lookup f0=some ⟨oc0,od0,.func (PySem.W.fnOf "is_whole" "is_whole" (defArgs s_is_whole) (defBody s_is_whole) (defScope s_is_whole) .none kV0 dc0 pm0 an0 cd0 ct0),sl0⟩) (c0:PySem.W.codeIn K cd0 "is_whole" = true) (k0:PySem.W.keepIn K (.ref f0)=true)
  {f1:Addr} {od1 an1:Option Addr} {sl1:Array (Option Value)} {oc1 kV1 dc1 pm1 cd1 ct1:Value}
  (a1:PySem.W.nsIn K mainGlobals "is_within" = some (some (.ref f1))) (l1:K.lookup f1=some ⟨oc1,od1,.func (PySem.W.fnOf "is_within" "is_within" (defArgs s_is_within) (defBody s_is_within) (defScope s_is_within) .none kV1 dc1 pm1 an1 cd1 ct1),sl1⟩) (c1:PySem.W.codeIn K cd1 "is_within" = true) (k1:PySem.W.keepIn K (.ref f1)=true)
  {f2:Addr} {od2 an2:Option Addr} {sl2:Array (Option Value)} {oc2 kV2 dc2 pm2 cd2 ct2:Value}
  (a2:PySem.W.nsIn K mainGlobals "is_work_of" = some (some (.ref f2))) (l2:K.lookup f2=some ⟨oc2,od2,.func (PySem.W.fnOf "is_work_of" "is_work_of" (defArgs s_is_work_of) (defBody s_is_work_of) (defScope s_is_work_of) .none kV2 dc2 pm2 an2 cd2 ct2),sl2⟩) (c2:PySem.W.codeIn K cd2 "is_work_of" = true) (k2:PySem.W.keepIn K (.ref f2)=true)
  {f3:Addr} {od3 an3:Option Addr} {sl3:Array (Option Value)} {oc3 kV3 dc3 pm3 cd3 ct3:Value}
  (a3:PySem.W.nsIn K mainGlobals "is_entry" = some (some (.ref f3))) (l3:K.lookup f3=some ⟨oc3,od3,.func (PySem.W.fnOf "is_entry" "is_entry" (defArgs s_is_entry) (defBody s_is_entry) (defScope s_is_entry) .none kV3 dc3 pm3 an3 cd3 ct3),sl3⟩) (c3:PySem.W.codeIn K cd3 "is_entry" = true) (k3:PySem.W.keepIn K (.ref f3)=true)
  {f4:Addr} {od4 an4:Option Addr} {sl4:Array (Option Value)} {oc4 kV4 dc4 pm4 cd4 ct4:Value}
  (a4:PySem.W.nsIn K mainGlobals "ends_of" = some (some (.ref f4))) (l4:K.lookup f4=some ⟨oc4,od4,.func (PySem.W.fnOf "ends_of" "ends_of" (defArgs s_ends_of) (defBody s_ends_of) (defScope s_ends_of) .none kV4 dc4 pm4 an4 cd4 ct4),sl4⟩) (c4:PySem.W.codeIn K cd4 "ends_of" = true) (k4:PySem.W.keepIn K (.ref f4)=true)
  {f5:Addr} {od5 an5:Option Addr} {sl5:Array (Option Value)} {oc5 kV5 dc5 pm5 cd5 ct5:Value}
  (a5:PySem.W.nsIn K mainGlobals "is_ring" = some (some (.ref f5))) (l5:K.lookup f5=some ⟨oc5,od5,.func (PySem.W.fnOf "is_ring" "is_ring" (defArgs s_is_ring) (defBody s_is_ring) (defScope s_is_ring) .none kV5 dc5 pm5 an5 cd5 ct5),sl5⟩) (c5:PySem.W.codeIn K cd5 "is_ring" = true) (k5:PySem.W.keepIn K (.ref f5)=true)
  {f6:Addr} {od6 an6:Option Addr} {sl6:Array (Option Value)} {oc6 kV6 dc6 pm6 cd6 ct6:Value}
  (a6:PySem.W.nsIn K mainGlobals "is_priced_ring" = some (some (.ref f6))) (l6:K.lookup f6=some ⟨oc6,od6,.func (PySem.W.fnOf "is_priced_ring" "is_priced_ring" (defArgs s_is_priced_ring) (defBody s_is_priced_ring) (defScope s_is_priced_ring) .none kV6 dc6 pm6 an6 cd6 ct6),sl6⟩) (c6:PySem.W.codeIn K cd6 "is_priced_ring" = true) (k6:PySem.W.keepIn K (.ref f6)=true)
  {f7:Addr} {od7 an7:Option Addr} {sl7:Array (Option Value)} {oc7 kV7 dc7 pm7 cd7 ct7:Value}
  (a7:PySem.W.nsIn K mainGlobals "are_prices" = some (some (.ref f7))) (l7:K.lookup f7=some ⟨oc7,od7,.func (PySem.W.fnOf "are_prices" "are_prices" (defArgs s_are_prices) (defBody s_are_prices) (defScope s_are_prices) .none kV7 dc7 pm7 an7 cd7 ct7),sl7⟩) (c7:PySem.W.codeIn K cd7 "are_prices" = true) (k7:PySem.W.keepIn K (.ref f7)=true)
  {f8:Addr} {od8 an8:Option Addr} {sl8:Array (Option Value)} {oc8 kV8 dc8 pm8 cd8 ct8:Value}
  (a8:PySem.W.nsIn K mainGlobals "_law_fed" = some (some (.ref f8))) (l8:K.lookup f8=some ⟨oc8,od8,.func (PySem.W.fnOf "_law_fed" "_law_fed" (defArgs s_law_fed) (defBody s_law_fed) (defScope s_law_fed) .none kV8 dc8 pm8 an8 cd8 ct8),sl8⟩) (c8:PySem.W.codeIn K cd8 "_law_fed" = true) (k8:PySem.W.keepIn K (.ref f8)=true)
  {f9:Addr} {od9 an9:Option Addr} {sl9:Array (Option Value)} {oc9 kV9 dc9 pm9 cd9 ct9:Value}
  (a9:PySem.W.nsIn K mainGlobals "_law_draw" = some (some (.ref f9))) (l9:K.lookup f9=some ⟨oc9,od9,.func (PySem.W.fnOf "_law_draw" "_law_draw" (defArgs s_law_draw) (defBody s_law_draw) (defScope s_law_draw) .none kV9 dc9 pm9 an9 cd9 ct9),sl9⟩) (c9:PySem.W.codeIn K cd9 "_law_draw" = true) (k9:PySem.W.keepIn K (.ref f9)=true)
  {f10:Addr} {od10 an10:Option Addr} {sl10:Array (Option Value)} {oc10 kV10 dc10 pm10 cd10 ct10:Value}
  (a10:PySem.W.nsIn K mainGlobals "_law_fit" = some (some (.ref f10))) (l10:K.lookup f10=some ⟨oc10,od10,.func (PySem.W.fnOf "_law_fit" "_law_fit" (defArgs s_law_fit) (defBody s_law_fit) (defScope s_law_fit) .none kV10 dc10 pm10 an10 cd10 ct10),sl10⟩) (c10:PySem.W.codeIn K cd10 "_law_fit" = true) (k10:PySem.W.keepIn K (.ref f10)=true)
  {f11:Addr} {od11 an11:Option Addr} {sl11:Array (Option Value)} {oc11 kV11 dc11 pm11 cd11 ct11:Value}
  (a11:PySem.W.nsIn K mainGlobals "_law_any_span" = some (some (.ref f11))) (l11:K.lookup f11=some ⟨oc11,od11,.func (PySem.W.fnOf "_law_any_span" "_law_any_span" (defArgs s_law_any_span) (defBody s_law_any_span) (defScope s_law_any_span) .none kV11 dc11 pm11 an11 cd11 ct11),sl11⟩) (c11:PySem.W.codeIn K cd11 "_law_any_span" = true) (k11:PySem.W.keepIn K (.ref f11)=true)
  {f12:Addr} {od12 an12:Option Addr} {sl12:Array (Option Value)} {oc12 kV12 dc12 pm12 cd12 ct12:Value}
  (a12:PySem.W.nsIn K mainGlobals "_law_a_plan" = some (some (.ref f12))) (l12:K.lookup f12=some ⟨oc12,od12,.func (PySem.W.fnOf "_law_a_plan" "_law_a_plan" (defArgs s_law_a_plan) (defBody s_law_a_plan) (defScope s_law_a_plan) .none kV12 dc12 pm12 an12 cd12 ct12),sl12⟩) (c12:PySem.W.codeIn K cd12 "_law_a_plan" = true) (k12:PySem.W.keepIn K (.ref f12)=true)
  {f13:Addr} {od13 an13:Option Addr} {sl13:Array (Option Value)} {oc13 kV13 dc13 pm13 cd13 ct13:Value}
  (a13:PySem.W.nsIn K mainGlobals "_law_is_from" = some (some (.ref f13))) (l13:K.lookup f13=some ⟨oc13,od13,.func (PySem.W.fnOf "_law_is_from" "_law_is_from" (defArgs s_law_is_from) (defBody s_law_is_from) (defScope s_law_is_from) .none kV13 dc13 pm13 an13 cd13 ct13),sl13⟩) (c13:PySem.W.codeIn K cd13 "_law_is_from" = true) (k13:PySem.W.keepIn K (.ref f13)=true)
  {f14:Addr} {od14 an14:Option Addr} {sl14:Array (Option Value)} {oc14 kV14 dc14 pm14 cd14 ct14:Value}
  (a14:PySem.W.nsIn K mainGlobals "_law_two_ends" = some (some (.ref f14))) (l14:K.lookup f14=some ⟨oc14,od14,.func (PySem.W.fnOf "_law_two_ends" "_law_two_ends" (defArgs s_law_two_ends) (defBody s_law_two_ends) (defScope s_law_two_ends) .none kV14 dc14 pm14 an14 cd14 ct14),sl14⟩) (c14:PySem.W.codeIn K cd14 "_law_two_ends" = true) (k14:PySem.W.keepIn K (.ref f14)=true)
  {f15:Addr} {od15 an15:Option Addr} {sl15:Array (Option Value)} {oc15 kV15 dc15 pm15 cd15 ct15:Value}
  (a15:PySem.W.nsIn K mainGlobals "_law_is_ring" = some (some (.ref f15))) (l15:K.lookup f15=some ⟨oc15,od15,.func (PySem.W.fnOf "_law_is_ring" "_law_is_ring" (defArgs s_law_is_ring) (defBody s_law_is_ring) (defScope s_law_is_ring) .none kV15 dc15 pm15 an15 cd15 ct15),sl15⟩) (c15:PySem.W.codeIn K cd15 "_law_is_ring" = true) (k15:PySem.W.keepIn K (.ref f15)=true)
  {f16:Addr} {od16 an16:Option Addr} {sl16:Array (Option Value)} {oc16 kV16 dc16 pm16 cd16 ct16:Value}
  (a16:PySem.W.nsIn K mainGlobals "_law_are_prices" = some (some (.ref f16))) (l16:K.lookup f16=some ⟨oc16,od16,.func (PySem.W.fnOf "_law_are_prices" "_law_are_prices" (defArgs s_law_are_prices) (defBody s_law_are_prices) (defScope s_law_are_prices) .none kV16 dc16 pm16 an16 cd16 ct16),sl16⟩) (c16:PySem.W.codeIn K cd16 "_law_are_prices" = true) (k16:PySem.W.keepIn K (.ref f16)=true)
  {f17:Addr} {od17 an17:Option Addr} {sl17:Array (Option Value)} {oc17 kV17 dc17 pm17 cd17 ct17:Value}
  (a17:PySem.W.nsIn K mainGlobals "_law_steps" = some (some (.ref f17))) (l17:K.lookup f17=some ⟨oc17,od17,.func (PySem.W.fnOf "_law_steps" "_law_steps" (defArgs s_law_steps) (defBody s_law_steps) (defScope s_law_steps) .none kV17 dc17 pm17 an17 cd17 ct17),sl17⟩) (c17:PySem.W.codeIn K cd17 "_law_steps" = true) (k17:PySem.W.keepIn K (.ref f17)=true)
  {f18:Addr} {od18 an18:Option Addr} {sl18:Array (Option Value)} {oc18 kV18 dc18 pm18 cd18 ct18:Value}
  (a18:PySem.W.nsIn K mainGlobals "_law_ways" = some (some (.ref f18))) (l18:K.lookup f18=some ⟨oc18,od18,.func (PySem.W.fnOf "_law_ways" "_law_ways" (defArgs s_law_ways) (defBody s_law_ways) (defScope s_law_ways) .none kV18 dc18 pm18 an18 cd18 ct18),sl18⟩) (c18:PySem.W.codeIn K cd18 "_law_ways" = true) (k18:PySem.W.keepIn K (.ref f18)=true)
  {f19:Addr} {od19 an19:Option Addr} {sl19:Array (Option Value)} {oc19 kV19 dc19 pm19 cd19 ct19:Value}
  (a19:PySem.W.nsIn K mainGlobals "_law_back" = some (some (.ref f19))) (l19:K.lookup f19=some ⟨oc19,od19,.func (PySem.W.fnOf "_law_back" "_law_back" (defArgs s_law_back) (defBody s_law_back) (defScope s_law_back) .none kV19 dc19 pm19 an19 cd19 ct19),sl19⟩) (c19:PySem.W.codeIn K cd19 "_law_back" = true) (k19:PySem.W.keepIn K (.ref f19)=true)
  {f20:Addr} {od20 an20:Option Addr} {sl20:Array (Option Value)} {oc20 kV20 dc20 pm20 cd20 ct20:Value}
  (a20:PySem.W.nsIn K mainGlobals "_law_walk" = some (some (.ref f20))) (l20:K.lookup f20=some ⟨oc20,od20,.func (PySem.W.fnOf "_law_walk" "_law_walk" (defArgs s_law_walk) (defBody s_law_walk) (defScope s_law_walk) .none kV20 dc20 pm20 an20 cd20 ct20),sl20⟩) (c20:PySem.W.codeIn K cd20 "_law_walk" = true) (k20:PySem.W.keepIn K (.ref f20)=true)
  {f21:Addr} {od21 an21:Option Addr} {sl21:Array (Option Value)} {oc21 kV21 dc21 pm21 cd21 ct21:Value}
  (a21:PySem.W.nsIn K mainGlobals "_law_some_prices" = some (some (.ref f21))) (l21:K.lookup f21=some ⟨oc21,od21,.func (PySem.W.fnOf "_law_some_prices" "_law_some_prices" (defArgs s_law_some_prices) (defBody s_law_some_prices) (defScope s_law_some_prices) .none kV21 dc21 pm21 an21 cd21 ct21),sl21⟩) (c21:PySem.W.codeIn K cd21 "_law_some_prices" = true) (k21:PySem.W.keepIn K (.ref f21)=true)
  {f22:Addr} {od22 an22:Option Addr} {sl22:Array (Option Value)} {oc22 kV22 dc22 pm22 cd22 ct22:Value}
  (a22:PySem.W.nsIn K mainGlobals "_law_odd" = some (some (.ref f22))) (l22:K.lookup f22=some ⟨oc22,od22,.func (PySem.W.fnOf "_law_odd" "_law_odd" (defArgs s_law_odd) (defBody s_law_odd) (defScope s_law_odd) .none kV22 dc22 pm22 an22 cd22 ct22),sl22⟩) (c22:PySem.W.codeIn K cd22 "_law_odd" = true) (k22:PySem.W.keepIn K (.ref f22)=true)
  {f23:Addr} {od23 an23:Option Addr} {sl23:Array (Option Value)} {oc23 kV23 dc23 pm23 cd23 ct23:Value}
  (a23:PySem.W.nsIn K mainGlobals "_law_bent" = some (some (.ref f23))) (l23:K.lookup f23=some ⟨oc23,od23,.func (PySem.W.fnOf "_law_bent" "_law_bent" (defArgs s_law_bent) (defBody s_law_bent) (defScope s_law_bent) .none kV23 dc23 pm23 an23 cd23 ct23),sl23⟩) (c23:PySem.W.codeIn K cd23 "_law_bent" = true) (k23:PySem.W.keepIn K (.ref f23)=true)
  {f24:Addr} {od24 an24:Option Addr} {sl24:Array (Option Value)} {oc24 kV24 dc24 pm24 cd24 ct24:Value}
  (a24:PySem.W.nsIn K mainGlobals "_law_at_bounds" = some (some (.ref f24))) (l24:K.lookup f24=some ⟨oc24,od24,.func (PySem.W.fnOf "_law_at_bounds" "_law_at_bounds" (defArgs s_law_at_bounds) (defBody s_law_at_bounds) (defScope s_law_at_bounds) .none kV24 dc24 pm24 an24 cd24 ct24),sl24⟩) (c24:PySem.W.codeIn K cd24 "_law_at_bounds" = true) (k24:PySem.W.keepIn K (.ref f24)=true)
  {f25:Addr} {od25 an25:Option Addr} {sl25:Array (Option Value)} {oc25 kV25 dc25 pm25 cd25 ct25:Value}
  (a25:PySem.W.nsIn K mainGlobals "law" = some (some (.ref f25))) (l25:K.lookup f25=some ⟨oc25,od25,.func (PySem.W.fnOf "law" "law" (defArgs s_law) (defBody s_law) (defScope s_law) .none kV25 dc25 pm25 an25 cd25 ct25),sl25⟩) (c25:PySem.W.codeIn K cd25 "law" = true) (k25:PySem.W.keepIn K (.ref f25)=true)
  (z_len:PySem.W.nsIn K mainGlobals "len" = some none)
  (z_repr:PySem.W.nsIn K mainGlobals "repr" = some none)
  (z_min:PySem.W.nsIn K mainGlobals "min" = some none)
  (z_max:PySem.W.nsIn K mainGlobals "max" = some none)
  (z_sum:PySem.W.nsIn K mainGlobals "sum" = some none)
  (z_all:PySem.W.nsIn K mainGlobals "all" = some none)
  (z_any:PySem.W.nsIn K mainGlobals "any" = some none)
  (z_sorted:PySem.W.nsIn K mainGlobals "sorted" = some none)
  (z_int:PySem.W.nsIn K mainGlobals "int" = some none)
  (z_str:PySem.W.nsIn K mainGlobals "str" = some none)
  (z_isinstance:PySem.W.nsIn K mainGlobals "isinstance" = some none)
  (z_range:PySem.W.nsIn K mainGlobals "range" = some none)
  (z_enumerate:PySem.W.nsIn K mainGlobals "enumerate" = some none)
  (z_list:PySem.W.nsIn K mainGlobals "list" = some none)
  (z_tuple:PySem.W.nsIn K mainGlobals "tuple" = some none)
  (z_bool:PySem.W.nsIn K mainGlobals "bool" = some none)
  (z_dict:PySem.W.nsIn K mainGlobals "dict" = some none)
  (z_ValueError:PySem.W.nsIn K mainGlobals "ValueError" = some none)
  {t_MOST_ENTRIES:Tok} (g_MOST_ENTRIES:PySem.W.nsIn K mainGlobals "MOST_ENTRIES" = some (some (.int 60 t_MOST_ENTRIES)))
  {t_MOST_PRICE:Tok} (g_MOST_PRICE:PySem.W.nsIn K mainGlobals "MOST_PRICE" = some (some (.int 999 t_MOST_PRICE)))
  {t_MOST_PRICES:Tok} (g_MOST_PRICES:PySem.W.nsIn K mainGlobals "MOST_PRICES" = some (some (.int 24 t_MOST_PRICES)))
  : ∃ fd:FuncData,(∀ (s:Shared) (v:Value),BindsTo s fd ⟨[v],[]⟩ [("_law_script",v)])/\∀ base:Heap,K.In base->base.Ns mainGlobals mg->FnOk l.prog w K mg base (CX1 l.prog w) 302 fa fd ["_law_script"] (lSp K (jab T 300 jfv)):=by
 have e:=hfa.symm.trans (PySem.W.mg_of X G a25)
 cases e
 have F0:=jam (st:=s_is_whole) l0 c0 k0
 have b0:=F0.binds (ps:=["thing"]) fun _ _ _ _ _ _ us hl=>by obtain ⟨u0,rfl⟩:=ln1 us hl; rfl
 have F1:=jam (st:=s_is_within) l1 c1 k1
 have b1:=F1.binds (ps:=["thing", "least", "most"]) fun _ _ _ _ _ _ us hl=>by obtain ⟨u0,u1,u2,rfl⟩:=ln3 us hl; rfl
 have F2:=jam (st:=s_is_work_of) l2 c2 k2
 have b2:=F2.binds (ps:=["stays", "thing"]) fun _ _ _ _ _ _ us hl=>by obtain ⟨u0,u1,rfl⟩:=ln2 us hl; rfl
 have F3:=jam (st:=s_is_entry) l3 c3 k3
 have b3:=F3.binds (ps:=["plan", "stays", "thing"]) fun _ _ _ _ _ _ us hl=>by obtain ⟨u0,u1,u2,rfl⟩:=ln3 us hl; rfl
 have F4:=jam (st:=s_ends_of) l4 c4 k4
 have b4:=F4.binds (ps:=["plan", "entry"]) fun _ _ _ _ _ _ us hl=>by obtain ⟨u0,u1,rfl⟩:=ln2 us hl; rfl
 have F5:=jam (st:=s_is_ring) l5 c5 k5
 have b5:=F5.binds (ps:=["plan", "stays", "thing"]) fun _ _ _ _ _ _ us hl=>by obtain ⟨u0,u1,u2,rfl⟩:=ln3 us hl; rfl
 have F6:=jam (st:=s_is_priced_ring) l6 c6 k6
 have b6:=F6.binds (ps:=["plan", "thing"]) fun _ _ _ _ _ _ us hl=>by obtain ⟨u0,u1,rfl⟩:=ln2 us hl; rfl
 have F7:=jam (st:=s_are_prices) l7 c7 k7
 have b7:=F7.binds (ps:=["plan", "thing"]) fun _ _ _ _ _ _ us hl=>by obtain ⟨u0,u1,rfl⟩:=ln2 us hl; rfl
 have F8:=jam (st:=s_law_fed) l8 c8 k8
 have b8:=F8.binds (ps:=["_law_script"]) fun _ _ _ _ _ _ us hl=>by obtain ⟨u0,rfl⟩:=ln1 us hl; rfl
 have F9:=jam (st:=s_law_draw) l9 c9 k9
 have b9:=F9.binds (ps:=["_law_feed", "_law_many"]) fun _ _ _ _ _ _ us hl=>by obtain ⟨u0,u1,rfl⟩:=ln2 us hl; rfl
 have F10:=jam (st:=s_law_fit) l10 c10 k10
 have b10:=F10.binds (ps:=["_law_feed", "_law_cycle", "_law_beats", "_law_one", "_law_other"]) fun _ _ _ _ _ _ us hl=>by obtain ⟨u0,u1,u2,u3,u4,rfl⟩:=ln5 us hl; rfl
 have F11:=jam (st:=s_law_any_span) l11 c11 k11
 have b11:=F11.binds (ps:=["_law_feed", "_law_cycle", "_law_one", "_law_other"]) fun _ _ _ _ _ _ us hl=>by obtain ⟨u0,u1,u2,u3,rfl⟩:=ln4 us hl; rfl
 have F12:=jam (st:=s_law_a_plan) l12 c12 k12
 have b12:=F12.binds (ps:=["_law_feed", "_law_works", "_law_cycle", "_law_most"]) fun _ _ _ _ _ _ us hl=>by obtain ⟨u0,u1,u2,u3,rfl⟩:=ln4 us hl; rfl
 have F13:=jam (st:=s_law_is_from) l13 c13 k13
 have b13:=F13.binds (ps:=["_law_least", "_law_most", "_law_thing"]) fun _ _ _ _ _ _ us hl=>by obtain ⟨u0,u1,u2,rfl⟩:=ln3 us hl; rfl
 have F14:=jam (st:=s_law_two_ends) l14 c14 k14
 have b14:=F14.binds (ps:=["_law_plan", "_law_stays", "_law_entry"]) fun _ _ _ _ _ _ us hl=>by obtain ⟨u0,u1,u2,rfl⟩:=ln3 us hl; rfl
 have F15:=jam (st:=s_law_is_ring) l15 c15 k15
 have b15:=F15.binds (ps:=["_law_plan", "_law_stays", "_law_thing"]) fun _ _ _ _ _ _ us hl=>by obtain ⟨u0,u1,u2,rfl⟩:=ln3 us hl; rfl
 have F16:=jam (st:=s_law_are_prices) l16 c16 k16
 have b16:=F16.binds (ps:=["_law_plan", "_law_thing"]) fun _ _ _ _ _ _ us hl=>by obtain ⟨u0,u1,rfl⟩:=ln2 us hl; rfl
 have F17:=jam (st:=s_law_steps) l17 c17 k17
 have b17:=F17.binds (ps:=["_law_plan", "_law_stays"]) fun _ _ _ _ _ _ us hl=>by obtain ⟨u0,u1,rfl⟩:=ln2 us hl; rfl
 have F18:=jam (st:=s_law_ways) l18 c18 k18
 have b18:=F18.binds (ps:=["_law_plan", "_law_stays", "_law_entries"]) fun _ _ _ _ _ _ us hl=>by obtain ⟨u0,u1,u2,rfl⟩:=ln3 us hl; rfl
 have F19:=jam (st:=s_law_back) l19 c19 k19
 have b19:=F19.binds (ps:=["_law_path"]) fun _ _ _ _ _ _ us hl=>by obtain ⟨u0,rfl⟩:=ln1 us hl; rfl
 have F20:=jam (st:=s_law_walk) l20 c20 k20
 have b20:=F20.binds (ps:=["_law_feed", "_law_plan"]) fun _ _ _ _ _ _ us hl=>by obtain ⟨u0,u1,rfl⟩:=ln2 us hl; rfl
 have F21:=jam (st:=s_law_some_prices) l21 c21 k21
 have b21:=F21.binds (ps:=["_law_feed", "_law_plan"]) fun _ _ _ _ _ _ us hl=>by obtain ⟨u0,u1,rfl⟩:=ln2 us hl; rfl
 have F22:=jam (st:=s_law_odd) l22 c22 k22
 have b22:=F22.binds (ps:=["_law_feed", "_law_thing"]) fun _ _ _ _ _ _ us hl=>by obtain ⟨u0,u1,rfl⟩:=ln2 us hl; rfl
 have F23:=jam (st:=s_law_bent) l23 c23 k23
 have b23:=F23.binds (ps:=["_law_feed", "_law_thing", "_law_deep"]) fun _ _ _ _ _ _ us hl=>by obtain ⟨u0,u1,u2,rfl⟩:=ln3 us hl; rfl
 have F24:=jam (st:=s_law_at_bounds) l24 c24 k24
 have b24:=F24.binds (ps:=["_law_feed", "_law_plan"]) fun _ _ _ _ _ _ us hl=>by obtain ⟨u0,u1,rfl⟩:=ln2 us hl; rfl
 have F25:=jam (st:=s_law) l25 c25 k25
 have b25:=F25.binds (ps:=["_law_script"]) fun _ _ _ _ _ _ us hl=>by obtain ⟨u0,rfl⟩:=ln1 us hl; rfl
 refine ⟨PySem.W.fnOf "law" "law" (defArgs s_law) (defBody s_law) (defScope s_law) .none kV25 dc25 pm25 an25 cd25 ct25,fun s v=>.of_eq rfl,fun base _ _=>?_⟩
 have dyn:∀ (n:Nat) (d:Fun) (st:Stmt),T.funs[n]?=some d->sts[n]?=some st->∃ (f:Addr) (fd:FuncData),L2.Fun K d.name d.name st f fd/\mg d.name=some (.ref f)/\Binds K fd d.ps []:=by
  intro n d st h1 h2
  rcases n with _ | n
  ·cases h1; cases h2; exact ⟨_,_,F0,PySem.W.mg_of X G a0,b0⟩
  rcases n with _ | n
  ·cases h1; cases h2; exact ⟨_,_,F1,PySem.W.mg_of X G a1,b1⟩
  rcases n with _ | n
  ·cases h1; cases h2; exact ⟨_,_,F2,PySem.W.mg_of X G a2,b2⟩
  rcases n with _ | n
  ·cases h1; cases h2; exact ⟨_,_,F3,PySem.W.mg_of X G a3,b3⟩
  rcases n with _ | n
  ·cases h1; cases h2; exact ⟨_,_,F4,PySem.W.mg_of X G a4,b4⟩
  rcases n with _ | n
  ·cases h1; cases h2; exact ⟨_,_,F5,PySem.W.mg_of X G a5,b5⟩
  rcases n with _ | n
  ·cases h1; cases h2; exact ⟨_,_,F6,PySem.W.mg_of X G a6,b6⟩
  rcases n with _ | n
  ·cases h1; cases h2; exact ⟨_,_,F7,PySem.W.mg_of X G a7,b7⟩
  rcases n with _ | n
  ·cases h1; cases h2; exact ⟨_,_,F8,PySem.W.mg_of X G a8,b8⟩
  rcases n with _ | n
  ·cases h1; cases h2; exact ⟨_,_,F9,PySem.W.mg_of X G a9,b9⟩
  rcases n with _ | n
  ·cases h1; cases h2; exact ⟨_,_,F10,PySem.W.mg_of X G a10,b10⟩
  rcases n with _ | n
  ·cases h1; cases h2; exact ⟨_,_,F11,PySem.W.mg_of X G a11,b11⟩
  rcases n with _ | n
  ·cases h1; cases h2; exact ⟨_,_,F12,PySem.W.mg_of X G a12,b12⟩
  rcases n with _ | n
  ·cases h1; cases h2; exact ⟨_,_,F13,PySem.W.mg_of X G a13,b13⟩
  rcases n with _ | n
  ·cases h1; cases h2; exact ⟨_,_,F14,PySem.W.mg_of X G a14,b14⟩
  rcases n with _ | n
  ·cases h1; cases h2; exact ⟨_,_,F15,PySem.W.mg_of X G a15,b15⟩
  rcases n with _ | n
  ·cases h1; cases h2; exact ⟨_,_,F16,PySem.W.mg_of X G a16,b16⟩
  rcases n with _ | n
  ·cases h1; cases h2; exact ⟨_,_,F17,PySem.W.mg_of X G a17,b17⟩
  rcases n with _ | n
  ·cases h1; cases h2; exact ⟨_,_,F18,PySem.W.mg_of X G a18,b18⟩
  rcases n with _ | n
  ·cases h1; cases h2; exact ⟨_,_,F19,PySem.W.mg_of X G a19,b19⟩
  rcases n with _ | n
  ·cases h1; cases h2; exact ⟨_,_,F20,PySem.W.mg_of X G a20,b20⟩
  rcases n with _ | n
  ·cases h1; cases h2; exact ⟨_,_,F21,PySem.W.mg_of X G a21,b21⟩
  rcases n with _ | n
  ·cases h1; cases h2; exact ⟨_,_,F22,PySem.W.mg_of X G a22,b22⟩
  rcases n with _ | n
  ·cases h1; cases h2; exact ⟨_,_,F23,PySem.W.mg_of X G a23,b23⟩
  rcases n with _ | n
  ·cases h1; cases h2; exact ⟨_,_,F24,PySem.W.mg_of X G a24,b24⟩
  rcases n with _ | n
  ·cases h1; cases h2; exact ⟨_,_,F25,PySem.W.mg_of X G a25,b25⟩
  cases h1
 have hb:∀ x∈jcy,mg x=none:=by
  intro x hx
  simp only [jcy,List.mem_cons,List.not_mem_nil,or_false] at hx
  rcases hx with rfl | rfl | rfl | rfl | rfl | rfl | rfl | rfl | rfl | rfl | rfl | rfl | rfl | rfl | rfl | rfl | rfl | rfl
  ·exact PySem.W.mg_none_of X G z_len
  ·exact PySem.W.mg_none_of X G z_repr
  ·exact PySem.W.mg_none_of X G z_min
  ·exact PySem.W.mg_none_of X G z_max
  ·exact PySem.W.mg_none_of X G z_sum
  ·exact PySem.W.mg_none_of X G z_all
  ·exact PySem.W.mg_none_of X G z_any
  ·exact PySem.W.mg_none_of X G z_sorted
  ·exact PySem.W.mg_none_of X G z_int
  ·exact PySem.W.mg_none_of X G z_str
  ·exact PySem.W.mg_none_of X G z_isinstance
  ·exact PySem.W.mg_none_of X G z_range
  ·exact PySem.W.mg_none_of X G z_enumerate
  ·exact PySem.W.mg_none_of X G z_list
  ·exact PySem.W.mg_none_of X G z_tuple
  ·exact PySem.W.mg_none_of X G z_bool
  ·exact PySem.W.mg_none_of X G z_dict
  ·exact PySem.W.mg_none_of X G z_ValueError
 have hg:∀ (n:Nat) (x:Str) (u:U),T.gn[n]?=some x->T.gs[n]?=some u->∃ v w,mg x=some w/\RelV v w/\∀ H,RU K H u v:=by
  intro n x u h1 h2
  rcases n with _ | n
  ·cases h1; cases h2; exact ⟨V.int 60,_,PySem.W.mg_of X G g_MOST_ENTRIES,⟨_,rfl⟩,fun _=>rfl⟩
  rcases n with _ | n
  ·cases h1; cases h2; exact ⟨V.int 999,_,PySem.W.mg_of X G g_MOST_PRICE,⟨_,rfl⟩,fun _=>rfl⟩
  rcases n with _ | n
  ·cases h1; cases h2; exact ⟨V.int 24,_,PySem.W.mg_of X G g_MOST_PRICES,⟨_,rfl⟩,fun _=>rfl⟩
  cases h1
 have hc:∀ n∈T.cs,1<=n->∃ C,XCls K (gK K) (clsN n) (clsF n) C:=by
  intro n hn h1
  exact absurd hn (by show n∉([]:List Nat); simp)
 have hm:=jkU X G
 obtain ⟨f,fd,F,m,_,_⟩:=jeu (P:=l.prog) (w:=w) (base:=base) je3 jfY dyn hb hg hc hm 300 jfv jhs rfl
 have e2:=m.symm.trans (PySem.W.mg_of X G a25)
 cases e2
 exact jfn F25 je3 jfY dyn hb hg hc hm (d:=jhs) (n:=jfv) rfl rfl (PySem.W.mg_of X G a25) b25
theorem walk {l:PySem.W.OpenLaw}{q:Program}{loose:List Str}{XP:(Str->Option Value)->Heap->Prop}{YP:World->Heap->Prop}{d:DefRec}{K:Params->PySem.W.Frag}(hn:l.most=some 63)(hdf:d.params.defaults=[])
  (hY:∀ (w:World) (h:Heap),YP w h->(K w.params).In h) (hK:∀ w:World,((K w.params).all fun p=>p.2.cls != .type "list")=true) (hsy:∀ w:World,∃ o,(K w.params).lookup sysModules=some o/\o.cls=.type "dict")
  (F:∀ (w:World) (mg:Str->Option Value) (fa:Addr) (h:Heap),(K w.params).In h->h.Ns mainGlobals mg->mg d.name=some (.ref fa)->
   ∃ fd:FuncData,(∀ (s:Shared) (u:Value),BindsTo s fd ⟨[u],[]⟩ [("_law_script",u)])/\∀ base:Heap,(K w.params).In base->base.Ns mainGlobals mg->FnOk l.prog w (K w.params) mg base (CX1 l.prog w) 302 fa fd ["_law_script"] (lSp (K w.params) (jab T 300 jfv))) :
  PySem.W.WalkO q loose XP YP l.row.toRowW d [] (fun f vs=>PySem.call f vs):=
 L2.walk_of (n:=63) (k:=302) (x := "_law_script") (CX:=fun w=>CX1 l.prog w) (sp:=fun w=>lSp (K w.params) (jab T 300 jfv)) hn (by decide) hdf ⟨rfl,by decide,by decide,rfl⟩ hY hsy F (fun w _ a ns hl hO hS=>law_sp (hK w) hO hS (law_ir a ns hl)) fun _ _ _ _ _ ⟨_,_,_,_,_,_,_,_,_,_,z⟩=>z
end Z
def Z.bY1:List PySem.Stmt:=L2.defBody (Z.top 1)
def Z.cY1:PySem.Scope:=L2.defScope (Z.top 1)
def Z.bY2:List PySem.Stmt:=L2.defBody (Z.top 2)
def Z.cY2:PySem.Scope:=L2.defScope (Z.top 2)
def Z.bY5:List PySem.Stmt:=L2.defBody (Z.top 5)
def Z.cY5:PySem.Scope:=L2.defScope (Z.top 5)
def Z.bY6:List PySem.Stmt:=L2.defBody (Z.top 6)
def Z.cY6:PySem.Scope:=L2.defScope (Z.top 6)
def Z.bY7:List PySem.Stmt:=L2.defBody (Z.top 7)
def Z.cY7:PySem.Scope:=L2.defScope (Z.top 7)
def Z.bY8:List PySem.Stmt:=L2.defBody (Z.top 8)
def Z.cY8:PySem.Scope:=L2.defScope (Z.top 8)
def Z.bY12:List PySem.Stmt:=L2.defBody (Z.top 12)
def Z.cY12:PySem.Scope:=L2.defScope (Z.top 12)
def Z.bY13:List PySem.Stmt:=L2.defBody (Z.top 13)
def Z.cY13:PySem.Scope:=L2.defScope (Z.top 13)
def Z.bY15:List PySem.Stmt:=L2.defBody (Z.top 15)
def Z.cY15:PySem.Scope:=L2.defScope (Z.top 15)
def Z.bY16:List PySem.Stmt:=L2.defBody (Z.top 16)
def Z.cY16:PySem.Scope:=L2.defScope (Z.top 16)
def Z.bY17:List PySem.Stmt:=L2.defBody (Z.top 17)
def Z.cY17:PySem.Scope:=L2.defScope (Z.top 17)
def Z.bY18:List PySem.Stmt:=L2.defBody (Z.top 18)
def Z.cY18:PySem.Scope:=L2.defScope (Z.top 18)
def Z.bY19:List PySem.Stmt:=L2.defBody (Z.top 19)
def Z.cY19:PySem.Scope:=L2.defScope (Z.top 19)
def Z.bY20:List PySem.Stmt:=L2.defBody (Z.top 20)
def Z.cY20:PySem.Scope:=L2.defScope (Z.top 20)
def Z.bY21:List PySem.Stmt:=L2.defBody (Z.top 21)
def Z.cY21:PySem.Scope:=L2.defScope (Z.top 21)
def Z.bY22:List PySem.Stmt:=L2.defBody (Z.top 22)
def Z.cY22:PySem.Scope:=L2.defScope (Z.top 22)
def Z.bY23:List PySem.Stmt:=L2.defBody (Z.top 23)
def Z.cY23:PySem.Scope:=L2.defScope (Z.top 23)
def Z.bY24:List PySem.Stmt:=L2.defBody (Z.top 24)
def Z.cY24:PySem.Scope:=L2.defScope (Z.top 24)
def Z.bY25:List PySem.Stmt:=L2.defBody (Z.top 25)
def Z.cY25:PySem.Scope:=L2.defScope (Z.top 25)
def Z.bY26:List PySem.Stmt:=L2.defBody (Z.top 26)
def Z.cY26:PySem.Scope:=L2.defScope (Z.top 26)
def Z.bY27:List PySem.Stmt:=L2.defBody (Z.top 27)
def Z.cY27:PySem.Scope:=L2.defScope (Z.top 27)
def Z.bY28:List PySem.Stmt:=L2.defBody (Z.top 28)
def Z.cY28:PySem.Scope:=L2.defScope (Z.top 28)
def Z.bY29:List PySem.Stmt:=L2.defBody (Z.top 29)
def Z.cY29:PySem.Scope:=L2.defScope (Z.top 29)
def Z.bY30:List PySem.Stmt:=L2.defBody (Z.top 30)
def Z.cY30:PySem.Scope:=L2.defScope (Z.top 30)
def Z.bY31:List PySem.Stmt:=L2.defBody (Z.top 31)
def Z.cY31:PySem.Scope:=L2.defScope (Z.top 31)
def Z.bY32:List PySem.Stmt:=L2.defBody (Z.top 32)
def Z.cY32:PySem.Scope:=L2.defScope (Z.top 32)
def Z.sY0:PySem.Stmt:=(PySem.Stmt.Assign (targets:=[(PySem.Expr.Name "__name__" ⟨1,0,1,8⟩)]) (value:=(PySem.Expr.Constant (PySem.Const.str "beatplans.plans") 0 ⟨1,11,1,28⟩)) (pos:=⟨1,0,1,28⟩))
def Z.sY1:PySem.Stmt:=(PySem.Stmt.FunctionDef (name := "is_whole") (args:={ posonlyargs:=[],args:=[{ arg := "thing",annotation:=none,pos:=⟨2,13,2,18⟩:PySem.Arg }],vararg:=none,kwonlyargs:=[],kw_defaults:=[],kwarg:=none,defaults:=[]:PySem.Arguments }) (body:=Z.bY1) (decorator_list:=[]) (returns:=none) (type_params:=[]) (scope:=Z.cY1) (tscope:=none) (bind := "is_whole") (pos:=⟨2,0,3,67⟩))
def Z.sY2:PySem.Stmt:=(PySem.Stmt.FunctionDef (name := "is_within") (args:={ posonlyargs:=[],args:=[ { arg := "thing",annotation:=none,pos:=⟨4,14,4,19⟩:PySem.Arg },{ arg := "least",annotation:=none,pos:=⟨4,21,4,26⟩:PySem.Arg },{ arg := "most",annotation:=none,pos:=⟨4,28,4,32⟩:PySem.Arg }],vararg:=none,kwonlyargs:=[],kw_defaults:=[],kwarg:=none,defaults:=[]:PySem.Arguments }) (body:=Z.bY2) (decorator_list:=[]) (returns:=none) (type_params:=[]) (scope:=Z.cY2) (tscope:=none) (bind := "is_within") (pos:=⟨4,0,5,53⟩))
def Z.sY3:PySem.Stmt:=(PySem.Stmt.Assign (targets:=[(PySem.Expr.Name "__name__" ⟨6,0,6,8⟩)]) (value:=(PySem.Expr.Constant (PySem.Const.str "beatplans.rings") 0 ⟨6,11,6,28⟩)) (pos:=⟨6,0,6,28⟩))
def Z.sY4:PySem.Stmt:=(PySem.Stmt.Assign (targets:=[(PySem.Expr.Name "MOST_ENTRIES" ⟨7,0,7,12⟩)]) (value:=(PySem.Expr.Constant (PySem.Const.int 60) 0 ⟨7,15,7,17⟩)) (pos:=⟨7,0,7,17⟩))
def Z.sY5:PySem.Stmt:=(PySem.Stmt.FunctionDef (name := "is_work_of") (args:={ posonlyargs:=[],args:=[ { arg := "stays",annotation:=none,pos:=⟨8,15,8,20⟩:PySem.Arg },{ arg := "thing",annotation:=none,pos:=⟨8,22,8,27⟩:PySem.Arg }],vararg:=none,kwonlyargs:=[],kw_defaults:=[],kwarg:=none,defaults:=[]:PySem.Arguments }) (body:=Z.bY5) (decorator_list:=[]) (returns:=none) (type_params:=[]) (scope:=Z.cY5) (tscope:=none) (bind := "is_work_of") (pos:=⟨8,0,9,45⟩))
def Z.sY6:PySem.Stmt:=(PySem.Stmt.FunctionDef (name := "is_entry") (args:={ posonlyargs:=[],args:=[ { arg := "plan",annotation:=none,pos:=⟨10,13,10,17⟩:PySem.Arg },{ arg := "stays",annotation:=none,pos:=⟨10,19,10,24⟩:PySem.Arg },{ arg := "thing",annotation:=none,pos:=⟨10,26,10,31⟩:PySem.Arg }],vararg:=none,kwonlyargs:=[],kw_defaults:=[],kwarg:=none,defaults:=[]:PySem.Arguments }) (body:=Z.bY6) (decorator_list:=[]) (returns:=none) (type_params:=[]) (scope:=Z.cY6) (tscope:=none) (bind := "is_entry") (pos:=⟨10,0,19,83⟩))
def Z.sY7:PySem.Stmt:=(PySem.Stmt.FunctionDef (name := "ends_of") (args:={ posonlyargs:=[],args:=[ { arg := "plan",annotation:=none,pos:=⟨20,12,20,16⟩:PySem.Arg },{ arg := "entry",annotation:=none,pos:=⟨20,18,20,23⟩:PySem.Arg }],vararg:=none,kwonlyargs:=[],kw_defaults:=[],kwarg:=none,defaults:=[]:PySem.Arguments }) (body:=Z.bY7) (decorator_list:=[]) (returns:=none) (type_params:=[]) (scope:=Z.cY7) (tscope:=none) (bind := "ends_of") (pos:=⟨20,0,25,53⟩))
def Z.sY8:PySem.Stmt:=(PySem.Stmt.FunctionDef (name := "is_ring") (args:={ posonlyargs:=[],args:=[ { arg := "plan",annotation:=none,pos:=⟨26,12,26,16⟩:PySem.Arg },{ arg := "stays",annotation:=none,pos:=⟨26,18,26,23⟩:PySem.Arg },{ arg := "thing",annotation:=none,pos:=⟨26,25,26,30⟩:PySem.Arg }],vararg:=none,kwonlyargs:=[],kw_defaults:=[],kwarg:=none,defaults:=[]:PySem.Arguments }) (body:=Z.bY8) (decorator_list:=[]) (returns:=none) (type_params:=[]) (scope:=Z.cY8) (tscope:=none) (bind := "is_ring") (pos:=⟨26,0,32,75⟩))
def Z.sY9:PySem.Stmt:=(PySem.Stmt.Assign (targets:=[(PySem.Expr.Name "__name__" ⟨33,0,33,8⟩)]) (value:=(PySem.Expr.Constant (PySem.Const.str "beatplans.prices") 0 ⟨33,11,33,29⟩)) (pos:=⟨33,0,33,29⟩))
def Z.sY10:PySem.Stmt:=(PySem.Stmt.Assign (targets:=[(PySem.Expr.Name "MOST_PRICES" ⟨34,0,34,11⟩)]) (value:=(PySem.Expr.Constant (PySem.Const.int 24) 0 ⟨34,14,34,16⟩)) (pos:=⟨34,0,34,16⟩))
def Z.sY11:PySem.Stmt:=(PySem.Stmt.Assign (targets:=[(PySem.Expr.Name "MOST_PRICE" ⟨35,0,35,10⟩)]) (value:=(PySem.Expr.Constant (PySem.Const.int 999) 0 ⟨35,13,35,16⟩)) (pos:=⟨35,0,35,16⟩))
def Z.sY12:PySem.Stmt:=(PySem.Stmt.FunctionDef (name := "is_priced_ring") (args:={ posonlyargs:=[],args:=[ { arg := "plan",annotation:=none,pos:=⟨36,19,36,23⟩:PySem.Arg },{ arg := "thing",annotation:=none,pos:=⟨36,25,36,30⟩:PySem.Arg }],vararg:=none,kwonlyargs:=[],kw_defaults:=[],kwarg:=none,defaults:=[]:PySem.Arguments }) (body:=Z.bY12) (decorator_list:=[]) (returns:=none) (type_params:=[]) (scope:=Z.cY12) (tscope:=none) (bind := "is_priced_ring") (pos:=⟨36,0,40,70⟩))
def Z.sY13:PySem.Stmt:=(PySem.Stmt.FunctionDef (name := "are_prices") (args:={ posonlyargs:=[],args:=[ { arg := "plan",annotation:=none,pos:=⟨41,15,41,19⟩:PySem.Arg },{ arg := "thing",annotation:=none,pos:=⟨41,21,41,26⟩:PySem.Arg }],vararg:=none,kwonlyargs:=[],kw_defaults:=[],kwarg:=none,defaults:=[]:PySem.Arguments }) (body:=Z.bY13) (decorator_list:=[]) (returns:=none) (type_params:=[]) (scope:=Z.cY13) (tscope:=none) (bind := "are_prices") (pos:=⟨41,0,44,62⟩))
def Z.sY14:PySem.Stmt:=(PySem.Stmt.Assign (targets:=[(PySem.Expr.Name "__name__" ⟨45,0,45,8⟩)]) (value:=(PySem.Expr.Constant (PySem.Const.str "law_beatplans_k31_prices_of_any_thing") 0 ⟨45,11,45,50⟩)) (pos:=⟨45,0,45,50⟩))
def Z.sY15:PySem.Stmt:=(PySem.Stmt.FunctionDef (name := "_law_fed") (args:={ posonlyargs:=[],args:=[{ arg := "_law_script",annotation:=none,pos:=⟨46,13,46,24⟩:PySem.Arg }],vararg:=none,kwonlyargs:=[],kw_defaults:=[],kwarg:=none,defaults:=[]:PySem.Arguments }) (body:=Z.bY15) (decorator_list:=[]) (returns:=none) (type_params:=[]) (scope:=Z.cY15) (tscope:=none) (bind := "_law_fed") (pos:=⟨46,0,47,69⟩))
def Z.sY16:PySem.Stmt:=(PySem.Stmt.FunctionDef (name := "_law_draw") (args:={ posonlyargs:=[],args:=[ { arg := "_law_feed",annotation:=none,pos:=⟨48,14,48,23⟩:PySem.Arg },{ arg := "_law_many",annotation:=none,pos:=⟨48,25,48,34⟩:PySem.Arg }],vararg:=none,kwonlyargs:=[],kw_defaults:=[],kwarg:=none,defaults:=[]:PySem.Arguments }) (body:=Z.bY16) (decorator_list:=[]) (returns:=none) (type_params:=[]) (scope:=Z.cY16) (tscope:=none) (bind := "_law_draw") (pos:=⟨48,0,63,39⟩))
def Z.sY17:PySem.Stmt:=(PySem.Stmt.FunctionDef (name := "_law_fit") (args:={ posonlyargs:=[],args:=[ { arg := "_law_feed",annotation:=none,pos:=⟨64,13,64,22⟩:PySem.Arg },{ arg := "_law_cycle",annotation:=none,pos:=⟨64,24,64,34⟩:PySem.Arg },{ arg := "_law_beats",annotation:=none,pos:=⟨64,36,64,46⟩:PySem.Arg },{ arg := "_law_one",annotation:=none,pos:=⟨64,48,64,56⟩:PySem.Arg },{ arg := "_law_other",annotation:=none,pos:=⟨64,58,64,68⟩:PySem.Arg }],vararg:=none,kwonlyargs:=[],kw_defaults:=[],kwarg:=none,defaults:=[]:PySem.Arguments }) (body:=Z.bY17) (decorator_list:=[]) (returns:=none) (type_params:=[]) (scope:=Z.cY17) (tscope:=none) (bind := "_law_fit") (pos:=⟨64,0,70,132⟩))
def Z.sY18:PySem.Stmt:=(PySem.Stmt.FunctionDef (name := "_law_any_span") (args:={ posonlyargs:=[],args:=[ { arg := "_law_feed",annotation:=none,pos:=⟨71,18,71,27⟩:PySem.Arg },{ arg := "_law_cycle",annotation:=none,pos:=⟨71,29,71,39⟩:PySem.Arg },{ arg := "_law_one",annotation:=none,pos:=⟨71,41,71,49⟩:PySem.Arg },{ arg := "_law_other",annotation:=none,pos:=⟨71,51,71,61⟩:PySem.Arg }],vararg:=none,kwonlyargs:=[],kw_defaults:=[],kwarg:=none,defaults:=[]:PySem.Arguments }) (body:=Z.bY18) (decorator_list:=[]) (returns:=none) (type_params:=[]) (scope:=Z.cY18) (tscope:=none) (bind := "_law_any_span") (pos:=⟨71,0,75,164⟩))
def Z.sY19:PySem.Stmt:=(PySem.Stmt.FunctionDef (name := "_law_a_plan") (args:={ posonlyargs:=[],args:=[ { arg := "_law_feed",annotation:=none,pos:=⟨76,16,76,25⟩:PySem.Arg },{ arg := "_law_works",annotation:=none,pos:=⟨76,27,76,37⟩:PySem.Arg },{ arg := "_law_cycle",annotation:=none,pos:=⟨76,39,76,49⟩:PySem.Arg },{ arg := "_law_most",annotation:=none,pos:=⟨76,51,76,60⟩:PySem.Arg }],vararg:=none,kwonlyargs:=[],kw_defaults:=[],kwarg:=none,defaults:=[]:PySem.Arguments }) (body:=Z.bY19) (decorator_list:=[]) (returns:=none) (type_params:=[]) (scope:=Z.cY19) (tscope:=none) (bind := "_law_a_plan") (pos:=⟨76,0,93,103⟩))
def Z.sY20:PySem.Stmt:=(PySem.Stmt.FunctionDef (name := "_law_is_from") (args:={ posonlyargs:=[],args:=[ { arg := "_law_least",annotation:=none,pos:=⟨94,17,94,27⟩:PySem.Arg },{ arg := "_law_most",annotation:=none,pos:=⟨94,29,94,38⟩:PySem.Arg },{ arg := "_law_thing",annotation:=none,pos:=⟨94,40,94,50⟩:PySem.Arg }],vararg:=none,kwonlyargs:=[],kw_defaults:=[],kwarg:=none,defaults:=[]:PySem.Arguments }) (body:=Z.bY20) (decorator_list:=[]) (returns:=none) (type_params:=[]) (scope:=Z.cY20) (tscope:=none) (bind := "_law_is_from") (pos:=⟨94,0,95,121⟩))
def Z.sY21:PySem.Stmt:=(PySem.Stmt.FunctionDef (name := "_law_two_ends") (args:={ posonlyargs:=[],args:=[ { arg := "_law_plan",annotation:=none,pos:=⟨96,18,96,27⟩:PySem.Arg },{ arg := "_law_stays",annotation:=none,pos:=⟨96,29,96,39⟩:PySem.Arg },{ arg := "_law_entry",annotation:=none,pos:=⟨96,41,96,51⟩:PySem.Arg }],vararg:=none,kwonlyargs:=[],kw_defaults:=[],kwarg:=none,defaults:=[]:PySem.Arguments }) (body:=Z.bY21) (decorator_list:=[]) (returns:=none) (type_params:=[]) (scope:=Z.cY21) (tscope:=none) (bind := "_law_two_ends") (pos:=⟨96,0,105,85⟩))
def Z.sY22:PySem.Stmt:=(PySem.Stmt.FunctionDef (name := "_law_is_ring") (args:={ posonlyargs:=[],args:=[ { arg := "_law_plan",annotation:=none,pos:=⟨106,17,106,26⟩:PySem.Arg },{ arg := "_law_stays",annotation:=none,pos:=⟨106,28,106,38⟩:PySem.Arg },{ arg := "_law_thing",annotation:=none,pos:=⟨106,40,106,50⟩:PySem.Arg }],vararg:=none,kwonlyargs:=[],kw_defaults:=[],kwarg:=none,defaults:=[]:PySem.Arguments }) (body:=Z.bY22) (decorator_list:=[]) (returns:=none) (type_params:=[]) (scope:=Z.cY22) (tscope:=none) (bind := "_law_is_ring") (pos:=⟨106,0,112,113⟩))
def Z.sY23:PySem.Stmt:=(PySem.Stmt.FunctionDef (name := "_law_are_prices") (args:={ posonlyargs:=[],args:=[ { arg := "_law_plan",annotation:=none,pos:=⟨113,20,113,29⟩:PySem.Arg },{ arg := "_law_thing",annotation:=none,pos:=⟨113,31,113,41⟩:PySem.Arg }],vararg:=none,kwonlyargs:=[],kw_defaults:=[],kwarg:=none,defaults:=[]:PySem.Arguments }) (body:=Z.bY23) (decorator_list:=[]) (returns:=none) (type_params:=[]) (scope:=Z.cY23) (tscope:=none) (bind := "_law_are_prices") (pos:=⟨113,0,121,15⟩))
def Z.sY24:PySem.Stmt:=(PySem.Stmt.FunctionDef (name := "_law_steps") (args:={ posonlyargs:=[],args:=[ { arg := "_law_plan",annotation:=none,pos:=⟨122,15,122,24⟩:PySem.Arg },{ arg := "_law_stays",annotation:=none,pos:=⟨122,26,122,36⟩:PySem.Arg }],vararg:=none,kwonlyargs:=[],kw_defaults:=[],kwarg:=none,defaults:=[]:PySem.Arguments }) (body:=Z.bY24) (decorator_list:=[]) (returns:=none) (type_params:=[]) (scope:=Z.cY24) (tscope:=none) (bind := "_law_steps") (pos:=⟨122,0,129,21⟩))
def Z.sY25:PySem.Stmt:=(PySem.Stmt.FunctionDef (name := "_law_ways") (args:={ posonlyargs:=[],args:=[ { arg := "_law_plan",annotation:=none,pos:=⟨130,14,130,23⟩:PySem.Arg },{ arg := "_law_stays",annotation:=none,pos:=⟨130,25,130,35⟩:PySem.Arg },{ arg := "_law_entries",annotation:=none,pos:=⟨130,37,130,49⟩:PySem.Arg }],vararg:=none,kwonlyargs:=[],kw_defaults:=[],kwarg:=none,defaults:=[]:PySem.Arguments }) (body:=Z.bY25) (decorator_list:=[]) (returns:=none) (type_params:=[]) (scope:=Z.cY25) (tscope:=none) (bind := "_law_ways") (pos:=⟨130,0,141,21⟩))
def Z.sY26:PySem.Stmt:=(PySem.Stmt.FunctionDef (name := "_law_back") (args:={ posonlyargs:=[],args:=[{ arg := "_law_path",annotation:=none,pos:=⟨142,14,142,23⟩:PySem.Arg }],vararg:=none,kwonlyargs:=[],kw_defaults:=[],kwarg:=none,defaults:=[]:PySem.Arguments }) (body:=Z.bY26) (decorator_list:=[]) (returns:=none) (type_params:=[]) (scope:=Z.cY26) (tscope:=none) (bind := "_law_back") (pos:=⟨142,0,146,28⟩))
def Z.sY27:PySem.Stmt:=(PySem.Stmt.FunctionDef (name := "_law_walk") (args:={ posonlyargs:=[],args:=[ { arg := "_law_feed",annotation:=none,pos:=⟨147,14,147,23⟩:PySem.Arg },{ arg := "_law_plan",annotation:=none,pos:=⟨147,25,147,34⟩:PySem.Arg }],vararg:=none,kwonlyargs:=[],kw_defaults:=[],kwarg:=none,defaults:=[]:PySem.Arguments }) (body:=Z.bY27) (decorator_list:=[]) (returns:=none) (type_params:=[]) (scope:=Z.cY27) (tscope:=none) (bind := "_law_walk") (pos:=⟨147,0,156,86⟩))
def Z.sY28:PySem.Stmt:=(PySem.Stmt.FunctionDef (name := "_law_some_prices") (args:={ posonlyargs:=[],args:=[ { arg := "_law_feed",annotation:=none,pos:=⟨157,21,157,30⟩:PySem.Arg },{ arg := "_law_plan",annotation:=none,pos:=⟨157,32,157,41⟩:PySem.Arg }],vararg:=none,kwonlyargs:=[],kw_defaults:=[],kwarg:=none,defaults:=[]:PySem.Arguments }) (body:=Z.bY28) (decorator_list:=[]) (returns:=none) (type_params:=[]) (scope:=Z.cY28) (tscope:=none) (bind := "_law_some_prices") (pos:=⟨157,0,162,28⟩))
def Z.sY29:PySem.Stmt:=(PySem.Stmt.FunctionDef (name := "_law_odd") (args:={ posonlyargs:=[],args:=[ { arg := "_law_feed",annotation:=none,pos:=⟨163,13,163,22⟩:PySem.Arg },{ arg := "_law_thing",annotation:=none,pos:=⟨163,24,163,34⟩:PySem.Arg }],vararg:=none,kwonlyargs:=[],kw_defaults:=[],kwarg:=none,defaults:=[]:PySem.Arguments }) (body:=Z.bY29) (decorator_list:=[]) (returns:=none) (type_params:=[]) (scope:=Z.cY29) (tscope:=none) (bind := "_law_odd") (pos:=⟨163,0,173,58⟩))
def Z.sY30:PySem.Stmt:=(PySem.Stmt.FunctionDef (name := "_law_bent") (args:={ posonlyargs:=[],args:=[ { arg := "_law_feed",annotation:=none,pos:=⟨174,14,174,23⟩:PySem.Arg },{ arg := "_law_thing",annotation:=none,pos:=⟨174,25,174,35⟩:PySem.Arg },{ arg := "_law_deep",annotation:=none,pos:=⟨174,37,174,46⟩:PySem.Arg }],vararg:=none,kwonlyargs:=[],kw_defaults:=[],kwarg:=none,defaults:=[]:PySem.Arguments }) (body:=Z.bY30) (decorator_list:=[]) (returns:=none) (type_params:=[]) (scope:=Z.cY30) (tscope:=none) (bind := "_law_bent") (pos:=⟨174,0,178,120⟩))
def Z.sY31:PySem.Stmt:=(PySem.Stmt.FunctionDef (name := "_law_at_bounds") (args:={ posonlyargs:=[],args:=[ { arg := "_law_feed",annotation:=none,pos:=⟨179,19,179,28⟩:PySem.Arg },{ arg := "_law_plan",annotation:=none,pos:=⟨179,30,179,39⟩:PySem.Arg }],vararg:=none,kwonlyargs:=[],kw_defaults:=[],kwarg:=none,defaults:=[]:PySem.Arguments }) (body:=Z.bY31) (decorator_list:=[]) (returns:=none) (type_params:=[]) (scope:=Z.cY31) (tscope:=none) (bind := "_law_at_bounds") (pos:=⟨179,0,186,138⟩))
def Z.sY32:PySem.Stmt:=(PySem.Stmt.FunctionDef (name := "law") (args:={ posonlyargs:=[],args:=[{ arg := "_law_script",annotation:=none,pos:=⟨187,8,187,19⟩:PySem.Arg }],vararg:=none,kwonlyargs:=[],kw_defaults:=[],kwarg:=none,defaults:=[]:PySem.Arguments }) (body:=Z.bY32) (decorator_list:=[]) (returns:=none) (type_params:=[]) (scope:=Z.cY32) (tscope:=none) (bind := "law") (pos:=⟨187,0,203,15⟩))
set_option maxRecDepth 100000 in
def Z.pwS:PySem.Program:={ main:={ body:=[Z.sY0,Z.sY1,Z.sY2,Z.sY3,Z.sY4,Z.sY5,Z.sY6,Z.sY7,Z.sY8,Z.sY9,Z.sY10,Z.sY11,Z.sY12,Z.sY13,Z.sY14,Z.sY15,Z.sY16,Z.sY17,Z.sY18,Z.sY19,Z.sY20,Z.sY21,Z.sY22,Z.sY23,Z.sY24,Z.sY25,Z.sY26,Z.sY27,Z.sY28,Z.sY29,Z.sY30,Z.sY31,Z.sY32],scope:={ kind:=PySem.ScopeKind.module,names:=[ (PySem.Str.ofString "__name__",PySem.NameKind.local),(PySem.Str.ofString "is_whole",PySem.NameKind.local),(PySem.Str.ofString "is_within",PySem.NameKind.local),(PySem.Str.ofString "MOST_ENTRIES",PySem.NameKind.local),(PySem.Str.ofString "is_work_of",PySem.NameKind.local),(PySem.Str.ofString "is_entry",PySem.NameKind.local),(PySem.Str.ofString "ends_of",PySem.NameKind.local),(PySem.Str.ofString "is_ring",PySem.NameKind.local),(PySem.Str.ofString "MOST_PRICES",PySem.NameKind.local),(PySem.Str.ofString "MOST_PRICE",PySem.NameKind.local),(PySem.Str.ofString "is_priced_ring",PySem.NameKind.local),(PySem.Str.ofString "are_prices",PySem.NameKind.local),(PySem.Str.ofString "_law_fed",PySem.NameKind.local),(PySem.Str.ofString "_law_draw",PySem.NameKind.local),(PySem.Str.ofString "_law_fit",PySem.NameKind.local),(PySem.Str.ofString "_law_any_span",PySem.NameKind.local),(PySem.Str.ofString "_law_a_plan",PySem.NameKind.local),(PySem.Str.ofString "_law_is_from",PySem.NameKind.local),(PySem.Str.ofString "_law_two_ends",PySem.NameKind.local),(PySem.Str.ofString "_law_is_ring",PySem.NameKind.local),(PySem.Str.ofString "_law_are_prices",PySem.NameKind.local),(PySem.Str.ofString "_law_steps",PySem.NameKind.local),(PySem.Str.ofString "_law_ways",PySem.NameKind.local),(PySem.Str.ofString "_law_back",PySem.NameKind.local),(PySem.Str.ofString "_law_walk",PySem.NameKind.local),(PySem.Str.ofString "_law_some_prices",PySem.NameKind.local),(PySem.Str.ofString "_law_odd",PySem.NameKind.local),(PySem.Str.ofString "_law_bent",PySem.NameKind.local),(PySem.Str.ofString "_law_at_bounds",PySem.NameKind.local),(PySem.Str.ofString "law",PySem.NameKind.local)],isGenerator:=false,isCoroutine:=false,more:=[]:PySem.Scope },futureAnnotations:=false,file := "/claim/cut.py",more:=[]:PySem.Module },modules:=[],parses:=[],absent:=[],harvested:=[],given:={ argv:=[],stdin:=[],environ:=(some [([76,67,95,65,76,76],[67,46,85,84,70,45,56])]):PySem.Given }:PySem.Program } 
def Z.rwS:PySem.W.OpenLaw :={ prog:=Z.pwS,name:=(PySem.Str.ofString "law"),about:=[(PySem.Str.ofString "are_prices")],foot:=18,most:=some 63,bound:=none,writes:=false }
theorem Z.rw_eq:PySem.Challenge.rw_beatplans_k31_prices_of_any_thing=Z.rwS:=rfl
noncomputable def Z.aY1:PySem.Arguments:=L2.defArgs (Z.top 1)
noncomputable def Z.aY2:PySem.Arguments:=L2.defArgs (Z.top 2)
noncomputable def Z.aY5:PySem.Arguments:=L2.defArgs (Z.top 5)
noncomputable def Z.aY6:PySem.Arguments:=L2.defArgs (Z.top 6)
noncomputable def Z.aY7:PySem.Arguments:=L2.defArgs (Z.top 7)
noncomputable def Z.aY8:PySem.Arguments:=L2.defArgs (Z.top 8)
noncomputable def Z.aY12:PySem.Arguments:=L2.defArgs (Z.top 12)
noncomputable def Z.aY13:PySem.Arguments:=L2.defArgs (Z.top 13)
noncomputable def Z.aY15:PySem.Arguments:=L2.defArgs (Z.top 15)
noncomputable def Z.aY16:PySem.Arguments:=L2.defArgs (Z.top 16)
noncomputable def Z.aY17:PySem.Arguments:=L2.defArgs (Z.top 17)
noncomputable def Z.aY18:PySem.Arguments:=L2.defArgs (Z.top 18)
noncomputable def Z.aY19:PySem.Arguments:=L2.defArgs (Z.top 19)
noncomputable def Z.aY20:PySem.Arguments:=L2.defArgs (Z.top 20)
noncomputable def Z.aY21:PySem.Arguments:=L2.defArgs (Z.top 21)
noncomputable def Z.aY22:PySem.Arguments:=L2.defArgs (Z.top 22)
noncomputable def Z.aY23:PySem.Arguments:=L2.defArgs (Z.top 23)
noncomputable def Z.aY24:PySem.Arguments:=L2.defArgs (Z.top 24)
noncomputable def Z.aY25:PySem.Arguments:=L2.defArgs (Z.top 25)
noncomputable def Z.aY26:PySem.Arguments:=L2.defArgs (Z.top 26)
noncomputable def Z.aY27:PySem.Arguments:=L2.defArgs (Z.top 27)
noncomputable def Z.aY28:PySem.Arguments:=L2.defArgs (Z.top 28)
noncomputable def Z.aY29:PySem.Arguments:=L2.defArgs (Z.top 29)
noncomputable def Z.aY30:PySem.Arguments:=L2.defArgs (Z.top 30)
noncomputable def Z.aY31:PySem.Arguments:=L2.defArgs (Z.top 31)
noncomputable def Z.aY32:PySem.Arguments:=L2.defArgs (Z.top 32)
open PySem in
noncomputable def Z.KK:Params->W.Frag:=fun P=>
 ((nat_lit 1:Addr),(W.boot_o_1 P:Obj))::
  ((nat_lit 3:Addr),({ cls:=Value.type "dict",data:=Data.dict (List.toArray (({ hash:=PyData.keyHash P (Str.ofString "__name__"),key:=Value.str (Str.ofString "__name__") 165,val:=Value.str (Str.ofString "law_beatplans_k31_prices_of_any_thing") 274 }:DictEntry)::({ hash:=PyData.keyHash P (Str.ofString "__doc__"),key:=Value.str (Str.ofString "__doc__") 166,val:=Value.none }:DictEntry)::({ hash:=PyData.keyHash P (Str.ofString "__package__"),key:=Value.str (Str.ofString "__package__") 167,val:=Value.none }:DictEntry)::({ hash:=PyData.keyHash P (Str.ofString "__loader__"),key:=Value.str (Str.ofString "__loader__") 168,val:=Value.builtin "__main__.__loader__#opaque" }:DictEntry)::({ hash:=PyData.keyHash P (Str.ofString "__spec__"),key:=Value.str (Str.ofString "__spec__") 169,val:=Value.none }:DictEntry)::({ hash:=PyData.keyHash P (Str.ofString "__annotations__"),key:=Value.str (Str.ofString "__annotations__") 170,val:=Value.ref 6 }:DictEntry)::({ hash:=PyData.keyHash P (Str.ofString "__builtins__"),key:=Value.str (Str.ofString "__builtins__") 171,val:=Value.ref 4 }:DictEntry)::({ hash:=PyData.keyHash P (Str.ofString "__file__"),key:=Value.str (Str.ofString "__file__") 173,val:=Value.str (Str.ofString "/claim/cut.py") 172 }:DictEntry)::({ hash:=PyData.keyHash P (Str.ofString "__cached__"),key:=Value.str (Str.ofString "__cached__") 174,val:=Value.none }:DictEntry)::({ hash:=PyData.keyHash P (Str.ofString "is_whole"),key:=Value.str (Str.ofString "is_whole") 195,val:=Value.ref 21 }:DictEntry)::({ hash:=PyData.keyHash P (Str.ofString "is_within"),key:=Value.str (Str.ofString "is_within") 204,val:=Value.ref 28 }:DictEntry)::({ hash:=PyData.keyHash P (Str.ofString "MOST_ENTRIES"),key:=Value.str (Str.ofString "MOST_ENTRIES") 208,val:=Value.int 60 207 }:DictEntry)::({ hash:=PyData.keyHash P (Str.ofString "is_work_of"),key:=Value.str (Str.ofString "is_work_of") 216,val:=Value.ref 35 }:DictEntry)::({ hash:=PyData.keyHash P (Str.ofString "is_entry"),key:=Value.str (Str.ofString "is_entry") 230,val:=Value.ref 42 }:DictEntry)::({ hash:=PyData.keyHash P (Str.ofString "ends_of"),key:=Value.str (Str.ofString "ends_of") 245,val:=Value.ref 49 }:DictEntry)::({ hash:=PyData.keyHash P (Str.ofString "is_ring"),key:=Value.str (Str.ofString "is_ring") 251,val:=Value.ref 54 }:DictEntry)::({ hash:=PyData.keyHash P (Str.ofString "MOST_PRICES"),key:=Value.str (Str.ofString "MOST_PRICES") 255,val:=Value.int 24 254 }:DictEntry)::({ hash:=PyData.keyHash P (Str.ofString "MOST_PRICE"),key:=Value.str (Str.ofString "MOST_PRICE") 257,val:=Value.int 999 256 }:DictEntry)::({ hash:=PyData.keyHash P (Str.ofString "is_priced_ring"),key:=Value.str (Str.ofString "is_priced_ring") 267,val:=Value.ref 61 }:DictEntry)::({ hash:=PyData.keyHash P (Str.ofString "are_prices"),key:=Value.str (Str.ofString "are_prices") 273,val:=Value.ref 66 }:DictEntry)::({ hash:=PyData.keyHash P (Str.ofString "_law_fed"),key:=Value.str (Str.ofString "_law_fed") 282,val:=Value.ref 73 }:DictEntry)::({ hash:=PyData.keyHash P (Str.ofString "_law_draw"),key:=Value.str (Str.ofString "_law_draw") 295,val:=Value.ref 80 }:DictEntry)::({ hash:=PyData.keyHash P (Str.ofString "_law_fit"),key:=Value.str (Str.ofString "_law_fit") 309,val:=Value.ref 87 }:DictEntry)::({ hash:=PyData.keyHash P (Str.ofString "_law_any_span"),key:=Value.str (Str.ofString "_law_any_span") 320,val:=Value.ref 94 }:DictEntry)::({ hash:=PyData.keyHash P (Str.ofString "_law_a_plan"),key:=Value.str (Str.ofString "_law_a_plan") 326,val:=Value.ref 99 }:DictEntry)::({ hash:=PyData.keyHash P (Str.ofString "_law_is_from"),key:=Value.str (Str.ofString "_law_is_from") 335,val:=Value.ref 106 }:DictEntry)::({ hash:=PyData.keyHash P (Str.ofString "_law_two_ends"),key:=Value.str (Str.ofString "_law_two_ends") 341,val:=Value.ref 111 }:DictEntry)::({ hash:=PyData.keyHash P (Str.ofString "_law_is_ring"),key:=Value.str (Str.ofString "_law_is_ring") 347,val:=Value.ref 116 }:DictEntry)::({ hash:=PyData.keyHash P (Str.ofString "_law_are_prices"),key:=Value.str (Str.ofString "_law_are_prices") 356,val:=Value.ref 123 }:DictEntry)::({ hash:=PyData.keyHash P (Str.ofString "_law_steps"),key:=Value.str (Str.ofString "_law_steps") 362,val:=Value.ref 128 }:DictEntry)::({ hash:=PyData.keyHash P (Str.ofString "_law_ways"),key:=Value.str (Str.ofString "_law_ways") 377,val:=Value.ref 135 }:DictEntry)::({ hash:=PyData.keyHash P (Str.ofString "_law_back"),key:=Value.str (Str.ofString "_law_back") 386,val:=Value.ref 142 }:DictEntry)::({ hash:=PyData.keyHash P (Str.ofString "_law_walk"),key:=Value.str (Str.ofString "_law_walk") 392,val:=Value.ref 147 }:DictEntry)::({ hash:=PyData.keyHash P (Str.ofString "_law_some_prices"),key:=Value.str (Str.ofString "_law_some_prices") 403,val:=Value.ref 154 }:DictEntry)::({ hash:=PyData.keyHash P (Str.ofString "_law_odd"),key:=Value.str (Str.ofString "_law_odd") 414,val:=Value.ref 161 }:DictEntry)::({ hash:=PyData.keyHash P (Str.ofString "_law_bent"),key:=Value.str (Str.ofString "_law_bent") 424,val:=Value.ref 168 }:DictEntry)::({ hash:=PyData.keyHash P (Str.ofString "_law_at_bounds"),key:=Value.str (Str.ofString "_law_at_bounds") 430,val:=Value.ref 173 }:DictEntry)::({ hash:=PyData.keyHash P (Str.ofString "law"),key:=Value.str (Str.ofString "law") 446,val:=Value.ref 180 }:DictEntry)::[])) 38 }:Obj))::
  ((nat_lit 20:Addr),({ cls:=Value.type "code",data:=Data.fields #[Value.str (Str.ofString "is_whole") 189,Value.str (Str.ofString "is_whole") 190,Value.str (Str.ofString "/claim/cut.py") 191,Value.int 2 0,Value.int 1 0,Value.int 0 0,Value.int 0 0,Value.int 3 0,Value.ref 15,Value.bool Bool.true,Value.int 181 0,Value.ref 16,Value.none,Value.ref 17,Value.ref 18,Value.ref 19,Value.int 193 0,Value.int 2 0,Value.str (Str.ofString "/claim/cut.py") 194] }:Obj))::
  ((nat_lit 21:Addr),({ cls:=Value.type "function",data:=Data.func { name:=Str.ofString "is_whole",qualname:=Str.ofString "is_whole",params:=Z.aY1,body:=FuncBody.stmts Z.bY1,scope:=Z.cY1,globals:=3,closure:=[],defaults:=Value.none,kwdefaults:=Value.none,pyModule:=Value.str (Str.ofString "beatplans.plans") 187,code:=Value.ref 20 } }:Obj))::
  ((nat_lit 27:Addr),({ cls:=Value.type "code",data:=Data.fields #[Value.str (Str.ofString "is_within") 196,Value.str (Str.ofString "is_within") 197,Value.str (Str.ofString "/claim/cut.py") 198,Value.int 4 0,Value.int 3 0,Value.int 0 0,Value.int 0 0,Value.int 3 0,Value.ref 22,Value.bool Bool.true,Value.int 181 0,Value.ref 23,Value.none,Value.ref 24,Value.ref 25,Value.ref 26,Value.int 202 0,Value.int 4 0,Value.str (Str.ofString "/claim/cut.py") 203] }:Obj))::
  ((nat_lit 28:Addr),({ cls:=Value.type "function",data:=Data.func { name:=Str.ofString "is_within",qualname:=Str.ofString "is_within",params:=Z.aY2,body:=FuncBody.stmts Z.bY2,scope:=Z.cY2,globals:=3,closure:=[],defaults:=Value.none,kwdefaults:=Value.none,pyModule:=Value.str (Str.ofString "beatplans.plans") 187,code:=Value.ref 27 } }:Obj))::
  ((nat_lit 34:Addr),({ cls:=Value.type "code",data:=Data.fields #[Value.str (Str.ofString "is_work_of") 209,Value.str (Str.ofString "is_work_of") 210,Value.str (Str.ofString "/claim/cut.py") 211,Value.int 8 0,Value.int 2 0,Value.int 0 0,Value.int 0 0,Value.int 3 0,Value.ref 29,Value.bool Bool.true,Value.int 181 0,Value.ref 30,Value.none,Value.ref 31,Value.ref 32,Value.ref 33,Value.int 214 0,Value.int 8 0,Value.str (Str.ofString "/claim/cut.py") 215] }:Obj))::
  ((nat_lit 35:Addr),({ cls:=Value.type "function",data:=Data.func { name:=Str.ofString "is_work_of",qualname:=Str.ofString "is_work_of",params:=Z.aY5,body:=FuncBody.stmts Z.bY5,scope:=Z.cY5,globals:=3,closure:=[],defaults:=Value.none,kwdefaults:=Value.none,pyModule:=Value.str (Str.ofString "beatplans.rings") 205,code:=Value.ref 34 } }:Obj))::
  ((nat_lit 41:Addr),({ cls:=Value.type "code",data:=Data.fields #[Value.str (Str.ofString "is_entry") 217,Value.str (Str.ofString "is_entry") 218,Value.str (Str.ofString "/claim/cut.py") 219,Value.int 10 0,Value.int 3 0,Value.int 0 0,Value.int 0 0,Value.int 3 0,Value.ref 36,Value.bool Bool.true,Value.int 181 0,Value.ref 37,Value.none,Value.ref 38,Value.ref 39,Value.ref 40,Value.int 228 0,Value.int 10 0,Value.str (Str.ofString "/claim/cut.py") 229] }:Obj))::
  ((nat_lit 42:Addr),({ cls:=Value.type "function",data:=Data.func { name:=Str.ofString "is_entry",qualname:=Str.ofString "is_entry",params:=Z.aY6,body:=FuncBody.stmts Z.bY6,scope:=Z.cY6,globals:=3,closure:=[],defaults:=Value.none,kwdefaults:=Value.none,pyModule:=Value.str (Str.ofString "beatplans.rings") 205,code:=Value.ref 41 } }:Obj))::
  ((nat_lit 48:Addr),({ cls:=Value.type "code",data:=Data.fields #[Value.str (Str.ofString "ends_of") 231,Value.str (Str.ofString "ends_of") 232,Value.str (Str.ofString "/claim/cut.py") 233,Value.int 20 0,Value.int 2 0,Value.int 0 0,Value.int 0 0,Value.int 3 0,Value.ref 43,Value.bool Bool.true,Value.int 181 0,Value.ref 44,Value.none,Value.ref 45,Value.ref 46,Value.ref 47,Value.int 243 0,Value.int 20 0,Value.str (Str.ofString "/claim/cut.py") 244] }:Obj))::
  ((nat_lit 49:Addr),({ cls:=Value.type "function",data:=Data.func { name:=Str.ofString "ends_of",qualname:=Str.ofString "ends_of",params:=Z.aY7,body:=FuncBody.stmts Z.bY7,scope:=Z.cY7,globals:=3,closure:=[],defaults:=Value.none,kwdefaults:=Value.none,pyModule:=Value.str (Str.ofString "beatplans.rings") 205,code:=Value.ref 48 } }:Obj))::
  ((nat_lit 53:Addr),({ cls:=Value.type "code",data:=Data.fields #[Value.str (Str.ofString "is_ring") 246,Value.str (Str.ofString "is_ring") 247,Value.str (Str.ofString "/claim/cut.py") 248,Value.int 26 0,Value.int 3 0,Value.int 0 0,Value.int 0 0,Value.int 3 0,Value.ref 50,Value.bool Bool.true,Value.int 181 0,Value.ref 51,Value.none,Value.none,Value.none,Value.ref 52,Value.int 249 0,Value.int 26 0,Value.str (Str.ofString "/claim/cut.py") 250] }:Obj))::
  ((nat_lit 54:Addr),({ cls:=Value.type "function",data:=Data.func { name:=Str.ofString "is_ring",qualname:=Str.ofString "is_ring",params:=Z.aY8,body:=FuncBody.stmts Z.bY8,scope:=Z.cY8,globals:=3,closure:=[],defaults:=Value.none,kwdefaults:=Value.none,pyModule:=Value.str (Str.ofString "beatplans.rings") 205,code:=Value.ref 53 } }:Obj))::
  ((nat_lit 60:Addr),({ cls:=Value.type "code",data:=Data.fields #[Value.str (Str.ofString "is_priced_ring") 258,Value.str (Str.ofString "is_priced_ring") 259,Value.str (Str.ofString "/claim/cut.py") 260,Value.int 36 0,Value.int 2 0,Value.int 0 0,Value.int 0 0,Value.int 3 0,Value.ref 55,Value.bool Bool.true,Value.int 181 0,Value.ref 56,Value.none,Value.ref 57,Value.ref 58,Value.ref 59,Value.int 265 0,Value.int 36 0,Value.str (Str.ofString "/claim/cut.py") 266] }:Obj))::
  ((nat_lit 61:Addr),({ cls:=Value.type "function",data:=Data.func { name:=Str.ofString "is_priced_ring",qualname:=Str.ofString "is_priced_ring",params:=Z.aY12,body:=FuncBody.stmts Z.bY12,scope:=Z.cY12,globals:=3,closure:=[],defaults:=Value.none,kwdefaults:=Value.none,pyModule:=Value.str (Str.ofString "beatplans.prices") 252,code:=Value.ref 60 } }:Obj))::
  ((nat_lit 65:Addr),({ cls:=Value.type "code",data:=Data.fields #[Value.str (Str.ofString "are_prices") 268,Value.str (Str.ofString "are_prices") 269,Value.str (Str.ofString "/claim/cut.py") 270,Value.int 41 0,Value.int 2 0,Value.int 0 0,Value.int 0 0,Value.int 3 0,Value.ref 62,Value.bool Bool.true,Value.int 181 0,Value.ref 63,Value.none,Value.none,Value.none,Value.ref 64,Value.int 271 0,Value.int 41 0,Value.str (Str.ofString "/claim/cut.py") 272] }:Obj))::
  ((nat_lit 66:Addr),({ cls:=Value.type "function",data:=Data.func { name:=Str.ofString "are_prices",qualname:=Str.ofString "are_prices",params:=Z.aY13,body:=FuncBody.stmts Z.bY13,scope:=Z.cY13,globals:=3,closure:=[],defaults:=Value.none,kwdefaults:=Value.none,pyModule:=Value.str (Str.ofString "beatplans.prices") 252,code:=Value.ref 65 } }:Obj))::
  ((nat_lit 72:Addr),({ cls:=Value.type "code",data:=Data.fields #[Value.str (Str.ofString "_law_fed") 276,Value.str (Str.ofString "_law_fed") 277,Value.str (Str.ofString "/claim/cut.py") 278,Value.int 46 0,Value.int 1 0,Value.int 0 0,Value.int 0 0,Value.int 3 0,Value.ref 67,Value.bool Bool.true,Value.int 181 0,Value.ref 68,Value.none,Value.ref 69,Value.ref 70,Value.ref 71,Value.int 280 0,Value.int 46 0,Value.str (Str.ofString "/claim/cut.py") 281] }:Obj))::
  ((nat_lit 73:Addr),({ cls:=Value.type "function",data:=Data.func { name:=Str.ofString "_law_fed",qualname:=Str.ofString "_law_fed",params:=Z.aY15,body:=FuncBody.stmts Z.bY15,scope:=Z.cY15,globals:=3,closure:=[],defaults:=Value.none,kwdefaults:=Value.none,pyModule:=Value.str (Str.ofString "law_beatplans_k31_prices_of_any_thing") 274,code:=Value.ref 72 } }:Obj))::
  ((nat_lit 79:Addr),({ cls:=Value.type "code",data:=Data.fields #[Value.str (Str.ofString "_law_draw") 283,Value.str (Str.ofString "_law_draw") 284,Value.str (Str.ofString "/claim/cut.py") 285,Value.int 48 0,Value.int 2 0,Value.int 0 0,Value.int 0 0,Value.int 3 0,Value.ref 74,Value.bool Bool.true,Value.int 181 0,Value.ref 75,Value.none,Value.ref 76,Value.ref 77,Value.ref 78,Value.int 293 0,Value.int 48 0,Value.str (Str.ofString "/claim/cut.py") 294] }:Obj))::
  ((nat_lit 80:Addr),({ cls:=Value.type "function",data:=Data.func { name:=Str.ofString "_law_draw",qualname:=Str.ofString "_law_draw",params:=Z.aY16,body:=FuncBody.stmts Z.bY16,scope:=Z.cY16,globals:=3,closure:=[],defaults:=Value.none,kwdefaults:=Value.none,pyModule:=Value.str (Str.ofString "law_beatplans_k31_prices_of_any_thing") 274,code:=Value.ref 79 } }:Obj))::
  ((nat_lit 86:Addr),({ cls:=Value.type "code",data:=Data.fields #[Value.str (Str.ofString "_law_fit") 296,Value.str (Str.ofString "_law_fit") 297,Value.str (Str.ofString "/claim/cut.py") 298,Value.int 64 0,Value.int 5 0,Value.int 0 0,Value.int 0 0,Value.int 3 0,Value.ref 81,Value.bool Bool.true,Value.int 181 0,Value.ref 82,Value.none,Value.ref 83,Value.ref 84,Value.ref 85,Value.int 307 0,Value.int 64 0,Value.str (Str.ofString "/claim/cut.py") 308] }:Obj))::
  ((nat_lit 87:Addr),({ cls:=Value.type "function",data:=Data.func { name:=Str.ofString "_law_fit",qualname:=Str.ofString "_law_fit",params:=Z.aY17,body:=FuncBody.stmts Z.bY17,scope:=Z.cY17,globals:=3,closure:=[],defaults:=Value.none,kwdefaults:=Value.none,pyModule:=Value.str (Str.ofString "law_beatplans_k31_prices_of_any_thing") 274,code:=Value.ref 86 } }:Obj))::
  ((nat_lit 93:Addr),({ cls:=Value.type "code",data:=Data.fields #[Value.str (Str.ofString "_law_any_span") 310,Value.str (Str.ofString "_law_any_span") 311,Value.str (Str.ofString "/claim/cut.py") 312,Value.int 71 0,Value.int 4 0,Value.int 0 0,Value.int 0 0,Value.int 3 0,Value.ref 88,Value.bool Bool.true,Value.int 181 0,Value.ref 89,Value.none,Value.ref 90,Value.ref 91,Value.ref 92,Value.int 318 0,Value.int 71 0,Value.str (Str.ofString "/claim/cut.py") 319] }:Obj))::
  ((nat_lit 94:Addr),({ cls:=Value.type "function",data:=Data.func { name:=Str.ofString "_law_any_span",qualname:=Str.ofString "_law_any_span",params:=Z.aY18,body:=FuncBody.stmts Z.bY18,scope:=Z.cY18,globals:=3,closure:=[],defaults:=Value.none,kwdefaults:=Value.none,pyModule:=Value.str (Str.ofString "law_beatplans_k31_prices_of_any_thing") 274,code:=Value.ref 93 } }:Obj))::
  ((nat_lit 98:Addr),({ cls:=Value.type "code",data:=Data.fields #[Value.str (Str.ofString "_law_a_plan") 321,Value.str (Str.ofString "_law_a_plan") 322,Value.str (Str.ofString "/claim/cut.py") 323,Value.int 76 0,Value.int 4 0,Value.int 0 0,Value.int 0 0,Value.int 3 0,Value.ref 95,Value.bool Bool.true,Value.int 181 0,Value.ref 96,Value.none,Value.none,Value.none,Value.ref 97,Value.int 324 0,Value.int 76 0,Value.str (Str.ofString "/claim/cut.py") 325] }:Obj))::
  ((nat_lit 99:Addr),({ cls:=Value.type "function",data:=Data.func { name:=Str.ofString "_law_a_plan",qualname:=Str.ofString "_law_a_plan",params:=Z.aY19,body:=FuncBody.stmts Z.bY19,scope:=Z.cY19,globals:=3,closure:=[],defaults:=Value.none,kwdefaults:=Value.none,pyModule:=Value.str (Str.ofString "law_beatplans_k31_prices_of_any_thing") 274,code:=Value.ref 98 } }:Obj))::
  ((nat_lit 105:Addr),({ cls:=Value.type "code",data:=Data.fields #[Value.str (Str.ofString "_law_is_from") 327,Value.str (Str.ofString "_law_is_from") 328,Value.str (Str.ofString "/claim/cut.py") 329,Value.int 94 0,Value.int 3 0,Value.int 0 0,Value.int 0 0,Value.int 3 0,Value.ref 100,Value.bool Bool.true,Value.int 181 0,Value.ref 101,Value.none,Value.ref 102,Value.ref 103,Value.ref 104,Value.int 333 0,Value.int 94 0,Value.str (Str.ofString "/claim/cut.py") 334] }:Obj))::
  ((nat_lit 106:Addr),({ cls:=Value.type "function",data:=Data.func { name:=Str.ofString "_law_is_from",qualname:=Str.ofString "_law_is_from",params:=Z.aY20,body:=FuncBody.stmts Z.bY20,scope:=Z.cY20,globals:=3,closure:=[],defaults:=Value.none,kwdefaults:=Value.none,pyModule:=Value.str (Str.ofString "law_beatplans_k31_prices_of_any_thing") 274,code:=Value.ref 105 } }:Obj))::
  ((nat_lit 110:Addr),({ cls:=Value.type "code",data:=Data.fields #[Value.str (Str.ofString "_law_two_ends") 336,Value.str (Str.ofString "_law_two_ends") 337,Value.str (Str.ofString "/claim/cut.py") 338,Value.int 96 0,Value.int 3 0,Value.int 0 0,Value.int 0 0,Value.int 3 0,Value.ref 107,Value.bool Bool.true,Value.int 181 0,Value.ref 108,Value.none,Value.none,Value.none,Value.ref 109,Value.int 339 0,Value.int 96 0,Value.str (Str.ofString "/claim/cut.py") 340] }:Obj))::
  ((nat_lit 111:Addr),({ cls:=Value.type "function",data:=Data.func { name:=Str.ofString "_law_two_ends",qualname:=Str.ofString "_law_two_ends",params:=Z.aY21,body:=FuncBody.stmts Z.bY21,scope:=Z.cY21,globals:=3,closure:=[],defaults:=Value.none,kwdefaults:=Value.none,pyModule:=Value.str (Str.ofString "law_beatplans_k31_prices_of_any_thing") 274,code:=Value.ref 110 } }:Obj))::
  ((nat_lit 115:Addr),({ cls:=Value.type "code",data:=Data.fields #[Value.str (Str.ofString "_law_is_ring") 342,Value.str (Str.ofString "_law_is_ring") 343,Value.str (Str.ofString "/claim/cut.py") 344,Value.int 106 0,Value.int 3 0,Value.int 0 0,Value.int 0 0,Value.int 3 0,Value.ref 112,Value.bool Bool.true,Value.int 181 0,Value.ref 113,Value.none,Value.none,Value.none,Value.ref 114,Value.int 345 0,Value.int 106 0,Value.str (Str.ofString "/claim/cut.py") 346] }:Obj))::
  ((nat_lit 116:Addr),({ cls:=Value.type "function",data:=Data.func { name:=Str.ofString "_law_is_ring",qualname:=Str.ofString "_law_is_ring",params:=Z.aY22,body:=FuncBody.stmts Z.bY22,scope:=Z.cY22,globals:=3,closure:=[],defaults:=Value.none,kwdefaults:=Value.none,pyModule:=Value.str (Str.ofString "law_beatplans_k31_prices_of_any_thing") 274,code:=Value.ref 115 } }:Obj))::
  ((nat_lit 122:Addr),({ cls:=Value.type "code",data:=Data.fields #[Value.str (Str.ofString "_law_are_prices") 348,Value.str (Str.ofString "_law_are_prices") 349,Value.str (Str.ofString "/claim/cut.py") 350,Value.int 113 0,Value.int 2 0,Value.int 0 0,Value.int 0 0,Value.int 3 0,Value.ref 117,Value.bool Bool.true,Value.int 181 0,Value.ref 118,Value.none,Value.ref 119,Value.ref 120,Value.ref 121,Value.int 354 0,Value.int 113 0,Value.str (Str.ofString "/claim/cut.py") 355] }:Obj))::
  ((nat_lit 123:Addr),({ cls:=Value.type "function",data:=Data.func { name:=Str.ofString "_law_are_prices",qualname:=Str.ofString "_law_are_prices",params:=Z.aY23,body:=FuncBody.stmts Z.bY23,scope:=Z.cY23,globals:=3,closure:=[],defaults:=Value.none,kwdefaults:=Value.none,pyModule:=Value.str (Str.ofString "law_beatplans_k31_prices_of_any_thing") 274,code:=Value.ref 122 } }:Obj))::
  ((nat_lit 127:Addr),({ cls:=Value.type "code",data:=Data.fields #[Value.str (Str.ofString "_law_steps") 357,Value.str (Str.ofString "_law_steps") 358,Value.str (Str.ofString "/claim/cut.py") 359,Value.int 122 0,Value.int 2 0,Value.int 0 0,Value.int 0 0,Value.int 3 0,Value.ref 124,Value.bool Bool.true,Value.int 181 0,Value.ref 125,Value.none,Value.none,Value.none,Value.ref 126,Value.int 360 0,Value.int 122 0,Value.str (Str.ofString "/claim/cut.py") 361] }:Obj))::
  ((nat_lit 128:Addr),({ cls:=Value.type "function",data:=Data.func { name:=Str.ofString "_law_steps",qualname:=Str.ofString "_law_steps",params:=Z.aY24,body:=FuncBody.stmts Z.bY24,scope:=Z.cY24,globals:=3,closure:=[],defaults:=Value.none,kwdefaults:=Value.none,pyModule:=Value.str (Str.ofString "law_beatplans_k31_prices_of_any_thing") 274,code:=Value.ref 127 } }:Obj))::
  ((nat_lit 134:Addr),({ cls:=Value.type "code",data:=Data.fields #[Value.str (Str.ofString "_law_ways") 363,Value.str (Str.ofString "_law_ways") 364,Value.str (Str.ofString "/claim/cut.py") 365,Value.int 130 0,Value.int 3 0,Value.int 0 0,Value.int 0 0,Value.int 3 0,Value.ref 129,Value.bool Bool.true,Value.int 181 0,Value.ref 130,Value.none,Value.ref 131,Value.ref 132,Value.ref 133,Value.int 375 0,Value.int 130 0,Value.str (Str.ofString "/claim/cut.py") 376] }:Obj))::
  ((nat_lit 135:Addr),({ cls:=Value.type "function",data:=Data.func { name:=Str.ofString "_law_ways",qualname:=Str.ofString "_law_ways",params:=Z.aY25,body:=FuncBody.stmts Z.bY25,scope:=Z.cY25,globals:=3,closure:=[],defaults:=Value.none,kwdefaults:=Value.none,pyModule:=Value.str (Str.ofString "law_beatplans_k31_prices_of_any_thing") 274,code:=Value.ref 134 } }:Obj))::
  ((nat_lit 141:Addr),({ cls:=Value.type "code",data:=Data.fields #[Value.str (Str.ofString "_law_back") 378,Value.str (Str.ofString "_law_back") 379,Value.str (Str.ofString "/claim/cut.py") 380,Value.int 142 0,Value.int 1 0,Value.int 0 0,Value.int 0 0,Value.int 3 0,Value.ref 136,Value.bool Bool.true,Value.int 181 0,Value.ref 137,Value.none,Value.ref 138,Value.ref 139,Value.ref 140,Value.int 384 0,Value.int 142 0,Value.str (Str.ofString "/claim/cut.py") 385] }:Obj))::
  ((nat_lit 142:Addr),({ cls:=Value.type "function",data:=Data.func { name:=Str.ofString "_law_back",qualname:=Str.ofString "_law_back",params:=Z.aY26,body:=FuncBody.stmts Z.bY26,scope:=Z.cY26,globals:=3,closure:=[],defaults:=Value.none,kwdefaults:=Value.none,pyModule:=Value.str (Str.ofString "law_beatplans_k31_prices_of_any_thing") 274,code:=Value.ref 141 } }:Obj))::
  ((nat_lit 146:Addr),({ cls:=Value.type "code",data:=Data.fields #[Value.str (Str.ofString "_law_walk") 387,Value.str (Str.ofString "_law_walk") 388,Value.str (Str.ofString "/claim/cut.py") 389,Value.int 147 0,Value.int 2 0,Value.int 0 0,Value.int 0 0,Value.int 3 0,Value.ref 143,Value.bool Bool.true,Value.int 181 0,Value.ref 144,Value.none,Value.none,Value.none,Value.ref 145,Value.int 390 0,Value.int 147 0,Value.str (Str.ofString "/claim/cut.py") 391] }:Obj))::
  ((nat_lit 147:Addr),({ cls:=Value.type "function",data:=Data.func { name:=Str.ofString "_law_walk",qualname:=Str.ofString "_law_walk",params:=Z.aY27,body:=FuncBody.stmts Z.bY27,scope:=Z.cY27,globals:=3,closure:=[],defaults:=Value.none,kwdefaults:=Value.none,pyModule:=Value.str (Str.ofString "law_beatplans_k31_prices_of_any_thing") 274,code:=Value.ref 146 } }:Obj))::
  ((nat_lit 153:Addr),({ cls:=Value.type "code",data:=Data.fields #[Value.str (Str.ofString "_law_some_prices") 393,Value.str (Str.ofString "_law_some_prices") 394,Value.str (Str.ofString "/claim/cut.py") 395,Value.int 157 0,Value.int 2 0,Value.int 0 0,Value.int 0 0,Value.int 3 0,Value.ref 148,Value.bool Bool.true,Value.int 181 0,Value.ref 149,Value.none,Value.ref 150,Value.ref 151,Value.ref 152,Value.int 401 0,Value.int 157 0,Value.str (Str.ofString "/claim/cut.py") 402] }:Obj))::
  ((nat_lit 154:Addr),({ cls:=Value.type "function",data:=Data.func { name:=Str.ofString "_law_some_prices",qualname:=Str.ofString "_law_some_prices",params:=Z.aY28,body:=FuncBody.stmts Z.bY28,scope:=Z.cY28,globals:=3,closure:=[],defaults:=Value.none,kwdefaults:=Value.none,pyModule:=Value.str (Str.ofString "law_beatplans_k31_prices_of_any_thing") 274,code:=Value.ref 153 } }:Obj))::
  ((nat_lit 160:Addr),({ cls:=Value.type "code",data:=Data.fields #[Value.str (Str.ofString "_law_odd") 404,Value.str (Str.ofString "_law_odd") 405,Value.str (Str.ofString "/claim/cut.py") 406,Value.int 163 0,Value.int 2 0,Value.int 0 0,Value.int 0 0,Value.int 3 0,Value.ref 155,Value.bool Bool.true,Value.int 181 0,Value.ref 156,Value.none,Value.ref 157,Value.ref 158,Value.ref 159,Value.int 412 0,Value.int 163 0,Value.str (Str.ofString "/claim/cut.py") 413] }:Obj))::
  ((nat_lit 161:Addr),({ cls:=Value.type "function",data:=Data.func { name:=Str.ofString "_law_odd",qualname:=Str.ofString "_law_odd",params:=Z.aY29,body:=FuncBody.stmts Z.bY29,scope:=Z.cY29,globals:=3,closure:=[],defaults:=Value.none,kwdefaults:=Value.none,pyModule:=Value.str (Str.ofString "law_beatplans_k31_prices_of_any_thing") 274,code:=Value.ref 160 } }:Obj))::
  ((nat_lit 167:Addr),({ cls:=Value.type "code",data:=Data.fields #[Value.str (Str.ofString "_law_bent") 415,Value.str (Str.ofString "_law_bent") 416,Value.str (Str.ofString "/claim/cut.py") 417,Value.int 174 0,Value.int 3 0,Value.int 0 0,Value.int 0 0,Value.int 3 0,Value.ref 162,Value.bool Bool.true,Value.int 181 0,Value.ref 163,Value.none,Value.ref 164,Value.ref 165,Value.ref 166,Value.int 422 0,Value.int 174 0,Value.str (Str.ofString "/claim/cut.py") 423] }:Obj))::
  ((nat_lit 168:Addr),({ cls:=Value.type "function",data:=Data.func { name:=Str.ofString "_law_bent",qualname:=Str.ofString "_law_bent",params:=Z.aY30,body:=FuncBody.stmts Z.bY30,scope:=Z.cY30,globals:=3,closure:=[],defaults:=Value.none,kwdefaults:=Value.none,pyModule:=Value.str (Str.ofString "law_beatplans_k31_prices_of_any_thing") 274,code:=Value.ref 167 } }:Obj))::
  ((nat_lit 172:Addr),({ cls:=Value.type "code",data:=Data.fields #[Value.str (Str.ofString "_law_at_bounds") 425,Value.str (Str.ofString "_law_at_bounds") 426,Value.str (Str.ofString "/claim/cut.py") 427,Value.int 179 0,Value.int 2 0,Value.int 0 0,Value.int 0 0,Value.int 3 0,Value.ref 169,Value.bool Bool.true,Value.int 181 0,Value.ref 170,Value.none,Value.none,Value.none,Value.ref 171,Value.int 428 0,Value.int 179 0,Value.str (Str.ofString "/claim/cut.py") 429] }:Obj))::
  ((nat_lit 173:Addr),({ cls:=Value.type "function",data:=Data.func { name:=Str.ofString "_law_at_bounds",qualname:=Str.ofString "_law_at_bounds",params:=Z.aY31,body:=FuncBody.stmts Z.bY31,scope:=Z.cY31,globals:=3,closure:=[],defaults:=Value.none,kwdefaults:=Value.none,pyModule:=Value.str (Str.ofString "law_beatplans_k31_prices_of_any_thing") 274,code:=Value.ref 172 } }:Obj))::
  ((nat_lit 179:Addr),({ cls:=Value.type "code",data:=Data.fields #[Value.str (Str.ofString "law") 431,Value.str (Str.ofString "law") 432,Value.str (Str.ofString "/claim/cut.py") 433,Value.int 187 0,Value.int 1 0,Value.int 0 0,Value.int 0 0,Value.int 3 0,Value.ref 174,Value.bool Bool.true,Value.int 181 0,Value.ref 175,Value.none,Value.ref 176,Value.ref 177,Value.ref 178,Value.int 444 0,Value.int 187 0,Value.str (Str.ofString "/claim/cut.py") 445] }:Obj))::
  ((nat_lit 180:Addr),({ cls:=Value.type "function",data:=Data.func { name:=Str.ofString "law",qualname:=Str.ofString "law",params:=Z.aY32,body:=FuncBody.stmts Z.bY32,scope:=Z.cY32,globals:=3,closure:=[],defaults:=Value.none,kwdefaults:=Value.none,pyModule:=Value.str (Str.ofString "law_beatplans_k31_prices_of_any_thing") 274,code:=Value.ref 179 } }:Obj))::[]
open PySem in
noncomputable def Z.KA:List Addr:=(nat_lit 1)::(nat_lit 3)::(nat_lit 20)::(nat_lit 21)::(nat_lit 27)::(nat_lit 28)::(nat_lit 34)::(nat_lit 35)::(nat_lit 41)::(nat_lit 42)::(nat_lit 48)::(nat_lit 49)::(nat_lit 53)::(nat_lit 54)::(nat_lit 60)::(nat_lit 61)::(nat_lit 65)::(nat_lit 66)::(nat_lit 72)::(nat_lit 73)::(nat_lit 79)::(nat_lit 80)::(nat_lit 86)::(nat_lit 87)::(nat_lit 93)::(nat_lit 94)::(nat_lit 98)::(nat_lit 99)::(nat_lit 105)::(nat_lit 106)::(nat_lit 110)::(nat_lit 111)::(nat_lit 115)::(nat_lit 116)::(nat_lit 122)::(nat_lit 123)::(nat_lit 127)::(nat_lit 128)::(nat_lit 134)::(nat_lit 135)::(nat_lit 141)::(nat_lit 142)::(nat_lit 146)::(nat_lit 147)::(nat_lit 153)::(nat_lit 154)::(nat_lit 160)::(nat_lit 161)::(nat_lit 167)::(nat_lit 168)::(nat_lit 172)::(nat_lit 173)::(nat_lit 179)::(nat_lit 180)::[]

noncomputable def PySem.W.Fast.tw3015151001444687471:List PySem.Stmt:=Z.bY1
theorem PySem.W.Fast.te3015151001444687471:Z.bY1=PySem.W.Fast.tw3015151001444687471:=rfl
noncomputable def PySem.W.Fast.tw10159143549952559447:PySem.Scope:=Z.cY1
theorem PySem.W.Fast.te10159143549952559447:Z.cY1=PySem.W.Fast.tw10159143549952559447:=rfl
noncomputable def PySem.W.Fast.tw9594846441980308463:PySem.Arguments:=Z.aY1
theorem PySem.W.Fast.te9594846441980308463:Z.aY1=PySem.W.Fast.tw9594846441980308463:=rfl
noncomputable def PySem.W.Fast.tw14534233289622820423:List PySem.Stmt:=Z.bY2
theorem PySem.W.Fast.te14534233289622820423:Z.bY2=PySem.W.Fast.tw14534233289622820423:=rfl
noncomputable def PySem.W.Fast.tw7304755522549427217:PySem.Scope:=Z.cY2
theorem PySem.W.Fast.te7304755522549427217:Z.cY2=PySem.W.Fast.tw7304755522549427217:=rfl
noncomputable def PySem.W.Fast.tw18095859572366507121:PySem.Arguments:=Z.aY2
theorem PySem.W.Fast.te18095859572366507121:Z.aY2=PySem.W.Fast.tw18095859572366507121:=rfl
noncomputable def PySem.W.Fast.tw7701149334205249493:List PySem.Stmt:=Z.bY5
theorem PySem.W.Fast.te7701149334205249493:Z.bY5=PySem.W.Fast.tw7701149334205249493:=rfl
noncomputable def PySem.W.Fast.tw10693017314217230493:PySem.Scope:=Z.cY5
theorem PySem.W.Fast.te10693017314217230493:Z.cY5=PySem.W.Fast.tw10693017314217230493:=rfl
noncomputable def PySem.W.Fast.tw2985174410971842343:PySem.Arguments:=Z.aY5
theorem PySem.W.Fast.te2985174410971842343:Z.aY5=PySem.W.Fast.tw2985174410971842343:=rfl
noncomputable def PySem.W.Fast.tw4333012738630735508:List PySem.Stmt:=Z.bY6
theorem PySem.W.Fast.te4333012738630735508:Z.bY6=PySem.W.Fast.tw4333012738630735508:=rfl
noncomputable def PySem.W.Fast.tw9351588486136842362:PySem.Scope:=Z.cY6
theorem PySem.W.Fast.te9351588486136842362:Z.cY6=PySem.W.Fast.tw9351588486136842362:=rfl
noncomputable def PySem.W.Fast.tw17812285979442850112:PySem.Arguments:=Z.aY6
theorem PySem.W.Fast.te17812285979442850112:Z.aY6=PySem.W.Fast.tw17812285979442850112:=rfl
noncomputable def PySem.W.Fast.tw16576739452043423082:List PySem.Stmt:=Z.bY7
theorem PySem.W.Fast.te16576739452043423082:Z.bY7=PySem.W.Fast.tw16576739452043423082:=rfl
noncomputable def PySem.W.Fast.tw1178883823693561651:PySem.Scope:=Z.cY7
theorem PySem.W.Fast.te1178883823693561651:Z.cY7=PySem.W.Fast.tw1178883823693561651:=rfl
noncomputable def PySem.W.Fast.tw8869203458546103418:PySem.Arguments:=Z.aY7
theorem PySem.W.Fast.te8869203458546103418:Z.aY7=PySem.W.Fast.tw8869203458546103418:=rfl
noncomputable def PySem.W.Fast.tw7891013550986899784:List PySem.Stmt:=Z.bY8
theorem PySem.W.Fast.te7891013550986899784:Z.bY8=PySem.W.Fast.tw7891013550986899784:=rfl
noncomputable def PySem.W.Fast.tw9080550850168601643:PySem.Scope:=Z.cY8
theorem PySem.W.Fast.te9080550850168601643:Z.cY8=PySem.W.Fast.tw9080550850168601643:=rfl
noncomputable def PySem.W.Fast.tw10738812580571829077:PySem.Arguments:=Z.aY8
theorem PySem.W.Fast.te10738812580571829077:Z.aY8=PySem.W.Fast.tw10738812580571829077:=rfl
noncomputable def PySem.W.Fast.tw18164753679283922878:List PySem.Stmt:=Z.bY12
theorem PySem.W.Fast.te18164753679283922878:Z.bY12=PySem.W.Fast.tw18164753679283922878:=rfl
noncomputable def PySem.W.Fast.tw18339184722527120439:PySem.Scope:=Z.cY12
theorem PySem.W.Fast.te18339184722527120439:Z.cY12=PySem.W.Fast.tw18339184722527120439:=rfl
noncomputable def PySem.W.Fast.tw1446015608239144218:PySem.Arguments:=Z.aY12
theorem PySem.W.Fast.te1446015608239144218:Z.aY12=PySem.W.Fast.tw1446015608239144218:=rfl
noncomputable def PySem.W.Fast.tw17739840880004349974:List PySem.Stmt:=Z.bY13
theorem PySem.W.Fast.te17739840880004349974:Z.bY13=PySem.W.Fast.tw17739840880004349974:=rfl
noncomputable def PySem.W.Fast.tw4228003467210183882:PySem.Scope:=Z.cY13
theorem PySem.W.Fast.te4228003467210183882:Z.cY13=PySem.W.Fast.tw4228003467210183882:=rfl
noncomputable def PySem.W.Fast.tw5854879517739080986:PySem.Arguments:=Z.aY13
theorem PySem.W.Fast.te5854879517739080986:Z.aY13=PySem.W.Fast.tw5854879517739080986:=rfl
noncomputable def PySem.W.Fast.tw7833547661901591470:List PySem.Stmt:=Z.bY15
theorem PySem.W.Fast.te7833547661901591470:Z.bY15=PySem.W.Fast.tw7833547661901591470:=rfl
noncomputable def PySem.W.Fast.tw8101764399625425153:PySem.Scope:=Z.cY15
theorem PySem.W.Fast.te8101764399625425153:Z.cY15=PySem.W.Fast.tw8101764399625425153:=rfl
noncomputable def PySem.W.Fast.tw6856576199937072082:PySem.Arguments:=Z.aY15
theorem PySem.W.Fast.te6856576199937072082:Z.aY15=PySem.W.Fast.tw6856576199937072082:=rfl
noncomputable def PySem.W.Fast.tw11446803262430998167:List PySem.Stmt:=Z.bY16
theorem PySem.W.Fast.te11446803262430998167:Z.bY16=PySem.W.Fast.tw11446803262430998167:=rfl
noncomputable def PySem.W.Fast.tw9530570746764545675:PySem.Scope:=Z.cY16
theorem PySem.W.Fast.te9530570746764545675:Z.cY16=PySem.W.Fast.tw9530570746764545675:=rfl
noncomputable def PySem.W.Fast.tw13100361516219107942:PySem.Arguments:=Z.aY16
theorem PySem.W.Fast.te13100361516219107942:Z.aY16=PySem.W.Fast.tw13100361516219107942:=rfl
noncomputable def PySem.W.Fast.tw7606716932492997581:List PySem.Stmt:=Z.bY17
theorem PySem.W.Fast.te7606716932492997581:Z.bY17=PySem.W.Fast.tw7606716932492997581:=rfl
noncomputable def PySem.W.Fast.tw502235002237357205:PySem.Scope:=Z.cY17
theorem PySem.W.Fast.te502235002237357205:Z.cY17=PySem.W.Fast.tw502235002237357205:=rfl
noncomputable def PySem.W.Fast.tw4003557264338402016:PySem.Arguments:=Z.aY17
theorem PySem.W.Fast.te4003557264338402016:Z.aY17=PySem.W.Fast.tw4003557264338402016:=rfl
noncomputable def PySem.W.Fast.tw5727634772876231:List PySem.Stmt:=Z.bY18
theorem PySem.W.Fast.te5727634772876231:Z.bY18=PySem.W.Fast.tw5727634772876231:=rfl
noncomputable def PySem.W.Fast.tw6865636664558906297:PySem.Scope:=Z.cY18
theorem PySem.W.Fast.te6865636664558906297:Z.cY18=PySem.W.Fast.tw6865636664558906297:=rfl
noncomputable def PySem.W.Fast.tw4956039584453317913:PySem.Arguments:=Z.aY18
theorem PySem.W.Fast.te4956039584453317913:Z.aY18=PySem.W.Fast.tw4956039584453317913:=rfl
noncomputable def PySem.W.Fast.tw11194721788962368185:List PySem.Stmt:=Z.bY19
theorem PySem.W.Fast.te11194721788962368185:Z.bY19=PySem.W.Fast.tw11194721788962368185:=rfl
noncomputable def PySem.W.Fast.tw16727905199392536027:PySem.Scope:=Z.cY19
theorem PySem.W.Fast.te16727905199392536027:Z.cY19=PySem.W.Fast.tw16727905199392536027:=rfl
noncomputable def PySem.W.Fast.tw17378076412252255655:PySem.Arguments:=Z.aY19
theorem PySem.W.Fast.te17378076412252255655:Z.aY19=PySem.W.Fast.tw17378076412252255655:=rfl
noncomputable def PySem.W.Fast.tw5086509110111126984:List PySem.Stmt:=Z.bY20
theorem PySem.W.Fast.te5086509110111126984:Z.bY20=PySem.W.Fast.tw5086509110111126984:=rfl
noncomputable def PySem.W.Fast.tw8613126992762786810:PySem.Scope:=Z.cY20
theorem PySem.W.Fast.te8613126992762786810:Z.cY20=PySem.W.Fast.tw8613126992762786810:=rfl
noncomputable def PySem.W.Fast.tw7742198557474056662:PySem.Arguments:=Z.aY20
theorem PySem.W.Fast.te7742198557474056662:Z.aY20=PySem.W.Fast.tw7742198557474056662:=rfl
noncomputable def PySem.W.Fast.tw9887112076633143260:List PySem.Stmt:=Z.bY21
theorem PySem.W.Fast.te9887112076633143260:Z.bY21=PySem.W.Fast.tw9887112076633143260:=rfl
noncomputable def PySem.W.Fast.tw16652175780040137316:PySem.Scope:=Z.cY21
theorem PySem.W.Fast.te16652175780040137316:Z.cY21=PySem.W.Fast.tw16652175780040137316:=rfl
noncomputable def PySem.W.Fast.tw771454083561337269:PySem.Arguments:=Z.aY21
theorem PySem.W.Fast.te771454083561337269:Z.aY21=PySem.W.Fast.tw771454083561337269:=rfl
noncomputable def PySem.W.Fast.tw3184669192085748957:List PySem.Stmt:=Z.bY22
theorem PySem.W.Fast.te3184669192085748957:Z.bY22=PySem.W.Fast.tw3184669192085748957:=rfl
noncomputable def PySem.W.Fast.tw4757630134925260912:PySem.Scope:=Z.cY22
theorem PySem.W.Fast.te4757630134925260912:Z.cY22=PySem.W.Fast.tw4757630134925260912:=rfl
noncomputable def PySem.W.Fast.tw7465873080701871002:PySem.Arguments:=Z.aY22
theorem PySem.W.Fast.te7465873080701871002:Z.aY22=PySem.W.Fast.tw7465873080701871002:=rfl
noncomputable def PySem.W.Fast.tw12889549704734639409:List PySem.Stmt:=Z.bY23
theorem PySem.W.Fast.te12889549704734639409:Z.bY23=PySem.W.Fast.tw12889549704734639409:=rfl
noncomputable def PySem.W.Fast.tw10242745095938490599:PySem.Scope:=Z.cY23
theorem PySem.W.Fast.te10242745095938490599:Z.cY23=PySem.W.Fast.tw10242745095938490599:=rfl
noncomputable def PySem.W.Fast.tw9783613512567632517:PySem.Arguments:=Z.aY23
theorem PySem.W.Fast.te9783613512567632517:Z.aY23=PySem.W.Fast.tw9783613512567632517:=rfl
noncomputable def PySem.W.Fast.tw253982975610095124:List PySem.Stmt:=Z.bY24
theorem PySem.W.Fast.te253982975610095124:Z.bY24=PySem.W.Fast.tw253982975610095124:=rfl
noncomputable def PySem.W.Fast.tw16275538113687255351:PySem.Scope:=Z.cY24
theorem PySem.W.Fast.te16275538113687255351:Z.cY24=PySem.W.Fast.tw16275538113687255351:=rfl
noncomputable def PySem.W.Fast.tw8631897014996469195:PySem.Arguments:=Z.aY24
theorem PySem.W.Fast.te8631897014996469195:Z.aY24=PySem.W.Fast.tw8631897014996469195:=rfl
noncomputable def PySem.W.Fast.tw16567001819157486034:List PySem.Stmt:=Z.bY25
theorem PySem.W.Fast.te16567001819157486034:Z.bY25=PySem.W.Fast.tw16567001819157486034:=rfl
noncomputable def PySem.W.Fast.tw7982987530691195544:PySem.Scope:=Z.cY25
theorem PySem.W.Fast.te7982987530691195544:Z.cY25=PySem.W.Fast.tw7982987530691195544:=rfl
noncomputable def PySem.W.Fast.tw13013389684767732081:PySem.Arguments:=Z.aY25
theorem PySem.W.Fast.te13013389684767732081:Z.aY25=PySem.W.Fast.tw13013389684767732081:=rfl
noncomputable def PySem.W.Fast.tw4244449392144476589:List PySem.Stmt:=Z.bY26
theorem PySem.W.Fast.te4244449392144476589:Z.bY26=PySem.W.Fast.tw4244449392144476589:=rfl
noncomputable def PySem.W.Fast.tw14390090659230534699:PySem.Scope:=Z.cY26
theorem PySem.W.Fast.te14390090659230534699:Z.cY26=PySem.W.Fast.tw14390090659230534699:=rfl
noncomputable def PySem.W.Fast.tw12686048097710121713:PySem.Arguments:=Z.aY26
theorem PySem.W.Fast.te12686048097710121713:Z.aY26=PySem.W.Fast.tw12686048097710121713:=rfl
noncomputable def PySem.W.Fast.tw7251329012966193718:List PySem.Stmt:=Z.bY27
theorem PySem.W.Fast.te7251329012966193718:Z.bY27=PySem.W.Fast.tw7251329012966193718:=rfl
noncomputable def PySem.W.Fast.tw6989610931706019681:PySem.Scope:=Z.cY27
theorem PySem.W.Fast.te6989610931706019681:Z.cY27=PySem.W.Fast.tw6989610931706019681:=rfl
noncomputable def PySem.W.Fast.tw9645709375656358629:PySem.Arguments:=Z.aY27
theorem PySem.W.Fast.te9645709375656358629:Z.aY27=PySem.W.Fast.tw9645709375656358629:=rfl
noncomputable def PySem.W.Fast.tw5650864977710570941:List PySem.Stmt:=Z.bY28
theorem PySem.W.Fast.te5650864977710570941:Z.bY28=PySem.W.Fast.tw5650864977710570941:=rfl
noncomputable def PySem.W.Fast.tw3088784125654015763:PySem.Scope:=Z.cY28
theorem PySem.W.Fast.te3088784125654015763:Z.cY28=PySem.W.Fast.tw3088784125654015763:=rfl
noncomputable def PySem.W.Fast.tw11561044847845218375:PySem.Arguments:=Z.aY28
theorem PySem.W.Fast.te11561044847845218375:Z.aY28=PySem.W.Fast.tw11561044847845218375:=rfl
noncomputable def PySem.W.Fast.tw15678913842311952932:List PySem.Stmt:=Z.bY29
theorem PySem.W.Fast.te15678913842311952932:Z.bY29=PySem.W.Fast.tw15678913842311952932:=rfl
noncomputable def PySem.W.Fast.tw2973153766501714000:PySem.Scope:=Z.cY29
theorem PySem.W.Fast.te2973153766501714000:Z.cY29=PySem.W.Fast.tw2973153766501714000:=rfl
noncomputable def PySem.W.Fast.tw14768156425524150083:PySem.Arguments:=Z.aY29
theorem PySem.W.Fast.te14768156425524150083:Z.aY29=PySem.W.Fast.tw14768156425524150083:=rfl
noncomputable def PySem.W.Fast.tw16800058748430543514:List PySem.Stmt:=Z.bY30
theorem PySem.W.Fast.te16800058748430543514:Z.bY30=PySem.W.Fast.tw16800058748430543514:=rfl
noncomputable def PySem.W.Fast.tw11984650095909266282:PySem.Scope:=Z.cY30
theorem PySem.W.Fast.te11984650095909266282:Z.cY30=PySem.W.Fast.tw11984650095909266282:=rfl
noncomputable def PySem.W.Fast.tw5284715696713304373:PySem.Arguments:=Z.aY30
theorem PySem.W.Fast.te5284715696713304373:Z.aY30=PySem.W.Fast.tw5284715696713304373:=rfl
noncomputable def PySem.W.Fast.tw8496613351848183148:List PySem.Stmt:=Z.bY31
theorem PySem.W.Fast.te8496613351848183148:Z.bY31=PySem.W.Fast.tw8496613351848183148:=rfl
noncomputable def PySem.W.Fast.tw12920458419419353967:PySem.Scope:=Z.cY31
theorem PySem.W.Fast.te12920458419419353967:Z.cY31=PySem.W.Fast.tw12920458419419353967:=rfl
noncomputable def PySem.W.Fast.tw6461874459675472292:PySem.Arguments:=Z.aY31
theorem PySem.W.Fast.te6461874459675472292:Z.aY31=PySem.W.Fast.tw6461874459675472292:=rfl
noncomputable def PySem.W.Fast.tw9889016406116733806:List PySem.Stmt:=Z.bY32
theorem PySem.W.Fast.te9889016406116733806:Z.bY32=PySem.W.Fast.tw9889016406116733806:=rfl
noncomputable def PySem.W.Fast.tw13386225782591130324:PySem.Scope:=Z.cY32
theorem PySem.W.Fast.te13386225782591130324:Z.cY32=PySem.W.Fast.tw13386225782591130324:=rfl
noncomputable def PySem.W.Fast.tw9209456220916044748:PySem.Arguments:=Z.aY32
theorem PySem.W.Fast.te9209456220916044748:Z.aY32=PySem.W.Fast.tw9209456220916044748:=rfl
noncomputable def PySem.W.Fast.tw5160444039759204164:PySem.Params->PySem.W.Frag:=Z.KK
theorem PySem.W.Fast.te5160444039759204164:Z.KK=PySem.W.Fast.tw5160444039759204164:=rfl
set_option maxRecDepth 100000 in
set_option maxHeartbeats 0 in
theorem Z.wellS:PySem.Challenge.rw_beatplans_k31_prices_of_any_thing.wellSaid=true:=by decide +kernel
open PySem PySem.W PyProof.Rows
set_option maxRecDepth 100000 in
set_option maxHeartbeats 0 in
theorem PySem.Challenge.cw_beatplans_k31_prices_of_any_thing_holds : PySem.Challenge.rw_beatplans_k31_prices_of_any_thing.Holds := by
 w_on; refine PySem.W.holds_law Z.wellS fun said=>?_
 rw [Z.rw_eq] at said ⊢
 o_head (kHook Z.KK Z.KA (fun _=>by kernel_rfl)); (case hw=>w_witness2)
 k_fill
 refine Z.walk (l:=Z.rwS) rfl rfl (fun w h Y=>PySem.W.kIn_of Y) ?K ?S ?F
 case K=>intro w; rfl
 case S=>intro w; exact ⟨_,rfl,rfl⟩
 case F=>
  intro w mg fa h KX G hmg
  refine' Z.all_mk KX G hmg ?a0 ?l0 ?c0 ?k0 ?a1 ?l1 ?c1 ?k1 ?a2 ?l2 ?c2 ?k2 ?a3 ?l3 ?c3 ?k3 ?a4 ?l4 ?c4 ?k4 ?a5 ?l5 ?c5 ?k5 ?a6 ?l6 ?c6 ?k6 ?a7 ?l7 ?c7 ?k7 ?a8 ?l8 ?c8 ?k8 ?a9 ?l9 ?c9 ?k9 ?a10 ?l10 ?c10 ?k10 ?a11 ?l11 ?c11 ?k11 ?a12 ?l12 ?c12 ?k12 ?a13 ?l13 ?c13 ?k13 ?a14 ?l14 ?c14 ?k14 ?a15 ?l15 ?c15 ?k15 ?a16 ?l16 ?c16 ?k16 ?a17 ?l17 ?c17 ?k17 ?a18 ?l18 ?c18 ?k18 ?a19 ?l19 ?c19 ?k19 ?a20 ?l20 ?c20 ?k20 ?a21 ?l21 ?c21 ?k21 ?a22 ?l22 ?c22 ?k22 ?a23 ?l23 ?c23 ?k23 ?a24 ?l24 ?c24 ?k24 ?a25 ?l25 ?c25 ?k25 ?z_len ?z_repr ?z_min ?z_max ?z_sum ?z_all ?z_any ?z_sorted ?z_int ?z_str ?z_isinstance ?z_range ?z_enumerate ?z_list ?z_tuple ?z_bool ?z_dict ?z_ValueError ?g_MOST_ENTRIES ?g_MOST_PRICE ?g_MOST_PRICES
  (case a0=>k_is)
  (case l0=>k_is)
  (case c0=>k_is)
  (case k0=>k_is)
  (case a1=>k_is)
  (case l1=>k_is)
  (case c1=>k_is)
  (case k1=>k_is)
  (case a2=>k_is)
  (case l2=>k_is)
  (case c2=>k_is)
  (case k2=>k_is)
  (case a3=>k_is)
  (case l3=>k_is)
  (case c3=>k_is)
  (case k3=>k_is)
  (case a4=>k_is)
  (case l4=>k_is)
  (case c4=>k_is)
  (case k4=>k_is)
  (case a5=>k_is)
  (case l5=>k_is)
  (case c5=>k_is)
  (case k5=>k_is)
  (case a6=>k_is)
  (case l6=>k_is)
  (case c6=>k_is)
  (case k6=>k_is)
  (case a7=>k_is)
  (case l7=>k_is)
  (case c7=>k_is)
  (case k7=>k_is)
  (case a8=>k_is)
  (case l8=>k_is)
  (case c8=>k_is)
  (case k8=>k_is)
  (case a9=>k_is)
  (case l9=>k_is)
  (case c9=>k_is)
  (case k9=>k_is)
  (case a10=>k_is)
  (case l10=>k_is)
  (case c10=>k_is)
  (case k10=>k_is)
  (case a11=>k_is)
  (case l11=>k_is)
  (case c11=>k_is)
  (case k11=>k_is)
  (case a12=>k_is)
  (case l12=>k_is)
  (case c12=>k_is)
  (case k12=>k_is)
  (case a13=>k_is)
  (case l13=>k_is)
  (case c13=>k_is)
  (case k13=>k_is)
  (case a14=>k_is)
  (case l14=>k_is)
  (case c14=>k_is)
  (case k14=>k_is)
  (case a15=>k_is)
  (case l15=>k_is)
  (case c15=>k_is)
  (case k15=>k_is)
  (case a16=>k_is)
  (case l16=>k_is)
  (case c16=>k_is)
  (case k16=>k_is)
  (case a17=>k_is)
  (case l17=>k_is)
  (case c17=>k_is)
  (case k17=>k_is)
  (case a18=>k_is)
  (case l18=>k_is)
  (case c18=>k_is)
  (case k18=>k_is)
  (case a19=>k_is)
  (case l19=>k_is)
  (case c19=>k_is)
  (case k19=>k_is)
  (case a20=>k_is)
  (case l20=>k_is)
  (case c20=>k_is)
  (case k20=>k_is)
  (case a21=>k_is)
  (case l21=>k_is)
  (case c21=>k_is)
  (case k21=>k_is)
  (case a22=>k_is)
  (case l22=>k_is)
  (case c22=>k_is)
  (case k22=>k_is)
  (case a23=>k_is)
  (case l23=>k_is)
  (case c23=>k_is)
  (case k23=>k_is)
  (case a24=>k_is)
  (case l24=>k_is)
  (case c24=>k_is)
  (case k24=>k_is)
  (case a25=>k_is)
  (case l25=>k_is)
  (case c25=>k_is)
  (case k25=>k_is)
  (case z_len=>k_is)
  (case z_repr=>k_is)
  (case z_min=>k_is)
  (case z_max=>k_is)
  (case z_sum=>k_is)
  (case z_all=>k_is)
  (case z_any=>k_is)
  (case z_sorted=>k_is)
  (case z_int=>k_is)
  (case z_str=>k_is)
  (case z_isinstance=>k_is)
  (case z_range=>k_is)
  (case z_enumerate=>k_is)
  (case z_list=>k_is)
  (case z_tuple=>k_is)
  (case z_bool=>k_is)
  (case z_dict=>k_is)
  (case z_ValueError=>k_is)
  (case g_MOST_ENTRIES=>k_is)
  (case g_MOST_PRICE=>k_is)
  (case g_MOST_PRICES=>k_is)
