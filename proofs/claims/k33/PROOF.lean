import PyProof.Rows.All
import Wide.All
import OpenK.AllK
import Wide.FinOn
import Lean
import PyProof.EqAt
import PyProof.EqKinds
import PyProof.TupleCall
import PySem.Challenge.RW_beatplans_k33_whole_shown_is_never_more
set_option Elab.async false
set_option linter.all false
set_option maxRecDepth 100000
namespace L2
open PySem PySem.Spec PyProof.Rows

abbrev Key := Sum Int Str
def keyIs : Key → Value → Bool
  | .inl k, v => Value.isInt k v
  | .inr x, v => Value.isStrOf x v
def keyH (w : World) : Key → Int
  | .inl k => hashInt k
  | .inr x => hashStr w x
theorem keyIs_shape : ∀ {k : Key} {v : Value}, keyIs k v = true → (∃ i t, k = Sum.inl i ∧ v = Value.int i t) ∨ (∃ x t, k = Sum.inr x ∧ v = Value.str x t)
  | .inl i, v, h => by
    obtain ⟨t, e⟩ := Value.isInt_shape (k := i) (v := v) h
    exact .inl ⟨i, t, rfl, e⟩
  | .inr x, v, h => by
    obtain ⟨t, e⟩ := Value.isStrOf_shape (x := x) (v := v) h
    exact .inr ⟨x, t, rfl, e⟩
theorem keyIs_int (i : Int) (t : Tok) : keyIs (.inl i) (.int i t) = true := by simp [keyIs, Value.isInt]
theorem keyIs_str (x : Str) (t : Tok) : keyIs (.inr x) (.str x t) = true := by simp [keyIs, Value.isStrOf]
theorem key_ll (a b : Int) : decide ((Sum.inl a : Key) = Sum.inl b) = (a == b) := by
  by_cases e : a = b
  · subst e; simp
  · have h : ¬ (Sum.inl a : Key) = Sum.inl b := fun q => e (Sum.inl.inj q)
    rw [decide_eq_false h]
    exact (beq_eq_false_iff_ne.mpr e).symm
theorem key_rr (a b : Str) : decide ((Sum.inr a : Key) = Sum.inr b) = decide (a = b) := by
  by_cases e : a = b
  · subst e; simp
  · have h : ¬ (Sum.inr a : Key) = Sum.inr b := fun q => e (Sum.inr.inj q)
    rw [decide_eq_false h, decide_eq_false e]
theorem key_lr (a : Int) (b : Str) : decide ((Sum.inl a : Key) = Sum.inr b) = false := decide_eq_false (fun q => nomatch q)
theorem key_rl (a : Str) (b : Int) : decide ((Sum.inr a : Key) = Sum.inl b) = false := decide_eq_false (fun q => nomatch q)

def mixKind (prog : Program) (w : World) : PySem.KeyKind prog w Key where
  is := keyIs
  hash := keyH w
  inj := fun v a b ha hb => by
    rcases keyIs_shape ha with ⟨i, t, rfl, rfl⟩ | ⟨x, t, rfl, rfl⟩
    · rcases keyIs_shape hb with ⟨j, u, rfl, e⟩ | ⟨y, u, rfl, e⟩
      · injection e with e1 _; rw [e1]
      · exact nomatch e
    · rcases keyIs_shape hb with ⟨j, u, rfl, e⟩ | ⟨y, u, rfl, e⟩
      · exact nomatch e
      · injection e with e1 _; rw [e1]
  byValue := fun k v h => by
    rcases keyIs_shape h with ⟨i, t, rfl, rfl⟩ | ⟨x, t, rfl, rfl⟩ <;> rfl
  pyHash := fun hv h => by
    rcases keyIs_shape hv with ⟨i, t, rfl, rfl⟩ | ⟨x, t, rfl, rfl⟩
    · exact wpAny_pyHash_int h
    · exact wpAny_pyHash_str h
  eqBool := fun hu hv h => by
    rcases keyIs_shape hu with ⟨i, t, rfl, rfl⟩ | ⟨x, t, rfl, rfl⟩
    · rcases keyIs_shape hv with ⟨j, u, rfl, rfl⟩ | ⟨y, u, rfl, rfl⟩
      · rw [key_ll] at h; exact wpAny_eqBool_int h
      · rw [key_lr] at h; exact SeqAt.EqAt.int_str i t y u _ _ _ _ h
    · rcases keyIs_shape hv with ⟨j, u, rfl, rfl⟩ | ⟨y, u, rfl, rfl⟩
      · rw [key_rl] at h; exact SeqAt.EqAt.str_int x t j u _ _ _ _ h
      · rw [key_rr] at h; exact wpAny_eqBool_str h
  «strs» := fun k x t v h => by
    rcases keyIs_shape h with ⟨i, u, rfl, e⟩ | ⟨y, u, rfl, e⟩
    · exact nomatch e
    · injection e with e1 _
      subst e1
      cases v <;> rfl

theorem mixKind_int (prog : Program) (w : World) (i : Int) (t : Tok) : (mixKind prog w).is (.inl i) (.int i t) = true := keyIs_int i t
theorem mixKind_str (prog : Program) (w : World) (x : Str) (t : Tok) : (mixKind prog w).is (.inr x) (.str x t) = true := keyIs_str x t
end L2

namespace L2
open PySem PySem.Spec PyProof.Rows

inductive V where
  | non | bl (b : Bool) | int (i : Int) | str (x : Str) | byt (b : Array UInt8) | flt (b : UInt64) | ref (a : Addr) | ty (n : String)
  deriving DecidableEq

def RelV : V → Value → Prop
  | .non, u => u = Value.none
  | .bl b, u => u = Value.bool b
  | .int i, u => ∃ t, u = Value.int i t
  | .str x, u => ∃ t, u = Value.str x t
  | .byt b, u => ∃ t, u = Value.bytes b t
  | .flt b, u => ∃ t, u = Value.float b t
  | .ref a, u => u = Value.ref a
  | .ty n, u => u = Value.type n

abbrev Vals : List V → List Value → Prop := Paired RelV
theorem Vals.length {xs : List V} {us : List Value} (r : Vals xs us) : xs.length = us.length := Paired.length r
theorem Vals.get : ∀ {xs : List V} {us : List Value} {i : Nat} {x : V}, Vals xs us → xs[i]? = some x → ∃ u, us[i]? = some u ∧ RelV x u
  | _, _, _, _, .nil, e => by simp at e
  | _, _, 0, _, .cons r _, e => by simp at e; subst e; exact ⟨_, rfl, r⟩
  | _, _, i + 1, x, .cons _ t, e => by
    obtain ⟨u, h1, h2⟩ := Vals.get (i := i) (x := x) t (by simpa using e)
    exact ⟨u, by simpa using h1, h2⟩
theorem Vals.set {x : V} {u : Value} (r : RelV x u) : ∀ {xs : List V} {us : List Value} (i : Nat), Vals xs us → Vals (xs.set i x) (us.set i u)
  | _, _, _, .nil => .nil
  | _, _, 0, .cons _ t => .cons r t
  | _, _, i + 1, .cons q t => .cons q (Vals.set r i t)
theorem Vals.append : ∀ {xs ys : List V} {us ws : List Value}, Vals xs us → Vals ys ws → Vals (xs ++ ys) (us ++ ws)
  | _, _, _, _, .nil, s => s
  | _, _, _, _, .cons r t, s => .cons r (Vals.append t s)
theorem Vals.take : ∀ {xs : List V} {us : List Value} (n : Nat), Vals xs us → Vals (xs.take n) (us.take n)
  | _, _, 0, _ => .nil
  | _, _, _ + 1, .nil => .nil
  | _, _, n + 1, .cons r t => .cons r (Vals.take n t)
theorem Vals.drop : ∀ {xs : List V} {us : List Value} (n : Nat), Vals xs us → Vals (xs.drop n) (us.drop n)
  | _, _, 0, r => r
  | _, _, _ + 1, .nil => .nil
  | _, _, n + 1, .cons _ t => Vals.drop n t
def RelO : Option V → Option Value → Prop
  | some v, some u => RelV v u
  | none, none => True
  | _, _ => False
def KV {κ : Type} : List (κ × V) → List (κ × Value) → Prop := Paired fun (p : κ × V) (q : κ × Value) => p.1 = q.1 ∧ RelV p.2 q.2

def kV : Key → V
  | .inl i => .int i
  | .inr x => .str x

inductive HO where
  | lst (xs : List V)
  | tup (xs : List V)
  | dK (kvs : List (Key × V)) | dT (kvs : List (List Key × V))
  | set (S : Int → Bool) (n : Nat)
  | ins (C dx : Addr) (fs : List (Str × V))
  | own (x : Addr)
  | xd (fs : List (Str × V))
  | met (f x : Addr)
  | rng (lo hi : Int)
  | frz (o : Obj) (u : HO)
  | tbl (ps : Array Value)
  | ext (φ : Heap → Prop)

abbrev Hp := Addr → Option HO
def upd (H : Hp) (a : Addr) (o : HO) : Hp := fun b => if b = a then some o else H b
theorem upd_same {H : Hp} {a : Addr} {o : HO} : upd H a o a = some o := by unfold upd; rw [if_pos rfl]
theorem upd_ne {H : Hp} {a b : Addr} {o : HO} (h : b ≠ a) : upd H a o b = H b := by unfold upd; rw [if_neg h]
theorem upd_upd {H : Hp} {a : Addr} {o u : HO} : upd (upd H a o) a u = upd H a u := by
  funext b; unfold upd; split <;> rfl
theorem ne_of {H : Hp} {a b : Addr} {o u : HO} (h : H a = some o) (h' : H b = some u) (d : o ≠ u) : a ≠ b := by
  intro e; subst e; rw [h] at h'; exact d (Option.some.inj h')
theorem ne_of_none {H : Hp} {a b : Addr} {o : HO} (h : H a = some o) (h' : H b = none) : a ≠ b := by
  intro e; subst e; rw [h] at h'; cases h'

section
variable (P : Program) (w : World)
def ObjOk (H : Hp) (h : Heap) (a : Addr) : HO → Prop
  | .lst xs => xs.length ≤ sizeLine ∧ ∃ (its : List Value) (n : Nat), Vals xs its ∧ h.get? a = some { cls := .type "list", data := .seq its.toArray n }
  | .tup xs => xs.length ≤ sizeLine ∧ ∃ its : List Value, Vals xs its ∧ IsTup h a its.toArray
  | .dK kvs => kvs.length ≤ sizeLine ∧ (a == sysModules) = false ∧ ∃ vs, KV kvs vs ∧ h.DictOf (mixKind P w) a vs
  | .dT kvs => kvs.length ≤ sizeLine ∧ (a == sysModules) = false ∧ ∃ xs : List (List Key × Addr × Value),
      Paired (fun (p : List Key × V) (q : List Key × Addr × Value) => p.1 = q.1 ∧ H q.2.1 = some (.tup (p.1.map kV)) ∧ RelV p.2 q.2.2) kvs xs ∧
      ∃ o es ep, h.get? a = some o ∧ o.ExactDict ∧ o.data = .dict es ep ∧ es.toList = xs.map (entryOfKey (tupleKind (mixKind P w))) ∧ (xs.map (·.1)).Nodup
  | .set S n => h.SetOf (intKind P w) a S n
  | .ins C dx fs => H dx = some (.own a) ∧ fs.length ≤ 1000 ∧ dx ≠ a ∧ h.get? a = some (PySem.W.instObj C dx) ∧
      ∃ mA, h.Ns1 dx mA ∧ (∀ f, RelO (fs.lookup f) (mA f)) ∧ PySem.Within mA (fs.map (·.1))
  | .own _ => ∃ o, h.get? a = some o
  | .xd fs => ∃ mA, h.Ns1 a mA ∧ ∀ f, RelO (fs.lookup f) (mA f)
  | .rng lo hi => ∃ t u v, h.get? a = some { cls := .type "range", data := .fields #[.int lo t, .int hi u, .int 1 v] }
  | .frz o u => h.get? a = some o ∧ ObjOk H h a u
  | .tbl ps => h.get? a = some { cls := .none, data := .fields ps }
  | .met f x => h.get? a = some (PySem.W.methodObj (.ref f) (.ref x))
  | .ext φ => φ h ∧ (∃ o, h.get? a = some o) ∧ ∀ h1 h2 : Heap, φ h1 → (∀ o, h1.get? a = some o → h2.get? a = some o) → φ h2
def HOk (H : Hp) (h : Heap) : Prop := ∀ a o, H a = some o → ObjOk P w H h a o
end

section
variable {P : Program} {w : World} {H H' : Hp} {h h' : Heap} {a : Addr} {o : HO}
theorem ObjOk.lt (x : ObjOk P w H h a o) : a < h.objs.size := by
  cases o with
  | lst xs => obtain ⟨_, _, _, _, e⟩ := x; exact Heap.lt_size e
  | tup xs => obtain ⟨_, _, _, p⟩ := x; exact p.lt
  | dK kvs => obtain ⟨_, _, _, _, o, _, _, e, _⟩ := x; exact Heap.lt_size e
  | dT kvs => obtain ⟨_, _, _, _, o, _, _, e, _⟩ := x; exact Heap.lt_size e
  | set S n => obtain ⟨o, _, _, _, e, _⟩ := x; exact Heap.lt_size e
  | ins C dx fs => obtain ⟨_, _, _, e, _⟩ := x; exact Heap.lt_size e
  | own y => obtain ⟨_, e⟩ := x; exact Heap.lt_size e
  | xd fs => obtain ⟨_, ⟨_, _, _, e, _⟩, _⟩ := x; exact Heap.lt_size e
  | rng lo hi => obtain ⟨_, _, _, e⟩ := x; exact Heap.lt_size e
  | frz ob u => obtain ⟨e, _⟩ := x; exact Heap.lt_size e
  | tbl ps => exact Heap.lt_size (show h.get? a = some _ from x)
  | met f y => exact Heap.lt_size (show h.get? a = some _ from x)
  | ext φ => obtain ⟨_, ⟨_, e⟩, _⟩ := x; exact Heap.lt_size e
theorem Paired.mapP {α β : Type} {F G : α → β → Prop} : ∀ {l₁ : List α} {l₂ : List β}, Paired F l₁ l₂ → (∀ a b, F a b → G a b) → Paired G l₁ l₂
  | _, _, .nil, _ => .nil
  | _, _, .cons r t, f => .cons (f _ _ r) (Paired.mapP t f)
theorem ObjOk.stay (x : ObjOk P w H h a o) (k : ∀ b u, (b = a ∨ H b = some (.own a)) → h.get? b = some u → h'.get? b = some u)
    (ho : ∀ b, H b = some (.own a) → H' b = some (.own a)) (ht : ∀ b xs, H b = some (.tup xs) → H' b = some (.tup xs)) : ObjOk P w H' h' a o := by
  induction o with
  | lst xs => obtain ⟨z, its, n, r, e⟩ := x; exact ⟨z, its, n, r, k _ _ (.inl rfl) e⟩
  | tup xs => obtain ⟨z, its, r, ob, e, c⟩ := x; exact ⟨z, its, r, ob, k _ _ (.inl rfl) e, c⟩
  | dK kvs => obtain ⟨z, y, vs, r, ob, es, ep, e, c⟩ := x; exact ⟨z, y, vs, r, ob, es, ep, k _ _ (.inl rfl) e, c⟩
  | dT kvs =>
    obtain ⟨z, y, xs, r, ob, es, ep, e, c⟩ := x
    exact ⟨z, y, xs, Paired.mapP r fun p q z => ⟨z.1, ht _ _ z.2.1, z.2.2⟩, ob, es, ep, k _ _ (.inl rfl) e, c⟩
  | set S n => obtain ⟨ob, es, ep, t, e, c⟩ := x; exact ⟨ob, es, ep, t, k _ _ (.inl rfl) e, c⟩
  | ins C dx fs =>
    obtain ⟨d, z, ne, e, mA, ⟨od, es, ep, e2, c⟩, r⟩ := x
    exact ⟨ho _ d, z, ne, k _ _ (.inl rfl) e, mA, ⟨od, es, ep, k _ _ (.inr d) e2, c⟩, r⟩
  | own y => obtain ⟨ob, e⟩ := x; exact ⟨ob, k _ _ (.inl rfl) e⟩
  | xd fs => obtain ⟨mA, ⟨od, es, ep, e, c⟩, r⟩ := x; exact ⟨mA, ⟨od, es, ep, k _ _ (.inl rfl) e, c⟩, r⟩
  | rng lo hi => obtain ⟨t, u, v, e⟩ := x; exact ⟨t, u, v, k _ _ (.inl rfl) e⟩
  | frz ob u ih => obtain ⟨e, q⟩ := x; exact ⟨k _ _ (.inl rfl) e, ih q⟩
  | tbl ps =>
    have e : h.get? a = some { cls := .none, data := .fields ps } := x
    show h'.get? a = some { cls := .none, data := .fields ps }
    exact k a _ (.inl rfl) e
  | met f y =>
    have e : h.get? a = some (PySem.W.methodObj (.ref f) (.ref y)) := x
    show h'.get? a = some (PySem.W.methodObj (.ref f) (.ref y))
    exact k a _ (.inl rfl) e
  | ext φ => obtain ⟨p, ⟨o, e⟩, st⟩ := x; exact ⟨st _ _ p fun o q => k _ _ (.inl rfl) q, ⟨o, k _ _ (.inl rfl) e⟩, st⟩
theorem HOk.lt (x : HOk P w H h) (e : H a = some o) : a < h.objs.size := (x a o e).lt
theorem HOk.fresh (x : HOk P w H h) (e : h.objs.size ≤ a) : H a = none := by
  cases q : H a with
  | none => rfl
  | some u => exact absurd (Nat.lt_of_lt_of_le (x.lt q) e) (Nat.lt_irrefl _)
theorem HOk.kept (x : HOk P w H h) (k : ∀ b u, h.get? b = some u → h'.get? b = some u) : HOk P w H h' := fun a o e =>
  (x a o e).stay (fun b u _ q => k b u q) (fun _ q => q) fun _ _ q => q
theorem HOk.laid (x : HOk P w H h) (k : ∀ b u, h.get? b = some u → h'.get? b = some u) (hp : h.objs.size ≤ a) (new : ObjOk P w (upd H a o) h' a o) : HOk P w (upd H a o) h' := fun b u e => by
  have hn := x.fresh hp
  by_cases hb : b = a
  · subst hb; rw [upd_same] at e; cases e; exact new
  · rw [upd_ne hb] at e
    exact (x b u e).stay (fun c v _ q => k c v q) (fun c q => by rw [upd_ne (ne_of_none q hn)]; exact q) fun c xs q => by rw [upd_ne (ne_of_none q hn)]; exact q
end

def Rd (H : Hp) (a : Addr) (u : HO) : Prop := H a = some u ∨ ∃ o, H a = some (.frz o u)
theorem Rd.ok {P : Program} {w : World} {H : Hp} {h : Heap} {a : Addr} {u : HO} (r : Rd H a u) (x : HOk P w H h) : ObjOk P w H h a u := by
  rcases r with r | ⟨o, r⟩
  · exact x a u r
  · obtain ⟨_, q⟩ := x a _ r
    exact q
def Mut : Option HO → Prop
  | some (.lst _) => True
  | some (.dK _) => True
  | some (.dT _) => True
  | some (.set _ _) => True
  | some (.ins _ _ _) => True
  | some (.ext _) => True
  | _ => False
section
variable {P : Program} {w : World} {H : Hp} {h h' : Heap} {x e : Addr} {o' : HO}
theorem HOk.write (ok : HOk P w H h) (mu : Mut (H x)) (he : e = x ∨ H e = some (.own x)) (k : ∀ b u, b ≠ e → h.get? b = some u → h'.get? b = some u) (heo : ∃ u, h'.get? e = some u)
    (new : ObjOk P w (upd H x o') h' x o') : HOk P w (upd H x o') h' := fun b u q => by
  have nown : ∀ c y, H c = some (.own y) → c ≠ x := fun c y r z => by subst z; rw [r] at mu; exact mu
  have ntup : ∀ c xs, H c = some (.tup xs) → c ≠ x := fun c xs r z => by subst z; rw [r] at mu; exact mu
  by_cases hb : b = x
  · subst hb; rw [upd_same] at q; cases q; exact new
  · rw [upd_ne hb] at q
    by_cases hbe : b = e
    · have q' : H b = some (.own x) := by
        rcases he with z | z
        · exact absurd (hbe.trans z) hb
        · rw [hbe]; exact z
      rw [q] at q'; cases q'
      obtain ⟨v, hv⟩ := heo
      exact ⟨v, by rw [hbe]; exact hv⟩
    · refine (ok b u q).stay (fun c v hc r => k c v ?_ r) (fun c r => by rw [upd_ne (nown c b r)]; exact r) fun c xs r => by rw [upd_ne (ntup c xs r)]; exact r
      rcases hc with rfl | hc
      · exact hbe
      · rintro rfl
        rcases he with z | z
        · exact nown c b hc z
        · rw [hc] at z; cases z; exact hb rfl
end

structure Un (fs ex : List Addr) (H H' : Hp) (h h' : Heap) : Prop where
  keep : ∀ b o, h.get? b = some o → H b = none → b ∉ fs → b ∉ ex → h'.get? b = some o
  slot : ∀ b o, h.get? b = some o → H b = none → b ∈ fs → b ∉ ex → ∃ sl, h'.get? b = some { o with slots := sl }
  free : ∀ b o, h.get? b = some o → H b = none → b ∉ ex → H' b = none
  there : ∀ b o, h.get? b = some o → b ∉ ex → ∃ o', h'.get? b = some o'
  tups : ∀ b xs, H b = some (.tup xs) → H' b = some (.tup xs)
  frzs : ∀ b o u, H b = some (.frz o u) → H' b = some (.frz o u)
  tbls : ∀ b ps, H b = some (.tbl ps) → ∃ more, H' b = some (.tbl (ps ++ more))
section
variable {fs fs' ex ex' : List Addr} {H H1 H2 : Hp} {h h1 h2 h' : Heap} {a x e : Addr} {o : HO}
theorem Un.any (u : Un fs ex H H1 h h1) {b : Addr} {ob : Obj} (q : h.get? b = some ob) (n : H b = none) (hx : b ∉ ex) : ∃ sl, h1.get? b = some { ob with slots := sl } := by
  by_cases hb : b ∈ fs
  · exact u.slot b ob q n hb hx
  · exact ⟨ob.slots, u.keep b ob q n hb hx⟩
theorem Un.kept (k : ∀ b u, h.get? b = some u → h'.get? b = some u) : Un fs ex H H h h' :=
  ⟨fun b ob q _ _ _ => k b ob q, fun b ob q _ _ _ => ⟨ob.slots, k b ob q⟩, fun _ _ _ n _ => n, fun b ob q _ => ⟨ob, k b ob q⟩, fun _ _ q => q, fun _ _ _ q => q, fun _ ps q => ⟨#[], by rw [q]; simp⟩⟩
theorem Un.refl : Un fs ex H H h h := Un.kept fun _ _ q => q
theorem Un.laid (k : ∀ b u, h.get? b = some u → h'.get? b = some u) (hp : h.objs.size ≤ a) (hn : H a = none) : Un fs ex H (upd H a o) h h' where
  keep := fun b u q _ _ _ => k b u q
  slot := fun b u q _ _ _ => ⟨u.slots, k b u q⟩
  free := fun b u q n _ => by rw [upd_ne (Nat.ne_of_lt (Nat.lt_of_lt_of_le (Heap.lt_size q) hp))]; exact n
  there := fun b u q _ => ⟨u, k b u q⟩
  tups := fun b xs q => by rw [upd_ne (ne_of_none q hn)]; exact q
  frzs := fun b u xs q => by rw [upd_ne (ne_of_none q hn)]; exact q
  tbls := fun b ps q => ⟨#[], by rw [upd_ne (ne_of_none q hn), q]; simp⟩
theorem Un.write (mu : Mut (H x)) (he : e = x ∨ H e = some (.own x)) (k : ∀ b u, b ≠ e → h.get? b = some u → h'.get? b = some u) (heo : ∃ u, h'.get? e = some u) : Un fs ex H (upd H x o) h h' := by
  have hx : ∀ b, H b = none → b ≠ x := fun b n z => by subst z; rw [n] at mu; exact mu
  have hb : ∀ b, H b = none → b ≠ e := fun b n z => by
    subst z
    rcases he with r | r
    · exact hx b n r
    · rw [n] at r; cases r
  have hm : ∀ b u, H b = some u → ¬ Mut (some u) → b ≠ x := fun b u q nm z => by subst z; rw [q] at mu; exact nm mu
  refine ⟨fun b u q n _ _ => k b u (hb b n) q, fun b u q n _ _ => ⟨u.slots, k b u (hb b n) q⟩, fun b u q n _ => by rw [upd_ne (hx b n)]; exact n, fun b u q _ => ?_,
    fun b xs q => by rw [upd_ne (hm b _ q fun z => z)]; exact q, fun b u xs q => by rw [upd_ne (hm b _ q fun z => z)]; exact q, fun b ps q => ⟨#[], by rw [upd_ne (hm b _ q fun z => z), q]; simp⟩⟩
  by_cases hbe : b = e
  · subst hbe; exact heo
  · exact ⟨u, k b u hbe q⟩
end

def trk (h : Heap) (H : Hp) : List Addr := (List.range h.objs.size).filter fun a => (H a).isSome
def hidT (h : Heap) (H : Hp) : Heap := PySem.W.hideAll h (trk h H)
theorem hidT_size (h : Heap) (H : Hp) : (hidT h H).objs.size = h.objs.size := PySem.W.hideAll_size _ _
theorem hidT_get {h : Heap} {H : Hp} {b : Addr} {o : Obj} (e : h.get? b = some o) (n : H b = none) : (hidT h H).get? b = some o :=
  PySem.W.hideAll_get _ e fun hm => by
    have q : (H b).isSome = true := (List.mem_filter.mp hm).2
    rw [n] at q; simp at q
theorem of_hidT {h : Heap} {H : Hp} {b : Addr} {o : Obj} (e : (hidT h H).get? b = some o) : h.get? b = some o ∧ H b = none := by
  have e' : h.get? b = some o := PySem.W.of_hideAll (trk h H) e
  refine ⟨e', ?_⟩
  cases q : H b with
  | none => rfl
  | some x =>
    have hm : b ∈ trk h H := List.mem_filter.mpr ⟨List.mem_range.mpr (Heap.lt_size e'), by simp [q]⟩
    have z : (hidT h H).get? b = none := PySem.W.hideAll_none (trk h H) hm
    rw [z] at e; cases e

def allNews (g h : Heap) (L : Addr) : List (Addr × Obj) := (List.range h.objs.size).filterMap fun a => if a = L ∨ (g.get? a).isSome = true then none else (h.get? a).map fun o => (a, o)
def rest (g h : Heap) (L d : Addr) : List (Addr × Obj) := (allNews g h L).filter fun p => decide (p.1 ≠ d)
end L2

namespace L2
open PySem PySem.Spec PyProof.Rows

structure Mod (K : PySem.W.Frag) (mg : Str → Option Value) (base : Heap) : Prop where
  kin : K.In base
  glob : base.Ns mainGlobals mg
  blt : ∃ mb, base.Ns builtinsNs mb ∧ ∀ x : Str, x ≠ "__name__" → mb x = bootBuiltins x
  nolimit : base.NoLimit

structure Cx where
  prog : Program
  w : World
  K : PySem.W.Frag
  mg : Str → Option Value
  base : Heap
  A : Around
  N : List Str
  s₀ : Shared
  H₀ : Hp
  env : Env
  outer : List Env
  stack : List Env
  ex : List Addr
  fn : Str → Bool
  calm : Bool
  pn : List (Addr × Obj)
  xe : Value → Shared → Prop
def frs (l : List Env) : List Addr := l.filterMap (·.frame)
abbrev Cx.fs (X : Cx) : List Addr := frs X.outer

def Vis (sc : Scope) (x : Str) : Prop := sc.names.lookup x = some .local ∨ sc.names.lookup x = some .cell ∨ sc.names.lookup x = some .free
def Loc (sc : Scope) (x : Str) : Prop := sc.names.lookup x = some .local ∨ sc.names.lookup x = some .cell
def Look (env : Env) (h : Heap) (m : Str → Option Value) (x : Str) (u : Value) : Prop :=
  (env.kindOf x = some .local ∧ m x = some u) ∨ ((env.kindOf x = some .cell ∨ env.kindOf x = some .free) ∧ ∃ c, env.cells.lookup x = some c ∧ h.IsCell c (some u))

structure Cx.Ok (X : Cx) : Prop where
  mod : Mod X.K X.mg X.base
  kind : X.env.scope.kind = .function
  glob : X.env.globals = mainGlobals
  blt : X.env.builtins = builtinsNs
  above : X.s₀.heap.objs.size ≤ X.env.locals
  inj : ∀ x y c, X.env.cells.lookup x = some c → X.env.cells.lookup y = some c → x = y
  has : ∀ x, (X.env.kindOf x = some .cell ∨ X.env.kindOf x = some .free) → ∃ c, X.env.cells.lookup x = some c
  cab : ∀ x c, X.fn x = true → X.env.cells.lookup x = some c → X.s₀.heap.objs.size ≤ c
  hd : X.calm = true → X.A.handled = none
  frames : X.A.frames = some X.stack
  stk : X.stack = X.outer ∨ (X.stack = X.env :: X.outer ∧ X.env.frame = some X.env.locals)
  exf : ∀ b ∈ X.ex, b ≠ X.env.locals ∧ ∀ x c, X.env.cells.lookup x = some c → c ≠ b
  bs : ∀ b o, X.base.get? b = some o → X.s₀.heap.get? b = some o ∧ X.H₀ b = none
  bsz : X.base.objs.size ≤ X.s₀.heap.objs.size
  noex : ∀ b o, X.base.get? b = some o → b ∉ X.ex
  exfs : ∀ b ∈ X.ex, b ∉ X.fs
  funs : X.s₀.heap.FunFrames X.base X.outer
  frf : ∀ b ∈ X.fs, X.H₀ b = none

structure Inv (X : Cx) (pins : List (Addr × Obj)) (σ : List (Option V)) (H : Hp) (s : Shared) : Prop where
  ok : X.Ok
  os : s.os = X.s₀.os
  bare : AllBare s.gens
  base : Un X.fs X.ex X.H₀ H X.s₀.heap s.heap
  loc : ∃ m, s.heap.Ns X.env.locals m ∧ ∀ (i : Nat) (x : Str) (v : V), X.N[i]? = some x → σ[i]? = some (some v) → Vis X.env.scope x → ∃ u, RelV v u ∧ Look X.env s.heap m x u
  cell : ∀ x c, X.env.cells.lookup x = some c → ∃ v, s.heap.IsCell c v
  free : H X.env.locals = none
  freeC : ∀ x c, X.env.cells.lookup x = some c → H c = none
  pin : ∀ p ∈ X.pn ++ pins, s.heap.get? p.1 = some p.2 ∧ H p.1 = none ∧ p.1 ≠ X.env.locals ∧ p.1 ∉ X.fs ∧ ∀ v, p.2.data ≠ .cell v
  hok : HOk X.prog X.w H s.heap
  len : σ.length = X.N.length

section
variable {X : Cx} {pins : List (Addr × Obj)} {σ : List (Option V)} {H H' : Hp} {s : Shared} {h' : Heap}

theorem Cx.Ok.nofr (ok : X.Ok) {b : Addr} {o : Obj} (e : X.base.get? b = some o) : b ∉ X.fs := fun hb => by
  have := (ok.funs.mem hb).1
  rw [e] at this; cases this
theorem Inv.bs (I : Inv X pins σ H s) : ∀ b o, X.base.get? b = some o → s.heap.get? b = some o ∧ H b = none := fun b o e =>
  ⟨I.base.keep b o (I.ok.bs b o e).1 (I.ok.bs b o e).2 (I.ok.nofr e) (I.ok.noex b o e), I.base.free b o (I.ok.bs b o e).1 (I.ok.bs b o e).2 (I.ok.noex b o e)⟩
theorem Inv.bk (I : Inv X pins σ H s) : ∀ b o, X.base.get? b = some o → s.heap.get? b = some o := fun b o e => (I.bs b o e).1
theorem Inv.mod (I : Inv X pins σ H s) : Mod X.K X.mg X.base := I.ok.mod
theorem Inv.kIn (I : Inv X pins σ H s) : X.K.In s.heap := I.ok.mod.kin.keeps I.bk
theorem Inv.lt (I : Inv X pins σ H s) : X.env.locals < s.heap.objs.size := let ⟨_, hn, _⟩ := I.loc; hn.lt
theorem Inv.sz (I : Inv X pins σ H s) : X.s₀.heap.objs.size ≤ s.heap.objs.size := Nat.le_trans I.ok.above (Nat.le_of_lt I.lt)
theorem Inv.nofs (I : Inv X pins σ H s) {a : Addr} (h : s.heap.objs.size ≤ a) : a ∉ X.fs := fun hb => by
  obtain ⟨_, o, ho, _⟩ := I.ok.funs.mem hb
  exact absurd (Nat.lt_of_lt_of_le (Heap.lt_size ho) (Nat.le_trans I.sz h)) (Nat.lt_irrefl _)
theorem Inv.cne (I : Inv X pins σ H s) : ∀ x c, X.env.cells.lookup x = some c → c ≠ X.env.locals := fun x c e z => by
  obtain ⟨v, o, ho, hd⟩ := I.cell x c e
  obtain ⟨m, ⟨o', es, ep, ho', hd', _⟩, _⟩ := I.loc
  rw [z, ho'] at ho; cases ho; rw [hd'] at hd; cases hd
theorem Inv.funs (I : Inv X pins σ H s) : s.heap.FunFrames X.base X.outer := by
  have all : ∀ (l : List Env), (∀ b ∈ frs l, b ∈ X.fs) → X.s₀.heap.FunFrames X.base l → s.heap.FunFrames X.base l := by
    intro l
    induction l with
    | nil => intro _ _; trivial
    | cons env r ih =>
      intro hs hl
      obtain ⟨hk, ⟨L, o, hf, hn, ho, hd⟩, hr⟩ := hl
      have hL : L ∈ X.fs := hs L (by unfold frs; rw [List.filterMap_cons, hf]; exact List.mem_cons_self)
      obtain ⟨sl, e⟩ := I.base.slot L o ho (I.ok.frf L hL) hL fun z => I.ok.exfs L z hL
      exact ⟨hk, ⟨L, _, hf, hn, e, hd⟩, ih (fun b hb => hs b (by unfold frs; rw [List.filterMap_cons, hf]; exact List.mem_cons_of_mem _ hb)) hr⟩
  exact all X.outer (fun _ hb => hb) I.ok.funs

theorem Inv.stack (I : Inv X pins σ H s) : s.heap.FunFrames X.base X.stack := by
  rcases I.ok.stk with e | ⟨e, hf⟩
  · rw [e]; exact I.funs
  · rw [e]
    obtain ⟨m, hn, _⟩ := I.loc
    refine .cons (by rw [I.ok.kind]; decide) hf hn ?_ I.funs
    exact Heap.get?_none_of_le (Nat.le_trans I.ok.bsz I.ok.above)
theorem Inv.stkSub (I : Inv X pins σ H s) : ∀ b ∈ frs X.stack, b ∈ X.env.locals :: X.fs := fun b hb => by
  rcases I.ok.stk with e | ⟨e, hf⟩
  · rw [e] at hb; exact List.mem_cons_of_mem _ hb
  · rw [e] at hb
    unfold frs at hb
    rw [List.filterMap_cons, hf] at hb
    exact hb
theorem Inv.stkFree (I : Inv X pins σ H s) : ∀ b ∈ frs X.stack, H b = none := fun b hb => by
  rcases List.mem_cons.mp (I.stkSub b hb) with e | hb
  · rw [e]; exact I.free
  · obtain ⟨_, o, ho, _⟩ := I.ok.funs.mem hb
    exact I.base.free b o ho (I.ok.frf b hb) fun z => I.ok.exfs b z hb

theorem Inv.step {g' : Array GenState} {t' : Nat} {d' : Drawn} {ch : List Addr} (I : Inv X pins σ H s)
    (hch : ∀ b ∈ ch, (b ∈ X.ex ∨ X.s₀.heap.objs.size ≤ b) ∧ b ≠ X.env.locals ∧ (∀ x c, X.env.cells.lookup x = some c → c ≠ b) ∧ ∀ p ∈ X.pn ++ pins, p.1 ≠ b)
    (keep : ∀ b o, b ≠ X.env.locals → b ∉ X.fs → b ∉ ch → s.heap.get? b = some o → H b = none → h'.get? b = some o)
    (slot : ∀ b o, b ≠ X.env.locals → b ∈ X.fs → b ∉ ch → s.heap.get? b = some o → H b = none → ∃ sl, h'.get? b = some { o with slots := sl }) (free : ∀ b o, b ∉ ch → s.heap.get? b = some o → H b = none → H' b = none)
    (there : ∀ b o, b ∉ ch → s.heap.get? b = some o → ∃ o', h'.get? b = some o')
    (tups : ∀ b xs, H b = some (.tup xs) → H' b = some (.tup xs)) (frzs : ∀ b o u, H b = some (.frz o u) → H' b = some (.frz o u)) (tbls : ∀ b ps, H b = some (.tbl ps) → ∃ more, H' b = some (.tbl (ps ++ more)))
    (ns : ∀ m, s.heap.Ns X.env.locals m → h'.Ns X.env.locals m) (hok : HOk X.prog X.w H' h') (hg : AllBare g') :
    Inv X pins σ H' { s with heap := h', gens := g', drawn := d', toks := t' } := by
  have neL : ∀ b o, X.s₀.heap.get? b = some o → b ≠ X.env.locals := fun b o e => Nat.ne_of_lt (Nat.lt_of_lt_of_le (Heap.lt_size e) I.ok.above)
  have neC : ∀ b o, X.s₀.heap.get? b = some o → b ∉ X.ex → b ∉ ch := fun b o e hx hb => by
    rcases (hch b hb).1 with z | z
    · exact hx z
    · exact absurd (Nat.lt_of_lt_of_le (Heap.lt_size e) z) (Nat.lt_irrefl _)
  have cellK : ∀ x c, X.env.cells.lookup x = some c → ∀ v, s.heap.IsCell c v → h'.IsCell c v := fun x c e v ⟨o, ho, hd⟩ => by
    have nch : c ∉ ch := fun z => (hch c z).2.2.1 x c e rfl
    by_cases hc : c ∈ X.fs
    · obtain ⟨sl, q⟩ := slot c o (I.cne x c e) hc nch ho (I.freeC x c e)
      exact ⟨_, q, hd⟩
    · exact ⟨o, keep c o (I.cne x c e) hc nch ho (I.freeC x c e), hd⟩
  refine ⟨I.ok, I.os, hg, ⟨fun b o e n hb hx => ?_, fun b o e n hb hx => ?_, fun b o e n hx => ?_, fun b o e hx => ?_, fun b xs e => tups b xs (I.base.tups b xs e), fun b o xs e => frzs b o xs (I.base.frzs b o xs e), fun b ps e => ?_⟩, ?_, fun x c e => ?_, ?_, fun x c e => ?_, fun p hp => ?_, hok, I.len⟩
  · exact keep b o (neL b o e) hb (neC b o e hx) (I.base.keep b o e n hb hx) (I.base.free b o e n hx)
  · obtain ⟨sl, e1⟩ := I.base.slot b o e n hb hx
    obtain ⟨sl', e2⟩ := slot b _ (neL b o e) hb (neC b o e hx) e1 (I.base.free b o e n hx)
    exact ⟨sl', e2⟩
  · obtain ⟨o', e1⟩ := I.base.there b o e hx
    exact free b o' (neC b o e hx) e1 (I.base.free b o e n hx)
  · obtain ⟨o', e1⟩ := I.base.there b o e hx
    exact there b o' (neC b o e hx) e1
  · obtain ⟨m1, e1⟩ := I.base.tbls b ps e
    obtain ⟨m2, e2⟩ := tbls b _ e1
    exact ⟨m1 ++ m2, by rw [e2, Array.append_assoc]⟩
  · obtain ⟨m, hn, hl⟩ := I.loc
    refine ⟨m, ns m hn, fun i x v e1 e2 e3 => ?_⟩
    obtain ⟨u, r, l⟩ := hl i x v e1 e2 e3
    refine ⟨u, r, ?_⟩
    rcases l with l | ⟨k, c, e, z⟩
    · exact .inl l
    · exact .inr ⟨k, c, e, cellK x c e _ z⟩
  · obtain ⟨v, z⟩ := I.cell x c e
    exact ⟨v, cellK x c e v z⟩
  · obtain ⟨m, ⟨o, _, _, ho, _⟩, _⟩ := I.loc
    exact free _ o (fun z => (hch _ z).2.1 rfl) ho I.free
  · obtain ⟨v, o, ho, hd⟩ := I.cell x c e
    exact free c o (fun z => (hch c z).2.2.1 x c e rfl) ho (I.freeC x c e)
  · obtain ⟨e, n, ne, nf, d⟩ := I.pin p hp
    have nch : p.1 ∉ ch := fun z => (hch p.1 z).2.2.2 p hp rfl
    exact ⟨keep p.1 p.2 ne nf nch e n, free p.1 p.2 nch e n, ne, nf, d⟩
theorem Inv.un {t' : Nat} (I : Inv X pins σ H s) (u : Un X.fs [] H H' s.heap h') (hok : HOk X.prog X.w H' h') : Inv X pins σ H' { s with heap := h', toks := t' } := by
  obtain ⟨m, ⟨o, es, ep, ho, r⟩, _⟩ := id I.loc
  obtain ⟨sl, hL⟩ := u.any ho I.free (by simp)
  exact I.step (g' := s.gens) (d' := s.drawn) (ch := []) (fun _ z => nomatch z) (fun b o _ hb _ e n => u.keep b o e n hb (by simp)) (fun b o _ hb _ e n => u.slot b o e n hb (by simp)) (fun b o _ e n => u.free b o e n (by simp)) (fun b o _ e => u.there b o e (by simp)) u.tups u.frzs u.tbls (fun m' hm => by
    obtain ⟨o', es', ep', ho', r'⟩ := hm
    rw [ho] at ho'; cases ho'
    exact ⟨_, es', ep', hL, r'⟩) hok I.bare
theorem Inv.call {g' : Array GenState} {t' : Nat} {d' : Drawn} {ch : List Addr} (I : Inv X pins σ H s) (u : Un (frs X.stack) ch H H' s.heap h') (hok : HOk X.prog X.w H' h') (hg : AllBare g')
    (hch : ∀ b ∈ ch, (b ∈ X.ex ∨ X.s₀.heap.objs.size ≤ b) ∧ b ≠ X.env.locals ∧ (∀ x c, X.env.cells.lookup x = some c → c ≠ b) ∧ ∀ p ∈ X.pn ++ pins, p.1 ≠ b) :
    Inv X pins σ H' { s with heap := h', gens := g', drawn := d', toks := t' } := by
  obtain ⟨m, ⟨o, es, ep, ho, r⟩, _⟩ := id I.loc
  obtain ⟨sl, hL⟩ := u.any ho I.free fun z => (hch _ z).2.1 rfl
  exact I.step (ch := ch) hch (fun b o hL hb hc e n => u.keep b o e n (fun z => (List.mem_cons.mp (I.stkSub b z)).elim hL hb) hc) (fun b o _ _ hc e n => u.any e n hc) (fun b o hc e n => u.free b o e n hc) (fun b o hc e => u.there b o e hc) u.tups u.frzs u.tbls (fun m' hm => by
    obtain ⟨o', es', ep', ho', r'⟩ := hm
    rw [ho] at ho'; cases ho'
    exact ⟨_, es', ep', hL, r'⟩) hok hg
theorem Inv.turned {t' : Nat} {it : Addr} (I : Inv X pins σ H s) (k : ∀ b o, b ≠ it → s.heap.get? b = some o → h'.get? b = some o) (hn : H it = none) (hL : it ≠ X.env.locals)
    (h1 : it ∈ X.ex ∨ X.s₀.heap.objs.size ≤ it) (h2 : ∀ x c, X.env.cells.lookup x = some c → c ≠ it) (h3 : ∀ p ∈ X.pn ++ pins, p.1 ≠ it) : Inv X pins σ H { s with heap := h', toks := t' } := by
  have nit : ∀ b u, H b = some u → b ≠ it := fun b u e z => by rw [z, hn] at e; cases e
  refine I.step (g' := s.gens) (d' := s.drawn) (ch := [it]) (fun b hb => ?_) (fun b o _ _ hc e _ => k b o (fun z => hc (by simp [z])) e) (fun b o _ _ hc e _ => ⟨o.slots, k b o (fun z => hc (by simp [z])) e⟩) (fun _ _ _ _ n => n)
    (fun b o hc e => ⟨o, k b o (fun z => hc (by simp [z])) e⟩) (fun _ _ e => e) (fun _ _ _ e => e) (fun b ps e => ⟨#[], by rw [e]; simp⟩) (fun m hm => ?_) (fun b u e => ?_) I.bare
  · have e : b = it := by simpa using hb
    subst e
    exact ⟨h1, hL, h2, h3⟩
  · obtain ⟨o, es, ep, ho, r⟩ := hm
    exact ⟨o, es, ep, k _ o (Ne.symm hL) ho, r⟩
  · refine (I.hok b u e).stay (fun c v hc q => k c v ?_ q) (fun _ q => q) fun _ _ q => q
    rcases hc with z | z
    · rw [z]; exact nit b u e
    · exact nit c _ z
theorem Inv.tok (I : Inv X pins σ H s) (t : Nat) : Inv X pins σ H { s with toks := t } := I.un (h' := s.heap) (t' := t) Un.refl I.hok
theorem Inv.kept {t' : Nat} (I : Inv X pins σ H s) (k : ∀ b u, s.heap.get? b = some u → h'.get? b = some u) : Inv X pins σ H { s with heap := h', toks := t' } := I.un (Un.kept k) (I.hok.kept k)
theorem Inv.laid {a : Addr} {o : HO} {t' : Nat} (I : Inv X pins σ H s) (k : ∀ b u, s.heap.get? b = some u → h'.get? b = some u) (hp : s.heap.objs.size ≤ a) (new : ObjOk X.prog X.w (upd H a o) h' a o) :
    Inv X pins σ (upd H a o) { s with heap := h', toks := t' } := I.un (Un.laid k hp (I.hok.fresh hp)) (I.hok.laid k hp new)
theorem Inv.write {x e : Addr} {o : HO} {t' : Nat} (I : Inv X pins σ H s) (mu : Mut (H x)) (he : e = x ∨ H e = some (.own x)) (k : ∀ b u, b ≠ e → s.heap.get? b = some u → h'.get? b = some u) (heo : ∃ u, h'.get? e = some u)
    (new : ObjOk X.prog X.w (upd H x o) h' x o) : Inv X pins σ (upd H x o) { s with heap := h', toks := t' } := I.un (Un.write mu he k heo) (I.hok.write mu he k heo new)
theorem Inv.pins_of {pins' : List (Addr × Obj)} (I : Inv X pins σ H s) (h : ∀ p ∈ pins', s.heap.get? p.1 = some p.2 ∧ H p.1 = none ∧ p.1 ≠ X.env.locals ∧ p.1 ∉ X.fs ∧ ∀ v, p.2.data ≠ .cell v) : Inv X pins' σ H s :=
  ⟨I.ok, I.os, I.bare, I.base, I.loc, I.cell, I.free, I.freeC, fun p hp => (List.mem_append.mp hp).elim (fun z => I.pin p (List.mem_append_left _ z)) (h p), I.hok, I.len⟩

theorem nodup_ix {N : List Str} (hN : N.Nodup) {i j : Nat} {x : Str} (a : N[i]? = some x) (b : N[j]? = some x) : i = j := by
  obtain ⟨h1, e1⟩ := List.getElem?_eq_some_iff.mp a
  obtain ⟨h2, e2⟩ := List.getElem?_eq_some_iff.mp b
  exact (List.getElem_inj hN).mp (e1.trans e2.symm)

theorem store_ok2 {M : Model} {A : Around} {E : Value → Shared → Prop} {i : Nat} {x : Str} {v : V} {u : Value} {Q : Unit → Shared → Prop} (I : Inv X pins σ H s) (hN : X.N.Nodup) (hi : X.N[i]? = some x) (hx : Loc X.env.scope x) (r : RelV v u)
    (h : ∀ s', Inv X pins (σ.set i (some v)) H s' → (∃ a, Heap.SameBut a s.heap s'.heap ∧ (a = X.env.locals ∨ X.env.cells.lookup x = some a)) → Q () s') (hf : X.fn x = true ∨ X.env.scope.names.lookup x = some .local := by first | exact .inl rfl | exact .inr rfl | assumption) : wpAny M A (storeName X.env x u) Q E s := by
  obtain ⟨m, hn, hl⟩ := id I.loc
  have hcls : (X.env.scope.kind == .class || (X.env.scope.kind == .module && X.env.locals != X.env.globals)) = false := by rw [I.ok.kind]; rfl
  have hiσ : i < σ.length := by rw [I.len]; exact (List.getElem?_eq_some_iff.mp hi).1
  have cne := I.cne
  have tracked : ∀ {a : Addr} {h' : Heap}, (∃ o, s.heap.get? a = some o ∧ H a = none) → Heap.SameBut a s.heap h' → HOk X.prog X.w H h' := fun {a h'} ha hs b ob e => by
    obtain ⟨_, _, hfree⟩ := ha
    refine (I.hok b ob e).stay (fun c w' hc q => (hs.2 c ?_).trans q) (fun _ q => q) fun _ _ q => q
    rintro rfl
    rcases hc with rfl | hc
    · rw [hfree] at e; cases e
    · rw [hfree] at hc; cases hc
  rcases hx with hk | hk
  · refine wpAny_storeName_local hk hn (fun h' hn' hs => ?_) hcls
    obtain ⟨oL, _, _, hoL, _⟩ := id hn
    refine h _ ⟨I.ok, I.os, I.bare, ⟨fun b o e n hb hx => ?_, fun b o e n hb hx => ?_, I.base.free, fun b o e hx => ?_, I.base.tups, I.base.frzs, I.base.tbls⟩, ⟨_, hn', fun j y v' e1 e2 e3 => ?_⟩, fun y c e => ?_, I.free, I.freeC, fun p hp => ?_, tracked ⟨oL, hoL, I.free⟩ hs, by simpa using I.len⟩ ⟨_, hs, .inl rfl⟩
    · exact (hs.2 b (Nat.ne_of_lt (Nat.lt_of_lt_of_le (Heap.lt_size e) I.ok.above))).trans (I.base.keep b o e n hb hx)
    · obtain ⟨sl, e1⟩ := I.base.slot b o e n hb hx
      exact ⟨sl, (hs.2 b (Nat.ne_of_lt (Nat.lt_of_lt_of_le (Heap.lt_size e) I.ok.above))).trans e1⟩
    · obtain ⟨o', e1⟩ := I.base.there b o e hx
      exact ⟨o', (hs.2 b (Nat.ne_of_lt (Nat.lt_of_lt_of_le (Heap.lt_size e) I.ok.above))).trans e1⟩
    · by_cases hj : j = i
      · subst hj
        rw [hi] at e1; cases e1
        rw [List.getElem?_set_self hiσ] at e2
        cases e2
        exact ⟨u, r, .inl ⟨hk, by simp⟩⟩
      · rw [List.getElem?_set_ne (Ne.symm hj)] at e2
        obtain ⟨u', r', q⟩ := hl j y v' e1 e2 e3
        refine ⟨u', r', ?_⟩
        rcases q with ⟨k, e⟩ | ⟨k, c, e, z⟩
        · refine .inl ⟨k, ?_⟩
          have : y ≠ x := fun e => hj (nodup_ix hN e1 (e ▸ hi))
          simp [this, e]
        · exact .inr ⟨k, c, e, z.sameBut hs (cne y c e)⟩
    · obtain ⟨w', z⟩ := I.cell y c e
      exact ⟨w', z.sameBut hs (cne y c e)⟩
    · obtain ⟨e, n, ne, nf, d⟩ := I.pin p hp
      exact ⟨(hs.2 p.1 ne).trans e, n, ne, nf, d⟩
  · have hfn : X.fn x = true := by
      rcases hf with z | z
      · exact z
      · rw [z] at hk; cases hk
    obtain ⟨c, hc⟩ := I.ok.has x (.inl hk)
    obtain ⟨w', z⟩ := I.cell x c hc
    refine wpAny_storeName_cell I.ok.kind hk hc z (fun h' hc' hs => ?_)
    obtain ⟨oc, hoc, hocd⟩ := id z
    refine h { s with heap := h' } ⟨I.ok, I.os, I.bare, ⟨fun b o e n hb hx => ?_, fun b o e n hb hx => ?_, I.base.free, fun b o e hx => ?_, I.base.tups, I.base.frzs, I.base.tbls⟩, ⟨m, hn.sameBut hs (Ne.symm (cne x c hc)), fun j y v' e1 e2 e3 => ?_⟩, fun y c' e => ?_, I.free, I.freeC, fun p hp => ?_, tracked ⟨oc, hoc, I.freeC x c hc⟩ hs, by simpa using I.len⟩ ⟨c, hs, .inr hc⟩
    · exact (hs.2 b (Nat.ne_of_lt (Nat.lt_of_lt_of_le (Heap.lt_size e) (I.ok.cab x c hfn hc)))).trans (I.base.keep b o e n hb hx)
    · obtain ⟨sl, e1⟩ := I.base.slot b o e n hb hx
      exact ⟨sl, (hs.2 b (Nat.ne_of_lt (Nat.lt_of_lt_of_le (Heap.lt_size e) (I.ok.cab x c hfn hc)))).trans e1⟩
    · obtain ⟨o', e1⟩ := I.base.there b o e hx
      exact ⟨o', (hs.2 b (Nat.ne_of_lt (Nat.lt_of_lt_of_le (Heap.lt_size e) (I.ok.cab x c hfn hc)))).trans e1⟩
    · by_cases hj : j = i
      · subst hj
        rw [hi] at e1; cases e1
        rw [List.getElem?_set_self hiσ] at e2
        cases e2
        exact ⟨u, r, .inr ⟨.inl hk, c, hc, hc'⟩⟩
      · rw [List.getElem?_set_ne (Ne.symm hj)] at e2
        obtain ⟨u', r', q⟩ := hl j y v' e1 e2 e3
        refine ⟨u', r', ?_⟩
        rcases q with q | ⟨k, c', e, z'⟩
        · exact .inl q
        · refine .inr ⟨k, c', e, z'.sameBut hs ?_⟩
          rintro rfl
          exact hj (nodup_ix hN e1 (I.ok.inj _ _ _ e hc ▸ hi))
    · by_cases hcc : c' = c
      · subst hcc; exact ⟨_, hc'⟩
      · obtain ⟨w2, z2⟩ := I.cell y c' e
        exact ⟨w2, z2.sameBut hs hcc⟩
    · obtain ⟨e, n, ne, nf, d⟩ := I.pin p hp
      refine ⟨(hs.2 p.1 ?_).trans e, n, ne, nf, d⟩
      intro q
      rw [q, hoc] at e
      have q' : oc = p.2 := Option.some.inj e
      exact d w' (by rw [← q']; exact hocd)
theorem store_ok {M : Model} {A : Around} {E : Value → Shared → Prop} {i : Nat} {x : Str} {v : V} {u : Value} {Q : Unit → Shared → Prop} (I : Inv X pins σ H s) (hN : X.N.Nodup) (hi : X.N[i]? = some x) (hx : Loc X.env.scope x) (r : RelV v u)
    (h : ∀ s', Inv X pins (σ.set i (some v)) H s' → Q () s') (hf : X.fn x = true ∨ X.env.scope.names.lookup x = some .local := by first | exact .inl rfl | exact .inr rfl | assumption) : wpAny M A (storeName X.env x u) Q E s :=
  store_ok2 I hN hi hx r (fun s' I' _ => h s' I') hf
theorem Inv.call' {s' : Shared} {ch : List Addr} (I : Inv X pins σ H s) (ho : s'.os = s.os) (u : Un (frs X.stack) ch H H' s.heap s'.heap) (hok : HOk X.prog X.w H' s'.heap) (hg : AllBare s'.gens)
    (hch : ∀ b ∈ ch, (b ∈ X.ex ∨ X.s₀.heap.objs.size ≤ b) ∧ b ≠ X.env.locals ∧ (∀ x c, X.env.cells.lookup x = some c → c ≠ b) ∧ ∀ p ∈ X.pn ++ pins, p.1 ≠ b) : Inv X pins σ H' s' := by
  obtain ⟨h', g', d', t', o'⟩ := s'
  have e : o' = s.os := ho
  subst e
  exact I.call (g' := g') (t' := t') (d' := d') u hok hg hch
end

abbrev XK := Value → Option Addr → Hp → Prop
abbrev St := List (Option V)
abbrev VK := V → Hp → Prop
abbrev TE := St → Hp → VK → Prop
abbrev TT := St → Hp → (Bool → Hp → Prop) → Prop
abbrev TA := St → Hp → (List V → Hp → Prop) → Prop
structure Ends where
  nx : St → Hp → Prop
  rt : VK
  bk : St → Hp → Prop := fun _ _ => False
  ct : St → Hp → Prop := fun _ _ => False
abbrev TS := Ends → St → Hp → Prop

def EP (X : Cx) (pins : List (Addr × Obj)) (σ : St) (Q : VK) (u : Value) (s' : Shared) : Prop := ∃ v H', Inv X pins σ H' s' ∧ RelV v u ∧ Q v H'
def TP (X : Cx) (pins : List (Addr × Obj)) (σ : St) (Q : Bool → Hp → Prop) (b : Bool) (s' : Shared) : Prop := ∃ H', Inv X pins σ H' s' ∧ Q b H'
def AP (X : Cx) (pins : List (Addr × Obj)) (σ : St) (Q : List V → Hp → Prop) (us : List Value) (s' : Shared) : Prop := ∃ vs H', Inv X pins σ H' s' ∧ Vals vs us ∧ Q vs H'
def SP (X : Cx) (pins : List (Addr × Obj)) (D : Ends) (f : Flow) (s' : Shared) : Prop :=
  match f with
  | .next => ∃ σ' H', Inv X pins σ' H' s' ∧ D.nx σ' H'
  | .brk => ∃ σ' H', Inv X pins σ' H' s' ∧ D.bk σ' H'
  | .cont => ∃ σ' H', Inv X pins σ' H' s' ∧ D.ct σ' H'
  | .ret u => ∃ v σ' H', Inv X pins σ' H' s' ∧ RelV v u ∧ D.rt v H'

def PE (X : Cx) (e : Expr) (t : TE) : Prop :=
  ∀ (pins : List (Addr × Obj)) (s : Shared) (σ : St) (H : Hp) (Q : VK), Inv X pins σ H s → t σ H Q → wpAny (model X.prog X.w) X.A (eval e X.env) (EP X pins σ Q) X.xe s
def PT (X : Cx) (e : Expr) (t : TT) : Prop :=
  ∀ (pins : List (Addr × Obj)) (s : Shared) (σ : St) (H : Hp) (Q : Bool → Hp → Prop), Inv X pins σ H s → t σ H Q → wpAny (model X.prog X.w) X.A (isTrue e X.env (eval e X.env)) (TP X pins σ Q) X.xe s
def PW (X : Cx) (e : Expr) (t : TT) : Prop :=
  ∀ (whole : Sem Value) (pins : List (Addr × Obj)) (s : Shared) (σ : St) (H : Hp) (Q : Bool → Hp → Prop), Inv X pins σ H s → t σ H Q → wpAny (model X.prog X.w) X.A (isTrue e X.env whole) (TP X pins σ Q) X.xe s
theorem PW.pt {X : Cx} {e : Expr} {t : TT} (h : PW X e t) : PT X e t := h _
def PA (X : Cx) (es : List Expr) (t : TA) : Prop :=
  ∀ (pos : Pos) (pins : List (Addr × Obj)) (s : Shared) (σ : St) (H : Hp) (Q : List V → Hp → Prop), Inv X pins σ H s → t σ H Q → wpAny (model X.prog X.w) X.A (spliced (backTo pos (starEach es X.env))) (AP X pins σ Q) X.xe s
def PS (X : Cx) (st : Stmt) (t : TS) : Prop :=
  ∀ (pins : List (Addr × Obj)) (s : Shared) (σ : St) (H : Hp) (D : Ends), Inv X pins σ H s → t D σ H → wpAny (model X.prog X.w) X.A (exec st X.env) (SP X pins D) X.xe s
def PSs (X : Cx) (st : List Stmt) (t : TS) : Prop :=
  ∀ (pins : List (Addr × Obj)) (s : Shared) (σ : St) (H : Hp) (D : Ends), Inv X pins σ H s → t D σ H → wpAny (model X.prog X.w) X.A (execs st X.env) (SP X pins D) X.xe s
theorem thn {α : Type} {t : Sem α} {Q Q' : α → Shared → Prop} {M : Model} {A : Around} {E : Value → Shared → Prop} {s : Shared} (h : wpAny M A t Q E s) (hQ : ∀ a s, Q a s → Q' a s) : wpAny M A t Q' E s := wpAny_mono h hQ fun _ _ x => x
end L2

namespace L2
open PySem PySem.Spec PyProof.Rows
section
variable {X : Cx}

def tVar (i : Nat) : TE := fun σ H Q => ∃ v, σ[i]? = some (some v) ∧ Q v H
def tC (v : V) : TE := fun _ H Q => Q v H
theorem pe_var {i : Nat} {x : Str} {pos : Pos} (hN : X.N[i]? = some x) (hv : Vis X.env.scope x) (hd : (x == ("__debug__" : Str)) = false := by decide) (hcd : (x == ("__classdict__" : Str)) = false := by decide) : PE X (.Name x pos) (tVar i) := by
  intro pins s σ H Q I h
  obtain ⟨v, e, h⟩ := h
  obtain ⟨m, hn, hl⟩ := I.loc
  obtain ⟨u, r, l⟩ := hl i x v hN e hv
  have fin : EP X pins σ Q u s := ⟨v, H, I, r, h⟩
  rcases l with ⟨hk, hm⟩ | ⟨hk, c, hc, hcell⟩
  · exact wpAny_Name (wpAny_loadName_local I.ok.kind hk hn hm fin) hd
  · rcases hk with hk | hk
    · exact wpAny_Name (wpAny_loadName_cell I.ok.kind hk hc hcell fin) hd
    · exact wpAny_Name (wpAny_loadName_free I.ok.kind hk hc hcell fin hcd) hd
theorem pe_int {i j pos} : PE X (.Constant (.int i) j pos) (tC (.int i)) := fun _ _ _ H _ I h => wpAny_Constant_int ⟨.int i, H, I.tok _, ⟨_, rfl⟩, h⟩
theorem pe_bl {b j pos} : PE X (.Constant (.bool b) j pos) (tC (.bl b)) := fun _ _ _ H _ I h => Constant_bool ⟨.bl b, H, I, rfl, h⟩
theorem pe_str {x j pos} : PE X (.Constant (.str x) j pos) (tC (.str x)) := fun _ _ _ H _ I h => Calls.Constant_str ⟨.str x, H, I.tok _, ⟨_, rfl⟩, h⟩

def Gl (X : Cx) (x : Str) : Prop := X.env.kindOf x = some .globalImplicit
theorem ld_glob {E : Value → Shared → Prop} {pins : List (Addr × Obj)} {s : Shared} {σ : St} {H : Hp} {x : Str} {u : Value} {pos : Pos} {Q : Value → Shared → Prop} (I : Inv X pins σ H s) (hg : Gl X x) (hm : X.mg x = some u) (h : Q u s)
    (hd : (x == ("__debug__" : Str)) = false := by decide) : wpAny (model X.prog X.w) X.A (eval (.Name x pos) X.env) Q E s :=
  Calls.Name_function_global I.ok.kind hg (Calls.loadGlobal_global (by rw [I.ok.glob]; exact I.mod.glob.keeps I.bk) hm h) hd
theorem ld_blt {E : Value → Shared → Prop} {pins : List (Addr × Obj)} {s : Shared} {σ : St} {H : Hp} {x : Str} {u : Value} {pos : Pos} {Q : Value → Shared → Prop} (I : Inv X pins σ H s) (hg : Gl X x) (hm : X.mg x = none) (hv : bootBuiltins x = some u) (h : Q u s)
    (hn : x ≠ "__name__" := by decide) (hd : (x == ("__debug__" : Str)) = false := by decide) : wpAny (model X.prog X.w) X.A (eval (.Name x pos) X.env) Q E s := by
  obtain ⟨mb, h1, h2⟩ := I.mod.blt
  exact Calls.Name_function_global I.ok.kind hg (Calls.loadGlobal_builtin (by rw [I.ok.glob]; exact I.mod.glob.keeps I.bk) hm (by rw [I.ok.blt]; exact h1.keeps I.bk) ((h2 x hn).trans hv) h) hd
variable {a b : Expr} {ta tb : TE} {pos : Pos}
def PC (X : Cx) (op : CmpOp) (a b : Expr) (t : TE) : Prop :=
  ∀ (pins : List (Addr × Obj)) (s : Shared) (σ : St) (H : Hp) (Q : VK), Inv X pins σ H s → t σ H Q →
    wpAny (model X.prog X.w) X.A (eval a X.env) (fun v s₁ => wpAny (model X.prog X.w) X.A (eval b X.env) (fun u s₂ => wpAny (model X.prog X.w) X.A (compareOp op v u) (EP X pins σ Q) X.xe s₂) X.xe s₁) X.xe s
def tB (t : TE) : TT := fun σ H Q => t σ H fun x H1 => ∃ c, x = .bl c ∧ Q c H1
theorem pt_cmp {op : CmpOp} {t : TE} (h : PC X op a b t) (h1 : behindInMarks op b = false := by first | exact nobehind _ (by decide) (by decide) | rfl) : PT X (.Compare a [op] [b] pos) (tB t) := by
  intro pins s σ H Q I hw
  refine wpAny_isTrue_Compare1 (thn (h pins s σ H _ I hw) fun v s1 h1 => thn h1 fun u s2 h2 => thn h2 fun c s3 ⟨x, H1, I1, r1, q1⟩ => ?_) h1
  obtain ⟨d, rfl, q⟩ := q1
  cases r1
  exact wpAny_truthy_bool ⟨H1, I1, q⟩
variable {tA tB' : TT} {rest : List Expr}
def tAnd (t u : TT) : TT := fun σ H Q => t σ H fun c H1 => if c = true then u σ H1 Q else Q false H1
def tNot (t : TT) : TT := fun σ H Q => t σ H fun c H1 => Q (!c) H1
theorem pw_and1 (ha : PT X a tA) : PW X (.BoolOp .And [a] pos) tA := by
  intro wh pins s σ H Q I h
  refine isTrue_and (thn (ha pins s σ H Q I h) fun c s1 e => ?_)
  cases c with
  | true => exact isTrue_and_nil e
  | false => exact e
theorem pw_and (ha : PT X a tA) (hb : PW X (.BoolOp .And (b :: rest) pos) tB') : PW X (.BoolOp .And (a :: b :: rest) pos) (tAnd tA tB') := by
  intro wh pins s σ H Q I h
  refine isTrue_and (thn (ha pins s σ H _ I h) fun c s1 ⟨H1, I1, q1⟩ => ?_)
  cases c with
  | true => exact hb wh pins s1 σ H1 Q I1 q1
  | false => exact ⟨H1, I1, q1⟩
theorem pt_not (ha : PT X a tA) : PT X (.UnaryOp .Not a pos) (tNot tA) := by
  intro pins s σ H Q I h
  exact isTrue_not (ha pins s σ H (fun c H1 => Q (!c) H1) I h)
def tAndV (ta tb : TE) : TE := fun σ H Q => ta σ H fun x H1 => ∃ c, x = .bl c ∧ if c = true then tb σ H1 Q else Q (.bl false) H1
def tOrV (ta tb : TE) : TE := fun σ H Q => ta σ H fun x H1 => ∃ c, x = .bl c ∧ if c = true then Q (.bl true) H1 else tb σ H1 Q
theorem pe_one {op} {t : TE} (h : PE X a t) : PE X (.BoolOp op [a] pos) t := fun pins s σ H Q I hw => BoolOp_one (h pins s σ H Q I hw)
theorem pe_and (ha : PE X a ta) (hb : PE X (.BoolOp .And (b :: rest) pos) tb) : PE X (.BoolOp .And (a :: b :: rest) pos) (tAndV ta tb) := by
  intro pins s σ H Q I h
  refine BoolOp_and (thn (ha pins s σ H _ I h) fun v s1 ⟨x, H1, I1, r1, q1⟩ => ?_)
  obtain ⟨c, rfl, q1⟩ := q1
  cases r1
  refine wpAny_truthy_bool ?_
  cases c with
  | true => exact hb pins s1 σ H1 Q I1 q1
  | false => exact ⟨.bl false, H1, I1, rfl, q1⟩
theorem pe_or (ha : PE X a ta) (hb : PE X (.BoolOp .Or (b :: rest) pos) tb) : PE X (.BoolOp .Or (a :: b :: rest) pos) (tOrV ta tb) := by
  intro pins s σ H Q I h
  refine BoolOp_or (thn (ha pins s σ H _ I h) fun v s1 ⟨x, H1, I1, r1, q1⟩ => ?_)
  obtain ⟨c, rfl, q1⟩ := q1
  cases r1
  refine wpAny_truthy_bool ?_
  cases c with
  | false => exact hb pins s1 σ H1 Q I1 q1
  | true => exact ⟨.bl true, H1, I1, rfl, q1⟩
def tIf (t : TT) (ta tb : TE) : TE := fun σ H Q => t σ H fun c H1 => if c = true then ta σ H1 Q else tb σ H1 Q
theorem pe_ifExp {c : Expr} (hc : PT X c tA) (ha : PE X a ta) (hb : PE X b tb) : PE X (.IfExp c a b pos) (tIf tA ta tb) := by
  intro pins s σ H Q I h
  refine wpAny_IfExp (thn (hc pins s σ H _ I h) fun d s1 ⟨H1, I1, q1⟩ => ?_)
  cases d with
  | true => exact ha pins s1 σ H1 Q I1 q1
  | false => exact hb pins s1 σ H1 Q I1 q1
end
end L2

namespace L2
open PySem PySem.Spec PyProof.Rows

def SqL (K : PySem.W.Frag) (H : Hp) (a : Addr) (xs : List V) : Prop :=
  Rd H a (.lst xs) ∨
    ∃ (o : Obj) (its : Array Value) (n : Nat), K.lookup a = some o ∧ o.cls = .type "list" ∧ o.dict = none ∧ o.data = .seq its n ∧ its.size ≤ sizeLine ∧ Vals xs its.toList
def SqT (K : PySem.W.Frag) (H : Hp) (a : Addr) (xs : List V) : Prop :=
  Rd H a (.tup xs) ∨
    ∃ (o : Obj) (its : Array Value) (n : Nat), K.lookup a = some o ∧ o.cls = .type "tuple" ∧ o.data = .seq its n ∧ its.size ≤ sizeLine ∧ Vals xs its.toList
def absV : Value → Option V
  | .none => some .non
  | .bool b => some (.bl b)
  | .int i _ => some (.int i)
  | .str x _ => some (.str x)
  | .bytes b _ => some (.byt b)
  | .float b _ => some (.flt b)
  | .ref a => some (.ref a)
  | .type n => some (.ty n)
  | _ => none
theorem RelV.abs {x : V} {u : Value} (r : RelV x u) : absV u = some x := by
  cases x with
  | non => cases r; rfl
  | bl _ => cases r; rfl
  | int _ => obtain ⟨t, rfl⟩ := r; rfl
  | str _ => obtain ⟨t, rfl⟩ := r; rfl
  | byt _ => obtain ⟨t, rfl⟩ := r; rfl
  | flt _ => obtain ⟨t, rfl⟩ := r; rfl
  | ref _ => cases r; rfl
  | ty _ => cases r; rfl
theorem RelV.inj {x y : V} {u : Value} (r : RelV x u) (q : RelV y u) : x = y := Option.some.inj (r.abs.symm.trans q.abs)
theorem Vals.inj : ∀ {xs ys : List V} {us : List Value}, Vals xs us → Vals ys us → xs = ys
  | _, _, _, .nil, .nil => rfl
  | _, _, _, .cons r t, .cons r' t' => by rw [r.inj r', Vals.inj t t']
section
variable {X : Cx} {pins : List (Addr × Obj)} {σ : St} {H : Hp} {s : Shared} {a : Addr} {xs ys : List V}
theorem SqL.of {K : PySem.W.Frag} (h : H a = some (.lst xs)) : SqL K H a xs := .inl (.inl h)
theorem SqT.of {K : PySem.W.Frag} (h : H a = some (.tup xs)) : SqT K H a xs := .inl (.inl h)
theorem Inv.list (I : Inv X pins σ H s) (h : SqL X.K H a xs) : ∃ its : List Value, Vals xs its ∧ PlainL s.heap a its.toArray ∧ xs.length ≤ sizeLine := by
  rcases h with h | ⟨o, its, n, hk, hc, hd, hs, hz, r⟩
  · obtain ⟨z, its, n, r, e⟩ := h.ok I.hok
    exact ⟨its, r, ⟨_, n, e, rfl, rfl, rfl⟩, z⟩
  · refine ⟨its.toList, r, ⟨o, n, I.kIn a o hk, hc, hd, by simpa using hs⟩, ?_⟩
    have e := r.length
    simp only [Array.length_toList] at e
    omega
theorem Inv.tuple (I : Inv X pins σ H s) (h : SqT X.K H a xs) : ∃ its : List Value, Vals xs its ∧ IsTup s.heap a its.toArray ∧ xs.length ≤ sizeLine := by
  rcases h with h | ⟨o, its, n, hk, hc, hs, hz, r⟩
  · obtain ⟨z, its, r, p⟩ := h.ok I.hok
    exact ⟨its, r, p, z⟩
  · refine ⟨its.toList, r, ⟨o, I.kIn a o hk, hc, n, by simpa using hs⟩, ?_⟩
    have e := r.length
    simp only [Array.length_toList] at e
    omega
theorem Inv.list_inj (I : Inv X pins σ H s) (h : SqL X.K H a xs) (h' : SqL X.K H a ys) : xs = ys := by
  obtain ⟨its, r, ⟨o, n, e, _, _, d⟩, _⟩ := I.list h
  obtain ⟨its', r', ⟨o', n', e', _, _, d'⟩, _⟩ := I.list h'
  rw [e] at e'; cases e'
  rw [d] at d'
  injection d' with d1 _
  have : its = its' := by simpa using congrArg Array.toList d1
  subst this
  exact r.inj r'
theorem Inv.tuple_inj (I : Inv X pins σ H s) (h : SqT X.K H a xs) (h' : SqT X.K H a ys) : xs = ys := by
  obtain ⟨its, r, ⟨o, e, _, n, d⟩, _⟩ := I.tuple h
  obtain ⟨its', r', ⟨o', e', _, n', d'⟩, _⟩ := I.tuple h'
  rw [e] at e'; cases e'
  rw [d] at d'
  injection d' with d1 _
  have : its = its' := by simpa using congrArg Array.toList d1
  subst this
  exact r.inj r'
end

abbrev Cx.wish (X : Cx) (E : Value → Shared → Prop) : Cx := { X with xe := E }
abbrev Cx.nox (X : Cx) : Cx := X.wish fun _ _ => False
theorem Cx.Ok.wish {X : Cx} (ok : X.Ok) (E : Value → Shared → Prop) : (X.wish E).Ok :=
  ⟨ok.mod, ok.kind, ok.glob, ok.blt, ok.above, ok.inj, ok.has, ok.cab, ok.hd, ok.frames, ok.stk, ok.exf, ok.bs, ok.bsz, ok.noex, ok.exfs, ok.funs, ok.frf⟩
theorem Cx.Ok.unwish {X : Cx} {E : Value → Shared → Prop} (ok : (X.wish E).Ok) : X.Ok :=
  ⟨ok.mod, ok.kind, ok.glob, ok.blt, ok.above, ok.inj, ok.has, ok.cab, ok.hd, ok.frames, ok.stk, ok.exf, ok.bs, ok.bsz, ok.noex, ok.exfs, ok.funs, ok.frf⟩
section
variable {X : Cx} {pins : List (Addr × Obj)} {σ : St} {H : Hp} {s : Shared} {E : Value → Shared → Prop}
theorem Inv.wish (I : Inv X pins σ H s) (E : Value → Shared → Prop) : Inv (X.wish E) pins σ H s := ⟨I.ok.wish E, I.os, I.bare, I.base, I.loc, I.cell, I.free, I.freeC, I.pin, I.hok, I.len⟩
theorem Inv.unwish (I : Inv (X.wish E) pins σ H s) : Inv X pins σ H s := ⟨I.ok.unwish, I.os, I.bare, I.base, I.loc, I.cell, I.free, I.freeC, I.pin, I.hok, I.len⟩
theorem SP.unwish {D : Ends} {f : Flow} {s' : Shared} (h : SP (X.wish E) pins D f s') : SP X pins D f s' := by
  cases f with
  | next => obtain ⟨σ', H', I, q⟩ := h; exact ⟨σ', H', I.unwish, q⟩
  | brk => obtain ⟨σ', H', I, q⟩ := h; exact ⟨σ', H', I.unwish, q⟩
  | cont => obtain ⟨σ', H', I, q⟩ := h; exact ⟨σ', H', I.unwish, q⟩
  | ret u => obtain ⟨v, σ', H', I, r, q⟩ := h; exact ⟨v, σ', H', I.unwish, r, q⟩
theorem PSs.nox {st : List Stmt} {t : TS} (h : PSs X.nox st t) : PSs X st t := fun pins s σ H D I hw =>
  wpAny_mono (h pins s σ H D (I.wish _) hw) (fun _ _ q => q.unwish) fun _ _ z => False.elim z
end

section
variable {X : Cx} {st : Stmt} {rest : List Stmt} {t u : TS} {e : Expr} {te : TE} {pos : Pos}
def tNext : TS := fun D σ H => D.nx σ H
def tSeq (t u : TS) : TS := fun D σ H => t { D with nx := u D } σ H
theorem pss_nil : PSs X [] tNext := fun _ _ σ H _ I h => wpAny_execs_nil ⟨σ, H, I, h⟩
theorem pss_cons (h1 : PS X st t) (h2 : PSs X rest u) : PSs X (st :: rest) (tSeq t u) := by
  intro pins s σ H D I h
  refine wpAny_execs_cons (thn (h1 pins s σ H { D with nx := u D } I h) fun f s1 q => ?_)
  cases f with
  | next =>
    obtain ⟨σ', H', I', q⟩ := q
    exact h2 pins s1 σ' H' D I' q
  | ret v => exact q
  | brk => exact q
  | cont => exact q
theorem pss_one (h1 : PS X st t) : PSs X [st] t := by
  intro pins s σ H D I h
  refine wpAny_execs_cons (thn (h1 pins s σ H D I h) fun f s1 q => ?_)
  cases f with
  | next => exact wpAny_execs_nil q
  | ret v => exact q
  | brk => exact q
  | cont => exact q
theorem Inv.quiet {pins : List (Addr × Obj)} {σ : St} {H : Hp} {s : Shared} (I : Inv X pins σ H s) : interactive X.env = false := by simp [interactive, I.ok.kind]
def tDrop (te : TE) : TS := fun D σ H => te σ H fun _ H1 => D.nx σ H1
theorem ps_expr (he : PE X e te) (hs : swapsWith e none pos.line X.env = pure false := by rfl) : PS X (.Expr e pos) (tDrop te) := by
  intro pins s σ H D I h
  exact wpAny_Expr_any (thn (he pins s σ H _ I h) fun v s1 ⟨x, H1, I1, r1, q1⟩ => ⟨σ, H1, I1, q1⟩) I.quiet hs
def tRet (te : TE) : TS := fun D σ H => te σ H D.rt
theorem ps_ret (he : PE X e te) : PS X (.Return (some e) pos) (tRet te) := by
  intro pins s σ H D I h
  exact wpAny_Return_some (thn (he pins s σ H _ I h) fun v s1 ⟨x, H1, I1, r1, q1⟩ => ⟨x, σ, H1, I1, r1, q1⟩)
def tIfS (c : TT) (t u : TS) : TS := fun D σ H => c σ H fun b H1 => if b = true then t D σ H1 else u D σ H1
theorem ps_if {c : Expr} {a b : List Stmt} {tc : TT} (hc : PT X c tc) (ha : PSs X a t) (hb : PSs X b u) : PS X (.If c a b pos) (tIfS tc t u) := by
  intro pins s σ H D I h
  refine wpAny_If (thn (hc pins s σ H _ I h) fun d s1 ⟨H1, I1, q1⟩ => ?_)
  cases d with
  | true => exact ha pins s1 σ H1 D I1 q1
  | false => exact hb pins s1 σ H1 D I1 q1
end

abbrev TG := V → St → Hp → (St → Hp → Prop) → Prop
abbrev TGs := List V → St → Hp → (St → Hp → Prop) → Prop
def PG (X : Cx) (target : Expr) (t : TG) : Prop :=
  ∀ (pins : List (Addr × Obj)) (s : Shared) (σ : St) (H : Hp) (v : V) (u : Value) (Q : St → Hp → Prop), Inv X pins σ H s → RelV v u → t v σ H Q →
    wpAny (model X.prog X.w) X.A (assign target X.env u) (fun _ s' => ∃ σ' H', Inv X pins σ' H' s' ∧ Q σ' H') X.xe s
def PGs (X : Cx) (ts : List Expr) (t : TGs) : Prop :=
  ∀ (pins : List (Addr × Obj)) (s : Shared) (σ : St) (H : Hp) (vs : List V) (us : List Value) (Q : St → Hp → Prop), Inv X pins σ H s → Vals vs us → t vs σ H Q →
    wpAny (model X.prog X.w) X.A (assignInOrder ((assignEach ts X.env).map (·.2)) us) (fun _ s' => ∃ σ' H', Inv X pins σ' H' s' ∧ Q σ' H') X.xe s
abbrev TSet := V → V → V → Hp → (Hp → Prop) → Prop
def PSet (X : Cx) (t : TSet) : Prop :=
  ∀ (pins : List (Addr × Obj)) (s : Shared) (σ : St) (H : Hp) (o i v : V) (ov iv u : Value) (Q : Hp → Prop), Inv X pins σ H s → RelV o ov → RelV i iv → RelV v u → t o i v H Q →
    wpAny (model X.prog X.w) X.A (setItem ov iv u) (fun _ s' => ∃ H', Inv X pins σ H' s' ∧ Q H') X.xe s
abbrev TIp := V → V → Hp → VK → Prop
def PIp (X : Cx) (op : Operator) (t : TIp) : Prop :=
  ∀ (pins : List (Addr × Obj)) (s : Shared) (σ : St) (H : Hp) (x y : V) (v u : Value) (Q : VK), Inv X pins σ H s → RelV x v → RelV y u → t x y H Q →
    wpAny (model X.prog X.w) X.A (inplaceOp op v u) (EP X pins σ Q) X.xe s
section
variable {X : Cx} {pos : Pos}
def gName (i : Nat) : TG := fun v σ H Q => Q (σ.set i (some v)) H
theorem pg_name {i : Nat} {x : Str} (hN : X.N.Nodup) (hi : X.N[i]? = some x) (hx : Loc X.env.scope x) (hf : X.fn x = true ∨ X.env.scope.names.lookup x = some .local := by first | exact .inl rfl | exact .inr rfl | assumption) : PG X (.Name x pos) (gName i) := by
  intro pins s σ H v u Q I r h
  exact wpAny_assign_Name (store_ok I hN hi hx r (fun s' I' => ⟨_, H, I', h⟩) hf)
def gNil : TGs := fun vs σ H Q => vs = [] ∧ Q σ H
def gCons (t : TG) (u : TGs) : TGs := fun vs σ H Q => ∃ v r, vs = v :: r ∧ t v σ H fun σ' H' => u r σ' H' Q
theorem pgs_nil : PGs X [] gNil := by
  intro pins s σ H vs us Q I r h
  obtain ⟨e, h⟩ := h
  subst e
  cases r
  exact assignInOrder_nil ⟨σ, H, I, h⟩
theorem pgs_cons {e : Expr} {es : List Expr} {t : TG} {u : TGs} (h1 : PG X e t) (h2 : PGs X es u)
    (hs : (assignEach (e :: es) X.env).map (·.2) = assign e X.env :: (assignEach es X.env).map (·.2) := by rfl) : PGs X (e :: es) (gCons t u) := by
  intro pins s σ H vs us Q I r h
  obtain ⟨v, vr, e1, h⟩ := h
  subst e1
  cases r with
  | cons r rr =>
    rw [hs]
    refine assignInOrder_cons (thn (h1 pins s σ H _ _ _ I r h) fun _ s1 ⟨σ1, H1, I1, q1⟩ => ?_)
    exact h2 pins s1 σ1 H1 _ _ Q I1 rr q1
def gTup (K : PySem.W.Frag) (n : Nat) (t : TGs) : TG := fun v σ H Q => ∃ a xs, v = .ref a ∧ SqT K H a xs ∧ xs.length = n ∧ t xs σ H Q
theorem pg_tup {es : List Expr} {k : Nat} {t : TGs} {n : Nat} (hc : X.calm = true) (h : PGs X es t)
    (hn : (assignEach es X.env).length = n := by rfl) (hst : (assignEach es X.env).findIdx? (·.1) = none := by rfl) : PG X (.Tuple es k pos) (gTup X.K n t) := by
  intro pins s σ H v u Q I r hw
  obtain ⟨a, xs, e1, hq, hl, hw⟩ := hw
  subst e1
  cases r
  obtain ⟨its, rv, ht, hz⟩ := I.tuple hq
  refine assign_Tuple_tuple (I.ok.hd hc) ht (by simp [hn, ← hl, rv.length]) hst fun h' hx => ?_
  have I1 : Inv X pins σ H { s with heap := h' } := I.kept (t' := s.toks) fun b o e => hx b o (Nat.ne_of_lt (Heap.lt_size e)) e
  exact h pins _ σ H xs _ Q I1 (by simpa using rv) hw
def gSub (to ti : TE) (t : TSet) : TG := fun v σ H Q => to σ H fun o H1 => ti σ H1 fun i H2 => t o i v H2 fun H3 => Q σ H3
theorem pg_sub {o i : Expr} {to ti : TE} {t : TSet} (ho : PE X o to) (hi : PE X i ti) (hs : PSet X t)
    (ha : ∀ v, assign (.Subscript o i pos) X.env v = (do
      let ov ← holding [v] (eval o X.env)
      let iv ← holding [v, ov] (eval i X.env)
      standAt pos
      holding [v, ov, iv] (setItem ov iv v)
      release [v, ov, iv] []) := by intro _; rfl) : PG X (.Subscript o i pos) (gSub to ti t) := by
  intro pins s σ H v u Q I r h
  rw [ha]
  refine wpAny_bind (wpAny_holding (thn (ho pins s σ H _ I h) fun ov s1 ⟨x, H1, I1, r1, q1⟩ => ?_))
  refine wpAny_bind (wpAny_holding (thn (hi pins s1 σ H1 _ I1 q1) fun iv s2 ⟨y, H2, I2, r2, q2⟩ => ?_))
  refine wpAny_bind (wpAny_standAt (wpAny_bind (wpAny_holding (thn (hs pins s2 σ H2 x y v ov iv u _ I2 r1 r2 r q2) fun _ s3 ⟨H3, I3, q3⟩ => ?_))))
  exact wpAny_release ⟨σ, H3, I3, q3⟩
def tAsg (te : TE) (g : TG) : TS := fun D σ H => te σ H fun x H1 => g x σ H1 D.nx
theorem ps_asg {tg e : Expr} {te : TE} {g : TG} (he : PE X e te) (hg : PG X tg g) (hs : swapsWithSole [tg] e pos.line X.env = pure false := by rfl) (hw : swappedStores [tg] e X.env = pure none := by rfl)
    (h1 : (assignEach [tg] X.env).map (·.2) = [assign tg X.env] := by rfl) : PS X (.Assign [tg] e pos) (tAsg te g) := by
  intro pins s σ H D I h
  refine wpAny_Assign_stores (thn (he pins s σ H _ I h) fun v s1 ⟨x, H1, I1, r1, q1⟩ => ?_) hs hw
  rw [h1]
  exact thn (hg pins s1 σ H1 x v _ I1 r1 q1) fun _ s2 q => q
theorem ps_set {i : Nat} {x : Str} {e : Expr} {te : TE} {pos' : Pos} (hN : X.N.Nodup) (hi : X.N[i]? = some x) (hx : Loc X.env.scope x) (he : PE X e te) (hs : swapsWith e (some (.Name x pos')) pos.line X.env = pure false := by rfl) (hf : X.fn x = true ∨ X.env.scope.names.lookup x = some .local := by first | exact .inl rfl | exact .inr rfl | assumption) :
    PS X (.Assign [.Name x pos'] e pos) (tAsg te (gName i)) := by
  intro pins s σ H D I h
  refine wpAny_Assign_Name (thn (he pins s σ H _ I h) fun v s1 ⟨y, H1, I1, r1, q1⟩ => ?_) hs
  exact store_ok I1 hN hi hx r1 (fun s2 I2 => ⟨_, H1, I2, q1⟩) hf
def tPar (i j : Nat) (ta : TA) : TS := fun D σ H => ta σ H fun vs H1 => ∃ v w, vs = [v, w] ∧ D.nx ((σ.set i (some v)).set j (some w)) H1
theorem ps_par {i j : Nat} {x y : Str} {a b : Expr} {ta : TA} {px py pt : Pos} {kt k2 pt2} (hc : X.calm = true) (hN : X.N.Nodup) (hi : X.N[i]? = some x) (hj : X.N[j]? = some y) (hij : i ≠ j)
    (hx : X.env.scope.names.lookup x = some .local) (hy : X.env.scope.names.lookup y = some .local) (ha : PA X [a, b] ta)
    (hw : swappedStores [.Tuple [.Name x px, .Name y py] kt pt] (.Tuple [a, b] k2 pt2) X.env = pure (some [x, y]))
    (hs : swapsWithSole [.Tuple [.Name x px, .Name y py] kt pt] (.Tuple [a, b] k2 pt2) pos.line X.env = pure false := by rfl) :
    PS X (.Assign [.Tuple [.Name x px, .Name y py] kt pt] (.Tuple [a, b] k2 pt2) pos) (tPar i j ta) := by
  intro pins s σ H D I h
  rw [exec_Assign_arm]
  refine wpAny_bind (wpAny_standAt ?_)
  rw [hs]
  refine wpAny_bind (wpAny_pure ?_)
  rw [if_neg (by decide)]
  refine wpAny_bind (Tuple_ (thn (ha _ pins s σ H _ I h) fun us s1 ⟨vs, H1, I1, r1, q1⟩ => ?_))
  obtain ⟨v, w, e1, q1⟩ := q1
  subst e1
  obtain ⟨u1, u2, rfl, rv, rw'⟩ : ∃ u1 u2, us = [u1, u2] ∧ RelV v u1 ∧ RelV w u2 := by
    cases r1 with
    | cons p q =>
      cases q with
      | cons p' q' =>
        cases q'
        exact ⟨_, _, rfl, p, p'⟩
  refine wpAny_newObj_type ?_ (by show 2 ≤ sizeLine; decide)
  have I2 : Inv X pins σ H1 { s1 with heap := s1.heap.push { cls := .type "tuple", data := .seq [u1, u2].toArray } } := I1.kept (t' := s1.toks) fun b o e => Heap.get?_push_of_some _ e
  rw [hw]
  refine wpAny_bind (wpAny_pure ?_)
  show wpAny (model X.prog X.w) X.A (do rule "assign.swapped-stores"; let items ← unpackItems (.ref s1.heap.objs.size) 2 none; assignInOrder [fun v => bindName X.env y v, fun v => bindName X.env x v] items.reverse; pure Flow.next) _ _ _
  refine wpAny_bind (wpAny_rule (wpAny_bind (unpackItems_tuple (items := #[u1, u2]) (I.ok.hd hc) (IsTup.new s1.heap _) fun h' hx' => ?_)))
  have I3 := I2.kept (h' := h') (t' := s1.toks) fun b o e => hx' b o (Nat.ne_of_lt (Heap.lt_size e)) e
  show wpAny _ _ (assignInOrder [fun v => bindName X.env y v, fun v => bindName X.env x v] [u2, u1] >>= fun _ => pure Flow.next) _ _ _
  refine wpAny_bind (assignInOrder_cons (wpAny_bindName (store_ok I3 hN hj (.inl hy) rw' (fun s2 I4 => ?_) (.inr hy))))
  refine assignInOrder_cons (wpAny_bindName (store_ok I4 hN hi (.inl hx) rv (fun s3 I5 => assignInOrder_nil (wpAny_pure ?_)) (.inr hx)))
  rw [List.set_comm _ _ (Ne.symm hij)] at I5
  exact ⟨_, H1, I5, q1⟩
def tAugS (to ti te : TE) (tget : V → V → Hp → VK → Prop) (tip : TIp) (tset : TSet) : TS := fun D σ H => to σ H fun o H1 => ti σ H1 fun i H2 => tget o i H2 fun x H3 => te σ H3 fun y H4 => tip x y H4 fun z H5 => tset o i z H5 fun H6 => D.nx σ H6
def PGet (X : Cx) (t : V → V → Hp → VK → Prop) : Prop :=
  ∀ (pins : List (Addr × Obj)) (s : Shared) (σ : St) (H : Hp) (o i : V) (ov iv : Value) (Q : VK), Inv X pins σ H s → RelV o ov → RelV i iv → t o i H Q →
    wpAny (model X.prog X.w) X.A (getItem ov iv) (EP X pins σ Q) X.xe s
theorem ps_augS {o i e : Expr} {to ti te : TE} {tget : V → V → Hp → VK → Prop} {tip : TIp} {tset : TSet} {op : Operator} {tpos : Pos} (ho : PE X o to) (hi : PE X i ti) (hg : PGet X tget) (he : PE X e te) (hp : PIp X op tip) (hs : PSet X tset)
    (ha : ∀ ov iv new, augStore i ov iv new = (do holding [new, ov, iv] (setItem ov iv new); release [new, ov, iv] []; pure .next) := by intros; rfl) : PS X (.AugAssign (.Subscript o i tpos) op e pos) (tAugS to ti te tget tip tset) := by
  intro pins s σ H D I h
  refine wpAny_AugAssign_SubscriptAny (thn (ho pins s σ H _ I h) fun ov s1 ⟨x1, H1, I1, r1, q1⟩ => ?_) ha
  refine thn (hi pins s1 σ H1 _ I1 q1) fun iv s2 ⟨x2, H2, I2, r2, q2⟩ => ?_
  refine thn (hg pins s2 σ H2 x1 x2 ov iv _ I2 r1 r2 q2) fun old s3 ⟨x3, H3, I3, r3, q3⟩ => ?_
  refine thn (he pins s3 σ H3 _ I3 q3) fun v s4 ⟨x4, H4, I4, r4, q4⟩ => ?_
  refine thn (hp pins s4 σ H4 x3 x4 old v _ I4 r3 r4 q4) fun new s5 ⟨x5, H5, I5, r5, q5⟩ => ?_
  exact thn (hs pins s5 σ H5 x1 x2 x5 ov iv new _ I5 r1 r2 r5 q5) fun _ s6 ⟨H6, I6, q6⟩ => ⟨σ, H6, I6, q6⟩
def ipI (f : Int → Int → Int) : TIp := fun x y H Q => ∃ i j, x = .int i ∧ y = .int j ∧ Q (.int (f i j)) H
theorem ip_sub : PIp X .Sub (ipI fun i j => i - j) := by
  intro pins s σ H x y v u Q I r1 r2 h
  obtain ⟨i, j, e1, e2, q⟩ := h
  subst e1; subst e2
  obtain ⟨t, rfl⟩ := r1
  obtain ⟨t', rfl⟩ := r2
  exact isub_int ⟨.int _, H, I.tok _, ⟨_, rfl⟩, q⟩
end

section
variable {X : Cx} {pos : Pos}
def tWhile (c : TT) (tb : TS) : TS := fun D σ H => ∃ W : Nat → St → Hp → Prop, (∃ m, W m σ H) ∧ ∀ m σ H, W m σ H →
  c σ H fun b H1 => if b = true then ∃ N : St → Hp → Prop, (∀ σ' H', N σ' H' → ∃ m', m' < m ∧ W m' σ' H') ∧ tb { D with nx := N, ct := N, bk := D.nx } σ H1 else D.nx σ H1
theorem ps_while {c : Expr} {body : List Stmt} {tc : TT} {tb : TS} (hp : PassesOwn (model X.prog X.w) X.A X.env X.xe) (hc : PT X c tc) (hb : PSs X body tb) : PS X (.While c body [] pos) (tWhile tc tb) := by
  intro pins s σ H D I h
  obtain ⟨W, ⟨m0, w0⟩, turn⟩ := h
  refine wpAny_While (codeAny_whileLoop (fun n s' => ∃ σ' H', Inv X pins σ' H' s' ∧ W n σ' H') ?_ m0 ⟨σ, H, I, w0⟩)
  rintro n s1 ⟨σ1, H1, I1, w1⟩
  refine wpAny_passesOwn hp (thn (hc pins s1 σ1 H1 _ I1 (turn n σ1 H1 w1)) fun b s2 ⟨H2, I2, q2⟩ => ?_)
  cases b with
  | true =>
    obtain ⟨N, hN, q2⟩ := q2
    rw [if_pos rfl]
    refine wpAny_passesOwn hp (thn (hb pins s2 σ1 H2 _ I2 q2) fun f s3 q3 => ?_)
    cases f with
    | next =>
      obtain ⟨σ3, H3, I3, n3⟩ := q3
      obtain ⟨m', hm, w3⟩ := hN σ3 H3 n3
      exact ⟨m', hm, σ3, H3, I3, w3⟩
    | cont =>
      obtain ⟨σ3, H3, I3, n3⟩ := q3
      obtain ⟨m', hm, w3⟩ := hN σ3 H3 n3
      exact ⟨m', hm, σ3, H3, I3, w3⟩
    | brk => exact q3
    | ret v => exact q3
  | false =>
    rw [if_neg Bool.false_ne_true]
    exact wpAny_execs_nil ⟨σ1, H2, I2, q2⟩
end

structure It where
  go : Nat → Hp → Prop
  yld : Nat → Hp → V → Hp → Prop
  stop : Nat → Hp → Prop
def FpOk (X : Cx) (pins : List (Addr × Obj)) (H : Hp) (b : Addr) : Prop :=
  H b = none ∧ b ≠ X.env.locals ∧ b ∉ X.fs ∧ (b ∈ X.ex ∨ X.s₀.heap.objs.size ≤ b) ∧ (∀ x c, X.env.cells.lookup x = some c → c ≠ b) ∧ ∀ p ∈ X.pn ++ pins, p.1 ≠ b
theorem Inv.fpOk {X : Cx} {pins : List (Addr × Obj)} {σ : St} {H H' : Hp} {s : Shared} {b : Addr} (I : Inv X pins σ H s) (hb : s.heap.objs.size ≤ b) (hn : H' b = none) : FpOk X pins H' b := by
  refine ⟨hn, Nat.ne_of_gt (Nat.lt_of_lt_of_le I.lt hb), I.nofs hb, .inr (Nat.le_trans I.sz hb), fun x c e z => ?_, fun p hp z => ?_⟩
  · obtain ⟨v, q⟩ := I.cell x c e
    exact absurd (Nat.lt_of_lt_of_le q.lt (by rw [z]; exact hb)) (Nat.lt_irrefl _)
  · exact absurd (Nat.lt_of_lt_of_le (Heap.lt_size (I.pin p hp).1) (by rw [z]; exact hb)) (Nat.lt_irrefl _)
structure Turn (P : Program) (w : World) (K : PySem.W.Frag) (tg : Expr) (J : It) (fp : List Addr) (it : Addr) (tn : Nat → Heap → Prop) : Prop where
  mem : it ∈ fp
  obj : ∀ i h, tn i h → ∀ b ∈ fp, ∃ o, h.get? b = some o ∧ ∀ v, o.data ≠ .cell v
  keep : ∀ i h h', tn i h → (∀ b ∈ fp, ∀ o, h.get? b = some o → h'.get? b = some o) → tn i h'
  item : ∀ (X : Cx), X.prog = P → X.w = w → X.K = K → X.calm = true → ∀ (i : Nat) (pins : List (Addr × Obj)) (s : Shared) (σ : St) (H : Hp) (E : Value → Shared → Prop), Inv X pins σ H s → (∀ b ∈ fp, FpOk X pins H b) → tn i s.heap → J.go i H →
    wpAny (model P w) X.A (pyNext (.ref it)) (fun r s1 => ∃ u, r = some u ∧
      wpAny (model P w) X.A (letOwnedTupleGo tg (.ref it) u) (fun _ s2 => ∃ x H', Inv X pins σ H' s2 ∧ RelV x u ∧ J.yld i H x H' ∧ tn (i + 1) s2.heap ∧ ∀ b ∈ fp, H' b = none) E s1) E s
  done : ∀ (X : Cx), X.prog = P → X.w = w → X.K = K → X.calm = true → ∀ (i : Nat) (pins : List (Addr × Obj)) (s : Shared) (σ : St) (H : Hp) (E : Value → Shared → Prop), Inv X pins σ H s → (∀ b ∈ fp, FpOk X pins H b) → tn i s.heap → J.stop i H →
    wpAny (model P w) X.A (pyNext (.ref it)) (fun r s1 => r = none ∧ Inv X pins σ H s1) E s
  self : ∀ (A : Around) (i : Nat) (s : Shared) (Q : Value → Shared → Prop) (E : Value → Shared → Prop), tn i s.heap → Q (.ref it) s → wpAny (model P w) A (pyIter (.ref it)) Q E s
abbrev TI := St → Hp → (It → Hp → Prop) → Prop
def PIE (X : Cx) (pins : List (Addr × Obj)) (σ : St) (tg : Expr) (R : It → Hp → Prop) (itv : Value) (s2 : Shared) : Prop :=
  ∃ (it : Addr) (fp : List Addr) (tn : Nat → Heap → Prop) (J : It) (H' : Hp), itv = .ref it ∧ Inv X pins σ H' s2 ∧ Turn X.prog X.w X.K tg J fp it tn ∧ tn 0 s2.heap ∧ (∀ b ∈ fp, FpOk X pins H' b) ∧ R J H'
def PI (X : Cx) (tg iter : Expr) (wi : TI) : Prop :=
  ∀ (pins : List (Addr × Obj)) (s : Shared) (σ : St) (H : Hp) (R : It → Hp → Prop), Inv X pins σ H s → wi σ H R →
    wpAny (model X.prog X.w) X.A (eval iter X.env) (fun v s1 => wpAny (model X.prog X.w) X.A (pyIter v) (PIE X pins σ tg R) X.xe s1) X.xe s

theorem go_of {M : Model} {A : Around} {E : Value → Shared → Prop} {s : Shared} {tg : Expr} {it : Addr} {u : Value} {o : Obj} {n : String} {vs : Array Value} {Q : Unit → Shared → Prop} (ho : s.heap.get? it = some o) (hc : o.cls = .type n) (hd : o.data = .fields vs)
    (hn : ["enumerate", "zip", "dict_itemiterator", "dict_reverseitemiterator", "odict_iterator", "itertools.zip_longest", "itertools.pairwise"].contains n = false) (hQ : Q () s) : wpAny M A (letOwnedTupleGo tg (.ref it) u) Q E s := by
  unfold letOwnedTupleGo
  cases tg <;> first
    | exact wpAny_pure hQ
    | (cases u <;> first
        | exact wpAny_pure hQ
        | (refine wpAny_bind (wpAny_load ho ?_)
           rw [hc, hd]
           show wpAny M A (if (["enumerate", "zip", "dict_itemiterator", "dict_reverseitemiterator", "odict_iterator", "itertools.zip_longest", "itertools.pairwise"].contains n && vs[0]? == some (rawInt _)) = true then _ else _) Q E s
           rw [if_neg (by intro h; rw [hn, Bool.false_and] at h; cases h)]
           exact wpAny_pure hQ))

def Itl (K : PySem.W.Frag) (a : Addr) : It :=
  ⟨fun i H => ∃ xs x, SqL K H a xs ∧ xs[i]? = some x, fun i H x H' => H' = H ∧ ∀ xs, SqL K H a xs → xs[i]? = some x, fun i H => ∃ xs, SqL K H a xs ∧ xs.length ≤ i⟩
def Itt (K : PySem.W.Frag) (a : Addr) : It :=
  ⟨fun i H => ∃ xs x, SqT K H a xs ∧ xs[i]? = some x, fun i H x H' => H' = H ∧ ∀ xs, SqT K H a xs → xs[i]? = some x, fun i H => ∃ xs, SqT K H a xs ∧ xs.length ≤ i⟩
def Itr (lo : Int) (n : Nat) : It := ⟨fun i _ => i < n, fun i H x H' => H' = H ∧ x = .int (lo + i), fun i _ => n ≤ i⟩
theorem turn_list {P : Program} {w : World} {K : PySem.W.Frag} {tg : Expr} (a it : Addr) : Turn P w K tg (Itl K a) [it] it (fun i h => h.IsListIter it a i) where
  mem := by simp
  obj := fun i h st b hb => by
    have e : b = it := by simpa using hb
    subst e
    obtain ⟨o, e, c, d⟩ := st
    exact ⟨o, e, fun v z => by rw [d] at z; cases z⟩
  keep := fun i h h' st k => st.at fun o e => k it (by simp) o e
  item := by
    intro X hP hw hK hc i pins s σ H E I hf st hg
    subst hP hw hK
    obtain ⟨xs, x, hq, hx⟩ := hg
    obtain ⟨its, rv, p, hz⟩ := I.list hq
    obtain ⟨u, hu, ru⟩ := rv.get hx
    obtain ⟨f0, f1, f2, f3, f4, f5⟩ := hf it (by simp)
    refine wpAny_pyNext_list_item st p.isList (x := u) (by simpa using hu) fun h' st' sb => ?_
    have I1 : Inv X pins σ H { s with heap := h' } := I.turned (t' := s.toks) (fun b o hb e => (sb.2 b hb).trans e) f0 f1 f3 f4 f5
    obtain ⟨o, e, c, d⟩ := id st'
    exact ⟨u, rfl, go_of (s := { s with heap := h' }) e c d (by decide) ⟨x, H, I1, ru, ⟨rfl, fun ys hy => by rw [I.list_inj hy hq]; exact hx⟩, st', fun b hb => (hf b hb).1⟩⟩
  done := by
    intro X hP hw hK hc i pins s σ H E I hf st hg
    subst hP hw hK
    obtain ⟨xs, hq, hx⟩ := hg
    obtain ⟨its, rv, p, hz⟩ := I.list hq
    obtain ⟨f0, f1, f2, f3, f4, f5⟩ := hf it (by simp)
    have hl := rv.length
    exact wpAny_pyNext_list_end (I.ok.hd hc) st p.isList (by simp; omega) fun h' eb => ⟨rfl, I.turned (t' := s.toks) (fun b o hb e => eb b o hb e) f0 f1 f3 f4 f5⟩
  self := fun _ _ _ _ _ st h => wpAny_pyIter_listiter st h
theorem turn_tuple {P : Program} {w : World} {K : PySem.W.Frag} {tg : Expr} (a it : Addr) : Turn P w K tg (Itt K a) [it] it (fun i h => h.IsTupleIter it a i) where
  mem := by simp
  obj := fun i h st b hb => by
    have e : b = it := by simpa using hb
    subst e
    obtain ⟨o, e, c, d⟩ := st
    exact ⟨o, e, fun v z => by rw [d] at z; cases z⟩
  keep := fun i h h' st k => st.at fun o e => k it (by simp) o e
  item := by
    intro X hP hw hK hc i pins s σ H E I hf st hg
    subst hP hw hK
    obtain ⟨xs, x, hq, hx⟩ := hg
    obtain ⟨its, rv, p, hz⟩ := I.tuple hq
    obtain ⟨u, hu, ru⟩ := rv.get hx
    obtain ⟨f0, f1, f2, f3, f4, f5⟩ := hf it (by simp)
    refine wpAny_pyNext_tuple_item st (show s.heap.IsTuple a its.toArray from p) (x := u) (by simpa using hu) fun h' st' sb => ?_
    have I1 : Inv X pins σ H { s with heap := h' } := I.turned (t' := s.toks) (fun b o hb e => (sb.2 b hb).trans e) f0 f1 f3 f4 f5
    obtain ⟨o, e, c, d⟩ := id st'
    exact ⟨u, rfl, go_of (s := { s with heap := h' }) e c d (by decide) ⟨x, H, I1, ru, ⟨rfl, fun ys hy => by rw [I.tuple_inj hy hq]; exact hx⟩, st', fun b hb => (hf b hb).1⟩⟩
  done := by
    intro X hP hw hK hc i pins s σ H E I hf st hg
    subst hP hw hK
    obtain ⟨xs, hq, hx⟩ := hg
    obtain ⟨its, rv, p, hz⟩ := I.tuple hq
    obtain ⟨f0, f1, f2, f3, f4, f5⟩ := hf it (by simp)
    have hl := rv.length
    exact wpAny_pyNext_tuple_end (I.ok.hd hc) st (show s.heap.IsTuple a its.toArray from p) (by simp; omega) fun h' eb => ⟨rfl, I.turned (t' := s.toks) (fun b o hb e => eb b o hb e) f0 f1 f3 f4 f5⟩
  self := fun _ _ _ _ _ st h => wpAny_pyIter_tupleiter st h
theorem turn_range {P : Program} {w : World} {K : PySem.W.Frag} {tg : Expr} (it : Addr) (lo : Int) (n : Nat) : Turn P w K tg (Itr lo n) [it] it (fun i h => IsRangeIter h it (lo + (i : Nat) * 1) ((n : Int) - (i : Nat)) 1) where
  mem := by simp
  obj := fun i h st b hb => by
    have e : b = it := by simpa using hb
    subst e
    exact ⟨_, st, fun v z => by
      have z' : Data.fields _ = Data.cell v := z
      cases z'⟩
  keep := fun i h h' st k => k it (by simp) _ st
  item := by
    intro X hP hw hK hc i pins s σ H E I hf st hg
    subst hP hw hK
    obtain ⟨f0, f1, f2, f3, f4, f5⟩ := hf it (by simp)
    have W := Walks.range (prog := X.prog) (w := X.w) (I.ok.hd hc) it lo 1 n
    refine W.item i s _ _ hg st fun v h' tk hv st' kk => ?_
    obtain ⟨t, rfl⟩ := hv
    have I1 : Inv X pins σ H { s with heap := h', toks := tk } := I.turned (fun b o hb e => kk b o (by simpa using hb) e) f0 f1 f3 f4 f5
    refine ⟨_, rfl, go_of (s := { s with heap := h', toks := tk }) (n := "range_iterator") st' rfl rfl (by decide) ⟨.int (lo + i), H, I1, ⟨t, ?_⟩, ⟨rfl, rfl⟩, st', fun b hb => (hf b hb).1⟩⟩
    rw [Int.mul_one]
  done := by
    intro X hP hw hK hc i pins s σ H E I hf st hg
    subst hP hw hK
    obtain ⟨f0, f1, f2, f3, f4, f5⟩ := hf it (by simp)
    exact wpAny_pyNext_range_end (I.ok.hd hc) st (by have : n ≤ i := hg; omega) fun h' eb => ⟨rfl, I.turned (t' := s.toks) (fun b o hb e => eb b o hb e) f0 f1 f3 f4 f5⟩
  self := fun _ _ _ _ _ st h => wpAny_pyIter_rangeiter st h
end L2

namespace L2
open PySem PySem.Spec PyProof.Rows
section
variable {X : Cx} {tg : Expr}
def iList (K : PySem.W.Frag) (tl : TE) : TI := fun σ H R => tl σ H fun x H1 => ∃ a, x = .ref a ∧ (∃ xs, SqL K H1 a xs) ∧ R (Itl K a) H1
def iTup (K : PySem.W.Frag) (tl : TE) : TI := fun σ H R => tl σ H fun x H1 => ∃ a, x = .ref a ∧ (∃ xs, SqT K H1 a xs) ∧ R (Itt K a) H1
theorem pi_list {l : Expr} {tl : TE} (hl : PE X l tl) : PI X tg l (iList X.K tl) := by
  intro pins s σ H R I h
  refine thn (hl pins s σ H _ I h) fun v s1 ⟨x, H1, I1, r1, q1⟩ => ?_
  obtain ⟨a, e, ⟨xs, hq⟩, q⟩ := q1
  subst e
  cases r1
  obtain ⟨its, rv, p, hz⟩ := I1.list hq
  refine wpAny_pyIter_list p.isList ?_
  refine ⟨s1.heap.objs.size, [s1.heap.objs.size], _, _, H1, rfl, I1.kept (t' := s1.toks) fun b o e => Heap.get?_push_of_some _ e, turn_list a _, ⟨_, Heap.get?_push_size _ rfl, rfl, rfl⟩, fun b hb => ?_, q⟩
  have e : b = s1.heap.objs.size := by simpa using hb
  subst e
  exact I1.fpOk (Nat.le_refl _) (I1.hok.fresh (Nat.le_refl _))
theorem pi_tup {l : Expr} {tl : TE} (hl : PE X l tl) : PI X tg l (iTup X.K tl) := by
  intro pins s σ H R I h
  refine thn (hl pins s σ H _ I h) fun v s1 ⟨x, H1, I1, r1, q1⟩ => ?_
  obtain ⟨a, e, ⟨xs, hq⟩, q⟩ := q1
  subst e
  cases r1
  obtain ⟨its, rv, p, hz⟩ := I1.tuple hq
  refine wpAny_pyIter_tuple (show s1.heap.IsTuple a its.toArray from p) ?_
  refine ⟨s1.heap.objs.size, [s1.heap.objs.size], _, _, H1, rfl, I1.kept (t' := s1.toks) fun b o e => Heap.get?_push_of_some _ e, turn_tuple a _, ⟨_, Heap.get?_push_size _ rfl, rfl, rfl⟩, fun b hb => ?_, q⟩
  have e : b = s1.heap.objs.size := by simpa using hb
  subst e
  exact I1.fpOk (Nat.le_refl _) (I1.hok.fresh (Nat.le_refl _))
theorem range_it {pins : List (Addr × Obj)} {σ : St} {H : Hp} {s : Shared} {R : It → Hp → Prop} {E : Value → Shared → Prop} {lo hi : Int} {t u v : Tok} {tk : Nat} (I : Inv X pins σ H s) (h1 : -(2 ^ 62) ≤ lo) (h2 : lo < 2 ^ 62) (h3 : -(2 ^ 62) ≤ hi) (h4 : hi < 2 ^ 62)
    (q : R (Itr lo (hi - lo).toNat) H) : wpAny (model X.prog X.w) X.A (pyIter (.ref s.heap.objs.size)) (PIE X pins σ tg R) E { s with heap := s.heap.push { cls := .type "range", data := .fields #[.int lo t, .int hi u, .int 1 v] }, toks := tk } := by
  refine wpAny_pyIter_range (IsRange.new ..) (small_one h1 h2 h3 h4) ?_
  have I1 : Inv X pins σ H { s with heap := s.heap.push { cls := .type "range", data := .fields #[.int lo t, .int hi u, .int 1 v] }, toks := tk } := I.kept fun b o e => Heap.get?_push_of_some _ e
  refine ⟨(s.heap.push { cls := .type "range", data := .fields #[.int lo t, .int hi u, .int 1 v] }).objs.size, [(s.heap.push { cls := .type "range", data := .fields #[.int lo t, .int hi u, .int 1 v] }).objs.size], _, _, H, rfl,
    I1.kept (t' := tk) fun b o e => Heap.get?_push_of_some _ e, turn_range _ lo (hi - lo).toNat, ?_, fun b hb => ?_, q⟩
  · have e1 : lo + ((0 : Nat) : Int) * 1 = lo := by simp
    have e2 : (((hi - lo).toNat : Nat) : Int) - ((0 : Nat) : Int) = Builtin.Range.rangeSize lo hi 1 := by rw [rangeSize_one]; split <;> omega
    show IsRangeIter _ _ (lo + ((0 : Nat) : Int) * 1) ((((hi - lo).toNat : Nat) : Int) - ((0 : Nat) : Int)) 1
    rw [e1, e2]
    exact Heap.get?_push_size _ rfl
  · have e : b = (s.heap.push { cls := .type "range", data := .fields #[.int lo t, .int hi u, .int 1 v] }).objs.size := by simpa using hb
    subst e
    exact I1.fpOk (Nat.le_refl _) (I1.hok.fresh (Nat.le_refl _))
def iRng1 (ta : TA) : TI := fun σ H R => ta σ H fun vs H1 => ∃ j : Int, vs = [.int j] ∧ -(2 ^ 62) ≤ j ∧ j < 2 ^ 62 ∧ R (Itr 0 j.toNat) H1
theorem pi_range1 {a : Expr} {ta : TA} {p pos : Pos} (hg : Gl X "range") (hm : X.mg "range" = none) (ha : PA X [a] ta) (hs : starEach [a] X.env = [(false, eval a X.env)] := by rfl) : PI X tg (.Call (.Name "range" p) [a] [] pos) (iRng1 ta) := by
  intro pins s σ H R I h
  refine Call_ (ld_blt I hg hm boot_range (PyProof.Rows.callWith_type1 (thn (ha pos pins s σ H _ I h) fun us s1 ⟨vs, H1, I1, r1, q1⟩ => ?_) hs rfl))
  obtain ⟨j, e, q1, q2, q⟩ := q1
  subst e
  cases r1 with
  | cons r rr =>
    cases rr
    obtain ⟨t, rfl⟩ := r
    exact call_range_1 (range_it I1 (by omega) (by omega) q1 q2 (by simpa using q))
def tFor (wi : TI) (g : TG) (tb : TS) : TS := fun D σ H => wi σ H fun J H1 => ∃ W : Nat → Nat → St → Hp → Prop, (∃ m, W 0 m σ H1) ∧ ∀ i m σ H, W i m σ H →
  (J.stop i H ∧ D.nx σ H) ∨ (J.go i H ∧ ∃ N : St → Hp → Prop, (∀ σ' H', N σ' H' → ∃ m', m' < m ∧ W (i + 1) m' σ' H') ∧ ∀ x H', J.yld i H x H' → g x σ H' fun σ2 H2 => tb { D with nx := N, ct := N, bk := D.nx } σ2 H2)
def pinsAt (fp : List Addr) (h : Heap) : List (Addr × Obj) := fp.filterMap fun b => (h.get? b).map fun o => (b, o)
theorem mem_pinsAt {fp : List Addr} {h : Heap} {b : Addr} {o : Obj} (hb : b ∈ fp) (e : h.get? b = some o) : (b, o) ∈ pinsAt fp h := List.mem_filterMap.mpr ⟨b, hb, by rw [e]; rfl⟩
theorem of_pinsAt {fp : List Addr} {h : Heap} {p : Addr × Obj} (hp : p ∈ pinsAt fp h) : p.1 ∈ fp ∧ h.get? p.1 = some p.2 := by
  obtain ⟨b, hb, e⟩ := List.mem_filterMap.mp hp
  cases q : h.get? b with
  | none => rw [q] at e; cases e
  | some o =>
    rw [q] at e
    have e' : (b, o) = p := Option.some.inj e
    subst e'
    exact ⟨hb, q⟩
theorem Inv.pinned {pins : List (Addr × Obj)} {σ : St} {H : Hp} {s : Shared} {fp : List Addr} (I : Inv X pins σ H s) (hf : ∀ b ∈ fp, FpOk X pins H b) (ho : ∀ b ∈ fp, ∃ o, s.heap.get? b = some o ∧ ∀ v, o.data ≠ .cell v) : Inv X (pins ++ pinsAt fp s.heap) σ H s :=
  I.pins_of fun p hp => (List.mem_append.mp hp).elim (fun z => I.pin p (List.mem_append_right _ z)) fun z => by
    obtain ⟨hb, e⟩ := of_pinsAt z
    obtain ⟨f0, f1, f2, _⟩ := hf p.1 hb
    obtain ⟨o, e', d⟩ := ho p.1 hb
    rw [e] at e'; cases e'
    exact ⟨e, f0, f1, f2, d⟩
theorem Inv.unpinned {pins pl : List (Addr × Obj)} {σ : St} {H : Hp} {s : Shared} (I : Inv X (pins ++ pl) σ H s) : Inv X pins σ H s := I.pins_of fun p hp => I.pin p (List.mem_append_right _ (List.mem_append_left _ hp))
theorem ps_for {iter : Expr} {body : List Stmt} {wi : TI} {g : TG} {tb : TS} {pos : Pos} (hp : PassesOwn (model X.prog X.w) X.A X.env X.xe) (hc : X.calm = true) (hi : PI X tg iter wi) (hg : PG X tg g) (hb : PSs X body tb)
    (hs : ∀ x, foldedSetIterable iter X.env x = pure x := by intro _; rfl) : PS X (.For tg iter body [] pos) (tFor wi g tb) := by
  intro pins s σ H D I h
  refine wpAny_For (thn (hi pins s σ H _ I h) fun v s1 h1 => thn h1 fun itv s2 h2 => ?_) hs
  obtain ⟨it, fp, tn, J, H2, e, I2, T, st2, f2, W, ⟨m0, w0⟩, turn⟩ := h2
  subst e
  have stat : ∀ {H' : Hp}, (∀ b ∈ fp, H' b = none) → ∀ b ∈ fp, FpOk X pins H' b := fun hn b hb => ⟨hn b hb, (f2 b hb).2⟩
  refine codeAny_forLoop_any (fun n s' => ∃ i σ' H', Inv X pins σ' H' s' ∧ tn i s'.heap ∧ (∀ b ∈ fp, H' b = none) ∧ W i n σ' H') ?_ m0 ⟨0, σ, H2, I2, st2, fun b hb => (f2 b hb).1, w0⟩
  rintro n s3 ⟨i, σ3, H3, I3, st3, fr3, w3⟩
  rcases turn i n σ3 H3 w3 with ⟨stop, qn⟩ | ⟨go, N, hN, step⟩
  · refine wpAny_passesOwn hp (thn (T.done X rfl rfl rfl hc i pins s3 σ3 H3 X.xe I3 (stat fr3) st3 stop) fun r s4 ⟨hr, I4⟩ => ?_)
    subst hr
    exact wpAny_execs_nil ⟨σ3, H3, I4, qn⟩
  · refine wpAny_passesOwn hp (thn (T.item X rfl rfl rfl hc i pins s3 σ3 H3 X.xe I3 (stat fr3) st3 go) fun r s4 ⟨u, hr, h4⟩ => ?_)
    subst hr
    refine wpAny_passesOwn hp (thn h4 fun _ s5 ⟨x, H5, I5, r5, y5, st5, fr5⟩ => ?_)
    have I5' := I5.pinned (stat fr5) (T.obj _ _ st5)
    refine wpAny_passesOwn hp (thn (hg _ s5 σ3 H5 x u _ I5' r5 (step x H5 y5)) fun _ s6 ⟨σ6, H6, I6, q6⟩ => ?_)
    refine wpAny_passesOwn hp (thn (hb _ s6 σ6 H6 _ I6 q6) fun f s7 q7 => ?_)
    have again : ∀ {σ7 : St} {H7 : Hp}, Inv X (pins ++ pinsAt fp s5.heap) σ7 H7 s7 → N σ7 H7 → ∃ m, m < n ∧ ∃ i σ' H', Inv X pins σ' H' s7 ∧ tn i s7.heap ∧ (∀ b ∈ fp, H' b = none) ∧ W i m σ' H' := fun {σ7 H7} I7 n7 => by
      obtain ⟨m', hm, w7⟩ := hN σ7 H7 n7
      refine ⟨m', hm, i + 1, σ7, H7, I7.unpinned, T.keep _ _ _ st5 fun b hb o e => (I7.pin (b, o) (List.mem_append_right _ (List.mem_append_right _ (mem_pinsAt hb e)))).1, fun b hb => ?_, w7⟩
      obtain ⟨o, e, d⟩ := T.obj _ _ st5 b hb
      exact (I7.pin (b, o) (List.mem_append_right _ (List.mem_append_right _ (mem_pinsAt hb e)))).2.1
    cases f with
    | next => obtain ⟨σ7, H7, I7, n7⟩ := q7; exact again I7 n7
    | cont => obtain ⟨σ7, H7, I7, n7⟩ := q7; exact again I7 n7
    | brk => obtain ⟨σ7, H7, I7, q7⟩ := q7; exact ⟨σ7, H7, I7.unpinned, q7⟩
    | ret v => obtain ⟨x7, σ7, H7, I7, r7, q7⟩ := q7; exact ⟨x7, σ7, H7, I7.unpinned, r7, q7⟩
end

theorem for_list {K : PySem.W.Frag} {a : Addr} {xs : List V} {g : TG} {tb : TS} {D : Ends} {σ : St} {H : Hp} (Pv : Nat → St → Hp → Prop) (h0 : Pv 0 σ H) (hl : ∀ i σ H, i ≤ xs.length → Pv i σ H → SqL K H a xs)
    (hs : ∀ i x σ H, xs[i]? = some x → Pv i σ H → g x σ H fun σ2 H2 => tb { D with nx := Pv (i + 1), ct := Pv (i + 1), bk := D.nx } σ2 H2) (hd : ∀ σ H, Pv xs.length σ H → D.nx σ H) :
    ∃ W : Nat → Nat → St → Hp → Prop, (∃ m, W 0 m σ H) ∧ ∀ i m σ H, W i m σ H →
      ((Itl K a).stop i H ∧ D.nx σ H) ∨ ((Itl K a).go i H ∧ ∃ N : St → Hp → Prop, (∀ σ' H', N σ' H' → ∃ m', m' < m ∧ W (i + 1) m' σ' H') ∧ ∀ x H', (Itl K a).yld i H x H' → g x σ H' fun σ2 H2 => tb { D with nx := N, ct := N, bk := D.nx } σ2 H2) := by
  refine ⟨fun i m σ H => m = xs.length - i ∧ i ≤ xs.length ∧ Pv i σ H, ⟨xs.length, by simp, Nat.zero_le _, h0⟩, ?_⟩
  rintro i m σ H ⟨rfl, hi, p⟩
  have q := hl i σ H hi p
  by_cases hlt : i < xs.length
  · refine .inr ⟨⟨xs, xs[i], q, by simp [hlt]⟩, Pv (i + 1), fun σ' H' p' => ⟨xs.length - (i + 1), by omega, rfl, hlt, p'⟩, fun x H' y => ?_⟩
    obtain ⟨e, y⟩ := y
    subst e
    exact hs i x σ _ (y xs q) p
  · have e : i = xs.length := by omega
    subst e
    exact .inl ⟨⟨xs, q, Nat.le_refl _⟩, hd σ H p⟩
theorem for_tup {K : PySem.W.Frag} {a : Addr} {xs : List V} {g : TG} {tb : TS} {D : Ends} {σ : St} {H : Hp} (Pv : Nat → St → Hp → Prop) (h0 : Pv 0 σ H) (hl : ∀ i σ H, i ≤ xs.length → Pv i σ H → SqT K H a xs)
    (hs : ∀ i x σ H, xs[i]? = some x → Pv i σ H → g x σ H fun σ2 H2 => tb { D with nx := Pv (i + 1), ct := Pv (i + 1), bk := D.nx } σ2 H2) (hd : ∀ σ H, Pv xs.length σ H → D.nx σ H) :
    ∃ W : Nat → Nat → St → Hp → Prop, (∃ m, W 0 m σ H) ∧ ∀ i m σ H, W i m σ H →
      ((Itt K a).stop i H ∧ D.nx σ H) ∨ ((Itt K a).go i H ∧ ∃ N : St → Hp → Prop, (∀ σ' H', N σ' H' → ∃ m', m' < m ∧ W (i + 1) m' σ' H') ∧ ∀ x H', (Itt K a).yld i H x H' → g x σ H' fun σ2 H2 => tb { D with nx := N, ct := N, bk := D.nx } σ2 H2) := by
  refine ⟨fun i m σ H => m = xs.length - i ∧ i ≤ xs.length ∧ Pv i σ H, ⟨xs.length, by simp, Nat.zero_le _, h0⟩, ?_⟩
  rintro i m σ H ⟨rfl, hi, p⟩
  have q := hl i σ H hi p
  by_cases hlt : i < xs.length
  · refine .inr ⟨⟨xs, xs[i], q, by simp [hlt]⟩, Pv (i + 1), fun σ' H' p' => ⟨xs.length - (i + 1), by omega, rfl, hlt, p'⟩, fun x H' y => ?_⟩
    obtain ⟨e, y⟩ := y
    subst e
    exact hs i x σ _ (y xs q) p
  · have e : i = xs.length := by omega
    subst e
    exact .inl ⟨⟨xs, q, Nat.le_refl _⟩, hd σ H p⟩
theorem for_range {lo : Int} {n : Nat} {g : TG} {tb : TS} {D : Ends} {σ : St} {H : Hp} (Pv : Nat → St → Hp → Prop) (h0 : Pv 0 σ H)
    (hs : ∀ i σ H, i < n → Pv i σ H → g (.int (lo + i)) σ H fun σ2 H2 => tb { D with nx := Pv (i + 1), ct := Pv (i + 1), bk := D.nx } σ2 H2) (hd : ∀ σ H, Pv n σ H → D.nx σ H) :
    ∃ W : Nat → Nat → St → Hp → Prop, (∃ m, W 0 m σ H) ∧ ∀ i m σ H, W i m σ H →
      ((Itr lo n).stop i H ∧ D.nx σ H) ∨ ((Itr lo n).go i H ∧ ∃ N : St → Hp → Prop, (∀ σ' H', N σ' H' → ∃ m', m' < m ∧ W (i + 1) m' σ' H') ∧ ∀ x H', (Itr lo n).yld i H x H' → g x σ H' fun σ2 H2 => tb { D with nx := N, ct := N, bk := D.nx } σ2 H2) := by
  refine ⟨fun i m σ H => m = n - i ∧ i ≤ n ∧ Pv i σ H, ⟨n, by simp, Nat.zero_le _, h0⟩, ?_⟩
  rintro i m σ H ⟨rfl, hi, p⟩
  by_cases hlt : i < n
  · refine .inr ⟨hlt, Pv (i + 1), fun σ' H' p' => ⟨n - (i + 1), by omega, rfl, hlt, p'⟩, fun x H' y => ?_⟩
    obtain ⟨e, y⟩ := y
    subst e y
    exact hs i σ _ hlt p
  · have e : i = n := by omega
    subst e
    exact .inl ⟨Nat.le_refl _, hd σ H p⟩
end L2

namespace L2
open PySem PySem.Spec PyProof.Rows

abbrev R2 := V → V → Hp → VK → Prop
def OpR (X : Cx) (f : Value → Value → Sem Value) (r : R2) : Prop :=
  ∀ (pins : List (Addr × Obj)) (s : Shared) (σ : St) (H : Hp) (x y : V) (v u : Value) (Q : VK), Inv X pins σ H s → RelV x v → RelV y u → r x y H Q →
    wpAny (model X.prog X.w) X.A (f v u) (EP X pins σ Q) X.xe s
def UnR (X : Cx) (f : Value → Sem Value) (r : V → Hp → VK → Prop) : Prop :=
  ∀ (pins : List (Addr × Obj)) (s : Shared) (σ : St) (H : Hp) (x : V) (v : Value) (Q : VK), Inv X pins σ H s → RelV x v → r x H Q →
    wpAny (model X.prog X.w) X.A (f v) (EP X pins σ Q) X.xe s
def CallR (X : Cx) (f : Value) (r : List V → Hp → VK → Prop) : Prop :=
  ∀ (pins : List (Addr × Obj)) (s : Shared) (σ : St) (H : Hp) (xs : List V) (us : List Value) (Q : VK), Inv X pins σ H s → Vals xs us → r xs H Q →
    wpAny (model X.prog X.w) X.A (call f us) (EP X pins σ Q) X.xe s
def TruR (X : Cx) (r : V → Hp → (Bool → Hp → Prop) → Prop) : Prop :=
  ∀ (pins : List (Addr × Obj)) (s : Shared) (σ : St) (H : Hp) (x : V) (v : Value) (Q : Bool → Hp → Prop), Inv X pins σ H s → RelV x v → r x H Q →
    wpAny (model X.prog X.w) X.A (truthy v) (TP X pins σ Q) X.xe s

def tOp (r : R2) (ta tb : TE) : TE := fun σ H Q => ta σ H fun x H1 => tb σ H1 fun y H2 => r x y H2 Q
def tUn (r : V → Hp → VK → Prop) (ta : TE) : TE := fun σ H Q => ta σ H fun x H1 => r x H1 Q
def rI (C : Int → Int → Prop) (g : Int → Int → V) : R2 := fun x y H Q => ∃ i j, x = .int i ∧ y = .int j ∧ C i j ∧ Q (g i j) H
def rI0 (g : Int → Int → V) : R2 := fun x y H Q => ∃ i j, x = .int i ∧ y = .int j ∧ Q (g i j) H
def rU (g : Int → V) : V → Hp → VK → Prop := fun x H Q => ∃ i, x = .int i ∧ Q (g i) H

section
variable {X : Cx} {a b c : Expr} {ta tb tc : TE} {pos : Pos}

theorem binT (ha : PE X a ta) (hb : PE X b tb) {pins : List (Addr × Obj)} {s : Shared} {σ : St} {H : Hp} {R : V → V → Hp → Prop} (I : Inv X pins σ H s)
    (h : ta σ H fun x H1 => tb σ H1 fun y H2 => R x y H2) {Q : Value → Shared → Prop} {f : Value → Value → Sem Value}
    (hf : ∀ v u s2 x y H2, Inv X pins σ H2 s2 → RelV x v → RelV y u → R x y H2 → wpAny (model X.prog X.w) X.A (f v u) Q X.xe s2) :
    wpAny (model X.prog X.w) X.A (eval a X.env) (fun v s₁ => wpAny (model X.prog X.w) X.A (eval b X.env) (fun u s₂ => wpAny (model X.prog X.w) X.A (f v u) Q X.xe s₂) X.xe s₁) X.xe s := by
  refine thn (ha pins s σ H _ I h) fun v s1 ⟨x, H1, I1, r1, q1⟩ => ?_
  refine thn (hb pins s1 σ H1 _ I1 q1) fun u s2 ⟨y, H2, I2, r2, q2⟩ => ?_
  exact hf v u s2 x y H2 I2 r1 r2 q2

theorem pe_op {op : Operator} {r : R2} (ho : OpR X (binaryOp op) r) (ha : PE X a ta) (hb : PE X b tb) : PE X (.BinOp a op b pos) (tOp r ta tb) := by
  intro pins s σ H Q I h
  exact wpAny_BinOp (binT ha hb I h fun v u s2 x y H2 I2 rx ry q => ho pins s2 σ H2 x y v u Q I2 rx ry q)
theorem pe_un {op : UnaryOp} {r : V → Hp → VK → Prop} (ho : UnR X (unaryOp op) r) (ha : PE X a ta) : PE X (.UnaryOp op a pos) (tUn r ta) := by
  intro pins s σ H Q I h
  exact UnaryOp_ (thn (ha pins s σ H _ I h) fun v s1 ⟨x, H1, I1, r1, q1⟩ => ho pins s1 σ H1 x v Q I1 r1 q1)
theorem opI {f : Value → Value → Sem Value} {C : Int → Int → Prop} {g : Int → Int → Int}
    (rule : ∀ (i j : Int) (t u : Tok) (s : Shared) (Q : Value → Shared → Prop) (E : Value → Shared → Prop), C i j → Q (.int (g i j) s.toks) { s with toks := s.toks + 1 } → wpAny (model X.prog X.w) X.A (f (.int i t) (.int j u)) Q E s) :
    OpR X f (rI C fun i j => .int (g i j)) := by
  intro pins s σ H x y v u Q I rx ry h
  obtain ⟨i, j, rfl, rfl, hc, q⟩ := h
  obtain ⟨t, rfl⟩ := rx
  obtain ⟨t', rfl⟩ := ry
  exact rule i j t t' s _ _ hc ⟨.int (g i j), H, I.tok _, ⟨_, rfl⟩, q⟩
theorem opI0 {f : Value → Value → Sem Value} {g : Int → Int → Int}
    (rule : ∀ (i j : Int) (t u : Tok) (s : Shared) (Q : Value → Shared → Prop) (E : Value → Shared → Prop), Q (.int (g i j) s.toks) { s with toks := s.toks + 1 } → wpAny (model X.prog X.w) X.A (f (.int i t) (.int j u)) Q E s) :
    OpR X f (rI0 fun i j => .int (g i j)) := by
  intro pins s σ H x y v u Q I rx ry h
  obtain ⟨i, j, rfl, rfl, q⟩ := h
  obtain ⟨t, rfl⟩ := rx
  obtain ⟨t', rfl⟩ := ry
  exact rule i j t t' s _ _ ⟨.int (g i j), H, I.tok _, ⟨_, rfl⟩, q⟩
theorem opB0 {f : Value → Value → Sem Value} {g : Int → Int → Bool}
    (rule : ∀ (i j : Int) (t u : Tok) (s : Shared) (Q : Value → Shared → Prop) (E : Value → Shared → Prop), Q (.bool (g i j)) s → wpAny (model X.prog X.w) X.A (f (.int i t) (.int j u)) Q E s) :
    OpR X f (rI0 fun i j => .bl (g i j)) := by
  intro pins s σ H x y v u Q I rx ry h
  obtain ⟨i, j, rfl, rfl, q⟩ := h
  obtain ⟨t, rfl⟩ := rx
  obtain ⟨t', rfl⟩ := ry
  exact rule i j t t' s _ _ ⟨.bl (g i j), H, I, rfl, q⟩

def CDiv (i j : Int) : Prop := 0 < j ∧ j < 1073741824
def CPow (i j : Int) : Prop := 0 ≤ j ∧ j ≤ 1000000 ∧ i.natAbs < 2 ^ 64
def CMul (i j : Int) : Prop := (-(2 ^ 64) < i ∧ i < 2 ^ 64) ∨ (-(2 ^ 64) < j ∧ j < 2 ^ 64)
theorem CMul.ok {i j : Int} (h : CMul i j) : IntMulOk i j := by
  rcases h with ⟨h1, h2⟩ | ⟨h1, h2⟩
  · exact .of_left (intBits_le_64 h1 h2)
  · exact .of_right (intBits_le_64 h1 h2)
theorem op_add : OpR X (binaryOp .Add) (rI0 fun i j => .int (i + j)) := opI0 fun _ _ _ _ _ _ _ q => add_int q
theorem op_sub : OpR X (binaryOp .Sub) (rI0 fun i j => .int (i - j)) := opI0 fun _ _ _ _ _ _ _ q => sub_int q
theorem op_mul : OpR X (binaryOp .Mult) (rI CMul fun i j => .int (i * j)) := opI fun _ _ _ _ _ _ _ hc q => mul_int q hc.ok
theorem op_fdiv : OpR X (binaryOp .FloorDiv) (rI CDiv fun i j => .int (i / j)) := opI fun i j _ _ _ _ _ hc q => by
  have h1 : (0 : Int) < j := hc.1
  have h2 : j < 1073741824 := hc.2
  exact floordiv_int (by omega) (by rw [Int.fdiv_eq_ediv_of_nonneg i (by omega)]; exact q) (.inl (PyProof.noPylong_small (by omega)))
theorem op_mod : OpR X (binaryOp .Mod) (rI (fun _ j => 0 < j) fun i j => .int (i % j)) := opI fun i j _ _ _ _ _ hc q => by
  have h1 : (0 : Int) < j := hc
  exact mod_int' (by omega) (by rw [Int.fmod_eq_emod_of_nonneg i (by omega)]; exact q)
theorem op_pow : OpR X (binaryOp .Pow) (rI CPow fun i j => .int (i ^ j.toNat)) := opI fun _ _ _ _ _ _ _ hc q => pow_int_small hc.1 hc.2.1 hc.2.2 q
theorem unI {f : Value → Sem Value} {g : Int → Int}
    (rule : ∀ (i : Int) (t : Tok) (s : Shared) (Q : Value → Shared → Prop) (E : Value → Shared → Prop), Q (.int (g i) s.toks) { s with toks := s.toks + 1 } → wpAny (model X.prog X.w) X.A (f (.int i t)) Q E s) :
    UnR X f (rU fun i => .int (g i)) := by
  intro pins s σ H x v Q I rx h
  obtain ⟨i, rfl, q⟩ := h
  obtain ⟨t, rfl⟩ := rx
  exact rule i t s _ _ ⟨.int (g i), H, I.tok _, ⟨_, rfl⟩, q⟩
theorem un_neg : UnR X (unaryOp .USub) (rU fun i => .int (-i)) := unI fun _ _ _ _ _ q => neg_int q
end

def scal : V → V → Bool
  | .non, .non => true | .non, .int _ => true | .int _, .non => true | .non, .bl _ => true | .bl _, .non => true | .non, .str _ => true | .str _, .non => true
  | .int _, .int _ => true | .bl _, .bl _ => true | .str _, .str _ => true | .byt _, .byt _ => true
  | .int _, .str _ => true | .str _, .int _ => true | .bl _, .str _ => true | .str _, .bl _ => true
  | _, _ => false
def rEq : R2 := fun x y H Q => scal x y = true ∧ Q (.bl (decide (x = y))) H
def rNe : R2 := fun x y H Q => scal x y = true ∧ Q (.bl (!decide (x = y))) H

theorem dec_int {i j : Int} : decide (V.int i = V.int j) = (i == j) := by
  rw [Bool.eq_iff_iff]
  simp
theorem dec_bl {i j : Bool} : decide (V.bl i = V.bl j) = (i == j) := by
  rw [Bool.eq_iff_iff]
  simp
theorem dec_str {i j : Str} : decide (V.str i = V.str j) = (i == j) := by
  rw [Bool.eq_iff_iff]
  simp
theorem dec_byt {i j : Array UInt8} : decide (V.byt i = V.byt j) = (i.toList == j.toList) := by
  rw [Bool.eq_iff_iff]
  cases i
  cases j
  simp

section
variable {X : Cx} {a b c : Expr} {ta tb tc : TE} {pos : Pos}
theorem fin_bl {pins : List (Addr × Obj)} {σ : St} {H : Hp} {s : Shared} {Q : VK} {k k' : Bool} (I : Inv X pins σ H s) (q : Q (.bl k) H) (e : k = k') : EP X pins σ Q (.bool k') s := by
  subst e
  exact ⟨.bl k, H, I, rfl, q⟩
theorem op_eq : OpR X (compareOp .Eq) rEq := by
  intro pins s σ H x y v u Q I rx ry h
  obtain ⟨hs, q⟩ := h
  cases x with
  | non =>
    cases rx
    cases y with
    | non => cases ry; exact PySem.EqNone.eq_none_none (fin_bl I q (by simp))
    | bl j => cases ry; exact PySem.EqNone.eq_none_bool (fin_bl I q (by simp))
    | int j => obtain ⟨t', rfl⟩ := ry; exact PySem.EqNone.eq_none_int (fin_bl I q (by simp))
    | str j => obtain ⟨t', rfl⟩ := ry; exact PySem.EqNone.eq_none_str (fin_bl I q (by simp))
    | _ => exact absurd (show false = true from hs) Bool.false_ne_true
  | bl i =>
    cases rx
    cases y with
    | non => cases ry; exact PySem.EqNone.eq_bool_none (fin_bl I q (by simp))
    | bl j => cases ry; exact eq_bool (fin_bl I q dec_bl)
    | str j => obtain ⟨t', rfl⟩ := ry; exact PySem.EqMixed.eq_bool_str (fin_bl I q (by simp))
    | _ => exact absurd (show false = true from hs) Bool.false_ne_true
  | int i =>
    obtain ⟨t, rfl⟩ := rx
    cases y with
    | non => cases ry; exact PySem.EqNone.eq_int_none (fin_bl I q (by simp))
    | int j => obtain ⟨t', rfl⟩ := ry; exact eq_int (fin_bl I q dec_int)
    | str j => obtain ⟨t', rfl⟩ := ry; exact PySem.EqMixed.eq_int_str (fin_bl I q (by simp))
    | _ => exact absurd (show false = true from hs) Bool.false_ne_true
  | str i =>
    obtain ⟨t, rfl⟩ := rx
    cases y with
    | non => cases ry; exact PySem.EqNone.eq_str_none (fin_bl I q (by simp))
    | bl j => cases ry; exact PySem.EqMixed.eq_str_bool (fin_bl I q (by simp))
    | int j => obtain ⟨t', rfl⟩ := ry; exact PySem.EqMixed.eq_str_int (fin_bl I q (by simp))
    | str j => obtain ⟨t', rfl⟩ := ry; exact eq_str (fin_bl I q dec_str)
    | _ => exact absurd (show false = true from hs) Bool.false_ne_true
  | byt i =>
    obtain ⟨t, rfl⟩ := rx
    cases y with
    | byt j => obtain ⟨t', rfl⟩ := ry; exact PySem.W.eq_bytes (fin_bl I q dec_byt)
    | _ => exact absurd (show false = true from hs) Bool.false_ne_true
  | _ => cases y <;> exact absurd (show false = true from hs) Bool.false_ne_true
theorem op_ne : OpR X (compareOp .NotEq) rNe := by
  intro pins s σ H x y v u Q I rx ry h
  obtain ⟨hs, q⟩ := h
  cases x with
  | non =>
    cases rx
    cases y with
    | non => cases ry; exact PySem.EqNone.ne_none_none (fin_bl I q (by simp))
    | bl j => cases ry; exact PySem.EqNone.ne_none_bool (fin_bl I q (by simp))
    | int j => obtain ⟨t', rfl⟩ := ry; exact PySem.EqNone.ne_none_int (fin_bl I q (by simp))
    | str j => obtain ⟨t', rfl⟩ := ry; exact PySem.EqNone.ne_none_str (fin_bl I q (by simp))
    | _ => exact absurd (show false = true from hs) Bool.false_ne_true
  | bl i =>
    cases rx
    cases y with
    | non => cases ry; exact PySem.EqNone.ne_bool_none (fin_bl I q (by simp))
    | bl j => cases ry; exact ne_bool (fin_bl I q (congrArg not dec_bl))
    | str j => obtain ⟨t', rfl⟩ := ry; exact PySem.EqMixed.ne_bool_str (fin_bl I q (by simp))
    | _ => exact absurd (show false = true from hs) Bool.false_ne_true
  | int i =>
    obtain ⟨t, rfl⟩ := rx
    cases y with
    | non => cases ry; exact PySem.EqNone.ne_int_none (fin_bl I q (by simp))
    | int j => obtain ⟨t', rfl⟩ := ry; exact ne_int (fin_bl I q (congrArg not dec_int))
    | str j => obtain ⟨t', rfl⟩ := ry; exact PySem.EqMixed.ne_int_str (fin_bl I q (by simp))
    | _ => exact absurd (show false = true from hs) Bool.false_ne_true
  | str i =>
    obtain ⟨t, rfl⟩ := rx
    cases y with
    | non => cases ry; exact PySem.EqNone.ne_str_none (fin_bl I q (by simp))
    | bl j => cases ry; exact PySem.EqMixed.ne_str_bool (fin_bl I q (by simp))
    | int j => obtain ⟨t', rfl⟩ := ry; exact PySem.EqMixed.ne_str_int (fin_bl I q (by simp))
    | str j => obtain ⟨t', rfl⟩ := ry; exact ne_str (fin_bl I q (congrArg not dec_str))
    | _ => exact absurd (show false = true from hs) Bool.false_ne_true
  | byt i =>
    obtain ⟨t, rfl⟩ := rx
    cases y with
    | byt j => obtain ⟨t', rfl⟩ := ry; exact PySem.W.ne_bytes (fin_bl I q (congrArg not dec_byt))
    | _ => exact absurd (show false = true from hs) Bool.false_ne_true
  | _ => cases y <;> exact absurd (show false = true from hs) Bool.false_ne_true

theorem op_lt : OpR X (compareOp .Lt) (rI0 fun i j => .bl (decide (i < j))) := opB0 fun _ _ _ _ _ _ _ q => lt_int q
theorem op_le : OpR X (compareOp .LtE) (rI0 fun i j => .bl (decide (i ≤ j))) := opB0 fun _ _ _ _ _ _ _ q => le_int q
theorem op_gt : OpR X (compareOp .Gt) (rI0 fun i j => .bl (decide (j < i))) := opB0 fun _ _ _ _ _ _ _ q => gt_int q
theorem op_ge : OpR X (compareOp .GtE) (rI0 fun i j => .bl (decide (j ≤ i))) := opB0 fun _ _ _ _ _ _ _ q => ge_int q
theorem nomark (b : Expr) {op : CmpOp} (h : op ≠ .In := by decide) (h2 : op ≠ .NotIn := by decide) : behindInMarks op b = false := by
  have e1 : (op == CmpOp.In) = false := by cases op <;> first | rfl | exact absurd rfl h
  have e2 : (op == CmpOp.NotIn) = false := by cases op <;> first | rfl | exact absurd rfl h2
  cases b <;> simp [behindInMarks, e1, e2]
theorem pe_cmpR {op : CmpOp} {r : R2} (ho : OpR X (compareOp op) r) (ha : PE X a ta) (hb : PE X b tb) (hm : behindInMarks op b = false) : PE X (.Compare a [op] [b] pos) (tOp r ta tb) := by
  intro pins s σ H Q I h
  exact wpAny_Compare1 (binT ha hb I h fun v u s2 x y H2 I2 rx ry q => ho pins s2 σ H2 x y v u Q I2 rx ry q) hm
def tTest (t : TE) : TT := fun σ H Q => t σ H fun x H' => ∃ k, x = .bl k ∧ Q k H'
theorem pt_cmpR {op : CmpOp} {r : R2} (ho : OpR X (compareOp op) r) (ha : PE X a ta) (hb : PE X b tb) (hm : behindInMarks op b = false) : PT X (.Compare a [op] [b] pos) (tTest (tOp r ta tb)) := by
  intro pins s σ H Q I h
  refine wpAny_isTrue_Compare1 (thn (ha pins s σ H _ I h) fun v s1 ⟨x, H1, I1, r1, q1⟩ => thn (hb pins s1 σ H1 _ I1 q1) fun u s2 ⟨y, H2, I2, r2, q2⟩ =>
    thn (ho pins s2 σ H2 x y v u _ I2 r1 r2 q2) fun c s3 ⟨z, H3, I3, r3, k, e, q3⟩ => ?_) hm
  subst e
  cases r3
  exact wpAny_truthy_bool ⟨H3, I3, q3⟩
def tChain (r r' : R2) (ta tb tc : TE) : TE := fun σ H Q => ta σ H fun x H1 => tb σ H1 fun y H2 => r x y H2 fun z H3 => ∃ k, z = .bl k ∧
  (if k = true then tc σ H3 fun w' H4 => r' y w' H4 Q else Q (.bl false) H3)
theorem pe_chain {op op' : CmpOp} {r r' : R2} (ho : OpR X (compareOp op) r) (ho' : OpR X (compareOp op') r') (ha : PE X a ta) (hb : PE X b tb) (hc : PE X c tc)
    (hm : lastMarks [op, op'] [b, c] = false := by with_unfolding_all rfl) : PE X (.Compare a [op, op'] [b, c] pos) (tChain r r' ta tb tc) := by
  intro pins s σ H Q I h
  refine Compare_chain (thn (ha pins s σ H _ I h) fun v s1 ⟨x, H1, I1, r1, q1⟩ => chain_link (thn (hb pins s1 σ H1 _ I1 q1) fun u s2 ⟨y, H2, I2, r2, q2⟩ =>
    thn (ho pins s2 σ H2 x y v u _ I2 r1 r2 q2) fun d s3 ⟨z, H3, I3, r3, k, e, q3⟩ => ?_)) hm
  subst e
  cases r3
  refine wpAny_truthy_bool ?_
  cases k with
  | false => exact ite_ff ⟨.bl false, H3, I3, rfl, q3⟩
  | true => exact ite_tt (chain_last (thn (hc pins s3 σ H3 _ I3 q3) fun w' s4 ⟨z', H4, I4, r4, q4⟩ => ho' pins s4 σ H4 y z' u w' Q I4 r2 r4 q4))
theorem pt_chain {op op' : CmpOp} {r r' : R2} (ho : OpR X (compareOp op) r) (ho' : OpR X (compareOp op') r') (ha : PE X a ta) (hb : PE X b tb) (hc : PE X c tc)
    (hm : lastMarks [op, op'] [b, c] = false := by with_unfolding_all rfl) : PT X (.Compare a [op, op'] [b, c] pos) (tTest (tChain r r' ta tb tc)) := by
  intro pins s σ H Q I h
  refine isTrue_chain (thn (ha pins s σ H _ I h) fun v s1 ⟨x, H1, I1, r1, q1⟩ => test_link (thn (hb pins s1 σ H1 _ I1 q1) fun u s2 ⟨y, H2, I2, r2, q2⟩ =>
    thn (ho pins s2 σ H2 x y v u _ I2 r1 r2 q2) fun d s3 ⟨z, H3, I3, r3, k, e, q3⟩ => ?_)) hm
  subst e
  cases r3
  refine wpAny_truthy_bool ?_
  cases k with
  | false =>
    obtain ⟨k', e', q'⟩ := q3
    cases e'
    exact ite_ff ⟨H3, I3, q'⟩
  | true =>
    refine ite_tt (test_last (thn (hc pins s3 σ H3 _ I3 q3) fun w' s4 ⟨z', H4, I4, r4, q4⟩ => thn (ho' pins s4 σ H4 y z' u w' _ I4 r2 r4 q4) fun d' s5 ⟨z2, H5, I5, r5, k2, e2, q5⟩ => ?_))
    subst e2
    cases r5
    exact wpAny_truthy_bool ⟨H5, I5, q5⟩

def TruV (K : PySem.W.Frag) (x : V) (H : Hp) (k : Bool) : Prop :=
  match x with
  | .non => k = false
  | .bl b => k = b
  | .int i => k = (i != 0)
  | .str y => y.length ≤ sizeLine ∧ k = ((y.length : Int) != 0)
  | .byt y => y.size ≤ sizeLine ∧ k = ((y.size : Int) != 0)
  | .ref p => (∃ xs, SqL K H p xs ∧ k = !xs.isEmpty) ∨ (∃ xs, SqT K H p xs ∧ k = !xs.isEmpty) ∨ ∃ kvs, H p = some (.dK kvs) ∧ k = !kvs.isEmpty
  | _ => False
theorem isEmpty_kv {κ : Type} {kvs : List (κ × V)} {vs : List (κ × Value)} (r : KV kvs vs) : (!vs.isEmpty) = !kvs.isEmpty := by
  cases r <;> rfl
theorem isEmpty_of {xs : List V} {its : List Value} (r : Vals xs its) : (!its.toArray.isEmpty) = !xs.isEmpty := by
  cases r <;> simp
theorem line63 : (sizeLine : Nat) < 2 ^ 63 := by rw [sizeLine_eq]; decide
theorem tru_ok : TruR X (fun x H Q => ∃ k, TruV X.K x H k ∧ Q k H) := by
  intro pins s σ H x v Q I rx h
  obtain ⟨k, e, q⟩ := h
  have hl := line63
  have hs : sizeLine = 16777216 := sizeLine_eq
  cases x with
  | non =>
    cases rx
    have e' : k = false := e
    subst e'
    exact truthy_none ⟨H, I, q⟩
  | bl b =>
    cases rx
    have e' : k = b := e
    subst e'
    exact wpAny_truthy_bool ⟨H, I, q⟩
  | int i =>
    obtain ⟨t, rfl⟩ := rx
    have e' : k = (i != 0) := e
    subst e'
    exact PySem.P.truthy_int ⟨H, I, q⟩
  | str y =>
    obtain ⟨t, rfl⟩ := rx
    obtain ⟨hy, e'⟩ : y.length ≤ sizeLine ∧ k = ((y.length : Int) != 0) := e
    subst e'
    exact PySem.P.truthy_str (by omega) ⟨H, I.tok _, q⟩
  | byt y =>
    obtain ⟨t, rfl⟩ := rx
    obtain ⟨hy, e'⟩ : y.size ≤ sizeLine ∧ k = ((y.size : Int) != 0) := e
    subst e'
    exact PySem.W.truthy_bytes (by omega) ⟨H, I.tok _, q⟩
  | ref p =>
    cases rx
    have e' : (∃ xs, SqL X.K H p xs ∧ k = !xs.isEmpty) ∨ (∃ xs, SqT X.K H p xs ∧ k = !xs.isEmpty) ∨ ∃ kvs, H p = some (.dK kvs) ∧ k = !kvs.isEmpty := e
    rcases e' with ⟨xs, hx, e'⟩ | ⟨xs, hx, e'⟩ | ⟨kvs, hx, e'⟩
    · subst e'
      obtain ⟨its, r, pl, hz⟩ := I.list hx
      have hlen := r.length
      exact wpAny_truthy_list pl.isList (by simp only [List.size_toArray]; omega) ⟨H, I.tok _, by rw [isEmpty_of r]; exact q⟩
    · subst e'
      obtain ⟨its, r, pl, hz⟩ := I.tuple hx
      have hlen := r.length
      exact truthy_tuple pl (by simp only [List.size_toArray]; omega) ⟨H, I.tok _, by rw [isEmpty_of r]; exact q⟩
    · subst e'
      obtain ⟨hz, hS, vs, r, m⟩ : kvs.length ≤ sizeLine ∧ (p == sysModules) = false ∧ ∃ vs, KV kvs vs ∧ s.heap.DictOf (mixKind X.prog X.w) p vs := I.hok p _ hx
      have hlen : kvs.length = vs.length := Paired.length r
      exact wpAny_truthy_dict hS m (by omega) ⟨H, I.tok _, by rw [isEmpty_kv r]; exact q⟩
  | _ => exact (show False from e).elim
theorem pt_truth (ha : PE X a ta) (he : ∀ whole, isTrue a X.env whole = (do let v ← whole; standAt a.pos; holding [v] (truthy v))) :
    PT X a (fun σ H Q => ta σ H fun x H' => ∃ k, TruV X.K x H' k ∧ Q k H') := by
  intro pins s σ H Q I h
  exact isTrue_plain (thn (ha pins s σ H _ I h) fun v s1 ⟨x, H1, I1, r1, q1⟩ => tru_ok pins s1 σ H1 x v Q I1 r1 q1) (he _)

theorem vals1 {x : V} {us : List Value} (r : Vals [x] us) : ∃ u, us = [u] ∧ RelV x u := by
  cases r with
  | cons r1 r2 => cases r2; exact ⟨_, rfl, r1⟩
theorem vals2 {x y : V} {us : List Value} (r : Vals [x, y] us) : ∃ u w', us = [u, w'] ∧ RelV x u ∧ RelV y w' := by
  cases r with
  | cons r1 r2 =>
    cases r2 with
    | cons r3 r4 => cases r4; exact ⟨_, _, rfl, r1, r3⟩
theorem call_min2 (hc : X.calm = true) : CallR X (.builtin "min") (fun xs H Q => ∃ i j, xs = [.int i, .int j] ∧ Q (.int (if j < i then j else i)) H) := by
  intro pins s σ H xs us Q I r h
  obtain ⟨i, j, rfl, q⟩ := h
  obtain ⟨u, w', rfl, ⟨t, rfl⟩, ⟨t', rfl⟩⟩ := vals2 r
  refine min_two_ints (I.ok.hd hc) fun h' tk k => ⟨_, H, I.kept k, ?_, q⟩
  by_cases hj : j < i
  · rw [if_pos hj, if_pos hj]; exact ⟨_, rfl⟩
  · rw [if_neg hj, if_neg hj]; exact ⟨_, rfl⟩
theorem call_int1 : CallR X (.type "int") (fun xs H Q => (∃ i, xs = [.int i] ∧ Q (.int i) H) ∨ ∃ k, xs = [.bl k] ∧ Q (.int (if k then 1 else 0)) H) := by
  intro pins s σ H xs us Q I r h
  rcases h with ⟨i, rfl, q⟩ | ⟨k, rfl, q⟩
  · obtain ⟨u, rfl, t, rfl⟩ := vals1 r
    exact call_int_int ⟨.int i, H, I, ⟨_, rfl⟩, q⟩
  · obtain ⟨u, rfl, r1⟩ := vals1 r
    cases r1
    exact call_int_bool ⟨.int (if k then 1 else 0), H, I.tok _, ⟨_, rfl⟩, q⟩
end
end L2

namespace L2
open PySem PySem.Spec PyProof.Rows

structure ObjM (h : Heap) (x dx C : Addr) (mA : Str → Option Value) : Prop where
  obj : h.get? x = some (PySem.W.instObj C dx)
  ns : h.Ns1 dx mA
  ne : dx ≠ x

section
variable {prog : Program} {w : World} {A : Around} {E : Value → Shared → Prop} {s : Shared} {K : PySem.W.Frag} {x dx C f : Addr} {mA : Str → Option Value} {name : Str} {v : Value}

end

theorem RelO.some_of {v : V} {o : Option Value} (r : RelO (some v) o) : ∃ u, o = some u ∧ RelV v u := by
  cases o with
  | none => exact (show False from r).elim
  | some u => exact ⟨u, rfl, r⟩
section
variable {P : Program} {w : World} {H H' : Hp} {h h' : Heap} {a C dx : Addr} {fs fs' : List (Str × V)}
end

structure Cls (K : PySem.W.Frag) (C : Addr) : Prop where
  pg : PySem.W.plainGet K C Str.empty = true
  hd : PySem.W.hasDictIn K C = true
  po : PySem.W.plainOver K C = true
  sa : PySem.W.findIn K (.ref C) "__setattr__" = some (some (.builtin "object.__setattr__"))
structure Con (K : PySem.W.Frag) (C : Addr) (f : Str) (v : V) (u : Value) : Prop where
  at_ : PySem.W.findIn K (.ref C) f = some (some u)
  rel : RelV v u
  get : PySem.W.specialIn K u "__get__" = some none
  cp : PySem.W.copiedNames.contains f = false
structure Meth (K : PySem.W.Frag) (C : Addr) (m : Str) (f : Addr) : Prop where
  at_ : PySem.W.findIn K (.ref C) m = some (some (.ref f))
  fn : PySem.W.isFn K (.ref f) = true
  kp : PySem.W.keepIn K (.ref f) = true

section
variable {X : Cx} {pins : List (Addr × Obj)} {σ : St} {H : Hp} {s : Shared} {a C dx : Addr} {fs : List (Str × V)} {f : Str} {v : V} {A : Around} {E : Value → Shared → Prop}

end

section
variable {X : Cx} {o e value : Expr} {f : Str} {pos pos' tpos : Pos} {ta tv : TE}
end

section
variable {X : Cx} {pins : List (Addr × Obj)} {σ : St} {H : Hp} {s : Shared} {A : Around} {E : Value → Shared → Prop} {Q : Value → Shared → Prop} {c : Value} {b : Bool}
inductive TyOf (K : PySem.W.Frag) (H : Hp) : V → Value → Prop where
  | non : TyOf K H .non (.type "NoneType")
  | bl (x : Bool) : TyOf K H (.bl x) (.type "bool")
  | int (i : Int) : TyOf K H (.int i) (.type "int")
  | str (x : Str) : TyOf K H (.str x) (.type "str")
  | flt (x : UInt64) : TyOf K H (.flt x) (.type "float")
  | lst {a : Addr} {xs : List V} (e : H a = some (.lst xs)) : TyOf K H (.ref a) (.type "list")
  | frz {a : Addr} {o : Obj} {xs : List V} (e : H a = some (.frz o (.lst xs))) : TyOf K H (.ref a) (.type "list")
  | tup {a : Addr} {xs : List V} (e : H a = some (.tup xs)) : TyOf K H (.ref a) (.type "tuple")
  | dK {a : Addr} {kvs : List (Key × V)} (e : H a = some (.dK kvs)) : TyOf K H (.ref a) (.type "dict")
  | dT {a : Addr} {kvs : List (List Key × V)} (e : H a = some (.dT kvs)) : TyOf K H (.ref a) (.type "dict")
  | ins {a C dx : Addr} {fs : List (Str × V)} (e : H a = some (.ins C dx fs)) (cl : Cls K C) (ha : PySem.W.findIn K (.ref C) "__class__" = some (some (.builtin "object.__class__")))
      (hn : PySem.W.specialIn K (.builtin "object.__class__") "__get__" = some (some (.builtin "getset_descriptor.__get__"))) (htk : PySem.W.takesIn K (.builtin "object.__class__") = some true)
      (hm : PySem.W.mroIn K C (.type "object") = some true) : TyOf K H (.ref a) (.ref C)
end
end L2

namespace L2
open PySem PySem.Spec PyProof.Rows

structure Room (k : Nat) (A : Around) : Prop where
  hd : A.handled = none
  dp : A.depth + 3 * k + 5 < recursionLimit
  un : A.units + 16 * k + 200 < cLine
  gd : A.guards = some []
theorem Room.mono {j k : Nat} {A : Around} (r : Room k A) (h : j ≤ k) : Room j A := ⟨r.hd, by have := r.dp; omega, by have := r.un; omega, r.gd⟩
theorem Room.deeper {k : Nat} {A : Around} (r : Room (k + 1) A) (env : Env) : Room k (A.deeper env) :=
  ⟨r.hd, by have := r.dp; show A.depth + 1 + 3 * k + 5 < _; omega, by have := r.un; show A.units + 3 + 16 * k + 200 < _; omega, r.gd⟩
theorem Room.depth {k : Nat} {A : Around} (r : Room k A) : A.depth < recursionLimit := by have := r.dp; omega
theorem Room.units {k : Nat} {A : Around} (r : Room k A) : A.units + 64 < cLine := by have := r.un; omega
theorem Room.units0 {k : Nat} {A : Around} (r : Room k A) : A.units < cLine := by have := r.un; omega

def tNil : TA := fun _ H Q => Q [] H
def tCons (ta : TE) (tr : TA) : TA := fun σ H Q => ta σ H fun x H1 => tr σ H1 fun xs H2 => Q (x :: xs) H2
section
variable {X : Cx} {e : Expr} {es : List Expr} {te : TE} {t : TA} {pos : Pos}
theorem pa_nil : PA X [] tNil := fun _ _ _ _ H Q I h => Calls.spliced_nil ⟨[], H, I, .nil, h⟩
theorem pa_cons (ha : PE X e te) (hr : PA X es t) (hs : starEach (e :: es) X.env = (false, eval e X.env) :: starEach es X.env := by rfl) : PA X (e :: es) (tCons te t) := by
  intro pos pins s σ H Q I h
  rw [hs]
  show wpAny _ _ (spliced ((false, eval e X.env) :: backTo pos (starEach es X.env))) _ _ s
  refine Calls.spliced_cons (thn (ha pins s σ H _ I h) fun u s1 ⟨x, H1, I1, r1, q1⟩ => ?_)
  exact thn (hr pos pins s1 σ H1 _ I1 q1) fun us s2 ⟨xs, H2, I2, r2, q2⟩ => ⟨x :: xs, H2, I2, .cons r1 r2, q2⟩

def tTup (t : TA) : TE := fun σ H Q => t σ H fun xs H1 => xs.length ≤ sizeLine ∧ ∀ p, H1 p = none → Q (.ref p) (upd H1 p (.tup xs))
def tLst (t : TA) : TE := fun σ H Q => t σ H fun xs H1 => xs.length ≤ sizeLine ∧ ∀ p, H1 p = none → Q (.ref p) (upd H1 p (.lst xs))
theorem pe_tup {x1} (h : PA X es t) : PE X (.Tuple es x1 pos) (tTup t) := by
  intro pins s σ H Q I hq
  refine wpAny_Tuple_spliced (thn (h pos pins s σ H _ I hq) fun us s1 ⟨xs, H1, I1, r, z, q⟩ => ⟨by rw [← r.length]; exact z, ?_⟩)
  have hf : H1 s1.heap.objs.size = none := I1.hok.fresh (Nat.le_refl _)
  refine ⟨.ref s1.heap.objs.size, upd H1 s1.heap.objs.size (.tup xs), I1.laid (t' := s1.toks) (fun b u e => Heap.get?_push_of_some _ e) (Nat.le_refl _) ?_, rfl, q _ hf⟩
  exact ⟨z, us, r, ⟨_, Heap.get?_push_size _ rfl, rfl, _, rfl⟩⟩
theorem pe_lst (h : PA X es t) : PE X (.List es pos) (tLst t) := by
  intro pins s σ H Q I hq
  refine wpAny_List_spliced (thn (h pos pins s σ H _ I hq) fun us s1 ⟨xs, H1, I1, r, z, q⟩ => ⟨by rw [← r.length]; exact z, ?_⟩)
  have hf : H1 s1.heap.objs.size = none := I1.hok.fresh (Nat.le_refl _)
  refine ⟨.ref s1.heap.objs.size, upd H1 s1.heap.objs.size (.lst xs), I1.laid (t' := s1.toks) (fun b u e => Heap.get?_push_of_some _ e) (Nat.le_refl _) ?_, rfl, q _ hf⟩
  exact ⟨z, us, 0, r, Heap.get?_push_size _ rfl⟩
end

abbrev Sp := List V → Hp → VK → XK → Prop
abbrev CXT := List Env → Hp → Shared → XK → Value → Shared → Prop

structure Env0 (P : Program) (w : World) (K : PySem.W.Frag) (mg : Str → Option Value) (base : Heap) (A : Around) (outer : List Env) (s : Shared) (H : Hp) : Prop where
  frames : A.frames = some outer
  mod : Mod K mg base
  bs : ∀ b o, base.get? b = some o → s.heap.get? b = some o ∧ H b = none
  bsz : base.objs.size ≤ s.heap.objs.size
  funs : s.heap.FunFrames base outer
  frf : ∀ b ∈ frs outer, H b = none
  hok : HOk P w H s.heap
  bare : AllBare s.gens
def CE (outer : List Env) (P : Program) (w : World) (H : Hp) (s : Shared) (Q : VK) (u : Value) (s' : Shared) : Prop :=
  ∃ v H', s'.os = s.os ∧ AllBare s'.gens ∧ Un (frs outer) [] H H' s.heap s'.heap ∧ HOk P w H' s'.heap ∧ RelV v u ∧ Q v H'
def CR (CX : CXT) (outer : List Env) (P : Program) (w : World) (H : Hp) (s : Shared) (Q : VK) (E : XK) (r : Result) (s' : Shared) : Prop :=
  match r with
  | .ok (.ret u) => CE outer P w H s Q u s'
  | .ok _ => False
  | .error e => CX outer H s E e s'
structure FnOk (P : Program) (w : World) (K : PySem.W.Frag) (mg : Str → Option Value) (base : Heap) (CX : CXT) (k : Nat) (f : Addr) (fd : FuncData) (ps : List Str) (sp : Sp) : Prop where
  len : ∀ vs H Q E, sp vs H Q E → vs.length = ps.length
  run : ∀ (A : Around) (outer : List Env) (s : Shared) (H : Hp) (args : Args) (us : List Value) (vs : List V) (Q : VK) (E : XK), Room k A → Env0 P w K mg base A outer s H → BindsTo s fd args (ps.zip us) → Vals vs us → sp vs H Q E →
    codeAny (model P w) A (.call (.ref f) args) (CR CX outer P w H s Q E) s
section
variable {X : Cx} {pins : List (Addr × Obj)} {σ : St} {H : Hp} {s s' : Shared}
theorem Inv.env0 (I : Inv X pins σ H s) : Env0 X.prog X.w X.K X.mg X.base X.A X.stack s H :=
  ⟨I.ok.frames, I.ok.mod, I.bs, Nat.le_trans I.ok.bsz I.sz, I.stack, I.stkFree, I.hok, I.bare⟩
theorem Inv.after {Q : VK} {u : Value} (I : Inv X pins σ H s) (h : CE X.stack X.prog X.w H s Q u s') : EP X pins σ Q u s' := by
  obtain ⟨v, H', os, bare, un, hok, r, q⟩ := h
  obtain ⟨hh, g, d, t, os'⟩ := s'
  obtain rfl : os' = s.os := os
  exact ⟨v, H', I.call (h' := hh) (g' := g) (d' := d) (t' := t) (ch := []) un hok bare (fun b z => absurd z (by simp)), r, q⟩
end

def tCall (sp : Sp) (dvs : List V) (E : XK) (t : TA) : TE := fun σ H Q => t σ H fun vs H1 => sp (vs ++ dvs) H1 Q E
def Binds (K : PySem.W.Frag) (fd : FuncData) (ps : List Str) (ds : List Value) : Prop :=
  ∀ (s : Shared) (us : List Value), K.In s.heap → (us ++ ds).length = ps.length → BindsTo s fd ⟨us, []⟩ (ps.zip (us ++ ds))
theorem Binds.all {K : PySem.W.Frag} {fd : FuncData} {ps : List Str} (h : ∀ us : List Value, us.length = ps.length → bindArgs fd ⟨us, []⟩ = pure (ps.zip us)) : Binds K fd ps [] := fun s us _ hl => by
  rw [List.append_nil] at hl ⊢
  exact .of_eq (h us hl)

def Passes (CX : CXT) (X : Cx) (E : XK) : Prop := ∀ (pins : List (Addr × Obj)) (σ : St) (H : Hp) (s : Shared) (e : Value) (s' : Shared), Inv X pins σ H s → CX X.stack H s E e s' → X.xe e s'

section
variable {X : Cx} {CX : CXT} {k : Nat} {f C : Addr} {fd : FuncData} {ps : List Str} {sp : Sp} {dvs : List V} {ds : List Value} {E : XK} {x m : Str} {p pos apos : Pos} {e o : Expr} {es : List Expr} {ta : TE} {t : TA}

theorem run_fn {pins : List (Addr × Obj)} {σ : St} {H : Hp} {s : Shared} {Q : VK} {us : List Value} {vs : List V} (F : FnOk X.prog X.w X.K X.mg X.base CX k f fd ps sp) (hr : Room k X.A) (hb : Binds X.K fd ps ds) (hd : Vals dvs ds) (hx : Passes CX X E)
    (I : Inv X pins σ H s) (r : Vals vs us) (h : sp (vs ++ dvs) H Q E) : wpAny (model X.prog X.w) X.A (call (.ref f) us) (EP X pins σ Q) X.xe s := by
  have r2 : Vals (vs ++ dvs) (us ++ ds) := r.append hd
  have hl : (us ++ ds).length = ps.length := by rw [← r2.length]; exact F.len _ _ _ _ h
  refine wpAny_call (codeAny_mono (F.run X.A X.stack s H ⟨us, []⟩ (us ++ ds) (vs ++ dvs) Q E hr I.env0 (hb s us I.kIn hl) r2 h) fun r s' hq => ?_)
  cases r with
  | error e => exact hx pins σ H s e s' I hq
  | ok fl =>
    cases fl with
    | ret u => exact I.after hq
    | next => exact False.elim hq
    | brk => exact False.elim hq
    | cont => exact False.elim hq

theorem pe_call (F : FnOk X.prog X.w X.K X.mg X.base CX k f fd ps sp) (hr : Room k X.A) (hg : Gl X x) (hm : X.mg x = some (.ref f)) (hk : PySem.W.keepIn X.K (.ref f) = true) (hb : Binds X.K fd ps ds) (hd : Vals dvs ds) (hx : Passes CX X E)
    (ha : PA X (e :: es) t) (hdb : (x == ("__debug__" : Str)) = false := by decide) (he : starEach (e :: es) X.env = (false, eval e X.env) :: starEach es X.env := by rfl) (hpl : (backTo pos (starEach es X.env)).any (·.1) = false := by rfl) :
    PE X (.Call (.Name x p) (e :: es) [] pos) (tCall sp dvs E t) := by
  intro pins s σ H Q I h
  refine wpAny_Call_Name_kw (ld_glob I hg hm ?_ hdb)
  refine PySem.W.callWith_K (h₀ := X.base) I.ok.mod.kin hk (thn (ha pos pins s σ H _ I h) fun us s1 ⟨vs, H1, I1, r, q⟩ => ⟨I1.kIn, ?_⟩) he hpl
  exact run_fn F hr hb hd hx I1 r q
structure Mk (K : PySem.W.Frag) (C f : Addr) : Prop where
  makes : PySem.W.makesIn K C = true
  init : PySem.W.findIn K (.ref C) "__init__" = some (some (.ref f))
  fn : PySem.W.isFn K (.ref f) = true
  kp : PySem.W.keepIn K (.ref C) = true

end

section
variable {X : Cx} {CX : CXT} {k : Nat} {f C : Addr} {fd : FuncData} {ps ks : List Str} {sp : Sp} {E : XK} {x m : Str} {p pos apos kpos : Pos} {e o : Expr} {es : List Expr} {kws : List Keyword} {te ta : TE} {t tk : TA} {nm : Option Str}
structure KBinds (K : PySem.W.Frag) (fd : FuncData) (ps ks : List Str) (g : List Value → List Value → List Value) (gV : List V → List V → List V) : Prop where
  to : ∀ (s : Shared) (us ws : List Value), K.In s.heap → (g us ws).length = ps.length → BindsTo s fd ⟨us, ks.zip ws⟩ (ps.zip (g us ws))
  rel : ∀ {vs : List V} {us : List Value} {zs : List V} {ws : List Value}, Vals vs us → Vals zs ws → Vals (gV vs zs) (g us ws)
variable {g : List Value → List Value → List Value} {gV : List V → List V → List V}
end

structure FnScope (N P : List Str) (sc : Scope) : Prop where
  kind : sc.kind = .function
  co : sc.isCoroutine = false
  gen : sc.isGenerator = false
  nd : N.Nodup
  pre : N.take P.length = P
  par : ∀ x ∈ P, sc.names.lookup x = some .local ∨ sc.names.lookup x = some .cell
  nofree : ∀ y ∈ sc.names, y.2 ≠ .free

theorem bindL_out {kindOf : Str → Option NameKind} {x : Str} : ∀ {binds : List (Str × Value)} {m : Str → Option Value}, (∀ v, (x, v) ∉ binds) → bindL kindOf binds m x = m x
  | [], _, _ => rfl
  | (n, v) :: r, m, h => by
    unfold bindL
    rw [bindL_out fun w hw => h w (List.mem_cons_of_mem _ hw)]
    split
    · have : x ≠ n := by rintro rfl; exact h v List.mem_cons_self
      simp [this]
    · rfl
theorem bindC_out {kindOf : Str → Option NameKind} {x : Str} : ∀ {binds : List (Str × Value)} {m : Str → Option Value}, (∀ v, (x, v) ∉ binds) → bindC kindOf binds m x = m x
  | [], _, _ => rfl
  | (n, v) :: r, m, h => by
    unfold bindC
    rw [bindC_out fun w hw => h w (List.mem_cons_of_mem _ hw)]
    split
    · rfl
    · have : x ≠ n := by rintro rfl; exact h v List.mem_cons_self
      simp [this]
theorem bindL_get {kindOf : Str → Option NameKind} {x : Str} {v : Value} : ∀ {P : List Str} {vs : List Value} {i : Nat} {m : Str → Option Value}, P.Nodup → P[i]? = some x → vs[i]? = some v → kindOf x = some .local →
    bindL kindOf (P.zip vs) m x = some v
  | [], _, _, _, _, h, _, _ => by simp at h
  | _ :: _, [], _, _, _, _, h, _ => by simp at h
  | p :: P, w :: vs, 0, m, nd, h1, h2, hk => by
    simp at h1 h2; subst h1; subst h2
    show bindL kindOf ((p, w) :: P.zip vs) m p = _
    unfold bindL
    rw [bindL_out fun v hv => (List.nodup_cons.mp nd).1 (List.of_mem_zip hv).1, if_pos hk]
    simp
  | p :: P, w :: vs, i + 1, m, nd, h1, h2, hk => by
    show bindL kindOf ((p, w) :: P.zip vs) m x = _
    unfold bindL
    exact bindL_get (i := i) (List.nodup_cons.mp nd).2 (by simpa using h1) (by simpa using h2) hk
theorem bindC_get {kindOf : Str → Option NameKind} {x : Str} {v : Value} : ∀ {P : List Str} {vs : List Value} {i : Nat} {m : Str → Option Value}, P.Nodup → P[i]? = some x → vs[i]? = some v → kindOf x ≠ some .local →
    bindC kindOf (P.zip vs) m x = some v
  | [], _, _, _, _, h, _, _ => by simp at h
  | _ :: _, [], _, _, _, _, h, _ => by simp at h
  | p :: P, w :: vs, 0, m, nd, h1, h2, hk => by
    simp at h1 h2; subst h1; subst h2
    show bindC kindOf ((p, w) :: P.zip vs) m p = _
    unfold bindC
    rw [bindC_out fun v hv => (List.nodup_cons.mp nd).1 (List.of_mem_zip hv).1, if_neg hk]
    simp
  | p :: P, w :: vs, i + 1, m, nd, h1, h2, hk => by
    show bindC kindOf ((p, w) :: P.zip vs) m x = _
    unfold bindC
    exact bindC_get (i := i) (List.nodup_cons.mp nd).2 (by simpa using h1) (by simpa using h2) hk

def start (N : List Str) (vs : List V) : St := vs.map some ++ List.replicate (N.length - vs.length) none

def cxOf (CX : CXT) (P : Program) (w : World) (K : PySem.W.Frag) (mg : Str → Option Value) (base : Heap) (N : List Str) (qual : Str) (scope : Scope) (f : Addr) (cd : Value) (A : Around) (outer : List Env) (s : Shared) (H : Hp) (E : XK) : Cx where
  prog := P
  w := w
  K := K
  mg := mg
  base := base
  A := A.deeper (envOfC qual scope s.heap.objs.size f cd)
  N := N
  s₀ := s
  H₀ := H
  env := envOfC qual scope s.heap.objs.size f cd
  outer := outer
  stack := envOfC qual scope s.heap.objs.size f cd :: outer
  ex := []
  calm := true
  fn := fun _ => true
  pn := []
  xe := fun e s' => wpAny (model P w) (A.deeper (envOfC qual scope s.heap.objs.size f cd)) (leaving (envOfC qual scope s.heap.objs.size f cd) e) (fun _ s'' => CX outer H s E e s'') (fun e' s'' => CX outer H s E e' s'') s'

theorem cell_has {sc : Scope} {n : Nat} {x : Str} (h : sc.names.lookup x = some .cell) : ∃ c, (cellsFrom n sc.names []).lookup x = some c := by
  have q := PySem.W.cellsFrom_some sc.names n [] (.inl h)
  exact Option.isSome_iff_exists.mp q

theorem inv_start {CX : CXT} {P : Program} {w : World} {K : PySem.W.Frag} {mg : Str → Option Value} {base : Heap} {N ps : List Str} {qual : Str} {scope : Scope} {f : Addr} {cd : Value} {A : Around} {outer : List Env} {s s1 : Shared} {H : Hp} {E : XK} {us : List Value} {vs : List V}
    (S : FnScope N ps scope) (hd : A.handled = none) (e0 : Env0 P w K mg base A outer s H) (hl : vs.length = ps.length) (r : Vals vs us)
    (x : InCallC s s.heap.objs.size (bindL (envOfC qual scope s.heap.objs.size f cd).kindOf (ps.zip us) fun _ => none) (cellsFrom (s.heap.objs.size + 1) scope.names []) (bindC (envOfC qual scope s.heap.objs.size f cd).kindOf (ps.zip us) fun _ => none) s1) :
    Inv (cxOf CX P w K mg base N qual scope f cd A outer s H E) [] (start N vs) H s1 := by
  have hpl : ps.length ≤ N.length := by have := congrArg List.length S.pre; rw [List.length_take] at this; omega
  obtain ⟨h1, tk, rfl, hk⟩ := x.done
  have noA : ∀ b : Addr, b ∉ (cxOf CX P w K mg base N qual scope f cd A outer s H E).ex := fun b z => absurd (show b ∈ ([] : List Addr) from z) (by simp)
  refine ⟨⟨e0.mod, S.kind, rfl, rfl, Nat.le_refl _, fun y z c h1 h2 => ?_, fun y hy => ?_, fun y c _ h => ?_, fun _ => hd, Around.frames_deeper e0.frames, .inr ⟨rfl, rfl⟩, fun b z => absurd z (noA b), e0.bs, e0.bsz, fun b _ _ => noA b, fun b z => absurd z (noA b), e0.funs, e0.frf⟩,
    rfl, e0.bare, Un.kept hk, ⟨_, x.toInCall.ns, fun i y v h1 h2 h3 => ?_⟩, fun y c h => ⟨_, x.cell y c h⟩, e0.hok.fresh (Nat.le_refl _), fun y c h => ?_, fun p hp => absurd (show p ∈ ([] : List (Addr × Obj)) from hp) (by simp), e0.hok.kept hk, ?_⟩
  · exact name_of_addr x.apart (PySem.mem_of_lookup h1) (PySem.mem_of_lookup h2)
  · have hy : scope.names.lookup y = some .cell ∨ scope.names.lookup y = some .free := hy
    rcases hy with hy | hy
    · exact cell_has hy
    · exact absurd rfl (S.nofree _ (PySem.mem_of_lookup hy))
  · exact Nat.le_of_lt (x.above y c (PySem.mem_of_lookup h))
  · have hi : i < vs.length := by
      unfold start at h2
      by_cases hi : i < vs.length
      · exact hi
      · rw [List.getElem?_append_right (by simpa using hi)] at h2
        rw [List.getElem?_replicate] at h2
        split at h2 <;> cases h2
    have ha : vs[i]? = some v := by
      unfold start at h2
      rw [List.getElem?_append_left (by simpa using hi), List.getElem?_map] at h2
      cases e : vs[i]? with
      | none => rw [e] at h2; cases h2
      | some a => rw [e] at h2; cases h2; rfl
    obtain ⟨u, hu, rv⟩ := r.get ha
    have hp : ps[i]? = some y := by
      rw [← S.pre, List.getElem?_take_of_lt (by omega)]; exact h1
    have ndP : ps.Nodup := by rw [← S.pre]; exact S.nd.sublist (List.take_sublist _ _)
    refine ⟨u, rv, ?_⟩
    rcases S.par y (List.mem_of_getElem? hp) with k | k
    · exact .inl ⟨k, bindL_get ndP hp hu k⟩
    · obtain ⟨c, e⟩ := cell_has (n := s.heap.objs.size + 1) k
      refine .inr ⟨.inl k, c, e, ?_⟩
      have q := x.cell y c e
      rw [bindC_get ndP hp hu (by show scope.names.lookup y ≠ _; rw [k]; decide)] at q
      exact q
  · exact e0.hok.fresh (Nat.le_of_lt (x.above y c (PySem.mem_of_lookup h)))
  · unfold start
    show _ = N.length
    rw [List.length_append, List.length_map, List.length_replicate]
    omega

theorem fn_of {CX : CXT} {P : Program} {w : World} {K : PySem.W.Frag} {mg : Str → Option Value} {base : Heap} {k : Nat} {f : Addr} {name qual : Str} {params : Arguments} {body : List Stmt} {scope : Scope} {dV kV doc pm cdv ct oc : Value} {an od : Option Addr}
    {osl : Array (Option Value)} {N ps : List Str} {sp : Sp} (lk : K.lookup f = some ⟨oc, od, .func (PySem.W.fnOf name qual params body scope dV kV doc pm an cdv ct), osl⟩) (hcd : PySem.W.codeIn K cdv qual = true) (S : FnScope N ps scope)
    (len : ∀ vs H Q E, sp vs H Q E → vs.length = ps.length)
    (hbody : ∀ (A : Around) (outer : List Env) (s : Shared) (H : Hp) (vs : List V) (Q : VK) (E : XK), Room k (A.deeper (envOfC qual scope s.heap.objs.size f cdv)) → sp vs H Q E →
      ∃ t, PSs (cxOf CX P w K mg base N qual scope f cdv A outer s H E) body t ∧ t { nx := fun _ H' => Q .non H', rt := Q } (start N vs) H) :
    FnOk P w K mg base CX (k + 1) f (PySem.W.fnOf name qual params body scope dV kV doc pm an cdv ct) ps sp := by
  refine ⟨len, fun A outer s H args us vs Q E hr e0 hb r hsp => ?_⟩
  have hl := len _ _ _ _ hsp
  have KX : K.In s.heap := e0.mod.kin.keeps fun b o e => (e0.bs b o e).1
  have lim : s.heap.NoLimit := e0.mod.nolimit.keeps fun b o e => (e0.bs b o e).1
  have hkind : ∀ y ∈ ps.zip us, scope.names.lookup y.1 = some .local ∨ (scope.names.lookup y.1 = some .cell ∧ ((cellsFrom (s.heap.objs.size + 1) scope.names []).lookup y.1).isSome = true) := fun ⟨n, v⟩ hy => by
    rcases S.par n (List.of_mem_zip hy).1 with q | q
    · exact .inl q
    · exact .inr ⟨q, PySem.W.cellsFrom_some _ _ _ (.inl q)⟩
  refine codeAny_call_function hr.depth (KX _ _ lk) rfl S.co S.gen rfl (PySem.W.codeRec_of KX hcd) (hb _ _ _ _ ?_)
  refine wpAny_newFunctionEnv_cells S.kind hkind fun env he s1 x => ?_
  subst he
  refine ⟨lim.keeps x.toInCall.keep, codeAny_func ?_⟩
  obtain ⟨t, ht, hq⟩ := hbody A outer s H vs Q E (hr.deeper _) hsp
  have I : Inv (cxOf CX P w K mg base N qual scope f cdv A outer s H E) [] (start N vs) H s1 := inv_start S hr.hd e0 hl r x
  refine wpAny_mono (ht [] s1 (start N vs) H _ I hq) (fun fl s' hs => ?_) fun e s' hs => hs
  have fin : ∀ {σ' : St} {H' : Hp} {v : V} {u : Value}, Inv (cxOf CX P w K mg base N qual scope f cdv A outer s H E) [] σ' H' s' → RelV v u → Q v H' → CE outer P w H s Q u s' :=
    fun {σ' H' v u} J rv q => ⟨v, H', J.os, J.bare, J.base, J.hok, rv, q⟩
  cases fl with
  | ret u =>
    obtain ⟨v, σ', H', J, rv, q⟩ := hs
    exact fin J rv q
  | next =>
    obtain ⟨σ', H', J, q⟩ := hs
    exact fin (v := V.non) (u := Value.none) J rfl q
  | brk =>
    obtain ⟨_, _, _, q⟩ := hs
    exact False.elim q
  | cont =>
    obtain ⟨_, _, _, q⟩ := hs
    exact False.elim q
end L2

namespace L2
open PySem PySem.Spec PyProof.Rows
section
variable {X : Cx} {x : Str} {p pos : Pos} {e : Expr} {es : List Expr} {t : TA} {id T : String} {r : List V → Hp → VK → Prop}

def tCB (r : List V → Hp → VK → Prop) (t : TA) : TE := fun σ H Q => t σ H fun vs H1 => r vs H1 Q
theorem pe_callB (hc : CallR X (.builtin id) r) (hg : Gl X x) (hm : X.mg x = none) (hv : bootBuiltins x = some (.builtin id)) (ha : PA X (e :: es) t) (hn : x ≠ "__name__" := by decide) (hdb : (x == ("__debug__" : Str)) = false := by decide)
    (he : starEach (e :: es) X.env = (false, eval e X.env) :: starEach es X.env := by rfl) (hpl : (backTo pos (starEach es X.env)).any (·.1) = false := by rfl) : PE X (.Call (.Name x p) (e :: es) [] pos) (tCB r t) := by
  intro pins s σ H Q I h
  refine wpAny_Call_Name_kw (ld_blt I hg hm hv ?_ hn hdb)
  exact PyProof.Rows.callWith_builtin1 (thn (ha pos pins s σ H _ I h) fun us s1 ⟨vs, H1, I1, r1, q1⟩ => hc pins s1 σ H1 vs us Q I1 r1 q1) he hpl
theorem pe_callTy (hc : CallR X (.type T) r) (hg : Gl X x) (hm : X.mg x = none) (hv : bootBuiltins x = some (.type T)) (ha : PA X (e :: es) t) (hn : x ≠ "__name__" := by decide) (hdb : (x == ("__debug__" : Str)) = false := by decide)
    (he : starEach (e :: es) X.env = (false, eval e X.env) :: starEach es X.env := by rfl) (hpl : (backTo pos (starEach es X.env)).any (·.1) = false := by rfl) : PE X (.Call (.Name x p) (e :: es) [] pos) (tCB r t) := by
  intro pins s σ H Q I h
  refine wpAny_Call_Name_kw (ld_blt I hg hm hv ?_ hn hdb)
  exact PyProof.Rows.callWith_type1 (thn (ha pos pins s σ H _ I h) fun us s1 ⟨vs, H1, I1, r1, q1⟩ => hc pins s1 σ H1 vs us Q I1 r1 q1) he hpl
end
end L2

namespace HT
open PySem PyProof.Rows

section
open PySem.SeqAt
open PySem.AutoSeq1 (wpAny_loadPart')
open PySem.MeetsSeq PySem.MeetsSeq2 PySem.MeetsSeq3

end

section
variable {prog : Program} {w : World} {A : Around} {E : Value → Shared → Prop} {s : Shared}

theorem cat_tup {t b : Addr} {vs ws : List Value} {Q : Value → Shared → Prop} (ht : IsTup s.heap t vs.toArray) (hb : IsTup s.heap b ws.toArray) (hv : vs ≠ [])
    (h1 : ws = [] → Q (.ref t) s) (h2 : ws ≠ [] → Q (.ref s.heap.objs.size) { s with heap := s.heap.push { cls := .type "tuple", data := .seq (vs ++ ws).toArray } })
    (hsz : vs.length + ws.length ≤ sizeLine) : wpAny (model prog w) A (binaryOp .Add (.ref t) (.ref b)) Q E s := by
  obtain ⟨⟨cls, dd, data, sl⟩, ho, hc, n, hd⟩ := id ht
  obtain ⟨⟨cls2, dd2, data2, sl2⟩, ho2, hc2, n2, hd2⟩ := id hb
  simp only at hc hd hc2 hd2
  subst hc hd hc2 hd2
  have e : vs.toArray ++ ws.toArray = (vs ++ ws).toArray := by simp
  by_cases hw : ws = []
  · exact concat_meets ⟨_, ho, rfl⟩ ⟨_, ho2, rfl⟩ noFill_tuple_add seq_tuple_add PySem.F.slot_tuple_add PySem.F.entry_tuple_add (PySem.F.args_tuple_add_2 _ _)
      (tuple_addW1 t b vs.toArray ws.toArray n n2 dd dd2 sl sl2 (by simpa using hv) (by simp [hw])) ⟨ho, ho2, h1 hw⟩
  · refine concat_meets ⟨_, ho, rfl⟩ ⟨_, ho2, rfl⟩ noFill_tuple_add seq_tuple_add PySem.F.slot_tuple_add PySem.F.entry_tuple_add (PySem.F.args_tuple_add_2 _ _)
      (tuple_addW2 t b vs.toArray ws.toArray n n2 dd dd2 sl sl2 (by simpa using hv) (by simpa using hw) (by rw [List.size_toArray, List.size_toArray]; exact hsz)) ⟨ho, ho2, ?_⟩
    rw [e]
    exact h2 hw

def sIx (n d : Nat) : Option Int → Nat
  | none => d
  | some v => if v < 0 then (v + (n : Int)).toNat else min v.toNat n
theorem sIx_le (n d : Nat) (hd : d ≤ n) (o : Option Int) : sIx n d o ≤ n := by
  cases o with
  | none => exact hd
  | some v =>
    show (if v < 0 then (v + (n : Int)).toNat else min v.toNat n) ≤ n
    by_cases hv : v < 0
    · rw [if_pos hv]; omega
    · rw [if_neg hv]; exact Nat.min_le_right _ _
theorem clip_eq (v : Int) (n d : Nat) : (if v < 0 then max (v + (n : Int)) 0 else min v (n : Int)) = ((sIx n d (some v) : Nat) : Int) := by
  show (if v < 0 then max (v + (n : Int)) 0 else min v (n : Int)) = (((if v < 0 then (v + (n : Int)).toNat else min v.toNat n) : Nat) : Int)
  by_cases hv : v < 0
  · simp only [if_pos hv]; omega
  · simp only [if_neg hv]; omega
theorem adjust_gen (lo hi : Option Int) (n : Nat) : Builtin.Slice.sliceAdjust lo hi 1 (n : Int) = (((sIx n 0 lo : Nat) : Int), ((sIx n n hi : Nat) : Int)) := by
  have h1 : ¬ ((1 : Int) < 0) := by omega
  unfold Builtin.Slice.sliceAdjust
  simp only [h1, if_false]
  refine Prod.ext ?_ ?_
  · cases lo with
    | none => rfl
    | some v => exact clip_eq v n 0
  · cases hi with
    | none => rfl
    | some v => exact clip_eq v n n
theorem places_gen (i j : Nat) : Builtin.Slice.slicePlaces (i : Int) (j : Int) 1 = j - i := by
  unfold Builtin.Slice.slicePlaces
  have h1 : (1 : Int) > 0 := by omega
  simp only [h1, if_true, Int.ediv_one]
  split <;> omega
theorem slicePart_ {v : Value} {o : Option Int} {Q : Option Int → Shared → Prop} (p : IsPart v o) (h : Q o s) : wpAny (model prog w) A (Builtin.Slice.slicePartIndex v) Q E s := by
  cases p with
  | none => exact slicePart_none h
  | int i t => exact slicePart_int h
theorem sliceApplied_gen {sl : Addr} {vl vu : Value} {lo hi : Option Int} {n : Nat} {Q : Int × Int × Nat → Shared → Prop} (hs : s.heap.IsSliceOf sl vl vu .none) (pl : IsPart vl lo) (pu : IsPart vu hi)
    (h : Q (((sIx n 0 lo : Nat) : Int), 1, sIx n n hi - sIx n 0 lo) s) : wpAny (model prog w) A (Builtin.Slice.sliceApplied (.ref sl) (pure (n : Int))) Q E s := by
  obtain ⟨os, hos, hcs, hds⟩ := id hs
  unfold Builtin.Slice.sliceApplied Builtin.Slice.sliceFields
  refine wpAny_bind (wpAny_bind (wpAny_field hos hds (x := vl) rfl (wpAny_bind (wpAny_field hos hds (x := vu) rfl (wpAny_bind (wpAny_field hos hds (x := .none) rfl (wpAny_pure ?_)))))))
  refine wpAny_bind (slicePart_none ?_)
  show wpAny _ _ (if ((1 : Int) == 0) = true then _ else _) _ _ s
  rw [if_neg (by decide)]
  refine wpAny_bind (slicePart_ pl (wpAny_bind (slicePart_ pu (wpAny_bind (wpAny_pure ?_)))))
  show wpAny _ _ (match Builtin.Slice.sliceAdjust lo hi 1 (n : Int) with | (lo, hi) => pure (lo, (1 : Int), Builtin.Slice.slicePlaces lo hi 1)) _ _ s
  rw [adjust_gen lo hi n]
  show wpAny _ _ (pure (((sIx n 0 lo : Nat) : Int), (1 : Int), Builtin.Slice.slicePlaces ((sIx n 0 lo : Nat) : Int) ((sIx n n hi : Nat) : Int) 1)) _ _ s
  rw [places_gen]
  exact wpAny_pure h
theorem pick_gen (xs : Array Value) (i k : Nat) : ((List.range k).filterMap fun (m : Nat) => xs[((i : Int) + (m : Int) * 1).toNat]?).toArray = ((xs.toList.drop i).take k).toArray := by
  have e : (fun (m : Nat) => xs[((i : Int) + (m : Int) * 1).toNat]?) = fun m => xs[i + m]? := by
    funext m
    have : ((i : Int) + (m : Int) * 1).toNat = i + m := by omega
    rw [this]
  rw [e]
  have := pick_run xs i k
  rw [List.filterMap_map] at this
  have e2 : ((fun x => xs[x]?) ∘ fun x => i + x) = fun m => xs[i + m]? := rfl
  rw [e2] at this
  rw [this]

theorem getItem_tuple_cut {t sl : Addr} {items : Array Value} {vl vu : Value} {lo hi : Option Int} {Q : Value → Shared → Prop} (ht : IsTup s.heap t items) (hs : s.heap.IsSliceOf sl vl vu .none) (pl : IsPart vl lo) (pu : IsPart vu hi)
    (hw : ¬ (sIx items.size 0 lo = 0 ∧ sIx items.size items.size hi = items.size))
    (h : Q (.ref s.heap.objs.size) { s with heap := s.heap.push { cls := .type "tuple", data := .seq ((items.toList.drop (sIx items.size 0 lo)).take (sIx items.size items.size hi - sIx items.size 0 lo)).toArray } })
    (hsz : items.size ≤ sizeLine) : wpAny (model prog w) A (getItem (.ref t) (.ref sl)) Q E s := by
  have htake : sizeOk (.seq ((items.toList.drop (sIx items.size 0 lo)).take (sIx items.size items.size hi - sIx items.size 0 lo)).toArray) := by
    show ((items.toList.drop (sIx items.size 0 lo)).take (sIx items.size items.size hi - sIx items.size 0 lo)).toArray.size ≤ sizeLine
    rw [List.size_toArray, List.length_take, List.length_drop, Array.length_toList]
    omega
  have hj : sIx items.size items.size hi ≤ items.size := sIx_le _ _ (Nat.le_refl _) hi
  obtain ⟨os, hos, hcs, hds⟩ := id hs
  have hTs : s.TypeIs (.ref sl) "slice" := ⟨os, hos, hcs⟩
  unfold getItem
  try with_reducible refine wpAny_holding ?_
  first | refine wpAny_bind (wpAny_pure ?_) | skip
  refine wpAny_bind (wpAny_sequenceKey ht.typeIs (by decide) ?_)
  refine wpAny_bind (wpAny_callSpecial?_slot (name := Str.ofString "__getitem__") ht.typeIs PyProof.Rows.slot_tuple_getitem
    (wpAny_call_entry PyProof.Rows.slot_tuple_getitem ht.typeIs entry_tuple_getitem ?_ (args_tuple_getitem _ _)))
  show wpAny _ _ (Builtin.Tuple.tupleItemsOf (.ref t) >>= _) _ _ s
  refine wpAny_bind (tupleItemsOf_ ht ?_)
  refine wpAny_bind (wpAny_typeOf hTs ?_)
  rw [if_pos (by decide)]
  refine wpAny_bind (sliceApplied_gen hs pl pu ?_)
  have hno : ¬ ((((sIx items.size 0 lo : Nat) : Int) == 0 && (1 : Int) == 1 && (sIx items.size items.size hi - sIx items.size 0 lo) == items.size) = true) := by
    intro q
    rw [Bool.and_eq_true, Bool.and_eq_true] at q
    have q1 : ((sIx items.size 0 lo : Nat) : Int) = 0 := eq_of_beq q.1.1
    have q2 : sIx items.size items.size hi - sIx items.size 0 lo = items.size := eq_of_beq q.2
    exact hw ⟨by omega, by omega⟩
  show wpAny _ _ (if (((sIx items.size 0 lo : Nat) : Int) == 0 && (1 : Int) == 1 && (sIx items.size items.size hi - sIx items.size 0 lo) == items.size) = true then _ else _) _ _ s
  rw [if_neg hno, pick_gen]
  first
    | exact wpAny_bind (m := Builtin.Tuple.tupleExact _) (wpAny_newObj_type (wpAny_pure ⟨_, rfl, wpAny_pure h⟩) htake)
    | exact wpAny_bind (m := Builtin.Tuple.tupleExact _) (wpAny_newObj_type (wpAny_bind (wpAny_pure (wpAny_pure ⟨_, rfl, wpAny_pure h⟩))) htake)
    | exact wpAny_bind (wpAny_bind (m := Builtin.Tuple.tupleExact _) (wpAny_newObj_type (wpAny_pure (wpAny_pure ⟨_, rfl, wpAny_pure h⟩)) htake))
    | exact wpAny_bind (wpAny_bind (m := Builtin.Tuple.tupleExact _) (wpAny_newObj_type (wpAny_pure ⟨_, rfl, wpAny_pure h⟩) htake))
end
end HT

namespace L2
open PySem PySem.Spec PyProof.Rows

abbrev TO := St → Hp → (Option Int → Hp → Prop) → Prop
def PO (X : Cx) (e : Option Expr) (t : TO) : Prop :=
  ∀ (pins : List (Addr × Obj)) (s : Shared) (σ : St) (H : Hp) (Q : Option Int → Hp → Prop), Inv X pins σ H s → t σ H Q →
    wpAny (model X.prog X.w) X.A (evalPart e X.env) (fun u s' => ∃ o H', Inv X pins σ H' s' ∧ IsPart u o ∧ Q o H') X.xe s
def tNoPart : TO := fun _ H Q => Q none H
def tPart (t : TE) : TO := fun σ H Q => t σ H fun x H1 => ∃ i, x = .int i ∧ Q (some i) H1

section
variable {X : Cx} {e : Expr} {te : TE} {lo hi : Option Expr} {tl th : TO} {pos p2 : Pos}

theorem po_none : PO X none tNoPart := by
  intro pins s σ H Q I h
  rw [evalPart_none]
  exact wpAny_pure ⟨none, H, I, .none, h⟩
theorem po_some (h : PE X e te) : PO X (some e) (tPart te) := by
  intro pins s σ H Q I hw
  rw [evalPart_some]
  refine thn (h pins s σ H _ I hw) fun u s1 ⟨x, H1, I1, r1, q1⟩ => ?_
  obtain ⟨i, rfl, q⟩ := q1
  obtain ⟨t, rfl⟩ := r1
  exact ⟨some i, H1, I1, .int i t, q⟩

def SlR (X : Cx) (r : V → Option Int → Option Int → Hp → VK → Prop) : Prop :=
  ∀ (pins : List (Addr × Obj)) (s : Shared) (σ : St) (H : Hp) (x : V) (v vl vu : Value) (lo hi : Option Int) (sl : Addr) (Q : VK), Inv X pins σ H s → RelV x v → s.heap.IsSliceOf sl vl vu .none → IsPart vl lo → IsPart vu hi → r x lo hi H Q →
    ∃ T id, typeLookup (.type T) "__getitem__" = pure (some (.builtin id)) ∧ s.TypeIs v T ∧ wpAny (model X.prog X.w) X.A (getItem v (.ref sl)) (EP X pins σ Q) X.xe s
theorem SlR.or {r r' : V → Option Int → Option Int → Hp → VK → Prop} (h : SlR X r) (h' : SlR X r') : SlR X (fun x lo hi H Q => r x lo hi H Q ∨ r' x lo hi H Q) := by
  intro pins s σ H x v vl vu lo hi sl Q I rx hs pl pu q
  rcases q with q | q
  · exact h pins s σ H x v vl vu lo hi sl Q I rx hs pl pu q
  · exact h' pins s σ H x v vl vu lo hi sl Q I rx hs pl pu q
def tSl (r : V → Option Int → Option Int → Hp → VK → Prop) (te : TE) (tl th : TO) : TE := fun σ H Q => te σ H fun x H1 => tl σ H1 fun l H2 => th σ H2 fun u H3 => r x l u H3 Q
theorem pe_slice {r : V → Option Int → Option Int → Hp → VK → Prop} (hr : SlR X r) (he : PE X e te) (hl : PO X lo tl) (hu : PO X hi th) : PE X (.Subscript e (.Slice lo hi none p2) pos) (tSl r te tl th) := by
  intro pins s σ H Q I h
  refine Subscript_ (thn (he pins s σ H _ I h) fun v s1 ⟨x, H1, I1, r1, q1⟩ => ?_)
  refine wpAny_Slice (thn (hl pins s1 σ H1 _ I1 q1) fun vl s2 ⟨l, H2, I2, pl, q2⟩ => thn (hu pins s2 σ H2 _ I2 q2) fun vu s3 ⟨u, H3, I3, pu, q3⟩ => ?_)
  rw [evalPart_none]
  refine wpAny_pure ?_
  have I4 : Inv X pins σ H3 { s3 with heap := s3.heap.push { cls := .type "slice", data := .fields #[vl, vu, .none] } } := I3.kept (t' := s3.toks) fun b ob q => Heap.get?_push_of_some _ q
  obtain ⟨T, id, hT, ht, hg⟩ := hr pins { s3 with heap := s3.heap.push { cls := .type "slice", data := .fields #[vl, vu, .none] } } σ H3 x v vl vu l u s3.heap.objs.size Q I4 r1 (Heap.IsSliceOf.new ..) pl pu q3
  show wpAny (model X.prog X.w) X.A (subscriptTail e (.Slice lo hi none p2) v (.ref s3.heap.objs.size)) (EP X pins σ Q) X.xe { s3 with heap := s3.heap.push { cls := .type "slice", data := .fields #[vl, vu, .none] } }
  exact tail_any (ops := [.ref s3.heap.objs.size, v]) ht hT hg (by with_unfolding_all rfl)

def cutV (xs : List V) (lo hi : Option Int) : List V := (xs.drop (HT.sIx xs.length 0 lo)).take (HT.sIx xs.length xs.length hi - HT.sIx xs.length 0 lo)
theorem cutV_length (xs : List V) (lo hi : Option Int) : (cutV xs lo hi).length ≤ xs.length := by
  unfold cutV
  rw [List.length_take, List.length_drop]
  omega
def rSlT (K : PySem.W.Frag) : V → Option Int → Option Int → Hp → VK → Prop := fun x lo hi H Q => ∃ a xs, x = .ref a ∧ SqT K H a xs ∧
  ¬ (HT.sIx xs.length 0 lo = 0 ∧ HT.sIx xs.length xs.length hi = xs.length) ∧ ∀ p, H p = none → Q (.ref p) (upd H p (.tup (cutV xs lo hi)))
theorem sl_tup : SlR X (rSlT X.K) := by
  intro pins s σ H x v vl vu lo hi sl Q I rx hs pl pu h
  obtain ⟨a, xs, rfl, hx, hw, q⟩ := h
  cases rx
  obtain ⟨its, r, ht, hz⟩ := I.tuple hx
  have hlen : its.toArray.size = xs.length := by rw [List.size_toArray]; exact r.length.symm
  refine ⟨"tuple", _, PyProof.Rows.slot_tuple_getitem.lookup, ht.typeIs, ?_⟩
  refine HT.getItem_tuple_cut ht hs pl pu (by rw [hlen]; exact hw) ?_ (by rw [hlen]; exact hz)
  rw [hlen]
  refine ⟨.ref s.heap.objs.size, _, I.laid (t' := s.toks) (o := .tup (cutV xs lo hi)) (fun b ob q => Heap.get?_push_of_some _ q) (Nat.le_refl _) ?_, rfl, q _ (I.hok.fresh (Nat.le_refl _))⟩
  exact ⟨Nat.le_trans (cutV_length xs lo hi) hz, _, (r.drop (HT.sIx xs.length 0 lo)).take (HT.sIx xs.length xs.length hi - HT.sIx xs.length 0 lo), IsTup.new _ _⟩

def rCatT (K : PySem.W.Frag) : R2 := fun x y H Q => ∃ a b xs ys, x = .ref a ∧ y = .ref b ∧ SqT K H a xs ∧ SqT K H b ys ∧ xs ≠ [] ∧ xs.length + ys.length ≤ sizeLine ∧
  (ys = [] → Q (.ref a) H) ∧ (ys ≠ [] → ∀ p, H p = none → Q (.ref p) (upd H p (.tup (xs ++ ys))))
theorem Vals.nil_iff {xs : List V} {us : List Value} (r : Vals xs us) : us = [] ↔ xs = [] := by
  cases r with
  | nil => simp
  | cons _ _ => simp
theorem op_catT : OpR X (binaryOp .Add) (rCatT X.K) := by
  intro pins s σ H x y v u Q I rx ry h
  obtain ⟨a, b, xs, ys, rfl, rfl, ha, hb, hx, hz, q1, q2⟩ := h
  cases rx
  cases ry
  obtain ⟨its, r1, p1, _⟩ := I.tuple ha
  obtain ⟨its2, r2, p2, _⟩ := I.tuple hb
  refine HT.cat_tup p1 p2 (fun z => hx (r1.nil_iff.mp z)) (fun z => ⟨.ref a, H, I, rfl, q1 (r2.nil_iff.mp z)⟩) (fun z => ?_) (by rw [← r1.length, ← r2.length]; exact hz)
  refine ⟨.ref s.heap.objs.size, _, I.laid (t' := s.toks) (o := .tup (xs ++ ys)) (fun b ob q => Heap.get?_push_of_some _ q) (Nat.le_refl _) ?_, rfl, q2 (fun w => z (r2.nil_iff.mpr w)) _ (I.hok.fresh (Nat.le_refl _))⟩
  exact ⟨by rw [List.length_append]; exact hz, _, r1.append r2, IsTup.new _ _⟩
end
end L2

namespace L2
open PySem PySem.Spec PyProof.Rows

def ixN (n : Nat) (i : Int) : Option Nat := if 0 ≤ i then (if i < n then some i.toNat else none) else if -(n : Int) ≤ i then some (i + n).toNat else none
def atI {α : Type} (xs : List α) (i : Int) : Option α := (ixN xs.length i).bind fun j => xs[j]?
theorem ixN_seq {n : Nat} {i : Int} {j : Nat} (h : ixN n i = some j) : seqIndex? i n = some j ∧ j < n ∧ -(n : Int) ≤ i ∧ i < n := by
  unfold ixN at h
  by_cases h0 : 0 ≤ i
  · rw [if_pos h0] at h
    by_cases h1 : i < n
    · rw [if_pos h1] at h
      have e : i.toNat = j := Option.some.inj h
      exact ⟨by rw [seqIndex_of h0 h1, e], by omega, by omega, h1⟩
    · rw [if_neg h1] at h; cases h
  · rw [if_neg h0] at h
    by_cases h1 : -(n : Int) ≤ i
    · rw [if_pos h1] at h
      have e : (i + n).toNat = j := Option.some.inj h
      exact ⟨by rw [seqIndex_neg (by omega) h1, e], by omega, h1, by omega⟩
    · rw [if_neg h1] at h; cases h
theorem atI_get {α : Type} {xs : List α} {i : Int} {v : α} (h : atI xs i = some v) : ∃ j, seqIndex? i xs.length = some j ∧ xs[j]? = some v ∧ j < xs.length ∧ -(xs.length : Int) ≤ i ∧ i < xs.length := by
  unfold atI at h
  cases e : ixN xs.length i with
  | none => rw [e] at h; cases h
  | some j =>
    rw [e] at h
    obtain ⟨h1, h2, h3, h4⟩ := ixN_seq e
    exact ⟨j, h1, h, h2, h3, h4⟩
theorem atI_nat {α : Type} {xs : List α} {j : Nat} {v : α} (h : xs[j]? = some v) : atI xs (j : Int) = some v := by
  have hj : j < xs.length := (List.getElem?_eq_some_iff.mp h).1
  have e : ixN xs.length (j : Int) = some j := by
    unfold ixN
    rw [if_pos (by omega), if_pos (by omega)]; simp
  unfold atI; rw [e]; exact h
def PlainIx (b : Expr) : Prop := ∀ o i, subscripted b false o i = operate [o, i] (getItem o i)
def IxR (X : Cx) (r : R2) : Prop :=
  ∀ (value slice : Expr) (pins : List (Addr × Obj)) (s : Shared) (σ : St) (H : Hp) (x y : V) (v u : Value) (Q : VK), Inv X pins σ H s → RelV x v → RelV y u → r x y H Q →
    subscripted slice false v u = operate [v, u] (getItem v u) → wpAny (model X.prog X.w) X.A (subscriptTail value slice v u) (EP X pins σ Q) X.xe s
def MtR (X : Cx) (id : String) (r : V → List V → Hp → VK → Prop) : Prop :=
  ∀ (pins : List (Addr × Obj)) (s : Shared) (σ : St) (H : Hp) (x : V) (xs : List V) (v : Value) (us : List Value) (Q : VK), Inv X pins σ H s → RelV x v → Vals xs us → r x xs H Q →
    wpAny (model X.prog X.w) X.A (call (.builtin id) (v :: us)) (EP X pins σ Q) X.xe s
section
variable {X : Cx} {a b : Expr} {ta tb : TE} {pos : Pos}
theorem pe_ix {r : R2} (hr : IxR X r) (ha : PE X a ta) (hb : PE X b tb) (hs : PlainIx b) : PE X (.Subscript a b pos) (tOp r ta tb) := by
  intro pins s σ H Q I h
  exact Subscript_ (binT ha hb I h fun v u s2 x y H2 I2 rx ry q => hr a b pins s2 σ H2 x y v u Q I2 rx ry q (hs _ _))

def rIxL (K : PySem.W.Frag) : R2 := fun x y H Q => ∃ p xs i v, x = .ref p ∧ y = .int i ∧ SqL K H p xs ∧ atI xs i = some v ∧ Q v H
def rIxT (K : PySem.W.Frag) : R2 := fun x y H Q => ∃ p xs i v, x = .ref p ∧ y = .int i ∧ SqT K H p xs ∧ atI xs i = some v ∧ Q v H
theorem ix_list : IxR X (rIxL X.K) := by
  intro value slice pins s σ H x y v u Q I rx ry h hs
  obtain ⟨p, xs, i, z, rfl, rfl, hq, he, q⟩ := h
  cases rx
  obtain ⟨t, rfl⟩ := ry
  obtain ⟨its, r, pl, hz⟩ := I.list hq
  obtain ⟨j, h1, h2, h3, h4, h5⟩ := atI_get he
  obtain ⟨w, ew, rw'⟩ := r.get h2
  have hl := r.length
  have hn := line63
  have fin : EP X pins σ Q w s := ⟨z, H, I, rw', q⟩
  by_cases h0 : 0 ≤ i
  · have hj : i.toNat = j := by
      rw [seqIndex_of h0 h5] at h1
      exact Option.some.inj h1
    exact item_listR pl.isList h0 (by omega) (by rw [hj]; simpa using ew) fin hs
  · have hj : (i + (its.toArray.size : Int)).toNat = j := by
      rw [seqIndex_neg (by omega) h4] at h1
      rw [List.size_toArray, ← hl]
      exact Option.some.inj h1
    exact subscriptTail_builtinR (x := w) pl.isList.typeIs slot_list_getitem.lookup
      (wpAny_getItem_list_neg (Q := fun r s' => r = w ∧ EP X pins σ Q r s') pl.isList (by omega) (by rw [List.size_toArray] <;> omega) (by omega) (by rw [hj]; simpa using ew) ⟨rfl, fin⟩) hs
theorem ix_tup : IxR X (rIxT X.K) := by
  intro value slice pins s σ H x y v u Q I rx ry h hs
  obtain ⟨p, xs, i, z, rfl, rfl, hq, he, q⟩ := h
  cases rx
  obtain ⟨t, rfl⟩ := ry
  obtain ⟨its, r, pl, hz⟩ := I.tuple hq
  obtain ⟨j, h1, h2, h3, h4, h5⟩ := atI_get he
  obtain ⟨w, ew, rw'⟩ := r.get h2
  have hl := r.length
  have hn := line63
  have fin : EP X pins σ Q w s := ⟨z, H, I, rw', q⟩
  exact subscriptTail_builtinR (x := w) pl.typeIs slot_tuple_getitem.lookup
    (getItem_tuple (j := j) (Q := fun r s' => r = w ∧ EP X pins σ Q r s') pl (by omega) (by omega) (by rw [List.size_toArray, ← hl]; exact h1) (by simpa using ew) ⟨rfl, fin⟩) hs
theorem mapSeq_set (its : List Value) (n j : Nat) (u : Value) : Obj.mapSeq (·.setIfInBounds j u) { cls := .type "list", data := .seq its.toArray n } = { cls := .type "list", data := .seq (its.set j u).toArray n } := by
  simp [Obj.mapSeq]
theorem Inv.lst {pins : List (Addr × Obj)} {σ : St} {H : Hp} {s : Shared} {p : Addr} {xs : List V} (I : Inv X pins σ H s) (h : H p = some (.lst xs)) :
    ∃ (its : List Value) (n : Nat), Vals xs its ∧ s.heap.get? p = some { cls := .type "list", data := .seq its.toArray n } ∧ xs.length ≤ sizeLine := by
  obtain ⟨z, its, n, r, e⟩ := I.hok p _ h
  exact ⟨its, n, r, e, z⟩
theorem Inv.lstUpd {pins : List (Addr × Obj)} {σ : St} {H : Hp} {s : Shared} {p : Addr} {xs ys : List V} {its its' : List Value} {n n' : Nat} {f : Obj → Obj} (I : Inv X pins σ H s) (h : H p = some (.lst xs))
    (ho : s.heap.get? p = some { cls := .type "list", data := .seq its.toArray n }) (hf : f { cls := .type "list", data := .seq its.toArray n } = { cls := .type "list", data := .seq its'.toArray n' }) (r : Vals ys its') (hz : ys.length ≤ sizeLine) (t : Nat) :
    Inv X pins σ (upd H p (.lst ys)) { s with heap := s.heap.update p f, toks := t } := by
  have e : (s.heap.update p f).get? p = some { cls := .type "list", data := .seq its'.toArray n' } := by
    rw [Heap.get?_update_self f ho (by rw [hf] <;> rfl), hf]
  refine I.write (x := p) (e := p) (by rw [h]; trivial) (.inl rfl) (fun b u hb q => (Heap.get?_update_other _ _ (Ne.symm hb)).trans q) ⟨_, e⟩ ?_
  exact ⟨hz, its', n', r, e⟩
def rSetL : V → V → V → Hp → (Hp → Prop) → Prop := fun o i v H Q => ∃ p xs k j, o = .ref p ∧ i = .int k ∧ H p = some (.lst xs) ∧ ixN xs.length k = some j ∧ Q (upd H p (.lst (xs.set j v)))
theorem set_list : PSet X rSetL := by
  intro pins s σ H o i v ov iv u Q I ro ri rv h
  obtain ⟨p, xs, k, j, rfl, rfl, hp, hj, q⟩ := h
  cases ro
  obtain ⟨t, rfl⟩ := ri
  obtain ⟨its, n, r, ho, hz⟩ := I.lst hp
  obtain ⟨h1, h2, h3, h4⟩ := ixN_seq hj
  have hl := r.length
  have hn := line63
  have I' : Inv X pins σ (upd H p (.lst (xs.set j v))) { s with heap := s.heap.update p (Obj.mapSeq (·.setIfInBounds j u)) } :=
    I.lstUpd hp ho (mapSeq_set its n j u) (r.set rv j) (by rw [List.length_set]; exact hz) s.toks
  by_cases h0 : 0 ≤ k
  · have hk : k.toNat = j := by
      rw [seqIndex_of h0 h4] at h1
      exact Option.some.inj h1
    exact PySem.W.ki_setAt ho h0 (by omega) (by rw [List.size_toArray, ← hl]; exact h4) (by rw [hk]; exact ⟨_, I', q⟩)
  · have hk : (k + (its.toArray.size : Int)).toNat = j := by
      rw [seqIndex_neg (by omega) h3] at h1
      rw [List.size_toArray, ← hl]
      exact Option.some.inj h1
    exact PySem.W.ki_setBack ho (by omega) (by rw [List.size_toArray, ← hl]; exact h3) (by omega) (by rw [hk]; exact ⟨_, I', q⟩)

theorem slice_bounds (lo hi : Option Int) (n : Nat) : (sliceBounds lo hi none n).1 = ((HT.sIx n 0 lo : Nat) : Int) ∧ (sliceBounds lo hi none n).2.1 = ((HT.sIx n n hi : Nat) : Int) ∧ (sliceBounds lo hi none n).2.2 = 1 := by
  refine ⟨?_, ?_, rfl⟩
  · cases lo with
    | none => simp [sliceBounds, HT.sIx]
    | some i =>
      simp only [sliceBounds, HT.sIx, Option.getD_none, show (1 : Int) > 0 by decide, if_true]
      by_cases h : i < 0
      · simp only [h, if_true] <;> omega
      · simp only [h, if_false] <;> omega
  · cases hi with
    | none => simp [sliceBounds, HT.sIx]
    | some i =>
      simp only [sliceBounds, HT.sIx, Option.getD_none, show (1 : Int) > 0 by decide, if_true]
      by_cases h : i < 0
      · simp only [h, if_true] <;> omega
      · simp only [h, if_false] <;> omega
theorem slicePick_cut (its : List Value) (lo hi : Option Int) : slicePick its.toArray lo hi none = ((its.drop (HT.sIx its.length 0 lo)).take (HT.sIx its.length its.length hi - HT.sIx its.length 0 lo)).toArray := by
  obtain ⟨h1, h2, h3⟩ := slice_bounds lo hi its.toArray.size
  unfold slicePick
  rw [h1, h2, h3]
  simp only [sliceRange_one, pick_run, List.size_toArray] <;> rfl
def rSlL (K : PySem.W.Frag) : V → Option Int → Option Int → Hp → VK → Prop := fun x lo hi H Q => ∃ a xs, x = .ref a ∧ SqL K H a xs ∧ ∀ p, H p = none → Q (.ref p) (upd H p (.lst (cutV xs lo hi)))
theorem sl_list : SlR X (rSlL X.K) := by
  intro pins s σ H x v vl vu lo hi sl Q I rx hs pl pu h
  obtain ⟨a, xs, rfl, hx, q⟩ := h
  cases rx
  obtain ⟨its, r, ht, hz⟩ := I.list hx
  have hlen := r.length
  refine ⟨"list", _, slot_list_getitem.lookup, ht.isList.typeIs, ?_⟩
  refine wpAny_getItem_list_slice ht.isList hs pl pu .none (by simp) ?_ (by rw [List.size_toArray] <;> omega)
  rw [slicePick_cut, ← hlen]
  refine ⟨.ref s.heap.objs.size, _, I.laid (t' := s.toks) (o := .lst (cutV xs lo hi)) (fun b ob q => Heap.get?_push_of_some _ q) (Nat.le_refl _) ?_, rfl, q _ (I.hok.fresh (Nat.le_refl _))⟩
  exact ⟨Nat.le_trans (cutV_length xs lo hi) hz, _, 0, (r.drop (HT.sIx xs.length 0 lo)).take (HT.sIx xs.length xs.length hi - HT.sIx xs.length 0 lo), Heap.get?_push_size _ rfl⟩

theorem call_len_seq : CallR X (.builtin "len") (fun xs H Q => ∃ p ys, xs = [.ref p] ∧ (SqL X.K H p ys ∨ SqT X.K H p ys) ∧ Q (.int ys.length) H) := by
  intro pins s σ H xs us Q I r h
  obtain ⟨p, ys, rfl, hq, q⟩ := h
  obtain ⟨u, rfl, rx⟩ := vals1 r
  cases rx
  have hn := line63
  rcases hq with hq | hq
  · obtain ⟨its, r', pl, hz⟩ := I.list hq
    have hlen := r'.length
    exact Calls.call_len_list pl.isList (by simp only [List.size_toArray] <;> omega) ⟨.int ys.length, H, I.tok _, ⟨s.toks + 1, by rw [List.size_toArray, hlen]⟩, q⟩
  · obtain ⟨its, r', pl, hz⟩ := I.tuple hq
    have hlen := r'.length
    exact len_tuple pl (by simp only [List.size_toArray] <;> omega) ⟨.int ys.length, H, I.tok _, ⟨s.toks + 1, by rw [List.size_toArray, hlen]⟩, q⟩
theorem call_list_of : CallR X (.type "list") (fun xs H Q => ∃ p ys, xs = [.ref p] ∧ (SqL X.K H p ys ∨ SqT X.K H p ys) ∧ ∀ l, H l = none → Q (.ref l) (upd H l (.lst ys))) := by
  intro pins s σ H xs us Q I r h
  obtain ⟨p, ys, rfl, hq, q⟩ := h
  obtain ⟨u, rfl, rx⟩ := vals1 r
  cases rx
  have fin : ∀ (its : List Value), Vals ys its → ys.length ≤ sizeLine → ∀ (h' : Heap) (c' : Nat), (∀ b o', s.heap.get? b = some o' → h'.get? b = some o') →
      h'.get? s.heap.objs.size = some { cls := .type "list", dict := none, data := .seq its.toArray c', slots := #[] } → EP X pins σ Q (.ref s.heap.objs.size) { s with heap := h' } := fun its r' hz h' c' kp e =>
    ⟨.ref s.heap.objs.size, _, I.laid (t' := s.toks) kp (Nat.le_refl _) (show ObjOk X.prog X.w _ h' _ (.lst ys) from ⟨hz, its, c', r', e⟩), rfl, q _ (I.hok.fresh (Nat.le_refl _))⟩
  rcases hq with hq | hq
  · obtain ⟨its, r', pl, hz⟩ := I.list hq
    have hlen := r'.length
    obtain ⟨o, ho, hc, n, hd⟩ := pl.isList
    exact call_list_seq p (.inl rfl) ho hc hd (fun h' c' kp e => fin its r' hz h' c' kp e) (by simp only [List.size_toArray] <;> omega)
  · obtain ⟨its, r', pl, hz⟩ := I.tuple hq
    have hlen := r'.length
    obtain ⟨o, ho, hc, n, hd⟩ := pl
    exact call_list_seq p (.inr rfl) ho hc hd (fun h' c' kp e => fin its r' hz h' c' kp e) (by simp only [List.size_toArray] <;> omega)
theorem call_tuple_of : CallR X (.type "tuple") (fun xs H Q => ∃ p ys, xs = [.ref p] ∧ ((SqL X.K H p ys ∧ ∀ l, H l = none → Q (.ref l) (upd H l (.tup ys))) ∨ (SqT X.K H p ys ∧ Q (.ref p) H))) := by
  intro pins s σ H xs us Q I r h
  obtain ⟨p, ys, rfl, h⟩ := h
  obtain ⟨u, rfl, rx⟩ := vals1 r
  cases rx
  rcases h with ⟨hq, q⟩ | ⟨hq, q⟩
  · obtain ⟨its, r', pl, hz⟩ := I.list hq
    have hlen := r'.length
    refine call_tuple_list pl.isList (fun h' kp => ?_) (by simp only [List.size_toArray] <;> omega)
    have I1 : Inv X pins σ H { s with heap := h' } := I.kept (t' := s.toks) kp
    have I2 : Inv X pins σ (upd H h'.objs.size (.tup ys)) { s with heap := h'.push { cls := .type "tuple", data := .seq its.toArray } } :=
      I1.laid (t' := s.toks) (fun b o e => Heap.get?_push_of_some _ e) (Nat.le_refl _) (show ObjOk X.prog X.w _ _ _ (.tup ys) from ⟨hz, its, r', IsTup.new _ _⟩)
    exact ⟨.ref h'.objs.size, _, I2, rfl, q _ (I1.hok.fresh (Nat.le_refl _))⟩
  · obtain ⟨its, r', pl, hz⟩ := I.tuple hq
    exact call_tuple_same pl ⟨.ref p, H, I, rfl, q⟩

def tyV (K : PySem.W.Frag) (T : String) (x : V) (H : Hp) : Prop := match x with
  | .str _ => T = "str"
  | .int _ => T = "int"
  | .ref p => (T = "list" ∧ ∃ xs, SqL K H p xs) ∨ (T = "tuple" ∧ ∃ o, K.lookup p = some o ∧ o.cls = .type "tuple" ∧ o.dict = none) ∨
      (T = "dict" ∧ ((∃ kvs, H p = some (.dK kvs)) ∨ ∃ kvs, H p = some (.dT kvs))) ∨ (T = "set" ∧ ∃ S n, H p = some (.set S n))
  | _ => False
theorem tyV_is {pins : List (Addr × Obj)} {σ : St} {H : Hp} {s : Shared} {T : String} {x : V} {v : Value} (I : Inv X pins σ H s) (r : RelV x v) (ty : tyV X.K T x H) :
    s.TypeIs v T ∧ ∀ a, v = .ref a → ∃ ob, s.heap.get? a = some ob ∧ ob.dict = none := by
  cases x with
  | str z =>
    obtain ⟨t, rfl⟩ := r
    cases (show T = "str" from ty)
    exact ⟨typeIs_str s z t, fun _ e => nomatch e⟩
  | int i =>
    obtain ⟨t, rfl⟩ := r
    cases (show T = "int" from ty)
    exact ⟨typeIs_int s i t, fun _ e => nomatch e⟩
  | ref p =>
    cases r
    rcases ty with ⟨rfl, xs, hq⟩ | ⟨rfl, o, hk, hc, hd⟩ | ⟨rfl, hk⟩ | ⟨rfl, S, n, hk⟩
    · obtain ⟨its, _, pl, _⟩ := I.list hq
      refine ⟨pl.isList.typeIs, fun a e => ?_⟩
      cases e
      obtain ⟨o, n, e, c, hd, _⟩ := pl
      exact ⟨o, e, hd⟩
    · refine ⟨⟨o, I.kIn p o hk, hc⟩, fun a e => ?_⟩
      cases e
      exact ⟨o, I.kIn _ o hk, hd⟩
    · have z : ∃ o, s.heap.get? p = some o ∧ o.ExactDict := by
        rcases hk with ⟨kvs, hk⟩ | ⟨kvs, hk⟩
        · obtain ⟨_, _, _, _, o, _, _, e, ex, _⟩ := I.hok p _ hk
          exact ⟨o, e, ex⟩
        · obtain ⟨_, _, _, _, o, _, _, e, ex, _⟩ := I.hok p _ hk
          exact ⟨o, e, ex⟩
      obtain ⟨o, e, ex⟩ := z
      refine ⟨⟨o, e, ex.1⟩, fun a e2 => ?_⟩
      cases e2
      exact ⟨o, e, ex.2.1⟩
    · obtain ⟨o, _, _, _, e, ex, _⟩ := I.hok p _ hk
      refine ⟨⟨o, e, ex.1⟩, fun a e2 => ?_⟩
      cases e2
      exact ⟨o, e, ex.2.1⟩
  | _ => exact False.elim ty
def tBM (K : PySem.W.Frag) (T : String) (r : V → List V → Hp → VK → Prop) (to : TE) (t : TA) : TE := fun σ H Q => to σ H fun x H1 => tyV K T x H1 ∧ t σ H1 fun xs H2 => r x xs H2 Q
variable {o e : Expr} {es : List Expr} {to : TE} {t : TA} {name : Str} {apos cpos : Pos} {T id : String} {r : V → List V → Hp → VK → Prop}
theorem pe_bm (pa : PlainAttrs T) (slot : Slot T name id) (hty : typeOf (.builtin id) = pure (.type "method_descriptor")) (hm : MtR X id r) (ho : PE X o to) (ha : PA X (e :: es) t)
    (hbase : attributeBase o name X.env (eval o X.env) = eval o X.env := by rfl)
    (hfew : ((backTo cpos (starEach (e :: es) X.env)).all (fun x => !x.1) && (backToKw cpos (keywordEach [] X.env)).all (fun x => x.1.isSome)
      && decide ((e :: es).length + ([] : List Keyword).length + (if ([] : List Keyword).isEmpty then 0 else 1) < 30)) = true := by rfl)
    (hline : (apos.endLine == cpos.line) = true := by rfl) (hs : starEach (e :: es) X.env = (false, eval e X.env) :: starEach es X.env := by rfl) (hplain : (backTo cpos (starEach es X.env)).any (·.1) = false := by rfl) :
    PE X (.Call (.Attribute o name apos) (e :: es) [] cpos) (tBM X.K T r to t) := by
  intro pins s σ H Q I h
  refine wpAny_Call_method_late hbase hfew hline rfl (thn (ho pins s σ H _ I h) fun v s1 ⟨x, H1, I1, r1, ty, q1⟩ => ?_)
  obtain ⟨h1, h2⟩ := tyV_is I1 r1 ty
  refine ⟨T, id, pa, slot, hty, h1, h2, ?_⟩
  have hA := ha cpos pins s1 σ H1 _ I1 q1
  rw [hs] at hA ⊢
  refine Calls.callWith_builtin (by show (false || (backTo cpos (starEach es X.env)).any (·.1)) = false; rw [hplain] <;> rfl) (Calls.evalArgs_plain ?_)
  exact thn hA fun us s2 ⟨vs, H2, I2, r2, q2⟩ => hm pins s2 σ H2 x vs v us Q I2 r1 r2 q2
end
end L2

namespace L2
open PySem PySem.Spec PyProof.Rows

def MtM (X : Cx) (id : String) (r : V → List V → Hp → VK → Prop) : Prop :=
  ∀ (pins : List (Addr × Obj)) (s : Shared) (σ : St) (H : Hp) (x : V) (xs : List V) (v : Value) (us : List Value) (Q : VK), Inv X pins σ H s → RelV x v → Vals xs us → r x xs H Q →
    wpAny (model X.prog X.w) X.A (call (.builtin id) (v :: us)) (EP X pins σ Q) X.xe s

theorem Vals.one : ∀ {x : V} {us : List Value}, Vals [x] us → ∃ u, us = [u] ∧ RelV x u
  | _, _, .cons r .nil => ⟨_, rfl, r⟩
theorem Vals.rep {xs : List V} {us : List Value} (h : Vals xs us) : ∀ k : Nat, Vals (List.replicate k xs).flatten (List.replicate k us).flatten
  | 0 => .nil
  | k + 1 => by
    rw [List.replicate_succ, List.replicate_succ, List.flatten_cons, List.flatten_cons]
    exact Vals.append h (Vals.rep h k)
theorem foldl_rep (its : List Value) : ∀ (k : Nat) (acc : List Value),
    List.foldl (fun x1 x2 => x1 ++ x2) acc.toArray (List.replicate k its.toArray) = (acc ++ (List.replicate k its).flatten).toArray
  | 0, acc => by simp
  | k + 1, acc => by
    have e : acc.toArray ++ its.toArray = (acc ++ its).toArray := by simp
    have e2 : (acc ++ its) ++ (List.replicate k its).flatten = acc ++ (List.replicate (k + 1) its).flatten := by
      rw [List.replicate_succ, List.flatten_cons, List.append_assoc]
    rw [← e2, ← foldl_rep its k (acc ++ its), ← e, List.replicate_succ, List.foldl_cons]

section
variable {X : Cx} {pins : List (Addr × Obj)} {σ : St} {H : Hp} {s : Shared} {l b : Addr} {xs ys zs : List V}

theorem Inv.lset {its its' : List Value} {n : Nat} {f : Array Value → Array Value} {t' : Nat} (I : Inv X pins σ H s) (hH : H l = some (.lst xs))
    (e : s.heap.get? l = some { cls := .type "list", data := .seq its.toArray n }) (hf : f its.toArray = its'.toArray) (hv : Vals ys its') (hz : ys.length ≤ sizeLine) :
    Inv X pins σ (upd H l (.lst ys)) { s with heap := s.heap.update l (Obj.mapSeq f), toks := t' } := by
  have q := PySem.IsL.update e f
  rw [hf] at q
  refine I.write (x := l) (e := l) (by rw [hH]; exact trivial) (.inl rfl) (fun b' u hb hu => (Heap.get?_update_other s.heap (Obj.mapSeq f) (Ne.symm hb)).trans hu) ⟨_, q⟩ ?_
  exact ⟨hz, its', _, hv, q⟩
theorem Inv.lnew {its : List Value} {t' : Nat} (I : Inv X pins σ H s) (hv : Vals ys its) (hz : ys.length ≤ sizeLine) :
    Inv X pins σ (upd H s.heap.objs.size (.lst ys)) { s with heap := s.heap.push { cls := .type "list", data := .seq its.toArray }, toks := t' } :=
  I.laid (fun _ _ q => Heap.get?_push_of_some _ q) (Nat.le_refl _) ⟨hz, its, 0, hv, Heap.get?_push_size _ rfl⟩
theorem Inv.fresh (I : Inv X pins σ H s) : H s.heap.objs.size = none := I.hok.fresh (Nat.le_refl _)
theorem Inv.lstM (I : Inv X pins σ H s) (hH : H l = some (.lst xs)) : xs.length ≤ sizeLine ∧ ∃ (its : List Value) (n : Nat), Vals xs its ∧ xs.length = its.length ∧ s.heap.get? l = some { cls := .type "list", data := .seq its.toArray n } := by
  obtain ⟨z, its, n, r, e⟩ := I.hok l _ hH
  exact ⟨z, its, n, r, r.length, e⟩

theorem notLongL {n : Nat} (h : n ≤ sizeLine) : Builtin.List.listTooLong n = false := by
  unfold Builtin.List.listTooLong
  exact decide_eq_false (by omega)
end

section
variable {X : Cx}

def rAppend : V → List V → Hp → VK → Prop := fun x vs H Q => ∃ l xs y, x = .ref l ∧ vs = [y] ∧ H l = some (.lst xs) ∧ xs.length < sizeLine ∧ Q .non (upd H l (.lst (xs ++ [y])))
theorem mt_append : MtM X "list.append" rAppend := by
  intro pins s σ H x vs v us Q I rx rv h
  obtain ⟨l, xs, y, rfl, rfl, hH, hz, q⟩ := h
  cases rx
  obtain ⟨u, rfl, ru⟩ := rv.one
  obtain ⟨z, its, n, r, hl, e⟩ := I.lstM hH
  refine call_meets F.slot_list_append ⟨_, e, rfl⟩ F.entry_list_append (F.args_list_append_2 _ _) (PySem.list_append l its.toArray n u (by rw [List.size_toArray]; omega)) ⟨e, ?_⟩
  refine ⟨.non, _, I.lset (its' := its ++ [u]) hH e (by simp) (r.append (.cons ru .nil)) ?_, rfl, q⟩
  rw [List.length_append, List.length_singleton]
  omega

def rExtend : V → List V → Hp → VK → Prop := fun x vs H Q => ∃ l b xs zs, x = .ref l ∧ vs = [.ref b] ∧ H l = some (.lst xs) ∧ H b = some (.lst zs) ∧ xs.length + zs.length ≤ sizeLine ∧ Q .non (upd H l (.lst (xs ++ zs)))
theorem mt_extend : MtM X "list.extend" rExtend := by
  intro pins s σ H x vs v us Q I rx rv h
  obtain ⟨l, b, xs, zs, rfl, rfl, hH, hB, hz, q⟩ := h
  cases rx
  obtain ⟨u, rfl, ru⟩ := rv.one
  cases ru
  obtain ⟨z, its, n, r, hl, e⟩ := I.lstM hH
  obtain ⟨z2, its2, n2, r2, hl2, e2⟩ := I.lstM hB
  have hsz : its.toArray.size + its2.toArray.size ≤ sizeLine := by rw [List.size_toArray, List.size_toArray]; omega
  have hlong : ¬ (!its.toArray.isEmpty && Builtin.List.listTooLong (its.toArray.size + its2.toArray.size)) = true := by
    rw [notLongL hsz, Bool.and_false]
    exact Bool.false_ne_true
  refine call_meets F.slot_list_extend ⟨_, e, rfl⟩ F.entry_list_extend (F.args_list_extend_2 _ _)
    (AutoSeq1.list_extend_list_list_0 l its.toArray n b its2.toArray n2 hlong (by rw [List.size_toArray]; omega) (by omega)) ⟨e, e2, ?_⟩
  refine ⟨.non, _, I.lset (its' := its ++ its2) hH e (by simp) (r.append r2) ?_, rfl, q⟩
  rw [List.length_append]
  omega

def rCat : R2 := fun x y H Q => ∃ l b xs zs, x = .ref l ∧ y = .ref b ∧ H l = some (.lst xs) ∧ H b = some (.lst zs) ∧ xs.length + zs.length ≤ sizeLine ∧ ∀ p, H p = none → Q (.ref p) (upd H p (.lst (xs ++ zs)))
theorem op_cat : OpR X (binaryOp .Add) rCat := by
  intro pins s σ H x y v u Q I rx ry h
  obtain ⟨l, b, xs, zs, rfl, rfl, hH, hB, hz, q⟩ := h
  cases rx
  cases ry
  obtain ⟨z, its, n, r, hl, e⟩ := I.lstM hH
  obtain ⟨z2, its2, n2, r2, hl2, e2⟩ := I.lstM hB
  refine PySem.P.add_list e e2 ?_ (by rw [List.size_toArray, List.size_toArray]; omega)
  have ea : its.toArray ++ its2.toArray = (its ++ its2).toArray := by simp
  rw [ea]
  exact ⟨.ref _, _, I.lnew (t' := s.toks) (r.append r2) (by rw [List.length_append]; omega), rfl, q _ I.fresh⟩
def rRep : R2 := fun x y H Q => ∃ l k xs, x = .ref l ∧ y = .int k ∧ H l = some (.lst xs) ∧ -(2 ^ 63) ≤ k ∧ k < 2 ^ 63 ∧ xs.length * k.toNat ≤ sizeLine ∧
  ∀ p, H p = none → Q (.ref p) (upd H p (.lst (List.replicate k.toNat xs).flatten))
theorem len_rep {α : Type} (xs : List α) (k : Nat) : (List.replicate k xs).flatten.length = k * xs.length := by
  induction k with
  | zero => simp
  | succ k ih => rw [List.replicate_succ, List.flatten_cons, List.length_append, ih, Nat.succ_mul, Nat.add_comm]
theorem op_rep : OpR X (binaryOp .Mult) rRep := by
  intro pins s σ H x y v u Q I rx ry h
  obtain ⟨l, k, xs, rfl, rfl, hH, h1, h2, hz, q⟩ := h
  cases rx
  obtain ⟨t, rfl⟩ := ry
  obtain ⟨z, its, n, r, hl, e⟩ := I.lstM hH
  have hlen : its.toArray.size * k.toNat ≤ sizeLine := by rw [List.size_toArray, ← hl]; exact hz
  have hcap : ¬ its.toArray.size * k.toNat > (2 ^ 63 - 1) / 8 := by
    have : (sizeLine : Nat) ≤ (2 ^ 63 - 1) / 8 := by decide
    omega
  have hfit : ¬ (!Builtin.List.listFitsIndex k) = true := by
    rw [fitsIndex_both h1 h2]
    exact Bool.false_ne_true
  have hlong : ¬ Builtin.List.listTooLong (its.toArray.size * k.toNat) = true := by
    rw [notLongL hlen]
    exact Bool.false_ne_true
  have hnew : List.foldl (fun x1 x2 => x1 ++ x2) #[] (List.replicate (if its.toArray.isEmpty = true then 0 else k.toNat) its.toArray) = (List.replicate k.toNat its).flatten.toArray := by
    have f0 : ∀ m : Nat, List.foldl (fun x1 x2 => x1 ++ x2) #[] (List.replicate m its.toArray) = (List.replicate m its).flatten.toArray := fun m => by
      have := foldl_rep its m []
      rw [List.nil_append] at this
      exact this
    rw [f0]
    cases its with
    | nil => simp
    | cons a r' => rw [if_neg (by simp)]
  refine wpAny_binaryOp_repeat_ref (T := "list") (U := "int") (by decide) ⟨_, e, rfl⟩ (fun s' => typeIs_int s' k t) noFill_list_mul F.fills_int_mul F.slot_int_rmul repeat_list F.slot_int_index.lookup
    (call_meets F.slot_int_rmul (typeIs_int s k t) F.entry_int_rmul (F.args_int_rmul_2 _ _) (int___rmul___int_list k t l its.toArray n)
      ⟨e, rfl, ⟨_, e, rfl⟩, call_meets F.slot_list_mul ⟨_, e, rfl⟩ F.entry_list_mul (F.args_list_mul_2 _ _) (AutoListH.list___mul___list_int_3 l its.toArray n k t hfit hcap hlong) ⟨e, ?_⟩⟩)
  rw [hnew]
  exact ⟨.ref _, _, I.lnew (t' := s.toks) (r.rep k.toNat) (by rw [len_rep, Nat.mul_comm]; exact hz), rfl, q _ I.fresh⟩

end

section
variable {prog : Program} {w : World} {A : Around} {E : Value → Shared → Prop} {s : Shared}
end

section
variable {X : Cx}
end
end L2

namespace L2
open PySem PySem.Spec PyProof.Rows

section
variable {κ : Type} [DecidableEq κ]
def valV (kvs : List (κ × V)) (k : κ) : Option V := (kvs.find? fun kv => decide (kv.1 = k)).map (·.2)
def putK (kvs : List (κ × V)) (k : κ) (v : V) : List (κ × V) :=
  if (kvs.any fun kv => decide (kv.1 = k)) = true then kvs.map (fun kv => if kv.1 = k then (kv.1, v) else kv) else kvs ++ [(k, v)]
def dropK (kvs : List (κ × V)) (k : κ) : List (κ × V) := kvs.filter fun kv => decide (kv.1 ≠ k)

theorem valV_pos {p : κ × V} {r : List (κ × V)} {k : κ} (e : p.1 = k) : valV (p :: r) k = some p.2 := by simp [valV, List.find?_cons, e]
theorem valV_neg {p : κ × V} {r : List (κ × V)} {k : κ} (e : ¬ p.1 = k) : valV (p :: r) k = valV r k := by simp [valV, List.find?_cons, e]
theorem valV_any (k : κ) : ∀ kvs : List (κ × V), (kvs.any fun kv => decide (kv.1 = k)) = (valV kvs k).isSome
  | [] => rfl
  | p :: r => by
    rw [List.any_cons]
    by_cases e : p.1 = k
    · simp only [valV_pos e, decide_eq_true e, Bool.true_or, Option.isSome_some]
    · rw [valV_neg e, decide_eq_false e, Bool.false_or]; exact valV_any k r
theorem valV_map (k j : κ) (y : V) : ∀ kvs : List (κ × V), valV (kvs.map fun kv => if kv.1 = k then (kv.1, y) else kv) j = (valV kvs j).map fun x => if j = k then y else x
  | [] => rfl
  | p :: r => by
    have ih := valV_map k j y r
    rw [List.map_cons]
    by_cases h : p.1 = k
    · rw [if_pos h]
      by_cases e : p.1 = j
      · rw [valV_pos (p := (p.1, y)) e, valV_pos e, Option.map_some, if_pos (e.symm.trans h)]
      · rw [valV_neg (p := (p.1, y)) e, valV_neg e, ih]
    · rw [if_neg h]
      by_cases e : p.1 = j
      · rw [valV_pos (p := p) e, valV_pos e, Option.map_some, if_neg (fun z => h (e.trans z))]
      · rw [valV_neg (p := p) e, valV_neg e, ih]
theorem valV_snoc (k j : κ) (y : V) : ∀ kvs : List (κ × V), valV kvs k = none → valV (kvs ++ [(k, y)]) j = if j = k then some y else valV kvs j
  | [], _ => by
    by_cases e : k = j
    · rw [if_pos e.symm]; exact valV_pos (p := (k, y)) e
    · rw [if_neg (fun z => e z.symm)]; exact valV_neg (p := (k, y)) e
  | p :: r, hn => by
    rw [List.cons_append]
    have hk : ¬ p.1 = k := fun z => by rw [valV_pos z] at hn; cases hn
    rw [valV_neg hk] at hn
    have ih := valV_snoc k j y r hn
    by_cases e : p.1 = j
    · rw [valV_pos e, valV_pos e, if_neg (fun z => hk (e.trans z))]
    · rw [valV_neg e, valV_neg e, ih]
theorem valV_put (kvs : List (κ × V)) (k j : κ) (y : V) : valV (putK kvs k y) j = if j = k then some y else valV kvs j := by
  unfold putK
  by_cases a : (kvs.any fun kv => decide (kv.1 = k)) = true
  · rw [if_pos a, valV_map]
    rw [valV_any] at a
    by_cases e : j = k
    · obtain ⟨x, hx⟩ := Option.isSome_iff_exists.mp a
      rw [if_pos e, e, hx, Option.map_some, if_pos rfl]
    · rw [if_neg e]
      cases valV kvs j with
      | none => rfl
      | some x => rw [Option.map_some, if_neg e]
  · rw [if_neg a]
    refine valV_snoc k j y kvs ?_
    rw [valV_any] at a
    cases q : valV kvs k with
    | none => rfl
    | some x => rw [q] at a; exact (a rfl).elim
theorem length_putK (kvs : List (κ × V)) (k : κ) (v : V) : (putK kvs k v).length ≤ kvs.length + 1 := by
  unfold putK
  split
  · rw [List.length_map]; omega
  · rw [List.length_append, List.length_cons, List.length_nil]; omega
theorem putK_new {kvs : List (κ × V)} {k : κ} (v : V) (h : valV kvs k = none) : putK kvs k v = kvs ++ [(k, v)] := by
  unfold putK
  rw [valV_any, h]
  exact if_neg (by decide)

theorem RelO.isSome_eq {o : Option V} {u : Option Value} (r : RelO o u) : o.isSome = u.isSome := by
  cases o with
  | none => cases u with
    | none => rfl
    | some _ => exact (show False from r).elim
  | some _ => cases u with
    | none => exact (show False from r).elim
    | some _ => rfl
theorem KV.val {kvs : List (κ × V)} {vs : List (κ × Value)} (r : KV kvs vs) (k : κ) : RelO (valV kvs k) (valueAt vs k) := by
  unfold KV at r
  induction r with
  | nil => exact True.intro
  | @cons p q ps qs h t ih =>
    obtain ⟨h1, h2⟩ := h
    by_cases e : p.1 = k
    · have e' : q.1 = k := h1.symm.trans e
      have b : valueAt (q :: qs) k = some q.2 := by simp [valueAt, List.find?_cons, e']
      rw [valV_pos e, b]; exact h2
    · have e' : ¬ q.1 = k := fun z => e (h1.trans z)
      have b : valueAt (q :: qs) k = valueAt qs k := by simp [valueAt, List.find?_cons, e']
      rw [valV_neg e, b]; exact ih
theorem KV.any {kvs : List (κ × V)} {vs : List (κ × Value)} (r : KV kvs vs) (k : κ) : (kvs.any fun kv => decide (kv.1 = k)) = vs.any fun kv => decide (kv.1 = k) := by
  unfold KV at r
  induction r with
  | nil => rfl
  | cons h t ih => rw [List.any_cons, List.any_cons, ih, h.1]
theorem KV.repl {kvs : List (κ × V)} {vs : List (κ × Value)} (r : KV kvs vs) (k : κ) {y : V} {u : Value} (ry : RelV y u) :
    KV (kvs.map fun kv => if kv.1 = k then (kv.1, y) else kv) (vs.map fun kv => if kv.1 = k then (kv.1, u) else kv) := by
  unfold KV at r ⊢
  induction r with
  | nil => exact .nil
  | @cons p q ps qs h t ih =>
    rw [List.map_cons, List.map_cons]
    refine .cons ?_ ih
    obtain ⟨h1, h2⟩ := h
    by_cases e : p.1 = k
    · rw [if_pos e, if_pos (h1.symm.trans e)]; exact ⟨h1, ry⟩
    · rw [if_neg e, if_neg (fun z => e (h1.trans z))]; exact ⟨h1, h2⟩
theorem KV.put {kvs : List (κ × V)} {vs : List (κ × Value)} (r : KV kvs vs) (k : κ) {y : V} {u : Value} (ry : RelV y u) : KV (putK kvs k y) (stored vs k u) := by
  unfold putK stored
  rw [r.any k]
  by_cases e : (vs.any fun kv => decide (kv.1 = k)) = true
  · rw [if_pos e, if_pos e]; exact r.repl k ry
  · rw [if_neg e, if_neg e]; exact Paired.snoc r ⟨rfl, ry⟩
theorem KV.length {kvs : List (κ × V)} {vs : List (κ × Value)} (r : KV kvs vs) : kvs.length = vs.length := Paired.length r
end


theorem kV_is {P : Program} {w : World} {k : Key} {u : Value} (r : RelV (kV k) u) : (mixKind P w).is k u = true := by
  cases k with
  | inl i => obtain ⟨t, e⟩ := (show ∃ t, u = Value.int i t from r); subst e; exact mixKind_int P w i t
  | inr x => obtain ⟨t, e⟩ := (show ∃ t, u = Value.str x t from r); subst e; exact mixKind_str P w x t
theorem items_are {P : Program} {w : World} : ∀ {ks : List Key} {us : List Value}, Vals (ks.map kV) us → ItemsAre (mixKind P w) ks us
  | [], _, r => by rw [List.map_nil] at r; cases r; exact .nil
  | k :: ks, _, r => by
    rw [List.map_cons] at r
    cases r with
    | cons h t => exact .cons (kV_is h) (items_are t)

abbrev KT (H : Hp) : List (List Key × V) → List (List Key × Addr × Value) → Prop := Paired fun p q => p.1 = q.1 ∧ H q.2.1 = some (.tup (p.1.map kV)) ∧ RelV p.2 q.2.2
theorem KT.val {H : Hp} {kvs : List (List Key × V)} {xs : List (List Key × Addr × Value)} (r : KT H kvs xs) (k : List Key) : RelO (valV kvs k) ((atKey xs k).map (·.2)) := by
  induction r with
  | nil => exact True.intro
  | @cons p q ps qs h t ih =>
    obtain ⟨h1, _, h2⟩ := h
    by_cases e : p.1 = k
    · have e' : q.1 = k := h1.symm.trans e
      have b : atKey (q :: qs) k = some q.2 := by simp [atKey, List.find?_cons, e']
      rw [valV_pos e, b]; exact h2
    · have e' : ¬ q.1 = k := fun z => e (h1.trans z)
      have b : atKey (q :: qs) k = atKey qs k := by simp [atKey, List.find?_cons, e']
      rw [valV_neg e, b]; exact ih
theorem KT.repl {H : Hp} {kvs : List (List Key × V)} {xs : List (List Key × Addr × Value)} (r : KT H kvs xs) (k : List Key) {y : V} {u : Value} (ry : RelV y u) :
    KT H (kvs.map fun kv => if kv.1 = k then (kv.1, y) else kv) (xs.map (putAt k u)) := by
  induction r with
  | nil => exact .nil
  | @cons p q ps qs h t ih =>
    rw [List.map_cons, List.map_cons]
    refine .cons ?_ ih
    obtain ⟨h1, h2, h3⟩ := h
    unfold putAt
    by_cases e : p.1 = k
    · rw [if_pos e, if_pos (h1.symm.trans e)]; exact ⟨h1, h2, ry⟩
    · rw [if_neg e, if_neg (fun z => e (h1.trans z))]; exact ⟨h1, h2, h3⟩
theorem KT.put {H : Hp} {kvs : List (List Key × V)} {xs : List (List Key × Addr × Value)} (r : KT H kvs xs) (k : List Key) {b : Addr} {y : V} {u : Value} (hb : H b = some (.tup (k.map kV))) (ry : RelV y u) :
    KT H (putK kvs k y) (storedH xs k b u) := by
  have e : (kvs.any fun kv => decide (kv.1 = k)) = (atKey xs k).isSome := by
    rw [valV_any, (r.val k).isSome_eq, Option.isSome_map]
  unfold putK storedH
  rw [e]
  by_cases q : (atKey xs k).isSome = true
  · rw [if_pos q, if_pos q]; exact r.repl k ry
  · rw [if_neg q, if_neg q]; exact Paired.snoc r ⟨rfl, hb, ry⟩
theorem KT.keeps {H H' : Hp} {kvs : List (List Key × V)} {xs : List (List Key × Addr × Value)} (r : KT H kvs xs) (ht : ∀ b ys, H b = some (.tup ys) → H' b = some (.tup ys)) : KT H' kvs xs :=
  Paired.mapP r fun _ _ z => ⟨z.1, ht _ _ z.2.1, z.2.2⟩

section
variable {P : Program} {w : World} {H : Hp} {h : Heap} {a : Addr}
theorem rd_of {u : HO} (ok : HOk P w H h) (e : Rd H a u) : ObjOk P w H h a u := e.ok ok
theorem dk_rd {kvs : List (Key × V)} (ok : HOk P w H h) (e : Rd H a (.dK kvs)) : kvs.length ≤ sizeLine ∧ (a == sysModules) = false ∧ ∃ vs, KV kvs vs ∧ h.DictOf (mixKind P w) a vs :=
  show ObjOk P w H h a (.dK kvs) from rd_of ok e
theorem dk_of {kvs : List (Key × V)} (ok : HOk P w H h) (e : H a = some (.dK kvs)) : kvs.length ≤ sizeLine ∧ (a == sysModules) = false ∧ ∃ vs, KV kvs vs ∧ h.DictOf (mixKind P w) a vs := dk_rd ok (.inl e)
theorem key_of {ks : List Key} (ok : HOk P w H h) (e : H a = some (.tup (ks.map kV))) : (tupleKind (mixKind P w)).is h ks a := by
  obtain ⟨_, its, r, o, h1, h2, n, h3⟩ := (show ObjOk P w H h a (.tup (ks.map kV)) from ok a _ e)
  exact ⟨o, its.toArray, n, h1, h2, h3, by simpa using items_are r⟩
theorem dt_rd {kvs : List (List Key × V)} (ok : HOk P w H h) (e : Rd H a (.dT kvs)) : kvs.length ≤ sizeLine ∧ (a == sysModules) = false ∧
    ∃ xs, KT H kvs xs ∧ h.DictOfH (tupleKind (mixKind P w)) a xs := by
  obtain ⟨z, y, xs, r, o, es, ep, h1, h2, h3, h4, h5⟩ := (show ObjOk P w H h a (.dT kvs) from rd_of ok e)
  refine ⟨z, y, xs, r, o, es, ep, h1, h2, h3, h4, fun x hx => ?_, h5⟩
  have all : ∀ {l : List (List Key × V)} {m : List (List Key × Addr × Value)}, KT H l m → ∀ x ∈ m, (tupleKind (mixKind P w)).is h x.1 x.2.1 := by
    intro l m q
    induction q with
    | nil => intro x hx; exact nomatch hx
    | @cons p q ps qs hq t ih =>
      intro x hx
      rcases List.mem_cons.mp hx with e | hx
      · subst e
        exact key_of ok (by rw [← hq.1]; exact hq.2.1)
      · exact ih x hx
  exact all r x hx
theorem dt_of {kvs : List (List Key × V)} (ok : HOk P w H h) (e : H a = some (.dT kvs)) : kvs.length ≤ sizeLine ∧ (a == sysModules) = false ∧
    ∃ xs, KT H kvs xs ∧ h.DictOfH (tupleKind (mixKind P w)) a xs := dt_rd ok (.inl e)
end

def DGet (H : Hp) (a : Addr) (y : V) (r : Option V) : Prop :=
  (∃ kvs k, Rd H a (.dK kvs) ∧ y = kV k ∧ r = valV kvs k) ∨ ∃ kvs k b, Rd H a (.dT kvs) ∧ y = .ref b ∧ H b = some (.tup (k.map kV)) ∧ r = valV kvs k
def DPut (H : Hp) (a : Addr) (y v : V) (H' : Hp) : Prop :=
  (∃ kvs k, H a = some (.dK kvs) ∧ y = kV k ∧ kvs.length < sizeLine ∧ H' = upd H a (.dK (putK kvs k v))) ∨
  ∃ kvs k b, H a = some (.dT kvs) ∧ y = .ref b ∧ H b = some (.tup (k.map kV)) ∧ kvs.length < sizeLine ∧ H' = upd H a (.dT (putK kvs k v))
theorem DGet.k {H : Hp} {a : Addr} {kvs : List (Key × V)} {k : Key} (e : H a = some (.dK kvs)) : DGet H a (kV k) (valV kvs k) := .inl ⟨kvs, k, .inl e, rfl, rfl⟩
theorem DPut.k {H : Hp} {a : Addr} {kvs : List (Key × V)} {k : Key} {v : V} (e : H a = some (.dK kvs)) (hl : kvs.length < sizeLine) : DPut H a (kV k) v (upd H a (.dK (putK kvs k v))) := .inl ⟨kvs, k, e, rfl, hl, rfl⟩
section
variable {X : Cx} {pins : List (Addr × Obj)} {σ : St} {H : Hp} {s : Shared} {a : Addr} {y v : V} {u r : Value} {o : Option V} {A : Around} {E : Value → Shared → Prop}

theorem Inv.big (I : Inv X pins σ H s) : sysModules < s.heap.objs.size := by
  have h : mainGlobals < s.heap.objs.size := (I.mod.glob.keeps I.bk).lt
  exact Nat.lt_trans (by decide) h

theorem d_getItem {Q : Value → Shared → Prop} (hu : A.units + 1 < cLine) (I : Inv X pins σ H s) (g : DGet H a y (some v)) (ry : RelV y u) (h : ∀ w' s', Inv X pins σ H s' → RelV v w' → Q w' s') :
    wpAny (model X.prog X.w) A (getItem (.ref a) u) Q E s := by
  rcases g with ⟨kvs, k, e, ey, l⟩ | ⟨kvs, k, b, e, ey, eb, l⟩
  · subst ey
    obtain ⟨z, hd, vs, rel, dd⟩ := dk_rd I.hok e
    obtain ⟨w', hw, rw'⟩ := RelO.some_of (v := v) (o := valueAt vs k) (by rw [l]; exact rel.val k)
    exact wpAny_getItem_of (kV_is ry) dd.mapOf hw (h w' _ (I.tok _) rw')
  · subst ey
    cases (show u = Value.ref b from ry)
    obtain ⟨z, hd, xs, rel, dd⟩ := dt_rd I.hok e
    obtain ⟨w', hw, rw'⟩ := RelO.some_of (v := v) (o := (atKey xs k).map (·.2)) (by rw [l]; exact rel.val k)
    obtain ⟨p, hp, hp2⟩ := Option.map_eq_some_iff.mp hw
    refine wpAny_getItem_heap (tupleKind_room_in1 hu) (key_of I.hok eb) dd hp ?_
    rw [hp2]
    exact h w' _ (I.tok _) rw'
theorem d_in {Q : Value → Shared → Prop} (hu : A.units + 1 < cLine) (I : Inv X pins σ H s) (g : DGet H a y o) (ry : RelV y u) (h : ∀ s', Inv X pins σ H s' → Q (.bool o.isSome) s') :
    wpAny (model X.prog X.w) A (compareOp .In u (.ref a)) Q E s := by
  rcases g with ⟨kvs, k, e, ey, l⟩ | ⟨kvs, k, b, e, ey, eb, l⟩
  · subst ey
    obtain ⟨z, hd, vs, rel, dd⟩ := dk_rd I.hok e
    refine wpAny_in_of (kV_is ry) hd dd.mapOf ?_
    rw [← (rel.val k).isSome_eq, ← l]
    exact h _ (I.tok _)
  · subst ey
    cases (show u = Value.ref b from ry)
    obtain ⟨z, hd, xs, rel, dd⟩ := dt_rd I.hok e
    refine wpAny_in_heap (tupleKind_room_in1 hu) (key_of I.hok eb) hd dd ?_
    have q := (rel.val k).isSome_eq
    rw [Option.isSome_map] at q
    rw [← q, ← l]
    exact h _ (I.tok _)
theorem d_notIn {Q : Value → Shared → Prop} (hu : A.units + 1 < cLine) (I : Inv X pins σ H s) (g : DGet H a y o) (ry : RelV y u) (h : ∀ s', Inv X pins σ H s' → Q (.bool (!o.isSome)) s') :
    wpAny (model X.prog X.w) A (compareOp .NotIn u (.ref a)) Q E s := by
  rcases g with ⟨kvs, k, e, ey, l⟩ | ⟨kvs, k, b, e, ey, eb, l⟩
  · subst ey
    obtain ⟨z, hd, vs, rel, dd⟩ := dk_rd I.hok e
    refine wpAny_notIn_of (kV_is ry) hd dd.mapOf ?_
    rw [← (rel.val k).isSome_eq, ← l]
    exact h _ (I.tok _)
  · subst ey
    cases (show u = Value.ref b from ry)
    obtain ⟨z, hd, xs, rel, dd⟩ := dt_rd I.hok e
    refine wpAny_notIn_heap (tupleKind_room_in1 hu) (key_of I.hok eb) hd dd ?_
    have q := (rel.val k).isSome_eq
    rw [Option.isSome_map] at q
    rw [← q, ← l]
    exact h _ (I.tok _)
theorem d_write {h' : Heap} {t' : Nat} {ob : HO} (I : Inv X pins σ H s) (mu : Mut (H a)) (hs : Heap.SameBut a s.heap h') (he : ∃ q, h'.get? a = some q) (new : ObjOk X.prog X.w (upd H a ob) h' a ob) :
    Inv X pins σ (upd H a ob) { s with heap := h', toks := t' } :=
  I.write (x := a) (e := a) mu (.inl rfl) (fun b q hb z => (hs.2 b hb).trans z) he new
theorem dk_new {P : Program} {w : World} {H' : Hp} {h' : Heap} {kvs : List (Key × V)} {vs : List (Key × Value)} (z : kvs.length ≤ sizeLine) (hd : (a == sysModules) = false) (rel : KV kvs vs) (dd : h'.DictOf (mixKind P w) a vs) :
    ObjOk P w H' h' a (.dK kvs) := ⟨z, hd, vs, rel, dd⟩
theorem d_setItem {H' : Hp} {Q : Unit → Shared → Prop} (hu : A.units + 1 < cLine) (I : Inv X pins σ H s) (g : DPut H a y v H') (ry : RelV y u) (rv : RelV v r) (h : ∀ s', Inv X pins σ H' s' → Q () s') :
    wpAny (model X.prog X.w) A (setItem (.ref a) u r) Q E s := by
  rcases g with ⟨kvs, k, e, ey, l, eH⟩ | ⟨kvs, k, b, e, ey, eb, l, eH⟩
  · subst ey eH
    obtain ⟨z, hd, vs, rel, dd⟩ := dk_of I.hok e
    have hz : vs.length ≤ sizeLine := by rw [← rel.length]; exact z
    have hl : (putK kvs k v).length ≤ sizeLine := by have := length_putK kvs k v; omega
    refine wpAny_setItem_pairs (hsz := hz) (kV_is ry) dd fun h' dd' hs => h _ ?_
    have he : ∃ q, h'.get? a = some q := let ⟨q, _, _, hq, _⟩ := dd'; ⟨q, hq⟩
    exact d_write I (by rw [e]; exact True.intro) hs he (dk_new hl hd (rel.put k rv) dd')
  · subst ey eH
    cases (show u = Value.ref b from ry)
    obtain ⟨z, hd, xs, rel, dd⟩ := dt_of I.hok e
    have hz : xs.length ≤ sizeLine := by rw [← Paired.length rel]; exact z
    have hl : (putK kvs k v).length ≤ sizeLine := by have := length_putK kvs k v; omega
    refine wpAny_setItem_heap (hsz := hz) (tupleKind_room_in1 hu) (key_of I.hok eb) dd fun h' dd' hs => h _ ?_
    obtain ⟨q, es, ep, hq, h2, h3, h4, _, h5⟩ := dd'
    refine d_write I (by rw [e]; exact True.intro) hs ⟨q, hq⟩ ⟨hl, hd, _, (rel.put k eb rv).keeps fun c ys ec => ?_, q, es, ep, hq, h2, h3, h4, h5⟩
    rw [upd_ne (ne_of ec e (fun z => nomatch z))]
    exact ec
end

section
variable {X : Cx} {pins : List (Addr × Obj)} {σ : St} {H : Hp} {s : Shared} {a : Addr} {kvs : List (Key × V)} {k : Key} {u : Value} {A : Around} {E : Value → Shared → Prop}
theorem d_len {Q : Value → Shared → Prop} (I : Inv X pins σ H s) (e : Rd H a (.dK kvs)) (h : ∀ t s', Inv X pins σ H s' → Q (.int kvs.length t) s') : wpAny (model X.prog X.w) A (call (.builtin "len") [.ref a]) Q E s := by
  obtain ⟨z, hd, vs, rel, dd⟩ := dk_rd I.hok e
  refine call_len_dict hd dd (by rw [← rel.length]; rw [sizeLine_eq] at z; omega) ?_
  rw [← rel.length]
  exact h _ _ (I.tok _)
end


def NoSl (i : Expr) : Prop := ∀ ov iv, subscripted i false ov iv = operate [ov, iv] (getItem ov iv)
theorem subD_of {prog : Program} {w : World} {A : Around} {E : Value → Shared → Prop} {s : Shared} {env : Env} {value slice : Expr} {pos : Pos} {T id : String} {Q : Value → Shared → Prop}
    (hl : typeLookup (.type T) "__getitem__" = pure (some (.builtin id))) (hs : NoSl slice)
    (h : wpAny (model prog w) A (eval value env) (fun o s₁ => wpAny (model prog w) A (eval slice env) (fun i s₂ => s₂.TypeIs o T ∧ wpAny (model prog w) A (getItem o i) Q E s₂) E s₁) E s) :
    wpAny (model prog w) A (eval (.Subscript value slice pos) env) Q E s := by
  refine Subscript_ (wpAny_mono h (fun o s₁ h₁ => wpAny_mono h₁ (fun i s₂ h₂ => ?_) fun _ _ x => x) fun _ _ x => x)
  obtain ⟨hT, h₂⟩ := h₂
  unfold subscriptTail
  refine wpAny_bind ?_
  rw [getitemInPython_of_ne hT.not_modules]
  refine wpAny_bind (wpAny_specialOf hT hl ?_)
  have fin : wpAny (model prog w) A (subscripted slice false o i) (fun r s₃ => wpAny (model prog w) A (letTemporaryGo value o r >>= fun _ => pure r) Q E s₃) E s₂ := by
    rw [hs o i]
    exact wpAny_operating (wpAny_mono h₂ (fun r s₃ h₃ => wpAny_bind (wpAny_letTemporaryGo (wpAny_pure h₃))) fun _ _ x => x)
  first
    | exact wpAny_pure (wpAny_bind fin)
    | exact wpAny_bind (wpAny_pure (wpAny_bind fin))
    | exact wpAny_bind fin

theorem dict_typeIs {X : Cx} {pins : List (Addr × Obj)} {σ : St} {H : Hp} {s : Shared} {a : Addr} {y : V} {o : Option V} (I : Inv X pins σ H s) (g : DGet H a y o) : s.TypeIs (.ref a) "dict" := by
  rcases g with ⟨kvs, k, e, _, _⟩ | ⟨kvs, k, b, e, _, _, _⟩
  · obtain ⟨_, _, vs, _, dd⟩ := dk_rd I.hok e
    exact dd.typeIs
  · obtain ⟨_, _, xs, _, dd⟩ := dt_rd I.hok e
    exact dd.typeIs
def tDGet (td ty : TE) : TE := fun σ H Q => td σ H fun x H1 => ty σ H1 fun y H2 => ∃ a v, x = .ref a ∧ DGet H2 a y (some v) ∧ Q v H2
def tDIn (ty td : TE) : TE := fun σ H Q => ty σ H fun y H1 => td σ H1 fun x H2 => ∃ a o, x = .ref a ∧ DGet H2 a y o ∧ Q (.bl o.isSome) H2
def tDNotIn (ty td : TE) : TE := fun σ H Q => ty σ H fun y H1 => td σ H1 fun x H2 => ∃ a o, x = .ref a ∧ DGet H2 a y o ∧ Q (.bl (!o.isSome)) H2
def sDPut (td ty tv : TE) : TS := fun D σ H => tv σ H fun v H1 => td σ H1 fun x H2 => ty σ H2 fun y H3 => ∃ a H4, x = .ref a ∧ DPut H3 a y v H4 ∧ D.nx σ H4
section
variable {X : Cx} {o i e value : Expr} {pos pos' tpos : Pos} {td ty tv : TE}
theorem pe_dget (hu : X.A.units + 1 < cLine) (ho : PE X o td) (hi : PE X i ty) (hs : NoSl i) : PE X (.Subscript o i pos) (tDGet td ty) := by
  intro pins s σ H Q I h
  refine subD_of PySem.F.slot_dict_getitem.lookup hs (thn (ho pins s σ H _ I h) fun u s1 ⟨x, H1, I1, rx, q1⟩ => thn (hi pins s1 σ H1 _ I1 q1) fun iv s2 ⟨y, H2, I2, ry, a, v, ex, g, q2⟩ => ?_)
  subst ex
  obtain rfl : u = Value.ref a := rx
  exact ⟨dict_typeIs I2 g, d_getItem hu I2 g ry fun w' s3 I3 rw' => ⟨v, H2, I3, rw', q2⟩⟩
theorem pc_din (hu : X.A.units + 1 < cLine) (hi : PE X i ty) (ho : PE X o td) : PC X .In i o (tDIn ty td) := by
  intro pins s σ H Q I h
  refine thn (hi pins s σ H _ I h) fun iv s1 ⟨y, H1, I1, ry, q1⟩ => thn (ho pins s1 σ H1 _ I1 q1) fun u s2 ⟨x, H2, I2, rx, a, ov, ex, g, q2⟩ => ?_
  subst ex
  obtain rfl : u = Value.ref a := rx
  exact d_in hu I2 g ry fun s3 I3 => ⟨.bl ov.isSome, H2, I3, rfl, q2⟩
theorem pc_dnotin (hu : X.A.units + 1 < cLine) (hi : PE X i ty) (ho : PE X o td) : PC X .NotIn i o (tDNotIn ty td) := by
  intro pins s σ H Q I h
  refine thn (hi pins s σ H _ I h) fun iv s1 ⟨y, H1, I1, ry, q1⟩ => thn (ho pins s1 σ H1 _ I1 q1) fun u s2 ⟨x, H2, I2, rx, a, ov, ex, g, q2⟩ => ?_
  subst ex
  obtain rfl : u = Value.ref a := rx
  exact d_notIn hu I2 g ry fun s3 I3 => ⟨.bl (!ov.isSome), H2, I3, rfl, q2⟩
theorem ps_dput (hu : X.A.units + 1 < cLine) (ho : PE X o td) (hi : PE X i ty) (hv : PE X value tv) (hs : swapsWith value (some (.Subscript o i pos')) pos.line X.env = pure false) :
    PS X (.Assign [.Subscript o i pos'] value pos) (sDPut td ty tv) := by
  intro pins s σ H D I h
  refine wpAny_Assign_Subscript (thn (hv pins s σ H _ I h) fun r s1 ⟨v, H1, I1, rv, q1⟩ => thn (ho pins s1 σ H1 _ I1 q1) fun u s2 ⟨x, H2, I2, rx, q2⟩ => thn (hi pins s2 σ H2 _ I2 q2) fun iv s3 ⟨y, H3, I3, ry, a, H4, ex, g, q3⟩ => ?_) hs
  subst ex
  obtain rfl : u = Value.ref a := rx
  exact d_setItem hu I3 g ry rv fun s4 I4 => ⟨σ, H4, I4, q3⟩
end


theorem dk_empty {P : Program} {w : World} {H : Hp} (h : Heap) (hb : sysModules < h.objs.size) : ObjOk P w H (h.push { cls := .type "dict", data := .dict #[] }) h.objs.size (.dK []) :=
  ⟨Nat.zero_le _, beq_eq_false_iff_ne.mpr (Ne.symm (Nat.ne_of_lt hb)), [], .nil, Heap.DictOf.new h⟩
def tDNewK : TE := fun _ H Q => ∀ p, H p = none → Q (.ref p) (upd H p (.dK []))
section
variable {X : Cx} {pos : Pos}
theorem pe_dnewK : PE X (.Dict [] [] pos) tDNewK := fun pins s σ H Q I h =>
  wpAny_Dict_empty ⟨.ref s.heap.objs.size, _, I.laid (a := s.heap.objs.size) (o := .dK []) (t' := s.toks) (fun _ _ q => Heap.get?_push_of_some _ q) (Nat.le_refl _) (dk_empty s.heap I.big), rfl, h _ (I.hok.fresh (Nat.le_refl _))⟩
end

def tPairs : List (TE × TE) → St → Hp → (List (V × V) → Hp → Prop) → Prop
  | [], _, H, Q => Q [] H
  | (tk, tv) :: r, σ, H, Q => tk σ H fun x H1 => tv σ H1 fun y H2 => tPairs r σ H2 fun ps H3 => Q ((x, y) :: ps) H3
abbrev VV : List (V × V) → List (Value × Value) → Prop := Paired fun p q => RelV p.1 q.1 ∧ RelV p.2 q.2
def PPs (X : Cx) (pos : Pos) (keys : List (Option Expr)) (values : List Expr) (trs : List (TE × TE)) : Prop :=
  ∀ (pins : List (Addr × Obj)) (s : Shared) (σ : St) (H : Hp) (Q : List (V × V) → Hp → Prop), Inv X pins σ H s → tPairs trs σ H Q →
    wpAny (model X.prog X.w) X.A (evalPairs (pairTrees keys values X.env pos)) (fun vs s' => ∃ ps H', Inv X pins σ H' s' ∧ VV ps vs ∧ Q ps H') X.xe s
theorem pps_nil {X : Cx} {pos : Pos} : PPs X pos [] [] [] := fun pins s σ H Q I h => pairTrees_nil_walk ⟨[], H, I, .nil, h⟩
theorem pps_cons {X : Cx} {pos : Pos} {k v : Expr} {ks : List (Option Expr)} {vs : List Expr} {tk tv : TE} {trs : List (TE × TE)} (hk : PE X k tk) (hv : PE X v tv) (hr : PPs X pos ks vs trs) :
    PPs X pos (some k :: ks) (v :: vs) ((tk, tv) :: trs) := fun pins s σ H Q I h =>
  pairTrees_cons_walk (thn (hk pins s σ H _ I h) fun u s1 ⟨x, H1, I1, rx, q1⟩ => thn (hv pins s1 σ H1 _ I1 q1) fun w2 s2 ⟨y, H2, I2, ry, q2⟩ =>
    thn (hr pins s2 σ H2 _ I2 q2) fun ws s3 ⟨ps, H3, I3, rel, q3⟩ => ⟨(x, y) :: ps, H3, I3, .cons ⟨rx, ry⟩ rel, q3⟩)

def mergeK (kvs more : List (Key × V)) : List (Key × V) := more.foldl (fun acc kv => putK acc kv.1 kv.2) kvs
theorem KV.merge : ∀ {more : List (Key × V)} {rs : List (Key × Value)} {kvs : List (Key × V)} {vs : List (Key × Value)}, KV more rs → KV kvs vs → KV (mergeK kvs more) (merged vs rs) := by
  intro more rs kvs vs r
  unfold KV at r
  induction r generalizing kvs vs with
  | nil => intro q; exact q
  | @cons p q ps qs h t ih =>
    intro r0
    have e : KV (putK kvs p.1 p.2) (stored vs q.1 q.2) := by
      have := r0.put p.1 h.2
      rw [← h.1]; exact this
    exact ih e
theorem length_mergeK : ∀ (more kvs : List (Key × V)), (mergeK kvs more).length ≤ kvs.length + more.length
  | [], kvs => by show kvs.length ≤ kvs.length + 0; omega
  | p :: r, kvs => by
    have h1 := length_mergeK r (putK kvs p.1 p.2)
    have h2 := length_putK kvs p.1 p.2
    show (mergeK (putK kvs p.1 p.2) r).length ≤ _
    rw [List.length_cons]; omega
theorem carries_of {P : Program} {w : World} : ∀ {kvs : List (Key × V)} {ws : List (Value × Value)}, VV (kvs.map fun kv => (kV kv.1, kv.2)) ws → ∃ rs, Carries (mixKind P w) ws rs ∧ KV kvs rs
  | [], _, r => by rw [List.map_nil] at r; cases r; exact ⟨[], True.intro, .nil⟩
  | p :: kvs, _, r => by
    rw [List.map_cons] at r
    cases r with
    | @cons a b as bs h t =>
      obtain ⟨rs, c, q⟩ := carries_of (P := P) (w := w) t
      obtain ⟨b1, b2⟩ := b
      exact ⟨(p.1, b2) :: rs, ⟨kV_is h.1, rfl, c⟩, .cons ⟨rfl, h.2⟩ q⟩
def tDisp (trs : List (TE × TE)) : TE := fun σ H Q => ∀ p, H p = none → tPairs trs σ (upd H p (.dK [])) fun ps H2 => H2 p = some (.dK []) ∧ ∃ kvs : List (Key × V), ps = kvs.map (fun kv => (kV kv.1, kv.2)) ∧ kvs.length ≤ 15 ∧ Q (.ref p) (upd H2 p (.dK (mergeK [] kvs)))
theorem pe_disp {X : Cx} {pos : Pos} {keys : List (Option Expr)} {values : List Expr} {trs : List (TE × TE)} (h : PPs X pos keys values trs) (hall : keys.all (·.isSome) = true) (hl : keys.length = values.length) (h0 : keys ≠ [])
    (h15 : keys.length ≤ 15) : PE X (.Dict keys values pos) (tDisp trs) := by
  intro pins s σ H Q I q
  have hn := I.hok.fresh (Nat.le_refl s.heap.objs.size)
  have I1 := I.laid (a := s.heap.objs.size) (o := .dK []) (h' := s.heap.push { cls := .type "dict", data := .dict #[] }) (t' := s.toks) (fun _ _ q => Heap.get?_push_of_some _ q) (Nat.le_refl _) (dk_empty s.heap I.big)
  refine wpAny_Dict_walk (knd := mixKind X.prog X.w) hall hl h0 h15 (thn (h pins _ σ _ _ I1 (q _ hn)) fun ws s2 ⟨ps, H2, I2, rel, e, kvs, ep, lk, q2⟩ => ?_)
  subst ep
  obtain ⟨rs, c, rk⟩ := carries_of (P := X.prog) (w := X.w) rel
  obtain ⟨z, hd, vs0, r0, dd⟩ := dk_of I2.hok e
  cases r0
  refine ⟨rs, c, dd, fun h' dd' hs => ⟨.ref s.heap.objs.size, _, ?_, rfl, q2⟩⟩
  have hz : (mergeK [] kvs).length ≤ sizeLine := by
    have h1 := length_mergeK kvs []
    rw [List.length_nil] at h1
    rw [sizeLine_eq]; omega
  have he : ∃ q, h'.get? s.heap.objs.size = some q := let ⟨q, _, _, hq, _⟩ := dd'; ⟨q, hq⟩
  exact d_write I2 (by rw [e]; exact True.intro) hs he (dk_new hz hd (rk.merge .nil) dd')


structure M1 (X : Cx) (o : Expr) (m : Str) (apos : Pos) (e : Expr) (cpos : Pos) : Prop where
  base : attributeBase o m X.env (eval o X.env) = eval o X.env
  few : ((backTo cpos (starEach [e] X.env)).all (fun x => !x.1) && (backToKw cpos (keywordEach [] X.env)).all (fun x => x.1.isSome)
    && decide (([e] : List Expr).length + ([] : List Keyword).length + (if ([] : List Keyword).isEmpty then 0 else 1) < 30)) = true
  line : (apos.endLine == cpos.line) = true
  trees : backTo cpos (starEach [e] X.env) = [(false, eval e X.env)]
structure M2 (X : Cx) (o : Expr) (m : Str) (apos : Pos) (e f : Expr) (cpos : Pos) : Prop where
  base : attributeBase o m X.env (eval o X.env) = eval o X.env
  few : ((backTo cpos (starEach [e, f] X.env)).all (fun x => !x.1) && (backToKw cpos (keywordEach [] X.env)).all (fun x => x.1.isSome)
    && decide (([e, f] : List Expr).length + ([] : List Keyword).length + (if ([] : List Keyword).isEmpty then 0 else 1) < 30)) = true
  line : (apos.endLine == cpos.line) = true
  trees : backTo cpos (starEach [e, f] X.env) = [(false, eval e X.env), (false, eval f X.env)]

section
variable {X : Cx} {pins : List (Addr × Obj)} {σ : St} {H : Hp} {s : Shared} {a : Addr} {y d : V} {u r : Value} {o : Option V} {A : Around} {E : Value → Shared → Prop}
end

section
variable {X : Cx} {o e f : Expr} {apos cpos : Pos} {td ty tx : TE}
end

section
variable {X : Cx} {pins : List (Addr × Obj)} {σ : St} {H : Hp} {s : Shared} {a : Addr} {kvs : List (Key × V)} {A : Around} {E : Value → Shared → Prop}
end


section
variable {X : Cx} {pins : List (Addr × Obj)} {σ : St} {H : Hp} {s : Shared} {a : Addr} {y : V} {u : Value} {A : Around} {E : Value → Shared → Prop}
end
end L2

namespace Att
open PySem PySem.W PySem.Calls PyProof.Rows

theorem ints_of_wellAll {P : Params} {h : Heap} : ∀ (ns : List Int) (vs : List Value), WellAll P h vs (ns.map WData.int) → IntsAre vs ns := by
  intro ns
  induction ns with
  | nil =>
    intro vs w
    rw [List.map_nil] at w
    cases w
    exact .nil
  | cons n ns ih =>
    intro vs w
    rw [List.map_cons] at w
    cases w with
    | cons a b =>
      cases a
      exact .cons _ _ (ih _ b)

theorem script_of {l : OpenLaw} {n : Nat} (hn : l.most = some n) {P : Params} {h : Heap} {args : List WData} {vals : List Value}
    (hpre : l.row.toRowW.claim.pre args = true) (hwl : WellAll P h vals args) :
    ∃ a vs ns, vals = [Value.ref a] ∧ args = [WData.list (ns.map WData.int)] ∧ h.get? a = some { cls := .type "list", data := .seq vs.toArray } ∧ IntsAre vs ns ∧ ns.length ≤ n := by
  have hsh : WShape.hasAll [] args [.list .int] = true := (pre_splitW hpre).1
  have hc : l.pre.holds [] { args := args } = true := (pre_splitW hpre).2
  obtain ⟨d, r, rfl, h1, h2⟩ := hasAllW_cons hsh
  obtain rfl := hasAllW_nil h2
  obtain ⟨xs, rfl, h3⟩ := hasW_list h1
  obtain ⟨ns, rfl⟩ := items_int h3
  have hlen : ns.length ≤ n := by
    unfold OpenLaw.pre at hc
    have h4 : (WTm.not (.lt (.lit (.int (n : Int))) (.len (.arg 0)))).holds [] { args := [.list (ns.map .int)] } = true := by
      have h4 := (holds_andW hc).1
      rw [hn] at h4
      exact h4
    have h5 := condW_of h4 (w_not (w_lt w_lit (w_len_list (w_arg rfl))))
    rw [List.length_map] at h5
    refine Nat.le_of_not_lt fun q => ?_
    have q' : (n : Int) < ((ns.length : Nat) : Int) := by omega
    first
      | (rw [decide_eq_true q'] at h5; exact absurd h5 (by decide))
      | (simp at h5; omega)
  cases hwl with
  | cons w1 w2 =>
    cases w2
    cases w1 with
    | list ho hall => exact ⟨_, _, ns, rfl, rfl, ho, ints_of_wellAll ns _ hall, hlen⟩

theorem post_true (l : OpenLaw) (args : List WData) : l.row.toRowW.claim.post args (.bool true) args = true :=
  postW_of (r := l.row.toRowW) (X := (true == true))
    (show WShape.has [] (.bool true) .bool = true by first | rfl | decide | simp [WShape.has, WShape.arms, WShape.armsAll])
    (show (WTm.eq .res (.lit (.bool true))).value [] { args := args, res := some (.bool true), after := args } = some (.bool (true == true)) from w_eq_bool (w_res rfl) w_lit) rfl

theorem attach_call {l : OpenLaw} {n : Nat} {q : Program} {loose : List Str} {XP : (Str → Option Value) → Heap → Prop} {YP : World → Heap → Prop} {d : DefRec}
    (hn : l.most = some n) (hdf : d.params.defaults = [])
    (call : ∀ (w : World) (s₀ s₁ : Shared) (mg mb : Str → Option Value) (fa : Addr) (o : Obj) (pm cd doc : Value) (a : Addr) (vs : List Value) (ns : List Int),
      Ground q loose [] XP w s₀ mg mb s₁.heap → YP w s₁.heap →
      s₁.heap.get? fa = some o → o.data = .func (docDef d.name d.params d.body d.scope pm cd doc) → s₁.heap.CodeRec cd d.name → mg d.name = some (.ref fa) →
      s₁.heap.get? a = some { cls := .type "list", data := .seq vs.toArray } → IntsAre vs ns → ns.length ≤ n → s₁.gens = #[] →
      codeAny (model l.prog w) callerA (.call (.ref fa) ⟨[.ref a], []⟩) (fun r s' => r = .ok (.ret (.bool true)) ∧ OldK s₁.heap s'.heap ∧ s'.os = s₁.os ∧ AllBare s'.gens) s₁) :
    WalkO q loose XP YP l.row.toRowW d [] (fun f vs => PySem.call f vs) := by
  intro w s₀ s₁ mg mb G Y fa o pm cd doc dV kV ho hd hcd hD hmg hg args vals as hpre hlay hrd hwl hlo
  obtain rfl : dV = .none := Dflts.none hD hdf
  obtain rfl : kV = .none := Dflts.noKw hD
  obtain ⟨a, vs, ns, rfl, rfl, hobj, hints, hlen⟩ := script_of hn hpre hwl
  refine enter_call (codeAny_mono (call w s₀ s₁ mg mb fa o pm cd doc a vs ns G Y ho (fd_plain hd) hcd hmg hobj hints hlen hg) fun r s' hq => ?_)
  obtain ⟨rfl, h2, h3, h4⟩ := hq
  exact ⟨.inl ⟨.bool true, .bool true, [], rfl, fun _ => rfl, .bool true, post_true l _, fun _ => ⟨List.Pairwise.nil, fun _ hm => (nomatch hm)⟩⟩, h2, h3, h4⟩

section
variable {prog : Program} {w : World} {A : Around} {E : Value → Shared → Prop} {s : Shared} {K : Frag}

end
end Att

namespace L2
open PySem PySem.Spec PyProof.Rows

theorem vals_ints : ∀ {vs : List Value} {ns : List Int}, IntsAre vs ns → Vals (ns.map V.int) vs
  | _, _, .nil => .nil
  | _, _, .cons n t h => .cons ⟨t, rfl⟩ (vals_ints h)

def Only (H : Hp) : Prop := ∀ b, H b = none ∨ ∃ o xs, H b = some (.frz o (.lst xs))

theorem law_call {P : Program} {w : World} {K : PySem.W.Frag} {mg mb : Str → Option Value} {CX : CXT} {k : Nat} {fa a : Addr} {fd : FuncData} {x : Str} {sp : Sp} {s₁ : Shared} {vs : List Value} {ns : List Int}
    (KX : K.In s₁.heap) (hns : s₁.heap.Ns mainGlobals mg) (hb : s₁.heap.Ns builtinsNs mb) (hbb : ∀ x : Str, x ≠ "__name__" → mb x = bootBuiltins x) (hlim : s₁.heap.NoLimit) (hg : s₁.gens = #[])
    (ha : s₁.heap.get? a = some { cls := .type "list", data := .seq vs.toArray }) (hi : IntsAre vs ns) (hl : ns.length ≤ sizeLine) (hr : Room k callerA)
    (F : ∀ base : Heap, K.In base → base.Ns mainGlobals mg → FnOk P w K mg base CX k fa fd [x] sp) (hbind : ∀ (s : Shared) (u : Value), BindsTo s fd ⟨[u], []⟩ [(x, u)])
    (hsp : ∀ H : Hp, Only H → SqL K H a (ns.map V.int) → sp [.ref a] H (fun v _ => v = .bl true) fun _ _ _ => False)
    (hCX : ∀ H e s', CX [] H s₁ (fun _ _ _ => False) e s' → False) :
    codeAny (model P w) callerA (.call (.ref fa) ⟨[.ref a], []⟩) (fun r s' => r = .ok (.ret (.bool true)) ∧ OldK s₁.heap s'.heap ∧ s'.os = s₁.os ∧ AllBare s'.gens) s₁ := by
  have rv := vals_ints hi
  have lenV := hi.length
  have core : ∀ H : Hp, Only H → SqL K H a (ns.map V.int) → HOk P w H s₁.heap → (∀ b, H b ≠ none → b = a) → (H a ≠ none → K.lookup a = none) →
      codeAny (model P w) callerA (.call (.ref fa) ⟨[.ref a], []⟩) (fun r s' => r = .ok (.ret (.bool true)) ∧ OldK s₁.heap s'.heap ∧ s'.os = s₁.os ∧ AllBare s'.gens) s₁ := by
    intro H hO hS hok hA hK
    have base_of : ∀ {b : Addr} {o : Obj}, s₁.heap.get? b = some o → H b = none → (hidT s₁.heap H).get? b = some o := fun e n => hidT_get e n
    have noA : ∀ {b : Addr} {o : Obj} {es : Array DictEntry} {ep : Nat}, s₁.heap.get? b = some o → o.data = .dict es ep → H b = none := fun {b o es ep} e d => by
      cases q : H b with
      | none => rfl
      | some u =>
        have e' : b = a := hA b (by rw [q]; simp)
        subst e'
        rw [ha] at e; cases e
        have d' : Data.seq vs.toArray _ = Data.dict es ep := d
        cases d'
    have nsK : ∀ {b : Addr} {m : Str → Option Value}, s₁.heap.Ns b m → (hidT s₁.heap H).Ns b m := fun {b m} ⟨o, es, ep, e, d, r⟩ => ⟨o, es, ep, base_of e (noA e d), d, r⟩
    have hKb : K.In (hidT s₁.heap H) := fun b o e => base_of (KX b o e) (by
      cases q : H b with
      | none => rfl
      | some u =>
        have e' : b = a := hA b (by rw [q]; simp)
        subst e'
        rw [hK (by rw [q]; simp)] at e; cases e)
    have hM : Mod K mg (hidT s₁.heap H) := ⟨hKb, nsK hns, ⟨mb, nsK hb, hbb⟩, let ⟨mc, h1, h2⟩ := hlim; ⟨mc, nsK h1, h2⟩⟩
    have e0 : Env0 P w K mg (hidT s₁.heap H) callerA [] s₁ H := ⟨rfl, hM, fun b o e => of_hidT e, Nat.le_of_eq (hidT_size _ _), trivial, fun b hb => absurd (show b ∈ ([] : List Addr) from hb) (by simp), hok, .of_eq hg⟩
    refine codeAny_mono ((F _ hKb (nsK hns)).run callerA [] s₁ H ⟨[.ref a], []⟩ [.ref a] [.ref a] _ _ hr e0 (hbind s₁ (.ref a)) (.cons rfl .nil) (hsp H hO hS)) fun r s' h => ?_
    cases r with
    | error e => exact (hCX H e s' h).elim
    | ok fl =>
      cases fl with
      | next => exact False.elim h
      | brk => exact False.elim h
      | cont => exact False.elim h
      | ret u =>
        obtain ⟨v, H', os, bare, un, hok', r', q⟩ := h
        have q' : v = .bl true := q
        subst q'
        obtain rfl : u = Value.bool true := r'
        refine ⟨rfl, OldK.of_keep fun b o e => ?_, os, bare⟩
        cases q : H b with
        | none => exact un.keep b o e q (by intro z; exact absurd (show b ∈ ([] : List Addr) from z) (by simp)) (by simp)
        | some u =>
          rcases hO b with z | ⟨ob, xs, z⟩
          · rw [q] at z; cases z
          · have z2 := un.frzs b ob _ z
            obtain ⟨e1, _⟩ := hok b _ z
            obtain ⟨e2, _⟩ := hok' b _ z2
            rw [e] at e1; cases e1
            exact e2
  cases hk : K.lookup a with
  | some o =>
    have e := KX a o hk
    rw [ha] at e
    cases e
    refine core (fun _ => none) (fun _ => .inl rfl) (.inr ⟨_, vs.toArray, _, hk, rfl, rfl, rfl, by rw [List.size_toArray, lenV]; exact hl, by simpa using rv⟩) (fun b u z => by have z' : (none : Option HO) = some u := z; cases z') (fun b z => absurd rfl z) fun z => absurd rfl z
  | none =>
    refine core (fun b => if b = a then some (.frz { cls := .type "list", data := .seq vs.toArray } (.lst (ns.map V.int))) else none) (fun b => ?_) (.inl (.inr ⟨{ cls := .type "list", data := .seq vs.toArray }, if_pos rfl⟩)) (fun b u z => ?_) (fun b z => ?_) fun _ => hk
    · by_cases hb : b = a
      · exact .inr ⟨_, _, if_pos hb⟩
      · exact .inl (if_neg hb)
    · by_cases hb : b = a
      · have z' := (if_pos hb).symm.trans z
        cases z'
        subst hb
        exact ⟨ha, by rw [List.length_map]; exact hl, vs, _, rv, ha⟩
      · have z' := (if_neg hb).symm.trans z
        cases z'
    · by_cases hb : b = a
      · exact hb
      · exact absurd (if_neg hb) z
end L2

namespace L2
open PySem PySem.Spec PyProof.Rows

theorem walk_of {l : PySem.W.OpenLaw} {n k : Nat} {q : Program} {loose : List Str} {XP : (Str → Option Value) → Heap → Prop} {YP : World → Heap → Prop} {d : DefRec} {K : Params → PySem.W.Frag} {CX : World → CXT} {sp : World → Sp} {x : Str}
    (hn : l.most = some n) (hn2 : n ≤ sizeLine) (hdf : d.params.defaults = []) (hr : Room k callerA)
    (hY : ∀ (w : World) (h : Heap), YP w h → (K w.params).In h)
    (F : ∀ (w : World) (mg : Str → Option Value) (fa : Addr) (h : Heap), (K w.params).In h → h.Ns mainGlobals mg → mg d.name = some (.ref fa) →
      ∃ fd : FuncData, (∀ (s : Shared) (u : Value), BindsTo s fd ⟨[u], []⟩ [(x, u)]) ∧
        ∀ base : Heap, (K w.params).In base → base.Ns mainGlobals mg → FnOk l.prog w (K w.params) mg base (CX w) k fa fd [x] (sp w))
    (hsp : ∀ (w : World) (H : Hp) (a : Addr) (ns : List Int), ns.length ≤ n → Only H → SqL (K w.params) H a (ns.map V.int) → sp w [.ref a] H (fun v _ => v = .bl true) fun _ _ _ => False)
    (hCX : ∀ (w : World) (H : Hp) (s : Shared) (e : Value) (s' : Shared), CX w [] H s (fun _ _ _ => False) e s' → False) :
    PySem.W.WalkO q loose XP YP l.row.toRowW d [] (fun f vs => PySem.call f vs) := by
  refine Att.attach_call hn hdf fun w s₀ s₁ mg mb fa o pm cd doc a vs ns G Y ho hd hcd hmg hobj hints hlen hg => ?_
  have KX := hY w _ Y
  obtain ⟨fd, hb, hF⟩ := F w mg fa _ KX G.T.g hmg
  exact law_call KX G.T.g G.T.b G.T.builtins G.T.nolimit hg hobj hints (Nat.le_trans hlen hn2) hr hF hb (fun H hO hS => hsp w H a ns hlen hO hS) fun H e s' => hCX w H s₁ e s'
end L2



namespace L2
open PySem PySem.Spec PyProof.Rows

def defArgs (s : Stmt) : Arguments := match s with
  | .FunctionDef _ a _ _ _ _ _ _ _ _ => a
  | _ => { posonlyargs := [], args := [], vararg := none, kwonlyargs := [], kw_defaults := [], kwarg := none, defaults := [] }
def defBody (s : Stmt) : List Stmt := match s with
  | .FunctionDef _ _ b _ _ _ _ _ _ _ => b
  | _ => []
def defScope (s : Stmt) : Scope := match s with
  | .FunctionDef _ _ _ _ _ _ sc _ _ _ => sc
  | _ => { kind := .function, names := [], isGenerator := false, isCoroutine := false }

abbrev CX0 : CXT := fun _ _ _ _ _ _ => False
abbrev E0 : XK := fun _ _ _ => False
theorem pass0 {X : Cx} : Passes CX0 X E0 := fun _ _ _ _ _ _ _ h => h.elim

structure Fun (K : PySem.W.Frag) (x qual : Str) (st : Stmt) (f : Addr) (fd : FuncData) : Prop where
  ex : ∃ (oc : Value) (od : Option Addr) (kV doc pm : Value) (an : Option Addr) (cdv ct : Value) (osl : Array (Option Value)),
    fd = PySem.W.fnOf x qual (defArgs st) (defBody st) (defScope st) .none kV doc pm an cdv ct ∧ K.lookup f = some ⟨oc, od, .func fd, osl⟩ ∧ PySem.W.codeIn K cdv qual = true
  kp : PySem.W.keepIn K (.ref f) = true
section
variable {P : Program} {w : World} {K : PySem.W.Frag} {mg : Str → Option Value} {base : Heap}
theorem Fun.ok {x qual : Str} {st : Stmt} {f : Addr} {fd : FuncData} {N ps : List Str} {k : Nat} {sp : Sp} (F : Fun K x qual st f fd) (S : FnScope N ps (defScope st)) (len : ∀ vs H Q E, sp vs H Q E → vs.length = ps.length)
    (hbody : ∀ (cdv : Value) (A : Around) (outer : List Env) (s : Shared) (H : Hp) (vs : List V) (Q : VK) (E : XK), Room k (A.deeper (envOfC qual (defScope st) s.heap.objs.size f cdv)) → sp vs H Q E →
      ∃ t, PSs (cxOf CX0 P w K mg base N qual (defScope st) f cdv A outer s H E).nox (defBody st) t ∧ t { nx := fun _ H' => Q .non H', rt := Q } (start N vs) H) : FnOk P w K mg base CX0 (k + 1) f fd ps sp := by
  obtain ⟨oc, od, kV, doc, pm, an, cdv, ct, osl, rfl, lk, hcd⟩ := F.ex
  refine fn_of lk hcd S len fun A outer s H vs Q E hr hsp => ?_
  obtain ⟨t, h, q⟩ := hbody cdv A outer s H vs Q E hr hsp
  exact ⟨t, h.nox, q⟩
theorem Fun.binds {x qual : Str} {st : Stmt} {f : Addr} {fd : FuncData} {ps : List Str} (F : Fun K x qual st f fd)
    (h : ∀ (kV doc pm : Value) (an : Option Addr) (cdv ct : Value) (us : List Value), us.length = ps.length → bindArgs (PySem.W.fnOf x qual (defArgs st) (defBody st) (defScope st) .none kV doc pm an cdv ct) ⟨us, []⟩ = pure (ps.zip us)) : Binds K fd ps [] := by
  obtain ⟨oc, od, kV, doc, pm, an, cdv, ct, osl, rfl, lk, hcd⟩ := F.ex
  exact .all (h kV doc pm an cdv ct)
theorem fun_mk {x qual : Str} {st : Stmt} {f : Addr} {oc : Value} {od an : Option Addr} {osl : Array (Option Value)} {kV doc pm cdv ct : Value} (l : K.lookup f = some ⟨oc, od, .func (PySem.W.fnOf x qual (defArgs st) (defBody st) (defScope st) .none kV doc pm an cdv ct), osl⟩)
    (c : PySem.W.codeIn K cdv qual = true) (k : PySem.W.keepIn K (.ref f) = true) : Fun K x qual st f (PySem.W.fnOf x qual (defArgs st) (defBody st) (defScope st) .none kV doc pm an cdv ct) := ⟨⟨oc, od, kV, doc, pm, an, cdv, ct, osl, rfl, l, c⟩, k⟩
end
theorem hu_of {A : Around} {k : Nat} (hr : Room k A) : A.units + 1 < cLine := Nat.lt_of_le_of_lt (Nat.add_le_add_left (by decide : 1 ≤ 64) _) hr.units
section
variable {X : Cx}
theorem pv (i : Nat) {x : Str} {pos : Pos} (hN : X.N[i]? = some x := by rfl) (hv : Vis X.env.scope x := by first | exact Or.inl rfl | exact Or.inr (Or.inl rfl) | exact Or.inr (Or.inr rfl)) (hd : (x == ("__debug__" : Str)) = false := by decide)
    (hcd : (x == ("__classdict__" : Str)) = false := by decide) : PE X (.Name x pos) (tVar i) := pe_var hN hv hd hcd
end

theorem iteF {A B : Prop} (h : B) : if false = true then A else B := by
  rw [if_neg Bool.false_ne_true]
  exact h
theorem iteT {A B : Prop} (h : A) : if true = true then A else B := by
  rw [if_pos rfl]
  exact h
theorem ite2 {c A B : Prop} [Decidable c] (h1 : c → A) (h2 : ¬ c → B) : if c then A else B := by
  by_cases h : c
  · rw [if_pos h]
    exact h1 h
  · rw [if_neg h]
    exact h2 h
def Same (H H' : Hp) : Prop := ∀ b o, H b = some o → H' b = some o
theorem Same.trans {H H1 H2 : Hp} (a : Same H H1) (b : Same H1 H2) : Same H H2 := fun c o h => b c o (a c o h)
theorem Same.seq {K : PySem.W.Frag} {H H' : Hp} {a : Addr} {xs : List V} (e : Same H H') (h : SqL K H a xs) : SqL K H' a xs := by
  rcases h with (h | ⟨o, h⟩) | h
  · exact .inl (.inl (e _ _ h))
  · exact .inl (.inr ⟨o, e _ _ h⟩)
  · exact .inr h

end L2

namespace L2
open PySem PySem.Spec PyProof.Rows
section
variable {X : Cx}
theorem call_lenD : CallR X (.builtin "len") (fun xs H Q => ∃ a kvs, xs = [V.ref a] ∧ H a = some (.dK kvs) ∧ Q (.int kvs.length) H) := by
  intro pins s σ H xs us Q I r h
  obtain ⟨a, kvs, rfl, ha, q⟩ := h
  obtain ⟨u, rfl, ru⟩ := vals1 r
  cases ru
  exact d_len I (.inl ha) fun t s' I' => ⟨.int kvs.length, H, I', ⟨t, rfl⟩, q⟩
end
end L2

namespace L2
open PySem PySem.Spec PyProof.Rows
section
variable {κ : Type} [DecidableEq κ]
end
end L2


namespace L2
open PySem PySem.Spec PyProof.Rows
set_option maxHeartbeats 4000000

section
variable {prog : Program} {w : World} {A : Around} {R : Result → Shared → Prop} {s : Shared}
noncomputable def passAll (env : Env) (ifs : List Expr) : Sem Bool := forIn ifs true fun c r => ite (r = true) (isTrue c env (eval c env) >>= fun b => pure (.yield b)) (pure (.yield r))
noncomputable def oneTurn (ip : Pos) (tg : Expr) (ifs : List Expr) (it : Value) (env : Env) (em : Sem Unit) (next : Code) : Sem Fin :=
  standAt ip >>= fun _ => pyNext it >>= fun r => match r with
    | none => pure (.done .next)
    | some v => letOwnedTupleGo tg it v >>= fun _ => assign tg env v >>= fun _ => passAll env ifs >>= fun ok => ite (ok = true) (em >>= fun _ => again next) (again next)
def turnEnd (M : Model) (A : Around) (tg : Expr) (ifs : List Expr) (it : Value) (env : Env) (em : Sem Unit) (fin : Shared → Prop) (less : Shared → Prop) : Option Value → Shared → Prop
  | none, s => fin s
  | some v, s => wpAny M A (letOwnedTupleGo tg it v) (fun _ s => wpAny M A (assign tg env v) (fun _ s => wpAny M A (passAll env ifs) (fun ok s => if ok = true then wpAny M A em (fun _ s => less s) (fun _ _ => False) s else less s) (fun _ _ => False) s) (fun _ _ => False) s) (fun _ _ => False) s
theorem compLoop_gen {elt target iter : Expr} {ifs : List Expr} {scope : Scope} {pos : Pos} {it acc : Value} {env : Env} (I : Nat → Shared → Prop)
    (turn : ∀ k t, I k t → wpAny (model prog w) A (pyNext it) (turnEnd (model prog w) A target ifs it env (eval elt env >>= fun x => call (.builtin "list.append") [acc, x] >>= fun _ => pure ()) (R (.ok .next)) fun t => ∃ m, m < k ∧ I m t) (fun _ _ => False) t)
    (n : Nat) (h : I n s) : codeAny (model prog w) A (.compLoop (.ListComp elt [⟨target, iter, ifs, 0⟩] scope pos) 0 it acc env) R s := by
  have no : ∀ {Z : Value → Shared → Prop} (e : Value) (t : Shared), False → Z e t := fun _ _ f => f.elim
  refine codeAny_loop rfl I (fun k t hk => wpAny_noted (m := oneTurn iter.pos target ifs it env (eval elt env >>= fun x => call (.builtin "list.append") [acc, x] >>= fun _ => pure ()) (.compLoop (.ListComp elt [⟨target, iter, ifs, 0⟩] scope pos) 0 it acc env)) ?_) n h
  refine wpAny_bind (wpAny_standAt (wpAny_bind (wpAny_mono (turn k t hk) (fun r t1 p => ?_) no)))
  match r, p with
  | none, p => exact wpAny_pure p
  | some v, p =>
    refine wpAny_bind (wpAny_mono p (fun _ t2 p => wpAny_bind (wpAny_mono p (fun _ t3 p => wpAny_bind (wpAny_mono p (fun ok t4 p => ?_) no)) no)) no)
    match ok, p with
    | false, p => exact wpAny_pure ⟨rfl, p⟩
    | true, p => exact wpAny_bind (wpAny_mono p (fun _ t5 p => wpAny_pure ⟨rfl, p⟩) no)
end

theorem closure_loop (env : Env) : ∀ (names : List (Str × NameKind)) (acc : List (Str × Addr)), (∀ y ∈ names, y.2 = .free → ∃ c, env.cells.lookup y.1 = some c) →
    ∃ cl : List (Str × Addr), (forIn names acc (fun (y : Str × NameKind) (cs : List (Str × Addr)) => (if (y.2 == NameKind.free) = true then (do let c ← cellOf env y.1; pure (ForInStep.yield ((y.1, c) :: cs))) else pure (ForInStep.yield cs) : Sem (ForInStep (List (Str × Addr))))) : Sem (List (Str × Addr))) = pure cl ∧
      (∀ x c, (x, c) ∈ cl → (x, c) ∈ acc ∨ (env.cells.lookup x = some c ∧ (x, NameKind.free) ∈ names)) ∧ (∀ p ∈ acc, p ∈ cl) ∧ (∀ y ∈ names, y.2 = .free → ∃ c, (y.1, c) ∈ cl)
  | [], acc, _ => ⟨acc, rfl, fun _ _ h => .inl h, fun _ h => h, fun _ h => nomatch h⟩
  | (n, k) :: r, acc, h => by
    by_cases hk : k = .free
    · subst hk
      obtain ⟨c, hc⟩ := h (n, .free) List.mem_cons_self rfl
      obtain ⟨cl, e, h1, h2, h3⟩ := closure_loop env r ((n, c) :: acc) fun y hy => h y (List.mem_cons_of_mem _ hy)
      refine ⟨cl, ?_, fun x d hd => ?_, fun p hp => h2 p (List.mem_cons_of_mem _ hp), fun y hy hf => ?_⟩
      · rw [List.forIn_cons]
        have : (cellOf env n : Sem Addr) = pure c := by unfold cellOf; rw [hc]
        simp only [beq_self_eq_true, if_true, this, pure_bind]
        exact e
      · rcases h1 x d hd with z | ⟨z, z'⟩
        · rcases List.mem_cons.mp z with z | z
          · cases z; exact .inr ⟨hc, List.mem_cons_self⟩
          · exact .inl z
        · exact .inr ⟨z, List.mem_cons_of_mem _ z'⟩
      · rcases List.mem_cons.mp hy with z | z
        · subst z; exact ⟨c, h2 _ List.mem_cons_self⟩
        · exact h3 y z hf
    · obtain ⟨cl, e, h1, h2, h3⟩ := closure_loop env r acc fun y hy => h y (List.mem_cons_of_mem _ hy)
      have hb : (k == NameKind.free) = false := by simpa using hk
      refine ⟨cl, ?_, fun x d hd => ?_, h2, fun y hy hf => ?_⟩
      · rw [List.forIn_cons]
        simp only [hb, Bool.false_eq_true, if_false, pure_bind]
        exact e
      · rcases h1 x d hd with z | ⟨z, z'⟩
        · exact .inl z
        · exact .inr ⟨z, List.mem_cons_of_mem _ z'⟩
      · rcases List.mem_cons.mp hy with z | z
        · subst z; exact absurd hf hk
        · exact h3 y z hf
theorem lookup_of_mem {β : Type} : ∀ {l : List (Str × β)} {x : Str} {c : β}, (x, c) ∈ l → ∃ d, l.lookup x = some d ∧ (x, d) ∈ l
  | (n, k) :: r, x, c, h => by
    cases hx : x == n with
    | true =>
      refine ⟨k, by simp only [List.lookup_cons, hx], ?_⟩
      rw [eq_of_beq hx]; exact List.mem_cons_self
    | false =>
      rcases List.mem_cons.mp h with z | z
      · cases z; simp at hx
      · obtain ⟨d, e, m⟩ := lookup_of_mem z
        exact ⟨d, by simp only [List.lookup_cons, hx]; exact e, List.mem_cons_of_mem _ m⟩
theorem closure_is {scope : Scope} {env : Env} (h : ∀ y ∈ scope.names, y.2 = .free → ∃ c, env.cells.lookup y.1 = some c) :
    ∃ cl : List (Str × Addr), closureFor scope env = pure cl ∧ (∀ x c, cl.lookup x = some c → env.cells.lookup x = some c) ∧ (∀ y ∈ scope.names, y.2 = .free → ∃ c, cl.lookup y.1 = some c) := by
  obtain ⟨cl, e, h1, _, h3⟩ := closure_loop env scope.names [] h
  refine ⟨cl, ?_, fun x c hx => ?_, fun y hy hf => ?_⟩
  · unfold closureFor
    rw [← e]
    simp only [bind_pure]
  · rcases h1 x c (PySem.mem_of_lookup hx) with z | ⟨z, _⟩
    · exact nomatch z
    · exact z
  · obtain ⟨c, hc⟩ := h3 y hy hf
    obtain ⟨d, e, _⟩ := lookup_of_mem hc
    exact ⟨d, e⟩

def compCx (X : Cx) (N : List Str) (scope : Scope) (cl : List (Str × Addr)) (C : Addr) (s₀ : Shared) (H₀ : Hp) (fp : List Addr) : Cx where
  prog := X.prog
  w := X.w
  K := X.K
  mg := X.mg
  base := X.base
  A := X.A
  N := N
  s₀ := s₀
  H₀ := H₀
  env := compEnvC scope cl C X.env
  outer := X.stack
  stack := X.stack
  ex := fp
  fn := fun _ => false
  calm := X.calm
  pn := []
  xe := fun _ _ => False

def cOk (oN : List Str) (on : List (Str × NameKind)) (N : List Str) (pick : List (Option Nat)) (scope : Scope) : Bool :=
  decide (scope.kind = .function) && scope.names.all (fun y => y.2 != .cell) && scope.names.all (fun y => y.2 != .local || scope.names.lookup y.1 == some .local)
    && scope.names.all (fun y => y.2 != .free || (scope.names.lookup y.1 == some .free && (on.lookup y.1 == some .cell || on.lookup y.1 == some .free)))
    && pick.length == N.length && (N.zip pick).all (fun p => match p.2 with | none => true | some j => oN[j]? == some p.1 && scope.names.lookup p.1 == some .free)

structure CScope (X : Cx) (N : List Str) (pick : List (Option Nat)) (scope : Scope) : Prop where
  kind : scope.kind = .function
  nocell : ∀ y ∈ scope.names, y.2 ≠ .cell
  names : ∀ y ∈ scope.names, y.2 = .local → scope.names.lookup y.1 = some .local
  fre : ∀ y ∈ scope.names, y.2 = .free → scope.names.lookup y.1 = some .free ∧ (X.env.kindOf y.1 = some .cell ∨ X.env.kindOf y.1 = some .free)
  len : pick.length = N.length
  caps : ∀ (i j : Nat) (x : Str), N[i]? = some x → pick[i]? = some (some j) → X.N[j]? = some x ∧ scope.names.lookup x = some .free
theorem CScope.of {X : Cx} {N : List Str} {pick : List (Option Nat)} {scope : Scope} (h : cOk X.N X.env.scope.names N pick scope = true) : CScope X N pick scope := by
  unfold cOk at h
  simp only [Bool.and_eq_true, decide_eq_true_eq] at h
  obtain ⟨⟨⟨⟨⟨h1, h2⟩, h3⟩, h4⟩, h5⟩, h6⟩ := h
  refine ⟨h1, fun y hy => ?_, fun y hy hl => ?_, fun y hy hf => ?_, by simpa using h5, fun i j x e1 e2 => ?_⟩
  · simpa using List.all_eq_true.mp h2 y hy
  · have := List.all_eq_true.mp h3 y hy
    rw [hl] at this
    simpa using this
  · have := List.all_eq_true.mp h4 y hy
    rw [hf] at this
    simp at this
    exact ⟨this.1, this.2⟩
  · have hz : (N.zip pick)[i]? = some (x, some j) := by rw [List.getElem?_zip_eq_some]; exact ⟨e1, e2⟩
    have := List.all_eq_true.mp h6 _ (List.mem_of_getElem? hz)
    simpa using this

theorem lookup_kinds (f : Str → NameKind → NameKind) : ∀ (names : List (Str × NameKind)) (x : Str), (names.map fun y => (y.1, f y.1 y.2)).lookup x = (names.lookup x).map (f x)
  | [], _ => rfl
  | (n, k) :: r, x => by
    rw [List.map_cons, List.lookup_cons, List.lookup_cons, lookup_kinds f r x]
    by_cases e : x = n
    · subst e; rw [beq_self_eq_true]; rfl
    · rw [beq_false_of_ne e]
def kindIn (env : Env) (n : Str) (k : NameKind) : NameKind := if (k == NameKind.free && env.scope.kind == .function && env.kindOf n == some .cell) then .cell else k
theorem relabel_kinds (env : Env) (names : List (Str × NameKind)) (x : Str) :
    (names.map fun (n, k) => if (k == NameKind.free && env.scope.kind == .function && env.kindOf n == some .cell) then (n, NameKind.cell) else (n, k)).lookup x = (names.lookup x).map (kindIn env x) := by
  rw [← lookup_kinds (kindIn env)]
  congr 2
  funext y
  show ite _ _ _ = (y.1, ite _ _ _)
  split <;> rfl
theorem lookup_relabel_free {env : Env} {names : List (Str × NameKind)} {x : Str} (h : names.lookup x = some .free) :
    (names.map fun (n, k) => if (k == NameKind.free && env.scope.kind == .function && env.kindOf n == some .cell) then (n, NameKind.cell) else (n, k)).lookup x = some .cell ∨
    (names.map fun (n, k) => if (k == NameKind.free && env.scope.kind == .function && env.kindOf n == some .cell) then (n, NameKind.cell) else (n, k)).lookup x = some .free := by
  rw [relabel_kinds, h]
  show some (ite _ _ _) = _ ∨ some (ite _ _ _) = _
  split
  · exact .inl rfl
  · exact .inr rfl
theorem lookup_relabel_other {env : Env} {q : NameKind} (hq : q ≠ .free) {names : List (Str × NameKind)} {x : Str} (h : names.lookup x = some q) :
    (names.map fun (n, k) => if (k == NameKind.free && env.scope.kind == .function && env.kindOf n == some .cell) then (n, NameKind.cell) else (n, k)).lookup x = some q := by
  rw [relabel_kinds, h]
  show some (ite _ _ _) = _
  rw [beq_false_of_ne hq]
  rfl
theorem relabel_free_of {env : Env} : ∀ {names : List (Str × NameKind)} {x : Str}, (∀ y ∈ names, y.2 ≠ .cell) →
    ((names.map fun (n, k) => if (k == NameKind.free && env.scope.kind == .function && env.kindOf n == some .cell) then (n, NameKind.cell) else (n, k)).lookup x = some .cell ∨
    (names.map fun (n, k) => if (k == NameKind.free && env.scope.kind == .function && env.kindOf n == some .cell) then (n, NameKind.cell) else (n, k)).lookup x = some .free) → (x, NameKind.free) ∈ names
  | [], _, _, h => by simp at h
  | (n, k) :: r, x, hc, h => by
    have ih := @relabel_free_of env r x fun y hy => hc y (List.mem_cons_of_mem _ hy)
    have h' : List.lookup x ((if (k == NameKind.free && env.scope.kind == .function && env.kindOf n == some .cell) = true then (n, NameKind.cell) else (n, k)) :: r.map fun (n, k) => if (k == NameKind.free && env.scope.kind == .function && env.kindOf n == some .cell) then (n, NameKind.cell) else (n, k)) = some .cell ∨ List.lookup x ((if (k == NameKind.free && env.scope.kind == .function && env.kindOf n == some .cell) = true then (n, NameKind.cell) else (n, k)) :: r.map fun (n, k) => if (k == NameKind.free && env.scope.kind == .function && env.kindOf n == some .cell) then (n, NameKind.cell) else (n, k)) = some .free := h
    by_cases hk : k = .free
    · cases hx : x == n with
      | true => rw [eq_of_beq hx, hk]; exact List.mem_cons_self
      | false =>
        refine List.mem_cons_of_mem _ (ih ?_)
        by_cases hcc : (k == NameKind.free && env.scope.kind == .function && env.kindOf n == some .cell) = true
        · rw [if_pos hcc] at h'; simpa only [List.lookup_cons, hx] using h'
        · rw [if_neg hcc] at h'; simpa only [List.lookup_cons, hx] using h'
    · have hb : (k == NameKind.free) = false := by simpa using hk
      rw [if_neg (by simp [hb])] at h'
      cases hx : x == n with
      | true =>
        simp only [List.lookup_cons, hx] at h'
        rcases h' with z | z
        · exact absurd (Option.some.inj z) (hc (n, k) List.mem_cons_self)
        · exact absurd (Option.some.inj z) hk
      | false => exact List.mem_cons_of_mem _ (ih (by simpa only [List.lookup_cons, hx] using h'))

theorem vis_comp {scope : Scope} {env : Env} {x : Str} (h : scope.names.lookup x = some .local ∨ scope.names.lookup x = some .free) : Vis (relabel scope env) x := by
  rcases h with h | h
  · exact .inl (lookup_relabel_other (by decide) h)
  · rcases lookup_relabel_free (env := env) h with z | z
    · exact .inr (.inl z)
    · exact .inr (.inr z)
section
variable {X : Cx} {N : List Str} {scope : Scope} {cl : List (Str × Addr)} {C : Addr} {s₀ : Shared} {H₀ : Hp} {fp : List Addr}
theorem pvc (i : Nat) {x : Str} {pos : Pos} (hN : N[i]? = some x := by rfl) (hv : scope.names.lookup x = some .local ∨ scope.names.lookup x = some .free := by first | exact Or.inl rfl | exact Or.inr rfl)
    (hd : (x == ("__debug__" : Str)) = false := by decide) (hcd : (x == ("__classdict__" : Str)) = false := by decide) : PE (compCx X N scope cl C s₀ H₀ fp) (.Name x pos) (tVar i) :=
  pe_var (X := compCx X N scope cl C s₀ H₀ fp) hN (vis_comp hv) hd hcd
theorem glc {x : Str} (h : scope.names.lookup x = some .globalImplicit) : Gl (compCx X N scope cl C s₀ H₀ fp) x := lookup_relabel_other (by decide) h
theorem pgc {i : Nat} {x : Str} {pos : Pos} (hN : N.Nodup) (hi : N[i]? = some x) (hx : scope.names.lookup x = some .local) : PG (compCx X N scope cl C s₀ H₀ fp) (.Name x pos) (gName i) :=
  pg_name (X := compCx X N scope cl C s₀ H₀ fp) hN hi (.inl (lookup_relabel_other (by decide) hx)) (.inr (lookup_relabel_other (by decide) hx))
end

def PIfs (X : Cx) (ifs : List Expr) (t : TT) : Prop :=
  ∀ (pins : List (Addr × Obj)) (s : Shared) (σ : St) (H : Hp) (Q : Bool → Hp → Prop), Inv X pins σ H s → t σ H Q →
    wpAny (model X.prog X.w) X.A (passAll X.env ifs) (TP X pins σ Q) X.xe s
def tNoIf : TT := fun _ H Q => Q true H
theorem pif_nil {X : Cx} : PIfs X [] tNoIf := fun _ _ _ H _ I h => wpAny_tests_nil ⟨H, I, h⟩
theorem pif_one {X : Cx} {c : Expr} {t : TT} (h : PT X c t) : PIfs X [c] t := fun pins s σ H Q I q => wpAny_tests_one (h pins s σ H Q I q)

def LcGoal (J : It) (g : TG) (tt : TT) (te : TE) (D : Addr) (τ0 : St) (Q : VK) (H1 : Hp) : Prop := ∃ W : Nat → Nat → St → List V → Hp → Prop,
  (∃ m, W 0 m τ0 [] (upd H1 D (.lst []))) ∧ ∀ i m τ ys H, W i m τ ys H →
    (J.stop i H ∧ Q (.ref D) H) ∨ (J.go i H ∧ ∀ x H', J.yld i H x H' → g x τ H' fun τ2 H2 => tt τ2 H2 fun b H3 => if b = true then te τ2 H3 fun v H4 => H4 D = some (.lst ys) ∧ ys.length < sizeLine ∧ ∃ m', m' < m ∧ W (i + 1) m' τ2 (ys ++ [v]) (upd H4 D (.lst (ys ++ [v])))
      else ∃ m', m' < m ∧ W (i + 1) m' τ2 ys H3)
def tLc (pick : List (Option Nat)) (wi : TI) (g : TG) (tt : TT) (te : TE) : TE := fun σ H Q => wi σ H fun J H1 => ∀ D, H1 D = none → LcGoal J g tt te D (pick.map fun o => o.bind fun j => (σ[j]?).join) Q H1

section
variable {X : Cx} {N : List Str} {pick : List (Option Nat)} {scope : Scope} {pins : List (Addr × Obj)} {σ : St} {s s3 : Shared} {H H3 : Hp}

theorem comp_start {cl : List (Str × Addr)} {fp : List Addr} {h₁ : Heap} {tk : Nat} (S : CScope X N pick scope) (I3 : Inv X pins σ H3 s3) (hf : ∀ b ∈ fp, FpOk X pins H3 b) (hlt : ∀ b ∈ fp, b < s3.heap.objs.size)
    (c1 : ∀ x c, cl.lookup x = some c → X.env.cells.lookup x = some c) (c2 : ∀ y ∈ scope.names, y.2 = .free → ∃ c, cl.lookup y.1 = some c)
    (hns : h₁.Ns s3.heap.objs.size (fun x => ([] : List (Str × Value)).reverse.lookup x)) (hk : ∀ b o, s3.heap.get? b = some o → h₁.get? b = some o) :
    Inv (compCx X N scope cl s3.heap.objs.size s3 H3 fp) [] (pick.map fun o => o.bind fun j => (σ[j]?).join) H3 { s3 with heap := h₁, toks := tk } := by
  have fsub : ∀ b ∈ frs X.stack, b ∈ X.env.locals :: X.fs := I3.stkSub
  refine ⟨⟨I3.ok.mod, S.kind, I3.ok.glob, I3.ok.blt, Nat.le_refl _, fun x y c e1 e2 => I3.ok.inj x y c (c1 x c e1) (c1 y c e2), fun x hx => ?_, fun x c z _ => (by cases z), I3.ok.hd, I3.ok.frames, .inl rfl, fun b hb => ⟨Nat.ne_of_lt (hlt b hb), fun x c e => (hf b hb).2.2.2.2.1 x c (c1 x c e)⟩,
      I3.bs, Nat.le_trans I3.ok.bsz I3.sz, fun b o e hb => ?_, fun b hb hm => ?_, I3.stack, I3.stkFree⟩,
    rfl, I3.bare, Un.kept hk, ⟨_, hns, fun i x v e1 e2 e3 => ?_⟩, fun x c e => ?_, I3.hok.fresh (Nat.le_refl _), fun x c e => I3.freeC x c (c1 x c e), fun p hp => absurd (show p ∈ ([] : List (Addr × Obj)) from hp) (by simp), I3.hok.kept hk, ?_⟩
  · exact c2 _ (relabel_free_of S.nocell hx) rfl
  · rcases (hf b hb).2.2.2.1 with z | z
    · exact I3.ok.noex b o e z
    · exact absurd (Nat.lt_of_lt_of_le (Heap.lt_size e) (Nat.le_trans I3.ok.bsz z)) (Nat.lt_irrefl _)
  · rcases List.mem_cons.mp (fsub b hm) with z | z
    · exact (hf b hb).2.1 z
    · exact (hf b hb).2.2.1 z
  · -- a captured name
    have e2' : ∃ j, pick[i]? = some (some j) ∧ σ[j]? = some (some v) := by
      rw [List.getElem?_map] at e2
      cases q : pick[i]? with
      | none => rw [q] at e2; cases e2
      | some o =>
        rw [q] at e2
        cases o with
        | none => simp at e2
        | some j =>
          simp at e2
          refine ⟨j, rfl, ?_⟩
          cases q2 : σ[j]? with
          | none => rw [q2] at e2; cases e2
          | some w' => rw [q2] at e2; simp at e2; rw [e2]
    obtain ⟨j, ej, ev⟩ := e2'
    obtain ⟨hN, hfr⟩ := S.caps i j x e1 ej
    have hmem : (x, NameKind.free) ∈ scope.names := PySem.mem_of_lookup hfr
    obtain ⟨_, hkind⟩ := S.fre _ hmem rfl
    obtain ⟨m, hn, hl⟩ := I3.loc
    obtain ⟨u, r, l⟩ := hl j x v hN ev (hkind.elim (fun z => .inr (.inl z)) fun z => .inr (.inr z))
    refine ⟨u, r, .inr ⟨?_, ?_⟩⟩
    · exact lookup_relabel_free (env := X.env) hfr
    · obtain ⟨c, hc⟩ := c2 _ hmem rfl
      have hc' := c1 _ _ hc
      rcases l with ⟨z, _⟩ | ⟨_, c', e, o, ho, hd⟩
      · rcases hkind with y | y
        · rw [y] at z; cases z
        · rw [y] at z; cases z
      · have : c' = c := by rw [hc'] at e; exact (Option.some.inj e).symm
        subst this
        exact ⟨c', hc, o, hk _ _ ho, hd⟩
  · obtain ⟨v, o, ho, hd⟩ := I3.cell x c (c1 x c e)
    exact ⟨v, o, hk _ _ ho, hd⟩
  · rw [List.length_map]
    exact S.len

theorem comp_out {cl : List (Str × Addr)} {fp : List Addr} {C : Addr} {τ : St} {H' : Hp} {s' : Shared} {pins' : List (Addr × Obj)} (I3 : Inv X pins σ H3 s3) (hf : ∀ b ∈ fp, FpOk X pins H3 b) (J : Inv (compCx X N scope cl C s3 H3 fp) pins' τ H' s') :
    Inv X pins σ H' s' := I3.call' J.os J.base J.hok J.bare fun b hb => ⟨(hf b hb).2.2.2.1, (hf b hb).2.1, (hf b hb).2.2.2.2.1, (hf b hb).2.2.2.2.2⟩

theorem lc_block {tg iter elt : Expr} {ifs : List Expr} {pos : Pos} {g : TG} {tt : TT} {te : TE} {J : It} {fp : List Addr} {it : Addr} {tn : Nat → Heap → Prop} {cl : List (Str × Addr)} {Q : VK} {E : Value → Shared → Prop} {RR : Value → Addr → Result → Shared → Prop}
    (hc : X.calm = true) (S : CScope X N pick scope) (c1 : ∀ x c, cl.lookup x = some c → X.env.cells.lookup x = some c) (c2 : ∀ y ∈ scope.names, y.2 = .free → ∃ c, cl.lookup y.1 = some c)
    (hg : ∀ cl C s₀ H₀ fp, PG (compCx X N scope cl C s₀ H₀ fp) tg g) (hi : ∀ cl C s₀ H₀ fp, PIfs (compCx X N scope cl C s₀ H₀ fp) ifs tt) (he : ∀ cl C s₀ H₀ fp, PE (compCx X N scope cl C s₀ H₀ fp) elt te)
    (I2 : Inv X pins σ H s) (T : Turn X.prog X.w X.K tg J fp it tn) (st : tn 0 s.heap) (hf : ∀ b ∈ fp, FpOk X pins H b)
    (hW : ∀ D, H D = none → LcGoal J g tt te D (pick.map fun o => o.bind fun j => (σ[j]?).join) Q H)
    (hRR : ∀ D C H' s', Inv X pins σ H' s' → (∃ m, s'.heap.Ns C m) → FpOk X pins H' C → Q (.ref D) H' → RR (.ref D) C (.ok .next) s') :
    wpAny (model X.prog X.w) X.A (newList []) (fun acc s₃ => wpAny (model X.prog X.w) X.A (newFunctionEnv scope X.env.globals cl [] X.env.qual none .none (some X.env)) (fun cenv s₄ =>
      codeAny (model X.prog X.w) X.A (.compStart (.ListComp elt [⟨tg, iter, ifs, 0⟩] scope pos) 0 (.ref it) acc { cenv with scope := relabel scope X.env }) (RR acc cenv.locals) s₄) E s₃) E s := by
  have hD : H s.heap.objs.size = none := I2.hok.fresh (Nat.le_refl _)
  have hlt : ∀ b ∈ fp, b < s.heap.objs.size := fun b hb => let ⟨o, e, _⟩ := T.obj _ _ st b hb; Heap.lt_size e
  obtain ⟨W, ⟨m0, w0⟩, turn⟩ := hW _ hD
  refine wpAny_newObj_type (wpAny_newFunctionEnv S.nocell (by intro y hy; simp at hy) (fun h₁ hns₁ hsb₁ => ?_) S.kind)
  have I3 : Inv X pins σ (upd H s.heap.objs.size (.lst [])) { s with heap := s.heap.push { cls := .type "list", dict := none, data := .seq ([] : List Value).toArray } } :=
    I2.laid (t' := s.toks) (fun b u e => Heap.get?_push_of_some _ e) (Nat.le_refl _) ⟨Nat.zero_le _, [], 0, .nil, Heap.get?_push_size _ rfl⟩
  generalize hs3 : ({ s with heap := s.heap.push { cls := .type "list", dict := none, data := .seq ([] : List Value).toArray } } : Shared) = s3 at I3 hns₁ hsb₁ ⊢
  have hsz : s3.heap.objs.size = s.heap.objs.size + 1 := by rw [← hs3]; exact Heap.size_push ..
  have hf3 : ∀ b ∈ fp, FpOk X pins (upd H s.heap.objs.size (.lst [])) b := fun b hb => ⟨by rw [upd_ne (Nat.ne_of_lt (hlt b hb))]; exact (hf b hb).1, (hf b hb).2⟩
  have hk : ∀ b o, s3.heap.get? b = some o → h₁.get? b = some o := fun b o e => hsb₁.extBut b o (Nat.ne_of_lt (Heap.lt_size e)) (Heap.get?_push_of_some _ e)
  have st1 : tn 0 h₁ := T.keep _ _ _ st fun b _ o e => hk b o (by rw [← hs3]; exact Heap.get?_push_of_some _ e)
  have IY : Inv (compCx X N scope cl s3.heap.objs.size s3 (upd H s.heap.objs.size (.lst [])) fp) [] (pick.map fun o => o.bind fun j => (σ[j]?).join) (upd H s.heap.objs.size (.lst [])) { s3 with heap := h₁, toks := s3.toks + ([] : List (Str × Value)).length } :=
    comp_start S I3 hf3 (fun b hb => Nat.lt_of_lt_of_le (hlt b hb) (by omega)) c1 c2 hns₁ hk
  generalize hY : compCx X N scope cl s3.heap.objs.size s3 (upd H s.heap.objs.size (.lst [])) fp = Y at IY
  have yg : PG Y tg g := hY ▸ hg _ _ _ _ _
  have yi : PIfs Y ifs tt := hY ▸ hi _ _ _ _ _
  have ye : PE Y elt te := hY ▸ he _ _ _ _ _
  have yprog : Y.prog = X.prog := by rw [← hY]; rfl
  have yw : Y.w = X.w := by rw [← hY]; rfl
  have yK : Y.K = X.K := by rw [← hY]; rfl
  have yA : Y.A = X.A := by rw [← hY]; rfl
  have yc : Y.calm = true := by rw [← hY]; exact hc
  have yenv : Y.env = compEnvC scope cl s3.heap.objs.size X.env := by rw [← hY]; rfl
  have yex : ∀ b, b ∈ Y.ex ↔ b ∈ fp := fun b => by rw [← hY]; rfl
  have yxe : Y.xe = fun _ _ => False := by rw [← hY]; rfl
  have ypn : Y.pn = [] := by rw [← hY]; rfl
  have yfs : ∀ b, b ∈ Y.fs → b ∈ X.env.locals :: X.fs := fun b hb => I3.stkSub b (by rw [← hY] at hb; exact hb)
  have stat : ∀ {H' : Hp}, (∀ b ∈ fp, H' b = none) → ∀ b ∈ fp, FpOk Y [] H' b := fun hn b hb => by
    refine ⟨hn b hb, ?_, fun hm => ?_, .inl ((yex b).mpr hb), fun x c e => ?_, fun p hp => ?_⟩
    · rw [yenv]
      show b ≠ s3.heap.objs.size
      exact Nat.ne_of_lt (Nat.lt_of_lt_of_le (hlt b hb) (by omega))
    · rcases List.mem_cons.mp (yfs b hm) with z | z
      · exact (hf b hb).2.1 z
      · exact (hf b hb).2.2.1 z
    · rw [yenv] at e
      exact (hf b hb).2.2.2.2.1 x c (c1 x c e)
    · rw [ypn] at hp; simp at hp
  have fin : ∀ {τ : St} {H' : Hp} {s' : Shared}, Inv Y [] τ H' s' → Q (.ref s.heap.objs.size) H' → RR (.ref s.heap.objs.size) s3.heap.objs.size (.ok .next) s' := fun {τ H' s'} J q => by
    have fr : H' s3.heap.objs.size = none := by have := J.free; rw [yenv] at this; exact this
    obtain ⟨m, hn, _⟩ := J.loc
    rw [yenv] at hn
    exact hRR _ _ H' s' (comp_out I3 hf3 (hY ▸ J)) ⟨m, hn⟩ (I3.fpOk (Nat.le_refl _) fr) q
  have loop : ∀ s₃ : Shared, Inv Y [] (pick.map fun o => o.bind fun j => (σ[j]?).join) (upd H s.heap.objs.size (.lst [])) s₃ → tn 0 s₃.heap →
      codeAny (model X.prog X.w) X.A (.compLoop (.ListComp elt [⟨tg, iter, ifs, 0⟩] scope pos) 0 (.ref it) (.ref s.heap.objs.size) (compEnvC scope cl s3.heap.objs.size X.env)) (RR (.ref s.heap.objs.size) s3.heap.objs.size) s₃ := by
    intro s₃ J0 t0
    refine compLoop_gen (fun n s' => ∃ i τ ys H', Inv Y [] τ H' s' ∧ tn i s'.heap ∧ (∀ b ∈ fp, H' b = none) ∧ W i n τ ys H') ?_ m0 ⟨0, _, [], _, J0, t0, fun b hb => (hf3 b hb).1, w0⟩
    rintro n s4 ⟨i, τ, ys, H4, J4, t4, fr4, w4⟩
    rcases turn i n τ ys H4 w4 with ⟨stop, q⟩ | ⟨go, step⟩
    · have ad := T.done Y yprog yw yK yc i [] s4 τ H4 (fun _ _ => False) J4 (stat fr4) t4 stop
      rw [yA] at ad
      refine wpAny_mono ad (fun r s5 ⟨hr, J5⟩ => ?_) fun _ _ f => f
      subst hr
      exact fin J5 q
    · have ad := T.item Y yprog yw yK yc i [] s4 τ H4 (fun _ _ => False) J4 (stat fr4) t4 go
      rw [yA] at ad
      refine wpAny_mono ad (fun r s5 ⟨u, hr, h5⟩ => ?_) fun _ _ f => f
      subst hr
      refine wpAny_mono h5 (fun _ s6 ⟨x, H6, J6, r6, y6, t6, fr6⟩ => ?_) fun _ _ f => f
      have J6' := J6.pinned (stat fr6) (T.obj _ _ t6)
      have ag := yg _ s6 τ H6 x u _ J6' r6 (step x H6 y6)
      rw [yprog, yw, yA, yenv, yxe] at ag
      refine wpAny_mono ag (fun _ s7 ⟨τ7, H7, J7, q7⟩ => ?_) fun _ _ f => f
      have ai := yi _ s7 τ7 H7 _ J7 q7
      rw [yprog, yw, yA, yenv, yxe] at ai
      refine wpAny_mono ai (fun ok s8 ⟨H8, J8, q8⟩ => ?_) fun _ _ f => f
      have again : ∀ {τ9 : St} {H9 : Hp} {s9 : Shared} {zs : List V}, Inv Y ([] ++ pinsAt fp s6.heap) τ9 H9 s9 → (∃ m', m' < n ∧ W (i + 1) m' τ9 zs H9) → ∃ m, m < n ∧ ∃ i τ ys H', Inv Y [] τ H' s9 ∧ tn i s9.heap ∧ (∀ b ∈ fp, H' b = none) ∧ W i m τ ys H' := fun {τ9 H9 s9 zs} J9 ⟨m', hm, w9⟩ => by
        refine ⟨m', hm, i + 1, τ9, zs, H9, J9.unpinned, T.keep _ _ _ t6 fun b hb o e => (J9.pin (b, o) (List.mem_append_right _ (List.mem_append_right _ (mem_pinsAt hb e)))).1, fun b hb => ?_, w9⟩
        obtain ⟨o, e, d⟩ := T.obj _ _ t6 b hb
        exact (J9.pin (b, o) (List.mem_append_right _ (List.mem_append_right _ (mem_pinsAt hb e)))).2.1
      cases ok with
      | false => exact again J8 q8
      | true =>
        have ae := ye _ s8 τ7 H8 _ J8 q8
        rw [yprog, yw, yA, yenv, yxe] at ae
        refine wpAny_bind (wpAny_mono ae (fun v s9 ⟨z, H9, J9, r9, hD9, hz9, q9⟩ => ?_) fun _ _ f => f)
        have aa := mt_append (X := Y) _ s9 τ7 H9 (.ref s.heap.objs.size) [z] (.ref s.heap.objs.size) [v] (fun x H' => H' = upd H9 s.heap.objs.size (.lst (ys ++ [z]))) J9 rfl (.cons r9 .nil) ⟨_, ys, z, rfl, rfl, hD9, hz9, rfl⟩
        rw [yprog, yw, yA, yxe] at aa
        refine wpAny_bind (wpAny_mono aa (fun _ s10 ⟨_, H10, J10, _, e10⟩ => ?_) fun _ _ f => f)
        subst e10
        exact wpAny_pure (again J10 q9)
  show codeAny (model X.prog X.w) X.A (.compStart (.ListComp elt [⟨tg, iter, ifs, 0⟩] scope pos) 0 (.ref it) (.ref s.heap.objs.size) (compEnvC scope cl s3.heap.objs.size X.env)) (RR (.ref s.heap.objs.size) s3.heap.objs.size) _
  exact codeAny_compStart_list (loop _ IY st1) (T.self _ 0 _ _ _ st1 (loop _ IY st1))

theorem pe_lc {tg iter elt : Expr} {ifs : List Expr} {pos : Pos} {wi : TI} {g : TG} {tt : TT} {te : TE} (hc : X.calm = true) (S : CScope X N pick scope) (hw : PI X tg iter wi)
    (hg : ∀ cl C s₀ H₀ fp, PG (compCx X N scope cl C s₀ H₀ fp) tg g) (hi : ∀ cl C s₀ H₀ fp, PIfs (compCx X N scope cl C s₀ H₀ fp) ifs tt) (he : ∀ cl C s₀ H₀ fp, PE (compCx X N scope cl C s₀ H₀ fp) elt te)
    (hs : ∀ x, foldedSetIterable iter X.env x = pure x := by intro _; rfl) : PE X (.ListComp elt [⟨tg, iter, ifs, 0⟩] scope pos) (tLc pick wi g tt te) := by
  intro pins s σ H Q I h
  obtain ⟨cl, hclos, c1, c2⟩ := closure_is (scope := scope) (env := X.env) fun y hy hf => I.ok.has _ (S.fre y hy hf).2
  rw [eval_ListComp]
  refine wpAny_comprehension_free (use := none) rfl hs hclos S.kind S.names (thn (hw pins s σ H _ I h) fun v s1 h1 => thn h1 fun itv s2 h2 => ?_)
  obtain ⟨it, fp, tn, J, H2, e, I2, T, st2, f2, hW⟩ := h2
  subst e
  refine lc_block (RR := fun acc C => compPost (model X.prog X.w) X.A X.xe none (EP X pins σ Q) acc C) hc S c1 c2 hg hi he I2 T st2 f2 hW fun D C H' s' J' ⟨m, hn⟩ fC q => ?_
  refine ⟨m, hn, fun h' hs' => ⟨.ref D, H', ?_, rfl, q⟩⟩
  exact J'.turned (t' := s'.toks) (it := C) (fun b o hb e => hs'.extBut b o hb e) fC.1 fC.2.1 fC.2.2.2.1 fC.2.2.2.2.1 fC.2.2.2.2.2

theorem ps_lc {tg iter elt : Expr} {ifs : List Expr} {pos py spos : Pos} {wi : TI} {g : TG} {tt : TT} {te : TE} {i : Nat} {y : Str} (hN : X.N.Nodup) (hi' : X.N[i]? = some y) (hy : X.env.scope.names.lookup y = some .local) (hc : X.calm = true) (S : CScope X N pick scope) (hw : PI X tg iter wi)
    (hg : ∀ cl C s₀ H₀ fp, PG (compCx X N scope cl C s₀ H₀ fp) tg g) (hi : ∀ cl C s₀ H₀ fp, PIfs (compCx X N scope cl C s₀ H₀ fp) ifs tt) (he : ∀ cl C s₀ H₀ fp, PE (compCx X N scope cl C s₀ H₀ fp) elt te)
    (hsw : swapsWith (.ListComp elt [⟨tg, iter, ifs, 0⟩] scope pos) (some (.Name y py)) spos.line X.env = pure true) (hs : ∀ x, foldedSetIterable iter X.env x = pure x := by intro _; rfl) :
    PS X (.Assign [.Name y py] (.ListComp elt [⟨tg, iter, ifs, 0⟩] scope pos) spos) (tAsg (tLc pick wi g tt te) (gName i)) := by
  intro pins s σ H D0 I h
  obtain ⟨cl, hclos, c1, c2⟩ := closure_is (scope := scope) (env := X.env) fun y hy hf => I.ok.has _ (S.fre y hy hf).2
  rw [exec_Assign_Name_used _ _ _ _ hsw]
  refine wpAny_bind (wpAny_standAt (wpAny_bind ?_))
  show wpAny _ _ (do let _ ← comprehension (.ListComp elt [⟨tg, iter, ifs, 0⟩] scope pos) scope X.env _ (newList []) false (eval iter X.env) (some (assign (.Name y py) X.env))) _ _ s
  refine wpAny_bind (thn (wpAny_comprehension_free (use := some (assign (.Name y py) X.env)) (Q := fun _ s' => SP X pins D0 .next s') rfl hs hclos S.kind S.names
    (thn (hw pins s σ H _ I h) fun v s1 h1 => thn h1 fun itv s2 h2 => ?_)) fun _ s' hq => wpAny_pure (wpAny_pure hq))
  obtain ⟨it, fp, tn, J, H2, e, I2, T, st2, f2, hW⟩ := h2
  subst e
  refine lc_block (Q := fun x H1 => gName i x σ H1 D0.nx) (RR := fun acc C => compPost (model X.prog X.w) X.A X.xe (some (assign (.Name y py) X.env)) (fun _ s' => SP X pins D0 .next s') acc C) hc S c1 c2 hg hi he I2 T st2 f2 hW fun D C H' s' J' ⟨m, hn⟩ fC q => ?_
  show wpAny _ _ (assign (.Name y py) X.env (.ref D)) _ _ _
  refine wpAny_assign_Name (store_ok2 (v := .ref D) J' hN hi' (.inl hy) rfl (fun s'' J'' ⟨a, sb, ha⟩ => ?_) (.inr hy))
  have hne : C ≠ a := by
    rcases ha with z | z
    · rw [z]; exact fC.2.1
    · exact fun e => fC.2.2.2.2.1 y a z e.symm
  refine ⟨m, hn.sameBut sb hne, fun h' hs' => ?_⟩
  refine ⟨_, H', J''.turned (t' := s''.toks) (it := C) (fun b o hb e => hs'.extBut b o hb e) fC.1 fC.2.1 fC.2.2.2.1 fC.2.2.2.2.1 fC.2.2.2.2.2, q⟩
end
end L2

namespace L2
open PySem PySem.Spec PyProof.Rows
set_option maxHeartbeats 4000000

mutual
inductive DV (K : PySem.W.Frag) (H : Hp) : V → PyData → Prop
  | non : DV K H .non .none
  | bl (b : Bool) : DV K H (.bl b) (.bool b)
  | int (i : Int) : DV K H (.int i) (.int i)
  | str (x : Str) : DV K H (.str x) (.str x)
  | tup {a : Addr} {xs : List V} {ds : List PyData} : H a = some (.tup xs) → DVs K H xs ds → DV K H (.ref a) (.tuple ds)
  | lst {a : Addr} {xs : List V} {ds : List PyData} : SqL K H a xs → DVs K H xs ds → DV K H (.ref a) (.list ds)
inductive DVs (K : PySem.W.Frag) (H : Hp) : List V → List PyData → Prop
  | nil : DVs K H [] []
  | cons {x : V} {d : PyData} {xs : List V} {ds : List PyData} : DV K H x d → DVs K H xs ds → DVs K H (x :: xs) (d :: ds)
end
section
variable {K : PySem.W.Frag} {H H' : Hp}
theorem DVs.append : ∀ {xs ys : List V} {ds es : List PyData}, DVs K H xs ds → DVs K H ys es → DVs K H (xs ++ ys) (ds ++ es)
  | _, _, _, _, .nil, h => h
  | _, _, _, _, .cons a b, h => .cons a (DVs.append b h)
theorem DVs.length : ∀ {xs : List V} {ds : List PyData}, DVs K H xs ds → xs.length = ds.length
  | _, _, .nil => rfl
  | _, _, .cons _ b => by simp [DVs.length b]
theorem DVs.get : ∀ {xs : List V} {ds : List PyData} {i : Nat} {x : V}, DVs K H xs ds → xs[i]? = some x → ∃ d, ds[i]? = some d ∧ DV K H x d
  | _, _, _, _, .nil, e => by simp at e
  | _, _, 0, _, .cons a _, e => by simp at e; subst e; exact ⟨_, rfl, a⟩
  | _, _, i + 1, x, .cons _ b, e => by
    obtain ⟨d, e1, h⟩ := DVs.get (i := i) (x := x) b (by simpa using e)
    exact ⟨d, by simpa using e1, h⟩
theorem DVs.get' : ∀ {xs : List V} {ds : List PyData} {i : Nat} {d : PyData}, DVs K H xs ds → ds[i]? = some d → ∃ x, xs[i]? = some x ∧ DV K H x d
  | _, _, _, _, .nil, e => by simp at e
  | _, _, 0, _, .cons a _, e => by simp at e; subst e; exact ⟨_, rfl, a⟩
  | _, _, i + 1, d, .cons _ b, e => by
    obtain ⟨x, e1, h⟩ := DVs.get' (i := i) (d := d) b (by simpa using e)
    exact ⟨x, by simpa using e1, h⟩
theorem DVs.take : ∀ {xs : List V} {ds : List PyData} (_ : DVs K H xs ds) (n : Nat), DVs K H (xs.take n) (ds.take n)
  | _, _, _, 0 => .nil
  | _, _, .nil, _ + 1 => .nil
  | _, _, .cons a b, n + 1 => .cons a (DVs.take b n)
theorem DVs.drop : ∀ {xs : List V} {ds : List PyData} (_ : DVs K H xs ds) (n : Nat), DVs K H (xs.drop n) (ds.drop n)
  | _, _, h, 0 => h
  | _, _, .nil, _ + 1 => .nil
  | _, _, .cons _ b, n + 1 => DVs.drop b n
theorem DVs.ints : ∀ (ns : List Int), DVs K H (ns.map V.int) (ns.map PyData.int)
  | [] => .nil
  | n :: r => .cons (.int n) (DVs.ints r)
mutual
theorem DV.same : ∀ {x : V} {d : PyData}, (∀ b o, H b = some o → H' b = some o) → DV K H x d → DV K H' x d
  | _, _, _, .non => .non
  | _, _, _, .bl b => .bl b
  | _, _, _, .int i => .int i
  | _, _, _, .str x => .str x
  | _, _, h, .tup e r => .tup (h _ _ e) (DVs.same h r)
  | _, _, h, .lst e r => .lst (Same.seq h e) (DVs.same h r)
theorem DVs.same : ∀ {xs : List V} {ds : List PyData}, (∀ b o, H b = some o → H' b = some o) → DVs K H xs ds → DVs K H' xs ds
  | _, _, _, .nil => .nil
  | _, _, h, .cons a b => .cons (DV.same h a) (DVs.same h b)
end
end
mutual
def noL : PyData → Bool
  | .list _ => false
  | .tuple xs => noLs xs
  | .dict _ => false
  | .none | .bool _ | .int _ | .str _ => true
def noLs : List PyData → Bool
  | [] => true
  | x :: r => noL x && noLs r
end
theorem noLs_all {ds : List PyData} : noLs ds = true ↔ ∀ d ∈ ds, noL d = true := by
  induction ds with
  | nil => simp [noLs]
  | cons x r ih => simp [noLs, ih]
section
variable {K : PySem.W.Frag} {H H' : Hp}
def TK (H H' : Hp) : Prop := ∀ b xs, H b = some (.tup xs) → H' b = some (.tup xs)
theorem TK.trans {H1 H2 H3 : Hp} (a : TK H1 H2) (b : TK H2 H3) : TK H1 H3 := fun c xs h => b c xs (a c xs h)
mutual
theorem DV.tk : ∀ {x : V} {d : PyData}, TK H H' → noL d = true → DV K H x d → DV K H' x d
  | _, _, _, _, .non => .non
  | _, _, _, _, .bl b => .bl b
  | _, _, _, _, .int i => .int i
  | _, _, _, _, .str x => .str x
  | _, _, h, n, .tup e r => .tup (h _ _ e) (DVs.tk h (by simpa [noL] using n) r)
  | _, _, _, n, .lst e r => by simp [noL] at n
theorem DVs.tk : ∀ {xs : List V} {ds : List PyData}, TK H H' → noLs ds = true → DVs K H xs ds → DVs K H' xs ds
  | _, _, _, _, .nil => .nil
  | _, _, h, n, .cons a b => by
    simp only [noLs, Bool.and_eq_true] at n
    exact .cons (DV.tk h n.1 a) (DVs.tk h n.2 b)
end
end

mutual
theorem DV.reads {X : Cx} {pins : List (Addr × Obj)} {σ : St} {H : Hp} {s : Shared} (I : Inv X pins σ H s) : ∀ {x : V} {d : PyData} {u : Value}, DV X.K H x d → RelV x u → ∃ as, Reads s.heap u d as
  | _, _, _, .non, r => by cases r; exact ⟨_, .none⟩
  | _, _, _, .bl b, r => by cases r; exact ⟨_, .bool b⟩
  | _, _, _, .int i, r => by obtain ⟨t, rfl⟩ := r; exact ⟨_, .int i t⟩
  | _, _, _, .str x, r => by obtain ⟨t, rfl⟩ := r; exact ⟨_, .str x t⟩
  | _, _, _, .tup e h, r => by
    cases r
    obtain ⟨its, rv, ⟨o, ho, hc, n, hd⟩, _⟩ := I.tuple (.inl (.inl e))
    obtain ⟨as, q⟩ := DVs.reads I h rv
    exact ⟨_, .tuple ho hc hd q⟩
  | _, _, _, .lst e h, r => by
    cases r
    obtain ⟨its, rv, ⟨o, n, ho, hc, _, hd⟩, _⟩ := I.list e
    obtain ⟨as, q⟩ := DVs.reads I h rv
    exact ⟨_, .list ho hc hd q⟩
theorem DVs.reads {X : Cx} {pins : List (Addr × Obj)} {σ : St} {H : Hp} {s : Shared} (I : Inv X pins σ H s) : ∀ {xs : List V} {ds : List PyData} {us : List Value}, DVs X.K H xs ds → Vals xs us → ∃ as, ReadsAll s.heap us ds as
  | _, _, _, .nil, r => by cases r; exact ⟨_, .nil⟩
  | _, _, _, .cons a b, r => by
    cases r with
    | cons r rr =>
      obtain ⟨as, q⟩ := DV.reads I a r
      obtain ⟨bs, q'⟩ := DVs.reads I b rr
      exact ⟨_, .cons q q'⟩
end

structure Fits (n k : Nat) (d : PyData) : Prop where
  sh : d.showable = true
  nd : d.hasDict = false
  ln : d.shown.length ≤ n
  dp : d.depth ≤ k
end L2

namespace L2
open PySem PySem.Spec PyProof.Rows
set_option maxHeartbeats 4000000
def Def (P : Program) (w : World) (K : PySem.W.Frag) (mg : Str → Option Value) (base : Heap) (k : Nat) (x : Str) (ps : List Str) (sp : Sp) : Prop :=
  ∃ (f : Addr) (fd : FuncData), FnOk P w K mg base CX0 k f fd ps sp ∧ mg x = some (.ref f) ∧ PySem.W.keepIn K (.ref f) = true ∧ Binds K fd ps []
section
variable {X : Cx} {k : Nat} {x : Str} {ps : List Str} {sp : Sp} {e : Expr} {es : List Expr} {t : TA} {p pos : Pos}
theorem pe_own (D : Def X.prog X.w X.K X.mg X.base k x ps sp) (hr : Room k X.A) (hg : Gl X x) (ha : PA X (e :: es) t) (hdb : (x == ("__debug__" : Str)) = false := by decide)
    (he : starEach (e :: es) X.env = (false, eval e X.env) :: starEach es X.env := by rfl) (hpl : (backTo pos (starEach es X.env)).any (·.1) = false := by rfl) : PE X (.Call (.Name x p) (e :: es) [] pos) (tCall sp [] E0 t) := by
  obtain ⟨f, fd, F, hm, hk, hb⟩ := D
  exact pe_call F hr hg hm hk hb .nil pass0 ha hdb he hpl
theorem pt_of {e : Expr} {te : TE} (h : PE X e te) (he : ∀ whole, isTrue e X.env whole = (do let v ← whole; standAt e.pos; holding [v] (truthy v)) := by intro _; rfl) : PT X e (fun σ H Q => te σ H fun x H' => ∃ k, TruV X.K x H' k ∧ Q k H') := pt_truth h he
end
def Sm (f : Addr) (H H' : Hp) : Prop := ∀ b o, b ≠ f → H b = some o → H' b = some o
theorem Sm.refl (f : Addr) (H : Hp) : Sm f H H := fun _ _ _ h => h
theorem Sm.trans {f : Addr} {H H1 H2 : Hp} (a : Sm f H H1) (b : Sm f H1 H2) : Sm f H H2 := fun c o n h => b c o n (a c o n h)
theorem Sm.same {f : Addr} {H H' : Hp} (a : Same H H') : Sm f H H' := fun c o _ h => a c o h
theorem Sm.new {f p : Addr} {H : Hp} {o : HO} (h : H p = none) : Sm f H (upd H p o) := fun c _ _ e => by rw [upd_ne (ne_of_none e h)]; exact e
theorem Same.new {p : Addr} {H : Hp} {o : HO} (h : H p = none) : Same H (upd H p o) := fun c _ e => by rw [upd_ne (ne_of_none e h)]; exact e
theorem Sm.acc {f D : Addr} {H H' : Hp} {o : HO} (a : Sm f H H') (hD : H D = none) : Sm f H (upd H' D o) := fun c _ n e => by rw [upd_ne (ne_of_none e hD)]; exact a c _ n e
theorem Same.acc {D : Addr} {H H' : Hp} {o : HO} (a : Same H H') (hD : H D = none) : Same H (upd H' D o) := fun c _ e => by rw [upd_ne (ne_of_none e hD)]; exact a c _ e
theorem Sm.self {f : Addr} {H : Hp} {o : HO} : Sm f H (upd H f o) := fun c _ n e => by rw [upd_ne n]; exact e
theorem Sm.free {f p : Addr} {H H' : Hp} {o : HO} (a : Sm f H H') (hf : H f = some o) (h : H' p = none) (hf' : H' f ≠ none) : H p = none := by
  by_cases e : p = f
  · subst e; exact absurd h hf'
  · cases q : H p with
    | none => rfl
    | some u => rw [a p u e q] at h; cases h
theorem Sm.tk {f : Addr} {H H' : Hp} {kvs : List (Key × V)} (a : Sm f H H') (hf : H f = some (.dK kvs)) : TK H H' := fun b xs e => a b _ (fun z => by subst z; rw [hf] at e; cases e) e
theorem Same.tk {H H' : Hp} (a : Same H H') : TK H H' := fun b xs e => a b _ e
theorem TK.updL {H : Hp} {l : Addr} {xs ys : List V} (h : H l = some (.lst xs)) : TK H (upd H l (.lst ys)) := fun b zs e => by rw [upd_ne (fun z => by subst z; rw [h] at e; cases e)]; exact e
theorem TK.updD {H : Hp} {l : Addr} {xs ys : List (Key × V)} (h : H l = some (.dK xs)) : TK H (upd H l (.dK ys)) := fun b zs e => by rw [upd_ne (fun z => by subst z; rw [h] at e; cases e)]; exact e
theorem TK.new {H : Hp} {p : Addr} {o : HO} (h : H p = none) : TK H (upd H p o) := (Same.new h).tk
def LcW (n k : Nat) (caps : St) (Pv : Nat → List V → Hp → Prop) : Nat → Nat → St → List V → Hp → Prop := fun i m τ ys H => m = n - i ∧ i ≤ n ∧ (∃ os : St, os.length = k ∧ τ = os ++ caps) ∧ Pv i ys H
def LcN (D : Addr) (n k : Nat) (caps : St) (Pv : Nat → List V → Hp → Prop) (i : Nat) (ys : List V) (τ : St) (v : V) (H : Hp) : Prop :=
  H D = some (.lst ys) ∧ ys.length < sizeLine ∧ ∃ m', m' < n - i ∧ LcW n k caps Pv (i + 1) m' τ (ys ++ [v]) (upd H D (.lst (ys ++ [v])))
def LcS (n k : Nat) (caps : St) (Pv : Nat → List V → Hp → Prop) (i : Nat) (ys : List V) (τ : St) (H : Hp) : Prop := ∃ m', m' < n - i ∧ LcW n k caps Pv (i + 1) m' τ ys H
theorem LcN.mk {D : Addr} {n k : Nat} {caps os : St} {Pv : Nat → List V → Hp → Prop} {i : Nat} {ys : List V} {τ : St} {v : V} {H : Hp} (hi : i < n) (hD : H D = some (.lst ys)) (hl : ys.length < sizeLine) (ho : os.length = k) (hτ : τ = os ++ caps)
    (hP : Pv (i + 1) (ys ++ [v]) (upd H D (.lst (ys ++ [v])))) : LcN D n k caps Pv i ys τ v H := ⟨hD, hl, n - (i + 1), by omega, rfl, hi, ⟨os, ho, hτ⟩, hP⟩
theorem LcS.mk {n k : Nat} {caps os : St} {Pv : Nat → List V → Hp → Prop} {i : Nat} {ys : List V} {τ : St} {H : Hp} (hi : i < n) (ho : os.length = k) (hτ : τ = os ++ caps) (hP : Pv (i + 1) ys H) : LcS n k caps Pv i ys τ H := ⟨n - (i + 1), by omega, rfl, hi, ⟨os, ho, hτ⟩, hP⟩
section
variable {g : TG} {tt : TT} {te : TE} {Q : VK} {τ0 : St} {H : Hp} {D : Addr}
theorem lc_range {lo : Int} {n : Nat} (k : Nat) (caps : St) (Pv : Nat → List V → Hp → Prop) (hp : τ0 = List.replicate k none ++ caps) (h0 : Pv 0 [] (upd H D (.lst [])))
    (hs : ∀ i ys H os, i < n → os.length = k → Pv i ys H → g (.int (lo + i)) (os ++ caps) H fun τ2 H2 => tt τ2 H2 fun b H3 => if b = true then te τ2 H3 fun v H4 => LcN D n k caps Pv i ys τ2 v H4 else LcS n k caps Pv i ys τ2 H3)
    (hd : ∀ ys H, Pv n ys H → Q (.ref D) H) :
    LcGoal (Itr lo n) g tt te D τ0 Q H := by
  refine ⟨LcW n k caps Pv, ⟨n, by simp, Nat.zero_le _, ⟨List.replicate k none, by simp, hp⟩, h0⟩, ?_⟩
  rintro i m τ ys H ⟨rfl, hi, ⟨os, ho, rfl⟩, p⟩
  by_cases hlt : i < n
  · refine .inr ⟨hlt, fun x H' y => ?_⟩
    obtain ⟨e, y⟩ := y
    subst e y
    exact hs i ys _ os hlt ho p
  · have e : i = n := by omega
    subst e
    exact .inl ⟨Nat.le_refl _, hd ys H p⟩
theorem lc_tup {K : PySem.W.Frag} {a : Addr} {xs : List V} (k : Nat) (caps : St) (Pv : Nat → List V → Hp → Prop) (hp : τ0 = List.replicate k none ++ caps) (h0 : Pv 0 [] (upd H D (.lst [])))
    (hl : ∀ i ys H, i ≤ xs.length → Pv i ys H → SqT K H a xs)
    (hs : ∀ i x ys H os, xs[i]? = some x → os.length = k → Pv i ys H → g x (os ++ caps) H fun τ2 H2 => tt τ2 H2 fun b H3 => if b = true then te τ2 H3 fun v H4 => LcN D xs.length k caps Pv i ys τ2 v H4 else LcS xs.length k caps Pv i ys τ2 H3)
    (hd : ∀ ys H, Pv xs.length ys H → Q (.ref D) H) :
    LcGoal (Itt K a) g tt te D τ0 Q H := by
  refine ⟨LcW xs.length k caps Pv, ⟨xs.length, by simp, Nat.zero_le _, ⟨List.replicate k none, by simp, hp⟩, h0⟩, ?_⟩
  rintro i m τ ys H ⟨rfl, hi, ⟨os, ho, rfl⟩, p⟩
  have q := hl i ys H hi p
  by_cases hlt : i < xs.length
  · refine .inr ⟨⟨xs, xs[i], q, by simp [hlt]⟩, fun x H' y => ?_⟩
    obtain ⟨e, y⟩ := y
    subst e
    exact hs i x ys _ os (y xs q) ho p
  · have e : i = xs.length := by omega
    subst e
    exact .inl ⟨⟨xs, q, Nat.le_refl _⟩, hd ys H p⟩
theorem lc_list {K : PySem.W.Frag} {a : Addr} {xs : List V} (k : Nat) (caps : St) (Pv : Nat → List V → Hp → Prop) (hp : τ0 = List.replicate k none ++ caps) (h0 : Pv 0 [] (upd H D (.lst [])))
    (hl : ∀ i ys H, i ≤ xs.length → Pv i ys H → SqL K H a xs)
    (hs : ∀ i x ys H os, xs[i]? = some x → os.length = k → Pv i ys H → g x (os ++ caps) H fun τ2 H2 => tt τ2 H2 fun b H3 => if b = true then te τ2 H3 fun v H4 => LcN D xs.length k caps Pv i ys τ2 v H4 else LcS xs.length k caps Pv i ys τ2 H3)
    (hd : ∀ ys H, Pv xs.length ys H → Q (.ref D) H) :
    LcGoal (Itl K a) g tt te D τ0 Q H := by
  refine ⟨LcW xs.length k caps Pv, ⟨xs.length, by simp, Nat.zero_le _, ⟨List.replicate k none, by simp, hp⟩, h0⟩, ?_⟩
  rintro i m τ ys H ⟨rfl, hi, ⟨os, ho, rfl⟩, p⟩
  have q := hl i ys H hi p
  by_cases hlt : i < xs.length
  · refine .inr ⟨⟨xs, xs[i], q, by simp [hlt]⟩, fun x H' y => ?_⟩
    obtain ⟨e, y⟩ := y
    subst e
    exact hs i x ys _ os (y xs q) ho p
  · have e : i = xs.length := by omega
    subst e
    exact .inl ⟨⟨xs, q, Nat.le_refl _⟩, hd ys H p⟩
end
theorem noif {τ : St} {H : Hp} {A B : Hp → Prop} (h : A H) : tNoIf τ H (fun b H3 => if b = true then A H3 else B H3) := by
  show (if true = true then A H else B H)
  rw [if_pos rfl]
  exact h
theorem noifN {i : Nat} {v : V} {τ : St} {H : Hp} {A B : St → Hp → Prop} (h : A (τ.set i (some v)) H) : gName i v τ H (fun τ2 H2 => tNoIf τ2 H2 (fun b H3 => if b = true then A τ2 H3 else B τ2 H3)) := by
  show (if true = true then A (τ.set i (some v)) H else B (τ.set i (some v)) H)
  rw [if_pos rfl]
  exact h
section
variable {X : Cx}
end
theorem pickI {xs : List V} {r : Int} (P : V → Prop) (h0 : 0 ≤ r) (h1 : r < xs.length) (hall : ∀ x ∈ xs, P x) : ∃ v, atI xs r = some v ∧ P v := by
  have hi : r.toNat < xs.length := by omega
  refine ⟨xs[r.toNat], ?_, hall _ (List.getElem_mem hi)⟩
  have := atI_nat (xs := xs) (j := r.toNat) (v := xs[r.toNat]) (List.getElem?_eq_getElem hi)
  rw [Int.toNat_of_nonneg h0] at this
  exact this
theorem pickN {xs : List V} {r : Int} {v : V} (h0 : 0 ≤ r) (h : xs[r.toNat]? = some v) : atI xs r = some v := by
  have := atI_nat h
  rw [Int.toNat_of_nonneg h0] at this
  exact this
section
variable {X : Cx} {es : List Expr} {te : TE} {t : TA}
theorem pa_const {v : Const} {j} {p : Pos} (ha : PE X (.Constant v j p) te) (hr : PA X es t) : PA X ((.Constant v j p) :: es) (tCons te t) := pa_cons ha hr rfl
theorem pa_name {x : Str} {p : Pos} (ha : PE X (.Name x p) te) (hr : PA X es t) : PA X ((.Name x p) :: es) (tCons te t) := pa_cons ha hr rfl
theorem pa_bin {a b : Expr} {op : Operator} {p : Pos} (ha : PE X (.BinOp a op b p) te) (hr : PA X es t) : PA X ((.BinOp a op b p) :: es) (tCons te t) := pa_cons ha hr rfl
theorem pa_un {a : Expr} {op : UnaryOp} {p : Pos} (ha : PE X (.UnaryOp op a p) te) (hr : PA X es t) : PA X ((.UnaryOp op a p) :: es) (tCons te t) := pa_cons ha hr rfl
theorem pa_call {f : Expr} {as : List Expr} {ks : List Keyword} {p : Pos} (ha : PE X (.Call f as ks p) te) (hr : PA X es t) : PA X ((.Call f as ks p) :: es) (tCons te t) := pa_cons ha hr rfl
theorem pa_sub {a b : Expr} {p : Pos} (ha : PE X (.Subscript a b p) te) (hr : PA X es t) : PA X ((.Subscript a b p) :: es) (tCons te t) := pa_cons ha hr rfl
theorem pa_tup {as : List Expr} {k} {p : Pos} (ha : PE X (.Tuple as k p) te) (hr : PA X es t) : PA X ((.Tuple as k p) :: es) (tCons te t) := pa_cons ha hr rfl
theorem pa_lst {as : List Expr} {p : Pos} (ha : PE X (.List as p) te) (hr : PA X es t) : PA X ((.List as p) :: es) (tCons te t) := pa_cons ha hr rfl
theorem pa_cmp {a : Expr} {os : List CmpOp} {bs : List Expr} {p : Pos} (ha : PE X (.Compare a os bs p) te) (hr : PA X es t) : PA X ((.Compare a os bs p) :: es) (tCons te t) := pa_cons ha hr rfl
theorem pa_ife {a b c : Expr} {p : Pos} (ha : PE X (.IfExp a b c p) te) (hr : PA X es t) : PA X ((.IfExp a b c p) :: es) (tCons te t) := pa_cons ha hr rfl
theorem pa_lc {a : Expr} {gs : List Comprehension} {sc : Scope} {p : Pos} (ha : PE X (.ListComp a gs sc p) te) (hr : PA X es t) : PA X ((.ListComp a gs sc p) :: es) (tCons te t) := pa_cons ha hr rfl
theorem pa_bool {op : BoolOp} {as : List Expr} {p : Pos} (ha : PE X (.BoolOp op as p) te) (hr : PA X es t) : PA X ((.BoolOp op as p) :: es) (tCons te t) := pa_cons ha hr rfl
end
section
variable {X : Cx} {N : List Str} {scope : Scope} {cl : List (Str × Addr)} {C : Addr} {s₀ : Shared} {H₀ : Hp} {fp : List Addr}
theorem ixc_list : IxR (compCx X N scope cl C s₀ H₀ fp) (rIxL X.K) := ix_list (X := compCx X N scope cl C s₀ H₀ fp)
theorem ixc_tup : IxR (compCx X N scope cl C s₀ H₀ fp) (rIxT X.K) := ix_tup (X := compCx X N scope cl C s₀ H₀ fp)
theorem pgc_tup {es : List Expr} {k : Nat} {t : TGs} {n : Nat} {pos : Pos} (hc : X.calm = true) (h : PGs (compCx X N scope cl C s₀ H₀ fp) es t)
    (hn : (assignEach es (compCx X N scope cl C s₀ H₀ fp).env).length = n := by rfl) (hst : (assignEach es (compCx X N scope cl C s₀ H₀ fp).env).findIdx? (·.1) = none := by rfl) : PG (compCx X N scope cl C s₀ H₀ fp) (.Tuple es k pos) (gTup X.K n t) :=
  pg_tup (X := compCx X N scope cl C s₀ H₀ fp) hc h hn hst
end
end L2

namespace L2
open PySem PySem.Spec PyProof.Rows
set_option maxHeartbeats 4000000
theorem vals_intItems : ∀ {ns : List Int} {us : List Value}, Vals (ns.map V.int) us → ∃ ys : List (Int × Tok), us = (ys.map fun p => Value.int p.1 p.2) ∧ ys.map (·.1) = ns
  | [], us, r => by cases r; exact ⟨[], rfl, rfl⟩
  | n :: ns, us, r => by
    cases r with
    | cons h r =>
      obtain ⟨t, rfl⟩ := h
      obtain ⟨ys, rfl, e⟩ := vals_intItems r
      exact ⟨(n, t) :: ys, rfl, by simp [e]⟩
section
variable {X : Cx}
theorem call_sum (hc : X.calm = true) : CallR X (.builtin "sum") (fun xs H Q => ∃ (p : Addr) (ns : List Int), xs = [.ref p] ∧ SqL X.K H p (ns.map V.int) ∧ Q (.int ns.sum) H) := by
  intro pins s σ H xs us Q I r h
  obtain ⟨p, ns, rfl, hq, q⟩ := h
  obtain ⟨u, rfl, rx⟩ := vals1 r
  cases rx
  obtain ⟨its, r', pl, hz⟩ := I.list hq
  obtain ⟨ys, rfl, e⟩ := vals_intItems r'
  have hl : s.heap.IsList p (intItems ys.toArray) := by
    have := pl.isList
    simpa [intItems] using this
  refine sum_intListG (I.ok.hd hc) hl fun h' tk t' k => ⟨.int ns.sum, H, I.kept k, ⟨t', ?_⟩, q⟩
  rw [preSum_eq, List.take_of_length_le (by simp), ← e]
end
section
variable {X : Cx} {N : List Str} {scope : Scope} {cl : List (Str × Addr)} {C : Addr} {s₀ : Shared} {H₀ : Hp} {fp : List Addr}
end
theorem fm_rev (xs : List Value) : ∀ n, n ≤ xs.length → (List.range n).filterMap (fun k => xs[xs.length - 1 - k]?) = (xs.drop (xs.length - n)).reverse
  | 0, _ => by simp
  | n + 1, h => by
    rw [List.range_succ, List.filterMap_append, fm_rev xs n (by omega)]
    have hk : xs.length - 1 - n < xs.length := by omega
    have : xs.drop (xs.length - (n + 1)) = xs[xs.length - 1 - n] :: xs.drop (xs.length - n) := by
      rw [show xs.length - (n + 1) = xs.length - 1 - n by omega, List.drop_eq_getElem_cons hk, show xs.length - 1 - n + 1 = xs.length - n by omega]
    rw [this, List.reverse_cons]
    simp [List.getElem?_eq_getElem hk]
theorem rev_pick (xs : List Value) : slicePick xs.toArray none none (some (-1)) = xs.reverse.toArray := by
  have e : sliceRange ((xs.length : Int) - 1) (-1) (-1) = (List.range xs.length).map fun k => xs.length - 1 - k := by
    unfold sliceRange
    have hc : (if (-1 : Int) > 0 then (if (xs.length : Int) - 1 < -1 then (-1 - ((xs.length : Int) - 1) + -1 - 1) / -1 else 0) else (if (xs.length : Int) - 1 > -1 then ((xs.length : Int) - 1 - -1 - -1 - 1) / (- -1) else 0)).toNat = xs.length := by
      rw [if_neg (by omega), show (- -1 : Int) = 1 from rfl, Int.ediv_one]
      split <;> omega
    simp only [hc]
    refine List.map_congr_left fun k hk => ?_
    have := List.mem_range.mp hk
    omega
  have b : sliceBounds none none (some (-1)) xs.toArray.size = ((xs.length : Int) - 1, -1, -1) := by
    simp [sliceBounds]
  unfold slicePick
  rw [b]
  simp only
  rw [e, List.filterMap_map]
  have := fm_rev xs xs.length (Nat.le_refl _)
  rw [Nat.sub_self, List.drop_zero] at this
  rw [← this]
  congr 1
  refine congrArg (fun f => List.filterMap f (List.range xs.length)) (funext fun k => ?_)
  simp
theorem all_pick (xs : List Value) : slicePick xs.toArray none none (some 1) = xs.toArray := by
  have := slicePick_all xs.toArray
  unfold slicePick at this ⊢
  exact this
theorem Vals.rev {xs : List V} {us : List Value} (r : Vals xs us) : Vals xs.reverse us.reverse := by
  induction r with
  | nil => exact .nil
  | cons h r ih => rw [List.reverse_cons, List.reverse_cons]; exact ih.append (.cons h .nil)
section
variable {X : Cx} {e st : Expr} {te tst : TE} {pos p2 : Pos}
def tStepL (K : PySem.W.Frag) (te tst : TE) : TE := fun σ H Q => te σ H fun x H1 => tst σ H1 fun y H2 => ∃ a xs, x = .ref a ∧ SqL K H2 a xs ∧
  ((y = .int 1 ∧ ∀ p, H2 p = none → Q (.ref p) (upd H2 p (.lst xs))) ∨ (y = .int (-1) ∧ ∀ p, H2 p = none → Q (.ref p) (upd H2 p (.lst xs.reverse))))
theorem pe_stepL (he : PE X e te) (hs : PE X st tst) : PE X (.Subscript e (.Slice none none (some st) p2) pos) (tStepL X.K te tst) := by
  intro pins s σ H Q I h
  refine Subscript_ (thn (he pins s σ H _ I h) fun v s1 ⟨x, H1, I1, r1, q1⟩ => ?_)
  refine wpAny_Slice ?_
  rw [evalPart_none, evalPart_some]
  refine wpAny_pure (wpAny_pure ?_)
  refine thn (hs pins s1 σ H1 _ I1 q1) fun u s3 ⟨y, H3, I3, r3, q3⟩ => ?_
  have I4 : Inv X pins σ H3 { s3 with heap := s3.heap.push { cls := .type "slice", data := .fields #[.none, .none, u] } } := I3.kept (t' := s3.toks) fun b ob q => Heap.get?_push_of_some _ q
  obtain ⟨a, xs, rfl, hx, q3⟩ := q3
  cases r1
  obtain ⟨its, r, ht, hz⟩ := I4.list hx
  have hlen := r.length
  show wpAny (model X.prog X.w) X.A (subscriptTail e (.Slice none none (some st) p2) (.ref a) (.ref s3.heap.objs.size)) (EP X pins σ Q) X.xe { s3 with heap := s3.heap.push { cls := .type "slice", data := .fields #[.none, .none, u] } }
  refine tail_any (ops := [.ref a, .ref s3.heap.objs.size]) ht.isList.typeIs slot_list_getitem.lookup ?_ (by with_unfolding_all rfl)
  rcases q3 with ⟨rfl, q⟩ | ⟨rfl, q⟩
  · obtain ⟨t, rfl⟩ := r3
    refine wpAny_getItem_list_slice ht.isList (Heap.IsSliceOf.new ..) .none .none (.int 1 t) (by decide) ?_ (by rw [List.size_toArray] <;> omega)
    rw [all_pick]
    refine ⟨.ref _, _, I4.laid (t' := s3.toks) (o := .lst xs) (fun b ob q => Heap.get?_push_of_some _ q) (Nat.le_refl _) ?_, rfl, q _ (I4.hok.fresh (Nat.le_refl _))⟩
    exact ⟨hz, _, 0, r, Heap.get?_push_size _ rfl⟩
  · obtain ⟨t, rfl⟩ := r3
    refine wpAny_getItem_list_slice ht.isList (Heap.IsSliceOf.new ..) .none .none (.int (-1) t) (by decide) ?_ (by rw [List.size_toArray] <;> omega)
    rw [rev_pick]
    refine ⟨.ref _, _, I4.laid (t' := s3.toks) (o := .lst xs.reverse) (fun b ob q => Heap.get?_push_of_some _ q) (Nat.le_refl _) ?_, rfl, q _ (I4.hok.fresh (Nat.le_refl _))⟩
    exact ⟨by rw [List.length_reverse]; exact hz, _, 0, r.rev, Heap.get?_push_size _ rfl⟩
end
end L2
namespace HT
open PySem PySem.Spec PyProof.Rows
section
variable {prog : Program} {w : World} {A : Around} {E : Value → Shared → Prop} {s : Shared}
theorem getItem_tuple_all {t sl : Addr} {items : Array Value} {vl vu : Value} {lo hi : Option Int} {Q : Value → Shared → Prop} (ht : IsTup s.heap t items) (hs : s.heap.IsSliceOf sl vl vu .none) (pl : IsPart vl lo) (pu : IsPart vu hi)
    (hw : sIx items.size 0 lo = 0 ∧ sIx items.size items.size hi = items.size) (h : Q (.ref t) s) : wpAny (model prog w) A (getItem (.ref t) (.ref sl)) Q E s := by
  obtain ⟨os, hos, hcs, hds⟩ := id hs
  have hTs : s.TypeIs (.ref sl) "slice" := ⟨os, hos, hcs⟩
  unfold getItem
  try with_reducible refine wpAny_holding ?_
  first | refine wpAny_bind (wpAny_pure ?_) | skip
  refine wpAny_bind (wpAny_sequenceKey ht.typeIs (by decide) ?_)
  refine wpAny_bind (wpAny_callSpecial?_slot (name := Str.ofString "__getitem__") ht.typeIs PyProof.Rows.slot_tuple_getitem
    (wpAny_call_entry PyProof.Rows.slot_tuple_getitem ht.typeIs entry_tuple_getitem ?_ (args_tuple_getitem _ _)))
  show wpAny _ _ (Builtin.Tuple.tupleItemsOf (.ref t) >>= _) _ _ s
  refine wpAny_bind (tupleItemsOf_ ht ?_)
  refine wpAny_bind (wpAny_typeOf hTs ?_)
  rw [if_pos (by decide)]
  refine wpAny_bind (sliceApplied_gen hs pl pu ?_)
  have hyes : ((((sIx items.size 0 lo : Nat) : Int) == 0 && (1 : Int) == 1 && (sIx items.size items.size hi - sIx items.size 0 lo) == items.size) = true) := by
    rw [hw.1, hw.2]
    simp
  show wpAny _ _ (if (((sIx items.size 0 lo : Nat) : Int) == 0 && (1 : Int) == 1 && (sIx items.size items.size hi - sIx items.size 0 lo) == items.size) = true then _ else _) _ _ s
  rw [if_pos hyes]
  refine wpAny_bind (m := Builtin.Tuple.tupleIsExact (.ref t)) ?_
  unfold Builtin.Tuple.tupleIsExact
  refine wpAny_bind (wpAny_typeOf ht.typeIs (wpAny_pure ?_))
  rw [if_pos (by decide)]
  exact wpAny_bind (wpAny_rule (wpAny_pure ⟨_, rfl, wpAny_pure h⟩))
end
end HT
namespace L2
open PySem PySem.Spec PyProof.Rows
section
variable {X : Cx}
def rSlW (K : PySem.W.Frag) : V → Option Int → Option Int → Hp → VK → Prop := fun x lo hi H Q => ∃ a xs, x = .ref a ∧ SqT K H a xs ∧
  (HT.sIx xs.length 0 lo = 0 ∧ HT.sIx xs.length xs.length hi = xs.length) ∧ Q (.ref a) H
theorem sl_tupW : SlR X (rSlW X.K) := by
  intro pins s σ H x v vl vu lo hi sl Q I rx hs pl pu h
  obtain ⟨a, xs, rfl, hx, hw, q⟩ := h
  cases rx
  obtain ⟨its, r, ht, hz⟩ := I.tuple hx
  have hlen : its.toArray.size = xs.length := by rw [List.size_toArray]; exact r.length.symm
  refine ⟨"tuple", _, PyProof.Rows.slot_tuple_getitem.lookup, ht.typeIs, ?_⟩
  exact HT.getItem_tuple_all ht hs pl pu (by rw [hlen]; exact hw) ⟨.ref a, H, I, rfl, q⟩
theorem sl_tupG : SlR X (fun x lo hi H Q => rSlT X.K x lo hi H Q ∨ rSlW X.K x lo hi H Q) := SlR.or sl_tup sl_tupW
end
theorem seq_cut {t u : TS} {D : Ends} {σ : St} {H : Hp} (P : St → Hp → Prop) (h2 : ∀ σ' H', P σ' H' → u D σ' H') (h1 : ∀ N : St → Hp → Prop, (∀ σ' H', P σ' H' → N σ' H') → t { D with nx := N } σ H) : tSeq t u D σ H := h1 (u D) h2
theorem vals_of_get : ∀ (xs : List V) (us : List Value), xs.length = us.length → (∀ (i : Nat) (x : V) (u : Value), xs[i]? = some x → us[i]? = some u → RelV x u) → Vals xs us
  | [], [], _, _ => .nil
  | x :: xs, u :: us, h, g => .cons (g 0 x u rfl rfl) (vals_of_get xs us (by simpa using h) fun i y z hy hz => g (i + 1) y z (by simpa using hy) (by simpa using hz))
  | [], _ :: _, h, _ => by simp at h
  | _ :: _, [], h, _ => by simp at h
def tListRng (ta : TA) : TE := fun σ H Q => ta σ H fun vs H1 => ∃ j : Int, vs = [.int j] ∧ 0 ≤ j ∧ j ≤ 1000000 ∧ ∀ l, H1 l = none → Q (.ref l) (upd H1 l (.lst ((List.range j.toNat).map fun k : Nat => V.int (k : Int))))
section
variable {X : Cx}
theorem pe_listRange {a : Expr} {ta : TA} {p p2 pos pos2 : Pos} (hc : X.calm = true) (hgl : Gl X "list") (hml : X.mg "list" = none) (hgr : Gl X "range") (hmr : X.mg "range" = none) (ha : PA X [a] ta) (hs : starEach [a] X.env = [(false, eval a X.env)] := by rfl)
    (hs2 : starEach [.Call (.Name "range" p2) [a] [] pos2] X.env = [(false, eval (.Call (.Name "range" p2) [a] [] pos2) X.env)] := by rfl) : PE X (.Call (.Name "list" p) [.Call (.Name "range" p2) [a] [] pos2] [] pos) (tListRng ta) := by
  intro pins s σ H Q I h
  refine wpAny_Call_Name_kw (ld_blt I hgl hml boot_list ?_ (by decide) (by decide))
  refine PyProof.Rows.callWith_type1 ?_ hs2 rfl
  rw [hs2]
  refine Calls.spliced_cons (rest := []) ?_
  refine Call_ (ld_blt I hgr hmr boot_range (PyProof.Rows.callWith_type1 (thn (ha pos2 pins s σ H _ I h) fun us s1 ⟨vs, H1, I1, r1, q1⟩ => ?_) hs rfl))
  obtain ⟨j, e, h0, h1, q⟩ := q1
  subst e
  cases r1 with
  | cons r rr =>
    cases rr
    obtain ⟨t, rfl⟩ := r
    refine call_range_1 ?_
    refine wpAny_pure ?_
    have I2 : Inv X pins σ H1 { s1 with heap := s1.heap.push { cls := .type "range", data := .fields #[.int 0 s1.toks, .int j t, .int 1 (s1.toks + 1)] }, toks := s1.toks + 1 + 1 } := I1.kept fun b o e => Heap.get?_push_of_some _ e
    have hn : Builtin.Range.rangeSize 0 j 1 = (j.toNat : Nat) := by rw [rangeSize_one]; split <;> omega
    refine call_list_range (I2.ok.hd hc) (IsRange.new ..) (small_one (by omega) (by omega) (by omega) (by omega)) hn (by omega) fun h' tk acc' c' hk hS' hacc => ?_
    have hv : Vals ((List.range j.toNat).map fun k : Nat => V.int (k : Int)) acc'.toList := vals_of_get _ _ (by simp [hacc.1]) fun i x u hx hu => by
      have hi : i < j.toNat := by
        have := (List.getElem?_eq_some_iff.mp hx).1
        simpa using this
      rw [List.getElem?_map, List.getElem?_range hi] at hx
      obtain ⟨tk', e⟩ := hacc.2 i u (by simpa using hu)
      cases hx
      exact ⟨tk', by rw [e]; congr 1; omega⟩
    have hz : ((List.range j.toNat).map fun k : Nat => V.int (k : Int)).length ≤ sizeLine := by
      rw [List.length_map, List.length_range]
      exact Nat.le_trans (show j.toNat ≤ 1000000 by omega) (by decide)
    refine ⟨.ref _, _, I2.laid (t' := tk) (o := .lst ((List.range j.toNat).map fun k : Nat => V.int (k : Int))) hk (Nat.le_refl _) ?_, rfl, q _ (I2.hok.fresh (Nat.le_refl _))⟩
    exact ⟨hz, _, c', hv, hS'⟩
end
end L2
namespace HT
open PySem PySem.Spec PyProof.Rows
section
variable {prog : Program} {w : World} {A : Around} {E : Value → Shared → Prop} {s : Shared}
theorem sliceApplied_rev {sl : Addr} {t : Tok} {n : Nat} {Q : Int × Int × Nat → Shared → Prop} (hs : s.heap.IsSliceOf sl .none .none (.int (-1) t)) (h : Q ((n : Int) - 1, -1, n) s) : wpAny (model prog w) A (Builtin.Slice.sliceApplied (.ref sl) (pure (n : Int))) Q E s := by
  obtain ⟨os, hos, hcs, hds⟩ := id hs
  unfold Builtin.Slice.sliceApplied Builtin.Slice.sliceFields
  refine wpAny_bind (wpAny_bind (wpAny_field hos hds (x := .none) rfl (wpAny_bind (wpAny_field hos hds (x := .none) rfl (wpAny_bind (wpAny_field hos hds (x := .int (-1) t) rfl (wpAny_pure ?_)))))))
  refine wpAny_bind (slicePart_ (.int (-1) t) ?_)
  show wpAny _ _ (if ((-1 : Int) == 0) = true then _ else _) _ _ s
  rw [if_neg (by decide)]
  refine wpAny_bind (slicePart_ .none (wpAny_bind (slicePart_ .none (wpAny_bind (wpAny_pure ?_)))))
  have e1 : Builtin.Slice.sliceAdjust none none (-1) (n : Int) = ((n : Int) - 1, -1) := rfl
  have e2 : Builtin.Slice.slicePlaces ((n : Int) - 1) (-1) (-1) = n := by
    unfold Builtin.Slice.slicePlaces
    rw [if_neg (by omega), show (- -1 : Int) = 1 from rfl, Int.ediv_one]
    split <;> omega
  show wpAny _ _ (match Builtin.Slice.sliceAdjust none none (-1) (n : Int) with | (lo, hi) => pure (lo, (-1 : Int), Builtin.Slice.slicePlaces lo hi (-1))) _ _ s
  rw [e1]
  show wpAny _ _ (pure ((n : Int) - 1, (-1 : Int), Builtin.Slice.slicePlaces ((n : Int) - 1) (-1) (-1))) _ _ s
  rw [e2]
  exact wpAny_pure h
theorem pick_rev (xs : List Value) : ((List.range xs.length).filterMap fun (k : Nat) => xs.toArray[((xs.length : Int) - 1 + (k : Int) * (-1)).toNat]?).toArray = xs.reverse.toArray := by
  have := L2.fm_rev xs xs.length (Nat.le_refl _)
  rw [Nat.sub_self, List.drop_zero] at this
  rw [← this]
  congr 1
  refine congrArg (fun f => List.filterMap f (List.range xs.length)) (funext fun k => ?_)
  rw [show ((xs.length : Int) - 1 + (k : Int) * (-1)).toNat = xs.length - 1 - k by omega]
  simp
theorem getItem_tuple_rev {t sl : Addr} {its : List Value} {tk : Tok} {Q : Value → Shared → Prop} (ht : IsTup s.heap t its.toArray) (hs : s.heap.IsSliceOf sl .none .none (.int (-1) tk))
    (h : Q (.ref s.heap.objs.size) { s with heap := s.heap.push { cls := .type "tuple", data := .seq its.reverse.toArray } }) (hsz : its.length ≤ sizeLine) : wpAny (model prog w) A (getItem (.ref t) (.ref sl)) Q E s := by
  have htake : sizeOk (.seq its.reverse.toArray) := by
    show its.reverse.toArray.size ≤ sizeLine
    rw [List.size_toArray, List.length_reverse]
    exact hsz
  obtain ⟨os, hos, hcs, hds⟩ := id hs
  have hTs : s.TypeIs (.ref sl) "slice" := ⟨os, hos, hcs⟩
  unfold getItem
  try with_reducible refine wpAny_holding ?_
  first | refine wpAny_bind (wpAny_pure ?_) | skip
  refine wpAny_bind (wpAny_sequenceKey ht.typeIs (by decide) ?_)
  refine wpAny_bind (wpAny_callSpecial?_slot (name := Str.ofString "__getitem__") ht.typeIs PyProof.Rows.slot_tuple_getitem
    (wpAny_call_entry PyProof.Rows.slot_tuple_getitem ht.typeIs entry_tuple_getitem ?_ (args_tuple_getitem _ _)))
  show wpAny _ _ (Builtin.Tuple.tupleItemsOf (.ref t) >>= _) _ _ s
  refine wpAny_bind (tupleItemsOf_ ht ?_)
  refine wpAny_bind (wpAny_typeOf hTs ?_)
  rw [if_pos (by decide)]
  refine wpAny_bind (sliceApplied_rev (n := its.length) hs ?_)
  have hno : ¬ ((((its.length : Int) - 1) == 0 && (-1 : Int) == 1 && its.length == its.toArray.size) = true) := by simp
  show wpAny _ _ (if (((its.length : Int) - 1) == 0 && (-1 : Int) == 1 && its.length == its.toArray.size) = true then _ else _) _ _ s
  rw [if_neg hno, pick_rev]
  first
    | exact wpAny_bind (m := Builtin.Tuple.tupleExact _) (wpAny_newObj_type (wpAny_pure ⟨_, rfl, wpAny_pure h⟩) htake)
    | exact wpAny_bind (m := Builtin.Tuple.tupleExact _) (wpAny_newObj_type (wpAny_bind (wpAny_pure (wpAny_pure ⟨_, rfl, wpAny_pure h⟩))) htake)
    | exact wpAny_bind (wpAny_bind (m := Builtin.Tuple.tupleExact _) (wpAny_newObj_type (wpAny_pure (wpAny_pure ⟨_, rfl, wpAny_pure h⟩)) htake))
    | exact wpAny_bind (wpAny_bind (m := Builtin.Tuple.tupleExact _) (wpAny_newObj_type (wpAny_pure ⟨_, rfl, wpAny_pure h⟩) htake))
end
end HT
namespace L2
open PySem PySem.Spec PyProof.Rows
section
variable {X : Cx} {e st : Expr} {te tst : TE} {pos p2 : Pos}
def tRevT (K : PySem.W.Frag) (te tst : TE) : TE := fun σ H Q => te σ H fun x H1 => tst σ H1 fun y H2 => ∃ a xs, x = .ref a ∧ SqT K H2 a xs ∧ y = .int (-1) ∧ ∀ p, H2 p = none → Q (.ref p) (upd H2 p (.tup xs.reverse))
theorem pe_revT (he : PE X e te) (hs : PE X st tst) : PE X (.Subscript e (.Slice none none (some st) p2) pos) (tRevT X.K te tst) := by
  intro pins s σ H Q I h
  refine Subscript_ (thn (he pins s σ H _ I h) fun v s1 ⟨x, H1, I1, r1, q1⟩ => ?_)
  refine wpAny_Slice ?_
  rw [evalPart_none, evalPart_some]
  refine wpAny_pure (wpAny_pure ?_)
  refine thn (hs pins s1 σ H1 _ I1 q1) fun u s3 ⟨y, H3, I3, r3, q3⟩ => ?_
  have I4 : Inv X pins σ H3 { s3 with heap := s3.heap.push { cls := .type "slice", data := .fields #[.none, .none, u] } } := I3.kept (t' := s3.toks) fun b ob q => Heap.get?_push_of_some _ q
  obtain ⟨a, xs, rfl, hx, rfl, q⟩ := q3
  cases r1
  obtain ⟨t, rfl⟩ := r3
  obtain ⟨its, r, ht, hz⟩ := I4.tuple hx
  have hlen := r.length
  show wpAny (model X.prog X.w) X.A (subscriptTail e (.Slice none none (some st) p2) (.ref a) (.ref s3.heap.objs.size)) (EP X pins σ Q) X.xe { s3 with heap := s3.heap.push { cls := .type "slice", data := .fields #[.none, .none, .int (-1) t] } }
  refine tail_any (ops := [.ref a, .ref s3.heap.objs.size]) ht.typeIs PyProof.Rows.slot_tuple_getitem.lookup ?_ (by with_unfolding_all rfl)
  refine HT.getItem_tuple_rev ht (Heap.IsSliceOf.new ..) ?_ (by rw [← hlen]; exact hz)
  refine ⟨.ref _, _, I4.laid (t' := s3.toks) (o := .tup xs.reverse) (fun b ob q => Heap.get?_push_of_some _ q) (Nat.le_refl _) ?_, rfl, q _ (I4.hok.fresh (Nat.le_refl _))⟩
  exact ⟨by rw [List.length_reverse]; exact hz, _, r.rev, IsTup.new _ _⟩
def rGetL (K : PySem.W.Frag) : V → V → Hp → VK → Prop := fun x y H Q => ∃ p xs i v, x = .ref p ∧ y = .int i ∧ SqL K H p xs ∧ 0 ≤ i ∧ xs[i.toNat]? = some v ∧ Q v H
theorem get_list : PGet X (rGetL X.K) := by
  intro pins s σ H o i ov iv Q I ro ri h
  obtain ⟨p, xs, k, v, rfl, rfl, hq, h0, hv, q⟩ := h
  cases ro
  obtain ⟨t, rfl⟩ := ri
  obtain ⟨its, r, pl, hz⟩ := I.list hq
  obtain ⟨w, ew, rw'⟩ := r.get hv
  have hk : k.toNat < xs.length := (List.getElem?_eq_some_iff.mp hv).1
  have hn := line63
  exact wpAny_getItem_list pl.isList h0 (by omega) (by simpa using ew) ⟨v, H, I, rw', q⟩
end
theorem call_minL {X : Cx} (hc : X.calm = true) : CallR X (.builtin "min") (fun xs H Q => ∃ (p : Addr) (ns : List Int), xs = [.ref p] ∧ SqL X.K H p (ns.map V.int) ∧ 0 < ns.length ∧ ∀ m ∈ ns, Q (.int m) H) := by
  intro pins s σ H xs us Q I r h
  obtain ⟨p, ns, rfl, hq, hne, q⟩ := h
  obtain ⟨u, rfl, rx⟩ := vals1 r
  cases rx
  obtain ⟨its, r', pl, hz⟩ := I.list hq
  obtain ⟨ys, rfl, e⟩ := vals_intItems r'
  have hl : s.heap.IsList p (intItems ys.toArray) := by
    have := pl.isList
    simpa [intItems] using this
  have hyl : ys.length = ns.length := by rw [← e, List.length_map]
  refine min_intList (I.ok.hd hc) hl (by simp; omega) fun v h' tk hv k => ?_
  obtain ⟨i, hi, hvi⟩ : ∃ (i : Nat) (hi : i < ys.length), v = .int (ys[i]).1 (ys[i]).2 := by
    have hlt := (Array.getElem?_eq_some_iff.mp hv).1
    have hlt' : argBest (fun i j => decide (numAt ys.toArray i < numAt ys.toArray j)) (ys.toArray.size - 1) < ys.length := by simpa [intItems] using hlt
    refine ⟨_, hlt', ?_⟩
    rw [Array.getElem?_eq_getElem hlt] at hv
    have := Option.some.inj hv
    rw [← this]
    simp [intItems]
  refine ⟨.int (ys[i]).1, H, I.kept k, ⟨(ys[i]).2, hvi⟩, q _ ?_⟩
  rw [← e]
  exact List.mem_map.mpr ⟨ys[i], List.getElem_mem hi, rfl⟩
section
variable {X : Cx} {N : List Str} {scope : Scope} {cl : List (Str × Addr)} {C : Addr} {s₀ : Shared} {H₀ : Hp} {fp : List Addr}
theorem ptc_of {e : Expr} {te : TE} (h : PE (compCx X N scope cl C s₀ H₀ fp) e te) (he : ∀ whole, isTrue e (compCx X N scope cl C s₀ H₀ fp).env whole = (do let v ← whole; standAt e.pos; holding [v] (truthy v)) := by intro _; rfl) : PT (compCx X N scope cl C s₀ H₀ fp) e (fun σ H Q => te σ H fun x H' => ∃ k, TruV X.K x H' k ∧ Q k H') := pt_of (X := compCx X N scope cl C s₀ H₀ fp) h he
end
end L2

namespace L2
open PySem PySem.Spec PyProof.Rows
end L2
namespace Bp
open PySem L2
set_option maxHeartbeats 4000000
structure Txt (mg : Str → Option Value) : Prop where
  n_len : mg "len" = none
  n_repr : mg "repr" = none
  n_min : mg "min" = none
  n_max : mg "max" = none
  n_tuple : mg "tuple" = none
  n_list : mg "list" = none
  n_int : mg "int" = none
  n_range : mg "range" = none
  n_sum : mg "sum" = none
  n_all : mg "all" = none
  n_any : mg "any" = none
  n_sorted : mg "sorted" = none
  n_enumerate : mg "enumerate" = none
  n_isinstance : mg "isinstance" = none
  n_set : mg "set" = none

def fd0 (c : Addr) (a l t : Int) : List (Key × V) := [(.inr "cells", .ref c), (.inr "at", .int a), (.inr "left", .int l), (.inr "turn", .int t)]
structure FeedAt (H : Hp) (f c : Addr) : Prop where
  ex : ∃ (ns : List Int) (a l t : Int), H f = some (.dK (fd0 c a l t)) ∧ H c = some (.lst (ns.map V.int)) ∧ ns ≠ [] ∧ ns.length ≤ 64
theorem s_cells_at : ¬ (("cells" : Str) = ("at" : Str)) := by decide +kernel
theorem s_cells_left : ¬ (("cells" : Str) = ("left" : Str)) := by decide +kernel
theorem s_cells_turn : ¬ (("cells" : Str) = ("turn" : Str)) := by decide +kernel
theorem s_at_left : ¬ (("at" : Str) = ("left" : Str)) := by decide +kernel
theorem s_at_turn : ¬ (("at" : Str) = ("turn" : Str)) := by decide +kernel
theorem s_left_at : ¬ (("left" : Str) = ("at" : Str)) := by decide +kernel
theorem s_left_turn : ¬ (("left" : Str) = ("turn" : Str)) := by decide +kernel
theorem s_turn_at : ¬ (("turn" : Str) = ("at" : Str)) := by decide +kernel
theorem s_turn_left : ¬ (("turn" : Str) = ("left" : Str)) := by decide +kernel
theorem k_cells_at : ¬ ((Sum.inr ("cells" : Str) : Key) = Sum.inr ("at" : Str)) := by decide +kernel
theorem k_cells_left : ¬ ((Sum.inr ("cells" : Str) : Key) = Sum.inr ("left" : Str)) := by decide +kernel
theorem k_cells_turn : ¬ ((Sum.inr ("cells" : Str) : Key) = Sum.inr ("turn" : Str)) := by decide +kernel
theorem k_at_left : ¬ ((Sum.inr ("at" : Str) : Key) = Sum.inr ("left" : Str)) := by decide +kernel
theorem k_at_turn : ¬ ((Sum.inr ("at" : Str) : Key) = Sum.inr ("turn" : Str)) := by decide +kernel
theorem k_left_turn : ¬ ((Sum.inr ("left" : Str) : Key) = Sum.inr ("turn" : Str)) := by decide +kernel
section
variable {c : Addr} {a l t : Int}
theorem kcells : valV (fd0 c a l t) (Sum.inr ("cells" : Str) : Key) = some (.ref c) := by
  unfold fd0; rw [valV_pos rfl]
theorem kat : valV (fd0 c a l t) (Sum.inr ("at" : Str) : Key) = some (.int a) := by
  unfold fd0; rw [valV_neg k_cells_at, valV_pos rfl]
theorem kleft : valV (fd0 c a l t) (Sum.inr ("left" : Str) : Key) = some (.int l) := by
  unfold fd0; rw [valV_neg k_cells_left, valV_neg k_at_left, valV_pos rfl]
theorem kturn : valV (fd0 c a l t) (Sum.inr ("turn" : Str) : Key) = some (.int t) := by
  unfold fd0; rw [valV_neg k_cells_turn, valV_neg k_at_turn, valV_neg k_left_turn, valV_pos rfl]
theorem pturn (x : Int) : putK (fd0 c a l t) (Sum.inr ("turn" : Str) : Key) (.int x) = fd0 c a l x := by
  simp [putK, fd0, s_cells_turn, s_at_turn, s_left_turn]
theorem pat (x : Int) : putK (fd0 c a l t) (Sum.inr ("at" : Str) : Key) (.int x) = fd0 c x l t := by
  simp [putK, fd0, s_cells_at, s_left_at, s_turn_at]
theorem pleft (x : Int) : putK (fd0 c a l t) (Sum.inr ("left" : Str) : Key) (.int x) = fd0 c a x t := by
  simp [putK, fd0, s_cells_left, s_at_left, s_turn_left]
end
theorem dg {H : Hp} {f : Addr} {kvs : List (Key × V)} {k : Str} {v : V} (e : H f = some (.dK kvs)) (h : valV kvs (Sum.inr k : Key) = some v) : DGet H f (.str k) (some v) := .inl ⟨kvs, Sum.inr k, .inl e, rfl, h.symm⟩
theorem dp {H : Hp} {f : Addr} {kvs kvs' : List (Key × V)} {k : Str} {v : V} (e : H f = some (.dK kvs)) (h : putK kvs (Sum.inr k : Key) v = kvs') (hl : kvs.length < sizeLine) : DPut H f (.str k) v (upd H f (.dK kvs')) := .inl ⟨kvs, Sum.inr k, e, rfl, hl, by rw [h]⟩
theorem fd0_len {c : Addr} {a l t : Int} : (fd0 c a l t).length < sizeLine := by show 4 < sizeLine; decide
end Bp

namespace Bp
open PySem L2
set_option maxHeartbeats 4000000
structure Spn where
  ap : Bool
  one : Int
  other : Int
  low : Int
  high : Int
def Spn.word (s : Spn) : Str := if s.ap then "apart" else "span"
def Spn.d (s : Spn) : PyData := .tuple [.str s.word, .int s.one, .int s.other, .int s.low, .int s.high]
def Spn.vs (s : Spn) : List V := [.str s.word, .int s.one, .int s.other, .int s.low, .int s.high]
structure Spn.Ok (s : Spn) (works : Int) : Prop where
  o0 : 0 ≤ s.one
  o1 : s.one < works
  r0 : 0 ≤ s.other
  r1 : s.other < works
  l0 : 0 ≤ s.low
  l1 : s.low ≤ 50000
  h0 : 0 ≤ s.high
  h1 : s.high ≤ 100000
structure Spn.In (s : Spn) (works : Int) : Prop where
  o0 : 0 ≤ s.one
  o1 : s.one < works
  r0 : 0 ≤ s.other
  r1 : s.other < works
theorem Spn.Ok.inn {s : Spn} {works : Int} (h : s.Ok works) : s.In works := ⟨h.o0, h.o1, h.r0, h.r1⟩
def nameTable : List Str := ["a", "ab", "abc", "b", "ba", "works", "span", "apart", "at", "none", "hold", "zzzzzzzz", "z", "o", "find", "late", "n"]
def allNames : List Str := nameTable ++ (["ring", "stay"] : List Str)
structure Pln where
  names : List Str
  spans : List Spn
def Pln.d (P : Pln) : PyData := .tuple [.tuple (P.names.map .str), .tuple (P.spans.map Spn.d)]
structure Pln.Ok (P : Pln) (works most : Int) : Prop where
  n1 : (P.names.length : Int) = works
  n2 : ∀ x ∈ P.names, x ∈ allNames
  s1 : (P.spans.length : Int) ≤ most
  s2 : ∀ s ∈ P.spans, s.Ok works
theorem span_at {K : PySem.W.Frag} {H : Hp} {x : V} {s : Spn} (h : DV K H x s.d) : ∃ a, x = .ref a ∧ H a = some (.tup s.vs) := by
  unfold Spn.d at h
  cases h with
  | tup e r =>
    refine ⟨_, rfl, ?_⟩
    cases r with | cons a r =>
    cases r with | cons b r =>
    cases r with | cons c r =>
    cases r with | cons d r =>
    cases r with | cons g r =>
    cases r
    cases a; cases b; cases c; cases d; cases g
    exact e
theorem at_span {K : PySem.W.Frag} {H : Hp} {a : Addr} {s : Spn} (h : H a = some (.tup s.vs)) : DV K H (.ref a) s.d :=
  .tup h (.cons (.str _) (.cons (.int _) (.cons (.int _) (.cons (.int _) (.cons (.int _) .nil)))))
theorem noL_span (s : Spn) : noL s.d = true := rfl
theorem noLs_strs (l : List Str) : noLs (l.map PyData.str) = true := noLs_all.mpr fun d hd => by obtain ⟨x, _, rfl⟩ := List.mem_map.mp hd; rfl
theorem noLs_ints (l : List Int) : noLs (l.map PyData.int) = true := noLs_all.mpr fun d hd => by obtain ⟨x, _, rfl⟩ := List.mem_map.mp hd; rfl
theorem noLs_spans (l : List Spn) : noLs (l.map Spn.d) = true := noLs_all.mpr fun d hd => by obtain ⟨x, _, rfl⟩ := List.mem_map.mp hd; exact noL_span x
theorem noL_plan (P : Pln) : noL P.d = true := by simp [Pln.d, noL, noLs, noLs_strs, noLs_spans]
theorem dvs_strs {K : PySem.W.Frag} {H : Hp} : ∀ (l : List Str), DVs K H (l.map V.str) (l.map PyData.str)
  | [] => .nil
  | x :: r => .cons (.str x) (dvs_strs r)
theorem strs_dvs {K : PySem.W.Frag} {H : Hp} : ∀ {l : List Str} {xs : List V}, DVs K H xs (l.map PyData.str) → xs = l.map V.str
  | [], _, .nil => rfl
  | x :: r, _, .cons a b => by cases a; rw [strs_dvs b]; rfl
theorem ints_dvs {K : PySem.W.Frag} {H : Hp} : ∀ {l : List Int} {xs : List V}, DVs K H xs (l.map PyData.int) → xs = l.map V.int
  | [], _, .nil => rfl
  | x :: r, _, .cons a b => by cases a; rw [ints_dvs b]; rfl
theorem plan_at {K : PySem.W.Frag} {H : Hp} {x : V} {P : Pln} (h : DV K H x P.d) : ∃ p pn ps xs, x = .ref p ∧ H p = some (.tup [.ref pn, .ref ps]) ∧ H pn = some (.tup (P.names.map V.str)) ∧ H ps = some (.tup xs) ∧ DVs K H xs (P.spans.map Spn.d) := by
  unfold Pln.d at h
  cases h with
  | tup e r =>
    cases r with | cons a r =>
    cases r with | cons b r =>
    cases r
    cases a with
    | tup e1 r1 =>
      cases b with
      | tup e2 r2 =>
        have := strs_dvs r1
        subst this
        exact ⟨_, _, _, _, rfl, e, e1, e2, r2⟩
end Bp

namespace Bp
open PySem L2
set_option maxHeartbeats 4000000
theorem merge_fd0 (c : Addr) (a l t : Int) : mergeK [] (fd0 c a l t) = fd0 c a l t := by
  simp [mergeK, fd0, putK, s_cells_at, s_cells_left, s_cells_turn, s_at_left, s_at_turn, s_left_turn]
theorem cut63 {ns : List Int} (h : ns.length ≤ 63) : cutV (ns.map V.int) none (some 63) = ns.map V.int := by
  have hl : (ns.map V.int).length ≤ 63 := by simpa using h
  have e : HT.sIx (ns.map V.int).length (ns.map V.int).length (some 63) = (ns.map V.int).length := by
    have h0 : ¬ ((63 : Int) < 0) := by decide
    simp only [HT.sIx, if_neg h0]
    omega
  show ((ns.map V.int).drop 0).take (HT.sIx (ns.map V.int).length (ns.map V.int).length (some 63) - 0) = _
  rw [e, List.drop_zero, Nat.sub_zero]
  exact List.take_of_length_le (Nat.le_refl _)
def topZ (per : Int) (s : Spn) : Int := if s.ap then per - s.high else s.high
def endZ (per : Int) (s : Spn) : Int := if s.low + per - 1 < topZ per s then s.low + per - 1 else topZ per s
theorem ap_word (s : Spn) : decide (V.str s.word = V.str "span") = !s.ap := by
  have h1 : ¬ (("apart" : Str) = "span") := by decide +kernel
  unfold Spn.word
  cases s.ap <;> simp [h1]
def HasSpan (K : PySem.W.Frag) (H : Hp) (x : V) (P : Pln) (i : Int) (s : Spn) : Prop := DV K H x P.d ∧ 0 ≤ i ∧ P.spans[i.toNat]? = some s
theorem HasSpan.get {K : PySem.W.Frag} {H : Hp} {x : V} {P : Pln} {i : Int} {s : Spn} (h : HasSpan K H x P i s) :
    ∃ p pn ps xs q, x = .ref p ∧ SqT K H p [.ref pn, .ref ps] ∧ SqT K H ps xs ∧ atI xs i = some (.ref q) ∧ SqT K H q s.vs := by
  obtain ⟨dv, h0, hs⟩ := h
  obtain ⟨p, pn, ps, xs, rfl, e, e1, e2, r⟩ := plan_at dv
  obtain ⟨y, hy, dy⟩ := r.get' (i := i.toNat) (d := s.d) (by rw [List.getElem?_map, hs]; rfl)
  obtain ⟨q, rfl, eq⟩ := span_at dy
  exact ⟨p, pn, ps, xs, q, rfl, SqT.of e, SqT.of e2, pickN h0 hy, SqT.of eq⟩
theorem HasSpan.raw {K : PySem.W.Frag} {H : Hp} {x : V} {P : Pln} {i : Int} {s : Spn} (h : HasSpan K H x P i s) :
    ∃ p pn ps xs q, x = .ref p ∧ H p = some (.tup [.ref pn, .ref ps]) ∧ H ps = some (.tup xs) ∧ atI xs i = some (.ref q) ∧ H q = some (.tup s.vs) := by
  obtain ⟨dv, h0, hs⟩ := h
  obtain ⟨p, pn, ps, xs, rfl, e, e1, e2, r⟩ := plan_at dv
  obtain ⟨y, hy, dy⟩ := r.get' (i := i.toNat) (d := s.d) (by rw [List.getElem?_map, hs]; rfl)
  obtain ⟨q, rfl, eq⟩ := span_at dy
  exact ⟨p, pn, ps, xs, q, rfl, e, e2, pickN h0 hy, eq⟩
def sp_window_of (K : PySem.W.Frag) : Sp := fun vs H Q _ => ∃ (x : V) (per i : Int) (P : Pln) (s : Spn), vs = [x, .int per, .int i] ∧ HasSpan K H x P i s ∧ ∀ (q : Addr) (H' : Hp), Same H H' → H' q = some (.tup [.int s.low, .int (endZ per s)]) → Q (.ref q) H'
end Bp

namespace L2
open PySem PySem.Spec PyProof.Rows
theorem op_ne_nil {X : Cx} {k : Nat} (hr : Room k X.A) : OpR X (compareOp .NotEq) (fun x y H Q => ∃ a b xs, x = .ref a ∧ y = .ref b ∧ SqL X.K H a xs ∧ SqL X.K H b [] ∧ Q (.bl (!xs.isEmpty)) H) := by
  intro pins s σ H x y v u Q I rx ry h
  obtain ⟨a, b, xs, rfl, rfl, ha, hb, q⟩ := h
  cases rx; cases ry
  obtain ⟨its, rv, pa, _⟩ := I.list ha
  obtain ⟨its2, rv2, pb, _⟩ := I.list hb
  cases rv2
  have hu : X.A.units < cLine := hr.units0
  cases rv with
  | nil =>
    refine EqBoolInt.of_rcne (SeqAt.RcNeAt.lists (e := fun _ => true) pa.isList pb.isList rfl hu fun j h1 _ => ?_) ⟨.bl false, H, I, rfl, q⟩
    simp at h1
  | cons r rr =>
    exact EqBoolInt.of_rcne (SeqAt.RcNeAt.lists_lengths pa.isList pb.isList (by simp) hu) ⟨.bl true, H, I, rfl, q⟩
end L2
namespace Bp
open PySem L2
set_option maxHeartbeats 4000000
def bt (bs : List Int) (i : Int) : Int := bs.getD i.toNat 0
theorem bt_at {bs : List Int} {i : Int} (h0 : 0 ≤ i) (h1 : i < bs.length) : atI (bs.map V.int) i = some (.int (bt bs i)) := by
  refine pickN h0 ?_
  have hi : i.toNat < bs.length := by omega
  rw [List.getElem?_map, List.getElem?_eq_getElem hi]
  simp [bt, List.getD, List.getElem?_eq_getElem hi]
def lenZ (per : Int) (bs : List Int) (s : Spn) : Int := s.low + (bt bs s.other - bt bs s.one - s.low) % per
theorem mod_unique {c x : Int} {i : Int} (hc : 0 < c) (h0 : 0 ≤ i) (h1 : i < c) (h : (i - x) % c = 0) : i = x % c := by
  have d1 : c ∣ (i - x) := Int.dvd_of_emod_eq_zero h
  have d2 : c ∣ (x - x % c) := Int.dvd_self_sub_emod
  have d3 : c ∣ (i - x % c) := by
    have := Int.dvd_add d1 d2
    rwa [show i - x + (x - x % c) = i - x % c by omega] at this
  have h2 := Int.emod_nonneg x (show c ≠ 0 by omega)
  have h3 := Int.emod_lt_of_pos x hc
  obtain ⟨k, hk⟩ := d3
  have hk0 : k = 0 := by
    rcases Int.lt_trichotomy k 0 with z | z | z
    · have : c * k ≤ c * (-1) := Int.mul_le_mul_of_nonneg_left (by omega) (by omega)
      omega
    · exact z
    · have : c * 1 ≤ c * k := Int.mul_le_mul_of_nonneg_left (by omega) (by omega)
      omega
  rw [hk0] at hk
  omega
structure BeatsAt (H : Hp) (b : Addr) (bs : List Int) (works per : Int) : Prop where
  at_ : H b = some (.tup (bs.map V.int))
  len : (bs.length : Int) = works
  rng : ∀ z ∈ bs, 0 ≤ z ∧ z < per
def sp_length_of (K : PySem.W.Frag) : Sp := fun vs H Q _ => ∃ (x : V) (b : Addr) (per i : Int) (P : Pln) (s : Spn) (bs : List Int), vs = [x, .int per, .ref b, .int i] ∧ HasSpan K H x P i s ∧ H b = some (.tup (bs.map V.int)) ∧ s.In bs.length ∧ 0 < per ∧ Q (.int (lenZ per bs s)) H
def sp_lengths_of (K : PySem.W.Frag) : Sp := fun vs H Q _ => ∃ (x : V) (b : Addr) (per : Int) (P : Pln) (bs : List Int), vs = [x, .int per, .ref b] ∧ DV K H x P.d ∧ P.spans.length ≤ 10000 ∧ H b = some (.tup (bs.map V.int)) ∧ (∀ s ∈ P.spans, s.In bs.length) ∧ 0 < per ∧ ∀ (q : Addr) (H' : Hp), Same H H' → H' q = some (.tup ((P.spans.map (lenZ per bs)).map V.int)) → Q (.ref q) H'
end Bp

namespace L2
open PySem PySem.Spec PyProof.Rows
set_option maxHeartbeats 4000000
section
variable {X : Cx} {pos : Pos}
def rCatG (K : PySem.W.Frag) : R2 := fun x y H Q => ∃ a b xs ys, x = .ref a ∧ y = .ref b ∧ SqT K H a xs ∧ SqT K H b ys ∧ xs.length + ys.length ≤ sizeLine ∧
  (xs = [] → Q (.ref b) H) ∧ (xs ≠ [] → ys = [] → Q (.ref a) H) ∧ (xs ≠ [] → ys ≠ [] → ∀ p, H p = none → Q (.ref p) (upd H p (.tup (xs ++ ys))))
theorem op_catG : OpR X (binaryOp .Add) (rCatG X.K) := by
  intro pins s σ H x y v u Q I rx ry h
  obtain ⟨a, b, xs, ys, rfl, rfl, ha, hb, hz, q0, q1, q2⟩ := h
  by_cases hx : xs = []
  · cases rx
    cases ry
    obtain ⟨its, r1, p1, _⟩ := I.tuple ha
    obtain ⟨its2, r2, p2, _⟩ := I.tuple hb
    have hv : its = [] := r1.nil_iff.mpr hx
    subst hv
    obtain ⟨⟨cls, dd, data, sl⟩, ho, hc, n, hd⟩ := id p1
    obtain ⟨⟨cls2, dd2, data2, sl2⟩, ho2, hc2, n2, hd2⟩ := id p2
    simp only at hc hd hc2 hd2
    subst hc hd hc2 hd2
    exact concat_meets ⟨_, ho, rfl⟩ ⟨_, ho2, rfl⟩ noFill_tuple_add seq_tuple_add PySem.F.slot_tuple_add PySem.F.entry_tuple_add (PySem.F.args_tuple_add_2 _ _)
      (tuple_addW0 a b _ its2.toArray n n2 dd dd2 sl sl2 rfl) ⟨ho, ho2, ⟨.ref b, H, I, rfl, q0 hx⟩⟩
  · exact op_catT pins s σ H _ _ _ _ Q I rx ry ⟨a, b, xs, ys, rfl, rfl, ha, hb, hx, hz, q1 hx, q2 hx⟩
theorem op_ne_nilT {k : Nat} (hr : Room k X.A) : OpR X (compareOp .NotEq) (fun x y H Q => ∃ a b xs, x = .ref a ∧ y = .ref b ∧ SqT X.K H a xs ∧ SqT X.K H b [] ∧ Q (.bl (!xs.isEmpty)) H) := by
  intro pins s σ H x y v u Q I rx ry h
  obtain ⟨a, b, xs, rfl, rfl, ha, hb, q⟩ := h
  cases rx; cases ry
  obtain ⟨its, rv, pa, _⟩ := I.tuple ha
  obtain ⟨its2, rv2, pb, _⟩ := I.tuple hb
  cases rv2
  have hu : X.A.units < cLine := hr.units0
  have pa' : s.heap.IsTuple a its.toArray := pa
  have pb' : s.heap.IsTuple b ([] : List Value).toArray := pb
  cases rv with
  | nil =>
    refine EqBoolInt.of_rcne (SeqAt.RcNeAt.tuples (e := fun _ => true) pa' pb' hu fun j h1 _ => ?_) ⟨.bl false, H, I, rfl, q⟩
    simp at h1
  | cons r rr =>
    refine EqBoolInt.of_rcne (SeqAt.RcNeAt.tuples (e := fun _ => true) pa' pb' hu fun j _ h2 => ?_) ⟨.bl true, H, I, rfl, q⟩
    simp at h2
end
section
variable {X : Cx} {N : List Str} {scope : Scope} {cl : List (Str × Addr)} {C : Addr} {s₀ : Shared} {H₀ : Hp} {fp : List Addr}
theorem opc_catG : OpR (compCx X N scope cl C s₀ H₀ fp) (binaryOp .Add) (rCatG X.K) := op_catG (X := compCx X N scope cl C s₀ H₀ fp)
end
end L2

namespace Bp
open PySem L2
set_option maxHeartbeats 4000000
theorem cut_lo {xs : List V} {i : Int} (h0 : 0 ≤ i) (h1 : i ≤ xs.length) : cutV xs none (some i) = xs.take i.toNat ∧ HT.sIx xs.length xs.length (some i) = i.toNat := by
  have e : HT.sIx xs.length xs.length (some i) = i.toNat := by
    simp only [HT.sIx, if_neg (show ¬ i < 0 by omega)]
    omega
  refine ⟨?_, e⟩
  show (xs.drop 0).take (HT.sIx xs.length xs.length (some i) - 0) = _
  rw [e, List.drop_zero, Nat.sub_zero]
theorem cut_hi {xs : List V} {i : Int} (h0 : 0 ≤ i) (h1 : i ≤ xs.length) : cutV xs (some i) none = xs.drop i.toNat ∧ HT.sIx xs.length 0 (some i) = i.toNat := by
  have e : HT.sIx xs.length 0 (some i) = i.toNat := by
    simp only [HT.sIx, if_neg (show ¬ i < 0 by omega)]
    omega
  refine ⟨?_, e⟩
  show (xs.drop (HT.sIx xs.length 0 (some i))).take (xs.length - HT.sIx xs.length 0 (some i)) = _
  rw [e]
  exact List.take_of_length_le (by rw [List.length_drop]; omega)
def Pln.put (P : Pln) (i : Int) (s : Spn) : Pln := ⟨P.names, P.spans.set i.toNat s⟩
end Bp

namespace Bp
open PySem L2
set_option maxHeartbeats 4000000
theorem one_of {α : Type} {os : List α} (h : os.length = 1) : ∃ o, os = [o] := by
  cases os with
  | nil => cases h
  | cons o r => cases r with
    | nil => exact ⟨o, rfl⟩
    | cons _ _ => simp at h
theorem two_of {α : Type} {os : List α} (h : os.length = 2) : ∃ o o', os = [o, o'] := by
  match os, h with
  | [o, o'], _ => exact ⟨o, o', rfl⟩
structure FeedB (H : Hp) (f c : Addr) (n : Int) : Prop where
  ex : ∃ (ns : List Int) (a l t : Int), H f = some (.dK (fd0 c a l t)) ∧ H c = some (.lst (ns.map V.int)) ∧ 0 ≤ t ∧ t ≤ n
theorem FeedB.mono {H : Hp} {f c : Addr} {n m : Int} (h : FeedB H f c n) (e : n ≤ m) : FeedB H f c m := by
  obtain ⟨ns, a, l, t, e1, e2, n1, n2⟩ := h.ex
  exact ⟨ns, a, l, t, e1, e2, n1, by omega⟩
theorem FeedB.ne {H : Hp} {f c : Addr} {n : Int} (h : FeedB H f c n) : c ≠ f := by
  obtain ⟨ns, a, l, t, e1, e2, _⟩ := h.ex
  exact ne_of e2 e1 (by intro z; cases z)
theorem FeedB.some {H : Hp} {f c : Addr} {n : Int} (h : FeedB H f c n) : ∃ kvs, H f = some (.dK kvs) := by
  obtain ⟨ns, a, l, t, e1, e2, _⟩ := h.ex
  exact ⟨_, e1⟩
theorem FeedB.same {H H' : Hp} {f c : Addr} {n : Int} (h : FeedB H f c n) (s : Same H H') : FeedB H' f c n := by
  obtain ⟨ns, a, l, t, e1, e2, n1, n2⟩ := h.ex
  exact ⟨ns, a, l, t, s _ _ e1, s _ _ e2, n1, n2⟩
theorem FeedB.off {H : Hp} {f c p : Addr} {n : Int} {o : HO} (h : FeedB H f c n) (hf : p ≠ f) (hc : p ≠ c) : FeedB (upd H p o) f c n := by
  obtain ⟨ns, a, l, t, e1, e2, n1, n2⟩ := h.ex
  exact ⟨ns, a, l, t, by rw [upd_ne hf.symm]; exact e1, by rw [upd_ne hc.symm]; exact e2, n1, n2⟩
theorem FeedB.new {H : Hp} {f c p : Addr} {n : Int} {o : HO} (h : FeedB H f c n) (hp : H p = none) : FeedB (upd H p o) f c n := h.same (Same.new hp)
theorem FeedB.away {H : Hp} {f c p : Addr} {n : Int} (h : FeedB H f c n) (hp : H p = none) : p ≠ f ∧ p ≠ c := by
  obtain ⟨ns, a, l, t, e1, e2, _⟩ := h.ex
  exact ⟨(ne_of_none e1 hp).symm, (ne_of_none e2 hp).symm⟩
theorem FeedB.tk {H H' : Hp} {f c : Addr} {n : Int} (h : FeedB H f c n) (s : Sm f H H') : TK H H' := by
  obtain ⟨kvs, e⟩ := h.some
  exact s.tk e
theorem FeedB.free {H H' : Hp} {f c p : Addr} {n m : Int} (h : FeedB H f c n) (h' : FeedB H' f c m) (s : Sm f H H') (hp : H' p = none) : H p = none := by
  obtain ⟨kvs, e⟩ := h.some
  obtain ⟨kvs', e'⟩ := h'.some
  exact s.free e hp (by rw [e']; simp)
def nMax : Int := 1000000000000
def sp_drawB : Sp := fun vs H Q _ => ∃ (f c : Addr) (m n : Int), vs = [.ref f, .int m] ∧ 0 < m ∧ m < 1000000000 ∧ FeedB H f c n ∧ n ≤ nMax ∧ ∀ (r : Int) (H' : Hp), 0 ≤ r → r < m → FeedB H' f c (n + 1) → Sm f H H' → Q (.int r) H'
def sp_fed (K : PySem.W.Frag) : Sp := fun vs H Q _ => ∃ (a : Addr) (ns : List Int), vs = [.ref a] ∧ SqL K H a (ns.map V.int) ∧ ns.length ≤ 63 ∧ ∀ (f c : Addr) (H' : Hp), FeedB H' f c 0 → Same H H' → Q (.ref f) H'
end Bp

namespace Bp
open PySem L2
set_option maxHeartbeats 4000000
def sp_fit : Sp := fun vs H Q _ => ∃ (f c b : Addr) (bs : List Int) (m one other n : Int), vs = [.ref f, .int m, .ref b, .int one, .int other] ∧ H b = some (.lst (bs.map V.int)) ∧ bs.length ≤ 1000 ∧ 0 ≤ one ∧ one < bs.length ∧ 0 ≤ other ∧ other < bs.length ∧ 0 < m ∧ m ≤ 10000 ∧ FeedB H f c n ∧ n ≤ 1000000000 ∧
  ∀ (t : Addr) (s : Spn) (H' : Hp), FeedB H' f c (n + 10) → Sm f H H' → H' t = some (.tup s.vs) → s.Ok bs.length → Q (.ref t) H'
def sp_any_span : Sp := fun vs H Q _ => ∃ (f c : Addr) (m one other n works : Int), vs = [.ref f, .int m, .int one, .int other] ∧ 0 ≤ one ∧ one < works ∧ 0 ≤ other ∧ other < works ∧ 0 < m ∧ m ≤ 10000 ∧ FeedB H f c n ∧ n ≤ 1000000000 ∧
  ∀ (t : Addr) (s : Spn) (H' : Hp), FeedB H' f c (n + 10) → Sm f H H' → H' t = some (.tup s.vs) → s.Ok works → Q (.ref t) H'
def sp_a_plan (K : PySem.W.Frag) : Sp := fun vs H Q _ => ∃ (f c : Addr) (works m most n : Int), vs = [.ref f, .int works, .int m, .int most] ∧ 0 < works ∧ works ≤ 8 ∧ 0 < m ∧ m ≤ 10000 ∧ 0 ≤ most ∧ most ≤ 24 ∧ FeedB H f c n ∧ n ≤ 1000000 ∧
  ∀ (q : Addr) (P : Pln) (H' : Hp), FeedB H' f c (n + 1000) → Sm f H H' → DV K H' (.ref q) P.d → P.Ok works 24 → Q (.ref q) H'
end Bp

namespace Bp
open PySem L2
set_option maxHeartbeats 4000000
def wtAt (per : Int) (ws bs : List Int) (l : List Spn) (j : Nat) : Int := match l[j]? with | some s => bt ws (j : Int) * (lenZ per bs s - s.low) | none => 0
def waitsN (per : Int) (ws bs : List Int) (l : List Spn) (n : Nat) : Int := ((List.range n).map (wtAt per ws bs l)).sum
theorem waitsN_succ (per : Int) (ws bs : List Int) (l : List Spn) (n : Nat) : waitsN per ws bs l (n + 1) = waitsN per ws bs l n + wtAt per ws bs l n := by
  unfold waitsN
  rw [List.range_succ, List.map_append, List.sum_append]
  simp
theorem wtAt_at {per : Int} {ws bs : List Int} {l : List Spn} {j : Nat} (h : j < l.length) : wtAt per ws bs l j = bt ws (j : Int) * (lenZ per bs l[j] - (l[j]).low) := by
  unfold wtAt
  rw [List.getElem?_eq_getElem h]
theorem len_gap {c d low : Int} (hc : 0 < c) : d % c + (low - d % c + c - 1) / c * c = low + (d - low) % c := by
  have h0 := Int.emod_nonneg d (show c ≠ 0 by omega)
  have h1 := Int.emod_lt_of_pos d hc
  have e := Int.mul_ediv_add_emod (low - d % c + c - 1) c
  have r0 := Int.emod_nonneg (low - d % c + c - 1) (show c ≠ 0 by omega)
  have r1 := Int.emod_lt_of_pos (low - d % c + c - 1) hc
  have ed := Int.mul_ediv_add_emod d c
  have em : (low - d % c + c - 1) / c * c = c * ((low - d % c + c - 1) / c) := Int.mul_comm _ _
  have key : d % c + (low - d % c + c - 1) / c * c - low = (d - low) % c := by
    refine mod_unique hc (by omega) (by omega) ?_
    have : d % c + (low - d % c + c - 1) / c * c - low - (d - low) = c * ((low - d % c + c - 1) / c - d / c) := by
      rw [Int.mul_sub]
      omega
    rw [this]
    exact Int.mul_emod_right _ _
  omega
def sp_waits_of (K : PySem.W.Frag) : Sp := fun vs H Q _ => ∃ (x : V) (wa b : Addr) (per : Int) (P : Pln) (ws bs : List Int), vs = [x, .int per, .ref wa, .ref b] ∧ DV K H x P.d ∧ P.spans.length ≤ 10000 ∧ H wa = some (.tup (ws.map V.int)) ∧ ws.length = P.spans.length ∧ (∀ z ∈ ws, 0 ≤ z ∧ z ≤ 99) ∧
  H b = some (.tup (bs.map V.int)) ∧ (∀ s ∈ P.spans, s.In bs.length) ∧ 0 < per ∧ ∀ H', Same H H' → Q (.int (waitsN per ws bs P.spans P.spans.length)) H'
def sp_lengthB (K : PySem.W.Frag) : Sp := fun vs H Q _ => ∃ (x : V) (b : Addr) (per i : Int) (P : Pln) (s : Spn) (bs : List Int), vs = [x, .int per, .ref b, .int i] ∧ HasSpan K H x P i s ∧ H b = some (.tup (bs.map V.int)) ∧ s.In bs.length ∧ 0 < per ∧ per ≤ 10000 ∧ Q (.int (lenZ per bs s)) H
def sp_some_weights (K : PySem.W.Frag) : Sp := fun vs H Q _ => ∃ (f c : Addr) (x : V) (P : Pln) (n : Int), vs = [.ref f, x] ∧ DV K H x P.d ∧ P.spans.length ≤ 24 ∧ FeedB H f c n ∧ n ≤ 1000000 ∧
  ∀ (q : Addr) (ws : List Int) (H' : Hp), FeedB H' f c (n + 200) → Sm f H H' → H' q = some (.tup (ws.map V.int)) → ws.length = P.spans.length → (∀ z ∈ ws, 0 ≤ z ∧ z ≤ 99) → Q (.ref q) H'
theorem bt_rng {ws : List Int} {i : Int} {a b : Int} (h : ∀ z ∈ ws, a ≤ z ∧ z ≤ b) (h0 : 0 ≤ i) (h1 : i < ws.length) : a ≤ bt ws i ∧ bt ws i ≤ b := by
  have hi : i.toNat < ws.length := by omega
  unfold bt
  rw [List.getD_eq_getElem?_getD, List.getElem?_eq_getElem hi]
  exact h _ (List.getElem_mem hi)
end Bp

namespace Bp
open PySem L2
set_option maxHeartbeats 4000000
def pairD2 (p : Int × Int) : PyData := .tuple [.int p.1, .int p.2]
def pairsD (l : List (Int × Int)) : PyData := .tuple (l.map pairD2)
def priceD (p : Int × List (Int × Int)) : PyData := .tuple [.int p.1, pairsD p.2]
def pricesD (l : List (Int × List (Int × Int))) : PyData := .tuple (l.map priceD)
theorem pair_at {K : PySem.W.Frag} {H : Hp} {x : V} {p : Int × Int} (h : DV K H x (pairD2 p)) : ∃ a, x = .ref a ∧ H a = some (.tup [.int p.1, .int p.2]) := by
  cases h with
  | tup h r =>
    cases r with
    | cons a r =>
      cases r with
      | cons b r =>
        cases r
        cases a
        cases b
        exact ⟨_, rfl, h⟩
theorem at_pair {K : PySem.W.Frag} {H : Hp} {a : Addr} {p : Int × Int} (h : H a = some (.tup [.int p.1, .int p.2])) : DV K H (.ref a) (pairD2 p) := .tup h (.cons (.int _) (.cons (.int _) .nil))
theorem pairs_at {K : PySem.W.Frag} {H : Hp} {x : V} {l : List (Int × Int)} (h : DV K H x (pairsD l)) : ∃ a xs, x = .ref a ∧ H a = some (.tup xs) ∧ DVs K H xs (l.map pairD2) := by
  cases h with
  | tup h r => exact ⟨_, _, rfl, h, r⟩
theorem pairs_get {K : PySem.W.Frag} {H : Hp} {xs : List V} {l : List (Int × Int)} {i : Nat} (h : DVs K H xs (l.map pairD2)) (hi : i < l.length) : ∃ b, xs[i]? = some (.ref b) ∧ H b = some (.tup [.int (l[i]).1, .int (l[i]).2]) := by
  obtain ⟨y, hy, dy⟩ := h.get' (i := i) (d := pairD2 l[i]) (by rw [List.getElem?_map, List.getElem?_eq_getElem hi]; rfl)
  obtain ⟨b, rfl, e⟩ := pair_at dy
  exact ⟨b, hy, e⟩
theorem pairs_item {K : PySem.W.Frag} {H : Hp} {xs : List V} {l : List (Int × Int)} {i : Nat} {x : V} (h : DVs K H xs (l.map pairD2)) (hx : xs[i]? = some x) : ∃ (hi : i < l.length) (b : Addr), x = .ref b ∧ H b = some (.tup [.int (l[i]).1, .int (l[i]).2]) := by
  have hl : xs.length = l.length := by rw [h.length, List.length_map]
  have hi : i < l.length := by rw [← hl]; exact (List.getElem?_eq_some_iff.mp hx).1
  obtain ⟨b, hb, e⟩ := pairs_get h hi
  rw [hx] at hb
  exact ⟨hi, b, Option.some.inj hb, e⟩
theorem price_at {K : PySem.W.Frag} {H : Hp} {x : V} {p : Int × List (Int × Int)} (h : DV K H x (priceD p)) : ∃ a b, x = .ref a ∧ H a = some (.tup [.int p.1, .ref b]) ∧ DV K H (.ref b) (pairsD p.2) := by
  cases h with
  | tup h r =>
    cases r with
    | cons a r =>
      cases r with
      | cons b r =>
        cases r
        cases a
        obtain ⟨c, xs, rfl, _⟩ := pairs_at b
        exact ⟨_, _, rfl, h, b⟩
theorem noL_pairs (l : List (Int × Int)) : noL (pairsD l) = true := noLs_all.mpr fun d hd => by obtain ⟨x, _, rfl⟩ := List.mem_map.mp hd; rfl
theorem noLs_pairs (l : List (Int × Int)) : noLs (l.map pairD2) = true := noLs_all.mpr fun d hd => by obtain ⟨x, _, rfl⟩ := List.mem_map.mp hd; rfl
theorem noL_price (p : Int × List (Int × Int)) : noL (priceD p) = true := by simp [priceD, noL, noLs, noL_pairs]
theorem noLs_prices (l : List (Int × List (Int × Int))) : noLs (l.map priceD) = true := noLs_all.mpr fun d hd => by obtain ⟨x, _, rfl⟩ := List.mem_map.mp hd; exact noL_price x
def EntOk (n : Nat) (e : Int × Int) : Prop := 0 ≤ e.1 ∧ e.1 < n ∧ (e.2 = 1 ∨ e.2 = -1)
def entS (ws : List (Int × Int)) (e : Int × Int) : Int × Int := if e.2 = 1 then ws.getD e.1.toNat (0, 0) else (-(ws.getD e.1.toNat (0, 0)).2, -(ws.getD e.1.toNat (0, 0)).1)
def loZ (ws r : List (Int × Int)) : Int := (r.map fun e => (entS ws e).1).sum
def hiZ (ws r : List (Int × Int)) : Int := (r.map fun e => (entS ws e).2).sum
def lowAt (l : List Spn) (i : Int) : Int := match l[i.toNat]? with | some s => s.low | none => 0
def lowsZ (l : List Spn) (r : List (Int × Int)) : Int := (r.map fun e => e.2 * lowAt l e.1).sum
def stepL (price : Int) (left : List Int) (e : Int × Int) : List Int := left.set e.1.toNat (bt left e.1 - price * e.2)
def leftR (left : List Int) (p : Int × List (Int × Int)) : List Int := p.2.foldl (stepL p.1) left
def leftZ (ws : List Int) (ps : List (Int × List (Int × Int))) : List Int := ps.foldl leftR ws
theorem stepL_len (price : Int) (left : List Int) (e : Int × Int) : (stepL price left e).length = left.length := List.length_set
theorem foldl_len (price : Int) : ∀ (r : List (Int × Int)) (left : List Int), (r.foldl (stepL price) left).length = left.length
  | [], _ => rfl
  | e :: r, left => by rw [List.foldl_cons, foldl_len price r, stepL_len]
theorem leftZ_len : ∀ (ps : List (Int × List (Int × Int))) (ws : List Int), (leftZ ws ps).length = ws.length
  | [], _ => rfl
  | p :: ps, ws => by
    show (leftZ (leftR ws p) ps).length = ws.length
    rw [leftZ_len ps]
    exact foldl_len _ _ _
def spanZ (low : Int) (w : Int × Int) (left : Int) : Int := left * ((if left ≥ 0 then w.1 else w.2) - low)
def ringZ (per : Int) (l : List Spn) (ws : List (Int × Int)) (p : Int × List (Int × Int)) : Int := p.1 * (-(-(loZ ws p.2) / per) * per - lowsZ l p.2)
def sp_entry_sums (K : PySem.W.Frag) : Sp := fun vs H Q _ => ∃ (b x : V) (a : Addr) (ws : List (Int × Int)) (e : Int × Int), vs = [b, x, .ref a] ∧ DV K H x (pairsD ws) ∧ H a = some (.tup [.int e.1, .int e.2]) ∧ EntOk ws.length e ∧
  ∀ (q : Addr) (H' : Hp), Same H H' → H' q = some (.tup [.int (entS ws e).1, .int (entS ws e).2]) → Q (.ref q) H'
def sp_sums_of (K : PySem.W.Frag) : Sp := fun vs H Q _ => ∃ (pl pe b x y : V) (ws r : List (Int × Int)), vs = [pl, pe, b, x, y] ∧ DV K H x (pairsD ws) ∧ DV K H y (pairsD r) ∧ (∀ e ∈ r, EntOk ws.length e) ∧ r.length ≤ 10000 ∧
  ∀ (q : Addr) (H' : Hp), Same H H' → H' q = some (.tup [.int (loZ ws r), .int (hiZ ws r)]) → Q (.ref q) H'
def sp_left_of (K : PySem.W.Frag) : Sp := fun vs H Q _ => ∃ (wa : Addr) (y : V) (ws : List Int) (ps : List (Int × List (Int × Int))), vs = [.ref wa, y] ∧ H wa = some (.tup (ws.map V.int)) ∧ ws.length ≤ 10000 ∧ DV K H y (pricesD ps) ∧ (∀ p ∈ ps, (1 ≤ p.1 ∧ p.1 ≤ 999) ∧ ∀ e ∈ p.2, EntOk ws.length e) ∧
  ∀ (q : Addr) (H' : Hp), Same H H' → H' q = some (.lst ((leftZ ws ps).map V.int)) → Q (.ref q) H'
def sp_shown_by_span (K : PySem.W.Frag) : Sp := fun vs H Q _ => ∃ (low left : Int) (a : Addr) (p : Int × Int), vs = [.int low, .ref a, .int left] ∧ H a = some (.tup [.int p.1, .int p.2]) ∧ -1000000000 ≤ left ∧ left ≤ 1000000000 ∧ Q (.int (spanZ low p left)) H
def sp_shown_by_ring (K : PySem.W.Frag) : Sp := fun vs H Q _ => ∃ (x y z : V) (per price : Int) (Pl : Pln) (ws r : List (Int × Int)), vs = [x, .int per, y, .int price, z] ∧ DV K H x Pl.d ∧ DV K H y (pairsD ws) ∧ DV K H z (pairsD r) ∧ ws.length = Pl.spans.length ∧ (∀ e ∈ r, EntOk ws.length e) ∧ r.length ≤ 10000 ∧ 0 < per ∧ per ≤ 10000 ∧ 1 ≤ price ∧ price ≤ 999 ∧
  ∀ H', Same H H' → Q (.int (ringZ per Pl.spans ws (price, r))) H'
theorem mem_set_rng {l : List Int} {i : Nat} {v B : Int} (h : ∀ z ∈ l, -B ≤ z ∧ z ≤ B) (hv : -B ≤ v ∧ v ≤ B) : ∀ z ∈ l.set i v, -B ≤ z ∧ z ≤ B := fun z hz => by
  rcases List.mem_or_eq_of_mem_set hz with y | rfl
  · exact h z y
  · exact hv
theorem step_rng {price B : Int} {left : List Int} {e : Int × Int} (hp : 1 ≤ price ∧ price ≤ 999) (he : EntOk left.length e) (h : ∀ z ∈ left, -B ≤ z ∧ z ≤ B) : ∀ z ∈ stepL price left e, -(B + 999) ≤ z ∧ z ≤ B + 999 := by
  obtain ⟨h0, h1, h2⟩ := he
  have hb := bt_rng h h0 h1
  refine mem_set_rng (fun z hz => by have := h z hz; omega) ?_
  rcases h2 with e2 | e2 <;> rw [e2] <;> omega
theorem fold_rng {price : Int} (hp : 1 ≤ price ∧ price ≤ 999) : ∀ (r : List (Int × Int)) (left : List Int) (B : Int), (∀ e ∈ r, EntOk left.length e) → (∀ z ∈ left, -B ≤ z ∧ z ≤ B) → ∀ z ∈ r.foldl (stepL price) left, -(B + 999 * r.length) ≤ z ∧ z ≤ B + 999 * r.length
  | [], left, B, _, h => by intro z hz; have := h z hz; simp; omega
  | e :: r, left, B, he, h => by
    intro z hz
    rw [List.foldl_cons] at hz
    have := fold_rng hp r (stepL price left e) (B + 999) (fun x hx => by rw [stepL_len]; exact he x (List.mem_cons_of_mem _ hx)) (step_rng hp (he e List.mem_cons_self) h) z hz
    rw [List.length_cons]
    omega
theorem leftZ_rng : ∀ (ps : List (Int × List (Int × Int))) (ws : List Int) (B : Int), (∀ p ∈ ps, (1 ≤ p.1 ∧ p.1 ≤ 999) ∧ p.2.length ≤ 100 ∧ ∀ e ∈ p.2, EntOk ws.length e) → (∀ z ∈ ws, -B ≤ z ∧ z ≤ B) → ∀ z ∈ leftZ ws ps, -(B + 99900 * ps.length) ≤ z ∧ z ≤ B + 99900 * ps.length
  | [], ws, B, _, h => by intro z hz; have := h z hz; simp; omega
  | p :: ps, ws, B, hp, h => by
    intro z hz
    have h1 := hp p List.mem_cons_self
    have h2 := fold_rng h1.1 p.2 ws B h1.2.2 h
    have h3 : ∀ z ∈ leftR ws p, -(B + 99900) ≤ z ∧ z ≤ B + 99900 := fun y hy => by have := h2 y hy; have := h1.2.1; omega
    have hl : (leftR ws p).length = ws.length := foldl_len _ _ _
    have := leftZ_rng ps (leftR ws p) (B + 99900) (fun x hx => by rw [hl]; exact hp x (List.mem_cons_of_mem _ hx)) h3 z hz
    rw [List.length_cons]
    omega
def spansN (l : List Spn) (wins : List (Int × Int)) (left : List Int) (n : Nat) : Int := ((List.range n).map fun (j : Nat) => spanZ (lowAt l (j : Int)) (wins.getD j (0, 0)) (bt left (j : Int))).sum
theorem spansN_succ (l : List Spn) (wins : List (Int × Int)) (left : List Int) (n : Nat) : spansN l wins left (n + 1) = spansN l wins left n + spanZ (lowAt l (n : Int)) (wins.getD n (0, 0)) (bt left (n : Int)) := by
  unfold spansN
  rw [List.range_succ, List.map_append, List.sum_append]
  simp
def ringsZ (per : Int) (l : List Spn) (wins : List (Int × Int)) (ps : List (Int × List (Int × Int))) : Int := (ps.map (ringZ per l wins)).sum
structure PricesOk (n : Nat) (ps : List (Int × List (Int × Int))) : Prop where
  len : ps.length ≤ 24
  each : ∀ p ∈ ps, (1 ≤ p.1 ∧ p.1 ≤ 999) ∧ p.2.length ≤ 100 ∧ ∀ e ∈ p.2, EntOk n e
def sp_shown_by (K : PySem.W.Frag) : Sp := fun vs H Q _ => ∃ (x y z : V) (wa : Addr) (per : Int) (Pl : Pln) (ws : List Int) (wins : List (Int × Int)) (ps : List (Int × List (Int × Int))), vs = [x, .int per, .ref wa, y, z] ∧ DV K H x Pl.d ∧ Pl.spans.length ≤ 24 ∧ H wa = some (.tup (ws.map V.int)) ∧ ws.length = Pl.spans.length ∧ (∀ z ∈ ws, 0 ≤ z ∧ z ≤ 99) ∧
  DV K H y (pairsD wins) ∧ wins.length = Pl.spans.length ∧ DV K H z (pricesD ps) ∧ PricesOk ws.length ps ∧ 0 < per ∧ per ≤ 10000 ∧ ∀ H', Same H H' → Q (.int (spansN Pl.spans wins (leftZ ws ps) Pl.spans.length + ringsZ per Pl.spans wins ps)) H'
def winsZ (per : Int) (l : List Spn) : List (Int × Int) := l.map fun s => (s.low, endZ per s)
def sp_all_windows (K : PySem.W.Frag) : Sp := fun vs H Q _ => ∃ (x : V) (per : Int) (P : Pln), vs = [x, .int per] ∧ DV K H x P.d ∧ P.spans.length ≤ 10000 ∧ ∀ (q : Addr) (H' : Hp), Same H H' → DV K H' (.ref q) (pairsD (winsZ per P.spans)) → Q (.ref q) H'
end Bp

namespace Bp
open PySem L2
set_option maxHeartbeats 4000000
def Walk (l : List Spn) : Int → List (Int × Int) → Int → Prop
  | a, [], b => a = b
  | a, e :: r, b => 0 ≤ e.1 ∧ ∃ s, l[e.1.toNat]? = some s ∧ ((e.2 = 1 ∧ s.one = a ∧ Walk l s.other r b) ∨ (e.2 = -1 ∧ s.other = a ∧ Walk l s.one r b))
theorem Walk.append {l : List Spn} : ∀ {r r' : List (Int × Int)} {a b c : Int}, Walk l a r b → Walk l b r' c → Walk l a (r ++ r') c
  | [], r', a, b, c, h, h' => by cases h; exact h'
  | e :: r, r', a, b, c, h, h' => by
    obtain ⟨h0, s, hs, h⟩ := h
    refine ⟨h0, s, hs, ?_⟩
    rcases h with ⟨x, y, z⟩ | ⟨x, y, z⟩
    · exact .inl ⟨x, y, z.append h'⟩
    · exact .inr ⟨x, y, z.append h'⟩
def backR (r : List (Int × Int)) : List (Int × Int) := r.reverse.map fun e => (e.1, 0 - e.2)
theorem Walk.back {l : List Spn} : ∀ {r : List (Int × Int)} {a b : Int}, Walk l a r b → Walk l b (backR r) a
  | [], a, b, h => by cases h; rfl
  | e :: r, a, b, h => by
    obtain ⟨h0, s, hs, h⟩ := h
    have e1 : backR (e :: r) = backR r ++ [(e.1, 0 - e.2)] := by simp [backR]
    rw [e1]
    rcases h with ⟨x, y, z⟩ | ⟨x, y, z⟩
    · exact z.back.append ⟨h0, s, hs, .inr ⟨by show 0 - e.2 = -1; omega, rfl, y⟩⟩
    · exact z.back.append ⟨h0, s, hs, .inl ⟨by show 0 - e.2 = 1; omega, rfl, y⟩⟩
def lenAt (per : Int) (bs : List Int) (l : List Spn) (i : Int) : Int := match l[i.toNat]? with | some s => lenZ per bs s | none => 0
def LZ (per : Int) (bs : List Int) (l : List Spn) (r : List (Int × Int)) : Int := (r.map fun e => e.2 * lenAt per bs l e.1).sum
theorem len_dvd (per : Int) (bs : List Int) (s : Spn) : per ∣ lenZ per bs s - (bt bs s.other - bt bs s.one) := by
  have h := Int.mul_ediv_add_emod (bt bs s.other - bt bs s.one - s.low) per
  refine ⟨-((bt bs s.other - bt bs s.one - s.low) / per), ?_⟩
  unfold lenZ
  rw [Int.mul_neg]
  omega
theorem walk_dvd {per : Int} {bs : List Int} {l : List Spn} : ∀ {r : List (Int × Int)} {a b : Int}, Walk l a r b → per ∣ LZ per bs l r - (bt bs b - bt bs a)
  | [], a, b, h => by cases h; simp [LZ]
  | e :: r, a, b, h => by
    obtain ⟨h0, s, hs, h⟩ := h
    have hc : LZ per bs l (e :: r) = e.2 * lenZ per bs s + LZ per bs l r := by simp [LZ, lenAt, hs]
    have hd := len_dvd per bs s
    rw [hc]
    rcases h with ⟨x, y, z⟩ | ⟨x, y, z⟩
    · have := Int.dvd_add hd (walk_dvd (per := per) (bs := bs) z)
      rw [x, ← y]
      rw [show 1 * lenZ per bs s + LZ per bs l r - (bt bs b - bt bs s.one) = lenZ per bs s - (bt bs s.other - bt bs s.one) + (LZ per bs l r - (bt bs b - bt bs s.other)) by omega]
      exact this
    · have := Int.dvd_sub (walk_dvd (per := per) (bs := bs) z) hd
      rw [x, ← y]
      rw [show -1 * lenZ per bs s + LZ per bs l r - (bt bs b - bt bs s.other) = LZ per bs l r - (bt bs b - bt bs s.one) - (lenZ per bs s - (bt bs s.other - bt bs s.one)) by omega]
      exact this
def gAt (per : Int) (bs : List Int) (l : List Spn) (i : Int) : Int := lenAt per bs l i - lowAt l i
def GZ (per : Int) (bs : List Int) (l : List Spn) (r : List (Int × Int)) : Int := (r.map fun e => e.2 * gAt per bs l e.1).sum
theorem GZ_eq (per : Int) (bs : List Int) (l : List Spn) : ∀ r : List (Int × Int), GZ per bs l r = LZ per bs l r - lowsZ l r
  | [] => by simp [GZ, LZ, lowsZ]
  | e :: r => by
    have ih := GZ_eq per bs l r
    have h1 : GZ per bs l (e :: r) = e.2 * gAt per bs l e.1 + GZ per bs l r := by simp [GZ]
    have h2 : LZ per bs l (e :: r) = e.2 * lenAt per bs l e.1 + LZ per bs l r := by simp [LZ]
    have h3 : lowsZ l (e :: r) = e.2 * lowAt l e.1 + lowsZ l r := by simp [lowsZ]
    rw [h1, h2, h3, ih, gAt, Int.mul_sub]
    omega
theorem ceil_le {x q per : Int} (hp : 0 < per) (h : x ≤ q) (hd : per ∣ q) : -(-x / per) * per ≤ q := by
  obtain ⟨k, rfl⟩ := hd
  have e := Int.mul_ediv_add_emod (-x) per
  have r0 := Int.emod_nonneg (-x) (show per ≠ 0 by omega)
  have r1 := Int.emod_lt_of_pos (-x) hp
  have key : -(-x / per) ≤ k := by
    by_cases h2 : k < -(-x / per)
    · have h3 : per * (k + 1) ≤ per * (-(-x / per)) := Int.mul_le_mul_of_nonneg_left (by omega) (by omega)
      rw [Int.mul_add, Int.mul_neg] at h3
      omega
    · omega
  rw [Int.mul_comm]
  exact Int.mul_le_mul_of_nonneg_left key (by omega)
section
variable {per : Int} {bs : List Int} {l : List Spn} {wins : List (Int × Int)}
def Lie (per : Int) (bs : List Int) (l : List Spn) (wins : List (Int × Int)) : Prop := ∀ j : Nat, j < l.length → (wins.getD j (0, 0)).1 ≤ lenAt per bs l (j : Int) ∧ lenAt per bs l (j : Int) ≤ (wins.getD j (0, 0)).2
theorem lo_le (h : Lie per bs l wins) : ∀ r : List (Int × Int), (∀ e ∈ r, EntOk l.length e) → loZ wins r ≤ LZ per bs l r
  | [], _ => by simp [loZ, LZ]
  | e :: r, ho => by
    have ih := lo_le h r fun x hx => ho x (List.mem_cons_of_mem _ hx)
    obtain ⟨h0, h1, h2⟩ := ho e List.mem_cons_self
    have hj := h e.1.toNat (by omega)
    rw [show ((e.1.toNat : Nat) : Int) = e.1 by omega] at hj
    have c1 : loZ wins (e :: r) = (entS wins e).1 + loZ wins r := by simp [loZ]
    have c2 : LZ per bs l (e :: r) = e.2 * lenAt per bs l e.1 + LZ per bs l r := by simp [LZ]
    rw [c1, c2]
    unfold entS
    rcases h2 with h2 | h2
    · rw [if_pos h2, h2]
      omega
    · rw [if_neg (by omega), h2]
      show -(wins.getD e.1.toNat (0, 0)).2 + _ ≤ _
      omega
theorem ring_le (hp : 0 < per) (h : Lie per bs l wins) {p : Int × List (Int × Int)} (hpr : 1 ≤ p.1) (ho : ∀ e ∈ p.2, EntOk l.length e) {a : Int} (hw : Walk l a p.2 a) : ringZ per l wins p ≤ p.1 * GZ per bs l p.2 := by
  unfold ringZ
  refine Int.mul_le_mul_of_nonneg_left ?_ (by omega)
  have hd := walk_dvd (per := per) (bs := bs) hw
  rw [Int.sub_self, Int.sub_zero] at hd
  have := ceil_le hp (lo_le h p.2 ho) hd
  rw [GZ_eq]
  omega
def VN (per : Int) (bs : List Int) (l : List Spn) (left : List Int) (n : Nat) : Int := ((List.range n).map fun (j : Nat) => bt left (j : Int) * gAt per bs l (j : Int)).sum
theorem VN_succ (left : List Int) (n : Nat) : VN per bs l left (n + 1) = VN per bs l left n + bt left (n : Int) * gAt per bs l (n : Int) := by
  unfold VN
  rw [List.range_succ, List.map_append, List.sum_append]
  simp
theorem bt_set {left : List Int} {i : Nat} {v : Int} {j : Nat} (hi : i < left.length) : bt (left.set i v) (j : Int) = if j = i then v else bt left (j : Int) := by
  unfold bt
  rw [List.getD_eq_getElem?_getD, List.getD_eq_getElem?_getD, show ((j : Int)).toNat = j by omega, List.getElem?_set]
  by_cases h : i = j
  · subst h
    simp [hi]
  · rw [if_neg h, if_neg (fun e => h e.symm)]
theorem VN_set {left : List Int} {i : Nat} {v : Int} (hi : i < left.length) : ∀ n : Nat, VN per bs l (left.set i v) n = VN per bs l left n + (if i < n then (v - bt left (i : Int)) * gAt per bs l (i : Int) else 0)
  | 0 => by simp [VN]
  | n + 1 => by
    rw [VN_succ, VN_succ, VN_set hi n, bt_set hi]
    by_cases h : n = i
    · subst h
      rw [if_pos rfl, if_neg (Nat.lt_irrefl _), if_pos (Nat.lt_succ_self _), Int.sub_mul]
      omega
    · rw [if_neg h]
      by_cases h2 : i < n
      · rw [if_pos h2, if_pos (by omega)]; omega
      · rw [if_neg h2, if_neg (by omega)]; omega
theorem VN_step {price : Int} {left : List Int} {e : Int × Int} {n : Nat} (he : EntOk left.length e) (hn : left.length = n) : VN per bs l (stepL price left e) n = VN per bs l left n - price * (e.2 * gAt per bs l e.1) := by
  obtain ⟨h0, h1, _⟩ := he
  unfold stepL
  rw [VN_set (by omega), if_pos (by omega), show ((e.1.toNat : Nat) : Int) = e.1 by omega]
  rw [show bt left e.1 - price * e.2 - bt left e.1 = -(price * e.2) by omega, Int.neg_mul, Int.mul_assoc]
  omega
theorem VN_fold {price : Int} {n : Nat} : ∀ (r : List (Int × Int)) (left : List Int), left.length = n → (∀ e ∈ r, EntOk n e) → VN per bs l (r.foldl (stepL price) left) n = VN per bs l left n - price * GZ per bs l r
  | [], left, _, _ => by simp [GZ]
  | e :: r, left, hn, ho => by
    have c : GZ per bs l (e :: r) = e.2 * gAt per bs l e.1 + GZ per bs l r := by simp [GZ]
    rw [List.foldl_cons, VN_fold r _ (by rw [stepL_len]; exact hn) (fun x hx => ho x (List.mem_cons_of_mem _ hx)), VN_step (by rw [hn]; exact ho e List.mem_cons_self) hn, c, Int.mul_add]
    omega
def PG (per : Int) (bs : List Int) (l : List Spn) (ps : List (Int × List (Int × Int))) : Int := (ps.map fun p => p.1 * GZ per bs l p.2).sum
theorem VN_left {n : Nat} : ∀ (ps : List (Int × List (Int × Int))) (ws : List Int), ws.length = n → (∀ p ∈ ps, ∀ e ∈ p.2, EntOk n e) → VN per bs l (leftZ ws ps) n = VN per bs l ws n - PG per bs l ps
  | [], ws, _, _ => by simp [leftZ, PG]
  | p :: ps, ws, hn, ho => by
    have c : PG per bs l (p :: ps) = p.1 * GZ per bs l p.2 + PG per bs l ps := by simp [PG]
    show VN per bs l (leftZ (leftR ws p) ps) n = _
    rw [VN_left ps (leftR ws p) (by rw [leftR, foldl_len]; exact hn) (fun x hx => ho x (List.mem_cons_of_mem _ hx)), c]
    show VN per bs l (p.2.foldl (stepL p.1) ws) n - _ = _
    rw [VN_fold p.2 ws hn (ho p List.mem_cons_self)]
    omega
theorem spans_le (h : Lie per bs l wins) (left : List Int) : ∀ n : Nat, n ≤ l.length → spansN l wins left n ≤ VN per bs l left n
  | 0, _ => by simp [spansN, VN]
  | n + 1, hn => by
    have ih := spans_le h left n (by omega)
    have hj := h n (by omega)
    rw [spansN_succ, VN_succ]
    have : spanZ (lowAt l (n : Int)) (wins.getD n (0, 0)) (bt left (n : Int)) ≤ bt left (n : Int) * gAt per bs l (n : Int) := by
      unfold spanZ gAt
      split
      · exact Int.mul_le_mul_of_nonneg_left (by omega) (by omega)
      · exact Int.mul_le_mul_of_nonpos_left (by omega) (by omega)
    omega
theorem rings_le (hp : 0 < per) (h : Lie per bs l wins) : ∀ ps : List (Int × List (Int × Int)), (∀ p ∈ ps, 1 ≤ p.1 ∧ (∀ e ∈ p.2, EntOk l.length e) ∧ ∃ a, Walk l a p.2 a) → ringsZ per l wins ps ≤ PG per bs l ps
  | [], _ => by simp [ringsZ, PG]
  | p :: ps, ho => by
    have ih := rings_le hp h ps fun x hx => ho x (List.mem_cons_of_mem _ hx)
    obtain ⟨h1, h2, a, h3⟩ := ho p List.mem_cons_self
    have := ring_le hp h h1 h2 h3
    have c1 : ringsZ per l wins (p :: ps) = ringZ per l wins p + ringsZ per l wins ps := by simp [ringsZ]
    have c2 : PG per bs l (p :: ps) = p.1 * GZ per bs l p.2 + PG per bs l ps := by simp [PG]
    rw [c1, c2]
    omega
theorem waits_VN (ws : List Int) : ∀ n : Nat, n ≤ l.length → waitsN per ws bs l n = VN per bs l ws n
  | 0, _ => by simp [waitsN, VN]
  | n + 1, hn => by
    rw [waitsN_succ, VN_succ, waits_VN ws n (by omega), wtAt_at (show n < l.length by omega), gAt, lenAt, lowAt, show ((n : Int)).toNat = n by omega, List.getElem?_eq_getElem (show n < l.length by omega)]
theorem shown_le (hp : 0 < per) (h : Lie per bs l wins) {ws : List Int} (hwl : ws.length = l.length) {ps : List (Int × List (Int × Int))} (ho : ∀ p ∈ ps, 1 ≤ p.1 ∧ (∀ e ∈ p.2, EntOk l.length e) ∧ ∃ a, Walk l a p.2 a) :
    spansN l wins (leftZ ws ps) l.length + ringsZ per l wins ps ≤ waitsN per ws bs l l.length := by
  have h1 := spans_le h (leftZ ws ps) l.length (Nat.le_refl _)
  have h2 := rings_le hp h ps ho
  have h3 := VN_left (per := per) (bs := bs) (l := l) ps ws hwl fun p hp e he => (ho p hp).2.1 e he
  have h4 := waits_VN (per := per) (bs := bs) (l := l) ws l.length (Nat.le_refl _)
  omega
end
theorem backR_len (r : List (Int × Int)) : (backR r).length = r.length := by simp [backR]
theorem backR_ok {n : Nat} {r : List (Int × Int)} (h : ∀ e ∈ r, EntOk n e) : ∀ e ∈ backR r, EntOk n e := fun e he => by
  obtain ⟨x, hx, rfl⟩ := List.mem_map.mp he
  obtain ⟨f0, f1, f2⟩ := h x (List.mem_reverse.mp hx)
  refine ⟨f0, f1, ?_⟩
  rcases f2 with f2 | f2
  · right; show 0 - x.2 = -1; omega
  · left; show 0 - x.2 = 1; omega
end Bp

namespace Bp
open PySem L2
set_option maxHeartbeats 4000000
structure Ent where
  s : Int
  w : Int
  a : Int
  b : Int
def Ent.d (e : Ent) : PyData := .tuple [pairD2 (e.s, e.w), .int e.a, .int e.b]
structure EntsOk (l : List Spn) (works : Int) (es : List Ent) : Prop where
  ok : ∀ e ∈ es, EntOk l.length (e.s, e.w) ∧ (0 ≤ e.a ∧ e.a < works) ∧ (0 ≤ e.b ∧ e.b < works)
  on : ∀ e ∈ es, ∃ e' ∈ es, e'.a = e.b ∧ e'.b = e.a
  wk : ∀ e ∈ es, Walk l e.a [(e.s, e.w)] e.b
theorem ent_at {K : PySem.W.Frag} {H : Hp} {x : V} {e : Ent} (h : DV K H x e.d) : ∃ a q, x = .ref a ∧ H a = some (.tup [.ref q, .int e.a, .int e.b]) ∧ H q = some (.tup [.int e.s, .int e.w]) := by
  cases h with
  | tup h r =>
    cases r with
    | cons p r =>
      cases r with
      | cons y r =>
        cases r with
        | cons z r =>
          cases r
          cases y
          cases z
          obtain ⟨q, rfl, hq⟩ := pair_at p
          exact ⟨_, q, rfl, h, hq⟩
theorem noLs_ents (l : List Ent) : noLs (l.map Ent.d) = true := noLs_all.mpr fun d hd => by obtain ⟨x, _, rfl⟩ := List.mem_map.mp hd; rfl
theorem at_ent {K : PySem.W.Frag} {H : Hp} {a q : Addr} {e : Ent} (h : H a = some (.tup [.ref q, .int e.a, .int e.b])) (hq : H q = some (.tup [.int e.s, .int e.w])) : DV K H (.ref a) e.d := .tup h (.cons (at_pair hq) (.cons (.int _) (.cons (.int _) .nil)))
theorem ents_item {K : PySem.W.Frag} {H : Hp} {xs : List V} {l : List Ent} {i : Nat} {x : V} (h : DVs K H xs (l.map Ent.d)) (hx : xs[i]? = some x) : ∃ (hi : i < l.length) (a q : Addr), x = .ref a ∧ H a = some (.tup [.ref q, .int (l[i]).a, .int (l[i]).b]) ∧ H q = some (.tup [.int (l[i]).s, .int (l[i]).w]) := by
  have hl : xs.length = l.length := by rw [h.length, List.length_map]
  have hi : i < l.length := by rw [← hl]; exact (List.getElem?_eq_some_iff.mp hx).1
  obtain ⟨d, hd, dx⟩ := h.get hx
  rw [List.getElem?_map, List.getElem?_eq_getElem hi] at hd
  cases hd
  obtain ⟨a, q, rfl, e, d⟩ := ent_at dx
  exact ⟨hi, a, q, rfl, e, d⟩
def lackN (works : Int) (kvs : List (Key × V)) : Nat := ((List.range works.toNat).filter fun z : Nat => (valV kvs (.inl (z : Int) : Key)).isNone).length
theorem lackN_le (works : Int) (kvs : List (Key × V)) : lackN works kvs ≤ works.toNat := by
  have := List.length_filter_le (fun z : Nat => (valV kvs (.inl (z : Int) : Key)).isNone) (List.range works.toNat)
  rw [List.length_range] at this
  exact this
theorem filter_lt {p q : Nat → Bool} : ∀ (l : List Nat) (x : Nat), x ∈ l → p x = true → q x = false → (∀ y, q y = true → p y = true) → (l.filter q).length < (l.filter p).length
  | [], _, h, _, _, _ => by cases h
  | y :: l, x, h, hp, hq, hs => by
    have mono : (l.filter q).length ≤ (l.filter p).length := by
      clear h hp hq
      induction l with
      | nil => exact Nat.le_refl _
      | cons z l ih =>
        rw [List.filter_cons, List.filter_cons]
        cases hz : q z with
        | true => rw [hs z hz]; simp; exact ih
        | false => cases p z <;> simp <;> omega
    rcases List.mem_cons.mp h with rfl | h
    · rw [List.filter_cons, List.filter_cons, hp, hq]
      simp
      omega
    · have ih := filter_lt l x h hp hq hs
      rw [List.filter_cons, List.filter_cons]
      cases hy : q y with
      | true => rw [hs y hy]; simp; exact ih
      | false => cases p y <;> simp <;> omega
theorem lackN_put {works : Int} {kvs : List (Key × V)} {z : Int} {v : V} (h0 : 0 ≤ z) (h1 : z < works) (h : valV kvs (.inl z : Key) = none) : lackN works (putK kvs (.inl z : Key) v) < lackN works kvs := by
  refine filter_lt _ z.toNat (List.mem_range.mpr (by omega)) ?_ ?_ ?_
  · rw [show ((z.toNat : Nat) : Int) = z by omega, h]; rfl
  · rw [show ((z.toNat : Nat) : Int) = z by omega, valV_put, if_pos rfl]; rfl
  · intro y hy
    rw [valV_put] at hy
    split at hy
    · cases hy
    · exact hy
structure PathsAt (K : PySem.W.Frag) (H : Hp) (kvs : List (Key × V)) (works : Int) (l : List Spn) (ρ : Int → Int) : Prop where
  keys : ∀ kv ∈ kvs, ∃ z : Int, kv.1 = .inl z ∧ 0 ≤ z ∧ z < works
  len : kvs.length + lackN works kvs ≤ 8
  vals : ∀ (z : Int) (v : V), valV kvs (.inl z : Key) = some v → ∃ (r : List (Int × Int)), DV K H v (.tuple [.int (ρ z), pairsD r]) ∧ r.length + lackN works kvs ≤ 8 ∧ (∀ e ∈ r, EntOk l.length e) ∧ Walk l (ρ z) r z
def sp_steps (K : PySem.W.Frag) : Sp := fun vs H Q _ => ∃ (x : V) (st : Addr) (Pl : Pln) (works : Int), vs = [x, .ref st] ∧ DV K H x Pl.d ∧ H st = some (.tup []) ∧ Pl.spans.length ≤ 24 ∧ (∀ s ∈ Pl.spans, s.In works) ∧
  ∀ (q : Addr) (xs : List V) (es : List Ent) (H' : Hp), Same H H' → H' q = some (.lst xs) → DVs K H' xs (es.map Ent.d) → EntsOk Pl.spans works es → es.length = 2 * Pl.spans.length → Q (.ref q) H'
def sp_ways (K : PySem.W.Frag) : Sp := fun vs H Q _ => ∃ (x : V) (st ea : Addr) (Pl : Pln) (works : Int) (xs : List V) (es : List Ent) (l : List Spn), vs = [x, .ref st, .ref ea] ∧ DV K H x Pl.d ∧ H st = some (.tup []) ∧ (Pl.names.length : Int) = works ∧ works ≤ 8 ∧ H ea = some (.lst xs) ∧ DVs K H xs (es.map Ent.d) ∧ EntsOk l works es ∧ es.length ≤ 1000 ∧
  ∀ (p : Addr) (kvs : List (Key × V)) (ρ : Int → Int) (H' : Hp), Same H H' → H' p = some (.dK kvs) → (∀ z : Int, 0 ≤ z → z < works → ∃ (v : V) (r : List (Int × Int)), valV kvs (.inl z : Key) = some v ∧ DV K H' v (.tuple [.int (ρ z), pairsD r]) ∧ r.length ≤ 8 ∧ (∀ e ∈ r, EntOk l.length e) ∧ Walk l (ρ z) r z) → (∀ e ∈ es, ρ e.b = ρ e.a) → Q (.ref p) H'
def sp_back (K : PySem.W.Frag) : Sp := fun vs H Q _ => ∃ (x : V) (r : List (Int × Int)) (n : Nat), vs = [x] ∧ DV K H x (pairsD r) ∧ r.length ≤ 100 ∧ (∀ e ∈ r, EntOk n e) ∧
  ∀ (q : Addr) (H' : Hp), Same H H' → DV K H' (.ref q) (pairsD (backR r)) → (backR r).length = r.length → (∀ e ∈ backR r, EntOk n e) → Q (.ref q) H'
def sp_a_cut : Sp := fun vs H Q _ => ∃ (f c : Addr) (lo hi n : Int), vs = [.ref f, .int lo, .int hi] ∧ lo < hi ∧ hi - lo ≤ 100000 ∧ FeedB H f c n ∧ n ≤ 1000000000 ∧ ∀ (r : Int) (H' : Hp), lo ≤ r → r < hi → FeedB H' f c (n + 1) → Sm f H H' → Q (.int r) H'
theorem noL_way (root : Int) (r : List (Int × Int)) : noL (.tuple [.int root, pairsD r]) = true := by simp [noL, noLs, noL_pairs]
theorem way_at {K : PySem.W.Frag} {H : Hp} {x : V} {root : Int} {r : List (Int × Int)} (h : DV K H x (.tuple [.int root, pairsD r])) : ∃ a b xs, x = .ref a ∧ H a = some (.tup [.int root, .ref b]) ∧ H b = some (.tup xs) ∧ DVs K H xs (r.map pairD2) := by
  cases h with
  | tup h q =>
    cases q with
    | cons y q =>
      cases q with
      | cons z q =>
        cases q
        cases y
        obtain ⟨b, xs, rfl, hb, d⟩ := pairs_at z
        exact ⟨_, b, xs, rfl, h, hb, d⟩
theorem PathsAt.put {K : PySem.W.Frag} {H : Hp} {kvs : List (Key × V)} {works : Int} {l : List Spn} {ρ : Int → Int} (h : PathsAt K H kvs works l ρ) {H' : Hp} (tk : TK H H') {z : Int} {v : V} (h0 : 0 ≤ z) (h1 : z < works) (hn : valV kvs (.inl z : Key) = none) {root : Int} {r : List (Int × Int)}
    (dv : DV K H' v (.tuple [.int root, pairsD r])) (hr : r.length + lackN works kvs ≤ 9) (he : ∀ e ∈ r, EntOk l.length e) (hw : Walk l root r z) : PathsAt K H' (putK kvs (.inl z : Key) v) works l (fun y => if y = z then root else ρ y) := by
  have hl := lackN_put (v := v) h0 h1 hn
  refine ⟨?_, ?_, ?_⟩
  · rw [putK_new v hn]
    intro kv hkv
    rcases List.mem_append.mp hkv with y | y
    · exact h.keys kv y
    · rw [List.mem_singleton.mp y]; exact ⟨z, rfl, h0, h1⟩
  · have := h.len
    have e : (putK kvs (.inl z : Key) v).length = kvs.length + 1 := by rw [putK_new v hn, List.length_append]; rfl
    omega
  · intro y u hy
    rw [valV_put] at hy
    split at hy
    · rename_i hk
      have hyz : y = z := by injection hk
      cases hy
      rw [hyz]
      refine ⟨r, ?_, by omega, he, ?_⟩
      · rw [if_pos rfl]; exact dv
      · rw [if_pos rfl]; exact hw
    · rename_i hk
      have hyz : ¬ y = z := fun e => hk (by rw [e])
      obtain ⟨r', d', l', e', w'⟩ := h.vals y u hy
      refine ⟨r', ?_, by omega, e', ?_⟩
      · rw [if_neg hyz]; exact d'.tk tk (noL_way _ _)
      · rw [if_neg hyz]; exact w'
theorem len_put {kvs : List (Key × V)} {z : Int} {v : V} (hn : valV kvs (.inl z : Key) = none) : (putK kvs (.inl z : Key) v).length = kvs.length + 1 := by rw [putK_new v hn, List.length_append]; rfl
end Bp

namespace Bp
open PySem L2
set_option maxHeartbeats 4000000
theorem cat_pairs {K : PySem.W.Frag} {H : Hp} {x y : V} {r1 r2 : List (Int × Int)} {Q : VK} (hx : DV K H x (pairsD r1)) (hy : DV K H y (pairsD r2)) (hl : r1.length + r2.length ≤ 1000)
    (k : ∀ (q : Addr) (H' : Hp), Same H H' → DV K H' (.ref q) (pairsD (r1 ++ r2)) → Q (.ref q) H') : rCatG K x y H Q := by
  obtain ⟨a, xs, rfl, ha, dx⟩ := pairs_at hx
  obtain ⟨b, ys, rfl, hb, dy⟩ := pairs_at hy
  have h1 : xs.length = r1.length := by rw [dx.length, List.length_map]
  have h2 : ys.length = r2.length := by rw [dy.length, List.length_map]
  refine ⟨a, b, xs, ys, rfl, rfl, SqT.of ha, SqT.of hb, by rw [h1, h2]; exact Nat.le_trans hl (by decide), ?_, ?_, ?_⟩
  · intro h
    have : r1 = [] := List.length_eq_zero_iff.mp (by rw [← h1, h]; rfl)
    refine k b H (fun _ _ h => h) ?_
    rw [this]
    exact hy
  · intro _ h
    have : r2 = [] := List.length_eq_zero_iff.mp (by rw [← h2, h]; rfl)
    refine k a H (fun _ _ h => h) ?_
    rw [this, List.append_nil]
    exact hx
  · intro _ _ p hp
    refine k p _ (Same.new hp) (.tup upd_same ?_)
    rw [List.map_append]
    exact (dx.same (Same.new hp)).append (dy.same (Same.new hp))
def sp_walk (K : PySem.W.Frag) : Sp := fun vs H Q _ => ∃ (f c : Addr) (x : V) (Pl : Pln) (works n : Int), vs = [.ref f, x] ∧ DV K H x Pl.d ∧ Pl.Ok works 24 ∧ works ≤ 8 ∧ 0 < Pl.spans.length ∧ FeedB H f c n ∧ n ≤ 1000000000 ∧
  ∀ (q : Addr) (r : List (Int × Int)) (H' : Hp), FeedB H' f c (n + 10) → Sm f H H' → DV K H' (.ref q) (pairsD r) → r.length ≤ 100 → (∀ e ∈ r, EntOk Pl.spans.length e) → (∃ a, Walk Pl.spans a r a) → Q (.ref q) H'
def sp_some_prices (K : PySem.W.Frag) : Sp := fun vs H Q _ => ∃ (f c : Addr) (x : V) (Pl : Pln) (works n : Int), vs = [.ref f, x] ∧ DV K H x Pl.d ∧ Pl.Ok works 24 ∧ works ≤ 8 ∧ FeedB H f c n ∧ n ≤ 1000000 ∧
  ∀ (q : Addr) (ps : List (Int × List (Int × Int))) (H' : Hp), FeedB H' f c (n + 1000) → Sm f H H' → DV K H' (.ref q) (pricesD ps) → PricesOk Pl.spans.length ps → (∀ p ∈ ps, ∃ a, Walk Pl.spans a p.2 a) → Q (.ref q) H'
theorem winsZ_len (per : Int) (l : List Spn) : (winsZ per l).length = l.length := List.length_map ..
theorem end_rng {s : Spn} {works per : Int} (h : s.Ok works) (hp : 0 < per) (hp2 : per ≤ 600) : -200000 ≤ endZ per s ∧ endZ per s ≤ 200000 ∧ endZ per s - s.low ≤ 600 := by
  have := h.l0; have := h.l1; have := h.h0; have := h.h1
  unfold endZ topZ
  split <;> split <;> omega
end Bp

namespace Bp
open PySem L2
set_option maxHeartbeats 4000000
end Bp

namespace Bp
open PySem L2
set_option maxHeartbeats 4000000
def rowsD (l : List (List Int)) : List PyData := l.map fun b => .tuple (b.map PyData.int)
theorem noLs_rows (l : List (List Int)) : noLs (rowsD l) = true := noLs_all.mpr fun d hd => by
  obtain ⟨x, _, rfl⟩ := List.mem_map.mp hd
  exact noLs_ints x
def sp_shape : Sp := fun vs H Q _ => ∃ (f c : Addr) (n : Int), vs = [.ref f] ∧ FeedB H f c n ∧ n ≤ 1000000000 ∧
  ∀ (q : Addr) (works cyc : Int) (H' : Hp), FeedB H' f c (n + 10) → Sm f H H' → H' q = some (.tup [.int works, .int cyc]) → 1 ≤ works → works ≤ 8 → 1 ≤ cyc → cyc ≤ 300 → cyc.toNat ^ works.toNat ≤ 100000 → Q (.ref q) H'
def sp_firsts (K : PySem.W.Frag) : Sp := fun vs H Q _ => ∃ (x : V) (Pl : Pln), vs = [x] ∧ DV K H x Pl.d ∧ Pl.names.length ≤ 1000 ∧ Pl.spans.length ≤ 1000 ∧ (∀ s ∈ Pl.spans, s.In Pl.names.length) ∧
  ∀ (q : Addr) (ms : List Int) (H' : Hp), Same H H' → H' q = some (.lst (ms.map V.int)) → ms.length = Pl.names.length → Q (.ref q) H'
def sp_every (K : PySem.W.Frag) : Sp := fun vs H Q _ => ∃ (x : V) (per : Int) (Pl : Pln), vs = [x, .int per] ∧ DV K H x Pl.d ∧ Pl.names.length ≤ 1000 ∧ Pl.spans.length ≤ 1000 ∧ (∀ s ∈ Pl.spans, s.In Pl.names.length) ∧ 1 ≤ per ∧ per ≤ 1000 ∧ per.toNat ^ Pl.names.length ≤ 100000 ∧
  ∀ (q : Addr) (ys : List V) (rows : List (List Int)) (H' : Hp), Same H H' → H' q = some (.lst ys) → DVs K H' ys (rowsD rows) → rows.length ≤ 100000 → (∀ b ∈ rows, b.length = Pl.names.length) → Q (.ref q) H'
def sp_with (K : PySem.W.Frag) : Sp := fun vs H Q _ => ∃ (x : V) (s lo hi : Int) (ws : List (Int × Int)), vs = [x, .int s, .int lo, .int hi] ∧ DV K H x (pairsD ws) ∧ 0 ≤ s ∧ s < ws.length ∧ ws.length ≤ 100 ∧
  ∀ (q : Addr) (H' : Hp), Same H H' → DV K H' (.ref q) (pairsD (ws.set s.toNat (lo, hi))) → Q (.ref q) H'
def sp_narrower (K : PySem.W.Frag) : Sp := fun vs H Q _ => ∃ (f c : Addr) (x : V) (ws : List (Int × Int)) (n : Int), vs = [.ref f, x] ∧ DV K H x (pairsD ws) ∧ ws.length ≤ 24 ∧ (∀ p ∈ ws, p.2 - p.1 ≤ 100000) ∧ FeedB H f c n ∧ n ≤ 1000000 ∧
  ∀ (y : V) (ws' : List (Int × Int)) (H' : Hp), FeedB H' f c (n + 500) → Sm f H H' → DV K H' y (pairsD ws') → ws'.length = ws.length → (∀ p ∈ ws', p.2 - p.1 ≤ 100000) → Q y H'
def sp_lie (K : PySem.W.Frag) : Sp := fun vs H Q _ => ∃ (x y : V) (b : Addr) (per : Int) (Pl : Pln) (ws : List (Int × Int)) (bs : List Int), vs = [x, .int per, y, .ref b] ∧ DV K H x Pl.d ∧ DV K H y (pairsD ws) ∧ ws.length = Pl.spans.length ∧ ws.length ≤ 1000 ∧ H b = some (.tup (bs.map V.int)) ∧ (∀ s ∈ Pl.spans, s.In bs.length) ∧ 0 < per ∧ per ≤ 10000 ∧
  ∀ t : Bool, (t = true → Lie per bs Pl.spans ws) → Q (.bl t) H
theorem cat_row {K : PySem.W.Frag} {H : Hp} {a b : Addr} {r1 r2 : List Int} {Q : VK} (ha : H a = some (.tup (r1.map V.int))) (hb : H b = some (.tup (r2.map V.int))) (hl : r1.length + r2.length ≤ 10000)
    (k : ∀ (q : Addr) (H' : Hp), Same H H' → H' q = some (.tup ((r1 ++ r2).map V.int)) → Q (.ref q) H') : rCatG K (.ref a) (.ref b) H Q := by
  refine ⟨a, b, _, _, rfl, rfl, SqT.of ha, SqT.of hb, by rw [List.length_map, List.length_map]; exact Nat.le_trans hl (by decide), ?_, ?_, ?_⟩
  · intro h
    have : r1 = [] := List.map_eq_nil_iff.mp h
    refine k b H (fun _ _ h => h) ?_
    rw [this]
    exact hb
  · intro _ h
    have : r2 = [] := List.map_eq_nil_iff.mp h
    refine k a H (fun _ _ h => h) ?_
    rw [this, List.append_nil]
    exact ha
  · intro _ _ p hp
    refine k p _ (Same.new hp) ?_
    rw [upd_same, List.map_append]
theorem rows_item {K : PySem.W.Frag} {H : Hp} {ys : List V} {rows : List (List Int)} {i : Nat} {x : V} (h : DVs K H ys (rowsD rows)) (hx : ys[i]? = some x) : ∃ (hi : i < rows.length) (b : Addr), x = .ref b ∧ H b = some (.tup ((rows[i]).map V.int)) := by
  have hl : ys.length = rows.length := by rw [h.length, rowsD, List.length_map]
  have hi : i < rows.length := by rw [← hl]; exact (List.getElem?_eq_some_iff.mp hx).1
  obtain ⟨d, hd, dx⟩ := h.get hx
  rw [rowsD, List.getElem?_map, List.getElem?_eq_getElem hi] at hd
  cases hd
  cases hxx : x with
  | ref b =>
    rw [hxx] at dx
    cases dx with
    | tup h r => rw [ints_dvs r] at h; exact ⟨hi, b, rfl, h⟩
  | _ => rw [hxx] at dx; cases dx
end Bp

namespace Bp
open PySem L2
set_option maxHeartbeats 4000000
def top (i : Nat) : Stmt := PySem.Challenge.pw_beatplans_k33_whole_shown_is_never_more.main.body.getD i (.Pass ⟨0, 0, 0, 0⟩)
abbrev s_length_of : Stmt := top 1
abbrev s_lengths_of : Stmt := top 2
abbrev s_entry_sums : Stmt := top 4
abbrev s_sums_of : Stmt := top 5
abbrev s_waits_of : Stmt := top 7
abbrev s_left_of : Stmt := top 8
abbrev s_shown_by_span : Stmt := top 9
abbrev s_shown_by_ring : Stmt := top 10
abbrev s_shown_by : Stmt := top 11
abbrev s_law_fed : Stmt := top 13
abbrev s_law_draw : Stmt := top 14
abbrev s_law_fit : Stmt := top 15
abbrev s_law_any_span : Stmt := top 16
abbrev s_law_a_plan : Stmt := top 17
abbrev s_law_shape : Stmt := top 18
abbrev s_law_window : Stmt := top 19
abbrev s_law_all_windows : Stmt := top 20
abbrev s_law_length : Stmt := top 21
abbrev s_law_firsts : Stmt := top 22
abbrev s_law_every : Stmt := top 23
abbrev s_law_some_weights : Stmt := top 24
abbrev s_law_steps : Stmt := top 25
abbrev s_law_ways : Stmt := top 26
abbrev s_law_back : Stmt := top 27
abbrev s_law_a_cut : Stmt := top 28
abbrev s_law_with : Stmt := top 29
abbrev s_law_walk : Stmt := top 30
abbrev s_law_some_prices : Stmt := top 31
abbrev s_law_narrower : Stmt := top 32
abbrev s_law_lie : Stmt := top 33
abbrev s_law : Stmt := top 34
section
variable {P : Program} {w : World} {K : PySem.W.Frag} {mg : Str → Option Value} {base : Heap}
theorem sc_law_draw : FnScope ["_law_feed", "_law_many", "_law_cells", "_law_at", "_law_cell", "_law_mixed", "_law_digit"] ["_law_feed", "_law_many"] (defScope s_law_draw) := ⟨rfl, rfl, rfl, by decide +kernel, rfl, by decide +kernel, by decide +kernel⟩
theorem ok_law_draw {f : Addr} {fd : FuncData} (F : Fun K "_law_draw" "_law_draw" s_law_draw f fd) (T : Txt mg) : FnOk P w K mg base CX0 1 f fd ["_law_feed", "_law_many"] sp_drawB := by
  refine F.ok sc_law_draw (fun vs H Q E h => ?_) (fun cdv A outer s H vs Q E hr h => ?_)
  · obtain ⟨f, c, m, n, rfl, _⟩ := h
    rfl
  · obtain ⟨f, c, m, n, rfl, hm, hm2, hF, hn, k⟩ := h
    have hu := hu_of hr
    obtain ⟨ns, a, l, t, e1, e2, n1, n2⟩ := hF.ex
    have hcf := hF.ne
    have hn' : t ≤ 1000000000000 := Int.le_trans n2 hn
    have fin : ∀ (x a l : Int), Q (.int (x % m)) (upd H f (.dK (fd0 c a l (t + 1)))) := fun x a l =>
      k _ _ (Int.emod_nonneg _ (by omega)) (Int.emod_lt_of_pos _ hm) ⟨ns, _, _, _, upd_same, by rw [upd_ne hcf]; exact e2, by omega, by omega⟩ Sm.self
    refine ⟨_, (@pss_cons _ _ _ _ _ (@ps_dput _ _ _ _ _ _ _ _ _ hu (@pv _ 0 _ _ rfl (Or.inl rfl) (by decide) (by decide)) (@pe_str _ _ _ _) (@pe_op _ _ _ _ _ _ _ _ op_add (@pe_dget _ _ _ _ _ _ hu (@pv _ 0 _ _ rfl (Or.inl rfl) (by decide) (by decide)) (@pe_str _ _ _ _) (fun _ _ => rfl)) (@pe_int _ _ _ _)) rfl) (@pss_cons _ _ _ _ _ (@ps_if _ _ _ _ _ _ _ _ (@pt_cmpR _ _ _ _ _ _ _ _ op_gt (@pe_dget _ _ _ _ _ _ hu (@pv _ 0 _ _ rfl (Or.inl rfl) (by decide) (by decide)) (@pe_str _ _ _ _) (fun _ _ => rfl)) (@pe_int _ _ _ _) (nomark _)) (@pss_cons _ _ _ _ _ (@ps_set _ _ 6 _ _ _ _ sc_law_draw.nd rfl (Or.inl rfl) (@pe_op _ _ _ _ _ _ _ _ op_mod (@pe_dget _ _ _ _ _ _ hu (@pv _ 0 _ _ rfl (Or.inl rfl) (by decide) (by decide)) (@pe_str _ _ _ _) (fun _ _ => rfl)) (@pv _ 1 _ _ rfl (Or.inl rfl) (by decide) (by decide))) (by rfl) (by first | exact Or.inl rfl | exact Or.inr rfl | assumption)) (@pss_cons _ _ _ _ _ (@ps_dput _ _ _ _ _ _ _ _ _ hu (@pv _ 0 _ _ rfl (Or.inl rfl) (by decide) (by decide)) (@pe_str _ _ _ _) (@pe_op _ _ _ _ _ _ _ _ op_fdiv (@pe_dget _ _ _ _ _ _ hu (@pv _ 0 _ _ rfl (Or.inl rfl) (by decide) (by decide)) (@pe_str _ _ _ _) (fun _ _ => rfl)) (@pv _ 1 _ _ rfl (Or.inl rfl) (by decide) (by decide))) rfl) (@pss_one _ _ _ (@ps_ret _ _ _ _ (@pv _ 6 _ _ rfl (Or.inl rfl) (by decide) (by decide)))))) (@pss_nil _)) (@pss_cons _ _ _ _ _ (@ps_set _ _ 2 _ _ _ _ sc_law_draw.nd rfl (Or.inl rfl) (@pe_dget _ _ _ _ _ _ hu (@pv _ 0 _ _ rfl (Or.inl rfl) (by decide) (by decide)) (@pe_str _ _ _ _) (fun _ _ => rfl)) (by rfl) (by first | exact Or.inl rfl | exact Or.inr rfl | assumption)) (@pss_cons _ _ _ _ _ (@ps_set _ _ 3 _ _ _ _ sc_law_draw.nd rfl (Or.inl rfl) (@pe_dget _ _ _ _ _ _ hu (@pv _ 0 _ _ rfl (Or.inl rfl) (by decide) (by decide)) (@pe_str _ _ _ _) (fun _ _ => rfl)) (by rfl) (by first | exact Or.inl rfl | exact Or.inr rfl | assumption)) (@pss_cons _ _ _ _ _ (@ps_dput _ _ _ _ _ _ _ _ _ hu (@pv _ 0 _ _ rfl (Or.inl rfl) (by decide) (by decide)) (@pe_str _ _ _ _) (@pe_op _ _ _ _ _ _ _ _ op_add (@pv _ 3 _ _ rfl (Or.inl rfl) (by decide) (by decide)) (@pe_int _ _ _ _)) rfl) (@pss_cons _ _ _ _ _ (@ps_set _ _ 4 _ _ _ _ sc_law_draw.nd rfl (Or.inl rfl) (@pe_ifExp _ _ _ _ _ _ _ _ (@pt_cmpR _ _ _ _ _ _ _ _ (op_ne_nil hr) (@pv _ 2 _ _ rfl (Or.inl rfl) (by decide) (by decide)) (@pe_lst _ _ _ _ (@pa_nil _)) (nomark _)) (@pe_ix _ _ _ _ _ _ _ ix_list (@pv _ 2 _ _ rfl (Or.inl rfl) (by decide) (by decide)) (@pe_op _ _ _ _ _ _ _ _ op_mod (@pv _ 3 _ _ rfl (Or.inl rfl) (by decide) (by decide)) (@pe_callB _ _ _ _ _ _ _ _ _ call_len_seq rfl T.n_len PySem.boot_len (@pa_name _ _ _ _ _ _ (@pv _ 2 _ _ rfl (Or.inl rfl) (by decide) (by decide)) (@pa_nil _)) (by decide) (by decide) (by rfl) (by rfl))) (fun _ _ => rfl)) (@pe_int _ _ _ _)) (by rfl) (by first | exact Or.inl rfl | exact Or.inr rfl | assumption)) (@pss_cons _ _ _ _ _ (@ps_if _ _ _ _ _ _ _ _ (@PW.pt _ _ _ (@pw_and _ _ _ _ _ _ _ (@pt_cmpR _ _ _ _ _ _ _ _ op_ge (@pv _ 4 _ _ rfl (Or.inl rfl) (by decide) (by decide)) (@pe_op _ _ _ _ _ _ _ _ op_pow (@pe_int _ _ _ _) (@pe_int _ _ _ _)) (nomark _)) (@pw_and1 _ _ _ _ (@pt_cmpR _ _ _ _ _ _ _ _ op_lt (@pv _ 3 _ _ rfl (Or.inl rfl) (by decide) (by decide)) (@pe_callB _ _ _ _ _ _ _ _ _ call_len_seq rfl T.n_len PySem.boot_len (@pa_name _ _ _ _ _ _ (@pv _ 2 _ _ rfl (Or.inl rfl) (by decide) (by decide)) (@pa_nil _)) (by decide) (by decide) (by rfl) (by rfl)) (nomark _))))) (@pss_cons _ _ _ _ _ (@ps_dput _ _ _ _ _ _ _ _ _ hu (@pv _ 0 _ _ rfl (Or.inl rfl) (by decide) (by decide)) (@pe_str _ _ _ _) (@pe_op _ _ _ _ _ _ _ _ op_fdiv (@pv _ 4 _ _ rfl (Or.inl rfl) (by decide) (by decide)) (@pv _ 1 _ _ rfl (Or.inl rfl) (by decide) (by decide))) rfl) (@pss_one _ _ _ (@ps_ret _ _ _ _ (@pe_op _ _ _ _ _ _ _ _ op_mod (@pv _ 4 _ _ rfl (Or.inl rfl) (by decide) (by decide)) (@pv _ 1 _ _ rfl (Or.inl rfl) (by decide) (by decide)))))) (@pss_nil _)) (@pss_cons _ _ _ _ _ (@ps_set _ _ 5 _ _ _ _ sc_law_draw.nd rfl (Or.inl rfl) (@pe_op _ _ _ _ _ _ _ _ op_mod (@pe_op _ _ _ _ _ _ _ _ op_add (@pe_op _ _ _ _ _ _ _ _ op_add (@pe_op _ _ _ _ _ _ _ _ op_mul (@pe_op _ _ _ _ _ _ _ _ op_mod (@pv _ 4 _ _ rfl (Or.inl rfl) (by decide) (by decide)) (@pe_int _ _ _ _)) (@pe_int _ _ _ _)) (@pe_op _ _ _ _ _ _ _ _ op_mul (@pe_int _ _ _ _) (@pe_dget _ _ _ _ _ _ hu (@pv _ 0 _ _ rfl (Or.inl rfl) (by decide) (by decide)) (@pe_str _ _ _ _) (fun _ _ => rfl)))) (@pe_int _ _ _ _)) (@pe_int _ _ _ _)) (by rfl) (by first | exact Or.inl rfl | exact Or.inr rfl | assumption)) (@pss_cons _ _ _ _ _ (@ps_set _ _ 5 _ _ _ _ sc_law_draw.nd rfl (Or.inl rfl) (@pe_op _ _ _ _ _ _ _ _ op_mod (@pe_op _ _ _ _ _ _ _ _ op_add (@pe_op _ _ _ _ _ _ _ _ op_add (@pe_op _ _ _ _ _ _ _ _ op_mul (@pe_op _ _ _ _ _ _ _ _ op_fdiv (@pv _ 5 _ _ rfl (Or.inl rfl) (by decide) (by decide)) (@pe_int _ _ _ _)) (@pe_int _ _ _ _)) (@pe_op _ _ _ _ _ _ _ _ op_mul (@pe_op _ _ _ _ _ _ _ _ op_mul (@pe_int _ _ _ _) (@pe_dget _ _ _ _ _ _ hu (@pv _ 0 _ _ rfl (Or.inl rfl) (by decide) (by decide)) (@pe_str _ _ _ _) (fun _ _ => rfl))) (@pe_dget _ _ _ _ _ _ hu (@pv _ 0 _ _ rfl (Or.inl rfl) (by decide) (by decide)) (@pe_str _ _ _ _) (fun _ _ => rfl)))) (@pe_int _ _ _ _)) (@pe_int _ _ _ _)) (by rfl) (by first | exact Or.inl rfl | exact Or.inr rfl | assumption)) (@pss_one _ _ _ (@ps_ret _ _ _ _ (@pe_op _ _ _ _ _ _ _ _ op_mod (@pe_op _ _ _ _ _ _ _ _ op_fdiv (@pv _ 5 _ _ rfl (Or.inl rfl) (by decide) (by decide)) (@pe_int _ _ _ _)) (@pv _ 1 _ _ rfl (Or.inl rfl) (by decide) (by decide)))))))))))))), ?_⟩
    refine ⟨_, rfl, f, _, rfl, dg e1 kturn, _, _, rfl, rfl, _, rfl, f, _, rfl, dp e1 (pturn _) fd0_len, ?_⟩
    refine ⟨_, rfl, f, _, rfl, dg upd_same kleft, _, _, rfl, rfl, _, rfl, ?_⟩
    refine ite2 (fun _ => ?_) (fun _ => ?_)
    · refine ⟨_, rfl, f, _, rfl, dg upd_same kleft, _, rfl, _, _, rfl, rfl, hm, ?_⟩
      refine ⟨_, rfl, f, _, rfl, dg upd_same kleft, _, rfl, _, _, rfl, rfl, ⟨hm, by omega⟩, _, rfl, f, _, rfl, dp upd_same (pleft _) fd0_len, ?_⟩
      rw [upd_upd]
      refine ⟨_, rfl, ?_⟩
      exact fin _ _ _
    have e2' : (upd H f (.dK (fd0 c a l (t + 1)))) c = some (.lst (ns.map V.int)) := by rw [upd_ne hcf]; exact e2
    refine ⟨_, rfl, f, _, rfl, dg upd_same kcells, ?_⟩
    refine ⟨_, rfl, f, _, rfl, dg upd_same kat, ?_⟩
    refine ⟨_, rfl, _, _, rfl, rfl, _, rfl, f, _, rfl, dp upd_same (pat _) fd0_len, ?_⟩
    rw [upd_upd]
    have e3 : (upd H f (.dK (fd0 c (a + 1) l (t + 1)))) c = some (.lst (ns.map V.int)) := by rw [upd_ne hcf]; exact e2
    refine ⟨_, rfl, by show 0 ≤ sizeLine; decide, fun z hz => ?_⟩
    have e4 : (upd (upd H f (.dK (fd0 c (a + 1) l (t + 1)))) z (.lst [])) c = some (.lst (ns.map V.int)) := Same.new hz _ _ e3
    have e5 : (upd (upd H f (.dK (fd0 c (a + 1) l (t + 1)))) z (.lst [])) f = some (.dK (fd0 c (a + 1) l (t + 1))) := Same.new hz _ _ upd_same
    have e6 : (upd (upd H f (.dK (fd0 c (a + 1) l (t + 1)))) z (.lst [])) z = some (.lst []) := upd_same
    have sm : Sm f H (upd (upd H f (.dK (fd0 c (a + 1) l (t + 1)))) z (.lst [])) := Sm.self.trans (Sm.new hz)
    revert e4 e5 e6 sm
    generalize upd (upd H f (.dK (fd0 c (a + 1) l (t + 1)))) z (.lst []) = HB
    intro e4 e5 e6 sm
    have fin : ∀ (x a l : Int), Q (.int (x % m)) (upd HB f (.dK (fd0 c a l (t + 1)))) := fun x a l =>
      k _ _ (Int.emod_nonneg _ (by omega)) (Int.emod_lt_of_pos _ hm) ⟨ns, _, _, _, upd_same, by rw [upd_ne hcf]; exact e4, by omega, by omega⟩ (sm.trans Sm.self)
    have fin2 : ∀ (x : Int), Q (.int (x % m)) HB := fun x => k _ _ (Int.emod_nonneg _ (by omega)) (Int.emod_lt_of_pos _ hm) ⟨ns, _, _, _, e5, e4, by omega, by omega⟩ sm
    have two : CMul (31 * (t + 1)) (t + 1) := .inr ⟨by omega, by omega⟩
    refine ⟨c, z, _, rfl, rfl, SqL.of e4, SqL.of e6, _, rfl, ite2 (fun hne => ?_) (fun _ => ?_)⟩
    have hlen : (0 : Int) < (ns.length : Int) := by
        cases ns with
        | nil => simp at hne
        | cons x r => simp only [List.length_cons]; omega
    obtain ⟨y, hz⟩ : ∃ y, (ns.map V.int)[(a % (ns.length : Int)).toNat]? = some (.int y) := by
      have hi : (a % (ns.length : Int)).toNat < ns.length := by
        have h1 := Int.emod_nonneg a (show (ns.length : Int) ≠ 0 by omega)
        have h2 := Int.emod_lt_of_pos a hlen
        omega
      exact ⟨ns[(a % (ns.length : Int)).toNat], by rw [List.getElem?_map, List.getElem?_eq_getElem hi]; rfl⟩
    have hz' : atI (ns.map V.int) (a % ((ns.map V.int).length : Int)) = some (.int y) := by
      rw [List.length_map]
      have h1 := Int.emod_nonneg a (show (ns.length : Int) ≠ 0 by omega)
      have := atI_nat hz
      rw [Int.toNat_of_nonneg h1] at this
      exact this
    refine ⟨_, rfl, _, rfl, _, rfl, c, _, rfl, .inl (SqL.of e4), _, _, rfl, rfl, (by show (0 : Int) < _; rw [List.length_map]; exact hlen), c, _, _, _, rfl, rfl, SqL.of e4, hz', ?_⟩
    rotate_left
    all_goals
      refine ⟨_, rfl, _, _, rfl, rfl, ⟨by decide, by decide, by decide⟩, _, _, rfl, rfl, _, rfl, ?_⟩
      refine ite2 (fun _ => ?_) (fun _ => ?_)
      · refine ⟨_, rfl, _, rfl, c, _, rfl, .inl (SqL.of e4), _, _, rfl, rfl, _, rfl, ite2 (fun _ => ?_) (fun _ => ?_)⟩
        · refine ⟨_, rfl, _, rfl, _, _, rfl, rfl, ⟨hm, by omega⟩, _, rfl, f, _, rfl, dp e5 (pleft _) fd0_len, ?_⟩
          refine ⟨_, rfl, _, rfl, _, _, rfl, rfl, hm, ?_⟩
          exact fin _ _ _
        · refine ⟨_, rfl, _, _, rfl, rfl, (by show (0 : Int) < 1000003; decide), _, _, rfl, rfl, .inr (by decide), _, rfl, f, _, rfl, dg e5 kturn, _, _, rfl, rfl, .inl (by decide), _, _, rfl, rfl, _, _, rfl, rfl, _, _, rfl, rfl, (by show (0 : Int) < 2147483647; decide), ?_⟩
          refine ⟨_, rfl, _, _, rfl, rfl, (by constructor <;> decide), _, _, rfl, rfl, .inr (by decide), _, rfl, f, _, rfl, dg e5 kturn, _, _, rfl, rfl, .inl (by decide), _, rfl, f, _, rfl, dg e5 kturn, _, _, rfl, rfl, two, _, _, rfl, rfl, _, _, rfl, rfl, _, _, rfl, rfl, (by show (0 : Int) < 2147483587; decide), ?_⟩
          refine ⟨_, rfl, _, _, rfl, rfl, (by constructor <;> decide), _, rfl, _, _, rfl, rfl, hm, ?_⟩
          exact fin2 _
      · refine ⟨_, rfl, _, _, rfl, rfl, (by show (0 : Int) < 1000003; decide), _, _, rfl, rfl, .inr (by decide), _, rfl, f, _, rfl, dg e5 kturn, _, _, rfl, rfl, .inl (by decide), _, _, rfl, rfl, _, _, rfl, rfl, _, _, rfl, rfl, (by show (0 : Int) < 2147483647; decide), ?_⟩
        refine ⟨_, rfl, _, _, rfl, rfl, (by constructor <;> decide), _, _, rfl, rfl, .inr (by decide), _, rfl, f, _, rfl, dg e5 kturn, _, _, rfl, rfl, .inl (by decide), _, rfl, f, _, rfl, dg e5 kturn, _, _, rfl, rfl, two, _, _, rfl, rfl, _, _, rfl, rfl, _, _, rfl, rfl, (by show (0 : Int) < 2147483587; decide), ?_⟩
        refine ⟨_, rfl, _, _, rfl, rfl, (by constructor <;> decide), _, rfl, _, _, rfl, rfl, hm, ?_⟩
        exact fin2 _
end

section
variable {P : Program} {w : World} {K : PySem.W.Frag} {mg : Str → Option Value} {base : Heap}
theorem sc_law_fed : FnScope ["_law_script"] ["_law_script"] (defScope s_law_fed) := ⟨rfl, rfl, rfl, by decide +kernel, rfl, by decide +kernel, by decide +kernel⟩
theorem ok_law_fed {f : Addr} {fd : FuncData} (F : Fun K "_law_fed" "_law_fed" s_law_fed f fd) (T : Txt mg) : FnOk P w K mg base CX0 1 f fd ["_law_script"] (sp_fed K) := by
  refine F.ok sc_law_fed (fun vs H Q E h => ?_) (fun cdv A outer s H vs Q E hr h => ?_)
  · obtain ⟨a, ns, rfl, _⟩ := h
    rfl
  · obtain ⟨a, ns, rfl, hS, hl, k⟩ := h
    refine ⟨_, (@pss_one _ _ _ (@ps_ret _ _ _ _ (@pe_disp _ _ _ _ _ (pps_cons pe_str (@pe_slice _ _ _ _ _ _ _ _ _ _ sl_list (@pv _ 0 _ _ rfl (Or.inl rfl) (by decide) (by decide)) (@po_none _) (@po_some _ _ _ (@pe_int _ _ _ _))) (pps_cons pe_str pe_int (pps_cons pe_str pe_int (pps_cons pe_str pe_int pps_nil)))) rfl rfl (by simp) (by decide)))), ?_⟩
    intro p hp
    have s0 : Same H (upd H p (.dK [])) := Same.new hp
    refine ⟨_, rfl, _, rfl, a, _, rfl, s0.seq hS, fun q hq => ?_⟩
    rw [cut63 hl]
    have hP := Same.new (o := .lst (ns.map V.int)) hq p _ upd_same
    have hqp : q ≠ p := fun e => by rw [e, upd_same] at hq; cases hq
    refine ⟨hP, fd0 q 0 0 0, rfl, by show 4 ≤ 15; decide, ?_⟩
    rw [merge_fd0]
    refine k p q _ ⟨ns, 0, 0, 0, upd_same, ?_, by omega, by omega⟩ fun b o e => ?_
    · rw [upd_ne hqp, upd_same]
    · rw [upd_ne (ne_of_none e hp), (s0.trans (Same.new hq)) b o e]
end

section
variable {P : Program} {w : World} {K : PySem.W.Frag} {mg : Str → Option Value} {base : Heap}
theorem sc_law_fit : FnScope ["_law_feed", "_law_cycle", "_law_beats", "_law_one", "_law_other", "_law_gap", "_law_far", "_law_low"] ["_law_feed", "_law_cycle", "_law_beats", "_law_one", "_law_other"] (defScope s_law_fit) := ⟨rfl, rfl, rfl, by decide +kernel, rfl, by decide +kernel, by decide +kernel⟩
theorem ok_law_fit {f : Addr} {fd : FuncData} (F : Fun K "_law_fit" "_law_fit" s_law_fit f fd) (T : Txt mg) (D_law_draw : Def P w K mg base 1 "_law_draw" ["_law_feed", "_law_many"] sp_drawB) : FnOk P w K mg base CX0 2 f fd ["_law_feed", "_law_cycle", "_law_beats", "_law_one", "_law_other"] sp_fit := by
  refine F.ok sc_law_fit (fun vs H Q E h => ?_) (fun cdv A outer s H vs Q E hr h => ?_)
  · obtain ⟨f, c, b, bs, m, one, other, n, rfl, _⟩ := h
    rfl
  · obtain ⟨f, c, b, bs, m, one, other, n, rfl, hB, hl, o0, o1, r0, r1, hm, hm2, hF, hn, k⟩ := h
    have hN : nMax = 1000000000000 := rfl
    refine ⟨_, (@pss_cons _ _ _ _ _ (@ps_set _ _ 5 _ _ _ _ sc_law_fit.nd rfl (Or.inl rfl) (@pe_op _ _ _ _ _ _ _ _ op_mod (@pe_op _ _ _ _ _ _ _ _ op_sub (@pe_ix _ _ _ _ _ _ _ ix_list (@pv _ 2 _ _ rfl (Or.inl rfl) (by decide) (by decide)) (@pv _ 4 _ _ rfl (Or.inl rfl) (by decide) (by decide)) (fun _ _ => rfl)) (@pe_ix _ _ _ _ _ _ _ ix_list (@pv _ 2 _ _ rfl (Or.inl rfl) (by decide) (by decide)) (@pv _ 3 _ _ rfl (Or.inl rfl) (by decide) (by decide)) (fun _ _ => rfl))) (@pv _ 1 _ _ rfl (Or.inl rfl) (by decide) (by decide))) (by rfl) (by first | exact Or.inl rfl | exact Or.inr rfl | assumption)) (@pss_cons _ _ _ _ _ (@ps_if _ _ _ _ _ _ _ _ (@pt_cmpR _ _ _ _ _ _ _ _ op_eq (@pe_own _ _ _ _ _ _ _ _ _ _ D_law_draw (hr.mono (by decide)) rfl (@pa_name _ _ _ _ _ _ (@pv _ 0 _ _ rfl (Or.inl rfl) (by decide) (by decide)) (@pa_const _ _ _ _ _ _ _ (@pe_int _ _ _ _) (@pa_nil _))) (by decide) (by rfl) (by rfl)) (@pe_int _ _ _ _) (nomark _)) (@pss_one _ _ _ (@ps_ret _ _ _ _ (@pe_tup _ _ _ _ _ (@pa_const _ _ _ _ _ _ _ (@pe_str _ _ _ _) (@pa_name _ _ _ _ _ _ (@pv _ 3 _ _ rfl (Or.inl rfl) (by decide) (by decide)) (@pa_name _ _ _ _ _ _ (@pv _ 4 _ _ rfl (Or.inl rfl) (by decide) (by decide)) (@pa_call _ _ _ _ _ _ _ _ (@pe_own _ _ _ _ _ _ _ _ _ _ D_law_draw (hr.mono (by decide)) rfl (@pa_name _ _ _ _ _ _ (@pv _ 0 _ _ rfl (Or.inl rfl) (by decide) (by decide)) (@pa_bin _ _ _ _ _ _ _ _ (@pe_op _ _ _ _ _ _ _ _ op_add (@pv _ 5 _ _ rfl (Or.inl rfl) (by decide) (by decide)) (@pe_int _ _ _ _)) (@pa_nil _))) (by decide) (by rfl) (by rfl)) (@pa_call _ _ _ _ _ _ _ _ (@pe_own _ _ _ _ _ _ _ _ _ _ D_law_draw (hr.mono (by decide)) rfl (@pa_name _ _ _ _ _ _ (@pv _ 0 _ _ rfl (Or.inl rfl) (by decide) (by decide)) (@pa_bin _ _ _ _ _ _ _ _ (@pe_op _ _ _ _ _ _ _ _ op_add (@pe_op _ _ _ _ _ _ _ _ op_sub (@pv _ 1 _ _ rfl (Or.inl rfl) (by decide) (by decide)) (@pv _ 5 _ _ rfl (Or.inl rfl) (by decide) (by decide))) (@pe_int _ _ _ _)) (@pa_nil _))) (by decide) (by rfl) (by rfl)) (@pa_nil _))))))))) (@pss_nil _)) (@pss_cons _ _ _ _ _ (@ps_set _ _ 6 _ _ _ _ sc_law_fit.nd rfl (Or.inl rfl) (@pe_op _ _ _ _ _ _ _ _ op_add (@pv _ 5 _ _ rfl (Or.inl rfl) (by decide) (by decide)) (@pe_op _ _ _ _ _ _ _ _ op_mul (@pv _ 1 _ _ rfl (Or.inl rfl) (by decide) (by decide)) (@pe_ix _ _ _ _ _ _ _ ix_list (@pe_lst _ _ _ _ (@pa_const _ _ _ _ _ _ _ (@pe_int _ _ _ _) (@pa_const _ _ _ _ _ _ _ (@pe_int _ _ _ _) (@pa_const _ _ _ _ _ _ _ (@pe_int _ _ _ _) (@pa_const _ _ _ _ _ _ _ (@pe_int _ _ _ _) (@pa_const _ _ _ _ _ _ _ (@pe_int _ _ _ _) (@pa_nil _))))))) (@pe_own _ _ _ _ _ _ _ _ _ _ D_law_draw (hr.mono (by decide)) rfl (@pa_name _ _ _ _ _ _ (@pv _ 0 _ _ rfl (Or.inl rfl) (by decide) (by decide)) (@pa_const _ _ _ _ _ _ _ (@pe_int _ _ _ _) (@pa_nil _))) (by decide) (by rfl) (by rfl)) (fun _ _ => rfl)))) (by rfl) (by first | exact Or.inl rfl | exact Or.inr rfl | assumption)) (@pss_cons _ _ _ _ _ (@ps_set _ _ 7 _ _ _ _ sc_law_fit.nd rfl (Or.inl rfl) (@pe_op _ _ _ _ _ _ _ _ op_sub (@pv _ 6 _ _ rfl (Or.inl rfl) (by decide) (by decide)) (@pe_callB _ _ _ _ _ _ _ _ _ (call_min2 rfl) rfl T.n_min PyProof.Rows.boot_min (@pa_name _ _ _ _ _ _ (@pv _ 6 _ _ rfl (Or.inl rfl) (by decide) (by decide)) (@pa_sub _ _ _ _ _ _ _ (@pe_ix _ _ _ _ _ _ _ ix_list (@pe_lst _ _ _ _ (@pa_const _ _ _ _ _ _ _ (@pe_int _ _ _ _) (@pa_const _ _ _ _ _ _ _ (@pe_int _ _ _ _) (@pa_const _ _ _ _ _ _ _ (@pe_int _ _ _ _) (@pa_call _ _ _ _ _ _ _ _ (@pe_own _ _ _ _ _ _ _ _ _ _ D_law_draw (hr.mono (by decide)) rfl (@pa_name _ _ _ _ _ _ (@pv _ 0 _ _ rfl (Or.inl rfl) (by decide) (by decide)) (@pa_name _ _ _ _ _ _ (@pv _ 1 _ _ rfl (Or.inl rfl) (by decide) (by decide)) (@pa_nil _))) (by decide) (by rfl) (by rfl)) (@pa_nil _)))))) (@pe_own _ _ _ _ _ _ _ _ _ _ D_law_draw (hr.mono (by decide)) rfl (@pa_name _ _ _ _ _ _ (@pv _ 0 _ _ rfl (Or.inl rfl) (by decide) (by decide)) (@pa_const _ _ _ _ _ _ _ (@pe_int _ _ _ _) (@pa_nil _))) (by decide) (by rfl) (by rfl)) (fun _ _ => rfl)) (@pa_nil _))) (by decide) (by decide) (by rfl) (by rfl))) (by rfl) (by first | exact Or.inl rfl | exact Or.inr rfl | assumption)) (@pss_one _ _ _ (@ps_ret _ _ _ _ (@pe_tup _ _ _ _ _ (@pa_const _ _ _ _ _ _ _ (@pe_str _ _ _ _) (@pa_name _ _ _ _ _ _ (@pv _ 3 _ _ rfl (Or.inl rfl) (by decide) (by decide)) (@pa_name _ _ _ _ _ _ (@pv _ 4 _ _ rfl (Or.inl rfl) (by decide) (by decide)) (@pa_name _ _ _ _ _ _ (@pv _ 7 _ _ rfl (Or.inl rfl) (by decide) (by decide)) (@pa_bin _ _ _ _ _ _ _ _ (@pe_op _ _ _ _ _ _ _ _ op_add (@pv _ 6 _ _ rfl (Or.inl rfl) (by decide) (by decide)) (@pe_ix _ _ _ _ _ _ _ ix_list (@pe_lst _ _ _ _ (@pa_const _ _ _ _ _ _ _ (@pe_int _ _ _ _) (@pa_const _ _ _ _ _ _ _ (@pe_int _ _ _ _) (@pa_const _ _ _ _ _ _ _ (@pe_int _ _ _ _) (@pa_call _ _ _ _ _ _ _ _ (@pe_own _ _ _ _ _ _ _ _ _ _ D_law_draw (hr.mono (by decide)) rfl (@pa_name _ _ _ _ _ _ (@pv _ 0 _ _ rfl (Or.inl rfl) (by decide) (by decide)) (@pa_name _ _ _ _ _ _ (@pv _ 1 _ _ rfl (Or.inl rfl) (by decide) (by decide)) (@pa_nil _))) (by decide) (by rfl) (by rfl)) (@pa_nil _)))))) (@pe_own _ _ _ _ _ _ _ _ _ _ D_law_draw (hr.mono (by decide)) rfl (@pa_name _ _ _ _ _ _ (@pv _ 0 _ _ rfl (Or.inl rfl) (by decide) (by decide)) (@pa_const _ _ _ _ _ _ _ (@pe_int _ _ _ _) (@pa_nil _))) (by decide) (by rfl) (by rfl)) (fun _ _ => rfl))) (@pa_nil _))))))))))))), ?_⟩
    refine ⟨_, rfl, _, rfl, b, _, _, _, rfl, rfl, SqL.of hB, bt_at r0 r1, _, rfl, _, rfl, b, _, _, _, rfl, rfl, SqL.of hB, bt_at o0 o1, _, _, rfl, rfl, _, rfl, _, _, rfl, rfl, hm, ?_⟩
    have g1 := Int.emod_nonneg (bt bs other - bt bs one) (show m ≠ 0 by omega)
    have g2 := Int.emod_lt_of_pos (bt bs other - bt bs one) hm
    refine ⟨_, rfl, f, c, _, _, rfl, by decide, by decide, hF, by omega, fun r H1 a1 b1 F1 S1 => ⟨rfl, _, rfl, ite2 (fun _ => ?_) (fun _ => ?_)⟩⟩
    · refine ⟨_, rfl, _, rfl, _, rfl, _, rfl, _, _, rfl, rfl, f, c, _, _, rfl, by omega, by omega, F1, by omega, fun low H2 a2 b2 F2 S2 => ?_⟩
      refine ⟨_, rfl, _, rfl, _, rfl, _, _, rfl, rfl, _, _, rfl, rfl, f, c, _, _, rfl, by omega, by omega, F2, by omega, fun high H3 a3 b3 F3 S3 => ⟨by show 5 ≤ sizeLine; decide, fun p hp => ?_⟩⟩
      exact k p ⟨true, one, other, low, high⟩ _ ((F3.new hp).mono (by omega)) (S1.trans (S2.trans (S3.trans (Sm.new hp)))) upd_same ⟨o0, o1, r0, r1, a2, by show low ≤ _; omega, a3, by show high ≤ _; omega⟩
    · -- far
      refine ⟨_, rfl, _, rfl, by show 5 ≤ sizeLine; decide, fun p2 hp2 => ?_⟩
      refine ⟨_, rfl, f, c, _, _, rfl, by decide, by decide, F1.new hp2, by omega, fun r2 H2 a2 b2 F2 S2 => ?_⟩
      obtain ⟨v2, hv2, x2, rfl, hx1, hx2⟩ := pickI (xs := [.int 0, .int 0, .int 0, .int 1, .int 2]) (fun v => ∃ z : Int, v = .int z ∧ 0 ≤ z ∧ z ≤ 2) a2 b2 (by
        intro x hx
        simp only [List.mem_cons, List.not_mem_nil, or_false] at hx
        rcases hx with rfl | rfl | rfl | rfl | rfl <;> exact ⟨_, rfl, by omega, by omega⟩)
      refine ⟨p2, _, _, _, rfl, rfl, SqL.of (S2 p2 _ (F1.away hp2).1 upd_same), hv2, _, _, rfl, rfl, .inl ⟨by omega, by omega⟩, _, _, rfl, rfl, ?_⟩
      have hmx : 0 ≤ m * x2 := Int.mul_nonneg (by omega) hx1
      have hmx2 : m * x2 ≤ m * 2 := Int.mul_le_mul_of_nonneg_left hx2 (by omega)
      try simp only [List.set_cons_zero, List.set_cons_succ]
      refine ⟨_, rfl, _, rfl, _, rfl, _, rfl, f, c, _, _, rfl, by omega, by omega, F2, by omega, fun r3 H3 a3 b3 F3 S3 => ⟨by show 4 ≤ sizeLine; decide, fun p3 hp3 => ?_⟩⟩
      refine ⟨_, rfl, f, c, _, _, rfl, by decide, by decide, F3.new hp3, by omega, fun r4 H4 a4 b4 F4 S4 => ?_⟩
      obtain ⟨v4, hv4, x4, rfl, hy1, hy2⟩ := pickI (xs := [.int 0, .int 1, .int 2, .int r3]) (fun v => ∃ z : Int, v = .int z ∧ 0 ≤ z ∧ z ≤ 10000) a4 b4 (by
        intro x hx
        simp only [List.mem_cons, List.not_mem_nil, or_false] at hx
        rcases hx with rfl | rfl | rfl | rfl <;> exact ⟨_, rfl, by omega, by omega⟩)
      refine ⟨p3, _, _, _, rfl, rfl, SqL.of (S4 p3 _ (F3.away hp3).1 upd_same), hv4, _, _, rfl, _, _, rfl, rfl, ?_⟩
      try simp only [List.set_cons_zero, List.set_cons_succ]
      refine ⟨_, rfl, _, rfl, _, rfl, _, rfl, _, rfl, _, rfl, f, c, _, _, rfl, by omega, by omega, F4, by omega, fun r5 H5 a5 b5 F5 S5 => ⟨by show 4 ≤ sizeLine; decide, fun p5 hp5 => ?_⟩⟩
      refine ⟨_, rfl, f, c, _, _, rfl, by decide, by decide, F5.new hp5, by omega, fun r6 H6 a6 b6 F6 S6 => ?_⟩
      obtain ⟨v6, hv6, x6, rfl, hu1, hu2⟩ := pickI (xs := [.int 0, .int 0, .int 1, .int r5]) (fun v => ∃ z : Int, v = .int z ∧ 0 ≤ z ∧ z ≤ 10000) a6 b6 (by
        intro x hx
        simp only [List.mem_cons, List.not_mem_nil, or_false] at hx
        rcases hx with rfl | rfl | rfl | rfl <;> exact ⟨_, rfl, by omega, by omega⟩)
      refine ⟨p5, _, _, _, rfl, rfl, SqL.of (S6 p5 _ (F5.away hp5).1 upd_same), hv6, _, _, rfl, rfl, by show 5 ≤ sizeLine; decide, fun q hq => ?_⟩
      have hlow : 0 ≤ (bt bs other - bt bs one) % m + m * x2 - (if x4 < (bt bs other - bt bs one) % m + m * x2 then x4 else (bt bs other - bt bs one) % m + m * x2) ∧ (bt bs other - bt bs one) % m + m * x2 - (if x4 < (bt bs other - bt bs one) % m + m * x2 then x4 else (bt bs other - bt bs one) % m + m * x2) ≤ 50000 := by
        split <;> omega
      exact k q ⟨false, one, other, _, _⟩ _ ((F6.new hq).mono (by omega)) (S1.trans ((Sm.new hp2).trans (S2.trans (S3.trans ((Sm.new hp3).trans (S4.trans (S5.trans ((Sm.new hp5).trans (S6.trans (Sm.new hq)))))))))) upd_same ⟨o0, o1, r0, r1, hlow.1, hlow.2, by show 0 ≤ (bt bs other - bt bs one) % m + m * x2 + x6; omega, by show (bt bs other - bt bs one) % m + m * x2 + x6 ≤ 100000; omega⟩
end

section
variable {P : Program} {w : World} {K : PySem.W.Frag} {mg : Str → Option Value} {base : Heap}
theorem sc_law_any_span : FnScope ["_law_feed", "_law_cycle", "_law_one", "_law_other", "_law_low"] ["_law_feed", "_law_cycle", "_law_one", "_law_other"] (defScope s_law_any_span) := ⟨rfl, rfl, rfl, by decide +kernel, rfl, by decide +kernel, by decide +kernel⟩
theorem ok_law_any_span {f : Addr} {fd : FuncData} (F : Fun K "_law_any_span" "_law_any_span" s_law_any_span f fd) (T : Txt mg) (D_law_draw : Def P w K mg base 1 "_law_draw" ["_law_feed", "_law_many"] sp_drawB) : FnOk P w K mg base CX0 2 f fd ["_law_feed", "_law_cycle", "_law_one", "_law_other"] sp_any_span := by
  refine F.ok sc_law_any_span (fun vs H Q E h => ?_) (fun cdv A outer s H vs Q E hr h => ?_)
  · obtain ⟨f, c, m, one, other, n, works, rfl, _⟩ := h
    rfl
  · obtain ⟨f, c, m, one, other, n, works, rfl, o0, o1, r0, r1, hm, hm2, hF, hn, k⟩ := h
    have hN : nMax = 1000000000000 := rfl
    refine ⟨_, (@pss_cons _ _ _ _ _ (@ps_set _ _ 4 _ _ _ _ sc_law_any_span.nd rfl (Or.inl rfl) (@pe_ix _ _ _ _ _ _ _ ix_list (@pe_lst _ _ _ _ (@pa_const _ _ _ _ _ _ _ (@pe_int _ _ _ _) (@pa_call _ _ _ _ _ _ _ _ (@pe_own _ _ _ _ _ _ _ _ _ _ D_law_draw (hr.mono (by decide)) rfl (@pa_name _ _ _ _ _ _ (@pv _ 0 _ _ rfl (Or.inl rfl) (by decide) (by decide)) (@pa_name _ _ _ _ _ _ (@pv _ 1 _ _ rfl (Or.inl rfl) (by decide) (by decide)) (@pa_nil _))) (by decide) (by rfl) (by rfl)) (@pa_call _ _ _ _ _ _ _ _ (@pe_own _ _ _ _ _ _ _ _ _ _ D_law_draw (hr.mono (by decide)) rfl (@pa_name _ _ _ _ _ _ (@pv _ 0 _ _ rfl (Or.inl rfl) (by decide) (by decide)) (@pa_bin _ _ _ _ _ _ _ _ (@pe_op _ _ _ _ _ _ _ _ op_mul (@pe_int _ _ _ _) (@pv _ 1 _ _ rfl (Or.inl rfl) (by decide) (by decide))) (@pa_nil _))) (by decide) (by rfl) (by rfl)) (@pa_name _ _ _ _ _ _ (@pv _ 1 _ _ rfl (Or.inl rfl) (by decide) (by decide)) (@pa_nil _)))))) (@pe_own _ _ _ _ _ _ _ _ _ _ D_law_draw (hr.mono (by decide)) rfl (@pa_name _ _ _ _ _ _ (@pv _ 0 _ _ rfl (Or.inl rfl) (by decide) (by decide)) (@pa_const _ _ _ _ _ _ _ (@pe_int _ _ _ _) (@pa_nil _))) (by decide) (by rfl) (by rfl)) (fun _ _ => rfl)) (by rfl) (by first | exact Or.inl rfl | exact Or.inr rfl | assumption)) (@pss_cons _ _ _ _ _ (@ps_if _ _ _ _ _ _ _ _ (@pt_cmpR _ _ _ _ _ _ _ _ op_eq (@pe_own _ _ _ _ _ _ _ _ _ _ D_law_draw (hr.mono (by decide)) rfl (@pa_name _ _ _ _ _ _ (@pv _ 0 _ _ rfl (Or.inl rfl) (by decide) (by decide)) (@pa_const _ _ _ _ _ _ _ (@pe_int _ _ _ _) (@pa_nil _))) (by decide) (by rfl) (by rfl)) (@pe_int _ _ _ _) (nomark _)) (@pss_one _ _ _ (@ps_ret _ _ _ _ (@pe_tup _ _ _ _ _ (@pa_const _ _ _ _ _ _ _ (@pe_str _ _ _ _) (@pa_name _ _ _ _ _ _ (@pv _ 2 _ _ rfl (Or.inl rfl) (by decide) (by decide)) (@pa_name _ _ _ _ _ _ (@pv _ 3 _ _ rfl (Or.inl rfl) (by decide) (by decide)) (@pa_call _ _ _ _ _ _ _ _ (@pe_own _ _ _ _ _ _ _ _ _ _ D_law_draw (hr.mono (by decide)) rfl (@pa_name _ _ _ _ _ _ (@pv _ 0 _ _ rfl (Or.inl rfl) (by decide) (by decide)) (@pa_bin _ _ _ _ _ _ _ _ (@pe_op _ _ _ _ _ _ _ _ op_add (@pv _ 1 _ _ rfl (Or.inl rfl) (by decide) (by decide)) (@pe_int _ _ _ _)) (@pa_nil _))) (by decide) (by rfl) (by rfl)) (@pa_call _ _ _ _ _ _ _ _ (@pe_own _ _ _ _ _ _ _ _ _ _ D_law_draw (hr.mono (by decide)) rfl (@pa_name _ _ _ _ _ _ (@pv _ 0 _ _ rfl (Or.inl rfl) (by decide) (by decide)) (@pa_bin _ _ _ _ _ _ _ _ (@pe_op _ _ _ _ _ _ _ _ op_add (@pv _ 1 _ _ rfl (Or.inl rfl) (by decide) (by decide)) (@pe_int _ _ _ _)) (@pa_nil _))) (by decide) (by rfl) (by rfl)) (@pa_nil _))))))))) (@pss_nil _)) (@pss_one _ _ _ (@ps_ret _ _ _ _ (@pe_tup _ _ _ _ _ (@pa_const _ _ _ _ _ _ _ (@pe_str _ _ _ _) (@pa_name _ _ _ _ _ _ (@pv _ 2 _ _ rfl (Or.inl rfl) (by decide) (by decide)) (@pa_name _ _ _ _ _ _ (@pv _ 3 _ _ rfl (Or.inl rfl) (by decide) (by decide)) (@pa_name _ _ _ _ _ _ (@pv _ 4 _ _ rfl (Or.inl rfl) (by decide) (by decide)) (@pa_bin _ _ _ _ _ _ _ _ (@pe_op _ _ _ _ _ _ _ _ op_add (@pv _ 4 _ _ rfl (Or.inl rfl) (by decide) (by decide)) (@pe_ix _ _ _ _ _ _ _ ix_list (@pe_lst _ _ _ _ (@pa_const _ _ _ _ _ _ _ (@pe_int _ _ _ _) (@pa_const _ _ _ _ _ _ _ (@pe_int _ _ _ _) (@pa_const _ _ _ _ _ _ _ (@pe_int _ _ _ _) (@pa_call _ _ _ _ _ _ _ _ (@pe_own _ _ _ _ _ _ _ _ _ _ D_law_draw (hr.mono (by decide)) rfl (@pa_name _ _ _ _ _ _ (@pv _ 0 _ _ rfl (Or.inl rfl) (by decide) (by decide)) (@pa_name _ _ _ _ _ _ (@pv _ 1 _ _ rfl (Or.inl rfl) (by decide) (by decide)) (@pa_nil _))) (by decide) (by rfl) (by rfl)) (@pa_bin _ _ _ _ _ _ _ _ (@pe_op _ _ _ _ _ _ _ _ op_sub (@pv _ 1 _ _ rfl (Or.inl rfl) (by decide) (by decide)) (@pe_int _ _ _ _)) (@pa_bin _ _ _ _ _ _ _ _ (@pe_op _ _ _ _ _ _ _ _ op_mul (@pe_int _ _ _ _) (@pv _ 1 _ _ rfl (Or.inl rfl) (by decide) (by decide))) (@pa_nil _)))))))) (@pe_own _ _ _ _ _ _ _ _ _ _ D_law_draw (hr.mono (by decide)) rfl (@pa_name _ _ _ _ _ _ (@pv _ 0 _ _ rfl (Or.inl rfl) (by decide) (by decide)) (@pa_const _ _ _ _ _ _ _ (@pe_int _ _ _ _) (@pa_nil _))) (by decide) (by rfl) (by rfl)) (fun _ _ => rfl))) (@pa_nil _))))))))))), ?_⟩
    refine ⟨_, rfl, _, rfl, f, c, _, _, rfl, by omega, by omega, hF, by omega, fun r1' H1 a1 b1 F1 S1 => ?_⟩
    refine ⟨_, rfl, _, rfl, _, _, rfl, rfl, .inl (by decide), f, c, _, _, rfl, by omega, by omega, F1, by omega, fun r2 H2 a2 b2 F2 S2 => ?_⟩
    refine ⟨_, rfl, by show 4 ≤ sizeLine; decide, fun p2 hp2 => ?_⟩
    refine ⟨_, rfl, f, c, _, _, rfl, by decide, by decide, F2.new hp2, by omega, fun r3 H3 a3 b3 F3 S3 => ?_⟩
    obtain ⟨v3, hv3, low, rfl, hx1, hx2⟩ := pickI (xs := [.int 0, .int r1', .int r2, .int m]) (fun v => ∃ z : Int, v = .int z ∧ 0 ≤ z ∧ z ≤ 30000) a3 b3 (by
      intro x hx
      simp only [List.mem_cons, List.not_mem_nil, or_false] at hx
      rcases hx with rfl | rfl | rfl | rfl <;> exact ⟨_, rfl, by omega, by omega⟩)
    refine ⟨p2, _, _, _, rfl, rfl, SqL.of (S3 p2 _ (F2.away hp2).1 upd_same), hv3, ?_⟩
    have S03 := S1.trans (S2.trans ((Sm.new hp2).trans S3))
    refine ⟨_, rfl, f, c, _, _, rfl, by decide, by decide, F3, by omega, fun r4 H4 a4 b4 F4 S4 => ⟨rfl, _, rfl, ite2 (fun _ => ?_) (fun _ => ?_)⟩⟩
    · refine ⟨_, rfl, _, rfl, _, rfl, _, rfl, _, _, rfl, rfl, f, c, _, _, rfl, by omega, by omega, F4, by omega, fun lo H5 a5 b5 F5 S5 => ?_⟩
      refine ⟨_, rfl, _, rfl, _, _, rfl, rfl, f, c, _, _, rfl, by omega, by omega, F5, by omega, fun hg H6 a6 b6 F6 S6 => ⟨by show 5 ≤ sizeLine; decide, fun p hp => ?_⟩⟩
      exact k p ⟨true, one, other, lo, hg⟩ _ ((F6.new hp).mono (by omega)) (S03.trans (S4.trans (S5.trans (S6.trans (Sm.new hp))))) upd_same ⟨o0, o1, r0, r1, a5, by show lo ≤ _; omega, a6, by show hg ≤ _; omega⟩
    · refine ⟨_, rfl, _, rfl, _, rfl, _, rfl, _, rfl, _, rfl, f, c, _, _, rfl, by omega, by omega, F4, by omega, fun r5 H5 a5 b5 F5 S5 => ?_⟩
      refine ⟨_, rfl, _, _, rfl, rfl, _, rfl, _, _, rfl, rfl, .inl (by decide), by show 6 ≤ sizeLine; decide, fun p5 hp5 => ?_⟩
      refine ⟨_, rfl, f, c, _, _, rfl, by decide, by decide, F5.new hp5, by omega, fun r6 H6 a6 b6 F6 S6 => ?_⟩
      obtain ⟨v6, hv6, x6, rfl, hu1, hu2⟩ := pickI (xs := [.int 0, .int 0, .int 1, .int r5, .int (m - 1), .int (2 * m)]) (fun v => ∃ z : Int, v = .int z ∧ 0 ≤ z ∧ z ≤ 20000) a6 b6 (by
        intro x hx
        simp only [List.mem_cons, List.not_mem_nil, or_false] at hx
        rcases hx with rfl | rfl | rfl | rfl | rfl | rfl <;> exact ⟨_, rfl, by omega, by omega⟩)
      refine ⟨p5, _, _, _, rfl, rfl, SqL.of (S6 p5 _ (F5.away hp5).1 upd_same), hv6, _, _, rfl, rfl, by show 5 ≤ sizeLine; decide, fun q hq => ?_⟩
      exact k q ⟨false, one, other, low, low + x6⟩ _ ((F6.new hq).mono (by omega)) (S03.trans (S4.trans (S5.trans ((Sm.new hp5).trans (S6.trans (Sm.new hq)))))) upd_same ⟨o0, o1, r0, r1, hx1, by show low ≤ _; omega, by show 0 ≤ low + x6; omega, by show low + x6 ≤ _; omega⟩
end

section
variable {P : Program} {w : World} {K : PySem.W.Frag} {mg : Str → Option Value} {base : Heap}
def nm8 : List Str := ["a", "ab", "works", "span", "apart", "ring", "b", "stay"]
theorem nm8_all : ∀ x ∈ nm8, x ∈ allNames := by decide +kernel
theorem dvs_rev {K : PySem.W.Frag} {H : Hp} : ∀ {xs : List V} {ds : List PyData}, DVs K H xs ds → DVs K H xs.reverse ds.reverse
  | _, _, .nil => .nil
  | _, _, .cons h r => by rw [List.reverse_cons, List.reverse_cons]; exact (dvs_rev r).append (.cons h .nil)
theorem sc_law_a_plan : FnScope ["_law_feed", "_law_works", "_law_cycle", "_law_most", "_law_beats", "_law_way", "_law_spans", "_law_many", "_law_k", "_law_odd", "_law_one", "_law_other"] ["_law_feed", "_law_works", "_law_cycle", "_law_most"] (defScope s_law_a_plan) := ⟨rfl, rfl, rfl, by decide +kernel, rfl, by decide +kernel, by decide +kernel⟩
theorem ok_law_a_plan {f : Addr} {fd : FuncData} (F : Fun K "_law_a_plan" "_law_a_plan" s_law_a_plan f fd) (T : Txt mg) (D_law_draw : Def P w K mg base 1 "_law_draw" ["_law_feed", "_law_many"] sp_drawB) (D_law_fit : Def P w K mg base 2 "_law_fit" ["_law_feed", "_law_cycle", "_law_beats", "_law_one", "_law_other"] sp_fit) (D_law_any_span : Def P w K mg base 2 "_law_any_span" ["_law_feed", "_law_cycle", "_law_one", "_law_other"] sp_any_span) : FnOk P w K mg base CX0 3 f fd ["_law_feed", "_law_works", "_law_cycle", "_law_most"] (sp_a_plan K) := by
  refine F.ok sc_law_a_plan (fun vs H Q E h => ?_) (fun cdv A outer s H vs Q E hr h => ?_)
  · obtain ⟨f, c, works, m, most, n, rfl, _⟩ := h
    rfl
  · obtain ⟨f, c, works, m, most0, n, rfl, hw, hw2, hm, hm2, hs, hs2, hF, hn, k⟩ := h
    have hN : nMax = 1000000000000 := rfl
    refine ⟨_, (@pss_cons _ _ _ _ _ (@ps_lc _ ["_law_work", "_law_feed", "_law_cycle"] [none, (some 0), (some 2)] _ _ _ _ _ _ _ _ _ _ _ _ 4 _ sc_law_a_plan.nd rfl rfl rfl (@CScope.of _ _ _ _ rfl) (@pi_range1 _ _ _ _ _ _ rfl T.n_range (@pa_name _ _ _ _ _ _ (@pv _ 1 _ _ rfl (Or.inl rfl) (by decide) (by decide)) (@pa_nil _)) (by rfl)) (fun _ _ _ _ _ => (@pgc _ _ _ _ _ _ _ _ 0 _ _ (by decide) rfl rfl)) (fun _ _ _ _ _ => pif_nil) (fun _ _ _ _ _ => (@pe_own _ _ _ _ _ _ _ _ _ _ D_law_draw (hr.mono (by decide)) (glc rfl) (@pa_name _ _ _ _ _ _ (@pvc _ _ _ _ _ _ _ _ 1 _ _ (by rfl) (by first | exact Or.inl rfl | exact Or.inr rfl) (by decide) (by decide)) (@pa_name _ _ _ _ _ _ (@pvc _ _ _ _ _ _ _ _ 2 _ _ (by rfl) (by first | exact Or.inl rfl | exact Or.inr rfl) (by decide) (by decide)) (@pa_nil _))) (by decide) (by rfl) (by rfl))) rfl (by intro _ ; rfl)) (@pss_cons _ _ _ _ _ (@ps_set _ _ 3 _ _ _ _ sc_law_a_plan.nd rfl (Or.inl rfl) (@pe_ix _ _ _ _ _ _ _ ix_list (@pe_lst _ _ _ _ (@pa_name _ _ _ _ _ _ (@pv _ 3 _ _ rfl (Or.inl rfl) (by decide) (by decide)) (@pa_const _ _ _ _ _ _ _ (@pe_int _ _ _ _) (@pa_nil _)))) (@pe_callTy _ _ _ _ _ _ _ _ _ call_int1 rfl T.n_int PyProof.Rows.boot_int (@pa_cmp _ _ _ _ _ _ _ _ (@pe_cmpR _ _ _ _ _ _ _ _ op_eq (@pe_own _ _ _ _ _ _ _ _ _ _ D_law_draw (hr.mono (by decide)) rfl (@pa_name _ _ _ _ _ _ (@pv _ 0 _ _ rfl (Or.inr (Or.inl rfl)) (by decide) (by decide)) (@pa_const _ _ _ _ _ _ _ (@pe_int _ _ _ _) (@pa_nil _))) (by decide) (by rfl) (by rfl)) (@pe_int _ _ _ _) (nomark _)) (@pa_nil _)) (by decide) (by decide) (by rfl) (by rfl)) (fun _ _ => rfl)) (by rfl) (by first | exact Or.inl rfl | exact Or.inr rfl | assumption)) (@pss_cons _ _ _ _ _ (@ps_set _ _ 5 _ _ _ _ sc_law_a_plan.nd rfl (Or.inl rfl) (@pe_own _ _ _ _ _ _ _ _ _ _ D_law_draw (hr.mono (by decide)) rfl (@pa_name _ _ _ _ _ _ (@pv _ 0 _ _ rfl (Or.inr (Or.inl rfl)) (by decide) (by decide)) (@pa_const _ _ _ _ _ _ _ (@pe_int _ _ _ _) (@pa_nil _))) (by decide) (by rfl) (by rfl)) (by rfl) (by first | exact Or.inl rfl | exact Or.inr rfl | assumption)) (@pss_cons _ _ _ _ _ (@ps_set _ _ 6 _ _ _ _ sc_law_a_plan.nd rfl (Or.inl rfl) (@pe_lst _ _ _ _ (@pa_nil _)) (by rfl) (by first | exact Or.inl rfl | exact Or.inr rfl | assumption)) (@pss_cons _ _ _ _ _ (@ps_set _ _ 7 _ _ _ _ sc_law_a_plan.nd rfl (Or.inl rfl) (@pe_ix _ _ _ _ _ _ _ ix_list (@pe_lst _ _ _ _ (@pa_bin _ _ _ _ _ _ _ _ (@pe_op _ _ _ _ _ _ _ _ op_sub (@pv _ 1 _ _ rfl (Or.inl rfl) (by decide) (by decide)) (@pe_int _ _ _ _)) (@pa_name _ _ _ _ _ _ (@pv _ 1 _ _ rfl (Or.inl rfl) (by decide) (by decide)) (@pa_bin _ _ _ _ _ _ _ _ (@pe_op _ _ _ _ _ _ _ _ op_add (@pv _ 1 _ _ rfl (Or.inl rfl) (by decide) (by decide)) (@pe_int _ _ _ _)) (@pa_call _ _ _ _ _ _ _ _ (@pe_own _ _ _ _ _ _ _ _ _ _ D_law_draw (hr.mono (by decide)) rfl (@pa_name _ _ _ _ _ _ (@pv _ 0 _ _ rfl (Or.inr (Or.inl rfl)) (by decide) (by decide)) (@pa_bin _ _ _ _ _ _ _ _ (@pe_op _ _ _ _ _ _ _ _ op_add (@pv _ 3 _ _ rfl (Or.inl rfl) (by decide) (by decide)) (@pe_int _ _ _ _)) (@pa_nil _))) (by decide) (by rfl) (by rfl)) (@pa_name _ _ _ _ _ _ (@pv _ 3 _ _ rfl (Or.inl rfl) (by decide) (by decide)) (@pa_name _ _ _ _ _ _ (@pv _ 1 _ _ rfl (Or.inl rfl) (by decide) (by decide)) (@pa_nil _)))))))) (@pe_own _ _ _ _ _ _ _ _ _ _ D_law_draw (hr.mono (by decide)) rfl (@pa_name _ _ _ _ _ _ (@pv _ 0 _ _ rfl (Or.inr (Or.inl rfl)) (by decide) (by decide)) (@pa_const _ _ _ _ _ _ _ (@pe_int _ _ _ _) (@pa_nil _))) (by decide) (by rfl) (by rfl)) (fun _ _ => rfl)) (by rfl) (by first | exact Or.inl rfl | exact Or.inr rfl | assumption)) (@pss_cons _ _ _ _ _ (@ps_for _ _ _ _ _ _ _ _ PassesOwn.never rfl (@pi_range1 _ _ _ _ _ _ rfl T.n_range (@pa_call _ _ _ _ _ _ _ _ (@pe_callB _ _ _ _ _ _ _ _ _ (call_min2 rfl) rfl T.n_min PyProof.Rows.boot_min (@pa_name _ _ _ _ _ _ (@pv _ 3 _ _ rfl (Or.inl rfl) (by decide) (by decide)) (@pa_name _ _ _ _ _ _ (@pv _ 7 _ _ rfl (Or.inl rfl) (by decide) (by decide)) (@pa_nil _))) (by decide) (by decide) (by rfl) (by rfl)) (@pa_nil _)) (by rfl)) (@pg_name _ _ 8 _ sc_law_a_plan.nd rfl (Or.inl rfl) (by first | exact Or.inl rfl | exact Or.inr rfl | assumption)) (@pss_cons _ _ _ _ _ (@ps_par _ _ 10 11 _ _ _ _ _ _ _ _ _ _ _ rfl sc_law_a_plan.nd rfl rfl (by decide) rfl rfl (@pa_call _ _ _ _ _ _ _ _ (@pe_own _ _ _ _ _ _ _ _ _ _ D_law_draw (hr.mono (by decide)) rfl (@pa_name _ _ _ _ _ _ (@pv _ 0 _ _ rfl (Or.inr (Or.inl rfl)) (by decide) (by decide)) (@pa_name _ _ _ _ _ _ (@pv _ 1 _ _ rfl (Or.inl rfl) (by decide) (by decide)) (@pa_nil _))) (by decide) (by rfl) (by rfl)) (@pa_call _ _ _ _ _ _ _ _ (@pe_own _ _ _ _ _ _ _ _ _ _ D_law_draw (hr.mono (by decide)) rfl (@pa_name _ _ _ _ _ _ (@pv _ 0 _ _ rfl (Or.inr (Or.inl rfl)) (by decide) (by decide)) (@pa_name _ _ _ _ _ _ (@pv _ 1 _ _ rfl (Or.inl rfl) (by decide) (by decide)) (@pa_nil _))) (by decide) (by rfl) (by rfl)) (@pa_nil _))) rfl (by rfl)) (@pss_cons _ _ _ _ _ (@ps_if _ _ _ _ _ _ _ _ (@PW.pt _ _ _ (@pw_and _ _ _ _ _ _ _ (@pt_cmpR _ _ _ _ _ _ _ _ op_eq (@pv _ 10 _ _ rfl (Or.inl rfl) (by decide) (by decide)) (@pv _ 11 _ _ rfl (Or.inl rfl) (by decide) (by decide)) (nomark _)) (@pw_and1 _ _ _ _ (@pt_cmpR _ _ _ _ _ _ _ _ op_gt (@pe_own _ _ _ _ _ _ _ _ _ _ D_law_draw (hr.mono (by decide)) rfl (@pa_name _ _ _ _ _ _ (@pv _ 0 _ _ rfl (Or.inr (Or.inl rfl)) (by decide) (by decide)) (@pa_const _ _ _ _ _ _ _ (@pe_int _ _ _ _) (@pa_nil _))) (by decide) (by rfl) (by rfl)) (@pe_int _ _ _ _) (nomark _))))) (@pss_one _ _ _ (@ps_set _ _ 11 _ _ _ _ sc_law_a_plan.nd rfl (Or.inl rfl) (@pe_op _ _ _ _ _ _ _ _ op_mod (@pe_op _ _ _ _ _ _ _ _ op_add (@pv _ 10 _ _ rfl (Or.inl rfl) (by decide) (by decide)) (@pe_int _ _ _ _)) (@pv _ 1 _ _ rfl (Or.inl rfl) (by decide) (by decide))) (by rfl) (by first | exact Or.inl rfl | exact Or.inr rfl | assumption))) (@pss_nil _)) (@pss_cons _ _ _ _ _ (@ps_if _ _ _ _ _ _ _ _ (@pt_cmpR _ _ _ _ _ _ _ _ op_lt (@pe_op _ _ _ _ _ _ _ _ op_add (@pv _ 8 _ _ rfl (Or.inl rfl) (by decide) (by decide)) (@pe_int _ _ _ _)) (@pv _ 1 _ _ rfl (Or.inl rfl) (by decide) (by decide)) (nomark _)) (@pss_one _ _ _ (@ps_par _ _ 10 11 _ _ _ _ _ _ _ _ _ _ _ rfl sc_law_a_plan.nd rfl rfl (by decide) rfl rfl (@pa_bin _ _ _ _ _ _ _ _ (@pe_op _ _ _ _ _ _ _ _ op_add (@pv _ 8 _ _ rfl (Or.inl rfl) (by decide) (by decide)) (@pe_int _ _ _ _)) (@pa_call _ _ _ _ _ _ _ _ (@pe_own _ _ _ _ _ _ _ _ _ _ D_law_draw (hr.mono (by decide)) rfl (@pa_name _ _ _ _ _ _ (@pv _ 0 _ _ rfl (Or.inr (Or.inl rfl)) (by decide) (by decide)) (@pa_bin _ _ _ _ _ _ _ _ (@pe_op _ _ _ _ _ _ _ _ op_add (@pv _ 8 _ _ rfl (Or.inl rfl) (by decide) (by decide)) (@pe_int _ _ _ _)) (@pa_nil _))) (by decide) (by rfl) (by rfl)) (@pa_nil _))) rfl (by rfl))) (@pss_nil _)) (@pss_cons _ _ _ _ _ (@ps_asg _ _ _ _ _ _ (@pe_ix _ _ _ _ _ _ _ ix_list (@pe_lst _ _ _ _ (@pa_tup _ _ _ _ _ _ _ (@pe_tup _ _ _ _ _ (@pa_name _ _ _ _ _ _ (@pv _ 10 _ _ rfl (Or.inl rfl) (by decide) (by decide)) (@pa_name _ _ _ _ _ _ (@pv _ 11 _ _ rfl (Or.inl rfl) (by decide) (by decide)) (@pa_nil _)))) (@pa_tup _ _ _ _ _ _ _ (@pe_tup _ _ _ _ _ (@pa_name _ _ _ _ _ _ (@pv _ 11 _ _ rfl (Or.inl rfl) (by decide) (by decide)) (@pa_name _ _ _ _ _ _ (@pv _ 10 _ _ rfl (Or.inl rfl) (by decide) (by decide)) (@pa_nil _)))) (@pa_nil _)))) (@pe_own _ _ _ _ _ _ _ _ _ _ D_law_draw (hr.mono (by decide)) rfl (@pa_name _ _ _ _ _ _ (@pv _ 0 _ _ rfl (Or.inr (Or.inl rfl)) (by decide) (by decide)) (@pa_const _ _ _ _ _ _ _ (@pe_int _ _ _ _) (@pa_nil _))) (by decide) (by rfl) (by rfl)) (fun _ _ => rfl)) (@pg_tup _ _ _ _ _ _ rfl (@pgs_cons _ _ _ _ _ (@pg_name _ _ 10 _ sc_law_a_plan.nd rfl (Or.inl rfl) (by first | exact Or.inl rfl | exact Or.inr rfl | assumption)) (@pgs_cons _ _ _ _ _ (@pg_name _ _ 11 _ sc_law_a_plan.nd rfl (Or.inl rfl) (by first | exact Or.inl rfl | exact Or.inr rfl | assumption)) (@pgs_nil _) (by rfl)) (by rfl)) (by rfl) (by rfl)) (by rfl) (by rfl) (by rfl)) (@pss_cons _ _ _ _ _ (@ps_set _ _ 9 _ _ _ _ sc_law_a_plan.nd rfl (Or.inl rfl) (@pe_or _ _ _ _ _ _ _ (@pe_cmpR _ _ _ _ _ _ _ _ op_eq (@pv _ 5 _ _ rfl (Or.inl rfl) (by decide) (by decide)) (@pe_int _ _ _ _) (nomark _)) (@pe_one _ _ _ _ _ (@pe_and _ _ _ _ _ _ _ (@pe_cmpR _ _ _ _ _ _ _ _ op_gt (@pv _ 5 _ _ rfl (Or.inl rfl) (by decide) (by decide)) (@pe_int _ _ _ _) (nomark _)) (@pe_one _ _ _ _ _ (@pe_cmpR _ _ _ _ _ _ _ _ op_eq (@pe_own _ _ _ _ _ _ _ _ _ _ D_law_draw (hr.mono (by decide)) rfl (@pa_name _ _ _ _ _ _ (@pv _ 0 _ _ rfl (Or.inr (Or.inl rfl)) (by decide) (by decide)) (@pa_const _ _ _ _ _ _ _ (@pe_int _ _ _ _) (@pa_nil _))) (by decide) (by rfl) (by rfl)) (@pe_int _ _ _ _) (nomark _)))))) (by rfl) (by first | exact Or.inl rfl | exact Or.inr rfl | assumption)) (@pss_one _ _ _ (@ps_expr _ _ _ _ (@pe_bm _ _ _ _ _ _ _ _ _ _ _ _ PySem.F.plainAttrs_list PySem.F.slot_list_append PySem.F.type_list_append mt_append (@pv _ 6 _ _ rfl (Or.inl rfl) (by decide) (by decide)) (@pa_ife _ _ _ _ _ _ _ _ (@pe_ifExp _ _ _ _ _ _ _ _ (@pt_of _ _ _ (@pv _ 9 _ _ rfl (Or.inl rfl) (by decide) (by decide)) (by intro _ ; rfl)) (@pe_own _ _ _ _ _ _ _ _ _ _ D_law_any_span (hr.mono (by decide)) rfl (@pa_name _ _ _ _ _ _ (@pv _ 0 _ _ rfl (Or.inr (Or.inl rfl)) (by decide) (by decide)) (@pa_name _ _ _ _ _ _ (@pv _ 2 _ _ rfl (Or.inr (Or.inl rfl)) (by decide) (by decide)) (@pa_name _ _ _ _ _ _ (@pv _ 10 _ _ rfl (Or.inl rfl) (by decide) (by decide)) (@pa_name _ _ _ _ _ _ (@pv _ 11 _ _ rfl (Or.inl rfl) (by decide) (by decide)) (@pa_nil _))))) (by decide) (by rfl) (by rfl)) (@pe_own _ _ _ _ _ _ _ _ _ _ D_law_fit (hr.mono (by decide)) rfl (@pa_name _ _ _ _ _ _ (@pv _ 0 _ _ rfl (Or.inr (Or.inl rfl)) (by decide) (by decide)) (@pa_name _ _ _ _ _ _ (@pv _ 2 _ _ rfl (Or.inr (Or.inl rfl)) (by decide) (by decide)) (@pa_name _ _ _ _ _ _ (@pv _ 4 _ _ rfl (Or.inl rfl) (by decide) (by decide)) (@pa_name _ _ _ _ _ _ (@pv _ 10 _ _ rfl (Or.inl rfl) (by decide) (by decide)) (@pa_name _ _ _ _ _ _ (@pv _ 11 _ _ rfl (Or.inl rfl) (by decide) (by decide)) (@pa_nil _)))))) (by decide) (by rfl) (by rfl))) (@pa_nil _)) (by rfl) (by rfl) (by rfl) (by rfl) (by rfl)) (by rfl)))))))) (by intro _ ; rfl)) (@pss_cons _ _ _ _ _ (@ps_set _ _ 6 _ _ _ _ sc_law_a_plan.nd rfl (Or.inl rfl) (@pe_op _ _ _ _ _ _ _ _ op_cat (@pv _ 6 _ _ rfl (Or.inl rfl) (by decide) (by decide)) (@pe_op _ _ _ _ _ _ _ _ op_rep (@pe_slice _ _ _ _ _ _ _ _ _ _ sl_list (@pv _ 6 _ _ rfl (Or.inl rfl) (by decide) (by decide)) (@po_none _) (@po_some _ _ _ (@pe_int _ _ _ _))) (@pe_callTy _ _ _ _ _ _ _ _ _ call_int1 rfl T.n_int PyProof.Rows.boot_int (@pa_bool _ _ _ _ _ _ _ (@pe_and _ _ _ _ _ _ _ (@pe_chain _ _ _ _ _ _ _ _ _ _ _ _ op_lt op_lt (@pe_int _ _ _ _) (@pe_callB _ _ _ _ _ _ _ _ _ call_len_seq rfl T.n_len PySem.boot_len (@pa_name _ _ _ _ _ _ (@pv _ 6 _ _ rfl (Or.inl rfl) (by decide) (by decide)) (@pa_nil _)) (by decide) (by decide) (by rfl) (by rfl)) (@pv _ 3 _ _ rfl (Or.inl rfl) (by decide) (by decide)) (by with_unfolding_all  rfl)) (@pe_one _ _ _ _ _ (@pe_cmpR _ _ _ _ _ _ _ _ op_eq (@pe_own _ _ _ _ _ _ _ _ _ _ D_law_draw (hr.mono (by decide)) rfl (@pa_name _ _ _ _ _ _ (@pv _ 0 _ _ rfl (Or.inr (Or.inl rfl)) (by decide) (by decide)) (@pa_const _ _ _ _ _ _ _ (@pe_int _ _ _ _) (@pa_nil _))) (by decide) (by rfl) (by rfl)) (@pe_int _ _ _ _) (nomark _)))) (@pa_nil _)) (by decide) (by decide) (by rfl) (by rfl)))) (by rfl) (by first | exact Or.inl rfl | exact Or.inr rfl | assumption)) (@pss_cons _ _ _ _ _ (@ps_set _ _ 6 _ _ _ _ sc_law_a_plan.nd rfl (Or.inl rfl) (@pe_stepL _ _ _ _ _ _ _ (@pv _ 6 _ _ rfl (Or.inl rfl) (by decide) (by decide)) (@pe_ix _ _ _ _ _ _ _ ix_list (@pe_lst _ _ _ _ (@pa_const _ _ _ _ _ _ _ (@pe_int _ _ _ _) (@pa_un _ _ _ _ _ _ _ (@pe_un _ _ _ _ _ _ un_neg (@pe_int _ _ _ _)) (@pa_nil _)))) (@pe_callTy _ _ _ _ _ _ _ _ _ call_int1 rfl T.n_int PyProof.Rows.boot_int (@pa_cmp _ _ _ _ _ _ _ _ (@pe_cmpR _ _ _ _ _ _ _ _ op_eq (@pe_own _ _ _ _ _ _ _ _ _ _ D_law_draw (hr.mono (by decide)) rfl (@pa_name _ _ _ _ _ _ (@pv _ 0 _ _ rfl (Or.inr (Or.inl rfl)) (by decide) (by decide)) (@pa_const _ _ _ _ _ _ _ (@pe_int _ _ _ _) (@pa_nil _))) (by decide) (by rfl) (by rfl)) (@pe_int _ _ _ _) (nomark _)) (@pa_nil _)) (by decide) (by decide) (by rfl) (by rfl)) (fun _ _ => rfl))) (by rfl) (by first | exact Or.inl rfl | exact Or.inr rfl | assumption)) (@pss_one _ _ _ (@ps_ret _ _ _ _ (@pe_tup _ _ _ _ _ (@pa_sub _ _ _ _ _ _ _ (@pe_slice _ _ _ _ _ _ _ _ _ _ sl_tupG (@pe_tup _ _ _ _ _ (@pa_const _ _ _ _ _ _ _ (@pe_str _ _ _ _) (@pa_const _ _ _ _ _ _ _ (@pe_str _ _ _ _) (@pa_const _ _ _ _ _ _ _ (@pe_str _ _ _ _) (@pa_const _ _ _ _ _ _ _ (@pe_str _ _ _ _) (@pa_const _ _ _ _ _ _ _ (@pe_str _ _ _ _) (@pa_const _ _ _ _ _ _ _ (@pe_str _ _ _ _) (@pa_const _ _ _ _ _ _ _ (@pe_str _ _ _ _) (@pa_const _ _ _ _ _ _ _ (@pe_str _ _ _ _) (@pa_nil _)))))))))) (@po_none _) (@po_some _ _ _ (@pv _ 1 _ _ rfl (Or.inl rfl) (by decide) (by decide)))) (@pa_call _ _ _ _ _ _ _ _ (@pe_callTy _ _ _ _ _ _ _ _ _ call_tuple_of rfl T.n_tuple PyProof.Rows.boot_tuple (@pa_name _ _ _ _ _ _ (@pv _ 6 _ _ rfl (Or.inl rfl) (by decide) (by decide)) (@pa_nil _)) (by decide) (by decide) (by rfl) (by rfl)) (@pa_nil _)))))))))))))), ?_⟩
    refine ⟨_, rfl, works, rfl, by omega, by omega, fun D hD => ?_⟩
    have aw := hF.away hD
    refine lc_range 1 [some (.ref f), some (.int m)]
      (fun i ys H3 => FeedB H3 f c (n + i) ∧ Sm f H H3 ∧ H3 D = some (.lst ys) ∧ ∃ bs : List Int, ys = bs.map V.int ∧ bs.length = i)
      ?_ ⟨(hF.new hD).mono (by omega), Sm.new hD, upd_same, [], rfl, rfl⟩ ?_ ?_
    · rfl
    · rintro i ys H3 os hi ho ⟨F4, S4, hD4, bs, rfl, hn4⟩
      obtain ⟨o, rfl⟩ := one_of ho
      refine noifN ?_
      refine ⟨_, rfl, _, rfl, f, c, _, _, rfl, by omega, by omega, F4, by omega, fun r H5 a5 b5 F5 S5 => ?_⟩
      refine LcN.mk (os := [some (.int (0 + (i : Int)))]) hi (S5 D _ aw.1 hD4) (by rw [List.length_map, hn4]; exact Nat.lt_of_lt_of_le hi (Nat.le_trans (show works.toNat ≤ 1000 by omega) (by decide))) rfl rfl ?_
      exact ⟨(F5.off aw.1 aw.2).mono (by omega), (S4.trans S5).acc hD, upd_same, bs ++ [r], by rw [List.map_append]; rfl, by rw [List.length_append, hn4]; rfl⟩
    · rintro ys H3 ⟨F3, S3, hB, bs, rfl, hbl⟩
      have F3 := F3.mono (m := n + 8) (by omega)
      have hbl : (bs.length : Int) = works := by omega
      refine ⟨_, rfl, by show 2 ≤ sizeLine; decide, fun p1 hp1 => ?_⟩
      refine ⟨_, rfl, f, c, _, _, rfl, by decide, by decide, F3.new hp1, by omega, fun r1 H4 a4 b4 F4 S4 => ⟨rfl, .inr ⟨_, rfl, ?_⟩⟩⟩
      obtain ⟨v1, hv1, most, rfl, hm1, hm3⟩ := pickI (xs := [.int most0, .int 24]) (r := if decide (V.int r1 = V.int 0) = true then 1 else 0) (fun v => ∃ z : Int, v = .int z ∧ 0 ≤ z ∧ z ≤ 24) (by split <;> omega) (by show _ < (2 : Int); split <;> omega) (by
        intro x hx
        simp only [List.mem_cons, List.not_mem_nil, or_false] at hx
        rcases hx with rfl | rfl <;> exact ⟨_, rfl, by omega, by omega⟩)
      refine ⟨p1, _, _, _, rfl, rfl, SqL.of (S4 p1 _ (F3.away hp1).1 upd_same), hv1, ?_⟩
      have hB4 := S4 D _ aw.1 (Same.new hp1 _ _ hB)
      have S04 := S3.trans ((Sm.new hp1).trans S4)
      refine ⟨_, rfl, f, c, _, _, rfl, by decide, by decide, F4, by omega, fun way H5 a5 b5 F5 S5 => ?_⟩
      have hB5 := S5 D _ aw.1 hB4
      have S05 := S04.trans S5
      refine ⟨by show 0 ≤ sizeLine; decide, fun L hL => ?_⟩
      have awL := F5.away hL
      have hDL : D ≠ L := ne_of_none hB5 hL
      have hL0 : H L = none := hF.free F5 S05 hL
      refine ⟨_, rfl, _, _, rfl, rfl, _, rfl, _, rfl, _, _, rfl, rfl, _, rfl, _, rfl, _, _, rfl, rfl, f, c, _, _, rfl, by omega, by omega, F5.new hL, by omega, fun r6 H6 a6 b6 F6 S6 => ?_⟩
      refine ⟨_, rfl, _, rfl, by show 6 ≤ sizeLine; decide, fun p6 hp6 => ?_⟩
      refine ⟨_, rfl, f, c, _, _, rfl, by decide, by decide, F6.new hp6, by omega, fun r7 H7 a7 b7 F7 S7 => ?_⟩
      obtain ⟨v7, hv7, many, rfl, hy1, hy2⟩ := pickI (xs := [.int (works - 1), .int works, .int (works + 1), .int r6, .int most, .int works]) (fun v => ∃ z : Int, v = .int z ∧ 0 ≤ z ∧ z ≤ 24) a7 b7 (by
        intro x hx
        simp only [List.mem_cons, List.not_mem_nil, or_false] at hx
        rcases hx with rfl | rfl | rfl | rfl | rfl | rfl <;> exact ⟨_, rfl, by omega, by omega⟩)
      refine ⟨p6, _, _, _, rfl, rfl, SqL.of (S7 p6 _ (F6.away hp6).1 upd_same), hv7, ?_⟩
      have S57 : Sm f (upd H5 L (.lst [])) H7 := S6.trans ((Sm.new hp6).trans S7)
      have hB7 := S57 D _ aw.1 (Same.new hL _ _ hB5)
      have hL7 : H7 L = some (.lst []) := S57 L _ awL.1 upd_same
      have S07 : Sm f H H7 := S05.trans ((Sm.new hL).trans S57)
      try simp only [List.set_cons_zero, List.set_cons_succ]
      refine ⟨_, rfl, _, rfl, _, _, rfl, _, rfl, by split <;> omega, by split <;> omega, ?_⟩
      refine for_range (lo := 0) (n := (if many < most then many else most).toNat) (fun i σ H8 => ∃ o8 o9 o10 o11, σ = [some (.ref f), some (.int works), some (.int m), some (.int most), some (.ref D), some (.int way), some (.ref L), some (.int many), o8, o9, o10, o11] ∧ FeedB H8 f c (n + 20 + 30 * i) ∧ Sm f H H8 ∧ H8 D = some (.lst (bs.map V.int)) ∧
        ∃ (sps : List Spn) (xs : List V), H8 L = some (.lst xs) ∧ DVs K H8 xs (sps.map Spn.d) ∧ sps.length = i ∧ ∀ x ∈ sps, x.Ok works)
        ⟨_, _, _, _, rfl, F7.mono (by omega), S07, hB7, [], [], hL7, .nil, rfl, fun _ h => nomatch h⟩ ?_ ?_
      · rintro i σ H8 hi ⟨o8, o9, o10, o11, rfl, F8, S8, hB8, sps, xs, hL8, dv8, hsl, ok8⟩
        have hi24 : i < 24 := by have : (if many < most then many else most) ≤ 24 := by split <;> omega
                                 omega
        have hxl : xs.length = i := by rw [dv8.length, List.length_map, hsl]
        refine ⟨_, rfl, _, rfl, f, c, _, _, rfl, by omega, by omega, F8, by omega, fun one H9 a9 b9 F9 S9 => ?_⟩
        refine ⟨_, rfl, _, rfl, f, c, _, _, rfl, by omega, by omega, F9, by omega, fun other H10 a10 b10 F10 S10 => ⟨_, _, rfl, ?_⟩⟩
        try simp only [List.set_cons_zero, List.set_cons_succ]
        refine seq_cut (fun σ' H' => ∃ other' : Int, σ' = [some (.ref f), some (.int works), some (.int m), some (.int most), some (.ref D), some (.int way), some (.ref L), some (.int many), some (.int (0 + (i : Int))), o9, some (.int one), some (.int other')] ∧ 0 ≤ other' ∧ other' < works ∧ FeedB H' f c (n + 20 + 30 * i + 3) ∧ Sm f H10 H') ?_ ?_
        rotate_left
        · intro N hN
          refine ⟨_, rfl, _, rfl, rfl, _, rfl, ite2 (fun _ => ?_) (fun _ => ?_)⟩
          · refine ⟨_, rfl, f, c, _, _, rfl, by decide, by decide, F10, by omega, fun r H11 a11 b11 F11 S11 => ⟨_, _, rfl, rfl, _, rfl, ite2 (fun _ => ?_) (fun _ => ?_)⟩⟩
            · refine ⟨_, rfl, _, _, rfl, rfl, _, rfl, _, _, rfl, rfl, hw, hN _ _ ⟨_, rfl, Int.emod_nonneg _ (by omega), Int.emod_lt_of_pos _ hw, F11.mono (by omega), S11⟩⟩
            · exact hN _ _ ⟨_, rfl, a10, b10, F11.mono (by omega), S11⟩
          · exact hN _ _ ⟨_, rfl, a10, b10, F10.mono (by omega), Sm.refl _ _⟩
        rintro _ H11 ⟨other, rfl, a11, b11, F11, S11⟩
        refine seq_cut (fun σ' H' => ∃ one' other' : Int, σ' = [some (.ref f), some (.int works), some (.int m), some (.int most), some (.ref D), some (.int way), some (.ref L), some (.int many), some (.int (0 + (i : Int))), o9, some (.int one'), some (.int other')] ∧ 0 ≤ one' ∧ one' < works ∧ 0 ≤ other' ∧ other' < works ∧ FeedB H' f c (n + 20 + 30 * i + 4) ∧ Sm f H11 H') ?_ ?_
        rotate_left
        · intro N hN
          refine ⟨_, rfl, _, _, rfl, rfl, _, rfl, _, _, rfl, rfl, _, rfl, ite2 (fun hk => ?_) (fun _ => ?_)⟩
          · have hk := of_decide_eq_true hk
            refine ⟨_, rfl, _, _, rfl, rfl, _, rfl, _, rfl, _, _, rfl, rfl, f, c, _, _, rfl, by omega, by omega, F11, by omega, fun r H12 a12 b12 F12 S12 => ⟨_, _, rfl, hN _ _ ⟨_, _, rfl, by omega, by omega, a12, by omega, F12.mono (by omega), S12⟩⟩⟩
          · exact hN _ _ ⟨_, _, rfl, a9, b9, a11, b11, F11.mono (by omega), Sm.refl _ _⟩
        rintro _ H12 ⟨one, other, rfl, p12, q12, a12, b12, F12, S12⟩
        refine seq_cut (fun σ' H' => ∃ one' other' : Int, σ' = [some (.ref f), some (.int works), some (.int m), some (.int most), some (.ref D), some (.int way), some (.ref L), some (.int many), some (.int (0 + (i : Int))), o9, some (.int one'), some (.int other')] ∧ 0 ≤ one' ∧ one' < works ∧ 0 ≤ other' ∧ other' < works ∧ FeedB H' f c (n + 20 + 30 * i + 5) ∧ Sm f H12 H') ?_ ?_
        rotate_left
        · intro N hN
          refine ⟨_, rfl, _, rfl, by show 2 ≤ sizeLine; decide, fun t1 ht1 => ?_⟩
          refine ⟨_, rfl, _, rfl, by show 2 ≤ sizeLine; decide, fun t2 ht2 => ?_⟩
          refine ⟨by show 2 ≤ sizeLine; decide, fun p13 hp13 => ?_⟩
          have F13 := ((F12.new (o := .tup [.int one, .int other]) ht1).new (o := .tup [.int other, .int one]) ht2).new (o := .lst [.ref t1, .ref t2]) hp13
          refine ⟨_, rfl, f, c, _, _, rfl, by decide, by decide, F13, by omega, fun r H14 a14 b14 F14 S14 => ?_⟩
          have T14 := F13.tk S14
          obtain ⟨v14, hv14, t, x, y, rfl, ht, k1, k2, k3, k4⟩ := pickI (xs := [.ref t1, .ref t2]) (fun v => ∃ (t : Addr) (x y : Int), v = .ref t ∧ H14 t = some (.tup [.int x, .int y]) ∧ 0 ≤ x ∧ x < works ∧ 0 ≤ y ∧ y < works) a14 b14 (by
            intro x hx
            simp only [List.mem_cons, List.not_mem_nil, or_false] at hx
            rcases hx with rfl | rfl
            · exact ⟨_, _, _, rfl, T14 _ _ (Same.new hp13 _ _ (Same.new ht2 _ _ upd_same)), p12, q12, a12, b12⟩
            · exact ⟨_, _, _, rfl, T14 _ _ (Same.new hp13 _ _ upd_same), a12, b12, p12, q12⟩)
          refine ⟨p13, _, _, _, rfl, rfl, SqL.of (S14 p13 _ (((F12.new ht1).new ht2).away hp13).1 upd_same), hv14, ?_⟩
          refine ⟨t, _, rfl, SqT.of ht, rfl, _, _, rfl, _, _, rfl, rfl, hN _ _ ⟨_, _, rfl, k1, k2, k3, k4, F14.mono (by omega), ((Sm.new ht1).trans ((Sm.new ht2).trans (Sm.new hp13))).trans S14⟩⟩
        rintro _ H13 ⟨one, other, rfl, p13, q13, a13, b13, F13, S13⟩
        refine seq_cut (fun σ' H' => ∃ od : Bool, σ' = [some (.ref f), some (.int works), some (.int m), some (.int most), some (.ref D), some (.int way), some (.ref L), some (.int many), some (.int (0 + (i : Int))), some (.bl od), some (.int one), some (.int other)] ∧ FeedB H' f c (n + 20 + 30 * i + 6) ∧ Sm f H13 H') ?_ ?_
        rotate_left
        · intro N hN
          refine ⟨_, rfl, rfl, _, rfl, ite2 (fun _ => ?_) (fun _ => ?_)⟩
          · exact hN _ _ ⟨_, rfl, F13.mono (by omega), Sm.refl _ _⟩
          · refine ⟨_, rfl, _, _, rfl, rfl, _, rfl, ite2 (fun _ => ?_) (fun _ => ?_)⟩
            · refine ⟨_, rfl, f, c, _, _, rfl, by decide, by decide, F13, by omega, fun r H14 a14 b14 F14 S14 => ⟨rfl, hN _ _ ⟨_, rfl, F14.mono (by omega), S14⟩⟩⟩
            · exact hN _ _ ⟨_, rfl, F13.mono (by omega), Sm.refl _ _⟩
        rintro _ H14 ⟨od, rfl, F14, S14⟩
        have S814 : Sm f H8 H14 := S9.trans (S10.trans (S11.trans (S12.trans (S13.trans S14))))
        have hL14 := S814 L _ awL.1 hL8
        have hB14 := S814 D _ aw.1 hB8
        have dv14 := dv8.tk (F8.tk S814) (noLs_spans _)
        refine ⟨_, rfl, .inl ⟨rfl, _, SqL.of hL14⟩, ?_⟩
        have hil : xs.length < sizeLine := by rw [hxl]; exact Nat.lt_of_lt_of_le hi24 (by decide)
        refine ⟨_, rfl, od, rfl, ite2 (fun _ => ?_) (fun _ => ?_)⟩
        · refine ⟨_, rfl, _, rfl, _, rfl, _, rfl, f, c, m, one, other, _, works, rfl, p13, q13, a13, b13, by omega, by omega, F14, by omega, fun q s1 H15 F15 S15 hq hs1 => ?_⟩
          have hL15 := S15 L _ awL.1 hL14
          refine ⟨L, xs, _, rfl, rfl, hL15, hil, ?_⟩
          refine ⟨_, _, _, _, rfl, (F15.off awL.1 awL.2).mono (by omega), (S8.trans (S814.trans S15)).acc hL0, by rw [upd_ne hDL]; exact S15 D _ aw.1 hB14, sps ++ [s1], _, upd_same, ?_, by rw [List.length_append, hsl]; rfl, fun x hx => ?_⟩
          · rw [List.map_append]
            exact (dv14.tk ((F14.tk S15).trans (TK.updL hL15)) (noLs_spans _)).append (.cons (at_span ((TK.updL hL15) q _ hq)) .nil)
          · rcases List.mem_append.mp hx with z | z
            · exact ok8 x z
            · rw [List.mem_singleton.mp z]; exact hs1
        · refine ⟨_, rfl, _, rfl, _, rfl, _, rfl, _, rfl, f, c, D, bs, m, one, other, _, rfl, hB14, by omega, p13, by omega, a13, by omega, by omega, by omega, F14, by omega, fun q s1 H15 F15 S15 hq hs1 => ?_⟩
          have hL15 := S15 L _ awL.1 hL14
          refine ⟨L, xs, _, rfl, rfl, hL15, hil, ?_⟩
          refine ⟨_, _, _, _, rfl, (F15.off awL.1 awL.2).mono (by omega), (S8.trans (S814.trans S15)).acc hL0, by rw [upd_ne hDL]; exact S15 D _ aw.1 hB14, sps ++ [s1], _, upd_same, ?_, by rw [List.length_append, hsl]; rfl, fun x hx => ?_⟩
          · rw [List.map_append]
            exact (dv14.tk ((F14.tk S15).trans (TK.updL hL15)) (noLs_spans _)).append (.cons (at_span ((TK.updL hL15) q _ hq)) .nil)
          · rcases List.mem_append.mp hx with z | z
            · exact ok8 x z
            · rw [List.mem_singleton.mp z, ← hbl]; exact hs1
      · rintro σ H8 ⟨o8, o9, o10, o11, rfl, F8, S8, hB8, sps, xs, hL8, dv8, hsl, ok8⟩
        have hle : sps.length ≤ 24 := by
          have : (if many < most then many else most) ≤ 24 := by split <;> omega
          omega
        have hlm : (sps.length : Int) ≤ most := by
          have : (if many < most then many else most) ≤ most := by split <;> omega
          omega
        have hxl : xs.length = sps.length := by rw [dv8.length, List.length_map]
        have F8 := F8.mono (m := n + 800) (by omega)
        dsimp only
        refine seq_cut (fun σ' H' => ∃ (L2 : Addr) (sps' : List Spn) (xs' : List V), σ' = [some (.ref f), some (.int works), some (.int m), some (.int most), some (.ref D), some (.int way), some (.ref L2), some (.int many), o8, o9, o10, o11] ∧ FeedB H' f c (n + 810) ∧ Sm f H8 H' ∧ H' L2 = some (.lst xs') ∧ DVs K H' xs' (sps'.map Spn.d) ∧ sps'.length ≤ 24 ∧ ∀ x ∈ sps', x.Ok works) ?_ ?_
        rotate_left
        · intro N hN
          refine ⟨_, rfl, _, rfl, _, rfl, L, _, rfl, SqL.of hL8, fun p9 hp9 => ?_⟩
          have F9 := F8.new (o := .lst (cutV xs none (some 1))) hp9
          have aw9 := F8.away hp9
          have hL9 := Same.new (o := .lst (cutV xs none (some 1))) hp9 _ _ hL8
          have hp9' : (upd H8 p9 (.lst (cutV xs none (some 1)))) p9 = some (.lst (cutV xs none (some 1))) := upd_same
          have S9 : Sm f H8 (upd H8 p9 (.lst (cutV xs none (some 1)))) := Sm.new hp9
          revert F9 hL9 hp9' S9
          generalize upd H8 p9 (.lst (cutV xs none (some 1))) = H9
          intro F9 hL9 hp9' S9
          have hcut : cutV xs none (some 1) = xs.take 1 := by
            cases xs with
            | nil => rfl
            | cons x r => exact (cut_lo (i := 1) (by decide) (by simp only [List.length_cons]; omega)).1
          rw [hcut] at hp9'
          have fin : ∀ (b : Bool) (HH : Hp), (b = true → xs.length < 24) → FeedB HH f c (n + 801) → Sm f H9 HH →
              ∃ l k zs, V.ref p9 = .ref l ∧ V.int (if b = true then 1 else 0) = .int k ∧ HH l = some (.lst zs) ∧ -(2 ^ 63) ≤ k ∧ k < 2 ^ 63 ∧ zs.length * k.toNat ≤ sizeLine ∧ ∀ p, HH p = none →
                ∃ l' b' xs' zs', V.ref L = .ref l' ∧ V.ref p = .ref b' ∧ (upd HH p (.lst (List.replicate k.toNat zs).flatten)) l' = some (.lst xs') ∧ (upd HH p (.lst (List.replicate k.toNat zs).flatten)) b' = some (.lst zs') ∧ xs'.length + zs'.length ≤ sizeLine ∧ ∀ q, (upd HH p (.lst (List.replicate k.toNat zs).flatten)) q = none →
                  N [some (.ref f), some (.int works), some (.int m), some (.int most), some (.ref D), some (.int way), some (.ref q), some (.int many), o8, o9, o10, o11] (upd (upd HH p (.lst (List.replicate k.toNat zs).flatten)) q (.lst (xs' ++ zs'))) := by
            intro b HH hb FH SH
            have hpH := SH p9 _ aw9.1 hp9'
            have hLH := SH L _ awL.1 hL9
            have dvH := (dv8.tk ((F8.tk S9).trans (F9.tk SH)) (noLs_spans _))
            have ht1 : (xs.take 1).length ≤ 1 := by rw [List.length_take]; omega
            refine ⟨p9, (if b = true then 1 else 0), xs.take 1, rfl, rfl, hpH, by split <;> decide, by split <;> decide, ?_, fun p hp => ?_⟩
            · refine Nat.le_trans (Nat.mul_le_mul ht1 (show _ ≤ 1 by split <;> decide)) (by decide)
            have dz : ∃ sz : List Spn, DVs K HH (List.replicate (if b = true then (1 : Int) else 0).toNat (xs.take 1)).flatten (sz.map Spn.d) ∧ (∀ x ∈ sz, x ∈ sps) ∧ sps.length + sz.length ≤ 24 := by
              cases b with
              | false => exact ⟨[], .nil, fun _ h => (nomatch h), by simpa using hle⟩
              | true =>
                refine ⟨sps.take 1, ?_, fun x hx => List.mem_of_mem_take hx, ?_⟩
                · have := DVs.take dvH 1
                  rw [← List.map_take] at this
                  simpa using this
                · have := hb rfl
                  rw [List.length_take]
                  omega
            obtain ⟨sz, dz, hsz, hszl⟩ := dz
            have hzl : (List.replicate (if b = true then (1 : Int) else 0).toNat (xs.take 1)).flatten.length = sz.length := by rw [dz.length, List.length_map]
            have hxH := Same.new (o := .lst (List.replicate (if b = true then (1 : Int) else 0).toNat (xs.take 1)).flatten) hp _ _ hLH
            refine ⟨L, p, xs, _, rfl, rfl, hxH, upd_same, ?_, fun q hq => ?_⟩
            · rw [hzl, hxl]
              exact Nat.le_trans hszl (by decide)
            have tk : TK HH (upd (upd HH p (.lst (List.replicate (if b = true then (1 : Int) else 0).toNat (xs.take 1)).flatten)) q (.lst (xs ++ (List.replicate (if b = true then (1 : Int) else 0).toNat (xs.take 1)).flatten))) := (TK.new hp).trans (TK.new hq)
            refine hN _ _ ⟨q, sps ++ sz, _, rfl, ((FH.new hp).new hq).mono (by omega), S9.trans (SH.trans ((Sm.new hp).trans (Sm.new hq))), upd_same, ?_, by rw [List.length_append]; omega, fun x hx => ?_⟩
            · rw [List.map_append]
              exact (dvH.tk tk (noLs_spans _)).append (dz.tk tk (noLs_spans _))
            · rcases List.mem_append.mp hx with z | z
              · exact ok8 x z
              · exact ok8 x (hsz x z)
          refine ⟨_, rfl, L, _, rfl, .inl (SqL.of hL9), _, _, rfl, rfl, _, rfl, ite2 (fun _ => ?_) (fun _ => ?_)⟩
          · refine ⟨_, rfl, _, _, rfl, rfl, _, rfl, ite2 (fun hlt => ?_) (fun _ => ?_)⟩
            · have hlt := of_decide_eq_true hlt
              refine ⟨_, rfl, f, c, _, _, rfl, by decide, by decide, F9, by omega, fun r H10 a10 b10 F10 S10 => ⟨rfl, .inr ⟨_, rfl, ?_⟩⟩⟩
              exact fin _ H10 (fun _ => by omega) (F10.mono (by omega)) S10
            · exact .inr ⟨_, rfl, fin false H9 (fun h => nomatch h) (F9.mono (by omega)) (Sm.refl _ _)⟩
          · exact ⟨_, rfl, iteF (.inr ⟨_, rfl, fin false H9 (fun h => nomatch h) (F9.mono (by omega)) (Sm.refl _ _)⟩)⟩
        rintro _ H9 ⟨L2, sps2, xs2, rfl, F9, S9, hL9, dv9, hle2, ok9⟩
        have S09 : Sm f H H9 := S8.trans S9
        refine seq_cut (fun σ' H' => ∃ (L2 : Addr) (sps' : List Spn) (xs' : List V), σ' = [some (.ref f), some (.int works), some (.int m), some (.int most), some (.ref D), some (.int way), some (.ref L2), some (.int many), o8, o9, o10, o11] ∧ FeedB H' f c (n + 820) ∧ Sm f H9 H' ∧ H' L2 = some (.lst xs') ∧ DVs K H' xs' (sps'.map Spn.d) ∧ sps'.length ≤ 24 ∧ ∀ x ∈ sps', x.Ok works) ?_ ?_
        rotate_left
        · intro N hN
          refine ⟨_, rfl, _, rfl, by show 2 ≤ sizeLine; decide, fun p10 hp10 => ?_⟩
          refine ⟨_, rfl, f, c, _, _, rfl, by decide, by decide, F9.new hp10, by omega, fun r H11 a11 b11 F11 S11 => ⟨rfl, .inr ⟨_, rfl, ?_⟩⟩⟩
          have hp11 := S11 p10 _ (F9.away hp10).1 upd_same
          have S911 : Sm f H9 H11 := (Sm.new hp10).trans S11
          have hLf : L2 ≠ f := by
            obtain ⟨kvs, e⟩ := F9.some
            exact ne_of hL9 e (by intro z; cases z)
          have hL11 := S911 L2 _ hLf hL9
          have dv11 := dv9.tk (F9.tk S911) (noLs_spans _)
          generalize decide (V.int r = V.int 0) = b
          cases b with
          | false =>
            refine ⟨p10, _, _, _, rfl, rfl, SqL.of hp11, pickN (by decide) rfl, L2, _, rfl, SqL.of hL11, .inl ⟨rfl, fun q hq => hN _ _ ⟨q, sps2, xs2, rfl, (F11.new hq).mono (by omega), S911.trans (Sm.new hq), upd_same, dv11.tk (TK.new hq) (noLs_spans _), hle2, ok9⟩⟩⟩
          | true =>
            refine ⟨p10, _, _, _, rfl, rfl, SqL.of hp11, pickN (by decide) rfl, L2, _, rfl, SqL.of hL11, .inr ⟨rfl, fun q hq => hN _ _ ⟨q, sps2.reverse, xs2.reverse, rfl, (F11.new hq).mono (by omega), S911.trans (Sm.new hq), upd_same, ?_, by rw [List.length_reverse]; exact hle2, fun x hx => ok9 x (List.mem_reverse.mp hx)⟩⟩⟩
            rw [List.map_reverse]
            exact dvs_rev (dv11.tk (TK.new hq) (noLs_spans _))
        rintro _ H10 ⟨L3, sps3, xs3, rfl, F10, S10, hL10, dv10, hle3, ok10⟩
        have S010 : Sm f H H10 := S09.trans S10
        refine ⟨by show 8 ≤ sizeLine; decide, fun t ht => ⟨_, rfl, _, rfl, ?_⟩⟩
        have htT : (upd H10 t (.tup (nm8.map V.str))) t = some (.tup (nm8.map V.str)) := upd_same
        have F11 := F10.new (o := .tup (nm8.map V.str)) ht
        have S011 : Sm f H (upd H10 t (.tup (nm8.map V.str))) := S010.trans (Sm.new ht)
        have hL11 := Same.new (o := .tup (nm8.map V.str)) ht _ _ hL10
        have dv11 := dv10.tk (TK.new (o := .tup (nm8.map V.str)) ht) (noLs_spans _)
        have hcl := cut_lo (xs := nm8.map V.str) (i := works) (by omega) (by show works ≤ 8; omega)
        have hLf : L3 ≠ f := by
          obtain ⟨kvs, e⟩ := F10.some
          exact ne_of hL10 e (by intro z; cases z)
        have hall : ∀ x ∈ nm8.take works.toNat, x ∈ allNames := fun x hx => nm8_all x (List.mem_of_mem_take hx)
        have hnl : ((nm8.take works.toNat).length : Int) = works := by rw [List.length_take]; show ((min works.toNat 8 : Nat) : Int) = works; omega
        have fin : ∀ (u : Addr) (HH : Hp), FeedB HH f c (n + 820) → Sm f H HH → TK (upd H10 t (.tup (nm8.map V.str))) HH → HH L3 = some (.lst xs3) → HH u = some (.tup ((nm8.take works.toNat).map V.str)) → ∀ l, HH l = none → ∀ p, (upd HH l (.tup xs3)) p = none → Q (.ref p) (upd (upd HH l (.tup xs3)) p (.tup [.ref u, .ref l])) := by
          intro u HH FH SH TH hLH hu l hl p hp
          have tk1 : TK HH (upd (upd HH l (.tup xs3)) p (.tup [.ref u, .ref l])) := (TK.new hl).trans (TK.new hp)
          refine k p ⟨nm8.take works.toNat, sps3⟩ _ (((FH.new hl).new hp).mono (by omega)) (SH.trans ((Sm.new hl).trans (Sm.new hp))) ?_ ⟨hnl, hall, by show (sps3.length : Int) ≤ 24; omega, ok10⟩
          exact .tup upd_same (.cons (.tup (tk1 u _ hu) (dvs_strs _)) (.cons (.tup ((TK.new hp) l _ upd_same) (dv11.tk (TH.trans tk1) (noLs_spans _))) .nil))
        by_cases h8 : works = 8
        · refine .inr ⟨t, _, rfl, SqT.of htT, ⟨rfl, by rw [hcl.2, h8]; rfl⟩, ?_⟩
          refine ⟨_, rfl, L3, _, rfl, .inl ⟨SqL.of hL11, fun l hl => ⟨by show 2 ≤ sizeLine; decide, fun p hp => ?_⟩⟩⟩
          exact fin t _ F11 S011 (fun _ _ h => h) hL11 (by rw [htT, h8]; rfl) l hl p hp
        · refine .inl ⟨t, _, rfl, SqT.of htT, fun hh => ?_, fun u hu => ?_⟩
          · rw [hcl.2] at hh
            have : works.toNat = 8 := hh.2
            omega
          · rw [hcl.1, ← List.map_take] at *
            refine ⟨_, rfl, L3, _, rfl, .inl ⟨SqL.of (Same.new hu _ _ hL11), fun l hl => ⟨by show 2 ≤ sizeLine; decide, fun p hp => ?_⟩⟩⟩
            exact fin u _ (F11.new hu) (S011.trans (Sm.new hu)) (TK.new hu) (Same.new hu _ _ hL11) upd_same l hl p hp
end

section
variable {P : Program} {w : World} {K : PySem.W.Frag} {mg : Str → Option Value} {base : Heap}
theorem sc_law_some_weights : FnScope ["_law_feed", "_law_plan", "_law_way", "_law_found", "_law_span"] ["_law_feed", "_law_plan"] (defScope s_law_some_weights) := ⟨rfl, rfl, rfl, by decide +kernel, rfl, by decide +kernel, by decide +kernel⟩
theorem ok_law_some_weights {f : Addr} {fd : FuncData} (F : Fun K "_law_some_weights" "_law_some_weights" s_law_some_weights f fd) (T : Txt mg) (D_law_draw : Def P w K mg base 1 "_law_draw" ["_law_feed", "_law_many"] sp_drawB) : FnOk P w K mg base CX0 2 f fd ["_law_feed", "_law_plan"] (sp_some_weights K) := by
  refine F.ok sc_law_some_weights (fun vs H Q E h => ?_) (fun cdv A outer s H vs Q E hr h => ?_)
  · obtain ⟨f, c, x, Pl, n, rfl, _⟩ := h
    rfl
  · obtain ⟨f, c, x, Pl, n, rfl, hs, hz, hF, hn, k⟩ := h
    have hN : nMax = 1000000000000 := rfl
    obtain ⟨p, pn, ps, xs, rfl, e, e1, e2, r⟩ := plan_at hs
    have hxl : xs.length = Pl.spans.length := by rw [r.length, List.length_map]
    refine ⟨_, (@pss_cons _ _ _ _ _ (@ps_set _ _ 2 _ _ _ _ sc_law_some_weights.nd rfl (Or.inl rfl) (@pe_own _ _ _ _ _ _ _ _ _ _ D_law_draw (hr.mono (by decide)) rfl (@pa_name _ _ _ _ _ _ (@pv _ 0 _ _ rfl (Or.inl rfl) (by decide) (by decide)) (@pa_const _ _ _ _ _ _ _ (@pe_int _ _ _ _) (@pa_nil _))) (by decide) (by rfl) (by rfl)) (by rfl) (by first | exact Or.inl rfl | exact Or.inr rfl | assumption)) (@pss_cons _ _ _ _ _ (@ps_set _ _ 3 _ _ _ _ sc_law_some_weights.nd rfl (Or.inl rfl) (@pe_lst _ _ _ _ (@pa_nil _)) (by rfl) (by first | exact Or.inl rfl | exact Or.inr rfl | assumption)) (@pss_cons _ _ _ _ _ (@ps_for _ _ _ _ _ _ _ _ PassesOwn.never rfl (@pi_tup _ _ _ _ (@pe_ix _ _ _ _ _ _ _ ix_tup (@pv _ 1 _ _ rfl (Or.inl rfl) (by decide) (by decide)) (@pe_int _ _ _ _) (fun _ _ => rfl))) (@pg_name _ _ 4 _ sc_law_some_weights.nd rfl (Or.inl rfl) (by first | exact Or.inl rfl | exact Or.inr rfl | assumption)) (@pss_one _ _ _ (@ps_expr _ _ _ _ (@pe_bm _ _ _ _ _ _ _ _ _ _ _ _ PySem.F.plainAttrs_list PySem.F.slot_list_append PySem.F.type_list_append mt_append (@pv _ 3 _ _ rfl (Or.inl rfl) (by decide) (by decide)) (@pa_sub _ _ _ _ _ _ _ (@pe_ix _ _ _ _ _ _ _ ix_list (@pe_lst _ _ _ _ (@pa_call _ _ _ _ _ _ _ _ (@pe_own _ _ _ _ _ _ _ _ _ _ D_law_draw (hr.mono (by decide)) rfl (@pa_name _ _ _ _ _ _ (@pv _ 0 _ _ rfl (Or.inl rfl) (by decide) (by decide)) (@pa_const _ _ _ _ _ _ _ (@pe_int _ _ _ _) (@pa_nil _))) (by decide) (by rfl) (by rfl)) (@pa_call _ _ _ _ _ _ _ _ (@pe_own _ _ _ _ _ _ _ _ _ _ D_law_draw (hr.mono (by decide)) rfl (@pa_name _ _ _ _ _ _ (@pv _ 0 _ _ rfl (Or.inl rfl) (by decide) (by decide)) (@pa_const _ _ _ _ _ _ _ (@pe_int _ _ _ _) (@pa_nil _))) (by decide) (by rfl) (by rfl)) (@pa_sub _ _ _ _ _ _ _ (@pe_ix _ _ _ _ _ _ _ ix_list (@pe_lst _ _ _ _ (@pa_const _ _ _ _ _ _ _ (@pe_int _ _ _ _) (@pa_const _ _ _ _ _ _ _ (@pe_int _ _ _ _) (@pa_const _ _ _ _ _ _ _ (@pe_int _ _ _ _) (@pa_nil _))))) (@pe_own _ _ _ _ _ _ _ _ _ _ D_law_draw (hr.mono (by decide)) rfl (@pa_name _ _ _ _ _ _ (@pv _ 0 _ _ rfl (Or.inl rfl) (by decide) (by decide)) (@pa_const _ _ _ _ _ _ _ (@pe_int _ _ _ _) (@pa_nil _))) (by decide) (by rfl) (by rfl)) (fun _ _ => rfl)) (@pa_nil _))))) (@pv _ 2 _ _ rfl (Or.inl rfl) (by decide) (by decide)) (fun _ _ => rfl)) (@pa_nil _)) (by rfl) (by rfl) (by rfl) (by rfl) (by rfl)) (by rfl))) (by intro _ ; rfl)) (@pss_one _ _ _ (@ps_ret _ _ _ _ (@pe_callTy _ _ _ _ _ _ _ _ _ call_tuple_of rfl T.n_tuple PyProof.Rows.boot_tuple (@pa_name _ _ _ _ _ _ (@pv _ 3 _ _ rfl (Or.inl rfl) (by decide) (by decide)) (@pa_nil _)) (by decide) (by decide) (by rfl) (by rfl))))))), ?_⟩
    refine ⟨_, rfl, f, c, _, _, rfl, by decide, by decide, hF, by omega, fun way H1 a1 b1 F1 S1 => ?_⟩
    have T1 := hF.tk S1
    refine ⟨by show 0 ≤ sizeLine; decide, fun L hL => ?_⟩
    have awL := F1.away hL
    have hL0 : H L = none := hF.free F1 S1 hL
    refine ⟨_, rfl, p, _, _, _, rfl, rfl, SqT.of (Same.new hL _ _ (T1 _ _ e)), pickN (by decide) rfl, ps, rfl, ⟨_, SqT.of (Same.new hL _ _ (T1 _ _ e2))⟩, ?_⟩
    refine for_tup (K := K) (a := ps) (xs := xs) (fun i σ H3 => ∃ o4, σ = [some (.ref f), some (.ref p), some (.int way), some (.ref L), o4] ∧ FeedB H3 f c (n + 2 + 4 * i) ∧ Sm f H H3 ∧ TK H H3 ∧ ∃ ws : List Int, H3 L = some (.lst (ws.map V.int)) ∧ ws.length = i ∧ ∀ z ∈ ws, 0 ≤ z ∧ z ≤ 99)
      ⟨_, rfl, (F1.new hL).mono (by omega), S1.trans (Sm.new hL), T1.trans (TK.new hL), [], upd_same, rfl, fun _ h => nomatch h⟩ (fun i σ H3 _ ⟨_, _, _, _, t, _⟩ => SqT.of (t _ _ e2)) ?_ ?_
    · rintro i x σ H3 hi ⟨o4, rfl, F3, S3, T3, ws, hL3, hwl, hwr⟩
      have hi' : i < xs.length := (List.getElem?_eq_some_iff.mp hi).1
      refine ⟨_, rfl, .inl ⟨rfl, _, SqL.of hL3⟩, ?_⟩
      refine ⟨_, rfl, f, c, _, _, rfl, by decide, by decide, F3, by omega, fun r4 H4 a4 b4 F4 S4 => ?_⟩
      refine ⟨_, rfl, f, c, _, _, rfl, by decide, by decide, F4, by omega, fun r5 H5 a5 b5 F5 S5 => ?_⟩
      refine ⟨by show 3 ≤ sizeLine; decide, fun p6 hp6 => ?_⟩
      refine ⟨_, rfl, f, c, _, _, rfl, by decide, by decide, F5.new hp6, by omega, fun r6 H6 a6 b6 F6 S6 => ?_⟩
      obtain ⟨v6, hv6, z6, rfl, hy1, hy2⟩ := pickI (xs := [.int 0, .int 1, .int 99]) (fun v => ∃ z : Int, v = .int z ∧ 0 ≤ z ∧ z ≤ 99) a6 b6 (by
        intro x hx
        simp only [List.mem_cons, List.not_mem_nil, or_false] at hx
        rcases hx with rfl | rfl | rfl <;> exact ⟨_, rfl, by omega, by omega⟩)
      refine ⟨p6, _, _, _, rfl, rfl, SqL.of (S6 p6 _ (F5.away hp6).1 upd_same), hv6, ?_⟩
      refine ⟨by show 3 ≤ sizeLine; decide, fun p7 hp7 => ?_⟩
      obtain ⟨v7, hv7, z7, rfl, hx1, hx2⟩ := pickI (xs := [.int r4, .int r5, .int z6]) (fun v => ∃ z : Int, v = .int z ∧ 0 ≤ z ∧ z ≤ 99) a1 b1 (by
        intro x hx
        simp only [List.mem_cons, List.not_mem_nil, or_false] at hx
        rcases hx with rfl | rfl | rfl <;> exact ⟨_, rfl, by omega, by omega⟩)
      refine ⟨_, rfl, p7, _, _, _, rfl, rfl, SqL.of upd_same, hv7, ?_⟩
      have S37 : Sm f H3 (upd H6 p7 (.lst [.int r4, .int r5, .int z6])) := S4.trans (S5.trans ((Sm.new hp6).trans (S6.trans (Sm.new hp7))))
      have hL7 := S37 L _ awL.1 hL3
      refine ⟨L, _, _, rfl, rfl, hL7, by rw [List.length_map, hwl]; exact Nat.lt_of_lt_of_le hi' (Nat.le_trans (show xs.length ≤ 24 by omega) (by decide)), ?_⟩
      refine ⟨_, rfl, ((F6.new hp7).off awL.1 awL.2).mono (by omega), (S3.trans S37).acc hL0, (T3.trans (F3.tk S37)).trans (TK.updL hL7), ws ++ [z7], by rw [List.map_append]; exact upd_same, by rw [List.length_append, hwl]; rfl, fun z hz => ?_⟩
      rcases List.mem_append.mp hz with y | y
      · exact hwr z y
      · rw [List.mem_singleton.mp y]; exact ⟨hx1, hx2⟩
    · rintro σ H3 ⟨o4, rfl, F3, S3, T3, ws, hL3, hwl, hwr⟩
      refine ⟨_, rfl, L, _, rfl, .inl ⟨SqL.of hL3, fun l hl => ?_⟩⟩
      exact k l ws _ ((F3.new hl).mono (by omega)) (S3.trans (Sm.new hl)) upd_same (by omega) hwr
end

section
variable {P : Program} {w : World} {K : PySem.W.Frag} {mg : Str → Option Value} {base : Heap}
theorem sc_length_of : FnScope ["plan", "period", "beats", "s", "word", "one", "other", "low", "high"] ["plan", "period", "beats", "s"] (defScope s_length_of) := ⟨rfl, rfl, rfl, by decide +kernel, rfl, by decide +kernel, by decide +kernel⟩
theorem ok_length_of {f : Addr} {fd : FuncData} (F : Fun K "length_of" "length_of" s_length_of f fd) (T : Txt mg) : FnOk P w K mg base CX0 1 f fd ["plan", "period", "beats", "s"] (sp_length_of K) := by
  refine F.ok sc_length_of (fun vs H Q E h => ?_) (fun cdv A outer s H vs Q E hr h => ?_)
  · obtain ⟨x, b, per, i, Pl, sp, bs, rfl, _⟩ := h
    rfl
  · obtain ⟨x, b, per, i, Pl, sp, bs, rfl, hs, hb, ok, hp, k⟩ := h
    obtain ⟨p, pn, ps, xs, q, rfl, e1, e2, e3, e4⟩ := hs.get
    refine ⟨_, (@pss_cons _ _ _ _ _ (@ps_asg _ _ _ _ _ _ (@pe_ix _ _ _ _ _ _ _ ix_tup (@pe_ix _ _ _ _ _ _ _ ix_tup (@pv _ 0 _ _ rfl (Or.inl rfl) (by decide) (by decide)) (@pe_int _ _ _ _) (fun _ _ => rfl)) (@pv _ 3 _ _ rfl (Or.inl rfl) (by decide) (by decide)) (fun _ _ => rfl)) (@pg_tup _ _ _ _ _ _ rfl (@pgs_cons _ _ _ _ _ (@pg_name _ _ 4 _ sc_length_of.nd rfl (Or.inl rfl) (by first | exact Or.inl rfl | exact Or.inr rfl | assumption)) (@pgs_cons _ _ _ _ _ (@pg_name _ _ 5 _ sc_length_of.nd rfl (Or.inl rfl) (by first | exact Or.inl rfl | exact Or.inr rfl | assumption)) (@pgs_cons _ _ _ _ _ (@pg_name _ _ 6 _ sc_length_of.nd rfl (Or.inl rfl) (by first | exact Or.inl rfl | exact Or.inr rfl | assumption)) (@pgs_cons _ _ _ _ _ (@pg_name _ _ 7 _ sc_length_of.nd rfl (Or.inl rfl) (by first | exact Or.inl rfl | exact Or.inr rfl | assumption)) (@pgs_cons _ _ _ _ _ (@pg_name _ _ 8 _ sc_length_of.nd rfl (Or.inl rfl) (by first | exact Or.inl rfl | exact Or.inr rfl | assumption)) (@pgs_nil _) (by rfl)) (by rfl)) (by rfl)) (by rfl)) (by rfl)) (by rfl) (by rfl)) (by rfl) (by rfl) (by rfl)) (@pss_one _ _ _ (@ps_ret _ _ _ _ (@pe_op _ _ _ _ _ _ _ _ op_add (@pv _ 7 _ _ rfl (Or.inl rfl) (by decide) (by decide)) (@pe_op _ _ _ _ _ _ _ _ op_mod (@pe_op _ _ _ _ _ _ _ _ op_sub (@pe_op _ _ _ _ _ _ _ _ op_sub (@pe_ix _ _ _ _ _ _ _ ix_tup (@pv _ 2 _ _ rfl (Or.inl rfl) (by decide) (by decide)) (@pv _ 6 _ _ rfl (Or.inl rfl) (by decide) (by decide)) (fun _ _ => rfl)) (@pe_ix _ _ _ _ _ _ _ ix_tup (@pv _ 2 _ _ rfl (Or.inl rfl) (by decide) (by decide)) (@pv _ 5 _ _ rfl (Or.inl rfl) (by decide) (by decide)) (fun _ _ => rfl))) (@pv _ 7 _ _ rfl (Or.inl rfl) (by decide) (by decide))) (@pv _ 1 _ _ rfl (Or.inl rfl) (by decide) (by decide))))))), ?_⟩
    refine ⟨_, rfl, p, _, _, _, rfl, rfl, e1, pickN (by decide) rfl, _, rfl, ps, _, _, _, rfl, rfl, e2, e3, q, _, rfl, e4, rfl, ?_⟩
    refine ⟨_, _, rfl, _, _, rfl, _, _, rfl, _, _, rfl, _, _, rfl, rfl, ?_⟩
    refine ⟨_, rfl, _, rfl, _, rfl, b, _, _, _, rfl, rfl, SqT.of hb, bt_at ok.r0 ok.r1, _, rfl, _, rfl, b, _, _, _, rfl, rfl, SqT.of hb, bt_at ok.o0 ok.o1, _, _, rfl, rfl, _, rfl, _, _, rfl, rfl, _, rfl, _, _, rfl, rfl, hp, _, _, rfl, rfl, k⟩
end

section
variable {P : Program} {w : World} {K : PySem.W.Frag} {mg : Str → Option Value} {base : Heap}
theorem sc_lengths_of : FnScope ["plan", "period", "beats"] ["plan", "period", "beats"] (defScope s_lengths_of) := ⟨rfl, rfl, rfl, by decide +kernel, rfl, by decide +kernel, by decide +kernel⟩
theorem ok_lengths_of {f : Addr} {fd : FuncData} (F : Fun K "lengths_of" "lengths_of" s_lengths_of f fd) (T : Txt mg) (D_length_of : Def P w K mg base 1 "length_of" ["plan", "period", "beats", "s"] (sp_length_of K)) : FnOk P w K mg base CX0 2 f fd ["plan", "period", "beats"] (sp_lengths_of K) := by
  refine F.ok sc_lengths_of (fun vs H Q E h => ?_) (fun cdv A outer s H vs Q E hr h => ?_)
  · obtain ⟨x, b, per, Pl, bs, rfl, _⟩ := h
    rfl
  · obtain ⟨x, b, per, Pl, bs, rfl, hs, hz, hb, ok, hp, k⟩ := h
    obtain ⟨p, pn, ps, xs, rfl, e, e1, e2, r⟩ := plan_at hs
    have hxl : xs.length = Pl.spans.length := by rw [r.length, List.length_map]
    refine ⟨_, (@pss_one _ _ _ (@ps_ret _ _ _ _ (@pe_callTy _ _ _ _ _ _ _ _ _ call_tuple_of rfl T.n_tuple PyProof.Rows.boot_tuple (@pa_lc _ _ _ _ _ _ _ _ (@pe_lc _ ["s", "plan", "period", "beats"] [none, (some 0), (some 1), (some 2)] _ _ _ _ _ _ _ _ _ _ rfl (@CScope.of _ _ _ _ rfl) (@pi_range1 _ _ _ _ _ _ rfl T.n_range (@pa_call _ _ _ _ _ _ _ _ (@pe_callB _ _ _ _ _ _ _ _ _ call_len_seq rfl T.n_len PySem.boot_len (@pa_sub _ _ _ _ _ _ _ (@pe_ix _ _ _ _ _ _ _ ix_tup (@pv _ 0 _ _ rfl (Or.inr (Or.inl rfl)) (by decide) (by decide)) (@pe_int _ _ _ _) (fun _ _ => rfl)) (@pa_nil _)) (by decide) (by decide) (by rfl) (by rfl)) (@pa_nil _)) (by rfl)) (fun _ _ _ _ _ => (@pgc _ _ _ _ _ _ _ _ 0 _ _ (by decide) rfl rfl)) (fun _ _ _ _ _ => pif_nil) (fun _ _ _ _ _ => (@pe_own _ _ _ _ _ _ _ _ _ _ D_length_of (hr.mono (by decide)) (glc rfl) (@pa_name _ _ _ _ _ _ (@pvc _ _ _ _ _ _ _ _ 1 _ _ (by rfl) (by first | exact Or.inl rfl | exact Or.inr rfl) (by decide) (by decide)) (@pa_name _ _ _ _ _ _ (@pvc _ _ _ _ _ _ _ _ 2 _ _ (by rfl) (by first | exact Or.inl rfl | exact Or.inr rfl) (by decide) (by decide)) (@pa_name _ _ _ _ _ _ (@pvc _ _ _ _ _ _ _ _ 3 _ _ (by rfl) (by first | exact Or.inl rfl | exact Or.inr rfl) (by decide) (by decide)) (@pa_name _ _ _ _ _ _ (@pvc _ _ _ _ _ _ _ _ 0 _ _ (by rfl) (by first | exact Or.inl rfl | exact Or.inr rfl) (by decide) (by decide)) (@pa_nil _))))) (by decide) (by rfl) (by rfl))) (by intro _ ; rfl)) (@pa_nil _)) (by decide) (by decide) (by rfl) (by rfl)))), ?_⟩
    refine ⟨_, rfl, p, _, _, _, rfl, rfl, SqT.of e, pickN (by decide) rfl, ps, _, rfl, .inr (SqT.of e2), _, rfl, by omega, by omega, fun D hD => ?_⟩
    refine lc_range 1 [some (.ref p), some (.int per), some (.ref b)]
      (fun i ys H3 => Same H H3 ∧ H3 D = some (.lst ys) ∧ ys = ((Pl.spans.take i).map (lenZ per bs)).map V.int ∧ i ≤ Pl.spans.length)
      ?_ ⟨Same.new hD, upd_same, rfl, Nat.zero_le _⟩ ?_ ?_
    · rfl
    · rintro i ys H3 os hi ho ⟨S4, hD4, rfl, hle⟩
      have hi' : i < Pl.spans.length := by omega
      obtain ⟨o, rfl⟩ : ∃ o, os = [o] := by
        cases os with
        | nil => cases ho
        | cons o r => cases r with
          | nil => exact ⟨o, rfl⟩
          | cons _ _ => simp at ho
      refine noifN ?_
      have hsp : Pl.spans[(0 + (i : Int)).toNat]? = some Pl.spans[i] := by
        rw [show (0 + (i : Int)).toNat = i by omega]
        exact List.getElem?_eq_getElem hi'
      refine ⟨_, rfl, _, rfl, _, rfl, _, rfl, _, b, per, (0 + (i : Int)), Pl, Pl.spans[i], bs, rfl, ⟨hs.same S4, by omega, hsp⟩, S4 _ _ hb, ok _ (List.getElem_mem hi'), hp, ?_⟩
      refine LcN.mk (os := [some (.int (0 + (i : Int)))]) hi hD4 (by simp only [List.length_map, List.length_take]; exact Nat.lt_of_le_of_lt (Nat.min_le_left _ _) (Nat.lt_of_lt_of_le hi' (Nat.le_trans hz (by decide)))) rfl rfl ?_
      refine ⟨S4.acc hD, upd_same, ?_, hi'⟩
      rw [List.take_succ, List.getElem?_eq_getElem hi', List.map_append, List.map_append]
      rfl
    · rintro ys H3 ⟨S4, hD4, rfl, _⟩
      rw [List.take_of_length_le (by omega)] at hD4
      refine ⟨D, _, rfl, .inl ⟨SqL.of hD4, fun l hl => ?_⟩⟩
      exact k l _ (S4.trans (Same.new hl)) upd_same
end

section
variable {P : Program} {w : World} {K : PySem.W.Frag} {mg : Str → Option Value} {base : Heap}
theorem sc_waits_of : FnScope ["plan", "period", "weights", "beats", "lengths"] ["plan", "period", "weights", "beats"] (defScope s_waits_of) := ⟨rfl, rfl, rfl, by decide +kernel, rfl, by decide +kernel, by decide +kernel⟩
theorem ok_waits_of {f : Addr} {fd : FuncData} (F : Fun K "waits_of" "waits_of" s_waits_of f fd) (T : Txt mg) (D_lengths_of : Def P w K mg base 2 "lengths_of" ["plan", "period", "beats"] (sp_lengths_of K)) : FnOk P w K mg base CX0 3 f fd ["plan", "period", "weights", "beats"] (sp_waits_of K) := by
  refine F.ok sc_waits_of (fun vs H Q E h => ?_) (fun cdv A outer s H vs Q E hr h => ?_)
  · obtain ⟨x, wa, b, per, Pl, ws, bs, rfl, _⟩ := h
    rfl
  · obtain ⟨x, wa, b, per, Pl, ws, bs, rfl, hs, hz, hw, hwl, hwr, hb, ok, hp, k⟩ := h
    refine ⟨_, (@pss_cons _ _ _ _ _ (@ps_set _ _ 4 _ _ _ _ sc_waits_of.nd rfl (Or.inr rfl) (@pe_own _ _ _ _ _ _ _ _ _ _ D_lengths_of (hr.mono (by decide)) rfl (@pa_name _ _ _ _ _ _ (@pv _ 0 _ _ rfl (Or.inr (Or.inl rfl)) (by decide) (by decide)) (@pa_name _ _ _ _ _ _ (@pv _ 1 _ _ rfl (Or.inl rfl) (by decide) (by decide)) (@pa_name _ _ _ _ _ _ (@pv _ 3 _ _ rfl (Or.inl rfl) (by decide) (by decide)) (@pa_nil _)))) (by decide) (by rfl) (by rfl)) (by rfl) (by first | exact Or.inl rfl | exact Or.inr rfl | assumption)) (@pss_one _ _ _ (@ps_ret _ _ _ _ (@pe_callB _ _ _ _ _ _ _ _ _ (call_sum rfl) rfl T.n_sum PyProof.Rows.boot_sum (@pa_lc _ _ _ _ _ _ _ _ (@pe_lc _ ["s", "plan", "weights", "lengths"] [none, (some 0), (some 2), (some 4)] _ _ _ _ _ _ _ _ _ _ rfl (@CScope.of _ _ _ _ rfl) (@pi_range1 _ _ _ _ _ _ rfl T.n_range (@pa_call _ _ _ _ _ _ _ _ (@pe_callB _ _ _ _ _ _ _ _ _ call_len_seq rfl T.n_len PySem.boot_len (@pa_sub _ _ _ _ _ _ _ (@pe_ix _ _ _ _ _ _ _ ix_tup (@pv _ 0 _ _ rfl (Or.inr (Or.inl rfl)) (by decide) (by decide)) (@pe_int _ _ _ _) (fun _ _ => rfl)) (@pa_nil _)) (by decide) (by decide) (by rfl) (by rfl)) (@pa_nil _)) (by rfl)) (fun _ _ _ _ _ => (@pgc _ _ _ _ _ _ _ _ 0 _ _ (by decide) rfl rfl)) (fun _ _ _ _ _ => pif_nil) (fun _ _ _ _ _ => (@pe_op _ _ _ _ _ _ _ _ op_mul (@pe_ix _ _ _ _ _ _ _ ixc_tup (@pvc _ _ _ _ _ _ _ _ 2 _ _ (by rfl) (by first | exact Or.inl rfl | exact Or.inr rfl) (by decide) (by decide)) (@pvc _ _ _ _ _ _ _ _ 0 _ _ (by rfl) (by first | exact Or.inl rfl | exact Or.inr rfl) (by decide) (by decide)) (fun _ _ => rfl)) (@pe_op _ _ _ _ _ _ _ _ op_sub (@pe_ix _ _ _ _ _ _ _ ixc_tup (@pvc _ _ _ _ _ _ _ _ 3 _ _ (by rfl) (by first | exact Or.inl rfl | exact Or.inr rfl) (by decide) (by decide)) (@pvc _ _ _ _ _ _ _ _ 0 _ _ (by rfl) (by first | exact Or.inl rfl | exact Or.inr rfl) (by decide) (by decide)) (fun _ _ => rfl)) (@pe_ix _ _ _ _ _ _ _ ixc_tup (@pe_ix _ _ _ _ _ _ _ ixc_tup (@pe_ix _ _ _ _ _ _ _ ixc_tup (@pvc _ _ _ _ _ _ _ _ 1 _ _ (by rfl) (by first | exact Or.inl rfl | exact Or.inr rfl) (by decide) (by decide)) (@pe_int _ _ _ _) (fun _ _ => rfl)) (@pvc _ _ _ _ _ _ _ _ 0 _ _ (by rfl) (by first | exact Or.inl rfl | exact Or.inr rfl) (by decide) (by decide)) (fun _ _ => rfl)) (@pe_int _ _ _ _) (fun _ _ => rfl))))) (by intro _ ; rfl)) (@pa_nil _)) (by decide) (by decide) (by rfl) (by rfl))))), ?_⟩
    refine ⟨_, rfl, _, rfl, _, rfl, _, b, per, Pl, bs, rfl, hs, hz, hb, ok, hp, fun q H1 S1 hq => ?_⟩
    have hs := hs.same S1
    have hw := S1 _ _ hw
    obtain ⟨p, pn, ps, xs, rfl, e, e1, e2, r⟩ := plan_at hs
    have hxl : xs.length = Pl.spans.length := by rw [r.length, List.length_map]
    refine ⟨_, rfl, p, _, _, _, rfl, rfl, SqT.of e, pickN (by decide) rfl, ps, _, rfl, .inr (SqT.of e2), _, rfl, by omega, by omega, fun D hD => ?_⟩
    refine lc_range 1 [some (.ref p), some (.ref wa), some (.ref q)]
      (fun i ys H3 => Same H1 H3 ∧ H3 D = some (.lst ys) ∧ ∃ zs : List Int, ys = zs.map V.int ∧ zs.length = i ∧ zs.sum = waitsN per ws bs Pl.spans i)
      rfl ⟨Same.new hD, upd_same, [], rfl, rfl, rfl⟩ ?_ ?_
    · rintro i ys H3 os hi ho ⟨S4, hD4, zs, rfl, hzl, hzs⟩
      have hi' : i < Pl.spans.length := by omega
      obtain ⟨o, rfl⟩ := one_of ho
      refine noifN ?_
      have hsp : Pl.spans[(0 + (i : Int)).toNat]? = some Pl.spans[i] := by
        rw [show (0 + (i : Int)).toNat = i by omega]
        exact List.getElem?_eq_getElem hi'
      have hs3 : HasSpan K H3 (.ref p) Pl (0 + (i : Int)) Pl.spans[i] := ⟨hs.same S4, by omega, hsp⟩
      obtain ⟨p4, pn4, ps4, xs4, q4, hpq4, g1, g2, g3, g4⟩ := hs3.raw
      cases hpq4
      have hr := bt_rng hwr (i := 0 + (i : Int)) (by omega) (by omega)
      have hln : atI ((Pl.spans.map (lenZ per bs)).map V.int) (0 + (i : Int)) = some (.int (lenZ per bs Pl.spans[i])) := pickN (by omega) (by
        rw [show (0 + (i : Int)).toNat = i by omega, List.getElem?_map, List.getElem?_map, List.getElem?_eq_getElem hi']
        rfl)
      refine ⟨_, rfl, _, rfl, wa, _, _, _, rfl, rfl, SqT.of (S4 _ _ hw), bt_at (by omega) (by omega), ?_⟩
      refine ⟨_, rfl, _, rfl, q, _, _, _, rfl, rfl, SqT.of (S4 _ _ hq), hln, ?_⟩
      refine ⟨_, rfl, p, _, _, _, rfl, rfl, SqT.of g1, pickN (by decide) rfl, _, rfl, ps4, _, _, _, rfl, rfl, SqT.of g2, g3, q4, _, _, _, rfl, rfl, SqT.of g4, pickN (by decide) rfl, _, _, rfl, rfl, _, _, rfl, rfl, .inl ⟨by omega, by omega⟩, ?_⟩
      refine LcN.mk (os := [some (.int (0 + (i : Int)))]) hi hD4 (by rw [List.length_map, hzl]; exact Nat.lt_of_lt_of_le hi' (Nat.le_trans hz (by decide))) rfl rfl ?_
      refine ⟨S4.acc hD, upd_same, zs ++ [wtAt per ws bs Pl.spans i], ?_, by rw [List.length_append, hzl]; rfl, by rw [List.sum_append, hzs, waitsN_succ]; simp⟩
      rw [List.map_append, wtAt_at hi']
      simp only [Int.zero_add]
      rfl
    · rintro ys H3 ⟨S4, hD4, zs, rfl, hzl, hzs⟩
      refine ⟨D, zs, rfl, SqL.of hD4, ?_⟩
      rw [hzs, show (xs.length : Int).toNat = Pl.spans.length by omega]
      exact k _ (S1.trans S4)
theorem sc_law_length : FnScope ["_law_plan", "_law_cycle", "_law_beats", "_law_s", "_law_gap", "_law_word", "_law_one", "_law_other", "_law_low", "_law_high"] ["_law_plan", "_law_cycle", "_law_beats", "_law_s"] (defScope s_law_length) := ⟨rfl, rfl, rfl, by decide +kernel, rfl, by decide +kernel, by decide +kernel⟩
theorem ok_law_length {f : Addr} {fd : FuncData} (F : Fun K "_law_length" "_law_length" s_law_length f fd) (T : Txt mg) : FnOk P w K mg base CX0 1 f fd ["_law_plan", "_law_cycle", "_law_beats", "_law_s"] (sp_lengthB K) := by
  refine F.ok sc_law_length (fun vs H Q E h => ?_) (fun cdv A outer s H vs Q E hr h => ?_)
  · obtain ⟨x, b, per, i, Pl, sp, bs, rfl, _⟩ := h
    rfl
  · obtain ⟨x, b, per, i, Pl, sp, bs, rfl, hs, hb, ok, hp, hp2, k⟩ := h
    obtain ⟨p, pn, ps, xs, q, rfl, e1, e2, e3, e4⟩ := hs.get
    refine ⟨_, (@pss_cons _ _ _ _ _ (@ps_asg _ _ _ _ _ _ (@pe_ix _ _ _ _ _ _ _ ix_tup (@pe_ix _ _ _ _ _ _ _ ix_tup (@pv _ 0 _ _ rfl (Or.inl rfl) (by decide) (by decide)) (@pe_int _ _ _ _) (fun _ _ => rfl)) (@pv _ 3 _ _ rfl (Or.inl rfl) (by decide) (by decide)) (fun _ _ => rfl)) (@pg_tup _ _ _ _ _ _ rfl (@pgs_cons _ _ _ _ _ (@pg_name _ _ 5 _ sc_law_length.nd rfl (Or.inl rfl) (by first | exact Or.inl rfl | exact Or.inr rfl | assumption)) (@pgs_cons _ _ _ _ _ (@pg_name _ _ 6 _ sc_law_length.nd rfl (Or.inl rfl) (by first | exact Or.inl rfl | exact Or.inr rfl | assumption)) (@pgs_cons _ _ _ _ _ (@pg_name _ _ 7 _ sc_law_length.nd rfl (Or.inl rfl) (by first | exact Or.inl rfl | exact Or.inr rfl | assumption)) (@pgs_cons _ _ _ _ _ (@pg_name _ _ 8 _ sc_law_length.nd rfl (Or.inl rfl) (by first | exact Or.inl rfl | exact Or.inr rfl | assumption)) (@pgs_cons _ _ _ _ _ (@pg_name _ _ 9 _ sc_law_length.nd rfl (Or.inl rfl) (by first | exact Or.inl rfl | exact Or.inr rfl | assumption)) (@pgs_nil _) (by rfl)) (by rfl)) (by rfl)) (by rfl)) (by rfl)) (by rfl) (by rfl)) (by rfl) (by rfl) (by rfl)) (@pss_cons _ _ _ _ _ (@ps_set _ _ 4 _ _ _ _ sc_law_length.nd rfl (Or.inl rfl) (@pe_op _ _ _ _ _ _ _ _ op_mod (@pe_op _ _ _ _ _ _ _ _ op_sub (@pe_ix _ _ _ _ _ _ _ ix_tup (@pv _ 2 _ _ rfl (Or.inl rfl) (by decide) (by decide)) (@pv _ 7 _ _ rfl (Or.inl rfl) (by decide) (by decide)) (fun _ _ => rfl)) (@pe_ix _ _ _ _ _ _ _ ix_tup (@pv _ 2 _ _ rfl (Or.inl rfl) (by decide) (by decide)) (@pv _ 6 _ _ rfl (Or.inl rfl) (by decide) (by decide)) (fun _ _ => rfl))) (@pv _ 1 _ _ rfl (Or.inl rfl) (by decide) (by decide))) (by rfl) (by first | exact Or.inl rfl | exact Or.inr rfl | assumption)) (@pss_one _ _ _ (@ps_ret _ _ _ _ (@pe_op _ _ _ _ _ _ _ _ op_add (@pv _ 4 _ _ rfl (Or.inl rfl) (by decide) (by decide)) (@pe_op _ _ _ _ _ _ _ _ op_mul (@pe_op _ _ _ _ _ _ _ _ op_fdiv (@pe_op _ _ _ _ _ _ _ _ op_sub (@pe_op _ _ _ _ _ _ _ _ op_add (@pe_op _ _ _ _ _ _ _ _ op_sub (@pv _ 8 _ _ rfl (Or.inl rfl) (by decide) (by decide)) (@pv _ 4 _ _ rfl (Or.inl rfl) (by decide) (by decide))) (@pv _ 1 _ _ rfl (Or.inl rfl) (by decide) (by decide))) (@pe_int _ _ _ _)) (@pv _ 1 _ _ rfl (Or.inl rfl) (by decide) (by decide))) (@pv _ 1 _ _ rfl (Or.inl rfl) (by decide) (by decide)))))))), ?_⟩
    refine ⟨_, rfl, p, _, _, _, rfl, rfl, e1, pickN (by decide) rfl, _, rfl, ps, _, _, _, rfl, rfl, e2, e3, q, _, rfl, e4, rfl, ?_⟩
    refine ⟨_, _, rfl, _, _, rfl, _, _, rfl, _, _, rfl, _, _, rfl, rfl, ?_⟩
    refine ⟨_, rfl, _, rfl, b, _, _, _, rfl, rfl, SqT.of hb, bt_at ok.r0 ok.r1, _, rfl, _, rfl, b, _, _, _, rfl, rfl, SqT.of hb, bt_at ok.o0 ok.o1, _, _, rfl, rfl, _, rfl, _, _, rfl, rfl, hp, ?_⟩
    try simp only [List.set_cons_zero, List.set_cons_succ]
    refine ⟨_, rfl, _, rfl, _, rfl, _, _, rfl, rfl, _, rfl, _, _, rfl, rfl, _, _, rfl, rfl, _, rfl, _, _, rfl, rfl, ⟨hp, by omega⟩, _, rfl, _, _, rfl, rfl, .inr ⟨by omega, by omega⟩, _, _, rfl, rfl, ?_⟩
    have e := len_gap (c := per) (d := bt bs sp.other - bt bs sp.one) (low := sp.low) hp
    dsimp only
    rw [e]
    exact k
end

section
variable {P : Program} {w : World} {K : PySem.W.Frag} {mg : Str → Option Value} {base : Heap}
theorem sc_entry_sums : FnScope ["beats", "windows", "entry", "apart", "s", "way", "least", "most"] ["beats", "windows", "entry"] (defScope s_entry_sums) := ⟨rfl, rfl, rfl, by decide +kernel, rfl, by decide +kernel, by decide +kernel⟩
theorem ok_entry_sums {f : Addr} {fd : FuncData} (F : Fun K "entry_sums" "entry_sums" s_entry_sums f fd) (T : Txt mg) : FnOk P w K mg base CX0 1 f fd ["beats", "windows", "entry"] (sp_entry_sums K) := by
  refine F.ok sc_entry_sums (fun vs H Q E h => ?_) (fun cdv A outer s H vs Q E hr h => ?_)
  · obtain ⟨b, x, a, ws, e, rfl, _⟩ := h
    rfl
  · obtain ⟨b, x, a, ws, e, rfl, hx, ha, ho, k⟩ := h
    obtain ⟨wa, xs, rfl, hwa, dv⟩ := pairs_at hx
    obtain ⟨h0, h1, h2⟩ := ho
    have hi : e.1.toNat < ws.length := by omega
    obtain ⟨q, hq, hqe⟩ := pairs_get dv hi
    refine ⟨_, (@pss_cons _ _ _ _ _ (@ps_if _ _ _ _ _ _ _ _ (@pt_cmpR _ _ _ _ _ _ _ _ op_eq (@pe_callB _ _ _ _ _ _ _ _ _ call_len_seq rfl T.n_len PySem.boot_len (@pa_name _ _ _ _ _ _ (@pv _ 2 _ _ rfl (Or.inl rfl) (by decide) (by decide)) (@pa_nil _)) (by decide) (by decide) (by rfl) (by rfl)) (@pe_int _ _ _ _) (nomark _)) (@pss_cons _ _ _ _ _ (@ps_set _ _ 3 _ _ _ _ sc_entry_sums.nd rfl (Or.inl rfl) (@pe_op _ _ _ _ _ _ _ _ op_sub (@pe_ix _ _ _ _ _ _ _ ix_tup (@pv _ 0 _ _ rfl (Or.inl rfl) (by decide) (by decide)) (@pe_ix _ _ _ _ _ _ _ ix_tup (@pv _ 2 _ _ rfl (Or.inl rfl) (by decide) (by decide)) (@pe_int _ _ _ _) (fun _ _ => rfl)) (fun _ _ => rfl)) (@pe_ix _ _ _ _ _ _ _ ix_tup (@pv _ 0 _ _ rfl (Or.inl rfl) (by decide) (by decide)) (@pe_ix _ _ _ _ _ _ _ ix_tup (@pv _ 2 _ _ rfl (Or.inl rfl) (by decide) (by decide)) (@pe_int _ _ _ _) (fun _ _ => rfl)) (fun _ _ => rfl))) (by rfl) (by first | exact Or.inl rfl | exact Or.inr rfl | assumption)) (@pss_one _ _ _ (@ps_ret _ _ _ _ (@pe_tup _ _ _ _ _ (@pa_name _ _ _ _ _ _ (@pv _ 3 _ _ rfl (Or.inl rfl) (by decide) (by decide)) (@pa_name _ _ _ _ _ _ (@pv _ 3 _ _ rfl (Or.inl rfl) (by decide) (by decide)) (@pa_nil _))))))) (@pss_nil _)) (@pss_cons _ _ _ _ _ (@ps_asg _ _ _ _ _ _ (@pv _ 2 _ _ rfl (Or.inl rfl) (by decide) (by decide)) (@pg_tup _ _ _ _ _ _ rfl (@pgs_cons _ _ _ _ _ (@pg_name _ _ 4 _ sc_entry_sums.nd rfl (Or.inl rfl) (by first | exact Or.inl rfl | exact Or.inr rfl | assumption)) (@pgs_cons _ _ _ _ _ (@pg_name _ _ 5 _ sc_entry_sums.nd rfl (Or.inl rfl) (by first | exact Or.inl rfl | exact Or.inr rfl | assumption)) (@pgs_nil _) (by rfl)) (by rfl)) (by rfl) (by rfl)) (by rfl) (by rfl) (by rfl)) (@pss_cons _ _ _ _ _ (@ps_asg _ _ _ _ _ _ (@pe_ix _ _ _ _ _ _ _ ix_tup (@pv _ 1 _ _ rfl (Or.inl rfl) (by decide) (by decide)) (@pv _ 4 _ _ rfl (Or.inl rfl) (by decide) (by decide)) (fun _ _ => rfl)) (@pg_tup _ _ _ _ _ _ rfl (@pgs_cons _ _ _ _ _ (@pg_name _ _ 6 _ sc_entry_sums.nd rfl (Or.inl rfl) (by first | exact Or.inl rfl | exact Or.inr rfl | assumption)) (@pgs_cons _ _ _ _ _ (@pg_name _ _ 7 _ sc_entry_sums.nd rfl (Or.inl rfl) (by first | exact Or.inl rfl | exact Or.inr rfl | assumption)) (@pgs_nil _) (by rfl)) (by rfl)) (by rfl) (by rfl)) (by rfl) (by rfl) (by rfl)) (@pss_one _ _ _ (@ps_ret _ _ _ _ (@pe_ifExp _ _ _ _ _ _ _ _ (@pt_cmpR _ _ _ _ _ _ _ _ op_eq (@pv _ 5 _ _ rfl (Or.inl rfl) (by decide) (by decide)) (@pe_int _ _ _ _) (nomark _)) (@pe_tup _ _ _ _ _ (@pa_name _ _ _ _ _ _ (@pv _ 6 _ _ rfl (Or.inl rfl) (by decide) (by decide)) (@pa_name _ _ _ _ _ _ (@pv _ 7 _ _ rfl (Or.inl rfl) (by decide) (by decide)) (@pa_nil _)))) (@pe_tup _ _ _ _ _ (@pa_un _ _ _ _ _ _ _ (@pe_un _ _ _ _ _ _ un_neg (@pv _ 7 _ _ rfl (Or.inl rfl) (by decide) (by decide))) (@pa_un _ _ _ _ _ _ _ (@pe_un _ _ _ _ _ _ un_neg (@pv _ 6 _ _ rfl (Or.inl rfl) (by decide) (by decide))) (@pa_nil _)))))))))), ?_⟩
    refine ⟨_, rfl, a, _, rfl, .inr (SqT.of ha), rfl, _, rfl, ite2 (fun h => absurd (of_decide_eq_true h) (by intro z; injection z with z; exact absurd z (by show ¬ ((2 : Int) = 3); decide))) (fun _ => ?_)⟩
    refine ⟨_, rfl, a, _, rfl, SqT.of ha, rfl, _, _, rfl, _, _, rfl, rfl, ?_⟩
    refine ⟨_, rfl, _, rfl, wa, _, _, _, rfl, rfl, SqT.of hwa, pickN h0 hq, q, _, rfl, SqT.of hqe, rfl, _, _, rfl, _, _, rfl, rfl, ?_⟩
    refine ⟨_, rfl, rfl, _, rfl, ite2 (fun hd => ?_) (fun hd => ?_)⟩
    · have hd : e.2 = 1 := by simpa [dec_int] using hd
      refine ⟨_, rfl, _, rfl, by show 2 ≤ sizeLine; decide, fun p hp => k p _ (Same.new hp) ?_⟩
      rw [upd_same, entS, if_pos hd, List.getD_eq_getElem?_getD, List.getElem?_eq_getElem hi]
      rfl
    · have hd : ¬ e.2 = 1 := by simpa [dec_int] using hd
      refine ⟨_, rfl, _, rfl, _, rfl, _, rfl, by show 2 ≤ sizeLine; decide, fun p hp => k p _ (Same.new hp) ?_⟩
      rw [upd_same, entS, if_neg hd, List.getD_eq_getElem?_getD, List.getElem?_eq_getElem hi]
      rfl
theorem sc_sums_of : FnScope ["plan", "period", "beats", "windows", "ring", "sums"] ["plan", "period", "beats", "windows", "ring"] (defScope s_sums_of) := ⟨rfl, rfl, rfl, by decide +kernel, rfl, by decide +kernel, by decide +kernel⟩
theorem ok_sums_of {f : Addr} {fd : FuncData} (F : Fun K "sums_of" "sums_of" s_sums_of f fd) (T : Txt mg) (D_entry_sums : Def P w K mg base 1 "entry_sums" ["beats", "windows", "entry"] (sp_entry_sums K)) : FnOk P w K mg base CX0 2 f fd ["plan", "period", "beats", "windows", "ring"] (sp_sums_of K) := by
  refine F.ok sc_sums_of (fun vs H Q E h => ?_) (fun cdv A outer s H vs Q E hr h => ?_)
  · obtain ⟨pl, pe, b, x, y, ws, r, rfl, _⟩ := h
    rfl
  · obtain ⟨pl, pe, b, x, y, ws, r, rfl, hx, hy, ho, hl, k⟩ := h
    obtain ⟨ra, xs, rfl, hra, dv⟩ := pairs_at hy
    have hxl : xs.length = r.length := by rw [dv.length, List.length_map]
    refine ⟨_, (@pss_cons _ _ _ _ _ (@ps_lc _ ["entry", "beats", "windows"] [none, (some 2), (some 3)] _ _ _ _ _ _ _ _ _ _ _ _ 5 _ sc_sums_of.nd rfl rfl rfl (@CScope.of _ _ _ _ rfl) (@pi_tup _ _ _ _ (@pv _ 4 _ _ rfl (Or.inl rfl) (by decide) (by decide))) (fun _ _ _ _ _ => (@pgc _ _ _ _ _ _ _ _ 0 _ _ (by decide) rfl rfl)) (fun _ _ _ _ _ => pif_nil) (fun _ _ _ _ _ => (@pe_own _ _ _ _ _ _ _ _ _ _ D_entry_sums (hr.mono (by decide)) (glc rfl) (@pa_name _ _ _ _ _ _ (@pvc _ _ _ _ _ _ _ _ 1 _ _ (by rfl) (by first | exact Or.inl rfl | exact Or.inr rfl) (by decide) (by decide)) (@pa_name _ _ _ _ _ _ (@pvc _ _ _ _ _ _ _ _ 2 _ _ (by rfl) (by first | exact Or.inl rfl | exact Or.inr rfl) (by decide) (by decide)) (@pa_name _ _ _ _ _ _ (@pvc _ _ _ _ _ _ _ _ 0 _ _ (by rfl) (by first | exact Or.inl rfl | exact Or.inr rfl) (by decide) (by decide)) (@pa_nil _)))) (by decide) (by rfl) (by rfl))) rfl (by intro _ ; rfl)) (@pss_one _ _ _ (@ps_ret _ _ _ _ (@pe_tup _ _ _ _ _ (@pa_call _ _ _ _ _ _ _ _ (@pe_callB _ _ _ _ _ _ _ _ _ (call_sum rfl) rfl T.n_sum PyProof.Rows.boot_sum (@pa_lc _ _ _ _ _ _ _ _ (@pe_lc _ ["least", "most"] [none, none] _ _ _ _ _ _ _ _ _ _ rfl (@CScope.of _ _ _ _ rfl) (@pi_list _ _ _ _ (@pv _ 5 _ _ rfl (Or.inl rfl) (by decide) (by decide))) (fun _ _ _ _ _ => (@pgc_tup _ _ _ _ _ _ _ _ _ _ _ 2 _ rfl (@pgs_cons _ _ _ _ _ (@pgc _ _ _ _ _ _ _ _ 0 _ _ (by decide) rfl rfl) (@pgs_cons _ _ _ _ _ (@pgc _ _ _ _ _ _ _ _ 1 _ _ (by decide) rfl rfl) (@pgs_nil _) (by rfl)) (by rfl)) (by rfl) (by rfl))) (fun _ _ _ _ _ => pif_nil) (fun _ _ _ _ _ => (@pvc _ _ _ _ _ _ _ _ 0 _ _ (by rfl) (by first | exact Or.inl rfl | exact Or.inr rfl) (by decide) (by decide))) (by intro _ ; rfl)) (@pa_nil _)) (by decide) (by decide) (by rfl) (by rfl)) (@pa_call _ _ _ _ _ _ _ _ (@pe_callB _ _ _ _ _ _ _ _ _ (call_sum rfl) rfl T.n_sum PyProof.Rows.boot_sum (@pa_lc _ _ _ _ _ _ _ _ (@pe_lc _ ["least", "most"] [none, none] _ _ _ _ _ _ _ _ _ _ rfl (@CScope.of _ _ _ _ rfl) (@pi_list _ _ _ _ (@pv _ 5 _ _ rfl (Or.inl rfl) (by decide) (by decide))) (fun _ _ _ _ _ => (@pgc_tup _ _ _ _ _ _ _ _ _ _ _ 2 _ rfl (@pgs_cons _ _ _ _ _ (@pgc _ _ _ _ _ _ _ _ 0 _ _ (by decide) rfl rfl) (@pgs_cons _ _ _ _ _ (@pgc _ _ _ _ _ _ _ _ 1 _ _ (by decide) rfl rfl) (@pgs_nil _) (by rfl)) (by rfl)) (by rfl) (by rfl))) (fun _ _ _ _ _ => pif_nil) (fun _ _ _ _ _ => (@pvc _ _ _ _ _ _ _ _ 1 _ _ (by rfl) (by first | exact Or.inl rfl | exact Or.inr rfl) (by decide) (by decide))) (by intro _ ; rfl)) (@pa_nil _)) (by decide) (by decide) (by rfl) (by rfl)) (@pa_nil _))))))), ?_⟩
    refine ⟨_, rfl, ra, rfl, ⟨_, SqT.of hra⟩, fun D hD => ?_⟩
    refine lc_tup (K := K) (a := ra) (xs := xs) 1 [some b, some x]
      (fun i ys H3 => Same H H3 ∧ H3 D = some (.lst ys) ∧ DVs K H3 ys (((r.take i).map (entS ws)).map pairD2) ∧ i ≤ r.length)
      ?_ ⟨Same.new hD, upd_same, .nil, Nat.zero_le _⟩ (fun i ys H3 _ ⟨h, _⟩ => SqT.of (h _ _ hra)) ?_ ?_
    · rfl
    · rintro i v ys H3 os hi ho1 ⟨S3, hD3, dv3, hle⟩
      obtain ⟨o, rfl⟩ := one_of ho1
      have hi0 : i < xs.length := (List.getElem?_eq_some_iff.mp hi).1
      obtain ⟨hi', q, rfl, hq⟩ := pairs_item dv hi
      have hyl : ys.length = i := by rw [dv3.length, List.length_map, List.length_map, List.length_take]; omega
      refine noifN ?_
      refine ⟨_, rfl, _, rfl, _, rfl, b, x, q, ws, r[i], rfl, hx.same S3, S3 _ _ hq, ho _ (List.getElem_mem hi'), fun t H4 S4 ht => ?_⟩
      have hD4 := S4 _ _ hD3
      refine LcN.mk (os := [some (.ref q)]) hi0 hD4 (by rw [hyl]; exact Nat.lt_of_lt_of_le hi' (Nat.le_trans hl (by decide))) rfl rfl ?_
      refine ⟨(S3.trans S4).acc hD, upd_same, ?_, hi'⟩
      rw [List.take_succ, List.getElem?_eq_getElem hi', List.map_append, List.map_append]
      exact (dv3.tk ((Same.tk S4).trans (TK.updL hD4)) (noLs_pairs _)).append (.cons (at_pair ((TK.updL hD4) t _ ht)) .nil)
    · rintro ys H3 ⟨S3, hD3, dv3, _⟩
      rw [List.take_of_length_le (by omega)] at dv3
      have hyl : ys.length = r.length := by rw [dv3.length, List.length_map, List.length_map]
      refine ⟨_, rfl, D, rfl, ⟨_, SqL.of hD3⟩, fun D1 hD1 => ?_⟩
      refine lc_list (K := K) (a := D) (xs := ys) 2 []
        (fun i zs H4 => Same H3 H4 ∧ H4 D1 = some (.lst zs) ∧ ∃ ns : List Int, zs = ns.map V.int ∧ ns = (r.take i).map (fun e => (entS ws e).1))
        rfl ⟨Same.new hD1, upd_same, [], rfl, rfl⟩ (fun i zs H4 _ ⟨h, _⟩ => SqL.of (h _ _ hD3)) ?_ ?_
      · rintro i v zs H4 os hi ho1 ⟨S4, hD4, ns, rfl, hns⟩
        obtain ⟨o, o', rfl⟩ := two_of ho1
        have hi0 : i < ys.length := (List.getElem?_eq_some_iff.mp hi).1
        obtain ⟨d, hd, dx⟩ := dv3.get hi
        have hi' : i < r.length := by omega
        rw [List.getElem?_map, List.getElem?_map, List.getElem?_eq_getElem hi'] at hd
        cases hd
        obtain ⟨q, rfl, hq⟩ := pair_at dx
        refine ⟨q, _, rfl, SqT.of (S4 _ _ hq), rfl, _, _, rfl, _, _, rfl, rfl, noif ?_⟩
        refine ⟨_, rfl, LcN.mk (os := [some (.int (entS ws r[i]).1), some (.int (entS ws r[i]).2)]) hi0 hD4 (by rw [List.length_map, hns, List.length_map, List.length_take]; exact Nat.lt_of_le_of_lt (Nat.min_le_left _ _) (Nat.lt_of_lt_of_le hi' (Nat.le_trans hl (by decide)))) rfl rfl ?_⟩
        refine ⟨S4.acc hD1, upd_same, ns ++ [(entS ws r[i]).1], by rw [List.map_append]; rfl, ?_⟩
        rw [hns, List.take_succ, List.getElem?_eq_getElem hi', List.map_append]
        rfl
      · rintro zs H4 ⟨S4, hD4, ns, rfl, hns⟩
        rw [List.take_of_length_le (by omega)] at hns
        refine ⟨D1, ns, rfl, SqL.of hD4, ?_⟩
        have hsum : ns.sum = loZ ws r := by rw [hns]; rfl
        have hD34 := S4 _ _ hD3
        have S34 := S3.trans S4
        have dv34 := dv3.same S4
        clear hns hD4
        refine ⟨_, rfl, D, rfl, ⟨_, SqL.of hD34⟩, fun D2 hD2 => ?_⟩
        refine lc_list (K := K) (a := D) (xs := ys) 2 []
          (fun i zs H5 => Same H4 H5 ∧ H5 D2 = some (.lst zs) ∧ ∃ ns : List Int, zs = ns.map V.int ∧ ns = (r.take i).map (fun e => (entS ws e).2))
          rfl ⟨Same.new hD2, upd_same, [], rfl, rfl⟩ (fun i zs H5 _ ⟨h, _⟩ => SqL.of (h _ _ hD34)) ?_ ?_
        · rintro i v zs H5 os hi ho1 ⟨S5, hD4, ns, rfl, hns⟩
          obtain ⟨o, o', rfl⟩ := two_of ho1
          have hi0 : i < ys.length := (List.getElem?_eq_some_iff.mp hi).1
          obtain ⟨d, hd, dx⟩ := dv34.get hi
          have hi' : i < r.length := by omega
          rw [List.getElem?_map, List.getElem?_map, List.getElem?_eq_getElem hi'] at hd
          cases hd
          obtain ⟨q, rfl, hq⟩ := pair_at dx
          refine ⟨q, _, rfl, SqT.of (S5 _ _ hq), rfl, _, _, rfl, _, _, rfl, rfl, noif ?_⟩
          refine ⟨_, rfl, LcN.mk (os := [some (.int (entS ws r[i]).1), some (.int (entS ws r[i]).2)]) hi0 hD4 (by rw [List.length_map, hns, List.length_map, List.length_take]; exact Nat.lt_of_le_of_lt (Nat.min_le_left _ _) (Nat.lt_of_lt_of_le hi' (Nat.le_trans hl (by decide)))) rfl rfl ?_⟩
          refine ⟨S5.acc hD2, upd_same, ns ++ [(entS ws r[i]).2], by rw [List.map_append]; rfl, ?_⟩
          rw [hns, List.take_succ, List.getElem?_eq_getElem hi', List.map_append]
          rfl
        · rintro zs H5 ⟨S5, hD5, ms, rfl, hms⟩
          rw [List.take_of_length_le (by omega)] at hms
          refine ⟨D2, ms, rfl, SqL.of hD5, ?_⟩
          have hsum2 : ms.sum = hiZ ws r := by rw [hms]; rfl
          rw [hsum, hsum2]
          refine ⟨by show 2 ≤ sizeLine; decide, fun p hp => ?_⟩
          exact k p _ ((S34.trans S5).trans (Same.new hp)) upd_same
end

section
variable {P : Program} {w : World} {K : PySem.W.Frag} {mg : Str → Option Value} {base : Heap}
theorem ixN_at {n : Nat} {i : Int} (h0 : 0 ≤ i) (h1 : i < n) : ixN n i = some i.toNat := by
  unfold ixN
  rw [if_pos h0, if_pos h1]
theorem prices_at {K : PySem.W.Frag} {H : Hp} {x : V} {l : List (Int × List (Int × Int))} (h : DV K H x (pricesD l)) : ∃ a xs, x = .ref a ∧ H a = some (.tup xs) ∧ DVs K H xs (l.map priceD) := by
  cases h with
  | tup h r => exact ⟨_, _, rfl, h, r⟩
theorem prices_item {K : PySem.W.Frag} {H : Hp} {xs : List V} {l : List (Int × List (Int × Int))} {i : Nat} {x : V} (h : DVs K H xs (l.map priceD)) (hx : xs[i]? = some x) : ∃ (hi : i < l.length) (a b : Addr), x = .ref a ∧ H a = some (.tup [.int (l[i]).1, .ref b]) ∧ DV K H (.ref b) (pairsD (l[i]).2) := by
  have hl : xs.length = l.length := by rw [h.length, List.length_map]
  have hi : i < l.length := by rw [← hl]; exact (List.getElem?_eq_some_iff.mp hx).1
  obtain ⟨d, hd, dx⟩ := h.get hx
  rw [List.getElem?_map, List.getElem?_eq_getElem hi] at hd
  cases hd
  obtain ⟨a, b, rfl, e, d⟩ := price_at dx
  exact ⟨hi, a, b, rfl, e, d⟩
theorem sc_left_of : FnScope ["weights", "prices", "left", "price", "ring", "s", "way"] ["weights", "prices"] (defScope s_left_of) := ⟨rfl, rfl, rfl, by decide +kernel, rfl, by decide +kernel, by decide +kernel⟩
theorem ok_left_of {f : Addr} {fd : FuncData} (F : Fun K "left_of" "left_of" s_left_of f fd) (T : Txt mg) : FnOk P w K mg base CX0 1 f fd ["weights", "prices"] (sp_left_of K) := by
  refine F.ok sc_left_of (fun vs H Q E h => ?_) (fun cdv A outer s H vs Q E hr h => ?_)
  · obtain ⟨wa, y, ws, ps, rfl, _⟩ := h
    rfl
  · obtain ⟨wa, y, ws, ps, rfl, hwa, hwl, hy, ho, k⟩ := h
    obtain ⟨ya, xs, rfl, hya, dv⟩ := prices_at hy
    have hxl : xs.length = ps.length := by rw [dv.length, List.length_map]
    refine ⟨_, (@pss_cons _ _ _ _ _ (@ps_set _ _ 2 _ _ _ _ sc_left_of.nd rfl (Or.inl rfl) (@pe_callTy _ _ _ _ _ _ _ _ _ call_list_of rfl T.n_list PyProof.Rows.boot_list (@pa_name _ _ _ _ _ _ (@pv _ 0 _ _ rfl (Or.inl rfl) (by decide) (by decide)) (@pa_nil _)) (by decide) (by decide) (by rfl) (by rfl)) (by rfl) (by first | exact Or.inl rfl | exact Or.inr rfl | assumption)) (@pss_cons _ _ _ _ _ (@ps_for _ _ _ _ _ _ _ _ PassesOwn.never rfl (@pi_tup _ _ _ _ (@pv _ 1 _ _ rfl (Or.inl rfl) (by decide) (by decide))) (@pg_tup _ _ _ _ _ _ rfl (@pgs_cons _ _ _ _ _ (@pg_name _ _ 3 _ sc_left_of.nd rfl (Or.inl rfl) (by first | exact Or.inl rfl | exact Or.inr rfl | assumption)) (@pgs_cons _ _ _ _ _ (@pg_name _ _ 4 _ sc_left_of.nd rfl (Or.inl rfl) (by first | exact Or.inl rfl | exact Or.inr rfl | assumption)) (@pgs_nil _) (by rfl)) (by rfl)) (by rfl) (by rfl)) (@pss_one _ _ _ (@ps_for _ _ _ _ _ _ _ _ PassesOwn.never rfl (@pi_tup _ _ _ _ (@pv _ 4 _ _ rfl (Or.inl rfl) (by decide) (by decide))) (@pg_tup _ _ _ _ _ _ rfl (@pgs_cons _ _ _ _ _ (@pg_name _ _ 5 _ sc_left_of.nd rfl (Or.inl rfl) (by first | exact Or.inl rfl | exact Or.inr rfl | assumption)) (@pgs_cons _ _ _ _ _ (@pg_name _ _ 6 _ sc_left_of.nd rfl (Or.inl rfl) (by first | exact Or.inl rfl | exact Or.inr rfl | assumption)) (@pgs_nil _) (by rfl)) (by rfl)) (by rfl) (by rfl)) (@pss_one _ _ _ (@ps_augS _ _ _ _ _ _ _ _ _ _ _ _ _ (@pv _ 2 _ _ rfl (Or.inl rfl) (by decide) (by decide)) (@pv _ 5 _ _ rfl (Or.inl rfl) (by decide) (by decide)) get_list (@pe_op _ _ _ _ _ _ _ _ op_mul (@pv _ 3 _ _ rfl (Or.inl rfl) (by decide) (by decide)) (@pv _ 6 _ _ rfl (Or.inl rfl) (by decide) (by decide))) ip_sub set_list (by intros  ;  rfl))) (by intro _ ; rfl))) (by intro _ ; rfl)) (@pss_one _ _ _ (@ps_ret _ _ _ _ (@pv _ 2 _ _ rfl (Or.inl rfl) (by decide) (by decide)))))), ?_⟩
    refine ⟨_, rfl, wa, _, rfl, .inr (SqT.of hwa), fun L hL => ?_⟩
    refine ⟨_, rfl, ya, rfl, ⟨_, SqT.of (Same.new hL _ _ hya)⟩, ?_⟩
    refine for_tup (K := K) (a := ya) (xs := xs) (fun i σ H3 => ∃ o3 o4 o5 o6, σ = [some (.ref wa), some (.ref ya), some (.ref L), o3, o4, o5, o6] ∧ Same H H3 ∧ H3 L = some (.lst ((leftZ ws (ps.take i)).map V.int)))
      ⟨_, _, _, _, rfl, Same.new hL, upd_same⟩ (fun i σ H3 _ ⟨_, _, _, _, _, h, _⟩ => SqT.of (h _ _ hya)) ?_ ?_
    · rintro i x σ H3 hi ⟨o3, o4, o5, o6, rfl, S3, hL3⟩
      obtain ⟨hi', a, b, rfl, ha, hb⟩ := prices_item dv hi
      obtain ⟨b', zs, hbb, hzb, dz⟩ := pairs_at hb
      cases hbb
      have hzl : zs.length = (ps[i]).2.length := by rw [dz.length, List.length_map]
      obtain ⟨hpr, hen⟩ := ho _ (List.getElem_mem hi')
      refine ⟨a, _, rfl, SqT.of (S3 _ _ ha), rfl, _, _, rfl, _, _, rfl, rfl, ?_⟩
      refine ⟨_, rfl, b, rfl, ⟨_, SqT.of (S3 _ _ hzb)⟩, ?_⟩
      refine for_tup (K := K) (a := b) (xs := zs) (fun j σ H4 => ∃ o5 o6, σ = [some (.ref wa), some (.ref ya), some (.ref L), some (.int (ps[i]).1), some (.ref b), o5, o6] ∧ Same H H4 ∧ H4 L = some (.lst ((((ps[i]).2.take j).foldl (stepL (ps[i]).1) (leftZ ws (ps.take i))).map V.int)))
        ⟨_, _, rfl, S3, hL3⟩ (fun j σ H4 _ ⟨_, _, _, h, _⟩ => SqT.of (h _ _ hzb)) ?_ ?_
      · rintro j v σ H4 hj ⟨o5, o6, rfl, S4, hL4⟩
        obtain ⟨hj', c, rfl, hc⟩ := pairs_item dz hj
        refine ⟨c, _, rfl, SqT.of (S4 _ _ hc), rfl, _, _, rfl, _, _, rfl, rfl, ?_⟩
        have hlen : (((ps[i]).2.take j).foldl (stepL (ps[i]).1) (leftZ ws (ps.take i))).length = ws.length := by rw [foldl_len, leftZ_len]
        revert hL4 hlen
        generalize hl0 : ((ps[i]).2.take j).foldl (stepL (ps[i]).1) (leftZ ws (ps.take i)) = left
        intro hL4 hlen
        obtain ⟨e0, e1, e2⟩ := hen _ (List.getElem_mem hj')
        have hat : (left.map V.int)[((ps[i]).2[j]).1.toNat]? = some (.int (bt left ((ps[i]).2[j]).1)) := by
          have hi2 : ((ps[i]).2[j]).1.toNat < left.length := by omega
          rw [List.getElem?_map, List.getElem?_eq_getElem hi2, bt, List.getD_eq_getElem?_getD, List.getElem?_eq_getElem hi2]
          rfl
        try simp only [List.set_cons_zero, List.set_cons_succ]
        refine ⟨_, rfl, _, rfl, L, _, _, _, rfl, rfl, SqL.of hL4, e0, hat, ?_⟩
        refine ⟨_, rfl, _, rfl, _, _, rfl, rfl, .inl ⟨by omega, by omega⟩, _, _, rfl, rfl, L, _, _, _, rfl, rfl, hL4, ixN_at e0 (by rw [List.length_map]; omega), ?_⟩
        refine ⟨_, _, rfl, S4.acc hL, ?_⟩
        rw [upd_same, List.take_succ, List.getElem?_eq_getElem hj', List.foldl_append, hl0]
        show _ = some (HO.lst (List.map V.int (stepL (ps[i]).1 left ((ps[i]).2[j]))))
        rw [stepL, List.map_set]
      · rintro σ H4 ⟨o5, o6, rfl, S4, hL4⟩
        refine ⟨_, _, _, _, rfl, S4, ?_⟩
        rw [hL4, List.take_of_length_le (l := (ps[i]).2) (i := zs.length) (by omega), List.take_succ, List.getElem?_eq_getElem hi', leftZ, leftZ, List.foldl_append]
        rfl
    · rintro σ H3 ⟨o3, o4, o5, o6, rfl, S3, hL3⟩
      rw [List.take_of_length_le (by omega)] at hL3
      exact ⟨_, rfl, k L H3 S3 hL3⟩
theorem sc_shown_by_span : FnScope ["low", "window", "left", "least", "most"] ["low", "window", "left"] (defScope s_shown_by_span) := ⟨rfl, rfl, rfl, by decide +kernel, rfl, by decide +kernel, by decide +kernel⟩
theorem ok_shown_by_span {f : Addr} {fd : FuncData} (F : Fun K "shown_by_span" "shown_by_span" s_shown_by_span f fd) (T : Txt mg) : FnOk P w K mg base CX0 1 f fd ["low", "window", "left"] (sp_shown_by_span K) := by
  refine F.ok sc_shown_by_span (fun vs H Q E h => ?_) (fun cdv A outer s H vs Q E hr h => ?_)
  · obtain ⟨low, left, a, p, rfl, _⟩ := h
    rfl
  · obtain ⟨low, left, a, p, rfl, ha, h1, h2, k⟩ := h
    refine ⟨_, (@pss_cons _ _ _ _ _ (@ps_asg _ _ _ _ _ _ (@pv _ 1 _ _ rfl (Or.inl rfl) (by decide) (by decide)) (@pg_tup _ _ _ _ _ _ rfl (@pgs_cons _ _ _ _ _ (@pg_name _ _ 3 _ sc_shown_by_span.nd rfl (Or.inl rfl) (by first | exact Or.inl rfl | exact Or.inr rfl | assumption)) (@pgs_cons _ _ _ _ _ (@pg_name _ _ 4 _ sc_shown_by_span.nd rfl (Or.inl rfl) (by first | exact Or.inl rfl | exact Or.inr rfl | assumption)) (@pgs_nil _) (by rfl)) (by rfl)) (by rfl) (by rfl)) (by rfl) (by rfl) (by rfl)) (@pss_one _ _ _ (@ps_ret _ _ _ _ (@pe_op _ _ _ _ _ _ _ _ op_mul (@pv _ 2 _ _ rfl (Or.inl rfl) (by decide) (by decide)) (@pe_op _ _ _ _ _ _ _ _ op_sub (@pe_ifExp _ _ _ _ _ _ _ _ (@pt_cmpR _ _ _ _ _ _ _ _ op_ge (@pv _ 2 _ _ rfl (Or.inl rfl) (by decide) (by decide)) (@pe_int _ _ _ _) (nomark _)) (@pv _ 3 _ _ rfl (Or.inl rfl) (by decide) (by decide)) (@pv _ 4 _ _ rfl (Or.inl rfl) (by decide) (by decide))) (@pv _ 0 _ _ rfl (Or.inl rfl) (by decide) (by decide))))))), ?_⟩
    refine ⟨_, rfl, a, _, rfl, SqT.of ha, rfl, _, _, rfl, _, _, rfl, rfl, ?_⟩
    try simp only [List.set_cons_zero, List.set_cons_succ]
    refine ⟨_, rfl, _, rfl, _, _, rfl, rfl, _, rfl, ite2 (fun hd => ?_) (fun hd => ?_)⟩
    · refine ⟨_, rfl, _, rfl, _, _, rfl, rfl, _, _, rfl, rfl, .inl ⟨by omega, by omega⟩, ?_⟩
      have hd := of_decide_eq_true hd
      unfold spanZ at k
      rw [if_pos hd] at k
      exact k
    · refine ⟨_, rfl, _, rfl, _, _, rfl, rfl, _, _, rfl, rfl, .inl ⟨by omega, by omega⟩, ?_⟩
      have hd : ¬ (0 ≤ left) := fun z => hd (decide_eq_true z)
      unfold spanZ at k
      rw [if_neg hd] at k
      exact k
theorem sc_shown_by_ring : FnScope ["plan", "period", "windows", "price", "ring", "rounds", "lows", "least", "most"] ["plan", "period", "windows", "price", "ring"] (defScope s_shown_by_ring) := ⟨rfl, rfl, rfl, by decide +kernel, rfl, by decide +kernel, by decide +kernel⟩
theorem ok_shown_by_ring {f : Addr} {fd : FuncData} (F : Fun K "shown_by_ring" "shown_by_ring" s_shown_by_ring f fd) (T : Txt mg) (D_sums_of : Def P w K mg base 2 "sums_of" ["plan", "period", "beats", "windows", "ring"] (sp_sums_of K)) : FnOk P w K mg base CX0 3 f fd ["plan", "period", "windows", "price", "ring"] (sp_shown_by_ring K) := by
  refine F.ok sc_shown_by_ring (fun vs H Q E h => ?_) (fun cdv A outer s H vs Q E hr h => ?_)
  · obtain ⟨x, y, z, per, price, Pl, ws, r, rfl, _⟩ := h
    rfl
  · obtain ⟨x, y, z, per, price, Pl, ws, r, rfl, hx, hy, hz, hwl, ho, hl, hp, hp2, hp3, hp4, k⟩ := h
    refine ⟨_, (@pss_cons _ _ _ _ _ (@ps_asg _ _ _ _ _ _ (@pe_own _ _ _ _ _ _ _ _ _ _ D_sums_of (hr.mono (by decide)) rfl (@pa_name _ _ _ _ _ _ (@pv _ 0 _ _ rfl (Or.inr (Or.inl rfl)) (by decide) (by decide)) (@pa_name _ _ _ _ _ _ (@pv _ 1 _ _ rfl (Or.inl rfl) (by decide) (by decide)) (@pa_tup _ _ _ _ _ _ _ (@pe_tup _ _ _ _ _ (@pa_nil _)) (@pa_name _ _ _ _ _ _ (@pv _ 2 _ _ rfl (Or.inl rfl) (by decide) (by decide)) (@pa_name _ _ _ _ _ _ (@pv _ 4 _ _ rfl (Or.inl rfl) (by decide) (by decide)) (@pa_nil _)))))) (by decide) (by rfl) (by rfl)) (@pg_tup _ _ _ _ _ _ rfl (@pgs_cons _ _ _ _ _ (@pg_name _ _ 7 _ sc_shown_by_ring.nd rfl (Or.inl rfl) (by first | exact Or.inl rfl | exact Or.inr rfl | assumption)) (@pgs_cons _ _ _ _ _ (@pg_name _ _ 8 _ sc_shown_by_ring.nd rfl (Or.inl rfl) (by first | exact Or.inl rfl | exact Or.inr rfl | assumption)) (@pgs_nil _) (by rfl)) (by rfl)) (by rfl) (by rfl)) (by rfl) (by rfl) (by rfl)) (@pss_cons _ _ _ _ _ (@ps_set _ _ 5 _ _ _ _ sc_shown_by_ring.nd rfl (Or.inl rfl) (@pe_un _ _ _ _ _ _ un_neg (@pe_op _ _ _ _ _ _ _ _ op_fdiv (@pe_un _ _ _ _ _ _ un_neg (@pv _ 7 _ _ rfl (Or.inl rfl) (by decide) (by decide))) (@pv _ 1 _ _ rfl (Or.inl rfl) (by decide) (by decide)))) (by rfl) (by first | exact Or.inl rfl | exact Or.inr rfl | assumption)) (@pss_cons _ _ _ _ _ (@ps_set _ _ 6 _ _ _ _ sc_shown_by_ring.nd rfl (Or.inl rfl) (@pe_callB _ _ _ _ _ _ _ _ _ (call_sum rfl) rfl T.n_sum PyProof.Rows.boot_sum (@pa_lc _ _ _ _ _ _ _ _ (@pe_lc _ ["s", "way", "plan"] [none, none, (some 0)] _ _ _ _ _ _ _ _ _ _ rfl (@CScope.of _ _ _ _ rfl) (@pi_tup _ _ _ _ (@pv _ 4 _ _ rfl (Or.inl rfl) (by decide) (by decide))) (fun _ _ _ _ _ => (@pgc_tup _ _ _ _ _ _ _ _ _ _ _ 2 _ rfl (@pgs_cons _ _ _ _ _ (@pgc _ _ _ _ _ _ _ _ 0 _ _ (by decide) rfl rfl) (@pgs_cons _ _ _ _ _ (@pgc _ _ _ _ _ _ _ _ 1 _ _ (by decide) rfl rfl) (@pgs_nil _) (by rfl)) (by rfl)) (by rfl) (by rfl))) (fun _ _ _ _ _ => pif_nil) (fun _ _ _ _ _ => (@pe_op _ _ _ _ _ _ _ _ op_mul (@pvc _ _ _ _ _ _ _ _ 1 _ _ (by rfl) (by first | exact Or.inl rfl | exact Or.inr rfl) (by decide) (by decide)) (@pe_ix _ _ _ _ _ _ _ ixc_tup (@pe_ix _ _ _ _ _ _ _ ixc_tup (@pe_ix _ _ _ _ _ _ _ ixc_tup (@pvc _ _ _ _ _ _ _ _ 2 _ _ (by rfl) (by first | exact Or.inl rfl | exact Or.inr rfl) (by decide) (by decide)) (@pe_int _ _ _ _) (fun _ _ => rfl)) (@pvc _ _ _ _ _ _ _ _ 0 _ _ (by rfl) (by first | exact Or.inl rfl | exact Or.inr rfl) (by decide) (by decide)) (fun _ _ => rfl)) (@pe_int _ _ _ _) (fun _ _ => rfl)))) (by intro _ ; rfl)) (@pa_nil _)) (by decide) (by decide) (by rfl) (by rfl)) (by rfl) (by first | exact Or.inl rfl | exact Or.inr rfl | assumption)) (@pss_one _ _ _ (@ps_ret _ _ _ _ (@pe_op _ _ _ _ _ _ _ _ op_mul (@pv _ 3 _ _ rfl (Or.inl rfl) (by decide) (by decide)) (@pe_op _ _ _ _ _ _ _ _ op_sub (@pe_op _ _ _ _ _ _ _ _ op_mul (@pv _ 5 _ _ rfl (Or.inl rfl) (by decide) (by decide)) (@pv _ 1 _ _ rfl (Or.inl rfl) (by decide) (by decide))) (@pv _ 6 _ _ rfl (Or.inl rfl) (by decide) (by decide))))))))), ?_⟩
    refine ⟨_, rfl, _, rfl, by show 0 ≤ sizeLine; decide, fun t ht => ⟨_, rfl, _, rfl, ?_⟩⟩
    have S0 : Same H (upd H t (.tup [])) := Same.new ht
    refine ⟨_, _, _, y, z, ws, r, rfl, hy.same S0, hz.same S0, ho, hl, fun q H1 S1 hq => ?_⟩
    refine ⟨q, _, rfl, SqT.of hq, rfl, _, _, rfl, _, _, rfl, rfl, ?_⟩
    try simp only [List.set_cons_zero, List.set_cons_succ]
    refine ⟨_, rfl, _, rfl, _, rfl, _, _, rfl, rfl, ⟨hp, by omega⟩, _, rfl, ?_⟩
    try simp only [List.set_cons_zero, List.set_cons_succ]
    have S01 := S0.trans S1
    have hx1 := hx.same S01
    obtain ⟨za, xs, rfl, hza, dv⟩ := pairs_at (hz.same S01)
    have hxl : xs.length = r.length := by rw [dv.length, List.length_map]
    obtain ⟨p, pn, ps, ys, rfl, e, e1, e2, rr⟩ := plan_at hx1
    have hyl : ys.length = Pl.spans.length := by rw [rr.length, List.length_map]
    refine ⟨_, rfl, za, rfl, ⟨_, SqT.of hza⟩, fun D hD => ?_⟩
    refine lc_tup (K := K) (a := za) (xs := xs) 2 [some (.ref p)]
      (fun i zs H3 => Same H1 H3 ∧ H3 D = some (.lst zs) ∧ ∃ ns : List Int, zs = ns.map V.int ∧ ns = (r.take i).map (fun e => e.2 * lowAt Pl.spans e.1))
      rfl ⟨Same.new hD, upd_same, [], rfl, rfl⟩ (fun i zs H3 _ ⟨h, _⟩ => SqT.of (h _ _ hza)) ?_ ?_
    · rintro i v zs H3 os hi ho1 ⟨S3, hD3, ns, rfl, hns⟩
      obtain ⟨o, o', rfl⟩ := two_of ho1
      have hi0 : i < xs.length := (List.getElem?_eq_some_iff.mp hi).1
      obtain ⟨hi', b, rfl, hb⟩ := pairs_item dv hi
      obtain ⟨f0, f1, f2⟩ := ho _ (List.getElem_mem hi')
      have hs : (r[i]).1.toNat < Pl.spans.length := by omega
      have hs3 : HasSpan K H3 (.ref p) Pl (r[i]).1 Pl.spans[(r[i]).1.toNat] := ⟨hx1.same S3, f0, List.getElem?_eq_getElem hs⟩
      obtain ⟨p4, pn4, ps4, xs4, q4, hpq4, g1, g2, g3, g4⟩ := hs3.raw
      cases hpq4
      refine ⟨b, _, rfl, SqT.of (S3 _ _ hb), rfl, _, _, rfl, _, _, rfl, rfl, noif ?_⟩
      refine ⟨_, rfl, _, rfl, p, _, _, _, rfl, rfl, SqT.of g1, pickN (by decide) rfl, _, rfl, ps4, _, _, _, rfl, rfl, SqT.of g2, g3, q4, _, _, _, rfl, rfl, SqT.of g4, pickN (by decide) rfl, _, _, rfl, rfl, .inl ⟨by omega, by omega⟩, ?_⟩
      refine LcN.mk (os := [some (.int (r[i]).1), some (.int (r[i]).2)]) hi0 hD3 (by rw [List.length_map, hns, List.length_map, List.length_take]; exact Nat.lt_of_le_of_lt (Nat.min_le_left _ _) (Nat.lt_of_lt_of_le hi' (Nat.le_trans hl (by decide)))) rfl rfl ?_
      refine ⟨S3.acc hD, upd_same, ns ++ [(r[i]).2 * lowAt Pl.spans (r[i]).1], ?_, ?_⟩
      · rw [List.map_append, lowAt, List.getElem?_eq_getElem hs]
        rfl
      · rw [hns, List.take_succ, List.getElem?_eq_getElem hi', List.map_append]
        rfl
    · rintro zs H3 ⟨S3, hD3, ns, rfl, hns⟩
      rw [List.take_of_length_le (by omega)] at hns
      refine ⟨D, ns, rfl, SqL.of hD3, ?_⟩
      have hsum : ns.sum = lowsZ Pl.spans r := by rw [hns]; rfl
      rw [hsum]
      try simp only [List.set_cons_zero, List.set_cons_succ]
      refine ⟨_, rfl, _, rfl, _, rfl, _, _, rfl, rfl, .inr ⟨by omega, by omega⟩, _, rfl, _, _, rfl, rfl, _, _, rfl, rfl, .inl ⟨by omega, by omega⟩, ?_⟩
      exact k _ (S01.trans S3)
theorem sc_shown_by : FnScope ["plan", "period", "weights", "windows", "prices", "left", "by_spans", "by_rings"] ["plan", "period", "weights", "windows", "prices"] (defScope s_shown_by) := ⟨rfl, rfl, rfl, by decide +kernel, rfl, by decide +kernel, by decide +kernel⟩
theorem ok_shown_by {f : Addr} {fd : FuncData} (F : Fun K "shown_by" "shown_by" s_shown_by f fd) (T : Txt mg) (D_left_of : Def P w K mg base 1 "left_of" ["weights", "prices"] (sp_left_of K)) (D_shown_by_span : Def P w K mg base 1 "shown_by_span" ["low", "window", "left"] (sp_shown_by_span K)) (D_shown_by_ring : Def P w K mg base 3 "shown_by_ring" ["plan", "period", "windows", "price", "ring"] (sp_shown_by_ring K)) : FnOk P w K mg base CX0 4 f fd ["plan", "period", "weights", "windows", "prices"] (sp_shown_by K) := by
  refine F.ok sc_shown_by (fun vs H Q E h => ?_) (fun cdv A outer s H vs Q E hr h => ?_)
  · obtain ⟨x, y, z, wa, per, Pl, ws, wins, ps, rfl, _⟩ := h
    rfl
  · obtain ⟨x, y, z, wa, per, Pl, ws, wins, ps, rfl, hx, hsl, hwa, hwl, hwr, hy, hyl, hz, ⟨hpl, hpe⟩, hp, hp2, k⟩ := h
    have hlr := leftZ_rng ps ws 99 hpe (fun z hz => by have := hwr z hz; omega)
    have hll := leftZ_len ps ws
    refine ⟨_, (@pss_cons _ _ _ _ _ (@ps_set _ _ 5 _ _ _ _ sc_shown_by.nd rfl (Or.inr rfl) (@pe_own _ _ _ _ _ _ _ _ _ _ D_left_of (hr.mono (by decide)) rfl (@pa_name _ _ _ _ _ _ (@pv _ 2 _ _ rfl (Or.inl rfl) (by decide) (by decide)) (@pa_name _ _ _ _ _ _ (@pv _ 4 _ _ rfl (Or.inl rfl) (by decide) (by decide)) (@pa_nil _))) (by decide) (by rfl) (by rfl)) (by rfl) (by first | exact Or.inl rfl | exact Or.inr rfl | assumption)) (@pss_cons _ _ _ _ _ (@ps_lc _ ["s", "plan", "windows", "left"] [none, (some 0), (some 3), (some 5)] _ _ _ _ _ _ _ _ _ _ _ _ 6 _ sc_shown_by.nd rfl rfl rfl (@CScope.of _ _ _ _ rfl) (@pi_range1 _ _ _ _ _ _ rfl T.n_range (@pa_call _ _ _ _ _ _ _ _ (@pe_callB _ _ _ _ _ _ _ _ _ call_len_seq rfl T.n_len PySem.boot_len (@pa_sub _ _ _ _ _ _ _ (@pe_ix _ _ _ _ _ _ _ ix_tup (@pv _ 0 _ _ rfl (Or.inr (Or.inl rfl)) (by decide) (by decide)) (@pe_int _ _ _ _) (fun _ _ => rfl)) (@pa_nil _)) (by decide) (by decide) (by rfl) (by rfl)) (@pa_nil _)) (by rfl)) (fun _ _ _ _ _ => (@pgc _ _ _ _ _ _ _ _ 0 _ _ (by decide) rfl rfl)) (fun _ _ _ _ _ => pif_nil) (fun _ _ _ _ _ => (@pe_own _ _ _ _ _ _ _ _ _ _ D_shown_by_span (hr.mono (by decide)) (glc rfl) (@pa_sub _ _ _ _ _ _ _ (@pe_ix _ _ _ _ _ _ _ ixc_tup (@pe_ix _ _ _ _ _ _ _ ixc_tup (@pe_ix _ _ _ _ _ _ _ ixc_tup (@pvc _ _ _ _ _ _ _ _ 1 _ _ (by rfl) (by first | exact Or.inl rfl | exact Or.inr rfl) (by decide) (by decide)) (@pe_int _ _ _ _) (fun _ _ => rfl)) (@pvc _ _ _ _ _ _ _ _ 0 _ _ (by rfl) (by first | exact Or.inl rfl | exact Or.inr rfl) (by decide) (by decide)) (fun _ _ => rfl)) (@pe_int _ _ _ _) (fun _ _ => rfl)) (@pa_sub _ _ _ _ _ _ _ (@pe_ix _ _ _ _ _ _ _ ixc_tup (@pvc _ _ _ _ _ _ _ _ 2 _ _ (by rfl) (by first | exact Or.inl rfl | exact Or.inr rfl) (by decide) (by decide)) (@pvc _ _ _ _ _ _ _ _ 0 _ _ (by rfl) (by first | exact Or.inl rfl | exact Or.inr rfl) (by decide) (by decide)) (fun _ _ => rfl)) (@pa_sub _ _ _ _ _ _ _ (@pe_ix _ _ _ _ _ _ _ ixc_list (@pvc _ _ _ _ _ _ _ _ 3 _ _ (by rfl) (by first | exact Or.inl rfl | exact Or.inr rfl) (by decide) (by decide)) (@pvc _ _ _ _ _ _ _ _ 0 _ _ (by rfl) (by first | exact Or.inl rfl | exact Or.inr rfl) (by decide) (by decide)) (fun _ _ => rfl)) (@pa_nil _)))) (by decide) (by rfl) (by rfl))) rfl (by intro _ ; rfl)) (@pss_cons _ _ _ _ _ (@ps_lc _ ["price", "ring", "plan", "period", "windows"] [none, none, (some 0), (some 1), (some 3)] _ _ _ _ _ _ _ _ _ _ _ _ 7 _ sc_shown_by.nd rfl rfl rfl (@CScope.of _ _ _ _ rfl) (@pi_tup _ _ _ _ (@pv _ 4 _ _ rfl (Or.inl rfl) (by decide) (by decide))) (fun _ _ _ _ _ => (@pgc_tup _ _ _ _ _ _ _ _ _ _ _ 2 _ rfl (@pgs_cons _ _ _ _ _ (@pgc _ _ _ _ _ _ _ _ 0 _ _ (by decide) rfl rfl) (@pgs_cons _ _ _ _ _ (@pgc _ _ _ _ _ _ _ _ 1 _ _ (by decide) rfl rfl) (@pgs_nil _) (by rfl)) (by rfl)) (by rfl) (by rfl))) (fun _ _ _ _ _ => pif_nil) (fun _ _ _ _ _ => (@pe_own _ _ _ _ _ _ _ _ _ _ D_shown_by_ring (hr.mono (by decide)) (glc rfl) (@pa_name _ _ _ _ _ _ (@pvc _ _ _ _ _ _ _ _ 2 _ _ (by rfl) (by first | exact Or.inl rfl | exact Or.inr rfl) (by decide) (by decide)) (@pa_name _ _ _ _ _ _ (@pvc _ _ _ _ _ _ _ _ 3 _ _ (by rfl) (by first | exact Or.inl rfl | exact Or.inr rfl) (by decide) (by decide)) (@pa_name _ _ _ _ _ _ (@pvc _ _ _ _ _ _ _ _ 4 _ _ (by rfl) (by first | exact Or.inl rfl | exact Or.inr rfl) (by decide) (by decide)) (@pa_name _ _ _ _ _ _ (@pvc _ _ _ _ _ _ _ _ 0 _ _ (by rfl) (by first | exact Or.inl rfl | exact Or.inr rfl) (by decide) (by decide)) (@pa_name _ _ _ _ _ _ (@pvc _ _ _ _ _ _ _ _ 1 _ _ (by rfl) (by first | exact Or.inl rfl | exact Or.inr rfl) (by decide) (by decide)) (@pa_nil _)))))) (by decide) (by rfl) (by rfl))) rfl (by intro _ ; rfl)) (@pss_one _ _ _ (@ps_ret _ _ _ _ (@pe_op _ _ _ _ _ _ _ _ op_add (@pe_callB _ _ _ _ _ _ _ _ _ (call_sum rfl) rfl T.n_sum PyProof.Rows.boot_sum (@pa_name _ _ _ _ _ _ (@pv _ 6 _ _ rfl (Or.inl rfl) (by decide) (by decide)) (@pa_nil _)) (by decide) (by decide) (by rfl) (by rfl)) (@pe_callB _ _ _ _ _ _ _ _ _ (call_sum rfl) rfl T.n_sum PyProof.Rows.boot_sum (@pa_name _ _ _ _ _ _ (@pv _ 7 _ _ rfl (Or.inl rfl) (by decide) (by decide)) (@pa_nil _)) (by decide) (by decide) (by rfl) (by rfl)))))))), ?_⟩
    refine ⟨_, rfl, _, rfl, wa, z, ws, ps, rfl, hwa, by omega, hz, fun p hp => ⟨(hpe p hp).1, (hpe p hp).2.2⟩, fun L H1 S1 hL => ?_⟩
    have hx1 := hx.same S1
    obtain ⟨p, pn, pp, xs, rfl, e, e1, e2, rr⟩ := plan_at hx1
    have hxl : xs.length = Pl.spans.length := by rw [rr.length, List.length_map]
    obtain ⟨ya, ws', rfl, hya, dy⟩ := pairs_at (hy.same S1)
    try simp only [List.set_cons_zero, List.set_cons_succ]
    refine ⟨_, rfl, p, _, _, _, rfl, rfl, SqT.of e, pickN (by decide) rfl, pp, _, rfl, .inr (SqT.of e2), _, rfl, by omega, by omega, fun D hD => ?_⟩
    refine lc_range 1 [some (.ref p), some (.ref ya), some (.ref L)]
      (fun i zs H3 => Same H1 H3 ∧ H3 D = some (.lst zs) ∧ ∃ ns : List Int, zs = ns.map V.int ∧ ns.length = i ∧ ns.sum = spansN Pl.spans wins (leftZ ws ps) i)
      rfl ⟨Same.new hD, upd_same, [], rfl, rfl, rfl⟩ ?_ ?_
    · rintro i zs H3 os hi ho1 ⟨S3, hD3, ns, rfl, hnl, hns⟩
      obtain ⟨o, rfl⟩ := one_of ho1
      have hi' : i < Pl.spans.length := by omega
      have hsp : Pl.spans[(0 + (i : Int)).toNat]? = some Pl.spans[i] := by
        rw [show (0 + (i : Int)).toNat = i by omega]
        exact List.getElem?_eq_getElem hi'
      have hs3 : HasSpan K H3 (.ref p) Pl (0 + (i : Int)) Pl.spans[i] := ⟨hx1.same S3, by omega, hsp⟩
      obtain ⟨p4, pn4, ps4, xs4, q4, hpq4, g1, g2, g3, g4⟩ := hs3.raw
      cases hpq4
      obtain ⟨b, hb, hbe⟩ := pairs_get dy (i := i) (by omega)
      have hbt := bt_at (bs := leftZ ws ps) (i := 0 + (i : Int)) (by omega) (by omega)
      have hbr := bt_rng hlr (i := 0 + (i : Int)) (by omega) (by omega)
      refine noifN ?_
      refine ⟨_, rfl, p, _, _, _, rfl, rfl, SqT.of g1, pickN (by decide) rfl, _, rfl, ps4, _, _, _, rfl, rfl, SqT.of g2, g3, q4, _, _, _, rfl, rfl, SqT.of g4, pickN (by decide) rfl, ?_⟩
      refine ⟨_, rfl, _, rfl, ya, _, _, _, rfl, rfl, SqT.of (S3 _ _ hya), pickN (by omega) (by rw [show (0 + (i : Int)).toNat = i by omega]; exact hb), ?_⟩
      refine ⟨_, rfl, _, rfl, L, _, _, _, rfl, rfl, SqL.of (S3 _ _ hL), hbt, ?_⟩
      refine ⟨_, _, b, wins[i]'(by omega), rfl, S3 _ _ hbe, by omega, by omega, ?_⟩
      refine LcN.mk (os := [some (.int (0 + (i : Int)))]) hi hD3 (by rw [List.length_map, hnl]; exact Nat.lt_of_lt_of_le hi' (Nat.le_trans hsl (by decide))) rfl rfl ?_
      refine ⟨S3.acc hD, upd_same, ns ++ [spanZ (lowAt Pl.spans (i : Int)) (wins.getD i (0, 0)) (bt (leftZ ws ps) (i : Int))], ?_, by rw [List.length_append, hnl]; rfl, by rw [List.sum_append, hns, spansN_succ]; simp⟩
      rw [List.map_append, lowAt, show ((i : Int)).toNat = i by omega, List.getElem?_eq_getElem hi', List.getD_eq_getElem?_getD, List.getElem?_eq_getElem (show i < wins.length by omega), Int.zero_add]
      rfl
    · rintro zs H3 ⟨S3, hD3, ns, rfl, hnl, hns⟩
      rw [show (xs.length : Int).toNat = Pl.spans.length by omega] at hns
      have S13 := S1.trans S3
      obtain ⟨za, qs, rfl, hza, dz⟩ := prices_at (hz.same S13)
      have hql : qs.length = ps.length := by rw [dz.length, List.length_map]
      try simp only [List.set_cons_zero, List.set_cons_succ]
      refine ⟨_, rfl, za, rfl, ⟨_, SqT.of hza⟩, fun D2 hD2 => ?_⟩
      refine lc_tup (K := K) (a := za) (xs := qs) 2 [some (.ref p), some (.int per), some (.ref ya)]
        (fun i zs H4 => Same H3 H4 ∧ H4 D2 = some (.lst zs) ∧ ∃ ms : List Int, zs = ms.map V.int ∧ ms = (ps.take i).map (ringZ per Pl.spans wins))
        rfl ⟨Same.new hD2, upd_same, [], rfl, rfl⟩ (fun i zs H4 _ ⟨h, _⟩ => SqT.of (h _ _ hza)) ?_ ?_
      · rintro i v zs H4 os hi ho1 ⟨S4, hD4, ms, rfl, hms⟩
        obtain ⟨o, o', rfl⟩ := two_of ho1
        have hi0 : i < qs.length := (List.getElem?_eq_some_iff.mp hi).1
        obtain ⟨hi', a, b, rfl, ha, hb⟩ := prices_item dz hi
        obtain ⟨h1, h2, h3⟩ := hpe _ (List.getElem_mem hi')
        have S14 := S13.trans S4
        refine ⟨a, _, rfl, SqT.of (S4 _ _ ha), rfl, _, _, rfl, _, _, rfl, rfl, noif ?_⟩
        refine ⟨_, rfl, _, rfl, _, rfl, _, rfl, _, rfl, .ref p, .ref ya, .ref b, per, (ps[i]).1, Pl, wins, (ps[i]).2, rfl, hx1.same (S3.trans S4), (hy.same S1).same (S3.trans S4), hb.same S4, hyl, fun e he => by rw [hyl, ← hwl]; exact h3 e he, by omega, hp, hp2, h1.1, h1.2, fun H5 S5 => ?_⟩
        have hD5 := S5 _ _ hD4
        refine LcN.mk (os := [some (.int (ps[i]).1), some (.ref b)]) hi0 hD5 (by rw [List.length_map, hms, List.length_map, List.length_take]; exact Nat.lt_of_le_of_lt (Nat.min_le_left _ _) (Nat.lt_of_lt_of_le hi' (Nat.le_trans hpl (by decide)))) rfl rfl ?_
        refine ⟨(S4.trans S5).acc hD2, upd_same, ms ++ [ringZ per Pl.spans wins ps[i]], by rw [List.map_append]; rfl, ?_⟩
        rw [hms, List.take_succ, List.getElem?_eq_getElem hi', List.map_append]
        rfl
      · rintro zs H4 ⟨S4, hD4, ms, rfl, hms⟩
        rw [List.take_of_length_le (by omega)] at hms
        try simp only [List.set_cons_zero, List.set_cons_succ]
        refine ⟨_, rfl, D, ns, rfl, SqL.of (S4 _ _ hD3), _, rfl, D2, ms, rfl, SqL.of hD4, _, _, rfl, rfl, ?_⟩
        have e2 : ms.sum = ringsZ per Pl.spans wins ps := by rw [hms]; rfl
        rw [hns, e2]
        exact k _ (S13.trans S4)
end

section
variable {P : Program} {w : World} {K : PySem.W.Frag} {mg : Str → Option Value} {base : Heap}
theorem sc_law_window : FnScope ["_law_plan", "_law_cycle", "_law_s", "_law_top", "_law_word", "_law_one", "_law_other", "_law_low", "_law_high"] ["_law_plan", "_law_cycle", "_law_s"] (defScope s_law_window) := ⟨rfl, rfl, rfl, by decide +kernel, rfl, by decide +kernel, by decide +kernel⟩
theorem ok_law_window {f : Addr} {fd : FuncData} (F : Fun K "_law_window" "_law_window" s_law_window f fd) (T : Txt mg) : FnOk P w K mg base CX0 1 f fd ["_law_plan", "_law_cycle", "_law_s"] (sp_window_of K) := by
  refine F.ok sc_law_window (fun vs H Q E h => ?_) (fun cdv A outer s H vs Q E hr h => ?_)
  · obtain ⟨x, per, i, Pl, sp, rfl, _⟩ := h
    rfl
  · obtain ⟨x, per, i, Pl, sp, rfl, hs, k⟩ := h
    obtain ⟨p, pn, ps, xs, q, rfl, e1, e2, e3, e4⟩ := hs.get
    refine ⟨_, (@pss_cons _ _ _ _ _ (@ps_asg _ _ _ _ _ _ (@pe_ix _ _ _ _ _ _ _ ix_tup (@pe_ix _ _ _ _ _ _ _ ix_tup (@pv _ 0 _ _ rfl (Or.inl rfl) (by decide) (by decide)) (@pe_int _ _ _ _) (fun _ _ => rfl)) (@pv _ 2 _ _ rfl (Or.inl rfl) (by decide) (by decide)) (fun _ _ => rfl)) (@pg_tup _ _ _ _ _ _ rfl (@pgs_cons _ _ _ _ _ (@pg_name _ _ 4 _ sc_law_window.nd rfl (Or.inl rfl) (by first | exact Or.inl rfl | exact Or.inr rfl | assumption)) (@pgs_cons _ _ _ _ _ (@pg_name _ _ 5 _ sc_law_window.nd rfl (Or.inl rfl) (by first | exact Or.inl rfl | exact Or.inr rfl | assumption)) (@pgs_cons _ _ _ _ _ (@pg_name _ _ 6 _ sc_law_window.nd rfl (Or.inl rfl) (by first | exact Or.inl rfl | exact Or.inr rfl | assumption)) (@pgs_cons _ _ _ _ _ (@pg_name _ _ 7 _ sc_law_window.nd rfl (Or.inl rfl) (by first | exact Or.inl rfl | exact Or.inr rfl | assumption)) (@pgs_cons _ _ _ _ _ (@pg_name _ _ 8 _ sc_law_window.nd rfl (Or.inl rfl) (by first | exact Or.inl rfl | exact Or.inr rfl | assumption)) (@pgs_nil _) (by rfl)) (by rfl)) (by rfl)) (by rfl)) (by rfl)) (by rfl) (by rfl)) (by rfl) (by rfl) (by rfl)) (@pss_cons _ _ _ _ _ (@ps_set _ _ 3 _ _ _ _ sc_law_window.nd rfl (Or.inl rfl) (@pe_ifExp _ _ _ _ _ _ _ _ (@pt_cmpR _ _ _ _ _ _ _ _ op_eq (@pv _ 4 _ _ rfl (Or.inl rfl) (by decide) (by decide)) (@pe_str _ _ _ _) (nomark _)) (@pv _ 8 _ _ rfl (Or.inl rfl) (by decide) (by decide)) (@pe_op _ _ _ _ _ _ _ _ op_sub (@pv _ 1 _ _ rfl (Or.inl rfl) (by decide) (by decide)) (@pv _ 8 _ _ rfl (Or.inl rfl) (by decide) (by decide)))) (by rfl) (by first | exact Or.inl rfl | exact Or.inr rfl | assumption)) (@pss_one _ _ _ (@ps_ret _ _ _ _ (@pe_tup _ _ _ _ _ (@pa_name _ _ _ _ _ _ (@pv _ 7 _ _ rfl (Or.inl rfl) (by decide) (by decide)) (@pa_call _ _ _ _ _ _ _ _ (@pe_callB _ _ _ _ _ _ _ _ _ (call_min2 rfl) rfl T.n_min PyProof.Rows.boot_min (@pa_name _ _ _ _ _ _ (@pv _ 3 _ _ rfl (Or.inl rfl) (by decide) (by decide)) (@pa_bin _ _ _ _ _ _ _ _ (@pe_op _ _ _ _ _ _ _ _ op_sub (@pe_op _ _ _ _ _ _ _ _ op_add (@pv _ 7 _ _ rfl (Or.inl rfl) (by decide) (by decide)) (@pv _ 1 _ _ rfl (Or.inl rfl) (by decide) (by decide))) (@pe_int _ _ _ _)) (@pa_nil _))) (by decide) (by decide) (by rfl) (by rfl)) (@pa_nil _)))))))), ?_⟩
    refine ⟨_, rfl, p, _, _, _, rfl, rfl, e1, pickN (by decide) rfl, _, rfl, ps, _, _, _, rfl, rfl, e2, e3, q, _, rfl, e4, rfl, ?_⟩
    refine ⟨_, _, rfl, _, _, rfl, _, _, rfl, _, _, rfl, _, _, rfl, rfl, ?_⟩
    try simp only [List.set_cons_zero, List.set_cons_succ]
    refine seq_cut (fun σ' H' => ∃ o, σ' = [some (.ref p), some (.int per), some (.int i), some (.int (topZ per sp)), o, some (.int sp.one), some (.int sp.other), some (.int sp.low), some (.int sp.high)] ∧ H' = H) ?_ ?_
    rotate_left
    · intro N hN
      refine ⟨_, rfl, rfl, _, rfl, ?_⟩
      rw [ap_word]
      cases hap : sp.ap with
      | false => exact iteT ⟨_, rfl, hN _ _ ⟨_, by simp only [topZ, hap]; rfl, rfl⟩⟩
      | true => exact iteF ⟨_, rfl, _, rfl, _, _, rfl, rfl, hN _ _ ⟨_, by simp only [topZ, hap]; rfl, rfl⟩⟩
    rintro _ _ ⟨o, rfl, rfl⟩
    refine ⟨_, rfl, _, rfl, _, rfl, _, rfl, _, _, rfl, rfl, _, _, rfl, rfl, _, _, rfl, by show 2 ≤ sizeLine; decide, fun t ht => ?_⟩
    exact k t _ (Same.new ht) upd_same
theorem sc_law_all_windows : FnScope ["_law_plan", "_law_cycle"] ["_law_plan", "_law_cycle"] (defScope s_law_all_windows) := ⟨rfl, rfl, rfl, by decide +kernel, rfl, by decide +kernel, by decide +kernel⟩
theorem ok_law_all_windows {f : Addr} {fd : FuncData} (F : Fun K "_law_all_windows" "_law_all_windows" s_law_all_windows f fd) (T : Txt mg) (D_law_window : Def P w K mg base 1 "_law_window" ["_law_plan", "_law_cycle", "_law_s"] (sp_window_of K)) : FnOk P w K mg base CX0 2 f fd ["_law_plan", "_law_cycle"] (sp_all_windows K) := by
  refine F.ok sc_law_all_windows (fun vs H Q E h => ?_) (fun cdv A outer s H vs Q E hr h => ?_)
  · obtain ⟨x, per, Pl, rfl, _⟩ := h
    rfl
  · obtain ⟨x, per, Pl, rfl, hs, hz, k⟩ := h
    obtain ⟨p, pn, ps, xs, rfl, e, e1, e2, r⟩ := plan_at hs
    have hxl : xs.length = Pl.spans.length := by rw [r.length, List.length_map]
    refine ⟨_, (@pss_one _ _ _ (@ps_ret _ _ _ _ (@pe_callTy _ _ _ _ _ _ _ _ _ call_tuple_of rfl T.n_tuple PyProof.Rows.boot_tuple (@pa_lc _ _ _ _ _ _ _ _ (@pe_lc _ ["_law_s", "_law_plan", "_law_cycle"] [none, (some 0), (some 1)] _ _ _ _ _ _ _ _ _ _ rfl (@CScope.of _ _ _ _ rfl) (@pi_range1 _ _ _ _ _ _ rfl T.n_range (@pa_call _ _ _ _ _ _ _ _ (@pe_callB _ _ _ _ _ _ _ _ _ call_len_seq rfl T.n_len PySem.boot_len (@pa_sub _ _ _ _ _ _ _ (@pe_ix _ _ _ _ _ _ _ ix_tup (@pv _ 0 _ _ rfl (Or.inr (Or.inl rfl)) (by decide) (by decide)) (@pe_int _ _ _ _) (fun _ _ => rfl)) (@pa_nil _)) (by decide) (by decide) (by rfl) (by rfl)) (@pa_nil _)) (by rfl)) (fun _ _ _ _ _ => (@pgc _ _ _ _ _ _ _ _ 0 _ _ (by decide) rfl rfl)) (fun _ _ _ _ _ => pif_nil) (fun _ _ _ _ _ => (@pe_own _ _ _ _ _ _ _ _ _ _ D_law_window (hr.mono (by decide)) (glc rfl) (@pa_name _ _ _ _ _ _ (@pvc _ _ _ _ _ _ _ _ 1 _ _ (by rfl) (by first | exact Or.inl rfl | exact Or.inr rfl) (by decide) (by decide)) (@pa_name _ _ _ _ _ _ (@pvc _ _ _ _ _ _ _ _ 2 _ _ (by rfl) (by first | exact Or.inl rfl | exact Or.inr rfl) (by decide) (by decide)) (@pa_name _ _ _ _ _ _ (@pvc _ _ _ _ _ _ _ _ 0 _ _ (by rfl) (by first | exact Or.inl rfl | exact Or.inr rfl) (by decide) (by decide)) (@pa_nil _)))) (by decide) (by rfl) (by rfl))) (by intro _ ; rfl)) (@pa_nil _)) (by decide) (by decide) (by rfl) (by rfl)))), ?_⟩
    refine ⟨_, rfl, p, _, _, _, rfl, rfl, SqT.of e, pickN (by decide) rfl, ps, _, rfl, .inr (SqT.of e2), _, rfl, by omega, by omega, fun D hD => ?_⟩
    refine lc_range 1 [some (.ref p), some (.int per)]
      (fun i ys H3 => Same H H3 ∧ H3 D = some (.lst ys) ∧ DVs K H3 ys ((winsZ per (Pl.spans.take i)).map pairD2) ∧ i ≤ Pl.spans.length)
      rfl ⟨Same.new hD, upd_same, .nil, Nat.zero_le _⟩ ?_ ?_
    · rintro i ys H3 os hi ho ⟨S3, hD3, dv3, hle⟩
      have hi' : i < Pl.spans.length := by omega
      obtain ⟨o, rfl⟩ := one_of ho
      have hyl : ys.length = i := by rw [dv3.length, List.length_map, winsZ, List.length_map, List.length_take]; omega
      refine noifN ?_
      have hsp : Pl.spans[(0 + (i : Int)).toNat]? = some Pl.spans[i] := by
        rw [show (0 + (i : Int)).toNat = i by omega]
        exact List.getElem?_eq_getElem hi'
      refine ⟨_, rfl, _, rfl, _, rfl, .ref p, per, (0 + (i : Int)), Pl, Pl.spans[i], rfl, ⟨hs.same S3, by omega, hsp⟩, fun q H4 S4 hq => ?_⟩
      have hD4 := S4 _ _ hD3
      refine LcN.mk (os := [some (.int (0 + (i : Int)))]) hi hD4 (by rw [hyl]; exact Nat.lt_of_lt_of_le hi' (Nat.le_trans hz (by decide))) rfl rfl ?_
      refine ⟨(S3.trans S4).acc hD, upd_same, ?_, hi'⟩
      rw [List.take_succ, List.getElem?_eq_getElem hi', winsZ, List.map_append, List.map_append]
      exact (dv3.tk ((Same.tk S4).trans (TK.updL hD4)) (noLs_pairs _)).append (.cons (at_pair ((TK.updL hD4) q _ hq)) .nil)
    · rintro ys H3 ⟨S3, hD3, dv3, _⟩
      rw [List.take_of_length_le (by omega)] at dv3
      refine ⟨D, _, rfl, .inl ⟨SqL.of hD3, fun l hl => ?_⟩⟩
      exact k l _ (S3.trans (Same.new hl)) (.tup upd_same (dv3.tk (TK.new hl) (noLs_pairs _)))
end

section
variable {P : Program} {w : World} {K : PySem.W.Frag} {mg : Str → Option Value} {base : Heap}
theorem sc_law_steps : FnScope ["_law_plan", "_law_stays", "_law_found", "_law_one", "_law_s", "_law_other"] ["_law_plan", "_law_stays"] (defScope s_law_steps) := ⟨rfl, rfl, rfl, by decide +kernel, rfl, by decide +kernel, by decide +kernel⟩
theorem ok_law_steps {f : Addr} {fd : FuncData} (F : Fun K "_law_steps" "_law_steps" s_law_steps f fd) (T : Txt mg) : FnOk P w K mg base CX0 1 f fd ["_law_plan", "_law_stays"] (sp_steps K) := by
  refine F.ok sc_law_steps (fun vs H Q E h => ?_) (fun cdv A outer s H vs Q E hr h => ?_)
  · obtain ⟨x, st, Pl, works, rfl, _⟩ := h
    rfl
  · obtain ⟨x, st, Pl, works, rfl, hx, hst, hsl, hin, k⟩ := h
    obtain ⟨p, pn, pp, xs, rfl, e, e1, e2, rr⟩ := plan_at hx
    have hxl : xs.length = Pl.spans.length := by rw [rr.length, List.length_map]
    refine ⟨_, (@pss_cons _ _ _ _ _ (@ps_set _ _ 2 _ _ _ _ sc_law_steps.nd rfl (Or.inl rfl) (@pe_lst _ _ _ _ (@pa_nil _)) (by rfl) (by first | exact Or.inl rfl | exact Or.inr rfl | assumption)) (@pss_cons _ _ _ _ _ (@ps_for _ _ _ _ _ _ _ _ PassesOwn.never rfl (@pi_tup _ _ _ _ (@pv _ 1 _ _ rfl (Or.inl rfl) (by decide) (by decide))) (@pg_name _ _ 3 _ sc_law_steps.nd rfl (Or.inr rfl) (by first | exact Or.inl rfl | exact Or.inr rfl | assumption)) (@pss_one _ _ _ (@ps_expr _ _ _ _ (@pe_bm _ _ _ _ _ _ _ _ _ _ _ _ PySem.F.plainAttrs_list PySem.F.slot_list_extend PySem.F.type_list_extend mt_extend (@pv _ 2 _ _ rfl (Or.inl rfl) (by decide) (by decide)) (@pa_lc _ _ _ _ _ _ _ _ (@pe_lc _ ["_law_other", "_law_one"] [none, (some 3)] _ _ _ _ _ _ _ _ _ _ rfl (@CScope.of _ _ _ _ rfl) (@pi_tup _ _ _ _ (@pv _ 1 _ _ rfl (Or.inl rfl) (by decide) (by decide))) (fun _ _ _ _ _ => (@pgc _ _ _ _ _ _ _ _ 0 _ _ (by decide) rfl rfl)) (fun _ _ _ _ _ => (@pif_one _ _ _ (@pt_cmpR _ _ _ _ _ _ _ _ op_ne (@pvc _ _ _ _ _ _ _ _ 0 _ _ (by rfl) (by first | exact Or.inl rfl | exact Or.inr rfl) (by decide) (by decide)) (@pvc _ _ _ _ _ _ _ _ 1 _ _ (by rfl) (by first | exact Or.inl rfl | exact Or.inr rfl) (by decide) (by decide)) (nomark _)))) (fun _ _ _ _ _ => (@pe_tup _ _ _ _ _ (@pa_tup _ _ _ _ _ _ _ (@pe_tup _ _ _ _ _ (@pa_const _ _ _ _ _ _ _ (@pe_str _ _ _ _) (@pa_name _ _ _ _ _ _ (@pvc _ _ _ _ _ _ _ _ 1 _ _ (by rfl) (by first | exact Or.inl rfl | exact Or.inr rfl) (by decide) (by decide)) (@pa_name _ _ _ _ _ _ (@pvc _ _ _ _ _ _ _ _ 0 _ _ (by rfl) (by first | exact Or.inl rfl | exact Or.inr rfl) (by decide) (by decide)) (@pa_nil _))))) (@pa_name _ _ _ _ _ _ (@pvc _ _ _ _ _ _ _ _ 1 _ _ (by rfl) (by first | exact Or.inl rfl | exact Or.inr rfl) (by decide) (by decide)) (@pa_name _ _ _ _ _ _ (@pvc _ _ _ _ _ _ _ _ 0 _ _ (by rfl) (by first | exact Or.inl rfl | exact Or.inr rfl) (by decide) (by decide)) (@pa_nil _)))))) (by intro _ ; rfl)) (@pa_nil _)) (by rfl) (by rfl) (by rfl) (by rfl) (by rfl)) (by rfl))) (by intro _ ; rfl)) (@pss_cons _ _ _ _ _ (@ps_for _ _ _ _ _ _ _ _ PassesOwn.never rfl (@pi_range1 _ _ _ _ _ _ rfl T.n_range (@pa_call _ _ _ _ _ _ _ _ (@pe_callB _ _ _ _ _ _ _ _ _ call_len_seq rfl T.n_len PySem.boot_len (@pa_sub _ _ _ _ _ _ _ (@pe_ix _ _ _ _ _ _ _ ix_tup (@pv _ 0 _ _ rfl (Or.inl rfl) (by decide) (by decide)) (@pe_int _ _ _ _) (fun _ _ => rfl)) (@pa_nil _)) (by decide) (by decide) (by rfl) (by rfl)) (@pa_nil _)) (by rfl)) (@pg_name _ _ 4 _ sc_law_steps.nd rfl (Or.inl rfl) (by first | exact Or.inl rfl | exact Or.inr rfl | assumption)) (@pss_cons _ _ _ _ _ (@ps_asg _ _ _ _ _ _ (@pe_slice _ _ _ _ _ _ _ _ _ _ sl_tup (@pe_ix _ _ _ _ _ _ _ ix_tup (@pe_ix _ _ _ _ _ _ _ ix_tup (@pv _ 0 _ _ rfl (Or.inl rfl) (by decide) (by decide)) (@pe_int _ _ _ _) (fun _ _ => rfl)) (@pv _ 4 _ _ rfl (Or.inl rfl) (by decide) (by decide)) (fun _ _ => rfl)) (@po_some _ _ _ (@pe_int _ _ _ _)) (@po_some _ _ _ (@pe_int _ _ _ _))) (@pg_tup _ _ _ _ _ _ rfl (@pgs_cons _ _ _ _ _ (@pg_name _ _ 3 _ sc_law_steps.nd rfl (Or.inr rfl) (by first | exact Or.inl rfl | exact Or.inr rfl | assumption)) (@pgs_cons _ _ _ _ _ (@pg_name _ _ 5 _ sc_law_steps.nd rfl (Or.inl rfl) (by first | exact Or.inl rfl | exact Or.inr rfl | assumption)) (@pgs_nil _) (by rfl)) (by rfl)) (by rfl) (by rfl)) (by rfl) (by rfl) (by rfl)) (@pss_one _ _ _ (@ps_expr _ _ _ _ (@pe_bm _ _ _ _ _ _ _ _ _ _ _ _ PySem.F.plainAttrs_list PySem.F.slot_list_extend PySem.F.type_list_extend mt_extend (@pv _ 2 _ _ rfl (Or.inl rfl) (by decide) (by decide)) (@pa_lst _ _ _ _ _ _ (@pe_lst _ _ _ _ (@pa_tup _ _ _ _ _ _ _ (@pe_tup _ _ _ _ _ (@pa_tup _ _ _ _ _ _ _ (@pe_tup _ _ _ _ _ (@pa_name _ _ _ _ _ _ (@pv _ 4 _ _ rfl (Or.inl rfl) (by decide) (by decide)) (@pa_const _ _ _ _ _ _ _ (@pe_int _ _ _ _) (@pa_nil _)))) (@pa_name _ _ _ _ _ _ (@pv _ 3 _ _ rfl (Or.inr (Or.inl rfl)) (by decide) (by decide)) (@pa_name _ _ _ _ _ _ (@pv _ 5 _ _ rfl (Or.inl rfl) (by decide) (by decide)) (@pa_nil _))))) (@pa_tup _ _ _ _ _ _ _ (@pe_tup _ _ _ _ _ (@pa_tup _ _ _ _ _ _ _ (@pe_tup _ _ _ _ _ (@pa_name _ _ _ _ _ _ (@pv _ 4 _ _ rfl (Or.inl rfl) (by decide) (by decide)) (@pa_un _ _ _ _ _ _ _ (@pe_un _ _ _ _ _ _ un_neg (@pe_int _ _ _ _)) (@pa_nil _)))) (@pa_name _ _ _ _ _ _ (@pv _ 5 _ _ rfl (Or.inl rfl) (by decide) (by decide)) (@pa_name _ _ _ _ _ _ (@pv _ 3 _ _ rfl (Or.inr (Or.inl rfl)) (by decide) (by decide)) (@pa_nil _))))) (@pa_nil _)))) (@pa_nil _)) (by rfl) (by rfl) (by rfl) (by rfl) (by rfl)) (by rfl)))) (by intro _ ; rfl)) (@pss_one _ _ _ (@ps_ret _ _ _ _ (@pv _ 2 _ _ rfl (Or.inl rfl) (by decide) (by decide))))))), ?_⟩
    refine ⟨by show 0 ≤ sizeLine; decide, fun L hL => ?_⟩
    have s0 : Same H (upd H L (.lst [])) := Same.new hL
    refine ⟨_, rfl, st, rfl, ⟨_, SqT.of (s0 _ _ hst)⟩, ?_⟩
    refine for_tup (K := K) (a := st) (xs := []) (fun i σ H3 => ∃ o3 o4 o5, σ = [some (.ref p), some (.ref st), some (.ref L), o3, o4, o5] ∧ H3 = upd H L (.lst [])) ⟨_, _, _, rfl, rfl⟩ (fun i σ H3 _ ⟨_, _, _, _, h⟩ => by rw [h]; exact SqT.of (s0 _ _ hst)) ?_ ?_
    · intro i v σ H3 hi _
      simp at hi
    rintro σ _ ⟨o3, o4, o5, rfl, rfl⟩
    refine ⟨_, rfl, p, _, _, _, rfl, rfl, SqT.of (s0 _ _ e), pickN (by decide) rfl, pp, _, rfl, .inr (SqT.of (s0 _ _ e2)), _, rfl, by omega, by omega, ?_⟩
    refine for_range (lo := 0) (n := (xs.length : Int).toNat) (fun i σ H3 => ∃ o3 o4 o5, σ = [some (.ref p), some (.ref st), some (.ref L), o3, o4, o5] ∧ Same H H3 ∧ ∃ (ys : List V) (es : List Ent), H3 L = some (.lst ys) ∧ DVs K H3 ys (es.map Ent.d) ∧ EntsOk Pl.spans works es ∧ es.length = 2 * i)
      ⟨_, _, _, rfl, s0, [], [], upd_same, .nil, ⟨fun _ h => (nomatch h), fun _ h => (nomatch h), fun _ h => (nomatch h)⟩, rfl⟩ ?_ ?_
    · rintro i σ H3 hi ⟨o3, o4, o5, rfl, S3, ys, es, hL3, dv3, ⟨ok3, on3, wk3⟩, hel⟩
      have hi' : i < Pl.spans.length := by omega
      have hyl : ys.length = 2 * i := by rw [dv3.length, List.length_map, hel]
      have hsp : Pl.spans[(0 + (i : Int)).toNat]? = some Pl.spans[i] := by
        rw [show (0 + (i : Int)).toNat = i by omega]
        exact List.getElem?_eq_getElem hi'
      have hs3 : HasSpan K H3 (.ref p) Pl (0 + (i : Int)) Pl.spans[i] := ⟨hx.same S3, by omega, hsp⟩
      obtain ⟨p4, pn4, ps4, xs4, q4, hpq4, g1, g2, g3, g4⟩ := hs3.raw
      cases hpq4
      have hin1 := hin _ (List.getElem_mem hi')
      refine ⟨_, rfl, p, _, _, _, rfl, rfl, SqT.of g1, pickN (by decide) rfl, _, rfl, ps4, _, _, _, rfl, rfl, SqT.of g2, g3, _, rfl, _, rfl, q4, _, rfl, SqT.of g4, ?_, fun t ht => ?_⟩
      · intro hh
        exact absurd hh.1 (by show ¬ (HT.sIx 5 0 (some 1) = 0); decide)
      refine ⟨t, _, rfl, SqT.of upd_same, rfl, _, _, rfl, _, _, rfl, rfl, ?_⟩
      try simp only [List.set_cons_zero, List.set_cons_succ]
      have s4 : Same H3 (upd H3 t (.tup (cutV (Pl.spans[i]).vs (some 1) (some 3)))) := Same.new ht
      revert s4
      generalize upd H3 t (.tup (cutV (Pl.spans[i]).vs (some 1) (some 3))) = H4
      intro s4
      have hL4 := s4 _ _ hL3
      have S04 := S3.trans s4
      have dv4 := dv3.same s4
      refine ⟨_, rfl, .inl ⟨rfl, _, SqL.of hL4⟩, ?_⟩
      refine ⟨_, rfl, by show 2 ≤ sizeLine; decide, fun a1 h1 => ⟨_, rfl, _, rfl, by show 3 ≤ sizeLine; decide, fun a2 h2 => ?_⟩⟩
      refine ⟨_, rfl, _, rfl, by show 2 ≤ sizeLine; decide, fun a3 h3 => ⟨_, rfl, _, rfl, by show 3 ≤ sizeLine; decide, fun a4 h4 => ?_⟩⟩
      refine ⟨by show 2 ≤ sizeLine; decide, fun a5 h5 => ?_⟩
      have q1 := Same.new (o := .tup [.int (0 + (i : Int)), .int 1]) h1
      have q2 := Same.new (o := .tup [.ref a1, .int (Pl.spans[i]).one, .int (Pl.spans[i]).other]) h2
      have q3 := Same.new (o := .tup [.int (0 + (i : Int)), .int (-1)]) h3
      have q4' := Same.new (o := .tup [.ref a3, .int (Pl.spans[i]).other, .int (Pl.spans[i]).one]) h4
      have q5 := Same.new (o := .lst [.ref a2, .ref a4]) h5
      have hL5 := q5 _ _ (q4' _ _ (q3 _ _ (q2 _ _ (q1 _ _ hL4))))
      have b1 := q5 _ _ (q4' _ _ (q3 _ _ (q2 a1 _ upd_same)))
      have b2 := q5 _ _ (q4' _ _ (q3 a2 _ upd_same))
      have b3 := q5 _ _ (q4' a3 _ upd_same)
      have b4 := q5 a4 _ upd_same
      have S05 := S04.trans (q1.trans (q2.trans (q3.trans (q4'.trans q5))))
      have dv5 := dv4.same (q1.trans (q2.trans (q3.trans (q4'.trans q5))))
      refine ⟨L, a5, ys, _, rfl, rfl, hL5, upd_same, by rw [hyl]; exact Nat.le_trans (show 2 * i + 2 ≤ 1000 by omega) (by decide), ?_⟩
      have u := TK.updL (ys := ys ++ [.ref a2, .ref a4]) hL5
      refine ⟨_, _, _, rfl, S05.acc hL, ys ++ [.ref a2, .ref a4], es ++ [⟨0 + (i : Int), 1, (Pl.spans[i]).one, (Pl.spans[i]).other⟩, ⟨0 + (i : Int), -1, (Pl.spans[i]).other, (Pl.spans[i]).one⟩], upd_same, ?_, ⟨fun x hx => ?_, fun x hx => ?_, fun x hx => ?_⟩, by rw [List.length_append, hel]; show 2 * i + 2 = 2 * (i + 1); omega⟩
      · rw [List.map_append]
        exact (dv5.tk u (noLs_ents _)).append (.cons (at_ent (u _ _ b2) (u _ _ b1)) (.cons (at_ent (u _ _ b4) (u _ _ b3)) .nil))
      · rcases List.mem_append.mp hx with z | z
        · exact ok3 x z
        · simp only [List.mem_cons, List.not_mem_nil, or_false] at z
          rcases z with rfl | rfl
          · exact ⟨⟨by show 0 ≤ 0 + (i : Int); omega, by show 0 + (i : Int) < _; omega, .inl rfl⟩, ⟨hin1.o0, hin1.o1⟩, ⟨hin1.r0, hin1.r1⟩⟩
          · exact ⟨⟨by show 0 ≤ 0 + (i : Int); omega, by show 0 + (i : Int) < _; omega, .inr rfl⟩, ⟨hin1.r0, hin1.r1⟩, ⟨hin1.o0, hin1.o1⟩⟩
      · rcases List.mem_append.mp hx with z | z
        · obtain ⟨y, hy, hy2⟩ := on3 x z
          exact ⟨y, List.mem_append_left _ hy, hy2⟩
        · simp only [List.mem_cons, List.not_mem_nil, or_false] at z
          rcases z with rfl | rfl
          · exact ⟨⟨0 + (i : Int), -1, (Pl.spans[i]).other, (Pl.spans[i]).one⟩, List.mem_append_right _ (by simp), rfl, rfl⟩
          · exact ⟨⟨0 + (i : Int), 1, (Pl.spans[i]).one, (Pl.spans[i]).other⟩, List.mem_append_right _ (by simp), rfl, rfl⟩
      · rcases List.mem_append.mp hx with z | z
        · exact wk3 x z
        · simp only [List.mem_cons, List.not_mem_nil, or_false] at z
          rcases z with rfl | rfl
          · exact ⟨by show 0 ≤ 0 + (i : Int); omega, _, hsp, .inl ⟨rfl, rfl, rfl⟩⟩
          · exact ⟨by show 0 ≤ 0 + (i : Int); omega, _, hsp, .inr ⟨rfl, rfl, rfl⟩⟩
    · rintro σ H3 ⟨o3, o4, o5, rfl, S3, ys, es, hL3, dv3, ok3, hel⟩
      exact ⟨_, rfl, k L ys es H3 S3 hL3 dv3 ok3 (by omega)⟩
theorem sc_law_ways : FnScope ["_law_plan", "_law_stays", "_law_entries", "_law_paths", "_law_root", "_law_many", "_law_entry", "_law_one", "_law_other"] ["_law_plan", "_law_stays", "_law_entries"] (defScope s_law_ways) := ⟨rfl, rfl, rfl, by decide +kernel, rfl, by decide +kernel, by decide +kernel⟩
theorem ok_law_ways {f : Addr} {fd : FuncData} (F : Fun K "_law_ways" "_law_ways" s_law_ways f fd) (T : Txt mg) : FnOk P w K mg base CX0 1 f fd ["_law_plan", "_law_stays", "_law_entries"] (sp_ways K) := by
  refine F.ok sc_law_ways (fun vs H Q E h => ?_) (fun cdv A outer s H vs Q E hr h => ?_)
  · obtain ⟨x, st, ea, Pl, works, xs, es, l, rfl, _⟩ := h
    rfl
  · obtain ⟨x, st, ea, Pl, works, xs, es, l, rfl, hx, hst, hnw, hw8, hea, dve, ⟨oke, one', wke⟩, hel, k⟩ := h
    have hu := hu_of hr
    obtain ⟨p, pn, pp, ys, rfl, e, e1, e2, rr⟩ := plan_at hx
    have hxl : xs.length = es.length := by rw [dve.length, List.length_map]
    refine ⟨_, (@pss_cons _ _ _ _ _ (@ps_set _ _ 3 _ _ _ _ sc_law_ways.nd rfl (Or.inl rfl) (@pe_dnewK _ _) (by rfl) (by first | exact Or.inl rfl | exact Or.inr rfl | assumption)) (@pss_cons _ _ _ _ _ (@ps_for _ _ _ _ _ _ _ _ PassesOwn.never rfl (@pi_list _ _ _ _ (@pe_op _ _ _ _ _ _ _ _ op_cat (@pe_callTy _ _ _ _ _ _ _ _ _ call_list_of rfl T.n_list PyProof.Rows.boot_list (@pa_sub _ _ _ _ _ _ _ (@pe_slice _ _ _ _ _ _ _ _ _ _ sl_tupG (@pv _ 1 _ _ rfl (Or.inl rfl) (by decide) (by decide)) (@po_none _) (@po_some _ _ _ (@pe_int _ _ _ _))) (@pa_nil _)) (by decide) (by decide) (by rfl) (by rfl)) (@pe_listRange _ _ _ _ _ _ _ rfl rfl T.n_list rfl T.n_range (@pa_call _ _ _ _ _ _ _ _ (@pe_callB _ _ _ _ _ _ _ _ _ call_len_seq rfl T.n_len PySem.boot_len (@pa_sub _ _ _ _ _ _ _ (@pe_ix _ _ _ _ _ _ _ ix_tup (@pv _ 0 _ _ rfl (Or.inl rfl) (by decide) (by decide)) (@pe_int _ _ _ _) (fun _ _ => rfl)) (@pa_nil _)) (by decide) (by decide) (by rfl) (by rfl)) (@pa_nil _)) (by rfl) (by rfl)))) (@pg_name _ _ 4 _ sc_law_ways.nd rfl (Or.inl rfl) (by first | exact Or.inl rfl | exact Or.inr rfl | assumption)) (@pss_one _ _ _ (@ps_if _ _ _ _ _ _ _ _ (@pt_cmp _ _ _ _ _ _ (@pc_dnotin _ _ _ _ _ hu (@pv _ 4 _ _ rfl (Or.inl rfl) (by decide) (by decide)) (@pv _ 3 _ _ rfl (Or.inl rfl) (by decide) (by decide))) (by first | exact nobehind _ (by decide) (by decide) | rfl)) (@pss_cons _ _ _ _ _ (@ps_dput _ _ _ _ _ _ _ _ _ hu (@pv _ 3 _ _ rfl (Or.inl rfl) (by decide) (by decide)) (@pv _ 4 _ _ rfl (Or.inl rfl) (by decide) (by decide)) (@pe_tup _ _ _ _ _ (@pa_name _ _ _ _ _ _ (@pv _ 4 _ _ rfl (Or.inl rfl) (by decide) (by decide)) (@pa_tup _ _ _ _ _ _ _ (@pe_tup _ _ _ _ _ (@pa_nil _)) (@pa_nil _)))) rfl) (@pss_cons _ _ _ _ _ (@ps_set _ _ 5 _ _ _ _ sc_law_ways.nd rfl (Or.inl rfl) (@pe_un _ _ _ _ _ _ un_neg (@pe_int _ _ _ _)) (by rfl) (by first | exact Or.inl rfl | exact Or.inr rfl | assumption)) (@pss_one _ _ _ (@ps_while _ _ _ _ _ _ PassesOwn.never (@pt_cmpR _ _ _ _ _ _ _ _ op_ne (@pv _ 5 _ _ rfl (Or.inl rfl) (by decide) (by decide)) (@pe_callB _ _ _ _ _ _ _ _ _ call_lenD rfl T.n_len PySem.boot_len (@pa_name _ _ _ _ _ _ (@pv _ 3 _ _ rfl (Or.inl rfl) (by decide) (by decide)) (@pa_nil _)) (by decide) (by decide) (by rfl) (by rfl)) (nomark _)) (@pss_cons _ _ _ _ _ (@ps_set _ _ 5 _ _ _ _ sc_law_ways.nd rfl (Or.inl rfl) (@pe_callB _ _ _ _ _ _ _ _ _ call_lenD rfl T.n_len PySem.boot_len (@pa_name _ _ _ _ _ _ (@pv _ 3 _ _ rfl (Or.inl rfl) (by decide) (by decide)) (@pa_nil _)) (by decide) (by decide) (by rfl) (by rfl)) (by rfl) (by first | exact Or.inl rfl | exact Or.inr rfl | assumption)) (@pss_one _ _ _ (@ps_for _ _ _ _ _ _ _ _ PassesOwn.never rfl (@pi_list _ _ _ _ (@pv _ 2 _ _ rfl (Or.inl rfl) (by decide) (by decide))) (@pg_tup _ _ _ _ _ _ rfl (@pgs_cons _ _ _ _ _ (@pg_name _ _ 6 _ sc_law_ways.nd rfl (Or.inl rfl) (by first | exact Or.inl rfl | exact Or.inr rfl | assumption)) (@pgs_cons _ _ _ _ _ (@pg_name _ _ 7 _ sc_law_ways.nd rfl (Or.inl rfl) (by first | exact Or.inl rfl | exact Or.inr rfl | assumption)) (@pgs_cons _ _ _ _ _ (@pg_name _ _ 8 _ sc_law_ways.nd rfl (Or.inl rfl) (by first | exact Or.inl rfl | exact Or.inr rfl | assumption)) (@pgs_nil _) (by rfl)) (by rfl)) (by rfl)) (by rfl) (by rfl)) (@pss_one _ _ _ (@ps_if _ _ _ _ _ _ _ _ (@PW.pt _ _ _ (@pw_and _ _ _ _ _ _ _ (@pt_cmp _ _ _ _ _ _ (@pc_din _ _ _ _ _ hu (@pv _ 7 _ _ rfl (Or.inl rfl) (by decide) (by decide)) (@pv _ 3 _ _ rfl (Or.inl rfl) (by decide) (by decide))) (by first | exact nobehind _ (by decide) (by decide) | rfl)) (@pw_and _ _ _ _ _ _ _ (@pt_cmpR _ _ _ _ _ _ _ _ op_eq (@pe_ix _ _ _ _ _ _ _ ix_tup (@pe_dget _ _ _ _ _ _ hu (@pv _ 3 _ _ rfl (Or.inl rfl) (by decide) (by decide)) (@pv _ 7 _ _ rfl (Or.inl rfl) (by decide) (by decide)) (fun _ _ => rfl)) (@pe_int _ _ _ _) (fun _ _ => rfl)) (@pv _ 4 _ _ rfl (Or.inl rfl) (by decide) (by decide)) (nomark _)) (@pw_and1 _ _ _ _ (@pt_cmp _ _ _ _ _ _ (@pc_dnotin _ _ _ _ _ hu (@pv _ 8 _ _ rfl (Or.inl rfl) (by decide) (by decide)) (@pv _ 3 _ _ rfl (Or.inl rfl) (by decide) (by decide))) (by first | exact nobehind _ (by decide) (by decide) | rfl)))))) (@pss_one _ _ _ (@ps_dput _ _ _ _ _ _ _ _ _ hu (@pv _ 3 _ _ rfl (Or.inl rfl) (by decide) (by decide)) (@pv _ 8 _ _ rfl (Or.inl rfl) (by decide) (by decide)) (@pe_tup _ _ _ _ _ (@pa_name _ _ _ _ _ _ (@pv _ 4 _ _ rfl (Or.inl rfl) (by decide) (by decide)) (@pa_bin _ _ _ _ _ _ _ _ (@pe_op _ _ _ _ _ _ _ _ op_catG (@pe_ix _ _ _ _ _ _ _ ix_tup (@pe_dget _ _ _ _ _ _ hu (@pv _ 3 _ _ rfl (Or.inl rfl) (by decide) (by decide)) (@pv _ 7 _ _ rfl (Or.inl rfl) (by decide) (by decide)) (fun _ _ => rfl)) (@pe_int _ _ _ _) (fun _ _ => rfl)) (@pe_tup _ _ _ _ _ (@pa_name _ _ _ _ _ _ (@pv _ 6 _ _ rfl (Or.inl rfl) (by decide) (by decide)) (@pa_nil _)))) (@pa_nil _)))) rfl)) (@pss_nil _))) (by intro _ ; rfl)))))))) (@pss_nil _))) (by intro _ ; rfl)) (@pss_one _ _ _ (@ps_ret _ _ _ _ (@pv _ 3 _ _ rfl (Or.inl rfl) (by decide) (by decide)))))), ?_⟩
    refine fun D hD => ?_
    have s0 : Same H (upd H D (.dK [])) := Same.new hD
    refine ⟨_, rfl, _, rfl, .inr ⟨st, [], rfl, SqT.of (s0 _ _ hst), ⟨rfl, rfl⟩, st, [], rfl, .inr (SqT.of (s0 _ _ hst)), fun l1 hl1 => ?_⟩⟩
    have s1 := s0.trans (Same.new (o := .lst []) hl1)
    refine ⟨_, rfl, p, _, _, _, rfl, rfl, SqT.of (s1 _ _ e), pickN (by decide) rfl, pn, _, rfl, .inr (SqT.of (s1 _ _ e1)), _, rfl, by omega, by rw [List.length_map]; omega, fun l2 hl2 => ?_⟩
    have s2 := s1.trans (Same.new (o := .lst ((List.range ((Pl.names.map V.str).length : Int).toNat).map fun k : Nat => V.int (k : Int))) hl2)
    have hnn : ((Pl.names.map V.str).length : Int).toNat = works.toNat := by rw [List.length_map]; omega
    refine ⟨l1, l2, [], _, rfl, rfl, Same.new hl2 _ _ upd_same, upd_same, by rw [List.length_map, List.length_range, hnn]; exact Nat.le_trans (show 0 + works.toNat ≤ 8 by omega) (by decide), fun l3 hl3 => ?_⟩
    rw [hnn]
    rw [hnn] at hl3 s2
    refine ⟨l3, rfl, ⟨_, SqL.of upd_same⟩, ?_⟩
    have s3 := s2.trans (Same.new (o := .lst ([] ++ (List.range works.toNat).map fun k : Nat => V.int (k : Int))) hl3)
    have hD3 := Same.new (o := .lst ([] ++ (List.range works.toNat).map fun k : Nat => V.int (k : Int))) hl3 _ _ (Same.new (o := .lst ((List.range works.toNat).map fun k : Nat => V.int (k : Int))) hl2 _ _ (Same.new (o := .lst []) hl1 D _ upd_same))
    have hl33 : (upd (upd (upd (upd H D (.dK [])) l1 (.lst [])) l2 (.lst ((List.range works.toNat).map fun k : Nat => V.int (k : Int)))) l3 (.lst ([] ++ (List.range works.toNat).map fun k : Nat => V.int (k : Int)))) l3 = some (.lst ([] ++ (List.range works.toNat).map fun k : Nat => V.int (k : Int))) := upd_same
    revert s3 hD3 hl33
    generalize upd (upd (upd (upd H D (.dK [])) l1 (.lst [])) l2 (.lst ((List.range works.toNat).map fun k : Nat => V.int (k : Int)))) l3 (.lst ([] ++ (List.range works.toNat).map fun k : Nat => V.int (k : Int))) = HA
    rw [List.nil_append]
    intro s3 hD3 hl33
    have hlD : l3 ≠ D := ne_of hl33 hD3 (by intro z; cases z)
    have hw0 : 0 ≤ works := by omega
    refine for_list (K := K) (a := l3) (xs := (List.range works.toNat).map fun k : Nat => V.int (k : Int)) (fun i σ H3 => ∃ kvs ρ o4 o5 o6 o7 o8, σ = [some (.ref p), some (.ref st), some (.ref ea), some (.ref D), o4, o5, o6, o7, o8] ∧ Same H H3 ∧ H3 D = some (.dK kvs) ∧ H3 l3 = some (.lst ((List.range works.toNat).map fun k : Nat => V.int (k : Int))) ∧ PathsAt K H3 kvs works l ρ ∧ (∀ z : Int, 0 ≤ z → z < i → (valV kvs (.inl z : Key)).isSome = true) ∧ ∀ e ∈ es, (valV kvs (.inl e.a : Key)).isSome = true → (valV kvs (.inl e.b : Key)).isSome = true ∧ ρ e.b = ρ e.a)
      ⟨[], id, _, _, _, _, _, rfl, s3, hD3, hl33, ⟨fun _ h => (nomatch h), by have := lackN_le works []; show 0 + _ ≤ 8; omega, fun z v hv => by cases hv⟩, fun z h0 h1 => by omega, fun e _ he => by cases he⟩ (fun i σ H3 _ ⟨_, _, _, _, _, _, _, _, _, _, h, _⟩ => SqL.of h) ?_ ?_
    · rintro i v σ H3 hi ⟨kvs, ρ, o4, o5, o6, o7, o8, rfl, S3, hD3, hl3, PA, pres, clo⟩
      have hi' : i < works.toNat := by
        have := (List.getElem?_eq_some_iff.mp hi).1
        simpa using this
      rw [List.getElem?_map, List.getElem?_range hi'] at hi
      cases hi
      refine ⟨_, rfl, _, rfl, D, _, rfl, DGet.k (k := (.inl (i : Int) : Key)) hD3, _, rfl, ite2 (fun hnot => ?_) (fun hin => ?_)⟩
      · have hnone : valV kvs (.inl (i : Int) : Key) = none := by
          cases hv : valV kvs (.inl (i : Int) : Key) with
          | none => rfl
          | some v => rw [hv] at hnot; cases hnot
        refine ⟨_, rfl, by show 0 ≤ sizeLine; decide, fun t1 ht1 => ⟨by show 2 ≤ sizeLine; decide, fun t2 ht2 => ?_⟩⟩
        have q1 := Same.new (o := .tup []) ht1
        have q2 := Same.new (o := .tup [.int (i : Int), .ref t1]) ht2
        have hkl : kvs.length < sizeLine := Nat.lt_of_le_of_lt (show kvs.length ≤ 8 by have := PA.len; omega) (by decide)
        have hD5 := q2 _ _ (q1 _ _ hD3)
        refine ⟨_, rfl, _, rfl, D, _, rfl, DPut.k (k := (.inl (i : Int) : Key)) hD5 hkl, ?_⟩
        have u := TK.updD (ys := putK kvs (.inl (i : Int) : Key) (.ref t2)) hD5
        have PA6 := PA.put ((Same.tk (q1.trans q2)).trans u) (z := (i : Int)) (v := .ref t2) (root := (i : Int)) (r := []) (by omega) (by omega) hnone (.tup (u _ _ upd_same) (.cons (.int _) (.cons (.tup (u _ _ (q2 _ _ upd_same)) .nil) .nil))) (by have := PA.len; show 0 + _ ≤ 9; omega) (fun _ h => (nomatch h)) rfl
        have clo6 : ∀ e ∈ es, (valV (putK kvs (.inl (i : Int) : Key) (.ref t2)) (.inl e.a : Key)).isSome = true → (if e.a = (i : Int) then (i : Int) else ρ e.a) ≠ (i : Int) → (valV (putK kvs (.inl (i : Int) : Key) (.ref t2)) (.inl e.b : Key)).isSome = true ∧ (if e.b = (i : Int) then (i : Int) else ρ e.b) = (if e.a = (i : Int) then (i : Int) else ρ e.a) := fun e he h1 h2 => by
          have ha : ¬ e.a = (i : Int) := fun z => h2 (by rw [if_pos z])
          rw [valV_put, if_neg (fun z => ha (by injection z))] at h1
          obtain ⟨h3, h4⟩ := clo e he h1
          have hb : ¬ e.b = (i : Int) := fun z => by rw [z, hnone] at h3; cases h3
          rw [valV_put, if_neg (fun z => hb (by injection z)), if_neg ha, if_neg hb]
          exact ⟨h3, h4⟩
        have S6 : Same H (upd (upd (upd H3 t1 (.tup [])) t2 (.tup [.int (i : Int), .ref t1])) D (.dK (putK kvs (.inl (i : Int) : Key) (.ref t2)))) := ((S3.trans q1).trans q2).acc hD
        have hl6 : (upd (upd (upd H3 t1 (.tup [])) t2 (.tup [.int (i : Int), .ref t1])) D (.dK (putK kvs (.inl (i : Int) : Key) (.ref t2)))) l3 = some (.lst ((List.range works.toNat).map fun k : Nat => V.int (k : Int))) := by rw [upd_ne hlD]; exact q2 _ _ (q1 _ _ hl3)
        have hD6 : (upd (upd (upd H3 t1 (.tup [])) t2 (.tup [.int (i : Int), .ref t1])) D (.dK (putK kvs (.inl (i : Int) : Key) (.ref t2)))) D = some (.dK (putK kvs (.inl (i : Int) : Key) (.ref t2))) := upd_same
        have pres6 : ∀ z : Int, 0 ≤ z → z < (i : Int) + 1 → (valV (putK kvs (.inl (i : Int) : Key) (.ref t2)) (.inl z : Key)).isSome = true := fun z h0 h1 => by
          rw [valV_put]
          split
          · rfl
          · rename_i hne
            refine pres z h0 ?_
            have : z ≠ (i : Int) := fun e => hne (by rw [e])
            omega
        revert PA6 clo6 S6 hl6 hD6 pres6
        generalize upd (upd (upd H3 t1 (.tup [])) t2 (.tup [.int (i : Int), .ref t1])) D (.dK (putK kvs (.inl (i : Int) : Key) (.ref t2))) = HB
        generalize putK kvs (.inl (i : Int) : Key) (.ref t2) = kvsB
        generalize hρB : (fun y => if y = (i : Int) then (i : Int) else ρ y) = ρB
        intro PA6 clo6 S6 hl6 hD6 pres6
        have clo6 : ∀ e ∈ es, (valV kvsB (.inl e.a : Key)).isSome = true → ρB e.a ≠ (i : Int) → (valV kvsB (.inl e.b : Key)).isSome = true ∧ ρB e.b = ρB e.a := by rw [← hρB]; exact clo6
        refine ⟨_, rfl, ?_⟩
        try simp only [List.set_cons_zero, List.set_cons_succ]
        refine ⟨fun m σ H7 => ∃ kvs ρ many o6 o7 o8, σ = [some (.ref p), some (.ref st), some (.ref ea), some (.ref D), some (.int (i : Int)), some (.int many), o6, o7, o8] ∧ Same H H7 ∧ H7 D = some (.dK kvs) ∧ H7 l3 = some (.lst ((List.range works.toNat).map fun k : Nat => V.int (k : Int))) ∧ PathsAt K H7 kvs works l ρ ∧ (∀ z : Int, 0 ≤ z → z < (i : Int) + 1 → (valV kvs (.inl z : Key)).isSome = true) ∧ (∀ e ∈ es, (valV kvs (.inl e.a : Key)).isSome = true → ρ e.a ≠ (i : Int) → (valV kvs (.inl e.b : Key)).isSome = true ∧ ρ e.b = ρ e.a) ∧ (many = (kvs.length : Int) → ∀ e ∈ es, (valV kvs (.inl e.a : Key)).isSome = true → ρ e.a = (i : Int) → (valV kvs (.inl e.b : Key)).isSome = true) ∧ m = 2 * lackN works kvs + (if many = (kvs.length : Int) then 0 else 1),
          ⟨_, kvsB, ρB, _, _, _, _, rfl, S6, hD6, hl6, PA6, pres6, clo6, fun z => absurd z (by omega), rfl⟩, ?_⟩
        rintro m σ H7 ⟨kvs7, ρ7, many, o6, o7, o8, rfl, S7, hD7, hl7, PA7, pres7, clo7, fin7, rfl⟩
        refine ⟨_, rfl, _, rfl, D, kvs7, rfl, hD7, rfl, _, rfl, ite2 (fun hne => ?_) (fun heq => ?_)⟩
        · have hne : ¬ (many = (kvs7.length : Int)) := fun z => by rw [z] at hne; simp at hne
          rw [if_neg hne]
          refine ⟨fun σ' H' => ∃ kvs ρ o6 o7 o8, σ' = [some (.ref p), some (.ref st), some (.ref ea), some (.ref D), some (.int (i : Int)), some (.int (kvs7.length : Int)), o6, o7, o8] ∧ Same H H' ∧ H' D = some (.dK kvs) ∧ H' l3 = some (.lst ((List.range works.toNat).map fun k : Nat => V.int (k : Int))) ∧ PathsAt K H' kvs works l ρ ∧ (∀ z : Int, 0 ≤ z → z < (i : Int) + 1 → (valV kvs (.inl z : Key)).isSome = true) ∧ (∀ e ∈ es, (valV kvs (.inl e.a : Key)).isSome = true → ρ e.a ≠ (i : Int) → (valV kvs (.inl e.b : Key)).isSome = true ∧ ρ e.b = ρ e.a) ∧ ((kvs = kvs7 ∧ ∀ e ∈ es, (valV kvs (.inl e.a : Key)).isSome = true → ρ e.a = (i : Int) → (valV kvs (.inl e.b : Key)).isSome = true) ∨ (lackN works kvs < lackN works kvs7 ∧ kvs7.length < kvs.length)), ?_, ?_⟩
          · rintro σ' H' ⟨kvs', ρ', o6', o7', o8', rfl, S', hD', hl', PA', pres', clo', hor⟩
            refine ⟨_, ?_, kvs', ρ', _, _, _, _, rfl, S', hD', hl', PA', pres', clo', ?_, rfl⟩
            · rcases hor with ⟨rfl, _⟩ | ⟨hlt, _⟩
              · rw [if_pos rfl]; omega
              · split <;> omega
            · intro heq
              rcases hor with ⟨rfl, h⟩ | ⟨_, h⟩
              · exact h
              · omega
          refine ⟨_, rfl, D, kvs7, rfl, hD7, ?_⟩
          try simp only [List.set_cons_zero, List.set_cons_succ]
          refine ⟨_, rfl, ea, rfl, ⟨_, SqL.of (S7 _ _ hea)⟩, ?_⟩
          refine for_list (K := K) (a := ea) (xs := xs) (fun j σ' H' => ∃ kvs ρ o6 o7 o8, σ' = [some (.ref p), some (.ref st), some (.ref ea), some (.ref D), some (.int (i : Int)), some (.int (kvs7.length : Int)), o6, o7, o8] ∧ Same H H' ∧ H' D = some (.dK kvs) ∧ H' l3 = some (.lst ((List.range works.toNat).map fun k : Nat => V.int (k : Int))) ∧ PathsAt K H' kvs works l ρ ∧ (∀ z : Int, 0 ≤ z → z < (i : Int) + 1 → (valV kvs (.inl z : Key)).isSome = true) ∧ (∀ e ∈ es, (valV kvs (.inl e.a : Key)).isSome = true → ρ e.a ≠ (i : Int) → (valV kvs (.inl e.b : Key)).isSome = true ∧ ρ e.b = ρ e.a) ∧ ((kvs = kvs7 ∧ ∀ e ∈ es.take j, (valV kvs (.inl e.a : Key)).isSome = true → ρ e.a = (i : Int) → (valV kvs (.inl e.b : Key)).isSome = true) ∨ (lackN works kvs < lackN works kvs7 ∧ kvs7.length < kvs.length)))
            ⟨kvs7, ρ7, _, _, _, rfl, S7, hD7, hl7, PA7, pres7, clo7, .inl ⟨rfl, fun _ h => by simp at h⟩⟩ (fun j σ H' _ ⟨_, _, _, _, _, _, h, _⟩ => SqL.of (h _ _ hea)) ?_ ?_
          rotate_left
          · rintro σ' H' ⟨kvs', ρ', o6', o7', o8', rfl, S', hD', hl', PA', pres', clo', hor⟩
            rw [List.take_of_length_le (by omega)] at hor
            exact ⟨kvs', ρ', _, _, _, rfl, S', hD', hl', PA', pres', clo', hor⟩
          rintro j v σ H8 hj ⟨kvs8, ρ8, o6, o7, o8, rfl, S8, hD8, hl8, PA8, pres8, clo8, hor8⟩
          obtain ⟨hj', a, q, rfl, ha, hq⟩ := ents_item dve hj
          obtain ⟨ee, ⟨ea0, ea1⟩, ⟨eb0, eb1⟩⟩ := oke _ (List.getElem_mem hj')
          refine ⟨a, _, rfl, SqT.of (S8 _ _ ha), rfl, _, _, rfl, _, _, rfl, _, _, rfl, rfl, ?_⟩
          try simp only [List.set_cons_zero, List.set_cons_succ]
          have stay : ((valV kvs8 (.inl (es[j]).a : Key)).isSome = true → ρ8 (es[j]).a = (i : Int) → (valV kvs8 (.inl (es[j]).b : Key)).isSome = true) → ∃ kvs ρ o6' o7' o8', [some (V.ref p), some (.ref st), some (.ref ea), some (.ref D), some (.int (i : Int)), some (.int (kvs7.length : Int)), some (.ref q), some (.int (es[j]).a), some (.int (es[j]).b)] = [some (.ref p), some (.ref st), some (.ref ea), some (.ref D), some (.int (i : Int)), some (.int (kvs7.length : Int)), o6', o7', o8'] ∧ Same H H8 ∧ H8 D = some (.dK kvs) ∧ H8 l3 = some (.lst ((List.range works.toNat).map fun k : Nat => V.int (k : Int))) ∧ PathsAt K H8 kvs works l ρ ∧ (∀ z : Int, 0 ≤ z → z < (i : Int) + 1 → (valV kvs (.inl z : Key)).isSome = true) ∧ (∀ e ∈ es, (valV kvs (.inl e.a : Key)).isSome = true → ρ e.a ≠ (i : Int) → (valV kvs (.inl e.b : Key)).isSome = true ∧ ρ e.b = ρ e.a) ∧ ((kvs = kvs7 ∧ ∀ e ∈ es.take (j + 1), (valV kvs (.inl e.a : Key)).isSome = true → ρ e.a = (i : Int) → (valV kvs (.inl e.b : Key)).isSome = true) ∨ (lackN works kvs < lackN works kvs7 ∧ kvs7.length < kvs.length)) := fun hst => by
            refine ⟨kvs8, ρ8, _, _, _, rfl, S8, hD8, hl8, PA8, pres8, clo8, ?_⟩
            rcases hor8 with ⟨h1, h2⟩ | h
            · refine .inl ⟨h1, fun e he => ?_⟩
              rw [List.take_succ, List.getElem?_eq_getElem hj'] at he
              rcases List.mem_append.mp he with z | z
              · exact h2 e z
              · simp at z
                rw [z]
                exact hst
            · exact .inr h
          refine ⟨_, rfl, _, rfl, D, _, rfl, DGet.k (k := (.inl (es[j]).a : Key)) hD8, _, rfl, ite2 (fun hone => ?_) (fun hno1 => stay fun z => absurd z hno1)⟩
          obtain ⟨v8, hv8⟩ := Option.isSome_iff_exists.mp hone
          obtain ⟨r8, d8, hr8, he8, hw8'⟩ := PA8.vals _ _ hv8
          obtain ⟨va, vb, us, rfl, hva, hvb, dvb⟩ := way_at d8
          have hget : DGet H8 D (.int (es[j]).a) (some (.ref va)) := by
            have := DGet.k (k := (.inl (es[j]).a : Key)) hD8
            rw [hv8] at this
            exact this
          refine ⟨_, rfl, _, rfl, D, _, rfl, hget, va, _, _, _, rfl, rfl, SqT.of hva, pickN (by decide) rfl, _, rfl, rfl, _, rfl, ite2 (fun hroot => ?_) (fun hroot => stay fun _ z => absurd (by rw [z]; simp) hroot)⟩
          have hroot : ρ8 (es[j]).a = (i : Int) := by simpa [dec_int] using hroot
          refine ⟨_, rfl, _, rfl, D, _, rfl, DGet.k (k := (.inl (es[j]).b : Key)) hD8, _, rfl, ite2 (fun hno => ?_) (fun hin => stay fun _ _ => Option.isSome_iff_ne_none.mpr (by simpa using hin))⟩
          have hnone : valV kvs8 (.inl (es[j]).b : Key) = none := by
            cases hv : valV kvs8 (.inl (es[j]).b : Key) with
            | none => rfl
            | some v => rw [hv] at hno; cases hno
          have hkl : kvs8.length < sizeLine := Nat.lt_of_le_of_lt (show kvs8.length ≤ 8 by have := PA8.len; omega) (by decide)
          have hul : us.length = r8.length := by rw [dvb.length, List.length_map]
          have hq8 := S8 _ _ hq
          refine ⟨_, rfl, _, rfl, _, rfl, D, _, rfl, hget, va, _, _, _, rfl, rfl, SqT.of hva, pickN (by decide) rfl, _, rfl, by show 1 ≤ sizeLine; decide, fun t1 ht1 => ?_⟩
          have q1 := Same.new (o := .tup [.ref q]) ht1
          have fin : ∀ (pa : Addr) (HH : Hp), Same H8 HH → DV K HH (.ref pa) (pairsD (r8 ++ [((es[j]).s, (es[j]).w)])) → ([V.int (i : Int), .ref pa].length ≤ sizeLine) ∧ ∀ t2, HH t2 = none →
              ∃ x, some (some (V.ref D)) = some (some x) ∧ ∃ y, some (some (V.int (es[j]).b)) = some (some y) ∧ ∃ a H4, x = .ref a ∧ DPut (upd HH t2 (.tup [.int (i : Int), .ref pa])) a y (.ref t2) H4 ∧ ∃ kvs ρ o6' o7' o8', [some (V.ref p), some (.ref st), some (.ref ea), some (.ref D), some (.int (i : Int)), some (.int (kvs7.length : Int)), some (.ref q), some (.int (es[j]).a), some (.int (es[j]).b)] = [some (.ref p), some (.ref st), some (.ref ea), some (.ref D), some (.int (i : Int)), some (.int (kvs7.length : Int)), o6', o7', o8'] ∧ Same H H4 ∧ H4 D = some (.dK kvs) ∧ H4 l3 = some (.lst ((List.range works.toNat).map fun k : Nat => V.int (k : Int))) ∧ PathsAt K H4 kvs works l ρ ∧ (∀ z : Int, 0 ≤ z → z < (i : Int) + 1 → (valV kvs (.inl z : Key)).isSome = true) ∧ (∀ e ∈ es, (valV kvs (.inl e.a : Key)).isSome = true → ρ e.a ≠ (i : Int) → (valV kvs (.inl e.b : Key)).isSome = true ∧ ρ e.b = ρ e.a) ∧ ((kvs = kvs7 ∧ ∀ e ∈ es.take (j + 1), (valV kvs (.inl e.a : Key)).isSome = true → ρ e.a = (i : Int) → (valV kvs (.inl e.b : Key)).isSome = true) ∨ (lackN works kvs < lackN works kvs7 ∧ kvs7.length < kvs.length)) := by
            intro pa HH SH dpa
            refine ⟨by show 2 ≤ sizeLine; decide, fun t2 ht2 => ?_⟩
            have q2 := Same.new (o := .tup [.int (i : Int), .ref pa]) ht2
            have hD9 := q2 _ _ (SH _ _ hD8)
            refine ⟨_, rfl, _, rfl, D, _, rfl, DPut.k (k := (.inl (es[j]).b : Key)) hD9 hkl, ?_⟩
            have u := TK.updD (ys := putK kvs8 (.inl (es[j]).b : Key) (.ref t2)) hD9
            have PA9 := PA8.put ((Same.tk (SH.trans q2)).trans u) (z := (es[j]).b) (v := .ref t2) (root := (i : Int)) (r := r8 ++ [((es[j]).s, (es[j]).w)]) eb0 eb1 hnone (.tup (u _ _ upd_same) (.cons (.int _) (.cons ((dpa.same q2).tk u (noL_pairs _)) .nil))) (by rw [List.length_append]; show r8.length + 1 + _ ≤ 9; omega) (fun x hx => by
              rcases List.mem_append.mp hx with z | z
              · exact he8 x z
              · rw [List.mem_singleton.mp z]; exact ee) (by rw [hroot] at hw8'; exact hw8'.append (wke _ (List.getElem_mem hj')))
            refine ⟨_, _, _, _, _, rfl, ((S8.trans SH).trans q2).acc hD, upd_same, by rw [upd_ne hlD]; exact q2 _ _ (SH _ _ hl8), PA9, fun z h0 h1 => ?_, fun e he h1 h2 => ?_, .inr ⟨?_, ?_⟩⟩
            · rw [valV_put]
              split
              · rfl
              · exact pres8 z h0 h1
            · have ha' : ¬ e.a = (es[j]).b := fun z => h2 (by rw [if_pos z])
              rw [if_neg ha'] at h2 ⊢
              rw [valV_put, if_neg (fun z => ha' (by injection z))] at h1
              obtain ⟨h3, h4⟩ := clo8 e he h1 h2
              have hb : ¬ e.b = (es[j]).b := fun z => by rw [z, hnone] at h3; cases h3
              rw [valV_put, if_neg (fun z => hb (by injection z)), if_neg hb]
              exact ⟨h3, h4⟩
            · have := lackN_put (v := .ref t2) eb0 eb1 hnone
              rcases hor8 with ⟨rfl, _⟩ | ⟨hlt, _⟩ <;> omega
            · rw [len_put hnone]
              rcases hor8 with ⟨rfl, _⟩ | ⟨_, hlt⟩ <;> omega
          refine ⟨vb, t1, us, _, rfl, rfl, SqT.of (q1 _ _ hvb), SqT.of upd_same, by rw [hul]; exact Nat.le_trans (show r8.length + 1 ≤ 100 by omega) (by decide), ?_, ?_, ?_⟩
          · intro hnil
            have hr0 : r8 = [] := by
              have : r8.length = 0 := by rw [← hul, hnil]; rfl
              exact List.length_eq_zero_iff.mp this
            refine fin t1 _ q1 ?_
            rw [hr0]
            exact .tup upd_same (.cons (at_pair (q1 _ _ hq8)) .nil)
          · intro _ h
            cases h
          · intro _ _ p3 hp3
            have q3 := Same.new (o := .tup (us ++ [.ref q])) hp3
            refine fin p3 _ (q1.trans q3) (.tup upd_same ?_)
            rw [List.map_append]
            exact (dvb.same (q1.trans q3)).append (.cons (at_pair (q3 _ _ (q1 _ _ hq8))) .nil)
        · have heq : many = (kvs7.length : Int) := by simpa [dec_int] using heq
          refine ⟨kvs7, ρ7, _, _, _, _, _, rfl, S7, hD7, hl7, PA7, fun z h0 h1 => pres7 z h0 (by omega), fun e he h1 => ?_⟩
          by_cases hr' : ρ7 e.a = (i : Int)
          · have h2 := fin7 heq e he h1 hr'
            refine ⟨h2, ?_⟩
            by_cases hr2 : ρ7 e.b = (i : Int)
            · rw [hr2, hr']
            · obtain ⟨e', he', q1, q2⟩ := one' e he
              have := (clo7 e' he' (by rw [q1]; exact h2) (by rw [q1]; exact hr2)).2
              rw [q1, q2] at this
              exact this.symm
          · exact clo7 e he h1 hr'
      · refine ⟨kvs, ρ, _, _, _, _, _, rfl, S3, hD3, hl3, PA, fun z h0 h1 => ?_, clo⟩
        by_cases hz : z = (i : Int)
        · rw [hz]
          cases hv : valV kvs (.inl (i : Int) : Key) with
          | none => rw [hv] at hin; exact absurd rfl hin
          | some v => rfl
        · exact pres z h0 (by omega)
    · rintro σ H3 ⟨kvs, ρ, o4, o5, o6, o7, o8, rfl, S3, hD3, hl3, PA, pres, clo⟩
      have pres' : ∀ z : Int, 0 ≤ z → z < works → (valV kvs (.inl z : Key)).isSome = true := fun z h0 h1 => pres z h0 (by rw [List.length_map, List.length_range]; omega)
      refine ⟨_, rfl, k D kvs ρ H3 S3 hD3 (fun z h0 h1 => ?_) fun e he => ?_⟩
      · have := pres' z h0 h1
        cases hv : valV kvs (.inl z : Key) with
        | none => rw [hv] at this; cases this
        | some v =>
          obtain ⟨r, d, l', e, w'⟩ := PA.vals z v hv
          exact ⟨v, r, rfl, d, by omega, e, w'⟩
      · obtain ⟨_, ⟨q0, q1⟩, _⟩ := oke e he
        exact (clo e he (pres' _ q0 q1)).2
end

section
variable {P : Program} {w : World} {K : PySem.W.Frag} {mg : Str → Option Value} {base : Heap}
theorem sc_law_back : FnScope ["_law_path", "_law_found", "_law_entry"] ["_law_path"] (defScope s_law_back) := ⟨rfl, rfl, rfl, by decide +kernel, rfl, by decide +kernel, by decide +kernel⟩
theorem ok_law_back {f : Addr} {fd : FuncData} (F : Fun K "_law_back" "_law_back" s_law_back f fd) (T : Txt mg) : FnOk P w K mg base CX0 1 f fd ["_law_path"] (sp_back K) := by
  refine F.ok sc_law_back (fun vs H Q E h => ?_) (fun cdv A outer s H vs Q E hr h => ?_)
  · obtain ⟨x, r, n, rfl, _⟩ := h
    rfl
  · obtain ⟨x, r, n, rfl, hx, hl, ho, k⟩ := h
    obtain ⟨a, xs, rfl, ha, dv⟩ := pairs_at hx
    have hxl : xs.length = r.length := by rw [dv.length, List.length_map]
    have dr := dvs_rev dv
    rw [← List.map_reverse] at dr
    refine ⟨_, (@pss_cons _ _ _ _ _ (@ps_set _ _ 1 _ _ _ _ sc_law_back.nd rfl (Or.inl rfl) (@pe_lst _ _ _ _ (@pa_nil _)) (by rfl) (by first | exact Or.inl rfl | exact Or.inr rfl | assumption)) (@pss_cons _ _ _ _ _ (@ps_for _ _ _ _ _ _ _ _ PassesOwn.never rfl (@pi_tup _ _ _ _ (@pe_revT _ _ _ _ _ _ _ (@pv _ 0 _ _ rfl (Or.inl rfl) (by decide) (by decide)) (@pe_un _ _ _ _ _ _ un_neg (@pe_int _ _ _ _)))) (@pg_name _ _ 2 _ sc_law_back.nd rfl (Or.inl rfl) (by first | exact Or.inl rfl | exact Or.inr rfl | assumption)) (@pss_one _ _ _ (@ps_expr _ _ _ _ (@pe_bm _ _ _ _ _ _ _ _ _ _ _ _ PySem.F.plainAttrs_list PySem.F.slot_list_append PySem.F.type_list_append mt_append (@pv _ 1 _ _ rfl (Or.inl rfl) (by decide) (by decide)) (@pa_ife _ _ _ _ _ _ _ _ (@pe_ifExp _ _ _ _ _ _ _ _ (@pt_cmpR _ _ _ _ _ _ _ _ op_eq (@pe_callB _ _ _ _ _ _ _ _ _ call_len_seq rfl T.n_len PySem.boot_len (@pa_name _ _ _ _ _ _ (@pv _ 2 _ _ rfl (Or.inl rfl) (by decide) (by decide)) (@pa_nil _)) (by decide) (by decide) (by rfl) (by rfl)) (@pe_int _ _ _ _) (nomark _)) (@pe_tup _ _ _ _ _ (@pa_const _ _ _ _ _ _ _ (@pe_str _ _ _ _) (@pa_sub _ _ _ _ _ _ _ (@pe_ix _ _ _ _ _ _ _ ix_tup (@pv _ 2 _ _ rfl (Or.inl rfl) (by decide) (by decide)) (@pe_int _ _ _ _) (fun _ _ => rfl)) (@pa_sub _ _ _ _ _ _ _ (@pe_ix _ _ _ _ _ _ _ ix_tup (@pv _ 2 _ _ rfl (Or.inl rfl) (by decide) (by decide)) (@pe_int _ _ _ _) (fun _ _ => rfl)) (@pa_nil _))))) (@pe_tup _ _ _ _ _ (@pa_sub _ _ _ _ _ _ _ (@pe_ix _ _ _ _ _ _ _ ix_tup (@pv _ 2 _ _ rfl (Or.inl rfl) (by decide) (by decide)) (@pe_int _ _ _ _) (fun _ _ => rfl)) (@pa_bin _ _ _ _ _ _ _ _ (@pe_op _ _ _ _ _ _ _ _ op_sub (@pe_int _ _ _ _) (@pe_ix _ _ _ _ _ _ _ ix_tup (@pv _ 2 _ _ rfl (Or.inl rfl) (by decide) (by decide)) (@pe_int _ _ _ _) (fun _ _ => rfl))) (@pa_nil _))))) (@pa_nil _)) (by rfl) (by rfl) (by rfl) (by rfl) (by rfl)) (by rfl))) (by intro _ ; rfl)) (@pss_one _ _ _ (@ps_ret _ _ _ _ (@pe_callTy _ _ _ _ _ _ _ _ _ call_tuple_of rfl T.n_tuple PyProof.Rows.boot_tuple (@pa_name _ _ _ _ _ _ (@pv _ 1 _ _ rfl (Or.inl rfl) (by decide) (by decide)) (@pa_nil _)) (by decide) (by decide) (by rfl) (by rfl)))))), ?_⟩
    refine ⟨by show 0 ≤ sizeLine; decide, fun L hL => ?_⟩
    have s0 : Same H (upd H L (.lst [])) := Same.new hL
    refine ⟨_, rfl, _, rfl, a, xs, rfl, SqT.of (s0 _ _ ha), rfl, fun p hp => ⟨p, rfl, ⟨_, SqT.of upd_same⟩, ?_⟩⟩
    have s1 := s0.trans (Same.new (o := .tup xs.reverse) hp)
    have hp1 : (upd (upd H L (.lst [])) p (.tup xs.reverse)) p = some (.tup xs.reverse) := upd_same
    have hL1 := Same.new (o := .tup xs.reverse) hp L _ upd_same
    revert s1 hp1 hL1
    generalize upd (upd H L (.lst [])) p (.tup xs.reverse) = HA
    intro s1 hp1 hL1
    refine for_tup (K := K) (a := p) (xs := xs.reverse) (fun i σ H3 => ∃ o2, σ = [some (.ref a), some (.ref L), o2] ∧ Same H H3 ∧ H3 p = some (.tup xs.reverse) ∧ ∃ (ys : List V), H3 L = some (.lst ys) ∧ DVs K H3 ys (((r.reverse.take i).map fun e => (e.1, 0 - e.2)).map pairD2) ∧ i ≤ r.length)
      ⟨_, rfl, s1, hp1, [], hL1, .nil, Nat.zero_le _⟩ (fun i σ H3 _ ⟨_, _, _, h, _⟩ => SqT.of h) ?_ ?_
    · rintro i v σ H3 hi ⟨o2, rfl, S3, hp3, ys, hL3, dv3, hle⟩
      obtain ⟨hi', c, rfl, hc⟩ := pairs_item dr hi
      have hc3 := S3 _ _ hc
      have hyl : ys.length = i := by rw [dv3.length, List.length_map, List.length_map, List.length_take, List.length_reverse]; omega
      rw [List.length_reverse] at hi'
      refine ⟨_, rfl, .inl ⟨rfl, _, SqL.of hL3⟩, ?_⟩
      refine ⟨_, rfl, c, _, rfl, .inr (SqT.of hc3), rfl, _, rfl, ite2 (fun h => absurd (of_decide_eq_true h) (by intro z; injection z with z; exact absurd z (by show ¬ ((2 : Int) = 3); decide))) (fun _ => ?_)⟩
      refine ⟨_, rfl, c, _, _, _, rfl, rfl, SqT.of hc3, pickN (by decide) rfl, _, rfl, c, _, _, _, rfl, rfl, SqT.of hc3, pickN (by decide) rfl, _, _, rfl, rfl, by show 2 ≤ sizeLine; decide, fun t ht => ?_⟩
      have q1 := Same.new (o := .tup [.int (r.reverse[i]'(by rw [List.length_reverse]; exact hi')).1, .int (0 - (r.reverse[i]'(by rw [List.length_reverse]; exact hi')).2)]) ht
      have hL4 := q1 _ _ hL3
      refine ⟨L, ys, _, rfl, rfl, hL4, by rw [hyl]; exact Nat.lt_of_lt_of_le hi' (Nat.le_trans hl (by decide)), ?_⟩
      have u := TK.updL (ys := ys ++ [.ref t]) hL4
      refine ⟨_, rfl, (S3.trans q1).acc hL, u _ _ (q1 _ _ hp3), _, upd_same, ?_, hi'⟩
      rw [List.take_succ, List.getElem?_eq_getElem (show i < r.reverse.length by rw [List.length_reverse]; exact hi'), List.map_append, List.map_append]
      exact ((dv3.same q1).tk u (noLs_pairs _)).append (.cons (at_pair (u t _ upd_same)) .nil)
    · rintro σ H3 ⟨o2, rfl, S3, hp3, ys, hL3, dv3, hle⟩
      rw [List.take_of_length_le (by rw [List.length_reverse, List.length_reverse]; omega)] at dv3
      refine ⟨_, rfl, L, _, rfl, .inl ⟨SqL.of hL3, fun l hl' => ?_⟩⟩
      exact k l _ (S3.trans (Same.new hl')) (.tup upd_same (dv3.tk (TK.new hl') (noLs_pairs _))) (backR_len r) (backR_ok ho)
theorem sc_law_a_cut : FnScope ["_law_feed", "_law_least", "_law_most", "_law_quarter"] ["_law_feed", "_law_least", "_law_most"] (defScope s_law_a_cut) := ⟨rfl, rfl, rfl, by decide +kernel, rfl, by decide +kernel, by decide +kernel⟩
theorem ok_law_a_cut {f : Addr} {fd : FuncData} (F : Fun K "_law_a_cut" "_law_a_cut" s_law_a_cut f fd) (T : Txt mg) (D_law_draw : Def P w K mg base 1 "_law_draw" ["_law_feed", "_law_many"] sp_drawB) : FnOk P w K mg base CX0 2 f fd ["_law_feed", "_law_least", "_law_most"] sp_a_cut := by
  refine F.ok sc_law_a_cut (fun vs H Q E h => ?_) (fun cdv A outer s H vs Q E hr h => ?_)
  · obtain ⟨f, c, lo, hi, n, rfl, _⟩ := h
    rfl
  · obtain ⟨f, c, lo, hi, n, rfl, h1, h2, hF, hn, k⟩ := h
    have hN : nMax = 1000000000000 := rfl
    refine ⟨_, (@pss_cons _ _ _ _ _ (@ps_set _ _ 3 _ _ _ _ sc_law_a_cut.nd rfl (Or.inl rfl) (@pe_op _ _ _ _ _ _ _ _ op_fdiv (@pe_op _ _ _ _ _ _ _ _ op_sub (@pv _ 2 _ _ rfl (Or.inl rfl) (by decide) (by decide)) (@pv _ 1 _ _ rfl (Or.inl rfl) (by decide) (by decide))) (@pe_int _ _ _ _)) (by rfl) (by first | exact Or.inl rfl | exact Or.inr rfl | assumption)) (@pss_one _ _ _ (@ps_ret _ _ _ _ (@pe_op _ _ _ _ _ _ _ _ op_add (@pe_op _ _ _ _ _ _ _ _ op_add (@pv _ 1 _ _ rfl (Or.inl rfl) (by decide) (by decide)) (@pv _ 3 _ _ rfl (Or.inl rfl) (by decide) (by decide))) (@pe_own _ _ _ _ _ _ _ _ _ _ D_law_draw (hr.mono (by decide)) rfl (@pa_name _ _ _ _ _ _ (@pv _ 0 _ _ rfl (Or.inl rfl) (by decide) (by decide)) (@pa_bin _ _ _ _ _ _ _ _ (@pe_op _ _ _ _ _ _ _ _ op_sub (@pe_op _ _ _ _ _ _ _ _ op_sub (@pv _ 2 _ _ rfl (Or.inl rfl) (by decide) (by decide)) (@pv _ 1 _ _ rfl (Or.inl rfl) (by decide) (by decide))) (@pe_op _ _ _ _ _ _ _ _ op_mul (@pe_int _ _ _ _) (@pv _ 3 _ _ rfl (Or.inl rfl) (by decide) (by decide)))) (@pa_nil _))) (by decide) (by rfl) (by rfl)))))), ?_⟩
    refine ⟨_, rfl, _, rfl, _, _, rfl, rfl, _, _, rfl, rfl, (by constructor <;> decide), ?_⟩
    try simp only [List.set_cons_zero, List.set_cons_succ]
    refine ⟨_, rfl, _, rfl, _, _, rfl, rfl, _, rfl, _, rfl, _, rfl, _, _, rfl, rfl, _, rfl, _, _, rfl, rfl, .inl (by decide), _, _, rfl, rfl, f, c, _, _, rfl, by omega, by omega, hF, by omega, fun r H1 a1 b1 F1 S1 => ⟨_, _, rfl, rfl, ?_⟩⟩
    exact k _ _ (by omega) (by omega) F1 S1
end

section
variable {P : Program} {w : World} {K : PySem.W.Frag} {mg : Str → Option Value} {base : Heap}
theorem sc_law_walk : FnScope ["_law_feed", "_law_plan", "_law_entries", "_law_paths", "_law_ring", "_law_k", "_law_entry", "_law_first", "_law_last", "_law_some", "_law_start"] ["_law_feed", "_law_plan"] (defScope s_law_walk) := ⟨rfl, rfl, rfl, by decide +kernel, rfl, by decide +kernel, by decide +kernel⟩
theorem ok_law_walk {f : Addr} {fd : FuncData} (F : Fun K "_law_walk" "_law_walk" s_law_walk f fd) (T : Txt mg) (D_law_draw : Def P w K mg base 1 "_law_draw" ["_law_feed", "_law_many"] sp_drawB) (D_law_steps : Def P w K mg base 1 "_law_steps" ["_law_plan", "_law_stays"] (sp_steps K)) (D_law_ways : Def P w K mg base 1 "_law_ways" ["_law_plan", "_law_stays", "_law_entries"] (sp_ways K)) (D_law_back : Def P w K mg base 1 "_law_back" ["_law_path"] (sp_back K)) : FnOk P w K mg base CX0 2 f fd ["_law_feed", "_law_plan"] (sp_walk K) := by
  refine F.ok sc_law_walk (fun vs H Q E h => ?_) (fun cdv A outer s H vs Q E hr h => ?_)
  · obtain ⟨f, c, x, Pl, works, n, rfl, _⟩ := h
    rfl
  · obtain ⟨f, c, x, Pl, works, n, rfl, hx, okp, hw8, hpos, hF, hn, k⟩ := h
    have hN : nMax = 1000000000000 := rfl
    have hu := hu_of hr
    have hsl : Pl.spans.length ≤ 24 := by have := okp.s1; omega
    refine ⟨_, (@pss_cons _ _ _ _ _ (@ps_set _ _ 2 _ _ _ _ sc_law_walk.nd rfl (Or.inl rfl) (@pe_own _ _ _ _ _ _ _ _ _ _ D_law_steps (hr.mono (by decide)) rfl (@pa_name _ _ _ _ _ _ (@pv _ 1 _ _ rfl (Or.inl rfl) (by decide) (by decide)) (@pa_tup _ _ _ _ _ _ _ (@pe_tup _ _ _ _ _ (@pa_nil _)) (@pa_nil _))) (by decide) (by rfl) (by rfl)) (by rfl) (by first | exact Or.inl rfl | exact Or.inr rfl | assumption)) (@pss_cons _ _ _ _ _ (@ps_set _ _ 3 _ _ _ _ sc_law_walk.nd rfl (Or.inl rfl) (@pe_own _ _ _ _ _ _ _ _ _ _ D_law_ways (hr.mono (by decide)) rfl (@pa_name _ _ _ _ _ _ (@pv _ 1 _ _ rfl (Or.inl rfl) (by decide) (by decide)) (@pa_tup _ _ _ _ _ _ _ (@pe_tup _ _ _ _ _ (@pa_nil _)) (@pa_name _ _ _ _ _ _ (@pv _ 2 _ _ rfl (Or.inl rfl) (by decide) (by decide)) (@pa_nil _)))) (by decide) (by rfl) (by rfl)) (by rfl) (by first | exact Or.inl rfl | exact Or.inr rfl | assumption)) (@pss_cons _ _ _ _ _ (@ps_asg _ _ _ _ _ _ (@pe_ix _ _ _ _ _ _ _ ix_list (@pv _ 2 _ _ rfl (Or.inl rfl) (by decide) (by decide)) (@pe_own _ _ _ _ _ _ _ _ _ _ D_law_draw (hr.mono (by decide)) rfl (@pa_name _ _ _ _ _ _ (@pv _ 0 _ _ rfl (Or.inl rfl) (by decide) (by decide)) (@pa_call _ _ _ _ _ _ _ _ (@pe_callB _ _ _ _ _ _ _ _ _ call_len_seq rfl T.n_len PySem.boot_len (@pa_name _ _ _ _ _ _ (@pv _ 2 _ _ rfl (Or.inl rfl) (by decide) (by decide)) (@pa_nil _)) (by decide) (by decide) (by rfl) (by rfl)) (@pa_nil _))) (by decide) (by rfl) (by rfl)) (fun _ _ => rfl)) (@pg_tup _ _ _ _ _ _ rfl (@pgs_cons _ _ _ _ _ (@pg_name _ _ 6 _ sc_law_walk.nd rfl (Or.inl rfl) (by first | exact Or.inl rfl | exact Or.inr rfl | assumption)) (@pgs_cons _ _ _ _ _ (@pg_name _ _ 7 _ sc_law_walk.nd rfl (Or.inl rfl) (by first | exact Or.inl rfl | exact Or.inr rfl | assumption)) (@pgs_cons _ _ _ _ _ (@pg_name _ _ 8 _ sc_law_walk.nd rfl (Or.inr rfl) (by first | exact Or.inl rfl | exact Or.inr rfl | assumption)) (@pgs_nil _) (by rfl)) (by rfl)) (by rfl)) (by rfl) (by rfl)) (by rfl) (by rfl) (by rfl)) (@pss_cons _ _ _ _ _ (@ps_set _ _ 4 _ _ _ _ sc_law_walk.nd rfl (Or.inl rfl) (@pe_tup _ _ _ _ _ (@pa_name _ _ _ _ _ _ (@pv _ 6 _ _ rfl (Or.inl rfl) (by decide) (by decide)) (@pa_nil _))) (by rfl) (by first | exact Or.inl rfl | exact Or.inr rfl | assumption)) (@pss_cons _ _ _ _ _ (@ps_for _ _ _ _ _ _ _ _ PassesOwn.never rfl (@pi_range1 _ _ _ _ _ _ rfl T.n_range (@pa_sub _ _ _ _ _ _ _ (@pe_ix _ _ _ _ _ _ _ ix_list (@pe_lst _ _ _ _ (@pa_const _ _ _ _ _ _ _ (@pe_int _ _ _ _) (@pa_const _ _ _ _ _ _ _ (@pe_int _ _ _ _) (@pa_const _ _ _ _ _ _ _ (@pe_int _ _ _ _) (@pa_const _ _ _ _ _ _ _ (@pe_int _ _ _ _) (@pa_nil _)))))) (@pe_own _ _ _ _ _ _ _ _ _ _ D_law_draw (hr.mono (by decide)) rfl (@pa_name _ _ _ _ _ _ (@pv _ 0 _ _ rfl (Or.inl rfl) (by decide) (by decide)) (@pa_const _ _ _ _ _ _ _ (@pe_int _ _ _ _) (@pa_nil _))) (by decide) (by rfl) (by rfl)) (fun _ _ => rfl)) (@pa_nil _)) (by rfl)) (@pg_name _ _ 5 _ sc_law_walk.nd rfl (Or.inl rfl) (by first | exact Or.inl rfl | exact Or.inr rfl | assumption)) (@pss_cons _ _ _ _ _ (@ps_lc _ ["_law_one", "_law_last"] [none, (some 8)] _ _ _ _ _ _ _ _ _ _ _ _ 9 _ sc_law_walk.nd rfl rfl rfl (@CScope.of _ _ _ _ rfl) (@pi_list _ _ _ _ (@pv _ 2 _ _ rfl (Or.inl rfl) (by decide) (by decide))) (fun _ _ _ _ _ => (@pgc _ _ _ _ _ _ _ _ 0 _ _ (by decide) rfl rfl)) (fun _ _ _ _ _ => (@pif_one _ _ _ (@pt_cmpR _ _ _ _ _ _ _ _ op_eq (@pe_ix _ _ _ _ _ _ _ ixc_tup (@pvc _ _ _ _ _ _ _ _ 0 _ _ (by rfl) (by first | exact Or.inl rfl | exact Or.inr rfl) (by decide) (by decide)) (@pe_int _ _ _ _) (fun _ _ => rfl)) (@pvc _ _ _ _ _ _ _ _ 1 _ _ (by rfl) (by first | exact Or.inl rfl | exact Or.inr rfl) (by decide) (by decide)) (nomark _)))) (fun _ _ _ _ _ => (@pvc _ _ _ _ _ _ _ _ 0 _ _ (by rfl) (by first | exact Or.inl rfl | exact Or.inr rfl) (by decide) (by decide))) rfl (by intro _ ; rfl)) (@pss_cons _ _ _ _ _ (@ps_asg _ _ _ _ _ _ (@pe_ix _ _ _ _ _ _ _ ix_list (@pv _ 9 _ _ rfl (Or.inl rfl) (by decide) (by decide)) (@pe_own _ _ _ _ _ _ _ _ _ _ D_law_draw (hr.mono (by decide)) rfl (@pa_name _ _ _ _ _ _ (@pv _ 0 _ _ rfl (Or.inl rfl) (by decide) (by decide)) (@pa_call _ _ _ _ _ _ _ _ (@pe_callB _ _ _ _ _ _ _ _ _ call_len_seq rfl T.n_len PySem.boot_len (@pa_name _ _ _ _ _ _ (@pv _ 9 _ _ rfl (Or.inl rfl) (by decide) (by decide)) (@pa_nil _)) (by decide) (by decide) (by rfl) (by rfl)) (@pa_nil _))) (by decide) (by rfl) (by rfl)) (fun _ _ => rfl)) (@pg_tup _ _ _ _ _ _ rfl (@pgs_cons _ _ _ _ _ (@pg_name _ _ 6 _ sc_law_walk.nd rfl (Or.inl rfl) (by first | exact Or.inl rfl | exact Or.inr rfl | assumption)) (@pgs_cons _ _ _ _ _ (@pg_name _ _ 10 _ sc_law_walk.nd rfl (Or.inl rfl) (by first | exact Or.inl rfl | exact Or.inr rfl | assumption)) (@pgs_cons _ _ _ _ _ (@pg_name _ _ 8 _ sc_law_walk.nd rfl (Or.inr rfl) (by first | exact Or.inl rfl | exact Or.inr rfl | assumption)) (@pgs_nil _) (by rfl)) (by rfl)) (by rfl)) (by rfl) (by rfl)) (by rfl) (by rfl) (by rfl)) (@pss_one _ _ _ (@ps_set _ _ 4 _ _ _ _ sc_law_walk.nd rfl (Or.inl rfl) (@pe_op _ _ _ _ _ _ _ _ op_catG (@pv _ 4 _ _ rfl (Or.inl rfl) (by decide) (by decide)) (@pe_tup _ _ _ _ _ (@pa_name _ _ _ _ _ _ (@pv _ 6 _ _ rfl (Or.inl rfl) (by decide) (by decide)) (@pa_nil _)))) (by rfl) (by first | exact Or.inl rfl | exact Or.inr rfl | assumption))))) (by intro _ ; rfl)) (@pss_one _ _ _ (@ps_ret _ _ _ _ (@pe_op _ _ _ _ _ _ _ _ op_catG (@pe_op _ _ _ _ _ _ _ _ op_catG (@pv _ 4 _ _ rfl (Or.inl rfl) (by decide) (by decide)) (@pe_own _ _ _ _ _ _ _ _ _ _ D_law_back (hr.mono (by decide)) rfl (@pa_sub _ _ _ _ _ _ _ (@pe_ix _ _ _ _ _ _ _ ix_tup (@pe_dget _ _ _ _ _ _ hu (@pv _ 3 _ _ rfl (Or.inl rfl) (by decide) (by decide)) (@pv _ 8 _ _ rfl (Or.inr (Or.inl rfl)) (by decide) (by decide)) (fun _ _ => rfl)) (@pe_int _ _ _ _) (fun _ _ => rfl)) (@pa_nil _)) (by decide) (by rfl) (by rfl))) (@pe_ix _ _ _ _ _ _ _ ix_tup (@pe_dget _ _ _ _ _ _ hu (@pv _ 3 _ _ rfl (Or.inl rfl) (by decide) (by decide)) (@pv _ 7 _ _ rfl (Or.inl rfl) (by decide) (by decide)) (fun _ _ => rfl)) (@pe_int _ _ _ _) (fun _ _ => rfl)))))))))), ?_⟩
    refine ⟨_, rfl, by show 0 ≤ sizeLine; decide, fun t1 ht1 => ?_⟩
    have s1 := Same.new (o := .tup []) ht1
    refine ⟨x, t1, Pl, works, rfl, hx.same s1, upd_same, hsl, fun s hs => (okp.s2 s hs).inn, fun ea xs es H2 S2 hea dve oke hel => ?_⟩
    try simp only [List.set_cons_zero, List.set_cons_succ]
    refine ⟨_, rfl, by show 0 ≤ sizeLine; decide, fun t2 ht2 => ⟨_, rfl, ?_⟩⟩
    have s3 := Same.new (o := .tup []) ht2
    have S3 := (s1.trans S2).trans s3
    refine ⟨x, t2, ea, Pl, works, xs, es, Pl.spans, rfl, hx.same S3, upd_same, okp.n1, hw8, s3 _ _ hea, dve.same s3, oke, by omega, fun D kvs ρ H4 S4 hD4 pth rho => ?_⟩
    have S04 := S3.trans S4
    have hea4 := S4 _ _ (s3 _ _ hea)
    have dve4 := (dve.same s3).same S4
    have F4 := hF.same S04
    have hxl : xs.length = es.length := by rw [dve.length, List.length_map]
    have hef : ea ≠ f := by
      obtain ⟨kv, e⟩ := F4.some
      exact ne_of hea4 e (by intro z; cases z)
    try simp only [List.set_cons_zero, List.set_cons_succ]
    refine ⟨_, rfl, _, rfl, _, rfl, ea, _, rfl, .inl (SqL.of hea4), f, c, _, _, rfl, by omega, by omega, F4, by omega, fun r5 H5 a5 b5 F5 S5 => ?_⟩
    have hea5 := S5 ea _ hef hea4
    have T45 := F4.tk S5
    have hr5 : r5.toNat < xs.length := by omega
    obtain ⟨hi5, a, q, hxa, ha, hq⟩ := ents_item dve4 (List.getElem?_eq_getElem hr5)
    have hat5 : atI xs r5 = some (.ref a) := pickN a5 (by rw [List.getElem?_eq_getElem hr5, hxa])
    refine ⟨ea, _, _, _, rfl, rfl, SqL.of hea5, hat5, a, _, rfl, SqT.of (T45 _ _ ha), rfl, _, _, rfl, _, _, rfl, _, _, rfl, rfl, ?_⟩
    have e5 := List.getElem_mem hi5
    obtain ⟨ok5, ⟨fa0, fa1⟩, ⟨fb0, fb1⟩⟩ := oke.ok _ e5
    revert hxa ha hq e5 ok5 fa0 fa1 fb0 fb1
    generalize es[r5.toNat] = e1
    intro hxa ha hq e5 ok5 fa0 fa1 fb0 fb1
    try simp only [List.set_cons_zero, List.set_cons_succ]
    refine ⟨_, rfl, by show 1 ≤ sizeLine; decide, fun rg hrg => ?_⟩
    have q5 := Same.new (o := .tup [.ref q]) hrg
    have F6 := F5.new (o := .tup [.ref q]) hrg
    have S6 : Sm f H4 (upd H5 rg (.tup [.ref q])) := S5.trans (Sm.new hrg)
    have dr6 : DV K (upd H5 rg (.tup [.ref q])) (.ref rg) (pairsD [(e1.s, e1.w)]) := .tup upd_same (.cons (at_pair (q5 _ _ (T45 _ _ hq))) .nil)
    revert F6 S6 dr6
    generalize upd H5 rg (.tup [.ref q]) = H6
    intro F6 S6 dr6
    refine ⟨by show 4 ≤ sizeLine; decide, fun p7 hp7 => ?_⟩
    refine ⟨_, rfl, f, c, _, _, rfl, by decide, by decide, F6.new hp7, by omega, fun r7 H7 a7 b7 F7 S7 => ?_⟩
    obtain ⟨v7, hv7, cnt, rfl, hc1, hc2⟩ := pickI (xs := [.int 0, .int 1, .int 2, .int 5]) (fun v => ∃ z : Int, v = .int z ∧ 0 ≤ z ∧ z ≤ 5) a7 b7 (by
      intro x hx
      simp only [List.mem_cons, List.not_mem_nil, or_false] at hx
      rcases hx with rfl | rfl | rfl | rfl <;> exact ⟨_, rfl, by omega, by omega⟩)
    refine ⟨p7, _, _, _, rfl, rfl, SqL.of (S7 p7 _ (F6.away hp7).1 upd_same), hv7, cnt, rfl, by omega, by omega, ?_⟩
    have S07 : Sm f H4 H7 := S6.trans ((Sm.new hp7).trans S7)
    have dr7 := (dr6.same (Same.new hp7)).tk ((F6.new (o := .lst [.int 0, .int 1, .int 2, .int 5]) hp7).tk S7) (noL_pairs _)
    refine for_range (lo := 0) (n := cnt.toNat) (fun i σ H8 => ∃ (rg : Addr) (o5 o6 : Option V) (last : Int) (o9 o10 : Option V) (r : List (Int × Int)), σ = [some (.ref f), some x, some (.ref ea), some (.ref D), some (.ref rg), o5, o6, some (.int e1.a), some (.int last), o9, o10] ∧ FeedB H8 f c (n + 2 + i) ∧ Sm f H4 H8 ∧ DV K H8 (.ref rg) (pairsD r) ∧ r.length = i + 1 ∧ (∀ e ∈ r, EntOk Pl.spans.length e) ∧ 0 ≤ last ∧ last < works ∧ (∃ e ∈ es, e.a = last) ∧ Walk Pl.spans e1.a r last ∧ ρ last = ρ e1.a)
      ⟨rg, _, _, _, _, _, [(e1.s, e1.w)], rfl, F7.mono (by omega), S07, dr7, rfl, fun e he => by rw [List.mem_singleton.mp he]; exact ok5, fb0, fb1, (by obtain ⟨y, h1, h2, _⟩ := oke.on _ e5; exact ⟨y, h1, h2⟩), oke.wk _ e5, rho _ e5⟩ ?_ ?_
    · rintro i σ H8 hi ⟨rg8, o5, o6, last, o9, o10, r8, rfl, F8, S8, dr8, hr8, he8, l0, l1, ⟨e8, he8m, he8a⟩, wk8, rl8⟩
      have hi5' : i < 5 := by omega
      have hea8 := S8 ea _ hef hea4
      have T8 := F4.tk S8
      have dve8 := dve4.tk T8 (noLs_ents _)
      try simp only [List.set_cons_zero, List.set_cons_succ]
      refine ⟨_, rfl, ea, rfl, ⟨_, SqL.of hea8⟩, fun D9 hD9 => ?_⟩
      refine lc_list (K := K) (a := ea) (xs := xs) 1 [some (.int last)]
        (fun j ys H9 => Same H8 H9 ∧ H9 D9 = some (.lst ys) ∧ DVs K H9 ys (((es.take j).filter fun e => decide (e.a = last)).map Ent.d) ∧ j ≤ es.length)
        rfl ⟨Same.new hD9, upd_same, .nil, Nat.zero_le _⟩ (fun j ys H9 _ ⟨h, _⟩ => SqL.of (h _ _ hea8)) ?_ ?_
      · rintro j v ys H9 os hj ho ⟨S9, hD9', dv9, hle⟩
        obtain ⟨o, rfl⟩ := one_of ho
        have hj0 : j < xs.length := (List.getElem?_eq_some_iff.mp hj).1
        obtain ⟨hj', aj, qj, rfl, haj, hqj⟩ := ents_item dve8 hj
        have hyl : ys.length ≤ j := by
          rw [dv9.length, List.length_map]
          refine Nat.le_trans (List.length_filter_le _ _) ?_
          rw [List.length_take]
          omega
        refine ⟨_, rfl, aj, _, _, _, rfl, rfl, SqT.of (S9 _ _ haj), pickN (by decide) rfl, _, rfl, rfl, _, rfl, ite2 (fun hd => ?_) (fun hd => ?_)⟩
        · have hd' : (es[j]).a = last := by simpa [dec_int] using hd
          refine ⟨_, rfl, LcN.mk (os := [some (.ref aj)]) hj0 hD9' (Nat.lt_of_le_of_lt hyl (Nat.lt_of_lt_of_le hj' (Nat.le_trans (show es.length ≤ 48 by omega) (by decide)))) rfl rfl ⟨S9.acc hD9, upd_same, ?_, hj'⟩⟩
          rw [List.take_succ, List.getElem?_eq_getElem hj', List.filter_append, List.map_append]
          have u := TK.updL (ys := ys ++ [.ref aj]) hD9'
          have e : ((some es[j]).toList.filter fun e => decide (e.a = last)).map Ent.d = [(es[j]).d] := by simp [hd']
          rw [e]
          exact (dv9.tk u (noLs_ents _)).append (.cons (at_ent (u _ _ (S9 _ _ haj)) (u _ _ (S9 _ _ hqj))) .nil)
        · have hd' : ¬ (es[j]).a = last := by simpa [dec_int] using hd
          refine LcS.mk (os := [some (.ref aj)]) hj0 rfl rfl ⟨S9, hD9', ?_, hj'⟩
          rw [List.take_succ, List.getElem?_eq_getElem hj', List.filter_append]
          have e : ((some es[j]).toList.filter fun e => decide (e.a = last)) = [] := by simp [hd']
          rw [e, List.append_nil]
          exact dv9
      · rintro ys H9 ⟨S9, hD9', dv9, _⟩
        rw [List.take_of_length_le (by omega)] at dv9
        have hne : 0 < (es.filter fun e => decide (e.a = last)).length := List.length_pos_of_mem (List.mem_filter.mpr ⟨he8m, by simpa using he8a⟩)
        have hyl : ys.length = (es.filter fun e => decide (e.a = last)).length := by rw [dv9.length, List.length_map]
        have hyl2 : ys.length ≤ 48 := by rw [hyl]; exact Nat.le_trans (List.length_filter_le _ _) (by omega)
        have F9 := F8.same S9
        have hDf : D9 ≠ f := (F8.away hD9).1
        try simp only [List.set_cons_zero, List.set_cons_succ]
        refine ⟨_, rfl, _, rfl, _, rfl, D9, _, rfl, .inl (SqL.of hD9'), f, c, _, _, rfl, by omega, by omega, F9, by omega, fun r10 H10 a10 b10 F10 S10 => ?_⟩
        have hr10 : r10.toNat < ys.length := by omega
        have T910 := F9.tk S10
        obtain ⟨hi10, a2, q2, hxa2, ha2, hq2⟩ := ents_item dv9 (List.getElem?_eq_getElem hr10)
        have hat10 : atI ys r10 = some (.ref a2) := pickN a10 (by rw [List.getElem?_eq_getElem hr10, hxa2])
        refine ⟨D9, _, _, _, rfl, rfl, SqL.of (S10 D9 _ hDf hD9'), hat10, a2, _, rfl, SqT.of (T910 _ _ ha2), rfl, _, _, rfl, _, _, rfl, _, _, rfl, rfl, ?_⟩
        have e10 := (List.mem_filter.mp (List.getElem_mem hi10)).1
        have e10a : ((es.filter fun e => decide (e.a = last))[r10.toNat]).a = last := by simpa using (List.mem_filter.mp (List.getElem_mem hi10)).2
        obtain ⟨ok10, ⟨ga0, ga1⟩, ⟨gb0, gb1⟩⟩ := oke.ok _ e10
        revert hxa2 ha2 hq2 e10 e10a ok10 ga0 ga1 gb0 gb1
        generalize (es.filter fun e => decide (e.a = last))[r10.toNat] = e2
        intro hxa2 ha2 hq2 e10 e10a ok10 ga0 ga1 gb0 gb1
        try simp only [List.set_cons_zero, List.set_cons_succ]
        refine ⟨_, rfl, _, rfl, by show 1 ≤ sizeLine; decide, fun t11 ht11 => ?_⟩
        have q11 := Same.new (o := .tup [.ref q2]) ht11
        have S811 : Sm f H8 (upd H10 t11 (.tup [.ref q2])) := (Sm.same S9).trans (S10.trans (Sm.new ht11))
        refine cat_pairs (r1 := r8) (r2 := [(e2.s, e2.w)]) (dr8.tk (F8.tk S811) (noL_pairs _)) (.tup upd_same (.cons (at_pair (q11 _ _ (T910 _ _ hq2))) .nil)) (by show r8.length + 1 ≤ 1000; omega) fun rg12 H12 S12 dr12 => ?_
        refine ⟨rg12, _, _, _, _, _, _, rfl, ((F10.new ht11).same S12).mono (by omega), S8.trans (S811.trans (Sm.same S12)), dr12, by rw [List.length_append, hr8]; rfl, fun e he => ?_, gb0, gb1, (by obtain ⟨y, h1, h2, _⟩ := oke.on _ e10; exact ⟨y, h1, h2⟩), wk8.append (by have := oke.wk _ e10; rw [e10a] at this; exact this), by rw [rho _ e10, e10a, rl8]⟩
        rcases List.mem_append.mp he with z | z
        · exact he8 e z
        · rw [List.mem_singleton.mp z]; exact ok10
    · rintro σ H8 ⟨rg8, o5, o6, last, o9, o10, r8, rfl, F8, S8, dr8, hr8, he8, l0, l1, ⟨e8, he8m, he8a⟩, wk8, rl8⟩
      have T8 := F4.tk S8
      have hDf : D ≠ f := by
        intro e
        rw [e] at hD4
        obtain ⟨ns, a0, l0', t0, g1, _⟩ := F4.ex
        rw [g1] at hD4
        obtain ⟨v, r, hv, _⟩ := pth 0 (by omega) (by omega)
        have : kvs = fd0 c a0 l0' t0 := by
          have := Option.some.inj hD4
          injection this with this
          exact this.symm
        rw [this] at hv
        simp [fd0, valV] at hv
      have hD8 := S8 D _ hDf hD4
      obtain ⟨v1, p1, hv1, d1, hl1, ho1, w1⟩ := pth last l0 l1
      obtain ⟨v2, p2, hv2, d2, hl2, ho2, w2⟩ := pth e1.a fa0 fa1
      obtain ⟨va1, vb1, us1, rfl, hva1, hvb1, dvb1⟩ := way_at (d1.tk T8 (noL_way _ _))
      obtain ⟨va2, vb2, us2, rfl, hva2, hvb2, dvb2⟩ := way_at (d2.tk T8 (noL_way _ _))
      have get1 : DGet H8 D (.int last) (some (.ref va1)) := by
        have := DGet.k (k := (.inl last : Key)) hD8
        rw [hv1] at this
        exact this
      try simp only [List.set_cons_zero, List.set_cons_succ]
      refine ⟨_, rfl, _, rfl, _, rfl, D, _, rfl, get1, va1, _, _, _, rfl, rfl, SqT.of hva1, pickN (by decide) rfl, ?_⟩
      refine ⟨.ref vb1, p1, Pl.spans.length, rfl, .tup hvb1 dvb1, by omega, ho1, fun q9 H9 S9 d9 hl9 he9 => ?_⟩
      generalize hr9 : backR p1 = r9 at d9 hl9 he9
      refine cat_pairs (r1 := r8) (r2 := r9) (dr8.same S9) d9 (by omega) fun q10 H10 S10 d10 => ?_
      have S810 := S9.trans S10
      have get2 : DGet H10 D (.int e1.a) (some (.ref va2)) := by
        have := DGet.k (k := (.inl e1.a : Key)) (S810 _ _ hD8)
        rw [hv2] at this
        exact this
      refine ⟨_, rfl, _, rfl, D, _, rfl, get2, va2, _, _, _, rfl, rfl, SqT.of (S810 _ _ hva2), pickN (by decide) rfl, ?_⟩
      refine cat_pairs (r1 := r8 ++ r9) (r2 := p2) d10 (.tup (S810 _ _ hvb2) (dvb2.same S810)) (by rw [List.length_append]; omega) fun q11 H11 S11 d11 => ?_
      refine k q11 _ H11 ((F8.same (S810.trans S11)).mono (by omega)) ((Sm.same S04).trans (S8.trans (Sm.same (S810.trans S11)))) d11 (by rw [List.length_append, List.length_append]; omega) (fun e he => ?_) ⟨e1.a, ?_⟩
      rotate_left
      · have w9 := w1.back
        rw [hr9, rl8] at w9
        exact (wk8.append w9).append w2
      rcases List.mem_append.mp he with z | z
      · rcases List.mem_append.mp z with z | z
        · exact he8 e z
        · exact he9 e z
      · exact ho2 e z
theorem sc_law_some_prices : FnScope ["_law_feed", "_law_plan", "_law_found", "_law_k", "_law_price"] ["_law_feed", "_law_plan"] (defScope s_law_some_prices) := ⟨rfl, rfl, rfl, by decide +kernel, rfl, by decide +kernel, by decide +kernel⟩
theorem ok_law_some_prices {f : Addr} {fd : FuncData} (F : Fun K "_law_some_prices" "_law_some_prices" s_law_some_prices f fd) (T : Txt mg) (D_law_draw : Def P w K mg base 1 "_law_draw" ["_law_feed", "_law_many"] sp_drawB) (D_law_walk : Def P w K mg base 2 "_law_walk" ["_law_feed", "_law_plan"] (sp_walk K)) : FnOk P w K mg base CX0 3 f fd ["_law_feed", "_law_plan"] (sp_some_prices K) := by
  refine F.ok sc_law_some_prices (fun vs H Q E h => ?_) (fun cdv A outer s H vs Q E hr h => ?_)
  · obtain ⟨f, c, x, Pl, works, n, rfl, _⟩ := h
    rfl
  · obtain ⟨f, c, x, Pl, works, n, rfl, hx, okp, hw8, hF, hn, k⟩ := h
    have hN : nMax = 1000000000000 := rfl
    obtain ⟨p, pn, pp, xs, rfl, e, e1, e2, rr⟩ := plan_at hx
    have hxl : xs.length = Pl.spans.length := by rw [rr.length, List.length_map]
    refine ⟨_, (@pss_cons _ _ _ _ _ (@ps_set _ _ 2 _ _ _ _ sc_law_some_prices.nd rfl (Or.inl rfl) (@pe_lst _ _ _ _ (@pa_nil _)) (by rfl) (by first | exact Or.inl rfl | exact Or.inr rfl | assumption)) (@pss_cons _ _ _ _ _ (@ps_for _ _ _ _ _ _ _ _ PassesOwn.never rfl (@pi_range1 _ _ _ _ _ _ rfl T.n_range (@pa_bin _ _ _ _ _ _ _ _ (@pe_op _ _ _ _ _ _ _ _ op_mul (@pe_ix _ _ _ _ _ _ _ ix_list (@pe_lst _ _ _ _ (@pa_const _ _ _ _ _ _ _ (@pe_int _ _ _ _) (@pa_const _ _ _ _ _ _ _ (@pe_int _ _ _ _) (@pa_const _ _ _ _ _ _ _ (@pe_int _ _ _ _) (@pa_const _ _ _ _ _ _ _ (@pe_int _ _ _ _) (@pa_const _ _ _ _ _ _ _ (@pe_int _ _ _ _) (@pa_const _ _ _ _ _ _ _ (@pe_int _ _ _ _) (@pa_nil _)))))))) (@pe_own _ _ _ _ _ _ _ _ _ _ D_law_draw (hr.mono (by decide)) rfl (@pa_name _ _ _ _ _ _ (@pv _ 0 _ _ rfl (Or.inl rfl) (by decide) (by decide)) (@pa_const _ _ _ _ _ _ _ (@pe_int _ _ _ _) (@pa_nil _))) (by decide) (by rfl) (by rfl)) (fun _ _ => rfl)) (@pe_callTy _ _ _ _ _ _ _ _ _ call_int1 rfl T.n_int PyProof.Rows.boot_int (@pa_cmp _ _ _ _ _ _ _ _ (@pe_cmpR _ _ _ _ _ _ _ _ (op_ne_nilT hr) (@pe_ix _ _ _ _ _ _ _ ix_tup (@pv _ 1 _ _ rfl (Or.inl rfl) (by decide) (by decide)) (@pe_int _ _ _ _) (fun _ _ => rfl)) (@pe_tup _ _ _ _ _ (@pa_nil _)) (nomark _)) (@pa_nil _)) (by decide) (by decide) (by rfl) (by rfl))) (@pa_nil _)) (by rfl)) (@pg_name _ _ 3 _ sc_law_some_prices.nd rfl (Or.inl rfl) (by first | exact Or.inl rfl | exact Or.inr rfl | assumption)) (@pss_cons _ _ _ _ _ (@ps_set _ _ 4 _ _ _ _ sc_law_some_prices.nd rfl (Or.inl rfl) (@pe_ix _ _ _ _ _ _ _ ix_list (@pe_lst _ _ _ _ (@pa_const _ _ _ _ _ _ _ (@pe_int _ _ _ _) (@pa_bin _ _ _ _ _ _ _ _ (@pe_op _ _ _ _ _ _ _ _ op_add (@pe_int _ _ _ _) (@pe_own _ _ _ _ _ _ _ _ _ _ D_law_draw (hr.mono (by decide)) rfl (@pa_name _ _ _ _ _ _ (@pv _ 0 _ _ rfl (Or.inl rfl) (by decide) (by decide)) (@pa_const _ _ _ _ _ _ _ (@pe_int _ _ _ _) (@pa_nil _))) (by decide) (by rfl) (by rfl))) (@pa_bin _ _ _ _ _ _ _ _ (@pe_op _ _ _ _ _ _ _ _ op_add (@pe_int _ _ _ _) (@pe_own _ _ _ _ _ _ _ _ _ _ D_law_draw (hr.mono (by decide)) rfl (@pa_name _ _ _ _ _ _ (@pv _ 0 _ _ rfl (Or.inl rfl) (by decide) (by decide)) (@pa_const _ _ _ _ _ _ _ (@pe_int _ _ _ _) (@pa_nil _))) (by decide) (by rfl) (by rfl))) (@pa_const _ _ _ _ _ _ _ (@pe_int _ _ _ _) (@pa_nil _)))))) (@pe_own _ _ _ _ _ _ _ _ _ _ D_law_draw (hr.mono (by decide)) rfl (@pa_name _ _ _ _ _ _ (@pv _ 0 _ _ rfl (Or.inl rfl) (by decide) (by decide)) (@pa_const _ _ _ _ _ _ _ (@pe_int _ _ _ _) (@pa_nil _))) (by decide) (by rfl) (by rfl)) (fun _ _ => rfl)) (by rfl) (by first | exact Or.inl rfl | exact Or.inr rfl | assumption)) (@pss_one _ _ _ (@ps_expr _ _ _ _ (@pe_bm _ _ _ _ _ _ _ _ _ _ _ _ PySem.F.plainAttrs_list PySem.F.slot_list_append PySem.F.type_list_append mt_append (@pv _ 2 _ _ rfl (Or.inl rfl) (by decide) (by decide)) (@pa_tup _ _ _ _ _ _ _ (@pe_tup _ _ _ _ _ (@pa_name _ _ _ _ _ _ (@pv _ 4 _ _ rfl (Or.inl rfl) (by decide) (by decide)) (@pa_call _ _ _ _ _ _ _ _ (@pe_own _ _ _ _ _ _ _ _ _ _ D_law_walk (hr.mono (by decide)) rfl (@pa_name _ _ _ _ _ _ (@pv _ 0 _ _ rfl (Or.inl rfl) (by decide) (by decide)) (@pa_name _ _ _ _ _ _ (@pv _ 1 _ _ rfl (Or.inl rfl) (by decide) (by decide)) (@pa_nil _))) (by decide) (by rfl) (by rfl)) (@pa_nil _)))) (@pa_nil _)) (by rfl) (by rfl) (by rfl) (by rfl) (by rfl)) (by rfl)))) (by intro _ ; rfl)) (@pss_one _ _ _ (@ps_ret _ _ _ _ (@pe_callTy _ _ _ _ _ _ _ _ _ call_tuple_of rfl T.n_tuple PyProof.Rows.boot_tuple (@pa_name _ _ _ _ _ _ (@pv _ 2 _ _ rfl (Or.inl rfl) (by decide) (by decide)) (@pa_nil _)) (by decide) (by decide) (by rfl) (by rfl)))))), ?_⟩
    refine ⟨by show 0 ≤ sizeLine; decide, fun L hL => ?_⟩
    have awL := hF.away hL
    refine ⟨by show 6 ≤ sizeLine; decide, fun p1 hp1 => ?_⟩
    refine ⟨_, rfl, f, c, _, _, rfl, by decide, by decide, (hF.new hL).new hp1, by omega, fun r1 H1 a1 b1 F1 S1 => ?_⟩
    obtain ⟨v1, hv1, cnt, rfl, hc1, hc2⟩ := pickI (xs := [.int 0, .int 1, .int 2, .int 3, .int 5, .int 24]) (fun v => ∃ z : Int, v = .int z ∧ 0 ≤ z ∧ z ≤ 24) a1 b1 (by
      intro x hx
      simp only [List.mem_cons, List.not_mem_nil, or_false] at hx
      rcases hx with rfl | rfl | rfl | rfl | rfl | rfl <;> exact ⟨_, rfl, by omega, by omega⟩)
    refine ⟨p1, _, _, _, rfl, rfl, SqL.of (S1 p1 _ ((hF.new hL).away hp1).1 upd_same), hv1, ?_⟩
    have s01 : Same H (upd (upd H L (.lst [])) p1 (.lst [.int 0, .int 1, .int 2, .int 3, .int 5, .int 24])) := (Same.new hL).trans (Same.new hp1)
    have S01 : Sm f H H1 := (Sm.same s01).trans S1
    have T1 := hF.tk S01
    have hL1 : H1 L = some (.lst []) := S1 L _ awL.1 (Same.new hp1 _ _ upd_same)
    refine ⟨_, rfl, p, _, _, _, rfl, rfl, SqT.of (T1 _ _ e), pickN (by decide) rfl, by show 0 ≤ sizeLine; decide, fun t2 ht2 => ?_⟩
    have s2 := Same.new (o := .tup []) ht2
    refine ⟨pp, t2, xs, rfl, rfl, SqT.of (s2 _ _ (T1 _ _ e2)), SqT.of upd_same, .inr ⟨_, rfl, _, _, rfl, rfl, .inl ⟨by omega, by omega⟩, _, rfl, ?_, ?_, ?_⟩⟩
    · show _ ≤ cnt * (if (!xs.isEmpty) = true then 1 else 0)
      split <;> omega
    · show cnt * (if (!xs.isEmpty) = true then 1 else 0) < _
      split <;> omega
    have hcn : (cnt * (if (!xs.isEmpty) = true then 1 else 0)).toNat ≤ 24 := by split <;> omega
    have S02 : Sm f H (upd H1 t2 (.tup [])) := S01.trans (Sm.new ht2)
    have F2 := F1.new (o := .tup []) ht2
    have hL2 := s2 _ _ hL1
    have T2 := hF.tk S02
    revert S02 F2 hL2 T2
    generalize upd H1 t2 (.tup []) = H2
    intro S02 F2 hL2 T2
    refine for_range (lo := 0) (n := (cnt * (if (!xs.isEmpty) = true then 1 else 0)).toNat) (fun i σ H3 => ∃ o3 o4, σ = [some (.ref f), some (.ref p), some (.ref L), o3, o4] ∧ FeedB H3 f c (n + 2 + 20 * i) ∧ Sm f H H3 ∧ TK H H3 ∧ ∃ (ys : List V) (ps : List (Int × List (Int × Int))), H3 L = some (.lst ys) ∧ DVs K H3 ys (ps.map priceD) ∧ ps.length = i ∧ (∀ q ∈ ps, (1 ≤ q.1 ∧ q.1 ≤ 999) ∧ q.2.length ≤ 100 ∧ ∀ e ∈ q.2, EntOk Pl.spans.length e) ∧ ∀ p ∈ ps, ∃ a, Walk Pl.spans a p.2 a)
      ⟨_, _, rfl, F2.mono (by omega), S02, T2, [], [], hL2, .nil, rfl, fun _ h => (nomatch h), fun _ h => (nomatch h)⟩ ?_ ?_
    · rintro i σ H3 hi ⟨o3, o4, rfl, F3, S3, T3, ys, ps, hL3, dv3, hpl, hpe, hcl3⟩
      have hpos : 0 < Pl.spans.length := by
        cases hxs : xs with
        | nil => rw [hxs] at hi; simp at hi
        | cons y r => rw [← hxl, hxs]; simp
      have hyl : ys.length = i := by rw [dv3.length, List.length_map, hpl]
      refine ⟨_, rfl, f, c, _, _, rfl, by decide, by decide, F3, by omega, fun r4 H4 a4 b4 F4 S4 => ⟨_, _, rfl, rfl, ?_⟩⟩
      refine ⟨_, rfl, f, c, _, _, rfl, by decide, by decide, F4, by omega, fun r5 H5 a5 b5 F5 S5 => ⟨_, _, rfl, rfl, ?_⟩⟩
      refine ⟨by show 4 ≤ sizeLine; decide, fun p6 hp6 => ?_⟩
      refine ⟨_, rfl, f, c, _, _, rfl, by decide, by decide, F5.new hp6, by omega, fun r6 H6 a6 b6 F6 S6 => ?_⟩
      obtain ⟨v6, hv6, price, rfl, hq1, hq2⟩ := pickI (xs := [.int 1, .int (1 + r4), .int (1 + r5), .int 999]) (fun v => ∃ z : Int, v = .int z ∧ 1 ≤ z ∧ z ≤ 999) a6 b6 (by
        intro x hx
        simp only [List.mem_cons, List.not_mem_nil, or_false] at hx
        rcases hx with rfl | rfl | rfl | rfl <;> exact ⟨_, rfl, by omega, by omega⟩)
      refine ⟨p6, _, _, _, rfl, rfl, SqL.of (S6 p6 _ (F5.away hp6).1 upd_same), hv6, ?_⟩
      have S36 : Sm f H3 H6 := S4.trans (S5.trans ((Sm.new hp6).trans S6))
      have T36 := F3.tk S36
      try simp only [List.set_cons_zero, List.set_cons_succ]
      refine ⟨_, rfl, .inl ⟨rfl, _, SqL.of (S36 L _ awL.1 hL3)⟩, ?_⟩
      refine ⟨_, rfl, _, rfl, _, rfl, f, c, .ref p, Pl, works, _, rfl, hx.tk (T3.trans T36) (noL_plan _), okp, hw8, hpos, F6, by omega, fun q r H7 F7 S7 dq hrl hre hcl => ⟨by show 2 ≤ sizeLine; decide, fun t8 ht8 => ?_⟩⟩
      have q8 := Same.new (o := .tup [.int price, .ref q]) ht8
      have S38 : Sm f H3 (upd H7 t8 (.tup [.int price, .ref q])) := S36.trans (S7.trans (Sm.new ht8))
      have hL8 := S38 L _ awL.1 hL3
      refine ⟨L, ys, _, rfl, rfl, hL8, by rw [hyl]; exact Nat.lt_of_lt_of_le hi (Nat.le_trans hcn (by decide)), ?_⟩
      have u := TK.updL (ys := ys ++ [.ref t8]) hL8
      refine ⟨_, _, rfl, ((F7.new ht8).off awL.1 awL.2).mono (by omega), (S3.trans S38).acc hL, (T3.trans (F3.tk S38)).trans u, _, ps ++ [(price, r)], upd_same, ?_, by rw [List.length_append, hpl]; rfl, fun y hy => ?_, fun y hy => ?_⟩
      · rw [List.map_append]
        exact ((dv3.tk (F3.tk S38) (noLs_prices _)).tk u (noLs_prices _)).append (.cons (.tup (u t8 _ upd_same) (.cons (.int _) (.cons ((dq.same q8).tk u (noL_pairs _)) .nil))) .nil)
      · rcases List.mem_append.mp hy with z | z
        · exact hpe y z
        · rw [List.mem_singleton.mp z]; exact ⟨⟨hq1, hq2⟩, hrl, hre⟩
      · rcases List.mem_append.mp hy with z | z
        · exact hcl3 y z
        · rw [List.mem_singleton.mp z]; exact hcl
    · rintro σ H3 ⟨o3, o4, rfl, F3, S3, T3, ys, ps, hL3, dv3, hpl, hpe, hcl3⟩
      refine ⟨_, rfl, L, _, rfl, .inl ⟨SqL.of hL3, fun l hl => ?_⟩⟩
      exact k l ps _ ((F3.new hl).mono (by omega)) (S3.trans (Sm.new hl)) (.tup upd_same (dv3.tk (TK.new hl) (noLs_prices _))) ⟨by omega, hpe⟩ hcl3
end

section
variable {P : Program} {w : World} {K : PySem.W.Frag} {mg : Str → Option Value} {base : Heap}
theorem sc_law_shape : FnScope ["_law_feed", "_law_near", "_law_works", "_law_most"] ["_law_feed"] (defScope s_law_shape) := ⟨rfl, rfl, rfl, by decide +kernel, rfl, by decide +kernel, by decide +kernel⟩
theorem ok_law_shape {f : Addr} {fd : FuncData} (F : Fun K "_law_shape" "_law_shape" s_law_shape f fd) (T : Txt mg) (D_law_draw : Def P w K mg base 1 "_law_draw" ["_law_feed", "_law_many"] sp_drawB) : FnOk P w K mg base CX0 2 f fd ["_law_feed"] sp_shape := by
  refine F.ok sc_law_shape (fun vs H Q E h => ?_) (fun cdv A outer s H vs Q E hr h => ?_)
  · obtain ⟨f, c, n, rfl, _⟩ := h
    rfl
  · obtain ⟨f, c, n, rfl, hF, hn, k⟩ := h
    have hN : nMax = 1000000000000 := rfl
    refine ⟨_, (@pss_cons _ _ _ _ _ (@ps_set _ _ 1 _ _ _ _ sc_law_shape.nd rfl (Or.inl rfl) (@pe_lst _ _ _ _ (@pa_tup _ _ _ _ _ _ _ (@pe_tup _ _ _ _ _ (@pa_const _ _ _ _ _ _ _ (@pe_int _ _ _ _) (@pa_const _ _ _ _ _ _ _ (@pe_int _ _ _ _) (@pa_nil _)))) (@pa_tup _ _ _ _ _ _ _ (@pe_tup _ _ _ _ _ (@pa_const _ _ _ _ _ _ _ (@pe_int _ _ _ _) (@pa_const _ _ _ _ _ _ _ (@pe_int _ _ _ _) (@pa_nil _)))) (@pa_tup _ _ _ _ _ _ _ (@pe_tup _ _ _ _ _ (@pa_const _ _ _ _ _ _ _ (@pe_int _ _ _ _) (@pa_const _ _ _ _ _ _ _ (@pe_int _ _ _ _) (@pa_nil _)))) (@pa_tup _ _ _ _ _ _ _ (@pe_tup _ _ _ _ _ (@pa_const _ _ _ _ _ _ _ (@pe_int _ _ _ _) (@pa_const _ _ _ _ _ _ _ (@pe_int _ _ _ _) (@pa_nil _)))) (@pa_tup _ _ _ _ _ _ _ (@pe_tup _ _ _ _ _ (@pa_const _ _ _ _ _ _ _ (@pe_int _ _ _ _) (@pa_const _ _ _ _ _ _ _ (@pe_int _ _ _ _) (@pa_nil _)))) (@pa_tup _ _ _ _ _ _ _ (@pe_tup _ _ _ _ _ (@pa_const _ _ _ _ _ _ _ (@pe_int _ _ _ _) (@pa_const _ _ _ _ _ _ _ (@pe_int _ _ _ _) (@pa_nil _)))) (@pa_tup _ _ _ _ _ _ _ (@pe_tup _ _ _ _ _ (@pa_const _ _ _ _ _ _ _ (@pe_int _ _ _ _) (@pa_const _ _ _ _ _ _ _ (@pe_int _ _ _ _) (@pa_nil _)))) (@pa_tup _ _ _ _ _ _ _ (@pe_tup _ _ _ _ _ (@pa_const _ _ _ _ _ _ _ (@pe_int _ _ _ _) (@pa_const _ _ _ _ _ _ _ (@pe_int _ _ _ _) (@pa_nil _)))) (@pa_nil _)))))))))) (by rfl) (by first | exact Or.inl rfl | exact Or.inr rfl | assumption)) (@pss_cons _ _ _ _ _ (@ps_if _ _ _ _ _ _ _ _ (@pt_cmpR _ _ _ _ _ _ _ _ op_eq (@pe_own _ _ _ _ _ _ _ _ _ _ D_law_draw (hr.mono (by decide)) rfl (@pa_name _ _ _ _ _ _ (@pv _ 0 _ _ rfl (Or.inl rfl) (by decide) (by decide)) (@pa_const _ _ _ _ _ _ _ (@pe_int _ _ _ _) (@pa_nil _))) (by decide) (by rfl) (by rfl)) (@pe_int _ _ _ _) (nomark _)) (@pss_one _ _ _ (@ps_ret _ _ _ _ (@pe_ix _ _ _ _ _ _ _ ix_list (@pv _ 1 _ _ rfl (Or.inl rfl) (by decide) (by decide)) (@pe_own _ _ _ _ _ _ _ _ _ _ D_law_draw (hr.mono (by decide)) rfl (@pa_name _ _ _ _ _ _ (@pv _ 0 _ _ rfl (Or.inl rfl) (by decide) (by decide)) (@pa_const _ _ _ _ _ _ _ (@pe_int _ _ _ _) (@pa_nil _))) (by decide) (by rfl) (by rfl)) (fun _ _ => rfl)))) (@pss_nil _)) (@pss_cons _ _ _ _ _ (@ps_set _ _ 2 _ _ _ _ sc_law_shape.nd rfl (Or.inl rfl) (@pe_ix _ _ _ _ _ _ _ ix_list (@pe_lst _ _ _ _ (@pa_const _ _ _ _ _ _ _ (@pe_int _ _ _ _) (@pa_const _ _ _ _ _ _ _ (@pe_int _ _ _ _) (@pa_const _ _ _ _ _ _ _ (@pe_int _ _ _ _) (@pa_const _ _ _ _ _ _ _ (@pe_int _ _ _ _) (@pa_const _ _ _ _ _ _ _ (@pe_int _ _ _ _) (@pa_const _ _ _ _ _ _ _ (@pe_int _ _ _ _) (@pa_const _ _ _ _ _ _ _ (@pe_int _ _ _ _) (@pa_const _ _ _ _ _ _ _ (@pe_int _ _ _ _) (@pa_nil _)))))))))) (@pe_own _ _ _ _ _ _ _ _ _ _ D_law_draw (hr.mono (by decide)) rfl (@pa_name _ _ _ _ _ _ (@pv _ 0 _ _ rfl (Or.inl rfl) (by decide) (by decide)) (@pa_const _ _ _ _ _ _ _ (@pe_int _ _ _ _) (@pa_nil _))) (by decide) (by rfl) (by rfl)) (fun _ _ => rfl)) (by rfl) (by first | exact Or.inl rfl | exact Or.inr rfl | assumption)) (@pss_cons _ _ _ _ _ (@ps_set _ _ 3 _ _ _ _ sc_law_shape.nd rfl (Or.inl rfl) (@pe_ix _ _ _ _ _ _ _ ix_list (@pe_lst _ _ _ _ (@pa_const _ _ _ _ _ _ _ (@pe_int _ _ _ _) (@pa_const _ _ _ _ _ _ _ (@pe_int _ _ _ _) (@pa_const _ _ _ _ _ _ _ (@pe_int _ _ _ _) (@pa_const _ _ _ _ _ _ _ (@pe_int _ _ _ _) (@pa_const _ _ _ _ _ _ _ (@pe_int _ _ _ _) (@pa_nil _))))))) (@pe_op _ _ _ _ _ _ _ _ op_sub (@pv _ 2 _ _ rfl (Or.inl rfl) (by decide) (by decide)) (@pe_int _ _ _ _)) (fun _ _ => rfl)) (by rfl) (by first | exact Or.inl rfl | exact Or.inr rfl | assumption)) (@pss_one _ _ _ (@ps_ret _ _ _ _ (@pe_tup _ _ _ _ _ (@pa_name _ _ _ _ _ _ (@pv _ 2 _ _ rfl (Or.inl rfl) (by decide) (by decide)) (@pa_sub _ _ _ _ _ _ _ (@pe_ix _ _ _ _ _ _ _ ix_list (@pe_lst _ _ _ _ (@pa_bin _ _ _ _ _ _ _ _ (@pe_op _ _ _ _ _ _ _ _ op_add (@pe_int _ _ _ _) (@pe_own _ _ _ _ _ _ _ _ _ _ D_law_draw (hr.mono (by decide)) rfl (@pa_name _ _ _ _ _ _ (@pv _ 0 _ _ rfl (Or.inl rfl) (by decide) (by decide)) (@pa_name _ _ _ _ _ _ (@pv _ 3 _ _ rfl (Or.inl rfl) (by decide) (by decide)) (@pa_nil _))) (by decide) (by rfl) (by rfl))) (@pa_bin _ _ _ _ _ _ _ _ (@pe_op _ _ _ _ _ _ _ _ op_add (@pe_int _ _ _ _) (@pe_own _ _ _ _ _ _ _ _ _ _ D_law_draw (hr.mono (by decide)) rfl (@pa_name _ _ _ _ _ _ (@pv _ 0 _ _ rfl (Or.inl rfl) (by decide) (by decide)) (@pa_call _ _ _ _ _ _ _ _ (@pe_callB _ _ _ _ _ _ _ _ _ (call_min2 rfl) rfl T.n_min PyProof.Rows.boot_min (@pa_name _ _ _ _ _ _ (@pv _ 3 _ _ rfl (Or.inl rfl) (by decide) (by decide)) (@pa_const _ _ _ _ _ _ _ (@pe_int _ _ _ _) (@pa_nil _))) (by decide) (by decide) (by rfl) (by rfl)) (@pa_nil _))) (by decide) (by rfl) (by rfl))) (@pa_nil _)))) (@pe_own _ _ _ _ _ _ _ _ _ _ D_law_draw (hr.mono (by decide)) rfl (@pa_name _ _ _ _ _ _ (@pv _ 0 _ _ rfl (Or.inl rfl) (by decide) (by decide)) (@pa_const _ _ _ _ _ _ _ (@pe_int _ _ _ _) (@pa_nil _))) (by decide) (by rfl) (by rfl)) (fun _ _ => rfl)) (@pa_nil _)))))))))), ?_⟩
    refine ⟨by show 2 ≤ sizeLine; decide, fun t1 h1 => ⟨by show 2 ≤ sizeLine; decide, fun t2 h2 => ⟨by show 2 ≤ sizeLine; decide, fun t3 h3 => ⟨by show 2 ≤ sizeLine; decide, fun t4 h4 => ⟨by show 2 ≤ sizeLine; decide, fun t5 h5 => ⟨by show 2 ≤ sizeLine; decide, fun t6 h6 => ⟨by show 2 ≤ sizeLine; decide, fun t7 h7 => ⟨by show 2 ≤ sizeLine; decide, fun t8 h8 => ⟨by show 8 ≤ sizeLine; decide, fun L hL => ?_⟩⟩⟩⟩⟩⟩⟩⟩⟩
    have q2 := Same.new (o := .tup [.int 3, .int 17]) h2
    have q3 := Same.new (o := .tup [.int 4, .int 6]) h3
    have q4 := Same.new (o := .tup [.int 5, .int 4]) h4
    have q5 := Same.new (o := .tup [.int 6, .int 3]) h5
    have q6 := Same.new (o := .tup [.int 7, .int 2]) h6
    have q7 := Same.new (o := .tup [.int 8, .int 2]) h7
    have q8 := Same.new (o := .tup [.int 2, .int 299]) h8
    have q9 := Same.new (o := .lst [.ref t1, .ref t2, .ref t3, .ref t4, .ref t5, .ref t6, .ref t7, .ref t8]) hL
    have r8 := q8.trans q9
    have r7 := q7.trans r8
    have r6 := q6.trans r7
    have r5 := q5.trans r6
    have r4 := q4.trans r5
    have r3 := q3.trans r4
    have r2 := q2.trans r3
    have g1 := r2 t1 _ upd_same
    have g2 := r3 t2 _ upd_same
    have g3 := r4 t3 _ upd_same
    have g4 := r5 t4 _ upd_same
    have g5 := r6 t5 _ upd_same
    have g6 := r7 t6 _ upd_same
    have g7 := r8 t7 _ upd_same
    have g8 := q9 t8 _ upd_same
    have s0 := (Same.new (o := .tup [.int 2, .int 300]) h1).trans r2
    have hLL := upd_same (H := upd (upd (upd (upd (upd (upd (upd (upd H t1 (.tup [.int 2, .int 300])) t2 (.tup [.int 3, .int 17])) t3 (.tup [.int 4, .int 6])) t4 (.tup [.int 5, .int 4])) t5 (.tup [.int 6, .int 3])) t6 (.tup [.int 7, .int 2])) t7 (.tup [.int 8, .int 2])) t8 (.tup [.int 2, .int 299])) (a := L) (o := .lst [.ref t1, .ref t2, .ref t3, .ref t4, .ref t5, .ref t6, .ref t7, .ref t8])
    revert g1 g2 g3 g4 g5 g6 g7 g8 s0 hLL
    generalize upd (upd (upd (upd (upd (upd (upd (upd (upd H t1 (.tup [.int 2, .int 300])) t2 (.tup [.int 3, .int 17])) t3 (.tup [.int 4, .int 6])) t4 (.tup [.int 5, .int 4])) t5 (.tup [.int 6, .int 3])) t6 (.tup [.int 7, .int 2])) t7 (.tup [.int 8, .int 2])) t8 (.tup [.int 2, .int 299])) L (.lst [.ref t1, .ref t2, .ref t3, .ref t4, .ref t5, .ref t6, .ref t7, .ref t8]) = H1
    intro g1 g2 g3 g4 g5 g6 g7 g8 s0 hLL
    have F1 := hF.same s0
    have hLf : L ≠ f := by
      obtain ⟨kv, e⟩ := F1.some
      exact ne_of hLL e (by intro z; cases z)
    refine ⟨_, rfl, f, c, _, _, rfl, by decide, by decide, F1, by omega, fun r2' H2 a2 b2 F2 S2 => ⟨rfl, _, rfl, ite2 (fun _ => ?_) (fun _ => ?_)⟩⟩
    · refine ⟨_, rfl, _, rfl, f, c, _, _, rfl, by decide, by decide, F2, by omega, fun r3' H3 a3 b3 F3 S3 => ?_⟩
      have T3 : TK H1 H3 := F1.tk (S2.trans S3)
      obtain ⟨v, hv, t, wk, cy, rfl, ht, c1, c2, c3, c4, c5⟩ := pickI (xs := [.ref t1, .ref t2, .ref t3, .ref t4, .ref t5, .ref t6, .ref t7, .ref t8]) (fun v => ∃ (t : Addr) (wk cy : Int), v = .ref t ∧ H3 t = some (.tup [.int wk, .int cy]) ∧ 1 ≤ wk ∧ wk ≤ 8 ∧ 1 ≤ cy ∧ cy ≤ 300 ∧ cy.toNat ^ wk.toNat ≤ 100000) a3 b3 (by
        intro x hx
        simp only [List.mem_cons, List.not_mem_nil, or_false] at hx
        rcases hx with rfl | rfl | rfl | rfl | rfl | rfl | rfl | rfl
        · exact ⟨_, _, _, rfl, T3 _ _ g1, by decide, by decide, by decide, by decide, by decide⟩
        · exact ⟨_, _, _, rfl, T3 _ _ g2, by decide, by decide, by decide, by decide, by decide⟩
        · exact ⟨_, _, _, rfl, T3 _ _ g3, by decide, by decide, by decide, by decide, by decide⟩
        · exact ⟨_, _, _, rfl, T3 _ _ g4, by decide, by decide, by decide, by decide, by decide⟩
        · exact ⟨_, _, _, rfl, T3 _ _ g5, by decide, by decide, by decide, by decide, by decide⟩
        · exact ⟨_, _, _, rfl, T3 _ _ g6, by decide, by decide, by decide, by decide, by decide⟩
        · exact ⟨_, _, _, rfl, T3 _ _ g7, by decide, by decide, by decide, by decide, by decide⟩
        · exact ⟨_, _, _, rfl, T3 _ _ g8, by decide, by decide, by decide, by decide, by decide⟩)
      refine ⟨L, _, _, _, rfl, rfl, SqL.of (S3 L _ hLf (S2 L _ hLf hLL)), hv, ?_⟩
      exact k t wk cy H3 (F3.mono (by omega)) ((Sm.same s0).trans (S2.trans S3)) ht c1 c2 c3 c4 c5
    · -- works
      refine ⟨by show 8 ≤ sizeLine; decide, fun p3 hp3 => ?_⟩
      refine ⟨_, rfl, f, c, _, _, rfl, by decide, by decide, F2.new hp3, by omega, fun r4' H4 a4 b4 F4 S4 => ?_⟩
      obtain ⟨v, hv, wk, rfl, w1, w2⟩ := pickI (xs := [.int 2, .int 3, .int 3, .int 4, .int 2, .int 4, .int 5, .int 1]) (fun v => ∃ z : Int, v = .int z ∧ 1 ≤ z ∧ z ≤ 5) a4 b4 (by
        intro x hx
        simp only [List.mem_cons, List.not_mem_nil, or_false] at hx
        rcases hx with rfl | rfl | rfl | rfl | rfl | rfl | rfl | rfl <;> exact ⟨_, rfl, by omega, by omega⟩)
      refine ⟨p3, _, _, _, rfl, rfl, SqL.of (S4 p3 _ (F2.away hp3).1 upd_same), hv, ?_⟩
      try simp only [List.set_cons_zero, List.set_cons_succ]
      refine ⟨by show 5 ≤ sizeLine; decide, fun p5 hp5 => ⟨_, rfl, _, _, rfl, rfl, ?_⟩⟩
      obtain ⟨v5, hv5, most, rfl, m1, m2, m3⟩ : ∃ v, atI [V.int 60, .int 60, .int 12, .int 6, .int 4] (wk - 1) = some v ∧ ∃ z : Int, v = .int z ∧ 1 ≤ z ∧ z ≤ 60 ∧ ∀ cy : Int, 1 ≤ cy → cy ≤ z → cy.toNat ^ wk.toNat ≤ 100000 := by
        have hw : wk = 1 ∨ wk = 2 ∨ wk = 3 ∨ wk = 4 ∨ wk = 5 := by omega
        have mono : ∀ (cy : Int) (z m : Nat), cy ≤ (z : Int) → z ^ m ≤ 100000 → cy.toNat ^ m ≤ 100000 := fun cy z m h1 h2 => Nat.le_trans (Nat.pow_le_pow_left (by omega) m) h2
        rcases hw with rfl | rfl | rfl | rfl | rfl
        · exact ⟨_, rfl, 60, rfl, by decide, by decide, fun cy _ h => mono cy 60 1 h (by decide)⟩
        · exact ⟨_, rfl, 60, rfl, by decide, by decide, fun cy _ h => mono cy 60 2 h (by decide)⟩
        · exact ⟨_, rfl, 12, rfl, by decide, by decide, fun cy _ h => mono cy 12 3 h (by decide)⟩
        · exact ⟨_, rfl, 6, rfl, by decide, by decide, fun cy _ h => mono cy 6 4 h (by decide)⟩
        · exact ⟨_, rfl, 4, rfl, by decide, by decide, fun cy _ h => mono cy 4 5 h (by decide)⟩
      refine ⟨p5, _, _, _, rfl, rfl, SqL.of upd_same, hv5, ?_⟩
      have S25 := S2.trans ((Sm.new hp3).trans (S4.trans (Sm.new (o := .lst [.int 60, .int 60, .int 12, .int 6, .int 4]) hp5)))
      try simp only [List.set_cons_zero, List.set_cons_succ]
      refine ⟨_, rfl, _, rfl, _, rfl, f, c, _, _, rfl, by omega, by omega, F4.new hp5, by omega, fun r6 H6 a6 b6 F6 S6 => ⟨_, _, rfl, rfl, ?_⟩⟩
      refine ⟨_, rfl, _, rfl, _, _, rfl, f, c, _, _, rfl, by split <;> omega, by split <;> omega, F6, by omega, fun r7 H7 a7 b7 F7 S7 => ⟨_, _, rfl, rfl, ?_⟩⟩
      have b7 : r7 < most := by split at b7 <;> omega
      refine ⟨by show 2 ≤ sizeLine; decide, fun p8 hp8 => ?_⟩
      refine ⟨_, rfl, f, c, _, _, rfl, by decide, by decide, F7.new hp8, by omega, fun r9 H9 a9 b9 F9 S9 => ?_⟩
      obtain ⟨v9, hv9, cy, rfl, y1, y2⟩ := pickI (xs := [.int (1 + r6), .int (1 + r7)]) (fun v => ∃ z : Int, v = .int z ∧ 1 ≤ z ∧ z ≤ most) a9 b9 (by
        intro x hx
        simp only [List.mem_cons, List.not_mem_nil, or_false] at hx
        rcases hx with rfl | rfl <;> exact ⟨_, rfl, by omega, by omega⟩)
      refine ⟨p8, _, _, _, rfl, rfl, SqL.of (S9 p8 _ (F7.away hp8).1 upd_same), hv9, by show 2 ≤ sizeLine; decide, fun t ht => ?_⟩
      exact k t wk cy _ ((F9.new ht).mono (by omega)) ((Sm.same s0).trans (S25.trans (S6.trans (S7.trans ((Sm.new hp8).trans (S9.trans (Sm.new ht))))))) upd_same w1 (by omega) y1 (by omega) (m3 cy y1 y2)
theorem sc_law_with : FnScope ["_law_windows", "_law_s", "_law_least", "_law_most"] ["_law_windows", "_law_s", "_law_least", "_law_most"] (defScope s_law_with) := ⟨rfl, rfl, rfl, by decide +kernel, rfl, by decide +kernel, by decide +kernel⟩
theorem ok_law_with {f : Addr} {fd : FuncData} (F : Fun K "_law_with" "_law_with" s_law_with f fd) (T : Txt mg) : FnOk P w K mg base CX0 1 f fd ["_law_windows", "_law_s", "_law_least", "_law_most"] (sp_with K) := by
  refine F.ok sc_law_with (fun vs H Q E h => ?_) (fun cdv A outer s H vs Q E hr h => ?_)
  · obtain ⟨x, s, lo, hi, ws, rfl, _⟩ := h
    rfl
  · obtain ⟨x, s, lo, hi, ws, rfl, hx, h0, h1, hl, k⟩ := h
    obtain ⟨a, xs, rfl, ha, dv⟩ := pairs_at hx
    have hxl : xs.length = ws.length := by rw [dv.length, List.length_map]
    refine ⟨_, (@pss_one _ _ _ (@ps_ret _ _ _ _ (@pe_op _ _ _ _ _ _ _ _ op_catG (@pe_op _ _ _ _ _ _ _ _ op_catG (@pe_slice _ _ _ _ _ _ _ _ _ _ sl_tupG (@pv _ 0 _ _ rfl (Or.inl rfl) (by decide) (by decide)) (@po_none _) (@po_some _ _ _ (@pv _ 1 _ _ rfl (Or.inl rfl) (by decide) (by decide)))) (@pe_tup _ _ _ _ _ (@pa_tup _ _ _ _ _ _ _ (@pe_tup _ _ _ _ _ (@pa_name _ _ _ _ _ _ (@pv _ 2 _ _ rfl (Or.inl rfl) (by decide) (by decide)) (@pa_name _ _ _ _ _ _ (@pv _ 3 _ _ rfl (Or.inl rfl) (by decide) (by decide)) (@pa_nil _)))) (@pa_nil _)))) (@pe_slice _ _ _ _ _ _ _ _ _ _ sl_tupG (@pv _ 0 _ _ rfl (Or.inl rfl) (by decide) (by decide)) (@po_some _ _ _ (@pe_op _ _ _ _ _ _ _ _ op_add (@pv _ 1 _ _ rfl (Or.inl rfl) (by decide) (by decide)) (@pe_int _ _ _ _))) (@po_none _))))), ?_⟩
    have c1 := cut_lo (xs := xs) (i := s) h0 (by omega)
    have c2 := cut_hi (xs := xs) (i := s + 1) (by omega) (by omega)
    refine ⟨_, rfl, _, rfl, _, rfl, .inl ⟨a, xs, rfl, SqT.of ha, fun hh => ?_, fun p1 hp1 => ?_⟩⟩
    · rw [c1.2] at hh
      omega
    have q1 := Same.new (o := .tup (cutV xs none (some s))) hp1
    refine ⟨_, rfl, _, rfl, by show 2 ≤ sizeLine; decide, fun t2 ht2 => ⟨by show 1 ≤ sizeLine; decide, fun t3 ht3 => ?_⟩⟩
    have q2 := Same.new (o := .tup [.int lo, .int hi]) ht2
    have q3 := Same.new (o := .tup [.ref t2]) ht3
    have S3 := q1.trans (q2.trans q3)
    have d1 := (DVs.take dv s.toNat).same S3
    rw [← c1.1, ← List.map_take] at d1
    refine cat_pairs (r1 := ws.take s.toNat) (r2 := [(lo, hi)]) (.tup ((q2.trans q3) p1 _ upd_same) d1) (.tup upd_same (.cons (at_pair (q3 t2 _ upd_same)) .nil)) (by rw [List.length_take]; show _ + 1 ≤ 1000; omega) fun p4 H4 S4 d4 => ?_
    have S04 := S3.trans S4
    refine ⟨_, rfl, _, rfl, _, _, rfl, rfl, _, rfl, .inl ⟨a, xs, rfl, SqT.of (S04 _ _ ha), fun hh => ?_, fun p5 hp5 => ?_⟩⟩
    · rw [c2.2] at hh
      omega
    have q5 := Same.new (o := .tup (cutV xs (some (s + 1)) none)) hp5
    have e1 : (s + 1).toNat = s.toNat + 1 := by omega
    have d5 := (DVs.drop dv (s.toNat + 1)).same (S04.trans q5)
    rw [← e1, ← c2.1, e1, ← List.map_drop] at d5
    refine cat_pairs (r1 := ws.take s.toNat ++ [(lo, hi)]) (r2 := ws.drop (s.toNat + 1)) (d4.same q5) (.tup upd_same d5) (by rw [List.length_append, List.length_take, List.length_drop]; show _ + 1 + _ ≤ 1000; omega) fun p6 H6 S6 d6 => ?_
    refine k p6 H6 (S04.trans (q5.trans S6)) ?_
    rw [List.set_eq_take_append_cons_drop, if_pos (by omega)]
    rw [List.append_assoc] at d6
    exact d6
theorem sc_law_narrower : FnScope ["_law_feed", "_law_windows", "_law_s", "_law_turn", "_law_least", "_law_most", "_law_cut"] ["_law_feed", "_law_windows"] (defScope s_law_narrower) := ⟨rfl, rfl, rfl, by decide +kernel, rfl, by decide +kernel, by decide +kernel⟩
theorem ok_law_narrower {f : Addr} {fd : FuncData} (F : Fun K "_law_narrower" "_law_narrower" s_law_narrower f fd) (T : Txt mg) (D_law_draw : Def P w K mg base 1 "_law_draw" ["_law_feed", "_law_many"] sp_drawB) (D_law_a_cut : Def P w K mg base 2 "_law_a_cut" ["_law_feed", "_law_least", "_law_most"] sp_a_cut) (D_law_with : Def P w K mg base 1 "_law_with" ["_law_windows", "_law_s", "_law_least", "_law_most"] (sp_with K)) : FnOk P w K mg base CX0 3 f fd ["_law_feed", "_law_windows"] (sp_narrower K) := by
  refine F.ok sc_law_narrower (fun vs H Q E h => ?_) (fun cdv A outer s H vs Q E hr h => ?_)
  · obtain ⟨f, c, x, ws, n, rfl, _⟩ := h
    rfl
  · obtain ⟨f, c, x, ws, n, rfl, hx, hl, hb, hF, hn, k⟩ := h
    have hN : nMax = 1000000000000 := rfl
    obtain ⟨a, xs, hxa, ha, dv⟩ := pairs_at hx
    subst hxa
    have hxl : xs.length = ws.length := by rw [dv.length, List.length_map]
    refine ⟨_, (@pss_cons _ _ _ _ _ (@ps_for _ _ _ _ _ _ _ _ PassesOwn.never rfl (@pi_range1 _ _ _ _ _ _ rfl T.n_range (@pa_call _ _ _ _ _ _ _ _ (@pe_callB _ _ _ _ _ _ _ _ _ call_len_seq rfl T.n_len PySem.boot_len (@pa_name _ _ _ _ _ _ (@pv _ 1 _ _ rfl (Or.inl rfl) (by decide) (by decide)) (@pa_nil _)) (by decide) (by decide) (by rfl) (by rfl)) (@pa_nil _)) (by rfl)) (@pg_name _ _ 2 _ sc_law_narrower.nd rfl (Or.inl rfl) (by first | exact Or.inl rfl | exact Or.inr rfl | assumption)) (@pss_one _ _ _ (@ps_for _ _ _ _ _ _ _ _ PassesOwn.never rfl (@pi_range1 _ _ _ _ _ _ rfl T.n_range (@pa_call _ _ _ _ _ _ _ _ (@pe_own _ _ _ _ _ _ _ _ _ _ D_law_draw (hr.mono (by decide)) rfl (@pa_name _ _ _ _ _ _ (@pv _ 0 _ _ rfl (Or.inl rfl) (by decide) (by decide)) (@pa_const _ _ _ _ _ _ _ (@pe_int _ _ _ _) (@pa_nil _))) (by decide) (by rfl) (by rfl)) (@pa_nil _)) (by rfl)) (@pg_name _ _ 3 _ sc_law_narrower.nd rfl (Or.inl rfl) (by first | exact Or.inl rfl | exact Or.inr rfl | assumption)) (@pss_cons _ _ _ _ _ (@ps_asg _ _ _ _ _ _ (@pe_ix _ _ _ _ _ _ _ ix_tup (@pv _ 1 _ _ rfl (Or.inl rfl) (by decide) (by decide)) (@pv _ 2 _ _ rfl (Or.inl rfl) (by decide) (by decide)) (fun _ _ => rfl)) (@pg_tup _ _ _ _ _ _ rfl (@pgs_cons _ _ _ _ _ (@pg_name _ _ 4 _ sc_law_narrower.nd rfl (Or.inl rfl) (by first | exact Or.inl rfl | exact Or.inr rfl | assumption)) (@pgs_cons _ _ _ _ _ (@pg_name _ _ 5 _ sc_law_narrower.nd rfl (Or.inl rfl) (by first | exact Or.inl rfl | exact Or.inr rfl | assumption)) (@pgs_nil _) (by rfl)) (by rfl)) (by rfl) (by rfl)) (by rfl) (by rfl) (by rfl)) (@pss_cons _ _ _ _ _ (@ps_if _ _ _ _ _ _ _ _ (@pt_cmpR _ _ _ _ _ _ _ _ op_lt (@pv _ 4 _ _ rfl (Or.inl rfl) (by decide) (by decide)) (@pv _ 5 _ _ rfl (Or.inl rfl) (by decide) (by decide)) (nomark _)) (@pss_cons _ _ _ _ _ (@ps_set _ _ 6 _ _ _ _ sc_law_narrower.nd rfl (Or.inl rfl) (@pe_own _ _ _ _ _ _ _ _ _ _ D_law_a_cut (hr.mono (by decide)) rfl (@pa_name _ _ _ _ _ _ (@pv _ 0 _ _ rfl (Or.inl rfl) (by decide) (by decide)) (@pa_name _ _ _ _ _ _ (@pv _ 4 _ _ rfl (Or.inl rfl) (by decide) (by decide)) (@pa_name _ _ _ _ _ _ (@pv _ 5 _ _ rfl (Or.inl rfl) (by decide) (by decide)) (@pa_nil _)))) (by decide) (by rfl) (by rfl)) (by rfl) (by first | exact Or.inl rfl | exact Or.inr rfl | assumption)) (@pss_one _ _ _ (@ps_asg _ _ _ _ _ _ (@pe_ix _ _ _ _ _ _ _ ix_list (@pe_lst _ _ _ _ (@pa_tup _ _ _ _ _ _ _ (@pe_tup _ _ _ _ _ (@pa_name _ _ _ _ _ _ (@pv _ 4 _ _ rfl (Or.inl rfl) (by decide) (by decide)) (@pa_name _ _ _ _ _ _ (@pv _ 6 _ _ rfl (Or.inl rfl) (by decide) (by decide)) (@pa_nil _)))) (@pa_tup _ _ _ _ _ _ _ (@pe_tup _ _ _ _ _ (@pa_bin _ _ _ _ _ _ _ _ (@pe_op _ _ _ _ _ _ _ _ op_add (@pv _ 6 _ _ rfl (Or.inl rfl) (by decide) (by decide)) (@pe_int _ _ _ _)) (@pa_name _ _ _ _ _ _ (@pv _ 5 _ _ rfl (Or.inl rfl) (by decide) (by decide)) (@pa_nil _)))) (@pa_nil _)))) (@pe_own _ _ _ _ _ _ _ _ _ _ D_law_draw (hr.mono (by decide)) rfl (@pa_name _ _ _ _ _ _ (@pv _ 0 _ _ rfl (Or.inl rfl) (by decide) (by decide)) (@pa_const _ _ _ _ _ _ _ (@pe_int _ _ _ _) (@pa_nil _))) (by decide) (by rfl) (by rfl)) (fun _ _ => rfl)) (@pg_tup _ _ _ _ _ _ rfl (@pgs_cons _ _ _ _ _ (@pg_name _ _ 4 _ sc_law_narrower.nd rfl (Or.inl rfl) (by first | exact Or.inl rfl | exact Or.inr rfl | assumption)) (@pgs_cons _ _ _ _ _ (@pg_name _ _ 5 _ sc_law_narrower.nd rfl (Or.inl rfl) (by first | exact Or.inl rfl | exact Or.inr rfl | assumption)) (@pgs_nil _) (by rfl)) (by rfl)) (by rfl) (by rfl)) (by rfl) (by rfl) (by rfl)))) (@pss_nil _)) (@pss_one _ _ _ (@ps_set _ _ 1 _ _ _ _ sc_law_narrower.nd rfl (Or.inl rfl) (@pe_own _ _ _ _ _ _ _ _ _ _ D_law_with (hr.mono (by decide)) rfl (@pa_name _ _ _ _ _ _ (@pv _ 1 _ _ rfl (Or.inl rfl) (by decide) (by decide)) (@pa_name _ _ _ _ _ _ (@pv _ 2 _ _ rfl (Or.inl rfl) (by decide) (by decide)) (@pa_name _ _ _ _ _ _ (@pv _ 4 _ _ rfl (Or.inl rfl) (by decide) (by decide)) (@pa_name _ _ _ _ _ _ (@pv _ 5 _ _ rfl (Or.inl rfl) (by decide) (by decide)) (@pa_nil _))))) (by decide) (by rfl) (by rfl)) (by rfl) (by first | exact Or.inl rfl | exact Or.inr rfl | assumption))))) (by intro _ ; rfl))) (by intro _ ; rfl)) (@pss_one _ _ _ (@ps_ret _ _ _ _ (@pv _ 1 _ _ rfl (Or.inl rfl) (by decide) (by decide))))), ?_⟩
    refine ⟨_, rfl, a, _, rfl, .inr (SqT.of ha), _, rfl, by omega, by omega, ?_⟩
    refine for_range (lo := 0) (n := (xs.length : Int).toNat) (fun i σ H3 => ∃ (y : V) (o2 o3 o4 o5 o6 : Option V) (ws' : List (Int × Int)), σ = [some (.ref f), some y, o2, o3, o4, o5, o6] ∧ FeedB H3 f c (n + 10 * i) ∧ Sm f H H3 ∧ DV K H3 y (pairsD ws') ∧ ws'.length = ws.length ∧ ∀ p ∈ ws', p.2 - p.1 ≤ 100000)
      ⟨_, _, _, _, _, _, ws, rfl, hF.mono (by omega), Sm.refl _ _, hx, rfl, hb⟩ ?_ ?_
    · rintro i σ H3 hi ⟨y, o2, o3, o4, o5, o6, ws3, rfl, F3, S3, d3, hl3, hb3⟩
      refine ⟨_, rfl, f, c, _, _, rfl, by decide, by decide, F3, by omega, fun r4 H4 a4 b4 F4 S4 => ⟨r4, rfl, by omega, by omega, ?_⟩⟩
      refine for_range (lo := 0) (n := r4.toNat) (fun j σ H5 => ∃ (y : V) (o3 o4 o5 o6 : Option V) (ws' : List (Int × Int)), σ = [some (.ref f), some y, some (.int (0 + (i : Int))), o3, o4, o5, o6] ∧ FeedB H5 f c (n + 10 * i + 1 + 3 * j) ∧ Sm f H H5 ∧ DV K H5 y (pairsD ws') ∧ ws'.length = ws.length ∧ ∀ p ∈ ws', p.2 - p.1 ≤ 100000)
        ⟨_, _, _, _, _, ws3, rfl, F4.mono (by omega), S3.trans S4, d3.tk (F3.tk S4) (noL_pairs _), hl3, hb3⟩ ?_ ?_
      · rintro j σ H5 hj ⟨y5, o3, o4, o5, o6, ws5, rfl, F5, S5, d5, hl5, hb5⟩
        obtain ⟨b, us, hyb, hb', du⟩ := pairs_at d5
        subst hyb
        have hi5 : i < ws5.length := by omega
        obtain ⟨q, hq, hqe⟩ := pairs_get du hi5
        have hbi := hb5 _ (List.getElem_mem hi5)
        refine ⟨_, rfl, _, rfl, b, _, _, _, rfl, rfl, SqT.of hb', pickN (by omega) (by rw [show (0 + (i : Int)).toNat = i by omega]; exact hq), q, _, rfl, SqT.of hqe, rfl, _, _, rfl, _, _, rfl, rfl, ?_⟩
        try simp only [List.set_cons_zero, List.set_cons_succ]
        revert hbi
        generalize (ws5[i]).1 = lo0
        generalize (ws5[i]).2 = hi0
        intro hbi
        refine seq_cut (fun σ' H' => ∃ (lo hi : Int) (o6 : Option V), σ' = [some (.ref f), some (.ref b), some (.int (0 + (i : Int))), some (.int (0 + (j : Int))), some (.int lo), some (.int hi), o6] ∧ hi - lo ≤ 100000 ∧ FeedB H' f c (n + 10 * i + 1 + 3 * j + 2) ∧ Sm f H5 H') ?_ ?_
        rotate_left
        · intro N hN'
          refine ⟨_, rfl, _, rfl, _, _, rfl, rfl, _, rfl, ite2 (fun hlt => ?_) (fun _ => ?_)⟩
          · have hlt := of_decide_eq_true hlt
            refine ⟨_, rfl, _, rfl, _, rfl, f, c, lo0, hi0, _, rfl, hlt, by omega, F5, by omega, fun cut H6 a6 b6 F6 S6 => ?_⟩
            try simp only [List.set_cons_zero, List.set_cons_succ]
            refine ⟨_, rfl, _, rfl, by show 2 ≤ sizeLine; decide, fun t1 ht1 => ?_⟩
            refine ⟨_, rfl, _, _, rfl, rfl, _, rfl, by show 2 ≤ sizeLine; decide, fun t2 ht2 => ?_⟩
            refine ⟨by show 2 ≤ sizeLine; decide, fun p6 hp6 => ?_⟩
            have F7 := ((F6.new (o := .tup [.int lo0, .int cut]) ht1).new (o := .tup [.int (cut + 1), .int hi0]) ht2).new (o := .lst [.ref t1, .ref t2]) hp6
            refine ⟨_, rfl, f, c, _, _, rfl, by decide, by decide, F7, by omega, fun r H8 a8 b8 F8 S8 => ?_⟩
            have T8 := F7.tk S8
            obtain ⟨v8, hv8, t, lo, hi, rfl, ht, k1⟩ := pickI (xs := [.ref t1, .ref t2]) (fun v => ∃ (t : Addr) (lo hi : Int), v = .ref t ∧ H8 t = some (.tup [.int lo, .int hi]) ∧ hi - lo ≤ 100000) a8 b8 (by
              intro x hx
              simp only [List.mem_cons, List.not_mem_nil, or_false] at hx
              rcases hx with rfl | rfl
              · exact ⟨_, _, _, rfl, T8 _ _ (Same.new hp6 _ _ (Same.new ht2 _ _ upd_same)), by omega⟩
              · exact ⟨_, _, _, rfl, T8 _ _ (Same.new hp6 _ _ upd_same), by omega⟩)
            refine ⟨p6, _, _, _, rfl, rfl, SqL.of (S8 p6 _ (((F6.new ht1).new ht2).away hp6).1 upd_same), hv8, t, _, rfl, SqT.of ht, rfl, _, _, rfl, _, _, rfl, rfl, ?_⟩
            exact hN' _ _ ⟨_, _, _, rfl, k1, F8.mono (by omega), S6.trans (((Sm.new ht1).trans ((Sm.new ht2).trans (Sm.new hp6))).trans S8)⟩
          · exact hN' _ _ ⟨_, _, _, rfl, by omega, F5.mono (by omega), Sm.refl _ _⟩
        rintro _ H6 ⟨lo, hi, o6', rfl, hbd, F6, S6⟩
        refine ⟨_, rfl, _, rfl, _, rfl, _, rfl, .ref b, (0 + (i : Int)), lo, hi, ws5, rfl, d5.tk (F5.tk S6) (noL_pairs _), by omega, by omega, by omega, fun q7 H7 S7 d7 => ?_⟩
        refine ⟨_, _, _, _, _, ws5.set (0 + (i : Int)).toNat (lo, hi), rfl, (F6.same S7).mono (by omega), S5.trans (S6.trans (Sm.same S7)), d7, by rw [List.length_set]; exact hl5, fun p hp => ?_⟩
        rcases List.mem_or_eq_of_mem_set hp with z | rfl
        · exact hb5 p z
        · exact hbd
      · rintro σ H5 ⟨y5, o3, o4, o5, o6, ws5, rfl, F5, S5, d5, hl5, hb5⟩
        exact ⟨_, _, _, _, _, _, ws5, rfl, F5.mono (by omega), S5, d5, hl5, hb5⟩
    · rintro σ H3 ⟨y, o2, o3, o4, o5, o6, ws3, rfl, F3, S3, d3, hl3, hb3⟩
      exact ⟨_, rfl, k y ws3 H3 (F3.mono (by omega)) S3 d3 hl3 hb3⟩
theorem sc_law_lie : FnScope ["_law_plan", "_law_cycle", "_law_windows", "_law_beats", "_law_s"] ["_law_plan", "_law_cycle", "_law_windows", "_law_beats"] (defScope s_law_lie) := ⟨rfl, rfl, rfl, by decide +kernel, rfl, by decide +kernel, by decide +kernel⟩
theorem ok_law_lie {f : Addr} {fd : FuncData} (F : Fun K "_law_lie" "_law_lie" s_law_lie f fd) (T : Txt mg) (D_law_length : Def P w K mg base 1 "_law_length" ["_law_plan", "_law_cycle", "_law_beats", "_law_s"] (sp_lengthB K)) : FnOk P w K mg base CX0 2 f fd ["_law_plan", "_law_cycle", "_law_windows", "_law_beats"] (sp_lie K) := by
  refine F.ok sc_law_lie (fun vs H Q E h => ?_) (fun cdv A outer s H vs Q E hr h => ?_)
  · obtain ⟨x, y, b, per, Pl, ws, bs, rfl, _⟩ := h
    rfl
  · obtain ⟨x, y, b, per, Pl, ws, bs, rfl, hx, hy, hwl, hl, hb, hin, hp, hp2, k⟩ := h
    obtain ⟨a, us, rfl, ha, du⟩ := pairs_at hy
    have hul : us.length = ws.length := by rw [du.length, List.length_map]
    refine ⟨_, (@pss_cons _ _ _ _ _ (@ps_for _ _ _ _ _ _ _ _ PassesOwn.never rfl (@pi_range1 _ _ _ _ _ _ rfl T.n_range (@pa_call _ _ _ _ _ _ _ _ (@pe_callB _ _ _ _ _ _ _ _ _ call_len_seq rfl T.n_len PySem.boot_len (@pa_name _ _ _ _ _ _ (@pv _ 2 _ _ rfl (Or.inl rfl) (by decide) (by decide)) (@pa_nil _)) (by decide) (by decide) (by rfl) (by rfl)) (@pa_nil _)) (by rfl)) (@pg_name _ _ 4 _ sc_law_lie.nd rfl (Or.inl rfl) (by first | exact Or.inl rfl | exact Or.inr rfl | assumption)) (@pss_one _ _ _ (@ps_if _ _ _ _ _ _ _ _ (@pt_not _ _ _ _ (@pt_chain _ _ _ _ _ _ _ _ _ _ _ _ op_le op_le (@pe_ix _ _ _ _ _ _ _ ix_tup (@pe_ix _ _ _ _ _ _ _ ix_tup (@pv _ 2 _ _ rfl (Or.inl rfl) (by decide) (by decide)) (@pv _ 4 _ _ rfl (Or.inl rfl) (by decide) (by decide)) (fun _ _ => rfl)) (@pe_int _ _ _ _) (fun _ _ => rfl)) (@pe_own _ _ _ _ _ _ _ _ _ _ D_law_length (hr.mono (by decide)) rfl (@pa_name _ _ _ _ _ _ (@pv _ 0 _ _ rfl (Or.inl rfl) (by decide) (by decide)) (@pa_name _ _ _ _ _ _ (@pv _ 1 _ _ rfl (Or.inl rfl) (by decide) (by decide)) (@pa_name _ _ _ _ _ _ (@pv _ 3 _ _ rfl (Or.inl rfl) (by decide) (by decide)) (@pa_name _ _ _ _ _ _ (@pv _ 4 _ _ rfl (Or.inl rfl) (by decide) (by decide)) (@pa_nil _))))) (by decide) (by rfl) (by rfl)) (@pe_ix _ _ _ _ _ _ _ ix_tup (@pe_ix _ _ _ _ _ _ _ ix_tup (@pv _ 2 _ _ rfl (Or.inl rfl) (by decide) (by decide)) (@pv _ 4 _ _ rfl (Or.inl rfl) (by decide) (by decide)) (fun _ _ => rfl)) (@pe_int _ _ _ _) (fun _ _ => rfl)) (by with_unfolding_all  rfl))) (@pss_one _ _ _ (@ps_ret _ _ _ _ (@pe_bl _ _ _ _))) (@pss_nil _))) (by intro _ ; rfl)) (@pss_one _ _ _ (@ps_ret _ _ _ _ (@pe_bl _ _ _ _)))), ?_⟩
    refine ⟨_, rfl, a, _, rfl, .inr (SqT.of ha), _, rfl, by omega, by omega, ?_⟩
    refine for_range (lo := 0) (n := (us.length : Int).toNat) (fun i σ H3 => ∃ o4, σ = [some x, some (.int per), some (.ref a), some (.ref b), o4] ∧ H = H3 ∧ ∀ j : Nat, j < i → (ws.getD j (0, 0)).1 ≤ lenAt per bs Pl.spans (j : Int) ∧ lenAt per bs Pl.spans (j : Int) ≤ (ws.getD j (0, 0)).2)
      ⟨_, rfl, rfl, fun j hj => by omega⟩ ?_ ?_
    · rintro i σ _ hi ⟨o4, rfl, rfl, hl3⟩
      have hi' : i < Pl.spans.length := by omega
      have hiw : i < ws.length := by omega
      obtain ⟨q, hq, hqe⟩ := pairs_get du hiw
      have hsp : Pl.spans[(0 + (i : Int)).toNat]? = some Pl.spans[i] := by
        rw [show (0 + (i : Int)).toNat = i by omega]
        exact List.getElem?_eq_getElem hi'
      have hq' : us[(0 + (i : Int)).toNat]? = some (.ref q) := by rw [show (0 + (i : Int)).toNat = i by omega]; exact hq
      have hg : ws.getD i (0, 0) = ws[i] := by rw [List.getD_eq_getElem?_getD, List.getElem?_eq_getElem hiw]; rfl
      have hla : lenAt per bs Pl.spans (i : Int) = lenZ per bs Pl.spans[i] := by rw [lenAt, show ((i : Int)).toNat = i by omega, List.getElem?_eq_getElem hi']
      refine ⟨_, rfl, _, rfl, a, _, _, _, rfl, rfl, SqT.of ha, pickN (by omega) hq', q, _, _, _, rfl, rfl, SqT.of hqe, pickN (by decide) rfl, ?_⟩
      refine ⟨_, rfl, _, rfl, _, rfl, _, rfl, x, b, per, (0 + (i : Int)), Pl, Pl.spans[i], bs, rfl, ⟨hx, by omega, hsp⟩, hb, hin _ (List.getElem_mem hi'), hp, hp2, ?_⟩
      refine ⟨_, _, rfl, rfl, _, rfl, ite2 (fun h1 => ?_) (fun h1 => ?_)⟩
      · have h1 := of_decide_eq_true h1
        refine ⟨_, rfl, _, rfl, a, _, _, _, rfl, rfl, SqT.of ha, pickN (by omega) hq', q, _, _, _, rfl, rfl, SqT.of hqe, pickN (by decide) rfl, _, _, rfl, rfl, _, rfl, ?_⟩
        by_cases h2 : lenZ per bs Pl.spans[i] ≤ (ws[i]).2
        · rw [decide_eq_true h2]
          refine ⟨_, rfl, rfl, fun j hj => ?_⟩
          by_cases hji : j = i
          · subst hji
            rw [hg, hla]
            exact ⟨h1, h2⟩
          · exact hl3 j (by omega)
        · rw [decide_eq_false h2]
          exact k false fun h => nomatch h
      · exact ⟨_, rfl, k false fun h => nomatch h⟩
    · rintro σ _ ⟨o4, rfl, rfl, hl3⟩
      refine k true fun _ j hj => hl3 j (by omega)
end

section
variable {P : Program} {w : World} {K : PySem.W.Frag} {mg : Str → Option Value} {base : Heap}
theorem sc_law_firsts : FnScope ["_law_plan", "_law_marks", "_law_turn", "_law_word", "_law_one", "_law_other", "_law_low", "_law_high", "_law_least"] ["_law_plan"] (defScope s_law_firsts) := ⟨rfl, rfl, rfl, by decide +kernel, rfl, by decide +kernel, by decide +kernel⟩
theorem ok_law_firsts {f : Addr} {fd : FuncData} (F : Fun K "_law_firsts" "_law_firsts" s_law_firsts f fd) (T : Txt mg) : FnOk P w K mg base CX0 1 f fd ["_law_plan"] (sp_firsts K) := by
  refine F.ok sc_law_firsts (fun vs H Q E h => ?_) (fun cdv A outer s H vs Q E hr h => ?_)
  · obtain ⟨x, Pl, rfl, _⟩ := h
    rfl
  · obtain ⟨x, Pl, rfl, hx, hnl, hsl, hin, k⟩ := h
    obtain ⟨p, pn, pp, xs, rfl, e, e1, e2, rr⟩ := plan_at hx
    have hxl : xs.length = Pl.spans.length := by rw [rr.length, List.length_map]
    refine ⟨_, (@pss_cons _ _ _ _ _ (@ps_set _ _ 1 _ _ _ _ sc_law_firsts.nd rfl (Or.inl rfl) (@pe_listRange _ _ _ _ _ _ _ rfl rfl T.n_list rfl T.n_range (@pa_call _ _ _ _ _ _ _ _ (@pe_callB _ _ _ _ _ _ _ _ _ call_len_seq rfl T.n_len PySem.boot_len (@pa_sub _ _ _ _ _ _ _ (@pe_ix _ _ _ _ _ _ _ ix_tup (@pv _ 0 _ _ rfl (Or.inl rfl) (by decide) (by decide)) (@pe_int _ _ _ _) (fun _ _ => rfl)) (@pa_nil _)) (by decide) (by decide) (by rfl) (by rfl)) (@pa_nil _)) (by rfl) (by rfl)) (by rfl) (by first | exact Or.inl rfl | exact Or.inr rfl | assumption)) (@pss_cons _ _ _ _ _ (@ps_for _ _ _ _ _ _ _ _ PassesOwn.never rfl (@pi_tup _ _ _ _ (@pe_ix _ _ _ _ _ _ _ ix_tup (@pv _ 0 _ _ rfl (Or.inl rfl) (by decide) (by decide)) (@pe_int _ _ _ _) (fun _ _ => rfl))) (@pg_name _ _ 2 _ sc_law_firsts.nd rfl (Or.inl rfl) (by first | exact Or.inl rfl | exact Or.inr rfl | assumption)) (@pss_one _ _ _ (@ps_for _ _ _ _ _ _ _ _ PassesOwn.never rfl (@pi_tup _ _ _ _ (@pe_ix _ _ _ _ _ _ _ ix_tup (@pv _ 0 _ _ rfl (Or.inl rfl) (by decide) (by decide)) (@pe_int _ _ _ _) (fun _ _ => rfl))) (@pg_tup _ _ _ _ _ _ rfl (@pgs_cons _ _ _ _ _ (@pg_name _ _ 3 _ sc_law_firsts.nd rfl (Or.inl rfl) (by first | exact Or.inl rfl | exact Or.inr rfl | assumption)) (@pgs_cons _ _ _ _ _ (@pg_name _ _ 4 _ sc_law_firsts.nd rfl (Or.inl rfl) (by first | exact Or.inl rfl | exact Or.inr rfl | assumption)) (@pgs_cons _ _ _ _ _ (@pg_name _ _ 5 _ sc_law_firsts.nd rfl (Or.inl rfl) (by first | exact Or.inl rfl | exact Or.inr rfl | assumption)) (@pgs_cons _ _ _ _ _ (@pg_name _ _ 6 _ sc_law_firsts.nd rfl (Or.inl rfl) (by first | exact Or.inl rfl | exact Or.inr rfl | assumption)) (@pgs_cons _ _ _ _ _ (@pg_name _ _ 7 _ sc_law_firsts.nd rfl (Or.inl rfl) (by first | exact Or.inl rfl | exact Or.inr rfl | assumption)) (@pgs_nil _) (by rfl)) (by rfl)) (by rfl)) (by rfl)) (by rfl)) (by rfl) (by rfl)) (@pss_cons _ _ _ _ _ (@ps_set _ _ 8 _ _ _ _ sc_law_firsts.nd rfl (Or.inl rfl) (@pe_callB _ _ _ _ _ _ _ _ _ (call_min2 rfl) rfl T.n_min PyProof.Rows.boot_min (@pa_sub _ _ _ _ _ _ _ (@pe_ix _ _ _ _ _ _ _ ix_list (@pv _ 1 _ _ rfl (Or.inl rfl) (by decide) (by decide)) (@pv _ 4 _ _ rfl (Or.inl rfl) (by decide) (by decide)) (fun _ _ => rfl)) (@pa_sub _ _ _ _ _ _ _ (@pe_ix _ _ _ _ _ _ _ ix_list (@pv _ 1 _ _ rfl (Or.inl rfl) (by decide) (by decide)) (@pv _ 5 _ _ rfl (Or.inl rfl) (by decide) (by decide)) (fun _ _ => rfl)) (@pa_nil _))) (by decide) (by decide) (by rfl) (by rfl)) (by rfl) (by first | exact Or.inl rfl | exact Or.inr rfl | assumption)) (@pss_cons _ _ _ _ _ (@ps_asg _ _ _ _ _ _ (@pv _ 8 _ _ rfl (Or.inl rfl) (by decide) (by decide)) (@pg_sub _ _ _ _ _ _ _ (@pv _ 1 _ _ rfl (Or.inl rfl) (by decide) (by decide)) (@pv _ 4 _ _ rfl (Or.inl rfl) (by decide) (by decide)) set_list (by intro _ ; rfl)) (by rfl) (by rfl) (by rfl)) (@pss_one _ _ _ (@ps_asg _ _ _ _ _ _ (@pv _ 8 _ _ rfl (Or.inl rfl) (by decide) (by decide)) (@pg_sub _ _ _ _ _ _ _ (@pv _ 1 _ _ rfl (Or.inl rfl) (by decide) (by decide)) (@pv _ 5 _ _ rfl (Or.inl rfl) (by decide) (by decide)) set_list (by intro _ ; rfl)) (by rfl) (by rfl) (by rfl))))) (by intro _ ; rfl))) (by intro _ ; rfl)) (@pss_one _ _ _ (@ps_ret _ _ _ _ (@pv _ 1 _ _ rfl (Or.inl rfl) (by decide) (by decide)))))), ?_⟩
    refine ⟨_, rfl, p, _, _, _, rfl, rfl, SqT.of e, pickN (by decide) rfl, pn, _, rfl, .inr (SqT.of e1), _, rfl, by omega, by rw [List.length_map]; omega, fun L hL => ?_⟩
    have s0 := Same.new (o := .lst ((List.range ((Pl.names.map V.str).length : Int).toNat).map fun k : Nat => V.int (k : Int))) hL
    refine ⟨_, rfl, p, _, _, _, rfl, rfl, SqT.of (s0 _ _ e), pickN (by decide) rfl, pn, rfl, ⟨_, SqT.of (s0 _ _ e1)⟩, ?_⟩
    refine for_tup (K := K) (a := pn) (xs := Pl.names.map V.str) (fun i σ H3 => ∃ o2 o3 o4 o5 o6 o7 o8, σ = [some (.ref p), some (.ref L), o2, o3, o4, o5, o6, o7, o8] ∧ Same H H3 ∧ ∃ ms : List Int, H3 L = some (.lst (ms.map V.int)) ∧ ms.length = Pl.names.length)
      ⟨_, _, _, _, _, _, _, rfl, s0, (List.range Pl.names.length).map (fun k : Nat => (k : Int)), by rw [upd_same, List.map_map, List.length_map, show ((Pl.names.length : Int)).toNat = Pl.names.length by omega]; rfl, by simp⟩ (fun i σ H3 _ ⟨_, _, _, _, _, _, _, _, h, _⟩ => SqT.of (h _ _ e1)) ?_ ?_
    · rintro i v σ H3 hi ⟨o2, o3, o4, o5, o6, o7, o8, rfl, S3, ms, hL3, hml⟩
      refine ⟨_, rfl, p, _, _, _, rfl, rfl, SqT.of (S3 _ _ e), pickN (by decide) rfl, pp, rfl, ⟨_, SqT.of (S3 _ _ e2)⟩, ?_⟩
      refine for_tup (K := K) (a := pp) (xs := xs) (fun j σ H4 => ∃ o2 o3 o4 o5 o6 o7 o8, σ = [some (.ref p), some (.ref L), o2, o3, o4, o5, o6, o7, o8] ∧ Same H H4 ∧ ∃ ms : List Int, H4 L = some (.lst (ms.map V.int)) ∧ ms.length = Pl.names.length)
        ⟨_, _, _, _, _, _, _, rfl, S3, ms, hL3, hml⟩ (fun i σ H3 _ ⟨_, _, _, _, _, _, _, _, h, _⟩ => SqT.of (h _ _ e2)) ?_ ?_
      · rintro j v σ H4 hj ⟨o2, o3, o4, o5, o6, o7, o8, rfl, S4, ms4, hL4, hml4⟩
        have hj' : j < Pl.spans.length := by rw [← hxl]; exact (List.getElem?_eq_some_iff.mp hj).1
        obtain ⟨d, hd, dx⟩ := rr.get hj
        rw [List.getElem?_map, List.getElem?_eq_getElem hj'] at hd
        cases hd
        obtain ⟨sa, rfl, hsa⟩ := span_at dx
        have hin1 := hin _ (List.getElem_mem hj')
        have i1 := hin1.o1
        have i2 := hin1.r1
        refine ⟨sa, _, rfl, SqT.of (S4 _ _ hsa), rfl, _, _, rfl, _, _, rfl, _, _, rfl, _, _, rfl, _, _, rfl, rfl, ?_⟩
        try simp only [List.set_cons_zero, List.set_cons_succ]
        refine ⟨_, rfl, _, rfl, L, _, _, _, rfl, rfl, SqL.of hL4, bt_at hin1.o0 (by omega), _, rfl, _, rfl, L, _, _, _, rfl, rfl, SqL.of hL4, bt_at hin1.r0 (by omega), _, _, rfl, ?_⟩
        generalize (if bt ms4 (Pl.spans[j]).other < bt ms4 (Pl.spans[j]).one then bt ms4 (Pl.spans[j]).other else bt ms4 (Pl.spans[j]).one) = least
        try simp only [List.set_cons_zero, List.set_cons_succ]
        refine ⟨_, rfl, _, rfl, _, rfl, L, _, _, _, rfl, rfl, hL4, ixN_at hin1.o0 (by rw [List.length_map]; omega), ?_⟩
        refine ⟨_, rfl, _, rfl, _, rfl, L, _, _, _, rfl, rfl, upd_same, ixN_at hin1.r0 (by rw [List.length_set, List.length_map]; omega), ?_⟩
        rw [upd_upd]
        refine ⟨_, _, _, _, _, _, _, rfl, S4.acc hL, (ms4.set (Pl.spans[j]).one.toNat least).set (Pl.spans[j]).other.toNat least, ?_, by rw [List.length_set, List.length_set]; exact hml4⟩
        rw [upd_same, List.map_set, List.map_set]
      · rintro σ H4 ⟨o2, o3, o4, o5, o6, o7, o8, rfl, S4, ms4, hL4, hml4⟩
        exact ⟨_, _, _, _, _, _, _, rfl, S4, ms4, hL4, hml4⟩
    · rintro σ H3 ⟨o2, o3, o4, o5, o6, o7, o8, rfl, S3, ms, hL3, hml⟩
      exact ⟨_, rfl, k L ms H3 S3 hL3 hml⟩
theorem sc_law_every : FnScope ["_law_plan", "_law_cycle", "_law_marks", "_law_found", "_law_work", "_law_longer", "_law_ahead"] ["_law_plan", "_law_cycle"] (defScope s_law_every) := ⟨rfl, rfl, rfl, by decide +kernel, rfl, by decide +kernel, by decide +kernel⟩
theorem ok_law_every {f : Addr} {fd : FuncData} (F : Fun K "_law_every" "_law_every" s_law_every f fd) (T : Txt mg) (D_law_firsts : Def P w K mg base 1 "_law_firsts" ["_law_plan"] (sp_firsts K)) : FnOk P w K mg base CX0 2 f fd ["_law_plan", "_law_cycle"] (sp_every K) := by
  refine F.ok sc_law_every (fun vs H Q E h => ?_) (fun cdv A outer s H vs Q E hr h => ?_)
  · obtain ⟨x, per, Pl, rfl, _⟩ := h
    rfl
  · obtain ⟨x, per, Pl, rfl, hx, hnl, hsl, hin, hp, hp2, hpw, k⟩ := h
    refine ⟨_, (@pss_cons _ _ _ _ _ (@ps_set _ _ 2 _ _ _ _ sc_law_every.nd rfl (Or.inl rfl) (@pe_own _ _ _ _ _ _ _ _ _ _ D_law_firsts (hr.mono (by decide)) rfl (@pa_name _ _ _ _ _ _ (@pv _ 0 _ _ rfl (Or.inl rfl) (by decide) (by decide)) (@pa_nil _)) (by decide) (by rfl) (by rfl)) (by rfl) (by first | exact Or.inl rfl | exact Or.inr rfl | assumption)) (@pss_cons _ _ _ _ _ (@ps_set _ _ 3 _ _ _ _ sc_law_every.nd rfl (Or.inl rfl) (@pe_lst _ _ _ _ (@pa_tup _ _ _ _ _ _ _ (@pe_tup _ _ _ _ _ (@pa_nil _)) (@pa_nil _))) (by rfl) (by first | exact Or.inl rfl | exact Or.inr rfl | assumption)) (@pss_cons _ _ _ _ _ (@ps_for _ _ _ _ _ _ _ _ PassesOwn.never rfl (@pi_range1 _ _ _ _ _ _ rfl T.n_range (@pa_call _ _ _ _ _ _ _ _ (@pe_callB _ _ _ _ _ _ _ _ _ call_len_seq rfl T.n_len PySem.boot_len (@pa_sub _ _ _ _ _ _ _ (@pe_ix _ _ _ _ _ _ _ ix_tup (@pv _ 0 _ _ rfl (Or.inl rfl) (by decide) (by decide)) (@pe_int _ _ _ _) (fun _ _ => rfl)) (@pa_nil _)) (by decide) (by decide) (by rfl) (by rfl)) (@pa_nil _)) (by rfl)) (@pg_name _ _ 4 _ sc_law_every.nd rfl (Or.inl rfl) (by first | exact Or.inl rfl | exact Or.inr rfl | assumption)) (@pss_cons _ _ _ _ _ (@ps_set _ _ 5 _ _ _ _ sc_law_every.nd rfl (Or.inl rfl) (@pe_lst _ _ _ _ (@pa_nil _)) (by rfl) (by first | exact Or.inl rfl | exact Or.inr rfl | assumption)) (@pss_cons _ _ _ _ _ (@ps_for _ _ _ _ _ _ _ _ PassesOwn.never rfl (@pi_list _ _ _ _ (@pv _ 3 _ _ rfl (Or.inl rfl) (by decide) (by decide))) (@pg_name _ _ 6 _ sc_law_every.nd rfl (Or.inr rfl) (by first | exact Or.inl rfl | exact Or.inr rfl | assumption)) (@pss_one _ _ _ (@ps_expr _ _ _ _ (@pe_bm _ _ _ _ _ _ _ _ _ _ _ _ PySem.F.plainAttrs_list PySem.F.slot_list_extend PySem.F.type_list_extend mt_extend (@pv _ 5 _ _ rfl (Or.inl rfl) (by decide) (by decide)) (@pa_lc _ _ _ _ _ _ _ _ (@pe_lc _ ["_law_beat", "_law_ahead"] [none, (some 6)] _ _ _ _ _ _ _ _ _ _ rfl (@CScope.of _ _ _ _ rfl) (@pi_range1 _ _ _ _ _ _ rfl T.n_range (@pa_ife _ _ _ _ _ _ _ _ (@pe_ifExp _ _ _ _ _ _ _ _ (@pt_cmpR _ _ _ _ _ _ _ _ op_eq (@pe_ix _ _ _ _ _ _ _ ix_list (@pv _ 2 _ _ rfl (Or.inl rfl) (by decide) (by decide)) (@pv _ 4 _ _ rfl (Or.inl rfl) (by decide) (by decide)) (fun _ _ => rfl)) (@pv _ 4 _ _ rfl (Or.inl rfl) (by decide) (by decide)) (nomark _)) (@pe_int _ _ _ _) (@pv _ 1 _ _ rfl (Or.inl rfl) (by decide) (by decide))) (@pa_nil _)) (by rfl)) (fun _ _ _ _ _ => (@pgc _ _ _ _ _ _ _ _ 0 _ _ (by decide) rfl rfl)) (fun _ _ _ _ _ => pif_nil) (fun _ _ _ _ _ => (@pe_op _ _ _ _ _ _ _ _ opc_catG (@pvc _ _ _ _ _ _ _ _ 1 _ _ (by rfl) (by first | exact Or.inl rfl | exact Or.inr rfl) (by decide) (by decide)) (@pe_tup _ _ _ _ _ (@pa_name _ _ _ _ _ _ (@pvc _ _ _ _ _ _ _ _ 0 _ _ (by rfl) (by first | exact Or.inl rfl | exact Or.inr rfl) (by decide) (by decide)) (@pa_nil _))))) (by intro _ ; rfl)) (@pa_nil _)) (by rfl) (by rfl) (by rfl) (by rfl) (by rfl)) (by rfl))) (by intro _ ; rfl)) (@pss_one _ _ _ (@ps_set _ _ 3 _ _ _ _ sc_law_every.nd rfl (Or.inl rfl) (@pv _ 5 _ _ rfl (Or.inl rfl) (by decide) (by decide)) (by rfl) (by first | exact Or.inl rfl | exact Or.inr rfl | assumption))))) (by intro _ ; rfl)) (@pss_one _ _ _ (@ps_ret _ _ _ _ (@pv _ 3 _ _ rfl (Or.inl rfl) (by decide) (by decide))))))), ?_⟩
    refine ⟨_, rfl, x, Pl, rfl, hx, hnl, hsl, hin, fun M ms H1 S1 hM hml => ?_⟩
    obtain ⟨p, pn, pp, xs, rfl, e, e1, e2, rr⟩ := plan_at (hx.same S1)
    refine ⟨by show 0 ≤ sizeLine; decide, fun t0 ht0 => ⟨by show 1 ≤ sizeLine; decide, fun L0 hL0 => ?_⟩⟩
    have q0 := Same.new (o := .tup []) ht0
    have q1 := Same.new (o := .lst [.ref t0]) hL0
    have s1 := q0.trans q1
    have dv0 : DVs K (upd (upd H1 t0 (.tup [])) L0 (.lst [.ref t0])) [.ref t0] (rowsD [[]]) := .cons (.tup (q1 _ _ upd_same) .nil) .nil
    have hL00 : (upd (upd H1 t0 (.tup [])) L0 (.lst [.ref t0])) L0 = some (.lst [.ref t0]) := upd_same
    revert s1 dv0 hL00
    generalize upd (upd H1 t0 (.tup [])) L0 (.lst [.ref t0]) = H2
    intro s1 dv0 hL00
    try simp only [List.set_cons_zero, List.set_cons_succ]
    refine ⟨_, rfl, p, _, _, _, rfl, rfl, SqT.of (s1 _ _ e), pickN (by decide) rfl, pn, _, rfl, .inr (SqT.of (s1 _ _ e1)), _, rfl, by omega, by rw [List.length_map]; omega, ?_⟩
    refine for_range (lo := 0) (n := ((Pl.names.map V.str).length : Int).toNat) (fun i σ H3 => ∃ (Lf : Addr) (o4 o5 o6 : Option V) (ys : List V) (rows : List (List Int)), σ = [some (.ref p), some (.int per), some (.ref M), some (.ref Lf), o4, o5, o6] ∧ Same H1 H3 ∧ H3 Lf = some (.lst ys) ∧ DVs K H3 ys (rowsD rows) ∧ rows.length ≤ per.toNat ^ i ∧ ∀ b ∈ rows, b.length = i)
      ⟨L0, _, _, _, _, [[]], rfl, s1, hL00, dv0, by simp, fun b hb => by rw [List.mem_singleton.mp hb]; rfl⟩ ?_ ?_
    · rintro i σ H3 hi ⟨Lf, o4, o5, o6, ys, rows, rfl, S3, hL3, dv3, hrl, hre⟩
      have hi' : i < Pl.names.length := by rw [List.length_map] at hi; omega
      have hyl : ys.length = rows.length := by rw [dv3.length, rowsD, List.length_map]
      have hpow : per.toNat ^ (i + 1) ≤ 100000 := Nat.le_trans (Nat.pow_le_pow_right (by omega) (by omega)) hpw
      have hrp : rows.length * per.toNat ≤ per.toNat ^ (i + 1) := by rw [Nat.pow_succ]; exact Nat.mul_le_mul_right _ hrl
      refine ⟨by show 0 ≤ sizeLine; decide, fun Lg hLg => ?_⟩
      have q4 := Same.new (o := .lst []) hLg
      try simp only [List.set_cons_zero, List.set_cons_succ]
      refine ⟨_, rfl, Lf, rfl, ⟨_, SqL.of (q4 _ _ hL3)⟩, ?_⟩
      refine for_list (K := K) (a := Lf) (xs := ys) (fun j σ H4 => ∃ (o6 : Option V) (zs : List V) (rows2 : List (List Int)), σ = [some (.ref p), some (.int per), some (.ref M), some (.ref Lf), some (.int (0 + (i : Int))), some (.ref Lg), o6] ∧ Same H3 H4 ∧ H4 Lg = some (.lst zs) ∧ DVs K H4 zs (rowsD rows2) ∧ rows2.length ≤ j * per.toNat ∧ ∀ b ∈ rows2, b.length = i + 1)
        ⟨_, _, [], rfl, q4, upd_same, .nil, by simp, fun _ h => (nomatch h)⟩ (fun j σ H4 _ ⟨_, _, _, _, h, _⟩ => SqL.of (h _ _ hL3)) ?_ ?_
      · rintro j v σ H4 hj ⟨o6, zs, rows2, rfl, S4, hL4, dv4, hr2, he2⟩
        obtain ⟨hj', ah, rfl, hah⟩ := rows_item dv3 hj
        have hah4 := S4 _ _ hah
        have hlb := hre _ (List.getElem_mem hj')
        have hzl : zs.length = rows2.length := by rw [dv4.length, rowsD, List.length_map]
        have hj1 : (j + 1) * per.toNat ≤ rows.length * per.toNat := Nat.mul_le_mul_right _ hj'
        have hj2 : (j + 1) * per.toNat = j * per.toNat + per.toNat := Nat.succ_mul _ _
        try simp only [List.set_cons_zero, List.set_cons_succ]
        refine ⟨_, rfl, .inl ⟨rfl, _, SqL.of hL4⟩, ?_⟩
        refine ⟨_, rfl, _, rfl, M, _, _, _, rfl, rfl, SqL.of (S4 _ _ (S3 _ _ hM)), bt_at (bs := ms) (by omega) (by omega), _, rfl, rfl, _, rfl, ite2 (fun _ => ?_) (fun _ => ⟨_, rfl, ?_⟩)⟩
        all_goals
          refine ⟨_, rfl, by omega, by omega, fun D hD => ?_⟩
          refine lc_range 1 [some (.ref ah)]
            (fun m us H5 => Same H4 H5 ∧ H5 D = some (.lst us) ∧ ∃ rows3 : List (List Int), DVs K H5 us (rowsD rows3) ∧ rows3.length = m ∧ ∀ b ∈ rows3, b.length = i + 1)
            rfl ⟨Same.new hD, upd_same, [], .nil, rfl, fun _ h => (nomatch h)⟩ ?_ ?_
          · rintro m us H5 os hm ho ⟨S5, hD5, rows3, dv5, hr3, he3⟩
            obtain ⟨o, rfl⟩ := one_of ho
            have hul : us.length = m := by rw [dv5.length, rowsD, List.length_map, hr3]
            refine noifN ?_
            refine ⟨_, rfl, _, rfl, by show 1 ≤ sizeLine; decide, fun t6 ht6 => ?_⟩
            have q6 := Same.new (o := .tup [.int (0 + (m : Int))]) ht6
            refine cat_row (r1 := rows[j]) (r2 := [0 + (m : Int)]) (q6 _ _ (S5 _ _ hah4)) upd_same (by rw [hlb]; show i + 1 ≤ 10000; omega) fun q7 H7 S7 h7 => ?_
            have hD7 := S7 _ _ (q6 _ _ hD5)
            refine LcN.mk (os := [some (.int (0 + (m : Int)))]) hm hD7 (by rw [hul]; exact Nat.lt_of_lt_of_le (show m < 1000 by omega) (by decide)) rfl rfl ?_
            have u := TK.updL (ys := us ++ [.ref q7]) hD7
            refine ⟨(S5.trans (q6.trans S7)).acc hD, upd_same, rows3 ++ [rows[j] ++ [0 + (m : Int)]], ?_, by rw [List.length_append, hr3]; rfl, fun b hb => ?_⟩
            · rw [rowsD, List.map_append]
              exact (dv5.tk ((Same.tk (q6.trans S7)).trans u) (noLs_rows _)).append (.cons (.tup (u _ _ h7) (DVs.ints _)) .nil)
            · rcases List.mem_append.mp hb with z | z
              · exact he3 b z
              · rw [List.mem_singleton.mp z, List.length_append, hlb]; rfl
          · rintro us H5 ⟨S5, hD5, rows3, dv5, hr3, he3⟩
            have hul : us.length = rows3.length := by rw [dv5.length, rowsD, List.length_map]
            have hL5 := S5 _ _ hL4
            refine ⟨Lg, D, zs, us, rfl, rfl, hL5, hD5, Nat.le_trans (show zs.length + us.length ≤ 200000 by omega) (by decide), ?_⟩
            have u := TK.updL (ys := zs ++ us) hL5
            refine ⟨_, _, rows2 ++ rows3, rfl, (S4.trans S5).acc hLg, upd_same, ?_, by rw [List.length_append]; omega, fun b hb => ?_⟩
            · rw [rowsD, List.map_append]
              exact ((dv4.same S5).tk u (noLs_rows _)).append (dv5.tk u (noLs_rows _))
            · rcases List.mem_append.mp hb with z | z
              · exact he2 b z
              · exact he3 b z
      · rintro σ H4 ⟨o6, zs, rows2, rfl, S4, hL4, dv4, hr2, he2⟩
        refine ⟨_, rfl, ?_⟩
        exact ⟨Lg, _, _, _, zs, rows2, rfl, S3.trans S4, hL4, dv4, by rw [hyl] at hr2; omega, he2⟩
    · rintro σ H3 ⟨Lf, o4, o5, o6, ys, rows, rfl, S3, hL3, dv3, hrl, hre⟩
      rw [show ((Pl.names.map V.str).length : Int).toNat = Pl.names.length by rw [List.length_map]; omega] at hrl hre
      exact ⟨_, rfl, k Lf ys rows H3 (S1.trans S3) hL3 dv3 (by omega) hre⟩
end

def sp_law (K : PySem.W.Frag) : Sp := fun vs H Q _ => ∃ (a : Addr) (ns : List Int), vs = [.ref a] ∧ SqL K H a (ns.map V.int) ∧ ns.length ≤ 63 ∧ ∀ H', Q (.bl true) H'
theorem noLs_wins2 (l : List (List (Int × Int))) : noLs (l.map pairsD) = true := noLs_all.mpr fun d hd => by
  obtain ⟨x, _, rfl⟩ := List.mem_map.mp hd
  exact noL_pairs x
section
variable {P : Program} {w : World} {K : PySem.W.Frag} {mg : Str → Option Value} {base : Heap}
theorem sc_law : FnScope ["_law_script", "_law_feed", "_law_k", "_law_plan", "_law_weights", "_law_every_here", "_law_some", "_law_windows", "_law_works", "_law_cycle", "_law_inside", "_law_waits", "_law_turn", "_law_shown"] ["_law_script"] (defScope s_law) := ⟨rfl, rfl, rfl, by decide +kernel, rfl, by decide +kernel, by decide +kernel⟩
theorem ok_law {f : Addr} {fd : FuncData} (F : Fun K "law" "law" s_law f fd) (T : Txt mg) (D_law_fed : Def P w K mg base 1 "_law_fed" ["_law_script"] (sp_fed K)) (D_law_shape : Def P w K mg base 2 "_law_shape" ["_law_feed"] sp_shape) (D_law_a_plan : Def P w K mg base 3 "_law_a_plan" ["_law_feed", "_law_works", "_law_cycle", "_law_most"] (sp_a_plan K)) (D_law_some_weights : Def P w K mg base 2 "_law_some_weights" ["_law_feed", "_law_plan"] (sp_some_weights K))
    (D_law_every : Def P w K mg base 2 "_law_every" ["_law_plan", "_law_cycle"] (sp_every K)) (D_law_all_windows : Def P w K mg base 2 "_law_all_windows" ["_law_plan", "_law_cycle"] (sp_all_windows K)) (D_law_narrower : Def P w K mg base 3 "_law_narrower" ["_law_feed", "_law_windows"] (sp_narrower K)) (D_law_lie : Def P w K mg base 2 "_law_lie" ["_law_plan", "_law_cycle", "_law_windows", "_law_beats"] (sp_lie K)) (D_waits_of : Def P w K mg base 3 "waits_of" ["plan", "period", "weights", "beats"] (sp_waits_of K)) (D_law_some_prices : Def P w K mg base 3 "_law_some_prices" ["_law_feed", "_law_plan"] (sp_some_prices K)) (D_shown_by : Def P w K mg base 4 "shown_by" ["plan", "period", "weights", "windows", "prices"] (sp_shown_by K)) : FnOk P w K mg base CX0 5 f fd ["_law_script"] (sp_law K) := by
  refine F.ok sc_law (fun vs H Q E h => ?_) (fun cdv A outer s H vs Q E hr h => ?_)
  · obtain ⟨a, ns, rfl, _⟩ := h
    rfl
  · obtain ⟨a, ns, rfl, hS, hl, k⟩ := h
    refine ⟨_, (@pss_cons _ _ _ _ _ (@ps_set _ _ 1 _ _ _ _ sc_law.nd rfl (Or.inr rfl) (@pe_own _ _ _ _ _ _ _ _ _ _ D_law_fed (hr.mono (by decide)) rfl (@pa_name _ _ _ _ _ _ (@pv _ 0 _ _ rfl (Or.inl rfl) (by decide) (by decide)) (@pa_nil _)) (by decide) (by rfl) (by rfl)) (by rfl) (by first | exact Or.inl rfl | exact Or.inr rfl | assumption)) (@pss_cons _ _ _ _ _ (@ps_for _ _ _ _ _ _ _ _ PassesOwn.never rfl (@pi_range1 _ _ _ _ _ _ rfl T.n_range (@pa_const _ _ _ _ _ _ _ (@pe_int _ _ _ _) (@pa_nil _)) (by rfl)) (@pg_name _ _ 2 _ sc_law.nd rfl (Or.inl rfl) (by first | exact Or.inl rfl | exact Or.inr rfl | assumption)) (@pss_cons _ _ _ _ _ (@ps_asg _ _ _ _ _ _ (@pe_own _ _ _ _ _ _ _ _ _ _ D_law_shape (hr.mono (by decide)) rfl (@pa_name _ _ _ _ _ _ (@pv _ 1 _ _ rfl (Or.inr (Or.inl rfl)) (by decide) (by decide)) (@pa_nil _)) (by decide) (by rfl) (by rfl)) (@pg_tup _ _ _ _ _ _ rfl (@pgs_cons _ _ _ _ _ (@pg_name _ _ 8 _ sc_law.nd rfl (Or.inl rfl) (by first | exact Or.inl rfl | exact Or.inr rfl | assumption)) (@pgs_cons _ _ _ _ _ (@pg_name _ _ 9 _ sc_law.nd rfl (Or.inr rfl) (by first | exact Or.inl rfl | exact Or.inr rfl | assumption)) (@pgs_nil _) (by rfl)) (by rfl)) (by rfl) (by rfl)) (by rfl) (by rfl) (by rfl)) (@pss_cons _ _ _ _ _ (@ps_set _ _ 3 _ _ _ _ sc_law.nd rfl (Or.inr rfl) (@pe_own _ _ _ _ _ _ _ _ _ _ D_law_a_plan (hr.mono (by decide)) rfl (@pa_name _ _ _ _ _ _ (@pv _ 1 _ _ rfl (Or.inr (Or.inl rfl)) (by decide) (by decide)) (@pa_name _ _ _ _ _ _ (@pv _ 8 _ _ rfl (Or.inl rfl) (by decide) (by decide)) (@pa_name _ _ _ _ _ _ (@pv _ 9 _ _ rfl (Or.inr (Or.inl rfl)) (by decide) (by decide)) (@pa_const _ _ _ _ _ _ _ (@pe_int _ _ _ _) (@pa_nil _))))) (by decide) (by rfl) (by rfl)) (by rfl) (by first | exact Or.inl rfl | exact Or.inr rfl | assumption)) (@pss_cons _ _ _ _ _ (@ps_set _ _ 4 _ _ _ _ sc_law.nd rfl (Or.inr rfl) (@pe_own _ _ _ _ _ _ _ _ _ _ D_law_some_weights (hr.mono (by decide)) rfl (@pa_name _ _ _ _ _ _ (@pv _ 1 _ _ rfl (Or.inr (Or.inl rfl)) (by decide) (by decide)) (@pa_name _ _ _ _ _ _ (@pv _ 3 _ _ rfl (Or.inr (Or.inl rfl)) (by decide) (by decide)) (@pa_nil _))) (by decide) (by rfl) (by rfl)) (by rfl) (by first | exact Or.inl rfl | exact Or.inr rfl | assumption)) (@pss_cons _ _ _ _ _ (@ps_set _ _ 5 _ _ _ _ sc_law.nd rfl (Or.inl rfl) (@pe_own _ _ _ _ _ _ _ _ _ _ D_law_every (hr.mono (by decide)) rfl (@pa_name _ _ _ _ _ _ (@pv _ 3 _ _ rfl (Or.inr (Or.inl rfl)) (by decide) (by decide)) (@pa_name _ _ _ _ _ _ (@pv _ 9 _ _ rfl (Or.inr (Or.inl rfl)) (by decide) (by decide)) (@pa_nil _))) (by decide) (by rfl) (by rfl)) (by rfl) (by first | exact Or.inl rfl | exact Or.inr rfl | assumption)) (@pss_cons _ _ _ _ _ (@ps_set _ _ 6 _ _ _ _ sc_law.nd rfl (Or.inr rfl) (@pe_lst _ _ _ _ (@pa_call _ _ _ _ _ _ _ _ (@pe_own _ _ _ _ _ _ _ _ _ _ D_law_all_windows (hr.mono (by decide)) rfl (@pa_name _ _ _ _ _ _ (@pv _ 3 _ _ rfl (Or.inr (Or.inl rfl)) (by decide) (by decide)) (@pa_name _ _ _ _ _ _ (@pv _ 9 _ _ rfl (Or.inr (Or.inl rfl)) (by decide) (by decide)) (@pa_nil _))) (by decide) (by rfl) (by rfl)) (@pa_nil _))) (by rfl) (by first | exact Or.inl rfl | exact Or.inr rfl | assumption)) (@pss_cons _ _ _ _ _ (@ps_set _ _ 6 _ _ _ _ sc_law.nd rfl (Or.inr rfl) (@pe_op _ _ _ _ _ _ _ _ op_cat (@pv _ 6 _ _ rfl (Or.inr (Or.inl rfl)) (by decide) (by decide)) (@pe_lc _ ["_law_turn", "_law_feed", "_law_some"] [none, (some 1), (some 6)] _ _ _ _ _ _ _ _ _ _ rfl (@CScope.of _ _ _ _ rfl) (@pi_range1 _ _ _ _ _ _ rfl T.n_range (@pa_const _ _ _ _ _ _ _ (@pe_int _ _ _ _) (@pa_nil _)) (by rfl)) (fun _ _ _ _ _ => (@pgc _ _ _ _ _ _ _ _ 0 _ _ (by decide) rfl rfl)) (fun _ _ _ _ _ => pif_nil) (fun _ _ _ _ _ => (@pe_own _ _ _ _ _ _ _ _ _ _ D_law_narrower (hr.mono (by decide)) (glc rfl) (@pa_name _ _ _ _ _ _ (@pvc _ _ _ _ _ _ _ _ 1 _ _ (by rfl) (by first | exact Or.inl rfl | exact Or.inr rfl) (by decide) (by decide)) (@pa_sub _ _ _ _ _ _ _ (@pe_ix _ _ _ _ _ _ _ ixc_list (@pvc _ _ _ _ _ _ _ _ 2 _ _ (by rfl) (by first | exact Or.inl rfl | exact Or.inr rfl) (by decide) (by decide)) (@pe_int _ _ _ _) (fun _ _ => rfl)) (@pa_nil _))) (by decide) (by rfl) (by rfl))) (by intro _ ; rfl))) (by rfl) (by first | exact Or.inl rfl | exact Or.inr rfl | assumption)) (@pss_one _ _ _ (@ps_for _ _ _ _ _ _ _ _ PassesOwn.never rfl (@pi_list _ _ _ _ (@pv _ 6 _ _ rfl (Or.inr (Or.inl rfl)) (by decide) (by decide))) (@pg_name _ _ 7 _ sc_law.nd rfl (Or.inr rfl) (by first | exact Or.inl rfl | exact Or.inr rfl | assumption)) (@pss_cons _ _ _ _ _ (@ps_lc _ ["_law_beats", "_law_plan", "_law_windows", "_law_cycle"] [none, (some 3), (some 7), (some 9)] _ _ _ _ _ _ _ _ _ _ _ _ 10 _ sc_law.nd rfl rfl rfl (@CScope.of _ _ _ _ rfl) (@pi_list _ _ _ _ (@pv _ 5 _ _ rfl (Or.inl rfl) (by decide) (by decide))) (fun _ _ _ _ _ => (@pgc _ _ _ _ _ _ _ _ 0 _ _ (by decide) rfl rfl)) (fun _ _ _ _ _ => (@pif_one _ _ _ (@ptc_of _ _ _ _ _ _ _ _ _ _ (@pe_own _ _ _ _ _ _ _ _ _ _ D_law_lie (hr.mono (by decide)) (glc rfl) (@pa_name _ _ _ _ _ _ (@pvc _ _ _ _ _ _ _ _ 1 _ _ (by rfl) (by first | exact Or.inl rfl | exact Or.inr rfl) (by decide) (by decide)) (@pa_name _ _ _ _ _ _ (@pvc _ _ _ _ _ _ _ _ 3 _ _ (by rfl) (by first | exact Or.inl rfl | exact Or.inr rfl) (by decide) (by decide)) (@pa_name _ _ _ _ _ _ (@pvc _ _ _ _ _ _ _ _ 2 _ _ (by rfl) (by first | exact Or.inl rfl | exact Or.inr rfl) (by decide) (by decide)) (@pa_name _ _ _ _ _ _ (@pvc _ _ _ _ _ _ _ _ 0 _ _ (by rfl) (by first | exact Or.inl rfl | exact Or.inr rfl) (by decide) (by decide)) (@pa_nil _))))) (by decide) (by rfl) (by rfl)) (by intro _ ; rfl)))) (fun _ _ _ _ _ => (@pvc _ _ _ _ _ _ _ _ 0 _ _ (by rfl) (by first | exact Or.inl rfl | exact Or.inr rfl) (by decide) (by decide))) rfl (by intro _ ; rfl)) (@pss_cons _ _ _ _ _ (@ps_lc _ ["_law_beats", "_law_plan", "_law_weights", "_law_cycle"] [none, (some 3), (some 4), (some 9)] _ _ _ _ _ _ _ _ _ _ _ _ 11 _ sc_law.nd rfl rfl rfl (@CScope.of _ _ _ _ rfl) (@pi_list _ _ _ _ (@pv _ 10 _ _ rfl (Or.inl rfl) (by decide) (by decide))) (fun _ _ _ _ _ => (@pgc _ _ _ _ _ _ _ _ 0 _ _ (by decide) rfl rfl)) (fun _ _ _ _ _ => pif_nil) (fun _ _ _ _ _ => (@pe_own _ _ _ _ _ _ _ _ _ _ D_waits_of (hr.mono (by decide)) (glc rfl) (@pa_name _ _ _ _ _ _ (@pvc _ _ _ _ _ _ _ _ 1 _ _ (by rfl) (by first | exact Or.inl rfl | exact Or.inr rfl) (by decide) (by decide)) (@pa_name _ _ _ _ _ _ (@pvc _ _ _ _ _ _ _ _ 3 _ _ (by rfl) (by first | exact Or.inl rfl | exact Or.inr rfl) (by decide) (by decide)) (@pa_name _ _ _ _ _ _ (@pvc _ _ _ _ _ _ _ _ 2 _ _ (by rfl) (by first | exact Or.inl rfl | exact Or.inr rfl) (by decide) (by decide)) (@pa_name _ _ _ _ _ _ (@pvc _ _ _ _ _ _ _ _ 0 _ _ (by rfl) (by first | exact Or.inl rfl | exact Or.inr rfl) (by decide) (by decide)) (@pa_nil _))))) (by decide) (by rfl) (by rfl))) rfl (by intro _ ; rfl)) (@pss_one _ _ _ (@ps_for _ _ _ _ _ _ _ _ PassesOwn.never rfl (@pi_range1 _ _ _ _ _ _ rfl T.n_range (@pa_const _ _ _ _ _ _ _ (@pe_int _ _ _ _) (@pa_nil _)) (by rfl)) (@pg_name _ _ 12 _ sc_law.nd rfl (Or.inl rfl) (by first | exact Or.inl rfl | exact Or.inr rfl | assumption)) (@pss_cons _ _ _ _ _ (@ps_set _ _ 13 _ _ _ _ sc_law.nd rfl (Or.inl rfl) (@pe_own _ _ _ _ _ _ _ _ _ _ D_shown_by (hr.mono (by decide)) rfl (@pa_name _ _ _ _ _ _ (@pv _ 3 _ _ rfl (Or.inr (Or.inl rfl)) (by decide) (by decide)) (@pa_name _ _ _ _ _ _ (@pv _ 9 _ _ rfl (Or.inr (Or.inl rfl)) (by decide) (by decide)) (@pa_name _ _ _ _ _ _ (@pv _ 4 _ _ rfl (Or.inr (Or.inl rfl)) (by decide) (by decide)) (@pa_name _ _ _ _ _ _ (@pv _ 7 _ _ rfl (Or.inr (Or.inl rfl)) (by decide) (by decide)) (@pa_call _ _ _ _ _ _ _ _ (@pe_own _ _ _ _ _ _ _ _ _ _ D_law_some_prices (hr.mono (by decide)) rfl (@pa_name _ _ _ _ _ _ (@pv _ 1 _ _ rfl (Or.inr (Or.inl rfl)) (by decide) (by decide)) (@pa_name _ _ _ _ _ _ (@pv _ 3 _ _ rfl (Or.inr (Or.inl rfl)) (by decide) (by decide)) (@pa_nil _))) (by decide) (by rfl) (by rfl)) (@pa_nil _)))))) (by decide) (by rfl) (by rfl)) (by rfl) (by first | exact Or.inl rfl | exact Or.inr rfl | assumption)) (@pss_one _ _ _ (@ps_if _ _ _ _ _ _ _ _ (@PW.pt _ _ _ (@pw_and _ _ _ _ _ _ _ (@pt_cmpR _ _ _ _ _ _ _ _ (op_ne_nil hr) (@pv _ 11 _ _ rfl (Or.inl rfl) (by decide) (by decide)) (@pe_lst _ _ _ _ (@pa_nil _)) (nomark _)) (@pw_and1 _ _ _ _ (@pt_cmpR _ _ _ _ _ _ _ _ op_lt (@pe_callB _ _ _ _ _ _ _ _ _ (call_minL rfl) rfl T.n_min PyProof.Rows.boot_min (@pa_name _ _ _ _ _ _ (@pv _ 11 _ _ rfl (Or.inl rfl) (by decide) (by decide)) (@pa_nil _)) (by decide) (by decide) (by rfl) (by rfl)) (@pv _ 13 _ _ rfl (Or.inl rfl) (by decide) (by decide)) (nomark _))))) (@pss_one _ _ _ (@ps_ret _ _ _ _ (@pe_bl _ _ _ _))) (@pss_nil _)))) (by intro _ ; rfl))))) (by intro _ ; rfl))))))))) (by intro _ ; rfl)) (@pss_one _ _ _ (@ps_ret _ _ _ _ (@pe_bl _ _ _ _))))), ?_⟩
    refine ⟨_, rfl, a, ns, rfl, hS, hl, fun f c H1 F1 S1 => ?_⟩
    refine ⟨_, rfl, by decide, by decide, ?_⟩
    refine for_range (lo := 0) (n := (2 : Int).toNat) (fun i σ H2 => ∃ o2 o3 o4 o5 o6 o7 o8 o9 o10 o11 o12 o13, σ = [some (.ref a), some (.ref f), o2, o3, o4, o5, o6, o7, o8, o9, o10, o11, o12, o13] ∧ FeedB H2 f c (100000 * i)) ⟨_, _, _, _, _, _, _, _, _, _, _, _, rfl, F1.mono (by simp)⟩ ?_ ?_
    · rintro i σ H2 hi ⟨o2, o3, o4, o5, o6, o7, o8, o9, o10, o11, o12, o13, rfl, F2⟩
      have hi2 : i < 2 := hi
      refine ⟨_, rfl, f, c, _, rfl, F2, by omega, fun q3 wk cyc H3 F3 S3 h3 w1 w2 c1 c2 hpw => ?_⟩
      refine ⟨q3, _, rfl, SqT.of h3, rfl, _, _, rfl, _, _, rfl, rfl, ?_⟩
      try simp only [List.set_cons_zero, List.set_cons_succ]
      refine ⟨_, rfl, _, rfl, _, rfl, f, c, wk, cyc, 9, _, rfl, by omega, by omega, by omega, by omega, by decide, by decide, F3, by omega, fun q Pl H4 F4 S4 dp okp => ?_⟩
      have F4 := F4.mono (m := 100000 * i + 1010) (by omega)
      have hsl : Pl.spans.length ≤ 24 := by have := okp.s1; omega
      have hnl := okp.n1
      have hinn : ∀ s ∈ Pl.spans, s.In Pl.names.length := fun s hs => by rw [hnl]; exact (okp.s2 s hs).inn
      try simp only [List.set_cons_zero, List.set_cons_succ]
      refine ⟨_, rfl, _, rfl, f, c, _, Pl, _, rfl, dp, hsl, F4, by omega, fun wa ws H5 F5 S5 hwa hwl hwr => ?_⟩
      have dp := dp.tk (F4.tk S5) (noL_plan _)
      try simp only [List.set_cons_zero, List.set_cons_succ]
      refine ⟨_, rfl, _, rfl, .ref q, cyc, Pl, rfl, dp, by omega, by omega, hinn, c1, by omega, by rw [show Pl.names.length = wk.toNat by omega]; exact hpw, fun ev ys rows H6 S6 hev dvr hrl hre => ?_⟩
      have dp := dp.same S6
      have hwa := S6 _ _ hwa
      have F6 := F5.same S6
      have hevf : ev ≠ f := by
        obtain ⟨kv, e⟩ := F6.some
        exact ne_of hev e (by intro z; cases z)
      have hyl : ys.length = rows.length := by rw [dvr.length, rowsD, List.length_map]
      try simp only [List.set_cons_zero, List.set_cons_succ]
      refine ⟨_, rfl, _, rfl, .ref q, cyc, Pl, rfl, dp, by omega, fun w0 H7 S7 d7 => ⟨by show 1 ≤ sizeLine; decide, fun L7 hL7 => ?_⟩⟩
      have q7 := Same.new (o := .lst [.ref w0]) hL7
      have hL77 : (upd H7 L7 (.lst [.ref w0])) L7 = some (.lst [.ref w0]) := upd_same
      have S07 := S7.trans q7
      have d7 := d7.same q7
      revert hL77 S07 d7
      generalize upd H7 L7 (.lst [.ref w0]) = H8
      intro hL77 S07 d7
      have dp := dp.same S07
      have hwa := S07 _ _ hwa
      have F8 := F6.same S07
      have hev := S07 _ _ hev
      have dvr := dvr.same S07
      have hwz : ∀ p ∈ winsZ cyc Pl.spans, p.2 - p.1 ≤ 100000 := fun p hp => by
        obtain ⟨s, hs, rfl⟩ := List.mem_map.mp hp
        have := end_rng (okp.s2 s hs) (show 0 < cyc by omega) (by omega)
        show endZ cyc s - s.low ≤ 100000
        omega
      have hLf : L7 ≠ f := by
        obtain ⟨kv, e⟩ := F8.some
        exact ne_of hL77 e (by intro z; cases z)
      try simp only [List.set_cons_zero, List.set_cons_succ]
      refine ⟨_, rfl, _, rfl, by decide, by decide, fun D hD => ?_⟩
      have aw := F8.away hD
      refine lc_range 1 [some (.ref f), some (.ref L7)]
        (fun j us H9 => FeedB H9 f c (100000 * i + 1300 + 1000 * j) ∧ Sm f H8 H9 ∧ TK H8 H9 ∧ H9 D = some (.lst us) ∧ ∃ wl : List (List (Int × Int)), DVs K H9 us (wl.map pairsD) ∧ wl.length = j ∧ ∀ x ∈ wl, x.length = Pl.spans.length)
        rfl ⟨(F8.new hD).mono (by omega), Sm.new hD, TK.new hD, upd_same, [], .nil, rfl, fun _ h => (nomatch h)⟩ ?_ ?_
      · rintro j us H9 os hj ho ⟨F9, S9, T9, hD9, wl, dv9, hwll, hwlo⟩
        have hj2 : j < 2 := hj
        obtain ⟨o, rfl⟩ := one_of ho
        have hul : us.length = j := by rw [dv9.length, List.length_map, hwll]
        refine noifN ?_
        refine ⟨_, rfl, _, rfl, L7, _, _, _, rfl, rfl, SqL.of (S9 L7 _ hLf hL77), pickN (by decide) rfl, ?_⟩
        refine ⟨f, c, .ref w0, winsZ cyc Pl.spans, _, rfl, d7.tk T9 (noL_pairs _), by rw [winsZ_len]; exact hsl, hwz, F9, by omega, fun y ws' H10 F10 S10 d10 hl10 _ => ?_⟩
        have hD10 := S10 D _ aw.1 hD9
        refine LcN.mk (os := [some (.int (0 + (j : Int)))]) hj hD10 (by rw [hul]; exact Nat.lt_of_lt_of_le hj2 (by decide)) rfl rfl ?_
        have u := TK.updL (ys := us ++ [y]) hD10
        refine ⟨(F10.off aw.1 aw.2).mono (by omega), (S9.trans S10).acc hD, (T9.trans (F9.tk S10)).trans u, upd_same, wl ++ [ws'], ?_, by rw [List.length_append, hwll]; rfl, fun x hx => ?_⟩
        · rw [List.map_append]
          exact ((dv9.tk (F9.tk S10) (noLs_wins2 _)).tk u (noLs_wins2 _)).append (.cons (d10.tk u (noL_pairs _)) .nil)
        · rcases List.mem_append.mp hx with z | z
          · exact hwlo x z
          · rw [List.mem_singleton.mp z, hl10, winsZ_len]
      · rintro us H9 ⟨F9, S9, T9, hD9, wl, dv9, hwll, hwlo⟩
        have F9 := F9.mono (m := 100000 * i + 4000) (by show 100000 * (i : Int) + 1300 + 1000 * ((2 : Int).toNat : Int) ≤ _; omega)
        have hwll : wl.length = 2 := hwll
        have hul : us.length = 2 := by rw [dv9.length, List.length_map, hwll]
        refine ⟨L7, D, _, _, rfl, rfl, S9 L7 _ hLf hL77, hD9, by rw [hul]; show 1 + 2 ≤ sizeLine; decide, fun L10 hL10 => ?_⟩
        have q10 := Same.new (o := .lst ([.ref w0] ++ us)) hL10
        have hL100 : (upd H9 L10 (.lst ([.ref w0] ++ us))) L10 = some (.lst ([.ref w0] ++ us)) := upd_same
        have T10 : TK H8 (upd H9 L10 (.lst ([.ref w0] ++ us))) := T9.trans (TK.new hL10)
        have S10 : Sm f H8 (upd H9 L10 (.lst ([.ref w0] ++ us))) := S9.trans (Sm.new hL10)
        have F10 := F9.new (o := .lst ([.ref w0] ++ us)) hL10
        have dw10 : DVs K (upd H9 L10 (.lst ([.ref w0] ++ us))) ([.ref w0] ++ us) ((winsZ cyc Pl.spans :: wl).map pairsD) := .cons (d7.tk T10 (noL_pairs _)) (dv9.same q10)
        have hwlo2 : ∀ x ∈ winsZ cyc Pl.spans :: wl, x.length = Pl.spans.length := fun x hx => by
          rcases List.mem_cons.mp hx with z | z
          · rw [z, winsZ_len]
          · exact hwlo x z
        have hwl3 : (winsZ cyc Pl.spans :: wl).length = 3 := by rw [List.length_cons, hwll]
        revert hL100 T10 S10 F10 dw10 hwlo2 hwl3
        generalize upd H9 L10 (.lst ([.ref w0] ++ us)) = H11
        generalize winsZ cyc Pl.spans :: wl = wls
        generalize [V.ref w0] ++ us = vs10
        intro hL100 T10 S10 F10 dw10 hwlo2 hwl3
        have dp := dp.tk T10 (noL_plan _)
        have hwa := T10 _ _ hwa
        have hev := S10 ev _ hevf hev
        have dvr := dvr.tk T10 (noLs_rows _)
        have hLf10 : L10 ≠ f := by
          obtain ⟨kv, e⟩ := F10.some
          exact ne_of hL100 e (by intro z; cases z)
        try simp only [List.set_cons_zero, List.set_cons_succ]
        refine ⟨_, rfl, L10, rfl, ⟨_, SqL.of hL100⟩, ?_⟩
        have hvl : vs10.length = 3 := by rw [dw10.length, List.length_map, hwl3]
        refine for_list (K := K) (a := L10) (xs := vs10) (fun j σ H12 => ∃ o7 o10 o11 o12 o13, σ = [some (.ref a), some (.ref f), some (.int (0 + (i : Int))), some (.ref q), some (.ref wa), some (.ref ev), some (.ref L10), o7, some (.int wk), some (.int cyc), o10, o11, o12, o13] ∧ FeedB H12 f c (100000 * i + 4000 + 5000 * j) ∧ Sm f H11 H12 ∧ TK H11 H12)
          ⟨_, _, _, _, _, rfl, F10.mono (by omega), Sm.refl _ _, fun _ _ h => h⟩ (fun j σ H12 _ ⟨_, _, _, _, _, _, _, h, _⟩ => SqL.of (h L10 _ hLf10 hL100)) ?_ ?_
        · rintro j x σ H12 hj ⟨o7', o10', o11', o12', o13', rfl, F12, S12, T12⟩
          have hj3 : j < 3 := by have := (List.getElem?_eq_some_iff.mp hj).1; omega
          obtain ⟨d, hd, dx⟩ := dw10.get hj
          obtain ⟨wins, hwm, rfl⟩ := List.mem_map.mp (List.mem_of_getElem? hd)
          have hwlen := hwlo2 _ hwm
          have dx := dx.tk T12 (noL_pairs _)
          have dp := dp.tk T12 (noL_plan _)
          have hwa := T12 _ _ hwa
          have hev := S12 ev _ hevf hev
          have dvr := dvr.tk T12 (noLs_rows _)
          have hinb : ∀ b ∈ rows, ∀ s ∈ Pl.spans, s.In b.length := fun b hb s hs => by rw [hre b hb]; exact hinn s hs
          try simp only [List.set_cons_zero, List.set_cons_succ]
          refine ⟨_, rfl, ev, rfl, ⟨_, SqL.of hev⟩, fun D2 hD2 => ?_⟩
          refine lc_list (K := K) (a := ev) (xs := ys) 1 [some (.ref q), some x, some (.int cyc)]
            (fun m us H13 => Same H12 H13 ∧ H13 D2 = some (.lst us) ∧ ∃ ins : List (List Int), DVs K H13 us (rowsD ins) ∧ ins.length ≤ m ∧ ∀ b ∈ ins, b ∈ rows ∧ Lie cyc b Pl.spans wins)
            rfl ⟨Same.new hD2, upd_same, [], .nil, by simp, fun _ h => (nomatch h)⟩ (fun m us H13 _ ⟨h, _⟩ => SqL.of (h _ _ hev)) ?_ ?_
          · rintro m v us H13 os hm ho ⟨S13, hD13, ins, dv13, hil, hio⟩
            obtain ⟨o, rfl⟩ := one_of ho
            have hm0 : m < ys.length := (List.getElem?_eq_some_iff.mp hm).1
            obtain ⟨hm', b, rfl, hb⟩ := rows_item dvr hm
            have hul2 : us.length = ins.length := by rw [dv13.length, rowsD, List.length_map]
            refine ⟨_, rfl, _, rfl, _, rfl, _, rfl, .ref q, x, b, cyc, Pl, wins, rows[m], rfl, dp.same S13, dx.same S13, hwlen, by omega, S13 _ _ hb, hinb _ (List.getElem_mem hm'), by omega, by omega, fun t ht => ⟨t, rfl, ite2 (fun htt => ?_) (fun _ => ?_)⟩⟩
            · refine ⟨_, rfl, LcN.mk (os := [some (.ref b)]) hm0 hD13 (by rw [hul2]; exact Nat.lt_of_le_of_lt hil (Nat.lt_of_lt_of_le hm' (Nat.le_trans hrl (by decide)))) rfl rfl ?_⟩
              have u := TK.updL (ys := us ++ [.ref b]) hD13
              refine ⟨S13.acc hD2, upd_same, ins ++ [rows[m]], ?_, by rw [List.length_append]; show ins.length + 1 ≤ m + 1; omega, fun y hy => ?_⟩
              · rw [rowsD, List.map_append]
                exact (dv13.tk u (noLs_rows _)).append (.cons (.tup (u _ _ (S13 _ _ hb)) (DVs.ints _)) .nil)
              · rcases List.mem_append.mp hy with z | z
                · exact hio y z
                · rw [List.mem_singleton.mp z]; exact ⟨List.getElem_mem hm', ht htt⟩
            · exact LcS.mk (os := [some (.ref b)]) hm0 rfl rfl ⟨S13, hD13, ins, dv13, by omega, hio⟩
          · rintro us H13 ⟨S13, hD13, ins, dv13, hil, hio⟩
            have hul2 : us.length = ins.length := by rw [dv13.length, rowsD, List.length_map]
            have dp := dp.same S13
            have hwa := S13 _ _ hwa
            try simp only [List.set_cons_zero, List.set_cons_succ]
            refine ⟨_, rfl, D2, rfl, ⟨_, SqL.of hD13⟩, fun D3 hD3 => ?_⟩
            refine lc_list (K := K) (a := D2) (xs := us) 1 [some (.ref q), some (.ref wa), some (.int cyc)]
              (fun m zs H14 => Same H13 H14 ∧ H14 D3 = some (.lst zs) ∧ ∃ ns : List Int, zs = ns.map V.int ∧ ns.length = m ∧ ∀ z ∈ ns, ∃ b ∈ ins, z = waitsN cyc ws b Pl.spans Pl.spans.length)
              rfl ⟨Same.new hD3, upd_same, [], rfl, rfl, fun _ h => (nomatch h)⟩ (fun m zs H14 _ ⟨h, _⟩ => SqL.of (h _ _ hD13)) ?_ ?_
            · rintro m v zs H14 os hm ho ⟨S14, hD14, ns, rfl, hnl2, hno⟩
              obtain ⟨o, rfl⟩ := one_of ho
              have hm0 : m < us.length := (List.getElem?_eq_some_iff.mp hm).1
              obtain ⟨hm', b, rfl, hb⟩ := rows_item dv13 hm
              have hbm := hio _ (List.getElem_mem hm')
              refine noifN ?_
              refine ⟨_, rfl, _, rfl, _, rfl, _, rfl, .ref q, wa, b, cyc, Pl, ws, ins[m], rfl, dp.same S14, by omega, S14 _ _ hwa, hwl, hwr, S14 _ _ hb, hinb _ hbm.1, by omega, fun H15 S15 => ?_⟩
              have hD15 := S15 _ _ hD14
              refine LcN.mk (os := [some (.ref b)]) hm0 hD15 (by rw [List.length_map, hnl2]; exact Nat.lt_of_lt_of_le hm' (Nat.le_trans hil (by rw [hyl]; exact Nat.le_trans hrl (by decide)))) rfl rfl ?_
              refine ⟨(S14.trans S15).acc hD3, upd_same, ns ++ [waitsN cyc ws ins[m] Pl.spans Pl.spans.length], by rw [List.map_append]; rfl, by rw [List.length_append, hnl2]; rfl, fun z hz => ?_⟩
              rcases List.mem_append.mp hz with y | y
              · exact hno z y
              · rw [List.mem_singleton.mp y]; exact ⟨_, List.getElem_mem hm', rfl⟩
            · rintro zs H14 ⟨S14, hD14, ns, rfl, hnl2, hno⟩
              have S124 := S13.trans S14
              have F14 := F12.same S124
              have dp := dp.same S14
              have hwa := S14 _ _ hwa
              have dx := dx.same S124
              have hDf : D3 ≠ f := by
                obtain ⟨kv, e⟩ := F14.some
                exact ne_of hD14 e (by intro z; cases z)
              try simp only [List.set_cons_zero, List.set_cons_succ]
              refine ⟨_, rfl, by decide, by decide, ?_⟩
              refine for_range (lo := 0) (n := (3 : Int).toNat) (fun t σ H15 => ∃ o12 o13, σ = [some (.ref a), some (.ref f), some (.int (0 + (i : Int))), some (.ref q), some (.ref wa), some (.ref ev), some (.ref L10), some x, some (.int wk), some (.int cyc), some (.ref D2), some (.ref D3), o12, o13] ∧ FeedB H15 f c (100000 * i + 4000 + 5000 * j + 1100 * t) ∧ Sm f H14 H15 ∧ TK H14 H15)
                ⟨_, _, rfl, F14.mono (by omega), Sm.refl _ _, fun _ _ h => h⟩ ?_ ?_
              · rintro t σ H15 ht ⟨o12'', o13'', rfl, F15, S15, T15⟩
                have ht3 : t < 3 := ht
                try simp only [List.set_cons_zero, List.set_cons_succ]
                refine ⟨_, rfl, _, rfl, _, rfl, _, rfl, _, rfl, _, rfl, f, c, .ref q, Pl, wk, _, rfl, dp.tk T15 (noL_plan _), okp, w2, F15, by omega, fun pq ps H16 F16 S16 dps okps hcl => ?_⟩
                have T16 := F15.tk S16
                have T1516 := T15.trans T16
                refine ⟨.ref q, x, .ref pq, wa, cyc, Pl, ws, wins, ps, rfl, dp.tk T1516 (noL_plan _), hsl, T1516 _ _ hwa, hwl, hwr, dx.tk T1516 (noL_pairs _), hwlen, dps, by rw [hwl]; exact okps, by omega, by omega, fun H17 S17 => ?_⟩
                have S1417 : Sm f H14 H17 := S15.trans (S16.trans (Sm.same S17))
                have hD17 := S1417 D3 _ hDf hD14
                have F17 := F16.same S17
                try simp only [List.set_cons_zero, List.set_cons_succ]
                have stay : ∀ (HH : Hp), Same H17 HH → ∃ o12 o13, [some (V.ref a), some (.ref f), some (.int (0 + (i : Int))), some (.ref q), some (.ref wa), some (.ref ev), some (.ref L10), some x, some (.int wk), some (.int cyc), some (.ref D2), some (.ref D3), some (.int (0 + (t : Int))), some (.int (spansN Pl.spans wins (leftZ ws ps) Pl.spans.length + ringsZ cyc Pl.spans wins ps))] = [some (.ref a), some (.ref f), some (.int (0 + (i : Int))), some (.ref q), some (.ref wa), some (.ref ev), some (.ref L10), some x, some (.int wk), some (.int cyc), some (.ref D2), some (.ref D3), o12, o13] ∧ FeedB HH f c (100000 * i + 4000 + 5000 * j + 1100 * ((t + 1 : Nat) : Int)) ∧ Sm f H14 HH ∧ TK H14 HH := fun HH S => ⟨_, _, rfl, (F17.same S).mono (by omega), S1417.trans (Sm.same S), (F14.tk S1417).trans (Same.tk S)⟩
                refine ⟨_, rfl, by show 0 ≤ sizeLine; decide, fun e he => ⟨D3, e, _, rfl, rfl, SqL.of (Same.new he _ _ hD17), SqL.of upd_same, _, rfl, ite2 (fun hne => ?_) (fun _ => stay _ (Same.new he))⟩⟩
                refine ⟨_, rfl, D3, ns, rfl, SqL.of (Same.new he _ _ hD17), ?_, fun m hm => ⟨_, rfl, _, _, rfl, rfl, _, rfl, ite2 (fun hlt => ?_) (fun _ => stay _ (Same.new he))⟩⟩
                · cases ns with
                  | nil => simp at hne
                  | cons y r => simp
                · exfalso
                  have hlt := of_decide_eq_true hlt
                  obtain ⟨b, hb, rfl⟩ := hno m hm
                  have := shown_le (per := cyc) (bs := b) (l := Pl.spans) (wins := wins) (ws := ws) (ps := ps) (by omega) (hio b hb).2 hwl (fun p hp => ⟨(okps.each p hp).1.1, (okps.each p hp).2.2, hcl p hp⟩)
                  omega
              · rintro σ H15 ⟨o12'', o13'', rfl, F15, S15, T15⟩
                exact ⟨_, _, _, _, _, rfl, F15.mono (by show 100000 * (i : Int) + 4000 + 5000 * j + 1100 * ((3 : Int).toNat : Int) ≤ _; omega), S12.trans ((Sm.same S124).trans S15), T12.trans ((Same.tk S124).trans T15)⟩
        · rintro σ H12 ⟨o7', o10', o11', o12', o13', rfl, F12, S12, T12⟩
          exact ⟨_, _, _, _, _, _, _, _, _, _, _, _, rfl, F12.mono (by omega)⟩
    · rintro σ H2 ⟨o2, o3, o4, o5, o6, o7, o8, o9, o10, o11, o12, o13, rfl, F2⟩
      exact k H2
end

theorem all_mk {l : PySem.W.OpenLaw} {w : World} {K : PySem.W.Frag} {h : Heap} {mg : Str → Option Value} {fa : Addr} (X : K.In h) (G : h.Ns mainGlobals mg) (hfa : mg "law" = some (.ref fa))
    {f0 : Addr} {od0 an0 : Option Addr} {sl0 : Array (Option Value)} {oc0 kV0 dc0 pm0 cd0 ct0 : Value}
    (a0 : PySem.W.nsIn K mainGlobals "_law_fed" = some (some (.ref f0))) (l0 : K.lookup f0 = some ⟨oc0, od0, .func (PySem.W.fnOf "_law_fed" "_law_fed" (defArgs s_law_fed) (defBody s_law_fed) (defScope s_law_fed) .none kV0 dc0 pm0 an0 cd0 ct0), sl0⟩) (c0 : PySem.W.codeIn K cd0 "_law_fed" = true) (k0 : PySem.W.keepIn K (.ref f0) = true)
    {f1 : Addr} {od1 an1 : Option Addr} {sl1 : Array (Option Value)} {oc1 kV1 dc1 pm1 cd1 ct1 : Value}
    (a1 : PySem.W.nsIn K mainGlobals "_law_draw" = some (some (.ref f1))) (l1 : K.lookup f1 = some ⟨oc1, od1, .func (PySem.W.fnOf "_law_draw" "_law_draw" (defArgs s_law_draw) (defBody s_law_draw) (defScope s_law_draw) .none kV1 dc1 pm1 an1 cd1 ct1), sl1⟩) (c1 : PySem.W.codeIn K cd1 "_law_draw" = true) (k1 : PySem.W.keepIn K (.ref f1) = true)
    {f2 : Addr} {od2 an2 : Option Addr} {sl2 : Array (Option Value)} {oc2 kV2 dc2 pm2 cd2 ct2 : Value}
    (a2 : PySem.W.nsIn K mainGlobals "_law_fit" = some (some (.ref f2))) (l2 : K.lookup f2 = some ⟨oc2, od2, .func (PySem.W.fnOf "_law_fit" "_law_fit" (defArgs s_law_fit) (defBody s_law_fit) (defScope s_law_fit) .none kV2 dc2 pm2 an2 cd2 ct2), sl2⟩) (c2 : PySem.W.codeIn K cd2 "_law_fit" = true) (k2 : PySem.W.keepIn K (.ref f2) = true)
    {f3 : Addr} {od3 an3 : Option Addr} {sl3 : Array (Option Value)} {oc3 kV3 dc3 pm3 cd3 ct3 : Value}
    (a3 : PySem.W.nsIn K mainGlobals "_law_any_span" = some (some (.ref f3))) (l3 : K.lookup f3 = some ⟨oc3, od3, .func (PySem.W.fnOf "_law_any_span" "_law_any_span" (defArgs s_law_any_span) (defBody s_law_any_span) (defScope s_law_any_span) .none kV3 dc3 pm3 an3 cd3 ct3), sl3⟩) (c3 : PySem.W.codeIn K cd3 "_law_any_span" = true) (k3 : PySem.W.keepIn K (.ref f3) = true)
    {f4 : Addr} {od4 an4 : Option Addr} {sl4 : Array (Option Value)} {oc4 kV4 dc4 pm4 cd4 ct4 : Value}
    (a4 : PySem.W.nsIn K mainGlobals "_law_a_plan" = some (some (.ref f4))) (l4 : K.lookup f4 = some ⟨oc4, od4, .func (PySem.W.fnOf "_law_a_plan" "_law_a_plan" (defArgs s_law_a_plan) (defBody s_law_a_plan) (defScope s_law_a_plan) .none kV4 dc4 pm4 an4 cd4 ct4), sl4⟩) (c4 : PySem.W.codeIn K cd4 "_law_a_plan" = true) (k4 : PySem.W.keepIn K (.ref f4) = true)
    {f5 : Addr} {od5 an5 : Option Addr} {sl5 : Array (Option Value)} {oc5 kV5 dc5 pm5 cd5 ct5 : Value}
    (a5 : PySem.W.nsIn K mainGlobals "_law_some_weights" = some (some (.ref f5))) (l5 : K.lookup f5 = some ⟨oc5, od5, .func (PySem.W.fnOf "_law_some_weights" "_law_some_weights" (defArgs s_law_some_weights) (defBody s_law_some_weights) (defScope s_law_some_weights) .none kV5 dc5 pm5 an5 cd5 ct5), sl5⟩) (c5 : PySem.W.codeIn K cd5 "_law_some_weights" = true) (k5 : PySem.W.keepIn K (.ref f5) = true)
    {f6 : Addr} {od6 an6 : Option Addr} {sl6 : Array (Option Value)} {oc6 kV6 dc6 pm6 cd6 ct6 : Value}
    (a6 : PySem.W.nsIn K mainGlobals "length_of" = some (some (.ref f6))) (l6 : K.lookup f6 = some ⟨oc6, od6, .func (PySem.W.fnOf "length_of" "length_of" (defArgs s_length_of) (defBody s_length_of) (defScope s_length_of) .none kV6 dc6 pm6 an6 cd6 ct6), sl6⟩) (c6 : PySem.W.codeIn K cd6 "length_of" = true) (k6 : PySem.W.keepIn K (.ref f6) = true)
    {f7 : Addr} {od7 an7 : Option Addr} {sl7 : Array (Option Value)} {oc7 kV7 dc7 pm7 cd7 ct7 : Value}
    (a7 : PySem.W.nsIn K mainGlobals "lengths_of" = some (some (.ref f7))) (l7 : K.lookup f7 = some ⟨oc7, od7, .func (PySem.W.fnOf "lengths_of" "lengths_of" (defArgs s_lengths_of) (defBody s_lengths_of) (defScope s_lengths_of) .none kV7 dc7 pm7 an7 cd7 ct7), sl7⟩) (c7 : PySem.W.codeIn K cd7 "lengths_of" = true) (k7 : PySem.W.keepIn K (.ref f7) = true)
    {f8 : Addr} {od8 an8 : Option Addr} {sl8 : Array (Option Value)} {oc8 kV8 dc8 pm8 cd8 ct8 : Value}
    (a8 : PySem.W.nsIn K mainGlobals "waits_of" = some (some (.ref f8))) (l8 : K.lookup f8 = some ⟨oc8, od8, .func (PySem.W.fnOf "waits_of" "waits_of" (defArgs s_waits_of) (defBody s_waits_of) (defScope s_waits_of) .none kV8 dc8 pm8 an8 cd8 ct8), sl8⟩) (c8 : PySem.W.codeIn K cd8 "waits_of" = true) (k8 : PySem.W.keepIn K (.ref f8) = true)
    {f9 : Addr} {od9 an9 : Option Addr} {sl9 : Array (Option Value)} {oc9 kV9 dc9 pm9 cd9 ct9 : Value}
    (a9 : PySem.W.nsIn K mainGlobals "_law_length" = some (some (.ref f9))) (l9 : K.lookup f9 = some ⟨oc9, od9, .func (PySem.W.fnOf "_law_length" "_law_length" (defArgs s_law_length) (defBody s_law_length) (defScope s_law_length) .none kV9 dc9 pm9 an9 cd9 ct9), sl9⟩) (c9 : PySem.W.codeIn K cd9 "_law_length" = true) (k9 : PySem.W.keepIn K (.ref f9) = true)
    {f10 : Addr} {od10 an10 : Option Addr} {sl10 : Array (Option Value)} {oc10 kV10 dc10 pm10 cd10 ct10 : Value}
    (a10 : PySem.W.nsIn K mainGlobals "entry_sums" = some (some (.ref f10))) (l10 : K.lookup f10 = some ⟨oc10, od10, .func (PySem.W.fnOf "entry_sums" "entry_sums" (defArgs s_entry_sums) (defBody s_entry_sums) (defScope s_entry_sums) .none kV10 dc10 pm10 an10 cd10 ct10), sl10⟩) (c10 : PySem.W.codeIn K cd10 "entry_sums" = true) (k10 : PySem.W.keepIn K (.ref f10) = true)
    {f11 : Addr} {od11 an11 : Option Addr} {sl11 : Array (Option Value)} {oc11 kV11 dc11 pm11 cd11 ct11 : Value}
    (a11 : PySem.W.nsIn K mainGlobals "sums_of" = some (some (.ref f11))) (l11 : K.lookup f11 = some ⟨oc11, od11, .func (PySem.W.fnOf "sums_of" "sums_of" (defArgs s_sums_of) (defBody s_sums_of) (defScope s_sums_of) .none kV11 dc11 pm11 an11 cd11 ct11), sl11⟩) (c11 : PySem.W.codeIn K cd11 "sums_of" = true) (k11 : PySem.W.keepIn K (.ref f11) = true)
    {f12 : Addr} {od12 an12 : Option Addr} {sl12 : Array (Option Value)} {oc12 kV12 dc12 pm12 cd12 ct12 : Value}
    (a12 : PySem.W.nsIn K mainGlobals "left_of" = some (some (.ref f12))) (l12 : K.lookup f12 = some ⟨oc12, od12, .func (PySem.W.fnOf "left_of" "left_of" (defArgs s_left_of) (defBody s_left_of) (defScope s_left_of) .none kV12 dc12 pm12 an12 cd12 ct12), sl12⟩) (c12 : PySem.W.codeIn K cd12 "left_of" = true) (k12 : PySem.W.keepIn K (.ref f12) = true)
    {f13 : Addr} {od13 an13 : Option Addr} {sl13 : Array (Option Value)} {oc13 kV13 dc13 pm13 cd13 ct13 : Value}
    (a13 : PySem.W.nsIn K mainGlobals "shown_by_span" = some (some (.ref f13))) (l13 : K.lookup f13 = some ⟨oc13, od13, .func (PySem.W.fnOf "shown_by_span" "shown_by_span" (defArgs s_shown_by_span) (defBody s_shown_by_span) (defScope s_shown_by_span) .none kV13 dc13 pm13 an13 cd13 ct13), sl13⟩) (c13 : PySem.W.codeIn K cd13 "shown_by_span" = true) (k13 : PySem.W.keepIn K (.ref f13) = true)
    {f14 : Addr} {od14 an14 : Option Addr} {sl14 : Array (Option Value)} {oc14 kV14 dc14 pm14 cd14 ct14 : Value}
    (a14 : PySem.W.nsIn K mainGlobals "shown_by_ring" = some (some (.ref f14))) (l14 : K.lookup f14 = some ⟨oc14, od14, .func (PySem.W.fnOf "shown_by_ring" "shown_by_ring" (defArgs s_shown_by_ring) (defBody s_shown_by_ring) (defScope s_shown_by_ring) .none kV14 dc14 pm14 an14 cd14 ct14), sl14⟩) (c14 : PySem.W.codeIn K cd14 "shown_by_ring" = true) (k14 : PySem.W.keepIn K (.ref f14) = true)
    {f15 : Addr} {od15 an15 : Option Addr} {sl15 : Array (Option Value)} {oc15 kV15 dc15 pm15 cd15 ct15 : Value}
    (a15 : PySem.W.nsIn K mainGlobals "shown_by" = some (some (.ref f15))) (l15 : K.lookup f15 = some ⟨oc15, od15, .func (PySem.W.fnOf "shown_by" "shown_by" (defArgs s_shown_by) (defBody s_shown_by) (defScope s_shown_by) .none kV15 dc15 pm15 an15 cd15 ct15), sl15⟩) (c15 : PySem.W.codeIn K cd15 "shown_by" = true) (k15 : PySem.W.keepIn K (.ref f15) = true)
    {f16 : Addr} {od16 an16 : Option Addr} {sl16 : Array (Option Value)} {oc16 kV16 dc16 pm16 cd16 ct16 : Value}
    (a16 : PySem.W.nsIn K mainGlobals "_law_window" = some (some (.ref f16))) (l16 : K.lookup f16 = some ⟨oc16, od16, .func (PySem.W.fnOf "_law_window" "_law_window" (defArgs s_law_window) (defBody s_law_window) (defScope s_law_window) .none kV16 dc16 pm16 an16 cd16 ct16), sl16⟩) (c16 : PySem.W.codeIn K cd16 "_law_window" = true) (k16 : PySem.W.keepIn K (.ref f16) = true)
    {f17 : Addr} {od17 an17 : Option Addr} {sl17 : Array (Option Value)} {oc17 kV17 dc17 pm17 cd17 ct17 : Value}
    (a17 : PySem.W.nsIn K mainGlobals "_law_all_windows" = some (some (.ref f17))) (l17 : K.lookup f17 = some ⟨oc17, od17, .func (PySem.W.fnOf "_law_all_windows" "_law_all_windows" (defArgs s_law_all_windows) (defBody s_law_all_windows) (defScope s_law_all_windows) .none kV17 dc17 pm17 an17 cd17 ct17), sl17⟩) (c17 : PySem.W.codeIn K cd17 "_law_all_windows" = true) (k17 : PySem.W.keepIn K (.ref f17) = true)
    {f18 : Addr} {od18 an18 : Option Addr} {sl18 : Array (Option Value)} {oc18 kV18 dc18 pm18 cd18 ct18 : Value}
    (a18 : PySem.W.nsIn K mainGlobals "_law_steps" = some (some (.ref f18))) (l18 : K.lookup f18 = some ⟨oc18, od18, .func (PySem.W.fnOf "_law_steps" "_law_steps" (defArgs s_law_steps) (defBody s_law_steps) (defScope s_law_steps) .none kV18 dc18 pm18 an18 cd18 ct18), sl18⟩) (c18 : PySem.W.codeIn K cd18 "_law_steps" = true) (k18 : PySem.W.keepIn K (.ref f18) = true)
    {f19 : Addr} {od19 an19 : Option Addr} {sl19 : Array (Option Value)} {oc19 kV19 dc19 pm19 cd19 ct19 : Value}
    (a19 : PySem.W.nsIn K mainGlobals "_law_ways" = some (some (.ref f19))) (l19 : K.lookup f19 = some ⟨oc19, od19, .func (PySem.W.fnOf "_law_ways" "_law_ways" (defArgs s_law_ways) (defBody s_law_ways) (defScope s_law_ways) .none kV19 dc19 pm19 an19 cd19 ct19), sl19⟩) (c19 : PySem.W.codeIn K cd19 "_law_ways" = true) (k19 : PySem.W.keepIn K (.ref f19) = true)
    {f20 : Addr} {od20 an20 : Option Addr} {sl20 : Array (Option Value)} {oc20 kV20 dc20 pm20 cd20 ct20 : Value}
    (a20 : PySem.W.nsIn K mainGlobals "_law_back" = some (some (.ref f20))) (l20 : K.lookup f20 = some ⟨oc20, od20, .func (PySem.W.fnOf "_law_back" "_law_back" (defArgs s_law_back) (defBody s_law_back) (defScope s_law_back) .none kV20 dc20 pm20 an20 cd20 ct20), sl20⟩) (c20 : PySem.W.codeIn K cd20 "_law_back" = true) (k20 : PySem.W.keepIn K (.ref f20) = true)
    {f21 : Addr} {od21 an21 : Option Addr} {sl21 : Array (Option Value)} {oc21 kV21 dc21 pm21 cd21 ct21 : Value}
    (a21 : PySem.W.nsIn K mainGlobals "_law_a_cut" = some (some (.ref f21))) (l21 : K.lookup f21 = some ⟨oc21, od21, .func (PySem.W.fnOf "_law_a_cut" "_law_a_cut" (defArgs s_law_a_cut) (defBody s_law_a_cut) (defScope s_law_a_cut) .none kV21 dc21 pm21 an21 cd21 ct21), sl21⟩) (c21 : PySem.W.codeIn K cd21 "_law_a_cut" = true) (k21 : PySem.W.keepIn K (.ref f21) = true)
    {f22 : Addr} {od22 an22 : Option Addr} {sl22 : Array (Option Value)} {oc22 kV22 dc22 pm22 cd22 ct22 : Value}
    (a22 : PySem.W.nsIn K mainGlobals "_law_walk" = some (some (.ref f22))) (l22 : K.lookup f22 = some ⟨oc22, od22, .func (PySem.W.fnOf "_law_walk" "_law_walk" (defArgs s_law_walk) (defBody s_law_walk) (defScope s_law_walk) .none kV22 dc22 pm22 an22 cd22 ct22), sl22⟩) (c22 : PySem.W.codeIn K cd22 "_law_walk" = true) (k22 : PySem.W.keepIn K (.ref f22) = true)
    {f23 : Addr} {od23 an23 : Option Addr} {sl23 : Array (Option Value)} {oc23 kV23 dc23 pm23 cd23 ct23 : Value}
    (a23 : PySem.W.nsIn K mainGlobals "_law_some_prices" = some (some (.ref f23))) (l23 : K.lookup f23 = some ⟨oc23, od23, .func (PySem.W.fnOf "_law_some_prices" "_law_some_prices" (defArgs s_law_some_prices) (defBody s_law_some_prices) (defScope s_law_some_prices) .none kV23 dc23 pm23 an23 cd23 ct23), sl23⟩) (c23 : PySem.W.codeIn K cd23 "_law_some_prices" = true) (k23 : PySem.W.keepIn K (.ref f23) = true)
    {f24 : Addr} {od24 an24 : Option Addr} {sl24 : Array (Option Value)} {oc24 kV24 dc24 pm24 cd24 ct24 : Value}
    (a24 : PySem.W.nsIn K mainGlobals "_law_shape" = some (some (.ref f24))) (l24 : K.lookup f24 = some ⟨oc24, od24, .func (PySem.W.fnOf "_law_shape" "_law_shape" (defArgs s_law_shape) (defBody s_law_shape) (defScope s_law_shape) .none kV24 dc24 pm24 an24 cd24 ct24), sl24⟩) (c24 : PySem.W.codeIn K cd24 "_law_shape" = true) (k24 : PySem.W.keepIn K (.ref f24) = true)
    {f25 : Addr} {od25 an25 : Option Addr} {sl25 : Array (Option Value)} {oc25 kV25 dc25 pm25 cd25 ct25 : Value}
    (a25 : PySem.W.nsIn K mainGlobals "_law_with" = some (some (.ref f25))) (l25 : K.lookup f25 = some ⟨oc25, od25, .func (PySem.W.fnOf "_law_with" "_law_with" (defArgs s_law_with) (defBody s_law_with) (defScope s_law_with) .none kV25 dc25 pm25 an25 cd25 ct25), sl25⟩) (c25 : PySem.W.codeIn K cd25 "_law_with" = true) (k25 : PySem.W.keepIn K (.ref f25) = true)
    {f26 : Addr} {od26 an26 : Option Addr} {sl26 : Array (Option Value)} {oc26 kV26 dc26 pm26 cd26 ct26 : Value}
    (a26 : PySem.W.nsIn K mainGlobals "_law_narrower" = some (some (.ref f26))) (l26 : K.lookup f26 = some ⟨oc26, od26, .func (PySem.W.fnOf "_law_narrower" "_law_narrower" (defArgs s_law_narrower) (defBody s_law_narrower) (defScope s_law_narrower) .none kV26 dc26 pm26 an26 cd26 ct26), sl26⟩) (c26 : PySem.W.codeIn K cd26 "_law_narrower" = true) (k26 : PySem.W.keepIn K (.ref f26) = true)
    {f27 : Addr} {od27 an27 : Option Addr} {sl27 : Array (Option Value)} {oc27 kV27 dc27 pm27 cd27 ct27 : Value}
    (a27 : PySem.W.nsIn K mainGlobals "_law_lie" = some (some (.ref f27))) (l27 : K.lookup f27 = some ⟨oc27, od27, .func (PySem.W.fnOf "_law_lie" "_law_lie" (defArgs s_law_lie) (defBody s_law_lie) (defScope s_law_lie) .none kV27 dc27 pm27 an27 cd27 ct27), sl27⟩) (c27 : PySem.W.codeIn K cd27 "_law_lie" = true) (k27 : PySem.W.keepIn K (.ref f27) = true)
    {f28 : Addr} {od28 an28 : Option Addr} {sl28 : Array (Option Value)} {oc28 kV28 dc28 pm28 cd28 ct28 : Value}
    (a28 : PySem.W.nsIn K mainGlobals "_law_firsts" = some (some (.ref f28))) (l28 : K.lookup f28 = some ⟨oc28, od28, .func (PySem.W.fnOf "_law_firsts" "_law_firsts" (defArgs s_law_firsts) (defBody s_law_firsts) (defScope s_law_firsts) .none kV28 dc28 pm28 an28 cd28 ct28), sl28⟩) (c28 : PySem.W.codeIn K cd28 "_law_firsts" = true) (k28 : PySem.W.keepIn K (.ref f28) = true)
    {f29 : Addr} {od29 an29 : Option Addr} {sl29 : Array (Option Value)} {oc29 kV29 dc29 pm29 cd29 ct29 : Value}
    (a29 : PySem.W.nsIn K mainGlobals "_law_every" = some (some (.ref f29))) (l29 : K.lookup f29 = some ⟨oc29, od29, .func (PySem.W.fnOf "_law_every" "_law_every" (defArgs s_law_every) (defBody s_law_every) (defScope s_law_every) .none kV29 dc29 pm29 an29 cd29 ct29), sl29⟩) (c29 : PySem.W.codeIn K cd29 "_law_every" = true) (k29 : PySem.W.keepIn K (.ref f29) = true)
    {f30 : Addr} {od30 an30 : Option Addr} {sl30 : Array (Option Value)} {oc30 kV30 dc30 pm30 cd30 ct30 : Value}
    (a30 : PySem.W.nsIn K mainGlobals "law" = some (some (.ref f30))) (l30 : K.lookup f30 = some ⟨oc30, od30, .func (PySem.W.fnOf "law" "law" (defArgs s_law) (defBody s_law) (defScope s_law) .none kV30 dc30 pm30 an30 cd30 ct30), sl30⟩) (c30 : PySem.W.codeIn K cd30 "law" = true) (k30 : PySem.W.keepIn K (.ref f30) = true)
    (z_len : PySem.W.nsIn K mainGlobals "len" = some none)
    (z_repr : PySem.W.nsIn K mainGlobals "repr" = some none)
    (z_min : PySem.W.nsIn K mainGlobals "min" = some none)
    (z_max : PySem.W.nsIn K mainGlobals "max" = some none)
    (z_tuple : PySem.W.nsIn K mainGlobals "tuple" = some none)
    (z_list : PySem.W.nsIn K mainGlobals "list" = some none)
    (z_int : PySem.W.nsIn K mainGlobals "int" = some none)
    (z_range : PySem.W.nsIn K mainGlobals "range" = some none)
    (z_sum : PySem.W.nsIn K mainGlobals "sum" = some none)
    (z_all : PySem.W.nsIn K mainGlobals "all" = some none)
    (z_any : PySem.W.nsIn K mainGlobals "any" = some none)
    (z_sorted : PySem.W.nsIn K mainGlobals "sorted" = some none)
    (z_enumerate : PySem.W.nsIn K mainGlobals "enumerate" = some none)
    (z_isinstance : PySem.W.nsIn K mainGlobals "isinstance" = some none)
    (z_set : PySem.W.nsIn K mainGlobals "set" = some none)
    : ∃ fd : FuncData, (∀ (s : Shared) (v : Value), BindsTo s fd ⟨[v], []⟩ [("_law_script", v)]) ∧ ∀ base : Heap, K.In base → base.Ns mainGlobals mg → FnOk l.prog w K mg base CX0 5 fa fd ["_law_script"] (sp_law K) := by
  have e := hfa.symm.trans (PySem.W.mg_of X G a30)
  cases e
  have T : Txt mg := ⟨PySem.W.mg_none_of X G z_len, PySem.W.mg_none_of X G z_repr, PySem.W.mg_none_of X G z_min, PySem.W.mg_none_of X G z_max, PySem.W.mg_none_of X G z_tuple, PySem.W.mg_none_of X G z_list, PySem.W.mg_none_of X G z_int, PySem.W.mg_none_of X G z_range, PySem.W.mg_none_of X G z_sum, PySem.W.mg_none_of X G z_all, PySem.W.mg_none_of X G z_any, PySem.W.mg_none_of X G z_sorted, PySem.W.mg_none_of X G z_enumerate, PySem.W.mg_none_of X G z_isinstance, PySem.W.mg_none_of X G z_set⟩
  have F0 := fun_mk (st := s_law_fed) l0 c0 k0
  have b0 := F0.binds (ps := ["_law_script"]) fun _ _ _ _ _ _ us hl => match us, hl with | [_], _ => rfl
  have F1 := fun_mk (st := s_law_draw) l1 c1 k1
  have b1 := F1.binds (ps := ["_law_feed", "_law_many"]) fun _ _ _ _ _ _ us hl => match us, hl with | [_, _], _ => rfl
  have F2 := fun_mk (st := s_law_fit) l2 c2 k2
  have b2 := F2.binds (ps := ["_law_feed", "_law_cycle", "_law_beats", "_law_one", "_law_other"]) fun _ _ _ _ _ _ us hl => match us, hl with | [_, _, _, _, _], _ => rfl
  have F3 := fun_mk (st := s_law_any_span) l3 c3 k3
  have b3 := F3.binds (ps := ["_law_feed", "_law_cycle", "_law_one", "_law_other"]) fun _ _ _ _ _ _ us hl => match us, hl with | [_, _, _, _], _ => rfl
  have F4 := fun_mk (st := s_law_a_plan) l4 c4 k4
  have b4 := F4.binds (ps := ["_law_feed", "_law_works", "_law_cycle", "_law_most"]) fun _ _ _ _ _ _ us hl => match us, hl with | [_, _, _, _], _ => rfl
  have F5 := fun_mk (st := s_law_some_weights) l5 c5 k5
  have b5 := F5.binds (ps := ["_law_feed", "_law_plan"]) fun _ _ _ _ _ _ us hl => match us, hl with | [_, _], _ => rfl
  have F6 := fun_mk (st := s_length_of) l6 c6 k6
  have b6 := F6.binds (ps := ["plan", "period", "beats", "s"]) fun _ _ _ _ _ _ us hl => match us, hl with | [_, _, _, _], _ => rfl
  have F7 := fun_mk (st := s_lengths_of) l7 c7 k7
  have b7 := F7.binds (ps := ["plan", "period", "beats"]) fun _ _ _ _ _ _ us hl => match us, hl with | [_, _, _], _ => rfl
  have F8 := fun_mk (st := s_waits_of) l8 c8 k8
  have b8 := F8.binds (ps := ["plan", "period", "weights", "beats"]) fun _ _ _ _ _ _ us hl => match us, hl with | [_, _, _, _], _ => rfl
  have F9 := fun_mk (st := s_law_length) l9 c9 k9
  have b9 := F9.binds (ps := ["_law_plan", "_law_cycle", "_law_beats", "_law_s"]) fun _ _ _ _ _ _ us hl => match us, hl with | [_, _, _, _], _ => rfl
  have F10 := fun_mk (st := s_entry_sums) l10 c10 k10
  have b10 := F10.binds (ps := ["beats", "windows", "entry"]) fun _ _ _ _ _ _ us hl => match us, hl with | [_, _, _], _ => rfl
  have F11 := fun_mk (st := s_sums_of) l11 c11 k11
  have b11 := F11.binds (ps := ["plan", "period", "beats", "windows", "ring"]) fun _ _ _ _ _ _ us hl => match us, hl with | [_, _, _, _, _], _ => rfl
  have F12 := fun_mk (st := s_left_of) l12 c12 k12
  have b12 := F12.binds (ps := ["weights", "prices"]) fun _ _ _ _ _ _ us hl => match us, hl with | [_, _], _ => rfl
  have F13 := fun_mk (st := s_shown_by_span) l13 c13 k13
  have b13 := F13.binds (ps := ["low", "window", "left"]) fun _ _ _ _ _ _ us hl => match us, hl with | [_, _, _], _ => rfl
  have F14 := fun_mk (st := s_shown_by_ring) l14 c14 k14
  have b14 := F14.binds (ps := ["plan", "period", "windows", "price", "ring"]) fun _ _ _ _ _ _ us hl => match us, hl with | [_, _, _, _, _], _ => rfl
  have F15 := fun_mk (st := s_shown_by) l15 c15 k15
  have b15 := F15.binds (ps := ["plan", "period", "weights", "windows", "prices"]) fun _ _ _ _ _ _ us hl => match us, hl with | [_, _, _, _, _], _ => rfl
  have F16 := fun_mk (st := s_law_window) l16 c16 k16
  have b16 := F16.binds (ps := ["_law_plan", "_law_cycle", "_law_s"]) fun _ _ _ _ _ _ us hl => match us, hl with | [_, _, _], _ => rfl
  have F17 := fun_mk (st := s_law_all_windows) l17 c17 k17
  have b17 := F17.binds (ps := ["_law_plan", "_law_cycle"]) fun _ _ _ _ _ _ us hl => match us, hl with | [_, _], _ => rfl
  have F18 := fun_mk (st := s_law_steps) l18 c18 k18
  have b18 := F18.binds (ps := ["_law_plan", "_law_stays"]) fun _ _ _ _ _ _ us hl => match us, hl with | [_, _], _ => rfl
  have F19 := fun_mk (st := s_law_ways) l19 c19 k19
  have b19 := F19.binds (ps := ["_law_plan", "_law_stays", "_law_entries"]) fun _ _ _ _ _ _ us hl => match us, hl with | [_, _, _], _ => rfl
  have F20 := fun_mk (st := s_law_back) l20 c20 k20
  have b20 := F20.binds (ps := ["_law_path"]) fun _ _ _ _ _ _ us hl => match us, hl with | [_], _ => rfl
  have F21 := fun_mk (st := s_law_a_cut) l21 c21 k21
  have b21 := F21.binds (ps := ["_law_feed", "_law_least", "_law_most"]) fun _ _ _ _ _ _ us hl => match us, hl with | [_, _, _], _ => rfl
  have F22 := fun_mk (st := s_law_walk) l22 c22 k22
  have b22 := F22.binds (ps := ["_law_feed", "_law_plan"]) fun _ _ _ _ _ _ us hl => match us, hl with | [_, _], _ => rfl
  have F23 := fun_mk (st := s_law_some_prices) l23 c23 k23
  have b23 := F23.binds (ps := ["_law_feed", "_law_plan"]) fun _ _ _ _ _ _ us hl => match us, hl with | [_, _], _ => rfl
  have F24 := fun_mk (st := s_law_shape) l24 c24 k24
  have b24 := F24.binds (ps := ["_law_feed"]) fun _ _ _ _ _ _ us hl => match us, hl with | [_], _ => rfl
  have F25 := fun_mk (st := s_law_with) l25 c25 k25
  have b25 := F25.binds (ps := ["_law_windows", "_law_s", "_law_least", "_law_most"]) fun _ _ _ _ _ _ us hl => match us, hl with | [_, _, _, _], _ => rfl
  have F26 := fun_mk (st := s_law_narrower) l26 c26 k26
  have b26 := F26.binds (ps := ["_law_feed", "_law_windows"]) fun _ _ _ _ _ _ us hl => match us, hl with | [_, _], _ => rfl
  have F27 := fun_mk (st := s_law_lie) l27 c27 k27
  have b27 := F27.binds (ps := ["_law_plan", "_law_cycle", "_law_windows", "_law_beats"]) fun _ _ _ _ _ _ us hl => match us, hl with | [_, _, _, _], _ => rfl
  have F28 := fun_mk (st := s_law_firsts) l28 c28 k28
  have b28 := F28.binds (ps := ["_law_plan"]) fun _ _ _ _ _ _ us hl => match us, hl with | [_], _ => rfl
  have F29 := fun_mk (st := s_law_every) l29 c29 k29
  have b29 := F29.binds (ps := ["_law_plan", "_law_cycle"]) fun _ _ _ _ _ _ us hl => match us, hl with | [_, _], _ => rfl
  have F30 := fun_mk (st := s_law) l30 c30 k30
  have b30 := F30.binds (ps := ["_law_script"]) fun _ _ _ _ _ _ us hl => match us, hl with | [_], _ => rfl
  refine ⟨PySem.W.fnOf "law" "law" (defArgs s_law) (defBody s_law) (defScope s_law) .none kV30 dc30 pm30 an30 cd30 ct30, fun s v => .of_eq rfl, fun base _ _ => ?_⟩
  have D_law_fed : Def l.prog w K mg base 1 "_law_fed" ["_law_script"] (sp_fed K) := ⟨f0, _, ok_law_fed F0 T, PySem.W.mg_of X G a0, k0, b0⟩
  have D_law_draw : Def l.prog w K mg base 1 "_law_draw" ["_law_feed", "_law_many"] sp_drawB := ⟨f1, _, ok_law_draw F1 T, PySem.W.mg_of X G a1, k1, b1⟩
  have D_law_fit : Def l.prog w K mg base 2 "_law_fit" ["_law_feed", "_law_cycle", "_law_beats", "_law_one", "_law_other"] sp_fit := ⟨f2, _, ok_law_fit F2 T D_law_draw, PySem.W.mg_of X G a2, k2, b2⟩
  have D_law_any_span : Def l.prog w K mg base 2 "_law_any_span" ["_law_feed", "_law_cycle", "_law_one", "_law_other"] sp_any_span := ⟨f3, _, ok_law_any_span F3 T D_law_draw, PySem.W.mg_of X G a3, k3, b3⟩
  have D_law_a_plan : Def l.prog w K mg base 3 "_law_a_plan" ["_law_feed", "_law_works", "_law_cycle", "_law_most"] (sp_a_plan K) := ⟨f4, _, ok_law_a_plan F4 T D_law_draw D_law_fit D_law_any_span, PySem.W.mg_of X G a4, k4, b4⟩
  have D_law_some_weights : Def l.prog w K mg base 2 "_law_some_weights" ["_law_feed", "_law_plan"] (sp_some_weights K) := ⟨f5, _, ok_law_some_weights F5 T D_law_draw, PySem.W.mg_of X G a5, k5, b5⟩
  have D_length_of : Def l.prog w K mg base 1 "length_of" ["plan", "period", "beats", "s"] (sp_length_of K) := ⟨f6, _, ok_length_of F6 T, PySem.W.mg_of X G a6, k6, b6⟩
  have D_lengths_of : Def l.prog w K mg base 2 "lengths_of" ["plan", "period", "beats"] (sp_lengths_of K) := ⟨f7, _, ok_lengths_of F7 T D_length_of, PySem.W.mg_of X G a7, k7, b7⟩
  have D_waits_of : Def l.prog w K mg base 3 "waits_of" ["plan", "period", "weights", "beats"] (sp_waits_of K) := ⟨f8, _, ok_waits_of F8 T D_lengths_of, PySem.W.mg_of X G a8, k8, b8⟩
  have D_law_length : Def l.prog w K mg base 1 "_law_length" ["_law_plan", "_law_cycle", "_law_beats", "_law_s"] (sp_lengthB K) := ⟨f9, _, ok_law_length F9 T, PySem.W.mg_of X G a9, k9, b9⟩
  have D_entry_sums : Def l.prog w K mg base 1 "entry_sums" ["beats", "windows", "entry"] (sp_entry_sums K) := ⟨f10, _, ok_entry_sums F10 T, PySem.W.mg_of X G a10, k10, b10⟩
  have D_sums_of : Def l.prog w K mg base 2 "sums_of" ["plan", "period", "beats", "windows", "ring"] (sp_sums_of K) := ⟨f11, _, ok_sums_of F11 T D_entry_sums, PySem.W.mg_of X G a11, k11, b11⟩
  have D_left_of : Def l.prog w K mg base 1 "left_of" ["weights", "prices"] (sp_left_of K) := ⟨f12, _, ok_left_of F12 T, PySem.W.mg_of X G a12, k12, b12⟩
  have D_shown_by_span : Def l.prog w K mg base 1 "shown_by_span" ["low", "window", "left"] (sp_shown_by_span K) := ⟨f13, _, ok_shown_by_span F13 T, PySem.W.mg_of X G a13, k13, b13⟩
  have D_shown_by_ring : Def l.prog w K mg base 3 "shown_by_ring" ["plan", "period", "windows", "price", "ring"] (sp_shown_by_ring K) := ⟨f14, _, ok_shown_by_ring F14 T D_sums_of, PySem.W.mg_of X G a14, k14, b14⟩
  have D_shown_by : Def l.prog w K mg base 4 "shown_by" ["plan", "period", "weights", "windows", "prices"] (sp_shown_by K) := ⟨f15, _, ok_shown_by F15 T D_left_of D_shown_by_span D_shown_by_ring, PySem.W.mg_of X G a15, k15, b15⟩
  have D_law_window : Def l.prog w K mg base 1 "_law_window" ["_law_plan", "_law_cycle", "_law_s"] (sp_window_of K) := ⟨f16, _, ok_law_window F16 T, PySem.W.mg_of X G a16, k16, b16⟩
  have D_law_all_windows : Def l.prog w K mg base 2 "_law_all_windows" ["_law_plan", "_law_cycle"] (sp_all_windows K) := ⟨f17, _, ok_law_all_windows F17 T D_law_window, PySem.W.mg_of X G a17, k17, b17⟩
  have D_law_steps : Def l.prog w K mg base 1 "_law_steps" ["_law_plan", "_law_stays"] (sp_steps K) := ⟨f18, _, ok_law_steps F18 T, PySem.W.mg_of X G a18, k18, b18⟩
  have D_law_ways : Def l.prog w K mg base 1 "_law_ways" ["_law_plan", "_law_stays", "_law_entries"] (sp_ways K) := ⟨f19, _, ok_law_ways F19 T, PySem.W.mg_of X G a19, k19, b19⟩
  have D_law_back : Def l.prog w K mg base 1 "_law_back" ["_law_path"] (sp_back K) := ⟨f20, _, ok_law_back F20 T, PySem.W.mg_of X G a20, k20, b20⟩
  have D_law_a_cut : Def l.prog w K mg base 2 "_law_a_cut" ["_law_feed", "_law_least", "_law_most"] sp_a_cut := ⟨f21, _, ok_law_a_cut F21 T D_law_draw, PySem.W.mg_of X G a21, k21, b21⟩
  have D_law_walk : Def l.prog w K mg base 2 "_law_walk" ["_law_feed", "_law_plan"] (sp_walk K) := ⟨f22, _, ok_law_walk F22 T D_law_draw D_law_steps D_law_ways D_law_back, PySem.W.mg_of X G a22, k22, b22⟩
  have D_law_some_prices : Def l.prog w K mg base 3 "_law_some_prices" ["_law_feed", "_law_plan"] (sp_some_prices K) := ⟨f23, _, ok_law_some_prices F23 T D_law_draw D_law_walk, PySem.W.mg_of X G a23, k23, b23⟩
  have D_law_shape : Def l.prog w K mg base 2 "_law_shape" ["_law_feed"] sp_shape := ⟨f24, _, ok_law_shape F24 T D_law_draw, PySem.W.mg_of X G a24, k24, b24⟩
  have D_law_with : Def l.prog w K mg base 1 "_law_with" ["_law_windows", "_law_s", "_law_least", "_law_most"] (sp_with K) := ⟨f25, _, ok_law_with F25 T, PySem.W.mg_of X G a25, k25, b25⟩
  have D_law_narrower : Def l.prog w K mg base 3 "_law_narrower" ["_law_feed", "_law_windows"] (sp_narrower K) := ⟨f26, _, ok_law_narrower F26 T D_law_draw D_law_a_cut D_law_with, PySem.W.mg_of X G a26, k26, b26⟩
  have D_law_lie : Def l.prog w K mg base 2 "_law_lie" ["_law_plan", "_law_cycle", "_law_windows", "_law_beats"] (sp_lie K) := ⟨f27, _, ok_law_lie F27 T D_law_length, PySem.W.mg_of X G a27, k27, b27⟩
  have D_law_firsts : Def l.prog w K mg base 1 "_law_firsts" ["_law_plan"] (sp_firsts K) := ⟨f28, _, ok_law_firsts F28 T, PySem.W.mg_of X G a28, k28, b28⟩
  have D_law_every : Def l.prog w K mg base 2 "_law_every" ["_law_plan", "_law_cycle"] (sp_every K) := ⟨f29, _, ok_law_every F29 T D_law_firsts, PySem.W.mg_of X G a29, k29, b29⟩
  exact ok_law F30 T D_law_fed D_law_shape D_law_a_plan D_law_some_weights D_law_every D_law_all_windows D_law_narrower D_law_lie D_waits_of D_law_some_prices D_shown_by
theorem walk {l : PySem.W.OpenLaw} {q : Program} {loose : List Str} {XP : (Str → Option Value) → Heap → Prop} {YP : World → Heap → Prop} {d : DefRec} {K : Params → PySem.W.Frag} (hn : l.most = some 63) (hdf : d.params.defaults = [])
    (hY : ∀ (w : World) (h : Heap), YP w h → (K w.params).In h)
    (F : ∀ (w : World) (mg : Str → Option Value) (fa : Addr) (h : Heap), (K w.params).In h → h.Ns mainGlobals mg → mg d.name = some (.ref fa) →
      ∃ fd : FuncData, (∀ (s : Shared) (u : Value), BindsTo s fd ⟨[u], []⟩ [("_law_script", u)]) ∧ ∀ base : Heap, (K w.params).In base → base.Ns mainGlobals mg → FnOk l.prog w (K w.params) mg base CX0 5 fa fd ["_law_script"] (sp_law (K w.params))) :
    PySem.W.WalkO q loose XP YP l.row.toRowW d [] (fun f vs => PySem.call f vs) :=
  L2.walk_of (n := 63) (k := 5) (x := "_law_script") (CX := fun _ => CX0) (sp := fun w => sp_law (K w.params)) hn (by decide) hdf ⟨rfl, by decide, by decide, rfl⟩ hY F (fun _ _ a ns hl _ hS => ⟨a, ns, rfl, hS, hl, fun _ => rfl⟩) fun _ _ _ _ _ z => z
end Bp
open PySem PySem.W PyProof.Rows
set_option maxRecDepth 100000 in
set_option maxHeartbeats 0 in
theorem PySem.Challenge.cw_beatplans_k33_whole_shown_is_never_more_holds : PySem.Challenge.rw_beatplans_k33_whole_shown_is_never_more.Holds := by
  w_on; o_law; k_head; (case hw => w_witness2)
  k_fill
  refine Bp.walk (l := PySem.Challenge.rw_beatplans_k33_whole_shown_is_never_more) rfl rfl (fun w h Y => PySem.W.kIn_of Y) ?F
  case F =>
    intro w mg fa h KX G hmg
    refine' Bp.all_mk KX G hmg ?a0 ?l0 ?c0 ?k0 ?a1 ?l1 ?c1 ?k1 ?a2 ?l2 ?c2 ?k2 ?a3 ?l3 ?c3 ?k3 ?a4 ?l4 ?c4 ?k4 ?a5 ?l5 ?c5 ?k5 ?a6 ?l6 ?c6 ?k6 ?a7 ?l7 ?c7 ?k7 ?a8 ?l8 ?c8 ?k8 ?a9 ?l9 ?c9 ?k9 ?a10 ?l10 ?c10 ?k10 ?a11 ?l11 ?c11 ?k11 ?a12 ?l12 ?c12 ?k12 ?a13 ?l13 ?c13 ?k13 ?a14 ?l14 ?c14 ?k14 ?a15 ?l15 ?c15 ?k15 ?a16 ?l16 ?c16 ?k16 ?a17 ?l17 ?c17 ?k17 ?a18 ?l18 ?c18 ?k18 ?a19 ?l19 ?c19 ?k19 ?a20 ?l20 ?c20 ?k20 ?a21 ?l21 ?c21 ?k21 ?a22 ?l22 ?c22 ?k22 ?a23 ?l23 ?c23 ?k23 ?a24 ?l24 ?c24 ?k24 ?a25 ?l25 ?c25 ?k25 ?a26 ?l26 ?c26 ?k26 ?a27 ?l27 ?c27 ?k27 ?a28 ?l28 ?c28 ?k28 ?a29 ?l29 ?c29 ?k29 ?a30 ?l30 ?c30 ?k30 ?z_len ?z_repr ?z_min ?z_max ?z_tuple ?z_list ?z_int ?z_range ?z_sum ?z_all ?z_any ?z_sorted ?z_enumerate ?z_isinstance ?z_set
    (case a0 => k_is)
    (case l0 => k_is)
    (case c0 => k_is)
    (case k0 => k_is)
    (case a1 => k_is)
    (case l1 => k_is)
    (case c1 => k_is)
    (case k1 => k_is)
    (case a2 => k_is)
    (case l2 => k_is)
    (case c2 => k_is)
    (case k2 => k_is)
    (case a3 => k_is)
    (case l3 => k_is)
    (case c3 => k_is)
    (case k3 => k_is)
    (case a4 => k_is)
    (case l4 => k_is)
    (case c4 => k_is)
    (case k4 => k_is)
    (case a5 => k_is)
    (case l5 => k_is)
    (case c5 => k_is)
    (case k5 => k_is)
    (case a6 => k_is)
    (case l6 => k_is)
    (case c6 => k_is)
    (case k6 => k_is)
    (case a7 => k_is)
    (case l7 => k_is)
    (case c7 => k_is)
    (case k7 => k_is)
    (case a8 => k_is)
    (case l8 => k_is)
    (case c8 => k_is)
    (case k8 => k_is)
    (case a9 => k_is)
    (case l9 => k_is)
    (case c9 => k_is)
    (case k9 => k_is)
    (case a10 => k_is)
    (case l10 => k_is)
    (case c10 => k_is)
    (case k10 => k_is)
    (case a11 => k_is)
    (case l11 => k_is)
    (case c11 => k_is)
    (case k11 => k_is)
    (case a12 => k_is)
    (case l12 => k_is)
    (case c12 => k_is)
    (case k12 => k_is)
    (case a13 => k_is)
    (case l13 => k_is)
    (case c13 => k_is)
    (case k13 => k_is)
    (case a14 => k_is)
    (case l14 => k_is)
    (case c14 => k_is)
    (case k14 => k_is)
    (case a15 => k_is)
    (case l15 => k_is)
    (case c15 => k_is)
    (case k15 => k_is)
    (case a16 => k_is)
    (case l16 => k_is)
    (case c16 => k_is)
    (case k16 => k_is)
    (case a17 => k_is)
    (case l17 => k_is)
    (case c17 => k_is)
    (case k17 => k_is)
    (case a18 => k_is)
    (case l18 => k_is)
    (case c18 => k_is)
    (case k18 => k_is)
    (case a19 => k_is)
    (case l19 => k_is)
    (case c19 => k_is)
    (case k19 => k_is)
    (case a20 => k_is)
    (case l20 => k_is)
    (case c20 => k_is)
    (case k20 => k_is)
    (case a21 => k_is)
    (case l21 => k_is)
    (case c21 => k_is)
    (case k21 => k_is)
    (case a22 => k_is)
    (case l22 => k_is)
    (case c22 => k_is)
    (case k22 => k_is)
    (case a23 => k_is)
    (case l23 => k_is)
    (case c23 => k_is)
    (case k23 => k_is)
    (case a24 => k_is)
    (case l24 => k_is)
    (case c24 => k_is)
    (case k24 => k_is)
    (case a25 => k_is)
    (case l25 => k_is)
    (case c25 => k_is)
    (case k25 => k_is)
    (case a26 => k_is)
    (case l26 => k_is)
    (case c26 => k_is)
    (case k26 => k_is)
    (case a27 => k_is)
    (case l27 => k_is)
    (case c27 => k_is)
    (case k27 => k_is)
    (case a28 => k_is)
    (case l28 => k_is)
    (case c28 => k_is)
    (case k28 => k_is)
    (case a29 => k_is)
    (case l29 => k_is)
    (case c29 => k_is)
    (case k29 => k_is)
    (case a30 => k_is)
    (case l30 => k_is)
    (case c30 => k_is)
    (case k30 => k_is)
    (case z_len => k_is)
    (case z_repr => k_is)
    (case z_min => k_is)
    (case z_max => k_is)
    (case z_tuple => k_is)
    (case z_list => k_is)
    (case z_int => k_is)
    (case z_range => k_is)
    (case z_sum => k_is)
    (case z_all => k_is)
    (case z_any => k_is)
    (case z_sorted => k_is)
    (case z_enumerate => k_is)
    (case z_isinstance => k_is)
    (case z_set => k_is)
