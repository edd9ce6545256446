import PyProof.Rows.All
import Wide.All
import OpenK.AllK
import Wide.FinOn
import Lean
import PyProof.EqAt
import PyProof.EqKinds
import PyProof.TupleCall
import PySem.Challenge.RW_beatplans_k08_sums_and_bars
set_option Elab.async false
set_option linter.all false
set_option maxRecDepth 100000
namespace L2
open PySem PySem.Spec PyProof.Rows

abbrev Key := Sum Int Str
def keyIs : Key → Value → Bool
  | .inl k, v => Value.isInt k v
  | .inr x, v => Value.isStrOf x v
def keyH (w : World) : Key → Int
  | .inl k => hashInt k
  | .inr x => hashStr w x
theorem keyIs_shape : ∀ {k : Key} {v : Value}, keyIs k v = true → (∃ i t, k = Sum.inl i ∧ v = Value.int i t) ∨ (∃ x t, k = Sum.inr x ∧ v = Value.str x t)
  | .inl i, v, h => by
    obtain ⟨t, e⟩ := Value.isInt_shape (k := i) (v := v) h
    exact .inl ⟨i, t, rfl, e⟩
  | .inr x, v, h => by
    obtain ⟨t, e⟩ := Value.isStrOf_shape (x := x) (v := v) h
    exact .inr ⟨x, t, rfl, e⟩
theorem keyIs_int (i : Int) (t : Tok) : keyIs (.inl i) (.int i t) = true := by simp [keyIs, Value.isInt]
theorem keyIs_str (x : Str) (t : Tok) : keyIs (.inr x) (.str x t) = true := by simp [keyIs, Value.isStrOf]
theorem key_ll (a b : Int) : decide ((Sum.inl a : Key) = Sum.inl b) = (a == b) := by
  by_cases e : a = b
  · subst e; simp
  · have h : ¬ (Sum.inl a : Key) = Sum.inl b := fun q => e (Sum.inl.inj q)
    rw [decide_eq_false h]
    exact (beq_eq_false_iff_ne.mpr e).symm
theorem key_rr (a b : Str) : decide ((Sum.inr a : Key) = Sum.inr b) = decide (a = b) := by
  by_cases e : a = b
  · subst e; simp
  · have h : ¬ (Sum.inr a : Key) = Sum.inr b := fun q => e (Sum.inr.inj q)
    rw [decide_eq_false h, decide_eq_false e]
theorem key_lr (a : Int) (b : Str) : decide ((Sum.inl a : Key) = Sum.inr b) = false := decide_eq_false (fun q => nomatch q)
theorem key_rl (a : Str) (b : Int) : decide ((Sum.inr a : Key) = Sum.inl b) = false := decide_eq_false (fun q => nomatch q)

def mixKind (prog : Program) (w : World) : PySem.KeyKind prog w Key where
  is := keyIs
  hash := keyH w
  inj := fun v a b ha hb => by
    rcases keyIs_shape ha with ⟨i, t, rfl, rfl⟩ | ⟨x, t, rfl, rfl⟩
    · rcases keyIs_shape hb with ⟨j, u, rfl, e⟩ | ⟨y, u, rfl, e⟩
      · injection e with e1 _; rw [e1]
      · exact nomatch e
    · rcases keyIs_shape hb with ⟨j, u, rfl, e⟩ | ⟨y, u, rfl, e⟩
      · exact nomatch e
      · injection e with e1 _; rw [e1]
  byValue := fun k v h => by
    rcases keyIs_shape h with ⟨i, t, rfl, rfl⟩ | ⟨x, t, rfl, rfl⟩ <;> rfl
  pyHash := fun hv h => by
    rcases keyIs_shape hv with ⟨i, t, rfl, rfl⟩ | ⟨x, t, rfl, rfl⟩
    · exact wpAny_pyHash_int h
    · exact wpAny_pyHash_str h
  eqBool := fun hu hv h => by
    rcases keyIs_shape hu with ⟨i, t, rfl, rfl⟩ | ⟨x, t, rfl, rfl⟩
    · rcases keyIs_shape hv with ⟨j, u, rfl, rfl⟩ | ⟨y, u, rfl, rfl⟩
      · rw [key_ll] at h; exact wpAny_eqBool_int h
      · rw [key_lr] at h; exact SeqAt.EqAt.int_str i t y u _ _ _ _ h
    · rcases keyIs_shape hv with ⟨j, u, rfl, rfl⟩ | ⟨y, u, rfl, rfl⟩
      · rw [key_rl] at h; exact SeqAt.EqAt.str_int x t j u _ _ _ _ h
      · rw [key_rr] at h; exact wpAny_eqBool_str h
  «strs» := fun k x t v h => by
    rcases keyIs_shape h with ⟨i, u, rfl, e⟩ | ⟨y, u, rfl, e⟩
    · exact nomatch e
    · injection e with e1 _
      subst e1
      cases v <;> rfl

theorem mixKind_int (prog : Program) (w : World) (i : Int) (t : Tok) : (mixKind prog w).is (.inl i) (.int i t) = true := keyIs_int i t
theorem mixKind_str (prog : Program) (w : World) (x : Str) (t : Tok) : (mixKind prog w).is (.inr x) (.str x t) = true := keyIs_str x t
end L2

namespace L2
open PySem PySem.Spec PyProof.Rows

inductive V where
  | non | bl (b : Bool) | int (i : Int) | str (x : Str) | byt (b : Array UInt8) | flt (b : UInt64) | ref (a : Addr) | ty (n : String)
  deriving DecidableEq

def RelV : V → Value → Prop
  | .non, u => u = Value.none
  | .bl b, u => u = Value.bool b
  | .int i, u => ∃ t, u = Value.int i t
  | .str x, u => ∃ t, u = Value.str x t
  | .byt b, u => ∃ t, u = Value.bytes b t
  | .flt b, u => ∃ t, u = Value.float b t
  | .ref a, u => u = Value.ref a
  | .ty n, u => u = Value.type n

abbrev Vals : List V → List Value → Prop := Paired RelV
theorem Vals.length {xs : List V} {us : List Value} (r : Vals xs us) : xs.length = us.length := Paired.length r
theorem Vals.get : ∀ {xs : List V} {us : List Value} {i : Nat} {x : V}, Vals xs us → xs[i]? = some x → ∃ u, us[i]? = some u ∧ RelV x u
  | _, _, _, _, .nil, e => by simp at e
  | _, _, 0, _, .cons r _, e => by simp at e; subst e; exact ⟨_, rfl, r⟩
  | _, _, i + 1, x, .cons _ t, e => by
    obtain ⟨u, h1, h2⟩ := Vals.get (i := i) (x := x) t (by simpa using e)
    exact ⟨u, by simpa using h1, h2⟩
theorem Vals.set {x : V} {u : Value} (r : RelV x u) : ∀ {xs : List V} {us : List Value} (i : Nat), Vals xs us → Vals (xs.set i x) (us.set i u)
  | _, _, _, .nil => .nil
  | _, _, 0, .cons _ t => .cons r t
  | _, _, i + 1, .cons q t => .cons q (Vals.set r i t)
theorem Vals.append : ∀ {xs ys : List V} {us ws : List Value}, Vals xs us → Vals ys ws → Vals (xs ++ ys) (us ++ ws)
  | _, _, _, _, .nil, s => s
  | _, _, _, _, .cons r t, s => .cons r (Vals.append t s)
theorem Vals.take : ∀ {xs : List V} {us : List Value} (n : Nat), Vals xs us → Vals (xs.take n) (us.take n)
  | _, _, 0, _ => .nil
  | _, _, _ + 1, .nil => .nil
  | _, _, n + 1, .cons r t => .cons r (Vals.take n t)
theorem Vals.drop : ∀ {xs : List V} {us : List Value} (n : Nat), Vals xs us → Vals (xs.drop n) (us.drop n)
  | _, _, 0, r => r
  | _, _, _ + 1, .nil => .nil
  | _, _, n + 1, .cons _ t => Vals.drop n t
def RelO : Option V → Option Value → Prop
  | some v, some u => RelV v u
  | none, none => True
  | _, _ => False
def KV {κ : Type} : List (κ × V) → List (κ × Value) → Prop := Paired fun (p : κ × V) (q : κ × Value) => p.1 = q.1 ∧ RelV p.2 q.2

def kV : Key → V
  | .inl i => .int i
  | .inr x => .str x

inductive HO where
  | lst (xs : List V)
  | tup (xs : List V)
  | dK (kvs : List (Key × V)) | dT (kvs : List (List Key × V))
  | set (S : Int → Bool) (n : Nat)
  | ins (C dx : Addr) (fs : List (Str × V))
  | own (x : Addr)
  | xd (fs : List (Str × V))
  | met (f x : Addr)
  | rng (lo hi : Int)
  | frz (o : Obj) (u : HO)
  | tbl (ps : Array Value)
  | ext (φ : Heap → Prop)

abbrev Hp := Addr → Option HO
def upd (H : Hp) (a : Addr) (o : HO) : Hp := fun b => if b = a then some o else H b
theorem upd_same {H : Hp} {a : Addr} {o : HO} : upd H a o a = some o := by unfold upd; rw [if_pos rfl]
theorem upd_ne {H : Hp} {a b : Addr} {o : HO} (h : b ≠ a) : upd H a o b = H b := by unfold upd; rw [if_neg h]
theorem upd_upd {H : Hp} {a : Addr} {o u : HO} : upd (upd H a o) a u = upd H a u := by
  funext b; unfold upd; split <;> rfl
theorem ne_of {H : Hp} {a b : Addr} {o u : HO} (h : H a = some o) (h' : H b = some u) (d : o ≠ u) : a ≠ b := by
  intro e; subst e; rw [h] at h'; exact d (Option.some.inj h')
theorem ne_of_none {H : Hp} {a b : Addr} {o : HO} (h : H a = some o) (h' : H b = none) : a ≠ b := by
  intro e; subst e; rw [h] at h'; cases h'

def TupD (h : Heap) (a : Addr) (items : Array Value) : Prop := ∃ o, h.get? a = some o ∧ o.cls = .type "tuple" ∧ ∃ n, o.data = .seq items n ∧ o.dict = none
theorem TupD.tup {h : Heap} {a : Addr} {items : Array Value} (x : TupD h a items) : IsTup h a items := let ⟨o, e, c, n, d, _⟩ := x; ⟨o, e, c, n, d⟩
theorem TupD.new (h : Heap) (items : Array Value) : TupD (h.push { cls := .type "tuple", data := .seq items }) h.objs.size items := ⟨_, Heap.get?_push_size _ rfl, rfl, _, rfl, rfl⟩
section
variable (P : Program) (w : World)
def ObjOk (H : Hp) (h : Heap) (a : Addr) : HO → Prop
  | .lst xs => xs.length ≤ sizeLine ∧ ∃ (its : List Value) (n : Nat), Vals xs its ∧ h.get? a = some { cls := .type "list", data := .seq its.toArray n }
  | .tup xs => xs.length ≤ sizeLine ∧ ∃ its : List Value, Vals xs its ∧ TupD h a its.toArray
  | .dK kvs => kvs.length ≤ sizeLine ∧ (a == sysModules) = false ∧ ∃ vs, KV kvs vs ∧ h.DictOf (mixKind P w) a vs
  | .dT kvs => kvs.length ≤ sizeLine ∧ (a == sysModules) = false ∧ ∃ xs : List (List Key × Addr × Value),
      Paired (fun (p : List Key × V) (q : List Key × Addr × Value) => p.1 = q.1 ∧ H q.2.1 = some (.tup (p.1.map kV)) ∧ RelV p.2 q.2.2) kvs xs ∧
      ∃ o es ep, h.get? a = some o ∧ o.ExactDict ∧ o.data = .dict es ep ∧ es.toList = xs.map (entryOfKey (tupleKind (mixKind P w))) ∧ (xs.map (·.1)).Nodup
  | .set S n => h.SetOf (intKind P w) a S n
  | .ins C dx fs => H dx = some (.own a) ∧ fs.length ≤ 1000 ∧ dx ≠ a ∧ h.get? a = some (PySem.W.instObj C dx) ∧
      ∃ mA, h.Ns1 dx mA ∧ (∀ f, RelO (fs.lookup f) (mA f)) ∧ PySem.Within mA (fs.map (·.1))
  | .own _ => ∃ o, h.get? a = some o
  | .xd fs => ∃ mA, h.Ns1 a mA ∧ ∀ f, RelO (fs.lookup f) (mA f)
  | .rng lo hi => ∃ t u v, h.get? a = some { cls := .type "range", data := .fields #[.int lo t, .int hi u, .int 1 v] }
  | .frz o u => h.get? a = some o ∧ ObjOk H h a u
  | .tbl ps => h.get? a = some { cls := .none, data := .fields ps }
  | .met f x => h.get? a = some (PySem.W.methodObj (.ref f) (.ref x))
  | .ext φ => φ h ∧ (∃ o, h.get? a = some o) ∧ ∀ h1 h2 : Heap, φ h1 → (∀ o, h1.get? a = some o → h2.get? a = some o) → φ h2
def HOk (H : Hp) (h : Heap) : Prop := ∀ a o, H a = some o → ObjOk P w H h a o
end

section
variable {P : Program} {w : World} {H H' : Hp} {h h' : Heap} {a : Addr} {o : HO}
theorem ObjOk.lt (x : ObjOk P w H h a o) : a < h.objs.size := by
  cases o with
  | lst xs => obtain ⟨_, _, _, _, e⟩ := x; exact Heap.lt_size e
  | tup xs => obtain ⟨_, _, _, p⟩ := x; exact p.tup.lt
  | dK kvs => obtain ⟨_, _, _, _, o, _, _, e, _⟩ := x; exact Heap.lt_size e
  | dT kvs => obtain ⟨_, _, _, _, o, _, _, e, _⟩ := x; exact Heap.lt_size e
  | set S n => obtain ⟨o, _, _, _, e, _⟩ := x; exact Heap.lt_size e
  | ins C dx fs => obtain ⟨_, _, _, e, _⟩ := x; exact Heap.lt_size e
  | own y => obtain ⟨_, e⟩ := x; exact Heap.lt_size e
  | xd fs => obtain ⟨_, ⟨_, _, _, e, _⟩, _⟩ := x; exact Heap.lt_size e
  | rng lo hi => obtain ⟨_, _, _, e⟩ := x; exact Heap.lt_size e
  | frz ob u => obtain ⟨e, _⟩ := x; exact Heap.lt_size e
  | tbl ps => exact Heap.lt_size (show h.get? a = some _ from x)
  | met f y => exact Heap.lt_size (show h.get? a = some _ from x)
  | ext φ => obtain ⟨_, ⟨_, e⟩, _⟩ := x; exact Heap.lt_size e
theorem Paired.mapP {α β : Type} {F G : α → β → Prop} : ∀ {l₁ : List α} {l₂ : List β}, Paired F l₁ l₂ → (∀ a b, F a b → G a b) → Paired G l₁ l₂
  | _, _, .nil, _ => .nil
  | _, _, .cons r t, f => .cons (f _ _ r) (Paired.mapP t f)
theorem ObjOk.stay (x : ObjOk P w H h a o) (k : ∀ b u, (b = a ∨ H b = some (.own a)) → h.get? b = some u → h'.get? b = some u)
    (ho : ∀ b, H b = some (.own a) → H' b = some (.own a)) (ht : ∀ b xs, H b = some (.tup xs) → H' b = some (.tup xs)) : ObjOk P w H' h' a o := by
  induction o with
  | lst xs => obtain ⟨z, its, n, r, e⟩ := x; exact ⟨z, its, n, r, k _ _ (.inl rfl) e⟩
  | tup xs => obtain ⟨z, its, r, ob, e, c⟩ := x; exact ⟨z, its, r, ob, k _ _ (.inl rfl) e, c⟩
  | dK kvs => obtain ⟨z, y, vs, r, ob, es, ep, e, c⟩ := x; exact ⟨z, y, vs, r, ob, es, ep, k _ _ (.inl rfl) e, c⟩
  | dT kvs =>
    obtain ⟨z, y, xs, r, ob, es, ep, e, c⟩ := x
    exact ⟨z, y, xs, Paired.mapP r fun p q z => ⟨z.1, ht _ _ z.2.1, z.2.2⟩, ob, es, ep, k _ _ (.inl rfl) e, c⟩
  | set S n => obtain ⟨ob, es, ep, t, e, c⟩ := x; exact ⟨ob, es, ep, t, k _ _ (.inl rfl) e, c⟩
  | ins C dx fs =>
    obtain ⟨d, z, ne, e, mA, ⟨od, es, ep, e2, c⟩, r⟩ := x
    exact ⟨ho _ d, z, ne, k _ _ (.inl rfl) e, mA, ⟨od, es, ep, k _ _ (.inr d) e2, c⟩, r⟩
  | own y => obtain ⟨ob, e⟩ := x; exact ⟨ob, k _ _ (.inl rfl) e⟩
  | xd fs => obtain ⟨mA, ⟨od, es, ep, e, c⟩, r⟩ := x; exact ⟨mA, ⟨od, es, ep, k _ _ (.inl rfl) e, c⟩, r⟩
  | rng lo hi => obtain ⟨t, u, v, e⟩ := x; exact ⟨t, u, v, k _ _ (.inl rfl) e⟩
  | frz ob u ih => obtain ⟨e, q⟩ := x; exact ⟨k _ _ (.inl rfl) e, ih q⟩
  | tbl ps =>
    have e : h.get? a = some { cls := .none, data := .fields ps } := x
    show h'.get? a = some { cls := .none, data := .fields ps }
    exact k a _ (.inl rfl) e
  | met f y =>
    have e : h.get? a = some (PySem.W.methodObj (.ref f) (.ref y)) := x
    show h'.get? a = some (PySem.W.methodObj (.ref f) (.ref y))
    exact k a _ (.inl rfl) e
  | ext φ => obtain ⟨p, ⟨o, e⟩, st⟩ := x; exact ⟨st _ _ p fun o q => k _ _ (.inl rfl) q, ⟨o, k _ _ (.inl rfl) e⟩, st⟩
theorem HOk.lt (x : HOk P w H h) (e : H a = some o) : a < h.objs.size := (x a o e).lt
theorem HOk.fresh (x : HOk P w H h) (e : h.objs.size ≤ a) : H a = none := by
  cases q : H a with
  | none => rfl
  | some u => exact absurd (Nat.lt_of_lt_of_le (x.lt q) e) (Nat.lt_irrefl _)
theorem HOk.kept (x : HOk P w H h) (k : ∀ b u, h.get? b = some u → h'.get? b = some u) : HOk P w H h' := fun a o e =>
  (x a o e).stay (fun b u _ q => k b u q) (fun _ q => q) fun _ _ q => q
theorem HOk.laid (x : HOk P w H h) (k : ∀ b u, h.get? b = some u → h'.get? b = some u) (hp : h.objs.size ≤ a) (new : ObjOk P w (upd H a o) h' a o) : HOk P w (upd H a o) h' := fun b u e => by
  have hn := x.fresh hp
  by_cases hb : b = a
  · subst hb; rw [upd_same] at e; cases e; exact new
  · rw [upd_ne hb] at e
    exact (x b u e).stay (fun c v _ q => k c v q) (fun c q => by rw [upd_ne (ne_of_none q hn)]; exact q) fun c xs q => by rw [upd_ne (ne_of_none q hn)]; exact q
end

def Rd (H : Hp) (a : Addr) (u : HO) : Prop := H a = some u ∨ ∃ o, H a = some (.frz o u)
theorem Rd.of {H : Hp} {a : Addr} {u : HO} (h : H a = some u) : Rd H a u := .inl h
theorem Rd.ok {P : Program} {w : World} {H : Hp} {h : Heap} {a : Addr} {u : HO} (r : Rd H a u) (x : HOk P w H h) : ObjOk P w H h a u := by
  rcases r with r | ⟨o, r⟩
  · exact x a u r
  · obtain ⟨_, q⟩ := x a _ r
    exact q
def Mut : Option HO → Prop
  | some (.lst _) => True
  | some (.dK _) => True
  | some (.dT _) => True
  | some (.set _ _) => True
  | some (.ins _ _ _) => True
  | some (.ext _) => True
  | _ => False
section
variable {P : Program} {w : World} {H : Hp} {h h' : Heap} {x e : Addr} {o' : HO}
theorem HOk.write (ok : HOk P w H h) (mu : Mut (H x)) (he : e = x ∨ H e = some (.own x)) (k : ∀ b u, b ≠ e → h.get? b = some u → h'.get? b = some u) (heo : ∃ u, h'.get? e = some u)
    (new : ObjOk P w (upd H x o') h' x o') : HOk P w (upd H x o') h' := fun b u q => by
  have nown : ∀ c y, H c = some (.own y) → c ≠ x := fun c y r z => by subst z; rw [r] at mu; exact mu
  have ntup : ∀ c xs, H c = some (.tup xs) → c ≠ x := fun c xs r z => by subst z; rw [r] at mu; exact mu
  by_cases hb : b = x
  · subst hb; rw [upd_same] at q; cases q; exact new
  · rw [upd_ne hb] at q
    by_cases hbe : b = e
    · have q' : H b = some (.own x) := by
        rcases he with z | z
        · exact absurd (hbe.trans z) hb
        · rw [hbe]; exact z
      rw [q] at q'; cases q'
      obtain ⟨v, hv⟩ := heo
      exact ⟨v, by rw [hbe]; exact hv⟩
    · refine (ok b u q).stay (fun c v hc r => k c v ?_ r) (fun c r => by rw [upd_ne (nown c b r)]; exact r) fun c xs r => by rw [upd_ne (ntup c xs r)]; exact r
      rcases hc with rfl | hc
      · exact hbe
      · rintro rfl
        rcases he with z | z
        · exact nown c b hc z
        · rw [hc] at z; cases z; exact hb rfl
end

structure Un (fs ex : List Addr) (H H' : Hp) (h h' : Heap) : Prop where
  keep : ∀ b o, h.get? b = some o → H b = none → b ∉ fs → b ∉ ex → h'.get? b = some o
  slot : ∀ b o, h.get? b = some o → H b = none → b ∈ fs → b ∉ ex → ∃ sl, h'.get? b = some { o with slots := sl }
  free : ∀ b o, h.get? b = some o → H b = none → b ∉ ex → H' b = none
  there : ∀ b o, h.get? b = some o → b ∉ ex → ∃ o', h'.get? b = some o'
  tups : ∀ b xs, H b = some (.tup xs) → H' b = some (.tup xs)
  frzs : ∀ b o u, H b = some (.frz o u) → H' b = some (.frz o u)
  tbls : ∀ b ps, H b = some (.tbl ps) → ∃ more, H' b = some (.tbl (ps ++ more))
section
variable {fs fs' ex ex' : List Addr} {H H1 H2 : Hp} {h h1 h2 h' : Heap} {a x e : Addr} {o : HO}
theorem Un.any (u : Un fs ex H H1 h h1) {b : Addr} {ob : Obj} (q : h.get? b = some ob) (n : H b = none) (hx : b ∉ ex) : ∃ sl, h1.get? b = some { ob with slots := sl } := by
  by_cases hb : b ∈ fs
  · exact u.slot b ob q n hb hx
  · exact ⟨ob.slots, u.keep b ob q n hb hx⟩
theorem Un.trans (a : Un fs ex H H1 h h1) (b : Un fs ex H1 H2 h1 h2) : Un fs ex H H2 h h2 where
  keep := fun c ob q n hc hx => b.keep c ob (a.keep c ob q n hc hx) (a.free c ob q n hx) hc hx
  slot := fun c ob q n hc hx => by
    obtain ⟨sl, e1⟩ := a.slot c ob q n hc hx
    obtain ⟨sl', e2⟩ := b.slot c _ e1 (a.free c ob q n hx) hc hx
    exact ⟨sl', e2⟩
  free := fun c ob q n hx => by
    obtain ⟨o', e1⟩ := a.there c ob q hx
    exact b.free c o' e1 (a.free c ob q n hx) hx
  there := fun c ob q hx => by
    obtain ⟨o', e1⟩ := a.there c ob q hx
    exact b.there c o' e1 hx
  tups := fun c xs q => b.tups c xs (a.tups c xs q)
  frzs := fun c ob xs q => b.frzs c ob xs (a.frzs c ob xs q)
  tbls := fun c ps q => by
    obtain ⟨m1, e1⟩ := a.tbls c ps q
    obtain ⟨m2, e2⟩ := b.tbls c _ e1
    exact ⟨m1 ++ m2, by rw [e2, Array.append_assoc]⟩
theorem Un.kept (k : ∀ b u, h.get? b = some u → h'.get? b = some u) : Un fs ex H H h h' :=
  ⟨fun b ob q _ _ _ => k b ob q, fun b ob q _ _ _ => ⟨ob.slots, k b ob q⟩, fun _ _ _ n _ => n, fun b ob q _ => ⟨ob, k b ob q⟩, fun _ _ q => q, fun _ _ _ q => q, fun _ ps q => ⟨#[], by rw [q]; simp⟩⟩
theorem Un.refl : Un fs ex H H h h := Un.kept fun _ _ q => q
theorem Un.laid (k : ∀ b u, h.get? b = some u → h'.get? b = some u) (hp : h.objs.size ≤ a) (hn : H a = none) : Un fs ex H (upd H a o) h h' where
  keep := fun b u q _ _ _ => k b u q
  slot := fun b u q _ _ _ => ⟨u.slots, k b u q⟩
  free := fun b u q n _ => by rw [upd_ne (Nat.ne_of_lt (Nat.lt_of_lt_of_le (Heap.lt_size q) hp))]; exact n
  there := fun b u q _ => ⟨u, k b u q⟩
  tups := fun b xs q => by rw [upd_ne (ne_of_none q hn)]; exact q
  frzs := fun b u xs q => by rw [upd_ne (ne_of_none q hn)]; exact q
  tbls := fun b ps q => ⟨#[], by rw [upd_ne (ne_of_none q hn), q]; simp⟩
theorem Un.write (mu : Mut (H x)) (he : e = x ∨ H e = some (.own x)) (k : ∀ b u, b ≠ e → h.get? b = some u → h'.get? b = some u) (heo : ∃ u, h'.get? e = some u) : Un fs ex H (upd H x o) h h' := by
  have hx : ∀ b, H b = none → b ≠ x := fun b n z => by subst z; rw [n] at mu; exact mu
  have hb : ∀ b, H b = none → b ≠ e := fun b n z => by
    subst z
    rcases he with r | r
    · exact hx b n r
    · rw [n] at r; cases r
  have hm : ∀ b u, H b = some u → ¬ Mut (some u) → b ≠ x := fun b u q nm z => by subst z; rw [q] at mu; exact nm mu
  refine ⟨fun b u q n _ _ => k b u (hb b n) q, fun b u q n _ _ => ⟨u.slots, k b u (hb b n) q⟩, fun b u q n _ => by rw [upd_ne (hx b n)]; exact n, fun b u q _ => ?_,
    fun b xs q => by rw [upd_ne (hm b _ q fun z => z)]; exact q, fun b u xs q => by rw [upd_ne (hm b _ q fun z => z)]; exact q, fun b ps q => ⟨#[], by rw [upd_ne (hm b _ q fun z => z), q]; simp⟩⟩
  by_cases hbe : b = e
  · subst hbe; exact heo
  · exact ⟨u, k b u hbe q⟩
theorem Un.mono (u : Un fs ex H H1 h h1) (hs : ∀ b ∈ fs, b ∈ fs') (hx : ∀ b ∈ ex, b ∈ ex') : Un fs' ex' H H1 h h1 :=
  ⟨fun b ob q n hb he => u.keep b ob q n (fun z => hb (hs b z)) fun z => he (hx b z), fun _ _ q n _ he => u.any q n fun z => he (hx _ z), fun b ob q n he => u.free b ob q n fun z => he (hx b z), fun b ob q he => u.there b ob q fun z => he (hx b z), u.tups, u.frzs, u.tbls⟩
end

def trk (h : Heap) (H : Hp) : List Addr := (List.range h.objs.size).filter fun a => (H a).isSome
def hidT (h : Heap) (H : Hp) : Heap := PySem.W.hideAll h (trk h H)
theorem hidT_size (h : Heap) (H : Hp) : (hidT h H).objs.size = h.objs.size := PySem.W.hideAll_size _ _
theorem hidT_get {h : Heap} {H : Hp} {b : Addr} {o : Obj} (e : h.get? b = some o) (n : H b = none) : (hidT h H).get? b = some o :=
  PySem.W.hideAll_get _ e fun hm => by
    have q : (H b).isSome = true := (List.mem_filter.mp hm).2
    rw [n] at q; simp at q
theorem of_hidT {h : Heap} {H : Hp} {b : Addr} {o : Obj} (e : (hidT h H).get? b = some o) : h.get? b = some o ∧ H b = none := by
  have e' : h.get? b = some o := PySem.W.of_hideAll (trk h H) e
  refine ⟨e', ?_⟩
  cases q : H b with
  | none => rfl
  | some x =>
    have hm : b ∈ trk h H := List.mem_filter.mpr ⟨List.mem_range.mpr (Heap.lt_size e'), by simp [q]⟩
    have z : (hidT h H).get? b = none := PySem.W.hideAll_none (trk h H) hm
    rw [z] at e; cases e

def allNews (g h : Heap) (L : Addr) : List (Addr × Obj) := (List.range h.objs.size).filterMap fun a => if a = L ∨ (g.get? a).isSome = true then none else (h.get? a).map fun o => (a, o)
def rest (g h : Heap) (L d : Addr) : List (Addr × Obj) := (allNews g h L).filter fun p => decide (p.1 ≠ d)
end L2

namespace L2
open PySem PySem.Spec PyProof.Rows

structure Mod (K : PySem.W.Frag) (mg : Str → Option Value) (base : Heap) : Prop where
  kin : K.In base
  glob : base.Ns mainGlobals mg
  blt : ∃ mb, base.Ns builtinsNs mb ∧ ∀ x : Str, x ≠ "__name__" → mb x = bootBuiltins x
  nolimit : base.NoLimit

structure Cx where
  prog : Program
  w : World
  K : PySem.W.Frag
  mg : Str → Option Value
  base : Heap
  A : Around
  N : List Str
  s₀ : Shared
  H₀ : Hp
  env : Env
  outer : List Env
  stack : List Env
  ex : List Addr
  fn : Str → Bool
  calm : Bool
  pn : List (Addr × Obj)
  xe : Value → Shared → Prop
def frs (l : List Env) : List Addr := l.filterMap (·.frame)
abbrev Cx.fs (X : Cx) : List Addr := frs X.outer

def Vis (sc : Scope) (x : Str) : Prop := sc.names.lookup x = some .local ∨ sc.names.lookup x = some .cell ∨ sc.names.lookup x = some .free
def Loc (sc : Scope) (x : Str) : Prop := sc.names.lookup x = some .local ∨ sc.names.lookup x = some .cell
def Look (env : Env) (h : Heap) (m : Str → Option Value) (x : Str) (u : Value) : Prop :=
  (env.kindOf x = some .local ∧ m x = some u) ∨ ((env.kindOf x = some .cell ∨ env.kindOf x = some .free) ∧ ∃ c, env.cells.lookup x = some c ∧ h.IsCell c (some u))

structure Cx.Ok (X : Cx) : Prop where
  mod : Mod X.K X.mg X.base
  kind : X.env.scope.kind = .function
  glob : X.env.globals = mainGlobals
  blt : X.env.builtins = builtinsNs
  above : X.s₀.heap.objs.size ≤ X.env.locals
  inj : ∀ x y c, X.env.cells.lookup x = some c → X.env.cells.lookup y = some c → x = y
  has : ∀ x, (X.env.kindOf x = some .cell ∨ X.env.kindOf x = some .free) → ∃ c, X.env.cells.lookup x = some c
  cab : ∀ x c, X.fn x = true → X.env.cells.lookup x = some c → X.s₀.heap.objs.size ≤ c
  hd : X.calm = true → X.A.handled = none
  frames : X.A.frames = some X.stack
  stk : X.stack = X.outer ∨ (X.stack = X.env :: X.outer ∧ X.env.frame = some X.env.locals)
  exf : ∀ b ∈ X.ex, b ≠ X.env.locals ∧ ∀ x c, X.env.cells.lookup x = some c → c ≠ b
  bs : ∀ b o, X.base.get? b = some o → X.s₀.heap.get? b = some o ∧ X.H₀ b = none
  bsz : X.base.objs.size ≤ X.s₀.heap.objs.size
  noex : ∀ b o, X.base.get? b = some o → b ∉ X.ex
  exfs : ∀ b ∈ X.ex, b ∉ X.fs
  funs : X.s₀.heap.FunFrames X.base X.outer
  frf : ∀ b ∈ X.fs, X.H₀ b = none

structure Inv (X : Cx) (pins : List (Addr × Obj)) (σ : List (Option V)) (H : Hp) (s : Shared) : Prop where
  ok : X.Ok
  os : s.os = X.s₀.os
  bare : AllBare s.gens
  base : Un X.fs X.ex X.H₀ H X.s₀.heap s.heap
  loc : ∃ m, s.heap.Ns X.env.locals m ∧ ∀ (i : Nat) (x : Str) (v : V), X.N[i]? = some x → σ[i]? = some (some v) → Vis X.env.scope x → ∃ u, RelV v u ∧ Look X.env s.heap m x u
  cell : ∀ x c, X.env.cells.lookup x = some c → ∃ v, s.heap.IsCell c v
  free : H X.env.locals = none
  freeC : ∀ x c, X.env.cells.lookup x = some c → H c = none
  pin : ∀ p ∈ X.pn ++ pins, s.heap.get? p.1 = some p.2 ∧ H p.1 = none ∧ p.1 ≠ X.env.locals ∧ p.1 ∉ X.fs ∧ ∀ v, p.2.data ≠ .cell v
  hok : HOk X.prog X.w H s.heap
  len : σ.length = X.N.length

section
variable {X : Cx} {pins : List (Addr × Obj)} {σ : List (Option V)} {H H' : Hp} {s : Shared} {h' : Heap}

theorem Cx.Ok.nofr (ok : X.Ok) {b : Addr} {o : Obj} (e : X.base.get? b = some o) : b ∉ X.fs := fun hb => by
  have := (ok.funs.mem hb).1
  rw [e] at this; cases this
theorem Inv.bs (I : Inv X pins σ H s) : ∀ b o, X.base.get? b = some o → s.heap.get? b = some o ∧ H b = none := fun b o e =>
  ⟨I.base.keep b o (I.ok.bs b o e).1 (I.ok.bs b o e).2 (I.ok.nofr e) (I.ok.noex b o e), I.base.free b o (I.ok.bs b o e).1 (I.ok.bs b o e).2 (I.ok.noex b o e)⟩
theorem Inv.bk (I : Inv X pins σ H s) : ∀ b o, X.base.get? b = some o → s.heap.get? b = some o := fun b o e => (I.bs b o e).1
theorem Inv.mod (I : Inv X pins σ H s) : Mod X.K X.mg X.base := I.ok.mod
theorem Inv.kIn (I : Inv X pins σ H s) : X.K.In s.heap := I.ok.mod.kin.keeps I.bk
theorem Inv.nolimit (I : Inv X pins σ H s) : s.heap.NoLimit := I.ok.mod.nolimit.keeps I.bk
theorem Inv.fr (I : Inv X pins σ H s) : ∃ m, Fr X.base X.env.locals s.heap m :=
  let ⟨m, hn, _⟩ := I.loc
  ⟨m, hn, I.bk, Nat.le_trans I.ok.bsz I.ok.above⟩
theorem Inv.lt (I : Inv X pins σ H s) : X.env.locals < s.heap.objs.size := let ⟨_, hn, _⟩ := I.loc; hn.lt
theorem Inv.sz (I : Inv X pins σ H s) : X.s₀.heap.objs.size ≤ s.heap.objs.size := Nat.le_trans I.ok.above (Nat.le_of_lt I.lt)
theorem Inv.nofs (I : Inv X pins σ H s) {a : Addr} (h : s.heap.objs.size ≤ a) : a ∉ X.fs := fun hb => by
  obtain ⟨_, o, ho, _⟩ := I.ok.funs.mem hb
  exact absurd (Nat.lt_of_lt_of_le (Heap.lt_size ho) (Nat.le_trans I.sz h)) (Nat.lt_irrefl _)
theorem Inv.cne (I : Inv X pins σ H s) : ∀ x c, X.env.cells.lookup x = some c → c ≠ X.env.locals := fun x c e z => by
  obtain ⟨v, o, ho, hd⟩ := I.cell x c e
  obtain ⟨m, ⟨o', es, ep, ho', hd', _⟩, _⟩ := I.loc
  rw [z, ho'] at ho; cases ho; rw [hd'] at hd; cases hd
theorem Inv.funs (I : Inv X pins σ H s) : s.heap.FunFrames X.base X.outer := by
  have all : ∀ (l : List Env), (∀ b ∈ frs l, b ∈ X.fs) → X.s₀.heap.FunFrames X.base l → s.heap.FunFrames X.base l := by
    intro l
    induction l with
    | nil => intro _ _; trivial
    | cons env r ih =>
      intro hs hl
      obtain ⟨hk, ⟨L, o, hf, hn, ho, hd⟩, hr⟩ := hl
      have hL : L ∈ X.fs := hs L (by unfold frs; rw [List.filterMap_cons, hf]; exact List.mem_cons_self)
      obtain ⟨sl, e⟩ := I.base.slot L o ho (I.ok.frf L hL) hL fun z => I.ok.exfs L z hL
      exact ⟨hk, ⟨L, _, hf, hn, e, hd⟩, ih (fun b hb => hs b (by unfold frs; rw [List.filterMap_cons, hf]; exact List.mem_cons_of_mem _ hb)) hr⟩
  exact all X.outer (fun _ hb => hb) I.ok.funs

theorem Inv.stack (I : Inv X pins σ H s) : s.heap.FunFrames X.base X.stack := by
  rcases I.ok.stk with e | ⟨e, hf⟩
  · rw [e]; exact I.funs
  · rw [e]
    obtain ⟨m, hn, _⟩ := I.loc
    refine .cons (by rw [I.ok.kind]; decide) hf hn ?_ I.funs
    exact Heap.get?_none_of_le (Nat.le_trans I.ok.bsz I.ok.above)
theorem Inv.stkSub (I : Inv X pins σ H s) : ∀ b ∈ frs X.stack, b ∈ X.env.locals :: X.fs := fun b hb => by
  rcases I.ok.stk with e | ⟨e, hf⟩
  · rw [e] at hb; exact List.mem_cons_of_mem _ hb
  · rw [e] at hb
    unfold frs at hb
    rw [List.filterMap_cons, hf] at hb
    exact hb
theorem Inv.stkFree (I : Inv X pins σ H s) : ∀ b ∈ frs X.stack, H b = none := fun b hb => by
  rcases List.mem_cons.mp (I.stkSub b hb) with e | hb
  · rw [e]; exact I.free
  · obtain ⟨_, o, ho, _⟩ := I.ok.funs.mem hb
    exact I.base.free b o ho (I.ok.frf b hb) fun z => I.ok.exfs b z hb

theorem Inv.step {g' : Array GenState} {t' : Nat} {d' : Drawn} {ch : List Addr} (I : Inv X pins σ H s)
    (hch : ∀ b ∈ ch, (b ∈ X.ex ∨ X.s₀.heap.objs.size ≤ b) ∧ b ≠ X.env.locals ∧ (∀ x c, X.env.cells.lookup x = some c → c ≠ b) ∧ ∀ p ∈ X.pn ++ pins, p.1 ≠ b)
    (keep : ∀ b o, b ≠ X.env.locals → b ∉ X.fs → b ∉ ch → s.heap.get? b = some o → H b = none → h'.get? b = some o)
    (slot : ∀ b o, b ≠ X.env.locals → b ∈ X.fs → b ∉ ch → s.heap.get? b = some o → H b = none → ∃ sl, h'.get? b = some { o with slots := sl }) (free : ∀ b o, b ∉ ch → s.heap.get? b = some o → H b = none → H' b = none)
    (there : ∀ b o, b ∉ ch → s.heap.get? b = some o → ∃ o', h'.get? b = some o')
    (tups : ∀ b xs, H b = some (.tup xs) → H' b = some (.tup xs)) (frzs : ∀ b o u, H b = some (.frz o u) → H' b = some (.frz o u)) (tbls : ∀ b ps, H b = some (.tbl ps) → ∃ more, H' b = some (.tbl (ps ++ more)))
    (ns : ∀ m, s.heap.Ns X.env.locals m → h'.Ns X.env.locals m) (hok : HOk X.prog X.w H' h') (hg : AllBare g') :
    Inv X pins σ H' { s with heap := h', gens := g', drawn := d', toks := t' } := by
  have neL : ∀ b o, X.s₀.heap.get? b = some o → b ≠ X.env.locals := fun b o e => Nat.ne_of_lt (Nat.lt_of_lt_of_le (Heap.lt_size e) I.ok.above)
  have neC : ∀ b o, X.s₀.heap.get? b = some o → b ∉ X.ex → b ∉ ch := fun b o e hx hb => by
    rcases (hch b hb).1 with z | z
    · exact hx z
    · exact absurd (Nat.lt_of_lt_of_le (Heap.lt_size e) z) (Nat.lt_irrefl _)
  have cellK : ∀ x c, X.env.cells.lookup x = some c → ∀ v, s.heap.IsCell c v → h'.IsCell c v := fun x c e v ⟨o, ho, hd⟩ => by
    have nch : c ∉ ch := fun z => (hch c z).2.2.1 x c e rfl
    by_cases hc : c ∈ X.fs
    · obtain ⟨sl, q⟩ := slot c o (I.cne x c e) hc nch ho (I.freeC x c e)
      exact ⟨_, q, hd⟩
    · exact ⟨o, keep c o (I.cne x c e) hc nch ho (I.freeC x c e), hd⟩
  refine ⟨I.ok, I.os, hg, ⟨fun b o e n hb hx => ?_, fun b o e n hb hx => ?_, fun b o e n hx => ?_, fun b o e hx => ?_, fun b xs e => tups b xs (I.base.tups b xs e), fun b o xs e => frzs b o xs (I.base.frzs b o xs e), fun b ps e => ?_⟩, ?_, fun x c e => ?_, ?_, fun x c e => ?_, fun p hp => ?_, hok, I.len⟩
  · exact keep b o (neL b o e) hb (neC b o e hx) (I.base.keep b o e n hb hx) (I.base.free b o e n hx)
  · obtain ⟨sl, e1⟩ := I.base.slot b o e n hb hx
    obtain ⟨sl', e2⟩ := slot b _ (neL b o e) hb (neC b o e hx) e1 (I.base.free b o e n hx)
    exact ⟨sl', e2⟩
  · obtain ⟨o', e1⟩ := I.base.there b o e hx
    exact free b o' (neC b o e hx) e1 (I.base.free b o e n hx)
  · obtain ⟨o', e1⟩ := I.base.there b o e hx
    exact there b o' (neC b o e hx) e1
  · obtain ⟨m1, e1⟩ := I.base.tbls b ps e
    obtain ⟨m2, e2⟩ := tbls b _ e1
    exact ⟨m1 ++ m2, by rw [e2, Array.append_assoc]⟩
  · obtain ⟨m, hn, hl⟩ := I.loc
    refine ⟨m, ns m hn, fun i x v e1 e2 e3 => ?_⟩
    obtain ⟨u, r, l⟩ := hl i x v e1 e2 e3
    refine ⟨u, r, ?_⟩
    rcases l with l | ⟨k, c, e, z⟩
    · exact .inl l
    · exact .inr ⟨k, c, e, cellK x c e _ z⟩
  · obtain ⟨v, z⟩ := I.cell x c e
    exact ⟨v, cellK x c e v z⟩
  · obtain ⟨m, ⟨o, _, _, ho, _⟩, _⟩ := I.loc
    exact free _ o (fun z => (hch _ z).2.1 rfl) ho I.free
  · obtain ⟨v, o, ho, hd⟩ := I.cell x c e
    exact free c o (fun z => (hch c z).2.2.1 x c e rfl) ho (I.freeC x c e)
  · obtain ⟨e, n, ne, nf, d⟩ := I.pin p hp
    have nch : p.1 ∉ ch := fun z => (hch p.1 z).2.2.2 p hp rfl
    exact ⟨keep p.1 p.2 ne nf nch e n, free p.1 p.2 nch e n, ne, nf, d⟩
theorem Inv.un {t' : Nat} (I : Inv X pins σ H s) (u : Un X.fs [] H H' s.heap h') (hok : HOk X.prog X.w H' h') : Inv X pins σ H' { s with heap := h', toks := t' } := by
  obtain ⟨m, ⟨o, es, ep, ho, r⟩, _⟩ := id I.loc
  obtain ⟨sl, hL⟩ := u.any ho I.free (by simp)
  exact I.step (g' := s.gens) (d' := s.drawn) (ch := []) (fun _ z => nomatch z) (fun b o _ hb _ e n => u.keep b o e n hb (by simp)) (fun b o _ hb _ e n => u.slot b o e n hb (by simp)) (fun b o _ e n => u.free b o e n (by simp)) (fun b o _ e => u.there b o e (by simp)) u.tups u.frzs u.tbls (fun m' hm => by
    obtain ⟨o', es', ep', ho', r'⟩ := hm
    rw [ho] at ho'; cases ho'
    exact ⟨_, es', ep', hL, r'⟩) hok I.bare
theorem Inv.call {g' : Array GenState} {t' : Nat} {d' : Drawn} {ch : List Addr} (I : Inv X pins σ H s) (u : Un (frs X.stack) ch H H' s.heap h') (hok : HOk X.prog X.w H' h') (hg : AllBare g')
    (hch : ∀ b ∈ ch, (b ∈ X.ex ∨ X.s₀.heap.objs.size ≤ b) ∧ b ≠ X.env.locals ∧ (∀ x c, X.env.cells.lookup x = some c → c ≠ b) ∧ ∀ p ∈ X.pn ++ pins, p.1 ≠ b) :
    Inv X pins σ H' { s with heap := h', gens := g', drawn := d', toks := t' } := by
  obtain ⟨m, ⟨o, es, ep, ho, r⟩, _⟩ := id I.loc
  obtain ⟨sl, hL⟩ := u.any ho I.free fun z => (hch _ z).2.1 rfl
  exact I.step (ch := ch) hch (fun b o hL hb hc e n => u.keep b o e n (fun z => (List.mem_cons.mp (I.stkSub b z)).elim hL hb) hc) (fun b o _ _ hc e n => u.any e n hc) (fun b o hc e n => u.free b o e n hc) (fun b o hc e => u.there b o e hc) u.tups u.frzs u.tbls (fun m' hm => by
    obtain ⟨o', es', ep', ho', r'⟩ := hm
    rw [ho] at ho'; cases ho'
    exact ⟨_, es', ep', hL, r'⟩) hok hg
theorem Inv.turned {t' : Nat} {it : Addr} (I : Inv X pins σ H s) (k : ∀ b o, b ≠ it → s.heap.get? b = some o → h'.get? b = some o) (hn : H it = none) (hL : it ≠ X.env.locals)
    (h1 : it ∈ X.ex ∨ X.s₀.heap.objs.size ≤ it) (h2 : ∀ x c, X.env.cells.lookup x = some c → c ≠ it) (h3 : ∀ p ∈ X.pn ++ pins, p.1 ≠ it) : Inv X pins σ H { s with heap := h', toks := t' } := by
  have nit : ∀ b u, H b = some u → b ≠ it := fun b u e z => by rw [z, hn] at e; cases e
  refine I.step (g' := s.gens) (d' := s.drawn) (ch := [it]) (fun b hb => ?_) (fun b o _ _ hc e _ => k b o (fun z => hc (by simp [z])) e) (fun b o _ _ hc e _ => ⟨o.slots, k b o (fun z => hc (by simp [z])) e⟩) (fun _ _ _ _ n => n)
    (fun b o hc e => ⟨o, k b o (fun z => hc (by simp [z])) e⟩) (fun _ _ e => e) (fun _ _ _ e => e) (fun b ps e => ⟨#[], by rw [e]; simp⟩) (fun m hm => ?_) (fun b u e => ?_) I.bare
  · have e : b = it := by simpa using hb
    subst e
    exact ⟨h1, hL, h2, h3⟩
  · obtain ⟨o, es, ep, ho, r⟩ := hm
    exact ⟨o, es, ep, k _ o (Ne.symm hL) ho, r⟩
  · refine (I.hok b u e).stay (fun c v hc q => k c v ?_ q) (fun _ q => q) fun _ _ q => q
    rcases hc with z | z
    · rw [z]; exact nit b u e
    · exact nit c _ z
theorem Inv.tok (I : Inv X pins σ H s) (t : Nat) : Inv X pins σ H { s with toks := t } := I.un (h' := s.heap) (t' := t) Un.refl I.hok
theorem Inv.kept {t' : Nat} (I : Inv X pins σ H s) (k : ∀ b u, s.heap.get? b = some u → h'.get? b = some u) : Inv X pins σ H { s with heap := h', toks := t' } := I.un (Un.kept k) (I.hok.kept k)
theorem Inv.laid {a : Addr} {o : HO} {t' : Nat} (I : Inv X pins σ H s) (k : ∀ b u, s.heap.get? b = some u → h'.get? b = some u) (hp : s.heap.objs.size ≤ a) (new : ObjOk X.prog X.w (upd H a o) h' a o) :
    Inv X pins σ (upd H a o) { s with heap := h', toks := t' } := I.un (Un.laid k hp (I.hok.fresh hp)) (I.hok.laid k hp new)
theorem Inv.write {x e : Addr} {o : HO} {t' : Nat} (I : Inv X pins σ H s) (mu : Mut (H x)) (he : e = x ∨ H e = some (.own x)) (k : ∀ b u, b ≠ e → s.heap.get? b = some u → h'.get? b = some u) (heo : ∃ u, h'.get? e = some u)
    (new : ObjOk X.prog X.w (upd H x o) h' x o) : Inv X pins σ (upd H x o) { s with heap := h', toks := t' } := I.un (Un.write mu he k heo) (I.hok.write mu he k heo new)
theorem Inv.pins_of {pins' : List (Addr × Obj)} (I : Inv X pins σ H s) (h : ∀ p ∈ pins', s.heap.get? p.1 = some p.2 ∧ H p.1 = none ∧ p.1 ≠ X.env.locals ∧ p.1 ∉ X.fs ∧ ∀ v, p.2.data ≠ .cell v) : Inv X pins' σ H s :=
  ⟨I.ok, I.os, I.bare, I.base, I.loc, I.cell, I.free, I.freeC, fun p hp => (List.mem_append.mp hp).elim (fun z => I.pin p (List.mem_append_left _ z)) (h p), I.hok, I.len⟩

theorem nodup_ix {N : List Str} (hN : N.Nodup) {i j : Nat} {x : Str} (a : N[i]? = some x) (b : N[j]? = some x) : i = j := by
  obtain ⟨h1, e1⟩ := List.getElem?_eq_some_iff.mp a
  obtain ⟨h2, e2⟩ := List.getElem?_eq_some_iff.mp b
  exact (List.getElem_inj hN).mp (e1.trans e2.symm)

theorem store_ok2 {M : Model} {A : Around} {E : Value → Shared → Prop} {i : Nat} {x : Str} {v : V} {u : Value} {Q : Unit → Shared → Prop} (I : Inv X pins σ H s) (hN : X.N.Nodup) (hi : X.N[i]? = some x) (hx : Loc X.env.scope x) (r : RelV v u)
    (h : ∀ s', Inv X pins (σ.set i (some v)) H s' → (∃ a, Heap.SameBut a s.heap s'.heap ∧ (a = X.env.locals ∨ X.env.cells.lookup x = some a)) → Q () s') (hf : X.fn x = true ∨ X.env.scope.names.lookup x = some .local := by first | exact .inl rfl | exact .inr rfl | assumption) : wpAny M A (storeName X.env x u) Q E s := by
  obtain ⟨m, hn, hl⟩ := id I.loc
  have hcls : (X.env.scope.kind == .class || (X.env.scope.kind == .module && X.env.locals != X.env.globals)) = false := by rw [I.ok.kind]; rfl
  have hiσ : i < σ.length := by rw [I.len]; exact (List.getElem?_eq_some_iff.mp hi).1
  have cne := I.cne
  have tracked : ∀ {a : Addr} {h' : Heap}, (∃ o, s.heap.get? a = some o ∧ H a = none) → Heap.SameBut a s.heap h' → HOk X.prog X.w H h' := fun {a h'} ha hs b ob e => by
    obtain ⟨_, _, hfree⟩ := ha
    refine (I.hok b ob e).stay (fun c w' hc q => (hs.2 c ?_).trans q) (fun _ q => q) fun _ _ q => q
    rintro rfl
    rcases hc with rfl | hc
    · rw [hfree] at e; cases e
    · rw [hfree] at hc; cases hc
  rcases hx with hk | hk
  · refine wpAny_storeName_local hk hn (fun h' hn' hs => ?_) hcls
    obtain ⟨oL, _, _, hoL, _⟩ := id hn
    refine h _ ⟨I.ok, I.os, I.bare, ⟨fun b o e n hb hx => ?_, fun b o e n hb hx => ?_, I.base.free, fun b o e hx => ?_, I.base.tups, I.base.frzs, I.base.tbls⟩, ⟨_, hn', fun j y v' e1 e2 e3 => ?_⟩, fun y c e => ?_, I.free, I.freeC, fun p hp => ?_, tracked ⟨oL, hoL, I.free⟩ hs, by simpa using I.len⟩ ⟨_, hs, .inl rfl⟩
    · exact (hs.2 b (Nat.ne_of_lt (Nat.lt_of_lt_of_le (Heap.lt_size e) I.ok.above))).trans (I.base.keep b o e n hb hx)
    · obtain ⟨sl, e1⟩ := I.base.slot b o e n hb hx
      exact ⟨sl, (hs.2 b (Nat.ne_of_lt (Nat.lt_of_lt_of_le (Heap.lt_size e) I.ok.above))).trans e1⟩
    · obtain ⟨o', e1⟩ := I.base.there b o e hx
      exact ⟨o', (hs.2 b (Nat.ne_of_lt (Nat.lt_of_lt_of_le (Heap.lt_size e) I.ok.above))).trans e1⟩
    · by_cases hj : j = i
      · subst hj
        rw [hi] at e1; cases e1
        rw [List.getElem?_set_self hiσ] at e2
        cases e2
        exact ⟨u, r, .inl ⟨hk, by simp⟩⟩
      · rw [List.getElem?_set_ne (Ne.symm hj)] at e2
        obtain ⟨u', r', q⟩ := hl j y v' e1 e2 e3
        refine ⟨u', r', ?_⟩
        rcases q with ⟨k, e⟩ | ⟨k, c, e, z⟩
        · refine .inl ⟨k, ?_⟩
          have : y ≠ x := fun e => hj (nodup_ix hN e1 (e ▸ hi))
          simp [this, e]
        · exact .inr ⟨k, c, e, z.sameBut hs (cne y c e)⟩
    · obtain ⟨w', z⟩ := I.cell y c e
      exact ⟨w', z.sameBut hs (cne y c e)⟩
    · obtain ⟨e, n, ne, nf, d⟩ := I.pin p hp
      exact ⟨(hs.2 p.1 ne).trans e, n, ne, nf, d⟩
  · have hfn : X.fn x = true := by
      rcases hf with z | z
      · exact z
      · rw [z] at hk; cases hk
    obtain ⟨c, hc⟩ := I.ok.has x (.inl hk)
    obtain ⟨w', z⟩ := I.cell x c hc
    refine wpAny_storeName_cell I.ok.kind hk hc z (fun h' hc' hs => ?_)
    obtain ⟨oc, hoc, hocd⟩ := id z
    refine h { s with heap := h' } ⟨I.ok, I.os, I.bare, ⟨fun b o e n hb hx => ?_, fun b o e n hb hx => ?_, I.base.free, fun b o e hx => ?_, I.base.tups, I.base.frzs, I.base.tbls⟩, ⟨m, hn.sameBut hs (Ne.symm (cne x c hc)), fun j y v' e1 e2 e3 => ?_⟩, fun y c' e => ?_, I.free, I.freeC, fun p hp => ?_, tracked ⟨oc, hoc, I.freeC x c hc⟩ hs, by simpa using I.len⟩ ⟨c, hs, .inr hc⟩
    · exact (hs.2 b (Nat.ne_of_lt (Nat.lt_of_lt_of_le (Heap.lt_size e) (I.ok.cab x c hfn hc)))).trans (I.base.keep b o e n hb hx)
    · obtain ⟨sl, e1⟩ := I.base.slot b o e n hb hx
      exact ⟨sl, (hs.2 b (Nat.ne_of_lt (Nat.lt_of_lt_of_le (Heap.lt_size e) (I.ok.cab x c hfn hc)))).trans e1⟩
    · obtain ⟨o', e1⟩ := I.base.there b o e hx
      exact ⟨o', (hs.2 b (Nat.ne_of_lt (Nat.lt_of_lt_of_le (Heap.lt_size e) (I.ok.cab x c hfn hc)))).trans e1⟩
    · by_cases hj : j = i
      · subst hj
        rw [hi] at e1; cases e1
        rw [List.getElem?_set_self hiσ] at e2
        cases e2
        exact ⟨u, r, .inr ⟨.inl hk, c, hc, hc'⟩⟩
      · rw [List.getElem?_set_ne (Ne.symm hj)] at e2
        obtain ⟨u', r', q⟩ := hl j y v' e1 e2 e3
        refine ⟨u', r', ?_⟩
        rcases q with q | ⟨k, c', e, z'⟩
        · exact .inl q
        · refine .inr ⟨k, c', e, z'.sameBut hs ?_⟩
          rintro rfl
          exact hj (nodup_ix hN e1 (I.ok.inj _ _ _ e hc ▸ hi))
    · by_cases hcc : c' = c
      · subst hcc; exact ⟨_, hc'⟩
      · obtain ⟨w2, z2⟩ := I.cell y c' e
        exact ⟨w2, z2.sameBut hs hcc⟩
    · obtain ⟨e, n, ne, nf, d⟩ := I.pin p hp
      refine ⟨(hs.2 p.1 ?_).trans e, n, ne, nf, d⟩
      intro q
      rw [q, hoc] at e
      have q' : oc = p.2 := Option.some.inj e
      exact d w' (by rw [← q']; exact hocd)
theorem store_ok {M : Model} {A : Around} {E : Value → Shared → Prop} {i : Nat} {x : Str} {v : V} {u : Value} {Q : Unit → Shared → Prop} (I : Inv X pins σ H s) (hN : X.N.Nodup) (hi : X.N[i]? = some x) (hx : Loc X.env.scope x) (r : RelV v u)
    (h : ∀ s', Inv X pins (σ.set i (some v)) H s' → Q () s') (hf : X.fn x = true ∨ X.env.scope.names.lookup x = some .local := by first | exact .inl rfl | exact .inr rfl | assumption) : wpAny M A (storeName X.env x u) Q E s :=
  store_ok2 I hN hi hx r (fun s' I' _ => h s' I') hf
theorem Inv.call' {s' : Shared} {ch : List Addr} (I : Inv X pins σ H s) (ho : s'.os = s.os) (u : Un (frs X.stack) ch H H' s.heap s'.heap) (hok : HOk X.prog X.w H' s'.heap) (hg : AllBare s'.gens)
    (hch : ∀ b ∈ ch, (b ∈ X.ex ∨ X.s₀.heap.objs.size ≤ b) ∧ b ≠ X.env.locals ∧ (∀ x c, X.env.cells.lookup x = some c → c ≠ b) ∧ ∀ p ∈ X.pn ++ pins, p.1 ≠ b) : Inv X pins σ H' s' := by
  obtain ⟨h', g', d', t', o'⟩ := s'
  have e : o' = s.os := ho
  subst e
  exact I.call (g' := g') (t' := t') (d' := d') u hok hg hch
end

abbrev XK := Value → Option Addr → Hp → Prop
abbrev St := List (Option V)
abbrev VK := V → Hp → Prop
abbrev TE := St → Hp → VK → Prop
abbrev TT := St → Hp → (Bool → Hp → Prop) → Prop
abbrev TA := St → Hp → (List V → Hp → Prop) → Prop
structure Ends where
  nx : St → Hp → Prop
  rt : VK
  bk : St → Hp → Prop := fun _ _ => False
  ct : St → Hp → Prop := fun _ _ => False
abbrev TS := Ends → St → Hp → Prop

def EP (X : Cx) (pins : List (Addr × Obj)) (σ : St) (Q : VK) (u : Value) (s' : Shared) : Prop := ∃ v H', Inv X pins σ H' s' ∧ RelV v u ∧ Q v H'
def TP (X : Cx) (pins : List (Addr × Obj)) (σ : St) (Q : Bool → Hp → Prop) (b : Bool) (s' : Shared) : Prop := ∃ H', Inv X pins σ H' s' ∧ Q b H'
def AP (X : Cx) (pins : List (Addr × Obj)) (σ : St) (Q : List V → Hp → Prop) (us : List Value) (s' : Shared) : Prop := ∃ vs H', Inv X pins σ H' s' ∧ Vals vs us ∧ Q vs H'
def SP (X : Cx) (pins : List (Addr × Obj)) (D : Ends) (f : Flow) (s' : Shared) : Prop :=
  match f with
  | .next => ∃ σ' H', Inv X pins σ' H' s' ∧ D.nx σ' H'
  | .brk => ∃ σ' H', Inv X pins σ' H' s' ∧ D.bk σ' H'
  | .cont => ∃ σ' H', Inv X pins σ' H' s' ∧ D.ct σ' H'
  | .ret u => ∃ v σ' H', Inv X pins σ' H' s' ∧ RelV v u ∧ D.rt v H'

def PE (X : Cx) (e : Expr) (t : TE) : Prop :=
  ∀ (pins : List (Addr × Obj)) (s : Shared) (σ : St) (H : Hp) (Q : VK), Inv X pins σ H s → t σ H Q → wpAny (model X.prog X.w) X.A (eval e X.env) (EP X pins σ Q) X.xe s
def PT (X : Cx) (e : Expr) (t : TT) : Prop :=
  ∀ (pins : List (Addr × Obj)) (s : Shared) (σ : St) (H : Hp) (Q : Bool → Hp → Prop), Inv X pins σ H s → t σ H Q → wpAny (model X.prog X.w) X.A (isTrue e X.env (eval e X.env)) (TP X pins σ Q) X.xe s
def PW (X : Cx) (e : Expr) (t : TT) : Prop :=
  ∀ (whole : Sem Value) (pins : List (Addr × Obj)) (s : Shared) (σ : St) (H : Hp) (Q : Bool → Hp → Prop), Inv X pins σ H s → t σ H Q → wpAny (model X.prog X.w) X.A (isTrue e X.env whole) (TP X pins σ Q) X.xe s
theorem PW.pt {X : Cx} {e : Expr} {t : TT} (h : PW X e t) : PT X e t := h _
def PA (X : Cx) (es : List Expr) (t : TA) : Prop :=
  ∀ (pos : Pos) (pins : List (Addr × Obj)) (s : Shared) (σ : St) (H : Hp) (Q : List V → Hp → Prop), Inv X pins σ H s → t σ H Q → wpAny (model X.prog X.w) X.A (spliced (backTo pos (starEach es X.env))) (AP X pins σ Q) X.xe s
def PS (X : Cx) (st : Stmt) (t : TS) : Prop :=
  ∀ (pins : List (Addr × Obj)) (s : Shared) (σ : St) (H : Hp) (D : Ends), Inv X pins σ H s → t D σ H → wpAny (model X.prog X.w) X.A (exec st X.env) (SP X pins D) X.xe s
def PSs (X : Cx) (st : List Stmt) (t : TS) : Prop :=
  ∀ (pins : List (Addr × Obj)) (s : Shared) (σ : St) (H : Hp) (D : Ends), Inv X pins σ H s → t D σ H → wpAny (model X.prog X.w) X.A (execs st X.env) (SP X pins D) X.xe s
theorem thn {α : Type} {t : Sem α} {Q Q' : α → Shared → Prop} {M : Model} {A : Around} {E : Value → Shared → Prop} {s : Shared} (h : wpAny M A t Q E s) (hQ : ∀ a s, Q a s → Q' a s) : wpAny M A t Q' E s := wpAny_mono h hQ fun _ _ x => x
end L2

namespace L2
open PySem PySem.Spec PyProof.Rows
section
variable {X : Cx}

def tVar (i : Nat) : TE := fun σ H Q => ∃ v, σ[i]? = some (some v) ∧ Q v H
def tC (v : V) : TE := fun _ H Q => Q v H
theorem pe_var {i : Nat} {x : Str} {pos : Pos} (hN : X.N[i]? = some x) (hv : Vis X.env.scope x) (hd : (x == ("__debug__" : Str)) = false := by decide) (hcd : (x == ("__classdict__" : Str)) = false := by decide) : PE X (.Name x pos) (tVar i) := by
  intro pins s σ H Q I h
  obtain ⟨v, e, h⟩ := h
  obtain ⟨m, hn, hl⟩ := I.loc
  obtain ⟨u, r, l⟩ := hl i x v hN e hv
  have fin : EP X pins σ Q u s := ⟨v, H, I, r, h⟩
  rcases l with ⟨hk, hm⟩ | ⟨hk, c, hc, hcell⟩
  · exact wpAny_Name (wpAny_loadName_local I.ok.kind hk hn hm fin) hd
  · rcases hk with hk | hk
    · exact wpAny_Name (wpAny_loadName_cell I.ok.kind hk hc hcell fin) hd
    · exact wpAny_Name (wpAny_loadName_free I.ok.kind hk hc hcell fin hcd) hd
theorem pe_int {i j pos} : PE X (.Constant (.int i) j pos) (tC (.int i)) := fun _ _ _ H _ I h => wpAny_Constant_int ⟨.int i, H, I.tok _, ⟨_, rfl⟩, h⟩
theorem pe_bl {b j pos} : PE X (.Constant (.bool b) j pos) (tC (.bl b)) := fun _ _ _ H _ I h => Constant_bool ⟨.bl b, H, I, rfl, h⟩
theorem pe_non {j pos} : PE X (.Constant .none j pos) (tC .non) := fun _ _ _ H _ I h => Constant_none ⟨.non, H, I, rfl, h⟩
theorem pe_str {x j pos} : PE X (.Constant (.str x) j pos) (tC (.str x)) := fun _ _ _ H _ I h => Calls.Constant_str ⟨.str x, H, I.tok _, ⟨_, rfl⟩, h⟩

def Gl (X : Cx) (x : Str) : Prop := X.env.kindOf x = some .globalImplicit
theorem ld_glob {E : Value → Shared → Prop} {pins : List (Addr × Obj)} {s : Shared} {σ : St} {H : Hp} {x : Str} {u : Value} {pos : Pos} {Q : Value → Shared → Prop} (I : Inv X pins σ H s) (hg : Gl X x) (hm : X.mg x = some u) (h : Q u s)
    (hd : (x == ("__debug__" : Str)) = false := by decide) : wpAny (model X.prog X.w) X.A (eval (.Name x pos) X.env) Q E s :=
  Calls.Name_function_global I.ok.kind hg (Calls.loadGlobal_global (by rw [I.ok.glob]; exact I.mod.glob.keeps I.bk) hm h) hd
theorem ld_blt {E : Value → Shared → Prop} {pins : List (Addr × Obj)} {s : Shared} {σ : St} {H : Hp} {x : Str} {u : Value} {pos : Pos} {Q : Value → Shared → Prop} (I : Inv X pins σ H s) (hg : Gl X x) (hm : X.mg x = none) (hv : bootBuiltins x = some u) (h : Q u s)
    (hn : x ≠ "__name__" := by decide) (hd : (x == ("__debug__" : Str)) = false := by decide) : wpAny (model X.prog X.w) X.A (eval (.Name x pos) X.env) Q E s := by
  obtain ⟨mb, h1, h2⟩ := I.mod.blt
  exact Calls.Name_function_global I.ok.kind hg (Calls.loadGlobal_builtin (by rw [I.ok.glob]; exact I.mod.glob.keeps I.bk) hm (by rw [I.ok.blt]; exact h1.keeps I.bk) ((h2 x hn).trans hv) h) hd
theorem pe_bltn {x : Str} {v : V} {u : Value} {pos : Pos} (hg : Gl X x) (hm : X.mg x = none) (hv : bootBuiltins x = some u) (r : RelV v u) (hn : x ≠ "__name__" := by decide) (hd : (x == ("__debug__" : Str)) = false := by decide) : PE X (.Name x pos) (tC v) :=
  fun _ _ _ H _ I h => ld_blt I hg hm hv ⟨v, H, I, r, h⟩ hn hd

variable {a b : Expr} {ta tb : TE} {pos : Pos}
def PC (X : Cx) (op : CmpOp) (a b : Expr) (t : TE) : Prop :=
  ∀ (pins : List (Addr × Obj)) (s : Shared) (σ : St) (H : Hp) (Q : VK), Inv X pins σ H s → t σ H Q →
    wpAny (model X.prog X.w) X.A (eval a X.env) (fun v s₁ => wpAny (model X.prog X.w) X.A (eval b X.env) (fun u s₂ => wpAny (model X.prog X.w) X.A (compareOp op v u) (EP X pins σ Q) X.xe s₂) X.xe s₁) X.xe s
theorem nobehind (b : Expr) {op : CmpOp} (h : op ≠ .In) (h2 : op ≠ .NotIn) : behindInMarks op b = false := by
  have e1 : (op == CmpOp.In) = false := by cases op <;> first | rfl | exact absurd rfl h
  have e2 : (op == CmpOp.NotIn) = false := by cases op <;> first | rfl | exact absurd rfl h2
  cases b <;> simp [behindInMarks, e1, e2]
def tB (t : TE) : TT := fun σ H Q => t σ H fun x H1 => ∃ c, x = .bl c ∧ Q c H1
theorem pt_cmp {op : CmpOp} {t : TE} (h : PC X op a b t) (h1 : behindInMarks op b = false := by first | exact nobehind _ (by decide) (by decide) | rfl) : PT X (.Compare a [op] [b] pos) (tB t) := by
  intro pins s σ H Q I hw
  refine wpAny_isTrue_Compare1 (thn (h pins s σ H _ I hw) fun v s1 h1 => thn h1 fun u s2 h2 => thn h2 fun c s3 ⟨x, H1, I1, r1, q1⟩ => ?_) h1
  obtain ⟨d, rfl, q⟩ := q1
  cases r1
  exact wpAny_truthy_bool ⟨H1, I1, q⟩
variable {tA tB' : TT} {rest : List Expr}
def tAnd (t u : TT) : TT := fun σ H Q => t σ H fun c H1 => if c = true then u σ H1 Q else Q false H1
def tOr (t u : TT) : TT := fun σ H Q => t σ H fun c H1 => if c = true then Q true H1 else u σ H1 Q
def tNot (t : TT) : TT := fun σ H Q => t σ H fun c H1 => Q (!c) H1
theorem pw_and1 (ha : PT X a tA) : PW X (.BoolOp .And [a] pos) tA := by
  intro wh pins s σ H Q I h
  refine isTrue_and (thn (ha pins s σ H Q I h) fun c s1 e => ?_)
  cases c with
  | true => exact isTrue_and_nil e
  | false => exact e
theorem pw_or1 (ha : PT X a tA) : PW X (.BoolOp .Or [a] pos) tA := by
  intro wh pins s σ H Q I h
  refine isTrue_or (thn (ha pins s σ H Q I h) fun c s1 e => ?_)
  cases c with
  | false => exact isTrue_or_nil e
  | true => exact e
theorem pw_and (ha : PT X a tA) (hb : PW X (.BoolOp .And (b :: rest) pos) tB') : PW X (.BoolOp .And (a :: b :: rest) pos) (tAnd tA tB') := by
  intro wh pins s σ H Q I h
  refine isTrue_and (thn (ha pins s σ H _ I h) fun c s1 ⟨H1, I1, q1⟩ => ?_)
  cases c with
  | true => exact hb wh pins s1 σ H1 Q I1 q1
  | false => exact ⟨H1, I1, q1⟩
theorem pw_or (ha : PT X a tA) (hb : PW X (.BoolOp .Or (b :: rest) pos) tB') : PW X (.BoolOp .Or (a :: b :: rest) pos) (tOr tA tB') := by
  intro wh pins s σ H Q I h
  refine isTrue_or (thn (ha pins s σ H _ I h) fun c s1 ⟨H1, I1, q1⟩ => ?_)
  cases c with
  | true => exact ⟨H1, I1, q1⟩
  | false => exact hb wh pins s1 σ H1 Q I1 q1
theorem pt_not (ha : PT X a tA) : PT X (.UnaryOp .Not a pos) (tNot tA) := by
  intro pins s σ H Q I h
  exact isTrue_not (ha pins s σ H (fun c H1 => Q (!c) H1) I h)
def tAndV (ta tb : TE) : TE := fun σ H Q => ta σ H fun x H1 => ∃ c, x = .bl c ∧ if c = true then tb σ H1 Q else Q (.bl false) H1
def tNotV (ta : TE) : TE := fun σ H Q => ta σ H fun x H1 => ∃ c, x = .bl c ∧ Q (.bl (!c)) H1
theorem pe_one {op} {t : TE} (h : PE X a t) : PE X (.BoolOp op [a] pos) t := fun pins s σ H Q I hw => BoolOp_one (h pins s σ H Q I hw)
theorem pe_and (ha : PE X a ta) (hb : PE X (.BoolOp .And (b :: rest) pos) tb) : PE X (.BoolOp .And (a :: b :: rest) pos) (tAndV ta tb) := by
  intro pins s σ H Q I h
  refine BoolOp_and (thn (ha pins s σ H _ I h) fun v s1 ⟨x, H1, I1, r1, q1⟩ => ?_)
  obtain ⟨c, rfl, q1⟩ := q1
  cases r1
  refine wpAny_truthy_bool ?_
  cases c with
  | true => exact hb pins s1 σ H1 Q I1 q1
  | false => exact ⟨.bl false, H1, I1, rfl, q1⟩
theorem pe_not (ha : PE X a ta) : PE X (.UnaryOp .Not a pos) (tNotV ta) := by
  intro pins s σ H Q I h
  refine UnaryOp_ (thn (ha pins s σ H _ I h) fun v s1 ⟨x, H1, I1, r1, q1⟩ => ?_)
  obtain ⟨c, rfl, q1⟩ := q1
  cases r1
  exact not_of (wpAny_truthy_bool ⟨.bl (!c), H1, I1, rfl, q1⟩)
def tIf (t : TT) (ta tb : TE) : TE := fun σ H Q => t σ H fun c H1 => if c = true then ta σ H1 Q else tb σ H1 Q
theorem pe_ifExp {c : Expr} (hc : PT X c tA) (ha : PE X a ta) (hb : PE X b tb) : PE X (.IfExp c a b pos) (tIf tA ta tb) := by
  intro pins s σ H Q I h
  refine wpAny_IfExp (thn (hc pins s σ H _ I h) fun d s1 ⟨H1, I1, q1⟩ => ?_)
  cases d with
  | true => exact ha pins s1 σ H1 Q I1 q1
  | false => exact hb pins s1 σ H1 Q I1 q1
end
end L2

namespace L2
open PySem PySem.Spec PyProof.Rows

def SqL (K : PySem.W.Frag) (H : Hp) (a : Addr) (xs : List V) : Prop :=
  Rd H a (.lst xs) ∨
    ∃ (o : Obj) (its : Array Value) (n : Nat), K.lookup a = some o ∧ o.cls = .type "list" ∧ o.dict = none ∧ o.data = .seq its n ∧ its.size ≤ sizeLine ∧ Vals xs its.toList
def SqT (K : PySem.W.Frag) (H : Hp) (a : Addr) (xs : List V) : Prop :=
  Rd H a (.tup xs) ∨
    ∃ (o : Obj) (its : Array Value) (n : Nat), K.lookup a = some o ∧ o.cls = .type "tuple" ∧ o.data = .seq its n ∧ its.size ≤ sizeLine ∧ Vals xs its.toList
def absV : Value → Option V
  | .none => some .non
  | .bool b => some (.bl b)
  | .int i _ => some (.int i)
  | .str x _ => some (.str x)
  | .bytes b _ => some (.byt b)
  | .float b _ => some (.flt b)
  | .ref a => some (.ref a)
  | .type n => some (.ty n)
  | _ => none
theorem RelV.abs {x : V} {u : Value} (r : RelV x u) : absV u = some x := by
  cases x with
  | non => cases r; rfl
  | bl _ => cases r; rfl
  | int _ => obtain ⟨t, rfl⟩ := r; rfl
  | str _ => obtain ⟨t, rfl⟩ := r; rfl
  | byt _ => obtain ⟨t, rfl⟩ := r; rfl
  | flt _ => obtain ⟨t, rfl⟩ := r; rfl
  | ref _ => cases r; rfl
  | ty _ => cases r; rfl
theorem RelV.inj {x y : V} {u : Value} (r : RelV x u) (q : RelV y u) : x = y := Option.some.inj (r.abs.symm.trans q.abs)
theorem Vals.inj : ∀ {xs ys : List V} {us : List Value}, Vals xs us → Vals ys us → xs = ys
  | _, _, _, .nil, .nil => rfl
  | _, _, _, .cons r t, .cons r' t' => by rw [r.inj r', Vals.inj t t']
section
variable {X : Cx} {pins : List (Addr × Obj)} {σ : St} {H : Hp} {s : Shared} {a : Addr} {xs ys : List V}
theorem SqL.of {K : PySem.W.Frag} (h : H a = some (.lst xs)) : SqL K H a xs := .inl (.inl h)
theorem SqT.of {K : PySem.W.Frag} (h : H a = some (.tup xs)) : SqT K H a xs := .inl (.inl h)
theorem Inv.list (I : Inv X pins σ H s) (h : SqL X.K H a xs) : ∃ its : List Value, Vals xs its ∧ PlainL s.heap a its.toArray ∧ xs.length ≤ sizeLine := by
  rcases h with h | ⟨o, its, n, hk, hc, hd, hs, hz, r⟩
  · obtain ⟨z, its, n, r, e⟩ := h.ok I.hok
    exact ⟨its, r, ⟨_, n, e, rfl, rfl, rfl⟩, z⟩
  · refine ⟨its.toList, r, ⟨o, n, I.kIn a o hk, hc, hd, by simpa using hs⟩, ?_⟩
    have e := r.length
    simp only [Array.length_toList] at e
    omega
theorem Inv.tuple (I : Inv X pins σ H s) (h : SqT X.K H a xs) : ∃ its : List Value, Vals xs its ∧ IsTup s.heap a its.toArray ∧ xs.length ≤ sizeLine := by
  rcases h with h | ⟨o, its, n, hk, hc, hs, hz, r⟩
  · obtain ⟨z, its, r, p⟩ := h.ok I.hok
    exact ⟨its, r, p.tup, z⟩
  · refine ⟨its.toList, r, ⟨o, I.kIn a o hk, hc, n, by simpa using hs⟩, ?_⟩
    have e := r.length
    simp only [Array.length_toList] at e
    omega
theorem Inv.list_inj (I : Inv X pins σ H s) (h : SqL X.K H a xs) (h' : SqL X.K H a ys) : xs = ys := by
  obtain ⟨its, r, ⟨o, n, e, _, _, d⟩, _⟩ := I.list h
  obtain ⟨its', r', ⟨o', n', e', _, _, d'⟩, _⟩ := I.list h'
  rw [e] at e'; cases e'
  rw [d] at d'
  injection d' with d1 _
  have : its = its' := by simpa using congrArg Array.toList d1
  subst this
  exact r.inj r'
theorem Inv.tuple_inj (I : Inv X pins σ H s) (h : SqT X.K H a xs) (h' : SqT X.K H a ys) : xs = ys := by
  obtain ⟨its, r, ⟨o, e, _, n, d⟩, _⟩ := I.tuple h
  obtain ⟨its', r', ⟨o', e', _, n', d'⟩, _⟩ := I.tuple h'
  rw [e] at e'; cases e'
  rw [d] at d'
  injection d' with d1 _
  have : its = its' := by simpa using congrArg Array.toList d1
  subst this
  exact r.inj r'
end

abbrev Cx.wish (X : Cx) (E : Value → Shared → Prop) : Cx := { X with xe := E }
abbrev Cx.nox (X : Cx) : Cx := X.wish fun _ _ => False
theorem Cx.Ok.wish {X : Cx} (ok : X.Ok) (E : Value → Shared → Prop) : (X.wish E).Ok :=
  ⟨ok.mod, ok.kind, ok.glob, ok.blt, ok.above, ok.inj, ok.has, ok.cab, ok.hd, ok.frames, ok.stk, ok.exf, ok.bs, ok.bsz, ok.noex, ok.exfs, ok.funs, ok.frf⟩
theorem Cx.Ok.unwish {X : Cx} {E : Value → Shared → Prop} (ok : (X.wish E).Ok) : X.Ok :=
  ⟨ok.mod, ok.kind, ok.glob, ok.blt, ok.above, ok.inj, ok.has, ok.cab, ok.hd, ok.frames, ok.stk, ok.exf, ok.bs, ok.bsz, ok.noex, ok.exfs, ok.funs, ok.frf⟩
section
variable {X : Cx} {pins : List (Addr × Obj)} {σ : St} {H : Hp} {s : Shared} {E : Value → Shared → Prop}
theorem Inv.wish (I : Inv X pins σ H s) (E : Value → Shared → Prop) : Inv (X.wish E) pins σ H s := ⟨I.ok.wish E, I.os, I.bare, I.base, I.loc, I.cell, I.free, I.freeC, I.pin, I.hok, I.len⟩
theorem Inv.unwish (I : Inv (X.wish E) pins σ H s) : Inv X pins σ H s := ⟨I.ok.unwish, I.os, I.bare, I.base, I.loc, I.cell, I.free, I.freeC, I.pin, I.hok, I.len⟩
theorem SP.unwish {D : Ends} {f : Flow} {s' : Shared} (h : SP (X.wish E) pins D f s') : SP X pins D f s' := by
  cases f with
  | next => obtain ⟨σ', H', I, q⟩ := h; exact ⟨σ', H', I.unwish, q⟩
  | brk => obtain ⟨σ', H', I, q⟩ := h; exact ⟨σ', H', I.unwish, q⟩
  | cont => obtain ⟨σ', H', I, q⟩ := h; exact ⟨σ', H', I.unwish, q⟩
  | ret u => obtain ⟨v, σ', H', I, r, q⟩ := h; exact ⟨v, σ', H', I.unwish, r, q⟩
theorem PE.nox {e : Expr} {t : TE} (h : PE X.nox e t) : PE X e t := fun pins s σ H Q I hw =>
  wpAny_mono (h pins s σ H Q (I.wish _) hw) (fun _ _ ⟨v, H', I', r, q⟩ => ⟨v, H', I'.unwish, r, q⟩) fun _ _ z => False.elim z
theorem PT.nox {e : Expr} {t : TT} (h : PT X.nox e t) : PT X e t := fun pins s σ H Q I hw =>
  wpAny_mono (h pins s σ H Q (I.wish _) hw) (fun _ _ ⟨H', I', q⟩ => ⟨H', I'.unwish, q⟩) fun _ _ z => False.elim z
theorem PSs.nox {st : List Stmt} {t : TS} (h : PSs X.nox st t) : PSs X st t := fun pins s σ H D I hw =>
  wpAny_mono (h pins s σ H D (I.wish _) hw) (fun _ _ q => q.unwish) fun _ _ z => False.elim z
end

section
variable {X : Cx} {st : Stmt} {rest : List Stmt} {t u : TS} {e : Expr} {te : TE} {pos : Pos}
def tNext : TS := fun D σ H => D.nx σ H
def tSeq (t u : TS) : TS := fun D σ H => t { D with nx := u D } σ H
theorem pss_nil : PSs X [] tNext := fun _ _ σ H _ I h => wpAny_execs_nil ⟨σ, H, I, h⟩
theorem pss_cons (h1 : PS X st t) (h2 : PSs X rest u) : PSs X (st :: rest) (tSeq t u) := by
  intro pins s σ H D I h
  refine wpAny_execs_cons (thn (h1 pins s σ H { D with nx := u D } I h) fun f s1 q => ?_)
  cases f with
  | next =>
    obtain ⟨σ', H', I', q⟩ := q
    exact h2 pins s1 σ' H' D I' q
  | ret v => exact q
  | brk => exact q
  | cont => exact q
theorem pss_one (h1 : PS X st t) : PSs X [st] t := by
  intro pins s σ H D I h
  refine wpAny_execs_cons (thn (h1 pins s σ H D I h) fun f s1 q => ?_)
  cases f with
  | next => exact wpAny_execs_nil q
  | ret v => exact q
  | brk => exact q
  | cont => exact q
theorem Inv.quiet {pins : List (Addr × Obj)} {σ : St} {H : Hp} {s : Shared} (I : Inv X pins σ H s) : interactive X.env = false := by simp [interactive, I.ok.kind]
def tDrop (te : TE) : TS := fun D σ H => te σ H fun _ H1 => D.nx σ H1
theorem ps_expr (he : PE X e te) (hs : swapsWith e none pos.line X.env = pure false := by rfl) : PS X (.Expr e pos) (tDrop te) := by
  intro pins s σ H D I h
  exact wpAny_Expr_any (thn (he pins s σ H _ I h) fun v s1 ⟨x, H1, I1, r1, q1⟩ => ⟨σ, H1, I1, q1⟩) I.quiet hs
def tRet (te : TE) : TS := fun D σ H => te σ H D.rt
theorem ps_ret (he : PE X e te) : PS X (.Return (some e) pos) (tRet te) := by
  intro pins s σ H D I h
  exact wpAny_Return_some (thn (he pins s σ H _ I h) fun v s1 ⟨x, H1, I1, r1, q1⟩ => ⟨x, σ, H1, I1, r1, q1⟩)
def tIfS (c : TT) (t u : TS) : TS := fun D σ H => c σ H fun b H1 => if b = true then t D σ H1 else u D σ H1
theorem ps_if {c : Expr} {a b : List Stmt} {tc : TT} (hc : PT X c tc) (ha : PSs X a t) (hb : PSs X b u) : PS X (.If c a b pos) (tIfS tc t u) := by
  intro pins s σ H D I h
  refine wpAny_If (thn (hc pins s σ H _ I h) fun d s1 ⟨H1, I1, q1⟩ => ?_)
  cases d with
  | true => exact ha pins s1 σ H1 D I1 q1
  | false => exact hb pins s1 σ H1 D I1 q1
end

abbrev TG := V → St → Hp → (St → Hp → Prop) → Prop
abbrev TGs := List V → St → Hp → (St → Hp → Prop) → Prop
def PG (X : Cx) (target : Expr) (t : TG) : Prop :=
  ∀ (pins : List (Addr × Obj)) (s : Shared) (σ : St) (H : Hp) (v : V) (u : Value) (Q : St → Hp → Prop), Inv X pins σ H s → RelV v u → t v σ H Q →
    wpAny (model X.prog X.w) X.A (assign target X.env u) (fun _ s' => ∃ σ' H', Inv X pins σ' H' s' ∧ Q σ' H') X.xe s
def PGs (X : Cx) (ts : List Expr) (t : TGs) : Prop :=
  ∀ (pins : List (Addr × Obj)) (s : Shared) (σ : St) (H : Hp) (vs : List V) (us : List Value) (Q : St → Hp → Prop), Inv X pins σ H s → Vals vs us → t vs σ H Q →
    wpAny (model X.prog X.w) X.A (assignInOrder ((assignEach ts X.env).map (·.2)) us) (fun _ s' => ∃ σ' H', Inv X pins σ' H' s' ∧ Q σ' H') X.xe s
section
variable {X : Cx} {pos : Pos}
def gName (i : Nat) : TG := fun v σ H Q => Q (σ.set i (some v)) H
theorem pg_name {i : Nat} {x : Str} (hN : X.N.Nodup) (hi : X.N[i]? = some x) (hx : Loc X.env.scope x) (hf : X.fn x = true ∨ X.env.scope.names.lookup x = some .local := by first | exact .inl rfl | exact .inr rfl | assumption) : PG X (.Name x pos) (gName i) := by
  intro pins s σ H v u Q I r h
  exact wpAny_assign_Name (store_ok I hN hi hx r (fun s' I' => ⟨_, H, I', h⟩) hf)
def gNil : TGs := fun vs σ H Q => vs = [] ∧ Q σ H
def gCons (t : TG) (u : TGs) : TGs := fun vs σ H Q => ∃ v r, vs = v :: r ∧ t v σ H fun σ' H' => u r σ' H' Q
theorem pgs_nil : PGs X [] gNil := by
  intro pins s σ H vs us Q I r h
  obtain ⟨e, h⟩ := h
  subst e
  cases r
  exact assignInOrder_nil ⟨σ, H, I, h⟩
theorem pgs_cons {e : Expr} {es : List Expr} {t : TG} {u : TGs} (h1 : PG X e t) (h2 : PGs X es u)
    (hs : (assignEach (e :: es) X.env).map (·.2) = assign e X.env :: (assignEach es X.env).map (·.2) := by rfl) : PGs X (e :: es) (gCons t u) := by
  intro pins s σ H vs us Q I r h
  obtain ⟨v, vr, e1, h⟩ := h
  subst e1
  cases r with
  | cons r rr =>
    rw [hs]
    refine assignInOrder_cons (thn (h1 pins s σ H _ _ _ I r h) fun _ s1 ⟨σ1, H1, I1, q1⟩ => ?_)
    exact h2 pins s1 σ1 H1 _ _ Q I1 rr q1
def gTup (K : PySem.W.Frag) (n : Nat) (t : TGs) : TG := fun v σ H Q => ∃ a xs, v = .ref a ∧ SqT K H a xs ∧ xs.length = n ∧ t xs σ H Q
theorem pg_tup {es : List Expr} {k : Nat} {t : TGs} {n : Nat} (hc : X.calm = true) (h : PGs X es t)
    (hn : (assignEach es X.env).length = n := by rfl) (hst : (assignEach es X.env).findIdx? (·.1) = none := by rfl) : PG X (.Tuple es k pos) (gTup X.K n t) := by
  intro pins s σ H v u Q I r hw
  obtain ⟨a, xs, e1, hq, hl, hw⟩ := hw
  subst e1
  cases r
  obtain ⟨its, rv, ht, hz⟩ := I.tuple hq
  refine assign_Tuple_tuple (I.ok.hd hc) ht (by simp [hn, ← hl, rv.length]) hst fun h' hx => ?_
  have I1 : Inv X pins σ H { s with heap := h' } := I.kept (t' := s.toks) fun b o e => hx b o (Nat.ne_of_lt (Heap.lt_size e)) e
  exact h pins _ σ H xs _ Q I1 (by simpa using rv) hw
def tAsg (te : TE) (g : TG) : TS := fun D σ H => te σ H fun x H1 => g x σ H1 D.nx
theorem ps_asg {tg e : Expr} {te : TE} {g : TG} (he : PE X e te) (hg : PG X tg g) (hs : swapsWithSole [tg] e pos.line X.env = pure false := by rfl) (hw : swappedStores [tg] e X.env = pure none := by rfl)
    (h1 : (assignEach [tg] X.env).map (·.2) = [assign tg X.env] := by rfl) : PS X (.Assign [tg] e pos) (tAsg te g) := by
  intro pins s σ H D I h
  refine wpAny_Assign_stores (thn (he pins s σ H _ I h) fun v s1 ⟨x, H1, I1, r1, q1⟩ => ?_) hs hw
  rw [h1]
  exact thn (hg pins s1 σ H1 x v _ I1 r1 q1) fun _ s2 q => q
theorem ps_set {i : Nat} {x : Str} {e : Expr} {te : TE} {pos' : Pos} (hN : X.N.Nodup) (hi : X.N[i]? = some x) (hx : Loc X.env.scope x) (he : PE X e te) (hs : swapsWith e (some (.Name x pos')) pos.line X.env = pure false := by rfl) (hf : X.fn x = true ∨ X.env.scope.names.lookup x = some .local := by first | exact .inl rfl | exact .inr rfl | assumption) :
    PS X (.Assign [.Name x pos'] e pos) (tAsg te (gName i)) := by
  intro pins s σ H D I h
  refine wpAny_Assign_Name (thn (he pins s σ H _ I h) fun v s1 ⟨y, H1, I1, r1, q1⟩ => ?_) hs
  exact store_ok I1 hN hi hx r1 (fun s2 I2 => ⟨_, H1, I2, q1⟩) hf
def tPar (i j : Nat) (ta : TA) : TS := fun D σ H => ta σ H fun vs H1 => ∃ v w, vs = [v, w] ∧ D.nx ((σ.set i (some v)).set j (some w)) H1
theorem ps_par {i j : Nat} {x y : Str} {a b : Expr} {ta : TA} {px py pt : Pos} {kt k2 pt2} (hc : X.calm = true) (hN : X.N.Nodup) (hi : X.N[i]? = some x) (hj : X.N[j]? = some y) (hij : i ≠ j)
    (hx : X.env.scope.names.lookup x = some .local) (hy : X.env.scope.names.lookup y = some .local) (ha : PA X [a, b] ta)
    (hw : swappedStores [.Tuple [.Name x px, .Name y py] kt pt] (.Tuple [a, b] k2 pt2) X.env = pure (some [x, y]))
    (hs : swapsWithSole [.Tuple [.Name x px, .Name y py] kt pt] (.Tuple [a, b] k2 pt2) pos.line X.env = pure false := by rfl) :
    PS X (.Assign [.Tuple [.Name x px, .Name y py] kt pt] (.Tuple [a, b] k2 pt2) pos) (tPar i j ta) := by
  intro pins s σ H D I h
  rw [exec_Assign_arm]
  refine wpAny_bind (wpAny_standAt ?_)
  rw [hs]
  refine wpAny_bind (wpAny_pure ?_)
  rw [if_neg (by decide)]
  refine wpAny_bind (Tuple_ (thn (ha _ pins s σ H _ I h) fun us s1 ⟨vs, H1, I1, r1, q1⟩ => ?_))
  obtain ⟨v, w, e1, q1⟩ := q1
  subst e1
  obtain ⟨u1, u2, rfl, rv, rw'⟩ : ∃ u1 u2, us = [u1, u2] ∧ RelV v u1 ∧ RelV w u2 := by
    cases r1 with
    | cons p q =>
      cases q with
      | cons p' q' =>
        cases q'
        exact ⟨_, _, rfl, p, p'⟩
  refine wpAny_newObj_type ?_ (by show 2 ≤ sizeLine; decide)
  have I2 : Inv X pins σ H1 { s1 with heap := s1.heap.push { cls := .type "tuple", data := .seq [u1, u2].toArray } } := I1.kept (t' := s1.toks) fun b o e => Heap.get?_push_of_some _ e
  rw [hw]
  refine wpAny_bind (wpAny_pure ?_)
  show wpAny (model X.prog X.w) X.A (do rule "assign.swapped-stores"; let items ← unpackItems (.ref s1.heap.objs.size) 2 none; assignInOrder [fun v => bindName X.env y v, fun v => bindName X.env x v] items.reverse; pure Flow.next) _ _ _
  refine wpAny_bind (wpAny_rule (wpAny_bind (unpackItems_tuple (items := #[u1, u2]) (I.ok.hd hc) (IsTup.new s1.heap _) fun h' hx' => ?_)))
  have I3 := I2.kept (h' := h') (t' := s1.toks) fun b o e => hx' b o (Nat.ne_of_lt (Heap.lt_size e)) e
  show wpAny _ _ (assignInOrder [fun v => bindName X.env y v, fun v => bindName X.env x v] [u2, u1] >>= fun _ => pure Flow.next) _ _ _
  refine wpAny_bind (assignInOrder_cons (wpAny_bindName (store_ok I3 hN hj (.inl hy) rw' (fun s2 I4 => ?_) (.inr hy))))
  refine assignInOrder_cons (wpAny_bindName (store_ok I4 hN hi (.inl hx) rv (fun s3 I5 => assignInOrder_nil (wpAny_pure ?_)) (.inr hx)))
  rw [List.set_comm _ _ (Ne.symm hij)] at I5
  exact ⟨_, H1, I5, q1⟩
end

section
variable {X : Cx} {pos : Pos}
def tWhile (c : TT) (tb : TS) : TS := fun D σ H => ∃ W : Nat → St → Hp → Prop, (∃ m, W m σ H) ∧ ∀ m σ H, W m σ H →
  c σ H fun b H1 => if b = true then ∃ N : St → Hp → Prop, (∀ σ' H', N σ' H' → ∃ m', m' < m ∧ W m' σ' H') ∧ tb { D with nx := N, ct := N, bk := D.nx } σ H1 else D.nx σ H1
theorem ps_while {c : Expr} {body : List Stmt} {tc : TT} {tb : TS} (hp : PassesOwn (model X.prog X.w) X.A X.env X.xe) (hc : PT X c tc) (hb : PSs X body tb) : PS X (.While c body [] pos) (tWhile tc tb) := by
  intro pins s σ H D I h
  obtain ⟨W, ⟨m0, w0⟩, turn⟩ := h
  refine wpAny_While (codeAny_whileLoop (fun n s' => ∃ σ' H', Inv X pins σ' H' s' ∧ W n σ' H') ?_ m0 ⟨σ, H, I, w0⟩)
  rintro n s1 ⟨σ1, H1, I1, w1⟩
  refine wpAny_passesOwn hp (thn (hc pins s1 σ1 H1 _ I1 (turn n σ1 H1 w1)) fun b s2 ⟨H2, I2, q2⟩ => ?_)
  cases b with
  | true =>
    obtain ⟨N, hN, q2⟩ := q2
    rw [if_pos rfl]
    refine wpAny_passesOwn hp (thn (hb pins s2 σ1 H2 _ I2 q2) fun f s3 q3 => ?_)
    cases f with
    | next =>
      obtain ⟨σ3, H3, I3, n3⟩ := q3
      obtain ⟨m', hm, w3⟩ := hN σ3 H3 n3
      exact ⟨m', hm, σ3, H3, I3, w3⟩
    | cont =>
      obtain ⟨σ3, H3, I3, n3⟩ := q3
      obtain ⟨m', hm, w3⟩ := hN σ3 H3 n3
      exact ⟨m', hm, σ3, H3, I3, w3⟩
    | brk => exact q3
    | ret v => exact q3
  | false =>
    rw [if_neg Bool.false_ne_true]
    exact wpAny_execs_nil ⟨σ1, H2, I2, q2⟩
end

structure It where
  go : Nat → Hp → Prop
  yld : Nat → Hp → V → Hp → Prop
  stop : Nat → Hp → Prop
def FpOk (X : Cx) (pins : List (Addr × Obj)) (H : Hp) (b : Addr) : Prop :=
  H b = none ∧ b ≠ X.env.locals ∧ b ∉ X.fs ∧ (b ∈ X.ex ∨ X.s₀.heap.objs.size ≤ b) ∧ (∀ x c, X.env.cells.lookup x = some c → c ≠ b) ∧ ∀ p ∈ X.pn ++ pins, p.1 ≠ b
theorem Inv.fpOk {X : Cx} {pins : List (Addr × Obj)} {σ : St} {H H' : Hp} {s : Shared} {b : Addr} (I : Inv X pins σ H s) (hb : s.heap.objs.size ≤ b) (hn : H' b = none) : FpOk X pins H' b := by
  refine ⟨hn, Nat.ne_of_gt (Nat.lt_of_lt_of_le I.lt hb), I.nofs hb, .inr (Nat.le_trans I.sz hb), fun x c e z => ?_, fun p hp z => ?_⟩
  · obtain ⟨v, q⟩ := I.cell x c e
    exact absurd (Nat.lt_of_lt_of_le q.lt (by rw [z]; exact hb)) (Nat.lt_irrefl _)
  · exact absurd (Nat.lt_of_lt_of_le (Heap.lt_size (I.pin p hp).1) (by rw [z]; exact hb)) (Nat.lt_irrefl _)
structure Turn (P : Program) (w : World) (K : PySem.W.Frag) (tg : Expr) (J : It) (fp : List Addr) (it : Addr) (tn : Nat → Heap → Prop) : Prop where
  mem : it ∈ fp
  obj : ∀ i h, tn i h → ∀ b ∈ fp, ∃ o, h.get? b = some o ∧ ∀ v, o.data ≠ .cell v
  keep : ∀ i h h', tn i h → (∀ b ∈ fp, ∀ o, h.get? b = some o → h'.get? b = some o) → tn i h'
  item : ∀ (X : Cx), X.prog = P → X.w = w → X.K = K → X.calm = true → ∀ (i : Nat) (pins : List (Addr × Obj)) (s : Shared) (σ : St) (H : Hp) (E : Value → Shared → Prop), Inv X pins σ H s → (∀ b ∈ fp, FpOk X pins H b) → tn i s.heap → J.go i H →
    wpAny (model P w) X.A (pyNext (.ref it)) (fun r s1 => ∃ u, r = some u ∧
      wpAny (model P w) X.A (letOwnedTupleGo tg (.ref it) u) (fun _ s2 => ∃ x H', Inv X pins σ H' s2 ∧ RelV x u ∧ J.yld i H x H' ∧ tn (i + 1) s2.heap ∧ ∀ b ∈ fp, H' b = none) E s1) E s
  done : ∀ (X : Cx), X.prog = P → X.w = w → X.K = K → X.calm = true → ∀ (i : Nat) (pins : List (Addr × Obj)) (s : Shared) (σ : St) (H : Hp) (E : Value → Shared → Prop), Inv X pins σ H s → (∀ b ∈ fp, FpOk X pins H b) → tn i s.heap → J.stop i H →
    wpAny (model P w) X.A (pyNext (.ref it)) (fun r s1 => r = none ∧ Inv X pins σ H s1) E s
  self : ∀ (A : Around) (i : Nat) (s : Shared) (Q : Value → Shared → Prop) (E : Value → Shared → Prop), tn i s.heap → Q (.ref it) s → wpAny (model P w) A (pyIter (.ref it)) Q E s
abbrev TI := St → Hp → (It → Hp → Prop) → Prop
def PIE (X : Cx) (pins : List (Addr × Obj)) (σ : St) (tg : Expr) (R : It → Hp → Prop) (itv : Value) (s2 : Shared) : Prop :=
  ∃ (it : Addr) (fp : List Addr) (tn : Nat → Heap → Prop) (J : It) (H' : Hp), itv = .ref it ∧ Inv X pins σ H' s2 ∧ Turn X.prog X.w X.K tg J fp it tn ∧ tn 0 s2.heap ∧ (∀ b ∈ fp, FpOk X pins H' b) ∧ R J H'
def PI (X : Cx) (tg iter : Expr) (wi : TI) : Prop :=
  ∀ (pins : List (Addr × Obj)) (s : Shared) (σ : St) (H : Hp) (R : It → Hp → Prop), Inv X pins σ H s → wi σ H R →
    wpAny (model X.prog X.w) X.A (eval iter X.env) (fun v s1 => wpAny (model X.prog X.w) X.A (pyIter v) (PIE X pins σ tg R) X.xe s1) X.xe s

theorem go_of {M : Model} {A : Around} {E : Value → Shared → Prop} {s : Shared} {tg : Expr} {it : Addr} {u : Value} {o : Obj} {n : String} {vs : Array Value} {Q : Unit → Shared → Prop} (ho : s.heap.get? it = some o) (hc : o.cls = .type n) (hd : o.data = .fields vs)
    (hn : ["enumerate", "zip", "dict_itemiterator", "dict_reverseitemiterator", "odict_iterator", "itertools.zip_longest", "itertools.pairwise"].contains n = false) (hQ : Q () s) : wpAny M A (letOwnedTupleGo tg (.ref it) u) Q E s := by
  unfold letOwnedTupleGo
  cases tg <;> first
    | exact wpAny_pure hQ
    | (cases u <;> first
        | exact wpAny_pure hQ
        | (refine wpAny_bind (wpAny_load ho ?_)
           rw [hc, hd]
           show wpAny M A (if (["enumerate", "zip", "dict_itemiterator", "dict_reverseitemiterator", "odict_iterator", "itertools.zip_longest", "itertools.pairwise"].contains n && vs[0]? == some (rawInt _)) = true then _ else _) Q E s
           rw [if_neg (by intro h; rw [hn, Bool.false_and] at h; cases h)]
           exact wpAny_pure hQ))

def Itl (K : PySem.W.Frag) (a : Addr) : It :=
  ⟨fun i H => ∃ xs x, SqL K H a xs ∧ xs[i]? = some x, fun i H x H' => H' = H ∧ ∀ xs, SqL K H a xs → xs[i]? = some x, fun i H => ∃ xs, SqL K H a xs ∧ xs.length ≤ i⟩
def Itt (K : PySem.W.Frag) (a : Addr) : It :=
  ⟨fun i H => ∃ xs x, SqT K H a xs ∧ xs[i]? = some x, fun i H x H' => H' = H ∧ ∀ xs, SqT K H a xs → xs[i]? = some x, fun i H => ∃ xs, SqT K H a xs ∧ xs.length ≤ i⟩
def Itr (lo : Int) (n : Nat) : It := ⟨fun i _ => i < n, fun i H x H' => H' = H ∧ x = .int (lo + i), fun i _ => n ≤ i⟩
theorem turn_list {P : Program} {w : World} {K : PySem.W.Frag} {tg : Expr} (a it : Addr) : Turn P w K tg (Itl K a) [it] it (fun i h => h.IsListIter it a i) where
  mem := by simp
  obj := fun i h st b hb => by
    have e : b = it := by simpa using hb
    subst e
    obtain ⟨o, e, c, d⟩ := st
    exact ⟨o, e, fun v z => by rw [d] at z; cases z⟩
  keep := fun i h h' st k => st.at fun o e => k it (by simp) o e
  item := by
    intro X hP hw hK hc i pins s σ H E I hf st hg
    subst hP hw hK
    obtain ⟨xs, x, hq, hx⟩ := hg
    obtain ⟨its, rv, p, hz⟩ := I.list hq
    obtain ⟨u, hu, ru⟩ := rv.get hx
    obtain ⟨f0, f1, f2, f3, f4, f5⟩ := hf it (by simp)
    refine wpAny_pyNext_list_item st p.isList (x := u) (by simpa using hu) fun h' st' sb => ?_
    have I1 : Inv X pins σ H { s with heap := h' } := I.turned (t' := s.toks) (fun b o hb e => (sb.2 b hb).trans e) f0 f1 f3 f4 f5
    obtain ⟨o, e, c, d⟩ := id st'
    exact ⟨u, rfl, go_of (s := { s with heap := h' }) e c d (by decide) ⟨x, H, I1, ru, ⟨rfl, fun ys hy => by rw [I.list_inj hy hq]; exact hx⟩, st', fun b hb => (hf b hb).1⟩⟩
  done := by
    intro X hP hw hK hc i pins s σ H E I hf st hg
    subst hP hw hK
    obtain ⟨xs, hq, hx⟩ := hg
    obtain ⟨its, rv, p, hz⟩ := I.list hq
    obtain ⟨f0, f1, f2, f3, f4, f5⟩ := hf it (by simp)
    have hl := rv.length
    exact wpAny_pyNext_list_end (I.ok.hd hc) st p.isList (by simp; omega) fun h' eb => ⟨rfl, I.turned (t' := s.toks) (fun b o hb e => eb b o hb e) f0 f1 f3 f4 f5⟩
  self := fun _ _ _ _ _ st h => wpAny_pyIter_listiter st h
theorem turn_tuple {P : Program} {w : World} {K : PySem.W.Frag} {tg : Expr} (a it : Addr) : Turn P w K tg (Itt K a) [it] it (fun i h => h.IsTupleIter it a i) where
  mem := by simp
  obj := fun i h st b hb => by
    have e : b = it := by simpa using hb
    subst e
    obtain ⟨o, e, c, d⟩ := st
    exact ⟨o, e, fun v z => by rw [d] at z; cases z⟩
  keep := fun i h h' st k => st.at fun o e => k it (by simp) o e
  item := by
    intro X hP hw hK hc i pins s σ H E I hf st hg
    subst hP hw hK
    obtain ⟨xs, x, hq, hx⟩ := hg
    obtain ⟨its, rv, p, hz⟩ := I.tuple hq
    obtain ⟨u, hu, ru⟩ := rv.get hx
    obtain ⟨f0, f1, f2, f3, f4, f5⟩ := hf it (by simp)
    refine wpAny_pyNext_tuple_item st (show s.heap.IsTuple a its.toArray from p) (x := u) (by simpa using hu) fun h' st' sb => ?_
    have I1 : Inv X pins σ H { s with heap := h' } := I.turned (t' := s.toks) (fun b o hb e => (sb.2 b hb).trans e) f0 f1 f3 f4 f5
    obtain ⟨o, e, c, d⟩ := id st'
    exact ⟨u, rfl, go_of (s := { s with heap := h' }) e c d (by decide) ⟨x, H, I1, ru, ⟨rfl, fun ys hy => by rw [I.tuple_inj hy hq]; exact hx⟩, st', fun b hb => (hf b hb).1⟩⟩
  done := by
    intro X hP hw hK hc i pins s σ H E I hf st hg
    subst hP hw hK
    obtain ⟨xs, hq, hx⟩ := hg
    obtain ⟨its, rv, p, hz⟩ := I.tuple hq
    obtain ⟨f0, f1, f2, f3, f4, f5⟩ := hf it (by simp)
    have hl := rv.length
    exact wpAny_pyNext_tuple_end (I.ok.hd hc) st (show s.heap.IsTuple a its.toArray from p) (by simp; omega) fun h' eb => ⟨rfl, I.turned (t' := s.toks) (fun b o hb e => eb b o hb e) f0 f1 f3 f4 f5⟩
  self := fun _ _ _ _ _ st h => wpAny_pyIter_tupleiter st h
theorem turn_range {P : Program} {w : World} {K : PySem.W.Frag} {tg : Expr} (it : Addr) (lo : Int) (n : Nat) : Turn P w K tg (Itr lo n) [it] it (fun i h => IsRangeIter h it (lo + (i : Nat) * 1) ((n : Int) - (i : Nat)) 1) where
  mem := by simp
  obj := fun i h st b hb => by
    have e : b = it := by simpa using hb
    subst e
    exact ⟨_, st, fun v z => by
      have z' : Data.fields _ = Data.cell v := z
      cases z'⟩
  keep := fun i h h' st k => k it (by simp) _ st
  item := by
    intro X hP hw hK hc i pins s σ H E I hf st hg
    subst hP hw hK
    obtain ⟨f0, f1, f2, f3, f4, f5⟩ := hf it (by simp)
    have W := Walks.range (prog := X.prog) (w := X.w) (I.ok.hd hc) it lo 1 n
    refine W.item i s _ _ hg st fun v h' tk hv st' kk => ?_
    obtain ⟨t, rfl⟩ := hv
    have I1 : Inv X pins σ H { s with heap := h', toks := tk } := I.turned (fun b o hb e => kk b o (by simpa using hb) e) f0 f1 f3 f4 f5
    refine ⟨_, rfl, go_of (s := { s with heap := h', toks := tk }) (n := "range_iterator") st' rfl rfl (by decide) ⟨.int (lo + i), H, I1, ⟨t, ?_⟩, ⟨rfl, rfl⟩, st', fun b hb => (hf b hb).1⟩⟩
    rw [Int.mul_one]
  done := by
    intro X hP hw hK hc i pins s σ H E I hf st hg
    subst hP hw hK
    obtain ⟨f0, f1, f2, f3, f4, f5⟩ := hf it (by simp)
    exact wpAny_pyNext_range_end (I.ok.hd hc) st (by have : n ≤ i := hg; omega) fun h' eb => ⟨rfl, I.turned (t' := s.toks) (fun b o hb e => eb b o hb e) f0 f1 f3 f4 f5⟩
  self := fun _ _ _ _ _ st h => wpAny_pyIter_rangeiter st h
end L2

namespace L2
open PySem PySem.Spec PyProof.Rows
section
variable {X : Cx} {tg : Expr}
def iList (K : PySem.W.Frag) (tl : TE) : TI := fun σ H R => tl σ H fun x H1 => ∃ a, x = .ref a ∧ (∃ xs, SqL K H1 a xs) ∧ R (Itl K a) H1
def iTup (K : PySem.W.Frag) (tl : TE) : TI := fun σ H R => tl σ H fun x H1 => ∃ a, x = .ref a ∧ (∃ xs, SqT K H1 a xs) ∧ R (Itt K a) H1
theorem pi_list {l : Expr} {tl : TE} (hl : PE X l tl) : PI X tg l (iList X.K tl) := by
  intro pins s σ H R I h
  refine thn (hl pins s σ H _ I h) fun v s1 ⟨x, H1, I1, r1, q1⟩ => ?_
  obtain ⟨a, e, ⟨xs, hq⟩, q⟩ := q1
  subst e
  cases r1
  obtain ⟨its, rv, p, hz⟩ := I1.list hq
  refine wpAny_pyIter_list p.isList ?_
  refine ⟨s1.heap.objs.size, [s1.heap.objs.size], _, _, H1, rfl, I1.kept (t' := s1.toks) fun b o e => Heap.get?_push_of_some _ e, turn_list a _, ⟨_, Heap.get?_push_size _ rfl, rfl, rfl⟩, fun b hb => ?_, q⟩
  have e : b = s1.heap.objs.size := by simpa using hb
  subst e
  exact I1.fpOk (Nat.le_refl _) (I1.hok.fresh (Nat.le_refl _))
theorem pi_tup {l : Expr} {tl : TE} (hl : PE X l tl) : PI X tg l (iTup X.K tl) := by
  intro pins s σ H R I h
  refine thn (hl pins s σ H _ I h) fun v s1 ⟨x, H1, I1, r1, q1⟩ => ?_
  obtain ⟨a, e, ⟨xs, hq⟩, q⟩ := q1
  subst e
  cases r1
  obtain ⟨its, rv, p, hz⟩ := I1.tuple hq
  refine wpAny_pyIter_tuple (show s1.heap.IsTuple a its.toArray from p) ?_
  refine ⟨s1.heap.objs.size, [s1.heap.objs.size], _, _, H1, rfl, I1.kept (t' := s1.toks) fun b o e => Heap.get?_push_of_some _ e, turn_tuple a _, ⟨_, Heap.get?_push_size _ rfl, rfl, rfl⟩, fun b hb => ?_, q⟩
  have e : b = s1.heap.objs.size := by simpa using hb
  subst e
  exact I1.fpOk (Nat.le_refl _) (I1.hok.fresh (Nat.le_refl _))
theorem range_it {pins : List (Addr × Obj)} {σ : St} {H : Hp} {s : Shared} {R : It → Hp → Prop} {E : Value → Shared → Prop} {lo hi : Int} {t u v : Tok} {tk : Nat} (I : Inv X pins σ H s) (h1 : -(2 ^ 62) ≤ lo) (h2 : lo < 2 ^ 62) (h3 : -(2 ^ 62) ≤ hi) (h4 : hi < 2 ^ 62)
    (q : R (Itr lo (hi - lo).toNat) H) : wpAny (model X.prog X.w) X.A (pyIter (.ref s.heap.objs.size)) (PIE X pins σ tg R) E { s with heap := s.heap.push { cls := .type "range", data := .fields #[.int lo t, .int hi u, .int 1 v] }, toks := tk } := by
  refine wpAny_pyIter_range (IsRange.new ..) (small_one h1 h2 h3 h4) ?_
  have I1 : Inv X pins σ H { s with heap := s.heap.push { cls := .type "range", data := .fields #[.int lo t, .int hi u, .int 1 v] }, toks := tk } := I.kept fun b o e => Heap.get?_push_of_some _ e
  refine ⟨(s.heap.push { cls := .type "range", data := .fields #[.int lo t, .int hi u, .int 1 v] }).objs.size, [(s.heap.push { cls := .type "range", data := .fields #[.int lo t, .int hi u, .int 1 v] }).objs.size], _, _, H, rfl,
    I1.kept (t' := tk) fun b o e => Heap.get?_push_of_some _ e, turn_range _ lo (hi - lo).toNat, ?_, fun b hb => ?_, q⟩
  · have e1 : lo + ((0 : Nat) : Int) * 1 = lo := by simp
    have e2 : (((hi - lo).toNat : Nat) : Int) - ((0 : Nat) : Int) = Builtin.Range.rangeSize lo hi 1 := by rw [rangeSize_one]; split <;> omega
    show IsRangeIter _ _ (lo + ((0 : Nat) : Int) * 1) ((((hi - lo).toNat : Nat) : Int) - ((0 : Nat) : Int)) 1
    rw [e1, e2]
    exact Heap.get?_push_size _ rfl
  · have e : b = (s.heap.push { cls := .type "range", data := .fields #[.int lo t, .int hi u, .int 1 v] }).objs.size := by simpa using hb
    subst e
    exact I1.fpOk (Nat.le_refl _) (I1.hok.fresh (Nat.le_refl _))
def iRng1 (ta : TA) : TI := fun σ H R => ta σ H fun vs H1 => ∃ j : Int, vs = [.int j] ∧ -(2 ^ 62) ≤ j ∧ j < 2 ^ 62 ∧ R (Itr 0 j.toNat) H1
theorem pi_range1 {a : Expr} {ta : TA} {p pos : Pos} (hg : Gl X "range") (hm : X.mg "range" = none) (ha : PA X [a] ta) (hs : starEach [a] X.env = [(false, eval a X.env)] := by rfl) : PI X tg (.Call (.Name "range" p) [a] [] pos) (iRng1 ta) := by
  intro pins s σ H R I h
  refine Call_ (ld_blt I hg hm boot_range (PyProof.Rows.callWith_type1 (thn (ha pos pins s σ H _ I h) fun us s1 ⟨vs, H1, I1, r1, q1⟩ => ?_) hs rfl))
  obtain ⟨j, e, q1, q2, q⟩ := q1
  subst e
  cases r1 with
  | cons r rr =>
    cases rr
    obtain ⟨t, rfl⟩ := r
    exact call_range_1 (range_it I1 (by omega) (by omega) q1 q2 (by simpa using q))
def tFor (wi : TI) (g : TG) (tb : TS) : TS := fun D σ H => wi σ H fun J H1 => ∃ W : Nat → Nat → St → Hp → Prop, (∃ m, W 0 m σ H1) ∧ ∀ i m σ H, W i m σ H →
  (J.stop i H ∧ D.nx σ H) ∨ (J.go i H ∧ ∃ N : St → Hp → Prop, (∀ σ' H', N σ' H' → ∃ m', m' < m ∧ W (i + 1) m' σ' H') ∧ ∀ x H', J.yld i H x H' → g x σ H' fun σ2 H2 => tb { D with nx := N, ct := N, bk := D.nx } σ2 H2)
def pinsAt (fp : List Addr) (h : Heap) : List (Addr × Obj) := fp.filterMap fun b => (h.get? b).map fun o => (b, o)
theorem mem_pinsAt {fp : List Addr} {h : Heap} {b : Addr} {o : Obj} (hb : b ∈ fp) (e : h.get? b = some o) : (b, o) ∈ pinsAt fp h := List.mem_filterMap.mpr ⟨b, hb, by rw [e]; rfl⟩
theorem of_pinsAt {fp : List Addr} {h : Heap} {p : Addr × Obj} (hp : p ∈ pinsAt fp h) : p.1 ∈ fp ∧ h.get? p.1 = some p.2 := by
  obtain ⟨b, hb, e⟩ := List.mem_filterMap.mp hp
  cases q : h.get? b with
  | none => rw [q] at e; cases e
  | some o =>
    rw [q] at e
    have e' : (b, o) = p := Option.some.inj e
    subst e'
    exact ⟨hb, q⟩
theorem Inv.pinned {pins : List (Addr × Obj)} {σ : St} {H : Hp} {s : Shared} {fp : List Addr} (I : Inv X pins σ H s) (hf : ∀ b ∈ fp, FpOk X pins H b) (ho : ∀ b ∈ fp, ∃ o, s.heap.get? b = some o ∧ ∀ v, o.data ≠ .cell v) : Inv X (pins ++ pinsAt fp s.heap) σ H s :=
  I.pins_of fun p hp => (List.mem_append.mp hp).elim (fun z => I.pin p (List.mem_append_right _ z)) fun z => by
    obtain ⟨hb, e⟩ := of_pinsAt z
    obtain ⟨f0, f1, f2, _⟩ := hf p.1 hb
    obtain ⟨o, e', d⟩ := ho p.1 hb
    rw [e] at e'; cases e'
    exact ⟨e, f0, f1, f2, d⟩
theorem Inv.unpinned {pins pl : List (Addr × Obj)} {σ : St} {H : Hp} {s : Shared} (I : Inv X (pins ++ pl) σ H s) : Inv X pins σ H s := I.pins_of fun p hp => I.pin p (List.mem_append_right _ (List.mem_append_left _ hp))
theorem ps_for {iter : Expr} {body : List Stmt} {wi : TI} {g : TG} {tb : TS} {pos : Pos} (hp : PassesOwn (model X.prog X.w) X.A X.env X.xe) (hc : X.calm = true) (hi : PI X tg iter wi) (hg : PG X tg g) (hb : PSs X body tb)
    (hs : ∀ x, foldedSetIterable iter X.env x = pure x := by intro _; rfl) : PS X (.For tg iter body [] pos) (tFor wi g tb) := by
  intro pins s σ H D I h
  refine wpAny_For (thn (hi pins s σ H _ I h) fun v s1 h1 => thn h1 fun itv s2 h2 => ?_) hs
  obtain ⟨it, fp, tn, J, H2, e, I2, T, st2, f2, W, ⟨m0, w0⟩, turn⟩ := h2
  subst e
  have stat : ∀ {H' : Hp}, (∀ b ∈ fp, H' b = none) → ∀ b ∈ fp, FpOk X pins H' b := fun hn b hb => ⟨hn b hb, (f2 b hb).2⟩
  refine codeAny_forLoop_any (fun n s' => ∃ i σ' H', Inv X pins σ' H' s' ∧ tn i s'.heap ∧ (∀ b ∈ fp, H' b = none) ∧ W i n σ' H') ?_ m0 ⟨0, σ, H2, I2, st2, fun b hb => (f2 b hb).1, w0⟩
  rintro n s3 ⟨i, σ3, H3, I3, st3, fr3, w3⟩
  rcases turn i n σ3 H3 w3 with ⟨stop, qn⟩ | ⟨go, N, hN, step⟩
  · refine wpAny_passesOwn hp (thn (T.done X rfl rfl rfl hc i pins s3 σ3 H3 X.xe I3 (stat fr3) st3 stop) fun r s4 ⟨hr, I4⟩ => ?_)
    subst hr
    exact wpAny_execs_nil ⟨σ3, H3, I4, qn⟩
  · refine wpAny_passesOwn hp (thn (T.item X rfl rfl rfl hc i pins s3 σ3 H3 X.xe I3 (stat fr3) st3 go) fun r s4 ⟨u, hr, h4⟩ => ?_)
    subst hr
    refine wpAny_passesOwn hp (thn h4 fun _ s5 ⟨x, H5, I5, r5, y5, st5, fr5⟩ => ?_)
    have I5' := I5.pinned (stat fr5) (T.obj _ _ st5)
    refine wpAny_passesOwn hp (thn (hg _ s5 σ3 H5 x u _ I5' r5 (step x H5 y5)) fun _ s6 ⟨σ6, H6, I6, q6⟩ => ?_)
    refine wpAny_passesOwn hp (thn (hb _ s6 σ6 H6 _ I6 q6) fun f s7 q7 => ?_)
    have again : ∀ {σ7 : St} {H7 : Hp}, Inv X (pins ++ pinsAt fp s5.heap) σ7 H7 s7 → N σ7 H7 → ∃ m, m < n ∧ ∃ i σ' H', Inv X pins σ' H' s7 ∧ tn i s7.heap ∧ (∀ b ∈ fp, H' b = none) ∧ W i m σ' H' := fun {σ7 H7} I7 n7 => by
      obtain ⟨m', hm, w7⟩ := hN σ7 H7 n7
      refine ⟨m', hm, i + 1, σ7, H7, I7.unpinned, T.keep _ _ _ st5 fun b hb o e => (I7.pin (b, o) (List.mem_append_right _ (List.mem_append_right _ (mem_pinsAt hb e)))).1, fun b hb => ?_, w7⟩
      obtain ⟨o, e, d⟩ := T.obj _ _ st5 b hb
      exact (I7.pin (b, o) (List.mem_append_right _ (List.mem_append_right _ (mem_pinsAt hb e)))).2.1
    cases f with
    | next => obtain ⟨σ7, H7, I7, n7⟩ := q7; exact again I7 n7
    | cont => obtain ⟨σ7, H7, I7, n7⟩ := q7; exact again I7 n7
    | brk => obtain ⟨σ7, H7, I7, q7⟩ := q7; exact ⟨σ7, H7, I7.unpinned, q7⟩
    | ret v => obtain ⟨x7, σ7, H7, I7, r7, q7⟩ := q7; exact ⟨x7, σ7, H7, I7.unpinned, r7, q7⟩
end

theorem for_list {K : PySem.W.Frag} {a : Addr} {xs : List V} {g : TG} {tb : TS} {D : Ends} {σ : St} {H : Hp} (Pv : Nat → St → Hp → Prop) (h0 : Pv 0 σ H) (hl : ∀ i σ H, i ≤ xs.length → Pv i σ H → SqL K H a xs)
    (hs : ∀ i x σ H, xs[i]? = some x → Pv i σ H → g x σ H fun σ2 H2 => tb { D with nx := Pv (i + 1), ct := Pv (i + 1), bk := D.nx } σ2 H2) (hd : ∀ σ H, Pv xs.length σ H → D.nx σ H) :
    ∃ W : Nat → Nat → St → Hp → Prop, (∃ m, W 0 m σ H) ∧ ∀ i m σ H, W i m σ H →
      ((Itl K a).stop i H ∧ D.nx σ H) ∨ ((Itl K a).go i H ∧ ∃ N : St → Hp → Prop, (∀ σ' H', N σ' H' → ∃ m', m' < m ∧ W (i + 1) m' σ' H') ∧ ∀ x H', (Itl K a).yld i H x H' → g x σ H' fun σ2 H2 => tb { D with nx := N, ct := N, bk := D.nx } σ2 H2) := by
  refine ⟨fun i m σ H => m = xs.length - i ∧ i ≤ xs.length ∧ Pv i σ H, ⟨xs.length, by simp, Nat.zero_le _, h0⟩, ?_⟩
  rintro i m σ H ⟨rfl, hi, p⟩
  have q := hl i σ H hi p
  by_cases hlt : i < xs.length
  · refine .inr ⟨⟨xs, xs[i], q, by simp [hlt]⟩, Pv (i + 1), fun σ' H' p' => ⟨xs.length - (i + 1), by omega, rfl, hlt, p'⟩, fun x H' y => ?_⟩
    obtain ⟨e, y⟩ := y
    subst e
    exact hs i x σ _ (y xs q) p
  · have e : i = xs.length := by omega
    subst e
    exact .inl ⟨⟨xs, q, Nat.le_refl _⟩, hd σ H p⟩
theorem for_tup {K : PySem.W.Frag} {a : Addr} {xs : List V} {g : TG} {tb : TS} {D : Ends} {σ : St} {H : Hp} (Pv : Nat → St → Hp → Prop) (h0 : Pv 0 σ H) (hl : ∀ i σ H, i ≤ xs.length → Pv i σ H → SqT K H a xs)
    (hs : ∀ i x σ H, xs[i]? = some x → Pv i σ H → g x σ H fun σ2 H2 => tb { D with nx := Pv (i + 1), ct := Pv (i + 1), bk := D.nx } σ2 H2) (hd : ∀ σ H, Pv xs.length σ H → D.nx σ H) :
    ∃ W : Nat → Nat → St → Hp → Prop, (∃ m, W 0 m σ H) ∧ ∀ i m σ H, W i m σ H →
      ((Itt K a).stop i H ∧ D.nx σ H) ∨ ((Itt K a).go i H ∧ ∃ N : St → Hp → Prop, (∀ σ' H', N σ' H' → ∃ m', m' < m ∧ W (i + 1) m' σ' H') ∧ ∀ x H', (Itt K a).yld i H x H' → g x σ H' fun σ2 H2 => tb { D with nx := N, ct := N, bk := D.nx } σ2 H2) := by
  refine ⟨fun i m σ H => m = xs.length - i ∧ i ≤ xs.length ∧ Pv i σ H, ⟨xs.length, by simp, Nat.zero_le _, h0⟩, ?_⟩
  rintro i m σ H ⟨rfl, hi, p⟩
  have q := hl i σ H hi p
  by_cases hlt : i < xs.length
  · refine .inr ⟨⟨xs, xs[i], q, by simp [hlt]⟩, Pv (i + 1), fun σ' H' p' => ⟨xs.length - (i + 1), by omega, rfl, hlt, p'⟩, fun x H' y => ?_⟩
    obtain ⟨e, y⟩ := y
    subst e
    exact hs i x σ _ (y xs q) p
  · have e : i = xs.length := by omega
    subst e
    exact .inl ⟨⟨xs, q, Nat.le_refl _⟩, hd σ H p⟩
theorem for_range {lo : Int} {n : Nat} {g : TG} {tb : TS} {D : Ends} {σ : St} {H : Hp} (Pv : Nat → St → Hp → Prop) (h0 : Pv 0 σ H)
    (hs : ∀ i σ H, i < n → Pv i σ H → g (.int (lo + i)) σ H fun σ2 H2 => tb { D with nx := Pv (i + 1), ct := Pv (i + 1), bk := D.nx } σ2 H2) (hd : ∀ σ H, Pv n σ H → D.nx σ H) :
    ∃ W : Nat → Nat → St → Hp → Prop, (∃ m, W 0 m σ H) ∧ ∀ i m σ H, W i m σ H →
      ((Itr lo n).stop i H ∧ D.nx σ H) ∨ ((Itr lo n).go i H ∧ ∃ N : St → Hp → Prop, (∀ σ' H', N σ' H' → ∃ m', m' < m ∧ W (i + 1) m' σ' H') ∧ ∀ x H', (Itr lo n).yld i H x H' → g x σ H' fun σ2 H2 => tb { D with nx := N, ct := N, bk := D.nx } σ2 H2) := by
  refine ⟨fun i m σ H => m = n - i ∧ i ≤ n ∧ Pv i σ H, ⟨n, by simp, Nat.zero_le _, h0⟩, ?_⟩
  rintro i m σ H ⟨rfl, hi, p⟩
  by_cases hlt : i < n
  · refine .inr ⟨hlt, Pv (i + 1), fun σ' H' p' => ⟨n - (i + 1), by omega, rfl, hlt, p'⟩, fun x H' y => ?_⟩
    obtain ⟨e, y⟩ := y
    subst e y
    exact hs i σ _ hlt p
  · have e : i = n := by omega
    subst e
    exact .inl ⟨Nat.le_refl _, hd σ H p⟩
end L2

namespace L2
open PySem PySem.Spec PyProof.Rows

abbrev R2 := V → V → Hp → VK → Prop
def OpR (X : Cx) (f : Value → Value → Sem Value) (r : R2) : Prop :=
  ∀ (pins : List (Addr × Obj)) (s : Shared) (σ : St) (H : Hp) (x y : V) (v u : Value) (Q : VK), Inv X pins σ H s → RelV x v → RelV y u → r x y H Q →
    wpAny (model X.prog X.w) X.A (f v u) (EP X pins σ Q) X.xe s
def UnR (X : Cx) (f : Value → Sem Value) (r : V → Hp → VK → Prop) : Prop :=
  ∀ (pins : List (Addr × Obj)) (s : Shared) (σ : St) (H : Hp) (x : V) (v : Value) (Q : VK), Inv X pins σ H s → RelV x v → r x H Q →
    wpAny (model X.prog X.w) X.A (f v) (EP X pins σ Q) X.xe s
def CallR (X : Cx) (f : Value) (r : List V → Hp → VK → Prop) : Prop :=
  ∀ (pins : List (Addr × Obj)) (s : Shared) (σ : St) (H : Hp) (xs : List V) (us : List Value) (Q : VK), Inv X pins σ H s → Vals xs us → r xs H Q →
    wpAny (model X.prog X.w) X.A (call f us) (EP X pins σ Q) X.xe s
def TruR (X : Cx) (r : V → Hp → (Bool → Hp → Prop) → Prop) : Prop :=
  ∀ (pins : List (Addr × Obj)) (s : Shared) (σ : St) (H : Hp) (x : V) (v : Value) (Q : Bool → Hp → Prop), Inv X pins σ H s → RelV x v → r x H Q →
    wpAny (model X.prog X.w) X.A (truthy v) (TP X pins σ Q) X.xe s

def tOp (r : R2) (ta tb : TE) : TE := fun σ H Q => ta σ H fun x H1 => tb σ H1 fun y H2 => r x y H2 Q
def tUn (r : V → Hp → VK → Prop) (ta : TE) : TE := fun σ H Q => ta σ H fun x H1 => r x H1 Q
def rI (C : Int → Int → Prop) (g : Int → Int → V) : R2 := fun x y H Q => ∃ i j, x = .int i ∧ y = .int j ∧ C i j ∧ Q (g i j) H
def rI0 (g : Int → Int → V) : R2 := fun x y H Q => ∃ i j, x = .int i ∧ y = .int j ∧ Q (g i j) H
def rU (g : Int → V) : V → Hp → VK → Prop := fun x H Q => ∃ i, x = .int i ∧ Q (g i) H

section
variable {X : Cx} {a b c : Expr} {ta tb tc : TE} {pos : Pos}

theorem binT (ha : PE X a ta) (hb : PE X b tb) {pins : List (Addr × Obj)} {s : Shared} {σ : St} {H : Hp} {R : V → V → Hp → Prop} (I : Inv X pins σ H s)
    (h : ta σ H fun x H1 => tb σ H1 fun y H2 => R x y H2) {Q : Value → Shared → Prop} {f : Value → Value → Sem Value}
    (hf : ∀ v u s2 x y H2, Inv X pins σ H2 s2 → RelV x v → RelV y u → R x y H2 → wpAny (model X.prog X.w) X.A (f v u) Q X.xe s2) :
    wpAny (model X.prog X.w) X.A (eval a X.env) (fun v s₁ => wpAny (model X.prog X.w) X.A (eval b X.env) (fun u s₂ => wpAny (model X.prog X.w) X.A (f v u) Q X.xe s₂) X.xe s₁) X.xe s := by
  refine thn (ha pins s σ H _ I h) fun v s1 ⟨x, H1, I1, r1, q1⟩ => ?_
  refine thn (hb pins s1 σ H1 _ I1 q1) fun u s2 ⟨y, H2, I2, r2, q2⟩ => ?_
  exact hf v u s2 x y H2 I2 r1 r2 q2

theorem pe_op {op : Operator} {r : R2} (ho : OpR X (binaryOp op) r) (ha : PE X a ta) (hb : PE X b tb) : PE X (.BinOp a op b pos) (tOp r ta tb) := by
  intro pins s σ H Q I h
  exact wpAny_BinOp (binT ha hb I h fun v u s2 x y H2 I2 rx ry q => ho pins s2 σ H2 x y v u Q I2 rx ry q)
theorem pe_un {op : UnaryOp} {r : V → Hp → VK → Prop} (ho : UnR X (unaryOp op) r) (ha : PE X a ta) : PE X (.UnaryOp op a pos) (tUn r ta) := by
  intro pins s σ H Q I h
  exact UnaryOp_ (thn (ha pins s σ H _ I h) fun v s1 ⟨x, H1, I1, r1, q1⟩ => ho pins s1 σ H1 x v Q I1 r1 q1)
theorem opI {f : Value → Value → Sem Value} {C : Int → Int → Prop} {g : Int → Int → Int}
    (rule : ∀ (i j : Int) (t u : Tok) (s : Shared) (Q : Value → Shared → Prop) (E : Value → Shared → Prop), C i j → Q (.int (g i j) s.toks) { s with toks := s.toks + 1 } → wpAny (model X.prog X.w) X.A (f (.int i t) (.int j u)) Q E s) :
    OpR X f (rI C fun i j => .int (g i j)) := by
  intro pins s σ H x y v u Q I rx ry h
  obtain ⟨i, j, rfl, rfl, hc, q⟩ := h
  obtain ⟨t, rfl⟩ := rx
  obtain ⟨t', rfl⟩ := ry
  exact rule i j t t' s _ _ hc ⟨.int (g i j), H, I.tok _, ⟨_, rfl⟩, q⟩
theorem opI0 {f : Value → Value → Sem Value} {g : Int → Int → Int}
    (rule : ∀ (i j : Int) (t u : Tok) (s : Shared) (Q : Value → Shared → Prop) (E : Value → Shared → Prop), Q (.int (g i j) s.toks) { s with toks := s.toks + 1 } → wpAny (model X.prog X.w) X.A (f (.int i t) (.int j u)) Q E s) :
    OpR X f (rI0 fun i j => .int (g i j)) := by
  intro pins s σ H x y v u Q I rx ry h
  obtain ⟨i, j, rfl, rfl, q⟩ := h
  obtain ⟨t, rfl⟩ := rx
  obtain ⟨t', rfl⟩ := ry
  exact rule i j t t' s _ _ ⟨.int (g i j), H, I.tok _, ⟨_, rfl⟩, q⟩
theorem opB0 {f : Value → Value → Sem Value} {g : Int → Int → Bool}
    (rule : ∀ (i j : Int) (t u : Tok) (s : Shared) (Q : Value → Shared → Prop) (E : Value → Shared → Prop), Q (.bool (g i j)) s → wpAny (model X.prog X.w) X.A (f (.int i t) (.int j u)) Q E s) :
    OpR X f (rI0 fun i j => .bl (g i j)) := by
  intro pins s σ H x y v u Q I rx ry h
  obtain ⟨i, j, rfl, rfl, q⟩ := h
  obtain ⟨t, rfl⟩ := rx
  obtain ⟨t', rfl⟩ := ry
  exact rule i j t t' s _ _ ⟨.bl (g i j), H, I, rfl, q⟩

def CDiv (i j : Int) : Prop := 0 < j ∧ j < 1073741824
def CPow (i j : Int) : Prop := 0 ≤ j ∧ j ≤ 1000000 ∧ i.natAbs < 2 ^ 64
def CMul (i j : Int) : Prop := (-(2 ^ 64) < i ∧ i < 2 ^ 64) ∨ (-(2 ^ 64) < j ∧ j < 2 ^ 64)
theorem CMul.ok {i j : Int} (h : CMul i j) : IntMulOk i j := by
  rcases h with ⟨h1, h2⟩ | ⟨h1, h2⟩
  · exact .of_left (intBits_le_64 h1 h2)
  · exact .of_right (intBits_le_64 h1 h2)
theorem op_add : OpR X (binaryOp .Add) (rI0 fun i j => .int (i + j)) := opI0 fun _ _ _ _ _ _ _ q => add_int q
theorem op_sub : OpR X (binaryOp .Sub) (rI0 fun i j => .int (i - j)) := opI0 fun _ _ _ _ _ _ _ q => sub_int q
theorem op_mul : OpR X (binaryOp .Mult) (rI CMul fun i j => .int (i * j)) := opI fun _ _ _ _ _ _ _ hc q => mul_int q hc.ok
theorem op_fdiv : OpR X (binaryOp .FloorDiv) (rI CDiv fun i j => .int (i / j)) := opI fun i j _ _ _ _ _ hc q => by
  have h1 : (0 : Int) < j := hc.1
  have h2 : j < 1073741824 := hc.2
  exact floordiv_int (by omega) (by rw [Int.fdiv_eq_ediv_of_nonneg i (by omega)]; exact q) (.inl (PyProof.noPylong_small (by omega)))
theorem op_mod : OpR X (binaryOp .Mod) (rI (fun _ j => 0 < j) fun i j => .int (i % j)) := opI fun i j _ _ _ _ _ hc q => by
  have h1 : (0 : Int) < j := hc
  exact mod_int' (by omega) (by rw [Int.fmod_eq_emod_of_nonneg i (by omega)]; exact q)
theorem op_pow : OpR X (binaryOp .Pow) (rI CPow fun i j => .int (i ^ j.toNat)) := opI fun _ _ _ _ _ _ _ hc q => pow_int_small hc.1 hc.2.1 hc.2.2 q
theorem unI {f : Value → Sem Value} {g : Int → Int}
    (rule : ∀ (i : Int) (t : Tok) (s : Shared) (Q : Value → Shared → Prop) (E : Value → Shared → Prop), Q (.int (g i) s.toks) { s with toks := s.toks + 1 } → wpAny (model X.prog X.w) X.A (f (.int i t)) Q E s) :
    UnR X f (rU fun i => .int (g i)) := by
  intro pins s σ H x v Q I rx h
  obtain ⟨i, rfl, q⟩ := h
  obtain ⟨t, rfl⟩ := rx
  exact rule i t s _ _ ⟨.int (g i), H, I.tok _, ⟨_, rfl⟩, q⟩
theorem un_neg : UnR X (unaryOp .USub) (rU fun i => .int (-i)) := unI fun _ _ _ _ _ q => neg_int q
end

def scal : V → V → Bool
  | .non, .non => true | .non, .int _ => true | .int _, .non => true | .non, .bl _ => true | .bl _, .non => true | .non, .str _ => true | .str _, .non => true
  | .int _, .int _ => true | .bl _, .bl _ => true | .str _, .str _ => true | .byt _, .byt _ => true
  | .int _, .str _ => true | .str _, .int _ => true | .bl _, .str _ => true | .str _, .bl _ => true
  | _, _ => false
def rEq : R2 := fun x y H Q => scal x y = true ∧ Q (.bl (decide (x = y))) H
def rNe : R2 := fun x y H Q => scal x y = true ∧ Q (.bl (!decide (x = y))) H

theorem dec_int {i j : Int} : decide (V.int i = V.int j) = (i == j) := by
  rw [Bool.eq_iff_iff]
  simp
theorem dec_bl {i j : Bool} : decide (V.bl i = V.bl j) = (i == j) := by
  rw [Bool.eq_iff_iff]
  simp
theorem dec_str {i j : Str} : decide (V.str i = V.str j) = (i == j) := by
  rw [Bool.eq_iff_iff]
  simp
theorem dec_byt {i j : Array UInt8} : decide (V.byt i = V.byt j) = (i.toList == j.toList) := by
  rw [Bool.eq_iff_iff]
  cases i
  cases j
  simp

section
variable {X : Cx} {a b c : Expr} {ta tb tc : TE} {pos : Pos}
theorem fin_bl {pins : List (Addr × Obj)} {σ : St} {H : Hp} {s : Shared} {Q : VK} {k k' : Bool} (I : Inv X pins σ H s) (q : Q (.bl k) H) (e : k = k') : EP X pins σ Q (.bool k') s := by
  subst e
  exact ⟨.bl k, H, I, rfl, q⟩
theorem op_eq : OpR X (compareOp .Eq) rEq := by
  intro pins s σ H x y v u Q I rx ry h
  obtain ⟨hs, q⟩ := h
  cases x with
  | non =>
    cases rx
    cases y with
    | non => cases ry; exact PySem.EqNone.eq_none_none (fin_bl I q (by simp))
    | bl j => cases ry; exact PySem.EqNone.eq_none_bool (fin_bl I q (by simp))
    | int j => obtain ⟨t', rfl⟩ := ry; exact PySem.EqNone.eq_none_int (fin_bl I q (by simp))
    | str j => obtain ⟨t', rfl⟩ := ry; exact PySem.EqNone.eq_none_str (fin_bl I q (by simp))
    | _ => exact absurd (show false = true from hs) Bool.false_ne_true
  | bl i =>
    cases rx
    cases y with
    | non => cases ry; exact PySem.EqNone.eq_bool_none (fin_bl I q (by simp))
    | bl j => cases ry; exact eq_bool (fin_bl I q dec_bl)
    | str j => obtain ⟨t', rfl⟩ := ry; exact PySem.EqMixed.eq_bool_str (fin_bl I q (by simp))
    | _ => exact absurd (show false = true from hs) Bool.false_ne_true
  | int i =>
    obtain ⟨t, rfl⟩ := rx
    cases y with
    | non => cases ry; exact PySem.EqNone.eq_int_none (fin_bl I q (by simp))
    | int j => obtain ⟨t', rfl⟩ := ry; exact eq_int (fin_bl I q dec_int)
    | str j => obtain ⟨t', rfl⟩ := ry; exact PySem.EqMixed.eq_int_str (fin_bl I q (by simp))
    | _ => exact absurd (show false = true from hs) Bool.false_ne_true
  | str i =>
    obtain ⟨t, rfl⟩ := rx
    cases y with
    | non => cases ry; exact PySem.EqNone.eq_str_none (fin_bl I q (by simp))
    | bl j => cases ry; exact PySem.EqMixed.eq_str_bool (fin_bl I q (by simp))
    | int j => obtain ⟨t', rfl⟩ := ry; exact PySem.EqMixed.eq_str_int (fin_bl I q (by simp))
    | str j => obtain ⟨t', rfl⟩ := ry; exact eq_str (fin_bl I q dec_str)
    | _ => exact absurd (show false = true from hs) Bool.false_ne_true
  | byt i =>
    obtain ⟨t, rfl⟩ := rx
    cases y with
    | byt j => obtain ⟨t', rfl⟩ := ry; exact PySem.W.eq_bytes (fin_bl I q dec_byt)
    | _ => exact absurd (show false = true from hs) Bool.false_ne_true
  | _ => cases y <;> exact absurd (show false = true from hs) Bool.false_ne_true
theorem op_ne : OpR X (compareOp .NotEq) rNe := by
  intro pins s σ H x y v u Q I rx ry h
  obtain ⟨hs, q⟩ := h
  cases x with
  | non =>
    cases rx
    cases y with
    | non => cases ry; exact PySem.EqNone.ne_none_none (fin_bl I q (by simp))
    | bl j => cases ry; exact PySem.EqNone.ne_none_bool (fin_bl I q (by simp))
    | int j => obtain ⟨t', rfl⟩ := ry; exact PySem.EqNone.ne_none_int (fin_bl I q (by simp))
    | str j => obtain ⟨t', rfl⟩ := ry; exact PySem.EqNone.ne_none_str (fin_bl I q (by simp))
    | _ => exact absurd (show false = true from hs) Bool.false_ne_true
  | bl i =>
    cases rx
    cases y with
    | non => cases ry; exact PySem.EqNone.ne_bool_none (fin_bl I q (by simp))
    | bl j => cases ry; exact ne_bool (fin_bl I q (congrArg not dec_bl))
    | str j => obtain ⟨t', rfl⟩ := ry; exact PySem.EqMixed.ne_bool_str (fin_bl I q (by simp))
    | _ => exact absurd (show false = true from hs) Bool.false_ne_true
  | int i =>
    obtain ⟨t, rfl⟩ := rx
    cases y with
    | non => cases ry; exact PySem.EqNone.ne_int_none (fin_bl I q (by simp))
    | int j => obtain ⟨t', rfl⟩ := ry; exact ne_int (fin_bl I q (congrArg not dec_int))
    | str j => obtain ⟨t', rfl⟩ := ry; exact PySem.EqMixed.ne_int_str (fin_bl I q (by simp))
    | _ => exact absurd (show false = true from hs) Bool.false_ne_true
  | str i =>
    obtain ⟨t, rfl⟩ := rx
    cases y with
    | non => cases ry; exact PySem.EqNone.ne_str_none (fin_bl I q (by simp))
    | bl j => cases ry; exact PySem.EqMixed.ne_str_bool (fin_bl I q (by simp))
    | int j => obtain ⟨t', rfl⟩ := ry; exact PySem.EqMixed.ne_str_int (fin_bl I q (by simp))
    | str j => obtain ⟨t', rfl⟩ := ry; exact ne_str (fin_bl I q (congrArg not dec_str))
    | _ => exact absurd (show false = true from hs) Bool.false_ne_true
  | byt i =>
    obtain ⟨t, rfl⟩ := rx
    cases y with
    | byt j => obtain ⟨t', rfl⟩ := ry; exact PySem.W.ne_bytes (fin_bl I q (congrArg not dec_byt))
    | _ => exact absurd (show false = true from hs) Bool.false_ne_true
  | _ => cases y <;> exact absurd (show false = true from hs) Bool.false_ne_true

theorem op_lt : OpR X (compareOp .Lt) (rI0 fun i j => .bl (decide (i < j))) := opB0 fun _ _ _ _ _ _ _ q => lt_int q
theorem op_le : OpR X (compareOp .LtE) (rI0 fun i j => .bl (decide (i ≤ j))) := opB0 fun _ _ _ _ _ _ _ q => le_int q
theorem op_gt : OpR X (compareOp .Gt) (rI0 fun i j => .bl (decide (j < i))) := opB0 fun _ _ _ _ _ _ _ q => gt_int q
theorem op_notN : OpR X (compareOp .IsNot) (fun x y H Q => y = .non ∧ Q (.bl (!decide (x = .non))) H) := by
  intro pins s σ H x y v u Q I rx ry h
  obtain ⟨rfl, q⟩ := h
  cases ry
  refine isnot_none_gen (fin_bl I q ?_)
  cases x <;> first
    | (cases rx; rfl)
    | (obtain ⟨t, rfl⟩ := rx; rfl)

theorem OpR.or {f : Value → Value → Sem Value} {r r' : R2} (h : OpR X f r) (h' : OpR X f r') : OpR X f (fun x y H Q => r x y H Q ∨ r' x y H Q) := by
  intro pins s σ H x y v u Q I rx ry q
  rcases q with q | q
  · exact h pins s σ H x y v u Q I rx ry q
  · exact h' pins s σ H x y v u Q I rx ry q

theorem nomark (b : Expr) {op : CmpOp} (h : op ≠ .In := by decide) (h2 : op ≠ .NotIn := by decide) : behindInMarks op b = false := by
  have e1 : (op == CmpOp.In) = false := by cases op <;> first | rfl | exact absurd rfl h
  have e2 : (op == CmpOp.NotIn) = false := by cases op <;> first | rfl | exact absurd rfl h2
  cases b <;> simp [behindInMarks, e1, e2]
theorem pe_cmpR {op : CmpOp} {r : R2} (ho : OpR X (compareOp op) r) (ha : PE X a ta) (hb : PE X b tb) (hm : behindInMarks op b = false) : PE X (.Compare a [op] [b] pos) (tOp r ta tb) := by
  intro pins s σ H Q I h
  exact wpAny_Compare1 (binT ha hb I h fun v u s2 x y H2 I2 rx ry q => ho pins s2 σ H2 x y v u Q I2 rx ry q) hm
def tTest (t : TE) : TT := fun σ H Q => t σ H fun x H' => ∃ k, x = .bl k ∧ Q k H'
theorem pt_cmpR {op : CmpOp} {r : R2} (ho : OpR X (compareOp op) r) (ha : PE X a ta) (hb : PE X b tb) (hm : behindInMarks op b = false) : PT X (.Compare a [op] [b] pos) (tTest (tOp r ta tb)) := by
  intro pins s σ H Q I h
  refine wpAny_isTrue_Compare1 (thn (ha pins s σ H _ I h) fun v s1 ⟨x, H1, I1, r1, q1⟩ => thn (hb pins s1 σ H1 _ I1 q1) fun u s2 ⟨y, H2, I2, r2, q2⟩ =>
    thn (ho pins s2 σ H2 x y v u _ I2 r1 r2 q2) fun c s3 ⟨z, H3, I3, r3, k, e, q3⟩ => ?_) hm
  subst e
  cases r3
  exact wpAny_truthy_bool ⟨H3, I3, q3⟩
def tChain (r r' : R2) (ta tb tc : TE) : TE := fun σ H Q => ta σ H fun x H1 => tb σ H1 fun y H2 => r x y H2 fun z H3 => ∃ k, z = .bl k ∧
  (if k = true then tc σ H3 fun w' H4 => r' y w' H4 Q else Q (.bl false) H3)
theorem pe_chain {op op' : CmpOp} {r r' : R2} (ho : OpR X (compareOp op) r) (ho' : OpR X (compareOp op') r') (ha : PE X a ta) (hb : PE X b tb) (hc : PE X c tc)
    (hm : lastMarks [op, op'] [b, c] = false := by with_unfolding_all rfl) : PE X (.Compare a [op, op'] [b, c] pos) (tChain r r' ta tb tc) := by
  intro pins s σ H Q I h
  refine Compare_chain (thn (ha pins s σ H _ I h) fun v s1 ⟨x, H1, I1, r1, q1⟩ => chain_link (thn (hb pins s1 σ H1 _ I1 q1) fun u s2 ⟨y, H2, I2, r2, q2⟩ =>
    thn (ho pins s2 σ H2 x y v u _ I2 r1 r2 q2) fun d s3 ⟨z, H3, I3, r3, k, e, q3⟩ => ?_)) hm
  subst e
  cases r3
  refine wpAny_truthy_bool ?_
  cases k with
  | false => exact ite_ff ⟨.bl false, H3, I3, rfl, q3⟩
  | true => exact ite_tt (chain_last (thn (hc pins s3 σ H3 _ I3 q3) fun w' s4 ⟨z', H4, I4, r4, q4⟩ => ho' pins s4 σ H4 y z' u w' Q I4 r2 r4 q4))
theorem pt_chain {op op' : CmpOp} {r r' : R2} (ho : OpR X (compareOp op) r) (ho' : OpR X (compareOp op') r') (ha : PE X a ta) (hb : PE X b tb) (hc : PE X c tc)
    (hm : lastMarks [op, op'] [b, c] = false := by with_unfolding_all rfl) : PT X (.Compare a [op, op'] [b, c] pos) (tTest (tChain r r' ta tb tc)) := by
  intro pins s σ H Q I h
  refine isTrue_chain (thn (ha pins s σ H _ I h) fun v s1 ⟨x, H1, I1, r1, q1⟩ => test_link (thn (hb pins s1 σ H1 _ I1 q1) fun u s2 ⟨y, H2, I2, r2, q2⟩ =>
    thn (ho pins s2 σ H2 x y v u _ I2 r1 r2 q2) fun d s3 ⟨z, H3, I3, r3, k, e, q3⟩ => ?_)) hm
  subst e
  cases r3
  refine wpAny_truthy_bool ?_
  cases k with
  | false =>
    obtain ⟨k', e', q'⟩ := q3
    cases e'
    exact ite_ff ⟨H3, I3, q'⟩
  | true =>
    refine ite_tt (test_last (thn (hc pins s3 σ H3 _ I3 q3) fun w' s4 ⟨z', H4, I4, r4, q4⟩ => thn (ho' pins s4 σ H4 y z' u w' _ I4 r2 r4 q4) fun d' s5 ⟨z2, H5, I5, r5, k2, e2, q5⟩ => ?_))
    subst e2
    cases r5
    exact wpAny_truthy_bool ⟨H5, I5, q5⟩

def TruV (K : PySem.W.Frag) (x : V) (H : Hp) (k : Bool) : Prop :=
  match x with
  | .non => k = false
  | .bl b => k = b
  | .int i => k = (i != 0)
  | .str y => y.length ≤ sizeLine ∧ k = ((y.length : Int) != 0)
  | .byt y => y.size ≤ sizeLine ∧ k = ((y.size : Int) != 0)
  | .ref p => (∃ xs, SqL K H p xs ∧ k = !xs.isEmpty) ∨ (∃ xs, SqT K H p xs ∧ k = !xs.isEmpty) ∨ ∃ kvs, H p = some (.dK kvs) ∧ k = !kvs.isEmpty
  | _ => False
theorem isEmpty_kv {κ : Type} {kvs : List (κ × V)} {vs : List (κ × Value)} (r : KV kvs vs) : (!vs.isEmpty) = !kvs.isEmpty := by
  cases r <;> rfl
theorem isEmpty_of {xs : List V} {its : List Value} (r : Vals xs its) : (!its.toArray.isEmpty) = !xs.isEmpty := by
  cases r <;> simp
theorem line63 : (sizeLine : Nat) < 2 ^ 63 := by rw [sizeLine_eq]; decide
theorem tru_ok : TruR X (fun x H Q => ∃ k, TruV X.K x H k ∧ Q k H) := by
  intro pins s σ H x v Q I rx h
  obtain ⟨k, e, q⟩ := h
  have hl := line63
  have hs : sizeLine = 16777216 := sizeLine_eq
  cases x with
  | non =>
    cases rx
    have e' : k = false := e
    subst e'
    exact truthy_none ⟨H, I, q⟩
  | bl b =>
    cases rx
    have e' : k = b := e
    subst e'
    exact wpAny_truthy_bool ⟨H, I, q⟩
  | int i =>
    obtain ⟨t, rfl⟩ := rx
    have e' : k = (i != 0) := e
    subst e'
    exact PySem.P.truthy_int ⟨H, I, q⟩
  | str y =>
    obtain ⟨t, rfl⟩ := rx
    obtain ⟨hy, e'⟩ : y.length ≤ sizeLine ∧ k = ((y.length : Int) != 0) := e
    subst e'
    exact PySem.P.truthy_str (by omega) ⟨H, I.tok _, q⟩
  | byt y =>
    obtain ⟨t, rfl⟩ := rx
    obtain ⟨hy, e'⟩ : y.size ≤ sizeLine ∧ k = ((y.size : Int) != 0) := e
    subst e'
    exact PySem.W.truthy_bytes (by omega) ⟨H, I.tok _, q⟩
  | ref p =>
    cases rx
    have e' : (∃ xs, SqL X.K H p xs ∧ k = !xs.isEmpty) ∨ (∃ xs, SqT X.K H p xs ∧ k = !xs.isEmpty) ∨ ∃ kvs, H p = some (.dK kvs) ∧ k = !kvs.isEmpty := e
    rcases e' with ⟨xs, hx, e'⟩ | ⟨xs, hx, e'⟩ | ⟨kvs, hx, e'⟩
    · subst e'
      obtain ⟨its, r, pl, hz⟩ := I.list hx
      have hlen := r.length
      exact wpAny_truthy_list pl.isList (by simp only [List.size_toArray]; omega) ⟨H, I.tok _, by rw [isEmpty_of r]; exact q⟩
    · subst e'
      obtain ⟨its, r, pl, hz⟩ := I.tuple hx
      have hlen := r.length
      exact truthy_tuple pl (by simp only [List.size_toArray]; omega) ⟨H, I.tok _, by rw [isEmpty_of r]; exact q⟩
    · subst e'
      obtain ⟨hz, hS, vs, r, m⟩ : kvs.length ≤ sizeLine ∧ (p == sysModules) = false ∧ ∃ vs, KV kvs vs ∧ s.heap.DictOf (mixKind X.prog X.w) p vs := I.hok p _ hx
      have hlen : kvs.length = vs.length := Paired.length r
      exact wpAny_truthy_dict hS m (by omega) ⟨H, I.tok _, by rw [isEmpty_kv r]; exact q⟩
  | _ => exact (show False from e).elim
theorem pt_truth (ha : PE X a ta) (he : ∀ whole, isTrue a X.env whole = (do let v ← whole; standAt a.pos; holding [v] (truthy v))) :
    PT X a (fun σ H Q => ta σ H fun x H' => ∃ k, TruV X.K x H' k ∧ Q k H') := by
  intro pins s σ H Q I h
  exact isTrue_plain (thn (ha pins s σ H _ I h) fun v s1 ⟨x, H1, I1, r1, q1⟩ => tru_ok pins s1 σ H1 x v Q I1 r1 q1) (he _)

theorem vals1 {x : V} {us : List Value} (r : Vals [x] us) : ∃ u, us = [u] ∧ RelV x u := by
  cases r with
  | cons r1 r2 => cases r2; exact ⟨_, rfl, r1⟩
theorem vals2 {x y : V} {us : List Value} (r : Vals [x, y] us) : ∃ u w', us = [u, w'] ∧ RelV x u ∧ RelV y w' := by
  cases r with
  | cons r1 r2 =>
    cases r2 with
    | cons r3 r4 => cases r4; exact ⟨_, _, rfl, r1, r3⟩
theorem call_min2 (hc : X.calm = true) : CallR X (.builtin "min") (fun xs H Q => ∃ i j, xs = [.int i, .int j] ∧ Q (.int (if j < i then j else i)) H) := by
  intro pins s σ H xs us Q I r h
  obtain ⟨i, j, rfl, q⟩ := h
  obtain ⟨u, w', rfl, ⟨t, rfl⟩, ⟨t', rfl⟩⟩ := vals2 r
  refine min_two_ints (I.ok.hd hc) fun h' tk k => ⟨_, H, I.kept k, ?_, q⟩
  by_cases hj : j < i
  · rw [if_pos hj, if_pos hj]; exact ⟨_, rfl⟩
  · rw [if_neg hj, if_neg hj]; exact ⟨_, rfl⟩
theorem call_int1 : CallR X (.type "int") (fun xs H Q => (∃ i, xs = [.int i] ∧ Q (.int i) H) ∨ ∃ k, xs = [.bl k] ∧ Q (.int (if k then 1 else 0)) H) := by
  intro pins s σ H xs us Q I r h
  rcases h with ⟨i, rfl, q⟩ | ⟨k, rfl, q⟩
  · obtain ⟨u, rfl, t, rfl⟩ := vals1 r
    exact call_int_int ⟨.int i, H, I, ⟨_, rfl⟩, q⟩
  · obtain ⟨u, rfl, r1⟩ := vals1 r
    cases r1
    exact call_int_bool ⟨.int (if k then 1 else 0), H, I.tok _, ⟨_, rfl⟩, q⟩
end
end L2

namespace L2
open PySem PySem.Spec PyProof.Rows

structure ObjM (h : Heap) (x dx C : Addr) (mA : Str → Option Value) : Prop where
  obj : h.get? x = some (PySem.W.instObj C dx)
  ns : h.Ns1 dx mA
  ne : dx ≠ x

theorem lookIn_ns {h : Heap} {dx : Addr} {mA : Str → Option Value} (n : h.Ns1 dx mA) : ∃ od, h.get? dx = some od ∧ ∀ name, PySem.W.lookIn name od = some (mA name) := by
  obtain ⟨o, es, ep, ho, hd, hk, _, hm⟩ := n
  refine ⟨o, ho, fun name => ?_⟩
  have e := hm name
  unfold nsFind findBy at e
  rw [← Array.find?_toList] at e
  unfold PySem.W.lookIn
  rw [hd]
  dsimp only
  split
  · rename_i y q
    rw [q] at e
    exact congrArg some e
  · rename_i q
    rw [q] at e
    have a : es.toList.any (·.refKey) = false := by
      rw [List.any_eq_false]
      intro y hy
      obtain ⟨z, t, hkey⟩ := hk y (Array.mem_toList_iff.mp hy)
      simp [DictEntry.refKey, hkey]
    have a' : ¬ es.toList.any (·.refKey) = true := by rw [a]; exact Bool.false_ne_true
    rw [if_neg a']
    exact congrArg some e

theorem ObjM.look {h : Heap} {x dx C : Addr} {mA : Str → Option Value} (I : ObjM h x dx C mA) : ∃ od, PySem.W.InstAt h x (PySem.W.instObj C dx) C (some od) ∧ ∀ name, PySem.W.lookIn name od = some (mA name) :=
  let ⟨od, ho, hl⟩ := lookIn_ns I.ns
  ⟨od, ⟨I.obj, rfl, rfl, ho⟩, hl⟩

section
variable {prog : Program} {w : World} {A : Around} {E : Value → Shared → Prop} {s : Shared} {K : PySem.W.Frag} {x dx C f : Addr} {mA : Str → Option Value} {name : Str} {v : Value}

end

theorem RelO.some_of {v : V} {o : Option Value} (r : RelO (some v) o) : ∃ u, o = some u ∧ RelV v u := by
  cases o with
  | none => exact (show False from r).elim
  | some u => exact ⟨u, rfl, r⟩
section
variable {P : Program} {w : World} {H H' : Hp} {h h' : Heap} {a C dx : Addr} {fs fs' : List (Str × V)}
theorem ins_get (hok : HOk P w H h) (e : H a = some (.ins C dx fs)) : ∃ mA, ObjM h a dx C mA ∧ (∀ f, RelO (fs.lookup f) (mA f)) ∧ PySem.Within mA (fs.map (·.1)) ∧ fs.length ≤ 1000 ∧ H dx = some (.own a) := by
  obtain ⟨d, z, ne, ob, mA, n, r, q⟩ := (show ObjOk P w H h a (.ins C dx fs) from hok a _ e)
  exact ⟨mA, ⟨ob, n, ne⟩, r, q, z, d⟩
end

structure Cls (K : PySem.W.Frag) (C : Addr) : Prop where
  pg : PySem.W.plainGet K C Str.empty = true
  hd : PySem.W.hasDictIn K C = true
  po : PySem.W.plainOver K C = true
  sa : PySem.W.findIn K (.ref C) "__setattr__" = some (some (.builtin "object.__setattr__"))
theorem Cls.get {K : PySem.W.Frag} {C : Addr} (c : Cls K C) (f : Str) : PySem.W.plainGet K C f = true := c.pg
structure Con (K : PySem.W.Frag) (C : Addr) (f : Str) (v : V) (u : Value) : Prop where
  at_ : PySem.W.findIn K (.ref C) f = some (some u)
  rel : RelV v u
  get : PySem.W.specialIn K u "__get__" = some none
  cp : PySem.W.copiedNames.contains f = false
structure Meth (K : PySem.W.Frag) (C : Addr) (m : Str) (f : Addr) : Prop where
  at_ : PySem.W.findIn K (.ref C) m = some (some (.ref f))
  fn : PySem.W.isFn K (.ref f) = true
  kp : PySem.W.keepIn K (.ref f) = true

section
variable {X : Cx} {pins : List (Addr × Obj)} {σ : St} {H : Hp} {s : Shared} {a C dx : Addr} {fs : List (Str × V)} {f : Str} {v : V} {A : Around} {E : Value → Shared → Prop}

end

section
variable {X : Cx} {o e value : Expr} {f : Str} {pos pos' tpos : Pos} {ta tv : TE}
end

section
variable {X : Cx} {pins : List (Addr × Obj)} {σ : St} {H : Hp} {s : Shared} {A : Around} {E : Value → Shared → Prop} {Q : Value → Shared → Prop} {c : Value} {b : Bool}
inductive TyOf (K : PySem.W.Frag) (H : Hp) : V → Value → Prop where
  | non : TyOf K H .non (.type "NoneType")
  | bl (x : Bool) : TyOf K H (.bl x) (.type "bool")
  | int (i : Int) : TyOf K H (.int i) (.type "int")
  | str (x : Str) : TyOf K H (.str x) (.type "str")
  | flt (x : UInt64) : TyOf K H (.flt x) (.type "float")
  | lst {a : Addr} {xs : List V} (e : H a = some (.lst xs)) : TyOf K H (.ref a) (.type "list")
  | frz {a : Addr} {o : Obj} {xs : List V} (e : H a = some (.frz o (.lst xs))) : TyOf K H (.ref a) (.type "list")
  | tup {a : Addr} {xs : List V} (e : H a = some (.tup xs)) : TyOf K H (.ref a) (.type "tuple")
  | dK {a : Addr} {kvs : List (Key × V)} (e : H a = some (.dK kvs)) : TyOf K H (.ref a) (.type "dict")
  | dT {a : Addr} {kvs : List (List Key × V)} (e : H a = some (.dT kvs)) : TyOf K H (.ref a) (.type "dict")
  | ins {a C dx : Addr} {fs : List (Str × V)} (e : H a = some (.ins C dx fs)) (cl : Cls K C) (ha : PySem.W.findIn K (.ref C) "__class__" = some (some (.builtin "object.__class__")))
      (hn : PySem.W.specialIn K (.builtin "object.__class__") "__get__" = some (some (.builtin "getset_descriptor.__get__"))) (htk : PySem.W.takesIn K (.builtin "object.__class__") = some true)
      (hm : PySem.W.mroIn K C (.type "object") = some true) : TyOf K H (.ref a) (.ref C)
theorem isinst_ok {x : V} {u t : Value} (I : Inv X pins σ H s) (rx : RelV x u) (ty : TyOf X.K H x t) (e : PySem.W.kitOne X.K t c = some b) (h : ∀ tk, Q (.bool b) { s with toks := tk }) :
    wpAny (model X.prog X.w) A (call (.builtin "isinstance") [u, c]) Q E s := by
  cases ty with
  | non => cases (show u = Value.none from rx); exact PySem.W.kia_one PySem.W.kitx_none I.kIn True.intro e (fun z => nomatch z) h
  | bl y => cases (show u = Value.bool y from rx); exact PySem.W.kia_one PySem.W.kitx_bool I.kIn True.intro e (fun z => nomatch z) h
  | int i => obtain ⟨t, q⟩ := (show ∃ t, u = Value.int i t from rx); cases q; exact PySem.W.kia_one PySem.W.kitx_int I.kIn True.intro e (fun z => nomatch z) h
  | str y => obtain ⟨t, q⟩ := (show ∃ t, u = Value.str y t from rx); cases q; exact PySem.W.kia_one PySem.W.kitx_str I.kIn True.intro e (fun z => nomatch z) h
  | flt y => obtain ⟨t, q⟩ := (show ∃ t, u = Value.float y t from rx); cases q; exact PySem.W.kia_one PySem.W.kitx_float I.kIn True.intro e (fun z => nomatch z) h
  | @lst a xs ea =>
    cases (show u = Value.ref a from rx)
    obtain ⟨_, _, n, _, h1⟩ := (show ObjOk X.prog X.w H s.heap a (.lst xs) from I.hok a _ ea)
    exact PySem.W.kia_one PySem.W.kitx_list I.kIn ⟨_, h1, rfl⟩ e (fun z => nomatch z) h
  | @frz a ob xs ea =>
    cases (show u = Value.ref a from rx)
    obtain ⟨_, _, _, n, _, h1⟩ := (show ObjOk X.prog X.w H s.heap a (.frz ob (.lst xs)) from I.hok a _ ea)
    exact PySem.W.kia_one PySem.W.kitx_list I.kIn ⟨_, h1, rfl⟩ e (fun z => nomatch z) h
  | @tup a xs ea =>
    cases (show u = Value.ref a from rx)
    obtain ⟨_, _, _, p⟩ := (show ObjOk X.prog X.w H s.heap a (.tup xs) from I.hok a _ ea)
    obtain ⟨o, h1, h2, _⟩ := p
    exact PySem.W.kia_one PySem.W.kitx_tuple I.kIn ⟨o, h1, h2⟩ e (fun z => nomatch z) h
  | @dK a kvs ea =>
    cases (show u = Value.ref a from rx)
    obtain ⟨_, _, vs, _, p⟩ := (show ObjOk X.prog X.w H s.heap a (.dK kvs) from I.hok a _ ea)
    obtain ⟨o, es, ep, h1, h2, _⟩ := p
    exact PySem.W.kia_one PySem.W.kitx_dict I.kIn ⟨o, h1, h2.1⟩ e (fun z => nomatch z) h
  | @dT a kvs ea =>
    cases (show u = Value.ref a from rx)
    obtain ⟨_, _, xs, _, o, es, ep, h1, h2, _⟩ := (show ObjOk X.prog X.w H s.heap a (.dT kvs) from I.hok a _ ea)
    exact PySem.W.kia_one PySem.W.kitx_dict I.kIn ⟨o, h1, h2.1⟩ e (fun z => nomatch z) h
  | @ins a C dx fs ea cl ha hn htk hm =>
    cases (show u = Value.ref a from rx)
    obtain ⟨mA, O, _⟩ := ins_get I.hok ea
    obtain ⟨od, J, _⟩ := O.look
    exact PySem.W.kia_one (PySem.W.kitx_own (cl.get _) cl.hd ha hn htk hm) I.kIn J e (fun z => nomatch z) h
end
end L2

namespace L2
open PySem PySem.Spec PyProof.Rows

structure Room (k : Nat) (A : Around) : Prop where
  hd : A.handled = none
  dp : A.depth + 3 * k + 5 < recursionLimit
  un : A.units + 16 * k + 200 < cLine
  gd : A.guards = some []
theorem Room.mono {j k : Nat} {A : Around} (r : Room k A) (h : j ≤ k) : Room j A := ⟨r.hd, by have := r.dp; omega, by have := r.un; omega, r.gd⟩
theorem Room.deeper {k : Nat} {A : Around} (r : Room (k + 1) A) (env : Env) : Room k (A.deeper env) :=
  ⟨r.hd, by have := r.dp; show A.depth + 1 + 3 * k + 5 < _; omega, by have := r.un; show A.units + 3 + 16 * k + 200 < _; omega, r.gd⟩
theorem Room.depth {k : Nat} {A : Around} (r : Room k A) : A.depth < recursionLimit := by have := r.dp; omega
theorem Room.units {k : Nat} {A : Around} (r : Room k A) : A.units + 64 < cLine := by have := r.un; omega
theorem Room.units0 {k : Nat} {A : Around} (r : Room k A) : A.units < cLine := by have := r.un; omega

def tNil : TA := fun _ H Q => Q [] H
def tCons (ta : TE) (tr : TA) : TA := fun σ H Q => ta σ H fun x H1 => tr σ H1 fun xs H2 => Q (x :: xs) H2
section
variable {X : Cx} {e : Expr} {es : List Expr} {te : TE} {t : TA} {pos : Pos}
theorem pa_nil : PA X [] tNil := fun _ _ _ _ H Q I h => Calls.spliced_nil ⟨[], H, I, .nil, h⟩
theorem pa_cons (ha : PE X e te) (hr : PA X es t) (hs : starEach (e :: es) X.env = (false, eval e X.env) :: starEach es X.env := by rfl) : PA X (e :: es) (tCons te t) := by
  intro pos pins s σ H Q I h
  rw [hs]
  show wpAny _ _ (spliced ((false, eval e X.env) :: backTo pos (starEach es X.env))) _ _ s
  refine Calls.spliced_cons (thn (ha pins s σ H _ I h) fun u s1 ⟨x, H1, I1, r1, q1⟩ => ?_)
  exact thn (hr pos pins s1 σ H1 _ I1 q1) fun us s2 ⟨xs, H2, I2, r2, q2⟩ => ⟨x :: xs, H2, I2, .cons r1 r2, q2⟩

def tTup (t : TA) : TE := fun σ H Q => t σ H fun xs H1 => xs.length ≤ sizeLine ∧ ∀ p, H1 p = none → Q (.ref p) (upd H1 p (.tup xs))
def tLst (t : TA) : TE := fun σ H Q => t σ H fun xs H1 => xs.length ≤ sizeLine ∧ ∀ p, H1 p = none → Q (.ref p) (upd H1 p (.lst xs))
theorem pe_tup {x1} (h : PA X es t) : PE X (.Tuple es x1 pos) (tTup t) := by
  intro pins s σ H Q I hq
  refine wpAny_Tuple_spliced (thn (h pos pins s σ H _ I hq) fun us s1 ⟨xs, H1, I1, r, z, q⟩ => ⟨by rw [← r.length]; exact z, ?_⟩)
  have hf : H1 s1.heap.objs.size = none := I1.hok.fresh (Nat.le_refl _)
  refine ⟨.ref s1.heap.objs.size, upd H1 s1.heap.objs.size (.tup xs), I1.laid (t' := s1.toks) (fun b u e => Heap.get?_push_of_some _ e) (Nat.le_refl _) ?_, rfl, q _ hf⟩
  exact ⟨z, us, r, ⟨_, Heap.get?_push_size _ rfl, rfl, _, rfl, rfl⟩⟩
theorem pe_lst (h : PA X es t) : PE X (.List es pos) (tLst t) := by
  intro pins s σ H Q I hq
  refine wpAny_List_spliced (thn (h pos pins s σ H _ I hq) fun us s1 ⟨xs, H1, I1, r, z, q⟩ => ⟨by rw [← r.length]; exact z, ?_⟩)
  have hf : H1 s1.heap.objs.size = none := I1.hok.fresh (Nat.le_refl _)
  refine ⟨.ref s1.heap.objs.size, upd H1 s1.heap.objs.size (.lst xs), I1.laid (t' := s1.toks) (fun b u e => Heap.get?_push_of_some _ e) (Nat.le_refl _) ?_, rfl, q _ hf⟩
  exact ⟨z, us, 0, r, Heap.get?_push_size _ rfl⟩
end

abbrev Sp := List V → Hp → VK → XK → Prop
abbrev CXT := List Env → Hp → Shared → XK → Value → Shared → Prop

structure Env0 (P : Program) (w : World) (K : PySem.W.Frag) (mg : Str → Option Value) (base : Heap) (A : Around) (outer : List Env) (s : Shared) (H : Hp) : Prop where
  frames : A.frames = some outer
  mod : Mod K mg base
  bs : ∀ b o, base.get? b = some o → s.heap.get? b = some o ∧ H b = none
  bsz : base.objs.size ≤ s.heap.objs.size
  funs : s.heap.FunFrames base outer
  frf : ∀ b ∈ frs outer, H b = none
  hok : HOk P w H s.heap
  bare : AllBare s.gens
def CE (outer : List Env) (P : Program) (w : World) (H : Hp) (s : Shared) (Q : VK) (u : Value) (s' : Shared) : Prop :=
  ∃ v H', s'.os = s.os ∧ AllBare s'.gens ∧ Un (frs outer) [] H H' s.heap s'.heap ∧ HOk P w H' s'.heap ∧ RelV v u ∧ Q v H'
def CR (CX : CXT) (outer : List Env) (P : Program) (w : World) (H : Hp) (s : Shared) (Q : VK) (E : XK) (r : Result) (s' : Shared) : Prop :=
  match r with
  | .ok (.ret u) => CE outer P w H s Q u s'
  | .ok _ => False
  | .error e => CX outer H s E e s'
structure FnOk (P : Program) (w : World) (K : PySem.W.Frag) (mg : Str → Option Value) (base : Heap) (CX : CXT) (k : Nat) (f : Addr) (fd : FuncData) (ps : List Str) (sp : Sp) : Prop where
  len : ∀ vs H Q E, sp vs H Q E → vs.length = ps.length
  run : ∀ (A : Around) (outer : List Env) (s : Shared) (H : Hp) (args : Args) (us : List Value) (vs : List V) (Q : VK) (E : XK), Room k A → Env0 P w K mg base A outer s H → BindsTo s fd args (ps.zip us) → Vals vs us → sp vs H Q E →
    codeAny (model P w) A (.call (.ref f) args) (CR CX outer P w H s Q E) s
theorem FnOk.mono {P : Program} {w : World} {K : PySem.W.Frag} {mg : Str → Option Value} {base : Heap} {CX : CXT} {j k : Nat} {f : Addr} {fd : FuncData} {ps : List Str} {sp : Sp} (F : FnOk P w K mg base CX j f fd ps sp) (h : j ≤ k) :
    FnOk P w K mg base CX k f fd ps sp := ⟨F.len, fun A outer s H args us vs Q E hr => F.run A outer s H args us vs Q E (hr.mono h)⟩
section
variable {X : Cx} {pins : List (Addr × Obj)} {σ : St} {H : Hp} {s s' : Shared}
theorem Inv.env0 (I : Inv X pins σ H s) : Env0 X.prog X.w X.K X.mg X.base X.A X.stack s H :=
  ⟨I.ok.frames, I.ok.mod, I.bs, Nat.le_trans I.ok.bsz I.sz, I.stack, I.stkFree, I.hok, I.bare⟩
theorem Inv.after {Q : VK} {u : Value} (I : Inv X pins σ H s) (h : CE X.stack X.prog X.w H s Q u s') : EP X pins σ Q u s' := by
  obtain ⟨v, H', os, bare, un, hok, r, q⟩ := h
  obtain ⟨hh, g, d, t, os'⟩ := s'
  obtain rfl : os' = s.os := os
  exact ⟨v, H', I.call (h' := hh) (g' := g) (d' := d) (t' := t) (ch := []) un hok bare (fun b z => absurd z (by simp)), r, q⟩
end

def tCall (sp : Sp) (dvs : List V) (E : XK) (t : TA) : TE := fun σ H Q => t σ H fun vs H1 => sp (vs ++ dvs) H1 Q E
def Binds (K : PySem.W.Frag) (fd : FuncData) (ps : List Str) (ds : List Value) : Prop :=
  ∀ (s : Shared) (us : List Value), K.In s.heap → (us ++ ds).length = ps.length → BindsTo s fd ⟨us, []⟩ (ps.zip (us ++ ds))
theorem Binds.all {K : PySem.W.Frag} {fd : FuncData} {ps : List Str} (h : ∀ us : List Value, us.length = ps.length → bindArgs fd ⟨us, []⟩ = pure (ps.zip us)) : Binds K fd ps [] := fun s us _ hl => by
  rw [List.append_nil] at hl ⊢
  exact .of_eq (h us hl)

def Passes (CX : CXT) (X : Cx) (E : XK) : Prop := ∀ (pins : List (Addr × Obj)) (σ : St) (H : Hp) (s : Shared) (e : Value) (s' : Shared), Inv X pins σ H s → CX X.stack H s E e s' → X.xe e s'

section
variable {X : Cx} {CX : CXT} {k : Nat} {f C : Addr} {fd : FuncData} {ps : List Str} {sp : Sp} {dvs : List V} {ds : List Value} {E : XK} {x m : Str} {p pos apos : Pos} {e o : Expr} {es : List Expr} {ta : TE} {t : TA}

theorem run_fn {pins : List (Addr × Obj)} {σ : St} {H : Hp} {s : Shared} {Q : VK} {us : List Value} {vs : List V} (F : FnOk X.prog X.w X.K X.mg X.base CX k f fd ps sp) (hr : Room k X.A) (hb : Binds X.K fd ps ds) (hd : Vals dvs ds) (hx : Passes CX X E)
    (I : Inv X pins σ H s) (r : Vals vs us) (h : sp (vs ++ dvs) H Q E) : wpAny (model X.prog X.w) X.A (call (.ref f) us) (EP X pins σ Q) X.xe s := by
  have r2 : Vals (vs ++ dvs) (us ++ ds) := r.append hd
  have hl : (us ++ ds).length = ps.length := by rw [← r2.length]; exact F.len _ _ _ _ h
  refine wpAny_call (codeAny_mono (F.run X.A X.stack s H ⟨us, []⟩ (us ++ ds) (vs ++ dvs) Q E hr I.env0 (hb s us I.kIn hl) r2 h) fun r s' hq => ?_)
  cases r with
  | error e => exact hx pins σ H s e s' I hq
  | ok fl =>
    cases fl with
    | ret u => exact I.after hq
    | next => exact False.elim hq
    | brk => exact False.elim hq
    | cont => exact False.elim hq

theorem pe_call (F : FnOk X.prog X.w X.K X.mg X.base CX k f fd ps sp) (hr : Room k X.A) (hg : Gl X x) (hm : X.mg x = some (.ref f)) (hk : PySem.W.keepIn X.K (.ref f) = true) (hb : Binds X.K fd ps ds) (hd : Vals dvs ds) (hx : Passes CX X E)
    (ha : PA X (e :: es) t) (hdb : (x == ("__debug__" : Str)) = false := by decide) (he : starEach (e :: es) X.env = (false, eval e X.env) :: starEach es X.env := by rfl) (hpl : (backTo pos (starEach es X.env)).any (·.1) = false := by rfl) :
    PE X (.Call (.Name x p) (e :: es) [] pos) (tCall sp dvs E t) := by
  intro pins s σ H Q I h
  refine wpAny_Call_Name_kw (ld_glob I hg hm ?_ hdb)
  refine PySem.W.callWith_K (h₀ := X.base) I.ok.mod.kin hk (thn (ha pos pins s σ H _ I h) fun us s1 ⟨vs, H1, I1, r, q⟩ => ⟨I1.kIn, ?_⟩) he hpl
  exact run_fn F hr hb hd hx I1 r q
structure Mk (K : PySem.W.Frag) (C f : Addr) : Prop where
  makes : PySem.W.makesIn K C = true
  init : PySem.W.findIn K (.ref C) "__init__" = some (some (.ref f))
  fn : PySem.W.isFn K (.ref f) = true
  kp : PySem.W.keepIn K (.ref C) = true

end

section
variable {X : Cx} {CX : CXT} {k : Nat} {f C : Addr} {fd : FuncData} {ps ks : List Str} {sp : Sp} {E : XK} {x m : Str} {p pos apos kpos : Pos} {e o : Expr} {es : List Expr} {kws : List Keyword} {te ta : TE} {t tk : TA} {nm : Option Str}
structure KBinds (K : PySem.W.Frag) (fd : FuncData) (ps ks : List Str) (g : List Value → List Value → List Value) (gV : List V → List V → List V) : Prop where
  to : ∀ (s : Shared) (us ws : List Value), K.In s.heap → (g us ws).length = ps.length → BindsTo s fd ⟨us, ks.zip ws⟩ (ps.zip (g us ws))
  rel : ∀ {vs : List V} {us : List Value} {zs : List V} {ws : List Value}, Vals vs us → Vals zs ws → Vals (gV vs zs) (g us ws)
variable {g : List Value → List Value → List Value} {gV : List V → List V → List V}
end

structure FnScope (N P : List Str) (sc : Scope) : Prop where
  kind : sc.kind = .function
  co : sc.isCoroutine = false
  gen : sc.isGenerator = false
  nd : N.Nodup
  pre : N.take P.length = P
  par : ∀ x ∈ P, sc.names.lookup x = some .local ∨ sc.names.lookup x = some .cell
  nofree : ∀ y ∈ sc.names, y.2 ≠ .free

theorem bindL_out {kindOf : Str → Option NameKind} {x : Str} : ∀ {binds : List (Str × Value)} {m : Str → Option Value}, (∀ v, (x, v) ∉ binds) → bindL kindOf binds m x = m x
  | [], _, _ => rfl
  | (n, v) :: r, m, h => by
    unfold bindL
    rw [bindL_out fun w hw => h w (List.mem_cons_of_mem _ hw)]
    split
    · have : x ≠ n := by rintro rfl; exact h v List.mem_cons_self
      simp [this]
    · rfl
theorem bindC_out {kindOf : Str → Option NameKind} {x : Str} : ∀ {binds : List (Str × Value)} {m : Str → Option Value}, (∀ v, (x, v) ∉ binds) → bindC kindOf binds m x = m x
  | [], _, _ => rfl
  | (n, v) :: r, m, h => by
    unfold bindC
    rw [bindC_out fun w hw => h w (List.mem_cons_of_mem _ hw)]
    split
    · rfl
    · have : x ≠ n := by rintro rfl; exact h v List.mem_cons_self
      simp [this]
theorem bindL_get {kindOf : Str → Option NameKind} {x : Str} {v : Value} : ∀ {P : List Str} {vs : List Value} {i : Nat} {m : Str → Option Value}, P.Nodup → P[i]? = some x → vs[i]? = some v → kindOf x = some .local →
    bindL kindOf (P.zip vs) m x = some v
  | [], _, _, _, _, h, _, _ => by simp at h
  | _ :: _, [], _, _, _, _, h, _ => by simp at h
  | p :: P, w :: vs, 0, m, nd, h1, h2, hk => by
    simp at h1 h2; subst h1; subst h2
    show bindL kindOf ((p, w) :: P.zip vs) m p = _
    unfold bindL
    rw [bindL_out fun v hv => (List.nodup_cons.mp nd).1 (List.of_mem_zip hv).1, if_pos hk]
    simp
  | p :: P, w :: vs, i + 1, m, nd, h1, h2, hk => by
    show bindL kindOf ((p, w) :: P.zip vs) m x = _
    unfold bindL
    exact bindL_get (i := i) (List.nodup_cons.mp nd).2 (by simpa using h1) (by simpa using h2) hk
theorem bindC_get {kindOf : Str → Option NameKind} {x : Str} {v : Value} : ∀ {P : List Str} {vs : List Value} {i : Nat} {m : Str → Option Value}, P.Nodup → P[i]? = some x → vs[i]? = some v → kindOf x ≠ some .local →
    bindC kindOf (P.zip vs) m x = some v
  | [], _, _, _, _, h, _, _ => by simp at h
  | _ :: _, [], _, _, _, _, h, _ => by simp at h
  | p :: P, w :: vs, 0, m, nd, h1, h2, hk => by
    simp at h1 h2; subst h1; subst h2
    show bindC kindOf ((p, w) :: P.zip vs) m p = _
    unfold bindC
    rw [bindC_out fun v hv => (List.nodup_cons.mp nd).1 (List.of_mem_zip hv).1, if_neg hk]
    simp
  | p :: P, w :: vs, i + 1, m, nd, h1, h2, hk => by
    show bindC kindOf ((p, w) :: P.zip vs) m x = _
    unfold bindC
    exact bindC_get (i := i) (List.nodup_cons.mp nd).2 (by simpa using h1) (by simpa using h2) hk

def start (N : List Str) (vs : List V) : St := vs.map some ++ List.replicate (N.length - vs.length) none

def cxOf (CX : CXT) (P : Program) (w : World) (K : PySem.W.Frag) (mg : Str → Option Value) (base : Heap) (N : List Str) (qual : Str) (scope : Scope) (f : Addr) (cd : Value) (A : Around) (outer : List Env) (s : Shared) (H : Hp) (E : XK) : Cx where
  prog := P
  w := w
  K := K
  mg := mg
  base := base
  A := A.deeper (envOfC qual scope s.heap.objs.size f cd)
  N := N
  s₀ := s
  H₀ := H
  env := envOfC qual scope s.heap.objs.size f cd
  outer := outer
  stack := envOfC qual scope s.heap.objs.size f cd :: outer
  ex := []
  calm := true
  fn := fun _ => true
  pn := []
  xe := fun e s' => wpAny (model P w) (A.deeper (envOfC qual scope s.heap.objs.size f cd)) (leaving (envOfC qual scope s.heap.objs.size f cd) e) (fun _ s'' => CX outer H s E e s'') (fun e' s'' => CX outer H s E e' s'') s'

theorem cell_has {sc : Scope} {n : Nat} {x : Str} (h : sc.names.lookup x = some .cell) : ∃ c, (cellsFrom n sc.names []).lookup x = some c := by
  have q := PySem.W.cellsFrom_some sc.names n [] (.inl h)
  exact Option.isSome_iff_exists.mp q

theorem inv_start {CX : CXT} {P : Program} {w : World} {K : PySem.W.Frag} {mg : Str → Option Value} {base : Heap} {N ps : List Str} {qual : Str} {scope : Scope} {f : Addr} {cd : Value} {A : Around} {outer : List Env} {s s1 : Shared} {H : Hp} {E : XK} {us : List Value} {vs : List V}
    (S : FnScope N ps scope) (hd : A.handled = none) (e0 : Env0 P w K mg base A outer s H) (hl : vs.length = ps.length) (r : Vals vs us)
    (x : InCallC s s.heap.objs.size (bindL (envOfC qual scope s.heap.objs.size f cd).kindOf (ps.zip us) fun _ => none) (cellsFrom (s.heap.objs.size + 1) scope.names []) (bindC (envOfC qual scope s.heap.objs.size f cd).kindOf (ps.zip us) fun _ => none) s1) :
    Inv (cxOf CX P w K mg base N qual scope f cd A outer s H E) [] (start N vs) H s1 := by
  have hpl : ps.length ≤ N.length := by have := congrArg List.length S.pre; rw [List.length_take] at this; omega
  obtain ⟨h1, tk, rfl, hk⟩ := x.done
  have noA : ∀ b : Addr, b ∉ (cxOf CX P w K mg base N qual scope f cd A outer s H E).ex := fun b z => absurd (show b ∈ ([] : List Addr) from z) (by simp)
  refine ⟨⟨e0.mod, S.kind, rfl, rfl, Nat.le_refl _, fun y z c h1 h2 => ?_, fun y hy => ?_, fun y c _ h => ?_, fun _ => hd, Around.frames_deeper e0.frames, .inr ⟨rfl, rfl⟩, fun b z => absurd z (noA b), e0.bs, e0.bsz, fun b _ _ => noA b, fun b z => absurd z (noA b), e0.funs, e0.frf⟩,
    rfl, e0.bare, Un.kept hk, ⟨_, x.toInCall.ns, fun i y v h1 h2 h3 => ?_⟩, fun y c h => ⟨_, x.cell y c h⟩, e0.hok.fresh (Nat.le_refl _), fun y c h => ?_, fun p hp => absurd (show p ∈ ([] : List (Addr × Obj)) from hp) (by simp), e0.hok.kept hk, ?_⟩
  · exact name_of_addr x.apart (PySem.mem_of_lookup h1) (PySem.mem_of_lookup h2)
  · have hy : scope.names.lookup y = some .cell ∨ scope.names.lookup y = some .free := hy
    rcases hy with hy | hy
    · exact cell_has hy
    · exact absurd rfl (S.nofree _ (PySem.mem_of_lookup hy))
  · exact Nat.le_of_lt (x.above y c (PySem.mem_of_lookup h))
  · have hi : i < vs.length := by
      unfold start at h2
      by_cases hi : i < vs.length
      · exact hi
      · rw [List.getElem?_append_right (by simpa using hi)] at h2
        rw [List.getElem?_replicate] at h2
        split at h2 <;> cases h2
    have ha : vs[i]? = some v := by
      unfold start at h2
      rw [List.getElem?_append_left (by simpa using hi), List.getElem?_map] at h2
      cases e : vs[i]? with
      | none => rw [e] at h2; cases h2
      | some a => rw [e] at h2; cases h2; rfl
    obtain ⟨u, hu, rv⟩ := r.get ha
    have hp : ps[i]? = some y := by
      rw [← S.pre, List.getElem?_take_of_lt (by omega)]; exact h1
    have ndP : ps.Nodup := by rw [← S.pre]; exact S.nd.sublist (List.take_sublist _ _)
    refine ⟨u, rv, ?_⟩
    rcases S.par y (List.mem_of_getElem? hp) with k | k
    · exact .inl ⟨k, bindL_get ndP hp hu k⟩
    · obtain ⟨c, e⟩ := cell_has (n := s.heap.objs.size + 1) k
      refine .inr ⟨.inl k, c, e, ?_⟩
      have q := x.cell y c e
      rw [bindC_get ndP hp hu (by show scope.names.lookup y ≠ _; rw [k]; decide)] at q
      exact q
  · exact e0.hok.fresh (Nat.le_of_lt (x.above y c (PySem.mem_of_lookup h)))
  · unfold start
    show _ = N.length
    rw [List.length_append, List.length_map, List.length_replicate]
    omega

theorem fn_of {CX : CXT} {P : Program} {w : World} {K : PySem.W.Frag} {mg : Str → Option Value} {base : Heap} {k : Nat} {f : Addr} {name qual : Str} {params : Arguments} {body : List Stmt} {scope : Scope} {dV kV doc pm cdv ct oc : Value} {an od : Option Addr}
    {osl : Array (Option Value)} {N ps : List Str} {sp : Sp} (lk : K.lookup f = some ⟨oc, od, .func (PySem.W.fnOf name qual params body scope dV kV doc pm an cdv ct), osl⟩) (hcd : PySem.W.codeIn K cdv qual = true) (S : FnScope N ps scope)
    (len : ∀ vs H Q E, sp vs H Q E → vs.length = ps.length)
    (hbody : ∀ (A : Around) (outer : List Env) (s : Shared) (H : Hp) (vs : List V) (Q : VK) (E : XK), Room k (A.deeper (envOfC qual scope s.heap.objs.size f cdv)) → sp vs H Q E →
      ∃ t, PSs (cxOf CX P w K mg base N qual scope f cdv A outer s H E) body t ∧ t { nx := fun _ H' => Q .non H', rt := Q } (start N vs) H) :
    FnOk P w K mg base CX (k + 1) f (PySem.W.fnOf name qual params body scope dV kV doc pm an cdv ct) ps sp := by
  refine ⟨len, fun A outer s H args us vs Q E hr e0 hb r hsp => ?_⟩
  have hl := len _ _ _ _ hsp
  have KX : K.In s.heap := e0.mod.kin.keeps fun b o e => (e0.bs b o e).1
  have lim : s.heap.NoLimit := e0.mod.nolimit.keeps fun b o e => (e0.bs b o e).1
  have hkind : ∀ y ∈ ps.zip us, scope.names.lookup y.1 = some .local ∨ (scope.names.lookup y.1 = some .cell ∧ ((cellsFrom (s.heap.objs.size + 1) scope.names []).lookup y.1).isSome = true) := fun ⟨n, v⟩ hy => by
    rcases S.par n (List.of_mem_zip hy).1 with q | q
    · exact .inl q
    · exact .inr ⟨q, PySem.W.cellsFrom_some _ _ _ (.inl q)⟩
  refine codeAny_call_function hr.depth (KX _ _ lk) rfl S.co S.gen rfl (PySem.W.codeRec_of KX hcd) (hb _ _ _ _ ?_)
  refine wpAny_newFunctionEnv_cells S.kind hkind fun env he s1 x => ?_
  subst he
  refine ⟨lim.keeps x.toInCall.keep, codeAny_func ?_⟩
  obtain ⟨t, ht, hq⟩ := hbody A outer s H vs Q E (hr.deeper _) hsp
  have I : Inv (cxOf CX P w K mg base N qual scope f cdv A outer s H E) [] (start N vs) H s1 := inv_start S hr.hd e0 hl r x
  refine wpAny_mono (ht [] s1 (start N vs) H _ I hq) (fun fl s' hs => ?_) fun e s' hs => hs
  have fin : ∀ {σ' : St} {H' : Hp} {v : V} {u : Value}, Inv (cxOf CX P w K mg base N qual scope f cdv A outer s H E) [] σ' H' s' → RelV v u → Q v H' → CE outer P w H s Q u s' :=
    fun {σ' H' v u} J rv q => ⟨v, H', J.os, J.bare, J.base, J.hok, rv, q⟩
  cases fl with
  | ret u =>
    obtain ⟨v, σ', H', J, rv, q⟩ := hs
    exact fin J rv q
  | next =>
    obtain ⟨σ', H', J, q⟩ := hs
    exact fin (v := V.non) (u := Value.none) J rfl q
  | brk =>
    obtain ⟨_, _, _, q⟩ := hs
    exact False.elim q
  | cont =>
    obtain ⟨_, _, _, q⟩ := hs
    exact False.elim q
end L2

namespace L2
open PySem PySem.Spec PyProof.Rows
section
variable {X : Cx} {x : Str} {p pos : Pos} {e : Expr} {es : List Expr} {t : TA} {id T : String} {r : List V → Hp → VK → Prop}

def tCB (r : List V → Hp → VK → Prop) (t : TA) : TE := fun σ H Q => t σ H fun vs H1 => r vs H1 Q
theorem pe_callB (hc : CallR X (.builtin id) r) (hg : Gl X x) (hm : X.mg x = none) (hv : bootBuiltins x = some (.builtin id)) (ha : PA X (e :: es) t) (hn : x ≠ "__name__" := by decide) (hdb : (x == ("__debug__" : Str)) = false := by decide)
    (he : starEach (e :: es) X.env = (false, eval e X.env) :: starEach es X.env := by rfl) (hpl : (backTo pos (starEach es X.env)).any (·.1) = false := by rfl) : PE X (.Call (.Name x p) (e :: es) [] pos) (tCB r t) := by
  intro pins s σ H Q I h
  refine wpAny_Call_Name_kw (ld_blt I hg hm hv ?_ hn hdb)
  exact PyProof.Rows.callWith_builtin1 (thn (ha pos pins s σ H _ I h) fun us s1 ⟨vs, H1, I1, r1, q1⟩ => hc pins s1 σ H1 vs us Q I1 r1 q1) he hpl
theorem pe_callTy (hc : CallR X (.type T) r) (hg : Gl X x) (hm : X.mg x = none) (hv : bootBuiltins x = some (.type T)) (ha : PA X (e :: es) t) (hn : x ≠ "__name__" := by decide) (hdb : (x == ("__debug__" : Str)) = false := by decide)
    (he : starEach (e :: es) X.env = (false, eval e X.env) :: starEach es X.env := by rfl) (hpl : (backTo pos (starEach es X.env)).any (·.1) = false := by rfl) : PE X (.Call (.Name x p) (e :: es) [] pos) (tCB r t) := by
  intro pins s σ H Q I h
  refine wpAny_Call_Name_kw (ld_blt I hg hm hv ?_ hn hdb)
  exact PyProof.Rows.callWith_type1 (thn (ha pos pins s σ H _ I h) fun us s1 ⟨vs, H1, I1, r1, q1⟩ => hc pins s1 σ H1 vs us Q I1 r1 q1) he hpl
end
end L2

namespace HT
open PySem PyProof.Rows

section
open PySem.SeqAt
open PySem.AutoSeq1 (wpAny_loadPart')
open PySem.MeetsSeq PySem.MeetsSeq2 PySem.MeetsSeq3

end

section
variable {prog : Program} {w : World} {A : Around} {E : Value → Shared → Prop} {s : Shared}

theorem cat_tup {t b : Addr} {vs ws : List Value} {Q : Value → Shared → Prop} (ht : IsTup s.heap t vs.toArray) (hb : IsTup s.heap b ws.toArray) (hv : vs ≠ [])
    (h1 : ws = [] → Q (.ref t) s) (h2 : ws ≠ [] → Q (.ref s.heap.objs.size) { s with heap := s.heap.push { cls := .type "tuple", data := .seq (vs ++ ws).toArray } })
    (hsz : vs.length + ws.length ≤ sizeLine) : wpAny (model prog w) A (binaryOp .Add (.ref t) (.ref b)) Q E s := by
  obtain ⟨⟨cls, dd, data, sl⟩, ho, hc, n, hd⟩ := id ht
  obtain ⟨⟨cls2, dd2, data2, sl2⟩, ho2, hc2, n2, hd2⟩ := id hb
  simp only at hc hd hc2 hd2
  subst hc hd hc2 hd2
  have e : vs.toArray ++ ws.toArray = (vs ++ ws).toArray := by simp
  by_cases hw : ws = []
  · exact concat_meets ⟨_, ho, rfl⟩ ⟨_, ho2, rfl⟩ noFill_tuple_add seq_tuple_add PySem.F.slot_tuple_add PySem.F.entry_tuple_add (PySem.F.args_tuple_add_2 _ _)
      (tuple_addW1 t b vs.toArray ws.toArray n n2 dd dd2 sl sl2 (by simpa using hv) (by simp [hw])) ⟨ho, ho2, h1 hw⟩
  · refine concat_meets ⟨_, ho, rfl⟩ ⟨_, ho2, rfl⟩ noFill_tuple_add seq_tuple_add PySem.F.slot_tuple_add PySem.F.entry_tuple_add (PySem.F.args_tuple_add_2 _ _)
      (tuple_addW2 t b vs.toArray ws.toArray n n2 dd dd2 sl sl2 (by simpa using hv) (by simpa using hw) (by rw [List.size_toArray, List.size_toArray]; exact hsz)) ⟨ho, ho2, ?_⟩
    rw [e]
    exact h2 hw

def sIx (n d : Nat) : Option Int → Nat
  | none => d
  | some v => if v < 0 then (v + (n : Int)).toNat else min v.toNat n
theorem sIx_le (n d : Nat) (hd : d ≤ n) (o : Option Int) : sIx n d o ≤ n := by
  cases o with
  | none => exact hd
  | some v =>
    show (if v < 0 then (v + (n : Int)).toNat else min v.toNat n) ≤ n
    by_cases hv : v < 0
    · rw [if_pos hv]; omega
    · rw [if_neg hv]; exact Nat.min_le_right _ _
theorem clip_eq (v : Int) (n d : Nat) : (if v < 0 then max (v + (n : Int)) 0 else min v (n : Int)) = ((sIx n d (some v) : Nat) : Int) := by
  show (if v < 0 then max (v + (n : Int)) 0 else min v (n : Int)) = (((if v < 0 then (v + (n : Int)).toNat else min v.toNat n) : Nat) : Int)
  by_cases hv : v < 0
  · simp only [if_pos hv]; omega
  · simp only [if_neg hv]; omega
theorem adjust_gen (lo hi : Option Int) (n : Nat) : Builtin.Slice.sliceAdjust lo hi 1 (n : Int) = (((sIx n 0 lo : Nat) : Int), ((sIx n n hi : Nat) : Int)) := by
  have h1 : ¬ ((1 : Int) < 0) := by omega
  unfold Builtin.Slice.sliceAdjust
  simp only [h1, if_false]
  refine Prod.ext ?_ ?_
  · cases lo with
    | none => rfl
    | some v => exact clip_eq v n 0
  · cases hi with
    | none => rfl
    | some v => exact clip_eq v n n
theorem places_gen (i j : Nat) : Builtin.Slice.slicePlaces (i : Int) (j : Int) 1 = j - i := by
  unfold Builtin.Slice.slicePlaces
  have h1 : (1 : Int) > 0 := by omega
  simp only [h1, if_true, Int.ediv_one]
  split <;> omega
theorem slicePart_ {v : Value} {o : Option Int} {Q : Option Int → Shared → Prop} (p : IsPart v o) (h : Q o s) : wpAny (model prog w) A (Builtin.Slice.slicePartIndex v) Q E s := by
  cases p with
  | none => exact slicePart_none h
  | int i t => exact slicePart_int h
theorem sliceApplied_gen {sl : Addr} {vl vu : Value} {lo hi : Option Int} {n : Nat} {Q : Int × Int × Nat → Shared → Prop} (hs : s.heap.IsSliceOf sl vl vu .none) (pl : IsPart vl lo) (pu : IsPart vu hi)
    (h : Q (((sIx n 0 lo : Nat) : Int), 1, sIx n n hi - sIx n 0 lo) s) : wpAny (model prog w) A (Builtin.Slice.sliceApplied (.ref sl) (pure (n : Int))) Q E s := by
  obtain ⟨os, hos, hcs, hds⟩ := id hs
  unfold Builtin.Slice.sliceApplied Builtin.Slice.sliceFields
  refine wpAny_bind (wpAny_bind (wpAny_field hos hds (x := vl) rfl (wpAny_bind (wpAny_field hos hds (x := vu) rfl (wpAny_bind (wpAny_field hos hds (x := .none) rfl (wpAny_pure ?_)))))))
  refine wpAny_bind (slicePart_none ?_)
  show wpAny _ _ (if ((1 : Int) == 0) = true then _ else _) _ _ s
  rw [if_neg (by decide)]
  refine wpAny_bind (slicePart_ pl (wpAny_bind (slicePart_ pu (wpAny_bind (wpAny_pure ?_)))))
  show wpAny _ _ (match Builtin.Slice.sliceAdjust lo hi 1 (n : Int) with | (lo, hi) => pure (lo, (1 : Int), Builtin.Slice.slicePlaces lo hi 1)) _ _ s
  rw [adjust_gen lo hi n]
  show wpAny _ _ (pure (((sIx n 0 lo : Nat) : Int), (1 : Int), Builtin.Slice.slicePlaces ((sIx n 0 lo : Nat) : Int) ((sIx n n hi : Nat) : Int) 1)) _ _ s
  rw [places_gen]
  exact wpAny_pure h
theorem pick_gen (xs : Array Value) (i k : Nat) : ((List.range k).filterMap fun (m : Nat) => xs[((i : Int) + (m : Int) * 1).toNat]?).toArray = ((xs.toList.drop i).take k).toArray := by
  have e : (fun (m : Nat) => xs[((i : Int) + (m : Int) * 1).toNat]?) = fun m => xs[i + m]? := by
    funext m
    have : ((i : Int) + (m : Int) * 1).toNat = i + m := by omega
    rw [this]
  rw [e]
  have := pick_run xs i k
  rw [List.filterMap_map] at this
  have e2 : ((fun x => xs[x]?) ∘ fun x => i + x) = fun m => xs[i + m]? := rfl
  rw [e2] at this
  rw [this]

theorem getItem_tuple_cut {t sl : Addr} {items : Array Value} {vl vu : Value} {lo hi : Option Int} {Q : Value → Shared → Prop} (ht : IsTup s.heap t items) (hs : s.heap.IsSliceOf sl vl vu .none) (pl : IsPart vl lo) (pu : IsPart vu hi)
    (hw : ¬ (sIx items.size 0 lo = 0 ∧ sIx items.size items.size hi = items.size))
    (h : Q (.ref s.heap.objs.size) { s with heap := s.heap.push { cls := .type "tuple", data := .seq ((items.toList.drop (sIx items.size 0 lo)).take (sIx items.size items.size hi - sIx items.size 0 lo)).toArray } })
    (hsz : items.size ≤ sizeLine) : wpAny (model prog w) A (getItem (.ref t) (.ref sl)) Q E s := by
  have htake : sizeOk (.seq ((items.toList.drop (sIx items.size 0 lo)).take (sIx items.size items.size hi - sIx items.size 0 lo)).toArray) := by
    show ((items.toList.drop (sIx items.size 0 lo)).take (sIx items.size items.size hi - sIx items.size 0 lo)).toArray.size ≤ sizeLine
    rw [List.size_toArray, List.length_take, List.length_drop, Array.length_toList]
    omega
  have hj : sIx items.size items.size hi ≤ items.size := sIx_le _ _ (Nat.le_refl _) hi
  obtain ⟨os, hos, hcs, hds⟩ := id hs
  have hTs : s.TypeIs (.ref sl) "slice" := ⟨os, hos, hcs⟩
  unfold getItem
  try with_reducible refine wpAny_holding ?_
  first | refine wpAny_bind (wpAny_pure ?_) | skip
  refine wpAny_bind (wpAny_sequenceKey ht.typeIs (by decide) ?_)
  refine wpAny_bind (wpAny_callSpecial?_slot (name := Str.ofString "__getitem__") ht.typeIs PyProof.Rows.slot_tuple_getitem
    (wpAny_call_entry PyProof.Rows.slot_tuple_getitem ht.typeIs entry_tuple_getitem ?_ (args_tuple_getitem _ _)))
  show wpAny _ _ (Builtin.Tuple.tupleItemsOf (.ref t) >>= _) _ _ s
  refine wpAny_bind (tupleItemsOf_ ht ?_)
  refine wpAny_bind (wpAny_typeOf hTs ?_)
  rw [if_pos (by decide)]
  refine wpAny_bind (sliceApplied_gen hs pl pu ?_)
  have hno : ¬ ((((sIx items.size 0 lo : Nat) : Int) == 0 && (1 : Int) == 1 && (sIx items.size items.size hi - sIx items.size 0 lo) == items.size) = true) := by
    intro q
    rw [Bool.and_eq_true, Bool.and_eq_true] at q
    have q1 : ((sIx items.size 0 lo : Nat) : Int) = 0 := eq_of_beq q.1.1
    have q2 : sIx items.size items.size hi - sIx items.size 0 lo = items.size := eq_of_beq q.2
    exact hw ⟨by omega, by omega⟩
  show wpAny _ _ (if (((sIx items.size 0 lo : Nat) : Int) == 0 && (1 : Int) == 1 && (sIx items.size items.size hi - sIx items.size 0 lo) == items.size) = true then _ else _) _ _ s
  rw [if_neg hno, pick_gen]
  first
    | exact wpAny_bind (m := Builtin.Tuple.tupleExact _) (wpAny_newObj_type (wpAny_pure ⟨_, rfl, wpAny_pure h⟩) htake)
    | exact wpAny_bind (m := Builtin.Tuple.tupleExact _) (wpAny_newObj_type (wpAny_bind (wpAny_pure (wpAny_pure ⟨_, rfl, wpAny_pure h⟩))) htake)
    | exact wpAny_bind (wpAny_bind (m := Builtin.Tuple.tupleExact _) (wpAny_newObj_type (wpAny_pure (wpAny_pure ⟨_, rfl, wpAny_pure h⟩)) htake))
    | exact wpAny_bind (wpAny_bind (m := Builtin.Tuple.tupleExact _) (wpAny_newObj_type (wpAny_pure ⟨_, rfl, wpAny_pure h⟩) htake))
end
end HT

namespace L2
open PySem PySem.Spec PyProof.Rows

abbrev TO := St → Hp → (Option Int → Hp → Prop) → Prop
def PO (X : Cx) (e : Option Expr) (t : TO) : Prop :=
  ∀ (pins : List (Addr × Obj)) (s : Shared) (σ : St) (H : Hp) (Q : Option Int → Hp → Prop), Inv X pins σ H s → t σ H Q →
    wpAny (model X.prog X.w) X.A (evalPart e X.env) (fun u s' => ∃ o H', Inv X pins σ H' s' ∧ IsPart u o ∧ Q o H') X.xe s
def tNoPart : TO := fun _ H Q => Q none H
def tPart (t : TE) : TO := fun σ H Q => t σ H fun x H1 => ∃ i, x = .int i ∧ Q (some i) H1

section
variable {X : Cx} {e : Expr} {te : TE} {lo hi : Option Expr} {tl th : TO} {pos p2 : Pos}

theorem po_none : PO X none tNoPart := by
  intro pins s σ H Q I h
  rw [evalPart_none]
  exact wpAny_pure ⟨none, H, I, .none, h⟩
theorem po_some (h : PE X e te) : PO X (some e) (tPart te) := by
  intro pins s σ H Q I hw
  rw [evalPart_some]
  refine thn (h pins s σ H _ I hw) fun u s1 ⟨x, H1, I1, r1, q1⟩ => ?_
  obtain ⟨i, rfl, q⟩ := q1
  obtain ⟨t, rfl⟩ := r1
  exact ⟨some i, H1, I1, .int i t, q⟩

def SlR (X : Cx) (r : V → Option Int → Option Int → Hp → VK → Prop) : Prop :=
  ∀ (pins : List (Addr × Obj)) (s : Shared) (σ : St) (H : Hp) (x : V) (v vl vu : Value) (lo hi : Option Int) (sl : Addr) (Q : VK), Inv X pins σ H s → RelV x v → s.heap.IsSliceOf sl vl vu .none → IsPart vl lo → IsPart vu hi → r x lo hi H Q →
    ∃ T id, typeLookup (.type T) "__getitem__" = pure (some (.builtin id)) ∧ s.TypeIs v T ∧ wpAny (model X.prog X.w) X.A (getItem v (.ref sl)) (EP X pins σ Q) X.xe s
theorem SlR.or {r r' : V → Option Int → Option Int → Hp → VK → Prop} (h : SlR X r) (h' : SlR X r') : SlR X (fun x lo hi H Q => r x lo hi H Q ∨ r' x lo hi H Q) := by
  intro pins s σ H x v vl vu lo hi sl Q I rx hs pl pu q
  rcases q with q | q
  · exact h pins s σ H x v vl vu lo hi sl Q I rx hs pl pu q
  · exact h' pins s σ H x v vl vu lo hi sl Q I rx hs pl pu q
def tSl (r : V → Option Int → Option Int → Hp → VK → Prop) (te : TE) (tl th : TO) : TE := fun σ H Q => te σ H fun x H1 => tl σ H1 fun l H2 => th σ H2 fun u H3 => r x l u H3 Q
theorem pe_slice {r : V → Option Int → Option Int → Hp → VK → Prop} (hr : SlR X r) (he : PE X e te) (hl : PO X lo tl) (hu : PO X hi th) : PE X (.Subscript e (.Slice lo hi none p2) pos) (tSl r te tl th) := by
  intro pins s σ H Q I h
  refine Subscript_ (thn (he pins s σ H _ I h) fun v s1 ⟨x, H1, I1, r1, q1⟩ => ?_)
  refine wpAny_Slice (thn (hl pins s1 σ H1 _ I1 q1) fun vl s2 ⟨l, H2, I2, pl, q2⟩ => thn (hu pins s2 σ H2 _ I2 q2) fun vu s3 ⟨u, H3, I3, pu, q3⟩ => ?_)
  rw [evalPart_none]
  refine wpAny_pure ?_
  have I4 : Inv X pins σ H3 { s3 with heap := s3.heap.push { cls := .type "slice", data := .fields #[vl, vu, .none] } } := I3.kept (t' := s3.toks) fun b ob q => Heap.get?_push_of_some _ q
  obtain ⟨T, id, hT, ht, hg⟩ := hr pins { s3 with heap := s3.heap.push { cls := .type "slice", data := .fields #[vl, vu, .none] } } σ H3 x v vl vu l u s3.heap.objs.size Q I4 r1 (Heap.IsSliceOf.new ..) pl pu q3
  show wpAny (model X.prog X.w) X.A (subscriptTail e (.Slice lo hi none p2) v (.ref s3.heap.objs.size)) (EP X pins σ Q) X.xe { s3 with heap := s3.heap.push { cls := .type "slice", data := .fields #[vl, vu, .none] } }
  exact tail_any (ops := [.ref s3.heap.objs.size, v]) ht hT hg (by with_unfolding_all rfl)

def cutV (xs : List V) (lo hi : Option Int) : List V := (xs.drop (HT.sIx xs.length 0 lo)).take (HT.sIx xs.length xs.length hi - HT.sIx xs.length 0 lo)
theorem cutV_length (xs : List V) (lo hi : Option Int) : (cutV xs lo hi).length ≤ xs.length := by
  unfold cutV
  rw [List.length_take, List.length_drop]
  omega
def rSlT (K : PySem.W.Frag) : V → Option Int → Option Int → Hp → VK → Prop := fun x lo hi H Q => ∃ a xs, x = .ref a ∧ SqT K H a xs ∧
  ¬ (HT.sIx xs.length 0 lo = 0 ∧ HT.sIx xs.length xs.length hi = xs.length) ∧ ∀ p, H p = none → Q (.ref p) (upd H p (.tup (cutV xs lo hi)))
theorem sl_tup : SlR X (rSlT X.K) := by
  intro pins s σ H x v vl vu lo hi sl Q I rx hs pl pu h
  obtain ⟨a, xs, rfl, hx, hw, q⟩ := h
  cases rx
  obtain ⟨its, r, ht, hz⟩ := I.tuple hx
  have hlen : its.toArray.size = xs.length := by rw [List.size_toArray]; exact r.length.symm
  refine ⟨"tuple", _, PyProof.Rows.slot_tuple_getitem.lookup, ht.typeIs, ?_⟩
  refine HT.getItem_tuple_cut ht hs pl pu (by rw [hlen]; exact hw) ?_ (by rw [hlen]; exact hz)
  rw [hlen]
  refine ⟨.ref s.heap.objs.size, _, I.laid (t' := s.toks) (o := .tup (cutV xs lo hi)) (fun b ob q => Heap.get?_push_of_some _ q) (Nat.le_refl _) ?_, rfl, q _ (I.hok.fresh (Nat.le_refl _))⟩
  exact ⟨Nat.le_trans (cutV_length xs lo hi) hz, _, (r.drop (HT.sIx xs.length 0 lo)).take (HT.sIx xs.length xs.length hi - HT.sIx xs.length 0 lo), TupD.new _ _⟩

def rCatT (K : PySem.W.Frag) : R2 := fun x y H Q => ∃ a b xs ys, x = .ref a ∧ y = .ref b ∧ SqT K H a xs ∧ SqT K H b ys ∧ xs ≠ [] ∧ xs.length + ys.length ≤ sizeLine ∧
  (ys = [] → Q (.ref a) H) ∧ (ys ≠ [] → ∀ p, H p = none → Q (.ref p) (upd H p (.tup (xs ++ ys))))
theorem Vals.nil_iff {xs : List V} {us : List Value} (r : Vals xs us) : us = [] ↔ xs = [] := by
  cases r with
  | nil => simp
  | cons _ _ => simp
theorem op_catT : OpR X (binaryOp .Add) (rCatT X.K) := by
  intro pins s σ H x y v u Q I rx ry h
  obtain ⟨a, b, xs, ys, rfl, rfl, ha, hb, hx, hz, q1, q2⟩ := h
  cases rx
  cases ry
  obtain ⟨its, r1, p1, _⟩ := I.tuple ha
  obtain ⟨its2, r2, p2, _⟩ := I.tuple hb
  refine HT.cat_tup p1 p2 (fun z => hx (r1.nil_iff.mp z)) (fun z => ⟨.ref a, H, I, rfl, q1 (r2.nil_iff.mp z)⟩) (fun z => ?_) (by rw [← r1.length, ← r2.length]; exact hz)
  refine ⟨.ref s.heap.objs.size, _, I.laid (t' := s.toks) (o := .tup (xs ++ ys)) (fun b ob q => Heap.get?_push_of_some _ q) (Nat.le_refl _) ?_, rfl, q2 (fun w => z (r2.nil_iff.mpr w)) _ (I.hok.fresh (Nat.le_refl _))⟩
  exact ⟨by rw [List.length_append]; exact hz, _, r1.append r2, TupD.new _ _⟩
end
end L2

namespace L2
open PySem PySem.Spec PyProof.Rows

def ixN (n : Nat) (i : Int) : Option Nat := if 0 ≤ i then (if i < n then some i.toNat else none) else if -(n : Int) ≤ i then some (i + n).toNat else none
def atI {α : Type} (xs : List α) (i : Int) : Option α := (ixN xs.length i).bind fun j => xs[j]?
theorem ixN_seq {n : Nat} {i : Int} {j : Nat} (h : ixN n i = some j) : seqIndex? i n = some j ∧ j < n ∧ -(n : Int) ≤ i ∧ i < n := by
  unfold ixN at h
  by_cases h0 : 0 ≤ i
  · rw [if_pos h0] at h
    by_cases h1 : i < n
    · rw [if_pos h1] at h
      have e : i.toNat = j := Option.some.inj h
      exact ⟨by rw [seqIndex_of h0 h1, e], by omega, by omega, h1⟩
    · rw [if_neg h1] at h; cases h
  · rw [if_neg h0] at h
    by_cases h1 : -(n : Int) ≤ i
    · rw [if_pos h1] at h
      have e : (i + n).toNat = j := Option.some.inj h
      exact ⟨by rw [seqIndex_neg (by omega) h1, e], by omega, h1, by omega⟩
    · rw [if_neg h1] at h; cases h
theorem atI_get {α : Type} {xs : List α} {i : Int} {v : α} (h : atI xs i = some v) : ∃ j, seqIndex? i xs.length = some j ∧ xs[j]? = some v ∧ j < xs.length ∧ -(xs.length : Int) ≤ i ∧ i < xs.length := by
  unfold atI at h
  cases e : ixN xs.length i with
  | none => rw [e] at h; cases h
  | some j =>
    rw [e] at h
    obtain ⟨h1, h2, h3, h4⟩ := ixN_seq e
    exact ⟨j, h1, h, h2, h3, h4⟩
theorem atI_nat {α : Type} {xs : List α} {j : Nat} {v : α} (h : xs[j]? = some v) : atI xs (j : Int) = some v := by
  have hj : j < xs.length := (List.getElem?_eq_some_iff.mp h).1
  have e : ixN xs.length (j : Int) = some j := by
    unfold ixN
    rw [if_pos (by omega), if_pos (by omega)]; simp
  unfold atI; rw [e]; exact h
theorem atI_last {α : Type} (xs : List α) (v : α) : atI (xs ++ [v]) (-1) = some v := by
  have hl : (xs ++ [v]).length = xs.length + 1 := by simp
  have e : ixN (xs ++ [v]).length (-1) = some xs.length := by
    unfold ixN
    rw [hl, if_neg (by decide), if_pos (by omega)]
    congr 1
    omega
  unfold atI
  rw [e]
  show (xs ++ [v])[xs.length]? = some v
  simp

def PlainIx (b : Expr) : Prop := ∀ o i, subscripted b false o i = operate [o, i] (getItem o i)
def IxR (X : Cx) (r : R2) : Prop :=
  ∀ (value slice : Expr) (pins : List (Addr × Obj)) (s : Shared) (σ : St) (H : Hp) (x y : V) (v u : Value) (Q : VK), Inv X pins σ H s → RelV x v → RelV y u → r x y H Q →
    subscripted slice false v u = operate [v, u] (getItem v u) → wpAny (model X.prog X.w) X.A (subscriptTail value slice v u) (EP X pins σ Q) X.xe s
def MtR (X : Cx) (id : String) (r : V → List V → Hp → VK → Prop) : Prop :=
  ∀ (pins : List (Addr × Obj)) (s : Shared) (σ : St) (H : Hp) (x : V) (xs : List V) (v : Value) (us : List Value) (Q : VK), Inv X pins σ H s → RelV x v → Vals xs us → r x xs H Q →
    wpAny (model X.prog X.w) X.A (call (.builtin id) (v :: us)) (EP X pins σ Q) X.xe s
section
variable {X : Cx} {a b : Expr} {ta tb : TE} {pos : Pos}
theorem IxR.or {r r' : R2} (h : IxR X r) (h' : IxR X r') : IxR X (fun x y H Q => r x y H Q ∨ r' x y H Q) := by
  intro value slice pins s σ H x y v u Q I rx ry q hs
  rcases q with q | q
  · exact h value slice pins s σ H x y v u Q I rx ry q hs
  · exact h' value slice pins s σ H x y v u Q I rx ry q hs
theorem MtR.or {id : String} {r r' : V → List V → Hp → VK → Prop} (h : MtR X id r) (h' : MtR X id r') : MtR X id (fun x xs H Q => r x xs H Q ∨ r' x xs H Q) := by
  intro pins s σ H x xs v us Q I rx rs q
  rcases q with q | q
  · exact h pins s σ H x xs v us Q I rx rs q
  · exact h' pins s σ H x xs v us Q I rx rs q
theorem pe_ix {r : R2} (hr : IxR X r) (ha : PE X a ta) (hb : PE X b tb) (hs : PlainIx b) : PE X (.Subscript a b pos) (tOp r ta tb) := by
  intro pins s σ H Q I h
  exact Subscript_ (binT ha hb I h fun v u s2 x y H2 I2 rx ry q => hr a b pins s2 σ H2 x y v u Q I2 rx ry q (hs _ _))

def rIxL (K : PySem.W.Frag) : R2 := fun x y H Q => ∃ p xs i v, x = .ref p ∧ y = .int i ∧ SqL K H p xs ∧ atI xs i = some v ∧ Q v H
def rIxT (K : PySem.W.Frag) : R2 := fun x y H Q => ∃ p xs i v, x = .ref p ∧ y = .int i ∧ SqT K H p xs ∧ atI xs i = some v ∧ Q v H
theorem ix_list : IxR X (rIxL X.K) := by
  intro value slice pins s σ H x y v u Q I rx ry h hs
  obtain ⟨p, xs, i, z, rfl, rfl, hq, he, q⟩ := h
  cases rx
  obtain ⟨t, rfl⟩ := ry
  obtain ⟨its, r, pl, hz⟩ := I.list hq
  obtain ⟨j, h1, h2, h3, h4, h5⟩ := atI_get he
  obtain ⟨w, ew, rw'⟩ := r.get h2
  have hl := r.length
  have hn := line63
  have fin : EP X pins σ Q w s := ⟨z, H, I, rw', q⟩
  by_cases h0 : 0 ≤ i
  · have hj : i.toNat = j := by
      rw [seqIndex_of h0 h5] at h1
      exact Option.some.inj h1
    exact item_listR pl.isList h0 (by omega) (by rw [hj]; simpa using ew) fin hs
  · have hj : (i + (its.toArray.size : Int)).toNat = j := by
      rw [seqIndex_neg (by omega) h4] at h1
      rw [List.size_toArray, ← hl]
      exact Option.some.inj h1
    exact subscriptTail_builtinR (x := w) pl.isList.typeIs slot_list_getitem.lookup
      (wpAny_getItem_list_neg (Q := fun r s' => r = w ∧ EP X pins σ Q r s') pl.isList (by omega) (by rw [List.size_toArray] <;> omega) (by omega) (by rw [hj]; simpa using ew) ⟨rfl, fin⟩) hs
theorem ix_tup : IxR X (rIxT X.K) := by
  intro value slice pins s σ H x y v u Q I rx ry h hs
  obtain ⟨p, xs, i, z, rfl, rfl, hq, he, q⟩ := h
  cases rx
  obtain ⟨t, rfl⟩ := ry
  obtain ⟨its, r, pl, hz⟩ := I.tuple hq
  obtain ⟨j, h1, h2, h3, h4, h5⟩ := atI_get he
  obtain ⟨w, ew, rw'⟩ := r.get h2
  have hl := r.length
  have hn := line63
  have fin : EP X pins σ Q w s := ⟨z, H, I, rw', q⟩
  exact subscriptTail_builtinR (x := w) pl.typeIs slot_tuple_getitem.lookup
    (getItem_tuple (j := j) (Q := fun r s' => r = w ∧ EP X pins σ Q r s') pl (by omega) (by omega) (by rw [List.size_toArray, ← hl]; exact h1) (by simpa using ew) ⟨rfl, fin⟩) hs
theorem Inv.lst {pins : List (Addr × Obj)} {σ : St} {H : Hp} {s : Shared} {p : Addr} {xs : List V} (I : Inv X pins σ H s) (h : H p = some (.lst xs)) :
    ∃ (its : List Value) (n : Nat), Vals xs its ∧ s.heap.get? p = some { cls := .type "list", data := .seq its.toArray n } ∧ xs.length ≤ sizeLine := by
  obtain ⟨z, its, n, r, e⟩ := I.hok p _ h
  exact ⟨its, n, r, e, z⟩
theorem slice_bounds (lo hi : Option Int) (n : Nat) : (sliceBounds lo hi none n).1 = ((HT.sIx n 0 lo : Nat) : Int) ∧ (sliceBounds lo hi none n).2.1 = ((HT.sIx n n hi : Nat) : Int) ∧ (sliceBounds lo hi none n).2.2 = 1 := by
  refine ⟨?_, ?_, rfl⟩
  · cases lo with
    | none => simp [sliceBounds, HT.sIx]
    | some i =>
      simp only [sliceBounds, HT.sIx, Option.getD_none, show (1 : Int) > 0 by decide, if_true]
      by_cases h : i < 0
      · simp only [h, if_true] <;> omega
      · simp only [h, if_false] <;> omega
  · cases hi with
    | none => simp [sliceBounds, HT.sIx]
    | some i =>
      simp only [sliceBounds, HT.sIx, Option.getD_none, show (1 : Int) > 0 by decide, if_true]
      by_cases h : i < 0
      · simp only [h, if_true] <;> omega
      · simp only [h, if_false] <;> omega
theorem slicePick_cut (its : List Value) (lo hi : Option Int) : slicePick its.toArray lo hi none = ((its.drop (HT.sIx its.length 0 lo)).take (HT.sIx its.length its.length hi - HT.sIx its.length 0 lo)).toArray := by
  obtain ⟨h1, h2, h3⟩ := slice_bounds lo hi its.toArray.size
  unfold slicePick
  rw [h1, h2, h3]
  simp only [sliceRange_one, pick_run, List.size_toArray] <;> rfl
def rSlL (K : PySem.W.Frag) : V → Option Int → Option Int → Hp → VK → Prop := fun x lo hi H Q => ∃ a xs, x = .ref a ∧ SqL K H a xs ∧ ∀ p, H p = none → Q (.ref p) (upd H p (.lst (cutV xs lo hi)))
theorem sl_list : SlR X (rSlL X.K) := by
  intro pins s σ H x v vl vu lo hi sl Q I rx hs pl pu h
  obtain ⟨a, xs, rfl, hx, q⟩ := h
  cases rx
  obtain ⟨its, r, ht, hz⟩ := I.list hx
  have hlen := r.length
  refine ⟨"list", _, slot_list_getitem.lookup, ht.isList.typeIs, ?_⟩
  refine wpAny_getItem_list_slice ht.isList hs pl pu .none (by simp) ?_ (by rw [List.size_toArray] <;> omega)
  rw [slicePick_cut, ← hlen]
  refine ⟨.ref s.heap.objs.size, _, I.laid (t' := s.toks) (o := .lst (cutV xs lo hi)) (fun b ob q => Heap.get?_push_of_some _ q) (Nat.le_refl _) ?_, rfl, q _ (I.hok.fresh (Nat.le_refl _))⟩
  exact ⟨Nat.le_trans (cutV_length xs lo hi) hz, _, 0, (r.drop (HT.sIx xs.length 0 lo)).take (HT.sIx xs.length xs.length hi - HT.sIx xs.length 0 lo), Heap.get?_push_size _ rfl⟩

def flatV : V → Bool
  | .non => true
  | .bl _ => true
  | .int _ => true
  | .str _ => true
  | _ => false
def eqV : V → V → Bool
  | .non, .non => true
  | .bl a, .bl b => a == b
  | .bl a, .int b => (if a then 1 else 0) == b
  | .int a, .bl b => a == (if b then 1 else 0)
  | .int a, .int b => a == b
  | .str a, .str b => a == b
  | _, _ => false
theorem eqAt_V {A : Around} {s : Shared} {y x : V} {u v : Value} (ry : RelV y u) (rx : RelV x v) (fy : flatV y = true) (fx : flatV x = true) : SeqAt.EqAt A s u v (eqV y x) := by
  cases y with
  | non =>
    cases ry
    cases x with
    | non => cases rx; exact SeqAt.EqAt.same _
    | bl b => cases rx; exact SeqAt.EqAt.none_bool b
    | int b => obtain ⟨t, rfl⟩ := rx; exact SeqAt.EqAt.none_int b t
    | str b => obtain ⟨t, rfl⟩ := rx; exact SeqAt.EqAt.none_str b t
    | _ => exact absurd (show false = true from fx) Bool.false_ne_true
  | bl a =>
    cases ry
    cases x with
    | non => cases rx; exact SeqAt.EqAt.bool_none a
    | bl b => cases rx; exact SeqAt.EqAt.bool_bool a b
    | int b => obtain ⟨t, rfl⟩ := rx; exact SeqAt.EqAt.bool_int a b t
    | str b => obtain ⟨t, rfl⟩ := rx; exact SeqAt.EqAt.bool_str a b t
    | _ => exact absurd (show false = true from fx) Bool.false_ne_true
  | int a =>
    obtain ⟨t', rfl⟩ := ry
    cases x with
    | non => cases rx; exact SeqAt.EqAt.int_none a t'
    | bl b => cases rx; exact SeqAt.EqAt.int_bool a t' b
    | int b => obtain ⟨t, rfl⟩ := rx; exact SeqAt.EqAt.int_int a t' b t
    | str b => obtain ⟨t, rfl⟩ := rx; exact SeqAt.EqAt.int_str a t' b t
    | _ => exact absurd (show false = true from fx) Bool.false_ne_true
  | str a =>
    obtain ⟨t', rfl⟩ := ry
    cases x with
    | non => cases rx; exact SeqAt.EqAt.str_none a t'
    | bl b => cases rx; exact SeqAt.EqAt.str_bool a t' b
    | int b => obtain ⟨t, rfl⟩ := rx; exact SeqAt.EqAt.str_int a t' b t
    | str b => obtain ⟨t, rfl⟩ := rx; exact SeqAt.EqAt.str_str a t' b t
    | _ => exact absurd (show false = true from fx) Bool.false_ne_true
  | _ => exact absurd (show false = true from fy) Bool.false_ne_true
def eqU (x : V) (u : Value) : Bool := match u with
  | .none => eqV .non x
  | .bool b => eqV (.bl b) x
  | .int i _ => eqV (.int i) x
  | .str z _ => eqV (.str z) x
  | _ => false
theorem eqU_of {x y : V} {u : Value} (r : RelV y u) (f : flatV y = true) : eqU x u = eqV y x := by
  cases y with
  | non => cases r; rfl
  | bl b => cases r; rfl
  | int i => obtain ⟨t, rfl⟩ := r; rfl
  | str z => obtain ⟨t, rfl⟩ := r; rfl
  | _ => exact absurd (show false = true from f) Bool.false_ne_true
theorem any_eqU {x : V} : ∀ {xs : List V} {us : List Value}, Vals xs us → xs.all flatV = true → us.any (eqU x) = xs.any fun y => eqV y x
  | _, _, .nil, _ => rfl
  | y :: xs, u :: us, .cons r t, f => by
    rw [List.all_cons, Bool.and_eq_true] at f
    rw [List.any_cons, List.any_cons, eqU_of r f.1, any_eqU t f.2]
theorem mem_eqAt {A : Around} {s : Shared} {x : V} {v : Value} (rx : RelV x v) (fx : flatV x = true) : ∀ {xs : List V} {us : List Value}, Vals xs us → xs.all flatV = true → ∀ u ∈ us, SeqAt.EqAt A s u v (eqU x u)
  | _, _, .nil, _ => fun u hu => by cases hu
  | y :: xs, u :: us, .cons r t, f => fun u' hu => by
    rw [List.all_cons, Bool.and_eq_true] at f
    rcases List.mem_cons.mp hu with rfl | hu
    · rw [eqU_of r f.1]; exact eqAt_V r rx f.1 fx
    · exact mem_eqAt rx fx t f.2 u' hu
def inV (x : V) (xs : List V) : Bool := xs.any fun y => eqV y x
def rIn (K : PySem.W.Frag) (neg : Bool) : R2 := fun x y H Q => ∃ p xs, y = .ref p ∧ (SqL K H p xs ∨ SqT K H p xs) ∧ flatV x = true ∧ xs.all flatV = true ∧ Q (.bl (if neg then !inV x xs else inV x xs)) H
theorem op_in_seq : OpR X (compareOp .In) (rIn X.K false) := by
  intro pins s σ H x y v u Q I rx ry h
  obtain ⟨p, xs, rfl, hq, fx, fs, q⟩ := h
  cases ry
  rcases hq with hq | hq
  · obtain ⟨its, r, pl, hz⟩ := I.list hq
    refine SeqAt.in_listAt (eqU x) pl.isList (fun w hw => mem_eqAt rx fx r fs w (by simpa using hw)) ⟨.bl _, H, I, rfl, ?_⟩
    rw [show its.toArray.any (eqU x) = its.any (eqU x) by simp, any_eqU r fs]
    exact q
  · obtain ⟨its, r, pl, hz⟩ := I.tuple hq
    refine SeqAt.in_tupleAt (eqU x) pl (fun w hw => mem_eqAt rx fx r fs w (by simpa using hw)) ⟨.bl _, H, I, rfl, ?_⟩
    rw [show its.toArray.any (eqU x) = its.any (eqU x) by simp, any_eqU r fs]
    exact q
theorem op_notIn_seq : OpR X (compareOp .NotIn) (rIn X.K true) := by
  intro pins s σ H x y v u Q I rx ry h
  obtain ⟨p, xs, rfl, hq, fx, fs, q⟩ := h
  cases ry
  rcases hq with hq | hq
  · obtain ⟨its, r, pl, hz⟩ := I.list hq
    refine SeqAt.notIn_listAt (eqU x) pl.isList (fun w hw => mem_eqAt rx fx r fs w (by simpa using hw)) ⟨.bl _, H, I, rfl, ?_⟩
    rw [show its.toArray.any (eqU x) = its.any (eqU x) by simp, any_eqU r fs]
    exact q
  · obtain ⟨its, r, pl, hz⟩ := I.tuple hq
    refine SeqAt.notIn_tupleAt (eqU x) pl (fun w hw => mem_eqAt rx fx r fs w (by simpa using hw)) ⟨.bl _, H, I, rfl, ?_⟩
    rw [show its.toArray.any (eqU x) = its.any (eqU x) by simp, any_eqU r fs]
    exact q
theorem call_len_seq : CallR X (.builtin "len") (fun xs H Q => ∃ p ys, xs = [.ref p] ∧ (SqL X.K H p ys ∨ SqT X.K H p ys) ∧ Q (.int ys.length) H) := by
  intro pins s σ H xs us Q I r h
  obtain ⟨p, ys, rfl, hq, q⟩ := h
  obtain ⟨u, rfl, rx⟩ := vals1 r
  cases rx
  have hn := line63
  rcases hq with hq | hq
  · obtain ⟨its, r', pl, hz⟩ := I.list hq
    have hlen := r'.length
    exact Calls.call_len_list pl.isList (by simp only [List.size_toArray] <;> omega) ⟨.int ys.length, H, I.tok _, ⟨s.toks + 1, by rw [List.size_toArray, hlen]⟩, q⟩
  · obtain ⟨its, r', pl, hz⟩ := I.tuple hq
    have hlen := r'.length
    exact len_tuple pl (by simp only [List.size_toArray] <;> omega) ⟨.int ys.length, H, I.tok _, ⟨s.toks + 1, by rw [List.size_toArray, hlen]⟩, q⟩
theorem CallR.or {f : Value} {r r' : List V → Hp → VK → Prop} (h : CallR X f r) (h' : CallR X f r') : CallR X f (fun xs H Q => r xs H Q ∨ r' xs H Q) := by
  intro pins s σ H xs us Q I rs q
  rcases q with q | q
  · exact h pins s σ H xs us Q I rs q
  · exact h' pins s σ H xs us Q I rs q
theorem call_list_of : CallR X (.type "list") (fun xs H Q => ∃ p ys, xs = [.ref p] ∧ (SqL X.K H p ys ∨ SqT X.K H p ys) ∧ ∀ l, H l = none → Q (.ref l) (upd H l (.lst ys))) := by
  intro pins s σ H xs us Q I r h
  obtain ⟨p, ys, rfl, hq, q⟩ := h
  obtain ⟨u, rfl, rx⟩ := vals1 r
  cases rx
  have fin : ∀ (its : List Value), Vals ys its → ys.length ≤ sizeLine → ∀ (h' : Heap) (c' : Nat), (∀ b o', s.heap.get? b = some o' → h'.get? b = some o') →
      h'.get? s.heap.objs.size = some { cls := .type "list", dict := none, data := .seq its.toArray c', slots := #[] } → EP X pins σ Q (.ref s.heap.objs.size) { s with heap := h' } := fun its r' hz h' c' kp e =>
    ⟨.ref s.heap.objs.size, _, I.laid (t' := s.toks) kp (Nat.le_refl _) (show ObjOk X.prog X.w _ h' _ (.lst ys) from ⟨hz, its, c', r', e⟩), rfl, q _ (I.hok.fresh (Nat.le_refl _))⟩
  rcases hq with hq | hq
  · obtain ⟨its, r', pl, hz⟩ := I.list hq
    have hlen := r'.length
    obtain ⟨o, ho, hc, n, hd⟩ := pl.isList
    exact call_list_seq p (.inl rfl) ho hc hd (fun h' c' kp e => fin its r' hz h' c' kp e) (by simp only [List.size_toArray] <;> omega)
  · obtain ⟨its, r', pl, hz⟩ := I.tuple hq
    have hlen := r'.length
    obtain ⟨o, ho, hc, n, hd⟩ := pl
    exact call_list_seq p (.inr rfl) ho hc hd (fun h' c' kp e => fin its r' hz h' c' kp e) (by simp only [List.size_toArray] <;> omega)
theorem call_tuple_of : CallR X (.type "tuple") (fun xs H Q => ∃ p ys, xs = [.ref p] ∧ ((SqL X.K H p ys ∧ ∀ l, H l = none → Q (.ref l) (upd H l (.tup ys))) ∨ (SqT X.K H p ys ∧ Q (.ref p) H))) := by
  intro pins s σ H xs us Q I r h
  obtain ⟨p, ys, rfl, h⟩ := h
  obtain ⟨u, rfl, rx⟩ := vals1 r
  cases rx
  rcases h with ⟨hq, q⟩ | ⟨hq, q⟩
  · obtain ⟨its, r', pl, hz⟩ := I.list hq
    have hlen := r'.length
    refine call_tuple_list pl.isList (fun h' kp => ?_) (by simp only [List.size_toArray] <;> omega)
    have I1 : Inv X pins σ H { s with heap := h' } := I.kept (t' := s.toks) kp
    have I2 : Inv X pins σ (upd H h'.objs.size (.tup ys)) { s with heap := h'.push { cls := .type "tuple", data := .seq its.toArray } } :=
      I1.laid (t' := s.toks) (fun b o e => Heap.get?_push_of_some _ e) (Nat.le_refl _) (show ObjOk X.prog X.w _ _ _ (.tup ys) from ⟨hz, its, r', TupD.new _ _⟩)
    exact ⟨.ref h'.objs.size, _, I2, rfl, q _ (I1.hok.fresh (Nat.le_refl _))⟩
  · obtain ⟨its, r', pl, hz⟩ := I.tuple hq
    exact call_tuple_same pl ⟨.ref p, H, I, rfl, q⟩

def tyV (K : PySem.W.Frag) (T : String) (x : V) (H : Hp) : Prop := match x with
  | .str _ => T = "str"
  | .int _ => T = "int"
  | .ref p => (T = "list" ∧ ∃ xs, SqL K H p xs) ∨ (T = "tuple" ∧ ∃ o, K.lookup p = some o ∧ o.cls = .type "tuple" ∧ o.dict = none) ∨
      (T = "dict" ∧ ((∃ kvs, H p = some (.dK kvs)) ∨ ∃ kvs, H p = some (.dT kvs))) ∨ (T = "set" ∧ ∃ S n, H p = some (.set S n)) ∨ (T = "tuple" ∧ ∃ xs, H p = some (.tup xs))
  | _ => False
theorem tyV_is {pins : List (Addr × Obj)} {σ : St} {H : Hp} {s : Shared} {T : String} {x : V} {v : Value} (I : Inv X pins σ H s) (r : RelV x v) (ty : tyV X.K T x H) :
    s.TypeIs v T ∧ ∀ a, v = .ref a → ∃ ob, s.heap.get? a = some ob ∧ ob.dict = none := by
  cases x with
  | str z =>
    obtain ⟨t, rfl⟩ := r
    cases (show T = "str" from ty)
    exact ⟨typeIs_str s z t, fun _ e => nomatch e⟩
  | int i =>
    obtain ⟨t, rfl⟩ := r
    cases (show T = "int" from ty)
    exact ⟨typeIs_int s i t, fun _ e => nomatch e⟩
  | ref p =>
    cases r
    rcases ty with ⟨rfl, xs, hq⟩ | ⟨rfl, o, hk, hc, hd⟩ | ⟨rfl, hk⟩ | ⟨rfl, S, n, hk⟩ | ⟨rfl, xs, hk⟩
    · obtain ⟨its, _, pl, _⟩ := I.list hq
      refine ⟨pl.isList.typeIs, fun a e => ?_⟩
      cases e
      obtain ⟨o, n, e, c, hd, _⟩ := pl
      exact ⟨o, e, hd⟩
    · refine ⟨⟨o, I.kIn p o hk, hc⟩, fun a e => ?_⟩
      cases e
      exact ⟨o, I.kIn _ o hk, hd⟩
    · have z : ∃ o, s.heap.get? p = some o ∧ o.ExactDict := by
        rcases hk with ⟨kvs, hk⟩ | ⟨kvs, hk⟩
        · obtain ⟨_, _, _, _, o, _, _, e, ex, _⟩ := I.hok p _ hk
          exact ⟨o, e, ex⟩
        · obtain ⟨_, _, _, _, o, _, _, e, ex, _⟩ := I.hok p _ hk
          exact ⟨o, e, ex⟩
      obtain ⟨o, e, ex⟩ := z
      refine ⟨⟨o, e, ex.1⟩, fun a e2 => ?_⟩
      cases e2
      exact ⟨o, e, ex.2.1⟩
    · obtain ⟨o, _, _, _, e, ex, _⟩ := I.hok p _ hk
      refine ⟨⟨o, e, ex.1⟩, fun a e2 => ?_⟩
      cases e2
      exact ⟨o, e, ex.2.1⟩
    · obtain ⟨_, its, r, o, e, c, n, d, hd⟩ := (show ObjOk X.prog X.w H s.heap p (.tup xs) from I.hok p _ hk)
      refine ⟨⟨o, e, c⟩, fun a e2 => ?_⟩
      cases e2
      exact ⟨o, e, hd⟩
  | _ => exact False.elim ty
def tBM (K : PySem.W.Frag) (T : String) (r : V → List V → Hp → VK → Prop) (to : TE) (t : TA) : TE := fun σ H Q => to σ H fun x H1 => tyV K T x H1 ∧ t σ H1 fun xs H2 => r x xs H2 Q
variable {o e : Expr} {es : List Expr} {to : TE} {t : TA} {name : Str} {apos cpos : Pos} {T id : String} {r : V → List V → Hp → VK → Prop}
theorem pe_bm (pa : PlainAttrs T) (slot : Slot T name id) (hty : typeOf (.builtin id) = pure (.type "method_descriptor")) (hm : MtR X id r) (ho : PE X o to) (ha : PA X (e :: es) t)
    (hbase : attributeBase o name X.env (eval o X.env) = eval o X.env := by rfl)
    (hfew : ((backTo cpos (starEach (e :: es) X.env)).all (fun x => !x.1) && (backToKw cpos (keywordEach [] X.env)).all (fun x => x.1.isSome)
      && decide ((e :: es).length + ([] : List Keyword).length + (if ([] : List Keyword).isEmpty then 0 else 1) < 30)) = true := by rfl)
    (hline : (apos.endLine == cpos.line) = true := by rfl) (hs : starEach (e :: es) X.env = (false, eval e X.env) :: starEach es X.env := by rfl) (hplain : (backTo cpos (starEach es X.env)).any (·.1) = false := by rfl) :
    PE X (.Call (.Attribute o name apos) (e :: es) [] cpos) (tBM X.K T r to t) := by
  intro pins s σ H Q I h
  refine wpAny_Call_method_late hbase hfew hline rfl (thn (ho pins s σ H _ I h) fun v s1 ⟨x, H1, I1, r1, ty, q1⟩ => ?_)
  obtain ⟨h1, h2⟩ := tyV_is I1 r1 ty
  refine ⟨T, id, pa, slot, hty, h1, h2, ?_⟩
  have hA := ha cpos pins s1 σ H1 _ I1 q1
  rw [hs] at hA ⊢
  refine Calls.callWith_builtin (by show (false || (backTo cpos (starEach es X.env)).any (·.1)) = false; rw [hplain] <;> rfl) (Calls.evalArgs_plain ?_)
  exact thn hA fun us s2 ⟨vs, H2, I2, r2, q2⟩ => hm pins s2 σ H2 x vs v us Q I2 r1 r2 q2
end
end L2

namespace L2
open PySem PySem.Spec PyProof.Rows

def MtM (X : Cx) (id : String) (r : V → List V → Hp → VK → Prop) : Prop :=
  ∀ (pins : List (Addr × Obj)) (s : Shared) (σ : St) (H : Hp) (x : V) (xs : List V) (v : Value) (us : List Value) (Q : VK), Inv X pins σ H s → RelV x v → Vals xs us → r x xs H Q →
    wpAny (model X.prog X.w) X.A (call (.builtin id) (v :: us)) (EP X pins σ Q) X.xe s

theorem Vals.one : ∀ {x : V} {us : List Value}, Vals [x] us → ∃ u, us = [u] ∧ RelV x u
  | _, _, .cons r .nil => ⟨_, rfl, r⟩
theorem Vals.two : ∀ {x y : V} {us : List Value}, Vals [x, y] us → ∃ u v, us = [u, v] ∧ RelV x u ∧ RelV y v
  | _, _, _, .cons r (.cons q .nil) => ⟨_, _, rfl, r, q⟩
theorem Vals.zero : ∀ {us : List Value}, Vals [] us → us = []
  | _, .nil => rfl
theorem Vals.reverse {xs : List V} {us : List Value} (h : Vals xs us) : Vals xs.reverse us.reverse := by
  induction h with
  | nil => exact .nil
  | cons r t ih => rw [List.reverse_cons, List.reverse_cons]; exact Vals.append ih (.cons r .nil)
theorem Vals.rep {xs : List V} {us : List Value} (h : Vals xs us) : ∀ k : Nat, Vals (List.replicate k xs).flatten (List.replicate k us).flatten
  | 0 => .nil
  | k + 1 => by
    rw [List.replicate_succ, List.replicate_succ, List.flatten_cons, List.flatten_cons]
    exact Vals.append h (Vals.rep h k)
theorem foldl_rep (its : List Value) : ∀ (k : Nat) (acc : List Value),
    List.foldl (fun x1 x2 => x1 ++ x2) acc.toArray (List.replicate k its.toArray) = (acc ++ (List.replicate k its).flatten).toArray
  | 0, acc => by simp
  | k + 1, acc => by
    have e : acc.toArray ++ its.toArray = (acc ++ its).toArray := by simp
    have e2 : (acc ++ its) ++ (List.replicate k its).flatten = acc ++ (List.replicate (k + 1) its).flatten := by
      rw [List.replicate_succ, List.flatten_cons, List.append_assoc]
    rw [← e2, ← foldl_rep its k (acc ++ its), ← e, List.replicate_succ, List.foldl_cons]

section
variable {X : Cx} {pins : List (Addr × Obj)} {σ : St} {H : Hp} {s : Shared} {l b : Addr} {xs ys zs : List V}

theorem Inv.lset {its its' : List Value} {n : Nat} {f : Array Value → Array Value} {t' : Nat} (I : Inv X pins σ H s) (hH : H l = some (.lst xs))
    (e : s.heap.get? l = some { cls := .type "list", data := .seq its.toArray n }) (hf : f its.toArray = its'.toArray) (hv : Vals ys its') (hz : ys.length ≤ sizeLine) :
    Inv X pins σ (upd H l (.lst ys)) { s with heap := s.heap.update l (Obj.mapSeq f), toks := t' } := by
  have q := PySem.IsL.update e f
  rw [hf] at q
  refine I.write (x := l) (e := l) (by rw [hH]; exact trivial) (.inl rfl) (fun b' u hb hu => (Heap.get?_update_other s.heap (Obj.mapSeq f) (Ne.symm hb)).trans hu) ⟨_, q⟩ ?_
  exact ⟨hz, its', _, hv, q⟩
theorem Inv.lnew {its : List Value} {t' : Nat} (I : Inv X pins σ H s) (hv : Vals ys its) (hz : ys.length ≤ sizeLine) :
    Inv X pins σ (upd H s.heap.objs.size (.lst ys)) { s with heap := s.heap.push { cls := .type "list", data := .seq its.toArray }, toks := t' } :=
  I.laid (fun _ _ q => Heap.get?_push_of_some _ q) (Nat.le_refl _) ⟨hz, its, 0, hv, Heap.get?_push_size _ rfl⟩
theorem Inv.fresh (I : Inv X pins σ H s) : H s.heap.objs.size = none := I.hok.fresh (Nat.le_refl _)
theorem Inv.lstM (I : Inv X pins σ H s) (hH : H l = some (.lst xs)) : xs.length ≤ sizeLine ∧ ∃ (its : List Value) (n : Nat), Vals xs its ∧ xs.length = its.length ∧ s.heap.get? l = some { cls := .type "list", data := .seq its.toArray n } := by
  obtain ⟨z, its, n, r, e⟩ := I.hok l _ hH
  exact ⟨z, its, n, r, r.length, e⟩

theorem notLongL {n : Nat} (h : n ≤ sizeLine) : Builtin.List.listTooLong n = false := by
  unfold Builtin.List.listTooLong
  exact decide_eq_false (by omega)
end

section
variable {X : Cx}

def rAppend : V → List V → Hp → VK → Prop := fun x vs H Q => ∃ l xs y, x = .ref l ∧ vs = [y] ∧ H l = some (.lst xs) ∧ xs.length < sizeLine ∧ Q .non (upd H l (.lst (xs ++ [y])))
theorem mt_append : MtM X "list.append" rAppend := by
  intro pins s σ H x vs v us Q I rx rv h
  obtain ⟨l, xs, y, rfl, rfl, hH, hz, q⟩ := h
  cases rx
  obtain ⟨u, rfl, ru⟩ := rv.one
  obtain ⟨z, its, n, r, hl, e⟩ := I.lstM hH
  refine call_meets F.slot_list_append ⟨_, e, rfl⟩ F.entry_list_append (F.args_list_append_2 _ _) (PySem.list_append l its.toArray n u (by rw [List.size_toArray]; omega)) ⟨e, ?_⟩
  refine ⟨.non, _, I.lset (its' := its ++ [u]) hH e (by simp) (r.append (.cons ru .nil)) ?_, rfl, q⟩
  rw [List.length_append, List.length_singleton]
  omega

def rCat : R2 := fun x y H Q => ∃ l b xs zs, x = .ref l ∧ y = .ref b ∧ H l = some (.lst xs) ∧ H b = some (.lst zs) ∧ xs.length + zs.length ≤ sizeLine ∧ ∀ p, H p = none → Q (.ref p) (upd H p (.lst (xs ++ zs)))
theorem op_cat : OpR X (binaryOp .Add) rCat := by
  intro pins s σ H x y v u Q I rx ry h
  obtain ⟨l, b, xs, zs, rfl, rfl, hH, hB, hz, q⟩ := h
  cases rx
  cases ry
  obtain ⟨z, its, n, r, hl, e⟩ := I.lstM hH
  obtain ⟨z2, its2, n2, r2, hl2, e2⟩ := I.lstM hB
  refine PySem.P.add_list e e2 ?_ (by rw [List.size_toArray, List.size_toArray]; omega)
  have ea : its.toArray ++ its2.toArray = (its ++ its2).toArray := by simp
  rw [ea]
  exact ⟨.ref _, _, I.lnew (t' := s.toks) (r.append r2) (by rw [List.length_append]; omega), rfl, q _ I.fresh⟩
def rRep : R2 := fun x y H Q => ∃ l k xs, x = .ref l ∧ y = .int k ∧ H l = some (.lst xs) ∧ -(2 ^ 63) ≤ k ∧ k < 2 ^ 63 ∧ xs.length * k.toNat ≤ sizeLine ∧
  ∀ p, H p = none → Q (.ref p) (upd H p (.lst (List.replicate k.toNat xs).flatten))
theorem len_rep {α : Type} (xs : List α) (k : Nat) : (List.replicate k xs).flatten.length = k * xs.length := by
  induction k with
  | zero => simp
  | succ k ih => rw [List.replicate_succ, List.flatten_cons, List.length_append, ih, Nat.succ_mul, Nat.add_comm]
theorem op_rep : OpR X (binaryOp .Mult) rRep := by
  intro pins s σ H x y v u Q I rx ry h
  obtain ⟨l, k, xs, rfl, rfl, hH, h1, h2, hz, q⟩ := h
  cases rx
  obtain ⟨t, rfl⟩ := ry
  obtain ⟨z, its, n, r, hl, e⟩ := I.lstM hH
  have hlen : its.toArray.size * k.toNat ≤ sizeLine := by rw [List.size_toArray, ← hl]; exact hz
  have hcap : ¬ its.toArray.size * k.toNat > (2 ^ 63 - 1) / 8 := by
    have : (sizeLine : Nat) ≤ (2 ^ 63 - 1) / 8 := by decide
    omega
  have hfit : ¬ (!Builtin.List.listFitsIndex k) = true := by
    rw [fitsIndex_both h1 h2]
    exact Bool.false_ne_true
  have hlong : ¬ Builtin.List.listTooLong (its.toArray.size * k.toNat) = true := by
    rw [notLongL hlen]
    exact Bool.false_ne_true
  have hnew : List.foldl (fun x1 x2 => x1 ++ x2) #[] (List.replicate (if its.toArray.isEmpty = true then 0 else k.toNat) its.toArray) = (List.replicate k.toNat its).flatten.toArray := by
    have f0 : ∀ m : Nat, List.foldl (fun x1 x2 => x1 ++ x2) #[] (List.replicate m its.toArray) = (List.replicate m its).flatten.toArray := fun m => by
      have := foldl_rep its m []
      rw [List.nil_append] at this
      exact this
    rw [f0]
    cases its with
    | nil => simp
    | cons a r' => rw [if_neg (by simp)]
  refine wpAny_binaryOp_repeat_ref (T := "list") (U := "int") (by decide) ⟨_, e, rfl⟩ (fun s' => typeIs_int s' k t) noFill_list_mul F.fills_int_mul F.slot_int_rmul repeat_list F.slot_int_index.lookup
    (call_meets F.slot_int_rmul (typeIs_int s k t) F.entry_int_rmul (F.args_int_rmul_2 _ _) (int___rmul___int_list k t l its.toArray n)
      ⟨e, rfl, ⟨_, e, rfl⟩, call_meets F.slot_list_mul ⟨_, e, rfl⟩ F.entry_list_mul (F.args_list_mul_2 _ _) (AutoListH.list___mul___list_int_3 l its.toArray n k t hfit hcap hlong) ⟨e, ?_⟩⟩)
  rw [hnew]
  exact ⟨.ref _, _, I.lnew (t' := s.toks) (r.rep k.toNat) (by rw [len_rep, Nat.mul_comm]; exact hz), rfl, q _ I.fresh⟩

end

section
variable {prog : Program} {w : World} {A : Around} {E : Value → Shared → Prop} {s : Shared}
end

section
variable {X : Cx}
end
end L2

namespace L2
open PySem PySem.Spec PyProof.Rows

section
variable {κ : Type} [DecidableEq κ]
def valV (kvs : List (κ × V)) (k : κ) : Option V := (kvs.find? fun kv => decide (kv.1 = k)).map (·.2)
def putK (kvs : List (κ × V)) (k : κ) (v : V) : List (κ × V) :=
  if (kvs.any fun kv => decide (kv.1 = k)) = true then kvs.map (fun kv => if kv.1 = k then (kv.1, v) else kv) else kvs ++ [(k, v)]
def dropK (kvs : List (κ × V)) (k : κ) : List (κ × V) := kvs.filter fun kv => decide (kv.1 ≠ k)

theorem valV_pos {p : κ × V} {r : List (κ × V)} {k : κ} (e : p.1 = k) : valV (p :: r) k = some p.2 := by simp [valV, List.find?_cons, e]
theorem valV_neg {p : κ × V} {r : List (κ × V)} {k : κ} (e : ¬ p.1 = k) : valV (p :: r) k = valV r k := by simp [valV, List.find?_cons, e]
theorem valV_any (k : κ) : ∀ kvs : List (κ × V), (kvs.any fun kv => decide (kv.1 = k)) = (valV kvs k).isSome
  | [] => rfl
  | p :: r => by
    rw [List.any_cons]
    by_cases e : p.1 = k
    · simp only [valV_pos e, decide_eq_true e, Bool.true_or, Option.isSome_some]
    · rw [valV_neg e, decide_eq_false e, Bool.false_or]; exact valV_any k r
theorem valV_map (k j : κ) (y : V) : ∀ kvs : List (κ × V), valV (kvs.map fun kv => if kv.1 = k then (kv.1, y) else kv) j = (valV kvs j).map fun x => if j = k then y else x
  | [] => rfl
  | p :: r => by
    have ih := valV_map k j y r
    rw [List.map_cons]
    by_cases h : p.1 = k
    · rw [if_pos h]
      by_cases e : p.1 = j
      · rw [valV_pos (p := (p.1, y)) e, valV_pos e, Option.map_some, if_pos (e.symm.trans h)]
      · rw [valV_neg (p := (p.1, y)) e, valV_neg e, ih]
    · rw [if_neg h]
      by_cases e : p.1 = j
      · rw [valV_pos (p := p) e, valV_pos e, Option.map_some, if_neg (fun z => h (e.trans z))]
      · rw [valV_neg (p := p) e, valV_neg e, ih]
theorem valV_snoc (k j : κ) (y : V) : ∀ kvs : List (κ × V), valV kvs k = none → valV (kvs ++ [(k, y)]) j = if j = k then some y else valV kvs j
  | [], _ => by
    by_cases e : k = j
    · rw [if_pos e.symm]; exact valV_pos (p := (k, y)) e
    · rw [if_neg (fun z => e z.symm)]; exact valV_neg (p := (k, y)) e
  | p :: r, hn => by
    rw [List.cons_append]
    have hk : ¬ p.1 = k := fun z => by rw [valV_pos z] at hn; cases hn
    rw [valV_neg hk] at hn
    have ih := valV_snoc k j y r hn
    by_cases e : p.1 = j
    · rw [valV_pos e, valV_pos e, if_neg (fun z => hk (e.trans z))]
    · rw [valV_neg e, valV_neg e, ih]
theorem valV_put (kvs : List (κ × V)) (k j : κ) (y : V) : valV (putK kvs k y) j = if j = k then some y else valV kvs j := by
  unfold putK
  by_cases a : (kvs.any fun kv => decide (kv.1 = k)) = true
  · rw [if_pos a, valV_map]
    rw [valV_any] at a
    by_cases e : j = k
    · obtain ⟨x, hx⟩ := Option.isSome_iff_exists.mp a
      rw [if_pos e, e, hx, Option.map_some, if_pos rfl]
    · rw [if_neg e]
      cases valV kvs j with
      | none => rfl
      | some x => rw [Option.map_some, if_neg e]
  · rw [if_neg a]
    refine valV_snoc k j y kvs ?_
    rw [valV_any] at a
    cases q : valV kvs k with
    | none => rfl
    | some x => rw [q] at a; exact (a rfl).elim
theorem length_putK (kvs : List (κ × V)) (k : κ) (v : V) : (putK kvs k v).length ≤ kvs.length + 1 := by
  unfold putK
  split
  · rw [List.length_map]; omega
  · rw [List.length_append, List.length_cons, List.length_nil]; omega
theorem putK_new {kvs : List (κ × V)} {k : κ} (v : V) (h : valV kvs k = none) : putK kvs k v = kvs ++ [(k, v)] := by
  unfold putK
  rw [valV_any, h]
  exact if_neg (by decide)

theorem RelO.isSome_eq {o : Option V} {u : Option Value} (r : RelO o u) : o.isSome = u.isSome := by
  cases o with
  | none => cases u with
    | none => rfl
    | some _ => exact (show False from r).elim
  | some _ => cases u with
    | none => exact (show False from r).elim
    | some _ => rfl
theorem RelO.getD {o : Option V} {u : Option Value} {d : V} {d' : Value} (r : RelO o u) (rd : RelV d d') : RelV (o.getD d) (u.getD d') := by
  cases o with
  | none => cases u with
    | none => exact rd
    | some _ => exact (show False from r).elim
  | some _ => cases u with
    | none => exact (show False from r).elim
    | some _ => exact r

theorem KV.val {kvs : List (κ × V)} {vs : List (κ × Value)} (r : KV kvs vs) (k : κ) : RelO (valV kvs k) (valueAt vs k) := by
  unfold KV at r
  induction r with
  | nil => exact True.intro
  | @cons p q ps qs h t ih =>
    obtain ⟨h1, h2⟩ := h
    by_cases e : p.1 = k
    · have e' : q.1 = k := h1.symm.trans e
      have b : valueAt (q :: qs) k = some q.2 := by simp [valueAt, List.find?_cons, e']
      rw [valV_pos e, b]; exact h2
    · have e' : ¬ q.1 = k := fun z => e (h1.trans z)
      have b : valueAt (q :: qs) k = valueAt qs k := by simp [valueAt, List.find?_cons, e']
      rw [valV_neg e, b]; exact ih
theorem KV.any {kvs : List (κ × V)} {vs : List (κ × Value)} (r : KV kvs vs) (k : κ) : (kvs.any fun kv => decide (kv.1 = k)) = vs.any fun kv => decide (kv.1 = k) := by
  unfold KV at r
  induction r with
  | nil => rfl
  | cons h t ih => rw [List.any_cons, List.any_cons, ih, h.1]
theorem KV.repl {kvs : List (κ × V)} {vs : List (κ × Value)} (r : KV kvs vs) (k : κ) {y : V} {u : Value} (ry : RelV y u) :
    KV (kvs.map fun kv => if kv.1 = k then (kv.1, y) else kv) (vs.map fun kv => if kv.1 = k then (kv.1, u) else kv) := by
  unfold KV at r ⊢
  induction r with
  | nil => exact .nil
  | @cons p q ps qs h t ih =>
    rw [List.map_cons, List.map_cons]
    refine .cons ?_ ih
    obtain ⟨h1, h2⟩ := h
    by_cases e : p.1 = k
    · rw [if_pos e, if_pos (h1.symm.trans e)]; exact ⟨h1, ry⟩
    · rw [if_neg e, if_neg (fun z => e (h1.trans z))]; exact ⟨h1, h2⟩
theorem KV.put {kvs : List (κ × V)} {vs : List (κ × Value)} (r : KV kvs vs) (k : κ) {y : V} {u : Value} (ry : RelV y u) : KV (putK kvs k y) (stored vs k u) := by
  unfold putK stored
  rw [r.any k]
  by_cases e : (vs.any fun kv => decide (kv.1 = k)) = true
  · rw [if_pos e, if_pos e]; exact r.repl k ry
  · rw [if_neg e, if_neg e]; exact Paired.snoc r ⟨rfl, ry⟩
theorem KV.drop {kvs : List (κ × V)} {vs : List (κ × Value)} (r : KV kvs vs) (k : κ) : KV (dropK kvs k) (without vs k) := by
  unfold KV at r ⊢
  unfold dropK without
  induction r with
  | nil => exact .nil
  | @cons p q ps qs h t ih =>
    obtain ⟨h1, h2⟩ := h
    rw [List.filter_cons, List.filter_cons]
    by_cases e : p.1 = k
    · have a : ¬ decide (p.1 ≠ k) = true := by simp [e]
      have b : ¬ decide (q.1 ≠ k) = true := by simp [h1.symm.trans e]
      rw [if_neg a, if_neg b]; exact ih
    · have e' : ¬ q.1 = k := fun z => e (h1.trans z)
      have a : decide (p.1 ≠ k) = true := by simp [e]
      have b : decide (q.1 ≠ k) = true := by simp [e']
      rw [if_pos a, if_pos b]; exact .cons ⟨h1, h2⟩ ih
theorem KV.keys {kvs : List (κ × V)} {vs : List (κ × Value)} (r : KV kvs vs) : kvs.map (·.1) = vs.map (·.1) := by
  unfold KV at r
  induction r with
  | nil => rfl
  | cons h t ih => rw [List.map_cons, List.map_cons, ih, h.1]
theorem KV.length {kvs : List (κ × V)} {vs : List (κ × Value)} (r : KV kvs vs) : kvs.length = vs.length := Paired.length r
end


theorem kV_is {P : Program} {w : World} {k : Key} {u : Value} (r : RelV (kV k) u) : (mixKind P w).is k u = true := by
  cases k with
  | inl i => obtain ⟨t, e⟩ := (show ∃ t, u = Value.int i t from r); subst e; exact mixKind_int P w i t
  | inr x => obtain ⟨t, e⟩ := (show ∃ t, u = Value.str x t from r); subst e; exact mixKind_str P w x t
theorem items_are {P : Program} {w : World} : ∀ {ks : List Key} {us : List Value}, Vals (ks.map kV) us → ItemsAre (mixKind P w) ks us
  | [], _, r => by rw [List.map_nil] at r; cases r; exact .nil
  | k :: ks, _, r => by
    rw [List.map_cons] at r
    cases r with
    | cons h t => exact .cons (kV_is h) (items_are t)

abbrev KT (H : Hp) : List (List Key × V) → List (List Key × Addr × Value) → Prop := Paired fun p q => p.1 = q.1 ∧ H q.2.1 = some (.tup (p.1.map kV)) ∧ RelV p.2 q.2.2
theorem KT.val {H : Hp} {kvs : List (List Key × V)} {xs : List (List Key × Addr × Value)} (r : KT H kvs xs) (k : List Key) : RelO (valV kvs k) ((atKey xs k).map (·.2)) := by
  induction r with
  | nil => exact True.intro
  | @cons p q ps qs h t ih =>
    obtain ⟨h1, _, h2⟩ := h
    by_cases e : p.1 = k
    · have e' : q.1 = k := h1.symm.trans e
      have b : atKey (q :: qs) k = some q.2 := by simp [atKey, List.find?_cons, e']
      rw [valV_pos e, b]; exact h2
    · have e' : ¬ q.1 = k := fun z => e (h1.trans z)
      have b : atKey (q :: qs) k = atKey qs k := by simp [atKey, List.find?_cons, e']
      rw [valV_neg e, b]; exact ih
theorem KT.repl {H : Hp} {kvs : List (List Key × V)} {xs : List (List Key × Addr × Value)} (r : KT H kvs xs) (k : List Key) {y : V} {u : Value} (ry : RelV y u) :
    KT H (kvs.map fun kv => if kv.1 = k then (kv.1, y) else kv) (xs.map (putAt k u)) := by
  induction r with
  | nil => exact .nil
  | @cons p q ps qs h t ih =>
    rw [List.map_cons, List.map_cons]
    refine .cons ?_ ih
    obtain ⟨h1, h2, h3⟩ := h
    unfold putAt
    by_cases e : p.1 = k
    · rw [if_pos e, if_pos (h1.symm.trans e)]; exact ⟨h1, h2, ry⟩
    · rw [if_neg e, if_neg (fun z => e (h1.trans z))]; exact ⟨h1, h2, h3⟩
theorem KT.put {H : Hp} {kvs : List (List Key × V)} {xs : List (List Key × Addr × Value)} (r : KT H kvs xs) (k : List Key) {b : Addr} {y : V} {u : Value} (hb : H b = some (.tup (k.map kV))) (ry : RelV y u) :
    KT H (putK kvs k y) (storedH xs k b u) := by
  have e : (kvs.any fun kv => decide (kv.1 = k)) = (atKey xs k).isSome := by
    rw [valV_any, (r.val k).isSome_eq, Option.isSome_map]
  unfold putK storedH
  rw [e]
  by_cases q : (atKey xs k).isSome = true
  · rw [if_pos q, if_pos q]; exact r.repl k ry
  · rw [if_neg q, if_neg q]; exact Paired.snoc r ⟨rfl, hb, ry⟩
theorem KT.keeps {H H' : Hp} {kvs : List (List Key × V)} {xs : List (List Key × Addr × Value)} (r : KT H kvs xs) (ht : ∀ b ys, H b = some (.tup ys) → H' b = some (.tup ys)) : KT H' kvs xs :=
  Paired.mapP r fun _ _ z => ⟨z.1, ht _ _ z.2.1, z.2.2⟩

section
variable {P : Program} {w : World} {H : Hp} {h : Heap} {a : Addr}
theorem rd_of {u : HO} (ok : HOk P w H h) (e : Rd H a u) : ObjOk P w H h a u := e.ok ok
theorem dk_rd {kvs : List (Key × V)} (ok : HOk P w H h) (e : Rd H a (.dK kvs)) : kvs.length ≤ sizeLine ∧ (a == sysModules) = false ∧ ∃ vs, KV kvs vs ∧ h.DictOf (mixKind P w) a vs :=
  show ObjOk P w H h a (.dK kvs) from rd_of ok e
theorem dk_of {kvs : List (Key × V)} (ok : HOk P w H h) (e : H a = some (.dK kvs)) : kvs.length ≤ sizeLine ∧ (a == sysModules) = false ∧ ∃ vs, KV kvs vs ∧ h.DictOf (mixKind P w) a vs := dk_rd ok (.inl e)
theorem key_of {ks : List Key} (ok : HOk P w H h) (e : H a = some (.tup (ks.map kV))) : (tupleKind (mixKind P w)).is h ks a := by
  obtain ⟨_, its, r, o, h1, h2, n, h3, _⟩ := (show ObjOk P w H h a (.tup (ks.map kV)) from ok a _ e)
  exact ⟨o, its.toArray, n, h1, h2, h3, by simpa using items_are r⟩
theorem dt_rd {kvs : List (List Key × V)} (ok : HOk P w H h) (e : Rd H a (.dT kvs)) : kvs.length ≤ sizeLine ∧ (a == sysModules) = false ∧
    ∃ xs, KT H kvs xs ∧ h.DictOfH (tupleKind (mixKind P w)) a xs := by
  obtain ⟨z, y, xs, r, o, es, ep, h1, h2, h3, h4, h5⟩ := (show ObjOk P w H h a (.dT kvs) from rd_of ok e)
  refine ⟨z, y, xs, r, o, es, ep, h1, h2, h3, h4, fun x hx => ?_, h5⟩
  have all : ∀ {l : List (List Key × V)} {m : List (List Key × Addr × Value)}, KT H l m → ∀ x ∈ m, (tupleKind (mixKind P w)).is h x.1 x.2.1 := by
    intro l m q
    induction q with
    | nil => intro x hx; exact nomatch hx
    | @cons p q ps qs hq t ih =>
      intro x hx
      rcases List.mem_cons.mp hx with e | hx
      · subst e
        exact key_of ok (by rw [← hq.1]; exact hq.2.1)
      · exact ih x hx
  exact all r x hx
theorem dt_of {kvs : List (List Key × V)} (ok : HOk P w H h) (e : H a = some (.dT kvs)) : kvs.length ≤ sizeLine ∧ (a == sysModules) = false ∧
    ∃ xs, KT H kvs xs ∧ h.DictOfH (tupleKind (mixKind P w)) a xs := dt_rd ok (.inl e)
end

def DGet (H : Hp) (a : Addr) (y : V) (r : Option V) : Prop :=
  (∃ kvs k, Rd H a (.dK kvs) ∧ y = kV k ∧ r = valV kvs k) ∨ ∃ kvs k b, Rd H a (.dT kvs) ∧ y = .ref b ∧ H b = some (.tup (k.map kV)) ∧ r = valV kvs k
def DPut (H : Hp) (a : Addr) (y v : V) (H' : Hp) : Prop :=
  (∃ kvs k, H a = some (.dK kvs) ∧ y = kV k ∧ kvs.length < sizeLine ∧ H' = upd H a (.dK (putK kvs k v))) ∨
  ∃ kvs k b, H a = some (.dT kvs) ∧ y = .ref b ∧ H b = some (.tup (k.map kV)) ∧ kvs.length < sizeLine ∧ H' = upd H a (.dT (putK kvs k v))
theorem DGet.k {H : Hp} {a : Addr} {kvs : List (Key × V)} {k : Key} (e : H a = some (.dK kvs)) : DGet H a (kV k) (valV kvs k) := .inl ⟨kvs, k, .inl e, rfl, rfl⟩
theorem DGet.t {H : Hp} {a b : Addr} {kvs : List (List Key × V)} {k : List Key} (e : H a = some (.dT kvs)) (eb : H b = some (.tup (k.map kV))) : DGet H a (.ref b) (valV kvs k) := .inr ⟨kvs, k, b, .inl e, rfl, eb, rfl⟩
theorem DPut.k {H : Hp} {a : Addr} {kvs : List (Key × V)} {k : Key} {v : V} (e : H a = some (.dK kvs)) (hl : kvs.length < sizeLine) : DPut H a (kV k) v (upd H a (.dK (putK kvs k v))) := .inl ⟨kvs, k, e, rfl, hl, rfl⟩
theorem DPut.t {H : Hp} {a b : Addr} {kvs : List (List Key × V)} {k : List Key} {v : V} (e : H a = some (.dT kvs)) (eb : H b = some (.tup (k.map kV))) (hl : kvs.length < sizeLine) :
    DPut H a (.ref b) v (upd H a (.dT (putK kvs k v))) := .inr ⟨kvs, k, b, e, rfl, eb, hl, rfl⟩


section
variable {X : Cx} {pins : List (Addr × Obj)} {σ : St} {H : Hp} {s : Shared} {a : Addr} {y v : V} {u r : Value} {o : Option V} {A : Around} {E : Value → Shared → Prop}

theorem Inv.big (I : Inv X pins σ H s) : sysModules < s.heap.objs.size := by
  have h : mainGlobals < s.heap.objs.size := (I.mod.glob.keeps I.bk).lt
  exact Nat.lt_trans (by decide) h

theorem d_getItem {Q : Value → Shared → Prop} (hu : A.units + 1 < cLine) (I : Inv X pins σ H s) (g : DGet H a y (some v)) (ry : RelV y u) (h : ∀ w' s', Inv X pins σ H s' → RelV v w' → Q w' s') :
    wpAny (model X.prog X.w) A (getItem (.ref a) u) Q E s := by
  rcases g with ⟨kvs, k, e, ey, l⟩ | ⟨kvs, k, b, e, ey, eb, l⟩
  · subst ey
    obtain ⟨z, hd, vs, rel, dd⟩ := dk_rd I.hok e
    obtain ⟨w', hw, rw'⟩ := RelO.some_of (v := v) (o := valueAt vs k) (by rw [l]; exact rel.val k)
    exact wpAny_getItem_of (kV_is ry) dd.mapOf hw (h w' _ (I.tok _) rw')
  · subst ey
    cases (show u = Value.ref b from ry)
    obtain ⟨z, hd, xs, rel, dd⟩ := dt_rd I.hok e
    obtain ⟨w', hw, rw'⟩ := RelO.some_of (v := v) (o := (atKey xs k).map (·.2)) (by rw [l]; exact rel.val k)
    obtain ⟨p, hp, hp2⟩ := Option.map_eq_some_iff.mp hw
    refine wpAny_getItem_heap (tupleKind_room_in1 hu) (key_of I.hok eb) dd hp ?_
    rw [hp2]
    exact h w' _ (I.tok _) rw'
theorem d_notIn {Q : Value → Shared → Prop} (hu : A.units + 1 < cLine) (I : Inv X pins σ H s) (g : DGet H a y o) (ry : RelV y u) (h : ∀ s', Inv X pins σ H s' → Q (.bool (!o.isSome)) s') :
    wpAny (model X.prog X.w) A (compareOp .NotIn u (.ref a)) Q E s := by
  rcases g with ⟨kvs, k, e, ey, l⟩ | ⟨kvs, k, b, e, ey, eb, l⟩
  · subst ey
    obtain ⟨z, hd, vs, rel, dd⟩ := dk_rd I.hok e
    refine wpAny_notIn_of (kV_is ry) hd dd.mapOf ?_
    rw [← (rel.val k).isSome_eq, ← l]
    exact h _ (I.tok _)
  · subst ey
    cases (show u = Value.ref b from ry)
    obtain ⟨z, hd, xs, rel, dd⟩ := dt_rd I.hok e
    refine wpAny_notIn_heap (tupleKind_room_in1 hu) (key_of I.hok eb) hd dd ?_
    have q := (rel.val k).isSome_eq
    rw [Option.isSome_map] at q
    rw [← q, ← l]
    exact h _ (I.tok _)
theorem d_write {h' : Heap} {t' : Nat} {ob : HO} (I : Inv X pins σ H s) (mu : Mut (H a)) (hs : Heap.SameBut a s.heap h') (he : ∃ q, h'.get? a = some q) (new : ObjOk X.prog X.w (upd H a ob) h' a ob) :
    Inv X pins σ (upd H a ob) { s with heap := h', toks := t' } :=
  I.write (x := a) (e := a) mu (.inl rfl) (fun b q hb z => (hs.2 b hb).trans z) he new
theorem dk_new {P : Program} {w : World} {H' : Hp} {h' : Heap} {kvs : List (Key × V)} {vs : List (Key × Value)} (z : kvs.length ≤ sizeLine) (hd : (a == sysModules) = false) (rel : KV kvs vs) (dd : h'.DictOf (mixKind P w) a vs) :
    ObjOk P w H' h' a (.dK kvs) := ⟨z, hd, vs, rel, dd⟩
theorem d_setItem {H' : Hp} {Q : Unit → Shared → Prop} (hu : A.units + 1 < cLine) (I : Inv X pins σ H s) (g : DPut H a y v H') (ry : RelV y u) (rv : RelV v r) (h : ∀ s', Inv X pins σ H' s' → Q () s') :
    wpAny (model X.prog X.w) A (setItem (.ref a) u r) Q E s := by
  rcases g with ⟨kvs, k, e, ey, l, eH⟩ | ⟨kvs, k, b, e, ey, eb, l, eH⟩
  · subst ey eH
    obtain ⟨z, hd, vs, rel, dd⟩ := dk_of I.hok e
    have hz : vs.length ≤ sizeLine := by rw [← rel.length]; exact z
    have hl : (putK kvs k v).length ≤ sizeLine := by have := length_putK kvs k v; omega
    refine wpAny_setItem_pairs (hsz := hz) (kV_is ry) dd fun h' dd' hs => h _ ?_
    have he : ∃ q, h'.get? a = some q := let ⟨q, _, _, hq, _⟩ := dd'; ⟨q, hq⟩
    exact d_write I (by rw [e]; exact True.intro) hs he (dk_new hl hd (rel.put k rv) dd')
  · subst ey eH
    cases (show u = Value.ref b from ry)
    obtain ⟨z, hd, xs, rel, dd⟩ := dt_of I.hok e
    have hz : xs.length ≤ sizeLine := by rw [← Paired.length rel]; exact z
    have hl : (putK kvs k v).length ≤ sizeLine := by have := length_putK kvs k v; omega
    refine wpAny_setItem_heap (hsz := hz) (tupleKind_room_in1 hu) (key_of I.hok eb) dd fun h' dd' hs => h _ ?_
    obtain ⟨q, es, ep, hq, h2, h3, h4, _, h5⟩ := dd'
    refine d_write I (by rw [e]; exact True.intro) hs ⟨q, hq⟩ ⟨hl, hd, _, (rel.put k eb rv).keeps fun c ys ec => ?_, q, es, ep, hq, h2, h3, h4, h5⟩
    rw [upd_ne (ne_of ec e (fun z => nomatch z))]
    exact ec
end

section
variable {X : Cx} {pins : List (Addr × Obj)} {σ : St} {H : Hp} {s : Shared} {a : Addr} {kvs : List (Key × V)} {k : Key} {u : Value} {A : Around} {E : Value → Shared → Prop}
end


def NoSl (i : Expr) : Prop := ∀ ov iv, subscripted i false ov iv = operate [ov, iv] (getItem ov iv)
theorem subD_of {prog : Program} {w : World} {A : Around} {E : Value → Shared → Prop} {s : Shared} {env : Env} {value slice : Expr} {pos : Pos} {T id : String} {Q : Value → Shared → Prop}
    (hl : typeLookup (.type T) "__getitem__" = pure (some (.builtin id))) (hs : NoSl slice)
    (h : wpAny (model prog w) A (eval value env) (fun o s₁ => wpAny (model prog w) A (eval slice env) (fun i s₂ => s₂.TypeIs o T ∧ wpAny (model prog w) A (getItem o i) Q E s₂) E s₁) E s) :
    wpAny (model prog w) A (eval (.Subscript value slice pos) env) Q E s := by
  refine Subscript_ (wpAny_mono h (fun o s₁ h₁ => wpAny_mono h₁ (fun i s₂ h₂ => ?_) fun _ _ x => x) fun _ _ x => x)
  obtain ⟨hT, h₂⟩ := h₂
  unfold subscriptTail
  refine wpAny_bind ?_
  rw [getitemInPython_of_ne hT.not_modules]
  refine wpAny_bind (wpAny_specialOf hT hl ?_)
  have fin : wpAny (model prog w) A (subscripted slice false o i) (fun r s₃ => wpAny (model prog w) A (letTemporaryGo value o r >>= fun _ => pure r) Q E s₃) E s₂ := by
    rw [hs o i]
    exact wpAny_operating (wpAny_mono h₂ (fun r s₃ h₃ => wpAny_bind (wpAny_letTemporaryGo (wpAny_pure h₃))) fun _ _ x => x)
  first
    | exact wpAny_pure (wpAny_bind fin)
    | exact wpAny_bind (wpAny_pure (wpAny_bind fin))
    | exact wpAny_bind fin

theorem dict_typeIs {X : Cx} {pins : List (Addr × Obj)} {σ : St} {H : Hp} {s : Shared} {a : Addr} {y : V} {o : Option V} (I : Inv X pins σ H s) (g : DGet H a y o) : s.TypeIs (.ref a) "dict" := by
  rcases g with ⟨kvs, k, e, _, _⟩ | ⟨kvs, k, b, e, _, _, _⟩
  · obtain ⟨_, _, vs, _, dd⟩ := dk_rd I.hok e
    exact dd.typeIs
  · obtain ⟨_, _, xs, _, dd⟩ := dt_rd I.hok e
    exact dd.typeIs
def tDGet (td ty : TE) : TE := fun σ H Q => td σ H fun x H1 => ty σ H1 fun y H2 => ∃ a v, x = .ref a ∧ DGet H2 a y (some v) ∧ Q v H2
def tDNotIn (ty td : TE) : TE := fun σ H Q => ty σ H fun y H1 => td σ H1 fun x H2 => ∃ a o, x = .ref a ∧ DGet H2 a y o ∧ Q (.bl (!o.isSome)) H2
def sDPut (td ty tv : TE) : TS := fun D σ H => tv σ H fun v H1 => td σ H1 fun x H2 => ty σ H2 fun y H3 => ∃ a H4, x = .ref a ∧ DPut H3 a y v H4 ∧ D.nx σ H4
section
variable {X : Cx} {o i e value : Expr} {pos pos' tpos : Pos} {td ty tv : TE}
theorem pe_dget (hu : X.A.units + 1 < cLine) (ho : PE X o td) (hi : PE X i ty) (hs : NoSl i) : PE X (.Subscript o i pos) (tDGet td ty) := by
  intro pins s σ H Q I h
  refine subD_of PySem.F.slot_dict_getitem.lookup hs (thn (ho pins s σ H _ I h) fun u s1 ⟨x, H1, I1, rx, q1⟩ => thn (hi pins s1 σ H1 _ I1 q1) fun iv s2 ⟨y, H2, I2, ry, a, v, ex, g, q2⟩ => ?_)
  subst ex
  obtain rfl : u = Value.ref a := rx
  exact ⟨dict_typeIs I2 g, d_getItem hu I2 g ry fun w' s3 I3 rw' => ⟨v, H2, I3, rw', q2⟩⟩
theorem pc_dnotin (hu : X.A.units + 1 < cLine) (hi : PE X i ty) (ho : PE X o td) : PC X .NotIn i o (tDNotIn ty td) := by
  intro pins s σ H Q I h
  refine thn (hi pins s σ H _ I h) fun iv s1 ⟨y, H1, I1, ry, q1⟩ => thn (ho pins s1 σ H1 _ I1 q1) fun u s2 ⟨x, H2, I2, rx, a, ov, ex, g, q2⟩ => ?_
  subst ex
  obtain rfl : u = Value.ref a := rx
  exact d_notIn hu I2 g ry fun s3 I3 => ⟨.bl (!ov.isSome), H2, I3, rfl, q2⟩
theorem ps_dput (hu : X.A.units + 1 < cLine) (ho : PE X o td) (hi : PE X i ty) (hv : PE X value tv) (hs : swapsWith value (some (.Subscript o i pos')) pos.line X.env = pure false) :
    PS X (.Assign [.Subscript o i pos'] value pos) (sDPut td ty tv) := by
  intro pins s σ H D I h
  refine wpAny_Assign_Subscript (thn (hv pins s σ H _ I h) fun r s1 ⟨v, H1, I1, rv, q1⟩ => thn (ho pins s1 σ H1 _ I1 q1) fun u s2 ⟨x, H2, I2, rx, q2⟩ => thn (hi pins s2 σ H2 _ I2 q2) fun iv s3 ⟨y, H3, I3, ry, a, H4, ex, g, q3⟩ => ?_) hs
  subst ex
  obtain rfl : u = Value.ref a := rx
  exact d_setItem hu I3 g ry rv fun s4 I4 => ⟨σ, H4, I4, q3⟩
end


theorem dk_empty {P : Program} {w : World} {H : Hp} (h : Heap) (hb : sysModules < h.objs.size) : ObjOk P w H (h.push { cls := .type "dict", data := .dict #[] }) h.objs.size (.dK []) :=
  ⟨Nat.zero_le _, beq_eq_false_iff_ne.mpr (Ne.symm (Nat.ne_of_lt hb)), [], .nil, Heap.DictOf.new h⟩
section
variable {X : Cx} {pos : Pos}
end

def tPairs : List (TE × TE) → St → Hp → (List (V × V) → Hp → Prop) → Prop
  | [], _, H, Q => Q [] H
  | (tk, tv) :: r, σ, H, Q => tk σ H fun x H1 => tv σ H1 fun y H2 => tPairs r σ H2 fun ps H3 => Q ((x, y) :: ps) H3
abbrev VV : List (V × V) → List (Value × Value) → Prop := Paired fun p q => RelV p.1 q.1 ∧ RelV p.2 q.2
def PPs (X : Cx) (pos : Pos) (keys : List (Option Expr)) (values : List Expr) (trs : List (TE × TE)) : Prop :=
  ∀ (pins : List (Addr × Obj)) (s : Shared) (σ : St) (H : Hp) (Q : List (V × V) → Hp → Prop), Inv X pins σ H s → tPairs trs σ H Q →
    wpAny (model X.prog X.w) X.A (evalPairs (pairTrees keys values X.env pos)) (fun vs s' => ∃ ps H', Inv X pins σ H' s' ∧ VV ps vs ∧ Q ps H') X.xe s
theorem pps_nil {X : Cx} {pos : Pos} : PPs X pos [] [] [] := fun pins s σ H Q I h => pairTrees_nil_walk ⟨[], H, I, .nil, h⟩
theorem pps_cons {X : Cx} {pos : Pos} {k v : Expr} {ks : List (Option Expr)} {vs : List Expr} {tk tv : TE} {trs : List (TE × TE)} (hk : PE X k tk) (hv : PE X v tv) (hr : PPs X pos ks vs trs) :
    PPs X pos (some k :: ks) (v :: vs) ((tk, tv) :: trs) := fun pins s σ H Q I h =>
  pairTrees_cons_walk (thn (hk pins s σ H _ I h) fun u s1 ⟨x, H1, I1, rx, q1⟩ => thn (hv pins s1 σ H1 _ I1 q1) fun w2 s2 ⟨y, H2, I2, ry, q2⟩ =>
    thn (hr pins s2 σ H2 _ I2 q2) fun ws s3 ⟨ps, H3, I3, rel, q3⟩ => ⟨(x, y) :: ps, H3, I3, .cons ⟨rx, ry⟩ rel, q3⟩)

def mergeK (kvs more : List (Key × V)) : List (Key × V) := more.foldl (fun acc kv => putK acc kv.1 kv.2) kvs
theorem KV.merge : ∀ {more : List (Key × V)} {rs : List (Key × Value)} {kvs : List (Key × V)} {vs : List (Key × Value)}, KV more rs → KV kvs vs → KV (mergeK kvs more) (merged vs rs) := by
  intro more rs kvs vs r
  unfold KV at r
  induction r generalizing kvs vs with
  | nil => intro q; exact q
  | @cons p q ps qs h t ih =>
    intro r0
    have e : KV (putK kvs p.1 p.2) (stored vs q.1 q.2) := by
      have := r0.put p.1 h.2
      rw [← h.1]; exact this
    exact ih e
theorem length_mergeK : ∀ (more kvs : List (Key × V)), (mergeK kvs more).length ≤ kvs.length + more.length
  | [], kvs => by show kvs.length ≤ kvs.length + 0; omega
  | p :: r, kvs => by
    have h1 := length_mergeK r (putK kvs p.1 p.2)
    have h2 := length_putK kvs p.1 p.2
    show (mergeK (putK kvs p.1 p.2) r).length ≤ _
    rw [List.length_cons]; omega
theorem carries_of {P : Program} {w : World} : ∀ {kvs : List (Key × V)} {ws : List (Value × Value)}, VV (kvs.map fun kv => (kV kv.1, kv.2)) ws → ∃ rs, Carries (mixKind P w) ws rs ∧ KV kvs rs
  | [], _, r => by rw [List.map_nil] at r; cases r; exact ⟨[], True.intro, .nil⟩
  | p :: kvs, _, r => by
    rw [List.map_cons] at r
    cases r with
    | @cons a b as bs h t =>
      obtain ⟨rs, c, q⟩ := carries_of (P := P) (w := w) t
      obtain ⟨b1, b2⟩ := b
      exact ⟨(p.1, b2) :: rs, ⟨kV_is h.1, rfl, c⟩, .cons ⟨rfl, h.2⟩ q⟩
def tDisp (trs : List (TE × TE)) : TE := fun σ H Q => ∀ p, H p = none → tPairs trs σ (upd H p (.dK [])) fun ps H2 => H2 p = some (.dK []) ∧ ∃ kvs : List (Key × V), ps = kvs.map (fun kv => (kV kv.1, kv.2)) ∧ kvs.length ≤ 15 ∧ Q (.ref p) (upd H2 p (.dK (mergeK [] kvs)))
theorem pe_disp {X : Cx} {pos : Pos} {keys : List (Option Expr)} {values : List Expr} {trs : List (TE × TE)} (h : PPs X pos keys values trs) (hall : keys.all (·.isSome) = true) (hl : keys.length = values.length) (h0 : keys ≠ [])
    (h15 : keys.length ≤ 15) : PE X (.Dict keys values pos) (tDisp trs) := by
  intro pins s σ H Q I q
  have hn := I.hok.fresh (Nat.le_refl s.heap.objs.size)
  have I1 := I.laid (a := s.heap.objs.size) (o := .dK []) (h' := s.heap.push { cls := .type "dict", data := .dict #[] }) (t' := s.toks) (fun _ _ q => Heap.get?_push_of_some _ q) (Nat.le_refl _) (dk_empty s.heap I.big)
  refine wpAny_Dict_walk (knd := mixKind X.prog X.w) hall hl h0 h15 (thn (h pins _ σ _ _ I1 (q _ hn)) fun ws s2 ⟨ps, H2, I2, rel, e, kvs, ep, lk, q2⟩ => ?_)
  subst ep
  obtain ⟨rs, c, rk⟩ := carries_of (P := X.prog) (w := X.w) rel
  obtain ⟨z, hd, vs0, r0, dd⟩ := dk_of I2.hok e
  cases r0
  refine ⟨rs, c, dd, fun h' dd' hs => ⟨.ref s.heap.objs.size, _, ?_, rfl, q2⟩⟩
  have hz : (mergeK [] kvs).length ≤ sizeLine := by
    have h1 := length_mergeK kvs []
    rw [List.length_nil] at h1
    rw [sizeLine_eq]; omega
  have he : ∃ q, h'.get? s.heap.objs.size = some q := let ⟨q, _, _, hq, _⟩ := dd'; ⟨q, hq⟩
  exact d_write I2 (by rw [e]; exact True.intro) hs he (dk_new hz hd (rk.merge .nil) dd')


structure M1 (X : Cx) (o : Expr) (m : Str) (apos : Pos) (e : Expr) (cpos : Pos) : Prop where
  base : attributeBase o m X.env (eval o X.env) = eval o X.env
  few : ((backTo cpos (starEach [e] X.env)).all (fun x => !x.1) && (backToKw cpos (keywordEach [] X.env)).all (fun x => x.1.isSome)
    && decide (([e] : List Expr).length + ([] : List Keyword).length + (if ([] : List Keyword).isEmpty then 0 else 1) < 30)) = true
  line : (apos.endLine == cpos.line) = true
  trees : backTo cpos (starEach [e] X.env) = [(false, eval e X.env)]
structure M2 (X : Cx) (o : Expr) (m : Str) (apos : Pos) (e f : Expr) (cpos : Pos) : Prop where
  base : attributeBase o m X.env (eval o X.env) = eval o X.env
  few : ((backTo cpos (starEach [e, f] X.env)).all (fun x => !x.1) && (backToKw cpos (keywordEach [] X.env)).all (fun x => x.1.isSome)
    && decide (([e, f] : List Expr).length + ([] : List Keyword).length + (if ([] : List Keyword).isEmpty then 0 else 1) < 30)) = true
  line : (apos.endLine == cpos.line) = true
  trees : backTo cpos (starEach [e, f] X.env) = [(false, eval e X.env), (false, eval f X.env)]

section
variable {X : Cx} {pins : List (Addr × Obj)} {σ : St} {H : Hp} {s : Shared} {a : Addr} {y d : V} {u r : Value} {o : Option V} {A : Around} {E : Value → Shared → Prop}
end

section
variable {X : Cx} {o e f : Expr} {apos cpos : Pos} {td ty tx : TE}
end

section
variable {X : Cx} {pins : List (Addr × Obj)} {σ : St} {H : Hp} {s : Shared} {a : Addr} {kvs : List (Key × V)} {A : Around} {E : Value → Shared → Prop}
end


section
variable {X : Cx} {pins : List (Addr × Obj)} {σ : St} {H : Hp} {s : Shared} {a : Addr} {y : V} {u : Value} {A : Around} {E : Value → Shared → Prop}
end
end L2

namespace Att
open PySem PySem.W PySem.Calls PyProof.Rows

theorem ints_of_wellAll {P : Params} {h : Heap} : ∀ (ns : List Int) (vs : List Value), WellAll P h vs (ns.map WData.int) → IntsAre vs ns := by
  intro ns
  induction ns with
  | nil =>
    intro vs w
    rw [List.map_nil] at w
    cases w
    exact .nil
  | cons n ns ih =>
    intro vs w
    rw [List.map_cons] at w
    cases w with
    | cons a b =>
      cases a
      exact .cons _ _ (ih _ b)

theorem script_of {l : OpenLaw} {n : Nat} (hn : l.most = some n) {P : Params} {h : Heap} {args : List WData} {vals : List Value}
    (hpre : l.row.toRowW.claim.pre args = true) (hwl : WellAll P h vals args) :
    ∃ a vs ns, vals = [Value.ref a] ∧ args = [WData.list (ns.map WData.int)] ∧ h.get? a = some { cls := .type "list", data := .seq vs.toArray } ∧ IntsAre vs ns ∧ ns.length ≤ n := by
  have hsh : WShape.hasAll [] args [.list .int] = true := (pre_splitW hpre).1
  have hc : l.pre.holds [] { args := args } = true := (pre_splitW hpre).2
  obtain ⟨d, r, rfl, h1, h2⟩ := hasAllW_cons hsh
  obtain rfl := hasAllW_nil h2
  obtain ⟨xs, rfl, h3⟩ := hasW_list h1
  obtain ⟨ns, rfl⟩ := items_int h3
  have hlen : ns.length ≤ n := by
    unfold OpenLaw.pre at hc
    have h4 : (WTm.not (.lt (.lit (.int (n : Int))) (.len (.arg 0)))).holds [] { args := [.list (ns.map .int)] } = true := by
      have h4 := (holds_andW hc).1
      rw [hn] at h4
      exact h4
    have h5 := condW_of h4 (w_not (w_lt w_lit (w_len_list (w_arg rfl))))
    rw [List.length_map] at h5
    refine Nat.le_of_not_lt fun q => ?_
    have q' : (n : Int) < ((ns.length : Nat) : Int) := by omega
    first
      | (rw [decide_eq_true q'] at h5; exact absurd h5 (by decide))
      | (simp at h5; omega)
  cases hwl with
  | cons w1 w2 =>
    cases w2
    cases w1 with
    | list ho hall => exact ⟨_, _, ns, rfl, rfl, ho, ints_of_wellAll ns _ hall, hlen⟩

theorem post_true (l : OpenLaw) (args : List WData) : l.row.toRowW.claim.post args (.bool true) args = true :=
  postW_of (r := l.row.toRowW) (X := (true == true))
    (show WShape.has [] (.bool true) .bool = true by first | rfl | decide | simp [WShape.has, WShape.arms, WShape.armsAll])
    (show (WTm.eq .res (.lit (.bool true))).value [] { args := args, res := some (.bool true), after := args } = some (.bool (true == true)) from w_eq_bool (w_res rfl) w_lit) rfl

theorem attach_call {l : OpenLaw} {n : Nat} {q : Program} {loose : List Str} {XP : (Str → Option Value) → Heap → Prop} {YP : World → Heap → Prop} {d : DefRec}
    (hn : l.most = some n) (hdf : d.params.defaults = [])
    (call : ∀ (w : World) (s₀ s₁ : Shared) (mg mb : Str → Option Value) (fa : Addr) (o : Obj) (pm cd doc : Value) (a : Addr) (vs : List Value) (ns : List Int),
      Ground q loose [] XP w s₀ mg mb s₁.heap → YP w s₁.heap →
      s₁.heap.get? fa = some o → o.data = .func (docDef d.name d.params d.body d.scope pm cd doc) → s₁.heap.CodeRec cd d.name → mg d.name = some (.ref fa) →
      s₁.heap.get? a = some { cls := .type "list", data := .seq vs.toArray } → IntsAre vs ns → ns.length ≤ n → s₁.gens = #[] →
      codeAny (model l.prog w) callerA (.call (.ref fa) ⟨[.ref a], []⟩) (fun r s' => r = .ok (.ret (.bool true)) ∧ OldK s₁.heap s'.heap ∧ s'.os = s₁.os ∧ AllBare s'.gens) s₁) :
    WalkO q loose XP YP l.row.toRowW d [] (fun f vs => PySem.call f vs) := by
  intro w s₀ s₁ mg mb G Y fa o pm cd doc dV kV ho hd hcd hD hmg hg args vals as hpre hlay hrd hwl hlo
  obtain rfl : dV = .none := Dflts.none hD hdf
  obtain rfl : kV = .none := Dflts.noKw hD
  obtain ⟨a, vs, ns, rfl, rfl, hobj, hints, hlen⟩ := script_of hn hpre hwl
  refine enter_call (codeAny_mono (call w s₀ s₁ mg mb fa o pm cd doc a vs ns G Y ho (fd_plain hd) hcd hmg hobj hints hlen hg) fun r s' hq => ?_)
  obtain ⟨rfl, h2, h3, h4⟩ := hq
  exact ⟨.inl ⟨.bool true, .bool true, [], rfl, fun _ => rfl, .bool true, post_true l _, fun _ => ⟨List.Pairwise.nil, fun _ hm => (nomatch hm)⟩⟩, h2, h3, h4⟩

section
variable {prog : Program} {w : World} {A : Around} {E : Value → Shared → Prop} {s : Shared} {K : Frag}

end
end Att

namespace L2
open PySem PySem.Spec PyProof.Rows

theorem vals_ints : ∀ {vs : List Value} {ns : List Int}, IntsAre vs ns → Vals (ns.map V.int) vs
  | _, _, .nil => .nil
  | _, _, .cons n t h => .cons ⟨t, rfl⟩ (vals_ints h)

def Only (H : Hp) : Prop := ∀ b, H b = none ∨ ∃ o xs, H b = some (.frz o (.lst xs))

theorem law_call {P : Program} {w : World} {K : PySem.W.Frag} {mg mb : Str → Option Value} {CX : CXT} {k : Nat} {fa a : Addr} {fd : FuncData} {x : Str} {sp : Sp} {s₁ : Shared} {vs : List Value} {ns : List Int}
    (KX : K.In s₁.heap) (hns : s₁.heap.Ns mainGlobals mg) (hb : s₁.heap.Ns builtinsNs mb) (hbb : ∀ x : Str, x ≠ "__name__" → mb x = bootBuiltins x) (hlim : s₁.heap.NoLimit) (hg : s₁.gens = #[])
    (ha : s₁.heap.get? a = some { cls := .type "list", data := .seq vs.toArray }) (hi : IntsAre vs ns) (hl : ns.length ≤ sizeLine) (hr : Room k callerA)
    (F : ∀ base : Heap, K.In base → base.Ns mainGlobals mg → FnOk P w K mg base CX k fa fd [x] sp) (hbind : ∀ (s : Shared) (u : Value), BindsTo s fd ⟨[u], []⟩ [(x, u)])
    (hsp : ∀ H : Hp, Only H → SqL K H a (ns.map V.int) → sp [.ref a] H (fun v _ => v = .bl true) fun _ _ _ => False)
    (hCX : ∀ H e s', CX [] H s₁ (fun _ _ _ => False) e s' → False) :
    codeAny (model P w) callerA (.call (.ref fa) ⟨[.ref a], []⟩) (fun r s' => r = .ok (.ret (.bool true)) ∧ OldK s₁.heap s'.heap ∧ s'.os = s₁.os ∧ AllBare s'.gens) s₁ := by
  have rv := vals_ints hi
  have lenV := hi.length
  have core : ∀ H : Hp, Only H → SqL K H a (ns.map V.int) → HOk P w H s₁.heap → (∀ b, H b ≠ none → b = a) → (H a ≠ none → K.lookup a = none) →
      codeAny (model P w) callerA (.call (.ref fa) ⟨[.ref a], []⟩) (fun r s' => r = .ok (.ret (.bool true)) ∧ OldK s₁.heap s'.heap ∧ s'.os = s₁.os ∧ AllBare s'.gens) s₁ := by
    intro H hO hS hok hA hK
    have base_of : ∀ {b : Addr} {o : Obj}, s₁.heap.get? b = some o → H b = none → (hidT s₁.heap H).get? b = some o := fun e n => hidT_get e n
    have noA : ∀ {b : Addr} {o : Obj} {es : Array DictEntry} {ep : Nat}, s₁.heap.get? b = some o → o.data = .dict es ep → H b = none := fun {b o es ep} e d => by
      cases q : H b with
      | none => rfl
      | some u =>
        have e' : b = a := hA b (by rw [q]; simp)
        subst e'
        rw [ha] at e; cases e
        have d' : Data.seq vs.toArray _ = Data.dict es ep := d
        cases d'
    have nsK : ∀ {b : Addr} {m : Str → Option Value}, s₁.heap.Ns b m → (hidT s₁.heap H).Ns b m := fun {b m} ⟨o, es, ep, e, d, r⟩ => ⟨o, es, ep, base_of e (noA e d), d, r⟩
    have hKb : K.In (hidT s₁.heap H) := fun b o e => base_of (KX b o e) (by
      cases q : H b with
      | none => rfl
      | some u =>
        have e' : b = a := hA b (by rw [q]; simp)
        subst e'
        rw [hK (by rw [q]; simp)] at e; cases e)
    have hM : Mod K mg (hidT s₁.heap H) := ⟨hKb, nsK hns, ⟨mb, nsK hb, hbb⟩, let ⟨mc, h1, h2⟩ := hlim; ⟨mc, nsK h1, h2⟩⟩
    have e0 : Env0 P w K mg (hidT s₁.heap H) callerA [] s₁ H := ⟨rfl, hM, fun b o e => of_hidT e, Nat.le_of_eq (hidT_size _ _), trivial, fun b hb => absurd (show b ∈ ([] : List Addr) from hb) (by simp), hok, .of_eq hg⟩
    refine codeAny_mono ((F _ hKb (nsK hns)).run callerA [] s₁ H ⟨[.ref a], []⟩ [.ref a] [.ref a] _ _ hr e0 (hbind s₁ (.ref a)) (.cons rfl .nil) (hsp H hO hS)) fun r s' h => ?_
    cases r with
    | error e => exact (hCX H e s' h).elim
    | ok fl =>
      cases fl with
      | next => exact False.elim h
      | brk => exact False.elim h
      | cont => exact False.elim h
      | ret u =>
        obtain ⟨v, H', os, bare, un, hok', r', q⟩ := h
        have q' : v = .bl true := q
        subst q'
        obtain rfl : u = Value.bool true := r'
        refine ⟨rfl, OldK.of_keep fun b o e => ?_, os, bare⟩
        cases q : H b with
        | none => exact un.keep b o e q (by intro z; exact absurd (show b ∈ ([] : List Addr) from z) (by simp)) (by simp)
        | some u =>
          rcases hO b with z | ⟨ob, xs, z⟩
          · rw [q] at z; cases z
          · have z2 := un.frzs b ob _ z
            obtain ⟨e1, _⟩ := hok b _ z
            obtain ⟨e2, _⟩ := hok' b _ z2
            rw [e] at e1; cases e1
            exact e2
  cases hk : K.lookup a with
  | some o =>
    have e := KX a o hk
    rw [ha] at e
    cases e
    refine core (fun _ => none) (fun _ => .inl rfl) (.inr ⟨_, vs.toArray, _, hk, rfl, rfl, rfl, by rw [List.size_toArray, lenV]; exact hl, by simpa using rv⟩) (fun b u z => by have z' : (none : Option HO) = some u := z; cases z') (fun b z => absurd rfl z) fun z => absurd rfl z
  | none =>
    refine core (fun b => if b = a then some (.frz { cls := .type "list", data := .seq vs.toArray } (.lst (ns.map V.int))) else none) (fun b => ?_) (.inl (.inr ⟨{ cls := .type "list", data := .seq vs.toArray }, if_pos rfl⟩)) (fun b u z => ?_) (fun b z => ?_) fun _ => hk
    · by_cases hb : b = a
      · exact .inr ⟨_, _, if_pos hb⟩
      · exact .inl (if_neg hb)
    · by_cases hb : b = a
      · have z' := (if_pos hb).symm.trans z
        cases z'
        subst hb
        exact ⟨ha, by rw [List.length_map]; exact hl, vs, _, rv, ha⟩
      · have z' := (if_neg hb).symm.trans z
        cases z'
    · by_cases hb : b = a
      · exact hb
      · exact absurd (if_neg hb) z
end L2

namespace L2
open PySem PySem.Spec PyProof.Rows

theorem walk_of {l : PySem.W.OpenLaw} {n k : Nat} {q : Program} {loose : List Str} {XP : (Str → Option Value) → Heap → Prop} {YP : World → Heap → Prop} {d : DefRec} {K : Params → PySem.W.Frag} {CX : World → CXT} {sp : World → Sp} {x : Str}
    (hn : l.most = some n) (hn2 : n ≤ sizeLine) (hdf : d.params.defaults = []) (hr : Room k callerA)
    (hY : ∀ (w : World) (h : Heap), YP w h → (K w.params).In h)
    (F : ∀ (w : World) (mg : Str → Option Value) (fa : Addr) (h : Heap), (K w.params).In h → h.Ns mainGlobals mg → mg d.name = some (.ref fa) →
      ∃ fd : FuncData, (∀ (s : Shared) (u : Value), BindsTo s fd ⟨[u], []⟩ [(x, u)]) ∧
        ∀ base : Heap, (K w.params).In base → base.Ns mainGlobals mg → FnOk l.prog w (K w.params) mg base (CX w) k fa fd [x] (sp w))
    (hsp : ∀ (w : World) (H : Hp) (a : Addr) (ns : List Int), ns.length ≤ n → Only H → SqL (K w.params) H a (ns.map V.int) → sp w [.ref a] H (fun v _ => v = .bl true) fun _ _ _ => False)
    (hCX : ∀ (w : World) (H : Hp) (s : Shared) (e : Value) (s' : Shared), CX w [] H s (fun _ _ _ => False) e s' → False) :
    PySem.W.WalkO q loose XP YP l.row.toRowW d [] (fun f vs => PySem.call f vs) := by
  refine Att.attach_call hn hdf fun w s₀ s₁ mg mb fa o pm cd doc a vs ns G Y ho hd hcd hmg hobj hints hlen hg => ?_
  have KX := hY w _ Y
  obtain ⟨fd, hb, hF⟩ := F w mg fa _ KX G.T.g hmg
  exact law_call KX G.T.g G.T.b G.T.builtins G.T.nolimit hg hobj hints (Nat.le_trans hlen hn2) hr hF hb (fun H hO hS => hsp w H a ns hlen hO hS) fun H e s' => hCX w H s₁ e s'
end L2



namespace L2
open PySem PySem.Spec PyProof.Rows

def defArgs (s : Stmt) : Arguments := match s with
  | .FunctionDef _ a _ _ _ _ _ _ _ _ => a
  | _ => { posonlyargs := [], args := [], vararg := none, kwonlyargs := [], kw_defaults := [], kwarg := none, defaults := [] }
def defBody (s : Stmt) : List Stmt := match s with
  | .FunctionDef _ _ b _ _ _ _ _ _ _ => b
  | _ => []
def defScope (s : Stmt) : Scope := match s with
  | .FunctionDef _ _ _ _ _ _ sc _ _ _ => sc
  | _ => { kind := .function, names := [], isGenerator := false, isCoroutine := false }

abbrev CX0 : CXT := fun _ _ _ _ _ _ => False
abbrev E0 : XK := fun _ _ _ => False
theorem pass0 {X : Cx} : Passes CX0 X E0 := fun _ _ _ _ _ _ _ h => h.elim

structure Fun (K : PySem.W.Frag) (x qual : Str) (st : Stmt) (f : Addr) (fd : FuncData) : Prop where
  ex : ∃ (oc : Value) (od : Option Addr) (kV doc pm : Value) (an : Option Addr) (cdv ct : Value) (osl : Array (Option Value)),
    fd = PySem.W.fnOf x qual (defArgs st) (defBody st) (defScope st) .none kV doc pm an cdv ct ∧ K.lookup f = some ⟨oc, od, .func fd, osl⟩ ∧ PySem.W.codeIn K cdv qual = true
  kp : PySem.W.keepIn K (.ref f) = true
section
variable {P : Program} {w : World} {K : PySem.W.Frag} {mg : Str → Option Value} {base : Heap}
theorem Fun.ok {x qual : Str} {st : Stmt} {f : Addr} {fd : FuncData} {N ps : List Str} {k : Nat} {sp : Sp} (F : Fun K x qual st f fd) (S : FnScope N ps (defScope st)) (len : ∀ vs H Q E, sp vs H Q E → vs.length = ps.length)
    (hbody : ∀ (cdv : Value) (A : Around) (outer : List Env) (s : Shared) (H : Hp) (vs : List V) (Q : VK) (E : XK), Room k (A.deeper (envOfC qual (defScope st) s.heap.objs.size f cdv)) → sp vs H Q E →
      ∃ t, PSs (cxOf CX0 P w K mg base N qual (defScope st) f cdv A outer s H E).nox (defBody st) t ∧ t { nx := fun _ H' => Q .non H', rt := Q } (start N vs) H) : FnOk P w K mg base CX0 (k + 1) f fd ps sp := by
  obtain ⟨oc, od, kV, doc, pm, an, cdv, ct, osl, rfl, lk, hcd⟩ := F.ex
  refine fn_of lk hcd S len fun A outer s H vs Q E hr hsp => ?_
  obtain ⟨t, h, q⟩ := hbody cdv A outer s H vs Q E hr hsp
  exact ⟨t, h.nox, q⟩
theorem Fun.binds {x qual : Str} {st : Stmt} {f : Addr} {fd : FuncData} {ps : List Str} (F : Fun K x qual st f fd)
    (h : ∀ (kV doc pm : Value) (an : Option Addr) (cdv ct : Value) (us : List Value), us.length = ps.length → bindArgs (PySem.W.fnOf x qual (defArgs st) (defBody st) (defScope st) .none kV doc pm an cdv ct) ⟨us, []⟩ = pure (ps.zip us)) : Binds K fd ps [] := by
  obtain ⟨oc, od, kV, doc, pm, an, cdv, ct, osl, rfl, lk, hcd⟩ := F.ex
  exact .all (h kV doc pm an cdv ct)
theorem fun_mk {x qual : Str} {st : Stmt} {f : Addr} {oc : Value} {od an : Option Addr} {osl : Array (Option Value)} {kV doc pm cdv ct : Value} (l : K.lookup f = some ⟨oc, od, .func (PySem.W.fnOf x qual (defArgs st) (defBody st) (defScope st) .none kV doc pm an cdv ct), osl⟩)
    (c : PySem.W.codeIn K cdv qual = true) (k : PySem.W.keepIn K (.ref f) = true) : Fun K x qual st f (PySem.W.fnOf x qual (defArgs st) (defBody st) (defScope st) .none kV doc pm an cdv ct) := ⟨⟨oc, od, kV, doc, pm, an, cdv, ct, osl, rfl, l, c⟩, k⟩
end
theorem hu_of {A : Around} {k : Nat} (hr : Room k A) : A.units + 1 < cLine := Nat.lt_of_le_of_lt (Nat.add_le_add_left (by decide : 1 ≤ 64) _) hr.units
section
variable {X : Cx}
theorem pv (i : Nat) {x : Str} {pos : Pos} (hN : X.N[i]? = some x := by rfl) (hv : Vis X.env.scope x := by first | exact Or.inl rfl | exact Or.inr (Or.inl rfl) | exact Or.inr (Or.inr rfl)) (hd : (x == ("__debug__" : Str)) = false := by decide)
    (hcd : (x == ("__classdict__" : Str)) = false := by decide) : PE X (.Name x pos) (tVar i) := pe_var hN hv hd hcd
end

theorem iteF {A B : Prop} (h : B) : if false = true then A else B := by
  rw [if_neg Bool.false_ne_true]
  exact h
theorem iteT {A B : Prop} (h : A) : if true = true then A else B := by
  rw [if_pos rfl]
  exact h
theorem ite2 {c A B : Prop} [Decidable c] (h1 : c → A) (h2 : ¬ c → B) : if c then A else B := by
  by_cases h : c
  · rw [if_pos h]
    exact h1 h
  · rw [if_neg h]
    exact h2 h
theorem iteNS {c A B : Prop} [Decidable c] (hc : c) (h : B) : if (!decide c) = true then A else B := by
  rw [decide_eq_true hc]
  exact iteF h

def Same (H H' : Hp) : Prop := ∀ b o, H b = some o → H' b = some o
theorem Same.refl (H : Hp) : Same H H := fun _ _ h => h
theorem Same.trans {H H1 H2 : Hp} (a : Same H H1) (b : Same H1 H2) : Same H H2 := fun c o h => b c o (a c o h)
theorem Same.free {H H' : Hp} (e : Same H H') {l : Addr} (h : H' l = Option.none) : H l = Option.none := by
  cases q : H l with
  | none => rfl
  | some o =>
    rw [e l o q] at h
    cases h
theorem Same.seq {K : PySem.W.Frag} {H H' : Hp} {a : Addr} {xs : List V} (e : Same H H') (h : SqL K H a xs) : SqL K H' a xs := by
  rcases h with (h | ⟨o, h⟩) | h
  · exact .inl (.inl (e _ _ h))
  · exact .inl (.inr ⟨o, e _ _ h⟩)
  · exact .inr h

end L2

namespace L2
open PySem PySem.Spec PyProof.Rows
section
variable {X : Cx}
end
end L2

namespace L2
open PySem PySem.Spec PyProof.Rows
section
variable {κ : Type} [DecidableEq κ]
end
end L2


namespace L2
open PySem PySem.Spec PyProof.Rows
set_option maxHeartbeats 4000000

section
variable {prog : Program} {w : World} {A : Around} {R : Result → Shared → Prop} {s : Shared}
noncomputable def passAll (env : Env) (ifs : List Expr) : Sem Bool := forIn ifs true fun c r => ite (r = true) (isTrue c env (eval c env) >>= fun b => pure (.yield b)) (pure (.yield r))
noncomputable def oneTurn (ip : Pos) (tg : Expr) (ifs : List Expr) (it : Value) (env : Env) (em : Sem Unit) (next : Code) : Sem Fin :=
  standAt ip >>= fun _ => pyNext it >>= fun r => match r with
    | none => pure (.done .next)
    | some v => letOwnedTupleGo tg it v >>= fun _ => assign tg env v >>= fun _ => passAll env ifs >>= fun ok => ite (ok = true) (em >>= fun _ => again next) (again next)
def turnEnd (M : Model) (A : Around) (tg : Expr) (ifs : List Expr) (it : Value) (env : Env) (em : Sem Unit) (fin : Shared → Prop) (less : Shared → Prop) : Option Value → Shared → Prop
  | none, s => fin s
  | some v, s => wpAny M A (letOwnedTupleGo tg it v) (fun _ s => wpAny M A (assign tg env v) (fun _ s => wpAny M A (passAll env ifs) (fun ok s => if ok = true then wpAny M A em (fun _ s => less s) (fun _ _ => False) s else less s) (fun _ _ => False) s) (fun _ _ => False) s) (fun _ _ => False) s
theorem compLoop_gen {elt target iter : Expr} {ifs : List Expr} {scope : Scope} {pos : Pos} {it acc : Value} {env : Env} (I : Nat → Shared → Prop)
    (turn : ∀ k t, I k t → wpAny (model prog w) A (pyNext it) (turnEnd (model prog w) A target ifs it env (eval elt env >>= fun x => call (.builtin "list.append") [acc, x] >>= fun _ => pure ()) (R (.ok .next)) fun t => ∃ m, m < k ∧ I m t) (fun _ _ => False) t)
    (n : Nat) (h : I n s) : codeAny (model prog w) A (.compLoop (.ListComp elt [⟨target, iter, ifs, 0⟩] scope pos) 0 it acc env) R s := by
  have no : ∀ {Z : Value → Shared → Prop} (e : Value) (t : Shared), False → Z e t := fun _ _ f => f.elim
  refine codeAny_loop rfl I (fun k t hk => wpAny_noted (m := oneTurn iter.pos target ifs it env (eval elt env >>= fun x => call (.builtin "list.append") [acc, x] >>= fun _ => pure ()) (.compLoop (.ListComp elt [⟨target, iter, ifs, 0⟩] scope pos) 0 it acc env)) ?_) n h
  refine wpAny_bind (wpAny_standAt (wpAny_bind (wpAny_mono (turn k t hk) (fun r t1 p => ?_) no)))
  match r, p with
  | none, p => exact wpAny_pure p
  | some v, p =>
    refine wpAny_bind (wpAny_mono p (fun _ t2 p => wpAny_bind (wpAny_mono p (fun _ t3 p => wpAny_bind (wpAny_mono p (fun ok t4 p => ?_) no)) no)) no)
    match ok, p with
    | false, p => exact wpAny_pure ⟨rfl, p⟩
    | true, p => exact wpAny_bind (wpAny_mono p (fun _ t5 p => wpAny_pure ⟨rfl, p⟩) no)
end

theorem closure_loop (env : Env) : ∀ (names : List (Str × NameKind)) (acc : List (Str × Addr)), (∀ y ∈ names, y.2 = .free → ∃ c, env.cells.lookup y.1 = some c) →
    ∃ cl : List (Str × Addr), (forIn names acc (fun (y : Str × NameKind) (cs : List (Str × Addr)) => (if (y.2 == NameKind.free) = true then (do let c ← cellOf env y.1; pure (ForInStep.yield ((y.1, c) :: cs))) else pure (ForInStep.yield cs) : Sem (ForInStep (List (Str × Addr))))) : Sem (List (Str × Addr))) = pure cl ∧
      (∀ x c, (x, c) ∈ cl → (x, c) ∈ acc ∨ (env.cells.lookup x = some c ∧ (x, NameKind.free) ∈ names)) ∧ (∀ p ∈ acc, p ∈ cl) ∧ (∀ y ∈ names, y.2 = .free → ∃ c, (y.1, c) ∈ cl)
  | [], acc, _ => ⟨acc, rfl, fun _ _ h => .inl h, fun _ h => h, fun _ h => nomatch h⟩
  | (n, k) :: r, acc, h => by
    by_cases hk : k = .free
    · subst hk
      obtain ⟨c, hc⟩ := h (n, .free) List.mem_cons_self rfl
      obtain ⟨cl, e, h1, h2, h3⟩ := closure_loop env r ((n, c) :: acc) fun y hy => h y (List.mem_cons_of_mem _ hy)
      refine ⟨cl, ?_, fun x d hd => ?_, fun p hp => h2 p (List.mem_cons_of_mem _ hp), fun y hy hf => ?_⟩
      · rw [List.forIn_cons]
        have : (cellOf env n : Sem Addr) = pure c := by unfold cellOf; rw [hc]
        simp only [beq_self_eq_true, if_true, this, pure_bind]
        exact e
      · rcases h1 x d hd with z | ⟨z, z'⟩
        · rcases List.mem_cons.mp z with z | z
          · cases z; exact .inr ⟨hc, List.mem_cons_self⟩
          · exact .inl z
        · exact .inr ⟨z, List.mem_cons_of_mem _ z'⟩
      · rcases List.mem_cons.mp hy with z | z
        · subst z; exact ⟨c, h2 _ List.mem_cons_self⟩
        · exact h3 y z hf
    · obtain ⟨cl, e, h1, h2, h3⟩ := closure_loop env r acc fun y hy => h y (List.mem_cons_of_mem _ hy)
      have hb : (k == NameKind.free) = false := by simpa using hk
      refine ⟨cl, ?_, fun x d hd => ?_, h2, fun y hy hf => ?_⟩
      · rw [List.forIn_cons]
        simp only [hb, Bool.false_eq_true, if_false, pure_bind]
        exact e
      · rcases h1 x d hd with z | ⟨z, z'⟩
        · exact .inl z
        · exact .inr ⟨z, List.mem_cons_of_mem _ z'⟩
      · rcases List.mem_cons.mp hy with z | z
        · subst z; exact absurd hf hk
        · exact h3 y z hf
theorem lookup_of_mem {β : Type} : ∀ {l : List (Str × β)} {x : Str} {c : β}, (x, c) ∈ l → ∃ d, l.lookup x = some d ∧ (x, d) ∈ l
  | (n, k) :: r, x, c, h => by
    cases hx : x == n with
    | true =>
      refine ⟨k, by simp only [List.lookup_cons, hx], ?_⟩
      rw [eq_of_beq hx]; exact List.mem_cons_self
    | false =>
      rcases List.mem_cons.mp h with z | z
      · cases z; simp at hx
      · obtain ⟨d, e, m⟩ := lookup_of_mem z
        exact ⟨d, by simp only [List.lookup_cons, hx]; exact e, List.mem_cons_of_mem _ m⟩
theorem closure_is {scope : Scope} {env : Env} (h : ∀ y ∈ scope.names, y.2 = .free → ∃ c, env.cells.lookup y.1 = some c) :
    ∃ cl : List (Str × Addr), closureFor scope env = pure cl ∧ (∀ x c, cl.lookup x = some c → env.cells.lookup x = some c) ∧ (∀ y ∈ scope.names, y.2 = .free → ∃ c, cl.lookup y.1 = some c) := by
  obtain ⟨cl, e, h1, _, h3⟩ := closure_loop env scope.names [] h
  refine ⟨cl, ?_, fun x c hx => ?_, fun y hy hf => ?_⟩
  · unfold closureFor
    rw [← e]
    simp only [bind_pure]
  · rcases h1 x c (PySem.mem_of_lookup hx) with z | ⟨z, _⟩
    · exact nomatch z
    · exact z
  · obtain ⟨c, hc⟩ := h3 y hy hf
    obtain ⟨d, e, _⟩ := lookup_of_mem hc
    exact ⟨d, e⟩

def compCx (X : Cx) (N : List Str) (scope : Scope) (cl : List (Str × Addr)) (C : Addr) (s₀ : Shared) (H₀ : Hp) (fp : List Addr) : Cx where
  prog := X.prog
  w := X.w
  K := X.K
  mg := X.mg
  base := X.base
  A := X.A
  N := N
  s₀ := s₀
  H₀ := H₀
  env := compEnvC scope cl C X.env
  outer := X.stack
  stack := X.stack
  ex := fp
  fn := fun _ => false
  calm := X.calm
  pn := []
  xe := fun _ _ => False

def cOk (oN : List Str) (on : List (Str × NameKind)) (N : List Str) (pick : List (Option Nat)) (scope : Scope) : Bool :=
  decide (scope.kind = .function) && scope.names.all (fun y => y.2 != .cell) && scope.names.all (fun y => y.2 != .local || scope.names.lookup y.1 == some .local)
    && scope.names.all (fun y => y.2 != .free || (scope.names.lookup y.1 == some .free && (on.lookup y.1 == some .cell || on.lookup y.1 == some .free)))
    && pick.length == N.length && (N.zip pick).all (fun p => match p.2 with | none => true | some j => oN[j]? == some p.1 && scope.names.lookup p.1 == some .free)

structure CScope (X : Cx) (N : List Str) (pick : List (Option Nat)) (scope : Scope) : Prop where
  kind : scope.kind = .function
  nocell : ∀ y ∈ scope.names, y.2 ≠ .cell
  names : ∀ y ∈ scope.names, y.2 = .local → scope.names.lookup y.1 = some .local
  fre : ∀ y ∈ scope.names, y.2 = .free → scope.names.lookup y.1 = some .free ∧ (X.env.kindOf y.1 = some .cell ∨ X.env.kindOf y.1 = some .free)
  len : pick.length = N.length
  caps : ∀ (i j : Nat) (x : Str), N[i]? = some x → pick[i]? = some (some j) → X.N[j]? = some x ∧ scope.names.lookup x = some .free
theorem CScope.of {X : Cx} {N : List Str} {pick : List (Option Nat)} {scope : Scope} (h : cOk X.N X.env.scope.names N pick scope = true) : CScope X N pick scope := by
  unfold cOk at h
  simp only [Bool.and_eq_true, decide_eq_true_eq] at h
  obtain ⟨⟨⟨⟨⟨h1, h2⟩, h3⟩, h4⟩, h5⟩, h6⟩ := h
  refine ⟨h1, fun y hy => ?_, fun y hy hl => ?_, fun y hy hf => ?_, by simpa using h5, fun i j x e1 e2 => ?_⟩
  · simpa using List.all_eq_true.mp h2 y hy
  · have := List.all_eq_true.mp h3 y hy
    rw [hl] at this
    simpa using this
  · have := List.all_eq_true.mp h4 y hy
    rw [hf] at this
    simp at this
    exact ⟨this.1, this.2⟩
  · have hz : (N.zip pick)[i]? = some (x, some j) := by rw [List.getElem?_zip_eq_some]; exact ⟨e1, e2⟩
    have := List.all_eq_true.mp h6 _ (List.mem_of_getElem? hz)
    simpa using this

theorem lookup_kinds (f : Str → NameKind → NameKind) : ∀ (names : List (Str × NameKind)) (x : Str), (names.map fun y => (y.1, f y.1 y.2)).lookup x = (names.lookup x).map (f x)
  | [], _ => rfl
  | (n, k) :: r, x => by
    rw [List.map_cons, List.lookup_cons, List.lookup_cons, lookup_kinds f r x]
    by_cases e : x = n
    · subst e; rw [beq_self_eq_true]; rfl
    · rw [beq_false_of_ne e]
def kindIn (env : Env) (n : Str) (k : NameKind) : NameKind := if (k == NameKind.free && env.scope.kind == .function && env.kindOf n == some .cell) then .cell else k
theorem relabel_kinds (env : Env) (names : List (Str × NameKind)) (x : Str) :
    (names.map fun (n, k) => if (k == NameKind.free && env.scope.kind == .function && env.kindOf n == some .cell) then (n, NameKind.cell) else (n, k)).lookup x = (names.lookup x).map (kindIn env x) := by
  rw [← lookup_kinds (kindIn env)]
  congr 2
  funext y
  show ite _ _ _ = (y.1, ite _ _ _)
  split <;> rfl
theorem lookup_relabel_free {env : Env} {names : List (Str × NameKind)} {x : Str} (h : names.lookup x = some .free) :
    (names.map fun (n, k) => if (k == NameKind.free && env.scope.kind == .function && env.kindOf n == some .cell) then (n, NameKind.cell) else (n, k)).lookup x = some .cell ∨
    (names.map fun (n, k) => if (k == NameKind.free && env.scope.kind == .function && env.kindOf n == some .cell) then (n, NameKind.cell) else (n, k)).lookup x = some .free := by
  rw [relabel_kinds, h]
  show some (ite _ _ _) = _ ∨ some (ite _ _ _) = _
  split
  · exact .inl rfl
  · exact .inr rfl
theorem lookup_relabel_other {env : Env} {q : NameKind} (hq : q ≠ .free) {names : List (Str × NameKind)} {x : Str} (h : names.lookup x = some q) :
    (names.map fun (n, k) => if (k == NameKind.free && env.scope.kind == .function && env.kindOf n == some .cell) then (n, NameKind.cell) else (n, k)).lookup x = some q := by
  rw [relabel_kinds, h]
  show some (ite _ _ _) = _
  rw [beq_false_of_ne hq]
  rfl
theorem relabel_free_of {env : Env} : ∀ {names : List (Str × NameKind)} {x : Str}, (∀ y ∈ names, y.2 ≠ .cell) →
    ((names.map fun (n, k) => if (k == NameKind.free && env.scope.kind == .function && env.kindOf n == some .cell) then (n, NameKind.cell) else (n, k)).lookup x = some .cell ∨
    (names.map fun (n, k) => if (k == NameKind.free && env.scope.kind == .function && env.kindOf n == some .cell) then (n, NameKind.cell) else (n, k)).lookup x = some .free) → (x, NameKind.free) ∈ names
  | [], _, _, h => by simp at h
  | (n, k) :: r, x, hc, h => by
    have ih := @relabel_free_of env r x fun y hy => hc y (List.mem_cons_of_mem _ hy)
    have h' : List.lookup x ((if (k == NameKind.free && env.scope.kind == .function && env.kindOf n == some .cell) = true then (n, NameKind.cell) else (n, k)) :: r.map fun (n, k) => if (k == NameKind.free && env.scope.kind == .function && env.kindOf n == some .cell) then (n, NameKind.cell) else (n, k)) = some .cell ∨ List.lookup x ((if (k == NameKind.free && env.scope.kind == .function && env.kindOf n == some .cell) = true then (n, NameKind.cell) else (n, k)) :: r.map fun (n, k) => if (k == NameKind.free && env.scope.kind == .function && env.kindOf n == some .cell) then (n, NameKind.cell) else (n, k)) = some .free := h
    by_cases hk : k = .free
    · cases hx : x == n with
      | true => rw [eq_of_beq hx, hk]; exact List.mem_cons_self
      | false =>
        refine List.mem_cons_of_mem _ (ih ?_)
        by_cases hcc : (k == NameKind.free && env.scope.kind == .function && env.kindOf n == some .cell) = true
        · rw [if_pos hcc] at h'; simpa only [List.lookup_cons, hx] using h'
        · rw [if_neg hcc] at h'; simpa only [List.lookup_cons, hx] using h'
    · have hb : (k == NameKind.free) = false := by simpa using hk
      rw [if_neg (by simp [hb])] at h'
      cases hx : x == n with
      | true =>
        simp only [List.lookup_cons, hx] at h'
        rcases h' with z | z
        · exact absurd (Option.some.inj z) (hc (n, k) List.mem_cons_self)
        · exact absurd (Option.some.inj z) hk
      | false => exact List.mem_cons_of_mem _ (ih (by simpa only [List.lookup_cons, hx] using h'))

theorem vis_comp {scope : Scope} {env : Env} {x : Str} (h : scope.names.lookup x = some .local ∨ scope.names.lookup x = some .free) : Vis (relabel scope env) x := by
  rcases h with h | h
  · exact .inl (lookup_relabel_other (by decide) h)
  · rcases lookup_relabel_free (env := env) h with z | z
    · exact .inr (.inl z)
    · exact .inr (.inr z)
section
variable {X : Cx} {N : List Str} {scope : Scope} {cl : List (Str × Addr)} {C : Addr} {s₀ : Shared} {H₀ : Hp} {fp : List Addr}
theorem pvc (i : Nat) {x : Str} {pos : Pos} (hN : N[i]? = some x := by rfl) (hv : scope.names.lookup x = some .local ∨ scope.names.lookup x = some .free := by first | exact Or.inl rfl | exact Or.inr rfl)
    (hd : (x == ("__debug__" : Str)) = false := by decide) (hcd : (x == ("__classdict__" : Str)) = false := by decide) : PE (compCx X N scope cl C s₀ H₀ fp) (.Name x pos) (tVar i) :=
  pe_var (X := compCx X N scope cl C s₀ H₀ fp) hN (vis_comp hv) hd hcd
theorem glc {x : Str} (h : scope.names.lookup x = some .globalImplicit) : Gl (compCx X N scope cl C s₀ H₀ fp) x := lookup_relabel_other (by decide) h
theorem pgc {i : Nat} {x : Str} {pos : Pos} (hN : N.Nodup) (hi : N[i]? = some x) (hx : scope.names.lookup x = some .local) : PG (compCx X N scope cl C s₀ H₀ fp) (.Name x pos) (gName i) :=
  pg_name (X := compCx X N scope cl C s₀ H₀ fp) hN hi (.inl (lookup_relabel_other (by decide) hx)) (.inr (lookup_relabel_other (by decide) hx))
end

def PIfs (X : Cx) (ifs : List Expr) (t : TT) : Prop :=
  ∀ (pins : List (Addr × Obj)) (s : Shared) (σ : St) (H : Hp) (Q : Bool → Hp → Prop), Inv X pins σ H s → t σ H Q →
    wpAny (model X.prog X.w) X.A (passAll X.env ifs) (TP X pins σ Q) X.xe s
def tNoIf : TT := fun _ H Q => Q true H
theorem pif_nil {X : Cx} : PIfs X [] tNoIf := fun _ _ _ H _ I h => wpAny_tests_nil ⟨H, I, h⟩
theorem pif_one {X : Cx} {c : Expr} {t : TT} (h : PT X c t) : PIfs X [c] t := fun pins s σ H Q I q => wpAny_tests_one (h pins s σ H Q I q)

def LcGoal (J : It) (g : TG) (tt : TT) (te : TE) (D : Addr) (τ0 : St) (Q : VK) (H1 : Hp) : Prop := ∃ W : Nat → Nat → St → List V → Hp → Prop,
  (∃ m, W 0 m τ0 [] (upd H1 D (.lst []))) ∧ ∀ i m τ ys H, W i m τ ys H →
    (J.stop i H ∧ Q (.ref D) H) ∨ (J.go i H ∧ ∀ x H', J.yld i H x H' → g x τ H' fun τ2 H2 => tt τ2 H2 fun b H3 => if b = true then te τ2 H3 fun v H4 => H4 D = some (.lst ys) ∧ ys.length < sizeLine ∧ ∃ m', m' < m ∧ W (i + 1) m' τ2 (ys ++ [v]) (upd H4 D (.lst (ys ++ [v])))
      else ∃ m', m' < m ∧ W (i + 1) m' τ2 ys H3)
def tLc (pick : List (Option Nat)) (wi : TI) (g : TG) (tt : TT) (te : TE) : TE := fun σ H Q => wi σ H fun J H1 => ∀ D, H1 D = none → LcGoal J g tt te D (pick.map fun o => o.bind fun j => (σ[j]?).join) Q H1

section
variable {X : Cx} {N : List Str} {pick : List (Option Nat)} {scope : Scope} {pins : List (Addr × Obj)} {σ : St} {s s3 : Shared} {H H3 : Hp}

theorem comp_start {cl : List (Str × Addr)} {fp : List Addr} {h₁ : Heap} {tk : Nat} (S : CScope X N pick scope) (I3 : Inv X pins σ H3 s3) (hf : ∀ b ∈ fp, FpOk X pins H3 b) (hlt : ∀ b ∈ fp, b < s3.heap.objs.size)
    (c1 : ∀ x c, cl.lookup x = some c → X.env.cells.lookup x = some c) (c2 : ∀ y ∈ scope.names, y.2 = .free → ∃ c, cl.lookup y.1 = some c)
    (hns : h₁.Ns s3.heap.objs.size (fun x => ([] : List (Str × Value)).reverse.lookup x)) (hk : ∀ b o, s3.heap.get? b = some o → h₁.get? b = some o) :
    Inv (compCx X N scope cl s3.heap.objs.size s3 H3 fp) [] (pick.map fun o => o.bind fun j => (σ[j]?).join) H3 { s3 with heap := h₁, toks := tk } := by
  have fsub : ∀ b ∈ frs X.stack, b ∈ X.env.locals :: X.fs := I3.stkSub
  refine ⟨⟨I3.ok.mod, S.kind, I3.ok.glob, I3.ok.blt, Nat.le_refl _, fun x y c e1 e2 => I3.ok.inj x y c (c1 x c e1) (c1 y c e2), fun x hx => ?_, fun x c z _ => (by cases z), I3.ok.hd, I3.ok.frames, .inl rfl, fun b hb => ⟨Nat.ne_of_lt (hlt b hb), fun x c e => (hf b hb).2.2.2.2.1 x c (c1 x c e)⟩,
      I3.bs, Nat.le_trans I3.ok.bsz I3.sz, fun b o e hb => ?_, fun b hb hm => ?_, I3.stack, I3.stkFree⟩,
    rfl, I3.bare, Un.kept hk, ⟨_, hns, fun i x v e1 e2 e3 => ?_⟩, fun x c e => ?_, I3.hok.fresh (Nat.le_refl _), fun x c e => I3.freeC x c (c1 x c e), fun p hp => absurd (show p ∈ ([] : List (Addr × Obj)) from hp) (by simp), I3.hok.kept hk, ?_⟩
  · exact c2 _ (relabel_free_of S.nocell hx) rfl
  · rcases (hf b hb).2.2.2.1 with z | z
    · exact I3.ok.noex b o e z
    · exact absurd (Nat.lt_of_lt_of_le (Heap.lt_size e) (Nat.le_trans I3.ok.bsz z)) (Nat.lt_irrefl _)
  · rcases List.mem_cons.mp (fsub b hm) with z | z
    · exact (hf b hb).2.1 z
    · exact (hf b hb).2.2.1 z
  · -- a captured name
    have e2' : ∃ j, pick[i]? = some (some j) ∧ σ[j]? = some (some v) := by
      rw [List.getElem?_map] at e2
      cases q : pick[i]? with
      | none => rw [q] at e2; cases e2
      | some o =>
        rw [q] at e2
        cases o with
        | none => simp at e2
        | some j =>
          simp at e2
          refine ⟨j, rfl, ?_⟩
          cases q2 : σ[j]? with
          | none => rw [q2] at e2; cases e2
          | some w' => rw [q2] at e2; simp at e2; rw [e2]
    obtain ⟨j, ej, ev⟩ := e2'
    obtain ⟨hN, hfr⟩ := S.caps i j x e1 ej
    have hmem : (x, NameKind.free) ∈ scope.names := PySem.mem_of_lookup hfr
    obtain ⟨_, hkind⟩ := S.fre _ hmem rfl
    obtain ⟨m, hn, hl⟩ := I3.loc
    obtain ⟨u, r, l⟩ := hl j x v hN ev (hkind.elim (fun z => .inr (.inl z)) fun z => .inr (.inr z))
    refine ⟨u, r, .inr ⟨?_, ?_⟩⟩
    · exact lookup_relabel_free (env := X.env) hfr
    · obtain ⟨c, hc⟩ := c2 _ hmem rfl
      have hc' := c1 _ _ hc
      rcases l with ⟨z, _⟩ | ⟨_, c', e, o, ho, hd⟩
      · rcases hkind with y | y
        · rw [y] at z; cases z
        · rw [y] at z; cases z
      · have : c' = c := by rw [hc'] at e; exact (Option.some.inj e).symm
        subst this
        exact ⟨c', hc, o, hk _ _ ho, hd⟩
  · obtain ⟨v, o, ho, hd⟩ := I3.cell x c (c1 x c e)
    exact ⟨v, o, hk _ _ ho, hd⟩
  · rw [List.length_map]
    exact S.len

theorem comp_out {cl : List (Str × Addr)} {fp : List Addr} {C : Addr} {τ : St} {H' : Hp} {s' : Shared} {pins' : List (Addr × Obj)} (I3 : Inv X pins σ H3 s3) (hf : ∀ b ∈ fp, FpOk X pins H3 b) (J : Inv (compCx X N scope cl C s3 H3 fp) pins' τ H' s') :
    Inv X pins σ H' s' := I3.call' J.os J.base J.hok J.bare fun b hb => ⟨(hf b hb).2.2.2.1, (hf b hb).2.1, (hf b hb).2.2.2.2.1, (hf b hb).2.2.2.2.2⟩

theorem lc_block {tg iter elt : Expr} {ifs : List Expr} {pos : Pos} {g : TG} {tt : TT} {te : TE} {J : It} {fp : List Addr} {it : Addr} {tn : Nat → Heap → Prop} {cl : List (Str × Addr)} {Q : VK} {E : Value → Shared → Prop} {RR : Value → Addr → Result → Shared → Prop}
    (hc : X.calm = true) (S : CScope X N pick scope) (c1 : ∀ x c, cl.lookup x = some c → X.env.cells.lookup x = some c) (c2 : ∀ y ∈ scope.names, y.2 = .free → ∃ c, cl.lookup y.1 = some c)
    (hg : ∀ cl C s₀ H₀ fp, PG (compCx X N scope cl C s₀ H₀ fp) tg g) (hi : ∀ cl C s₀ H₀ fp, PIfs (compCx X N scope cl C s₀ H₀ fp) ifs tt) (he : ∀ cl C s₀ H₀ fp, PE (compCx X N scope cl C s₀ H₀ fp) elt te)
    (I2 : Inv X pins σ H s) (T : Turn X.prog X.w X.K tg J fp it tn) (st : tn 0 s.heap) (hf : ∀ b ∈ fp, FpOk X pins H b)
    (hW : ∀ D, H D = none → LcGoal J g tt te D (pick.map fun o => o.bind fun j => (σ[j]?).join) Q H)
    (hRR : ∀ D C H' s', Inv X pins σ H' s' → (∃ m, s'.heap.Ns C m) → FpOk X pins H' C → Q (.ref D) H' → RR (.ref D) C (.ok .next) s') :
    wpAny (model X.prog X.w) X.A (newList []) (fun acc s₃ => wpAny (model X.prog X.w) X.A (newFunctionEnv scope X.env.globals cl [] X.env.qual none .none (some X.env)) (fun cenv s₄ =>
      codeAny (model X.prog X.w) X.A (.compStart (.ListComp elt [⟨tg, iter, ifs, 0⟩] scope pos) 0 (.ref it) acc { cenv with scope := relabel scope X.env }) (RR acc cenv.locals) s₄) E s₃) E s := by
  have hD : H s.heap.objs.size = none := I2.hok.fresh (Nat.le_refl _)
  have hlt : ∀ b ∈ fp, b < s.heap.objs.size := fun b hb => let ⟨o, e, _⟩ := T.obj _ _ st b hb; Heap.lt_size e
  obtain ⟨W, ⟨m0, w0⟩, turn⟩ := hW _ hD
  refine wpAny_newObj_type (wpAny_newFunctionEnv S.nocell (by intro y hy; simp at hy) (fun h₁ hns₁ hsb₁ => ?_) S.kind)
  have I3 : Inv X pins σ (upd H s.heap.objs.size (.lst [])) { s with heap := s.heap.push { cls := .type "list", dict := none, data := .seq ([] : List Value).toArray } } :=
    I2.laid (t' := s.toks) (fun b u e => Heap.get?_push_of_some _ e) (Nat.le_refl _) ⟨Nat.zero_le _, [], 0, .nil, Heap.get?_push_size _ rfl⟩
  generalize hs3 : ({ s with heap := s.heap.push { cls := .type "list", dict := none, data := .seq ([] : List Value).toArray } } : Shared) = s3 at I3 hns₁ hsb₁ ⊢
  have hsz : s3.heap.objs.size = s.heap.objs.size + 1 := by rw [← hs3]; exact Heap.size_push ..
  have hf3 : ∀ b ∈ fp, FpOk X pins (upd H s.heap.objs.size (.lst [])) b := fun b hb => ⟨by rw [upd_ne (Nat.ne_of_lt (hlt b hb))]; exact (hf b hb).1, (hf b hb).2⟩
  have hk : ∀ b o, s3.heap.get? b = some o → h₁.get? b = some o := fun b o e => hsb₁.extBut b o (Nat.ne_of_lt (Heap.lt_size e)) (Heap.get?_push_of_some _ e)
  have st1 : tn 0 h₁ := T.keep _ _ _ st fun b _ o e => hk b o (by rw [← hs3]; exact Heap.get?_push_of_some _ e)
  have IY : Inv (compCx X N scope cl s3.heap.objs.size s3 (upd H s.heap.objs.size (.lst [])) fp) [] (pick.map fun o => o.bind fun j => (σ[j]?).join) (upd H s.heap.objs.size (.lst [])) { s3 with heap := h₁, toks := s3.toks + ([] : List (Str × Value)).length } :=
    comp_start S I3 hf3 (fun b hb => Nat.lt_of_lt_of_le (hlt b hb) (by omega)) c1 c2 hns₁ hk
  generalize hY : compCx X N scope cl s3.heap.objs.size s3 (upd H s.heap.objs.size (.lst [])) fp = Y at IY
  have yg : PG Y tg g := hY ▸ hg _ _ _ _ _
  have yi : PIfs Y ifs tt := hY ▸ hi _ _ _ _ _
  have ye : PE Y elt te := hY ▸ he _ _ _ _ _
  have yprog : Y.prog = X.prog := by rw [← hY]; rfl
  have yw : Y.w = X.w := by rw [← hY]; rfl
  have yK : Y.K = X.K := by rw [← hY]; rfl
  have yA : Y.A = X.A := by rw [← hY]; rfl
  have yc : Y.calm = true := by rw [← hY]; exact hc
  have yenv : Y.env = compEnvC scope cl s3.heap.objs.size X.env := by rw [← hY]; rfl
  have yex : ∀ b, b ∈ Y.ex ↔ b ∈ fp := fun b => by rw [← hY]; rfl
  have yxe : Y.xe = fun _ _ => False := by rw [← hY]; rfl
  have ypn : Y.pn = [] := by rw [← hY]; rfl
  have yfs : ∀ b, b ∈ Y.fs → b ∈ X.env.locals :: X.fs := fun b hb => I3.stkSub b (by rw [← hY] at hb; exact hb)
  have stat : ∀ {H' : Hp}, (∀ b ∈ fp, H' b = none) → ∀ b ∈ fp, FpOk Y [] H' b := fun hn b hb => by
    refine ⟨hn b hb, ?_, fun hm => ?_, .inl ((yex b).mpr hb), fun x c e => ?_, fun p hp => ?_⟩
    · rw [yenv]
      show b ≠ s3.heap.objs.size
      exact Nat.ne_of_lt (Nat.lt_of_lt_of_le (hlt b hb) (by omega))
    · rcases List.mem_cons.mp (yfs b hm) with z | z
      · exact (hf b hb).2.1 z
      · exact (hf b hb).2.2.1 z
    · rw [yenv] at e
      exact (hf b hb).2.2.2.2.1 x c (c1 x c e)
    · rw [ypn] at hp; simp at hp
  have fin : ∀ {τ : St} {H' : Hp} {s' : Shared}, Inv Y [] τ H' s' → Q (.ref s.heap.objs.size) H' → RR (.ref s.heap.objs.size) s3.heap.objs.size (.ok .next) s' := fun {τ H' s'} J q => by
    have fr : H' s3.heap.objs.size = none := by have := J.free; rw [yenv] at this; exact this
    obtain ⟨m, hn, _⟩ := J.loc
    rw [yenv] at hn
    exact hRR _ _ H' s' (comp_out I3 hf3 (hY ▸ J)) ⟨m, hn⟩ (I3.fpOk (Nat.le_refl _) fr) q
  have loop : ∀ s₃ : Shared, Inv Y [] (pick.map fun o => o.bind fun j => (σ[j]?).join) (upd H s.heap.objs.size (.lst [])) s₃ → tn 0 s₃.heap →
      codeAny (model X.prog X.w) X.A (.compLoop (.ListComp elt [⟨tg, iter, ifs, 0⟩] scope pos) 0 (.ref it) (.ref s.heap.objs.size) (compEnvC scope cl s3.heap.objs.size X.env)) (RR (.ref s.heap.objs.size) s3.heap.objs.size) s₃ := by
    intro s₃ J0 t0
    refine compLoop_gen (fun n s' => ∃ i τ ys H', Inv Y [] τ H' s' ∧ tn i s'.heap ∧ (∀ b ∈ fp, H' b = none) ∧ W i n τ ys H') ?_ m0 ⟨0, _, [], _, J0, t0, fun b hb => (hf3 b hb).1, w0⟩
    rintro n s4 ⟨i, τ, ys, H4, J4, t4, fr4, w4⟩
    rcases turn i n τ ys H4 w4 with ⟨stop, q⟩ | ⟨go, step⟩
    · have ad := T.done Y yprog yw yK yc i [] s4 τ H4 (fun _ _ => False) J4 (stat fr4) t4 stop
      rw [yA] at ad
      refine wpAny_mono ad (fun r s5 ⟨hr, J5⟩ => ?_) fun _ _ f => f
      subst hr
      exact fin J5 q
    · have ad := T.item Y yprog yw yK yc i [] s4 τ H4 (fun _ _ => False) J4 (stat fr4) t4 go
      rw [yA] at ad
      refine wpAny_mono ad (fun r s5 ⟨u, hr, h5⟩ => ?_) fun _ _ f => f
      subst hr
      refine wpAny_mono h5 (fun _ s6 ⟨x, H6, J6, r6, y6, t6, fr6⟩ => ?_) fun _ _ f => f
      have J6' := J6.pinned (stat fr6) (T.obj _ _ t6)
      have ag := yg _ s6 τ H6 x u _ J6' r6 (step x H6 y6)
      rw [yprog, yw, yA, yenv, yxe] at ag
      refine wpAny_mono ag (fun _ s7 ⟨τ7, H7, J7, q7⟩ => ?_) fun _ _ f => f
      have ai := yi _ s7 τ7 H7 _ J7 q7
      rw [yprog, yw, yA, yenv, yxe] at ai
      refine wpAny_mono ai (fun ok s8 ⟨H8, J8, q8⟩ => ?_) fun _ _ f => f
      have again : ∀ {τ9 : St} {H9 : Hp} {s9 : Shared} {zs : List V}, Inv Y ([] ++ pinsAt fp s6.heap) τ9 H9 s9 → (∃ m', m' < n ∧ W (i + 1) m' τ9 zs H9) → ∃ m, m < n ∧ ∃ i τ ys H', Inv Y [] τ H' s9 ∧ tn i s9.heap ∧ (∀ b ∈ fp, H' b = none) ∧ W i m τ ys H' := fun {τ9 H9 s9 zs} J9 ⟨m', hm, w9⟩ => by
        refine ⟨m', hm, i + 1, τ9, zs, H9, J9.unpinned, T.keep _ _ _ t6 fun b hb o e => (J9.pin (b, o) (List.mem_append_right _ (List.mem_append_right _ (mem_pinsAt hb e)))).1, fun b hb => ?_, w9⟩
        obtain ⟨o, e, d⟩ := T.obj _ _ t6 b hb
        exact (J9.pin (b, o) (List.mem_append_right _ (List.mem_append_right _ (mem_pinsAt hb e)))).2.1
      cases ok with
      | false => exact again J8 q8
      | true =>
        have ae := ye _ s8 τ7 H8 _ J8 q8
        rw [yprog, yw, yA, yenv, yxe] at ae
        refine wpAny_bind (wpAny_mono ae (fun v s9 ⟨z, H9, J9, r9, hD9, hz9, q9⟩ => ?_) fun _ _ f => f)
        have aa := mt_append (X := Y) _ s9 τ7 H9 (.ref s.heap.objs.size) [z] (.ref s.heap.objs.size) [v] (fun x H' => H' = upd H9 s.heap.objs.size (.lst (ys ++ [z]))) J9 rfl (.cons r9 .nil) ⟨_, ys, z, rfl, rfl, hD9, hz9, rfl⟩
        rw [yprog, yw, yA, yxe] at aa
        refine wpAny_bind (wpAny_mono aa (fun _ s10 ⟨_, H10, J10, _, e10⟩ => ?_) fun _ _ f => f)
        subst e10
        exact wpAny_pure (again J10 q9)
  show codeAny (model X.prog X.w) X.A (.compStart (.ListComp elt [⟨tg, iter, ifs, 0⟩] scope pos) 0 (.ref it) (.ref s.heap.objs.size) (compEnvC scope cl s3.heap.objs.size X.env)) (RR (.ref s.heap.objs.size) s3.heap.objs.size) _
  exact codeAny_compStart_list (loop _ IY st1) (T.self _ 0 _ _ _ st1 (loop _ IY st1))

theorem pe_lc {tg iter elt : Expr} {ifs : List Expr} {pos : Pos} {wi : TI} {g : TG} {tt : TT} {te : TE} (hc : X.calm = true) (S : CScope X N pick scope) (hw : PI X tg iter wi)
    (hg : ∀ cl C s₀ H₀ fp, PG (compCx X N scope cl C s₀ H₀ fp) tg g) (hi : ∀ cl C s₀ H₀ fp, PIfs (compCx X N scope cl C s₀ H₀ fp) ifs tt) (he : ∀ cl C s₀ H₀ fp, PE (compCx X N scope cl C s₀ H₀ fp) elt te)
    (hs : ∀ x, foldedSetIterable iter X.env x = pure x := by intro _; rfl) : PE X (.ListComp elt [⟨tg, iter, ifs, 0⟩] scope pos) (tLc pick wi g tt te) := by
  intro pins s σ H Q I h
  obtain ⟨cl, hclos, c1, c2⟩ := closure_is (scope := scope) (env := X.env) fun y hy hf => I.ok.has _ (S.fre y hy hf).2
  rw [eval_ListComp]
  refine wpAny_comprehension_free (use := none) rfl hs hclos S.kind S.names (thn (hw pins s σ H _ I h) fun v s1 h1 => thn h1 fun itv s2 h2 => ?_)
  obtain ⟨it, fp, tn, J, H2, e, I2, T, st2, f2, hW⟩ := h2
  subst e
  refine lc_block (RR := fun acc C => compPost (model X.prog X.w) X.A X.xe none (EP X pins σ Q) acc C) hc S c1 c2 hg hi he I2 T st2 f2 hW fun D C H' s' J' ⟨m, hn⟩ fC q => ?_
  refine ⟨m, hn, fun h' hs' => ⟨.ref D, H', ?_, rfl, q⟩⟩
  exact J'.turned (t' := s'.toks) (it := C) (fun b o hb e => hs'.extBut b o hb e) fC.1 fC.2.1 fC.2.2.2.1 fC.2.2.2.2.1 fC.2.2.2.2.2

theorem ps_lc {tg iter elt : Expr} {ifs : List Expr} {pos py spos : Pos} {wi : TI} {g : TG} {tt : TT} {te : TE} {i : Nat} {y : Str} (hN : X.N.Nodup) (hi' : X.N[i]? = some y) (hy : X.env.scope.names.lookup y = some .local) (hc : X.calm = true) (S : CScope X N pick scope) (hw : PI X tg iter wi)
    (hg : ∀ cl C s₀ H₀ fp, PG (compCx X N scope cl C s₀ H₀ fp) tg g) (hi : ∀ cl C s₀ H₀ fp, PIfs (compCx X N scope cl C s₀ H₀ fp) ifs tt) (he : ∀ cl C s₀ H₀ fp, PE (compCx X N scope cl C s₀ H₀ fp) elt te)
    (hsw : swapsWith (.ListComp elt [⟨tg, iter, ifs, 0⟩] scope pos) (some (.Name y py)) spos.line X.env = pure true) (hs : ∀ x, foldedSetIterable iter X.env x = pure x := by intro _; rfl) :
    PS X (.Assign [.Name y py] (.ListComp elt [⟨tg, iter, ifs, 0⟩] scope pos) spos) (tAsg (tLc pick wi g tt te) (gName i)) := by
  intro pins s σ H D0 I h
  obtain ⟨cl, hclos, c1, c2⟩ := closure_is (scope := scope) (env := X.env) fun y hy hf => I.ok.has _ (S.fre y hy hf).2
  rw [exec_Assign_Name_used _ _ _ _ hsw]
  refine wpAny_bind (wpAny_standAt (wpAny_bind ?_))
  show wpAny _ _ (do let _ ← comprehension (.ListComp elt [⟨tg, iter, ifs, 0⟩] scope pos) scope X.env _ (newList []) false (eval iter X.env) (some (assign (.Name y py) X.env))) _ _ s
  refine wpAny_bind (thn (wpAny_comprehension_free (use := some (assign (.Name y py) X.env)) (Q := fun _ s' => SP X pins D0 .next s') rfl hs hclos S.kind S.names
    (thn (hw pins s σ H _ I h) fun v s1 h1 => thn h1 fun itv s2 h2 => ?_)) fun _ s' hq => wpAny_pure (wpAny_pure hq))
  obtain ⟨it, fp, tn, J, H2, e, I2, T, st2, f2, hW⟩ := h2
  subst e
  refine lc_block (Q := fun x H1 => gName i x σ H1 D0.nx) (RR := fun acc C => compPost (model X.prog X.w) X.A X.xe (some (assign (.Name y py) X.env)) (fun _ s' => SP X pins D0 .next s') acc C) hc S c1 c2 hg hi he I2 T st2 f2 hW fun D C H' s' J' ⟨m, hn⟩ fC q => ?_
  show wpAny _ _ (assign (.Name y py) X.env (.ref D)) _ _ _
  refine wpAny_assign_Name (store_ok2 (v := .ref D) J' hN hi' (.inl hy) rfl (fun s'' J'' ⟨a, sb, ha⟩ => ?_) (.inr hy))
  have hne : C ≠ a := by
    rcases ha with z | z
    · rw [z]; exact fC.2.1
    · exact fun e => fC.2.2.2.2.1 y a z e.symm
  refine ⟨m, hn.sameBut sb hne, fun h' hs' => ?_⟩
  refine ⟨_, H', J''.turned (t' := s''.toks) (it := C) (fun b o hb e => hs'.extBut b o hb e) fC.1 fC.2.1 fC.2.2.2.1 fC.2.2.2.2.1 fC.2.2.2.2.2, q⟩
end
end L2

namespace L2
open PySem PySem.Spec PyProof.Rows
set_option maxHeartbeats 4000000

mutual
inductive DV (K : PySem.W.Frag) (H : Hp) : V → PyData → Prop
  | non : DV K H .non .none
  | bl (b : Bool) : DV K H (.bl b) (.bool b)
  | int (i : Int) : DV K H (.int i) (.int i)
  | str (x : Str) : DV K H (.str x) (.str x)
  | tup {a : Addr} {xs : List V} {ds : List PyData} : H a = some (.tup xs) → DVs K H xs ds → DV K H (.ref a) (.tuple ds)
  | lst {a : Addr} {xs : List V} {ds : List PyData} : SqL K H a xs → DVs K H xs ds → DV K H (.ref a) (.list ds)
inductive DVs (K : PySem.W.Frag) (H : Hp) : List V → List PyData → Prop
  | nil : DVs K H [] []
  | cons {x : V} {d : PyData} {xs : List V} {ds : List PyData} : DV K H x d → DVs K H xs ds → DVs K H (x :: xs) (d :: ds)
end
section
variable {K : PySem.W.Frag} {H H' : Hp}
theorem DVs.append : ∀ {xs ys : List V} {ds es : List PyData}, DVs K H xs ds → DVs K H ys es → DVs K H (xs ++ ys) (ds ++ es)
  | _, _, _, _, .nil, h => h
  | _, _, _, _, .cons a b, h => .cons a (DVs.append b h)
theorem DVs.length : ∀ {xs : List V} {ds : List PyData}, DVs K H xs ds → xs.length = ds.length
  | _, _, .nil => rfl
  | _, _, .cons _ b => by simp [DVs.length b]
theorem DVs.get : ∀ {xs : List V} {ds : List PyData} {i : Nat} {x : V}, DVs K H xs ds → xs[i]? = some x → ∃ d, ds[i]? = some d ∧ DV K H x d
  | _, _, _, _, .nil, e => by simp at e
  | _, _, 0, _, .cons a _, e => by simp at e; subst e; exact ⟨_, rfl, a⟩
  | _, _, i + 1, x, .cons _ b, e => by
    obtain ⟨d, e1, h⟩ := DVs.get (i := i) (x := x) b (by simpa using e)
    exact ⟨d, by simpa using e1, h⟩
theorem DVs.get' : ∀ {xs : List V} {ds : List PyData} {i : Nat} {d : PyData}, DVs K H xs ds → ds[i]? = some d → ∃ x, xs[i]? = some x ∧ DV K H x d
  | _, _, _, _, .nil, e => by simp at e
  | _, _, 0, _, .cons a _, e => by simp at e; subst e; exact ⟨_, rfl, a⟩
  | _, _, i + 1, d, .cons _ b, e => by
    obtain ⟨x, e1, h⟩ := DVs.get' (i := i) (d := d) b (by simpa using e)
    exact ⟨x, by simpa using e1, h⟩
theorem DVs.take : ∀ {xs : List V} {ds : List PyData} (_ : DVs K H xs ds) (n : Nat), DVs K H (xs.take n) (ds.take n)
  | _, _, _, 0 => .nil
  | _, _, .nil, _ + 1 => .nil
  | _, _, .cons a b, n + 1 => .cons a (DVs.take b n)
theorem DVs.drop : ∀ {xs : List V} {ds : List PyData} (_ : DVs K H xs ds) (n : Nat), DVs K H (xs.drop n) (ds.drop n)
  | _, _, h, 0 => h
  | _, _, .nil, _ + 1 => .nil
  | _, _, .cons _ b, n + 1 => DVs.drop b n
mutual
theorem DV.same : ∀ {x : V} {d : PyData}, (∀ b o, H b = some o → H' b = some o) → DV K H x d → DV K H' x d
  | _, _, _, .non => .non
  | _, _, _, .bl b => .bl b
  | _, _, _, .int i => .int i
  | _, _, _, .str x => .str x
  | _, _, h, .tup e r => .tup (h _ _ e) (DVs.same h r)
  | _, _, h, .lst e r => .lst (Same.seq h e) (DVs.same h r)
theorem DVs.same : ∀ {xs : List V} {ds : List PyData}, (∀ b o, H b = some o → H' b = some o) → DVs K H xs ds → DVs K H' xs ds
  | _, _, _, .nil => .nil
  | _, _, h, .cons a b => .cons (DV.same h a) (DVs.same h b)
end
end
mutual
def noL : PyData → Bool
  | .list _ => false
  | .tuple xs => noLs xs
  | .dict _ => false
  | .none | .bool _ | .int _ | .str _ => true
def noLs : List PyData → Bool
  | [] => true
  | x :: r => noL x && noLs r
end
theorem noLs_all {ds : List PyData} : noLs ds = true ↔ ∀ d ∈ ds, noL d = true := by
  induction ds with
  | nil => simp [noLs]
  | cons x r ih => simp [noLs, ih]
section
variable {K : PySem.W.Frag} {H H' : Hp}
def TK (H H' : Hp) : Prop := ∀ b xs, H b = some (.tup xs) → H' b = some (.tup xs)
theorem TK.refl (H : Hp) : TK H H := fun _ _ h => h
theorem TK.trans {H1 H2 H3 : Hp} (a : TK H1 H2) (b : TK H2 H3) : TK H1 H3 := fun c xs h => b c xs (a c xs h)
mutual
theorem DV.tk : ∀ {x : V} {d : PyData}, TK H H' → noL d = true → DV K H x d → DV K H' x d
  | _, _, _, _, .non => .non
  | _, _, _, _, .bl b => .bl b
  | _, _, _, _, .int i => .int i
  | _, _, _, _, .str x => .str x
  | _, _, h, n, .tup e r => .tup (h _ _ e) (DVs.tk h (by simpa [noL] using n) r)
  | _, _, _, n, .lst e r => by simp [noL] at n
theorem DVs.tk : ∀ {xs : List V} {ds : List PyData}, TK H H' → noLs ds = true → DVs K H xs ds → DVs K H' xs ds
  | _, _, _, _, .nil => .nil
  | _, _, h, n, .cons a b => by
    simp only [noLs, Bool.and_eq_true] at n
    exact .cons (DV.tk h n.1 a) (DVs.tk h n.2 b)
end
end

mutual
theorem DV.reads {X : Cx} {pins : List (Addr × Obj)} {σ : St} {H : Hp} {s : Shared} (I : Inv X pins σ H s) : ∀ {x : V} {d : PyData} {u : Value}, DV X.K H x d → RelV x u → ∃ as, Reads s.heap u d as
  | _, _, _, .non, r => by cases r; exact ⟨_, .none⟩
  | _, _, _, .bl b, r => by cases r; exact ⟨_, .bool b⟩
  | _, _, _, .int i, r => by obtain ⟨t, rfl⟩ := r; exact ⟨_, .int i t⟩
  | _, _, _, .str x, r => by obtain ⟨t, rfl⟩ := r; exact ⟨_, .str x t⟩
  | _, _, _, .tup e h, r => by
    cases r
    obtain ⟨its, rv, ⟨o, ho, hc, n, hd⟩, _⟩ := I.tuple (.inl (.inl e))
    obtain ⟨as, q⟩ := DVs.reads I h rv
    exact ⟨_, .tuple ho hc hd q⟩
  | _, _, _, .lst e h, r => by
    cases r
    obtain ⟨its, rv, ⟨o, n, ho, hc, _, hd⟩, _⟩ := I.list e
    obtain ⟨as, q⟩ := DVs.reads I h rv
    exact ⟨_, .list ho hc hd q⟩
theorem DVs.reads {X : Cx} {pins : List (Addr × Obj)} {σ : St} {H : Hp} {s : Shared} (I : Inv X pins σ H s) : ∀ {xs : List V} {ds : List PyData} {us : List Value}, DVs X.K H xs ds → Vals xs us → ∃ as, ReadsAll s.heap us ds as
  | _, _, _, .nil, r => by cases r; exact ⟨_, .nil⟩
  | _, _, _, .cons a b, r => by
    cases r with
    | cons r rr =>
      obtain ⟨as, q⟩ := DV.reads I a r
      obtain ⟨bs, q'⟩ := DVs.reads I b rr
      exact ⟨_, .cons q q'⟩
end

structure Fits (n k : Nat) (d : PyData) : Prop where
  sh : d.showable = true
  nd : d.hasDict = false
  ln : d.shown.length ≤ n
  dp : d.depth ≤ k
theorem Fits.mono {n n' k k' : Nat} {d : PyData} (h : Fits n k d) (h1 : n ≤ n') (h2 : k ≤ k') : Fits n' k' d := ⟨h.sh, h.nd, Nat.le_trans h.ln h1, Nat.le_trans h.dp h2⟩
theorem Fits.non : Fits 4 0 .none := ⟨rfl, rfl, by decide +kernel, Nat.le_refl _⟩
theorem Fits.bl (b : Bool) : Fits 5 0 (.bool b) := ⟨rfl, rfl, by cases b <;> decide +kernel, Nat.le_refl _⟩
theorem Fits.int {i : Int} (h : i.natAbs < 2 ^ 1000) : Fits 1921 0 (.int i) := by
  have hl : i.natAbs.log2 < 1920 := by
    by_cases z : i.natAbs = 0
    · rw [z]; decide
    · exact Nat.lt_of_lt_of_le ((Nat.log2_lt z).mpr h) (by decide)
  refine ⟨by simp [PyData.showable, hl], rfl, ?_, Nat.le_refl _⟩
  simp only [PyData.shown]
  exact int_text_len_1921 hl
theorem Fits.str {x : Str} {m : Nat} (h : x.length ≤ m) (hc : ∀ c ∈ x.cps.toList, c < 16 ^ 8) : Fits (10 * m + 2) 0 (.str x) := by
  refine ⟨rfl, rfl, ?_, Nat.le_refl _⟩
  simp only [PyData.shown]
  exact Nat.le_trans (StrLaws.reprText_len x hc) (by omega)
theorem piled_le {ts : List Str} {n : Nat} (h : ∀ t ∈ ts, t.length ≤ n) : piled ts ≤ ts.length * (n + 2) := by
  induction ts with
  | nil => simp [piled]
  | cons t r ih =>
    have h1 := h t List.mem_cons_self
    have h2 := ih fun q hq => h q (List.mem_cons_of_mem _ hq)
    rw [piled_cons, List.length_cons, Nat.add_mul]
    omega
theorem shownAll_mem : ∀ {ds : List PyData} {t : Str}, t ∈ PyData.shownAll ds → ∃ d ∈ ds, t = d.shown
  | [], _, h => by simp [PyData.shownAll] at h
  | d :: r, t, h => by
    simp only [PyData.shownAll, List.mem_cons] at h
    rcases h with h | h
    · exact ⟨d, List.mem_cons_self, h⟩
    · obtain ⟨e, he, q⟩ := shownAll_mem h
      exact ⟨e, List.mem_cons_of_mem _ he, q⟩
theorem shownAll_length : ∀ ds : List PyData, (PyData.shownAll ds).length = ds.length
  | [] => rfl
  | _ :: r => by simp [PyData.shownAll, shownAll_length r]
theorem join_le (ts : List Str) : (Str.join ", " ts).length ≤ piled ts := by
  rcases Classical.em (ts = []) with rfl | hz
  · exact Nat.zero_le _
  · exact Nat.le_of_add_right_le (Nat.le_of_eq (join_length_add ts hz))
theorem tupleText_le {ts : List Str} {n : Nat} (h : ∀ t ∈ ts, t.length ≤ n) : (tupleText ts).length ≤ ts.length * (n + 2) + 3 := by
  have hp := Nat.le_trans (join_le ts) (piled_le h)
  have two : ∀ b : Bool, ((((if b = true then ",)" else ")") : String) : Str)).length ≤ 2 := by decide
  have z := two (ts.length == 1)
  have one : (("(" : String) : Str).length = 1 := rfl
  simp only [tupleText, strLen_append] at z ⊢
  omega
theorem textFrom_le : ∀ (ts : List Str) (k : Nat) (acc : Str), (textFrom k acc ts).length ≤ acc.length + piled ts
  | [], _, _ => Nat.le_refl _
  | t :: r, k, acc => by
    have two : (((if k > 0 then ", " else "" : String) : Str)).length ≤ 2 := by split <;> decide
    have ih := textFrom_le r (k + 1) (acc ++ (if k > 0 then ", " else "" : String) ++ t)
    simp only [strLen_append] at ih
    rw [piled_cons]
    exact Nat.le_trans ih (by omega)
theorem listText_le {ts : List Str} {n : Nat} (h : ∀ t ∈ ts, t.length ≤ n) : (listText ts).length ≤ ts.length * (n + 2) + 3 := by
  have hp := Nat.le_trans (textFrom_le ts 0 "[") (Nat.add_le_add_left (piled_le h) _)
  have one : (("[" : String) : Str).length = 1 ∧ (("]" : String) : Str).length = 1 := ⟨rfl, rfl⟩
  simp only [listText, strLen_append]
  omega
theorem showableAll_of : ∀ {ds : List PyData}, (∀ d ∈ ds, d.showable = true) → PyData.showableAll ds = true
  | [], _ => rfl
  | d :: r, h => by simp [PyData.showableAll, h d List.mem_cons_self, showableAll_of fun q hq => h q (List.mem_cons_of_mem _ hq)]
theorem hasDictAll_of : ∀ {ds : List PyData}, (∀ d ∈ ds, d.hasDict = false) → PyData.hasDictAll ds = false
  | [], _ => rfl
  | d :: r, h => by simp [PyData.hasDictAll, h d List.mem_cons_self, hasDictAll_of fun q hq => h q (List.mem_cons_of_mem _ hq)]
theorem depthAll_le : ∀ {ds : List PyData} {k : Nat}, (∀ d ∈ ds, d.depth ≤ k) → PyData.depthAll ds ≤ k
  | [], _, _ => Nat.zero_le _
  | d :: r, k, h => by
    simp only [PyData.depthAll]
    exact Nat.max_le.mpr ⟨h d List.mem_cons_self, depthAll_le fun q hq => h q (List.mem_cons_of_mem _ hq)⟩
theorem Fits.tup {n k : Nat} {ds : List PyData} (h : ∀ d ∈ ds, Fits n k d) : Fits (ds.length * (n + 2) + 3) (k + 1) (.tuple ds) := by
  refine ⟨?_, ?_, ?_, ?_⟩
  · simp only [PyData.showable]; exact showableAll_of fun d hd => (h d hd).sh
  · simp only [PyData.hasDict]; exact hasDictAll_of fun d hd => (h d hd).nd
  · simp only [PyData.shown]
    have := tupleText_le (ts := PyData.shownAll ds) (n := n) fun t ht => by obtain ⟨d, hd, e⟩ := shownAll_mem ht; rw [e]; exact (h d hd).ln
    rw [shownAll_length] at this
    exact this
  · simp only [PyData.depth]
    exact Nat.succ_le_succ (depthAll_le fun d hd => (h d hd).dp)
theorem Fits.lst {n k : Nat} {ds : List PyData} (h : ∀ d ∈ ds, Fits n k d) : Fits (ds.length * (n + 2) + 3) (k + 1) (.list ds) := by
  refine ⟨?_, ?_, ?_, ?_⟩
  · simp only [PyData.showable]; exact showableAll_of fun d hd => (h d hd).sh
  · simp only [PyData.hasDict]; exact hasDictAll_of fun d hd => (h d hd).nd
  · simp only [PyData.shown]
    have := listText_le (ts := PyData.shownAll ds) (n := n) fun t ht => by obtain ⟨d, hd, e⟩ := shownAll_mem ht; rw [e]; exact (h d hd).ln
    rw [shownAll_length] at this
    exact this
  · simp only [PyData.depth]
    exact Nat.succ_le_succ (depthAll_le fun d hd => (h d hd).dp)
theorem Fits.tupLe {n k m N : Nat} {ds : List PyData} (hl : ds.length ≤ m) (h : ∀ d ∈ ds, Fits n k d) (hN : m * (n + 2) + 3 ≤ N) : Fits N (k + 1) (.tuple ds) :=
  (Fits.tup h).mono (Nat.le_trans (Nat.add_le_add_right (Nat.mul_le_mul_right _ hl) _) hN) (Nat.le_refl _)
def rRepr (K : PySem.W.Frag) : List V → Hp → VK → Prop := fun xs H Q => ∃ x d, xs = [x] ∧ DV K H x d ∧ Fits 16000000 60 d ∧ Q (.str d.shown) H
theorem call_reprD {X : Cx} {k : Nat} (hr : Room k X.A) : CallR X (.builtin "repr") (rRepr X.K) := by
  intro pins s σ H xs us Q I r h
  obtain ⟨x, d, rfl, dv, ft, q⟩ := h
  obtain ⟨u, rfl, ru⟩ := vals1 r
  have hu := hr.un
  have done : ∀ (h' : Heap) (u' : Tok) (tk : Nat), (∀ b o, s.heap.get? b = some o → h'.get? b = some o) → EP X pins σ Q (.str d.shown u') { s with heap := h', toks := tk } := fun h' u' tk hk =>
    ⟨.str d.shown, H, I.kept (t' := tk) hk, ⟨u', rfl⟩, q⟩
  have hz : d.shown.length ≤ sizeLine := Nat.le_trans ft.ln (by decide)
  cases dv with
  | non => cases ru; exact P.repr_of_none (done _ _ _ fun _ _ e => e)
  | bl b => cases ru; exact P.repr_of_bool (by have := done s.heap s.toks (s.toks + 1) fun _ _ e => e; simp only [PyData.shown] at this; exact this)
  | int i =>
    obtain ⟨t, rfl⟩ := ru
    refine P.repr_of_int (by simpa [PyData.showable] using ft.sh) ?_
    have := done s.heap s.toks (s.toks + 1) fun _ _ e => e
    simp only [PyData.shown] at this
    exact this
  | str x =>
    obtain ⟨t, rfl⟩ := ru
    simp only [PyData.shown] at hz
    refine P.repr_of_str ?_ hz
    have := done s.heap s.toks (s.toks + 1) fun _ _ e => e
    simp only [PyData.shown] at this
    exact this
  | @tup a xs ds e hd =>
    obtain ⟨as, rd⟩ := DV.reads I (DV.tup e hd) ru
    cases ru
    exact repr_of_reads' rd ft.sh (PyData.noDict_hsm ft.nd) hr.gd (by have := ft.dp; omega) (fun _ _ e => e) (fun h' u' tk hk => done h' u' tk hk) hz
  | @lst a xs ds e hd =>
    obtain ⟨as, rd⟩ := DV.reads I (DV.lst e hd) ru
    cases ru
    exact repr_of_reads' rd ft.sh (PyData.noDict_hsm ft.nd) hr.gd (by have := ft.dp; omega) (fun _ _ e => e) (fun h' u' tk hk => done h' u' tk hk) hz
end L2

namespace L2
open PySem PySem.Spec PyProof.Rows
set_option maxHeartbeats 4000000
def Def (P : Program) (w : World) (K : PySem.W.Frag) (mg : Str → Option Value) (base : Heap) (k : Nat) (x : Str) (ps : List Str) (sp : Sp) : Prop :=
  ∃ (f : Addr) (fd : FuncData), FnOk P w K mg base CX0 k f fd ps sp ∧ mg x = some (.ref f) ∧ PySem.W.keepIn K (.ref f) = true ∧ Binds K fd ps []
section
variable {X : Cx} {k : Nat} {x : Str} {ps : List Str} {sp : Sp} {e : Expr} {es : List Expr} {t : TA} {p pos : Pos}
theorem pe_own (D : Def X.prog X.w X.K X.mg X.base k x ps sp) (hr : Room k X.A) (hg : Gl X x) (ha : PA X (e :: es) t) (hdb : (x == ("__debug__" : Str)) = false := by decide)
    (he : starEach (e :: es) X.env = (false, eval e X.env) :: starEach es X.env := by rfl) (hpl : (backTo pos (starEach es X.env)).any (·.1) = false := by rfl) : PE X (.Call (.Name x p) (e :: es) [] pos) (tCall sp [] E0 t) := by
  obtain ⟨f, fd, F, hm, hk, hb⟩ := D
  exact pe_call F hr hg hm hk hb .nil pass0 ha hdb he hpl
theorem pt_of {e : Expr} {te : TE} (h : PE X e te) (he : ∀ whole, isTrue e X.env whole = (do let v ← whole; standAt e.pos; holding [v] (truthy v)) := by intro _; rfl) : PT X e (fun σ H Q => te σ H fun x H' => ∃ k, TruV X.K x H' k ∧ Q k H') := pt_truth h he
end
def Sm (f : Addr) (H H' : Hp) : Prop := ∀ b o, b ≠ f → H b = some o → H' b = some o
theorem Sm.refl (f : Addr) (H : Hp) : Sm f H H := fun _ _ _ h => h
theorem Sm.trans {f : Addr} {H H1 H2 : Hp} (a : Sm f H H1) (b : Sm f H1 H2) : Sm f H H2 := fun c o n h => b c o n (a c o n h)
theorem Sm.same {f : Addr} {H H' : Hp} (a : Same H H') : Sm f H H' := fun c o _ h => a c o h
theorem Sm.new {f p : Addr} {H : Hp} {o : HO} (h : H p = none) : Sm f H (upd H p o) := fun c _ _ e => by rw [upd_ne (ne_of_none e h)]; exact e
theorem Same.new {p : Addr} {H : Hp} {o : HO} (h : H p = none) : Same H (upd H p o) := fun c _ e => by rw [upd_ne (ne_of_none e h)]; exact e
theorem Sm.acc {f D : Addr} {H H' : Hp} {o : HO} (a : Sm f H H') (hD : H D = none) : Sm f H (upd H' D o) := fun c _ n e => by rw [upd_ne (ne_of_none e hD)]; exact a c _ n e
theorem Same.acc {D : Addr} {H H' : Hp} {o : HO} (a : Same H H') (hD : H D = none) : Same H (upd H' D o) := fun c _ e => by rw [upd_ne (ne_of_none e hD)]; exact a c _ e
theorem Sm.self {f : Addr} {H : Hp} {o : HO} : Sm f H (upd H f o) := fun c _ n e => by rw [upd_ne n]; exact e
theorem Sm.free {f p : Addr} {H H' : Hp} {o : HO} (a : Sm f H H') (hf : H f = some o) (h : H' p = none) (hf' : H' f ≠ none) : H p = none := by
  by_cases e : p = f
  · subst e; exact absurd h hf'
  · cases q : H p with
    | none => rfl
    | some u => rw [a p u e q] at h; cases h
theorem Sm.tk {f : Addr} {H H' : Hp} {kvs : List (Key × V)} (a : Sm f H H') (hf : H f = some (.dK kvs)) : TK H H' := fun b xs e => a b _ (fun z => by subst z; rw [hf] at e; cases e) e
theorem Same.tk {H H' : Hp} (a : Same H H') : TK H H' := fun b xs e => a b _ e
theorem TK.updL {H : Hp} {l : Addr} {xs ys : List V} (h : H l = some (.lst xs)) : TK H (upd H l (.lst ys)) := fun b zs e => by rw [upd_ne (fun z => by subst z; rw [h] at e; cases e)]; exact e
theorem TK.updD {H : Hp} {l : Addr} {xs ys : List (Key × V)} (h : H l = some (.dK xs)) : TK H (upd H l (.dK ys)) := fun b zs e => by rw [upd_ne (fun z => by subst z; rw [h] at e; cases e)]; exact e
theorem TK.new {H : Hp} {p : Addr} {o : HO} (h : H p = none) : TK H (upd H p o) := (Same.new h).tk
def LcW (n k : Nat) (caps : St) (Pv : Nat → List V → Hp → Prop) : Nat → Nat → St → List V → Hp → Prop := fun i m τ ys H => m = n - i ∧ i ≤ n ∧ (∃ os : St, os.length = k ∧ τ = os ++ caps) ∧ Pv i ys H
def LcN (D : Addr) (n k : Nat) (caps : St) (Pv : Nat → List V → Hp → Prop) (i : Nat) (ys : List V) (τ : St) (v : V) (H : Hp) : Prop :=
  H D = some (.lst ys) ∧ ys.length < sizeLine ∧ ∃ m', m' < n - i ∧ LcW n k caps Pv (i + 1) m' τ (ys ++ [v]) (upd H D (.lst (ys ++ [v])))
def LcS (n k : Nat) (caps : St) (Pv : Nat → List V → Hp → Prop) (i : Nat) (ys : List V) (τ : St) (H : Hp) : Prop := ∃ m', m' < n - i ∧ LcW n k caps Pv (i + 1) m' τ ys H
theorem LcN.mk {D : Addr} {n k : Nat} {caps os : St} {Pv : Nat → List V → Hp → Prop} {i : Nat} {ys : List V} {τ : St} {v : V} {H : Hp} (hi : i < n) (hD : H D = some (.lst ys)) (hl : ys.length < sizeLine) (ho : os.length = k) (hτ : τ = os ++ caps)
    (hP : Pv (i + 1) (ys ++ [v]) (upd H D (.lst (ys ++ [v])))) : LcN D n k caps Pv i ys τ v H := ⟨hD, hl, n - (i + 1), by omega, rfl, hi, ⟨os, ho, hτ⟩, hP⟩
theorem LcS.mk {n k : Nat} {caps os : St} {Pv : Nat → List V → Hp → Prop} {i : Nat} {ys : List V} {τ : St} {H : Hp} (hi : i < n) (ho : os.length = k) (hτ : τ = os ++ caps) (hP : Pv (i + 1) ys H) : LcS n k caps Pv i ys τ H := ⟨n - (i + 1), by omega, rfl, hi, ⟨os, ho, hτ⟩, hP⟩
section
variable {g : TG} {tt : TT} {te : TE} {Q : VK} {τ0 : St} {H : Hp} {D : Addr}
theorem lc_range {lo : Int} {n : Nat} (k : Nat) (caps : St) (Pv : Nat → List V → Hp → Prop) (hp : τ0 = List.replicate k none ++ caps) (h0 : Pv 0 [] (upd H D (.lst [])))
    (hs : ∀ i ys H os, i < n → os.length = k → Pv i ys H → g (.int (lo + i)) (os ++ caps) H fun τ2 H2 => tt τ2 H2 fun b H3 => if b = true then te τ2 H3 fun v H4 => LcN D n k caps Pv i ys τ2 v H4 else LcS n k caps Pv i ys τ2 H3)
    (hd : ∀ ys H, Pv n ys H → Q (.ref D) H) :
    LcGoal (Itr lo n) g tt te D τ0 Q H := by
  refine ⟨LcW n k caps Pv, ⟨n, by simp, Nat.zero_le _, ⟨List.replicate k none, by simp, hp⟩, h0⟩, ?_⟩
  rintro i m τ ys H ⟨rfl, hi, ⟨os, ho, rfl⟩, p⟩
  by_cases hlt : i < n
  · refine .inr ⟨hlt, fun x H' y => ?_⟩
    obtain ⟨e, y⟩ := y
    subst e y
    exact hs i ys _ os hlt ho p
  · have e : i = n := by omega
    subst e
    exact .inl ⟨Nat.le_refl _, hd ys H p⟩
theorem lc_tup {K : PySem.W.Frag} {a : Addr} {xs : List V} (k : Nat) (caps : St) (Pv : Nat → List V → Hp → Prop) (hp : τ0 = List.replicate k none ++ caps) (h0 : Pv 0 [] (upd H D (.lst [])))
    (hl : ∀ i ys H, i ≤ xs.length → Pv i ys H → SqT K H a xs)
    (hs : ∀ i x ys H os, xs[i]? = some x → os.length = k → Pv i ys H → g x (os ++ caps) H fun τ2 H2 => tt τ2 H2 fun b H3 => if b = true then te τ2 H3 fun v H4 => LcN D xs.length k caps Pv i ys τ2 v H4 else LcS xs.length k caps Pv i ys τ2 H3)
    (hd : ∀ ys H, Pv xs.length ys H → Q (.ref D) H) :
    LcGoal (Itt K a) g tt te D τ0 Q H := by
  refine ⟨LcW xs.length k caps Pv, ⟨xs.length, by simp, Nat.zero_le _, ⟨List.replicate k none, by simp, hp⟩, h0⟩, ?_⟩
  rintro i m τ ys H ⟨rfl, hi, ⟨os, ho, rfl⟩, p⟩
  have q := hl i ys H hi p
  by_cases hlt : i < xs.length
  · refine .inr ⟨⟨xs, xs[i], q, by simp [hlt]⟩, fun x H' y => ?_⟩
    obtain ⟨e, y⟩ := y
    subst e
    exact hs i x ys _ os (y xs q) ho p
  · have e : i = xs.length := by omega
    subst e
    exact .inl ⟨⟨xs, q, Nat.le_refl _⟩, hd ys H p⟩
theorem lc_list {K : PySem.W.Frag} {a : Addr} {xs : List V} (k : Nat) (caps : St) (Pv : Nat → List V → Hp → Prop) (hp : τ0 = List.replicate k none ++ caps) (h0 : Pv 0 [] (upd H D (.lst [])))
    (hl : ∀ i ys H, i ≤ xs.length → Pv i ys H → SqL K H a xs)
    (hs : ∀ i x ys H os, xs[i]? = some x → os.length = k → Pv i ys H → g x (os ++ caps) H fun τ2 H2 => tt τ2 H2 fun b H3 => if b = true then te τ2 H3 fun v H4 => LcN D xs.length k caps Pv i ys τ2 v H4 else LcS xs.length k caps Pv i ys τ2 H3)
    (hd : ∀ ys H, Pv xs.length ys H → Q (.ref D) H) :
    LcGoal (Itl K a) g tt te D τ0 Q H := by
  refine ⟨LcW xs.length k caps Pv, ⟨xs.length, by simp, Nat.zero_le _, ⟨List.replicate k none, by simp, hp⟩, h0⟩, ?_⟩
  rintro i m τ ys H ⟨rfl, hi, ⟨os, ho, rfl⟩, p⟩
  have q := hl i ys H hi p
  by_cases hlt : i < xs.length
  · refine .inr ⟨⟨xs, xs[i], q, by simp [hlt]⟩, fun x H' y => ?_⟩
    obtain ⟨e, y⟩ := y
    subst e
    exact hs i x ys _ os (y xs q) ho p
  · have e : i = xs.length := by omega
    subst e
    exact .inl ⟨⟨xs, q, Nat.le_refl _⟩, hd ys H p⟩
end
theorem noif {τ : St} {H : Hp} {A B : Hp → Prop} (h : A H) : tNoIf τ H (fun b H3 => if b = true then A H3 else B H3) := by
  show (if true = true then A H else B H)
  rw [if_pos rfl]
  exact h
theorem noifN {i : Nat} {v : V} {τ : St} {H : Hp} {A B : St → Hp → Prop} (h : A (τ.set i (some v)) H) : gName i v τ H (fun τ2 H2 => tNoIf τ2 H2 (fun b H3 => if b = true then A τ2 H3 else B τ2 H3)) := by
  show (if true = true then A (τ.set i (some v)) H else B (τ.set i (some v)) H)
  rw [if_pos rfl]
  exact h
section
variable {X : Cx}
def rInsert : V → List V → Hp → VK → Prop := fun x vs H Q => ∃ l xs i y, x = .ref l ∧ vs = [.int i, y] ∧ H l = some (.lst xs) ∧ 0 ≤ i ∧ i ≤ xs.length ∧ xs.length < sizeLine ∧ Q .non (upd H l (.lst (xs.take i.toNat ++ y :: xs.drop i.toNat)))
theorem Vals.ins {xs : List V} {us : List Value} {y : V} {u : Value} (r : Vals xs us) (ry : RelV y u) (k : Nat) : Vals (xs.take k ++ y :: xs.drop k) (us.take k ++ u :: us.drop k) := (Vals.take k r).append (.cons ry (Vals.drop k r))
theorem mt_insert : MtM X "list.insert" rInsert := by
  intro pins s σ H x vs v us Q I rx rv h
  obtain ⟨l, xs, i, y, rfl, rfl, hH, h1, h2, h3, q⟩ := h
  cases rx
  obtain ⟨u, u', rfl, ru, ru'⟩ := rv.two
  obtain ⟨t, rfl⟩ := ru
  obtain ⟨z, its, n, r, hl, e⟩ := I.lstM hH
  have hz63 : i < 2 ^ 63 := by have := line63; omega
  refine call_meets F.slot_list_insert ⟨_, e, rfl⟩ F.entry_list_insert (F.args_list_insert_3 _ _ _)
    (AutoSeq1.list_insert_list_int_val_1 l its.toArray n i t u' (by simp [Builtin.List.listFitsIndex]; omega) (by rw [List.size_toArray]; omega)) ⟨e, ?_⟩
  refine ⟨.non, _, I.lset (its' := its.take i.toNat ++ u' :: its.drop i.toNat) hH e ?_ (Vals.ins r ru' _) ?_, rfl, q⟩
  · have hk : (if i < 0 then (i + (its.toArray.size : Int)).toNat else min i.toNat its.toArray.size) = i.toNat := by
      rw [if_neg (by omega), List.size_toArray]
      omega
    show (its.toArray.extract 0 (if i < 0 then (i + (its.toArray.size : Int)).toNat else min i.toNat its.toArray.size)).push u' ++ its.toArray.extract (if i < 0 then (i + (its.toArray.size : Int)).toNat else min i.toNat its.toArray.size) = _
    rw [hk]
    apply Array.ext'
    simp [List.take_of_length_le]
  · rw [List.length_append, List.length_cons, List.length_take, List.length_drop]
    omega
end
theorem pickI {xs : List V} {r : Int} (P : V → Prop) (h0 : 0 ≤ r) (h1 : r < xs.length) (hall : ∀ x ∈ xs, P x) : ∃ v, atI xs r = some v ∧ P v := by
  have hi : r.toNat < xs.length := by omega
  refine ⟨xs[r.toNat], ?_, hall _ (List.getElem_mem hi)⟩
  have := atI_nat (xs := xs) (j := r.toNat) (v := xs[r.toNat]) (List.getElem?_eq_getElem hi)
  rw [Int.toNat_of_nonneg h0] at this
  exact this
theorem pickN {xs : List V} {r : Int} {v : V} (h0 : 0 ≤ r) (h : xs[r.toNat]? = some v) : atI xs r = some v := by
  have := atI_nat h
  rw [Int.toNat_of_nonneg h0] at this
  exact this
section
variable {X : Cx} {es : List Expr} {te : TE} {t : TA}
theorem pa_const {v : Const} {j} {p : Pos} (ha : PE X (.Constant v j p) te) (hr : PA X es t) : PA X ((.Constant v j p) :: es) (tCons te t) := pa_cons ha hr rfl
theorem pa_name {x : Str} {p : Pos} (ha : PE X (.Name x p) te) (hr : PA X es t) : PA X ((.Name x p) :: es) (tCons te t) := pa_cons ha hr rfl
theorem pa_bin {a b : Expr} {op : Operator} {p : Pos} (ha : PE X (.BinOp a op b p) te) (hr : PA X es t) : PA X ((.BinOp a op b p) :: es) (tCons te t) := pa_cons ha hr rfl
theorem pa_un {a : Expr} {op : UnaryOp} {p : Pos} (ha : PE X (.UnaryOp op a p) te) (hr : PA X es t) : PA X ((.UnaryOp op a p) :: es) (tCons te t) := pa_cons ha hr rfl
theorem pa_call {f : Expr} {as : List Expr} {ks : List Keyword} {p : Pos} (ha : PE X (.Call f as ks p) te) (hr : PA X es t) : PA X ((.Call f as ks p) :: es) (tCons te t) := pa_cons ha hr rfl
theorem pa_sub {a b : Expr} {p : Pos} (ha : PE X (.Subscript a b p) te) (hr : PA X es t) : PA X ((.Subscript a b p) :: es) (tCons te t) := pa_cons ha hr rfl
theorem pa_tup {as : List Expr} {k} {p : Pos} (ha : PE X (.Tuple as k p) te) (hr : PA X es t) : PA X ((.Tuple as k p) :: es) (tCons te t) := pa_cons ha hr rfl
theorem pa_cmp {a : Expr} {os : List CmpOp} {bs : List Expr} {p : Pos} (ha : PE X (.Compare a os bs p) te) (hr : PA X es t) : PA X ((.Compare a os bs p) :: es) (tCons te t) := pa_cons ha hr rfl
theorem pa_ife {a b c : Expr} {p : Pos} (ha : PE X (.IfExp a b c p) te) (hr : PA X es t) : PA X ((.IfExp a b c p) :: es) (tCons te t) := pa_cons ha hr rfl
theorem pa_lc {a : Expr} {gs : List Comprehension} {sc : Scope} {p : Pos} (ha : PE X (.ListComp a gs sc p) te) (hr : PA X es t) : PA X ((.ListComp a gs sc p) :: es) (tCons te t) := pa_cons ha hr rfl
end
section
variable {X : Cx} {N : List Str} {scope : Scope} {cl : List (Str × Addr)} {C : Addr} {s₀ : Shared} {H₀ : Hp} {fp : List Addr}
theorem ixc_list : IxR (compCx X N scope cl C s₀ H₀ fp) (rIxL X.K) := ix_list (X := compCx X N scope cl C s₀ H₀ fp)
theorem ixc_tup : IxR (compCx X N scope cl C s₀ H₀ fp) (rIxT X.K) := ix_tup (X := compCx X N scope cl C s₀ H₀ fp)
theorem slc_tup : SlR (compCx X N scope cl C s₀ H₀ fp) (rSlT X.K) := sl_tup (X := compCx X N scope cl C s₀ H₀ fp)
theorem opc_in_seq : OpR (compCx X N scope cl C s₀ H₀ fp) (compareOp .In) (rIn X.K false) := op_in_seq (X := compCx X N scope cl C s₀ H₀ fp)
theorem callc_len_seq : CallR (compCx X N scope cl C s₀ H₀ fp) (.builtin "len") (fun xs H Q => ∃ p ys, xs = [.ref p] ∧ (SqL X.K H p ys ∨ SqT X.K H p ys) ∧ Q (.int ys.length) H) := call_len_seq (X := compCx X N scope cl C s₀ H₀ fp)
theorem pgc_tup {es : List Expr} {k : Nat} {t : TGs} {n : Nat} {pos : Pos} (hc : X.calm = true) (h : PGs (compCx X N scope cl C s₀ H₀ fp) es t)
    (hn : (assignEach es (compCx X N scope cl C s₀ H₀ fp).env).length = n := by rfl) (hst : (assignEach es (compCx X N scope cl C s₀ H₀ fp).env).findIdx? (·.1) = none := by rfl) : PG (compCx X N scope cl C s₀ H₀ fp) (.Tuple es k pos) (gTup X.K n t) :=
  pg_tup (X := compCx X N scope cl C s₀ H₀ fp) hc h hn hst
end
end L2

namespace L2
open PySem PySem.Spec PyProof.Rows
set_option maxHeartbeats 4000000
theorem vals_intItems : ∀ {ns : List Int} {us : List Value}, Vals (ns.map V.int) us → ∃ ys : List (Int × Tok), us = (ys.map fun p => Value.int p.1 p.2) ∧ ys.map (·.1) = ns
  | [], us, r => by cases r; exact ⟨[], rfl, rfl⟩
  | n :: ns, us, r => by
    cases r with
    | cons h r =>
      obtain ⟨t, rfl⟩ := h
      obtain ⟨ys, rfl, e⟩ := vals_intItems r
      exact ⟨(n, t) :: ys, rfl, by simp [e]⟩
section
variable {X : Cx}
theorem call_sum (hc : X.calm = true) : CallR X (.builtin "sum") (fun xs H Q => ∃ (p : Addr) (ns : List Int), xs = [.ref p] ∧ SqL X.K H p (ns.map V.int) ∧ Q (.int ns.sum) H) := by
  intro pins s σ H xs us Q I r h
  obtain ⟨p, ns, rfl, hq, q⟩ := h
  obtain ⟨u, rfl, rx⟩ := vals1 r
  cases rx
  obtain ⟨its, r', pl, hz⟩ := I.list hq
  obtain ⟨ys, rfl, e⟩ := vals_intItems r'
  have hl : s.heap.IsList p (intItems ys.toArray) := by
    have := pl.isList
    simpa [intItems] using this
  refine sum_intListG (I.ok.hd hc) hl fun h' tk t' k => ⟨.int ns.sum, H, I.kept k, ⟨t', ?_⟩, q⟩
  rw [preSum_eq, List.take_of_length_le (by simp), ← e]
end
section
variable {X : Cx} {N : List Str} {scope : Scope} {cl : List (Str × Addr)} {C : Addr} {s₀ : Shared} {H₀ : Hp} {fp : List Addr}
end
theorem fm_rev (xs : List Value) : ∀ n, n ≤ xs.length → (List.range n).filterMap (fun k => xs[xs.length - 1 - k]?) = (xs.drop (xs.length - n)).reverse
  | 0, _ => by simp
  | n + 1, h => by
    rw [List.range_succ, List.filterMap_append, fm_rev xs n (by omega)]
    have hk : xs.length - 1 - n < xs.length := by omega
    have : xs.drop (xs.length - (n + 1)) = xs[xs.length - 1 - n] :: xs.drop (xs.length - n) := by
      rw [show xs.length - (n + 1) = xs.length - 1 - n by omega, List.drop_eq_getElem_cons hk, show xs.length - 1 - n + 1 = xs.length - n by omega]
    rw [this, List.reverse_cons]
    simp [List.getElem?_eq_getElem hk]
theorem Vals.rev {xs : List V} {us : List Value} (r : Vals xs us) : Vals xs.reverse us.reverse := by
  induction r with
  | nil => exact .nil
  | cons h r ih => rw [List.reverse_cons, List.reverse_cons]; exact ih.append (.cons h .nil)
section
variable {X : Cx} {e st : Expr} {te tst : TE} {pos p2 : Pos}
end
end L2
namespace HT
open PySem PySem.Spec PyProof.Rows
section
variable {prog : Program} {w : World} {A : Around} {E : Value → Shared → Prop} {s : Shared}
theorem getItem_tuple_all {t sl : Addr} {items : Array Value} {vl vu : Value} {lo hi : Option Int} {Q : Value → Shared → Prop} (ht : IsTup s.heap t items) (hs : s.heap.IsSliceOf sl vl vu .none) (pl : IsPart vl lo) (pu : IsPart vu hi)
    (hw : sIx items.size 0 lo = 0 ∧ sIx items.size items.size hi = items.size) (h : Q (.ref t) s) : wpAny (model prog w) A (getItem (.ref t) (.ref sl)) Q E s := by
  obtain ⟨os, hos, hcs, hds⟩ := id hs
  have hTs : s.TypeIs (.ref sl) "slice" := ⟨os, hos, hcs⟩
  unfold getItem
  try with_reducible refine wpAny_holding ?_
  first | refine wpAny_bind (wpAny_pure ?_) | skip
  refine wpAny_bind (wpAny_sequenceKey ht.typeIs (by decide) ?_)
  refine wpAny_bind (wpAny_callSpecial?_slot (name := Str.ofString "__getitem__") ht.typeIs PyProof.Rows.slot_tuple_getitem
    (wpAny_call_entry PyProof.Rows.slot_tuple_getitem ht.typeIs entry_tuple_getitem ?_ (args_tuple_getitem _ _)))
  show wpAny _ _ (Builtin.Tuple.tupleItemsOf (.ref t) >>= _) _ _ s
  refine wpAny_bind (tupleItemsOf_ ht ?_)
  refine wpAny_bind (wpAny_typeOf hTs ?_)
  rw [if_pos (by decide)]
  refine wpAny_bind (sliceApplied_gen hs pl pu ?_)
  have hyes : ((((sIx items.size 0 lo : Nat) : Int) == 0 && (1 : Int) == 1 && (sIx items.size items.size hi - sIx items.size 0 lo) == items.size) = true) := by
    rw [hw.1, hw.2]
    simp
  show wpAny _ _ (if (((sIx items.size 0 lo : Nat) : Int) == 0 && (1 : Int) == 1 && (sIx items.size items.size hi - sIx items.size 0 lo) == items.size) = true then _ else _) _ _ s
  rw [if_pos hyes]
  refine wpAny_bind (m := Builtin.Tuple.tupleIsExact (.ref t)) ?_
  unfold Builtin.Tuple.tupleIsExact
  refine wpAny_bind (wpAny_typeOf ht.typeIs (wpAny_pure ?_))
  rw [if_pos (by decide)]
  exact wpAny_bind (wpAny_rule (wpAny_pure ⟨_, rfl, wpAny_pure h⟩))
end
end HT
namespace L2
open PySem PySem.Spec PyProof.Rows
section
variable {X : Cx}
def rSlW (K : PySem.W.Frag) : V → Option Int → Option Int → Hp → VK → Prop := fun x lo hi H Q => ∃ a xs, x = .ref a ∧ SqT K H a xs ∧
  (HT.sIx xs.length 0 lo = 0 ∧ HT.sIx xs.length xs.length hi = xs.length) ∧ Q (.ref a) H
theorem sl_tupW : SlR X (rSlW X.K) := by
  intro pins s σ H x v vl vu lo hi sl Q I rx hs pl pu h
  obtain ⟨a, xs, rfl, hx, hw, q⟩ := h
  cases rx
  obtain ⟨its, r, ht, hz⟩ := I.tuple hx
  have hlen : its.toArray.size = xs.length := by rw [List.size_toArray]; exact r.length.symm
  refine ⟨"tuple", _, PyProof.Rows.slot_tuple_getitem.lookup, ht.typeIs, ?_⟩
  exact HT.getItem_tuple_all ht hs pl pu (by rw [hlen]; exact hw) ⟨.ref a, H, I, rfl, q⟩
theorem sl_tupG : SlR X (fun x lo hi H Q => rSlT X.K x lo hi H Q ∨ rSlW X.K x lo hi H Q) := SlR.or sl_tup sl_tupW
end
theorem seq_cut {t u : TS} {D : Ends} {σ : St} {H : Hp} (P : St → Hp → Prop) (h2 : ∀ σ' H', P σ' H' → u D σ' H') (h1 : ∀ N : St → Hp → Prop, (∀ σ' H', P σ' H' → N σ' H') → t { D with nx := N } σ H) : tSeq t u D σ H := h1 (u D) h2
theorem vals_of_get : ∀ (xs : List V) (us : List Value), xs.length = us.length → (∀ (i : Nat) (x : V) (u : Value), xs[i]? = some x → us[i]? = some u → RelV x u) → Vals xs us
  | [], [], _, _ => .nil
  | x :: xs, u :: us, h, g => .cons (g 0 x u rfl rfl) (vals_of_get xs us (by simpa using h) fun i y z hy hz => g (i + 1) y z (by simpa using hy) (by simpa using hz))
  | [], _ :: _, h, _ => by simp at h
  | _ :: _, [], h, _ => by simp at h
def tListRng (ta : TA) : TE := fun σ H Q => ta σ H fun vs H1 => ∃ j : Int, vs = [.int j] ∧ 0 ≤ j ∧ j ≤ 1000000 ∧ ∀ l, H1 l = none → Q (.ref l) (upd H1 l (.lst ((List.range j.toNat).map fun k : Nat => V.int (k : Int))))
section
variable {X : Cx}
theorem pe_listRange {a : Expr} {ta : TA} {p p2 pos pos2 : Pos} (hc : X.calm = true) (hgl : Gl X "list") (hml : X.mg "list" = none) (hgr : Gl X "range") (hmr : X.mg "range" = none) (ha : PA X [a] ta) (hs : starEach [a] X.env = [(false, eval a X.env)] := by rfl)
    (hs2 : starEach [.Call (.Name "range" p2) [a] [] pos2] X.env = [(false, eval (.Call (.Name "range" p2) [a] [] pos2) X.env)] := by rfl) : PE X (.Call (.Name "list" p) [.Call (.Name "range" p2) [a] [] pos2] [] pos) (tListRng ta) := by
  intro pins s σ H Q I h
  refine wpAny_Call_Name_kw (ld_blt I hgl hml boot_list ?_ (by decide) (by decide))
  refine PyProof.Rows.callWith_type1 ?_ hs2 rfl
  rw [hs2]
  refine Calls.spliced_cons (rest := []) ?_
  refine Call_ (ld_blt I hgr hmr boot_range (PyProof.Rows.callWith_type1 (thn (ha pos2 pins s σ H _ I h) fun us s1 ⟨vs, H1, I1, r1, q1⟩ => ?_) hs rfl))
  obtain ⟨j, e, h0, h1, q⟩ := q1
  subst e
  cases r1 with
  | cons r rr =>
    cases rr
    obtain ⟨t, rfl⟩ := r
    refine call_range_1 ?_
    refine wpAny_pure ?_
    have I2 : Inv X pins σ H1 { s1 with heap := s1.heap.push { cls := .type "range", data := .fields #[.int 0 s1.toks, .int j t, .int 1 (s1.toks + 1)] }, toks := s1.toks + 1 + 1 } := I1.kept fun b o e => Heap.get?_push_of_some _ e
    have hn : Builtin.Range.rangeSize 0 j 1 = (j.toNat : Nat) := by rw [rangeSize_one]; split <;> omega
    refine call_list_range (I2.ok.hd hc) (IsRange.new ..) (small_one (by omega) (by omega) (by omega) (by omega)) hn (by omega) fun h' tk acc' c' hk hS' hacc => ?_
    have hv : Vals ((List.range j.toNat).map fun k : Nat => V.int (k : Int)) acc'.toList := vals_of_get _ _ (by simp [hacc.1]) fun i x u hx hu => by
      have hi : i < j.toNat := by
        have := (List.getElem?_eq_some_iff.mp hx).1
        simpa using this
      rw [List.getElem?_map, List.getElem?_range hi] at hx
      obtain ⟨tk', e⟩ := hacc.2 i u (by simpa using hu)
      cases hx
      exact ⟨tk', by rw [e]; congr 1; omega⟩
    have hz : ((List.range j.toNat).map fun k : Nat => V.int (k : Int)).length ≤ sizeLine := by
      rw [List.length_map, List.length_range]
      exact Nat.le_trans (show j.toNat ≤ 1000000 by omega) (by decide)
    refine ⟨.ref _, _, I2.laid (t' := tk) (o := .lst ((List.range j.toNat).map fun k : Nat => V.int (k : Int))) hk (Nat.le_refl _) ?_, rfl, q _ (I2.hok.fresh (Nat.le_refl _))⟩
    exact ⟨hz, _, c', hv, hS'⟩
end
end L2
namespace HT
open PySem PySem.Spec PyProof.Rows
section
variable {prog : Program} {w : World} {A : Around} {E : Value → Shared → Prop} {s : Shared}
theorem sliceApplied_rev {sl : Addr} {t : Tok} {n : Nat} {Q : Int × Int × Nat → Shared → Prop} (hs : s.heap.IsSliceOf sl .none .none (.int (-1) t)) (h : Q ((n : Int) - 1, -1, n) s) : wpAny (model prog w) A (Builtin.Slice.sliceApplied (.ref sl) (pure (n : Int))) Q E s := by
  obtain ⟨os, hos, hcs, hds⟩ := id hs
  unfold Builtin.Slice.sliceApplied Builtin.Slice.sliceFields
  refine wpAny_bind (wpAny_bind (wpAny_field hos hds (x := .none) rfl (wpAny_bind (wpAny_field hos hds (x := .none) rfl (wpAny_bind (wpAny_field hos hds (x := .int (-1) t) rfl (wpAny_pure ?_)))))))
  refine wpAny_bind (slicePart_ (.int (-1) t) ?_)
  show wpAny _ _ (if ((-1 : Int) == 0) = true then _ else _) _ _ s
  rw [if_neg (by decide)]
  refine wpAny_bind (slicePart_ .none (wpAny_bind (slicePart_ .none (wpAny_bind (wpAny_pure ?_)))))
  have e1 : Builtin.Slice.sliceAdjust none none (-1) (n : Int) = ((n : Int) - 1, -1) := rfl
  have e2 : Builtin.Slice.slicePlaces ((n : Int) - 1) (-1) (-1) = n := by
    unfold Builtin.Slice.slicePlaces
    rw [if_neg (by omega), show (- -1 : Int) = 1 from rfl, Int.ediv_one]
    split <;> omega
  show wpAny _ _ (match Builtin.Slice.sliceAdjust none none (-1) (n : Int) with | (lo, hi) => pure (lo, (-1 : Int), Builtin.Slice.slicePlaces lo hi (-1))) _ _ s
  rw [e1]
  show wpAny _ _ (pure ((n : Int) - 1, (-1 : Int), Builtin.Slice.slicePlaces ((n : Int) - 1) (-1) (-1))) _ _ s
  rw [e2]
  exact wpAny_pure h
theorem pick_rev (xs : List Value) : ((List.range xs.length).filterMap fun (k : Nat) => xs.toArray[((xs.length : Int) - 1 + (k : Int) * (-1)).toNat]?).toArray = xs.reverse.toArray := by
  have := L2.fm_rev xs xs.length (Nat.le_refl _)
  rw [Nat.sub_self, List.drop_zero] at this
  rw [← this]
  congr 1
  refine congrArg (fun f => List.filterMap f (List.range xs.length)) (funext fun k => ?_)
  rw [show ((xs.length : Int) - 1 + (k : Int) * (-1)).toNat = xs.length - 1 - k by omega]
  simp
theorem getItem_tuple_rev {t sl : Addr} {its : List Value} {tk : Tok} {Q : Value → Shared → Prop} (ht : IsTup s.heap t its.toArray) (hs : s.heap.IsSliceOf sl .none .none (.int (-1) tk))
    (h : Q (.ref s.heap.objs.size) { s with heap := s.heap.push { cls := .type "tuple", data := .seq its.reverse.toArray } }) (hsz : its.length ≤ sizeLine) : wpAny (model prog w) A (getItem (.ref t) (.ref sl)) Q E s := by
  have htake : sizeOk (.seq its.reverse.toArray) := by
    show its.reverse.toArray.size ≤ sizeLine
    rw [List.size_toArray, List.length_reverse]
    exact hsz
  obtain ⟨os, hos, hcs, hds⟩ := id hs
  have hTs : s.TypeIs (.ref sl) "slice" := ⟨os, hos, hcs⟩
  unfold getItem
  try with_reducible refine wpAny_holding ?_
  first | refine wpAny_bind (wpAny_pure ?_) | skip
  refine wpAny_bind (wpAny_sequenceKey ht.typeIs (by decide) ?_)
  refine wpAny_bind (wpAny_callSpecial?_slot (name := Str.ofString "__getitem__") ht.typeIs PyProof.Rows.slot_tuple_getitem
    (wpAny_call_entry PyProof.Rows.slot_tuple_getitem ht.typeIs entry_tuple_getitem ?_ (args_tuple_getitem _ _)))
  show wpAny _ _ (Builtin.Tuple.tupleItemsOf (.ref t) >>= _) _ _ s
  refine wpAny_bind (tupleItemsOf_ ht ?_)
  refine wpAny_bind (wpAny_typeOf hTs ?_)
  rw [if_pos (by decide)]
  refine wpAny_bind (sliceApplied_rev (n := its.length) hs ?_)
  have hno : ¬ ((((its.length : Int) - 1) == 0 && (-1 : Int) == 1 && its.length == its.toArray.size) = true) := by simp
  show wpAny _ _ (if (((its.length : Int) - 1) == 0 && (-1 : Int) == 1 && its.length == its.toArray.size) = true then _ else _) _ _ s
  rw [if_neg hno, pick_rev]
  first
    | exact wpAny_bind (m := Builtin.Tuple.tupleExact _) (wpAny_newObj_type (wpAny_pure ⟨_, rfl, wpAny_pure h⟩) htake)
    | exact wpAny_bind (m := Builtin.Tuple.tupleExact _) (wpAny_newObj_type (wpAny_bind (wpAny_pure (wpAny_pure ⟨_, rfl, wpAny_pure h⟩))) htake)
    | exact wpAny_bind (wpAny_bind (m := Builtin.Tuple.tupleExact _) (wpAny_newObj_type (wpAny_pure (wpAny_pure ⟨_, rfl, wpAny_pure h⟩)) htake))
    | exact wpAny_bind (wpAny_bind (m := Builtin.Tuple.tupleExact _) (wpAny_newObj_type (wpAny_pure ⟨_, rfl, wpAny_pure h⟩) htake))
end
end HT
namespace L2
open PySem PySem.Spec PyProof.Rows
section
variable {X : Cx} {e st : Expr} {te tst : TE} {pos p2 : Pos}
def tRevT (K : PySem.W.Frag) (te tst : TE) : TE := fun σ H Q => te σ H fun x H1 => tst σ H1 fun y H2 => ∃ a xs, x = .ref a ∧ SqT K H2 a xs ∧ y = .int (-1) ∧ ∀ p, H2 p = none → Q (.ref p) (upd H2 p (.tup xs.reverse))
theorem pe_revT (he : PE X e te) (hs : PE X st tst) : PE X (.Subscript e (.Slice none none (some st) p2) pos) (tRevT X.K te tst) := by
  intro pins s σ H Q I h
  refine Subscript_ (thn (he pins s σ H _ I h) fun v s1 ⟨x, H1, I1, r1, q1⟩ => ?_)
  refine wpAny_Slice ?_
  rw [evalPart_none, evalPart_some]
  refine wpAny_pure (wpAny_pure ?_)
  refine thn (hs pins s1 σ H1 _ I1 q1) fun u s3 ⟨y, H3, I3, r3, q3⟩ => ?_
  have I4 : Inv X pins σ H3 { s3 with heap := s3.heap.push { cls := .type "slice", data := .fields #[.none, .none, u] } } := I3.kept (t' := s3.toks) fun b ob q => Heap.get?_push_of_some _ q
  obtain ⟨a, xs, rfl, hx, rfl, q⟩ := q3
  cases r1
  obtain ⟨t, rfl⟩ := r3
  obtain ⟨its, r, ht, hz⟩ := I4.tuple hx
  have hlen := r.length
  show wpAny (model X.prog X.w) X.A (subscriptTail e (.Slice none none (some st) p2) (.ref a) (.ref s3.heap.objs.size)) (EP X pins σ Q) X.xe { s3 with heap := s3.heap.push { cls := .type "slice", data := .fields #[.none, .none, .int (-1) t] } }
  refine tail_any (ops := [.ref a, .ref s3.heap.objs.size]) ht.typeIs PyProof.Rows.slot_tuple_getitem.lookup ?_ (by with_unfolding_all rfl)
  refine HT.getItem_tuple_rev ht (Heap.IsSliceOf.new ..) ?_ (by rw [← hlen]; exact hz)
  refine ⟨.ref _, _, I4.laid (t' := s3.toks) (o := .tup xs.reverse) (fun b ob q => Heap.get?_push_of_some _ q) (Nat.le_refl _) ?_, rfl, q _ (I4.hok.fresh (Nat.le_refl _))⟩
  exact ⟨by rw [List.length_reverse]; exact hz, _, r.rev, TupD.new _ _⟩
end
section
variable {X : Cx} {N : List Str} {scope : Scope} {cl : List (Str × Addr)} {C : Addr} {s₀ : Shared} {H₀ : Hp} {fp : List Addr}
end
end L2

namespace L2
open PySem PySem.Spec PyProof.Rows
theorem boot_repr' : bootBuiltins "repr" = some (.builtin "repr") := by decide +kernel
end L2
namespace Bp
open PySem L2
set_option maxHeartbeats 4000000
structure Txt (mg : Str → Option Value) : Prop where
  n_len : mg "len" = none
  n_repr : mg "repr" = none
  n_min : mg "min" = none
  n_max : mg "max" = none
  n_tuple : mg "tuple" = none
  n_list : mg "list" = none
  n_int : mg "int" = none
  n_range : mg "range" = none
  n_sum : mg "sum" = none
  n_all : mg "all" = none
  n_any : mg "any" = none
  n_sorted : mg "sorted" = none
  n_enumerate : mg "enumerate" = none
  n_isinstance : mg "isinstance" = none
  n_set : mg "set" = none

def fd0 (c : Addr) (a l t : Int) : List (Key × V) := [(.inr "cells", .ref c), (.inr "at", .int a), (.inr "left", .int l), (.inr "turn", .int t)]
structure FeedAt (H : Hp) (f c : Addr) : Prop where
  ex : ∃ (ns : List Int) (a l t : Int), H f = some (.dK (fd0 c a l t)) ∧ H c = some (.lst (ns.map V.int)) ∧ ns ≠ [] ∧ ns.length ≤ 64
theorem FeedAt.ne {H : Hp} {f c : Addr} (h : FeedAt H f c) : c ≠ f := by
  obtain ⟨ns, a, l, t, e1, e2, _⟩ := h.ex
  exact ne_of e2 e1 (by intro z; cases z)
theorem FeedAt.some {H : Hp} {f c : Addr} (h : FeedAt H f c) : ∃ kvs, H f = some (.dK kvs) := by
  obtain ⟨ns, a, l, t, e1, e2, _⟩ := h.ex
  exact ⟨_, e1⟩
theorem FeedAt.same {H H' : Hp} {f c : Addr} (h : FeedAt H f c) (s : Same H H') : FeedAt H' f c := by
  obtain ⟨ns, a, l, t, e1, e2, n1, n2⟩ := h.ex
  exact ⟨ns, a, l, t, s _ _ e1, s _ _ e2, n1, n2⟩
theorem FeedAt.off {H : Hp} {f c p : Addr} {o : HO} (h : FeedAt H f c) (hf : p ≠ f) (hc : p ≠ c) : FeedAt (upd H p o) f c := by
  obtain ⟨ns, a, l, t, e1, e2, n1, n2⟩ := h.ex
  exact ⟨ns, a, l, t, by rw [upd_ne hf.symm]; exact e1, by rw [upd_ne hc.symm]; exact e2, n1, n2⟩
theorem FeedAt.new {H : Hp} {f c p : Addr} {o : HO} (h : FeedAt H f c) (hp : H p = none) : FeedAt (upd H p o) f c := h.same (Same.new hp)
theorem FeedAt.away {H : Hp} {f c p : Addr} (h : FeedAt H f c) (hp : H p = none) : p ≠ f ∧ p ≠ c := by
  obtain ⟨ns, a, l, t, e1, e2, _⟩ := h.ex
  exact ⟨(ne_of_none e1 hp).symm, (ne_of_none e2 hp).symm⟩
theorem FeedAt.tk {H H' : Hp} {f c : Addr} (h : FeedAt H f c) (s : Sm f H H') : TK H H' := by
  obtain ⟨kvs, e⟩ := h.some
  exact s.tk e
theorem FeedAt.free {H H' : Hp} {f c p : Addr} (h : FeedAt H f c) (h' : FeedAt H' f c) (s : Sm f H H') (hp : H' p = none) : H p = none := by
  obtain ⟨kvs, e⟩ := h.some
  obtain ⟨kvs', e'⟩ := h'.some
  exact s.free e hp (by rw [e']; simp)

def sp_draw : Sp := fun vs H Q _ => ∃ (f c : Addr) (m : Int), vs = [.ref f, .int m] ∧ 0 < m ∧ m < 1000000000 ∧ FeedAt H f c ∧ ∀ (r : Int) (H' : Hp), 0 ≤ r → r < m → FeedAt H' f c → Sm f H H' → Q (.int r) H'
def sp_feed (K : PySem.W.Frag) : Sp := fun vs H Q _ => ∃ (a : Addr) (ns : List Int), vs = [.ref a] ∧ SqL K H a (ns.map V.int) ∧ ns.length ≤ 63 ∧ ∀ (f c : Addr) (H' : Hp), FeedAt H' f c → Same H H' → Q (.ref f) H'
theorem s_cells_at : ¬ (("cells" : Str) = ("at" : Str)) := by decide +kernel
theorem s_cells_left : ¬ (("cells" : Str) = ("left" : Str)) := by decide +kernel
theorem s_cells_turn : ¬ (("cells" : Str) = ("turn" : Str)) := by decide +kernel
theorem s_at_left : ¬ (("at" : Str) = ("left" : Str)) := by decide +kernel
theorem s_at_turn : ¬ (("at" : Str) = ("turn" : Str)) := by decide +kernel
theorem s_left_at : ¬ (("left" : Str) = ("at" : Str)) := by decide +kernel
theorem s_left_turn : ¬ (("left" : Str) = ("turn" : Str)) := by decide +kernel
theorem s_turn_at : ¬ (("turn" : Str) = ("at" : Str)) := by decide +kernel
theorem s_turn_left : ¬ (("turn" : Str) = ("left" : Str)) := by decide +kernel
theorem k_cells_at : ¬ ((Sum.inr ("cells" : Str) : Key) = Sum.inr ("at" : Str)) := by decide +kernel
theorem k_cells_left : ¬ ((Sum.inr ("cells" : Str) : Key) = Sum.inr ("left" : Str)) := by decide +kernel
theorem k_cells_turn : ¬ ((Sum.inr ("cells" : Str) : Key) = Sum.inr ("turn" : Str)) := by decide +kernel
theorem k_at_left : ¬ ((Sum.inr ("at" : Str) : Key) = Sum.inr ("left" : Str)) := by decide +kernel
theorem k_at_turn : ¬ ((Sum.inr ("at" : Str) : Key) = Sum.inr ("turn" : Str)) := by decide +kernel
theorem k_left_turn : ¬ ((Sum.inr ("left" : Str) : Key) = Sum.inr ("turn" : Str)) := by decide +kernel
section
variable {c : Addr} {a l t : Int}
theorem kcells : valV (fd0 c a l t) (Sum.inr ("cells" : Str) : Key) = some (.ref c) := by
  unfold fd0; rw [valV_pos rfl]
theorem kat : valV (fd0 c a l t) (Sum.inr ("at" : Str) : Key) = some (.int a) := by
  unfold fd0; rw [valV_neg k_cells_at, valV_pos rfl]
theorem kleft : valV (fd0 c a l t) (Sum.inr ("left" : Str) : Key) = some (.int l) := by
  unfold fd0; rw [valV_neg k_cells_left, valV_neg k_at_left, valV_pos rfl]
theorem kturn : valV (fd0 c a l t) (Sum.inr ("turn" : Str) : Key) = some (.int t) := by
  unfold fd0; rw [valV_neg k_cells_turn, valV_neg k_at_turn, valV_neg k_left_turn, valV_pos rfl]
theorem pturn (x : Int) : putK (fd0 c a l t) (Sum.inr ("turn" : Str) : Key) (.int x) = fd0 c a l x := by
  simp [putK, fd0, s_cells_turn, s_at_turn, s_left_turn]
theorem pat (x : Int) : putK (fd0 c a l t) (Sum.inr ("at" : Str) : Key) (.int x) = fd0 c x l t := by
  simp [putK, fd0, s_cells_at, s_left_at, s_turn_at]
theorem pleft (x : Int) : putK (fd0 c a l t) (Sum.inr ("left" : Str) : Key) (.int x) = fd0 c a x t := by
  simp [putK, fd0, s_cells_left, s_at_left, s_turn_left]
end
theorem dg {H : Hp} {f : Addr} {kvs : List (Key × V)} {k : Str} {v : V} (e : H f = some (.dK kvs)) (h : valV kvs (Sum.inr k : Key) = some v) : DGet H f (.str k) (some v) := .inl ⟨kvs, Sum.inr k, .inl e, rfl, h.symm⟩
theorem dp {H : Hp} {f : Addr} {kvs kvs' : List (Key × V)} {k : Str} {v : V} (e : H f = some (.dK kvs)) (h : putK kvs (Sum.inr k : Key) v = kvs') (hl : kvs.length < sizeLine) : DPut H f (.str k) v (upd H f (.dK kvs')) := .inl ⟨kvs, Sum.inr k, e, rfl, hl, by rw [h]⟩
theorem fd0_len {c : Addr} {a l t : Int} : (fd0 c a l t).length < sizeLine := by show 4 < sizeLine; decide
end Bp

namespace Bp
open PySem L2
set_option maxHeartbeats 4000000
structure Spn where
  ap : Bool
  one : Int
  other : Int
  low : Int
  high : Int
def Spn.word (s : Spn) : Str := if s.ap then "apart" else "span"
def Spn.d (s : Spn) : PyData := .tuple [.str s.word, .int s.one, .int s.other, .int s.low, .int s.high]
def Spn.vs (s : Spn) : List V := [.str s.word, .int s.one, .int s.other, .int s.low, .int s.high]
structure Spn.Ok (s : Spn) (works : Int) : Prop where
  o0 : 0 ≤ s.one
  o1 : s.one < works
  r0 : 0 ≤ s.other
  r1 : s.other < works
  l0 : 0 ≤ s.low
  l1 : s.low ≤ 50000
  h0 : 0 ≤ s.high
  h1 : s.high ≤ 100000
structure Spn.In (s : Spn) (works : Int) : Prop where
  o0 : 0 ≤ s.one
  o1 : s.one < works
  r0 : 0 ≤ s.other
  r1 : s.other < works
theorem Spn.Ok.inn {s : Spn} {works : Int} (h : s.Ok works) : s.In works := ⟨h.o0, h.o1, h.r0, h.r1⟩
def nameTable : List Str := ["a", "ab", "abc", "b", "ba", "works", "span", "apart", "at", "none", "hold", "zzzzzzzz", "z", "o", "find", "late", "n"]
def allNames : List Str := nameTable ++ (["ring", "stay"] : List Str)
structure Pln where
  names : List Str
  spans : List Spn
def Pln.d (P : Pln) : PyData := .tuple [.tuple (P.names.map .str), .tuple (P.spans.map Spn.d)]
structure Pln.Ok (P : Pln) (works most : Int) : Prop where
  n1 : (P.names.length : Int) = works
  n2 : ∀ x ∈ P.names, x ∈ allNames
  s1 : (P.spans.length : Int) ≤ most
  s2 : ∀ s ∈ P.spans, s.Ok works
theorem span_at {K : PySem.W.Frag} {H : Hp} {x : V} {s : Spn} (h : DV K H x s.d) : ∃ a, x = .ref a ∧ H a = some (.tup s.vs) := by
  unfold Spn.d at h
  cases h with
  | tup e r =>
    refine ⟨_, rfl, ?_⟩
    cases r with | cons a r =>
    cases r with | cons b r =>
    cases r with | cons c r =>
    cases r with | cons d r =>
    cases r with | cons g r =>
    cases r
    cases a; cases b; cases c; cases d; cases g
    exact e
theorem at_span {K : PySem.W.Frag} {H : Hp} {a : Addr} {s : Spn} (h : H a = some (.tup s.vs)) : DV K H (.ref a) s.d :=
  .tup h (.cons (.str _) (.cons (.int _) (.cons (.int _) (.cons (.int _) (.cons (.int _) .nil)))))
theorem noL_span (s : Spn) : noL s.d = true := rfl
theorem noLs_strs (l : List Str) : noLs (l.map PyData.str) = true := noLs_all.mpr fun d hd => by obtain ⟨x, _, rfl⟩ := List.mem_map.mp hd; rfl
theorem noLs_spans (l : List Spn) : noLs (l.map Spn.d) = true := noLs_all.mpr fun d hd => by obtain ⟨x, _, rfl⟩ := List.mem_map.mp hd; exact noL_span x
theorem noL_plan (P : Pln) : noL P.d = true := by simp [Pln.d, noL, noLs, noLs_strs, noLs_spans]
theorem dvs_strs {K : PySem.W.Frag} {H : Hp} : ∀ (l : List Str), DVs K H (l.map V.str) (l.map PyData.str)
  | [] => .nil
  | x :: r => .cons (.str x) (dvs_strs r)
theorem strs_dvs {K : PySem.W.Frag} {H : Hp} : ∀ {l : List Str} {xs : List V}, DVs K H xs (l.map PyData.str) → xs = l.map V.str
  | [], _, .nil => rfl
  | x :: r, _, .cons a b => by cases a; rw [strs_dvs b]; rfl
theorem plan_at {K : PySem.W.Frag} {H : Hp} {x : V} {P : Pln} (h : DV K H x P.d) : ∃ p pn ps xs, x = .ref p ∧ H p = some (.tup [.ref pn, .ref ps]) ∧ H pn = some (.tup (P.names.map V.str)) ∧ H ps = some (.tup xs) ∧ DVs K H xs (P.spans.map Spn.d) := by
  unfold Pln.d at h
  cases h with
  | tup e r =>
    cases r with | cons a r =>
    cases r with | cons b r =>
    cases r
    cases a with
    | tup e1 r1 =>
      cases b with
      | tup e2 r2 =>
        have := strs_dvs r1
        subst this
        exact ⟨_, _, _, _, rfl, e, e1, e2, r2⟩
theorem fits_name {x : Str} (h : x ∈ allNames) : Fits 82 0 (.str x) := by
  have hb : ∀ y ∈ allNames, y.length ≤ 8 ∧ ∀ c ∈ y.cps.toList, c < 16 ^ 8 := by decide +kernel
  exact Fits.str (m := 8) (hb x h).1 (hb x h).2
theorem fits_int {i : Int} (h1 : -10000000000 ≤ i) (h2 : i ≤ 10000000000) : Fits 1921 0 (.int i) := Fits.int (by
  have : (10000000000 : Nat) < 2 ^ 1000 := by decide +kernel
  omega)
theorem fits_word (s : Spn) : Fits 82 0 (.str s.word) := by
  unfold Spn.word
  split
  · exact fits_name (by decide +kernel)
  · exact fits_name (by decide +kernel)
theorem fits_span {s : Spn} {works : Int} (h : s.Ok works) (hw : works ≤ 1000) : Fits 10000 1 s.d := by
  have := h.o0; have := h.o1; have := h.r0; have := h.r1; have := h.l0; have := h.l1; have := h.h0; have := h.h1
  refine Fits.tupLe (n := 1921) (m := 5) (by simp) (fun d hd => ?_) (by decide)
  simp only [List.mem_cons, List.not_mem_nil, or_false] at hd
  rcases hd with rfl | rfl | rfl | rfl | rfl
  · exact (fits_word s).mono (by decide) (by decide)
  · exact fits_int (by omega) (by omega)
  · exact fits_int (by omega) (by omega)
  · exact fits_int (by omega) (by omega)
  · exact fits_int (by omega) (by omega)
theorem fits_plan {P : Pln} {works most : Int} (h : P.Ok works most) (hw : works ≤ 1000) (hm : most ≤ 100) : Fits 2100000 3 P.d := by
  refine Fits.tupLe (n := 1000300) (k := 2) (m := 2) (by simp) (fun d hd => ?_) (by decide)
  simp only [List.mem_cons, List.not_mem_nil, or_false] at hd
  rcases hd with rfl | rfl
  · refine (Fits.tupLe (n := 82) (k := 0) (m := 1000) (N := 84003) (by rw [List.length_map]; have := h.n1; omega) (fun d hd => ?_) (by decide)).mono (by decide) (by decide)
    obtain ⟨x, hx, rfl⟩ := List.mem_map.mp hd
    exact fits_name (h.n2 x hx)
  · refine Fits.tupLe (n := 10000) (k := 1) (m := 100) (by rw [List.length_map]; have := h.s1; omega) (fun d hd => ?_) (by decide)
    obtain ⟨x, hx, rfl⟩ := List.mem_map.mp hd
    exact fits_span (h.s2 x hx) hw

def sp_names : Sp := fun vs H Q _ => ∃ (f c : Addr) (m : Int), vs = [.ref f, .int m] ∧ 0 ≤ m ∧ m ≤ 1000 ∧ FeedAt H f c ∧
  ∀ (q : Addr) (nms : List Str) (H' : Hp), FeedAt H' f c → Sm f H H' → H' q = some (.tup (nms.map V.str)) → (nms.length : Int) = m → (∀ x ∈ nms, x ∈ nameTable) → Q (.ref q) H'
def sp_number : Sp := fun vs H Q _ => ∃ (f c : Addr) (m : Int), vs = [.ref f, .int m] ∧ 0 < m ∧ m ≤ 10000 ∧ FeedAt H f c ∧ ∀ (r : Int) (H' : Hp), 0 ≤ r → r ≤ 3 * m → FeedAt H' f c → Sm f H H' → Q (.int r) H'
def sp_span : Sp := fun vs H Q _ => ∃ (f c : Addr) (works m : Int), vs = [.ref f, .int works, .int m] ∧ 0 < works ∧ works ≤ 1000 ∧ 0 < m ∧ m ≤ 10000 ∧ FeedAt H f c ∧
  ∀ (q : Addr) (s : Spn) (H' : Hp), FeedAt H' f c → Sm f H H' → H' q = some (.tup s.vs) → s.Ok works → Q (.ref q) H'
def sp_fitting : Sp := fun vs H Q _ => ∃ (f c b : Addr) (bs : List Int) (m : Int), vs = [.ref f, .ref b, .int m] ∧ H b = some (.lst (bs.map V.int)) ∧ 0 < bs.length ∧ bs.length ≤ 1000 ∧ (∀ z ∈ bs, 0 ≤ z ∧ z < m) ∧ 0 < m ∧ m ≤ 10000 ∧ FeedAt H f c ∧
  ∀ (q : Addr) (s : Spn) (H' : Hp), FeedAt H' f c → Sm f H H' → H' q = some (.tup s.vs) → s.Ok bs.length → Q (.ref q) H'
def sp_plan (K : PySem.W.Frag) : Sp := fun vs H Q _ => ∃ (f c : Addr) (works most m : Int), vs = [.ref f, .int works, .int most, .int m] ∧ 0 < works ∧ works ≤ 100 ∧ 0 ≤ most ∧ most ≤ 24 ∧ 0 < m ∧ m ≤ 10000 ∧ FeedAt H f c ∧
  ∀ (q : Addr) (P : Pln) (H' : Hp), FeedAt H' f c → Sm f H H' → DV K H' (.ref q) P.d → P.Ok works 24 → Q (.ref q) H'
end Bp

namespace Bp
open PySem L2
set_option maxHeartbeats 4000000
theorem merge_fd0 (c : Addr) (a l t : Int) : mergeK [] (fd0 c a l t) = fd0 c a l t := by
  simp [mergeK, fd0, putK, s_cells_at, s_cells_left, s_cells_turn, s_at_left, s_at_turn, s_left_turn]
theorem cut63 {ns : List Int} (h : ns.length ≤ 63) : cutV (ns.map V.int) none (some 63) = ns.map V.int := by
  have hl : (ns.map V.int).length ≤ 63 := by simpa using h
  have e : HT.sIx (ns.map V.int).length (ns.map V.int).length (some 63) = (ns.map V.int).length := by
    have h0 : ¬ ((63 : Int) < 0) := by decide
    simp only [HT.sIx, if_neg h0]
    omega
  show ((ns.map V.int).drop 0).take (HT.sIx (ns.map V.int).length (ns.map V.int).length (some 63) - 0) = _
  rw [e, List.drop_zero, Nat.sub_zero]
  exact List.take_of_length_le (Nat.le_refl _)
def topZ (per : Int) (s : Spn) : Int := if s.ap then per - s.high else s.high
def endZ (per : Int) (s : Spn) : Int := if s.low + per - 1 < topZ per s then s.low + per - 1 else topZ per s
theorem ap_word (s : Spn) : decide (V.str s.word = V.str "span") = !s.ap := by
  have h1 : ¬ (("apart" : Str) = "span") := by decide +kernel
  unfold Spn.word
  cases s.ap <;> simp [h1]
def HasSpan (K : PySem.W.Frag) (H : Hp) (x : V) (P : Pln) (i : Int) (s : Spn) : Prop := DV K H x P.d ∧ 0 ≤ i ∧ P.spans[i.toNat]? = some s
theorem HasSpan.get {K : PySem.W.Frag} {H : Hp} {x : V} {P : Pln} {i : Int} {s : Spn} (h : HasSpan K H x P i s) :
    ∃ p pn ps xs q, x = .ref p ∧ SqT K H p [.ref pn, .ref ps] ∧ SqT K H ps xs ∧ atI xs i = some (.ref q) ∧ SqT K H q s.vs := by
  obtain ⟨dv, h0, hs⟩ := h
  obtain ⟨p, pn, ps, xs, rfl, e, e1, e2, r⟩ := plan_at dv
  obtain ⟨y, hy, dy⟩ := r.get' (i := i.toNat) (d := s.d) (by rw [List.getElem?_map, hs]; rfl)
  obtain ⟨q, rfl, eq⟩ := span_at dy
  exact ⟨p, pn, ps, xs, q, rfl, SqT.of e, SqT.of e2, pickN h0 hy, SqT.of eq⟩
end Bp

namespace L2
open PySem PySem.Spec PyProof.Rows
end L2
namespace Bp
open PySem L2
set_option maxHeartbeats 4000000
def bt (bs : List Int) (i : Int) : Int := bs.getD i.toNat 0
theorem bt_at {bs : List Int} {i : Int} (h0 : 0 ≤ i) (h1 : i < bs.length) : atI (bs.map V.int) i = some (.int (bt bs i)) := by
  refine pickN h0 ?_
  have hi : i.toNat < bs.length := by omega
  rw [List.getElem?_map, List.getElem?_eq_getElem hi]
  simp [bt, List.getD, List.getElem?_eq_getElem hi]
def lenZ (per : Int) (bs : List Int) (s : Spn) : Int := s.low + (bt bs s.other - bt bs s.one - s.low) % per
structure BeatsAt (H : Hp) (b : Addr) (bs : List Int) (works per : Int) : Prop where
  at_ : H b = some (.tup (bs.map V.int))
  len : (bs.length : Int) = works
  rng : ∀ z ∈ bs, 0 ≤ z ∧ z < per
theorem BeatsAt.same {H H' : Hp} {b : Addr} {bs : List Int} {works per : Int} (h : BeatsAt H b bs works per) (s : Same H H') : BeatsAt H' b bs works per := ⟨s _ _ h.at_, h.len, h.rng⟩
theorem BeatsAt.tk {H H' : Hp} {b : Addr} {bs : List Int} {works per : Int} (h : BeatsAt H b bs works per) (s : TK H H') : BeatsAt H' b bs works per := ⟨s _ _ h.at_, h.len, h.rng⟩
def sp_beats : Sp := fun vs H Q _ => ∃ (f c : Addr) (works m : Int), vs = [.ref f, .int works, .int m] ∧ 0 < works ∧ works ≤ 1000 ∧ 0 < m ∧ m ≤ 10000 ∧ FeedAt H f c ∧ ∀ (q : Addr) (bs : List Int) (H' : Hp), FeedAt H' f c → Sm f H H' → BeatsAt H' q bs works m → Q (.ref q) H'
def sp_end : Sp := fun vs H Q _ => ∃ (per : Int) (a : Addr) (s : Spn), vs = [.int per, .ref a] ∧ H a = some (.tup s.vs) ∧ Q (.int (endZ per s)) H
end Bp

namespace L2
open PySem PySem.Spec PyProof.Rows
set_option maxHeartbeats 4000000
section
variable {X : Cx} {pos : Pos}
def rCatG (K : PySem.W.Frag) : R2 := fun x y H Q => ∃ a b xs ys, x = .ref a ∧ y = .ref b ∧ SqT K H a xs ∧ SqT K H b ys ∧ xs.length + ys.length ≤ sizeLine ∧
  (xs = [] → Q (.ref b) H) ∧ (xs ≠ [] → ys = [] → Q (.ref a) H) ∧ (xs ≠ [] → ys ≠ [] → ∀ p, H p = none → Q (.ref p) (upd H p (.tup (xs ++ ys))))
theorem op_catG : OpR X (binaryOp .Add) (rCatG X.K) := by
  intro pins s σ H x y v u Q I rx ry h
  obtain ⟨a, b, xs, ys, rfl, rfl, ha, hb, hz, q0, q1, q2⟩ := h
  by_cases hx : xs = []
  · cases rx
    cases ry
    obtain ⟨its, r1, p1, _⟩ := I.tuple ha
    obtain ⟨its2, r2, p2, _⟩ := I.tuple hb
    have hv : its = [] := r1.nil_iff.mpr hx
    subst hv
    obtain ⟨⟨cls, dd, data, sl⟩, ho, hc, n, hd⟩ := id p1
    obtain ⟨⟨cls2, dd2, data2, sl2⟩, ho2, hc2, n2, hd2⟩ := id p2
    simp only at hc hd hc2 hd2
    subst hc hd hc2 hd2
    exact concat_meets ⟨_, ho, rfl⟩ ⟨_, ho2, rfl⟩ noFill_tuple_add seq_tuple_add PySem.F.slot_tuple_add PySem.F.entry_tuple_add (PySem.F.args_tuple_add_2 _ _)
      (tuple_addW0 a b _ its2.toArray n n2 dd dd2 sl sl2 rfl) ⟨ho, ho2, ⟨.ref b, H, I, rfl, q0 hx⟩⟩
  · exact op_catT pins s σ H _ _ _ _ Q I rx ry ⟨a, b, xs, ys, rfl, rfl, ha, hb, hx, hz, q1 hx, q2 hx⟩
theorem op_eq_nilT {k : Nat} (hr : Room k X.A) : OpR X (compareOp .Eq) (fun x y H Q => ∃ a b xs, x = .ref a ∧ y = .ref b ∧ SqT X.K H a xs ∧ SqT X.K H b [] ∧ Q (.bl xs.isEmpty) H) := by
  intro pins s σ H x y v u Q I rx ry h
  obtain ⟨a, b, xs, rfl, rfl, ha, hb, q⟩ := h
  cases rx; cases ry
  obtain ⟨its, rv, pa, _⟩ := I.tuple ha
  obtain ⟨its2, rv2, pb, _⟩ := I.tuple hb
  cases rv2
  have hu : X.A.units < cLine := hr.units0
  have e : ((List.range (min its.toArray.size ([] : List Value).toArray.size)).all (fun _ => true) && its.toArray.size == ([] : List Value).toArray.size) = xs.isEmpty := by
    cases rv <;> simp
  refine EqBoolInt.of_rc (SeqAt.RcAt.tuples (e := fun _ => true) (show s.heap.IsTuple a its.toArray from pa) (show s.heap.IsTuple b ([] : List Value).toArray from pb) hu fun j _ h2 => ?_) ?_
  · simp at h2
  · rw [e]
    exact ⟨.bl xs.isEmpty, H, I, rfl, q⟩
theorem op_ne_nilT {k : Nat} (hr : Room k X.A) : OpR X (compareOp .NotEq) (fun x y H Q => ∃ a b xs, x = .ref a ∧ y = .ref b ∧ SqT X.K H a xs ∧ SqT X.K H b [] ∧ Q (.bl (!xs.isEmpty)) H) := by
  intro pins s σ H x y v u Q I rx ry h
  obtain ⟨a, b, xs, rfl, rfl, ha, hb, q⟩ := h
  cases rx; cases ry
  obtain ⟨its, rv, pa, _⟩ := I.tuple ha
  obtain ⟨its2, rv2, pb, _⟩ := I.tuple hb
  cases rv2
  have hu : X.A.units < cLine := hr.units0
  have pa' : s.heap.IsTuple a its.toArray := pa
  have pb' : s.heap.IsTuple b ([] : List Value).toArray := pb
  cases rv with
  | nil =>
    refine EqBoolInt.of_rcne (SeqAt.RcNeAt.tuples (e := fun _ => true) pa' pb' hu fun j h1 _ => ?_) ⟨.bl false, H, I, rfl, q⟩
    simp at h1
  | cons r rr =>
    refine EqBoolInt.of_rcne (SeqAt.RcNeAt.tuples (e := fun _ => true) pa' pb' hu fun j _ h2 => ?_) ⟨.bl true, H, I, rfl, q⟩
    simp at h2
end
section
variable {X : Cx} {N : List Str} {scope : Scope} {cl : List (Str × Addr)} {C : Addr} {s₀ : Shared} {H₀ : Hp} {fp : List Addr}
end
end L2

namespace Bp
open PySem L2
set_option maxHeartbeats 4000000
def Pln.put (P : Pln) (i : Int) (s : Spn) : Pln := ⟨P.names, P.spans.set i.toNat s⟩
end Bp

namespace Bp
open PySem L2
set_option maxHeartbeats 4000000
structure FeedB (H : Hp) (f c : Addr) (n : Int) : Prop where
  ex : ∃ (ns : List Int) (a l t : Int), H f = some (.dK (fd0 c a l t)) ∧ H c = some (.lst (ns.map V.int)) ∧ 0 ≤ t ∧ t ≤ n
theorem FeedB.mono {H : Hp} {f c : Addr} {n m : Int} (h : FeedB H f c n) (e : n ≤ m) : FeedB H f c m := by
  obtain ⟨ns, a, l, t, e1, e2, n1, n2⟩ := h.ex
  exact ⟨ns, a, l, t, e1, e2, n1, by omega⟩
theorem FeedB.ne {H : Hp} {f c : Addr} {n : Int} (h : FeedB H f c n) : c ≠ f := by
  obtain ⟨ns, a, l, t, e1, e2, _⟩ := h.ex
  exact ne_of e2 e1 (by intro z; cases z)
theorem FeedB.some {H : Hp} {f c : Addr} {n : Int} (h : FeedB H f c n) : ∃ kvs, H f = some (.dK kvs) := by
  obtain ⟨ns, a, l, t, e1, e2, _⟩ := h.ex
  exact ⟨_, e1⟩
theorem FeedB.same {H H' : Hp} {f c : Addr} {n : Int} (h : FeedB H f c n) (s : Same H H') : FeedB H' f c n := by
  obtain ⟨ns, a, l, t, e1, e2, n1, n2⟩ := h.ex
  exact ⟨ns, a, l, t, s _ _ e1, s _ _ e2, n1, n2⟩
theorem FeedB.off {H : Hp} {f c p : Addr} {n : Int} {o : HO} (h : FeedB H f c n) (hf : p ≠ f) (hc : p ≠ c) : FeedB (upd H p o) f c n := by
  obtain ⟨ns, a, l, t, e1, e2, n1, n2⟩ := h.ex
  exact ⟨ns, a, l, t, by rw [upd_ne hf.symm]; exact e1, by rw [upd_ne hc.symm]; exact e2, n1, n2⟩
theorem FeedB.new {H : Hp} {f c p : Addr} {n : Int} {o : HO} (h : FeedB H f c n) (hp : H p = none) : FeedB (upd H p o) f c n := h.same (Same.new hp)
theorem FeedB.away {H : Hp} {f c p : Addr} {n : Int} (h : FeedB H f c n) (hp : H p = none) : p ≠ f ∧ p ≠ c := by
  obtain ⟨ns, a, l, t, e1, e2, _⟩ := h.ex
  exact ⟨(ne_of_none e1 hp).symm, (ne_of_none e2 hp).symm⟩
theorem FeedB.tk {H H' : Hp} {f c : Addr} {n : Int} (h : FeedB H f c n) (s : Sm f H H') : TK H H' := by
  obtain ⟨kvs, e⟩ := h.some
  exact s.tk e
theorem FeedB.free {H H' : Hp} {f c p : Addr} {n m : Int} (h : FeedB H f c n) (h' : FeedB H' f c m) (s : Sm f H H') (hp : H' p = none) : H p = none := by
  obtain ⟨kvs, e⟩ := h.some
  obtain ⟨kvs', e'⟩ := h'.some
  exact s.free e hp (by rw [e']; simp)
end Bp

namespace Bp
open PySem L2
set_option maxHeartbeats 4000000
end Bp

namespace Bp
open PySem L2
set_option maxHeartbeats 4000000
theorem bt_rng {ws : List Int} {i : Int} {a b : Int} (h : ∀ z ∈ ws, a ≤ z ∧ z ≤ b) (h0 : 0 ≤ i) (h1 : i < ws.length) : a ≤ bt ws i ∧ bt ws i ≤ b := by
  have hi : i.toNat < ws.length := by omega
  unfold bt
  rw [List.getD_eq_getElem?_getD, List.getElem?_eq_getElem hi]
  exact h _ (List.getElem_mem hi)
end Bp

namespace Bp
open PySem L2
set_option maxHeartbeats 4000000
def pairD2 (p : Int × Int) : PyData := .tuple [.int p.1, .int p.2]
def pairsD (l : List (Int × Int)) : PyData := .tuple (l.map pairD2)
theorem pair_at {K : PySem.W.Frag} {H : Hp} {x : V} {p : Int × Int} (h : DV K H x (pairD2 p)) : ∃ a, x = .ref a ∧ H a = some (.tup [.int p.1, .int p.2]) := by
  cases h with
  | tup h r =>
    cases r with
    | cons a r =>
      cases r with
      | cons b r =>
        cases r
        cases a
        cases b
        exact ⟨_, rfl, h⟩
theorem at_pair {K : PySem.W.Frag} {H : Hp} {a : Addr} {p : Int × Int} (h : H a = some (.tup [.int p.1, .int p.2])) : DV K H (.ref a) (pairD2 p) := .tup h (.cons (.int _) (.cons (.int _) .nil))
theorem pairs_at {K : PySem.W.Frag} {H : Hp} {x : V} {l : List (Int × Int)} (h : DV K H x (pairsD l)) : ∃ a xs, x = .ref a ∧ H a = some (.tup xs) ∧ DVs K H xs (l.map pairD2) := by
  cases h with
  | tup h r => exact ⟨_, _, rfl, h, r⟩
theorem pairs_get {K : PySem.W.Frag} {H : Hp} {xs : List V} {l : List (Int × Int)} {i : Nat} (h : DVs K H xs (l.map pairD2)) (hi : i < l.length) : ∃ b, xs[i]? = some (.ref b) ∧ H b = some (.tup [.int (l[i]).1, .int (l[i]).2]) := by
  obtain ⟨y, hy, dy⟩ := h.get' (i := i) (d := pairD2 l[i]) (by rw [List.getElem?_map, List.getElem?_eq_getElem hi]; rfl)
  obtain ⟨b, rfl, e⟩ := pair_at dy
  exact ⟨b, hy, e⟩
theorem pairs_item {K : PySem.W.Frag} {H : Hp} {xs : List V} {l : List (Int × Int)} {i : Nat} {x : V} (h : DVs K H xs (l.map pairD2)) (hx : xs[i]? = some x) : ∃ (hi : i < l.length) (b : Addr), x = .ref b ∧ H b = some (.tup [.int (l[i]).1, .int (l[i]).2]) := by
  have hl : xs.length = l.length := by rw [h.length, List.length_map]
  have hi : i < l.length := by rw [← hl]; exact (List.getElem?_eq_some_iff.mp hx).1
  obtain ⟨b, hb, e⟩ := pairs_get h hi
  rw [hx] at hb
  exact ⟨hi, b, Option.some.inj hb, e⟩
theorem noL_pairs (l : List (Int × Int)) : noL (pairsD l) = true := noLs_all.mpr fun d hd => by obtain ⟨x, _, rfl⟩ := List.mem_map.mp hd; rfl
theorem noLs_pairs (l : List (Int × Int)) : noLs (l.map pairD2) = true := noLs_all.mpr fun d hd => by obtain ⟨x, _, rfl⟩ := List.mem_map.mp hd; rfl
def EntOk (n : Nat) (e : Int × Int) : Prop := 0 ≤ e.1 ∧ e.1 < n ∧ (e.2 = 1 ∨ e.2 = -1)
def entS (ws : List (Int × Int)) (e : Int × Int) : Int × Int := if e.2 = 1 then ws.getD e.1.toNat (0, 0) else (-(ws.getD e.1.toNat (0, 0)).2, -(ws.getD e.1.toNat (0, 0)).1)
def lowAt (l : List Spn) (i : Int) : Int := match l[i.toNat]? with | some s => s.low | none => 0
structure PricesOk (n : Nat) (ps : List (Int × List (Int × Int))) : Prop where
  len : ps.length ≤ 24
  each : ∀ p ∈ ps, (1 ≤ p.1 ∧ p.1 ≤ 999) ∧ p.2.length ≤ 100 ∧ ∀ e ∈ p.2, EntOk n e
def winsZ (per : Int) (l : List Spn) : List (Int × Int) := l.map fun s => (s.low, endZ per s)
def sp_all_windows (K : PySem.W.Frag) : Sp := fun vs H Q _ => ∃ (x : V) (per : Int) (P : Pln), vs = [x, .int per] ∧ DV K H x P.d ∧ P.spans.length ≤ 10000 ∧ ∀ (q : Addr) (H' : Hp), Same H H' → DV K H' (.ref q) (pairsD (winsZ per P.spans)) → Q (.ref q) H'
end Bp

namespace Bp
open PySem L2
set_option maxHeartbeats 4000000
def Walk (l : List Spn) : Int → List (Int × Int) → Int → Prop
  | a, [], b => a = b
  | a, e :: r, b => 0 ≤ e.1 ∧ ∃ s, l[e.1.toNat]? = some s ∧ ((e.2 = 1 ∧ s.one = a ∧ Walk l s.other r b) ∨ (e.2 = -1 ∧ s.other = a ∧ Walk l s.one r b))
theorem Walk.append {l : List Spn} : ∀ {r r' : List (Int × Int)} {a b c : Int}, Walk l a r b → Walk l b r' c → Walk l a (r ++ r') c
  | [], r', a, b, c, h, h' => by cases h; exact h'
  | e :: r, r', a, b, c, h, h' => by
    obtain ⟨h0, s, hs, h⟩ := h
    refine ⟨h0, s, hs, ?_⟩
    rcases h with ⟨x, y, z⟩ | ⟨x, y, z⟩
    · exact .inl ⟨x, y, z.append h'⟩
    · exact .inr ⟨x, y, z.append h'⟩
def backR (r : List (Int × Int)) : List (Int × Int) := r.reverse.map fun e => (e.1, 0 - e.2)
theorem Walk.back {l : List Spn} : ∀ {r : List (Int × Int)} {a b : Int}, Walk l a r b → Walk l b (backR r) a
  | [], a, b, h => by cases h; rfl
  | e :: r, a, b, h => by
    obtain ⟨h0, s, hs, h⟩ := h
    have e1 : backR (e :: r) = backR r ++ [(e.1, 0 - e.2)] := by simp [backR]
    rw [e1]
    rcases h with ⟨x, y, z⟩ | ⟨x, y, z⟩
    · exact z.back.append ⟨h0, s, hs, .inr ⟨by show 0 - e.2 = -1; omega, rfl, y⟩⟩
    · exact z.back.append ⟨h0, s, hs, .inl ⟨by show 0 - e.2 = 1; omega, rfl, y⟩⟩
def lenAt (per : Int) (bs : List Int) (l : List Spn) (i : Int) : Int := match l[i.toNat]? with | some s => lenZ per bs s | none => 0
def gAt (per : Int) (bs : List Int) (l : List Spn) (i : Int) : Int := lenAt per bs l i - lowAt l i
def GZ (per : Int) (bs : List Int) (l : List Spn) (r : List (Int × Int)) : Int := (r.map fun e => e.2 * gAt per bs l e.1).sum
section
variable {per : Int} {bs : List Int} {l : List Spn} {wins : List (Int × Int)}
def PG (per : Int) (bs : List Int) (l : List Spn) (ps : List (Int × List (Int × Int))) : Int := (ps.map fun p => p.1 * GZ per bs l p.2).sum
end
end Bp

namespace L2
open PySem PySem.Spec PyProof.Rows
set_option maxHeartbeats 4000000
section
variable {X : Cx}
end
section
variable {X : Cx} {N : List Str} {scope : Scope} {cl : List (Str × Addr)} {C : Addr} {s₀ : Shared} {H₀ : Hp} {fp : List Addr}
end
theorem iteDF {c A B : Prop} [Decidable c] (hc : ¬ c) (h : B) : if decide c = true then A else B := by
  rw [decide_eq_false hc]
  exact iteF h
theorem iteDT {c A B : Prop} [Decidable c] (hc : c) (h : A) : if decide c = true then A else B := by
  rw [decide_eq_true hc]
  exact iteT h
theorem iteNT {c A B : Prop} [Decidable c] (hc : ¬ c) (h : A) : if (!decide c) = true then A else B := by
  rw [decide_eq_false hc]
  exact iteT h
end L2

namespace Bp
open PySem L2
set_option maxHeartbeats 4000000
structure NmOk (x : Str) : Prop where
  l1 : 1 ≤ x.length
  l8 : x.length ≤ 8
  ch : ∀ c ∈ x.cps.toList, 97 ≤ c ∧ c ≤ 122
structure Spn.Ok3 (s : Spn) (works : Int) : Prop where
  ok : s.Ok works
  l9 : s.low ≤ 9999
  h9 : s.high ≤ 9999
  sp : s.ap = false → s.low ≤ s.high
structure Pln.Ok3 (P : Pln) (works : Int) : Prop where
  n1 : (P.names.length : Int) = works
  n2 : ∀ x ∈ P.names, NmOk x
  n3 : P.names.Nodup
  s1 : P.spans.length ≤ 24
  s2 : ∀ s ∈ P.spans, s.Ok3 works
end Bp

namespace L2
open PySem PySem.Spec PyProof.Rows
set_option maxHeartbeats 4000000
section
variable {X : Cx}
end
section
variable {X : Cx} {N : List Str} {scope : Scope} {cl : List (Str × Addr)} {C : Addr} {s₀ : Shared} {H₀ : Hp} {fp : List Addr}
end
mutual
def noB : PyData → Bool
  | .none => true
  | .bool _ => false
  | .int _ => true
  | .str _ => true
  | .list ds => noBs ds
  | .tuple ds => noBs ds
  | .dict _ => false
def noBs : List PyData → Bool
  | [] => true
  | d :: r => noB d && noBs r
end
mutual
theorem eqv_eq : ∀ {d e : PyData}, noB d = true → noB e = true → PyData.eqv d e = true → d = e
  | .none, .none, _, _, _ => rfl
  | .int i, .int j, _, _, h => by rw [PyData.eqv] at h; rw [eq_of_beq h]
  | .str i, .str j, _, _, h => by rw [PyData.eqv] at h; rw [eq_of_beq h]
  | .list xs, .list ys, h1, h2, h => by rw [PyData.eqv] at h; rw [noB] at h1 h2; rw [eqvs_eq h1 h2 h]
  | .tuple xs, .tuple ys, h1, h2, h => by rw [PyData.eqv] at h; rw [noB] at h1 h2; rw [eqvs_eq h1 h2 h]
  | .bool _, _, h, _, _ => by rw [noB] at h; cases h
  | .dict _, _, h, _, _ => by rw [noB] at h; cases h
  | .none, .bool _, _, h, _ | .int _, .bool _, _, h, _ | .str _, .bool _, _, h, _ | .list _, .bool _, _, h, _ | .tuple _, .bool _, _, h, _ => by rw [noB] at h; cases h
  | .none, .dict _, _, h, _ | .int _, .dict _, _, h, _ | .str _, .dict _, _, h, _ | .list _, .dict _, _, h, _ | .tuple _, .dict _, _, h, _ => by rw [noB] at h; cases h
  | .none, .int _, _, _, h | .none, .str _, _, _, h | .none, .list _, _, _, h | .none, .tuple _, _, _, h => by rw [PyData.eqv] at h; cases h
  | .int _, .none, _, _, h | .int _, .str _, _, _, h | .int _, .list _, _, _, h | .int _, .tuple _, _, _, h => by rw [PyData.eqv] at h; cases h
  | .str _, .none, _, _, h | .str _, .int _, _, _, h | .str _, .list _, _, _, h | .str _, .tuple _, _, _, h => by rw [PyData.eqv] at h; cases h
  | .list _, .none, _, _, h | .list _, .int _, _, _, h | .list _, .str _, _, _, h | .list _, .tuple _, _, _, h => by rw [PyData.eqv] at h; cases h
  | .tuple _, .none, _, _, h | .tuple _, .int _, _, _, h | .tuple _, .str _, _, _, h | .tuple _, .list _, _, _, h => by rw [PyData.eqv] at h; cases h
theorem eqvs_eq : ∀ {ds es : List PyData}, noBs ds = true → noBs es = true → PyData.eqvAll ds es = true → ds = es
  | [], [], _, _, _ => rfl
  | d :: r, e :: q, h1, h2, h => by
    rw [noBs, Bool.and_eq_true] at h1 h2
    rw [PyData.eqvAll, Bool.and_eq_true] at h
    rw [eqv_eq h1.1 h2.1 h.1, eqvs_eq h1.2 h2.2 h.2]
  | [], _ :: _, _, _, h => by rw [PyData.eqvAll] at h; cases h
  | _ :: _, [], _, _, h => by rw [PyData.eqvAll] at h; cases h
end
theorem getD_get {α : Type} (l : List α) (d : α) {i : Nat} (h : i < l.length) : l.getD i d = l[i] := by simp [List.getD, List.getElem?_eq_getElem h]
section
variable {X : Cx}
end
section
variable {X : Cx} {N : List Str} {scope : Scope} {cl : List (Str × Addr)} {C : Addr} {s₀ : Shared} {H₀ : Hp} {fp : List Addr}
end
theorem catG_of {K : PySem.W.Frag} {H : Hp} {a b : Addr} {xs ys : List V} {Q : VK} (ha : H a = some (.tup xs)) (hb : H b = some (.tup ys)) (hl : xs.length + ys.length ≤ sizeLine) (q : ∀ r H', Same H H' → H' r = some (.tup (xs ++ ys)) → Q (.ref r) H') : rCatG K (.ref a) (.ref b) H Q :=
  ⟨a, b, xs, ys, rfl, rfl, SqT.of ha, SqT.of hb, hl, fun e => q b H (Same.refl _) (by rw [hb, e]; rfl), fun _ e => q a H (Same.refl _) (by rw [ha, e, List.append_nil]), fun _ _ p hp => q p _ (Same.new hp) upd_same⟩
theorem os1 {os : St} (h : os.length = 1) : ∃ o, os = [o] := by
  cases os with
  | nil => cases h
  | cons o r => cases r with
    | nil => exact ⟨o, rfl⟩
    | cons _ _ => simp at h
end L2

namespace Bp
open PySem L2
set_option maxHeartbeats 4000000
theorem nodup_le {α : Type} [DecidableEq α] : ∀ {l m : List α}, l.Nodup → (∀ x ∈ l, x ∈ m) → l.length ≤ m.length
  | [], _, _, _ => Nat.zero_le _
  | x :: r, m, h, hs => by
    have h2 := List.nodup_cons.mp h
    have hx : x ∈ m := hs x (by simp)
    have ih := nodup_le (m := m.erase x) h2.2 fun y hy => (List.mem_erase_of_ne (fun e => h2.1 (by rw [← e]; exact hy))).mpr (hs y (List.mem_cons_of_mem _ hy))
    rw [List.length_erase_of_mem hx] at ih
    have := List.length_pos_of_mem hx
    rw [List.length_cons]
    omega
def namesZ (a b : List Str) : List Str := a ++ b.filter (fun n => decide (n ∉ a))
theorem getD_mem {α : Type} {l : List α} {d : α} {i : Nat} (h : i < l.length) : l.getD i d ∈ l := by rw [getD_get _ _ h]; exact List.getElem_mem h
theorem getD_append_left {α : Type} {l m : List α} {d : α} {i : Nat} (h : i < l.length) : (l ++ m).getD i d = l.getD i d := by
  rw [getD_get _ _ (by rw [List.length_append]; omega), getD_get _ _ h, List.getElem_append_left h]
theorem Spn.In.mono {s : Spn} {a b : Int} (h : s.In a) (hab : a ≤ b) : s.In b := ⟨h.o0, by have := h.o1; omega, h.r0, by have := h.r1; omega⟩
theorem Spn.Ok3.of {s t : Spn} {a b : Int} (h : s.Ok3 a) (hi : t.In b) (e1 : t.ap = s.ap) (e2 : t.low = s.low) (e3 : t.high = s.high) : t.Ok3 b := by
  have h1 := h.ok
  exact ⟨⟨hi.o0, hi.o1, hi.r0, hi.r1, by rw [e2]; exact h1.l0, by rw [e2]; exact h1.l1, by rw [e3]; exact h1.h0, by rw [e3]; exact h1.h1⟩, by rw [e2]; exact h.l9, by rw [e3]; exact h.h9, by rw [e1, e2, e3]; exact h.sp⟩
def menu2 : List Str := ["c", "cd", "cde", "way", "at", "ok", "kept", "lacks", "least", "q", "drop", "aa"]
theorem menu2_ok {x : Str} (h : x ∈ menu2) : NmOk x := by
  have hb : ∀ y ∈ menu2, 1 ≤ y.length ∧ y.length ≤ 8 ∧ ∀ c ∈ y.cps.toList, 97 ≤ c ∧ c ≤ 122 := by decide +kernel
  exact ⟨(hb x h).1, (hb x h).2.1, (hb x h).2.2⟩
theorem menu2_nodup : menu2.Nodup := by decide +kernel
theorem menu2_left (l : List Str) : 12 ≤ (menu2.filter (fun n => decide (n ∉ l))).length + l.length := by
  have h1 : (menu2.filter (fun n => decide (n ∈ l))).length ≤ l.length := nodup_le (menu2_nodup.filter _) fun x hx => by simpa using (List.mem_filter.mp hx).2
  have h2 : ∀ k : List Str, (k.filter (fun n => decide (n ∉ l))).length + (k.filter (fun n => decide (n ∈ l))).length = k.length := fun k => by
    induction k with
    | nil => rfl
    | cons y r ih => by_cases hy : y ∈ l <;> simp [hy] at ih ⊢ <;> omega
  have h3 := h2 menu2
  have h4 : menu2.length = 12 := rfl
  omega
structure Sec (pn : List Str) (i : Nat) (fr : Int) (os ls ns : List Str) : Prop where
  len : ns.length = i
  fr0 : 0 ≤ fr
  osl : fr + 4 ≤ os.length
  o12 : os.length ≤ 12
  tot : (ls.length : Int) + i + fr = 8
  nd : (ns ++ (os ++ ls)).Nodup
  out : ∀ x ∈ os, x ∉ pn
  inn : ∀ x ∈ ls, x ∈ pn
  cnt : ((ns.filter (fun n => decide (n ∉ pn))).length : Int) = 8 - pn.length - fr
  ok : ∀ x ∈ ns ++ (os ++ ls), NmOk x
theorem Sec.start {pn : List Str} (hn : pn.Nodup) (ho : ∀ x ∈ pn, NmOk x) (hl : pn.length ≤ 8) : Sec pn 0 (8 - pn.length) (menu2.filter (fun n => decide (n ∉ pn))) pn [] := by
  have h1 := menu2_left pn
  have h2 : (menu2.filter (fun n => decide (n ∉ pn))).length ≤ 12 := List.length_filter_le _ _
  refine ⟨rfl, by omega, by omega, h2, by omega, ?_, fun x hx => of_decide_eq_true (List.mem_filter.mp hx).2, fun x hx => hx, by simp, fun x hx => ?_⟩
  · rw [List.nil_append]
    refine List.nodup_append.mpr ⟨menu2_nodup.filter _, hn, fun x hx y hy e => ?_⟩
    subst e
    exact (of_decide_eq_true (List.mem_filter.mp hx).2) hy
  · rw [List.nil_append] at hx
    rcases List.mem_append.mp hx with z | z
    · exact menu2_ok (List.mem_filter.mp z).1
    · exact ho x z
theorem Sec.few {pn : List Str} {i : Nat} {fr : Int} {os ls ns : List Str} (h : Sec pn i fr os ls ns) : (namesZ pn ns).length ≤ 8 := by
  have h1 := h.cnt; have h2 := h.fr0
  unfold namesZ
  rw [List.length_append]
  omega
end Bp

namespace L2
open PySem PySem.Spec PyProof.Rows
set_option maxHeartbeats 4000000
theorem noFill_tuple_mul : fillsNumberSlot (.type "tuple") "mul" = pure false :=
  PySem.fillsNumberSlot_seq (id := "tuple.__mul__") (r := some (.builtin "tuple.__rmul__")) F.slot_tuple_mul.lookup (by decide +kernel) F.slot_tuple_rmul.lookup (by decide +kernel)
theorem repeat_tuple : seqRepeat? (.type "tuple") = pure (some (.builtin "tuple.__mul__")) := by
  unfold seqRepeat?
  rw [PySem.seqSlot_of (T := "tuple") (name := "__mul__") (id := "tuple.__mul__") F.slot_tuple_mul.lookup (by decide +kernel), PySem.seqSlot_of (T := "tuple") (name := "__rmul__") (id := "tuple.__rmul__") F.slot_tuple_rmul.lookup (by decide +kernel)]
  rfl
theorem int_rmul_tuple (a : Int) (t : Tok) (l : Addr) (items : Array Value) (n : Nat) (dd : Option Addr) (sl : Array (Option Value)) :
    Meets (Builtin.«int.__rmul__» ⟨[.int a t, .ref l], []⟩) (fun _ R s => s.heap.get? l = some { cls := .type "tuple", dict := dd, data := .seq items n, slots := sl } ∧ R (.ok (.ret Value.notImplemented)) s) :=
  .of_wp fun prog w A R s h => by obtain ⟨hp, g, d, tk, os⟩ := s; obtain ⟨hl, h⟩ := h; wp_walk; exact ⟨_, rfl, h⟩
theorem tuple_mul2 (l : Addr) (items : Array Value) (n : Nat) (dd : Option Addr) (sl : Array (Option Value)) (x : Int) (t : Tok) (hx : 2 ≤ x) (hx2 : x < 2 ^ 62) (h0 : items.isEmpty = false) (hsz : items.size * x.toNat ≤ sizeLine) :
    Meets (Builtin.«tuple.__mul__» ⟨[.ref l, .int x t], []⟩)
      (fun A R s => s.heap.get? l = some { cls := .type "tuple", dict := dd, data := .seq items n, slots := sl } ∧ R (.ok (.ret (.ref s.heap.objs.size))) { s with heap := s.heap.push { cls := .type "tuple", data := .seq ((List.replicate x.toNat items).foldl (· ++ ·) #[]) } }) :=
  .of_wp fun prog w A R s h => by
    obtain ⟨hp, g, d, tk, os⟩ := s; obtain ⟨hl, h⟩ := h
    have c1 : (decide (x < -2 ^ 63) || decide (x ≥ 2 ^ 63)) = false := by simp; omega
    have c2 : (items.isEmpty || x == 1) = false := by rw [h0]; simp; omega
    have c3 : (decide (x ≤ 0) || items.isEmpty) = false := by rw [h0]; simp; omega
    have hz : (items.size : Int) * x = ((items.size * x.toNat : Nat) : Int) := by rw [Int.natCast_mul, Int.toNat_of_nonneg (by omega)]
    have h63 : (sizeLine : Nat) ≤ (2 ^ 63 - 1) / 8 := by decide
    wp_walk using wpAny_loadPart' hl
    simp only [c1, Bool.false_eq_true, if_false]
    wp_walk using wpAny_loadPart' hl
    simp only [c2, c3, Bool.false_eq_true, if_false]
    rw [if_neg (by rw [hz]; omega)]
    have c4 : Builtin.Tuple.tupleTooMany ((items.size : Int) * x) = false := by
      rw [hz]
      unfold Builtin.Tuple.tupleTooMany
      exact decide_eq_false (by omega)
    simp only [c4, Bool.false_eq_true, if_false]
    have hs : (List.foldl (fun x1 x2 => x1 ++ x2) #[] (List.replicate x.toNat items)).size ≤ sizeLine := by
      rw [AutoListH.size_joined]
      simp only [List.size_toArray, List.length_nil, Nat.zero_add]
      rw [Nat.mul_comm]
      exact hsz
    revert hs h
    generalize List.foldl (fun x1 x2 => x1 ++ x2) #[] (List.replicate x.toNat items) = G
    intro h hs
    wp_walk
    exact ⟨_, rfl, h⟩
theorem tuple_mul1 (l : Addr) (items : Array Value) (n : Nat) (dd : Option Addr) (sl : Array (Option Value)) (t : Tok) :
    Meets (Builtin.«tuple.__mul__» ⟨[.ref l, .int 1 t], []⟩)
      (fun A R s => s.heap.get? l = some { cls := .type "tuple", dict := dd, data := .seq items n, slots := sl } ∧ R (.ok (.ret (.ref l))) s) :=
  .of_wp fun prog w A R s h => by
    obtain ⟨hp, g, d, tk, os⟩ := s; obtain ⟨hl, h⟩ := h
    have c1 : (decide ((1 : Int) < -2 ^ 63) || decide ((1 : Int) ≥ 2 ^ 63)) = false := by decide
    have c2 : (items.isEmpty || (1 : Int) == 1) = true := by simp
    wp_walk using wpAny_loadPart' hl
    exact ⟨_, rfl, h⟩
section
variable {X : Cx}
def rRepT (K : PySem.W.Frag) : R2 := fun x y H Q => ∃ l k xs, x = .ref l ∧ y = .int k ∧ SqT K H l xs ∧ xs ≠ [] ∧ 1 ≤ k ∧ k < 2 ^ 62 ∧ xs.length * k.toNat ≤ sizeLine ∧ (k = 1 → Q (.ref l) H) ∧ (k ≠ 1 → ∀ p, H p = none → Q (.ref p) (upd H p (.tup (List.replicate k.toNat xs).flatten)))
theorem op_repT : OpR X (binaryOp .Mult) (rRepT X.K) := by
  intro pins s σ H x y v u Q I rx ry h
  obtain ⟨l, k, xs, rfl, rfl, hH, h0, h1, h2, hz, q1, q2⟩ := h
  cases rx
  obtain ⟨t, rfl⟩ := ry
  obtain ⟨its, r, pl, _⟩ := I.tuple hH
  have hl := r.length
  obtain ⟨⟨cls, dd, data, sl⟩, e, hc, n, hd⟩ := id pl
  simp only at hc hd
  subst hc hd
  have hne : its ≠ [] := fun z => h0 (r.nil_iff.mp z)
  refine wpAny_binaryOp_repeat_ref (T := "tuple") (U := "int") (by decide) ⟨_, e, rfl⟩ (fun s' => typeIs_int s' k t) noFill_tuple_mul F.fills_int_mul F.slot_int_rmul repeat_tuple F.slot_int_index.lookup
    (call_meets F.slot_int_rmul (typeIs_int s k t) F.entry_int_rmul (F.args_int_rmul_2 _ _) (int_rmul_tuple k t l its.toArray n dd sl) ⟨e, rfl, ⟨_, e, rfl⟩, ?_⟩)
  by_cases hk : k = 1
  · subst hk
    exact call_meets F.slot_tuple_mul ⟨_, e, rfl⟩ F.entry_tuple_mul (F.args_tuple_mul_2 _ _) (tuple_mul1 l its.toArray n dd sl t) ⟨e, ⟨.ref l, H, I, rfl, q1 rfl⟩⟩
  · refine call_meets F.slot_tuple_mul ⟨_, e, rfl⟩ F.entry_tuple_mul (F.args_tuple_mul_2 _ _) (tuple_mul2 l its.toArray n dd sl k t (by omega) h2 (by simpa using hne) (by rw [List.size_toArray, ← hl]; exact hz)) ⟨e, ?_⟩
    have f0 := foldl_rep its k.toNat []
    rw [List.nil_append] at f0
    rw [f0]
    refine ⟨.ref s.heap.objs.size, _, I.laid (t' := s.toks) (o := .tup (List.replicate k.toNat xs).flatten) (fun b ob q => Heap.get?_push_of_some _ q) (Nat.le_refl _) ?_, rfl, q2 hk _ (I.hok.fresh (Nat.le_refl _))⟩
    exact ⟨by rw [len_rep, Nat.mul_comm]; exact hz, _, r.rep k.toNat, TupD.new _ _⟩
end
theorem os2 {os : St} (h : os.length = 2) : ∃ a b, os = [a, b] := by
  match os, h with
  | [a, b], _ => exact ⟨a, b, rfl⟩
end L2

namespace L2
open PySem PySem.Spec PyProof.Rows
set_option maxHeartbeats 4000000
section
variable {X : Cx}
theorem call_isinst : CallR X (.builtin "isinstance") (fun xs H Q => ∃ (x : V) (c : String) (t : Value) (b : Bool), xs = [x, .ty c] ∧ TyOf X.K H x t ∧ PySem.W.kitOne X.K t (.type c) = some b ∧ Q (.bl b) H) := by
  intro pins s σ H xs us Q I r h
  obtain ⟨x, c, t, b, rfl, ty, e, q⟩ := h
  obtain ⟨u, v, rfl, ru, rv⟩ := Vals.two r
  cases rv
  exact isinst_ok I ru ty e fun tk => ⟨.bl b, H, I.tok tk, rfl, q⟩
end
theorem slG_of {K : PySem.W.Frag} {H : Hp} {a : Addr} {xs : List V} {lo hi : Option Int} {Q : VK} (ha : H a = some (.tup xs)) (q : ∀ r H', Same H H' → H' r = some (.tup (cutV xs lo hi)) → Q (.ref r) H') : rSlT K (.ref a) lo hi H Q ∨ rSlW K (.ref a) lo hi H Q := by
  by_cases h : HT.sIx xs.length 0 lo = 0 ∧ HT.sIx xs.length xs.length hi = xs.length
  · refine .inr ⟨a, xs, rfl, SqT.of ha, h, q a H (Same.refl _) ?_⟩
    unfold cutV
    rw [h.1, h.2, List.drop_zero, Nat.sub_zero, List.take_length]
    exact ha
  · exact .inl ⟨a, xs, rfl, SqT.of ha, h, fun p hp => q p _ (Same.new hp) upd_same⟩
theorem repT_of {K : PySem.W.Frag} {H : Hp} {a : Addr} {xs : List V} {k : Int} {Q : VK} (ha : H a = some (.tup xs)) (h0 : xs ≠ []) (h1 : 1 ≤ k) (h2 : k < 2 ^ 62) (hz : xs.length * k.toNat ≤ sizeLine) (q : ∀ r H', Same H H' → H' r = some (.tup (List.replicate k.toNat xs).flatten) → Q (.ref r) H') : rRepT K (.ref a) (.int k) H Q :=
  ⟨a, k, xs, rfl, rfl, SqT.of ha, h0, h1, h2, hz, fun e => q a H (Same.refl _) (by rw [ha, e]; simp), fun _ p hp => q p _ (Same.new hp) upd_same⟩
end L2
namespace Bp
open PySem L2
set_option maxHeartbeats 4000000
def spZ : Spn := ⟨false, 0, 0, 0, 0⟩
def spL (l : List Spn) (i : Int) : Spn := l.getD i.toNat spZ
theorem spL_at {l : List Spn} {i : Int} (h0 : 0 ≤ i) (h1 : i < l.length) : l[i.toNat]? = some (spL l i) := by
  have hi : i.toNat < l.length := by omega
  unfold spL
  rw [getD_get _ _ hi]
  exact List.getElem?_eq_getElem hi
def srcZ (l : List Spn) (e : Int × Int) : Int := if e.2 = 1 then (spL l e.1).one else (spL l e.1).other
def dstZ (l : List Spn) (e : Int × Int) : Int := if e.2 = 1 then (spL l e.1).other else (spL l e.1).one
def turnE (e : Int × Int) : Int × Int := (e.1, 0 - e.2)
theorem turn_ok {n : Nat} {e : Int × Int} (h : EntOk n e) : EntOk n (turnE e) := ⟨h.1, h.2.1, by have := h.2.2; show 0 - e.2 = 1 ∨ 0 - e.2 = -1; omega⟩
theorem turn_src {l : List Spn} {n : Nat} {e : Int × Int} (h : EntOk n e) : srcZ l (turnE e) = dstZ l e := by
  unfold srcZ dstZ turnE
  rcases h.2.2 with h2 | h2
  · simp [h2]
  · simp [h2]
theorem ends_in {l : List Spn} {works : Int} {e : Int × Int} (hin : ∀ s ∈ l, s.In works) (h : EntOk l.length e) : (0 ≤ srcZ l e ∧ srcZ l e < works) ∧ 0 ≤ dstZ l e ∧ dstZ l e < works := by
  have hm := hin _ (List.mem_of_getElem? (spL_at h.1 h.2.1))
  have h1 := hm.o0; have h2 := hm.o1; have h3 := hm.r0; have h4 := hm.r1
  unfold srcZ dstZ
  split <;> omega
def sp_whole : Sp := fun vs H Q _ => ∃ t a b : Int, vs = [.int t, .int a, .int b] ∧ Q (.bl (decide (a ≤ t) && decide (t ≤ b))) H
structure BfsAt (K : PySem.W.Frag) (H : Hp) (kvs : List (Key × V)) (L : Addr) (l : List Spn) (works here : Int) (ln : List Int) : Prop where
  nd : ln.Nodup
  rng : ∀ z ∈ ln, 0 ≤ z ∧ z < works
  hd : here ∈ ln
  key : ∀ z : Int, (valV kvs (.inl z : Key)).isSome = decide (z ∈ ln)
  way : ∀ z ∈ ln, ∃ (q : Addr) (xs : List V) (r : List (Int × Int)), valV kvs (.inl z : Key) = some (.ref q) ∧ H q = some (.lst xs) ∧ q ≠ L ∧ DVs K H xs (r.map pairD2) ∧ Walk l here r z ∧ (∀ e ∈ r, EntOk l.length e) ∧ r.length < ln.length
  len : kvs.length = ln.length
theorem BfsAt.few {K : PySem.W.Frag} {H : Hp} {kvs : List (Key × V)} {L : Addr} {l : List Spn} {works here : Int} {ln : List Int} (h : BfsAt K H kvs L l works here ln) : ln.length ≤ works.toNat := by
  have := nodup_le (m := (List.range works.toNat).map fun k : Nat => (k : Int)) h.nd fun z hz => by
    have := h.rng z hz
    exact List.mem_map.mpr ⟨z.toNat, List.mem_range.mpr (by omega), by omega⟩
  rwa [List.length_map, List.length_range] at this
theorem BfsAt.put {K : PySem.W.Frag} {H H2 : Hp} {kvs : List (Key × V)} {L : Addr} {l : List Spn} {works here : Int} {ln : List Int} (h : BfsAt K H kvs L l works here ln) (tk : TK H H2) (kp : ∀ q xs, q ≠ L → H q = some (.lst xs) → H2 q = some (.lst xs)) {w : Int} (hw : w ∉ ln) (h0 : 0 ≤ w) (h1 : w < works)
    {p : Addr} {xs : List V} {r : List (Int × Int)} (hp : H2 p = some (.lst xs)) (hpL : p ≠ L) (dv : DVs K H2 xs (r.map pairD2)) (wk : Walk l here r w) (he : ∀ e ∈ r, EntOk l.length e) (hl : r.length ≤ ln.length) : BfsAt K H2 (putK kvs (.inl w : Key) (.ref p)) L l works here (ln ++ [w]) := by
  have hn : valV kvs (.inl w : Key) = none := by
    have := h.key w
    rw [decide_eq_false hw] at this
    simpa using this
  refine ⟨?_, fun z hz => ?_, List.mem_append_left _ h.hd, fun z => ?_, fun z hz => ?_, ?_⟩
  · refine List.nodup_append.mpr ⟨h.nd, by simp, fun a ha b hb e => ?_⟩
    rw [List.mem_singleton.mp hb] at e
    exact hw (by rw [← e]; exact ha)
  · rcases List.mem_append.mp hz with y | y
    · exact h.rng z y
    · rw [List.mem_singleton.mp y]; exact ⟨h0, h1⟩
  · rw [valV_put]
    by_cases hz : z = w
    · rw [hz, if_pos rfl]
      simp
    · rw [if_neg (fun y => hz (by injection y)), h.key z]
      simp [hz]
  · rcases List.mem_append.mp hz with y | y
    · obtain ⟨q, ys, s, a1, a2, a3, a4, a5, a6, a7⟩ := h.way z y
      refine ⟨q, ys, s, ?_, kp q ys a3 a2, a3, a4.tk tk (noLs_pairs _), a5, a6, by rw [List.length_append]; omega⟩
      rw [valV_put, if_neg (fun x => hw (by injection x with x; rw [← x]; exact y))]
      exact a1
    · have y := List.mem_singleton.mp y
      subst y
      exact ⟨p, xs, r, by rw [valV_put, if_pos rfl], hp, hpL, dv, wk, he, by rw [List.length_append]; simp; omega⟩
  · rw [putK_new _ hn, List.length_append, List.length_append, h.len]
    rfl
theorem BfsAt.keep {K : PySem.W.Frag} {H H2 : Hp} {kvs : List (Key × V)} {L : Addr} {l : List Spn} {works here : Int} {ln : List Int} (h : BfsAt K H kvs L l works here ln) (tk : TK H H2) (kp : ∀ q xs, q ≠ L → H q = some (.lst xs) → H2 q = some (.lst xs)) : BfsAt K H2 kvs L l works here ln :=
  ⟨h.nd, h.rng, h.hd, h.key, fun z hz => by
    obtain ⟨q, ys, s, a1, a2, a3, a4, a5, a6, a7⟩ := h.way z hz
    exact ⟨q, ys, s, a1, kp q ys a3 a2, a3, a4.tk tk (noLs_pairs _), a5, a6, a7⟩, h.len⟩
theorem BfsAt.same {K : PySem.W.Frag} {H H2 : Hp} {kvs : List (Key × V)} {L : Addr} {l : List Spn} {works here : Int} {ln : List Int} (h : BfsAt K H kvs L l works here ln) (s : Same H H2) : BfsAt K H2 kvs L l works here ln := h.keep s.tk fun q xs _ e => s q _ e
theorem dvs_turn {K : PySem.W.Frag} {H : Hp} : ∀ {xs : List V} {ds : List PyData}, DVs K H xs ds → DVs K H xs.reverse ds.reverse
  | _, _, .nil => .nil
  | _, _, .cons a r => by
    rw [List.reverse_cons, List.reverse_cons]
    exact (dvs_turn r).append (.cons a .nil)
theorem cut_from {xs : List V} {k : Int} (h0 : 0 ≤ k) (h1 : k ≤ xs.length) : cutV xs (some k) none = xs.drop k.toNat := by
  have e : HT.sIx xs.length 0 (some k) = k.toNat := by
    show (if k < 0 then _ else min k.toNat xs.length) = _
    rw [if_neg (by omega)]
    omega
  show (xs.drop (HT.sIx xs.length 0 (some k))).take (xs.length - HT.sIx xs.length 0 (some k)) = _
  rw [e]
  exact List.take_of_length_le (by rw [List.length_drop]; exact Nat.le_refl _)
theorem cut_to {xs : List V} {k : Int} (h0 : 0 ≤ k) (h1 : k ≤ xs.length) : cutV xs none (some k) = xs.take k.toNat := by
  have e : HT.sIx xs.length xs.length (some k) = k.toNat := by
    show (if k < 0 then _ else min k.toNat xs.length) = _
    rw [if_neg (by omega)]
    omega
  show (xs.drop 0).take (HT.sIx xs.length xs.length (some k) - 0) = _
  rw [e, List.drop_zero, Nat.sub_zero]
theorem dvs_rep9 {K : PySem.W.Frag} {H : Hp} {xs : List V} {ds : List PyData} (r : DVs K H xs ds) : ∀ k, DVs K H (List.replicate k xs).flatten (List.replicate k ds).flatten
  | 0 => .nil
  | k + 1 => by
    rw [List.replicate_succ, List.replicate_succ, List.flatten_cons, List.flatten_cons]
    exact r.append (dvs_rep9 r k)
theorem map_rep9 {α β : Type} (f : α → β) (l : List α) : ∀ k, (List.replicate k (l.map f)).flatten = (List.replicate k l).flatten.map f
  | 0 => rfl
  | k + 1 => by
    rw [List.replicate_succ, List.replicate_succ, List.flatten_cons, List.flatten_cons, List.map_append, map_rep9 f l k]
end Bp

namespace Bp
open PySem L2
set_option maxHeartbeats 4000000
inductive EntH where
  | sp (s w : Int)
  | hm (a b : Int)
namespace EntH
def vs : EntH → List V
  | .sp s w => [.int s, .int w]
  | .hm a b => [.str "home", .int a, .int b]
def d : EntH → PyData
  | .sp s w => .tuple [.int s, .int w]
  | .hm a b => .tuple [.str "home", .int a, .int b]
def Ok (n : Nat) (st : List Int) : EntH → Prop
  | .sp s w => EntOk n (s, w)
  | .hm a b => a ∈ st ∧ b ∈ st
def src (l : List Spn) : EntH → Int
  | .sp s w => srcZ l (s, w)
  | .hm a _ => a
def dst (l : List Spn) : EntH → Int
  | .sp s w => dstZ l (s, w)
  | .hm _ b => b
def turn : EntH → EntH
  | .sp s w => .sp s (0 - w)
  | .hm a b => .hm b a
end EntH
def entsH (r : List EntH) : PyData := .tuple (r.map EntH.d)
theorem at_entH {K : PySem.W.Frag} {H : Hp} {a : Addr} {e : EntH} (h : H a = some (.tup e.vs)) : DV K H (.ref a) e.d := by
  cases e with
  | sp s w => exact .tup h (.cons (.int _) (.cons (.int _) .nil))
  | hm x y => exact .tup h (.cons (.str _) (.cons (.int _) (.cons (.int _) .nil)))
theorem entH_at {K : PySem.W.Frag} {H : Hp} {x : V} {e : EntH} (h : DV K H x e.d) : ∃ a, x = .ref a ∧ H a = some (.tup e.vs) := by
  cases e with
  | sp s w => exact pair_at (p := (s, w)) h
  | hm x y =>
    cases h with
    | tup e r =>
      cases r with
      | cons a r =>
        cases a
        cases r with
        | cons b r =>
          cases b
          cases r with
          | cons c r => cases c; cases r; exact ⟨_, rfl, e⟩
theorem entsH_at {K : PySem.W.Frag} {H : Hp} {x : V} {l : List EntH} (h : DV K H x (entsH l)) : ∃ a xs, x = .ref a ∧ H a = some (.tup xs) ∧ DVs K H xs (l.map EntH.d) := by
  cases h with
  | tup e r => exact ⟨_, _, rfl, e, r⟩
theorem entsH_get {K : PySem.W.Frag} {H : Hp} {xs : List V} {l : List EntH} {i : Nat} (h : DVs K H xs (l.map EntH.d)) (hi : i < l.length) : ∃ b, xs[i]? = some (.ref b) ∧ H b = some (.tup (l[i]).vs) := by
  obtain ⟨y, hy, dy⟩ := h.get' (i := i) (d := (l[i]).d) (by rw [List.getElem?_map, List.getElem?_eq_getElem hi]; rfl)
  obtain ⟨a, rfl, e⟩ := entH_at dy
  exact ⟨a, hy, e⟩
theorem entsH_item {K : PySem.W.Frag} {H : Hp} {xs : List V} {l : List EntH} {i : Nat} {x : V} (h : DVs K H xs (l.map EntH.d)) (hx : xs[i]? = some x) : ∃ (hi : i < l.length) (b : Addr), x = .ref b ∧ H b = some (.tup (l[i]).vs) := by
  have hi : i < l.length := by
    have := (List.getElem?_eq_some_iff.mp hx).1
    rw [h.length, List.length_map] at this
    exact this
  obtain ⟨b, hb, e⟩ := entsH_get h hi
  rw [hb] at hx
  exact ⟨hi, b, (Option.some.inj hx).symm, e⟩
theorem noL_entH (e : EntH) : noL e.d = true := by cases e <;> rfl
theorem noLs_entsH (l : List EntH) : noLs (l.map EntH.d) = true := noLs_all.mpr fun d hd => by obtain ⟨x, _, rfl⟩ := List.mem_map.mp hd; exact noL_entH x
theorem noL_entsH (l : List EntH) : noL (entsH l) = true := noLs_entsH l
def WalkE (l : List Spn) : Int → List EntH → Int → Prop
  | a, [], b => a = b
  | a, e :: r, b => e.src l = a ∧ WalkE l (e.dst l) r b
theorem WalkE.append {l : List Spn} : ∀ {r r' : List EntH} {a b c : Int}, WalkE l a r b → WalkE l b r' c → WalkE l a (r ++ r') c
  | [], _, _, _, _, h, h' => by cases h; exact h'
  | _ :: _, _, _, _, _, h, h' => ⟨h.1, WalkE.append h.2 h'⟩
theorem walkE_one {l : List Spn} (e : EntH) : WalkE l (e.src l) [e] (e.dst l) := ⟨rfl, rfl⟩
theorem turnH_ok {n : Nat} {st : List Int} {e : EntH} (h : e.Ok n st) : e.turn.Ok n st := by
  cases e with
  | sp s w => exact turn_ok h
  | hm a b => exact ⟨h.2, h.1⟩
theorem turnH_src {l : List Spn} {n : Nat} {st : List Int} {e : EntH} (h : e.Ok n st) : e.turn.src l = e.dst l := by
  cases e with
  | sp s w => exact turn_src h
  | hm a b => rfl
theorem turnH_dst {l : List Spn} {n : Nat} {st : List Int} {e : EntH} (h : e.Ok n st) : e.turn.dst l = e.src l := by
  cases e with
  | sp s w =>
    show dstZ l (s, 0 - w) = srcZ l (s, w)
    unfold srcZ dstZ
    rcases h.2.2 with h2 | h2
    · simp only [show w = 1 from h2]; rfl
    · simp only [show w = -1 from h2]; rfl
  | hm a b => rfl
def backH (r : List EntH) : List EntH := r.reverse.map EntH.turn
theorem backH_ok {n : Nat} {st : List Int} {r : List EntH} (h : ∀ e ∈ r, e.Ok n st) : ∀ e ∈ backH r, e.Ok n st := fun e he => by
  obtain ⟨x, hx, rfl⟩ := List.mem_map.mp he
  exact turnH_ok (h x (List.mem_reverse.mp hx))
theorem WalkE.back {l : List Spn} {n : Nat} {st : List Int} : ∀ {r : List EntH} {a b : Int}, (∀ e ∈ r, e.Ok n st) → WalkE l a r b → WalkE l b (backH r) a
  | [], _, _, _, h => by cases h; rfl
  | e :: r, a, b, ho, h => by
    have h1 := WalkE.back (fun x hx => ho x (List.mem_cons_of_mem _ hx)) h.2
    have e1 : backH (e :: r) = backH r ++ [e.turn] := by simp [backH]
    rw [e1]
    have he := ho e List.mem_cons_self
    refine h1.append ⟨turnH_src he, ?_⟩
    show e.turn.dst l = a
    rw [turnH_dst he]
    exact h.1
theorem endsH_in {l : List Spn} {works : Int} {st : List Int} {e : EntH} (hin : ∀ s ∈ l, s.In works) (hst : ∀ z ∈ st, 0 ≤ z ∧ z < works) (h : e.Ok l.length st) : (0 ≤ e.src l ∧ e.src l < works) ∧ 0 ≤ e.dst l ∧ e.dst l < works := by
  cases e with
  | sp s w => exact ends_in hin h
  | hm a b => exact ⟨hst a h.1, hst b h.2⟩
theorem closedH {l : List Spn} {st ln : List Int} (hc : ∀ z ∈ ln, ∀ e : EntH, e.Ok l.length st → e.src l = z → e.dst l ∈ ln) : ∀ {r : List EntH} {a b : Int}, (∀ e ∈ r, e.Ok l.length st) → a ∈ ln → WalkE l a r b → b ∈ ln
  | [], a, b, _, ha, h => by cases h; exact ha
  | e :: r, a, b, ho, ha, h => closedH hc (fun x hx => ho x (List.mem_cons_of_mem _ hx)) (hc a ha e (ho e List.mem_cons_self) h.1) h.2
def entSH (bs : List Int) (ws : List (Int × Int)) : EntH → Int × Int
  | .sp s w => entS ws (s, w)
  | .hm a b => (bt bs b - bt bs a, bt bs b - bt bs a)
def loH (bs : List Int) (ws : List (Int × Int)) (r : List EntH) : Int := (r.map fun e => (entSH bs ws e).1).sum
def hiH (bs : List Int) (ws : List (Int × Int)) (r : List EntH) : Int := (r.map fun e => (entSH bs ws e).2).sum
theorem loH_take {bs : List Int} {ws : List (Int × Int)} {r : List EntH} {i : Nat} (h : i < r.length) : loH bs ws (r.take (i + 1)) = loH bs ws (r.take i) + (entSH bs ws r[i]).1 := by
  unfold loH
  rw [List.take_succ, List.getElem?_eq_getElem h, List.map_append, List.sum_append]
  simp
theorem hiH_take {bs : List Int} {ws : List (Int × Int)} {r : List EntH} {i : Nat} (h : i < r.length) : hiH bs ws (r.take (i + 1)) = hiH bs ws (r.take i) + (entSH bs ws r[i]).2 := by
  unfold hiH
  rw [List.take_succ, List.getElem?_eq_getElem h, List.map_append, List.sum_append]
  simp
def barsH (per : Int) (lo hi : Int) : Bool := decide (hi / per * per < lo)
theorem sumH_rng {B : Int} (hB : 0 ≤ B) (f : EntH → Int) : ∀ r : List EntH, (∀ e ∈ r, -B ≤ f e ∧ f e ≤ B) → -(B * r.length) ≤ (r.map f).sum ∧ (r.map f).sum ≤ B * r.length
  | [], _ => by simp
  | e :: r, h => by
    have h1 := sumH_rng hB f r fun x hx => h x (List.mem_cons_of_mem _ hx)
    have h2 := h e List.mem_cons_self
    rw [List.map_cons, List.sum_cons, List.length_cons, Int.natCast_add, Int.mul_add]
    omega
theorem entSH_rng {B : Int} {bs : List Int} {ws : List (Int × Int)} {st : List Int} {e : EntH} (hb : ∀ z ∈ bs, 0 ≤ z ∧ z ≤ 10000) (hB : 10000 ≤ B) (hst : ∀ z ∈ st, 0 ≤ z ∧ z < bs.length) (hw : ∀ p ∈ ws, (-B ≤ p.1 ∧ p.1 ≤ B) ∧ (-B ≤ p.2 ∧ p.2 ≤ B)) (h : e.Ok ws.length st) :
    (-B ≤ (entSH bs ws e).1 ∧ (entSH bs ws e).1 ≤ B) ∧ (-B ≤ (entSH bs ws e).2 ∧ (entSH bs ws e).2 ≤ B) := by
  cases e with
  | sp s w =>
    obtain ⟨h0, h1, h2⟩ := h
    have hi : s.toNat < ws.length := by omega
    have hm := hw (ws.getD s.toNat (0, 0)) (by rw [List.getD_eq_getElem?_getD, List.getElem?_eq_getElem hi]; exact List.getElem_mem hi)
    have e0 : entSH bs ws (.sp s w) = entS ws (s, w) := rfl
    rw [e0]
    unfold entS
    revert hm
    dsimp only
    generalize ws.getD s.toNat (0, 0) = p
    intro hm
    by_cases h3 : w = 1
    · rw [if_pos h3]; exact hm
    · rw [if_neg h3]; dsimp only; omega
  | hm a b =>
    have ha := hst a h.1
    have hbb := hst b h.2
    have m1 := bt_rng hb ha.1 ha.2
    have m2 := bt_rng hb hbb.1 hbb.2
    dsimp only [entSH]
    omega
def sp_ends8 (K : PySem.W.Frag) : Sp := fun vs H Q _ => ∃ (x : V) (st ea : Addr) (P : Pln) (sts : List Int) (e : EntH), vs = [x, .ref st, .ref ea] ∧ DV K H x P.d ∧ H st = some (.tup (sts.map V.int)) ∧ (∀ z ∈ sts, 0 ≤ z ∧ z ≤ 7) ∧ H ea = some (.tup e.vs) ∧ e.Ok P.spans.length sts ∧ P.spans.length ≤ 1000 ∧ ∀ (q : Addr) (H' : Hp), Same H H' → H' q = some (.tup [.int (e.src P.spans), .int (e.dst P.spans)]) → Q (.ref q) H'
def sp_onward8 (K : PySem.W.Frag) : Sp := fun vs H Q _ => ∃ (x : V) (st : Addr) (P : Pln) (sts : List Int) (here : Int), vs = [x, .ref st, .int here] ∧ DV K H x P.d ∧ H st = some (.tup (sts.map V.int)) ∧ P.spans.length ≤ 1000 ∧ sts.length ≤ 1000 ∧
  ∀ (q : Addr) (xs : List V) (es : List EntH) (H' : Hp), Same H H' → H q = none → H' q = some (.lst xs) → DVs K H' xs (es.map EntH.d) → (∀ e : EntH, e ∈ es ↔ e.Ok P.spans.length sts ∧ e.src P.spans = here) → es.length ≤ 3000 → Q (.ref q) H'
def sp_home_way8 (K : PySem.W.Frag) : Sp := fun vs H Q _ => ∃ (x : V) (st : Addr) (P : Pln) (sts : List Int) (here begin works : Int) (r0 : List EntH), vs = [x, .ref st, .int here, .int begin] ∧ DV K H x P.d ∧ H st = some (.tup (sts.map V.int)) ∧ (∀ z ∈ sts, 0 ≤ z ∧ z < works) ∧ sts.length ≤ 1000 ∧ P.spans.length ≤ 24 ∧ (∀ s ∈ P.spans, s.In works) ∧ works ≤ 8 ∧ 0 ≤ here ∧ here < works ∧ 0 ≤ begin ∧ begin < works ∧ WalkE P.spans here r0 begin ∧ (∀ e ∈ r0, e.Ok P.spans.length sts) ∧
  ∀ (q : Addr) (xs : List V) (r : List EntH) (H' : Hp), Same H H' → H' q = some (.lst xs) → DVs K H' xs (r.map EntH.d) → WalkE P.spans here r begin → (∀ e ∈ r, e.Ok P.spans.length sts) → r.length < 9 → Q (.ref q) H'
def sp_ring8 (K : PySem.W.Frag) : Sp := fun vs H Q _ => ∃ (f c : Addr) (x : V) (st : Addr) (P : Pln) (sts : List Int) (works most : Int), vs = [.ref f, x, .ref st, .int most] ∧ FeedAt H f c ∧ DV K H x P.d ∧ H st = some (.tup (sts.map V.int)) ∧ (∀ z ∈ sts, 0 ≤ z ∧ z < works) ∧ sts.length ≤ 1000 ∧ P.spans.length ≤ 24 ∧ (∀ s ∈ P.spans, s.In works) ∧ works ≤ 8 ∧ 0 < most ∧ most ≤ 14 ∧
  (∀ H', FeedAt H' f c → Sm f H H' → Q .non H') ∧ ∀ (q : Addr) (r : List EntH) (H' : Hp), FeedAt H' f c → Sm f H H' → DV K H' (.ref q) (entsH r) → (∀ e ∈ r, e.Ok P.spans.length sts) → 0 < r.length → r.length ≤ 30 → Q (.ref q) H'
def sp_turned8 (K : PySem.W.Frag) : Sp := fun vs H Q _ => ∃ (f c q : Addr) (r : List EntH) (n : Nat) (sts : List Int), vs = [.ref f, .ref q] ∧ FeedAt H f c ∧ DV K H (.ref q) (entsH r) ∧ (∀ e ∈ r, e.Ok n sts) ∧ 0 < r.length ∧ r.length ≤ 30 ∧
  ∀ (q' : Addr) (r' : List EntH) (H' : Hp), FeedAt H' f c → Sm f H H' → DV K H' (.ref q') (entsH r') → (∀ e ∈ r', e.Ok n sts) → r'.length = r.length → Q (.ref q') H'
def sp_stays8 : Sp := fun vs H Q _ => ∃ (f c : Addr) (works : Int), vs = [.ref f, .int works] ∧ FeedAt H f c ∧ 0 < works ∧ works ≤ 8 ∧
  ∀ (q : Addr) (sts : List Int) (H' : Hp), FeedAt H' f c → Sm f H H' → H' q = some (.tup (sts.map V.int)) → (∀ z ∈ sts, 0 ≤ z ∧ z < works) → sts.length ≤ 8 → Q (.ref q) H'
def bB8 : Int := 100000000000000000000000000000000000000000
def WinOk (ws : List (Int × Int)) : Prop := ∀ p ∈ ws, (-bB8 ≤ p.1 ∧ p.1 ≤ bB8) ∧ (-bB8 ≤ p.2 ∧ p.2 ≤ bB8)
def sp_others8 (K : PySem.W.Frag) : Sp := fun vs H Q _ => ∃ (f c : Addr) (y : V) (ws : List (Int × Int)), vs = [.ref f, y] ∧ FeedAt H f c ∧ DV K H y (pairsD ws) ∧ ws.length ≤ 100 ∧ (∀ p ∈ ws, (-300000 ≤ p.1 ∧ p.1 ≤ 300000) ∧ (-300000 ≤ p.2 ∧ p.2 ≤ 300000)) ∧
  ∀ (q : Addr) (ws' : List (Int × Int)) (H' : Hp), FeedAt H' f c → Sm f H H' → DV K H' (.ref q) (pairsD ws') → ws'.length = ws.length → WinOk ws' → Q (.ref q) H'
def sp_entry_sums8 (K : PySem.W.Frag) : Sp := fun vs H Q _ => ∃ (b : Addr) (x : V) (a : Addr) (bs : List Int) (ws : List (Int × Int)) (sts : List Int) (e : EntH), vs = [.ref b, x, .ref a] ∧ H b = some (.tup (bs.map V.int)) ∧ DV K H x (pairsD ws) ∧ H a = some (.tup e.vs) ∧ e.Ok ws.length sts ∧ (∀ z ∈ sts, 0 ≤ z ∧ z < bs.length) ∧
  ∀ (q : Addr) (H' : Hp), Same H H' → H' q = some (.tup [.int (entSH bs ws e).1, .int (entSH bs ws e).2]) → Q (.ref q) H'
structure RingH (K : PySem.W.Frag) (H : Hp) (b : Addr) (x y : V) (bs : List Int) (ws : List (Int × Int)) (sts : List Int) (r : List EntH) : Prop where
  hb : H b = some (.tup (bs.map V.int))
  dx : DV K H x (pairsD ws)
  dy : DV K H y (entsH r)
  ok : ∀ e ∈ r, e.Ok ws.length sts
  st : ∀ z ∈ sts, 0 ≤ z ∧ z < bs.length
  len : r.length ≤ 1000
theorem RingH.same {K : PySem.W.Frag} {H H' : Hp} {b : Addr} {x y : V} {bs : List Int} {ws : List (Int × Int)} {sts : List Int} {r : List EntH} (h : RingH K H b x y bs ws sts r) (s : Same H H') : RingH K H' b x y bs ws sts r := ⟨s _ _ h.hb, h.dx.same s, h.dy.same s, h.ok, h.st, h.len⟩
theorem RingH.tk {K : PySem.W.Frag} {H H' : Hp} {b : Addr} {x y : V} {bs : List Int} {ws : List (Int × Int)} {sts : List Int} {r : List EntH} (h : RingH K H b x y bs ws sts r) (s : TK H H') : RingH K H' b x y bs ws sts r := ⟨s _ _ h.hb, h.dx.tk s (noL_pairs _), h.dy.tk s (noL_entsH _), h.ok, h.st, h.len⟩
def sp_sums_of8 (K : PySem.W.Frag) : Sp := fun vs H Q _ => ∃ (pl pe x y : V) (b : Addr) (bs : List Int) (ws : List (Int × Int)) (sts : List Int) (r : List EntH), vs = [pl, pe, .ref b, x, y] ∧ RingH K H b x y bs ws sts r ∧
  ∀ (q : Addr) (H' : Hp), Same H H' → H' q = some (.tup [.int (loH bs ws r), .int (hiH bs ws r)]) → Q (.ref q) H'
def sp_lsums8 (K : PySem.W.Frag) : Sp := fun vs H Q _ => ∃ (x y : V) (b : Addr) (bs : List Int) (ws : List (Int × Int)) (sts : List Int) (r : List EntH), vs = [.ref b, x, y] ∧ RingH K H b x y bs ws sts r ∧
  ∀ (q : Addr) (H' : Hp), Same H H' → H' q = some (.tup [.int (loH bs ws r), .int (hiH bs ws r)]) → Q (.ref q) H'
def sp_ring_bars8 (K : PySem.W.Frag) : Sp := fun vs H Q _ => ∃ (pl x y : V) (per : Int) (b : Addr) (bs : List Int) (ws : List (Int × Int)) (sts : List Int) (r : List EntH), vs = [pl, .int per, .ref b, x, y] ∧ RingH K H b x y bs ws sts r ∧ 0 < per ∧ per ≤ 10000 ∧
  ∀ (H' : Hp), Same H H' → Q (.bl (barsH per (loH bs ws r) (hiH bs ws r))) H'
def sp_bars8 : Sp := fun vs H Q _ => ∃ (per lo hi : Int) (q : Addr), vs = [.int per, .ref q] ∧ H q = some (.tup [.int lo, .int hi]) ∧ 0 < per ∧ per ≤ 10000 ∧ Q (.bl (barsH per lo hi)) H
def sp_right8 (K : PySem.W.Frag) : Sp := fun vs H Q _ => ∃ (pl x y : V) (per : Int) (b : Addr) (bs : List Int) (ws : List (Int × Int)) (sts : List Int) (r : List EntH), vs = [pl, .int per, .ref b, x, y] ∧ RingH K H b x y bs ws sts r ∧ r.length ≤ 60 ∧ WinOk ws ∧ 0 < per ∧ per ≤ 10000 ∧ (∀ z ∈ bs, 0 ≤ z ∧ z < per) ∧ bs.length ≤ 8 ∧
  ∀ (H' : Hp), Same H H' → Q (.bl true) H'
theorem sums_small {bs : List Int} {ws : List (Int × Int)} {sts : List Int} {r : List EntH} (hr : r.length ≤ 60) (hw : WinOk ws) (hb : ∀ z ∈ bs, 0 ≤ z ∧ z ≤ 10000) (hst : ∀ z ∈ sts, 0 ≤ z ∧ z < bs.length) (ho : ∀ e ∈ r, e.Ok ws.length sts) : (loH bs ws r).natAbs < 2 ^ 1000 ∧ (hiH bs ws r).natAbs < 2 ^ 1000 := by
  have hB : (10000 : Int) ≤ bB8 := by decide
  have h1 := sumH_rng (B := bB8) (by decide) (fun e => (entSH bs ws e).1) r fun e he => (entSH_rng hb hB hst hw (ho e he)).1
  have h2 := sumH_rng (B := bB8) (by decide) (fun e => (entSH bs ws e).2) r fun e he => (entSH_rng hb hB hst hw (ho e he)).2
  have h3 : bB8 * r.length ≤ bB8 * 60 := Int.mul_le_mul_of_nonneg_left (by omega) (by decide)
  have h4 : bB8 * 60 = 6000000000000000000000000000000000000000000 := by decide
  have h5 : (6000000000000000000000000000000000000000000 : Nat) < 2 ^ 1000 := by decide +kernel
  unfold loH hiH
  constructor
  · refine Nat.lt_of_le_of_lt ?_ h5
    omega
  · refine Nat.lt_of_le_of_lt ?_ h5
    omega
theorem lo_other {bs bs' : List Int} {ws : List (Int × Int)} {r : List EntH} (h : ∀ a b, EntH.hm a b ∈ r → bt bs' a = bt bs a ∧ bt bs' b = bt bs b) : loH bs' ws r = loH bs ws r ∧ hiH bs' ws r = hiH bs ws r := by
  have e : ∀ e ∈ r, entSH bs' ws e = entSH bs ws e := fun e he => by
    cases e with
    | sp s w => rfl
    | hm a b => dsimp only [entSH]; rw [(h a b he).1, (h a b he).2]
  constructor
  · unfold loH; congr 1; exact List.map_congr_left fun x hx => by rw [e x hx]
  · unfold hiH; congr 1; exact List.map_congr_left fun x hx => by rw [e x hx]
structure BfsH (K : PySem.W.Frag) (H : Hp) (kvs : List (Key × V)) (L : Addr) (l : List Spn) (sts : List Int) (works here : Int) (ln : List Int) : Prop where
  nd : ln.Nodup
  rng : ∀ z ∈ ln, 0 ≤ z ∧ z < works
  hd : here ∈ ln
  key : ∀ z : Int, (valV kvs (.inl z : Key)).isSome = decide (z ∈ ln)
  way : ∀ z ∈ ln, ∃ (q : Addr) (xs : List V) (r : List EntH), valV kvs (.inl z : Key) = some (.ref q) ∧ H q = some (.lst xs) ∧ q ≠ L ∧ DVs K H xs (r.map EntH.d) ∧ WalkE l here r z ∧ (∀ e ∈ r, e.Ok l.length sts) ∧ r.length < ln.length
  len : kvs.length = ln.length
theorem BfsH.few {K : PySem.W.Frag} {H : Hp} {kvs : List (Key × V)} {L : Addr} {l : List Spn} {sts : List Int} {works here : Int} {ln : List Int} (h : BfsH K H kvs L l sts works here ln) : ln.length ≤ works.toNat := by
  have := nodup_le (m := (List.range works.toNat).map fun k : Nat => (k : Int)) h.nd fun z hz => by
    have := h.rng z hz
    exact List.mem_map.mpr ⟨z.toNat, List.mem_range.mpr (by omega), by omega⟩
  rwa [List.length_map, List.length_range] at this
theorem BfsH.put {K : PySem.W.Frag} {H H2 : Hp} {kvs : List (Key × V)} {L : Addr} {l : List Spn} {sts : List Int} {works here : Int} {ln : List Int} (h : BfsH K H kvs L l sts works here ln) (tk : TK H H2) (kp : ∀ q xs, q ≠ L → H q = some (.lst xs) → H2 q = some (.lst xs)) {w : Int} (hw : w ∉ ln) (h0 : 0 ≤ w) (h1 : w < works)
    {p : Addr} {xs : List V} {r : List EntH} (hp : H2 p = some (.lst xs)) (hpL : p ≠ L) (dv : DVs K H2 xs (r.map EntH.d)) (wk : WalkE l here r w) (he : ∀ e ∈ r, e.Ok l.length sts) (hl : r.length ≤ ln.length) : BfsH K H2 (putK kvs (.inl w : Key) (.ref p)) L l sts works here (ln ++ [w]) := by
  have hn : valV kvs (.inl w : Key) = none := by
    have := h.key w
    rw [decide_eq_false hw] at this
    simpa using this
  refine ⟨?_, fun z hz => ?_, List.mem_append_left _ h.hd, fun z => ?_, fun z hz => ?_, ?_⟩
  · refine List.nodup_append.mpr ⟨h.nd, by simp, fun a ha b hb e => ?_⟩
    rw [List.mem_singleton.mp hb] at e
    exact hw (by rw [← e]; exact ha)
  · rcases List.mem_append.mp hz with y | y
    · exact h.rng z y
    · rw [List.mem_singleton.mp y]; exact ⟨h0, h1⟩
  · rw [valV_put]
    by_cases hz : z = w
    · rw [hz, if_pos rfl]
      simp
    · rw [if_neg (fun y => hz (by injection y)), h.key z]
      simp [hz]
  · rcases List.mem_append.mp hz with y | y
    · obtain ⟨q, ys, s, a1, a2, a3, a4, a5, a6, a7⟩ := h.way z y
      refine ⟨q, ys, s, ?_, kp q ys a3 a2, a3, a4.tk tk (noLs_entsH _), a5, a6, by rw [List.length_append]; omega⟩
      rw [valV_put, if_neg (fun x => hw (by injection x with x; rw [← x]; exact y))]
      exact a1
    · have y := List.mem_singleton.mp y
      subst y
      exact ⟨p, xs, r, by rw [valV_put, if_pos rfl], hp, hpL, dv, wk, he, by rw [List.length_append]; simp; omega⟩
  · rw [putK_new _ hn, List.length_append, List.length_append, h.len]
    rfl
theorem BfsH.keep {K : PySem.W.Frag} {H H2 : Hp} {kvs : List (Key × V)} {L : Addr} {l : List Spn} {sts : List Int} {works here : Int} {ln : List Int} (h : BfsH K H kvs L l sts works here ln) (tk : TK H H2) (kp : ∀ q xs, q ≠ L → H q = some (.lst xs) → H2 q = some (.lst xs)) : BfsH K H2 kvs L l sts works here ln :=
  ⟨h.nd, h.rng, h.hd, h.key, fun z hz => by
    obtain ⟨q, ys, s, a1, a2, a3, a4, a5, a6, a7⟩ := h.way z hz
    exact ⟨q, ys, s, a1, kp q ys a3 a2, a3, a4.tk tk (noLs_entsH _), a5, a6, a7⟩, h.len⟩
theorem BfsH.same {K : PySem.W.Frag} {H H2 : Hp} {kvs : List (Key × V)} {L : Addr} {l : List Spn} {sts : List Int} {works here : Int} {ln : List Int} (h : BfsH K H kvs L l sts works here ln) (s : Same H H2) : BfsH K H2 kvs L l sts works here ln := h.keep s.tk fun q xs _ e => s q _ e
theorem flat_ints : ∀ l : List Int, (l.map V.int).all flatV = true
  | [] => rfl
  | _ :: l => by rw [List.map_cons, List.all_cons, flat_ints l]; rfl
theorem inV_ints (z : Int) : ∀ l : List Int, inV (.int z) (l.map V.int) = decide (z ∈ l)
  | [] => by simp [inV]
  | a :: l => by
    have ih := inV_ints z l
    unfold inV at ih ⊢
    rw [List.map_cons, List.any_cons, ih]
    show ((a == z) || decide (z ∈ l)) = _
    by_cases h : a = z
    · simp [h]
    · have h' : ¬ z = a := fun x => h x.symm
      simp [h, h']
end Bp

namespace Bp
open PySem L2
set_option maxHeartbeats 4000000
def top (i : Nat) : Stmt := PySem.Challenge.pw_beatplans_k08_sums_and_bars.main.body.getD i (.Pass ⟨0, 0, 0, 0⟩)
abbrev s_entry_sums : Stmt := top 1
abbrev s_sums_of : Stmt := top 2
abbrev s_ring_bars : Stmt := top 3
abbrev s_law_feed : Stmt := top 5
abbrev s_law_draw : Stmt := top 6
abbrev s_law_names : Stmt := top 7
abbrev s_law_number : Stmt := top 8
abbrev s_law_span : Stmt := top 9
abbrev s_law_fitting : Stmt := top 10
abbrev s_law_plan : Stmt := top 11
abbrev s_law_beats : Stmt := top 12
abbrev s_law_whole : Stmt := top 13
abbrev s_law_end : Stmt := top 14
abbrev s_law_windows : Stmt := top 15
abbrev s_law_ends : Stmt := top 16
abbrev s_law_sums : Stmt := top 17
abbrev s_law_bars : Stmt := top 18
abbrev s_law_ring : Stmt := top 19
abbrev s_law_onward : Stmt := top 20
abbrev s_law_home_way : Stmt := top 21
abbrev s_law_turned_ring : Stmt := top 22
abbrev s_law_stays : Stmt := top 23
abbrev s_law_other_windows : Stmt := top 24
abbrev s_law_right : Stmt := top 25
abbrev s_law : Stmt := top 26
section
variable {P : Program} {w : World} {K : PySem.W.Frag} {mg : Str → Option Value} {base : Heap}
theorem sc_law_draw : FnScope ["_law_feed_here", "_law_many", "_law_found", "_law_cell", "_law_mixed"] ["_law_feed_here", "_law_many"] (defScope s_law_draw) := ⟨rfl, rfl, rfl, by decide +kernel, rfl, by decide +kernel, by decide +kernel⟩
theorem ok_law_draw {f : Addr} {fd : FuncData} (F : Fun K "_law_draw" "_law_draw" s_law_draw f fd) (T : Txt mg) : FnOk P w K mg base CX0 1 f fd ["_law_feed_here", "_law_many"] sp_draw := by
  refine F.ok sc_law_draw (fun vs H Q E h => ?_) (fun cdv A outer s H vs Q E hr h => ?_)
  · obtain ⟨f, c, m, rfl, _⟩ := h
    rfl
  · obtain ⟨f, c, m, rfl, hm, hm2, hF, k⟩ := h
    have hu := hu_of hr
    obtain ⟨ns, a, l, t, e1, e2, n1, n2⟩ := hF.ex
    have hcf := hF.ne
    have hlen : (0 : Int) < (ns.length : Int) := by
      cases ns with
      | nil => exact absurd rfl n1
      | cons x r => simp only [List.length_cons]; omega
    refine ⟨_, (@pss_cons _ _ _ _ _ (@ps_dput _ _ _ _ _ _ _ _ _ hu (@pv _ 0 _ _ rfl (Or.inl rfl) (by decide) (by decide)) (@pe_str _ _ _ _) (@pe_op _ _ _ _ _ _ _ _ op_add (@pe_dget _ _ _ _ _ _ hu (@pv _ 0 _ _ rfl (Or.inl rfl) (by decide) (by decide)) (@pe_str _ _ _ _) (fun _ _ => rfl)) (@pe_int _ _ _ _)) rfl) (@pss_cons _ _ _ _ _ (@ps_if _ _ _ _ _ _ _ _ (@pt_cmpR _ _ _ _ _ _ _ _ op_eq (@pe_dget _ _ _ _ _ _ hu (@pv _ 0 _ _ rfl (Or.inl rfl) (by decide) (by decide)) (@pe_str _ _ _ _) (fun _ _ => rfl)) (@pe_int _ _ _ _) (nomark _)) (@pss_cons _ _ _ _ _ (@ps_set _ _ 3 _ _ _ _ sc_law_draw.nd rfl (Or.inl rfl) (@pe_ix _ _ _ _ _ _ _ ix_list (@pe_dget _ _ _ _ _ _ hu (@pv _ 0 _ _ rfl (Or.inl rfl) (by decide) (by decide)) (@pe_str _ _ _ _) (fun _ _ => rfl)) (@pe_op _ _ _ _ _ _ _ _ op_mod (@pe_dget _ _ _ _ _ _ hu (@pv _ 0 _ _ rfl (Or.inl rfl) (by decide) (by decide)) (@pe_str _ _ _ _) (fun _ _ => rfl)) (@pe_callB _ _ _ _ _ _ _ _ _ call_len_seq rfl T.n_len PySem.boot_len (@pa_sub _ _ _ _ _ _ _ (@pe_dget _ _ _ _ _ _ hu (@pv _ 0 _ _ rfl (Or.inl rfl) (by decide) (by decide)) (@pe_str _ _ _ _) (fun _ _ => rfl)) (@pa_nil _)) (by decide) (by decide) (by rfl) (by rfl))) (fun _ _ => rfl)) (by rfl) (by first | exact Or.inl rfl | exact Or.inr rfl | assumption)) (@pss_cons _ _ _ _ _ (@ps_dput _ _ _ _ _ _ _ _ _ hu (@pv _ 0 _ _ rfl (Or.inl rfl) (by decide) (by decide)) (@pe_str _ _ _ _) (@pe_op _ _ _ _ _ _ _ _ op_add (@pe_dget _ _ _ _ _ _ hu (@pv _ 0 _ _ rfl (Or.inl rfl) (by decide) (by decide)) (@pe_str _ _ _ _) (fun _ _ => rfl)) (@pe_int _ _ _ _)) rfl) (@pss_cons _ _ _ _ _ (@ps_if _ _ _ _ _ _ _ _ (@pt_cmpR _ _ _ _ _ _ _ _ op_lt (@pv _ 3 _ _ rfl (Or.inl rfl) (by decide) (by decide)) (@pe_op _ _ _ _ _ _ _ _ op_pow (@pe_int _ _ _ _) (@pe_int _ _ _ _)) (nomark _)) (@pss_cons _ _ _ _ _ (@ps_set _ _ 4 _ _ _ _ sc_law_draw.nd rfl (Or.inl rfl) (@pe_op _ _ _ _ _ _ _ _ op_mod (@pe_op _ _ _ _ _ _ _ _ op_mul (@pe_op _ _ _ _ _ _ _ _ op_add (@pe_op _ _ _ _ _ _ _ _ op_mod (@pv _ 3 _ _ rfl (Or.inl rfl) (by decide) (by decide)) (@pe_int _ _ _ _)) (@pe_op _ _ _ _ _ _ _ _ op_mul (@pe_int _ _ _ _) (@pe_dget _ _ _ _ _ _ hu (@pv _ 0 _ _ rfl (Or.inl rfl) (by decide) (by decide)) (@pe_str _ _ _ _) (fun _ _ => rfl)))) (@pe_int _ _ _ _)) (@pe_int _ _ _ _)) (by rfl) (by first | exact Or.inl rfl | exact Or.inr rfl | assumption)) (@pss_cons _ _ _ _ _ (@ps_set _ _ 4 _ _ _ _ sc_law_draw.nd rfl (Or.inl rfl) (@pe_op _ _ _ _ _ _ _ _ op_mod (@pe_op _ _ _ _ _ _ _ _ op_mul (@pe_op _ _ _ _ _ _ _ _ op_add (@pe_op _ _ _ _ _ _ _ _ op_fdiv (@pv _ 4 _ _ rfl (Or.inl rfl) (by decide) (by decide)) (@pe_int _ _ _ _)) (@pe_op _ _ _ _ _ _ _ _ op_mul (@pe_int _ _ _ _) (@pe_dget _ _ _ _ _ _ hu (@pv _ 0 _ _ rfl (Or.inl rfl) (by decide) (by decide)) (@pe_str _ _ _ _) (fun _ _ => rfl)))) (@pe_int _ _ _ _)) (@pe_int _ _ _ _)) (by rfl) (by first | exact Or.inl rfl | exact Or.inr rfl | assumption)) (@pss_one _ _ _ (@ps_ret _ _ _ _ (@pe_op _ _ _ _ _ _ _ _ op_mod (@pe_op _ _ _ _ _ _ _ _ op_fdiv (@pv _ 4 _ _ rfl (Or.inl rfl) (by decide) (by decide)) (@pe_int _ _ _ _)) (@pv _ 1 _ _ rfl (Or.inl rfl) (by decide) (by decide))))))) (@pss_nil _)) (@pss_one _ _ _ (@ps_dput _ _ _ _ _ _ _ _ _ hu (@pv _ 0 _ _ rfl (Or.inl rfl) (by decide) (by decide)) (@pe_str _ _ _ _) (@pv _ 3 _ _ rfl (Or.inl rfl) (by decide) (by decide)) rfl))))) (@pss_nil _)) (@pss_cons _ _ _ _ _ (@ps_set _ _ 2 _ _ _ _ sc_law_draw.nd rfl (Or.inl rfl) (@pe_op _ _ _ _ _ _ _ _ op_mod (@pe_dget _ _ _ _ _ _ hu (@pv _ 0 _ _ rfl (Or.inl rfl) (by decide) (by decide)) (@pe_str _ _ _ _) (fun _ _ => rfl)) (@pv _ 1 _ _ rfl (Or.inl rfl) (by decide) (by decide))) (by rfl) (by first | exact Or.inl rfl | exact Or.inr rfl | assumption)) (@pss_cons _ _ _ _ _ (@ps_dput _ _ _ _ _ _ _ _ _ hu (@pv _ 0 _ _ rfl (Or.inl rfl) (by decide) (by decide)) (@pe_str _ _ _ _) (@pe_op _ _ _ _ _ _ _ _ op_fdiv (@pe_dget _ _ _ _ _ _ hu (@pv _ 0 _ _ rfl (Or.inl rfl) (by decide) (by decide)) (@pe_str _ _ _ _) (fun _ _ => rfl)) (@pv _ 1 _ _ rfl (Or.inl rfl) (by decide) (by decide))) rfl) (@pss_one _ _ _ (@ps_ret _ _ _ _ (@pv _ 2 _ _ rfl (Or.inl rfl) (by decide) (by decide)))))))), ?_⟩
    refine ⟨_, rfl, f, _, rfl, dg e1 kturn, _, _, rfl, rfl, _, rfl, f, _, rfl, dp e1 (pturn _) fd0_len, ?_⟩
    refine ⟨_, rfl, f, _, rfl, dg upd_same kleft, rfl, _, rfl, ?_⟩
    refine ite2 (fun _ => ?_) (fun _ => ?_)
    · -- the next cell
      have e2' : (upd H f (.dK (fd0 c a l (t + 1)))) c = some (.lst (ns.map V.int)) := by rw [upd_ne hcf]; exact e2
      obtain ⟨z, hz⟩ : ∃ z, (ns.map V.int)[(a % (ns.length : Int)).toNat]? = some (.int z) := by
        have hi : (a % (ns.length : Int)).toNat < ns.length := by
          have h1 := Int.emod_nonneg a (show (ns.length : Int) ≠ 0 by omega)
          have h2 := Int.emod_lt_of_pos a hlen
          omega
        exact ⟨ns[(a % (ns.length : Int)).toNat], by rw [List.getElem?_map, List.getElem?_eq_getElem hi]; rfl⟩
      have hz' : atI (ns.map V.int) (a % ((ns.map V.int).length : Int)) = some (.int z) := by
        rw [List.length_map]
        have h1 := Int.emod_nonneg a (show (ns.length : Int) ≠ 0 by omega)
        have := atI_nat hz
        rw [Int.toNat_of_nonneg h1] at this
        exact this
      refine ⟨_, rfl, f, _, rfl, dg upd_same kcells, _, rfl, f, _, rfl, dg upd_same kat, _, rfl, f, _, rfl, dg upd_same kcells, c, _, rfl, .inl (SqL.of e2'), _, _, rfl, rfl, (by show (0 : Int) < _; rw [List.length_map]; exact hlen), c, _, _, _, rfl, rfl, SqL.of e2', hz', ?_⟩
      refine ⟨_, rfl, f, _, rfl, dg upd_same kat, _, _, rfl, rfl, _, rfl, f, _, rfl, dp upd_same (pat _) fd0_len, ?_⟩
      rw [upd_upd]
      refine ⟨_, rfl, _, _, rfl, rfl, ⟨by decide, by decide, by decide⟩, _, _, rfl, rfl, _, rfl, ?_⟩
      refine ite2 (fun _ => ?_) (fun _ => ?_)
      · refine ⟨_, rfl, _, _, rfl, rfl, (by show (0 : Int) < 2147483629; decide), _, rfl, f, _, rfl, dg upd_same kturn, _, _, rfl, rfl, .inl (by decide), _, _, rfl, rfl, _, _, rfl, rfl, .inr (by decide), _, _, rfl, rfl, (by show (0 : Int) < 2147483647; decide), ?_⟩
        refine ⟨_, rfl, _, _, rfl, rfl, (by constructor <;> decide), _, rfl, f, _, rfl, dg upd_same kturn, _, _, rfl, rfl, .inl (by decide), _, _, rfl, rfl, _, _, rfl, rfl, .inr (by decide), _, _, rfl, rfl, (by show (0 : Int) < 2147483587; decide), ?_⟩
        refine ⟨_, rfl, _, _, rfl, rfl, (by constructor <;> decide), _, rfl, _, _, rfl, rfl, hm, ?_⟩
        exact k _ _ (Int.emod_nonneg _ (by omega)) (Int.emod_lt_of_pos _ hm) ⟨ns, _, _, _, upd_same, by rw [upd_ne hcf]; exact e2, n1, n2⟩ Sm.self
      · -- left = cell
        refine ⟨_, rfl, _, rfl, f, _, rfl, dp upd_same (pleft _) fd0_len, ?_⟩
        rw [upd_upd]
        refine ⟨_, rfl, f, _, rfl, dg upd_same kleft, _, rfl, _, _, rfl, rfl, hm, ?_⟩
        refine ⟨_, rfl, f, _, rfl, dg upd_same kleft, _, rfl, _, _, rfl, rfl, ⟨hm, by omega⟩, _, rfl, f, _, rfl, dp upd_same (pleft _) fd0_len, ?_⟩
        rw [upd_upd]
        refine ⟨_, rfl, ?_⟩
        exact k _ _ (Int.emod_nonneg _ (by omega)) (Int.emod_lt_of_pos _ hm) ⟨ns, _, _, _, upd_same, by rw [upd_ne hcf]; exact e2, n1, n2⟩ Sm.self
    · refine ⟨_, rfl, f, _, rfl, dg upd_same kleft, _, rfl, _, _, rfl, rfl, hm, ?_⟩
      refine ⟨_, rfl, f, _, rfl, dg upd_same kleft, _, rfl, _, _, rfl, rfl, ⟨hm, by omega⟩, _, rfl, f, _, rfl, dp upd_same (pleft _) fd0_len, ?_⟩
      rw [upd_upd]
      refine ⟨_, rfl, ?_⟩
      exact k _ _ (Int.emod_nonneg _ (by omega)) (Int.emod_lt_of_pos _ hm) ⟨ns, _, _, _, upd_same, by rw [upd_ne hcf]; exact e2, n1, n2⟩ Sm.self
end

section
variable {P : Program} {w : World} {K : PySem.W.Frag} {mg : Str → Option Value} {base : Heap}
theorem sc_law_end : FnScope ["_law_cycle", "_law_span_here", "_law_top"] ["_law_cycle", "_law_span_here"] (defScope s_law_end) := ⟨rfl, rfl, rfl, by decide +kernel, rfl, by decide +kernel, by decide +kernel⟩
theorem ok_law_end {f : Addr} {fd : FuncData} (F : Fun K "_law_end" "_law_end" s_law_end f fd) (T : Txt mg) : FnOk P w K mg base CX0 1 f fd ["_law_cycle", "_law_span_here"] sp_end := by
  refine F.ok sc_law_end (fun vs H Q E h => ?_) (fun cdv A outer s H vs Q E hr h => ?_)
  · obtain ⟨per, a, sp, rfl, _⟩ := h
    rfl
  · obtain ⟨per, a, sp, rfl, ha, k⟩ := h
    have e := SqT.of (K := K) ha
    refine ⟨_, (@pss_cons _ _ _ _ _ (@ps_set _ _ 2 _ _ _ _ sc_law_end.nd rfl (Or.inl rfl) (@pe_ifExp _ _ _ _ _ _ _ _ (@pt_cmpR _ _ _ _ _ _ _ _ op_eq (@pe_ix _ _ _ _ _ _ _ ix_tup (@pv _ 1 _ _ rfl (Or.inl rfl) (by decide) (by decide)) (@pe_int _ _ _ _) (fun _ _ => rfl)) (@pe_str _ _ _ _) (nomark _)) (@pe_ix _ _ _ _ _ _ _ ix_tup (@pv _ 1 _ _ rfl (Or.inl rfl) (by decide) (by decide)) (@pe_int _ _ _ _) (fun _ _ => rfl)) (@pe_op _ _ _ _ _ _ _ _ op_sub (@pv _ 0 _ _ rfl (Or.inl rfl) (by decide) (by decide)) (@pe_ix _ _ _ _ _ _ _ ix_tup (@pv _ 1 _ _ rfl (Or.inl rfl) (by decide) (by decide)) (@pe_int _ _ _ _) (fun _ _ => rfl)))) (by rfl) (by first | exact Or.inl rfl | exact Or.inr rfl | assumption)) (@pss_one _ _ _ (@ps_ret _ _ _ _ (@pe_callB _ _ _ _ _ _ _ _ _ (call_min2 rfl) rfl T.n_min PyProof.Rows.boot_min (@pa_name _ _ _ _ _ _ (@pv _ 2 _ _ rfl (Or.inl rfl) (by decide) (by decide)) (@pa_bin _ _ _ _ _ _ _ _ (@pe_op _ _ _ _ _ _ _ _ op_sub (@pe_op _ _ _ _ _ _ _ _ op_add (@pe_ix _ _ _ _ _ _ _ ix_tup (@pv _ 1 _ _ rfl (Or.inl rfl) (by decide) (by decide)) (@pe_int _ _ _ _) (fun _ _ => rfl)) (@pv _ 0 _ _ rfl (Or.inl rfl) (by decide) (by decide))) (@pe_int _ _ _ _)) (@pa_nil _))) (by decide) (by decide) (by rfl) (by rfl))))), ?_⟩
    have fin : ∀ top : Int, top = topZ per sp → tRet (tCB (fun xs H Q => ∃ i j, xs = [.int i, .int j] ∧ Q (.int (if j < i then j else i)) H) (tCons (tVar 2) (tCons (tOp (rI0 fun i j => .int (i - j)) (tOp (rI0 fun i j => .int (i + j)) (tOp (rIxT K) (tVar 1) (tC (.int 3))) (tVar 0)) (tC (.int 1))) tNil))) { nx := fun _ H' => Q .non H', rt := Q } [some (.int per), some (.ref a), some (.int top)] H := by
      rintro top rfl
      refine ⟨_, rfl, _, rfl, a, _, _, _, rfl, rfl, e, pickN (by decide) rfl, _, rfl, _, _, rfl, rfl, _, _, rfl, rfl, _, _, rfl, k⟩
    refine ⟨_, rfl, a, _, _, _, rfl, rfl, e, pickN (by decide) rfl, rfl, _, rfl, ?_⟩
    rw [ap_word]
    cases hb : sp.ap with
    | true => exact ⟨_, rfl, _, rfl, a, _, _, _, rfl, rfl, e, pickN (by decide) rfl, _, _, rfl, rfl, fin _ (by unfold topZ; rw [hb]; rfl)⟩
    | false => exact ⟨_, rfl, a, _, _, _, rfl, rfl, e, pickN (by decide) rfl, fin _ (by unfold topZ; rw [hb]; rfl)⟩
end

section
variable {P : Program} {w : World} {K : PySem.W.Frag} {mg : Str → Option Value} {base : Heap}
theorem sc_law_windows : FnScope ["_law_plan_here", "_law_cycle"] ["_law_plan_here", "_law_cycle"] (defScope s_law_windows) := ⟨rfl, rfl, rfl, by decide +kernel, rfl, by decide +kernel, by decide +kernel⟩
theorem ok_law_windows {f : Addr} {fd : FuncData} (F : Fun K "_law_windows" "_law_windows" s_law_windows f fd) (T : Txt mg) (D_law_end : Def P w K mg base 1 "_law_end" ["_law_cycle", "_law_span_here"] sp_end) : FnOk P w K mg base CX0 2 f fd ["_law_plan_here", "_law_cycle"] (sp_all_windows K) := by
  refine F.ok sc_law_windows (fun vs H Q E h => ?_) (fun cdv A outer s H vs Q E hr h => ?_)
  · obtain ⟨x, per, Pl, rfl, _⟩ := h
    rfl
  · obtain ⟨x, per, Pl, rfl, hs, hz, k⟩ := h
    obtain ⟨p, pn, ps, xs, rfl, e, e1, e2, r⟩ := plan_at hs
    have hxl : xs.length = Pl.spans.length := by rw [r.length, List.length_map]
    refine ⟨_, (@pss_one _ _ _ (@ps_ret _ _ _ _ (@pe_callTy _ _ _ _ _ _ _ _ _ call_tuple_of rfl T.n_tuple PyProof.Rows.boot_tuple (@pa_lc _ _ _ _ _ _ _ _ (@pe_lc _ ["_law_span_here", "_law_cycle"] [none, (some 1)] _ _ _ _ _ _ _ _ _ _ rfl (@CScope.of _ _ _ _ rfl) (@pi_tup _ _ _ _ (@pe_ix _ _ _ _ _ _ _ ix_tup (@pv _ 0 _ _ rfl (Or.inl rfl) (by decide) (by decide)) (@pe_int _ _ _ _) (fun _ _ => rfl))) (fun _ _ _ _ _ => (@pgc _ _ _ _ _ _ _ _ 0 _ _ (by decide) rfl rfl)) (fun _ _ _ _ _ => pif_nil) (fun _ _ _ _ _ => (@pe_tup _ _ _ _ _ (@pa_sub _ _ _ _ _ _ _ (@pe_ix _ _ _ _ _ _ _ ixc_tup (@pvc _ _ _ _ _ _ _ _ 0 _ _ (by rfl) (by first | exact Or.inl rfl | exact Or.inr rfl) (by decide) (by decide)) (@pe_int _ _ _ _) (fun _ _ => rfl)) (@pa_call _ _ _ _ _ _ _ _ (@pe_own _ _ _ _ _ _ _ _ _ _ D_law_end (hr.mono (by decide)) (glc rfl) (@pa_name _ _ _ _ _ _ (@pvc _ _ _ _ _ _ _ _ 1 _ _ (by rfl) (by first | exact Or.inl rfl | exact Or.inr rfl) (by decide) (by decide)) (@pa_name _ _ _ _ _ _ (@pvc _ _ _ _ _ _ _ _ 0 _ _ (by rfl) (by first | exact Or.inl rfl | exact Or.inr rfl) (by decide) (by decide)) (@pa_nil _))) (by decide) (by rfl) (by rfl)) (@pa_nil _))))) (by intro _ ; rfl)) (@pa_nil _)) (by decide) (by decide) (by rfl) (by rfl)))), ?_⟩
    refine ⟨_, rfl, p, _, _, _, rfl, rfl, SqT.of e, pickN (by decide) rfl, ps, rfl, ⟨_, SqT.of e2⟩, fun D hD => ?_⟩
    refine lc_tup (xs := xs) 1 [some (.int per)]
      (fun i ys H3 => Same H H3 ∧ H3 D = some (.lst ys) ∧ DVs K H3 ys ((winsZ per (Pl.spans.take i)).map pairD2) ∧ i ≤ Pl.spans.length)
      rfl ⟨Same.new hD, upd_same, .nil, Nat.zero_le _⟩ (fun i ys H3 _ ⟨h, _⟩ => SqT.of (h _ _ e2)) ?_ ?_
    · rintro i x' ys H3 os hx ho ⟨S3, hD3, dv3, hle⟩
      obtain ⟨o, rfl⟩ := os1 ho
      have hi : i < xs.length := (List.getElem?_eq_some_iff.mp hx).1
      have hi' : i < Pl.spans.length := by omega
      obtain ⟨y, hy, dy⟩ := r.get' (i := i) (d := (Pl.spans[i]).d) (by rw [List.getElem?_map, List.getElem?_eq_getElem hi']; rfl)
      obtain ⟨q, rfl, hq⟩ := span_at dy
      rw [hy] at hx
      cases hx
      have hyl : ys.length = i := by rw [dv3.length, List.length_map, winsZ, List.length_map, List.length_take]; omega
      refine noifN ?_
      refine ⟨_, rfl, q, _, _, _, rfl, rfl, SqT.of (S3 _ _ hq), pickN (by decide) rfl, _, rfl, _, rfl, per, q, Pl.spans[i], rfl, S3 _ _ hq, by show 2 ≤ sizeLine; decide, fun t ht => ?_⟩
      have hD4 := Same.new (o := .tup [.int (Pl.spans[i]).low, .int (endZ per Pl.spans[i])]) ht _ _ hD3
      refine LcN.mk (os := [some (.ref q)]) hi hD4 (by rw [hyl]; exact Nat.lt_of_lt_of_le hi' (Nat.le_trans hz (by decide))) rfl rfl ?_
      refine ⟨(S3.trans (Same.new ht)).acc hD, upd_same, ?_, hi'⟩
      rw [List.take_succ, List.getElem?_eq_getElem hi', winsZ, List.map_append, List.map_append]
      exact (dv3.tk ((Same.new ht).tk.trans (TK.updL hD4)) (noLs_pairs _)).append (.cons (at_pair (p := ((Pl.spans[i]).low, endZ per Pl.spans[i])) ((TK.updL hD4) t _ upd_same)) .nil)
    · rintro ys H3 ⟨S3, hD3, dv3, _⟩
      rw [List.take_of_length_le (by omega)] at dv3
      refine ⟨D, _, rfl, .inl ⟨SqL.of hD3, fun l hl => ?_⟩⟩
      exact k l _ (S3.trans (Same.new hl)) (.tup upd_same (dv3.tk (TK.new hl) (noLs_pairs _)))
theorem sc_law_bars : FnScope ["_law_cycle", "_law_sums_here", "_law_least", "_law_most"] ["_law_cycle", "_law_sums_here"] (defScope s_law_bars) := ⟨rfl, rfl, rfl, by decide +kernel, rfl, by decide +kernel, by decide +kernel⟩
theorem ok_law_bars {f : Addr} {fd : FuncData} (F : Fun K "_law_bars" "_law_bars" s_law_bars f fd) (T : Txt mg) : FnOk P w K mg base CX0 1 f fd ["_law_cycle", "_law_sums_here"] sp_bars8 := by
  refine F.ok sc_law_bars (fun vs H Q E h => ?_) (fun cdv A outer s H vs Q E hr h => ?_)
  · obtain ⟨per, lo, hi, q, rfl, _⟩ := h
    rfl
  · obtain ⟨per, lo, hi, q, rfl, hq, hp, hp2, k⟩ := h
    refine ⟨_, (@pss_cons _ _ _ _ _ (@ps_asg _ _ _ _ _ _ (@pv _ 1 _ _ rfl (Or.inl rfl) (by decide) (by decide)) (@pg_tup _ _ _ _ _ _ rfl (@pgs_cons _ _ _ _ _ (@pg_name _ _ 2 _ sc_law_bars.nd rfl (Or.inl rfl) (by first | exact Or.inl rfl | exact Or.inr rfl | assumption)) (@pgs_cons _ _ _ _ _ (@pg_name _ _ 3 _ sc_law_bars.nd rfl (Or.inl rfl) (by first | exact Or.inl rfl | exact Or.inr rfl | assumption)) (@pgs_nil _) (by rfl)) (by rfl)) (by rfl) (by rfl)) (by rfl) (by rfl) (by rfl)) (@pss_one _ _ _ (@ps_ret _ _ _ _ (@pe_cmpR _ _ _ _ _ _ _ _ op_lt (@pe_op _ _ _ _ _ _ _ _ op_mul (@pe_op _ _ _ _ _ _ _ _ op_fdiv (@pv _ 3 _ _ rfl (Or.inl rfl) (by decide) (by decide)) (@pv _ 0 _ _ rfl (Or.inl rfl) (by decide) (by decide))) (@pv _ 0 _ _ rfl (Or.inl rfl) (by decide) (by decide))) (@pv _ 2 _ _ rfl (Or.inl rfl) (by decide) (by decide)) (nomark _))))), ?_⟩
    refine ⟨_, rfl, q, _, rfl, SqT.of hq, rfl, _, _, rfl, _, _, rfl, rfl, ?_⟩
    try simp only [List.set_cons_zero, List.set_cons_succ]
    refine ⟨_, rfl, _, rfl, _, _, rfl, rfl, ⟨hp, by omega⟩, _, rfl, _, _, rfl, rfl, .inr ⟨by omega, by omega⟩, _, rfl, _, _, rfl, rfl, ?_⟩
    exact k
theorem sc_entry_sums : FnScope ["beats", "windows", "entry", "apart", "s", "way", "least", "most"] ["beats", "windows", "entry"] (defScope s_entry_sums) := ⟨rfl, rfl, rfl, by decide +kernel, rfl, by decide +kernel, by decide +kernel⟩
theorem ok_entry_sums {f : Addr} {fd : FuncData} (F : Fun K "entry_sums" "entry_sums" s_entry_sums f fd) (T : Txt mg) : FnOk P w K mg base CX0 1 f fd ["beats", "windows", "entry"] (sp_entry_sums8 K) := by
  refine F.ok sc_entry_sums (fun vs H Q E h => ?_) (fun cdv A outer s H vs Q E hr h => ?_)
  · obtain ⟨b, x, a, bs, ws, sts, e, rfl, _⟩ := h
    rfl
  · obtain ⟨b, x, a, bs, ws, sts, e, rfl, hb, hx, ha, ho, hst, k⟩ := h
    obtain ⟨wa, xs, rfl, hwa, dv⟩ := pairs_at hx
    refine ⟨_, (@pss_cons _ _ _ _ _ (@ps_if _ _ _ _ _ _ _ _ (@pt_cmpR _ _ _ _ _ _ _ _ op_eq (@pe_callB _ _ _ _ _ _ _ _ _ call_len_seq rfl T.n_len PySem.boot_len (@pa_name _ _ _ _ _ _ (@pv _ 2 _ _ rfl (Or.inl rfl) (by decide) (by decide)) (@pa_nil _)) (by decide) (by decide) (by rfl) (by rfl)) (@pe_int _ _ _ _) (nomark _)) (@pss_cons _ _ _ _ _ (@ps_set _ _ 3 _ _ _ _ sc_entry_sums.nd rfl (Or.inl rfl) (@pe_op _ _ _ _ _ _ _ _ op_sub (@pe_ix _ _ _ _ _ _ _ ix_tup (@pv _ 0 _ _ rfl (Or.inl rfl) (by decide) (by decide)) (@pe_ix _ _ _ _ _ _ _ ix_tup (@pv _ 2 _ _ rfl (Or.inl rfl) (by decide) (by decide)) (@pe_int _ _ _ _) (fun _ _ => rfl)) (fun _ _ => rfl)) (@pe_ix _ _ _ _ _ _ _ ix_tup (@pv _ 0 _ _ rfl (Or.inl rfl) (by decide) (by decide)) (@pe_ix _ _ _ _ _ _ _ ix_tup (@pv _ 2 _ _ rfl (Or.inl rfl) (by decide) (by decide)) (@pe_int _ _ _ _) (fun _ _ => rfl)) (fun _ _ => rfl))) (by rfl) (by first | exact Or.inl rfl | exact Or.inr rfl | assumption)) (@pss_one _ _ _ (@ps_ret _ _ _ _ (@pe_tup _ _ _ _ _ (@pa_name _ _ _ _ _ _ (@pv _ 3 _ _ rfl (Or.inl rfl) (by decide) (by decide)) (@pa_name _ _ _ _ _ _ (@pv _ 3 _ _ rfl (Or.inl rfl) (by decide) (by decide)) (@pa_nil _))))))) (@pss_nil _)) (@pss_cons _ _ _ _ _ (@ps_asg _ _ _ _ _ _ (@pv _ 2 _ _ rfl (Or.inl rfl) (by decide) (by decide)) (@pg_tup _ _ _ _ _ _ rfl (@pgs_cons _ _ _ _ _ (@pg_name _ _ 4 _ sc_entry_sums.nd rfl (Or.inl rfl) (by first | exact Or.inl rfl | exact Or.inr rfl | assumption)) (@pgs_cons _ _ _ _ _ (@pg_name _ _ 5 _ sc_entry_sums.nd rfl (Or.inl rfl) (by first | exact Or.inl rfl | exact Or.inr rfl | assumption)) (@pgs_nil _) (by rfl)) (by rfl)) (by rfl) (by rfl)) (by rfl) (by rfl) (by rfl)) (@pss_cons _ _ _ _ _ (@ps_asg _ _ _ _ _ _ (@pe_ix _ _ _ _ _ _ _ ix_tup (@pv _ 1 _ _ rfl (Or.inl rfl) (by decide) (by decide)) (@pv _ 4 _ _ rfl (Or.inl rfl) (by decide) (by decide)) (fun _ _ => rfl)) (@pg_tup _ _ _ _ _ _ rfl (@pgs_cons _ _ _ _ _ (@pg_name _ _ 6 _ sc_entry_sums.nd rfl (Or.inl rfl) (by first | exact Or.inl rfl | exact Or.inr rfl | assumption)) (@pgs_cons _ _ _ _ _ (@pg_name _ _ 7 _ sc_entry_sums.nd rfl (Or.inl rfl) (by first | exact Or.inl rfl | exact Or.inr rfl | assumption)) (@pgs_nil _) (by rfl)) (by rfl)) (by rfl) (by rfl)) (by rfl) (by rfl) (by rfl)) (@pss_one _ _ _ (@ps_ret _ _ _ _ (@pe_ifExp _ _ _ _ _ _ _ _ (@pt_cmpR _ _ _ _ _ _ _ _ op_eq (@pv _ 5 _ _ rfl (Or.inl rfl) (by decide) (by decide)) (@pe_int _ _ _ _) (nomark _)) (@pe_tup _ _ _ _ _ (@pa_name _ _ _ _ _ _ (@pv _ 6 _ _ rfl (Or.inl rfl) (by decide) (by decide)) (@pa_name _ _ _ _ _ _ (@pv _ 7 _ _ rfl (Or.inl rfl) (by decide) (by decide)) (@pa_nil _)))) (@pe_tup _ _ _ _ _ (@pa_un _ _ _ _ _ _ _ (@pe_un _ _ _ _ _ _ un_neg (@pv _ 7 _ _ rfl (Or.inl rfl) (by decide) (by decide))) (@pa_un _ _ _ _ _ _ _ (@pe_un _ _ _ _ _ _ un_neg (@pv _ 6 _ _ rfl (Or.inl rfl) (by decide) (by decide))) (@pa_nil _)))))))))), ?_⟩
    cases e with
    | sp s w =>
      obtain ⟨h0, h1, h2⟩ := ho
      have hi : s.toNat < ws.length := by omega
      obtain ⟨q, hq, hqe⟩ := pairs_get dv hi
      refine ⟨_, rfl, a, _, rfl, .inr (SqT.of ha), rfl, _, rfl, iteDF (fun z => absurd (V.int.inj z) (show ¬ (2 : Int) = 3 by decide)) ?_⟩
      refine ⟨_, rfl, a, _, rfl, SqT.of ha, rfl, _, _, rfl, _, _, rfl, rfl, ?_⟩
      try simp only [List.set_cons_zero, List.set_cons_succ]
      refine ⟨_, rfl, _, rfl, wa, _, _, _, rfl, rfl, SqT.of hwa, pickN h0 hq, q, _, rfl, SqT.of hqe, rfl, _, _, rfl, _, _, rfl, rfl, ?_⟩
      try simp only [List.set_cons_zero, List.set_cons_succ]
      refine ⟨_, rfl, rfl, _, rfl, ite2 (fun hd => ?_) (fun hd => ?_)⟩
      · have hd : w = 1 := by simpa [dec_int] using hd
        refine ⟨_, rfl, _, rfl, by show 2 ≤ sizeLine; decide, fun p hp => k p _ (Same.new hp) ?_⟩
        show _ = some (HO.tup [.int (entS ws (s, w)).1, .int (entS ws (s, w)).2])
        rw [upd_same, entS, if_pos hd, List.getD_eq_getElem?_getD, List.getElem?_eq_getElem hi]
        rfl
      · have hd : ¬ w = 1 := by simpa [dec_int] using hd
        refine ⟨_, rfl, _, rfl, _, rfl, _, rfl, by show 2 ≤ sizeLine; decide, fun p hp => k p _ (Same.new hp) ?_⟩
        show _ = some (HO.tup [.int (entS ws (s, w)).1, .int (entS ws (s, w)).2])
        rw [upd_same, entS, if_neg hd, List.getD_eq_getElem?_getD, List.getElem?_eq_getElem hi]
        rfl
    | hm u v =>
      have hu' := hst u ho.1
      have hv' := hst v ho.2
      refine ⟨_, rfl, a, _, rfl, .inr (SqT.of ha), rfl, _, rfl, iteDT rfl ?_⟩
      refine ⟨_, rfl, _, rfl, a, _, _, _, rfl, rfl, SqT.of ha, pickN (by decide) rfl, b, _, _, _, rfl, rfl, SqT.of hb, bt_at hv'.1 hv'.2, _, rfl, _, rfl, a, _, _, _, rfl, rfl, SqT.of ha, pickN (by decide) rfl, b, _, _, _, rfl, rfl, SqT.of hb, bt_at hu'.1 hu'.2, _, _, rfl, rfl, ?_⟩
      try simp only [List.set_cons_zero, List.set_cons_succ]
      refine ⟨_, rfl, _, rfl, by show 2 ≤ sizeLine; decide, fun p hp => k p _ (Same.new hp) upd_same⟩
theorem sc_sums_of : FnScope ["plan", "period", "beats", "windows", "ring", "sums"] ["plan", "period", "beats", "windows", "ring"] (defScope s_sums_of) := ⟨rfl, rfl, rfl, by decide +kernel, rfl, by decide +kernel, by decide +kernel⟩
theorem ok_sums_of {f : Addr} {fd : FuncData} (F : Fun K "sums_of" "sums_of" s_sums_of f fd) (T : Txt mg) (D_entry_sums : Def P w K mg base 1 "entry_sums" ["beats", "windows", "entry"] (sp_entry_sums8 K)) : FnOk P w K mg base CX0 2 f fd ["plan", "period", "beats", "windows", "ring"] (sp_sums_of8 K) := by
  refine F.ok sc_sums_of (fun vs H Q E h => ?_) (fun cdv A outer s H vs Q E hr h => ?_)
  · obtain ⟨pl, pe, x, y, b, bs, ws, sts, r, rfl, _⟩ := h
    rfl
  · obtain ⟨pl, pe, x, y, b, bs, ws, sts, r, rfl, RH, k⟩ := h
    have hl := RH.len
    obtain ⟨ra, xs, rfl, hra, dv⟩ := entsH_at RH.dy
    have hxl : xs.length = r.length := by rw [dv.length, List.length_map]
    refine ⟨_, (@pss_cons _ _ _ _ _ (@ps_lc _ ["entry", "beats", "windows"] [none, (some 2), (some 3)] _ _ _ _ _ _ _ _ _ _ _ _ 5 _ sc_sums_of.nd rfl rfl rfl (@CScope.of _ _ _ _ rfl) (@pi_tup _ _ _ _ (@pv _ 4 _ _ rfl (Or.inl rfl) (by decide) (by decide))) (fun _ _ _ _ _ => (@pgc _ _ _ _ _ _ _ _ 0 _ _ (by decide) rfl rfl)) (fun _ _ _ _ _ => pif_nil) (fun _ _ _ _ _ => (@pe_own _ _ _ _ _ _ _ _ _ _ D_entry_sums (hr.mono (by decide)) (glc rfl) (@pa_name _ _ _ _ _ _ (@pvc _ _ _ _ _ _ _ _ 1 _ _ (by rfl) (by first | exact Or.inl rfl | exact Or.inr rfl) (by decide) (by decide)) (@pa_name _ _ _ _ _ _ (@pvc _ _ _ _ _ _ _ _ 2 _ _ (by rfl) (by first | exact Or.inl rfl | exact Or.inr rfl) (by decide) (by decide)) (@pa_name _ _ _ _ _ _ (@pvc _ _ _ _ _ _ _ _ 0 _ _ (by rfl) (by first | exact Or.inl rfl | exact Or.inr rfl) (by decide) (by decide)) (@pa_nil _)))) (by decide) (by rfl) (by rfl))) rfl (by intro _ ; rfl)) (@pss_one _ _ _ (@ps_ret _ _ _ _ (@pe_tup _ _ _ _ _ (@pa_call _ _ _ _ _ _ _ _ (@pe_callB _ _ _ _ _ _ _ _ _ (call_sum rfl) rfl T.n_sum PyProof.Rows.boot_sum (@pa_lc _ _ _ _ _ _ _ _ (@pe_lc _ ["least", "most"] [none, none] _ _ _ _ _ _ _ _ _ _ rfl (@CScope.of _ _ _ _ rfl) (@pi_list _ _ _ _ (@pv _ 5 _ _ rfl (Or.inl rfl) (by decide) (by decide))) (fun _ _ _ _ _ => (@pgc_tup _ _ _ _ _ _ _ _ _ _ _ 2 _ rfl (@pgs_cons _ _ _ _ _ (@pgc _ _ _ _ _ _ _ _ 0 _ _ (by decide) rfl rfl) (@pgs_cons _ _ _ _ _ (@pgc _ _ _ _ _ _ _ _ 1 _ _ (by decide) rfl rfl) (@pgs_nil _) (by rfl)) (by rfl)) (by rfl) (by rfl))) (fun _ _ _ _ _ => pif_nil) (fun _ _ _ _ _ => (@pvc _ _ _ _ _ _ _ _ 0 _ _ (by rfl) (by first | exact Or.inl rfl | exact Or.inr rfl) (by decide) (by decide))) (by intro _ ; rfl)) (@pa_nil _)) (by decide) (by decide) (by rfl) (by rfl)) (@pa_call _ _ _ _ _ _ _ _ (@pe_callB _ _ _ _ _ _ _ _ _ (call_sum rfl) rfl T.n_sum PyProof.Rows.boot_sum (@pa_lc _ _ _ _ _ _ _ _ (@pe_lc _ ["least", "most"] [none, none] _ _ _ _ _ _ _ _ _ _ rfl (@CScope.of _ _ _ _ rfl) (@pi_list _ _ _ _ (@pv _ 5 _ _ rfl (Or.inl rfl) (by decide) (by decide))) (fun _ _ _ _ _ => (@pgc_tup _ _ _ _ _ _ _ _ _ _ _ 2 _ rfl (@pgs_cons _ _ _ _ _ (@pgc _ _ _ _ _ _ _ _ 0 _ _ (by decide) rfl rfl) (@pgs_cons _ _ _ _ _ (@pgc _ _ _ _ _ _ _ _ 1 _ _ (by decide) rfl rfl) (@pgs_nil _) (by rfl)) (by rfl)) (by rfl) (by rfl))) (fun _ _ _ _ _ => pif_nil) (fun _ _ _ _ _ => (@pvc _ _ _ _ _ _ _ _ 1 _ _ (by rfl) (by first | exact Or.inl rfl | exact Or.inr rfl) (by decide) (by decide))) (by intro _ ; rfl)) (@pa_nil _)) (by decide) (by decide) (by rfl) (by rfl)) (@pa_nil _))))))), ?_⟩
    refine ⟨_, rfl, ra, rfl, ⟨_, SqT.of hra⟩, fun D hD => ?_⟩
    refine lc_tup (K := K) (a := ra) (xs := xs) 1 [some (.ref b), some x]
      (fun i ys H3 => Same H H3 ∧ H3 D = some (.lst ys) ∧ DVs K H3 ys (((r.take i).map (entSH bs ws)).map pairD2) ∧ i ≤ r.length)
      rfl ⟨Same.new hD, upd_same, .nil, Nat.zero_le _⟩ (fun i ys H3 _ ⟨h, _⟩ => SqT.of (h _ _ hra)) ?_ ?_
    · rintro i v ys H3 os hi ho1 ⟨S3, hD3, dv3, hle⟩
      obtain ⟨o, rfl⟩ := os1 ho1
      have hi0 : i < xs.length := (List.getElem?_eq_some_iff.mp hi).1
      obtain ⟨hi', q, rfl, hq⟩ := entsH_item dv hi
      have hyl : ys.length = i := by rw [dv3.length, List.length_map, List.length_map, List.length_take]; omega
      refine noifN ?_
      refine ⟨_, rfl, _, rfl, _, rfl, b, x, q, bs, ws, sts, r[i], rfl, S3 _ _ RH.hb, RH.dx.same S3, S3 _ _ hq, RH.ok _ (List.getElem_mem hi'), RH.st, fun t H4 S4 ht => ?_⟩
      have hD4 := S4 _ _ hD3
      refine LcN.mk (os := [some (.ref q)]) hi0 hD4 (by rw [hyl]; exact Nat.lt_of_lt_of_le hi' (Nat.le_trans hl (by decide))) rfl rfl ?_
      refine ⟨(S3.trans S4).acc hD, upd_same, ?_, hi'⟩
      rw [List.take_succ, List.getElem?_eq_getElem hi', List.map_append, List.map_append]
      exact (dv3.tk ((Same.tk S4).trans (TK.updL hD4)) (noLs_pairs _)).append (.cons (at_pair ((TK.updL hD4) t _ ht)) .nil)
    · rintro ys H3 ⟨S3, hD3, dv3, _⟩
      rw [List.take_of_length_le (by omega)] at dv3
      have hyl : ys.length = r.length := by rw [dv3.length, List.length_map, List.length_map]
      try simp only [List.set_cons_zero, List.set_cons_succ]
      refine ⟨_, rfl, D, rfl, ⟨_, SqL.of hD3⟩, fun D1 hD1 => ?_⟩
      refine lc_list (K := K) (a := D) (xs := ys) 2 []
        (fun i zs H4 => Same H3 H4 ∧ H4 D1 = some (.lst zs) ∧ ∃ ns : List Int, zs = ns.map V.int ∧ ns = (r.take i).map (fun e => (entSH bs ws e).1))
        rfl ⟨Same.new hD1, upd_same, [], rfl, rfl⟩ (fun i zs H4 _ ⟨h, _⟩ => SqL.of (h _ _ hD3)) ?_ ?_
      · rintro i v zs H4 os hi ho1 ⟨S4, hD4, ns, rfl, hns⟩
        obtain ⟨o, o', rfl⟩ := os2 ho1
        have hi0 : i < ys.length := (List.getElem?_eq_some_iff.mp hi).1
        obtain ⟨d, hd, dx⟩ := dv3.get hi
        have hi' : i < r.length := by omega
        rw [List.getElem?_map, List.getElem?_map, List.getElem?_eq_getElem hi'] at hd
        cases hd
        obtain ⟨q, rfl, hq⟩ := pair_at dx
        refine ⟨q, _, rfl, SqT.of (S4 _ _ hq), rfl, _, _, rfl, _, _, rfl, rfl, noif ?_⟩
        refine ⟨_, rfl, LcN.mk (os := [some (.int (entSH bs ws r[i]).1), some (.int (entSH bs ws r[i]).2)]) hi0 hD4 (by rw [List.length_map, hns, List.length_map, List.length_take]; exact Nat.lt_of_le_of_lt (Nat.min_le_left _ _) (Nat.lt_of_lt_of_le hi' (Nat.le_trans hl (by decide)))) rfl rfl ?_⟩
        refine ⟨S4.acc hD1, upd_same, ns ++ [(entSH bs ws r[i]).1], by rw [List.map_append]; rfl, ?_⟩
        rw [hns, List.take_succ, List.getElem?_eq_getElem hi', List.map_append]
        rfl
      · rintro zs H4 ⟨S4, hD4, ns, rfl, hns⟩
        rw [List.take_of_length_le (by omega)] at hns
        refine ⟨D1, ns, rfl, SqL.of hD4, ?_⟩
        have hsum : ns.sum = loH bs ws r := by rw [hns]; rfl
        have hD34 := S4 _ _ hD3
        have S34 := S3.trans S4
        have dv34 := dv3.same S4
        clear hns hD4
        refine ⟨_, rfl, D, rfl, ⟨_, SqL.of hD34⟩, fun D2 hD2 => ?_⟩
        refine lc_list (K := K) (a := D) (xs := ys) 2 []
          (fun i zs H5 => Same H4 H5 ∧ H5 D2 = some (.lst zs) ∧ ∃ ns : List Int, zs = ns.map V.int ∧ ns = (r.take i).map (fun e => (entSH bs ws e).2))
          rfl ⟨Same.new hD2, upd_same, [], rfl, rfl⟩ (fun i zs H5 _ ⟨h, _⟩ => SqL.of (h _ _ hD34)) ?_ ?_
        · rintro i v zs H5 os hi ho1 ⟨S5, hD4, ns, rfl, hns⟩
          obtain ⟨o, o', rfl⟩ := os2 ho1
          have hi0 : i < ys.length := (List.getElem?_eq_some_iff.mp hi).1
          obtain ⟨d, hd, dx⟩ := dv34.get hi
          have hi' : i < r.length := by omega
          rw [List.getElem?_map, List.getElem?_map, List.getElem?_eq_getElem hi'] at hd
          cases hd
          obtain ⟨q, rfl, hq⟩ := pair_at dx
          refine ⟨q, _, rfl, SqT.of (S5 _ _ hq), rfl, _, _, rfl, _, _, rfl, rfl, noif ?_⟩
          refine ⟨_, rfl, LcN.mk (os := [some (.int (entSH bs ws r[i]).1), some (.int (entSH bs ws r[i]).2)]) hi0 hD4 (by rw [List.length_map, hns, List.length_map, List.length_take]; exact Nat.lt_of_le_of_lt (Nat.min_le_left _ _) (Nat.lt_of_lt_of_le hi' (Nat.le_trans hl (by decide)))) rfl rfl ?_⟩
          refine ⟨S5.acc hD2, upd_same, ns ++ [(entSH bs ws r[i]).2], by rw [List.map_append]; rfl, ?_⟩
          rw [hns, List.take_succ, List.getElem?_eq_getElem hi', List.map_append]
          rfl
        · rintro zs H5 ⟨S5, hD5, ms, rfl, hms⟩
          rw [List.take_of_length_le (by omega)] at hms
          refine ⟨D2, ms, rfl, SqL.of hD5, ?_⟩
          have hsum2 : ms.sum = hiH bs ws r := by rw [hms]; rfl
          rw [hsum, hsum2]
          refine ⟨by show 2 ≤ sizeLine; decide, fun p hp => ?_⟩
          exact k p _ ((S34.trans S5).trans (Same.new hp)) upd_same
theorem sc_ring_bars : FnScope ["plan", "period", "beats", "windows", "ring", "least", "most"] ["plan", "period", "beats", "windows", "ring"] (defScope s_ring_bars) := ⟨rfl, rfl, rfl, by decide +kernel, rfl, by decide +kernel, by decide +kernel⟩
theorem ok_ring_bars {f : Addr} {fd : FuncData} (F : Fun K "ring_bars" "ring_bars" s_ring_bars f fd) (T : Txt mg) (D_sums_of : Def P w K mg base 2 "sums_of" ["plan", "period", "beats", "windows", "ring"] (sp_sums_of8 K)) : FnOk P w K mg base CX0 3 f fd ["plan", "period", "beats", "windows", "ring"] (sp_ring_bars8 K) := by
  refine F.ok sc_ring_bars (fun vs H Q E h => ?_) (fun cdv A outer s H vs Q E hr h => ?_)
  · obtain ⟨pl, x, y, per, b, bs, ws, sts, r, rfl, _⟩ := h
    rfl
  · obtain ⟨pl, x, y, per, b, bs, ws, sts, r, rfl, RH, hp, hp2, k⟩ := h
    refine ⟨_, (@pss_cons _ _ _ _ _ (@ps_asg _ _ _ _ _ _ (@pe_own _ _ _ _ _ _ _ _ _ _ D_sums_of (hr.mono (by decide)) rfl (@pa_name _ _ _ _ _ _ (@pv _ 0 _ _ rfl (Or.inl rfl) (by decide) (by decide)) (@pa_name _ _ _ _ _ _ (@pv _ 1 _ _ rfl (Or.inl rfl) (by decide) (by decide)) (@pa_name _ _ _ _ _ _ (@pv _ 2 _ _ rfl (Or.inl rfl) (by decide) (by decide)) (@pa_name _ _ _ _ _ _ (@pv _ 3 _ _ rfl (Or.inl rfl) (by decide) (by decide)) (@pa_name _ _ _ _ _ _ (@pv _ 4 _ _ rfl (Or.inl rfl) (by decide) (by decide)) (@pa_nil _)))))) (by decide) (by rfl) (by rfl)) (@pg_tup _ _ _ _ _ _ rfl (@pgs_cons _ _ _ _ _ (@pg_name _ _ 5 _ sc_ring_bars.nd rfl (Or.inl rfl) (by first | exact Or.inl rfl | exact Or.inr rfl | assumption)) (@pgs_cons _ _ _ _ _ (@pg_name _ _ 6 _ sc_ring_bars.nd rfl (Or.inl rfl) (by first | exact Or.inl rfl | exact Or.inr rfl | assumption)) (@pgs_nil _) (by rfl)) (by rfl)) (by rfl) (by rfl)) (by rfl) (by rfl) (by rfl)) (@pss_one _ _ _ (@ps_ret _ _ _ _ (@pe_cmpR _ _ _ _ _ _ _ _ op_lt (@pe_op _ _ _ _ _ _ _ _ op_mul (@pe_op _ _ _ _ _ _ _ _ op_fdiv (@pv _ 6 _ _ rfl (Or.inl rfl) (by decide) (by decide)) (@pv _ 1 _ _ rfl (Or.inl rfl) (by decide) (by decide))) (@pv _ 1 _ _ rfl (Or.inl rfl) (by decide) (by decide))) (@pv _ 5 _ _ rfl (Or.inl rfl) (by decide) (by decide)) (nomark _))))), ?_⟩
    refine ⟨_, rfl, _, rfl, _, rfl, _, rfl, _, rfl, pl, _, x, y, b, bs, ws, sts, r, rfl, RH, fun q H1 S1 hq => ?_⟩
    refine ⟨q, _, rfl, SqT.of hq, rfl, _, _, rfl, _, _, rfl, rfl, ?_⟩
    try simp only [List.set_cons_zero, List.set_cons_succ]
    refine ⟨_, rfl, _, rfl, _, _, rfl, rfl, ⟨hp, by omega⟩, _, rfl, _, _, rfl, rfl, .inr ⟨by omega, by omega⟩, _, rfl, _, _, rfl, rfl, ?_⟩
    exact k H1 S1
theorem sc_law_sums : FnScope ["_law_beats_here", "_law_windows_here", "_law_ring_here", "_law_least", "_law_most", "_law_entry"] ["_law_beats_here", "_law_windows_here", "_law_ring_here"] (defScope s_law_sums) := ⟨rfl, rfl, rfl, by decide +kernel, rfl, by decide +kernel, by decide +kernel⟩
theorem ok_law_sums {f : Addr} {fd : FuncData} (F : Fun K "_law_sums" "_law_sums" s_law_sums f fd) (T : Txt mg) : FnOk P w K mg base CX0 1 f fd ["_law_beats_here", "_law_windows_here", "_law_ring_here"] (sp_lsums8 K) := by
  refine F.ok sc_law_sums (fun vs H Q E h => ?_) (fun cdv A outer s H vs Q E hr h => ?_)
  · obtain ⟨x, y, b, bs, ws, sts, r, rfl, _⟩ := h
    rfl
  · obtain ⟨x, y, b, bs, ws, sts, r, rfl, RH, k⟩ := h
    obtain ⟨wa, us, rfl, hwa, du⟩ := pairs_at RH.dx
    obtain ⟨ra, xs, rfl, hra, dv⟩ := entsH_at RH.dy
    have hb := RH.hb
    have hxl : xs.length = r.length := by rw [dv.length, List.length_map]
    refine ⟨_, (@pss_cons _ _ _ _ _ (@ps_set _ _ 3 _ _ _ _ sc_law_sums.nd rfl (Or.inl rfl) (@pe_int _ _ _ _) (by rfl) (by first | exact Or.inl rfl | exact Or.inr rfl | assumption)) (@pss_cons _ _ _ _ _ (@ps_set _ _ 4 _ _ _ _ sc_law_sums.nd rfl (Or.inl rfl) (@pe_int _ _ _ _) (by rfl) (by first | exact Or.inl rfl | exact Or.inr rfl | assumption)) (@pss_cons _ _ _ _ _ (@ps_for _ _ _ _ _ _ _ _ PassesOwn.never rfl (@pi_tup _ _ _ _ (@pv _ 2 _ _ rfl (Or.inl rfl) (by decide) (by decide))) (@pg_name _ _ 5 _ sc_law_sums.nd rfl (Or.inl rfl) (by first | exact Or.inl rfl | exact Or.inr rfl | assumption)) (@pss_one _ _ _ (@ps_if _ _ _ _ _ _ _ _ (@pt_cmpR _ _ _ _ _ _ _ _ op_eq (@pe_callB _ _ _ _ _ _ _ _ _ call_len_seq rfl T.n_len PySem.boot_len (@pa_name _ _ _ _ _ _ (@pv _ 5 _ _ rfl (Or.inl rfl) (by decide) (by decide)) (@pa_nil _)) (by decide) (by decide) (by rfl) (by rfl)) (@pe_int _ _ _ _) (nomark _)) (@pss_cons _ _ _ _ _ (@ps_set _ _ 3 _ _ _ _ sc_law_sums.nd rfl (Or.inl rfl) (@pe_op _ _ _ _ _ _ _ _ op_sub (@pe_op _ _ _ _ _ _ _ _ op_add (@pv _ 3 _ _ rfl (Or.inl rfl) (by decide) (by decide)) (@pe_ix _ _ _ _ _ _ _ ix_tup (@pv _ 0 _ _ rfl (Or.inl rfl) (by decide) (by decide)) (@pe_ix _ _ _ _ _ _ _ ix_tup (@pv _ 5 _ _ rfl (Or.inl rfl) (by decide) (by decide)) (@pe_int _ _ _ _) (fun _ _ => rfl)) (fun _ _ => rfl))) (@pe_ix _ _ _ _ _ _ _ ix_tup (@pv _ 0 _ _ rfl (Or.inl rfl) (by decide) (by decide)) (@pe_ix _ _ _ _ _ _ _ ix_tup (@pv _ 5 _ _ rfl (Or.inl rfl) (by decide) (by decide)) (@pe_int _ _ _ _) (fun _ _ => rfl)) (fun _ _ => rfl))) (by rfl) (by first | exact Or.inl rfl | exact Or.inr rfl | assumption)) (@pss_one _ _ _ (@ps_set _ _ 4 _ _ _ _ sc_law_sums.nd rfl (Or.inl rfl) (@pe_op _ _ _ _ _ _ _ _ op_sub (@pe_op _ _ _ _ _ _ _ _ op_add (@pv _ 4 _ _ rfl (Or.inl rfl) (by decide) (by decide)) (@pe_ix _ _ _ _ _ _ _ ix_tup (@pv _ 0 _ _ rfl (Or.inl rfl) (by decide) (by decide)) (@pe_ix _ _ _ _ _ _ _ ix_tup (@pv _ 5 _ _ rfl (Or.inl rfl) (by decide) (by decide)) (@pe_int _ _ _ _) (fun _ _ => rfl)) (fun _ _ => rfl))) (@pe_ix _ _ _ _ _ _ _ ix_tup (@pv _ 0 _ _ rfl (Or.inl rfl) (by decide) (by decide)) (@pe_ix _ _ _ _ _ _ _ ix_tup (@pv _ 5 _ _ rfl (Or.inl rfl) (by decide) (by decide)) (@pe_int _ _ _ _) (fun _ _ => rfl)) (fun _ _ => rfl))) (by rfl) (by first | exact Or.inl rfl | exact Or.inr rfl | assumption)))) (@pss_one _ _ _ (@ps_if _ _ _ _ _ _ _ _ (@pt_cmpR _ _ _ _ _ _ _ _ op_eq (@pe_ix _ _ _ _ _ _ _ ix_tup (@pv _ 5 _ _ rfl (Or.inl rfl) (by decide) (by decide)) (@pe_int _ _ _ _) (fun _ _ => rfl)) (@pe_int _ _ _ _) (nomark _)) (@pss_cons _ _ _ _ _ (@ps_set _ _ 3 _ _ _ _ sc_law_sums.nd rfl (Or.inl rfl) (@pe_op _ _ _ _ _ _ _ _ op_add (@pv _ 3 _ _ rfl (Or.inl rfl) (by decide) (by decide)) (@pe_ix _ _ _ _ _ _ _ ix_tup (@pe_ix _ _ _ _ _ _ _ ix_tup (@pv _ 1 _ _ rfl (Or.inl rfl) (by decide) (by decide)) (@pe_ix _ _ _ _ _ _ _ ix_tup (@pv _ 5 _ _ rfl (Or.inl rfl) (by decide) (by decide)) (@pe_int _ _ _ _) (fun _ _ => rfl)) (fun _ _ => rfl)) (@pe_int _ _ _ _) (fun _ _ => rfl))) (by rfl) (by first | exact Or.inl rfl | exact Or.inr rfl | assumption)) (@pss_one _ _ _ (@ps_set _ _ 4 _ _ _ _ sc_law_sums.nd rfl (Or.inl rfl) (@pe_op _ _ _ _ _ _ _ _ op_add (@pv _ 4 _ _ rfl (Or.inl rfl) (by decide) (by decide)) (@pe_ix _ _ _ _ _ _ _ ix_tup (@pe_ix _ _ _ _ _ _ _ ix_tup (@pv _ 1 _ _ rfl (Or.inl rfl) (by decide) (by decide)) (@pe_ix _ _ _ _ _ _ _ ix_tup (@pv _ 5 _ _ rfl (Or.inl rfl) (by decide) (by decide)) (@pe_int _ _ _ _) (fun _ _ => rfl)) (fun _ _ => rfl)) (@pe_int _ _ _ _) (fun _ _ => rfl))) (by rfl) (by first | exact Or.inl rfl | exact Or.inr rfl | assumption)))) (@pss_cons _ _ _ _ _ (@ps_set _ _ 3 _ _ _ _ sc_law_sums.nd rfl (Or.inl rfl) (@pe_op _ _ _ _ _ _ _ _ op_sub (@pv _ 3 _ _ rfl (Or.inl rfl) (by decide) (by decide)) (@pe_ix _ _ _ _ _ _ _ ix_tup (@pe_ix _ _ _ _ _ _ _ ix_tup (@pv _ 1 _ _ rfl (Or.inl rfl) (by decide) (by decide)) (@pe_ix _ _ _ _ _ _ _ ix_tup (@pv _ 5 _ _ rfl (Or.inl rfl) (by decide) (by decide)) (@pe_int _ _ _ _) (fun _ _ => rfl)) (fun _ _ => rfl)) (@pe_int _ _ _ _) (fun _ _ => rfl))) (by rfl) (by first | exact Or.inl rfl | exact Or.inr rfl | assumption)) (@pss_one _ _ _ (@ps_set _ _ 4 _ _ _ _ sc_law_sums.nd rfl (Or.inl rfl) (@pe_op _ _ _ _ _ _ _ _ op_sub (@pv _ 4 _ _ rfl (Or.inl rfl) (by decide) (by decide)) (@pe_ix _ _ _ _ _ _ _ ix_tup (@pe_ix _ _ _ _ _ _ _ ix_tup (@pv _ 1 _ _ rfl (Or.inl rfl) (by decide) (by decide)) (@pe_ix _ _ _ _ _ _ _ ix_tup (@pv _ 5 _ _ rfl (Or.inl rfl) (by decide) (by decide)) (@pe_int _ _ _ _) (fun _ _ => rfl)) (fun _ _ => rfl)) (@pe_int _ _ _ _) (fun _ _ => rfl))) (by rfl) (by first | exact Or.inl rfl | exact Or.inr rfl | assumption)))))))) (by intro _ ; rfl)) (@pss_one _ _ _ (@ps_ret _ _ _ _ (@pe_tup _ _ _ _ _ (@pa_name _ _ _ _ _ _ (@pv _ 3 _ _ rfl (Or.inl rfl) (by decide) (by decide)) (@pa_name _ _ _ _ _ _ (@pv _ 4 _ _ rfl (Or.inl rfl) (by decide) (by decide)) (@pa_nil _))))))))), ?_⟩
    refine ⟨_, rfl, ra, rfl, ⟨_, SqT.of hra⟩, ?_⟩
    refine for_tup (K := K) (a := ra) (xs := xs) (fun i σ H3 => (∃ o, σ = [some (.ref b), some (.ref wa), some (.ref ra), some (.int (loH bs ws (r.take i))), some (.int (hiH bs ws (r.take i))), o]) ∧ H3 = H)
      ⟨⟨_, rfl⟩, rfl⟩ (fun i σ H3 _ ⟨_, h⟩ => by rw [h]; exact SqT.of hra) ?_ ?_
    · rintro i v σ H3 hi ⟨⟨o, rfl⟩, rfl⟩
      obtain ⟨hi', c, rfl, hc⟩ := entsH_item dv hi
      have hok := RH.ok _ (List.getElem_mem hi')
      have e1 := loH_take (bs := bs) (ws := ws) hi'
      have e2 := hiH_take (bs := bs) (ws := ws) hi'
      revert hc hok e1 e2
      generalize r[i] = e
      intro hc hok e1 e2
      try simp only [List.set_cons_zero, List.set_cons_succ]
      cases e with
      | sp s w =>
        obtain ⟨f0, f1, f2⟩ := hok
        have hwi : s.toNat < ws.length := by omega
        obtain ⟨wq, hwq, hwe⟩ := pairs_get du hwi
        have hg : ws.getD s.toNat (0, 0) = ws[s.toNat] := by rw [List.getD_eq_getElem?_getD, List.getElem?_eq_getElem hwi]; rfl
        refine ⟨_, rfl, c, _, rfl, .inr (SqT.of hc), rfl, _, rfl, iteDF (fun z => absurd (V.int.inj z) (show ¬ (2 : Int) = 3 by decide)) ?_⟩
        refine ⟨_, rfl, c, _, _, _, rfl, rfl, SqT.of hc, pickN (by decide) rfl, rfl, _, rfl, ite2 (fun hd => ?_) (fun hd => ?_)⟩
        · have hd : w = 1 := by simpa [dec_int] using hd
          have e0 : entSH bs ws (.sp s w) = ws[s.toNat] := by
            show entS ws (s, w) = _
            rw [entS, if_pos hd]; exact hg
          rw [e0] at e1 e2
          refine ⟨_, rfl, _, rfl, _, rfl, c, _, _, _, rfl, rfl, SqT.of hc, pickN (by decide) rfl, wa, _, _, _, rfl, rfl, SqT.of hwa, pickN f0 hwq, wq, _, _, _, rfl, rfl, SqT.of hwe, pickN (by decide) rfl, _, _, rfl, rfl, ?_⟩
          try simp only [List.set_cons_zero, List.set_cons_succ]
          refine ⟨_, rfl, _, rfl, _, rfl, c, _, _, _, rfl, rfl, SqT.of hc, pickN (by decide) rfl, wa, _, _, _, rfl, rfl, SqT.of hwa, pickN f0 hwq, wq, _, _, _, rfl, rfl, SqT.of hwe, pickN (by decide) rfl, _, _, rfl, rfl, ?_⟩
          exact ⟨⟨_, by rw [e1, e2]; rfl⟩, rfl⟩
        · have hd : ¬ w = 1 := by simpa [dec_int] using hd
          have e0 : entSH bs ws (.sp s w) = (-(ws[s.toNat]).2, -(ws[s.toNat]).1) := by
            show entS ws (s, w) = _
            rw [entS, if_neg hd]; dsimp only; rw [hg]
          rw [e0] at e1 e2
          refine ⟨_, rfl, _, rfl, _, rfl, c, _, _, _, rfl, rfl, SqT.of hc, pickN (by decide) rfl, wa, _, _, _, rfl, rfl, SqT.of hwa, pickN f0 hwq, wq, _, _, _, rfl, rfl, SqT.of hwe, pickN (by decide) rfl, _, _, rfl, rfl, ?_⟩
          try simp only [List.set_cons_zero, List.set_cons_succ]
          refine ⟨_, rfl, _, rfl, _, rfl, c, _, _, _, rfl, rfl, SqT.of hc, pickN (by decide) rfl, wa, _, _, _, rfl, rfl, SqT.of hwa, pickN f0 hwq, wq, _, _, _, rfl, rfl, SqT.of hwe, pickN (by decide) rfl, _, _, rfl, rfl, ?_⟩
          exact ⟨⟨_, by rw [e1, e2]; rfl⟩, rfl⟩
      | hm u v =>
        have hu' := RH.st u hok.1
        have hv' := RH.st v hok.2
        have e1' : loH bs ws (r.take (i + 1)) = loH bs ws (r.take i) + bt bs v - bt bs u := by rw [e1]; show _ + (bt bs v - bt bs u) = _; omega
        have e2' : hiH bs ws (r.take (i + 1)) = hiH bs ws (r.take i) + bt bs v - bt bs u := by rw [e2]; show _ + (bt bs v - bt bs u) = _; omega
        refine ⟨_, rfl, c, _, rfl, .inr (SqT.of hc), rfl, _, rfl, iteDT rfl ?_⟩
        refine ⟨_, rfl, _, rfl, _, rfl, c, _, _, _, rfl, rfl, SqT.of hc, pickN (by decide) rfl, b, _, _, _, rfl, rfl, SqT.of hb, bt_at hv'.1 hv'.2, _, _, rfl, rfl, _, rfl, _, rfl, c, _, _, _, rfl, rfl, SqT.of hc, pickN (by decide) rfl, b, _, _, _, rfl, rfl, SqT.of hb, bt_at hu'.1 hu'.2, _, _, rfl, rfl, ?_⟩
        try simp only [List.set_cons_zero, List.set_cons_succ]
        refine ⟨_, rfl, _, rfl, _, rfl, c, _, _, _, rfl, rfl, SqT.of hc, pickN (by decide) rfl, b, _, _, _, rfl, rfl, SqT.of hb, bt_at hv'.1 hv'.2, _, _, rfl, rfl, _, rfl, _, rfl, c, _, _, _, rfl, rfl, SqT.of hc, pickN (by decide) rfl, b, _, _, _, rfl, rfl, SqT.of hb, bt_at hu'.1 hu'.2, _, _, rfl, rfl, ?_⟩
        exact ⟨⟨_, by rw [e1', e2']; rfl⟩, rfl⟩
    · rintro σ H3 ⟨⟨o, rfl⟩, rfl⟩
      rw [List.take_of_length_le (by omega)]
      refine ⟨_, rfl, _, rfl, by show 2 ≤ sizeLine; decide, fun t ht => ?_⟩
      exact k t _ (Same.new ht) upd_same
end

section
variable {P : Program} {w : World} {K : PySem.W.Frag} {mg : Str → Option Value} {base : Heap}
theorem sc_law_whole : FnScope ["_law_thing", "_law_first", "_law_last"] ["_law_thing", "_law_first", "_law_last"] (defScope s_law_whole) := ⟨rfl, rfl, rfl, by decide +kernel, rfl, by decide +kernel, by decide +kernel⟩
theorem ok_law_whole {f : Addr} {fd : FuncData} (F : Fun K "_law_whole" "_law_whole" s_law_whole f fd) (T : Txt mg) (N_bool : mg "bool" = none) : FnOk P w K mg base CX0 1 f fd ["_law_thing", "_law_first", "_law_last"] sp_whole := by
  refine F.ok sc_law_whole (fun vs H Q E h => ?_) (fun cdv A outer s H vs Q E hr h => ?_)
  · obtain ⟨t, a, b, rfl, _⟩ := h
    rfl
  · obtain ⟨t, a, b, rfl, k⟩ := h
    refine ⟨_, (@pss_one _ _ _ (@ps_ret _ _ _ _ (@pe_and _ _ _ _ _ _ _ (@pe_callB _ _ _ _ _ _ _ _ _ call_isinst rfl T.n_isinstance PyProof.Rows.boot_isinstance (@pa_name _ _ _ _ _ _ (@pv _ 0 _ _ rfl (Or.inl rfl) (by decide) (by decide)) (@pa_name _ _ _ _ _ _ (pe_bltn (v := (V.ty "int")) rfl T.n_int PyProof.Rows.boot_int rfl) (@pa_nil _))) (by decide) (by decide) (by rfl) (by rfl)) (@pe_and _ _ _ _ _ _ _ (@pe_not _ _ _ _ (@pe_callB _ _ _ _ _ _ _ _ _ call_isinst rfl T.n_isinstance PyProof.Rows.boot_isinstance (@pa_name _ _ _ _ _ _ (@pv _ 0 _ _ rfl (Or.inl rfl) (by decide) (by decide)) (@pa_name _ _ _ _ _ _ (pe_bltn (v := (V.ty "bool")) rfl N_bool PyProof.Rows.boot_bool rfl) (@pa_nil _))) (by decide) (by decide) (by rfl) (by rfl))) (@pe_one _ _ _ _ _ (@pe_chain _ _ _ _ _ _ _ _ _ _ _ _ op_le op_le (@pv _ 1 _ _ rfl (Or.inl rfl) (by decide) (by decide)) (@pv _ 0 _ _ rfl (Or.inl rfl) (by decide) (by decide)) (@pv _ 2 _ _ rfl (Or.inl rfl) (by decide) (by decide)) (by with_unfolding_all  rfl))))))), ?_⟩
    refine ⟨_, rfl, _, _, _, true, rfl, .int _, rfl, _, rfl, iteT ?_⟩
    refine ⟨_, rfl, _, _, _, false, rfl, .int _, rfl, _, rfl, _, rfl, iteT ?_⟩
    refine ⟨_, rfl, _, rfl, _, _, rfl, rfl, _, rfl, ?_⟩
    by_cases h1 : a ≤ t
    · rw [decide_eq_true h1] at k ⊢
      refine iteT ⟨_, rfl, _, _, rfl, rfl, ?_⟩
      rw [Bool.true_and] at k
      exact k
    · rw [decide_eq_false h1] at k ⊢
      exact iteF k
theorem sc_law_ends : FnScope ["_law_plan_here", "_law_stays_here", "_law_entry", "_law_span_here"] ["_law_plan_here", "_law_stays_here", "_law_entry"] (defScope s_law_ends) := ⟨rfl, rfl, rfl, by decide +kernel, rfl, by decide +kernel, by decide +kernel⟩
theorem ok_law_ends {f : Addr} {fd : FuncData} (F : Fun K "_law_ends" "_law_ends" s_law_ends f fd) (T : Txt mg) (D_law_whole : Def P w K mg base 1 "_law_whole" ["_law_thing", "_law_first", "_law_last"] sp_whole) (N_str : mg "str" = none) : FnOk P w K mg base CX0 2 f fd ["_law_plan_here", "_law_stays_here", "_law_entry"] (sp_ends8 K) := by
  refine F.ok sc_law_ends (fun vs H Q E h => ?_) (fun cdv A outer s H vs Q E hr h => ?_)
  · obtain ⟨x, st, ea, Pl, sts, e, rfl, _⟩ := h
    rfl
  · obtain ⟨x, st, ea, Pl, sts, e, rfl, dx, hst, hrg, hea, hok, hl, k⟩ := h
    obtain ⟨p, pn, ps, xs, rfl, g, g1, g2, r⟩ := plan_at dx
    have hxl : xs.length = Pl.spans.length := by rw [r.length, List.length_map]
    refine ⟨_, (@pss_cons _ _ _ _ _ (@ps_if _ _ _ _ _ _ _ _ (@PW.pt _ _ _ (@pw_or _ _ _ _ _ _ _ (@pt_not _ _ _ _ (@pt_of _ _ _ (@pe_callB _ _ _ _ _ _ _ _ _ call_isinst rfl T.n_isinstance PyProof.Rows.boot_isinstance (@pa_name _ _ _ _ _ _ (@pv _ 2 _ _ rfl (Or.inl rfl) (by decide) (by decide)) (@pa_name _ _ _ _ _ _ (pe_bltn (v := (V.ty "tuple")) rfl T.n_tuple PyProof.Rows.boot_tuple rfl) (@pa_nil _))) (by decide) (by decide) (by rfl) (by rfl)) (by intro _ ; rfl))) (@pw_or1 _ _ _ _ (@pt_cmpR _ _ _ _ _ _ _ _ op_notIn_seq (@pe_callB _ _ _ _ _ _ _ _ _ call_len_seq rfl T.n_len PySem.boot_len (@pa_name _ _ _ _ _ _ (@pv _ 2 _ _ rfl (Or.inl rfl) (by decide) (by decide)) (@pa_nil _)) (by decide) (by decide) (by rfl) (by rfl)) (@pe_tup _ _ _ _ _ (@pa_const _ _ _ _ _ _ _ (@pe_int _ _ _ _) (@pa_const _ _ _ _ _ _ _ (@pe_int _ _ _ _) (@pa_nil _)))) rfl)))) (@pss_one _ _ _ (@ps_ret _ _ _ _ (@pe_non _ _ _))) (@pss_nil _)) (@pss_cons _ _ _ _ _ (@ps_if _ _ _ _ _ _ _ _ (@pt_cmpR _ _ _ _ _ _ _ _ op_eq (@pe_callB _ _ _ _ _ _ _ _ _ call_len_seq rfl T.n_len PySem.boot_len (@pa_name _ _ _ _ _ _ (@pv _ 2 _ _ rfl (Or.inl rfl) (by decide) (by decide)) (@pa_nil _)) (by decide) (by decide) (by rfl) (by rfl)) (@pe_int _ _ _ _) (nomark _)) (@pss_cons _ _ _ _ _ (@ps_if _ _ _ _ _ _ _ _ (@PW.pt _ _ _ (@pw_or _ _ _ _ _ _ _ (@pt_not _ _ _ _ (@pt_of _ _ _ (@pe_callB _ _ _ _ _ _ _ _ _ call_isinst rfl T.n_isinstance PyProof.Rows.boot_isinstance (@pa_sub _ _ _ _ _ _ _ (@pe_ix _ _ _ _ _ _ _ ix_tup (@pv _ 2 _ _ rfl (Or.inl rfl) (by decide) (by decide)) (@pe_int _ _ _ _) (fun _ _ => rfl)) (@pa_name _ _ _ _ _ _ (pe_bltn (v := (V.ty "str")) rfl N_str PyProof.Rows.boot_str rfl) (@pa_nil _))) (by decide) (by decide) (by rfl) (by rfl)) (by intro _ ; rfl))) (@pw_or1 _ _ _ _ (@pt_cmpR _ _ _ _ _ _ _ _ op_ne (@pe_ix _ _ _ _ _ _ _ ix_tup (@pv _ 2 _ _ rfl (Or.inl rfl) (by decide) (by decide)) (@pe_int _ _ _ _) (fun _ _ => rfl)) (@pe_str _ _ _ _) (nomark _))))) (@pss_one _ _ _ (@ps_ret _ _ _ _ (@pe_non _ _ _))) (@pss_nil _)) (@pss_cons _ _ _ _ _ (@ps_if _ _ _ _ _ _ _ _ (@pt_cmpR _ _ _ _ _ _ _ _ op_in_seq (@pe_bl _ _ _ _) (@pe_lc _ ["_law_work", "_law_stays_here"] [none, (some 1)] _ _ _ _ _ _ _ _ _ _ rfl (@CScope.of _ _ _ _ rfl) (@pi_tup _ _ _ _ (@pe_slice _ _ _ _ _ _ _ _ _ _ sl_tup (@pv _ 2 _ _ rfl (Or.inl rfl) (by decide) (by decide)) (@po_some _ _ _ (@pe_int _ _ _ _)) (@po_none _))) (fun _ _ _ _ _ => (@pgc _ _ _ _ _ _ _ _ 0 _ _ (by decide) rfl rfl)) (fun _ _ _ _ _ => pif_nil) (fun _ _ _ _ _ => (@pe_and _ _ _ _ _ _ _ (@pe_own _ _ _ _ _ _ _ _ _ _ D_law_whole (hr.mono (by decide)) (glc rfl) (@pa_name _ _ _ _ _ _ (@pvc _ _ _ _ _ _ _ _ 0 _ _ (by rfl) (by first | exact Or.inl rfl | exact Or.inr rfl) (by decide) (by decide)) (@pa_const _ _ _ _ _ _ _ (@pe_int _ _ _ _) (@pa_const _ _ _ _ _ _ _ (@pe_int _ _ _ _) (@pa_nil _)))) (by decide) (by rfl) (by rfl)) (@pe_one _ _ _ _ _ (@pe_cmpR _ _ _ _ _ _ _ _ opc_in_seq (@pvc _ _ _ _ _ _ _ _ 0 _ _ (by rfl) (by first | exact Or.inl rfl | exact Or.inr rfl) (by decide) (by decide)) (@pvc _ _ _ _ _ _ _ _ 1 _ _ (by rfl) (by first | exact Or.inl rfl | exact Or.inr rfl) (by decide) (by decide)) rfl)))) (by intro _ ; rfl)) rfl) (@pss_one _ _ _ (@ps_ret _ _ _ _ (@pe_non _ _ _))) (@pss_nil _)) (@pss_one _ _ _ (@ps_ret _ _ _ _ (@pe_slice _ _ _ _ _ _ _ _ _ _ sl_tup (@pv _ 2 _ _ rfl (Or.inl rfl) (by decide) (by decide)) (@po_some _ _ _ (@pe_int _ _ _ _)) (@po_none _)))))) (@pss_nil _)) (@pss_cons _ _ _ _ _ (@ps_if _ _ _ _ _ _ _ _ (@PW.pt _ _ _ (@pw_or _ _ _ _ _ _ _ (@pt_not _ _ _ _ (@pt_of _ _ _ (@pe_own _ _ _ _ _ _ _ _ _ _ D_law_whole (hr.mono (by decide)) rfl (@pa_sub _ _ _ _ _ _ _ (@pe_ix _ _ _ _ _ _ _ ix_tup (@pv _ 2 _ _ rfl (Or.inl rfl) (by decide) (by decide)) (@pe_int _ _ _ _) (fun _ _ => rfl)) (@pa_const _ _ _ _ _ _ _ (@pe_int _ _ _ _) (@pa_bin _ _ _ _ _ _ _ _ (@pe_op _ _ _ _ _ _ _ _ op_sub (@pe_callB _ _ _ _ _ _ _ _ _ call_len_seq rfl T.n_len PySem.boot_len (@pa_sub _ _ _ _ _ _ _ (@pe_ix _ _ _ _ _ _ _ ix_tup (@pv _ 0 _ _ rfl (Or.inl rfl) (by decide) (by decide)) (@pe_int _ _ _ _) (fun _ _ => rfl)) (@pa_nil _)) (by decide) (by decide) (by rfl) (by rfl)) (@pe_int _ _ _ _)) (@pa_nil _)))) (by decide) (by rfl) (by rfl)) (by intro _ ; rfl))) (@pw_or _ _ _ _ _ _ _ (@pt_not _ _ _ _ (@pt_of _ _ _ (@pe_own _ _ _ _ _ _ _ _ _ _ D_law_whole (hr.mono (by decide)) rfl (@pa_sub _ _ _ _ _ _ _ (@pe_ix _ _ _ _ _ _ _ ix_tup (@pv _ 2 _ _ rfl (Or.inl rfl) (by decide) (by decide)) (@pe_int _ _ _ _) (fun _ _ => rfl)) (@pa_un _ _ _ _ _ _ _ (@pe_un _ _ _ _ _ _ un_neg (@pe_int _ _ _ _)) (@pa_const _ _ _ _ _ _ _ (@pe_int _ _ _ _) (@pa_nil _)))) (by decide) (by rfl) (by rfl)) (by intro _ ; rfl))) (@pw_or1 _ _ _ _ (@pt_cmpR _ _ _ _ _ _ _ _ op_eq (@pe_ix _ _ _ _ _ _ _ ix_tup (@pv _ 2 _ _ rfl (Or.inl rfl) (by decide) (by decide)) (@pe_int _ _ _ _) (fun _ _ => rfl)) (@pe_int _ _ _ _) (nomark _)))))) (@pss_one _ _ _ (@ps_ret _ _ _ _ (@pe_non _ _ _))) (@pss_nil _)) (@pss_cons _ _ _ _ _ (@ps_set _ _ 3 _ _ _ _ sc_law_ends.nd rfl (Or.inl rfl) (@pe_ix _ _ _ _ _ _ _ ix_tup (@pe_ix _ _ _ _ _ _ _ ix_tup (@pv _ 0 _ _ rfl (Or.inl rfl) (by decide) (by decide)) (@pe_int _ _ _ _) (fun _ _ => rfl)) (@pe_ix _ _ _ _ _ _ _ ix_tup (@pv _ 2 _ _ rfl (Or.inl rfl) (by decide) (by decide)) (@pe_int _ _ _ _) (fun _ _ => rfl)) (fun _ _ => rfl)) (by rfl) (by first | exact Or.inl rfl | exact Or.inr rfl | assumption)) (@pss_one _ _ _ (@ps_ret _ _ _ _ (@pe_ifExp _ _ _ _ _ _ _ _ (@pt_cmpR _ _ _ _ _ _ _ _ op_eq (@pe_ix _ _ _ _ _ _ _ ix_tup (@pv _ 2 _ _ rfl (Or.inl rfl) (by decide) (by decide)) (@pe_int _ _ _ _) (fun _ _ => rfl)) (@pe_int _ _ _ _) (nomark _)) (@pe_tup _ _ _ _ _ (@pa_sub _ _ _ _ _ _ _ (@pe_ix _ _ _ _ _ _ _ ix_tup (@pv _ 3 _ _ rfl (Or.inl rfl) (by decide) (by decide)) (@pe_int _ _ _ _) (fun _ _ => rfl)) (@pa_sub _ _ _ _ _ _ _ (@pe_ix _ _ _ _ _ _ _ ix_tup (@pv _ 3 _ _ rfl (Or.inl rfl) (by decide) (by decide)) (@pe_int _ _ _ _) (fun _ _ => rfl)) (@pa_nil _)))) (@pe_tup _ _ _ _ _ (@pa_sub _ _ _ _ _ _ _ (@pe_ix _ _ _ _ _ _ _ ix_tup (@pv _ 3 _ _ rfl (Or.inl rfl) (by decide) (by decide)) (@pe_int _ _ _ _) (fun _ _ => rfl)) (@pa_sub _ _ _ _ _ _ _ (@pe_ix _ _ _ _ _ _ _ ix_tup (@pv _ 3 _ _ rfl (Or.inl rfl) (by decide) (by decide)) (@pe_int _ _ _ _) (fun _ _ => rfl)) (@pa_nil _))))))))))), ?_⟩
    refine ⟨_, rfl, _, _, _, true, rfl, .tup hea, rfl, _, rfl, iteF ?_⟩
    cases e with
    | sp s w =>
      refine ⟨_, rfl, ea, _, rfl, .inr (SqT.of hea), by show 2 ≤ sizeLine; decide, fun t ht => ⟨t, _, rfl, .inr (SqT.of upd_same), rfl, rfl, _, rfl, iteF ?_⟩⟩
      have S1 : Same H (upd H t (.tup [.int 2, .int 3])) := Same.new ht
      revert S1
      generalize upd H t (.tup [.int 2, .int 3]) = H1
      intro S1
      have hea1 := S1 _ _ hea
      refine ⟨_, rfl, ea, _, rfl, .inr (SqT.of hea1), rfl, _, rfl, iteDF (fun z => absurd (V.int.inj z) (show ¬ (2 : Int) = 3 by decide)) ?_⟩
      refine ⟨_, rfl, ea, _, _, _, rfl, rfl, SqT.of hea1, pickN (by decide) rfl, _, rfl, p, _, _, _, rfl, rfl, SqT.of (S1 _ _ g), pickN (by decide) rfl, ps, _, rfl, .inr (SqT.of (S1 _ _ g2)), _, _, rfl, rfl, _, _, _, rfl, _, rfl, ?_⟩
      have h0 : 0 ≤ s := hok.1
      have h1 : s < Pl.spans.length := hok.2.1
      have h2 : w = 1 ∨ w = -1 := hok.2.2
      rw [show (decide (0 ≤ s) && decide (s ≤ (xs.length : Int) - 1)) = true from by simp; omega]
      refine iteF ?_
      refine ⟨_, rfl, ea, _, _, _, rfl, rfl, SqT.of hea1, pickN (by decide) rfl, ?_⟩
      refine ⟨_, rfl, _, _, _, rfl, _, rfl, ?_⟩
      rw [show (decide (-1 ≤ w) && decide (w ≤ 1)) = true from by simp; omega]
      refine iteF ?_
      refine ⟨_, rfl, ea, _, _, _, rfl, rfl, SqT.of hea1, pickN (by decide) rfl, rfl, _, rfl, iteDF (fun z => by have := V.int.inj z; omega) ?_⟩
      obtain ⟨y, hy, dy⟩ := r.get' (i := s.toNat) (d := (spL Pl.spans s).d) (by rw [List.getElem?_map, spL_at h0 h1]; rfl)
      obtain ⟨q, rfl, hq⟩ := span_at dy
      refine ⟨_, rfl, p, _, _, _, rfl, rfl, SqT.of (S1 _ _ g), pickN (by decide) rfl, _, rfl, ea, _, _, _, rfl, rfl, SqT.of hea1, pickN (by decide) rfl, ps, _, _, _, rfl, rfl, SqT.of (S1 _ _ g2), pickN h0 hy, ?_⟩
      try simp only [List.set_cons_zero, List.set_cons_succ]
      refine ⟨_, rfl, ea, _, _, _, rfl, rfl, SqT.of hea1, pickN (by decide) rfl, rfl, _, rfl, ?_⟩
      rcases h2 with h2 | h2
      · refine iteDT (by rw [h2]) ?_
        refine ⟨_, rfl, q, _, _, _, rfl, rfl, SqT.of (S1 _ _ hq), pickN (by decide) rfl, _, rfl, q, _, _, _, rfl, rfl, SqT.of (S1 _ _ hq), pickN (by decide) rfl, by show 2 ≤ sizeLine; decide, fun t2 ht2 => ?_⟩
        refine k t2 _ (S1.trans (Same.new ht2)) (upd_same.trans ?_)
        show _ = some (HO.tup [.int (srcZ Pl.spans (s, w)), .int (dstZ Pl.spans (s, w))])
        unfold srcZ dstZ
        rw [if_pos h2, if_pos h2]
      · refine iteDF (fun z => by have := V.int.inj z; omega) ?_
        refine ⟨_, rfl, q, _, _, _, rfl, rfl, SqT.of (S1 _ _ hq), pickN (by decide) rfl, _, rfl, q, _, _, _, rfl, rfl, SqT.of (S1 _ _ hq), pickN (by decide) rfl, by show 2 ≤ sizeLine; decide, fun t2 ht2 => ?_⟩
        refine k t2 _ (S1.trans (Same.new ht2)) (upd_same.trans ?_)
        show _ = some (HO.tup [.int (srcZ Pl.spans (s, w)), .int (dstZ Pl.spans (s, w))])
        unfold srcZ dstZ
        dsimp only
        rw [if_neg (by omega), if_neg (by omega)]
    | hm u v =>
      refine ⟨_, rfl, ea, _, rfl, .inr (SqT.of hea), by show 2 ≤ sizeLine; decide, fun t ht => ⟨t, _, rfl, .inr (SqT.of upd_same), rfl, rfl, _, rfl, iteF ?_⟩⟩
      have S1 : Same H (upd H t (.tup [.int 2, .int 3])) := Same.new ht
      revert S1
      generalize upd H t (.tup [.int 2, .int 3]) = H1
      intro S1
      have hea1 := S1 _ _ hea
      refine ⟨_, rfl, ea, _, rfl, .inr (SqT.of hea1), rfl, _, rfl, iteDT rfl ?_⟩
      refine ⟨_, rfl, ea, _, _, _, rfl, rfl, SqT.of hea1, pickN (by decide) rfl, _, _, _, true, rfl, .str _, rfl, _, rfl, iteF ?_⟩
      refine ⟨_, rfl, ea, _, _, _, rfl, rfl, SqT.of hea1, pickN (by decide) rfl, rfl, _, rfl, iteNS rfl ?_⟩
      have hc : ¬ (HT.sIx [V.str "home", .int u, .int v].length 0 (some 1) = 0 ∧ HT.sIx [V.str "home", .int u, .int v].length [V.str "home", .int u, .int v].length none = [V.str "home", .int u, .int v].length) := fun z => by simp [HT.sIx] at z
      refine ⟨_, rfl, _, rfl, ea, _, rfl, SqT.of hea1, hc, fun c hc1 => ?_⟩
      rw [show cutV (EntH.hm u v).vs (some 1) none = [u, v].map V.int from rfl]
      refine ⟨c, rfl, ⟨_, SqT.of upd_same⟩, fun D hD => ?_⟩
      have S2 : Same H1 (upd H1 c (.tup ([u, v].map V.int))) := Same.new hc1
      have hc2 : (upd H1 c (.tup ([u, v].map V.int))) c = some (.tup ([u, v].map V.int)) := upd_same
      revert S2 hc2 hD
      generalize upd H1 c (.tup ([u, v].map V.int)) = H2
      intro hD S2 hc2
      refine lc_tup (xs := [u, v].map V.int) 1 [some (.ref st)]
        (fun i ys H3 => Same H2 H3 ∧ H3 D = some (.lst ys) ∧ ys = (List.replicate i true).map V.bl)
        rfl ⟨Same.new hD, upd_same, rfl⟩ (fun i ys H3 _ ⟨h, _⟩ => SqT.of (h _ _ hc2)) ?_ ?_
      · rintro i x' ys H3 os hx ho ⟨S3, hD3, rfl⟩
        obtain ⟨o1, rfl⟩ := os1 ho
        have hi : i < 2 := (List.getElem?_eq_some_iff.mp hx).1
        obtain ⟨z, rfl, hz⟩ : ∃ z, x' = V.int z ∧ z ∈ sts := by
          have := List.mem_of_getElem? hx
          simp only [List.map_cons, List.map_nil, List.mem_cons, List.not_mem_nil, or_false] at this
          rcases this with rfl | rfl
          · exact ⟨_, rfl, hok.1⟩
          · exact ⟨_, rfl, hok.2⟩
        have hr' := hrg z hz
        refine noifN ?_
        refine ⟨_, rfl, z, 0, 7, rfl, _, rfl, ?_⟩
        rw [show (decide (0 ≤ z) && decide (z ≤ 7)) = true from by simp; omega]
        refine iteT ⟨_, rfl, _, rfl, st, _, rfl, .inr (SqT.of (S3 _ _ (S2 _ _ (S1 _ _ hst)))), rfl, flat_ints _, ?_⟩
        rw [inV_ints, decide_eq_true hz]
        refine LcN.mk (os := [some (.int z)]) hi hD3 ?_ rfl rfl ⟨S3.acc hD, upd_same, ?_⟩
        · rw [List.length_map, List.length_replicate]
          exact Nat.lt_of_lt_of_le hi (by decide)
        · rw [List.replicate_succ', List.map_append]
          rfl
      · rintro ys H3 ⟨S3, hD3, rfl⟩
        refine ⟨D, _, rfl, .inl (SqL.of hD3), rfl, rfl, _, rfl, iteF ?_⟩
        refine ⟨_, rfl, _, rfl, ea, _, rfl, SqT.of (S3 _ _ (S2 _ _ hea1)), hc, fun c2 hc3 => ?_⟩
        exact k c2 _ (S1.trans (S2.trans (S3.trans (Same.new hc3)))) upd_same
end

section
variable {P : Program} {w : World} {K : PySem.W.Frag} {mg : Str → Option Value} {base : Heap}
theorem sc_law_onward : FnScope ["_law_plan_here", "_law_stays_here", "_law_here", "_law_some"] ["_law_plan_here", "_law_stays_here", "_law_here"] (defScope s_law_onward) := ⟨rfl, rfl, rfl, by decide +kernel, rfl, by decide +kernel, by decide +kernel⟩
theorem ok_law_onward {f : Addr} {fd : FuncData} (F : Fun K "_law_onward" "_law_onward" s_law_onward f fd) (T : Txt mg) : FnOk P w K mg base CX0 1 f fd ["_law_plan_here", "_law_stays_here", "_law_here"] (sp_onward8 K) := by
  refine F.ok sc_law_onward (fun vs H Q E h => ?_) (fun cdv A outer s H vs Q E hr h => ?_)
  · obtain ⟨x, st, Pl, sts, here, rfl, _⟩ := h
    rfl
  · obtain ⟨x, st, Pl, sts, here, rfl, dx, hst, hl, hsl, k⟩ := h
    obtain ⟨p, pn, ps, xs, rfl, g, g1, g2, r⟩ := plan_at dx
    have hxl : xs.length = Pl.spans.length := by rw [r.length, List.length_map]
    have sp : ∀ j : Nat, j < Pl.spans.length → ∃ q, xs[j]? = some (.ref q) ∧ H q = some (.tup (spL Pl.spans (j : Int)).vs) := fun j hj => by
      obtain ⟨y, hy, dy⟩ := r.get' (i := j) (d := (spL Pl.spans (j : Int)).d) (by
        have := spL_at (l := Pl.spans) (i := (j : Int)) (by omega) (by omega)
        rw [Int.toNat_natCast] at this
        rw [List.getElem?_map, this]
        rfl)
      obtain ⟨q, rfl, hq⟩ := span_at dy
      exact ⟨q, hy, hq⟩
    refine ⟨_, (@pss_cons _ _ _ _ _ (@ps_lc _ ["_law_s", "_law_plan_here", "_law_here"] [none, (some 0), (some 2)] _ _ _ _ _ _ _ _ _ _ _ _ 3 _ sc_law_onward.nd rfl rfl rfl (@CScope.of _ _ _ _ rfl) (@pi_range1 _ _ _ _ _ _ rfl T.n_range (@pa_call _ _ _ _ _ _ _ _ (@pe_callB _ _ _ _ _ _ _ _ _ call_len_seq rfl T.n_len PySem.boot_len (@pa_sub _ _ _ _ _ _ _ (@pe_ix _ _ _ _ _ _ _ ix_tup (@pv _ 0 _ _ rfl (Or.inr (Or.inl rfl)) (by decide) (by decide)) (@pe_int _ _ _ _) (fun _ _ => rfl)) (@pa_nil _)) (by decide) (by decide) (by rfl) (by rfl)) (@pa_nil _)) (by rfl)) (fun _ _ _ _ _ => (@pgc _ _ _ _ _ _ _ _ 0 _ _ (by decide) rfl rfl)) (fun _ _ _ _ _ => (@pif_one _ _ _ (@pt_cmpR _ _ _ _ _ _ _ _ op_eq (@pe_ix _ _ _ _ _ _ _ ixc_tup (@pe_ix _ _ _ _ _ _ _ ixc_tup (@pe_ix _ _ _ _ _ _ _ ixc_tup (@pvc _ _ _ _ _ _ _ _ 1 _ _ (by rfl) (by first | exact Or.inl rfl | exact Or.inr rfl) (by decide) (by decide)) (@pe_int _ _ _ _) (fun _ _ => rfl)) (@pvc _ _ _ _ _ _ _ _ 0 _ _ (by rfl) (by first | exact Or.inl rfl | exact Or.inr rfl) (by decide) (by decide)) (fun _ _ => rfl)) (@pe_int _ _ _ _) (fun _ _ => rfl)) (@pvc _ _ _ _ _ _ _ _ 2 _ _ (by rfl) (by first | exact Or.inl rfl | exact Or.inr rfl) (by decide) (by decide)) (nomark _)))) (fun _ _ _ _ _ => (@pe_tup _ _ _ _ _ (@pa_name _ _ _ _ _ _ (@pvc _ _ _ _ _ _ _ _ 0 _ _ (by rfl) (by first | exact Or.inl rfl | exact Or.inr rfl) (by decide) (by decide)) (@pa_const _ _ _ _ _ _ _ (@pe_int _ _ _ _) (@pa_nil _))))) rfl (by intro _ ; rfl)) (@pss_cons _ _ _ _ _ (@ps_set _ _ 3 _ _ _ _ sc_law_onward.nd rfl (Or.inl rfl) (@pe_op _ _ _ _ _ _ _ _ op_cat (@pv _ 3 _ _ rfl (Or.inl rfl) (by decide) (by decide)) (@pe_lc _ ["_law_s", "_law_plan_here", "_law_here"] [none, (some 0), (some 2)] _ _ _ _ _ _ _ _ _ _ rfl (@CScope.of _ _ _ _ rfl) (@pi_range1 _ _ _ _ _ _ rfl T.n_range (@pa_call _ _ _ _ _ _ _ _ (@pe_callB _ _ _ _ _ _ _ _ _ call_len_seq rfl T.n_len PySem.boot_len (@pa_sub _ _ _ _ _ _ _ (@pe_ix _ _ _ _ _ _ _ ix_tup (@pv _ 0 _ _ rfl (Or.inr (Or.inl rfl)) (by decide) (by decide)) (@pe_int _ _ _ _) (fun _ _ => rfl)) (@pa_nil _)) (by decide) (by decide) (by rfl) (by rfl)) (@pa_nil _)) (by rfl)) (fun _ _ _ _ _ => (@pgc _ _ _ _ _ _ _ _ 0 _ _ (by decide) rfl rfl)) (fun _ _ _ _ _ => (@pif_one _ _ _ (@pt_cmpR _ _ _ _ _ _ _ _ op_eq (@pe_ix _ _ _ _ _ _ _ ixc_tup (@pe_ix _ _ _ _ _ _ _ ixc_tup (@pe_ix _ _ _ _ _ _ _ ixc_tup (@pvc _ _ _ _ _ _ _ _ 1 _ _ (by rfl) (by first | exact Or.inl rfl | exact Or.inr rfl) (by decide) (by decide)) (@pe_int _ _ _ _) (fun _ _ => rfl)) (@pvc _ _ _ _ _ _ _ _ 0 _ _ (by rfl) (by first | exact Or.inl rfl | exact Or.inr rfl) (by decide) (by decide)) (fun _ _ => rfl)) (@pe_int _ _ _ _) (fun _ _ => rfl)) (@pvc _ _ _ _ _ _ _ _ 2 _ _ (by rfl) (by first | exact Or.inl rfl | exact Or.inr rfl) (by decide) (by decide)) (nomark _)))) (fun _ _ _ _ _ => (@pe_tup _ _ _ _ _ (@pa_name _ _ _ _ _ _ (@pvc _ _ _ _ _ _ _ _ 0 _ _ (by rfl) (by first | exact Or.inl rfl | exact Or.inr rfl) (by decide) (by decide)) (@pa_un _ _ _ _ _ _ _ (@pe_un _ _ _ _ _ _ un_neg (@pe_int _ _ _ _)) (@pa_nil _))))) (by intro _ ; rfl))) (by rfl) (by first | exact Or.inl rfl | exact Or.inr rfl | assumption)) (@pss_cons _ _ _ _ _ (@ps_if _ _ _ _ _ _ _ _ (@pt_cmpR _ _ _ _ _ _ _ _ op_in_seq (@pv _ 2 _ _ rfl (Or.inr (Or.inl rfl)) (by decide) (by decide)) (@pv _ 1 _ _ rfl (Or.inl rfl) (by decide) (by decide)) rfl) (@pss_one _ _ _ (@ps_set _ _ 3 _ _ _ _ sc_law_onward.nd rfl (Or.inl rfl) (@pe_op _ _ _ _ _ _ _ _ op_cat (@pv _ 3 _ _ rfl (Or.inl rfl) (by decide) (by decide)) (@pe_lc _ ["_law_work", "_law_here"] [none, (some 2)] _ _ _ _ _ _ _ _ _ _ rfl (@CScope.of _ _ _ _ rfl) (@pi_tup _ _ _ _ (@pv _ 1 _ _ rfl (Or.inl rfl) (by decide) (by decide))) (fun _ _ _ _ _ => (@pgc _ _ _ _ _ _ _ _ 0 _ _ (by decide) rfl rfl)) (fun _ _ _ _ _ => pif_nil) (fun _ _ _ _ _ => (@pe_tup _ _ _ _ _ (@pa_const _ _ _ _ _ _ _ (@pe_str _ _ _ _) (@pa_name _ _ _ _ _ _ (@pvc _ _ _ _ _ _ _ _ 1 _ _ (by rfl) (by first | exact Or.inl rfl | exact Or.inr rfl) (by decide) (by decide)) (@pa_name _ _ _ _ _ _ (@pvc _ _ _ _ _ _ _ _ 0 _ _ (by rfl) (by first | exact Or.inl rfl | exact Or.inr rfl) (by decide) (by decide)) (@pa_nil _)))))) (by intro _ ; rfl))) (by rfl) (by first | exact Or.inl rfl | exact Or.inr rfl | assumption))) (@pss_nil _)) (@pss_one _ _ _ (@ps_ret _ _ _ _ (@pv _ 3 _ _ rfl (Or.inl rfl) (by decide) (by decide))))))), ?_⟩
    refine ⟨_, rfl, p, _, _, _, rfl, rfl, SqT.of g, pickN (by decide) rfl, ps, _, rfl, .inr (SqT.of g2), _, rfl, by omega, by omega, fun D hD => ?_⟩
    rw [hxl]
    refine lc_range 1 [some (.ref p), some (.int here)]
      (fun i ys H3 => Same H H3 ∧ H3 D = some (.lst ys) ∧ ∃ es : List (Int × Int), DVs K H3 ys (es.map pairD2) ∧ es.length ≤ i ∧ ∀ e, e ∈ es ↔ 0 ≤ e.1 ∧ e.1 < i ∧ e.2 = 1 ∧ (spL Pl.spans e.1).one = here)
      ?_ ⟨Same.new hD, upd_same, [], .nil, Nat.le_refl _, fun e => ⟨fun h => (nomatch h), fun h => by omega⟩⟩ ?_ ?_
    · rfl
    · rintro i ys H3 os hi ho ⟨S3, hD3, es, dv, hel, hes⟩
      obtain ⟨o, rfl⟩ := os1 ho
      have hi' : i < Pl.spans.length := by omega
      obtain ⟨q, hq, hqs⟩ := sp i hi'
      have hyl : ys.length = es.length := by rw [dv.length, List.length_map]
      refine ⟨_, rfl, p, _, _, _, rfl, rfl, SqT.of (S3 _ _ g), pickN (by decide) rfl, _, rfl, ps, _, _, _, rfl, rfl, SqT.of (S3 _ _ g2), by rw [Int.zero_add]; exact atI_nat hq, q, _, _, _, rfl, rfl, SqT.of (S3 _ _ hqs), pickN (by decide) rfl, _, rfl, rfl, _, rfl, ?_⟩
      refine ite2 (fun hc => ?_) (fun hc => ?_)
      · have hc := V.int.inj (of_decide_eq_true hc)
        refine ⟨_, rfl, by show 2 ≤ sizeLine; decide, fun t ht => ?_⟩
        have hDt : t ≠ D := fun z => by subst z; rw [hD3] at ht; cases ht
        refine LcN.mk (os := [some (.int (0 + (i : Int)))]) hi (Same.new ht _ _ hD3) (by rw [hyl]; exact Nat.lt_of_le_of_lt hel (Nat.lt_of_lt_of_le hi' (Nat.le_trans hl (by decide)))) rfl rfl ?_
        refine ⟨(S3.trans (Same.new ht)).acc hD, upd_same, es ++ [((i : Int), 1)], ?_, by rw [List.length_append]; simp; omega, fun e => ?_⟩
        · rw [List.map_append]
          refine (dv.tk (((Same.new ht).tk).trans (TK.updL (Same.new ht _ _ hD3))) (noLs_pairs _)).append (.cons (at_pair (p := ((i : Int), 1)) ?_) .nil)
          rw [upd_ne hDt, upd_same, Int.zero_add]
        · rw [List.mem_append, hes, List.mem_singleton]
          constructor
          · rintro (⟨a1, a2, a3, a4⟩ | rfl)
            · exact ⟨a1, by omega, a3, a4⟩
            · exact ⟨by show (0 : Int) ≤ (i : Int); omega, by show (i : Int) < _; omega, rfl, hc⟩
          · rintro ⟨a1, a2, a3, a4⟩
            by_cases z : e.1 < i
            · exact .inl ⟨a1, z, a3, a4⟩
            · refine .inr ?_
              have : e.1 = i := by omega
              exact Prod.ext this a3
      · have hc : ¬ (spL Pl.spans (i : Int)).one = here := fun z => hc (decide_eq_true (by rw [z]))
        refine LcS.mk (os := [some (.int (0 + (i : Int)))]) hi rfl rfl ⟨S3, hD3, es, dv, by omega, fun e => ?_⟩
        rw [hes]
        constructor
        · rintro ⟨a1, a2, a3, a4⟩
          exact ⟨a1, by omega, a3, a4⟩
        · rintro ⟨a1, a2, a3, a4⟩
          refine ⟨a1, ?_, a3, a4⟩
          by_cases z : e.1 < i
          · exact z
          · have : e.1 = i := by omega
            rw [this] at a4
            exact absurd a4 hc
    rintro ys H3 ⟨S3, hD3, es, dv, hel, hes⟩
    have hyl : ys.length = es.length := by rw [dv.length, List.length_map]
    try simp only [List.set_cons_zero, List.set_cons_succ]
    refine ⟨_, rfl, _, rfl, p, _, _, _, rfl, rfl, SqT.of (S3 _ _ g), pickN (by decide) rfl, ps, _, rfl, .inr (SqT.of (S3 _ _ g2)), _, rfl, by omega, by omega, fun D2 hD2 => ?_⟩
    rw [hxl]
    refine lc_range 1 [some (.ref p), some (.int here)]
      (fun i ys H4 => Same H3 H4 ∧ H4 D2 = some (.lst ys) ∧ ∃ es : List (Int × Int), DVs K H4 ys (es.map pairD2) ∧ es.length ≤ i ∧ ∀ e, e ∈ es ↔ 0 ≤ e.1 ∧ e.1 < i ∧ e.2 = -1 ∧ (spL Pl.spans e.1).other = here)
      ?_ ⟨Same.new hD2, upd_same, [], .nil, Nat.le_refl _, fun e => ⟨fun h => (nomatch h), fun h => by omega⟩⟩ ?_ ?_
    · rfl
    · rintro i ys2 H4 os hi ho ⟨S4, hD4, es2, dv2, hel2, hes2⟩
      obtain ⟨o, rfl⟩ := os1 ho
      have hi' : i < Pl.spans.length := by omega
      obtain ⟨q, hq, hqs⟩ := sp i hi'
      have S34 := S3.trans S4
      have hyl2 : ys2.length = es2.length := by rw [dv2.length, List.length_map]
      refine ⟨_, rfl, p, _, _, _, rfl, rfl, SqT.of (S34 _ _ g), pickN (by decide) rfl, _, rfl, ps, _, _, _, rfl, rfl, SqT.of (S34 _ _ g2), by rw [Int.zero_add]; exact atI_nat hq, q, _, _, _, rfl, rfl, SqT.of (S34 _ _ hqs), pickN (by decide) rfl, _, rfl, rfl, _, rfl, ?_⟩
      refine ite2 (fun hc => ?_) (fun hc => ?_)
      · have hc := V.int.inj (of_decide_eq_true hc)
        refine ⟨_, rfl, _, rfl, by show 2 ≤ sizeLine; decide, fun t ht => ?_⟩
        have hDt : t ≠ D2 := fun z => by subst z; rw [hD4] at ht; cases ht
        refine LcN.mk (os := [some (.int (0 + (i : Int)))]) hi (Same.new ht _ _ hD4) (by rw [hyl2]; exact Nat.lt_of_le_of_lt hel2 (Nat.lt_of_lt_of_le hi' (Nat.le_trans hl (by decide)))) rfl rfl ?_
        refine ⟨(S4.trans (Same.new ht)).acc hD2, upd_same, es2 ++ [((i : Int), -1)], ?_, by rw [List.length_append]; simp; omega, fun e => ?_⟩
        · rw [List.map_append]
          refine (dv2.tk (((Same.new ht).tk).trans (TK.updL (Same.new ht _ _ hD4))) (noLs_pairs _)).append (.cons (at_pair (p := ((i : Int), -1)) ?_) .nil)
          rw [upd_ne hDt, upd_same, Int.zero_add]
        · rw [List.mem_append, hes2, List.mem_singleton]
          constructor
          · rintro (⟨a1, a2, a3, a4⟩ | rfl)
            · exact ⟨a1, by omega, a3, a4⟩
            · exact ⟨by show (0 : Int) ≤ (i : Int); omega, by show (i : Int) < _; omega, rfl, hc⟩
          · rintro ⟨a1, a2, a3, a4⟩
            by_cases z : e.1 < i
            · exact .inl ⟨a1, z, a3, a4⟩
            · refine .inr ?_
              have : e.1 = i := by omega
              exact Prod.ext this a3
      · have hc : ¬ (spL Pl.spans (i : Int)).other = here := fun z => hc (decide_eq_true (by rw [z]))
        refine LcS.mk (os := [some (.int (0 + (i : Int)))]) hi rfl rfl ⟨S4, hD4, es2, dv2, by omega, fun e => ?_⟩
        rw [hes2]
        constructor
        · rintro ⟨a1, a2, a3, a4⟩
          exact ⟨a1, by omega, a3, a4⟩
        · rintro ⟨a1, a2, a3, a4⟩
          refine ⟨a1, ?_, a3, a4⟩
          by_cases z : e.1 < i
          · exact z
          · have : e.1 = i := by omega
            rw [this] at a4
            exact absurd a4 hc
    rintro ys2 H4 ⟨S4, hD4, es2, dv2, hel2, hes2⟩
    have hyl2 : ys2.length = es2.length := by rw [dv2.length, List.length_map]
    refine ⟨D, D2, _, _, rfl, rfl, S4 _ _ hD3, hD4, Nat.le_trans (show _ ≤ 2000 by omega) (by decide), fun R hR => ?_⟩
    try simp only [List.set_cons_zero, List.set_cons_succ]
    have S5 := (S3.trans S4).trans (Same.new (o := .lst (ys ++ ys2)) hR)
    have hR0 : H R = none := by
      cases q9 : H R with
      | none => rfl
      | some u => exact nomatch ((S3.trans S4) _ _ q9).symm.trans hR
    have hR5 : (upd H4 R (.lst (ys ++ ys2))) R = some (.lst (ys ++ ys2)) := upd_same
    obtain ⟨eh, heh⟩ : ∃ eh : List EntH, eh = (es ++ es2).map fun e => EntH.sp e.1 e.2 := ⟨_, rfl⟩
    have dvh : DVs K (upd H4 R (.lst (ys ++ ys2))) (ys ++ ys2) (eh.map EntH.d) := by
      rw [heh, List.map_map]
      show DVs K _ _ ((es ++ es2).map pairD2)
      rw [List.map_append]
      exact ((dv.same S4).same (Same.new hR)).append (dv2.same (Same.new hR))
    have hehl : eh.length ≤ 2 * Pl.spans.length := by rw [heh, List.length_map, List.length_append]; omega
    have hmem : ∀ e : EntH, e ∈ eh ↔ ∃ s w : Int, e = .sp s w ∧ EntOk Pl.spans.length (s, w) ∧ srcZ Pl.spans (s, w) = here := fun e => by
      rw [heh, List.mem_map]
      constructor
      · rintro ⟨y, hy, rfl⟩
        refine ⟨y.1, y.2, rfl, ?_⟩
        rw [List.mem_append, hes, hes2] at hy
        unfold EntOk srcZ
        rcases hy with ⟨a1, a2, a3, a4⟩ | ⟨a1, a2, a3, a4⟩
        · exact ⟨⟨a1, by dsimp only; omega, .inl a3⟩, by rw [if_pos a3]; exact a4⟩
        · exact ⟨⟨a1, by dsimp only; omega, .inr a3⟩, by rw [if_neg (by dsimp only; omega)]; exact a4⟩
      · rintro ⟨s, w, rfl, ⟨a1, a2, a3⟩, a4⟩
        refine ⟨(s, w), ?_, rfl⟩
        rw [List.mem_append, hes, hes2]
        unfold srcZ at a4
        dsimp only at a1 a2 a3 a4 ⊢
        rcases a3 with a3 | a3
        · rw [if_pos a3] at a4
          exact .inl ⟨a1, by omega, a3, a4⟩
        · rw [if_neg (by omega)] at a4
          exact .inr ⟨a1, by omega, a3, a4⟩
    have hyyl : (ys ++ ys2).length = eh.length := by rw [dvh.length, List.length_map]
    revert S5 hR5 dvh
    generalize upd H4 R (.lst (ys ++ ys2)) = H5
    revert hyyl
    generalize ys ++ ys2 = yy
    intro hyyl S5 hR5 dvh
    refine ⟨_, rfl, _, rfl, st, _, rfl, .inr (SqT.of (S5 _ _ hst)), rfl, flat_ints _, _, rfl, ?_⟩
    rw [inV_ints]
    refine ite2 (fun hc => ?_) (fun hc => ?_)
    · have hc := of_decide_eq_true hc
      refine ⟨_, rfl, _, rfl, st, rfl, ⟨_, SqT.of (S5 _ _ hst)⟩, fun D3 hD3 => ?_⟩
      refine lc_tup (xs := sts.map V.int) 1 [some (.int here)]
        (fun i zs H6 => Same H5 H6 ∧ H6 D3 = some (.lst zs) ∧ DVs K H6 zs (((sts.take i).map fun z => EntH.hm here z).map EntH.d) ∧ i ≤ sts.length)
        rfl ⟨Same.new hD3, upd_same, .nil, Nat.zero_le _⟩ (fun i zs H6 _ ⟨h, _⟩ => SqT.of (h _ _ (S5 _ _ hst))) ?_ ?_
      · rintro i x' zs H6 os hx ho ⟨S6, hD6, dv6, hle⟩
        obtain ⟨o, rfl⟩ := os1 ho
        have hi : i < sts.length := by have := (List.getElem?_eq_some_iff.mp hx).1; rwa [List.length_map] at this
        rw [List.getElem?_map, List.getElem?_eq_getElem hi] at hx
        cases hx
        have hzl : zs.length = i := by rw [dv6.length, List.length_map, List.length_map, List.length_take]; omega
        refine noifN ?_
        refine ⟨_, rfl, _, rfl, by show 3 ≤ sizeLine; decide, fun t ht => ?_⟩
        have hD7 := Same.new (o := .tup (EntH.hm here sts[i]).vs) ht _ _ hD6
        refine LcN.mk (os := [some (.int sts[i])]) (by rw [List.length_map]; exact hi) hD7 (by rw [hzl]; exact Nat.lt_of_lt_of_le hi (Nat.le_trans hsl (by decide))) rfl rfl ?_
        refine ⟨(S6.trans (Same.new ht)).acc hD3, upd_same, ?_, hi⟩
        rw [List.take_succ, List.getElem?_eq_getElem hi, List.map_append, List.map_append]
        exact (dv6.tk ((Same.new ht).tk.trans (TK.updL hD7)) (noLs_entsH _)).append (.cons (at_entH (e := .hm here sts[i]) ((TK.updL hD7) t _ upd_same)) .nil)
      · rintro zs H6 ⟨S6, hD6, dv6, _⟩
        rw [List.length_map, List.take_length] at dv6
        have hzl : zs.length = sts.length := by rw [dv6.length, List.length_map, List.length_map]
        refine ⟨R, D3, _, _, rfl, rfl, S6 _ _ hR5, hD6, Nat.le_trans (show _ ≤ 3000 by omega) (by decide), fun R2 hR2 => ?_⟩
        try simp only [List.set_cons_zero, List.set_cons_succ]
        have hR20 : H R2 = none := by
          cases q9 : H R2 with
          | none => rfl
          | some u => exact nomatch ((S5.trans S6) _ _ q9).symm.trans hR2
        refine ⟨_, rfl, ?_⟩
        refine k R2 _ (eh ++ sts.map fun z => EntH.hm here z) _ (S5.trans (S6.trans (Same.new hR2))) hR20 upd_same ?_ (fun e => ?_) (by rw [List.length_append, List.length_map]; omega)
        · rw [List.map_append]
          exact ((dvh.same S6).same (Same.new hR2)).append (dv6.same (Same.new hR2))
        · rw [List.mem_append, hmem, List.mem_map]
          constructor
          · rintro (⟨s, w, rfl, h1, h2⟩ | ⟨z, hz, rfl⟩)
            · exact ⟨h1, h2⟩
            · exact ⟨⟨hc, hz⟩, rfl⟩
          · rintro ⟨h1, h2⟩
            cases e with
            | sp s w => exact .inl ⟨s, w, rfl, h1, h2⟩
            | hm a b =>
              have h2 : a = here := h2
              subst h2
              exact .inr ⟨b, h1.2, rfl⟩
    · have hc : here ∉ sts := fun z => hc (decide_eq_true z)
      refine ⟨_, rfl, ?_⟩
      refine k R _ eh _ S5 hR0 hR5 dvh (fun e => ?_) (by omega)
      rw [hmem]
      constructor
      · rintro ⟨s, w, rfl, h1, h2⟩
        exact ⟨h1, h2⟩
      · rintro ⟨h1, h2⟩
        cases e with
        | sp s w => exact ⟨s, w, rfl, h1, h2⟩
        | hm a b =>
          have h2 : a = here := h2
          subst h2
          exact absurd h1.1 hc
end

section
variable {P : Program} {w : World} {K : PySem.W.Frag} {mg : Str → Option Value} {base : Heap}
theorem sc_law_home_way : FnScope ["_law_plan_here", "_law_stays_here", "_law_here", "_law_begin", "_law_ways", "_law_line", "_law_at", "_law_entry", "_law_work"] ["_law_plan_here", "_law_stays_here", "_law_here", "_law_begin"] (defScope s_law_home_way) := ⟨rfl, rfl, rfl, by decide +kernel, rfl, by decide +kernel, by decide +kernel⟩
theorem ok_law_home_way {f : Addr} {fd : FuncData} (F : Fun K "_law_home_way" "_law_home_way" s_law_home_way f fd) (T : Txt mg) (D_law_onward : Def P w K mg base 1 "_law_onward" ["_law_plan_here", "_law_stays_here", "_law_here"] (sp_onward8 K)) (D_law_ends : Def P w K mg base 2 "_law_ends" ["_law_plan_here", "_law_stays_here", "_law_entry"] (sp_ends8 K)) : FnOk P w K mg base CX0 3 f fd ["_law_plan_here", "_law_stays_here", "_law_here", "_law_begin"] (sp_home_way8 K) := by
  refine F.ok sc_law_home_way (fun vs H Q E h => ?_) (fun cdv A outer s H vs Q E hr h => ?_)
  · obtain ⟨x, st, Pl, sts, here, begin, works, r0, rfl, _⟩ := h
    rfl
  · obtain ⟨x, st, Pl, sts, here, begin, works, r0, rfl, dx, hst, hsr, hsl, hl, hin, hw8, hh0, hh1, hb0, hb1, hwk, hwo, k⟩ := h
    have hu := hu_of hr
    refine ⟨_, (@pss_cons _ _ _ _ _ (@ps_set _ _ 4 _ _ _ _ sc_law_home_way.nd rfl (Or.inl rfl) (@pe_disp _ _ _ _ _ (pps_cons (@pv _ 2 _ _ rfl (Or.inl rfl) (by decide) (by decide)) (@pe_lst _ _ _ _ (@pa_nil _)) pps_nil) rfl rfl (by simp) (by decide)) (by rfl) (by first | exact Or.inl rfl | exact Or.inr rfl | assumption)) (@pss_cons _ _ _ _ _ (@ps_set _ _ 5 _ _ _ _ sc_law_home_way.nd rfl (Or.inl rfl) (@pe_lst _ _ _ _ (@pa_name _ _ _ _ _ _ (@pv _ 2 _ _ rfl (Or.inl rfl) (by decide) (by decide)) (@pa_nil _))) (by rfl) (by first | exact Or.inl rfl | exact Or.inr rfl | assumption)) (@pss_cons _ _ _ _ _ (@ps_set _ _ 6 _ _ _ _ sc_law_home_way.nd rfl (Or.inl rfl) (@pe_int _ _ _ _) (by rfl) (by first | exact Or.inl rfl | exact Or.inr rfl | assumption)) (@pss_cons _ _ _ _ _ (@ps_while _ _ _ _ _ _ PassesOwn.never (@pt_cmp _ _ _ _ _ _ (@pc_dnotin _ _ _ _ _ hu (@pv _ 3 _ _ rfl (Or.inl rfl) (by decide) (by decide)) (@pv _ 4 _ _ rfl (Or.inl rfl) (by decide) (by decide))) (by first | exact nobehind _ (by decide) (by decide) | rfl)) (@pss_cons _ _ _ _ _ (@ps_for _ _ _ _ _ _ _ _ PassesOwn.never rfl (@pi_list _ _ _ _ (@pe_own _ _ _ _ _ _ _ _ _ _ D_law_onward (hr.mono (by decide)) rfl (@pa_name _ _ _ _ _ _ (@pv _ 0 _ _ rfl (Or.inl rfl) (by decide) (by decide)) (@pa_name _ _ _ _ _ _ (@pv _ 1 _ _ rfl (Or.inl rfl) (by decide) (by decide)) (@pa_sub _ _ _ _ _ _ _ (@pe_ix _ _ _ _ _ _ _ ix_list (@pv _ 5 _ _ rfl (Or.inl rfl) (by decide) (by decide)) (@pv _ 6 _ _ rfl (Or.inl rfl) (by decide) (by decide)) (fun _ _ => rfl)) (@pa_nil _)))) (by decide) (by rfl) (by rfl))) (@pg_name _ _ 7 _ sc_law_home_way.nd rfl (Or.inl rfl) (by first | exact Or.inl rfl | exact Or.inr rfl | assumption)) (@pss_cons _ _ _ _ _ (@ps_set _ _ 8 _ _ _ _ sc_law_home_way.nd rfl (Or.inl rfl) (@pe_ix _ _ _ _ _ _ _ ix_tup (@pe_own _ _ _ _ _ _ _ _ _ _ D_law_ends (hr.mono (by decide)) rfl (@pa_name _ _ _ _ _ _ (@pv _ 0 _ _ rfl (Or.inl rfl) (by decide) (by decide)) (@pa_name _ _ _ _ _ _ (@pv _ 1 _ _ rfl (Or.inl rfl) (by decide) (by decide)) (@pa_name _ _ _ _ _ _ (@pv _ 7 _ _ rfl (Or.inl rfl) (by decide) (by decide)) (@pa_nil _)))) (by decide) (by rfl) (by rfl)) (@pe_int _ _ _ _) (fun _ _ => rfl)) (by rfl) (by first | exact Or.inl rfl | exact Or.inr rfl | assumption)) (@pss_one _ _ _ (@ps_if _ _ _ _ _ _ _ _ (@pt_cmp _ _ _ _ _ _ (@pc_dnotin _ _ _ _ _ hu (@pv _ 8 _ _ rfl (Or.inl rfl) (by decide) (by decide)) (@pv _ 4 _ _ rfl (Or.inl rfl) (by decide) (by decide))) (by first | exact nobehind _ (by decide) (by decide) | rfl)) (@pss_cons _ _ _ _ _ (@ps_dput _ _ _ _ _ _ _ _ _ hu (@pv _ 4 _ _ rfl (Or.inl rfl) (by decide) (by decide)) (@pv _ 8 _ _ rfl (Or.inl rfl) (by decide) (by decide)) (@pe_op _ _ _ _ _ _ _ _ op_cat (@pe_dget _ _ _ _ _ _ hu (@pv _ 4 _ _ rfl (Or.inl rfl) (by decide) (by decide)) (@pe_ix _ _ _ _ _ _ _ ix_list (@pv _ 5 _ _ rfl (Or.inl rfl) (by decide) (by decide)) (@pv _ 6 _ _ rfl (Or.inl rfl) (by decide) (by decide)) (fun _ _ => rfl)) (fun _ _ => rfl)) (@pe_lst _ _ _ _ (@pa_name _ _ _ _ _ _ (@pv _ 7 _ _ rfl (Or.inl rfl) (by decide) (by decide)) (@pa_nil _)))) rfl) (@pss_one _ _ _ (@ps_expr _ _ _ _ (@pe_bm _ _ _ _ _ _ _ _ _ _ _ _ PySem.F.plainAttrs_list PySem.F.slot_list_append PySem.F.type_list_append mt_append (@pv _ 5 _ _ rfl (Or.inl rfl) (by decide) (by decide)) (@pa_name _ _ _ _ _ _ (@pv _ 8 _ _ rfl (Or.inl rfl) (by decide) (by decide)) (@pa_nil _)) (by rfl) (by rfl) (by rfl) (by rfl) (by rfl)) (by rfl)))) (@pss_nil _)))) (by intro _ ; rfl)) (@pss_one _ _ _ (@ps_set _ _ 6 _ _ _ _ sc_law_home_way.nd rfl (Or.inl rfl) (@pe_op _ _ _ _ _ _ _ _ op_add (@pv _ 6 _ _ rfl (Or.inl rfl) (by decide) (by decide)) (@pe_int _ _ _ _)) (by rfl) (by first | exact Or.inl rfl | exact Or.inr rfl | assumption))))) (@pss_one _ _ _ (@ps_ret _ _ _ _ (@pe_dget _ _ _ _ _ _ hu (@pv _ 4 _ _ rfl (Or.inl rfl) (by decide) (by decide)) (@pv _ 3 _ _ rfl (Or.inl rfl) (by decide) (by decide)) (fun _ _ => rfl)))))))), ?_⟩
    intro W hW
    refine ⟨_, rfl, by show 0 ≤ sizeLine; decide, fun q0 hq0 => ?_⟩
    have hWq : W ≠ q0 := ne_of_none (H := upd H W (.dK [])) upd_same hq0
    refine ⟨by rw [upd_ne hWq]; exact upd_same, [(.inl here, .ref q0)], rfl, by show 1 ≤ 15; decide, ?_⟩
    rw [show mergeK [] [((.inl here : Key), V.ref q0)] = [((.inl here : Key), V.ref q0)] from rfl]
    try simp only [List.set_cons_zero, List.set_cons_succ]
    have S1 : Same H (upd (upd (upd H W (.dK [])) q0 (.lst [])) W (.dK [((.inl here : Key), V.ref q0)])) := ((Same.new hW).trans (Same.new hq0)).acc hW
    have hW1 : (upd (upd (upd H W (.dK [])) q0 (.lst [])) W (.dK [((.inl here : Key), V.ref q0)])) W = some (.dK [((.inl here : Key), V.ref q0)]) := upd_same
    have hq1 : (upd (upd (upd H W (.dK [])) q0 (.lst [])) W (.dK [((.inl here : Key), V.ref q0)])) q0 = some (.lst []) := by rw [upd_ne hWq.symm]; exact upd_same
    revert S1 hW1 hq1
    generalize upd (upd (upd H W (.dK [])) q0 (.lst [])) W (.dK [((.inl here : Key), V.ref q0)]) = H1
    intro S1 hW1 hq1
    refine ⟨_, rfl, by show 1 ≤ sizeLine; decide, fun L hL => ?_⟩
    try simp only [List.set_cons_zero, List.set_cons_succ]
    have hL0 : H L = none := by
      cases q9 : H L with
      | none => rfl
      | some u => exact nomatch (S1 _ _ q9).symm.trans hL
    have hWL : W ≠ L := ne_of_none hW1 hL
    have hqL : q0 ≠ L := ne_of_none hq1 hL
    have B0 : BfsH K (upd H1 L (.lst [.int here])) [((.inl here : Key), V.ref q0)] L Pl.spans sts works here [here] := by
      refine ⟨by simp, fun z hz => by rw [List.mem_singleton.mp hz]; exact ⟨hh0, hh1⟩, by simp, fun z => ?_, fun z hz => ?_, rfl⟩
      · by_cases hz : z = here
        · rw [hz, valV_pos rfl]; simp
        · rw [valV_neg (fun e => hz (by injection e with e; exact e.symm))]
          simp [hz, valV]
      · have hz := List.mem_singleton.mp hz
        subst hz
        exact ⟨q0, [], [], by rw [valV_pos rfl], by rw [upd_ne hqL]; exact hq1, hqL, .nil, rfl, fun _ h => (nomatch h), by simp⟩
    refine ⟨fun m σ H2 => ∃ (at_ : Nat) (kvs : List (Key × V)) (ln : List Int) (o7 o8 : Option V), m = 10 - at_ ∧ at_ ≤ ln.length ∧ σ = [some x, some (.ref st), some (.int here), some (.int begin), some (.ref W), some (.ref L), some (.int (at_ : Int)), o7, o8] ∧ Same H H2 ∧ H2 W = some (.dK kvs) ∧ H2 L = some (.lst (ln.map V.int)) ∧ BfsH K H2 kvs L Pl.spans sts works here ln ∧
      ∀ j, j < at_ → ∀ e : EntH, e.Ok Pl.spans.length sts → e.src Pl.spans = ln.getD j 0 → e.dst Pl.spans ∈ ln,
      ⟨_, 0, _, [here], _, _, rfl, Nat.zero_le _, rfl, S1.trans (Same.new hL), Same.new hL _ _ hW1, upd_same, B0, fun j hj => absurd hj (Nat.not_lt_zero _)⟩, ?_⟩
    rintro m σ H2 ⟨at_, kvs, ln, o7, o8, rfl, hat, rfl, S2, hW2, hL2, B, cl⟩
    have hfew := B.few
    refine ⟨_, rfl, _, rfl, W, _, rfl, DGet.k (k := (.inl begin : Key)) hW2, _, rfl, ?_⟩
    have hkey := B.key begin
    by_cases hbl : begin ∈ ln
    · -- found
      rw [decide_eq_true hbl] at hkey
      dsimp only
      rw [hkey]
      refine iteF ?_
      obtain ⟨q, xs, r, a1, a2, a3, a4, a5, a6, a7⟩ := B.way begin hbl
      have hdg := DGet.k (k := (.inl begin : Key)) hW2
      rw [a1] at hdg
      refine ⟨_, rfl, _, rfl, W, _, rfl, hdg, ?_⟩
      exact k q xs r H2 S2 a2 a4 a5 a6 (by omega)
    · rw [decide_eq_false hbl] at hkey
      dsimp only
      rw [hkey]
      refine iteT ?_
      have hlt : at_ < ln.length := by
        rcases Nat.lt_or_ge at_ ln.length with z | z
        · exact z
        · refine absurd (closedH (st := sts) (ln := ln) (fun z hz e he hs => ?_) hwo B.hd hwk) hbl
          obtain ⟨j, hj, rfl⟩ := List.getElem_of_mem hz
          exact cl j (by omega) e he (by rw [hs, getD_get _ _ hj])
      obtain ⟨zz, hzz⟩ : ∃ zz, zz = ln.getD at_ 0 := ⟨_, rfl⟩
      have hzm : zz ∈ ln := by rw [hzz]; exact getD_mem hlt
      refine ⟨fun σ' H' => ∃ (kvs : List (Key × V)) (ln : List Int) (o7 o8 : Option V), at_ + 1 ≤ ln.length ∧ σ' = [some x, some (.ref st), some (.int here), some (.int begin), some (.ref W), some (.ref L), some (.int ((at_ + 1 : Nat) : Int)), o7, o8] ∧ Same H H' ∧ H' W = some (.dK kvs) ∧ H' L = some (.lst (ln.map V.int)) ∧ BfsH K H' kvs L Pl.spans sts works here ln ∧
        ∀ j, j < at_ + 1 → ∀ e : EntH, e.Ok Pl.spans.length sts → e.src Pl.spans = ln.getD j 0 → e.dst Pl.spans ∈ ln, ?_, ?_⟩
      · rintro σ' H' ⟨kvs', ln', o7', o8', c1, rfl, c2, c3, c4, c5, c6⟩
        exact ⟨10 - (at_ + 1), by omega, at_ + 1, kvs', ln', o7', o8', rfl, c1, rfl, c2, c3, c4, c5, c6⟩
      have pk : ∀ ln' : List Int, at_ < ln'.length → atI (ln'.map V.int) (at_ : Int) = some (.int (ln'.getD at_ 0)) := fun ln' h => atI_nat (by rw [List.getElem?_map, List.getElem?_eq_getElem h, getD_get _ _ h]; rfl)
      refine ⟨_, rfl, _, rfl, _, rfl, _, rfl, L, _, _, _, rfl, rfl, SqL.of hL2, pk ln hlt, _, st, Pl, sts, _, rfl, dx.same S2, S2 _ _ hst, by omega, hsl, fun eq exs es H3 S3 heq0 heq dvs hes hel => ?_⟩
      rw [← hzz] at hes
      refine ⟨eq, rfl, ⟨_, SqL.of heq⟩, ?_⟩
      have heqL : eq ≠ L := fun z => by subst z; rw [hL2] at heq0; cases heq0
      have heqW : eq ≠ W := fun z => by subst z; rw [hW2] at heq0; cases heq0
      have hexl : exs.length = es.length := by rw [dvs.length, List.length_map]
      have S03 := S2.trans S3
      refine for_list (xs := exs) (fun j σ H4 => ∃ (kvs : List (Key × V)) (ln : List Int) (o7 o8 : Option V), at_ < ln.length ∧ ln.getD at_ 0 = zz ∧ σ = [some x, some (.ref st), some (.int here), some (.int begin), some (.ref W), some (.ref L), some (.int (at_ : Int)), o7, o8] ∧ Same H H4 ∧ TK H3 H4 ∧ H4 eq = some (.lst exs) ∧ H4 W = some (.dK kvs) ∧ H4 L = some (.lst (ln.map V.int)) ∧ BfsH K H4 kvs L Pl.spans sts works here ln ∧
          (∀ j, j < at_ → ∀ e : EntH, e.Ok Pl.spans.length sts → e.src Pl.spans = ln.getD j 0 → e.dst Pl.spans ∈ ln) ∧ ∀ e ∈ es.take j, e.dst Pl.spans ∈ ln)
        ⟨kvs, ln, _, _, hlt, hzz.symm, rfl, S03, TK.refl _, heq, S3 _ _ hW2, S3 _ _ hL2, B.same S3, cl, fun e he => by simp at he⟩ ?_ ?_ ?_
      · rintro j σ H4 hj ⟨_, _, _, _, _, _, _, _, _, h5, _⟩
        exact SqL.of h5
      · rintro j x' σ H4 hx ⟨kvs4, ln4, o7', o8', hlt4, hz4, rfl, S4, T4, heq4, hW4, hL4, B4, cl4, dn4⟩
        obtain ⟨hj, ea, rfl, hea⟩ := entsH_item dvs hx
        have hem := List.getElem_mem hj
        have htk : es.take (j + 1) = es.take j ++ [es[j]] := by rw [List.take_succ, List.getElem?_eq_getElem hj]; rfl
        obtain ⟨heok, hesrc⟩ := (hes _).mp hem
        revert hea htk heok hesrc
        generalize es[j] = e
        intro hea htk heok hesrc
        have hfew4 := B4.few
        obtain ⟨_, hd0, hd1⟩ := endsH_in hin hsr heok
        refine ⟨_, rfl, _, rfl, _, rfl, _, st, ea, Pl, sts, e, rfl, dx.same S4, S4 _ _ hst, (fun z hz => by have := hsr z hz; omega), T4 _ _ hea, heok, by omega, fun qe H5 S5 hqe => ?_⟩
        refine ⟨qe, _, _, _, rfl, rfl, SqT.of hqe, pickN (by decide) rfl, ?_⟩
        try simp only [List.set_cons_zero, List.set_cons_succ]
        have hW5 := S5 _ _ hW4
        have hL5 := S5 _ _ hL4
        have B5 := B4.same S5
        refine ⟨_, rfl, _, rfl, W, _, rfl, DGet.k (k := (.inl (e.dst Pl.spans) : Key)) hW5, _, rfl, ?_⟩
        have hk5 := B5.key (e.dst Pl.spans)
        by_cases hdm : e.dst Pl.spans ∈ ln4
        · rw [decide_eq_true hdm] at hk5
          dsimp only
          rw [hk5]
          refine iteF ?_
          refine ⟨kvs4, ln4, _, _, hlt4, hz4, rfl, S4.trans S5, T4.trans S5.tk, S5 _ _ heq4, hW5, hL5, B5, cl4, fun e' he' => ?_⟩
          rw [htk] at he'
          rcases List.mem_append.mp he' with z | z
          · exact dn4 e' z
          · rw [List.mem_singleton.mp z]; exact hdm
        · rw [decide_eq_false hdm] at hk5
          dsimp only
          rw [hk5]
          refine iteT ?_
          have hzm4 : zz ∈ ln4 := by rw [← hz4]; exact getD_mem hlt4
          obtain ⟨q, xs, r, a1, a2, a3, a4, a5, a6, a7⟩ := B5.way zz hzm4
          have hdg := DGet.k (k := (.inl zz : Key)) hW5
          rw [a1] at hdg
          have hxsl : xs.length = r.length := by rw [a4.length, List.length_map]
          refine ⟨_, rfl, _, rfl, _, rfl, L, _, _, _, rfl, rfl, SqL.of hL5, pk ln4 hlt4, W, _, rfl, by rw [hz4]; exact hdg, ?_⟩
          refine ⟨_, rfl, by show 1 ≤ sizeLine; decide, fun t ht => ⟨q, t, xs, _, rfl, rfl, Same.new ht _ _ a2, upd_same, Nat.le_trans (show _ ≤ 100 by rw [hxsl]; simp; omega) (by decide), fun p hp => ?_⟩⟩
          have S6 : Same H5 (upd (upd H5 t (.lst [.ref ea])) p (.lst (xs ++ [.ref ea]))) := (Same.new ht).trans (Same.new hp)
          have hp6 : (upd (upd H5 t (.lst [.ref ea])) p (.lst (xs ++ [.ref ea]))) p = some (.lst (xs ++ [.ref ea])) := upd_same
          revert S6 hp6
          generalize upd (upd H5 t (.lst [.ref ea])) p (.lst (xs ++ [.ref ea])) = H6
          intro S6 hp6
          have hpL : p ≠ L := fun z => by subst z; exact nomatch ((Same.new ht) _ _ hL5).symm.trans hp
          have hpW : p ≠ W := fun z => by subst z; exact nomatch ((Same.new ht) _ _ hW5).symm.trans hp
          have hW6 := S6 _ _ hW5
          have hL6 := S6 _ _ hL5
          refine ⟨_, rfl, _, rfl, W, _, rfl, DPut.k (k := (.inl (e.dst Pl.spans) : Key)) hW6 (by rw [B4.len]; exact Nat.lt_of_le_of_lt (show ln4.length ≤ 100 by omega) (by decide)), ?_⟩
          refine ⟨_, rfl, .inl ⟨rfl, _, SqL.of (by rw [upd_ne hWL.symm]; exact hL6)⟩, _, rfl, L, _, _, rfl, rfl, by rw [upd_ne hWL.symm]; exact hL6, by rw [List.length_map]; exact Nat.lt_of_le_of_lt (show ln4.length ≤ 100 by omega) (by decide), ?_⟩
          have SH6 := S4.trans (S5.trans S6)
          have hWn : H W = none := hW
          have tk6 : TK H6 (upd (upd H6 W (.dK (putK kvs4 (.inl (e.dst Pl.spans) : Key) (.ref p)))) L (.lst (ln4.map V.int ++ [.int (e.dst Pl.spans)]))) := (TK.updD hW6).trans (TK.updL (by rw [upd_ne hWL.symm]; exact hL6))
          have kp6 : ∀ q' xs', q' ≠ L → H6 q' = some (.lst xs') → (upd (upd H6 W (.dK (putK kvs4 (.inl (e.dst Pl.spans) : Key) (.ref p)))) L (.lst (ln4.map V.int ++ [.int (e.dst Pl.spans)]))) q' = some (.lst xs') := fun q' xs' hq' h => by
            rw [upd_ne hq', upd_ne (fun z => by subst z; rw [hW6] at h; cases h)]
            exact h
          have hea6 : H6 ea = some (.tup e.vs) := S6.tk _ _ (S5.tk _ _ (T4 _ _ hea))
          refine ⟨putK kvs4 (.inl (e.dst Pl.spans) : Key) (.ref p), ln4 ++ [e.dst Pl.spans], _, _, by rw [List.length_append]; omega, by rw [getD_append_left hlt4]; exact hz4, rfl, (SH6.acc hWn).acc hL0, (T4.trans (S5.tk.trans S6.tk)).trans tk6, kp6 _ _ heqL (S6 _ _ (S5 _ _ heq4)), by rw [upd_ne hWL]; exact upd_same, by rw [List.map_append]; exact upd_same, ?_, ?_, ?_⟩
          · refine (B5.same S6).put tk6 kp6 hdm hd0 hd1 (kp6 _ _ hpL hp6) hpL (r := r ++ [e]) ?_ (a5.append (by rw [← hesrc]; exact walkE_one e)) (fun e' he' => ?_) (by rw [List.length_append]; simp; omega)
            · rw [List.map_append]
              exact ((a4.same S6).tk tk6 (noLs_entsH _)).append (.cons (at_entH (tk6 _ _ hea6)) .nil)
            · rcases List.mem_append.mp he' with z | z
              · exact a6 e' z
              · rw [List.mem_singleton.mp z]; exact heok
          · intro j' hj' e' he' hs'
            rw [getD_append_left (by omega)] at hs'
            exact List.mem_append_left _ (cl4 j' hj' e' he' hs')
          · intro e' he'
            rw [htk] at he'
            rcases List.mem_append.mp he' with z | z
            · exact List.mem_append_left _ (dn4 e' z)
            · rw [List.mem_singleton.mp z]; simp
      · rintro σ H4 ⟨kvs4, ln4, o7', o8', hlt4, hz4, rfl, S4, T4, heq4, hW4, hL4, B4, cl4, dn4⟩
        refine ⟨_, rfl, _, _, rfl, rfl, ?_⟩
        refine ⟨kvs4, ln4, _, _, hlt4, rfl, S4, hW4, hL4, B4, fun j hj e he hs => ?_⟩
        rcases Nat.lt_succ_iff_lt_or_eq.mp hj with z | z
        · exact cl4 j z e he hs
        · rw [z, hz4] at hs
          exact dn4 e (by rw [hexl, List.take_length]; exact (hes e).mpr ⟨he, hs⟩)
end

section
variable {P : Program} {w : World} {K : PySem.W.Frag} {mg : Str → Option Value} {base : Heap}
theorem sc_law_ring : FnScope ["_law_feed_here", "_law_plan_here", "_law_stays_here", "_law_most", "_law_s", "_law_way", "_law_row", "_law_k", "_law_begin", "_law_here", "_law_some"] ["_law_feed_here", "_law_plan_here", "_law_stays_here", "_law_most"] (defScope s_law_ring) := ⟨rfl, rfl, rfl, by decide +kernel, rfl, by decide +kernel, by decide +kernel⟩
theorem ok_law_ring {f : Addr} {fd : FuncData} (F : Fun K "_law_ring" "_law_ring" s_law_ring f fd) (T : Txt mg) (D_law_draw : Def P w K mg base 1 "_law_draw" ["_law_feed_here", "_law_many"] sp_draw) (D_law_onward : Def P w K mg base 1 "_law_onward" ["_law_plan_here", "_law_stays_here", "_law_here"] (sp_onward8 K)) (D_law_ends : Def P w K mg base 2 "_law_ends" ["_law_plan_here", "_law_stays_here", "_law_entry"] (sp_ends8 K)) (D_law_home_way : Def P w K mg base 3 "_law_home_way" ["_law_plan_here", "_law_stays_here", "_law_here", "_law_begin"] (sp_home_way8 K)) : FnOk P w K mg base CX0 4 f fd ["_law_feed_here", "_law_plan_here", "_law_stays_here", "_law_most"] (sp_ring8 K) := by
  refine F.ok sc_law_ring (fun vs H Q E h => ?_) (fun cdv A outer s H vs Q E hr h => ?_)
  · obtain ⟨f, c, x, st, Pl, sts, works, most, rfl, _⟩ := h
    rfl
  · obtain ⟨f, c, x, st, Pl, sts, works, most, rfl, hF, dx, hst, hsr, hsl, hl, hin, hw8, hm0, hm14, k0, k⟩ := h
    obtain ⟨p, pn, ps, xs, rfl, g, g1, g2, r⟩ := plan_at dx
    have hxl : xs.length = Pl.spans.length := by rw [r.length, List.length_map]
    refine ⟨_, (@pss_cons _ _ _ _ _ (@ps_if _ _ _ _ _ _ _ _ (@pt_cmpR _ _ _ _ _ _ _ _ (op_eq_nilT hr) (@pe_ix _ _ _ _ _ _ _ ix_tup (@pv _ 1 _ _ rfl (Or.inl rfl) (by decide) (by decide)) (@pe_int _ _ _ _) (fun _ _ => rfl)) (@pe_tup _ _ _ _ _ (@pa_nil _)) (nomark _)) (@pss_one _ _ _ (@ps_ret _ _ _ _ (@pe_non _ _ _))) (@pss_nil _)) (@pss_cons _ _ _ _ _ (@ps_set _ _ 4 _ _ _ _ sc_law_ring.nd rfl (Or.inl rfl) (@pe_own _ _ _ _ _ _ _ _ _ _ D_law_draw (hr.mono (by decide)) rfl (@pa_name _ _ _ _ _ _ (@pv _ 0 _ _ rfl (Or.inl rfl) (by decide) (by decide)) (@pa_call _ _ _ _ _ _ _ _ (@pe_callB _ _ _ _ _ _ _ _ _ call_len_seq rfl T.n_len PySem.boot_len (@pa_sub _ _ _ _ _ _ _ (@pe_ix _ _ _ _ _ _ _ ix_tup (@pv _ 1 _ _ rfl (Or.inl rfl) (by decide) (by decide)) (@pe_int _ _ _ _) (fun _ _ => rfl)) (@pa_nil _)) (by decide) (by decide) (by rfl) (by rfl)) (@pa_nil _))) (by decide) (by rfl) (by rfl)) (by rfl) (by first | exact Or.inl rfl | exact Or.inr rfl | assumption)) (@pss_cons _ _ _ _ _ (@ps_set _ _ 5 _ _ _ _ sc_law_ring.nd rfl (Or.inl rfl) (@pe_ix _ _ _ _ _ _ _ ix_list (@pe_lst _ _ _ _ (@pa_const _ _ _ _ _ _ _ (@pe_int _ _ _ _) (@pa_un _ _ _ _ _ _ _ (@pe_un _ _ _ _ _ _ un_neg (@pe_int _ _ _ _)) (@pa_nil _)))) (@pe_own _ _ _ _ _ _ _ _ _ _ D_law_draw (hr.mono (by decide)) rfl (@pa_name _ _ _ _ _ _ (@pv _ 0 _ _ rfl (Or.inl rfl) (by decide) (by decide)) (@pa_const _ _ _ _ _ _ _ (@pe_int _ _ _ _) (@pa_nil _))) (by decide) (by rfl) (by rfl)) (fun _ _ => rfl)) (by rfl) (by first | exact Or.inl rfl | exact Or.inr rfl | assumption)) (@pss_cons _ _ _ _ _ (@ps_set _ _ 6 _ _ _ _ sc_law_ring.nd rfl (Or.inl rfl) (@pe_lst _ _ _ _ (@pa_tup _ _ _ _ _ _ _ (@pe_tup _ _ _ _ _ (@pa_name _ _ _ _ _ _ (@pv _ 4 _ _ rfl (Or.inl rfl) (by decide) (by decide)) (@pa_name _ _ _ _ _ _ (@pv _ 5 _ _ rfl (Or.inl rfl) (by decide) (by decide)) (@pa_nil _)))) (@pa_nil _))) (by rfl) (by first | exact Or.inl rfl | exact Or.inr rfl | assumption)) (@pss_cons _ _ _ _ _ (@ps_asg _ _ _ _ _ _ (@pe_own _ _ _ _ _ _ _ _ _ _ D_law_ends (hr.mono (by decide)) rfl (@pa_name _ _ _ _ _ _ (@pv _ 1 _ _ rfl (Or.inl rfl) (by decide) (by decide)) (@pa_name _ _ _ _ _ _ (@pv _ 2 _ _ rfl (Or.inl rfl) (by decide) (by decide)) (@pa_sub _ _ _ _ _ _ _ (@pe_ix _ _ _ _ _ _ _ ix_list (@pv _ 6 _ _ rfl (Or.inl rfl) (by decide) (by decide)) (@pe_int _ _ _ _) (fun _ _ => rfl)) (@pa_nil _)))) (by decide) (by rfl) (by rfl)) (@pg_tup _ _ _ _ _ _ rfl (@pgs_cons _ _ _ _ _ (@pg_name _ _ 8 _ sc_law_ring.nd rfl (Or.inl rfl) (by first | exact Or.inl rfl | exact Or.inr rfl | assumption)) (@pgs_cons _ _ _ _ _ (@pg_name _ _ 9 _ sc_law_ring.nd rfl (Or.inl rfl) (by first | exact Or.inl rfl | exact Or.inr rfl | assumption)) (@pgs_nil _) (by rfl)) (by rfl)) (by rfl) (by rfl)) (by rfl) (by rfl) (by rfl)) (@pss_cons _ _ _ _ _ (@ps_for _ _ _ _ _ _ _ _ PassesOwn.never rfl (@pi_range1 _ _ _ _ _ _ rfl T.n_range (@pa_call _ _ _ _ _ _ _ _ (@pe_own _ _ _ _ _ _ _ _ _ _ D_law_draw (hr.mono (by decide)) rfl (@pa_name _ _ _ _ _ _ (@pv _ 0 _ _ rfl (Or.inl rfl) (by decide) (by decide)) (@pa_name _ _ _ _ _ _ (@pv _ 3 _ _ rfl (Or.inl rfl) (by decide) (by decide)) (@pa_nil _))) (by decide) (by rfl) (by rfl)) (@pa_nil _)) (by rfl)) (@pg_name _ _ 7 _ sc_law_ring.nd rfl (Or.inl rfl) (by first | exact Or.inl rfl | exact Or.inr rfl | assumption)) (@pss_cons _ _ _ _ _ (@ps_set _ _ 10 _ _ _ _ sc_law_ring.nd rfl (Or.inl rfl) (@pe_own _ _ _ _ _ _ _ _ _ _ D_law_onward (hr.mono (by decide)) rfl (@pa_name _ _ _ _ _ _ (@pv _ 1 _ _ rfl (Or.inl rfl) (by decide) (by decide)) (@pa_name _ _ _ _ _ _ (@pv _ 2 _ _ rfl (Or.inl rfl) (by decide) (by decide)) (@pa_name _ _ _ _ _ _ (@pv _ 9 _ _ rfl (Or.inl rfl) (by decide) (by decide)) (@pa_nil _)))) (by decide) (by rfl) (by rfl)) (by rfl) (by first | exact Or.inl rfl | exact Or.inr rfl | assumption)) (@pss_cons _ _ _ _ _ (@ps_expr _ _ _ _ (@pe_bm _ _ _ _ _ _ _ _ _ _ _ _ PySem.F.plainAttrs_list PySem.F.slot_list_append PySem.F.type_list_append mt_append (@pv _ 6 _ _ rfl (Or.inl rfl) (by decide) (by decide)) (@pa_sub _ _ _ _ _ _ _ (@pe_ix _ _ _ _ _ _ _ ix_list (@pv _ 10 _ _ rfl (Or.inl rfl) (by decide) (by decide)) (@pe_own _ _ _ _ _ _ _ _ _ _ D_law_draw (hr.mono (by decide)) rfl (@pa_name _ _ _ _ _ _ (@pv _ 0 _ _ rfl (Or.inl rfl) (by decide) (by decide)) (@pa_call _ _ _ _ _ _ _ _ (@pe_callB _ _ _ _ _ _ _ _ _ call_len_seq rfl T.n_len PySem.boot_len (@pa_name _ _ _ _ _ _ (@pv _ 10 _ _ rfl (Or.inl rfl) (by decide) (by decide)) (@pa_nil _)) (by decide) (by decide) (by rfl) (by rfl)) (@pa_nil _))) (by decide) (by rfl) (by rfl)) (fun _ _ => rfl)) (@pa_nil _)) (by rfl) (by rfl) (by rfl) (by rfl) (by rfl)) (by rfl)) (@pss_one _ _ _ (@ps_set _ _ 9 _ _ _ _ sc_law_ring.nd rfl (Or.inl rfl) (@pe_ix _ _ _ _ _ _ _ ix_tup (@pe_own _ _ _ _ _ _ _ _ _ _ D_law_ends (hr.mono (by decide)) rfl (@pa_name _ _ _ _ _ _ (@pv _ 1 _ _ rfl (Or.inl rfl) (by decide) (by decide)) (@pa_name _ _ _ _ _ _ (@pv _ 2 _ _ rfl (Or.inl rfl) (by decide) (by decide)) (@pa_sub _ _ _ _ _ _ _ (@pe_ix _ _ _ _ _ _ _ ix_list (@pv _ 6 _ _ rfl (Or.inl rfl) (by decide) (by decide)) (@pe_un _ _ _ _ _ _ un_neg (@pe_int _ _ _ _)) (fun _ _ => rfl)) (@pa_nil _)))) (by decide) (by rfl) (by rfl)) (@pe_int _ _ _ _) (fun _ _ => rfl)) (by rfl) (by first | exact Or.inl rfl | exact Or.inr rfl | assumption))))) (by intro _ ; rfl)) (@pss_one _ _ _ (@ps_ret _ _ _ _ (@pe_callTy _ _ _ _ _ _ _ _ _ call_tuple_of rfl T.n_tuple PyProof.Rows.boot_tuple (@pa_bin _ _ _ _ _ _ _ _ (@pe_op _ _ _ _ _ _ _ _ op_cat (@pv _ 6 _ _ rfl (Or.inl rfl) (by decide) (by decide)) (@pe_own _ _ _ _ _ _ _ _ _ _ D_law_home_way (hr.mono (by decide)) rfl (@pa_name _ _ _ _ _ _ (@pv _ 1 _ _ rfl (Or.inl rfl) (by decide) (by decide)) (@pa_name _ _ _ _ _ _ (@pv _ 2 _ _ rfl (Or.inl rfl) (by decide) (by decide)) (@pa_name _ _ _ _ _ _ (@pv _ 9 _ _ rfl (Or.inl rfl) (by decide) (by decide)) (@pa_name _ _ _ _ _ _ (@pv _ 8 _ _ rfl (Or.inl rfl) (by decide) (by decide)) (@pa_nil _))))) (by decide) (by rfl) (by rfl))) (@pa_nil _)) (by decide) (by decide) (by rfl) (by rfl)))))))))), ?_⟩
    refine ⟨_, rfl, p, _, _, _, rfl, rfl, SqT.of g, pickN (by decide) rfl, by show 0 ≤ sizeLine; decide, fun ee hee => ⟨ps, ee, _, rfl, rfl, SqT.of (Same.new hee _ _ g2), SqT.of upd_same, _, rfl, ?_⟩⟩
    have S1 : Same H (upd H ee (.tup [])) := Same.new hee
    revert S1
    generalize upd H ee (.tup []) = H1
    intro S1
    have F1 := hF.same S1
    refine ite2 (fun hc => ?_) (fun hc => ?_)
    · exact k0 H1 F1 (Sm.same S1)
    have hpos : 0 < Pl.spans.length := by
      rw [← hxl]
      cases xs with
      | nil => exact absurd rfl hc
      | cons _ _ => simp
    refine ⟨_, rfl, _, rfl, p, _, _, _, rfl, rfl, SqT.of (S1 _ _ g), pickN (by decide) rfl, ps, _, rfl, .inr (SqT.of (S1 _ _ g2)), f, c, _, rfl, by omega, by omega, F1, fun s0 H2 a2 b2 F2 S2 => ?_⟩
    rw [hxl] at b2
    try simp only [List.set_cons_zero, List.set_cons_succ]
    refine ⟨_, rfl, by show 2 ≤ sizeLine; decide, fun l hll => ?_⟩
    refine ⟨_, rfl, f, c, _, rfl, by decide, by decide, F2.new hll, fun r3 H3 a3 b3 F3 S3 => ?_⟩
    obtain ⟨v, hv, wy, rfl, hwy⟩ := pickI (xs := [.int 1, .int (-1)]) (fun v => ∃ z : Int, v = .int z ∧ (z = 1 ∨ z = -1)) a3 b3 (by
      intro x hx
      simp only [List.mem_cons, List.not_mem_nil, or_false] at hx
      rcases hx with rfl | rfl <;> exact ⟨_, rfl, by decide⟩)
    refine ⟨l, _, _, _, rfl, rfl, SqL.of (S3 l _ (F2.away hll).1 upd_same), hv, ?_⟩
    try simp only [List.set_cons_zero, List.set_cons_succ]
    have S03 : Sm f H H3 := (Sm.same S1).trans (S2.trans ((Sm.new hll).trans S3))
    obtain ⟨e0, he0⟩ : ∃ e0 : EntH, e0 = .sp s0 wy := ⟨_, rfl⟩
    have eok0 : e0.Ok Pl.spans.length sts := by rw [he0]; exact ⟨a2, b2, hwy⟩
    refine ⟨_, rfl, _, rfl, by show 2 ≤ sizeLine; decide, fun t ht => ⟨by show 1 ≤ sizeLine; decide, fun R hR => ?_⟩⟩
    try simp only [List.set_cons_zero, List.set_cons_succ]
    have awR := (F3.new (o := .tup [.int s0, .int wy]) ht).away hR
    have F4 := (F3.new (o := .tup [.int s0, .int wy]) ht).new (o := .lst [.ref t]) hR
    have S04 : Sm f H (upd (upd H3 t (.tup [.int s0, .int wy])) R (.lst [.ref t])) := S03.trans ((Sm.new ht).trans (Sm.new hR))
    have hR0 : H R = none := hF.free (F3.new (o := .tup [.int s0, .int wy]) ht) (S03.trans (Sm.new ht)) hR
    have hR4 : (upd (upd H3 t (.tup [.int s0, .int wy])) R (.lst [.ref t])) R = some (.lst [.ref t]) := upd_same
    have ht4 : (upd (upd H3 t (.tup [.int s0, .int wy])) R (.lst [.ref t])) t = some (.tup e0.vs) := by rw [he0]; exact Same.new hR _ _ upd_same
    revert F4 S04 hR4 ht4
    generalize upd (upd H3 t (.tup [.int s0, .int wy])) R (.lst [.ref t]) = H4
    intro F4 S04 hR4 ht4
    have tk4 := hF.tk S04
    refine ⟨_, rfl, _, rfl, _, rfl, R, _, _, _, rfl, rfl, SqL.of hR4, pickN (by decide) rfl, _, st, t, Pl, sts, e0, rfl, dx.tk tk4 (noL_plan _), tk4 _ _ hst, (fun z hz => by have := hsr z hz; omega), ht4, eok0, by omega, fun qe H5 S5 hqe => ?_⟩
    refine ⟨qe, _, rfl, SqT.of hqe, rfl, _, _, rfl, _, _, rfl, rfl, ?_⟩
    try simp only [List.set_cons_zero, List.set_cons_succ]
    have F5 := F4.same S5
    obtain ⟨bg, hbg⟩ : ∃ bg, bg = e0.src Pl.spans := ⟨_, rfl⟩
    have hends0 := endsH_in hin hsr eok0
    rw [← hbg] at hends0 ⊢
    refine ⟨_, rfl, _, rfl, f, c, _, rfl, by omega, by omega, F5, fun n H6 a6 b6 F6 S6 => ⟨_, rfl, by omega, by omega, ?_⟩⟩
    have S06 : Sm f H H6 := S04.trans ((Sm.same S5).trans S6)
    refine for_range (lo := 0) (n := n.toNat) (fun i σ H7 => ∃ (here : Int) (rx : List V) (rr : List EntH) (o7 o10 : Option V), σ = [some (.ref f), some (.ref p), some (.ref st), some (.int most), some (.int s0), some (.int wy), some (.ref R), o7, some (.int bg), some (.int here), o10] ∧ FeedAt H7 f c ∧ Sm f H H7 ∧ H7 R = some (.lst rx) ∧ DVs K H7 rx (rr.map EntH.d) ∧ rr.length = i + 1 ∧ (∀ e ∈ rr, e.Ok Pl.spans.length sts) ∧ WalkE Pl.spans bg rr here ∧ 0 ≤ here ∧ here < works ∧ ∃ e : EntH, e.Ok Pl.spans.length sts ∧ e.src Pl.spans = here)
      ⟨_, [.ref t], [e0], _, _, rfl, F6, S06, S6 R _ awR.1 (S5 _ _ hR4), .cons (at_entH ((F5.tk S6) _ _ (S5 _ _ ht4))) .nil, rfl, fun e he => by rw [List.mem_singleton.mp he]; exact eok0, by rw [hbg]; exact walkE_one e0, hends0.2.1, hends0.2.2, e0.turn, turnH_ok eok0, turnH_src eok0⟩ ?_ ?_
    · rintro i σ H7 hi ⟨here, rx, rr, o7, o10, rfl, F7, S7, hR7, dv7, hrl, hok7, wk7, hh0, hh1, ex, hex, hexs⟩
      have tk7 := hF.tk S7
      have hrxl : rx.length = rr.length := by rw [dv7.length, List.length_map]
      refine ⟨_, rfl, _, rfl, _, rfl, _, st, Pl, sts, here, rfl, dx.tk tk7 (noL_plan _), tk7 _ _ hst, by omega, hsl, fun q es0 es H8 S8 hq0 hq dve hes hel => ?_⟩
      try simp only [List.set_cons_zero, List.set_cons_succ]
      have hqR : q ≠ R := fun z => by subst z; rw [hR7] at hq0; cases hq0
      have F8 := F7.same S8
      have hqf : q ≠ f := by obtain ⟨kvs, e⟩ := F8.some; exact ne_of hq e (by intro z; cases z)
      have hesl : es0.length = es.length := by rw [dve.length, List.length_map]
      have hespos : 0 < es.length := List.length_pos_of_mem ((hes ex).mpr ⟨hex, hexs⟩)
      refine ⟨_, rfl, .inl ⟨rfl, _, SqL.of (S8 _ _ hR7)⟩, _, rfl, _, rfl, _, rfl, q, _, rfl, .inl (SqL.of hq), f, c, _, rfl, by omega, by omega, F8, fun z H9 z0 z1 F9 S9 => ?_⟩
      have hz : z.toNat < es.length := by omega
      obtain ⟨ea, hea, heat⟩ := entsH_get dve hz
      obtain ⟨heok, hesrc⟩ := (hes _).mp (List.getElem_mem hz)
      revert hea heat heok hesrc
      generalize es[z.toNat] = e
      intro hea heat heok hesrc
      have S79 : Sm f H7 H9 := (Sm.same S8).trans S9
      have hR9 := S79 R _ awR.1 hR7
      refine ⟨q, _, _, _, rfl, rfl, SqL.of (S9 q _ hqf hq), pickN z0 hea, R, _, _, rfl, rfl, hR9, by rw [hrxl]; exact Nat.lt_of_le_of_lt (show rr.length ≤ 100 by omega) (by decide), ?_⟩
      have tk9 : TK H9 (upd H9 R (.lst (rx ++ [.ref ea]))) := TK.updL hR9
      have F10 : FeedAt (upd H9 R (.lst (rx ++ [.ref ea]))) f c := F9.off awR.1 awR.2
      have S10 : Sm f H (upd H9 R (.lst (rx ++ [.ref ea]))) := (S7.trans S79).acc hR0
      have hR10 : (upd H9 R (.lst (rx ++ [.ref ea]))) R = some (.lst (rx ++ [.ref ea])) := upd_same
      have hea10 : (upd H9 R (.lst (rx ++ [.ref ea]))) ea = some (.tup e.vs) := tk9 _ _ ((F8.tk S9) _ _ heat)
      have dv10 : DVs K (upd H9 R (.lst (rx ++ [.ref ea]))) (rx ++ [.ref ea]) ((rr ++ [e]).map EntH.d) := by
        rw [List.map_append]
        exact (dv7.tk ((F7.tk S79).trans tk9) (noLs_entsH _)).append (.cons (at_entH hea10) .nil)
      revert F10 S10 hR10 hea10 dv10
      generalize upd H9 R (.lst (rx ++ [.ref ea])) = H10
      intro F10 S10 hR10 hea10 dv10
      have tk10 := hF.tk S10
      refine ⟨_, rfl, _, rfl, _, rfl, _, rfl, R, _, _, _, rfl, rfl, SqL.of hR10, atI_last _ _, _, st, ea, Pl, sts, e, rfl, dx.tk tk10 (noL_plan _), tk10 _ _ hst, (fun z hz => by have := hsr z hz; omega), hea10, heok, by omega, fun qe2 H11 S11 hqe2 => ?_⟩
      refine ⟨qe2, _, _, _, rfl, rfl, SqT.of hqe2, pickN (by decide) rfl, ?_⟩
      obtain ⟨_, hd0, hd1⟩ := endsH_in hin hsr heok
      refine ⟨_, _, rr ++ [e], _, _, rfl, F10.same S11, S10.trans (Sm.same S11), S11 _ _ hR10, dv10.same S11, by rw [List.length_append, hrl]; rfl, fun e' he' => ?_, wk7.append (by rw [← hesrc]; exact walkE_one e), hd0, hd1, e.turn, turnH_ok heok, turnH_src heok⟩
      rcases List.mem_append.mp he' with y | y
      · exact hok7 e' y
      · rw [List.mem_singleton.mp y]; exact heok
    · rintro σ H7 ⟨here, rx, rr, o7, o10, rfl, F7, S7, hR7, dv7, hrl, hok7, wk7, hh0, hh1, ex, hex, hexs⟩
      have tk7 := hF.tk S7
      have hrxl : rx.length = rr.length := by rw [dv7.length, List.length_map]
      refine ⟨_, rfl, _, rfl, _, rfl, _, rfl, _, rfl, _, st, Pl, sts, here, bg, works, backH rr, rfl, dx.tk tk7 (noL_plan _), tk7 _ _ hst, hsr, hsl, hl, hin, hw8, hh0, hh1, hends0.1.1, hends0.1.2, wk7.back hok7, backH_ok hok7, fun q ys r2 H8 S8 hq dv8 wk8 hok8 hl8 => ?_⟩
      have hyl : ys.length = r2.length := by rw [dv8.length, List.length_map]
      refine ⟨R, q, _, _, rfl, rfl, S8 _ _ hR7, hq, Nat.le_trans (show _ ≤ 100 by omega) (by decide), fun p2 hp2 => ⟨p2, _, rfl, .inl ⟨SqL.of upd_same, fun l2 hl2 => ?_⟩⟩⟩
      refine k l2 (rr ++ r2) _ (((F7.same S8).new hp2).new hl2) ((S7.trans (Sm.same S8)).trans ((Sm.new hp2).trans (Sm.new hl2))) ?_ (fun e he => ?_) (by rw [List.length_append]; omega) (by rw [List.length_append]; omega)
      · refine .tup upd_same ?_
        rw [List.map_append]
        exact ((dv7.same (S8.trans (Same.new hp2))).same (Same.new hl2)).append ((dv8.same (Same.new hp2)).same (Same.new hl2))
      · rcases List.mem_append.mp he with y | y
        · exact hok7 e y
        · exact hok8 e y
end

section
variable {P : Program} {w : World} {K : PySem.W.Frag} {mg : Str → Option Value} {base : Heap}
theorem sc_law_turned_ring : FnScope ["_law_feed_here", "_law_ring_here", "_law_at", "_law_back", "_law_entry"] ["_law_feed_here", "_law_ring_here"] (defScope s_law_turned_ring) := ⟨rfl, rfl, rfl, by decide +kernel, rfl, by decide +kernel, by decide +kernel⟩
theorem ok_law_turned_ring {f : Addr} {fd : FuncData} (F : Fun K "_law_turned_ring" "_law_turned_ring" s_law_turned_ring f fd) (T : Txt mg) (D_law_draw : Def P w K mg base 1 "_law_draw" ["_law_feed_here", "_law_many"] sp_draw) : FnOk P w K mg base CX0 2 f fd ["_law_feed_here", "_law_ring_here"] (sp_turned8 K) := by
  refine F.ok sc_law_turned_ring (fun vs H Q E h => ?_) (fun cdv A outer s H vs Q E hr h => ?_)
  · obtain ⟨f, c, q, r, n, sts, rfl, _⟩ := h
    rfl
  · obtain ⟨f, c, q, r, n, sts, rfl, hF, dq, hok, hr0, hr30, k⟩ := h
    obtain ⟨qa, xs, hqe, hq, rr⟩ := entsH_at dq
    cases hqe
    have hxl : xs.length = r.length := by rw [rr.length, List.length_map]
    refine ⟨_, (@pss_cons _ _ _ _ _ (@ps_set _ _ 2 _ _ _ _ sc_law_turned_ring.nd rfl (Or.inl rfl) (@pe_own _ _ _ _ _ _ _ _ _ _ D_law_draw (hr.mono (by decide)) rfl (@pa_name _ _ _ _ _ _ (@pv _ 0 _ _ rfl (Or.inl rfl) (by decide) (by decide)) (@pa_call _ _ _ _ _ _ _ _ (@pe_callB _ _ _ _ _ _ _ _ _ call_len_seq rfl T.n_len PySem.boot_len (@pa_name _ _ _ _ _ _ (@pv _ 1 _ _ rfl (Or.inl rfl) (by decide) (by decide)) (@pa_nil _)) (by decide) (by decide) (by rfl) (by rfl)) (@pa_nil _))) (by decide) (by rfl) (by rfl)) (by rfl) (by first | exact Or.inl rfl | exact Or.inr rfl | assumption)) (@pss_cons _ _ _ _ _ (@ps_set _ _ 1 _ _ _ _ sc_law_turned_ring.nd rfl (Or.inl rfl) (@pe_op _ _ _ _ _ _ _ _ op_catG (@pe_slice _ _ _ _ _ _ _ _ _ _ sl_tupG (@pv _ 1 _ _ rfl (Or.inl rfl) (by decide) (by decide)) (@po_some _ _ _ (@pv _ 2 _ _ rfl (Or.inl rfl) (by decide) (by decide))) (@po_none _)) (@pe_slice _ _ _ _ _ _ _ _ _ _ sl_tupG (@pv _ 1 _ _ rfl (Or.inl rfl) (by decide) (by decide)) (@po_none _) (@po_some _ _ _ (@pv _ 2 _ _ rfl (Or.inl rfl) (by decide) (by decide))))) (by rfl) (by first | exact Or.inl rfl | exact Or.inr rfl | assumption)) (@pss_cons _ _ _ _ _ (@ps_if _ _ _ _ _ _ _ _ (@pt_cmpR _ _ _ _ _ _ _ _ op_eq (@pe_own _ _ _ _ _ _ _ _ _ _ D_law_draw (hr.mono (by decide)) rfl (@pa_name _ _ _ _ _ _ (@pv _ 0 _ _ rfl (Or.inl rfl) (by decide) (by decide)) (@pa_const _ _ _ _ _ _ _ (@pe_int _ _ _ _) (@pa_nil _))) (by decide) (by rfl) (by rfl)) (@pe_int _ _ _ _) (nomark _)) (@pss_cons _ _ _ _ _ (@ps_set _ _ 3 _ _ _ _ sc_law_turned_ring.nd rfl (Or.inl rfl) (@pe_lst _ _ _ _ (@pa_nil _)) (by rfl) (by first | exact Or.inl rfl | exact Or.inr rfl | assumption)) (@pss_cons _ _ _ _ _ (@ps_for _ _ _ _ _ _ _ _ PassesOwn.never rfl (@pi_tup _ _ _ _ (@pe_revT _ _ _ _ _ _ _ (@pv _ 1 _ _ rfl (Or.inl rfl) (by decide) (by decide)) (@pe_un _ _ _ _ _ _ un_neg (@pe_int _ _ _ _)))) (@pg_name _ _ 4 _ sc_law_turned_ring.nd rfl (Or.inl rfl) (by first | exact Or.inl rfl | exact Or.inr rfl | assumption)) (@pss_one _ _ _ (@ps_expr _ _ _ _ (@pe_bm _ _ _ _ _ _ _ _ _ _ _ _ PySem.F.plainAttrs_list PySem.F.slot_list_append PySem.F.type_list_append mt_append (@pv _ 3 _ _ rfl (Or.inl rfl) (by decide) (by decide)) (@pa_ife _ _ _ _ _ _ _ _ (@pe_ifExp _ _ _ _ _ _ _ _ (@pt_cmpR _ _ _ _ _ _ _ _ op_eq (@pe_callB _ _ _ _ _ _ _ _ _ call_len_seq rfl T.n_len PySem.boot_len (@pa_name _ _ _ _ _ _ (@pv _ 4 _ _ rfl (Or.inl rfl) (by decide) (by decide)) (@pa_nil _)) (by decide) (by decide) (by rfl) (by rfl)) (@pe_int _ _ _ _) (nomark _)) (@pe_tup _ _ _ _ _ (@pa_sub _ _ _ _ _ _ _ (@pe_ix _ _ _ _ _ _ _ ix_tup (@pv _ 4 _ _ rfl (Or.inl rfl) (by decide) (by decide)) (@pe_int _ _ _ _) (fun _ _ => rfl)) (@pa_sub _ _ _ _ _ _ _ (@pe_ix _ _ _ _ _ _ _ ix_tup (@pv _ 4 _ _ rfl (Or.inl rfl) (by decide) (by decide)) (@pe_int _ _ _ _) (fun _ _ => rfl)) (@pa_sub _ _ _ _ _ _ _ (@pe_ix _ _ _ _ _ _ _ ix_tup (@pv _ 4 _ _ rfl (Or.inl rfl) (by decide) (by decide)) (@pe_int _ _ _ _) (fun _ _ => rfl)) (@pa_nil _))))) (@pe_tup _ _ _ _ _ (@pa_sub _ _ _ _ _ _ _ (@pe_ix _ _ _ _ _ _ _ ix_tup (@pv _ 4 _ _ rfl (Or.inl rfl) (by decide) (by decide)) (@pe_int _ _ _ _) (fun _ _ => rfl)) (@pa_bin _ _ _ _ _ _ _ _ (@pe_op _ _ _ _ _ _ _ _ op_sub (@pe_int _ _ _ _) (@pe_ix _ _ _ _ _ _ _ ix_tup (@pv _ 4 _ _ rfl (Or.inl rfl) (by decide) (by decide)) (@pe_int _ _ _ _) (fun _ _ => rfl))) (@pa_nil _))))) (@pa_nil _)) (by rfl) (by rfl) (by rfl) (by rfl) (by rfl)) (by rfl))) (by intro _ ; rfl)) (@pss_one _ _ _ (@ps_set _ _ 1 _ _ _ _ sc_law_turned_ring.nd rfl (Or.inl rfl) (@pe_callTy _ _ _ _ _ _ _ _ _ call_tuple_of rfl T.n_tuple PyProof.Rows.boot_tuple (@pa_name _ _ _ _ _ _ (@pv _ 3 _ _ rfl (Or.inl rfl) (by decide) (by decide)) (@pa_nil _)) (by decide) (by decide) (by rfl) (by rfl)) (by rfl) (by first | exact Or.inl rfl | exact Or.inr rfl | assumption))))) (@pss_nil _)) (@pss_one _ _ _ (@ps_ret _ _ _ _ (@pv _ 1 _ _ rfl (Or.inl rfl) (by decide) (by decide))))))), ?_⟩
    refine ⟨_, rfl, _, rfl, q, _, rfl, .inr (SqT.of hq), f, c, _, rfl, by omega, by omega, hF, fun at_ H1 a1 b1 F1 S1 => ?_⟩
    rw [hxl] at b1
    try simp only [List.set_cons_zero, List.set_cons_succ]
    have T1 := hF.tk S1
    refine ⟨_, rfl, _, rfl, _, rfl, slG_of (T1 _ _ hq) fun ra H2 S2 hra => ?_⟩
    rw [cut_from a1 (by omega)] at hra
    refine ⟨_, rfl, _, rfl, _, rfl, slG_of (S2 _ _ (T1 _ _ hq)) fun rb H3 S3 hrb => ?_⟩
    rw [cut_to a1 (by omega)] at hrb
    refine catG_of (S3 _ _ hra) hrb (by rw [List.length_drop, List.length_take]; exact Nat.le_trans (show _ ≤ 100 by omega) (by decide)) fun rc H4 S4 hrc => ?_
    try simp only [List.set_cons_zero, List.set_cons_succ]
    have S14 := S2.trans (S3.trans S4)
    obtain ⟨r2, hr2⟩ : ∃ r2, r2 = r.drop at_.toNat ++ r.take at_.toNat := ⟨_, rfl⟩
    have dv4 : DVs K H4 (xs.drop at_.toNat ++ xs.take at_.toNat) (r2.map EntH.d) := by
      rw [hr2, List.map_append, List.map_drop, List.map_take]
      have rr4 := (rr.tk T1 (noLs_entsH _)).same S14
      exact (rr4.drop _).append (rr4.take _)
    have hok2 : ∀ e ∈ r2, e.Ok n sts := fun e he => by
      rw [hr2] at he
      rcases List.mem_append.mp he with y | y
      · exact hok e (List.mem_of_mem_drop y)
      · exact hok e (List.mem_of_mem_take y)
    have hl2 : r2.length = r.length := by rw [hr2, List.length_append, List.length_drop, List.length_take]; omega
    clear hr2
    revert dv4 hrc
    generalize xs.drop at_.toNat ++ xs.take at_.toNat = ys
    intro hrc dv4
    have hyl : ys.length = r2.length := by rw [dv4.length, List.length_map]
    have F4 := F1.same S14
    have S04 : Sm f H H4 := S1.trans (Sm.same S14)
    refine ⟨_, rfl, f, c, _, rfl, by decide, by decide, F4, fun r5 H5 a5 b5 F5 S5 => ?_⟩
    have T5 := F4.tk S5
    refine ⟨rfl, _, rfl, ?_⟩
    refine ite2 (fun _ => ?_) (fun _ => ?_)
    · refine ⟨by show 0 ≤ sizeLine; decide, fun L hL => ?_⟩
      try simp only [List.set_cons_zero, List.set_cons_succ]
      have awL := F5.away hL
      have hL0 : H L = none := hF.free F5 (S04.trans S5) hL
      have S6 : Same H5 (upd H5 L (.lst [])) := Same.new hL
      have hL6 : (upd H5 L (.lst [])) L = some (.lst []) := upd_same
      revert S6 hL6
      generalize upd H5 L (.lst []) = H6
      intro S6 hL6
      refine ⟨_, rfl, _, rfl, rc, ys, rfl, SqT.of (S6 _ _ (T5 _ _ hrc)), rfl, fun rv hrv => ⟨rv, rfl, ⟨_, SqT.of upd_same⟩, ?_⟩⟩
      have hLrv : L ≠ rv := ne_of_none hL6 hrv
      have rrv : DVs K (upd H6 rv (.tup ys.reverse)) ys.reverse (r2.reverse.map EntH.d) := by
        have := dvs_turn (((dv4.tk T5 (noLs_entsH _)).same S6).same (Same.new (o := .tup ys.reverse) hrv))
        rwa [← List.map_reverse] at this
      have S7 : Same H5 (upd H6 rv (.tup ys.reverse)) := S6.trans (Same.new hrv)
      have hL7 : (upd H6 rv (.tup ys.reverse)) L = some (.lst []) := Same.new hrv _ _ hL6
      have hrv7 : (upd H6 rv (.tup ys.reverse)) rv = some (.tup ys.reverse) := upd_same
      revert S7 rrv hrv7 hL7
      generalize upd H6 rv (.tup ys.reverse) = H7
      intro rrv S7 hL7 hrv7
      have S07 : Sm f H H7 := (S04.trans S5).trans (Sm.same S7)
      refine for_tup (xs := ys.reverse) (fun i σ H8 => (∃ o, σ = [some (.ref f), some (.ref rc), some (.int at_), some (.ref L), o]) ∧ FeedAt H8 f c ∧ Sm f H H8 ∧ TK H7 H8 ∧ ∃ zs, H8 L = some (.lst zs) ∧ DVs K H8 zs (((r2.reverse.take i).map EntH.turn).map EntH.d) ∧ zs.length = i)
        ⟨⟨_, rfl⟩, F5.same S7, S07, TK.refl _, [], hL7, .nil, rfl⟩ (fun i σ H8 _ ⟨_, _, _, t, _⟩ => SqT.of (t _ _ hrv7)) ?_ ?_
      · rintro i x' σ H8 hx ⟨⟨o, rfl⟩, F8, S8, T8, zs, hL8, dv8, hzl⟩
        obtain ⟨hi, ea, rfl, hea⟩ := entsH_item rrv hx
        have htk : r2.reverse.take (i + 1) = r2.reverse.take i ++ [r2.reverse[i]] := by rw [List.take_succ, List.getElem?_eq_getElem hi]; rfl
        have hi30 : i < 30 := by rw [List.length_reverse] at hi; omega
        revert htk hea
        generalize r2.reverse[i] = e
        intro hea htk
        have hea8 := T8 _ _ hea
        have fin : ∀ t, H8 t = none → ∀ z, z = e.turn.vs → (upd (upd H8 t (.tup z)) L (.lst (zs ++ [.ref t]))) t = some (.tup e.turn.vs) ∧ FeedAt (upd (upd H8 t (.tup z)) L (.lst (zs ++ [.ref t]))) f c ∧ Sm f H (upd (upd H8 t (.tup z)) L (.lst (zs ++ [.ref t]))) ∧ TK H7 (upd (upd H8 t (.tup z)) L (.lst (zs ++ [.ref t]))) ∧ DVs K (upd (upd H8 t (.tup z)) L (.lst (zs ++ [.ref t]))) (zs ++ [.ref t]) (((r2.reverse.take (i + 1)).map EntH.turn).map EntH.d) := by
          rintro t ht _ rfl
          have htL : t ≠ L := fun y => by subst y; rw [hL8] at ht; cases ht
          have hLt := Same.new (o := .tup e.turn.vs) ht _ _ hL8
          have h1 : (upd (upd H8 t (.tup e.turn.vs)) L (.lst (zs ++ [.ref t]))) t = some (.tup e.turn.vs) := by rw [upd_ne htL]; exact upd_same
          refine ⟨h1, (F8.new ht).off awL.1 awL.2, (S8.trans (Sm.new ht)).acc hL0, T8.trans ((TK.new ht).trans (TK.updL hLt)), ?_⟩
          rw [htk, List.map_append, List.map_append]
          exact (dv8.tk ((TK.new ht).trans (TK.updL hLt)) (noLs_entsH _)).append (.cons (at_entH h1) .nil)
        cases e with
        | sp s w =>
          refine ⟨_, rfl, .inl ⟨rfl, _, SqL.of hL8⟩, ?_⟩
          refine ⟨_, rfl, ea, _, rfl, .inr (SqT.of hea8), rfl, _, rfl, iteDF (fun z => absurd (V.int.inj z) (show ¬ (2 : Int) = 3 by decide)) ?_⟩
          refine ⟨_, rfl, ea, _, _, _, rfl, rfl, SqT.of hea8, pickN (by decide) rfl, _, rfl, ea, _, _, _, rfl, rfl, SqT.of hea8, pickN (by decide) rfl, _, _, rfl, rfl, by show 2 ≤ sizeLine; decide, fun t ht => ?_⟩
          obtain ⟨g1, g2, g3, g4, g5⟩ := fin t ht _ rfl
          refine ⟨L, zs, _, rfl, rfl, Same.new ht _ _ hL8, by rw [hzl]; exact Nat.lt_of_lt_of_le hi30 (by decide), ?_⟩
          exact ⟨⟨_, rfl⟩, g2, g3, g4, _, upd_same, g5, by rw [List.length_append, hzl]; rfl⟩
        | hm u v =>
          refine ⟨_, rfl, .inl ⟨rfl, _, SqL.of hL8⟩, ?_⟩
          refine ⟨_, rfl, ea, _, rfl, .inr (SqT.of hea8), rfl, _, rfl, iteDT rfl ?_⟩
          refine ⟨_, rfl, ea, _, _, _, rfl, rfl, SqT.of hea8, pickN (by decide) rfl, _, rfl, ea, _, _, _, rfl, rfl, SqT.of hea8, pickN (by decide) rfl, _, rfl, ea, _, _, _, rfl, rfl, SqT.of hea8, pickN (by decide) rfl, by show 3 ≤ sizeLine; decide, fun t ht => ?_⟩
          obtain ⟨g1, g2, g3, g4, g5⟩ := fin t ht _ rfl
          refine ⟨L, zs, _, rfl, rfl, Same.new ht _ _ hL8, by rw [hzl]; exact Nat.lt_of_lt_of_le hi30 (by decide), ?_⟩
          exact ⟨⟨_, rfl⟩, g2, g3, g4, _, upd_same, g5, by rw [List.length_append, hzl]; rfl⟩
      · rintro σ H8 ⟨⟨o, rfl⟩, F8, S8, T8, zs, hL8, dv8, hzl⟩
        rw [List.length_reverse, List.take_of_length_le (by rw [List.length_reverse]; omega)] at dv8
        refine ⟨_, rfl, L, _, rfl, .inl ⟨SqL.of hL8, fun l hl => ?_⟩⟩
        try simp only [List.set_cons_zero, List.set_cons_succ]
        refine ⟨_, rfl, ?_⟩
        refine k l (backH r2) _ (F8.new hl) (S8.trans (Sm.new hl)) (.tup upd_same (dv8.tk (TK.new hl) (noLs_entsH _))) (backH_ok hok2) ?_
        rw [backH, List.length_map, List.length_reverse, hl2]
    · refine ⟨_, rfl, ?_⟩
      exact k rc r2 H5 F5 (S04.trans S5) (.tup (T5 _ _ hrc) (dv4.tk T5 (noLs_entsH _))) hok2 hl2
theorem sc_law_stays : FnScope ["_law_feed_here", "_law_works", "_law_some"] ["_law_feed_here", "_law_works"] (defScope s_law_stays) := ⟨rfl, rfl, rfl, by decide +kernel, rfl, by decide +kernel, by decide +kernel⟩
theorem ok_law_stays {f : Addr} {fd : FuncData} (F : Fun K "_law_stays" "_law_stays" s_law_stays f fd) (T : Txt mg) (D_law_draw : Def P w K mg base 1 "_law_draw" ["_law_feed_here", "_law_many"] sp_draw) : FnOk P w K mg base CX0 2 f fd ["_law_feed_here", "_law_works"] sp_stays8 := by
  refine F.ok sc_law_stays (fun vs H Q E h => ?_) (fun cdv A outer s H vs Q E hr h => ?_)
  · obtain ⟨f, c, works, rfl, _⟩ := h
    rfl
  · obtain ⟨f, c, works, rfl, hF, hw0, hw8, k⟩ := h
    refine ⟨_, (@pss_cons _ _ _ _ _ (@ps_lc _ ["_law_work", "_law_feed_here"] [none, (some 0)] _ _ _ _ _ _ _ _ _ _ _ _ 2 _ sc_law_stays.nd rfl rfl rfl (@CScope.of _ _ _ _ rfl) (@pi_range1 _ _ _ _ _ _ rfl T.n_range (@pa_name _ _ _ _ _ _ (@pv _ 1 _ _ rfl (Or.inl rfl) (by decide) (by decide)) (@pa_nil _)) (by rfl)) (fun _ _ _ _ _ => (@pgc _ _ _ _ _ _ _ _ 0 _ _ (by decide) rfl rfl)) (fun _ _ _ _ _ => (@pif_one _ _ _ (@pt_cmpR _ _ _ _ _ _ _ _ op_eq (@pe_own _ _ _ _ _ _ _ _ _ _ D_law_draw (hr.mono (by decide)) (glc rfl) (@pa_name _ _ _ _ _ _ (@pvc _ _ _ _ _ _ _ _ 1 _ _ (by rfl) (by first | exact Or.inl rfl | exact Or.inr rfl) (by decide) (by decide)) (@pa_const _ _ _ _ _ _ _ (@pe_int _ _ _ _) (@pa_nil _))) (by decide) (by rfl) (by rfl)) (@pe_int _ _ _ _) (nomark _)))) (fun _ _ _ _ _ => (@pvc _ _ _ _ _ _ _ _ 0 _ _ (by rfl) (by first | exact Or.inl rfl | exact Or.inr rfl) (by decide) (by decide))) rfl (by intro _ ; rfl)) (@pss_one _ _ _ (@ps_ret _ _ _ _ (@pe_callTy _ _ _ _ _ _ _ _ _ call_tuple_of rfl T.n_tuple PyProof.Rows.boot_tuple (@pa_sub _ _ _ _ _ _ _ (@pe_ix _ _ _ _ _ _ _ ix_list (@pe_lst _ _ _ _ (@pa_tup _ _ _ _ _ _ _ (@pe_tup _ _ _ _ _ (@pa_nil _)) (@pa_name _ _ _ _ _ _ (@pv _ 2 _ _ rfl (Or.inl rfl) (by decide) (by decide)) (@pa_name _ _ _ _ _ _ (@pv _ 2 _ _ rfl (Or.inl rfl) (by decide) (by decide)) (@pa_call _ _ _ _ _ _ _ _ (@pe_listRange _ _ _ _ _ _ _ rfl rfl T.n_list rfl T.n_range (@pa_name _ _ _ _ _ _ (@pv _ 1 _ _ rfl (Or.inl rfl) (by decide) (by decide)) (@pa_nil _)) (by rfl) (by rfl)) (@pa_nil _)))))) (@pe_own _ _ _ _ _ _ _ _ _ _ D_law_draw (hr.mono (by decide)) rfl (@pa_name _ _ _ _ _ _ (@pv _ 0 _ _ rfl (Or.inr (Or.inl rfl)) (by decide) (by decide)) (@pa_const _ _ _ _ _ _ _ (@pe_int _ _ _ _) (@pa_nil _))) (by decide) (by rfl) (by rfl)) (fun _ _ => rfl)) (@pa_nil _)) (by decide) (by decide) (by rfl) (by rfl))))), ?_⟩
    refine ⟨_, rfl, _, rfl, by omega, by omega, fun D hD => ?_⟩
    have awD := hF.away hD
    refine lc_range 1 [some (.ref f)]
      (fun i ys H3 => FeedAt H3 f c ∧ Sm f H H3 ∧ H3 D = some (.lst ys) ∧ ∃ zs : List Int, ys = zs.map V.int ∧ zs.length ≤ i ∧ ∀ z ∈ zs, 0 ≤ z ∧ z < i)
      rfl ⟨hF.new hD, Sm.new hD, upd_same, [], rfl, Nat.le_refl _, fun _ h => (nomatch h)⟩ ?_ ?_
    · rintro i ys H3 os hi ho ⟨F3, S3, hD3, zs, rfl, hzl, hz⟩
      obtain ⟨o, rfl⟩ := os1 ho
      refine ⟨_, rfl, f, c, _, rfl, by decide, by decide, F3, fun r4 H4 a4 b4 F4 S4 => ?_⟩
      have hD4 := S4 D _ awD.1 hD3
      refine ⟨rfl, _, rfl, ite2 (fun _ => ?_) (fun _ => ?_)⟩
      · refine ⟨_, rfl, LcN.mk (os := [some (.int (0 + (i : Int)))]) hi hD4 (by rw [List.length_map]; exact Nat.lt_of_le_of_lt hzl (Nat.lt_of_lt_of_le hi (Nat.le_trans (show works.toNat ≤ 8 by omega) (by decide)))) rfl rfl ?_⟩
        refine ⟨F4.off awD.1 awD.2, (S3.trans S4).acc hD, upd_same, zs ++ [0 + (i : Int)], by rw [List.map_append]; rfl, by rw [List.length_append]; simp; omega, fun z hz' => ?_⟩
        rcases List.mem_append.mp hz' with y | y
        · have := hz z y; omega
        · rw [List.mem_singleton.mp y]; omega
      · refine LcS.mk (os := [some (.int (0 + (i : Int)))]) hi rfl rfl ⟨F4, S3.trans S4, hD4, zs, rfl, by omega, fun z hz' => ?_⟩
        have := hz z hz'; omega
    rintro ys H3 ⟨F3, S3, hD3, zs, rfl, hzl, hz⟩
    try simp only [List.set_cons_zero, List.set_cons_succ]
    refine ⟨by show 0 ≤ sizeLine; decide, fun t0 ht0 => ⟨_, rfl, _, rfl, _, rfl, _, rfl, by omega, by omega, fun lr hlr => ⟨by show 4 ≤ sizeLine; decide, fun l4 hl4 => ?_⟩⟩⟩
    try simp only [List.set_cons_zero, List.set_cons_succ]
    have F4 := ((F3.new (o := .tup []) ht0).new hlr).new (o := .lst [.ref t0, .ref D, .ref D, .ref lr]) hl4
    have S4 : Sm f H3 _ := ((Sm.new (o := .tup []) ht0).trans (Sm.new hlr)).trans (Sm.new (o := .lst [.ref t0, .ref D, .ref D, .ref lr]) hl4)
    have awl := ((F3.new (o := .tup []) ht0).new hlr).away hl4
    have awr := (F3.new (o := .tup []) ht0).away hlr
    have Sn : Same H3 _ := ((Same.new (o := .tup []) ht0).trans (Same.new hlr)).trans (Same.new (o := .lst [.ref t0, .ref D, .ref D, .ref lr]) hl4)
    refine ⟨_, rfl, f, c, _, rfl, by decide, by decide, F4, fun r5 H5 a5 b5 F5 S5 => ?_⟩
    have hD5 := S5 D _ awD.1 (Sn _ _ hD3)
    have ht5 : H5 t0 = some (.tup []) := (F4.tk S5) _ _ (Same.new hl4 _ _ (Same.new hlr _ _ upd_same))
    have hlr5 := S5 lr _ awr.1 (Same.new hl4 _ _ upd_same)
    have hl45 := S5 l4 _ awl.1 upd_same
    have S05 : Sm f H H5 := S3.trans (S4.trans S5)
    obtain ⟨v, hv, a, sts, rfl, hst, hsr, hsl⟩ := pickI (xs := [.ref t0, .ref D, .ref D, .ref lr]) (fun v => ∃ (a : Addr) (sts : List Int), v = .ref a ∧ (H5 a = some (.lst (sts.map V.int)) ∨ H5 a = some (.tup (sts.map V.int))) ∧ (∀ z ∈ sts, 0 ≤ z ∧ z < works) ∧ sts.length ≤ 8) a5 b5 (by
      intro x hx
      simp only [List.mem_cons, List.not_mem_nil, or_false] at hx
      have hDs : ∀ z ∈ zs, 0 ≤ z ∧ z < works := fun z y => by have := hz z y; omega
      rcases hx with rfl | rfl | rfl | rfl
      · exact ⟨_, [], rfl, .inr ht5, fun _ h => (nomatch h), by simp⟩
      · exact ⟨_, zs, rfl, .inl hD5, hDs, by omega⟩
      · exact ⟨_, zs, rfl, .inl hD5, hDs, by omega⟩
      · refine ⟨_, (List.range works.toNat).map fun k : Nat => (k : Int), rfl, .inl ?_, fun z y => ?_, by rw [List.length_map, List.length_range]; omega⟩
        · rw [hlr5, List.map_map]
          rfl
        · obtain ⟨j, hj, rfl⟩ := List.mem_map.mp y
          have := List.mem_range.mp hj
          omega)
    refine ⟨l4, _, _, _, rfl, rfl, SqL.of hl45, hv, ?_⟩
    rcases hst with hst | hst
    · refine ⟨a, _, rfl, .inl ⟨SqL.of hst, fun l hl => ?_⟩⟩
      exact k l sts _ (F5.new hl) (S05.trans (Sm.new hl)) upd_same hsr hsl
    · refine ⟨a, _, rfl, .inr ⟨SqT.of hst, ?_⟩⟩
      exact k a sts _ F5 S05 hst hsr hsl
theorem p35 : (10 : Int) ^ (35 : Int).toNat = 100000000000000000000000000000000000 := by decide
theorem sc_law_other_windows : FnScope ["_law_feed_here", "_law_windows_here", "_law_found", "_law_least", "_law_most", "_law_way"] ["_law_feed_here", "_law_windows_here"] (defScope s_law_other_windows) := ⟨rfl, rfl, rfl, by decide +kernel, rfl, by decide +kernel, by decide +kernel⟩
theorem ok_law_other_windows {f : Addr} {fd : FuncData} (F : Fun K "_law_other_windows" "_law_other_windows" s_law_other_windows f fd) (T : Txt mg) (D_law_draw : Def P w K mg base 1 "_law_draw" ["_law_feed_here", "_law_many"] sp_draw) : FnOk P w K mg base CX0 2 f fd ["_law_feed_here", "_law_windows_here"] (sp_others8 K) := by
  refine F.ok sc_law_other_windows (fun vs H Q E h => ?_) (fun cdv A outer s H vs Q E hr h => ?_)
  · obtain ⟨f, c, y, ws, rfl, _⟩ := h
    rfl
  · obtain ⟨f, c, y, ws, rfl, hF, dy, hwl, hws, k⟩ := h
    obtain ⟨wa, us, rfl, hwa, du⟩ := pairs_at dy
    have hul : us.length = ws.length := by rw [du.length, List.length_map]
    have hB : bB8 = 100000000000000000000000000000000000000000 := rfl
    refine ⟨_, (@pss_cons _ _ _ _ _ (@ps_set _ _ 2 _ _ _ _ sc_law_other_windows.nd rfl (Or.inl rfl) (@pe_lst _ _ _ _ (@pa_nil _)) (by rfl) (by first | exact Or.inl rfl | exact Or.inr rfl | assumption)) (@pss_cons _ _ _ _ _ (@ps_for _ _ _ _ _ _ _ _ PassesOwn.never rfl (@pi_tup _ _ _ _ (@pv _ 1 _ _ rfl (Or.inl rfl) (by decide) (by decide))) (@pg_tup _ _ _ _ _ _ rfl (@pgs_cons _ _ _ _ _ (@pg_name _ _ 3 _ sc_law_other_windows.nd rfl (Or.inl rfl) (by first | exact Or.inl rfl | exact Or.inr rfl | assumption)) (@pgs_cons _ _ _ _ _ (@pg_name _ _ 4 _ sc_law_other_windows.nd rfl (Or.inl rfl) (by first | exact Or.inl rfl | exact Or.inr rfl | assumption)) (@pgs_nil _) (by rfl)) (by rfl)) (by rfl) (by rfl)) (@pss_cons _ _ _ _ _ (@ps_set _ _ 5 _ _ _ _ sc_law_other_windows.nd rfl (Or.inl rfl) (@pe_own _ _ _ _ _ _ _ _ _ _ D_law_draw (hr.mono (by decide)) rfl (@pa_name _ _ _ _ _ _ (@pv _ 0 _ _ rfl (Or.inl rfl) (by decide) (by decide)) (@pa_const _ _ _ _ _ _ _ (@pe_int _ _ _ _) (@pa_nil _))) (by decide) (by rfl) (by rfl)) (by rfl) (by first | exact Or.inl rfl | exact Or.inr rfl | assumption)) (@pss_cons _ _ _ _ _ (@ps_if _ _ _ _ _ _ _ _ (@pt_cmpR _ _ _ _ _ _ _ _ op_eq (@pv _ 5 _ _ rfl (Or.inl rfl) (by decide) (by decide)) (@pe_int _ _ _ _) (nomark _)) (@pss_one _ _ _ (@ps_set _ _ 3 _ _ _ _ sc_law_other_windows.nd rfl (Or.inl rfl) (@pe_op _ _ _ _ _ _ _ _ op_add (@pv _ 3 _ _ rfl (Or.inl rfl) (by decide) (by decide)) (@pe_own _ _ _ _ _ _ _ _ _ _ D_law_draw (hr.mono (by decide)) rfl (@pa_name _ _ _ _ _ _ (@pv _ 0 _ _ rfl (Or.inl rfl) (by decide) (by decide)) (@pa_const _ _ _ _ _ _ _ (@pe_int _ _ _ _) (@pa_nil _))) (by decide) (by rfl) (by rfl))) (by rfl) (by first | exact Or.inl rfl | exact Or.inr rfl | assumption))) (@pss_one _ _ _ (@ps_if _ _ _ _ _ _ _ _ (@pt_cmpR _ _ _ _ _ _ _ _ op_eq (@pv _ 5 _ _ rfl (Or.inl rfl) (by decide) (by decide)) (@pe_int _ _ _ _) (nomark _)) (@pss_one _ _ _ (@ps_set _ _ 4 _ _ _ _ sc_law_other_windows.nd rfl (Or.inl rfl) (@pe_op _ _ _ _ _ _ _ _ op_sub (@pv _ 4 _ _ rfl (Or.inl rfl) (by decide) (by decide)) (@pe_own _ _ _ _ _ _ _ _ _ _ D_law_draw (hr.mono (by decide)) rfl (@pa_name _ _ _ _ _ _ (@pv _ 0 _ _ rfl (Or.inl rfl) (by decide) (by decide)) (@pa_const _ _ _ _ _ _ _ (@pe_int _ _ _ _) (@pa_nil _))) (by decide) (by rfl) (by rfl))) (by rfl) (by first | exact Or.inl rfl | exact Or.inr rfl | assumption))) (@pss_one _ _ _ (@ps_if _ _ _ _ _ _ _ _ (@pt_cmpR _ _ _ _ _ _ _ _ op_eq (@pv _ 5 _ _ rfl (Or.inl rfl) (by decide) (by decide)) (@pe_int _ _ _ _) (nomark _)) (@pss_cons _ _ _ _ _ (@ps_set _ _ 3 _ _ _ _ sc_law_other_windows.nd rfl (Or.inl rfl) (@pe_op _ _ _ _ _ _ _ _ op_sub (@pe_own _ _ _ _ _ _ _ _ _ _ D_law_draw (hr.mono (by decide)) rfl (@pa_name _ _ _ _ _ _ (@pv _ 0 _ _ rfl (Or.inl rfl) (by decide) (by decide)) (@pa_const _ _ _ _ _ _ _ (@pe_int _ _ _ _) (@pa_nil _))) (by decide) (by rfl) (by rfl)) (@pe_int _ _ _ _)) (by rfl) (by first | exact Or.inl rfl | exact Or.inr rfl | assumption)) (@pss_one _ _ _ (@ps_set _ _ 4 _ _ _ _ sc_law_other_windows.nd rfl (Or.inl rfl) (@pe_op _ _ _ _ _ _ _ _ op_sub (@pe_op _ _ _ _ _ _ _ _ op_add (@pv _ 3 _ _ rfl (Or.inl rfl) (by decide) (by decide)) (@pe_own _ _ _ _ _ _ _ _ _ _ D_law_draw (hr.mono (by decide)) rfl (@pa_name _ _ _ _ _ _ (@pv _ 0 _ _ rfl (Or.inl rfl) (by decide) (by decide)) (@pa_const _ _ _ _ _ _ _ (@pe_int _ _ _ _) (@pa_nil _))) (by decide) (by rfl) (by rfl))) (@pe_int _ _ _ _)) (by rfl) (by first | exact Or.inl rfl | exact Or.inr rfl | assumption)))) (@pss_one _ _ _ (@ps_if _ _ _ _ _ _ _ _ (@pt_cmpR _ _ _ _ _ _ _ _ op_eq (@pv _ 5 _ _ rfl (Or.inl rfl) (by decide) (by decide)) (@pe_int _ _ _ _) (nomark _)) (@pss_cons _ _ _ _ _ (@ps_set _ _ 3 _ _ _ _ sc_law_other_windows.nd rfl (Or.inl rfl) (@pe_op _ _ _ _ _ _ _ _ op_mul (@pe_op _ _ _ _ _ _ _ _ op_add (@pe_op _ _ _ _ _ _ _ _ op_mul (@pe_op _ _ _ _ _ _ _ _ op_add (@pe_int _ _ _ _) (@pe_own _ _ _ _ _ _ _ _ _ _ D_law_draw (hr.mono (by decide)) rfl (@pa_name _ _ _ _ _ _ (@pv _ 0 _ _ rfl (Or.inl rfl) (by decide) (by decide)) (@pa_const _ _ _ _ _ _ _ (@pe_int _ _ _ _) (@pa_nil _))) (by decide) (by rfl) (by rfl))) (@pe_op _ _ _ _ _ _ _ _ op_pow (@pe_int _ _ _ _) (@pe_int _ _ _ _))) (@pe_own _ _ _ _ _ _ _ _ _ _ D_law_draw (hr.mono (by decide)) rfl (@pa_name _ _ _ _ _ _ (@pv _ 0 _ _ rfl (Or.inl rfl) (by decide) (by decide)) (@pa_const _ _ _ _ _ _ _ (@pe_int _ _ _ _) (@pa_nil _))) (by decide) (by rfl) (by rfl))) (@pe_op _ _ _ _ _ _ _ _ op_sub (@pe_int _ _ _ _) (@pe_op _ _ _ _ _ _ _ _ op_mul (@pe_int _ _ _ _) (@pe_own _ _ _ _ _ _ _ _ _ _ D_law_draw (hr.mono (by decide)) rfl (@pa_name _ _ _ _ _ _ (@pv _ 0 _ _ rfl (Or.inl rfl) (by decide) (by decide)) (@pa_const _ _ _ _ _ _ _ (@pe_int _ _ _ _) (@pa_nil _))) (by decide) (by rfl) (by rfl))))) (by rfl) (by first | exact Or.inl rfl | exact Or.inr rfl | assumption)) (@pss_one _ _ _ (@ps_set _ _ 4 _ _ _ _ sc_law_other_windows.nd rfl (Or.inl rfl) (@pe_op _ _ _ _ _ _ _ _ op_add (@pv _ 3 _ _ rfl (Or.inl rfl) (by decide) (by decide)) (@pe_own _ _ _ _ _ _ _ _ _ _ D_law_draw (hr.mono (by decide)) rfl (@pa_name _ _ _ _ _ _ (@pv _ 0 _ _ rfl (Or.inl rfl) (by decide) (by decide)) (@pa_const _ _ _ _ _ _ _ (@pe_int _ _ _ _) (@pa_nil _))) (by decide) (by rfl) (by rfl))) (by rfl) (by first | exact Or.inl rfl | exact Or.inr rfl | assumption)))) (@pss_nil _)))))))) (@pss_one _ _ _ (@ps_expr _ _ _ _ (@pe_bm _ _ _ _ _ _ _ _ _ _ _ _ PySem.F.plainAttrs_list PySem.F.slot_list_append PySem.F.type_list_append mt_append (@pv _ 2 _ _ rfl (Or.inl rfl) (by decide) (by decide)) (@pa_tup _ _ _ _ _ _ _ (@pe_tup _ _ _ _ _ (@pa_name _ _ _ _ _ _ (@pv _ 3 _ _ rfl (Or.inl rfl) (by decide) (by decide)) (@pa_name _ _ _ _ _ _ (@pv _ 4 _ _ rfl (Or.inl rfl) (by decide) (by decide)) (@pa_nil _)))) (@pa_nil _)) (by rfl) (by rfl) (by rfl) (by rfl) (by rfl)) (by rfl))))) (by intro _ ; rfl)) (@pss_one _ _ _ (@ps_ret _ _ _ _ (@pe_callTy _ _ _ _ _ _ _ _ _ call_tuple_of rfl T.n_tuple PyProof.Rows.boot_tuple (@pa_name _ _ _ _ _ _ (@pv _ 2 _ _ rfl (Or.inl rfl) (by decide) (by decide)) (@pa_nil _)) (by decide) (by decide) (by rfl) (by rfl)))))), ?_⟩
    refine ⟨by show 0 ≤ sizeLine; decide, fun L hL => ?_⟩
    try simp only [List.set_cons_zero, List.set_cons_succ]
    have awL := hF.away hL
    have s0 : Same H (upd H L (.lst [])) := Same.new hL
    refine ⟨_, rfl, wa, rfl, ⟨_, SqT.of (s0 _ _ hwa)⟩, ?_⟩
    refine for_tup (K := K) (a := wa) (xs := us) (fun i σ H3 => (∃ o3 o4 o5, σ = [some (.ref f), some (.ref wa), some (.ref L), o3, o4, o5]) ∧ FeedAt H3 f c ∧ Sm f H H3 ∧ ∃ (ys : List V) (ws' : List (Int × Int)), H3 L = some (.lst ys) ∧ DVs K H3 ys (ws'.map pairD2) ∧ ws'.length = i ∧ WinOk ws')
      ⟨⟨_, _, _, rfl⟩, hF.new hL, Sm.new hL, [], [], upd_same, .nil, rfl, fun _ h => (nomatch h)⟩ (fun i σ H3 _ ⟨_, _, S, _⟩ => SqT.of (hF.tk S _ _ hwa)) ?_ ?_
    · rintro i v σ H3 hi ⟨⟨o3, o4, o5, rfl⟩, F3, S3, ys, ws', hL3, dv3, hwl', hwr⟩
      obtain ⟨hi', a, rfl, ha⟩ := pairs_item du hi
      have hb0 := hws _ (List.getElem_mem hi')
      have T3 := hF.tk S3
      have hyl : ys.length = i := by rw [dv3.length, List.length_map, hwl']
      revert ha hb0
      generalize ws[i] = p0
      intro ha hb0
      obtain ⟨lo0, hi0⟩ := p0
      dsimp only at ha hb0
      refine ⟨a, _, rfl, SqT.of (T3 _ _ ha), rfl, _, _, rfl, _, _, rfl, rfl, ?_⟩
      try simp only [List.set_cons_zero, List.set_cons_succ]
      refine ⟨_, rfl, f, c, _, rfl, by decide, by decide, F3, fun way H4 a4 b4 F4 S4 => ?_⟩
      try simp only [List.set_cons_zero, List.set_cons_succ]
      refine seq_cut (fun σ' H' => ∃ (lo hi : Int), σ' = [some (.ref f), some (.ref wa), some (.ref L), some (.int lo), some (.int hi), some (.int way)] ∧ (-bB8 ≤ lo ∧ lo ≤ bB8) ∧ (-bB8 ≤ hi ∧ hi ≤ bB8) ∧ FeedAt H' f c ∧ Sm f H4 H') ?_ ?_
      rotate_left
      · intro N hN'
        refine ⟨_, rfl, rfl, _, rfl, ite2 (fun _ => ?_) (fun _ => ?_)⟩
        · refine ⟨_, rfl, _, rfl, f, c, _, rfl, by decide, by decide, F4, fun r6 H6 a6 b6 F6 S6 => ⟨_, _, rfl, rfl, ?_⟩⟩
          exact hN' _ _ ⟨_, _, rfl, by omega, by omega, F6, S6⟩
        refine ⟨_, rfl, rfl, _, rfl, ite2 (fun _ => ?_) (fun _ => ?_)⟩
        · refine ⟨_, rfl, _, rfl, f, c, _, rfl, by decide, by decide, F4, fun r6 H6 a6 b6 F6 S6 => ⟨_, _, rfl, rfl, ?_⟩⟩
          exact hN' _ _ ⟨_, _, rfl, by omega, by omega, F6, S6⟩
        refine ⟨_, rfl, rfl, _, rfl, ite2 (fun _ => ?_) (fun _ => ?_)⟩
        · refine ⟨_, rfl, f, c, _, rfl, by decide, by decide, F4, fun r6 H6 a6 b6 F6 S6 => ⟨_, _, rfl, rfl, ?_⟩⟩
          try simp only [List.set_cons_zero, List.set_cons_succ]
          refine ⟨_, rfl, _, rfl, f, c, _, rfl, by decide, by decide, F6, fun r7 H7 a7 b7 F7 S7 => ⟨_, _, rfl, rfl, _, _, rfl, rfl, ?_⟩⟩
          exact hN' _ _ ⟨_, _, rfl, by omega, by omega, F7, S6.trans S7⟩
        refine ⟨_, rfl, rfl, _, rfl, ite2 (fun _ => ?_) (fun _ => ?_)⟩
        · refine ⟨_, rfl, f, c, _, rfl, by decide, by decide, F4, fun r7 H7 a7 b7 F7 S7 => ⟨_, _, rfl, rfl, _, _, rfl, rfl, ⟨by decide, by decide, by decide⟩, _, _, rfl, rfl, .inl ⟨by omega, by omega⟩, ?_⟩⟩
          refine ⟨_, rfl, f, c, _, rfl, by decide, by decide, F7, fun r8 H8 a8 b8 F8 S8 => ⟨_, _, rfl, rfl, ?_⟩⟩
          refine ⟨_, rfl, f, c, _, rfl, by decide, by decide, F8, fun r9 H9 a9 b9 F9 S9 => ⟨_, _, rfl, rfl, .inl (by decide), _, _, rfl, rfl, _, _, rfl, rfl, .inr ⟨by omega, by omega⟩, ?_⟩⟩
          have hz : -(bB8 - 100) ≤ ((1 + r7) * (10 : Int) ^ (35 : Int).toNat + r8) * (1 - 2 * r9) ∧ ((1 + r7) * (10 : Int) ^ (35 : Int).toNat + r8) * (1 - 2 * r9) ≤ bB8 - 100 := by
            rw [p35]
            have h9 : r9 = 0 ∨ r9 = 1 := by omega
            rcases h9 with h9 | h9 <;> rw [h9] <;> omega
          dsimp only
          revert hz
          generalize ((1 + r7) * (10 : Int) ^ (35 : Int).toNat + r8) * (1 - 2 * r9) = zz
          intro hz
          try simp only [List.set_cons_zero, List.set_cons_succ]
          refine ⟨_, rfl, _, rfl, f, c, _, rfl, by decide, by decide, F9, fun r10 H10 a10 b10 F10 S10 => ⟨_, _, rfl, rfl, ?_⟩⟩
          exact hN' _ _ ⟨_, _, rfl, by omega, by omega, F10, S7.trans (S8.trans (S9.trans S10))⟩
        · exact hN' _ _ ⟨_, _, rfl, by omega, by omega, F4, Sm.refl _ _⟩
      rintro _ H7 ⟨lo, hi, rfl, bl, bh, F7, S7⟩
      have S37 : Sm f H3 H7 := S4.trans S7
      refine ⟨_, rfl, .inl ⟨rfl, _, SqL.of (S37 L _ awL.1 hL3)⟩, _, rfl, _, rfl, by show 2 ≤ sizeLine; decide, fun t8 ht8 => ?_⟩
      have S38 : Sm f H3 (upd H7 t8 (.tup [.int lo, .int hi])) := S37.trans (Sm.new ht8)
      have hL8 := S38 L _ awL.1 hL3
      refine ⟨L, ys, _, rfl, rfl, hL8, by rw [hyl]; exact Nat.lt_of_lt_of_le hi' (Nat.le_trans hwl (by decide)), ?_⟩
      have u := TK.updL (ys := ys ++ [.ref t8]) hL8
      refine ⟨⟨_, _, _, rfl⟩, (F7.new ht8).off awL.1 awL.2, (S3.trans S38).acc hL, _, ws' ++ [(lo, hi)], upd_same, ?_, by rw [List.length_append, hwl']; rfl, fun y hy => ?_⟩
      · rw [List.map_append]
        exact ((dv3.tk (F3.tk S38) (noLs_pairs _)).tk u (noLs_pairs _)).append (.cons (at_pair (p := (lo, hi)) (u t8 _ upd_same)) .nil)
      · rcases List.mem_append.mp hy with z | z
        · exact hwr y z
        · rw [List.mem_singleton.mp z]; exact ⟨bl, bh⟩
    · rintro σ H3 ⟨⟨o3, o4, o5, rfl⟩, F3, S3, ys, ws', hL3, dv3, hwl', hwr⟩
      refine ⟨_, rfl, L, _, rfl, .inl ⟨SqL.of hL3, fun l hl => ?_⟩⟩
      exact k l ws' _ (F3.new hl) (S3.trans (Sm.new hl)) (.tup upd_same (dv3.tk (TK.new hl) (noLs_pairs _))) (by omega) hwr
end

section
variable {P : Program} {w : World} {K : PySem.W.Frag} {mg : Str → Option Value} {base : Heap}
theorem fits_two {a b : Int} (ha : a.natAbs < 2 ^ 1000) (hb : b.natAbs < 2 ^ 1000) : Fits 16000000 60 (pairD2 (a, b)) := by
  refine (Fits.tupLe (n := 1921) (k := 0) (m := 2) (N := 4000) (by simp) (fun d hd => ?_) (by decide)).mono (by decide) (by decide)
  simp only [List.mem_cons, List.not_mem_nil, or_false] at hd
  rcases hd with rfl | rfl
  · exact Fits.int ha
  · exact Fits.int hb
theorem sc_law_right : FnScope ["_law_plan_here", "_law_cycle", "_law_beats_here", "_law_windows_here", "_law_ring_here", "_law_due", "_law_turn", "_law_homes", "_law_named", "_law_others", "_law_found"] ["_law_plan_here", "_law_cycle", "_law_beats_here", "_law_windows_here", "_law_ring_here"] (defScope s_law_right) := ⟨rfl, rfl, rfl, by decide +kernel, rfl, by decide +kernel, by decide +kernel⟩
theorem ok_law_right {f : Addr} {fd : FuncData} (F : Fun K "_law_right" "_law_right" s_law_right f fd) (T : Txt mg) (D_law_sums : Def P w K mg base 1 "_law_sums" ["_law_beats_here", "_law_windows_here", "_law_ring_here"] (sp_lsums8 K)) (D_sums_of : Def P w K mg base 2 "sums_of" ["plan", "period", "beats", "windows", "ring"] (sp_sums_of8 K)) (D_ring_bars : Def P w K mg base 3 "ring_bars" ["plan", "period", "beats", "windows", "ring"] (sp_ring_bars8 K)) (D_law_bars : Def P w K mg base 1 "_law_bars" ["_law_cycle", "_law_sums_here"] sp_bars8) (N_bool : mg "bool" = none) : FnOk P w K mg base CX0 4 f fd ["_law_plan_here", "_law_cycle", "_law_beats_here", "_law_windows_here", "_law_ring_here"] (sp_right8 K) := by
  refine F.ok sc_law_right (fun vs H Q E h => ?_) (fun cdv A outer s H vs Q E hr h => ?_)
  · obtain ⟨pl, x, y, per, b, bs, ws, sts, r, rfl, _⟩ := h
    rfl
  · obtain ⟨pl, x, y, per, b, bs, ws, sts, r, rfl, RH, hr60, hwo, hp, hp2, hbr, hb8, k⟩ := h
    have hsm := sums_small hr60 hwo (fun z hz => by have := hbr z hz; omega) RH.st RH.ok
    obtain ⟨lo, hlo⟩ : ∃ lo, lo = loH bs ws r := ⟨_, rfl⟩
    obtain ⟨hi, hhi⟩ : ∃ hi, hi = hiH bs ws r := ⟨_, rfl⟩
    rw [← hlo, ← hhi] at hsm
    have hft := fits_two hsm.1 hsm.2
    obtain ⟨ra, xs, rfl, hra, dv⟩ := entsH_at RH.dy
    have hxl : xs.length = r.length := by rw [dv.length, List.length_map]
    refine ⟨_, (@pss_cons _ _ _ _ _ (@ps_set _ _ 5 _ _ _ _ sc_law_right.nd rfl (Or.inl rfl) (@pe_own _ _ _ _ _ _ _ _ _ _ D_law_sums (hr.mono (by decide)) rfl (@pa_name _ _ _ _ _ _ (@pv _ 2 _ _ rfl (Or.inr (Or.inl rfl)) (by decide) (by decide)) (@pa_name _ _ _ _ _ _ (@pv _ 3 _ _ rfl (Or.inl rfl) (by decide) (by decide)) (@pa_name _ _ _ _ _ _ (@pv _ 4 _ _ rfl (Or.inl rfl) (by decide) (by decide)) (@pa_nil _)))) (by decide) (by rfl) (by rfl)) (by rfl) (by first | exact Or.inl rfl | exact Or.inr rfl | assumption)) (@pss_cons _ _ _ _ _ (@ps_for _ _ _ _ _ _ _ _ PassesOwn.never rfl (@pi_range1 _ _ _ _ _ _ rfl T.n_range (@pa_const _ _ _ _ _ _ _ (@pe_int _ _ _ _) (@pa_nil _)) (by rfl)) (@pg_name _ _ 6 _ sc_law_right.nd rfl (Or.inl rfl) (by first | exact Or.inl rfl | exact Or.inr rfl | assumption)) (@pss_cons _ _ _ _ _ (@ps_if _ _ _ _ _ _ _ _ (@pt_cmpR _ _ _ _ _ _ _ _ op_ne (@pe_callB _ _ _ _ _ _ _ _ _ (call_reprD hr) rfl T.n_repr boot_repr' (@pa_call _ _ _ _ _ _ _ _ (@pe_own _ _ _ _ _ _ _ _ _ _ D_sums_of (hr.mono (by decide)) rfl (@pa_name _ _ _ _ _ _ (@pv _ 0 _ _ rfl (Or.inl rfl) (by decide) (by decide)) (@pa_name _ _ _ _ _ _ (@pv _ 1 _ _ rfl (Or.inr (Or.inl rfl)) (by decide) (by decide)) (@pa_name _ _ _ _ _ _ (@pv _ 2 _ _ rfl (Or.inr (Or.inl rfl)) (by decide) (by decide)) (@pa_name _ _ _ _ _ _ (@pv _ 3 _ _ rfl (Or.inl rfl) (by decide) (by decide)) (@pa_name _ _ _ _ _ _ (@pv _ 4 _ _ rfl (Or.inl rfl) (by decide) (by decide)) (@pa_nil _)))))) (by decide) (by rfl) (by rfl)) (@pa_nil _)) (by decide) (by decide) (by rfl) (by rfl)) (@pe_callB _ _ _ _ _ _ _ _ _ (call_reprD hr) rfl T.n_repr boot_repr' (@pa_name _ _ _ _ _ _ (@pv _ 5 _ _ rfl (Or.inl rfl) (by decide) (by decide)) (@pa_nil _)) (by decide) (by decide) (by rfl) (by rfl)) (nomark _)) (@pss_one _ _ _ (@ps_ret _ _ _ _ (@pe_bl _ _ _ _))) (@pss_nil _)) (@pss_cons _ _ _ _ _ (@ps_set _ _ 10 _ _ _ _ sc_law_right.nd rfl (Or.inl rfl) (@pe_own _ _ _ _ _ _ _ _ _ _ D_ring_bars (hr.mono (by decide)) rfl (@pa_name _ _ _ _ _ _ (@pv _ 0 _ _ rfl (Or.inl rfl) (by decide) (by decide)) (@pa_name _ _ _ _ _ _ (@pv _ 1 _ _ rfl (Or.inr (Or.inl rfl)) (by decide) (by decide)) (@pa_name _ _ _ _ _ _ (@pv _ 2 _ _ rfl (Or.inr (Or.inl rfl)) (by decide) (by decide)) (@pa_name _ _ _ _ _ _ (@pv _ 3 _ _ rfl (Or.inl rfl) (by decide) (by decide)) (@pa_name _ _ _ _ _ _ (@pv _ 4 _ _ rfl (Or.inl rfl) (by decide) (by decide)) (@pa_nil _)))))) (by decide) (by rfl) (by rfl)) (by rfl) (by first | exact Or.inl rfl | exact Or.inr rfl | assumption)) (@pss_one _ _ _ (@ps_if _ _ _ _ _ _ _ _ (@PW.pt _ _ _ (@pw_or _ _ _ _ _ _ _ (@pt_not _ _ _ _ (@pt_of _ _ _ (@pe_callB _ _ _ _ _ _ _ _ _ call_isinst rfl T.n_isinstance PyProof.Rows.boot_isinstance (@pa_name _ _ _ _ _ _ (@pv _ 10 _ _ rfl (Or.inl rfl) (by decide) (by decide)) (@pa_name _ _ _ _ _ _ (pe_bltn (v := (V.ty "bool")) rfl N_bool PyProof.Rows.boot_bool rfl) (@pa_nil _))) (by decide) (by decide) (by rfl) (by rfl)) (by intro _ ; rfl))) (@pw_or1 _ _ _ _ (@pt_cmpR _ _ _ _ _ _ _ _ op_ne (@pv _ 10 _ _ rfl (Or.inl rfl) (by decide) (by decide)) (@pe_own _ _ _ _ _ _ _ _ _ _ D_law_bars (hr.mono (by decide)) rfl (@pa_name _ _ _ _ _ _ (@pv _ 1 _ _ rfl (Or.inr (Or.inl rfl)) (by decide) (by decide)) (@pa_name _ _ _ _ _ _ (@pv _ 5 _ _ rfl (Or.inl rfl) (by decide) (by decide)) (@pa_nil _))) (by decide) (by rfl) (by rfl)) (nomark _))))) (@pss_one _ _ _ (@ps_ret _ _ _ _ (@pe_bl _ _ _ _))) (@pss_nil _))))) (by intro _ ; rfl)) (@pss_cons _ _ _ _ _ (@ps_lc _ ["_law_entry"] [none] _ _ _ _ _ _ _ _ _ _ _ _ 7 _ sc_law_right.nd rfl rfl rfl (@CScope.of _ _ _ _ rfl) (@pi_tup _ _ _ _ (@pv _ 4 _ _ rfl (Or.inl rfl) (by decide) (by decide))) (fun _ _ _ _ _ => (@pgc _ _ _ _ _ _ _ _ 0 _ _ (by decide) rfl rfl)) (fun _ _ _ _ _ => (@pif_one _ _ _ (@pt_cmpR _ _ _ _ _ _ _ _ op_eq (@pe_callB _ _ _ _ _ _ _ _ _ callc_len_seq (glc rfl) T.n_len PySem.boot_len (@pa_name _ _ _ _ _ _ (@pvc _ _ _ _ _ _ _ _ 0 _ _ (by rfl) (by first | exact Or.inl rfl | exact Or.inr rfl) (by decide) (by decide)) (@pa_nil _)) (by decide) (by decide) (by rfl) (by rfl)) (@pe_int _ _ _ _) (nomark _)))) (fun _ _ _ _ _ => (@pe_slice _ _ _ _ _ _ _ _ _ _ slc_tup (@pvc _ _ _ _ _ _ _ _ 0 _ _ (by rfl) (by first | exact Or.inl rfl | exact Or.inr rfl) (by decide) (by decide)) (@po_some _ _ _ (@pe_int _ _ _ _)) (@po_none _))) rfl (by intro _ ; rfl)) (@pss_cons _ _ _ _ _ (@ps_set _ _ 8 _ _ _ _ sc_law_right.nd rfl (Or.inr rfl) (@pe_op _ _ _ _ _ _ _ _ op_cat (@pe_lc _ ["_law_pair"] [none] _ _ _ _ _ _ _ _ _ _ rfl (@CScope.of _ _ _ _ rfl) (@pi_list _ _ _ _ (@pv _ 7 _ _ rfl (Or.inl rfl) (by decide) (by decide))) (fun _ _ _ _ _ => (@pgc _ _ _ _ _ _ _ _ 0 _ _ (by decide) rfl rfl)) (fun _ _ _ _ _ => pif_nil) (fun _ _ _ _ _ => (@pe_ix _ _ _ _ _ _ _ ixc_tup (@pvc _ _ _ _ _ _ _ _ 0 _ _ (by rfl) (by first | exact Or.inl rfl | exact Or.inr rfl) (by decide) (by decide)) (@pe_int _ _ _ _) (fun _ _ => rfl))) (by intro _ ; rfl)) (@pe_lc _ ["_law_pair"] [none] _ _ _ _ _ _ _ _ _ _ rfl (@CScope.of _ _ _ _ rfl) (@pi_list _ _ _ _ (@pv _ 7 _ _ rfl (Or.inl rfl) (by decide) (by decide))) (fun _ _ _ _ _ => (@pgc _ _ _ _ _ _ _ _ 0 _ _ (by decide) rfl rfl)) (fun _ _ _ _ _ => pif_nil) (fun _ _ _ _ _ => (@pe_ix _ _ _ _ _ _ _ ixc_tup (@pvc _ _ _ _ _ _ _ _ 0 _ _ (by rfl) (by first | exact Or.inl rfl | exact Or.inr rfl) (by decide) (by decide)) (@pe_int _ _ _ _) (fun _ _ => rfl))) (by intro _ ; rfl))) (by rfl) (by first | exact Or.inl rfl | exact Or.inr rfl | assumption)) (@pss_cons _ _ _ _ _ (@ps_set _ _ 9 _ _ _ _ sc_law_right.nd rfl (Or.inl rfl) (@pe_callTy _ _ _ _ _ _ _ _ _ call_tuple_of rfl T.n_tuple PyProof.Rows.boot_tuple (@pa_lc _ _ _ _ _ _ _ _ (@pe_lc _ ["_law_work", "_law_cycle", "_law_beats_here", "_law_named"] [none, (some 1), (some 2), (some 8)] _ _ _ _ _ _ _ _ _ _ rfl (@CScope.of _ _ _ _ rfl) (@pi_range1 _ _ _ _ _ _ rfl T.n_range (@pa_call _ _ _ _ _ _ _ _ (@pe_callB _ _ _ _ _ _ _ _ _ call_len_seq rfl T.n_len PySem.boot_len (@pa_name _ _ _ _ _ _ (@pv _ 2 _ _ rfl (Or.inr (Or.inl rfl)) (by decide) (by decide)) (@pa_nil _)) (by decide) (by decide) (by rfl) (by rfl)) (@pa_nil _)) (by rfl)) (fun _ _ _ _ _ => (@pgc _ _ _ _ _ _ _ _ 0 _ _ (by decide) rfl rfl)) (fun _ _ _ _ _ => pif_nil) (fun _ _ _ _ _ => (@pe_ifExp _ _ _ _ _ _ _ _ (@pt_cmpR _ _ _ _ _ _ _ _ opc_in_seq (@pvc _ _ _ _ _ _ _ _ 0 _ _ (by rfl) (by first | exact Or.inl rfl | exact Or.inr rfl) (by decide) (by decide)) (@pvc _ _ _ _ _ _ _ _ 3 _ _ (by rfl) (by first | exact Or.inl rfl | exact Or.inr rfl) (by decide) (by decide)) rfl) (@pe_ix _ _ _ _ _ _ _ ixc_tup (@pvc _ _ _ _ _ _ _ _ 2 _ _ (by rfl) (by first | exact Or.inl rfl | exact Or.inr rfl) (by decide) (by decide)) (@pvc _ _ _ _ _ _ _ _ 0 _ _ (by rfl) (by first | exact Or.inl rfl | exact Or.inr rfl) (by decide) (by decide)) (fun _ _ => rfl)) (@pe_op _ _ _ _ _ _ _ _ op_mod (@pe_op _ _ _ _ _ _ _ _ op_add (@pe_ix _ _ _ _ _ _ _ ixc_tup (@pvc _ _ _ _ _ _ _ _ 2 _ _ (by rfl) (by first | exact Or.inl rfl | exact Or.inr rfl) (by decide) (by decide)) (@pvc _ _ _ _ _ _ _ _ 0 _ _ (by rfl) (by first | exact Or.inl rfl | exact Or.inr rfl) (by decide) (by decide)) (fun _ _ => rfl)) (@pe_int _ _ _ _)) (@pvc _ _ _ _ _ _ _ _ 1 _ _ (by rfl) (by first | exact Or.inl rfl | exact Or.inr rfl) (by decide) (by decide))))) (by intro _ ; rfl)) (@pa_nil _)) (by decide) (by decide) (by rfl) (by rfl)) (by rfl) (by first | exact Or.inl rfl | exact Or.inr rfl | assumption)) (@pss_one _ _ _ (@ps_ret _ _ _ _ (@pe_cmpR _ _ _ _ _ _ _ _ op_eq (@pe_callB _ _ _ _ _ _ _ _ _ (call_reprD hr) rfl T.n_repr boot_repr' (@pa_call _ _ _ _ _ _ _ _ (@pe_own _ _ _ _ _ _ _ _ _ _ D_sums_of (hr.mono (by decide)) rfl (@pa_name _ _ _ _ _ _ (@pv _ 0 _ _ rfl (Or.inl rfl) (by decide) (by decide)) (@pa_name _ _ _ _ _ _ (@pv _ 1 _ _ rfl (Or.inr (Or.inl rfl)) (by decide) (by decide)) (@pa_name _ _ _ _ _ _ (@pv _ 9 _ _ rfl (Or.inl rfl) (by decide) (by decide)) (@pa_name _ _ _ _ _ _ (@pv _ 3 _ _ rfl (Or.inl rfl) (by decide) (by decide)) (@pa_name _ _ _ _ _ _ (@pv _ 4 _ _ rfl (Or.inl rfl) (by decide) (by decide)) (@pa_nil _)))))) (by decide) (by rfl) (by rfl)) (@pa_nil _)) (by decide) (by decide) (by rfl) (by rfl)) (@pe_callB _ _ _ _ _ _ _ _ _ (call_reprD hr) rfl T.n_repr boot_repr' (@pa_name _ _ _ _ _ _ (@pv _ 5 _ _ rfl (Or.inl rfl) (by decide) (by decide)) (@pa_nil _)) (by decide) (by decide) (by rfl) (by rfl)) (nomark _))))))))), ?_⟩
    refine ⟨_, rfl, _, rfl, _, rfl, x, _, b, bs, ws, sts, r, rfl, RH, fun dq H1 S1 hdq => ?_⟩
    rw [← hlo, ← hhi] at hdq
    try simp only [List.set_cons_zero, List.set_cons_succ]
    refine ⟨_, rfl, by decide, by decide, ?_⟩
    have dd1 : DV K H1 (.ref dq) (pairD2 (lo, hi)) := at_pair (p := (lo, hi)) hdq
    obtain ⟨dd, hdd⟩ : ∃ dd, dd = pairD2 (lo, hi) := ⟨_, rfl⟩
    rw [← hdd] at hft dd1
    refine for_range (lo := 0) (n := (2 : Int).toNat) (fun i σ H2 => (∃ o6 o7 o8 o9 o10, σ = [some pl, some (.int per), some (.ref b), some x, some (.ref ra), some (.ref dq), o6, o7, o8, o9, o10]) ∧ Same H1 H2) ⟨⟨_, _, _, _, _, rfl⟩, Same.refl _⟩ ?_ ?_
    · rintro i σ H2 hi' ⟨⟨o6, o7, o8, o9, o10, rfl⟩, S2⟩
      refine ⟨_, rfl, _, rfl, _, rfl, _, rfl, _, rfl, _, _, x, _, b, bs, ws, sts, r, rfl, RH.same (S1.trans S2), fun q H3 S3 hq => ?_⟩
      rw [← hlo, ← hhi] at hq
      have d3 : DV K H3 (.ref q) dd := by rw [hdd]; exact at_pair (p := (lo, hi)) hq
      refine ⟨_, dd, rfl, d3, hft, _, rfl, _, dd, rfl, dd1.same (S2.trans S3), hft, rfl, _, rfl, iteNS rfl ?_⟩
      refine ⟨_, rfl, _, rfl, _, rfl, _, rfl, _, rfl, pl, x, _, per, b, bs, ws, sts, r, rfl, RH.same (S1.trans (S2.trans S3)), hp, hp2, fun H4 S4 => ?_⟩
      rw [← hlo, ← hhi]
      try simp only [List.set_cons_zero, List.set_cons_succ]
      refine ⟨_, rfl, _, _, _, true, rfl, .bl _, rfl, _, rfl, iteF ?_⟩
      refine ⟨_, rfl, _, rfl, _, rfl, per, lo, hi, dq, rfl, (S2.trans (S3.trans S4)) _ _ hdq, hp, hp2, rfl, _, rfl, iteNS rfl ?_⟩
      exact ⟨⟨_, _, _, _, _, rfl⟩, S2.trans (S3.trans S4)⟩
    · rintro σ H2 ⟨⟨o6, o7, o8, o9, o10, rfl⟩, S2⟩
      have S02 := S1.trans S2
      try simp only [List.set_cons_zero, List.set_cons_succ]
      refine ⟨_, rfl, ra, rfl, ⟨_, SqT.of (S02 _ _ hra)⟩, fun D hD => ?_⟩
      refine lc_tup (K := K) (a := ra) (xs := xs) 1 []
        (fun i ys H3 => Same H2 H3 ∧ H3 D = some (.lst ys) ∧ ∃ hs : List (Int × Int), DVs K H3 ys (hs.map pairD2) ∧ hs.length ≤ i ∧ ∀ a b, EntH.hm a b ∈ r.take i → (a, b) ∈ hs)
        rfl ⟨Same.new hD, upd_same, [], .nil, Nat.le_refl _, fun a b h => by simp at h⟩ (fun i ys H3 _ ⟨h, _⟩ => SqT.of (h _ _ (S02 _ _ hra))) ?_ ?_
      · rintro i v ys H3 os hi1 ho1 ⟨S3, hD3, hs, dv3, hhl, hhs⟩
        obtain ⟨o, rfl⟩ := os1 ho1
        have hi0 : i < xs.length := (List.getElem?_eq_some_iff.mp hi1).1
        obtain ⟨hi', q, rfl, hq⟩ := entsH_item dv hi1
        have htk : r.take (i + 1) = r.take i ++ [r[i]] := by rw [List.take_succ, List.getElem?_eq_getElem hi']; rfl
        have hyl : ys.length = hs.length := by rw [dv3.length, List.length_map]
        have hq3 := S3 _ _ (S02 _ _ hq)
        revert htk hq3
        generalize r[i] = e
        intro htk hq3
        cases e with
        | sp s w =>
          refine ⟨_, rfl, q, _, rfl, .inr (SqT.of hq3), rfl, _, rfl, iteDF (fun z => absurd (V.int.inj z) (show ¬ (2 : Int) = 3 by decide)) ?_⟩
          refine LcS.mk (os := [some (.ref q)]) hi0 rfl rfl ⟨S3, hD3, hs, dv3, by omega, fun a b h => ?_⟩
          rw [htk] at h
          rcases List.mem_append.mp h with z | z
          · exact hhs a b z
          · exact nomatch List.mem_singleton.mp z
        | hm u v =>
          refine ⟨_, rfl, q, _, rfl, .inr (SqT.of hq3), rfl, _, rfl, iteDT rfl ?_⟩
          have hc : ¬ (HT.sIx [V.str "home", .int u, .int v].length 0 (some 1) = 0 ∧ HT.sIx [V.str "home", .int u, .int v].length [V.str "home", .int u, .int v].length none = [V.str "home", .int u, .int v].length) := fun z => by simp [HT.sIx] at z
          refine ⟨_, rfl, _, rfl, q, _, rfl, SqT.of hq3, hc, fun c hc1 => ?_⟩
          have hD4 := Same.new (o := .tup [.int u, .int v]) hc1 _ _ hD3
          refine LcN.mk (os := [some (.ref q)]) hi0 hD4 (by rw [hyl]; exact Nat.lt_of_le_of_lt hhl (Nat.lt_of_lt_of_le hi' (Nat.le_trans hr60 (by decide)))) rfl rfl ?_
          refine ⟨(S3.trans (Same.new hc1)).acc hD, upd_same, hs ++ [(u, v)], ?_, by rw [List.length_append]; simp; omega, fun a b h => ?_⟩
          · rw [List.map_append]
            exact (dv3.tk ((Same.new hc1).tk.trans (TK.updL hD4)) (noLs_pairs _)).append (.cons (at_pair (p := (u, v)) ((TK.updL hD4) c _ upd_same)) .nil)
          · rw [htk] at h
            rcases List.mem_append.mp h with z | z
            · exact List.mem_append_left _ (hhs a b z)
            · have z := List.mem_singleton.mp z
              injection z with z1 z2
              rw [z1, z2]
              exact List.mem_append_right _ (List.mem_singleton.mpr rfl)
      rintro ys H3 ⟨S3, hD3, hs, dv3, hhl, hhs⟩
      rw [hxl, List.take_length] at hhs
      have hyl : ys.length = hs.length := by rw [dv3.length, List.length_map]
      have hh60 : hs.length ≤ 60 := by omega
      try simp only [List.set_cons_zero, List.set_cons_succ]
      refine ⟨_, rfl, D, rfl, ⟨_, SqL.of hD3⟩, fun D1 hD1 => ?_⟩
      refine lc_list (K := K) (a := D) (xs := ys) 1 []
        (fun i zs H4 => Same H3 H4 ∧ H4 D1 = some (.lst zs) ∧ zs = ((hs.take i).map Prod.fst).map V.int)
        rfl ⟨Same.new hD1, upd_same, rfl⟩ (fun i zs H4 _ ⟨h, _⟩ => SqL.of (h _ _ hD3)) ?_ ?_
      · rintro i v zs H4 os hi1 ho1 ⟨S4, hD4, rfl⟩
        obtain ⟨o, rfl⟩ := os1 ho1
        have hi0 : i < ys.length := (List.getElem?_eq_some_iff.mp hi1).1
        obtain ⟨hi', q, rfl, hq⟩ := pairs_item dv3 hi1
        refine noifN ?_
        refine ⟨_, rfl, q, _, _, _, rfl, rfl, SqT.of (S4 _ _ hq), pickN (by decide) rfl, ?_⟩
        refine LcN.mk (os := [some (.ref q)]) hi0 hD4 (by rw [List.length_map, List.length_map, List.length_take]; exact Nat.lt_of_le_of_lt (Nat.min_le_left _ _) (Nat.lt_of_lt_of_le hi' (Nat.le_trans hh60 (by decide)))) rfl rfl ⟨S4.acc hD1, upd_same, ?_⟩
        rw [List.take_succ, List.getElem?_eq_getElem hi', List.map_append, List.map_append]
        rfl
      rintro zs H4 ⟨S4, hD4, rfl⟩
      rw [List.take_of_length_le (by omega)] at hD4
      refine ⟨_, rfl, D, rfl, ⟨_, SqL.of (S4 _ _ hD3)⟩, fun D2 hD2 => ?_⟩
      refine lc_list (K := K) (a := D) (xs := ys) 1 []
        (fun i zs H5 => Same H4 H5 ∧ H5 D2 = some (.lst zs) ∧ zs = ((hs.take i).map Prod.snd).map V.int)
        rfl ⟨Same.new hD2, upd_same, rfl⟩ (fun i zs H5 _ ⟨h, _⟩ => SqL.of (h _ _ (S4 _ _ hD3))) ?_ ?_
      · rintro i v zs H5 os hi1 ho1 ⟨S5, hD5, rfl⟩
        obtain ⟨o, rfl⟩ := os1 ho1
        have hi0 : i < ys.length := (List.getElem?_eq_some_iff.mp hi1).1
        obtain ⟨hi', q, rfl, hq⟩ := pairs_item dv3 hi1
        refine noifN ?_
        refine ⟨_, rfl, q, _, _, _, rfl, rfl, SqT.of (S5 _ _ (S4 _ _ hq)), pickN (by decide) rfl, ?_⟩
        refine LcN.mk (os := [some (.ref q)]) hi0 hD5 (by rw [List.length_map, List.length_map, List.length_take]; exact Nat.lt_of_le_of_lt (Nat.min_le_left _ _) (Nat.lt_of_lt_of_le hi' (Nat.le_trans hh60 (by decide)))) rfl rfl ⟨S5.acc hD2, upd_same, ?_⟩
        rw [List.take_succ, List.getElem?_eq_getElem hi', List.map_append, List.map_append]
        rfl
      rintro zs H5 ⟨S5, hD5, rfl⟩
      rw [List.take_of_length_le (by omega)] at hD5
      refine ⟨D1, D2, _, _, rfl, rfl, S5 _ _ hD4, hD5, Nat.le_trans (show _ ≤ 200 by simp; omega) (by decide), fun N hN => ?_⟩
      try simp only [List.set_cons_zero, List.set_cons_succ]
      obtain ⟨nm, hnm⟩ : ∃ nm : List Int, nm = hs.map Prod.fst ++ hs.map Prod.snd := ⟨_, rfl⟩
      have S6 : Same H (upd H5 N (.lst ((hs.map Prod.fst).map V.int ++ (hs.map Prod.snd).map V.int))) := (S02.trans (S3.trans (S4.trans S5))).trans (Same.new hN)
      have S16 : Same H1 (upd H5 N (.lst ((hs.map Prod.fst).map V.int ++ (hs.map Prod.snd).map V.int))) := (S2.trans (S3.trans (S4.trans S5))).trans (Same.new hN)
      have hN6 : (upd H5 N (.lst ((hs.map Prod.fst).map V.int ++ (hs.map Prod.snd).map V.int))) N = some (.lst (nm.map V.int)) := by rw [hnm, List.map_append]; exact upd_same
      revert S6 S16 hN6
      generalize upd H5 N (.lst ((hs.map Prod.fst).map V.int ++ (hs.map Prod.snd).map V.int)) = H6
      intro S6 S16 hN6
      refine ⟨_, rfl, b, _, rfl, .inr (SqT.of (S6 _ _ RH.hb)), _, rfl, by rw [List.length_map]; omega, by rw [List.length_map]; omega, fun D3 hD3' => ?_⟩
      refine lc_range 1 [some (.int per), some (.ref b), some (.ref N)]
        (fun i zs H7 => Same H6 H7 ∧ H7 D3 = some (.lst zs) ∧ ∃ os : List Int, zs = os.map V.int ∧ os.length = i ∧ ∀ j : Nat, j < i → (j : Int) ∈ nm → os.getD j 0 = bs.getD j 0)
        rfl ⟨Same.new hD3', upd_same, [], rfl, rfl, fun j hj => absurd hj (Nat.not_lt_zero _)⟩ ?_ ?_
      · rintro i zs H7 os hi1 ho1 ⟨S7, hD7, bo, rfl, hbl, hbo⟩
        obtain ⟨o, rfl⟩ := os1 ho1
        have hi' : i < bs.length := by rw [List.length_map] at hi1; omega
        have fin : ∀ z : Int, ((i : Int) ∈ nm → z = bs.getD i 0) → ∃ os : List Int, bo.map V.int ++ [V.int z] = os.map V.int ∧ os.length = i + 1 ∧ ∀ j : Nat, j < i + 1 → (j : Int) ∈ nm → os.getD j 0 = bs.getD j 0 := fun z hz => by
          refine ⟨bo ++ [z], by rw [List.map_append]; rfl, by rw [List.length_append, hbl]; rfl, fun j hj hjn => ?_⟩
          by_cases hji : j < i
          · rw [getD_append_left (by omega)]
            exact hbo j hji hjn
          · have hji : j = i := by omega
            subst hji
            rw [List.getD_eq_getElem?_getD, List.getElem?_append_right (by omega), hbl, Nat.sub_self]
            exact hz hjn
        have hbt : bt bs (0 + (i : Int)) = bs.getD i 0 := by unfold bt; rw [show (0 + (i : Int)).toNat = i by omega]
        refine noifN ?_
        refine ⟨_, rfl, _, rfl, N, _, rfl, .inl (SqL.of (S7 _ _ hN6)), rfl, flat_ints _, _, rfl, ?_⟩
        rw [inV_ints]
        refine ite2 (fun hc => ?_) (fun hc => ?_)
        · refine ⟨_, rfl, _, rfl, b, _, _, _, rfl, rfl, SqT.of (S7 _ _ (S6 _ _ RH.hb)), bt_at (by omega) (by omega), ?_⟩
          refine LcN.mk (os := [some (.int (0 + (i : Int)))]) hi1 hD7 (by rw [List.length_map, hbl]; exact Nat.lt_of_lt_of_le hi' (Nat.le_trans hb8 (by decide))) rfl rfl ⟨S7.acc hD3', upd_same, fin _ fun _ => hbt⟩
        · have hc : ¬ (0 + (i : Int)) ∈ nm := fun z => hc (decide_eq_true z)
          refine ⟨_, rfl, _, rfl, b, _, _, _, rfl, rfl, SqT.of (S7 _ _ (S6 _ _ RH.hb)), bt_at (by omega) (by omega), _, _, rfl, rfl, _, rfl, _, _, rfl, rfl, hp, ?_⟩
          refine LcN.mk (os := [some (.int (0 + (i : Int)))]) hi1 hD7 (by rw [List.length_map, hbl]; exact Nat.lt_of_lt_of_le hi' (Nat.le_trans hb8 (by decide))) rfl rfl ⟨S7.acc hD3', upd_same, fin _ fun z => absurd (by rw [Int.zero_add]; exact z) hc⟩
      rintro zs H7 ⟨S7, hD7, bo, rfl, hbl, hbo⟩
      have hbl : bo.length = bs.length := by rw [hbl, List.length_map]; omega
      refine ⟨D3, _, rfl, .inl ⟨SqL.of hD7, fun ob hob => ?_⟩⟩
      try simp only [List.set_cons_zero, List.set_cons_succ]
      have S8 : Same H6 (upd H7 ob (.tup (bo.map V.int))) := S7.trans (Same.new hob)
      have hob8 : (upd H7 ob (.tup (bo.map V.int))) ob = some (.tup (bo.map V.int)) := upd_same
      revert S8 hob8
      generalize upd H7 ob (.tup (bo.map V.int)) = H8
      intro S8 hob8
      have RH8 := RH.same (S6.trans S8)
      have RH9 : RingH K H8 ob x (.ref ra) bo ws sts r := ⟨hob8, RH8.dx, RH8.dy, RH.ok, by rw [hbl]; exact RH.st, RH.len⟩
      have hsame : ∀ z : Int, 0 ≤ z → z < bs.length → z ∈ nm → bt bo z = bt bs z := fun z h0 h1 hz => by
        have := hbo z.toNat (by rw [List.length_map]; omega) (by rw [Int.toNat_of_nonneg h0]; exact hz)
        exact this
      have hlh := lo_other (bs := bs) (bs' := bo) (ws := ws) (r := r) fun a b' hab => by
        have ho := RH.ok _ hab
        have h1 := RH.st a ho.1
        have h2 := RH.st b' ho.2
        have hm := hhs a b' hab
        refine ⟨hsame a h1.1 h1.2 ?_, hsame b' h2.1 h2.2 ?_⟩
        · rw [hnm]; exact List.mem_append_left _ (List.mem_map.mpr ⟨_, hm, rfl⟩)
        · rw [hnm]; exact List.mem_append_right _ (List.mem_map.mpr ⟨_, hm, rfl⟩)
      refine ⟨_, rfl, _, rfl, _, rfl, _, rfl, _, rfl, _, _, x, _, ob, bo, ws, sts, r, rfl, RH9, fun q H9 S9 hq => ?_⟩
      rw [hlh.1, hlh.2, ← hlo, ← hhi] at hq
      have d9 : DV K H9 (.ref q) dd := by rw [hdd]; exact at_pair (p := (lo, hi)) hq
      refine ⟨_, dd, rfl, d9, hft, _, rfl, _, dd, rfl, dd1.same (S16.trans (S8.trans S9)), hft, rfl, ?_⟩
      rw [decide_eq_true rfl]
      exact k H9 (S6.trans (S8.trans S9))
end

section
variable {P : Program} {w : World} {K : PySem.W.Frag} {mg : Str → Option Value} {base : Heap}
theorem sc_law_number : FnScope ["_law_feed_here", "_law_cycle"] ["_law_feed_here", "_law_cycle"] (defScope s_law_number) := ⟨rfl, rfl, rfl, by decide +kernel, rfl, by decide +kernel, by decide +kernel⟩
theorem ok_law_number {f : Addr} {fd : FuncData} (F : Fun K "_law_number" "_law_number" s_law_number f fd) (T : Txt mg) (D_law_draw : Def P w K mg base 1 "_law_draw" ["_law_feed_here", "_law_many"] sp_draw) : FnOk P w K mg base CX0 2 f fd ["_law_feed_here", "_law_cycle"] sp_number := by
  refine F.ok sc_law_number (fun vs H Q E h => ?_) (fun cdv A outer s H vs Q E hr h => ?_)
  · obtain ⟨f, c, m, rfl, _⟩ := h
    rfl
  · obtain ⟨f, c, m, rfl, hm, hm2, hF, k⟩ := h
    refine ⟨_, (@pss_one _ _ _ (@ps_ret _ _ _ _ (@pe_ix _ _ _ _ _ _ _ ix_list (@pe_lst _ _ _ _ (@pa_const _ _ _ _ _ _ _ (@pe_int _ _ _ _) (@pa_call _ _ _ _ _ _ _ _ (@pe_own _ _ _ _ _ _ _ _ _ _ D_law_draw (hr.mono (by decide)) rfl (@pa_name _ _ _ _ _ _ (@pv _ 0 _ _ rfl (Or.inl rfl) (by decide) (by decide)) (@pa_name _ _ _ _ _ _ (@pv _ 1 _ _ rfl (Or.inl rfl) (by decide) (by decide)) (@pa_nil _))) (by decide) (by rfl) (by rfl)) (@pa_call _ _ _ _ _ _ _ _ (@pe_own _ _ _ _ _ _ _ _ _ _ D_law_draw (hr.mono (by decide)) rfl (@pa_name _ _ _ _ _ _ (@pv _ 0 _ _ rfl (Or.inl rfl) (by decide) (by decide)) (@pa_name _ _ _ _ _ _ (@pv _ 1 _ _ rfl (Or.inl rfl) (by decide) (by decide)) (@pa_nil _))) (by decide) (by rfl) (by rfl)) (@pa_call _ _ _ _ _ _ _ _ (@pe_own _ _ _ _ _ _ _ _ _ _ D_law_draw (hr.mono (by decide)) rfl (@pa_name _ _ _ _ _ _ (@pv _ 0 _ _ rfl (Or.inl rfl) (by decide) (by decide)) (@pa_bin _ _ _ _ _ _ _ _ (@pe_op _ _ _ _ _ _ _ _ op_add (@pe_op _ _ _ _ _ _ _ _ op_mul (@pe_int _ _ _ _) (@pv _ 1 _ _ rfl (Or.inl rfl) (by decide) (by decide))) (@pe_int _ _ _ _)) (@pa_nil _))) (by decide) (by rfl) (by rfl)) (@pa_nil _)))))) (@pe_own _ _ _ _ _ _ _ _ _ _ D_law_draw (hr.mono (by decide)) rfl (@pa_name _ _ _ _ _ _ (@pv _ 0 _ _ rfl (Or.inl rfl) (by decide) (by decide)) (@pa_const _ _ _ _ _ _ _ (@pe_int _ _ _ _) (@pa_nil _))) (by decide) (by rfl) (by rfl)) (fun _ _ => rfl)))), ?_⟩
    refine ⟨_, rfl, _, rfl, f, c, _, rfl, by omega, by omega, hF, fun r1 H1 a1 b1 F1 S1 => ?_⟩
    refine ⟨_, rfl, _, rfl, f, c, _, rfl, by omega, by omega, F1, fun r2 H2 a2 b2 F2 S2 => ?_⟩
    refine ⟨_, rfl, _, rfl, _, _, rfl, rfl, .inl (by decide), _, _, rfl, rfl, f, c, _, rfl, by omega, by omega, F2, fun r3 H3 a3 b3 F3 S3 => ?_⟩
    refine ⟨by show 4 ≤ sizeLine; decide, fun p hp => ?_⟩
    refine ⟨_, rfl, f, c, _, rfl, by decide, by decide, F3.new hp, fun r4 H4 a4 b4 F4 S4 => ?_⟩
    obtain ⟨v, hv, z, rfl, hz1, hz2⟩ := pickI (xs := [.int 0, .int r1, .int r2, .int r3]) (fun v => ∃ z : Int, v = .int z ∧ 0 ≤ z ∧ z ≤ 3 * m) a4 b4 (by
      intro x hx
      simp only [List.mem_cons, List.not_mem_nil, or_false] at hx
      rcases hx with rfl | rfl | rfl | rfl <;> exact ⟨_, rfl, by omega, by omega⟩)
    exact ⟨p, _, _, _, rfl, rfl, SqL.of (S4 p _ (F3.away hp).1 upd_same), hv, k z H4 hz1 hz2 F4 (S1.trans (S2.trans (S3.trans ((Sm.new hp).trans S4))))⟩
theorem sc_law_span : FnScope ["_law_feed_here", "_law_works", "_law_cycle", "_law_low", "_law_wide", "_law_one", "_law_other"] ["_law_feed_here", "_law_works", "_law_cycle"] (defScope s_law_span) := ⟨rfl, rfl, rfl, by decide +kernel, rfl, by decide +kernel, by decide +kernel⟩
theorem ok_law_span {f : Addr} {fd : FuncData} (F : Fun K "_law_span" "_law_span" s_law_span f fd) (T : Txt mg) (D_law_draw : Def P w K mg base 1 "_law_draw" ["_law_feed_here", "_law_many"] sp_draw) (D_law_number : Def P w K mg base 2 "_law_number" ["_law_feed_here", "_law_cycle"] sp_number) : FnOk P w K mg base CX0 3 f fd ["_law_feed_here", "_law_works", "_law_cycle"] sp_span := by
  refine F.ok sc_law_span (fun vs H Q E h => ?_) (fun cdv A outer s H vs Q E hr h => ?_)
  · obtain ⟨f, c, works, m, rfl, _⟩ := h
    rfl
  · obtain ⟨f, c, works, m, rfl, hw, hw2, hm, hm2, hF, k⟩ := h
    refine ⟨_, (@pss_cons _ _ _ _ _ (@ps_par _ _ 5 6 _ _ _ _ _ _ _ _ _ _ _ rfl sc_law_span.nd rfl rfl (by decide) rfl rfl (@pa_call _ _ _ _ _ _ _ _ (@pe_own _ _ _ _ _ _ _ _ _ _ D_law_draw (hr.mono (by decide)) rfl (@pa_name _ _ _ _ _ _ (@pv _ 0 _ _ rfl (Or.inl rfl) (by decide) (by decide)) (@pa_name _ _ _ _ _ _ (@pv _ 1 _ _ rfl (Or.inl rfl) (by decide) (by decide)) (@pa_nil _))) (by decide) (by rfl) (by rfl)) (@pa_call _ _ _ _ _ _ _ _ (@pe_own _ _ _ _ _ _ _ _ _ _ D_law_draw (hr.mono (by decide)) rfl (@pa_name _ _ _ _ _ _ (@pv _ 0 _ _ rfl (Or.inl rfl) (by decide) (by decide)) (@pa_name _ _ _ _ _ _ (@pv _ 1 _ _ rfl (Or.inl rfl) (by decide) (by decide)) (@pa_nil _))) (by decide) (by rfl) (by rfl)) (@pa_nil _))) rfl (by rfl)) (@pss_cons _ _ _ _ _ (@ps_set _ _ 3 _ _ _ _ sc_law_span.nd rfl (Or.inl rfl) (@pe_own _ _ _ _ _ _ _ _ _ _ D_law_number (hr.mono (by decide)) rfl (@pa_name _ _ _ _ _ _ (@pv _ 0 _ _ rfl (Or.inl rfl) (by decide) (by decide)) (@pa_name _ _ _ _ _ _ (@pv _ 2 _ _ rfl (Or.inl rfl) (by decide) (by decide)) (@pa_nil _))) (by decide) (by rfl) (by rfl)) (by rfl) (by first | exact Or.inl rfl | exact Or.inr rfl | assumption)) (@pss_cons _ _ _ _ _ (@ps_if _ _ _ _ _ _ _ _ (@pt_cmpR _ _ _ _ _ _ _ _ op_eq (@pe_own _ _ _ _ _ _ _ _ _ _ D_law_draw (hr.mono (by decide)) rfl (@pa_name _ _ _ _ _ _ (@pv _ 0 _ _ rfl (Or.inl rfl) (by decide) (by decide)) (@pa_const _ _ _ _ _ _ _ (@pe_int _ _ _ _) (@pa_nil _))) (by decide) (by rfl) (by rfl)) (@pe_int _ _ _ _) (nomark _)) (@pss_one _ _ _ (@ps_ret _ _ _ _ (@pe_tup _ _ _ _ _ (@pa_const _ _ _ _ _ _ _ (@pe_str _ _ _ _) (@pa_name _ _ _ _ _ _ (@pv _ 5 _ _ rfl (Or.inl rfl) (by decide) (by decide)) (@pa_name _ _ _ _ _ _ (@pv _ 6 _ _ rfl (Or.inl rfl) (by decide) (by decide)) (@pa_name _ _ _ _ _ _ (@pv _ 3 _ _ rfl (Or.inl rfl) (by decide) (by decide)) (@pa_call _ _ _ _ _ _ _ _ (@pe_own _ _ _ _ _ _ _ _ _ _ D_law_number (hr.mono (by decide)) rfl (@pa_name _ _ _ _ _ _ (@pv _ 0 _ _ rfl (Or.inl rfl) (by decide) (by decide)) (@pa_name _ _ _ _ _ _ (@pv _ 2 _ _ rfl (Or.inl rfl) (by decide) (by decide)) (@pa_nil _))) (by decide) (by rfl) (by rfl)) (@pa_nil _))))))))) (@pss_nil _)) (@pss_cons _ _ _ _ _ (@ps_set _ _ 4 _ _ _ _ sc_law_span.nd rfl (Or.inl rfl) (@pe_ix _ _ _ _ _ _ _ ix_list (@pe_lst _ _ _ _ (@pa_const _ _ _ _ _ _ _ (@pe_int _ _ _ _) (@pa_const _ _ _ _ _ _ _ (@pe_int _ _ _ _) (@pa_const _ _ _ _ _ _ _ (@pe_int _ _ _ _) (@pa_call _ _ _ _ _ _ _ _ (@pe_own _ _ _ _ _ _ _ _ _ _ D_law_draw (hr.mono (by decide)) rfl (@pa_name _ _ _ _ _ _ (@pv _ 0 _ _ rfl (Or.inl rfl) (by decide) (by decide)) (@pa_name _ _ _ _ _ _ (@pv _ 2 _ _ rfl (Or.inl rfl) (by decide) (by decide)) (@pa_nil _))) (by decide) (by rfl) (by rfl)) (@pa_bin _ _ _ _ _ _ _ _ (@pe_op _ _ _ _ _ _ _ _ op_sub (@pv _ 2 _ _ rfl (Or.inl rfl) (by decide) (by decide)) (@pe_int _ _ _ _)) (@pa_bin _ _ _ _ _ _ _ _ (@pe_op _ _ _ _ _ _ _ _ op_add (@pv _ 2 _ _ rfl (Or.inl rfl) (by decide) (by decide)) (@pe_own _ _ _ _ _ _ _ _ _ _ D_law_draw (hr.mono (by decide)) rfl (@pa_name _ _ _ _ _ _ (@pv _ 0 _ _ rfl (Or.inl rfl) (by decide) (by decide)) (@pa_const _ _ _ _ _ _ _ (@pe_int _ _ _ _) (@pa_nil _))) (by decide) (by rfl) (by rfl))) (@pa_nil _)))))))) (@pe_own _ _ _ _ _ _ _ _ _ _ D_law_draw (hr.mono (by decide)) rfl (@pa_name _ _ _ _ _ _ (@pv _ 0 _ _ rfl (Or.inl rfl) (by decide) (by decide)) (@pa_const _ _ _ _ _ _ _ (@pe_int _ _ _ _) (@pa_nil _))) (by decide) (by rfl) (by rfl)) (fun _ _ => rfl)) (by rfl) (by first | exact Or.inl rfl | exact Or.inr rfl | assumption)) (@pss_one _ _ _ (@ps_ret _ _ _ _ (@pe_tup _ _ _ _ _ (@pa_const _ _ _ _ _ _ _ (@pe_str _ _ _ _) (@pa_name _ _ _ _ _ _ (@pv _ 5 _ _ rfl (Or.inl rfl) (by decide) (by decide)) (@pa_name _ _ _ _ _ _ (@pv _ 6 _ _ rfl (Or.inl rfl) (by decide) (by decide)) (@pa_name _ _ _ _ _ _ (@pv _ 3 _ _ rfl (Or.inl rfl) (by decide) (by decide)) (@pa_bin _ _ _ _ _ _ _ _ (@pe_op _ _ _ _ _ _ _ _ op_add (@pv _ 3 _ _ rfl (Or.inl rfl) (by decide) (by decide)) (@pv _ 4 _ _ rfl (Or.inl rfl) (by decide) (by decide))) (@pa_nil _))))))))))))), ?_⟩
    refine ⟨_, rfl, _, rfl, f, c, _, rfl, by omega, by omega, hF, fun one H1 a1 b1 F1 S1 => ⟨_, rfl, _, rfl, f, c, _, rfl, by omega, by omega, F1, fun other H2 a2 b2 F2 S2 => ⟨_, _, rfl, ?_⟩⟩⟩
    refine ⟨_, rfl, _, rfl, f, c, _, rfl, by omega, by omega, F2, fun low H3 a3 b3 F3 S3 => ?_⟩
    refine ⟨_, rfl, f, c, _, rfl, by decide, by decide, F3, fun r H4 a4 b4 F4 S4 => ⟨rfl, _, rfl, ite2 (fun _ => ?_) (fun _ => ?_)⟩⟩
    · refine ⟨_, rfl, _, rfl, _, rfl, _, rfl, _, rfl, f, c, _, rfl, by omega, by omega, F4, fun high H5 a5 b5 F5 S5 => ⟨by show 5 ≤ sizeLine; decide, fun p hp => ?_⟩⟩
      exact k p ⟨true, one, other, low, high⟩ _ (F5.new hp) (S1.trans (S2.trans (S3.trans (S4.trans (S5.trans (Sm.new hp)))))) upd_same ⟨a1, b1, a2, b2, a3, by show low ≤ _; omega, a5, by show high ≤ _; omega⟩
    · refine ⟨_, rfl, _, rfl, f, c, _, rfl, by omega, by omega, F4, fun r1 H5 a5 b5 F5 S5 => ⟨_, rfl, _, _, rfl, rfl, _, rfl, _, rfl, f, c, _, rfl, by decide, by decide, F5, fun r2 H6 a6 b6 F6 S6 => ⟨_, _, rfl, rfl, ?_⟩⟩⟩
      refine ⟨by show 6 ≤ sizeLine; decide, fun p hp => ?_⟩
      refine ⟨_, rfl, f, c, _, rfl, by decide, by decide, F6.new hp, fun r3 H7 a7 b7 F7 S7 => ?_⟩
      obtain ⟨v, hv, z, rfl, hz1, hz2⟩ := pickI (xs := [.int 0, .int 0, .int 1, .int r1, .int (m - 1), .int (m + r2)]) (fun v => ∃ z : Int, v = .int z ∧ 0 ≤ z ∧ z ≤ 20000) a7 b7 (by
        intro x hx
        simp only [List.mem_cons, List.not_mem_nil, or_false] at hx
        rcases hx with rfl | rfl | rfl | rfl | rfl | rfl <;> exact ⟨_, rfl, by omega, by omega⟩)
      refine ⟨p, _, _, _, rfl, rfl, SqL.of (S7 p _ (F6.away hp).1 upd_same), hv, ?_⟩
      refine ⟨_, rfl, _, rfl, _, rfl, _, rfl, _, rfl, _, _, rfl, rfl, by show 5 ≤ sizeLine; decide, fun q hq => ?_⟩
      exact k q ⟨false, one, other, low, low + z⟩ _ (F7.new hq) (S1.trans (S2.trans (S3.trans (S4.trans (S5.trans (S6.trans ((Sm.new hp).trans (S7.trans (Sm.new hq))))))))) upd_same ⟨a1, b1, a2, b2, a3, by show low ≤ _; omega, by show 0 ≤ low + z; omega, by show low + z ≤ _; omega⟩
theorem sc_law_fitting : FnScope ["_law_feed_here", "_law_beats_here", "_law_cycle", "_law_gap", "_law_low", "_law_length", "_law_one", "_law_other"] ["_law_feed_here", "_law_beats_here", "_law_cycle"] (defScope s_law_fitting) := ⟨rfl, rfl, rfl, by decide +kernel, rfl, by decide +kernel, by decide +kernel⟩
theorem ok_law_fitting {f : Addr} {fd : FuncData} (F : Fun K "_law_fitting" "_law_fitting" s_law_fitting f fd) (T : Txt mg) (D_law_draw : Def P w K mg base 1 "_law_draw" ["_law_feed_here", "_law_many"] sp_draw) (D_law_number : Def P w K mg base 2 "_law_number" ["_law_feed_here", "_law_cycle"] sp_number) : FnOk P w K mg base CX0 3 f fd ["_law_feed_here", "_law_beats_here", "_law_cycle"] sp_fitting := by
  refine F.ok sc_law_fitting (fun vs H Q E h => ?_) (fun cdv A outer s H vs Q E hr h => ?_)
  · obtain ⟨f, c, b, bs, m, rfl, _⟩ := h
    rfl
  · obtain ⟨f, c, b, bs, m, rfl, hB, hl1, hl2, hbs, hm, hm2, hF, k⟩ := h
    have hbf : b ≠ f := by obtain ⟨kvs, e⟩ := hF.some; exact ne_of hB e (by intro z; cases z)
    have pk : ∀ r : Int, 0 ≤ r → r < (bs.length : Int) → ∃ v, atI (bs.map V.int) r = some v ∧ ∃ z : Int, v = .int z ∧ 0 ≤ z ∧ z < m := fun r h0 h1 => pickI (fun v => ∃ z : Int, v = .int z ∧ 0 ≤ z ∧ z < m) h0 (by rw [List.length_map]; exact h1) fun x hx => by
      obtain ⟨z, hz, rfl⟩ := List.mem_map.mp hx
      exact ⟨z, rfl, hbs z hz⟩
    refine ⟨_, (@pss_cons _ _ _ _ _ (@ps_par _ _ 6 7 _ _ _ _ _ _ _ _ _ _ _ rfl sc_law_fitting.nd rfl rfl (by decide) rfl rfl (@pa_call _ _ _ _ _ _ _ _ (@pe_own _ _ _ _ _ _ _ _ _ _ D_law_draw (hr.mono (by decide)) rfl (@pa_name _ _ _ _ _ _ (@pv _ 0 _ _ rfl (Or.inl rfl) (by decide) (by decide)) (@pa_call _ _ _ _ _ _ _ _ (@pe_callB _ _ _ _ _ _ _ _ _ call_len_seq rfl T.n_len PySem.boot_len (@pa_name _ _ _ _ _ _ (@pv _ 1 _ _ rfl (Or.inl rfl) (by decide) (by decide)) (@pa_nil _)) (by decide) (by decide) (by rfl) (by rfl)) (@pa_nil _))) (by decide) (by rfl) (by rfl)) (@pa_call _ _ _ _ _ _ _ _ (@pe_own _ _ _ _ _ _ _ _ _ _ D_law_draw (hr.mono (by decide)) rfl (@pa_name _ _ _ _ _ _ (@pv _ 0 _ _ rfl (Or.inl rfl) (by decide) (by decide)) (@pa_call _ _ _ _ _ _ _ _ (@pe_callB _ _ _ _ _ _ _ _ _ call_len_seq rfl T.n_len PySem.boot_len (@pa_name _ _ _ _ _ _ (@pv _ 1 _ _ rfl (Or.inl rfl) (by decide) (by decide)) (@pa_nil _)) (by decide) (by decide) (by rfl) (by rfl)) (@pa_nil _))) (by decide) (by rfl) (by rfl)) (@pa_nil _))) rfl (by rfl)) (@pss_cons _ _ _ _ _ (@ps_set _ _ 3 _ _ _ _ sc_law_fitting.nd rfl (Or.inl rfl) (@pe_op _ _ _ _ _ _ _ _ op_mod (@pe_op _ _ _ _ _ _ _ _ op_sub (@pe_ix _ _ _ _ _ _ _ ix_list (@pv _ 1 _ _ rfl (Or.inl rfl) (by decide) (by decide)) (@pv _ 7 _ _ rfl (Or.inl rfl) (by decide) (by decide)) (fun _ _ => rfl)) (@pe_ix _ _ _ _ _ _ _ ix_list (@pv _ 1 _ _ rfl (Or.inl rfl) (by decide) (by decide)) (@pv _ 6 _ _ rfl (Or.inl rfl) (by decide) (by decide)) (fun _ _ => rfl))) (@pv _ 2 _ _ rfl (Or.inl rfl) (by decide) (by decide))) (by rfl) (by first | exact Or.inl rfl | exact Or.inr rfl | assumption)) (@pss_cons _ _ _ _ _ (@ps_if _ _ _ _ _ _ _ _ (@pt_cmpR _ _ _ _ _ _ _ _ op_eq (@pe_own _ _ _ _ _ _ _ _ _ _ D_law_draw (hr.mono (by decide)) rfl (@pa_name _ _ _ _ _ _ (@pv _ 0 _ _ rfl (Or.inl rfl) (by decide) (by decide)) (@pa_const _ _ _ _ _ _ _ (@pe_int _ _ _ _) (@pa_nil _))) (by decide) (by rfl) (by rfl)) (@pe_int _ _ _ _) (nomark _)) (@pss_one _ _ _ (@ps_ret _ _ _ _ (@pe_tup _ _ _ _ _ (@pa_const _ _ _ _ _ _ _ (@pe_str _ _ _ _) (@pa_name _ _ _ _ _ _ (@pv _ 6 _ _ rfl (Or.inl rfl) (by decide) (by decide)) (@pa_name _ _ _ _ _ _ (@pv _ 7 _ _ rfl (Or.inl rfl) (by decide) (by decide)) (@pa_call _ _ _ _ _ _ _ _ (@pe_own _ _ _ _ _ _ _ _ _ _ D_law_draw (hr.mono (by decide)) rfl (@pa_name _ _ _ _ _ _ (@pv _ 0 _ _ rfl (Or.inl rfl) (by decide) (by decide)) (@pa_bin _ _ _ _ _ _ _ _ (@pe_op _ _ _ _ _ _ _ _ op_add (@pv _ 3 _ _ rfl (Or.inl rfl) (by decide) (by decide)) (@pe_int _ _ _ _)) (@pa_nil _))) (by decide) (by rfl) (by rfl)) (@pa_call _ _ _ _ _ _ _ _ (@pe_own _ _ _ _ _ _ _ _ _ _ D_law_draw (hr.mono (by decide)) rfl (@pa_name _ _ _ _ _ _ (@pv _ 0 _ _ rfl (Or.inl rfl) (by decide) (by decide)) (@pa_bin _ _ _ _ _ _ _ _ (@pe_op _ _ _ _ _ _ _ _ op_add (@pe_op _ _ _ _ _ _ _ _ op_sub (@pv _ 2 _ _ rfl (Or.inl rfl) (by decide) (by decide)) (@pv _ 3 _ _ rfl (Or.inl rfl) (by decide) (by decide))) (@pe_int _ _ _ _)) (@pa_nil _))) (by decide) (by rfl) (by rfl)) (@pa_nil _))))))))) (@pss_nil _)) (@pss_cons _ _ _ _ _ (@ps_set _ _ 4 _ _ _ _ sc_law_fitting.nd rfl (Or.inl rfl) (@pe_own _ _ _ _ _ _ _ _ _ _ D_law_number (hr.mono (by decide)) rfl (@pa_name _ _ _ _ _ _ (@pv _ 0 _ _ rfl (Or.inl rfl) (by decide) (by decide)) (@pa_name _ _ _ _ _ _ (@pv _ 2 _ _ rfl (Or.inl rfl) (by decide) (by decide)) (@pa_nil _))) (by decide) (by rfl) (by rfl)) (by rfl) (by first | exact Or.inl rfl | exact Or.inr rfl | assumption)) (@pss_cons _ _ _ _ _ (@ps_set _ _ 5 _ _ _ _ sc_law_fitting.nd rfl (Or.inl rfl) (@pe_op _ _ _ _ _ _ _ _ op_add (@pv _ 4 _ _ rfl (Or.inl rfl) (by decide) (by decide)) (@pe_op _ _ _ _ _ _ _ _ op_mod (@pe_op _ _ _ _ _ _ _ _ op_sub (@pv _ 3 _ _ rfl (Or.inl rfl) (by decide) (by decide)) (@pv _ 4 _ _ rfl (Or.inl rfl) (by decide) (by decide))) (@pv _ 2 _ _ rfl (Or.inl rfl) (by decide) (by decide)))) (by rfl) (by first | exact Or.inl rfl | exact Or.inr rfl | assumption)) (@pss_one _ _ _ (@ps_ret _ _ _ _ (@pe_tup _ _ _ _ _ (@pa_const _ _ _ _ _ _ _ (@pe_str _ _ _ _) (@pa_name _ _ _ _ _ _ (@pv _ 6 _ _ rfl (Or.inl rfl) (by decide) (by decide)) (@pa_name _ _ _ _ _ _ (@pv _ 7 _ _ rfl (Or.inl rfl) (by decide) (by decide)) (@pa_name _ _ _ _ _ _ (@pv _ 4 _ _ rfl (Or.inl rfl) (by decide) (by decide)) (@pa_bin _ _ _ _ _ _ _ _ (@pe_op _ _ _ _ _ _ _ _ op_add (@pv _ 5 _ _ rfl (Or.inl rfl) (by decide) (by decide)) (@pe_ix _ _ _ _ _ _ _ ix_list (@pe_lst _ _ _ _ (@pa_const _ _ _ _ _ _ _ (@pe_int _ _ _ _) (@pa_const _ _ _ _ _ _ _ (@pe_int _ _ _ _) (@pa_const _ _ _ _ _ _ _ (@pe_int _ _ _ _) (@pa_call _ _ _ _ _ _ _ _ (@pe_own _ _ _ _ _ _ _ _ _ _ D_law_draw (hr.mono (by decide)) rfl (@pa_name _ _ _ _ _ _ (@pv _ 0 _ _ rfl (Or.inl rfl) (by decide) (by decide)) (@pa_name _ _ _ _ _ _ (@pv _ 2 _ _ rfl (Or.inl rfl) (by decide) (by decide)) (@pa_nil _))) (by decide) (by rfl) (by rfl)) (@pa_nil _)))))) (@pe_own _ _ _ _ _ _ _ _ _ _ D_law_draw (hr.mono (by decide)) rfl (@pa_name _ _ _ _ _ _ (@pv _ 0 _ _ rfl (Or.inl rfl) (by decide) (by decide)) (@pa_const _ _ _ _ _ _ _ (@pe_int _ _ _ _) (@pa_nil _))) (by decide) (by rfl) (by rfl)) (fun _ _ => rfl))) (@pa_nil _)))))))))))))), ?_⟩
    refine ⟨_, rfl, _, rfl, b, _, rfl, .inl (SqL.of hB), f, c, _, rfl, by rw [List.length_map]; omega, by rw [List.length_map]; omega, hF, fun one H1 a1 b1 F1 S1 => ?_⟩
    rw [List.length_map] at b1
    have hB1 := S1 b _ hbf hB
    refine ⟨_, rfl, _, rfl, b, _, rfl, .inl (SqL.of hB1), f, c, _, rfl, by rw [List.length_map]; omega, by rw [List.length_map]; omega, F1, fun other H2 a2 b2 F2 S2 => ⟨_, _, rfl, ?_⟩⟩
    rw [List.length_map] at b2
    have hB2 := S2 b _ hbf hB1
    obtain ⟨v1, hv1, z1, rfl, _, _⟩ := pk other a2 b2
    obtain ⟨v2, hv2, z2, rfl, _, _⟩ := pk one a1 b1
    refine ⟨_, rfl, _, rfl, b, _, _, _, rfl, rfl, SqL.of hB2, hv1, _, rfl, _, rfl, b, _, _, _, rfl, rfl, SqL.of hB2, hv2, _, _, rfl, rfl, _, rfl, _, _, rfl, rfl, hm, ?_⟩
    have g1 := Int.emod_nonneg (z1 - z2) (show m ≠ 0 by omega)
    have g2 := Int.emod_lt_of_pos (z1 - z2) hm
    refine ⟨_, rfl, f, c, _, rfl, by decide, by decide, F2, fun r H4 a4 b4 F4 S4 => ⟨rfl, _, rfl, ite2 (fun _ => ?_) (fun _ => ?_)⟩⟩
    · refine ⟨_, rfl, _, rfl, _, rfl, _, rfl, _, _, rfl, rfl, f, c, _, rfl, by omega, by omega, F4, fun low H5 a5 b5 F5 S5 => ?_⟩
      refine ⟨_, rfl, _, rfl, _, rfl, _, _, rfl, rfl, _, _, rfl, rfl, f, c, _, rfl, by omega, by omega, F5, fun high H6 a6 b6 F6 S6 => ⟨by show 5 ≤ sizeLine; decide, fun p hp => ?_⟩⟩
      exact k p ⟨true, one, other, low, high⟩ _ (F6.new hp) (S1.trans (S2.trans (S4.trans (S5.trans (S6.trans (Sm.new hp)))))) upd_same ⟨a1, b1, a2, b2, a5, by show low ≤ _; omega, a6, by show high ≤ _; omega⟩
    · refine ⟨_, rfl, _, rfl, f, c, _, rfl, by omega, by omega, F4, fun low H5 a5 b5 F5 S5 => ?_⟩
      refine ⟨_, rfl, _, rfl, _, rfl, _, _, rfl, rfl, _, rfl, _, _, rfl, rfl, hm, _, _, rfl, rfl, ?_⟩
      have g3 := Int.emod_nonneg ((z1 - z2) % m - low) (show m ≠ 0 by omega)
      have g4 := Int.emod_lt_of_pos ((z1 - z2) % m - low) hm
      refine ⟨_, rfl, _, rfl, _, rfl, _, rfl, _, rfl, _, rfl, f, c, _, rfl, by omega, by omega, F5, fun r1 H6 a6 b6 F6 S6 => ⟨by show 4 ≤ sizeLine; decide, fun p hp => ?_⟩⟩
      refine ⟨_, rfl, f, c, _, rfl, by decide, by decide, F6.new hp, fun r3 H7 a7 b7 F7 S7 => ?_⟩
      obtain ⟨v, hv, z, rfl, hz1, hz2⟩ := pickI (xs := [.int 0, .int 0, .int 1, .int r1]) (fun v => ∃ z : Int, v = .int z ∧ 0 ≤ z ∧ z ≤ 20000) a7 b7 (by
        intro x hx
        simp only [List.mem_cons, List.not_mem_nil, or_false] at hx
        rcases hx with rfl | rfl | rfl | rfl <;> exact ⟨_, rfl, by omega, by omega⟩)
      refine ⟨p, _, _, _, rfl, rfl, SqL.of (S7 p _ (F6.away hp).1 upd_same), hv, _, _, rfl, rfl, by show 5 ≤ sizeLine; decide, fun q hq => ?_⟩
      exact k q ⟨false, one, other, low, low + ((z1 - z2) % m - low) % m + z⟩ _ (F7.new hq) (S1.trans (S2.trans (S4.trans (S5.trans (S6.trans ((Sm.new hp).trans (S7.trans (Sm.new hq)))))))) upd_same ⟨a1, b1, a2, b2, a5, by show low ≤ _; omega, by show 0 ≤ low + _ + z; omega, by show low + _ + z ≤ _; omega⟩
end

section
variable {P : Program} {w : World} {K : PySem.W.Frag} {mg : Str → Option Value} {base : Heap}
theorem sc_law_feed : FnScope ["_law_script"] ["_law_script"] (defScope s_law_feed) := ⟨rfl, rfl, rfl, by decide +kernel, rfl, by decide +kernel, by decide +kernel⟩
theorem ok_law_feed {f : Addr} {fd : FuncData} (F : Fun K "_law_feed" "_law_feed" s_law_feed f fd) (T : Txt mg) : FnOk P w K mg base CX0 1 f fd ["_law_script"] (sp_feed K) := by
  refine F.ok sc_law_feed (fun vs H Q E h => ?_) (fun cdv A outer s H vs Q E hr h => ?_)
  · obtain ⟨a, ns, rfl, _⟩ := h
    rfl
  · obtain ⟨a, ns, rfl, hS, hl, k⟩ := h
    refine ⟨_, (@pss_one _ _ _ (@ps_ret _ _ _ _ (@pe_disp _ _ _ _ _ (pps_cons pe_str (@pe_op _ _ _ _ _ _ _ _ op_cat (@pe_callTy _ _ _ _ _ _ _ _ _ call_list_of rfl T.n_list PyProof.Rows.boot_list (@pa_sub _ _ _ _ _ _ _ (@pe_slice _ _ _ _ _ _ _ _ _ _ sl_list (@pv _ 0 _ _ rfl (Or.inl rfl) (by decide) (by decide)) (@po_none _) (@po_some _ _ _ (@pe_int _ _ _ _))) (@pa_nil _)) (by decide) (by decide) (by rfl) (by rfl)) (@pe_op _ _ _ _ _ _ _ _ op_rep (@pe_lst _ _ _ _ (@pa_const _ _ _ _ _ _ _ (@pe_int _ _ _ _) (@pa_nil _))) (@pe_callTy _ _ _ _ _ _ _ _ _ call_int1 rfl T.n_int PyProof.Rows.boot_int (@pa_cmp _ _ _ _ _ _ _ _ (@pe_cmpR _ _ _ _ _ _ _ _ op_eq (@pe_callB _ _ _ _ _ _ _ _ _ call_len_seq rfl T.n_len PySem.boot_len (@pa_name _ _ _ _ _ _ (@pv _ 0 _ _ rfl (Or.inl rfl) (by decide) (by decide)) (@pa_nil _)) (by decide) (by decide) (by rfl) (by rfl)) (@pe_int _ _ _ _) (nomark _)) (@pa_nil _)) (by decide) (by decide) (by rfl) (by rfl)))) (pps_cons pe_str pe_int (pps_cons pe_str pe_int (pps_cons pe_str pe_int pps_nil)))) rfl rfl (by simp) (by decide)))), ?_⟩
    intro p hp
    have s0 : Same H (upd H p (.dK [])) := Same.new hp
    refine ⟨_, rfl, _, rfl, a, _, rfl, s0.seq hS, fun q hq => ?_⟩
    rw [cut63 hl]
    have s1 := s0.trans (Same.new (o := .lst (ns.map V.int)) hq)
    refine ⟨q, _, rfl, .inl (SqL.of upd_same), fun l hl' => ?_⟩
    have s2 := s1.trans (Same.new (o := .lst (ns.map V.int)) hl')
    refine ⟨by show 1 ≤ sizeLine; decide, fun z hz => ?_⟩
    have s3 := s2.trans (Same.new (o := .lst [.int 0]) hz)
    refine ⟨_, rfl, a, _, rfl, .inl (s3.seq hS), rfl, .inr ⟨_, rfl, ?_⟩⟩
    refine ⟨z, _, _, rfl, rfl, upd_same, by split <;> decide, by split <;> decide, by split <;> decide, fun y hy => ?_⟩
    have s4 := s3.trans (Same.new (o := .lst (List.replicate (if decide (V.int ((ns.map V.int).length : Int) = V.int 0) = true then (1 : Int) else 0).toNat [V.int 0]).flatten) hy)
    have hll : (upd (upd (upd (upd (upd H p (.dK [])) q (.lst (ns.map V.int))) l (.lst (ns.map V.int))) z (.lst [.int 0])) y (.lst (List.replicate (if decide (V.int ((ns.map V.int).length : Int) = V.int 0) = true then (1 : Int) else 0).toNat [V.int 0]).flatten)) l = some (.lst (ns.map V.int)) := by
      rw [upd_ne (ne_of_none (H := upd (upd (upd (upd H p (.dK [])) q (.lst (ns.map V.int))) l (.lst (ns.map V.int))) z (.lst [.int 0])) (o := .lst (ns.map V.int)) (by rw [upd_ne (ne_of_none (H := upd (upd (upd H p (.dK [])) q (.lst (ns.map V.int))) l (.lst (ns.map V.int))) (o := .lst (ns.map V.int)) upd_same hz)]; exact upd_same) hy), upd_ne (ne_of_none (H := upd (upd (upd H p (.dK [])) q (.lst (ns.map V.int))) l (.lst (ns.map V.int))) (o := .lst (ns.map V.int)) upd_same hz)]
      exact upd_same
    obtain ⟨ms, hms, hm1, hm2⟩ : ∃ ms : List Int, ns.map V.int ++ (List.replicate (if decide (V.int ((ns.map V.int).length : Int) = V.int 0) = true then (1 : Int) else 0).toNat [V.int 0]).flatten = ms.map V.int ∧ ms ≠ [] ∧ ms.length ≤ 64 := by
      cases ns with
      | nil => exact ⟨[0], rfl, by simp, by simp⟩
      | cons x r =>
        refine ⟨x :: r, ?_, by simp, by omega⟩
        have : decide (V.int (((x :: r).map V.int).length : Int) = V.int 0) = false := by
          refine decide_eq_false fun e => ?_
          injection e with e
          simp only [List.length_map, List.length_cons] at e
          omega
        rw [this]
        simp
    refine ⟨l, y, _, _, rfl, rfl, hll, upd_same, ?_, fun r hr' => ?_⟩
    · have := congrArg List.length hms
      rw [List.length_append] at this
      rw [this, List.length_map]
      exact Nat.le_trans hm2 (by decide)
    have s5 := s4.trans (Same.new (o := .lst (ns.map V.int ++ (List.replicate (if decide (V.int ((ns.map V.int).length : Int) = V.int 0) = true then (1 : Int) else 0).toNat [V.int 0]).flatten)) hr')
    have hpp : Same (upd H p (.dK [])) (upd (upd (upd (upd (upd (upd H p (.dK [])) q (.lst (ns.map V.int))) l (.lst (ns.map V.int))) z (.lst [.int 0])) y (.lst (List.replicate (if decide (V.int ((ns.map V.int).length : Int) = V.int 0) = true then (1 : Int) else 0).toNat [V.int 0]).flatten)) r (.lst (ns.map V.int ++ (List.replicate (if decide (V.int ((ns.map V.int).length : Int) = V.int 0) = true then (1 : Int) else 0).toNat [V.int 0]).flatten))) :=
      (Same.new hq).trans ((Same.new hl').trans ((Same.new hz).trans ((Same.new hy).trans (Same.new hr'))))
    have hP := hpp p _ upd_same
    refine ⟨hP, fd0 r 0 0 0, rfl, by show 4 ≤ 15; decide, ?_⟩
    rw [merge_fd0]
    have hrp : r ≠ p := (ne_of_none (H := upd (upd (upd (upd (upd H p (.dK [])) q (.lst (ns.map V.int))) l (.lst (ns.map V.int))) z (.lst [.int 0])) y (.lst (List.replicate (if decide (V.int ((ns.map V.int).length : Int) = V.int 0) = true then (1 : Int) else 0).toNat [V.int 0]).flatten)) (o := .dK []) (((Same.new hq).trans ((Same.new hl').trans ((Same.new hz).trans (Same.new hy)))) p _ upd_same) hr').symm
    refine k p r _ ⟨ms, 0, 0, 0, upd_same, ?_, hm1, hm2⟩ fun b o e => ?_
    · rw [upd_ne hrp, upd_same, hms]
    · rw [upd_ne (ne_of_none e hp)]
      exact s5 b o e
end

section
variable {P : Program} {w : World} {K : PySem.W.Frag} {mg : Str → Option Value} {base : Heap}
theorem sc_law_names : FnScope ["_law_feed_here", "_law_many", "_law_some", "_law_first", "_law_step"] ["_law_feed_here", "_law_many"] (defScope s_law_names) := ⟨rfl, rfl, rfl, by decide +kernel, rfl, by decide +kernel, by decide +kernel⟩
theorem ok_law_names {f : Addr} {fd : FuncData} (F : Fun K "_law_names" "_law_names" s_law_names f fd) (T : Txt mg) (D_law_draw : Def P w K mg base 1 "_law_draw" ["_law_feed_here", "_law_many"] sp_draw) : FnOk P w K mg base CX0 2 f fd ["_law_feed_here", "_law_many"] sp_names := by
  refine F.ok sc_law_names (fun vs H Q E h => ?_) (fun cdv A outer s H vs Q E hr h => ?_)
  · obtain ⟨f, c, m, rfl, _⟩ := h
    rfl
  · obtain ⟨f, c, m, rfl, hm, hm2, hF, k⟩ := h
    refine ⟨_, (@pss_cons _ _ _ _ _ (@ps_set _ _ 2 _ _ _ _ sc_law_names.nd rfl (Or.inr rfl) (@pe_lst _ _ _ _ (@pa_const _ _ _ _ _ _ _ (@pe_str _ _ _ _) (@pa_const _ _ _ _ _ _ _ (@pe_str _ _ _ _) (@pa_const _ _ _ _ _ _ _ (@pe_str _ _ _ _) (@pa_const _ _ _ _ _ _ _ (@pe_str _ _ _ _) (@pa_const _ _ _ _ _ _ _ (@pe_str _ _ _ _) (@pa_const _ _ _ _ _ _ _ (@pe_str _ _ _ _) (@pa_const _ _ _ _ _ _ _ (@pe_str _ _ _ _) (@pa_const _ _ _ _ _ _ _ (@pe_str _ _ _ _) (@pa_const _ _ _ _ _ _ _ (@pe_str _ _ _ _) (@pa_const _ _ _ _ _ _ _ (@pe_str _ _ _ _) (@pa_const _ _ _ _ _ _ _ (@pe_str _ _ _ _) (@pa_const _ _ _ _ _ _ _ (@pe_str _ _ _ _) (@pa_const _ _ _ _ _ _ _ (@pe_str _ _ _ _) (@pa_const _ _ _ _ _ _ _ (@pe_str _ _ _ _) (@pa_const _ _ _ _ _ _ _ (@pe_str _ _ _ _) (@pa_nil _))))))))))))))))) (by rfl) (by first | exact Or.inl rfl | exact Or.inr rfl | assumption)) (@pss_cons _ _ _ _ _ (@ps_set _ _ 2 _ _ _ _ sc_law_names.nd rfl (Or.inr rfl) (@pe_op _ _ _ _ _ _ _ _ op_cat (@pv _ 2 _ _ rfl (Or.inr (Or.inl rfl)) (by decide) (by decide)) (@pe_lst _ _ _ _ (@pa_const _ _ _ _ _ _ _ (@pe_str _ _ _ _) (@pa_const _ _ _ _ _ _ _ (@pe_str _ _ _ _) (@pa_nil _))))) (by rfl) (by first | exact Or.inl rfl | exact Or.inr rfl | assumption)) (@pss_cons _ _ _ _ _ (@ps_set _ _ 3 _ _ _ _ sc_law_names.nd rfl (Or.inr rfl) (@pe_own _ _ _ _ _ _ _ _ _ _ D_law_draw (hr.mono (by decide)) rfl (@pa_name _ _ _ _ _ _ (@pv _ 0 _ _ rfl (Or.inl rfl) (by decide) (by decide)) (@pa_const _ _ _ _ _ _ _ (@pe_int _ _ _ _) (@pa_nil _))) (by decide) (by rfl) (by rfl)) (by rfl) (by first | exact Or.inl rfl | exact Or.inr rfl | assumption)) (@pss_cons _ _ _ _ _ (@ps_set _ _ 4 _ _ _ _ sc_law_names.nd rfl (Or.inr rfl) (@pe_op _ _ _ _ _ _ _ _ op_add (@pe_int _ _ _ _) (@pe_own _ _ _ _ _ _ _ _ _ _ D_law_draw (hr.mono (by decide)) rfl (@pa_name _ _ _ _ _ _ (@pv _ 0 _ _ rfl (Or.inl rfl) (by decide) (by decide)) (@pa_const _ _ _ _ _ _ _ (@pe_int _ _ _ _) (@pa_nil _))) (by decide) (by rfl) (by rfl))) (by rfl) (by first | exact Or.inl rfl | exact Or.inr rfl | assumption)) (@pss_one _ _ _ (@ps_ret _ _ _ _ (@pe_callTy _ _ _ _ _ _ _ _ _ call_tuple_of rfl T.n_tuple PyProof.Rows.boot_tuple (@pa_lc _ _ _ _ _ _ _ _ (@pe_lc _ ["_law_k", "_law_some", "_law_first", "_law_step"] [none, (some 2), (some 3), (some 4)] _ _ _ _ _ _ _ _ _ _ rfl (@CScope.of _ _ _ _ rfl) (@pi_range1 _ _ _ _ _ _ rfl T.n_range (@pa_name _ _ _ _ _ _ (@pv _ 1 _ _ rfl (Or.inl rfl) (by decide) (by decide)) (@pa_nil _)) (by rfl)) (fun _ _ _ _ _ => (@pgc _ _ _ _ _ _ _ _ 0 _ _ (by decide) rfl rfl)) (fun _ _ _ _ _ => pif_nil) (fun _ _ _ _ _ => (@pe_ix _ _ _ _ _ _ _ ixc_list (@pvc _ _ _ _ _ _ _ _ 1 _ _ (by rfl) (by first | exact Or.inl rfl | exact Or.inr rfl) (by decide) (by decide)) (@pe_op _ _ _ _ _ _ _ _ op_mod (@pe_op _ _ _ _ _ _ _ _ op_add (@pvc _ _ _ _ _ _ _ _ 2 _ _ (by rfl) (by first | exact Or.inl rfl | exact Or.inr rfl) (by decide) (by decide)) (@pe_op _ _ _ _ _ _ _ _ op_mul (@pvc _ _ _ _ _ _ _ _ 3 _ _ (by rfl) (by first | exact Or.inl rfl | exact Or.inr rfl) (by decide) (by decide)) (@pvc _ _ _ _ _ _ _ _ 0 _ _ (by rfl) (by first | exact Or.inl rfl | exact Or.inr rfl) (by decide) (by decide)))) (@pe_int _ _ _ _)) (fun _ _ => rfl))) (by intro _ ; rfl)) (@pa_nil _)) (by decide) (by decide) (by rfl) (by rfl)))))))), ?_⟩
    refine ⟨by show 15 ≤ sizeLine; decide, fun p hp => ?_⟩
    have F0 := hF.new (o := .lst [.str "a", .str "ab", .str "abc", .str "b", .str "ba", .str "works", .str "span", .str "apart", .str "at", .str "none", .str "hold", .str "zzzzzzzz", .str "z", .str "o", .str "find"]) hp
    refine ⟨_, rfl, by show 2 ≤ sizeLine; decide, fun q hq => ⟨p, q, _, _, rfl, rfl, Same.new hq p _ upd_same, upd_same, by show 17 ≤ sizeLine; decide, fun t ht => ?_⟩⟩
    have F1 := (F0.new (o := .lst [.str "late", .str "n"]) hq).new (o := .lst (nameTable.map V.str)) ht
    have S0 : Sm f H _ := (Sm.new (f := f) (o := .lst [.str "a", .str "ab", .str "abc", .str "b", .str "ba", .str "works", .str "span", .str "apart", .str "at", .str "none", .str "hold", .str "zzzzzzzz", .str "z", .str "o", .str "find"]) hp).trans ((Sm.new (o := .lst [.str "late", .str "n"]) hq).trans (Sm.new (o := .lst (nameTable.map V.str)) ht))
    have htf := ((F0.new (o := .lst [.str "late", .str "n"]) hq).away ht).1
    refine ⟨_, rfl, f, c, _, rfl, by decide, by decide, F1, fun first H1 a1 b1 F2 S1 => ?_⟩
    refine ⟨_, rfl, f, c, _, rfl, by decide, by decide, F2, fun step H2 a2 b2 F3 S2 => ⟨_, _, rfl, rfl, ?_⟩⟩
    have ht2 : H2 t = some (.lst (nameTable.map V.str)) := S2 t _ htf (S1 t _ htf upd_same)
    refine ⟨_, rfl, m, rfl, by omega, by omega, fun D hD => ?_⟩
    have aw := F3.away hD
    refine lc_range 1 [some (.ref t), some (.int first), some (.int (1 + step))]
      (fun i ys H3 => FeedAt H3 f c ∧ Sm f H2 H3 ∧ H3 t = some (.lst (nameTable.map V.str)) ∧ H3 D = some (.lst ys) ∧ ∃ nms : List Str, ys = nms.map V.str ∧ nms.length = i ∧ ∀ x ∈ nms, x ∈ nameTable)
      ?_ ⟨F3.new hD, Sm.new hD, Same.new hD t _ ht2, upd_same, [], rfl, rfl, fun _ h => nomatch h⟩ ?_ ?_
    · rfl
    · rintro i ys H3 os hi ho ⟨F4, S4, h4, hD4, nms, rfl, hn, hx⟩
      obtain ⟨o, rfl⟩ : ∃ o, os = [o] := by
        cases os with
        | nil => cases ho
        | cons o r => cases r with
          | nil => exact ⟨o, rfl⟩
          | cons _ _ => simp at ho
      refine noifN ?_
      have e1 := Int.emod_nonneg (first + (1 + step) * (0 + (i : Int))) (show (17 : Int) ≠ 0 by decide)
      have e2 := Int.emod_lt_of_pos (first + (1 + step) * (0 + (i : Int))) (show (0 : Int) < 17 by decide)
      obtain ⟨v, hv, x, rfl, hxm⟩ := pickI (xs := nameTable.map V.str) (fun v => ∃ x, v = V.str x ∧ x ∈ nameTable) e1 e2 fun y hy => by
        obtain ⟨x, hx, rfl⟩ := List.mem_map.mp hy
        exact ⟨x, rfl, hx⟩
      refine ⟨_, rfl, _, rfl, _, rfl, _, rfl, _, _, rfl, rfl, .inl ⟨by omega, by omega⟩, _, _, rfl, rfl, _, _, rfl, rfl, (by show (0 : Int) < 17; decide), t, _, _, _, rfl, rfl, SqL.of h4, hv, ?_⟩
      refine LcN.mk (os := [some (.int (0 + (i : Int)))]) hi hD4 (by rw [List.length_map, hn]; exact Nat.lt_of_lt_of_le hi (Nat.le_trans (show m.toNat ≤ 1000 by omega) (by decide))) rfl rfl ?_
      refine ⟨F4.off aw.1 aw.2, S4.acc hD, ?_, upd_same, nms ++ [x], by rw [List.map_append]; rfl, by rw [List.length_append, hn]; rfl, fun y hy => ?_⟩
      · rw [upd_ne (ne_of_none ht2 hD)]; exact h4
      · rcases List.mem_append.mp hy with z | z
        · exact hx y z
        · rw [List.mem_singleton.mp z]; exact hxm
    · rintro ys H3 ⟨F4, S4, h4, hD4, nms, rfl, hn, hx⟩
      refine ⟨D, _, rfl, .inl ⟨SqL.of hD4, fun l hl => ?_⟩⟩
      exact k l nms _ (F4.new hl) (S0.trans (S1.trans (S2.trans (S4.trans (Sm.new hl))))) upd_same (by rw [hn]; omega) hx
end

section
variable {P : Program} {w : World} {K : PySem.W.Frag} {mg : Str → Option Value} {base : Heap}
theorem sc_law_plan : FnScope ["_law_feed_here", "_law_works", "_law_most", "_law_cycle", "_law_beats_here", "_law_spans", "_law_k"] ["_law_feed_here", "_law_works", "_law_most", "_law_cycle"] (defScope s_law_plan) := ⟨rfl, rfl, rfl, by decide +kernel, rfl, by decide +kernel, by decide +kernel⟩
theorem ok_law_plan {f : Addr} {fd : FuncData} (F : Fun K "_law_plan" "_law_plan" s_law_plan f fd) (T : Txt mg) (D_law_draw : Def P w K mg base 1 "_law_draw" ["_law_feed_here", "_law_many"] sp_draw)
    (D_law_names : Def P w K mg base 2 "_law_names" ["_law_feed_here", "_law_many"] sp_names) (D_law_span : Def P w K mg base 3 "_law_span" ["_law_feed_here", "_law_works", "_law_cycle"] sp_span)
    (D_law_fitting : Def P w K mg base 3 "_law_fitting" ["_law_feed_here", "_law_beats_here", "_law_cycle"] sp_fitting) : FnOk P w K mg base CX0 4 f fd ["_law_feed_here", "_law_works", "_law_most", "_law_cycle"] (sp_plan K) := by
  refine F.ok sc_law_plan (fun vs H Q E h => ?_) (fun cdv A outer s H vs Q E hr h => ?_)
  · obtain ⟨f, c, works, most, m, rfl, _⟩ := h
    rfl
  · obtain ⟨f, c, works, most, m, rfl, hw, hw2, hmo, hmo2, hm, hm2, hF, k⟩ := h
    refine ⟨_, (@pss_cons _ _ _ _ _ (@ps_lc _ ["_law_k", "_law_feed_here", "_law_cycle"] [none, (some 0), (some 3)] _ _ _ _ _ _ _ _ _ _ _ _ 4 _ sc_law_plan.nd rfl rfl rfl (@CScope.of _ _ _ _ rfl) (@pi_range1 _ _ _ _ _ _ rfl T.n_range (@pa_name _ _ _ _ _ _ (@pv _ 1 _ _ rfl (Or.inl rfl) (by decide) (by decide)) (@pa_nil _)) (by rfl)) (fun _ _ _ _ _ => (@pgc _ _ _ _ _ _ _ _ 0 _ _ (by decide) rfl rfl)) (fun _ _ _ _ _ => pif_nil) (fun _ _ _ _ _ => (@pe_own _ _ _ _ _ _ _ _ _ _ D_law_draw (hr.mono (by decide)) (glc rfl) (@pa_name _ _ _ _ _ _ (@pvc _ _ _ _ _ _ _ _ 1 _ _ (by rfl) (by first | exact Or.inl rfl | exact Or.inr rfl) (by decide) (by decide)) (@pa_name _ _ _ _ _ _ (@pvc _ _ _ _ _ _ _ _ 2 _ _ (by rfl) (by first | exact Or.inl rfl | exact Or.inr rfl) (by decide) (by decide)) (@pa_nil _))) (by decide) (by rfl) (by rfl))) rfl (by intro _ ; rfl)) (@pss_cons _ _ _ _ _ (@ps_set _ _ 5 _ _ _ _ sc_law_plan.nd rfl (Or.inl rfl) (@pe_lst _ _ _ _ (@pa_nil _)) (by rfl) (by first | exact Or.inl rfl | exact Or.inr rfl | assumption)) (@pss_cons _ _ _ _ _ (@ps_for _ _ _ _ _ _ _ _ PassesOwn.never rfl (@pi_range1 _ _ _ _ _ _ rfl T.n_range (@pa_call _ _ _ _ _ _ _ _ (@pe_own _ _ _ _ _ _ _ _ _ _ D_law_draw (hr.mono (by decide)) rfl (@pa_name _ _ _ _ _ _ (@pv _ 0 _ _ rfl (Or.inr (Or.inl rfl)) (by decide) (by decide)) (@pa_bin _ _ _ _ _ _ _ _ (@pe_op _ _ _ _ _ _ _ _ op_add (@pv _ 2 _ _ rfl (Or.inl rfl) (by decide) (by decide)) (@pe_int _ _ _ _)) (@pa_nil _))) (by decide) (by rfl) (by rfl)) (@pa_nil _)) (by rfl)) (@pg_name _ _ 6 _ sc_law_plan.nd rfl (Or.inl rfl) (by first | exact Or.inl rfl | exact Or.inr rfl | assumption)) (@pss_one _ _ _ (@ps_if _ _ _ _ _ _ _ _ (@pt_cmpR _ _ _ _ _ _ _ _ op_gt (@pe_own _ _ _ _ _ _ _ _ _ _ D_law_draw (hr.mono (by decide)) rfl (@pa_name _ _ _ _ _ _ (@pv _ 0 _ _ rfl (Or.inr (Or.inl rfl)) (by decide) (by decide)) (@pa_const _ _ _ _ _ _ _ (@pe_int _ _ _ _) (@pa_nil _))) (by decide) (by rfl) (by rfl)) (@pe_int _ _ _ _) (nomark _)) (@pss_one _ _ _ (@ps_expr _ _ _ _ (@pe_bm _ _ _ _ _ _ _ _ _ _ _ _ PySem.F.plainAttrs_list PySem.F.slot_list_append PySem.F.type_list_append mt_append (@pv _ 5 _ _ rfl (Or.inl rfl) (by decide) (by decide)) (@pa_call _ _ _ _ _ _ _ _ (@pe_own _ _ _ _ _ _ _ _ _ _ D_law_fitting (hr.mono (by decide)) rfl (@pa_name _ _ _ _ _ _ (@pv _ 0 _ _ rfl (Or.inr (Or.inl rfl)) (by decide) (by decide)) (@pa_name _ _ _ _ _ _ (@pv _ 4 _ _ rfl (Or.inl rfl) (by decide) (by decide)) (@pa_name _ _ _ _ _ _ (@pv _ 3 _ _ rfl (Or.inr (Or.inl rfl)) (by decide) (by decide)) (@pa_nil _)))) (by decide) (by rfl) (by rfl)) (@pa_nil _)) (by rfl) (by rfl) (by rfl) (by rfl) (by rfl)) (by rfl))) (@pss_one _ _ _ (@ps_expr _ _ _ _ (@pe_bm _ _ _ _ _ _ _ _ _ _ _ _ PySem.F.plainAttrs_list PySem.F.slot_list_append PySem.F.type_list_append mt_append (@pv _ 5 _ _ rfl (Or.inl rfl) (by decide) (by decide)) (@pa_call _ _ _ _ _ _ _ _ (@pe_own _ _ _ _ _ _ _ _ _ _ D_law_span (hr.mono (by decide)) rfl (@pa_name _ _ _ _ _ _ (@pv _ 0 _ _ rfl (Or.inr (Or.inl rfl)) (by decide) (by decide)) (@pa_name _ _ _ _ _ _ (@pv _ 1 _ _ rfl (Or.inl rfl) (by decide) (by decide)) (@pa_name _ _ _ _ _ _ (@pv _ 3 _ _ rfl (Or.inr (Or.inl rfl)) (by decide) (by decide)) (@pa_nil _)))) (by decide) (by rfl) (by rfl)) (@pa_nil _)) (by rfl) (by rfl) (by rfl) (by rfl) (by rfl)) (by rfl))))) (by intro _ ; rfl)) (@pss_cons _ _ _ _ _ (@ps_if _ _ _ _ _ _ _ _ (@PW.pt _ _ _ (@pw_and _ _ _ _ _ _ _ (@pt_chain _ _ _ _ _ _ _ _ _ _ _ _ op_lt op_lt (@pe_int _ _ _ _) (@pe_callB _ _ _ _ _ _ _ _ _ call_len_seq rfl T.n_len PySem.boot_len (@pa_name _ _ _ _ _ _ (@pv _ 5 _ _ rfl (Or.inl rfl) (by decide) (by decide)) (@pa_nil _)) (by decide) (by decide) (by rfl) (by rfl)) (@pe_int _ _ _ _) (by with_unfolding_all  rfl)) (@pw_and1 _ _ _ _ (@pt_cmpR _ _ _ _ _ _ _ _ op_eq (@pe_own _ _ _ _ _ _ _ _ _ _ D_law_draw (hr.mono (by decide)) rfl (@pa_name _ _ _ _ _ _ (@pv _ 0 _ _ rfl (Or.inr (Or.inl rfl)) (by decide) (by decide)) (@pa_const _ _ _ _ _ _ _ (@pe_int _ _ _ _) (@pa_nil _))) (by decide) (by rfl) (by rfl)) (@pe_int _ _ _ _) (nomark _))))) (@pss_one _ _ _ (@ps_expr _ _ _ _ (@pe_bm _ _ _ _ _ _ _ _ _ _ _ _ PySem.F.plainAttrs_list PySem.F.slot_list_insert PySem.F.type_list_insert mt_insert (@pv _ 5 _ _ rfl (Or.inl rfl) (by decide) (by decide)) (@pa_call _ _ _ _ _ _ _ _ (@pe_own _ _ _ _ _ _ _ _ _ _ D_law_draw (hr.mono (by decide)) rfl (@pa_name _ _ _ _ _ _ (@pv _ 0 _ _ rfl (Or.inr (Or.inl rfl)) (by decide) (by decide)) (@pa_bin _ _ _ _ _ _ _ _ (@pe_op _ _ _ _ _ _ _ _ op_add (@pe_callB _ _ _ _ _ _ _ _ _ call_len_seq rfl T.n_len PySem.boot_len (@pa_name _ _ _ _ _ _ (@pv _ 5 _ _ rfl (Or.inl rfl) (by decide) (by decide)) (@pa_nil _)) (by decide) (by decide) (by rfl) (by rfl)) (@pe_int _ _ _ _)) (@pa_nil _))) (by decide) (by rfl) (by rfl)) (@pa_sub _ _ _ _ _ _ _ (@pe_ix _ _ _ _ _ _ _ ix_list (@pv _ 5 _ _ rfl (Or.inl rfl) (by decide) (by decide)) (@pe_int _ _ _ _) (fun _ _ => rfl)) (@pa_nil _))) (by rfl) (by rfl) (by rfl) (by rfl) (by rfl)) (by rfl))) (@pss_nil _)) (@pss_one _ _ _ (@ps_ret _ _ _ _ (@pe_tup _ _ _ _ _ (@pa_call _ _ _ _ _ _ _ _ (@pe_own _ _ _ _ _ _ _ _ _ _ D_law_names (hr.mono (by decide)) rfl (@pa_name _ _ _ _ _ _ (@pv _ 0 _ _ rfl (Or.inr (Or.inl rfl)) (by decide) (by decide)) (@pa_name _ _ _ _ _ _ (@pv _ 1 _ _ rfl (Or.inl rfl) (by decide) (by decide)) (@pa_nil _))) (by decide) (by rfl) (by rfl)) (@pa_call _ _ _ _ _ _ _ _ (@pe_callTy _ _ _ _ _ _ _ _ _ call_tuple_of rfl T.n_tuple PyProof.Rows.boot_tuple (@pa_name _ _ _ _ _ _ (@pv _ 5 _ _ rfl (Or.inl rfl) (by decide) (by decide)) (@pa_nil _)) (by decide) (by decide) (by rfl) (by rfl)) (@pa_nil _)))))))))), ?_⟩
    refine ⟨_, rfl, works, rfl, by omega, by omega, fun D hD => ?_⟩
    have aw := hF.away hD
    refine lc_range 1 [some (.ref f), some (.int m)]
      (fun i ys H3 => FeedAt H3 f c ∧ Sm f H H3 ∧ H3 D = some (.lst ys) ∧ ∃ bs : List Int, ys = bs.map V.int ∧ bs.length = i ∧ ∀ x ∈ bs, 0 ≤ x ∧ x < m)
      ?_ ⟨hF.new hD, Sm.new hD, upd_same, [], rfl, rfl, fun _ h => nomatch h⟩ ?_ ?_
    · rfl
    · rintro i ys H3 os hi ho ⟨F4, S4, hD4, bs, rfl, hn, hx⟩
      obtain ⟨o, rfl⟩ : ∃ o, os = [o] := by
        cases os with
        | nil => cases ho
        | cons o r => cases r with
          | nil => exact ⟨o, rfl⟩
          | cons _ _ => simp at ho
      refine noifN ?_
      refine ⟨_, rfl, _, rfl, f, c, _, rfl, by omega, by omega, F4, fun r H5 a5 b5 F5 S5 => ?_⟩
      refine LcN.mk (os := [some (.int (0 + (i : Int)))]) hi (S5 D _ aw.1 hD4) (by rw [List.length_map, hn]; exact Nat.lt_of_lt_of_le hi (Nat.le_trans (show works.toNat ≤ 1000 by omega) (by decide))) rfl rfl ?_
      refine ⟨F5.off aw.1 aw.2, (S4.trans S5).acc hD, upd_same, bs ++ [r], by rw [List.map_append]; rfl, by rw [List.length_append, hn]; rfl, fun y hy => ?_⟩
      rcases List.mem_append.mp hy with z | z
      · exact hx y z
      · rw [List.mem_singleton.mp z]; exact ⟨a5, b5⟩
    · rintro ys H3 ⟨F3, S3, hB, bs, rfl, hn, hx⟩
      refine ⟨by show 0 ≤ sizeLine; decide, fun L hL => ?_⟩
      have awL := F3.away hL
      have hDL : D ≠ L := ne_of_none hB hL
      have hL0 : H L = none := hF.free F3 S3 hL
      refine ⟨_, rfl, _, rfl, _, _, rfl, rfl, f, c, _, rfl, by omega, by omega, F3.new hL, fun n H4 a4 b4 F4 S4 => ⟨n, rfl, by omega, by omega, ?_⟩⟩
      refine for_range (lo := 0) (n := n.toNat) (fun i σ H5 => ∃ kv, σ = [some (.ref f), some (.int works), some (.int most), some (.int m), some (.ref D), some (.ref L), kv] ∧ FeedAt H5 f c ∧ Sm f H H5 ∧ H5 D = some (.lst (bs.map V.int)) ∧
        ∃ (sps : List Spn) (xs : List V), H5 L = some (.lst xs) ∧ DVs K H5 xs (sps.map Spn.d) ∧ sps.length = i ∧ ∀ x ∈ sps, x.Ok works)
        ⟨_, rfl, F4, S3.trans ((Sm.new hL).trans S4), S4 D _ aw.1 (Same.new hL D _ hB), [], [], S4 L _ awL.1 upd_same, .nil, rfl, fun _ h => nomatch h⟩ ?_ ?_
      · rintro i σ H5 hi ⟨kv, rfl, F5, S5, hD5, sps, xs, hL5, dv, hn5, ok5⟩
        have hlen : xs.length = i := by rw [dv.length, List.length_map, hn5]
        have hil : xs.length < sizeLine := by rw [hlen]; exact Nat.lt_of_lt_of_le hi (Nat.le_trans (show n.toNat ≤ 1000 by omega) (by decide))
        refine ⟨_, rfl, f, c, _, rfl, by decide, by decide, F5, fun r H6 a6 b6 F6 S6 => ⟨_, _, rfl, rfl, _, rfl, ite2 (fun _ => ?_) (fun _ => ?_)⟩⟩
        · refine ⟨_, rfl, .inl ⟨rfl, _, SqL.of (S6 L _ awL.1 hL5)⟩, _, rfl, _, rfl, _, rfl, f, c, D, bs, m, rfl, S6 D _ aw.1 hD5, by omega, by omega, hx, by omega, by omega, F6, fun q s H7 F7 S7 hq hs => ?_⟩
          have hL7 := S7 L _ awL.1 (S6 L _ awL.1 hL5)
          refine ⟨L, xs, _, rfl, rfl, hL7, hil, ?_⟩
          refine ⟨_, rfl, F7.off awL.1 awL.2, (S5.trans (S6.trans S7)).acc hL0, by rw [upd_ne hDL]; exact S7 D _ aw.1 (S6 D _ aw.1 hD5), sps ++ [s], _, upd_same, ?_, by rw [List.length_append, hn5]; rfl, fun x hx => ?_⟩
          · rw [List.map_append]
            have tk : TK H5 (upd H7 L (.lst (xs ++ [V.ref q]))) := (F5.tk (S6.trans S7)).trans (TK.updL hL7)
            exact (dv.tk tk (noLs_spans _)).append (.cons (at_span ((TK.updL hL7) q _ hq)) .nil)
          · rcases List.mem_append.mp hx with z | z
            · exact ok5 x z
            · rw [List.mem_singleton.mp z]; rw [hn, Int.toNat_of_nonneg (by omega)] at hs; exact hs
        · refine ⟨_, rfl, .inl ⟨rfl, _, SqL.of (S6 L _ awL.1 hL5)⟩, _, rfl, _, rfl, _, rfl, f, c, works, m, rfl, by omega, by omega, by omega, by omega, F6, fun q s H7 F7 S7 hq hs => ?_⟩
          have hL7 := S7 L _ awL.1 (S6 L _ awL.1 hL5)
          refine ⟨L, xs, _, rfl, rfl, hL7, hil, ?_⟩
          refine ⟨_, rfl, F7.off awL.1 awL.2, (S5.trans (S6.trans S7)).acc hL0, by rw [upd_ne hDL]; exact S7 D _ aw.1 (S6 D _ aw.1 hD5), sps ++ [s], _, upd_same, ?_, by rw [List.length_append, hn5]; rfl, fun x hx => ?_⟩
          · rw [List.map_append]
            have tk : TK H5 (upd H7 L (.lst (xs ++ [V.ref q]))) := (F5.tk (S6.trans S7)).trans (TK.updL hL7)
            exact (dv.tk tk (noLs_spans _)).append (.cons (at_span ((TK.updL hL7) q _ hq)) .nil)
          · rcases List.mem_append.mp hx with z | z
            · exact ok5 x z
            · rw [List.mem_singleton.mp z]; exact hs
      · rintro σ H5 ⟨kv, rfl, F5, S5, hD5, sps, xs, hL5, dv, hn5, ok5⟩
        have hlen : xs.length = n.toNat := by rw [dv.length, List.length_map, hn5]
        have fin : ∀ (H9 : Hp) (sps' : List Spn) (xs' : List V), FeedAt H9 f c → Sm f H H9 → H9 L = some (.lst xs') → DVs K H9 xs' (sps'.map Spn.d) → sps'.length ≤ 24 → (∀ x ∈ sps', x.Ok works) →
            tRet (tTup (tCons (tCall sp_names [] E0 (tCons (tVar 0) (tCons (tVar 1) tNil))) (tCons (tCB (fun xs H Q => ∃ p ys, xs = [.ref p] ∧ ((SqL K H p ys ∧ ∀ l, H l = none → Q (.ref l) (upd H l (.tup ys))) ∨ (SqT K H p ys ∧ Q (.ref p) H))) (tCons (tVar 5) tNil)) tNil))) { nx := fun _ H' => Q .non H', rt := Q } [some (.ref f), some (.int works), some (.int most), some (.int m), some (.ref D), some (.ref L), kv] H9 := by
          intro H9 sps' xs' F9 S9 hL9 dv9 hl9 ok9
          refine ⟨_, rfl, _, rfl, f, c, _, rfl, by omega, by omega, F9, fun q nms H10 F10 S10 hq hnl hnm => ?_⟩
          refine ⟨_, rfl, L, _, rfl, .inl ⟨SqL.of (S10 L _ awL.1 hL9), fun l hl => ⟨by show 2 ≤ sizeLine; decide, fun p hp => ?_⟩⟩⟩
          refine k p ⟨nms, sps'⟩ _ ((F10.new hl).new hp) (S9.trans (S10.trans ((Sm.new hl).trans (Sm.new hp)))) ?_ ⟨hnl, fun x hx => List.mem_append_left _ (hnm x hx), by show (sps'.length : Int) ≤ 24; omega, ok9⟩
          have tk1 : TK H10 (upd (upd H10 l (.tup xs')) p (.tup [.ref q, .ref l])) := (TK.new hl).trans (TK.new hp)
          refine .tup upd_same (.cons (.tup (tk1 q _ hq) (dvs_strs _)) (.cons (.tup ((TK.new hp) l _ upd_same) (dv9.tk ((F9.tk S10).trans tk1) (noLs_spans _))) .nil))
        refine ⟨_, rfl, L, _, rfl, .inl (SqL.of hL5), _, _, rfl, rfl, _, rfl, ?_⟩
        refine ite2 (fun h0 => ?_) (fun h0 => ?_)
        · refine ⟨_, _, rfl, rfl, _, rfl, ite2 (fun h1 => ?_) (fun h1 => ?_)⟩
          · refine ⟨_, rfl, f, c, _, rfl, by decide, by decide, F5, fun r H6 a6 b6 F6 S6 => ⟨rfl, _, rfl, ite2 (fun _ => ?_) (fun _ => ?_)⟩⟩
            · have hlt : xs.length < 24 := by have := of_decide_eq_true h1; omega
              have hgt : 0 < xs.length := by have := of_decide_eq_true h0; omega
              have hL6 := S6 L _ awL.1 hL5
              refine ⟨_, rfl, .inl ⟨rfl, _, SqL.of hL6⟩, _, rfl, _, rfl, L, _, rfl, .inl (SqL.of hL6), _, _, rfl, rfl, f, c, _, rfl, by omega, by omega, F6, fun pl H7 a7 b7 F7 S7 => ?_⟩
              have hL7 := S7 L _ awL.1 hL6
              obtain ⟨x0, hx0⟩ : ∃ x0, xs[(0 : Int).toNat]? = some x0 := ⟨xs[0], List.getElem?_eq_getElem hgt⟩
              obtain ⟨d0, hd0, dv0⟩ := dv.get hx0
              rw [List.getElem?_map] at hd0
              obtain ⟨s0, hs0, rfl⟩ : ∃ s0, sps[(0 : Int).toNat]? = some s0 ∧ d0 = s0.d := by
                cases e : sps[(0 : Int).toNat]? with
                | none => rw [e] at hd0; cases hd0
                | some s0 => rw [e] at hd0; exact ⟨s0, rfl, (Option.some.inj hd0).symm⟩
              refine ⟨_, rfl, L, _, _, _, rfl, rfl, SqL.of hL7, pickN (by decide) hx0, L, xs, pl, x0, rfl, rfl, hL7, a7, by omega, Nat.lt_of_lt_of_le hlt (by decide), ?_⟩
              have tk : TK H5 (upd H7 L (.lst (xs.take pl.toNat ++ x0 :: xs.drop pl.toNat))) := (F5.tk (S6.trans S7)).trans (TK.updL hL7)
              refine fin _ (sps.take pl.toNat ++ s0 :: sps.drop pl.toNat) _ (F7.off awL.1 awL.2) ((S5.trans (S6.trans S7)).acc hL0) upd_same ?_ ?_ ?_
              · have g := dv.tk tk (noLs_spans _)
                rw [List.map_append, List.map_cons, List.map_take, List.map_drop]
                exact (DVs.take g _).append (.cons (dv0.tk tk (noL_span _)) (DVs.drop g _))
              · rw [List.length_append, List.length_cons, List.length_take, List.length_drop]; omega
              · intro x hx
                rcases List.mem_append.mp hx with z | z
                · exact ok5 x (List.mem_of_mem_take z)
                · rcases List.mem_cons.mp z with z | z
                  · rw [z]; exact ok5 _ (List.mem_of_getElem? hs0)
                  · exact ok5 x (List.mem_of_mem_drop z)
            · exact fin H6 sps xs F6 (S5.trans S6) (S6 L _ awL.1 hL5) (dv.tk (F5.tk S6) (noLs_spans _)) (by omega) ok5
          · exact fin H5 sps xs F5 S5 hL5 dv (by omega) ok5
        · exact ⟨_, rfl, fin H5 sps xs F5 S5 hL5 dv (by omega) ok5⟩
end

section
variable {P : Program} {w : World} {K : PySem.W.Frag} {mg : Str → Option Value} {base : Heap}
theorem sc_law_beats : FnScope ["_law_feed_here", "_law_works", "_law_cycle"] ["_law_feed_here", "_law_works", "_law_cycle"] (defScope s_law_beats) := ⟨rfl, rfl, rfl, by decide +kernel, rfl, by decide +kernel, by decide +kernel⟩
theorem ok_law_beats {f : Addr} {fd : FuncData} (F : Fun K "_law_beats" "_law_beats" s_law_beats f fd) (T : Txt mg) (D_law_draw : Def P w K mg base 1 "_law_draw" ["_law_feed_here", "_law_many"] sp_draw) : FnOk P w K mg base CX0 2 f fd ["_law_feed_here", "_law_works", "_law_cycle"] sp_beats := by
  refine F.ok sc_law_beats (fun vs H Q E h => ?_) (fun cdv A outer s H vs Q E hr h => ?_)
  · obtain ⟨f, c, works, m, rfl, _⟩ := h
    rfl
  · obtain ⟨f, c, works, m, rfl, hw, hw2, hm, hm2, hF, k⟩ := h
    refine ⟨_, (@pss_one _ _ _ (@ps_ret _ _ _ _ (@pe_callTy _ _ _ _ _ _ _ _ _ call_tuple_of rfl T.n_tuple PyProof.Rows.boot_tuple (@pa_lc _ _ _ _ _ _ _ _ (@pe_lc _ ["_law_k", "_law_feed_here", "_law_cycle"] [none, (some 0), (some 2)] _ _ _ _ _ _ _ _ _ _ rfl (@CScope.of _ _ _ _ rfl) (@pi_range1 _ _ _ _ _ _ rfl T.n_range (@pa_name _ _ _ _ _ _ (@pv _ 1 _ _ rfl (Or.inl rfl) (by decide) (by decide)) (@pa_nil _)) (by rfl)) (fun _ _ _ _ _ => (@pgc _ _ _ _ _ _ _ _ 0 _ _ (by decide) rfl rfl)) (fun _ _ _ _ _ => pif_nil) (fun _ _ _ _ _ => (@pe_own _ _ _ _ _ _ _ _ _ _ D_law_draw (hr.mono (by decide)) (glc rfl) (@pa_name _ _ _ _ _ _ (@pvc _ _ _ _ _ _ _ _ 1 _ _ (by rfl) (by first | exact Or.inl rfl | exact Or.inr rfl) (by decide) (by decide)) (@pa_name _ _ _ _ _ _ (@pvc _ _ _ _ _ _ _ _ 2 _ _ (by rfl) (by first | exact Or.inl rfl | exact Or.inr rfl) (by decide) (by decide)) (@pa_nil _))) (by decide) (by rfl) (by rfl))) (by intro _ ; rfl)) (@pa_nil _)) (by decide) (by decide) (by rfl) (by rfl)))), ?_⟩
    refine ⟨_, rfl, works, rfl, by omega, by omega, fun D hD => ?_⟩
    have aw := hF.away hD
    refine lc_range 1 [some (.ref f), some (.int m)]
      (fun i ys H3 => FeedAt H3 f c ∧ Sm f H H3 ∧ H3 D = some (.lst ys) ∧ ∃ bs : List Int, ys = bs.map V.int ∧ bs.length = i ∧ ∀ x ∈ bs, 0 ≤ x ∧ x < m)
      ?_ ⟨hF.new hD, Sm.new hD, upd_same, [], rfl, rfl, fun _ h => nomatch h⟩ ?_ ?_
    · rfl
    · rintro i ys H3 os hi ho ⟨F4, S4, hD4, bs, rfl, hn, hx⟩
      obtain ⟨o, rfl⟩ : ∃ o, os = [o] := by
        cases os with
        | nil => cases ho
        | cons o r => cases r with
          | nil => exact ⟨o, rfl⟩
          | cons _ _ => simp at ho
      refine noifN ?_
      refine ⟨_, rfl, _, rfl, f, c, _, rfl, by omega, by omega, F4, fun r H5 a5 b5 F5 S5 => ?_⟩
      refine LcN.mk (os := [some (.int (0 + (i : Int)))]) hi (S5 D _ aw.1 hD4) (by rw [List.length_map, hn]; exact Nat.lt_of_lt_of_le hi (Nat.le_trans (show works.toNat ≤ 1000 by omega) (by decide))) rfl rfl ?_
      refine ⟨F5.off aw.1 aw.2, (S4.trans S5).acc hD, upd_same, bs ++ [r], by rw [List.map_append]; rfl, by rw [List.length_append, hn]; rfl, fun y hy => ?_⟩
      rcases List.mem_append.mp hy with z | z
      · exact hx y z
      · rw [List.mem_singleton.mp z]; exact ⟨a5, b5⟩
    · rintro ys H3 ⟨F3, S3, hB, bs, rfl, hn, hx⟩
      refine ⟨D, _, rfl, .inl ⟨SqL.of hB, fun l hl => ?_⟩⟩
      exact k l bs _ (F3.new hl) (S3.trans (Sm.new hl)) ⟨upd_same, by omega, hx⟩
end

theorem end_rng8 {s : Spn} {works per : Int} (h : s.Ok works) (hp : 0 < per) (hp2 : per ≤ 600) : -200000 ≤ endZ per s ∧ endZ per s ≤ 200000 := by
  have := h.l0; have := h.l1; have := h.h0; have := h.h1
  unfold endZ topZ
  split <;> split <;> omega
theorem wins_rng8 {l : List Spn} {works per : Int} (h : ∀ s ∈ l, s.Ok works) (hp : 0 < per) (hp2 : per ≤ 600) : ∀ p ∈ winsZ per l, (-300000 ≤ p.1 ∧ p.1 ≤ 300000) ∧ (-300000 ≤ p.2 ∧ p.2 ≤ 300000) := fun p hpm => by
  obtain ⟨s, hs, rfl⟩ := List.mem_map.mp hpm
  have := end_rng8 (h s hs) hp hp2
  have := (h s hs).l0
  have := (h s hs).l1
  dsimp only
  omega
theorem fits_kept8 {P : Pln} {works : Int} {bs : List Int} {ws : List (Int × Int)} {per : Int} (ok : P.Ok works 25) (hw : works ≤ 8) (hb : ∀ z ∈ bs, 0 ≤ z ∧ z < per) (hp : per ≤ 600) (hbl : bs.length ≤ 8) (hwo : WinOk ws) (hwl : ws.length ≤ 100) : Fits 16000000 60 (.tuple [P.d, .tuple (bs.map PyData.int), pairsD ws]) := by
  refine (Fits.tupLe (n := 2100000) (k := 3) (m := 3) (N := 6400000) (by simp) (fun d hd => ?_) (by decide)).mono (by decide) (by decide)
  simp only [List.mem_cons, List.not_mem_nil, or_false] at hd
  rcases hd with rfl | rfl | rfl
  · exact fits_plan ok (by omega) (by decide)
  · refine (Fits.tupLe (n := 1921) (k := 0) (m := 8) (N := 16000) (by rw [List.length_map]; exact hbl) (fun d hd => ?_) (by decide)).mono (by decide) (by decide)
    obtain ⟨z, hz, rfl⟩ := List.mem_map.mp hd
    have := hb z hz
    exact Fits.int (Nat.lt_of_le_of_lt (show z.natAbs ≤ 600 by omega) (by decide +kernel))
  · refine (Fits.tupLe (n := 4000) (k := 1) (m := 100) (N := 500000) (by rw [List.length_map]; exact hwl) (fun d hd => ?_) (by decide)).mono (by decide) (by decide)
    obtain ⟨z, hz, rfl⟩ := List.mem_map.mp hd
    have hz' := hwo z hz
    have hB : bB8 = 100000000000000000000000000000000000000000 := rfl
    rw [hB] at hz'
    have h5 : (100000000000000000000000000000000000000000 : Nat) < 2 ^ 1000 := by decide +kernel
    refine Fits.tupLe (n := 1921) (k := 0) (m := 2) (by simp) (fun d hd => ?_) (by decide)
    simp only [List.mem_cons, List.not_mem_nil, or_false] at hd
    rcases hd with rfl | rfl
    · exact Fits.int (Nat.lt_of_le_of_lt (by omega) h5)
    · exact Fits.int (Nat.lt_of_le_of_lt (by omega) h5)
theorem dvs_ints8 {K : PySem.W.Frag} {H : Hp} : ∀ l : List Int, DVs K H (l.map V.int) (l.map PyData.int)
  | [] => .nil
  | z :: l => .cons (.int z) (dvs_ints8 l)
theorem WinOk.of {ws : List (Int × Int)} (h : ∀ p ∈ ws, (-300000 ≤ p.1 ∧ p.1 ≤ 300000) ∧ (-300000 ≤ p.2 ∧ p.2 ≤ 300000)) : WinOk ws := fun p hp => by
  have := h p hp
  have hB : bB8 = 100000000000000000000000000000000000000000 := rfl
  rw [hB]
  omega
def sp_law (K : PySem.W.Frag) : Sp := fun vs H Q _ => ∃ (a : Addr) (ns : List Int), vs = [.ref a] ∧ SqL K H a (ns.map V.int) ∧ ns.length ≤ 63 ∧ ∀ H', Q (.bl true) H'
section
variable {P : Program} {w : World} {K : PySem.W.Frag} {mg : Str → Option Value} {base : Heap}
theorem sc_law : FnScope ["_law_script", "_law_feed_here", "_law_k", "_law_cycle", "_law_works", "_law_plan_here", "_law_stays_here", "_law_beats_here", "_law_windows_here", "_law_kept", "_law_j", "_law_ring_here"] ["_law_script"] (defScope s_law) := ⟨rfl, rfl, rfl, by decide +kernel, rfl, by decide +kernel, by decide +kernel⟩
theorem ok_law {f : Addr} {fd : FuncData} (F : Fun K "law" "law" s_law f fd) (T : Txt mg) (D_law_feed : Def P w K mg base 1 "_law_feed" ["_law_script"] (sp_feed K)) (D_law_draw : Def P w K mg base 1 "_law_draw" ["_law_feed_here", "_law_many"] sp_draw) (D_law_plan : Def P w K mg base 4 "_law_plan" ["_law_feed_here", "_law_works", "_law_most", "_law_cycle"] (sp_plan K)) (D_law_beats : Def P w K mg base 2 "_law_beats" ["_law_feed_here", "_law_works", "_law_cycle"] sp_beats)
    (D_law_windows : Def P w K mg base 2 "_law_windows" ["_law_plan_here", "_law_cycle"] (sp_all_windows K)) (D_law_stays : Def P w K mg base 2 "_law_stays" ["_law_feed_here", "_law_works"] sp_stays8) (D_law_other_windows : Def P w K mg base 2 "_law_other_windows" ["_law_feed_here", "_law_windows_here"] (sp_others8 K)) (D_law_ring : Def P w K mg base 4 "_law_ring" ["_law_feed_here", "_law_plan_here", "_law_stays_here", "_law_most"] (sp_ring8 K)) (D_law_turned_ring : Def P w K mg base 2 "_law_turned_ring" ["_law_feed_here", "_law_ring_here"] (sp_turned8 K)) (D_law_right : Def P w K mg base 4 "_law_right" ["_law_plan_here", "_law_cycle", "_law_beats_here", "_law_windows_here", "_law_ring_here"] (sp_right8 K)) : FnOk P w K mg base CX0 5 f fd ["_law_script"] (sp_law K) := by
  refine F.ok sc_law (fun vs H Q E h => ?_) (fun cdv A outer s H vs Q E hr h => ?_)
  · obtain ⟨a, ns, rfl, _⟩ := h
    rfl
  · obtain ⟨a, ns, rfl, hS, hl, k⟩ := h
    refine ⟨_, (@pss_cons _ _ _ _ _ (@ps_set _ _ 1 _ _ _ _ sc_law.nd rfl (Or.inl rfl) (@pe_own _ _ _ _ _ _ _ _ _ _ D_law_feed (hr.mono (by decide)) rfl (@pa_name _ _ _ _ _ _ (@pv _ 0 _ _ rfl (Or.inl rfl) (by decide) (by decide)) (@pa_nil _)) (by decide) (by rfl) (by rfl)) (by rfl) (by first | exact Or.inl rfl | exact Or.inr rfl | assumption)) (@pss_cons _ _ _ _ _ (@ps_for _ _ _ _ _ _ _ _ PassesOwn.never rfl (@pi_range1 _ _ _ _ _ _ rfl T.n_range (@pa_const _ _ _ _ _ _ _ (@pe_int _ _ _ _) (@pa_nil _)) (by rfl)) (@pg_name _ _ 2 _ sc_law.nd rfl (Or.inl rfl) (by first | exact Or.inl rfl | exact Or.inr rfl | assumption)) (@pss_cons _ _ _ _ _ (@ps_set _ _ 3 _ _ _ _ sc_law.nd rfl (Or.inl rfl) (@pe_ix _ _ _ _ _ _ _ ix_list (@pe_lst _ _ _ _ (@pa_const _ _ _ _ _ _ _ (@pe_int _ _ _ _) (@pa_const _ _ _ _ _ _ _ (@pe_int _ _ _ _) (@pa_const _ _ _ _ _ _ _ (@pe_int _ _ _ _) (@pa_const _ _ _ _ _ _ _ (@pe_int _ _ _ _) (@pa_const _ _ _ _ _ _ _ (@pe_int _ _ _ _) (@pa_const _ _ _ _ _ _ _ (@pe_int _ _ _ _) (@pa_const _ _ _ _ _ _ _ (@pe_int _ _ _ _) (@pa_const _ _ _ _ _ _ _ (@pe_int _ _ _ _) (@pa_bin _ _ _ _ _ _ _ _ (@pe_op _ _ _ _ _ _ _ _ op_add (@pe_int _ _ _ _) (@pe_own _ _ _ _ _ _ _ _ _ _ D_law_draw (hr.mono (by decide)) rfl (@pa_name _ _ _ _ _ _ (@pv _ 1 _ _ rfl (Or.inl rfl) (by decide) (by decide)) (@pa_const _ _ _ _ _ _ _ (@pe_int _ _ _ _) (@pa_nil _))) (by decide) (by rfl) (by rfl))) (@pa_const _ _ _ _ _ _ _ (@pe_int _ _ _ _) (@pa_nil _)))))))))))) (@pe_own _ _ _ _ _ _ _ _ _ _ D_law_draw (hr.mono (by decide)) rfl (@pa_name _ _ _ _ _ _ (@pv _ 1 _ _ rfl (Or.inl rfl) (by decide) (by decide)) (@pa_const _ _ _ _ _ _ _ (@pe_int _ _ _ _) (@pa_nil _))) (by decide) (by rfl) (by rfl)) (fun _ _ => rfl)) (by rfl) (by first | exact Or.inl rfl | exact Or.inr rfl | assumption)) (@pss_cons _ _ _ _ _ (@ps_set _ _ 4 _ _ _ _ sc_law.nd rfl (Or.inl rfl) (@pe_op _ _ _ _ _ _ _ _ op_add (@pe_int _ _ _ _) (@pe_own _ _ _ _ _ _ _ _ _ _ D_law_draw (hr.mono (by decide)) rfl (@pa_name _ _ _ _ _ _ (@pv _ 1 _ _ rfl (Or.inl rfl) (by decide) (by decide)) (@pa_const _ _ _ _ _ _ _ (@pe_int _ _ _ _) (@pa_nil _))) (by decide) (by rfl) (by rfl))) (by rfl) (by first | exact Or.inl rfl | exact Or.inr rfl | assumption)) (@pss_cons _ _ _ _ _ (@ps_set _ _ 5 _ _ _ _ sc_law.nd rfl (Or.inl rfl) (@pe_own _ _ _ _ _ _ _ _ _ _ D_law_plan (hr.mono (by decide)) rfl (@pa_name _ _ _ _ _ _ (@pv _ 1 _ _ rfl (Or.inl rfl) (by decide) (by decide)) (@pa_name _ _ _ _ _ _ (@pv _ 4 _ _ rfl (Or.inl rfl) (by decide) (by decide)) (@pa_sub _ _ _ _ _ _ _ (@pe_ix _ _ _ _ _ _ _ ix_list (@pe_lst _ _ _ _ (@pa_const _ _ _ _ _ _ _ (@pe_int _ _ _ _) (@pa_const _ _ _ _ _ _ _ (@pe_int _ _ _ _) (@pa_nil _)))) (@pe_own _ _ _ _ _ _ _ _ _ _ D_law_draw (hr.mono (by decide)) rfl (@pa_name _ _ _ _ _ _ (@pv _ 1 _ _ rfl (Or.inl rfl) (by decide) (by decide)) (@pa_const _ _ _ _ _ _ _ (@pe_int _ _ _ _) (@pa_nil _))) (by decide) (by rfl) (by rfl)) (fun _ _ => rfl)) (@pa_name _ _ _ _ _ _ (@pv _ 3 _ _ rfl (Or.inl rfl) (by decide) (by decide)) (@pa_nil _))))) (by decide) (by rfl) (by rfl)) (by rfl) (by first | exact Or.inl rfl | exact Or.inr rfl | assumption)) (@pss_cons _ _ _ _ _ (@ps_set _ _ 6 _ _ _ _ sc_law.nd rfl (Or.inl rfl) (@pe_own _ _ _ _ _ _ _ _ _ _ D_law_stays (hr.mono (by decide)) rfl (@pa_name _ _ _ _ _ _ (@pv _ 1 _ _ rfl (Or.inl rfl) (by decide) (by decide)) (@pa_name _ _ _ _ _ _ (@pv _ 4 _ _ rfl (Or.inl rfl) (by decide) (by decide)) (@pa_nil _))) (by decide) (by rfl) (by rfl)) (by rfl) (by first | exact Or.inl rfl | exact Or.inr rfl | assumption)) (@pss_cons _ _ _ _ _ (@ps_set _ _ 7 _ _ _ _ sc_law.nd rfl (Or.inl rfl) (@pe_own _ _ _ _ _ _ _ _ _ _ D_law_beats (hr.mono (by decide)) rfl (@pa_name _ _ _ _ _ _ (@pv _ 1 _ _ rfl (Or.inl rfl) (by decide) (by decide)) (@pa_name _ _ _ _ _ _ (@pv _ 4 _ _ rfl (Or.inl rfl) (by decide) (by decide)) (@pa_name _ _ _ _ _ _ (@pv _ 3 _ _ rfl (Or.inl rfl) (by decide) (by decide)) (@pa_nil _)))) (by decide) (by rfl) (by rfl)) (by rfl) (by first | exact Or.inl rfl | exact Or.inr rfl | assumption)) (@pss_cons _ _ _ _ _ (@ps_set _ _ 8 _ _ _ _ sc_law.nd rfl (Or.inl rfl) (@pe_own _ _ _ _ _ _ _ _ _ _ D_law_windows (hr.mono (by decide)) rfl (@pa_name _ _ _ _ _ _ (@pv _ 5 _ _ rfl (Or.inl rfl) (by decide) (by decide)) (@pa_name _ _ _ _ _ _ (@pv _ 3 _ _ rfl (Or.inl rfl) (by decide) (by decide)) (@pa_nil _))) (by decide) (by rfl) (by rfl)) (by rfl) (by first | exact Or.inl rfl | exact Or.inr rfl | assumption)) (@pss_cons _ _ _ _ _ (@ps_if _ _ _ _ _ _ _ _ (@pt_cmpR _ _ _ _ _ _ _ _ op_eq (@pe_own _ _ _ _ _ _ _ _ _ _ D_law_draw (hr.mono (by decide)) rfl (@pa_name _ _ _ _ _ _ (@pv _ 1 _ _ rfl (Or.inl rfl) (by decide) (by decide)) (@pa_const _ _ _ _ _ _ _ (@pe_int _ _ _ _) (@pa_nil _))) (by decide) (by rfl) (by rfl)) (@pe_int _ _ _ _) (nomark _)) (@pss_one _ _ _ (@ps_set _ _ 8 _ _ _ _ sc_law.nd rfl (Or.inl rfl) (@pe_own _ _ _ _ _ _ _ _ _ _ D_law_other_windows (hr.mono (by decide)) rfl (@pa_name _ _ _ _ _ _ (@pv _ 1 _ _ rfl (Or.inl rfl) (by decide) (by decide)) (@pa_name _ _ _ _ _ _ (@pv _ 8 _ _ rfl (Or.inl rfl) (by decide) (by decide)) (@pa_nil _))) (by decide) (by rfl) (by rfl)) (by rfl) (by first | exact Or.inl rfl | exact Or.inr rfl | assumption))) (@pss_nil _)) (@pss_cons _ _ _ _ _ (@ps_set _ _ 9 _ _ _ _ sc_law.nd rfl (Or.inl rfl) (@pe_callB _ _ _ _ _ _ _ _ _ (call_reprD hr) rfl T.n_repr boot_repr' (@pa_tup _ _ _ _ _ _ _ (@pe_tup _ _ _ _ _ (@pa_name _ _ _ _ _ _ (@pv _ 5 _ _ rfl (Or.inl rfl) (by decide) (by decide)) (@pa_name _ _ _ _ _ _ (@pv _ 7 _ _ rfl (Or.inl rfl) (by decide) (by decide)) (@pa_name _ _ _ _ _ _ (@pv _ 8 _ _ rfl (Or.inl rfl) (by decide) (by decide)) (@pa_nil _))))) (@pa_nil _)) (by decide) (by decide) (by rfl) (by rfl)) (by rfl) (by first | exact Or.inl rfl | exact Or.inr rfl | assumption)) (@pss_cons _ _ _ _ _ (@ps_for _ _ _ _ _ _ _ _ PassesOwn.never rfl (@pi_range1 _ _ _ _ _ _ rfl T.n_range (@pa_const _ _ _ _ _ _ _ (@pe_int _ _ _ _) (@pa_nil _)) (by rfl)) (@pg_name _ _ 10 _ sc_law.nd rfl (Or.inl rfl) (by first | exact Or.inl rfl | exact Or.inr rfl | assumption)) (@pss_cons _ _ _ _ _ (@ps_set _ _ 11 _ _ _ _ sc_law.nd rfl (Or.inl rfl) (@pe_own _ _ _ _ _ _ _ _ _ _ D_law_ring (hr.mono (by decide)) rfl (@pa_name _ _ _ _ _ _ (@pv _ 1 _ _ rfl (Or.inl rfl) (by decide) (by decide)) (@pa_name _ _ _ _ _ _ (@pv _ 5 _ _ rfl (Or.inl rfl) (by decide) (by decide)) (@pa_name _ _ _ _ _ _ (@pv _ 6 _ _ rfl (Or.inl rfl) (by decide) (by decide)) (@pa_const _ _ _ _ _ _ _ (@pe_int _ _ _ _) (@pa_nil _))))) (by decide) (by rfl) (by rfl)) (by rfl) (by first | exact Or.inl rfl | exact Or.inr rfl | assumption)) (@pss_one _ _ _ (@ps_if _ _ _ _ _ _ _ _ (@pt_cmpR _ _ _ _ _ _ _ _ op_notN (@pv _ 11 _ _ rfl (Or.inl rfl) (by decide) (by decide)) (@pe_non _ _ _) (nomark _)) (@pss_cons _ _ _ _ _ (@ps_set _ _ 11 _ _ _ _ sc_law.nd rfl (Or.inl rfl) (@pe_own _ _ _ _ _ _ _ _ _ _ D_law_turned_ring (hr.mono (by decide)) rfl (@pa_name _ _ _ _ _ _ (@pv _ 1 _ _ rfl (Or.inl rfl) (by decide) (by decide)) (@pa_name _ _ _ _ _ _ (@pv _ 11 _ _ rfl (Or.inl rfl) (by decide) (by decide)) (@pa_nil _))) (by decide) (by rfl) (by rfl)) (by rfl) (by first | exact Or.inl rfl | exact Or.inr rfl | assumption)) (@pss_cons _ _ _ _ _ (@ps_if _ _ _ _ _ _ _ _ (@pt_cmpR _ _ _ _ _ _ _ _ op_eq (@pe_own _ _ _ _ _ _ _ _ _ _ D_law_draw (hr.mono (by decide)) rfl (@pa_name _ _ _ _ _ _ (@pv _ 1 _ _ rfl (Or.inl rfl) (by decide) (by decide)) (@pa_const _ _ _ _ _ _ _ (@pe_int _ _ _ _) (@pa_nil _))) (by decide) (by rfl) (by rfl)) (@pe_int _ _ _ _) (nomark _)) (@pss_one _ _ _ (@ps_set _ _ 11 _ _ _ _ sc_law.nd rfl (Or.inl rfl) (@pe_op _ _ _ _ _ _ _ _ op_repT (@pv _ 11 _ _ rfl (Or.inl rfl) (by decide) (by decide)) (@pe_op _ _ _ _ _ _ _ _ op_fdiv (@pe_int _ _ _ _) (@pe_callB _ _ _ _ _ _ _ _ _ call_len_seq rfl T.n_len PySem.boot_len (@pa_name _ _ _ _ _ _ (@pv _ 11 _ _ rfl (Or.inl rfl) (by decide) (by decide)) (@pa_nil _)) (by decide) (by decide) (by rfl) (by rfl)))) (by rfl) (by first | exact Or.inl rfl | exact Or.inr rfl | assumption))) (@pss_nil _)) (@pss_one _ _ _ (@ps_if _ _ _ _ _ _ _ _ (@pt_not _ _ _ _ (@pt_of _ _ _ (@pe_own _ _ _ _ _ _ _ _ _ _ D_law_right (hr.mono (by decide)) rfl (@pa_name _ _ _ _ _ _ (@pv _ 5 _ _ rfl (Or.inl rfl) (by decide) (by decide)) (@pa_name _ _ _ _ _ _ (@pv _ 3 _ _ rfl (Or.inl rfl) (by decide) (by decide)) (@pa_name _ _ _ _ _ _ (@pv _ 7 _ _ rfl (Or.inl rfl) (by decide) (by decide)) (@pa_name _ _ _ _ _ _ (@pv _ 8 _ _ rfl (Or.inl rfl) (by decide) (by decide)) (@pa_name _ _ _ _ _ _ (@pv _ 11 _ _ rfl (Or.inl rfl) (by decide) (by decide)) (@pa_nil _)))))) (by decide) (by rfl) (by rfl)) (by intro _ ; rfl))) (@pss_one _ _ _ (@ps_ret _ _ _ _ (@pe_bl _ _ _ _))) (@pss_nil _))))) (@pss_nil _)))) (by intro _ ; rfl)) (@pss_cons _ _ _ _ _ (@ps_if _ _ _ _ _ _ _ _ (@pt_cmpR _ _ _ _ _ _ _ _ (op_ne_nilT hr) (@pv _ 6 _ _ rfl (Or.inl rfl) (by decide) (by decide)) (@pe_tup _ _ _ _ _ (@pa_nil _)) (nomark _)) (@pss_cons _ _ _ _ _ (@ps_set _ _ 11 _ _ _ _ sc_law.nd rfl (Or.inl rfl) (@pe_tup _ _ _ _ _ (@pa_tup _ _ _ _ _ _ _ (@pe_tup _ _ _ _ _ (@pa_const _ _ _ _ _ _ _ (@pe_str _ _ _ _) (@pa_sub _ _ _ _ _ _ _ (@pe_ix _ _ _ _ _ _ _ ix_tup (@pv _ 6 _ _ rfl (Or.inl rfl) (by decide) (by decide)) (@pe_int _ _ _ _) (fun _ _ => rfl)) (@pa_sub _ _ _ _ _ _ _ (@pe_ix _ _ _ _ _ _ _ ix_tup (@pv _ 6 _ _ rfl (Or.inl rfl) (by decide) (by decide)) (@pe_int _ _ _ _) (fun _ _ => rfl)) (@pa_nil _))))) (@pa_nil _))) (by rfl) (by first | exact Or.inl rfl | exact Or.inr rfl | assumption)) (@pss_one _ _ _ (@ps_if _ _ _ _ _ _ _ _ (@pt_not _ _ _ _ (@pt_of _ _ _ (@pe_own _ _ _ _ _ _ _ _ _ _ D_law_right (hr.mono (by decide)) rfl (@pa_name _ _ _ _ _ _ (@pv _ 5 _ _ rfl (Or.inl rfl) (by decide) (by decide)) (@pa_name _ _ _ _ _ _ (@pv _ 3 _ _ rfl (Or.inl rfl) (by decide) (by decide)) (@pa_name _ _ _ _ _ _ (@pv _ 7 _ _ rfl (Or.inl rfl) (by decide) (by decide)) (@pa_name _ _ _ _ _ _ (@pv _ 8 _ _ rfl (Or.inl rfl) (by decide) (by decide)) (@pa_name _ _ _ _ _ _ (@pv _ 11 _ _ rfl (Or.inl rfl) (by decide) (by decide)) (@pa_nil _)))))) (by decide) (by rfl) (by rfl)) (by intro _ ; rfl))) (@pss_one _ _ _ (@ps_ret _ _ _ _ (@pe_bl _ _ _ _))) (@pss_nil _)))) (@pss_nil _)) (@pss_one _ _ _ (@ps_if _ _ _ _ _ _ _ _ (@pt_cmpR _ _ _ _ _ _ _ _ op_ne (@pe_callB _ _ _ _ _ _ _ _ _ (call_reprD hr) rfl T.n_repr boot_repr' (@pa_tup _ _ _ _ _ _ _ (@pe_tup _ _ _ _ _ (@pa_name _ _ _ _ _ _ (@pv _ 5 _ _ rfl (Or.inl rfl) (by decide) (by decide)) (@pa_name _ _ _ _ _ _ (@pv _ 7 _ _ rfl (Or.inl rfl) (by decide) (by decide)) (@pa_name _ _ _ _ _ _ (@pv _ 8 _ _ rfl (Or.inl rfl) (by decide) (by decide)) (@pa_nil _))))) (@pa_nil _)) (by decide) (by decide) (by rfl) (by rfl)) (@pv _ 9 _ _ rfl (Or.inl rfl) (by decide) (by decide)) (nomark _)) (@pss_one _ _ _ (@ps_ret _ _ _ _ (@pe_bl _ _ _ _))) (@pss_nil _))))))))))))) (by intro _ ; rfl)) (@pss_one _ _ _ (@ps_ret _ _ _ _ (@pe_bl _ _ _ _))))), ?_⟩
    refine ⟨_, rfl, a, ns, rfl, hS, hl, fun f c H1 F1 S1 => ?_⟩
    refine ⟨_, rfl, by decide, by decide, ?_⟩
    refine for_range (lo := 0) (n := (4 : Int).toNat) (fun i σ H2 => (∃ o2 o3 o4 o5 o6 o7 o8 o9 o10 o11, σ = [some (.ref a), some (.ref f), o2, o3, o4, o5, o6, o7, o8, o9, o10, o11]) ∧ FeedAt H2 f c) ⟨⟨_, _, _, _, _, _, _, _, _, _, rfl⟩, F1⟩ ?_ ?_
    · rintro i σ H2 hi ⟨⟨o2, o3, o4, o5, o6, o7, o8, o9, o10, o11, rfl⟩, F2⟩
      refine ⟨_, rfl, f, c, _, rfl, by decide, by decide, F2, fun r1 H3 a3 b3 F3 S3 => ⟨_, _, rfl, rfl, by show 10 ≤ sizeLine; decide, fun lc hlc => ?_⟩⟩
      refine ⟨_, rfl, f, c, _, rfl, by decide, by decide, F3.new hlc, fun r2 H4 a4 b4 F4 S4 => ?_⟩
      obtain ⟨v, hv, cyc, rfl, hc1, hc2⟩ := pickI (xs := [.int 1, .int 2, .int 3, .int 5, .int 7, .int 12, .int 60, .int 600, .int (1 + r1), .int 4]) (fun v => ∃ z : Int, v = .int z ∧ 1 ≤ z ∧ z ≤ 600) a4 b4 (by
        intro x hx
        simp only [List.mem_cons, List.not_mem_nil, or_false] at hx
        rcases hx with rfl | rfl | rfl | rfl | rfl | rfl | rfl | rfl | rfl | rfl <;> exact ⟨_, rfl, by omega, by omega⟩)
      refine ⟨lc, _, _, _, rfl, rfl, SqL.of (S4 lc _ (F3.away hlc).1 upd_same), hv, ?_⟩
      try simp only [List.set_cons_zero, List.set_cons_succ]
      refine ⟨_, rfl, f, c, _, rfl, by decide, by decide, F4, fun wk H5 a5 b5 F5 S5 => ⟨_, _, rfl, rfl, ?_⟩⟩
      try simp only [List.set_cons_zero, List.set_cons_succ]
      refine ⟨_, rfl, _, rfl, by show 2 ≤ sizeLine; decide, fun lm hlm => ?_⟩
      refine ⟨_, rfl, f, c, _, rfl, by decide, by decide, F5.new hlm, fun r6 H6 a6 b6 F6 S6 => ?_⟩
      obtain ⟨v2, hv2, most, rfl, hm1, hm2⟩ := pickI (xs := [.int 3, .int 24]) (fun v => ∃ z : Int, v = .int z ∧ 0 ≤ z ∧ z ≤ 24) a6 b6 (by
        intro x hx
        simp only [List.mem_cons, List.not_mem_nil, or_false] at hx
        rcases hx with rfl | rfl <;> exact ⟨_, rfl, by omega, by omega⟩)
      refine ⟨lm, _, _, _, rfl, rfl, SqL.of (S6 lm _ (F5.away hlm).1 upd_same), hv2, _, rfl, f, c, (1 + wk), most, cyc, rfl, by omega, by omega, hm1, hm2, by omega, by omega, F6, fun pl Pl H7 F7 S7 d7 ok7 => ?_⟩
      try simp only [List.set_cons_zero, List.set_cons_succ]
      obtain ⟨works, hworks⟩ : ∃ works, works = 1 + wk := ⟨_, rfl⟩
      rw [← hworks] at ok7 ⊢
      refine ⟨_, rfl, _, rfl, f, c, works, rfl, F7, by omega, by omega, fun sq sts H8 F8 S8 hsq hsr hsl => ?_⟩
      try simp only [List.set_cons_zero, List.set_cons_succ]
      refine ⟨_, rfl, _, rfl, _, rfl, f, c, _, _, rfl, by omega, by omega, by omega, by omega, F8, fun b bs H9 F9 S9 hb9 => ?_⟩
      try simp only [List.set_cons_zero, List.set_cons_succ]
      have d9 := d7.tk (F7.tk (S8.trans S9)) (noL_plan _)
      have hsq9 := F8.tk S9 _ _ hsq
      have hbl := hb9.len
      have hsl24 : Pl.spans.length ≤ 24 := by have := ok7.s1; omega
      have hinw : ∀ s ∈ Pl.spans, s.In works := fun s hs => (ok7.s2 s hs).inn
      have okk : Pl.Ok works 25 := ⟨ok7.n1, ok7.n2, by omega, ok7.s2⟩
      refine ⟨_, rfl, _, rfl, _, cyc, Pl, rfl, d9, by omega, fun wq0 H10 S10 dw0 => ?_⟩
      try simp only [List.set_cons_zero, List.set_cons_succ]
      have F10 := F9.same S10
      have hwr0 := wins_rng8 ok7.s2 (show 0 < cyc by omega) hc2
      have hwl0 : (winsZ cyc Pl.spans).length = Pl.spans.length := List.length_map ..
      refine seq_cut (fun σ' H' => ∃ (wq : Addr) (ws : List (Int × Int)), σ' = [some (.ref a), some (.ref f), some (.int (0 + (i : Int))), some (.int cyc), some (.int works), some (.ref pl), some (.ref sq), some (.ref b), some (.ref wq), o9, o10, o11] ∧ DV K H' (.ref wq) (pairsD ws) ∧ ws.length = Pl.spans.length ∧ WinOk ws ∧ FeedAt H' f c ∧ Sm f H10 H') ?_ ?_
      rotate_left
      · intro N hN'
        refine ⟨_, rfl, f, c, _, rfl, by decide, by decide, F10, fun r11 H11 a11 b11 F11 S11 => ?_⟩
        refine ⟨rfl, _, rfl, ite2 (fun _ => ?_) (fun _ => ?_)⟩
        · refine ⟨_, rfl, _, rfl, f, c, _, _, rfl, F11, dw0.tk (F10.tk S11) (noL_pairs _), by omega, hwr0, fun wq ws H12 F12 S12 dw hwl hwo => ?_⟩
          exact hN' _ _ ⟨wq, ws, rfl, dw, by omega, hwo, F12, S11.trans S12⟩
        · exact hN' _ _ ⟨wq0, _, rfl, dw0.tk (F10.tk S11) (noL_pairs _), hwl0, WinOk.of hwr0, F11, S11⟩
      rintro _ H12 ⟨wq, ws, rfl, dw, hwl, hwo, F12, S12⟩
      have T912 : TK H9 H12 := S10.tk.trans (F10.tk S12)
      have d12 := d9.tk T912 (noL_plan _)
      have hb12 := hb9.tk T912
      have hsq12 := T912 _ _ hsq9
      obtain ⟨zd, hzd⟩ : ∃ zd, zd = PyData.tuple [Pl.d, .tuple (bs.map PyData.int), pairsD ws] := ⟨_, rfl⟩
      have fz : Fits 16000000 60 zd := by rw [hzd]; exact fits_kept8 okk (by omega) hb9.rng hc2 (by omega) hwo (by omega)
      have dz : ∀ (H' : Hp), TK H12 H' → ∀ t, H' t = none → DV K (upd H' t (.tup [.ref pl, .ref b, .ref wq])) (.ref t) zd := fun H' tk t ht => by
        rw [hzd]
        refine .tup upd_same (.cons ((d12.tk tk (noL_plan _)).same (Same.new ht)) (.cons (.tup (Same.new ht _ _ (tk _ _ hb12.at_)) (dvs_ints8 _)) (.cons ((dw.tk tk (noL_pairs _)).same (Same.new ht)) .nil)))
      clear hzd
      refine ⟨_, rfl, _, rfl, _, rfl, by show 3 ≤ sizeLine; decide, fun t13 ht13 => ⟨_, zd, rfl, dz _ (TK.refl _) _ ht13, fz, ?_⟩⟩
      try simp only [List.set_cons_zero, List.set_cons_succ]
      have F13 := F12.new (o := .tup [.ref pl, .ref b, .ref wq]) ht13
      have T13 : TK H12 (upd H12 t13 (.tup [.ref pl, .ref b, .ref wq])) := TK.new ht13
      revert F13 T13
      generalize upd H12 t13 (.tup [.ref pl, .ref b, .ref wq]) = H13
      intro F13 T13
      have RHof : ∀ (H' : Hp), TK H12 H' → ∀ (q : Addr) (r : List EntH), DV K H' (.ref q) (entsH r) → (∀ e ∈ r, e.Ok Pl.spans.length sts) → r.length ≤ 60 → RingH K H' b (.ref wq) (.ref q) bs ws sts r := fun H' tk q r dq ho hl => ⟨tk _ _ hb12.at_, dw.tk tk (noL_pairs _), dq, by rw [hwl]; exact ho, fun z hz => by have := hsr z hz; omega, by omega⟩
      have hb8 : bs.length ≤ 8 := by omega
      refine ⟨_, rfl, by decide, by decide, ?_⟩
      refine for_range (lo := 0) (n := (3 : Int).toNat) (fun j σ H14 => (∃ o10 o11, σ = [some (.ref a), some (.ref f), some (.int (0 + (i : Int))), some (.int cyc), some (.int works), some (.ref pl), some (.ref sq), some (.ref b), some (.ref wq), some (.str zd.shown), o10, o11]) ∧ FeedAt H14 f c ∧ TK H12 H14) ⟨⟨_, _, rfl⟩, F13, T13⟩ ?_ ?_
      · rintro j σ H14 hj ⟨⟨o10', o11', rfl⟩, F14, T14⟩
        refine ⟨_, rfl, _, rfl, _, rfl, f, c, _, sq, Pl, sts, works, 12, rfl, F14, d12.tk T14 (noL_plan _), T14 _ _ hsq12, hsr, by omega, hsl24, hinw, by omega, by decide, by decide, fun H15 F15 S15 => ?_, fun q r H15 F15 S15 dq hok hr0 hr30 => ?_⟩
        · try simp only [List.set_cons_zero, List.set_cons_succ]
          refine ⟨_, rfl, rfl, _, rfl, iteNS rfl ?_⟩
          exact ⟨⟨_, _, rfl⟩, F15, T14.trans (F14.tk S15)⟩
        · try simp only [List.set_cons_zero, List.set_cons_succ]
          refine ⟨_, rfl, rfl, _, rfl, iteNT (fun z => nomatch z) ?_⟩
          have T15 := T14.trans (F14.tk S15)
          refine ⟨_, rfl, _, rfl, f, c, q, r, _, sts, rfl, F15, dq, hok, hr0, hr30, fun q2 r2 H16 F16 S16 dq2 hok2 hrl2 => ?_⟩
          try simp only [List.set_cons_zero, List.set_cons_succ]
          have T16 := T15.trans (F15.tk S16)
          refine seq_cut (fun σ' H' => ∃ (q3 : Addr) (r3 : List EntH), σ' = [some (.ref a), some (.ref f), some (.int (0 + (i : Int))), some (.int cyc), some (.int works), some (.ref pl), some (.ref sq), some (.ref b), some (.ref wq), some (.str zd.shown), some (.int (0 + (j : Int))), some (.ref q3)] ∧ DV K H' (.ref q3) (entsH r3) ∧ r3.length ≤ 60 ∧ (∀ e ∈ r3, e.Ok Pl.spans.length sts) ∧ FeedAt H' f c ∧ Sm f H16 H') ?_ ?_
          rotate_left
          · intro N hN'
            refine ⟨_, rfl, f, c, _, rfl, by decide, by decide, F16, fun r17 H17 a17 b17 F17 S17 => ?_⟩
            have dq17 := dq2.tk (F16.tk S17) (noL_entsH _)
            refine ⟨rfl, _, rfl, ite2 (fun _ => ?_) (fun _ => ?_)⟩
            · obtain ⟨qa, xs, hqe, hq, rr⟩ := entsH_at dq17
              cases hqe
              have hxl : xs.length = r2.length := by rw [rr.length, List.length_map]
              refine ⟨_, rfl, _, rfl, q2, _, rfl, .inr (SqT.of hq), _, _, rfl, rfl, ⟨by show (0 : Int) < (xs.length : Int); omega, by show (xs.length : Int) < _; omega⟩, ?_⟩
              obtain ⟨mn, hmn⟩ : ∃ mn, mn = (60 : Int) / (xs.length : Int) := ⟨_, rfl⟩
              have hmn1 : 1 ≤ mn := by rw [hmn]; exact Int.le_ediv_of_mul_le (by omega) (by omega)
              have hmn60 : mn ≤ 60 := by rw [hmn]; exact Int.ediv_le_self _ (by decide)
              have hmx : mn * xs.length ≤ 60 := by rw [hmn]; exact Int.ediv_mul_le _ (by omega)
              have hmxN : xs.length * mn.toNat ≤ 60 := by
                have h1 : ((xs.length * mn.toNat : Nat) : Int) ≤ 60 := by
                  rw [Int.natCast_mul, Int.toNat_of_nonneg (by omega), Int.mul_comm]
                  exact hmx
                omega
              dsimp only
              rw [← hmn]
              have hxne : xs ≠ [] := fun z => by rw [z] at hxl; simp at hxl; omega
              refine repT_of hq hxne hmn1 (by omega) (Nat.le_trans hmxN (by decide)) fun re H20 S20 hre => ?_
              refine hN' _ _ ⟨re, (List.replicate mn.toNat r2).flatten, rfl, .tup hre ?_, ?_, fun e he => ?_, F17.same S20, S17.trans (Sm.same S20)⟩
              · rw [← map_rep9]
                exact dvs_rep9 (rr.same S20) _
              · rw [len_rep, Nat.mul_comm, ← hxl]
                omega
              · obtain ⟨l, hl', he⟩ := List.mem_flatten.mp he
                rw [(List.mem_replicate.mp hl').2] at he
                exact hok2 e he
            · exact hN' _ _ ⟨q2, r2, rfl, dq17, by omega, hok2, F17, S17⟩
          rintro _ H18 ⟨q3, r3, rfl, dq3, hr3, hok3, F18, S18⟩
          have T18 := T16.trans (F16.tk S18)
          refine ⟨_, rfl, _, rfl, _, rfl, _, rfl, _, rfl, _, _, _, cyc, b, bs, ws, sts, r3, rfl, RHof _ T18 _ _ dq3 hok3 hr3, hr3, hwo, by omega, by omega, hb9.rng, hb8, fun H19 S19 => ?_⟩
          refine ⟨_, rfl, iteF ?_⟩
          exact ⟨⟨_, _, rfl⟩, F18.same S19, T18.trans S19.tk⟩
      rintro σ H14 ⟨⟨o10', o11', rfl⟩, F14, T14⟩
      dsimp only
      refine seq_cut (fun σ' H' => (∃ o11, σ' = [some (.ref a), some (.ref f), some (.int (0 + (i : Int))), some (.int cyc), some (.int works), some (.ref pl), some (.ref sq), some (.ref b), some (.ref wq), some (.str zd.shown), o10', o11]) ∧ Same H14 H') ?_ ?_
      rotate_left
      · intro N hN'
        refine ⟨_, rfl, by show 0 ≤ sizeLine; decide, fun ee hee => ⟨sq, ee, _, rfl, rfl, SqT.of (Same.new hee _ _ (T14 _ _ hsq12)), SqT.of upd_same, _, rfl, ?_⟩⟩
        have S15 : Same H14 (upd H14 ee (.tup [])) := Same.new hee
        revert S15
        generalize upd H14 ee (.tup []) = H15
        intro S15
        refine ite2 (fun hc => ?_) (fun hc => ?_)
        · have hpos : 0 < sts.length := by
            cases sts with
            | nil => exact nomatch hc
            | cons _ _ => simp
          have hsq15 := S15 _ _ (T14 _ _ hsq12)
          have pk : atI (sts.map V.int) 0 = some (.int (sts[0])) := pickN (by decide) (by show (sts.map V.int)[0]? = _; rw [List.getElem?_map, List.getElem?_eq_getElem hpos]; rfl)
          refine ⟨_, rfl, sq, _, _, _, rfl, rfl, SqT.of hsq15, pk, _, rfl, sq, _, _, _, rfl, rfl, SqT.of hsq15, pk, by show 3 ≤ sizeLine; decide, fun t1 ht1 => ⟨by show 1 ≤ sizeLine; decide, fun t2 ht2 => ?_⟩⟩
          try simp only [List.set_cons_zero, List.set_cons_succ]
          have hm0 := List.getElem_mem hpos
          have dh : DV K (upd (upd H15 t1 (.tup (EntH.hm sts[0] sts[0]).vs)) t2 (.tup [.ref t1])) (.ref t2) (entsH [.hm sts[0] sts[0]]) := .tup upd_same (.cons (at_entH (e := .hm sts[0] sts[0]) (Same.new ht2 _ _ upd_same)) .nil)
          have S16 : Same H14 (upd (upd H15 t1 (.tup (EntH.hm sts[0] sts[0]).vs)) t2 (.tup [.ref t1])) := S15.trans ((Same.new ht1).trans (Same.new ht2))
          have hokh : ∀ e ∈ [EntH.hm sts[0] sts[0]], e.Ok Pl.spans.length sts := fun e he => by
            rw [List.mem_singleton.mp he]
            exact ⟨hm0, hm0⟩
          refine ⟨_, rfl, _, rfl, _, rfl, _, rfl, _, rfl, _, _, _, cyc, b, bs, ws, sts, [.hm sts[0] sts[0]], rfl, RHof _ (T14.trans S16.tk) _ _ dh hokh (by simp), by simp, hwo, by omega, by omega, hb9.rng, hb8, fun H19 S19 => ?_⟩
          refine ⟨_, rfl, iteF ?_⟩
          exact hN' _ _ ⟨⟨_, rfl⟩, S16.trans S19⟩
        · exact hN' _ _ ⟨⟨_, rfl⟩, S15⟩
      rintro _ H15 ⟨⟨o11'', rfl⟩, S15⟩
      refine ⟨_, rfl, _, rfl, _, rfl, by show 3 ≤ sizeLine; decide, fun t16 ht16 => ⟨_, zd, rfl, dz _ (T14.trans S15.tk) _ ht16, fz, _, rfl, rfl, _, rfl, iteNS rfl ?_⟩⟩
      exact ⟨⟨_, _, _, _, _, _, _, _, _, _, rfl⟩, (F14.same S15).new ht16⟩
    · rintro σ H2 ⟨_, F2⟩
      exact k H2
end

theorem all_mk {l : PySem.W.OpenLaw} {w : World} {K : PySem.W.Frag} {h : Heap} {mg : Str → Option Value} {fa : Addr} (X : K.In h) (G : h.Ns mainGlobals mg) (hfa : mg "law" = some (.ref fa))
    {f0 : Addr} {od0 an0 : Option Addr} {sl0 : Array (Option Value)} {oc0 kV0 dc0 pm0 cd0 ct0 : Value}
    (a0 : PySem.W.nsIn K mainGlobals "_law_feed" = some (some (.ref f0))) (l0 : K.lookup f0 = some ⟨oc0, od0, .func (PySem.W.fnOf "_law_feed" "_law_feed" (defArgs s_law_feed) (defBody s_law_feed) (defScope s_law_feed) .none kV0 dc0 pm0 an0 cd0 ct0), sl0⟩) (c0 : PySem.W.codeIn K cd0 "_law_feed" = true) (k0 : PySem.W.keepIn K (.ref f0) = true)
    {f1 : Addr} {od1 an1 : Option Addr} {sl1 : Array (Option Value)} {oc1 kV1 dc1 pm1 cd1 ct1 : Value}
    (a1 : PySem.W.nsIn K mainGlobals "_law_draw" = some (some (.ref f1))) (l1 : K.lookup f1 = some ⟨oc1, od1, .func (PySem.W.fnOf "_law_draw" "_law_draw" (defArgs s_law_draw) (defBody s_law_draw) (defScope s_law_draw) .none kV1 dc1 pm1 an1 cd1 ct1), sl1⟩) (c1 : PySem.W.codeIn K cd1 "_law_draw" = true) (k1 : PySem.W.keepIn K (.ref f1) = true)
    {f2 : Addr} {od2 an2 : Option Addr} {sl2 : Array (Option Value)} {oc2 kV2 dc2 pm2 cd2 ct2 : Value}
    (a2 : PySem.W.nsIn K mainGlobals "_law_number" = some (some (.ref f2))) (l2 : K.lookup f2 = some ⟨oc2, od2, .func (PySem.W.fnOf "_law_number" "_law_number" (defArgs s_law_number) (defBody s_law_number) (defScope s_law_number) .none kV2 dc2 pm2 an2 cd2 ct2), sl2⟩) (c2 : PySem.W.codeIn K cd2 "_law_number" = true) (k2 : PySem.W.keepIn K (.ref f2) = true)
    {f3 : Addr} {od3 an3 : Option Addr} {sl3 : Array (Option Value)} {oc3 kV3 dc3 pm3 cd3 ct3 : Value}
    (a3 : PySem.W.nsIn K mainGlobals "_law_names" = some (some (.ref f3))) (l3 : K.lookup f3 = some ⟨oc3, od3, .func (PySem.W.fnOf "_law_names" "_law_names" (defArgs s_law_names) (defBody s_law_names) (defScope s_law_names) .none kV3 dc3 pm3 an3 cd3 ct3), sl3⟩) (c3 : PySem.W.codeIn K cd3 "_law_names" = true) (k3 : PySem.W.keepIn K (.ref f3) = true)
    {f4 : Addr} {od4 an4 : Option Addr} {sl4 : Array (Option Value)} {oc4 kV4 dc4 pm4 cd4 ct4 : Value}
    (a4 : PySem.W.nsIn K mainGlobals "_law_span" = some (some (.ref f4))) (l4 : K.lookup f4 = some ⟨oc4, od4, .func (PySem.W.fnOf "_law_span" "_law_span" (defArgs s_law_span) (defBody s_law_span) (defScope s_law_span) .none kV4 dc4 pm4 an4 cd4 ct4), sl4⟩) (c4 : PySem.W.codeIn K cd4 "_law_span" = true) (k4 : PySem.W.keepIn K (.ref f4) = true)
    {f5 : Addr} {od5 an5 : Option Addr} {sl5 : Array (Option Value)} {oc5 kV5 dc5 pm5 cd5 ct5 : Value}
    (a5 : PySem.W.nsIn K mainGlobals "_law_fitting" = some (some (.ref f5))) (l5 : K.lookup f5 = some ⟨oc5, od5, .func (PySem.W.fnOf "_law_fitting" "_law_fitting" (defArgs s_law_fitting) (defBody s_law_fitting) (defScope s_law_fitting) .none kV5 dc5 pm5 an5 cd5 ct5), sl5⟩) (c5 : PySem.W.codeIn K cd5 "_law_fitting" = true) (k5 : PySem.W.keepIn K (.ref f5) = true)
    {f6 : Addr} {od6 an6 : Option Addr} {sl6 : Array (Option Value)} {oc6 kV6 dc6 pm6 cd6 ct6 : Value}
    (a6 : PySem.W.nsIn K mainGlobals "_law_plan" = some (some (.ref f6))) (l6 : K.lookup f6 = some ⟨oc6, od6, .func (PySem.W.fnOf "_law_plan" "_law_plan" (defArgs s_law_plan) (defBody s_law_plan) (defScope s_law_plan) .none kV6 dc6 pm6 an6 cd6 ct6), sl6⟩) (c6 : PySem.W.codeIn K cd6 "_law_plan" = true) (k6 : PySem.W.keepIn K (.ref f6) = true)
    {f7 : Addr} {od7 an7 : Option Addr} {sl7 : Array (Option Value)} {oc7 kV7 dc7 pm7 cd7 ct7 : Value}
    (a7 : PySem.W.nsIn K mainGlobals "_law_beats" = some (some (.ref f7))) (l7 : K.lookup f7 = some ⟨oc7, od7, .func (PySem.W.fnOf "_law_beats" "_law_beats" (defArgs s_law_beats) (defBody s_law_beats) (defScope s_law_beats) .none kV7 dc7 pm7 an7 cd7 ct7), sl7⟩) (c7 : PySem.W.codeIn K cd7 "_law_beats" = true) (k7 : PySem.W.keepIn K (.ref f7) = true)
    {f8 : Addr} {od8 an8 : Option Addr} {sl8 : Array (Option Value)} {oc8 kV8 dc8 pm8 cd8 ct8 : Value}
    (a8 : PySem.W.nsIn K mainGlobals "_law_whole" = some (some (.ref f8))) (l8 : K.lookup f8 = some ⟨oc8, od8, .func (PySem.W.fnOf "_law_whole" "_law_whole" (defArgs s_law_whole) (defBody s_law_whole) (defScope s_law_whole) .none kV8 dc8 pm8 an8 cd8 ct8), sl8⟩) (c8 : PySem.W.codeIn K cd8 "_law_whole" = true) (k8 : PySem.W.keepIn K (.ref f8) = true)
    {f9 : Addr} {od9 an9 : Option Addr} {sl9 : Array (Option Value)} {oc9 kV9 dc9 pm9 cd9 ct9 : Value}
    (a9 : PySem.W.nsIn K mainGlobals "_law_end" = some (some (.ref f9))) (l9 : K.lookup f9 = some ⟨oc9, od9, .func (PySem.W.fnOf "_law_end" "_law_end" (defArgs s_law_end) (defBody s_law_end) (defScope s_law_end) .none kV9 dc9 pm9 an9 cd9 ct9), sl9⟩) (c9 : PySem.W.codeIn K cd9 "_law_end" = true) (k9 : PySem.W.keepIn K (.ref f9) = true)
    {f10 : Addr} {od10 an10 : Option Addr} {sl10 : Array (Option Value)} {oc10 kV10 dc10 pm10 cd10 ct10 : Value}
    (a10 : PySem.W.nsIn K mainGlobals "_law_windows" = some (some (.ref f10))) (l10 : K.lookup f10 = some ⟨oc10, od10, .func (PySem.W.fnOf "_law_windows" "_law_windows" (defArgs s_law_windows) (defBody s_law_windows) (defScope s_law_windows) .none kV10 dc10 pm10 an10 cd10 ct10), sl10⟩) (c10 : PySem.W.codeIn K cd10 "_law_windows" = true) (k10 : PySem.W.keepIn K (.ref f10) = true)
    {f11 : Addr} {od11 an11 : Option Addr} {sl11 : Array (Option Value)} {oc11 kV11 dc11 pm11 cd11 ct11 : Value}
    (a11 : PySem.W.nsIn K mainGlobals "_law_ends" = some (some (.ref f11))) (l11 : K.lookup f11 = some ⟨oc11, od11, .func (PySem.W.fnOf "_law_ends" "_law_ends" (defArgs s_law_ends) (defBody s_law_ends) (defScope s_law_ends) .none kV11 dc11 pm11 an11 cd11 ct11), sl11⟩) (c11 : PySem.W.codeIn K cd11 "_law_ends" = true) (k11 : PySem.W.keepIn K (.ref f11) = true)
    {f12 : Addr} {od12 an12 : Option Addr} {sl12 : Array (Option Value)} {oc12 kV12 dc12 pm12 cd12 ct12 : Value}
    (a12 : PySem.W.nsIn K mainGlobals "_law_sums" = some (some (.ref f12))) (l12 : K.lookup f12 = some ⟨oc12, od12, .func (PySem.W.fnOf "_law_sums" "_law_sums" (defArgs s_law_sums) (defBody s_law_sums) (defScope s_law_sums) .none kV12 dc12 pm12 an12 cd12 ct12), sl12⟩) (c12 : PySem.W.codeIn K cd12 "_law_sums" = true) (k12 : PySem.W.keepIn K (.ref f12) = true)
    {f13 : Addr} {od13 an13 : Option Addr} {sl13 : Array (Option Value)} {oc13 kV13 dc13 pm13 cd13 ct13 : Value}
    (a13 : PySem.W.nsIn K mainGlobals "_law_bars" = some (some (.ref f13))) (l13 : K.lookup f13 = some ⟨oc13, od13, .func (PySem.W.fnOf "_law_bars" "_law_bars" (defArgs s_law_bars) (defBody s_law_bars) (defScope s_law_bars) .none kV13 dc13 pm13 an13 cd13 ct13), sl13⟩) (c13 : PySem.W.codeIn K cd13 "_law_bars" = true) (k13 : PySem.W.keepIn K (.ref f13) = true)
    {f14 : Addr} {od14 an14 : Option Addr} {sl14 : Array (Option Value)} {oc14 kV14 dc14 pm14 cd14 ct14 : Value}
    (a14 : PySem.W.nsIn K mainGlobals "_law_onward" = some (some (.ref f14))) (l14 : K.lookup f14 = some ⟨oc14, od14, .func (PySem.W.fnOf "_law_onward" "_law_onward" (defArgs s_law_onward) (defBody s_law_onward) (defScope s_law_onward) .none kV14 dc14 pm14 an14 cd14 ct14), sl14⟩) (c14 : PySem.W.codeIn K cd14 "_law_onward" = true) (k14 : PySem.W.keepIn K (.ref f14) = true)
    {f15 : Addr} {od15 an15 : Option Addr} {sl15 : Array (Option Value)} {oc15 kV15 dc15 pm15 cd15 ct15 : Value}
    (a15 : PySem.W.nsIn K mainGlobals "_law_home_way" = some (some (.ref f15))) (l15 : K.lookup f15 = some ⟨oc15, od15, .func (PySem.W.fnOf "_law_home_way" "_law_home_way" (defArgs s_law_home_way) (defBody s_law_home_way) (defScope s_law_home_way) .none kV15 dc15 pm15 an15 cd15 ct15), sl15⟩) (c15 : PySem.W.codeIn K cd15 "_law_home_way" = true) (k15 : PySem.W.keepIn K (.ref f15) = true)
    {f16 : Addr} {od16 an16 : Option Addr} {sl16 : Array (Option Value)} {oc16 kV16 dc16 pm16 cd16 ct16 : Value}
    (a16 : PySem.W.nsIn K mainGlobals "_law_ring" = some (some (.ref f16))) (l16 : K.lookup f16 = some ⟨oc16, od16, .func (PySem.W.fnOf "_law_ring" "_law_ring" (defArgs s_law_ring) (defBody s_law_ring) (defScope s_law_ring) .none kV16 dc16 pm16 an16 cd16 ct16), sl16⟩) (c16 : PySem.W.codeIn K cd16 "_law_ring" = true) (k16 : PySem.W.keepIn K (.ref f16) = true)
    {f17 : Addr} {od17 an17 : Option Addr} {sl17 : Array (Option Value)} {oc17 kV17 dc17 pm17 cd17 ct17 : Value}
    (a17 : PySem.W.nsIn K mainGlobals "_law_turned_ring" = some (some (.ref f17))) (l17 : K.lookup f17 = some ⟨oc17, od17, .func (PySem.W.fnOf "_law_turned_ring" "_law_turned_ring" (defArgs s_law_turned_ring) (defBody s_law_turned_ring) (defScope s_law_turned_ring) .none kV17 dc17 pm17 an17 cd17 ct17), sl17⟩) (c17 : PySem.W.codeIn K cd17 "_law_turned_ring" = true) (k17 : PySem.W.keepIn K (.ref f17) = true)
    {f18 : Addr} {od18 an18 : Option Addr} {sl18 : Array (Option Value)} {oc18 kV18 dc18 pm18 cd18 ct18 : Value}
    (a18 : PySem.W.nsIn K mainGlobals "_law_stays" = some (some (.ref f18))) (l18 : K.lookup f18 = some ⟨oc18, od18, .func (PySem.W.fnOf "_law_stays" "_law_stays" (defArgs s_law_stays) (defBody s_law_stays) (defScope s_law_stays) .none kV18 dc18 pm18 an18 cd18 ct18), sl18⟩) (c18 : PySem.W.codeIn K cd18 "_law_stays" = true) (k18 : PySem.W.keepIn K (.ref f18) = true)
    {f19 : Addr} {od19 an19 : Option Addr} {sl19 : Array (Option Value)} {oc19 kV19 dc19 pm19 cd19 ct19 : Value}
    (a19 : PySem.W.nsIn K mainGlobals "_law_other_windows" = some (some (.ref f19))) (l19 : K.lookup f19 = some ⟨oc19, od19, .func (PySem.W.fnOf "_law_other_windows" "_law_other_windows" (defArgs s_law_other_windows) (defBody s_law_other_windows) (defScope s_law_other_windows) .none kV19 dc19 pm19 an19 cd19 ct19), sl19⟩) (c19 : PySem.W.codeIn K cd19 "_law_other_windows" = true) (k19 : PySem.W.keepIn K (.ref f19) = true)
    {f20 : Addr} {od20 an20 : Option Addr} {sl20 : Array (Option Value)} {oc20 kV20 dc20 pm20 cd20 ct20 : Value}
    (a20 : PySem.W.nsIn K mainGlobals "entry_sums" = some (some (.ref f20))) (l20 : K.lookup f20 = some ⟨oc20, od20, .func (PySem.W.fnOf "entry_sums" "entry_sums" (defArgs s_entry_sums) (defBody s_entry_sums) (defScope s_entry_sums) .none kV20 dc20 pm20 an20 cd20 ct20), sl20⟩) (c20 : PySem.W.codeIn K cd20 "entry_sums" = true) (k20 : PySem.W.keepIn K (.ref f20) = true)
    {f21 : Addr} {od21 an21 : Option Addr} {sl21 : Array (Option Value)} {oc21 kV21 dc21 pm21 cd21 ct21 : Value}
    (a21 : PySem.W.nsIn K mainGlobals "sums_of" = some (some (.ref f21))) (l21 : K.lookup f21 = some ⟨oc21, od21, .func (PySem.W.fnOf "sums_of" "sums_of" (defArgs s_sums_of) (defBody s_sums_of) (defScope s_sums_of) .none kV21 dc21 pm21 an21 cd21 ct21), sl21⟩) (c21 : PySem.W.codeIn K cd21 "sums_of" = true) (k21 : PySem.W.keepIn K (.ref f21) = true)
    {f22 : Addr} {od22 an22 : Option Addr} {sl22 : Array (Option Value)} {oc22 kV22 dc22 pm22 cd22 ct22 : Value}
    (a22 : PySem.W.nsIn K mainGlobals "ring_bars" = some (some (.ref f22))) (l22 : K.lookup f22 = some ⟨oc22, od22, .func (PySem.W.fnOf "ring_bars" "ring_bars" (defArgs s_ring_bars) (defBody s_ring_bars) (defScope s_ring_bars) .none kV22 dc22 pm22 an22 cd22 ct22), sl22⟩) (c22 : PySem.W.codeIn K cd22 "ring_bars" = true) (k22 : PySem.W.keepIn K (.ref f22) = true)
    {f23 : Addr} {od23 an23 : Option Addr} {sl23 : Array (Option Value)} {oc23 kV23 dc23 pm23 cd23 ct23 : Value}
    (a23 : PySem.W.nsIn K mainGlobals "_law_right" = some (some (.ref f23))) (l23 : K.lookup f23 = some ⟨oc23, od23, .func (PySem.W.fnOf "_law_right" "_law_right" (defArgs s_law_right) (defBody s_law_right) (defScope s_law_right) .none kV23 dc23 pm23 an23 cd23 ct23), sl23⟩) (c23 : PySem.W.codeIn K cd23 "_law_right" = true) (k23 : PySem.W.keepIn K (.ref f23) = true)
    {f24 : Addr} {od24 an24 : Option Addr} {sl24 : Array (Option Value)} {oc24 kV24 dc24 pm24 cd24 ct24 : Value}
    (a24 : PySem.W.nsIn K mainGlobals "law" = some (some (.ref f24))) (l24 : K.lookup f24 = some ⟨oc24, od24, .func (PySem.W.fnOf "law" "law" (defArgs s_law) (defBody s_law) (defScope s_law) .none kV24 dc24 pm24 an24 cd24 ct24), sl24⟩) (c24 : PySem.W.codeIn K cd24 "law" = true) (k24 : PySem.W.keepIn K (.ref f24) = true)
    (z_len : PySem.W.nsIn K mainGlobals "len" = some none)
    (z_repr : PySem.W.nsIn K mainGlobals "repr" = some none)
    (z_min : PySem.W.nsIn K mainGlobals "min" = some none)
    (z_max : PySem.W.nsIn K mainGlobals "max" = some none)
    (z_tuple : PySem.W.nsIn K mainGlobals "tuple" = some none)
    (z_list : PySem.W.nsIn K mainGlobals "list" = some none)
    (z_int : PySem.W.nsIn K mainGlobals "int" = some none)
    (z_range : PySem.W.nsIn K mainGlobals "range" = some none)
    (z_sum : PySem.W.nsIn K mainGlobals "sum" = some none)
    (z_all : PySem.W.nsIn K mainGlobals "all" = some none)
    (z_any : PySem.W.nsIn K mainGlobals "any" = some none)
    (z_sorted : PySem.W.nsIn K mainGlobals "sorted" = some none)
    (z_enumerate : PySem.W.nsIn K mainGlobals "enumerate" = some none)
    (z_isinstance : PySem.W.nsIn K mainGlobals "isinstance" = some none)
    (z_set : PySem.W.nsIn K mainGlobals "set" = some none)
    (y_bool : PySem.W.nsIn K mainGlobals "bool" = some none)
    (y_str : PySem.W.nsIn K mainGlobals "str" = some none)
    : ∃ fd : FuncData, (∀ (s : Shared) (v : Value), BindsTo s fd ⟨[v], []⟩ [("_law_script", v)]) ∧ ∀ base : Heap, K.In base → base.Ns mainGlobals mg → FnOk l.prog w K mg base CX0 5 fa fd ["_law_script"] (sp_law K) := by
  have e := hfa.symm.trans (PySem.W.mg_of X G a24)
  cases e
  have T : Txt mg := ⟨PySem.W.mg_none_of X G z_len, PySem.W.mg_none_of X G z_repr, PySem.W.mg_none_of X G z_min, PySem.W.mg_none_of X G z_max, PySem.W.mg_none_of X G z_tuple, PySem.W.mg_none_of X G z_list, PySem.W.mg_none_of X G z_int, PySem.W.mg_none_of X G z_range, PySem.W.mg_none_of X G z_sum, PySem.W.mg_none_of X G z_all, PySem.W.mg_none_of X G z_any, PySem.W.mg_none_of X G z_sorted, PySem.W.mg_none_of X G z_enumerate, PySem.W.mg_none_of X G z_isinstance, PySem.W.mg_none_of X G z_set⟩
  have F0 := fun_mk (st := s_law_feed) l0 c0 k0
  have b0 := F0.binds (ps := ["_law_script"]) fun _ _ _ _ _ _ us hl => match us, hl with | [_], _ => rfl
  have F1 := fun_mk (st := s_law_draw) l1 c1 k1
  have b1 := F1.binds (ps := ["_law_feed_here", "_law_many"]) fun _ _ _ _ _ _ us hl => match us, hl with | [_, _], _ => rfl
  have F2 := fun_mk (st := s_law_number) l2 c2 k2
  have b2 := F2.binds (ps := ["_law_feed_here", "_law_cycle"]) fun _ _ _ _ _ _ us hl => match us, hl with | [_, _], _ => rfl
  have F3 := fun_mk (st := s_law_names) l3 c3 k3
  have b3 := F3.binds (ps := ["_law_feed_here", "_law_many"]) fun _ _ _ _ _ _ us hl => match us, hl with | [_, _], _ => rfl
  have F4 := fun_mk (st := s_law_span) l4 c4 k4
  have b4 := F4.binds (ps := ["_law_feed_here", "_law_works", "_law_cycle"]) fun _ _ _ _ _ _ us hl => match us, hl with | [_, _, _], _ => rfl
  have F5 := fun_mk (st := s_law_fitting) l5 c5 k5
  have b5 := F5.binds (ps := ["_law_feed_here", "_law_beats_here", "_law_cycle"]) fun _ _ _ _ _ _ us hl => match us, hl with | [_, _, _], _ => rfl
  have F6 := fun_mk (st := s_law_plan) l6 c6 k6
  have b6 := F6.binds (ps := ["_law_feed_here", "_law_works", "_law_most", "_law_cycle"]) fun _ _ _ _ _ _ us hl => match us, hl with | [_, _, _, _], _ => rfl
  have F7 := fun_mk (st := s_law_beats) l7 c7 k7
  have b7 := F7.binds (ps := ["_law_feed_here", "_law_works", "_law_cycle"]) fun _ _ _ _ _ _ us hl => match us, hl with | [_, _, _], _ => rfl
  have F8 := fun_mk (st := s_law_whole) l8 c8 k8
  have b8 := F8.binds (ps := ["_law_thing", "_law_first", "_law_last"]) fun _ _ _ _ _ _ us hl => match us, hl with | [_, _, _], _ => rfl
  have F9 := fun_mk (st := s_law_end) l9 c9 k9
  have b9 := F9.binds (ps := ["_law_cycle", "_law_span_here"]) fun _ _ _ _ _ _ us hl => match us, hl with | [_, _], _ => rfl
  have F10 := fun_mk (st := s_law_windows) l10 c10 k10
  have b10 := F10.binds (ps := ["_law_plan_here", "_law_cycle"]) fun _ _ _ _ _ _ us hl => match us, hl with | [_, _], _ => rfl
  have F11 := fun_mk (st := s_law_ends) l11 c11 k11
  have b11 := F11.binds (ps := ["_law_plan_here", "_law_stays_here", "_law_entry"]) fun _ _ _ _ _ _ us hl => match us, hl with | [_, _, _], _ => rfl
  have F12 := fun_mk (st := s_law_sums) l12 c12 k12
  have b12 := F12.binds (ps := ["_law_beats_here", "_law_windows_here", "_law_ring_here"]) fun _ _ _ _ _ _ us hl => match us, hl with | [_, _, _], _ => rfl
  have F13 := fun_mk (st := s_law_bars) l13 c13 k13
  have b13 := F13.binds (ps := ["_law_cycle", "_law_sums_here"]) fun _ _ _ _ _ _ us hl => match us, hl with | [_, _], _ => rfl
  have F14 := fun_mk (st := s_law_onward) l14 c14 k14
  have b14 := F14.binds (ps := ["_law_plan_here", "_law_stays_here", "_law_here"]) fun _ _ _ _ _ _ us hl => match us, hl with | [_, _, _], _ => rfl
  have F15 := fun_mk (st := s_law_home_way) l15 c15 k15
  have b15 := F15.binds (ps := ["_law_plan_here", "_law_stays_here", "_law_here", "_law_begin"]) fun _ _ _ _ _ _ us hl => match us, hl with | [_, _, _, _], _ => rfl
  have F16 := fun_mk (st := s_law_ring) l16 c16 k16
  have b16 := F16.binds (ps := ["_law_feed_here", "_law_plan_here", "_law_stays_here", "_law_most"]) fun _ _ _ _ _ _ us hl => match us, hl with | [_, _, _, _], _ => rfl
  have F17 := fun_mk (st := s_law_turned_ring) l17 c17 k17
  have b17 := F17.binds (ps := ["_law_feed_here", "_law_ring_here"]) fun _ _ _ _ _ _ us hl => match us, hl with | [_, _], _ => rfl
  have F18 := fun_mk (st := s_law_stays) l18 c18 k18
  have b18 := F18.binds (ps := ["_law_feed_here", "_law_works"]) fun _ _ _ _ _ _ us hl => match us, hl with | [_, _], _ => rfl
  have F19 := fun_mk (st := s_law_other_windows) l19 c19 k19
  have b19 := F19.binds (ps := ["_law_feed_here", "_law_windows_here"]) fun _ _ _ _ _ _ us hl => match us, hl with | [_, _], _ => rfl
  have F20 := fun_mk (st := s_entry_sums) l20 c20 k20
  have b20 := F20.binds (ps := ["beats", "windows", "entry"]) fun _ _ _ _ _ _ us hl => match us, hl with | [_, _, _], _ => rfl
  have F21 := fun_mk (st := s_sums_of) l21 c21 k21
  have b21 := F21.binds (ps := ["plan", "period", "beats", "windows", "ring"]) fun _ _ _ _ _ _ us hl => match us, hl with | [_, _, _, _, _], _ => rfl
  have F22 := fun_mk (st := s_ring_bars) l22 c22 k22
  have b22 := F22.binds (ps := ["plan", "period", "beats", "windows", "ring"]) fun _ _ _ _ _ _ us hl => match us, hl with | [_, _, _, _, _], _ => rfl
  have F23 := fun_mk (st := s_law_right) l23 c23 k23
  have b23 := F23.binds (ps := ["_law_plan_here", "_law_cycle", "_law_beats_here", "_law_windows_here", "_law_ring_here"]) fun _ _ _ _ _ _ us hl => match us, hl with | [_, _, _, _, _], _ => rfl
  have F24 := fun_mk (st := s_law) l24 c24 k24
  have b24 := F24.binds (ps := ["_law_script"]) fun _ _ _ _ _ _ us hl => match us, hl with | [_], _ => rfl
  refine ⟨PySem.W.fnOf "law" "law" (defArgs s_law) (defBody s_law) (defScope s_law) .none kV24 dc24 pm24 an24 cd24 ct24, fun s v => .of_eq rfl, fun base _ _ => ?_⟩
  have D_law_feed : Def l.prog w K mg base 1 "_law_feed" ["_law_script"] (sp_feed K) := ⟨f0, _, ok_law_feed F0 T, PySem.W.mg_of X G a0, k0, b0⟩
  have D_law_draw : Def l.prog w K mg base 1 "_law_draw" ["_law_feed_here", "_law_many"] sp_draw := ⟨f1, _, ok_law_draw F1 T, PySem.W.mg_of X G a1, k1, b1⟩
  have D_law_number : Def l.prog w K mg base 2 "_law_number" ["_law_feed_here", "_law_cycle"] sp_number := ⟨f2, _, ok_law_number F2 T D_law_draw, PySem.W.mg_of X G a2, k2, b2⟩
  have D_law_names : Def l.prog w K mg base 2 "_law_names" ["_law_feed_here", "_law_many"] sp_names := ⟨f3, _, ok_law_names F3 T D_law_draw, PySem.W.mg_of X G a3, k3, b3⟩
  have D_law_span : Def l.prog w K mg base 3 "_law_span" ["_law_feed_here", "_law_works", "_law_cycle"] sp_span := ⟨f4, _, ok_law_span F4 T D_law_draw D_law_number, PySem.W.mg_of X G a4, k4, b4⟩
  have D_law_fitting : Def l.prog w K mg base 3 "_law_fitting" ["_law_feed_here", "_law_beats_here", "_law_cycle"] sp_fitting := ⟨f5, _, ok_law_fitting F5 T D_law_draw D_law_number, PySem.W.mg_of X G a5, k5, b5⟩
  have D_law_plan : Def l.prog w K mg base 4 "_law_plan" ["_law_feed_here", "_law_works", "_law_most", "_law_cycle"] (sp_plan K) := ⟨f6, _, ok_law_plan F6 T D_law_draw D_law_names D_law_span D_law_fitting, PySem.W.mg_of X G a6, k6, b6⟩
  have D_law_beats : Def l.prog w K mg base 2 "_law_beats" ["_law_feed_here", "_law_works", "_law_cycle"] sp_beats := ⟨f7, _, ok_law_beats F7 T D_law_draw, PySem.W.mg_of X G a7, k7, b7⟩
  have D_law_whole : Def l.prog w K mg base 1 "_law_whole" ["_law_thing", "_law_first", "_law_last"] sp_whole := ⟨f8, _, ok_law_whole F8 T (PySem.W.mg_none_of X G y_bool), PySem.W.mg_of X G a8, k8, b8⟩
  have D_law_end : Def l.prog w K mg base 1 "_law_end" ["_law_cycle", "_law_span_here"] sp_end := ⟨f9, _, ok_law_end F9 T, PySem.W.mg_of X G a9, k9, b9⟩
  have D_law_windows : Def l.prog w K mg base 2 "_law_windows" ["_law_plan_here", "_law_cycle"] (sp_all_windows K) := ⟨f10, _, ok_law_windows F10 T D_law_end, PySem.W.mg_of X G a10, k10, b10⟩
  have D_law_ends : Def l.prog w K mg base 2 "_law_ends" ["_law_plan_here", "_law_stays_here", "_law_entry"] (sp_ends8 K) := ⟨f11, _, ok_law_ends F11 T D_law_whole (PySem.W.mg_none_of X G y_str), PySem.W.mg_of X G a11, k11, b11⟩
  have D_law_sums : Def l.prog w K mg base 1 "_law_sums" ["_law_beats_here", "_law_windows_here", "_law_ring_here"] (sp_lsums8 K) := ⟨f12, _, ok_law_sums F12 T, PySem.W.mg_of X G a12, k12, b12⟩
  have D_law_bars : Def l.prog w K mg base 1 "_law_bars" ["_law_cycle", "_law_sums_here"] sp_bars8 := ⟨f13, _, ok_law_bars F13 T, PySem.W.mg_of X G a13, k13, b13⟩
  have D_law_onward : Def l.prog w K mg base 1 "_law_onward" ["_law_plan_here", "_law_stays_here", "_law_here"] (sp_onward8 K) := ⟨f14, _, ok_law_onward F14 T, PySem.W.mg_of X G a14, k14, b14⟩
  have D_law_home_way : Def l.prog w K mg base 3 "_law_home_way" ["_law_plan_here", "_law_stays_here", "_law_here", "_law_begin"] (sp_home_way8 K) := ⟨f15, _, ok_law_home_way F15 T D_law_onward D_law_ends, PySem.W.mg_of X G a15, k15, b15⟩
  have D_law_ring : Def l.prog w K mg base 4 "_law_ring" ["_law_feed_here", "_law_plan_here", "_law_stays_here", "_law_most"] (sp_ring8 K) := ⟨f16, _, ok_law_ring F16 T D_law_draw D_law_onward D_law_ends D_law_home_way, PySem.W.mg_of X G a16, k16, b16⟩
  have D_law_turned_ring : Def l.prog w K mg base 2 "_law_turned_ring" ["_law_feed_here", "_law_ring_here"] (sp_turned8 K) := ⟨f17, _, ok_law_turned_ring F17 T D_law_draw, PySem.W.mg_of X G a17, k17, b17⟩
  have D_law_stays : Def l.prog w K mg base 2 "_law_stays" ["_law_feed_here", "_law_works"] sp_stays8 := ⟨f18, _, ok_law_stays F18 T D_law_draw, PySem.W.mg_of X G a18, k18, b18⟩
  have D_law_other_windows : Def l.prog w K mg base 2 "_law_other_windows" ["_law_feed_here", "_law_windows_here"] (sp_others8 K) := ⟨f19, _, ok_law_other_windows F19 T D_law_draw, PySem.W.mg_of X G a19, k19, b19⟩
  have D_entry_sums : Def l.prog w K mg base 1 "entry_sums" ["beats", "windows", "entry"] (sp_entry_sums8 K) := ⟨f20, _, ok_entry_sums F20 T, PySem.W.mg_of X G a20, k20, b20⟩
  have D_sums_of : Def l.prog w K mg base 2 "sums_of" ["plan", "period", "beats", "windows", "ring"] (sp_sums_of8 K) := ⟨f21, _, ok_sums_of F21 T D_entry_sums, PySem.W.mg_of X G a21, k21, b21⟩
  have D_ring_bars : Def l.prog w K mg base 3 "ring_bars" ["plan", "period", "beats", "windows", "ring"] (sp_ring_bars8 K) := ⟨f22, _, ok_ring_bars F22 T D_sums_of, PySem.W.mg_of X G a22, k22, b22⟩
  have D_law_right : Def l.prog w K mg base 4 "_law_right" ["_law_plan_here", "_law_cycle", "_law_beats_here", "_law_windows_here", "_law_ring_here"] (sp_right8 K) := ⟨f23, _, ok_law_right F23 T D_law_sums D_sums_of D_ring_bars D_law_bars (PySem.W.mg_none_of X G y_bool), PySem.W.mg_of X G a23, k23, b23⟩
  exact ok_law F24 T D_law_feed D_law_draw D_law_plan D_law_beats D_law_windows D_law_stays D_law_other_windows D_law_ring D_law_turned_ring D_law_right
theorem walk {l : PySem.W.OpenLaw} {q : Program} {loose : List Str} {XP : (Str → Option Value) → Heap → Prop} {YP : World → Heap → Prop} {d : DefRec} {K : Params → PySem.W.Frag} (hn : l.most = some 63) (hdf : d.params.defaults = [])
    (hY : ∀ (w : World) (h : Heap), YP w h → (K w.params).In h)
    (F : ∀ (w : World) (mg : Str → Option Value) (fa : Addr) (h : Heap), (K w.params).In h → h.Ns mainGlobals mg → mg d.name = some (.ref fa) →
      ∃ fd : FuncData, (∀ (s : Shared) (u : Value), BindsTo s fd ⟨[u], []⟩ [("_law_script", u)]) ∧ ∀ base : Heap, (K w.params).In base → base.Ns mainGlobals mg → FnOk l.prog w (K w.params) mg base CX0 5 fa fd ["_law_script"] (sp_law (K w.params))) :
    PySem.W.WalkO q loose XP YP l.row.toRowW d [] (fun f vs => PySem.call f vs) :=
  L2.walk_of (n := 63) (k := 5) (x := "_law_script") (CX := fun _ => CX0) (sp := fun w => sp_law (K w.params)) hn (by decide) hdf ⟨rfl, by decide, by decide, rfl⟩ hY F (fun _ _ a ns hl _ hS => ⟨a, ns, rfl, hS, hl, fun _ => rfl⟩) fun _ _ _ _ _ z => z
end Bp
open PySem PySem.W PyProof.Rows
set_option maxRecDepth 100000 in
set_option maxHeartbeats 0 in
theorem PySem.Challenge.cw_beatplans_k08_sums_and_bars_holds : PySem.Challenge.rw_beatplans_k08_sums_and_bars.Holds := by
  w_on; o_law; k_head; (case hw => w_witness2)
  k_fill
  refine Bp.walk (l := PySem.Challenge.rw_beatplans_k08_sums_and_bars) rfl rfl (fun w h Y => PySem.W.kIn_of Y) ?F
  case F =>
    intro w mg fa h KX G hmg
    refine' Bp.all_mk KX G hmg ?a0 ?l0 ?c0 ?k0 ?a1 ?l1 ?c1 ?k1 ?a2 ?l2 ?c2 ?k2 ?a3 ?l3 ?c3 ?k3 ?a4 ?l4 ?c4 ?k4 ?a5 ?l5 ?c5 ?k5 ?a6 ?l6 ?c6 ?k6 ?a7 ?l7 ?c7 ?k7 ?a8 ?l8 ?c8 ?k8 ?a9 ?l9 ?c9 ?k9 ?a10 ?l10 ?c10 ?k10 ?a11 ?l11 ?c11 ?k11 ?a12 ?l12 ?c12 ?k12 ?a13 ?l13 ?c13 ?k13 ?a14 ?l14 ?c14 ?k14 ?a15 ?l15 ?c15 ?k15 ?a16 ?l16 ?c16 ?k16 ?a17 ?l17 ?c17 ?k17 ?a18 ?l18 ?c18 ?k18 ?a19 ?l19 ?c19 ?k19 ?a20 ?l20 ?c20 ?k20 ?a21 ?l21 ?c21 ?k21 ?a22 ?l22 ?c22 ?k22 ?a23 ?l23 ?c23 ?k23 ?a24 ?l24 ?c24 ?k24 ?z_len ?z_repr ?z_min ?z_max ?z_tuple ?z_list ?z_int ?z_range ?z_sum ?z_all ?z_any ?z_sorted ?z_enumerate ?z_isinstance ?z_set ?y_bool ?y_str
    (case a0 => k_is)
    (case l0 => k_is)
    (case c0 => k_is)
    (case k0 => k_is)
    (case a1 => k_is)
    (case l1 => k_is)
    (case c1 => k_is)
    (case k1 => k_is)
    (case a2 => k_is)
    (case l2 => k_is)
    (case c2 => k_is)
    (case k2 => k_is)
    (case a3 => k_is)
    (case l3 => k_is)
    (case c3 => k_is)
    (case k3 => k_is)
    (case a4 => k_is)
    (case l4 => k_is)
    (case c4 => k_is)
    (case k4 => k_is)
    (case a5 => k_is)
    (case l5 => k_is)
    (case c5 => k_is)
    (case k5 => k_is)
    (case a6 => k_is)
    (case l6 => k_is)
    (case c6 => k_is)
    (case k6 => k_is)
    (case a7 => k_is)
    (case l7 => k_is)
    (case c7 => k_is)
    (case k7 => k_is)
    (case a8 => k_is)
    (case l8 => k_is)
    (case c8 => k_is)
    (case k8 => k_is)
    (case a9 => k_is)
    (case l9 => k_is)
    (case c9 => k_is)
    (case k9 => k_is)
    (case a10 => k_is)
    (case l10 => k_is)
    (case c10 => k_is)
    (case k10 => k_is)
    (case a11 => k_is)
    (case l11 => k_is)
    (case c11 => k_is)
    (case k11 => k_is)
    (case a12 => k_is)
    (case l12 => k_is)
    (case c12 => k_is)
    (case k12 => k_is)
    (case a13 => k_is)
    (case l13 => k_is)
    (case c13 => k_is)
    (case k13 => k_is)
    (case a14 => k_is)
    (case l14 => k_is)
    (case c14 => k_is)
    (case k14 => k_is)
    (case a15 => k_is)
    (case l15 => k_is)
    (case c15 => k_is)
    (case k15 => k_is)
    (case a16 => k_is)
    (case l16 => k_is)
    (case c16 => k_is)
    (case k16 => k_is)
    (case a17 => k_is)
    (case l17 => k_is)
    (case c17 => k_is)
    (case k17 => k_is)
    (case a18 => k_is)
    (case l18 => k_is)
    (case c18 => k_is)
    (case k18 => k_is)
    (case a19 => k_is)
    (case l19 => k_is)
    (case c19 => k_is)
    (case k19 => k_is)
    (case a20 => k_is)
    (case l20 => k_is)
    (case c20 => k_is)
    (case k20 => k_is)
    (case a21 => k_is)
    (case l21 => k_is)
    (case c21 => k_is)
    (case k21 => k_is)
    (case a22 => k_is)
    (case l22 => k_is)
    (case c22 => k_is)
    (case k22 => k_is)
    (case a23 => k_is)
    (case l23 => k_is)
    (case c23 => k_is)
    (case k23 => k_is)
    (case a24 => k_is)
    (case l24 => k_is)
    (case c24 => k_is)
    (case k24 => k_is)
    (case z_len => k_is)
    (case z_repr => k_is)
    (case z_min => k_is)
    (case z_max => k_is)
    (case z_tuple => k_is)
    (case z_list => k_is)
    (case z_int => k_is)
    (case z_range => k_is)
    (case z_sum => k_is)
    (case z_all => k_is)
    (case z_any => k_is)
    (case z_sorted => k_is)
    (case z_enumerate => k_is)
    (case z_isinstance => k_is)
    (case z_set => k_is)
    (case y_bool => k_is)
    (case y_str => k_is)
