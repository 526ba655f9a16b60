import PyProof.Rows.All
import Wide.All
import OpenK.AllK
import Wide.FinOn
import Lean
import PyProof.EqAt
import PyProof.EqKinds
import PyProof.TupleCall
import PySem.Challenge.RW_talkhall_k03_rows
set_option Elab.async false
set_option linter.all false
set_option maxRecDepth 100000
/-! THE HAND LAYER, for ints, bools, texts, own classes, LISTS and tuples (index, slices, in, append, pop ..), calls, loops. Paste it whole ahead of your own text; what your proof does not reach may be deleted. -/
namespace L2
open PySem PySem.Spec PyProof.Rows

/-- a key: an int or a str -/
abbrev Key := Sum Int Str
def keyIs : Key → Value → Bool
  | .inl k, v => Value.isInt k v
  | .inr x, v => Value.isStrOf x v
def keyH (w : World) : Key → Int
  | .inl k => hashInt k
  | .inr x => hashStr w x
theorem keyIs_shape : ∀ {k : Key} {v : Value}, keyIs k v = true → (∃ i t, k = Sum.inl i ∧ v = Value.int i t) ∨ (∃ x t, k = Sum.inr x ∧ v = Value.str x t)
  | .inl i, v, h => by
    obtain ⟨t, e⟩ := Value.isInt_shape (k := i) (v := v) h
    exact .inl ⟨i, t, rfl, e⟩
  | .inr x, v, h => by
    obtain ⟨t, e⟩ := Value.isStrOf_shape (x := x) (v := v) h
    exact .inr ⟨x, t, rfl, e⟩
theorem keyIs_int (i : Int) (t : Tok) : keyIs (.inl i) (.int i t) = true := by simp [keyIs, Value.isInt]
theorem keyIs_str (x : Str) (t : Tok) : keyIs (.inr x) (.str x t) = true := by simp [keyIs, Value.isStrOf]
theorem key_ll (a b : Int) : decide ((Sum.inl a : Key) = Sum.inl b) = (a == b) := by
  by_cases e : a = b
  · subst e; simp
  · have h : ¬ (Sum.inl a : Key) = Sum.inl b := fun q => e (Sum.inl.inj q)
    rw [decide_eq_false h]
    exact (beq_eq_false_iff_ne.mpr e).symm
theorem key_rr (a b : Str) : decide ((Sum.inr a : Key) = Sum.inr b) = decide (a = b) := by
  by_cases e : a = b
  · subst e; simp
  · have h : ¬ (Sum.inr a : Key) = Sum.inr b := fun q => e (Sum.inr.inj q)
    rw [decide_eq_false h, decide_eq_false e]
theorem key_lr (a : Int) (b : Str) : decide ((Sum.inl a : Key) = Sum.inr b) = false := decide_eq_false (fun q => nomatch q)
theorem key_rl (a : Str) (b : Int) : decide ((Sum.inr a : Key) = Sum.inl b) = false := decide_eq_false (fun q => nomatch q)

def mixKind (prog : Program) (w : World) : PySem.KeyKind prog w Key where
  is := keyIs
  hash := keyH w
  inj := fun v a b ha hb => by
    rcases keyIs_shape ha with ⟨i, t, rfl, rfl⟩ | ⟨x, t, rfl, rfl⟩
    · rcases keyIs_shape hb with ⟨j, u, rfl, e⟩ | ⟨y, u, rfl, e⟩
      · injection e with e1 _; rw [e1]
      · exact nomatch e
    · rcases keyIs_shape hb with ⟨j, u, rfl, e⟩ | ⟨y, u, rfl, e⟩
      · exact nomatch e
      · injection e with e1 _; rw [e1]
  byValue := fun k v h => by
    rcases keyIs_shape h with ⟨i, t, rfl, rfl⟩ | ⟨x, t, rfl, rfl⟩ <;> rfl
  pyHash := fun hv h => by
    rcases keyIs_shape hv with ⟨i, t, rfl, rfl⟩ | ⟨x, t, rfl, rfl⟩
    · exact wpAny_pyHash_int h
    · exact wpAny_pyHash_str h
  eqBool := fun hu hv h => by
    rcases keyIs_shape hu with ⟨i, t, rfl, rfl⟩ | ⟨x, t, rfl, rfl⟩
    · rcases keyIs_shape hv with ⟨j, u, rfl, rfl⟩ | ⟨y, u, rfl, rfl⟩
      · rw [key_ll] at h; exact wpAny_eqBool_int h
      · rw [key_lr] at h; exact SeqAt.EqAt.int_str i t y u _ _ _ _ h
    · rcases keyIs_shape hv with ⟨j, u, rfl, rfl⟩ | ⟨y, u, rfl, rfl⟩
      · rw [key_rl] at h; exact SeqAt.EqAt.str_int x t j u _ _ _ _ h
      · rw [key_rr] at h; exact wpAny_eqBool_str h
  «strs» := fun k x t v h => by
    rcases keyIs_shape h with ⟨i, u, rfl, e⟩ | ⟨y, u, rfl, e⟩
    · exact nomatch e
    · injection e with e1 _
      subst e1
      cases v <;> rfl

theorem mixKind_is (prog : Program) (w : World) (k : Key) (v : Value) : (mixKind prog w).is k v = keyIs k v := rfl
theorem mixKind_int (prog : Program) (w : World) (i : Int) (t : Tok) : (mixKind prog w).is (.inl i) (.int i t) = true := keyIs_int i t
theorem mixKind_str (prog : Program) (w : World) (x : Str) (t : Tok) : (mixKind prog w).is (.inr x) (.str x t) = true := keyIs_str x t
end L2

namespace L2
open PySem PySem.Spec PyProof.Rows

/-- a value, without the heap -/
inductive V where
  | non | bl (b : Bool) | int (i : Int) | str (x : Str) | byt (b : Array UInt8) | flt (b : UInt64) | ref (a : Addr) | ty (n : String)
  deriving DecidableEq

def RelV : V → Value → Prop
  | .non, u => u = Value.none
  | .bl b, u => u = Value.bool b
  | .int i, u => ∃ t, u = Value.int i t
  | .str x, u => ∃ t, u = Value.str x t
  | .byt b, u => ∃ t, u = Value.bytes b t
  | .flt b, u => ∃ t, u = Value.float b t
  | .ref a, u => u = Value.ref a
  | .ty n, u => u = Value.type n

abbrev Vals : List V → List Value → Prop := Paired RelV
theorem Vals.length {xs : List V} {us : List Value} (r : Vals xs us) : xs.length = us.length := Paired.length r
theorem Vals.get : ∀ {xs : List V} {us : List Value} {i : Nat} {x : V}, Vals xs us → xs[i]? = some x → ∃ u, us[i]? = some u ∧ RelV x u
  | _, _, _, _, .nil, e => by simp at e
  | _, _, 0, _, .cons r _, e => by simp at e; subst e; exact ⟨_, rfl, r⟩
  | _, _, i + 1, x, .cons _ t, e => by
    obtain ⟨u, h1, h2⟩ := Vals.get (i := i) (x := x) t (by simpa using e)
    exact ⟨u, by simpa using h1, h2⟩
theorem Vals.set {x : V} {u : Value} (r : RelV x u) : ∀ {xs : List V} {us : List Value} (i : Nat), Vals xs us → Vals (xs.set i x) (us.set i u)
  | _, _, _, .nil => .nil
  | _, _, 0, .cons _ t => .cons r t
  | _, _, i + 1, .cons q t => .cons q (Vals.set r i t)
theorem Vals.append : ∀ {xs ys : List V} {us ws : List Value}, Vals xs us → Vals ys ws → Vals (xs ++ ys) (us ++ ws)
  | _, _, _, _, .nil, s => s
  | _, _, _, _, .cons r t, s => .cons r (Vals.append t s)
theorem Vals.take : ∀ {xs : List V} {us : List Value} (n : Nat), Vals xs us → Vals (xs.take n) (us.take n)
  | _, _, 0, _ => .nil
  | _, _, _ + 1, .nil => .nil
  | _, _, n + 1, .cons r t => .cons r (Vals.take n t)
theorem Vals.drop : ∀ {xs : List V} {us : List Value} (n : Nat), Vals xs us → Vals (xs.drop n) (us.drop n)
  | _, _, 0, r => r
  | _, _, _ + 1, .nil => .nil
  | _, _, n + 1, .cons _ t => Vals.drop n t
theorem Vals.none_of : ∀ {xs : List V} {us : List Value} {i : Nat}, Vals xs us → xs[i]? = none → us[i]? = none := fun {xs us i} r e => by
  have h1 := r.length
  have h2 : xs.length ≤ i := List.getElem?_eq_none_iff.mp e
  exact List.getElem?_eq_none_iff.mpr (by omega)

def RelO : Option V → Option Value → Prop
  | some v, some u => RelV v u
  | none, none => True
  | _, _ => False
def KV {κ : Type} : List (κ × V) → List (κ × Value) → Prop := Paired fun (p : κ × V) (q : κ × Value) => p.1 = q.1 ∧ RelV p.2 q.2

/-- a key of a dict (00_mix): an int or a text -/
def kV : Key → V
  | .inl i => .int i
  | .inr x => .str x

/-- what stands at a tracked address -/
inductive HO where
  /-- a list -/
  | lst (xs : List V)
  /-- a tuple (never changes) -/
  | tup (xs : List V)
  /-- a dict whose keys are ints and texts; one whose keys are tuples of ints and texts (the empty one is both) -/
  | dK (kvs : List (Key × V)) | dT (kvs : List (List Key × V))
  /-- a set of ints: its members, its size -/
  | set (S : Int → Bool) (n : Nat)
  /-- an instance of the class at C, its dict at dx, its attributes -/
  | ins (C dx : Addr) (fs : List (Str × V))
  /-- the dict of the instance at x -/
  | own (x : Addr)
  /-- the dict of an exception -/
  | xd (fs : List (Str × V))
  /-- a bound method, f of x -/
  | met (f x : Addr)
  /-- a range object lo, lo + 1, .. below hi -/
  | rng (lo hi : Int)
  /-- a thing that is known to the object (the script; a dict while a loop walks it): read, never written while it is so -/
  | frz (o : Obj) (u : HO)
  /-- a code object's table -/
  | tbl (ps : Array Value)
  /-- any other thing, by what is true of its one object (a def of one's own: SetO a S n := HO.ext fun h => ..) -/
  | ext (φ : Heap → Prop)

abbrev Hp := Addr → Option HO
def upd (H : Hp) (a : Addr) (o : HO) : Hp := fun b => if b = a then some o else H b
theorem upd_same {H : Hp} {a : Addr} {o : HO} : upd H a o a = some o := by unfold upd; rw [if_pos rfl]
theorem upd_ne {H : Hp} {a b : Addr} {o : HO} (h : b ≠ a) : upd H a o b = H b := by unfold upd; rw [if_neg h]
theorem upd_upd {H : Hp} {a : Addr} {o u : HO} : upd (upd H a o) a u = upd H a u := by
  funext b; unfold upd; split <;> rfl
/-- two objects of different content stand apart -/
theorem ne_of {H : Hp} {a b : Addr} {o u : HO} (h : H a = some o) (h' : H b = some u) (d : o ≠ u) : a ≠ b := by
  intro e; subst e; rw [h] at h'; exact d (Option.some.inj h')
theorem ne_of_none {H : Hp} {a b : Addr} {o : HO} (h : H a = some o) (h' : H b = none) : a ≠ b := by
  intro e; subst e; rw [h] at h'; cases h'

section
variable (P : Program) (w : World)
def ObjOk (H : Hp) (h : Heap) (a : Addr) : HO → Prop
  | .lst xs => xs.length ≤ sizeLine ∧ ∃ (its : List Value) (n : Nat), Vals xs its ∧ h.get? a = some { cls := .type "list", data := .seq its.toArray n }
  | .tup xs => xs.length ≤ sizeLine ∧ ∃ its : List Value, Vals xs its ∧ IsTup h a its.toArray
  | .dK kvs => kvs.length ≤ sizeLine ∧ (a == sysModules) = false ∧ ∃ vs, KV kvs vs ∧ h.DictOf (mixKind P w) a vs
  | .dT kvs => kvs.length ≤ sizeLine ∧ (a == sysModules) = false ∧ ∃ xs : List (List Key × Addr × Value),
      Paired (fun (p : List Key × V) (q : List Key × Addr × Value) => p.1 = q.1 ∧ H q.2.1 = some (.tup (p.1.map kV)) ∧ RelV p.2 q.2.2) kvs xs ∧
      ∃ o es ep, h.get? a = some o ∧ o.ExactDict ∧ o.data = .dict es ep ∧ es.toList = xs.map (entryOfKey (tupleKind (mixKind P w))) ∧ (xs.map (·.1)).Nodup
  | .set S n => h.SetOf (intKind P w) a S n
  | .ins C dx fs => H dx = some (.own a) ∧ fs.length ≤ 1000 ∧ dx ≠ a ∧ h.get? a = some (PySem.W.instObj C dx) ∧
      ∃ mA, h.Ns1 dx mA ∧ (∀ f, RelO (fs.lookup f) (mA f)) ∧ PySem.Within mA (fs.map (·.1))
  | .own _ => ∃ o, h.get? a = some o
  | .xd fs => ∃ mA, h.Ns1 a mA ∧ ∀ f, RelO (fs.lookup f) (mA f)
  | .rng lo hi => ∃ t u v, h.get? a = some { cls := .type "range", data := .fields #[.int lo t, .int hi u, .int 1 v] }
  | .frz o u => h.get? a = some o ∧ ObjOk H h a u
  | .tbl ps => h.get? a = some { cls := .none, data := .fields ps }
  | .met f x => h.get? a = some (PySem.W.methodObj (.ref f) (.ref x))
  | .ext φ => φ h ∧ (∃ o, h.get? a = some o) ∧ ∀ h1 h2 : Heap, φ h1 → (∀ o, h1.get? a = some o → h2.get? a = some o) → φ h2
/-- the abstract heap is held -/
def HOk (H : Hp) (h : Heap) : Prop := ∀ a o, H a = some o → ObjOk P w H h a o
end

section
variable {P : Program} {w : World} {H H' : Hp} {h h' : Heap} {a : Addr} {o : HO}
theorem ObjOk.lt (x : ObjOk P w H h a o) : a < h.objs.size := by
  cases o with
  | lst xs => obtain ⟨_, _, _, _, e⟩ := x; exact Heap.lt_size e
  | tup xs => obtain ⟨_, _, _, p⟩ := x; exact p.lt
  | dK kvs => obtain ⟨_, _, _, _, o, _, _, e, _⟩ := x; exact Heap.lt_size e
  | dT kvs => obtain ⟨_, _, _, _, o, _, _, e, _⟩ := x; exact Heap.lt_size e
  | set S n => obtain ⟨o, _, _, _, e, _⟩ := x; exact Heap.lt_size e
  | ins C dx fs => obtain ⟨_, _, _, e, _⟩ := x; exact Heap.lt_size e
  | own y => obtain ⟨_, e⟩ := x; exact Heap.lt_size e
  | xd fs => obtain ⟨_, ⟨_, _, _, e, _⟩, _⟩ := x; exact Heap.lt_size e
  | rng lo hi => obtain ⟨_, _, _, e⟩ := x; exact Heap.lt_size e
  | frz ob u => obtain ⟨e, _⟩ := x; exact Heap.lt_size e
  | tbl ps => exact Heap.lt_size (show h.get? a = some _ from x)
  | met f y => exact Heap.lt_size (show h.get? a = some _ from x)
  | ext φ => obtain ⟨_, ⟨_, e⟩, _⟩ := x; exact Heap.lt_size e
theorem Paired.mapP {α β : Type} {F G : α → β → Prop} : ∀ {l₁ : List α} {l₂ : List β}, Paired F l₁ l₂ → (∀ a b, F a b → G a b) → Paired G l₁ l₂
  | _, _, .nil, _ => .nil
  | _, _, .cons r t, f => .cons (f _ _ r) (Paired.mapP t f)
theorem Paired.imp' {α β : Type} {F G : α → β → Prop} (f : ∀ a b, F a b → G a b) {l₁ : List α} {l₂ : List β} (r : Paired F l₁ l₂) : Paired G l₁ l₂ := Paired.mapP r f
/-- what an object's description leans on: its own object, its own dict, the tuples -/
theorem ObjOk.stay (x : ObjOk P w H h a o) (k : ∀ b u, (b = a ∨ H b = some (.own a)) → h.get? b = some u → h'.get? b = some u)
    (ho : ∀ b, H b = some (.own a) → H' b = some (.own a)) (ht : ∀ b xs, H b = some (.tup xs) → H' b = some (.tup xs)) : ObjOk P w H' h' a o := by
  induction o with
  | lst xs => obtain ⟨z, its, n, r, e⟩ := x; exact ⟨z, its, n, r, k _ _ (.inl rfl) e⟩
  | tup xs => obtain ⟨z, its, r, ob, e, c⟩ := x; exact ⟨z, its, r, ob, k _ _ (.inl rfl) e, c⟩
  | dK kvs => obtain ⟨z, y, vs, r, ob, es, ep, e, c⟩ := x; exact ⟨z, y, vs, r, ob, es, ep, k _ _ (.inl rfl) e, c⟩
  | dT kvs =>
    obtain ⟨z, y, xs, r, ob, es, ep, e, c⟩ := x
    exact ⟨z, y, xs, Paired.mapP r fun p q z => ⟨z.1, ht _ _ z.2.1, z.2.2⟩, ob, es, ep, k _ _ (.inl rfl) e, c⟩
  | set S n => obtain ⟨ob, es, ep, t, e, c⟩ := x; exact ⟨ob, es, ep, t, k _ _ (.inl rfl) e, c⟩
  | ins C dx fs =>
    obtain ⟨d, z, ne, e, mA, ⟨od, es, ep, e2, c⟩, r⟩ := x
    exact ⟨ho _ d, z, ne, k _ _ (.inl rfl) e, mA, ⟨od, es, ep, k _ _ (.inr d) e2, c⟩, r⟩
  | own y => obtain ⟨ob, e⟩ := x; exact ⟨ob, k _ _ (.inl rfl) e⟩
  | xd fs => obtain ⟨mA, ⟨od, es, ep, e, c⟩, r⟩ := x; exact ⟨mA, ⟨od, es, ep, k _ _ (.inl rfl) e, c⟩, r⟩
  | rng lo hi => obtain ⟨t, u, v, e⟩ := x; exact ⟨t, u, v, k _ _ (.inl rfl) e⟩
  | frz ob u ih => obtain ⟨e, q⟩ := x; exact ⟨k _ _ (.inl rfl) e, ih q⟩
  | tbl ps =>
    have e : h.get? a = some { cls := .none, data := .fields ps } := x
    show h'.get? a = some { cls := .none, data := .fields ps }
    exact k a _ (.inl rfl) e
  | met f y =>
    have e : h.get? a = some (PySem.W.methodObj (.ref f) (.ref y)) := x
    show h'.get? a = some (PySem.W.methodObj (.ref f) (.ref y))
    exact k a _ (.inl rfl) e
  | ext φ => obtain ⟨p, ⟨o, e⟩, st⟩ := x; exact ⟨st _ _ p fun o q => k _ _ (.inl rfl) q, ⟨o, k _ _ (.inl rfl) e⟩, st⟩
theorem HOk.lt (x : HOk P w H h) (e : H a = some o) : a < h.objs.size := (x a o e).lt
theorem HOk.fresh (x : HOk P w H h) (e : h.objs.size ≤ a) : H a = none := by
  cases q : H a with
  | none => rfl
  | some u => exact absurd (Nat.lt_of_lt_of_le (x.lt q) e) (Nat.lt_irrefl _)
/-- every object of the heap is kept -/
theorem HOk.kept (x : HOk P w H h) (k : ∀ b u, h.get? b = some u → h'.get? b = some u) : HOk P w H h' := fun a o e =>
  (x a o e).stay (fun b u _ q => k b u q) (fun _ q => q) fun _ _ q => q
/-- a new object is laid and tracked -/
theorem HOk.laid (x : HOk P w H h) (k : ∀ b u, h.get? b = some u → h'.get? b = some u) (hp : h.objs.size ≤ a) (new : ObjOk P w (upd H a o) h' a o) : HOk P w (upd H a o) h' := fun b u e => by
  have hn := x.fresh hp
  by_cases hb : b = a
  · subst hb; rw [upd_same] at e; cases e; exact new
  · rw [upd_ne hb] at e
    exact (x b u e).stay (fun c v _ q => k c v q) (fun c q => by rw [upd_ne (ne_of_none q hn)]; exact q) fun c xs q => by rw [upd_ne (ne_of_none q hn)]; exact q
end

/-- what may be read as u: it is u, or a known u -/
def Rd (H : Hp) (a : Addr) (u : HO) : Prop := H a = some u ∨ ∃ o, H a = some (.frz o u)
theorem Rd.of {H : Hp} {a : Addr} {u : HO} (h : H a = some u) : Rd H a u := .inl h
theorem Rd.ok {P : Program} {w : World} {H : Hp} {h : Heap} {a : Addr} {u : HO} (r : Rd H a u) (x : HOk P w H h) : ObjOk P w H h a u := by
  rcases r with r | ⟨o, r⟩
  · exact x a u r
  · obtain ⟨_, q⟩ := x a _ r
    exact q
/-- what may be written -/
def Mut : Option HO → Prop
  | some (.lst _) => True
  | some (.dK _) => True
  | some (.dT _) => True
  | some (.set _ _) => True
  | some (.ins _ _ _) => True
  | some (.ext _) => True
  | _ => False
section
variable {P : Program} {w : World} {H : Hp} {h h' : Heap} {x e : Addr} {o' : HO}
/-- the object at e is changed: x itself, or the dict of the instance x -/
theorem HOk.write (ok : HOk P w H h) (mu : Mut (H x)) (he : e = x ∨ H e = some (.own x)) (k : ∀ b u, b ≠ e → h.get? b = some u → h'.get? b = some u) (heo : ∃ u, h'.get? e = some u)
    (new : ObjOk P w (upd H x o') h' x o') : HOk P w (upd H x o') h' := fun b u q => by
  have nown : ∀ c y, H c = some (.own y) → c ≠ x := fun c y r z => by subst z; rw [r] at mu; exact mu
  have ntup : ∀ c xs, H c = some (.tup xs) → c ≠ x := fun c xs r z => by subst z; rw [r] at mu; exact mu
  by_cases hb : b = x
  · subst hb; rw [upd_same] at q; cases q; exact new
  · rw [upd_ne hb] at q
    by_cases hbe : b = e
    · have q' : H b = some (.own x) := by
        rcases he with z | z
        · exact absurd (hbe.trans z) hb
        · rw [hbe]; exact z
      rw [q] at q'; cases q'
      obtain ⟨v, hv⟩ := heo
      exact ⟨v, by rw [hbe]; exact hv⟩
    · refine (ok b u q).stay (fun c v hc r => k c v ?_ r) (fun c r => by rw [upd_ne (nown c b r)]; exact r) fun c xs r => by rw [upd_ne (ntup c xs r)]; exact r
      rcases hc with rfl | hc
      · exact hbe
      · rintro rfl
        rcases he with z | z
        · exact nown c b hc z
        · rw [hc] at z; cases z; exact hb rfl
end

/-! ### kept unless tracked; of the frames at fs (the callers') the slots may change (an exception that passes writes there); of the records at ex (iterators) nothing is said -/
structure Un (fs ex : List Addr) (H H' : Hp) (h h' : Heap) : Prop where
  keep : ∀ b o, h.get? b = some o → H b = none → b ∉ fs → b ∉ ex → h'.get? b = some o
  slot : ∀ b o, h.get? b = some o → H b = none → b ∈ fs → b ∉ ex → ∃ sl, h'.get? b = some { o with slots := sl }
  free : ∀ b o, h.get? b = some o → H b = none → b ∉ ex → H' b = none
  there : ∀ b o, h.get? b = some o → b ∉ ex → ∃ o', h'.get? b = some o'
  tups : ∀ b xs, H b = some (.tup xs) → H' b = some (.tup xs)
  frzs : ∀ b o u, H b = some (.frz o u) → H' b = some (.frz o u)
  tbls : ∀ b ps, H b = some (.tbl ps) → ∃ more, H' b = some (.tbl (ps ++ more))
section
variable {fs fs' ex ex' : List Addr} {H H1 H2 : Hp} {h h1 h2 h' : Heap} {a x e : Addr} {o : HO}
theorem Un.any (u : Un fs ex H H1 h h1) {b : Addr} {ob : Obj} (q : h.get? b = some ob) (n : H b = none) (hx : b ∉ ex) : ∃ sl, h1.get? b = some { ob with slots := sl } := by
  by_cases hb : b ∈ fs
  · exact u.slot b ob q n hb hx
  · exact ⟨ob.slots, u.keep b ob q n hb hx⟩
theorem Un.trans (a : Un fs ex H H1 h h1) (b : Un fs ex H1 H2 h1 h2) : Un fs ex H H2 h h2 where
  keep := fun c ob q n hc hx => b.keep c ob (a.keep c ob q n hc hx) (a.free c ob q n hx) hc hx
  slot := fun c ob q n hc hx => by
    obtain ⟨sl, e1⟩ := a.slot c ob q n hc hx
    obtain ⟨sl', e2⟩ := b.slot c _ e1 (a.free c ob q n hx) hc hx
    exact ⟨sl', e2⟩
  free := fun c ob q n hx => by
    obtain ⟨o', e1⟩ := a.there c ob q hx
    exact b.free c o' e1 (a.free c ob q n hx) hx
  there := fun c ob q hx => by
    obtain ⟨o', e1⟩ := a.there c ob q hx
    exact b.there c o' e1 hx
  tups := fun c xs q => b.tups c xs (a.tups c xs q)
  frzs := fun c ob xs q => b.frzs c ob xs (a.frzs c ob xs q)
  tbls := fun c ps q => by
    obtain ⟨m1, e1⟩ := a.tbls c ps q
    obtain ⟨m2, e2⟩ := b.tbls c _ e1
    exact ⟨m1 ++ m2, by rw [e2, Array.append_assoc]⟩
theorem Un.kept (k : ∀ b u, h.get? b = some u → h'.get? b = some u) : Un fs ex H H h h' :=
  ⟨fun b ob q _ _ _ => k b ob q, fun b ob q _ _ _ => ⟨ob.slots, k b ob q⟩, fun _ _ _ n _ => n, fun b ob q _ => ⟨ob, k b ob q⟩, fun _ _ q => q, fun _ _ _ q => q, fun _ ps q => ⟨#[], by rw [q]; simp⟩⟩
theorem Un.refl : Un fs ex H H h h := Un.kept fun _ _ q => q
theorem Un.laid (k : ∀ b u, h.get? b = some u → h'.get? b = some u) (hp : h.objs.size ≤ a) (hn : H a = none) : Un fs ex H (upd H a o) h h' where
  keep := fun b u q _ _ _ => k b u q
  slot := fun b u q _ _ _ => ⟨u.slots, k b u q⟩
  free := fun b u q n _ => by rw [upd_ne (Nat.ne_of_lt (Nat.lt_of_lt_of_le (Heap.lt_size q) hp))]; exact n
  there := fun b u q _ => ⟨u, k b u q⟩
  tups := fun b xs q => by rw [upd_ne (ne_of_none q hn)]; exact q
  frzs := fun b u xs q => by rw [upd_ne (ne_of_none q hn)]; exact q
  tbls := fun b ps q => ⟨#[], by rw [upd_ne (ne_of_none q hn), q]; simp⟩
theorem Un.write (mu : Mut (H x)) (he : e = x ∨ H e = some (.own x)) (k : ∀ b u, b ≠ e → h.get? b = some u → h'.get? b = some u) (heo : ∃ u, h'.get? e = some u) : Un fs ex H (upd H x o) h h' := by
  have hx : ∀ b, H b = none → b ≠ x := fun b n z => by subst z; rw [n] at mu; exact mu
  have hb : ∀ b, H b = none → b ≠ e := fun b n z => by
    subst z
    rcases he with r | r
    · exact hx b n r
    · rw [n] at r; cases r
  have hm : ∀ b u, H b = some u → ¬ Mut (some u) → b ≠ x := fun b u q nm z => by subst z; rw [q] at mu; exact nm mu
  refine ⟨fun b u q n _ _ => k b u (hb b n) q, fun b u q n _ _ => ⟨u.slots, k b u (hb b n) q⟩, fun b u q n _ => by rw [upd_ne (hx b n)]; exact n, fun b u q _ => ?_,
    fun b xs q => by rw [upd_ne (hm b _ q fun z => z)]; exact q, fun b u xs q => by rw [upd_ne (hm b _ q fun z => z)]; exact q, fun b ps q => ⟨#[], by rw [upd_ne (hm b _ q fun z => z), q]; simp⟩⟩
  by_cases hbe : b = e
  · subst hbe; exact heo
  · exact ⟨u, k b u hbe q⟩
theorem Un.mono (u : Un fs ex H H1 h h1) (hs : ∀ b ∈ fs, b ∈ fs') (hx : ∀ b ∈ ex, b ∈ ex') : Un fs' ex' H H1 h h1 :=
  ⟨fun b ob q n hb he => u.keep b ob q n (fun z => hb (hs b z)) fun z => he (hx b z), fun _ _ q n _ he => u.any q n fun z => he (hx _ z), fun b ob q n he => u.free b ob q n fun z => he (hx b z), fun b ob q he => u.there b ob q fun z => he (hx b z), u.tups, u.frzs, u.tbls⟩
end

/-! ### the heap without what is tracked -/
def trk (h : Heap) (H : Hp) : List Addr := (List.range h.objs.size).filter fun a => (H a).isSome
def hidT (h : Heap) (H : Hp) : Heap := PySem.W.hideAll h (trk h H)
theorem hidT_size (h : Heap) (H : Hp) : (hidT h H).objs.size = h.objs.size := PySem.W.hideAll_size _ _
theorem hidT_get {h : Heap} {H : Hp} {b : Addr} {o : Obj} (e : h.get? b = some o) (n : H b = none) : (hidT h H).get? b = some o :=
  PySem.W.hideAll_get _ e fun hm => by
    have q : (H b).isSome = true := (List.mem_filter.mp hm).2
    rw [n] at q; simp at q
theorem of_hidT {h : Heap} {H : Hp} {b : Addr} {o : Obj} (e : (hidT h H).get? b = some o) : h.get? b = some o ∧ H b = none := by
  have e' : h.get? b = some o := PySem.W.of_hideAll (trk h H) e
  refine ⟨e', ?_⟩
  cases q : H b with
  | none => rfl
  | some x =>
    have hm : b ∈ trk h H := List.mem_filter.mpr ⟨List.mem_range.mpr (Heap.lt_size e'), by simp [q]⟩
    have z : (hidT h H).get? b = none := PySem.W.hideAll_none (trk h H) hm
    rw [z] at e; cases e

/-! ### OpenK's ledger, filled with every new object but one -/
def allNews (g h : Heap) (L : Addr) : List (Addr × Obj) := (List.range h.objs.size).filterMap fun a => if a = L ∨ (g.get? a).isSome = true then none else (h.get? a).map fun o => (a, o)
theorem mem_allNews {g h : Heap} {L a : Addr} {o : Obj} (h1 : a ≠ L) (h2 : g.get? a = none) (h3 : h.get? a = some o) : (a, o) ∈ allNews g h L :=
  List.mem_filterMap.mpr ⟨a, List.mem_range.mpr (Heap.lt_size h3), by simp [h1, h2, h3]⟩
theorem of_mem_allNews {g h : Heap} {L : Addr} {p : Addr × Obj} (hp : p ∈ allNews g h L) : p.1 ≠ L ∧ g.get? p.1 = none ∧ h.get? p.1 = some p.2 := by
  obtain ⟨b, _, e⟩ := List.mem_filterMap.mp hp
  split at e
  · cases e
  · rename_i hn
    cases q : h.get? b with
    | none => rw [q] at e; simp at e
    | some u =>
      rw [q] at e
      simp only [Option.map_some, Option.some.injEq] at e
      subst e
      refine ⟨fun z => hn (.inl z), ?_, q⟩
      show g.get? b = none
      cases r : g.get? b with
      | none => rfl
      | some v => exact (hn (.inr (by simp [r]))).elim
def rest (g h : Heap) (L d : Addr) : List (Addr × Obj) := (allNews g h L).filter fun p => decide (p.1 ≠ d)
theorem rest_ne {g h : Heap} {L d : Addr} : ∀ p ∈ rest g h L d, p.1 ≠ d := fun p hp => of_decide_eq_true (List.mem_filter.mp hp).2
theorem mem_rest {g h : Heap} {L d a : Addr} {o : Obj} (h1 : a ≠ L) (h2 : g.get? a = none) (h3 : h.get? a = some o) (h4 : a ≠ d) : (a, o) ∈ rest g h L d :=
  List.mem_filter.mpr ⟨mem_allNews h1 h2 h3, decide_eq_true h4⟩
theorem news_all {g h : Heap} {L : Addr} : News g L h (allNews g h L) := fun p hp => let ⟨a, b, c⟩ := of_mem_allNews hp; ⟨c, a, b⟩
theorem news_at {g h : Heap} {L d : Addr} {o : Obj} (h1 : d ≠ L) (h2 : g.get? d = none) (h3 : h.get? d = some o) : News g L h ((d, o) :: rest g h L d) := fun p hp => by
  rcases List.mem_cons.mp hp with rfl | hp
  · exact ⟨h3, h1, h2⟩
  · exact news_all p (List.mem_filter.mp hp).1
/-- behind a rule that changed d alone: all else but the frame is kept -/
theorem kept_of_news {g h h' : Heap} {L d : Addr} {m : Str → Option Value} (k : ∀ b o, g.get? b = some o → h.get? b = some o) (F : Fr g L h' m) (N : News g L h' (rest g h L d)) :
    ∀ b o, b ≠ L → b ≠ d → h.get? b = some o → h'.get? b = some o := fun b o h1 h2 e => by
  cases q : g.get? b with
  | some u =>
    have := k b u q
    rw [e] at this; cases this
    exact F.keep b _ q
  | none => exact (N (b, o) (mem_rest h1 q e h2)).1
end L2

namespace L2
open PySem PySem.Spec PyProof.Rows

/-- the module's facts, over the base: the heap at the law's entry without what is tracked there -/
structure Mod (K : PySem.W.Frag) (mg : Str → Option Value) (base : Heap) : Prop where
  kin : K.In base
  glob : base.Ns mainGlobals mg
  blt : ∃ mb, base.Ns builtinsNs mb ∧ ∀ x : Str, x ≠ "__name__" → mb x = bootBuiltins x
  nolimit : base.NoLimit

/-- the context: a def's body (or a comprehension's block) running. base: fixed through the whole law; s₀, H₀: the entry; outer: the frames whose slots others may change (a def's callers); stack: all frames that run;
   ex: iterators that were made ahead of the entry and are walked here (a comprehension's); fn: the names whose cells were made at the entry (a def: all; a comprehension's block: its own); calm: not within an except suite; pn: pins that every state bears; xe: what is wanted of an exception that leaves the code -/
structure Cx where
  prog : Program
  w : World
  K : PySem.W.Frag
  mg : Str → Option Value
  base : Heap
  A : Around
  N : List Str
  s₀ : Shared
  H₀ : Hp
  env : Env
  outer : List Env
  stack : List Env
  ex : List Addr
  fn : Str → Bool
  calm : Bool
  pn : List (Addr × Obj)
  xe : Value → Shared → Prop
/-- the callers' frames -/
def frs (l : List Env) : List Addr := l.filterMap (·.frame)
abbrev Cx.fs (X : Cx) : List Addr := frs X.outer

def Vis (sc : Scope) (x : Str) : Prop := sc.names.lookup x = some .local ∨ sc.names.lookup x = some .cell ∨ sc.names.lookup x = some .free
def Loc (sc : Scope) (x : Str) : Prop := sc.names.lookup x = some .local ∨ sc.names.lookup x = some .cell
def Look (env : Env) (h : Heap) (m : Str → Option Value) (x : Str) (u : Value) : Prop :=
  (env.kindOf x = some .local ∧ m x = some u) ∨ ((env.kindOf x = some .cell ∨ env.kindOf x = some .free) ∧ ∃ c, env.cells.lookup x = some c ∧ h.IsCell c (some u))

structure Cx.Ok (X : Cx) : Prop where
  mod : Mod X.K X.mg X.base
  kind : X.env.scope.kind = .function
  glob : X.env.globals = mainGlobals
  blt : X.env.builtins = builtinsNs
  above : X.s₀.heap.objs.size ≤ X.env.locals
  inj : ∀ x y c, X.env.cells.lookup x = some c → X.env.cells.lookup y = some c → x = y
  has : ∀ x, (X.env.kindOf x = some .cell ∨ X.env.kindOf x = some .free) → ∃ c, X.env.cells.lookup x = some c
  cab : ∀ x c, X.fn x = true → X.env.cells.lookup x = some c → X.s₀.heap.objs.size ≤ c
  hd : X.calm = true → X.A.handled = none
  frames : X.A.frames = some X.stack
  stk : X.stack = X.outer ∨ (X.stack = X.env :: X.outer ∧ X.env.frame = some X.env.locals)
  exf : ∀ b ∈ X.ex, b ≠ X.env.locals ∧ ∀ x c, X.env.cells.lookup x = some c → c ≠ b
  bs : ∀ b o, X.base.get? b = some o → X.s₀.heap.get? b = some o ∧ X.H₀ b = none
  bsz : X.base.objs.size ≤ X.s₀.heap.objs.size
  noex : ∀ b o, X.base.get? b = some o → b ∉ X.ex
  exfs : ∀ b ∈ X.ex, b ∉ X.fs
  funs : X.s₀.heap.FunFrames X.base X.outer
  frf : ∀ b ∈ X.fs, X.H₀ b = none

structure Inv (X : Cx) (pins : List (Addr × Obj)) (σ : List (Option V)) (H : Hp) (s : Shared) : Prop where
  ok : X.Ok
  os : s.os = X.s₀.os
  bare : AllBare s.gens
  base : Un X.fs X.ex X.H₀ H X.s₀.heap s.heap
  loc : ∃ m, s.heap.Ns X.env.locals m ∧ ∀ (i : Nat) (x : Str) (v : V), X.N[i]? = some x → σ[i]? = some (some v) → Vis X.env.scope x → ∃ u, RelV v u ∧ Look X.env s.heap m x u
  cell : ∀ x c, X.env.cells.lookup x = some c → ∃ v, s.heap.IsCell c v
  free : H X.env.locals = none
  freeC : ∀ x c, X.env.cells.lookup x = some c → H c = none
  pin : ∀ p ∈ X.pn ++ pins, s.heap.get? p.1 = some p.2 ∧ H p.1 = none ∧ p.1 ≠ X.env.locals ∧ p.1 ∉ X.fs ∧ ∀ v, p.2.data ≠ .cell v
  hok : HOk X.prog X.w H s.heap
  len : σ.length = X.N.length

section
variable {X : Cx} {pins : List (Addr × Obj)} {σ : List (Option V)} {H H' : Hp} {s : Shared} {h' : Heap}

theorem Cx.Ok.nofr (ok : X.Ok) {b : Addr} {o : Obj} (e : X.base.get? b = some o) : b ∉ X.fs := fun hb => by
  have := (ok.funs.mem hb).1
  rw [e] at this; cases this
theorem Inv.bs (I : Inv X pins σ H s) : ∀ b o, X.base.get? b = some o → s.heap.get? b = some o ∧ H b = none := fun b o e =>
  ⟨I.base.keep b o (I.ok.bs b o e).1 (I.ok.bs b o e).2 (I.ok.nofr e) (I.ok.noex b o e), I.base.free b o (I.ok.bs b o e).1 (I.ok.bs b o e).2 (I.ok.noex b o e)⟩
theorem Inv.bk (I : Inv X pins σ H s) : ∀ b o, X.base.get? b = some o → s.heap.get? b = some o := fun b o e => (I.bs b o e).1
theorem Inv.mod (I : Inv X pins σ H s) : Mod X.K X.mg X.base := I.ok.mod
theorem Inv.kIn (I : Inv X pins σ H s) : X.K.In s.heap := I.ok.mod.kin.keeps I.bk
theorem Inv.nolimit (I : Inv X pins σ H s) : s.heap.NoLimit := I.ok.mod.nolimit.keeps I.bk
/-- the frame over the base: for OpenK's rules (K.In X.base is I.mod.kin) -/
theorem Inv.fr (I : Inv X pins σ H s) : ∃ m, Fr X.base X.env.locals s.heap m :=
  let ⟨m, hn, _⟩ := I.loc
  ⟨m, hn, I.bk, Nat.le_trans I.ok.bsz I.ok.above⟩
theorem Inv.lt (I : Inv X pins σ H s) : X.env.locals < s.heap.objs.size := let ⟨_, hn, _⟩ := I.loc; hn.lt
theorem Inv.sz (I : Inv X pins σ H s) : X.s₀.heap.objs.size ≤ s.heap.objs.size := Nat.le_trans I.ok.above (Nat.le_of_lt I.lt)
theorem Inv.nofs (I : Inv X pins σ H s) {a : Addr} (h : s.heap.objs.size ≤ a) : a ∉ X.fs := fun hb => by
  obtain ⟨_, o, ho, _⟩ := I.ok.funs.mem hb
  exact absurd (Nat.lt_of_lt_of_le (Heap.lt_size ho) (Nat.le_trans I.sz h)) (Nat.lt_irrefl _)
theorem Inv.cne (I : Inv X pins σ H s) : ∀ x c, X.env.cells.lookup x = some c → c ≠ X.env.locals := fun x c e z => by
  obtain ⟨v, o, ho, hd⟩ := I.cell x c e
  obtain ⟨m, ⟨o', es, ep, ho', hd', _⟩, _⟩ := I.loc
  rw [z, ho'] at ho; cases ho; rw [hd'] at hd; cases hd
theorem Inv.funs (I : Inv X pins σ H s) : s.heap.FunFrames X.base X.outer := by
  have all : ∀ (l : List Env), (∀ b ∈ frs l, b ∈ X.fs) → X.s₀.heap.FunFrames X.base l → s.heap.FunFrames X.base l := by
    intro l
    induction l with
    | nil => intro _ _; trivial
    | cons env r ih =>
      intro hs hl
      obtain ⟨hk, ⟨L, o, hf, hn, ho, hd⟩, hr⟩ := hl
      have hL : L ∈ X.fs := hs L (by unfold frs; rw [List.filterMap_cons, hf]; exact List.mem_cons_self)
      obtain ⟨sl, e⟩ := I.base.slot L o ho (I.ok.frf L hL) hL fun z => I.ok.exfs L z hL
      exact ⟨hk, ⟨L, _, hf, hn, e, hd⟩, ih (fun b hb => hs b (by unfold frs; rw [List.filterMap_cons, hf]; exact List.mem_cons_of_mem _ hb)) hr⟩
  exact all X.outer (fun _ hb => hb) I.ok.funs

/-- the frames that run, for a call -/
theorem Inv.stack (I : Inv X pins σ H s) : s.heap.FunFrames X.base X.stack := by
  rcases I.ok.stk with e | ⟨e, hf⟩
  · rw [e]; exact I.funs
  · rw [e]
    obtain ⟨m, hn, _⟩ := I.loc
    refine .cons (by rw [I.ok.kind]; decide) hf hn ?_ I.funs
    exact Heap.get?_none_of_le (Nat.le_trans I.ok.bsz I.ok.above)
theorem Inv.stkSub (I : Inv X pins σ H s) : ∀ b ∈ frs X.stack, b ∈ X.env.locals :: X.fs := fun b hb => by
  rcases I.ok.stk with e | ⟨e, hf⟩
  · rw [e] at hb; exact List.mem_cons_of_mem _ hb
  · rw [e] at hb
    unfold frs at hb
    rw [List.filterMap_cons, hf] at hb
    exact hb
theorem Inv.stkFree (I : Inv X pins σ H s) : ∀ b ∈ frs X.stack, H b = none := fun b hb => by
  rcases List.mem_cons.mp (I.stkSub b hb) with e | hb
  · rw [e]; exact I.free
  · obtain ⟨_, o, ho, _⟩ := I.ok.funs.mem hb
    exact I.base.free b o ho (I.ok.frf b hb) fun z => I.ok.exfs b z hb

/-- THE STEP: the untracked objects but the frame and the records at ch are kept (the callers' frames up to slots), the frame's map is kept, the new abstract heap is held -/
theorem Inv.step {g' : Array GenState} {t' : Nat} {d' : Drawn} {ch : List Addr} (I : Inv X pins σ H s)
    (hch : ∀ b ∈ ch, (b ∈ X.ex ∨ X.s₀.heap.objs.size ≤ b) ∧ b ≠ X.env.locals ∧ (∀ x c, X.env.cells.lookup x = some c → c ≠ b) ∧ ∀ p ∈ X.pn ++ pins, p.1 ≠ b)
    (keep : ∀ b o, b ≠ X.env.locals → b ∉ X.fs → b ∉ ch → s.heap.get? b = some o → H b = none → h'.get? b = some o)
    (slot : ∀ b o, b ≠ X.env.locals → b ∈ X.fs → b ∉ ch → s.heap.get? b = some o → H b = none → ∃ sl, h'.get? b = some { o with slots := sl }) (free : ∀ b o, b ∉ ch → s.heap.get? b = some o → H b = none → H' b = none)
    (there : ∀ b o, b ∉ ch → s.heap.get? b = some o → ∃ o', h'.get? b = some o')
    (tups : ∀ b xs, H b = some (.tup xs) → H' b = some (.tup xs)) (frzs : ∀ b o u, H b = some (.frz o u) → H' b = some (.frz o u)) (tbls : ∀ b ps, H b = some (.tbl ps) → ∃ more, H' b = some (.tbl (ps ++ more)))
    (ns : ∀ m, s.heap.Ns X.env.locals m → h'.Ns X.env.locals m) (hok : HOk X.prog X.w H' h') (hg : AllBare g') :
    Inv X pins σ H' { s with heap := h', gens := g', drawn := d', toks := t' } := by
  have neL : ∀ b o, X.s₀.heap.get? b = some o → b ≠ X.env.locals := fun b o e => Nat.ne_of_lt (Nat.lt_of_lt_of_le (Heap.lt_size e) I.ok.above)
  have neC : ∀ b o, X.s₀.heap.get? b = some o → b ∉ X.ex → b ∉ ch := fun b o e hx hb => by
    rcases (hch b hb).1 with z | z
    · exact hx z
    · exact absurd (Nat.lt_of_lt_of_le (Heap.lt_size e) z) (Nat.lt_irrefl _)
  have cellK : ∀ x c, X.env.cells.lookup x = some c → ∀ v, s.heap.IsCell c v → h'.IsCell c v := fun x c e v ⟨o, ho, hd⟩ => by
    have nch : c ∉ ch := fun z => (hch c z).2.2.1 x c e rfl
    by_cases hc : c ∈ X.fs
    · obtain ⟨sl, q⟩ := slot c o (I.cne x c e) hc nch ho (I.freeC x c e)
      exact ⟨_, q, hd⟩
    · exact ⟨o, keep c o (I.cne x c e) hc nch ho (I.freeC x c e), hd⟩
  refine ⟨I.ok, I.os, hg, ⟨fun b o e n hb hx => ?_, fun b o e n hb hx => ?_, fun b o e n hx => ?_, fun b o e hx => ?_, fun b xs e => tups b xs (I.base.tups b xs e), fun b o xs e => frzs b o xs (I.base.frzs b o xs e), fun b ps e => ?_⟩, ?_, fun x c e => ?_, ?_, fun x c e => ?_, fun p hp => ?_, hok, I.len⟩
  · exact keep b o (neL b o e) hb (neC b o e hx) (I.base.keep b o e n hb hx) (I.base.free b o e n hx)
  · obtain ⟨sl, e1⟩ := I.base.slot b o e n hb hx
    obtain ⟨sl', e2⟩ := slot b _ (neL b o e) hb (neC b o e hx) e1 (I.base.free b o e n hx)
    exact ⟨sl', e2⟩
  · obtain ⟨o', e1⟩ := I.base.there b o e hx
    exact free b o' (neC b o e hx) e1 (I.base.free b o e n hx)
  · obtain ⟨o', e1⟩ := I.base.there b o e hx
    exact there b o' (neC b o e hx) e1
  · obtain ⟨m1, e1⟩ := I.base.tbls b ps e
    obtain ⟨m2, e2⟩ := tbls b _ e1
    exact ⟨m1 ++ m2, by rw [e2, Array.append_assoc]⟩
  · obtain ⟨m, hn, hl⟩ := I.loc
    refine ⟨m, ns m hn, fun i x v e1 e2 e3 => ?_⟩
    obtain ⟨u, r, l⟩ := hl i x v e1 e2 e3
    refine ⟨u, r, ?_⟩
    rcases l with l | ⟨k, c, e, z⟩
    · exact .inl l
    · exact .inr ⟨k, c, e, cellK x c e _ z⟩
  · obtain ⟨v, z⟩ := I.cell x c e
    exact ⟨v, cellK x c e v z⟩
  · obtain ⟨m, ⟨o, _, _, ho, _⟩, _⟩ := I.loc
    exact free _ o (fun z => (hch _ z).2.1 rfl) ho I.free
  · obtain ⟨v, o, ho, hd⟩ := I.cell x c e
    exact free c o (fun z => (hch c z).2.2.1 x c e rfl) ho (I.freeC x c e)
  · obtain ⟨e, n, ne, nf, d⟩ := I.pin p hp
    have nch : p.1 ∉ ch := fun z => (hch p.1 z).2.2.2 p hp rfl
    exact ⟨keep p.1 p.2 ne nf nch e n, free p.1 p.2 nch e n, ne, nf, d⟩
/-- .. where the frame's own object is kept too -/
theorem Inv.un {t' : Nat} (I : Inv X pins σ H s) (u : Un X.fs [] H H' s.heap h') (hok : HOk X.prog X.w H' h') : Inv X pins σ H' { s with heap := h', toks := t' } := by
  obtain ⟨m, ⟨o, es, ep, ho, r⟩, _⟩ := id I.loc
  obtain ⟨sl, hL⟩ := u.any ho I.free (by simp)
  exact I.step (g' := s.gens) (d' := s.drawn) (ch := []) (fun _ z => nomatch z) (fun b o _ hb _ e n => u.keep b o e n hb (by simp)) (fun b o _ hb _ e n => u.slot b o e n hb (by simp)) (fun b o _ e n => u.free b o e n (by simp)) (fun b o _ e => u.there b o e (by simp)) u.tups u.frzs u.tbls (fun m' hm => by
    obtain ⟨o', es', ep', ho', r'⟩ := hm
    rw [ho] at ho'; cases ho'
    exact ⟨_, es', ep', hL, r'⟩) hok I.bare
/-- behind a call (or a comprehension's block): the slots of this frame may have changed too, the records at ch may have turned -/
theorem Inv.call {g' : Array GenState} {t' : Nat} {d' : Drawn} {ch : List Addr} (I : Inv X pins σ H s) (u : Un (frs X.stack) ch H H' s.heap h') (hok : HOk X.prog X.w H' h') (hg : AllBare g')
    (hch : ∀ b ∈ ch, (b ∈ X.ex ∨ X.s₀.heap.objs.size ≤ b) ∧ b ≠ X.env.locals ∧ (∀ x c, X.env.cells.lookup x = some c → c ≠ b) ∧ ∀ p ∈ X.pn ++ pins, p.1 ≠ b) :
    Inv X pins σ H' { s with heap := h', gens := g', drawn := d', toks := t' } := by
  obtain ⟨m, ⟨o, es, ep, ho, r⟩, _⟩ := id I.loc
  obtain ⟨sl, hL⟩ := u.any ho I.free fun z => (hch _ z).2.1 rfl
  exact I.step (ch := ch) hch (fun b o hL hb hc e n => u.keep b o e n (fun z => (List.mem_cons.mp (I.stkSub b z)).elim hL hb) hc) (fun b o _ _ hc e n => u.any e n hc) (fun b o hc e n => u.free b o e n hc) (fun b o hc e => u.there b o e hc) u.tups u.frzs u.tbls (fun m' hm => by
    obtain ⟨o', es', ep', ho', r'⟩ := hm
    rw [ho] at ho'; cases ho'
    exact ⟨_, es', ep', hL, r'⟩) hok hg
/-- an untracked record of ours (an iterator) has turned -/
theorem Inv.turned {t' : Nat} {it : Addr} (I : Inv X pins σ H s) (k : ∀ b o, b ≠ it → s.heap.get? b = some o → h'.get? b = some o) (hn : H it = none) (hL : it ≠ X.env.locals)
    (h1 : it ∈ X.ex ∨ X.s₀.heap.objs.size ≤ it) (h2 : ∀ x c, X.env.cells.lookup x = some c → c ≠ it) (h3 : ∀ p ∈ X.pn ++ pins, p.1 ≠ it) : Inv X pins σ H { s with heap := h', toks := t' } := by
  have nit : ∀ b u, H b = some u → b ≠ it := fun b u e z => by rw [z, hn] at e; cases e
  refine I.step (g' := s.gens) (d' := s.drawn) (ch := [it]) (fun b hb => ?_) (fun b o _ _ hc e _ => k b o (fun z => hc (by simp [z])) e) (fun b o _ _ hc e _ => ⟨o.slots, k b o (fun z => hc (by simp [z])) e⟩) (fun _ _ _ _ n => n)
    (fun b o hc e => ⟨o, k b o (fun z => hc (by simp [z])) e⟩) (fun _ _ e => e) (fun _ _ _ e => e) (fun b ps e => ⟨#[], by rw [e]; simp⟩) (fun m hm => ?_) (fun b u e => ?_) I.bare
  · have e : b = it := by simpa using hb
    subst e
    exact ⟨h1, hL, h2, h3⟩
  · obtain ⟨o, es, ep, ho, r⟩ := hm
    exact ⟨o, es, ep, k _ o (Ne.symm hL) ho, r⟩
  · refine (I.hok b u e).stay (fun c v hc q => k c v ?_ q) (fun _ q => q) fun _ _ q => q
    rcases hc with z | z
    · rw [z]; exact nit b u e
    · exact nit c _ z
theorem Inv.tok (I : Inv X pins σ H s) (t : Nat) : Inv X pins σ H { s with toks := t } := I.un (h' := s.heap) (t' := t) Un.refl I.hok
/-- all objects kept -/
theorem Inv.kept {t' : Nat} (I : Inv X pins σ H s) (k : ∀ b u, s.heap.get? b = some u → h'.get? b = some u) : Inv X pins σ H { s with heap := h', toks := t' } := I.un (Un.kept k) (I.hok.kept k)
/-- a new object laid and tracked -/
theorem Inv.laid {a : Addr} {o : HO} {t' : Nat} (I : Inv X pins σ H s) (k : ∀ b u, s.heap.get? b = some u → h'.get? b = some u) (hp : s.heap.objs.size ≤ a) (new : ObjOk X.prog X.w (upd H a o) h' a o) :
    Inv X pins σ (upd H a o) { s with heap := h', toks := t' } := I.un (Un.laid k hp (I.hok.fresh hp)) (I.hok.laid k hp new)
/-- an object written -/
theorem Inv.write {x e : Addr} {o : HO} {t' : Nat} (I : Inv X pins σ H s) (mu : Mut (H x)) (he : e = x ∨ H e = some (.own x)) (k : ∀ b u, b ≠ e → s.heap.get? b = some u → h'.get? b = some u) (heo : ∃ u, h'.get? e = some u)
    (new : ObjOk X.prog X.w (upd H x o) h' x o) : Inv X pins σ (upd H x o) { s with heap := h', toks := t' } := I.un (Un.write mu he k heo) (I.hok.write mu he k heo new)
/-- forgetting slots, pins -/
theorem Inv.weak {σ' : List (Option V)} (I : Inv X pins σ H s) (hl : σ'.length = σ.length) (w : ∀ (i : Nat) v, σ'[i]? = some (some v) → σ[i]? = some (some v)) : Inv X pins σ' H s :=
  ⟨I.ok, I.os, I.bare, I.base, let ⟨m, hn, hl'⟩ := I.loc; ⟨m, hn, fun i x v e1 e2 e3 => hl' i x v e1 (w i v e2) e3⟩, I.cell, I.free, I.freeC, I.pin, I.hok, hl.trans I.len⟩
theorem Inv.pins_of {pins' : List (Addr × Obj)} (I : Inv X pins σ H s) (h : ∀ p ∈ pins', s.heap.get? p.1 = some p.2 ∧ H p.1 = none ∧ p.1 ≠ X.env.locals ∧ p.1 ∉ X.fs ∧ ∀ v, p.2.data ≠ .cell v) : Inv X pins' σ H s :=
  ⟨I.ok, I.os, I.bare, I.base, I.loc, I.cell, I.free, I.freeC, fun p hp => (List.mem_append.mp hp).elim (fun z => I.pin p (List.mem_append_left _ z)) (h p), I.hok, I.len⟩

theorem nodup_ix {N : List Str} (hN : N.Nodup) {i j : Nat} {x : Str} (a : N[i]? = some x) (b : N[j]? = some x) : i = j := by
  obtain ⟨h1, e1⟩ := List.getElem?_eq_some_iff.mp a
  obtain ⟨h2, e2⟩ := List.getElem?_eq_some_iff.mp b
  exact (List.getElem_inj hN).mp (e1.trans e2.symm)

/-- a name is stored; what changed -/
theorem store_ok2 {M : Model} {A : Around} {E : Value → Shared → Prop} {i : Nat} {x : Str} {v : V} {u : Value} {Q : Unit → Shared → Prop} (I : Inv X pins σ H s) (hN : X.N.Nodup) (hi : X.N[i]? = some x) (hx : Loc X.env.scope x) (r : RelV v u)
    (h : ∀ s', Inv X pins (σ.set i (some v)) H s' → (∃ a, Heap.SameBut a s.heap s'.heap ∧ (a = X.env.locals ∨ X.env.cells.lookup x = some a)) → Q () s') (hf : X.fn x = true ∨ X.env.scope.names.lookup x = some .local := by first | exact .inl rfl | exact .inr rfl | assumption) : wpAny M A (storeName X.env x u) Q E s := by
  obtain ⟨m, hn, hl⟩ := id I.loc
  have hcls : (X.env.scope.kind == .class || (X.env.scope.kind == .module && X.env.locals != X.env.globals)) = false := by rw [I.ok.kind]; rfl
  have hiσ : i < σ.length := by rw [I.len]; exact (List.getElem?_eq_some_iff.mp hi).1
  have cne := I.cne
  have tracked : ∀ {a : Addr} {h' : Heap}, (∃ o, s.heap.get? a = some o ∧ H a = none) → Heap.SameBut a s.heap h' → HOk X.prog X.w H h' := fun {a h'} ha hs b ob e => by
    obtain ⟨_, _, hfree⟩ := ha
    refine (I.hok b ob e).stay (fun c w' hc q => (hs.2 c ?_).trans q) (fun _ q => q) fun _ _ q => q
    rintro rfl
    rcases hc with rfl | hc
    · rw [hfree] at e; cases e
    · rw [hfree] at hc; cases hc
  rcases hx with hk | hk
  · refine wpAny_storeName_local hk hn (fun h' hn' hs => ?_) hcls
    obtain ⟨oL, _, _, hoL, _⟩ := id hn
    refine h _ ⟨I.ok, I.os, I.bare, ⟨fun b o e n hb hx => ?_, fun b o e n hb hx => ?_, I.base.free, fun b o e hx => ?_, I.base.tups, I.base.frzs, I.base.tbls⟩, ⟨_, hn', fun j y v' e1 e2 e3 => ?_⟩, fun y c e => ?_, I.free, I.freeC, fun p hp => ?_, tracked ⟨oL, hoL, I.free⟩ hs, by simpa using I.len⟩ ⟨_, hs, .inl rfl⟩
    · exact (hs.2 b (Nat.ne_of_lt (Nat.lt_of_lt_of_le (Heap.lt_size e) I.ok.above))).trans (I.base.keep b o e n hb hx)
    · obtain ⟨sl, e1⟩ := I.base.slot b o e n hb hx
      exact ⟨sl, (hs.2 b (Nat.ne_of_lt (Nat.lt_of_lt_of_le (Heap.lt_size e) I.ok.above))).trans e1⟩
    · obtain ⟨o', e1⟩ := I.base.there b o e hx
      exact ⟨o', (hs.2 b (Nat.ne_of_lt (Nat.lt_of_lt_of_le (Heap.lt_size e) I.ok.above))).trans e1⟩
    · by_cases hj : j = i
      · subst hj
        rw [hi] at e1; cases e1
        rw [List.getElem?_set_self hiσ] at e2
        cases e2
        exact ⟨u, r, .inl ⟨hk, by simp⟩⟩
      · rw [List.getElem?_set_ne (Ne.symm hj)] at e2
        obtain ⟨u', r', q⟩ := hl j y v' e1 e2 e3
        refine ⟨u', r', ?_⟩
        rcases q with ⟨k, e⟩ | ⟨k, c, e, z⟩
        · refine .inl ⟨k, ?_⟩
          have : y ≠ x := fun e => hj (nodup_ix hN e1 (e ▸ hi))
          simp [this, e]
        · exact .inr ⟨k, c, e, z.sameBut hs (cne y c e)⟩
    · obtain ⟨w', z⟩ := I.cell y c e
      exact ⟨w', z.sameBut hs (cne y c e)⟩
    · obtain ⟨e, n, ne, nf, d⟩ := I.pin p hp
      exact ⟨(hs.2 p.1 ne).trans e, n, ne, nf, d⟩
  · have hfn : X.fn x = true := by
      rcases hf with z | z
      · exact z
      · rw [z] at hk; cases hk
    obtain ⟨c, hc⟩ := I.ok.has x (.inl hk)
    obtain ⟨w', z⟩ := I.cell x c hc
    refine wpAny_storeName_cell I.ok.kind hk hc z (fun h' hc' hs => ?_)
    obtain ⟨oc, hoc, hocd⟩ := id z
    refine h { s with heap := h' } ⟨I.ok, I.os, I.bare, ⟨fun b o e n hb hx => ?_, fun b o e n hb hx => ?_, I.base.free, fun b o e hx => ?_, I.base.tups, I.base.frzs, I.base.tbls⟩, ⟨m, hn.sameBut hs (Ne.symm (cne x c hc)), fun j y v' e1 e2 e3 => ?_⟩, fun y c' e => ?_, I.free, I.freeC, fun p hp => ?_, tracked ⟨oc, hoc, I.freeC x c hc⟩ hs, by simpa using I.len⟩ ⟨c, hs, .inr hc⟩
    · exact (hs.2 b (Nat.ne_of_lt (Nat.lt_of_lt_of_le (Heap.lt_size e) (I.ok.cab x c hfn hc)))).trans (I.base.keep b o e n hb hx)
    · obtain ⟨sl, e1⟩ := I.base.slot b o e n hb hx
      exact ⟨sl, (hs.2 b (Nat.ne_of_lt (Nat.lt_of_lt_of_le (Heap.lt_size e) (I.ok.cab x c hfn hc)))).trans e1⟩
    · obtain ⟨o', e1⟩ := I.base.there b o e hx
      exact ⟨o', (hs.2 b (Nat.ne_of_lt (Nat.lt_of_lt_of_le (Heap.lt_size e) (I.ok.cab x c hfn hc)))).trans e1⟩
    · by_cases hj : j = i
      · subst hj
        rw [hi] at e1; cases e1
        rw [List.getElem?_set_self hiσ] at e2
        cases e2
        exact ⟨u, r, .inr ⟨.inl hk, c, hc, hc'⟩⟩
      · rw [List.getElem?_set_ne (Ne.symm hj)] at e2
        obtain ⟨u', r', q⟩ := hl j y v' e1 e2 e3
        refine ⟨u', r', ?_⟩
        rcases q with q | ⟨k, c', e, z'⟩
        · exact .inl q
        · refine .inr ⟨k, c', e, z'.sameBut hs ?_⟩
          rintro rfl
          exact hj (nodup_ix hN e1 (I.ok.inj _ _ _ e hc ▸ hi))
    · by_cases hcc : c' = c
      · subst hcc; exact ⟨_, hc'⟩
      · obtain ⟨w2, z2⟩ := I.cell y c' e
        exact ⟨w2, z2.sameBut hs hcc⟩
    · obtain ⟨e, n, ne, nf, d⟩ := I.pin p hp
      refine ⟨(hs.2 p.1 ?_).trans e, n, ne, nf, d⟩
      intro q
      rw [q, hoc] at e
      have q' : oc = p.2 := Option.some.inj e
      exact d w' (by rw [← q']; exact hocd)
theorem store_ok {M : Model} {A : Around} {E : Value → Shared → Prop} {i : Nat} {x : Str} {v : V} {u : Value} {Q : Unit → Shared → Prop} (I : Inv X pins σ H s) (hN : X.N.Nodup) (hi : X.N[i]? = some x) (hx : Loc X.env.scope x) (r : RelV v u)
    (h : ∀ s', Inv X pins (σ.set i (some v)) H s' → Q () s') (hf : X.fn x = true ∨ X.env.scope.names.lookup x = some .local := by first | exact .inl rfl | exact .inr rfl | assumption) : wpAny M A (storeName X.env x u) Q E s :=
  store_ok2 I hN hi hx r (fun s' I' _ => h s' I') hf
/-- behind a call or a block, the state as it is -/
theorem Inv.call' {s' : Shared} {ch : List Addr} (I : Inv X pins σ H s) (ho : s'.os = s.os) (u : Un (frs X.stack) ch H H' s.heap s'.heap) (hok : HOk X.prog X.w H' s'.heap) (hg : AllBare s'.gens)
    (hch : ∀ b ∈ ch, (b ∈ X.ex ∨ X.s₀.heap.objs.size ≤ b) ∧ b ≠ X.env.locals ∧ (∀ x c, X.env.cells.lookup x = some c → c ≠ b) ∧ ∀ p ∈ X.pn ++ pins, p.1 ≠ b) : Inv X pins σ H' s' := by
  obtain ⟨h', g', d', t', o'⟩ := s'
  have e : o' = s.os := ho
  subst e
  exact I.call (g' := g') (t' := t') (d' := d') u hok hg hch
end

/-! ### the judgements -/
/-- an exception: its class, its own dict's address (where it has one), the abstract heap behind it -/
abbrev XK := Value → Option Addr → Hp → Prop
abbrev St := List (Option V)
abbrev VK := V → Hp → Prop
/-- an expression's reading; a test's; an argument list's -/
abbrev TE := St → Hp → VK → Prop
abbrev TT := St → Hp → (Bool → Hp → Prop) → Prop
abbrev TA := St → Hp → (List V → Hp → Prop) → Prop
/-- what is wanted behind a statement -/
structure Ends where
  nx : St → Hp → Prop
  rt : VK
  bk : St → Hp → Prop := fun _ _ => False
  ct : St → Hp → Prop := fun _ _ => False
abbrev TS := Ends → St → Hp → Prop

def EP (X : Cx) (pins : List (Addr × Obj)) (σ : St) (Q : VK) (u : Value) (s' : Shared) : Prop := ∃ v H', Inv X pins σ H' s' ∧ RelV v u ∧ Q v H'
def TP (X : Cx) (pins : List (Addr × Obj)) (σ : St) (Q : Bool → Hp → Prop) (b : Bool) (s' : Shared) : Prop := ∃ H', Inv X pins σ H' s' ∧ Q b H'
def AP (X : Cx) (pins : List (Addr × Obj)) (σ : St) (Q : List V → Hp → Prop) (us : List Value) (s' : Shared) : Prop := ∃ vs H', Inv X pins σ H' s' ∧ Vals vs us ∧ Q vs H'
def SP (X : Cx) (pins : List (Addr × Obj)) (D : Ends) (f : Flow) (s' : Shared) : Prop :=
  match f with
  | .next => ∃ σ' H', Inv X pins σ' H' s' ∧ D.nx σ' H'
  | .brk => ∃ σ' H', Inv X pins σ' H' s' ∧ D.bk σ' H'
  | .cont => ∃ σ' H', Inv X pins σ' H' s' ∧ D.ct σ' H'
  | .ret u => ∃ v σ' H', Inv X pins σ' H' s' ∧ RelV v u ∧ D.rt v H'

def PE (X : Cx) (e : Expr) (t : TE) : Prop :=
  ∀ (pins : List (Addr × Obj)) (s : Shared) (σ : St) (H : Hp) (Q : VK), Inv X pins σ H s → t σ H Q → wpAny (model X.prog X.w) X.A (eval e X.env) (EP X pins σ Q) X.xe s
def PT (X : Cx) (e : Expr) (t : TT) : Prop :=
  ∀ (pins : List (Addr × Obj)) (s : Shared) (σ : St) (H : Hp) (Q : Bool → Hp → Prop), Inv X pins σ H s → t σ H Q → wpAny (model X.prog X.w) X.A (isTrue e X.env (eval e X.env)) (TP X pins σ Q) X.xe s
/-- a test whatever its 'whole' is (and, or) -/
def PW (X : Cx) (e : Expr) (t : TT) : Prop :=
  ∀ (whole : Sem Value) (pins : List (Addr × Obj)) (s : Shared) (σ : St) (H : Hp) (Q : Bool → Hp → Prop), Inv X pins σ H s → t σ H Q → wpAny (model X.prog X.w) X.A (isTrue e X.env whole) (TP X pins σ Q) X.xe s
theorem PW.pt {X : Cx} {e : Expr} {t : TT} (h : PW X e t) : PT X e t := h _
/-- an argument list (no star), from the left -/
def PA (X : Cx) (es : List Expr) (t : TA) : Prop :=
  ∀ (pos : Pos) (pins : List (Addr × Obj)) (s : Shared) (σ : St) (H : Hp) (Q : List V → Hp → Prop), Inv X pins σ H s → t σ H Q → wpAny (model X.prog X.w) X.A (spliced (backTo pos (starEach es X.env))) (AP X pins σ Q) X.xe s
def PS (X : Cx) (st : Stmt) (t : TS) : Prop :=
  ∀ (pins : List (Addr × Obj)) (s : Shared) (σ : St) (H : Hp) (D : Ends), Inv X pins σ H s → t D σ H → wpAny (model X.prog X.w) X.A (exec st X.env) (SP X pins D) X.xe s
def PSs (X : Cx) (st : List Stmt) (t : TS) : Prop :=
  ∀ (pins : List (Addr × Obj)) (s : Shared) (σ : St) (H : Hp) (D : Ends), Inv X pins σ H s → t D σ H → wpAny (model X.prog X.w) X.A (execs st X.env) (SP X pins D) X.xe s
/-- weaken the end -/
theorem thn {α : Type} {t : Sem α} {Q Q' : α → Shared → Prop} {M : Model} {A : Around} {E : Value → Shared → Prop} {s : Shared} (h : wpAny M A t Q E s) (hQ : ∀ a s, Q a s → Q' a s) : wpAny M A t Q' E s := wpAny_mono h hQ fun _ _ x => x
end L2

namespace L2
open PySem PySem.Spec PyProof.Rows
section
variable {X : Cx}

/-- two expressions in a row -/
theorem bin {a b : Expr} {ta tb : TE} (ha : PE X a ta) (hb : PE X b tb) {pins : List (Addr × Obj)} {s : Shared} {σ : St} {H : Hp} {R : V → V → Hp → Prop} (I : Inv X pins σ H s) (h : ta σ H fun x H1 => tb σ H1 fun y H2 => R x y H2)
    {α : Type} {Q : α → Shared → Prop} {f : Value → Value → Sem α}
    (hf : ∀ v u s2 x y H2, Inv X pins σ H2 s2 → RelV x v → RelV y u → R x y H2 → wpAny (model X.prog X.w) X.A (f v u) Q X.xe s2) :
    wpAny (model X.prog X.w) X.A (eval a X.env) (fun v s₁ => wpAny (model X.prog X.w) X.A (eval b X.env) (fun u s₂ => wpAny (model X.prog X.w) X.A (f v u) Q X.xe s₂) X.xe s₁) X.xe s := by
  refine thn (ha pins s σ H _ I h) fun v s1 ⟨x, H1, I1, r1, q1⟩ => ?_
  refine thn (hb pins s1 σ H1 _ I1 q1) fun u s2 ⟨y, H2, I2, r2, q2⟩ => ?_
  exact hf v u s2 x y H2 I2 r1 r2 q2

/-! ### names and constants -/
def tVar (i : Nat) : TE := fun σ H Q => ∃ v, σ[i]? = some (some v) ∧ Q v H
def tC (v : V) : TE := fun _ H Q => Q v H
theorem pe_var {i : Nat} {x : Str} {pos : Pos} (hN : X.N[i]? = some x) (hv : Vis X.env.scope x) (hd : (x == ("__debug__" : Str)) = false := by decide) (hcd : (x == ("__classdict__" : Str)) = false := by decide) : PE X (.Name x pos) (tVar i) := by
  intro pins s σ H Q I h
  obtain ⟨v, e, h⟩ := h
  obtain ⟨m, hn, hl⟩ := I.loc
  obtain ⟨u, r, l⟩ := hl i x v hN e hv
  have fin : EP X pins σ Q u s := ⟨v, H, I, r, h⟩
  rcases l with ⟨hk, hm⟩ | ⟨hk, c, hc, hcell⟩
  · exact wpAny_Name (wpAny_loadName_local I.ok.kind hk hn hm fin) hd
  · rcases hk with hk | hk
    · exact wpAny_Name (wpAny_loadName_cell I.ok.kind hk hc hcell fin) hd
    · exact wpAny_Name (wpAny_loadName_free I.ok.kind hk hc hcell fin hcd) hd
theorem pe_int {i j pos} : PE X (.Constant (.int i) j pos) (tC (.int i)) := fun _ _ _ H _ I h => wpAny_Constant_int ⟨.int i, H, I.tok _, ⟨_, rfl⟩, h⟩
theorem pe_bl {b j pos} : PE X (.Constant (.bool b) j pos) (tC (.bl b)) := fun _ _ _ H _ I h => Constant_bool ⟨.bl b, H, I, rfl, h⟩
theorem pe_non {j pos} : PE X (.Constant .none j pos) (tC .non) := fun _ _ _ H _ I h => Constant_none ⟨.non, H, I, rfl, h⟩
theorem pe_str {x j pos} : PE X (.Constant (.str x) j pos) (tC (.str x)) := fun _ _ _ H _ I h => Calls.Constant_str ⟨.str x, H, I.tok _, ⟨_, rfl⟩, h⟩

/-- a global name of the def -/
def Gl (X : Cx) (x : Str) : Prop := X.env.kindOf x = some .globalImplicit
theorem ld_glob {E : Value → Shared → Prop} {pins : List (Addr × Obj)} {s : Shared} {σ : St} {H : Hp} {x : Str} {u : Value} {pos : Pos} {Q : Value → Shared → Prop} (I : Inv X pins σ H s) (hg : Gl X x) (hm : X.mg x = some u) (h : Q u s)
    (hd : (x == ("__debug__" : Str)) = false := by decide) : wpAny (model X.prog X.w) X.A (eval (.Name x pos) X.env) Q E s :=
  Calls.Name_function_global I.ok.kind hg (Calls.loadGlobal_global (by rw [I.ok.glob]; exact I.mod.glob.keeps I.bk) hm h) hd
theorem ld_blt {E : Value → Shared → Prop} {pins : List (Addr × Obj)} {s : Shared} {σ : St} {H : Hp} {x : Str} {u : Value} {pos : Pos} {Q : Value → Shared → Prop} (I : Inv X pins σ H s) (hg : Gl X x) (hm : X.mg x = none) (hv : bootBuiltins x = some u) (h : Q u s)
    (hn : x ≠ "__name__" := by decide) (hd : (x == ("__debug__" : Str)) = false := by decide) : wpAny (model X.prog X.w) X.A (eval (.Name x pos) X.env) Q E s := by
  obtain ⟨mb, h1, h2⟩ := I.mod.blt
  exact Calls.Name_function_global I.ok.kind hg (Calls.loadGlobal_builtin (by rw [I.ok.glob]; exact I.mod.glob.keeps I.bk) hm (by rw [I.ok.blt]; exact h1.keeps I.bk) ((h2 x hn).trans hv) h) hd
/-- a module's constant, a class, a function, as a value -/
theorem pe_glob {x : Str} {v : V} {u : Value} {pos : Pos} (hg : Gl X x) (hm : X.mg x = some u) (r : RelV v u) (hd : (x == ("__debug__" : Str)) = false := by decide) : PE X (.Name x pos) (tC v) :=
  fun _ _ _ H _ I h => ld_glob I hg hm ⟨v, H, I, r, h⟩ hd
theorem pe_bltn {x : Str} {v : V} {u : Value} {pos : Pos} (hg : Gl X x) (hm : X.mg x = none) (hv : bootBuiltins x = some u) (r : RelV v u) (hn : x ≠ "__name__" := by decide) (hd : (x == ("__debug__" : Str)) = false := by decide) : PE X (.Name x pos) (tC v) :=
  fun _ _ _ H _ I h => ld_blt I hg hm hv ⟨v, H, I, r, h⟩ hn hd

/-! ### arithmetic -/
/-- two ints -/
def t2I (ta tb : TE) (k : Int → Int → Hp → Prop) : St → Hp → Prop := fun σ H => ta σ H fun x H1 => tb σ H1 fun y H2 => ∃ i j, x = .int i ∧ y = .int j ∧ k i j H2
def tAdd (ta tb : TE) : TE := fun σ H Q => t2I ta tb (fun i j H2 => Q (.int (i + j)) H2) σ H
def tSub (ta tb : TE) : TE := fun σ H Q => t2I ta tb (fun i j H2 => Q (.int (i - j)) H2) σ H
/-- the left factor below 2^64 -/
def tMul (ta tb : TE) : TE := fun σ H Q => t2I ta tb (fun i j H2 => (-(2 ^ 64) < i ∧ i < 2 ^ 64) ∧ Q (.int (i * j)) H2) σ H
variable {a b : Expr} {ta tb : TE} {pos : Pos}
theorem pe_add (ha : PE X a ta) (hb : PE X b tb) : PE X (.BinOp a .Add b pos) (tAdd ta tb) := by
  intro pins s σ H Q I h
  refine wpAny_BinOp (bin ha hb I h fun v u s2 x y H2 I2 rx ry q => ?_)
  obtain ⟨i, j, rfl, rfl, q⟩ := q
  obtain ⟨t, rfl⟩ := rx
  obtain ⟨t', rfl⟩ := ry
  exact add_int ⟨.int _, H2, I2.tok _, ⟨_, rfl⟩, q⟩
theorem pe_sub (ha : PE X a ta) (hb : PE X b tb) : PE X (.BinOp a .Sub b pos) (tSub ta tb) := by
  intro pins s σ H Q I h
  refine wpAny_BinOp (bin ha hb I h fun v u s2 x y H2 I2 rx ry q => ?_)
  obtain ⟨i, j, rfl, rfl, q⟩ := q
  obtain ⟨t, rfl⟩ := rx
  obtain ⟨t', rfl⟩ := ry
  exact sub_int ⟨.int _, H2, I2.tok _, ⟨_, rfl⟩, q⟩
theorem pe_mul (ha : PE X a ta) (hb : PE X b tb) : PE X (.BinOp a .Mult b pos) (tMul ta tb) := by
  intro pins s σ H Q I h
  refine wpAny_BinOp (bin ha hb I h fun v u s2 x y H2 I2 rx ry q => ?_)
  obtain ⟨i, j, rfl, rfl, ⟨q1, q2⟩, q⟩ := q
  obtain ⟨t, rfl⟩ := rx
  obtain ⟨t', rfl⟩ := ry
  exact mul_int ⟨.int _, H2, I2.tok _, ⟨_, rfl⟩, q⟩ (.of_left (intBits_le_64 q1 q2))

/-! ### comparisons -/
def PC (X : Cx) (op : CmpOp) (a b : Expr) (t : TE) : Prop :=
  ∀ (pins : List (Addr × Obj)) (s : Shared) (σ : St) (H : Hp) (Q : VK), Inv X pins σ H s → t σ H Q →
    wpAny (model X.prog X.w) X.A (eval a X.env) (fun v s₁ => wpAny (model X.prog X.w) X.A (eval b X.env) (fun u s₂ => wpAny (model X.prog X.w) X.A (compareOp op v u) (EP X pins σ Q) X.xe s₂) X.xe s₁) X.xe s
theorem nobehind (b : Expr) {op : CmpOp} (h : op ≠ .In) (h2 : op ≠ .NotIn) : behindInMarks op b = false := by
  have e1 : (op == CmpOp.In) = false := by cases op <;> first | rfl | exact absurd rfl h
  have e2 : (op == CmpOp.NotIn) = false := by cases op <;> first | rfl | exact absurd rfl h2
  cases b <;> simp [behindInMarks, e1, e2]
def tCmp (p : Int → Int → Bool) (ta tb : TE) : TE := fun σ H Q => t2I ta tb (fun i j H2 => Q (.bl (p i j)) H2) σ H
abbrev tLt : TE → TE → TE := tCmp fun i j => decide (i < j)
abbrev tLe : TE → TE → TE := tCmp fun i j => decide (i ≤ j)
abbrev tGt : TE → TE → TE := tCmp fun i j => decide (j < i)
abbrev tGe : TE → TE → TE := tCmp fun i j => decide (j ≤ i)
abbrev tEqI : TE → TE → TE := tCmp fun i j => decide (i = j)
abbrev tNeI : TE → TE → TE := tCmp fun i j => !decide (i = j)
/-- a comparison of two ints, by its rule -/
theorem pc_int {op : CmpOp} {p : Int → Int → Bool} (ha : PE X a ta) (hb : PE X b tb)
    (rule : ∀ (i j : Int) (t u : Tok) (Q : Value → Shared → Prop) (s : Shared), Q (.bool (p i j)) s → wpAny (model X.prog X.w) X.A (compareOp op (.int i t) (.int j u)) Q X.xe s) : PC X op a b (tCmp p ta tb) := by
  intro pins s σ H Q I h
  refine bin ha hb I h fun v u s2 x y H2 I2 rx ry q => ?_
  obtain ⟨i, j, rfl, rfl, q⟩ := q
  obtain ⟨t, rfl⟩ := rx
  obtain ⟨t', rfl⟩ := ry
  exact rule i j t t' _ s2 ⟨.bl _, H2, I2, rfl, q⟩
theorem pc_lt (ha : PE X a ta) (hb : PE X b tb) : PC X .Lt a b (tLt ta tb) := pc_int ha hb fun _ _ _ _ _ _ h => lt_int h
theorem pc_le (ha : PE X a ta) (hb : PE X b tb) : PC X .LtE a b (tLe ta tb) := pc_int ha hb fun _ _ _ _ _ _ h => le_int h
theorem pc_gt (ha : PE X a ta) (hb : PE X b tb) : PC X .Gt a b (tGt ta tb) := pc_int ha hb fun _ _ _ _ _ _ h => gt_int h
theorem pc_ge (ha : PE X a ta) (hb : PE X b tb) : PC X .GtE a b (tGe ta tb) := pc_int ha hb fun _ _ _ _ _ _ h => ge_int h
theorem pc_eqI (ha : PE X a ta) (hb : PE X b tb) : PC X .Eq a b (tEqI ta tb) := pc_int ha hb fun _ _ _ _ _ _ h => eq_int (by rw [Bool.beq_eq_decide_eq]; exact h)
theorem pc_neI (ha : PE X a ta) (hb : PE X b tb) : PC X .NotEq a b (tNeI ta tb) := pc_int ha hb fun _ _ _ _ _ _ h => ne_int (by rw [bne, Bool.beq_eq_decide_eq]; exact h)
/-- is None -/
def tIsN (ta : TE) : TE := fun σ H Q => ta σ H fun x H1 => Q (.bl (decide (x = .non))) H1
def tNotN (ta : TE) : TE := fun σ H Q => ta σ H fun x H1 => Q (.bl (!decide (x = .non))) H1
theorem RelV.none_iff {x : V} {v : Value} (r : RelV x v) : (v == Value.none) = decide (x = .non) := by
  cases x with
  | non => cases r; rfl
  | bl _ => cases r; rfl
  | int _ => obtain ⟨t, rfl⟩ := r; rfl
  | str _ => obtain ⟨t, rfl⟩ := r; rfl
  | byt _ => obtain ⟨t, rfl⟩ := r; rfl
  | flt _ => obtain ⟨t, rfl⟩ := r; rfl
  | ref _ => cases r; rfl
  | ty _ => cases r; rfl
theorem pc_isN {j pos'} (ha : PE X a ta) : PC X .Is a (.Constant .none j pos') (tIsN ta) := by
  intro pins s σ H Q I h
  refine thn (ha pins s σ H _ I h) fun v s1 ⟨x, H1, I1, r1, q1⟩ => ?_
  exact Constant_none (is_none_gen ⟨.bl _, H1, I1, by rw [r1.none_iff]; rfl, q1⟩)
theorem pc_notN {j pos'} (ha : PE X a ta) : PC X .IsNot a (.Constant .none j pos') (tNotN ta) := by
  intro pins s σ H Q I h
  refine thn (ha pins s σ H _ I h) fun v s1 ⟨x, H1, I1, r1, q1⟩ => ?_
  exact Constant_none (isnot_none_gen ⟨.bl _, H1, I1, by rw [r1.none_iff]; rfl, q1⟩)
/-- a comparison as a value, as a test -/
def tB (t : TE) : TT := fun σ H Q => t σ H fun x H1 => ∃ c, x = .bl c ∧ Q c H1
theorem pe_cmp {op : CmpOp} {t : TE} (h : PC X op a b t) (h1 : behindInMarks op b = false := by first | exact nobehind _ (by decide) (by decide) | rfl) : PE X (.Compare a [op] [b] pos) t := fun pins s σ H Q I hw => wpAny_Compare1 (h pins s σ H Q I hw) h1
theorem pt_cmp {op : CmpOp} {t : TE} (h : PC X op a b t) (h1 : behindInMarks op b = false := by first | exact nobehind _ (by decide) (by decide) | rfl) : PT X (.Compare a [op] [b] pos) (tB t) := by
  intro pins s σ H Q I hw
  refine wpAny_isTrue_Compare1 (thn (h pins s σ H _ I hw) fun v s1 h1 => thn h1 fun u s2 h2 => thn h2 fun c s3 ⟨x, H1, I1, r1, q1⟩ => ?_) h1
  obtain ⟨d, rfl, q⟩ := q1
  cases r1
  exact wpAny_truthy_bool ⟨H1, I1, q⟩
/-- an expression whose value is a bool, as a test -/
theorem pt_val {e : Expr} {t : TE} (h : PE X e t) (he : ∀ whole, isTrue e X.env whole = (do let v ← whole; standAt e.pos; holding [v] (truthy v)) := by intro _; rfl) : PT X e (tB t) := by
  intro pins s σ H Q I hw
  refine isTrue_plain (thn (h pins s σ H _ I hw) fun v s1 ⟨x, H1, I1, r1, q1⟩ => ?_) (he _)
  obtain ⟨d, rfl, q⟩ := q1
  cases r1
  exact wpAny_truthy_bool ⟨H1, I1, q⟩

/-! ### and, or, not -/
variable {tA tB' : TT} {rest : List Expr}
def tAnd (t u : TT) : TT := fun σ H Q => t σ H fun c H1 => if c = true then u σ H1 Q else Q false H1
def tOr (t u : TT) : TT := fun σ H Q => t σ H fun c H1 => if c = true then Q true H1 else u σ H1 Q
def tNot (t : TT) : TT := fun σ H Q => t σ H fun c H1 => Q (!c) H1
theorem pw_and1 (ha : PT X a tA) : PW X (.BoolOp .And [a] pos) tA := by
  intro wh pins s σ H Q I h
  refine isTrue_and (thn (ha pins s σ H Q I h) fun c s1 e => ?_)
  cases c with
  | true => exact isTrue_and_nil e
  | false => exact e
theorem pw_or1 (ha : PT X a tA) : PW X (.BoolOp .Or [a] pos) tA := by
  intro wh pins s σ H Q I h
  refine isTrue_or (thn (ha pins s σ H Q I h) fun c s1 e => ?_)
  cases c with
  | false => exact isTrue_or_nil e
  | true => exact e
theorem pw_and (ha : PT X a tA) (hb : PW X (.BoolOp .And (b :: rest) pos) tB') : PW X (.BoolOp .And (a :: b :: rest) pos) (tAnd tA tB') := by
  intro wh pins s σ H Q I h
  refine isTrue_and (thn (ha pins s σ H _ I h) fun c s1 ⟨H1, I1, q1⟩ => ?_)
  cases c with
  | true => exact hb wh pins s1 σ H1 Q I1 q1
  | false => exact ⟨H1, I1, q1⟩
theorem pw_or (ha : PT X a tA) (hb : PW X (.BoolOp .Or (b :: rest) pos) tB') : PW X (.BoolOp .Or (a :: b :: rest) pos) (tOr tA tB') := by
  intro wh pins s σ H Q I h
  refine isTrue_or (thn (ha pins s σ H _ I h) fun c s1 ⟨H1, I1, q1⟩ => ?_)
  cases c with
  | true => exact ⟨H1, I1, q1⟩
  | false => exact hb wh pins s1 σ H1 Q I1 q1
theorem pt_not (ha : PT X a tA) : PT X (.UnaryOp .Not a pos) (tNot tA) := by
  intro pins s σ H Q I h
  exact isTrue_not (ha pins s σ H (fun c H1 => Q (!c) H1) I h)
/-- .. as values (bools) -/
def tAndV (ta tb : TE) : TE := fun σ H Q => ta σ H fun x H1 => ∃ c, x = .bl c ∧ if c = true then tb σ H1 Q else Q (.bl false) H1
def tOrV (ta tb : TE) : TE := fun σ H Q => ta σ H fun x H1 => ∃ c, x = .bl c ∧ if c = true then Q (.bl true) H1 else tb σ H1 Q
def tNotV (ta : TE) : TE := fun σ H Q => ta σ H fun x H1 => ∃ c, x = .bl c ∧ Q (.bl (!c)) H1
theorem pe_one {op} {t : TE} (h : PE X a t) : PE X (.BoolOp op [a] pos) t := fun pins s σ H Q I hw => BoolOp_one (h pins s σ H Q I hw)
theorem pe_and (ha : PE X a ta) (hb : PE X (.BoolOp .And (b :: rest) pos) tb) : PE X (.BoolOp .And (a :: b :: rest) pos) (tAndV ta tb) := by
  intro pins s σ H Q I h
  refine BoolOp_and (thn (ha pins s σ H _ I h) fun v s1 ⟨x, H1, I1, r1, q1⟩ => ?_)
  obtain ⟨c, rfl, q1⟩ := q1
  cases r1
  refine wpAny_truthy_bool ?_
  cases c with
  | true => exact hb pins s1 σ H1 Q I1 q1
  | false => exact ⟨.bl false, H1, I1, rfl, q1⟩
theorem pe_or (ha : PE X a ta) (hb : PE X (.BoolOp .Or (b :: rest) pos) tb) : PE X (.BoolOp .Or (a :: b :: rest) pos) (tOrV ta tb) := by
  intro pins s σ H Q I h
  refine BoolOp_or (thn (ha pins s σ H _ I h) fun v s1 ⟨x, H1, I1, r1, q1⟩ => ?_)
  obtain ⟨c, rfl, q1⟩ := q1
  cases r1
  refine wpAny_truthy_bool ?_
  cases c with
  | false => exact hb pins s1 σ H1 Q I1 q1
  | true => exact ⟨.bl true, H1, I1, rfl, q1⟩
theorem pe_not (ha : PE X a ta) : PE X (.UnaryOp .Not a pos) (tNotV ta) := by
  intro pins s σ H Q I h
  refine UnaryOp_ (thn (ha pins s σ H _ I h) fun v s1 ⟨x, H1, I1, r1, q1⟩ => ?_)
  obtain ⟨c, rfl, q1⟩ := q1
  cases r1
  exact not_of (wpAny_truthy_bool ⟨.bl (!c), H1, I1, rfl, q1⟩)
/-- a if t else b -/
def tIf (t : TT) (ta tb : TE) : TE := fun σ H Q => t σ H fun c H1 => if c = true then ta σ H1 Q else tb σ H1 Q
theorem pe_ifExp {c : Expr} (hc : PT X c tA) (ha : PE X a ta) (hb : PE X b tb) : PE X (.IfExp c a b pos) (tIf tA ta tb) := by
  intro pins s σ H Q I h
  refine wpAny_IfExp (thn (hc pins s σ H _ I h) fun d s1 ⟨H1, I1, q1⟩ => ?_)
  cases d with
  | true => exact ha pins s1 σ H1 Q I1 q1
  | false => exact hb pins s1 σ H1 Q I1 q1
end
end L2

namespace L2
open PySem PySem.Spec PyProof.Rows

/-! ### a list, a tuple that is read: tracked, frozen, or an object of the module -/
def SqL (K : PySem.W.Frag) (H : Hp) (a : Addr) (xs : List V) : Prop :=
  Rd H a (.lst xs) ∨
    ∃ (o : Obj) (its : Array Value) (n : Nat), K.lookup a = some o ∧ o.cls = .type "list" ∧ o.dict = none ∧ o.data = .seq its n ∧ its.size ≤ sizeLine ∧ Vals xs its.toList
def SqT (K : PySem.W.Frag) (H : Hp) (a : Addr) (xs : List V) : Prop :=
  Rd H a (.tup xs) ∨
    ∃ (o : Obj) (its : Array Value) (n : Nat), K.lookup a = some o ∧ o.cls = .type "tuple" ∧ o.data = .seq its n ∧ its.size ≤ sizeLine ∧ Vals xs its.toList
def absV : Value → Option V
  | .none => some .non
  | .bool b => some (.bl b)
  | .int i _ => some (.int i)
  | .str x _ => some (.str x)
  | .bytes b _ => some (.byt b)
  | .float b _ => some (.flt b)
  | .ref a => some (.ref a)
  | .type n => some (.ty n)
  | _ => none
theorem RelV.abs {x : V} {u : Value} (r : RelV x u) : absV u = some x := by
  cases x with
  | non => cases r; rfl
  | bl _ => cases r; rfl
  | int _ => obtain ⟨t, rfl⟩ := r; rfl
  | str _ => obtain ⟨t, rfl⟩ := r; rfl
  | byt _ => obtain ⟨t, rfl⟩ := r; rfl
  | flt _ => obtain ⟨t, rfl⟩ := r; rfl
  | ref _ => cases r; rfl
  | ty _ => cases r; rfl
theorem RelV.inj {x y : V} {u : Value} (r : RelV x u) (q : RelV y u) : x = y := Option.some.inj (r.abs.symm.trans q.abs)
theorem Vals.inj : ∀ {xs ys : List V} {us : List Value}, Vals xs us → Vals ys us → xs = ys
  | _, _, _, .nil, .nil => rfl
  | _, _, _, .cons r t, .cons r' t' => by rw [r.inj r', Vals.inj t t']
section
variable {X : Cx} {pins : List (Addr × Obj)} {σ : St} {H : Hp} {s : Shared} {a : Addr} {xs ys : List V}
theorem SqL.of {K : PySem.W.Frag} (h : H a = some (.lst xs)) : SqL K H a xs := .inl (.inl h)
theorem SqT.of {K : PySem.W.Frag} (h : H a = some (.tup xs)) : SqT K H a xs := .inl (.inl h)
theorem Inv.list (I : Inv X pins σ H s) (h : SqL X.K H a xs) : ∃ its : List Value, Vals xs its ∧ PlainL s.heap a its.toArray ∧ xs.length ≤ sizeLine := by
  rcases h with h | ⟨o, its, n, hk, hc, hd, hs, hz, r⟩
  · obtain ⟨z, its, n, r, e⟩ := h.ok I.hok
    exact ⟨its, r, ⟨_, n, e, rfl, rfl, rfl⟩, z⟩
  · refine ⟨its.toList, r, ⟨o, n, I.kIn a o hk, hc, hd, by simpa using hs⟩, ?_⟩
    have e := r.length
    simp only [Array.length_toList] at e
    omega
theorem Inv.tuple (I : Inv X pins σ H s) (h : SqT X.K H a xs) : ∃ its : List Value, Vals xs its ∧ IsTup s.heap a its.toArray ∧ xs.length ≤ sizeLine := by
  rcases h with h | ⟨o, its, n, hk, hc, hs, hz, r⟩
  · obtain ⟨z, its, r, p⟩ := h.ok I.hok
    exact ⟨its, r, p, z⟩
  · refine ⟨its.toList, r, ⟨o, I.kIn a o hk, hc, n, by simpa using hs⟩, ?_⟩
    have e := r.length
    simp only [Array.length_toList] at e
    omega
theorem Inv.list_inj (I : Inv X pins σ H s) (h : SqL X.K H a xs) (h' : SqL X.K H a ys) : xs = ys := by
  obtain ⟨its, r, ⟨o, n, e, _, _, d⟩, _⟩ := I.list h
  obtain ⟨its', r', ⟨o', n', e', _, _, d'⟩, _⟩ := I.list h'
  rw [e] at e'; cases e'
  rw [d] at d'
  injection d' with d1 _
  have : its = its' := by simpa using congrArg Array.toList d1
  subst this
  exact r.inj r'
theorem Inv.tuple_inj (I : Inv X pins σ H s) (h : SqT X.K H a xs) (h' : SqT X.K H a ys) : xs = ys := by
  obtain ⟨its, r, ⟨o, e, _, n, d⟩, _⟩ := I.tuple h
  obtain ⟨its', r', ⟨o', e', _, n', d'⟩, _⟩ := I.tuple h'
  rw [e] at e'; cases e'
  rw [d] at d'
  injection d' with d1 _
  have : its = its' := by simpa using congrArg Array.toList d1
  subst this
  exact r.inj r'
end

/-! ### another wish about exceptions -/
abbrev Cx.wish (X : Cx) (E : Value → Shared → Prop) : Cx := { X with xe := E }
/-- no exception leaves -/
abbrev Cx.nox (X : Cx) : Cx := X.wish fun _ _ => False
theorem Cx.Ok.wish {X : Cx} (ok : X.Ok) (E : Value → Shared → Prop) : (X.wish E).Ok :=
  ⟨ok.mod, ok.kind, ok.glob, ok.blt, ok.above, ok.inj, ok.has, ok.cab, ok.hd, ok.frames, ok.stk, ok.exf, ok.bs, ok.bsz, ok.noex, ok.exfs, ok.funs, ok.frf⟩
theorem Cx.Ok.unwish {X : Cx} {E : Value → Shared → Prop} (ok : (X.wish E).Ok) : X.Ok :=
  ⟨ok.mod, ok.kind, ok.glob, ok.blt, ok.above, ok.inj, ok.has, ok.cab, ok.hd, ok.frames, ok.stk, ok.exf, ok.bs, ok.bsz, ok.noex, ok.exfs, ok.funs, ok.frf⟩
section
variable {X : Cx} {pins : List (Addr × Obj)} {σ : St} {H : Hp} {s : Shared} {E : Value → Shared → Prop}
theorem Inv.wish (I : Inv X pins σ H s) (E : Value → Shared → Prop) : Inv (X.wish E) pins σ H s := ⟨I.ok.wish E, I.os, I.bare, I.base, I.loc, I.cell, I.free, I.freeC, I.pin, I.hok, I.len⟩
theorem Inv.unwish (I : Inv (X.wish E) pins σ H s) : Inv X pins σ H s := ⟨I.ok.unwish, I.os, I.bare, I.base, I.loc, I.cell, I.free, I.freeC, I.pin, I.hok, I.len⟩
theorem SP.unwish {D : Ends} {f : Flow} {s' : Shared} (h : SP (X.wish E) pins D f s') : SP X pins D f s' := by
  cases f with
  | next => obtain ⟨σ', H', I, q⟩ := h; exact ⟨σ', H', I.unwish, q⟩
  | brk => obtain ⟨σ', H', I, q⟩ := h; exact ⟨σ', H', I.unwish, q⟩
  | cont => obtain ⟨σ', H', I, q⟩ := h; exact ⟨σ', H', I.unwish, q⟩
  | ret u => obtain ⟨v, σ', H', I, r, q⟩ := h; exact ⟨v, σ', H', I.unwish, r, q⟩
theorem PE.nox {e : Expr} {t : TE} (h : PE X.nox e t) : PE X e t := fun pins s σ H Q I hw =>
  wpAny_mono (h pins s σ H Q (I.wish _) hw) (fun _ _ ⟨v, H', I', r, q⟩ => ⟨v, H', I'.unwish, r, q⟩) fun _ _ z => False.elim z
theorem PT.nox {e : Expr} {t : TT} (h : PT X.nox e t) : PT X e t := fun pins s σ H Q I hw =>
  wpAny_mono (h pins s σ H Q (I.wish _) hw) (fun _ _ ⟨H', I', q⟩ => ⟨H', I'.unwish, q⟩) fun _ _ z => False.elim z
theorem PSs.nox {st : List Stmt} {t : TS} (h : PSs X.nox st t) : PSs X st t := fun pins s σ H D I hw =>
  wpAny_mono (h pins s σ H D (I.wish _) hw) (fun _ _ q => q.unwish) fun _ _ z => False.elim z
end

/-! ### blocks and small statements -/
section
variable {X : Cx} {st : Stmt} {rest : List Stmt} {t u : TS} {e : Expr} {te : TE} {pos : Pos}
def tNext : TS := fun D σ H => D.nx σ H
def tSeq (t u : TS) : TS := fun D σ H => t { D with nx := u D } σ H
theorem pss_nil : PSs X [] tNext := fun _ _ σ H _ I h => wpAny_execs_nil ⟨σ, H, I, h⟩
theorem pss_cons (h1 : PS X st t) (h2 : PSs X rest u) : PSs X (st :: rest) (tSeq t u) := by
  intro pins s σ H D I h
  refine wpAny_execs_cons (thn (h1 pins s σ H { D with nx := u D } I h) fun f s1 q => ?_)
  cases f with
  | next =>
    obtain ⟨σ', H', I', q⟩ := q
    exact h2 pins s1 σ' H' D I' q
  | ret v => exact q
  | brk => exact q
  | cont => exact q
theorem pss_one (h1 : PS X st t) : PSs X [st] t := by
  intro pins s σ H D I h
  refine wpAny_execs_cons (thn (h1 pins s σ H D I h) fun f s1 q => ?_)
  cases f with
  | next => exact wpAny_execs_nil q
  | ret v => exact q
  | brk => exact q
  | cont => exact q
def tBreak : TS := fun D σ H => D.bk σ H
def tCont : TS := fun D σ H => D.ct σ H
theorem ps_pass : PS X (.Pass pos) tNext := fun _ _ σ H _ I h => wpAny_Pass ⟨σ, H, I, h⟩
theorem ps_break : PS X (.Break pos) tBreak := fun _ _ σ H _ I h => wpAny_Break ⟨σ, H, I, h⟩
theorem ps_continue : PS X (.Continue pos) tCont := fun _ _ σ H _ I h => wpAny_Continue ⟨σ, H, I, h⟩
/-- in a def's body nothing is shown -/
theorem Inv.quiet {pins : List (Addr × Obj)} {σ : St} {H : Hp} {s : Shared} (I : Inv X pins σ H s) : interactive X.env = false := by simp [interactive, I.ok.kind]
/-- a docstring -/
theorem ps_doc {x j pos pos'} : PS X (.Expr (.Constant (.str x) j pos) pos') tNext := fun _ s σ H _ I h => wpAny_Expr (Calls.Constant_str (show SP X _ _ .next { s with toks := s.toks + 1 } from ⟨σ, H, I.tok _, h⟩)) I.quiet
/-- an expression whose value is dropped -/
def tDrop (te : TE) : TS := fun D σ H => te σ H fun _ H1 => D.nx σ H1
theorem ps_expr (he : PE X e te) (hs : swapsWith e none pos.line X.env = pure false := by rfl) : PS X (.Expr e pos) (tDrop te) := by
  intro pins s σ H D I h
  exact wpAny_Expr_any (thn (he pins s σ H _ I h) fun v s1 ⟨x, H1, I1, r1, q1⟩ => ⟨σ, H1, I1, q1⟩) I.quiet hs
def tRet (te : TE) : TS := fun D σ H => te σ H D.rt
theorem ps_ret (he : PE X e te) : PS X (.Return (some e) pos) (tRet te) := by
  intro pins s σ H D I h
  exact wpAny_Return_some (thn (he pins s σ H _ I h) fun v s1 ⟨x, H1, I1, r1, q1⟩ => ⟨x, σ, H1, I1, r1, q1⟩)
def tRetN : TS := fun D _ H => D.rt .non H
theorem ps_retN : PS X (.Return none pos) tRetN := fun _ _ σ H _ I h => wpAny_Return_none ⟨.non, σ, H, I, rfl, h⟩
def tIfS (c : TT) (t u : TS) : TS := fun D σ H => c σ H fun b H1 => if b = true then t D σ H1 else u D σ H1
theorem ps_if {c : Expr} {a b : List Stmt} {tc : TT} (hc : PT X c tc) (ha : PSs X a t) (hb : PSs X b u) : PS X (.If c a b pos) (tIfS tc t u) := by
  intro pins s σ H D I h
  refine wpAny_If (thn (hc pins s σ H _ I h) fun d s1 ⟨H1, I1, q1⟩ => ?_)
  cases d with
  | true => exact ha pins s1 σ H1 D I1 q1
  | false => exact hb pins s1 σ H1 D I1 q1
/-- code that the proof never comes to -/
def tNever : TS := fun _ _ _ => False
theorem ps_never : PS X st tNever := fun _ _ _ _ _ _ h => h.elim
theorem pss_never {sts : List Stmt} : PSs X sts tNever := fun _ _ _ _ _ _ h => h.elim
end

/-! ### targets -/
abbrev TG := V → St → Hp → (St → Hp → Prop) → Prop
abbrev TGs := List V → St → Hp → (St → Hp → Prop) → Prop
def PG (X : Cx) (target : Expr) (t : TG) : Prop :=
  ∀ (pins : List (Addr × Obj)) (s : Shared) (σ : St) (H : Hp) (v : V) (u : Value) (Q : St → Hp → Prop), Inv X pins σ H s → RelV v u → t v σ H Q →
    wpAny (model X.prog X.w) X.A (assign target X.env u) (fun _ s' => ∃ σ' H', Inv X pins σ' H' s' ∧ Q σ' H') X.xe s
/-- several targets, one after another -/
def PGs (X : Cx) (ts : List Expr) (t : TGs) : Prop :=
  ∀ (pins : List (Addr × Obj)) (s : Shared) (σ : St) (H : Hp) (vs : List V) (us : List Value) (Q : St → Hp → Prop), Inv X pins σ H s → Vals vs us → t vs σ H Q →
    wpAny (model X.prog X.w) X.A (assignInOrder ((assignEach ts X.env).map (·.2)) us) (fun _ s' => ∃ σ' H', Inv X pins σ' H' s' ∧ Q σ' H') X.xe s
/-- o[i] = v, by values -/
abbrev TSet := V → V → V → Hp → (Hp → Prop) → Prop
def PSet (X : Cx) (t : TSet) : Prop :=
  ∀ (pins : List (Addr × Obj)) (s : Shared) (σ : St) (H : Hp) (o i v : V) (ov iv u : Value) (Q : Hp → Prop), Inv X pins σ H s → RelV o ov → RelV i iv → RelV v u → t o i v H Q →
    wpAny (model X.prog X.w) X.A (setItem ov iv u) (fun _ s' => ∃ H', Inv X pins σ H' s' ∧ Q H') X.xe s
/-- a op= b, by values -/
abbrev TIp := V → V → Hp → VK → Prop
def PIp (X : Cx) (op : Operator) (t : TIp) : Prop :=
  ∀ (pins : List (Addr × Obj)) (s : Shared) (σ : St) (H : Hp) (x y : V) (v u : Value) (Q : VK), Inv X pins σ H s → RelV x v → RelV y u → t x y H Q →
    wpAny (model X.prog X.w) X.A (inplaceOp op v u) (EP X pins σ Q) X.xe s
section
variable {X : Cx} {pos : Pos}
def gName (i : Nat) : TG := fun v σ H Q => Q (σ.set i (some v)) H
theorem pg_name {i : Nat} {x : Str} (hN : X.N.Nodup) (hi : X.N[i]? = some x) (hx : Loc X.env.scope x) (hf : X.fn x = true ∨ X.env.scope.names.lookup x = some .local := by first | exact .inl rfl | exact .inr rfl | assumption) : PG X (.Name x pos) (gName i) := by
  intro pins s σ H v u Q I r h
  exact wpAny_assign_Name (store_ok I hN hi hx r (fun s' I' => ⟨_, H, I', h⟩) hf)
def gNil : TGs := fun vs σ H Q => vs = [] ∧ Q σ H
def gCons (t : TG) (u : TGs) : TGs := fun vs σ H Q => ∃ v r, vs = v :: r ∧ t v σ H fun σ' H' => u r σ' H' Q
theorem pgs_nil : PGs X [] gNil := by
  intro pins s σ H vs us Q I r h
  obtain ⟨e, h⟩ := h
  subst e
  cases r
  exact assignInOrder_nil ⟨σ, H, I, h⟩
theorem pgs_cons {e : Expr} {es : List Expr} {t : TG} {u : TGs} (h1 : PG X e t) (h2 : PGs X es u)
    (hs : (assignEach (e :: es) X.env).map (·.2) = assign e X.env :: (assignEach es X.env).map (·.2) := by rfl) : PGs X (e :: es) (gCons t u) := by
  intro pins s σ H vs us Q I r h
  obtain ⟨v, vr, e1, h⟩ := h
  subst e1
  cases r with
  | cons r rr =>
    rw [hs]
    refine assignInOrder_cons (thn (h1 pins s σ H _ _ _ I r h) fun _ s1 ⟨σ1, H1, I1, q1⟩ => ?_)
    exact h2 pins s1 σ1 H1 _ _ Q I1 rr q1
/-- (a, b, ..) = a tuple of that length -/
def gTup (K : PySem.W.Frag) (n : Nat) (t : TGs) : TG := fun v σ H Q => ∃ a xs, v = .ref a ∧ SqT K H a xs ∧ xs.length = n ∧ t xs σ H Q
theorem pg_tup {es : List Expr} {k : Nat} {t : TGs} {n : Nat} (hc : X.calm = true) (h : PGs X es t)
    (hn : (assignEach es X.env).length = n := by rfl) (hst : (assignEach es X.env).findIdx? (·.1) = none := by rfl) : PG X (.Tuple es k pos) (gTup X.K n t) := by
  intro pins s σ H v u Q I r hw
  obtain ⟨a, xs, e1, hq, hl, hw⟩ := hw
  subst e1
  cases r
  obtain ⟨its, rv, ht, hz⟩ := I.tuple hq
  refine assign_Tuple_tuple (I.ok.hd hc) ht (by simp [hn, ← hl, rv.length]) hst fun h' hx => ?_
  have I1 : Inv X pins σ H { s with heap := h' } := I.kept (t' := s.toks) fun b o e => hx b o (Nat.ne_of_lt (Heap.lt_size e)) e
  exact h pins _ σ H xs _ Q I1 (by simpa using rv) hw
/-- o[i] = .. -/
def gSub (to ti : TE) (t : TSet) : TG := fun v σ H Q => to σ H fun o H1 => ti σ H1 fun i H2 => t o i v H2 fun H3 => Q σ H3
theorem pg_sub {o i : Expr} {to ti : TE} {t : TSet} (ho : PE X o to) (hi : PE X i ti) (hs : PSet X t)
    (ha : ∀ v, assign (.Subscript o i pos) X.env v = (do
      let ov ← holding [v] (eval o X.env)
      let iv ← holding [v, ov] (eval i X.env)
      standAt pos
      holding [v, ov, iv] (setItem ov iv v)
      release [v, ov, iv] []) := by intro _; rfl) : PG X (.Subscript o i pos) (gSub to ti t) := by
  intro pins s σ H v u Q I r h
  rw [ha]
  refine wpAny_bind (wpAny_holding (thn (ho pins s σ H _ I h) fun ov s1 ⟨x, H1, I1, r1, q1⟩ => ?_))
  refine wpAny_bind (wpAny_holding (thn (hi pins s1 σ H1 _ I1 q1) fun iv s2 ⟨y, H2, I2, r2, q2⟩ => ?_))
  refine wpAny_bind (wpAny_standAt (wpAny_bind (wpAny_holding (thn (hs pins s2 σ H2 x y v ov iv u _ I2 r1 r2 r q2) fun _ s3 ⟨H3, I3, q3⟩ => ?_))))
  exact wpAny_release ⟨σ, H3, I3, q3⟩
/-- target = value -/
def tAsg (te : TE) (g : TG) : TS := fun D σ H => te σ H fun x H1 => g x σ H1 D.nx
theorem ps_asg {tg e : Expr} {te : TE} {g : TG} (he : PE X e te) (hg : PG X tg g) (hs : swapsWithSole [tg] e pos.line X.env = pure false := by rfl) (hw : swappedStores [tg] e X.env = pure none := by rfl)
    (h1 : (assignEach [tg] X.env).map (·.2) = [assign tg X.env] := by rfl) : PS X (.Assign [tg] e pos) (tAsg te g) := by
  intro pins s σ H D I h
  refine wpAny_Assign_stores (thn (he pins s σ H _ I h) fun v s1 ⟨x, H1, I1, r1, q1⟩ => ?_) hs hw
  rw [h1]
  exact thn (hg pins s1 σ H1 x v _ I1 r1 q1) fun _ s2 q => q
/-- name = value -/
theorem ps_set {i : Nat} {x : Str} {e : Expr} {te : TE} {pos' : Pos} (hN : X.N.Nodup) (hi : X.N[i]? = some x) (hx : Loc X.env.scope x) (he : PE X e te) (hs : swapsWith e (some (.Name x pos')) pos.line X.env = pure false := by rfl) (hf : X.fn x = true ∨ X.env.scope.names.lookup x = some .local := by first | exact .inl rfl | exact .inr rfl | assumption) :
    PS X (.Assign [.Name x pos'] e pos) (tAsg te (gName i)) := by
  intro pins s σ H D I h
  refine wpAny_Assign_Name (thn (he pins s σ H _ I h) fun v s1 ⟨y, H1, I1, r1, q1⟩ => ?_) hs
  exact store_ok I1 hN hi hx r1 (fun s2 I2 => ⟨_, H1, I2, q1⟩) hf
/-- a, b = x, y with plain local names: stored from the right; the pair itself is not tracked (the opening rows as in PyProof/Rows/TupAssign.lean:23) -/
def tPar (i j : Nat) (ta : TA) : TS := fun D σ H => ta σ H fun vs H1 => ∃ v w, vs = [v, w] ∧ D.nx ((σ.set i (some v)).set j (some w)) H1
theorem ps_par {i j : Nat} {x y : Str} {a b : Expr} {ta : TA} {px py pt : Pos} {kt k2 pt2} (hc : X.calm = true) (hN : X.N.Nodup) (hi : X.N[i]? = some x) (hj : X.N[j]? = some y) (hij : i ≠ j)
    (hx : X.env.scope.names.lookup x = some .local) (hy : X.env.scope.names.lookup y = some .local) (ha : PA X [a, b] ta)
    (hw : swappedStores [.Tuple [.Name x px, .Name y py] kt pt] (.Tuple [a, b] k2 pt2) X.env = pure (some [x, y]))
    (hs : swapsWithSole [.Tuple [.Name x px, .Name y py] kt pt] (.Tuple [a, b] k2 pt2) pos.line X.env = pure false := by rfl) :
    PS X (.Assign [.Tuple [.Name x px, .Name y py] kt pt] (.Tuple [a, b] k2 pt2) pos) (tPar i j ta) := by
  intro pins s σ H D I h
  rw [exec_Assign_arm]
  refine wpAny_bind (wpAny_standAt ?_)
  rw [hs]
  refine wpAny_bind (wpAny_pure ?_)
  rw [if_neg (by decide)]
  refine wpAny_bind (Tuple_ (thn (ha _ pins s σ H _ I h) fun us s1 ⟨vs, H1, I1, r1, q1⟩ => ?_))
  obtain ⟨v, w, e1, q1⟩ := q1
  subst e1
  obtain ⟨u1, u2, rfl, rv, rw'⟩ : ∃ u1 u2, us = [u1, u2] ∧ RelV v u1 ∧ RelV w u2 := by
    cases r1 with
    | cons p q =>
      cases q with
      | cons p' q' =>
        cases q'
        exact ⟨_, _, rfl, p, p'⟩
  refine wpAny_newObj_type ?_ (by show 2 ≤ sizeLine; decide)
  have I2 : Inv X pins σ H1 { s1 with heap := s1.heap.push { cls := .type "tuple", data := .seq [u1, u2].toArray } } := I1.kept (t' := s1.toks) fun b o e => Heap.get?_push_of_some _ e
  rw [hw]
  refine wpAny_bind (wpAny_pure ?_)
  show wpAny (model X.prog X.w) X.A (do rule "assign.swapped-stores"; let items ← unpackItems (.ref s1.heap.objs.size) 2 none; assignInOrder [fun v => bindName X.env y v, fun v => bindName X.env x v] items.reverse; pure Flow.next) _ _ _
  refine wpAny_bind (wpAny_rule (wpAny_bind (unpackItems_tuple (items := #[u1, u2]) (I.ok.hd hc) (IsTup.new s1.heap _) fun h' hx' => ?_)))
  have I3 := I2.kept (h' := h') (t' := s1.toks) fun b o e => hx' b o (Nat.ne_of_lt (Heap.lt_size e)) e
  show wpAny _ _ (assignInOrder [fun v => bindName X.env y v, fun v => bindName X.env x v] [u2, u1] >>= fun _ => pure Flow.next) _ _ _
  refine wpAny_bind (assignInOrder_cons (wpAny_bindName (store_ok I3 hN hj (.inl hy) rw' (fun s2 I4 => ?_) (.inr hy))))
  refine assignInOrder_cons (wpAny_bindName (store_ok I4 hN hi (.inl hx) rv (fun s3 I5 => assignInOrder_nil (wpAny_pure ?_)) (.inr hx)))
  rw [List.set_comm _ _ (Ne.symm hij)] at I5
  exact ⟨_, H1, I5, q1⟩
/-- name op= e -/
def tAug (i : Nat) (te : TE) (ti : TIp) : TS := fun D σ H => ∃ x, σ[i]? = some (some x) ∧ te σ H fun y H1 => ti x y H1 fun z H2 => D.nx (σ.set i (some z)) H2
theorem ps_aug {i : Nat} {x : Str} {e : Expr} {te : TE} {op : Operator} {ti : TIp} {pos' : Pos} (hN : X.N.Nodup) (hi : X.N[i]? = some x) (hx : Loc X.env.scope x) (he : PE X e te) (ho : PIp X op ti) (hf : X.fn x = true ∨ X.env.scope.names.lookup x = some .local := by first | exact .inl rfl | exact .inr rfl | assumption) :
    PS X (.AugAssign (.Name x pos') op e pos) (tAug i te ti) := by
  intro pins s σ H D I h
  obtain ⟨v, e1, h⟩ := h
  obtain ⟨m, hn, hl⟩ := I.loc
  have vis : Vis X.env.scope x := by rcases hx with k | k; exact .inl k; exact .inr (.inl k)
  obtain ⟨u, r, l⟩ := hl i x v hi e1 vis
  refine wpAny_AugAssign_Name ?_
  have go : wpAny (model X.prog X.w) X.A (eval e X.env) (fun w s₂ => wpAny (model X.prog X.w) X.A (inplaceOp op u w) (fun r s₃ => wpAny (model X.prog X.w) X.A (storeName X.env x r) (fun _ => SP X pins D .next) X.xe s₃) X.xe s₂) X.xe s := by
    refine thn (he pins s σ H _ I h) fun w s1 ⟨y, H1, I1, r1, q1⟩ => ?_
    refine thn (ho pins s1 σ H1 v y u w _ I1 r r1 q1) fun z s2 ⟨zv, H2, I2, r2, q2⟩ => ?_
    exact store_ok I2 hN hi hx r2 (fun s3 I3 => ⟨_, H2, I3, q2⟩) hf
  rcases l with ⟨hk, hm⟩ | ⟨hk, c, hc, hcell⟩
  · exact wpAny_loadName_local I.ok.kind hk hn hm go
  · rcases hk with hk | hk
    · exact wpAny_loadName_cell I.ok.kind hk hc hcell go
    · rcases hx with k | k
      · have : X.env.scope.names.lookup x = some .free := hk
        rw [k] at this; cases this
      · have : X.env.scope.names.lookup x = some .free := hk
        rw [k] at this; cases this
/-- o[i] op= e -/
def tAugS (to ti te : TE) (tget : V → V → Hp → VK → Prop) (tip : TIp) (tset : TSet) : TS := fun D σ H => to σ H fun o H1 => ti σ H1 fun i H2 => tget o i H2 fun x H3 => te σ H3 fun y H4 => tip x y H4 fun z H5 => tset o i z H5 fun H6 => D.nx σ H6
/-- o[i], by values -/
def PGet (X : Cx) (t : V → V → Hp → VK → Prop) : Prop :=
  ∀ (pins : List (Addr × Obj)) (s : Shared) (σ : St) (H : Hp) (o i : V) (ov iv : Value) (Q : VK), Inv X pins σ H s → RelV o ov → RelV i iv → t o i H Q →
    wpAny (model X.prog X.w) X.A (getItem ov iv) (EP X pins σ Q) X.xe s
theorem ps_augS {o i e : Expr} {to ti te : TE} {tget : V → V → Hp → VK → Prop} {tip : TIp} {tset : TSet} {op : Operator} {tpos : Pos} (ho : PE X o to) (hi : PE X i ti) (hg : PGet X tget) (he : PE X e te) (hp : PIp X op tip) (hs : PSet X tset)
    (ha : ∀ ov iv new, augStore i ov iv new = (do holding [new, ov, iv] (setItem ov iv new); release [new, ov, iv] []; pure .next) := by intros; rfl) : PS X (.AugAssign (.Subscript o i tpos) op e pos) (tAugS to ti te tget tip tset) := by
  intro pins s σ H D I h
  refine wpAny_AugAssign_SubscriptAny (thn (ho pins s σ H _ I h) fun ov s1 ⟨x1, H1, I1, r1, q1⟩ => ?_) ha
  refine thn (hi pins s1 σ H1 _ I1 q1) fun iv s2 ⟨x2, H2, I2, r2, q2⟩ => ?_
  refine thn (hg pins s2 σ H2 x1 x2 ov iv _ I2 r1 r2 q2) fun old s3 ⟨x3, H3, I3, r3, q3⟩ => ?_
  refine thn (he pins s3 σ H3 _ I3 q3) fun v s4 ⟨x4, H4, I4, r4, q4⟩ => ?_
  refine thn (hp pins s4 σ H4 x3 x4 old v _ I4 r3 r4 q4) fun new s5 ⟨x5, H5, I5, r5, q5⟩ => ?_
  exact thn (hs pins s5 σ H5 x1 x2 x5 ov iv new _ I5 r1 r2 r5 q5) fun _ s6 ⟨H6, I6, q6⟩ => ⟨σ, H6, I6, q6⟩
/-- ints -/
def ipI (f : Int → Int → Int) : TIp := fun x y H Q => ∃ i j, x = .int i ∧ y = .int j ∧ Q (.int (f i j)) H
theorem ip_add : PIp X .Add (ipI fun i j => i + j) := by
  intro pins s σ H x y v u Q I r1 r2 h
  obtain ⟨i, j, e1, e2, q⟩ := h
  subst e1; subst e2
  obtain ⟨t, rfl⟩ := r1
  obtain ⟨t', rfl⟩ := r2
  exact iadd_int ⟨.int _, H, I.tok _, ⟨_, rfl⟩, q⟩
theorem ip_sub : PIp X .Sub (ipI fun i j => i - j) := by
  intro pins s σ H x y v u Q I r1 r2 h
  obtain ⟨i, j, e1, e2, q⟩ := h
  subst e1; subst e2
  obtain ⟨t, rfl⟩ := r1
  obtain ⟨t', rfl⟩ := r2
  exact isub_int ⟨.int _, H, I.tok _, ⟨_, rfl⟩, q⟩
end

/-! ### while -/
section
variable {X : Cx} {pos : Pos}
/-- the invariant W with its measure -/
def tWhile (c : TT) (tb : TS) : TS := fun D σ H => ∃ W : Nat → St → Hp → Prop, (∃ m, W m σ H) ∧ ∀ m σ H, W m σ H →
  c σ H fun b H1 => if b = true then ∃ N : St → Hp → Prop, (∀ σ' H', N σ' H' → ∃ m', m' < m ∧ W m' σ' H') ∧ tb { D with nx := N, ct := N, bk := D.nx } σ H1 else D.nx σ H1
theorem ps_while {c : Expr} {body : List Stmt} {tc : TT} {tb : TS} (hp : PassesOwn (model X.prog X.w) X.A X.env X.xe) (hc : PT X c tc) (hb : PSs X body tb) : PS X (.While c body [] pos) (tWhile tc tb) := by
  intro pins s σ H D I h
  obtain ⟨W, ⟨m0, w0⟩, turn⟩ := h
  refine wpAny_While (codeAny_whileLoop (fun n s' => ∃ σ' H', Inv X pins σ' H' s' ∧ W n σ' H') ?_ m0 ⟨σ, H, I, w0⟩)
  rintro n s1 ⟨σ1, H1, I1, w1⟩
  refine wpAny_passesOwn hp (thn (hc pins s1 σ1 H1 _ I1 (turn n σ1 H1 w1)) fun b s2 ⟨H2, I2, q2⟩ => ?_)
  cases b with
  | true =>
    obtain ⟨N, hN, q2⟩ := q2
    rw [if_pos rfl]
    refine wpAny_passesOwn hp (thn (hb pins s2 σ1 H2 _ I2 q2) fun f s3 q3 => ?_)
    cases f with
    | next =>
      obtain ⟨σ3, H3, I3, n3⟩ := q3
      obtain ⟨m', hm, w3⟩ := hN σ3 H3 n3
      exact ⟨m', hm, σ3, H3, I3, w3⟩
    | cont =>
      obtain ⟨σ3, H3, I3, n3⟩ := q3
      obtain ⟨m', hm, w3⟩ := hN σ3 H3 n3
      exact ⟨m', hm, σ3, H3, I3, w3⟩
    | brk => exact q3
    | ret v => exact q3
  | false =>
    rw [if_neg Bool.false_ne_true]
    exact wpAny_execs_nil ⟨σ1, H2, I2, q2⟩
end

/-! ### what a loop or a comprehension walks -/
/-- at turn i: it yields x (the heap may grow), or it stops -/
structure It where
  go : Nat → Hp → Prop
  yld : Nat → Hp → V → Hp → Prop
  stop : Nat → Hp → Prop
/-- the iterator's own objects may turn: they are not the frame's, not pinned, younger than the entry (or a comprehension's own) -/
def FpOk (X : Cx) (pins : List (Addr × Obj)) (H : Hp) (b : Addr) : Prop :=
  H b = none ∧ b ≠ X.env.locals ∧ b ∉ X.fs ∧ (b ∈ X.ex ∨ X.s₀.heap.objs.size ≤ b) ∧ (∀ x c, X.env.cells.lookup x = some c → c ≠ b) ∧ ∀ p ∈ X.pn ++ pins, p.1 ≠ b
theorem Inv.fpOk {X : Cx} {pins : List (Addr × Obj)} {σ : St} {H H' : Hp} {s : Shared} {b : Addr} (I : Inv X pins σ H s) (hb : s.heap.objs.size ≤ b) (hn : H' b = none) : FpOk X pins H' b := by
  refine ⟨hn, Nat.ne_of_gt (Nat.lt_of_lt_of_le I.lt hb), I.nofs hb, .inr (Nat.le_trans I.sz hb), fun x c e z => ?_, fun p hp z => ?_⟩
  · obtain ⟨v, q⟩ := I.cell x c e
    exact absurd (Nat.lt_of_lt_of_le q.lt (by rw [z]; exact hb)) (Nat.lt_irrefl _)
  · exact absurd (Nat.lt_of_lt_of_le (Heap.lt_size (I.pin p hp).1) (by rw [z]; exact hb)) (Nat.lt_irrefl _)
structure Turn (P : Program) (w : World) (K : PySem.W.Frag) (tg : Expr) (J : It) (fp : List Addr) (it : Addr) (tn : Nat → Heap → Prop) : Prop where
  mem : it ∈ fp
  obj : ∀ i h, tn i h → ∀ b ∈ fp, ∃ o, h.get? b = some o ∧ ∀ v, o.data ≠ .cell v
  keep : ∀ i h h', tn i h → (∀ b ∈ fp, ∀ o, h.get? b = some o → h'.get? b = some o) → tn i h'
  item : ∀ (X : Cx), X.prog = P → X.w = w → X.K = K → X.calm = true → ∀ (i : Nat) (pins : List (Addr × Obj)) (s : Shared) (σ : St) (H : Hp) (E : Value → Shared → Prop), Inv X pins σ H s → (∀ b ∈ fp, FpOk X pins H b) → tn i s.heap → J.go i H →
    wpAny (model P w) X.A (pyNext (.ref it)) (fun r s1 => ∃ u, r = some u ∧
      wpAny (model P w) X.A (letOwnedTupleGo tg (.ref it) u) (fun _ s2 => ∃ x H', Inv X pins σ H' s2 ∧ RelV x u ∧ J.yld i H x H' ∧ tn (i + 1) s2.heap ∧ ∀ b ∈ fp, H' b = none) E s1) E s
  done : ∀ (X : Cx), X.prog = P → X.w = w → X.K = K → X.calm = true → ∀ (i : Nat) (pins : List (Addr × Obj)) (s : Shared) (σ : St) (H : Hp) (E : Value → Shared → Prop), Inv X pins σ H s → (∀ b ∈ fp, FpOk X pins H b) → tn i s.heap → J.stop i H →
    wpAny (model P w) X.A (pyNext (.ref it)) (fun r s1 => r = none ∧ Inv X pins σ H s1) E s
  self : ∀ (A : Around) (i : Nat) (s : Shared) (Q : Value → Shared → Prop) (E : Value → Shared → Prop), tn i s.heap → Q (.ref it) s → wpAny (model P w) A (pyIter (.ref it)) Q E s
abbrev TI := St → Hp → (It → Hp → Prop) → Prop
/-- an iterator has come -/
def PIE (X : Cx) (pins : List (Addr × Obj)) (σ : St) (tg : Expr) (R : It → Hp → Prop) (itv : Value) (s2 : Shared) : Prop :=
  ∃ (it : Addr) (fp : List Addr) (tn : Nat → Heap → Prop) (J : It) (H' : Hp), itv = .ref it ∧ Inv X pins σ H' s2 ∧ Turn X.prog X.w X.K tg J fp it tn ∧ tn 0 s2.heap ∧ (∀ b ∈ fp, FpOk X pins H' b) ∧ R J H'
def PI (X : Cx) (tg iter : Expr) (wi : TI) : Prop :=
  ∀ (pins : List (Addr × Obj)) (s : Shared) (σ : St) (H : Hp) (R : It → Hp → Prop), Inv X pins σ H s → wi σ H R →
    wpAny (model X.prog X.w) X.A (eval iter X.env) (fun v s1 => wpAny (model X.prog X.w) X.A (pyIter v) (PIE X pins σ tg R) X.xe s1) X.xe s

/-- the step ahead of the store is nothing for an iterator that keeps no tuple -/
theorem go_of {M : Model} {A : Around} {E : Value → Shared → Prop} {s : Shared} {tg : Expr} {it : Addr} {u : Value} {o : Obj} {n : String} {vs : Array Value} {Q : Unit → Shared → Prop} (ho : s.heap.get? it = some o) (hc : o.cls = .type n) (hd : o.data = .fields vs)
    (hn : ["enumerate", "zip", "dict_itemiterator", "dict_reverseitemiterator", "odict_iterator", "itertools.zip_longest", "itertools.pairwise"].contains n = false) (hQ : Q () s) : wpAny M A (letOwnedTupleGo tg (.ref it) u) Q E s := by
  unfold letOwnedTupleGo
  cases tg <;> first
    | exact wpAny_pure hQ
    | (cases u <;> first
        | exact wpAny_pure hQ
        | (refine wpAny_bind (wpAny_load ho ?_)
           rw [hc, hd]
           show wpAny M A (if (["enumerate", "zip", "dict_itemiterator", "dict_reverseitemiterator", "odict_iterator", "itertools.zip_longest", "itertools.pairwise"].contains n && vs[0]? == some (rawInt _)) = true then _ else _) Q E s
           rw [if_neg (by intro h; rw [hn, Bool.false_and] at h; cases h)]
           exact wpAny_pure hQ))

/-- the list at a, as it stands at each turn (a loop may append to it) -/
def Itl (K : PySem.W.Frag) (a : Addr) : It :=
  ⟨fun i H => ∃ xs x, SqL K H a xs ∧ xs[i]? = some x, fun i H x H' => H' = H ∧ ∀ xs, SqL K H a xs → xs[i]? = some x, fun i H => ∃ xs, SqL K H a xs ∧ xs.length ≤ i⟩
def Itt (K : PySem.W.Frag) (a : Addr) : It :=
  ⟨fun i H => ∃ xs x, SqT K H a xs ∧ xs[i]? = some x, fun i H x H' => H' = H ∧ ∀ xs, SqT K H a xs → xs[i]? = some x, fun i H => ∃ xs, SqT K H a xs ∧ xs.length ≤ i⟩
/-- lo, lo + 1, .. (n of them) -/
def Itr (lo : Int) (n : Nat) : It := ⟨fun i _ => i < n, fun i H x H' => H' = H ∧ x = .int (lo + i), fun i _ => n ≤ i⟩
theorem turn_list {P : Program} {w : World} {K : PySem.W.Frag} {tg : Expr} (a it : Addr) : Turn P w K tg (Itl K a) [it] it (fun i h => h.IsListIter it a i) where
  mem := by simp
  obj := fun i h st b hb => by
    have e : b = it := by simpa using hb
    subst e
    obtain ⟨o, e, c, d⟩ := st
    exact ⟨o, e, fun v z => by rw [d] at z; cases z⟩
  keep := fun i h h' st k => st.at fun o e => k it (by simp) o e
  item := by
    intro X hP hw hK hc i pins s σ H E I hf st hg
    subst hP hw hK
    obtain ⟨xs, x, hq, hx⟩ := hg
    obtain ⟨its, rv, p, hz⟩ := I.list hq
    obtain ⟨u, hu, ru⟩ := rv.get hx
    obtain ⟨f0, f1, f2, f3, f4, f5⟩ := hf it (by simp)
    refine wpAny_pyNext_list_item st p.isList (x := u) (by simpa using hu) fun h' st' sb => ?_
    have I1 : Inv X pins σ H { s with heap := h' } := I.turned (t' := s.toks) (fun b o hb e => (sb.2 b hb).trans e) f0 f1 f3 f4 f5
    obtain ⟨o, e, c, d⟩ := id st'
    exact ⟨u, rfl, go_of (s := { s with heap := h' }) e c d (by decide) ⟨x, H, I1, ru, ⟨rfl, fun ys hy => by rw [I.list_inj hy hq]; exact hx⟩, st', fun b hb => (hf b hb).1⟩⟩
  done := by
    intro X hP hw hK hc i pins s σ H E I hf st hg
    subst hP hw hK
    obtain ⟨xs, hq, hx⟩ := hg
    obtain ⟨its, rv, p, hz⟩ := I.list hq
    obtain ⟨f0, f1, f2, f3, f4, f5⟩ := hf it (by simp)
    have hl := rv.length
    exact wpAny_pyNext_list_end (I.ok.hd hc) st p.isList (by simp; omega) fun h' eb => ⟨rfl, I.turned (t' := s.toks) (fun b o hb e => eb b o hb e) f0 f1 f3 f4 f5⟩
  self := fun _ _ _ _ _ st h => wpAny_pyIter_listiter st h
theorem turn_tuple {P : Program} {w : World} {K : PySem.W.Frag} {tg : Expr} (a it : Addr) : Turn P w K tg (Itt K a) [it] it (fun i h => h.IsTupleIter it a i) where
  mem := by simp
  obj := fun i h st b hb => by
    have e : b = it := by simpa using hb
    subst e
    obtain ⟨o, e, c, d⟩ := st
    exact ⟨o, e, fun v z => by rw [d] at z; cases z⟩
  keep := fun i h h' st k => st.at fun o e => k it (by simp) o e
  item := by
    intro X hP hw hK hc i pins s σ H E I hf st hg
    subst hP hw hK
    obtain ⟨xs, x, hq, hx⟩ := hg
    obtain ⟨its, rv, p, hz⟩ := I.tuple hq
    obtain ⟨u, hu, ru⟩ := rv.get hx
    obtain ⟨f0, f1, f2, f3, f4, f5⟩ := hf it (by simp)
    refine wpAny_pyNext_tuple_item st (show s.heap.IsTuple a its.toArray from p) (x := u) (by simpa using hu) fun h' st' sb => ?_
    have I1 : Inv X pins σ H { s with heap := h' } := I.turned (t' := s.toks) (fun b o hb e => (sb.2 b hb).trans e) f0 f1 f3 f4 f5
    obtain ⟨o, e, c, d⟩ := id st'
    exact ⟨u, rfl, go_of (s := { s with heap := h' }) e c d (by decide) ⟨x, H, I1, ru, ⟨rfl, fun ys hy => by rw [I.tuple_inj hy hq]; exact hx⟩, st', fun b hb => (hf b hb).1⟩⟩
  done := by
    intro X hP hw hK hc i pins s σ H E I hf st hg
    subst hP hw hK
    obtain ⟨xs, hq, hx⟩ := hg
    obtain ⟨its, rv, p, hz⟩ := I.tuple hq
    obtain ⟨f0, f1, f2, f3, f4, f5⟩ := hf it (by simp)
    have hl := rv.length
    exact wpAny_pyNext_tuple_end (I.ok.hd hc) st (show s.heap.IsTuple a its.toArray from p) (by simp; omega) fun h' eb => ⟨rfl, I.turned (t' := s.toks) (fun b o hb e => eb b o hb e) f0 f1 f3 f4 f5⟩
  self := fun _ _ _ _ _ st h => wpAny_pyIter_tupleiter st h
theorem turn_range {P : Program} {w : World} {K : PySem.W.Frag} {tg : Expr} (it : Addr) (lo : Int) (n : Nat) : Turn P w K tg (Itr lo n) [it] it (fun i h => IsRangeIter h it (lo + (i : Nat) * 1) ((n : Int) - (i : Nat)) 1) where
  mem := by simp
  obj := fun i h st b hb => by
    have e : b = it := by simpa using hb
    subst e
    exact ⟨_, st, fun v z => by
      have z' : Data.fields _ = Data.cell v := z
      cases z'⟩
  keep := fun i h h' st k => k it (by simp) _ st
  item := by
    intro X hP hw hK hc i pins s σ H E I hf st hg
    subst hP hw hK
    obtain ⟨f0, f1, f2, f3, f4, f5⟩ := hf it (by simp)
    have W := Walks.range (prog := X.prog) (w := X.w) (I.ok.hd hc) it lo 1 n
    refine W.item i s _ _ hg st fun v h' tk hv st' kk => ?_
    obtain ⟨t, rfl⟩ := hv
    have I1 : Inv X pins σ H { s with heap := h', toks := tk } := I.turned (fun b o hb e => kk b o (by simpa using hb) e) f0 f1 f3 f4 f5
    refine ⟨_, rfl, go_of (s := { s with heap := h', toks := tk }) (n := "range_iterator") st' rfl rfl (by decide) ⟨.int (lo + i), H, I1, ⟨t, ?_⟩, ⟨rfl, rfl⟩, st', fun b hb => (hf b hb).1⟩⟩
    rw [Int.mul_one]
  done := by
    intro X hP hw hK hc i pins s σ H E I hf st hg
    subst hP hw hK
    obtain ⟨f0, f1, f2, f3, f4, f5⟩ := hf it (by simp)
    exact wpAny_pyNext_range_end (I.ok.hd hc) st (by have : n ≤ i := hg; omega) fun h' eb => ⟨rfl, I.turned (t' := s.toks) (fun b o hb e => eb b o hb e) f0 f1 f3 f4 f5⟩
  self := fun _ _ _ _ _ st h => wpAny_pyIter_rangeiter st h
end L2

namespace L2
open PySem PySem.Spec PyProof.Rows
section
variable {X : Cx} {tg : Expr}
def iList (K : PySem.W.Frag) (tl : TE) : TI := fun σ H R => tl σ H fun x H1 => ∃ a, x = .ref a ∧ (∃ xs, SqL K H1 a xs) ∧ R (Itl K a) H1
def iTup (K : PySem.W.Frag) (tl : TE) : TI := fun σ H R => tl σ H fun x H1 => ∃ a, x = .ref a ∧ (∃ xs, SqT K H1 a xs) ∧ R (Itt K a) H1
theorem pi_list {l : Expr} {tl : TE} (hl : PE X l tl) : PI X tg l (iList X.K tl) := by
  intro pins s σ H R I h
  refine thn (hl pins s σ H _ I h) fun v s1 ⟨x, H1, I1, r1, q1⟩ => ?_
  obtain ⟨a, e, ⟨xs, hq⟩, q⟩ := q1
  subst e
  cases r1
  obtain ⟨its, rv, p, hz⟩ := I1.list hq
  refine wpAny_pyIter_list p.isList ?_
  refine ⟨s1.heap.objs.size, [s1.heap.objs.size], _, _, H1, rfl, I1.kept (t' := s1.toks) fun b o e => Heap.get?_push_of_some _ e, turn_list a _, ⟨_, Heap.get?_push_size _ rfl, rfl, rfl⟩, fun b hb => ?_, q⟩
  have e : b = s1.heap.objs.size := by simpa using hb
  subst e
  exact I1.fpOk (Nat.le_refl _) (I1.hok.fresh (Nat.le_refl _))
theorem pi_tup {l : Expr} {tl : TE} (hl : PE X l tl) : PI X tg l (iTup X.K tl) := by
  intro pins s σ H R I h
  refine thn (hl pins s σ H _ I h) fun v s1 ⟨x, H1, I1, r1, q1⟩ => ?_
  obtain ⟨a, e, ⟨xs, hq⟩, q⟩ := q1
  subst e
  cases r1
  obtain ⟨its, rv, p, hz⟩ := I1.tuple hq
  refine wpAny_pyIter_tuple (show s1.heap.IsTuple a its.toArray from p) ?_
  refine ⟨s1.heap.objs.size, [s1.heap.objs.size], _, _, H1, rfl, I1.kept (t' := s1.toks) fun b o e => Heap.get?_push_of_some _ e, turn_tuple a _, ⟨_, Heap.get?_push_size _ rfl, rfl, rfl⟩, fun b hb => ?_, q⟩
  have e : b = s1.heap.objs.size := by simpa using hb
  subst e
  exact I1.fpOk (Nat.le_refl _) (I1.hok.fresh (Nat.le_refl _))
/-- a range object just made, walked -/
theorem range_it {pins : List (Addr × Obj)} {σ : St} {H : Hp} {s : Shared} {R : It → Hp → Prop} {E : Value → Shared → Prop} {lo hi : Int} {t u v : Tok} {tk : Nat} (I : Inv X pins σ H s) (h1 : -(2 ^ 62) ≤ lo) (h2 : lo < 2 ^ 62) (h3 : -(2 ^ 62) ≤ hi) (h4 : hi < 2 ^ 62)
    (q : R (Itr lo (hi - lo).toNat) H) : wpAny (model X.prog X.w) X.A (pyIter (.ref s.heap.objs.size)) (PIE X pins σ tg R) E { s with heap := s.heap.push { cls := .type "range", data := .fields #[.int lo t, .int hi u, .int 1 v] }, toks := tk } := by
  refine wpAny_pyIter_range (IsRange.new ..) (small_one h1 h2 h3 h4) ?_
  have I1 : Inv X pins σ H { s with heap := s.heap.push { cls := .type "range", data := .fields #[.int lo t, .int hi u, .int 1 v] }, toks := tk } := I.kept fun b o e => Heap.get?_push_of_some _ e
  refine ⟨(s.heap.push { cls := .type "range", data := .fields #[.int lo t, .int hi u, .int 1 v] }).objs.size, [(s.heap.push { cls := .type "range", data := .fields #[.int lo t, .int hi u, .int 1 v] }).objs.size], _, _, H, rfl,
    I1.kept (t' := tk) fun b o e => Heap.get?_push_of_some _ e, turn_range _ lo (hi - lo).toNat, ?_, fun b hb => ?_, q⟩
  · have e1 : lo + ((0 : Nat) : Int) * 1 = lo := by simp
    have e2 : (((hi - lo).toNat : Nat) : Int) - ((0 : Nat) : Int) = Builtin.Range.rangeSize lo hi 1 := by rw [rangeSize_one]; split <;> omega
    show IsRangeIter _ _ (lo + ((0 : Nat) : Int) * 1) ((((hi - lo).toNat : Nat) : Int) - ((0 : Nat) : Int)) 1
    rw [e1, e2]
    exact Heap.get?_push_size _ rfl
  · have e : b = (s.heap.push { cls := .type "range", data := .fields #[.int lo t, .int hi u, .int 1 v] }).objs.size := by simpa using hb
    subst e
    exact I1.fpOk (Nat.le_refl _) (I1.hok.fresh (Nat.le_refl _))
def iRng1 (ta : TA) : TI := fun σ H R => ta σ H fun vs H1 => ∃ j : Int, vs = [.int j] ∧ -(2 ^ 62) ≤ j ∧ j < 2 ^ 62 ∧ R (Itr 0 j.toNat) H1
def iRng2 (ta : TA) : TI := fun σ H R => ta σ H fun vs H1 => ∃ i j : Int, vs = [.int i, .int j] ∧ (-(2 ^ 62) ≤ i ∧ i < 2 ^ 62 ∧ -(2 ^ 62) ≤ j ∧ j < 2 ^ 62) ∧ R (Itr i (j - i).toNat) H1
theorem pi_range1 {a : Expr} {ta : TA} {p pos : Pos} (hg : Gl X "range") (hm : X.mg "range" = none) (ha : PA X [a] ta) (hs : starEach [a] X.env = [(false, eval a X.env)] := by rfl) : PI X tg (.Call (.Name "range" p) [a] [] pos) (iRng1 ta) := by
  intro pins s σ H R I h
  refine Call_ (ld_blt I hg hm boot_range (PyProof.Rows.callWith_type1 (thn (ha pos pins s σ H _ I h) fun us s1 ⟨vs, H1, I1, r1, q1⟩ => ?_) hs rfl))
  obtain ⟨j, e, q1, q2, q⟩ := q1
  subst e
  cases r1 with
  | cons r rr =>
    cases rr
    obtain ⟨t, rfl⟩ := r
    exact call_range_1 (range_it I1 (by omega) (by omega) q1 q2 (by simpa using q))
theorem pi_range2 {a b : Expr} {ta : TA} {p pos : Pos} (hg : Gl X "range") (hm : X.mg "range" = none) (ha : PA X [a, b] ta) (hs : starEach [a, b] X.env = [(false, eval a X.env), (false, eval b X.env)] := by rfl) (hs2 : starEach [b] X.env = [(false, eval b X.env)] := by rfl) :
    PI X tg (.Call (.Name "range" p) [a, b] [] pos) (iRng2 ta) := by
  intro pins s σ H R I h
  refine Call_ (ld_blt I hg hm boot_range (PyProof.Rows.callWith_type1 (thn (ha pos pins s σ H _ I h) fun us s1 ⟨vs, H1, I1, r1, q1⟩ => ?_) (by rw [hs, hs2]) (by rw [hs2]; rfl)))
  obtain ⟨i, j, e, ⟨q1, q2, q3, q4⟩, q⟩ := q1
  subst e
  cases r1 with
  | cons r rr =>
    cases rr with
    | cons r' rr =>
      cases rr
      obtain ⟨t, rfl⟩ := r
      obtain ⟨t', rfl⟩ := r'
      exact call_range_2 (range_it I1 q1 q2 q3 q4 q)

/-! ### for -/
/-- W: the invariant by the turn and a measure; N: what the body is to reach -/
def tFor (wi : TI) (g : TG) (tb : TS) : TS := fun D σ H => wi σ H fun J H1 => ∃ W : Nat → Nat → St → Hp → Prop, (∃ m, W 0 m σ H1) ∧ ∀ i m σ H, W i m σ H →
  (J.stop i H ∧ D.nx σ H) ∨ (J.go i H ∧ ∃ N : St → Hp → Prop, (∀ σ' H', N σ' H' → ∃ m', m' < m ∧ W (i + 1) m' σ' H') ∧ ∀ x H', J.yld i H x H' → g x σ H' fun σ2 H2 => tb { D with nx := N, ct := N, bk := D.nx } σ2 H2)
/-- the records at fp as they stand -/
def pinsAt (fp : List Addr) (h : Heap) : List (Addr × Obj) := fp.filterMap fun b => (h.get? b).map fun o => (b, o)
theorem mem_pinsAt {fp : List Addr} {h : Heap} {b : Addr} {o : Obj} (hb : b ∈ fp) (e : h.get? b = some o) : (b, o) ∈ pinsAt fp h := List.mem_filterMap.mpr ⟨b, hb, by rw [e]; rfl⟩
theorem of_pinsAt {fp : List Addr} {h : Heap} {p : Addr × Obj} (hp : p ∈ pinsAt fp h) : p.1 ∈ fp ∧ h.get? p.1 = some p.2 := by
  obtain ⟨b, hb, e⟩ := List.mem_filterMap.mp hp
  cases q : h.get? b with
  | none => rw [q] at e; cases e
  | some o =>
    rw [q] at e
    have e' : (b, o) = p := Option.some.inj e
    subst e'
    exact ⟨hb, q⟩
theorem Inv.pinned {pins : List (Addr × Obj)} {σ : St} {H : Hp} {s : Shared} {fp : List Addr} (I : Inv X pins σ H s) (hf : ∀ b ∈ fp, FpOk X pins H b) (ho : ∀ b ∈ fp, ∃ o, s.heap.get? b = some o ∧ ∀ v, o.data ≠ .cell v) : Inv X (pins ++ pinsAt fp s.heap) σ H s :=
  I.pins_of fun p hp => (List.mem_append.mp hp).elim (fun z => I.pin p (List.mem_append_right _ z)) fun z => by
    obtain ⟨hb, e⟩ := of_pinsAt z
    obtain ⟨f0, f1, f2, _⟩ := hf p.1 hb
    obtain ⟨o, e', d⟩ := ho p.1 hb
    rw [e] at e'; cases e'
    exact ⟨e, f0, f1, f2, d⟩
theorem Inv.unpinned {pins pl : List (Addr × Obj)} {σ : St} {H : Hp} {s : Shared} (I : Inv X (pins ++ pl) σ H s) : Inv X pins σ H s := I.pins_of fun p hp => I.pin p (List.mem_append_right _ (List.mem_append_left _ hp))
theorem ps_for {iter : Expr} {body : List Stmt} {wi : TI} {g : TG} {tb : TS} {pos : Pos} (hp : PassesOwn (model X.prog X.w) X.A X.env X.xe) (hc : X.calm = true) (hi : PI X tg iter wi) (hg : PG X tg g) (hb : PSs X body tb)
    (hs : ∀ x, foldedSetIterable iter X.env x = pure x := by intro _; rfl) : PS X (.For tg iter body [] pos) (tFor wi g tb) := by
  intro pins s σ H D I h
  refine wpAny_For (thn (hi pins s σ H _ I h) fun v s1 h1 => thn h1 fun itv s2 h2 => ?_) hs
  obtain ⟨it, fp, tn, J, H2, e, I2, T, st2, f2, W, ⟨m0, w0⟩, turn⟩ := h2
  subst e
  -- what stays true of the iterator's objects through the loop
  have stat : ∀ {H' : Hp}, (∀ b ∈ fp, H' b = none) → ∀ b ∈ fp, FpOk X pins H' b := fun hn b hb => ⟨hn b hb, (f2 b hb).2⟩
  refine codeAny_forLoop_any (fun n s' => ∃ i σ' H', Inv X pins σ' H' s' ∧ tn i s'.heap ∧ (∀ b ∈ fp, H' b = none) ∧ W i n σ' H') ?_ m0 ⟨0, σ, H2, I2, st2, fun b hb => (f2 b hb).1, w0⟩
  rintro n s3 ⟨i, σ3, H3, I3, st3, fr3, w3⟩
  rcases turn i n σ3 H3 w3 with ⟨stop, qn⟩ | ⟨go, N, hN, step⟩
  · refine wpAny_passesOwn hp (thn (T.done X rfl rfl rfl hc i pins s3 σ3 H3 X.xe I3 (stat fr3) st3 stop) fun r s4 ⟨hr, I4⟩ => ?_)
    subst hr
    exact wpAny_execs_nil ⟨σ3, H3, I4, qn⟩
  · refine wpAny_passesOwn hp (thn (T.item X rfl rfl rfl hc i pins s3 σ3 H3 X.xe I3 (stat fr3) st3 go) fun r s4 ⟨u, hr, h4⟩ => ?_)
    subst hr
    refine wpAny_passesOwn hp (thn h4 fun _ s5 ⟨x, H5, I5, r5, y5, st5, fr5⟩ => ?_)
    have I5' := I5.pinned (stat fr5) (T.obj _ _ st5)
    refine wpAny_passesOwn hp (thn (hg _ s5 σ3 H5 x u _ I5' r5 (step x H5 y5)) fun _ s6 ⟨σ6, H6, I6, q6⟩ => ?_)
    refine wpAny_passesOwn hp (thn (hb _ s6 σ6 H6 _ I6 q6) fun f s7 q7 => ?_)
    have again : ∀ {σ7 : St} {H7 : Hp}, Inv X (pins ++ pinsAt fp s5.heap) σ7 H7 s7 → N σ7 H7 → ∃ m, m < n ∧ ∃ i σ' H', Inv X pins σ' H' s7 ∧ tn i s7.heap ∧ (∀ b ∈ fp, H' b = none) ∧ W i m σ' H' := fun {σ7 H7} I7 n7 => by
      obtain ⟨m', hm, w7⟩ := hN σ7 H7 n7
      refine ⟨m', hm, i + 1, σ7, H7, I7.unpinned, T.keep _ _ _ st5 fun b hb o e => (I7.pin (b, o) (List.mem_append_right _ (List.mem_append_right _ (mem_pinsAt hb e)))).1, fun b hb => ?_, w7⟩
      obtain ⟨o, e, d⟩ := T.obj _ _ st5 b hb
      exact (I7.pin (b, o) (List.mem_append_right _ (List.mem_append_right _ (mem_pinsAt hb e)))).2.1
    cases f with
    | next => obtain ⟨σ7, H7, I7, n7⟩ := q7; exact again I7 n7
    | cont => obtain ⟨σ7, H7, I7, n7⟩ := q7; exact again I7 n7
    | brk => obtain ⟨σ7, H7, I7, q7⟩ := q7; exact ⟨σ7, H7, I7.unpinned, q7⟩
    | ret v => obtain ⟨x7, σ7, H7, I7, r7, q7⟩ := q7; exact ⟨x7, σ7, H7, I7.unpinned, r7, q7⟩
end

/-! ### the forms one uses -/
/-- over a list that the body leaves as it is -/
theorem for_list {K : PySem.W.Frag} {a : Addr} {xs : List V} {g : TG} {tb : TS} {D : Ends} {σ : St} {H : Hp} (Pv : Nat → St → Hp → Prop) (h0 : Pv 0 σ H) (hl : ∀ i σ H, i ≤ xs.length → Pv i σ H → SqL K H a xs)
    (hs : ∀ i x σ H, xs[i]? = some x → Pv i σ H → g x σ H fun σ2 H2 => tb { D with nx := Pv (i + 1), ct := Pv (i + 1), bk := D.nx } σ2 H2) (hd : ∀ σ H, Pv xs.length σ H → D.nx σ H) :
    ∃ W : Nat → Nat → St → Hp → Prop, (∃ m, W 0 m σ H) ∧ ∀ i m σ H, W i m σ H →
      ((Itl K a).stop i H ∧ D.nx σ H) ∨ ((Itl K a).go i H ∧ ∃ N : St → Hp → Prop, (∀ σ' H', N σ' H' → ∃ m', m' < m ∧ W (i + 1) m' σ' H') ∧ ∀ x H', (Itl K a).yld i H x H' → g x σ H' fun σ2 H2 => tb { D with nx := N, ct := N, bk := D.nx } σ2 H2) := by
  refine ⟨fun i m σ H => m = xs.length - i ∧ i ≤ xs.length ∧ Pv i σ H, ⟨xs.length, by simp, Nat.zero_le _, h0⟩, ?_⟩
  rintro i m σ H ⟨rfl, hi, p⟩
  have q := hl i σ H hi p
  by_cases hlt : i < xs.length
  · refine .inr ⟨⟨xs, xs[i], q, by simp [hlt]⟩, Pv (i + 1), fun σ' H' p' => ⟨xs.length - (i + 1), by omega, rfl, hlt, p'⟩, fun x H' y => ?_⟩
    obtain ⟨e, y⟩ := y
    subst e
    exact hs i x σ _ (y xs q) p
  · have e : i = xs.length := by omega
    subst e
    exact .inl ⟨⟨xs, q, Nat.le_refl _⟩, hd σ H p⟩
theorem for_tup {K : PySem.W.Frag} {a : Addr} {xs : List V} {g : TG} {tb : TS} {D : Ends} {σ : St} {H : Hp} (Pv : Nat → St → Hp → Prop) (h0 : Pv 0 σ H) (hl : ∀ i σ H, i ≤ xs.length → Pv i σ H → SqT K H a xs)
    (hs : ∀ i x σ H, xs[i]? = some x → Pv i σ H → g x σ H fun σ2 H2 => tb { D with nx := Pv (i + 1), ct := Pv (i + 1), bk := D.nx } σ2 H2) (hd : ∀ σ H, Pv xs.length σ H → D.nx σ H) :
    ∃ W : Nat → Nat → St → Hp → Prop, (∃ m, W 0 m σ H) ∧ ∀ i m σ H, W i m σ H →
      ((Itt K a).stop i H ∧ D.nx σ H) ∨ ((Itt K a).go i H ∧ ∃ N : St → Hp → Prop, (∀ σ' H', N σ' H' → ∃ m', m' < m ∧ W (i + 1) m' σ' H') ∧ ∀ x H', (Itt K a).yld i H x H' → g x σ H' fun σ2 H2 => tb { D with nx := N, ct := N, bk := D.nx } σ2 H2) := by
  refine ⟨fun i m σ H => m = xs.length - i ∧ i ≤ xs.length ∧ Pv i σ H, ⟨xs.length, by simp, Nat.zero_le _, h0⟩, ?_⟩
  rintro i m σ H ⟨rfl, hi, p⟩
  have q := hl i σ H hi p
  by_cases hlt : i < xs.length
  · refine .inr ⟨⟨xs, xs[i], q, by simp [hlt]⟩, Pv (i + 1), fun σ' H' p' => ⟨xs.length - (i + 1), by omega, rfl, hlt, p'⟩, fun x H' y => ?_⟩
    obtain ⟨e, y⟩ := y
    subst e
    exact hs i x σ _ (y xs q) p
  · have e : i = xs.length := by omega
    subst e
    exact .inl ⟨⟨xs, q, Nat.le_refl _⟩, hd σ H p⟩
theorem for_range {lo : Int} {n : Nat} {g : TG} {tb : TS} {D : Ends} {σ : St} {H : Hp} (Pv : Nat → St → Hp → Prop) (h0 : Pv 0 σ H)
    (hs : ∀ i σ H, i < n → Pv i σ H → g (.int (lo + i)) σ H fun σ2 H2 => tb { D with nx := Pv (i + 1), ct := Pv (i + 1), bk := D.nx } σ2 H2) (hd : ∀ σ H, Pv n σ H → D.nx σ H) :
    ∃ W : Nat → Nat → St → Hp → Prop, (∃ m, W 0 m σ H) ∧ ∀ i m σ H, W i m σ H →
      ((Itr lo n).stop i H ∧ D.nx σ H) ∨ ((Itr lo n).go i H ∧ ∃ N : St → Hp → Prop, (∀ σ' H', N σ' H' → ∃ m', m' < m ∧ W (i + 1) m' σ' H') ∧ ∀ x H', (Itr lo n).yld i H x H' → g x σ H' fun σ2 H2 => tb { D with nx := N, ct := N, bk := D.nx } σ2 H2) := by
  refine ⟨fun i m σ H => m = n - i ∧ i ≤ n ∧ Pv i σ H, ⟨n, by simp, Nat.zero_le _, h0⟩, ?_⟩
  rintro i m σ H ⟨rfl, hi, p⟩
  by_cases hlt : i < n
  · refine .inr ⟨hlt, Pv (i + 1), fun σ' H' p' => ⟨n - (i + 1), by omega, rfl, hlt, p'⟩, fun x H' y => ?_⟩
    obtain ⟨e, y⟩ := y
    subst e y
    exact hs i σ _ hlt p
  · have e : i = n := by omega
    subst e
    exact .inl ⟨Nat.le_refl _, hd σ H p⟩
/-- while, by a word and a measure of the state -/
theorem while_by {c : TT} {tb : TS} {D : Ends} {σ : St} {H : Hp} (Pv : St → Hp → Prop) (μ : St → Hp → Nat) (h0 : Pv σ H)
    (hs : ∀ σ H, Pv σ H → c σ H fun b H1 => if b = true then tb { D with nx := fun σ' H' => Pv σ' H' ∧ μ σ' H' < μ σ H, ct := fun σ' H' => Pv σ' H' ∧ μ σ' H' < μ σ H, bk := D.nx } σ H1 else D.nx σ H1)
    (mono : ∀ σ H Q Q', (∀ b H1, Q b H1 → Q' b H1) → c σ H Q → c σ H Q') : tWhile c tb D σ H := by
  refine ⟨fun m σ H => m = μ σ H ∧ Pv σ H, ⟨_, rfl, h0⟩, ?_⟩
  rintro m σ H ⟨rfl, p⟩
  refine mono σ H _ _ (fun b H1 q => ?_) (hs σ H p)
  cases b with
  | true => exact ⟨_, fun σ' H' ⟨p', l⟩ => ⟨_, l, rfl, p'⟩, q⟩
  | false => exact q
end L2

namespace L2
open PySem PySem.Spec PyProof.Rows

abbrev R2 := V → V → Hp → VK → Prop
/-- a two-place operation on values: f is binaryOp op, inplaceOp op or compareOp op -/
def OpR (X : Cx) (f : Value → Value → Sem Value) (r : R2) : Prop :=
  ∀ (pins : List (Addr × Obj)) (s : Shared) (σ : St) (H : Hp) (x y : V) (v u : Value) (Q : VK), Inv X pins σ H s → RelV x v → RelV y u → r x y H Q →
    wpAny (model X.prog X.w) X.A (f v u) (EP X pins σ Q) X.xe s
/-- a one-place operation -/
def UnR (X : Cx) (f : Value → Sem Value) (r : V → Hp → VK → Prop) : Prop :=
  ∀ (pins : List (Addr × Obj)) (s : Shared) (σ : St) (H : Hp) (x : V) (v : Value) (Q : VK), Inv X pins σ H s → RelV x v → r x H Q →
    wpAny (model X.prog X.w) X.A (f v) (EP X pins σ Q) X.xe s
/-- a call of a value that is known (a builtin, a type) with values -/
def CallR (X : Cx) (f : Value) (r : List V → Hp → VK → Prop) : Prop :=
  ∀ (pins : List (Addr × Obj)) (s : Shared) (σ : St) (H : Hp) (xs : List V) (us : List Value) (Q : VK), Inv X pins σ H s → Vals xs us → r xs H Q →
    wpAny (model X.prog X.w) X.A (call f us) (EP X pins σ Q) X.xe s
/-- a value's truth -/
def TruR (X : Cx) (r : V → Hp → (Bool → Hp → Prop) → Prop) : Prop :=
  ∀ (pins : List (Addr × Obj)) (s : Shared) (σ : St) (H : Hp) (x : V) (v : Value) (Q : Bool → Hp → Prop), Inv X pins σ H s → RelV x v → r x H Q →
    wpAny (model X.prog X.w) X.A (truthy v) (TP X pins σ Q) X.xe s

def tOp (r : R2) (ta tb : TE) : TE := fun σ H Q => ta σ H fun x H1 => tb σ H1 fun y H2 => r x y H2 Q
def tUn (r : V → Hp → VK → Prop) (ta : TE) : TE := fun σ H Q => ta σ H fun x H1 => r x H1 Q
/-- ints in, under C, and a value out -/
def rI (C : Int → Int → Prop) (g : Int → Int → V) : R2 := fun x y H Q => ∃ i j, x = .int i ∧ y = .int j ∧ C i j ∧ Q (g i j) H
def rI0 (g : Int → Int → V) : R2 := fun x y H Q => ∃ i j, x = .int i ∧ y = .int j ∧ Q (g i j) H
def rU (g : Int → V) : V → Hp → VK → Prop := fun x H Q => ∃ i, x = .int i ∧ Q (g i) H

section
variable {X : Cx} {a b c : Expr} {ta tb tc : TE} {pos : Pos}

theorem binT (ha : PE X a ta) (hb : PE X b tb) {pins : List (Addr × Obj)} {s : Shared} {σ : St} {H : Hp} {R : V → V → Hp → Prop} (I : Inv X pins σ H s)
    (h : ta σ H fun x H1 => tb σ H1 fun y H2 => R x y H2) {Q : Value → Shared → Prop} {f : Value → Value → Sem Value}
    (hf : ∀ v u s2 x y H2, Inv X pins σ H2 s2 → RelV x v → RelV y u → R x y H2 → wpAny (model X.prog X.w) X.A (f v u) Q X.xe s2) :
    wpAny (model X.prog X.w) X.A (eval a X.env) (fun v s₁ => wpAny (model X.prog X.w) X.A (eval b X.env) (fun u s₂ => wpAny (model X.prog X.w) X.A (f v u) Q X.xe s₂) X.xe s₁) X.xe s := by
  refine thn (ha pins s σ H _ I h) fun v s1 ⟨x, H1, I1, r1, q1⟩ => ?_
  refine thn (hb pins s1 σ H1 _ I1 q1) fun u s2 ⟨y, H2, I2, r2, q2⟩ => ?_
  exact hf v u s2 x y H2 I2 r1 r2 q2

theorem pe_op {op : Operator} {r : R2} (ho : OpR X (binaryOp op) r) (ha : PE X a ta) (hb : PE X b tb) : PE X (.BinOp a op b pos) (tOp r ta tb) := by
  intro pins s σ H Q I h
  exact wpAny_BinOp (binT ha hb I h fun v u s2 x y H2 I2 rx ry q => ho pins s2 σ H2 x y v u Q I2 rx ry q)
theorem pe_un {op : UnaryOp} {r : V → Hp → VK → Prop} (ho : UnR X (unaryOp op) r) (ha : PE X a ta) : PE X (.UnaryOp op a pos) (tUn r ta) := by
  intro pins s σ H Q I h
  exact UnaryOp_ (thn (ha pins s σ H _ I h) fun v s1 ⟨x, H1, I1, r1, q1⟩ => ho pins s1 σ H1 x v Q I1 r1 q1)
/-- a op= e at a name: the name's slot i -/
theorem augR {op : Operator} {r : R2} (ho : OpR X (inplaceOp op) r) {pins : List (Addr × Obj)} {s : Shared} {σ : St} {H : Hp} {x y : V} {v u : Value} {Q : VK} (I : Inv X pins σ H s)
    (rx : RelV x v) (ry : RelV y u) (q : r x y H Q) : wpAny (model X.prog X.w) X.A (inplaceOp op v u) (EP X pins σ Q) X.xe s := ho pins s σ H x y v u Q I rx ry q

/-! ### ints -/
theorem opI {f : Value → Value → Sem Value} {C : Int → Int → Prop} {g : Int → Int → Int}
    (rule : ∀ (i j : Int) (t u : Tok) (s : Shared) (Q : Value → Shared → Prop) (E : Value → Shared → Prop), C i j → Q (.int (g i j) s.toks) { s with toks := s.toks + 1 } → wpAny (model X.prog X.w) X.A (f (.int i t) (.int j u)) Q E s) :
    OpR X f (rI C fun i j => .int (g i j)) := by
  intro pins s σ H x y v u Q I rx ry h
  obtain ⟨i, j, rfl, rfl, hc, q⟩ := h
  obtain ⟨t, rfl⟩ := rx
  obtain ⟨t', rfl⟩ := ry
  exact rule i j t t' s _ _ hc ⟨.int (g i j), H, I.tok _, ⟨_, rfl⟩, q⟩
theorem opI0 {f : Value → Value → Sem Value} {g : Int → Int → Int}
    (rule : ∀ (i j : Int) (t u : Tok) (s : Shared) (Q : Value → Shared → Prop) (E : Value → Shared → Prop), Q (.int (g i j) s.toks) { s with toks := s.toks + 1 } → wpAny (model X.prog X.w) X.A (f (.int i t) (.int j u)) Q E s) :
    OpR X f (rI0 fun i j => .int (g i j)) := by
  intro pins s σ H x y v u Q I rx ry h
  obtain ⟨i, j, rfl, rfl, q⟩ := h
  obtain ⟨t, rfl⟩ := rx
  obtain ⟨t', rfl⟩ := ry
  exact rule i j t t' s _ _ ⟨.int (g i j), H, I.tok _, ⟨_, rfl⟩, q⟩
theorem opB0 {f : Value → Value → Sem Value} {g : Int → Int → Bool}
    (rule : ∀ (i j : Int) (t u : Tok) (s : Shared) (Q : Value → Shared → Prop) (E : Value → Shared → Prop), Q (.bool (g i j)) s → wpAny (model X.prog X.w) X.A (f (.int i t) (.int j u)) Q E s) :
    OpR X f (rI0 fun i j => .bl (g i j)) := by
  intro pins s σ H x y v u Q I rx ry h
  obtain ⟨i, j, rfl, rfl, q⟩ := h
  obtain ⟨t, rfl⟩ := rx
  obtain ⟨t', rfl⟩ := ry
  exact rule i j t t' s _ _ ⟨.bl (g i j), H, I, rfl, q⟩

def CDiv (i j : Int) : Prop := 0 < j ∧ j < 1073741824
def CDivN (i j : Int) : Prop := j ≠ 0 ∧ j.natAbs < 1073741824
def CPow (i j : Int) : Prop := 0 ≤ j ∧ j ≤ 1000000 ∧ i.natAbs < 2 ^ 64
def CMul (i j : Int) : Prop := (-(2 ^ 64) < i ∧ i < 2 ^ 64) ∨ (-(2 ^ 64) < j ∧ j < 2 ^ 64)
theorem CMul.ok {i j : Int} (h : CMul i j) : IntMulOk i j := by
  rcases h with ⟨h1, h2⟩ | ⟨h1, h2⟩
  · exact .of_left (intBits_le_64 h1 h2)
  · exact .of_right (intBits_le_64 h1 h2)
theorem two_pow_nn (k : Nat) : (0 : Int) ≤ 2 ^ k := by
  rw [two_pow_cast]
  exact Int.natCast_nonneg _

theorem op_add : OpR X (binaryOp .Add) (rI0 fun i j => .int (i + j)) := opI0 fun _ _ _ _ _ _ _ q => add_int q
theorem op_sub : OpR X (binaryOp .Sub) (rI0 fun i j => .int (i - j)) := opI0 fun _ _ _ _ _ _ _ q => sub_int q
theorem op_mul : OpR X (binaryOp .Mult) (rI CMul fun i j => .int (i * j)) := opI fun _ _ _ _ _ _ _ hc q => mul_int q hc.ok
/-- // by a positive divisor -/
theorem op_fdiv : OpR X (binaryOp .FloorDiv) (rI CDiv fun i j => .int (i / j)) := opI fun i j _ _ _ _ _ hc q => by
  have h1 : (0 : Int) < j := hc.1
  have h2 : j < 1073741824 := hc.2
  exact floordiv_int (by omega) (by rw [Int.fdiv_eq_ediv_of_nonneg i (by omega)]; exact q) (.inl (PyProof.noPylong_small (by omega)))
theorem op_fdivN : OpR X (binaryOp .FloorDiv) (rI CDivN fun i j => .int (i.fdiv j)) := opI fun _ _ _ _ _ _ _ hc q => floordiv_int hc.1 q (.inl (PyProof.noPylong_small hc.2))
/-- % by a positive divisor of any size -/
theorem op_mod : OpR X (binaryOp .Mod) (rI (fun _ j => 0 < j) fun i j => .int (i % j)) := opI fun i j _ _ _ _ _ hc q => by
  have h1 : (0 : Int) < j := hc
  exact mod_int' (by omega) (by rw [Int.fmod_eq_emod_of_nonneg i (by omega)]; exact q)
theorem op_modN : OpR X (binaryOp .Mod) (rI (fun _ j => j ≠ 0) fun i j => .int (i.fmod j)) := opI fun _ _ _ _ _ _ _ hc q => mod_int' hc q
theorem op_pow : OpR X (binaryOp .Pow) (rI CPow fun i j => .int (i ^ j.toNat)) := opI fun _ _ _ _ _ _ _ hc q => pow_int_small hc.1 hc.2.1 hc.2.2 q
theorem op_shl : OpR X (binaryOp .LShift) (rI CPow fun i j => .int (i * 2 ^ j.toNat)) := opI fun _ _ _ _ _ _ _ hc q => lshift_int_small hc.1 hc.2.1 hc.2.2 q
theorem op_shr : OpR X (binaryOp .RShift) (rI (fun _ j => 0 ≤ j) fun i j => .int (i / 2 ^ j.toNat)) := opI fun i j _ _ _ _ _ hc q =>
  rshift_int hc (by rw [Int.fdiv_eq_ediv_of_nonneg i (two_pow_nn _)]; exact q)
theorem op_and : OpR X (binaryOp .BitAnd) (rI0 fun i j => .int (Builtin.bitAnd i j)) := opI0 fun _ _ _ _ _ _ _ q => and_int q
theorem op_or : OpR X (binaryOp .BitOr) (rI0 fun i j => .int (Builtin.bitOr i j)) := opI0 fun _ _ _ _ _ _ _ q => or_int q
theorem op_xor : OpR X (binaryOp .BitXor) (rI0 fun i j => .int (Builtin.bitXor i j)) := opI0 fun _ _ _ _ _ _ _ q => xor_int q

theorem iop_add : OpR X (inplaceOp .Add) (rI0 fun i j => .int (i + j)) := opI0 fun _ _ _ _ _ _ _ q => iadd_int q
theorem iop_sub : OpR X (inplaceOp .Sub) (rI0 fun i j => .int (i - j)) := opI0 fun _ _ _ _ _ _ _ q => isub_int q
theorem iop_mul : OpR X (inplaceOp .Mult) (rI CMul fun i j => .int (i * j)) := opI fun _ _ _ _ _ _ _ hc q => imul_int q hc.ok
theorem iop_fdiv : OpR X (inplaceOp .FloorDiv) (rI CDiv fun i j => .int (i / j)) := opI fun i j _ _ _ _ _ hc q => by
  have h1 : (0 : Int) < j := hc.1
  have h2 : j < 1073741824 := hc.2
  exact ifloordiv_int (by omega) (by rw [Int.fdiv_eq_ediv_of_nonneg i (by omega)]; exact q) (.inl (PyProof.noPylong_small (by omega)))
theorem iop_mod : OpR X (inplaceOp .Mod) (rI (fun _ j => 0 < j) fun i j => .int (i % j)) := opI fun i j _ _ _ _ _ hc q => by
  have h1 : (0 : Int) < j := hc
  exact imod_int (by omega) (by rw [Int.fmod_eq_emod_of_nonneg i (by omega)]; exact q)
theorem iop_shl : OpR X (inplaceOp .LShift) (rI CPow fun i j => .int (i * 2 ^ j.toNat)) := opI fun _ _ _ _ _ _ _ hc q => ilshift_int_small hc.1 hc.2.1 hc.2.2 q
theorem iop_shr : OpR X (inplaceOp .RShift) (rI (fun _ j => 0 ≤ j) fun i j => .int (i / 2 ^ j.toNat)) := opI fun i j _ _ _ _ _ hc q =>
  irshift_int hc (by rw [Int.fdiv_eq_ediv_of_nonneg i (two_pow_nn _)]; exact q)
theorem iop_and : OpR X (inplaceOp .BitAnd) (rI0 fun i j => .int (Builtin.bitAnd i j)) := opI0 fun _ _ _ _ _ _ _ q => iand_int q
theorem iop_or : OpR X (inplaceOp .BitOr) (rI0 fun i j => .int (Builtin.bitOr i j)) := opI0 fun _ _ _ _ _ _ _ q => ior_int q
theorem iop_xor : OpR X (inplaceOp .BitXor) (rI0 fun i j => .int (Builtin.bitXor i j)) := opI0 fun _ _ _ _ _ _ _ q => ixor_int q

theorem unI {f : Value → Sem Value} {g : Int → Int}
    (rule : ∀ (i : Int) (t : Tok) (s : Shared) (Q : Value → Shared → Prop) (E : Value → Shared → Prop), Q (.int (g i) s.toks) { s with toks := s.toks + 1 } → wpAny (model X.prog X.w) X.A (f (.int i t)) Q E s) :
    UnR X f (rU fun i => .int (g i)) := by
  intro pins s σ H x v Q I rx h
  obtain ⟨i, rfl, q⟩ := h
  obtain ⟨t, rfl⟩ := rx
  exact rule i t s _ _ ⟨.int (g i), H, I.tok _, ⟨_, rfl⟩, q⟩
theorem un_neg : UnR X (unaryOp .USub) (rU fun i => .int (-i)) := unI fun _ _ _ _ _ q => neg_int q
theorem un_inv : UnR X (unaryOp .Invert) (rU fun i => .int (Builtin.bitNot i)) := unI fun _ _ _ _ _ q => invert_int q

/-! ### bools among ints: n += (a < b) -/
theorem op_add_ib : OpR X (binaryOp .Add) (fun x y H Q => ∃ i k, x = .int i ∧ y = .bl k ∧ Q (.int (i + b2i k)) H) := by
  intro pins s σ H x y v u Q I rx ry h
  obtain ⟨i, k, rfl, rfl, q⟩ := h
  obtain ⟨t, rfl⟩ := rx
  cases ry
  exact add_int_bool ⟨.int (i + b2i k), H, I.tok _, ⟨_, rfl⟩, q⟩
end

/-! ### comparisons -/
/-- the scalars that == tells apart as data does -/
def scal : V → V → Bool
  | .non, .non => true | .non, .int _ => true | .int _, .non => true | .non, .bl _ => true | .bl _, .non => true | .non, .str _ => true | .str _, .non => true
  | .int _, .int _ => true | .bl _, .bl _ => true | .str _, .str _ => true | .byt _, .byt _ => true
  | .int _, .str _ => true | .str _, .int _ => true | .bl _, .str _ => true | .str _, .bl _ => true
  | _, _ => false
def rEq : R2 := fun x y H Q => scal x y = true ∧ Q (.bl (decide (x = y))) H
def rNe : R2 := fun x y H Q => scal x y = true ∧ Q (.bl (!decide (x = y))) H

theorem dec_int {i j : Int} : decide (V.int i = V.int j) = (i == j) := by
  rw [Bool.eq_iff_iff]
  simp
theorem dec_bl {i j : Bool} : decide (V.bl i = V.bl j) = (i == j) := by
  rw [Bool.eq_iff_iff]
  simp
theorem dec_str {i j : Str} : decide (V.str i = V.str j) = (i == j) := by
  rw [Bool.eq_iff_iff]
  simp
theorem dec_byt {i j : Array UInt8} : decide (V.byt i = V.byt j) = (i.toList == j.toList) := by
  rw [Bool.eq_iff_iff]
  cases i
  cases j
  simp

section
variable {X : Cx} {a b c : Expr} {ta tb tc : TE} {pos : Pos}
theorem fin_bl {pins : List (Addr × Obj)} {σ : St} {H : Hp} {s : Shared} {Q : VK} {k k' : Bool} (I : Inv X pins σ H s) (q : Q (.bl k) H) (e : k = k') : EP X pins σ Q (.bool k') s := by
  subst e
  exact ⟨.bl k, H, I, rfl, q⟩
theorem op_eq : OpR X (compareOp .Eq) rEq := by
  intro pins s σ H x y v u Q I rx ry h
  obtain ⟨hs, q⟩ := h
  cases x with
  | non =>
    cases rx
    cases y with
    | non => cases ry; exact PySem.EqNone.eq_none_none (fin_bl I q (by simp))
    | bl j => cases ry; exact PySem.EqNone.eq_none_bool (fin_bl I q (by simp))
    | int j => obtain ⟨t', rfl⟩ := ry; exact PySem.EqNone.eq_none_int (fin_bl I q (by simp))
    | str j => obtain ⟨t', rfl⟩ := ry; exact PySem.EqNone.eq_none_str (fin_bl I q (by simp))
    | _ => exact absurd (show false = true from hs) Bool.false_ne_true
  | bl i =>
    cases rx
    cases y with
    | non => cases ry; exact PySem.EqNone.eq_bool_none (fin_bl I q (by simp))
    | bl j => cases ry; exact eq_bool (fin_bl I q dec_bl)
    | str j => obtain ⟨t', rfl⟩ := ry; exact PySem.EqMixed.eq_bool_str (fin_bl I q (by simp))
    | _ => exact absurd (show false = true from hs) Bool.false_ne_true
  | int i =>
    obtain ⟨t, rfl⟩ := rx
    cases y with
    | non => cases ry; exact PySem.EqNone.eq_int_none (fin_bl I q (by simp))
    | int j => obtain ⟨t', rfl⟩ := ry; exact eq_int (fin_bl I q dec_int)
    | str j => obtain ⟨t', rfl⟩ := ry; exact PySem.EqMixed.eq_int_str (fin_bl I q (by simp))
    | _ => exact absurd (show false = true from hs) Bool.false_ne_true
  | str i =>
    obtain ⟨t, rfl⟩ := rx
    cases y with
    | non => cases ry; exact PySem.EqNone.eq_str_none (fin_bl I q (by simp))
    | bl j => cases ry; exact PySem.EqMixed.eq_str_bool (fin_bl I q (by simp))
    | int j => obtain ⟨t', rfl⟩ := ry; exact PySem.EqMixed.eq_str_int (fin_bl I q (by simp))
    | str j => obtain ⟨t', rfl⟩ := ry; exact eq_str (fin_bl I q dec_str)
    | _ => exact absurd (show false = true from hs) Bool.false_ne_true
  | byt i =>
    obtain ⟨t, rfl⟩ := rx
    cases y with
    | byt j => obtain ⟨t', rfl⟩ := ry; exact PySem.W.eq_bytes (fin_bl I q dec_byt)
    | _ => exact absurd (show false = true from hs) Bool.false_ne_true
  | _ => cases y <;> exact absurd (show false = true from hs) Bool.false_ne_true
theorem op_ne : OpR X (compareOp .NotEq) rNe := by
  intro pins s σ H x y v u Q I rx ry h
  obtain ⟨hs, q⟩ := h
  cases x with
  | non =>
    cases rx
    cases y with
    | non => cases ry; exact PySem.EqNone.ne_none_none (fin_bl I q (by simp))
    | bl j => cases ry; exact PySem.EqNone.ne_none_bool (fin_bl I q (by simp))
    | int j => obtain ⟨t', rfl⟩ := ry; exact PySem.EqNone.ne_none_int (fin_bl I q (by simp))
    | str j => obtain ⟨t', rfl⟩ := ry; exact PySem.EqNone.ne_none_str (fin_bl I q (by simp))
    | _ => exact absurd (show false = true from hs) Bool.false_ne_true
  | bl i =>
    cases rx
    cases y with
    | non => cases ry; exact PySem.EqNone.ne_bool_none (fin_bl I q (by simp))
    | bl j => cases ry; exact ne_bool (fin_bl I q (congrArg not dec_bl))
    | str j => obtain ⟨t', rfl⟩ := ry; exact PySem.EqMixed.ne_bool_str (fin_bl I q (by simp))
    | _ => exact absurd (show false = true from hs) Bool.false_ne_true
  | int i =>
    obtain ⟨t, rfl⟩ := rx
    cases y with
    | non => cases ry; exact PySem.EqNone.ne_int_none (fin_bl I q (by simp))
    | int j => obtain ⟨t', rfl⟩ := ry; exact ne_int (fin_bl I q (congrArg not dec_int))
    | str j => obtain ⟨t', rfl⟩ := ry; exact PySem.EqMixed.ne_int_str (fin_bl I q (by simp))
    | _ => exact absurd (show false = true from hs) Bool.false_ne_true
  | str i =>
    obtain ⟨t, rfl⟩ := rx
    cases y with
    | non => cases ry; exact PySem.EqNone.ne_str_none (fin_bl I q (by simp))
    | bl j => cases ry; exact PySem.EqMixed.ne_str_bool (fin_bl I q (by simp))
    | int j => obtain ⟨t', rfl⟩ := ry; exact PySem.EqMixed.ne_str_int (fin_bl I q (by simp))
    | str j => obtain ⟨t', rfl⟩ := ry; exact ne_str (fin_bl I q (congrArg not dec_str))
    | _ => exact absurd (show false = true from hs) Bool.false_ne_true
  | byt i =>
    obtain ⟨t, rfl⟩ := rx
    cases y with
    | byt j => obtain ⟨t', rfl⟩ := ry; exact PySem.W.ne_bytes (fin_bl I q (congrArg not dec_byt))
    | _ => exact absurd (show false = true from hs) Bool.false_ne_true
  | _ => cases y <;> exact absurd (show false = true from hs) Bool.false_ne_true

theorem op_lt : OpR X (compareOp .Lt) (rI0 fun i j => .bl (decide (i < j))) := opB0 fun _ _ _ _ _ _ _ q => lt_int q
theorem op_le : OpR X (compareOp .LtE) (rI0 fun i j => .bl (decide (i ≤ j))) := opB0 fun _ _ _ _ _ _ _ q => le_int q
theorem op_gt : OpR X (compareOp .Gt) (rI0 fun i j => .bl (decide (j < i))) := opB0 fun _ _ _ _ _ _ _ q => gt_int q
theorem op_ge : OpR X (compareOp .GtE) (rI0 fun i j => .bl (decide (j ≤ i))) := opB0 fun _ _ _ _ _ _ _ q => ge_int q
theorem op_lt_str : OpR X (compareOp .Lt) (fun x y H Q => ∃ i j, x = .str i ∧ y = .str j ∧ Q (.bl (decide (i.cps.toList < j.cps.toList))) H) := by
  intro pins s σ H x y v u Q I rx ry h
  obtain ⟨i, j, rfl, rfl, q⟩ := h
  obtain ⟨t, rfl⟩ := rx
  obtain ⟨t', rfl⟩ := ry
  exact lt_str (fin_bl I q rfl)
/-- the one string within the other -/
theorem op_in_str : OpR X (compareOp .In) (fun x y H Q => ∃ i j, x = .str i ∧ y = .str j ∧ Q (.bl (!(Builtin.Str.occurrences j i 0 j.length 1).isEmpty)) H) := by
  intro pins s σ H x y v u Q I rx ry h
  obtain ⟨i, j, rfl, rfl, q⟩ := h
  obtain ⟨t, rfl⟩ := rx
  obtain ⟨t', rfl⟩ := ry
  exact in_str (fin_bl I q rfl)

/-- is None, is not None: the right side a value none -/
theorem op_isN : OpR X (compareOp .Is) (fun x y H Q => y = .non ∧ Q (.bl (decide (x = .non))) H) := by
  intro pins s σ H x y v u Q I rx ry h
  obtain ⟨rfl, q⟩ := h
  cases ry
  refine is_none_gen (fin_bl I q ?_)
  cases x <;> first
    | (cases rx; rfl)
    | (obtain ⟨t, rfl⟩ := rx; rfl)
theorem op_notN : OpR X (compareOp .IsNot) (fun x y H Q => y = .non ∧ Q (.bl (!decide (x = .non))) H) := by
  intro pins s σ H x y v u Q I rx ry h
  obtain ⟨rfl, q⟩ := h
  cases ry
  refine isnot_none_gen (fin_bl I q ?_)
  cases x <;> first
    | (cases rx; rfl)
    | (obtain ⟨t, rfl⟩ := rx; rfl)

theorem op_notin_str : OpR X (compareOp .NotIn) (fun x y H Q => ∃ i j, x = .str i ∧ y = .str j ∧ Q (.bl (!(!(Builtin.Str.occurrences j i 0 j.length 1).isEmpty))) H) := by
  intro pins s σ H x y v u Q I rx ry h
  obtain ⟨i, j, rfl, rfl, q⟩ := h
  obtain ⟨t, rfl⟩ := rx
  obtain ⟨t', rfl⟩ := ry
  exact notIn_str (fin_bl I q rfl)
/-- is, is not of two objects that are tracked lists or instances -/
def isObj : HO → Bool
  | .lst _ => true
  | .ins _ _ _ => true
  | _ => false
theorem obj_there {pins : List (Addr × Obj)} {s : Shared} {σ : St} {H : Hp} {a : Addr} {o : HO} (I : Inv X pins σ H s) (h : H a = some o) (p : isObj o = true) : ∃ ob, s.heap.get? a = some ob ∧ ob.cls ≠ .type "tuple" := by
  cases o with
  | lst xs =>
    obtain ⟨_, its, n, _, e⟩ : xs.length ≤ sizeLine ∧ ∃ (its : List Value) (n : Nat), Vals xs its ∧ s.heap.get? a = some { cls := .type "list", data := .seq its.toArray n } := I.hok a _ h
    exact ⟨_, e, (by show Value.type "list" ≠ .type "tuple"; decide +kernel)⟩
  | ins C dx fs =>
    have x := I.hok a _ h
    obtain ⟨_, _, _, e, _⟩ := x
    exact ⟨_, e, (by show Value.ref C ≠ .type "tuple"; exact fun z => by cases z)⟩
  | _ => exact absurd (show false = true from p) Bool.false_ne_true
theorem op_is_ref : OpR X (compareOp .Is) (fun x y H Q => ∃ a b oa ob, x = .ref a ∧ y = .ref b ∧ H a = some oa ∧ isObj oa = true ∧ H b = some ob ∧ isObj ob = true ∧ Q (.bl (decide (a = b))) H) := by
  intro pins s σ H x y v u Q I rx ry h
  obtain ⟨a, b, oa, ob, rfl, rfl, ha, pa, hb, pb, q⟩ := h
  cases rx
  cases ry
  obtain ⟨o1, e1, n1⟩ := obj_there I ha pa
  obtain ⟨o2, e2, _⟩ := obj_there I hb pb
  by_cases z : a = b
  · subst z
    exact wpAny_is_ref_self (fin_bl I q (by simp))
  · exact wpAny_is_ref_other z e1 e2 n1 (fin_bl I q (by simp [z]))
theorem op_isnot_ref : OpR X (compareOp .IsNot) (fun x y H Q => ∃ a b oa ob, x = .ref a ∧ y = .ref b ∧ H a = some oa ∧ isObj oa = true ∧ H b = some ob ∧ isObj ob = true ∧ Q (.bl (!decide (a = b))) H) := by
  intro pins s σ H x y v u Q I rx ry h
  obtain ⟨a, b, oa, ob, rfl, rfl, ha, pa, hb, pb, q⟩ := h
  cases rx
  cases ry
  obtain ⟨o1, e1, n1⟩ := obj_there I ha pa
  obtain ⟨o2, e2, _⟩ := obj_there I hb pb
  by_cases z : a = b
  · subst z
    exact wpAny_isNot_ref_self (fin_bl I q (by simp))
  · exact wpAny_isNot_ref_other z e1 e2 n1 (fin_bl I q (by simp [z]))

/-- two rules for one operation: by cases -/
theorem OpR.or {f : Value → Value → Sem Value} {r r' : R2} (h : OpR X f r) (h' : OpR X f r') : OpR X f (fun x y H Q => r x y H Q ∨ r' x y H Q) := by
  intro pins s σ H x y v u Q I rx ry q
  rcases q with q | q
  · exact h pins s σ H x y v u Q I rx ry q
  · exact h' pins s σ H x y v u Q I rx ry q

theorem nomark (b : Expr) {op : CmpOp} (h : op ≠ .In := by decide) (h2 : op ≠ .NotIn := by decide) : behindInMarks op b = false := by
  have e1 : (op == CmpOp.In) = false := by cases op <;> first | rfl | exact absurd rfl h
  have e2 : (op == CmpOp.NotIn) = false := by cases op <;> first | rfl | exact absurd rfl h2
  cases b <;> simp [behindInMarks, e1, e2]
/-- a comparison as a value; hm: nomark b, or (for in, not in) by with_unfolding_all rfl -/
theorem pe_cmpR {op : CmpOp} {r : R2} (ho : OpR X (compareOp op) r) (ha : PE X a ta) (hb : PE X b tb) (hm : behindInMarks op b = false) : PE X (.Compare a [op] [b] pos) (tOp r ta tb) := by
  intro pins s σ H Q I h
  exact wpAny_Compare1 (binT ha hb I h fun v u s2 x y H2 I2 rx ry q => ho pins s2 σ H2 x y v u Q I2 rx ry q) hm
/-- a reading of a value as a test -/
def tTest (t : TE) : TT := fun σ H Q => t σ H fun x H' => ∃ k, x = .bl k ∧ Q k H'
theorem pt_cmpR {op : CmpOp} {r : R2} (ho : OpR X (compareOp op) r) (ha : PE X a ta) (hb : PE X b tb) (hm : behindInMarks op b = false) : PT X (.Compare a [op] [b] pos) (tTest (tOp r ta tb)) := by
  intro pins s σ H Q I h
  refine wpAny_isTrue_Compare1 (thn (ha pins s σ H _ I h) fun v s1 ⟨x, H1, I1, r1, q1⟩ => thn (hb pins s1 σ H1 _ I1 q1) fun u s2 ⟨y, H2, I2, r2, q2⟩ =>
    thn (ho pins s2 σ H2 x y v u _ I2 r1 r2 q2) fun c s3 ⟨z, H3, I3, r3, k, e, q3⟩ => ?_) hm
  subst e
  cases r3
  exact wpAny_truthy_bool ⟨H3, I3, q3⟩
/-- a op1 b op2 c -/
def tChain (r r' : R2) (ta tb tc : TE) : TE := fun σ H Q => ta σ H fun x H1 => tb σ H1 fun y H2 => r x y H2 fun z H3 => ∃ k, z = .bl k ∧
  (if k = true then tc σ H3 fun w' H4 => r' y w' H4 Q else Q (.bl false) H3)
theorem pe_chain {op op' : CmpOp} {r r' : R2} (ho : OpR X (compareOp op) r) (ho' : OpR X (compareOp op') r') (ha : PE X a ta) (hb : PE X b tb) (hc : PE X c tc)
    (hm : lastMarks [op, op'] [b, c] = false := by with_unfolding_all rfl) : PE X (.Compare a [op, op'] [b, c] pos) (tChain r r' ta tb tc) := by
  intro pins s σ H Q I h
  refine Compare_chain (thn (ha pins s σ H _ I h) fun v s1 ⟨x, H1, I1, r1, q1⟩ => chain_link (thn (hb pins s1 σ H1 _ I1 q1) fun u s2 ⟨y, H2, I2, r2, q2⟩ =>
    thn (ho pins s2 σ H2 x y v u _ I2 r1 r2 q2) fun d s3 ⟨z, H3, I3, r3, k, e, q3⟩ => ?_)) hm
  subst e
  cases r3
  refine wpAny_truthy_bool ?_
  cases k with
  | false => exact ite_ff ⟨.bl false, H3, I3, rfl, q3⟩
  | true => exact ite_tt (chain_last (thn (hc pins s3 σ H3 _ I3 q3) fun w' s4 ⟨z', H4, I4, r4, q4⟩ => ho' pins s4 σ H4 y z' u w' Q I4 r2 r4 q4))
theorem pt_chain {op op' : CmpOp} {r r' : R2} (ho : OpR X (compareOp op) r) (ho' : OpR X (compareOp op') r') (ha : PE X a ta) (hb : PE X b tb) (hc : PE X c tc)
    (hm : lastMarks [op, op'] [b, c] = false := by with_unfolding_all rfl) : PT X (.Compare a [op, op'] [b, c] pos) (tTest (tChain r r' ta tb tc)) := by
  intro pins s σ H Q I h
  refine isTrue_chain (thn (ha pins s σ H _ I h) fun v s1 ⟨x, H1, I1, r1, q1⟩ => test_link (thn (hb pins s1 σ H1 _ I1 q1) fun u s2 ⟨y, H2, I2, r2, q2⟩ =>
    thn (ho pins s2 σ H2 x y v u _ I2 r1 r2 q2) fun d s3 ⟨z, H3, I3, r3, k, e, q3⟩ => ?_)) hm
  subst e
  cases r3
  refine wpAny_truthy_bool ?_
  cases k with
  | false =>
    obtain ⟨k', e', q'⟩ := q3
    cases e'
    exact ite_ff ⟨H3, I3, q'⟩
  | true =>
    refine ite_tt (test_last (thn (hc pins s3 σ H3 _ I3 q3) fun w' s4 ⟨z', H4, I4, r4, q4⟩ => thn (ho' pins s4 σ H4 y z' u w' _ I4 r2 r4 q4) fun d' s5 ⟨z2, H5, I5, r5, k2, e2, q5⟩ => ?_))
    subst e2
    cases r5
    exact wpAny_truthy_bool ⟨H5, I5, q5⟩

/-! ### truth -/
/-- a value's truth by the abstract heap -/
def TruV (K : PySem.W.Frag) (x : V) (H : Hp) (k : Bool) : Prop :=
  match x with
  | .non => k = false
  | .bl b => k = b
  | .int i => k = (i != 0)
  | .str y => y.length ≤ sizeLine ∧ k = ((y.length : Int) != 0)
  | .byt y => y.size ≤ sizeLine ∧ k = ((y.size : Int) != 0)
  | .ref p => (∃ xs, SqL K H p xs ∧ k = !xs.isEmpty) ∨ (∃ xs, SqT K H p xs ∧ k = !xs.isEmpty) ∨ ∃ kvs, H p = some (.dK kvs) ∧ k = !kvs.isEmpty
  | _ => False
theorem isEmpty_kv {κ : Type} {kvs : List (κ × V)} {vs : List (κ × Value)} (r : KV kvs vs) : (!vs.isEmpty) = !kvs.isEmpty := by
  cases r <;> rfl
theorem isEmpty_of {xs : List V} {its : List Value} (r : Vals xs its) : (!its.toArray.isEmpty) = !xs.isEmpty := by
  cases r <;> simp
theorem line63 : (sizeLine : Nat) < 2 ^ 63 := by rw [sizeLine_eq]; decide
theorem tru_ok : TruR X (fun x H Q => ∃ k, TruV X.K x H k ∧ Q k H) := by
  intro pins s σ H x v Q I rx h
  obtain ⟨k, e, q⟩ := h
  have hl := line63
  have hs : sizeLine = 16777216 := sizeLine_eq
  cases x with
  | non =>
    cases rx
    have e' : k = false := e
    subst e'
    exact truthy_none ⟨H, I, q⟩
  | bl b =>
    cases rx
    have e' : k = b := e
    subst e'
    exact wpAny_truthy_bool ⟨H, I, q⟩
  | int i =>
    obtain ⟨t, rfl⟩ := rx
    have e' : k = (i != 0) := e
    subst e'
    exact PySem.P.truthy_int ⟨H, I, q⟩
  | str y =>
    obtain ⟨t, rfl⟩ := rx
    obtain ⟨hy, e'⟩ : y.length ≤ sizeLine ∧ k = ((y.length : Int) != 0) := e
    subst e'
    exact PySem.P.truthy_str (by omega) ⟨H, I.tok _, q⟩
  | byt y =>
    obtain ⟨t, rfl⟩ := rx
    obtain ⟨hy, e'⟩ : y.size ≤ sizeLine ∧ k = ((y.size : Int) != 0) := e
    subst e'
    exact PySem.W.truthy_bytes (by omega) ⟨H, I.tok _, q⟩
  | ref p =>
    cases rx
    have e' : (∃ xs, SqL X.K H p xs ∧ k = !xs.isEmpty) ∨ (∃ xs, SqT X.K H p xs ∧ k = !xs.isEmpty) ∨ ∃ kvs, H p = some (.dK kvs) ∧ k = !kvs.isEmpty := e
    rcases e' with ⟨xs, hx, e'⟩ | ⟨xs, hx, e'⟩ | ⟨kvs, hx, e'⟩
    · subst e'
      obtain ⟨its, r, pl, hz⟩ := I.list hx
      have hlen := r.length
      exact wpAny_truthy_list pl.isList (by simp only [List.size_toArray]; omega) ⟨H, I.tok _, by rw [isEmpty_of r]; exact q⟩
    · subst e'
      obtain ⟨its, r, pl, hz⟩ := I.tuple hx
      have hlen := r.length
      exact truthy_tuple pl (by simp only [List.size_toArray]; omega) ⟨H, I.tok _, by rw [isEmpty_of r]; exact q⟩
    · subst e'
      obtain ⟨hz, hS, vs, r, m⟩ : kvs.length ≤ sizeLine ∧ (p == sysModules) = false ∧ ∃ vs, KV kvs vs ∧ s.heap.DictOf (mixKind X.prog X.w) p vs := I.hok p _ hx
      have hlen : kvs.length = vs.length := Paired.length r
      exact wpAny_truthy_dict hS m (by omega) ⟨H, I.tok _, by rw [isEmpty_kv r]; exact q⟩
  | _ => exact (show False from e).elim
/-- any expression whose test is its value's truth (a name, a call, a subscript, a field ..: he by fun _ => rfl) -/
theorem pt_truth (ha : PE X a ta) (he : ∀ whole, isTrue a X.env whole = (do let v ← whole; standAt a.pos; holding [v] (truthy v))) :
    PT X a (fun σ H Q => ta σ H fun x H' => ∃ k, TruV X.K x H' k ∧ Q k H') := by
  intro pins s σ H Q I h
  exact isTrue_plain (thn (ha pins s σ H _ I h) fun v s1 ⟨x, H1, I1, r1, q1⟩ => tru_ok pins s1 σ H1 x v Q I1 r1 q1) (he _)

/-! ### strs and bytes -/
theorem pe_byt {x : List UInt8} {k : Nat} : PE X (.Constant (.bytes x) k pos) (fun _ H Q => Q (.byt x.toArray) H) := fun _ _ _ H _ I h => PySem.W.Constant_bytes ⟨.byt x.toArray, H, I.tok _, ⟨_, rfl⟩, h⟩
theorem op_add_str : OpR X (binaryOp .Add) (fun x y H Q => ∃ i j, x = .str i ∧ y = .str j ∧ i.length + j.length ≤ sizeLine ∧ Q (.str (i ++ j)) H) := by
  intro pins s σ H x y v u Q I rx ry h
  obtain ⟨i, j, rfl, rfl, hz, q⟩ := h
  obtain ⟨t, rfl⟩ := rx
  obtain ⟨t', rfl⟩ := ry
  exact add_str (fun t' tk => ⟨.str (i ++ j), H, I.tok _, ⟨_, rfl⟩, q⟩) hz
theorem iop_add_str : OpR X (inplaceOp .Add) (fun x y H Q => ∃ i j, x = .str i ∧ y = .str j ∧ i.length + j.length ≤ sizeLine ∧ Q (.str (i ++ j)) H) := by
  intro pins s σ H x y v u Q I rx ry h
  obtain ⟨i, j, rfl, rfl, hz, q⟩ := h
  obtain ⟨t, rfl⟩ := rx
  obtain ⟨t', rfl⟩ := ry
  exact iadd_str (fun t' tk => ⟨.str (i ++ j), H, I.tok _, ⟨_, rfl⟩, q⟩) hz
theorem op_add_byt : OpR X (binaryOp .Add) (fun x y H Q => ∃ i j, x = .byt i ∧ y = .byt j ∧ i.size + j.size ≤ 16777216 ∧ Q (.byt (i ++ j)) H) := by
  intro pins s σ H x y v u Q I rx ry h
  obtain ⟨i, j, rfl, rfl, hz, q⟩ := h
  obtain ⟨t, rfl⟩ := rx
  obtain ⟨t', rfl⟩ := ry
  exact PySem.W.KBy.add_bytes hz (fun t' tk => ⟨.byt (i ++ j), H, I.tok _, ⟨_, rfl⟩, q⟩)

def PlainIxT (b : Expr) : Prop := ∀ o i, subscripted b false o i = operate [o, i] (getItem o i)
/-- s[i], 0 ≤ i < len -/
theorem pe_item_str (ha : PE X a ta) (hb : PE X b tb) (hs : PlainIxT b) :
    PE X (.Subscript a b pos) (tOp (fun x y H Q => ∃ z i c, x = .str z ∧ y = .int i ∧ 0 ≤ i ∧ i < 2 ^ 63 ∧ i < z.length ∧ z.cps[i.toNat]? = some c ∧ Q (.str ⟨#[c]⟩) H) ta tb) := by
  intro pins s σ H Q I h
  refine Subscript_ (binT ha hb I h fun v u s2 x y H2 I2 rx ry q => ?_)
  obtain ⟨z, i, c, rfl, rfl, h0, h63, h1, hc, q⟩ := q
  obtain ⟨t, rfl⟩ := rx
  obtain ⟨t', rfl⟩ := ry
  have e : seqIndex? i z.length = some i.toNat := PySem.StrLaws.seqIndex_nonneg h0 h1
  exact tail_any (typeIs_str s2 z t) slot_str_getitem.lookup (getItem_str (c := c) (by
    have e1 : decide (i < -(2 ^ 63 : Int)) = false := decide_eq_false (by omega)
    have e2 : decide (i ≥ 2 ^ 63) = false := decide_eq_false (by omega)
    rw [e1, e2] <;> rfl) (by rw [e]; exact hc) ⟨.str ⟨#[c]⟩, H2, I2.tok _, ⟨_, rfl⟩, q⟩) (hs _ _)
/-- b[i], 0 ≤ i < len -/
theorem pe_item_byt (ha : PE X a ta) (hb : PE X b tb) (hs : PlainIxT b) :
    PE X (.Subscript a b pos) (tOp (fun x y H Q => ∃ (z : List UInt8) (i : Int), x = .byt z.toArray ∧ y = .int i ∧ z.length ≤ sizeLine ∧ 0 ≤ i ∧ i < z.length ∧ Q (.int ((z.getD i.toNat 0).toNat : Nat)) H) ta tb) := by
  intro pins s σ H Q I h
  refine Subscript_ (binT ha hb I h fun v u s2 x y H2 I2 rx ry q => ?_)
  obtain ⟨z, i, rfl, rfl, hz, h0, h1, q⟩ := q
  obtain ⟨t, rfl⟩ := rx
  obtain ⟨t', rfl⟩ := ry
  have hl : sizeLine = 16777216 := sizeLine_eq
  exact tail_any (PySem.W.typeIs_bytes s2 z.toArray t) PySem.W.FB.slot_bytes_getitem.lookup (PySem.W.getItem_bytes (by omega) h0 h1 ⟨.int ((z.getD i.toNat 0).toNat : Nat), H2, I2.tok _, ⟨_, rfl⟩, q⟩) (hs _ _)

/-! ### scalar builtins, by CallR -/
theorem vals1 {x : V} {us : List Value} (r : Vals [x] us) : ∃ u, us = [u] ∧ RelV x u := by
  cases r with
  | cons r1 r2 => cases r2; exact ⟨_, rfl, r1⟩
theorem vals2 {x y : V} {us : List Value} (r : Vals [x, y] us) : ∃ u w', us = [u, w'] ∧ RelV x u ∧ RelV y w' := by
  cases r with
  | cons r1 r2 =>
    cases r2 with
    | cons r3 r4 => cases r4; exact ⟨_, _, rfl, r1, r3⟩
theorem call_abs : CallR X (.builtin "abs") (fun xs H Q => ∃ i, xs = [.int i] ∧ Q (.int (if i < 0 then -i else i)) H) := by
  intro pins s σ H xs us Q I r h
  obtain ⟨i, rfl, q⟩ := h
  obtain ⟨u, rfl, t, rfl⟩ := vals1 r
  exact call_abs_int fun u tk => ⟨.int (if i < 0 then -i else i), H, I.tok _, ⟨_, rfl⟩, q⟩
theorem call_max2 (hc : X.calm = true) : CallR X (.builtin "max") (fun xs H Q => ∃ i j, xs = [.int i, .int j] ∧ Q (.int (if j > i then j else i)) H) := by
  intro pins s σ H xs us Q I r h
  obtain ⟨i, j, rfl, q⟩ := h
  obtain ⟨u, w', rfl, ⟨t, rfl⟩, ⟨t', rfl⟩⟩ := vals2 r
  refine max_two_ints (I.ok.hd hc) fun h' tk k => ⟨_, H, I.kept k, ?_, q⟩
  by_cases hj : j > i
  · rw [if_pos hj, if_pos hj]; exact ⟨_, rfl⟩
  · rw [if_neg hj, if_neg hj]; exact ⟨_, rfl⟩
theorem call_min2 (hc : X.calm = true) : CallR X (.builtin "min") (fun xs H Q => ∃ i j, xs = [.int i, .int j] ∧ Q (.int (if j < i then j else i)) H) := by
  intro pins s σ H xs us Q I r h
  obtain ⟨i, j, rfl, q⟩ := h
  obtain ⟨u, w', rfl, ⟨t, rfl⟩, ⟨t', rfl⟩⟩ := vals2 r
  refine min_two_ints (I.ok.hd hc) fun h' tk k => ⟨_, H, I.kept k, ?_, q⟩
  by_cases hj : j < i
  · rw [if_pos hj, if_pos hj]; exact ⟨_, rfl⟩
  · rw [if_neg hj, if_neg hj]; exact ⟨_, rfl⟩
theorem call_int1 : CallR X (.type "int") (fun xs H Q => (∃ i, xs = [.int i] ∧ Q (.int i) H) ∨ ∃ k, xs = [.bl k] ∧ Q (.int (if k then 1 else 0)) H) := by
  intro pins s σ H xs us Q I r h
  rcases h with ⟨i, rfl, q⟩ | ⟨k, rfl, q⟩
  · obtain ⟨u, rfl, t, rfl⟩ := vals1 r
    exact call_int_int ⟨.int i, H, I, ⟨_, rfl⟩, q⟩
  · obtain ⟨u, rfl, r1⟩ := vals1 r
    cases r1
    exact call_int_bool ⟨.int (if k then 1 else 0), H, I.tok _, ⟨_, rfl⟩, q⟩
theorem call_bool1 : CallR X (.type "bool") (fun xs H Q => (∃ i, xs = [.int i] ∧ Q (.bl (i != 0)) H) ∨ ∃ k, xs = [.bl k] ∧ Q (.bl k) H) := by
  intro pins s σ H xs us Q I r h
  rcases h with ⟨i, rfl, q⟩ | ⟨k, rfl, q⟩
  · obtain ⟨u, rfl, t, rfl⟩ := vals1 r
    exact call_bool_int ⟨.bl (i != 0), H, I, rfl, q⟩
  · obtain ⟨u, rfl, r1⟩ := vals1 r
    cases r1
    exact call_bool_bool ⟨.bl k, H, I, rfl, q⟩
theorem call_str_int : CallR X (.type "str") (fun xs H Q => ∃ i, xs = [.int i] ∧ i.natAbs.log2 < 1920 ∧ Q (.str (toString i)) H) := by
  intro pins s σ H xs us Q I r h
  obtain ⟨i, rfl, hz, q⟩ := h
  obtain ⟨u, rfl, t, rfl⟩ := vals1 r
  exact PySem.P.str_of_int hz ⟨.str _, H, I.tok _, ⟨_, rfl⟩, q⟩
theorem call_ord : CallR X (.builtin "ord") (fun xs H Q => ∃ x, xs = [.str x] ∧ x.length = 1 ∧ Q (.int (x.cps.getD 0 0 : Nat)) H) := by
  intro pins s σ H xs us Q I r h
  obtain ⟨x, rfl, hz, q⟩ := h
  obtain ⟨u, rfl, t, rfl⟩ := vals1 r
  exact ord_of_one hz ⟨.int _, H, I.tok _, ⟨_, rfl⟩, q⟩
theorem call_chr : CallR X (.builtin "chr") (fun xs H Q => ∃ i, xs = [.int i] ∧ 0 ≤ i ∧ i ≤ 1114111 ∧ Q (.str ⟨#[i.toNat]⟩) H) := by
  intro pins s σ H xs us Q I r h
  obtain ⟨i, rfl, h0, h1, q⟩ := h
  obtain ⟨u, rfl, t, rfl⟩ := vals1 r
  exact chr_of_range h0 h1 ⟨.str _, H, I.tok _, ⟨_, rfl⟩, q⟩
/-- len of a str, a bytes, a list, a tuple -/
def LenV (K : PySem.W.Frag) (x : V) (H : Hp) (n : Nat) : Prop :=
  match x with
  | .str y => y.length ≤ sizeLine ∧ n = y.length
  | .byt y => y.size ≤ sizeLine ∧ n = y.size
  | .ref p => (∃ xs, SqL K H p xs ∧ n = xs.length) ∨ ∃ xs, SqT K H p xs ∧ n = xs.length
  | _ => False
theorem call_len : CallR X (.builtin "len") (fun xs H Q => ∃ x n, xs = [x] ∧ LenV X.K x H n ∧ Q (.int n) H) := by
  intro pins s σ H xs us Q I r h
  obtain ⟨x, n, rfl, e, q⟩ := h
  obtain ⟨u, rfl, rx⟩ := vals1 r
  have hl := line63
  have hs : sizeLine = 16777216 := sizeLine_eq
  cases x with
  | str y =>
    obtain ⟨t, rfl⟩ := rx
    obtain ⟨hy, e'⟩ : y.length ≤ sizeLine ∧ n = y.length := e
    subst e'
    exact len_str (by omega) ⟨.int _, H, I.tok _, ⟨_, rfl⟩, q⟩
  | byt y =>
    obtain ⟨t, rfl⟩ := rx
    obtain ⟨hy, e'⟩ : y.size ≤ sizeLine ∧ n = y.size := e
    subst e'
    exact PySem.W.len_bytes (by omega) ⟨.int _, H, I.tok _, ⟨_, rfl⟩, q⟩
  | ref p =>
    cases rx
    have e' : (∃ xs, SqL X.K H p xs ∧ n = xs.length) ∨ ∃ xs, SqT X.K H p xs ∧ n = xs.length := e
    rcases e' with ⟨xs, hx, e'⟩ | ⟨xs, hx, e'⟩
    · subst e'
      obtain ⟨its, r', pl, hz⟩ := I.list hx
      have hlen := r'.length
      exact Calls.call_len_list pl.isList (by simp only [List.size_toArray]; omega) ⟨.int xs.length, H, I.tok _, ⟨_, by simp only [List.size_toArray]; rw [hlen]⟩, q⟩
    · subst e'
      obtain ⟨its, r', pl, hz⟩ := I.tuple hx
      have hlen := r'.length
      exact len_tuple pl (by simp only [List.size_toArray]; omega) ⟨.int xs.length, H, I.tok _, ⟨_, by simp only [List.size_toArray]; rw [hlen]⟩, q⟩
  | _ => exact (show False from e).elim
/-- divmod: a new tuple -/
theorem call_divmod : CallR X (.builtin "divmod") (fun xs H Q => ∃ i j, xs = [.int i, .int j] ∧ CDiv i j ∧ ∀ p, H p = none → Q (.ref p) (upd H p (.tup [.int (i / j), .int (i % j)]))) := by
  intro pins s σ H xs us Q I r h
  obtain ⟨i, j, rfl, ⟨h1, h2⟩, q⟩ := h
  obtain ⟨u, w', rfl, ⟨t, rfl⟩, ⟨t', rfl⟩⟩ := vals2 r
  refine divmod_int (by omega) ?_ (.inl (PyProof.noPylong_small (by omega)))
  rw [Int.fdiv_eq_ediv_of_nonneg i (by omega), Int.fmod_eq_emod_of_nonneg i (by omega)]
  have hn : H s.heap.objs.size = none := I.hok.fresh (Nat.le_refl _)
  refine ⟨.ref s.heap.objs.size, _, ?_, rfl, q _ hn⟩
  refine I.laid (fun b o e => Heap.get?_push_of_some _ e) (Nat.le_refl _) ⟨by simp only [List.length_cons, List.length_nil]; rw [sizeLine_eq]; decide, [.int (i / j) s.toks, .int (i % j) (s.toks + 1)], .cons ⟨_, rfl⟩ (.cons ⟨_, rfl⟩ .nil), ?_⟩
  exact ⟨_, Heap.get?_push_size s.heap rfl, rfl, 0, rfl⟩
end
end L2

namespace L2
open PySem PySem.Spec PyProof.Rows

/-! ### an instance, its attributes a map -/
structure ObjM (h : Heap) (x dx C : Addr) (mA : Str → Option Value) : Prop where
  obj : h.get? x = some (PySem.W.instObj C dx)
  ns : h.Ns1 dx mA
  ne : dx ≠ x

theorem lookIn_ns {h : Heap} {dx : Addr} {mA : Str → Option Value} (n : h.Ns1 dx mA) : ∃ od, h.get? dx = some od ∧ ∀ name, PySem.W.lookIn name od = some (mA name) := by
  obtain ⟨o, es, ep, ho, hd, hk, _, hm⟩ := n
  refine ⟨o, ho, fun name => ?_⟩
  have e := hm name
  unfold nsFind findBy at e
  rw [← Array.find?_toList] at e
  unfold PySem.W.lookIn
  rw [hd]
  dsimp only
  split
  · rename_i y q
    rw [q] at e
    exact congrArg some e
  · rename_i q
    rw [q] at e
    have a : es.toList.any (·.refKey) = false := by
      rw [List.any_eq_false]
      intro y hy
      obtain ⟨z, t, hkey⟩ := hk y (Array.mem_toList_iff.mp hy)
      simp [DictEntry.refKey, hkey]
    have a' : ¬ es.toList.any (·.refKey) = true := by rw [a]; exact Bool.false_ne_true
    rw [if_neg a']
    exact congrArg some e

theorem ObjM.look {h : Heap} {x dx C : Addr} {mA : Str → Option Value} (I : ObjM h x dx C mA) : ∃ od, PySem.W.InstAt h x (PySem.W.instObj C dx) C (some od) ∧ ∀ name, PySem.W.lookIn name od = some (mA name) :=
  let ⟨od, ho, hl⟩ := lookIn_ns I.ns
  ⟨od, ⟨I.obj, rfl, rfl, ho⟩, hl⟩

section
variable {prog : Program} {w : World} {A : Around} {E : Value → Shared → Prop} {s : Shared} {K : PySem.W.Frag} {x dx C f : Addr} {mA : Str → Option Value} {name : Str} {v : Value}

theorem get_map {expr : Bool} {Q : Value → Shared → Prop} (X : K.In s.heap) (I : ObjM s.heap x dx C mA) (hg : PySem.W.plainGet K C name = true) (hh : PySem.W.hasDictIn K C = true)
    (ha : PySem.W.findIn K (.ref C) name = some none) (hv : mA name = some v) (hv' : PySem.W.handedIn v = true) (h : Q v { s with toks := s.toks + 1 }) :
    wpAny (model prog w) A (getAttr (.ref x) name expr) Q E s := by
  obtain ⟨od, J, hl⟩ := I.look
  exact PySem.W.get_value X J (PySem.W.plainGet_of hg).1 (PySem.W.findObj_own hh ha rfl (by rw [hl, hv])) hv' h

theorem get_const {expr : Bool} {a : Value} {Q : Value → Shared → Prop} (X : K.In s.heap) (I : ObjM s.heap x dx C mA) (hg : PySem.W.plainGet K C name = true) (hh : PySem.W.hasDictIn K C = true)
    (ha : PySem.W.findIn K (.ref C) name = some (some a)) (hn : PySem.W.specialIn K a "__get__" = some none) (hc : PySem.W.copiedNames.contains name = false) (hv : mA name = none) (hv' : PySem.W.handedIn a = true)
    (h : Q a { s with toks := s.toks + 1 }) : wpAny (model prog w) A (getAttr (.ref x) name expr) Q E s := by
  obtain ⟨od, J, hl⟩ := I.look
  exact PySem.W.get_value X J (PySem.W.plainGet_of hg).1 (PySem.W.findObj_cls hh ha hn hv' hc (by rw [hl, hv])) hv' h

theorem get_meth {pl : Sem Bool} {Q : Value × List Value → Shared → Prop} (X : K.In s.heap) (I : ObjM s.heap x dx C mA) (hg : PySem.W.plainGet K C name = true)
    (hf : PySem.W.findIn K (.ref C) name = some (some (.ref f))) (ht : PySem.W.isFn K (.ref f) = true) (hv : mA name = none) (h : Q (.ref f, [.ref x]) s) :
    wpAny (model prog w) A (getMethod (.ref x) name pl) Q E s := by
  obtain ⟨od, J, hl⟩ := I.look
  exact PySem.W.method_fn X J (PySem.W.plainGet_of hg).1 (PySem.W.plainGet_of hg).2 hf (beq_iff_eq.mp ht) (by show (PySem.W.lookIn name od).map (·.isSome) = some false; rw [hl, hv]; rfl) h

theorem set_map {ns : List Str} {Q : Unit → Shared → Prop} (X : K.In s.heap) (I : ObjM s.heap x dx C mA)
    (hs : PySem.W.findIn K (.ref C) "__setattr__" = some (some (.builtin "object.__setattr__"))) (hp : PySem.W.plainOver K C = true) (ht : PySem.W.takerIn K C name = some none) (hh : PySem.W.hasDictIn K C = true)
    (hw : PySem.Within mA ns) (hsz : ns.length ≤ sizeLine)
    (h : ∀ h', ObjM h' x dx C (fun y => if y = name then some v else mA y) → Heap.SameBut dx s.heap h' → Q () { s with heap := h', toks := s.toks + 2 }) :
    wpAny (model prog w) A (setAttr (.ref x) name v) Q E s := by
  obtain ⟨od, J, hl⟩ := I.look
  refine PySem.W.set_plain X J hs (PySem.W.osa_open (s := { s with toks := s.toks + 1 }) (r := none) X J hp ht fun b => ?_)
  obtain ⟨cd, hc, hd'⟩ := PySem.W.any_some hh
  have hx : s.heap.get? x = some ⟨.ref C, some dx, .plain, #[]⟩ := I.obj
  refine wpAny_bind (wpAny_pure (wpAny_bind (wpAny_bind (wpAny_loadPart hx (wpAny_bind (PySem.W.Looks.here (s := { s with toks := s.toks + 1 }) (PySem.W.looks_clsIn X hc) ?_))))))
  rw [hd']
  refine wpAny_pure (a := some dx) (wpAny_bind (wpAny_pure (wpAny_bind ?_)))
  refine wpAny_nsSet1 (s := { s with toks := s.toks + 1 }) I.ns fun h' hn2 hs2 => ?_
  obtain ⟨oD, esD, epD, hoD, hdD, hcD⟩ := hn2.count (PySem.Within.cons name v hw)
  refine wpAny_bind (wpAny_lookBehind hoD (by rw [hdD]; exact pastItsLine_dict (Nat.le_trans hcD (by rw [List.length_cons]; omega))) ?_)
  exact wpAny_pure (h _ ⟨(hs2.2 _ (Ne.symm I.ne)).trans I.obj, hn2, I.ne⟩ hs2)

/-- C(..): the dict at the heap's end, the instance behind it; then its __init__ -/
theorem make_map {R : Result → Shared → Prop} {vs : List Value} {kw : List (Str × Value)} (X : K.In s.heap) (hm : PySem.W.makesIn K C = true)
    (hi : PySem.W.findIn K (.ref C) "__init__" = some (some (.ref f))) (hf : PySem.W.typeIn K (.ref f) = some (.type "function"))
    (h : codeAny (model prog w) (A.under (.builtin "type.__call__" ⟨.ref C :: vs, kw⟩)) (.call (.ref f) ⟨.ref (s.heap.objs.size + 1) :: vs, kw⟩) (PySem.W.InitBack (s.heap.objs.size + 1) R)
      { s with heap := (s.heap.push PySem.W.emptyDict).push (PySem.W.instObj C s.heap.objs.size) }) :
    codeAny (model prog w) A (.call (.ref C) ⟨vs, kw⟩) R s := by
  obtain ⟨hh, g, d, t, os⟩ := s
  exact PySem.W.make_core (PySem.W.makes_of X hm) (PySem.W.looks_findIn X hi) (fun self => PySem.W.bind_fn X self hf) (.inl rfl) h
/-- C() where there is no __init__ but object's -/
theorem make_map0 {R : Result → Shared → Prop} (X : K.In s.heap) (hm : PySem.W.makesIn K C = true)
    (hi : PySem.W.findIn K (.ref C) "__init__" = some (some (.builtin "object.__init__")))
    (hb : ∀ self, PySem.W.Looks (model prog w) s.heap (bindSpecial (.builtin "object.__init__") self) (.builtin "object.__init__", [self]))
    (h : codeAny (model prog w) (A.under (.builtin "type.__call__" ⟨[.ref C], []⟩)) (.call (.builtin "object.__init__") ⟨[.ref (s.heap.objs.size + 1)], []⟩) (PySem.W.InitBack (s.heap.objs.size + 1) R)
      { s with heap := (s.heap.push PySem.W.emptyDict).push (PySem.W.instObj C s.heap.objs.size) }) :
    codeAny (model prog w) A (.call (.ref C) ⟨[], []⟩) R s := by
  obtain ⟨hh, g, d, t, os⟩ := s
  exact PySem.W.make_core (PySem.W.makes_of X hm) (PySem.W.looks_findIn X hi) hb (.inr ⟨rfl, rfl⟩) h
end

/-! ### the attributes as a list of pairs -/
def putF (f : Str) (v : V) : List (Str × V) → List (Str × V)
  | [] => [(f, v)]
  | (g, x) :: r => if g = f then (g, v) :: r else (g, x) :: putF f v r
theorem lookup_putF (f g : Str) (v : V) : ∀ fs : List (Str × V), (putF f v fs).lookup g = if g = f then some v else fs.lookup g
  | [] => by
    show List.lookup g [(f, v)] = _
    by_cases h : g = f
    · have hb : (g == f) = true := beq_iff_eq.mpr h
      simp only [List.lookup, hb, if_pos h]
    · have hb : (g == f) = false := beq_eq_false_iff_ne.mpr h
      simp only [List.lookup, hb, if_neg h]
  | (k, x) :: r => by
    have ih := lookup_putF f g v r
    rw [show putF f v ((k, x) :: r) = (if k = f then (k, v) :: r else (k, x) :: putF f v r) from rfl]
    by_cases hk : k = f
    · rw [if_pos hk]
      by_cases h : g = k
      · have hb : (g == k) = true := beq_iff_eq.mpr h
        simp only [List.lookup, hb, if_pos (h.trans hk)]
      · have hb : (g == k) = false := beq_eq_false_iff_ne.mpr h
        simp only [List.lookup, hb, if_neg (fun e : g = f => h (e.trans hk.symm))]
    · rw [if_neg hk]
      by_cases h : g = k
      · have hb : (g == k) = true := beq_iff_eq.mpr h
        simp only [List.lookup, hb, if_neg (fun e : g = f => hk (h.symm.trans e))]
      · have hb : (g == k) = false := beq_eq_false_iff_ne.mpr h
        simp only [List.lookup, hb]
        exact ih
theorem keys_putF (f : Str) (v : V) : ∀ fs : List (Str × V), f ∈ (putF f v fs).map (·.1) ∧ ∀ g, g ∈ fs.map (·.1) → g ∈ (putF f v fs).map (·.1)
  | [] => ⟨by simp [putF], fun g h => by simp at h⟩
  | (k, x) :: r => by
    obtain ⟨i1, i2⟩ := keys_putF f v r
    rw [show putF f v ((k, x) :: r) = (if k = f then (k, v) :: r else (k, x) :: putF f v r) from rfl]
    by_cases hk : k = f
    · rw [if_pos hk]
      subst hk
      exact ⟨by simp, fun g h => by simpa using h⟩
    · rw [if_neg hk]
      refine ⟨?_, fun g h => ?_⟩
      · rw [List.map_cons]
        exact List.mem_cons_of_mem _ i1
      · rw [List.map_cons] at h ⊢
        rcases List.mem_cons.mp h with e | e
        · exact List.mem_cons.mpr (.inl e)
        · exact List.mem_cons_of_mem _ (i2 g e)
theorem length_putF (f : Str) (v : V) : ∀ fs : List (Str × V), (putF f v fs).length ≤ fs.length + 1
  | [] => by simp [putF]
  | (k, x) :: r => by
    have ih := length_putF f v r
    rw [show putF f v ((k, x) :: r) = (if k = f then (k, v) :: r else (k, x) :: putF f v r) from rfl]
    by_cases hk : k = f
    · rw [if_pos hk, List.length_cons, List.length_cons]; omega
    · rw [if_neg hk, List.length_cons, List.length_cons]; omega

theorem RelO.some_of {v : V} {o : Option Value} (r : RelO (some v) o) : ∃ u, o = some u ∧ RelV v u := by
  cases o with
  | none => exact (show False from r).elim
  | some u => exact ⟨u, rfl, r⟩
theorem RelO.none_of {o : Option Value} (r : RelO none o) : o = none := by
  cases o with
  | none => rfl
  | some u => exact (show False from r).elim
theorem handed_of {v : V} {u : Value} (r : RelV v u) : PySem.W.handedIn u = true := by
  cases v with
  | non => cases (show u = Value.none from r); rfl
  | bl b => cases (show u = Value.bool b from r); rfl
  | int i => obtain ⟨t, e⟩ := (show ∃ t, u = Value.int i t from r); cases e; rfl
  | str x => obtain ⟨t, e⟩ := (show ∃ t, u = Value.str x t from r); cases e; rfl
  | byt b => obtain ⟨t, e⟩ := (show ∃ t, u = Value.bytes b t from r); cases e; rfl
  | flt b => obtain ⟨t, e⟩ := (show ∃ t, u = Value.float b t from r); cases e; rfl
  | ref a => cases (show u = Value.ref a from r); rfl
  | ty n => cases (show u = Value.type n from r); rfl

section
variable {P : Program} {w : World} {H H' : Hp} {h h' : Heap} {a C dx : Addr} {fs fs' : List (Str × V)}
theorem ins_get (hok : HOk P w H h) (e : H a = some (.ins C dx fs)) : ∃ mA, ObjM h a dx C mA ∧ (∀ f, RelO (fs.lookup f) (mA f)) ∧ PySem.Within mA (fs.map (·.1)) ∧ fs.length ≤ 1000 ∧ H dx = some (.own a) := by
  obtain ⟨d, z, ne, ob, mA, n, r, q⟩ := (show ObjOk P w H h a (.ins C dx fs) from hok a _ e)
  exact ⟨mA, ⟨ob, n, ne⟩, r, q, z, d⟩
end

/-! ### what of the text a class must have -/
structure Cls (K : PySem.W.Frag) (C : Addr) : Prop where
  pg : PySem.W.plainGet K C Str.empty = true
  hd : PySem.W.hasDictIn K C = true
  po : PySem.W.plainOver K C = true
  sa : PySem.W.findIn K (.ref C) "__setattr__" = some (some (.builtin "object.__setattr__"))
theorem Cls.get {K : PySem.W.Frag} {C : Addr} (c : Cls K C) (f : Str) : PySem.W.plainGet K C f = true := c.pg
/-- no class of it has the name -/
def NoAttr (K : PySem.W.Frag) (C : Addr) (f : Str) : Prop := PySem.W.findIn K (.ref C) f = some none
theorem NoAttr.taker {K : PySem.W.Frag} {C : Addr} {f : Str} (n : NoAttr K C f) : PySem.W.takerIn K C f = some none := by
  unfold PySem.W.takerIn
  rw [show PySem.W.findIn K (.ref C) f = some none from n]
  rfl
/-- a constant of the class -/
structure Con (K : PySem.W.Frag) (C : Addr) (f : Str) (v : V) (u : Value) : Prop where
  at_ : PySem.W.findIn K (.ref C) f = some (some u)
  rel : RelV v u
  get : PySem.W.specialIn K u "__get__" = some none
  cp : PySem.W.copiedNames.contains f = false
/-- a method: a plain def of the class or of one above it -/
structure Meth (K : PySem.W.Frag) (C : Addr) (m : Str) (f : Addr) : Prop where
  at_ : PySem.W.findIn K (.ref C) m = some (some (.ref f))
  fn : PySem.W.isFn K (.ref f) = true
  kp : PySem.W.keepIn K (.ref f) = true

section
variable {X : Cx} {pins : List (Addr × Obj)} {σ : St} {H : Hp} {s : Shared} {a C dx : Addr} {fs : List (Str × V)} {f : Str} {v : V} {A : Around} {E : Value → Shared → Prop}

theorem getattr_ok {b : Bool} {Q : Value → Shared → Prop} (I : Inv X pins σ H s) (e : H a = some (.ins C dx fs)) (c : Cls X.K C) (n : NoAttr X.K C f) (l : fs.lookup f = some v)
    (h : ∀ u s', Inv X pins σ H s' → RelV v u → Q u s') : wpAny (model X.prog X.w) A (getAttr (.ref a) f b) Q E s := by
  obtain ⟨mA, O, r, _, _, _⟩ := ins_get I.hok e
  obtain ⟨u, hu, ru⟩ := RelO.some_of (v := v) (o := mA f) (by rw [← l]; exact r f)
  exact get_map I.kIn O (c.get f) c.hd n hu (handed_of ru) (h u _ (I.tok _) ru)

theorem getcon_ok {b : Bool} {u : Value} {Q : Value → Shared → Prop} (I : Inv X pins σ H s) (e : H a = some (.ins C dx fs)) (c : Cls X.K C) (k : Con X.K C f v u) (l : fs.lookup f = none)
    (h : ∀ s', Inv X pins σ H s' → Q u s') : wpAny (model X.prog X.w) A (getAttr (.ref a) f b) Q E s := by
  obtain ⟨mA, O, r, _, _, _⟩ := ins_get I.hok e
  have hn : mA f = none := RelO.none_of (by rw [← l]; exact r f)
  exact get_const I.kIn O (c.get f) c.hd k.at_ k.get k.cp hn (handed_of k.rel) (h _ (I.tok _))

theorem getmeth_ok {m : Str} {g : Addr} {pl : Sem Bool} {Q : Value × List Value → Shared → Prop} (I : Inv X pins σ H s) (e : H a = some (.ins C dx fs)) (c : Cls X.K C) (k : Meth X.K C m g) (l : fs.lookup m = none)
    (h : Q (.ref g, [.ref a]) s) : wpAny (model X.prog X.w) A (getMethod (.ref a) m pl) Q E s := by
  obtain ⟨mA, O, r, _, _, _⟩ := ins_get I.hok e
  have hn : mA m = none := RelO.none_of (by rw [← l]; exact r m)
  exact get_meth I.kIn O (c.get m) k.at_ k.fn hn h

theorem setattr_ok {y : V} {u : Value} {Q : Unit → Shared → Prop} (I : Inv X pins σ H s) (e : H a = some (.ins C dx fs)) (c : Cls X.K C) (n : NoAttr X.K C f) (hl : fs.length < 1000) (ry : RelV y u)
    (h : ∀ s', Inv X pins σ (upd H a (.ins C dx (putF f y fs))) s' → Q () s') : wpAny (model X.prog X.w) A (setAttr (.ref a) f u) Q E s := by
  obtain ⟨mA, O, r, wi, _, ho⟩ := ins_get I.hok e
  have hz : (fs.map (·.1)).length ≤ sizeLine := by rw [List.length_map, sizeLine_eq]; omega
  refine set_map I.kIn O c.sa c.po n.taker c.hd wi hz fun h' O' sb => h _ ?_
  have hd : ∃ o, h'.get? dx = some o := let ⟨o, _, _, e', _⟩ := O'.ns; ⟨o, e'⟩
  refine I.write (x := a) (e := dx) (by rw [e]; exact True.intro) (.inr ho) (fun b q hb z => (sb.2 b hb).trans z) hd ?_
  refine ⟨by rw [upd_ne O.ne]; exact ho, ?_, O.ne, O'.obj, _, O'.ns, fun g => ?_, fun g hg => ?_⟩
  · have := length_putF f y fs; omega
  · show RelO ((putF f y fs).lookup g) (if g = f then some u else mA g)
    rw [lookup_putF]
    by_cases q : g = f
    · rw [if_pos q, if_pos q]; exact ry
    · rw [if_neg q, if_neg q]; exact r g
  · by_cases q : g = f
    · rw [q]; exact (keys_putF f y fs).1
    · refine (keys_putF f y fs).2 g (wi g fun z => hg ?_)
      show (if g = f then some u else mA g) = none
      rw [if_neg q]; exact z

/-- a new instance, tracked, without attributes -/
theorem Inv.made (I : Inv X pins σ H s) : Inv X pins σ (upd (upd H s.heap.objs.size (.own (s.heap.objs.size + 1))) (s.heap.objs.size + 1) (.ins C s.heap.objs.size []))
    { s with heap := (s.heap.push PySem.W.emptyDict).push (PySem.W.instObj C s.heap.objs.size) } := by
  have e1 : (s.heap.push PySem.W.emptyDict).get? s.heap.objs.size = some PySem.W.emptyDict := Heap.get?_push_size s.heap rfl
  have e2 : ((s.heap.push PySem.W.emptyDict).push (PySem.W.instObj C s.heap.objs.size)).get? (s.heap.objs.size + 1) = some (PySem.W.instObj C s.heap.objs.size) := by
    have := Heap.get?_push_size (s.heap.push PySem.W.emptyDict) (o := PySem.W.instObj C s.heap.objs.size) rfl
    rwa [Heap.size_push] at this
  have e3 : (s.heap.push PySem.W.emptyDict).Ns s.heap.objs.size (fun _ => none) := ⟨PySem.W.emptyDict, #[], _, e1, rfl, (fun e he => absurd he (by simp)), fun _ => rfl⟩
  have I1 := I.laid (a := s.heap.objs.size) (o := .own (s.heap.objs.size + 1)) (h' := s.heap.push PySem.W.emptyDict) (t' := s.toks) (fun b u q => Heap.get?_push_of_some _ q) (Nat.le_refl _) ⟨_, e1⟩
  refine I1.laid (a := s.heap.objs.size + 1) (o := .ins C s.heap.objs.size []) (t' := s.toks) (fun b u q => Heap.get?_push_of_some _ q) (Nat.le_of_eq (Heap.size_push _ _)) ?_
  have ne : s.heap.objs.size ≠ s.heap.objs.size + 1 := Nat.ne_of_lt (Nat.lt_succ_self _)
  refine ⟨by rw [upd_ne ne, upd_same], Nat.zero_le _, ne, e2, fun _ => none, (Heap.Ns1.of_empty e3).at fun o q => Heap.get?_push_of_some _ q, fun _ => True.intro, fun y hy => absurd rfl hy⟩

/-- e.f where nothing but the object is asked: through attributeBase (super) and the last hold -/
theorem attr_of {prog : Program} {w : World} {env : Env} {e : Expr} {f : Str} {pos : Pos} {s : Shared} {Q : Value → Shared → Prop} (hb : attributeBase e f env (eval e env) = eval e env)
    (h : wpAny (model prog w) A (eval e env) (fun o s₁ => wpAny (model prog w) A (getAttr o f true) Q E s₁) E s) : wpAny (model prog w) A (eval (.Attribute e f pos) env) Q E s :=
  Attribute_any_ h (by rw [arm_eval_Attribute, hb])
end

/-! ### readings and rules -/
/-- e.f, an attribute of the instance -/
def tFld (K : PySem.W.Frag) (ta : TE) (f : Str) : TE := fun σ H Q => ta σ H fun x H1 => ∃ a C dx fs v, x = .ref a ∧ H1 a = some (.ins C dx fs) ∧ Cls K C ∧ NoAttr K C f ∧ fs.lookup f = some v ∧ Q v H1
/-- e.f, a constant of the class -/
def tCon (K : PySem.W.Frag) (ta : TE) (f : Str) : TE := fun σ H Q => ta σ H fun x H1 => ∃ a C dx fs v u, x = .ref a ∧ H1 a = some (.ins C dx fs) ∧ Cls K C ∧ Con K C f v u ∧ fs.lookup f = none ∧ Q v H1
/-- e.f = value -/
def sFld (K : PySem.W.Frag) (ta tv : TE) (f : Str) : TS := fun D σ H => tv σ H fun y H1 => ta σ H1 fun x H2 => ∃ a C dx fs, x = .ref a ∧ H2 a = some (.ins C dx fs) ∧ Cls K C ∧ NoAttr K C f ∧ fs.length < 1000 ∧
  D.nx σ (upd H2 a (.ins C dx (putF f y fs)))
/-- an augmented operator on two values -/
def InOp (X : Cx) (op : Operator) (rd : V → V → Hp → VK → Prop) : Prop :=
  ∀ (pins : List (Addr × Obj)) (s : Shared) (σ : St) (H : Hp) (x y : V) (u v : Value) (Q : VK), Inv X pins σ H s → RelV x u → RelV y v → rd x y H Q → wpAny (model X.prog X.w) X.A (inplaceOp op u v) (EP X pins σ Q) X.xe s
/-- e.f op= value -/
def sFldAug (K : PySem.W.Frag) (ta tv : TE) (rd : V → V → Hp → VK → Prop) (f : Str) : TS := fun D σ H => ta σ H fun x H1 => ∃ a C dx fs v, x = .ref a ∧ H1 a = some (.ins C dx fs) ∧ Cls K C ∧ NoAttr K C f ∧ fs.lookup f = some v ∧
  tv σ H1 fun y H2 => rd v y H2 fun z H3 => ∃ dx' fs', H3 a = some (.ins C dx' fs') ∧ fs'.length < 1000 ∧ D.nx σ (upd H3 a (.ins C dx' (putF f z fs')))

section
variable {X : Cx} {o e value : Expr} {f : Str} {pos pos' tpos : Pos} {ta tv : TE}
theorem pe_fld (he : PE X e ta) (hb : attributeBase e f X.env (eval e X.env) = eval e X.env) : PE X (.Attribute e f pos) (tFld X.K ta f) := by
  intro pins s σ H Q I h
  refine attr_of hb (thn (he pins s σ H _ I h) fun u s1 ⟨x, H1, I1, rx, a, C, dx, fs, v, ex, ea, c, n, l, q⟩ => ?_)
  subst ex
  obtain rfl : u = Value.ref a := rx
  exact getattr_ok I1 ea c n l fun u' s2 I2 ru => ⟨v, H1, I2, ru, q⟩
theorem pe_con (he : PE X e ta) (hb : attributeBase e f X.env (eval e X.env) = eval e X.env) : PE X (.Attribute e f pos) (tCon X.K ta f) := by
  intro pins s σ H Q I h
  refine attr_of hb (thn (he pins s σ H _ I h) fun u s1 ⟨x, H1, I1, rx, a, C, dx, fs, v, u0, ex, ea, c, k, l, q⟩ => ?_)
  subst ex
  obtain rfl : u = Value.ref a := rx
  exact getcon_ok I1 ea c k l fun s2 I2 => ⟨v, H1, I2, k.rel, q⟩
theorem ps_fld (ha : PE X o ta) (hv : PE X value tv) (hs : swapsWith value (some (.Attribute o f pos')) pos.line X.env = pure false) : PS X (.Assign [.Attribute o f pos'] value pos) (sFld X.K ta tv f) := by
  intro pins s σ H D I h
  refine plainObj_wpAny_Assign_Attribute (thn (hv pins s σ H _ I h) fun u s1 ⟨y, H1, I1, ry, q⟩ => thn (ha pins s1 σ H1 _ I1 q) fun ov s2 ⟨x, H2, I2, rx, a, C, dx, fs, ex, ea, c, n, l, q2⟩ => ?_) hs
  subst ex
  obtain rfl : ov = Value.ref a := rx
  exact setattr_ok I2 ea c n l ry fun s3 I3 => ⟨σ, _, I3, q2⟩
theorem ps_fldaug {op : Operator} {rd : V → V → Hp → VK → Prop} (ha : PE X o ta) (hv : PE X value tv) (hop : InOp X op rd) : PS X (.AugAssign (.Attribute o f tpos) op value pos) (sFldAug X.K ta tv rd f) := by
  intro pins s σ H D I h
  refine wpAny_AugAssign_AttributeAny (thn (ha pins s σ H _ I h) fun ov s1 ⟨x, H1, I1, rx, a, C, dx, fs, v, ex, ea, c, n, l, q⟩ => ?_)
  subst ex
  obtain rfl : ov = Value.ref a := rx
  refine getattr_ok I1 ea c n l fun u s2 I2 ru => thn (hv pins s2 σ H1 _ I2 q) fun w3 s3 ⟨y, H2, I3, ry, q3⟩ => thn (hop pins s3 σ H2 v y u w3 _ I3 ru ry q3) fun w4 s4 ⟨z, H3, I4, rz, dx', fs', ea', l', q4⟩ => ?_
  exact setattr_ok I4 ea' c n l' rz fun s5 I5 => ⟨σ, _, I5, q4⟩
def rAdd : V → V → Hp → VK → Prop := fun x y H Q => ∃ i j, x = .int i ∧ y = .int j ∧ Q (.int (i + j)) H
def rSub : V → V → Hp → VK → Prop := fun x y H Q => ∃ i j, x = .int i ∧ y = .int j ∧ Q (.int (i - j)) H
theorem in_add : InOp X .Add rAdd := by
  rintro pins s σ H x y u v Q I rx ry ⟨i, j, rfl, rfl, q⟩
  obtain ⟨t, rfl⟩ := (show ∃ t, u = Value.int i t from rx)
  obtain ⟨t', rfl⟩ := (show ∃ t', v = Value.int j t' from ry)
  exact PyProof.Rows.iadd_int ⟨.int (i + j), H, I.tok _, ⟨_, rfl⟩, q⟩
theorem in_sub : InOp X .Sub rSub := by
  rintro pins s σ H x y u v Q I rx ry ⟨i, j, rfl, rfl, q⟩
  obtain ⟨t, rfl⟩ := (show ∃ t, u = Value.int i t from rx)
  obtain ⟨t', rfl⟩ := (show ∃ t', v = Value.int j t' from ry)
  exact PyProof.Rows.isub_int ⟨.int (i - j), H, I.tok _, ⟨_, rfl⟩, q⟩

/-- what is between an instance and its method: the tree of a method call -/
theorem methcall_of {pl : Sem Bool} {m : Str} {apos : Pos} {args : List Expr} {pins : List (Addr × Obj)} {s : Shared} {σ : St} {H : Hp} {Q : Value → Shared → Prop} {te : TE} (he : PE X e te) (I : Inv X pins σ H s)
    (h : te σ H fun x H1 => ∃ a C dx fs g, x = .ref a ∧ H1 a = some (.ins C dx fs) ∧ Cls X.K C ∧ Meth X.K C m g ∧ fs.lookup m = none ∧
      ∀ s1, Inv X pins σ H1 s1 → wpAny (model X.prog X.w) X.A (callWith pos (.ref g) [.ref a] (backTo pos (starEach args X.env)) (backToKw pos (keywordEach [] X.env))) Q X.xe s1)
    (ht : eval (.Call (.Attribute e m apos) args [] pos) X.env = (do
      let ov ← eval e X.env
      standAt apos.atName
      let (f, first) ← holding [ov] (getMethod ov m pl)
      callWith pos f first (backTo pos (starEach args X.env)) (backToKw pos (keywordEach [] X.env)))) :
    wpAny (model X.prog X.w) X.A (eval (.Call (.Attribute e m apos) args [] pos) X.env) Q X.xe s := by
  refine PySem.W.methodCall_KW (pl := pl) (thn (he pins s σ H _ I h) fun u s1 ⟨x, H1, I1, rx, a, C, dx, fs, g, ex, ea, c, k, l, q⟩ => ?_) ht
  subst ex
  obtain rfl : u = Value.ref a := rx
  exact getmeth_ok I1 ea c k l (q s1 I1)
end

/-! ### isinstance -/
section
variable {X : Cx} {pins : List (Addr × Obj)} {σ : St} {H : Hp} {s : Shared} {A : Around} {E : Value → Shared → Prop} {Q : Value → Shared → Prop} {c : Value} {b : Bool}
/-- the type of a value, as the fragment's deciders take it; for an instance its class -/
inductive TyOf (K : PySem.W.Frag) (H : Hp) : V → Value → Prop where
  | non : TyOf K H .non (.type "NoneType")
  | bl (x : Bool) : TyOf K H (.bl x) (.type "bool")
  | int (i : Int) : TyOf K H (.int i) (.type "int")
  | str (x : Str) : TyOf K H (.str x) (.type "str")
  | flt (x : UInt64) : TyOf K H (.flt x) (.type "float")
  | lst {a : Addr} {xs : List V} (e : H a = some (.lst xs)) : TyOf K H (.ref a) (.type "list")
  | frz {a : Addr} {o : Obj} {xs : List V} (e : H a = some (.frz o (.lst xs))) : TyOf K H (.ref a) (.type "list")
  | tup {a : Addr} {xs : List V} (e : H a = some (.tup xs)) : TyOf K H (.ref a) (.type "tuple")
  | dK {a : Addr} {kvs : List (Key × V)} (e : H a = some (.dK kvs)) : TyOf K H (.ref a) (.type "dict")
  | dT {a : Addr} {kvs : List (List Key × V)} (e : H a = some (.dT kvs)) : TyOf K H (.ref a) (.type "dict")
  | ins {a C dx : Addr} {fs : List (Str × V)} (e : H a = some (.ins C dx fs)) (cl : Cls K C) (ha : PySem.W.findIn K (.ref C) "__class__" = some (some (.builtin "object.__class__")))
      (hn : PySem.W.specialIn K (.builtin "object.__class__") "__get__" = some (some (.builtin "getset_descriptor.__get__"))) (htk : PySem.W.takesIn K (.builtin "object.__class__") = some true)
      (hm : PySem.W.mroIn K C (.type "object") = some true) : TyOf K H (.ref a) (.ref C)
/-- isinstance(x, c) for one class c, a built-in or an own one: kitOne's answer -/
theorem isinst_ok {x : V} {u t : Value} (I : Inv X pins σ H s) (rx : RelV x u) (ty : TyOf X.K H x t) (e : PySem.W.kitOne X.K t c = some b) (h : ∀ tk, Q (.bool b) { s with toks := tk }) :
    wpAny (model X.prog X.w) A (call (.builtin "isinstance") [u, c]) Q E s := by
  cases ty with
  | non => cases (show u = Value.none from rx); exact PySem.W.kia_one PySem.W.kitx_none I.kIn True.intro e (fun z => nomatch z) h
  | bl y => cases (show u = Value.bool y from rx); exact PySem.W.kia_one PySem.W.kitx_bool I.kIn True.intro e (fun z => nomatch z) h
  | int i => obtain ⟨t, q⟩ := (show ∃ t, u = Value.int i t from rx); cases q; exact PySem.W.kia_one PySem.W.kitx_int I.kIn True.intro e (fun z => nomatch z) h
  | str y => obtain ⟨t, q⟩ := (show ∃ t, u = Value.str y t from rx); cases q; exact PySem.W.kia_one PySem.W.kitx_str I.kIn True.intro e (fun z => nomatch z) h
  | flt y => obtain ⟨t, q⟩ := (show ∃ t, u = Value.float y t from rx); cases q; exact PySem.W.kia_one PySem.W.kitx_float I.kIn True.intro e (fun z => nomatch z) h
  | @lst a xs ea =>
    cases (show u = Value.ref a from rx)
    obtain ⟨_, _, n, _, h1⟩ := (show ObjOk X.prog X.w H s.heap a (.lst xs) from I.hok a _ ea)
    exact PySem.W.kia_one PySem.W.kitx_list I.kIn ⟨_, h1, rfl⟩ e (fun z => nomatch z) h
  | @frz a ob xs ea =>
    cases (show u = Value.ref a from rx)
    obtain ⟨_, _, _, n, _, h1⟩ := (show ObjOk X.prog X.w H s.heap a (.frz ob (.lst xs)) from I.hok a _ ea)
    exact PySem.W.kia_one PySem.W.kitx_list I.kIn ⟨_, h1, rfl⟩ e (fun z => nomatch z) h
  | @tup a xs ea =>
    cases (show u = Value.ref a from rx)
    obtain ⟨_, _, _, p⟩ := (show ObjOk X.prog X.w H s.heap a (.tup xs) from I.hok a _ ea)
    obtain ⟨o, h1, h2, _⟩ := p
    exact PySem.W.kia_one PySem.W.kitx_tuple I.kIn ⟨o, h1, h2⟩ e (fun z => nomatch z) h
  | @dK a kvs ea =>
    cases (show u = Value.ref a from rx)
    obtain ⟨_, _, vs, _, p⟩ := (show ObjOk X.prog X.w H s.heap a (.dK kvs) from I.hok a _ ea)
    obtain ⟨o, es, ep, h1, h2, _⟩ := p
    exact PySem.W.kia_one PySem.W.kitx_dict I.kIn ⟨o, h1, h2.1⟩ e (fun z => nomatch z) h
  | @dT a kvs ea =>
    cases (show u = Value.ref a from rx)
    obtain ⟨_, _, xs, _, o, es, ep, h1, h2, _⟩ := (show ObjOk X.prog X.w H s.heap a (.dT kvs) from I.hok a _ ea)
    exact PySem.W.kia_one PySem.W.kitx_dict I.kIn ⟨o, h1, h2.1⟩ e (fun z => nomatch z) h
  | @ins a C dx fs ea cl ha hn htk hm =>
    cases (show u = Value.ref a from rx)
    obtain ⟨mA, O, _⟩ := ins_get I.hok ea
    obtain ⟨od, J, _⟩ := O.look
    exact PySem.W.kia_one (PySem.W.kitx_own (cl.get _) cl.hd ha hn htk hm) I.kIn J e (fun z => nomatch z) h
end
end L2

namespace L2
open PySem PySem.Spec PyProof.Rows

/-! ### room -/
structure Room (k : Nat) (A : Around) : Prop where
  hd : A.handled = none
  dp : A.depth + 3 * k + 5 < recursionLimit
  un : A.units + 16 * k + 200 < cLine
theorem Room.mono {j k : Nat} {A : Around} (r : Room k A) (h : j ≤ k) : Room j A := ⟨r.hd, by have := r.dp; omega, by have := r.un; omega⟩
theorem Room.deeper {k : Nat} {A : Around} (r : Room (k + 1) A) (env : Env) : Room k (A.deeper env) :=
  ⟨r.hd, by have := r.dp; show A.depth + 1 + 3 * k + 5 < _; omega, by have := r.un; show A.units + 3 + 16 * k + 200 < _; omega⟩
theorem Room.in1 {k : Nat} {A : Around} (r : Room (k + 1) A) : Room k A.in1 :=
  ⟨r.hd, by have := r.dp; show A.depth + 3 * k + 5 < _; omega, by have := r.un; show A.units + 1 + 16 * k + 200 < _; omega⟩
theorem make_depth {A : Around} {C : Addr} {us : List Value} {kw : List (Str × Value)} : (A.under (.builtin "type.__call__" ⟨.ref C :: us, kw⟩)).depth = A.depth + 1 := by
  first | rfl | simp [Around.under, Code.weight, Code.isCreation, Code.isGuard, Code.isCaller, Code.frames, Code.isFrame, guardIds]
theorem make_units {A : Around} {C : Addr} {us : List Value} {kw : List (Str × Value)} : (A.under (.builtin "type.__call__" ⟨.ref C :: us, kw⟩)).units = A.units + 1 := by
  first | rfl | simp [Around.under, Code.cUnits, Code.frames, Code.isFrame]
theorem Room.make {k : Nat} {A : Around} (r : Room (k + 1) A) (C : Addr) (us : List Value) (kw : List (Str × Value)) : Room k (A.under (.builtin "type.__call__" ⟨.ref C :: us, kw⟩)) :=
  ⟨r.hd, by have := r.dp; rw [make_depth]; omega, by have := r.un; rw [make_units]; omega⟩
theorem Room.depth {k : Nat} {A : Around} (r : Room k A) : A.depth < recursionLimit := by have := r.dp; omega
theorem Room.units {k : Nat} {A : Around} (r : Room k A) : A.units + 64 < cLine := by have := r.un; omega
theorem Room.units0 {k : Nat} {A : Around} (r : Room k A) : A.units < cLine := by have := r.un; omega

/-! ### argument lists and displays -/
def tNil : TA := fun _ H Q => Q [] H
def tCons (ta : TE) (tr : TA) : TA := fun σ H Q => ta σ H fun x H1 => tr σ H1 fun xs H2 => Q (x :: xs) H2
section
variable {X : Cx} {e : Expr} {es : List Expr} {te : TE} {t : TA} {pos : Pos}
theorem pa_nil : PA X [] tNil := fun _ _ _ _ H Q I h => Calls.spliced_nil ⟨[], H, I, .nil, h⟩
theorem pa_cons (ha : PE X e te) (hr : PA X es t) (hs : starEach (e :: es) X.env = (false, eval e X.env) :: starEach es X.env := by rfl) : PA X (e :: es) (tCons te t) := by
  intro pos pins s σ H Q I h
  rw [hs]
  show wpAny _ _ (spliced ((false, eval e X.env) :: backTo pos (starEach es X.env))) _ _ s
  refine Calls.spliced_cons (thn (ha pins s σ H _ I h) fun u s1 ⟨x, H1, I1, r1, q1⟩ => ?_)
  exact thn (hr pos pins s1 σ H1 _ I1 q1) fun us s2 ⟨xs, H2, I2, r2, q2⟩ => ⟨x :: xs, H2, I2, .cons r1 r2, q2⟩

/-- a tuple, a list of written items -/
def tTup (t : TA) : TE := fun σ H Q => t σ H fun xs H1 => xs.length ≤ sizeLine ∧ ∀ p, H1 p = none → Q (.ref p) (upd H1 p (.tup xs))
def tLst (t : TA) : TE := fun σ H Q => t σ H fun xs H1 => xs.length ≤ sizeLine ∧ ∀ p, H1 p = none → Q (.ref p) (upd H1 p (.lst xs))
theorem pe_tup {x1} (h : PA X es t) : PE X (.Tuple es x1 pos) (tTup t) := by
  intro pins s σ H Q I hq
  refine wpAny_Tuple_spliced (thn (h pos pins s σ H _ I hq) fun us s1 ⟨xs, H1, I1, r, z, q⟩ => ⟨by rw [← r.length]; exact z, ?_⟩)
  have hf : H1 s1.heap.objs.size = none := I1.hok.fresh (Nat.le_refl _)
  refine ⟨.ref s1.heap.objs.size, upd H1 s1.heap.objs.size (.tup xs), I1.laid (t' := s1.toks) (fun b u e => Heap.get?_push_of_some _ e) (Nat.le_refl _) ?_, rfl, q _ hf⟩
  exact ⟨z, us, r, ⟨_, Heap.get?_push_size _ rfl, rfl, _, rfl⟩⟩
theorem pe_lst (h : PA X es t) : PE X (.List es pos) (tLst t) := by
  intro pins s σ H Q I hq
  refine wpAny_List_spliced (thn (h pos pins s σ H _ I hq) fun us s1 ⟨xs, H1, I1, r, z, q⟩ => ⟨by rw [← r.length]; exact z, ?_⟩)
  have hf : H1 s1.heap.objs.size = none := I1.hok.fresh (Nat.le_refl _)
  refine ⟨.ref s1.heap.objs.size, upd H1 s1.heap.objs.size (.lst xs), I1.laid (t' := s1.toks) (fun b u e => Heap.get?_push_of_some _ e) (Nat.le_refl _) ?_, rfl, q _ hf⟩
  exact ⟨z, us, 0, r, Heap.get?_push_size _ rfl⟩
end

/-! ### what a def promises -/
/-- a def's promise: the bound arguments in the parameters' order, the heap, the wanted end, the wanted exception -/
abbrev Sp := List V → Hp → VK → XK → Prop
/-- how an exception lies behind a call (file 08 gives it): the callers' frames, abstract heap and state ahead of the call, the wish, the exception, the state -/
abbrev CXT := List Env → Hp → Shared → XK → Value → Shared → Prop

/-- the state at a call -/
structure Env0 (P : Program) (w : World) (K : PySem.W.Frag) (mg : Str → Option Value) (base : Heap) (A : Around) (outer : List Env) (s : Shared) (H : Hp) : Prop where
  frames : A.frames = some outer
  mod : Mod K mg base
  bs : ∀ b o, base.get? b = some o → s.heap.get? b = some o ∧ H b = none
  bsz : base.objs.size ≤ s.heap.objs.size
  funs : s.heap.FunFrames base outer
  frf : ∀ b ∈ frs outer, H b = none
  hok : HOk P w H s.heap
  bare : AllBare s.gens
/-- a call's end -/
def CE (outer : List Env) (P : Program) (w : World) (H : Hp) (s : Shared) (Q : VK) (u : Value) (s' : Shared) : Prop :=
  ∃ v H', s'.os = s.os ∧ AllBare s'.gens ∧ Un (frs outer) [] H H' s.heap s'.heap ∧ HOk P w H' s'.heap ∧ RelV v u ∧ Q v H'
def CR (CX : CXT) (outer : List Env) (P : Program) (w : World) (H : Hp) (s : Shared) (Q : VK) (E : XK) (r : Result) (s' : Shared) : Prop :=
  match r with
  | .ok (.ret u) => CE outer P w H s Q u s'
  | .ok _ => False
  | .error e => CX outer H s E e s'
structure FnOk (P : Program) (w : World) (K : PySem.W.Frag) (mg : Str → Option Value) (base : Heap) (CX : CXT) (k : Nat) (f : Addr) (fd : FuncData) (ps : List Str) (sp : Sp) : Prop where
  len : ∀ vs H Q E, sp vs H Q E → vs.length = ps.length
  run : ∀ (A : Around) (outer : List Env) (s : Shared) (H : Hp) (args : Args) (us : List Value) (vs : List V) (Q : VK) (E : XK), Room k A → Env0 P w K mg base A outer s H → BindsTo s fd args (ps.zip us) → Vals vs us → sp vs H Q E →
    codeAny (model P w) A (.call (.ref f) args) (CR CX outer P w H s Q E) s
theorem FnOk.mono {P : Program} {w : World} {K : PySem.W.Frag} {mg : Str → Option Value} {base : Heap} {CX : CXT} {j k : Nat} {f : Addr} {fd : FuncData} {ps : List Str} {sp : Sp} (F : FnOk P w K mg base CX j f fd ps sp) (h : j ≤ k) :
    FnOk P w K mg base CX k f fd ps sp := ⟨F.len, fun A outer s H args us vs Q E hr => F.run A outer s H args us vs Q E (hr.mono h)⟩
/-- a weaker promise -/
theorem FnOk.imp {P : Program} {w : World} {K : PySem.W.Frag} {mg : Str → Option Value} {base : Heap} {CX : CXT} {k : Nat} {f : Addr} {fd : FuncData} {ps : List Str} {sp sp' : Sp} (F : FnOk P w K mg base CX k f fd ps sp)
    (h : ∀ vs H Q E, sp' vs H Q E → sp vs H Q E) : FnOk P w K mg base CX k f fd ps sp' :=
  ⟨fun vs H Q E q => F.len vs H Q E (h _ _ _ _ q), fun A outer s H args us vs Q E hr he hb hv hs => F.run A outer s H args us vs Q E hr he hb hv (h _ _ _ _ hs)⟩

theorem Env0.make {P : Program} {w : World} {K : PySem.W.Frag} {mg : Str → Option Value} {base : Heap} {A : Around} {outer : List Env} {s : Shared} {H : Hp} (e : Env0 P w K mg base A outer s H) (C : Addr) (us : List Value) (kw : List (Str × Value)) :
    Env0 P w K mg base (A.under (.builtin "type.__call__" ⟨.ref C :: us, kw⟩)) outer s H := ⟨by first | exact e.frames | (simpa [Around.under, Code.envs, Code.isFrame, pushEnvs] using e.frames), e.mod, e.bs, e.bsz, e.funs, e.frf, e.hok, e.bare⟩
theorem Env0.in1 {P : Program} {w : World} {K : PySem.W.Frag} {mg : Str → Option Value} {base : Heap} {A : Around} {outer : List Env} {s : Shared} {H : Hp} (e : Env0 P w K mg base A outer s H) :
    Env0 P w K mg base A.in1 outer s H := ⟨e.frames, e.mod, e.bs, e.bsz, e.funs, e.frf, e.hok, e.bare⟩

section
variable {X : Cx} {pins : List (Addr × Obj)} {σ : St} {H : Hp} {s s' : Shared}
/-- from a body: what a callee wants -/
theorem Inv.env0 (I : Inv X pins σ H s) : Env0 X.prog X.w X.K X.mg X.base X.A X.stack s H :=
  ⟨I.ok.frames, I.ok.mod, I.bs, Nat.le_trans I.ok.bsz I.sz, I.stack, I.stkFree, I.hok, I.bare⟩
/-- behind a call -/
theorem Inv.after {Q : VK} {u : Value} (I : Inv X pins σ H s) (h : CE X.stack X.prog X.w H s Q u s') : EP X pins σ Q u s' := by
  obtain ⟨v, H', os, bare, un, hok, r, q⟩ := h
  obtain ⟨hh, g, d, t, os'⟩ := s'
  obtain rfl : os' = s.os := os
  exact ⟨v, H', I.call (h' := hh) (g' := g) (d' := d) (t' := t) (ch := []) un hok bare (fun b z => absurd z (by simp)), r, q⟩
end

/-! ### calls -/
/-- f(..): the written arguments, then the defaults dvs; E: what is wanted of an exception -/
def tCall (sp : Sp) (dvs : List V) (E : XK) (t : TA) : TE := fun σ H Q => t σ H fun vs H1 => sp (vs ++ dvs) H1 Q E
/-- o.m(..) of an instance of the class at C -/
def tMeth (C : Addr) (m : Str) (sp : Sp) (dvs : List V) (E : XK) (ta : TE) (t : TA) : TE := fun σ H Q => ta σ H fun x H1 => ∃ a dx fs, x = .ref a ∧ H1 a = some (.ins C dx fs) ∧ fs.lookup m = none ∧
  t σ H1 fun vs H2 => sp (x :: (vs ++ dvs)) H2 Q E
/-- C(..): a new instance and its dict, then __init__ -/
def tMake (C : Addr) (sp : Sp) (dvs : List V) (E : XK) (t : TA) : TE := fun σ H Q => t σ H fun vs H1 => ∀ x dx, H1 x = none → H1 dx = none → dx ≠ x →
  sp (.ref x :: (vs ++ dvs)) (upd (upd H1 dx (.own x)) x (.ins C dx [])) (fun v H2 => v = .non ∧ Q (.ref x) H2) E

/-- how the parameters are bound: us the positional arguments, kw the keywords' values by name, ds the defaults that fill up -/
def Binds (K : PySem.W.Frag) (fd : FuncData) (ps : List Str) (ds : List Value) : Prop :=
  ∀ (s : Shared) (us : List Value), K.In s.heap → (us ++ ds).length = ps.length → BindsTo s fd ⟨us, []⟩ (ps.zip (us ++ ds))
/-- every parameter is given -/
theorem Binds.all {K : PySem.W.Frag} {fd : FuncData} {ps : List Str} (h : ∀ us : List Value, us.length = ps.length → bindArgs fd ⟨us, []⟩ = pure (ps.zip us)) : Binds K fd ps [] := fun s us _ hl => by
  rw [List.append_nil] at hl ⊢
  exact .of_eq (h us hl)

/-- an exception of a callee reaches what this body wants of exceptions -/
def Passes (CX : CXT) (X : Cx) (E : XK) : Prop := ∀ (pins : List (Addr × Obj)) (σ : St) (H : Hp) (s : Shared) (e : Value) (s' : Shared), Inv X pins σ H s → CX X.stack H s E e s' → X.xe e s'

section
variable {X : Cx} {CX : CXT} {k : Nat} {f C : Addr} {fd : FuncData} {ps : List Str} {sp : Sp} {dvs : List V} {ds : List Value} {E : XK} {x m : Str} {p pos apos : Pos} {e o : Expr} {es : List Expr} {ta : TE} {t : TA}

/-- the callee runs -/
theorem run_fn {pins : List (Addr × Obj)} {σ : St} {H : Hp} {s : Shared} {Q : VK} {us : List Value} {vs : List V} (F : FnOk X.prog X.w X.K X.mg X.base CX k f fd ps sp) (hr : Room k X.A) (hb : Binds X.K fd ps ds) (hd : Vals dvs ds) (hx : Passes CX X E)
    (I : Inv X pins σ H s) (r : Vals vs us) (h : sp (vs ++ dvs) H Q E) : wpAny (model X.prog X.w) X.A (call (.ref f) us) (EP X pins σ Q) X.xe s := by
  have r2 : Vals (vs ++ dvs) (us ++ ds) := r.append hd
  have hl : (us ++ ds).length = ps.length := by rw [← r2.length]; exact F.len _ _ _ _ h
  refine wpAny_call (codeAny_mono (F.run X.A X.stack s H ⟨us, []⟩ (us ++ ds) (vs ++ dvs) Q E hr I.env0 (hb s us I.kIn hl) r2 h) fun r s' hq => ?_)
  cases r with
  | error e => exact hx pins σ H s e s' I hq
  | ok fl =>
    cases fl with
    | ret u => exact I.after hq
    | next => exact False.elim hq
    | brk => exact False.elim hq
    | cont => exact False.elim hq

theorem pe_call (F : FnOk X.prog X.w X.K X.mg X.base CX k f fd ps sp) (hr : Room k X.A) (hg : Gl X x) (hm : X.mg x = some (.ref f)) (hk : PySem.W.keepIn X.K (.ref f) = true) (hb : Binds X.K fd ps ds) (hd : Vals dvs ds) (hx : Passes CX X E)
    (ha : PA X (e :: es) t) (hdb : (x == ("__debug__" : Str)) = false := by decide) (he : starEach (e :: es) X.env = (false, eval e X.env) :: starEach es X.env := by rfl) (hpl : (backTo pos (starEach es X.env)).any (·.1) = false := by rfl) :
    PE X (.Call (.Name x p) (e :: es) [] pos) (tCall sp dvs E t) := by
  intro pins s σ H Q I h
  refine wpAny_Call_Name_kw (ld_glob I hg hm ?_ hdb)
  refine PySem.W.callWith_K (h₀ := X.base) I.ok.mod.kin hk (thn (ha pos pins s σ H _ I h) fun us s1 ⟨vs, H1, I1, r, q⟩ => ⟨I1.kIn, ?_⟩) he hpl
  exact run_fn F hr hb hd hx I1 r q
theorem pe_call0 (F : FnOk X.prog X.w X.K X.mg X.base CX k f fd ps sp) (hr : Room k X.A) (hg : Gl X x) (hm : X.mg x = some (.ref f)) (hk : PySem.W.keepIn X.K (.ref f) = true) (hb : Binds X.K fd ps ds) (hd : Vals dvs ds) (hx : Passes CX X E)
    (hdb : (x == ("__debug__" : Str)) = false := by decide) : PE X (.Call (.Name x p) [] [] pos) (tCall sp dvs E tNil) := by
  intro pins s σ H Q I h
  refine wpAny_Call_Name_kw (ld_glob I hg hm ?_ hdb)
  exact PySem.W.callWith_K0 I.kIn hk (run_fn (us := []) F hr hb hd hx I .nil h)

/-- o.m(e, ..) -/
theorem pe_meth {pl : Sem Bool} (he : PE X o ta) (c : Cls X.K C) (hm : Meth X.K C m f) (F : FnOk X.prog X.w X.K X.mg X.base CX k f fd ps sp) (hr : Room k X.A) (hb : Binds X.K fd ps ds) (hd : Vals dvs ds) (hx : Passes CX X E) (ha : PA X (e :: es) t)
    (hst : starEach (e :: es) X.env = (false, eval e X.env) :: starEach es X.env := by rfl) (hpl : (backTo pos (starEach es X.env)).any (·.1) = false := by rfl)
    (ht : eval (.Call (.Attribute o m apos) (e :: es) [] pos) X.env = (do
      let ov ← eval o X.env
      standAt apos.atName
      let (f, first) ← holding [ov] (getMethod ov m pl)
      callWith pos f first (backTo pos (starEach (e :: es) X.env)) (backToKw pos (keywordEach [] X.env))) := by rfl) :
    PE X (.Call (.Attribute o m apos) (e :: es) [] pos) (tMeth C m sp dvs E ta t) := by
  intro pins s σ H Q I h
  refine PySem.W.methodCall_KW (pl := pl) (thn (he pins s σ H _ I h) fun u s1 ⟨x, H1, I1, rx, a, dx, fs, ex, ea, l, q⟩ => ?_) ht
  subst ex
  obtain rfl : u = Value.ref a := rx
  refine getmeth_ok I1 ea c hm l ?_
  refine PySem.W.callWith_K (first := [.ref a]) (h₀ := X.base) I.ok.mod.kin hm.kp (thn (ha pos pins s1 σ H1 _ I1 q) fun us s2 ⟨vs, H2, I2, r, q2⟩ => ⟨I2.kIn, ?_⟩) hst hpl
  exact run_fn (us := .ref a :: us) (vs := .ref a :: vs) F hr hb hd hx I2 (.cons rfl r) q2
/-- o.m() -/
theorem pe_meth0 {pl : Sem Bool} (he : PE X o ta) (c : Cls X.K C) (hm : Meth X.K C m f) (F : FnOk X.prog X.w X.K X.mg X.base CX k f fd ps sp) (hr : Room k X.A) (hb : Binds X.K fd ps ds) (hd : Vals dvs ds) (hx : Passes CX X E)
    (ht : eval (.Call (.Attribute o m apos) [] [] pos) X.env = (do
      let ov ← eval o X.env
      standAt apos.atName
      let (f, first) ← holding [ov] (getMethod ov m pl)
      callWith pos f first (backTo pos (starEach [] X.env)) (backToKw pos (keywordEach [] X.env))) := by rfl) :
    PE X (.Call (.Attribute o m apos) [] [] pos) (tMeth C m sp dvs E ta tNil) := by
  intro pins s σ H Q I h
  refine PySem.W.methodCall_KW (pl := pl) (thn (he pins s σ H _ I h) fun u s1 ⟨x, H1, I1, rx, a, dx, fs, ex, ea, l, q⟩ => ?_) ht
  subst ex
  obtain rfl : u = Value.ref a := rx
  refine getmeth_ok I1 ea c hm l ?_
  exact PySem.W.callWith_K0 (first := [.ref a]) I1.kIn hm.kp (run_fn (us := [.ref a]) (vs := [.ref a]) F hr hb hd hx I1 (.cons rfl .nil) q)

/-- what a class must have to be made -/
structure Mk (K : PySem.W.Frag) (C f : Addr) : Prop where
  makes : PySem.W.makesIn K C = true
  init : PySem.W.findIn K (.ref C) "__init__" = some (some (.ref f))
  fn : PySem.W.isFn K (.ref f) = true
  kp : PySem.W.keepIn K (.ref C) = true

theorem run_make {pins : List (Addr × Obj)} {σ : St} {H : Hp} {s : Shared} {Q : VK} {us : List Value} {vs : List V} (M : Mk X.K C f) (F : FnOk X.prog X.w X.K X.mg X.base CX k f fd ps sp) (hr : Room (k + 1) X.A) (hb : Binds X.K fd ps ds) (hd : Vals dvs ds)
    (hx : Passes CX X E) (I : Inv X pins σ H s) (r : Vals vs us)
    (h : ∀ x dx, H x = none → H dx = none → dx ≠ x → sp (.ref x :: (vs ++ dvs)) (upd (upd H dx (.own x)) x (.ins C dx [])) (fun v H2 => v = .non ∧ Q (.ref x) H2) E) :
    wpAny (model X.prog X.w) X.A (call (.ref C) us) (EP X pins σ Q) X.xe s := by
  have hq := h (s.heap.objs.size + 1) s.heap.objs.size (I.hok.fresh (Nat.le_succ _)) (I.hok.fresh (Nat.le_refl _)) (Nat.ne_of_lt (Nat.lt_succ_self _))
  have I2 := Inv.made (C := C) I
  have r2 : Vals (V.ref (s.heap.objs.size + 1) :: (vs ++ dvs)) (Value.ref (s.heap.objs.size + 1) :: (us ++ ds)) := .cons rfl (r.append hd)
  have hl : (Value.ref (s.heap.objs.size + 1) :: us ++ ds).length = ps.length := by
    have e := r2.length
    rw [F.len _ _ _ _ hq] at e
    exact e.symm
  refine wpAny_call (make_map (f := f) I.kIn M.makes M.init (beq_iff_eq.mp M.fn) (codeAny_mono (F.run _ X.stack _ _ ⟨Value.ref (s.heap.objs.size + 1) :: us, []⟩ (Value.ref (s.heap.objs.size + 1) :: (us ++ ds)) _ _ E (hr.make C us [])
    (I2.env0.make C us []) (hb _ (Value.ref (s.heap.objs.size + 1) :: us) I2.kIn hl) r2 hq) fun r s' hq' => ?_))
  cases r with
  | error e => exact hx pins σ _ _ e s' I2 hq'
  | ok fl =>
    cases fl with
    | ret u =>
      obtain ⟨v, H', I3, rv, ev, q3⟩ := I2.after hq'
      subst ev
      exact ⟨rv, ⟨V.ref (s.heap.objs.size + 1), H', I3, rfl, q3⟩⟩
    | next => exact False.elim hq'
    | brk => exact False.elim hq'
    | cont => exact False.elim hq'
theorem pe_make (M : Mk X.K C f) (F : FnOk X.prog X.w X.K X.mg X.base CX k f fd ps sp) (hr : Room (k + 1) X.A) (hg : Gl X x) (hm : X.mg x = some (.ref C)) (hb : Binds X.K fd ps ds) (hd : Vals dvs ds) (hx : Passes CX X E)
    (ha : PA X (e :: es) t) (hdb : (x == ("__debug__" : Str)) = false := by decide) (he : starEach (e :: es) X.env = (false, eval e X.env) :: starEach es X.env := by rfl) (hpl : (backTo pos (starEach es X.env)).any (·.1) = false := by rfl) :
    PE X (.Call (.Name x p) (e :: es) [] pos) (tMake C sp dvs E t) := by
  intro pins s σ H Q I h
  refine wpAny_Call_Name_kw (ld_glob I hg hm ?_ hdb)
  refine PySem.W.callWith_K (h₀ := X.base) I.ok.mod.kin M.kp (thn (ha pos pins s σ H _ I h) fun us s1 ⟨vs, H1, I1, r, q⟩ => ⟨I1.kIn, ?_⟩) he hpl
  exact run_make M F hr hb hd hx I1 r q
theorem pe_make0 (M : Mk X.K C f) (F : FnOk X.prog X.w X.K X.mg X.base CX k f fd ps sp) (hr : Room (k + 1) X.A) (hg : Gl X x) (hm : X.mg x = some (.ref C)) (hb : Binds X.K fd ps ds) (hd : Vals dvs ds) (hx : Passes CX X E)
    (hdb : (x == ("__debug__" : Str)) = false := by decide) : PE X (.Call (.Name x p) [] [] pos) (tMake C sp dvs E tNil) := by
  intro pins s σ H Q I h
  refine wpAny_Call_Name_kw (ld_glob I hg hm ?_ hdb)
  exact PySem.W.callWith_K0 I.kIn M.kp (run_make (us := []) M F hr hb hd hx I .nil h)
end

/-! ### keywords -/
/-- the values of the keywords, from the left -/
def PK (X : Cx) (kws : List Keyword) (t : TA) : Prop :=
  ∀ (pos : Pos) (pins : List (Addr × Obj)) (s : Shared) (σ : St) (H : Hp) (Q : List V → Hp → Prop), Inv X pins σ H s → t σ H Q → wpAny (model X.prog X.w) X.A (evalAll ((backToKw pos (keywordEach kws X.env)).map (·.2))) (AP X pins σ Q) X.xe s
section
variable {X : Cx} {CX : CXT} {k : Nat} {f C : Addr} {fd : FuncData} {ps ks : List Str} {sp : Sp} {E : XK} {x m : Str} {p pos apos kpos : Pos} {e o : Expr} {es : List Expr} {kws : List Keyword} {te ta : TE} {t tk : TA} {nm : Option Str}
theorem pk_nil : PK X [] tNil := fun _ _ _ _ H Q I h => wpAny_evalAll_nil ⟨[], H, I, .nil, h⟩
theorem pk_cons (ha : PE X e te) (hr : PK X kws t) : PK X (⟨nm, e, kpos⟩ :: kws) (tCons te t) := by
  intro pos pins s σ H Q I h
  show wpAny _ _ (evalAll ((do let v ← eval e X.env; standAt pos; pure v) :: (backToKw pos (keywordEach kws X.env)).map (·.2))) _ _ s
  refine wpAny_evalAll_cons (wpAny_bind (thn (ha pins s σ H _ I h) fun u s1 ⟨x, H1, I1, r1, q1⟩ => wpAny_bind (wpAny_standAt (wpAny_pure ?_))))
  exact thn (hr pos pins s1 σ H1 _ I1 q1) fun us s2 ⟨xs, H2, I2, r2, q2⟩ => ⟨x :: xs, H2, I2, .cons r1 r2, q2⟩

/-- how a call with keywords binds: g puts the positional values us and the keywords' values ws (names ks) in the parameters' order, defaults among them -/
structure KBinds (K : PySem.W.Frag) (fd : FuncData) (ps ks : List Str) (g : List Value → List Value → List Value) (gV : List V → List V → List V) : Prop where
  to : ∀ (s : Shared) (us ws : List Value), K.In s.heap → (g us ws).length = ps.length → BindsTo s fd ⟨us, ks.zip ws⟩ (ps.zip (g us ws))
  rel : ∀ {vs : List V} {us : List Value} {zs : List V} {ws : List Value}, Vals vs us → Vals zs ws → Vals (gV vs zs) (g us ws)
def tCallK (sp : Sp) (gV : List V → List V → List V) (E : XK) (t tk : TA) : TE := fun σ H Q => t σ H fun vs H1 => tk σ H1 fun zs H2 => sp (gV vs zs) H2 Q E
variable {g : List Value → List Value → List Value} {gV : List V → List V → List V}
theorem run_fnk {pins : List (Addr × Obj)} {σ : St} {H : Hp} {s : Shared} {Q : VK} {us ws : List Value} {vs zs : List V} (F : FnOk X.prog X.w X.K X.mg X.base CX k f fd ps sp) (hr : Room k X.A) (hb : KBinds X.K fd ps ks g gV) (hx : Passes CX X E)
    (I : Inv X pins σ H s) (r : Vals vs us) (rz : Vals zs ws) (h : sp (gV vs zs) H Q E) : wpAny (model X.prog X.w) X.A (call (.ref f) us (ks.zip ws)) (EP X pins σ Q) X.xe s := by
  have r2 := hb.rel r rz
  have hl : (g us ws).length = ps.length := by rw [← r2.length]; exact F.len _ _ _ _ h
  refine wpAny_call (codeAny_mono (F.run X.A X.stack s H ⟨us, ks.zip ws⟩ (g us ws) (gV vs zs) Q E hr I.env0 (hb.to s us ws I.kIn hl) r2 h) fun r s' hq => ?_)
  cases r with
  | error e => exact hx pins σ H s e s' I hq
  | ok fl =>
    cases fl with
    | ret u => exact I.after hq
    | next => exact False.elim hq
    | brk => exact False.elim hq
    | cont => exact False.elim hq
/-- f(e, .., k = v, ..) -/
theorem pe_callK (F : FnOk X.prog X.w X.K X.mg X.base CX k f fd ps sp) (hr : Room k X.A) (hg : Gl X x) (hm : X.mg x = some (.ref f)) (hk : PySem.W.keepIn X.K (.ref f) = true) (hb : KBinds X.K fd ps ks g gV) (hx : Passes CX X E)
    (ha : PA X (e :: es) t) (hkw : PK X kws tk) (hall : (backToKw pos (keywordEach kws X.env)).all (·.1.isSome) = true := by rfl) (hks : (backToKw pos (keywordEach kws X.env)).filterMap (·.1) = ks := by rfl)
    (hdb : (x == ("__debug__" : Str)) = false := by decide) (he : starEach (e :: es) X.env = (false, eval e X.env) :: starEach es X.env := by rfl)
    (hpl : ((backTo pos (starEach (e :: es) X.env)).any (·.1) || (backToKw pos (keywordEach kws X.env)).any (·.1.isNone)) = false := by rfl) :
    PE X (.Call (.Name x p) (e :: es) kws pos) (tCallK sp gV E t tk) := by
  intro pins s σ H Q I h
  refine wpAny_Call_Name_kw (ld_glob I hg hm ?_ hdb)
  refine PySem.W.callWith_KW (h₀ := X.base) I.ok.mod.kin hk hall (thn (ha pos pins s σ H _ I h) fun us s1 ⟨vs, H1, I1, r, q⟩ => ?_) hpl he
  refine thn (hkw pos pins s1 σ H1 _ I1 q) fun ws s2 ⟨zs, H2, I2, rz, q2⟩ => ⟨I2.kIn, ?_⟩
  rw [hks]
  exact run_fnk F hr hb hx I2 r rz q2
end

/-! ### a def's body keeps its promise -/
/-- names: the parameters first -/
structure FnScope (N P : List Str) (sc : Scope) : Prop where
  kind : sc.kind = .function
  co : sc.isCoroutine = false
  gen : sc.isGenerator = false
  nd : N.Nodup
  pre : N.take P.length = P
  par : ∀ x ∈ P, sc.names.lookup x = some .local ∨ sc.names.lookup x = some .cell
  nofree : ∀ y ∈ sc.names, y.2 ≠ .free

theorem bindL_out {kindOf : Str → Option NameKind} {x : Str} : ∀ {binds : List (Str × Value)} {m : Str → Option Value}, (∀ v, (x, v) ∉ binds) → bindL kindOf binds m x = m x
  | [], _, _ => rfl
  | (n, v) :: r, m, h => by
    unfold bindL
    rw [bindL_out fun w hw => h w (List.mem_cons_of_mem _ hw)]
    split
    · have : x ≠ n := by rintro rfl; exact h v List.mem_cons_self
      simp [this]
    · rfl
theorem bindC_out {kindOf : Str → Option NameKind} {x : Str} : ∀ {binds : List (Str × Value)} {m : Str → Option Value}, (∀ v, (x, v) ∉ binds) → bindC kindOf binds m x = m x
  | [], _, _ => rfl
  | (n, v) :: r, m, h => by
    unfold bindC
    rw [bindC_out fun w hw => h w (List.mem_cons_of_mem _ hw)]
    split
    · rfl
    · have : x ≠ n := by rintro rfl; exact h v List.mem_cons_self
      simp [this]
theorem bindL_get {kindOf : Str → Option NameKind} {x : Str} {v : Value} : ∀ {P : List Str} {vs : List Value} {i : Nat} {m : Str → Option Value}, P.Nodup → P[i]? = some x → vs[i]? = some v → kindOf x = some .local →
    bindL kindOf (P.zip vs) m x = some v
  | [], _, _, _, _, h, _, _ => by simp at h
  | _ :: _, [], _, _, _, _, h, _ => by simp at h
  | p :: P, w :: vs, 0, m, nd, h1, h2, hk => by
    simp at h1 h2; subst h1; subst h2
    show bindL kindOf ((p, w) :: P.zip vs) m p = _
    unfold bindL
    rw [bindL_out fun v hv => (List.nodup_cons.mp nd).1 (List.of_mem_zip hv).1, if_pos hk]
    simp
  | p :: P, w :: vs, i + 1, m, nd, h1, h2, hk => by
    show bindL kindOf ((p, w) :: P.zip vs) m x = _
    unfold bindL
    exact bindL_get (i := i) (List.nodup_cons.mp nd).2 (by simpa using h1) (by simpa using h2) hk
theorem bindC_get {kindOf : Str → Option NameKind} {x : Str} {v : Value} : ∀ {P : List Str} {vs : List Value} {i : Nat} {m : Str → Option Value}, P.Nodup → P[i]? = some x → vs[i]? = some v → kindOf x ≠ some .local →
    bindC kindOf (P.zip vs) m x = some v
  | [], _, _, _, _, h, _, _ => by simp at h
  | _ :: _, [], _, _, _, _, h, _ => by simp at h
  | p :: P, w :: vs, 0, m, nd, h1, h2, hk => by
    simp at h1 h2; subst h1; subst h2
    show bindC kindOf ((p, w) :: P.zip vs) m p = _
    unfold bindC
    rw [bindC_out fun v hv => (List.nodup_cons.mp nd).1 (List.of_mem_zip hv).1, if_neg hk]
    simp
  | p :: P, w :: vs, i + 1, m, nd, h1, h2, hk => by
    show bindC kindOf ((p, w) :: P.zip vs) m x = _
    unfold bindC
    exact bindC_get (i := i) (List.nodup_cons.mp nd).2 (by simpa using h1) (by simpa using h2) hk

/-- the names' values at the entry -/
def start (N : List Str) (vs : List V) : St := vs.map some ++ List.replicate (N.length - vs.length) none

/-- the context of a def's body, at its entry; an exception leaves the frame, then lies as CX says -/
def cxOf (CX : CXT) (P : Program) (w : World) (K : PySem.W.Frag) (mg : Str → Option Value) (base : Heap) (N : List Str) (qual : Str) (scope : Scope) (f : Addr) (cd : Value) (A : Around) (outer : List Env) (s : Shared) (H : Hp) (E : XK) : Cx where
  prog := P
  w := w
  K := K
  mg := mg
  base := base
  A := A.deeper (envOfC qual scope s.heap.objs.size f cd)
  N := N
  s₀ := s
  H₀ := H
  env := envOfC qual scope s.heap.objs.size f cd
  outer := outer
  stack := envOfC qual scope s.heap.objs.size f cd :: outer
  ex := []
  calm := true
  fn := fun _ => true
  pn := []
  xe := fun e s' => wpAny (model P w) (A.deeper (envOfC qual scope s.heap.objs.size f cd)) (leaving (envOfC qual scope s.heap.objs.size f cd) e) (fun _ s'' => CX outer H s E e s'') (fun e' s'' => CX outer H s E e' s'') s'

theorem cell_has {sc : Scope} {n : Nat} {x : Str} (h : sc.names.lookup x = some .cell) : ∃ c, (cellsFrom n sc.names []).lookup x = some c := by
  have q := PySem.W.cellsFrom_some sc.names n [] (.inl h)
  exact Option.isSome_iff_exists.mp q

theorem inv_start {CX : CXT} {P : Program} {w : World} {K : PySem.W.Frag} {mg : Str → Option Value} {base : Heap} {N ps : List Str} {qual : Str} {scope : Scope} {f : Addr} {cd : Value} {A : Around} {outer : List Env} {s s1 : Shared} {H : Hp} {E : XK} {us : List Value} {vs : List V}
    (S : FnScope N ps scope) (hd : A.handled = none) (e0 : Env0 P w K mg base A outer s H) (hl : vs.length = ps.length) (r : Vals vs us)
    (x : InCallC s s.heap.objs.size (bindL (envOfC qual scope s.heap.objs.size f cd).kindOf (ps.zip us) fun _ => none) (cellsFrom (s.heap.objs.size + 1) scope.names []) (bindC (envOfC qual scope s.heap.objs.size f cd).kindOf (ps.zip us) fun _ => none) s1) :
    Inv (cxOf CX P w K mg base N qual scope f cd A outer s H E) [] (start N vs) H s1 := by
  have hpl : ps.length ≤ N.length := by have := congrArg List.length S.pre; rw [List.length_take] at this; omega
  obtain ⟨h1, tk, rfl, hk⟩ := x.done
  have noA : ∀ b : Addr, b ∉ (cxOf CX P w K mg base N qual scope f cd A outer s H E).ex := fun b z => absurd (show b ∈ ([] : List Addr) from z) (by simp)
  refine ⟨⟨e0.mod, S.kind, rfl, rfl, Nat.le_refl _, fun y z c h1 h2 => ?_, fun y hy => ?_, fun y c _ h => ?_, fun _ => hd, Around.frames_deeper e0.frames, .inr ⟨rfl, rfl⟩, fun b z => absurd z (noA b), e0.bs, e0.bsz, fun b _ _ => noA b, fun b z => absurd z (noA b), e0.funs, e0.frf⟩,
    rfl, e0.bare, Un.kept hk, ⟨_, x.toInCall.ns, fun i y v h1 h2 h3 => ?_⟩, fun y c h => ⟨_, x.cell y c h⟩, e0.hok.fresh (Nat.le_refl _), fun y c h => ?_, fun p hp => absurd (show p ∈ ([] : List (Addr × Obj)) from hp) (by simp), e0.hok.kept hk, ?_⟩
  · exact name_of_addr x.apart (PySem.mem_of_lookup h1) (PySem.mem_of_lookup h2)
  · have hy : scope.names.lookup y = some .cell ∨ scope.names.lookup y = some .free := hy
    rcases hy with hy | hy
    · exact cell_has hy
    · exact absurd rfl (S.nofree _ (PySem.mem_of_lookup hy))
  · exact Nat.le_of_lt (x.above y c (PySem.mem_of_lookup h))
  · have hi : i < vs.length := by
      unfold start at h2
      by_cases hi : i < vs.length
      · exact hi
      · rw [List.getElem?_append_right (by simpa using hi)] at h2
        rw [List.getElem?_replicate] at h2
        split at h2 <;> cases h2
    have ha : vs[i]? = some v := by
      unfold start at h2
      rw [List.getElem?_append_left (by simpa using hi), List.getElem?_map] at h2
      cases e : vs[i]? with
      | none => rw [e] at h2; cases h2
      | some a => rw [e] at h2; cases h2; rfl
    obtain ⟨u, hu, rv⟩ := r.get ha
    have hp : ps[i]? = some y := by
      rw [← S.pre, List.getElem?_take_of_lt (by omega)]; exact h1
    have ndP : ps.Nodup := by rw [← S.pre]; exact S.nd.sublist (List.take_sublist _ _)
    refine ⟨u, rv, ?_⟩
    rcases S.par y (List.mem_of_getElem? hp) with k | k
    · exact .inl ⟨k, bindL_get ndP hp hu k⟩
    · obtain ⟨c, e⟩ := cell_has (n := s.heap.objs.size + 1) k
      refine .inr ⟨.inl k, c, e, ?_⟩
      have q := x.cell y c e
      rw [bindC_get ndP hp hu (by show scope.names.lookup y ≠ _; rw [k]; decide)] at q
      exact q
  · exact e0.hok.fresh (Nat.le_of_lt (x.above y c (PySem.mem_of_lookup h)))
  · unfold start
    show _ = N.length
    rw [List.length_append, List.length_map, List.length_replicate]
    omega

/-- THE RULE: a def (or a method) of the text, by its body. The body's reading t is chosen for each entry; it is run at the parameters' values -/
theorem fn_of {CX : CXT} {P : Program} {w : World} {K : PySem.W.Frag} {mg : Str → Option Value} {base : Heap} {k : Nat} {f : Addr} {name qual : Str} {params : Arguments} {body : List Stmt} {scope : Scope} {dV kV doc pm cdv ct oc : Value} {an od : Option Addr}
    {osl : Array (Option Value)} {N ps : List Str} {sp : Sp} (lk : K.lookup f = some ⟨oc, od, .func (PySem.W.fnOf name qual params body scope dV kV doc pm an cdv ct), osl⟩) (hcd : PySem.W.codeIn K cdv qual = true) (S : FnScope N ps scope)
    (len : ∀ vs H Q E, sp vs H Q E → vs.length = ps.length)
    (hbody : ∀ (A : Around) (outer : List Env) (s : Shared) (H : Hp) (vs : List V) (Q : VK) (E : XK), Room k (A.deeper (envOfC qual scope s.heap.objs.size f cdv)) → sp vs H Q E →
      ∃ t, PSs (cxOf CX P w K mg base N qual scope f cdv A outer s H E) body t ∧ t { nx := fun _ H' => Q .non H', rt := Q } (start N vs) H) :
    FnOk P w K mg base CX (k + 1) f (PySem.W.fnOf name qual params body scope dV kV doc pm an cdv ct) ps sp := by
  refine ⟨len, fun A outer s H args us vs Q E hr e0 hb r hsp => ?_⟩
  have hl := len _ _ _ _ hsp
  have KX : K.In s.heap := e0.mod.kin.keeps fun b o e => (e0.bs b o e).1
  have lim : s.heap.NoLimit := e0.mod.nolimit.keeps fun b o e => (e0.bs b o e).1
  have hkind : ∀ y ∈ ps.zip us, scope.names.lookup y.1 = some .local ∨ (scope.names.lookup y.1 = some .cell ∧ ((cellsFrom (s.heap.objs.size + 1) scope.names []).lookup y.1).isSome = true) := fun ⟨n, v⟩ hy => by
    rcases S.par n (List.of_mem_zip hy).1 with q | q
    · exact .inl q
    · exact .inr ⟨q, PySem.W.cellsFrom_some _ _ _ (.inl q)⟩
  refine codeAny_call_function hr.depth (KX _ _ lk) rfl S.co S.gen rfl (PySem.W.codeRec_of KX hcd) (hb _ _ _ _ ?_)
  refine wpAny_newFunctionEnv_cells S.kind hkind fun env he s1 x => ?_
  subst he
  refine ⟨lim.keeps x.toInCall.keep, codeAny_func ?_⟩
  obtain ⟨t, ht, hq⟩ := hbody A outer s H vs Q E (hr.deeper _) hsp
  have I : Inv (cxOf CX P w K mg base N qual scope f cdv A outer s H E) [] (start N vs) H s1 := inv_start S hr.hd e0 hl r x
  refine wpAny_mono (ht [] s1 (start N vs) H _ I hq) (fun fl s' hs => ?_) fun e s' hs => hs
  have fin : ∀ {σ' : St} {H' : Hp} {v : V} {u : Value}, Inv (cxOf CX P w K mg base N qual scope f cdv A outer s H E) [] σ' H' s' → RelV v u → Q v H' → CE outer P w H s Q u s' :=
    fun {σ' H' v u} J rv q => ⟨v, H', J.os, J.bare, J.base, J.hok, rv, q⟩
  cases fl with
  | ret u =>
    obtain ⟨v, σ', H', J, rv, q⟩ := hs
    exact fin J rv q
  | next =>
    obtain ⟨σ', H', J, q⟩ := hs
    exact fin (v := V.non) (u := Value.none) J rfl q
  | brk =>
    obtain ⟨_, _, _, q⟩ := hs
    exact False.elim q
  | cont =>
    obtain ⟨_, _, _, q⟩ := hs
    exact False.elim q
end L2

namespace L2
open PySem PySem.Spec PyProof.Rows
section
variable {X : Cx} {x : Str} {p pos : Pos} {e : Expr} {es : List Expr} {t : TA} {id T : String} {r : List V → Hp → VK → Prop}

def tCB (r : List V → Hp → VK → Prop) (t : TA) : TE := fun σ H Q => t σ H fun vs H1 => r vs H1 Q
/-- f(e, ..), f a built-in function -/
theorem pe_callB (hc : CallR X (.builtin id) r) (hg : Gl X x) (hm : X.mg x = none) (hv : bootBuiltins x = some (.builtin id)) (ha : PA X (e :: es) t) (hn : x ≠ "__name__" := by decide) (hdb : (x == ("__debug__" : Str)) = false := by decide)
    (he : starEach (e :: es) X.env = (false, eval e X.env) :: starEach es X.env := by rfl) (hpl : (backTo pos (starEach es X.env)).any (·.1) = false := by rfl) : PE X (.Call (.Name x p) (e :: es) [] pos) (tCB r t) := by
  intro pins s σ H Q I h
  refine wpAny_Call_Name_kw (ld_blt I hg hm hv ?_ hn hdb)
  exact PyProof.Rows.callWith_builtin1 (thn (ha pos pins s σ H _ I h) fun us s1 ⟨vs, H1, I1, r1, q1⟩ => hc pins s1 σ H1 vs us Q I1 r1 q1) he hpl
/-- T(e, ..), T a built-in type -/
theorem pe_callTy (hc : CallR X (.type T) r) (hg : Gl X x) (hm : X.mg x = none) (hv : bootBuiltins x = some (.type T)) (ha : PA X (e :: es) t) (hn : x ≠ "__name__" := by decide) (hdb : (x == ("__debug__" : Str)) = false := by decide)
    (he : starEach (e :: es) X.env = (false, eval e X.env) :: starEach es X.env := by rfl) (hpl : (backTo pos (starEach es X.env)).any (·.1) = false := by rfl) : PE X (.Call (.Name x p) (e :: es) [] pos) (tCB r t) := by
  intro pins s σ H Q I h
  refine wpAny_Call_Name_kw (ld_blt I hg hm hv ?_ hn hdb)
  exact PyProof.Rows.callWith_type1 (thn (ha pos pins s σ H _ I h) fun us s1 ⟨vs, H1, I1, r1, q1⟩ => hc pins s1 σ H1 vs us Q I1 r1 q1) he hpl
/-- T() -/
theorem pe_callTy0 (hc : CallR X (.type T) r) (hg : Gl X x) (hm : X.mg x = none) (hv : bootBuiltins x = some (.type T)) (hn : x ≠ "__name__" := by decide) (hdb : (x == ("__debug__" : Str)) = false := by decide) :
    PE X (.Call (.Name x p) [] [] pos) (tCB r tNil) := by
  intro pins s σ H Q I h
  refine wpAny_Call_Name_kw (ld_blt I hg hm hv ?_ hn hdb)
  exact PyProof.Rows.callWith_type0 (hc pins s σ H [] [] Q I .nil h)
end
end L2

namespace HT
open PySem PyProof.Rows

/-- t < u of tuples of ints -/
def lexLt : List Int → List Int → Bool
  | [], [] => false
  | [], _ :: _ => true
  | _ :: _, [] => false
  | x :: xs, y :: ys => if x = y then lexLt xs ys else decide (x < y)
theorem lexLt_cons (x y : Int) (xs ys : List Int) : lexLt (x :: xs) (y :: ys) = if x = y then lexLt xs ys else decide (x < y) := rfl
theorem lexLt_nil_nil : lexLt [] [] = false := rfl
theorem lexLt_nil_cons (y : Int) (ys : List Int) : lexLt [] (y :: ys) = true := rfl
theorem lexLt_cons_nil (x : Int) (xs : List Int) : lexLt (x :: xs) [] = false := rfl

theorem eqAt_int (A : Around) (s : Shared) (a : Int) (t : Tok) (c : Int) (u : Tok) : ∃ e, SeqAt.EqAt A s (.int a t) (.int c u) e ∧ (e = true ↔ a = c) :=
  ⟨(a == c), SeqAt.EqAt.int_int a t c u, by simp⟩
theorem rcLt_int (A : Around) (s : Shared) (a : Int) (t : Tok) (c : Int) (u : Tok) (prog : Program) (w : World) (E : Value → Shared → Prop) (Q : Value → Shared → Prop) (h : Q (.bool (decide (a < c))) s) :
    wpAny (model prog w) A (richCompare .Lt (.int a t) (.int c u)) Q E s :=
  (PyProof.Rows.lt_int h : wpAny (model prog w) A (compareOp .Lt (.int a t) (.int c u)) Q E s)

section
open PySem.SeqAt
open PySem.AutoSeq1 (wpAny_loadPart')
open PySem.MeetsSeq PySem.MeetsSeq2 PySem.MeetsSeq3

theorem tuple_lt_ints (l b : Addr) (items items2 : Array Value) (n n2 : Nat) (dd dd2 : Option Addr) (sl sl2 : Array (Option Value)) (ns ms : List Int) (hi : IntsAre items.toList ns) (hj : IntsAre items2.toList ms) :
    Meets (Builtin.«tuple.__lt__» ⟨[.ref l, .ref b], []⟩)
      (fun _ R s => s.heap.get? l = some { cls := .type "tuple", dict := dd, data := .seq items n, slots := sl } ∧ s.heap.get? b = some { cls := .type "tuple", dict := dd2, data := .seq items2 n2, slots := sl2 } ∧
        R (.ok (.ret (.bool (lexLt ns ms)))) s) :=
  .of_wp fun prog w A R s h => by
    obtain ⟨hp, g, d, tk, os⟩ := s; obtain ⟨hl, hb, h⟩ := h
    have f2 := AutoSeq1.sub_tuple_tuple
    have z1 : items.size = ns.length := by rw [← hi.length]; simp
    have z2 : items2.size = ms.length := by rw [← hj.length]; simp
    wp_walk using wpAny_loadPart' hl, wpAny_loadPart' hb, wpAny_forIn_list _ (fun rest b s' => b.1 = none ∧ s' = ⟨hp, g, d, tk, os⟩ ∧ ∃ (vs ws : List Value) (ns' ms' : List Int), rest = vs.zip ws ∧
      IntsAre vs ns' ∧ IntsAre ws ms' ∧ ns'.length + items2.size = ms'.length + items.size ∧ R (.ok (.ret (.bool (lexLt ns' ms')))) ⟨hp, g, d, tk, os⟩) _
    case turn =>
      rintro ⟨y, x⟩ rest b s' ⟨hb', rfl, vs, ws, ns', ms', hz, hvi, hwi, hlen, hR⟩
      cases hvi with
      | nil => rw [List.zip_nil_left] at hz; cases hz
      | cons a t hvi' =>
        cases hwi with
        | nil => rw [List.zip_nil_right] at hz; cases hz
        | cons c u hwi' =>
          rw [List.zip_cons_cons] at hz
          injection hz with hyx hrest
          injection hyx with hy hx
          subst hy hx
          rw [lexLt_cons] at hR
          simp only [List.length_cons] at hlen
          obtain ⟨e, he, hiff⟩ := eqAt_int A.in1 ⟨hp, g, d, tk, os⟩ a t c u
          refine wpAny_bind (he prog w _ _ ?_)
          cases e with
          | true =>
            rw [if_pos (hiff.mp rfl)] at hR
            wp_walk
            exact ⟨rfl, rfl, _, _, _, _, hrest, hvi', hwi', by omega, hR⟩
          | false =>
            rw [if_neg (fun q => absurd (hiff.mpr q) Bool.false_ne_true)] at hR
            have hri := rcLt_int A.in1 ⟨hp, g, d, tk, os⟩ a t c u prog w
            wp_walk using hri
            exact ⟨_, rfl, by simpa using hR⟩
    case fin =>
      rintro ⟨b1, b2⟩ s' ⟨hb', rfl, vs, ws, ns', ms', hz, hvi, hwi, hlen, hR⟩
      simp only at hb'
      subst hb'
      have hv : lexLt ns' ms' = decide (items.size < items2.size) := by
        cases hvi with
        | nil =>
          cases hwi with
          | nil =>
            simp only [List.length_nil] at hlen
            rw [lexLt_nil_nil]
            exact (decide_eq_false (by omega)).symm
          | cons c u hw =>
            simp only [List.length_nil, List.length_cons] at hlen
            rw [lexLt_nil_cons]
            exact (decide_eq_true (by omega)).symm
        | cons a t hv =>
          cases hwi with
          | nil =>
            simp only [List.length_nil, List.length_cons] at hlen
            rw [lexLt_cons_nil]
            exact (decide_eq_false (by omega)).symm
          | cons c u hw =>
            rw [List.zip_cons_cons] at hz
            cases hz
      rw [hv] at hR
      wp_walk
      exact ⟨_, rfl, by simpa [Builtin.Tuple.tupleCompareSizes] using hR⟩
    case h =>
      exact ⟨rfl, rfl, items.toList, items2.toList, ns, ms, rfl, hi, hj, by omega, h⟩
end

section
variable {prog : Program} {w : World} {A : Around} {E : Value → Shared → Prop} {s : Shared}

theorem lt_tupInts {l b : Addr} {items items2 : Array Value} {ns ms : List Int} {Q : Value → Shared → Prop} (hl : IsTup s.heap l items) (hb : IsTup s.heap b items2) (hi : IntsAre items.toList ns) (hj : IntsAre items2.toList ms)
    (hu : A.units < cLine) (h : Q (.bool (lexLt ns ms)) s) : wpAny (model prog w) A (compareOp .Lt (.ref l) (.ref b)) Q E s := by
  obtain ⟨⟨cls, dd, data, sl⟩, ho, hc, n, hd⟩ := id hl
  obtain ⟨⟨cls2, dd2, data2, sl2⟩, ho2, hc2, n2, hd2⟩ := id hb
  simp only at hc hd hc2 hd2
  subst hc hd hc2 hd2
  exact richCompare_meets_room (op := .Lt) ⟨_, ho, rfl⟩ ⟨_, ho2, rfl⟩ PySem.F.slot_tuple_lt PySem.F.entry_tuple_lt (PySem.F.args_tuple_lt_2 _ _) (tuple_lt_ints l b items items2 n n2 dd dd2 sl sl2 ns ms hi hj)
    ⟨ho, ho2, show Value.bool (lexLt ns ms) ≠ Value.notImplemented ∧ Q (.bool (lexLt ns ms)) s from ⟨(fun x => nomatch x), h⟩⟩ hu

/-- t + u, t not empty -/
theorem cat_tup {t b : Addr} {vs ws : List Value} {Q : Value → Shared → Prop} (ht : IsTup s.heap t vs.toArray) (hb : IsTup s.heap b ws.toArray) (hv : vs ≠ [])
    (h1 : ws = [] → Q (.ref t) s) (h2 : ws ≠ [] → Q (.ref s.heap.objs.size) { s with heap := s.heap.push { cls := .type "tuple", data := .seq (vs ++ ws).toArray } })
    (hsz : vs.length + ws.length ≤ sizeLine) : wpAny (model prog w) A (binaryOp .Add (.ref t) (.ref b)) Q E s := by
  obtain ⟨⟨cls, dd, data, sl⟩, ho, hc, n, hd⟩ := id ht
  obtain ⟨⟨cls2, dd2, data2, sl2⟩, ho2, hc2, n2, hd2⟩ := id hb
  simp only at hc hd hc2 hd2
  subst hc hd hc2 hd2
  have e : vs.toArray ++ ws.toArray = (vs ++ ws).toArray := by simp
  by_cases hw : ws = []
  · exact concat_meets ⟨_, ho, rfl⟩ ⟨_, ho2, rfl⟩ noFill_tuple_add seq_tuple_add PySem.F.slot_tuple_add PySem.F.entry_tuple_add (PySem.F.args_tuple_add_2 _ _)
      (tuple_addW1 t b vs.toArray ws.toArray n n2 dd dd2 sl sl2 (by simpa using hv) (by simp [hw])) ⟨ho, ho2, h1 hw⟩
  · refine concat_meets ⟨_, ho, rfl⟩ ⟨_, ho2, rfl⟩ noFill_tuple_add seq_tuple_add PySem.F.slot_tuple_add PySem.F.entry_tuple_add (PySem.F.args_tuple_add_2 _ _)
      (tuple_addW2 t b vs.toArray ws.toArray n n2 dd dd2 sl sl2 (by simpa using hv) (by simpa using hw) (by rw [List.size_toArray, List.size_toArray]; exact hsz)) ⟨ho, ho2, ?_⟩
    rw [e]
    exact h2 hw

/-! ### t[a:b], not the whole -/
/-- a slice's bound as a place among n (d where it is left out) -/
def sIx (n d : Nat) : Option Int → Nat
  | none => d
  | some v => if v < 0 then (v + (n : Int)).toNat else min v.toNat n
theorem sIx_none (n d : Nat) : sIx n d none = d := rfl
theorem sIx_nat (n d k : Nat) : sIx n d (some (k : Int)) = min k n := by
  show (if (k : Int) < 0 then ((k : Int) + (n : Int)).toNat else min (k : Int).toNat n) = min k n
  rw [if_neg (by omega), Int.toNat_natCast]
theorem sIx_le (n d : Nat) (hd : d ≤ n) (o : Option Int) : sIx n d o ≤ n := by
  cases o with
  | none => exact hd
  | some v =>
    show (if v < 0 then (v + (n : Int)).toNat else min v.toNat n) ≤ n
    by_cases hv : v < 0
    · rw [if_pos hv]; omega
    · rw [if_neg hv]; exact Nat.min_le_right _ _
theorem clip_eq (v : Int) (n d : Nat) : (if v < 0 then max (v + (n : Int)) 0 else min v (n : Int)) = ((sIx n d (some v) : Nat) : Int) := by
  show (if v < 0 then max (v + (n : Int)) 0 else min v (n : Int)) = (((if v < 0 then (v + (n : Int)).toNat else min v.toNat n) : Nat) : Int)
  by_cases hv : v < 0
  · simp only [if_pos hv]; omega
  · simp only [if_neg hv]; omega
theorem adjust_gen (lo hi : Option Int) (n : Nat) : Builtin.Slice.sliceAdjust lo hi 1 (n : Int) = (((sIx n 0 lo : Nat) : Int), ((sIx n n hi : Nat) : Int)) := by
  have h1 : ¬ ((1 : Int) < 0) := by omega
  unfold Builtin.Slice.sliceAdjust
  simp only [h1, if_false]
  refine Prod.ext ?_ ?_
  · cases lo with
    | none => rfl
    | some v => exact clip_eq v n 0
  · cases hi with
    | none => rfl
    | some v => exact clip_eq v n n
theorem places_gen (i j : Nat) : Builtin.Slice.slicePlaces (i : Int) (j : Int) 1 = j - i := by
  unfold Builtin.Slice.slicePlaces
  have h1 : (1 : Int) > 0 := by omega
  simp only [h1, if_true, Int.ediv_one]
  split <;> omega
theorem slicePart_ {v : Value} {o : Option Int} {Q : Option Int → Shared → Prop} (p : IsPart v o) (h : Q o s) : wpAny (model prog w) A (Builtin.Slice.slicePartIndex v) Q E s := by
  cases p with
  | none => exact slicePart_none h
  | int i t => exact slicePart_int h
theorem sliceApplied_gen {sl : Addr} {vl vu : Value} {lo hi : Option Int} {n : Nat} {Q : Int × Int × Nat → Shared → Prop} (hs : s.heap.IsSliceOf sl vl vu .none) (pl : IsPart vl lo) (pu : IsPart vu hi)
    (h : Q (((sIx n 0 lo : Nat) : Int), 1, sIx n n hi - sIx n 0 lo) s) : wpAny (model prog w) A (Builtin.Slice.sliceApplied (.ref sl) (pure (n : Int))) Q E s := by
  obtain ⟨os, hos, hcs, hds⟩ := id hs
  unfold Builtin.Slice.sliceApplied Builtin.Slice.sliceFields
  refine wpAny_bind (wpAny_bind (wpAny_field hos hds (x := vl) rfl (wpAny_bind (wpAny_field hos hds (x := vu) rfl (wpAny_bind (wpAny_field hos hds (x := .none) rfl (wpAny_pure ?_)))))))
  refine wpAny_bind (slicePart_none ?_)
  show wpAny _ _ (if ((1 : Int) == 0) = true then _ else _) _ _ s
  rw [if_neg (by decide)]
  refine wpAny_bind (slicePart_ pl (wpAny_bind (slicePart_ pu (wpAny_bind (wpAny_pure ?_)))))
  show wpAny _ _ (match Builtin.Slice.sliceAdjust lo hi 1 (n : Int) with | (lo, hi) => pure (lo, (1 : Int), Builtin.Slice.slicePlaces lo hi 1)) _ _ s
  rw [adjust_gen lo hi n]
  show wpAny _ _ (pure (((sIx n 0 lo : Nat) : Int), (1 : Int), Builtin.Slice.slicePlaces ((sIx n 0 lo : Nat) : Int) ((sIx n n hi : Nat) : Int) 1)) _ _ s
  rw [places_gen]
  exact wpAny_pure h
theorem pick_gen (xs : Array Value) (i k : Nat) : ((List.range k).filterMap fun (m : Nat) => xs[((i : Int) + (m : Int) * 1).toNat]?).toArray = ((xs.toList.drop i).take k).toArray := by
  have e : (fun (m : Nat) => xs[((i : Int) + (m : Int) * 1).toNat]?) = fun m => xs[i + m]? := by
    funext m
    have : ((i : Int) + (m : Int) * 1).toNat = i + m := by omega
    rw [this]
  rw [e]
  have := pick_run xs i k
  rw [List.filterMap_map] at this
  have e2 : ((fun x => xs[x]?) ∘ fun x => i + x) = fun m => xs[i + m]? := rfl
  rw [e2] at this
  rw [this]

theorem getItem_tuple_cut {t sl : Addr} {items : Array Value} {vl vu : Value} {lo hi : Option Int} {Q : Value → Shared → Prop} (ht : IsTup s.heap t items) (hs : s.heap.IsSliceOf sl vl vu .none) (pl : IsPart vl lo) (pu : IsPart vu hi)
    (hw : ¬ (sIx items.size 0 lo = 0 ∧ sIx items.size items.size hi = items.size))
    (h : Q (.ref s.heap.objs.size) { s with heap := s.heap.push { cls := .type "tuple", data := .seq ((items.toList.drop (sIx items.size 0 lo)).take (sIx items.size items.size hi - sIx items.size 0 lo)).toArray } })
    (hsz : items.size ≤ sizeLine) : wpAny (model prog w) A (getItem (.ref t) (.ref sl)) Q E s := by
  have htake : sizeOk (.seq ((items.toList.drop (sIx items.size 0 lo)).take (sIx items.size items.size hi - sIx items.size 0 lo)).toArray) := by
    show ((items.toList.drop (sIx items.size 0 lo)).take (sIx items.size items.size hi - sIx items.size 0 lo)).toArray.size ≤ sizeLine
    rw [List.size_toArray, List.length_take, List.length_drop, Array.length_toList]
    omega
  have hj : sIx items.size items.size hi ≤ items.size := sIx_le _ _ (Nat.le_refl _) hi
  obtain ⟨os, hos, hcs, hds⟩ := id hs
  have hTs : s.TypeIs (.ref sl) "slice" := ⟨os, hos, hcs⟩
  unfold getItem
  try with_reducible refine wpAny_holding ?_
  first | refine wpAny_bind (wpAny_pure ?_) | skip
  refine wpAny_bind (wpAny_sequenceKey ht.typeIs (by decide) ?_)
  refine wpAny_bind (wpAny_callSpecial?_slot (name := Str.ofString "__getitem__") ht.typeIs PyProof.Rows.slot_tuple_getitem
    (wpAny_call_entry PyProof.Rows.slot_tuple_getitem ht.typeIs entry_tuple_getitem ?_ (args_tuple_getitem _ _)))
  show wpAny _ _ (Builtin.Tuple.tupleItemsOf (.ref t) >>= _) _ _ s
  refine wpAny_bind (tupleItemsOf_ ht ?_)
  refine wpAny_bind (wpAny_typeOf hTs ?_)
  rw [if_pos (by decide)]
  refine wpAny_bind (sliceApplied_gen hs pl pu ?_)
  have hno : ¬ ((((sIx items.size 0 lo : Nat) : Int) == 0 && (1 : Int) == 1 && (sIx items.size items.size hi - sIx items.size 0 lo) == items.size) = true) := by
    intro q
    rw [Bool.and_eq_true, Bool.and_eq_true] at q
    have q1 : ((sIx items.size 0 lo : Nat) : Int) = 0 := eq_of_beq q.1.1
    have q2 : sIx items.size items.size hi - sIx items.size 0 lo = items.size := eq_of_beq q.2
    exact hw ⟨by omega, by omega⟩
  show wpAny _ _ (if (((sIx items.size 0 lo : Nat) : Int) == 0 && (1 : Int) == 1 && (sIx items.size items.size hi - sIx items.size 0 lo) == items.size) = true then _ else _) _ _ s
  rw [if_neg hno, pick_gen]
  first
    | exact wpAny_bind (m := Builtin.Tuple.tupleExact _) (wpAny_newObj_type (wpAny_pure ⟨_, rfl, wpAny_pure h⟩) htake)
    | exact wpAny_bind (m := Builtin.Tuple.tupleExact _) (wpAny_newObj_type (wpAny_bind (wpAny_pure (wpAny_pure ⟨_, rfl, wpAny_pure h⟩))) htake)
    | exact wpAny_bind (wpAny_bind (m := Builtin.Tuple.tupleExact _) (wpAny_newObj_type (wpAny_pure (wpAny_pure ⟨_, rfl, wpAny_pure h⟩)) htake))
    | exact wpAny_bind (wpAny_bind (m := Builtin.Tuple.tupleExact _) (wpAny_newObj_type (wpAny_pure ⟨_, rfl, wpAny_pure h⟩) htake))
end
end HT

namespace L2
open PySem PySem.Spec PyProof.Rows

/-! ### the parts of a slice -/
abbrev TO := St → Hp → (Option Int → Hp → Prop) → Prop
/-- a slice's part (left out, or an int) -/
def PO (X : Cx) (e : Option Expr) (t : TO) : Prop :=
  ∀ (pins : List (Addr × Obj)) (s : Shared) (σ : St) (H : Hp) (Q : Option Int → Hp → Prop), Inv X pins σ H s → t σ H Q →
    wpAny (model X.prog X.w) X.A (evalPart e X.env) (fun u s' => ∃ o H', Inv X pins σ H' s' ∧ IsPart u o ∧ Q o H') X.xe s
def tNoPart : TO := fun _ H Q => Q none H
def tPart (t : TE) : TO := fun σ H Q => t σ H fun x H1 => ∃ i, x = .int i ∧ Q (some i) H1

theorem intsAre_of {ns : List Int} : ∀ {us : List Value}, Vals (ns.map V.int) us → IntsAre us ns := by
  induction ns with
  | nil => intro us r; rw [List.map_nil] at r; cases r; exact .nil
  | cons n ns ih =>
    intro us r
    rw [List.map_cons] at r
    cases r with
    | cons r1 r2 =>
      obtain ⟨t, e⟩ := r1
      subst e
      exact .cons n t (ih r2)

section
variable {X : Cx} {e : Expr} {te : TE} {lo hi : Option Expr} {tl th : TO} {pos p2 : Pos}

theorem po_none : PO X none tNoPart := by
  intro pins s σ H Q I h
  rw [evalPart_none]
  exact wpAny_pure ⟨none, H, I, .none, h⟩
theorem po_some (h : PE X e te) : PO X (some e) (tPart te) := by
  intro pins s σ H Q I hw
  rw [evalPart_some]
  refine thn (h pins s σ H _ I hw) fun u s1 ⟨x, H1, I1, r1, q1⟩ => ?_
  obtain ⟨i, rfl, q⟩ := q1
  obtain ⟨t, rfl⟩ := r1
  exact ⟨some i, H1, I1, .int i t, q⟩

/-- what a slice of a value is, by values: the slice object stands at sl -/
def SlR (X : Cx) (r : V → Option Int → Option Int → Hp → VK → Prop) : Prop :=
  ∀ (pins : List (Addr × Obj)) (s : Shared) (σ : St) (H : Hp) (x : V) (v vl vu : Value) (lo hi : Option Int) (sl : Addr) (Q : VK), Inv X pins σ H s → RelV x v → s.heap.IsSliceOf sl vl vu .none → IsPart vl lo → IsPart vu hi → r x lo hi H Q →
    ∃ T id, typeLookup (.type T) "__getitem__" = pure (some (.builtin id)) ∧ s.TypeIs v T ∧ wpAny (model X.prog X.w) X.A (getItem v (.ref sl)) (EP X pins σ Q) X.xe s
theorem SlR.or {r r' : V → Option Int → Option Int → Hp → VK → Prop} (h : SlR X r) (h' : SlR X r') : SlR X (fun x lo hi H Q => r x lo hi H Q ∨ r' x lo hi H Q) := by
  intro pins s σ H x v vl vu lo hi sl Q I rx hs pl pu q
  rcases q with q | q
  · exact h pins s σ H x v vl vu lo hi sl Q I rx hs pl pu q
  · exact h' pins s σ H x v vl vu lo hi sl Q I rx hs pl pu q
def tSl (r : V → Option Int → Option Int → Hp → VK → Prop) (te : TE) (tl th : TO) : TE := fun σ H Q => te σ H fun x H1 => tl σ H1 fun l H2 => th σ H2 fun u H3 => r x l u H3 Q
/-- a[lo:hi], any a -/
theorem pe_slice {r : V → Option Int → Option Int → Hp → VK → Prop} (hr : SlR X r) (he : PE X e te) (hl : PO X lo tl) (hu : PO X hi th) : PE X (.Subscript e (.Slice lo hi none p2) pos) (tSl r te tl th) := by
  intro pins s σ H Q I h
  refine Subscript_ (thn (he pins s σ H _ I h) fun v s1 ⟨x, H1, I1, r1, q1⟩ => ?_)
  refine wpAny_Slice (thn (hl pins s1 σ H1 _ I1 q1) fun vl s2 ⟨l, H2, I2, pl, q2⟩ => thn (hu pins s2 σ H2 _ I2 q2) fun vu s3 ⟨u, H3, I3, pu, q3⟩ => ?_)
  rw [evalPart_none]
  refine wpAny_pure ?_
  have I4 : Inv X pins σ H3 { s3 with heap := s3.heap.push { cls := .type "slice", data := .fields #[vl, vu, .none] } } := I3.kept (t' := s3.toks) fun b ob q => Heap.get?_push_of_some _ q
  obtain ⟨T, id, hT, ht, hg⟩ := hr pins { s3 with heap := s3.heap.push { cls := .type "slice", data := .fields #[vl, vu, .none] } } σ H3 x v vl vu l u s3.heap.objs.size Q I4 r1 (Heap.IsSliceOf.new ..) pl pu q3
  show wpAny (model X.prog X.w) X.A (subscriptTail e (.Slice lo hi none p2) v (.ref s3.heap.objs.size)) (EP X pins σ Q) X.xe { s3 with heap := s3.heap.push { cls := .type "slice", data := .fields #[vl, vu, .none] } }
  exact tail_any (ops := [.ref s3.heap.objs.size, v]) ht hT hg (by with_unfolding_all rfl)

/-- the items of xs[lo:hi] -/
def cutV (xs : List V) (lo hi : Option Int) : List V := (xs.drop (HT.sIx xs.length 0 lo)).take (HT.sIx xs.length xs.length hi - HT.sIx xs.length 0 lo)
theorem cutV_length (xs : List V) (lo hi : Option Int) : (cutV xs lo hi).length ≤ xs.length := by
  unfold cutV
  rw [List.length_take, List.length_drop]
  omega
/-- t[lo:hi], not the whole of it (the whole would be t itself) -/
def rSlT (K : PySem.W.Frag) : V → Option Int → Option Int → Hp → VK → Prop := fun x lo hi H Q => ∃ a xs, x = .ref a ∧ SqT K H a xs ∧
  ¬ (HT.sIx xs.length 0 lo = 0 ∧ HT.sIx xs.length xs.length hi = xs.length) ∧ ∀ p, H p = none → Q (.ref p) (upd H p (.tup (cutV xs lo hi)))
theorem sl_tup : SlR X (rSlT X.K) := by
  intro pins s σ H x v vl vu lo hi sl Q I rx hs pl pu h
  obtain ⟨a, xs, rfl, hx, hw, q⟩ := h
  cases rx
  obtain ⟨its, r, ht, hz⟩ := I.tuple hx
  have hlen : its.toArray.size = xs.length := by rw [List.size_toArray]; exact r.length.symm
  refine ⟨"tuple", _, PyProof.Rows.slot_tuple_getitem.lookup, ht.typeIs, ?_⟩
  refine HT.getItem_tuple_cut ht hs pl pu (by rw [hlen]; exact hw) ?_ (by rw [hlen]; exact hz)
  rw [hlen]
  refine ⟨.ref s.heap.objs.size, _, I.laid (t' := s.toks) (o := .tup (cutV xs lo hi)) (fun b ob q => Heap.get?_push_of_some _ q) (Nat.le_refl _) ?_, rfl, q _ (I.hok.fresh (Nat.le_refl _))⟩
  exact ⟨Nat.le_trans (cutV_length xs lo hi) hz, _, (r.drop (HT.sIx xs.length 0 lo)).take (HT.sIx xs.length xs.length hi - HT.sIx xs.length 0 lo), IsTup.new _ _⟩

/-! ### t < u, t + u -/
def rLtT (K : PySem.W.Frag) : R2 := fun x y H Q => ∃ a b ns ms, x = .ref a ∧ y = .ref b ∧ SqT K H a (ns.map V.int) ∧ SqT K H b (ms.map V.int) ∧ Q (.bl (HT.lexLt ns ms)) H
theorem op_ltT (hu : X.A.units < cLine) : OpR X (compareOp .Lt) (rLtT X.K) := by
  intro pins s σ H x y v u Q I rx ry h
  obtain ⟨a, b, ns, ms, rfl, rfl, ha, hb, q⟩ := h
  cases rx
  cases ry
  obtain ⟨its, r1, p1, _⟩ := I.tuple ha
  obtain ⟨its2, r2, p2, _⟩ := I.tuple hb
  have i1 : IntsAre its.toArray.toList ns := intsAre_of r1
  have i2 : IntsAre its2.toArray.toList ms := intsAre_of r2
  exact HT.lt_tupInts p1 p2 i1 i2 hu ⟨.bl (HT.lexLt ns ms), H, I, rfl, q⟩
/-- t + u, t not empty: u empty gives t itself -/
def rCatT (K : PySem.W.Frag) : R2 := fun x y H Q => ∃ a b xs ys, x = .ref a ∧ y = .ref b ∧ SqT K H a xs ∧ SqT K H b ys ∧ xs ≠ [] ∧ xs.length + ys.length ≤ sizeLine ∧
  (ys = [] → Q (.ref a) H) ∧ (ys ≠ [] → ∀ p, H p = none → Q (.ref p) (upd H p (.tup (xs ++ ys))))
theorem Vals.nil_iff {xs : List V} {us : List Value} (r : Vals xs us) : us = [] ↔ xs = [] := by
  cases r with
  | nil => simp
  | cons _ _ => simp
theorem op_catT : OpR X (binaryOp .Add) (rCatT X.K) := by
  intro pins s σ H x y v u Q I rx ry h
  obtain ⟨a, b, xs, ys, rfl, rfl, ha, hb, hx, hz, q1, q2⟩ := h
  cases rx
  cases ry
  obtain ⟨its, r1, p1, _⟩ := I.tuple ha
  obtain ⟨its2, r2, p2, _⟩ := I.tuple hb
  refine HT.cat_tup p1 p2 (fun z => hx (r1.nil_iff.mp z)) (fun z => ⟨.ref a, H, I, rfl, q1 (r2.nil_iff.mp z)⟩) (fun z => ?_) (by rw [← r1.length, ← r2.length]; exact hz)
  refine ⟨.ref s.heap.objs.size, _, I.laid (t' := s.toks) (o := .tup (xs ++ ys)) (fun b ob q => Heap.get?_push_of_some _ q) (Nat.le_refl _) ?_, rfl, q2 (fun w => z (r2.nil_iff.mpr w)) _ (I.hok.fresh (Nat.le_refl _))⟩
  exact ⟨by rw [List.length_append]; exact hz, _, r1.append r2, IsTup.new _ _⟩
/-- tuple(t) -/
theorem call_tupleT : CallR X (.type "tuple") (fun xs H Q => ∃ a ys, xs = [.ref a] ∧ SqT X.K H a ys ∧ Q (.ref a) H) := by
  intro pins s σ H xs us Q I r h
  obtain ⟨a, ys, rfl, ha, q⟩ := h
  obtain ⟨u, rfl, ru⟩ := vals1 r
  cases ru
  obtain ⟨its, _, p1, _⟩ := I.tuple ha
  exact call_tuple_same (items := its.toArray) p1 ⟨.ref a, H, I, rfl, q⟩
end
end L2

namespace L2
open PySem PySem.Spec PyProof.Rows

/-! ### places -/
/-- the place that an index of any sign means -/
def ixN (n : Nat) (i : Int) : Option Nat := if 0 ≤ i then (if i < n then some i.toNat else none) else if -(n : Int) ≤ i then some (i + n).toNat else none
def atI {α : Type} (xs : List α) (i : Int) : Option α := (ixN xs.length i).bind fun j => xs[j]?
theorem ixN_seq {n : Nat} {i : Int} {j : Nat} (h : ixN n i = some j) : seqIndex? i n = some j ∧ j < n ∧ -(n : Int) ≤ i ∧ i < n := by
  unfold ixN at h
  by_cases h0 : 0 ≤ i
  · rw [if_pos h0] at h
    by_cases h1 : i < n
    · rw [if_pos h1] at h
      have e : i.toNat = j := Option.some.inj h
      exact ⟨by rw [seqIndex_of h0 h1, e], by omega, by omega, h1⟩
    · rw [if_neg h1] at h; cases h
  · rw [if_neg h0] at h
    by_cases h1 : -(n : Int) ≤ i
    · rw [if_pos h1] at h
      have e : (i + n).toNat = j := Option.some.inj h
      exact ⟨by rw [seqIndex_neg (by omega) h1, e], by omega, h1, by omega⟩
    · rw [if_neg h1] at h; cases h
theorem atI_get {α : Type} {xs : List α} {i : Int} {v : α} (h : atI xs i = some v) : ∃ j, seqIndex? i xs.length = some j ∧ xs[j]? = some v ∧ j < xs.length ∧ -(xs.length : Int) ≤ i ∧ i < xs.length := by
  unfold atI at h
  cases e : ixN xs.length i with
  | none => rw [e] at h; cases h
  | some j =>
    rw [e] at h
    obtain ⟨h1, h2, h3, h4⟩ := ixN_seq e
    exact ⟨j, h1, h, h2, h3, h4⟩
theorem atI_nat {α : Type} {xs : List α} {j : Nat} {v : α} (h : xs[j]? = some v) : atI xs (j : Int) = some v := by
  have hj : j < xs.length := (List.getElem?_eq_some_iff.mp h).1
  have e : ixN xs.length (j : Int) = some j := by
    unfold ixN
    rw [if_pos (by omega), if_pos (by omega)]; simp
  unfold atI; rw [e]; exact h
theorem atI_last {α : Type} (xs : List α) (v : α) : atI (xs ++ [v]) (-1) = some v := by
  have hl : (xs ++ [v]).length = xs.length + 1 := by simp
  have e : ixN (xs ++ [v]).length (-1) = some xs.length := by
    unfold ixN
    rw [hl, if_neg (by decide), if_pos (by omega)]
    congr 1
    omega
  unfold atI
  rw [e]
  show (xs ++ [v])[xs.length]? = some v
  simp

/-! ### what may be subscripted -/
/-- what stands as an index of a plain subscript -/
def PlainIx (b : Expr) : Prop := ∀ o i, subscripted b false o i = operate [o, i] (getItem o i)
/-- a subscript by values -/
def IxR (X : Cx) (r : R2) : Prop :=
  ∀ (value slice : Expr) (pins : List (Addr × Obj)) (s : Shared) (σ : St) (H : Hp) (x y : V) (v u : Value) (Q : VK), Inv X pins σ H s → RelV x v → RelV y u → r x y H Q →
    subscripted slice false v u = operate [v, u] (getItem v u) → wpAny (model X.prog X.w) X.A (subscriptTail value slice v u) (EP X pins σ Q) X.xe s
/-- a call of a builtin's method by values: the receiver, the arguments -/
def MtR (X : Cx) (id : String) (r : V → List V → Hp → VK → Prop) : Prop :=
  ∀ (pins : List (Addr × Obj)) (s : Shared) (σ : St) (H : Hp) (x : V) (xs : List V) (v : Value) (us : List Value) (Q : VK), Inv X pins σ H s → RelV x v → Vals xs us → r x xs H Q →
    wpAny (model X.prog X.w) X.A (call (.builtin id) (v :: us)) (EP X pins σ Q) X.xe s
section
variable {X : Cx} {a b : Expr} {ta tb : TE} {pos : Pos}
theorem IxR.or {r r' : R2} (h : IxR X r) (h' : IxR X r') : IxR X (fun x y H Q => r x y H Q ∨ r' x y H Q) := by
  intro value slice pins s σ H x y v u Q I rx ry q hs
  rcases q with q | q
  · exact h value slice pins s σ H x y v u Q I rx ry q hs
  · exact h' value slice pins s σ H x y v u Q I rx ry q hs
theorem MtR.or {id : String} {r r' : V → List V → Hp → VK → Prop} (h : MtR X id r) (h' : MtR X id r') : MtR X id (fun x xs H Q => r x xs H Q ∨ r' x xs H Q) := by
  intro pins s σ H x xs v us Q I rx rs q
  rcases q with q | q
  · exact h pins s σ H x xs v us Q I rx rs q
  · exact h' pins s σ H x xs v us Q I rx rs q
/-- a[b] -/
theorem pe_ix {r : R2} (hr : IxR X r) (ha : PE X a ta) (hb : PE X b tb) (hs : PlainIx b) : PE X (.Subscript a b pos) (tOp r ta tb) := by
  intro pins s σ H Q I h
  exact Subscript_ (binT ha hb I h fun v u s2 x y H2 I2 rx ry q => hr a b pins s2 σ H2 x y v u Q I2 rx ry q (hs _ _))

def rIxL (K : PySem.W.Frag) : R2 := fun x y H Q => ∃ p xs i v, x = .ref p ∧ y = .int i ∧ SqL K H p xs ∧ atI xs i = some v ∧ Q v H
def rIxT (K : PySem.W.Frag) : R2 := fun x y H Q => ∃ p xs i v, x = .ref p ∧ y = .int i ∧ SqT K H p xs ∧ atI xs i = some v ∧ Q v H
def rIxS : R2 := fun x y H Q => ∃ z i c, x = .str z ∧ y = .int i ∧ z.length ≤ sizeLine ∧ atI z.cps.toList i = some c ∧ Q (.str ⟨#[c]⟩) H
theorem ix_list : IxR X (rIxL X.K) := by
  intro value slice pins s σ H x y v u Q I rx ry h hs
  obtain ⟨p, xs, i, z, rfl, rfl, hq, he, q⟩ := h
  cases rx
  obtain ⟨t, rfl⟩ := ry
  obtain ⟨its, r, pl, hz⟩ := I.list hq
  obtain ⟨j, h1, h2, h3, h4, h5⟩ := atI_get he
  obtain ⟨w, ew, rw'⟩ := r.get h2
  have hl := r.length
  have hn := line63
  have fin : EP X pins σ Q w s := ⟨z, H, I, rw', q⟩
  by_cases h0 : 0 ≤ i
  · have hj : i.toNat = j := by
      rw [seqIndex_of h0 h5] at h1
      exact Option.some.inj h1
    exact item_listR pl.isList h0 (by omega) (by rw [hj]; simpa using ew) fin hs
  · have hj : (i + (its.toArray.size : Int)).toNat = j := by
      rw [seqIndex_neg (by omega) h4] at h1
      rw [List.size_toArray, ← hl]
      exact Option.some.inj h1
    exact subscriptTail_builtinR (x := w) pl.isList.typeIs slot_list_getitem.lookup
      (wpAny_getItem_list_neg (Q := fun r s' => r = w ∧ EP X pins σ Q r s') pl.isList (by omega) (by rw [List.size_toArray] <;> omega) (by omega) (by rw [hj]; simpa using ew) ⟨rfl, fin⟩) hs
theorem ix_tup : IxR X (rIxT X.K) := by
  intro value slice pins s σ H x y v u Q I rx ry h hs
  obtain ⟨p, xs, i, z, rfl, rfl, hq, he, q⟩ := h
  cases rx
  obtain ⟨t, rfl⟩ := ry
  obtain ⟨its, r, pl, hz⟩ := I.tuple hq
  obtain ⟨j, h1, h2, h3, h4, h5⟩ := atI_get he
  obtain ⟨w, ew, rw'⟩ := r.get h2
  have hl := r.length
  have hn := line63
  have fin : EP X pins σ Q w s := ⟨z, H, I, rw', q⟩
  exact subscriptTail_builtinR (x := w) pl.typeIs slot_tuple_getitem.lookup
    (getItem_tuple (j := j) (Q := fun r s' => r = w ∧ EP X pins σ Q r s') pl (by omega) (by omega) (by rw [List.size_toArray, ← hl]; exact h1) (by simpa using ew) ⟨rfl, fin⟩) hs
theorem ix_str : IxR X rIxS := by
  intro value slice pins s σ H x y v u Q I rx ry h hs
  obtain ⟨z, i, c, rfl, rfl, hz, he, q⟩ := h
  obtain ⟨t, rfl⟩ := rx
  obtain ⟨t', rfl⟩ := ry
  obtain ⟨j, h1, h2, h3, h4, h5⟩ := atI_get he
  have hl : z.cps.toList.length = z.length := by simp [Str.length]
  rw [hl] at h1 h4 h5
  have hn := line63
  exact tail_any (typeIs_str s z t) slot_str_getitem.lookup (getItem_str (c := c) (by
    have e1 : decide (i < -(2 ^ 63 : Int)) = false := decide_eq_false (by omega)
    have e2 : decide (i ≥ 2 ^ 63) = false := decide_eq_false (by omega)
    rw [e1, e2, Bool.or_false]) (by rw [h1]; simpa using h2) ⟨.str ⟨#[c]⟩, H, I.tok _, ⟨_, rfl⟩, q⟩) hs
/-- list, tuple or str -/
def rIx (K : PySem.W.Frag) : R2 := fun x y H Q => rIxL K x y H Q ∨ rIxT K x y H Q ∨ rIxS x y H Q
theorem ix_seq : IxR X (rIx X.K) := ix_list.or (ix_tup.or ix_str)

/-! ### xs[i] = v, any sign -/
/-- the list's object behind a store -/
theorem mapSeq_set (its : List Value) (n j : Nat) (u : Value) : Obj.mapSeq (·.setIfInBounds j u) { cls := .type "list", data := .seq its.toArray n } = { cls := .type "list", data := .seq (its.set j u).toArray n } := by
  simp [Obj.mapSeq]
theorem Inv.lst {pins : List (Addr × Obj)} {σ : St} {H : Hp} {s : Shared} {p : Addr} {xs : List V} (I : Inv X pins σ H s) (h : H p = some (.lst xs)) :
    ∃ (its : List Value) (n : Nat), Vals xs its ∧ s.heap.get? p = some { cls := .type "list", data := .seq its.toArray n } ∧ xs.length ≤ sizeLine := by
  obtain ⟨z, its, n, r, e⟩ := I.hok p _ h
  exact ⟨its, n, r, e, z⟩
/-- the list at p is written by an update of its object -/
theorem Inv.lstUpd {pins : List (Addr × Obj)} {σ : St} {H : Hp} {s : Shared} {p : Addr} {xs ys : List V} {its its' : List Value} {n n' : Nat} {f : Obj → Obj} (I : Inv X pins σ H s) (h : H p = some (.lst xs))
    (ho : s.heap.get? p = some { cls := .type "list", data := .seq its.toArray n }) (hf : f { cls := .type "list", data := .seq its.toArray n } = { cls := .type "list", data := .seq its'.toArray n' }) (r : Vals ys its') (hz : ys.length ≤ sizeLine) (t : Nat) :
    Inv X pins σ (upd H p (.lst ys)) { s with heap := s.heap.update p f, toks := t } := by
  have e : (s.heap.update p f).get? p = some { cls := .type "list", data := .seq its'.toArray n' } := by
    rw [Heap.get?_update_self f ho (by rw [hf] <;> rfl), hf]
  refine I.write (x := p) (e := p) (by rw [h]; trivial) (.inl rfl) (fun b u hb q => (Heap.get?_update_other _ _ (Ne.symm hb)).trans q) ⟨_, e⟩ ?_
  exact ⟨hz, its', n', r, e⟩
def rSetL : V → V → V → Hp → (Hp → Prop) → Prop := fun o i v H Q => ∃ p xs k j, o = .ref p ∧ i = .int k ∧ H p = some (.lst xs) ∧ ixN xs.length k = some j ∧ Q (upd H p (.lst (xs.set j v)))
theorem set_list : PSet X rSetL := by
  intro pins s σ H o i v ov iv u Q I ro ri rv h
  obtain ⟨p, xs, k, j, rfl, rfl, hp, hj, q⟩ := h
  cases ro
  obtain ⟨t, rfl⟩ := ri
  obtain ⟨its, n, r, ho, hz⟩ := I.lst hp
  obtain ⟨h1, h2, h3, h4⟩ := ixN_seq hj
  have hl := r.length
  have hn := line63
  have I' : Inv X pins σ (upd H p (.lst (xs.set j v))) { s with heap := s.heap.update p (Obj.mapSeq (·.setIfInBounds j u)) } :=
    I.lstUpd hp ho (mapSeq_set its n j u) (r.set rv j) (by rw [List.length_set]; exact hz) s.toks
  by_cases h0 : 0 ≤ k
  · have hk : k.toNat = j := by
      rw [seqIndex_of h0 h4] at h1
      exact Option.some.inj h1
    exact PySem.W.ki_setAt ho h0 (by omega) (by rw [List.size_toArray, ← hl]; exact h4) (by rw [hk]; exact ⟨_, I', q⟩)
  · have hk : (k + (its.toArray.size : Int)).toNat = j := by
      rw [seqIndex_neg (by omega) h3] at h1
      rw [List.size_toArray, ← hl]
      exact Option.some.inj h1
    exact PySem.W.ki_setBack ho (by omega) (by rw [List.size_toArray, ← hl]; exact h3) (by omega) (by rw [hk]; exact ⟨_, I', q⟩)

/-! ### slices -/
theorem slice_bounds (lo hi : Option Int) (n : Nat) : (sliceBounds lo hi none n).1 = ((HT.sIx n 0 lo : Nat) : Int) ∧ (sliceBounds lo hi none n).2.1 = ((HT.sIx n n hi : Nat) : Int) ∧ (sliceBounds lo hi none n).2.2 = 1 := by
  refine ⟨?_, ?_, rfl⟩
  · cases lo with
    | none => simp [sliceBounds, HT.sIx]
    | some i =>
      simp only [sliceBounds, HT.sIx, Option.getD_none, show (1 : Int) > 0 by decide, if_true]
      by_cases h : i < 0
      · simp only [h, if_true] <;> omega
      · simp only [h, if_false] <;> omega
  · cases hi with
    | none => simp [sliceBounds, HT.sIx]
    | some i =>
      simp only [sliceBounds, HT.sIx, Option.getD_none, show (1 : Int) > 0 by decide, if_true]
      by_cases h : i < 0
      · simp only [h, if_true] <;> omega
      · simp only [h, if_false] <;> omega
theorem slicePick_cut (its : List Value) (lo hi : Option Int) : slicePick its.toArray lo hi none = ((its.drop (HT.sIx its.length 0 lo)).take (HT.sIx its.length its.length hi - HT.sIx its.length 0 lo)).toArray := by
  obtain ⟨h1, h2, h3⟩ := slice_bounds lo hi its.toArray.size
  unfold slicePick
  rw [h1, h2, h3]
  simp only [sliceRange_one, pick_run, List.size_toArray] <;> rfl
/-- xs[lo:hi] of a list: a new list -/
def rSlL (K : PySem.W.Frag) : V → Option Int → Option Int → Hp → VK → Prop := fun x lo hi H Q => ∃ a xs, x = .ref a ∧ SqL K H a xs ∧ ∀ p, H p = none → Q (.ref p) (upd H p (.lst (cutV xs lo hi)))
theorem sl_list : SlR X (rSlL X.K) := by
  intro pins s σ H x v vl vu lo hi sl Q I rx hs pl pu h
  obtain ⟨a, xs, rfl, hx, q⟩ := h
  cases rx
  obtain ⟨its, r, ht, hz⟩ := I.list hx
  have hlen := r.length
  refine ⟨"list", _, slot_list_getitem.lookup, ht.isList.typeIs, ?_⟩
  refine wpAny_getItem_list_slice ht.isList hs pl pu .none (by simp) ?_ (by rw [List.size_toArray] <;> omega)
  rw [slicePick_cut, ← hlen]
  refine ⟨.ref s.heap.objs.size, _, I.laid (t' := s.toks) (o := .lst (cutV xs lo hi)) (fun b ob q => Heap.get?_push_of_some _ q) (Nat.le_refl _) ?_, rfl, q _ (I.hok.fresh (Nat.le_refl _))⟩
  exact ⟨Nat.le_trans (cutV_length xs lo hi) hz, _, 0, (r.drop (HT.sIx xs.length 0 lo)).take (HT.sIx xs.length xs.length hi - HT.sIx xs.length 0 lo), Heap.get?_push_size _ rfl⟩

/-! ### in, not in: flat items -/
def flatV : V → Bool
  | .non => true
  | .bl _ => true
  | .int _ => true
  | .str _ => true
  | _ => false
/-- == of flat values -/
def eqV : V → V → Bool
  | .non, .non => true
  | .bl a, .bl b => a == b
  | .bl a, .int b => (if a then 1 else 0) == b
  | .int a, .bl b => a == (if b then 1 else 0)
  | .int a, .int b => a == b
  | .str a, .str b => a == b
  | _, _ => false
theorem eqAt_V {A : Around} {s : Shared} {y x : V} {u v : Value} (ry : RelV y u) (rx : RelV x v) (fy : flatV y = true) (fx : flatV x = true) : SeqAt.EqAt A s u v (eqV y x) := by
  cases y with
  | non =>
    cases ry
    cases x with
    | non => cases rx; exact SeqAt.EqAt.same _
    | bl b => cases rx; exact SeqAt.EqAt.none_bool b
    | int b => obtain ⟨t, rfl⟩ := rx; exact SeqAt.EqAt.none_int b t
    | str b => obtain ⟨t, rfl⟩ := rx; exact SeqAt.EqAt.none_str b t
    | _ => exact absurd (show false = true from fx) Bool.false_ne_true
  | bl a =>
    cases ry
    cases x with
    | non => cases rx; exact SeqAt.EqAt.bool_none a
    | bl b => cases rx; exact SeqAt.EqAt.bool_bool a b
    | int b => obtain ⟨t, rfl⟩ := rx; exact SeqAt.EqAt.bool_int a b t
    | str b => obtain ⟨t, rfl⟩ := rx; exact SeqAt.EqAt.bool_str a b t
    | _ => exact absurd (show false = true from fx) Bool.false_ne_true
  | int a =>
    obtain ⟨t', rfl⟩ := ry
    cases x with
    | non => cases rx; exact SeqAt.EqAt.int_none a t'
    | bl b => cases rx; exact SeqAt.EqAt.int_bool a t' b
    | int b => obtain ⟨t, rfl⟩ := rx; exact SeqAt.EqAt.int_int a t' b t
    | str b => obtain ⟨t, rfl⟩ := rx; exact SeqAt.EqAt.int_str a t' b t
    | _ => exact absurd (show false = true from fx) Bool.false_ne_true
  | str a =>
    obtain ⟨t', rfl⟩ := ry
    cases x with
    | non => cases rx; exact SeqAt.EqAt.str_none a t'
    | bl b => cases rx; exact SeqAt.EqAt.str_bool a t' b
    | int b => obtain ⟨t, rfl⟩ := rx; exact SeqAt.EqAt.str_int a t' b t
    | str b => obtain ⟨t, rfl⟩ := rx; exact SeqAt.EqAt.str_str a t' b t
    | _ => exact absurd (show false = true from fx) Bool.false_ne_true
  | _ => exact absurd (show false = true from fy) Bool.false_ne_true
/-- the items' answers, read off the values (a value's own answer does not lean on its token) -/
def eqU (x : V) (u : Value) : Bool := match u with
  | .none => eqV .non x
  | .bool b => eqV (.bl b) x
  | .int i _ => eqV (.int i) x
  | .str z _ => eqV (.str z) x
  | _ => false
theorem eqU_of {x y : V} {u : Value} (r : RelV y u) (f : flatV y = true) : eqU x u = eqV y x := by
  cases y with
  | non => cases r; rfl
  | bl b => cases r; rfl
  | int i => obtain ⟨t, rfl⟩ := r; rfl
  | str z => obtain ⟨t, rfl⟩ := r; rfl
  | _ => exact absurd (show false = true from f) Bool.false_ne_true
theorem any_eqU {x : V} : ∀ {xs : List V} {us : List Value}, Vals xs us → xs.all flatV = true → us.any (eqU x) = xs.any fun y => eqV y x
  | _, _, .nil, _ => rfl
  | y :: xs, u :: us, .cons r t, f => by
    rw [List.all_cons, Bool.and_eq_true] at f
    rw [List.any_cons, List.any_cons, eqU_of r f.1, any_eqU t f.2]
theorem mem_eqAt {A : Around} {s : Shared} {x : V} {v : Value} (rx : RelV x v) (fx : flatV x = true) : ∀ {xs : List V} {us : List Value}, Vals xs us → xs.all flatV = true → ∀ u ∈ us, SeqAt.EqAt A s u v (eqU x u)
  | _, _, .nil, _ => fun u hu => by cases hu
  | y :: xs, u :: us, .cons r t, f => fun u' hu => by
    rw [List.all_cons, Bool.and_eq_true] at f
    rcases List.mem_cons.mp hu with rfl | hu
    · rw [eqU_of r f.1]; exact eqAt_V r rx f.1 fx
    · exact mem_eqAt rx fx t f.2 u' hu
def inV (x : V) (xs : List V) : Bool := xs.any fun y => eqV y x
/-- x in a list or tuple of flat items -/
def rIn (K : PySem.W.Frag) (neg : Bool) : R2 := fun x y H Q => ∃ p xs, y = .ref p ∧ (SqL K H p xs ∨ SqT K H p xs) ∧ flatV x = true ∧ xs.all flatV = true ∧ Q (.bl (if neg then !inV x xs else inV x xs)) H
theorem op_in_seq : OpR X (compareOp .In) (rIn X.K false) := by
  intro pins s σ H x y v u Q I rx ry h
  obtain ⟨p, xs, rfl, hq, fx, fs, q⟩ := h
  cases ry
  rcases hq with hq | hq
  · obtain ⟨its, r, pl, hz⟩ := I.list hq
    refine SeqAt.in_listAt (eqU x) pl.isList (fun w hw => mem_eqAt rx fx r fs w (by simpa using hw)) ⟨.bl _, H, I, rfl, ?_⟩
    rw [show its.toArray.any (eqU x) = its.any (eqU x) by simp, any_eqU r fs]
    exact q
  · obtain ⟨its, r, pl, hz⟩ := I.tuple hq
    refine SeqAt.in_tupleAt (eqU x) pl (fun w hw => mem_eqAt rx fx r fs w (by simpa using hw)) ⟨.bl _, H, I, rfl, ?_⟩
    rw [show its.toArray.any (eqU x) = its.any (eqU x) by simp, any_eqU r fs]
    exact q
theorem op_notIn_seq : OpR X (compareOp .NotIn) (rIn X.K true) := by
  intro pins s σ H x y v u Q I rx ry h
  obtain ⟨p, xs, rfl, hq, fx, fs, q⟩ := h
  cases ry
  rcases hq with hq | hq
  · obtain ⟨its, r, pl, hz⟩ := I.list hq
    refine SeqAt.notIn_listAt (eqU x) pl.isList (fun w hw => mem_eqAt rx fx r fs w (by simpa using hw)) ⟨.bl _, H, I, rfl, ?_⟩
    rw [show its.toArray.any (eqU x) = its.any (eqU x) by simp, any_eqU r fs]
    exact q
  · obtain ⟨its, r, pl, hz⟩ := I.tuple hq
    refine SeqAt.notIn_tupleAt (eqU x) pl (fun w hw => mem_eqAt rx fx r fs w (by simpa using hw)) ⟨.bl _, H, I, rfl, ?_⟩
    rw [show its.toArray.any (eqU x) = its.any (eqU x) by simp, any_eqU r fs]
    exact q
theorem op_notIn_str : OpR X (compareOp .NotIn) (fun x y H Q => ∃ i j, x = .str i ∧ y = .str j ∧ Q (.bl (!(!(Builtin.Str.occurrences j i 0 j.length 1).isEmpty))) H) := by
  intro pins s σ H x y v u Q I rx ry h
  obtain ⟨i, j, rfl, rfl, q⟩ := h
  obtain ⟨t, rfl⟩ := rx
  obtain ⟨t', rfl⟩ := ry
  exact notIn_str ⟨.bl _, H, I, rfl, q⟩

/-! ### len, list(x), tuple(x) of any list or tuple that is read -/
theorem call_len_seq : CallR X (.builtin "len") (fun xs H Q => ∃ p ys, xs = [.ref p] ∧ (SqL X.K H p ys ∨ SqT X.K H p ys) ∧ Q (.int ys.length) H) := by
  intro pins s σ H xs us Q I r h
  obtain ⟨p, ys, rfl, hq, q⟩ := h
  obtain ⟨u, rfl, rx⟩ := vals1 r
  cases rx
  have hn := line63
  rcases hq with hq | hq
  · obtain ⟨its, r', pl, hz⟩ := I.list hq
    have hlen := r'.length
    exact Calls.call_len_list pl.isList (by simp only [List.size_toArray] <;> omega) ⟨.int ys.length, H, I.tok _, ⟨s.toks + 1, by rw [List.size_toArray, hlen]⟩, q⟩
  · obtain ⟨its, r', pl, hz⟩ := I.tuple hq
    have hlen := r'.length
    exact len_tuple pl (by simp only [List.size_toArray] <;> omega) ⟨.int ys.length, H, I.tok _, ⟨s.toks + 1, by rw [List.size_toArray, hlen]⟩, q⟩
theorem call_len_str : CallR X (.builtin "len") (fun xs H Q => ∃ z, xs = [.str z] ∧ z.length ≤ sizeLine ∧ Q (.int z.length) H) := by
  intro pins s σ H xs us Q I r h
  obtain ⟨z, rfl, hz, q⟩ := h
  obtain ⟨u, rfl, t, rfl⟩ := vals1 r
  have hn := line63
  exact len_str (by omega) ⟨.int z.length, H, I.tok _, ⟨_, rfl⟩, q⟩
theorem CallR.or {f : Value} {r r' : List V → Hp → VK → Prop} (h : CallR X f r) (h' : CallR X f r') : CallR X f (fun xs H Q => r xs H Q ∨ r' xs H Q) := by
  intro pins s σ H xs us Q I rs q
  rcases q with q | q
  · exact h pins s σ H xs us Q I rs q
  · exact h' pins s σ H xs us Q I rs q
theorem call_list_of : CallR X (.type "list") (fun xs H Q => ∃ p ys, xs = [.ref p] ∧ (SqL X.K H p ys ∨ SqT X.K H p ys) ∧ ∀ l, H l = none → Q (.ref l) (upd H l (.lst ys))) := by
  intro pins s σ H xs us Q I r h
  obtain ⟨p, ys, rfl, hq, q⟩ := h
  obtain ⟨u, rfl, rx⟩ := vals1 r
  cases rx
  have fin : ∀ (its : List Value), Vals ys its → ys.length ≤ sizeLine → ∀ (h' : Heap) (c' : Nat), (∀ b o', s.heap.get? b = some o' → h'.get? b = some o') →
      h'.get? s.heap.objs.size = some { cls := .type "list", dict := none, data := .seq its.toArray c', slots := #[] } → EP X pins σ Q (.ref s.heap.objs.size) { s with heap := h' } := fun its r' hz h' c' kp e =>
    ⟨.ref s.heap.objs.size, _, I.laid (t' := s.toks) kp (Nat.le_refl _) (show ObjOk X.prog X.w _ h' _ (.lst ys) from ⟨hz, its, c', r', e⟩), rfl, q _ (I.hok.fresh (Nat.le_refl _))⟩
  rcases hq with hq | hq
  · obtain ⟨its, r', pl, hz⟩ := I.list hq
    have hlen := r'.length
    obtain ⟨o, ho, hc, n, hd⟩ := pl.isList
    exact call_list_seq p (.inl rfl) ho hc hd (fun h' c' kp e => fin its r' hz h' c' kp e) (by simp only [List.size_toArray] <;> omega)
  · obtain ⟨its, r', pl, hz⟩ := I.tuple hq
    have hlen := r'.length
    obtain ⟨o, ho, hc, n, hd⟩ := pl
    exact call_list_seq p (.inr rfl) ho hc hd (fun h' c' kp e => fin its r' hz h' c' kp e) (by simp only [List.size_toArray] <;> omega)
theorem call_tuple_of : CallR X (.type "tuple") (fun xs H Q => ∃ p ys, xs = [.ref p] ∧ ((SqL X.K H p ys ∧ ∀ l, H l = none → Q (.ref l) (upd H l (.tup ys))) ∨ (SqT X.K H p ys ∧ Q (.ref p) H))) := by
  intro pins s σ H xs us Q I r h
  obtain ⟨p, ys, rfl, h⟩ := h
  obtain ⟨u, rfl, rx⟩ := vals1 r
  cases rx
  rcases h with ⟨hq, q⟩ | ⟨hq, q⟩
  · obtain ⟨its, r', pl, hz⟩ := I.list hq
    have hlen := r'.length
    refine call_tuple_list pl.isList (fun h' kp => ?_) (by simp only [List.size_toArray] <;> omega)
    have I1 : Inv X pins σ H { s with heap := h' } := I.kept (t' := s.toks) kp
    have I2 : Inv X pins σ (upd H h'.objs.size (.tup ys)) { s with heap := h'.push { cls := .type "tuple", data := .seq its.toArray } } :=
      I1.laid (t' := s.toks) (fun b o e => Heap.get?_push_of_some _ e) (Nat.le_refl _) (show ObjOk X.prog X.w _ _ _ (.tup ys) from ⟨hz, its, r', IsTup.new _ _⟩)
    exact ⟨.ref h'.objs.size, _, I2, rfl, q _ (I1.hok.fresh (Nat.le_refl _))⟩
  · obtain ⟨its, r', pl, hz⟩ := I.tuple hq
    exact call_tuple_same pl ⟨.ref p, H, I, rfl, q⟩

/-! ### the call of a builtin's method: o.m(..) -/
/-- the value is of that builtin type -/
def tyV (K : PySem.W.Frag) (T : String) (x : V) (H : Hp) : Prop := match x with
  | .str _ => T = "str"
  | .int _ => T = "int"
  | .ref p => (T = "list" ∧ ∃ xs, SqL K H p xs) ∨ (T = "tuple" ∧ ∃ o, K.lookup p = some o ∧ o.cls = .type "tuple" ∧ o.dict = none) ∨
      (T = "dict" ∧ ((∃ kvs, H p = some (.dK kvs)) ∨ ∃ kvs, H p = some (.dT kvs))) ∨ (T = "set" ∧ ∃ S n, H p = some (.set S n))
  | _ => False
theorem tyV_is {pins : List (Addr × Obj)} {σ : St} {H : Hp} {s : Shared} {T : String} {x : V} {v : Value} (I : Inv X pins σ H s) (r : RelV x v) (ty : tyV X.K T x H) :
    s.TypeIs v T ∧ ∀ a, v = .ref a → ∃ ob, s.heap.get? a = some ob ∧ ob.dict = none := by
  cases x with
  | str z =>
    obtain ⟨t, rfl⟩ := r
    cases (show T = "str" from ty)
    exact ⟨typeIs_str s z t, fun _ e => nomatch e⟩
  | int i =>
    obtain ⟨t, rfl⟩ := r
    cases (show T = "int" from ty)
    exact ⟨typeIs_int s i t, fun _ e => nomatch e⟩
  | ref p =>
    cases r
    rcases ty with ⟨rfl, xs, hq⟩ | ⟨rfl, o, hk, hc, hd⟩ | ⟨rfl, hk⟩ | ⟨rfl, S, n, hk⟩
    · obtain ⟨its, _, pl, _⟩ := I.list hq
      refine ⟨pl.isList.typeIs, fun a e => ?_⟩
      cases e
      obtain ⟨o, n, e, c, hd, _⟩ := pl
      exact ⟨o, e, hd⟩
    · refine ⟨⟨o, I.kIn p o hk, hc⟩, fun a e => ?_⟩
      cases e
      exact ⟨o, I.kIn _ o hk, hd⟩
    · have z : ∃ o, s.heap.get? p = some o ∧ o.ExactDict := by
        rcases hk with ⟨kvs, hk⟩ | ⟨kvs, hk⟩
        · obtain ⟨_, _, _, _, o, _, _, e, ex, _⟩ := I.hok p _ hk
          exact ⟨o, e, ex⟩
        · obtain ⟨_, _, _, _, o, _, _, e, ex, _⟩ := I.hok p _ hk
          exact ⟨o, e, ex⟩
      obtain ⟨o, e, ex⟩ := z
      refine ⟨⟨o, e, ex.1⟩, fun a e2 => ?_⟩
      cases e2
      exact ⟨o, e, ex.2.1⟩
    · obtain ⟨o, _, _, _, e, ex, _⟩ := I.hok p _ hk
      refine ⟨⟨o, e, ex.1⟩, fun a e2 => ?_⟩
      cases e2
      exact ⟨o, e, ex.2.1⟩
  | _ => exact False.elim ty
def tBM0 (K : PySem.W.Frag) (T : String) (r : V → List V → Hp → VK → Prop) (to : TE) : TE := fun σ H Q => to σ H fun x H1 => tyV K T x H1 ∧ r x [] H1 Q
def tBM (K : PySem.W.Frag) (T : String) (r : V → List V → Hp → VK → Prop) (to : TE) (t : TA) : TE := fun σ H Q => to σ H fun x H1 => tyV K T x H1 ∧ t σ H1 fun xs H2 => r x xs H2 Q
variable {o e : Expr} {es : List Expr} {to : TE} {t : TA} {name : Str} {apos cpos : Pos} {T id : String} {r : V → List V → Hp → VK → Prop}
theorem pe_bm0 (pa : PlainAttrs T) (slot : Slot T name id) (hty : typeOf (.builtin id) = pure (.type "method_descriptor")) (hm : MtR X id r) (ho : PE X o to)
    (hbase : attributeBase o name X.env (eval o X.env) = eval o X.env := by rfl) (hline : (apos.endLine == cpos.line) = true := by rfl) : PE X (.Call (.Attribute o name apos) [] [] cpos) (tBM0 X.K T r to) := by
  intro pins s σ H Q I h
  refine wpAny_Call_method0_late hbase hline (thn (ho pins s σ H _ I h) fun v s1 ⟨x, H1, I1, r1, ty, q1⟩ => ?_)
  obtain ⟨h1, h2⟩ := tyV_is I1 r1 ty
  exact ⟨T, id, pa, slot, hty, h1, h2, Calls.callWith_builtin rfl (PySem.evalArgs_none (hm pins s1 σ H1 x [] v [] Q I1 r1 .nil q1))⟩
theorem pe_bm (pa : PlainAttrs T) (slot : Slot T name id) (hty : typeOf (.builtin id) = pure (.type "method_descriptor")) (hm : MtR X id r) (ho : PE X o to) (ha : PA X (e :: es) t)
    (hbase : attributeBase o name X.env (eval o X.env) = eval o X.env := by rfl)
    (hfew : ((backTo cpos (starEach (e :: es) X.env)).all (fun x => !x.1) && (backToKw cpos (keywordEach [] X.env)).all (fun x => x.1.isSome)
      && decide ((e :: es).length + ([] : List Keyword).length + (if ([] : List Keyword).isEmpty then 0 else 1) < 30)) = true := by rfl)
    (hline : (apos.endLine == cpos.line) = true := by rfl) (hs : starEach (e :: es) X.env = (false, eval e X.env) :: starEach es X.env := by rfl) (hplain : (backTo cpos (starEach es X.env)).any (·.1) = false := by rfl) :
    PE X (.Call (.Attribute o name apos) (e :: es) [] cpos) (tBM X.K T r to t) := by
  intro pins s σ H Q I h
  refine wpAny_Call_method_late hbase hfew hline rfl (thn (ho pins s σ H _ I h) fun v s1 ⟨x, H1, I1, r1, ty, q1⟩ => ?_)
  obtain ⟨h1, h2⟩ := tyV_is I1 r1 ty
  refine ⟨T, id, pa, slot, hty, h1, h2, ?_⟩
  have hA := ha cpos pins s1 σ H1 _ I1 q1
  rw [hs] at hA ⊢
  refine Calls.callWith_builtin (by show (false || (backTo cpos (starEach es X.env)).any (·.1)) = false; rw [hplain] <;> rfl) (Calls.evalArgs_plain ?_)
  exact thn hA fun us s2 ⟨vs, H2, I2, r2, q2⟩ => hm pins s2 σ H2 x vs v us Q I2 r1 r2 q2
/- xs.append(e), list.index on a module's tuple .. are MtR facts of 06m -/
end
end L2

namespace L2
open PySem PySem.Spec PyProof.Rows

def MtM (X : Cx) (id : String) (r : V → List V → Hp → VK → Prop) : Prop :=
  ∀ (pins : List (Addr × Obj)) (s : Shared) (σ : St) (H : Hp) (x : V) (xs : List V) (v : Value) (us : List Value) (Q : VK), Inv X pins σ H s → RelV x v → Vals xs us → r x xs H Q →
    wpAny (model X.prog X.w) X.A (call (.builtin id) (v :: us)) (EP X pins σ Q) X.xe s

/-! ### lists of values -/
theorem Vals.one : ∀ {x : V} {us : List Value}, Vals [x] us → ∃ u, us = [u] ∧ RelV x u
  | _, _, .cons r .nil => ⟨_, rfl, r⟩
theorem Vals.two : ∀ {x y : V} {us : List Value}, Vals [x, y] us → ∃ u v, us = [u, v] ∧ RelV x u ∧ RelV y v
  | _, _, _, .cons r (.cons q .nil) => ⟨_, _, rfl, r, q⟩
theorem Vals.zero : ∀ {us : List Value}, Vals [] us → us = []
  | _, .nil => rfl
theorem Vals.dropLast {xs : List V} {us : List Value} (h : Vals xs us) : Vals xs.dropLast us.dropLast := by
  induction h with
  | nil => exact .nil
  | cons r t ih =>
    cases t with
    | nil => exact .nil
    | cons q t' => exact .cons r ih
theorem Vals.eraseIdx : ∀ {xs : List V} {us : List Value} (i : Nat), Vals xs us → Vals (xs.eraseIdx i) (us.eraseIdx i)
  | _, _, _, .nil => .nil
  | _, _, 0, .cons _ t => t
  | _, _, i + 1, .cons r t => .cons r (Vals.eraseIdx i t)
theorem Vals.reverse {xs : List V} {us : List Value} (h : Vals xs us) : Vals xs.reverse us.reverse := by
  induction h with
  | nil => exact .nil
  | cons r t ih => rw [List.reverse_cons, List.reverse_cons]; exact Vals.append ih (.cons r .nil)
theorem Vals.rep {xs : List V} {us : List Value} (h : Vals xs us) : ∀ k : Nat, Vals (List.replicate k xs).flatten (List.replicate k us).flatten
  | 0 => .nil
  | k + 1 => by
    rw [List.replicate_succ, List.replicate_succ, List.flatten_cons, List.flatten_cons]
    exact Vals.append h (Vals.rep h k)
theorem erase_last {α : Type} (l : List α) : l.eraseIdx (l.length - 1) = l.dropLast := by
  induction l with
  | nil => rfl
  | cons a r ih =>
    cases r with
    | nil => rfl
    | cons b r =>
      have e : (a :: b :: r).length - 1 = ((b :: r).length - 1) + 1 := by
        have h1 : (a :: b :: r).length = r.length + 2 := rfl
        have h2 : (b :: r).length = r.length + 1 := rfl
        omega
      rw [e, List.eraseIdx_cons_succ, ih]
      all_goals rfl
theorem len_erase {α : Type} : ∀ (l : List α) (i : Nat), (l.eraseIdx i).length ≤ l.length
  | [], _ => Nat.le_refl _
  | _ :: _, 0 => Nat.le_succ _
  | _ :: r, i + 1 => Nat.succ_le_succ (len_erase r i)
theorem foldl_rep (its : List Value) : ∀ (k : Nat) (acc : List Value),
    List.foldl (fun x1 x2 => x1 ++ x2) acc.toArray (List.replicate k its.toArray) = (acc ++ (List.replicate k its).flatten).toArray
  | 0, acc => by simp
  | k + 1, acc => by
    have e : acc.toArray ++ its.toArray = (acc ++ its).toArray := by simp
    have e2 : (acc ++ its) ++ (List.replicate k its).flatten = acc ++ (List.replicate (k + 1) its).flatten := by
      rw [List.replicate_succ, List.flatten_cons, List.append_assoc]
    rw [← e2, ← foldl_rep its k (acc ++ its), ← e, List.replicate_succ, List.foldl_cons]

section
variable {X : Cx} {pins : List (Addr × Obj)} {σ : St} {H : Hp} {s : Shared} {l b : Addr} {xs ys zs : List V}

/-! ### the two steps: a tracked list is rewritten, a new list is laid -/
theorem Inv.lset {its its' : List Value} {n : Nat} {f : Array Value → Array Value} {t' : Nat} (I : Inv X pins σ H s) (hH : H l = some (.lst xs))
    (e : s.heap.get? l = some { cls := .type "list", data := .seq its.toArray n }) (hf : f its.toArray = its'.toArray) (hv : Vals ys its') (hz : ys.length ≤ sizeLine) :
    Inv X pins σ (upd H l (.lst ys)) { s with heap := s.heap.update l (Obj.mapSeq f), toks := t' } := by
  have q := PySem.IsL.update e f
  rw [hf] at q
  refine I.write (x := l) (e := l) (by rw [hH]; exact trivial) (.inl rfl) (fun b' u hb hu => (Heap.get?_update_other s.heap (Obj.mapSeq f) (Ne.symm hb)).trans hu) ⟨_, q⟩ ?_
  exact ⟨hz, its', _, hv, q⟩
theorem Inv.lnew {its : List Value} {t' : Nat} (I : Inv X pins σ H s) (hv : Vals ys its) (hz : ys.length ≤ sizeLine) :
    Inv X pins σ (upd H s.heap.objs.size (.lst ys)) { s with heap := s.heap.push { cls := .type "list", data := .seq its.toArray }, toks := t' } :=
  I.laid (fun _ _ q => Heap.get?_push_of_some _ q) (Nat.le_refl _) ⟨hz, its, 0, hv, Heap.get?_push_size _ rfl⟩
theorem Inv.fresh (I : Inv X pins σ H s) : H s.heap.objs.size = none := I.hok.fresh (Nat.le_refl _)
theorem Inv.lstM (I : Inv X pins σ H s) (hH : H l = some (.lst xs)) : xs.length ≤ sizeLine ∧ ∃ (its : List Value) (n : Nat), Vals xs its ∧ xs.length = its.length ∧ s.heap.get? l = some { cls := .type "list", data := .seq its.toArray n } := by
  obtain ⟨z, its, n, r, e⟩ := I.hok l _ hH
  exact ⟨z, its, n, r, r.length, e⟩

theorem notLongL {n : Nat} (h : n ≤ sizeLine) : Builtin.List.listTooLong n = false := by
  unfold Builtin.List.listTooLong
  exact decide_eq_false (by omega)
end

section
variable {X : Cx}

/-! ### methods -/
def rAppend : V → List V → Hp → VK → Prop := fun x vs H Q => ∃ l xs y, x = .ref l ∧ vs = [y] ∧ H l = some (.lst xs) ∧ xs.length < sizeLine ∧ Q .non (upd H l (.lst (xs ++ [y])))
theorem mt_append : MtM X "list.append" rAppend := by
  intro pins s σ H x vs v us Q I rx rv h
  obtain ⟨l, xs, y, rfl, rfl, hH, hz, q⟩ := h
  cases rx
  obtain ⟨u, rfl, ru⟩ := rv.one
  obtain ⟨z, its, n, r, hl, e⟩ := I.lstM hH
  refine call_meets F.slot_list_append ⟨_, e, rfl⟩ F.entry_list_append (F.args_list_append_2 _ _) (PySem.list_append l its.toArray n u (by rw [List.size_toArray]; omega)) ⟨e, ?_⟩
  refine ⟨.non, _, I.lset (its' := its ++ [u]) hH e (by simp) (r.append (.cons ru .nil)) ?_, rfl, q⟩
  rw [List.length_append, List.length_singleton]
  omega

def rExtend : V → List V → Hp → VK → Prop := fun x vs H Q => ∃ l b xs zs, x = .ref l ∧ vs = [.ref b] ∧ H l = some (.lst xs) ∧ H b = some (.lst zs) ∧ xs.length + zs.length ≤ sizeLine ∧ Q .non (upd H l (.lst (xs ++ zs)))
theorem mt_extend : MtM X "list.extend" rExtend := by
  intro pins s σ H x vs v us Q I rx rv h
  obtain ⟨l, b, xs, zs, rfl, rfl, hH, hB, hz, q⟩ := h
  cases rx
  obtain ⟨u, rfl, ru⟩ := rv.one
  cases ru
  obtain ⟨z, its, n, r, hl, e⟩ := I.lstM hH
  obtain ⟨z2, its2, n2, r2, hl2, e2⟩ := I.lstM hB
  have hsz : its.toArray.size + its2.toArray.size ≤ sizeLine := by rw [List.size_toArray, List.size_toArray]; omega
  have hlong : ¬ (!its.toArray.isEmpty && Builtin.List.listTooLong (its.toArray.size + its2.toArray.size)) = true := by
    rw [notLongL hsz, Bool.and_false]
    exact Bool.false_ne_true
  refine call_meets F.slot_list_extend ⟨_, e, rfl⟩ F.entry_list_extend (F.args_list_extend_2 _ _)
    (AutoSeq1.list_extend_list_list_0 l its.toArray n b its2.toArray n2 hlong (by rw [List.size_toArray]; omega) (by omega)) ⟨e, e2, ?_⟩
  refine ⟨.non, _, I.lset (its' := its ++ its2) hH e (by simp) (r.append r2) ?_, rfl, q⟩
  rw [List.length_append]
  omega

def rPop : V → List V → Hp → VK → Prop := fun x vs H Q => ∃ l xs y, x = .ref l ∧ vs = [] ∧ H l = some (.lst xs) ∧ xs[xs.length - 1]? = some y ∧ Q y (upd H l (.lst xs.dropLast))
theorem mt_pop : MtM X "list.pop" rPop := by
  intro pins s σ H x vs v us Q I rx rv h
  obtain ⟨l, xs, y, rfl, rfl, hH, hy, q⟩ := h
  cases rx
  have hus := rv.zero
  subst hus
  obtain ⟨z, its, n, r, hl, e⟩ := I.lstM hH
  obtain ⟨u, hu, ru⟩ := r.get hy
  have hy' : its.toArray[its.toArray.size - 1]? = some u := by
    show its.toArray[its.length - 1]? = some u
    rw [← Array.getElem?_toList, ← hl]
    exact hu
  refine call_meets F.slot_list_pop ⟨_, e, rfl⟩ F.entry_list_pop (F.args_list_pop_1 _) (MeetsSeq.list_pop_last l its.toArray n u hy' (by rw [List.size_toArray]; omega)) ⟨e, ?_⟩
  refine ⟨y, _, I.lset (its' := its.dropLast) hH e ?_ r.dropLast ?_, ru, q⟩
  · show its.toArray.eraseIdxIfInBounds (its.toArray.size - 1) = its.dropLast.toArray
    rw [List.size_toArray, List.eraseIdxIfInBounds_toArray, erase_last]
  · rw [List.length_dropLast]
    omega

def rPopAt : V → List V → Hp → VK → Prop := fun x vs H Q => ∃ l xs i k y, x = .ref l ∧ vs = [.int i] ∧ H l = some (.lst xs) ∧ -(2 ^ 63) ≤ i ∧ i < 2 ^ 63 ∧ seqIndex? i xs.length = some k ∧ xs[k]? = some y ∧ Q y (upd H l (.lst (xs.eraseIdx k)))
theorem mt_popAt : MtM X "list.pop" rPopAt := by
  intro pins s σ H x vs v us Q I rx rv h
  obtain ⟨l, xs, i, k, y, rfl, rfl, hH, h1, h2, hk, hy, q⟩ := h
  cases rx
  obtain ⟨u, rfl, ru⟩ := rv.one
  obtain ⟨t, rfl⟩ := ru
  obtain ⟨z, its, n, r, hl, e⟩ := I.lstM hH
  obtain ⟨w, hw, rw'⟩ := r.get hy
  refine call_meets F.slot_list_pop ⟨_, e, rfl⟩ F.entry_list_pop (F.args_list_pop_2 _ _)
    (MeetsSeq.list_pop_at l its.toArray n i t k w (fitsIndex_both h1 h2) (by rw [List.size_toArray, ← hl]; exact hk) (by rw [← Array.getElem?_toList]; exact hw) (by rw [List.size_toArray]; omega)) ⟨e, ?_⟩
  refine ⟨y, _, I.lset (its' := its.eraseIdx k) hH e ?_ (r.eraseIdx k) ?_, rw', q⟩
  · show its.toArray.eraseIdxIfInBounds k = (its.eraseIdx k).toArray
    rw [List.eraseIdxIfInBounds_toArray]
  · have := len_erase xs k
    omega

def rReverse : V → List V → Hp → VK → Prop := fun x vs H Q => ∃ l xs, x = .ref l ∧ vs = [] ∧ H l = some (.lst xs) ∧ Q .non (upd H l (.lst xs.reverse))
theorem mt_reverse : MtM X "list.reverse" rReverse := by
  intro pins s σ H x vs v us Q I rx rv h
  obtain ⟨l, xs, rfl, rfl, hH, q⟩ := h
  cases rx
  have hus := rv.zero
  subst hus
  obtain ⟨z, its, n, r, hl, e⟩ := I.lstM hH
  refine call_meets F.slot_list_reverse ⟨_, e, rfl⟩ F.entry_list_reverse (F.args_list_reverse_1 _) (AutoSeq1.list_reverse_list_0 l its.toArray n (by rw [List.size_toArray]; omega)) ⟨e, ?_⟩
  refine ⟨.non, _, I.lset (its' := its.reverse) hH e (by simp) r.reverse ?_, rfl, q⟩
  rw [List.length_reverse]
  omega

def rClear : V → List V → Hp → VK → Prop := fun x vs H Q => ∃ l xs, x = .ref l ∧ vs = [] ∧ H l = some (.lst xs) ∧ Q .non (upd H l (.lst []))
theorem mt_clear : MtM X "list.clear" rClear := by
  intro pins s σ H x vs v us Q I rx rv h
  obtain ⟨l, xs, rfl, rfl, hH, q⟩ := h
  cases rx
  have hus := rv.zero
  subst hus
  obtain ⟨z, its, n, r, hl, e⟩ := I.lstM hH
  refine call_meets F.slot_list_clear ⟨_, e, rfl⟩ F.entry_list_clear (F.args_list_clear_1 _) (AutoSeq1.list_clear_list_0 l its.toArray n (by rw [List.size_toArray]; omega)) ⟨e, ?_⟩
  exact ⟨.non, _, I.lset (its' := []) (ys := []) hH e rfl .nil (Nat.zero_le _), rfl, q⟩

/-! ### list + list, list += list, list * int -/
def rCat : R2 := fun x y H Q => ∃ l b xs zs, x = .ref l ∧ y = .ref b ∧ H l = some (.lst xs) ∧ H b = some (.lst zs) ∧ xs.length + zs.length ≤ sizeLine ∧ ∀ p, H p = none → Q (.ref p) (upd H p (.lst (xs ++ zs)))
theorem op_cat : OpR X (binaryOp .Add) rCat := by
  intro pins s σ H x y v u Q I rx ry h
  obtain ⟨l, b, xs, zs, rfl, rfl, hH, hB, hz, q⟩ := h
  cases rx
  cases ry
  obtain ⟨z, its, n, r, hl, e⟩ := I.lstM hH
  obtain ⟨z2, its2, n2, r2, hl2, e2⟩ := I.lstM hB
  refine PySem.P.add_list e e2 ?_ (by rw [List.size_toArray, List.size_toArray]; omega)
  have ea : its.toArray ++ its2.toArray = (its ++ its2).toArray := by simp
  rw [ea]
  exact ⟨.ref _, _, I.lnew (t' := s.toks) (r.append r2) (by rw [List.length_append]; omega), rfl, q _ I.fresh⟩
/-- a list times an int (a negative one is nothing) -/
def rRep : R2 := fun x y H Q => ∃ l k xs, x = .ref l ∧ y = .int k ∧ H l = some (.lst xs) ∧ -(2 ^ 63) ≤ k ∧ k < 2 ^ 63 ∧ xs.length * k.toNat ≤ sizeLine ∧
  ∀ p, H p = none → Q (.ref p) (upd H p (.lst (List.replicate k.toNat xs).flatten))
theorem len_rep {α : Type} (xs : List α) (k : Nat) : (List.replicate k xs).flatten.length = k * xs.length := by
  induction k with
  | zero => simp
  | succ k ih => rw [List.replicate_succ, List.flatten_cons, List.length_append, ih, Nat.succ_mul, Nat.add_comm]
theorem op_rep : OpR X (binaryOp .Mult) rRep := by
  intro pins s σ H x y v u Q I rx ry h
  obtain ⟨l, k, xs, rfl, rfl, hH, h1, h2, hz, q⟩ := h
  cases rx
  obtain ⟨t, rfl⟩ := ry
  obtain ⟨z, its, n, r, hl, e⟩ := I.lstM hH
  have hlen : its.toArray.size * k.toNat ≤ sizeLine := by rw [List.size_toArray, ← hl]; exact hz
  have hcap : ¬ its.toArray.size * k.toNat > (2 ^ 63 - 1) / 8 := by
    have : (sizeLine : Nat) ≤ (2 ^ 63 - 1) / 8 := by decide
    omega
  have hfit : ¬ (!Builtin.List.listFitsIndex k) = true := by
    rw [fitsIndex_both h1 h2]
    exact Bool.false_ne_true
  have hlong : ¬ Builtin.List.listTooLong (its.toArray.size * k.toNat) = true := by
    rw [notLongL hlen]
    exact Bool.false_ne_true
  have hnew : List.foldl (fun x1 x2 => x1 ++ x2) #[] (List.replicate (if its.toArray.isEmpty = true then 0 else k.toNat) its.toArray) = (List.replicate k.toNat its).flatten.toArray := by
    have f0 : ∀ m : Nat, List.foldl (fun x1 x2 => x1 ++ x2) #[] (List.replicate m its.toArray) = (List.replicate m its).flatten.toArray := fun m => by
      have := foldl_rep its m []
      rw [List.nil_append] at this
      exact this
    rw [f0]
    cases its with
    | nil => simp
    | cons a r' => rw [if_neg (by simp)]
  refine wpAny_binaryOp_repeat_ref (T := "list") (U := "int") (by decide) ⟨_, e, rfl⟩ (fun s' => typeIs_int s' k t) noFill_list_mul F.fills_int_mul F.slot_int_rmul repeat_list F.slot_int_index.lookup
    (call_meets F.slot_int_rmul (typeIs_int s k t) F.entry_int_rmul (F.args_int_rmul_2 _ _) (int___rmul___int_list k t l its.toArray n)
      ⟨e, rfl, ⟨_, e, rfl⟩, call_meets F.slot_list_mul ⟨_, e, rfl⟩ F.entry_list_mul (F.args_list_mul_2 _ _) (AutoListH.list___mul___list_int_3 l its.toArray n k t hfit hcap hlong) ⟨e, ?_⟩⟩)
  rw [hnew]
  exact ⟨.ref _, _, I.lnew (t' := s.toks) (r.rep k.toNat) (by rw [len_rep, Nat.mul_comm]; exact hz), rfl, q _ I.fresh⟩

/-! ### del xs[i] -/
theorem del_list {pins : List (Addr × Obj)} {s : Shared} {σ : St} {H : Hp} {l : Addr} {xs : List V} {i : Int} {t : Tok} {k : Nat} {Q : Unit → Shared → Prop} (I : Inv X pins σ H s) (hH : H l = some (.lst xs))
    (h1 : -(2 ^ 63) ≤ i) (h2 : i < 2 ^ 63) (hk : seqIndex? i xs.length = some k) (h : ∀ s', Inv X pins σ (upd H l (.lst (xs.eraseIdx k))) s' → Q () s') :
    wpAny (model X.prog X.w) X.A (delItem (.ref l) (.int i t)) Q X.xe s := by
  obtain ⟨z, its, n, r, hl, e⟩ := I.lstM hH
  refine PySem.P.delItem_list (k := k) e (fitsIndex_both h1 h2) (by rw [List.size_toArray, ← hl]; exact hk) (h _ ?_) (by rw [List.size_toArray]; omega)
  refine I.lset (its' := its.eraseIdx k) (t' := s.toks) hH e ?_ (r.eraseIdx k) ?_
  · show its.toArray.eraseIdxIfInBounds k = (its.eraseIdx k).toArray
    rw [List.eraseIdxIfInBounds_toArray]
  · have := len_erase xs k
    omega
end

/-! ### xs[a:b] = ys -/
section
variable {prog : Program} {w : World} {A : Around} {E : Value → Shared → Prop} {s : Shared}
theorem splice_eq (its its2 : List Value) (a c : Nat) : its.toArray.extract 0 a ++ its2.toArray ++ its.toArray.extract c its.toArray.size = (its.take a ++ its2 ++ its.drop c).toArray := by
  apply Array.toList_inj.mp
  first
    | (simp
       exact List.take_of_length_le (by simp))
    | simp [List.take_of_length_le]
    | simp
theorem bounds_run {a c n : Nat} (hac : a ≤ c) (hc : c ≤ n) : sliceBounds (some (a : Int)) (some (c : Int)) none n = ((a : Int), (c : Int), 1) := by
  simp only [sliceBounds, Option.getD_none]
  have h1 : ¬ ((a : Int) < 0) := by omega
  have h2 : ¬ ((c : Int) < 0) := by omega
  simp only [h1, h2, if_false, show (1 : Int) > 0 by decide, if_true]
  congr 1
  · omega
  · congr 1; omega
set_option maxRecDepth 100000 in
/-- list.__setitem__ with a slice of step one and another list -/
theorem setItem_slice {l b sl : Addr} {items new : Array Value} {n n2 : Nat} {vl vu : Value} {a c : Nat} {Q : Unit → Shared → Prop}
    (e : s.heap.get? l = some { cls := .type "list", data := .seq items n }) (e2 : s.heap.get? b = some { cls := .type "list", data := .seq new n2 }) (hne : l ≠ b)
    (hs : s.heap.IsSliceOf sl vl vu .none) (pl : IsPart vl (some (a : Int))) (pu : IsPart vu (some (c : Int))) (hac : a ≤ c) (hc : c ≤ items.size)
    (hsz : items.size + new.size ≤ sizeLine) (h : Q () { s with heap := s.heap.update l (Obj.mapSeq fun xs => xs.extract 0 a ++ new ++ xs.extract c xs.size) }) :
    wpAny (model prog w) A (setItem (.ref l) (.ref sl) (.ref b)) Q E s := by
  have hl : s.heap.IsList l items := PySem.IsL.isList e
  have hb : s.heap.IsList b new := PySem.IsL.isList e2
  obtain ⟨os, hos, hcs, hds⟩ := id hs
  have hTs : s.TypeIs (.ref sl) "slice" := ⟨os, hos, hcs⟩
  have hstep : ¬ ((rawPart none == rawInt 0) = true) := Bool.false_ne_true
  have hsame : Builtin.List.listSameRef (.ref l) (.ref b) = false := by
    unfold Builtin.List.listSameRef
    exact beq_eq_false_iff_ne.mpr hne
  have hmax : (max (a : Int) (c : Int)).toNat = c := by omega
  have hz' : ((fun xs : Array Value => xs.extract 0 a ++ new ++ xs.extract c xs.size) items).size ≤ sizeLine + 1 := by
    simp only [Array.size_append, Array.size_extract]
    omega
  unfold setItem
  try with_reducible refine wpAny_holding ?_
  first | refine wpAny_bind (wpAny_pure ?_) | skip
  refine wpAny_bind (wpAny_sequenceKey hl.typeIs (by decide) ?_)
  refine wpAny_bind (wpAny_callSpecial?_slot (name := Str.ofString "__setitem__") hl.typeIs slot_list_setitem
    (wpAny_call_entry slot_list_setitem hl.typeIs entry_list_setitem ?_ (args_list_setitem _ _ _)))
  show wpAny _ _ (Builtin.List.listSubscript? (.ref sl) >>= _) _ _ s
  refine wpAny_bind ?_
  unfold Builtin.List.listSubscript?
  refine wpAny_bind (wpAny_specialOf hTs slice_no_index ?_)
  simp only [Option.isNone_none, if_true]
  refine wpAny_pure ?_
  show wpAny _ _ (typeOf (.ref sl) >>= _) _ _ s
  refine wpAny_bind (wpAny_typeOf hTs ?_)
  first
    | rw [if_neg (by decide)]
    | refine PySem.W.KFB.if_not (by decide) ?_
  rw [listSliceParts_eq]
  refine wpAny_bind (wpAny_bind (wpAny_field hos hds (x := .none) rfl (wpAny_bind (wpAny_listPart .none ?_))))
  rw [if_neg hstep]
  refine wpAny_bind (wpAny_field hos hds (x := vl) rfl (wpAny_bind (wpAny_listPart pl ?_)))
  refine wpAny_bind (wpAny_field hos hds (x := vu) rfl (wpAny_bind (wpAny_listPart pu (wpAny_pure ?_))))
  first
    | simp only [hsame, Bool.false_eq_true, if_false]
    | refine PySem.W.KFB.if_not hsame ?_
    | (dsimp only
       rw [if_neg (by rw [hsame]; exact Bool.false_ne_true)])
  refine wpAny_bind (m := Builtin.List.listAllItems (.ref b) "must assign iterable to extended slice") ?_
  unfold Builtin.List.listAllItems
  refine wpAny_bind (wpAny_typeOf hb.typeIs ?_)
  first
    | refine PySem.W.KFB.if_so (by decide) ?_
    | rw [if_pos (by decide)]
    | simp only [beq_self_eq_true, Bool.true_or, if_true]
  unfold Builtin.List.listItems
  refine wpAny_bind (wpAny_seqItems e2 rfl (wpAny_pure ?_))
  refine wpAny_bind (wpAny_bind (wpAny_seqItems e rfl (wpAny_pure ?_)))
  refine wpAny_bind (wpAny_of_eq ((sliceIndices_raw (some (a : Int)) (some (c : Int)) none items.size (by simp)).trans (congrArg (pure : Int × Int × Int → Sem (Int × Int × Int)) (bounds_run hac hc))) ?_)
  show wpAny _ _ (if ((1 : Int) == 1) = true then _ else _) _ _ s
  rw [if_pos (by decide)]
  refine wpAny_bind (wpAny_rule ?_)
  first
    | simp only [notLongL hsz, Bool.false_eq_true, if_false]
    | refine PySem.W.KFB.if_not (notLongL hsz) ?_
  first | refine wpAny_bind (wpAny_pure ?_) | skip
  show wpAny _ _ (updateSeq l (fun xs => xs.extract 0 ((a : Int)).toNat ++ new ++ xs.extract (max (a : Int) (c : Int)).toNat xs.size) >>= _) _ _ s
  rw [hmax, Int.toNat_natCast]
  refine wpAny_bind (wpAny_updateSeq (hz := Nat.le_trans (Nat.le_add_right _ _) hsz) (_hz' := hz') e rfl ?_)
  refine wpAny_bind (wpAny_letGo ?_)
  first
    | exact wpAny_bind (wpAny_pure (wpAny_pure ⟨.none, rfl, wpAny_pure h⟩))
    | exact wpAny_pure ⟨.none, rfl, wpAny_pure h⟩
end

section
variable {X : Cx}
/-- xs[a:c] = ys of another list, at the value level: sl is the slice object that was just made -/
theorem set_slice {pins : List (Addr × Obj)} {s : Shared} {σ : St} {H : Hp} {l b sl : Addr} {xs ys : List V} {a c : Int} {vl vu : Value} {Q : Unit → Shared → Prop} (I : Inv X pins σ H s)
    (hH : H l = some (.lst xs)) (hB : H b = some (.lst ys)) (hne : l ≠ b) (hs : s.heap.IsSliceOf sl vl vu .none) (ra : RelV (.int a) vl) (rc : RelV (.int c) vu) (h0 : 0 ≤ a) (hac : a ≤ c) (hc : c ≤ xs.length)
    (hz : xs.length + ys.length ≤ sizeLine) (h : ∀ s', Inv X pins σ (upd H l (.lst (xs.take a.toNat ++ ys ++ xs.drop c.toNat))) s' → Q () s') :
    wpAny (model X.prog X.w) X.A (setItem (.ref l) (.ref sl) (.ref b)) Q X.xe s := by
  obtain ⟨ta, rfl⟩ := ra
  obtain ⟨tc, rfl⟩ := rc
  obtain ⟨z, its, n, r, hl, e⟩ := I.lstM hH
  obtain ⟨z2, its2, n2, r2, hl2, e2⟩ := I.lstM hB
  obtain ⟨a', rfl⟩ := Int.eq_ofNat_of_zero_le h0
  obtain ⟨c', rfl⟩ := Int.eq_ofNat_of_zero_le (Int.le_trans h0 hac)
  simp only [Int.toNat_natCast] at h
  refine setItem_slice (a := a') (c := c') e e2 hne hs (.int _ _) (.int _ _) (by omega) (by rw [List.size_toArray]; omega) (by rw [List.size_toArray, List.size_toArray]; omega) (h _ ?_)
  refine I.lset (its' := its.take a' ++ its2 ++ its.drop c') (t' := s.toks) hH e ?_ (Vals.append (Vals.append (r.take _) r2) (r.drop _)) ?_
  · exact splice_eq its its2 a' c'
  · rw [List.length_append, List.length_append, List.length_take, List.length_drop]
    omega
end
end L2

namespace L2
open PySem PySem.Spec PyProof.Rows

/-! ### lists of pairs as tables -/
section
variable {κ : Type} [DecidableEq κ]
def valV (kvs : List (κ × V)) (k : κ) : Option V := (kvs.find? fun kv => decide (kv.1 = k)).map (·.2)
/-- in its place, or at the end -/
def putK (kvs : List (κ × V)) (k : κ) (v : V) : List (κ × V) :=
  if (kvs.any fun kv => decide (kv.1 = k)) = true then kvs.map (fun kv => if kv.1 = k then (kv.1, v) else kv) else kvs ++ [(k, v)]
def dropK (kvs : List (κ × V)) (k : κ) : List (κ × V) := kvs.filter fun kv => decide (kv.1 ≠ k)

theorem valV_nil {k : κ} : valV ([] : List (κ × V)) k = none := rfl
theorem valV_pos {p : κ × V} {r : List (κ × V)} {k : κ} (e : p.1 = k) : valV (p :: r) k = some p.2 := by simp [valV, List.find?_cons, e]
theorem valV_neg {p : κ × V} {r : List (κ × V)} {k : κ} (e : ¬ p.1 = k) : valV (p :: r) k = valV r k := by simp [valV, List.find?_cons, e]
theorem valV_any (k : κ) : ∀ kvs : List (κ × V), (kvs.any fun kv => decide (kv.1 = k)) = (valV kvs k).isSome
  | [] => rfl
  | p :: r => by
    rw [List.any_cons]
    by_cases e : p.1 = k
    · simp only [valV_pos e, decide_eq_true e, Bool.true_or, Option.isSome_some]
    · rw [valV_neg e, decide_eq_false e, Bool.false_or]; exact valV_any k r
theorem valV_map (k j : κ) (y : V) : ∀ kvs : List (κ × V), valV (kvs.map fun kv => if kv.1 = k then (kv.1, y) else kv) j = (valV kvs j).map fun x => if j = k then y else x
  | [] => rfl
  | p :: r => by
    have ih := valV_map k j y r
    rw [List.map_cons]
    by_cases h : p.1 = k
    · rw [if_pos h]
      by_cases e : p.1 = j
      · rw [valV_pos (p := (p.1, y)) e, valV_pos e, Option.map_some, if_pos (e.symm.trans h)]
      · rw [valV_neg (p := (p.1, y)) e, valV_neg e, ih]
    · rw [if_neg h]
      by_cases e : p.1 = j
      · rw [valV_pos (p := p) e, valV_pos e, Option.map_some, if_neg (fun z => h (e.trans z))]
      · rw [valV_neg (p := p) e, valV_neg e, ih]
theorem valV_snoc (k j : κ) (y : V) : ∀ kvs : List (κ × V), valV kvs k = none → valV (kvs ++ [(k, y)]) j = if j = k then some y else valV kvs j
  | [], _ => by
    by_cases e : k = j
    · rw [if_pos e.symm]; exact valV_pos (p := (k, y)) e
    · rw [if_neg (fun z => e z.symm)]; exact valV_neg (p := (k, y)) e
  | p :: r, hn => by
    rw [List.cons_append]
    have hk : ¬ p.1 = k := fun z => by rw [valV_pos z] at hn; cases hn
    rw [valV_neg hk] at hn
    have ih := valV_snoc k j y r hn
    by_cases e : p.1 = j
    · rw [valV_pos e, valV_pos e, if_neg (fun z => hk (e.trans z))]
    · rw [valV_neg e, valV_neg e, ih]
theorem valV_put (kvs : List (κ × V)) (k j : κ) (y : V) : valV (putK kvs k y) j = if j = k then some y else valV kvs j := by
  unfold putK
  by_cases a : (kvs.any fun kv => decide (kv.1 = k)) = true
  · rw [if_pos a, valV_map]
    rw [valV_any] at a
    by_cases e : j = k
    · obtain ⟨x, hx⟩ := Option.isSome_iff_exists.mp a
      rw [if_pos e, e, hx, Option.map_some, if_pos rfl]
    · rw [if_neg e]
      cases valV kvs j with
      | none => rfl
      | some x => rw [Option.map_some, if_neg e]
  · rw [if_neg a]
    refine valV_snoc k j y kvs ?_
    rw [valV_any] at a
    cases q : valV kvs k with
    | none => rfl
    | some x => rw [q] at a; exact (a rfl).elim
theorem length_putK (kvs : List (κ × V)) (k : κ) (v : V) : (putK kvs k v).length ≤ kvs.length + 1 := by
  unfold putK
  split
  · rw [List.length_map]; omega
  · rw [List.length_append, List.length_cons, List.length_nil]; omega
theorem putK_new {kvs : List (κ × V)} {k : κ} (v : V) (h : valV kvs k = none) : putK kvs k v = kvs ++ [(k, v)] := by
  unfold putK
  rw [valV_any, h]
  exact if_neg (by decide)

theorem RelO.isSome_eq {o : Option V} {u : Option Value} (r : RelO o u) : o.isSome = u.isSome := by
  cases o with
  | none => cases u with
    | none => rfl
    | some _ => exact (show False from r).elim
  | some _ => cases u with
    | none => exact (show False from r).elim
    | some _ => rfl
theorem RelO.getD {o : Option V} {u : Option Value} {d : V} {d' : Value} (r : RelO o u) (rd : RelV d d') : RelV (o.getD d) (u.getD d') := by
  cases o with
  | none => cases u with
    | none => exact rd
    | some _ => exact (show False from r).elim
  | some _ => cases u with
    | none => exact (show False from r).elim
    | some _ => exact r

/-- raw tables of the same keys -/
theorem KV.val {kvs : List (κ × V)} {vs : List (κ × Value)} (r : KV kvs vs) (k : κ) : RelO (valV kvs k) (valueAt vs k) := by
  unfold KV at r
  induction r with
  | nil => exact True.intro
  | @cons p q ps qs h t ih =>
    obtain ⟨h1, h2⟩ := h
    by_cases e : p.1 = k
    · have e' : q.1 = k := h1.symm.trans e
      have b : valueAt (q :: qs) k = some q.2 := by simp [valueAt, List.find?_cons, e']
      rw [valV_pos e, b]; exact h2
    · have e' : ¬ q.1 = k := fun z => e (h1.trans z)
      have b : valueAt (q :: qs) k = valueAt qs k := by simp [valueAt, List.find?_cons, e']
      rw [valV_neg e, b]; exact ih
theorem KV.any {kvs : List (κ × V)} {vs : List (κ × Value)} (r : KV kvs vs) (k : κ) : (kvs.any fun kv => decide (kv.1 = k)) = vs.any fun kv => decide (kv.1 = k) := by
  unfold KV at r
  induction r with
  | nil => rfl
  | cons h t ih => rw [List.any_cons, List.any_cons, ih, h.1]
theorem KV.repl {kvs : List (κ × V)} {vs : List (κ × Value)} (r : KV kvs vs) (k : κ) {y : V} {u : Value} (ry : RelV y u) :
    KV (kvs.map fun kv => if kv.1 = k then (kv.1, y) else kv) (vs.map fun kv => if kv.1 = k then (kv.1, u) else kv) := by
  unfold KV at r ⊢
  induction r with
  | nil => exact .nil
  | @cons p q ps qs h t ih =>
    rw [List.map_cons, List.map_cons]
    refine .cons ?_ ih
    obtain ⟨h1, h2⟩ := h
    by_cases e : p.1 = k
    · rw [if_pos e, if_pos (h1.symm.trans e)]; exact ⟨h1, ry⟩
    · rw [if_neg e, if_neg (fun z => e (h1.trans z))]; exact ⟨h1, h2⟩
theorem KV.put {kvs : List (κ × V)} {vs : List (κ × Value)} (r : KV kvs vs) (k : κ) {y : V} {u : Value} (ry : RelV y u) : KV (putK kvs k y) (stored vs k u) := by
  unfold putK stored
  rw [r.any k]
  by_cases e : (vs.any fun kv => decide (kv.1 = k)) = true
  · rw [if_pos e, if_pos e]; exact r.repl k ry
  · rw [if_neg e, if_neg e]; exact Paired.snoc r ⟨rfl, ry⟩
theorem KV.drop {kvs : List (κ × V)} {vs : List (κ × Value)} (r : KV kvs vs) (k : κ) : KV (dropK kvs k) (without vs k) := by
  unfold KV at r ⊢
  unfold dropK without
  induction r with
  | nil => exact .nil
  | @cons p q ps qs h t ih =>
    obtain ⟨h1, h2⟩ := h
    rw [List.filter_cons, List.filter_cons]
    by_cases e : p.1 = k
    · have a : ¬ decide (p.1 ≠ k) = true := by simp [e]
      have b : ¬ decide (q.1 ≠ k) = true := by simp [h1.symm.trans e]
      rw [if_neg a, if_neg b]; exact ih
    · have e' : ¬ q.1 = k := fun z => e (h1.trans z)
      have a : decide (p.1 ≠ k) = true := by simp [e]
      have b : decide (q.1 ≠ k) = true := by simp [e']
      rw [if_pos a, if_pos b]; exact .cons ⟨h1, h2⟩ ih
theorem KV.keys {kvs : List (κ × V)} {vs : List (κ × Value)} (r : KV kvs vs) : kvs.map (·.1) = vs.map (·.1) := by
  unfold KV at r
  induction r with
  | nil => rfl
  | cons h t ih => rw [List.map_cons, List.map_cons, ih, h.1]
theorem KV.length {kvs : List (κ × V)} {vs : List (κ × Value)} (r : KV kvs vs) : kvs.length = vs.length := Paired.length r
theorem dropK_le (kvs : List (κ × V)) (k : κ) : (dropK kvs k).length ≤ kvs.length := List.length_filter_le _ _
end


/-! ### a tracked dict, its keys ints and texts or tuples of these -/
theorem kV_is {P : Program} {w : World} {k : Key} {u : Value} (r : RelV (kV k) u) : (mixKind P w).is k u = true := by
  cases k with
  | inl i => obtain ⟨t, e⟩ := (show ∃ t, u = Value.int i t from r); subst e; exact mixKind_int P w i t
  | inr x => obtain ⟨t, e⟩ := (show ∃ t, u = Value.str x t from r); subst e; exact mixKind_str P w x t
theorem kV_inj {a b : Key} (e : kV a = kV b) : a = b := by
  cases a with
  | inl i => cases b with
    | inl j => have e' : V.int i = V.int j := e; injection e' with e'; rw [e']
    | inr y => exact nomatch (show V.int i = V.str y from e)
  | inr x => cases b with
    | inl j => exact nomatch (show V.str x = V.int j from e)
    | inr y => have e' : V.str x = V.str y := e; injection e' with e'; rw [e']
theorem kVs_inj : ∀ {a b : List Key}, a.map kV = b.map kV → a = b
  | [], [], _ => rfl
  | [], _ :: _, e => by simp at e
  | _ :: _, [], e => by simp at e
  | x :: xs, y :: ys, e => by
    rw [List.map_cons, List.map_cons] at e
    injection e with e1 e2
    rw [kV_inj e1, kVs_inj e2]
theorem items_are {P : Program} {w : World} : ∀ {ks : List Key} {us : List Value}, Vals (ks.map kV) us → ItemsAre (mixKind P w) ks us
  | [], _, r => by rw [List.map_nil] at r; cases r; exact .nil
  | k :: ks, _, r => by
    rw [List.map_cons] at r
    cases r with
    | cons h t => exact .cons (kV_is h) (items_are t)

/-- raw entries of a dict with tuple keys -/
abbrev KT (H : Hp) : List (List Key × V) → List (List Key × Addr × Value) → Prop := Paired fun p q => p.1 = q.1 ∧ H q.2.1 = some (.tup (p.1.map kV)) ∧ RelV p.2 q.2.2
theorem KT.val {H : Hp} {kvs : List (List Key × V)} {xs : List (List Key × Addr × Value)} (r : KT H kvs xs) (k : List Key) : RelO (valV kvs k) ((atKey xs k).map (·.2)) := by
  induction r with
  | nil => exact True.intro
  | @cons p q ps qs h t ih =>
    obtain ⟨h1, _, h2⟩ := h
    by_cases e : p.1 = k
    · have e' : q.1 = k := h1.symm.trans e
      have b : atKey (q :: qs) k = some q.2 := by simp [atKey, List.find?_cons, e']
      rw [valV_pos e, b]; exact h2
    · have e' : ¬ q.1 = k := fun z => e (h1.trans z)
      have b : atKey (q :: qs) k = atKey qs k := by simp [atKey, List.find?_cons, e']
      rw [valV_neg e, b]; exact ih
theorem KT.repl {H : Hp} {kvs : List (List Key × V)} {xs : List (List Key × Addr × Value)} (r : KT H kvs xs) (k : List Key) {y : V} {u : Value} (ry : RelV y u) :
    KT H (kvs.map fun kv => if kv.1 = k then (kv.1, y) else kv) (xs.map (putAt k u)) := by
  induction r with
  | nil => exact .nil
  | @cons p q ps qs h t ih =>
    rw [List.map_cons, List.map_cons]
    refine .cons ?_ ih
    obtain ⟨h1, h2, h3⟩ := h
    unfold putAt
    by_cases e : p.1 = k
    · rw [if_pos e, if_pos (h1.symm.trans e)]; exact ⟨h1, h2, ry⟩
    · rw [if_neg e, if_neg (fun z => e (h1.trans z))]; exact ⟨h1, h2, h3⟩
theorem KT.put {H : Hp} {kvs : List (List Key × V)} {xs : List (List Key × Addr × Value)} (r : KT H kvs xs) (k : List Key) {b : Addr} {y : V} {u : Value} (hb : H b = some (.tup (k.map kV))) (ry : RelV y u) :
    KT H (putK kvs k y) (storedH xs k b u) := by
  have e : (kvs.any fun kv => decide (kv.1 = k)) = (atKey xs k).isSome := by
    rw [valV_any, (r.val k).isSome_eq, Option.isSome_map]
  unfold putK storedH
  rw [e]
  by_cases q : (atKey xs k).isSome = true
  · rw [if_pos q, if_pos q]; exact r.repl k ry
  · rw [if_neg q, if_neg q]; exact Paired.snoc r ⟨rfl, hb, ry⟩
theorem KT.keeps {H H' : Hp} {kvs : List (List Key × V)} {xs : List (List Key × Addr × Value)} (r : KT H kvs xs) (ht : ∀ b ys, H b = some (.tup ys) → H' b = some (.tup ys)) : KT H' kvs xs :=
  Paired.mapP r fun _ _ z => ⟨z.1, ht _ _ z.2.1, z.2.2⟩

section
variable {P : Program} {w : World} {H : Hp} {h : Heap} {a : Addr}
theorem rd_of {u : HO} (ok : HOk P w H h) (e : Rd H a u) : ObjOk P w H h a u := e.ok ok
theorem dk_rd {kvs : List (Key × V)} (ok : HOk P w H h) (e : Rd H a (.dK kvs)) : kvs.length ≤ sizeLine ∧ (a == sysModules) = false ∧ ∃ vs, KV kvs vs ∧ h.DictOf (mixKind P w) a vs :=
  show ObjOk P w H h a (.dK kvs) from rd_of ok e
theorem dk_of {kvs : List (Key × V)} (ok : HOk P w H h) (e : H a = some (.dK kvs)) : kvs.length ≤ sizeLine ∧ (a == sysModules) = false ∧ ∃ vs, KV kvs vs ∧ h.DictOf (mixKind P w) a vs := dk_rd ok (.inl e)
/-- a tracked tuple of ints and texts is a key -/
theorem key_of {ks : List Key} (ok : HOk P w H h) (e : H a = some (.tup (ks.map kV))) : (tupleKind (mixKind P w)).is h ks a := by
  obtain ⟨_, its, r, o, h1, h2, n, h3⟩ := (show ObjOk P w H h a (.tup (ks.map kV)) from ok a _ e)
  exact ⟨o, its.toArray, n, h1, h2, h3, by simpa using items_are r⟩
theorem dt_rd {kvs : List (List Key × V)} (ok : HOk P w H h) (e : Rd H a (.dT kvs)) : kvs.length ≤ sizeLine ∧ (a == sysModules) = false ∧
    ∃ xs, KT H kvs xs ∧ h.DictOfH (tupleKind (mixKind P w)) a xs := by
  obtain ⟨z, y, xs, r, o, es, ep, h1, h2, h3, h4, h5⟩ := (show ObjOk P w H h a (.dT kvs) from rd_of ok e)
  refine ⟨z, y, xs, r, o, es, ep, h1, h2, h3, h4, fun x hx => ?_, h5⟩
  have all : ∀ {l : List (List Key × V)} {m : List (List Key × Addr × Value)}, KT H l m → ∀ x ∈ m, (tupleKind (mixKind P w)).is h x.1 x.2.1 := by
    intro l m q
    induction q with
    | nil => intro x hx; exact nomatch hx
    | @cons p q ps qs hq t ih =>
      intro x hx
      rcases List.mem_cons.mp hx with e | hx
      · subst e
        exact key_of ok (by rw [← hq.1]; exact hq.2.1)
      · exact ih x hx
  exact all r x hx
theorem dt_of {kvs : List (List Key × V)} (ok : HOk P w H h) (e : H a = some (.dT kvs)) : kvs.length ≤ sizeLine ∧ (a == sysModules) = false ∧
    ∃ xs, KT H kvs xs ∧ h.DictOfH (tupleKind (mixKind P w)) a xs := dt_rd ok (.inl e)
end

/-- what the dict at a holds at the key y -/
def DGet (H : Hp) (a : Addr) (y : V) (r : Option V) : Prop :=
  (∃ kvs k, Rd H a (.dK kvs) ∧ y = kV k ∧ r = valV kvs k) ∨ ∃ kvs k b, Rd H a (.dT kvs) ∧ y = .ref b ∧ H b = some (.tup (k.map kV)) ∧ r = valV kvs k
/-- the heap behind a[y] = v -/
def DPut (H : Hp) (a : Addr) (y v : V) (H' : Hp) : Prop :=
  (∃ kvs k, H a = some (.dK kvs) ∧ y = kV k ∧ kvs.length < sizeLine ∧ H' = upd H a (.dK (putK kvs k v))) ∨
  ∃ kvs k b, H a = some (.dT kvs) ∧ y = .ref b ∧ H b = some (.tup (k.map kV)) ∧ kvs.length < sizeLine ∧ H' = upd H a (.dT (putK kvs k v))
theorem DGet.k {H : Hp} {a : Addr} {kvs : List (Key × V)} {k : Key} (e : H a = some (.dK kvs)) : DGet H a (kV k) (valV kvs k) := .inl ⟨kvs, k, .inl e, rfl, rfl⟩
theorem DGet.t {H : Hp} {a b : Addr} {kvs : List (List Key × V)} {k : List Key} (e : H a = some (.dT kvs)) (eb : H b = some (.tup (k.map kV))) : DGet H a (.ref b) (valV kvs k) := .inr ⟨kvs, k, b, .inl e, rfl, eb, rfl⟩
theorem DPut.k {H : Hp} {a : Addr} {kvs : List (Key × V)} {k : Key} {v : V} (e : H a = some (.dK kvs)) (hl : kvs.length < sizeLine) : DPut H a (kV k) v (upd H a (.dK (putK kvs k v))) := .inl ⟨kvs, k, e, rfl, hl, rfl⟩
theorem DPut.t {H : Hp} {a b : Addr} {kvs : List (List Key × V)} {k : List Key} {v : V} (e : H a = some (.dT kvs)) (eb : H b = some (.tup (k.map kV))) (hl : kvs.length < sizeLine) :
    DPut H a (.ref b) v (upd H a (.dT (putK kvs k v))) := .inr ⟨kvs, k, b, e, rfl, eb, hl, rfl⟩


section
variable {X : Cx} {pins : List (Addr × Obj)} {σ : St} {H : Hp} {s : Shared} {a : Addr} {y v : V} {u r : Value} {o : Option V} {A : Around} {E : Value → Shared → Prop}

theorem Inv.big (I : Inv X pins σ H s) : sysModules < s.heap.objs.size := by
  have h : mainGlobals < s.heap.objs.size := (I.mod.glob.keeps I.bk).lt
  exact Nat.lt_trans (by decide) h

/-- d[y], there -/
theorem d_getItem {Q : Value → Shared → Prop} (hu : A.units + 1 < cLine) (I : Inv X pins σ H s) (g : DGet H a y (some v)) (ry : RelV y u) (h : ∀ w' s', Inv X pins σ H s' → RelV v w' → Q w' s') :
    wpAny (model X.prog X.w) A (getItem (.ref a) u) Q E s := by
  rcases g with ⟨kvs, k, e, ey, l⟩ | ⟨kvs, k, b, e, ey, eb, l⟩
  · subst ey
    obtain ⟨z, hd, vs, rel, dd⟩ := dk_rd I.hok e
    obtain ⟨w', hw, rw'⟩ := RelO.some_of (v := v) (o := valueAt vs k) (by rw [l]; exact rel.val k)
    exact wpAny_getItem_of (kV_is ry) dd.mapOf hw (h w' _ (I.tok _) rw')
  · subst ey
    cases (show u = Value.ref b from ry)
    obtain ⟨z, hd, xs, rel, dd⟩ := dt_rd I.hok e
    obtain ⟨w', hw, rw'⟩ := RelO.some_of (v := v) (o := (atKey xs k).map (·.2)) (by rw [l]; exact rel.val k)
    obtain ⟨p, hp, hp2⟩ := Option.map_eq_some_iff.mp hw
    refine wpAny_getItem_heap (tupleKind_room_in1 hu) (key_of I.hok eb) dd hp ?_
    rw [hp2]
    exact h w' _ (I.tok _) rw'
/-- y in d -/
theorem d_in {Q : Value → Shared → Prop} (hu : A.units + 1 < cLine) (I : Inv X pins σ H s) (g : DGet H a y o) (ry : RelV y u) (h : ∀ s', Inv X pins σ H s' → Q (.bool o.isSome) s') :
    wpAny (model X.prog X.w) A (compareOp .In u (.ref a)) Q E s := by
  rcases g with ⟨kvs, k, e, ey, l⟩ | ⟨kvs, k, b, e, ey, eb, l⟩
  · subst ey
    obtain ⟨z, hd, vs, rel, dd⟩ := dk_rd I.hok e
    refine wpAny_in_of (kV_is ry) hd dd.mapOf ?_
    rw [← (rel.val k).isSome_eq, ← l]
    exact h _ (I.tok _)
  · subst ey
    cases (show u = Value.ref b from ry)
    obtain ⟨z, hd, xs, rel, dd⟩ := dt_rd I.hok e
    refine wpAny_in_heap (tupleKind_room_in1 hu) (key_of I.hok eb) hd dd ?_
    have q := (rel.val k).isSome_eq
    rw [Option.isSome_map] at q
    rw [← q, ← l]
    exact h _ (I.tok _)
theorem d_notIn {Q : Value → Shared → Prop} (hu : A.units + 1 < cLine) (I : Inv X pins σ H s) (g : DGet H a y o) (ry : RelV y u) (h : ∀ s', Inv X pins σ H s' → Q (.bool (!o.isSome)) s') :
    wpAny (model X.prog X.w) A (compareOp .NotIn u (.ref a)) Q E s := by
  rcases g with ⟨kvs, k, e, ey, l⟩ | ⟨kvs, k, b, e, ey, eb, l⟩
  · subst ey
    obtain ⟨z, hd, vs, rel, dd⟩ := dk_rd I.hok e
    refine wpAny_notIn_of (kV_is ry) hd dd.mapOf ?_
    rw [← (rel.val k).isSome_eq, ← l]
    exact h _ (I.tok _)
  · subst ey
    cases (show u = Value.ref b from ry)
    obtain ⟨z, hd, xs, rel, dd⟩ := dt_rd I.hok e
    refine wpAny_notIn_heap (tupleKind_room_in1 hu) (key_of I.hok eb) hd dd ?_
    have q := (rel.val k).isSome_eq
    rw [Option.isSome_map] at q
    rw [← q, ← l]
    exact h _ (I.tok _)
/-- a dict's object is replaced -/
theorem d_write {h' : Heap} {t' : Nat} {ob : HO} (I : Inv X pins σ H s) (mu : Mut (H a)) (hs : Heap.SameBut a s.heap h') (he : ∃ q, h'.get? a = some q) (new : ObjOk X.prog X.w (upd H a ob) h' a ob) :
    Inv X pins σ (upd H a ob) { s with heap := h', toks := t' } :=
  I.write (x := a) (e := a) mu (.inl rfl) (fun b q hb z => (hs.2 b hb).trans z) he new
theorem dk_new {P : Program} {w : World} {H' : Hp} {h' : Heap} {kvs : List (Key × V)} {vs : List (Key × Value)} (z : kvs.length ≤ sizeLine) (hd : (a == sysModules) = false) (rel : KV kvs vs) (dd : h'.DictOf (mixKind P w) a vs) :
    ObjOk P w H' h' a (.dK kvs) := ⟨z, hd, vs, rel, dd⟩
/-- d[y] = v -/
theorem d_setItem {H' : Hp} {Q : Unit → Shared → Prop} (hu : A.units + 1 < cLine) (I : Inv X pins σ H s) (g : DPut H a y v H') (ry : RelV y u) (rv : RelV v r) (h : ∀ s', Inv X pins σ H' s' → Q () s') :
    wpAny (model X.prog X.w) A (setItem (.ref a) u r) Q E s := by
  rcases g with ⟨kvs, k, e, ey, l, eH⟩ | ⟨kvs, k, b, e, ey, eb, l, eH⟩
  · subst ey eH
    obtain ⟨z, hd, vs, rel, dd⟩ := dk_of I.hok e
    have hz : vs.length ≤ sizeLine := by rw [← rel.length]; exact z
    have hl : (putK kvs k v).length ≤ sizeLine := by have := length_putK kvs k v; omega
    refine wpAny_setItem_pairs (hsz := hz) (kV_is ry) dd fun h' dd' hs => h _ ?_
    have he : ∃ q, h'.get? a = some q := let ⟨q, _, _, hq, _⟩ := dd'; ⟨q, hq⟩
    exact d_write I (by rw [e]; exact True.intro) hs he (dk_new hl hd (rel.put k rv) dd')
  · subst ey eH
    cases (show u = Value.ref b from ry)
    obtain ⟨z, hd, xs, rel, dd⟩ := dt_of I.hok e
    have hz : xs.length ≤ sizeLine := by rw [← Paired.length rel]; exact z
    have hl : (putK kvs k v).length ≤ sizeLine := by have := length_putK kvs k v; omega
    refine wpAny_setItem_heap (hsz := hz) (tupleKind_room_in1 hu) (key_of I.hok eb) dd fun h' dd' hs => h _ ?_
    obtain ⟨q, es, ep, hq, h2, h3, h4, _, h5⟩ := dd'
    refine d_write I (by rw [e]; exact True.intro) hs ⟨q, hq⟩ ⟨hl, hd, _, (rel.put k eb rv).keeps fun c ys ec => ?_, q, es, ep, hq, h2, h3, h4, h5⟩
    rw [upd_ne (ne_of ec e (fun z => nomatch z))]
    exact ec
end

section
variable {X : Cx} {pins : List (Addr × Obj)} {σ : St} {H : Hp} {s : Shared} {a : Addr} {kvs : List (Key × V)} {k : Key} {u : Value} {A : Around} {E : Value → Shared → Prop}
/-- del d[k] -/
theorem d_delItem {Q : Unit → Shared → Prop} (I : Inv X pins σ H s) (e : H a = some (.dK kvs)) (ry : RelV (kV k) u) (l : (valV kvs k).isSome = true) (h : ∀ s', Inv X pins σ (upd H a (.dK (dropK kvs k))) s' → Q () s') :
    wpAny (model X.prog X.w) A (delItem (.ref a) u) Q E s := by
  obtain ⟨z, hd, vs, rel, dd⟩ := dk_of I.hok e
  refine wpAny_delItem_slot dd.typeIs (by decide) PySem.F.slot_dict_delitem
    (call_meetsIn PySem.F.slot_dict_delitem dd.typeIs PySem.F.entry_dict_delitem (PySem.F.args_dict_delitem_2 _ _) (meets_dict_delitem_pairs (mixKind X.prog X.w) a (kV_is ry)) ⟨vs, dd, by rw [← rel.length]; exact z, by rw [← (rel.val k).isSome_eq]; exact l, fun h' dd' hs => h _ ?_⟩)
  have he : ∃ q, h'.get? a = some q := let ⟨q, _, _, hq, _⟩ := dd'; ⟨q, hq⟩
  exact d_write I (by rw [e]; exact True.intro) hs he (dk_new (Nat.le_trans (dropK_le kvs k) z) hd (rel.drop k) dd')
/-- d.pop(k[, x]), there -/
theorem d_pop {v : V} {more : List Value} {Q : Value → Shared → Prop} (I : Inv X pins σ H s) (e : H a = some (.dK kvs)) (ry : RelV (kV k) u) (l : valV kvs k = some v) (hm : more = [] ∨ ∃ x, more = [x])
    (h : ∀ w' s', Inv X pins σ (upd H a (.dK (dropK kvs k))) s' → RelV v w' → Q w' s') : wpAny (model X.prog X.w) A (call (.builtin "dict.pop") (.ref a :: u :: more)) Q E s := by
  obtain ⟨z, hd, vs, rel, dd⟩ := dk_of I.hok e
  obtain ⟨w', hw, rw'⟩ := RelO.some_of (v := v) (o := valueAt vs k) (by rw [← l]; exact rel.val k)
  have hp : (keyPart u).isSome = true := by
    cases k with
    | inl i => obtain ⟨t, q⟩ := (show ∃ t, u = Value.int i t from ry); subst q; rfl
    | inr x => obtain ⟨t, q⟩ := (show ∃ t, u = Value.str x t from ry); subst q; rfl
  have ha : argsOk "dict.pop" ⟨.ref a :: u :: more, []⟩ := by
    rcases hm with q | ⟨x, q⟩
    · subst q; exact PySem.F.args_dict_pop_2 _ _
    · subst q; exact PySem.F.args_dict_pop_3 _ _ _
  refine call_meetsIn PySem.F.slot_dict_pop dd.typeIs PySem.F.entry_dict_pop ha (meets_dict_pop_there (mixKind X.prog X.w) a (kV_is ry) more hm hp)
    ⟨vs, w', dd, by rw [← rel.length]; exact z, hw, fun h' dd' hs => h w' _ ?_ rw'⟩
  have he : ∃ q, h'.get? a = some q := let ⟨q, _, _, hq, _⟩ := dd'; ⟨q, hq⟩
  exact d_write I (by rw [e]; exact True.intro) hs he (dk_new (Nat.le_trans (dropK_le kvs k) z) hd (rel.drop k) dd')
/-- d.pop(k, x), not there -/
theorem d_popD {r : Value} {Q : Value → Shared → Prop} (I : Inv X pins σ H s) (e : H a = some (.dK kvs)) (ry : RelV (kV k) u) (l : valV kvs k = none) (h : ∀ s', Inv X pins σ H s' → Q r s') :
    wpAny (model X.prog X.w) A (call (.builtin "dict.pop") [.ref a, u, r]) Q E s := by
  obtain ⟨z, hd, vs, rel, dd⟩ := dk_of I.hok e
  have hn : valueAt vs k = none := RelO.none_of (by rw [← l]; exact rel.val k)
  have hp : (keyPart u).isSome = true := by
    cases k with
    | inl i => obtain ⟨t, q⟩ := (show ∃ t, u = Value.int i t from ry); subst q; rfl
    | inr x => obtain ⟨t, q⟩ := (show ∃ t, u = Value.str x t from ry); subst q; rfl
  exact call_meetsIn PySem.F.slot_dict_pop dd.typeIs PySem.F.entry_dict_pop (PySem.F.args_dict_pop_3 _ _ _) (meets_dict_pop_default (mixKind X.prog X.w) a (kV_is ry) hd hp r) ⟨vs, dd, hn, h _ (I.tok _)⟩
/-- d.clear() -/
theorem d_clear {Q : Value → Shared → Prop} (I : Inv X pins σ H s) (e : H a = some (.dK kvs)) (h : ∀ s', Inv X pins σ (upd H a (.dK [])) s' → Q .none s') : wpAny (model X.prog X.w) A (call (.builtin "dict.clear") [.ref a]) Q E s := by
  obtain ⟨z, hd, vs, rel, dd⟩ := dk_of I.hok e
  refine call_meetsIn PySem.F.slot_dict_clear dd.typeIs PySem.F.entry_dict_clear (PySem.F.args_dict_clear_1 _) (meets_dict_clear (mixKind X.prog X.w) a) ⟨vs, dd, by rw [← rel.length]; exact z, fun h' dd' hs => h _ ?_⟩
  have he : ∃ q, h'.get? a = some q := let ⟨q, _, _, hq, _⟩ := dd'; ⟨q, hq⟩
  exact d_write (t' := s.toks) I (by rw [e]; exact True.intro) hs he (dk_new (Nat.zero_le _) hd .nil dd')
/-- len(d) -/
theorem d_len {Q : Value → Shared → Prop} (I : Inv X pins σ H s) (e : Rd H a (.dK kvs)) (h : ∀ t s', Inv X pins σ H s' → Q (.int kvs.length t) s') : wpAny (model X.prog X.w) A (call (.builtin "len") [.ref a]) Q E s := by
  obtain ⟨z, hd, vs, rel, dd⟩ := dk_rd I.hok e
  refine call_len_dict hd dd (by rw [← rel.length]; rw [sizeLine_eq] at z; omega) ?_
  rw [← rel.length]
  exact h _ _ (I.tok _)
/-- if d -/
theorem d_truth {Q : Bool → Shared → Prop} (I : Inv X pins σ H s) (e : Rd H a (.dK kvs)) (h : ∀ s', Inv X pins σ H s' → Q (!kvs.isEmpty) s') : wpAny (model X.prog X.w) A (truthy (.ref a)) Q E s := by
  obtain ⟨z, hd, vs, rel, dd⟩ := dk_rd I.hok e
  refine wpAny_truthy_dict hd dd (by rw [← rel.length]; rw [sizeLine_eq] at z; omega) ?_
  have q : kvs.isEmpty = vs.isEmpty := by cases rel <;> rfl
  rw [← q]
  exact h _ (I.tok _)
end


/-! ### readings and rules -/
/-- the element of a subscription, not a slice -/
def NoSl (i : Expr) : Prop := ∀ ov iv, subscripted i false ov iv = operate [ov, iv] (getItem ov iv)
theorem subD_of {prog : Program} {w : World} {A : Around} {E : Value → Shared → Prop} {s : Shared} {env : Env} {value slice : Expr} {pos : Pos} {T id : String} {Q : Value → Shared → Prop}
    (hl : typeLookup (.type T) "__getitem__" = pure (some (.builtin id))) (hs : NoSl slice)
    (h : wpAny (model prog w) A (eval value env) (fun o s₁ => wpAny (model prog w) A (eval slice env) (fun i s₂ => s₂.TypeIs o T ∧ wpAny (model prog w) A (getItem o i) Q E s₂) E s₁) E s) :
    wpAny (model prog w) A (eval (.Subscript value slice pos) env) Q E s := by
  refine Subscript_ (wpAny_mono h (fun o s₁ h₁ => wpAny_mono h₁ (fun i s₂ h₂ => ?_) fun _ _ x => x) fun _ _ x => x)
  obtain ⟨hT, h₂⟩ := h₂
  unfold subscriptTail
  refine wpAny_bind ?_
  rw [getitemInPython_of_ne hT.not_modules]
  refine wpAny_bind (wpAny_specialOf hT hl ?_)
  have fin : wpAny (model prog w) A (subscripted slice false o i) (fun r s₃ => wpAny (model prog w) A (letTemporaryGo value o r >>= fun _ => pure r) Q E s₃) E s₂ := by
    rw [hs o i]
    exact wpAny_operating (wpAny_mono h₂ (fun r s₃ h₃ => wpAny_bind (wpAny_letTemporaryGo (wpAny_pure h₃))) fun _ _ x => x)
  first
    | exact wpAny_pure (wpAny_bind fin)
    | exact wpAny_bind (wpAny_pure (wpAny_bind fin))
    | exact wpAny_bind fin

theorem dict_typeIs {X : Cx} {pins : List (Addr × Obj)} {σ : St} {H : Hp} {s : Shared} {a : Addr} {y : V} {o : Option V} (I : Inv X pins σ H s) (g : DGet H a y o) : s.TypeIs (.ref a) "dict" := by
  rcases g with ⟨kvs, k, e, _, _⟩ | ⟨kvs, k, b, e, _, _, _⟩
  · obtain ⟨_, _, vs, _, dd⟩ := dk_rd I.hok e
    exact dd.typeIs
  · obtain ⟨_, _, xs, _, dd⟩ := dt_rd I.hok e
    exact dd.typeIs
theorem dict_noDict {X : Cx} {pins : List (Addr × Obj)} {σ : St} {H : Hp} {s : Shared} {a : Addr} {y : V} {o : Option V} (I : Inv X pins σ H s) (g : DGet H a y o) :
    ∀ b, Value.ref a = .ref b → ∃ ob, s.heap.get? b = some ob ∧ ob.dict = none := fun b q => by
  cases q
  rcases g with ⟨kvs, k, e, _, _⟩ | ⟨kvs, k, b, e, _, _, _⟩
  · obtain ⟨_, _, vs, _, ob, _, _, h1, h2, _⟩ := dk_rd I.hok e
    exact ⟨ob, h1, h2.2.1⟩
  · obtain ⟨_, _, xs, _, ob, _, _, h1, h2, _⟩ := dt_rd I.hok e
    exact ⟨ob, h1, h2.2.1⟩

/-- d[y] -/
def tDGet (td ty : TE) : TE := fun σ H Q => td σ H fun x H1 => ty σ H1 fun y H2 => ∃ a v, x = .ref a ∧ DGet H2 a y (some v) ∧ Q v H2
/-- y in d, y not in d -/
def tDIn (ty td : TE) : TE := fun σ H Q => ty σ H fun y H1 => td σ H1 fun x H2 => ∃ a o, x = .ref a ∧ DGet H2 a y o ∧ Q (.bl o.isSome) H2
def tDNotIn (ty td : TE) : TE := fun σ H Q => ty σ H fun y H1 => td σ H1 fun x H2 => ∃ a o, x = .ref a ∧ DGet H2 a y o ∧ Q (.bl (!o.isSome)) H2
/-- d[y] = v -/
def sDPut (td ty tv : TE) : TS := fun D σ H => tv σ H fun v H1 => td σ H1 fun x H2 => ty σ H2 fun y H3 => ∃ a H4, x = .ref a ∧ DPut H3 a y v H4 ∧ D.nx σ H4
/-- d[y] op= v -/
def sDAug (td ty tv : TE) (rd : V → V → Hp → VK → Prop) : TS := fun D σ H => td σ H fun x H1 => ty σ H1 fun y H2 => ∃ a v, x = .ref a ∧ DGet H2 a y (some v) ∧
  tv σ H2 fun y2 H3 => rd v y2 H3 fun z H4 => ∃ H5, DPut H4 a y z H5 ∧ D.nx σ H5
/-- del d[y] -/
def sDDel (td ty : TE) : TS := fun D σ H => td σ H fun x H1 => ty σ H1 fun y H2 => ∃ a kvs k, x = .ref a ∧ H2 a = some (.dK kvs) ∧ y = kV k ∧ (valV kvs k).isSome = true ∧ D.nx σ (upd H2 a (.dK (dropK kvs k)))

section
variable {X : Cx} {o i e value : Expr} {pos pos' tpos : Pos} {td ty tv : TE}
theorem pe_dget (hu : X.A.units + 1 < cLine) (ho : PE X o td) (hi : PE X i ty) (hs : NoSl i) : PE X (.Subscript o i pos) (tDGet td ty) := by
  intro pins s σ H Q I h
  refine subD_of PySem.F.slot_dict_getitem.lookup hs (thn (ho pins s σ H _ I h) fun u s1 ⟨x, H1, I1, rx, q1⟩ => thn (hi pins s1 σ H1 _ I1 q1) fun iv s2 ⟨y, H2, I2, ry, a, v, ex, g, q2⟩ => ?_)
  subst ex
  obtain rfl : u = Value.ref a := rx
  exact ⟨dict_typeIs I2 g, d_getItem hu I2 g ry fun w' s3 I3 rw' => ⟨v, H2, I3, rw', q2⟩⟩
theorem pc_din (hu : X.A.units + 1 < cLine) (hi : PE X i ty) (ho : PE X o td) : PC X .In i o (tDIn ty td) := by
  intro pins s σ H Q I h
  refine thn (hi pins s σ H _ I h) fun iv s1 ⟨y, H1, I1, ry, q1⟩ => thn (ho pins s1 σ H1 _ I1 q1) fun u s2 ⟨x, H2, I2, rx, a, ov, ex, g, q2⟩ => ?_
  subst ex
  obtain rfl : u = Value.ref a := rx
  exact d_in hu I2 g ry fun s3 I3 => ⟨.bl ov.isSome, H2, I3, rfl, q2⟩
theorem pc_dnotin (hu : X.A.units + 1 < cLine) (hi : PE X i ty) (ho : PE X o td) : PC X .NotIn i o (tDNotIn ty td) := by
  intro pins s σ H Q I h
  refine thn (hi pins s σ H _ I h) fun iv s1 ⟨y, H1, I1, ry, q1⟩ => thn (ho pins s1 σ H1 _ I1 q1) fun u s2 ⟨x, H2, I2, rx, a, ov, ex, g, q2⟩ => ?_
  subst ex
  obtain rfl : u = Value.ref a := rx
  exact d_notIn hu I2 g ry fun s3 I3 => ⟨.bl (!ov.isSome), H2, I3, rfl, q2⟩
theorem ps_dput (hu : X.A.units + 1 < cLine) (ho : PE X o td) (hi : PE X i ty) (hv : PE X value tv) (hs : swapsWith value (some (.Subscript o i pos')) pos.line X.env = pure false) :
    PS X (.Assign [.Subscript o i pos'] value pos) (sDPut td ty tv) := by
  intro pins s σ H D I h
  refine wpAny_Assign_Subscript (thn (hv pins s σ H _ I h) fun r s1 ⟨v, H1, I1, rv, q1⟩ => thn (ho pins s1 σ H1 _ I1 q1) fun u s2 ⟨x, H2, I2, rx, q2⟩ => thn (hi pins s2 σ H2 _ I2 q2) fun iv s3 ⟨y, H3, I3, ry, a, H4, ex, g, q3⟩ => ?_) hs
  subst ex
  obtain rfl : u = Value.ref a := rx
  exact d_setItem hu I3 g ry rv fun s4 I4 => ⟨σ, H4, I4, q3⟩
theorem ps_daug {op : Operator} {rd : V → V → Hp → VK → Prop} (hu : X.A.units + 1 < cLine) (ho : PE X o td) (hi : PE X i ty) (hv : PE X value tv) (hop : InOp X op rd)
    (ha : ∀ ov iv new, augStore i ov iv new = (do holding [new, ov, iv] (setItem ov iv new); release [new, ov, iv] []; pure .next)) : PS X (.AugAssign (.Subscript o i tpos) op value pos) (sDAug td ty tv rd) := by
  intro pins s σ H D I h
  refine wpAny_AugAssign_SubscriptAny (thn (ho pins s σ H _ I h) fun u s1 ⟨x, H1, I1, rx, q1⟩ => thn (hi pins s1 σ H1 _ I1 q1) fun iv s2 ⟨y, H2, I2, ry, a, v, ex, g, q2⟩ => ?_) ha
  subst ex
  obtain rfl : u = Value.ref a := rx
  refine d_getItem hu I2 g ry fun w' s3 I3 rw' => thn (hv pins s3 σ H2 _ I3 q2) fun w2 s4 ⟨y2, H3, I4, ry2, q3⟩ => thn (hop pins s4 σ H3 v y2 w' w2 _ I4 rw' ry2 q3) fun w3 s5 ⟨z, H4, I5, rz, H5, g5, q4⟩ => ?_
  exact d_setItem hu I5 g5 ry rz fun s6 I6 => ⟨σ, H5, I6, q4⟩
theorem ps_ddel (ho : PE X o td) (hi : PE X i ty) : PS X (.Delete [.Subscript o i tpos] pos) (sDDel td ty) := by
  intro pins s σ H D I h
  refine wpAny_Delete (wpAny_deleteEach_cons (wpAny_delete_Subscript (thn (ho pins s σ H _ I h) fun u s1 ⟨x, H1, I1, rx, q1⟩ => thn (hi pins s1 σ H1 _ I1 q1) fun iv s2 ⟨y, H2, I2, ry, a, kvs, k, ex, e, ey, l, q2⟩ => ?_)))
  subst ex ey
  obtain rfl : u = Value.ref a := rx
  exact d_delItem I2 e ry l fun s3 I3 => wpAny_deleteEach_nil ⟨σ, _, I3, q2⟩
end


/-! ### displays -/
theorem dk_empty {P : Program} {w : World} {H : Hp} (h : Heap) (hb : sysModules < h.objs.size) : ObjOk P w H (h.push { cls := .type "dict", data := .dict #[] }) h.objs.size (.dK []) :=
  ⟨Nat.zero_le _, beq_eq_false_iff_ne.mpr (Ne.symm (Nat.ne_of_lt hb)), [], .nil, Heap.DictOf.new h⟩
theorem dt_empty {P : Program} {w : World} {H : Hp} (h : Heap) (hb : sysModules < h.objs.size) : ObjOk P w H (h.push { cls := .type "dict", data := .dict #[] }) h.objs.size (.dT []) :=
  ⟨Nat.zero_le _, beq_eq_false_iff_ne.mpr (Ne.symm (Nat.ne_of_lt hb)), [], .nil, _, #[], 0, Heap.get?_push_size _ rfl, ⟨rfl, rfl, rfl⟩, rfl, rfl, List.nodup_nil⟩
/-- {}, to be a dict of the kind that is wanted -/
def tDNewK : TE := fun _ H Q => ∀ p, H p = none → Q (.ref p) (upd H p (.dK []))
def tDNewT : TE := fun _ H Q => ∀ p, H p = none → Q (.ref p) (upd H p (.dT []))
section
variable {X : Cx} {pos : Pos}
theorem pe_dnewK : PE X (.Dict [] [] pos) tDNewK := fun pins s σ H Q I h =>
  wpAny_Dict_empty ⟨.ref s.heap.objs.size, _, I.laid (a := s.heap.objs.size) (o := .dK []) (t' := s.toks) (fun _ _ q => Heap.get?_push_of_some _ q) (Nat.le_refl _) (dk_empty s.heap I.big), rfl, h _ (I.hok.fresh (Nat.le_refl _))⟩
theorem pe_dnewT : PE X (.Dict [] [] pos) tDNewT := fun pins s σ H Q I h =>
  wpAny_Dict_empty ⟨.ref s.heap.objs.size, _, I.laid (a := s.heap.objs.size) (o := .dT []) (t' := s.toks) (fun _ _ q => Heap.get?_push_of_some _ q) (Nat.le_refl _) (dt_empty s.heap I.big), rfl, h _ (I.hok.fresh (Nat.le_refl _))⟩
end

/-- the pairs of a display, from the left -/
def tPairs : List (TE × TE) → St → Hp → (List (V × V) → Hp → Prop) → Prop
  | [], _, H, Q => Q [] H
  | (tk, tv) :: r, σ, H, Q => tk σ H fun x H1 => tv σ H1 fun y H2 => tPairs r σ H2 fun ps H3 => Q ((x, y) :: ps) H3
abbrev VV : List (V × V) → List (Value × Value) → Prop := Paired fun p q => RelV p.1 q.1 ∧ RelV p.2 q.2
def PPs (X : Cx) (pos : Pos) (keys : List (Option Expr)) (values : List Expr) (trs : List (TE × TE)) : Prop :=
  ∀ (pins : List (Addr × Obj)) (s : Shared) (σ : St) (H : Hp) (Q : List (V × V) → Hp → Prop), Inv X pins σ H s → tPairs trs σ H Q →
    wpAny (model X.prog X.w) X.A (evalPairs (pairTrees keys values X.env pos)) (fun vs s' => ∃ ps H', Inv X pins σ H' s' ∧ VV ps vs ∧ Q ps H') X.xe s
theorem pps_nil {X : Cx} {pos : Pos} : PPs X pos [] [] [] := fun pins s σ H Q I h => pairTrees_nil_walk ⟨[], H, I, .nil, h⟩
theorem pps_cons {X : Cx} {pos : Pos} {k v : Expr} {ks : List (Option Expr)} {vs : List Expr} {tk tv : TE} {trs : List (TE × TE)} (hk : PE X k tk) (hv : PE X v tv) (hr : PPs X pos ks vs trs) :
    PPs X pos (some k :: ks) (v :: vs) ((tk, tv) :: trs) := fun pins s σ H Q I h =>
  pairTrees_cons_walk (thn (hk pins s σ H _ I h) fun u s1 ⟨x, H1, I1, rx, q1⟩ => thn (hv pins s1 σ H1 _ I1 q1) fun w2 s2 ⟨y, H2, I2, ry, q2⟩ =>
    thn (hr pins s2 σ H2 _ I2 q2) fun ws s3 ⟨ps, H3, I3, rel, q3⟩ => ⟨(x, y) :: ps, H3, I3, .cons ⟨rx, ry⟩ rel, q3⟩)

def mergeK (kvs more : List (Key × V)) : List (Key × V) := more.foldl (fun acc kv => putK acc kv.1 kv.2) kvs
theorem KV.merge : ∀ {more : List (Key × V)} {rs : List (Key × Value)} {kvs : List (Key × V)} {vs : List (Key × Value)}, KV more rs → KV kvs vs → KV (mergeK kvs more) (merged vs rs) := by
  intro more rs kvs vs r
  unfold KV at r
  induction r generalizing kvs vs with
  | nil => intro q; exact q
  | @cons p q ps qs h t ih =>
    intro r0
    have e : KV (putK kvs p.1 p.2) (stored vs q.1 q.2) := by
      have := r0.put p.1 h.2
      rw [← h.1]; exact this
    exact ih e
theorem length_mergeK : ∀ (more kvs : List (Key × V)), (mergeK kvs more).length ≤ kvs.length + more.length
  | [], kvs => by show kvs.length ≤ kvs.length + 0; omega
  | p :: r, kvs => by
    have h1 := length_mergeK r (putK kvs p.1 p.2)
    have h2 := length_putK kvs p.1 p.2
    show (mergeK (putK kvs p.1 p.2) r).length ≤ _
    rw [List.length_cons]; omega
theorem carries_of {P : Program} {w : World} : ∀ {kvs : List (Key × V)} {ws : List (Value × Value)}, VV (kvs.map fun kv => (kV kv.1, kv.2)) ws → ∃ rs, Carries (mixKind P w) ws rs ∧ KV kvs rs
  | [], _, r => by rw [List.map_nil] at r; cases r; exact ⟨[], True.intro, .nil⟩
  | p :: kvs, _, r => by
    rw [List.map_cons] at r
    cases r with
    | @cons a b as bs h t =>
      obtain ⟨rs, c, q⟩ := carries_of (P := P) (w := w) t
      obtain ⟨b1, b2⟩ := b
      exact ⟨(p.1, b2) :: rs, ⟨kV_is h.1, rfl, c⟩, .cons ⟨rfl, h.2⟩ q⟩
/-- {k: v, ..} with keys ints and texts; the new dict stands empty while the pairs are made -/
def tDisp (trs : List (TE × TE)) : TE := fun σ H Q => ∀ p, H p = none → tPairs trs σ (upd H p (.dK [])) fun ps H2 => H2 p = some (.dK []) ∧ ∃ kvs : List (Key × V), ps = kvs.map (fun kv => (kV kv.1, kv.2)) ∧ kvs.length ≤ 15 ∧ Q (.ref p) (upd H2 p (.dK (mergeK [] kvs)))
theorem pe_disp {X : Cx} {pos : Pos} {keys : List (Option Expr)} {values : List Expr} {trs : List (TE × TE)} (h : PPs X pos keys values trs) (hall : keys.all (·.isSome) = true) (hl : keys.length = values.length) (h0 : keys ≠ [])
    (h15 : keys.length ≤ 15) : PE X (.Dict keys values pos) (tDisp trs) := by
  intro pins s σ H Q I q
  have hn := I.hok.fresh (Nat.le_refl s.heap.objs.size)
  have I1 := I.laid (a := s.heap.objs.size) (o := .dK []) (h' := s.heap.push { cls := .type "dict", data := .dict #[] }) (t' := s.toks) (fun _ _ q => Heap.get?_push_of_some _ q) (Nat.le_refl _) (dk_empty s.heap I.big)
  refine wpAny_Dict_walk (knd := mixKind X.prog X.w) hall hl h0 h15 (thn (h pins _ σ _ _ I1 (q _ hn)) fun ws s2 ⟨ps, H2, I2, rel, e, kvs, ep, lk, q2⟩ => ?_)
  subst ep
  obtain ⟨rs, c, rk⟩ := carries_of (P := X.prog) (w := X.w) rel
  obtain ⟨z, hd, vs0, r0, dd⟩ := dk_of I2.hok e
  cases r0
  refine ⟨rs, c, dd, fun h' dd' hs => ⟨.ref s.heap.objs.size, _, ?_, rfl, q2⟩⟩
  have hz : (mergeK [] kvs).length ≤ sizeLine := by
    have h1 := length_mergeK kvs []
    rw [List.length_nil] at h1
    rw [sizeLine_eq]; omega
  have he : ∃ q, h'.get? s.heap.objs.size = some q := let ⟨q, _, _, hq, _⟩ := dd'; ⟨q, hq⟩
  exact d_write I2 (by rw [e]; exact True.intro) hs he (dk_new hz hd (rk.merge .nil) dd')


/-! ### methods -/
/-- a method call o.m(e) of a built-in, with one argument: what must be seen of the text -/
structure M1 (X : Cx) (o : Expr) (m : Str) (apos : Pos) (e : Expr) (cpos : Pos) : Prop where
  base : attributeBase o m X.env (eval o X.env) = eval o X.env
  few : ((backTo cpos (starEach [e] X.env)).all (fun x => !x.1) && (backToKw cpos (keywordEach [] X.env)).all (fun x => x.1.isSome)
    && decide (([e] : List Expr).length + ([] : List Keyword).length + (if ([] : List Keyword).isEmpty then 0 else 1) < 30)) = true
  line : (apos.endLine == cpos.line) = true
  trees : backTo cpos (starEach [e] X.env) = [(false, eval e X.env)]
structure M2 (X : Cx) (o : Expr) (m : Str) (apos : Pos) (e f : Expr) (cpos : Pos) : Prop where
  base : attributeBase o m X.env (eval o X.env) = eval o X.env
  few : ((backTo cpos (starEach [e, f] X.env)).all (fun x => !x.1) && (backToKw cpos (keywordEach [] X.env)).all (fun x => x.1.isSome)
    && decide (([e, f] : List Expr).length + ([] : List Keyword).length + (if ([] : List Keyword).isEmpty then 0 else 1) < 30)) = true
  line : (apos.endLine == cpos.line) = true
  trees : backTo cpos (starEach [e, f] X.env) = [(false, eval e X.env), (false, eval f X.env)]

/-- a is a dict, whatever its keys -/
def IsD (H : Hp) (a : Addr) : Prop := (∃ kvs, Rd H a (.dK kvs)) ∨ ∃ kvs, Rd H a (.dT kvs)
theorem isD_at {X : Cx} {pins : List (Addr × Obj)} {σ : St} {H : Hp} {s : Shared} {a : Addr} (I : Inv X pins σ H s) (d : IsD H a) :
    s.TypeIs (.ref a) "dict" ∧ (∀ b, Value.ref a = .ref b → ∃ ob, s.heap.get? b = some ob ∧ ob.dict = none) ∧ (a == sysModules) = false := by
  rcases d with ⟨kvs, e⟩ | ⟨kvs, e⟩
  · obtain ⟨_, hd, vs, _, dd⟩ := dk_rd I.hok e
    refine ⟨dd.typeIs, fun b q => ?_, hd⟩
    cases q
    obtain ⟨ob, _, _, h1, h2, _⟩ := dd
    exact ⟨ob, h1, h2.2.1⟩
  · obtain ⟨_, hd, xs, _, dd⟩ := dt_rd I.hok e
    refine ⟨dd.typeIs, fun b q => ?_, hd⟩
    cases q
    obtain ⟨ob, _, _, h1, h2, _⟩ := dd
    exact ⟨ob, h1, h2.2.1⟩

section
variable {X : Cx} {pins : List (Addr × Obj)} {σ : St} {H : Hp} {s : Shared} {a : Addr} {y d : V} {u r : Value} {o : Option V} {A : Around} {E : Value → Shared → Prop}
/-- d.get(y) -/
theorem d_get1 {Q : Value → Shared → Prop} (hu : A.units + 1 < cLine) (I : Inv X pins σ H s) (g : DGet H a y o) (ry : RelV y u) (h : ∀ w' s', Inv X pins σ H s' → RelV (o.getD .non) w' → Q w' s') :
    wpAny (model X.prog X.w) A (call (.builtin "dict.get") [.ref a, u]) Q E s := by
  rcases g with ⟨kvs, k, e, ey, l⟩ | ⟨kvs, k, b, e, ey, eb, l⟩
  · subst ey
    obtain ⟨z, hd, vs, rel, dd⟩ := dk_rd I.hok e
    refine call_meetsIn PySem.F.slot_dict_get dd.typeIs PySem.F.entry_dict_get (PySem.F.args_dict_get_2 _ _) (meets_dict_get (mixKind X.prog X.w) a (kV_is ry) hd) ⟨_, dd.mapOf, h _ _ (I.tok _) ?_⟩
    rw [l]
    exact (rel.val k).getD rfl
  · subst ey
    cases (show u = Value.ref b from ry)
    obtain ⟨z, hd, xs, rel, dd⟩ := dt_rd I.hok e
    refine call_meetsIn PySem.F.slot_dict_get dd.typeIs PySem.F.entry_dict_get (PySem.F.args_dict_get_2 _ _) (meetsH_dict_get (tupleKind (mixKind X.prog X.w)) a b hd) ⟨tupleKind_room_in1 hu, k, xs, key_of I.hok eb, dd, h _ _ (I.tok _) ?_⟩
    rw [l]
    exact (rel.val k).getD rfl
/-- d.get(y, x) -/
theorem d_get2 {Q : Value → Shared → Prop} (hu : A.units + 1 < cLine) (I : Inv X pins σ H s) (g : DGet H a y o) (ry : RelV y u) (rd : RelV d r) (h : ∀ w' s', Inv X pins σ H s' → RelV (o.getD d) w' → Q w' s') :
    wpAny (model X.prog X.w) A (call (.builtin "dict.get") [.ref a, u, r]) Q E s := by
  rcases g with ⟨kvs, k, e, ey, l⟩ | ⟨kvs, k, b, e, ey, eb, l⟩
  · subst ey
    obtain ⟨z, hd, vs, rel, dd⟩ := dk_rd I.hok e
    refine call_meetsIn PySem.F.slot_dict_get dd.typeIs PySem.F.entry_dict_get (PySem.F.args_dict_get_3 _ _ _) (meets_dict_get_default (mixKind X.prog X.w) a (kV_is ry) hd r) ⟨_, dd.mapOf, h _ _ (I.tok _) ?_⟩
    rw [l]
    exact (rel.val k).getD rd
  · subst ey
    cases (show u = Value.ref b from ry)
    obtain ⟨z, hd, xs, rel, dd⟩ := dt_rd I.hok e
    refine call_meetsIn PySem.F.slot_dict_get dd.typeIs PySem.F.entry_dict_get (PySem.F.args_dict_get_3 _ _ _) (meetsH_dict_get_default (tupleKind (mixKind X.prog X.w)) a b hd r) ⟨tupleKind_room_in1 hu, k, xs, key_of I.hok eb, dd, h _ _ (I.tok _) ?_⟩
    rw [l]
    exact (rel.val k).getD rd
end

def tDGet1 (td ty : TE) : TE := fun σ H Q => td σ H fun x H1 => ∃ a, x = .ref a ∧ IsD H1 a ∧ ty σ H1 fun y H2 => ∃ o, DGet H2 a y o ∧ Q (o.getD .non) H2
def tDGet2 (td ty tx : TE) : TE := fun σ H Q => td σ H fun x H1 => ∃ a, x = .ref a ∧ IsD H1 a ∧ ty σ H1 fun y H2 => tx σ H2 fun z H3 => ∃ o, DGet H3 a y o ∧ Q (o.getD z) H3
/-- d.pop(k): there; d.pop(k, x): there or not -/
def tDPop1 (td ty : TE) : TE := fun σ H Q => td σ H fun x H1 => ∃ a, x = .ref a ∧ IsD H1 a ∧ ty σ H1 fun y H2 => ∃ kvs k v, H2 a = some (.dK kvs) ∧ y = kV k ∧ valV kvs k = some v ∧ Q v (upd H2 a (.dK (dropK kvs k)))
def tDPop2 (td ty tx : TE) : TE := fun σ H Q => td σ H fun x H1 => ∃ a, x = .ref a ∧ IsD H1 a ∧ ty σ H1 fun y H2 => tx σ H2 fun z H3 => ∃ kvs k, H3 a = some (.dK kvs) ∧ y = kV k ∧
  (∀ v, valV kvs k = some v → Q v (upd H3 a (.dK (dropK kvs k)))) ∧ (valV kvs k = none → Q z H3)
section
variable {X : Cx} {o e f : Expr} {apos cpos : Pos} {td ty tx : TE}
theorem pe_dget1 (hu : X.A.units + 1 < cLine) (ho : PE X o td) (he : PE X e ty) (m : M1 X o "get" apos e cpos) : PE X (.Call (.Attribute o "get" apos) [e] [] cpos) (tDGet1 td ty) := by
  intro pins s σ H Q I h
  refine wpAny_Call_method m.base m.few m.line PySem.F.plainAttrs_dict PySem.F.slot_dict_get PySem.F.type_dict_get (thn (ho pins s σ H _ I h) fun u s1 ⟨x, H1, I1, rx, a, ex, d, q1⟩ => ?_)
  subst ex
  obtain rfl : u = Value.ref a := rx
  obtain ⟨t1, t2, _⟩ := isD_at I1 d
  refine ⟨t1, t2, ?_⟩
  rw [m.trees]
  refine Calls.callWith_builtin rfl (Calls.evalArgs_plain (Calls.spliced_cons (thn (he pins s1 σ H1 _ I1 q1) fun iv s2 ⟨y, H2, I2, ry, ov, g, q2⟩ => Calls.spliced_nil ?_)))
  exact d_get1 hu I2 g ry fun w' s3 I3 rw' => ⟨_, H2, I3, rw', q2⟩
theorem pe_dget2 (hu : X.A.units + 1 < cLine) (ho : PE X o td) (he : PE X e ty) (hf : PE X f tx) (m : M2 X o "get" apos e f cpos) : PE X (.Call (.Attribute o "get" apos) [e, f] [] cpos) (tDGet2 td ty tx) := by
  intro pins s σ H Q I h
  refine wpAny_Call_method m.base m.few m.line PySem.F.plainAttrs_dict PySem.F.slot_dict_get PySem.F.type_dict_get (thn (ho pins s σ H _ I h) fun u s1 ⟨x, H1, I1, rx, a, ex, d, q1⟩ => ?_)
  subst ex
  obtain rfl : u = Value.ref a := rx
  obtain ⟨t1, t2, _⟩ := isD_at I1 d
  refine ⟨t1, t2, ?_⟩
  rw [m.trees]
  refine Calls.callWith_builtin rfl (Calls.evalArgs_plain (Calls.spliced_cons (thn (he pins s1 σ H1 _ I1 q1) fun iv s2 ⟨y, H2, I2, ry, q2⟩ =>
    Calls.spliced_cons (thn (hf pins s2 σ H2 _ I2 q2) fun fv s3 ⟨z, H3, I3, rz, ov, g, q3⟩ => Calls.spliced_nil ?_))))
  exact d_get2 hu I3 g ry rz fun w' s4 I4 rw' => ⟨_, H3, I4, rw', q3⟩
theorem pe_dpop1 (ho : PE X o td) (he : PE X e ty) (m : M1 X o "pop" apos e cpos) : PE X (.Call (.Attribute o "pop" apos) [e] [] cpos) (tDPop1 td ty) := by
  intro pins s σ H Q I h
  refine wpAny_Call_method m.base m.few m.line PySem.F.plainAttrs_dict PySem.F.slot_dict_pop PySem.F.type_dict_pop (thn (ho pins s σ H _ I h) fun u s1 ⟨x, H1, I1, rx, a, ex, d, q1⟩ => ?_)
  subst ex
  obtain rfl : u = Value.ref a := rx
  obtain ⟨t1, t2, _⟩ := isD_at I1 d
  refine ⟨t1, t2, ?_⟩
  rw [m.trees]
  refine Calls.callWith_builtin rfl (Calls.evalArgs_plain (Calls.spliced_cons (thn (he pins s1 σ H1 _ I1 q1) fun iv s2 ⟨y, H2, I2, ry, kvs, k, v, ea, ey, l, q2⟩ => Calls.spliced_nil ?_)))
  subst ey
  exact d_pop I2 ea ry l (.inl rfl) fun w' s3 I3 rw' => ⟨v, _, I3, rw', q2⟩
theorem pe_dpop2 (ho : PE X o td) (he : PE X e ty) (hf : PE X f tx) (m : M2 X o "pop" apos e f cpos) : PE X (.Call (.Attribute o "pop" apos) [e, f] [] cpos) (tDPop2 td ty tx) := by
  intro pins s σ H Q I h
  refine wpAny_Call_method m.base m.few m.line PySem.F.plainAttrs_dict PySem.F.slot_dict_pop PySem.F.type_dict_pop (thn (ho pins s σ H _ I h) fun u s1 ⟨x, H1, I1, rx, a, ex, d, q1⟩ => ?_)
  subst ex
  obtain rfl : u = Value.ref a := rx
  obtain ⟨t1, t2, _⟩ := isD_at I1 d
  refine ⟨t1, t2, ?_⟩
  rw [m.trees]
  refine Calls.callWith_builtin rfl (Calls.evalArgs_plain (Calls.spliced_cons (thn (he pins s1 σ H1 _ I1 q1) fun iv s2 ⟨y, H2, I2, ry, q2⟩ =>
    Calls.spliced_cons (thn (hf pins s2 σ H2 _ I2 q2) fun fv s3 ⟨z, H3, I3, rz, kvs, k, ea, ey, q3, q4⟩ => Calls.spliced_nil ?_))))
  subst ey
  cases l : valV kvs k with
  | some v => exact d_pop I3 ea ry l (.inr ⟨fv, rfl⟩) fun w' s4 I4 rw' => ⟨v, _, I4, rw', q3 v l⟩
  | none => exact d_popD I3 ea ry l fun s4 I4 => ⟨z, H3, I4, rz, q4 l⟩
end

/-! ### dict(d): a copy -/
section
variable {X : Cx} {pins : List (Addr × Obj)} {σ : St} {H : Hp} {s : Shared} {a : Addr} {kvs : List (Key × V)} {A : Around} {E : Value → Shared → Prop}
theorem d_copyOf {Q : Value → Shared → Prop} (I : Inv X pins σ H s) (e : Rd H a (.dK kvs)) (h : ∀ p s', H p = none → Inv X pins σ (upd H p (.dK kvs)) s' → Q (.ref p) s') : wpAny (model X.prog X.w) A (call (.type "dict") [.ref a]) Q E s := by
  obtain ⟨z, hd, vs, rel, dd⟩ := dk_rd I.hok e
  refine kt_call_dict hd dd (by rw [← rel.length]; exact z) fun h' dd' hs => ?_
  refine h _ _ (I.hok.fresh (Nat.le_refl _)) (I.laid (a := s.heap.objs.size) (o := .dK kvs) (t' := s.toks) (fun b q hq => ?_) (Nat.le_refl _) (dk_new z (beq_eq_false_iff_ne.mpr (Ne.symm (Nat.ne_of_lt I.big))) rel dd'))
  exact (hs.2 b (Nat.ne_of_lt (Heap.lt_size hq))).trans (Heap.get?_push_of_some _ hq)
end


section
variable {X : Cx} {pins : List (Addr × Obj)} {σ : St} {H : Hp} {s : Shared} {a : Addr} {y : V} {u : Value} {A : Around} {E : Value → Shared → Prop}
/-- d[y], not there: a KeyError -/
theorem d_missing {Q : Value → Shared → Prop} (hu : A.units + 1 < cLine) (hh : A.handled = none) (I : Inv X pins σ H s) (g : DGet H a y none) (ry : RelV y u)
    (h : ∀ h' e t', Heap.NewExc s.heap h' e "KeyError" → E (.ref e) { s with heap := h', toks := t' }) : wpAny (model X.prog X.w) A (getItem (.ref a) u) Q E s := by
  rcases g with ⟨kvs, k, e, ey, l⟩ | ⟨kvs, k, b, e, ey, eb, l⟩
  · subst ey
    obtain ⟨z, hd, vs, rel, dd⟩ := dk_rd I.hok e
    have hn : valueAt vs k = none := RelO.none_of (by rw [l]; exact rel.val k)
    exact wpAny_getItem_missing_of (kV_is ry) hd hh dd.mapOf hn fun h' ex ne => h h' ex _ ne
  · subst ey
    cases (show u = Value.ref b from ry)
    obtain ⟨z, hd, xs, rel, dd⟩ := dt_rd I.hok e
    have hn : (atKey xs k).map (·.2) = none := RelO.none_of (by rw [l]; exact rel.val k)
    exact wpAny_getItem_missing_heap (tupleKind_room_in1 hu) (key_of I.hok eb) hd hh dd (Option.map_eq_none_iff.mp hn) fun h' ex ne => h h' ex _ ne
end
end L2

namespace Att
open PySem PySem.W PySem.Calls PyProof.Rows

/-! ### the script -/
theorem ints_of_wellAll {P : Params} {h : Heap} : ∀ (ns : List Int) (vs : List Value), WellAll P h vs (ns.map WData.int) → IntsAre vs ns := by
  intro ns
  induction ns with
  | nil =>
    intro vs w
    rw [List.map_nil] at w
    cases w
    exact .nil
  | cons n ns ih =>
    intro vs w
    rw [List.map_cons] at w
    cases w with
    | cons a b =>
      cases a
      exact .cons _ _ (ih _ b)

theorem script_of {l : OpenLaw} {n : Nat} (hn : l.most = some n) {P : Params} {h : Heap} {args : List WData} {vals : List Value}
    (hpre : l.row.toRowW.claim.pre args = true) (hwl : WellAll P h vals args) :
    ∃ a vs ns, vals = [Value.ref a] ∧ args = [WData.list (ns.map WData.int)] ∧ h.get? a = some { cls := .type "list", data := .seq vs.toArray } ∧ IntsAre vs ns ∧ ns.length ≤ n := by
  have hsh : WShape.hasAll [] args [.list .int] = true := (pre_splitW hpre).1
  have hc : l.pre.holds [] { args := args } = true := (pre_splitW hpre).2
  obtain ⟨d, r, rfl, h1, h2⟩ := hasAllW_cons hsh
  obtain rfl := hasAllW_nil h2
  obtain ⟨xs, rfl, h3⟩ := hasW_list h1
  obtain ⟨ns, rfl⟩ := items_int h3
  have hlen : ns.length ≤ n := by
    unfold OpenLaw.pre at hc
    have h4 : (WTm.not (.lt (.lit (.int (n : Int))) (.len (.arg 0)))).holds [] { args := [.list (ns.map .int)] } = true := by
      have h4 := (holds_andW hc).1
      rw [hn] at h4
      exact h4
    have h5 := condW_of h4 (w_not (w_lt w_lit (w_len_list (w_arg rfl))))
    rw [List.length_map] at h5
    refine Nat.le_of_not_lt fun q => ?_
    have q' : (n : Int) < ((ns.length : Nat) : Int) := by omega
    first
      | (rw [decide_eq_true q'] at h5; exact absurd h5 (by decide))
      | (simp at h5; omega)
  cases hwl with
  | cons w1 w2 =>
    cases w2
    cases w1 with
    | list ho hall => exact ⟨_, _, ns, rfl, rfl, ho, ints_of_wellAll ns _ hall, hlen⟩

theorem post_true (l : OpenLaw) (args : List WData) : l.row.toRowW.claim.post args (.bool true) args = true :=
  postW_of (r := l.row.toRowW) (X := (true == true))
    (show WShape.has [] (.bool true) .bool = true by first | rfl | decide | simp [WShape.has, WShape.arms, WShape.armsAll])
    (show (WTm.eq .res (.lit (.bool true))).value [] { args := args, res := some (.bool true), after := args } = some (.bool (true == true)) from w_eq_bool (w_res rfl) w_lit) rfl

/-! ### the attachment: holds_open's last premise (the goal 'hc' behind k_head) from a wpAny of the law's body -/
theorem attach {l : OpenLaw} {n : Nat} {q : Program} {loose : List Str} {XP : (Str → Option Value) → Heap → Prop} {YP : World → Heap → Prop} {d : DefRec} {x : Str}
    (hn : l.most = some n) (hdf : d.params.defaults = [])
    (hbind : ∀ pm cd doc v : Value, bindArgs (docDef d.name d.params d.body d.scope pm cd doc) ⟨[v], []⟩ = pure [(x, v)])
    (hx : d.scope.names.lookup x = some .local ∨ d.scope.names.lookup x = some .cell)
    (hk : d.scope.kind = .function) (hco : d.scope.isCoroutine = false) (hgen : d.scope.isGenerator = false)
    (body : ∀ (w : World) (s₀ s₁ s : Shared) (mg mb : Str → Option Value) (fa : Addr) (o : Obj) (pm cd doc : Value) (a : Addr) (vs : List Value) (ns : List Int),
      Ground q loose [] XP w s₀ mg mb s₁.heap → YP w s₁.heap →
      s₁.heap.get? fa = some o → o.data = .func (docDef d.name d.params d.body d.scope pm cd doc) → s₁.heap.CodeRec cd d.name → mg d.name = some (.ref fa) →
      s₁.heap.get? a = some { cls := .type "list", data := .seq vs.toArray } → IntsAre vs ns → ns.length ≤ n →
      s.gens = #[] → s.os = s₁.os →
      Fr s₁.heap s₁.heap.objs.size s.heap (bindL (envOfC d.name d.scope s₁.heap.objs.size fa cd).kindOf [(x, .ref a)] fun _ => none) →
      Cl s₁.heap.objs.size (cellsFrom (s₁.heap.objs.size + 1) d.scope.names []) s.heap (bindC (envOfC d.name d.scope s₁.heap.objs.size fa cd).kindOf [(x, .ref a)] fun _ => none) →
      wpAny (model l.prog w) (callerA.deeper (envOfC d.name d.scope s₁.heap.objs.size fa cd)) (execs d.body (envOfC d.name d.scope s₁.heap.objs.size fa cd))
        (fun f s' => f = .ret (.bool true) ∧ OldK s₁.heap s'.heap ∧ s'.os = s₁.os ∧ AllBare s'.gens) (fun _ _ => False) s) :
    WalkO q loose XP YP l.row.toRowW d [] (fun f vs => PySem.call f vs) := by
  intro w s₀ s₁ mg mb G Y fa o pm cd doc dV kV ho hd hcd hD hmg hg args vals as hpre hlay hrd hwl hlo
  obtain rfl : dV = .none := Dflts.none hD hdf
  obtain rfl : kV = .none := Dflts.noKw hD
  obtain ⟨a, vs, ns, rfl, rfl, hobj, hints, hlen⟩ := script_of hn hpre hwl
  refine enter_call ?_
  refine call_cells_ret (o := o) (by rw [depth_caller]; decide) ho (fd_plain hd) G.T.nolimit hcd (hbind pm cd doc (.ref a)) (fun y hy => ?_) (fun h₁ tk F X => ?_) hco hgen hk
  · obtain rfl : y = (x, Value.ref a) := List.mem_singleton.mp hy
    rcases hx with e | e
    · exact .inl e
    · exact .inr ⟨e, cellsFrom_some _ _ _ (.inl e)⟩
  · refine wpAny_mono (body w s₀ s₁ { s₁ with heap := h₁, toks := tk } mg mb fa o pm cd doc a vs ns G Y ho (fd_plain hd) hcd hmg hobj hints hlen hg rfl F X) (fun f s' hq => ?_) (fun _ _ hq => hq)
    obtain ⟨rfl, h2, h3, h4⟩ := hq
    exact ⟨.inl ⟨.bool true, .bool true, [], rfl, fun _ => rfl, .bool true, post_true l _, fun _ => ⟨List.Pairwise.nil, fun _ hm => (nomatch hm)⟩⟩, h2, h3, h4⟩

/-- the same from a codeAny of the CALL (for a layer whose function contracts speak of calls) -/
theorem attach_call {l : OpenLaw} {n : Nat} {q : Program} {loose : List Str} {XP : (Str → Option Value) → Heap → Prop} {YP : World → Heap → Prop} {d : DefRec}
    (hn : l.most = some n) (hdf : d.params.defaults = [])
    (call : ∀ (w : World) (s₀ s₁ : Shared) (mg mb : Str → Option Value) (fa : Addr) (o : Obj) (pm cd doc : Value) (a : Addr) (vs : List Value) (ns : List Int),
      Ground q loose [] XP w s₀ mg mb s₁.heap → YP w s₁.heap →
      s₁.heap.get? fa = some o → o.data = .func (docDef d.name d.params d.body d.scope pm cd doc) → s₁.heap.CodeRec cd d.name → mg d.name = some (.ref fa) →
      s₁.heap.get? a = some { cls := .type "list", data := .seq vs.toArray } → IntsAre vs ns → ns.length ≤ n → s₁.gens = #[] →
      codeAny (model l.prog w) callerA (.call (.ref fa) ⟨[.ref a], []⟩) (fun r s' => r = .ok (.ret (.bool true)) ∧ OldK s₁.heap s'.heap ∧ s'.os = s₁.os ∧ AllBare s'.gens) s₁) :
    WalkO q loose XP YP l.row.toRowW d [] (fun f vs => PySem.call f vs) := by
  intro w s₀ s₁ mg mb G Y fa o pm cd doc dV kV ho hd hcd hD hmg hg args vals as hpre hlay hrd hwl hlo
  obtain rfl : dV = .none := Dflts.none hD hdf
  obtain rfl : kV = .none := Dflts.noKw hD
  obtain ⟨a, vs, ns, rfl, rfl, hobj, hints, hlen⟩ := script_of hn hpre hwl
  refine enter_call (codeAny_mono (call w s₀ s₁ mg mb fa o pm cd doc a vs ns G Y ho (fd_plain hd) hcd hmg hobj hints hlen hg) fun r s' hq => ?_)
  obtain ⟨rfl, h2, h3, h4⟩ := hq
  exact ⟨.inl ⟨.bool true, .bool true, [], rfl, fun _ => rfl, .bool true, post_true l _, fun _ => ⟨List.Pairwise.nil, fun _ hm => (nomatch hm)⟩⟩, h2, h3, h4⟩

/-- the same where the top left finished generators (o_head chose holds_openN): nothing may have changed at all and no generator may be left -/
theorem attachN {l : OpenLaw} {n : Nat} {q : Program} {loose : List Str} {XP : (Str → Option Value) → Heap → Prop} {YP : World → Heap → Prop} {d : DefRec} {x : Str}
    (hn : l.most = some n) (hdf : d.params.defaults = [])
    (hbind : ∀ pm cd doc v : Value, bindArgs (docDef d.name d.params d.body d.scope pm cd doc) ⟨[v], []⟩ = pure [(x, v)])
    (hx : d.scope.names.lookup x = some .local ∨ d.scope.names.lookup x = some .cell)
    (hk : d.scope.kind = .function) (hco : d.scope.isCoroutine = false) (hgen : d.scope.isGenerator = false)
    (body : ∀ (w : World) (s₀ s₁ s : Shared) (mg mb : Str → Option Value) (fa : Addr) (o : Obj) (pm cd doc : Value) (a : Addr) (vs : List Value) (ns : List Int),
      Ground q loose [] XP w s₀ mg mb s₁.heap → YP w s₁.heap →
      s₁.heap.get? fa = some o → o.data = .func (docDef d.name d.params d.body d.scope pm cd doc) → s₁.heap.CodeRec cd d.name → mg d.name = some (.ref fa) →
      s₁.heap.get? a = some { cls := .type "list", data := .seq vs.toArray } → IntsAre vs ns → ns.length ≤ n →
      s.gens = #[] → s.os = s₁.os →
      Fr s₁.heap s₁.heap.objs.size s.heap (bindL (envOfC d.name d.scope s₁.heap.objs.size fa cd).kindOf [(x, .ref a)] fun _ => none) →
      Cl s₁.heap.objs.size (cellsFrom (s₁.heap.objs.size + 1) d.scope.names []) s.heap (bindC (envOfC d.name d.scope s₁.heap.objs.size fa cd).kindOf [(x, .ref a)] fun _ => none) →
      wpAny (model l.prog w) (callerA.deeper (envOfC d.name d.scope s₁.heap.objs.size fa cd)) (execs d.body (envOfC d.name d.scope s₁.heap.objs.size fa cd))
        (fun f s' => f = .ret (.bool true) ∧ (∀ b o, s₁.heap.get? b = some o → s'.heap.get? b = some o) ∧ s'.os = s₁.os ∧ s'.gens = #[]) (fun _ _ => False) s) :
    WalkN q loose XP YP l.row.toRowW d [] (fun f vs => PySem.call f vs) := by
  intro w s₀ s₁ mg mb G Y fa o pm cd doc dV kV ho hd hcd hD hmg hg args vals as hpre hlay hrd hwl hlo
  obtain rfl : dV = .none := Dflts.none hD hdf
  obtain rfl : kV = .none := Dflts.noKw hD
  obtain ⟨a, vs, ns, rfl, rfl, hobj, hints, hlen⟩ := script_of hn hpre hwl
  refine enter_callW ?_
  refine call_cells_ret (o := o) (by rw [depth_caller]; decide) ho (fd_plain hd) G.T.nolimit hcd (hbind pm cd doc (.ref a)) (fun y hy => ?_) (fun h₁ tk F X => ?_) hco hgen hk
  · obtain rfl : y = (x, Value.ref a) := List.mem_singleton.mp hy
    rcases hx with e | e
    · exact .inl e
    · exact .inr ⟨e, cellsFrom_some _ _ _ (.inl e)⟩
  · refine wpAny_mono (body w s₀ s₁ { s₁ with heap := h₁, toks := tk } mg mb fa o pm cd doc a vs ns G Y ho (fd_plain hd) hcd hmg hobj hints hlen hg rfl F X) (fun f s' hq => ?_) (fun _ _ hq => hq)
    obtain ⟨rfl, h2, h3, h4⟩ := hq
    exact ⟨.inl ⟨.bool true, .bool true, [], rfl, fun _ => rfl, .bool true, post_true l _, fun _ => ⟨List.Pairwise.nil, fun _ hm => (nomatch hm)⟩⟩, h2, h3, h4⟩

/-! ### rules over ANY heap (no ledger) from facts about the written part K: the library's own take a ledger (News) for what they write -/
section
variable {prog : Program} {w : World} {A : Around} {E : Value → Shared → Prop} {s : Shared} {K : Frag}

/-- a def of the module, or a method (qual 'C.m'), entered: the frame is the next address; cells behind it -/
theorem call_fn {R : Result → Shared → Prop} {name qual : Str} {params : Arguments} {body : List Stmt} {scope : Scope} {dV kV doc pm cdv ct oc : Value} {an od : Option Addr} {osl : Array (Option Value)} {f : Addr} {args : Args} {binds : List (Str × Value)}
    (X : K.In s.heap) (hlim : s.heap.NoLimit) (ho : K.lookup f = some ⟨oc, od, .func (fnOf name qual params body scope dV kV doc pm an cdv ct), osl⟩) (hcd : codeIn K cdv qual = true) (hroom : A.depth < recursionLimit)
    (hbind : BindsTo s (fnOf name qual params body scope dV kV doc pm an cdv ct) args binds)
    (hkind : (binds.all fun y => scope.names.lookup y.1 == some .local || scope.names.lookup y.1 == some .cell) = true)
    (h : ∀ s₁, InCallC s s.heap.objs.size (bindL (envOfC qual scope s.heap.objs.size f cdv).kindOf binds fun _ => none) (cellsFrom (s.heap.objs.size + 1) scope.names [])
        (bindC (envOfC qual scope s.heap.objs.size f cdv).kindOf binds fun _ => none) s₁ →
      wpAny (model prog w) (A.deeper (envOfC qual scope s.heap.objs.size f cdv)) (execs body (envOfC qual scope s.heap.objs.size f cdv))
        (fun fl s' => R (.ok (.ret (match fl with | .ret v => v | _ => .none))) s')
        (fun e s' => wpAny (model prog w) (A.deeper (envOfC qual scope s.heap.objs.size f cdv)) (leaving (envOfC qual scope s.heap.objs.size f cdv) e) (fun _ s'' => R (.error e) s'') (fun e' s'' => R (.error e') s'') s') s₁)
    (hco : scope.isCoroutine = false) (hgen : scope.isGenerator = false) (hk : scope.kind = .function) : codeAny (model prog w) A (.call (.ref f) args) R s := by
  refine codeAny_call_function hroom (X _ _ ho) rfl hco hgen rfl (codeRec_of X hcd) (hbind _ _ _ _ ?_)
  refine wpAny_newFunctionEnv_cells hk (kindsX hkind _) fun env he s₁ x => ?_
  subst he
  exact ⟨hlim.keeps x.toInCall.keep, codeAny_func (h s₁ x)⟩

/-- C(..): dict at size, instance at size + 1, then __init__ -/
theorem make_obj {R : Result → Shared → Prop} {C fI : Addr} {rest : List Value} {kw : List (Str × Value)}
    (X : K.In s.heap) (hm : makesIn K C = true) (hi : findIn K (.ref C) "__init__" = some (some (.ref fI))) (hf : isFn K (.ref fI) = true)
    (h : codeAny (model prog w) (A.under (.builtin "type.__call__" ⟨.ref C :: rest, kw⟩)) (.call (.ref fI) ⟨.ref (s.heap.objs.size + 1) :: rest, kw⟩) (InitBack (s.heap.objs.size + 1) R)
      { s with heap := (s.heap.push emptyDict).push (instObj C s.heap.objs.size) }) : codeAny (model prog w) A (.call (.ref C) ⟨rest, kw⟩) R s := by
  obtain ⟨hh, g, d, t, os⟩ := s
  exact make_core (makes_of X hm) (looks_findIn X hi) (fun self => bind_fn X self (beq_iff_eq.mp hf)) (.inl rfl) h

/-- x.name where the instance's dict holds the name and the class does not -/
theorem get_field {x C : Addr} {ox : Obj} {es : List DictEntry} {n : Nat} {name : Str} {expr : Bool} {v : Value} {Q : Value → Shared → Prop}
    (X : K.In s.heap) (I : PySem.W.InstAt s.heap x ox C (some (dictOf es n))) (hg : plainGet K C name = true) (hh : hasDictIn K C = true) (ha : findIn K (.ref C) name = some none)
    (hl : getL name es = some (some v)) (hv : handedIn v = true) (h : Q v { s with toks := s.toks + 1 }) : wpAny (model prog w) A (getAttr (.ref x) name expr) Q E s :=
  get_value X I (plainGet_of hg).1 (findObj_own hh ha rfl hl) hv h

/-- x.m(..): the method found in the class -/
theorem get_method {x C f : Addr} {ox : Obj} {es : List DictEntry} {n : Nat} {name : Str} {pl : Sem Bool} {Q : Value × List Value → Shared → Prop}
    (X : K.In s.heap) (I : PySem.W.InstAt s.heap x ox C (some (dictOf es n))) (hg : plainGet K C name = true) (hf : findIn K (.ref C) name = some (some (.ref f))) (ht : isFn K (.ref f) = true)
    (hl : getL name es = some none) (h : Q (.ref f, [.ref x]) s) : wpAny (model prog w) A (getMethod (.ref x) name pl) Q E s :=
  method_fn X I (plainGet_of hg).1 (plainGet_of hg).2 hf (beq_iff_eq.mp ht) (by show (lookIn name (dictOf es n)).map _ = _; rw [lookIn_dict, hl]; rfl) h

/-! the whole heap as the ledger: makes every rule that writes through a ledger a rule over any heap -/
def noObjs (h : Heap) : Heap := { h with objs := #[] }
theorem noObjs_get (h : Heap) (b : Addr) : (noObjs h).get? b = none := by
  cases e : (noObjs h).get? b with
  | none => rfl
  | some o => exact absurd (Heap.lt_size e) (Nat.not_lt_zero _)
def ledger (h : Heap) (L d : Addr) : List (Addr × Obj) := (List.range h.objs.size).filterMap fun a => if a = L ∨ a = d then none else (h.get? a).map fun o => (a, o)
theorem mem_ledger {h : Heap} {L d a : Addr} {o : Obj} : (a, o) ∈ ledger h L d ↔ a ≠ L ∧ a ≠ d ∧ h.get? a = some o := by
  unfold ledger
  rw [List.mem_filterMap]
  constructor
  · rintro ⟨b, _, e⟩
    split at e
    · cases e
    · rename_i hb
      obtain ⟨o', ho, e'⟩ := Option.map_eq_some_iff.mp e
      cases e'
      exact ⟨fun q => hb (.inl q), fun q => hb (.inr q), ho⟩
  · rintro ⟨n1, n2, ho⟩
    refine ⟨a, List.mem_range.mpr (Heap.lt_size ho), ?_⟩
    rw [if_neg (show ¬ (a = L ∨ a = d) from fun q => q.elim n1 n2), ho] <;> rfl
theorem news_ledger {h : Heap} {L d : Addr} {od : Obj} (hne : d ≠ L) (ho : h.get? d = some od) : News (noObjs h) L h ([] ++ (d, od) :: ledger h L d) := by
  rintro ⟨a, o⟩ hp
  rcases List.mem_cons.mp hp with e | hp
  · cases e
    exact ⟨ho, hne, noObjs_get _ _⟩
  · obtain ⟨n1, n2, e⟩ := mem_ledger.mp hp
    exact ⟨e, n1, noObjs_get _ _⟩
theorem fr_all {h : Heap} {L : Addr} {m : Str → Option Value} (n : h.Ns L m) : Fr (noObjs h) L h m :=
  ⟨n, fun b o e => (by rw [noObjs_get] at e; cases e), Nat.zero_le _⟩
/-- Upd of the head entry (for append_K, setItem_K ..) -/
theorem upd_ledger {h : Heap} {L d : Addr} {o o' : Obj} : Upd d o o' ((d, o) :: ledger h L d) ((d, o') :: ledger h L d) :=
  .head fun ⟨_, _⟩ hp => (mem_ledger.mp hp).2.1

/-- x.name = v over any heap: L is any namespace of the heap (the frame's, say): its map stays, its object is not told; all else but the dict stays -/
theorem set_field {x C dx L : Addr} {ox : Obj} {m : Str → Option Value} {es es' : List DictEntry} {n n' : Nat} {name : Str} {v : Value} {Q : Unit → Shared → Prop}
    (X : K.In s.heap) (I : PySem.W.InstAt s.heap x ox C (some (dictOf es n))) (hd : ox.dict = some dx) (hL : s.heap.Ns L m) (hne : dx ≠ L)
    (hs : findIn K (.ref C) "__setattr__" = some (some (.builtin "object.__setattr__"))) (hp : plainOver K C = true) (ht : takerIn K C name = some none) (hh : hasDictIn K C = true) (hl : (getL name es).isSome = true)
    (e : (putL name (PyData.keyHash w.params name) (.str name (s.toks + 1)) v es, putN name es n) = (es', n')) (hz : es'.length ≤ 1000)
    (h : ∀ h' : Heap, h'.Ns L m → h'.get? dx = some (dictOf es' n') → (∀ b o, b ≠ dx → b ≠ L → s.heap.get? b = some o → h'.get? b = some o) → Q () { s with heap := h', toks := s.toks + 2 }) :
    wpAny (model prog w) A (setAttr (.ref x) name v) Q E s := by
  obtain ⟨e1, e2⟩ := Prod.mk.inj e
  have hdx : s.heap.get? dx = some (dictOf es n) := by
    have := I.dict
    rw [hd] at this
    exact this
  refine set_plain X I hs (osa_dict (s := { s with toks := s.toks + 1 }) (h₀ := noObjs s.heap) (L := L) (m := m) (od := dictOf es n) (od' := dictOf es' n') (es := es') (n := n') (pre := []) (post := ledger s.heap L dx)
    (fr_all hL) (news_ledger hne hdx) X I hd hp ht hh hl (fun _ q => nomatch q) (fun ⟨_, _⟩ q => (mem_ledger.mp q).2.1) (by rw [putName_dict, e1, e2]) rfl hz fun h' F' N' => ?_)
  exact h h' F'.ns (N'.get (List.Mem.head _)) fun b o n1 n2 ho => N'.get (List.Mem.tail _ (mem_ledger.mpr ⟨n2, n1, ho⟩))
end
end Att

namespace L2
open PySem PySem.Spec PyProof.Rows

theorem vals_ints : ∀ {vs : List Value} {ns : List Int}, IntsAre vs ns → Vals (ns.map V.int) vs
  | _, _, .nil => .nil
  | _, _, .cons n t h => .cons ⟨t, rfl⟩ (vals_ints h)

/-- nothing is tracked but the script, known to the object (or it is an object of the module) -/
def Only (H : Hp) : Prop := ∀ b, H b = none ∨ ∃ o xs, H b = some (.frz o (.lst xs))

/-- THE HEAD: the law's promise, at the heap behind the top. F, the promise of the law's def, may use that base is part of the heap (so K.In base, base.Ns mainGlobals mg stand in Mod) -/
theorem law_call {P : Program} {w : World} {K : PySem.W.Frag} {mg mb : Str → Option Value} {CX : CXT} {k : Nat} {fa a : Addr} {fd : FuncData} {x : Str} {sp : Sp} {s₁ : Shared} {vs : List Value} {ns : List Int}
    (KX : K.In s₁.heap) (hns : s₁.heap.Ns mainGlobals mg) (hb : s₁.heap.Ns builtinsNs mb) (hbb : ∀ x : Str, x ≠ "__name__" → mb x = bootBuiltins x) (hlim : s₁.heap.NoLimit) (hg : s₁.gens = #[])
    (ha : s₁.heap.get? a = some { cls := .type "list", data := .seq vs.toArray }) (hi : IntsAre vs ns) (hl : ns.length ≤ sizeLine) (hr : Room k callerA)
    (F : ∀ base : Heap, K.In base → base.Ns mainGlobals mg → FnOk P w K mg base CX k fa fd [x] sp) (hbind : ∀ (s : Shared) (u : Value), BindsTo s fd ⟨[u], []⟩ [(x, u)])
    (hsp : ∀ H : Hp, Only H → SqL K H a (ns.map V.int) → sp [.ref a] H (fun v _ => v = .bl true) fun _ _ _ => False)
    (hCX : ∀ H e s', CX [] H s₁ (fun _ _ _ => False) e s' → False) :
    codeAny (model P w) callerA (.call (.ref fa) ⟨[.ref a], []⟩) (fun r s' => r = .ok (.ret (.bool true)) ∧ OldK s₁.heap s'.heap ∧ s'.os = s₁.os ∧ AllBare s'.gens) s₁ := by
  have rv := vals_ints hi
  have lenV := hi.length
  -- from an abstract heap in which nothing but the script may be tracked
  have core : ∀ H : Hp, Only H → SqL K H a (ns.map V.int) → HOk P w H s₁.heap → (∀ b, H b ≠ none → b = a) → (H a ≠ none → K.lookup a = none) →
      codeAny (model P w) callerA (.call (.ref fa) ⟨[.ref a], []⟩) (fun r s' => r = .ok (.ret (.bool true)) ∧ OldK s₁.heap s'.heap ∧ s'.os = s₁.os ∧ AllBare s'.gens) s₁ := by
    intro H hO hS hok hA hK
    have base_of : ∀ {b : Addr} {o : Obj}, s₁.heap.get? b = some o → H b = none → (hidT s₁.heap H).get? b = some o := fun e n => hidT_get e n
    have noA : ∀ {b : Addr} {o : Obj} {es : Array DictEntry} {ep : Nat}, s₁.heap.get? b = some o → o.data = .dict es ep → H b = none := fun {b o es ep} e d => by
      cases q : H b with
      | none => rfl
      | some u =>
        have e' : b = a := hA b (by rw [q]; simp)
        subst e'
        rw [ha] at e; cases e
        have d' : Data.seq vs.toArray _ = Data.dict es ep := d
        cases d'
    have nsK : ∀ {b : Addr} {m : Str → Option Value}, s₁.heap.Ns b m → (hidT s₁.heap H).Ns b m := fun {b m} ⟨o, es, ep, e, d, r⟩ => ⟨o, es, ep, base_of e (noA e d), d, r⟩
    have hKb : K.In (hidT s₁.heap H) := fun b o e => base_of (KX b o e) (by
      cases q : H b with
      | none => rfl
      | some u =>
        have e' : b = a := hA b (by rw [q]; simp)
        subst e'
        rw [hK (by rw [q]; simp)] at e; cases e)
    have hM : Mod K mg (hidT s₁.heap H) := ⟨hKb, nsK hns, ⟨mb, nsK hb, hbb⟩, let ⟨mc, h1, h2⟩ := hlim; ⟨mc, nsK h1, h2⟩⟩
    have e0 : Env0 P w K mg (hidT s₁.heap H) callerA [] s₁ H := ⟨rfl, hM, fun b o e => of_hidT e, Nat.le_of_eq (hidT_size _ _), trivial, fun b hb => absurd (show b ∈ ([] : List Addr) from hb) (by simp), hok, .of_eq hg⟩
    refine codeAny_mono ((F _ hKb (nsK hns)).run callerA [] s₁ H ⟨[.ref a], []⟩ [.ref a] [.ref a] _ _ hr e0 (hbind s₁ (.ref a)) (.cons rfl .nil) (hsp H hO hS)) fun r s' h => ?_
    cases r with
    | error e => exact (hCX H e s' h).elim
    | ok fl =>
      cases fl with
      | next => exact False.elim h
      | brk => exact False.elim h
      | cont => exact False.elim h
      | ret u =>
        obtain ⟨v, H', os, bare, un, hok', r', q⟩ := h
        have q' : v = .bl true := q
        subst q'
        obtain rfl : u = Value.bool true := r'
        refine ⟨rfl, OldK.of_keep fun b o e => ?_, os, bare⟩
        cases q : H b with
        | none => exact un.keep b o e q (by intro z; exact absurd (show b ∈ ([] : List Addr) from z) (by simp)) (by simp)
        | some u =>
          rcases hO b with z | ⟨ob, xs, z⟩
          · rw [q] at z; cases z
          · have z2 := un.frzs b ob _ z
            obtain ⟨e1, _⟩ := hok b _ z
            obtain ⟨e2, _⟩ := hok' b _ z2
            rw [e] at e1; cases e1
            exact e2
  cases hk : K.lookup a with
  | some o =>
    -- the script is one of the module's own objects
    have e := KX a o hk
    rw [ha] at e
    cases e
    refine core (fun _ => none) (fun _ => .inl rfl) (.inr ⟨_, vs.toArray, _, hk, rfl, rfl, rfl, by rw [List.size_toArray, lenV]; exact hl, by simpa using rv⟩) (fun b u z => by have z' : (none : Option HO) = some u := z; cases z') (fun b z => absurd rfl z) fun z => absurd rfl z
  | none =>
    refine core (fun b => if b = a then some (.frz { cls := .type "list", data := .seq vs.toArray } (.lst (ns.map V.int))) else none) (fun b => ?_) (.inl (.inr ⟨{ cls := .type "list", data := .seq vs.toArray }, if_pos rfl⟩)) (fun b u z => ?_) (fun b z => ?_) fun _ => hk
    · by_cases hb : b = a
      · exact .inr ⟨_, _, if_pos hb⟩
      · exact .inl (if_neg hb)
    · by_cases hb : b = a
      · have z' := (if_pos hb).symm.trans z
        cases z'
        subst hb
        exact ⟨ha, by rw [List.length_map]; exact hl, vs, _, rv, ha⟩
      · have z' := (if_neg hb).symm.trans z
        cases z'
    · by_cases hb : b = a
      · exact hb
      · exact absurd (if_neg hb) z
end L2

namespace L2
open PySem PySem.Spec PyProof.Rows

abbrev KOf {K : PySem.W.Frag} {h : Heap} (_ : K.In h) : PySem.W.Frag := K

/-- the goal that k_head leaves (case hc), from the law's promise. F gives the function object fd (K's own) once, then the promise over every base -/
theorem walk_of {l : PySem.W.OpenLaw} {n k : Nat} {q : Program} {loose : List Str} {XP : (Str → Option Value) → Heap → Prop} {YP : World → Heap → Prop} {d : DefRec} {K : Params → PySem.W.Frag} {CX : World → CXT} {sp : World → Sp} {x : Str}
    (hn : l.most = some n) (hn2 : n ≤ sizeLine) (hdf : d.params.defaults = []) (hr : Room k callerA)
    (hY : ∀ (w : World) (h : Heap), YP w h → (K w.params).In h)
    (F : ∀ (w : World) (mg : Str → Option Value) (fa : Addr) (h : Heap), (K w.params).In h → h.Ns mainGlobals mg → mg d.name = some (.ref fa) →
      ∃ fd : FuncData, (∀ (s : Shared) (u : Value), BindsTo s fd ⟨[u], []⟩ [(x, u)]) ∧
        ∀ base : Heap, (K w.params).In base → base.Ns mainGlobals mg → FnOk l.prog w (K w.params) mg base (CX w) k fa fd [x] (sp w))
    (hsp : ∀ (w : World) (H : Hp) (a : Addr) (ns : List Int), ns.length ≤ n → Only H → SqL (K w.params) H a (ns.map V.int) → sp w [.ref a] H (fun v _ => v = .bl true) fun _ _ _ => False)
    (hCX : ∀ (w : World) (H : Hp) (s : Shared) (e : Value) (s' : Shared), CX w [] H s (fun _ _ _ => False) e s' → False) :
    PySem.W.WalkO q loose XP YP l.row.toRowW d [] (fun f vs => PySem.call f vs) := by
  refine Att.attach_call hn hdf fun w s₀ s₁ mg mb fa o pm cd doc a vs ns G Y ho hd hcd hmg hobj hints hlen hg => ?_
  have KX := hY w _ Y
  obtain ⟨fd, hb, hF⟩ := F w mg fa _ KX G.T.g hmg
  exact law_call KX G.T.g G.T.b G.T.builtins G.T.nolimit hg hobj hints (Nat.le_trans hlen hn2) hr hF hb (fun H hO hS => hsp w H a ns hlen hO hS) fun H e s' => hCX w H s₁ e s'
/-- the same where the promise hangs on the written part alone: (sp := My.sp_law), no hole under a binder -/
theorem walk_ofK {l : PySem.W.OpenLaw} {n k : Nat} {q : Program} {loose : List Str} {XP : (Str → Option Value) → Heap → Prop} {YP : World → Heap → Prop} {d : DefRec} {K : Params → PySem.W.Frag} {CX : CXT} {sp : PySem.W.Frag → Sp} {x : Str}
    (hn : l.most = some n) (hn2 : n ≤ sizeLine) (hdf : d.params.defaults = []) (hr : Room k callerA)
    (hY : ∀ (w : World) (h : Heap), YP w h → (K w.params).In h)
    (F : ∀ (w : World) (mg : Str → Option Value) (fa : Addr) (h : Heap), (K w.params).In h → h.Ns mainGlobals mg → mg d.name = some (.ref fa) →
      ∃ fd : FuncData, (∀ (s : Shared) (u : Value), BindsTo s fd ⟨[u], []⟩ [(x, u)]) ∧
        ∀ base : Heap, (K w.params).In base → base.Ns mainGlobals mg → FnOk l.prog w (K w.params) mg base CX k fa fd [x] (sp (K w.params)))
    (hsp : ∀ (K : PySem.W.Frag) (H : Hp) (a : Addr) (ns : List Int), ns.length ≤ n → Only H → SqL K H a (ns.map V.int) → sp K [.ref a] H (fun v _ => v = .bl true) fun _ _ _ => False)
    (hCX : ∀ (H : Hp) (s : Shared) (e : Value) (s' : Shared), CX [] H s (fun _ _ _ => False) e s' → False) :
    PySem.W.WalkO q loose XP YP l.row.toRowW d [] (fun f vs => PySem.call f vs) :=
  walk_of (K := K) (CX := fun _ => CX) (sp := fun w => sp (K w.params)) hn hn2 hdf hr hY F (fun w H a ns h1 h2 h3 => hsp (K w.params) H a ns h1 h2 h3) fun _ H s e s' => hCX H s e s'
end L2

/- THE LAST THEOREM (shape; LID, My.* are yours):
   My.Adr: a structure of the addresses that your layer names (classes, functions); My.Txt K t: a structure (Prop) of the equations over K;
   My.txt_mk : {K} {implicit addresses ..} (e1 : nsIn K mainGlobals "law" = some (some (.ref f))) (e2 : K.lookup f = some ⟨oc, od, .func (fnOf "law" "law" params body scope dV kV doc pm an cdv ct), sl⟩) (e3 : codeIn K cdv "law" = true) .. : ∃ t, My.Txt K t

set_option maxRecDepth 100000 in
set_option maxHeartbeats 0 in
theorem PySem.Challenge.cw_LID_holds : PySem.Challenge.rw_LID.Holds := by
  w_on; o_law; k_head; (case hw => w_witness2)
  k_fill
  refine L2.walk_of (l := PySem.Challenge.rw_LID) (n := 63) (k := 40) (x := "script") (CX := fun w => ..) (sp := fun _ => My.sp_law) rfl (by decide) rfl ⟨rfl, by decide, by decide⟩ (fun w h Y => PySem.W.kIn_of Y) ?F ?S ?C
  case F =>
    intro w mg fa h KX G hmg
    have T : ∃ t, My.Txt (L2.KOf KX) t := by
      dsimp only [L2.KOf]                          -- K must stand as «<heap const> w.params» for k_is
      refine' My.txt_mk ?e1 ?e2 ?e3 ..
      (case e1 => PySem.W.k_is)                    -- in the order: a name -> its address -> its object -> its parts
      (case e2 => PySem.W.k_is)
      ..
    obtain ⟨t, T⟩ := T
    have e0 := hmg.symm.trans (PySem.W.mg_of KX G T.law)
    cases e0                                       -- fa is the law's own address
    exact ⟨_, fun s u => .of_eq rfl, fun base kb nb => My.law_fn T kb nb⟩     -- if «.of_eq rfl» comes too early: refine' ⟨_, ?b, fun base kb nb => My.law_fn T kb nb⟩; exact fun s u => .of_eq rfl
  case S => exact fun w H a ns hl hO hS => ..
  case C => exact ..
(the tactic k_is has no namespace: write k_is) -/

/-! SHORT WORDS over the layer: a def of the text, its body, what a loop and a test want. -/
namespace L2
open PySem PySem.Spec PyProof.Rows

/-! ### the text by places -/
/-- the j-th statement of a class's body -/
def inClass (s : Stmt) (j : Nat) : Stmt := match s with
  | .ClassDef _ _ _ body _ _ _ _ _ _ _ => body.getD j (.Pass ⟨0, 0, 0, 0⟩)
  | _ => .Pass ⟨0, 0, 0, 0⟩
def defArgs (s : Stmt) : Arguments := match s with
  | .FunctionDef _ a _ _ _ _ _ _ _ _ => a
  | _ => { posonlyargs := [], args := [], vararg := none, kwonlyargs := [], kw_defaults := [], kwarg := none, defaults := [] }
def defBody (s : Stmt) : List Stmt := match s with
  | .FunctionDef _ _ b _ _ _ _ _ _ _ => b
  | _ => []
def defScope (s : Stmt) : Scope := match s with
  | .FunctionDef _ _ _ _ _ _ sc _ _ _ => sc
  | _ => { kind := .function, names := [], isGenerator := false, isCoroutine := false }

/-! ### no exception leaves a def -/
abbrev CX0 : CXT := fun _ _ _ _ _ _ => False
abbrev E0 : XK := fun _ _ _ => False
theorem pass0 {X : Cx} : Passes CX0 X E0 := fun _ _ _ _ _ _ _ h => h.elim

/-! ### a def (or method) of the text as it stands behind the top -/
structure Fun (K : PySem.W.Frag) (x qual : Str) (st : Stmt) (f : Addr) (fd : FuncData) : Prop where
  ex : ∃ (oc : Value) (od : Option Addr) (kV doc pm : Value) (an : Option Addr) (cdv ct : Value) (osl : Array (Option Value)),
    fd = PySem.W.fnOf x qual (defArgs st) (defBody st) (defScope st) .none kV doc pm an cdv ct ∧ K.lookup f = some ⟨oc, od, .func fd, osl⟩ ∧ PySem.W.codeIn K cdv qual = true
  kp : PySem.W.keepIn K (.ref f) = true
section
variable {P : Program} {w : World} {K : PySem.W.Frag} {mg : Str → Option Value} {base : Heap}
/-- THE RULE for a def: its body as a term of rules, and the reading of that term -/
theorem Fun.ok {x qual : Str} {st : Stmt} {f : Addr} {fd : FuncData} {N ps : List Str} {k : Nat} {sp : Sp} (F : Fun K x qual st f fd) (S : FnScope N ps (defScope st)) (len : ∀ vs H Q E, sp vs H Q E → vs.length = ps.length)
    (hbody : ∀ (cdv : Value) (A : Around) (outer : List Env) (s : Shared) (H : Hp) (vs : List V) (Q : VK) (E : XK), Room k (A.deeper (envOfC qual (defScope st) s.heap.objs.size f cdv)) → sp vs H Q E →
      ∃ t, PSs (cxOf CX0 P w K mg base N qual (defScope st) f cdv A outer s H E).nox (defBody st) t ∧ t { nx := fun _ H' => Q .non H', rt := Q } (start N vs) H) : FnOk P w K mg base CX0 (k + 1) f fd ps sp := by
  obtain ⟨oc, od, kV, doc, pm, an, cdv, ct, osl, rfl, lk, hcd⟩ := F.ex
  refine fn_of lk hcd S len fun A outer s H vs Q E hr hsp => ?_
  obtain ⟨t, h, q⟩ := hbody cdv A outer s H vs Q E hr hsp
  exact ⟨t, h.nox, q⟩
/-- how its arguments bind (no defaults): h is «fun _ _ _ _ _ _ us hl => match us, hl with | [_, _], _ => rfl», one _ a parameter -/
theorem Fun.binds {x qual : Str} {st : Stmt} {f : Addr} {fd : FuncData} {ps : List Str} (F : Fun K x qual st f fd)
    (h : ∀ (kV doc pm : Value) (an : Option Addr) (cdv ct : Value) (us : List Value), us.length = ps.length → bindArgs (PySem.W.fnOf x qual (defArgs st) (defBody st) (defScope st) .none kV doc pm an cdv ct) ⟨us, []⟩ = pure (ps.zip us)) : Binds K fd ps [] := by
  obtain ⟨oc, od, kV, doc, pm, an, cdv, ct, osl, rfl, lk, hcd⟩ := F.ex
  exact .all (h kV doc pm an cdv ct)
theorem fun_mk {x qual : Str} {st : Stmt} {f : Addr} {oc : Value} {od an : Option Addr} {osl : Array (Option Value)} {kV doc pm cdv ct : Value} (l : K.lookup f = some ⟨oc, od, .func (PySem.W.fnOf x qual (defArgs st) (defBody st) (defScope st) .none kV doc pm an cdv ct), osl⟩)
    (c : PySem.W.codeIn K cdv qual = true) (k : PySem.W.keepIn K (.ref f) = true) : Fun K x qual st f (PySem.W.fnOf x qual (defArgs st) (defBody st) (defScope st) .none kV doc pm an cdv ct) := ⟨⟨oc, od, kV, doc, pm, an, cdv, ct, osl, rfl, l, c⟩, k⟩
end
theorem hu_of {A : Around} {k : Nat} (hr : Room k A) : A.units + 1 < cLine := Nat.lt_of_le_of_lt (Nat.add_le_add_left (by decide : 1 ≤ 64) _) hr.units
theorem small1000 {n : Nat} (h : n ≤ 1000) : n < sizeLine := Nat.lt_of_le_of_lt h (by decide)

/-! ### expressions in short: the name that stands in the i-th slot -/
section
variable {X : Cx}
theorem pv (i : Nat) {x : Str} {pos : Pos} (hN : X.N[i]? = some x := by rfl) (hv : Vis X.env.scope x := by first | exact Or.inl rfl | exact Or.inr (Or.inl rfl) | exact Or.inr (Or.inr rfl)) (hd : (x == ("__debug__" : Str)) = false := by decide)
    (hcd : (x == ("__classdict__" : Str)) = false := by decide) : PE X (.Name x pos) (tVar i) := pe_var hN hv hd hcd
end

/-! ### tests -/
theorem iteF {A B : Prop} (h : B) : if false = true then A else B := by
  rw [if_neg Bool.false_ne_true]
  exact h
theorem iteT {A B : Prop} (h : A) : if true = true then A else B := by
  rw [if_pos rfl]
  exact h
theorem ite2 {c A B : Prop} [Decidable c] (h1 : c → A) (h2 : ¬ c → B) : if c then A else B := by
  by_cases h : c
  · rw [if_pos h]
    exact h1 h
  · rw [if_neg h]
    exact h2 h
theorem iteNS {c A B : Prop} [Decidable c] (hc : c) (h : B) : if (!decide c) = true then A else B := by
  rw [decide_eq_true hc]
  exact iteF h

/-! ### heaps -/
/-- all that was tracked is as it was -/
def Same (H H' : Hp) : Prop := ∀ b o, H b = some o → H' b = some o
theorem Same.refl (H : Hp) : Same H H := fun _ _ h => h
theorem Same.trans {H H1 H2 : Hp} (a : Same H H1) (b : Same H1 H2) : Same H H2 := fun c o h => b c o (a c o h)
theorem Same.free {H H' : Hp} (e : Same H H') {l : Addr} (h : H' l = Option.none) : H l = Option.none := by
  cases q : H l with
  | none => rfl
  | some o =>
    rw [e l o q] at h
    cases h
theorem Same.seq {K : PySem.W.Frag} {H H' : Hp} {a : Addr} {xs : List V} (e : Same H H') (h : SqL K H a xs) : SqL K H' a xs := by
  rcases h with (h | ⟨o, h⟩) | h
  · exact .inl (.inl (e _ _ h))
  · exact .inl (.inr ⟨o, e _ _ h⟩)
  · exact .inr h

section
variable {X : Cx}
/-- len of a dict -/
theorem call_lenD : CallR X (.builtin "len") (fun xs H Q => ∃ a kvs, xs = [V.ref a] ∧ H a = some (.dK kvs) ∧ Q (.int kvs.length) H) := by
  intro pins s σ H xs us Q I r h
  obtain ⟨a, kvs, rfl, ha, q⟩ := h
  obtain ⟨u, rfl, ru⟩ := vals1 r
  cases ru
  exact d_len I (.inl ha) fun t s' I' => ⟨.int kvs.length, H, I', ⟨t, rfl⟩, q⟩
end
/-! ### a dict's pairs: keys that differ -/
section
variable {κ : Type} [DecidableEq κ]
theorem valV_not {kvs : List (κ × V)} {k : κ} (h : valV kvs k = none) : ¬ k ∈ kvs.map (·.1) := by
  intro m
  obtain ⟨p, hp, e⟩ := List.mem_map.mp m
  have q : (kvs.any fun kv => decide (kv.1 = k)) = true := List.any_eq_true.mpr ⟨p, hp, decide_eq_true e⟩
  rw [valV_any, h] at q
  exact absurd q (by simp)
theorem valV_in {kvs : List (κ × V)} {k : κ} {v : V} (h : valV kvs k = some v) : k ∈ kvs.map (·.1) := by
  have q : (kvs.any fun kv => decide (kv.1 = k)) = true := by
    rw [valV_any, h]
    all_goals rfl
  obtain ⟨p, hp, e⟩ := List.any_eq_true.mp q
  exact List.mem_map.mpr ⟨p, hp, of_decide_eq_true e⟩
theorem nd_snoc : ∀ {l : List κ} {k : κ}, l.Nodup → ¬ k ∈ l → (l ++ [k]).Nodup
  | [], k, _, _ => by simp
  | a :: r, k, h, hk => by
    obtain ⟨h1, h2⟩ := List.nodup_cons.mp h
    show (a :: (r ++ [k])).Nodup
    refine List.nodup_cons.mpr ⟨fun m => ?_, nd_snoc h2 fun m => hk (List.mem_cons.mpr (Or.inr m))⟩
    rcases List.mem_append.mp m with q | q
    · exact h1 q
    · exact hk (List.mem_cons.mpr (Or.inl (List.mem_singleton.mp q).symm))
theorem nd_putK {kvs : List (κ × V)} {k : κ} (v : V) (hn : (kvs.map (·.1)).Nodup) (h : valV kvs k = none) : ((putK kvs k v).map (·.1)).Nodup := by
  rw [putK_new v h, List.map_append]
  exact nd_snoc hn (valV_not h)
theorem dropK_pos {p : κ × V} {r : List (κ × V)} {k : κ} (e : p.1 = k) : dropK (p :: r) k = dropK r k := by
  unfold dropK
  rw [List.filter_cons, if_neg (by simp [e])]
theorem dropK_neg {p : κ × V} {r : List (κ × V)} {k : κ} (e : ¬ p.1 = k) : dropK (p :: r) k = p :: dropK r k := by
  unfold dropK
  rw [List.filter_cons, if_pos (by simp [e])]
theorem dropK_no : ∀ {kvs : List (κ × V)} {k : κ}, ¬ k ∈ kvs.map (·.1) → dropK kvs k = kvs
  | [], _, _ => rfl
  | p :: r, k, h => by
    have h' : ¬ k ∈ r.map (·.1) := fun m => by
      obtain ⟨q, hq, e⟩ := List.mem_map.mp m
      exact h (List.mem_map.mpr ⟨q, List.mem_cons.mpr (Or.inr hq), e⟩)
    rw [dropK_neg fun e => h (List.mem_map.mpr ⟨p, List.mem_cons.mpr (Or.inl rfl), e⟩), dropK_no h']
theorem dropK_mem {kvs : List (κ × V)} {k : κ} {p : κ × V} (h : p ∈ dropK kvs k) : p ∈ kvs := (List.mem_filter.mp h).1
theorem nd_dropK : ∀ {kvs : List (κ × V)} {k : κ}, (kvs.map (·.1)).Nodup → ((dropK kvs k).map (·.1)).Nodup
  | [], _, _ => List.nodup_nil
  | p :: r, k, h => by
    have h : (p.1 :: r.map (·.1)).Nodup := h
    obtain ⟨h1, h2⟩ := List.nodup_cons.mp h
    by_cases e : p.1 = k
    · rw [dropK_pos e]
      exact nd_dropK h2
    · rw [dropK_neg e]
      show (p.1 :: (dropK r k).map (·.1)).Nodup
      refine List.nodup_cons.mpr ⟨fun m => h1 ?_, nd_dropK h2⟩
      obtain ⟨q, hq, eq⟩ := List.mem_map.mp m
      exact List.mem_map.mpr ⟨q, dropK_mem hq, eq⟩
theorem dropK_len : ∀ {kvs : List (κ × V)} {k : κ}, (kvs.map (·.1)).Nodup → k ∈ kvs.map (·.1) → (dropK kvs k).length + 1 = kvs.length
  | [], _, _, m => by simp at m
  | p :: r, k, h, m => by
    have h : (p.1 :: r.map (·.1)).Nodup := h
    have m : k = p.1 ∨ k ∈ r.map (·.1) := List.mem_cons.mp m
    obtain ⟨h1, h2⟩ := List.nodup_cons.mp h
    by_cases e : p.1 = k
    · subst e
      rw [dropK_pos rfl, dropK_no h1]
      all_goals rfl
    · have m' : k ∈ r.map (·.1) := m.resolve_left fun z => e z.symm
      have q := dropK_len h2 m'
      rw [dropK_neg e, List.length_cons, List.length_cons]
      omega
end
end L2

/-! More rules over the hand layer: list comprehensions, texts, some of Python's own functions. -/
namespace L2
open PySem PySem.Spec PyProof.Rows

/-! ### what a comprehension's block sees of the names around it -/
theorem forIn_fold {α β : Type} {f : α → β → Sem (ForInStep β)} {g : β → α → β} : ∀ (l : List α) (c : β), (∀ x ∈ l, ∀ c, f x c = pure (.yield (g c x))) → forIn l c f = (pure (l.foldl g c) : Sem β)
  | [], c, _ => rfl
  | x :: l, c, h => by
    rw [List.forIn_cons, h x List.mem_cons_self, pure_bind]
    exact forIn_fold l _ fun y hy => h y (List.mem_cons_of_mem _ hy)
def clStep (env : Env) (cs : List (Str × Addr)) (x : Str × NameKind) : List (Str × Addr) := if x.2 == .free then (x.1, (env.cells.lookup x.1).getD 0) :: cs else cs
def lcCl (scope : Scope) (env : Env) : List (Str × Addr) := scope.names.foldl (clStep env) []
theorem lcCl_closure {scope : Scope} {env : Env} (h : ∀ x ∈ scope.names, x.2 = .free → ∃ c, env.cells.lookup x.1 = some c) : closureFor scope env = pure (lcCl scope env) := by
  simp only [closureFor]
  rw [forIn_fold (g := clStep env) scope.names [] (fun x hx c => by
    obtain ⟨n, k⟩ := x
    by_cases hk : k = .free
    · subst hk
      obtain ⟨a, ha⟩ := h _ hx rfl
      have ha' : env.cells.lookup n = some a := ha
      simp [cellOf, ha', clStep]
    · have e : (k == NameKind.free) = false := by simpa using hk
      simp [e, clStep])]
  rfl
theorem clStep_sub {env : Env} : ∀ (names : List (Str × NameKind)) (acc : List (Str × Addr)), (∀ x ∈ names, x.2 = .free → ∃ c, env.cells.lookup x.1 = some c) → (∀ x c, acc.lookup x = some c → env.cells.lookup x = some c) →
    ∀ x c, (names.foldl (clStep env) acc).lookup x = some c → env.cells.lookup x = some c
  | [], _, _, ha, x, c, e => ha x c e
  | (n, k) :: r, acc, hf, ha, x, c, e => by
    refine clStep_sub r (clStep env acc (n, k)) (fun y hy => hf y (List.mem_cons_of_mem _ hy)) (fun y d ed => ?_) x c e
    unfold clStep at ed
    by_cases hk : k = .free
    · subst hk
      obtain ⟨a, hn⟩ := hf (n, .free) List.mem_cons_self rfl
      have hn' : env.cells.lookup n = some a := hn
      simp only [beq_self_eq_true, if_true, hn', Option.getD_some, List.lookup_cons] at ed
      split at ed
      · rename_i hy
        have : y = n := by simpa using hy
        subst this
        rw [hn']; exact ed
      · exact ha y d ed
    · have e : (k == NameKind.free) = false := by simpa using hk
      simp only [e, Bool.false_eq_true, if_false] at ed
      exact ha y d ed
theorem clStep_has {env : Env} : ∀ (names : List (Str × NameKind)) (acc : List (Str × Addr)) (x : Str), ((acc.lookup x).isSome = true ∨ (x, NameKind.free) ∈ names) → ((names.foldl (clStep env) acc).lookup x).isSome = true
  | [], _, _, h => h.elim (fun z => z) fun z => absurd z (by simp)
  | (n, k) :: r, acc, x, h => by
    refine clStep_has r (clStep env acc (n, k)) x ?_
    unfold clStep
    rcases h with h | h
    · left
      split
      · rw [List.lookup_cons]
        split <;> simp_all
      · exact h
    · rcases List.mem_cons.mp h with h | h
      · left
        cases h
        simp [List.lookup_cons]
      · exact .inr h
theorem relabel_of {env : Env} : ∀ {names : List (Str × NameKind)} {x : Str} {k : NameKind}, (names.map fun (n, k) => if (k == NameKind.free && env.scope.kind == .function && env.kindOf n == some .cell) then (n, NameKind.cell) else (n, k)).lookup x = some k →
    names.lookup x = some k ∨ names.lookup x = some .free
  | [], _, _, h => by simp at h
  | (n, j) :: r, x, k, h => by
    simp only [List.map_cons] at h
    by_cases hx : x = n
    · subst hx
      by_cases hc : (j == NameKind.free && env.scope.kind == .function && env.kindOf x == some .cell) = true
      · rw [if_pos hc] at h
        simp only [Bool.and_eq_true, beq_iff_eq] at hc
        right
        rw [List.lookup_cons, beq_self_eq_true, hc.1.1]
      · rw [if_neg hc] at h
        left
        rw [List.lookup_cons, beq_self_eq_true] at h ⊢
        exact h
    · have e : (x == n) = false := by simpa using hx
      have h' : (r.map fun (n, k) => if (k == NameKind.free && env.scope.kind == .function && env.kindOf n == some .cell) then (n, NameKind.cell) else (n, k)).lookup x = some k := by
        split at h <;> (rw [List.lookup_cons, e] at h; exact h)
      rcases relabel_of h' with z | z
      · left; rw [List.lookup_cons, e]; exact z
      · right; rw [List.lookup_cons, e]; exact z
theorem relabel_free {env : Env} : ∀ {names : List (Str × NameKind)} {x : Str}, names.lookup x = some .free →
    (names.map fun (n, k) => if (k == NameKind.free && env.scope.kind == .function && env.kindOf n == some .cell) then (n, NameKind.cell) else (n, k)).lookup x = some .cell ∨
    (names.map fun (n, k) => if (k == NameKind.free && env.scope.kind == .function && env.kindOf n == some .cell) then (n, NameKind.cell) else (n, k)).lookup x = some .free
  | [], _, h => by simp at h
  | (n, j) :: r, x, h => by
    simp only [List.map_cons]
    by_cases hx : x = n
    · subst hx
      rw [List.lookup_cons, beq_self_eq_true] at h
      have hj : j = .free := Option.some.inj h
      by_cases hc : (j == NameKind.free && env.scope.kind == .function && env.kindOf x == some .cell) = true
      · left; rw [if_pos hc, List.lookup_cons, beq_self_eq_true]
      · right; rw [if_neg hc, List.lookup_cons, beq_self_eq_true, hj]
    · have e : (x == n) = false := by simpa using hx
      rw [List.lookup_cons, e] at h
      rcases relabel_free (env := env) h with z | z
      · left; split <;> (rw [List.lookup_cons, e]; exact z)
      · right; split <;> (rw [List.lookup_cons, e]; exact z)

/-! ### the block's context -/
def cxC (X : Cx) (scope : Scope) (N : List Str) (s : Shared) (H : Hp) (ex : List Addr) : Cx where
  prog := X.prog
  w := X.w
  K := X.K
  mg := X.mg
  base := X.base
  A := X.A
  N := N
  s₀ := s
  H₀ := H
  env := compEnvC scope (lcCl scope X.env) s.heap.objs.size X.env
  outer := X.stack
  stack := X.stack
  ex := ex
  fn := fun _ => false
  calm := X.calm
  pn := []
  xe := fun _ _ => False
/-- the block's names: its own (none), or the slot of the def around -/
def lcOk (N N' : List Str) (ix : List (Option Nat)) (sc scope : Scope) : Bool :=
  decide (N'.length = ix.length) && (N'.zip ix).all (fun p => match p.2 with
    | none => true
    | some j => decide (N[j]? = some p.1) && decide (scope.names.lookup p.1 = some .free)) &&
  scope.names.all (fun y => y.2 != .cell && (y.2 != .free || decide (sc.names.lookup y.1 = some .cell)) && (y.2 != .local || decide (scope.names.lookup y.1 = some .local))) && (scope.kind == .function)
structure LcOk (X : Cx) (N' : List Str) (ix : List (Option Nat)) (scope : Scope) : Prop where
  len : N'.length = ix.length
  free : ∀ (i : Nat) (x : Str) (j : Nat), N'[i]? = some x → ix[i]? = some (some j) → X.N[j]? = some x ∧ scope.names.lookup x = some .free
  nocell : ∀ y ∈ scope.names, y.2 ≠ .cell
  cell : ∀ y ∈ scope.names, y.2 = .free → X.env.scope.names.lookup y.1 = some .cell
  loc : ∀ y ∈ scope.names, y.2 = .local → scope.names.lookup y.1 = some .local
  kind : scope.kind = .function
theorem LcOk.of {X : Cx} {N N' : List Str} {ix : List (Option Nat)} {sc scope : Scope} (hN : X.N = N) (hs : X.env.scope = sc) (h : lcOk N N' ix sc scope = true) : LcOk X N' ix scope := by
  unfold lcOk at h
  simp only [Bool.and_eq_true, decide_eq_true_eq, List.all_eq_true] at h
  obtain ⟨⟨⟨h1, h2⟩, h3⟩, h4⟩ := h
  refine ⟨h1, fun i x j e1 e2 => ?_, fun y hy z => ?_, fun y hy z => ?_, fun y hy z => ?_, by simpa using h4⟩
  · have m : (x, some j) ∈ N'.zip ix := List.mem_of_getElem? (i := i) (by rw [List.getElem?_zip_eq_some]; exact ⟨e1, e2⟩)
    have q := h2 _ m
    simp only [Bool.and_eq_true, decide_eq_true_eq] at q
    rw [hN]; exact q
  · have q := (h3 y hy).1.1
    rw [z] at q; simp at q
  · have q := (h3 y hy).1.2
    rw [z] at q
    simp only [bne_self_eq_false, Bool.false_or, decide_eq_true_eq] at q
    rw [hs]; exact q
  · have q := (h3 y hy).2
    rw [z] at q
    simp only [bne_self_eq_false, Bool.false_or, decide_eq_true_eq] at q
    exact q
def lcStart (ix : List (Option Nat)) (σ : St) : St := ix.map fun o => o.bind fun j => (σ[j]?).join

theorem inv_startC {X : Cx} {N' : List Str} {ix : List (Option Nat)} {scope : Scope} {pins : List (Addr × Obj)} {σ : St} {H : Hp} {s : Shared} {h₁ : Heap} {fp : List Addr} {tk : Nat} (L : LcOk X N' ix scope) (I : Inv X pins σ H s)
    (hns : h₁.Ns s.heap.objs.size (fun _ => none)) (hsb : ∀ b o, s.heap.get? b = some o → h₁.get? b = some o)
    (hf : ∀ b ∈ fp, FpOk X pins H b) (hfo : ∀ b ∈ fp, b < s.heap.objs.size) : Inv (cxC X scope N' s H fp) [] (lcStart ix σ) H { s with heap := h₁, toks := tk } := by
  have hcells : ∀ y ∈ scope.names, y.2 = .free → ∃ c, X.env.cells.lookup y.1 = some c := fun y hy z => I.ok.has y.1 (.inl (L.cell y hy z))
  have sub : ∀ x c, (lcCl scope X.env).lookup x = some c → X.env.cells.lookup x = some c := clStep_sub scope.names [] hcells (fun x c e => by simp at e)
  have has : ∀ x, scope.names.lookup x = some .free → ∃ c, (lcCl scope X.env).lookup x = some c := fun x e =>
    Option.isSome_iff_exists.mp (clStep_has scope.names [] x (.inr (PySem.mem_of_lookup e)))
  have stk : ∀ b ∈ fp, b ∉ frs X.stack := fun b hb z => by
    obtain ⟨_, f1, f2, _⟩ := hf b hb
    rcases List.mem_cons.mp (I.stkSub b z) with q | q
    · exact f1 q
    · exact f2 q
  refine ⟨⟨I.ok.mod, L.kind, I.ok.glob, I.ok.blt, Nat.le_refl _, fun x y c e1 e2 => I.ok.inj x y c (sub x c e1) (sub y c e2), fun x hx => ?_, fun x c z => absurd (show false = true from z) Bool.false_ne_true, I.ok.hd, I.ok.frames, .inl rfl,
      fun b hb => ⟨Nat.ne_of_lt (hfo b hb), fun x c e => (hf b hb).2.2.2.2.1 x c (sub x c e)⟩, I.bs, Nat.le_trans I.ok.bsz I.sz, fun b o e hb => ?_, stk, I.stack, I.stkFree⟩,
    rfl, I.bare, Un.kept hsb, ⟨_, hns, fun i x v e1 e2 e3 => ?_⟩, fun x c e => ?_, I.fresh, fun x c e => I.freeC x c (sub x c e), fun p hp => absurd (show p ∈ ([] : List (Addr × Obj)) from hp) (by simp), I.hok.kept hsb, ?_⟩
  · have hx : (relabel scope X.env).names.lookup x = some .cell ∨ (relabel scope X.env).names.lookup x = some .free := hx
    have hfree : scope.names.lookup x = some .free := by
      rcases hx with z | z
      · rcases relabel_of z with q | q
        · exact absurd rfl (L.nocell _ (PySem.mem_of_lookup q))
        · exact q
      · rcases relabel_of z with q | q
        · exact q
        · exact q
    exact has x hfree
  · obtain ⟨_, _, _, q, _⟩ := hf b hb
    rcases q with q | q
    · exact I.ok.noex b o e q
    · exact absurd (Nat.lt_of_lt_of_le (Heap.lt_size (I.ok.bs b o e).1) q) (Nat.lt_irrefl _)
  · -- a name that is known at the start is one of the def around
    unfold lcStart at e2
    rw [List.getElem?_map] at e2
    cases eo : ix[i]? with
    | none => rw [eo] at e2; cases e2
    | some o =>
      rw [eo] at e2
      cases o with
      | none => exact absurd (show (some none : Option (Option V)) = some (some v) from e2) (by simp)
      | some j =>
        obtain ⟨n1, n2⟩ := L.free i x j e1 eo
        have e3' : (σ[j]?).join = some v := Option.some.inj (show some ((σ[j]?).join) = some (some v) from e2)
        have e4 : σ[j]? = some (some v) := by
          cases q : σ[j]? with
          | none => rw [q] at e3'; cases e3'
          | some z =>
            rw [q] at e3'
            have : z = some v := e3'
            rw [this]
        have hcl : X.env.scope.names.lookup x = some .cell := L.cell _ (PySem.mem_of_lookup n2) rfl
        obtain ⟨m, hn, hl⟩ := I.loc
        obtain ⟨u, r, l⟩ := hl j x v n1 e4 (.inr (.inl hcl))
        refine ⟨u, r, ?_⟩
        rcases l with ⟨k, _⟩ | ⟨k, c, ec, z⟩
        · have k' : X.env.scope.names.lookup x = some .local := k
          rw [hcl] at k'; cases k'
        · obtain ⟨c', hc'⟩ := has x n2
          have ecc : c' = c := by
            have q := sub x c' hc'
            rw [ec] at q; exact (Option.some.inj q).symm
          subst ecc
          refine .inr ⟨?_, c', hc', ?_⟩
          · exact relabel_free n2
          · obtain ⟨o', ho', hd'⟩ := z
            exact ⟨o', hsb _ _ ho', hd'⟩
  · obtain ⟨v, o, ho, hd⟩ := I.cell x c (sub x c e)
    exact ⟨v, o, hsb _ _ ho, hd⟩
  · show (lcStart ix σ).length = N'.length
    unfold lcStart
    rw [List.length_map]; exact L.len.symm
end L2

namespace L2
open PySem PySem.Spec PyProof.Rows

abbrev lcTests (ifs : List Expr) (env : Env) : Sem Bool := forIn ifs true fun c r => if r = true then do let ok ← isTrue c env (eval c env); pure (ForInStep.yield ok) else pure (ForInStep.yield r)
section
variable {prog : Program} {w : World} {A : Around} {R : Result → Shared → Prop} {s : Shared}
/-- the turns, where nothing is raised; any target -/
theorem lc_loop {elt target iter : Expr} {ifs : List Expr} {scope : Scope} {pos : Pos} {it acc : Value} {env : Env} (I : Nat → Shared → Prop)
    (turn : ∀ n s, I n s → wpAny (model prog w) A (pyNext it) (fun r s₁ => match r with
      | none => R (.ok .next) s₁
      | some v => wpAny (model prog w) A (letOwnedTupleGo target it v) (fun _ s₁' => wpAny (model prog w) A (assign target env v) (fun _ s₂ =>
          wpAny (model prog w) A (lcTests ifs env) (fun ok s₃ =>
            if ok = true then wpAny (model prog w) A (eval elt env) (fun x s₄ =>
              wpAny (model prog w) A (call (.builtin "list.append") [acc, x]) (fun _ s₅ => ∃ m, m < n ∧ I m s₅) (fun _ _ => False) s₄) (fun _ _ => False) s₃
            else ∃ m, m < n ∧ I m s₃) (fun _ _ => False) s₂) (fun _ _ => False) s₁') (fun _ _ => False) s₁) (fun _ _ => False) s)
    (n : Nat) (h : I n s) : codeAny (model prog w) A (.compLoop (.ListComp elt [⟨target, iter, ifs, 0⟩] scope pos) 0 it acc env) R s := by
  refine codeAny_loop rfl I (fun n s hI => ?_) n h
  show wpAny _ A ((compTurn (.ListComp elt [⟨target, iter, ifs, 0⟩] scope pos) 0 it acc env).onRaise (fun x => do noteFrame x env; theTreesLotGoes x)) _ _ s
  refine wpAny_noted ?_
  rw [compTurn_list]
  refine wpAny_bind (wpAny_standAt (wpAny_bind (wpAny_mono (turn n s hI) (fun r s₁ h₁ => ?_) fun _ _ f => f.elim)))
  cases r with
  | none => exact wpAny_pure h₁
  | some v =>
    refine wpAny_bind (wpAny_mono h₁ (fun _ s₁' h₁' => ?_) fun _ _ f => f.elim)
    refine wpAny_bind (wpAny_mono h₁' (fun _ s₂ h₂ => wpAny_bind (wpAny_mono h₂ (fun ok s₃ h₃ => ?_) fun _ _ f => f.elim)) fun _ _ f => f.elim)
    cases ok with
    | false => exact wpAny_pure ⟨rfl, h₃⟩
    | true => exact wpAny_bind (wpAny_bind (wpAny_mono h₃ (fun x s₄ h₄ => wpAny_bind (wpAny_mono h₄ (fun _ s₅ h₅ => wpAny_pure (wpAny_pure ⟨rfl, h₅⟩)) fun _ _ f => f.elim)) fun _ _ f => f.elim))
end

/-- the tests of a comprehension -/
def PF (X : Cx) (ifs : List Expr) (t : TT) : Prop :=
  ∀ (pins : List (Addr × Obj)) (s : Shared) (σ : St) (H : Hp) (Q : Bool → Hp → Prop), Inv X pins σ H s → t σ H Q → wpAny (model X.prog X.w) X.A (lcTests ifs X.env) (TP X pins σ Q) X.xe s
theorem pf_nil {X : Cx} : PF X [] (fun _ H Q => Q true H) := fun _ _ _ H _ I h => wpAny_tests_nil ⟨H, I, h⟩
theorem pf_one {X : Cx} {c : Expr} {t : TT} (h : PT X c t) : PF X [c] t := fun pins s σ H Q I q => wpAny_tests_one (h pins s σ H Q I q)

/-- the turns by an invariant and a measure; D: the list that grows -/
def LcW (J : It) (D : Addr) (σ0 : St) (H0 : Hp) (g : TG) (tc : TT) (te : TE) (Q : Hp → Prop) : Prop :=
  ∃ W : Nat → Nat → St → Hp → Prop, (∃ m, W 0 m σ0 H0) ∧ ∀ i m σ H, W i m σ H → (J.stop i H ∧ Q H) ∨
    (J.go i H ∧ ∃ N : St → Hp → Prop, (∀ σ' H', N σ' H' → ∃ m', m' < m ∧ W (i + 1) m' σ' H') ∧ ∀ x H', J.yld i H x H' → g x σ H' fun σ2 H2 => tc σ2 H2 fun b H3 =>
      if b = true then te σ2 H3 fun y H4 => ∃ ys, H4 D = some (.lst ys) ∧ ys.length < sizeLine ∧ N σ2 (upd H4 D (.lst (ys ++ [y]))) else N σ2 H3)
def tLC (wi : TI) (ix : List (Option Nat)) (g : TG) (tc : TT) (te : TE) : TE := fun σ H Q => wi σ H fun J H1 => ∀ D, H1 D = none → LcW J D (lcStart ix σ) (upd H1 D (.lst [])) g tc te fun H' => Q (.ref D) H'

section
variable {X : Cx} {scope : Scope} {N' : List Str} {ix : List (Option Nat)} {tg iter elt : Expr} {ifs : List Expr} {pos : Pos} {g : TG} {tc : TT} {te : TE}
theorem lc_core {use : Option (Value → Sem Unit)} {Qf : Value → Shared → Prop} {QD : Addr → Hp → Prop} {pins : List (Addr × Obj)} {s2 : Shared} {σ : St} {H2 : Hp} {it : Addr} {fp : List Addr} {tn : Nat → Heap → Prop} {J : It}
    (L : LcOk X N' ix scope) (hc : X.calm = true) (hin : ∀ s H ex, PG (cxC X scope N' s H ex) tg g ∧ PF (cxC X scope N' s H ex) ifs tc ∧ PE (cxC X scope N' s H ex) elt te)
    (I2 : Inv X pins σ H2 s2) (T : Turn X.prog X.w X.K tg J fp it tn) (st2 : tn 0 s2.heap) (f2 : ∀ b ∈ fp, FpOk X pins H2 b)
    (hw : ∀ D, H2 D = none → LcW J D (lcStart ix σ) (upd H2 D (.lst [])) g tc te (QD D))
    (hfin : ∀ D C H' s' m, Inv X pins σ H' s' → FpOk X pins H' C → s'.heap.Ns C m → QD D H' → compPost (model X.prog X.w) X.A X.xe use Qf (.ref D) C (.ok .next) s') :
    wpAny (model X.prog X.w) X.A (newList []) (fun acc s₃ => wpAny (model X.prog X.w) X.A (newFunctionEnv scope X.env.globals (lcCl scope X.env) [] X.env.qual none .none (some X.env)) (fun cenv s₄ =>
      codeAny (model X.prog X.w) X.A (.compStart (.ListComp elt [⟨tg, iter, ifs, 0⟩] scope pos) 0 (.ref it) acc { cenv with scope := relabel scope X.env }) (compPost (model X.prog X.w) X.A X.xe use Qf acc cenv.locals) s₄) X.xe s₃) X.xe s2 := by
  refine wpAny_newObj_type (wpAny_newFunctionEnv L.nocell (by intro y hy; simp at hy) (fun h₁ hns₁ hsb₁ => ?_) L.kind)
  dsimp only at hns₁ hsb₁ ⊢
  have hD : H2 s2.heap.objs.size = none := I2.fresh
  have I3 : Inv X pins σ (upd H2 s2.heap.objs.size (.lst [])) { s2 with heap := s2.heap.push { cls := .type "list", data := .seq ([] : List Value).toArray }, toks := s2.toks } := I2.lnew (its := []) .nil (Nat.zero_le _)
  generalize hs3 : ({ s2 with heap := s2.heap.push { cls := .type "list", data := .seq ([] : List Value).toArray }, toks := s2.toks } : Shared) = s3 at I3
  have e3 : ({ s2 with heap := s2.heap.push { cls := .type "list", dict := none, data := .seq ([] : List Value).toArray } } : Shared) = s3 := hs3
  have eh : s2.heap.push { cls := .type "list", dict := none, data := .seq ([] : List Value).toArray } = s3.heap := congrArg Shared.heap e3
  have eos : s3.os = s2.os := by rw [← e3]
  have ek : ∀ b o, s2.heap.get? b = some o → s3.heap.get? b = some o := fun b o e => by rw [← eh]; exact Heap.get?_push_of_some _ e
  have esz : s2.heap.objs.size ≤ s3.heap.objs.size := by rw [← eh, Heap.size_push]; exact Nat.le_succ _
  rw [eh] at hns₁ hsb₁ ⊢
  have f3 : ∀ b ∈ fp, FpOk X pins (upd H2 s2.heap.objs.size (.lst [])) b := fun b hb => by
    obtain ⟨o, eo, _⟩ := T.obj _ _ st2 b hb
    refine ⟨?_, (f2 b hb).2⟩
    rw [upd_ne (Nat.ne_of_lt (Heap.lt_size eo))]
    exact (f2 b hb).1
  have flt : ∀ b ∈ fp, b < s3.heap.objs.size := fun b hb => by
    obtain ⟨o, eo, _⟩ := T.obj _ _ st2 b hb
    exact Nat.lt_of_lt_of_le (Heap.lt_size eo) esz
  have k4 : ∀ b o, s3.heap.get? b = some o → h₁.get? b = some o := fun b o e => hsb₁.extBut b o (Nat.ne_of_lt (Heap.lt_size e)) (Heap.get?_push_of_some _ e)
  have st4 : tn 0 h₁ := T.keep _ _ _ st2 fun b _ o e => k4 b o (ek b o e)
  obtain ⟨W, ⟨m0, w0⟩, turn⟩ := hw s2.heap.objs.size hD
  have I4 : ∀ tk, Inv (cxC X scope N' s3 (upd H2 s2.heap.objs.size (.lst [])) fp) [] (lcStart ix σ) (upd H2 s2.heap.objs.size (.lst [])) { s3 with heap := h₁, toks := tk } := fun tk =>
    inv_startC L I3 hns₁ k4 f3 flt
  obtain ⟨hg, hf, he⟩ := hin s3 (upd H2 s2.heap.objs.size (.lst [])) fp
  -- what stays true of the iterator's objects
  have stat : ∀ {H' : Hp}, (∀ b ∈ fp, H' b = none) → ∀ b ∈ fp, FpOk (cxC X scope N' s3 (upd H2 s2.heap.objs.size (.lst [])) fp) [] H' b := fun {H'} hn b hb => by
    have ok := (I4 0).ok
    obtain ⟨x1, x2⟩ := ok.exf b hb
    exact ⟨hn b hb, x1, ok.exfs b hb, .inl hb, x2, fun p hp => absurd (show p ∈ ([] : List (Addr × Obj)) from hp) (by simp)⟩
  have loop : ∀ tk, codeAny (model X.prog X.w) X.A (.compLoop (.ListComp elt [⟨tg, iter, ifs, 0⟩] scope pos) 0 (.ref it) (.ref s2.heap.objs.size) (compEnvC scope (lcCl scope X.env) s3.heap.objs.size X.env))
      (compPost (model X.prog X.w) X.A X.xe use Qf (.ref s2.heap.objs.size) s3.heap.objs.size) { s3 with heap := h₁, toks := tk } := fun tk => by
    refine lc_loop (fun n s' => ∃ i σ' H', Inv (cxC X scope N' s3 (upd H2 s2.heap.objs.size (.lst [])) fp) [] σ' H' s' ∧ tn i s'.heap ∧ (∀ b ∈ fp, H' b = none) ∧ W i n σ' H') ?_ m0
      ⟨0, _, _, I4 tk, st4, fun b hb => (f3 b hb).1, w0⟩
    rintro n s5 ⟨i, σ5, H5, I5, st5, fr5, w5⟩
    rcases turn i n σ5 H5 w5 with ⟨stop, qn⟩ | ⟨go, N, hN, step⟩
    · refine thn (T.done (cxC X scope N' s3 (upd H2 s2.heap.objs.size (.lst [])) fp) rfl rfl rfl hc i [] s5 σ5 H5 _ I5 (stat fr5) st5 stop) fun r s6 ⟨hr, I6⟩ => ?_
      subst hr
      have u : Un (frs X.stack) fp H2 H5 s2.heap s6.heap := (Un.laid (o := .lst []) ek (Nat.le_refl _) hD).trans I6.base
      have J6 : Inv X pins σ H5 s6 := I2.call' (ch := fp) (I6.os.trans eos) u I6.hok I6.bare fun b hb => by
        obtain ⟨_, x1, _, x3, x4, x5⟩ := f2 b hb
        exact ⟨x3, x1, x4, x5⟩
      obtain ⟨m, hm, _⟩ := I6.loc
      exact hfin _ _ H5 s6 m J6 (I2.fpOk esz I6.free) hm qn
    · refine thn (T.item (cxC X scope N' s3 (upd H2 s2.heap.objs.size (.lst [])) fp) rfl rfl rfl hc i [] s5 σ5 H5 _ I5 (stat fr5) st5 go) fun r s6 ⟨v, hr, h6⟩ => ?_
      subst hr
      refine thn h6 fun _ s7 ⟨x, H7, I7, r7, y7, st7, fr7⟩ => ?_
      have I7' := I7.pinned (stat fr7) (T.obj _ _ st7)
      refine thn (hg _ s7 σ5 H7 x v _ I7' r7 (step x H7 y7)) fun _ s8 ⟨σ8, H8, I8, q8⟩ => ?_
      have again : ∀ {σ9 : St} {H9 : Hp} {s9 : Shared}, Inv (cxC X scope N' s3 (upd H2 s2.heap.objs.size (.lst [])) fp) ([] ++ pinsAt fp s7.heap) σ9 H9 s9 → N σ9 H9 →
          ∃ m, m < n ∧ ∃ i σ' H', Inv (cxC X scope N' s3 (upd H2 s2.heap.objs.size (.lst [])) fp) [] σ' H' s9 ∧ tn i s9.heap ∧ (∀ b ∈ fp, H' b = none) ∧ W i m σ' H' := fun {σ9 H9 s9} I9 n9 => by
        obtain ⟨m', hm, w9⟩ := hN σ9 H9 n9
        refine ⟨m', hm, i + 1, σ9, H9, I9.unpinned, T.keep _ _ _ st7 fun b hb o e => (I9.pin (b, o) (List.mem_append_right _ (List.mem_append_right _ (mem_pinsAt hb e)))).1, fun b hb => ?_, w9⟩
        obtain ⟨o, e, d⟩ := T.obj _ _ st7 b hb
        exact (I9.pin (b, o) (List.mem_append_right _ (List.mem_append_right _ (mem_pinsAt hb e)))).2.1
      refine thn (hf _ s8 σ8 H8 _ I8 q8) fun ok s9 ⟨H9, I9, q9⟩ => ?_
      cases ok with
      | false => exact again I9 q9
      | true =>
        refine thn (he _ s9 σ8 H9 _ I9 q9) fun y s10 ⟨v10, H10, I10, r10, ys, hy, hz, n10⟩ => ?_
        refine thn (mt_append _ s10 σ8 H10 (.ref s2.heap.objs.size) [v10] (.ref s2.heap.objs.size) [y] (fun _ H' => N σ8 H') I10 rfl (.cons r10 .nil) ⟨_, ys, v10, rfl, rfl, hy, hz, n10⟩) fun _ s11 ⟨_, H11, I11, _, q11⟩ => ?_
        exact again I11 q11
  have es : ∀ tk, ({ s2 with heap := h₁, toks := tk } : Shared) = { s3 with heap := h₁, toks := tk } := fun tk => by rw [← e3]
  have loop2 : ∀ tk, codeAny (model X.prog X.w) X.A (.compLoop (.ListComp elt [⟨tg, iter, ifs, 0⟩] scope pos) 0 (.ref it) (.ref s2.heap.objs.size) (compEnvC scope (lcCl scope X.env) s3.heap.objs.size X.env))
      (compPost (model X.prog X.w) X.A X.xe use Qf (.ref s2.heap.objs.size) s3.heap.objs.size) { s2 with heap := h₁, toks := tk } := fun tk => by
    rw [es tk]
    exact loop tk
  exact codeAny_compStart_list (loop2 _) (T.self _ 0 _ _ _ st4 (loop2 _))

/-- [elt for tg in iter if ..] -/
theorem pe_lc {wi : TI} (L : LcOk X N' ix scope) (hc : X.calm = true) (hi : PI X tg iter wi) (hin : ∀ s H ex, PG (cxC X scope N' s H ex) tg g ∧ PF (cxC X scope N' s H ex) ifs tc ∧ PE (cxC X scope N' s H ex) elt te)
    (hs : ∀ x, foldedSetIterable iter X.env x = pure x := by intro _; rfl) : PE X (.ListComp elt [⟨tg, iter, ifs, 0⟩] scope pos) (tLC wi ix g tc te) := by
  intro pins s σ H Q I h
  have hcells : ∀ y ∈ scope.names, y.2 = .free → ∃ c, X.env.cells.lookup y.1 = some c := fun y hy z => I.ok.has y.1 (.inl (L.cell y hy z))
  rw [eval_ListComp]
  refine wpAny_comprehension_free (use := none) rfl hs (lcCl_closure hcells) L.kind L.loc (thn (hi pins s σ H _ I h) fun v s1 h1 => thn h1 fun itv s2 h2 => ?_)
  obtain ⟨it, fp, tn, J, H2, e, I2, T, st2, f2, hw⟩ := h2
  subst e
  refine lc_core (QD := fun D H' => Q (.ref D) H') L hc hin I2 T st2 f2 hw fun D C H' s' m I' fC hm q => ⟨m, hm, fun h' hsb => ?_⟩
  obtain ⟨x0, x1, x2, x3, x4, x5⟩ := fC
  exact ⟨.ref D, H', I'.turned (t' := s'.toks) (fun b o hb e => (hsb.2 b hb).trans e) x0 x1 x3 x4 x5, rfl, q⟩
/-- x = [..] on one row: the store comes ahead of the block's end -/
theorem ps_setLC {wi : TI} {i : Nat} {x : Str} {px spos : Pos} (L : LcOk X N' ix scope) (hc : X.calm = true) (hN : X.N.Nodup) (hi : X.N[i]? = some x) (hx : Loc X.env.scope x) (hit : PI X tg iter wi)
    (hin : ∀ s H ex, PG (cxC X scope N' s H ex) tg g ∧ PF (cxC X scope N' s H ex) ifs tc ∧ PE (cxC X scope N' s H ex) elt te)
    (hsw : swapsWith (.ListComp elt [⟨tg, iter, ifs, 0⟩] scope pos) (some (.Name x px)) spos.line X.env = pure true := by rfl)
    (hs : ∀ x, foldedSetIterable iter X.env x = pure x := by intro _; rfl) (hf : X.fn x = true ∨ X.env.scope.names.lookup x = some .local := by first | exact .inl rfl | exact .inr rfl | assumption) :
    PS X (.Assign [.Name x px] (.ListComp elt [⟨tg, iter, ifs, 0⟩] scope pos) spos) (fun D σ H => tLC wi ix g tc te σ H fun v H' => D.nx (σ.set i (some v)) H') := by
  intro pins s σ H D I h
  have hcells : ∀ y ∈ scope.names, y.2 = .free → ∃ c, X.env.cells.lookup y.1 = some c := fun y hy z => I.ok.has y.1 (.inl (L.cell y hy z))
  rw [exec_Assign_Name_used _ _ _ _ hsw]
  refine wpAny_bind (wpAny_standAt (wpAny_bind ?_))
  show wpAny _ X.A (do let _ ← comprehension (.ListComp elt [⟨tg, iter, ifs, 0⟩] scope pos) scope X.env _ (newList []) false (eval iter X.env) (some (assign (.Name x px) X.env))) _ _ s
  refine wpAny_bind (wpAny_mono (wpAny_comprehension_free (use := some (assign (.Name x px) X.env)) (Q := fun _ s' => SP X pins D .next s') rfl hs (lcCl_closure hcells) L.kind L.loc
    (thn (hit pins s σ H _ I h) fun v s1 h1 => thn h1 fun itv s2 h2 => ?_)) (fun _ s' hq => wpAny_pure (wpAny_pure hq)) fun _ _ e => e)
  obtain ⟨it, fp, tn, J, H2, e, I2, T, st2, f2, hw⟩ := h2
  subst e
  refine lc_core (QD := fun Dd H' => D.nx (σ.set i (some (.ref Dd))) H') L hc hin I2 T st2 f2 hw fun Dd C H' s' m I' fC hm q => ?_
  obtain ⟨x0, x1, x2, x3, x4, x5⟩ := fC
  show wpAny _ X.A (assign (.Name x px) X.env (.ref Dd)) _ _ _
  refine wpAny_assign_Name (store_ok2 I' hN hi hx (v := .ref Dd) rfl (fun s'' I'' hch => ?_) hf)
  obtain ⟨a, hsb, ha⟩ := hch
  have hCa : C ≠ a := by
    rcases ha with ha | ha
    · rw [ha]; exact x1
    · exact fun z => x4 _ _ ha z.symm
  refine ⟨m, hm.sameBut hsb hCa, fun h' hsb' => ?_⟩
  exact ⟨_, H', I''.turned (t' := s''.toks) (fun b o hb e => (hsb'.2 b hb).trans e) x0 x1 x3 x4 x5, q⟩
end
end L2

namespace L2
open PySem PySem.Spec PyProof.Rows

/-! ### the signs of a text -/
def Its (z : Str) : It := ⟨fun i _ => i < z.cps.size, fun i H x H' => H' = H ∧ ∃ c, z.cps[i]? = some c ∧ x = .str ⟨#[c]⟩, fun i _ => i = z.cps.size⟩
theorem turn_str {P : Program} {w : World} {K : PySem.W.Frag} {tg : Expr} {z : Str} {t : Tok} {it : Addr} {n : String} (hn : ["enumerate", "zip", "dict_itemiterator", "dict_reverseitemiterator", "odict_iterator", "itertools.zip_longest", "itertools.pairwise"].contains n = false)
    (W : ∀ A' : Around, A'.handled = none → Walks P w A' it [it] [it] z.cps.size (SignAt z) (fun i h => h.IsStrIter it n z t i))
    (self : ∀ (A : Around) (i : Nat) (s : Shared) (Q : Value → Shared → Prop) (E : Value → Shared → Prop), s.heap.IsStrIter it n z t i → Q (.ref it) s → wpAny (model P w) A (pyIter (.ref it)) Q E s) :
    Turn P w K tg (Its z) [it] it (fun i h => h.IsStrIter it n z t i) where
  mem := by simp
  obj := fun i h st b hb => by
    have e : b = it := by simpa using hb
    subst e
    obtain ⟨o, e, c, d⟩ := st
    exact ⟨o, e, fun v q => by rw [d] at q; cases q⟩
  keep := fun i h h' st k => by
    obtain ⟨o, e, c, d⟩ := st
    exact ⟨o, k it (by simp) o e, c, d⟩
  item := by
    intro X hP hw hK hc i pins s σ H E I hf st hg
    subst hP hw hK
    obtain ⟨f0, f1, f2, f3, f4, f5⟩ := hf it (by simp)
    refine (W X.A (I.ok.hd hc)).item i s _ _ hg st fun v h' tk hv st' kk => ?_
    obtain ⟨c, u, hcu, rfl⟩ := hv
    have I1 : Inv X pins σ H { s with heap := h', toks := tk } := I.turned (fun b o hb e => kk b o (by simpa using hb) e) f0 f1 f3 f4 f5
    obtain ⟨o, e, cl, d⟩ := id st'
    exact ⟨_, rfl, go_of (s := { s with heap := h', toks := tk }) e cl d hn ⟨.str ⟨#[c]⟩, H, I1, ⟨u, rfl⟩, ⟨rfl, c, hcu, rfl⟩, st', fun b hb => (hf b hb).1⟩⟩
  done := by
    intro X hP hw hK hc i pins s σ H E I hf st hg
    subst hP hw hK
    obtain ⟨f0, f1, f2, f3, f4, f5⟩ := hf it (by simp)
    have e : i = z.cps.size := hg
    subst e
    exact (W X.A (I.ok.hd hc)).done s _ _ st fun h' tk kk => ⟨rfl, I.turned (fun b o hb e => kk b o (by simpa using hb) e) f0 f1 f3 f4 f5⟩
  self := self
def iStr (tl : TE) : TI := fun σ H R => tl σ H fun x H1 => ∃ z, x = .str z ∧ R (Its z) H1
theorem pi_str {X : Cx} {tg l : Expr} {tl : TE} (hl : PE X l tl) : PI X tg l (iStr tl) := by
  intro pins s σ H R I h
  refine thn (hl pins s σ H _ I h) fun v s1 ⟨x, H1, I1, r1, q1⟩ => ?_
  obtain ⟨z, e, q⟩ := q1
  subst e
  obtain ⟨t, rfl⟩ := r1
  have fin : ∀ b ∈ [s1.heap.objs.size], FpOk X pins H1 b := fun b hb => by
    have e : b = s1.heap.objs.size := by simpa using hb
    subst e
    exact I1.fpOk (Nat.le_refl _) (I1.hok.fresh (Nat.le_refl _))
  cases ha : z.cps.all (· < 128)
  · exact wpAny_pyIter_wide ha ⟨s1.heap.objs.size, [s1.heap.objs.size], _, _, H1, rfl, I1.kept (t' := s1.toks) fun b o e => Heap.get?_push_of_some _ e,
      turn_str (n := "str_iterator") (t := t) (by decide) (fun A' hA => Walks.strWide hA _ z t) fun _ _ _ _ _ st hq => wpAny_pyIter_striter_wide st hq, ⟨_, Heap.get?_push_size _ rfl, rfl, rfl⟩, fin, q⟩
  · exact wpAny_pyIter_ascii ha ⟨s1.heap.objs.size, [s1.heap.objs.size], _, _, H1, rfl, I1.kept (t' := s1.toks) fun b o e => Heap.get?_push_of_some _ e,
      turn_str (n := "str_ascii_iterator") (t := t) (by decide) (fun A' hA => Walks.strAscii hA _ z t) fun _ _ _ _ _ st hq => wpAny_pyIter_striter_ascii st hq, ⟨_, Heap.get?_push_size _ rfl, rfl, rfl⟩, fin, q⟩

/-! ### comprehensions whose block changes nothing -/
/-- what is walked is xs, whatever the growing list at D holds -/
structure Goes (J : It) (H : Hp) (D : Addr) (xs : List V) : Prop where
  go : ∀ i ys, i < xs.length → J.go i (upd H D (.lst ys))
  yld : ∀ i ys x H', i < xs.length → J.yld i (upd H D (.lst ys)) x H' → xs[i]? = some x ∧ H' = upd H D (.lst ys)
  stop : ∀ ys, J.stop xs.length (upd H D (.lst ys))
def signs (z : Str) : List V := z.cps.toList.map fun c => V.str ⟨#[c]⟩
theorem signs_length (z : Str) : (signs z).length = z.length := by simp [signs, Str.length]
theorem goes_str {H : Hp} {D : Addr} (z : Str) : Goes (Its z) H D (signs z) where
  go := fun i ys h => by rw [signs_length] at h; exact h
  yld := fun i ys x H' hi ⟨e, c, hc, ex⟩ => by
    refine ⟨?_, e⟩
    unfold signs
    rw [List.getElem?_map]
    have : z.cps.toList[i]? = some c := by simpa using hc
    rw [this, ex]; rfl
  stop := fun ys => by rw [signs_length]; rfl
def rngV (lo : Int) (n : Nat) : List V := (List.range n).map fun k => V.int (lo + (k : Nat))
theorem rngV_length (lo : Int) (n : Nat) : (rngV lo n).length = n := by simp [rngV]
theorem goes_range {H : Hp} {D : Addr} (lo : Int) (n : Nat) : Goes (Itr lo n) H D (rngV lo n) where
  go := fun i ys h => by rw [rngV_length] at h; exact h
  yld := fun i ys x H' hi ⟨e, ex⟩ => by
    rw [rngV_length] at hi
    refine ⟨?_, e⟩
    unfold rngV
    rw [List.getElem?_map, List.getElem?_range hi, ex]
    rfl
  stop := fun ys => by rw [rngV_length]; exact Nat.le_refl _
theorem SqL.upd {K : PySem.W.Frag} {H : Hp} {D a : Addr} {xs : List V} {o : HO} (hD : H D = none) (h : SqL K H a xs) : SqL K (upd H D o) a xs := by
  rcases h with (h | ⟨ob, h⟩) | h
  · exact .inl (.inl (by rw [upd_ne (ne_of_none h hD)]; exact h))
  · exact .inl (.inr ⟨ob, by rw [upd_ne (ne_of_none h hD)]; exact h⟩)
  · exact .inr h
theorem SqT.upd {K : PySem.W.Frag} {H : Hp} {D a : Addr} {xs : List V} {o : HO} (hD : H D = none) (h : SqT K H a xs) : SqT K (upd H D o) a xs := by
  rcases h with (h | ⟨ob, h⟩) | h
  · exact .inl (.inl (by rw [upd_ne (ne_of_none h hD)]; exact h))
  · exact .inl (.inr ⟨ob, by rw [upd_ne (ne_of_none h hD)]; exact h⟩)
  · exact .inr h
theorem goes_list {K : PySem.W.Frag} {H : Hp} {D a : Addr} {xs : List V} (hD : H D = none) (h : SqL K H a xs) : Goes (Itl K a) H D xs where
  go := fun i ys hi => ⟨xs, xs[i], h.upd hD, by simp [hi]⟩
  yld := fun i ys x H' hi ⟨e, y⟩ => ⟨y xs (h.upd hD), e⟩
  stop := fun ys => ⟨xs, h.upd hD, Nat.le_refl _⟩
theorem goes_tup {K : PySem.W.Frag} {H : Hp} {D a : Addr} {xs : List V} (hD : H D = none) (h : SqT K H a xs) : Goes (Itt K a) H D xs where
  go := fun i ys hi => ⟨xs, xs[i], h.upd hD, by simp [hi]⟩
  yld := fun i ys x H' hi ⟨e, y⟩ => ⟨y xs (h.upd hD), e⟩
  stop := fun ys => ⟨xs, h.upd hD, Nat.le_refl _⟩
theorem filter_take_succ {p : V → Bool} {xs : List V} {i : Nat} {x : V} (h : xs[i]? = some x) : (xs.take (i + 1)).filter p = (xs.take i).filter p ++ (if p x then [x] else []) := by
  rw [List.take_add_one, h, List.filter_append]
  cases hp : p x <;> simp [hp]
/-- one name walks xs; the test is p, the item f, and neither changes the heap -/
theorem lc_name {J : It} {H : Hp} {D : Addr} {xs : List V} {o : Option V} {fr : St} {tc : TT} {te : TE} {Q : Hp → Prop} (G : Goes J H D xs) (p : V → Bool) (f : V → V) (hz : xs.length ≤ sizeLine)
    (hc : ∀ x ∈ xs, ∀ ys (R : Bool → Hp → Prop), R (p x) (upd H D (.lst ys)) → tc (some x :: fr) (upd H D (.lst ys)) R)
    (he : ∀ x ∈ xs, p x = true → ∀ ys (R : VK), R (f x) (upd H D (.lst ys)) → te (some x :: fr) (upd H D (.lst ys)) R)
    (hQ : Q (upd H D (.lst ((xs.filter p).map f)))) : LcW J D (o :: fr) (upd H D (.lst [])) (gName 0) tc te Q := by
  refine ⟨fun i m σ H' => m = xs.length - i ∧ i ≤ xs.length ∧ (∃ o', σ = o' :: fr) ∧ H' = upd H D (.lst (((xs.take i).filter p).map f)), ⟨xs.length, rfl, Nat.zero_le _, ⟨o, rfl⟩, by simp⟩, ?_⟩
  rintro i m σ H' ⟨rfl, hi, ⟨o', rfl⟩, rfl⟩
  by_cases hlt : i < xs.length
  · refine .inr ⟨G.go i _ hlt, fun σ' H' => (∃ o', σ' = o' :: fr) ∧ H' = upd H D (.lst (((xs.take (i + 1)).filter p).map f)), fun σ' H' ⟨a, b⟩ => ⟨xs.length - (i + 1), by omega, rfl, hlt, a, b⟩, fun x H' y => ?_⟩
    obtain ⟨hx, rfl⟩ := G.yld i _ x H' hlt y
    have hm : x ∈ xs := List.mem_of_getElem? hx
    show tc (some x :: fr) _ _
    refine hc x hm _ _ ?_
    cases hp : p x with
    | false =>
      rw [if_neg Bool.false_ne_true]
      refine ⟨⟨_, rfl⟩, ?_⟩
      rw [filter_take_succ hx, hp]
      simp
    | true =>
      rw [if_pos rfl]
      refine he x hm hp _ _ ⟨_, upd_same, ?_, ⟨_, rfl⟩, ?_⟩
      · have h1 : ((xs.take i).filter p).length ≤ (xs.take i).length := List.length_filter_le _ _
        have h2 : (xs.take i).length ≤ i := by rw [List.length_take]; omega
        rw [List.length_map]; omega
      · rw [upd_upd, filter_take_succ hx, hp]
        simp
  · have e : i = xs.length := by omega
    subst e
    refine .inl ⟨G.stop _, ?_⟩
    rw [List.take_length]
    exact hQ

/-! ### some of Python's own -/
section
variable {X : Cx}
theorem op_le_str : OpR X (compareOp .LtE) (fun x y H Q => ∃ i j, x = .str i ∧ y = .str j ∧ Q (.bl (!(decide (j.cps.toList < i.cps.toList)))) H) := by
  intro pins s σ H x y v u Q I rx ry h
  obtain ⟨i, j, rfl, rfl, q⟩ := h
  obtain ⟨t, rfl⟩ := rx
  obtain ⟨t', rfl⟩ := ry
  exact PySem.P.le_str (fin_bl I q rfl)
theorem op_isB : OpR X (compareOp .Is) (fun x y H Q => ∃ c d, x = .bl c ∧ y = .bl d ∧ Q (.bl (c == d)) H) := by
  intro pins s σ H x y v u Q I rx ry h
  obtain ⟨c, d, rfl, rfl, q⟩ := h
  cases rx
  cases ry
  exact is_bool (fin_bl I q rfl)
theorem op_isnotB : OpR X (compareOp .IsNot) (fun x y H Q => ∃ c d, x = .bl c ∧ y = .bl d ∧ Q (.bl (c != d)) H) := by
  intro pins s σ H x y v u Q I rx ry h
  obtain ⟨c, d, rfl, rfl, q⟩ := h
  cases rx
  cases ry
  exact isnot_bool (fin_bl I q rfl)
theorem op_mulS : OpR X (binaryOp .Mult) (fun x y H Q => ∃ z n, x = .str z ∧ y = .int n ∧ MulOk z n ∧ Q (.str (Txt.mul z n)) H) := by
  intro pins s σ H x y v u Q I rx ry h
  obtain ⟨z, n, rfl, rfl, hok, q⟩ := h
  obtain ⟨t, rfl⟩ := rx
  obtain ⟨t', rfl⟩ := ry
  exact SB.mul hok fun t' k => ⟨.str _, H, I.tok _, ⟨_, rfl⟩, q⟩
theorem call_isi : CallR X (.builtin "isinstance") (fun xs H Q => ∃ x c t b, xs = [x, .ty c] ∧ TyOf X.K H x t ∧ PySem.W.kitOne X.K t (.type c) = some b ∧ Q (.bl b) H) := by
  intro pins s σ H xs us Q I r h
  obtain ⟨x, c, t, b, rfl, ty, e, q⟩ := h
  obtain ⟨u, v, rfl, ru, rv⟩ := vals2 r
  cases (show v = Value.type c from rv)
  exact isinst_ok I ru ty e fun tk => ⟨.bl b, H, I.tok _, rfl, q⟩
theorem call_all (hc : X.calm = true) : CallR X (.builtin "all") (fun xs H Q => ∃ (p : Addr) (bs : List Bool), xs = [.ref p] ∧ SqL X.K H p (bs.map V.bl) ∧ Q (.bl (bs.all id)) H) := by
  intro pins s σ H xs us Q I r h
  obtain ⟨p, bs, rfl, hl, q⟩ := h
  obtain ⟨u, rfl, ru⟩ := vals1 r
  cases (show u = Value.ref p from ru)
  obtain ⟨its, rv, pl, hz⟩ := I.list hl
  have hb : its = bs.map Value.bool := by
    clear hz pl hl q I
    induction bs generalizing its with
    | nil => cases rv; rfl
    | cons b r ih =>
      cases rv with
      | cons r1 r2 =>
        rw [List.map_cons, ← ih _ (by exact r2)]
        cases (show _ = Value.bool b from r1)
        rfl
  subst hb
  have hlt : p < s.heap.objs.size := by obtain ⟨o, n, e, _⟩ := pl; exact Heap.lt_size e
  refine call_all_walk (wpAny_pyIter_list pl.isList ?_)
  refine ⟨s.heap.objs.size, [s.heap.objs.size, p], [s.heap.objs.size], (bs.map Value.bool).toArray.size, _, _, fun i => (bs[i]?).getD true, rfl, Walks.list (A := X.A.in1) (I.ok.hd hc) _ p (Nat.ne_of_lt hlt) _,
    ⟨⟨_, Heap.get?_push_size _ rfl, rfl, rfl⟩, pl.isList.push _⟩, fun i v s' Q' E' hP hQ => ?_, fun h' tk hk => ?_⟩
  · have hP' : (bs.map Value.bool)[i]? = some v := by simpa using hP
    rw [List.getElem?_map] at hP'
    cases eb : bs[i]? with
    | none => rw [eb] at hP'; cases hP'
    | some b =>
      rw [eb] at hP'
      cases hP'
      simp only [eb, Option.getD_some] at hQ
      exact wpAny_truthy_bool hQ
  · have e : ((List.range (bs.map Value.bool).toArray.size).all fun i => (bs[i]?).getD true) = bs.all id := by
      rw [List.size_toArray, List.length_map]; exact LSm.range_all bs
    rw [e]
    exact ⟨.bl _, H, I.kept (LSm.kept_iter hk), rfl, q⟩
theorem strs_of : ∀ {ts : List Str} {its : List Value}, Vals (ts.map V.str) its → ∃ l : List (Str × Tok), its = strValues l ∧ l.map (·.1) = ts
  | [], _, .nil => ⟨[], rfl, rfl⟩
  | x :: r, _, .cons r1 r2 => by
    obtain ⟨l, e1, e2⟩ := strs_of r2
    obtain ⟨t, rfl⟩ := (show ∃ t, _ = Value.str x t from r1)
    exact ⟨(x, t) :: l, by rw [e1]; rfl, by rw [List.map_cons, e2]⟩
theorem mt_join : MtM X "str.join" (fun x xs H Q => ∃ (z : Str) (p : Addr) (ts : List Str), x = .str z ∧ xs = [.ref p] ∧ SqL X.K H p (ts.map V.str) ∧ JoinOk z ts = true ∧ Q (.str (Txt.join z ts)) H) := by
  intro pins s σ H x vs v us Q I rx rv h
  obtain ⟨z, p, ts, rfl, rfl, hl, hok, q⟩ := h
  obtain ⟨t, rfl⟩ := rx
  obtain ⟨u, rfl, ru⟩ := rv.one
  cases (show u = Value.ref p from ru)
  obtain ⟨its, rv, pl, hz⟩ := I.list hl
  obtain ⟨l, rfl, e2⟩ := strs_of rv
  exact SC.join pl.isList e2 hok fun t' k => ⟨.str _, H, I.tok _, ⟨_, rfl⟩, q⟩
end
end L2

namespace L2
open PySem PySem.Spec PyProof.Rows

/-! ### comprehensions whose block lets the heap grow -/
structure GoesS (J : It) (H : Hp) (xs : List V) : Prop where
  go : ∀ i H', i < xs.length → Same H H' → J.go i H'
  yld : ∀ i H' x H'', i < xs.length → Same H H' → J.yld i H' x H'' → xs[i]? = some x ∧ H'' = H'
  stop : ∀ H', Same H H' → J.stop xs.length H'
theorem goesS_str {H : Hp} (z : Str) : GoesS (Its z) H (signs z) where
  go := fun i H' h _ => by rw [signs_length] at h; exact h
  yld := fun i H' x H'' hi _ ⟨e, c, hc, ex⟩ => by
    refine ⟨?_, e⟩
    unfold signs
    rw [List.getElem?_map]
    have : z.cps.toList[i]? = some c := by simpa using hc
    rw [this, ex]; rfl
  stop := fun H' _ => by rw [signs_length]; rfl
theorem goesS_range {H : Hp} (lo : Int) (n : Nat) : GoesS (Itr lo n) H (rngV lo n) where
  go := fun i H' h _ => by rw [rngV_length] at h; exact h
  yld := fun i H' x H'' hi _ ⟨e, ex⟩ => by
    rw [rngV_length] at hi
    refine ⟨?_, e⟩
    unfold rngV
    rw [List.getElem?_map, List.getElem?_range hi, ex]
    rfl
  stop := fun H' _ => by rw [rngV_length]; exact Nat.le_refl _
theorem Same.tup {K : PySem.W.Frag} {H H' : Hp} {a : Addr} {xs : List V} (e : Same H H') (h : SqT K H a xs) : SqT K H' a xs := by
  rcases h with (h | ⟨o, h⟩) | h
  · exact .inl (.inl (e _ _ h))
  · exact .inl (.inr ⟨o, e _ _ h⟩)
  · exact .inr h
theorem Same.upd {H : Hp} {D : Addr} {o : HO} (hD : H D = none) : Same H (upd H D o) := fun b u e => by rw [upd_ne (ne_of_none e hD)]; exact e
theorem Same.upd' {H H' : Hp} {D : Addr} {o : HO} (s : Same H H') (hD : H D = none) : Same H (L2.upd H' D o) := fun b u e => by rw [upd_ne (ne_of_none e hD)]; exact s b u e
theorem goesS_list {K : PySem.W.Frag} {H : Hp} {a : Addr} {xs : List V} (h : SqL K H a xs) : GoesS (Itl K a) H xs where
  go := fun i H' hi s => ⟨xs, xs[i], s.seq h, by simp [hi]⟩
  yld := fun i H' x H'' _ s ⟨e, y⟩ => ⟨y xs (s.seq h), e⟩
  stop := fun H' s => ⟨xs, s.seq h, Nat.le_refl _⟩
theorem goesS_tup {K : PySem.W.Frag} {H : Hp} {a : Addr} {xs : List V} (h : SqT K H a xs) : GoesS (Itt K a) H xs where
  go := fun i H' hi s => ⟨xs, xs[i], s.tup h, by simp [hi]⟩
  yld := fun i H' x H'' _ s ⟨e, y⟩ => ⟨y xs (s.tup h), e⟩
  stop := fun H' s => ⟨xs, s.tup h, Nat.le_refl _⟩
/-- one name walks xs; the test is p, the item f; what stood before stays as it is -/
theorem lc_nameS {J : It} {H : Hp} {D : Addr} {xs : List V} {o : Option V} {fr : St} {tc : TT} {te : TE} {Q : Hp → Prop} (G : GoesS J H xs) (hD : H D = none) (p : V → Bool) (f : V → V) (hz : xs.length ≤ sizeLine)
    (hc : ∀ x ∈ xs, ∀ H' (R : Bool → Hp → Prop), Same H H' → (∀ H'', Same H' H'' → R (p x) H'') → tc (some x :: fr) H' R)
    (he : ∀ x ∈ xs, p x = true → ∀ H' (R : VK), Same H H' → (∀ H'', Same H' H'' → R (f x) H'') → te (some x :: fr) H' R)
    (hQ : ∀ H', Same H H' → H' D = some (.lst ((xs.filter p).map f)) → Q H') : LcW J D (o :: fr) (upd H D (.lst [])) (gName 0) tc te Q := by
  refine ⟨fun i m σ H' => m = xs.length - i ∧ i ≤ xs.length ∧ (∃ o', σ = o' :: fr) ∧ Same H H' ∧ H' D = some (.lst (((xs.take i).filter p).map f)), ⟨xs.length, rfl, Nat.zero_le _, ⟨o, rfl⟩, Same.upd hD, by simp [upd_same]⟩, ?_⟩
  rintro i m σ H' ⟨rfl, hi, ⟨o', rfl⟩, sm, hl⟩
  by_cases hlt : i < xs.length
  · refine .inr ⟨G.go i _ hlt sm, fun σ' H' => (∃ o', σ' = o' :: fr) ∧ Same H H' ∧ H' D = some (.lst (((xs.take (i + 1)).filter p).map f)), fun σ' H' ⟨a, b⟩ => ⟨xs.length - (i + 1), by omega, rfl, hlt, a, b⟩, fun x H'' y => ?_⟩
    obtain ⟨hx, rfl⟩ := G.yld i _ x H'' hlt sm y
    have hm : x ∈ xs := List.mem_of_getElem? hx
    show tc (some x :: fr) _ _
    refine hc x hm _ _ sm fun H1 s1 => ?_
    cases hp : p x with
    | false =>
      rw [if_neg Bool.false_ne_true]
      refine ⟨⟨_, rfl⟩, sm.trans s1, ?_⟩
      rw [filter_take_succ hx, hp, s1 _ _ hl]
      simp
    | true =>
      rw [if_pos rfl]
      refine he x hm hp _ _ (sm.trans s1) fun H2 s2 => ⟨_, s2 _ _ (s1 _ _ hl), ?_, ⟨_, rfl⟩, ((sm.trans s1).trans s2).upd' hD, ?_⟩
      · have h1 : ((xs.take i).filter p).length ≤ (xs.take i).length := List.length_filter_le _ _
        have h2 : (xs.take i).length ≤ i := by rw [List.length_take]; omega
        rw [List.length_map]; omega
      · rw [upd_same, filter_take_succ hx, hp]
        simp
  · have e : i = xs.length := by omega
    subst e
    refine .inl ⟨G.stop _ sm, ?_⟩
    rw [List.take_length] at hl
    exact hQ _ sm hl

/-! ### a def of the text, called by its name -/
structure DefAt (K : PySem.W.Frag) (mg : Str → Option Value) (x : Str) (st : Stmt) (ps : List Str) (f : Addr) (fd : FuncData) : Prop where
  fn : Fun K x x st f fd
  bd : Binds K fd ps []
  mg : mg x = some (.ref f)
theorem pe_def {X : Cx} {x : Str} {st : Stmt} {ps : List Str} {f : Addr} {fd : FuncData} {k : Nat} {sp : Sp} {e : Expr} {es : List Expr} {t : TA} {p pos : Pos} (D : DefAt X.K X.mg x st ps f fd) (G : FnOk X.prog X.w X.K X.mg X.base CX0 k f fd ps sp) (hr : Room k X.A)
    (ha : PA X (e :: es) t) (hg : Gl X x := by rfl) (hdb : (x == ("__debug__" : Str)) = false := by decide) (he : starEach (e :: es) X.env = (false, eval e X.env) :: starEach es X.env := by rfl)
    (hpl : (backTo pos (starEach es X.env)).any (·.1) = false := by rfl) : PE X (.Call (.Name x p) (e :: es) [] pos) (tCall sp [] E0 t) := by
  have q := pe_call (p := p) (pos := pos) G hr hg D.mg D.fn.kp D.bd .nil pass0 ha (hdb := hdb) (he := he) (hpl := hpl)
  exact q
/-- not e, by e's truth -/
theorem pe_notT {X : Cx} {a : Expr} {ta : TE} {pos : Pos} (ha : PE X a ta) : PE X (.UnaryOp .Not a pos) (fun σ H Q => ta σ H fun x H1 => ∃ k, TruV X.K x H1 k ∧ Q (.bl (!k)) H1) := by
  intro pins s σ H Q I h
  refine UnaryOp_ (thn (ha pins s σ H _ I h) fun v s1 ⟨x, H1, I1, r1, q1⟩ => ?_)
  refine not_of (thn (tru_ok pins s1 σ H1 x v (fun k H' => Q (.bl (!k)) H') I1 r1 q1) fun b s2 ⟨H2, I2, q2⟩ => ?_)
  exact ⟨.bl (!b), H2, I2, rfl, q2⟩
end L2
namespace L2
open PySem PySem.Spec PyProof.Rows
section
variable {X : Cx} {K : PySem.W.Frag}
theorem call_lenK (hK : X.K = K) : CallR X (.builtin "len") (fun xs H Q => ∃ x n, xs = [x] ∧ LenV K x H n ∧ Q (.int n) H) := by
  subst hK; exact call_len
theorem ix_listK (hK : X.K = K) : IxR X (rIxL K) := by
  subst hK; exact ix_list
theorem ix_tupK (hK : X.K = K) : IxR X (rIxT K) := by
  subst hK; exact ix_tup
end
end L2

/-! Texts: split at one sign, slices, startswith. -/
namespace L2
open PySem PySem.Spec PyProof.Rows

/-- the parts of a list between the signs c -/
def splitL (c : Nat) : List Nat → List (List Nat)
  | [] => [[]]
  | x :: r => if x = c then [] :: splitL c r else match splitL c r with
    | p :: ps => (x :: p) :: ps
    | [] => [[x]]
theorem splitL_ne (c : Nat) : ∀ l, splitL c l ≠ []
  | [] => by simp [splitL]
  | x :: r => by
    unfold splitL
    split
    · simp
    · split <;> simp
theorem splitL_free (c : Nat) : ∀ l : List Nat, c ∉ l → splitL c l = [l]
  | [], _ => rfl
  | x :: r, h => by
    have hx : ¬ x = c := fun e => h (by rw [e]; exact List.mem_cons_self)
    have hr := splitL_free c r fun m => h (List.mem_cons_of_mem _ m)
    unfold splitL
    rw [if_neg hx, hr]
theorem splitL_cut (c : Nat) : ∀ (a b : List Nat), c ∉ a → splitL c (a ++ c :: b) = a :: splitL c b
  | [], b, _ => by
    show splitL c (c :: b) = _
    rw [splitL, if_pos rfl]
  | x :: r, b, h => by
    have hx : ¬ x = c := fun e => h (by rw [e]; exact List.mem_cons_self)
    have hr := splitL_cut c r b fun m => h (List.mem_cons_of_mem _ m)
    show splitL c (x :: (r ++ c :: b)) = _
    rw [splitL, if_neg hx, hr]
theorem at_one {x : Str} {c k : Nat} : StrLaws.At x ⟨#[c]⟩ x.length k ↔ x.cps.toList[k]? = some c := by
  unfold StrLaws.At
  rw [StrLaws.subAt_eq]
  have e1 : (⟨#[c]⟩ : Str).length = 1 := rfl
  have e2 : (⟨#[c]⟩ : Str).cps.toList = [c] := rfl
  have hn : x.cps.toList.length = x.length := by simp [Str.length]
  rw [e1, e2]
  constructor
  · rintro ⟨h1, h2⟩
    have h3 := eq_of_beq h2
    have hk : k < x.cps.toList.length := by omega
    rw [List.drop_eq_getElem_cons hk] at h3
    simp at h3
    rw [List.getElem?_eq_getElem hk]
    simpa using h3
  · intro h
    have hk : k < x.cps.toList.length := (List.getElem?_eq_some_iff.mp h).1
    refine ⟨by omega, ?_⟩
    rw [List.drop_eq_getElem_cons hk]
    rw [List.getElem?_eq_getElem hk] at h
    have h' := Option.some.inj h
    simp [h']
theorem parts_split {x : Str} {c : Nat} : ∀ (cuts : List Nat) (a f : Nat), StrLaws.ChainG x ⟨#[c]⟩ x.length a cuts f → (∀ k, f ≤ k → ¬ StrLaws.At x ⟨#[c]⟩ x.length k) →
    (StrLaws.partsFrom x 1 a cuts).map (fun p => p.cps.toList) = splitL c (x.cps.toList.drop a)
  | [], a, f, h, hf => by
    have e : f = a := h
    subst e
    have hn : x.cps.toList.length = x.length := by simp [Str.length]
    show [(Builtin.Str.strSub x f x.length).cps.toList] = _
    rw [StrLaws.strSub_toList, List.take_of_length_le (by rw [List.length_drop, hn]; exact Nat.le_refl _)]
    refine (splitL_free c _ fun m => ?_).symm
    obtain ⟨j, hj⟩ := List.getElem?_of_mem m
    rw [List.getElem?_drop] at hj
    exact hf (f + j) (by omega) (at_one.mpr hj)
  | d :: r, a, f, h, hf => by
    obtain ⟨h1, h2, h3, h4⟩ := h
    have hn : x.cps.toList.length = x.length := by simp [Str.length]
    have hd := at_one.mp h2
    have hlt : d < x.cps.toList.length := (List.getElem?_eq_some_iff.mp hd).1
    have ih := parts_split r (d + 1) f h4 hf
    show (Builtin.Str.strSub x a d).cps.toList :: (StrLaws.partsFrom x 1 (d + 1) r).map (fun p => p.cps.toList) = _
    rw [ih, StrLaws.strSub_toList]
    have e : x.cps.toList.drop a = (x.cps.toList.drop a).take (d - a) ++ c :: x.cps.toList.drop (d + 1) := by
      have e1 : (x.cps.toList.drop a).drop (d - a) = c :: x.cps.toList.drop (d + 1) := by
        rw [List.drop_drop, show a + (d - a) = d by omega, List.drop_eq_getElem_cons hlt]
        rw [List.getElem?_eq_getElem hlt] at hd
        rw [Option.some.inj hd]
      rw [← e1, List.take_append_drop]
    have hfree : c ∉ (x.cps.toList.drop a).take (d - a) := fun m => by
      obtain ⟨j, hj⟩ := List.getElem?_of_mem m
      have hjl : j < d - a := by
        have := (List.getElem?_eq_some_iff.mp hj).1
        rw [List.length_take] at this
        omega
      rw [List.getElem?_take_of_lt hjl, List.getElem?_drop] at hj
      exact h3 (a + j) (by omega) (by omega) (at_one.mpr hj)
    conv => rhs; rw [e]
    rw [splitL_cut c _ _ hfree]
theorem split_one (x : Str) (c : Nat) (hc : c < 256) : (Txt.split x ⟨#[c]⟩).map (fun p => p.cps.toList) = splitL c x.cps.toList := by
  obtain ⟨f, h1, h2⟩ := StrLaws.occ_tight x ⟨#[c]⟩ (Nat.le_refl 1)
  have key := parts_split _ 0 f h1 h2
  rw [List.drop_zero, ← StrLaws.partsBetween_eq] at key
  have hn : x.cps.toList.length = x.length := by simp [Str.length]
  unfold Txt.split
  by_cases e0 : (decide (x.length < (⟨#[c]⟩ : Str).length) || decide (Builtin.Str.strKind x < Builtin.Str.strKind ⟨#[c]⟩)) = true
  · rw [if_pos e0]
    have hk : Builtin.Str.strKind ⟨#[c]⟩ = 1 := by
      unfold Builtin.Str.strKind
      rw [if_pos (by simp [hc])]
    have hk2 : 1 ≤ Builtin.Str.strKind x := by
      unfold Builtin.Str.strKind
      split
      · exact Nat.le_refl _
      · split <;> decide
    rw [hk, decide_eq_false (p := Builtin.Str.strKind x < 1) (by omega), Bool.or_false] at e0
    have hx : x.length < 1 := of_decide_eq_true e0
    have hl : x.cps.toList = [] := List.eq_nil_of_length_eq_zero (by omega)
    show [x.cps.toList] = _
    rw [hl]; rfl
  · rw [if_neg e0]
    by_cases e1 : (Builtin.Str.occurrences x ⟨#[c]⟩ 0 x.length (x.length + 1)).isEmpty = true
    · rw [if_pos e1]
      rw [List.isEmpty_iff.mp e1] at key
      rw [← key]
      show [x.cps.toList] = [(Builtin.Str.strSub x 0 x.length).cps.toList]
      rw [StrLaws.strSub_toList, List.drop_zero, Nat.sub_zero, List.take_of_length_le (Nat.le_of_eq hn)]
    · rw [if_neg e1]
      exact key
theorem split_len (x : Str) (c : Nat) : (Builtin.Str.partsBetween x (Builtin.Str.occurrences x ⟨#[c]⟩ 0 x.length (x.length + 1)) 1).length ≤ x.length + 2 := by
  rw [length_partsBetween]
  have := StrLaws.occ_length_le_len x ⟨#[c]⟩ 0 x.length (x.length + 1)
  omega

section
variable {X : Cx}
/-- x.split(c), c one sign -/
theorem mt_split : MtM X "str.split" (fun x xs H Q => ∃ (z : Str) (c : Nat), x = .str z ∧ xs = [.str ⟨#[c]⟩] ∧ z.length + 2 ≤ sizeLine ∧ ∀ p, H p = none → Q (.ref p) (upd H p (.lst ((Txt.split z ⟨#[c]⟩).map V.str)))) := by
  intro pins s σ H x vs v us Q I rx rv h
  obtain ⟨z, c, rfl, rfl, hz, q⟩ := h
  obtain ⟨t, rfl⟩ := rx
  obtain ⟨u, rfl, ru⟩ := rv.one
  obtain ⟨tu, rfl⟩ := (show ∃ t, u = Value.str ⟨#[c]⟩ t from ru)
  have q0 := q _ I.fresh
  have vals : ∀ l : List (Str × Tok), Vals ((l.map (·.1)).map V.str) (strValues l) := fun l => by
    induction l with
    | nil => exact .nil
    | cons a r ih => exact .cons ⟨_, rfl⟩ ih
  have fin : ∀ (l : List (Str × Tok)) (tk : Nat), l.map (·.1) = Txt.split z ⟨#[c]⟩ → l.length ≤ sizeLine → EP X pins σ Q (.ref s.heap.objs.size) { s with heap := s.heap.push { cls := .type "list", data := .seq (strValues l).toArray }, toks := tk } := fun l tk e hl => by
    have hv := vals l
    rw [e] at hv
    refine ⟨.ref s.heap.objs.size, _, I.lnew hv ?_, rfl, q0⟩
    rw [List.length_map, ← e, List.length_map]; exact hl
  have hlen := split_len z c
  cases h1 : (decide (z.length < (⟨#[c]⟩ : Str).length) || decide (Builtin.Str.strKind z < Builtin.Str.strKind ⟨#[c]⟩))
  · cases hf : (Builtin.Str.occurrences z ⟨#[c]⟩ 0 z.length (z.length + 1)).isEmpty
    · refine call_meets F.slot_str_split (typeIs_str _ _ _) F.entry_str_split (F.args_str_split_2 _ _) (meets_str_split_sep z ⟨#[c]⟩ t tu h1 rfl hf (by omega) (by show (Builtin.Str.partsBetween z _ 1).length ≤ _; omega)) ?_
      rw [strsFrom_eq]
      refine fin (numbered s.toks _) _ ?_ ?_
      · rw [numbered_texts]
        unfold Txt.split
        rw [if_neg (ne_true_of_eq_false h1), if_neg (ne_true_of_eq_false hf)]
      · have e := congrArg List.length (numbered_texts s.toks (Builtin.Str.partsBetween z (Builtin.Str.occurrences z ⟨#[c]⟩ 0 z.length (z.length + 1)) (⟨#[c]⟩ : Str).length))
        rw [List.length_map] at e
        rw [e]
        show (Builtin.Str.partsBetween z _ 1).length ≤ _
        omega
    · refine call_meets F.slot_str_split (typeIs_str _ _ _) F.entry_str_split (F.args_str_split_2 _ _) (meets_str_split_not_found z ⟨#[c]⟩ t tu h1 rfl hf) ?_
      refine fin [(z, t)] s.toks ?_ (by show 1 ≤ sizeLine; decide)
      unfold Txt.split
      rw [if_neg (ne_true_of_eq_false h1), if_pos hf]; rfl
  · refine call_meets F.slot_str_split (typeIs_str _ _ _) F.entry_str_split (F.args_str_split_2 _ _) (meets_str_split_cannot_occur z ⟨#[c]⟩ t tu h1) ?_
    refine fin [(z, t)] s.toks ?_ (by show 1 ≤ sizeLine; decide)
    unfold Txt.split
    rw [if_pos h1]; rfl
theorem mt_starts : MtM X "str.startswith" (fun x xs H Q => ∃ (z y : Str), x = .str z ∧ xs = [.str y] ∧ Q (.bl (Txt.startswith z y)) H) := by
  intro pins s σ H x vs v us Q I rx rv h
  obtain ⟨z, y, rfl, rfl, q⟩ := h
  obtain ⟨t, rfl⟩ := rx
  obtain ⟨u, rfl, ru⟩ := rv.one
  obtain ⟨tu, rfl⟩ := (show ∃ t, u = Value.str y t from ru)
  exact SC.startswith (fin_bl I q rfl)
/-- z[lo:hi] of a text -/
def rSlS : V → Option Int → Option Int → Hp → VK → Prop := fun x lo hi H Q => ∃ z, x = .str z ∧ z.length ≤ sizeLine ∧ Q (.str (Txt.slice z lo hi)) H
theorem sl_str : SlR X rSlS := by
  intro pins s σ H x v vl vu lo hi sl Q I rx hs pl pu h
  obtain ⟨z, rfl, hz, q⟩ := h
  obtain ⟨t, rfl⟩ := rx
  refine ⟨"str", _, F.slot_str_getitem.lookup, typeIs_str _ _ _, ?_⟩
  have go : ∀ (l u : Option (Int × Tok)), s.heap.IsSlice sl l u none → lo = l.map (·.1) → hi = u.map (·.1) → wpAny (model X.prog X.w) X.A (getItem (.str z t) (.ref sl)) (EP X pins σ Q) X.xe s := fun l u hh e1 e2 => by
    subst e1 e2
    exact wpAny_getItem_str_slice hh rfl (post_val_or_str ⟨Nat.le_trans (Txt.slice_le z _ _) hz, fun t' k => ⟨.str _, H, I.tok _, ⟨_, rfl⟩, q⟩⟩)
  cases pl with
  | none =>
    cases pu with
    | none => exact go none none hs rfl rfl
    | int j tj => exact go none (some (j, tj)) hs rfl rfl
  | int i ti =>
    cases pu with
    | none => exact go (some (i, ti)) none hs rfl rfl
    | int j tj => exact go (some (i, ti)) (some (j, tj)) hs rfl rfl
end
theorem slice_drop (x : Str) (k : Nat) : (Txt.slice x (some (k : Int)) none).cps.toList = x.cps.toList.drop k := by
  have hn : x.cps.toList.length = x.length := by simp [Str.length]
  by_cases h : (k : Int) ≤ x.length
  · rw [slice_from_eq (b := (x.length : Int)) (by omega) h rfl]
    show (x.cps.toList.drop (k : Int).toNat).take _ = _
    rw [Int.toNat_natCast, List.take_of_length_le (by rw [List.length_drop]; omega)]
  · rw [slice_beyond (by omega), List.drop_of_length_le (by omega)]
    rfl
theorem slice_take (x : Str) (k : Nat) : (Txt.slice x none (some (k : Int))).cps.toList = x.cps.toList.take k := by
  have hn : x.cps.toList.length = x.length := by simp [Str.length]
  by_cases h : (k : Int) ≤ x.length
  · rw [beq_iff_eq.mp (slice_closes_toL (x := x) (j := (k : Int)) (by omega) h)]
    show (x.cps.toList.drop (0 : Int).toNat).take ((k : Int) - 0).toNat = _
    rw [show (0 : Int).toNat = 0 from rfl, List.drop_zero, Int.sub_zero, Int.toNat_natCast]
  · have e : Txt.slice x none (some (k : Int)) = Txt.slice x none (some (x.length : Int)) := by
      unfold Txt.slice
      have e2 : Builtin.Str.strSliceIndices none (some (k : Int)) 1 x.length = Builtin.Str.strSliceIndices none (some (x.length : Int)) 1 x.length := by
        have h0 : ¬ ((k : Int) < 0) := by omega
        have h1 : ¬ ((x.length : Int) < 0) := by omega
        have h2 : (x.length : Int) ≤ (k : Int) := by omega
        have h3 : (1 : Int) > 0 := by decide
        simp only [Builtin.Str.strSliceIndices, h0, h1, h3, if_false, if_true, Int.min_eq_right h2, Int.min_self]
      rw [e2]
    rw [e, beq_iff_eq.mp (slice_closes_toL (x := x) (j := (x.length : Int)) (by omega) (Int.le_refl _))]
    show (x.cps.toList.drop (0 : Int).toNat).take ((x.length : Int) - 0).toNat = _
    rw [show (0 : Int).toNat = 0 from rfl, List.drop_zero, Int.sub_zero, Int.toNat_natCast, List.take_of_length_le (Nat.le_of_eq hn), List.take_of_length_le (by omega)]
end L2

namespace L2
open PySem PySem.Spec PyProof.Rows
/-- a loop over a text's signs -/
theorem for_str {z : Str} {g : TG} {tb : TS} {D : Ends} {σ : St} {H : Hp} (Pv : Nat → St → Hp → Prop) (h0 : Pv 0 σ H)
    (hs : ∀ i c σ H, z.cps.toList[i]? = some c → Pv i σ H → g (.str ⟨#[c]⟩) σ H fun σ2 H2 => tb { D with nx := Pv (i + 1), ct := Pv (i + 1), bk := D.nx } σ2 H2) (hd : ∀ σ H, Pv z.cps.toList.length σ H → D.nx σ H) :
    ∃ W : Nat → Nat → St → Hp → Prop, (∃ m, W 0 m σ H) ∧ ∀ i m σ H, W i m σ H →
      ((Its z).stop i H ∧ D.nx σ H) ∨ ((Its z).go i H ∧ ∃ N : St → Hp → Prop, (∀ σ' H', N σ' H' → ∃ m', m' < m ∧ W (i + 1) m' σ' H') ∧ ∀ x H', (Its z).yld i H x H' → g x σ H' fun σ2 H2 => tb { D with nx := N, ct := N, bk := D.nx } σ2 H2) := by
  refine ⟨fun i m σ H => m = z.cps.size - i ∧ i ≤ z.cps.size ∧ Pv i σ H, ⟨_, rfl, Nat.zero_le _, h0⟩, fun i m σ H hw => ?_⟩
  obtain ⟨rfl, hi, p⟩ := hw
  by_cases hlt : i < z.cps.size
  · refine .inr ⟨hlt, Pv (i + 1), fun σ' H' p' => ⟨z.cps.size - (i + 1), by omega, rfl, hlt, p'⟩, fun x H' y => ?_⟩
    obtain ⟨rfl, c, hc, rfl⟩ := y
    exact hs i c σ _ (by rw [← hc]; simp) p
  · have e : i = z.cps.size := by omega
    subst e
    exact .inl ⟨rfl, hd σ H (by rw [Array.length_toList]; exact p)⟩
section
variable {X : Cx}
theorem types_of : ∀ {cs : List String} {us : List Value}, Vals (cs.map V.ty) us → us = cs.map Value.type
  | [], _, .nil => rfl
  | c :: cs, _, .cons r t => by
    rw [types_of t]
    cases (show _ = Value.type c from r)
    rfl
theorem isTup_get {h : Heap} {p : Addr} {its : Array Value} (ht : h.IsTuple p its) : ∃ dd n sl, h.get? p = some ⟨.type "tuple", dd, .seq its n, sl⟩ := by
  obtain ⟨⟨cls, dd, data, sl⟩, h1, h2, n, h3⟩ := ht
  dsimp only at h2 h3
  subst h2 h3
  exact ⟨dd, n, sl, h1⟩
/-- isinstance(x, (A, B)) for a flat x -/
theorem call_isiT : CallR X (.builtin "isinstance") (fun xs H Q => ∃ (x : V) (p : Addr) (cs : List String) (t : Value) (b : Bool), xs = [x, .ref p] ∧ flatV x = true ∧ SqT X.K H p (cs.map V.ty) ∧ TyOf X.K H x t ∧ PySem.W.kitAny X.K t (cs.map Value.type) = some b ∧ Q (.bl b) H) := by
  intro pins s σ H xs us Q I r h
  obtain ⟨x, p, cs, t, b, rfl, fx, hp, ty, e, q⟩ := h
  obtain ⟨u, v, rfl, ru, rv⟩ := vals2 r
  cases (show v = Value.ref p from rv)
  obtain ⟨its, r1, p1, _⟩ := I.tuple hp
  obtain ⟨dd, n, sl, hg⟩ := isTup_get p1
  cases types_of r1
  have fin : ∀ tk, EP X pins σ Q (.bool b) { s with toks := tk } := fun tk => ⟨.bl b, H, I.tok _, rfl, q⟩
  cases ty with
  | non =>
    cases (show u = Value.none from ru)
    exact PySem.W.kia_tup PySem.W.kitx_none I.kIn .intro hg e (by simp) fin
  | bl y =>
    cases (show u = Value.bool y from ru)
    exact PySem.W.kia_tup PySem.W.kitx_bool I.kIn .intro hg e (by simp) fin
  | int i =>
    obtain ⟨t, rfl⟩ := (show ∃ t, u = Value.int i t from ru)
    exact PySem.W.kia_tup PySem.W.kitx_int I.kIn .intro hg e (by simp) fin
  | str y =>
    obtain ⟨t, rfl⟩ := (show ∃ t, u = Value.str y t from ru)
    exact PySem.W.kia_tup PySem.W.kitx_str I.kIn .intro hg e (by simp) fin
  | _ => exact absurd (show false = true from fx) Bool.false_ne_true
/-- == of two tuples of texts -/
def rEqTS (K : PySem.W.Frag) : R2 := fun x y H Q => ∃ (a b : Addr) (ss ts : List Str), x = .ref a ∧ y = .ref b ∧ SqT K H a (ss.map V.str) ∧ SqT K H b (ts.map V.str) ∧ Q (.bl (decide (ss = ts))) H
theorem strVals_at : ∀ {ss : List Str} {us : List Value} (_ : Vals (ss.map V.str) us) (j : Nat) (h : j < us.length), ∃ (hj : j < ss.length) (t : Tok), us[j] = .str ss[j] t
  | [], _, .nil, j, h => absurd h (Nat.not_lt_zero j)
  | c :: cs, u :: us, .cons r t, 0, h => by
    obtain ⟨t, e⟩ := (show ∃ t, u = Value.str c t from r)
    exact ⟨Nat.zero_lt_succ _, t, e⟩
  | c :: cs, u :: us, .cons r t, j + 1, h => by
    obtain ⟨hj, t, e⟩ := strVals_at (ss := cs) t j (Nat.lt_of_succ_lt_succ h)
    exact ⟨Nat.succ_lt_succ hj, t, e⟩
theorem all_eq_list : ∀ (ss ts : List Str), ((List.range (min ss.length ts.length)).all (fun j => ss.getD j "" == ts.getD j "") && ss.length == ts.length) = decide (ss = ts) := by
  intro ss ts
  rw [Bool.eq_iff_iff, Bool.and_eq_true, List.all_eq_true, decide_eq_true_iff, beq_iff_eq]
  constructor
  · rintro ⟨h1, h2⟩
    refine List.ext_getElem h2 fun j hj hj' => ?_
    have q := h1 j (List.mem_range.mpr (by omega))
    rw [beq_iff_eq, List.getD_eq_getElem?_getD, List.getD_eq_getElem?_getD, List.getElem?_eq_getElem hj, List.getElem?_eq_getElem hj'] at q
    exact q
  · rintro rfl
    exact ⟨fun j _ => beq_self_eq_true _, rfl⟩
theorem op_eqTS (hu : X.A.units < cLine) : OpR X (compareOp .Eq) (rEqTS X.K) := by
  intro pins s σ H x y v u Q I rx ry h
  obtain ⟨a, b, ss, ts, rfl, rfl, ha, hb, q⟩ := h
  cases (show v = Value.ref a from rx)
  cases (show u = Value.ref b from ry)
  obtain ⟨i1, r1, p1, _⟩ := I.tuple ha
  obtain ⟨i2, r2, p2, _⟩ := I.tuple hb
  have l1 : i1.length = ss.length := by rw [← r1.length, List.length_map]
  have l2 : i2.length = ts.length := by rw [← r2.length, List.length_map]
  refine SeqAt.eq_tupleAt (e := fun j => ss.getD j "" == ts.getD j "") p1 p2 hu (fun j h1 h2 => ?_) ⟨.bl (decide (ss = ts)), H, I, ?_, q⟩
  · obtain ⟨k1, t1, e1⟩ := strVals_at r1 j (by simpa using h1)
    obtain ⟨k2, t2, e2⟩ := strVals_at r2 j (by simpa using h2)
    rw [List.getElem_toArray, List.getElem_toArray, e1, e2, List.getD_eq_getElem?_getD, List.getD_eq_getElem?_getD, List.getElem?_eq_getElem k1, List.getElem?_eq_getElem k2]
    exact SeqAt.EqAt.str_str _ t1 _ t2
  · rw [List.size_toArray, List.size_toArray, l1, l2, all_eq_list]
    exact rfl
end
theorem zip_take {f : V → V → V} {xs ys : List V} {i : Nat} {x y : V} (hx : xs[i]? = some x) (hy : ys[i]? = some y) : (List.zipWith f xs ys).take (i + 1) = (List.zipWith f xs ys).take i ++ [f x y] := by
  rw [List.take_add_one]
  congr 1
  rw [List.getElem?_zipWith, hx, hy]
  rfl
end L2

namespace L2
open PySem PySem.Spec PyProof.Rows
/-- a thing of Python's own: flat (a text of no great length), or a tuple, or a list -/
def Th (H : Hp) : V → Prop
  | .non => True
  | .bl _ => True
  | .int _ => True
  | .str z => z.length ≤ 1000
  | .ref a => (∃ xs, H a = some (.tup xs)) ∨ ∃ xs, H a = some (.lst xs)
  | _ => False
theorem Th.same {H H' : Hp} {x : V} (s : Same H H') (h : Th H x) : Th H' x := by
  cases x with
  | ref a => exact h.imp (fun ⟨xs, e⟩ => ⟨xs, s _ _ e⟩) fun ⟨xs, e⟩ => ⟨xs, s _ _ e⟩
  | _ => exact h
def isS (x : V) (z : Str) : Bool := decide (x = .str z)
def inS (x : V) (ts : List Str) : Bool := ts.any fun z => isS x z
theorem isS_str (y z : Str) : isS (.str y) z = (z == y) := by
  unfold isS
  rw [dec_str, Bool.eq_iff_iff, beq_iff_eq, beq_iff_eq]
  exact eq_comm
section
variable {X : Cx} {pins : List (Addr × Obj)} {σ : St} {H : Hp} {s : Shared}
theorem eqAt_th {A : Around} {x : V} {v : Value} (I : Inv X pins σ H s) (hu : A.units < cLine) (th : Th H x) (rx : RelV x v) (z : Str) (t : Tok) : SeqAt.EqAt A s (.str z t) v (isS x z) := by
  cases x with
  | non => cases (show v = Value.none from rx); exact SeqAt.EqAt.str_none z t
  | bl b => cases (show v = Value.bool b from rx); exact SeqAt.EqAt.str_bool z t b
  | int i => obtain ⟨u, rfl⟩ := (show ∃ t, v = Value.int i t from rx); exact SeqAt.EqAt.str_int z t i u
  | str y => obtain ⟨u, rfl⟩ := (show ∃ t, v = Value.str y t from rx); rw [isS_str]; exact SeqAt.EqAt.str_str z t y u
  | ref a =>
    cases (show v = Value.ref a from rx)
    rcases th with ⟨xs, e⟩ | ⟨xs, e⟩
    · obtain ⟨its, _, p, _⟩ := I.tuple (.of e)
      exact SeqAt.EqAt.str_tuple z t p hu
    · obtain ⟨its, _, p, _⟩ := I.list (.of e)
      exact SeqAt.EqAt.str_list z t p.isList hu
  | _ => exact th.elim
def eqW (x : V) (u : Value) : Bool := match u with
  | .str z _ => isS x z
  | _ => false
theorem any_eqW {x : V} : ∀ {ts : List Str} {us : List Value}, Vals (ts.map V.str) us → us.any (eqW x) = inS x ts
  | [], _, .nil => rfl
  | z :: ts, _, .cons r t => by
    obtain ⟨u, rfl⟩ := (show ∃ t, _ = Value.str z t from r)
    rw [List.any_cons, any_eqW t]
    rfl
theorem mem_eqW {A : Around} {x : V} {v : Value} (I : Inv X pins σ H s) (hu : A.units < cLine) (th : Th H x) (rx : RelV x v) : ∀ {ts : List Str} {us : List Value}, Vals (ts.map V.str) us → ∀ u ∈ us, SeqAt.EqAt A s u v (eqW x u)
  | [], _, .nil => fun u hu => nomatch hu
  | z :: ts, _, .cons r t => fun u' m => by
    obtain ⟨u, rfl⟩ := (show ∃ t, _ = Value.str z t from r)
    rcases List.mem_cons.mp m with rfl | m
    · exact eqAt_th I hu th rx z u
    · exact mem_eqW I hu th rx t u' m
end
section
variable {X : Cx}
/-- x in a tuple of texts, any x -/
theorem op_inTh {K : PySem.W.Frag} (hK : X.K = K) (hu : X.A.units + 1 < cLine) : OpR X (compareOp .In) (fun x y H Q => ∃ (p : Addr) (ts : List Str), y = .ref p ∧ SqT K H p (ts.map V.str) ∧ Th H x ∧ Q (.bl (inS x ts)) H) := by
  subst hK
  intro pins s σ H x y v u Q I rx ry h
  obtain ⟨p, ts, rfl, hp, th, q⟩ := h
  cases (show u = Value.ref p from ry)
  obtain ⟨its, r, pl, _⟩ := I.tuple hp
  refine SeqAt.in_tupleAt (eqW x) pl (fun u m => mem_eqW I hu th rx r u (by simpa using m)) ⟨.bl (inS x ts), H, I, ?_, q⟩
  rw [← any_eqW r]
  simp [RelV]
/-- x == 'z', any x -/
theorem op_eqS (hu : X.A.units < cLine) : OpR X (compareOp .Eq) (fun x y H Q => ∃ z : Str, y = .str z ∧ Th H x ∧ Q (.bl (isS x z)) H) := by
  intro pins s σ H x y v u Q I rx ry h
  obtain ⟨z, rfl, th, q⟩ := h
  cases x with
  | ref a =>
    cases (show v = Value.ref a from rx)
    obtain ⟨t, rfl⟩ := (show ∃ t, u = Value.str z t from ry)
    rcases th with ⟨xs, e⟩ | ⟨xs, e⟩
    · obtain ⟨its, _, p, _⟩ := I.tuple (.of e)
      exact SeqAt.RcAt.tuple_str z t p hu _ _ _ _ ⟨.bl false, H, I, rfl, q⟩
    · obtain ⟨its, _, p, _⟩ := I.list (.of e)
      exact SeqAt.RcAt.list_str z t p.isList hu _ _ _ _ ⟨.bl false, H, I, rfl, q⟩
  | non => exact op_eq pins s σ H _ _ _ _ Q I rx ry ⟨rfl, q⟩
  | bl b => exact op_eq pins s σ H _ _ _ _ Q I rx ry ⟨rfl, q⟩
  | int i => exact op_eq pins s σ H _ _ _ _ Q I rx ry ⟨rfl, q⟩
  | str y => exact op_eq pins s σ H _ _ _ _ Q I rx ry ⟨rfl, q⟩
  | _ => exact th.elim
/-- t == (), t != () -/
theorem op_eqE (hu : X.A.units < cLine) : OpR X (compareOp .Eq) (fun x y H Q => ∃ (a b : Addr) (xs : List V), x = .ref a ∧ y = .ref b ∧ SqT X.K H a xs ∧ SqT X.K H b [] ∧ Q (.bl xs.isEmpty) H) := by
  intro pins s σ H x y v u Q I rx ry h
  obtain ⟨a, b, xs, rfl, rfl, ha, hb, q⟩ := h
  cases (show v = Value.ref a from rx)
  cases (show u = Value.ref b from ry)
  obtain ⟨i1, r1, p1, _⟩ := I.tuple ha
  obtain ⟨i2, r2, p2, _⟩ := I.tuple hb
  cases r2
  refine SeqAt.eq_tupleAt (e := fun _ => true) p1 p2 hu (fun j _ h2 => absurd h2 (Nat.not_lt_zero j)) ⟨.bl xs.isEmpty, H, I, ?_, q⟩
  cases r1 with
  | nil => rfl
  | cons _ _ => simp [RelV]
theorem op_neE (hu : X.A.units < cLine) : OpR X (compareOp .NotEq) (fun x y H Q => ∃ (a b : Addr) (xs : List V), x = .ref a ∧ y = .ref b ∧ SqT X.K H a xs ∧ SqT X.K H b [] ∧ Q (.bl (!xs.isEmpty)) H) := by
  intro pins s σ H x y v u Q I rx ry h
  obtain ⟨a, b, xs, rfl, rfl, ha, hb, q⟩ := h
  cases (show v = Value.ref a from rx)
  cases (show u = Value.ref b from ry)
  obtain ⟨i1, r1, p1, _⟩ := I.tuple ha
  obtain ⟨i2, r2, p2, _⟩ := I.tuple hb
  cases r2
  refine SeqAt.RcNeAt.tuples (e := fun _ => true) p1 p2 hu (fun j _ h2 => absurd h2 (Nat.not_lt_zero j)) _ _ _ _ ⟨.bl (!xs.isEmpty), H, I, ?_, q⟩
  cases r1 with
  | nil => rfl
  | cons _ _ => simp [RelV]
/-- l == [] -/
theorem op_eqN (hu : X.A.units < cLine) : OpR X (compareOp .Eq) (fun x y H Q => ∃ (a b : Addr) (xs : List V), x = .ref a ∧ y = .ref b ∧ SqL X.K H a xs ∧ SqL X.K H b [] ∧ Q (.bl xs.isEmpty) H) := by
  intro pins s σ H x y v u Q I rx ry h
  obtain ⟨a, b, xs, rfl, rfl, ha, hb, q⟩ := h
  cases (show v = Value.ref a from rx)
  cases (show u = Value.ref b from ry)
  obtain ⟨i1, r1, p1, _⟩ := I.list ha
  obtain ⟨i2, r2, p2, _⟩ := I.list hb
  cases r2
  cases r1 with
  | nil => exact SeqAt.eq_listAt (e := fun _ => true) p1.isList p2.isList rfl hu (fun j _ h2 => absurd h2 (Nat.not_lt_zero j)) ⟨.bl true, H, I, rfl, q⟩
  | cons _ _ => exact SeqAt.eq_list_lengthsAt p1.isList p2.isList (by simp) hu ⟨.bl false, H, I, rfl, q⟩
/-- t + u, both tracked, either may be empty -/
def rCatG : R2 := fun x y H Q => ∃ (a b : Addr) (xs ys : List V), x = .ref a ∧ y = .ref b ∧ H a = some (.tup xs) ∧ H b = some (.tup ys) ∧ xs.length + ys.length ≤ sizeLine ∧ ∀ r H', Same H H' → H' r = some (.tup (xs ++ ys)) → Q (.ref r) H'
theorem op_catG : OpR X (binaryOp .Add) rCatG := by
  intro pins s σ H x y v u Q I rx ry h
  obtain ⟨a, b, xs, ys, rfl, rfl, ha, hb, hz, q⟩ := h
  by_cases hx : xs = []
  · subst hx
    cases (show v = Value.ref a from rx)
    cases (show u = Value.ref b from ry)
    obtain ⟨i1, r1, p1, _⟩ := I.tuple (.of ha)
    obtain ⟨i2, r2, p2, _⟩ := I.tuple (.of hb)
    cases r1
    obtain ⟨dd, n, sl, h1⟩ := isTup_get p1
    obtain ⟨dd2, n2, sl2, h2⟩ := isTup_get p2
    exact concat_meets ⟨_, h1, rfl⟩ ⟨_, h2, rfl⟩ noFill_tuple_add seq_tuple_add PySem.F.slot_tuple_add PySem.F.entry_tuple_add (PySem.F.args_tuple_add_2 _ _) (tuple_addW0 a b _ _ n n2 dd dd2 sl sl2 rfl) ⟨h1, h2, ⟨.ref b, H, I, rfl, q b H (Same.refl H) hb⟩⟩
  · refine op_catT pins s σ H _ _ v u Q I rx ry ⟨a, b, xs, ys, rfl, rfl, .of ha, .of hb, hx, hz, fun e => ?_, fun _ p hp => ?_⟩
    · exact q a H (Same.refl H) (by rw [e, List.append_nil]; exact ha)
    · exact q p _ (Same.upd hp) upd_same
/-- t[lo:hi] of a tracked tuple, not the whole of it -/
def rSlG : V → Option Int → Option Int → Hp → VK → Prop := fun x lo hi H Q => ∃ (a : Addr) (xs : List V), x = .ref a ∧ H a = some (.tup xs) ∧ ¬ (HT.sIx xs.length 0 lo = 0 ∧ HT.sIx xs.length xs.length hi = xs.length) ∧
  ∀ r H', Same H H' → H' r = some (.tup (cutV xs lo hi)) → Q (.ref r) H'
theorem sl_G : SlR X rSlG := by
  intro pins s σ H x v vl vu lo hi sl Q I rx hs pl pu h
  obtain ⟨a, xs, rfl, ha, hw, q⟩ := h
  exact sl_tup pins s σ H _ v vl vu lo hi sl Q I rx hs pl pu ⟨a, xs, rfl, .of ha, hw, fun p hp => q p _ (Same.upd hp) upd_same⟩
theorem mt_upper : MtM X "str.upper" (fun x xs H Q => ∃ z : Str, x = .str z ∧ xs = [] ∧ z.length ≤ 5592405 ∧ ((Txt.upper z).length ≤ 3 * z.length → Q (.str (Txt.upper z)) H)) := by
  intro pins s σ H x vs v us Q I rx rv h
  obtain ⟨z, rfl, rfl, hz, q⟩ := h
  obtain ⟨t, rfl⟩ := rx
  cases rv
  exact SCL.upper hz fun hl => ⟨.str _, H, I.tok _, ⟨_, rfl⟩, q hl⟩
end
/-! ### a dict of the module, its keys texts -/
def KDict (K : PySem.W.Frag) (w : World) (a : Addr) (kvs : List (Str × Value)) : Prop :=
  (a == sysModules) = false ∧ ∃ o es ep, K.lookup a = some o ∧ o.ExactDict ∧ o.data = .dict es ep ∧ ∀ prog, KeysOf (PySem.strKind prog w) es ∧ Pairs (PySem.strKind prog w) es.toList kvs ∧ (kvs.map (·.1)).Nodup
section
variable {X : Cx} {pins : List (Addr × Obj)} {σ : St} {H : Hp} {s : Shared}
theorem KDict.of {a : Addr} {kvs : List (Str × Value)} (D : KDict X.K X.w a kvs) (I : Inv X pins σ H s) : s.heap.DictOf (PySem.strKind X.prog X.w) a kvs := by
  obtain ⟨_, o, es, ep, h1, h2, h3, h4⟩ := D
  obtain ⟨k1, k2, k3⟩ := h4 X.prog
  exact ⟨o, es, ep, I.kIn _ _ h1, h2, h3, k1, k2, k3⟩
theorem op_inKD : OpR X (compareOp .In) (fun x y H Q => ∃ (z : Str) (a : Addr) (kvs : List (Str × Value)), x = .str z ∧ y = .ref a ∧ KDict X.K X.w a kvs ∧ Q (.bl (valueAt kvs z).isSome) H) := by
  intro pins s σ H x y v u Q I rx ry h
  obtain ⟨z, a, kvs, rfl, rfl, D, q⟩ := h
  obtain ⟨t, rfl⟩ := rx
  cases (show u = Value.ref a from ry)
  exact wpAny_in_of (knd := PySem.strKind X.prog X.w) (k := z) (by simp [PySem.strKind, Value.isStrOf]) D.1 (D.of I).mapOf ⟨.bl _, H, I.tok _, rfl, q⟩
theorem pe_getKD {o i : Expr} {to ti : TE} {pos : Pos} (ho : PE X o to) (hi : PE X i ti) (hs : NoSl i) :
    PE X (.Subscript o i pos) (tOp (fun x y H Q => ∃ (a : Addr) (z : Str) (kvs : List (Str × Value)) (u : Value) (v : V), x = .ref a ∧ y = .str z ∧ KDict X.K X.w a kvs ∧ valueAt kvs z = some u ∧ RelV v u ∧ Q v H) to ti) := by
  intro pins s σ H Q I h
  refine subD_of PySem.F.slot_dict_getitem.lookup hs (thn (ho pins s σ H _ I h) fun u s1 ⟨x, H1, I1, rx, q1⟩ => thn (hi pins s1 σ H1 _ I1 q1) fun iv s2 ⟨y, H2, I2, ry, q2⟩ => ?_)
  obtain ⟨a, z, kvs, u', v, rfl, rfl, D, hv, rv, q⟩ := q2
  cases (show u = Value.ref a from rx)
  obtain ⟨t, rfl⟩ := ry
  have dd := D.of I2
  refine ⟨?_, wpAny_getItem_of (knd := PySem.strKind X.prog X.w) (k := z) (by simp [PySem.strKind, Value.isStrOf]) dd.mapOf hv ⟨v, H2, I2.tok _, rv, q⟩⟩
  obtain ⟨ob, es, ep, h1, h2, _⟩ := dd
  exact ⟨ob, h1, h2.1⟩
end
/-! ### a comprehension whose items are told by what is true of them -/
/-- tuples stay as they are, lists stay lists -/
def Kd (H H' : Hp) : Prop := (∀ b xs, H b = some (.tup xs) → H' b = some (.tup xs)) ∧ ∀ b xs, H b = some (.lst xs) → ∃ ys, H' b = some (.lst ys)
theorem Same.kd {H H' : Hp} (s : Same H H') : Kd H H' := ⟨fun b xs h => s b _ h, fun b xs h => ⟨xs, s b _ h⟩⟩
theorem Kd.refl (H : Hp) : Kd H H := (Same.refl H).kd
theorem Kd.trans {H H1 H2 : Hp} (a : Kd H H1) (b : Kd H1 H2) : Kd H H2 := ⟨fun c xs h => b.1 c xs (a.1 c xs h), fun c xs h => by obtain ⟨ys, h1⟩ := a.2 c xs h; exact b.2 c ys h1⟩
theorem Kd.grown {H : Hp} {D : Addr} {ys zs : List V} (h : H D = some (.lst ys)) : Kd H (upd H D (.lst zs)) := by
  refine ⟨fun b xs hb => ?_, fun b xs hb => ?_⟩
  · rw [upd_ne (ne_of hb h (by intro z; cases z))]
    exact hb
  · by_cases e : b = D
    · subst e; exact ⟨zs, upd_same⟩
    · exact ⟨xs, by rw [upd_ne e]; exact hb⟩
theorem Th.kd {H H' : Hp} {x : V} (k : Kd H H') (h : Th H x) : Th H' x := by
  cases x with
  | ref a => exact h.elim (fun ⟨xs, e⟩ => .inl ⟨xs, k.1 _ _ e⟩) fun ⟨xs, e⟩ => .inr (k.2 _ _ e)
  | _ => exact h
theorem lc_relS {J : It} {H : Hp} {D : Addr} {xs : List V} {o : Option V} {fr : St} {te : TE} {Q : Hp → Prop} (G : GoesS J H xs) (hD : H D = none) (Rel : V → V → Hp → Prop) (hst : ∀ x y H H', Kd H H' → Rel x y H → Rel x y H') (hz : xs.length ≤ sizeLine)
    (he : ∀ x ∈ xs, ∀ H' (R : VK), Same H H' → (∀ y H'', Same H' H'' → Rel x y H'' → R y H'') → te (some x :: fr) H' R)
    (hQ : ∀ H' ys, Same H H' → H' D = some (.lst ys) → ys.length = xs.length → (∀ (i : Nat) (x y : V), xs[i]? = some x → ys[i]? = some y → Rel x y H') → Q H') : LcW J D (o :: fr) (upd H D (.lst [])) (gName 0) (fun _ H Q => Q true H) te Q := by
  refine ⟨fun i m σ H' => m = xs.length - i ∧ i ≤ xs.length ∧ (∃ p, σ = p :: fr) ∧ Same H H' ∧ ∃ ys, H' D = some (.lst ys) ∧ ys.length = i ∧ ∀ (j : Nat) (x y : V), xs[j]? = some x → ys[j]? = some y → Rel x y H', ⟨_, rfl, Nat.zero_le _, ⟨_, rfl⟩, Same.upd hD, [], upd_same, rfl, fun j x y _ h => nomatch h⟩, ?_⟩
  rintro i m σ H' ⟨rfl, hi, ⟨p, rfl⟩, sm, ys, hd, hl, hr⟩
  by_cases hlt : i < xs.length
  · refine .inr ⟨G.go i _ hlt sm, fun σ' H' => (∃ p, σ' = p :: fr) ∧ Same H H' ∧ ∃ ys, H' D = some (.lst ys) ∧ ys.length = i + 1 ∧ ∀ (j : Nat) (x y : V), xs[j]? = some x → ys[j]? = some y → Rel x y H', fun σ' H' h => ⟨xs.length - (i + 1), by omega, rfl, hlt, h⟩, fun v H2 hv => ?_⟩
    obtain ⟨hx, rfl⟩ := G.yld i _ v H2 hlt sm hv
    show te (some v :: fr) _ _
    refine he v (List.mem_of_getElem? hx) _ _ sm fun y H3 s3 r3 => ⟨ys, s3 _ _ hd, by omega, ⟨_, rfl⟩, (sm.trans s3).upd' hD, ys ++ [y], upd_same, by rw [List.length_append, hl]; rfl, fun j x' y' hj hy => ?_⟩
    have g : Kd H3 (upd H3 D (.lst (ys ++ [y]))) := Kd.grown (s3 _ _ hd)
    by_cases hji : j < ys.length
    · rw [List.getElem?_append_left hji] at hy
      exact hst _ _ _ _ g (hst _ _ _ _ s3.kd (hr j x' y' hj hy))
    · have hjl := (List.getElem?_eq_some_iff.mp hy).1
      rw [List.length_append, List.length_cons, List.length_nil] at hjl
      have e : j = i := by omega
      subst e
      rw [List.getElem?_append_right (by omega), hl, Nat.sub_self] at hy
      rw [hx] at hj
      cases hj
      cases hy
      exact hst _ _ _ _ g r3
  · have e : i = xs.length := by omega
    subst e
    exact .inl ⟨G.stop _ sm, hQ _ ys sm hd hl hr⟩
end L2

namespace L2
open PySem PySem.Spec PyProof.Rows
section
variable {prog : Program} {w : World} {A : Around} {E : Value → Shared → Prop} {s : Shared}
theorem rev_places (n : Nat) : Builtin.Slice.slicePlaces ((n : Int) - 1) (-1) (-1) = n := by
  unfold Builtin.Slice.slicePlaces
  rw [if_neg (by decide), show (-(-1) : Int) = 1 from rfl, Int.ediv_one]
  split <;> omega
theorem rev_applied {sl : Addr} {u : Tok} {n : Nat} {Q : Int × Int × Nat → Shared → Prop} (hs : s.heap.IsSliceOf sl .none .none (.int (-1) u)) (h : Q ((n : Int) - 1, -1, n) s) :
    wpAny (model prog w) A (Builtin.Slice.sliceApplied (.ref sl) (pure (n : Int))) Q E s := by
  obtain ⟨os, hos, hcs, hds⟩ := hs
  unfold Builtin.Slice.sliceApplied Builtin.Slice.sliceFields
  refine wpAny_bind (wpAny_bind (wpAny_field hos hds (x := .none) rfl ?_))
  refine wpAny_bind (wpAny_field hos hds (x := .none) rfl ?_)
  refine wpAny_bind (wpAny_field hos hds (x := .int (-1) u) rfl (wpAny_pure ?_))
  refine wpAny_bind (slicePart_int ?_)
  show wpAny _ _ (if ((-1 : Int) == 0) = true then _ else _) _ _ s
  rw [if_neg (by decide)]
  refine wpAny_bind (slicePart_none ?_)
  refine wpAny_bind (slicePart_none (wpAny_bind (wpAny_pure ?_)))
  show wpAny _ _ (pure ((n : Int) - 1, (-1 : Int), Builtin.Slice.slicePlaces ((n : Int) - 1) (-1) (-1))) _ _ s
  rw [rev_places]
  exact wpAny_pure h
theorem fm_some {α β : Type} {f : α → Option β} {g : α → β} : ∀ (l : List α), (∀ m ∈ l, f m = some (g m)) → l.filterMap f = l.map g
  | [], _ => rfl
  | x :: l, h => by
    rw [List.filterMap_cons, h x List.mem_cons_self, List.map_cons, fm_some l fun m hm => h m (List.mem_cons_of_mem _ hm)]
theorem rev_pick (xs : Array Value) : ((List.range xs.size).filterMap fun (m : Nat) => xs[(((xs.size : Int) - 1) + (m : Int) * (-1)).toNat]?) = xs.toList.reverse := by
  have e : ∀ m ∈ List.range xs.size, xs[(((xs.size : Int) - 1) + (m : Int) * (-1)).toNat]? = some ((xs.toList.reverse)[m]?.getD .none) := fun m hm => by
    have h := List.mem_range.mp hm
    have e1 : (((xs.size : Int) - 1) + (m : Int) * (-1)).toNat = xs.size - 1 - m := by omega
    have h2 : m < xs.toList.reverse.length := by rw [List.length_reverse, Array.length_toList]; exact h
    rw [e1, List.getElem?_eq_getElem h2, List.getElem_reverse, Option.getD_some, Array.getElem?_eq_getElem (by omega)]
    simp
  rw [fm_some _ e]
  apply List.ext_getElem
  · simp
  · intro i h1 h2
    rw [List.getElem_map, List.getElem_range, List.getElem?_eq_getElem h2]
    rfl
theorem getItem_rev {t sl : Addr} {items : Array Value} {u : Tok} {Q : Value → Shared → Prop} (ht : IsTup s.heap t items) (hs : s.heap.IsSliceOf sl .none .none (.int (-1) u)) (hsz : items.size ≤ sizeLine)
    (h : Q (.ref s.heap.objs.size) { s with heap := s.heap.push { cls := .type "tuple", data := .seq items.toList.reverse.toArray } }) : wpAny (model prog w) A (getItem (.ref t) (.ref sl)) Q E s := by
  have hok : sizeOk (.seq items.toList.reverse.toArray) := by
    show items.toList.reverse.toArray.size ≤ sizeLine
    rw [List.size_toArray, List.length_reverse, Array.length_toList]
    exact hsz
  obtain ⟨os, hos, hcs, hds⟩ := id hs
  have hT : s.TypeIs (.ref sl) "slice" := ⟨os, hos, hcs⟩
  unfold getItem
  try with_reducible refine wpAny_holding ?_
  first | refine wpAny_bind (wpAny_pure ?_) | skip
  refine wpAny_bind (wpAny_sequenceKey ht.typeIs (by decide) ?_)
  refine wpAny_bind (wpAny_callSpecial?_slot (name := Str.ofString "__getitem__") ht.typeIs PyProof.Rows.slot_tuple_getitem (wpAny_call_entry PyProof.Rows.slot_tuple_getitem ht.typeIs entry_tuple_getitem ?_ (args_tuple_getitem _ _)))
  show wpAny _ _ (Builtin.Tuple.tupleItemsOf (.ref t) >>= _) _ _ s
  refine wpAny_bind (tupleItemsOf_ ht ?_)
  refine wpAny_bind (wpAny_typeOf hT ?_)
  rw [if_pos (by decide)]
  refine wpAny_bind (rev_applied hs ?_)
  have hno : ¬ (((items.size : Int) - 1 == 0 && (-1 : Int) == 1 && items.size == items.size) = true) := by
    rw [show ((-1 : Int) == 1) = false from rfl, Bool.and_false, Bool.false_and]
    exact Bool.false_ne_true
  show wpAny _ _ (if ((items.size : Int) - 1 == 0 && (-1 : Int) == 1 && items.size == items.size) = true then _ else _) _ _ s
  rw [if_neg hno, rev_pick]
  first
    | exact wpAny_bind (m := Builtin.Tuple.tupleExact _) (wpAny_newObj_type (wpAny_pure ⟨_, rfl, wpAny_pure h⟩) hok)
    | exact wpAny_bind (wpAny_bind (m := Builtin.Tuple.tupleExact _) (wpAny_newObj_type (wpAny_pure (wpAny_pure ⟨_, rfl, wpAny_pure h⟩)) hok))
    | exact wpAny_bind (m := Builtin.Tuple.tupleExact _) (wpAny_newObj_type (wpAny_bind (wpAny_pure (wpAny_pure ⟨_, rfl, wpAny_pure h⟩))) hok)
    | exact wpAny_bind (wpAny_bind (m := Builtin.Tuple.tupleExact _) (wpAny_newObj_type (wpAny_pure ⟨_, rfl, wpAny_pure h⟩) hok))
end
/-- t[::-1] of a tracked tuple -/
theorem pe_rev {X : Cx} {e k : Expr} {te tk : TE} {p2 pos : Pos} (he : PE X e te) (hk : PE X k tk) :
    PE X (.Subscript e (.Slice none none (some k) p2) pos) (fun σ H Q => te σ H fun x H1 => tk σ H1 fun y H2 => ∃ (a : Addr) (xs : List V), x = .ref a ∧ y = .int (-1) ∧ SqT X.K H2 a xs ∧ ∀ r, H2 r = none → Q (.ref r) (upd H2 r (.tup xs.reverse))) := by
  intro pins s σ H Q I h
  refine Subscript_ (thn (he pins s σ H _ I h) fun v s1 ⟨x, H1, I1, r1, q1⟩ => ?_)
  refine wpAny_Slice ?_
  rw [evalPart_none, evalPart_some]
  refine wpAny_pure (wpAny_pure (thn (hk pins s1 σ H1 _ I1 q1) fun vk s3 ⟨y, H3, I3, r3, q3⟩ => ?_))
  obtain ⟨a, xs, rfl, rfl, ha, q⟩ := q3
  cases (show v = Value.ref a from r1)
  obtain ⟨u, rfl⟩ := (show ∃ t, vk = Value.int (-1) t from r3)
  have I4 : Inv X pins σ H3 { s3 with heap := s3.heap.push { cls := .type "slice", data := .fields #[.none, .none, .int (-1) u] } } := I3.kept (t' := s3.toks) fun b ob q => Heap.get?_push_of_some _ q
  generalize es4 : ({ s3 with heap := s3.heap.push { cls := .type "slice", data := .fields #[.none, .none, .int (-1) u] } } : Shared) = s4 at I4 ⊢
  have hsl : s4.heap.IsSliceOf s3.heap.objs.size .none .none (.int (-1) u) := by rw [← es4]; exact Heap.IsSliceOf.new _ _ _ _
  obtain ⟨its, rv, p4, hz⟩ := I4.tuple ha
  refine tail_any (ops := [.ref a, .ref s3.heap.objs.size]) (T := "tuple") p4.typeIs PyProof.Rows.slot_tuple_getitem.lookup (getItem_rev p4 hsl (by rw [List.size_toArray, ← rv.length]; exact hz) ?_) (by with_unfolding_all rfl)
  refine ⟨.ref s4.heap.objs.size, _, I4.laid (t' := s4.toks) (o := .tup xs.reverse) (fun b ob q => Heap.get?_push_of_some _ q) (Nat.le_refl _) ?_, rfl, q _ (I4.hok.fresh (Nat.le_refl _))⟩
  exact ⟨by rw [List.length_reverse]; exact hz, its.reverse, rv.reverse, IsTup.new _ _⟩
end L2

namespace L2
open PySem PySem.Spec PyProof.Rows
/-! ### trees: what a value stands for, heap and all -/
inductive Tr where
  | non | bl (b : Bool) | int (i : Int) | str (z : Str) | ty (n : String)
  | scr (ns : List Int) | tup (ts : List Tr) | lst (ts : List Tr) | dic (kts : List (Key × Tr))
def txMax : Nat := 1000000
mutual
inductive Rep (K : PySem.W.Frag) (H : Hp) : V → Tr → Prop where
  | non : Rep K H .non .non
  | bl (b : Bool) : Rep K H (.bl b) (.bl b)
  | int (i : Int) : Rep K H (.int i) (.int i)
  | str (z : Str) (h : z.length ≤ txMax) : Rep K H (.str z) (.str z)
  | ty (n : String) : Rep K H (.ty n) (.ty n)
  | scr {a : Addr} {ns : List Int} (h : SqL K H a (ns.map V.int)) : Rep K H (.ref a) (.scr ns)
  | tup {a : Addr} {vs : List V} {ts : List Tr} (h : SqT K H a vs) (r : Reps K H vs ts) : Rep K H (.ref a) (.tup ts)
  | lst {a : Addr} {vs : List V} {ts : List Tr} (h : H a = some (.lst vs)) (r : Reps K H vs ts) : Rep K H (.ref a) (.lst ts)
  | dic {a : Addr} {kvs : List (Key × V)} {kts : List (Key × Tr)} (h : H a = some (.dK kvs)) (e : kvs.map (·.1) = kts.map (·.1)) (r : Reps K H (kvs.map (·.2)) (kts.map (·.2))) : Rep K H (.ref a) (.dic kts)
inductive Reps (K : PySem.W.Frag) (H : Hp) : List V → List Tr → Prop where
  | nil : Reps K H [] []
  | cons {v : V} {t : Tr} {vs : List V} {ts : List Tr} (h : Rep K H v t) (r : Reps K H vs ts) : Reps K H (v :: vs) (t :: ts)
end
section
variable {K : PySem.W.Frag} {H H' : Hp}
theorem Rd.same {a : Addr} {u : HO} (s : Same H H') (h : Rd H a u) : Rd H' a u := by
  rcases h with h | ⟨o, h⟩
  · exact .inl (s _ _ h)
  · exact .inr ⟨o, s _ _ h⟩
theorem Rep.same (s : Same H H') {v : V} {t : Tr} (h : Rep K H v t) : Rep K H' v t := by
  refine Rep.rec (motive_1 := fun v t _ => Rep K H' v t) (motive_2 := fun vs ts _ => Reps K H' vs ts) ?_ ?_ ?_ ?_ ?_ ?_ ?_ ?_ ?_ ?_ ?_ h
  · exact .non
  · exact fun b => .bl b
  · exact fun i => .int i
  · exact fun z h => .str z h
  · exact fun n => .ty n
  · exact fun h => .scr (s.seq h)
  · exact fun h _ r => .tup (s.tup h) r
  · exact fun h _ r => .lst (s _ _ h) r
  · exact fun h e _ r => .dic (s _ _ h) e r
  · exact .nil
  · exact fun _ _ h r => .cons h r
theorem Reps.same (s : Same H H') : ∀ {vs : List V} {ts : List Tr}, Reps K H vs ts → Reps K H' vs ts
  | [], _, h => by cases h; exact .nil
  | _ :: _, _, h => by cases h with | cons h r => exact .cons (h.same s) (Reps.same s r)
theorem Reps.length : ∀ {vs : List V} {ts : List Tr}, Reps K H vs ts → vs.length = ts.length
  | [], _, h => by cases h; rfl
  | _ :: _, _, h => by cases h with | cons h r => rw [List.length_cons, List.length_cons, Reps.length r]
theorem Reps.get : ∀ {vs : List V} {ts : List Tr} {i : Nat} {t : Tr}, Reps K H vs ts → ts[i]? = some t → ∃ v, vs[i]? = some v ∧ Rep K H v t
  | [], _, i, t, h, e => by cases h; simp at e
  | _ :: _, _, 0, t, h, e => by cases h with | cons h r => simp at e; subst e; exact ⟨_, rfl, h⟩
  | _ :: _, _, i + 1, t, h, e => by
    cases h with
    | cons h r =>
      obtain ⟨v, e1, r1⟩ := Reps.get (i := i) (t := t) r (by simpa using e)
      exact ⟨v, by simpa using e1, r1⟩
theorem Reps.getV : ∀ {vs : List V} {ts : List Tr} {i : Nat} {v : V}, Reps K H vs ts → vs[i]? = some v → ∃ t, ts[i]? = some t ∧ Rep K H v t
  | [], _, i, t, h, e => by simp at e
  | _ :: _, _, 0, t, h, e => by cases h with | cons h r => simp at e; subst e; exact ⟨_, rfl, h⟩
  | _ :: _, _, i + 1, t, h, e => by
    cases h with
    | cons h r =>
      obtain ⟨v, e1, r1⟩ := Reps.getV (i := i) r (by simpa using e)
      exact ⟨v, by simpa using e1, r1⟩
theorem Reps.append : ∀ {vs ws : List V} {ts us : List Tr}, Reps K H vs ts → Reps K H ws us → Reps K H (vs ++ ws) (ts ++ us)
  | [], _, _, _, h, q => by cases h; exact q
  | _ :: _, _, _, _, h, q => by cases h with | cons h r => exact .cons h (Reps.append r q)
theorem Reps.take : ∀ {vs : List V} {ts : List Tr} (n : Nat), Reps K H vs ts → Reps K H (vs.take n) (ts.take n)
  | _, _, 0, _ => by rw [List.take_zero, List.take_zero]; exact .nil
  | [], _, _ + 1, h => by cases h; exact .nil
  | _ :: _, _, n + 1, h => by cases h with | cons h r => exact .cons h (Reps.take n r)
theorem Reps.drop : ∀ {vs : List V} {ts : List Tr} (n : Nat), Reps K H vs ts → Reps K H (vs.drop n) (ts.drop n)
  | _, _, 0, h => h
  | [], _, _ + 1, h => by cases h; exact .nil
  | _ :: _, _, n + 1, h => by cases h with | cons h r => exact Reps.drop n r
theorem Reps.reverse : ∀ {vs : List V} {ts : List Tr}, Reps K H vs ts → Reps K H vs.reverse ts.reverse
  | [], _, h => by cases h; exact .nil
  | _ :: _, _, h => by
    cases h with
    | cons h r =>
      rw [List.reverse_cons, List.reverse_cons]
      exact (Reps.reverse r).append (.cons h .nil)
theorem Reps.rep {vs : List V} {ts : List Tr} (h : Reps K H vs ts) : ∀ n : Nat, Reps K H (List.replicate n vs).flatten (List.replicate n ts).flatten
  | 0 => .nil
  | n + 1 => by
    rw [List.replicate_succ, List.replicate_succ, List.flatten_cons, List.flatten_cons]
    exact h.append (Reps.rep h n)
theorem reps_strs : ∀ {zs : List Str}, (∀ z ∈ zs, z.length ≤ txMax) → Reps K H (zs.map V.str) (zs.map Tr.str)
  | [], _ => .nil
  | z :: zs, h => .cons (.str z (h z (List.mem_cons_self ..))) (reps_strs fun y hy => h y (List.mem_cons_of_mem _ hy))
theorem reps_ints : ∀ {zs : List Int}, Reps K H (zs.map V.int) (zs.map Tr.int)
  | [] => .nil
  | z :: zs => .cons (.int z) reps_ints
end
/-! ### what is hidden: objects that a def owns while it writes them -/
abbrev Bar := Addr → Bool
def hid (B : Bar) (H : Hp) : Hp := fun b => if B b = true then none else H b
def HB (B : Bar) (H : Hp) : Prop := ∀ b, B b = true → ∃ o, H b = some o
section
variable {B B' : Bar} {H H' : Hp}
theorem hid_at {b : Addr} (h : B b = false) : hid B H b = H b := by unfold hid; rw [h, if_neg Bool.false_ne_true]
theorem hid_sub : Same (hid B H) H := fun b o e => by
  unfold hid at e
  split at e
  · cases e
  · exact e
theorem hid_same (s : Same H H') : Same (hid B H) (hid B H') := fun b o e => by
  unfold hid at e ⊢
  split at e
  · cases e
  · rw [if_neg (by assumption)]; exact s b o e
theorem HB.same (h : HB B H) (s : Same H H') : HB B H' := fun b e => by obtain ⟨o, q⟩ := h b e; exact ⟨o, s b o q⟩
theorem HB.free {p : Addr} (h : HB B H) (hp : H p = none) : B p = false := by
  cases e : B p with
  | false => rfl
  | true => obtain ⟨o, q⟩ := h p e; rw [hp] at q; cases q
theorem HB.new {p : Addr} {o : HO} (h : HB B H) (hp : H p = none) : hid B (upd H p o) p = some o := by rw [hid_at (h.free hp)]; exact upd_same
theorem hid_mono (h : ∀ b, B b = true → B' b = true) : Same (hid B' H) (hid B H) := fun b o e => by
  unfold hid at e ⊢
  split at e
  · cases e
  · rename_i n
    rw [if_neg fun z => n (h b z)]; exact e
end
/-! ### outcomes -/
inductive Rs (α : Type) where
  | bad | ok (a : α) | exc (c : Tr)
def Rs.bind {α β : Type} (r : Rs α) (f : α → Rs β) : Rs β := match r with
  | .ok a => f a
  | .exc c => .exc c
  | .bad => .bad
theorem Rs.bind_ok {α β : Type} (a : α) (f : α → Rs β) : (Rs.ok a).bind f = f a := rfl
/-- how an exception that stands for c lies in the state (none so far) -/
def XA (X : Cx) (c : Tr) (H : Hp) : Prop := False
/-- the outcome r is what k wants; of an exception xc -/
def FiX (xc : Tr → Prop) {α : Type} (r : Rs α) (k : α → Prop) : Prop := match r with
  | .ok a => k a
  | .exc c => xc c
  | .bad => False
def xP (X : Cx) (H : Hp) : Tr → Prop := fun c => ∀ H', Same H H' → XA X c H'
def Fi (X : Cx) (H : Hp) {α : Type} (r : Rs α) (k : α → Prop) : Prop := FiX (xP X H) r k
section
variable {X : Cx} {H H' : Hp} {α β : Type} {r : Rs α} {k k' : α → Prop} {xc xc' : Tr → Prop}
theorem FiX.mono (h : FiX xc r k) (w : ∀ a, k a → k' a) : FiX xc r k' := by
  cases r with
  | ok a => exact w a h
  | exc c => exact h
  | bad => exact h
theorem FiX.imp (h : FiX xc r k) (w : ∀ c, xc c → xc' c) : FiX xc' r k := by
  cases r with
  | ok a => exact h
  | exc c => exact w c h
  | bad => exact h
theorem FiX.bind {f : α → Rs β} {k : β → Prop} (h : FiX xc (r.bind f) k) : FiX xc r fun a => FiX xc (f a) k := by
  cases r with
  | ok a => exact h
  | exc c => exact h
  | bad => exact h
theorem Fi.mono (h : Fi X H r k) (w : ∀ a, k a → k' a) : Fi X H r k' := FiX.mono h w
theorem Fi.same (h : Fi X H r k) (s : Same H H') : Fi X H' r k := FiX.imp h fun _ q H2 s2 => q H2 (s.trans s2)
theorem Fi.bind {f : α → Rs β} {k : β → Prop} (h : Fi X H (r.bind f) k) : Fi X H r fun a => Fi X H (f a) k := FiX.bind h
end
/-! ### the names' trees -/
/-- a name's cell: nothing known, a tree, a list of the def's own that it writes -/
inductive Cell where
  | no | sh (t : Tr) | ow (ts : List Tr)
abbrev Rho := List Cell
structure RepS (K : PySem.W.Frag) (B : Bar) (H : Hp) (σ : St) (ρ : Rho) : Prop where
  len : ρ.length = σ.length
  sh : ∀ (i : Nat) (t : Tr), ρ[i]? = some (.sh t) → ∃ v, σ[i]? = some (some v) ∧ Rep K (hid B H) v t
  ow : ∀ (i : Nat) (ts : List Tr), ρ[i]? = some (.ow ts) → ∃ D ys, σ[i]? = some (some (.ref D)) ∧ B D = true ∧ H D = some (.lst ys) ∧ Reps K (hid B H) ys ts
  ap : ∀ (i j : Nat) (ts us : List Tr) (D : Addr), i ≠ j → ρ[i]? = some (.ow ts) → ρ[j]? = some (.ow us) → σ[i]? = some (some (.ref D)) → σ[j]? ≠ some (some (.ref D))
section
variable {K : PySem.W.Frag} {B B' : Bar} {H H' : Hp} {σ : St} {ρ : Rho}
theorem RepS.same (h : RepS K B H σ ρ) (s : Same H H') : RepS K B H' σ ρ :=
  ⟨h.len, fun i t e => by obtain ⟨v, e1, r⟩ := h.sh i t e; exact ⟨v, e1, r.same (hid_same s)⟩,
    fun i ts e => by obtain ⟨D, ys, e1, e2, e3, r⟩ := h.ow i ts e; exact ⟨D, ys, e1, e2, s _ _ e3, r.same (hid_same s)⟩, h.ap⟩
theorem set_cases {α : Type} {l : List α} {i j : Nat} {x y : α} (e : (l.set i x)[j]? = some y) : (i = j ∧ i < l.length ∧ y = x) ∨ (i ≠ j ∧ l[j]? = some y) := by
  rw [List.getElem?_set] at e
  by_cases hij : i = j
  · rw [if_pos hij] at e
    by_cases hl : i < l.length
    · rw [if_pos hl] at e
      exact .inl ⟨hij, hl, (Option.some.inj e).symm⟩
    · rw [if_neg hl] at e; cases e
  · rw [if_neg hij] at e
    exact .inr ⟨hij, e⟩
theorem RepS.set {v : V} {t : Tr} (h : RepS K B H σ ρ) (i : Nat) (r : Rep K (hid B H) v t) : RepS K B H (σ.set i (some v)) (ρ.set i (.sh t)) := by
  refine ⟨by rw [List.length_set, List.length_set]; exact h.len, fun j u e => ?_, fun j us e => ?_, fun j k us ws D hjk e1 e2 e3 => ?_⟩
  · rcases set_cases e with ⟨rfl, hl, q⟩ | ⟨hij, q⟩
    · cases q
      exact ⟨v, by rw [List.getElem?_set, if_pos rfl, if_pos (by rw [← h.len]; exact hl)], r⟩
    · obtain ⟨w, e1, r1⟩ := h.sh j u q
      exact ⟨w, by rw [List.getElem?_set, if_neg hij]; exact e1, r1⟩
  · rcases set_cases e with ⟨rfl, hl, q⟩ | ⟨hij, q⟩
    · cases q
    · obtain ⟨D, ys, e1, r1⟩ := h.ow j us q
      exact ⟨D, ys, by rw [List.getElem?_set, if_neg hij]; exact e1, r1⟩
  · rcases set_cases e1 with ⟨rfl, hl, q⟩ | ⟨hij, q⟩
    · cases q
    · rcases set_cases e2 with ⟨rfl, hl, q2⟩ | ⟨hik, q2⟩
      · cases q2
      · rw [List.getElem?_set, if_neg hij] at e3
        rw [List.getElem?_set, if_neg hik]
        exact h.ap j k us ws D hjk q q2 e3
end
def startT (n : Nat) (ts : List Tr) : Rho := ts.map Cell.sh ++ List.replicate (n - ts.length) .no
theorem startT_at {n i : Nat} {ts : List Tr} {c : Cell} (e : (startT n ts)[i]? = some c) : c = .no ∨ ∃ t, ts[i]? = some t ∧ c = .sh t := by
  unfold startT at e
  by_cases hi : i < ts.length
  · rw [List.getElem?_append_left (by rw [List.length_map]; exact hi), List.getElem?_map] at e
    cases q : ts[i]? with
    | none => rw [q] at e; cases e
    | some u => rw [q] at e; exact .inr ⟨u, rfl, (Option.some.inj e).symm⟩
  · rw [List.getElem?_append_right (by rw [List.length_map]; omega), List.getElem?_replicate] at e
    split at e
    · exact .inl (Option.some.inj e).symm
    · cases e
theorem RepS.start {K : PySem.W.Frag} {B : Bar} {H : Hp} {N : List Str} {vs : List V} {ts : List Tr} (h : Reps K (hid B H) vs ts) : RepS K B H (start N vs) (startT N.length ts) := by
  have hl := h.length
  refine ⟨by unfold L2.start startT; simp only [List.length_append, List.length_map, List.length_replicate]; omega, fun i t e => ?_, fun i us e => ?_, fun i j us ws D _ e _ _ => ?_⟩
  · rcases startT_at e with q | ⟨u, q, q2⟩
    · cases q
    · cases q2
      obtain ⟨v, e1, r⟩ := h.get q
      have hi : i < vs.length := (List.getElem?_eq_some_iff.mp e1).1
      refine ⟨v, ?_, r⟩
      unfold L2.start
      rw [List.getElem?_append_left (by rw [List.length_map]; exact hi), List.getElem?_map, e1]
      rfl
  · rcases startT_at e with q | ⟨u, q, q2⟩
    · cases q
    · cases q2
  · rcases startT_at e with q | ⟨u, q, q2⟩
    · cases q
    · cases q2
/-! ### what is asked of the text alone -/
def isStar : Expr → Bool
  | .Starred .. => true
  | _ => false
theorem star_cons {e : Expr} (es : List Expr) (env : Env) (h : isStar e = false) : starEach (e :: es) env = (false, eval e env) :: starEach es env := by
  cases e <;> first | rfl | cases h
def noStars (es : List Expr) : Bool := es.all fun e => !isStar e
theorem star_none {pos : Pos} {env : Env} : ∀ {es : List Expr}, noStars es = true → (backTo pos (starEach es env)).any (·.1) = false
  | [], _ => by rw [starEach]; rfl
  | e :: es, h => by
    unfold noStars at h
    rw [List.all_cons, Bool.and_eq_true] at h
    have h1 : isStar e = false := by simpa using h.1
    rw [star_cons es env h1]
    exact star_none (es := es) h.2
theorem star_all {pos : Pos} {env : Env} : ∀ {es : List Expr}, noStars es = true → (backTo pos (starEach es env)).all (fun x => !x.1) = true
  | [], _ => by rw [starEach]; rfl
  | e :: es, h => by
    unfold noStars at h
    rw [List.all_cons, Bool.and_eq_true] at h
    have h1 : isStar e = false := by simpa using h.1
    rw [star_cons es env h1]
    exact star_all (es := es) h.2
theorem stars_head {e : Expr} {es : List Expr} (h : noStars (e :: es) = true) : isStar e = false ∧ noStars es = true := by
  unfold noStars at h
  rw [List.all_cons, Bool.and_eq_true] at h
  exact ⟨by simpa using h.1, h.2⟩
def isComp : Expr → Bool
  | .ListComp .. => true
  | .SetComp .. => true
  | .DictComp .. => true
  | _ => false
theorem swaps_no {e : Expr} {t : Option Expr} {n : Nat} {env : Env} (h : isComp e = false) : swapsWith e t n env = pure false := by
  cases e <;> first | rfl | cases h
def plainTest : Expr → Bool
  | .UnaryOp .. => false
  | .BoolOp .. => false
  | .IfExp .. => false
  | .Compare .. => false
  | _ => true
theorem test_plain {e : Expr} {env : Env} (h : plainTest e = true) : ∀ whole, isTrue e env whole = (do let v ← whole; standAt e.pos; holding [v] (truthy v)) := by
  intro whole
  cases e <;> first | rfl | cases h
def isSet : Expr → Bool
  | .Set .. => true
  | _ => false
theorem folded_no {e : Expr} {env : Env} (h : isSet e = false) : ∀ x, foldedSetIterable e env x = pure x := by
  intro x
  cases e <;> first | rfl | cases h
def isCall : Expr → Bool
  | .Call .. => true
  | _ => false
theorem base_no {o : Expr} {x : Str} {env : Env} {w : Sem Value} (h : isCall o = false) : attributeBase o x env w = w := by
  cases o <;> first | rfl | cases h
/-! ### readings -/
/-- an expression that only reads: F of the names' trees -/
def tP (X : Cx) (F : Rho → Rs Tr) : TE := fun σ H Q => ∃ B ρ, HB B H ∧ RepS X.K B H σ ρ ∧ Fi X H (F ρ) fun t => ∀ v H', Same H H' → Rep X.K (hid B H') v t → Q v H'
def tQ (X : Cx) (F : Rho → Rs Bool) : TT := fun σ H Q => ∃ B ρ, HB B H ∧ RepS X.K B H σ ρ ∧ Fi X H (F ρ) fun b => ∀ H', Same H H' → Q b H'
def tPA (X : Cx) (F : Rho → Rs (List Tr)) : TA := fun σ H Q => ∃ B ρ, HB B H ∧ RepS X.K B H σ ρ ∧ Fi X H (F ρ) fun ts => ∀ vs H', Same H H' → Reps X.K (hid B H') vs ts → Q vs H'
/-- how a statement ends -/
inductive Out where
  | nx (ρ : Rho) | ret (t : Tr) | bk (ρ : Rho) | ct (ρ : Rho)
/-- from (B0, H0) to (B, H): what was seen stays as it was; what is the caller's own (C) too -/
structure Since (C B0 : Bar) (H0 : Hp) (B : Bar) (H : Hp) : Prop where
  kp : ∀ b o, C b = true → H0 b = some o → H b = some o
  vis : Same (hid B0 H0) (hid B H)
  sub : ∀ b, C b = true → B b = true
  hb : HB B H
section
variable {C B0 B B1 B2 : Bar} {H0 H H' H1 H2 : Hp}
theorem Since.go (h : Since C B0 H0 B H) (s : Same H H') : Since C B0 H0 B H' := ⟨fun b o c e => s _ _ (h.kp b o c e), h.vis.trans (hid_same s), h.sub, h.hb.same s⟩
theorem Since.refl (h : HB B H) (c : ∀ b, C b = true → B b = true) : Since C B H B H := ⟨fun _ _ _ e => e, Same.refl _, c, h⟩
theorem Since.trans (h : Since C B0 H0 B1 H1) (q : Since C B1 H1 B2 H2) : Since C B0 H0 B2 H2 := ⟨fun b o c e => q.kp b o c (h.kp b o c e), h.vis.trans q.vis, q.sub, q.hb⟩
/-- at a def's end: all is as it was -/
theorem Since.same (h : Since C C H0 B H) : Same H0 H := fun b o e => by
  cases q : C b with
  | true => exact h.kp b o q e
  | false => exact hid_sub _ _ (h.vis b o (by rw [hid_at q]; exact e))
end
def EndsAt (X : Cx) (D : Ends) (C B0 : Bar) (H0 : Hp) : Out → Prop
  | .nx ρ => ∀ σ' B' H', Since C B0 H0 B' H' → RepS X.K B' H' σ' ρ → D.nx σ' H'
  | .ret t => ∀ v B' H', Since C B0 H0 B' H' → Rep X.K (hid C H') v t → D.rt v H'
  | .bk ρ => ∀ σ' B' H', Since C B0 H0 B' H' → RepS X.K B' H' σ' ρ → D.bk σ' H'
  | .ct ρ => ∀ σ' B' H', Since C B0 H0 B' H' → RepS X.K B' H' σ' ρ → D.ct σ' H'
def xS (X : Cx) (C B0 : Bar) (H0 : Hp) : Tr → Prop := fun c => ∀ B' H', Since C B0 H0 B' H' → XA X c H'
def tS (X : Cx) (G : Rho → Rs Out) : TS := fun D σ H => ∃ C B0 H0 B ρ, Since C B0 H0 B H ∧ RepS X.K B H σ ρ ∧ FiX (xS X C B0 H0) (G ρ) (EndsAt X D C B0 H0)
theorem PE.weak {X : Cx} {e : Expr} {t t' : TE} (h : PE X e t) (w : ∀ σ H Q, t' σ H Q → t σ H Q) : PE X e t' := fun pins s σ H Q I q => h pins s σ H Q I (w σ H Q q)
theorem PT.weak {X : Cx} {e : Expr} {t t' : TT} (h : PT X e t) (w : ∀ σ H Q, t' σ H Q → t σ H Q) : PT X e t' := fun pins s σ H Q I q => h pins s σ H Q I (w σ H Q q)
theorem PW.weak {X : Cx} {e : Expr} {t t' : TT} (h : PW X e t) (w : ∀ σ H Q, t' σ H Q → t σ H Q) : PW X e t' := fun wh pins s σ H Q I q => h wh pins s σ H Q I (w σ H Q q)
theorem PA.weak {X : Cx} {es : List Expr} {t t' : TA} (h : PA X es t) (w : ∀ σ H Q, t' σ H Q → t σ H Q) : PA X es t' := fun pos pins s σ H Q I q => h pos pins s σ H Q I (w σ H Q q)
theorem PS.weak {X : Cx} {st : Stmt} {t t' : TS} (h : PS X st t) (w : ∀ D σ H, t' D σ H → t D σ H) : PS X st t' := fun pins s σ H D I q => h pins s σ H D I (w D σ H q)
theorem PSs.weak {X : Cx} {st : List Stmt} {t t' : TS} (h : PSs X st t) (w : ∀ D σ H, t' D σ H → t D σ H) : PSs X st t' := fun pins s σ H D I q => h pins s σ H D I (w D σ H q)
/-! ### names, constants -/
def getS (ρ : Rho) (i : Nat) : Rs Tr := match ρ[i]? with
  | some (.sh t) => .ok t
  | _ => .bad
theorem getS_rep {X : Cx} {B : Bar} {σ : St} {H : Hp} {ρ : Rho} {i : Nat} {k : Tr → Prop} (r : RepS X.K B H σ ρ) (h : Fi X H (getS ρ i) k) : ∃ v t, σ[i]? = some (some v) ∧ Rep X.K (hid B H) v t ∧ k t := by
  unfold getS at h
  split at h
  · rename_i t e
    obtain ⟨v, e1, r1⟩ := r.sh i t e
    exact ⟨v, t, e1, r1, h⟩
  · exact h.elim
section
variable {X : Cx} {a b c : Expr} {pos : Pos} {F G E : Rho → Rs Tr}
theorem t_var (i : Nat) {x : Str} {pos : Pos} (hN : X.N[i]? = some x := by rfl) (hv : Vis X.env.scope x := by first | exact Or.inl rfl | exact Or.inr (Or.inl rfl) | exact Or.inr (Or.inr rfl)) (hd : (x == ("__debug__" : Str)) = false := by decide)
    (hcd : (x == ("__classdict__" : Str)) = false := by decide) : PE X (.Name x pos) (tP X fun ρ => getS ρ i) :=
  (pe_var hN hv hd hcd).weak fun σ H Q ⟨B, ρ, hb, r, q⟩ => by
    obtain ⟨v, t, e, r1, k⟩ := getS_rep r q
    exact ⟨v, e, k v H (Same.refl H) r1⟩
theorem t_con {v : V} {t : Tr} {e : Expr} (h : PE X e (tC v)) (r : ∀ H, Rep X.K H v t) : PE X e (tP X fun _ => .ok t) :=
  h.weak fun σ H Q ⟨B, ρ, _, _, q⟩ => q v H (Same.refl H) (r _)
theorem t_int {i : Int} {j pos} : PE X (.Constant (.int i) j pos) (tP X fun _ => .ok (.int i)) := t_con pe_int fun H => .int i
theorem t_bl {b : Bool} {j pos} : PE X (.Constant (.bool b) j pos) (tP X fun _ => .ok (.bl b)) := t_con pe_bl fun H => .bl b
theorem t_non {j pos} : PE X (.Constant .none j pos) (tP X fun _ => .ok .non) := t_con pe_non fun H => .non
theorem t_str {z : Str} {j pos} (hz : z.length ≤ txMax := by decide) : PE X (.Constant (.str z) j pos) (tP X fun _ => .ok (.str z)) := t_con pe_str fun H => .str z hz
/-- a constant of the module -/
def GlobT (K : PySem.W.Frag) (mg : Str → Option Value) (x : Str) (t : Tr) : Prop := ∃ v u, mg x = some u ∧ RelV v u ∧ ∀ H, Rep K H v t
theorem t_glob {x : Str} {t : Tr} (g : GlobT X.K X.mg x t) (hg : Gl X x := by rfl) (hd : (x == ("__debug__" : Str)) = false := by decide) : PE X (.Name x pos) (tP X fun _ => .ok t) := by
  obtain ⟨v, u, hm, r, q⟩ := g
  exact t_con (pe_glob hg hm r hd) q
/-- a built-in kind as a value -/
theorem t_ty {x : Str} {n : String} (hm : X.mg x = none) (hv : bootBuiltins x = some (.type n) := by rfl) (hg : Gl X x := by rfl) (hn : x ≠ "__name__" := by decide) (hd : (x == ("__debug__" : Str)) = false := by decide) : PE X (.Name x pos) (tP X fun _ => .ok (.ty n)) :=
  t_con (pe_bltn (v := .ty n) hg hm hv rfl hn hd) fun H => .ty n
/-! ### two-place operations -/
def op2 (h : Tr → Tr → Rs Tr) (a b : Rs Tr) : Rs Tr := a.bind fun x => b.bind fun y => h x y
def rT (X : Cx) (h : Tr → Tr → Rs Tr) : R2 := fun x y H Q => ∃ B tx ty, HB B H ∧ Rep X.K (hid B H) x tx ∧ Rep X.K (hid B H) y ty ∧ Fi X H (h tx ty) fun t => ∀ v H', Same H H' → Rep X.K (hid B H') v t → Q v H'
abbrev OpT (X : Cx) (f : Value → Value → Sem Value) (h : Tr → Tr → Rs Tr) : Prop := OpR X f (rT X h)
theorem op2_read {h : Tr → Tr → Rs Tr} {σ : St} {H : Hp} {Q : VK} (q : tP X (fun ρ => op2 h (F ρ) (G ρ)) σ H Q) : tOp (rT X h) (tP X F) (tP X G) σ H Q := by
  obtain ⟨B, ρ, hb, r, q⟩ := q
  refine ⟨B, ρ, hb, r, q.bind.mono fun x qx v H1 s1 r1 => ⟨B, ρ, hb.same s1, r.same s1, (qx.bind.same s1).mono fun y qy u H2 s2 r2 => ⟨B, x, y, (hb.same s1).same s2, r1.same (hid_same s2), r2, ?_⟩⟩⟩
  exact (qy.same (s1.trans s2)).mono fun t qt w H3 s3 r3 => qt w H3 ((s1.trans s2).trans s3) r3
theorem t_bin {op : Operator} {h : Tr → Tr → Rs Tr} (ho : OpT X (binaryOp op) h) (ha : PE X a (tP X F)) (hb : PE X b (tP X G)) : PE X (.BinOp a op b pos) (tP X fun ρ => op2 h (F ρ) (G ρ)) :=
  (pe_op ho ha hb).weak fun _ _ _ q => op2_read q
theorem t_cmp {op : CmpOp} {h : Tr → Tr → Rs Tr} (ho : OpT X (compareOp op) h) (ha : PE X a (tP X F)) (hb : PE X b (tP X G)) (hm : behindInMarks op b = false := by first | exact nomark _ | rfl | with_unfolding_all rfl) : PE X (.Compare a [op] [b] pos) (tP X fun ρ => op2 h (F ρ) (G ρ)) :=
  (pe_cmpR ho ha hb hm).weak fun _ _ _ q => op2_read q
/-! ### tests -/
def asB (r : Rs Tr) : Rs Bool := r.bind fun t => match t with
  | .bl b => .ok b
  | _ => .bad
theorem Rep.bl_inv {K : PySem.W.Frag} {H : Hp} {v : V} {b : Bool} (h : Rep K H v (.bl b)) : v = .bl b := by cases h; rfl
theorem asB_fin {H : Hp} {r : Rs Tr} {k : Bool → Prop} (h : Fi X H (asB r) k) : Fi X H r fun t => ∃ b, t = .bl b ∧ k b := by
  refine h.bind.mono fun t q => ?_
  cases t with
  | bl b => exact ⟨b, rfl, q⟩
  | _ => exact q.elim
theorem q_cmp {op : CmpOp} {h : Tr → Tr → Rs Tr} (ho : OpT X (compareOp op) h) (ha : PE X a (tP X F)) (hb : PE X b (tP X G)) (hm : behindInMarks op b = false := by first | exact nomark _ | rfl | with_unfolding_all rfl) : PT X (.Compare a [op] [b] pos) (tQ X fun ρ => asB (op2 h (F ρ) (G ρ))) :=
  (pt_cmpR ho ha hb hm).weak fun σ H Q ⟨B, ρ, hb, r, q⟩ => by
    refine op2_read (Q := fun x H' => ∃ k, x = .bl k ∧ Q k H') ⟨B, ρ, hb, r, (asB_fin q).mono fun t qt v H' s' r' => ?_⟩
    obtain ⟨b, rfl, k⟩ := qt
    exact ⟨b, r'.bl_inv, k H' s'⟩
def truT : Tr → Rs Bool
  | .non => .ok false
  | .bl b => .ok b
  | .int i => .ok (i != 0)
  | .str z => .ok ((z.length : Int) != 0)
  | .tup ts => .ok (!ts.isEmpty)
  | .lst ts => .ok (!ts.isEmpty)
  | .dic kts => .ok (!kts.isEmpty)
  | _ => .bad
theorem Reps.isEmpty {K : PySem.W.Frag} {H : Hp} {vs : List V} {ts : List Tr} (h : Reps K H vs ts) : vs.isEmpty = ts.isEmpty := by cases h <;> rfl
theorem tx_line : txMax ≤ sizeLine := by rw [sizeLine_eq]; decide
theorem truT_ok {K : PySem.W.Frag} {H : Hp} {v : V} {t : Tr} {b : Bool} (r : Rep K H v t) (e : truT t = .ok b) : TruV K v H b := by
  cases r with
  | non => cases e; rfl
  | bl c => cases e; rfl
  | int i => cases e; rfl
  | str z h => cases e; exact ⟨Nat.le_trans h tx_line, rfl⟩
  | ty n => cases e
  | tup h r => cases e; exact .inr (.inl ⟨_, h, by rw [r.isEmpty]⟩)
  | lst h r => cases e; exact .inl ⟨_, .of h, by rw [r.isEmpty]⟩
  | scr h => cases e
  | dic h e1 r =>
    cases e
    refine .inr (.inr ⟨_, h, ?_⟩)
    rename_i kvs kts
    cases kvs <;> cases kts <;> first | rfl | cases e1
theorem truT_fin {H : Hp} {v : V} {t : Tr} {k : Bool → Prop} (r : Rep X.K H v t) (h : Fi X H (truT t) k) : ∃ b, TruV X.K v H b ∧ k b := by
  cases e : truT t with
  | ok b => rw [e] at h; exact ⟨b, truT_ok r e, h⟩
  | exc c => cases t <;> cases e
  | bad => rw [e] at h; exact h.elim
theorem q_val (ha : PE X a (tP X F)) (he : plainTest a = true := by rfl) : PT X a (tQ X fun ρ => (F ρ).bind truT) :=
  (pt_truth ha (test_plain he)).weak fun σ H Q ⟨B, ρ, hb, r, q⟩ => ⟨B, ρ, hb, r, q.bind.mono fun t qt v H' s' r' => by
    obtain ⟨b, h1, h2⟩ := truT_fin (r'.same hid_sub) (qt.same s')
    exact ⟨b, h1, h2 H' s'⟩⟩
def notB (r : Rs Bool) : Rs Bool := r.bind fun b => .ok (!b)
variable {A B : Rho → Rs Bool} {rest : List Expr}
theorem q_not (ha : PT X a (tQ X A)) : PT X (.UnaryOp .Not a pos) (tQ X fun ρ => notB (A ρ)) :=
  (pt_not ha).weak fun σ H Q ⟨B, ρ, hb, r, q⟩ => ⟨B, ρ, hb, r, q.bind⟩
def andB (a b : Rs Bool) : Rs Bool := a.bind fun c => if c then b else .ok false
def orB (a b : Rs Bool) : Rs Bool := a.bind fun c => if c then .ok true else b
theorem w_and1 (ha : PT X a (tQ X A)) : PW X (.BoolOp .And [a] pos) (tQ X A) := pw_and1 ha
theorem w_or1 (ha : PT X a (tQ X A)) : PW X (.BoolOp .Or [a] pos) (tQ X A) := pw_or1 ha
theorem w_and (ha : PT X a (tQ X A)) (hb : PW X (.BoolOp .And (b :: rest) pos) (tQ X B)) : PW X (.BoolOp .And (a :: b :: rest) pos) (tQ X fun ρ => andB (A ρ) (B ρ)) :=
  (pw_and ha hb).weak fun σ H Q ⟨Bb, ρ, hb, r, q⟩ => ⟨Bb, ρ, hb, r, q.bind.mono fun c qc H1 s1 => by
    cases c with
    | true => exact ⟨Bb, ρ, hb.same s1, r.same s1, (Fi.same qc s1).mono fun b qb H2 s2 => qb H2 (s1.trans s2)⟩
    | false => exact qc H1 s1⟩
theorem w_or (ha : PT X a (tQ X A)) (hb : PW X (.BoolOp .Or (b :: rest) pos) (tQ X B)) : PW X (.BoolOp .Or (a :: b :: rest) pos) (tQ X fun ρ => orB (A ρ) (B ρ)) :=
  (pw_or ha hb).weak fun σ H Q ⟨Bb, ρ, hb, r, q⟩ => ⟨Bb, ρ, hb, r, q.bind.mono fun c qc H1 s1 => by
    cases c with
    | false => exact ⟨Bb, ρ, hb.same s1, r.same s1, (Fi.same qc s1).mono fun b qb H2 s2 => qb H2 (s1.trans s2)⟩
    | true => exact qc H1 s1⟩
theorem q_bool {op} {es : List Expr} (h : PW X (.BoolOp op es pos) (tQ X A)) : PT X (.BoolOp op es pos) (tQ X A) := h.pt
/-- and, or as values -/
def andV (a b : Rs Tr) : Rs Tr := a.bind fun t => (truT t).bind fun c => if c then b else .ok t
def orV (a b : Rs Tr) : Rs Tr := a.bind fun t => (truT t).bind fun c => if c then .ok t else b
theorem t_and (ha : PE X a (tP X F)) (hb : PE X (.BoolOp .And (b :: rest) pos) (tP X G)) : PE X (.BoolOp .And (a :: b :: rest) pos) (tP X fun ρ => andV (F ρ) (G ρ)) := by
  intro pins s σ H Q I ⟨B, ρ, hB, r, q⟩
  refine BoolOp_and (thn (ha pins s σ H _ I ⟨B, ρ, hB, r, q.bind.mono fun t qt v H1 s1 r1 => (show ∃ t, Rep X.K (hid B H1) v t ∧ Same H H1 ∧ Fi X H ((truT t).bind fun c => if c then G ρ else .ok t) (fun t => ∀ v H', Same H H' → Rep X.K (hid B H') v t → Q v H') from ⟨t, r1, s1, qt⟩)⟩) fun v s1 ⟨x, H1, I1, r1, t, rt, sm, qt⟩ => ?_)
  obtain ⟨c, h1, h2⟩ := truT_fin (rt.same hid_sub) (qt.bind.same sm)
  refine thn (tru_ok pins s1 σ H1 x v (fun k H' => k = c ∧ H' = H1) I1 r1 ⟨c, h1, rfl, rfl⟩) fun k s2 ⟨H2, I2, e1, e2⟩ => ?_
  subst e1 e2
  cases k with
  | true => exact hb pins s2 σ _ Q I2 ⟨B, ρ, hB.same sm, r.same sm, (Fi.same h2 sm).mono fun t q v H' s' r' => q v H' (sm.trans s') r'⟩
  | false => exact ⟨x, _, I2, r1, h2 x _ sm rt⟩
theorem t_or (ha : PE X a (tP X F)) (hb : PE X (.BoolOp .Or (b :: rest) pos) (tP X G)) : PE X (.BoolOp .Or (a :: b :: rest) pos) (tP X fun ρ => orV (F ρ) (G ρ)) := by
  intro pins s σ H Q I ⟨B, ρ, hB, r, q⟩
  refine BoolOp_or (thn (ha pins s σ H _ I ⟨B, ρ, hB, r, q.bind.mono fun t qt v H1 s1 r1 => (show ∃ t, Rep X.K (hid B H1) v t ∧ Same H H1 ∧ Fi X H ((truT t).bind fun c => if c then .ok t else G ρ) (fun t => ∀ v H', Same H H' → Rep X.K (hid B H') v t → Q v H') from ⟨t, r1, s1, qt⟩)⟩) fun v s1 ⟨x, H1, I1, r1, t, rt, sm, qt⟩ => ?_)
  obtain ⟨c, h1, h2⟩ := truT_fin (rt.same hid_sub) (qt.bind.same sm)
  refine thn (tru_ok pins s1 σ H1 x v (fun k H' => k = c ∧ H' = H1) I1 r1 ⟨c, h1, rfl, rfl⟩) fun k s2 ⟨H2, I2, e1, e2⟩ => ?_
  subst e1 e2
  cases k with
  | false => exact hb pins s2 σ _ Q I2 ⟨B, ρ, hB.same sm, r.same sm, (Fi.same h2 sm).mono fun t q v H' s' r' => q v H' (sm.trans s') r'⟩
  | true => exact ⟨x, _, I2, r1, h2 x _ sm rt⟩
theorem t_one {op} (h : PE X a (tP X F)) : PE X (.BoolOp op [a] pos) (tP X F) := pe_one h
def blR (r : Rs Bool) : Rs Tr := r.bind fun b => .ok (.bl b)
theorem t_not (ha : PE X a (tP X F)) : PE X (.UnaryOp .Not a pos) (tP X fun ρ => blR (notB ((F ρ).bind truT))) :=
  (pe_notT ha).weak fun σ H Q ⟨B, ρ, hb, r, q⟩ => ⟨B, ρ, hb, r, q.bind.bind.bind.mono fun t qt v H1 s1 r1 => by
    obtain ⟨b, h1, h2⟩ := truT_fin (r1.same hid_sub) (qt.same s1)
    exact ⟨b, h1, h2 _ H1 s1 (.bl _)⟩⟩
def iteR (c : Rs Bool) (a b : Rs Tr) : Rs Tr := c.bind fun k => if k then a else b
theorem t_if (hc : PT X c (tQ X A)) (ha : PE X a (tP X F)) (hb : PE X b (tP X G)) : PE X (.IfExp c a b pos) (tP X fun ρ => iteR (A ρ) (F ρ) (G ρ)) :=
  (pe_ifExp hc ha hb).weak fun σ H Q ⟨B, ρ, hb, r, q⟩ => ⟨B, ρ, hb, r, q.bind.mono fun k qk H1 s1 => by
    cases k with
    | true => exact ⟨B, ρ, hb.same s1, r.same s1, (Fi.same qk s1).mono fun t q v H2 s2 r2 => q v H2 (s1.trans s2) r2⟩
    | false => exact ⟨B, ρ, hb.same s1, r.same s1, (Fi.same qk s1).mono fun t q v H2 s2 r2 => q v H2 (s1.trans s2) r2⟩⟩
/-- a chain of two comparisons -/
def chnR (h h' : Tr → Tr → Rs Tr) (a b c : Rs Tr) : Rs Tr := a.bind fun x => b.bind fun y => (asB (h x y)).bind fun k => if k then c.bind fun z => h' y z else .ok (.bl false)
theorem chn_read {h h' : Tr → Tr → Rs Tr} {σ : St} {H : Hp} {Q : VK} (q : tP X (fun ρ => chnR h h' (F ρ) (G ρ) (E ρ)) σ H Q) : tChain (rT X h) (rT X h') (tP X F) (tP X G) (tP X E) σ H Q := by
  obtain ⟨B, ρ, hb, r, q⟩ := q
  refine ⟨B, ρ, hb, r, q.bind.mono fun x qx v H1 s1 r1 => ⟨B, ρ, hb.same s1, r.same s1, (qx.bind.same s1).mono fun y qy u H2 s2 r2 => ⟨B, x, y, hb.same (s1.trans s2), r1.same (hid_same s2), r2, ?_⟩⟩⟩
  have s12 := s1.trans s2
  refine (asB_fin (qy.bind.same s12)).mono fun t qt w H3 s3 r3 => ?_
  obtain ⟨k, rfl, qk⟩ := qt
  have s13 := s12.trans s3
  refine ⟨k, r3.bl_inv, ?_⟩
  cases k with
  | false => exact iteF (qk _ _ s13 (.bl false))
  | true =>
    refine iteT ⟨B, ρ, hb.same s13, r.same s13, ((Fi.bind qk).same s13).mono fun z qz v4 H4 s4 r4 => ⟨B, y, z, hb.same (s13.trans s4), r2.same (hid_same (s3.trans s4)), r4, ?_⟩⟩
    exact (qz.same (s13.trans s4)).mono fun t qt v5 H5 s5 r5 => qt v5 H5 ((s13.trans s4).trans s5) r5
theorem t_chain {op op' : CmpOp} {h h' : Tr → Tr → Rs Tr} (ho : OpT X (compareOp op) h) (ho' : OpT X (compareOp op') h') (ha : PE X a (tP X F)) (hb : PE X b (tP X G)) (hc : PE X c (tP X E))
    (hm : lastMarks [op, op'] [b, c] = false := by with_unfolding_all rfl) : PE X (.Compare a [op, op'] [b, c] pos) (tP X fun ρ => chnR h h' (F ρ) (G ρ) (E ρ)) :=
  (pe_chain ho ho' ha hb hc hm).weak fun _ _ _ q => chn_read q
theorem q_chain {op op' : CmpOp} {h h' : Tr → Tr → Rs Tr} (ho : OpT X (compareOp op) h) (ho' : OpT X (compareOp op') h') (ha : PE X a (tP X F)) (hb : PE X b (tP X G)) (hc : PE X c (tP X E))
    (hm : lastMarks [op, op'] [b, c] = false := by with_unfolding_all rfl) : PT X (.Compare a [op, op'] [b, c] pos) (tQ X fun ρ => asB (chnR h h' (F ρ) (G ρ) (E ρ))) :=
  (pt_chain ho ho' ha hb hc hm).weak fun σ H Q ⟨B, ρ, hb, r, q⟩ => by
    refine chn_read (Q := fun x H' => ∃ k, x = .bl k ∧ Q k H') ⟨B, ρ, hb, r, (asB_fin q).mono fun t qt v H' s' r' => ?_⟩
    obtain ⟨b, rfl, k⟩ := qt
    exact ⟨b, r'.bl_inv, k H' s'⟩
/-! ### argument lists, displays -/
variable {es : List Expr} {L : Rho → Rs (List Tr)}
def consR (a : Rs Tr) (l : Rs (List Tr)) : Rs (List Tr) := a.bind fun x => l.bind fun xs => .ok (x :: xs)
theorem l_nil : PA X [] (tPA X fun _ => .ok []) := pa_nil.weak fun σ H Q ⟨B, ρ, hb, r, q⟩ => q [] H (Same.refl H) .nil
theorem l_cons (ha : PE X a (tP X F)) (hr : PA X es (tPA X L)) (hs : isStar a = false := by rfl) : PA X (a :: es) (tPA X fun ρ => consR (F ρ) (L ρ)) :=
  (pa_cons ha hr (star_cons _ _ hs)).weak fun σ H Q ⟨B, ρ, hb, r, q⟩ => ⟨B, ρ, hb, r, q.bind.mono fun x qx v H1 s1 r1 => ⟨B, ρ, hb.same s1, r.same s1, (qx.bind.same s1).mono fun xs qs vs H2 s2 r2 => qs _ H2 (s1.trans s2) (.cons (r1.same (hid_same s2)) r2)⟩⟩
def szT : Nat := 16777216
theorem szT_eq : szT = sizeLine := sizeLine_eq.symm
def tupR (l : Rs (List Tr)) : Rs Tr := l.bind fun ts => if ts.length ≤ szT then .ok (.tup ts) else .bad
def lstR (l : Rs (List Tr)) : Rs Tr := l.bind fun ts => if ts.length ≤ szT then .ok (.lst ts) else .bad
theorem t_tup {x1} (h : PA X es (tPA X L)) : PE X (.Tuple es x1 pos) (tP X fun ρ => tupR (L ρ)) :=
  (pe_tup h).weak fun σ H Q ⟨B, ρ, hb, r, q⟩ => ⟨B, ρ, hb, r, q.bind.mono fun ts qt vs H1 s1 r1 => by
    by_cases hz : ts.length ≤ szT
    · rw [if_pos hz] at qt
      refine ⟨by rw [r1.length, ← szT_eq]; exact hz, fun p hp => qt (.ref p) _ (s1.upd' (s1.free hp)) (.tup (.of ((hb.same s1).new hp)) (r1.same (hid_same (Same.upd hp))))⟩
    · rw [if_neg hz] at qt; exact qt.elim⟩
theorem t_lst (h : PA X es (tPA X L)) : PE X (.List es pos) (tP X fun ρ => lstR (L ρ)) :=
  (pe_lst h).weak fun σ H Q ⟨B, ρ, hb, r, q⟩ => ⟨B, ρ, hb, r, q.bind.mono fun ts qt vs H1 s1 r1 => by
    by_cases hz : ts.length ≤ szT
    · rw [if_pos hz] at qt
      refine ⟨by rw [r1.length, ← szT_eq]; exact hz, fun p hp => qt (.ref p) _ (s1.upd' (s1.free hp)) (.lst ((hb.same s1).new hp) (r1.same (hid_same (Same.upd hp))))⟩
    · rw [if_neg hz] at qt; exact qt.elim⟩
/-! ### calls of what is known -/
def callR (h : List Tr → Rs Tr) (l : Rs (List Tr)) : Rs Tr := l.bind h
def rC (X : Cx) (h : List Tr → Rs Tr) : List V → Hp → VK → Prop := fun xs H Q => ∃ B ts, HB B H ∧ Reps X.K (hid B H) xs ts ∧ Fi X H (h ts) fun t => ∀ v H', Same H H' → Rep X.K (hid B H') v t → Q v H'
abbrev CallT (X : Cx) (f : Value) (h : List Tr → Rs Tr) : Prop := CallR X f (rC X h)
theorem call_read {h : List Tr → Rs Tr} {σ : St} {H : Hp} {Q : VK} (q : tP X (fun ρ => callR h (L ρ)) σ H Q) : tCB (rC X h) (tPA X L) σ H Q := by
  obtain ⟨B, ρ, hb, r, q⟩ := q
  exact ⟨B, ρ, hb, r, q.bind.mono fun ts qt vs H1 s1 r1 => ⟨B, ts, hb.same s1, r1, (qt.same s1).mono fun t qt v H2 s2 r2 => qt v H2 (s1.trans s2) r2⟩⟩
theorem t_callB {id : String} {x : Str} {p : Pos} {e : Expr} {h : List Tr → Rs Tr} (hc : CallT X (.builtin id) h) (hm : X.mg x = none) (ha : PA X (e :: es) (tPA X L)) (hv : bootBuiltins x = some (.builtin id) := by rfl) (hg : Gl X x := by rfl) (hn : x ≠ "__name__" := by decide) (hdb : (x == ("__debug__" : Str)) = false := by decide)
    (hst : noStars (e :: es) = true := by rfl) : PE X (.Call (.Name x p) (e :: es) [] pos) (tP X fun ρ => callR h (L ρ)) :=
  (pe_callB hc hg hm hv ha hn hdb (star_cons _ _ (stars_head hst).1) (star_none (stars_head hst).2)).weak fun _ _ _ q => call_read q
theorem t_callTy {T : String} {x : Str} {p : Pos} {e : Expr} {h : List Tr → Rs Tr} (hc : CallT X (.type T) h) (hm : X.mg x = none) (ha : PA X (e :: es) (tPA X L)) (hv : bootBuiltins x = some (.type T) := by rfl) (hg : Gl X x := by rfl) (hn : x ≠ "__name__" := by decide) (hdb : (x == ("__debug__" : Str)) = false := by decide)
    (hst : noStars (e :: es) = true := by rfl) : PE X (.Call (.Name x p) (e :: es) [] pos) (tP X fun ρ => callR h (L ρ)) :=
  (pe_callTy hc hg hm hv ha hn hdb (star_cons _ _ (stars_head hst).1) (star_none (stars_head hst).2)).weak fun _ _ _ q => call_read q
/-- a def's promise: f of the arguments' trees -/
def spT (K : PySem.W.Frag) (f : List Tr → Rs Tr) : Sp := fun vs H Q _ => ∃ B ts, HB B H ∧ Reps K (hid B H) vs ts ∧ ∃ t, f ts = .ok t ∧ ∀ v H', Same H H' → Rep K (hid B H') v t → Q v H'
theorem t_def {x : Str} {st : Stmt} {ps : List Str} {f : Addr} {fd : FuncData} {k : Nat} {h : List Tr → Rs Tr} {e : Expr} {p : Pos} (D : DefAt X.K X.mg x st ps f fd) (G : FnOk X.prog X.w X.K X.mg X.base CX0 k f fd ps (spT X.K h)) (hr : Room k X.A)
    (ha : PA X (e :: es) (tPA X L)) (hg : Gl X x := by rfl) (hdb : (x == ("__debug__" : Str)) = false := by decide) (hst : noStars (e :: es) = true := by rfl) : PE X (.Call (.Name x p) (e :: es) [] pos) (tP X fun ρ => callR h (L ρ)) :=
  (pe_def D G hr ha hg hdb (star_cons _ _ (stars_head hst).1) (star_none (stars_head hst).2)).weak fun σ H Q ⟨B, ρ, hb, r, q⟩ => ⟨B, ρ, hb, r, q.bind.mono fun ts qt vs H1 s1 r1 => by
    cases e : h ts with
    | ok t => rw [e] at qt; exact ⟨B, ts, hb.same s1, by rw [List.append_nil]; exact r1, t, e, fun v H2 s2 r2 => qt v H2 (s1.trans s2) r2⟩
    | exc c => rw [e] at qt; exact (qt _ (Same.refl _)).elim
    | bad => rw [e] at qt; exact qt.elim⟩
end
end L2

namespace L2
open PySem PySem.Spec PyProof.Rows
/-! ### statements -/
section
variable {X : Cx} {a b c e : Expr} {pos : Pos} {F : Rho → Rs Tr} {G G' : Rho → Rs Out} {A : Rho → Rs Bool} {st : Stmt} {rest sts : List Stmt}
def seqO (r : Rs Out) (G : Rho → Rs Out) : Rs Out := r.bind fun o => match o with
  | .nx ρ => G ρ
  | .ret t => .ok (.ret t)
  | .bk ρ => .ok (.bk ρ)
  | .ct ρ => .ok (.ct ρ)
theorem s_nil : PSs X [] (tS X fun ρ => .ok (.nx ρ)) := pss_nil.weak fun D σ H ⟨C, B0, H0, B, ρ, si, r, q⟩ => q σ B H si r
theorem s_cons (h1 : PS X st (tS X G)) (h2 : PSs X rest (tS X G')) : PSs X (st :: rest) (tS X fun ρ => seqO (G ρ) G') :=
  (pss_cons h1 h2).weak fun D σ H ⟨C, B0, H0, B, ρ, si, r, q⟩ => ⟨C, B0, H0, B, ρ, si, r, q.bind.mono fun o qo => by
    cases o with
    | nx ρ' => exact fun σ' B' H' si' r' => ⟨C, B0, H0, B', ρ', si', r', qo⟩
    | ret t => exact qo
    | bk ρ' => exact qo
    | ct ρ' => exact qo⟩
theorem s_one (h1 : PS X st (tS X G)) : PSs X [st] (tS X G) := pss_one h1
theorem s_pass : PS X (.Pass pos) (tS X fun ρ => .ok (.nx ρ)) := ps_pass.weak fun D σ H ⟨C, B0, H0, B, ρ, si, r, q⟩ => q σ B H si r
theorem s_doc {x j pos pos'} : PS X (.Expr (.Constant (.str x) j pos) pos') (tS X fun ρ => .ok (.nx ρ)) := ps_doc.weak fun D σ H ⟨C, B0, H0, B, ρ, si, r, q⟩ => q σ B H si r
theorem s_break : PS X (.Break pos) (tS X fun ρ => .ok (.bk ρ)) := ps_break.weak fun D σ H ⟨C, B0, H0, B, ρ, si, r, q⟩ => q σ B H si r
theorem s_continue : PS X (.Continue pos) (tS X fun ρ => .ok (.ct ρ)) := ps_continue.weak fun D σ H ⟨C, B0, H0, B, ρ, si, r, q⟩ => q σ B H si r
def setO (i : Nat) (r : Rs Tr) (ρ : Rho) : Rs Out := r.bind fun t => .ok (.nx (ρ.set i (.sh t)))
/-- an expression within a statement -/
theorem FiX.here {α : Type} {C B0 B : Bar} {H0 H : Hp} {r : Rs α} {k : α → Prop} (h : FiX (xS X C B0 H0) r k) (si : Since C B0 H0 B H) : Fi X H r k := h.imp fun _ q H' s' => q B H' (si.go s')
theorem tP_in {C B0 B : Bar} {H0 H : Hp} {σ : St} {ρ : Rho} {k : Tr → Prop} (si : Since C B0 H0 B H) (r : RepS X.K B H σ ρ) (q : FiX (xS X C B0 H0) (F ρ) k) {Q : VK} (hq : ∀ t v H', k t → Same H H' → Since C B0 H0 B H' → RepS X.K B H' σ ρ → Rep X.K (hid B H') v t → Q v H') : tP X F σ H Q :=
  ⟨B, ρ, si.hb, r, (q.here si).mono fun t qt v H' s' r' => hq t v H' qt s' (si.go s') (r.same s') r'⟩
theorem tQ_in {C B0 B : Bar} {H0 H : Hp} {σ : St} {ρ : Rho} {k : Bool → Prop} (si : Since C B0 H0 B H) (r : RepS X.K B H σ ρ) (q : FiX (xS X C B0 H0) (A ρ) k) {Q : Bool → Hp → Prop} (hq : ∀ b H', k b → Same H H' → Since C B0 H0 B H' → RepS X.K B H' σ ρ → Q b H') : tQ X A σ H Q :=
  ⟨B, ρ, si.hb, r, (q.here si).mono fun b qb H' s' => hq b H' qb s' (si.go s') (r.same s')⟩
theorem Rep.out {K : PySem.W.Frag} {C B0 B : Bar} {H0 H : Hp} {v : V} {t : Tr} (r : Rep K (hid B H) v t) (si : Since C B0 H0 B H) : Rep K (hid C H) v t := r.same (hid_mono si.sub)
theorem s_set {i : Nat} {x : Str} {pos' : Pos} (he : PE X e (tP X F)) (hN : X.N.Nodup := by assumption) (hi : X.N[i]? = some x := by rfl) (hx : Loc X.env.scope x := by first | exact Or.inl rfl | exact Or.inr rfl) (hs : isComp e = false := by rfl) (hf : X.fn x = true ∨ X.env.scope.names.lookup x = some .local := by first | exact .inl rfl | exact .inr rfl | assumption) :
    PS X (.Assign [.Name x pos'] e pos) (tS X fun ρ => setO i (F ρ) ρ) :=
  (ps_set hN hi hx he (swaps_no hs) hf).weak fun D σ H ⟨C, B0, H0, B, ρ, si, r, q⟩ => tP_in si r q.bind fun t v H1 qt s1 si1 r1 rv => qt _ B H1 si1 (r1.set i rv)
def retO (r : Rs Tr) : Rs Out := r.bind fun t => .ok (.ret t)
theorem s_ret (he : PE X e (tP X F)) : PS X (.Return (some e) pos) (tS X fun ρ => retO (F ρ)) :=
  (ps_ret he).weak fun D σ H ⟨C, B0, H0, B, ρ, si, r, q⟩ => tP_in si r q.bind fun t v H1 qt s1 si1 r1 rv => qt v B H1 si1 (rv.out si1)
theorem s_retN : PS X (.Return none pos) (tS X fun _ => .ok (.ret .non)) :=
  ps_retN.weak fun D σ H ⟨C, B0, H0, B, ρ, si, r, q⟩ => q .non B H si .non
def dropO (r : Rs Tr) (ρ : Rho) : Rs Out := r.bind fun _ => .ok (.nx ρ)
theorem s_expr (he : PE X e (tP X F)) (hs : isComp e = false := by rfl) : PS X (.Expr e pos) (tS X fun ρ => dropO (F ρ) ρ) :=
  (ps_expr he (swaps_no hs)).weak fun D σ H ⟨C, B0, H0, B, ρ, si, r, q⟩ => tP_in si r q.bind fun t v H1 qt s1 si1 r1 rv => qt _ B H1 si1 r1
def ifO (c : Rs Bool) (a b : Rs Out) : Rs Out := c.bind fun k => if k then a else b
theorem s_if {ys ns : List Stmt} (hc : PT X c (tQ X A)) (ha : PSs X ys (tS X G)) (hb : PSs X ns (tS X G')) : PS X (.If c ys ns pos) (tS X fun ρ => ifO (A ρ) (G ρ) (G' ρ)) :=
  (ps_if hc ha hb).weak fun D σ H ⟨C, B0, H0, B, ρ, si, r, q⟩ => tQ_in si r q.bind fun k H1 qk s1 si1 r1 => by
    cases k with
    | true => exact iteT ⟨C, B0, H0, B, ρ, si1, r1, qk⟩
    | false => exact iteF ⟨C, B0, H0, B, ρ, si1, r1, qk⟩
/-- a, b = x, y -/
def parO (i j : Nat) (l : Rs (List Tr)) (ρ : Rho) : Rs Out := l.bind fun ts => match ts with
  | [x, y] => .ok (.nx ((ρ.set i (.sh x)).set j (.sh y)))
  | _ => .bad
theorem s_par {i j : Nat} {x y : Str} {px py pt : Pos} {kt k2 pt2} {L : Rho → Rs (List Tr)} (ha : PA X [a, b] (tPA X L)) (hN : X.N.Nodup := by assumption) (hc : X.calm = true := by rfl) (hi : X.N[i]? = some x := by rfl) (hj : X.N[j]? = some y := by rfl) (hij : i ≠ j := by decide)
    (hx : X.env.scope.names.lookup x = some .local := by rfl) (hy : X.env.scope.names.lookup y = some .local := by rfl)
    (hw : swappedStores [.Tuple [.Name x px, .Name y py] kt pt] (.Tuple [a, b] k2 pt2) X.env = pure (some [x, y]) := by rfl)
    (hs : swapsWithSole [.Tuple [.Name x px, .Name y py] kt pt] (.Tuple [a, b] k2 pt2) pos.line X.env = pure false := by rfl) :
    PS X (.Assign [.Tuple [.Name x px, .Name y py] kt pt] (.Tuple [a, b] k2 pt2) pos) (tS X fun ρ => parO i j (L ρ) ρ) :=
  (ps_par hc hN hi hj hij hx hy ha hw hs).weak fun D σ H ⟨C, B0, H0, B, ρ, si, r, q⟩ => ⟨B, ρ, si.hb, r, (q.bind.here si).mono fun ts qt vs H1 s1 rs => by
    match ts, rs, qt with
    | [t1, t2], .cons r1 (.cons r2 .nil), qt => exact ⟨_, _, rfl, qt _ B H1 (si.go s1) (((r.same s1).set i r1).set j r2)⟩
    | [], _, qt => exact qt.elim
    | [_], _, qt => exact qt.elim
    | _ :: _ :: _ :: _, _, qt => exact qt.elim⟩
/-! ### targets -/
abbrev Tgt := Tr → Rho → Rs Rho
def tG (X : Cx) (T : Tgt) : TG := fun v σ H Q => ∃ B ρ t, HB B H ∧ RepS X.K B H σ ρ ∧ Rep X.K (hid B H) v t ∧ Fi X H (T t ρ) fun ρ' => ∀ σ' H', Same H H' → RepS X.K B H' σ' ρ' → Q σ' H'
def gN (i : Nat) : Tgt := fun t ρ => .ok (ρ.set i (.sh t))
theorem g_name (i : Nat) {x : Str} (hN : X.N.Nodup := by assumption) (hi : X.N[i]? = some x := by rfl) (hx : Loc X.env.scope x := by first | exact Or.inl rfl | exact Or.inr rfl) (hf : X.fn x = true ∨ X.env.scope.names.lookup x = some .local := by first | exact .inl rfl | exact .inr rfl | assumption) : PG X (.Name x pos) (tG X (gN i)) := by
  intro pins s σ H v u Q I r ⟨B, ρ, t, hb, rs, rt, q⟩
  exact pg_name hN hi hx hf pins s σ H v u Q I r (q _ H (Same.refl H) (rs.set i rt))
/-- several names -/
def gNs : List Nat → List Tr → Rho → Rs Rho
  | [], [], ρ => .ok ρ
  | i :: is, t :: ts, ρ => gNs is ts (ρ.set i (.sh t))
  | _, _, _ => .bad
def tGs (X : Cx) (T : List Tr → Rho → Rs Rho) : TGs := fun vs σ H Q => ∃ B ρ ts, HB B H ∧ RepS X.K B H σ ρ ∧ Reps X.K (hid B H) vs ts ∧ Fi X H (T ts ρ) fun ρ' => ∀ σ' H', Same H H' → RepS X.K B H' σ' ρ' → Q σ' H'
theorem g_nil : PGs X [] (tGs X (gNs [])) := by
  intro pins s σ H vs us Q I r ⟨B, ρ, ts, hb, rs, rt, q⟩
  match ts, rt, q with
  | [], .nil, q => exact pgs_nil pins s σ H [] us Q I r ⟨rfl, q σ H (Same.refl H) rs⟩
  | _ :: _, _, q => exact q.elim
theorem g_cons {es : List Expr} {i : Nat} {is : List Nat} {x : Str} (h2 : PGs X es (tGs X (gNs is))) (hN : X.N.Nodup := by assumption) (hi : X.N[i]? = some x := by rfl) (hx : Loc X.env.scope x := by first | exact Or.inl rfl | exact Or.inr rfl) (hf : X.fn x = true ∨ X.env.scope.names.lookup x = some .local := by first | exact .inl rfl | exact .inr rfl | assumption)
    (hs : (assignEach (.Name x pos :: es) X.env).map (·.2) = assign (.Name x pos) X.env :: (assignEach es X.env).map (·.2) := by rfl) : PGs X (.Name x pos :: es) (tGs X (gNs (i :: is))) := by
  intro pins s σ H vs us Q I r ⟨B, ρ, ts, hb, rs, rt, q⟩
  match ts, rt, q with
  | [], _, q => exact q.elim
  | t :: ts, .cons r1 r2, q =>
    exact pgs_cons (pg_name hN hi hx hf) h2 hs pins s σ H _ us Q I r ⟨_, _, rfl, ⟨B, _, ts, hb, rs.set i r1, r2, q⟩⟩
def gT (is : List Nat) : Tgt := fun t ρ => match t with
  | .tup ts => gNs is ts ρ
  | _ => .bad
theorem gNs_len : ∀ {is : List Nat} {ts : List Tr} {ρ ρ' : Rho}, gNs is ts ρ = .ok ρ' → ts.length = is.length
  | [], [], _, _, _ => rfl
  | [], _ :: _, _, _, h => by cases h
  | _ :: _, [], _, _, h => by cases h
  | _ :: is, _ :: ts, _, _, h => by rw [List.length_cons, List.length_cons, gNs_len (is := is) (ts := ts) h]
theorem gNs_noexc : ∀ {is : List Nat} {ts : List Tr} {ρ : Rho} {c : Tr}, gNs is ts ρ ≠ .exc c
  | [], [], _, _ => fun h => by cases h
  | [], _ :: _, _, _ => fun h => by cases h
  | _ :: _, [], _, _ => fun h => by cases h
  | _ :: is, _ :: ts, _, _ => gNs_noexc (is := is) (ts := ts)
theorem g_tup {es : List Expr} {k : Nat} {is : List Nat} (h : PGs X es (tGs X (gNs is))) (hc : X.calm = true := by rfl) (hn : (assignEach es X.env).length = is.length := by rfl) (hst : (assignEach es X.env).findIdx? (·.1) = none := by rfl) : PG X (.Tuple es k pos) (tG X (gT is)) := by
  intro pins s σ H v u Q I r ⟨B, ρ, t, hb, rs, rt, q⟩
  cases rt with
  | tup hq rv =>
    refine pg_tup hc h hn hst pins s σ H _ u Q I r ⟨_, _, rfl, (Same.tup hid_sub hq), ?_, B, ρ, _, hb, rs, rv, q⟩
    have q' : Fi X H (gNs is _ ρ) _ := q
    cases e : gNs is _ ρ with
    | ok ρ' => rw [rv.length]; exact gNs_len e
    | exc c => exact (gNs_noexc e).elim
    | bad => rw [e] at q'; exact q'.elim
  | _ => exact q.elim
/-- a, b = e -/
def unpO (T : Tgt) (r : Rs Tr) (ρ : Rho) : Rs Out := r.bind fun t => (T t ρ).bind fun ρ' => .ok (.nx ρ')
theorem s_asg {tg : Expr} {T : Tgt} (hg : PG X tg (tG X T)) (he : PE X e (tP X F)) (hs : swapsWithSole [tg] e pos.line X.env = pure false := by rfl) (hw : swappedStores [tg] e X.env = pure none := by rfl)
    (h1 : (assignEach [tg] X.env).map (·.2) = [assign tg X.env] := by rfl) : PS X (.Assign [tg] e pos) (tS X fun ρ => unpO T (F ρ) ρ) :=
  (ps_asg he hg hs hw h1).weak fun D σ H ⟨C, B0, H0, B, ρ, si, r, q⟩ => tP_in si r q.bind fun t v H1 qt s1 si1 r1 rv => ⟨B, ρ, t, si1.hb, r1, rv, (qt.bind.here si1).mono fun ρ' q' σ' H2 s2 r2 => q' σ' B H2 (si1.go s2) r2⟩
/-! ### what is walked -/
structure GoesT (K : PySem.W.Frag) (B : Bar) (J : It) (H : Hp) (ts : List Tr) : Prop where
  go : ∀ i B' H', i < ts.length → Same (hid B H) (hid B' H') → HB B' H' → J.go i H'
  yld : ∀ i B' H' x H'', i < ts.length → Same (hid B H) (hid B' H') → HB B' H' → J.yld i H' x H'' → Same H' H'' ∧ ∃ t, ts[i]? = some t ∧ Rep K (hid B' H'') x t
  stop : ∀ B' H', Same (hid B H) (hid B' H') → J.stop ts.length H'
def tI (X : Cx) (W : Rho → Rs (List Tr)) : TI := fun σ H R => ∃ B ρ, HB B H ∧ RepS X.K B H σ ρ ∧ Fi X H (W ρ) fun ts => ∀ J H', Same H H' → GoesT X.K B J H' ts → R J H'
def forO (T : Tgt) (G : Rho → Rs Out) : List Tr → Rho → Rs Out
  | [], ρ => .ok (.nx ρ)
  | t :: ts, ρ => (T t ρ).bind fun ρ1 => (G ρ1).bind fun o => match o with
    | .nx ρ2 => forO T G ts ρ2
    | .ct ρ2 => forO T G ts ρ2
    | .bk ρ2 => .ok (.nx ρ2)
    | .ret t => .ok (.ret t)
def loopO (T : Tgt) (G : Rho → Rs Out) (l : Rs (List Tr)) (ρ : Rho) : Rs Out := l.bind fun ts => forO T G ts ρ
theorem s_for {tg iter : Expr} {body : List Stmt} {W : Rho → Rs (List Tr)} {T : Tgt} (hi : PI X tg iter (tI X W)) (hg : PG X tg (tG X T)) (hb : PSs X body (tS X G)) (hp : PassesOwn (model X.prog X.w) X.A X.env X.xe := by exact PassesOwn.never) (hc : X.calm = true := by rfl)
    (hs : isSet iter = false := by rfl) : PS X (.For tg iter body [] pos) (tS X fun ρ => loopO T G (W ρ) ρ) :=
  (ps_for hp hc hi hg hb (folded_no hs)).weak fun D σ H ⟨C, B0, H0, B, ρ, si, r, q⟩ => ⟨B, ρ, si.hb, r, (q.bind.here si).mono fun ts qt J H1 s1 gt => by
    have si1 := si.go s1
    refine ⟨fun i m σ' H' => m = ts.length - i ∧ i ≤ ts.length ∧ ∃ B' ρ', Since C B H1 B' H' ∧ RepS X.K B' H' σ' ρ' ∧ FiX (xS X C B0 H0) (forO T G (ts.drop i) ρ') (EndsAt X D C B0 H0), ⟨_, rfl, Nat.zero_le _, B, ρ, Since.refl si1.hb si1.sub, r.same s1, qt⟩, ?_⟩
    rintro i m σ' H' ⟨rfl, hi, B', ρ', si', r', q'⟩
    by_cases hlt : i < ts.length
    · rw [List.drop_eq_getElem_cons hlt] at q'
      refine .inr ⟨gt.go i B' H' hlt si'.vis si'.hb, fun σ2 H2 => ∃ B2 ρ2, Since C B H1 B2 H2 ∧ RepS X.K B2 H2 σ2 ρ2 ∧ FiX (xS X C B0 H0) (forO T G (ts.drop (i + 1)) ρ2) (EndsAt X D C B0 H0),
        fun σ2 H2 ⟨B2, ρ2, x1, x2, x3⟩ => ⟨ts.length - (i + 1), by omega, rfl, hlt, B2, ρ2, x1, x2, x3⟩, fun x H2 hx => ?_⟩
      obtain ⟨s2, t, et, rt⟩ := gt.yld i B' H' x H2 hlt si'.vis si'.hb hx
      have et' : ts[i] = t := by rw [List.getElem?_eq_getElem hlt] at et; exact Option.some.inj et
      rw [et'] at q'
      have si2 := si'.go s2
      have qq : FiX (xS X C B0 H0) (T t ρ') _ := FiX.bind q'
      refine ⟨B', ρ', t, si2.hb, r'.same s2, rt, (qq.here (si1.trans si2)).mono fun ρ1 q1 σ3 H3 s3 r3 => ?_⟩
      have si3 := si2.go s3
      refine ⟨C, B', H3, B', ρ1, Since.refl si3.hb si3.sub, r3, ((FiX.bind q1).imp fun c xc B4 H4 si4 => xc B4 H4 (si1.trans (si3.trans si4))).mono fun o qo => ?_⟩
      cases o with
      | nx ρ2 => exact fun σ4 B4 H4 si4 r4 => ⟨B4, ρ2, si3.trans si4, r4, qo⟩
      | ct ρ2 => exact fun σ4 B4 H4 si4 r4 => ⟨B4, ρ2, si3.trans si4, r4, qo⟩
      | bk ρ2 => exact fun σ4 B4 H4 si4 r4 => qo σ4 B4 H4 (si1.trans (si3.trans si4)) r4
      | ret t => exact fun v B4 H4 si4 r4 => qo v B4 H4 (si1.trans (si3.trans si4)) r4
    · have e : i = ts.length := by omega
      subst e
      rw [List.drop_length] at q'
      exact .inl ⟨gt.stop B' H' si'.vis, q' σ' B' H' (si1.trans si') r'⟩⟩
/-! ### the walks -/
def sgnT (z : Str) : List Tr := z.cps.toList.map fun c => Tr.str ⟨#[c]⟩
def seqW (r : Rs Tr) : Rs (List Tr) := r.bind fun t => match t with
  | .tup ts => .ok ts
  | .lst ts => .ok ts
  | .str z => .ok (sgnT z)
  | _ => .bad
theorem goesT_list {K : PySem.W.Frag} {B : Bar} {H : Hp} {a : Addr} {vs : List V} {ts : List Tr} (h : hid B H a = some (.lst vs)) (r : Reps K (hid B H) vs ts) : GoesT K B (Itl K a) H ts where
  go := fun i B' H' hi s hb => by
    have hv : i < vs.length := by rw [r.length]; exact hi
    exact ⟨vs, vs[i], SqL.of (hid_sub _ _ (s _ _ h)), by simp [hv]⟩
  yld := fun i B' H' x H'' hi s hb ⟨e, y⟩ => by
    subst e
    have q := y vs (SqL.of (hid_sub _ _ (s _ _ h)))
    obtain ⟨t, e1, r1⟩ := r.getV q
    exact ⟨Same.refl _, t, e1, r1.same s⟩
  stop := fun B' H' s => ⟨vs, SqL.of (hid_sub _ _ (s _ _ h)), by rw [r.length]; exact Nat.le_refl _⟩
theorem goesT_tup {K : PySem.W.Frag} {B : Bar} {H : Hp} {a : Addr} {vs : List V} {ts : List Tr} (h : SqT K (hid B H) a vs) (r : Reps K (hid B H) vs ts) : GoesT K B (Itt K a) H ts where
  go := fun i B' H' hi s hb => by
    have hv : i < vs.length := by rw [r.length]; exact hi
    exact ⟨vs, vs[i], Same.tup hid_sub (s.tup h), by simp [hv]⟩
  yld := fun i B' H' x H'' hi s hb ⟨e, y⟩ => by
    subst e
    have q := y vs (Same.tup hid_sub (s.tup h))
    obtain ⟨t, e1, r1⟩ := r.getV q
    exact ⟨Same.refl _, t, e1, r1.same s⟩
  stop := fun B' H' s => ⟨vs, Same.tup hid_sub (s.tup h), by rw [r.length]; exact Nat.le_refl _⟩
theorem goesT_str {K : PySem.W.Frag} {B : Bar} {H : Hp} (z : Str) : GoesT K B (Its z) H (sgnT z) where
  go := fun i B' H' hi _ _ => by
    have h : i < z.cps.size := by simpa [sgnT] using hi
    exact h
  yld := fun i B' H' x H'' hi s hb ⟨e, c, hc, hx⟩ => by
    subst e
    subst hx
    refine ⟨Same.refl _, .str ⟨#[c]⟩, ?_, .str _ (by show 1 ≤ txMax; decide)⟩
    unfold sgnT
    rw [List.getElem?_map, Array.getElem?_toList, hc]
    rfl
  stop := fun B' H' s => by simp [sgnT, Its]
theorem str_pie {pins : List (Addr × Obj)} {σ : St} {H1 : Hp} {s1 : Shared} {R : It → Hp → Prop} {tg : Expr} {z : Str} {t : Tok} (I1 : Inv X pins σ H1 s1) (q : R (Its z) H1) : wpAny (model X.prog X.w) X.A (pyIter (.str z t)) (PIE X pins σ tg R) X.xe s1 := by
  have fin : ∀ b ∈ [s1.heap.objs.size], FpOk X pins H1 b := fun b hb => by
    have e : b = s1.heap.objs.size := by simpa using hb
    rw [e]
    exact I1.fpOk (Nat.le_refl _) (I1.hok.fresh (Nat.le_refl _))
  cases ha : z.cps.all (· < 128)
  · exact wpAny_pyIter_wide ha ⟨s1.heap.objs.size, [s1.heap.objs.size], _, _, H1, rfl, I1.kept (t' := s1.toks) fun b o e => Heap.get?_push_of_some _ e,
      turn_str (n := "str_iterator") (t := t) (by decide) (fun A' hA => Walks.strWide hA _ z t) fun _ _ _ _ _ st hq => wpAny_pyIter_striter_wide st hq, ⟨_, Heap.get?_push_size _ rfl, rfl, rfl⟩, fin, q⟩
  · exact wpAny_pyIter_ascii ha ⟨s1.heap.objs.size, [s1.heap.objs.size], _, _, H1, rfl, I1.kept (t' := s1.toks) fun b o e => Heap.get?_push_of_some _ e,
      turn_str (n := "str_ascii_iterator") (t := t) (by decide) (fun A' hA => Walks.strAscii hA _ z t) fun _ _ _ _ _ st hq => wpAny_pyIter_striter_ascii st hq, ⟨_, Heap.get?_push_size _ rfl, rfl, rfl⟩, fin, q⟩
/-- a list, a tuple, a text -/
theorem i_seq {tg l : Expr} (hl : PE X l (tP X F)) : PI X tg l (tI X fun ρ => seqW (F ρ)) := by
  intro pins s σ H R I ⟨B, ρ, hb, r, q⟩
  have key : ∀ (v : Value) (s1 : Shared) (x : V) (H1 : Hp) (t : Tr), Inv X pins σ H1 s1 → RelV x v → Same H H1 → Rep X.K (hid B H1) x t → (∃ ts, seqW (.ok t) = .ok ts ∧ ∀ J H', Same H H' → GoesT X.K B J H' ts → R J H') → wpAny (model X.prog X.w) X.A (pyIter v) (PIE X pins σ tg R) X.xe s1 := by
    intro v s1 x H1 t I1 r1 sm rt ⟨ts, et, k⟩
    cases rt with
    | @tup a vs us h rr =>
      cases et
      cases r1
      have hq : SqT X.K H1 a vs := Same.tup hid_sub h
      obtain ⟨its, rv, p, hz⟩ := I1.tuple hq
      refine wpAny_pyIter_tuple (show s1.heap.IsTuple a its.toArray from p) ?_
      refine ⟨s1.heap.objs.size, [s1.heap.objs.size], _, _, H1, rfl, I1.kept (t' := s1.toks) fun b o e => Heap.get?_push_of_some _ e, turn_tuple a _, ⟨_, Heap.get?_push_size _ rfl, rfl, rfl⟩, fun b hb => ?_, k _ H1 sm (goesT_tup h rr)⟩
      have e : b = s1.heap.objs.size := by simpa using hb
      subst e
      exact I1.fpOk (Nat.le_refl _) (I1.hok.fresh (Nat.le_refl _))
    | @lst a vs us h rr =>
      cases et
      cases r1
      have hq : SqL X.K H1 a vs := SqL.of (hid_sub _ _ h)
      obtain ⟨its, rv, p, hz⟩ := I1.list hq
      refine wpAny_pyIter_list p.isList ?_
      refine ⟨s1.heap.objs.size, [s1.heap.objs.size], _, _, H1, rfl, I1.kept (t' := s1.toks) fun b o e => Heap.get?_push_of_some _ e, turn_list a _, ⟨_, Heap.get?_push_size _ rfl, rfl, rfl⟩, fun b hb => ?_, k _ H1 sm (goesT_list h rr)⟩
      have e : b = s1.heap.objs.size := by simpa using hb
      subst e
      exact I1.fpOk (Nat.le_refl _) (I1.hok.fresh (Nat.le_refl _))
    | str z hz =>
      cases et
      obtain ⟨t, rfl⟩ := (show ∃ t, v = Value.str z t from r1)
      exact str_pie I1 (k _ H1 sm (goesT_str z))
    | _ => cases et
  refine thn (hl pins s σ H (fun x H1 => ∃ t, Same H H1 ∧ Rep X.K (hid B H1) x t ∧ ∃ ts, seqW (.ok t) = .ok ts ∧ ∀ J H', Same H H' → GoesT X.K B J H' ts → R J H') I ⟨B, ρ, hb, r, q.bind.mono fun t qt v H1 s1 r1 => ⟨t, s1, r1, ?_⟩⟩) fun v s1 ⟨x, H1, I1, r1, t, sm, rt, k⟩ => key v s1 x H1 t I1 r1 sm rt k
  cases t with
  | tup ts => exact ⟨ts, rfl, qt⟩
  | lst ts => exact ⟨ts, rfl, qt⟩
  | str z => exact ⟨_, rfl, qt⟩
  | _ => exact qt.elim
def rngT (lo : Int) (n : Nat) : List Tr := (List.range n).map fun k => Tr.int (lo + (k : Nat))
theorem rngT_length (lo : Int) (n : Nat) : (rngT lo n).length = n := by simp [rngT]
theorem goesT_range {K : PySem.W.Frag} {B : Bar} {H : Hp} (lo : Int) (n : Nat) : GoesT K B (Itr lo n) H (rngT lo n) where
  go := fun i B' H' hi _ _ => by rw [rngT_length] at hi; exact hi
  yld := fun i B' H' x H'' hi s hb ⟨e, y⟩ => by
    subst e
    subst y
    rw [rngT_length] at hi
    refine ⟨Same.refl _, .int (lo + i), ?_, .int _⟩
    unfold rngT
    rw [List.getElem?_map, List.getElem?_range hi]
    rfl
  stop := fun B' H' s => by rw [rngT_length]; exact Nat.le_refl _
def rng1W (l : Rs (List Tr)) : Rs (List Tr) := l.bind fun ts => match ts with
  | [.int j] => if -4611686018427387904 ≤ j ∧ j < 4611686018427387904 then .ok (rngT 0 j.toNat) else .bad
  | _ => .bad
def rng2W (l : Rs (List Tr)) : Rs (List Tr) := l.bind fun ts => match ts with
  | [.int i, .int j] => if -4611686018427387904 ≤ i ∧ i < 4611686018427387904 ∧ -4611686018427387904 ≤ j ∧ j < 4611686018427387904 then .ok (rngT i (j - i).toNat) else .bad
  | _ => .bad
theorem PI.weak {tg iter : Expr} {t t' : TI} (h : PI X tg iter t) (w : ∀ σ H R, t' σ H R → t σ H R) : PI X tg iter t' := fun pins s σ H R I q => h pins s σ H R I (w σ H R q)
variable {L : Rho → Rs (List Tr)} {tg : Expr} {p : Pos}
theorem i_range1 (hm : X.mg "range" = none) (ha : PA X [a] (tPA X L)) (hg : Gl X "range" := by rfl) (hs : noStars [a] = true := by rfl) : PI X tg (.Call (.Name "range" p) [a] [] pos) (tI X fun ρ => rng1W (L ρ)) :=
  (pi_range1 hg hm ha (by rw [star_cons _ _ (stars_head hs).1]; rfl)).weak fun σ H R ⟨B, ρ, hb, r, q⟩ => ⟨B, ρ, hb, r, q.bind.mono fun ts qt vs H1 s1 r1 => by

    split at qt
    · rename_i j
      cases r1 with
      | cons h1 r1 =>
        cases h1; cases r1
        split at qt
        · rename_i hj
          exact ⟨j, rfl, by omega, by omega, qt _ H1 s1 (goesT_range 0 _)⟩
        · exact qt.elim
    · exact qt.elim⟩
theorem i_range2 (hm : X.mg "range" = none) (ha : PA X [a, b] (tPA X L)) (hg : Gl X "range" := by rfl) (hs : noStars [a, b] = true := by rfl) : PI X tg (.Call (.Name "range" p) [a, b] [] pos) (tI X fun ρ => rng2W (L ρ)) :=
  (pi_range2 hg hm ha (by rw [star_cons _ _ (stars_head hs).1, star_cons _ _ (stars_head (stars_head hs).2).1]; rfl) (by rw [star_cons _ _ (stars_head (stars_head hs).2).1]; rfl)).weak fun σ H R ⟨B, ρ, hb, r, q⟩ => ⟨B, ρ, hb, r, q.bind.mono fun ts qt vs H1 s1 r1 => by

    split at qt
    · rename_i i j
      cases r1 with
      | cons h1 r1 =>
        cases h1
        cases r1 with
        | cons h2 r1 =>
          cases h2; cases r1
          split at qt
          · rename_i hj
            exact ⟨i, j, rfl, by omega, qt _ H1 s1 (goesT_range i _)⟩
          · exact qt.elim
    · exact qt.elim⟩
/-! ### comprehensions -/
def pur {α : Type} (r : Rs α) : Rs α := match r with
  | .ok a => .ok a
  | _ => .bad
theorem pur_fin {α : Type} {xc xc' : Tr → Prop} {r : Rs α} {k : α → Prop} (h : FiX xc (pur r) k) : FiX xc' r k := by
  cases r with
  | ok a => exact h
  | exc c => exact h.elim
  | bad => exact h
def lcRho (ix : List (Option Nat)) (ρ : Rho) : Rho := ix.map fun o => match o with
  | none => .no
  | some j => match ρ[j]? with
    | some (.sh t) => .sh t
    | _ => .no
theorem RepS.comp {K : PySem.W.Frag} {B B' : Bar} {H H' : Hp} {σ : St} {ρ : Rho} (ix : List (Option Nat)) (h : RepS K B H σ ρ) (s : Same (hid B H) (hid B' H')) : RepS K B' H' (lcStart ix σ) (lcRho ix ρ) := by
  have no : ∀ (i : Nat) (c : Cell), (lcRho ix ρ)[i]? = some c → c = .no ∨ ∃ j t, ix[i]? = some (some j) ∧ ρ[j]? = some (.sh t) ∧ c = .sh t := fun i c e => by
    unfold lcRho at e
    rw [List.getElem?_map] at e
    cases q : ix[i]? with
    | none => rw [q] at e; cases e
    | some o =>
      rw [q] at e
      cases o with
      | none => exact .inl (Option.some.inj e).symm
      | some j =>
        have e' : (match ρ[j]? with | some (Cell.sh t) => Cell.sh t | _ => Cell.no) = c := Option.some.inj e
        split at e'
        · rename_i t q2; exact .inr ⟨j, t, rfl, q2, e'.symm⟩
        · exact .inl e'.symm
  refine ⟨by unfold lcRho lcStart; rw [List.length_map, List.length_map], fun i t e => ?_, fun i ts e => ?_, fun i j ts us D _ e => ?_⟩
  · rcases no i _ e with q | ⟨j, u, q1, q2, q3⟩
    · cases q
    · cases q3
      obtain ⟨v, e1, r1⟩ := h.sh j t q2
      refine ⟨v, ?_, r1.same s⟩
      unfold lcStart
      rw [List.getElem?_map, q1]
      show some ((σ[j]?).join) = _
      rw [e1]
      rfl
  · rcases no i _ e with q | ⟨j, u, q1, q2, q3⟩
    · cases q
    · cases q3
  · rcases no i _ e with q | ⟨j, u, q1, q2, q3⟩
    · cases q
    · cases q3
/-- the items: the target's cells, the test, the item -/
def lcL (T : Tgt) (A : Rho → Rs Bool) (F : Rho → Rs Tr) : List Tr → Rho → Rs (List Tr)
  | [], _ => .ok []
  | t :: ts, ρ => (pur (T t ρ)).bind fun ρ1 => (pur (A ρ1)).bind fun k => if k then (pur (F ρ1)).bind fun y => (lcL T A F ts ρ1).bind fun ys => .ok (y :: ys) else lcL T A F ts ρ1
def lcR (ix : List (Option Nat)) (T : Tgt) (A : Rho → Rs Bool) (F : Rho → Rs Tr) (l : Rs (List Tr)) (ρ : Rho) : Rs Tr := l.bind fun ts => if ts.length ≤ szT then (lcL T A F ts (lcRho ix ρ)).bind fun ys => .ok (.lst ys) else .bad
def barD (B : Bar) (D : Addr) : Bar := fun b => B b || b == D
theorem barD_vis {B : Bar} {D : Addr} {H : Hp} {o : HO} (hD : H D = none) : Same (hid B H) (hid (barD B D) (upd H D o)) := fun b u e => by
  have e1 := hid_sub b u e
  have hne : b ≠ D := ne_of_none e1 hD
  have hB : B b = false := by
    cases q : B b with
    | false => rfl
    | true => unfold hid at e; rw [q, if_pos rfl] at e; cases e
  rw [hid_at (show (B b || b == D) = false by rw [hB, beq_false_of_ne hne]; rfl), upd_ne hne]
  exact e1
theorem barD_hb {B : Bar} {D : Addr} {H : Hp} {o : HO} (h : HB B H) (hD : H D = none) : HB (barD B D) (upd H D o) := fun b e => by
  by_cases q : b = D
  · subst q; exact ⟨o, upd_same⟩
  · have e' : (B b || b == D) = true := e
    rw [beq_false_of_ne q, Bool.or_false] at e'
    rw [upd_ne q]
    exact h b e'
theorem barD_upd {B : Bar} {D : Addr} {H : Hp} {o : HO} : hid (barD B D) (upd H D o) = hid (barD B D) H := by
  funext b
  unfold hid
  by_cases q : b = D
  · subst q
    rw [if_pos (show barD B b b = true by unfold barD; rw [beq_self_eq_true, Bool.or_true]), if_pos (show barD B b b = true by unfold barD; rw [beq_self_eq_true, Bool.or_true])]
  · rw [upd_ne q]
theorem barD_sub {B : Bar} {D : Addr} {H : Hp} : Same (hid (barD B D) H) (hid B H) := hid_mono fun b e => by unfold barD; rw [e, Bool.true_or]
def NoOw (ρ : Rho) : Prop := ∀ (i : Nat) (ts : List Tr), ρ[i]? ≠ some (.ow ts)
def TgOk (T : Tgt) : Prop := ∀ t ρ ρ', NoOw ρ → T t ρ = .ok ρ' → NoOw ρ'
theorem NoOw.set {ρ : Rho} (h : NoOw ρ) (i : Nat) (t : Tr) : NoOw (ρ.set i (.sh t)) := fun j ts e => by
  rcases set_cases e with ⟨_, _, q⟩ | ⟨_, q⟩
  · cases q
  · exact h j ts q
theorem tgOk_n (i : Nat) : TgOk (gN i) := fun t ρ ρ' h e => by cases e; exact h.set i t
theorem noOw_ns : ∀ {is : List Nat} {ts : List Tr} {ρ ρ' : Rho}, NoOw ρ → gNs is ts ρ = .ok ρ' → NoOw ρ'
  | [], [], _, _, h, e => by cases e; exact h
  | [], _ :: _, _, _, _, e => by cases e
  | _ :: _, [], _, _, _, e => by cases e
  | i :: is, t :: ts, _, _, h, e => noOw_ns (is := is) (ts := ts) (h.set i t) e
theorem tgOk_t (is : List Nat) : TgOk (gT is) := fun t ρ ρ' h e => by
  cases t with
  | tup ts => exact noOw_ns h e
  | _ => cases e
theorem noOw_lc (ix : List (Option Nat)) (ρ : Rho) : NoOw (lcRho ix ρ) := fun i ts e => by
  unfold lcRho at e
  rw [List.getElem?_map] at e
  cases q : ix[i]? with
  | none => rw [q] at e; cases e
  | some o =>
    rw [q] at e
    cases o with
    | none => cases e
    | some j =>
      have e' : (match ρ[j]? with | some (Cell.sh t) => Cell.sh t | _ => Cell.no) = .ow ts := Option.some.inj e
      split at e' <;> cases e'
theorem FiX.eq {α : Type} {xc : Tr → Prop} {r : Rs α} {k : α → Prop} (h : FiX xc r k) : FiX xc r fun a => r = .ok a ∧ k a := by
  cases r with
  | ok a => exact ⟨rfl, h⟩
  | exc c => exact h
  | bad => exact h
theorem pur_ok {α : Type} {xc : Tr → Prop} {r : Rs α} {k : α → Prop} (h : FiX xc (pur r) k) : ∃ a, r = .ok a ∧ k a := by
  cases r with
  | ok a => exact ⟨a, rfl, h⟩
  | exc c => exact h.elim
  | bad => exact h.elim
/-- without an exception, whatever the context -/
def tP0 (K : PySem.W.Frag) (F : Rho → Rs Tr) : TE := fun σ H Q => ∃ B ρ, HB B H ∧ RepS K B H σ ρ ∧ ∃ t, F ρ = .ok t ∧ ∀ v H', Same H H' → Rep K (hid B H') v t → Q v H'
def tQ0 (K : PySem.W.Frag) (F : Rho → Rs Bool) : TT := fun σ H Q => ∃ B ρ, HB B H ∧ RepS K B H σ ρ ∧ ∃ b, F ρ = .ok b ∧ ∀ H', Same H H' → Q b H'
def tG0 (K : PySem.W.Frag) (T : Tgt) : TG := fun v σ H Q => ∃ B ρ t, HB B H ∧ RepS K B H σ ρ ∧ Rep K (hid B H) v t ∧ ∃ ρ', T t ρ = .ok ρ' ∧ ∀ σ' H', Same H H' → RepS K B H' σ' ρ' → Q σ' H'
theorem tP0_to {X : Cx} {F : Rho → Rs Tr} {σ : St} {H : Hp} {Q : VK} : tP0 X.K F σ H Q → tP X F σ H Q := fun ⟨B, ρ, hb, r, t, e, q⟩ => ⟨B, ρ, hb, r, by rw [e]; exact q⟩
theorem tQ0_to {X : Cx} {F : Rho → Rs Bool} {σ : St} {H : Hp} {Q : Bool → Hp → Prop} : tQ0 X.K F σ H Q → tQ X F σ H Q := fun ⟨B, ρ, hb, r, t, e, q⟩ => ⟨B, ρ, hb, r, by rw [e]; exact q⟩
theorem tG0_to {X : Cx} {T : Tgt} {v : V} {σ : St} {H : Hp} {Q : St → Hp → Prop} : tG0 X.K T v σ H Q → tG X T v σ H Q := fun ⟨B, ρ, t, hb, r, rt, ρ', e, q⟩ => ⟨B, ρ, t, hb, r, rt, by rw [e]; exact q⟩
theorem lc_read {K : PySem.W.Frag} {J : It} {D : Addr} {B : Bar} {H : Hp} {σ0 : St} {ρ0 : Rho} {ts : List Tr} {T : Tgt} {A : Rho → Rs Bool} {F : Rho → Rs Tr} {Q : Hp → Prop} (hT : TgOk T) (h0 : NoOw ρ0) (hb : HB B H) (gt : GoesT K B J H ts) (hz : ts.length ≤ szT) (r : RepS K (barD B D) (upd H D (.lst [])) σ0 ρ0) (hD : H D = none)
    {xc : Tr → Prop} {k : List Tr → Prop} (q : FiX xc (lcL T A F ts ρ0) k) (hQ : ∀ ys H', k ys → Same H H' → Rep K (hid B H') (.ref D) (.lst ys) → Q H') : LcW J D σ0 (upd H D (.lst [])) (tG0 K T) (tQ0 K A) (tP0 K F) Q := by
  refine ⟨fun i m σ H' => m = ts.length - i ∧ i ≤ ts.length ∧ Same H H' ∧ HB (barD B D) H' ∧ Same (hid B H) (hid (barD B D) H') ∧ ∃ ρ vs us, NoOw ρ ∧ RepS K (barD B D) H' σ ρ ∧ H' D = some (.lst vs) ∧ vs.length ≤ i ∧ Reps K (hid (barD B D) H') vs us ∧ FiX xc (lcL T A F (ts.drop i) ρ) (fun ys => k (us ++ ys)),
    ⟨_, rfl, Nat.zero_le _, Same.upd hD, barD_hb hb hD, barD_vis hD, ρ0, [], [], h0, r, upd_same, Nat.le_refl _, .nil, q⟩, ?_⟩
  rintro i m σ H' ⟨rfl, hi, sm, hb', vis, ρ, vs, us, no, rs, hd, hl, rv, q'⟩
  by_cases hlt : i < ts.length
  · rw [List.drop_eq_getElem_cons hlt] at q'
    refine .inr ⟨gt.go i _ H' hlt vis hb', fun σ2 H2 => Same H H2 ∧ HB (barD B D) H2 ∧ Same (hid B H) (hid (barD B D) H2) ∧ ∃ ρ vs us, NoOw ρ ∧ RepS K (barD B D) H2 σ2 ρ ∧ H2 D = some (.lst vs) ∧ vs.length ≤ i + 1 ∧ Reps K (hid (barD B D) H2) vs us ∧ FiX xc (lcL T A F (ts.drop (i + 1)) ρ) (fun ys => k (us ++ ys)),
      fun σ2 H2 h => ⟨ts.length - (i + 1), by omega, rfl, hlt, h⟩, fun x H2 hx => ?_⟩
    obtain ⟨s2, t, et, rt⟩ := gt.yld i _ H' x H2 hlt vis hb' hx
    have et' : ts[i] = t := by rw [List.getElem?_eq_getElem hlt] at et; exact Option.some.inj et
    rw [et'] at q'
    obtain ⟨ρ1, eT, q1⟩ := pur_ok (FiX.bind q')
    have no1 := hT t ρ ρ1 no eT
    refine ⟨_, ρ, t, hb'.same s2, rs.same s2, rt, ρ1, eT, fun σ3 H3 s3 r3 => ?_⟩
    have s23 := s2.trans s3
    obtain ⟨c, eA, qc⟩ := pur_ok (FiX.bind q1)
    refine ⟨_, ρ1, hb'.same s23, r3, c, eA, fun H4 s4 => ?_⟩
    have s24 := s23.trans s4
    have g4 : Same H H4 := sm.trans s24
    cases c with
    | false =>
      exact iteF ⟨g4, hb'.same s24, vis.trans (hid_same s24), ρ1, vs, us, no1, r3.same s4, s24 _ _ hd, by omega, rv.same (hid_same s24), qc⟩
    | true =>
      obtain ⟨y, eF, qy⟩ := pur_ok (FiX.bind qc)
      refine iteT ⟨_, ρ1, hb'.same s24, r3.same s4, y, eF, fun v H5 s5 r5 => ?_⟩
      have s25 := s24.trans s5
      refine ⟨vs, s25 _ _ hd, by rw [← szT_eq]; omega, (sm.trans s25).upd' hD, ?_, ?_, ρ1, vs ++ [v], us ++ [y], no1, ?_, upd_same, by rw [List.length_append]; exact Nat.add_le_add_right hl 1, ?_, ?_⟩
      · intro b e
        by_cases q : b = D
        · subst q; exact ⟨_, upd_same⟩
        · rw [upd_ne q]; exact (hb'.same s25) b e
      · rw [barD_upd]; exact vis.trans (hid_same s25)
      · have r5' := (r3.same s4).same s5
        refine ⟨r5'.len, fun i t e => ?_, fun i ts e => (no1 i ts e).elim, r5'.ap⟩
        rw [barD_upd]; exact r5'.sh i t e
      · rw [barD_upd]; exact (rv.same (hid_same s25)).append (.cons r5 .nil)
      · exact (FiX.bind qy).mono fun ys q => by rw [List.append_assoc]; exact q
  · have e : i = ts.length := by omega
    subst e
    rw [List.drop_length] at q'
    refine .inl ⟨gt.stop _ H' vis, hQ us H' (by have := (show k (us ++ []) from q'); rw [List.append_nil] at this; exact this) sm (.lst ?_ (rv.same barD_sub))⟩
    rw [hid_at (hb.free hD)]
    exact hd
variable {scope : Scope} {N' : List Str} {ix : List (Option Nat)} {elt iter : Expr} {ifs : List Expr} {T : Tgt} {W : Rho → Rs (List Tr)}
theorem f_nil {X : Cx} : PF X [] (tQ X fun _ => .ok true) := fun pins s σ H Q I ⟨B, ρ, hb, r, q⟩ => pf_nil pins s σ H Q I (q H (Same.refl H))
theorem f_one {X : Cx} {c : Expr} {A : Rho → Rs Bool} (h : PT X c (tQ X A)) : PF X [c] (tQ X A) := pf_one h
theorem tLC_read {σ : St} {H : Hp} {Q : VK} (hT : TgOk T) (q : tP X (fun ρ => lcR ix T A F (W ρ) ρ) σ H Q) : tLC (tI X W) ix (tG0 X.K T) (tQ0 X.K A) (tP0 X.K F) σ H Q := by
  obtain ⟨B, ρ, hb, r, q⟩ := q
  refine ⟨B, ρ, hb, r, q.bind.mono fun ts qt J H1 s1 gt D hD => ?_⟩
  by_cases hz : ts.length ≤ szT
  · rw [if_pos hz] at qt
    exact lc_read hT (noOw_lc ix ρ) (hb.same s1) gt hz ((r.same s1).comp ix (barD_vis hD)) hD (Fi.bind qt) fun ys H' k s' rp => k _ H' (s1.trans s') rp
  · rw [if_neg hz] at qt; exact qt.elim
/-- what stands in a comprehension's block -/
structure Blk (X : Cx) (scope : Scope) (N' : List Str) (tg elt : Expr) (ifs : List Expr) (T : Tgt) (A : Rho → Rs Bool) (F : Rho → Rs Tr) : Prop where
  all : ∀ s H ex, PG (cxC X scope N' s H ex) tg (tG (cxC X scope N' s H ex) T) ∧ PF (cxC X scope N' s H ex) ifs (tQ (cxC X scope N' s H ex) A) ∧ PE (cxC X scope N' s H ex) elt (tP (cxC X scope N' s H ex) F)
theorem Blk.to0 {X : Cx} {scope : Scope} {N' : List Str} {tg elt : Expr} {ifs : List Expr} {T : Tgt} {A : Rho → Rs Bool} {F : Rho → Rs Tr} (h : Blk X scope N' tg elt ifs T A F) : ∀ s H ex, PG (cxC X scope N' s H ex) tg (tG0 X.K T) ∧ PF (cxC X scope N' s H ex) ifs (tQ0 X.K A) ∧ PE (cxC X scope N' s H ex) elt (tP0 X.K F) := fun s H ex => by
  obtain ⟨h1, h2, h3⟩ := h.all s H ex
  exact ⟨fun pins s σ H v u Q I r q => h1 pins s σ H v u Q I r (tG0_to q), fun pins s σ H Q I q => h2 pins s σ H Q I (tQ0_to q), fun pins s σ H Q I q => h3 pins s σ H Q I (tP0_to q)⟩
theorem t_lc (Lk : LcOk X N' ix scope) (hi : PI X tg iter (tI X W)) (hin : Blk X scope N' tg elt ifs T A F) (hT : TgOk T) (hc : X.calm = true := by rfl) (hs : isSet iter = false := by rfl) :
    PE X (.ListComp elt [⟨tg, iter, ifs, 0⟩] scope pos) (tP X fun ρ => lcR ix T A F (W ρ) ρ) :=
  (pe_lc Lk hc hi hin.to0 (folded_no hs)).weak fun σ H Q q => tLC_read hT q
theorem s_setLC {i : Nat} {x : Str} {px spos : Pos} (Lk : LcOk X N' ix scope) (hit : PI X tg iter (tI X W)) (hin : Blk X scope N' tg elt ifs T A F) (hT : TgOk T) (hN : X.N.Nodup := by assumption) (hc : X.calm = true := by rfl) (hi : X.N[i]? = some x := by rfl) (hx : Loc X.env.scope x := by first | exact Or.inl rfl | exact Or.inr rfl)
    (hsw : swapsWith (.ListComp elt [⟨tg, iter, ifs, 0⟩] scope pos) (some (.Name x px)) spos.line X.env = pure true := by rfl) (hs : isSet iter = false := by rfl) (hf : X.fn x = true ∨ X.env.scope.names.lookup x = some .local := by first | exact .inl rfl | exact .inr rfl | assumption) :
    PS X (.Assign [.Name x px] (.ListComp elt [⟨tg, iter, ifs, 0⟩] scope pos) spos) (tS X fun ρ => setO i (lcR ix T A F (W ρ) ρ) ρ) :=
  (ps_setLC Lk hc hN hi hx hit hin.to0 hsw (folded_no hs) hf).weak fun D σ H ⟨C, B0, H0, B, ρ, si, r, q⟩ => tLC_read hT (tP_in (F := fun ρ => lcR ix T A F (W ρ) ρ) si r q.bind fun t v H1 qt s1 si1 r1 rv => qt _ B H1 si1 (r1.set i rv))
/-! ### a def by its body -/
def bodyR (r : Rs Out) : Rs Tr := r.bind fun o => match o with
  | .nx _ => .ok .non
  | .ret t => .ok t
  | _ => .bad
theorem Fun.okT {P : Program} {w : World} {K : PySem.W.Frag} {mg : Str → Option Value} {base : Heap} {x qual : Str} {st : Stmt} {f : Addr} {fd : FuncData} {N ps : List Str} {k : Nat} {h : List Tr → Rs Tr} (Fn : Fun K x qual st f fd) (S : FnScope N ps (defScope st)) (len : ∀ ts t, h ts = .ok t → ts.length = ps.length)
    (hbody : ∀ (cdv : Value) (A : Around) (outer : List Env) (s : Shared) (H : Hp) (E : XK), Room k (A.deeper (envOfC qual (defScope st) s.heap.objs.size f cdv)) →
      ∃ G, PSs (cxOf CX0 P w K mg base N qual (defScope st) f cdv A outer s H E).nox (defBody st) (tS (cxOf CX0 P w K mg base N qual (defScope st) f cdv A outer s H E).nox G) ∧ ∀ ts t, h ts = .ok t → bodyR (G (startT N.length ts)) = .ok t) : FnOk P w K mg base CX0 (k + 1) f fd ps (spT K h) := by
  refine Fn.ok S (fun vs H Q E q => ?_) (fun cdv A outer s H vs Q E hr q => ?_)
  · obtain ⟨B, ts, hb, r, t, e, _⟩ := q
    rw [r.length]; exact len ts t e
  · obtain ⟨B, ts, hb, r, t, e, q⟩ := q
    obtain ⟨G, hG, hE⟩ := hbody cdv A outer s H E hr
    refine ⟨_, hG, B, B, H, B, startT N.length ts, Since.refl hb (fun _ z => z), RepS.start r, ?_⟩
    have e1 := hE ts t e
    cases eo : G (startT N.length ts) with
    | ok o =>
      rw [eo] at e1
      cases o with
      | nx ρ => cases e1; exact fun σ' B' H' si r' => q .non H' si.same .non
      | ret u => cases e1; exact fun v B' H' si r' => q v H' si.same r'
      | bk ρ => cases e1
      | ct ρ => cases e1
    | exc c => rw [eo] at e1; cases e1
    | bad => rw [eo] at e1; cases e1
end
end L2

namespace L2
open PySem PySem.Spec PyProof.Rows
section
variable {X : Cx}
/-! ### + - * % // -/
theorem op_catS : OpR X (binaryOp .Add) (fun x y H Q => ∃ (a b : Addr) (xs ys : List V), x = .ref a ∧ y = .ref b ∧ SqT X.K H a xs ∧ SqT X.K H b ys ∧ xs.length + ys.length ≤ sizeLine ∧ (xs = [] → Q (.ref b) H) ∧ (ys = [] → Q (.ref a) H) ∧ ∀ p, H p = none → Q (.ref p) (upd H p (.tup (xs ++ ys)))) := by
  intro pins s σ H x y v u Q I rx ry h
  obtain ⟨a, b, xs, ys, rfl, rfl, ha, hb, hz, q1, q2, q3⟩ := h
  by_cases hx : xs = []
  · subst hx
    cases (show v = Value.ref a from rx)
    cases (show u = Value.ref b from ry)
    obtain ⟨i1, r1, p1, _⟩ := I.tuple ha
    obtain ⟨i2, r2, p2, _⟩ := I.tuple hb
    cases r1
    obtain ⟨dd, n, sl, h1⟩ := isTup_get p1
    obtain ⟨dd2, n2, sl2, h2⟩ := isTup_get p2
    exact concat_meets ⟨_, h1, rfl⟩ ⟨_, h2, rfl⟩ noFill_tuple_add seq_tuple_add PySem.F.slot_tuple_add PySem.F.entry_tuple_add (PySem.F.args_tuple_add_2 _ _) (tuple_addW0 a b _ _ n n2 dd dd2 sl sl2 rfl) ⟨h1, h2, ⟨.ref b, H, I, rfl, q1 rfl⟩⟩
  · exact op_catT pins s σ H _ _ v u Q I rx ry ⟨a, b, xs, ys, rfl, rfl, ha, hb, hx, hz, q2, fun _ p hp => q3 p hp⟩
theorem Rep.up {K : PySem.W.Frag} {B : Bar} {H : Hp} {v : V} {t : Tr} (r : Rep K (hid B H) v t) : Rep K H v t := r.same hid_sub
theorem SqT.up {K : PySem.W.Frag} {B : Bar} {H : Hp} {a : Addr} {xs : List V} (h : SqT K (hid B H) a xs) : SqT K H a xs := Same.tup hid_sub h
theorem hid_up {B : Bar} {H : Hp} {a : Addr} {o : HO} (h : hid B H a = some o) : H a = some o := hid_sub _ _ h
/-- a new object that stands for a tree -/
theorem Rep.newT {K : PySem.W.Frag} {B : Bar} {H : Hp} {p : Addr} {vs : List V} {ts : List Tr} (hb : HB B H) (hp : H p = none) (r : Reps K (hid B H) vs ts) : Rep K (hid B (upd H p (.tup vs))) (.ref p) (.tup ts) := .tup (.of (hb.new hp)) (r.same (hid_same (Same.upd hp)))
theorem Rep.newL {K : PySem.W.Frag} {B : Bar} {H : Hp} {p : Addr} {vs : List V} {ts : List Tr} (hb : HB B H) (hp : H p = none) (r : Reps K (hid B H) vs ts) : Rep K (hid B (upd H p (.lst vs))) (.ref p) (.lst ts) := .lst (hb.new hp) (r.same (hid_same (Same.upd hp)))
theorem reps_nil {K : PySem.W.Frag} {H : Hp} {ts : List Tr} (h : Reps K H [] ts) : ts = [] := by cases h; rfl
theorem tx_app {a b : Str} (h : a.length + b.length ≤ txMax) : (a ++ b).length ≤ txMax := by rw [PySem.Str.length_append]; exact h
def addT : Tr → Tr → Rs Tr
  | .int i, .int j => .ok (.int (i + j))
  | .str a, .str b => if a.length + b.length ≤ txMax then .ok (.str (a ++ b)) else .bad
  | .tup a, .tup b => if a.length + b.length ≤ szT then .ok (.tup (a ++ b)) else .bad
  | .lst a, .lst b => if a.length + b.length ≤ szT then .ok (.lst (a ++ b)) else .bad
  | _, _ => .bad
theorem fi_if {H : Hp} {c : Prop} [Decidable c] {t : Tr} {k : Tr → Prop} (h : Fi X H (if c then Rs.ok t else .bad) k) : c ∧ k t := by
  by_cases hc : c
  · rw [if_pos hc] at h; exact ⟨hc, h⟩
  · rw [if_neg hc] at h; exact h.elim
theorem o_add : OpT X (binaryOp .Add) addT := by
  intro pins s σ H x y v u Q I rx ry ⟨B, tx, ty, hb, r1, r2, q⟩
  cases r1 with
  | int i =>
    cases r2 with
    | int j => exact op_add pins s σ H _ _ v u Q I rx ry ⟨i, j, rfl, rfl, q _ H (Same.refl H) (.int _)⟩
    | _ => exact (show False from q).elim
  | str a ha =>
    cases r2 with
    | str b hb' =>
      obtain ⟨hz, k⟩ := fi_if q
      exact op_add_str pins s σ H _ _ v u Q I rx ry ⟨a, b, rfl, rfl, Nat.le_trans hz tx_line, k _ H (Same.refl H) (.str _ (tx_app hz))⟩
    | _ => exact (show False from q).elim
  | tup h1 rr1 =>
    cases r2 with
    | tup h2 rr2 =>
      obtain ⟨hz, k⟩ := fi_if q
      refine op_catS pins s σ H _ _ v u Q I rx ry ⟨_, _, _, _, rfl, rfl, h1.up, h2.up, by rw [rr1.length, rr2.length, ← szT_eq]; exact hz, fun e => ?_, fun e => ?_, fun p hp => k _ _ (Same.upd hp) (.newT hb hp (rr1.append rr2))⟩
      · subst e
        rw [reps_nil rr1] at k
        exact k _ H (Same.refl H) (.tup h2 rr2)
      · subst e
        rw [reps_nil rr2, List.append_nil] at k
        exact k _ H (Same.refl H) (.tup h1 rr1)
    | _ => exact (show False from q).elim
  | lst h1 rr1 =>
    cases r2 with
    | lst h2 rr2 =>
      obtain ⟨hz, k⟩ := fi_if q
      exact op_cat pins s σ H _ _ v u Q I rx ry ⟨_, _, _, _, rfl, rfl, hid_up h1, hid_up h2, by rw [rr1.length, rr2.length, ← szT_eq]; exact hz, fun p hp => k _ _ (Same.upd hp) (.newL hb hp (rr1.append rr2))⟩
    | _ => exact (show False from q).elim
  | _ => cases r2 <;> exact (show False from q).elim
def subT : Tr → Tr → Rs Tr
  | .int i, .int j => .ok (.int (i - j))
  | _, _ => .bad
theorem o_sub : OpT X (binaryOp .Sub) subT := by
  intro pins s σ H x y v u Q I rx ry ⟨B, tx, ty, hb, r1, r2, q⟩
  cases r1 with
  | int i =>
    cases r2 with
    | int j => exact op_sub pins s σ H _ _ v u Q I rx ry ⟨i, j, rfl, rfl, q _ H (Same.refl H) (.int _)⟩
    | _ => exact (show False from q).elim
  | _ => cases r2 <;> exact (show False from q).elim
def modT : Tr → Tr → Rs Tr
  | .int i, .int j => if 0 < j then .ok (.int (i % j)) else .bad
  | _, _ => .bad
theorem o_mod : OpT X (binaryOp .Mod) modT := by
  intro pins s σ H x y v u Q I rx ry ⟨B, tx, ty, hb, r1, r2, q⟩
  cases r1 with
  | int i =>
    cases r2 with
    | int j =>
      obtain ⟨hz, k⟩ := fi_if q
      exact op_mod pins s σ H _ _ v u Q I rx ry ⟨i, j, rfl, rfl, hz, k _ H (Same.refl H) (.int _)⟩
    | _ => exact (show False from q).elim
  | _ => cases r2 <;> exact (show False from q).elim
def fdivT : Tr → Tr → Rs Tr
  | .int i, .int j => if 0 < j ∧ j < 1073741824 then .ok (.int (i / j)) else .bad
  | _, _ => .bad
theorem o_fdiv : OpT X (binaryOp .FloorDiv) fdivT := by
  intro pins s σ H x y v u Q I rx ry ⟨B, tx, ty, hb, r1, r2, q⟩
  cases r1 with
  | int i =>
    cases r2 with
    | int j =>
      obtain ⟨hz, k⟩ := fi_if q
      exact op_fdiv pins s σ H _ _ v u Q I rx ry ⟨i, j, rfl, rfl, hz, k _ H (Same.refl H) (.int _)⟩
    | _ => exact (show False from q).elim
  | _ => cases r2 <;> exact (show False from q).elim
def mulOk (i j : Int) : Prop := (-18446744073709551616 < i ∧ i < 18446744073709551616) ∨ (-18446744073709551616 < j ∧ j < 18446744073709551616)
theorem mulOk.cm {i j : Int} (h : mulOk i j) : CMul i j := by
  unfold mulOk at h
  unfold CMul
  omega
instance (i j : Int) : Decidable (mulOk i j) := by unfold mulOk; infer_instance
def mulT : Tr → Tr → Rs Tr
  | .int i, .int j => if mulOk i j then .ok (.int (i * j)) else .bad
  | .str z, .int n => if 0 ≤ n ∧ n ≤ 1000 ∧ z.length ≤ 1000 then .ok (.str (Txt.mul z n)) else .bad
  | .lst ts, .int n => if 0 ≤ n ∧ n ≤ 1000 ∧ ts.length * n.toNat ≤ szT then .ok (.lst (List.replicate n.toNat ts).flatten) else .bad
  | _, _ => .bad
theorem op_repR : OpR X (binaryOp .Mult) (fun x y H Q => ∃ (l : Addr) (k : Int) (xs : List V), x = .ref l ∧ y = .int k ∧ H l = some (.lst xs) ∧ -(2 ^ 63) ≤ k ∧ k < 2 ^ 63 ∧ xs.length * k.toNat ≤ sizeLine ∧ ∀ p, H p = none → Q (.ref p) (upd H p (.lst (List.replicate k.toNat xs).flatten))) := op_rep
theorem mul_len {z : Str} {n : Int} (h0 : 0 ≤ n) (h1 : n ≤ 1000) (hz : z.length ≤ 1000) : (Txt.mul z n).length ≤ txMax := by
  have e := PyProof.Rows.len_mul z n
  split at e
  · have : ((Txt.mul z n).length : Int) = 0 := e
    unfold txMax
    omega
  · have h2 : (z.length : Int) * n ≤ 1000 * 1000 := Int.mul_le_mul (by omega) h1 h0 (by decide)
    have e' : ((Txt.mul z n).length : Int) = (z.length : Int) * n := e
    unfold txMax
    omega
theorem o_mul : OpT X (binaryOp .Mult) mulT := by
  intro pins s σ H x y v u Q I rx ry ⟨B, tx, ty, hb, r1, r2, q⟩
  cases r1 with
  | int i =>
    cases r2 with
    | int j =>
      obtain ⟨hz, k⟩ := fi_if q
      exact op_mul pins s σ H _ _ v u Q I rx ry ⟨i, j, rfl, rfl, hz.cm, k _ H (Same.refl H) (.int _)⟩
    | _ => exact (show False from q).elim
  | str z hz' =>
    cases r2 with
    | int n =>
      obtain ⟨⟨h0, h1, h2⟩, k⟩ := fi_if q
      exact op_mulS pins s σ H _ _ v u Q I rx ry ⟨z, n, rfl, rfl, PyProof.Rows.mulOk_of 1000 1000 h2 h1 (by omega) (by decide) (by decide), k _ H (Same.refl H) (.str _ (mul_len h0 h1 h2))⟩
    | _ => exact (show False from q).elim
  | lst h1 rr1 =>
    cases r2 with
    | int n =>
      obtain ⟨⟨h0, hn, hz⟩, k⟩ := fi_if q
      exact op_repR pins s σ H _ _ v u Q I rx ry ⟨_, n, _, rfl, rfl, hid_up h1, by omega, by omega, by rw [rr1.length, ← szT_eq]; exact hz, fun p hp => k _ _ (Same.upd hp) (.newL hb hp (rr1.rep _))⟩
    | _ => exact (show False from q).elim
  | _ => cases r2 <;> exact (show False from q).elim
end
end L2

namespace L2
open PySem PySem.Spec PyProof.Rows
/-! ### == of trees -/
mutual
def eqT : Tr → Tr → Bool
  | .non, .non => true
  | .bl a, .bl b => a == b
  | .bl a, .int b => (if a then 1 else 0) == b
  | .int a, .bl b => a == (if b then 1 else 0)
  | .int a, .int b => a == b
  | .str a, .str b => a == b
  | .tup a, .tup b => eqTs a b
  | .lst a, .lst b => eqTs a b
  | _, _ => false
def eqTs : List Tr → List Tr → Bool
  | [], [] => true
  | x :: xs, y :: ys => eqT x y && eqTs xs ys
  | _, _ => false
end
mutual
/-- no dict, no script, no kind in it -/
def plT : Tr → Bool
  | .non => true
  | .bl _ => true
  | .int _ => true
  | .str _ => true
  | .tup ts => plTs ts
  | .lst ts => plTs ts
  | _ => false
def plTs : List Tr → Bool
  | [] => true
  | t :: ts => plT t && plTs ts
end
mutual
def dT : Tr → Nat
  | .tup ts => dTs ts + 1
  | .lst ts => dTs ts + 1
  | _ => 0
def dTs : List Tr → Nat
  | [] => 0
  | t :: ts => max (dT t) (dTs ts)
end
theorem plTs_mem : ∀ {ts : List Tr}, plTs ts = true → ∀ t ∈ ts, plT t = true
  | [], _, t, h => nomatch h
  | u :: us, h, t, m => by
    rw [plTs, Bool.and_eq_true] at h
    rcases List.mem_cons.mp m with rfl | m
    · exact h.1
    · exact plTs_mem h.2 t m
theorem dTs_mem : ∀ {ts : List Tr}, ∀ t ∈ ts, dT t ≤ dTs ts
  | [], t, h => nomatch h
  | u :: us, t, m => by
    rw [dTs]
    rcases List.mem_cons.mp m with rfl | m
    · exact Nat.le_max_left _ _
    · exact Nat.le_trans (dTs_mem t m) (Nat.le_max_right _ _)
theorem eqTs_all : ∀ (xs ys : List Tr), ((List.range (min xs.length ys.length)).all (fun j => eqT (xs.getD j .non) (ys.getD j .non)) && xs.length == ys.length) = eqTs xs ys
  | [], [] => rfl
  | [], y :: ys => rfl
  | x :: xs, [] => rfl
  | x :: xs, y :: ys => by
    have ih := eqTs_all xs ys
    rw [eqTs, ← ih, List.length_cons, List.length_cons, Nat.succ_min_succ, List.range_succ_eq_map, List.all_cons, List.all_map, Bool.and_assoc]
    congr 1
    have e1 : (xs.length + 1 == ys.length + 1) = (xs.length == ys.length) := by rw [Bool.eq_iff_iff, beq_iff_eq, beq_iff_eq]; omega
    rw [e1]
    rfl
section
variable {A : Around} {s : Shared}
theorem eqAt_rc {v u : Value} {k : Bool} (hv : ∀ b t, v ≠ Value.float b t) (hs : v = u → k = true) (h : SeqAt.RcAt A s v u k) : SeqAt.EqAt A s v u k := fun prog w E Q hq => by
  unfold eqBool
  refine wpAny_holding ?_
  refine wpAny_ite_split (fun hab => ?_) (fun _ => ?_)
  · rw [hs (eq_of_beq hab)] at hq
    exact wpAny_bind (wpAny_rule (wpAny_pure hq))
  · cases v with
    | float b t => exact absurd rfl (hv b t)
    | _ => exact wpAny_bind (h prog w E _ (wpAny_truthy_bool hq))
end
section
variable {X : Cx} {pins : List (Addr × Obj)} {σ : St} {H : Hp} {s : Shared}
theorem tup_not_lst (I : Inv X pins σ H s) {a : Addr} {vs ws : List V} (h1 : SqT X.K H a vs) (h2 : H a = some (.lst ws)) : False := by
  obtain ⟨_, _, ⟨o, e, c, _⟩, _⟩ := I.tuple h1
  obtain ⟨_, its, n, _, e2⟩ := I.hok a _ h2
  rw [e] at e2
  cases e2
  exact absurd c (by show ¬ (Value.type "list" = .type "tuple"); decide +kernel)
/-- a plain tree is told by its value -/
theorem rep_fun (I : Inv X pins σ H s) : ∀ (n : Nat) {x : V} {t t' : Tr}, dT t ≤ n → plT t = true → plT t' = true → Rep X.K H x t → Rep X.K H x t' → t = t' := by
  intro n
  induction n with
  | zero =>
    intro x t t' hd p p' r r'
    cases r with
    | tup h rr => exact absurd hd (by rw [dT]; omega)
    | lst h rr => exact absurd hd (by rw [dT]; omega)
    | ty n => cases p
    | scr h => cases p
    | dic h e rr => cases p
    | non => cases r'; rfl
    | bl b => cases r'; rfl
    | int i => cases r'; rfl
    | str z h => cases r'; rfl
  | succ n ih =>
    intro x t t' hd p p' r r'
    have go : ∀ {vs : List V} {ts ts' : List Tr}, (∀ t ∈ ts, dT t ≤ n) → (∀ t ∈ ts, plT t = true) → (∀ t ∈ ts', plT t = true) → Reps X.K H vs ts → Reps X.K H vs ts' → ts = ts' := by
      intro vs
      induction vs with
      | nil => intro ts ts' _ _ _ q q'; cases q; cases q'; rfl
      | cons v vs ihv =>
        intro ts ts' h1 h2 h3 q q'
        cases q with
        | cons qh qr =>
          cases q' with
          | cons qh' qr' =>
            rw [ih (h1 _ (List.mem_cons_self ..)) (h2 _ (List.mem_cons_self ..)) (h3 _ (List.mem_cons_self ..)) qh qh', ihv (fun t m => h1 t (List.mem_cons_of_mem _ m)) (fun t m => h2 t (List.mem_cons_of_mem _ m)) (fun t m => h3 t (List.mem_cons_of_mem _ m)) qr qr']
    cases r with
    | tup h rr =>
      rw [dT] at hd
      cases r' with
      | tup h' rr' =>
        have e := I.tuple_inj h h'
        subst e
        rw [go (fun t m => Nat.le_trans (dTs_mem t m) (by omega)) (plTs_mem p) (plTs_mem p') rr rr']
      | lst h' rr' => exact (tup_not_lst I h h').elim
      | scr h' => cases p'
      | dic h' e rr' => cases p'
    | lst h rr =>
      rw [dT] at hd
      cases r' with
      | lst h' rr' =>
        rw [h] at h'
        cases h'
        rw [go (fun t m => Nat.le_trans (dTs_mem t m) (by omega)) (plTs_mem p) (plTs_mem p') rr rr']
      | tup h' rr' => exact (tup_not_lst I h' h).elim
      | scr h' => cases p'
      | dic h' e rr' => cases p'
    | ty n => cases p
    | scr h => cases p
    | dic h e rr => cases p
    | non => cases r'; rfl
    | bl b => cases r'; rfl
    | int i => cases r'; rfl
    | str z h => cases r'; rfl
mutual
theorem eqT_refl : ∀ {t : Tr}, plT t = true → eqT t t = true
  | .non, _ => rfl
  | .bl b, _ => by rw [eqT]; exact beq_self_eq_true b
  | .int i, _ => by rw [eqT]; exact beq_self_eq_true i
  | .str z, _ => by rw [eqT]; exact beq_self_eq_true z
  | .tup ts, h => by rw [eqT]; rw [plT] at h; exact eqTs_refl h
  | .lst ts, h => by rw [eqT]; rw [plT] at h; exact eqTs_refl h
  | .ty _, h => by cases h
  | .scr _, h => by cases h
  | .dic _, h => by cases h
theorem eqTs_refl : ∀ {ts : List Tr}, plTs ts = true → eqTs ts ts = true
  | [], _ => rfl
  | t :: ts, h => by
    rw [plTs, Bool.and_eq_true] at h
    rw [eqTs, eqT_refl h.1, eqTs_refl h.2]
    rfl
end
theorem getD_of {α : Type} {l : List α} {j : Nat} {x d : α} (h : l[j]? = some x) : l.getD j d = x := by rw [List.getD_eq_getElem?_getD, h]; rfl
/-- == of two plain trees, at a depth -/
theorem rc_rep (I : Inv X pins σ H s) : ∀ (n : Nat) {A : Around} {x y : V} {v u : Value} {t t' : Tr}, dT t ≤ n → plT t = true → plT t' = true → Rep X.K H x t → Rep X.K H y t' → RelV x v → RelV y u → A.units + n < cLine → SeqAt.RcAt A s v u (eqT t t') := by
  intro n
  induction n with
  | zero =>
    intro A x y v u t t' hd p p' r r' rx ry hu
    cases r with
    | tup h rr => exact absurd hd (by rw [dT]; omega)
    | lst h rr => exact absurd hd (by rw [dT]; omega)
    | ty n => cases p
    | scr h => cases p
    | dic h e rr => cases p
    | non =>
      cases (show v = Value.none from rx)
      cases r' with
      | non => cases (show u = Value.none from ry); exact SeqAt.RcAt.none_none
      | bl b => cases (show u = Value.bool b from ry); exact SeqAt.RcAt.none_bool b
      | int b => obtain ⟨w, rfl⟩ := (show ∃ t, u = Value.int b t from ry); exact SeqAt.RcAt.none_int b w
      | str b _ => obtain ⟨w, rfl⟩ := (show ∃ t, u = Value.str b t from ry); exact SeqAt.RcAt.none_str b w
      | @tup a _ _ h rr => cases (show u = Value.ref a from ry); obtain ⟨_, _, q, _⟩ := I.tuple h; exact SeqAt.RcAt.none_tuple q (by omega)
      | @lst a _ _ h rr => cases (show u = Value.ref a from ry); obtain ⟨_, _, q, _⟩ := I.list (.of h); exact SeqAt.RcAt.none_list q.isList (by omega)
      | ty n => cases p'
      | scr h => cases p'
      | dic h e rr => cases p'
    | bl c =>
      cases (show v = Value.bool c from rx)
      cases r' with
      | non => cases (show u = Value.none from ry); exact SeqAt.RcAt.bool_none c
      | bl b => cases (show u = Value.bool b from ry); exact SeqAt.RcAt.bool_bool c b
      | int b => obtain ⟨w, rfl⟩ := (show ∃ t, u = Value.int b t from ry); exact SeqAt.RcAt.bool_int c b w
      | str b _ => obtain ⟨w, rfl⟩ := (show ∃ t, u = Value.str b t from ry); exact SeqAt.RcAt.bool_str c b w
      | @tup a _ _ h rr => cases (show u = Value.ref a from ry); obtain ⟨_, _, q, _⟩ := I.tuple h; exact SeqAt.RcAt.bool_tuple c q (by omega)
      | @lst a _ _ h rr => cases (show u = Value.ref a from ry); obtain ⟨_, _, q, _⟩ := I.list (.of h); exact SeqAt.RcAt.bool_list c q.isList (by omega)
      | ty n => cases p'
      | scr h => cases p'
      | dic h e rr => cases p'
    | int c =>
      obtain ⟨w0, rfl⟩ := (show ∃ t, v = Value.int c t from rx)
      cases r' with
      | non => cases (show u = Value.none from ry); exact SeqAt.RcAt.int_none c w0
      | bl b => cases (show u = Value.bool b from ry); exact SeqAt.RcAt.int_bool c w0 b
      | int b => obtain ⟨w, rfl⟩ := (show ∃ t, u = Value.int b t from ry); exact SeqAt.RcAt.int_int c w0 b w
      | str b _ => obtain ⟨w, rfl⟩ := (show ∃ t, u = Value.str b t from ry); exact SeqAt.RcAt.int_str c w0 b w
      | @tup a _ _ h rr => cases (show u = Value.ref a from ry); obtain ⟨_, _, q, _⟩ := I.tuple h; exact SeqAt.RcAt.int_tuple c w0 q (by omega)
      | @lst a _ _ h rr => cases (show u = Value.ref a from ry); obtain ⟨_, _, q, _⟩ := I.list (.of h); exact SeqAt.RcAt.int_list c w0 q.isList (by omega)
      | ty n => cases p'
      | scr h => cases p'
      | dic h e rr => cases p'
    | str c _ =>
      obtain ⟨w0, rfl⟩ := (show ∃ t, v = Value.str c t from rx)
      cases r' with
      | non => cases (show u = Value.none from ry); exact SeqAt.RcAt.str_none c w0
      | bl b => cases (show u = Value.bool b from ry); exact SeqAt.RcAt.str_bool c w0 b
      | int b => obtain ⟨w, rfl⟩ := (show ∃ t, u = Value.int b t from ry); exact SeqAt.RcAt.str_int c w0 b w
      | str b _ => obtain ⟨w, rfl⟩ := (show ∃ t, u = Value.str b t from ry); exact SeqAt.RcAt.str_str c w0 b w
      | @tup a _ _ h rr => cases (show u = Value.ref a from ry); obtain ⟨_, _, q, _⟩ := I.tuple h; exact SeqAt.RcAt.str_tuple c w0 q (by omega)
      | @lst a _ _ h rr => cases (show u = Value.ref a from ry); obtain ⟨_, _, q, _⟩ := I.list (.of h); exact SeqAt.RcAt.str_list c w0 q.isList (by omega)
      | ty n => cases p'
      | scr h => cases p'
      | dic h e rr => cases p'
  | succ n ih =>
    intro A x y v u t t' hd p p' r r' rx ry hu
    by_cases hflat : dT t = 0
    · have e0 : dT t ≤ n := by omega
      exact ih e0 p p' r r' rx ry (by omega)
    have items : ∀ {vs vs' : List V} {us us' : List Value} {ts ts' : List Tr} (j : Nat) (h1 : j < us.length) (h2 : j < us'.length), (∀ t ∈ ts, dT t ≤ n) → (∀ t ∈ ts, plT t = true) → (∀ t ∈ ts', plT t = true) → Reps X.K H vs ts → Reps X.K H vs' ts' → Vals vs us → Vals vs' us' →
        SeqAt.EqAt A.in1 s us[j] us'[j] (eqT (ts.getD j .non) (ts'.getD j .non)) := by
      intro vs vs' us us' ts ts' j h1 h2 d1 q1 q2 rr rr' rv rv'
      have k1 : j < vs.length := by rw [rv.length]; exact h1
      have k2 : j < vs'.length := by rw [rv'.length]; exact h2
      obtain ⟨t1, e1, p1⟩ := rr.getV (List.getElem?_eq_getElem k1)
      obtain ⟨t2, e2, p2⟩ := rr'.getV (List.getElem?_eq_getElem k2)
      obtain ⟨w1, f1, g1⟩ := rv.get (List.getElem?_eq_getElem k1)
      obtain ⟨w2, f2, g2⟩ := rv'.get (List.getElem?_eq_getElem k2)
      rw [List.getElem?_eq_getElem h1] at f1
      rw [List.getElem?_eq_getElem h2] at f2
      rw [Option.some.inj f1, Option.some.inj f2, getD_of e1, getD_of e2]
      have m1 := List.mem_of_getElem? e1
      have m2 := List.mem_of_getElem? e2
      refine eqAt_rc (fun b t e => ?_) (fun e => ?_) (ih (d1 _ m1) (q1 _ m1) (q2 _ m2) p1 p2 g1 g2 (by show A.units + 1 + n < cLine; omega))
      · subst e
        have g1' : ∃ v0, Rep X.K H v0 t1 ∧ RelV v0 (.float b t) := ⟨_, p1, g1⟩
        obtain ⟨v0, p0, g0⟩ := g1'
        cases p0 <;> first | (obtain ⟨_, z⟩ := g0; cases z; done) | (cases g0; done)
      subst e
      rw [g1.inj g2] at p1
      rw [← rep_fun I n (d1 _ m1) (q1 _ m1) (q2 _ m2) p1 p2]
      exact eqT_refl (q1 _ m1)
    cases r with
    | @tup a vs ts h rr =>
      rw [dT] at hd
      cases (show v = Value.ref a from rx)
      obtain ⟨us, rv, pt, _⟩ := I.tuple h
      cases r' with
      | non => cases (show u = Value.none from ry); exact SeqAt.RcAt.tuple_none pt (by omega)
      | bl b => cases (show u = Value.bool b from ry); exact SeqAt.RcAt.tuple_bool b pt (by omega)
      | int b => obtain ⟨w, rfl⟩ := (show ∃ t, u = Value.int b t from ry); exact SeqAt.RcAt.tuple_int b w pt (by omega)
      | str b _ => obtain ⟨w, rfl⟩ := (show ∃ t, u = Value.str b t from ry); exact SeqAt.RcAt.tuple_str b w pt (by omega)
      | @tup a' vs' ts' h' rr' =>
        cases (show u = Value.ref a' from ry)
        obtain ⟨us', rv', pt', _⟩ := I.tuple h'
        have q := SeqAt.RcAt.tuples (A := A) (e := fun j => eqT (ts.getD j .non) (ts'.getD j .non)) pt pt' (by omega) fun j h1 h2 => by
          have := items j (by simpa using h1) (by simpa using h2) (fun t m => Nat.le_trans (dTs_mem t m) (by omega)) (plTs_mem p) (plTs_mem p') rr rr' rv rv'
          simpa using this
        rw [List.size_toArray, List.size_toArray, ← rv.length, ← rv'.length, rr.length, rr'.length, eqTs_all] at q
        rw [eqT]
        exact q
      | @lst a' _ _ h' rr' => cases (show u = Value.ref a' from ry); obtain ⟨_, _, q, _⟩ := I.list (.of h'); exact SeqAt.RcAt.tuple_list pt q.isList (by omega)
      | ty n => cases p'
      | scr h => cases p'
      | dic h e rr => cases p'
    | @lst a vs ts h rr =>
      rw [dT] at hd
      cases (show v = Value.ref a from rx)
      obtain ⟨us, rv, pl, _⟩ := I.list (.of h)
      cases r' with
      | non => cases (show u = Value.none from ry); exact SeqAt.RcAt.list_none pl.isList (by omega)
      | bl b => cases (show u = Value.bool b from ry); exact SeqAt.RcAt.list_bool b pl.isList (by omega)
      | int b => obtain ⟨w, rfl⟩ := (show ∃ t, u = Value.int b t from ry); exact SeqAt.RcAt.list_int b w pl.isList (by omega)
      | str b _ => obtain ⟨w, rfl⟩ := (show ∃ t, u = Value.str b t from ry); exact SeqAt.RcAt.list_str b w pl.isList (by omega)
      | @tup a' _ _ h' rr' => cases (show u = Value.ref a' from ry); obtain ⟨_, _, q, _⟩ := I.tuple h'; exact SeqAt.RcAt.list_tuple pl.isList q (by omega)
      | @lst a' vs' ts' h' rr' =>
        cases (show u = Value.ref a' from ry)
        obtain ⟨us', rv', pl', _⟩ := I.list (.of h')
        rw [eqT]
        by_cases hz : ts.length = ts'.length
        · have q := SeqAt.RcAt.lists (A := A) (e := fun j => eqT (ts.getD j .non) (ts'.getD j .non)) pl.isList pl'.isList (by rw [List.size_toArray, List.size_toArray, ← rv.length, ← rv'.length, rr.length, rr'.length]; exact hz) (by omega) fun j h1 h2 => by
            have := items j (by simpa using h1) (by simpa using h2) (fun t m => Nat.le_trans (dTs_mem t m) (by omega)) (plTs_mem p) (plTs_mem p') rr rr' rv rv'
            simpa using this
          have e := eqTs_all ts ts'
          rw [hz, Nat.min_self, beq_self_eq_true, Bool.and_true] at e
          rw [List.size_toArray, ← rv.length, rr.length, hz, e] at q
          exact q
        · have e := eqTs_all ts ts'
          rw [beq_false_of_ne hz, Bool.and_false] at e
          rw [← e]
          exact SeqAt.RcAt.lists_lengths pl.isList pl'.isList (by rw [List.size_toArray, List.size_toArray, ← rv.length, ← rv'.length, rr.length, rr'.length]; simpa using hz) (by omega)
      | ty n => cases p'
      | scr h => cases p'
      | dic h e rr => cases p'
    | _ => exact absurd rfl hflat
end
/-! ### the comparisons -/
section
variable {X : Cx}
def eqC (a b : Tr) : Rs Tr := if plT a = true ∧ plT b = true ∧ dT a ≤ 40 then .ok (.bl (eqT a b)) else .bad
theorem o_eq (hu : X.A.units + 40 < cLine) : OpT X (compareOp .Eq) eqC := by
  intro pins s σ H x y v u Q I rx ry ⟨B, tx, ty, hb, r1, r2, q⟩
  obtain ⟨⟨p1, p2, hd⟩, k⟩ := fi_if q
  exact rc_rep I 40 hd p1 p2 r1.up r2.up rx ry hu _ _ _ _ ⟨.bl _, H, I, rfl, k _ H (Same.refl H) (.bl _)⟩
end
end L2

namespace L2
open PySem PySem.Spec PyProof.Rows
section
variable {X : Cx} {pins : List (Addr × Obj)} {σ : St} {H : Hp} {s : Shared}
theorem rep_nofloat {K : PySem.W.Frag} {x : V} {t : Tr} {v : Value} (r : Rep K H x t) (rx : RelV x v) : ∀ b t, v ≠ Value.float b t := fun b t e => by
  subst e
  cases r <;> first | (obtain ⟨_, z⟩ := rx; cases z; done) | (cases rx; done)
theorem eqAt_rep (I : Inv X pins σ H s) (n : Nat) {A : Around} {x y : V} {v u : Value} {t t' : Tr} (hd : dT t ≤ n) (p : plT t = true) (p' : plT t' = true) (r : Rep X.K H x t) (r' : Rep X.K H y t') (rx : RelV x v) (ry : RelV y u) (hu : A.units + n < cLine) : SeqAt.EqAt A s v u (eqT t t') := by
  refine eqAt_rc (rep_nofloat r rx) (fun e => ?_) (rc_rep I n hd p p' r r' rx ry hu)
  subst e
  rw [rx.inj ry] at r
  rw [← rep_fun I n hd p p' r r']
  exact eqT_refl p
theorem eqAt_items (I : Inv X pins σ H s) (n : Nat) {A : Around} {vs vs' : List V} {us us' : List Value} {ts ts' : List Tr} (j : Nat) (h1 : j < us.length) (h2 : j < us'.length) (d1 : ∀ t ∈ ts, dT t ≤ n) (q1 : ∀ t ∈ ts, plT t = true) (q2 : ∀ t ∈ ts', plT t = true) (rr : Reps X.K H vs ts) (rr' : Reps X.K H vs' ts') (rv : Vals vs us) (rv' : Vals vs' us') (hu : A.units + n < cLine) :
    SeqAt.EqAt A s us[j] us'[j] (eqT (ts.getD j .non) (ts'.getD j .non)) := by
  have k1 : j < vs.length := by rw [rv.length]; exact h1
  have k2 : j < vs'.length := by rw [rv'.length]; exact h2
  obtain ⟨t1, e1, p1⟩ := rr.getV (List.getElem?_eq_getElem k1)
  obtain ⟨t2, e2, p2⟩ := rr'.getV (List.getElem?_eq_getElem k2)
  obtain ⟨w1, f1, g1⟩ := rv.get (List.getElem?_eq_getElem k1)
  obtain ⟨w2, f2, g2⟩ := rv'.get (List.getElem?_eq_getElem k2)
  rw [List.getElem?_eq_getElem h1] at f1
  rw [List.getElem?_eq_getElem h2] at f2
  rw [Option.some.inj f1, Option.some.inj f2, getD_of e1, getD_of e2]
  exact eqAt_rep I n (d1 _ (List.mem_of_getElem? e1)) (q1 _ (List.mem_of_getElem? e1)) (q2 _ (List.mem_of_getElem? e2)) p1 p2 g1 g2 hu
theorem ne_rep (I : Inv X pins σ H s) (n : Nat) {A : Around} {x y : V} {v u : Value} {t t' : Tr} (hd : dT t ≤ n + 1) (p : plT t = true) (p' : plT t' = true) (r : Rep X.K H x t) (r' : Rep X.K H y t') (rx : RelV x v) (ry : RelV y u) (hu : A.units + (n + 1) < cLine) : SeqAt.RcNeAt A s v u (!eqT t t') := by
  have hu0 : A.units < cLine := by omega
  cases r with
  | ty n => cases p
  | scr h => cases p
  | dic h e rr => cases p
  | non =>
    cases (show v = Value.none from rx)
    cases r' with
    | non => cases (show u = Value.none from ry); exact SeqAt.RcNeAt.none_none
    | bl b => cases (show u = Value.bool b from ry); exact SeqAt.RcNeAt.none_bool b
    | int b => obtain ⟨w, rfl⟩ := (show ∃ t, u = Value.int b t from ry); exact SeqAt.RcNeAt.none_int b w
    | str b _ => obtain ⟨w, rfl⟩ := (show ∃ t, u = Value.str b t from ry); exact SeqAt.RcNeAt.none_str b w
    | @tup a _ _ h rr => cases (show u = Value.ref a from ry); obtain ⟨_, _, q, _⟩ := I.tuple h; exact SeqAt.RcNeAt.none_tuple q hu0
    | @lst a _ _ h rr => cases (show u = Value.ref a from ry); obtain ⟨_, _, q, _⟩ := I.list (.of h); exact SeqAt.RcNeAt.none_list q.isList hu0
    | ty n => cases p'
    | scr h => cases p'
    | dic h e rr => cases p'
  | bl c =>
    cases (show v = Value.bool c from rx)
    cases r' with
    | non => cases (show u = Value.none from ry); exact SeqAt.RcNeAt.bool_none c
    | bl b => cases (show u = Value.bool b from ry); exact SeqAt.RcNeAt.bool_bool c b
    | int b => obtain ⟨w, rfl⟩ := (show ∃ t, u = Value.int b t from ry); exact SeqAt.RcNeAt.bool_int c b w
    | str b _ => obtain ⟨w, rfl⟩ := (show ∃ t, u = Value.str b t from ry); exact SeqAt.RcNeAt.bool_str c b w
    | @tup a _ _ h rr => cases (show u = Value.ref a from ry); obtain ⟨_, _, q, _⟩ := I.tuple h; exact SeqAt.RcNeAt.bool_tuple c q hu0
    | @lst a _ _ h rr => cases (show u = Value.ref a from ry); obtain ⟨_, _, q, _⟩ := I.list (.of h); exact SeqAt.RcNeAt.bool_list c q.isList hu0
    | ty n => cases p'
    | scr h => cases p'
    | dic h e rr => cases p'
  | int c =>
    obtain ⟨w0, rfl⟩ := (show ∃ t, v = Value.int c t from rx)
    cases r' with
    | non => cases (show u = Value.none from ry); exact SeqAt.RcNeAt.int_none c w0
    | bl b => cases (show u = Value.bool b from ry); exact SeqAt.RcNeAt.int_bool c w0 b
    | int b => obtain ⟨w, rfl⟩ := (show ∃ t, u = Value.int b t from ry); exact SeqAt.RcNeAt.int_int c w0 b w
    | str b _ => obtain ⟨w, rfl⟩ := (show ∃ t, u = Value.str b t from ry); exact SeqAt.RcNeAt.int_str c w0 b w
    | @tup a _ _ h rr => cases (show u = Value.ref a from ry); obtain ⟨_, _, q, _⟩ := I.tuple h; exact SeqAt.RcNeAt.int_tuple c w0 q hu0
    | @lst a _ _ h rr => cases (show u = Value.ref a from ry); obtain ⟨_, _, q, _⟩ := I.list (.of h); exact SeqAt.RcNeAt.int_list c w0 q.isList hu0
    | ty n => cases p'
    | scr h => cases p'
    | dic h e rr => cases p'
  | str c _ =>
    obtain ⟨w0, rfl⟩ := (show ∃ t, v = Value.str c t from rx)
    cases r' with
    | non => cases (show u = Value.none from ry); exact SeqAt.RcNeAt.str_none c w0
    | bl b => cases (show u = Value.bool b from ry); exact SeqAt.RcNeAt.str_bool c w0 b
    | int b => obtain ⟨w, rfl⟩ := (show ∃ t, u = Value.int b t from ry); exact SeqAt.RcNeAt.str_int c w0 b w
    | str b _ => obtain ⟨w, rfl⟩ := (show ∃ t, u = Value.str b t from ry); exact SeqAt.RcNeAt.str_str c w0 b w
    | @tup a _ _ h rr => cases (show u = Value.ref a from ry); obtain ⟨_, _, q, _⟩ := I.tuple h; exact SeqAt.RcNeAt.str_tuple c w0 q hu0
    | @lst a _ _ h rr => cases (show u = Value.ref a from ry); obtain ⟨_, _, q, _⟩ := I.list (.of h); exact SeqAt.RcNeAt.str_list c w0 q.isList hu0
    | ty n => cases p'
    | scr h => cases p'
    | dic h e rr => cases p'
  | @tup a vs ts h rr =>
    rw [dT] at hd
    cases (show v = Value.ref a from rx)
    obtain ⟨us, rv, pt, _⟩ := I.tuple h
    cases r' with
    | non => cases (show u = Value.none from ry); exact SeqAt.RcNeAt.tuple_none pt hu0
    | bl b => cases (show u = Value.bool b from ry); exact SeqAt.RcNeAt.tuple_bool b pt hu0
    | int b => obtain ⟨w, rfl⟩ := (show ∃ t, u = Value.int b t from ry); exact SeqAt.RcNeAt.tuple_int b w pt hu0
    | str b _ => obtain ⟨w, rfl⟩ := (show ∃ t, u = Value.str b t from ry); exact SeqAt.RcNeAt.tuple_str b w pt hu0
    | @tup a' vs' ts' h' rr' =>
      cases (show u = Value.ref a' from ry)
      obtain ⟨us', rv', pt', _⟩ := I.tuple h'
      have q := SeqAt.RcNeAt.tuples (A := A) (e := fun j => eqT (ts.getD j .non) (ts'.getD j .non)) pt pt' hu0 fun j h1 h2 => by
        have := eqAt_items I n (A := A.in1) j (by simpa using h1) (by simpa using h2) (fun t m => Nat.le_trans (dTs_mem t m) (by omega)) (plTs_mem p) (plTs_mem p') rr rr' rv rv' (by show A.units + 1 + n < cLine; omega)
        simpa using this
      rw [List.size_toArray, List.size_toArray, ← rv.length, ← rv'.length, rr.length, rr'.length, eqTs_all] at q
      rw [eqT]
      exact q
    | @lst a' _ _ h' rr' => cases (show u = Value.ref a' from ry); obtain ⟨_, _, q, _⟩ := I.list (.of h'); exact SeqAt.RcNeAt.tuple_list pt q.isList hu0
    | ty n => cases p'
    | scr h => cases p'
    | dic h e rr => cases p'
  | @lst a vs ts h rr =>
    rw [dT] at hd
    cases (show v = Value.ref a from rx)
    obtain ⟨us, rv, pl, _⟩ := I.list (.of h)
    cases r' with
    | non => cases (show u = Value.none from ry); exact SeqAt.RcNeAt.list_none pl.isList hu0
    | bl b => cases (show u = Value.bool b from ry); exact SeqAt.RcNeAt.list_bool b pl.isList hu0
    | int b => obtain ⟨w, rfl⟩ := (show ∃ t, u = Value.int b t from ry); exact SeqAt.RcNeAt.list_int b w pl.isList hu0
    | str b _ => obtain ⟨w, rfl⟩ := (show ∃ t, u = Value.str b t from ry); exact SeqAt.RcNeAt.list_str b w pl.isList hu0
    | @tup a' _ _ h' rr' => cases (show u = Value.ref a' from ry); obtain ⟨_, _, q, _⟩ := I.tuple h'; exact SeqAt.RcNeAt.list_tuple pl.isList q hu0
    | @lst a' vs' ts' h' rr' =>
      cases (show u = Value.ref a' from ry)
      obtain ⟨us', rv', pl', _⟩ := I.list (.of h')
      rw [eqT]
      by_cases hz : ts.length = ts'.length
      · have q := SeqAt.RcNeAt.lists (A := A) (e := fun j => eqT (ts.getD j .non) (ts'.getD j .non)) pl.isList pl'.isList (by rw [List.size_toArray, List.size_toArray, ← rv.length, ← rv'.length, rr.length, rr'.length]; exact hz) hu0 fun j h1 h2 => by
          have := eqAt_items I n (A := A.in1) j (by simpa using h1) (by simpa using h2) (fun t m => Nat.le_trans (dTs_mem t m) (by omega)) (plTs_mem p) (plTs_mem p') rr rr' rv rv' (by show A.units + 1 + n < cLine; omega)
          simpa using this
        have e := eqTs_all ts ts'
        rw [hz, Nat.min_self, beq_self_eq_true, Bool.and_true] at e
        rw [List.size_toArray, ← rv.length, rr.length, hz, e] at q
        exact q
      · have e := eqTs_all ts ts'
        rw [beq_false_of_ne hz, Bool.and_false] at e
        rw [← e]
        exact SeqAt.RcNeAt.lists_lengths pl.isList pl'.isList (by rw [List.size_toArray, List.size_toArray, ← rv.length, ← rv'.length, rr.length, rr'.length]; simpa using hz) hu0
    | ty n => cases p'
    | scr h => cases p'
    | dic h e rr => cases p'
end
section
variable {X : Cx}
def neC (a b : Tr) : Rs Tr := if plT a = true ∧ plT b = true ∧ dT a ≤ 40 then .ok (.bl (!eqT a b)) else .bad
theorem o_ne (hu : X.A.units + 40 < cLine) : OpT X (compareOp .NotEq) neC := by
  intro pins s σ H x y v u Q I rx ry ⟨B, tx, ty, hb, r1, r2, q⟩
  obtain ⟨⟨p1, p2, hd⟩, k⟩ := fi_if q
  exact ne_rep I 39 hd p1 p2 r1.up r2.up rx ry hu _ _ _ _ ⟨.bl _, H, I, rfl, k _ H (Same.refl H) (.bl _)⟩
/-! ### < <= > >= -/
def ltC : Tr → Tr → Rs Tr
  | .int i, .int j => .ok (.bl (decide (i < j)))
  | .str a, .str b => .ok (.bl (decide (a.cps.toList < b.cps.toList)))
  | _, _ => .bad
def leC : Tr → Tr → Rs Tr
  | .int i, .int j => .ok (.bl (decide (i ≤ j)))
  | .str a, .str b => .ok (.bl (!(decide (b.cps.toList < a.cps.toList))))
  | _, _ => .bad
def gtC : Tr → Tr → Rs Tr
  | .int i, .int j => .ok (.bl (decide (j < i)))
  | _, _ => .bad
def geC : Tr → Tr → Rs Tr
  | .int i, .int j => .ok (.bl (decide (j ≤ i)))
  | _, _ => .bad
theorem o_lt : OpT X (compareOp .Lt) ltC := by
  intro pins s σ H x y v u Q I rx ry ⟨B, tx, ty, hb, r1, r2, q⟩
  cases r1 with
  | int i =>
    cases r2 with
    | int j => exact op_lt pins s σ H _ _ v u Q I rx ry ⟨i, j, rfl, rfl, q _ H (Same.refl H) (.bl _)⟩
    | _ => exact (show False from q).elim
  | str a _ =>
    cases r2 with
    | str b _ => exact op_lt_str pins s σ H _ _ v u Q I rx ry ⟨a, b, rfl, rfl, q _ H (Same.refl H) (.bl _)⟩
    | _ => exact (show False from q).elim
  | _ => cases r2 <;> exact (show False from q).elim
theorem o_le : OpT X (compareOp .LtE) leC := by
  intro pins s σ H x y v u Q I rx ry ⟨B, tx, ty, hb, r1, r2, q⟩
  cases r1 with
  | int i =>
    cases r2 with
    | int j => exact op_le pins s σ H _ _ v u Q I rx ry ⟨i, j, rfl, rfl, q _ H (Same.refl H) (.bl _)⟩
    | _ => exact (show False from q).elim
  | str a _ =>
    cases r2 with
    | str b _ => exact op_le_str pins s σ H _ _ v u Q I rx ry ⟨a, b, rfl, rfl, q _ H (Same.refl H) (.bl _)⟩
    | _ => exact (show False from q).elim
  | _ => cases r2 <;> exact (show False from q).elim
theorem o_gt : OpT X (compareOp .Gt) gtC := by
  intro pins s σ H x y v u Q I rx ry ⟨B, tx, ty, hb, r1, r2, q⟩
  cases r1 with
  | int i =>
    cases r2 with
    | int j => exact op_gt pins s σ H _ _ v u Q I rx ry ⟨i, j, rfl, rfl, q _ H (Same.refl H) (.bl _)⟩
    | _ => exact (show False from q).elim
  | _ => cases r2 <;> exact (show False from q).elim
theorem o_ge : OpT X (compareOp .GtE) geC := by
  intro pins s σ H x y v u Q I rx ry ⟨B, tx, ty, hb, r1, r2, q⟩
  cases r1 with
  | int i =>
    cases r2 with
    | int j => exact op_ge pins s σ H _ _ v u Q I rx ry ⟨i, j, rfl, rfl, q _ H (Same.refl H) (.bl _)⟩
    | _ => exact (show False from q).elim
  | _ => cases r2 <;> exact (show False from q).elim
/-! ### is, is not -/
def isN : Tr → Bool
  | .non => true
  | _ => false
theorem isN_rep {K : PySem.W.Frag} {H : Hp} {x : V} {t : Tr} (r : Rep K H x t) : decide (x = .non) = isN t := by
  cases r <;> rfl
def isC : Tr → Tr → Rs Tr
  | a, .non => .ok (.bl (isN a))
  | .bl a, .bl b => .ok (.bl (a == b))
  | _, _ => .bad
def isnC : Tr → Tr → Rs Tr
  | a, .non => .ok (.bl (!isN a))
  | .bl a, .bl b => .ok (.bl (a != b))
  | _, _ => .bad
theorem o_is : OpT X (compareOp .Is) isC := by
  intro pins s σ H x y v u Q I rx ry ⟨B, tx, ty, hb, r1, r2, q⟩
  cases r2 with
  | non =>
    have k : ∀ v H', Same H H' → Rep X.K (hid B H') v (.bl (isN tx)) → Q v H' := by cases tx <;> exact q
    exact op_isN pins s σ H _ _ v u Q I rx ry ⟨rfl, by rw [isN_rep r1]; exact k _ H (Same.refl H) (.bl _)⟩
  | bl b =>
    cases r1 with
    | bl a => exact op_isB pins s σ H _ _ v u Q I rx ry ⟨a, b, rfl, rfl, q _ H (Same.refl H) (.bl _)⟩
    | _ => exact (show False from q).elim
  | _ => cases r1 <;> exact (show False from q).elim
theorem o_isn : OpT X (compareOp .IsNot) isnC := by
  intro pins s σ H x y v u Q I rx ry ⟨B, tx, ty, hb, r1, r2, q⟩
  cases r2 with
  | non =>
    have k : ∀ v H', Same H H' → Rep X.K (hid B H') v (.bl (!isN tx)) → Q v H' := by cases tx <;> exact q
    exact op_notN pins s σ H _ _ v u Q I rx ry ⟨rfl, by rw [isN_rep r1]; exact k _ H (Same.refl H) (.bl _)⟩
  | bl b =>
    cases r1 with
    | bl a => exact op_isnotB pins s σ H _ _ v u Q I rx ry ⟨a, b, rfl, rfl, q _ H (Same.refl H) (.bl _)⟩
    | _ => exact (show False from q).elim
  | _ => cases r1 <;> exact (show False from q).elim
/-! ### dicts that are read -/
def valT (kts : List (Key × Tr)) (k : Key) : Option Tr := (kts.find? fun kv => decide (kv.1 = k)).map (·.2)
def keyT : Tr → Option Key
  | .int i => some (.inl i)
  | .str z => some (.inr z)
  | _ => none
theorem key_rep {K : PySem.W.Frag} {H : Hp} {x : V} {t : Tr} {k : Key} (r : Rep K H x t) (e : keyT t = some k) : x = kV k := by
  cases r with
  | int i => cases e; rfl
  | str z h => cases e; rfl
  | _ => cases e
theorem val_rep {K : PySem.W.Frag} {H : Hp} (k : Key) : ∀ {kvs : List (Key × V)} {kts : List (Key × Tr)}, kvs.map (·.1) = kts.map (·.1) → Reps K H (kvs.map (·.2)) (kts.map (·.2)) → (valT kts k = none ∧ valV kvs k = none) ∨ ∃ t v, valT kts k = some t ∧ valV kvs k = some v ∧ Rep K H v t
  | [], [], _, _ => .inl ⟨rfl, rfl⟩
  | [], _ :: _, e, _ => by cases e
  | _ :: _, [], e, _ => by cases e
  | (k1, v1) :: kvs, (k2, t2) :: kts, e, r => by
    rw [List.map_cons, List.map_cons] at e
    injection e with e1 e2
    have e1' : k1 = k2 := e1
    subst e1'
    cases r with
    | cons h r =>
      by_cases q : k1 = k
      · refine .inr ⟨t2, v1, ?_, valV_pos q, h⟩
        unfold valT
        rw [List.find?_cons, decide_eq_true (show (k1, t2).1 = k from q)]
        rfl
      · rw [valV_neg q]
        have e3 : valT ((k1, t2) :: kts) k = valT kts k := by
          unfold valT
          rw [List.find?_cons, decide_eq_false (show ¬ (k1, t2).1 = k from q)]
        rw [e3]
        exact val_rep k e2 r
theorem dget_rep {K : PySem.W.Frag} {H : Hp} {a : Addr} {kvs : List (Key × V)} {kts : List (Key × Tr)} {y : V} {t : Tr} {k : Key} (h : H a = some (.dK kvs)) (e : kvs.map (·.1) = kts.map (·.1)) (r : Reps K H (kvs.map (·.2)) (kts.map (·.2))) (ry : Rep K H y t) (hk : keyT t = some k) :
    ∃ o, DGet H a y o ∧ ((valT kts k = none ∧ o = none) ∨ ∃ t v, valT kts k = some t ∧ o = some v ∧ Rep K H v t) := by
  have e1 := key_rep ry hk
  subst e1
  refine ⟨_, DGet.k (k := k) h, ?_⟩
  rcases val_rep k e r with ⟨h1, h2⟩ | ⟨t, v, h1, h2, h3⟩
  · exact .inl ⟨h1, h2⟩
  · exact .inr ⟨t, v, h1, h2, h3⟩
/-! ### in, not in: flat things -/
def flT : Tr → Bool
  | .non => true
  | .bl _ => true
  | .int _ => true
  | .str _ => true
  | _ => false
theorem flat_rep {K : PySem.W.Frag} {H : Hp} {x : V} {t : Tr} (r : Rep K H x t) : flatV x = flT t := by cases r <;> rfl
theorem flats_rep {K : PySem.W.Frag} {H : Hp} : ∀ {vs : List V} {ts : List Tr}, Reps K H vs ts → vs.all flatV = ts.all flT
  | [], _, r => by cases r; rfl
  | _ :: _, _, r => by cases r with | cons h r => rw [List.all_cons, List.all_cons, flat_rep h, flats_rep r]
theorem eqV_rep {K : PySem.W.Frag} {H : Hp} {x y : V} {t u : Tr} (r : Rep K H x t) (q : Rep K H y u) (f : flT t = true) (g : flT u = true) : eqV x y = eqT t u := by
  cases r <;> first | (cases f; done) | (cases q <;> first | (cases g; done) | rfl)
theorem inV_rep {K : PySem.W.Frag} {H : Hp} {x : V} {t : Tr} (r : Rep K H x t) (f : flT t = true) : ∀ {vs : List V} {ts : List Tr}, Reps K H vs ts → ts.all flT = true → inV x vs = ts.any fun y => eqT y t
  | [], _, q, _ => by cases q; rfl
  | _ :: _, _, q, g => by
    cases q with
    | cons h q =>
      rw [List.all_cons, Bool.and_eq_true] at g
      show (eqV _ x || _) = _
      rw [List.any_cons, eqV_rep h r g.1 f]
      congr 1
      exact inV_rep r f q g.2
/-- an item's answer, read off its value -/
def eU (x : Tr) (u : Value) : Bool := match u with
  | .none => eqT .non x
  | .bool b => eqT (.bl b) x
  | .int i _ => eqT (.int i) x
  | .str z _ => eqT (.str z) x
  | _ => false
theorem eU_rep {K : PySem.W.Frag} {H : Hp} {y : V} {t x : Tr} {u : Value} (r : Rep K H y t) (f : flT t = true) (ry : RelV y u) : eU x u = eqT t x := by
  cases r with
  | non => cases (show u = Value.none from ry); rfl
  | bl b => cases (show u = Value.bool b from ry); rfl
  | int i => obtain ⟨w, rfl⟩ := (show ∃ t, u = Value.int i t from ry); rfl
  | str z _ => obtain ⟨w, rfl⟩ := (show ∃ t, u = Value.str z t from ry); rfl
  | _ => cases f
theorem any_eU {K : PySem.W.Frag} {H : Hp} {x : Tr} : ∀ {vs : List V} {ts : List Tr} {us : List Value}, Reps K H vs ts → ts.all flT = true → Vals vs us → us.any (eU x) = ts.any fun y => eqT y x
  | [], _, _, r, _, rv => by cases r; cases rv; rfl
  | _ :: _, _, _, r, f, rv => by
    cases r with
    | cons h r =>
      cases rv with
      | cons h1 rv =>
        rw [List.all_cons, Bool.and_eq_true] at f
        rw [List.any_cons, List.any_cons, eU_rep h f.1 h1, any_eU r f.2 rv]
theorem flat_dT {t : Tr} (f : flT t = true) : dT t ≤ 0 ∧ plT t = true := by cases t <;> first | exact ⟨Nat.le_refl _, rfl⟩ | cases f
theorem mem_eU {pins : List (Addr × Obj)} {σ : St} {H : Hp} {s : Shared} {A : Around} {x : V} {t : Tr} {v : Value} (I : Inv X pins σ H s) (hu : A.units < cLine) (rx : Rep X.K H x t) (p : plT t = true) (rv : RelV x v) : ∀ {vs : List V} {ts : List Tr} {us : List Value}, Reps X.K H vs ts → ts.all flT = true → Vals vs us → ∀ u ∈ us, SeqAt.EqAt A s u v (eU t u)
  | [], _, _, r, _, q => fun u m => by cases q; cases m
  | _ :: _, _, _, r, f, q => fun u m => by
    cases r with
    | cons h r =>
      cases q with
      | cons h1 q =>
        rw [List.all_cons, Bool.and_eq_true] at f
        rcases List.mem_cons.mp m with rfl | m
        · rw [eU_rep h f.1 h1]
          obtain ⟨d0, p0⟩ := flat_dT f.1
          exact eqAt_rep I 0 d0 p0 p h rx h1 rv hu
        · exact mem_eU I hu rx p rv r f.2 q u m
def inL (x : Tr) (ts : List Tr) : Rs Bool := if plT x = true ∧ ts.all flT = true then .ok (ts.any fun y => eqT y x) else .bad
def inC : Tr → Tr → Rs Tr
  | x, .tup ts => blR (inL x ts)
  | x, .lst ts => blR (inL x ts)
  | x, .dic kts => match keyT x with
    | some k => .ok (.bl (valT kts k).isSome)
    | none => .bad
  | _, _ => .bad
def ninC : Tr → Tr → Rs Tr
  | x, .tup ts => blR (notB (inL x ts))
  | x, .lst ts => blR (notB (inL x ts))
  | x, .dic kts => match keyT x with
    | some k => .ok (.bl (!(valT kts k).isSome))
    | none => .bad
  | _, _ => .bad
theorem inC_dic (x : Tr) (kts : List (Key × Tr)) : inC x (.dic kts) = match keyT x with | some k => .ok (.bl (valT kts k).isSome) | none => .bad := by cases x <;> rfl
theorem ninC_dic (x : Tr) (kts : List (Key × Tr)) : ninC x (.dic kts) = match keyT x with | some k => .ok (.bl (!(valT kts k).isSome)) | none => .bad := by cases x <;> rfl
theorem inL_fin {H : Hp} {x : Tr} {ts : List Tr} {k : Bool → Prop} (q : Fi X H (inL x ts) k) : plT x = true ∧ ts.all flT = true ∧ k (ts.any fun y => eqT y x) := by
  unfold inL at q
  split at q
  · rename_i h; exact ⟨h.1, h.2, q⟩
  · exact q.elim
theorem o_in (hu : X.A.units + 1 < cLine) : OpT X (compareOp .In) inC := by
  intro pins s σ H x y v u Q I rx ry ⟨B, tx, ty, hb, r1, r2, q⟩
  cases r2 with
  | tup h rr =>
    rename_i a vs ts
    obtain ⟨f, g, k⟩ := inL_fin (Fi.bind q)
    cases (show u = Value.ref a from ry)
    obtain ⟨its, rv, pl, _⟩ := I.tuple h.up
    refine SeqAt.in_tupleAt (eU tx) pl (fun w hw => mem_eU I hu r1.up f rx (rr.same hid_sub) g rv w (by simpa using hw)) ⟨.bl _, H, I, rfl, ?_⟩
    rw [show its.toArray.any (eU tx) = its.any (eU tx) by simp, any_eU rr g rv]
    exact k _ H (Same.refl H) (.bl _)
  | lst h rr =>
    rename_i a vs ts
    obtain ⟨f, g, k⟩ := inL_fin (Fi.bind q)
    cases (show u = Value.ref a from ry)
    obtain ⟨its, rv, pl, _⟩ := I.list (.of (hid_up h))
    refine SeqAt.in_listAt (eU tx) pl.isList (fun w hw => mem_eU I hu r1.up f rx (rr.same hid_sub) g rv w (by simpa using hw)) ⟨.bl _, H, I, rfl, ?_⟩
    rw [show its.toArray.any (eU tx) = its.any (eU tx) by simp, any_eU rr g rv]
    exact k _ H (Same.refl H) (.bl _)
  | dic h e rr =>
    rename_i a kvs kts
    cases ek : keyT tx with
    | none =>
      have q' := q
      rw [inC_dic, ek] at q'
      exact (show False from q').elim
    | some k =>
      have q' := q
      rw [inC_dic, ek] at q'
      obtain ⟨o, g, ho⟩ := dget_rep (hid_up h) e (rr.same hid_sub) r1.up ek
      have eo : o.isSome = (valT kts k).isSome := by
        rcases ho with ⟨h1, rfl⟩ | ⟨_, _, h1, rfl, _⟩
        · rw [h1]; rfl
        · rw [h1]; rfl
      cases (show u = Value.ref a from ry)
      refine d_in hu I g rx fun s' I' => ⟨.bl _, H, I', rfl, ?_⟩
      rw [eo]
      exact q' _ H (Same.refl H) (.bl _)
  | _ => cases r1 <;> exact (show False from q).elim
theorem o_nin (hu : X.A.units + 1 < cLine) : OpT X (compareOp .NotIn) ninC := by
  intro pins s σ H x y v u Q I rx ry ⟨B, tx, ty, hb, r1, r2, q⟩
  cases r2 with
  | tup h rr =>
    rename_i a vs ts
    obtain ⟨f, g, k⟩ := inL_fin (Fi.bind (Fi.bind q))
    cases (show u = Value.ref a from ry)
    obtain ⟨its, rv, pl, _⟩ := I.tuple h.up
    refine SeqAt.notIn_tupleAt (eU tx) pl (fun w hw => mem_eU I hu r1.up f rx (rr.same hid_sub) g rv w (by simpa using hw)) ⟨.bl _, H, I, rfl, ?_⟩
    rw [show its.toArray.any (eU tx) = its.any (eU tx) by simp, any_eU rr g rv]
    exact k _ H (Same.refl H) (.bl _)
  | lst h rr =>
    rename_i a vs ts
    obtain ⟨f, g, k⟩ := inL_fin (Fi.bind (Fi.bind q))
    cases (show u = Value.ref a from ry)
    obtain ⟨its, rv, pl, _⟩ := I.list (.of (hid_up h))
    refine SeqAt.notIn_listAt (eU tx) pl.isList (fun w hw => mem_eU I hu r1.up f rx (rr.same hid_sub) g rv w (by simpa using hw)) ⟨.bl _, H, I, rfl, ?_⟩
    rw [show its.toArray.any (eU tx) = its.any (eU tx) by simp, any_eU rr g rv]
    exact k _ H (Same.refl H) (.bl _)
  | dic h e rr =>
    rename_i a kvs kts
    cases ek : keyT tx with
    | none =>
      have q' := q
      rw [ninC_dic, ek] at q'
      exact (show False from q').elim
    | some k =>
      have q' := q
      rw [ninC_dic, ek] at q'
      obtain ⟨o, g, ho⟩ := dget_rep (hid_up h) e (rr.same hid_sub) r1.up ek
      have eo : o.isSome = (valT kts k).isSome := by
        rcases ho with ⟨h1, rfl⟩ | ⟨_, _, h1, rfl, _⟩
        · rw [h1]; rfl
        · rw [h1]; rfl
      cases (show u = Value.ref a from ry)
      refine d_notIn hu I g rx fun s' I' => ⟨.bl _, H, I', rfl, ?_⟩
      rw [eo]
      exact q' _ H (Same.refl H) (.bl _)
  | _ => cases r1 <;> exact (show False from q).elim
end
end L2

namespace L2
open PySem PySem.Spec PyProof.Rows
/-! ### a[i] -/
def okO {α : Type} : Option α → Rs α
  | some a => .ok a
  | none => .bad
def ixT : Tr → Tr → Rs Tr
  | .tup ts, .int i => okO (atI ts i)
  | .lst ts, .int i => okO (atI ts i)
  | .str z, .int i => (okO (atI z.cps.toList i)).bind fun c => .ok (.str ⟨#[c]⟩)
  | .scr ns, .int i => (okO (atI ns i)).bind fun n => .ok (.int n)
  | .dic kts, t => (okO (keyT t)).bind fun k => okO (valT kts k)
  | _, _ => .bad
theorem ixT_dic (x : Tr) (kts : List (Key × Tr)) : ixT (.dic kts) x = (okO (keyT x)).bind fun k => okO (valT kts k) := by cases x <;> rfl
theorem Reps.atI {K : PySem.W.Frag} {H : Hp} {vs : List V} {ts : List Tr} {i : Int} {t : Tr} (r : Reps K H vs ts) (e : L2.atI ts i = some t) : ∃ v, L2.atI vs i = some v ∧ Rep K H v t := by
  unfold L2.atI at e ⊢
  rw [r.length]
  cases q : ixN ts.length i with
  | none => rw [q] at e; cases e
  | some j =>
    rw [q] at e
    obtain ⟨v, e1, r1⟩ := r.get (show ts[j]? = some t from e)
    exact ⟨v, e1, r1⟩
theorem okO_fin {X : Cx} {H : Hp} {α : Type} {o : Option α} {k : α → Prop} (h : Fi X H (okO o) k) : ∃ a, o = some a ∧ k a := by
  cases o with
  | none => exact h.elim
  | some a => exact ⟨a, rfl, h⟩
section
variable {X : Cx} {a b e : Expr} {pos : Pos} {F G : Rho → Rs Tr}
theorem atI_map {α β : Type} (f : α → β) (xs : List α) (i : Int) : L2.atI (xs.map f) i = (L2.atI xs i).map f := by
  unfold L2.atI
  rw [List.length_map]
  cases ixN xs.length i with
  | none => rfl
  | some j => show (xs.map f)[j]? = _; rw [List.getElem?_map]; rfl
theorem one_len (c : Nat) : (⟨#[c]⟩ : Str).length ≤ txMax := by show 1 ≤ txMax; decide
theorem x_ix (hu : X.A.units + 1 < cLine) : IxR X (rT X ixT) := by
  intro value slice pins s σ H x y v u Q I rx ry ⟨B, tx, ty, hb, r1, r2, q⟩ hs
  cases r1 with
  | tup h rr =>
    cases r2 with
    | int i =>
      obtain ⟨t, et, k⟩ := okO_fin q
      obtain ⟨w, ew, rw'⟩ := rr.atI et
      exact ix_tup value slice pins s σ H _ _ v u Q I rx ry ⟨_, _, i, w, rfl, rfl, h.up, ew, k w H (Same.refl H) rw'⟩ hs
    | _ => exact (show False from q).elim
  | lst h rr =>
    cases r2 with
    | int i =>
      obtain ⟨t, et, k⟩ := okO_fin q
      obtain ⟨w, ew, rw'⟩ := rr.atI et
      exact ix_list value slice pins s σ H _ _ v u Q I rx ry ⟨_, _, i, w, rfl, rfl, .of (hid_up h), ew, k w H (Same.refl H) rw'⟩ hs
    | _ => exact (show False from q).elim
  | scr h =>
    cases r2 with
    | int i =>
      obtain ⟨n, et, k⟩ := okO_fin (Fi.bind q)
      exact ix_list value slice pins s σ H _ _ v u Q I rx ry ⟨_, _, i, .int n, rfl, rfl, Same.seq hid_sub h, by rw [atI_map, et]; rfl, k _ H (Same.refl H) (.int n)⟩ hs
    | _ => exact (show False from q).elim
  | str z hz =>
    cases r2 with
    | int i =>
      obtain ⟨c, et, k⟩ := okO_fin (Fi.bind q)
      exact ix_str value slice pins s σ H _ _ v u Q I rx ry ⟨z, i, c, rfl, rfl, Nat.le_trans hz tx_line, et, k _ H (Same.refl H) (.str _ (one_len c))⟩ hs
    | _ => exact (show False from q).elim
  | dic h e rr =>
    rename_i a kvs kts
    have q' := q
    rw [ixT_dic] at q'
    obtain ⟨k, ek, qk⟩ := okO_fin (Fi.bind q')
    obtain ⟨t, et, qt⟩ := okO_fin qk
    obtain ⟨o, g, ho⟩ := dget_rep h e rr r2 ek
    rcases ho with ⟨h1, _⟩ | ⟨t', w, h1, rfl, rw'⟩
    · rw [et] at h1; cases h1
    · rw [et] at h1
      cases h1
      cases (show v = Value.ref a from rx)
      have g' : DGet H a y (some w) := by
        have e1 := key_rep r2 ek
        subst e1
        rcases g with ⟨kvs', k', e1, e2, e3⟩ | ⟨kvs', k', b, e1, e2, e3, _⟩
        · exact .inl ⟨kvs', k', e1.same hid_sub, e2, e3⟩
        · cases k <;> cases e2
      exact tail_any (dict_typeIs I g') PySem.F.slot_dict_getitem.lookup (d_getItem hu I g' ry fun w' s' I' rv => ⟨w, H, I', rv, qt w H (Same.refl H) rw'⟩) hs
  | _ => cases r2 <;> exact (show False from q).elim
theorem t_ix (hu : X.A.units + 1 < cLine) (ha : PE X a (tP X F)) (hb : PE X b (tP X G)) (hs : PlainIx b := by exact fun _ _ => rfl) : PE X (.Subscript a b pos) (tP X fun ρ => op2 ixT (F ρ) (G ρ)) :=
  (pe_ix (x_ix hu) ha hb hs).weak fun _ _ _ q => op2_read q
/-! ### a[lo:hi] -/
def tO (X : Cx) (P : Rho → Rs (Option Int)) : TO := fun σ H Q => ∃ B ρ, HB B H ∧ RepS X.K B H σ ρ ∧ Fi X H (P ρ) fun o => ∀ H', Same H H' → Q o H'
def asI (r : Rs Tr) : Rs (Option Int) := r.bind fun t => match t with
  | .int i => .ok (some i)
  | _ => .bad
theorem p_none : PO X none (tO X fun _ => .ok none) := fun pins s σ H Q I ⟨B, ρ, hb, r, q⟩ => po_none pins s σ H Q I (q H (Same.refl H))
theorem p_some (h : PE X e (tP X F)) : PO X (some e) (tO X fun ρ => asI (F ρ)) := fun pins s σ H Q I ⟨B, ρ, hb, r, q⟩ =>
  po_some h pins s σ H Q I ⟨B, ρ, hb, r, q.bind.mono fun t qt v H' s' r' => by
    cases r' with
    | int i => exact ⟨i, rfl, qt H' s'⟩
    | _ => exact (show False from qt).elim⟩
def cutG {α : Type} (xs : List α) (lo hi : Option Int) : List α := (xs.drop (HT.sIx xs.length 0 lo)).take (HT.sIx xs.length xs.length hi - HT.sIx xs.length 0 lo)
theorem Reps.cut {K : PySem.W.Frag} {H : Hp} {vs : List V} {ts : List Tr} (r : Reps K H vs ts) (lo hi : Option Int) : Reps K H (cutV vs lo hi) (cutG ts lo hi) := by
  unfold cutV cutG
  rw [r.length]
  exact (r.drop _).take _
def wholeC (n : Nat) (lo hi : Option Int) : Bool := HT.sIx n 0 lo == 0 && HT.sIx n n hi == n
def slT : Tr → Option Int → Option Int → Rs Tr
  | .tup ts, lo, hi => if wholeC ts.length lo hi = true then .bad else .ok (.tup (cutG ts lo hi))
  | .lst ts, lo, hi => .ok (.lst (cutG ts lo hi))
  | .str z, lo, hi => if (Txt.slice z lo hi).length ≤ txMax then .ok (.str (Txt.slice z lo hi)) else .bad
  | _, _, _ => .bad
def slR (r : Rs Tr) (lo hi : Rs (Option Int)) : Rs Tr := r.bind fun t => lo.bind fun l => hi.bind fun h => slT t l h
def rSl (X : Cx) : V → Option Int → Option Int → Hp → VK → Prop := fun x lo hi H Q => ∃ B t, HB B H ∧ Rep X.K (hid B H) x t ∧ Fi X H (slT t lo hi) fun t => ∀ v H', Same H H' → Rep X.K (hid B H') v t → Q v H'
theorem x_sl : SlR X (rSl X) := by
  intro pins s σ H x v vl vu lo hi sl Q I rx hs pl pu ⟨B, t, hb, r, q⟩
  cases r with
  | tup h rr =>
    rename_i a vs ts
    have q' : Fi X H (if wholeC ts.length lo hi = true then Rs.bad else .ok (Tr.tup (cutG ts lo hi))) _ := q
    by_cases hw : wholeC ts.length lo hi = true
    · rw [if_pos hw] at q'; exact (show False from q').elim
    · rw [if_neg hw] at q'
      refine sl_tup pins s σ H _ v vl vu lo hi sl Q I rx hs pl pu ⟨_, _, rfl, h.up, fun z => hw ?_, fun p hp => q' _ _ (Same.upd hp) (.newT hb hp (rr.cut lo hi))⟩
      rw [rr.length] at z
      unfold wholeC
      rw [z.1, z.2, beq_self_eq_true, beq_self_eq_true]; rfl
  | lst h rr => exact sl_list pins s σ H _ v vl vu lo hi sl Q I rx hs pl pu ⟨_, _, rfl, .of (hid_up h), fun p hp => q _ _ (Same.upd hp) (.newL hb hp (rr.cut lo hi))⟩
  | str z hz =>
    obtain ⟨h1, k⟩ := fi_if q
    exact sl_str pins s σ H _ v vl vu lo hi sl Q I rx hs pl pu ⟨z, rfl, Nat.le_trans hz tx_line, k _ H (Same.refl H) (.str _ h1)⟩
  | _ => exact (show False from q).elim
variable {P1 P2 : Rho → Rs (Option Int)} {lo hi : Option Expr} {p2 : Pos}
theorem t_sl (he : PE X e (tP X F)) (hl : PO X lo (tO X P1)) (hu : PO X hi (tO X P2)) : PE X (.Subscript e (.Slice lo hi none p2) pos) (tP X fun ρ => slR (F ρ) (P1 ρ) (P2 ρ)) :=
  (pe_slice x_sl he hl hu).weak fun σ H Q ⟨B, ρ, hb, r, q⟩ => ⟨B, ρ, hb, r, q.bind.mono fun t qt v H1 s1 r1 => ⟨B, ρ, hb.same s1, r.same s1, (qt.bind.same s1).mono fun l ql H2 s2 => ⟨B, ρ, hb.same (s1.trans s2), r.same (s1.trans s2), (ql.bind.same (s1.trans s2)).mono fun h qh H3 s3 =>
    ⟨B, t, hb.same ((s1.trans s2).trans s3), r1.same (hid_same (s2.trans s3)), (qh.same ((s1.trans s2).trans s3)).mono fun t qt v H4 s4 r4 => qt v H4 (((s1.trans s2).trans s3).trans s4) r4⟩⟩⟩⟩
def revC : Tr → Tr → Rs Tr
  | .tup ts, .int i => if i = -1 then .ok (.tup ts.reverse) else .bad
  | _, _ => .bad
theorem t_rev {k : Expr} (he : PE X e (tP X F)) (hk : PE X k (tP X G)) : PE X (.Subscript e (.Slice none none (some k) p2) pos) (tP X fun ρ => op2 revC (F ρ) (G ρ)) :=
  (pe_rev he hk).weak fun σ H Q ⟨B, ρ, hb, r, q⟩ => ⟨B, ρ, hb, r, q.bind.mono fun x qx v H1 s1 r1 => ⟨B, ρ, hb.same s1, r.same s1, (qx.bind.same s1).mono fun y qy u H2 s2 r2 => by
    have hb2 := hb.same (s1.trans s2)
    have r1' := r1.same (hid_same s2)
    cases r1' with
    | tup h rr =>
      cases r2 with
      | int i =>
        obtain ⟨ei, k⟩ := fi_if qy
        subst ei
        exact ⟨_, _, rfl, rfl, h.up, fun p hp => k _ _ ((s1.trans s2).upd' ((s1.trans s2).free hp)) (.newT hb2 hp rr.reverse)⟩
      | _ => exact (show False from qy).elim
    | _ => cases r2 <;> exact (show False from qy).elim⟩⟩
/-! ### Python's own functions -/
variable {es : List Expr} {L : Rho → Rs (List Tr)}
def lenT : List Tr → Rs Tr
  | [.str z] => .ok (.int (z.length : Int))
  | [.tup ts] => .ok (.int (ts.length : Int))
  | [.lst ts] => .ok (.int (ts.length : Int))
  | [.scr ns] => .ok (.int (ns.length : Int))
  | _ => .bad
theorem rC_one {h : List Tr → Rs Tr} {xs : List V} {H : Hp} {Q : VK} (hh : ∀ ts t, h ts = .ok t → ts.length = 1) (hx : ∀ ts c, h ts ≠ .exc c) (q : rC X h xs H Q) : ∃ B x tx t, xs = [x] ∧ HB B H ∧ Rep X.K (hid B H) x tx ∧ h [tx] = .ok t ∧ ∀ v H', Same H H' → Rep X.K (hid B H') v t → Q v H' := by
  obtain ⟨B, ts, hb, r, q⟩ := q
  cases e : h ts with
  | bad => rw [e] at q; exact q.elim
  | exc c => exact (hx ts c e).elim
  | ok t =>
    rw [e] at q
    have hl := hh ts t e
    match ts, hl, r with
    | [tx], _, .cons r1 .nil => exact ⟨B, _, tx, t, rfl, hb, r1, e, q⟩
theorem c_len : CallT X (.builtin "len") lenT := by
  intro pins s σ H xs us Q I rv q
  obtain ⟨B, x, tx, t, rfl, hb, r, e, k⟩ := rC_one (fun ts t e => by unfold lenT at e; split at e <;> first | rfl | cases e) (fun ts c e => by unfold lenT at e; split at e <;> cases e) q
  cases r with
  | str z hz => cases e; exact call_len pins s σ H _ us Q I rv ⟨_, _, rfl, ⟨Nat.le_trans hz tx_line, rfl⟩, k _ H (Same.refl H) (.int _)⟩
  | tup h rr => cases e; exact call_len pins s σ H _ us Q I rv ⟨_, _, rfl, .inr ⟨_, h.up, rfl⟩, k _ H (Same.refl H) (by rw [rr.length]; exact .int _)⟩
  | lst h rr => cases e; exact call_len pins s σ H _ us Q I rv ⟨_, _, rfl, .inl ⟨_, .of (hid_up h), rfl⟩, k _ H (Same.refl H) (by rw [rr.length]; exact .int _)⟩
  | scr h => cases e; exact call_len pins s σ H _ us Q I rv ⟨_, _, rfl, .inl ⟨_, Same.seq hid_sub h, rfl⟩, k _ H (Same.refl H) (by rw [List.length_map]; exact .int _)⟩
  | _ => cases e
def listT : List Tr → Rs Tr
  | [.tup ts] => .ok (.lst ts)
  | [.lst ts] => .ok (.lst ts)
  | _ => .bad
theorem c_list : CallT X (.type "list") listT := by
  intro pins s σ H xs us Q I rv q
  obtain ⟨B, x, tx, t, rfl, hb, r, e, k⟩ := rC_one (fun ts t e => by unfold listT at e; split at e <;> first | rfl | cases e) (fun ts c e => by unfold listT at e; split at e <;> cases e) q
  cases r with
  | tup h rr => cases e; exact call_list_of pins s σ H _ us Q I rv ⟨_, _, rfl, .inr h.up, fun p hp => k _ _ (Same.upd hp) (.newL hb hp rr)⟩
  | lst h rr => cases e; exact call_list_of pins s σ H _ us Q I rv ⟨_, _, rfl, .inl (.of (hid_up h)), fun p hp => k _ _ (Same.upd hp) (.newL hb hp rr)⟩
  | _ => cases e
def tupleT : List Tr → Rs Tr
  | [.tup ts] => .ok (.tup ts)
  | [.lst ts] => .ok (.tup ts)
  | _ => .bad
theorem c_tuple : CallT X (.type "tuple") tupleT := by
  intro pins s σ H xs us Q I rv q
  obtain ⟨B, x, tx, t, rfl, hb, r, e, k⟩ := rC_one (fun ts t e => by unfold tupleT at e; split at e <;> first | rfl | cases e) (fun ts c e => by unfold tupleT at e; split at e <;> cases e) q
  cases r with
  | tup h rr => cases e; exact call_tuple_of pins s σ H _ us Q I rv ⟨_, _, rfl, .inr ⟨h.up, k _ H (Same.refl H) (.tup h rr)⟩⟩
  | lst h rr => cases e; exact call_tuple_of pins s σ H _ us Q I rv ⟨_, _, rfl, .inl ⟨.of (hid_up h), fun p hp => k _ _ (Same.upd hp) (.newT hb hp rr)⟩⟩
  | _ => cases e
/-! ### isinstance -/
def kindT : Tr → String
  | .non => "NoneType"
  | .bl _ => "bool"
  | .int _ => "int"
  | .str _ => "str"
  | .ty _ => "type"
  | .tup _ => "tuple"
  | .lst _ => "list"
  | .scr _ => "list"
  | .dic _ => "dict"
def isK (t : Tr) (c : String) : Bool := kindT t == c || (kindT t == "bool" && c == "int")
def kinds : List String := ["int", "str", "bool", "tuple", "list", "dict"]
theorem kit_all (K : PySem.W.Frag) : ∀ a ∈ ["NoneType", "bool", "int", "str", "tuple", "list", "dict"], ∀ c ∈ kinds, PySem.W.kitOne K (.type a) (.type c) = some (a == c || (a == "bool" && c == "int")) := by
  intro a ha c hc
  simp only [kinds, List.mem_cons, List.not_mem_nil, or_false] at ha hc
  rcases ha with rfl | rfl | rfl | rfl | rfl | rfl | rfl <;> rcases hc with rfl | rfl | rfl | rfl | rfl | rfl <;> first | rfl | (unfold PySem.W.kitOne; exact if_pos (by decide))
def isiT : List Tr → Rs Tr
  | [.ty _, _] => .bad
  | [t, .ty c] => if kinds.contains c = true then .ok (.bl (isK t c)) else .bad
  | _ => .bad
theorem isi_rep {pins : List (Addr × Obj)} {σ : St} {H : Hp} {s : Shared} {A : Around} {Q : Value → Shared → Prop} {E : Value → Shared → Prop} {x : V} {t : Tr} {u : Value} {c : String} (I : Inv X pins σ H s) (r : Rep X.K H x t) (nt : ∀ n, t ≠ .ty n) (rx : RelV x u) (hc : c ∈ kinds) (h : ∀ tk, Q (.bool (isK t c)) { s with toks := tk }) :
    wpAny (model X.prog X.w) A (call (.builtin "isinstance") [u, .type c]) Q E s := by
  have kit := fun a ha => kit_all X.K a ha c hc
  cases r with
  | non => exact isinst_ok I rx .non (kit _ (by decide)) h
  | bl b => exact isinst_ok I rx (.bl b) (kit _ (by decide)) h
  | int i => exact isinst_ok I rx (.int i) (kit _ (by decide)) h
  | str z hz => exact isinst_ok I rx (.str z) (kit _ (by decide)) h
  | ty n => exact absurd rfl (nt n)
  | @tup a vs ts hq rr =>
    cases (show u = Value.ref a from rx)
    obtain ⟨its, rv, ⟨o, h1, h2, _⟩, _⟩ := I.tuple hq
    exact PySem.W.kia_one PySem.W.kitx_tuple I.kIn ⟨o, h1, h2⟩ (kit "tuple" (by decide)) (fun z => nomatch z) h
  | lst hq rr => exact isinst_ok I rx (.lst hq) (kit _ (by decide)) h
  | @scr a ns hq =>
    cases (show u = Value.ref a from rx)
    obtain ⟨its, rv, ⟨o, n, h1, h2, _⟩, _⟩ := I.list hq
    exact PySem.W.kia_one PySem.W.kitx_list I.kIn ⟨o, h1, h2⟩ (kit "list" (by decide)) (fun z => nomatch z) h
  | @dic a kvs kts hq e rr =>
    cases (show u = Value.ref a from rx)
    obtain ⟨_, _, vs, _, p⟩ := (show ObjOk X.prog X.w H s.heap a (.dK kvs) from I.hok a _ hq)
    obtain ⟨o, es, ep, h1, h2, _⟩ := p
    exact PySem.W.kia_one PySem.W.kitx_dict I.kIn ⟨o, h1, h2.1⟩ (kit "dict" (by decide)) (fun z => nomatch z) h
theorem c_isi : CallT X (.builtin "isinstance") isiT := by
  intro pins s σ H xs us Q I rv ⟨B, ts, hb, r, q⟩
  have key : ∃ t c, ts = [t, .ty c] ∧ (∀ n, t ≠ .ty n) ∧ kinds.contains c = true ∧ ∀ v H', Same H H' → Rep X.K (hid B H') v (.bl (isK t c)) → Q v H' := by
    unfold isiT at q
    split at q
    · exact q.elim
    · rename_i t c nt
      obtain ⟨h1, h2⟩ := fi_if q
      exact ⟨t, c, rfl, fun n e => nt n e, h1, h2⟩
    · exact q.elim
  obtain ⟨t, c, rfl, nt, hc, k⟩ := key
  match r, rv with
  | .cons r1 (.cons r2 .nil), .cons v1 (.cons v2 .nil) =>
    cases r2
    cases v2
    exact isi_rep I r1.up nt v1 (by simpa using hc) fun tk => ⟨.bl _, H, I.tok _, rfl, k _ H (Same.refl H) (.bl _)⟩
/-! ### methods of texts -/
def mS (h : Str → List Tr → Rs Tr) (a : Rs Tr) (l : Rs (List Tr)) : Rs Tr := a.bind fun t => match t with
  | .str z => l.bind (h z)
  | _ => .bad
def rM (X : Cx) (h : Str → List Tr → Rs Tr) : V → List V → Hp → VK → Prop := fun x xs H Q => ∃ B z ts, HB B H ∧ x = .str z ∧ z.length ≤ txMax ∧ Reps X.K (hid B H) xs ts ∧ Fi X H (h z ts) fun t => ∀ v H', Same H H' → Rep X.K (hid B H') v t → Q v H'
variable {o : Expr} {name : Str} {apos cpos : Pos} {id : String} {h : Str → List Tr → Rs Tr}
theorem t_ms (slot : Slot "str" name id) (hty : typeOf (.builtin id) = pure (.type "method_descriptor")) (hm : MtR X id (rM X h)) (ho : PE X o (tP X F)) (ha : PA X (e :: es) (tPA X L)) (pa : PlainAttrs "str" := by exact PySem.F.plainAttrs_str)
    (hbase : isCall o = false := by rfl) (hst : noStars (e :: es) = true := by rfl) (hn : (e :: es).length < 30 := by decide) (hline : (apos.endLine == cpos.line) = true := by rfl) :
    PE X (.Call (.Attribute o name apos) (e :: es) [] cpos) (tP X fun ρ => mS h (F ρ) (L ρ)) :=
  (pe_bm pa slot hty hm ho ha (base_no hbase) (by rw [star_all hst, decide_eq_true (show (e :: es).length + ([] : List Keyword).length + (if ([] : List Keyword).isEmpty then 0 else 1) < 30 from hn)]; rfl) hline (star_cons _ _ (stars_head hst).1) (star_none (stars_head hst).2)).weak fun σ H Q ⟨B, ρ, hb, r, q⟩ => ⟨B, ρ, hb, r, q.bind.mono fun t qt v H1 s1 r1 => by
    cases r1 with
    | str z hz =>
      exact ⟨rfl, B, ρ, hb.same s1, r.same s1, (Fi.bind qt |>.same s1).mono fun ts qs vs H2 s2 r2 => ⟨B, z, ts, hb.same (s1.trans s2), rfl, hz, r2, (qs.same (s1.trans s2)).mono fun t qt v H3 s3 r3 => qt v H3 ((s1.trans s2).trans s3) r3⟩⟩
    | _ => exact (show False from qt).elim⟩
theorem t_ms0 (slot : Slot "str" name id) (hty : typeOf (.builtin id) = pure (.type "method_descriptor")) (hm : MtR X id (rM X h)) (ho : PE X o (tP X F)) (pa : PlainAttrs "str" := by exact PySem.F.plainAttrs_str)
    (hbase : isCall o = false := by rfl) (hline : (apos.endLine == cpos.line) = true := by rfl) : PE X (.Call (.Attribute o name apos) [] [] cpos) (tP X fun ρ => mS h (F ρ) (.ok [])) :=
  (pe_bm0 pa slot hty hm ho (base_no hbase) hline).weak fun σ H Q ⟨B, ρ, hb, r, q⟩ => ⟨B, ρ, hb, r, q.bind.mono fun t qt v H1 s1 r1 => by
    cases r1 with
    | str z hz => exact ⟨rfl, B, z, [], hb.same s1, rfl, hz, .nil, (Fi.same qt s1).mono fun t qt v H3 s3 r3 => qt v H3 (s1.trans s3) r3⟩
    | _ => exact (show False from qt).elim⟩
def upperM (z : Str) : List Tr → Rs Tr
  | [] => if 3 * z.length ≤ txMax then .ok (.str (Txt.upper z)) else .bad
  | _ => .bad
theorem m_upper : MtR X "str.upper" (rM X upperM) := by
  intro pins s σ H x xs v us Q I rx rv ⟨B, z, ts, hb, e, hz, r, q⟩
  subst e
  match ts, r, q with
  | [], .nil, q =>
    obtain ⟨h1, k⟩ := fi_if q
    exact mt_upper pins s σ H _ _ v us Q I rx rv ⟨z, rfl, rfl, by unfold txMax at hz; omega, fun hl => k _ H (Same.refl H) (.str _ (Nat.le_trans hl h1))⟩
  | _ :: _, _, q => exact (show False from q).elim
/-- the texts of a list of texts -/
def strsL : List Tr → Rs (List Str)
  | [] => .ok []
  | .str z :: ts => (strsL ts).bind fun zs => .ok (z :: zs)
  | _ => .bad
theorem strsL_ok : ∀ {ts : List Tr} {zs : List Str}, strsL ts = .ok zs → ts = zs.map Tr.str
  | [], zs, e => by cases e; rfl
  | t :: ts, zs, e => by
    cases t with
    | str z =>
      rw [strsL] at e
      cases q : strsL ts with
      | ok ys => rw [q] at e; cases e; rw [strsL_ok q]; rfl
      | exc c => rw [q] at e; cases e
      | bad => rw [q] at e; cases e
    | _ => cases e
theorem reps_strs_inv {K : PySem.W.Frag} {H : Hp} : ∀ {zs : List Str} {vs : List V}, Reps K H vs (zs.map Tr.str) → vs = zs.map V.str
  | [], _, r => by cases r; rfl
  | z :: zs, _, r => by
    cases r with
    | cons h r => cases h; rw [reps_strs_inv r]; rfl
def joinM (z : Str) : List Tr → Rs Tr
  | [.lst ts] => (strsL ts).bind fun zs => if JoinOk z zs = true ∧ (Txt.join z zs).length ≤ txMax then .ok (.str (Txt.join z zs)) else .bad
  | _ => .bad
theorem strsL_exc : ∀ {ts : List Tr} {c : Tr}, strsL ts ≠ .exc c
  | [], _ => fun e => by cases e
  | t :: ts, c => fun e => by
    cases t with
    | str z =>
      rw [strsL] at e
      cases q : strsL ts with
      | ok ys => rw [q] at e; cases e
      | exc c => exact strsL_exc q
      | bad => rw [q] at e; cases e
    | _ => cases e
theorem m_join : MtR X "str.join" (rM X joinM) := by
  intro pins s σ H x xs v us Q I rx rv ⟨B, z, ts, hb, e, hz, r, q⟩
  subst e
  unfold joinM at q
  split at q
  · rename_i us'
    cases r with
    | cons h r =>
      cases r
      cases h with
      | lst hl rr =>
        cases e : strsL us' with
        | ok zs =>
          rw [e] at q
          obtain ⟨⟨h1, h2⟩, k⟩ := fi_if q
          have e2 := strsL_ok e
          subst e2
          have e3 := reps_strs_inv rr
          subst e3
          exact mt_join pins s σ H _ _ v us Q I rx rv ⟨z, _, zs, rfl, rfl, .of (hid_up hl), h1, k _ H (Same.refl H) (.str _ h2)⟩
        | exc c => exact (strsL_exc e).elim
        | bad => rw [e] at q; exact (show False from q).elim
  · exact (show False from q).elim
end
end L2

namespace L2
open PySem PySem.Spec PyProof.Rows
section
variable {X : Cx} {a e : Expr} {pos : Pos} {F : Rho → Rs Tr}
def negT : Tr → Rs Tr
  | .int i => .ok (.int (-i))
  | _ => .bad
theorem t_neg (ha : PE X a (tP X F)) : PE X (.UnaryOp .USub a pos) (tP X fun ρ => (F ρ).bind negT) :=
  (pe_un un_neg ha).weak fun σ H Q ⟨B, ρ, hb, r, q⟩ => ⟨B, ρ, hb, r, q.bind.mono fun t qt v H' s' r' => by
    cases r' with
    | int i => exact ⟨i, rfl, qt _ H' s' (.int _)⟩
    | _ => exact (show False from qt).elim⟩
end
theorem hu40 {k : Nat} {A : Around} (hr : Room k A) : A.units + 40 < cLine := by have := hr.units; omega
/-- a mirror with its number of arguments -/
def mir (n m : Nat) (G : Rho → Rs Out) (ts : List Tr) : Rs Tr := if ts.length = n then bodyR (G (startT m ts)) else .bad
theorem mir_len {n m : Nat} {G : Rho → Rs Out} {ts : List Tr} {t : Tr} (h : mir n m G ts = .ok t) : ts.length = n := by
  unfold mir at h
  split at h
  · assumption
  · cases h
theorem mir_ok {n m : Nat} {G : Rho → Rs Out} {ts : List Tr} {t : Tr} (h : mir n m G ts = .ok t) : bodyR (G (startT m ts)) = .ok t := by
  unfold mir at h
  split at h
  · exact h
  · cases h
theorem Fun.okM {P : Program} {w : World} {K : PySem.W.Frag} {mg : Str → Option Value} {base : Heap} {x qual : Str} {st : Stmt} {f : Addr} {fd : FuncData} {N ps : List Str} {k : Nat} (G : Rho → Rs Out) (Fn : Fun K x qual st f fd) (S : FnScope N ps (defScope st))
    (hbody : ∀ (cdv : Value) (A : Around) (outer : List Env) (s : Shared) (H : Hp) (E : XK), Room k (A.deeper (envOfC qual (defScope st) s.heap.objs.size f cdv)) →
      PSs (cxOf CX0 P w K mg base N qual (defScope st) f cdv A outer s H E).nox (defBody st) (tS (cxOf CX0 P w K mg base N qual (defScope st) f cdv A outer s H E).nox G)) : FnOk P w K mg base CX0 (k + 1) f fd ps (spT K (mir ps.length N.length G)) :=
  Fn.okT S (fun ts t e => mir_len e) fun cdv A outer s H E hr => ⟨G, hbody cdv A outer s H E hr, fun ts t e => mir_ok e⟩
end L2

namespace L2
open PySem PySem.Spec PyProof.Rows
/-! ### dicts that are made -/
def putT (kts : List (Key × Tr)) (k : Key) (t : Tr) : List (Key × Tr) :=
  if (kts.any fun kv => decide (kv.1 = k)) = true then kts.map (fun kv => if kv.1 = k then (kv.1, t) else kv) else kts ++ [(k, t)]
def mergeT (kts more : List (Key × Tr)) : List (Key × Tr) := more.foldl (fun acc kv => putT acc kv.1 kv.2) kts
structure RepD (K : PySem.W.Frag) (H : Hp) (kvs : List (Key × V)) (kts : List (Key × Tr)) : Prop where
  keys : kvs.map (·.1) = kts.map (·.1)
  vals : Reps K H (kvs.map (·.2)) (kts.map (·.2))
section
variable {K : PySem.W.Frag} {H H' : Hp}
theorem RepD.nil : RepD K H [] [] := ⟨rfl, .nil⟩
theorem RepD.same {kvs : List (Key × V)} {kts : List (Key × Tr)} (s : Same H H') (h : RepD K H kvs kts) : RepD K H' kvs kts := ⟨h.keys, h.vals.same s⟩
theorem RepD.cons {k : Key} {v : V} {t : Tr} {kvs : List (Key × V)} {kts : List (Key × Tr)} (r : Rep K H v t) (h : RepD K H kvs kts) : RepD K H ((k, v) :: kvs) ((k, t) :: kts) := ⟨by rw [List.map_cons, List.map_cons, h.keys], .cons r h.vals⟩
theorem RepD.inv {k : Key} {v : V} {kvs : List (Key × V)} {kts : List (Key × Tr)} (h : RepD K H ((k, v) :: kvs) kts) : ∃ t r, kts = (k, t) :: r ∧ Rep K H v t ∧ RepD K H kvs r := by
  obtain ⟨e, r⟩ := h
  match kts, e, r with
  | (k2, t) :: rest, e, r =>
    rw [List.map_cons, List.map_cons] at e
    injection e with e1 e2
    have e1' : k = k2 := e1
    subst e1'
    cases r with
    | cons h1 h2 => exact ⟨t, rest, rfl, h1, e2, h2⟩
theorem RepD.any (k : Key) : ∀ {kvs : List (Key × V)} {kts : List (Key × Tr)}, RepD K H kvs kts → (kvs.any fun kv => decide (kv.1 = k)) = kts.any fun kv => decide (kv.1 = k)
  | [], kts, h => by
    have e := h.keys
    cases kts with
    | nil => rfl
    | cons a b => cases e
  | (j, v) :: kvs, kts, h => by
    obtain ⟨t, r, rfl, _, h2⟩ := h.inv
    rw [List.any_cons, List.any_cons, RepD.any k h2]
theorem RepD.map (k : Key) {y : V} {u : Tr} (ry : Rep K H y u) : ∀ {kvs : List (Key × V)} {kts : List (Key × Tr)}, RepD K H kvs kts → RepD K H (kvs.map fun kv => if kv.1 = k then (kv.1, y) else kv) (kts.map fun kv => if kv.1 = k then (kv.1, u) else kv)
  | [], kts, h => by
    have e := h.keys
    cases kts with
    | nil => exact .nil
    | cons a b => cases e
  | (j, v) :: kvs, kts, h => by
    obtain ⟨t, r, rfl, h1, h2⟩ := h.inv
    rw [List.map_cons, List.map_cons]
    by_cases e : j = k
    · rw [if_pos (show (j, v).1 = k from e), if_pos (show (j, t).1 = k from e)]
      exact .cons ry (RepD.map k ry h2)
    · rw [if_neg (show ¬ (j, v).1 = k from e), if_neg (show ¬ (j, t).1 = k from e)]
      exact .cons h1 (RepD.map k ry h2)
theorem RepD.snoc (k : Key) {y : V} {u : Tr} (ry : Rep K H y u) : ∀ {kvs : List (Key × V)} {kts : List (Key × Tr)}, RepD K H kvs kts → RepD K H (kvs ++ [(k, y)]) (kts ++ [(k, u)])
  | [], kts, h => by
    have e := h.keys
    cases kts with
    | nil => exact .cons ry .nil
    | cons a b => cases e
  | (j, v) :: kvs, kts, h => by
    obtain ⟨t, r, rfl, h1, h2⟩ := h.inv
    exact .cons h1 (RepD.snoc k ry h2)
theorem RepD.put (k : Key) {y : V} {u : Tr} (ry : Rep K H y u) {kvs : List (Key × V)} {kts : List (Key × Tr)} (h : RepD K H kvs kts) : RepD K H (putK kvs k y) (putT kts k u) := by
  unfold putK putT
  rw [h.any k]
  by_cases e : (kts.any fun kv => decide (kv.1 = k)) = true
  · rw [if_pos e, if_pos e]; exact h.map k ry
  · rw [if_neg e, if_neg e]; exact h.snoc k ry
theorem RepD.merge : ∀ {more : List (Key × V)} {mts : List (Key × Tr)} {kvs : List (Key × V)} {kts : List (Key × Tr)}, RepD K H more mts → RepD K H kvs kts → RepD K H (mergeK kvs more) (mergeT kts mts)
  | [], mts, kvs, kts, h, q => by
    have e := h.keys
    cases mts with
    | nil => exact q
    | cons a b => cases e
  | (k, v) :: more, mts, kvs, kts, h, q => by
    obtain ⟨t, r, rfl, h1, h2⟩ := h.inv
    exact RepD.merge (more := more) (mts := r) h2 (q.put k h1)
end
theorem RepS.bar {K : PySem.W.Frag} {B : Bar} {H : Hp} {σ : St} {ρ : Rho} {p : Addr} {o : HO} (h : RepS K B H σ ρ) (hp : H p = none) : RepS K (barD B p) (upd H p o) σ ρ := by
  refine ⟨h.len, fun i t e => ?_, fun i ts e => ?_, h.ap⟩
  · obtain ⟨v, e1, r⟩ := h.sh i t e
    exact ⟨v, e1, r.same (barD_vis hp)⟩
  · obtain ⟨D, ys, e1, e2, e3, r⟩ := h.ow i ts e
    exact ⟨D, ys, e1, by unfold barD; rw [e2, Bool.true_or], by rw [upd_ne (ne_of_none e3 hp)]; exact e3, r.same (barD_vis hp)⟩
def pairR (k v : Rs Tr) (r : Rs (List (Tr × Tr))) : Rs (List (Tr × Tr)) := k.bind fun x => v.bind fun y => r.bind fun ps => .ok ((x, y) :: ps)
def pairsL : List (Tr × Tr) → Rs (List (Key × Tr))
  | [] => .ok []
  | (k, t) :: r => (okO (keyT k)).bind fun k => (pairsL r).bind fun l => .ok ((k, t) :: l)
def dicR (r : Rs (List (Tr × Tr))) : Rs Tr := r.bind fun ps => if ps.length ≤ 15 then (pairsL ps).bind fun kts => .ok (.dic (mergeT [] kts)) else .bad
inductive RepP (K : PySem.W.Frag) (H : Hp) : List (V × V) → List (Tr × Tr) → Prop where
  | nil : RepP K H [] []
  | cons {x y : V} {t u : Tr} {ps : List (V × V)} {qs : List (Tr × Tr)} (h1 : Rep K H x t) (h2 : Rep K H y u) (r : RepP K H ps qs) : RepP K H ((x, y) :: ps) ((t, u) :: qs)
theorem RepP.length {K : PySem.W.Frag} {H : Hp} {ps : List (V × V)} {qs : List (Tr × Tr)} (h : RepP K H ps qs) : ps.length = qs.length := by
  induction h with
  | nil => rfl
  | cons _ _ _ ih => rw [List.length_cons, List.length_cons, ih]
theorem pairs_rep {X : Cx} {K : PySem.W.Frag} {H H0 : Hp} {k : List (Key × Tr) → Prop} {ps : List (V × V)} {qs : List (Tr × Tr)} (h : RepP K H ps qs) : Fi X H0 (pairsL qs) k → ∃ kvs kts, k kts ∧ ps = kvs.map (fun kv => (kV kv.1, kv.2)) ∧ RepD K H kvs kts := by
  induction h generalizing k with
  | nil => exact fun q => ⟨[], [], q, rfl, .nil⟩
  | cons h1 h2 r ih =>
    intro q
    obtain ⟨key, ek, q1⟩ := okO_fin (Fi.bind q)
    obtain ⟨kvs, kts, k1, e1, rd⟩ := ih (Fi.bind q1)
    have e := key_rep h1 ek
    subst e
    exact ⟨(key, _) :: kvs, _, k1, by rw [List.map_cons, e1], .cons h2 rd⟩
section
variable {X : Cx} {a e o f : Expr} {pos apos cpos : Pos} {F G E : Rho → Rs Tr} {keys : List (Option Expr)} {vals : List Expr} {P : Rho → Rs (List (Tr × Tr))}
structure QP (X : Cx) (pos : Pos) (keys : List (Option Expr)) (vals : List Expr) (P : Rho → Rs (List (Tr × Tr))) : Prop where
  h : ∃ trs, PPs X pos keys vals trs ∧ ∀ σ H Q, (∃ B ρ, HB B H ∧ RepS X.K B H σ ρ ∧ Fi X H (P ρ) fun pts => ∀ pvs H', Same H H' → RepP X.K (hid B H') pvs pts → Q pvs H') → tPairs trs σ H Q
theorem D_nil : QP X pos [] [] fun _ => .ok [] := ⟨[], pps_nil, fun σ H Q ⟨B, ρ, hb, r, q⟩ => q [] H (Same.refl H) .nil⟩
theorem RepP.same {K : PySem.W.Frag} {H H' : Hp} (s : Same H H') {ps : List (V × V)} {qs : List (Tr × Tr)} (h : RepP K H ps qs) : RepP K H' ps qs := by
  induction h with
  | nil => exact .nil
  | cons h1 h2 r ih => exact .cons (h1.same s) (h2.same s) ih
theorem d_cons' {k v : Expr} (hk : PE X k (tP X F)) (hv : PE X v (tP X G)) (hr : QP X pos keys vals P) : QP X pos (some k :: keys) (v :: vals) fun ρ => pairR (F ρ) (G ρ) (P ρ) := by
  obtain ⟨trs, h1, h2⟩ := hr.h
  refine ⟨_, pps_cons hk hv h1, fun σ H Q ⟨B, ρ, hb, r, q⟩ => ?_⟩
  refine ⟨B, ρ, hb, r, q.bind.mono fun x qx u H1 s1 r1 => ⟨B, ρ, hb.same s1, r.same s1, (qx.bind.same s1).mono fun y qy w H2 s2 r2 => h2 _ _ _ ⟨B, ρ, hb.same (s1.trans s2), r.same (s1.trans s2), (qy.bind.same (s1.trans s2)).mono fun ps qp pvs H3 s3 r3 => ?_⟩⟩⟩
  exact qp _ H3 ((s1.trans s2).trans s3) (.cons (r1.same (hid_same (s2.trans s3))) (r2.same (hid_same s3)) r3)
theorem t_dict (h : QP X pos keys vals P) (hall : keys.all (·.isSome) = true := by rfl) (hl : keys.length = vals.length := by rfl) (h0 : keys.isEmpty = false := by rfl) (h15 : keys.length ≤ 15 := by decide) : PE X (.Dict keys vals pos) (tP X fun ρ => dicR (P ρ)) := by
  obtain ⟨trs, h1, h2⟩ := h.h
  refine (pe_disp h1 hall hl (fun z => by rw [z] at h0; cases h0) h15).weak fun σ H Q ⟨B, ρ, hb, r, q⟩ p hp => ?_
  refine h2 σ _ _ ⟨barD B p, ρ, barD_hb hb hp, r.bar hp, (q.bind.same (Same.upd hp)).mono fun pts qp pvs H2 s2 r2 => ?_⟩
  by_cases hz : pts.length ≤ 15
  · rw [if_pos hz] at qp
    obtain ⟨kvs, kts, k1, e1, rd⟩ := pairs_rep r2 (Fi.bind qp)
    refine ⟨s2 _ _ upd_same, kvs, e1, ?_, ?_⟩
    · have e2 := congrArg List.length e1
      rw [List.length_map, r2.length] at e2
      rw [← e2]; exact hz
    · have hBp := hb.free hp
      have rm := (RepD.merge rd RepD.nil)
      refine k1 _ _ (((Same.upd hp).trans s2).upd' hp) (.dic (by rw [hid_at hBp]; exact upd_same) rm.keys (rm.vals.same ?_))
      have e3 : hid (barD B p) (upd H2 p (.dK (mergeK [] kvs))) = hid (barD B p) H2 := barD_upd
      rw [← e3]
      exact barD_sub
  · rw [if_neg hz] at qp; exact (show False from qp).elim
/-! ### d.get(k), d.get(k, x) -/
def getR1 (a b : Rs Tr) : Rs Tr := a.bind fun x => match x with
  | .dic kts => b.bind fun y => (okO (keyT y)).bind fun k => .ok ((valT kts k).getD .non)
  | _ => .bad
def getR2 (a b c : Rs Tr) : Rs Tr := a.bind fun x => match x with
  | .dic kts => b.bind fun y => c.bind fun z => (okO (keyT y)).bind fun k => .ok ((valT kts k).getD z)
  | _ => .bad
theorem m1_of {m : Str} (hb : isCall o = false) (hst : noStars [e] = true) (hl : (apos.endLine == cpos.line) = true) : M1 X o m apos e cpos :=
  ⟨base_no hb, by rw [star_all hst]; rfl, hl, by rw [star_cons _ _ (stars_head hst).1, starEach]; rfl⟩
theorem m2_of {m : Str} (hb : isCall o = false) (hst : noStars [e, f] = true) (hl : (apos.endLine == cpos.line) = true) : M2 X o m apos e f cpos :=
  ⟨base_no hb, by rw [star_all hst]; rfl, hl, by rw [star_cons _ _ (stars_head hst).1, star_cons _ _ (stars_head (stars_head hst).2).1, starEach]; rfl⟩
theorem dget_up {B : Bar} {H : Hp} {a : Addr} {y : V} {ov : Option V} (g : DGet (hid B H) a y ov) : DGet H a y ov := by
  rcases g with ⟨kvs, k, e1, e2, e3⟩ | ⟨kvs, k, b, e1, e2, e3, e4⟩
  · exact .inl ⟨kvs, k, e1.same hid_sub, e2, e3⟩
  · exact .inr ⟨kvs, k, b, e1.same hid_sub, e2, hid_sub _ _ e3, e4⟩
theorem t_get1 (hu : X.A.units + 1 < cLine) (ho : PE X o (tP X F)) (he : PE X e (tP X G)) (hb : isCall o = false := by rfl) (hst : noStars [e] = true := by rfl) (hl : (apos.endLine == cpos.line) = true := by rfl) : PE X (.Call (.Attribute o "get" apos) [e] [] cpos) (tP X fun ρ => getR1 (F ρ) (G ρ)) :=
  (pe_dget1 hu ho he (m1_of hb hst hl)).weak fun σ H Q ⟨B, ρ, hb, r, q⟩ => ⟨B, ρ, hb, r, q.bind.mono fun x qx v H1 s1 r1 => by
    cases r1 with
    | dic h e rr =>
      refine ⟨_, rfl, .inl ⟨_, .inl (hid_up h)⟩, B, ρ, hb.same s1, r.same s1, (Fi.bind qx |>.same s1).mono fun y qy w H2 s2 r2 => ?_⟩
      obtain ⟨k, ek, qk⟩ := okO_fin (Fi.bind qy)
      obtain ⟨ov, g, ho⟩ := dget_rep (hid_same s2 _ _ h) e (rr.same (hid_same s2)) r2 ek
      refine ⟨ov, dget_up g, qk _ H2 (s1.trans s2) ?_⟩
      rcases ho with ⟨h1, rfl⟩ | ⟨t, w', h1, rfl, h3⟩
      · rw [h1]; exact .non
      · rw [h1]; exact h3
    | _ => exact (show False from qx).elim⟩
theorem t_get2 (hu : X.A.units + 1 < cLine) (ho : PE X o (tP X F)) (he : PE X e (tP X G)) (hf : PE X f (tP X E)) (hb : isCall o = false := by rfl) (hst : noStars [e, f] = true := by rfl) (hl : (apos.endLine == cpos.line) = true := by rfl) : PE X (.Call (.Attribute o "get" apos) [e, f] [] cpos) (tP X fun ρ => getR2 (F ρ) (G ρ) (E ρ)) :=
  (pe_dget2 hu ho he hf (m2_of hb hst hl)).weak fun σ H Q ⟨B, ρ, hb, r, q⟩ => ⟨B, ρ, hb, r, q.bind.mono fun x qx v H1 s1 r1 => by
    cases r1 with
    | dic h e rr =>
      refine ⟨_, rfl, .inl ⟨_, .inl (hid_up h)⟩, B, ρ, hb.same s1, r.same s1, (Fi.bind qx |>.same s1).mono fun y qy w H2 s2 r2 => ⟨B, ρ, hb.same (s1.trans s2), r.same (s1.trans s2), (Fi.bind qy |>.same (s1.trans s2)).mono fun z qz w3 H3 s3 r3 => ?_⟩⟩
      obtain ⟨k, ek, qk⟩ := okO_fin (Fi.bind qz)
      obtain ⟨ov, g, ho⟩ := dget_rep (hid_same (s2.trans s3) _ _ h) e (rr.same (hid_same (s2.trans s3))) (r2.same (hid_same s3)) ek
      refine ⟨ov, dget_up g, qk _ H3 ((s1.trans s2).trans s3) ?_⟩
      rcases ho with ⟨h1, rfl⟩ | ⟨t, w', h1, rfl, h3⟩
      · rw [h1]; exact r3
      · rw [h1]; exact h3
    | _ => exact (show False from qx).elim⟩
/-! ### a dict of the module -/
def GDictT (K : PySem.W.Frag) (w : World) (mg : Str → Option Value) (x : Str) (kts : List (Str × Tr)) : Prop :=
  ∃ a kvs, mg x = some (.ref a) ∧ KDict K w a kvs ∧ ∀ z, (valueAt kvs z = none ∧ kts.lookup z = none) ∨ ∃ u v t, valueAt kvs z = some u ∧ RelV v u ∧ kts.lookup z = some t ∧ ∀ H, Rep K H v t
def inGT (kts : List (Str × Tr)) : Tr → Rs Tr
  | .str z => .ok (.bl (kts.lookup z).isSome)
  | _ => .bad
def ixGT (kts : List (Str × Tr)) : Tr → Rs Tr
  | .str z => okO (kts.lookup z)
  | _ => .bad
variable {x : Str} {kts : List (Str × Tr)} {p : Pos}
theorem inG_read {σ : St} {H : Hp} {Q : VK} {ad : Addr} {kvs : List (Str × Value)} (D : KDict X.K X.w ad kvs) (hz : ∀ z, (valueAt kvs z = none ∧ kts.lookup z = none) ∨ ∃ u v t, valueAt kvs z = some u ∧ RelV v u ∧ kts.lookup z = some t ∧ ∀ H, Rep X.K H v t) (q : tP X (fun ρ => (F ρ).bind (inGT kts)) σ H Q) :
    tOp (fun x y H Q => ∃ (z : Str) (a : Addr) (kvs : List (Str × Value)), x = .str z ∧ y = .ref a ∧ KDict X.K X.w a kvs ∧ Q (.bl (valueAt kvs z).isSome) H) (tP X F) (tC (.ref ad)) σ H Q := by
  obtain ⟨B, ρ, hb, r, q⟩ := q
  refine ⟨B, ρ, hb, r, q.bind.mono fun t qt v H1 s1 r1 => ?_⟩
  cases r1 with
  | str z h =>
    refine ⟨z, ad, kvs, rfl, rfl, D, ?_⟩
    have qt' : ∀ v H', Same H H' → Rep X.K (hid B H') v (.bl (kts.lookup z).isSome) → Q v H' := qt
    rcases hz z with ⟨h1, h2⟩ | ⟨u, v, t, h1, _, h2, _⟩
    · rw [h1]; rw [h2] at qt'; exact qt' _ H1 s1 (.bl _)
    · rw [h1]; rw [h2] at qt'; exact qt' _ H1 s1 (.bl _)
  | _ => exact (show False from qt).elim
theorem t_inG (g : GDictT X.K X.w X.mg x kts) (ha : PE X a (tP X F)) (hg : Gl X x := by rfl) (hd : (x == ("__debug__" : Str)) = false := by decide) : PE X (.Compare a [.In] [.Name x p] pos) (tP X fun ρ => (F ρ).bind (inGT kts)) := by
  obtain ⟨ad, kvs, hm, D, hz⟩ := g
  exact (pe_cmpR op_inKD ha (pe_glob (v := .ref ad) hg hm rfl hd) (by rfl)).weak fun σ H Q q => inG_read D hz q
theorem q_inG (g : GDictT X.K X.w X.mg x kts) (ha : PE X a (tP X F)) (hg : Gl X x := by rfl) (hd : (x == ("__debug__" : Str)) = false := by decide) : PT X (.Compare a [.In] [.Name x p] pos) (tQ X fun ρ => asB ((F ρ).bind (inGT kts))) := by
  obtain ⟨ad, kvs, hm, D, hz⟩ := g
  refine (pt_cmpR op_inKD ha (pe_glob (v := .ref ad) hg hm rfl hd) (by rfl)).weak fun σ H Q ⟨B, ρ, hb, r, q⟩ => ?_
  refine inG_read (Q := fun x H' => ∃ k, x = .bl k ∧ Q k H') D hz ⟨B, ρ, hb, r, (asB_fin q).mono fun t qt v H' s' r' => ?_⟩
  obtain ⟨b, rfl, k⟩ := qt
  exact ⟨b, r'.bl_inv, k H' s'⟩
theorem t_ixG (g : GDictT X.K X.w X.mg x kts) (ha : PE X a (tP X F)) (hg : Gl X x := by rfl) (hd : (x == ("__debug__" : Str)) = false := by decide) (hs : NoSl a := by exact fun _ _ => rfl) : PE X (.Subscript (.Name x p) a pos) (tP X fun ρ => (F ρ).bind (ixGT kts)) := by
  obtain ⟨ad, kvs, hm, D, hz⟩ := g
  refine (pe_getKD (pe_glob (v := .ref ad) hg hm rfl hd) ha hs).weak fun σ H Q ⟨B, ρ, hb, r, q⟩ => ?_
  refine ⟨B, ρ, hb, r, q.bind.mono fun t qt v H1 s1 r1 => ?_⟩
  cases r1 with
  | str z h =>
    obtain ⟨t, et, k⟩ := okO_fin qt
    rcases hz z with ⟨h1, h2⟩ | ⟨u, v, t', h1, h3, h2, h4⟩
    · rw [h2] at et; cases et
    · rw [h2] at et
      cases et
      exact ⟨ad, z, kvs, u, v, rfl, rfl, D, h1, h3, k v H1 s1 (h4 _)⟩
  | _ => exact (show False from qt).elim
/-! ### all -/
def blsL : List Tr → Rs (List Bool)
  | [] => .ok []
  | .bl b :: ts => (blsL ts).bind fun zs => .ok (b :: zs)
  | _ => .bad
theorem bls_rep {K : PySem.W.Frag} {H H0 : Hp} {k : List Bool → Prop} : ∀ {ts : List Tr} {vs : List V}, Reps K H vs ts → Fi X H0 (blsL ts) k → ∃ bs, k bs ∧ vs = bs.map V.bl
  | [], _, r, q => by cases r; exact ⟨[], q, rfl⟩
  | t :: ts, _, r, q => by
    cases r with
    | cons h r =>
      cases h with
      | bl b =>
        obtain ⟨bs, k1, e⟩ := bls_rep (k := fun zs => k (b :: zs)) r (Fi.bind q)
        exact ⟨b :: bs, k1, by rw [e]; rfl⟩
      | _ => exact (show False from q).elim
def allT : List Tr → Rs Tr
  | [.lst ts] => (blsL ts).bind fun bs => .ok (.bl (bs.all id))
  | _ => .bad
theorem c_all (hc : X.calm = true) : CallT X (.builtin "all") allT := by
  intro pins s σ H xs us Q I rv ⟨B, ts, hb, r, q⟩
  unfold allT at q
  split at q
  · cases r with
    | cons h r =>
      cases r
      cases h with
      | lst hl rr =>
        obtain ⟨bs, k, e⟩ := bls_rep rr (Fi.bind q)
        subst e
        exact call_all hc pins s σ H _ us Q I rv ⟨_, bs, rfl, .of (hid_up hl), k _ H (Same.refl H) (.bl _)⟩
  · exact (show False from q).elim
end
end L2

namespace L2
open PySem
/-- the entries of a dict of the module, as they lie, and what they are read as -/
inductive KDE (K : PySem.W.Frag) (w : World) : List DictEntry → List (Str × Value) → List (Str × Tr) → Prop
  | nil : KDE K w [] [] []
  | cons {z : Str} {t : Tok} {v : V} {u : Value} {tr : Tr} {es : List DictEntry} {kvs : List (Str × Value)} {kts : List (Str × Tr)} : RelV v u → (∀ H, Rep K H v tr) → KDE K w es kvs kts →
      KDE K w (⟨PyData.keyHash w.params z, .str z t, u⟩ :: es) ((z, u) :: kvs) ((z, tr) :: kts)
variable {K : PySem.W.Frag} {w : World} {es : List DictEntry} {kvs : List (Str × Value)} {kts : List (Str × Tr)}
theorem KDE.keys (prog : Program) (h : KDE K w es kvs kts) : ∀ e ∈ es, ∃ k, (PySem.strKind prog w).is k e.key = true ∧ e.hash = (PySem.strKind prog w).hash k := by
  induction h with
  | nil => intro e he; cases he
  | @cons z t v u tr es kvs kts _ _ _ ih =>
    intro e he
    rcases List.mem_cons.mp he with rfl | he
    · exact ⟨z, by simp [PySem.strKind, Value.isStrOf], rfl⟩
    · exact ih e he
theorem KDE.pairs (prog : Program) (h : KDE K w es kvs kts) : Pairs (PySem.strKind prog w) es kvs := by
  induction h with
  | nil => exact .nil
  | cons _ _ _ ih => exact .cons (by simp [PySem.strKind, Value.isStrOf]) rfl ih
theorem KDE.at (h : KDE K w es kvs kts) (y : Str) : (valueAt kvs y = none ∧ kts.lookup y = none) ∨ ∃ u v t, valueAt kvs y = some u ∧ RelV v u ∧ kts.lookup y = some t ∧ ∀ H, Rep K H v t := by
  induction h with
  | nil => exact .inl ⟨rfl, rfl⟩
  | @cons z t v u tr es kvs kts hr hp _ ih =>
    by_cases e : z = y
    · subst e
      exact .inr ⟨u, v, tr, by simp [valueAt], hr, by simp [List.lookup], hp⟩
    · have e1 : valueAt ((z, u) :: kvs) y = valueAt kvs y := by simp [valueAt, e]
      have e2 : List.lookup y ((z, tr) :: kts) = kts.lookup y := by
        have : (y == z) = false := beq_eq_false_iff_ne.mpr fun k => e k.symm
        simp [List.lookup, this]
      rw [e1, e2]; exact ih
theorem KDE.gd {mg : Str → Option Value} {x : Str} {a : Addr} {ep : Nat} (h : KDE K w es kvs kts) (hm : mg x = some (.ref a)) (hl : K.lookup a = some ⟨.type "dict", none, .dict es.toArray ep, #[]⟩) (hs : (a == sysModules) = false) (hn : (kvs.map (·.1)).Nodup) : GDictT K w mg x kts :=
  ⟨a, kvs, hm, ⟨hs, _, _, _, hl, ⟨rfl, rfl, rfl⟩, rfl, fun prog => ⟨fun e he => h.keys prog e (by simpa using he), h.pairs prog, hn⟩⟩, h.at⟩
end L2

namespace L2
open PySem PySem.Spec PyProof.Rows
structure QE (X : Cx) (e : Expr) (F : Rho → Rs Tr) : Prop where
  h : PE X e (tP X F)
structure QT (X : Cx) (e : Expr) (F : Rho → Rs Bool) : Prop where
  h : PT X e (tQ X F)
structure QW (X : Cx) (e : Expr) (F : Rho → Rs Bool) : Prop where
  h : PW X e (tQ X F)
structure QA (X : Cx) (e : List Expr) (F : Rho → Rs (List Tr)) : Prop where
  h : PA X e (tPA X F)
structure QS (X : Cx) (e : Stmt) (F : Rho → Rs Out) : Prop where
  h : PS X e (tS X F)
structure QB (X : Cx) (e : List Stmt) (F : Rho → Rs Out) : Prop where
  h : PSs X e (tS X F)
structure QG (X : Cx) (e : Expr) (F : Tgt) : Prop where
  h : PG X e (tG X F)
structure QGs (X : Cx) (e : List Expr) (F : List Tr → Rho → Rs Rho) : Prop where
  h : PGs X e (tGs X F)
structure QI (X : Cx) (tg e : Expr) (F : Rho → Rs (List Tr)) : Prop where
  h : PI X tg e (tI X F)
structure QO (X : Cx) (e : Option Expr) (F : Rho → Rs (Option Int)) : Prop where
  h : PO X e (tO X F)
structure QF (X : Cx) (e : List Expr) (F : Rho → Rs Bool) : Prop where
  h : PF X e (tQ X F)
structure BlkQ (X : Cx) (scope : Scope) (N' : List Str) (tg elt : Expr) (ifs : List Expr) (T : Tgt) (A : Rho → Rs Bool) (F : Rho → Rs Tr) : Prop where
  all : ∀ s H ex, QG (cxC X scope N' s H ex) tg T ∧ QF (cxC X scope N' s H ex) ifs A ∧ QE (cxC X scope N' s H ex) elt F
theorem BlkQ.to {X : Cx} {scope : Scope} {N' : List Str} {tg elt : Expr} {ifs : List Expr} {T : Tgt} {A : Rho → Rs Bool} {F : Rho → Rs Tr} (b : BlkQ X scope N' tg elt ifs T A F) : Blk X scope N' tg elt ifs T A F :=
  ⟨fun s H ex => ⟨(b.all s H ex).1.h, (b.all s H ex).2.1.h, (b.all s H ex).2.2.h⟩⟩
section
variable {X : Cx} {a b c : Expr} {pos : Pos} {F G E : Rho → Rs Tr} {A B : Rho → Rs Bool} {rest : List Expr} {es : List Expr} {L : Rho → Rs (List Tr)}
theorem T_var (i : Nat) {x : Str} {pos : Pos} (hN : X.N[i]? = some x := by rfl) (hv : Vis X.env.scope x := by first | exact Or.inl rfl | exact Or.inr (Or.inl rfl) | exact Or.inr (Or.inr rfl)) (hd : (x == ("__debug__" : Str)) = false := by decide) (hcd : (x == ("__classdict__" : Str)) = false := by decide) : QE X (.Name x pos) (fun ρ => getS ρ i) := ⟨t_var i hN hv hd hcd⟩
theorem T_int {i : Int} {j pos} : QE X (.Constant (.int i) j pos) (fun _ => .ok (.int i)) := ⟨t_int ⟩
theorem T_bl {b : Bool} {j pos} : QE X (.Constant (.bool b) j pos) (fun _ => .ok (.bl b)) := ⟨t_bl ⟩
theorem T_non {j pos} : QE X (.Constant .none j pos) (fun _ => .ok .non) := ⟨t_non ⟩
theorem T_str {z : Str} {j pos} (hz : z.length ≤ txMax := by decide) : QE X (.Constant (.str z) j pos) (fun _ => .ok (.str z)) := ⟨t_str hz⟩
theorem T_glob {x : Str} {t : Tr} (g : GlobT X.K X.mg x t) (hg : Gl X x := by rfl) (hd : (x == ("__debug__" : Str)) = false := by decide) : QE X (.Name x pos) (fun _ => .ok t) := ⟨t_glob g hg hd⟩
theorem T_ty {x : Str} {n : String} (hm : X.mg x = none) (hv : bootBuiltins x = some (.type n) := by rfl) (hg : Gl X x := by rfl) (hn : x ≠ "__name__" := by decide) (hd : (x == ("__debug__" : Str)) = false := by decide) : QE X (.Name x pos) (fun _ => .ok (.ty n)) := ⟨t_ty hm hv hg hn hd⟩
theorem T_bin {op : Operator} {h : Tr → Tr → Rs Tr} (ho : OpT X (binaryOp op) h) (ha : QE X a F) (hb : QE X b G) : QE X (.BinOp a op b pos) (fun ρ => op2 h (F ρ) (G ρ)) := ⟨t_bin ho ha.h hb.h⟩
theorem T_cmp {op : CmpOp} {h : Tr → Tr → Rs Tr} (ho : OpT X (compareOp op) h) (ha : QE X a F) (hb : QE X b G) (hm : behindInMarks op b = false := by first | exact nomark _ | rfl | with_unfolding_all rfl) : QE X (.Compare a [op] [b] pos) (fun ρ => op2 h (F ρ) (G ρ)) := ⟨t_cmp ho ha.h hb.h hm⟩
theorem Q_cmp {op : CmpOp} {h : Tr → Tr → Rs Tr} (ho : OpT X (compareOp op) h) (ha : QE X a F) (hb : QE X b G) (hm : behindInMarks op b = false := by first | exact nomark _ | rfl | with_unfolding_all rfl) : QT X (.Compare a [op] [b] pos) (fun ρ => asB (op2 h (F ρ) (G ρ))) := ⟨q_cmp ho ha.h hb.h hm⟩
theorem Q_val (ha : QE X a F) (he : plainTest a = true := by rfl) : QT X a (fun ρ => (F ρ).bind truT) := ⟨q_val ha.h he⟩
theorem Q_not (ha : QT X a A) : QT X (.UnaryOp .Not a pos) (fun ρ => notB (A ρ)) := ⟨q_not ha.h⟩
theorem W_and1 (ha : QT X a A) : QW X (.BoolOp .And [a] pos) A := ⟨w_and1 ha.h⟩
theorem W_or1 (ha : QT X a A) : QW X (.BoolOp .Or [a] pos) A := ⟨w_or1 ha.h⟩
theorem W_and (ha : QT X a A) (hb : QW X (.BoolOp .And (b :: rest) pos) B) : QW X (.BoolOp .And (a :: b :: rest) pos) (fun ρ => andB (A ρ) (B ρ)) := ⟨w_and ha.h hb.h⟩
theorem W_or (ha : QT X a A) (hb : QW X (.BoolOp .Or (b :: rest) pos) B) : QW X (.BoolOp .Or (a :: b :: rest) pos) (fun ρ => orB (A ρ) (B ρ)) := ⟨w_or ha.h hb.h⟩
theorem Q_bool {op} {es : List Expr} (h : QW X (.BoolOp op es pos) A) : QT X (.BoolOp op es pos) A := ⟨q_bool h.h⟩
theorem T_and (ha : QE X a F) (hb : QE X (.BoolOp .And (b :: rest) pos) G) : QE X (.BoolOp .And (a :: b :: rest) pos) (fun ρ => andV (F ρ) (G ρ)) := ⟨t_and ha.h hb.h⟩
theorem T_or (ha : QE X a F) (hb : QE X (.BoolOp .Or (b :: rest) pos) G) : QE X (.BoolOp .Or (a :: b :: rest) pos) (fun ρ => orV (F ρ) (G ρ)) := ⟨t_or ha.h hb.h⟩
theorem T_one {op} (h : QE X a F) : QE X (.BoolOp op [a] pos) F := ⟨t_one h.h⟩
theorem T_not (ha : QE X a F) : QE X (.UnaryOp .Not a pos) (fun ρ => blR (notB ((F ρ).bind truT))) := ⟨t_not ha.h⟩
theorem T_if (hc : QT X c A) (ha : QE X a F) (hb : QE X b G) : QE X (.IfExp c a b pos) (fun ρ => iteR (A ρ) (F ρ) (G ρ)) := ⟨t_if hc.h ha.h hb.h⟩
theorem T_chain {op op' : CmpOp} {h h' : Tr → Tr → Rs Tr} (ho : OpT X (compareOp op) h) (ho' : OpT X (compareOp op') h') (ha : QE X a F) (hb : QE X b G) (hc : QE X c E) (hm : lastMarks [op, op'] [b, c] = false := by with_unfolding_all rfl) : QE X (.Compare a [op, op'] [b, c] pos) (fun ρ => chnR h h' (F ρ) (G ρ) (E ρ)) := ⟨t_chain ho ho' ha.h hb.h hc.h hm⟩
theorem Q_chain {op op' : CmpOp} {h h' : Tr → Tr → Rs Tr} (ho : OpT X (compareOp op) h) (ho' : OpT X (compareOp op') h') (ha : QE X a F) (hb : QE X b G) (hc : QE X c E) (hm : lastMarks [op, op'] [b, c] = false := by with_unfolding_all rfl) : QT X (.Compare a [op, op'] [b, c] pos) (fun ρ => asB (chnR h h' (F ρ) (G ρ) (E ρ))) := ⟨q_chain ho ho' ha.h hb.h hc.h hm⟩
theorem L_nil  : QA X [] (fun _ => .ok []) := ⟨l_nil ⟩
theorem L_cons (ha : QE X a F) (hr : QA X es L) (hs : isStar a = false := by rfl) : QA X (a :: es) (fun ρ => consR (F ρ) (L ρ)) := ⟨l_cons ha.h hr.h hs⟩
theorem T_tup {x1} (h : QA X es L) : QE X (.Tuple es x1 pos) (fun ρ => tupR (L ρ)) := ⟨t_tup h.h⟩
theorem T_lst (h : QA X es L) : QE X (.List es pos) (fun ρ => lstR (L ρ)) := ⟨t_lst h.h⟩
theorem T_callB {id : String} {x : Str} {p : Pos} {e : Expr} {h : List Tr → Rs Tr} (hc : CallT X (.builtin id) h) (hm : X.mg x = none) (ha : QA X (e :: es) L) (hv : bootBuiltins x = some (.builtin id) := by rfl) (hg : Gl X x := by rfl) (hn : x ≠ "__name__" := by decide) (hdb : (x == ("__debug__" : Str)) = false := by decide) (hst : noStars (e :: es) = true := by rfl) : QE X (.Call (.Name x p) (e :: es) [] pos) (fun ρ => callR h (L ρ)) := ⟨t_callB hc hm ha.h hv hg hn hdb hst⟩
theorem T_callTy {T : String} {x : Str} {p : Pos} {e : Expr} {h : List Tr → Rs Tr} (hc : CallT X (.type T) h) (hm : X.mg x = none) (ha : QA X (e :: es) L) (hv : bootBuiltins x = some (.type T) := by rfl) (hg : Gl X x := by rfl) (hn : x ≠ "__name__" := by decide) (hdb : (x == ("__debug__" : Str)) = false := by decide) (hst : noStars (e :: es) = true := by rfl) : QE X (.Call (.Name x p) (e :: es) [] pos) (fun ρ => callR h (L ρ)) := ⟨t_callTy hc hm ha.h hv hg hn hdb hst⟩
theorem T_def {x : Str} {st : Stmt} {ps : List Str} {f : Addr} {fd : FuncData} {k : Nat} {h : List Tr → Rs Tr} {e : Expr} {p : Pos} (D : DefAt X.K X.mg x st ps f fd) (G : FnOk X.prog X.w X.K X.mg X.base CX0 k f fd ps (spT X.K h)) (hr : Room k X.A) (ha : QA X (e :: es) L) (hg : Gl X x := by rfl) (hdb : (x == ("__debug__" : Str)) = false := by decide) (hst : noStars (e :: es) = true := by rfl) : QE X (.Call (.Name x p) (e :: es) [] pos) (fun ρ => callR h (L ρ)) := ⟨t_def D G hr ha.h hg hdb hst⟩
end
section
variable {X : Cx} {a b c e : Expr} {pos : Pos} {F : Rho → Rs Tr} {G G' : Rho → Rs Out} {A : Rho → Rs Bool} {st : Stmt} {rest sts : List Stmt} {L : Rho → Rs (List Tr)} {tg : Expr} {p : Pos} {scope : Scope} {N' : List Str} {ix : List (Option Nat)} {elt iter : Expr} {ifs : List Expr} {T : Tgt} {W : Rho → Rs (List Tr)}
theorem S_nil  : QB X [] (fun ρ => .ok (.nx ρ)) := ⟨s_nil ⟩
theorem S_cons (h1 : QS X st G) (h2 : QB X rest G') : QB X (st :: rest) (fun ρ => seqO (G ρ) G') := ⟨s_cons h1.h h2.h⟩
theorem S_one (h1 : QS X st G) : QB X [st] G := ⟨s_one h1.h⟩
theorem S_pass  : QS X (.Pass pos) (fun ρ => .ok (.nx ρ)) := ⟨s_pass ⟩
theorem S_doc {x j pos pos'} : QS X (.Expr (.Constant (.str x) j pos) pos') (fun ρ => .ok (.nx ρ)) := ⟨s_doc ⟩
theorem S_break  : QS X (.Break pos) (fun ρ => .ok (.bk ρ)) := ⟨s_break ⟩
theorem S_continue  : QS X (.Continue pos) (fun ρ => .ok (.ct ρ)) := ⟨s_continue ⟩
theorem S_set {i : Nat} {x : Str} {pos' : Pos} (he : QE X e F) (hN : X.N.Nodup := by assumption) (hi : X.N[i]? = some x := by rfl) (hx : Loc X.env.scope x := by first | exact Or.inl rfl | exact Or.inr rfl) (hs : isComp e = false := by rfl) (hf : X.fn x = true ∨ X.env.scope.names.lookup x = some .local := by first | exact .inl rfl | exact .inr rfl | assumption) : QS X (.Assign [.Name x pos'] e pos) (fun ρ => setO i (F ρ) ρ) := ⟨s_set he.h hN hi hx hs hf⟩
theorem S_ret (he : QE X e F) : QS X (.Return (some e) pos) (fun ρ => retO (F ρ)) := ⟨s_ret he.h⟩
theorem S_retN  : QS X (.Return none pos) (fun _ => .ok (.ret .non)) := ⟨s_retN ⟩
theorem S_expr (he : QE X e F) (hs : isComp e = false := by rfl) : QS X (.Expr e pos) (fun ρ => dropO (F ρ) ρ) := ⟨s_expr he.h hs⟩
theorem S_if {ys ns : List Stmt} (hc : QT X c A) (ha : QB X ys G) (hb : QB X ns G') : QS X (.If c ys ns pos) (fun ρ => ifO (A ρ) (G ρ) (G' ρ)) := ⟨s_if hc.h ha.h hb.h⟩
theorem S_par {i j : Nat} {x y : Str} {px py pt : Pos} {kt k2 pt2} {L : Rho → Rs (List Tr)} (ha : QA X [a, b] L) (hN : X.N.Nodup := by assumption) (hc : X.calm = true := by rfl) (hi : X.N[i]? = some x := by rfl) (hj : X.N[j]? = some y := by rfl) (hij : i ≠ j := by decide) (hx : X.env.scope.names.lookup x = some .local := by rfl) (hy : X.env.scope.names.lookup y = some .local := by rfl) (hw : swappedStores [.Tuple [.Name x px, .Name y py] kt pt] (.Tuple [a, b] k2 pt2) X.env = pure (some [x, y]) := by rfl) (hs : swapsWithSole [.Tuple [.Name x px, .Name y py] kt pt] (.Tuple [a, b] k2 pt2) pos.line X.env = pure false := by rfl) : QS X (.Assign [.Tuple [.Name x px, .Name y py] kt pt] (.Tuple [a, b] k2 pt2) pos) (fun ρ => parO i j (L ρ) ρ) := ⟨s_par ha.h hN hc hi hj hij hx hy hw hs⟩
theorem G_name (i : Nat) {x : Str} (hN : X.N.Nodup := by assumption) (hi : X.N[i]? = some x := by rfl) (hx : Loc X.env.scope x := by first | exact Or.inl rfl | exact Or.inr rfl) (hf : X.fn x = true ∨ X.env.scope.names.lookup x = some .local := by first | exact .inl rfl | exact .inr rfl | assumption) : QG X (.Name x pos) (gN i) := ⟨g_name i hN hi hx hf⟩
theorem G_nil  : QGs X [] (gNs []) := ⟨g_nil ⟩
theorem G_cons {es : List Expr} {i : Nat} {is : List Nat} {x : Str} (h2 : QGs X es (gNs is)) (hN : X.N.Nodup := by assumption) (hi : X.N[i]? = some x := by rfl) (hx : Loc X.env.scope x := by first | exact Or.inl rfl | exact Or.inr rfl) (hf : X.fn x = true ∨ X.env.scope.names.lookup x = some .local := by first | exact .inl rfl | exact .inr rfl | assumption) (hs : (assignEach (.Name x pos :: es) X.env).map (·.2) = assign (.Name x pos) X.env :: (assignEach es X.env).map (·.2) := by rfl) : QGs X (.Name x pos :: es) (gNs (i :: is)) := ⟨g_cons h2.h hN hi hx hf hs⟩
theorem G_tup {es : List Expr} {k : Nat} {is : List Nat} (h : QGs X es (gNs is)) (hc : X.calm = true := by rfl) (hn : (assignEach es X.env).length = is.length := by rfl) (hst : (assignEach es X.env).findIdx? (·.1) = none := by rfl) : QG X (.Tuple es k pos) (gT is) := ⟨g_tup h.h hc hn hst⟩
theorem S_asg {tg : Expr} {T : Tgt} (hg : QG X tg T) (he : QE X e F) (hs : swapsWithSole [tg] e pos.line X.env = pure false := by rfl) (hw : swappedStores [tg] e X.env = pure none := by rfl) (h1 : (assignEach [tg] X.env).map (·.2) = [assign tg X.env] := by rfl) : QS X (.Assign [tg] e pos) (fun ρ => unpO T (F ρ) ρ) := ⟨s_asg hg.h he.h hs hw h1⟩
theorem S_for {tg iter : Expr} {body : List Stmt} {W : Rho → Rs (List Tr)} {T : Tgt} (hi : QI X tg iter W) (hg : QG X tg T) (hb : QB X body G) (hp : PassesOwn (model X.prog X.w) X.A X.env X.xe := by exact PassesOwn.never) (hc : X.calm = true := by rfl) (hs : isSet iter = false := by rfl) : QS X (.For tg iter body [] pos) (fun ρ => loopO T G (W ρ) ρ) := ⟨s_for hi.h hg.h hb.h hp hc hs⟩
theorem I_seq {tg l : Expr} (hl : QE X l F) : QI X tg l (fun ρ => seqW (F ρ)) := ⟨i_seq hl.h⟩
theorem I_range1 (hm : X.mg "range" = none) (ha : QA X [a] L) (hg : Gl X "range" := by rfl) (hs : noStars [a] = true := by rfl) : QI X tg (.Call (.Name "range" p) [a] [] pos) (fun ρ => rng1W (L ρ)) := ⟨i_range1 hm ha.h hg hs⟩
theorem I_range2 (hm : X.mg "range" = none) (ha : QA X [a, b] L) (hg : Gl X "range" := by rfl) (hs : noStars [a, b] = true := by rfl) : QI X tg (.Call (.Name "range" p) [a, b] [] pos) (fun ρ => rng2W (L ρ)) := ⟨i_range2 hm ha.h hg hs⟩
theorem F_nil {X : Cx} : QF X [] (fun _ => .ok true) := ⟨f_nil ⟩
theorem F_one {X : Cx} {c : Expr} {A : Rho → Rs Bool} (h : QT X c A) : QF X [c] A := ⟨f_one h.h⟩
theorem T_lc (Lk : LcOk X N' ix scope) (hi : QI X tg iter W) (hin : BlkQ X scope N' tg elt ifs T A F) (hT : TgOk T) (hc : X.calm = true := by rfl) (hs : isSet iter = false := by rfl) : QE X (.ListComp elt [⟨tg, iter, ifs, 0⟩] scope pos) (fun ρ => lcR ix T A F (W ρ) ρ) := ⟨t_lc Lk hi.h hin.to hT hc hs⟩
theorem S_setLC {i : Nat} {x : Str} {px spos : Pos} (Lk : LcOk X N' ix scope) (hit : QI X tg iter W) (hin : BlkQ X scope N' tg elt ifs T A F) (hT : TgOk T) (hN : X.N.Nodup := by assumption) (hc : X.calm = true := by rfl) (hi : X.N[i]? = some x := by rfl) (hx : Loc X.env.scope x := by first | exact Or.inl rfl | exact Or.inr rfl) (hsw : swapsWith (.ListComp elt [⟨tg, iter, ifs, 0⟩] scope pos) (some (.Name x px)) spos.line X.env = pure true := by rfl) (hs : isSet iter = false := by rfl) (hf : X.fn x = true ∨ X.env.scope.names.lookup x = some .local := by first | exact .inl rfl | exact .inr rfl | assumption) : QS X (.Assign [.Name x px] (.ListComp elt [⟨tg, iter, ifs, 0⟩] scope pos) spos) (fun ρ => setO i (lcR ix T A F (W ρ) ρ) ρ) := ⟨s_setLC Lk hit.h hin.to hT hN hc hi hx hsw hs hf⟩
end
section
variable {X : Cx} {a b e : Expr} {pos : Pos} {F G : Rho → Rs Tr} {P1 P2 : Rho → Rs (Option Int)} {lo hi : Option Expr} {p2 : Pos} {es : List Expr} {L : Rho → Rs (List Tr)} {o : Expr} {name : Str} {apos cpos : Pos} {id : String} {h : Str → List Tr → Rs Tr}
theorem T_ix (hu : X.A.units + 1 < cLine) (ha : QE X a F) (hb : QE X b G) (hs : PlainIx b := by exact fun _ _ => rfl) : QE X (.Subscript a b pos) (fun ρ => op2 ixT (F ρ) (G ρ)) := ⟨t_ix hu ha.h hb.h hs⟩
theorem P_none  : QO X none (fun _ => .ok none) := ⟨p_none ⟩
theorem P_some (h : QE X e F) : QO X (some e) (fun ρ => asI (F ρ)) := ⟨p_some h.h⟩
theorem T_sl (he : QE X e F) (hl : QO X lo P1) (hu : QO X hi P2) : QE X (.Subscript e (.Slice lo hi none p2) pos) (fun ρ => slR (F ρ) (P1 ρ) (P2 ρ)) := ⟨t_sl he.h hl.h hu.h⟩
theorem T_rev {k : Expr} (he : QE X e F) (hk : QE X k G) : QE X (.Subscript e (.Slice none none (some k) p2) pos) (fun ρ => op2 revC (F ρ) (G ρ)) := ⟨t_rev he.h hk.h⟩
theorem T_ms (slot : Slot "str" name id) (hty : typeOf (.builtin id) = pure (.type "method_descriptor")) (hm : MtR X id (rM X h)) (ho : QE X o F) (ha : QA X (e :: es) L) (pa : PlainAttrs "str" := by exact PySem.F.plainAttrs_str) (hbase : isCall o = false := by rfl) (hst : noStars (e :: es) = true := by rfl) (hn : (e :: es).length < 30 := by decide) (hline : (apos.endLine == cpos.line) = true := by rfl) : QE X (.Call (.Attribute o name apos) (e :: es) [] cpos) (fun ρ => mS h (F ρ) (L ρ)) := ⟨t_ms slot hty hm ho.h ha.h pa hbase hst hn hline⟩
theorem T_ms0 (slot : Slot "str" name id) (hty : typeOf (.builtin id) = pure (.type "method_descriptor")) (hm : MtR X id (rM X h)) (ho : QE X o F) (pa : PlainAttrs "str" := by exact PySem.F.plainAttrs_str) (hbase : isCall o = false := by rfl) (hline : (apos.endLine == cpos.line) = true := by rfl) : QE X (.Call (.Attribute o name apos) [] [] cpos) (fun ρ => mS h (F ρ) (.ok [])) := ⟨t_ms0 slot hty hm ho.h pa hbase hline⟩
end
section
variable {X : Cx} {a e : Expr} {pos : Pos} {F : Rho → Rs Tr}
theorem T_neg (ha : QE X a F) : QE X (.UnaryOp .USub a pos) (fun ρ => (F ρ).bind negT) := ⟨t_neg ha.h⟩
end
section
variable {X : Cx} {a e o f : Expr} {pos apos cpos : Pos} {F G E : Rho → Rs Tr} {keys : List (Option Expr)} {vals : List Expr} {P : Rho → Rs (List (Tr × Tr))} {x : Str} {kts : List (Str × Tr)} {p : Pos}
theorem T_dict (h : QP X pos keys vals P) (hall : keys.all (·.isSome) = true := by rfl) (hl : keys.length = vals.length := by rfl) (h0 : keys.isEmpty = false := by rfl) (h15 : keys.length ≤ 15 := by decide) : QE X (.Dict keys vals pos) (fun ρ => dicR (P ρ)) := ⟨t_dict h hall hl h0 h15⟩
theorem T_get1 (hu : X.A.units + 1 < cLine) (ho : QE X o F) (he : QE X e G) (hb : isCall o = false := by rfl) (hst : noStars [e] = true := by rfl) (hl : (apos.endLine == cpos.line) = true := by rfl) : QE X (.Call (.Attribute o "get" apos) [e] [] cpos) (fun ρ => getR1 (F ρ) (G ρ)) := ⟨t_get1 hu ho.h he.h hb hst hl⟩
theorem T_get2 (hu : X.A.units + 1 < cLine) (ho : QE X o F) (he : QE X e G) (hf : QE X f E) (hb : isCall o = false := by rfl) (hst : noStars [e, f] = true := by rfl) (hl : (apos.endLine == cpos.line) = true := by rfl) : QE X (.Call (.Attribute o "get" apos) [e, f] [] cpos) (fun ρ => getR2 (F ρ) (G ρ) (E ρ)) := ⟨t_get2 hu ho.h he.h hf.h hb hst hl⟩
theorem T_inG (g : GDictT X.K X.w X.mg x kts) (ha : QE X a F) (hg : Gl X x := by rfl) (hd : (x == ("__debug__" : Str)) = false := by decide) : QE X (.Compare a [.In] [.Name x p] pos) (fun ρ => (F ρ).bind (inGT kts)) := ⟨t_inG g ha.h hg hd⟩
theorem Q_inG (g : GDictT X.K X.w X.mg x kts) (ha : QE X a F) (hg : Gl X x := by rfl) (hd : (x == ("__debug__" : Str)) = false := by decide) : QT X (.Compare a [.In] [.Name x p] pos) (fun ρ => asB ((F ρ).bind (inGT kts))) := ⟨q_inG g ha.h hg hd⟩
theorem T_ixG (g : GDictT X.K X.w X.mg x kts) (ha : QE X a F) (hg : Gl X x := by rfl) (hd : (x == ("__debug__" : Str)) = false := by decide) (hs : NoSl a := by exact fun _ _ => rfl) : QE X (.Subscript (.Name x p) a pos) (fun ρ => (F ρ).bind (ixGT kts)) := ⟨t_ixG g ha.h hg hd hs⟩
end
theorem D_cons {X : Cx} {pos : Pos} {F G : Rho → Rs Tr} {keys : List (Option Expr)} {vals : List Expr} {P : Rho → Rs (List (Tr × Tr))} {k v : Expr} (hk : QE X k F) (hv : QE X v G) (hr : QP X pos keys vals P) : QP X pos (some k :: keys) (v :: vals) fun ρ => pairR (F ρ) (G ρ) (P ρ) := d_cons' hk.h hv.h hr
theorem Fun.okQ {P : Program} {w : World} {K : PySem.W.Frag} {mg : Str → Option Value} {base : Heap} {x qual : Str} {st : Stmt} {f : Addr} {fd : FuncData} {N ps : List Str} {k : Nat} {h : List Tr → Rs Tr} (Fn : Fun K x qual st f fd) (S : FnScope N ps (defScope st)) (len : ∀ ts t, h ts = .ok t → ts.length = ps.length)
    (hbody : ∀ (cdv : Value) (A : Around) (outer : List Env) (s : Shared) (H : Hp) (E : XK), Room k (A.deeper (envOfC qual (defScope st) s.heap.objs.size f cdv)) →
      ∃ G, QB (cxOf CX0 P w K mg base N qual (defScope st) f cdv A outer s H E).nox (defBody st) G ∧ ∀ ts t, h ts = .ok t → bodyR (G (startT N.length ts)) = .ok t) : FnOk P w K mg base CX0 (k + 1) f fd ps (spT K h) :=
  Fn.okT S len fun cdv A outer s H E hr => let ⟨G, h, q⟩ := hbody cdv A outer s H E hr; ⟨G, h.h, q⟩
end L2

namespace M3
open PySem L2
def top (i : Nat) : Stmt := PySem.Challenge.pw_talkhall_k03_rows.main.body.getD i (.Pass ⟨0, 0, 0, 0⟩)
abbrev s_is_letter : Stmt := top 3
def g_is_letter : Rho → Rs Out := fun ρ => retO (chnR leC leC (Rs.ok (.str "a")) (getS ρ 0) (Rs.ok (.str "z")))
def m_is_letter : List Tr → Rs Tr := mir 1 1 g_is_letter
theorem sc_is_letter : FnScope ["sign"] ["sign"] (defScope s_is_letter) := ⟨rfl, rfl, rfl, by decide +kernel, rfl, by decide +kernel, by decide +kernel⟩
abbrev s_is_name : Stmt := top 4
def g_is_name : Rho → Rs Out := fun ρ => seqO (ifO (notB ((callR isiT (consR (getS ρ 0) (consR (Rs.ok (.ty "str")) (.ok [])))).bind truT)) (retO (Rs.ok (.bl false))) (.ok (.nx ρ))) fun ρ => retO (andV (chnR leC leC (Rs.ok (.int 1)) (callR lenT (consR (getS ρ 0) (.ok []))) (Rs.ok (.int 6))) (callR allT (consR (lcR [none] (gN 0) (fun _ => .ok true) (fun ρ => (callR m_is_letter (consR (getS ρ 0) (.ok [])))) (seqW (getS ρ 0)) ρ) (.ok []))))
def m_is_name : List Tr → Rs Tr := mir 1 1 g_is_name
theorem sc_is_name : FnScope ["thing"] ["thing"] (defScope s_is_name) := ⟨rfl, rfl, rfl, by decide +kernel, rfl, by decide +kernel, by decide +kernel⟩
abbrev s_is_words : Stmt := top 5
def g_is_words : Rho → Rs Out := fun ρ => retO (andV (callR isiT (consR (getS ρ 0) (consR (Rs.ok (.ty "str")) (.ok [])))) (chnR leC leC (Rs.ok (.int 1)) (callR lenT (consR (getS ρ 0) (.ok []))) (Rs.ok (.int 60))))
def m_is_words : List Tr → Rs Tr := mir 1 1 g_is_words
theorem sc_is_words : FnScope ["thing"] ["thing"] (defScope s_is_words) := ⟨rfl, rfl, rfl, by decide +kernel, rfl, by decide +kernel, by decide +kernel⟩
abbrev s_is_whole : Stmt := top 11
def g_is_whole : Rho → Rs Out := fun ρ => retO (andV (callR isiT (consR (getS ρ 0) (consR (Rs.ok (.ty "int")) (.ok [])))) (blR (notB ((callR isiT (consR (getS ρ 0) (consR (Rs.ok (.ty "bool")) (.ok [])))).bind truT))))
def m_is_whole : List Tr → Rs Tr := mir 1 1 g_is_whole
theorem sc_is_whole : FnScope ["thing"] ["thing"] (defScope s_is_whole) := ⟨rfl, rfl, rfl, by decide +kernel, rfl, by decide +kernel, by decide +kernel⟩
abbrev s_is_number : Stmt := top 12
def g_is_number : Rho → Rs Out := fun ρ => retO (andV (callR m_is_whole (consR (getS ρ 0) (.ok []))) (op2 geC (getS ρ 0) (Rs.ok (.int 1))))
def m_is_number : List Tr → Rs Tr := mir 1 1 g_is_number
theorem sc_is_number : FnScope ["thing"] ["thing"] (defScope s_is_number) := ⟨rfl, rfl, rfl, by decide +kernel, rfl, by decide +kernel, by decide +kernel⟩
abbrev s_is_answer : Stmt := top 13
def g_is_answer : Rho → Rs Out := fun ρ => retO (orV (op2 isC (getS ρ 0) (Rs.ok .non)) (callR m_is_number (consR (getS ρ 0) (.ok []))))
def m_is_answer : List Tr → Rs Tr := mir 1 1 g_is_answer
theorem sc_is_answer : FnScope ["thing"] ["thing"] (defScope s_is_answer) := ⟨rfl, rfl, rfl, by decide +kernel, rfl, by decide +kernel, by decide +kernel⟩
abbrev s_is_setting : Stmt := top 14
def g_is_setting : Rho → Rs Out := fun ρ => retO (andV (callR isiT (consR (getS ρ 0) (consR (Rs.ok (.ty "str")) (.ok [])))) (andV ((getS ρ 0).bind (inGT [("door", .tup [.str "open", .str "asked"]), ("voice", .tup [.str "all", .str "some"]), ("past", .tup [.str "shown", .str "hidden"])])) (op2 inC (getS ρ 1) ((getS ρ 0).bind (ixGT [("door", .tup [.str "open", .str "asked"]), ("voice", .tup [.str "all", .str "some"]), ("past", .tup [.str "shown", .str "hidden"])])))))
def m_is_setting : List Tr → Rs Tr := mir 2 2 g_is_setting
theorem sc_is_setting : FnScope ["what", "value"] ["what", "value"] (defScope s_is_setting) := ⟨rfl, rfl, rfl, by decide +kernel, rfl, by decide +kernel, by decide +kernel⟩
abbrev s_are_two_parts : Stmt := top 15
def g_are_two_parts : Rho → Rs Out := fun ρ => seqO (ifO (asB (op2 eqC (getS ρ 0) (Rs.ok (.str "set")))) (retO (callR m_is_setting (consR (getS ρ 1) (consR (getS ρ 2) (.ok []))))) (.ok (.nx ρ))) fun ρ => seqO (ifO (asB (op2 eqC (getS ρ 0) (Rs.ok (.str "role")))) (retO (andV (callR m_is_name (consR (getS ρ 1) (.ok []))) (op2 inC (getS ρ 2) (Rs.ok (.tup [.str "guest", .str "speaker", .str "keeper", .str "owner"]))))) (.ok (.nx ρ))) fun ρ => seqO (ifO (asB (op2 eqC (getS ρ 0) (Rs.ok (.str "say")))) (retO (andV (callR m_is_words (consR (getS ρ 1) (.ok []))) (callR m_is_answer (consR (getS ρ 2) (.ok []))))) (.ok (.nx ρ))) fun ρ => seqO (ifO (asB (op2 eqC (getS ρ 0) (Rs.ok (.str "mend")))) (retO (andV (callR m_is_number (consR (getS ρ 1) (.ok []))) (callR m_is_words (consR (getS ρ 2) (.ok []))))) (.ok (.nx ρ))) fun ρ => retO (Rs.ok (.bl false))
def m_are_two_parts : List Tr → Rs Tr := mir 3 3 g_are_two_parts
theorem sc_are_two_parts : FnScope ["word", "first", "second"] ["word", "first", "second"] (defScope s_are_two_parts) := ⟨rfl, rfl, rfl, by decide +kernel, rfl, by decide +kernel, by decide +kernel⟩
abbrev s_are_parts : Stmt := top 16
def g_are_parts : Rho → Rs Out := fun ρ => seqO (ifO (asB (op2 inC (getS ρ 0) (Rs.ok (.tup [.str "found", .str "enter", .str "leave"])))) (retO (op2 eqC (callR lenT (consR (getS ρ 1) (.ok []))) (Rs.ok (.int 0)))) (.ok (.nx ρ))) fun ρ => seqO (ifO (asB (op2 inC (getS ρ 0) (Rs.ok (.tup [.str "ask", .str "unbar", .str "out", .str "bar"])))) (retO (andV (op2 eqC (callR lenT (consR (getS ρ 1) (.ok []))) (Rs.ok (.int 1))) (callR m_is_name (consR (op2 ixT (getS ρ 1) (Rs.ok (.int 0))) (.ok []))))) (.ok (.nx ρ))) fun ρ => seqO (ifO (asB (op2 eqC (getS ρ 0) (Rs.ok (.str "gone")))) (retO (andV (op2 eqC (callR lenT (consR (getS ρ 1) (.ok []))) (Rs.ok (.int 1))) (callR m_is_number (consR (op2 ixT (getS ρ 1) (Rs.ok (.int 0))) (.ok []))))) (.ok (.nx ρ))) fun ρ => retO (andV (op2 eqC (callR lenT (consR (getS ρ 1) (.ok []))) (Rs.ok (.int 2))) (callR m_are_two_parts (consR (getS ρ 0) (consR (op2 ixT (getS ρ 1) (Rs.ok (.int 0))) (consR (op2 ixT (getS ρ 1) (Rs.ok (.int 1))) (.ok []))))))
def m_are_parts : List Tr → Rs Tr := mir 2 2 g_are_parts
theorem sc_are_parts : FnScope ["word", "parts"] ["word", "parts"] (defScope s_are_parts) := ⟨rfl, rfl, rfl, by decide +kernel, rfl, by decide +kernel, by decide +kernel⟩
abbrev s_is_row : Stmt := top 17
def g_is_row : Rho → Rs Out := fun ρ => seqO (ifO (orB (notB ((callR isiT (consR (getS ρ 0) (consR (Rs.ok (.ty "tuple")) (.ok [])))).bind truT)) (asB (op2 ltC (callR lenT (consR (getS ρ 0) (.ok []))) (Rs.ok (.int 3))))) (retO (Rs.ok (.bl false))) (.ok (.nx ρ))) fun ρ => retO (andV (callR m_is_number (consR (op2 ixT (getS ρ 0) (Rs.ok (.int 0))) (.ok []))) (andV (callR m_is_name (consR (op2 ixT (getS ρ 0) (Rs.ok (.int 1))) (.ok []))) (callR m_are_parts (consR (op2 ixT (getS ρ 0) (Rs.ok (.int 2))) (consR (slR (getS ρ 0) (asI (Rs.ok (.int 3))) (.ok none)) (.ok []))))))
def m_is_row : List Tr → Rs Tr := mir 1 1 g_is_row
theorem sc_is_row : FnScope ["thing"] ["thing"] (defScope s_is_row) := ⟨rfl, rfl, rfl, by decide +kernel, rfl, by decide +kernel, by decide +kernel⟩
abbrev s_w_cell : Stmt := top 19
def g_w_cell : Rho → Rs Out := fun ρ => seqO (ifO (asB (op2 ltC (getS ρ 1) (callR lenT (consR (getS ρ 0) (.ok []))))) (retO (op2 ixT (getS ρ 0) (getS ρ 1))) (.ok (.nx ρ))) fun ρ => retO (Rs.ok (.int 0))
def m_w_cell : List Tr → Rs Tr := mir 2 2 g_w_cell
theorem sc_w_cell : FnScope ["_law_script", "_law_k"] ["_law_script", "_law_k"] (defScope s_w_cell) := ⟨rfl, rfl, rfl, by decide +kernel, rfl, by decide +kernel, by decide +kernel⟩
abbrev s_w_mix : Stmt := top 20
def g_w_mix : Rho → Rs Out := fun ρ => seqO (setO 3 (op2 modT (op2 mulT (getS ρ 0) (Rs.ok (.int 48271))) (getS ρ 1)) ρ) fun ρ => retO (op2 modT (op2 modT (op2 mulT (getS ρ 3) (op2 addT (getS ρ 3) (Rs.ok (.int 7)))) (getS ρ 1)) (getS ρ 2))
def m_w_mix : List Tr → Rs Tr := mir 3 4 g_w_mix
theorem sc_w_mix : FnScope ["_law_cell_here", "_law_prime", "_law_many", "_law_blend"] ["_law_cell_here", "_law_prime", "_law_many"] (defScope s_w_mix) := ⟨rfl, rfl, rfl, by decide +kernel, rfl, by decide +kernel, by decide +kernel⟩
abbrev s_w_words : Stmt := top 21
def g_w_words : Rho → Rs Out := fun ρ => seqO (setO 1 (Rs.ok (.str " !\"#$&'()*+,-./0123456789:;<=>?@ABCDEFGHIJKLMNOPQRSTUVWXYZ[\\]^_`abcdefghijklmnopqrstuvwxyz{|}~")) ρ) fun ρ => seqO (ifO (asB (op2 eqC (op2 modT (getS ρ 0) (Rs.ok (.int 3))) (Rs.ok (.int 0)))) (seqO (setO 2 (tupR (consR (Rs.ok (.str "hi")) (consR (Rs.ok (.str "@ann hi")) (consR (Rs.ok (.str "@bo @ann")) (consR (Rs.ok (.str "hi @cy")) (consR (Rs.ok (.str "@ann,")) (consR (Rs.ok (.str "@@ann")) (consR (Rs.ok (.str "a@ann")) (consR (Rs.ok (.str "\"")) (.ok [])))))))))) ρ) fun ρ => seqO (setO 2 (op2 addT (getS ρ 2) (tupR (consR (Rs.ok (.str "@ed @ed x")) (consR (Rs.ok (.str "@")) (consR (Rs.ok (.str "@annabel")) (consR (Rs.ok (.str "@zed")) (.ok []))))))) ρ) fun ρ => retO (op2 ixT (getS ρ 2) (callR m_w_mix (consR (getS ρ 0) (consR (Rs.ok (.int 9973)) (consR (Rs.ok (.int 12)) (.ok []))))))) (.ok (.nx ρ))) fun ρ => seqO (setO 3 (op2 addT (Rs.ok (.int 1)) (callR m_w_mix (consR (getS ρ 0) (consR (Rs.ok (.int 9967)) (consR (Rs.ok (.int 6)) (.ok [])))))) ρ) fun ρ => seqO (ifO (asB (op2 eqC (callR m_w_mix (consR (getS ρ 0) (consR (Rs.ok (.int 9949)) (consR (Rs.ok (.int 9)) (.ok []))))) (Rs.ok (.int 0)))) (setO 3 (Rs.ok (.int 60)) ρ) (.ok (.nx ρ))) fun ρ => retO (mS joinM (Rs.ok (.str "")) (consR (lcR [none, some 1, some 0] (gN 0) (fun _ => .ok true) (fun ρ => (op2 ixT (getS ρ 1) (callR m_w_mix (consR (op2 addT (getS ρ 2) (op2 mulT (Rs.ok (.int 7)) (getS ρ 0))) (consR (Rs.ok (.int 9941)) (consR (callR lenT (consR (getS ρ 1) (.ok []))) (.ok []))))))) (rng1W (consR (getS ρ 3) (.ok []))) ρ) (.ok [])))
def m_w_words : List Tr → Rs Tr := mir 1 4 g_w_words
theorem sc_w_words : FnScope ["_law_cell_here", "_law_signs", "_law_some", "_law_many"] ["_law_cell_here"] (defScope s_w_words) := ⟨rfl, rfl, rfl, by decide +kernel, rfl, by decide +kernel, by decide +kernel⟩
abbrev s_w_any_row : Stmt := top 22
def g_w_any_row : Rho → Rs Out := fun ρ => seqO (setO 1 (tupR (consR (Rs.ok (.str "ann")) (consR (Rs.ok (.str "bo")) (consR (Rs.ok (.str "abcdef")) (.ok []))))) ρ) fun ρ => seqO (setO 2 (op2 ixT (getS ρ 1) (callR m_w_mix (consR (getS ρ 0) (consR (Rs.ok (.int 9851)) (consR (Rs.ok (.int 3)) (.ok [])))))) ρ) fun ρ => seqO (setO 3 (op2 addT (Rs.ok (.int 1)) (callR m_w_mix (consR (getS ρ 0) (consR (Rs.ok (.int 9839)) (consR (Rs.ok (.int 12)) (.ok [])))))) ρ) fun ρ => seqO (setO 4 (callR m_w_mix (consR (getS ρ 0) (consR (Rs.ok (.int 9833)) (consR (Rs.ok (.int 12)) (.ok []))))) ρ) fun ρ => seqO (setO 5 (tupR (consR (op2 addT (Rs.ok (.int 1)) (callR m_w_mix (consR (getS ρ 0) (consR (Rs.ok (.int 9829)) (consR (Rs.ok (.int 99)) (.ok [])))))) (consR (op2 ixT (getS ρ 1) (callR m_w_mix (consR (getS ρ 0) (consR (Rs.ok (.int 9817)) (consR (Rs.ok (.int 3)) (.ok [])))))) (.ok [])))) ρ) fun ρ => seqO (ifO (asB (op2 ltC (getS ρ 4) (Rs.ok (.int 3)))) (retO (op2 addT (getS ρ 5) (tupR (consR (op2 ixT (tupR (consR (Rs.ok (.str "found")) (consR (Rs.ok (.str "enter")) (consR (Rs.ok (.str "leave")) (.ok []))))) (getS ρ 4)) (.ok []))))) (.ok (.nx ρ))) fun ρ => seqO (ifO (asB (op2 eqC (getS ρ 4) (Rs.ok (.int 3)))) (seqO (setO 6 (lstR (consR (tupR (consR (Rs.ok (.str "door")) (consR (Rs.ok (.str "open")) (.ok [])))) (consR (tupR (consR (Rs.ok (.str "door")) (consR (Rs.ok (.str "asked")) (.ok [])))) (consR (tupR (consR (Rs.ok (.str "voice")) (consR (Rs.ok (.str "all")) (.ok [])))) (.ok []))))) ρ) fun ρ => seqO (setO 6 (op2 addT (getS ρ 6) (lstR (consR (tupR (consR (Rs.ok (.str "voice")) (consR (Rs.ok (.str "some")) (.ok [])))) (consR (tupR (consR (Rs.ok (.str "past")) (consR (Rs.ok (.str "shown")) (.ok [])))) (consR (tupR (consR (Rs.ok (.str "past")) (consR (Rs.ok (.str "hidden")) (.ok [])))) (.ok [])))))) ρ) fun ρ => retO (op2 addT (op2 addT (getS ρ 5) (tupR (consR (Rs.ok (.str "set")) (.ok [])))) (op2 ixT (getS ρ 6) (callR m_w_mix (consR (getS ρ 0) (consR (Rs.ok (.int 9811)) (consR (Rs.ok (.int 6)) (.ok [])))))))) (.ok (.nx ρ))) fun ρ => seqO (ifO (asB (op2 ltC (getS ρ 4) (Rs.ok (.int 8)))) (retO (op2 addT (getS ρ 5) (tupR (consR (op2 ixT (tupR (consR (Rs.ok (.str "ask")) (consR (Rs.ok (.str "unbar")) (consR (Rs.ok (.str "out")) (consR (Rs.ok (.str "bar")) (.ok [])))))) (op2 subT (getS ρ 4) (Rs.ok (.int 4)))) (consR (getS ρ 2) (.ok [])))))) (.ok (.nx ρ))) fun ρ => seqO (ifO (asB (op2 eqC (getS ρ 4) (Rs.ok (.int 8)))) (retO (op2 addT (getS ρ 5) (tupR (consR (Rs.ok (.str "role")) (consR (getS ρ 2) (consR (op2 ixT (tupR (consR (Rs.ok (.str "guest")) (consR (Rs.ok (.str "speaker")) (consR (Rs.ok (.str "keeper")) (consR (Rs.ok (.str "owner")) (.ok [])))))) (callR m_w_mix (consR (getS ρ 0) (consR (Rs.ok (.int 9803)) (consR (Rs.ok (.int 4)) (.ok [])))))) (.ok []))))))) (.ok (.nx ρ))) fun ρ => seqO (ifO (asB (op2 eqC (getS ρ 4) (Rs.ok (.int 9)))) (retO (op2 addT (getS ρ 5) (tupR (consR (Rs.ok (.str "say")) (consR (callR m_w_words (consR (op2 addT (getS ρ 0) (Rs.ok (.int 1))) (.ok []))) (consR (op2 ixT (tupR (consR (Rs.ok .non) (consR (getS ρ 3) (.ok [])))) (op2 modT (getS ρ 0) (Rs.ok (.int 2)))) (.ok []))))))) (.ok (.nx ρ))) fun ρ => seqO (ifO (asB (op2 eqC (getS ρ 4) (Rs.ok (.int 10)))) (retO (op2 addT (getS ρ 5) (tupR (consR (Rs.ok (.str "mend")) (consR (getS ρ 3) (consR (callR m_w_words (consR (op2 addT (getS ρ 0) (Rs.ok (.int 2))) (.ok []))) (.ok []))))))) (.ok (.nx ρ))) fun ρ => retO (op2 addT (getS ρ 5) (tupR (consR (Rs.ok (.str "gone")) (consR (getS ρ 3) (.ok [])))))
def m_w_any_row : List Tr → Rs Tr := mir 1 7 g_w_any_row
theorem sc_w_any_row : FnScope ["_law_cell_here", "_law_names", "_law_whom", "_law_number", "_law_way", "_law_ahead", "_law_some"] ["_law_cell_here"] (defScope s_w_any_row) := ⟨rfl, rfl, rfl, by decide +kernel, rfl, by decide +kernel, by decide +kernel⟩
abbrev s_w_no_rows : Stmt := top 23
def g_w_no_rows : Rho → Rs Out := fun ρ => seqO (setO 1 (lstR (consR (slR (getS ρ 0) (.ok none) (asI (Rs.ok (.int 2)))) (consR (slR (getS ρ 0) (.ok none) (asI ((Rs.ok (.int 1)).bind negT))) (consR (op2 addT (getS ρ 0) (tupR (consR (Rs.ok .non) (.ok [])))) (consR (op2 addT (getS ρ 0) (tupR (consR (Rs.ok (.str "ann")) (.ok [])))) (consR (callR listT (consR (getS ρ 0) (.ok []))) (.ok []))))))) ρ) fun ρ => seqO (setO 1 (op2 addT (getS ρ 1) (lstR (consR (Rs.ok .non) (consR (op2 ixT (getS ρ 0) (Rs.ok (.int 0))) (consR (tupR (consR (getS ρ 0) (.ok []))) (consR (slR (getS ρ 0) (asI (Rs.ok (.int 1))) (.ok none)) (consR (op2 addT (tupR (consR (Rs.ok (.int 0)) (.ok []))) (slR (getS ρ 0) (asI (Rs.ok (.int 1))) (.ok none))) (.ok [])))))))) ρ) fun ρ => seqO (setO 1 (op2 addT (getS ρ 1) (lstR (consR (op2 addT (tupR (consR (Rs.ok (.bl true)) (.ok []))) (slR (getS ρ 0) (asI (Rs.ok (.int 1))) (.ok none))) (consR (op2 addT (tupR (consR (Rs.ok (.str "1")) (.ok []))) (slR (getS ρ 0) (asI (Rs.ok (.int 1))) (.ok none))) (consR (op2 addT (tupR (consR (Rs.ok .non) (.ok []))) (slR (getS ρ 0) (asI (Rs.ok (.int 1))) (.ok none))) (.ok [])))))) ρ) fun ρ => seqO (setO 1 (op2 addT (getS ρ 1) (lstR (consR (op2 addT (op2 addT (slR (getS ρ 0) (.ok none) (asI (Rs.ok (.int 1)))) (tupR (consR (Rs.ok (.str "Ann")) (.ok [])))) (slR (getS ρ 0) (asI (Rs.ok (.int 2))) (.ok none))) (consR (op2 addT (op2 addT (slR (getS ρ 0) (.ok none) (asI (Rs.ok (.int 1)))) (tupR (consR (Rs.ok (.int 5)) (.ok [])))) (slR (getS ρ 0) (asI (Rs.ok (.int 2))) (.ok none))) (.ok []))))) ρ) fun ρ => seqO (setO 1 (op2 addT (getS ρ 1) (lstR (consR (op2 addT (op2 addT (slR (getS ρ 0) (.ok none) (asI (Rs.ok (.int 2)))) (tupR (consR (Rs.ok (.str "word")) (.ok [])))) (slR (getS ρ 0) (asI (Rs.ok (.int 3))) (.ok none))) (consR (op2 addT (op2 addT (slR (getS ρ 0) (.ok none) (asI (Rs.ok (.int 2)))) (tupR (consR (Rs.ok .non) (.ok [])))) (slR (getS ρ 0) (asI (Rs.ok (.int 3))) (.ok none))) (.ok []))))) ρ) fun ρ => seqO (setO 1 (op2 addT (getS ρ 1) (lstR (consR (op2 addT (op2 addT (slR (getS ρ 0) (.ok none) (asI (Rs.ok (.int 1)))) (tupR (consR (Rs.ok (.str "")) (.ok [])))) (slR (getS ρ 0) (asI (Rs.ok (.int 2))) (.ok none))) (.ok [])))) ρ) fun ρ => seqO (loopO (gN 2) (fun ρ => seqO (setO 3 (lstR (consR (Rs.ok (.str "")) (consR (tupR (.ok [])) (consR (lstR (consR (Rs.ok (.str "a")) (.ok []))) (consR (Rs.ok (.bl true)) (consR ((Rs.ok (.int 1)).bind negT) (consR (Rs.ok (.int 0)) (consR (op2 mulT (Rs.ok (.str "x")) (Rs.ok (.int 61))) (consR (Rs.ok (.str "no such")) (.ok [])))))))))) ρ) fun ρ => seqO (ifO (orB (andB (asB (op2 inC (op2 ixT (getS ρ 0) (Rs.ok (.int 2))) (tupR (consR (Rs.ok (.str "mend")) (consR (Rs.ok (.str "gone")) (.ok [])))))) (asB (op2 eqC (getS ρ 2) (Rs.ok (.int 3))))) (andB (asB (op2 eqC (op2 ixT (getS ρ 0) (Rs.ok (.int 2))) (Rs.ok (.str "say")))) (asB (op2 eqC (getS ρ 2) (Rs.ok (.int 4)))))) (setO 3 (lstR (consR (Rs.ok (.str "ann")) (consR (tupR (.ok [])) (consR (Rs.ok (.bl true)) (consR ((Rs.ok (.int 1)).bind negT) (consR (Rs.ok (.int 0)) (consR (Rs.ok (.str "1")) (consR (lstR (consR (Rs.ok (.str "a")) (.ok []))) (.ok []))))))))) ρ) (.ok (.nx ρ))) fun ρ => seqO (ifO (orB (andB (asB (op2 eqC (op2 ixT (getS ρ 0) (Rs.ok (.int 2))) (Rs.ok (.str "mend")))) (asB (op2 eqC (getS ρ 2) (Rs.ok (.int 4))))) (andB (asB (op2 eqC (op2 ixT (getS ρ 0) (Rs.ok (.int 2))) (Rs.ok (.str "say")))) (asB (op2 eqC (getS ρ 2) (Rs.ok (.int 3)))))) (setO 3 (lstR (consR (Rs.ok (.str "")) (consR (tupR (.ok [])) (consR (lstR (consR (Rs.ok (.str "a")) (.ok []))) (consR (Rs.ok (.bl true)) (consR (Rs.ok (.int 5)) (consR (Rs.ok .non) (consR (op2 mulT (Rs.ok (.str "x")) (Rs.ok (.int 61))) (.ok []))))))))) ρ) (.ok (.nx ρ))) fun ρ => setO 1 (op2 addT (getS ρ 1) (lcR [none, some 0, some 2] (gN 0) (fun _ => .ok true) (fun ρ => (op2 addT (op2 addT (slR (getS ρ 1) (.ok none) (asI (getS ρ 2))) (tupR (consR (getS ρ 0) (.ok [])))) (slR (getS ρ 1) (asI (op2 addT (getS ρ 2) (Rs.ok (.int 1)))) (.ok none)))) (seqW (getS ρ 3)) ρ)) ρ) (rng2W (consR (Rs.ok (.int 3)) (consR (callR lenT (consR (getS ρ 0) (.ok []))) (.ok [])))) ρ) fun ρ => retO (getS ρ 1)
def m_w_no_rows : List Tr → Rs Tr := mir 1 4 g_w_no_rows
theorem sc_w_no_rows : FnScope ["_law_row", "_law_some", "_law_at", "_law_strange"] ["_law_row"] (defScope s_w_no_rows) := ⟨rfl, rfl, rfl, by decide +kernel, rfl, by decide +kernel, by decide +kernel⟩
abbrev s_w_odd : Stmt := top 24
def g_w_odd (r : List Tr → Rs Tr) : Rho → Rs Out := fun ρ => seqO (ifO (andB ((callR isiT (consR (getS ρ 0) (consR (Rs.ok (.ty "tuple")) (.ok [])))).bind truT) (andB (asB (op2 neC (getS ρ 0) (tupR (.ok [])))) (asB (op2 gtC (callR m_w_mix (consR (getS ρ 1) (consR (Rs.ok (.int 9781)) (consR (Rs.ok (.int 5)) (.ok []))))) (Rs.ok (.int 0)))))) (seqO (setO 2 (callR m_w_mix (consR (getS ρ 1) (consR (Rs.ok (.int 9769)) (consR (callR lenT (consR (getS ρ 0) (.ok []))) (.ok []))))) ρ) fun ρ => retO (op2 addT (op2 addT (slR (getS ρ 0) (.ok none) (asI (getS ρ 2))) (tupR (consR (callR r (consR (op2 ixT (getS ρ 0) (getS ρ 2)) (consR (op2 addT (op2 addT (getS ρ 1) (op2 mulT (Rs.ok (.int 31)) (getS ρ 2))) (Rs.ok (.int 7))) (.ok [])))) (.ok [])))) (slR (getS ρ 0) (asI (op2 addT (getS ρ 2) (Rs.ok (.int 1)))) (.ok none)))) (.ok (.nx ρ))) fun ρ => seqO (setO 3 (lstR (consR (Rs.ok .non) (consR (Rs.ok (.bl true)) (consR (Rs.ok (.bl false)) (consR (Rs.ok (.int 0)) (consR (Rs.ok (.int 1)) (consR ((Rs.ok (.int 1)).bind negT) (consR (Rs.ok (.int 2)) (consR (Rs.ok (.int 7)) (consR (Rs.ok (.int 10)) (consR (Rs.ok (.int 1000)) (consR (Rs.ok (.str "")) (consR (Rs.ok (.str "a")) (consR (Rs.ok (.str "A")) (consR (tupR (.ok [])) (consR (tupR (consR (Rs.ok (.str "a")) (.ok []))) (consR (lstR (consR (Rs.ok (.int 1)) (.ok []))) (.ok [])))))))))))))))))) ρ) fun ρ => seqO (ifO ((callR isiT (consR (getS ρ 0) (consR (Rs.ok (.ty "tuple")) (.ok [])))).bind truT) (setO 3 (op2 addT (getS ρ 3) (op2 mulT (lstR (consR (callR listT (consR (getS ρ 0) (.ok []))) (consR (op2 addT (getS ρ 0) (slR (getS ρ 0) (asI ((Rs.ok (.int 1)).bind negT)) (.ok none))) (consR (slR (getS ρ 0) (.ok none) (asI ((Rs.ok (.int 1)).bind negT))) (consR (op2 revC (getS ρ 0) ((Rs.ok (.int 1)).bind negT)) (consR (slR (getS ρ 0) (asI (Rs.ok (.int 1))) (.ok none)) (consR (tupR (consR (getS ρ 0) (.ok []))) (.ok [])))))))) (Rs.ok (.int 2)))) ρ) (ifO ((callR isiT (consR (getS ρ 0) (consR (Rs.ok (.ty "str")) (.ok [])))).bind truT) (setO 3 (op2 addT (getS ρ 3) (op2 mulT (lstR (consR (op2 addT (getS ρ 0) (Rs.ok (.str "a"))) (consR (slR (getS ρ 0) (.ok none) (asI ((Rs.ok (.int 1)).bind negT))) (consR (mS upperM (getS ρ 0) (.ok [])) (consR (op2 addT (getS ρ 0) (Rs.ok (.str " "))) (consR (op2 mulT (getS ρ 0) (Rs.ok (.int 2))) (consR (lstR (consR (getS ρ 0) (.ok []))) (consR (op2 addT (getS ρ 0) (slR (getS ρ 0) (.ok none) (asI (Rs.ok (.int 1))))) (.ok []))))))))) (Rs.ok (.int 2)))) ρ) (ifO ((callR isiT (consR (getS ρ 0) (consR (Rs.ok (.ty "int")) (.ok [])))).bind truT) (setO 3 (op2 addT (getS ρ 3) (op2 mulT (lstR (consR (op2 addT (getS ρ 0) (Rs.ok (.int 1))) (consR (op2 subT (getS ρ 0) (Rs.ok (.int 1))) (consR (op2 subT (Rs.ok (.int 0)) (getS ρ 0)) (consR (tupR (consR (getS ρ 0) (.ok []))) (consR (op2 addT (getS ρ 0) (Rs.ok (.int 2))) (consR (op2 mulT (getS ρ 0) (Rs.ok (.int 2))) (.ok [])))))))) (Rs.ok (.int 2)))) ρ) (.ok (.nx ρ))))) fun ρ => retO (op2 ixT (getS ρ 3) (callR m_w_mix (consR (getS ρ 1) (consR (Rs.ok (.int 9749)) (consR (callR lenT (consR (getS ρ 3) (.ok []))) (.ok []))))))
def m_w_odd : Nat → List Tr → Rs Tr
  | 0 => fun _ => .bad
  | n + 1 => mir 2 4 (g_w_odd (m_w_odd n))
theorem sc_w_odd : FnScope ["_law_thing", "_law_cell_here", "_law_at", "_law_some"] ["_law_thing", "_law_cell_here"] (defScope s_w_odd) := ⟨rfl, rfl, rfl, by decide +kernel, rfl, by decide +kernel, by decide +kernel⟩
abbrev s_w_is_name : Stmt := top 25
def g_w_is_name : Rho → Rs Out := fun ρ => retO (andV (callR isiT (consR (getS ρ 0) (consR (Rs.ok (.ty "str")) (.ok [])))) (andV (chnR ltC ltC (Rs.ok (.int 0)) (callR lenT (consR (getS ρ 0) (.ok []))) (Rs.ok (.int 7))) (op2 eqC (lcR [none] (gN 0) (fun ρ => (notB (asB (chnR leC leC (Rs.ok (.str "a")) (getS ρ 0) (Rs.ok (.str "z")))))) (fun ρ => (getS ρ 0)) (seqW (getS ρ 0)) ρ) (lstR (.ok [])))))
def m_w_is_name : List Tr → Rs Tr := mir 1 1 g_w_is_name
theorem sc_w_is_name : FnScope ["_law_thing"] ["_law_thing"] (defScope s_w_is_name) := ⟨rfl, rfl, rfl, by decide +kernel, rfl, by decide +kernel, by decide +kernel⟩
abbrev s_w_is_words : Stmt := top 26
def g_w_is_words : Rho → Rs Out := fun ρ => retO (andV (callR isiT (consR (getS ρ 0) (consR (Rs.ok (.ty "str")) (.ok [])))) (chnR ltC ltC (Rs.ok (.int 0)) (callR lenT (consR (getS ρ 0) (.ok []))) (Rs.ok (.int 61))))
def m_w_is_words : List Tr → Rs Tr := mir 1 1 g_w_is_words
theorem sc_w_is_words : FnScope ["_law_thing"] ["_law_thing"] (defScope s_w_is_words) := ⟨rfl, rfl, rfl, by decide +kernel, rfl, by decide +kernel, by decide +kernel⟩
abbrev s_w_is_number : Stmt := top 27
def g_w_is_number : Rho → Rs Out := fun ρ => retO (andV (callR isiT (consR (getS ρ 0) (consR (Rs.ok (.ty "int")) (.ok [])))) (andV (blR (notB ((callR isiT (consR (getS ρ 0) (consR (Rs.ok (.ty "bool")) (.ok [])))).bind truT))) (op2 gtC (getS ρ 0) (Rs.ok (.int 0)))))
def m_w_is_number : List Tr → Rs Tr := mir 1 1 g_w_is_number
theorem sc_w_is_number : FnScope ["_law_thing"] ["_law_thing"] (defScope s_w_is_number) := ⟨rfl, rfl, rfl, by decide +kernel, rfl, by decide +kernel, by decide +kernel⟩
abbrev s_w_is_row : Stmt := top 28
def g_w_is_row : Rho → Rs Out := fun ρ => seqO (ifO (orB (notB ((callR isiT (consR (getS ρ 0) (consR (Rs.ok (.ty "tuple")) (.ok [])))).bind truT)) (orB (asB (op2 ltC (callR lenT (consR (getS ρ 0) (.ok []))) (Rs.ok (.int 3)))) (orB (notB ((callR m_w_is_number (consR (op2 ixT (getS ρ 0) (Rs.ok (.int 0))) (.ok []))).bind truT)) (notB ((callR m_w_is_name (consR (op2 ixT (getS ρ 0) (Rs.ok (.int 1))) (.ok []))).bind truT))))) (retO (Rs.ok (.bl false))) (.ok (.nx ρ))) fun ρ => seqO (parO 1 2 (consR (op2 ixT (getS ρ 0) (Rs.ok (.int 2))) (consR (slR (getS ρ 0) (asI (Rs.ok (.int 3))) (.ok none)) (.ok []))) ρ) fun ρ => seqO (ifO (notB ((callR isiT (consR (getS ρ 1) (consR (Rs.ok (.ty "str")) (.ok [])))).bind truT)) (retO (Rs.ok (.bl false))) (.ok (.nx ρ))) fun ρ => seqO (ifO (asB (op2 inC (getS ρ 1) (tupR (consR (Rs.ok (.str "found")) (consR (Rs.ok (.str "enter")) (consR (Rs.ok (.str "leave")) (.ok []))))))) (retO (op2 eqC (getS ρ 2) (tupR (.ok [])))) (.ok (.nx ρ))) fun ρ => seqO (ifO (asB (op2 inC (getS ρ 1) (tupR (consR (Rs.ok (.str "ask")) (consR (Rs.ok (.str "unbar")) (consR (Rs.ok (.str "out")) (consR (Rs.ok (.str "bar")) (.ok [])))))))) (retO (andV (op2 eqC (callR lenT (consR (getS ρ 2) (.ok []))) (Rs.ok (.int 1))) (callR m_w_is_name (consR (op2 ixT (getS ρ 2) (Rs.ok (.int 0))) (.ok []))))) (.ok (.nx ρ))) fun ρ => seqO (ifO (asB (op2 eqC (getS ρ 1) (Rs.ok (.str "gone")))) (retO (andV (op2 eqC (callR lenT (consR (getS ρ 2) (.ok []))) (Rs.ok (.int 1))) (callR m_w_is_number (consR (op2 ixT (getS ρ 2) (Rs.ok (.int 0))) (.ok []))))) (.ok (.nx ρ))) fun ρ => seqO (ifO (asB (op2 neC (callR lenT (consR (getS ρ 2) (.ok []))) (Rs.ok (.int 2)))) (retO (Rs.ok (.bl false))) (.ok (.nx ρ))) fun ρ => seqO (ifO (asB (op2 eqC (getS ρ 1) (Rs.ok (.str "set")))) (seqO (setO 3 (dicR (pairR (Rs.ok (.str "door")) (tupR (consR (Rs.ok (.str "open")) (consR (Rs.ok (.str "asked")) (.ok [])))) (pairR (Rs.ok (.str "voice")) (tupR (consR (Rs.ok (.str "all")) (consR (Rs.ok (.str "some")) (.ok [])))) (pairR (Rs.ok (.str "past")) (tupR (consR (Rs.ok (.str "shown")) (consR (Rs.ok (.str "hidden")) (.ok [])))) (Rs.ok []))))) ρ) fun ρ => retO (andV (callR isiT (consR (op2 ixT (getS ρ 2) (Rs.ok (.int 0))) (consR (Rs.ok (.ty "str")) (.ok [])))) (andV (callR isiT (consR (op2 ixT (getS ρ 2) (Rs.ok (.int 1))) (consR (Rs.ok (.ty "str")) (.ok [])))) (op2 inC (op2 ixT (getS ρ 2) (Rs.ok (.int 1))) (getR2 (getS ρ 3) (op2 ixT (getS ρ 2) (Rs.ok (.int 0))) (tupR (.ok []))))))) (.ok (.nx ρ))) fun ρ => seqO (ifO (asB (op2 eqC (getS ρ 1) (Rs.ok (.str "role")))) (retO (andV (callR m_w_is_name (consR (op2 ixT (getS ρ 2) (Rs.ok (.int 0))) (.ok []))) (andV (callR isiT (consR (op2 ixT (getS ρ 2) (Rs.ok (.int 1))) (consR (Rs.ok (.ty "str")) (.ok [])))) (op2 inC (op2 ixT (getS ρ 2) (Rs.ok (.int 1))) (tupR (consR (Rs.ok (.str "guest")) (consR (Rs.ok (.str "speaker")) (consR (Rs.ok (.str "keeper")) (consR (Rs.ok (.str "owner")) (.ok [])))))))))) (.ok (.nx ρ))) fun ρ => seqO (ifO (asB (op2 eqC (getS ρ 1) (Rs.ok (.str "say")))) (retO (andV (callR m_w_is_words (consR (op2 ixT (getS ρ 2) (Rs.ok (.int 0))) (.ok []))) (orV (op2 isC (op2 ixT (getS ρ 2) (Rs.ok (.int 1))) (Rs.ok .non)) (callR m_w_is_number (consR (op2 ixT (getS ρ 2) (Rs.ok (.int 1))) (.ok [])))))) (.ok (.nx ρ))) fun ρ => retO (andV (op2 eqC (getS ρ 1) (Rs.ok (.str "mend"))) (andV (callR m_w_is_number (consR (op2 ixT (getS ρ 2) (Rs.ok (.int 0))) (.ok []))) (callR m_w_is_words (consR (op2 ixT (getS ρ 2) (Rs.ok (.int 1))) (.ok [])))))
def m_w_is_row : List Tr → Rs Tr := mir 1 4 g_w_is_row
theorem sc_w_is_row : FnScope ["_law_thing", "_law_word", "_law_rest", "_law_values"] ["_law_thing"] (defScope s_w_is_row) := ⟨rfl, rfl, rfl, by decide +kernel, rfl, by decide +kernel, by decide +kernel⟩
abbrev s_law : Stmt := top 29
def g_law : Rho → Rs Out := fun ρ => seqO (loopO (gN 1) (fun ρ => seqO (setO 2 (callR m_w_any_row (consR (op2 addT (callR m_w_cell (consR (getS ρ 0) (consR (op2 modT (getS ρ 1) (Rs.ok (.int 8))) (.ok [])))) (op2 mulT (Rs.ok (.int 31)) (getS ρ 1))) (.ok []))) ρ) fun ρ => seqO (ifO (asB (op2 isnC (callR m_is_row (consR (getS ρ 2) (.ok []))) (Rs.ok (.bl true)))) (retO (Rs.ok (.bl false))) (.ok (.nx ρ))) fun ρ => seqO (loopO (gN 3) (fun ρ => seqO (setO 4 (callR (m_w_odd 3) (consR (getS ρ 2) (consR (op2 addT (op2 addT (callR m_w_cell (consR (getS ρ 0) (consR (Rs.ok (.int 8)) (.ok [])))) (op2 mulT (Rs.ok (.int 17)) (getS ρ 3))) (op2 mulT (Rs.ok (.int 3)) (getS ρ 1))) (.ok [])))) ρ) fun ρ => seqO (parO 5 6 (consR (callR m_is_row (consR (getS ρ 4) (.ok []))) (consR (callR m_w_is_row (consR (getS ρ 4) (.ok []))) (.ok []))) ρ) fun ρ => ifO (orB (andB (asB (op2 isnC (getS ρ 5) (Rs.ok (.bl true)))) ((getS ρ 6).bind truT)) (andB (asB (op2 isnC (getS ρ 5) (Rs.ok (.bl false)))) (notB ((getS ρ 6).bind truT)))) (retO (Rs.ok (.bl false))) (.ok (.nx ρ))) (rng1W (consR (Rs.ok (.int 20)) (.ok []))) ρ) fun ρ => loopO (gN 7) (fun ρ => ifO (asB (op2 isnC (callR m_is_row (consR (getS ρ 7) (.ok []))) (Rs.ok (.bl false)))) (retO (Rs.ok (.bl false))) (.ok (.nx ρ))) (seqW (callR m_w_no_rows (consR (getS ρ 2) (.ok [])))) ρ) (rng1W (consR (Rs.ok (.int 12)) (.ok []))) ρ) fun ρ => retO (andV (op2 isC (callR m_is_row (consR (tupR (consR (Rs.ok (.int 1)) (consR (Rs.ok (.str "ann")) (consR (Rs.ok (.str "say")) (consR (Rs.ok (.str "hi")) (consR (Rs.ok .non) (.ok []))))))) (.ok []))) (Rs.ok (.bl true))) (op2 isC (callR m_is_row (consR (tupR (consR (Rs.ok (.int 1)) (consR (Rs.ok (.str "ann")) (consR (Rs.ok (.str "set")) (consR (Rs.ok (.str "door")) (consR (Rs.ok (.str "all")) (.ok []))))))) (.ok []))) (Rs.ok (.bl false))))
def m_law : List Tr → Rs Tr := mir 1 8 g_law
theorem sc_law : FnScope ["_law_script", "_law_k", "_law_row", "_law_j", "_law_odd_here", "_law_told", "_law_due", "_law_bad"] ["_law_script"] (defScope s_law) := ⟨rfl, rfl, rfl, by decide +kernel, rfl, by decide +kernel, by decide +kernel⟩
structure Gl0 (K : PySem.W.Frag) (w : World) (mg : Str → Option Value) : Prop where
  all : mg "all" = none
  bool : mg "bool" = none
  int : mg "int" = none
  isinstance : mg "isinstance" = none
  len : mg "len" = none
  list : mg "list" = none
  range : mg "range" = none
  str : mg "str" = none
  tuple : mg "tuple" = none
  BARE_WORDS : GlobT K mg "BARE_WORDS" (.tup [.str "found", .str "enter", .str "leave"])
  MOST_LETTERS : GlobT K mg "MOST_LETTERS" (.int 6)
  MOST_SIGNS : GlobT K mg "MOST_SIGNS" (.int 60)
  ROLES : GlobT K mg "ROLES" (.tup [.str "guest", .str "speaker", .str "keeper", .str "owner"])
  WHOM_WORDS : GlobT K mg "WHOM_WORDS" (.tup [.str "ask", .str "unbar", .str "out", .str "bar"])
  SETTINGS : GDictT K w mg "SETTINGS" [("door", .tup [.str "open", .str "asked"]), ("voice", .tup [.str "all", .str "some"]), ("past", .tup [.str "shown", .str "hidden"])]
structure Ds (K : PySem.W.Frag) (mg : Str → Option Value) (fa : Str → Addr) (ft : Str → FuncData) : Prop where
  is_letter : DefAt K mg "is_letter" s_is_letter ["sign"] (fa "is_letter") (ft "is_letter")
  is_name : DefAt K mg "is_name" s_is_name ["thing"] (fa "is_name") (ft "is_name")
  is_words : DefAt K mg "is_words" s_is_words ["thing"] (fa "is_words") (ft "is_words")
  is_whole : DefAt K mg "is_whole" s_is_whole ["thing"] (fa "is_whole") (ft "is_whole")
  is_number : DefAt K mg "is_number" s_is_number ["thing"] (fa "is_number") (ft "is_number")
  is_answer : DefAt K mg "is_answer" s_is_answer ["thing"] (fa "is_answer") (ft "is_answer")
  is_setting : DefAt K mg "is_setting" s_is_setting ["what", "value"] (fa "is_setting") (ft "is_setting")
  are_two_parts : DefAt K mg "are_two_parts" s_are_two_parts ["word", "first", "second"] (fa "are_two_parts") (ft "are_two_parts")
  are_parts : DefAt K mg "are_parts" s_are_parts ["word", "parts"] (fa "are_parts") (ft "are_parts")
  is_row : DefAt K mg "is_row" s_is_row ["thing"] (fa "is_row") (ft "is_row")
  w_cell : DefAt K mg "_law_cell" s_w_cell ["_law_script", "_law_k"] (fa "_law_cell") (ft "_law_cell")
  w_mix : DefAt K mg "_law_mix" s_w_mix ["_law_cell_here", "_law_prime", "_law_many"] (fa "_law_mix") (ft "_law_mix")
  w_words : DefAt K mg "_law_words" s_w_words ["_law_cell_here"] (fa "_law_words") (ft "_law_words")
  w_any_row : DefAt K mg "_law_any_row" s_w_any_row ["_law_cell_here"] (fa "_law_any_row") (ft "_law_any_row")
  w_no_rows : DefAt K mg "_law_no_rows" s_w_no_rows ["_law_row"] (fa "_law_no_rows") (ft "_law_no_rows")
  w_odd : DefAt K mg "_law_odd" s_w_odd ["_law_thing", "_law_cell_here"] (fa "_law_odd") (ft "_law_odd")
  w_is_name : DefAt K mg "_law_is_name" s_w_is_name ["_law_thing"] (fa "_law_is_name") (ft "_law_is_name")
  w_is_words : DefAt K mg "_law_is_words" s_w_is_words ["_law_thing"] (fa "_law_is_words") (ft "_law_is_words")
  w_is_number : DefAt K mg "_law_is_number" s_w_is_number ["_law_thing"] (fa "_law_is_number") (ft "_law_is_number")
  w_is_row : DefAt K mg "_law_is_row" s_w_is_row ["_law_thing"] (fa "_law_is_row") (ft "_law_is_row")
  law : DefAt K mg "law" s_law ["_law_script"] (fa "law") (ft "law")
section
variable {P : Program} {w : World} {K : PySem.W.Frag} {mg : Str → Option Value} {base : Heap} {fa : Str → Addr} {ft : Str → FuncData}
theorem ok_is_letter (T : Gl0 K w mg) (D : Ds K mg fa ft) : FnOk P w K mg base CX0 1 (fa "is_letter") (ft "is_letter") ["sign"] (spT K m_is_letter) := by
  refine Fun.okQ D.is_letter.fn sc_is_letter (fun ts t e => mir_len e) fun cdv A outer s H E hr =>
    ⟨_, (S_one (S_ret (T_chain o_le o_le T_str (T_var 0) T_str))), ?_⟩
  exact fun ts t e => mir_ok (G := g_is_letter) e
theorem ok_is_name (T : Gl0 K w mg) (D : Ds K mg fa ft) : FnOk P w K mg base CX0 2 (fa "is_name") (ft "is_name") ["thing"] (spT K m_is_name) := by
  have G_is_letter : FnOk P w K mg base CX0 1 (fa "is_letter") (ft "is_letter") ["sign"] (spT K m_is_letter) := (ok_is_letter T D).mono (by decide)
  refine Fun.okQ D.is_name.fn sc_is_name (fun ts t e => mir_len e) fun cdv A outer s H E hr =>
    ⟨_, (S_cons (S_if (Q_not (Q_val (T_callB c_isi T.isinstance (L_cons (T_var 0) (L_cons (T_ty T.str) L_nil))))) (S_one (S_ret T_bl)) S_nil) (S_one (S_ret (T_and (T_chain o_le o_le T_int (T_callB c_len T.len (L_cons (T_var 0) L_nil)) (T_glob T.MOST_LETTERS)) (T_one (T_callB (c_all rfl) T.all (L_cons (T_lc (N' := ["sign"]) (ix := [none]) (LcOk.of (N := ["thing"]) (sc := defScope s_is_name) rfl rfl (by decide +kernel)) (I_seq (T_var 0)) ⟨fun s H ex => ⟨(G_name 0 (by show List.Nodup (["sign"] : List Str); decide +kernel)), F_nil, (T_def D.is_letter G_is_letter hr (L_cons (T_var 0) L_nil))⟩⟩ (tgOk_n 0)) L_nil))))))), ?_⟩
  exact fun ts t e => mir_ok (G := g_is_name) e
theorem ok_is_words (T : Gl0 K w mg) (D : Ds K mg fa ft) : FnOk P w K mg base CX0 1 (fa "is_words") (ft "is_words") ["thing"] (spT K m_is_words) := by
  refine Fun.okQ D.is_words.fn sc_is_words (fun ts t e => mir_len e) fun cdv A outer s H E hr =>
    ⟨_, (S_one (S_ret (T_and (T_callB c_isi T.isinstance (L_cons (T_var 0) (L_cons (T_ty T.str) L_nil))) (T_one (T_chain o_le o_le T_int (T_callB c_len T.len (L_cons (T_var 0) L_nil)) (T_glob T.MOST_SIGNS)))))), ?_⟩
  exact fun ts t e => mir_ok (G := g_is_words) e
theorem ok_is_whole (T : Gl0 K w mg) (D : Ds K mg fa ft) : FnOk P w K mg base CX0 1 (fa "is_whole") (ft "is_whole") ["thing"] (spT K m_is_whole) := by
  refine Fun.okQ D.is_whole.fn sc_is_whole (fun ts t e => mir_len e) fun cdv A outer s H E hr =>
    ⟨_, (S_one (S_ret (T_and (T_callB c_isi T.isinstance (L_cons (T_var 0) (L_cons (T_ty T.int) L_nil))) (T_one (T_not (T_callB c_isi T.isinstance (L_cons (T_var 0) (L_cons (T_ty T.bool) L_nil)))))))), ?_⟩
  exact fun ts t e => mir_ok (G := g_is_whole) e
theorem ok_is_number (T : Gl0 K w mg) (D : Ds K mg fa ft) : FnOk P w K mg base CX0 2 (fa "is_number") (ft "is_number") ["thing"] (spT K m_is_number) := by
  have G_is_whole : FnOk P w K mg base CX0 1 (fa "is_whole") (ft "is_whole") ["thing"] (spT K m_is_whole) := (ok_is_whole T D).mono (by decide)
  refine Fun.okQ D.is_number.fn sc_is_number (fun ts t e => mir_len e) fun cdv A outer s H E hr =>
    ⟨_, (S_one (S_ret (T_and (T_def D.is_whole G_is_whole hr (L_cons (T_var 0) L_nil)) (T_one (T_cmp o_ge (T_var 0) T_int))))), ?_⟩
  exact fun ts t e => mir_ok (G := g_is_number) e
theorem ok_is_answer (T : Gl0 K w mg) (D : Ds K mg fa ft) : FnOk P w K mg base CX0 3 (fa "is_answer") (ft "is_answer") ["thing"] (spT K m_is_answer) := by
  have G_is_number : FnOk P w K mg base CX0 2 (fa "is_number") (ft "is_number") ["thing"] (spT K m_is_number) := (ok_is_number T D).mono (by decide)
  refine Fun.okQ D.is_answer.fn sc_is_answer (fun ts t e => mir_len e) fun cdv A outer s H E hr =>
    ⟨_, (S_one (S_ret (T_or (T_cmp o_is (T_var 0) T_non) (T_one (T_def D.is_number G_is_number hr (L_cons (T_var 0) L_nil)))))), ?_⟩
  exact fun ts t e => mir_ok (G := g_is_answer) e
theorem ok_is_setting (T : Gl0 K w mg) (D : Ds K mg fa ft) : FnOk P w K mg base CX0 1 (fa "is_setting") (ft "is_setting") ["what", "value"] (spT K m_is_setting) := by
  refine Fun.okQ D.is_setting.fn sc_is_setting (fun ts t e => mir_len e) fun cdv A outer s H E hr =>
    ⟨_, (S_one (S_ret (T_and (T_callB c_isi T.isinstance (L_cons (T_var 0) (L_cons (T_ty T.str) L_nil))) (T_and (T_inG T.SETTINGS (T_var 0)) (T_one (T_cmp (o_in (hu_of hr)) (T_var 1) (T_ixG T.SETTINGS (T_var 0)))))))), ?_⟩
  exact fun ts t e => mir_ok (G := g_is_setting) e
theorem ok_are_two_parts (T : Gl0 K w mg) (D : Ds K mg fa ft) : FnOk P w K mg base CX0 4 (fa "are_two_parts") (ft "are_two_parts") ["word", "first", "second"] (spT K m_are_two_parts) := by
  have G_is_setting : FnOk P w K mg base CX0 3 (fa "is_setting") (ft "is_setting") ["what", "value"] (spT K m_is_setting) := (ok_is_setting T D).mono (by decide)
  have G_is_name : FnOk P w K mg base CX0 3 (fa "is_name") (ft "is_name") ["thing"] (spT K m_is_name) := (ok_is_name T D).mono (by decide)
  have G_is_words : FnOk P w K mg base CX0 3 (fa "is_words") (ft "is_words") ["thing"] (spT K m_is_words) := (ok_is_words T D).mono (by decide)
  have G_is_answer : FnOk P w K mg base CX0 3 (fa "is_answer") (ft "is_answer") ["thing"] (spT K m_is_answer) := (ok_is_answer T D).mono (by decide)
  have G_is_number : FnOk P w K mg base CX0 3 (fa "is_number") (ft "is_number") ["thing"] (spT K m_is_number) := (ok_is_number T D).mono (by decide)
  refine Fun.okQ D.are_two_parts.fn sc_are_two_parts (fun ts t e => mir_len e) fun cdv A outer s H E hr =>
    ⟨_, (S_cons (S_if (Q_cmp (o_eq (hu40 hr)) (T_var 0) T_str) (S_one (S_ret (T_def D.is_setting G_is_setting hr (L_cons (T_var 1) (L_cons (T_var 2) L_nil))))) S_nil) (S_cons (S_if (Q_cmp (o_eq (hu40 hr)) (T_var 0) T_str) (S_one (S_ret (T_and (T_def D.is_name G_is_name hr (L_cons (T_var 1) L_nil)) (T_one (T_cmp (o_in (hu_of hr)) (T_var 2) (T_glob T.ROLES)))))) S_nil) (S_cons (S_if (Q_cmp (o_eq (hu40 hr)) (T_var 0) T_str) (S_one (S_ret (T_and (T_def D.is_words G_is_words hr (L_cons (T_var 1) L_nil)) (T_one (T_def D.is_answer G_is_answer hr (L_cons (T_var 2) L_nil)))))) S_nil) (S_cons (S_if (Q_cmp (o_eq (hu40 hr)) (T_var 0) T_str) (S_one (S_ret (T_and (T_def D.is_number G_is_number hr (L_cons (T_var 1) L_nil)) (T_one (T_def D.is_words G_is_words hr (L_cons (T_var 2) L_nil)))))) S_nil) (S_one (S_ret T_bl)))))), ?_⟩
  exact fun ts t e => mir_ok (G := g_are_two_parts) e
theorem ok_are_parts (T : Gl0 K w mg) (D : Ds K mg fa ft) : FnOk P w K mg base CX0 5 (fa "are_parts") (ft "are_parts") ["word", "parts"] (spT K m_are_parts) := by
  have G_are_two_parts : FnOk P w K mg base CX0 4 (fa "are_two_parts") (ft "are_two_parts") ["word", "first", "second"] (spT K m_are_two_parts) := (ok_are_two_parts T D).mono (by decide)
  have G_is_name : FnOk P w K mg base CX0 4 (fa "is_name") (ft "is_name") ["thing"] (spT K m_is_name) := (ok_is_name T D).mono (by decide)
  have G_is_number : FnOk P w K mg base CX0 4 (fa "is_number") (ft "is_number") ["thing"] (spT K m_is_number) := (ok_is_number T D).mono (by decide)
  refine Fun.okQ D.are_parts.fn sc_are_parts (fun ts t e => mir_len e) fun cdv A outer s H E hr =>
    ⟨_, (S_cons (S_if (Q_cmp (o_in (hu_of hr)) (T_var 0) (T_glob T.BARE_WORDS)) (S_one (S_ret (T_cmp (o_eq (hu40 hr)) (T_callB c_len T.len (L_cons (T_var 1) L_nil)) T_int))) S_nil) (S_cons (S_if (Q_cmp (o_in (hu_of hr)) (T_var 0) (T_glob T.WHOM_WORDS)) (S_one (S_ret (T_and (T_cmp (o_eq (hu40 hr)) (T_callB c_len T.len (L_cons (T_var 1) L_nil)) T_int) (T_one (T_def D.is_name G_is_name hr (L_cons (T_ix (hu_of hr) (T_var 1) T_int) L_nil)))))) S_nil) (S_cons (S_if (Q_cmp (o_eq (hu40 hr)) (T_var 0) T_str) (S_one (S_ret (T_and (T_cmp (o_eq (hu40 hr)) (T_callB c_len T.len (L_cons (T_var 1) L_nil)) T_int) (T_one (T_def D.is_number G_is_number hr (L_cons (T_ix (hu_of hr) (T_var 1) T_int) L_nil)))))) S_nil) (S_one (S_ret (T_and (T_cmp (o_eq (hu40 hr)) (T_callB c_len T.len (L_cons (T_var 1) L_nil)) T_int) (T_one (T_def D.are_two_parts G_are_two_parts hr (L_cons (T_var 0) (L_cons (T_ix (hu_of hr) (T_var 1) T_int) (L_cons (T_ix (hu_of hr) (T_var 1) T_int) L_nil))))))))))), ?_⟩
  exact fun ts t e => mir_ok (G := g_are_parts) e
theorem ok_is_row (T : Gl0 K w mg) (D : Ds K mg fa ft) : FnOk P w K mg base CX0 6 (fa "is_row") (ft "is_row") ["thing"] (spT K m_is_row) := by
  have G_is_number : FnOk P w K mg base CX0 5 (fa "is_number") (ft "is_number") ["thing"] (spT K m_is_number) := (ok_is_number T D).mono (by decide)
  have G_is_name : FnOk P w K mg base CX0 5 (fa "is_name") (ft "is_name") ["thing"] (spT K m_is_name) := (ok_is_name T D).mono (by decide)
  have G_are_parts : FnOk P w K mg base CX0 5 (fa "are_parts") (ft "are_parts") ["word", "parts"] (spT K m_are_parts) := (ok_are_parts T D).mono (by decide)
  refine Fun.okQ D.is_row.fn sc_is_row (fun ts t e => mir_len e) fun cdv A outer s H E hr =>
    ⟨_, (S_cons (S_if (Q_bool (W_or (Q_not (Q_val (T_callB c_isi T.isinstance (L_cons (T_var 0) (L_cons (T_ty T.tuple) L_nil))))) (W_or1 (Q_cmp o_lt (T_callB c_len T.len (L_cons (T_var 0) L_nil)) T_int)))) (S_one (S_ret T_bl)) S_nil) (S_one (S_ret (T_and (T_def D.is_number G_is_number hr (L_cons (T_ix (hu_of hr) (T_var 0) T_int) L_nil)) (T_and (T_def D.is_name G_is_name hr (L_cons (T_ix (hu_of hr) (T_var 0) T_int) L_nil)) (T_one (T_def D.are_parts G_are_parts hr (L_cons (T_ix (hu_of hr) (T_var 0) T_int) (L_cons (T_sl (T_var 0) (P_some T_int) P_none) L_nil))))))))), ?_⟩
  exact fun ts t e => mir_ok (G := g_is_row) e
theorem ok_w_cell (T : Gl0 K w mg) (D : Ds K mg fa ft) : FnOk P w K mg base CX0 1 (fa "_law_cell") (ft "_law_cell") ["_law_script", "_law_k"] (spT K m_w_cell) := by
  refine Fun.okQ D.w_cell.fn sc_w_cell (fun ts t e => mir_len e) fun cdv A outer s H E hr =>
    ⟨_, (S_cons (S_if (Q_cmp o_lt (T_var 1) (T_callB c_len T.len (L_cons (T_var 0) L_nil))) (S_one (S_ret (T_ix (hu_of hr) (T_var 0) (T_var 1)))) S_nil) (S_one (S_ret T_int))), ?_⟩
  exact fun ts t e => mir_ok (G := g_w_cell) e
theorem ok_w_mix (T : Gl0 K w mg) (D : Ds K mg fa ft) : FnOk P w K mg base CX0 1 (fa "_law_mix") (ft "_law_mix") ["_law_cell_here", "_law_prime", "_law_many"] (spT K m_w_mix) := by
  refine Fun.okQ D.w_mix.fn sc_w_mix (fun ts t e => mir_len e) fun cdv A outer s H E hr =>
    ⟨_, (S_cons (S_set (i := 3) (T_bin o_mod (T_bin o_mul (T_var 0) T_int) (T_var 1)) sc_w_mix.nd) (S_one (S_ret (T_bin o_mod (T_bin o_mod (T_bin o_mul (T_var 3) (T_bin o_add (T_var 3) T_int)) (T_var 1)) (T_var 2))))), ?_⟩
  exact fun ts t e => mir_ok (G := g_w_mix) e
theorem ok_w_words (T : Gl0 K w mg) (D : Ds K mg fa ft) : FnOk P w K mg base CX0 2 (fa "_law_words") (ft "_law_words") ["_law_cell_here"] (spT K m_w_words) := by
  have G_w_mix : FnOk P w K mg base CX0 1 (fa "_law_mix") (ft "_law_mix") ["_law_cell_here", "_law_prime", "_law_many"] (spT K m_w_mix) := (ok_w_mix T D).mono (by decide)
  refine Fun.okQ D.w_words.fn sc_w_words (fun ts t e => mir_len e) fun cdv A outer s H E hr =>
    ⟨_, (S_cons (S_set (i := 1) T_str sc_w_words.nd) (S_cons (S_if (Q_cmp (o_eq (hu40 hr)) (T_bin o_mod (T_var 0) T_int) T_int) (S_cons (S_set (i := 2) (T_tup (L_cons T_str (L_cons T_str (L_cons T_str (L_cons T_str (L_cons T_str (L_cons T_str (L_cons T_str (L_cons T_str L_nil))))))))) sc_w_words.nd) (S_cons (S_set (i := 2) (T_bin o_add (T_var 2) (T_tup (L_cons T_str (L_cons T_str (L_cons T_str (L_cons T_str L_nil)))))) sc_w_words.nd) (S_one (S_ret (T_ix (hu_of hr) (T_var 2) (T_def D.w_mix G_w_mix hr (L_cons (T_var 0) (L_cons T_int (L_cons T_int L_nil))))))))) S_nil) (S_cons (S_set (i := 3) (T_bin o_add T_int (T_def D.w_mix G_w_mix hr (L_cons (T_var 0) (L_cons T_int (L_cons T_int L_nil))))) sc_w_words.nd) (S_cons (S_if (Q_cmp (o_eq (hu40 hr)) (T_def D.w_mix G_w_mix hr (L_cons (T_var 0) (L_cons T_int (L_cons T_int L_nil)))) T_int) (S_one (S_set (i := 3) T_int sc_w_words.nd)) S_nil) (S_one (S_ret (T_ms PySem.F.slot_str_join PySem.F.type_str_join m_join T_str (L_cons (T_lc (N' := ["_law_k", "_law_signs", "_law_cell_here"]) (ix := [none, some 1, some 0]) (LcOk.of (N := ["_law_cell_here", "_law_signs", "_law_some", "_law_many"]) (sc := defScope s_w_words) rfl rfl (by decide +kernel)) (I_range1 T.range (L_cons (T_var 3) L_nil)) ⟨fun s H ex => ⟨(G_name 0 (by show List.Nodup (["_law_k", "_law_signs", "_law_cell_here"] : List Str); decide +kernel)), F_nil, (T_ix (hu_of hr) (T_var 1) (T_def D.w_mix G_w_mix hr (L_cons (T_bin o_add (T_var 2) (T_bin o_mul T_int (T_var 0))) (L_cons T_int (L_cons (T_callB c_len T.len (L_cons (T_var 1) L_nil)) L_nil)))))⟩⟩ (tgOk_n 0)) L_nil)))))))), ?_⟩
  exact fun ts t e => mir_ok (G := g_w_words) e
theorem ok_w_any_row (T : Gl0 K w mg) (D : Ds K mg fa ft) : FnOk P w K mg base CX0 3 (fa "_law_any_row") (ft "_law_any_row") ["_law_cell_here"] (spT K m_w_any_row) := by
  have G_w_mix : FnOk P w K mg base CX0 2 (fa "_law_mix") (ft "_law_mix") ["_law_cell_here", "_law_prime", "_law_many"] (spT K m_w_mix) := (ok_w_mix T D).mono (by decide)
  have G_w_words : FnOk P w K mg base CX0 2 (fa "_law_words") (ft "_law_words") ["_law_cell_here"] (spT K m_w_words) := (ok_w_words T D).mono (by decide)
  refine Fun.okQ D.w_any_row.fn sc_w_any_row (fun ts t e => mir_len e) fun cdv A outer s H E hr =>
    ⟨_, (S_cons (S_set (i := 1) (T_tup (L_cons T_str (L_cons T_str (L_cons T_str L_nil)))) sc_w_any_row.nd) (S_cons (S_set (i := 2) (T_ix (hu_of hr) (T_var 1) (T_def D.w_mix G_w_mix hr (L_cons (T_var 0) (L_cons T_int (L_cons T_int L_nil))))) sc_w_any_row.nd) (S_cons (S_set (i := 3) (T_bin o_add T_int (T_def D.w_mix G_w_mix hr (L_cons (T_var 0) (L_cons T_int (L_cons T_int L_nil))))) sc_w_any_row.nd) (S_cons (S_set (i := 4) (T_def D.w_mix G_w_mix hr (L_cons (T_var 0) (L_cons T_int (L_cons T_int L_nil)))) sc_w_any_row.nd) (S_cons (S_set (i := 5) (T_tup (L_cons (T_bin o_add T_int (T_def D.w_mix G_w_mix hr (L_cons (T_var 0) (L_cons T_int (L_cons T_int L_nil))))) (L_cons (T_ix (hu_of hr) (T_var 1) (T_def D.w_mix G_w_mix hr (L_cons (T_var 0) (L_cons T_int (L_cons T_int L_nil))))) L_nil))) sc_w_any_row.nd) (S_cons (S_if (Q_cmp o_lt (T_var 4) T_int) (S_one (S_ret (T_bin o_add (T_var 5) (T_tup (L_cons (T_ix (hu_of hr) (T_tup (L_cons T_str (L_cons T_str (L_cons T_str L_nil)))) (T_var 4)) L_nil))))) S_nil) (S_cons (S_if (Q_cmp (o_eq (hu40 hr)) (T_var 4) T_int) (S_cons (S_set (i := 6) (T_lst (L_cons (T_tup (L_cons T_str (L_cons T_str L_nil))) (L_cons (T_tup (L_cons T_str (L_cons T_str L_nil))) (L_cons (T_tup (L_cons T_str (L_cons T_str L_nil))) L_nil)))) sc_w_any_row.nd) (S_cons (S_set (i := 6) (T_bin o_add (T_var 6) (T_lst (L_cons (T_tup (L_cons T_str (L_cons T_str L_nil))) (L_cons (T_tup (L_cons T_str (L_cons T_str L_nil))) (L_cons (T_tup (L_cons T_str (L_cons T_str L_nil))) L_nil))))) sc_w_any_row.nd) (S_one (S_ret (T_bin o_add (T_bin o_add (T_var 5) (T_tup (L_cons T_str L_nil))) (T_ix (hu_of hr) (T_var 6) (T_def D.w_mix G_w_mix hr (L_cons (T_var 0) (L_cons T_int (L_cons T_int L_nil)))))))))) S_nil) (S_cons (S_if (Q_cmp o_lt (T_var 4) T_int) (S_one (S_ret (T_bin o_add (T_var 5) (T_tup (L_cons (T_ix (hu_of hr) (T_tup (L_cons T_str (L_cons T_str (L_cons T_str (L_cons T_str L_nil))))) (T_bin o_sub (T_var 4) T_int)) (L_cons (T_var 2) L_nil)))))) S_nil) (S_cons (S_if (Q_cmp (o_eq (hu40 hr)) (T_var 4) T_int) (S_one (S_ret (T_bin o_add (T_var 5) (T_tup (L_cons T_str (L_cons (T_var 2) (L_cons (T_ix (hu_of hr) (T_tup (L_cons T_str (L_cons T_str (L_cons T_str (L_cons T_str L_nil))))) (T_def D.w_mix G_w_mix hr (L_cons (T_var 0) (L_cons T_int (L_cons T_int L_nil))))) L_nil))))))) S_nil) (S_cons (S_if (Q_cmp (o_eq (hu40 hr)) (T_var 4) T_int) (S_one (S_ret (T_bin o_add (T_var 5) (T_tup (L_cons T_str (L_cons (T_def D.w_words G_w_words hr (L_cons (T_bin o_add (T_var 0) T_int) L_nil)) (L_cons (T_ix (hu_of hr) (T_tup (L_cons T_non (L_cons (T_var 3) L_nil))) (T_bin o_mod (T_var 0) T_int)) L_nil))))))) S_nil) (S_cons (S_if (Q_cmp (o_eq (hu40 hr)) (T_var 4) T_int) (S_one (S_ret (T_bin o_add (T_var 5) (T_tup (L_cons T_str (L_cons (T_var 3) (L_cons (T_def D.w_words G_w_words hr (L_cons (T_bin o_add (T_var 0) T_int) L_nil)) L_nil))))))) S_nil) (S_one (S_ret (T_bin o_add (T_var 5) (T_tup (L_cons T_str (L_cons (T_var 3) L_nil))))))))))))))))), ?_⟩
  exact fun ts t e => mir_ok (G := g_w_any_row) e
theorem ok_w_no_rows (T : Gl0 K w mg) (D : Ds K mg fa ft) : FnOk P w K mg base CX0 1 (fa "_law_no_rows") (ft "_law_no_rows") ["_law_row"] (spT K m_w_no_rows) := by
  refine Fun.okQ D.w_no_rows.fn sc_w_no_rows (fun ts t e => mir_len e) fun cdv A outer s H E hr =>
    ⟨_, (S_cons (S_set (i := 1) (T_lst (L_cons (T_sl (T_var 0) P_none (P_some T_int)) (L_cons (T_sl (T_var 0) P_none (P_some (T_neg T_int))) (L_cons (T_bin o_add (T_var 0) (T_tup (L_cons T_non L_nil))) (L_cons (T_bin o_add (T_var 0) (T_tup (L_cons T_str L_nil))) (L_cons (T_callTy c_list T.list (L_cons (T_var 0) L_nil)) L_nil)))))) sc_w_no_rows.nd) (S_cons (S_set (i := 1) (T_bin o_add (T_var 1) (T_lst (L_cons T_non (L_cons (T_ix (hu_of hr) (T_var 0) T_int) (L_cons (T_tup (L_cons (T_var 0) L_nil)) (L_cons (T_sl (T_var 0) (P_some T_int) P_none) (L_cons (T_bin o_add (T_tup (L_cons T_int L_nil)) (T_sl (T_var 0) (P_some T_int) P_none)) L_nil))))))) sc_w_no_rows.nd) (S_cons (S_set (i := 1) (T_bin o_add (T_var 1) (T_lst (L_cons (T_bin o_add (T_tup (L_cons T_bl L_nil)) (T_sl (T_var 0) (P_some T_int) P_none)) (L_cons (T_bin o_add (T_tup (L_cons T_str L_nil)) (T_sl (T_var 0) (P_some T_int) P_none)) (L_cons (T_bin o_add (T_tup (L_cons T_non L_nil)) (T_sl (T_var 0) (P_some T_int) P_none)) L_nil))))) sc_w_no_rows.nd) (S_cons (S_set (i := 1) (T_bin o_add (T_var 1) (T_lst (L_cons (T_bin o_add (T_bin o_add (T_sl (T_var 0) P_none (P_some T_int)) (T_tup (L_cons T_str L_nil))) (T_sl (T_var 0) (P_some T_int) P_none)) (L_cons (T_bin o_add (T_bin o_add (T_sl (T_var 0) P_none (P_some T_int)) (T_tup (L_cons T_int L_nil))) (T_sl (T_var 0) (P_some T_int) P_none)) L_nil)))) sc_w_no_rows.nd) (S_cons (S_set (i := 1) (T_bin o_add (T_var 1) (T_lst (L_cons (T_bin o_add (T_bin o_add (T_sl (T_var 0) P_none (P_some T_int)) (T_tup (L_cons T_str L_nil))) (T_sl (T_var 0) (P_some T_int) P_none)) (L_cons (T_bin o_add (T_bin o_add (T_sl (T_var 0) P_none (P_some T_int)) (T_tup (L_cons T_non L_nil))) (T_sl (T_var 0) (P_some T_int) P_none)) L_nil)))) sc_w_no_rows.nd) (S_cons (S_set (i := 1) (T_bin o_add (T_var 1) (T_lst (L_cons (T_bin o_add (T_bin o_add (T_sl (T_var 0) P_none (P_some T_int)) (T_tup (L_cons T_str L_nil))) (T_sl (T_var 0) (P_some T_int) P_none)) L_nil))) sc_w_no_rows.nd) (S_cons (S_for (I_range2 T.range (L_cons T_int (L_cons (T_callB c_len T.len (L_cons (T_var 0) L_nil)) L_nil))) (G_name 2 sc_w_no_rows.nd) (S_cons (S_set (i := 3) (T_lst (L_cons T_str (L_cons (T_tup L_nil) (L_cons (T_lst (L_cons T_str L_nil)) (L_cons T_bl (L_cons (T_neg T_int) (L_cons T_int (L_cons (T_bin o_mul T_str T_int) (L_cons T_str L_nil))))))))) sc_w_no_rows.nd) (S_cons (S_if (Q_bool (W_or (Q_bool (W_and (Q_cmp (o_in (hu_of hr)) (T_ix (hu_of hr) (T_var 0) T_int) (T_tup (L_cons T_str (L_cons T_str L_nil)))) (W_and1 (Q_cmp (o_eq (hu40 hr)) (T_var 2) T_int)))) (W_or1 (Q_bool (W_and (Q_cmp (o_eq (hu40 hr)) (T_ix (hu_of hr) (T_var 0) T_int) T_str) (W_and1 (Q_cmp (o_eq (hu40 hr)) (T_var 2) T_int))))))) (S_one (S_set (i := 3) (T_lst (L_cons T_str (L_cons (T_tup L_nil) (L_cons T_bl (L_cons (T_neg T_int) (L_cons T_int (L_cons T_str (L_cons (T_lst (L_cons T_str L_nil)) L_nil)))))))) sc_w_no_rows.nd)) S_nil) (S_cons (S_if (Q_bool (W_or (Q_bool (W_and (Q_cmp (o_eq (hu40 hr)) (T_ix (hu_of hr) (T_var 0) T_int) T_str) (W_and1 (Q_cmp (o_eq (hu40 hr)) (T_var 2) T_int)))) (W_or1 (Q_bool (W_and (Q_cmp (o_eq (hu40 hr)) (T_ix (hu_of hr) (T_var 0) T_int) T_str) (W_and1 (Q_cmp (o_eq (hu40 hr)) (T_var 2) T_int))))))) (S_one (S_set (i := 3) (T_lst (L_cons T_str (L_cons (T_tup L_nil) (L_cons (T_lst (L_cons T_str L_nil)) (L_cons T_bl (L_cons T_int (L_cons T_non (L_cons (T_bin o_mul T_str T_int) L_nil)))))))) sc_w_no_rows.nd)) S_nil) (S_one (S_set (i := 1) (T_bin o_add (T_var 1) (T_lc (N' := ["_law_thing", "_law_row", "_law_at"]) (ix := [none, some 0, some 2]) (LcOk.of (N := ["_law_row", "_law_some", "_law_at", "_law_strange"]) (sc := defScope s_w_no_rows) rfl rfl (by decide +kernel)) (I_seq (T_var 3)) ⟨fun s H ex => ⟨(G_name 0 (by show List.Nodup (["_law_thing", "_law_row", "_law_at"] : List Str); decide +kernel)), F_nil, (T_bin o_add (T_bin o_add (T_sl (T_var 1) P_none (P_some (T_var 2))) (T_tup (L_cons (T_var 0) L_nil))) (T_sl (T_var 1) (P_some (T_bin o_add (T_var 2) T_int)) P_none))⟩⟩ (tgOk_n 0))) sc_w_no_rows.nd)))))) (S_one (S_ret (T_var 1)))))))))), ?_⟩
  exact fun ts t e => mir_ok (G := g_w_no_rows) e
theorem ok_w_odd (T : Gl0 K w mg) (D : Ds K mg fa ft) : ∀ n : Nat, FnOk P w K mg base CX0 (2 + n) (fa "_law_odd") (ft "_law_odd") ["_law_thing", "_law_cell_here"] (spT K (m_w_odd n))
  | 0 => ⟨fun vs H Q E ⟨_, ts, _, _, t, e, _⟩ => (nomatch e), fun A outer s H args us vs Q E _ _ _ _ ⟨_, ts, _, _, t, e, _⟩ => (nomatch e)⟩
  | n + 1 => by
    have G_w_odd := ok_w_odd T D n
    have G_w_mix : FnOk P w K mg base CX0 (2 + n) (fa "_law_mix") (ft "_law_mix") ["_law_cell_here", "_law_prime", "_law_many"] (spT K m_w_mix) := (ok_w_mix T D).mono (by omega)
    refine Fun.okQ D.w_odd.fn sc_w_odd (fun ts t e => mir_len e) fun cdv A outer s H E hr =>
      ⟨_, (S_cons (S_if (Q_bool (W_and (Q_val (T_callB c_isi T.isinstance (L_cons (T_var 0) (L_cons (T_ty T.tuple) L_nil)))) (W_and (Q_cmp (o_ne (hu40 hr)) (T_var 0) (T_tup L_nil)) (W_and1 (Q_cmp o_gt (T_def D.w_mix G_w_mix hr (L_cons (T_var 1) (L_cons T_int (L_cons T_int L_nil)))) T_int))))) (S_cons (S_set (i := 2) (T_def D.w_mix G_w_mix hr (L_cons (T_var 1) (L_cons T_int (L_cons (T_callB c_len T.len (L_cons (T_var 0) L_nil)) L_nil)))) sc_w_odd.nd) (S_one (S_ret (T_bin o_add (T_bin o_add (T_sl (T_var 0) P_none (P_some (T_var 2))) (T_tup (L_cons (T_def D.w_odd G_w_odd hr (L_cons (T_ix (hu_of hr) (T_var 0) (T_var 2)) (L_cons (T_bin o_add (T_bin o_add (T_var 1) (T_bin o_mul T_int (T_var 2))) T_int) L_nil))) L_nil))) (T_sl (T_var 0) (P_some (T_bin o_add (T_var 2) T_int)) P_none))))) S_nil) (S_cons (S_set (i := 3) (T_lst (L_cons T_non (L_cons T_bl (L_cons T_bl (L_cons T_int (L_cons T_int (L_cons (T_neg T_int) (L_cons T_int (L_cons T_int (L_cons T_int (L_cons T_int (L_cons T_str (L_cons T_str (L_cons T_str (L_cons (T_tup L_nil) (L_cons (T_tup (L_cons T_str L_nil)) (L_cons (T_lst (L_cons T_int L_nil)) L_nil))))))))))))))))) sc_w_odd.nd) (S_cons (S_if (Q_val (T_callB c_isi T.isinstance (L_cons (T_var 0) (L_cons (T_ty T.tuple) L_nil)))) (S_one (S_set (i := 3) (T_bin o_add (T_var 3) (T_bin o_mul (T_lst (L_cons (T_callTy c_list T.list (L_cons (T_var 0) L_nil)) (L_cons (T_bin o_add (T_var 0) (T_sl (T_var 0) (P_some (T_neg T_int)) P_none)) (L_cons (T_sl (T_var 0) P_none (P_some (T_neg T_int))) (L_cons (T_rev (T_var 0) (T_neg T_int)) (L_cons (T_sl (T_var 0) (P_some T_int) P_none) (L_cons (T_tup (L_cons (T_var 0) L_nil)) L_nil))))))) T_int)) sc_w_odd.nd)) (S_one (S_if (Q_val (T_callB c_isi T.isinstance (L_cons (T_var 0) (L_cons (T_ty T.str) L_nil)))) (S_one (S_set (i := 3) (T_bin o_add (T_var 3) (T_bin o_mul (T_lst (L_cons (T_bin o_add (T_var 0) T_str) (L_cons (T_sl (T_var 0) P_none (P_some (T_neg T_int))) (L_cons (T_ms0 PySem.F.slot_str_upper PySem.F.type_str_upper m_upper (T_var 0)) (L_cons (T_bin o_add (T_var 0) T_str) (L_cons (T_bin o_mul (T_var 0) T_int) (L_cons (T_lst (L_cons (T_var 0) L_nil)) (L_cons (T_bin o_add (T_var 0) (T_sl (T_var 0) P_none (P_some T_int))) L_nil)))))))) T_int)) sc_w_odd.nd)) (S_one (S_if (Q_val (T_callB c_isi T.isinstance (L_cons (T_var 0) (L_cons (T_ty T.int) L_nil)))) (S_one (S_set (i := 3) (T_bin o_add (T_var 3) (T_bin o_mul (T_lst (L_cons (T_bin o_add (T_var 0) T_int) (L_cons (T_bin o_sub (T_var 0) T_int) (L_cons (T_bin o_sub T_int (T_var 0)) (L_cons (T_tup (L_cons (T_var 0) L_nil)) (L_cons (T_bin o_add (T_var 0) T_int) (L_cons (T_bin o_mul (T_var 0) T_int) L_nil))))))) T_int)) sc_w_odd.nd)) S_nil))))) (S_one (S_ret (T_ix (hu_of hr) (T_var 3) (T_def D.w_mix G_w_mix hr (L_cons (T_var 1) (L_cons T_int (L_cons (T_callB c_len T.len (L_cons (T_var 3) L_nil)) L_nil)))))))))), ?_⟩
    exact fun ts t e => mir_ok (G := g_w_odd (m_w_odd n)) e
theorem ok_w_is_name (T : Gl0 K w mg) (D : Ds K mg fa ft) : FnOk P w K mg base CX0 1 (fa "_law_is_name") (ft "_law_is_name") ["_law_thing"] (spT K m_w_is_name) := by
  refine Fun.okQ D.w_is_name.fn sc_w_is_name (fun ts t e => mir_len e) fun cdv A outer s H E hr =>
    ⟨_, (S_one (S_ret (T_and (T_callB c_isi T.isinstance (L_cons (T_var 0) (L_cons (T_ty T.str) L_nil))) (T_and (T_chain o_lt o_lt T_int (T_callB c_len T.len (L_cons (T_var 0) L_nil)) T_int) (T_one (T_cmp (o_eq (hu40 hr)) (T_lc (N' := ["_law_sign"]) (ix := [none]) (LcOk.of (N := ["_law_thing"]) (sc := defScope s_w_is_name) rfl rfl (by decide +kernel)) (I_seq (T_var 0)) ⟨fun s H ex => ⟨(G_name 0 (by show List.Nodup (["_law_sign"] : List Str); decide +kernel)), (F_one (Q_not (Q_chain o_le o_le T_str (T_var 0) T_str))), (T_var 0)⟩⟩ (tgOk_n 0)) (T_lst L_nil))))))), ?_⟩
  exact fun ts t e => mir_ok (G := g_w_is_name) e
theorem ok_w_is_words (T : Gl0 K w mg) (D : Ds K mg fa ft) : FnOk P w K mg base CX0 1 (fa "_law_is_words") (ft "_law_is_words") ["_law_thing"] (spT K m_w_is_words) := by
  refine Fun.okQ D.w_is_words.fn sc_w_is_words (fun ts t e => mir_len e) fun cdv A outer s H E hr =>
    ⟨_, (S_one (S_ret (T_and (T_callB c_isi T.isinstance (L_cons (T_var 0) (L_cons (T_ty T.str) L_nil))) (T_one (T_chain o_lt o_lt T_int (T_callB c_len T.len (L_cons (T_var 0) L_nil)) T_int))))), ?_⟩
  exact fun ts t e => mir_ok (G := g_w_is_words) e
theorem ok_w_is_number (T : Gl0 K w mg) (D : Ds K mg fa ft) : FnOk P w K mg base CX0 1 (fa "_law_is_number") (ft "_law_is_number") ["_law_thing"] (spT K m_w_is_number) := by
  refine Fun.okQ D.w_is_number.fn sc_w_is_number (fun ts t e => mir_len e) fun cdv A outer s H E hr =>
    ⟨_, (S_one (S_ret (T_and (T_callB c_isi T.isinstance (L_cons (T_var 0) (L_cons (T_ty T.int) L_nil))) (T_and (T_not (T_callB c_isi T.isinstance (L_cons (T_var 0) (L_cons (T_ty T.bool) L_nil)))) (T_one (T_cmp o_gt (T_var 0) T_int)))))), ?_⟩
  exact fun ts t e => mir_ok (G := g_w_is_number) e
theorem ok_w_is_row (T : Gl0 K w mg) (D : Ds K mg fa ft) : FnOk P w K mg base CX0 2 (fa "_law_is_row") (ft "_law_is_row") ["_law_thing"] (spT K m_w_is_row) := by
  have G_w_is_number : FnOk P w K mg base CX0 1 (fa "_law_is_number") (ft "_law_is_number") ["_law_thing"] (spT K m_w_is_number) := (ok_w_is_number T D).mono (by decide)
  have G_w_is_words : FnOk P w K mg base CX0 1 (fa "_law_is_words") (ft "_law_is_words") ["_law_thing"] (spT K m_w_is_words) := (ok_w_is_words T D).mono (by decide)
  have G_w_is_name : FnOk P w K mg base CX0 1 (fa "_law_is_name") (ft "_law_is_name") ["_law_thing"] (spT K m_w_is_name) := (ok_w_is_name T D).mono (by decide)
  refine Fun.okQ D.w_is_row.fn sc_w_is_row (fun ts t e => mir_len e) fun cdv A outer s H E hr =>
    ⟨_, (S_cons (S_if (Q_bool (W_or (Q_not (Q_val (T_callB c_isi T.isinstance (L_cons (T_var 0) (L_cons (T_ty T.tuple) L_nil))))) (W_or (Q_cmp o_lt (T_callB c_len T.len (L_cons (T_var 0) L_nil)) T_int) (W_or (Q_not (Q_val (T_def D.w_is_number G_w_is_number hr (L_cons (T_ix (hu_of hr) (T_var 0) T_int) L_nil)))) (W_or1 (Q_not (Q_val (T_def D.w_is_name G_w_is_name hr (L_cons (T_ix (hu_of hr) (T_var 0) T_int) L_nil))))))))) (S_one (S_ret T_bl)) S_nil) (S_cons (S_par (i := 1) (j := 2) (L_cons (T_ix (hu_of hr) (T_var 0) T_int) (L_cons (T_sl (T_var 0) (P_some T_int) P_none) L_nil)) sc_w_is_row.nd) (S_cons (S_if (Q_not (Q_val (T_callB c_isi T.isinstance (L_cons (T_var 1) (L_cons (T_ty T.str) L_nil))))) (S_one (S_ret T_bl)) S_nil) (S_cons (S_if (Q_cmp (o_in (hu_of hr)) (T_var 1) (T_tup (L_cons T_str (L_cons T_str (L_cons T_str L_nil))))) (S_one (S_ret (T_cmp (o_eq (hu40 hr)) (T_var 2) (T_tup L_nil)))) S_nil) (S_cons (S_if (Q_cmp (o_in (hu_of hr)) (T_var 1) (T_tup (L_cons T_str (L_cons T_str (L_cons T_str (L_cons T_str L_nil)))))) (S_one (S_ret (T_and (T_cmp (o_eq (hu40 hr)) (T_callB c_len T.len (L_cons (T_var 2) L_nil)) T_int) (T_one (T_def D.w_is_name G_w_is_name hr (L_cons (T_ix (hu_of hr) (T_var 2) T_int) L_nil)))))) S_nil) (S_cons (S_if (Q_cmp (o_eq (hu40 hr)) (T_var 1) T_str) (S_one (S_ret (T_and (T_cmp (o_eq (hu40 hr)) (T_callB c_len T.len (L_cons (T_var 2) L_nil)) T_int) (T_one (T_def D.w_is_number G_w_is_number hr (L_cons (T_ix (hu_of hr) (T_var 2) T_int) L_nil)))))) S_nil) (S_cons (S_if (Q_cmp (o_ne (hu40 hr)) (T_callB c_len T.len (L_cons (T_var 2) L_nil)) T_int) (S_one (S_ret T_bl)) S_nil) (S_cons (S_if (Q_cmp (o_eq (hu40 hr)) (T_var 1) T_str) (S_cons (S_set (i := 3) (T_dict (D_cons T_str (T_tup (L_cons T_str (L_cons T_str L_nil))) (D_cons T_str (T_tup (L_cons T_str (L_cons T_str L_nil))) (D_cons T_str (T_tup (L_cons T_str (L_cons T_str L_nil))) D_nil)))) sc_w_is_row.nd) (S_one (S_ret (T_and (T_callB c_isi T.isinstance (L_cons (T_ix (hu_of hr) (T_var 2) T_int) (L_cons (T_ty T.str) L_nil))) (T_and (T_callB c_isi T.isinstance (L_cons (T_ix (hu_of hr) (T_var 2) T_int) (L_cons (T_ty T.str) L_nil))) (T_one (T_cmp (o_in (hu_of hr)) (T_ix (hu_of hr) (T_var 2) T_int) (T_get2 (hu_of hr) (T_var 3) (T_ix (hu_of hr) (T_var 2) T_int) (T_tup L_nil))))))))) S_nil) (S_cons (S_if (Q_cmp (o_eq (hu40 hr)) (T_var 1) T_str) (S_one (S_ret (T_and (T_def D.w_is_name G_w_is_name hr (L_cons (T_ix (hu_of hr) (T_var 2) T_int) L_nil)) (T_and (T_callB c_isi T.isinstance (L_cons (T_ix (hu_of hr) (T_var 2) T_int) (L_cons (T_ty T.str) L_nil))) (T_one (T_cmp (o_in (hu_of hr)) (T_ix (hu_of hr) (T_var 2) T_int) (T_tup (L_cons T_str (L_cons T_str (L_cons T_str (L_cons T_str L_nil))))))))))) S_nil) (S_cons (S_if (Q_cmp (o_eq (hu40 hr)) (T_var 1) T_str) (S_one (S_ret (T_and (T_def D.w_is_words G_w_is_words hr (L_cons (T_ix (hu_of hr) (T_var 2) T_int) L_nil)) (T_one (T_or (T_cmp o_is (T_ix (hu_of hr) (T_var 2) T_int) T_non) (T_one (T_def D.w_is_number G_w_is_number hr (L_cons (T_ix (hu_of hr) (T_var 2) T_int) L_nil)))))))) S_nil) (S_one (S_ret (T_and (T_cmp (o_eq (hu40 hr)) (T_var 1) T_str) (T_and (T_def D.w_is_number G_w_is_number hr (L_cons (T_ix (hu_of hr) (T_var 2) T_int) L_nil)) (T_one (T_def D.w_is_words G_w_is_words hr (L_cons (T_ix (hu_of hr) (T_var 2) T_int) L_nil))))))))))))))))), ?_⟩
  exact fun ts t e => mir_ok (G := g_w_is_row) e
theorem ok_law (T : Gl0 K w mg) (D : Ds K mg fa ft) : FnOk P w K mg base CX0 7 (fa "law") (ft "law") ["_law_script"] (spT K m_law) := by
  have G_w_any_row : FnOk P w K mg base CX0 6 (fa "_law_any_row") (ft "_law_any_row") ["_law_cell_here"] (spT K m_w_any_row) := (ok_w_any_row T D).mono (by decide)
  have G_w_no_rows : FnOk P w K mg base CX0 6 (fa "_law_no_rows") (ft "_law_no_rows") ["_law_row"] (spT K m_w_no_rows) := (ok_w_no_rows T D).mono (by decide)
  have G_is_row : FnOk P w K mg base CX0 6 (fa "is_row") (ft "is_row") ["thing"] (spT K m_is_row) := (ok_is_row T D).mono (by decide)
  have G_w_odd : FnOk P w K mg base CX0 6 (fa "_law_odd") (ft "_law_odd") ["_law_thing", "_law_cell_here"] (spT K (m_w_odd 3)) := (ok_w_odd T D 3).mono (by decide)
  have G_w_cell : FnOk P w K mg base CX0 6 (fa "_law_cell") (ft "_law_cell") ["_law_script", "_law_k"] (spT K m_w_cell) := (ok_w_cell T D).mono (by decide)
  have G_w_is_row : FnOk P w K mg base CX0 6 (fa "_law_is_row") (ft "_law_is_row") ["_law_thing"] (spT K m_w_is_row) := (ok_w_is_row T D).mono (by decide)
  refine Fun.okQ D.law.fn sc_law (fun ts t e => mir_len e) fun cdv A outer s H E hr =>
    ⟨_, (S_cons (S_for (I_range1 T.range (L_cons T_int L_nil)) (G_name 1 sc_law.nd) (S_cons (S_set (i := 2) (T_def D.w_any_row G_w_any_row hr (L_cons (T_bin o_add (T_def D.w_cell G_w_cell hr (L_cons (T_var 0) (L_cons (T_bin o_mod (T_var 1) T_int) L_nil))) (T_bin o_mul T_int (T_var 1))) L_nil)) sc_law.nd) (S_cons (S_if (Q_cmp o_isn (T_def D.is_row G_is_row hr (L_cons (T_var 2) L_nil)) T_bl) (S_one (S_ret T_bl)) S_nil) (S_cons (S_for (I_range1 T.range (L_cons T_int L_nil)) (G_name 3 sc_law.nd) (S_cons (S_set (i := 4) (T_def D.w_odd G_w_odd hr (L_cons (T_var 2) (L_cons (T_bin o_add (T_bin o_add (T_def D.w_cell G_w_cell hr (L_cons (T_var 0) (L_cons T_int L_nil))) (T_bin o_mul T_int (T_var 3))) (T_bin o_mul T_int (T_var 1))) L_nil))) sc_law.nd) (S_cons (S_par (i := 5) (j := 6) (L_cons (T_def D.is_row G_is_row hr (L_cons (T_var 4) L_nil)) (L_cons (T_def D.w_is_row G_w_is_row hr (L_cons (T_var 4) L_nil)) L_nil)) sc_law.nd) (S_one (S_if (Q_bool (W_or (Q_bool (W_and (Q_cmp o_isn (T_var 5) T_bl) (W_and1 (Q_val (T_var 6))))) (W_or1 (Q_bool (W_and (Q_cmp o_isn (T_var 5) T_bl) (W_and1 (Q_not (Q_val (T_var 6))))))))) (S_one (S_ret T_bl)) S_nil))))) (S_one (S_for (I_seq (T_def D.w_no_rows G_w_no_rows hr (L_cons (T_var 2) L_nil))) (G_name 7 sc_law.nd) (S_one (S_if (Q_cmp o_isn (T_def D.is_row G_is_row hr (L_cons (T_var 7) L_nil)) T_bl) (S_one (S_ret T_bl)) S_nil)))))))) (S_one (S_ret (T_and (T_cmp o_is (T_def D.is_row G_is_row hr (L_cons (T_tup (L_cons T_int (L_cons T_str (L_cons T_str (L_cons T_str (L_cons T_non L_nil)))))) L_nil)) T_bl) (T_one (T_cmp o_is (T_def D.is_row G_is_row hr (L_cons (T_tup (L_cons T_int (L_cons T_str (L_cons T_str (L_cons T_str (L_cons T_str L_nil)))))) L_nil)) T_bl)))))), ?_⟩
  exact fun ts t e => mir_ok (G := g_law) e
end
end M3

namespace M3
open PySem L2
theorem lcF {A : Rho → Rs Bool} {F : Rho → Rs Tr} {p : Tr → Bool} {f : Tr → Tr} {R : Rho} : ∀ (ts : List Tr) (c : Cell), (∀ t ∈ ts, A (.sh t :: R) = .ok (p t)) → (∀ t ∈ ts, p t = true → F (.sh t :: R) = .ok (f t)) → lcL (gN 0) A F ts (c :: R) = .ok ((ts.filter p).map f)
  | [], c, _, _ => rfl
  | t :: ts, c, h1, h2 => by
    rw [lcL]
    show (Rs.bind (pur (A (.sh t :: R))) _ : Rs (List Tr)) = _
    rw [h1 t (List.mem_cons_self ..)]
    have ih := lcF ts (.sh t) (fun u m => h1 u (List.mem_cons_of_mem _ m)) (fun u m => h2 u (List.mem_cons_of_mem _ m))
    cases e : p t with
    | true =>
      show (Rs.bind (pur (F (.sh t :: R))) _ : Rs (List Tr)) = _
      rw [h2 t (List.mem_cons_self ..) e]
      show ((lcL (gN 0) A F ts (.sh t :: R)).bind fun ys => Rs.ok (f t :: ys)) = _
      rw [ih, List.filter_cons, e]
      rfl
    | false =>
      show lcL (gN 0) A F ts (.sh t :: R) = _
      rw [ih, List.filter_cons, e]
      rfl
theorem lcM {F : Rho → Rs Tr} {f : Tr → Tr} {R : Rho} (ts : List Tr) (c : Cell) (h : ∀ t ∈ ts, F (.sh t :: R) = .ok (f t)) : lcL (gN 0) (fun _ => .ok true) F ts (c :: R) = .ok (ts.map f) := by
  have q := lcF (A := fun _ => .ok true) (p := fun _ => true) ts c (fun _ _ => rfl) (fun t m _ => h t m)
  rw [show ts.filter (fun _ => true) = ts by rw [List.filter_eq_self]; intros; rfl] at q
  exact q
theorem bls_map (g : Tr → Bool) : ∀ ts : List Tr, blsL (ts.map fun t => .bl (g t)) = .ok (ts.map g)
  | [] => rfl
  | t :: ts => by rw [List.map_cons, blsL, bls_map g ts]; rfl
theorem sgn_mem {z : Str} {t : Tr} (h : t ∈ sgnT z) : ∃ c, t = .str ⟨#[c]⟩ := by
  unfold sgnT at h
  obtain ⟨c, _, e⟩ := List.mem_map.mp h
  exact ⟨c, e.symm⟩
theorem sgn_len (z : Str) : (sgnT z).length = z.length := by simp [sgnT, Str.length]
def letT (z : Str) : Bool := !(decide (z.cps.toList < ("a" : Str).cps.toList)) && !(decide (("z" : Str).cps.toList < z.cps.toList))
theorem e_letter (z : Str) : m_is_letter [.str z] = .ok (.bl (letT z)) := by
  show bodyR (retO (chnR leC leC (Rs.ok (.str "a")) (.ok (.str z)) (Rs.ok (.str "z")))) = _
  unfold letT
  cases e : (!(decide (z.cps.toList < ("a" : Str).cps.toList))) with
  | true => simp only [mir, bodyR, startT, seqO, setO, retO, ifO, dropO, parO, unpO, getS, op2, callR, consR, asB, notB, andB, orB, andV, orV, truT, blR, iteR, chnR, tupR, lstR, slR, asI, okO, leC, ltC, gtC, geC, isC, isnC, isN, eqC, neC, inC, ninC, lenT, listT, tupleT, isiT, negT, Rs.bind, Rs.bind_ok, List.length_cons, List.length_nil, List.map_cons, List.map_nil, List.replicate, List.set, List.getElem?_cons_zero, List.getElem?_cons_succ, List.nil_append, List.cons_append, if_true, if_false, ite_true, ite_false, Nat.reduceAdd, Nat.reduceSub, Nat.reduceEqDiff, Nat.reduceLeDiff, e, Bool.true_and]
  | false => simp only [mir, bodyR, startT, seqO, setO, retO, ifO, dropO, parO, unpO, getS, op2, callR, consR, asB, notB, andB, orB, andV, orV, truT, blR, iteR, chnR, tupR, lstR, slR, asI, okO, leC, ltC, gtC, geC, isC, isnC, isN, eqC, neC, inC, ninC, lenT, listT, tupleT, isiT, negT, Rs.bind, Rs.bind_ok, List.length_cons, List.length_nil, List.map_cons, List.map_nil, List.replicate, List.set, List.getElem?_cons_zero, List.getElem?_cons_succ, List.nil_append, List.cons_append, if_true, if_false, ite_true, ite_false, Nat.reduceAdd, Nat.reduceSub, Nat.reduceEqDiff, Nat.reduceLeDiff, e, Bool.false_and, Bool.false_eq_true]
def letV : Tr → Bool
  | .str z => letT z
  | _ => false
def nmT : Tr → Bool
  | .str z => decide ((1 : Int) ≤ z.length) && (decide ((z.length : Int) ≤ 6) && (sgnT z).all letV)
  | _ => false
def wdT : Tr → Bool
  | .str z => decide ((1 : Int) ≤ z.length) && decide ((z.length : Int) ≤ 60)
  | _ => false
def nuT : Tr → Bool
  | .int i => decide (1 ≤ i)
  | _ => false
theorem e_words (t : Tr) (h : plT t = true) : m_is_words [t] = .ok (.bl (wdT t)) := by
  cases t with
  | str z =>
    show bodyR (retO (andV (.ok (.bl true)) (chnR leC leC (Rs.ok (.int 1)) (.ok (.int z.length)) (Rs.ok (.int 60))))) = _
    unfold wdT
    cases e : decide ((1 : Int) ≤ z.length) with
    | true => simp only [mir, bodyR, startT, seqO, setO, retO, ifO, dropO, parO, unpO, getS, op2, callR, consR, asB, notB, andB, orB, andV, orV, truT, blR, iteR, chnR, tupR, lstR, slR, asI, okO, leC, ltC, gtC, geC, isC, isnC, isN, eqC, neC, inC, ninC, lenT, listT, tupleT, isiT, negT, Rs.bind, Rs.bind_ok, List.length_cons, List.length_nil, List.map_cons, List.map_nil, List.replicate, List.set, List.getElem?_cons_zero, List.getElem?_cons_succ, List.nil_append, List.cons_append, if_true, if_false, ite_true, ite_false, Nat.reduceAdd, Nat.reduceSub, Nat.reduceEqDiff, Nat.reduceLeDiff, e, Bool.true_and]
    | false => simp only [mir, bodyR, startT, seqO, setO, retO, ifO, dropO, parO, unpO, getS, op2, callR, consR, asB, notB, andB, orB, andV, orV, truT, blR, iteR, chnR, tupR, lstR, slR, asI, okO, leC, ltC, gtC, geC, isC, isnC, isN, eqC, neC, inC, ninC, lenT, listT, tupleT, isiT, negT, Rs.bind, Rs.bind_ok, List.length_cons, List.length_nil, List.map_cons, List.map_nil, List.replicate, List.set, List.getElem?_cons_zero, List.getElem?_cons_succ, List.nil_append, List.cons_append, if_true, if_false, ite_true, ite_false, Nat.reduceAdd, Nat.reduceSub, Nat.reduceEqDiff, Nat.reduceLeDiff, e, Bool.false_and, Bool.false_eq_true]
  | ty _ => cases h
  | scr _ => cases h
  | dic _ => cases h
  | _ => rfl
theorem e_name (t : Tr) (h : plT t = true) : m_is_name [t] = .ok (.bl (nmT t)) := by
  cases t with
  | str z =>
    show bodyR (retO (andV (chnR leC leC (Rs.ok (.int 1)) (.ok (.int z.length)) (Rs.ok (.int 6))) (callR allT (consR (lcR [none] (gN 0) (fun _ => .ok true) (fun ρ => callR m_is_letter (consR (getS ρ 0) (.ok []))) (.ok (sgnT z)) [.sh (.str z)]) (.ok []))))) = _
    unfold nmT
    cases e : decide ((1 : Int) ≤ z.length) with
    | false => simp only [mir, bodyR, startT, seqO, setO, retO, ifO, dropO, parO, unpO, getS, op2, callR, consR, asB, notB, andB, orB, andV, orV, truT, blR, iteR, chnR, tupR, lstR, slR, asI, okO, leC, ltC, gtC, geC, isC, isnC, isN, eqC, neC, inC, ninC, lenT, listT, tupleT, isiT, negT, Rs.bind, Rs.bind_ok, List.length_cons, List.length_nil, List.map_cons, List.map_nil, List.replicate, List.set, List.getElem?_cons_zero, List.getElem?_cons_succ, List.nil_append, List.cons_append, if_true, if_false, ite_true, ite_false, Nat.reduceAdd, Nat.reduceSub, Nat.reduceEqDiff, Nat.reduceLeDiff, e, Bool.false_and, Bool.false_eq_true]
    | true =>
      cases e2 : decide ((z.length : Int) ≤ 6) with
      | false => simp only [mir, bodyR, startT, seqO, setO, retO, ifO, dropO, parO, unpO, getS, op2, callR, consR, asB, notB, andB, orB, andV, orV, truT, blR, iteR, chnR, tupR, lstR, slR, asI, okO, leC, ltC, gtC, geC, isC, isnC, isN, eqC, neC, inC, ninC, lenT, listT, tupleT, isiT, negT, Rs.bind, Rs.bind_ok, List.length_cons, List.length_nil, List.map_cons, List.map_nil, List.replicate, List.set, List.getElem?_cons_zero, List.getElem?_cons_succ, List.nil_append, List.cons_append, if_true, if_false, ite_true, ite_false, Nat.reduceAdd, Nat.reduceSub, Nat.reduceEqDiff, Nat.reduceLeDiff, e, e2, Bool.true_and, Bool.false_and, Bool.false_eq_true]
      | true =>
        have hl : (sgnT z).length ≤ szT := by rw [sgn_len]; have := of_decide_eq_true e2; unfold szT; omega
        have q : lcR [none] (gN 0) (fun _ => .ok true) (fun ρ => callR m_is_letter (consR (getS ρ 0) (.ok []))) (.ok (sgnT z)) [.sh (.str z)] = .ok (.lst ((sgnT z).map fun t => .bl (letV t))) := by
          unfold lcR
          show (if (sgnT z).length ≤ szT then _ else _) = _
          rw [if_pos hl]
          show (lcL (gN 0) _ _ (sgnT z) [.no]).bind _ = _
          rw [lcM (f := fun t => .bl (letV t)) (sgnT z) .no fun t m => by obtain ⟨c, rfl⟩ := sgn_mem m; exact e_letter _]
          rfl
        rw [q]
        have q2 : callR allT (consR (.ok (.lst ((sgnT z).map fun t => .bl (letV t)))) (.ok [])) = .ok (.bl ((sgnT z).all letV)) := by
          show (blsL ((sgnT z).map fun t => .bl (letV t))).bind (fun bs => Rs.ok (Tr.bl (bs.all id))) = _
          rw [bls_map]
          show Rs.ok (Tr.bl (((sgnT z).map letV).all id)) = _
          rw [List.all_map]
          rfl
        rw [q2]
        simp only [mir, bodyR, startT, seqO, setO, retO, ifO, dropO, parO, unpO, getS, op2, callR, consR, asB, notB, andB, orB, andV, orV, truT, blR, iteR, chnR, tupR, lstR, slR, asI, okO, leC, ltC, gtC, geC, isC, isnC, isN, eqC, neC, inC, ninC, lenT, listT, tupleT, isiT, negT, Rs.bind, Rs.bind_ok, List.length_cons, List.length_nil, List.map_cons, List.map_nil, List.replicate, List.set, List.getElem?_cons_zero, List.getElem?_cons_succ, List.nil_append, List.cons_append, if_true, if_false, ite_true, ite_false, Nat.reduceAdd, Nat.reduceSub, Nat.reduceEqDiff, Nat.reduceLeDiff, e, e2, Bool.true_and]
  | ty _ => cases h
  | scr _ => cases h
  | dic _ => cases h
  | _ => rfl
theorem e_number (t : Tr) (h : plT t = true) : m_is_number [t] = .ok (.bl (nuT t)) := by
  cases t with
  | ty _ => cases h
  | scr _ => cases h
  | dic _ => cases h
  | _ => rfl
def anT : Tr → Bool
  | .non => true
  | t => nuT t
theorem e_answer (t : Tr) (h : plT t = true) : m_is_answer [t] = .ok (.bl (anT t)) := by
  cases t with
  | ty _ => cases h
  | scr _ => cases h
  | dic _ => cases h
  | _ => rfl
/-- t is one of these texts -/
def inz (t : Tr) (zs : List Str) : Bool := zs.any fun z => eqT (.str z) t
theorem e_in (t : Tr) (zs : List Str) (h : plT t = true) : inC t (.tup (zs.map Tr.str)) = .ok (.bl (inz t zs)) := by
  have e : (zs.map Tr.str).all flT = true := by rw [List.all_map, List.all_eq_true]; intros; rfl
  have q : inC t (.tup (zs.map Tr.str)) = blR (inL t (zs.map Tr.str)) := by cases t <;> rfl
  rw [q]
  unfold inL
  rw [if_pos ⟨h, e⟩, List.any_map]
  rfl
def sets : List (Str × List Str) := [("door", ["open", "asked"]), ("voice", ["all", "some"]), ("past", ["shown", "hidden"])]
def seT (a b : Tr) : Bool := match a with
  | .str z => match sets.lookup z with
    | some zs => inz b zs
    | none => false
  | _ => false
theorem e_setting (a b : Tr) (h : plT a = true) (h2 : plT b = true) : m_is_setting [a, b] = .ok (.bl (seT a b)) := by
  cases a with
  | str z =>
    have e0 : ∀ z : Str, List.lookup z [(("door" : Str), Tr.tup [.str "open", .str "asked"]), ("voice", .tup [.str "all", .str "some"]), ("past", .tup [.str "shown", .str "hidden"])] = (sets.lookup z).map fun zs => Tr.tup (zs.map Tr.str) := by
      intro z
      unfold sets
      rw [List.lookup_cons, List.lookup_cons, List.lookup_cons, List.lookup_cons, List.lookup_cons, List.lookup_cons]
      cases (z == ("door" : Str)) <;> cases (z == ("voice" : Str)) <;> cases (z == ("past" : Str)) <;> rfl
    show bodyR (retO (andV (.ok (.bl true)) (andV (.ok (.bl (List.lookup z [(("door" : Str), Tr.tup [.str "open", .str "asked"]), ("voice", .tup [.str "all", .str "some"]), ("past", .tup [.str "shown", .str "hidden"])]).isSome)) (op2 inC (.ok b) (okO (List.lookup z [(("door" : Str), Tr.tup [.str "open", .str "asked"]), ("voice", .tup [.str "all", .str "some"]), ("past", .tup [.str "shown", .str "hidden"])])))))) = _
    rw [e0]
    have e9 : seT (.str z) b = match sets.lookup z with | some zs => inz b zs | none => false := rfl
    rw [e9]
    cases e : sets.lookup z with
    | none => rfl
    | some zs =>
      have q := e_in b zs h2
      show bodyR (retO (andV (.ok (.bl true)) (andV (.ok (.bl true)) (inC b (.tup (zs.map Tr.str)))))) = _
      rw [q]
      rfl
  | ty _ => cases h
  | scr _ => cases h
  | dic _ => cases h
  | _ => rfl
theorem ifret {b : Bool} {t : Tr} {ρ : Rho} {G : Rho → Rs Out} : bodyR (seqO (ifO (.ok b) (retO (.ok t)) (.ok (.nx ρ))) G) = if b = true then .ok t else bodyR (G ρ) := by cases b <;> rfl
theorem e_eq (a : Tr) (z : Str) (h : plT a = true) (hd : dT a ≤ 40) : eqC a (.str z) = .ok (.bl (eqT a (.str z))) := if_pos ⟨h, rfl, hd⟩
theorem e_eqI (n k : Int) : eqC (.int n) (.int k) = .ok (.bl (n == k)) := rfl
def rls : List Str := ["guest", "speaker", "keeper", "owner"]
def twT (w a b : Tr) : Bool := if eqT w (.str "set") = true then seT a b else if eqT w (.str "role") = true then nmT a && inz b rls else if eqT w (.str "say") = true then wdT a && anT b else if eqT w (.str "mend") = true then nuT a && wdT b else false
theorem and2 (x y : Bool) : andV (.ok (.bl x)) (.ok (.bl y)) = .ok (.bl (x && y)) := by cases x <;> rfl
theorem okite {c : Prop} [Decidable c] (x y : Bool) : (if c then Rs.ok (Tr.bl x) else .ok (.bl y)) = Rs.ok (.bl (if c then x else y)) := by split <;> rfl
theorem e_two (w a b : Tr) (hw : plT w = true) (hd : dT w ≤ 40) (ha : plT a = true) (hb : plT b = true) : m_are_two_parts [w, a, b] = .ok (.bl (twT w a b)) := by
  have r := e_in b rls hb
  have r' : inC b (.tup [.str "guest", .str "speaker", .str "keeper", .str "owner"]) = _ := r
  show bodyR (seqO (ifO (asB (eqC w (.str "set"))) (retO (m_is_setting [a, b])) (.ok (.nx [.sh w, .sh a, .sh b]))) _) = _
  rw [e_eq w _ hw hd, e_setting a b ha hb]
  show bodyR (seqO (ifO (.ok (eqT w (.str "set"))) _ _) _) = _
  rw [ifret]
  show (if _ then _ else bodyR (seqO (ifO (asB (eqC w (.str "role"))) (retO (andV (m_is_name [a]) (inC b (.tup [.str "guest", .str "speaker", .str "keeper", .str "owner"])))) (.ok (.nx [.sh w, .sh a, .sh b]))) _)) = _
  rw [e_eq w _ hw hd, e_name a ha, r', and2]
  show (if _ then _ else bodyR (seqO (ifO (.ok (eqT w (.str "role"))) _ _) _)) = _
  rw [ifret]
  show (if _ then _ else if _ then _ else bodyR (seqO (ifO (asB (eqC w (.str "say"))) (retO (andV (m_is_words [a]) (m_is_answer [b]))) (.ok (.nx [.sh w, .sh a, .sh b]))) _)) = _
  rw [e_eq w _ hw hd, e_words a ha, e_answer b hb, and2]
  show (if _ then _ else if _ then _ else bodyR (seqO (ifO (.ok (eqT w (.str "say"))) _ _) _)) = _
  rw [ifret]
  show (if _ then _ else if _ then _ else if _ then _ else bodyR (seqO (ifO (asB (eqC w (.str "mend"))) (retO (andV (m_is_number [a]) (m_is_words [b]))) (.ok (.nx [.sh w, .sh a, .sh b]))) _)) = _
  rw [e_eq w _ hw hd, e_number a ha, e_words b hb, and2]
  show (if _ then _ else if _ then _ else if _ then _ else bodyR (seqO (ifO (.ok (eqT w (.str "mend"))) _ _) _)) = _
  rw [ifret]
  show (if _ then _ else if _ then _ else if _ then _ else if _ then _ else Rs.ok (Tr.bl false)) = _
  rw [okite, okite, okite, okite]
  rfl
def bare : List Str := ["found", "enter", "leave"]
def whom : List Str := ["ask", "unbar", "out", "bar"]
def paT (w : Tr) (ps : List Tr) : Bool :=
  if inz w bare = true then ((ps.length : Int) == 0) else if inz w whom = true then ((ps.length : Int) == 1) && nmT (ps.getD 0 .non) else if eqT w (.str "gone") = true then ((ps.length : Int) == 1) && nuT (ps.getD 0 .non) else ((ps.length : Int) == 2) && twT w (ps.getD 0 .non) (ps.getD 1 .non)
theorem at0 (ps : List Tr) (h : ((ps.length : Int) == 1) = true ∨ ((ps.length : Int) == 2) = true) : ixT (.tup ps) (.int 0) = .ok (ps.getD 0 .non) := by
  match ps, h with
  | x :: r, _ =>
    have e : L2.atI (x :: r) ((0 : Nat) : Int) = some x := atI_nat rfl
    show okO (L2.atI (x :: r) 0) = _
    rw [show (0 : Int) = ((0 : Nat) : Int) from rfl, e]
    rfl
  | [], h => rcases h with h | h <;> cases h
theorem at1 (ps : List Tr) (h : ((ps.length : Int) == 2) = true) : ixT (.tup ps) (.int 1) = .ok (ps.getD 1 .non) := by
  match ps, h with
  | x :: y :: r, _ =>
    have e : L2.atI (x :: y :: r) ((1 : Nat) : Int) = some y := atI_nat rfl
    show okO (L2.atI (x :: y :: r) 1) = _
    rw [show (1 : Int) = ((1 : Nat) : Int) from rfl, e]
    rfl
  | [_], h => cases h
  | [], h => cases h
theorem plD {ps : List Tr} (h : plTs ps = true) (k : Nat) : plT (ps.getD k .non) = true := by
  rw [List.getD_eq_getElem?_getD]
  cases e : ps[k]? with
  | none => rfl
  | some t => exact plTs_mem h t (List.mem_of_getElem? e)
theorem and3 {x : Bool} {r : Rs Tr} {y : Bool} (h : x = true → r = .ok (.bl y)) : andV (.ok (.bl x)) r = .ok (.bl (x && y)) := by
  cases x with
  | false => rfl
  | true => rw [h rfl]; rfl
theorem e_parts (w : Tr) (ps : List Tr) (hw : plT w = true) (hd : dT w ≤ 40) (hp : plTs ps = true) : m_are_parts [w, .tup ps] = .ok (.bl (paT w ps)) := by
  have r1 : inC w (.tup [.str "found", .str "enter", .str "leave"]) = _ := e_in w bare hw
  have r2 : inC w (.tup [.str "ask", .str "unbar", .str "out", .str "bar"]) = _ := e_in w whom hw
  show bodyR (seqO (ifO (asB (inC w (.tup [.str "found", .str "enter", .str "leave"]))) (retO (.ok (.bl ((ps.length : Int) == 0)))) (.ok (.nx [.sh w, .sh (.tup ps)]))) _) = _
  rw [r1]
  show bodyR (seqO (ifO (.ok (inz w bare)) _ _) _) = _
  rw [ifret]
  show (if _ then _ else bodyR (seqO (ifO (asB (inC w (.tup [.str "ask", .str "unbar", .str "out", .str "bar"]))) (retO (andV (.ok (.bl ((ps.length : Int) == 1))) (callR m_is_name (consR (ixT (.tup ps) (.int 0)) (.ok []))))) (.ok (.nx [.sh w, .sh (.tup ps)]))) _)) = _
  rw [r2, and3 (y := nmT (ps.getD 0 .non)) (fun e => by rw [at0 ps (.inl e)]; exact e_name _ (plD hp 0))]
  show (if _ then _ else bodyR (seqO (ifO (.ok (inz w whom)) _ _) _)) = _
  rw [ifret]
  show (if _ then _ else if _ then _ else bodyR (seqO (ifO (asB (eqC w (.str "gone"))) (retO (andV (.ok (.bl ((ps.length : Int) == 1))) (callR m_is_number (consR (ixT (.tup ps) (.int 0)) (.ok []))))) (.ok (.nx [.sh w, .sh (.tup ps)]))) _)) = _
  rw [e_eq w _ hw hd, and3 (y := nuT (ps.getD 0 .non)) (fun e => by rw [at0 ps (.inl e)]; exact e_number _ (plD hp 0))]
  show (if _ then _ else if _ then _ else bodyR (seqO (ifO (.ok (eqT w (.str "gone"))) _ _) _)) = _
  rw [ifret]
  show (if _ then _ else if _ then _ else if _ then _ else bodyR (retO (andV (.ok (.bl ((ps.length : Int) == 2))) (callR m_are_two_parts (consR (.ok w) (consR (ixT (.tup ps) (.int 0)) (consR (ixT (.tup ps) (.int 1)) (.ok [])))))))) = _
  rw [and3 (y := twT w (ps.getD 0 .non) (ps.getD 1 .non)) (fun e => by rw [at0 ps (.inr e), at1 ps e]; exact e_two w _ _ hw hd (plD hp 0) (plD hp 1))]
  show (if _ then _ else if _ then _ else if _ then _ else Rs.ok (Tr.bl _)) = _
  rw [okite, okite, okite]
  rfl
def rwL (ts : List Tr) : Bool := decide (3 ≤ ts.length) && (nuT (ts.getD 0 .non) && (nmT (ts.getD 1 .non) && paT (ts.getD 2 .non) (ts.drop 3)))
def rwT : Tr → Bool
  | .tup ts => rwL ts
  | _ => false
theorem plDrop : ∀ {ps : List Tr} (k : Nat), plTs ps = true → plTs (ps.drop k) = true
  | _, 0, h => h
  | [], _ + 1, h => h
  | _ :: ps, k + 1, h => by
    rw [plTs, Bool.and_eq_true] at h
    exact plDrop (ps := ps) k h.2
theorem dD {ps : List Tr} (k : Nat) : dT (ps.getD k .non) ≤ dTs ps := by
  rw [List.getD_eq_getElem?_getD]
  cases e : ps[k]? with
  | none => exact Nat.zero_le _
  | some t => exact dTs_mem t (List.mem_of_getElem? e)
theorem atK (ts : List Tr) (k : Nat) (h : k < ts.length) : ixT (.tup ts) (.int (k : Int)) = .ok (ts.getD k .non) := by
  have e : L2.atI ts (k : Int) = some (ts.getD k .non) := atI_nat (by rw [List.getD_eq_getElem?_getD, List.getElem?_eq_getElem h]; rfl)
  show okO (L2.atI ts (k : Int)) = _
  rw [e]
  rfl
theorem slD (ts : List Tr) (k : Nat) (h0 : 0 < k) (h : k ≤ ts.length) : slT (.tup ts) (some (k : Int)) none = .ok (.tup (ts.drop k)) := by
  have e1 : HT.sIx ts.length 0 (some (k : Int)) = k := by rw [HT.sIx_nat, Nat.min_eq_left h]
  have e2 : HT.sIx ts.length ts.length none = ts.length := HT.sIx_none _ _
  have w : wholeC ts.length (some (k : Int)) none = false := by
    unfold wholeC
    rw [e1, beq_false_of_ne (by omega)]
    rfl
  show (if wholeC ts.length (some (k : Int)) none = true then Rs.bad else Rs.ok (Tr.tup (cutG ts (some (k : Int)) none))) = _
  rw [w, if_neg Bool.false_ne_true]
  unfold cutG
  rw [e1, e2, List.take_of_length_le (by rw [List.length_drop]; exact Nat.le_refl _)]
theorem e_row (t : Tr) (h : plT t = true) (hd : dT t ≤ 40) : m_is_row [t] = .ok (.bl (rwT t)) := by
  cases t with
  | tup ts =>
    rw [dT] at hd
    have hp : plTs ts = true := h
    show bodyR (seqO (ifO (.ok (decide ((ts.length : Int) < 3))) (retO (Rs.ok (.bl false))) (.ok (.nx [.sh (.tup ts)]))) fun ρ => retO (andV (callR m_is_number (consR (op2 ixT (getS ρ 0) (Rs.ok (.int 0))) (.ok []))) (andV (callR m_is_name (consR (op2 ixT (getS ρ 0) (Rs.ok (.int 1))) (.ok []))) (callR m_are_parts (consR (op2 ixT (getS ρ 0) (Rs.ok (.int 2))) (consR (slR (getS ρ 0) (asI (Rs.ok (.int 3))) (.ok none)) (.ok []))))))) = _
    rw [ifret]
    by_cases h3 : 3 ≤ ts.length
    · rw [if_neg (by rw [decide_eq_true_eq]; omega)]
      show bodyR (retO (andV (callR m_is_number (consR (ixT (.tup ts) (.int ((0 : Nat) : Int))) (.ok []))) (andV (callR m_is_name (consR (ixT (.tup ts) (.int ((1 : Nat) : Int))) (.ok []))) (callR m_are_parts (consR (ixT (.tup ts) (.int ((2 : Nat) : Int))) (consR (slT (.tup ts) (some ((3 : Nat) : Int)) none) (.ok []))))))) = _
      rw [atK ts 0 (by omega), atK ts 1 (by omega), atK ts 2 (by omega), slD ts 3 (by omega) h3]
      show bodyR (retO (andV (m_is_number [ts.getD 0 .non]) (andV (m_is_name [ts.getD 1 .non]) (m_are_parts [ts.getD 2 .non, .tup (ts.drop 3)])))) = _
      rw [e_number _ (plD hp 0), e_name _ (plD hp 1), e_parts _ _ (plD hp 2) (Nat.le_trans (dD 2) (by omega)) (plDrop 3 hp), and2, and2]
      show Rs.ok (Tr.bl _) = Rs.ok (Tr.bl (rwL ts))
      unfold rwL
      rw [decide_eq_true h3, Bool.true_and]
    · rw [if_pos (by rw [decide_eq_true_eq]; omega)]
      show _ = Rs.ok (Tr.bl (rwL ts))
      unfold rwL
      rw [decide_eq_false h3, Bool.false_and]
  | ty _ => cases h
  | scr _ => cases h
  | dic _ => cases h
  | _ => rfl
end M3

namespace M3
open PySem L2
theorem eqTs_nil (xs : List Tr) : eqTs xs [] = xs.isEmpty := by cases xs <;> rfl
theorem filt_all (p : Tr → Bool) : ∀ xs : List Tr, (xs.filter fun t => !p t).isEmpty = xs.all p
  | [] => rfl
  | x :: xs => by
    rw [List.filter_cons, List.all_cons]
    cases e : p x with
    | true => exact filt_all p xs
    | false => rfl
theorem plTs_all {xs : List Tr} (h : ∀ t ∈ xs, plT t = true) : plTs xs = true := by
  induction xs with
  | nil => rfl
  | cons x xs ih => rw [plTs, h x (List.mem_cons_self ..), ih fun t m => h t (List.mem_cons_of_mem _ m)]; rfl
theorem dTs_all {xs : List Tr} {n : Nat} (h : ∀ t ∈ xs, dT t ≤ n) : dTs xs ≤ n := by
  induction xs with
  | nil => exact Nat.zero_le _
  | cons x xs ih => rw [dTs]; exact Nat.max_le.mpr ⟨h x (List.mem_cons_self ..), ih fun t m => h t (List.mem_cons_of_mem _ m)⟩
theorem e_lname (t : Tr) (h : plT t = true) : m_w_is_name [t] = .ok (.bl (nmT t)) := by
  cases t with
  | str z =>
    show bodyR (retO (andV (.ok (.bl true)) (andV (chnR ltC ltC (Rs.ok (.int 0)) (.ok (.int z.length)) (Rs.ok (.int 7))) (op2 eqC (lcR [none] (gN 0) (fun ρ => notB (asB (chnR leC leC (Rs.ok (.str "a")) (getS ρ 0) (Rs.ok (.str "z"))))) (fun ρ => getS ρ 0) (.ok (sgnT z)) [.sh (.str z)]) (.ok (.lst [])))))) = _
    have e1 : decide ((0 : Int) < z.length) = decide ((1 : Int) ≤ z.length) := by rw [decide_eq_decide]; omega
    have e2 : decide ((z.length : Int) < 7) = decide ((z.length : Int) ≤ 6) := by rw [decide_eq_decide]; omega
    have e0 : nmT (.str z) = (decide ((1 : Int) ≤ z.length) && (decide ((z.length : Int) ≤ 6) && (sgnT z).all letV)) := rfl
    rw [e0]
    cases h1 : decide ((1 : Int) ≤ z.length) with
    | false => simp only [mir, bodyR, startT, seqO, setO, retO, ifO, dropO, parO, unpO, getS, op2, callR, consR, asB, notB, andB, orB, andV, orV, truT, blR, iteR, chnR, tupR, lstR, slR, asI, okO, leC, ltC, gtC, geC, isC, isnC, isN, eqC, neC, inC, ninC, lenT, listT, tupleT, isiT, negT, Rs.bind, Rs.bind_ok, List.length_cons, List.length_nil, List.map_cons, List.map_nil, List.replicate, List.set, List.getElem?_cons_zero, List.getElem?_cons_succ, List.nil_append, List.cons_append, if_true, if_false, ite_true, ite_false, Nat.reduceAdd, Nat.reduceSub, Nat.reduceEqDiff, Nat.reduceLeDiff, e1, h1, Bool.false_and, Bool.false_eq_true]
    | true =>
      cases h2 : decide ((z.length : Int) ≤ 6) with
      | false => simp only [mir, bodyR, startT, seqO, setO, retO, ifO, dropO, parO, unpO, getS, op2, callR, consR, asB, notB, andB, orB, andV, orV, truT, blR, iteR, chnR, tupR, lstR, slR, asI, okO, leC, ltC, gtC, geC, isC, isnC, isN, eqC, neC, inC, ninC, lenT, listT, tupleT, isiT, negT, Rs.bind, Rs.bind_ok, List.length_cons, List.length_nil, List.map_cons, List.map_nil, List.replicate, List.set, List.getElem?_cons_zero, List.getElem?_cons_succ, List.nil_append, List.cons_append, if_true, if_false, ite_true, ite_false, Nat.reduceAdd, Nat.reduceSub, Nat.reduceEqDiff, Nat.reduceLeDiff, e1, e2, h1, h2, Bool.true_and, Bool.false_and, Bool.false_eq_true]
      | true =>
        have hl : (sgnT z).length ≤ szT := by rw [sgn_len]; have := of_decide_eq_true h2; unfold szT; omega
        have q : lcR [none] (gN 0) (fun ρ => notB (asB (chnR leC leC (Rs.ok (.str "a")) (getS ρ 0) (Rs.ok (.str "z"))))) (fun ρ => getS ρ 0) (.ok (sgnT z)) [.sh (.str z)] = .ok (.lst ((sgnT z).filter fun t => !letV t)) := by
          unfold lcR
          show (if (sgnT z).length ≤ szT then _ else _) = _
          rw [if_pos hl]
          show (lcL (gN 0) _ _ (sgnT z) [.no]).bind _ = _
          rw [lcF (p := fun t => !letV t) (f := id) (sgnT z) .no (fun t m => ?_) (fun t m _ => rfl), List.map_id]
          · rfl
          · obtain ⟨c, rfl⟩ := sgn_mem m
            show notB (asB (chnR leC leC (Rs.ok (.str "a")) (.ok (.str ⟨#[c]⟩)) (Rs.ok (.str "z")))) = .ok (!letT ⟨#[c]⟩)
            unfold letT
            cases e : (!(decide ((⟨#[c]⟩ : Str).cps.toList < ("a" : Str).cps.toList))) with
            | true => simp only [mir, bodyR, startT, seqO, setO, retO, ifO, dropO, parO, unpO, getS, op2, callR, consR, asB, notB, andB, orB, andV, orV, truT, blR, iteR, chnR, tupR, lstR, slR, asI, okO, leC, ltC, gtC, geC, isC, isnC, isN, eqC, neC, inC, ninC, lenT, listT, tupleT, isiT, negT, Rs.bind, Rs.bind_ok, List.length_cons, List.length_nil, List.map_cons, List.map_nil, List.replicate, List.set, List.getElem?_cons_zero, List.getElem?_cons_succ, List.nil_append, List.cons_append, if_true, if_false, ite_true, ite_false, Nat.reduceAdd, Nat.reduceSub, Nat.reduceEqDiff, Nat.reduceLeDiff, e, Bool.true_and]
            | false => simp only [mir, bodyR, startT, seqO, setO, retO, ifO, dropO, parO, unpO, getS, op2, callR, consR, asB, notB, andB, orB, andV, orV, truT, blR, iteR, chnR, tupR, lstR, slR, asI, okO, leC, ltC, gtC, geC, isC, isnC, isN, eqC, neC, inC, ninC, lenT, listT, tupleT, isiT, negT, Rs.bind, Rs.bind_ok, List.length_cons, List.length_nil, List.map_cons, List.map_nil, List.replicate, List.set, List.getElem?_cons_zero, List.getElem?_cons_succ, List.nil_append, List.cons_append, if_true, if_false, ite_true, ite_false, Nat.reduceAdd, Nat.reduceSub, Nat.reduceEqDiff, Nat.reduceLeDiff, e, Bool.false_and, Bool.false_eq_true]
        rw [q]
        have q2 : op2 eqC (.ok (.lst ((sgnT z).filter fun t => !letV t))) (.ok (.lst [])) = .ok (.bl ((sgnT z).all letV)) := by
          have m1 : ∀ t ∈ (sgnT z).filter (fun t => !letV t), plT t = true ∧ dT t ≤ 0 := fun t m => by
            obtain ⟨c, rfl⟩ := sgn_mem (List.mem_filter.mp m).1
            exact ⟨rfl, Nat.le_refl _⟩
          show eqC _ _ = _
          unfold eqC
          rw [if_pos ⟨plTs_all fun t m => (m1 t m).1, rfl, by rw [dT]; have := dTs_all (n := 0) fun t m => (m1 t m).2; omega⟩, eqT, eqTs_nil, filt_all]
        rw [q2]
        simp only [mir, bodyR, startT, seqO, setO, retO, ifO, dropO, parO, unpO, getS, op2, callR, consR, asB, notB, andB, orB, andV, orV, truT, blR, iteR, chnR, tupR, lstR, slR, asI, okO, leC, ltC, gtC, geC, isC, isnC, isN, eqC, neC, inC, ninC, lenT, listT, tupleT, isiT, negT, Rs.bind, Rs.bind_ok, List.length_cons, List.length_nil, List.map_cons, List.map_nil, List.replicate, List.set, List.getElem?_cons_zero, List.getElem?_cons_succ, List.nil_append, List.cons_append, if_true, if_false, ite_true, ite_false, Nat.reduceAdd, Nat.reduceSub, Nat.reduceEqDiff, Nat.reduceLeDiff, e1, e2, h1, h2, Bool.true_and]
  | ty _ => cases h
  | scr _ => cases h
  | dic _ => cases h
  | _ => rfl
theorem e_lwords (t : Tr) (h : plT t = true) : m_w_is_words [t] = .ok (.bl (wdT t)) := by
  cases t with
  | str z =>
    show bodyR (retO (andV (.ok (.bl true)) (chnR ltC ltC (Rs.ok (.int 0)) (.ok (.int z.length)) (Rs.ok (.int 61))))) = _
    have e1 : decide ((0 : Int) < z.length) = decide ((1 : Int) ≤ z.length) := by rw [decide_eq_decide]; omega
    have e2 : decide ((z.length : Int) < 61) = decide ((z.length : Int) ≤ 60) := by rw [decide_eq_decide]; omega
    unfold wdT
    cases e : decide ((1 : Int) ≤ z.length) with
    | true => simp only [mir, bodyR, startT, seqO, setO, retO, ifO, dropO, parO, unpO, getS, op2, callR, consR, asB, notB, andB, orB, andV, orV, truT, blR, iteR, chnR, tupR, lstR, slR, asI, okO, leC, ltC, gtC, geC, isC, isnC, isN, eqC, neC, inC, ninC, lenT, listT, tupleT, isiT, negT, Rs.bind, Rs.bind_ok, List.length_cons, List.length_nil, List.map_cons, List.map_nil, List.replicate, List.set, List.getElem?_cons_zero, List.getElem?_cons_succ, List.nil_append, List.cons_append, if_true, if_false, ite_true, ite_false, Nat.reduceAdd, Nat.reduceSub, Nat.reduceEqDiff, Nat.reduceLeDiff, e1, e2, e, Bool.true_and]
    | false => simp only [mir, bodyR, startT, seqO, setO, retO, ifO, dropO, parO, unpO, getS, op2, callR, consR, asB, notB, andB, orB, andV, orV, truT, blR, iteR, chnR, tupR, lstR, slR, asI, okO, leC, ltC, gtC, geC, isC, isnC, isN, eqC, neC, inC, ninC, lenT, listT, tupleT, isiT, negT, Rs.bind, Rs.bind_ok, List.length_cons, List.length_nil, List.map_cons, List.map_nil, List.replicate, List.set, List.getElem?_cons_zero, List.getElem?_cons_succ, List.nil_append, List.cons_append, if_true, if_false, ite_true, ite_false, Nat.reduceAdd, Nat.reduceSub, Nat.reduceEqDiff, Nat.reduceLeDiff, e1, e, Bool.false_and, Bool.false_eq_true]
  | ty _ => cases h
  | scr _ => cases h
  | dic _ => cases h
  | _ => rfl
theorem e_lnumber (t : Tr) (h : plT t = true) : m_w_is_number [t] = .ok (.bl (nuT t)) := by
  cases t with
  | int i =>
    show Rs.ok (Tr.bl (decide (0 < i))) = .ok (.bl (decide (1 ≤ i)))
    rw [show decide (0 < i) = decide (1 ≤ i) by rw [decide_eq_decide]; omega]
  | ty _ => cases h
  | scr _ => cases h
  | dic _ => cases h
  | _ => rfl
def isZ : Tr → Bool
  | .str _ => true
  | _ => false
theorem e_isZ (t : Tr) (h : plT t = true) : isiT [t, .ty "str"] = .ok (.bl (isZ t)) := by
  cases t with
  | ty _ => cases h
  | scr _ => cases h
  | dic _ => cases h
  | _ => rfl
theorem inz_no {t : Tr} (zs : List Str) (h : isZ t = false) : inz t zs = false := by
  unfold inz
  rw [List.any_eq_false]
  intro z _
  cases t with
  | str _ => cases h
  | _ => exact Bool.false_ne_true
theorem eqz_no {t : Tr} (z : Str) (h : isZ t = false) : eqT t (.str z) = false := by
  cases t with
  | str _ => cases h
  | _ => rfl
theorem pa_no {w : Tr} (ps : List Tr) (h : isZ w = false) : paT w ps = false := by
  unfold paT twT
  rw [inz_no _ h, inz_no _ h, eqz_no _ h, eqz_no _ h, eqz_no _ h, eqz_no _ h, eqz_no _ h]
  exact Bool.and_false _
theorem isz_and (b : Tr) (zs : List Str) : (isZ b && inz b zs) = inz b zs := by
  cases e : isZ b with
  | true => rfl
  | false => rw [inz_no zs e]; rfl
def dset : List (Key × Tr) := [(.inr "door", .tup [.str "open", .str "asked"]), (.inr "voice", .tup [.str "all", .str "some"]), (.inr "past", .tup [.str "shown", .str "hidden"])]
theorem val_dset (z : Str) : valT dset (.inr z) = (sets.lookup z).map fun zs => Tr.tup (zs.map Tr.str) := by
  have k : ∀ a : Str, decide ((Sum.inr a : Key) = Sum.inr z) = (z == a) := fun a => by
    rw [Bool.eq_iff_iff, decide_eq_true_iff, beq_iff_eq]
    exact ⟨fun e => (Sum.inr.inj e).symm, fun e => by rw [e]⟩
  unfold valT dset sets
  rw [List.find?_cons, List.find?_cons, List.find?_cons, List.lookup_cons, List.lookup_cons, List.lookup_cons]
  rw [k, k, k]
  cases (z == ("door" : Str)) <;> cases (z == ("voice" : Str)) <;> cases (z == ("past" : Str)) <;> rfl
theorem dset_made : dicR (pairR (Rs.ok (.str "door")) (tupR (consR (Rs.ok (.str "open")) (consR (Rs.ok (.str "asked")) (.ok [])))) (pairR (Rs.ok (.str "voice")) (tupR (consR (Rs.ok (.str "all")) (consR (Rs.ok (.str "some")) (.ok [])))) (pairR (Rs.ok (.str "past")) (tupR (consR (Rs.ok (.str "shown")) (consR (Rs.ok (.str "hidden")) (.ok [])))) (Rs.ok [])))) = .ok (.dic dset) := by
  have e : mergeT [] dset = dset := by
    show putT (putT (putT [] (.inr "door") _) (.inr "voice") _) (.inr "past") _ = _
    have n1 : decide ((Sum.inr ("door" : Str) : Key) = Sum.inr ("voice" : Str)) = false := by decide +kernel
    have n2 : decide ((Sum.inr ("door" : Str) : Key) = Sum.inr ("past" : Str)) = false := by decide +kernel
    have n3 : decide ((Sum.inr ("voice" : Str) : Key) = Sum.inr ("past" : Str)) = false := by decide +kernel
    simp only [putT, List.any_nil, List.any_cons, List.nil_append, List.cons_append, n1, n2, n3, Bool.or_false, Bool.false_eq_true, if_false]
    rfl
  show Rs.ok (Tr.dic (mergeT [] dset)) = _
  rw [e]
theorem set_both (a b : Tr) (h : plT b = true) : (isZ a = true → andV (.ok (.bl (isZ b))) (op2 inC (.ok b) (getR2 (.ok (.dic dset)) (.ok a) (.ok (.tup [])))) = .ok (.bl (seT a b))) := by
  intro ha
  cases a with
  | str z =>
    have e1 : getR2 (.ok (.dic dset)) (.ok (.str z)) (.ok (.tup [])) = .ok ((valT dset (.inr z)).getD (.tup [])) := rfl
    have e2 : seT (.str z) b = match sets.lookup z with | some zs => inz b zs | none => false := rfl
    rw [e1, val_dset, e2]
    cases e : sets.lookup z with
    | none =>
      show andV (.ok (.bl (isZ b))) (inC b (.tup (([] : List Str).map Tr.str))) = _
      rw [e_in b [] h, and2, isz_and]
      rfl
    | some zs =>
      show andV (.ok (.bl (isZ b))) (inC b (.tup (zs.map Tr.str))) = _
      rw [e_in b zs h, and2, isz_and]
  | _ => cases ha
theorem dDrop : ∀ (ps : List Tr) (k : Nat), dTs (ps.drop k) ≤ dTs ps
  | _, 0 => Nat.le_refl _
  | [], _ + 1 => Nat.le_refl _
  | p :: ps, k + 1 => by
    show dTs (ps.drop k) ≤ max (dT p) (dTs ps)
    exact Nat.le_trans (dDrop ps k) (Nat.le_max_right _ _)
theorem or_not {x : Bool} {r : Rs Bool} {y : Bool} (h : x = true → r = .ok y) : orB (notB (.ok x)) r = .ok (!x || y) := by
  cases x with
  | false => rfl
  | true => rw [h rfl]; rfl
theorem ifgo {b : Bool} {G1 : Rs Out} {ρ : Rho} {G : Rho → Rs Out} : bodyR (seqO (ifO (.ok b) G1 (.ok (.nx ρ))) G) = if b = true then bodyR (seqO G1 G) else bodyR (G ρ) := by cases b <;> rfl
theorem e_ne2 (n : Int) : neC (.int n) (.int 2) = .ok (.bl (!(n == 2))) := rfl
theorem e_lrow (t : Tr) (h : plT t = true) (hd : dT t ≤ 40) : m_w_is_row [t] = .ok (.bl (rwT t)) := by
  cases t with
  | tup ts =>
    rw [dT] at hd
    have hp : plTs ts = true := h
    have e0 : rwT (.tup ts) = rwL ts := rfl
    rw [e0]
    unfold rwL
    show bodyR (seqO (ifO (orB (.ok false) (orB (.ok (decide ((ts.length : Int) < 3))) (orB (notB ((callR m_w_is_number (consR (ixT (.tup ts) (.int ((0 : Nat) : Int))) (.ok []))).bind truT)) (notB ((callR m_w_is_name (consR (ixT (.tup ts) (.int ((1 : Nat) : Int))) (.ok []))).bind truT))))) (retO (Rs.ok (.bl false))) (.ok (.nx [.sh (.tup ts), .no, .no, .no]))) _) = _
    by_cases h3 : 3 ≤ ts.length
    rotate_left
    · rw [decide_eq_true (show (ts.length : Int) < 3 by omega), decide_eq_false h3]
      rfl
    rw [decide_eq_false (show ¬ (ts.length : Int) < 3 by omega), decide_eq_true h3, atK ts 0 (by omega), atK ts 1 (by omega)]
    show bodyR (seqO (ifO (orB (.ok false) (orB (.ok false) (orB (notB ((m_w_is_number [ts.getD 0 .non]).bind truT)) (notB ((m_w_is_name [ts.getD 1 .non]).bind truT))))) (retO (Rs.ok (.bl false))) (.ok (.nx [.sh (.tup ts), .no, .no, .no]))) _) = _
    rw [e_lnumber _ (plD hp 0), e_lname _ (plD hp 1)]
    cases e1 : nuT (ts.getD 0 .non) with
    | false => rfl
    | true =>
    cases e2 : nmT (ts.getD 1 .non) with
    | false => rfl
    | true =>
    show bodyR (seqO (parO 1 2 (consR (ixT (.tup ts) (.int ((2 : Nat) : Int))) (consR (slT (.tup ts) (some ((3 : Nat) : Int)) none) (.ok []))) [.sh (.tup ts), .no, .no, .no]) _) = _
    rw [atK ts 2 (by omega), slD ts 3 (by omega) h3, Bool.true_and, Bool.true_and, Bool.true_and]
    have hw := plD hp 2
    have hdw : dT (ts.getD 2 .non) ≤ 39 := Nat.le_trans (dD 2) (by omega)
    have hps := plDrop 3 hp
    have hdp : dTs (ts.drop 3) ≤ 39 := Nat.le_trans (dDrop ts 3) (by omega)
    generalize ts.getD 2 .non = w at hw hdw
    generalize ts.drop 3 = ps at hps hdp
    show bodyR (seqO (ifO (notB ((isiT [w, .ty "str"]).bind truT)) (retO (Rs.ok (.bl false))) (.ok (.nx [.sh (.tup ts), .sh w, .sh (.tup ps), .no]))) _) = _
    rw [e_isZ w hw]
    cases ez : isZ w with
    | false => rw [pa_no ps ez]; rfl
    | true =>
    have r1 : inC w (.tup [.str "found", .str "enter", .str "leave"]) = _ := e_in w bare hw
    have r2 : inC w (.tup [.str "ask", .str "unbar", .str "out", .str "bar"]) = _ := e_in w whom hw
    unfold paT
    show bodyR (seqO (ifO (asB (inC w (.tup [.str "found", .str "enter", .str "leave"]))) (retO (eqC (.tup ps) (.tup []))) (.ok (.nx [.sh (.tup ts), .sh w, .sh (.tup ps), .no]))) _) = _
    have q1 : eqC (.tup ps) (.tup []) = .ok (.bl ((ps.length : Int) == 0)) := by
      unfold eqC
      rw [if_pos ⟨hps, rfl, by rw [dT]; omega⟩, eqT, eqTs_nil]
      cases ps <;> rfl
    rw [r1, q1]
    show bodyR (seqO (ifO (.ok (inz w bare)) _ _) _) = _
    rw [ifret]
    cases c1 : inz w bare with
    | true => rfl
    | false =>
    rw [if_neg Bool.false_ne_true, if_neg Bool.false_ne_true]
    show bodyR (seqO (ifO (asB (inC w (.tup [.str "ask", .str "unbar", .str "out", .str "bar"]))) (retO (andV (.ok (.bl ((ps.length : Int) == 1))) (callR m_w_is_name (consR (ixT (.tup ps) (.int 0)) (.ok []))))) (.ok (.nx [.sh (.tup ts), .sh w, .sh (.tup ps), .no]))) _) = _
    rw [r2, and3 (y := nmT (ps.getD 0 .non)) (fun e => by rw [at0 ps (.inl e)]; exact e_lname _ (plD hps 0))]
    show bodyR (seqO (ifO (.ok (inz w whom)) _ _) _) = _
    rw [ifret]
    cases c2 : inz w whom with
    | true => rfl
    | false =>
    rw [if_neg Bool.false_ne_true, if_neg Bool.false_ne_true]
    show bodyR (seqO (ifO (asB (eqC w (.str "gone"))) (retO (andV (.ok (.bl ((ps.length : Int) == 1))) (callR m_w_is_number (consR (ixT (.tup ps) (.int 0)) (.ok []))))) (.ok (.nx [.sh (.tup ts), .sh w, .sh (.tup ps), .no]))) _) = _
    rw [e_eq w _ hw (by omega), and3 (y := nuT (ps.getD 0 .non)) (fun e => by rw [at0 ps (.inl e)]; exact e_lnumber _ (plD hps 0))]
    show bodyR (seqO (ifO (.ok (eqT w (.str "gone"))) _ _) _) = _
    rw [ifret]
    cases c3 : eqT w (.str "gone") with
    | true => rfl
    | false =>
    rw [if_neg Bool.false_ne_true, if_neg Bool.false_ne_true]
    show bodyR (seqO (ifO (.ok (!((ps.length : Int) == 2))) (retO (Rs.ok (.bl false))) (.ok (.nx [.sh (.tup ts), .sh w, .sh (.tup ps), .no]))) _) = _
    rw [ifret]
    cases c4 : ((ps.length : Int) == 2) with
    | false => rfl
    | true =>
    rw [Bool.not_true, if_neg Bool.false_ne_true, Bool.true_and]
    have x0 := at0 ps (.inr c4)
    have x1 := at1 ps c4
    have pa := plD hps 0
    have pb := plD hps 1
    generalize ps.getD 0 .non = a at x0 pa
    generalize ps.getD 1 .non = b at x1 pb
    unfold twT
    show bodyR (seqO (ifO (asB (eqC w (.str "set"))) (seqO (setO 3 (dicR (pairR (Rs.ok (.str "door")) (tupR (consR (Rs.ok (.str "open")) (consR (Rs.ok (.str "asked")) (.ok [])))) (pairR (Rs.ok (.str "voice")) (tupR (consR (Rs.ok (.str "all")) (consR (Rs.ok (.str "some")) (.ok [])))) (pairR (Rs.ok (.str "past")) (tupR (consR (Rs.ok (.str "shown")) (consR (Rs.ok (.str "hidden")) (.ok [])))) (Rs.ok []))))) [.sh (.tup ts), .sh w, .sh (.tup ps), .no]) _) (.ok (.nx [.sh (.tup ts), .sh w, .sh (.tup ps), .no]))) _) = _
    rw [e_eq w _ hw (by omega), dset_made]
    show bodyR (seqO (ifO (.ok (eqT w (.str "set"))) (retO (andV (callR isiT (consR (ixT (.tup ps) (.int 0)) (consR (Rs.ok (.ty "str")) (.ok [])))) (andV (callR isiT (consR (ixT (.tup ps) (.int 1)) (consR (Rs.ok (.ty "str")) (.ok [])))) (op2 inC (ixT (.tup ps) (.int 1)) (getR2 (.ok (.dic dset)) (ixT (.tup ps) (.int 0)) (.ok (.tup []))))))) (.ok (.nx [.sh (.tup ts), .sh w, .sh (.tup ps), .no]))) _) = _
    rw [x0, x1]
    have q5 : andV (callR isiT (consR (.ok a) (consR (Rs.ok (.ty "str")) (.ok [])))) (andV (callR isiT (consR (.ok b) (consR (Rs.ok (.ty "str")) (.ok [])))) (op2 inC (.ok b) (getR2 (.ok (.dic dset)) (.ok a) (.ok (.tup []))))) = .ok (.bl (isZ a && seT a b)) := by
      show andV (isiT [a, .ty "str"]) (andV (isiT [b, .ty "str"]) _) = _
      rw [e_isZ a pa, e_isZ b pb]
      exact and3 (set_both a b pb)
    have q6 : (isZ a && seT a b) = seT a b := by cases a <;> rfl
    rw [q5, q6, ifret]
    cases c5 : eqT w (.str "set") with
    | true => rfl
    | false =>
    rw [if_neg Bool.false_ne_true, if_neg Bool.false_ne_true]
    have r3 : inC b (.tup [.str "guest", .str "speaker", .str "keeper", .str "owner"]) = _ := e_in b rls pb
    show bodyR (seqO (ifO (asB (eqC w (.str "role"))) (retO (andV (callR m_w_is_name (consR (ixT (.tup ps) (.int 0)) (.ok []))) (andV (callR isiT (consR (ixT (.tup ps) (.int 1)) (consR (Rs.ok (.ty "str")) (.ok [])))) (op2 inC (ixT (.tup ps) (.int 1)) (.ok (.tup [.str "guest", .str "speaker", .str "keeper", .str "owner"])))))) (.ok (.nx [.sh (.tup ts), .sh w, .sh (.tup ps), .no]))) _) = _
    rw [e_eq w _ hw (by omega), x0, x1]
    show bodyR (seqO (ifO (.ok (eqT w (.str "role"))) (retO (andV (m_w_is_name [a]) (andV (isiT [b, .ty "str"]) (inC b (.tup [.str "guest", .str "speaker", .str "keeper", .str "owner"]))))) _) _) = _
    rw [e_lname a pa, e_isZ b pb, r3, and2, isz_and, and2, ifret]
    cases c6 : eqT w (.str "role") with
    | true => rfl
    | false =>
    rw [if_neg Bool.false_ne_true, if_neg Bool.false_ne_true]
    show bodyR (seqO (ifO (asB (eqC w (.str "say"))) (retO (andV (callR m_w_is_words (consR (ixT (.tup ps) (.int 0)) (.ok []))) (orV (op2 isC (ixT (.tup ps) (.int 1)) (Rs.ok .non)) (callR m_w_is_number (consR (ixT (.tup ps) (.int 1)) (.ok [])))))) (.ok (.nx [.sh (.tup ts), .sh w, .sh (.tup ps), .no]))) _) = _
    rw [e_eq w _ hw (by omega), x0, x1]
    have q7 : orV (op2 isC (.ok b) (Rs.ok .non)) (callR m_w_is_number (consR (.ok b) (.ok []))) = .ok (.bl (anT b)) := by
      show orV (isC b .non) (m_w_is_number [b]) = _
      rw [e_lnumber b pb]
      cases b <;> first | rfl | cases pb
    rw [q7]
    show bodyR (seqO (ifO (.ok (eqT w (.str "say"))) (retO (andV (m_w_is_words [a]) (.ok (.bl (anT b))))) _) _) = _
    rw [e_lwords a pa, and2, ifret]
    cases c7 : eqT w (.str "say") with
    | true => rfl
    | false =>
    rw [if_neg Bool.false_ne_true, if_neg Bool.false_ne_true]
    show bodyR (retO (andV (eqC w (.str "mend")) (andV (callR m_w_is_number (consR (ixT (.tup ps) (.int 0)) (.ok []))) (callR m_w_is_words (consR (ixT (.tup ps) (.int 1)) (.ok [])))))) = _
    rw [e_eq w _ hw (by omega), x0, x1]
    show bodyR (retO (andV (.ok (.bl (eqT w (.str "mend")))) (andV (m_w_is_number [a]) (m_w_is_words [b])))) = _
    rw [e_lnumber a pa, e_lwords b pb, and2, and2]
    cases c8 : eqT w (.str "mend") <;> rfl
  | ty _ => cases h
  | scr _ => cases h
  | dic _ => cases h
  | _ => rfl
end M3

namespace M3
open PySem L2
def mix (c p m : Int) : Int := (c * 48271 % p) * (c * 48271 % p + 7) % p % m
theorem mix_in {c p m : Int} (hm : 0 < m) : 0 ≤ mix c p m ∧ mix c p m < m := ⟨Int.emod_nonneg _ (by omega), Int.emod_lt_of_pos _ hm⟩
theorem mul_ok {i j : Int} (h : mulOk i j) : mulT (.int i) (.int j) = .ok (.int (i * j)) := if_pos h
theorem mod_ok {i j : Int} (h : 0 < j) : modT (.int i) (.int j) = .ok (.int (i % j)) := if_pos h
theorem rng1_eq (j : Int) : rng1W (.ok [.int j]) = if -4611686018427387904 ≤ j ∧ j < 4611686018427387904 then .ok (rngT 0 j.toNat) else .bad := rfl
theorem rng2_eq (i j : Int) : rng2W (.ok [.int i, .int j]) = if -4611686018427387904 ≤ i ∧ i < 4611686018427387904 ∧ -4611686018427387904 ≤ j ∧ j < 4611686018427387904 then .ok (rngT i (j - i).toNat) else .bad := rfl
theorem lcR_ok {ix : List (Option Nat)} {T : Tgt} {A : Rho → Rs Bool} {F : Rho → Rs Tr} {ts : List Tr} {ρ : Rho} (h : ts.length ≤ szT) : lcR ix T A F (.ok ts) ρ = (lcL T A F ts (lcRho ix ρ)).bind fun ys => .ok (.lst ys) := if_pos h
theorem e_mix (c p m : Int) (hp : 0 < p) (hp2 : p ≤ 1048576) (hm : 0 < m) : m_w_mix [.int c, .int p, .int m] = .ok (.int (mix c p m)) := by
  have b0 : 0 ≤ c * 48271 % p := Int.emod_nonneg _ (by omega)
  have b1 : c * 48271 % p < p := Int.emod_lt_of_pos _ hp
  show bodyR (seqO (setO 3 (op2 modT (mulT (.int c) (.int 48271)) (.ok (.int p))) [.sh (.int c), .sh (.int p), .sh (.int m), .no]) fun ρ => retO (op2 modT (op2 modT (op2 mulT (getS ρ 3) (op2 addT (getS ρ 3) (Rs.ok (.int 7)))) (getS ρ 1)) (getS ρ 2))) = _
  have q1 : mulT (.int c) (.int 48271) = .ok (.int (c * 48271)) := if_pos (.inr ⟨by decide, by decide⟩)
  rw [q1]
  have q2 : op2 modT (.ok (.int (c * 48271))) (.ok (.int p)) = .ok (.int (c * 48271 % p)) := if_pos hp
  rw [q2]
  show bodyR (retO (op2 modT (op2 modT (mulT (.int (c * 48271 % p)) (.int (c * 48271 % p + 7))) (.ok (.int p))) (.ok (.int m)))) = _
  have q3 : mulT (.int (c * 48271 % p)) (.int (c * 48271 % p + 7)) = .ok (.int ((c * 48271 % p) * (c * 48271 % p + 7))) := if_pos (.inl ⟨by omega, by omega⟩)
  rw [q3]
  have q4 : op2 modT (.ok (.int ((c * 48271 % p) * (c * 48271 % p + 7)))) (.ok (.int p)) = .ok (.int ((c * 48271 % p) * (c * 48271 % p + 7) % p)) := if_pos hp
  rw [q4]
  have q5 : op2 modT (.ok (.int ((c * 48271 % p) * (c * 48271 % p + 7) % p))) (.ok (.int m)) = .ok (.int (mix c p m)) := if_pos hm
  rw [q5]
  rfl
theorem e_cell (ns : List Int) (k : Int) (h : 0 ≤ k) : ∃ c, m_w_cell [.scr ns, .int k] = .ok (.int c) := by
  show ∃ c, bodyR (seqO (ifO (.ok (decide (k < (ns.length : Int)))) (retO ((okO (L2.atI ns k)).bind fun n => .ok (.int n))) (.ok (.nx [.sh (.scr ns), .sh (.int k)]))) fun ρ => retO (Rs.ok (.int 0))) = _
  by_cases hk : k < (ns.length : Int)
  · have hl : k.toNat < ns.length := by omega
    have e : L2.atI ns k = some (ns[k.toNat]) := by
      have q := atI_nat (xs := ns) (j := k.toNat) (List.getElem?_eq_getElem hl)
      rw [Int.toNat_of_nonneg h] at q
      exact q
    rw [decide_eq_true hk, e]
    exact ⟨_, rfl⟩
  · rw [decide_eq_false hk]
    exact ⟨0, rfl⟩
def some12 : List Str := ["hi", "@ann hi", "@bo @ann", "hi @cy", "@ann,", "@@ann", "a@ann", "\"", "@ed @ed x", "@", "@annabel", "@zed"]
def sgns : Str := " !\"#$&'()*+,-./0123456789:;<=>?@ABCDEFGHIJKLMNOPQRSTUVWXYZ[\\]^_`abcdefghijklmnopqrstuvwxyz{|}~"
theorem sgns_len : sgns.length = 94 := by decide +kernel
theorem sgns_cps : sgns.cps.toList.length = 94 := by decide +kernel
theorem len12 : ∀ i, i < 12 → 1 ≤ (some12.getD i "").length ∧ (some12.getD i "").length ≤ 60 := by decide +kernel
def signAt (c : Int) (k : Nat) : Str := ⟨#[sgns.cps.toList.getD (mix (c + 7 * (0 + (k : Int))) 9941 94).toNat 0]⟩
theorem atIn {α : Type} {xs : List α} {i : Int} (d : α) (h0 : 0 ≤ i) (h1 : i < (xs.length : Int)) : L2.atI xs i = some (xs.getD i.toNat d) := by
  have hk : i.toNat < xs.length := by omega
  have q : xs[i.toNat]? = some (xs.getD i.toNat d) := by
    rw [List.getElem?_eq_getElem hk, List.getD_eq_getElem?_getD, List.getElem?_eq_getElem hk]
    rfl
  have q2 := atI_nat q
  rw [Int.toNat_of_nonneg h0] at q2
  exact q2
def GW (t : Rs Tr) : Prop := ∃ z : Str, t = .ok (.str z) ∧ 1 ≤ z.length ∧ z.length ≤ 60
theorem strs_map (f : Nat → Str) : ∀ l : List Nat, strsL (l.map fun k => Tr.str (f k)) = .ok (l.map f)
  | [] => rfl
  | k :: l => by rw [List.map_cons, strsL, strs_map f l]; rfl
theorem gw_join (c : Int) (n : Nat) (h1 : 1 ≤ n) (h2 : n ≤ 60) (tl : List Cell) : GW (mS joinM (Rs.ok (.str "")) (consR (lcR [none, some 1, some 0] (gN 0) (fun _ => .ok true) (fun ρ => (op2 ixT (getS ρ 1) (callR m_w_mix (consR (op2 addT (getS ρ 2) (op2 mulT (Rs.ok (.int 7)) (getS ρ 0))) (consR (Rs.ok (.int 9941)) (consR (callR lenT (consR (getS ρ 1) (.ok []))) (.ok []))))))) (rng1W (.ok [.int (n : Int)])) (.sh (.int c) :: .sh (.str sgns) :: tl)) (.ok []))) := by
  have e1 : rng1W (.ok [.int (n : Int)]) = .ok (rngT 0 n) := by
    rw [rng1_eq, if_pos ⟨by omega, by omega⟩, Int.toNat_natCast]
  have e2 : lcR [none, some 1, some 0] (gN 0) (fun _ => .ok true) (fun ρ => (op2 ixT (getS ρ 1) (callR m_w_mix (consR (op2 addT (getS ρ 2) (op2 mulT (Rs.ok (.int 7)) (getS ρ 0))) (consR (Rs.ok (.int 9941)) (consR (callR lenT (consR (getS ρ 1) (.ok []))) (.ok []))))))) (.ok (rngT 0 n)) (.sh (.int c) :: .sh (.str sgns) :: tl) = .ok (.lst ((List.range n).map fun k => Tr.str (signAt c k))) := by
    rw [lcR_ok (by rw [rngT_length]; unfold szT; omega)]
    show (lcL (gN 0) _ _ (rngT 0 n) (.no :: [.sh (.str sgns), .sh (.int c)])).bind _ = _
    rw [lcM (f := fun t => match t with | .int k => .str (signAt c k.toNat) | t => t) (rngT 0 n) .no fun t m => ?_]
    · refine congrArg (fun l => Rs.ok (Tr.lst l)) ?_
      unfold rngT
      rw [List.map_map]
      refine List.map_congr_left fun k _ => ?_
      show Tr.str (signAt c ((0 : Int) + (k : Int)).toNat) = _
      rw [Int.zero_add, Int.toNat_natCast]
    · unfold rngT at m
      obtain ⟨k, _, rfl⟩ := List.mem_map.mp m
      have e3 : mulT (.int 7) (.int (0 + (k : Int))) = .ok (.int (7 * (0 + (k : Int)))) := mul_ok (.inl ⟨by decide, by decide⟩)
      show op2 ixT (.ok (.str sgns)) (callR m_w_mix (consR (op2 addT (.ok (.int c)) (mulT (.int 7) (.int (0 + (k : Int))))) (consR (Rs.ok (.int 9941)) (consR (.ok (.int (sgns.length : Int))) (.ok []))))) = _
      rw [e3, sgns_len]
      show op2 ixT (.ok (.str sgns)) (m_w_mix [.int (c + 7 * (0 + (k : Int))), .int 9941, .int 94]) = _
      rw [e_mix _ _ _ (by decide) (by decide) (by decide)]
      obtain ⟨m0, m1⟩ := mix_in (c := c + 7 * (0 + (k : Int))) (p := 9941) (m := 94) (by decide)
      show (okO (L2.atI sgns.cps.toList (mix (c + 7 * (0 + (k : Int))) 9941 94))).bind (fun ch => Rs.ok (Tr.str ⟨#[ch]⟩)) = .ok (.str (signAt c (0 + (k : Int)).toNat))
      rw [atIn 0 m0 (by rw [sgns_cps]; exact m1), Int.zero_add, Int.toNat_natCast]
      show Rs.ok (Tr.str ⟨#[sgns.cps.toList.getD (mix (c + 7 * (k : Int)) 9941 94).toNat 0]⟩) = _
      unfold signAt
      rw [Int.zero_add]
  rw [e1, e2]
  have e4 : (Txt.join ("" : Str) ((List.range n).map (signAt c))).length = n := by
    have q := PySem.W.KT.join_ones ((List.range n).map (signAt c)) fun a ha => by obtain ⟨j, _, rfl⟩ := List.mem_map.mp ha; rfl
    rw [List.length_map, List.length_range] at q
    exact q
  have jo : JoinOk "" ((List.range n).map (signAt c)) = true := by
    have q := PyProof.Rows.joinOk_few (sep := "") (as := List.range n) (pz := fun _ => true) (f := signAt c) (by rw [List.length_range]; omega) (fun a => by show 1 ≤ _; decide) (by decide)
    rw [show (List.range n).filter (fun _ => true) = List.range n by rw [List.filter_eq_self]; intros; rfl] at q
    exact q
  refine ⟨_, ?_, by rw [e4]; exact h1, by rw [e4]; exact h2⟩
  show (strsL ((List.range n).map fun k => Tr.str (signAt c k))).bind (fun zs => if JoinOk "" zs = true ∧ (Txt.join "" zs).length ≤ txMax then Rs.ok (Tr.str (Txt.join "" zs)) else .bad) = _
  rw [strs_map]
  show (if JoinOk "" ((List.range n).map (signAt c)) = true ∧ (Txt.join "" ((List.range n).map (signAt c))).length ≤ txMax then _ else _) = _
  rw [if_pos ⟨jo, by rw [e4]; unfold txMax; omega⟩]
theorem e_lw (c : Int) : GW (m_w_words [.int c]) := by
  have e3 : modT (.int c) (.int 3) = .ok (.int (c % 3)) := mod_ok (by decide)
  show GW (bodyR (seqO (ifO (asB (op2 eqC (modT (.int c) (.int 3)) (Rs.ok (.int 0)))) (seqO (.ok (.nx [.sh (.int c), .sh (.str sgns), .sh (.tup ([.str "hi", .str "@ann hi", .str "@bo @ann", .str "hi @cy", .str "@ann,", .str "@@ann", .str "a@ann", .str "\""])), .no])) _) (.ok (.nx [.sh (.int c), .sh (.str sgns), .no, .no]))) _))
  rw [e3]
  show GW (bodyR (seqO (ifO (.ok (c % 3 == 0)) _ _) _))
  rw [ifgo]
  cases h3 : (c % 3 == 0) with
  | true =>
    rw [if_pos rfl]
    obtain ⟨m0, m1⟩ := mix_in (c := c) (p := 9973) (m := 12) (by decide)
    have q : op2 ixT (.ok (.tup (some12.map Tr.str))) (m_w_mix [.int c, .int 9973, .int 12]) = .ok (.str (some12.getD (mix c 9973 12).toNat "")) := by
      rw [e_mix _ _ _ (by decide) (by decide) (by decide)]
      show okO (L2.atI (some12.map Tr.str) (mix c 9973 12)) = _
      rw [atI_map, atIn (xs := some12) "" m0 m1]
      rfl
    obtain ⟨l1, l2⟩ := len12 (mix c 9973 12).toNat (by omega)
    refine ⟨_, ?_, l1, l2⟩
    show bodyR (seqO (retO (op2 ixT (.ok (.tup (some12.map Tr.str))) (m_w_mix [.int c, .int 9973, .int 12]))) _) = _
    rw [q]
    rfl
  | false =>
    rw [if_neg Bool.false_ne_true]
    show GW (bodyR (seqO (setO 3 (op2 addT (Rs.ok (.int 1)) (m_w_mix [.int c, .int 9967, .int 6])) [.sh (.int c), .sh (.str sgns), .no, .no]) _))
    rw [e_mix _ _ _ (by decide) (by decide) (by decide)]
    obtain ⟨b0, b1⟩ := mix_in (c := c) (p := 9967) (m := 6) (by decide)
    show GW (bodyR (seqO (ifO (asB (op2 eqC (m_w_mix [.int c, .int 9949, .int 9]) (Rs.ok (.int 0)))) (setO 3 (Rs.ok (.int 60)) [.sh (.int c), .sh (.str sgns), .no, .sh (.int (1 + mix c 9967 6))]) (.ok (.nx [.sh (.int c), .sh (.str sgns), .no, .sh (.int (1 + mix c 9967 6))]))) _))
    rw [e_mix _ _ _ (by decide) (by decide) (by decide)]
    show GW (bodyR (seqO (ifO (.ok (mix c 9949 9 == 0)) _ _) _))
    rw [ifgo]
    have fin : ∀ r : Rs Tr, GW r → GW (bodyR (retO r)) := fun r ⟨z, e, l⟩ => ⟨z, by rw [e]; rfl, l⟩
    cases h9 : (mix c 9949 9 == 0) with
    | true =>
      rw [if_pos rfl]
      exact fin _ (gw_join c 60 (by decide) (by decide) [.no, .sh (.int 60)])
    | false =>
      rw [if_neg Bool.false_ne_true]
      have q := fin _ (gw_join c (1 + mix c 9967 6).toNat (by omega) (by omega) [.no, .sh (.int (1 + mix c 9967 6))])
      rw [Int.toNat_of_nonneg (by omega)] at q
      exact q
end M3

namespace M3
open PySem L2
def nms : List Str := ["ann", "bo", "abcdef"]
def six : List (Str × Str) := [("door", "open"), ("door", "asked"), ("voice", "all"), ("voice", "some"), ("past", "shown"), ("past", "hidden")]
inductive GP : Str → List Tr → Prop where
  | bare {w : Str} (h : w ∈ M3.bare) : GP w []
  | set {p : Str × Str} (h : p ∈ six) : GP "set" [.str p.1, .str p.2]
  | whom {w x : Str} (h : w ∈ M3.whom) (hx : x ∈ nms) : GP w [.str x]
  | role {x r : Str} (hx : x ∈ nms) (hr : r ∈ rls) : GP "role" [.str x, .str r]
  | say {z : Str} {a : Tr} (h1 : 1 ≤ z.length) (h2 : z.length ≤ 60) (ha : a = .non ∨ ∃ n, a = .int n ∧ 1 ≤ n) : GP "say" [.str z, a]
  | mend {n : Int} {z : Str} (hn : 1 ≤ n) (h1 : 1 ≤ z.length) (h2 : z.length ≤ 60) : GP "mend" [.int n, .str z]
  | gone {n : Int} (hn : 1 ≤ n) : GP "gone" [.int n]
def Good (t : Tr) : Prop := ∃ n who w ps, t = .tup (.int n :: .str who :: .str w :: ps) ∧ 1 ≤ n ∧ who ∈ nms ∧ GP w ps
theorem pick (zs : List Str) (i : Int) (h0 : 0 ≤ i) (h1 : i < (zs.length : Int)) : ∃ z, ixT (.tup (zs.map Tr.str)) (.int i) = .ok (.str z) ∧ z ∈ zs := by
  refine ⟨zs.getD i.toNat "", ?_, ?_⟩
  · show okO (L2.atI (zs.map Tr.str) i) = _
    rw [atI_map, atIn (xs := zs) "" h0 h1]
    rfl
  · have hk : i.toNat < zs.length := by omega
    rw [List.getD_eq_getElem?_getD, List.getElem?_eq_getElem hk]
    exact List.getElem_mem hk
theorem pick6 (i : Int) (h0 : 0 ≤ i) (h1 : i < 6) : ∃ p, ixT (.lst (six.map fun p => .tup [.str p.1, .str p.2])) (.int i) = .ok (.tup [.str p.1, .str p.2]) ∧ p ∈ six := by
  refine ⟨six.getD i.toNat ("", ""), ?_, ?_⟩
  · show okO (L2.atI (six.map fun p => Tr.tup [.str p.1, .str p.2]) i) = _
    rw [atI_map, atIn (xs := six) ("", "") h0 h1]
    rfl
  · have hk : i.toNat < six.length := by show _ < 6; omega
    rw [List.getD_eq_getElem?_getD, List.getElem?_eq_getElem hk]
    exact List.getElem_mem hk
theorem retG {r : Rs Tr} {G : Rho → Rs Out} : bodyR (seqO (retO r) G) = r := by
  cases r <;> rfl
theorem retB {r : Rs Tr} : bodyR (retO r) = r := by
  cases r <;> rfl
theorem e_any (c : Int) : ∃ t, m_w_any_row [.int c] = .ok t ∧ Good t := by
  obtain ⟨a0, a1⟩ := mix_in (c := c) (p := 9851) (m := 3) (by decide)
  obtain ⟨x, ex, hx⟩ := pick nms _ a0 a1
  obtain ⟨b0, b1⟩ := mix_in (c := c) (p := 9817) (m := 3) (by decide)
  obtain ⟨who, ew, hw⟩ := pick nms _ b0 b1
  obtain ⟨n0, _⟩ := mix_in (c := c) (p := 9839) (m := 12) (by decide)
  obtain ⟨k0, _⟩ := mix_in (c := c) (p := 9829) (m := 99) (by decide)
  obtain ⟨w0, w1⟩ := mix_in (c := c) (p := 9833) (m := 12) (by decide)
  have M := fun (c p m : Int) (hp : 0 < p) (hp2 : p ≤ 1048576) (hm : 0 < m) => e_mix c p m hp hp2 hm
  show ∃ t, bodyR (seqO (setO 2 (op2 ixT (.ok (.tup (nms.map Tr.str))) (m_w_mix [.int c, .int 9851, .int 3])) [.sh (.int c), .sh (.tup (nms.map Tr.str)), .no, .no, .no, .no, .no]) _) = _ ∧ _
  rw [M _ _ _ (by decide) (by decide) (by decide)]
  show ∃ t, bodyR (seqO (setO 2 (ixT (.tup (nms.map Tr.str)) (.int (mix c 9851 3))) _) _) = _ ∧ _
  rw [ex]
  show ∃ t, bodyR (seqO (setO 3 (op2 addT (Rs.ok (.int 1)) (m_w_mix [.int c, .int 9839, .int 12])) [.sh (.int c), .sh (.tup (nms.map Tr.str)), .sh (.str x), .no, .no, .no, .no]) _) = _ ∧ _
  rw [M _ _ _ (by decide) (by decide) (by decide)]
  show ∃ t, bodyR (seqO (setO 4 (m_w_mix [.int c, .int 9833, .int 12]) [.sh (.int c), .sh (.tup (nms.map Tr.str)), .sh (.str x), .sh (.int (1 + mix c 9839 12)), .no, .no, .no]) _) = _ ∧ _
  rw [M _ _ _ (by decide) (by decide) (by decide)]
  show ∃ t, bodyR (seqO (setO 5 (tupR (consR (op2 addT (Rs.ok (.int 1)) (m_w_mix [.int c, .int 9829, .int 99])) (consR (op2 ixT (.ok (.tup (nms.map Tr.str))) (m_w_mix [.int c, .int 9817, .int 3])) (.ok [])))) [.sh (.int c), .sh (.tup (nms.map Tr.str)), .sh (.str x), .sh (.int (1 + mix c 9839 12)), .sh (.int (mix c 9833 12)), .no, .no]) _) = _ ∧ _
  rw [M _ _ _ (by decide) (by decide) (by decide), M _ _ _ (by decide) (by decide) (by decide)]
  show ∃ t, bodyR (seqO (setO 5 (tupR (consR (.ok (.int (1 + mix c 9829 99))) (consR (ixT (.tup (nms.map Tr.str)) (.int (mix c 9817 3))) (.ok [])))) _) _) = _ ∧ _
  rw [ew]
  generalize hN : 1 + mix c 9839 12 = num
  generalize hn : 1 + mix c 9829 99 = n
  generalize mix c 9833 12 = way at w0 w1
  have num1 : 1 ≤ num := by omega
  have n1 : 1 ≤ n := by omega
  clear hN hn n0 k0 ex ew a0 a1 b0 b1
  have good : ∀ {w : Str} {ps : List Tr}, GP w ps → Good (.tup (.int n :: .str who :: .str w :: ps)) := fun h => ⟨n, who, _, _, rfl, n1, hw, h⟩
  show ∃ t, bodyR (seqO (ifO (.ok (decide (way < 3))) (retO (op2 addT (.ok (.tup [.int n, .str who])) (tupR (consR (ixT (.tup (M3.bare.map Tr.str)) (.int way)) (.ok []))))) (.ok (.nx [.sh (.int c), .sh (.tup (nms.map Tr.str)), .sh (.str x), .sh (.int num), .sh (.int way), .sh (.tup [.int n, .str who]), .no]))) _) = _ ∧ _
  rw [ifgo]
  by_cases h : way < 3
  · rw [if_pos (decide_eq_true h), retG]
    obtain ⟨z, e, m⟩ := pick M3.bare way w0 h
    rw [e]
    exact ⟨_, rfl, good (.bare m)⟩
  rw [if_neg fun z => h (of_decide_eq_true z)]
  show ∃ t, bodyR (seqO (ifO (.ok (way == 3)) (retO (op2 addT (.ok (.tup [.int n, .str who, .str "set"])) (op2 ixT (.ok (.lst (six.map fun p => .tup [.str p.1, .str p.2]))) (m_w_mix [.int c, .int 9811, .int 6])))) (.ok (.nx [.sh (.int c), .sh (.tup (nms.map Tr.str)), .sh (.str x), .sh (.int num), .sh (.int way), .sh (.tup [.int n, .str who]), .no]))) _) = _ ∧ _
  rw [ifgo]
  by_cases h3 : way = 3
  · rw [if_pos (beq_iff_eq.mpr h3), retG, M _ _ _ (by decide) (by decide) (by decide)]
    obtain ⟨c0, c1⟩ := mix_in (c := c) (p := 9811) (m := 6) (by decide)
    obtain ⟨p, e, m⟩ := pick6 _ c0 c1
    have e' : op2 ixT (.ok (.lst (six.map fun p => .tup [.str p.1, .str p.2]))) (.ok (.int (mix c 9811 6))) = _ := e
    rw [e']
    exact ⟨_, rfl, good (.set m)⟩
  rw [if_neg fun z => h3 (beq_iff_eq.mp z)]
  show ∃ t, bodyR (seqO (ifO (.ok (decide (way < 8))) (retO (op2 addT (.ok (.tup [.int n, .str who])) (tupR (consR (ixT (.tup (M3.whom.map Tr.str)) (.int (way - 4))) (consR (.ok (.str x)) (.ok [])))))) (.ok (.nx [.sh (.int c), .sh (.tup (nms.map Tr.str)), .sh (.str x), .sh (.int num), .sh (.int way), .sh (.tup [.int n, .str who]), .no]))) _) = _ ∧ _
  rw [ifgo]
  by_cases h8 : way < 8
  · rw [if_pos (decide_eq_true h8), retG]
    obtain ⟨z, e, m⟩ := pick M3.whom (way - 4) (by omega) (by show way - 4 < 4; omega)
    rw [e]
    exact ⟨_, rfl, good (.whom m hx)⟩
  rw [if_neg fun z => h8 (of_decide_eq_true z)]
  show ∃ t, bodyR (seqO (ifO (.ok (way == 8)) (retO (op2 addT (.ok (.tup [.int n, .str who])) (tupR (consR (Rs.ok (.str "role")) (consR (.ok (.str x)) (consR (op2 ixT (.ok (.tup (rls.map Tr.str))) (m_w_mix [.int c, .int 9803, .int 4])) (.ok []))))))) (.ok (.nx [.sh (.int c), .sh (.tup (nms.map Tr.str)), .sh (.str x), .sh (.int num), .sh (.int way), .sh (.tup [.int n, .str who]), .no]))) _) = _ ∧ _
  rw [ifgo]
  by_cases h9 : way = 8
  · rw [if_pos (beq_iff_eq.mpr h9), retG, M _ _ _ (by decide) (by decide) (by decide)]
    obtain ⟨c0, c1⟩ := mix_in (c := c) (p := 9803) (m := 4) (by decide)
    obtain ⟨z, e, m⟩ := pick rls _ c0 c1
    have e' : op2 ixT (.ok (.tup (rls.map Tr.str))) (.ok (.int (mix c 9803 4))) = _ := e
    rw [e']
    exact ⟨_, rfl, good (.role hx m)⟩
  rw [if_neg fun z => h9 (beq_iff_eq.mp z)]
  show ∃ t, bodyR (seqO (ifO (.ok (way == 9)) (retO (op2 addT (.ok (.tup [.int n, .str who])) (tupR (consR (Rs.ok (.str "say")) (consR (m_w_words [.int (c + 1)]) (consR (op2 ixT (.ok (.tup [.non, .int num])) (modT (.int c) (.int 2))) (.ok []))))))) (.ok (.nx [.sh (.int c), .sh (.tup (nms.map Tr.str)), .sh (.str x), .sh (.int num), .sh (.int way), .sh (.tup [.int n, .str who]), .no]))) _) = _ ∧ _
  rw [ifgo]
  by_cases h10 : way = 9
  · rw [if_pos (beq_iff_eq.mpr h10), retG, mod_ok (by decide)]
    obtain ⟨z, e, l1, l2⟩ := e_lw (c + 1)
    rw [e]
    have h2 : c % 2 = 0 ∨ c % 2 = 1 := by omega
    rcases h2 with h2 | h2
    · rw [h2]
      exact ⟨_, rfl, good (.say l1 l2 (.inl rfl))⟩
    · rw [h2]
      exact ⟨_, rfl, good (.say l1 l2 (.inr ⟨num, rfl, num1⟩))⟩
  rw [if_neg fun z => h10 (beq_iff_eq.mp z)]
  show ∃ t, bodyR (seqO (ifO (.ok (way == 10)) (retO (op2 addT (.ok (.tup [.int n, .str who])) (tupR (consR (Rs.ok (.str "mend")) (consR (.ok (.int num)) (consR (m_w_words [.int (c + 2)]) (.ok []))))))) (.ok (.nx [.sh (.int c), .sh (.tup (nms.map Tr.str)), .sh (.str x), .sh (.int num), .sh (.int way), .sh (.tup [.int n, .str who]), .no]))) _) = _ ∧ _
  rw [ifgo]
  by_cases h11 : way = 10
  · rw [if_pos (beq_iff_eq.mpr h11), retG]
    obtain ⟨z, e, l1, l2⟩ := e_lw (c + 2)
    rw [e]
    exact ⟨_, rfl, good (.mend num1 l1 l2)⟩
  rw [if_neg fun z => h11 (beq_iff_eq.mp z)]
  exact ⟨_, rfl, good (.gone num1)⟩
end M3

namespace M3
open PySem L2
structure Bad (b : Tr) : Prop where
  pl : plT b = true
  dp : dT b ≤ 40
  no : rwT b = false
theorem bad_len {ts : List Tr} (h : ts.length < 3) : rwT (.tup ts) = false := by
  show rwL ts = false
  unfold rwL
  rw [decide_eq_false (by omega), Bool.false_and]
theorem bad_num {ts : List Tr} (h : nuT (ts.getD 0 .non) = false) : rwT (.tup ts) = false := by
  show rwL ts = false
  unfold rwL
  rw [h, Bool.false_and, Bool.and_false]
theorem bad_name {ts : List Tr} (h : nmT (ts.getD 1 .non) = false) : rwT (.tup ts) = false := by
  show rwL ts = false
  unfold rwL
  rw [h, Bool.false_and, Bool.and_false, Bool.and_false]
theorem bad_parts {ts : List Tr} (h : paT (ts.getD 2 .non) (ts.drop 3) = false) : rwT (.tup ts) = false := by
  show rwL ts = false
  unfold rwL
  rw [h, Bool.and_false, Bool.and_false, Bool.and_false]
theorem and_no {x y : Bool} (h : y = false) : (x && y) = false := by rw [h, Bool.and_false]
theorem all_cons {P : Tr → Prop} {x : Tr} {xs : List Tr} (h : P x) (r : ∀ b ∈ xs, P b) : ∀ b ∈ x :: xs, P b := fun b m => by
  rcases List.mem_cons.mp m with rfl | m
  · exact h
  · exact r b m
theorem all_nil {P : Tr → Prop} : ∀ b ∈ ([] : List Tr), P b := fun b m => nomatch m
theorem exS {i : Nat} {r : Rs Tr} {t : Tr} {ρ : Rho} {G : Rho → Rs Out} {P : List Tr → Prop} (h : r = .ok t) (q : ∃ bs, bodyR (G (ρ.set i (.sh t))) = .ok (.lst bs) ∧ P bs) : ∃ bs, bodyR (seqO (setO i r ρ) G) = .ok (.lst bs) ∧ P bs := by
  rw [h]; exact q
theorem exL {T : Tgt} {G0 G : Rho → Rs Out} {l : Rs (List Tr)} {ts : List Tr} {ρ ρ2 : Rho} {P : List Tr → Prop} (h : l = .ok ts) (h2 : forO T G0 ts ρ = .ok (.nx ρ2)) (q : ∃ bs, bodyR (G ρ2) = .ok (.lst bs) ∧ P bs) : ∃ bs, bodyR (seqO (loopO T G0 l ρ) G) = .ok (.lst bs) ∧ P bs := by
  rw [h]
  show ∃ bs, bodyR (seqO (forO T G0 ts ρ) G) = _ ∧ _
  rw [h2]; exact q
theorem for1 {i : Nat} {G0 : Rho → Rs Out} {t : Tr} {ts : List Tr} {ρ ρ1 : Rho} {o : Rs Out} (h : G0 (ρ.set i (.sh t)) = .ok (.nx ρ1)) (q : forO (gN i) G0 ts ρ1 = o) : forO (gN i) G0 (t :: ts) ρ = o := by
  rw [forO]
  show (G0 (ρ.set i (.sh t))).bind _ = _
  rw [h]; exact q
theorem sqS {i : Nat} {r : Rs Tr} {t : Tr} {ρ : Rho} {G : Rho → Rs Out} {o : Rs Out} (h : r = .ok t) (q : G (ρ.set i (.sh t)) = o) : seqO (setO i r ρ) G = o := by
  rw [h]; exact q
theorem sqI {c : Rs Bool} {b : Bool} {r : Rs Out} {ρ ρ' : Rho} {G : Rho → Rs Out} {o : Rs Out} (h : c = .ok b) (h2 : (if b then r else .ok (.nx ρ)) = .ok (.nx ρ')) (q : G ρ' = o) : seqO (ifO c r (.ok (.nx ρ))) G = o := by
  rw [h]
  show seqO (if b then r else .ok (.nx ρ)) G = o
  rw [h2]; exact q
theorem stO {i : Nat} {r : Rs Tr} {t : Tr} {ρ : Rho} (h : r = .ok t) : setO i r ρ = .ok (.nx (ρ.set i (.sh t))) := by rw [h]; rfl
theorem mirE {n m : Nat} {G : Rho → Rs Out} {ts : List Tr} (h : ts.length = n) : mir n m G ts = bodyR (G (startT m ts)) := if_pos h
theorem noE (t : Tr) : m_w_no_rows [t] = bodyR (g_w_no_rows [.sh t, .no, .no, .no]) := mirE rfl
theorem rng3 : rng2W (.ok [.int 3, .int 3]) = .ok [] := by
  rw [rng2_eq, if_pos (by decide)]
  rfl
theorem rng4 : rng2W (.ok [.int 3, .int 4]) = .ok [.int 3] := by
  rw [rng2_eq, if_pos (by decide)]
  rfl
theorem rng5 : rng2W (.ok [.int 3, .int 5]) = .ok [.int 3, .int 4] := by
  rw [rng2_eq, if_pos (by decide)]
  rfl
theorem seT_no {a b : Tr} (h1 : inz b ["open", "asked"] = false) (h2 : inz b ["all", "some"] = false) (h3 : inz b ["shown", "hidden"] = false) : seT a b = false := by
  cases a with
  | str z =>
    show (match sets.lookup z with | some zs => inz b zs | none => false) = false
    unfold sets
    rw [List.lookup_cons, List.lookup_cons, List.lookup_cons]
    cases (z == ("door" : Str)) <;> cases (z == ("voice" : Str)) <;> cases (z == ("past" : Str)) <;> first | rfl | exact h1 | exact h2 | exact h3
  | _ => rfl
theorem pa_set {a b : Tr} (h : seT a b = false) : paT (.str "set") [a, b] = false := h
theorem pa_role1 {a b : Tr} (h : nmT a = false) : paT (.str "role") [a, b] = false := by
  show (nmT a && inz b rls) = false
  rw [h, Bool.false_and]
theorem pa_role2 {a b : Tr} (h : inz b rls = false) : paT (.str "role") [a, b] = false := by
  show (nmT a && inz b rls) = false
  rw [h, Bool.and_false]
theorem pa_say1 {a b : Tr} (h : wdT a = false) : paT (.str "say") [a, b] = false := by
  show (wdT a && anT b) = false
  rw [h, Bool.false_and]
theorem pa_say2 {a b : Tr} (h : anT b = false) : paT (.str "say") [a, b] = false := by
  show (wdT a && anT b) = false
  rw [h, Bool.and_false]
theorem pa_mend1 {a b : Tr} (h : nuT a = false) : paT (.str "mend") [a, b] = false := by
  show (nuT a && wdT b) = false
  rw [h, Bool.false_and]
theorem pa_mend2 {a b : Tr} (h : wdT b = false) : paT (.str "mend") [a, b] = false := by
  show (nuT a && wdT b) = false
  rw [h, Bool.and_false]
theorem no_bare (n : Int) (who : Str) : ∀ w ∈ M3.bare, ∃ bs, m_w_no_rows [.tup [.int n, .str who, .str w]] = .ok (.lst bs) ∧ ∀ b ∈ bs, Bad b := by
  intro w hw
  simp only [M3.bare, List.mem_cons, List.not_mem_nil, or_false] at hw
  rcases hw with rfl | rfl | rfl
  all_goals
    rw [noE]
    unfold g_w_no_rows
    refine exS rfl (exS rfl (exS rfl (exS rfl (exS rfl (exS rfl (exL (ts := []) rng3 rfl ⟨_, rfl, ?_⟩))))))
    repeat (refine all_cons ⟨rfl, Nat.le_of_ble_eq_true rfl, (by first | rfl | exact bad_len (Nat.le_of_ble_eq_true rfl) | exact bad_num rfl | exact bad_name rfl | exact bad_parts rfl)⟩ ?_)
    exact all_nil
end M3

namespace M3
open PySem L2
set_option maxHeartbeats 0
theorem no_whom (n : Int) (who x : Str) : ∀ w ∈ M3.whom, ∃ bs, m_w_no_rows [.tup [.int n, .str who, .str w, .str x]] = .ok (.lst bs) ∧ ∀ b ∈ bs, Bad b := by
  intro w hw
  simp only [M3.whom, List.mem_cons, List.not_mem_nil, or_false] at hw
  rcases hw with rfl | rfl | rfl | rfl
  all_goals
    rw [noE]
    unfold g_w_no_rows
    refine exS rfl (exS rfl (exS rfl (exS rfl (exS rfl (exS rfl (exL rng4 (for1 (sqS rfl (sqI (b := false) rfl rfl (sqI (b := false) rfl rfl (stO rfl)))) rfl) ⟨_, rfl, ?_⟩))))))
    repeat (refine all_cons ⟨rfl, Nat.le_of_ble_eq_true rfl, (by first | rfl | exact bad_len (Nat.le_of_ble_eq_true rfl) | exact bad_num rfl | exact bad_name rfl | exact bad_parts rfl)⟩ ?_)
    exact all_nil
end M3

namespace M3
open PySem L2
set_option maxHeartbeats 0
theorem no_set (n : Int) (who k v : Str) : ∃ bs, m_w_no_rows [.tup [.int n, .str who, .str "set", .str k, .str v]] = .ok (.lst bs) ∧ ∀ b ∈ bs, Bad b := by
  rw [noE]
  unfold g_w_no_rows
  refine exS rfl (exS rfl (exS rfl (exS rfl (exS rfl (exS rfl (exL rng5 (for1 (sqS rfl (sqI (b := false) rfl rfl (sqI (b := false) rfl rfl (stO rfl)))) (for1 (sqS rfl (sqI (b := false) rfl rfl (sqI (b := false) rfl rfl (stO rfl)))) rfl)) ⟨_, rfl, ?_⟩))))))
  repeat (refine all_cons ⟨rfl, Nat.le_of_ble_eq_true rfl, (by first | rfl | exact bad_len (Nat.le_of_ble_eq_true rfl) | exact bad_num rfl | exact bad_name rfl | exact bad_parts rfl | exact bad_parts (pa_set (seT_no rfl rfl rfl)) | exact bad_parts (pa_set rfl))⟩ ?_)
  exact all_nil
end M3

namespace M3
open PySem L2
set_option maxHeartbeats 0
theorem no_role (n : Int) (who x r : Str) : ∃ bs, m_w_no_rows [.tup [.int n, .str who, .str "role", .str x, .str r]] = .ok (.lst bs) ∧ ∀ b ∈ bs, Bad b := by
  rw [noE]
  unfold g_w_no_rows
  refine exS rfl (exS rfl (exS rfl (exS rfl (exS rfl (exS rfl (exL rng5 (for1 (sqS rfl (sqI (b := false) rfl rfl (sqI (b := false) rfl rfl (stO rfl)))) (for1 (sqS rfl (sqI (b := false) rfl rfl (sqI (b := false) rfl rfl (stO rfl)))) rfl)) ⟨_, rfl, ?_⟩))))))
  repeat (refine all_cons ⟨rfl, Nat.le_of_ble_eq_true rfl, (by first | rfl | exact bad_len (Nat.le_of_ble_eq_true rfl) | exact bad_num rfl | exact bad_name rfl | exact bad_parts rfl | exact bad_parts (pa_role1 rfl) | exact bad_parts (pa_role2 rfl))⟩ ?_)
  exact all_nil
end M3

namespace M3
open PySem L2
set_option maxHeartbeats 0
theorem no_say0 (n : Int) (who z : Str) : ∃ bs, m_w_no_rows [.tup [.int n, .str who, .str "say", .str z, .non]] = .ok (.lst bs) ∧ ∀ b ∈ bs, Bad b := by
  rw [noE]
  unfold g_w_no_rows
  refine exS rfl (exS rfl (exS rfl (exS rfl (exS rfl (exS rfl (exL rng5 (for1 (sqS rfl (sqI (b := false) rfl rfl (sqI (b := true) rfl rfl (stO rfl)))) (for1 (sqS rfl (sqI (b := true) rfl rfl (sqI (b := false) rfl rfl (stO rfl)))) rfl)) ⟨_, rfl, ?_⟩))))))
  repeat (refine all_cons ⟨rfl, Nat.le_of_ble_eq_true rfl, (by first | rfl | exact bad_len (Nat.le_of_ble_eq_true rfl) | exact bad_num rfl | exact bad_name rfl | exact bad_parts rfl | exact bad_parts (pa_say1 rfl) | exact bad_parts (pa_say2 rfl))⟩ ?_)
  exact all_nil
theorem no_say1 (n : Int) (who z : Str) (k : Int) : ∃ bs, m_w_no_rows [.tup [.int n, .str who, .str "say", .str z, .int k]] = .ok (.lst bs) ∧ ∀ b ∈ bs, Bad b := by
  rw [noE]
  unfold g_w_no_rows
  refine exS rfl (exS rfl (exS rfl (exS rfl (exS rfl (exS rfl (exL rng5 (for1 (sqS rfl (sqI (b := false) rfl rfl (sqI (b := true) rfl rfl (stO rfl)))) (for1 (sqS rfl (sqI (b := true) rfl rfl (sqI (b := false) rfl rfl (stO rfl)))) rfl)) ⟨_, rfl, ?_⟩))))))
  repeat (refine all_cons ⟨rfl, Nat.le_of_ble_eq_true rfl, (by first | rfl | exact bad_len (Nat.le_of_ble_eq_true rfl) | exact bad_num rfl | exact bad_name rfl | exact bad_parts rfl | exact bad_parts (pa_say1 rfl) | exact bad_parts (pa_say2 rfl))⟩ ?_)
  exact all_nil
end M3

namespace M3
open PySem L2
set_option maxHeartbeats 0
theorem no_mend (n : Int) (who : Str) (k : Int) (z : Str) : ∃ bs, m_w_no_rows [.tup [.int n, .str who, .str "mend", .int k, .str z]] = .ok (.lst bs) ∧ ∀ b ∈ bs, Bad b := by
  rw [noE]
  unfold g_w_no_rows
  refine exS rfl (exS rfl (exS rfl (exS rfl (exS rfl (exS rfl (exL rng5 (for1 (sqS rfl (sqI (b := true) rfl rfl (sqI (b := false) rfl rfl (stO rfl)))) (for1 (sqS rfl (sqI (b := false) rfl rfl (sqI (b := true) rfl rfl (stO rfl)))) rfl)) ⟨_, rfl, ?_⟩))))))
  repeat (refine all_cons ⟨rfl, Nat.le_of_ble_eq_true rfl, (by first | rfl | exact bad_len (Nat.le_of_ble_eq_true rfl) | exact bad_num rfl | exact bad_name rfl | exact bad_parts rfl | exact bad_parts (pa_mend1 rfl) | exact bad_parts (pa_mend2 rfl))⟩ ?_)
  exact all_nil
theorem no_gone (n : Int) (who : Str) (k : Int) : ∃ bs, m_w_no_rows [.tup [.int n, .str who, .str "gone", .int k]] = .ok (.lst bs) ∧ ∀ b ∈ bs, Bad b := by
  rw [noE]
  unfold g_w_no_rows
  refine exS rfl (exS rfl (exS rfl (exS rfl (exS rfl (exS rfl (exL rng4 (for1 (sqS rfl (sqI (b := true) rfl rfl (sqI (b := false) rfl rfl (stO rfl)))) rfl) ⟨_, rfl, ?_⟩))))))
  repeat (refine all_cons ⟨rfl, Nat.le_of_ble_eq_true rfl, (by first | rfl | exact bad_len (Nat.le_of_ble_eq_true rfl) | exact bad_num rfl | exact bad_name rfl | exact bad_parts rfl)⟩ ?_)
  exact all_nil
end M3

namespace M3
open PySem L2
structure Ok2 (n : Nat) (t : Tr) : Prop where
  pl : plT t = true
  dp : dT t ≤ n
theorem lastP {n : Nat} (L : List Tr) (c : Int) (hne : 0 < L.length) (h : ∀ t ∈ L, Ok2 n t) : ∃ t, bodyR (retO (op2 ixT (.ok (.lst L)) (m_w_mix [.int c, .int 9749, .int (L.length : Int)]))) = .ok t ∧ Ok2 n t := by
  have hm : (0 : Int) < (L.length : Int) := by omega
  obtain ⟨m0, m1⟩ := mix_in (c := c) (p := 9749) (m := (L.length : Int)) hm
  have e : ixT (.lst L) (.int (mix c 9749 (L.length : Int))) = .ok (L.getD (mix c 9749 (L.length : Int)).toNat .non) := by
    show okO (L2.atI L _) = _
    rw [atIn (xs := L) .non m0 m1]
    rfl
  refine ⟨L.getD (mix c 9749 (L.length : Int)).toNat .non, ?_, h _ ?_⟩
  · rw [e_mix _ _ _ (by decide) (by decide) hm, retB]
    exact e
  · have hk : (mix c 9749 (L.length : Int)).toNat < L.length := by omega
    rw [List.getD_eq_getElem?_getD, List.getElem?_eq_getElem hk]
    exact List.getElem_mem hk
def base16 : List Tr := [.non, .bl true, .bl false, .int 0, .int 1, .int (-1), .int 2, .int 7, .int 10, .int 1000, .str "", .str "a", .str "A", .tup [], .tup [.str "a"], .lst [.int 1]]
theorem all2 {P : Tr → Prop} {xs ys : List Tr} (h1 : ∀ b ∈ xs, P b) (h2 : ∀ b ∈ ys, P b) : ∀ b ∈ xs ++ ys, P b := fun b m => by
  rcases List.mem_append.mp m with m | m
  · exact h1 b m
  · exact h2 b m
theorem base_ok : ∀ t ∈ base16, Ok2 2 t := by
  unfold base16
  repeat (refine all_cons ⟨rfl, Nat.le_of_ble_eq_true rfl⟩ ?_)
  exact all_nil
theorem oddE (k : Nat) (t : Tr) (c : Int) : m_w_odd (k + 1) [t, .int c] = bodyR (g_w_odd (m_w_odd k) [.sh t, .sh (.int c), .no, .no]) := mirE rfl
theorem stepS {i : Nat} {r : Rs Tr} {t : Tr} {ρ : Rho} {G : Rho → Rs Out} (h : r = .ok t) : bodyR (seqO (setO i r ρ) G) = bodyR (G (ρ.set i (.sh t))) := by rw [h]; rfl
theorem ifN {X1 : Rs Bool} {G1 : Rs Out} {ρ : Rho} {G : Rho → Rs Out} : bodyR (seqO (ifO (andB (.ok false) X1) G1 (.ok (.nx ρ))) G) = bodyR (G ρ) := rfl
theorem odd_non (k : Nat) (c : Int) : ∃ t, m_w_odd (k + 1) [.non, .int c] = .ok t ∧ Ok2 2 t := by
  rw [oddE]
  unfold g_w_odd
  show ∃ t, bodyR (seqO (ifO (andB (.ok false) _) _ (.ok (.nx [.sh .non, .sh (.int c), .no, .no]))) _) = _ ∧ _
  rw [ifN]
  show ∃ t, bodyR (seqO (setO 3 (.ok (.lst base16)) [.sh .non, .sh (.int c), .no, .no]) _) = _ ∧ _
  rw [stepS rfl]
  exact lastP base16 c (by decide) base_ok
theorem odd_int (k : Nat) (i c : Int) : ∃ t, m_w_odd (k + 1) [.int i, .int c] = .ok t ∧ Ok2 2 t := by
  rw [oddE]
  unfold g_w_odd
  show ∃ t, bodyR (seqO (ifO (andB (.ok false) _) _ (.ok (.nx [.sh (.int i), .sh (.int c), .no, .no]))) _) = _ ∧ _
  rw [ifN]
  show ∃ t, bodyR (seqO (setO 3 (.ok (.lst base16)) [.sh (.int i), .sh (.int c), .no, .no]) _) = _ ∧ _
  rw [stepS rfl]
  have q : mulT (.int i) (.int 2) = .ok (.int (i * 2)) := mul_ok (.inr ⟨by decide, by decide⟩)
  show ∃ t, bodyR (seqO (setO 3 (op2 addT (.ok (.lst base16)) (op2 mulT (lstR (consR (.ok (.int (i + 1))) (consR (.ok (.int (i - 1))) (consR (.ok (.int (0 - i))) (consR (.ok (.tup [.int i])) (consR (.ok (.int (i + 2))) (consR (mulT (.int i) (.int 2)) (.ok [])))))))) (.ok (.int 2)))) [.sh (.int i), .sh (.int c), .no, .sh (.lst base16)]) _) = _ ∧ _
  rw [q]
  have q2 : op2 addT (.ok (.lst base16)) (op2 mulT (lstR (consR (.ok (.int (i + 1))) (consR (.ok (.int (i - 1))) (consR (.ok (.int (0 - i))) (consR (.ok (.tup [.int i])) (consR (.ok (.int (i + 2))) (consR (.ok (.int (i * 2))) (.ok [])))))))) (.ok (.int 2))) = .ok (.lst (base16 ++ [.int (i + 1), .int (i - 1), .int (0 - i), .tup [.int i], .int (i + 2), .int (i * 2), .int (i + 1), .int (i - 1), .int (0 - i), .tup [.int i], .int (i + 2), .int (i * 2)])) := rfl
  rw [stepS q2]
  refine lastP _ c (by show 0 < 28; decide) (all2 base_ok ?_)
  repeat (refine all_cons ⟨rfl, Nat.le_of_ble_eq_true rfl⟩ ?_)
  exact all_nil
theorem odd_str (k : Nat) (z : Str) (hz : z.length ≤ 100) (c : Int) : ∃ t, m_w_odd (k + 1) [.str z, .int c] = .ok t ∧ Ok2 2 t := by
  rw [oddE]
  unfold g_w_odd
  show ∃ t, bodyR (seqO (ifO (andB (.ok false) _) _ (.ok (.nx [.sh (.str z), .sh (.int c), .no, .no]))) _) = _ ∧ _
  rw [ifN]
  show ∃ t, bodyR (seqO (setO 3 (.ok (.lst base16)) [.sh (.str z), .sh (.int c), .no, .no]) _) = _ ∧ _
  rw [stepS rfl]
  have tx : txMax = 1000000 := rfl
  have sl : ∀ l u, (Txt.slice z l u).length ≤ z.length := fun l u => PySem.Txt.slice_le z l u
  have sl' := fun l u => sl l u
  have q1 : addT (.str z) (.str "a") = .ok (.str (z ++ "a")) := if_pos (by show z.length + 1 ≤ txMax; omega)
  have q2 : slT (.str z) none (some (-1)) = .ok (.str (Txt.slice z none (some (-1)))) := if_pos (by have := sl none (some (-1)); omega)
  have q3 : upperM z [] = .ok (.str (Txt.upper z)) := if_pos (by omega)
  have q4 : addT (.str z) (.str " ") = .ok (.str (z ++ " ")) := if_pos (by show z.length + 1 ≤ txMax; omega)
  have q5 : mulT (.str z) (.int 2) = .ok (.str (Txt.mul z 2)) := if_pos ⟨by decide, by decide, by omega⟩
  have q6 : slT (.str z) none (some 1) = .ok (.str (Txt.slice z none (some 1))) := if_pos (by have := sl none (some 1); omega)
  have q7 : addT (.str z) (.str (Txt.slice z none (some 1))) = .ok (.str (z ++ Txt.slice z none (some 1))) := if_pos (by have := sl none (some 1); omega)
  show ∃ t, bodyR (seqO (setO 3 (op2 addT (.ok (.lst base16)) (op2 mulT (lstR (consR (addT (.str z) (.str "a")) (consR (slT (.str z) none (some (-1))) (consR (upperM z []) (consR (addT (.str z) (.str " ")) (consR (mulT (.str z) (.int 2)) (consR (.ok (.lst [.str z])) (consR (op2 addT (.ok (.str z)) (slT (.str z) none (some 1))) (.ok []))))))))) (.ok (.int 2)))) [.sh (.str z), .sh (.int c), .no, .sh (.lst base16)]) _) = _ ∧ _
  rw [q1, q2, q3, q4, q5, q6]
  have q7' : op2 addT (.ok (.str z)) (.ok (.str (Txt.slice z none (some 1)))) = _ := q7
  rw [q7']
  have q8 : op2 addT (.ok (.lst base16)) (op2 mulT (lstR (consR (.ok (.str (z ++ "a"))) (consR (.ok (.str (Txt.slice z none (some (-1))))) (consR (.ok (.str (Txt.upper z))) (consR (.ok (.str (z ++ " "))) (consR (.ok (.str (Txt.mul z 2))) (consR (.ok (.lst [.str z])) (consR (.ok (.str (z ++ Txt.slice z none (some 1)))) (.ok []))))))))) (.ok (.int 2))) = .ok (.lst (base16 ++ [.str (z ++ "a"), .str (Txt.slice z none (some (-1))), .str (Txt.upper z), .str (z ++ " "), .str (Txt.mul z 2), .lst [.str z], .str (z ++ Txt.slice z none (some 1)), .str (z ++ "a"), .str (Txt.slice z none (some (-1))), .str (Txt.upper z), .str (z ++ " "), .str (Txt.mul z 2), .lst [.str z], .str (z ++ Txt.slice z none (some 1))])) := rfl
  rw [stepS q8]
  refine lastP _ c (by show 0 < 30; decide) (all2 base_ok ?_)
  repeat (refine all_cons ⟨rfl, Nat.le_of_ble_eq_true rfl⟩ ?_)
  exact all_nil
/-- a flat part of a row -/
inductive Fl : Tr → Prop where
  | non : Fl .non
  | int (i : Int) : Fl (.int i)
  | str (z : Str) (h : z.length ≤ 100) : Fl (.str z)
theorem odd_fl {t : Tr} (h : Fl t) (k : Nat) (c : Int) : ∃ u, m_w_odd (k + 1) [t, .int c] = .ok u ∧ Ok2 2 u := by
  cases h with
  | non => exact odd_non k c
  | int i => exact odd_int k i c
  | str z h => exact odd_str k z h c
theorem Fl.ok {t : Tr} (h : Fl t) : plT t = true ∧ dT t = 0 := by cases h <;> exact ⟨rfl, rfl⟩
theorem ok_of {ts : List Tr} {n : Nat} (h : ∀ t ∈ ts, plT t = true ∧ dT t ≤ n) : Ok2 (n + 1) (.tup ts) := ⟨plTs_all fun t m => (h t m).1, by rw [dT]; have := dTs_all fun t m => (h t m).2; omega⟩
theorem ok_ofL {ts : List Tr} {n : Nat} (h : ∀ t ∈ ts, plT t = true ∧ dT t ≤ n) : Ok2 (n + 1) (.lst ts) := ⟨plTs_all fun t m => (h t m).1, by rw [dT]; have := dTs_all fun t m => (h t m).2; omega⟩
end M3

set_option maxHeartbeats 1000000
namespace M3
open PySem L2
theorem Ok2.mono {m n : Nat} {t : Tr} (h : Ok2 m t) (l : m ≤ n) : Ok2 n t := ⟨h.pl, Nat.le_trans h.dp l⟩
theorem fl0 {t : Tr} (h : Fl t) : plT t = true ∧ dT t ≤ 0 := ⟨h.ok.1, Nat.le_of_eq h.ok.2⟩
theorem fl2 {t : Tr} (h : Fl t) : plT t = true ∧ dT t ≤ 2 := ⟨h.ok.1, by rw [h.ok.2]; decide⟩
theorem ne_nil {x : Tr} {xs : List Tr} (h : ∀ t ∈ x :: xs, plT t = true ∧ dT t ≤ 0) : neC (.tup (x :: xs)) (.tup []) = .ok (.bl true) := by
  have o := ok_of h
  unfold neC
  rw [if_pos ⟨o.pl, rfl, Nat.le_trans o.dp (by decide)⟩]
  rfl
theorem odd_tup3 {a : Tr} {b : Tr} {d : Tr} (ha : Fl a) (hb : Fl b) (hd : Fl d) (k : Nat) (c : Int) : ∃ u, m_w_odd (k + 2) [.tup [a, b, d], .int c] = .ok u ∧ Ok2 4 u := by
  have fs : ∀ t ∈ [a, b, d], plT t = true ∧ dT t ≤ 0 := all_cons (fl0 ha) (all_cons (fl0 hb) (all_cons (fl0 hd) (all_nil)))
  rw [oddE]
  unfold g_w_odd
  show ∃ t, bodyR (seqO (ifO (andB (.ok true) (andB (asB (neC (.tup [a, b, d]) (.tup []))) (asB (op2 gtC (m_w_mix [.int c, .int 9781, .int 5]) (Rs.ok (.int 0)))))) (seqO (setO 2 (m_w_mix [.int c, .int 9769, .int 3]) [.sh (.tup [a, b, d]), .sh (.int c), .no, .no]) _) (.ok (.nx [.sh (.tup [a, b, d]), .sh (.int c), .no, .no]))) _) = _ ∧ _
  rw [ne_nil fs, e_mix c 9781 5 (by decide) (by decide) (by decide), e_mix c 9769 3 (by decide) (by decide) (by decide)]
  obtain ⟨m0, m1⟩ := mix_in (c := c) (p := 9769) (m := 3) (by decide)
  show ∃ t, bodyR (seqO (ifO (.ok (decide ((0 : Int) < mix c 9781 5))) (seqO (setO 2 (.ok (.int (mix c 9769 3))) _) _) _) _) = _ ∧ _
  rw [ifgo]
  generalize mix c 9769 3 = at' at m0 m1
  cases decide ((0 : Int) < mix c 9781 5) with
  | true =>
    rw [if_pos rfl]
    have hat : at' = 0 ∨ at' = 1 ∨ at' = 2 := by omega
    rcases hat with rfl | rfl | rfl
    · obtain ⟨u, ee, o⟩ := odd_fl ha k (c + 31 * 0 + 7)
      show ∃ t, bodyR (seqO (retO (op2 addT (op2 addT (.ok (.tup [])) (tupR (consR (m_w_odd (k + 1) [a, .int (c + 31 * 0 + 7)]) (.ok [])))) (.ok (.tup [b, d])))) _) = _ ∧ _
      rw [ee, retG]
      exact ⟨.tup [u, b, d], rfl, (ok_of (n := 2) (all_cons (⟨o.pl, o.dp⟩) (all_cons (fl2 hb) (all_cons (fl2 hd) (all_nil))))).mono (by decide)⟩
    · obtain ⟨u, ee, o⟩ := odd_fl hb k (c + 31 * 1 + 7)
      show ∃ t, bodyR (seqO (retO (op2 addT (op2 addT (.ok (.tup [a])) (tupR (consR (m_w_odd (k + 1) [b, .int (c + 31 * 1 + 7)]) (.ok [])))) (.ok (.tup [d])))) _) = _ ∧ _
      rw [ee, retG]
      exact ⟨.tup [a, u, d], rfl, (ok_of (n := 2) (all_cons (fl2 ha) (all_cons (⟨o.pl, o.dp⟩) (all_cons (fl2 hd) (all_nil))))).mono (by decide)⟩
    · obtain ⟨u, ee, o⟩ := odd_fl hd k (c + 31 * 2 + 7)
      show ∃ t, bodyR (seqO (retO (op2 addT (op2 addT (.ok (.tup [a, b])) (tupR (consR (m_w_odd (k + 1) [d, .int (c + 31 * 2 + 7)]) (.ok [])))) (.ok (.tup [])))) _) = _ ∧ _
      rw [ee, retG]
      exact ⟨.tup [a, b, u], rfl, (ok_of (n := 2) (all_cons (fl2 ha) (all_cons (fl2 hb) (all_cons (⟨o.pl, o.dp⟩) (all_nil))))).mono (by decide)⟩
  | false =>
    rw [if_neg Bool.false_ne_true]
    show ∃ t, bodyR (seqO (setO 3 (.ok (.lst base16)) [.sh (.tup [a, b, d]), .sh (.int c), .no, .no]) _) = _ ∧ _
    rw [stepS rfl]
    show ∃ t, bodyR (seqO (setO 3 (op2 addT (.ok (.lst base16)) (op2 mulT (lstR (.ok [.lst [a, b, d], .tup [a, b, d, d], .tup [a, b], .tup [d, b, a], .tup [b, d], .tup [.tup [a, b, d]]])) (.ok (.int 2)))) [.sh (.tup [a, b, d]), .sh (.int c), .no, .sh (.lst base16)]) _) = _ ∧ _
    have q2 : op2 addT (.ok (.lst base16)) (op2 mulT (lstR (.ok [.lst [a, b, d], .tup [a, b, d, d], .tup [a, b], .tup [d, b, a], .tup [b, d], .tup [.tup [a, b, d]]])) (.ok (.int 2))) = .ok (.lst (base16 ++ ([.lst [a, b, d], .tup [a, b, d, d], .tup [a, b], .tup [d, b, a], .tup [b, d], .tup [.tup [a, b, d]]] ++ [.lst [a, b, d], .tup [a, b, d, d], .tup [a, b], .tup [d, b, a], .tup [b, d], .tup [.tup [a, b, d]]]))) := rfl
    rw [stepS q2]
    have six' : ∀ t ∈ ([.lst [a, b, d], .tup [a, b, d, d], .tup [a, b], .tup [d, b, a], .tup [b, d], .tup [.tup [a, b, d]]] : List Tr), Ok2 4 t := by
      refine all_cons ((ok_ofL fs).mono (by decide)) (all_cons ((ok_of (n := 0) (all_cons (fl0 ha) (all_cons (fl0 hb) (all_cons (fl0 hd) (all_cons (fl0 hd) (all_nil)))))).mono (by decide)) (all_cons ((ok_of (n := 0) (all_cons (fl0 ha) (all_cons (fl0 hb) (all_nil)))).mono (by decide)) (all_cons ((ok_of (n := 0) (all_cons (fl0 hd) (all_cons (fl0 hb) (all_cons (fl0 ha) (all_nil))))).mono (by decide)) (all_cons ((ok_of (n := 0) (all_cons (fl0 hb) (all_cons (fl0 hd) (all_nil)))).mono (by decide)) (all_cons ((ok_of (n := 1) (all_cons ⟨(ok_of fs).pl, (ok_of fs).dp⟩ all_nil)).mono (by decide)) all_nil)))))
    exact lastP _ c (by show 0 < 28; decide) (all2 (fun t m => (base_ok t m).mono (by decide)) (all2 six' six'))
theorem odd_tup4 {a : Tr} {b : Tr} {d : Tr} {e : Tr} (ha : Fl a) (hb : Fl b) (hd : Fl d) (he : Fl e) (k : Nat) (c : Int) : ∃ u, m_w_odd (k + 2) [.tup [a, b, d, e], .int c] = .ok u ∧ Ok2 4 u := by
  have fs : ∀ t ∈ [a, b, d, e], plT t = true ∧ dT t ≤ 0 := all_cons (fl0 ha) (all_cons (fl0 hb) (all_cons (fl0 hd) (all_cons (fl0 he) (all_nil))))
  rw [oddE]
  unfold g_w_odd
  show ∃ t, bodyR (seqO (ifO (andB (.ok true) (andB (asB (neC (.tup [a, b, d, e]) (.tup []))) (asB (op2 gtC (m_w_mix [.int c, .int 9781, .int 5]) (Rs.ok (.int 0)))))) (seqO (setO 2 (m_w_mix [.int c, .int 9769, .int 4]) [.sh (.tup [a, b, d, e]), .sh (.int c), .no, .no]) _) (.ok (.nx [.sh (.tup [a, b, d, e]), .sh (.int c), .no, .no]))) _) = _ ∧ _
  rw [ne_nil fs, e_mix c 9781 5 (by decide) (by decide) (by decide), e_mix c 9769 4 (by decide) (by decide) (by decide)]
  obtain ⟨m0, m1⟩ := mix_in (c := c) (p := 9769) (m := 4) (by decide)
  show ∃ t, bodyR (seqO (ifO (.ok (decide ((0 : Int) < mix c 9781 5))) (seqO (setO 2 (.ok (.int (mix c 9769 4))) _) _) _) _) = _ ∧ _
  rw [ifgo]
  generalize mix c 9769 4 = at' at m0 m1
  cases decide ((0 : Int) < mix c 9781 5) with
  | true =>
    rw [if_pos rfl]
    have hat : at' = 0 ∨ at' = 1 ∨ at' = 2 ∨ at' = 3 := by omega
    rcases hat with rfl | rfl | rfl | rfl
    · obtain ⟨u, ee, o⟩ := odd_fl ha k (c + 31 * 0 + 7)
      show ∃ t, bodyR (seqO (retO (op2 addT (op2 addT (.ok (.tup [])) (tupR (consR (m_w_odd (k + 1) [a, .int (c + 31 * 0 + 7)]) (.ok [])))) (.ok (.tup [b, d, e])))) _) = _ ∧ _
      rw [ee, retG]
      exact ⟨.tup [u, b, d, e], rfl, (ok_of (n := 2) (all_cons (⟨o.pl, o.dp⟩) (all_cons (fl2 hb) (all_cons (fl2 hd) (all_cons (fl2 he) (all_nil)))))).mono (by decide)⟩
    · obtain ⟨u, ee, o⟩ := odd_fl hb k (c + 31 * 1 + 7)
      show ∃ t, bodyR (seqO (retO (op2 addT (op2 addT (.ok (.tup [a])) (tupR (consR (m_w_odd (k + 1) [b, .int (c + 31 * 1 + 7)]) (.ok [])))) (.ok (.tup [d, e])))) _) = _ ∧ _
      rw [ee, retG]
      exact ⟨.tup [a, u, d, e], rfl, (ok_of (n := 2) (all_cons (fl2 ha) (all_cons (⟨o.pl, o.dp⟩) (all_cons (fl2 hd) (all_cons (fl2 he) (all_nil)))))).mono (by decide)⟩
    · obtain ⟨u, ee, o⟩ := odd_fl hd k (c + 31 * 2 + 7)
      show ∃ t, bodyR (seqO (retO (op2 addT (op2 addT (.ok (.tup [a, b])) (tupR (consR (m_w_odd (k + 1) [d, .int (c + 31 * 2 + 7)]) (.ok [])))) (.ok (.tup [e])))) _) = _ ∧ _
      rw [ee, retG]
      exact ⟨.tup [a, b, u, e], rfl, (ok_of (n := 2) (all_cons (fl2 ha) (all_cons (fl2 hb) (all_cons (⟨o.pl, o.dp⟩) (all_cons (fl2 he) (all_nil)))))).mono (by decide)⟩
    · obtain ⟨u, ee, o⟩ := odd_fl he k (c + 31 * 3 + 7)
      show ∃ t, bodyR (seqO (retO (op2 addT (op2 addT (.ok (.tup [a, b, d])) (tupR (consR (m_w_odd (k + 1) [e, .int (c + 31 * 3 + 7)]) (.ok [])))) (.ok (.tup [])))) _) = _ ∧ _
      rw [ee, retG]
      exact ⟨.tup [a, b, d, u], rfl, (ok_of (n := 2) (all_cons (fl2 ha) (all_cons (fl2 hb) (all_cons (fl2 hd) (all_cons (⟨o.pl, o.dp⟩) (all_nil)))))).mono (by decide)⟩
  | false =>
    rw [if_neg Bool.false_ne_true]
    show ∃ t, bodyR (seqO (setO 3 (.ok (.lst base16)) [.sh (.tup [a, b, d, e]), .sh (.int c), .no, .no]) _) = _ ∧ _
    rw [stepS rfl]
    show ∃ t, bodyR (seqO (setO 3 (op2 addT (.ok (.lst base16)) (op2 mulT (lstR (.ok [.lst [a, b, d, e], .tup [a, b, d, e, e], .tup [a, b, d], .tup [e, d, b, a], .tup [b, d, e], .tup [.tup [a, b, d, e]]])) (.ok (.int 2)))) [.sh (.tup [a, b, d, e]), .sh (.int c), .no, .sh (.lst base16)]) _) = _ ∧ _
    have q2 : op2 addT (.ok (.lst base16)) (op2 mulT (lstR (.ok [.lst [a, b, d, e], .tup [a, b, d, e, e], .tup [a, b, d], .tup [e, d, b, a], .tup [b, d, e], .tup [.tup [a, b, d, e]]])) (.ok (.int 2))) = .ok (.lst (base16 ++ ([.lst [a, b, d, e], .tup [a, b, d, e, e], .tup [a, b, d], .tup [e, d, b, a], .tup [b, d, e], .tup [.tup [a, b, d, e]]] ++ [.lst [a, b, d, e], .tup [a, b, d, e, e], .tup [a, b, d], .tup [e, d, b, a], .tup [b, d, e], .tup [.tup [a, b, d, e]]]))) := rfl
    rw [stepS q2]
    have six' : ∀ t ∈ ([.lst [a, b, d, e], .tup [a, b, d, e, e], .tup [a, b, d], .tup [e, d, b, a], .tup [b, d, e], .tup [.tup [a, b, d, e]]] : List Tr), Ok2 4 t := by
      refine all_cons ((ok_ofL fs).mono (by decide)) (all_cons ((ok_of (n := 0) (all_cons (fl0 ha) (all_cons (fl0 hb) (all_cons (fl0 hd) (all_cons (fl0 he) (all_cons (fl0 he) (all_nil))))))).mono (by decide)) (all_cons ((ok_of (n := 0) (all_cons (fl0 ha) (all_cons (fl0 hb) (all_cons (fl0 hd) (all_nil))))).mono (by decide)) (all_cons ((ok_of (n := 0) (all_cons (fl0 he) (all_cons (fl0 hd) (all_cons (fl0 hb) (all_cons (fl0 ha) (all_nil)))))).mono (by decide)) (all_cons ((ok_of (n := 0) (all_cons (fl0 hb) (all_cons (fl0 hd) (all_cons (fl0 he) (all_nil))))).mono (by decide)) (all_cons ((ok_of (n := 1) (all_cons ⟨(ok_of fs).pl, (ok_of fs).dp⟩ all_nil)).mono (by decide)) all_nil)))))
    exact lastP _ c (by show 0 < 28; decide) (all2 (fun t m => (base_ok t m).mono (by decide)) (all2 six' six'))
theorem odd_tup5 {a : Tr} {b : Tr} {d : Tr} {e : Tr} {f : Tr} (ha : Fl a) (hb : Fl b) (hd : Fl d) (he : Fl e) (hf : Fl f) (k : Nat) (c : Int) : ∃ u, m_w_odd (k + 2) [.tup [a, b, d, e, f], .int c] = .ok u ∧ Ok2 4 u := by
  have fs : ∀ t ∈ [a, b, d, e, f], plT t = true ∧ dT t ≤ 0 := all_cons (fl0 ha) (all_cons (fl0 hb) (all_cons (fl0 hd) (all_cons (fl0 he) (all_cons (fl0 hf) (all_nil)))))
  rw [oddE]
  unfold g_w_odd
  show ∃ t, bodyR (seqO (ifO (andB (.ok true) (andB (asB (neC (.tup [a, b, d, e, f]) (.tup []))) (asB (op2 gtC (m_w_mix [.int c, .int 9781, .int 5]) (Rs.ok (.int 0)))))) (seqO (setO 2 (m_w_mix [.int c, .int 9769, .int 5]) [.sh (.tup [a, b, d, e, f]), .sh (.int c), .no, .no]) _) (.ok (.nx [.sh (.tup [a, b, d, e, f]), .sh (.int c), .no, .no]))) _) = _ ∧ _
  rw [ne_nil fs, e_mix c 9781 5 (by decide) (by decide) (by decide), e_mix c 9769 5 (by decide) (by decide) (by decide)]
  obtain ⟨m0, m1⟩ := mix_in (c := c) (p := 9769) (m := 5) (by decide)
  show ∃ t, bodyR (seqO (ifO (.ok (decide ((0 : Int) < mix c 9781 5))) (seqO (setO 2 (.ok (.int (mix c 9769 5))) _) _) _) _) = _ ∧ _
  rw [ifgo]
  generalize mix c 9769 5 = at' at m0 m1
  cases decide ((0 : Int) < mix c 9781 5) with
  | true =>
    rw [if_pos rfl]
    have hat : at' = 0 ∨ at' = 1 ∨ at' = 2 ∨ at' = 3 ∨ at' = 4 := by omega
    rcases hat with rfl | rfl | rfl | rfl | rfl
    · obtain ⟨u, ee, o⟩ := odd_fl ha k (c + 31 * 0 + 7)
      show ∃ t, bodyR (seqO (retO (op2 addT (op2 addT (.ok (.tup [])) (tupR (consR (m_w_odd (k + 1) [a, .int (c + 31 * 0 + 7)]) (.ok [])))) (.ok (.tup [b, d, e, f])))) _) = _ ∧ _
      rw [ee, retG]
      exact ⟨.tup [u, b, d, e, f], rfl, (ok_of (n := 2) (all_cons (⟨o.pl, o.dp⟩) (all_cons (fl2 hb) (all_cons (fl2 hd) (all_cons (fl2 he) (all_cons (fl2 hf) (all_nil))))))).mono (by decide)⟩
    · obtain ⟨u, ee, o⟩ := odd_fl hb k (c + 31 * 1 + 7)
      show ∃ t, bodyR (seqO (retO (op2 addT (op2 addT (.ok (.tup [a])) (tupR (consR (m_w_odd (k + 1) [b, .int (c + 31 * 1 + 7)]) (.ok [])))) (.ok (.tup [d, e, f])))) _) = _ ∧ _
      rw [ee, retG]
      exact ⟨.tup [a, u, d, e, f], rfl, (ok_of (n := 2) (all_cons (fl2 ha) (all_cons (⟨o.pl, o.dp⟩) (all_cons (fl2 hd) (all_cons (fl2 he) (all_cons (fl2 hf) (all_nil))))))).mono (by decide)⟩
    · obtain ⟨u, ee, o⟩ := odd_fl hd k (c + 31 * 2 + 7)
      show ∃ t, bodyR (seqO (retO (op2 addT (op2 addT (.ok (.tup [a, b])) (tupR (consR (m_w_odd (k + 1) [d, .int (c + 31 * 2 + 7)]) (.ok [])))) (.ok (.tup [e, f])))) _) = _ ∧ _
      rw [ee, retG]
      exact ⟨.tup [a, b, u, e, f], rfl, (ok_of (n := 2) (all_cons (fl2 ha) (all_cons (fl2 hb) (all_cons (⟨o.pl, o.dp⟩) (all_cons (fl2 he) (all_cons (fl2 hf) (all_nil))))))).mono (by decide)⟩
    · obtain ⟨u, ee, o⟩ := odd_fl he k (c + 31 * 3 + 7)
      show ∃ t, bodyR (seqO (retO (op2 addT (op2 addT (.ok (.tup [a, b, d])) (tupR (consR (m_w_odd (k + 1) [e, .int (c + 31 * 3 + 7)]) (.ok [])))) (.ok (.tup [f])))) _) = _ ∧ _
      rw [ee, retG]
      exact ⟨.tup [a, b, d, u, f], rfl, (ok_of (n := 2) (all_cons (fl2 ha) (all_cons (fl2 hb) (all_cons (fl2 hd) (all_cons (⟨o.pl, o.dp⟩) (all_cons (fl2 hf) (all_nil))))))).mono (by decide)⟩
    · obtain ⟨u, ee, o⟩ := odd_fl hf k (c + 31 * 4 + 7)
      show ∃ t, bodyR (seqO (retO (op2 addT (op2 addT (.ok (.tup [a, b, d, e])) (tupR (consR (m_w_odd (k + 1) [f, .int (c + 31 * 4 + 7)]) (.ok [])))) (.ok (.tup [])))) _) = _ ∧ _
      rw [ee, retG]
      exact ⟨.tup [a, b, d, e, u], rfl, (ok_of (n := 2) (all_cons (fl2 ha) (all_cons (fl2 hb) (all_cons (fl2 hd) (all_cons (fl2 he) (all_cons (⟨o.pl, o.dp⟩) (all_nil))))))).mono (by decide)⟩
  | false =>
    rw [if_neg Bool.false_ne_true]
    show ∃ t, bodyR (seqO (setO 3 (.ok (.lst base16)) [.sh (.tup [a, b, d, e, f]), .sh (.int c), .no, .no]) _) = _ ∧ _
    rw [stepS rfl]
    show ∃ t, bodyR (seqO (setO 3 (op2 addT (.ok (.lst base16)) (op2 mulT (lstR (.ok [.lst [a, b, d, e, f], .tup [a, b, d, e, f, f], .tup [a, b, d, e], .tup [f, e, d, b, a], .tup [b, d, e, f], .tup [.tup [a, b, d, e, f]]])) (.ok (.int 2)))) [.sh (.tup [a, b, d, e, f]), .sh (.int c), .no, .sh (.lst base16)]) _) = _ ∧ _
    have q2 : op2 addT (.ok (.lst base16)) (op2 mulT (lstR (.ok [.lst [a, b, d, e, f], .tup [a, b, d, e, f, f], .tup [a, b, d, e], .tup [f, e, d, b, a], .tup [b, d, e, f], .tup [.tup [a, b, d, e, f]]])) (.ok (.int 2))) = .ok (.lst (base16 ++ ([.lst [a, b, d, e, f], .tup [a, b, d, e, f, f], .tup [a, b, d, e], .tup [f, e, d, b, a], .tup [b, d, e, f], .tup [.tup [a, b, d, e, f]]] ++ [.lst [a, b, d, e, f], .tup [a, b, d, e, f, f], .tup [a, b, d, e], .tup [f, e, d, b, a], .tup [b, d, e, f], .tup [.tup [a, b, d, e, f]]]))) := rfl
    rw [stepS q2]
    have six' : ∀ t ∈ ([.lst [a, b, d, e, f], .tup [a, b, d, e, f, f], .tup [a, b, d, e], .tup [f, e, d, b, a], .tup [b, d, e, f], .tup [.tup [a, b, d, e, f]]] : List Tr), Ok2 4 t := by
      refine all_cons ((ok_ofL fs).mono (by decide)) (all_cons ((ok_of (n := 0) (all_cons (fl0 ha) (all_cons (fl0 hb) (all_cons (fl0 hd) (all_cons (fl0 he) (all_cons (fl0 hf) (all_cons (fl0 hf) (all_nil)))))))).mono (by decide)) (all_cons ((ok_of (n := 0) (all_cons (fl0 ha) (all_cons (fl0 hb) (all_cons (fl0 hd) (all_cons (fl0 he) (all_nil)))))).mono (by decide)) (all_cons ((ok_of (n := 0) (all_cons (fl0 hf) (all_cons (fl0 he) (all_cons (fl0 hd) (all_cons (fl0 hb) (all_cons (fl0 ha) (all_nil))))))).mono (by decide)) (all_cons ((ok_of (n := 0) (all_cons (fl0 hb) (all_cons (fl0 hd) (all_cons (fl0 he) (all_cons (fl0 hf) (all_nil)))))).mono (by decide)) (all_cons ((ok_of (n := 1) (all_cons ⟨(ok_of fs).pl, (ok_of fs).dp⟩ all_nil)).mono (by decide)) all_nil)))))
    exact lastP _ c (by show 0 < 28; decide) (all2 (fun t m => (base_ok t m).mono (by decide)) (all2 six' six'))
end M3

set_option maxHeartbeats 1000000
namespace M3
open PySem L2
theorem nms_len : ∀ x ∈ nms, x.length ≤ 100 := by decide +kernel
theorem nms_ok : ∀ x ∈ nms, nmT (.str x) = true := by decide +kernel
theorem bare_len : ∀ x ∈ M3.bare, x.length ≤ 100 := by decide +kernel
theorem whom_len : ∀ x ∈ M3.whom, x.length ≤ 100 := by decide +kernel
theorem rls_len : ∀ x ∈ rls, x.length ≤ 100 := by decide +kernel
theorem rls_ok : ∀ x ∈ rls, inz (.str x) rls = true := by decide +kernel
theorem six_len : ∀ p ∈ six, p.1.length ≤ 100 ∧ p.2.length ≤ 100 := by decide +kernel
theorem six_ok : ∀ p ∈ six, seT (.str p.1) (.str p.2) = true := by decide +kernel
theorem bare_ok : ∀ w ∈ M3.bare, paT (.str w) [] = true := by decide +kernel
theorem whom_pa (x : Str) (hx : nmT (.str x) = true) : ∀ w ∈ M3.whom, paT (.str w) [.str x] = true := by
  intro w hw
  have e1 : inz (.str w) M3.bare = false := by revert w; decide +kernel
  have e2 : inz (.str w) M3.whom = true := by revert w; decide +kernel
  unfold paT
  rw [e1, e2, if_neg Bool.false_ne_true, if_pos rfl]
  show (true && nmT (.str x)) = true
  rw [hx]
  rfl
theorem wd_ok {z : Str} (h1 : 1 ≤ z.length) (h2 : z.length ≤ 60) : wdT (.str z) = true := by
  show (decide ((1 : Int) ≤ z.length) && decide ((z.length : Int) ≤ 60)) = true
  rw [decide_eq_true (by omega), decide_eq_true (by omega)]
  rfl
theorem nu_ok {n : Int} (h : 1 ≤ n) : nuT (.int n) = true := decide_eq_true h
theorem gp_ok {w : Str} {ps : List Tr} (h : GP w ps) : paT (.str w) ps = true ∧ (∀ t ∈ ps, Fl t) ∧ w.length ≤ 100 := by
  cases h with
  | bare h => exact ⟨bare_ok w h, all_nil, bare_len w h⟩
  | set h => exact ⟨six_ok _ h, all_cons (.str _ (six_len _ h).1) (all_cons (.str _ (six_len _ h).2) all_nil), by decide⟩
  | whom h hx => exact ⟨whom_pa _ (nms_ok _ hx) w h, all_cons (.str _ (nms_len _ hx)) all_nil, whom_len w h⟩
  | @role x r hx hr =>
    refine ⟨?_, all_cons (.str _ (nms_len _ hx)) (all_cons (.str _ (rls_len _ hr)) all_nil), by decide⟩
    show (nmT (.str x) && inz (.str r) rls) = true
    rw [nms_ok x hx, rls_ok r hr]
    rfl
  | @say z a h1 h2 ha =>
    refine ⟨?_, all_cons (.str _ (by omega)) (all_cons ?_ all_nil), by decide⟩
    · show (wdT (.str z) && anT a) = true
      rw [wd_ok h1 h2]
      rcases ha with rfl | ⟨n, rfl, hn⟩
      · rfl
      · exact nu_ok hn
    · rcases ha with rfl | ⟨n, rfl, _⟩
      · exact .non
      · exact .int n
  | @mend n z hn h1 h2 =>
    refine ⟨?_, all_cons (.int n) (all_cons (.str _ (by omega)) all_nil), by decide⟩
    show (nuT (.int n) && wdT (.str z)) = true
    rw [nu_ok hn, wd_ok h1 h2]
    rfl
  | @gone n hn => exact ⟨nu_ok hn, all_cons (.int n) all_nil, by decide⟩
theorem good_row {t : Tr} (h : Good t) : m_is_row [t] = .ok (.bl true) := by
  obtain ⟨n, who, w, ps, rfl, hn, hw, g⟩ := h
  obtain ⟨p, f, _⟩ := gp_ok g
  have al : ∀ t ∈ Tr.int n :: .str who :: .str w :: ps, plT t = true ∧ dT t ≤ 0 := all_cons (fl0 (.int n)) (all_cons (fl0 (.str who (nms_len who hw))) (all_cons ⟨rfl, Nat.le_refl _⟩ fun t m => fl0 (f t m)))
  have o := ok_of al
  rw [e_row _ o.pl (Nat.le_trans o.dp (by decide))]
  have e : rwT (.tup (.int n :: .str who :: .str w :: ps)) = (decide (3 ≤ (Tr.int n :: .str who :: .str w :: ps).length) && (nuT (.int n) && (nmT (.str who) && paT (.str w) ps))) := rfl
  rw [e, nu_ok hn, nms_ok who hw, p, decide_eq_true (by simp only [List.length_cons]; omega)]
  rfl
theorem good_odd {t : Tr} (h : Good t) (k : Nat) (c : Int) : ∃ u, m_w_odd (k + 2) [t, .int c] = .ok u ∧ Ok2 4 u := by
  obtain ⟨n, who, w, ps, rfl, hn, hw, g⟩ := h
  obtain ⟨_, f, hl⟩ := gp_ok g
  have f1 : Fl (.int n) := .int n
  have f2 : Fl (.str who) := .str who (nms_len who hw)
  have f3 : Fl (.str w) := .str w hl
  have hp : (∃ x y, ps = [x, y]) ∨ (∃ x, ps = [x]) ∨ ps = [] := by
    cases g with
    | bare _ => exact .inr (.inr rfl)
    | set _ => exact .inl ⟨_, _, rfl⟩
    | whom _ _ => exact .inr (.inl ⟨_, rfl⟩)
    | role _ _ => exact .inl ⟨_, _, rfl⟩
    | say _ _ _ => exact .inl ⟨_, _, rfl⟩
    | mend _ _ _ => exact .inl ⟨_, _, rfl⟩
    | gone _ => exact .inr (.inl ⟨_, rfl⟩)
  rcases hp with ⟨x, y, rfl⟩ | ⟨x, rfl⟩ | rfl
  · exact odd_tup5 f1 f2 f3 (f x (by simp)) (f y (by simp)) k c
  · exact odd_tup4 f1 f2 f3 (f x (by simp)) k c
  · exact odd_tup3 f1 f2 f3 k c
theorem good_no {t : Tr} (h : Good t) : ∃ bs, m_w_no_rows [t] = .ok (.lst bs) ∧ ∀ b ∈ bs, Bad b := by
  obtain ⟨n, who, w, ps, rfl, hn, hw, g⟩ := h
  cases g with
  | bare h => exact no_bare n who w h
  | set h => exact no_set n who _ _
  | whom h hx => exact no_whom n who _ w h
  | role hx hr => exact no_role n who _ _
  | say h1 h2 ha =>
    rcases ha with rfl | ⟨k, rfl, _⟩
    · exact no_say0 n who _
    · exact no_say1 n who _ k
  | mend hn h1 h2 => exact no_mend n who _ _
  | gone hn => exact no_gone n who _
theorem for_inv {i : Nat} {G : Rho → Rs Out} (I : Rho → Prop) (P : Tr → Prop) (h : ∀ t ρ, P t → I ρ → ∃ ρ', G (ρ.set i (.sh t)) = .ok (.nx ρ') ∧ I ρ') : ∀ (ts : List Tr) (ρ : Rho), (∀ t ∈ ts, P t) → I ρ → ∃ ρ', forO (gN i) G ts ρ = .ok (.nx ρ') ∧ I ρ'
  | [], ρ, _, hi => ⟨ρ, rfl, hi⟩
  | t :: ts, ρ, hp, hi => by
    obtain ⟨ρ1, e, h1⟩ := h t ρ (hp t (List.mem_cons_self ..)) hi
    obtain ⟨ρ2, e2, h2⟩ := for_inv I P h ts ρ1 (fun u m => hp u (List.mem_cons_of_mem _ m)) h1
    exact ⟨ρ2, for1 e e2, h2⟩
theorem rng_ints (n : Nat) : ∀ t ∈ rngT 0 n, ∃ k : Int, t = .int k ∧ 0 ≤ k := by
  intro t m
  unfold rngT at m
  obtain ⟨k, _, rfl⟩ := List.mem_map.mp m
  exact ⟨_, rfl, by omega⟩
theorem loop_ok {T : Tgt} {G : Rho → Rs Out} {ts : List Tr} {ρ : Rho} : loopO T G (.ok ts) ρ = forO T G ts ρ := rfl
theorem law_true (ns : List Int) : m_law [.scr ns] = .ok (.bl true) := by
  have r12 : rng1W (consR (Rs.ok (.int 12)) (.ok [])) = .ok (rngT 0 12) := by
    show rng1W (.ok [.int 12]) = _
    rw [rng1_eq, if_pos (by decide)]
    rfl
  have r20 : rng1W (consR (Rs.ok (.int 20)) (.ok [])) = .ok (rngT 0 20) := by
    show rng1W (.ok [.int 20]) = _
    rw [rng1_eq, if_pos (by decide)]
    rfl
  have key : m_law [.scr ns] = bodyR (g_law [.sh (.scr ns), .no, .no, .no, .no, .no, .no, .no]) := mirE rfl
  rw [key]
  unfold g_law
  rw [r12, loop_ok]
  have step : ∀ (t : Tr) (ρ : Rho), (∃ k : Int, t = .int k ∧ 0 ≤ k) → (∃ x1 x2 x3 x4 x5 x6 x7, ρ = [.sh (.scr ns), x1, x2, x3, x4, x5, x6, x7]) → ∃ ρ', (fun ρ => seqO (setO 2 (callR m_w_any_row (consR (op2 addT (callR m_w_cell (consR (getS ρ 0) (consR (op2 modT (getS ρ 1) (Rs.ok (.int 8))) (.ok [])))) (op2 mulT (Rs.ok (.int 31)) (getS ρ 1))) (.ok []))) ρ) fun ρ => seqO (ifO (asB (op2 isnC (callR m_is_row (consR (getS ρ 2) (.ok []))) (Rs.ok (.bl true)))) (retO (Rs.ok (.bl false))) (.ok (.nx ρ))) fun ρ => seqO (loopO (gN 3) (fun ρ => seqO (setO 4 (callR (m_w_odd 3) (consR (getS ρ 2) (consR (op2 addT (op2 addT (callR m_w_cell (consR (getS ρ 0) (consR (Rs.ok (.int 8)) (.ok [])))) (op2 mulT (Rs.ok (.int 17)) (getS ρ 3))) (op2 mulT (Rs.ok (.int 3)) (getS ρ 1))) (.ok [])))) ρ) fun ρ => seqO (parO 5 6 (consR (callR m_is_row (consR (getS ρ 4) (.ok []))) (consR (callR m_w_is_row (consR (getS ρ 4) (.ok []))) (.ok []))) ρ) fun ρ => ifO (orB (andB (asB (op2 isnC (getS ρ 5) (Rs.ok (.bl true)))) ((getS ρ 6).bind truT)) (andB (asB (op2 isnC (getS ρ 5) (Rs.ok (.bl false)))) (notB ((getS ρ 6).bind truT)))) (retO (Rs.ok (.bl false))) (.ok (.nx ρ))) (rng1W (consR (Rs.ok (.int 20)) (.ok []))) ρ) fun ρ => loopO (gN 7) (fun ρ => ifO (asB (op2 isnC (callR m_is_row (consR (getS ρ 7) (.ok []))) (Rs.ok (.bl false)))) (retO (Rs.ok (.bl false))) (.ok (.nx ρ))) (seqW (callR m_w_no_rows (consR (getS ρ 2) (.ok [])))) ρ) (ρ.set 1 (.sh t)) = .ok (.nx ρ') ∧ ∃ x1 x2 x3 x4 x5 x6 x7, ρ' = [.sh (.scr ns), x1, x2, x3, x4, x5, x6, x7] := by
    rintro t ρ ⟨k, rfl, hk⟩ ⟨x1, x2, x3, x4, x5, x6, x7, rfl⟩
    have m8 : modT (.int k) (.int 8) = .ok (.int (k % 8)) := mod_ok (by decide)
    have m31 : mulT (.int 31) (.int k) = .ok (.int (31 * k)) := mul_ok (.inl ⟨by decide, by decide⟩)
    have m3 : mulT (.int 3) (.int k) = .ok (.int (3 * k)) := mul_ok (.inl ⟨by decide, by decide⟩)
    obtain ⟨c, ec⟩ := e_cell ns (k % 8) (by omega)
    obtain ⟨row, er, hg⟩ := e_any (c + 31 * k)
    have s1 : callR m_w_any_row (consR (op2 addT (callR m_w_cell (consR (.ok (.scr ns)) (consR (op2 modT (.ok (.int k)) (Rs.ok (.int 8))) (.ok [])))) (op2 mulT (Rs.ok (.int 31)) (.ok (.int k)))) (.ok [])) = .ok row := by
      show callR m_w_any_row (consR (op2 addT (callR m_w_cell (consR (.ok (.scr ns)) (consR (modT (.int k) (.int 8)) (.ok [])))) (mulT (.int 31) (.int k))) (.ok [])) = _
      rw [m8, m31]
      show callR m_w_any_row (consR (op2 addT (m_w_cell [.scr ns, .int (k % 8)]) (.ok (.int (31 * k)))) (.ok [])) = _
      rw [ec]
      exact er
    have step2 : ∀ (t : Tr) (ρ : Rho), (∃ k : Int, t = .int k ∧ 0 ≤ k) → (∃ x3 x4 x5 x6 x7, ρ = [.sh (.scr ns), .sh (.int k), .sh row, x3, x4, x5, x6, x7]) → ∃ ρ', (fun ρ => seqO (setO 4 (callR (m_w_odd 3) (consR (getS ρ 2) (consR (op2 addT (op2 addT (callR m_w_cell (consR (getS ρ 0) (consR (Rs.ok (.int 8)) (.ok [])))) (op2 mulT (Rs.ok (.int 17)) (getS ρ 3))) (op2 mulT (Rs.ok (.int 3)) (getS ρ 1))) (.ok [])))) ρ) fun ρ => seqO (parO 5 6 (consR (callR m_is_row (consR (getS ρ 4) (.ok []))) (consR (callR m_w_is_row (consR (getS ρ 4) (.ok []))) (.ok []))) ρ) fun ρ => ifO (orB (andB (asB (op2 isnC (getS ρ 5) (Rs.ok (.bl true)))) ((getS ρ 6).bind truT)) (andB (asB (op2 isnC (getS ρ 5) (Rs.ok (.bl false)))) (notB ((getS ρ 6).bind truT)))) (retO (Rs.ok (.bl false))) (.ok (.nx ρ))) (ρ.set 3 (.sh t)) = .ok (.nx ρ') ∧ ∃ x3 x4 x5 x6 x7, ρ' = [.sh (.scr ns), .sh (.int k), .sh row, x3, x4, x5, x6, x7] := by
      rintro t ρ ⟨j, rfl, hj⟩ ⟨y3, y4, y5, y6, y7, rfl⟩
      have m17 : mulT (.int 17) (.int j) = .ok (.int (17 * j)) := mul_ok (.inl ⟨by decide, by decide⟩)
      obtain ⟨c8, ec8⟩ := e_cell ns 8 (by decide)
      obtain ⟨u, eu, ou⟩ := good_odd hg 1 (c8 + 17 * j + 3 * k)
      have s4 : callR (m_w_odd 3) (consR (.ok row) (consR (op2 addT (op2 addT (callR m_w_cell (consR (.ok (.scr ns)) (consR (Rs.ok (.int 8)) (.ok [])))) (op2 mulT (Rs.ok (.int 17)) (.ok (.int j)))) (op2 mulT (Rs.ok (.int 3)) (.ok (.int k)))) (.ok []))) = .ok u := by
        show callR (m_w_odd 3) (consR (.ok row) (consR (op2 addT (op2 addT (m_w_cell [.scr ns, .int 8]) (mulT (.int 17) (.int j))) (mulT (.int 3) (.int k))) (.ok []))) = _
        rw [ec8, m17, m3]
        exact eu
      refine ⟨[.sh (.scr ns), .sh (.int k), .sh row, .sh (.int j), .sh u, .sh (.bl (rwT u)), .sh (.bl (rwT u)), y7], sqS s4 ?_, _, _, _, _, _, rfl⟩
      show seqO (parO 5 6 (consR (m_is_row [u]) (consR (m_w_is_row [u]) (.ok []))) [.sh (.scr ns), .sh (.int k), .sh row, .sh (.int j), .sh u, y5, y6, y7]) _ = _
      have d40 : dT u ≤ 40 := Nat.le_trans ou.dp (by decide)
      rw [e_row u ou.pl d40, e_lrow u ou.pl d40]
      cases rwT u <;> rfl
    obtain ⟨ρ2, e2, i2⟩ := for_inv (i := 3) (G := (fun ρ => seqO (setO 4 (callR (m_w_odd 3) (consR (getS ρ 2) (consR (op2 addT (op2 addT (callR m_w_cell (consR (getS ρ 0) (consR (Rs.ok (.int 8)) (.ok [])))) (op2 mulT (Rs.ok (.int 17)) (getS ρ 3))) (op2 mulT (Rs.ok (.int 3)) (getS ρ 1))) (.ok [])))) ρ) fun ρ => seqO (parO 5 6 (consR (callR m_is_row (consR (getS ρ 4) (.ok []))) (consR (callR m_w_is_row (consR (getS ρ 4) (.ok []))) (.ok []))) ρ) fun ρ => ifO (orB (andB (asB (op2 isnC (getS ρ 5) (Rs.ok (.bl true)))) ((getS ρ 6).bind truT)) (andB (asB (op2 isnC (getS ρ 5) (Rs.ok (.bl false)))) (notB ((getS ρ 6).bind truT)))) (retO (Rs.ok (.bl false))) (.ok (.nx ρ)))) (fun ρ => ∃ x3 x4 x5 x6 x7, ρ = [.sh (.scr ns), .sh (.int k), .sh row, x3, x4, x5, x6, x7]) (fun t => ∃ k : Int, t = .int k ∧ 0 ≤ k) step2 (rngT 0 20) [.sh (.scr ns), .sh (.int k), .sh row, x3, x4, x5, x6, x7] (rng_ints 20) ⟨_, _, _, _, _, rfl⟩
    obtain ⟨y3, y4, y5, y6, y7, rfl⟩ := i2
    obtain ⟨bs, eb, hb⟩ := good_no hg
    obtain ⟨ρ3, e3, i3⟩ := for_inv (i := 7) (G := fun ρ => ifO (asB (op2 isnC (callR m_is_row (consR (getS ρ 7) (.ok []))) (Rs.ok (.bl false)))) (retO (Rs.ok (.bl false))) (.ok (.nx ρ)))
      (fun ρ => ∃ y7, ρ = [.sh (.scr ns), .sh (.int k), .sh row, y3, y4, y5, y6, y7]) Bad (fun b ρ hb' ⟨z7, hz⟩ => by
        subst hz
        refine ⟨[.sh (.scr ns), .sh (.int k), .sh row, y3, y4, y5, y6, .sh b], ?_, _, rfl⟩
        show ifO (asB (op2 isnC (m_is_row [b]) (Rs.ok (.bl false)))) (retO (Rs.ok (.bl false))) (.ok (.nx [.sh (.scr ns), .sh (.int k), .sh row, y3, y4, y5, y6, .sh b])) = _
        rw [e_row b hb'.pl hb'.dp, hb'.no]
        rfl) bs [.sh (.scr ns), .sh (.int k), .sh row, y3, y4, y5, y6, y7] hb ⟨_, rfl⟩
    obtain ⟨w7, rfl⟩ := i3
    refine ⟨[.sh (.scr ns), .sh (.int k), .sh row, y3, y4, y5, y6, w7], sqS s1 ?_, _, _, _, _, _, _, _, rfl⟩
    refine sqI (b := false) (ρ' := [.sh (.scr ns), .sh (.int k), .sh row, x3, x4, x5, x6, x7]) ?_ rfl ?_
    · show asB (op2 isnC (m_is_row [row]) (Rs.ok (.bl true))) = _
      rw [good_row hg]
      rfl
    · rw [r20, loop_ok, e2]
      show loopO (gN 7) _ (seqW (m_w_no_rows [row])) [.sh (.scr ns), .sh (.int k), .sh row, y3, y4, y5, y6, y7] = _
      rw [eb]
      exact e3
  obtain ⟨ρ9, e9, i9⟩ := for_inv (i := 1) (G := (fun ρ => seqO (setO 2 (callR m_w_any_row (consR (op2 addT (callR m_w_cell (consR (getS ρ 0) (consR (op2 modT (getS ρ 1) (Rs.ok (.int 8))) (.ok [])))) (op2 mulT (Rs.ok (.int 31)) (getS ρ 1))) (.ok []))) ρ) fun ρ => seqO (ifO (asB (op2 isnC (callR m_is_row (consR (getS ρ 2) (.ok []))) (Rs.ok (.bl true)))) (retO (Rs.ok (.bl false))) (.ok (.nx ρ))) fun ρ => seqO (loopO (gN 3) (fun ρ => seqO (setO 4 (callR (m_w_odd 3) (consR (getS ρ 2) (consR (op2 addT (op2 addT (callR m_w_cell (consR (getS ρ 0) (consR (Rs.ok (.int 8)) (.ok [])))) (op2 mulT (Rs.ok (.int 17)) (getS ρ 3))) (op2 mulT (Rs.ok (.int 3)) (getS ρ 1))) (.ok [])))) ρ) fun ρ => seqO (parO 5 6 (consR (callR m_is_row (consR (getS ρ 4) (.ok []))) (consR (callR m_w_is_row (consR (getS ρ 4) (.ok []))) (.ok []))) ρ) fun ρ => ifO (orB (andB (asB (op2 isnC (getS ρ 5) (Rs.ok (.bl true)))) ((getS ρ 6).bind truT)) (andB (asB (op2 isnC (getS ρ 5) (Rs.ok (.bl false)))) (notB ((getS ρ 6).bind truT)))) (retO (Rs.ok (.bl false))) (.ok (.nx ρ))) (rng1W (consR (Rs.ok (.int 20)) (.ok []))) ρ) fun ρ => loopO (gN 7) (fun ρ => ifO (asB (op2 isnC (callR m_is_row (consR (getS ρ 7) (.ok []))) (Rs.ok (.bl false)))) (retO (Rs.ok (.bl false))) (.ok (.nx ρ))) (seqW (callR m_w_no_rows (consR (getS ρ 2) (.ok [])))) ρ)) (fun ρ => ∃ x1 x2 x3 x4 x5 x6 x7, ρ = [.sh (.scr ns), x1, x2, x3, x4, x5, x6, x7]) (fun t => ∃ k : Int, t = .int k ∧ 0 ≤ k) step (rngT 0 12) [.sh (.scr ns), .no, .no, .no, .no, .no, .no, .no] (rng_ints 12) ⟨_, _, _, _, _, _, _, rfl⟩
  rw [e9]
  obtain ⟨x1, x2, x3, x4, x5, x6, x7, rfl⟩ := i9
  show bodyR (retO (andV (op2 isC (m_is_row [.tup [.int 1, .str "ann", .str "say", .str "hi", .non]]) (Rs.ok (.bl true))) (op2 isC (m_is_row [.tup [.int 1, .str "ann", .str "set", .str "door", .str "all"]]) (Rs.ok (.bl false))))) = _
  rw [e_row _ rfl (Nat.le_of_ble_eq_true rfl), e_row _ rfl (Nat.le_of_ble_eq_true rfl)]
  have a1 : rwT (.tup [.int 1, .str "ann", .str "say", .str "hi", .non]) = true := by decide +kernel
  have a2 : rwT (.tup [.int 1, .str "ann", .str "set", .str "door", .str "all"]) = false := by decide +kernel
  rw [a1, a2]
  rfl
end M3

namespace M3
open PySem L2
theorem all_mk {l : PySem.W.OpenLaw} {w : World} {K : PySem.W.Frag} {h : Heap} {mg : Str → Option Value} {fa : Addr} (X : K.In h) (G : h.Ns mainGlobals mg) (hfa : mg "law" = some (.ref fa))
    {f1 : Addr} {od1 an1 : Option Addr} {sl1 : Array (Option Value)} {oc1 kV1 dc1 pm1 cd1 ct1 : Value} (a1 : PySem.W.nsIn K mainGlobals "is_letter" = some (some (.ref f1)))
    (l1 : K.lookup f1 = some ⟨oc1, od1, .func (PySem.W.fnOf "is_letter" "is_letter" (defArgs s_is_letter) (defBody s_is_letter) (defScope s_is_letter) .none kV1 dc1 pm1 an1 cd1 ct1), sl1⟩) (c1 : PySem.W.codeIn K cd1 "is_letter" = true) (k1 : PySem.W.keepIn K (.ref f1) = true)
    {f2 : Addr} {od2 an2 : Option Addr} {sl2 : Array (Option Value)} {oc2 kV2 dc2 pm2 cd2 ct2 : Value} (a2 : PySem.W.nsIn K mainGlobals "is_name" = some (some (.ref f2)))
    (l2 : K.lookup f2 = some ⟨oc2, od2, .func (PySem.W.fnOf "is_name" "is_name" (defArgs s_is_name) (defBody s_is_name) (defScope s_is_name) .none kV2 dc2 pm2 an2 cd2 ct2), sl2⟩) (c2 : PySem.W.codeIn K cd2 "is_name" = true) (k2 : PySem.W.keepIn K (.ref f2) = true)
    {f3 : Addr} {od3 an3 : Option Addr} {sl3 : Array (Option Value)} {oc3 kV3 dc3 pm3 cd3 ct3 : Value} (a3 : PySem.W.nsIn K mainGlobals "is_words" = some (some (.ref f3)))
    (l3 : K.lookup f3 = some ⟨oc3, od3, .func (PySem.W.fnOf "is_words" "is_words" (defArgs s_is_words) (defBody s_is_words) (defScope s_is_words) .none kV3 dc3 pm3 an3 cd3 ct3), sl3⟩) (c3 : PySem.W.codeIn K cd3 "is_words" = true) (k3 : PySem.W.keepIn K (.ref f3) = true)
    {f4 : Addr} {od4 an4 : Option Addr} {sl4 : Array (Option Value)} {oc4 kV4 dc4 pm4 cd4 ct4 : Value} (a4 : PySem.W.nsIn K mainGlobals "is_whole" = some (some (.ref f4)))
    (l4 : K.lookup f4 = some ⟨oc4, od4, .func (PySem.W.fnOf "is_whole" "is_whole" (defArgs s_is_whole) (defBody s_is_whole) (defScope s_is_whole) .none kV4 dc4 pm4 an4 cd4 ct4), sl4⟩) (c4 : PySem.W.codeIn K cd4 "is_whole" = true) (k4 : PySem.W.keepIn K (.ref f4) = true)
    {f5 : Addr} {od5 an5 : Option Addr} {sl5 : Array (Option Value)} {oc5 kV5 dc5 pm5 cd5 ct5 : Value} (a5 : PySem.W.nsIn K mainGlobals "is_number" = some (some (.ref f5)))
    (l5 : K.lookup f5 = some ⟨oc5, od5, .func (PySem.W.fnOf "is_number" "is_number" (defArgs s_is_number) (defBody s_is_number) (defScope s_is_number) .none kV5 dc5 pm5 an5 cd5 ct5), sl5⟩) (c5 : PySem.W.codeIn K cd5 "is_number" = true) (k5 : PySem.W.keepIn K (.ref f5) = true)
    {f6 : Addr} {od6 an6 : Option Addr} {sl6 : Array (Option Value)} {oc6 kV6 dc6 pm6 cd6 ct6 : Value} (a6 : PySem.W.nsIn K mainGlobals "is_answer" = some (some (.ref f6)))
    (l6 : K.lookup f6 = some ⟨oc6, od6, .func (PySem.W.fnOf "is_answer" "is_answer" (defArgs s_is_answer) (defBody s_is_answer) (defScope s_is_answer) .none kV6 dc6 pm6 an6 cd6 ct6), sl6⟩) (c6 : PySem.W.codeIn K cd6 "is_answer" = true) (k6 : PySem.W.keepIn K (.ref f6) = true)
    {f7 : Addr} {od7 an7 : Option Addr} {sl7 : Array (Option Value)} {oc7 kV7 dc7 pm7 cd7 ct7 : Value} (a7 : PySem.W.nsIn K mainGlobals "is_setting" = some (some (.ref f7)))
    (l7 : K.lookup f7 = some ⟨oc7, od7, .func (PySem.W.fnOf "is_setting" "is_setting" (defArgs s_is_setting) (defBody s_is_setting) (defScope s_is_setting) .none kV7 dc7 pm7 an7 cd7 ct7), sl7⟩) (c7 : PySem.W.codeIn K cd7 "is_setting" = true) (k7 : PySem.W.keepIn K (.ref f7) = true)
    {f8 : Addr} {od8 an8 : Option Addr} {sl8 : Array (Option Value)} {oc8 kV8 dc8 pm8 cd8 ct8 : Value} (a8 : PySem.W.nsIn K mainGlobals "are_two_parts" = some (some (.ref f8)))
    (l8 : K.lookup f8 = some ⟨oc8, od8, .func (PySem.W.fnOf "are_two_parts" "are_two_parts" (defArgs s_are_two_parts) (defBody s_are_two_parts) (defScope s_are_two_parts) .none kV8 dc8 pm8 an8 cd8 ct8), sl8⟩) (c8 : PySem.W.codeIn K cd8 "are_two_parts" = true) (k8 : PySem.W.keepIn K (.ref f8) = true)
    {f9 : Addr} {od9 an9 : Option Addr} {sl9 : Array (Option Value)} {oc9 kV9 dc9 pm9 cd9 ct9 : Value} (a9 : PySem.W.nsIn K mainGlobals "are_parts" = some (some (.ref f9)))
    (l9 : K.lookup f9 = some ⟨oc9, od9, .func (PySem.W.fnOf "are_parts" "are_parts" (defArgs s_are_parts) (defBody s_are_parts) (defScope s_are_parts) .none kV9 dc9 pm9 an9 cd9 ct9), sl9⟩) (c9 : PySem.W.codeIn K cd9 "are_parts" = true) (k9 : PySem.W.keepIn K (.ref f9) = true)
    {f10 : Addr} {od10 an10 : Option Addr} {sl10 : Array (Option Value)} {oc10 kV10 dc10 pm10 cd10 ct10 : Value} (a10 : PySem.W.nsIn K mainGlobals "is_row" = some (some (.ref f10)))
    (l10 : K.lookup f10 = some ⟨oc10, od10, .func (PySem.W.fnOf "is_row" "is_row" (defArgs s_is_row) (defBody s_is_row) (defScope s_is_row) .none kV10 dc10 pm10 an10 cd10 ct10), sl10⟩) (c10 : PySem.W.codeIn K cd10 "is_row" = true) (k10 : PySem.W.keepIn K (.ref f10) = true)
    {f11 : Addr} {od11 an11 : Option Addr} {sl11 : Array (Option Value)} {oc11 kV11 dc11 pm11 cd11 ct11 : Value} (a11 : PySem.W.nsIn K mainGlobals "_law_cell" = some (some (.ref f11)))
    (l11 : K.lookup f11 = some ⟨oc11, od11, .func (PySem.W.fnOf "_law_cell" "_law_cell" (defArgs s_w_cell) (defBody s_w_cell) (defScope s_w_cell) .none kV11 dc11 pm11 an11 cd11 ct11), sl11⟩) (c11 : PySem.W.codeIn K cd11 "_law_cell" = true) (k11 : PySem.W.keepIn K (.ref f11) = true)
    {f12 : Addr} {od12 an12 : Option Addr} {sl12 : Array (Option Value)} {oc12 kV12 dc12 pm12 cd12 ct12 : Value} (a12 : PySem.W.nsIn K mainGlobals "_law_mix" = some (some (.ref f12)))
    (l12 : K.lookup f12 = some ⟨oc12, od12, .func (PySem.W.fnOf "_law_mix" "_law_mix" (defArgs s_w_mix) (defBody s_w_mix) (defScope s_w_mix) .none kV12 dc12 pm12 an12 cd12 ct12), sl12⟩) (c12 : PySem.W.codeIn K cd12 "_law_mix" = true) (k12 : PySem.W.keepIn K (.ref f12) = true)
    {f13 : Addr} {od13 an13 : Option Addr} {sl13 : Array (Option Value)} {oc13 kV13 dc13 pm13 cd13 ct13 : Value} (a13 : PySem.W.nsIn K mainGlobals "_law_words" = some (some (.ref f13)))
    (l13 : K.lookup f13 = some ⟨oc13, od13, .func (PySem.W.fnOf "_law_words" "_law_words" (defArgs s_w_words) (defBody s_w_words) (defScope s_w_words) .none kV13 dc13 pm13 an13 cd13 ct13), sl13⟩) (c13 : PySem.W.codeIn K cd13 "_law_words" = true) (k13 : PySem.W.keepIn K (.ref f13) = true)
    {f14 : Addr} {od14 an14 : Option Addr} {sl14 : Array (Option Value)} {oc14 kV14 dc14 pm14 cd14 ct14 : Value} (a14 : PySem.W.nsIn K mainGlobals "_law_any_row" = some (some (.ref f14)))
    (l14 : K.lookup f14 = some ⟨oc14, od14, .func (PySem.W.fnOf "_law_any_row" "_law_any_row" (defArgs s_w_any_row) (defBody s_w_any_row) (defScope s_w_any_row) .none kV14 dc14 pm14 an14 cd14 ct14), sl14⟩) (c14 : PySem.W.codeIn K cd14 "_law_any_row" = true) (k14 : PySem.W.keepIn K (.ref f14) = true)
    {f15 : Addr} {od15 an15 : Option Addr} {sl15 : Array (Option Value)} {oc15 kV15 dc15 pm15 cd15 ct15 : Value} (a15 : PySem.W.nsIn K mainGlobals "_law_no_rows" = some (some (.ref f15)))
    (l15 : K.lookup f15 = some ⟨oc15, od15, .func (PySem.W.fnOf "_law_no_rows" "_law_no_rows" (defArgs s_w_no_rows) (defBody s_w_no_rows) (defScope s_w_no_rows) .none kV15 dc15 pm15 an15 cd15 ct15), sl15⟩) (c15 : PySem.W.codeIn K cd15 "_law_no_rows" = true) (k15 : PySem.W.keepIn K (.ref f15) = true)
    {f16 : Addr} {od16 an16 : Option Addr} {sl16 : Array (Option Value)} {oc16 kV16 dc16 pm16 cd16 ct16 : Value} (a16 : PySem.W.nsIn K mainGlobals "_law_odd" = some (some (.ref f16)))
    (l16 : K.lookup f16 = some ⟨oc16, od16, .func (PySem.W.fnOf "_law_odd" "_law_odd" (defArgs s_w_odd) (defBody s_w_odd) (defScope s_w_odd) .none kV16 dc16 pm16 an16 cd16 ct16), sl16⟩) (c16 : PySem.W.codeIn K cd16 "_law_odd" = true) (k16 : PySem.W.keepIn K (.ref f16) = true)
    {f17 : Addr} {od17 an17 : Option Addr} {sl17 : Array (Option Value)} {oc17 kV17 dc17 pm17 cd17 ct17 : Value} (a17 : PySem.W.nsIn K mainGlobals "_law_is_name" = some (some (.ref f17)))
    (l17 : K.lookup f17 = some ⟨oc17, od17, .func (PySem.W.fnOf "_law_is_name" "_law_is_name" (defArgs s_w_is_name) (defBody s_w_is_name) (defScope s_w_is_name) .none kV17 dc17 pm17 an17 cd17 ct17), sl17⟩) (c17 : PySem.W.codeIn K cd17 "_law_is_name" = true) (k17 : PySem.W.keepIn K (.ref f17) = true)
    {f18 : Addr} {od18 an18 : Option Addr} {sl18 : Array (Option Value)} {oc18 kV18 dc18 pm18 cd18 ct18 : Value} (a18 : PySem.W.nsIn K mainGlobals "_law_is_words" = some (some (.ref f18)))
    (l18 : K.lookup f18 = some ⟨oc18, od18, .func (PySem.W.fnOf "_law_is_words" "_law_is_words" (defArgs s_w_is_words) (defBody s_w_is_words) (defScope s_w_is_words) .none kV18 dc18 pm18 an18 cd18 ct18), sl18⟩) (c18 : PySem.W.codeIn K cd18 "_law_is_words" = true) (k18 : PySem.W.keepIn K (.ref f18) = true)
    {f19 : Addr} {od19 an19 : Option Addr} {sl19 : Array (Option Value)} {oc19 kV19 dc19 pm19 cd19 ct19 : Value} (a19 : PySem.W.nsIn K mainGlobals "_law_is_number" = some (some (.ref f19)))
    (l19 : K.lookup f19 = some ⟨oc19, od19, .func (PySem.W.fnOf "_law_is_number" "_law_is_number" (defArgs s_w_is_number) (defBody s_w_is_number) (defScope s_w_is_number) .none kV19 dc19 pm19 an19 cd19 ct19), sl19⟩) (c19 : PySem.W.codeIn K cd19 "_law_is_number" = true) (k19 : PySem.W.keepIn K (.ref f19) = true)
    {f20 : Addr} {od20 an20 : Option Addr} {sl20 : Array (Option Value)} {oc20 kV20 dc20 pm20 cd20 ct20 : Value} (a20 : PySem.W.nsIn K mainGlobals "_law_is_row" = some (some (.ref f20)))
    (l20 : K.lookup f20 = some ⟨oc20, od20, .func (PySem.W.fnOf "_law_is_row" "_law_is_row" (defArgs s_w_is_row) (defBody s_w_is_row) (defScope s_w_is_row) .none kV20 dc20 pm20 an20 cd20 ct20), sl20⟩) (c20 : PySem.W.codeIn K cd20 "_law_is_row" = true) (k20 : PySem.W.keepIn K (.ref f20) = true)
    {f21 : Addr} {od21 an21 : Option Addr} {sl21 : Array (Option Value)} {oc21 kV21 dc21 pm21 cd21 ct21 : Value} (a21 : PySem.W.nsIn K mainGlobals "law" = some (some (.ref f21)))
    (l21 : K.lookup f21 = some ⟨oc21, od21, .func (PySem.W.fnOf "law" "law" (defArgs s_law) (defBody s_law) (defScope s_law) .none kV21 dc21 pm21 an21 cd21 ct21), sl21⟩) (c21 : PySem.W.codeIn K cd21 "law" = true) (k21 : PySem.W.keepIn K (.ref f21) = true)
    {ga1 : Addr} {go1 : Option Addr} {gn1 : Nat} {gs1 : Array (Option Value)} {u1_0 u1_1 u1_2 : Tok} (b1 : PySem.W.nsIn K mainGlobals "BARE_WORDS" = some (some (.ref ga1))) (v1 : K.lookup ga1 = some ⟨.type "tuple", go1, .seq #[.str "found" u1_0, .str "enter" u1_1, .str "leave" u1_2] gn1, gs1⟩)
    {gt2 : Tok} (b2 : PySem.W.nsIn K mainGlobals "MOST_LETTERS" = some (some (.int 6 gt2)))
    {gt3 : Tok} (b3 : PySem.W.nsIn K mainGlobals "MOST_SIGNS" = some (some (.int 60 gt3)))
    {ga4 : Addr} {go4 : Option Addr} {gn4 : Nat} {gs4 : Array (Option Value)} {u4_0 u4_1 u4_2 u4_3 : Tok} (b4 : PySem.W.nsIn K mainGlobals "ROLES" = some (some (.ref ga4))) (v4 : K.lookup ga4 = some ⟨.type "tuple", go4, .seq #[.str "guest" u4_0, .str "speaker" u4_1, .str "keeper" u4_2, .str "owner" u4_3] gn4, gs4⟩)
    {ga5 : Addr} {go5 : Option Addr} {gn5 : Nat} {gs5 : Array (Option Value)} {u5_0 u5_1 u5_2 u5_3 : Tok} (b5 : PySem.W.nsIn K mainGlobals "WHOM_WORDS" = some (some (.ref ga5))) (v5 : K.lookup ga5 = some ⟨.type "tuple", go5, .seq #[.str "ask" u5_0, .str "unbar" u5_1, .str "out" u5_2, .str "bar" u5_3] gn5, gs5⟩)
    {da1 : Addr} {dn1 : Nat} {y1_0 y1_1 y1_2 : Tok} {p1_0 p1_1 p1_2 : Addr} (e1 : PySem.W.nsIn K mainGlobals "SETTINGS" = some (some (.ref da1))) (d1 : K.lookup da1 = some ⟨.type "dict", none, .dict #[⟨PyData.keyHash w.params "door", .str "door" y1_0, .ref p1_0⟩, ⟨PyData.keyHash w.params "voice", .str "voice" y1_1, .ref p1_1⟩, ⟨PyData.keyHash w.params "past", .str "past" y1_2, .ref p1_2⟩] dn1, #[]⟩) (s1 : (da1 == sysModules) = false)
    {po1_0 : Option Addr} {pn1_0 : Nat} {ps1_0 : Array (Option Value)} {x1_0_0 x1_0_1 : Tok} (r1_0 : K.lookup p1_0 = some ⟨.type "tuple", po1_0, .seq #[.str "open" x1_0_0, .str "asked" x1_0_1] pn1_0, ps1_0⟩)
    {po1_1 : Option Addr} {pn1_1 : Nat} {ps1_1 : Array (Option Value)} {x1_1_0 x1_1_1 : Tok} (r1_1 : K.lookup p1_1 = some ⟨.type "tuple", po1_1, .seq #[.str "all" x1_1_0, .str "some" x1_1_1] pn1_1, ps1_1⟩)
    {po1_2 : Option Addr} {pn1_2 : Nat} {ps1_2 : Array (Option Value)} {x1_2_0 x1_2_1 : Tok} (r1_2 : K.lookup p1_2 = some ⟨.type "tuple", po1_2, .seq #[.str "shown" x1_2_0, .str "hidden" x1_2_1] pn1_2, ps1_2⟩)
    (z1 : PySem.W.nsIn K mainGlobals "all" = some none)
    (z2 : PySem.W.nsIn K mainGlobals "bool" = some none)
    (z3 : PySem.W.nsIn K mainGlobals "int" = some none)
    (z4 : PySem.W.nsIn K mainGlobals "isinstance" = some none)
    (z5 : PySem.W.nsIn K mainGlobals "len" = some none)
    (z6 : PySem.W.nsIn K mainGlobals "list" = some none)
    (z7 : PySem.W.nsIn K mainGlobals "range" = some none)
    (z8 : PySem.W.nsIn K mainGlobals "str" = some none)
    (z9 : PySem.W.nsIn K mainGlobals "tuple" = some none)
    : ∃ fd : FuncData, (∀ (s : Shared) (v : Value), BindsTo s fd ⟨[v], []⟩ [("_law_script", v)]) ∧ ∀ base : Heap, K.In base → base.Ns mainGlobals mg → FnOk l.prog w K mg base CX0 7 fa fd ["_law_script"] (spT K m_law) := by
  cases hfa.symm.trans (PySem.W.mg_of X G a21)
  have T : Gl0 K w mg := ⟨PySem.W.mg_none_of X G z1, PySem.W.mg_none_of X G z2, PySem.W.mg_none_of X G z3, PySem.W.mg_none_of X G z4, PySem.W.mg_none_of X G z5, PySem.W.mg_none_of X G z6, PySem.W.mg_none_of X G z7, PySem.W.mg_none_of X G z8, PySem.W.mg_none_of X G z9, ⟨.ref ga1, _, PySem.W.mg_of X G b1, rfl, fun H => .tup (vs := [.str "found", .str "enter", .str "leave"]) (.inr ⟨_, _, _, v1, rfl, rfl, by show 3 ≤ sizeLine; decide, (.cons ⟨_, rfl⟩ (.cons ⟨_, rfl⟩ (.cons ⟨_, rfl⟩ .nil)))⟩) (.cons (.str _ (by decide)) (.cons (.str _ (by decide)) (.cons (.str _ (by decide)) .nil)))⟩, ⟨.int 6, _, PySem.W.mg_of X G b2, ⟨_, rfl⟩, fun H => .int 6⟩, ⟨.int 60, _, PySem.W.mg_of X G b3, ⟨_, rfl⟩, fun H => .int 60⟩, ⟨.ref ga4, _, PySem.W.mg_of X G b4, rfl, fun H => .tup (vs := [.str "guest", .str "speaker", .str "keeper", .str "owner"]) (.inr ⟨_, _, _, v4, rfl, rfl, by show 4 ≤ sizeLine; decide, (.cons ⟨_, rfl⟩ (.cons ⟨_, rfl⟩ (.cons ⟨_, rfl⟩ (.cons ⟨_, rfl⟩ .nil))))⟩) (.cons (.str _ (by decide)) (.cons (.str _ (by decide)) (.cons (.str _ (by decide)) (.cons (.str _ (by decide)) .nil))))⟩, ⟨.ref ga5, _, PySem.W.mg_of X G b5, rfl, fun H => .tup (vs := [.str "ask", .str "unbar", .str "out", .str "bar"]) (.inr ⟨_, _, _, v5, rfl, rfl, by show 4 ≤ sizeLine; decide, (.cons ⟨_, rfl⟩ (.cons ⟨_, rfl⟩ (.cons ⟨_, rfl⟩ (.cons ⟨_, rfl⟩ .nil))))⟩) (.cons (.str _ (by decide)) (.cons (.str _ (by decide)) (.cons (.str _ (by decide)) (.cons (.str _ (by decide)) .nil))))⟩, KDE.gd (kts := [("door", .tup [.str "open", .str "asked"]), ("voice", .tup [.str "all", .str "some"]), ("past", .tup [.str "shown", .str "hidden"])]) (.cons (v := .ref _) rfl (fun H => .tup (vs := [.str "open", .str "asked"]) (.inr ⟨_, _, _, r1_0, rfl, rfl, by show 2 ≤ sizeLine; decide, (.cons ⟨_, rfl⟩ (.cons ⟨_, rfl⟩ .nil))⟩) (.cons (.str _ (by decide)) (.cons (.str _ (by decide)) .nil))) (.cons (v := .ref _) rfl (fun H => .tup (vs := [.str "all", .str "some"]) (.inr ⟨_, _, _, r1_1, rfl, rfl, by show 2 ≤ sizeLine; decide, (.cons ⟨_, rfl⟩ (.cons ⟨_, rfl⟩ .nil))⟩) (.cons (.str _ (by decide)) (.cons (.str _ (by decide)) .nil))) (.cons (v := .ref _) rfl (fun H => .tup (vs := [.str "shown", .str "hidden"]) (.inr ⟨_, _, _, r1_2, rfl, rfl, by show 2 ≤ sizeLine; decide, (.cons ⟨_, rfl⟩ (.cons ⟨_, rfl⟩ .nil))⟩) (.cons (.str _ (by decide)) (.cons (.str _ (by decide)) .nil))) .nil))) (PySem.W.mg_of X G e1) d1 s1 (show List.Nodup (["door", "voice", "past"] : List Str) by decide)⟩
  have F1 := fun_mk (st := s_is_letter) l1 c1 k1
  have D1 : DefAt K mg "is_letter" s_is_letter ["sign"] f1 _ := ⟨F1, F1.binds fun _ _ _ _ _ _ us hl => match us, hl with | [_], _ => rfl, PySem.W.mg_of X G a1⟩
  have F2 := fun_mk (st := s_is_name) l2 c2 k2
  have D2 : DefAt K mg "is_name" s_is_name ["thing"] f2 _ := ⟨F2, F2.binds fun _ _ _ _ _ _ us hl => match us, hl with | [_], _ => rfl, PySem.W.mg_of X G a2⟩
  have F3 := fun_mk (st := s_is_words) l3 c3 k3
  have D3 : DefAt K mg "is_words" s_is_words ["thing"] f3 _ := ⟨F3, F3.binds fun _ _ _ _ _ _ us hl => match us, hl with | [_], _ => rfl, PySem.W.mg_of X G a3⟩
  have F4 := fun_mk (st := s_is_whole) l4 c4 k4
  have D4 : DefAt K mg "is_whole" s_is_whole ["thing"] f4 _ := ⟨F4, F4.binds fun _ _ _ _ _ _ us hl => match us, hl with | [_], _ => rfl, PySem.W.mg_of X G a4⟩
  have F5 := fun_mk (st := s_is_number) l5 c5 k5
  have D5 : DefAt K mg "is_number" s_is_number ["thing"] f5 _ := ⟨F5, F5.binds fun _ _ _ _ _ _ us hl => match us, hl with | [_], _ => rfl, PySem.W.mg_of X G a5⟩
  have F6 := fun_mk (st := s_is_answer) l6 c6 k6
  have D6 : DefAt K mg "is_answer" s_is_answer ["thing"] f6 _ := ⟨F6, F6.binds fun _ _ _ _ _ _ us hl => match us, hl with | [_], _ => rfl, PySem.W.mg_of X G a6⟩
  have F7 := fun_mk (st := s_is_setting) l7 c7 k7
  have D7 : DefAt K mg "is_setting" s_is_setting ["what", "value"] f7 _ := ⟨F7, F7.binds fun _ _ _ _ _ _ us hl => match us, hl with | [_, _], _ => rfl, PySem.W.mg_of X G a7⟩
  have F8 := fun_mk (st := s_are_two_parts) l8 c8 k8
  have D8 : DefAt K mg "are_two_parts" s_are_two_parts ["word", "first", "second"] f8 _ := ⟨F8, F8.binds fun _ _ _ _ _ _ us hl => match us, hl with | [_, _, _], _ => rfl, PySem.W.mg_of X G a8⟩
  have F9 := fun_mk (st := s_are_parts) l9 c9 k9
  have D9 : DefAt K mg "are_parts" s_are_parts ["word", "parts"] f9 _ := ⟨F9, F9.binds fun _ _ _ _ _ _ us hl => match us, hl with | [_, _], _ => rfl, PySem.W.mg_of X G a9⟩
  have F10 := fun_mk (st := s_is_row) l10 c10 k10
  have D10 : DefAt K mg "is_row" s_is_row ["thing"] f10 _ := ⟨F10, F10.binds fun _ _ _ _ _ _ us hl => match us, hl with | [_], _ => rfl, PySem.W.mg_of X G a10⟩
  have F11 := fun_mk (st := s_w_cell) l11 c11 k11
  have D11 : DefAt K mg "_law_cell" s_w_cell ["_law_script", "_law_k"] f11 _ := ⟨F11, F11.binds fun _ _ _ _ _ _ us hl => match us, hl with | [_, _], _ => rfl, PySem.W.mg_of X G a11⟩
  have F12 := fun_mk (st := s_w_mix) l12 c12 k12
  have D12 : DefAt K mg "_law_mix" s_w_mix ["_law_cell_here", "_law_prime", "_law_many"] f12 _ := ⟨F12, F12.binds fun _ _ _ _ _ _ us hl => match us, hl with | [_, _, _], _ => rfl, PySem.W.mg_of X G a12⟩
  have F13 := fun_mk (st := s_w_words) l13 c13 k13
  have D13 : DefAt K mg "_law_words" s_w_words ["_law_cell_here"] f13 _ := ⟨F13, F13.binds fun _ _ _ _ _ _ us hl => match us, hl with | [_], _ => rfl, PySem.W.mg_of X G a13⟩
  have F14 := fun_mk (st := s_w_any_row) l14 c14 k14
  have D14 : DefAt K mg "_law_any_row" s_w_any_row ["_law_cell_here"] f14 _ := ⟨F14, F14.binds fun _ _ _ _ _ _ us hl => match us, hl with | [_], _ => rfl, PySem.W.mg_of X G a14⟩
  have F15 := fun_mk (st := s_w_no_rows) l15 c15 k15
  have D15 : DefAt K mg "_law_no_rows" s_w_no_rows ["_law_row"] f15 _ := ⟨F15, F15.binds fun _ _ _ _ _ _ us hl => match us, hl with | [_], _ => rfl, PySem.W.mg_of X G a15⟩
  have F16 := fun_mk (st := s_w_odd) l16 c16 k16
  have D16 : DefAt K mg "_law_odd" s_w_odd ["_law_thing", "_law_cell_here"] f16 _ := ⟨F16, F16.binds fun _ _ _ _ _ _ us hl => match us, hl with | [_, _], _ => rfl, PySem.W.mg_of X G a16⟩
  have F17 := fun_mk (st := s_w_is_name) l17 c17 k17
  have D17 : DefAt K mg "_law_is_name" s_w_is_name ["_law_thing"] f17 _ := ⟨F17, F17.binds fun _ _ _ _ _ _ us hl => match us, hl with | [_], _ => rfl, PySem.W.mg_of X G a17⟩
  have F18 := fun_mk (st := s_w_is_words) l18 c18 k18
  have D18 : DefAt K mg "_law_is_words" s_w_is_words ["_law_thing"] f18 _ := ⟨F18, F18.binds fun _ _ _ _ _ _ us hl => match us, hl with | [_], _ => rfl, PySem.W.mg_of X G a18⟩
  have F19 := fun_mk (st := s_w_is_number) l19 c19 k19
  have D19 : DefAt K mg "_law_is_number" s_w_is_number ["_law_thing"] f19 _ := ⟨F19, F19.binds fun _ _ _ _ _ _ us hl => match us, hl with | [_], _ => rfl, PySem.W.mg_of X G a19⟩
  have F20 := fun_mk (st := s_w_is_row) l20 c20 k20
  have D20 : DefAt K mg "_law_is_row" s_w_is_row ["_law_thing"] f20 _ := ⟨F20, F20.binds fun _ _ _ _ _ _ us hl => match us, hl with | [_], _ => rfl, PySem.W.mg_of X G a20⟩
  have F21 := fun_mk (st := s_law) l21 c21 k21
  have D21 : DefAt K mg "law" s_law ["_law_script"] fa _ := ⟨F21, F21.binds fun _ _ _ _ _ _ us hl => match us, hl with | [_], _ => rfl, PySem.W.mg_of X G a21⟩
  let fas : Str → Addr := fun x => (([("is_letter", f1), ("is_name", f2), ("is_words", f3), ("is_whole", f4), ("is_number", f5), ("is_answer", f6), ("is_setting", f7), ("are_two_parts", f8), ("are_parts", f9), ("is_row", f10), ("_law_cell", f11), ("_law_mix", f12), ("_law_words", f13), ("_law_any_row", f14), ("_law_no_rows", f15), ("_law_odd", f16), ("_law_is_name", f17), ("_law_is_words", f18), ("_law_is_number", f19), ("_law_is_row", f20), ("law", fa)] : List (Str × Addr)).lookup x).getD 0
  let fts : Str → FuncData := fun x => (([("is_letter", PySem.W.fnOf "is_letter" "is_letter" (defArgs s_is_letter) (defBody s_is_letter) (defScope s_is_letter) .none kV1 dc1 pm1 an1 cd1 ct1), ("is_name", PySem.W.fnOf "is_name" "is_name" (defArgs s_is_name) (defBody s_is_name) (defScope s_is_name) .none kV2 dc2 pm2 an2 cd2 ct2), ("is_words", PySem.W.fnOf "is_words" "is_words" (defArgs s_is_words) (defBody s_is_words) (defScope s_is_words) .none kV3 dc3 pm3 an3 cd3 ct3), ("is_whole", PySem.W.fnOf "is_whole" "is_whole" (defArgs s_is_whole) (defBody s_is_whole) (defScope s_is_whole) .none kV4 dc4 pm4 an4 cd4 ct4), ("is_number", PySem.W.fnOf "is_number" "is_number" (defArgs s_is_number) (defBody s_is_number) (defScope s_is_number) .none kV5 dc5 pm5 an5 cd5 ct5), ("is_answer", PySem.W.fnOf "is_answer" "is_answer" (defArgs s_is_answer) (defBody s_is_answer) (defScope s_is_answer) .none kV6 dc6 pm6 an6 cd6 ct6), ("is_setting", PySem.W.fnOf "is_setting" "is_setting" (defArgs s_is_setting) (defBody s_is_setting) (defScope s_is_setting) .none kV7 dc7 pm7 an7 cd7 ct7), ("are_two_parts", PySem.W.fnOf "are_two_parts" "are_two_parts" (defArgs s_are_two_parts) (defBody s_are_two_parts) (defScope s_are_two_parts) .none kV8 dc8 pm8 an8 cd8 ct8), ("are_parts", PySem.W.fnOf "are_parts" "are_parts" (defArgs s_are_parts) (defBody s_are_parts) (defScope s_are_parts) .none kV9 dc9 pm9 an9 cd9 ct9), ("is_row", PySem.W.fnOf "is_row" "is_row" (defArgs s_is_row) (defBody s_is_row) (defScope s_is_row) .none kV10 dc10 pm10 an10 cd10 ct10), ("_law_cell", PySem.W.fnOf "_law_cell" "_law_cell" (defArgs s_w_cell) (defBody s_w_cell) (defScope s_w_cell) .none kV11 dc11 pm11 an11 cd11 ct11), ("_law_mix", PySem.W.fnOf "_law_mix" "_law_mix" (defArgs s_w_mix) (defBody s_w_mix) (defScope s_w_mix) .none kV12 dc12 pm12 an12 cd12 ct12), ("_law_words", PySem.W.fnOf "_law_words" "_law_words" (defArgs s_w_words) (defBody s_w_words) (defScope s_w_words) .none kV13 dc13 pm13 an13 cd13 ct13), ("_law_any_row", PySem.W.fnOf "_law_any_row" "_law_any_row" (defArgs s_w_any_row) (defBody s_w_any_row) (defScope s_w_any_row) .none kV14 dc14 pm14 an14 cd14 ct14), ("_law_no_rows", PySem.W.fnOf "_law_no_rows" "_law_no_rows" (defArgs s_w_no_rows) (defBody s_w_no_rows) (defScope s_w_no_rows) .none kV15 dc15 pm15 an15 cd15 ct15), ("_law_odd", PySem.W.fnOf "_law_odd" "_law_odd" (defArgs s_w_odd) (defBody s_w_odd) (defScope s_w_odd) .none kV16 dc16 pm16 an16 cd16 ct16), ("_law_is_name", PySem.W.fnOf "_law_is_name" "_law_is_name" (defArgs s_w_is_name) (defBody s_w_is_name) (defScope s_w_is_name) .none kV17 dc17 pm17 an17 cd17 ct17), ("_law_is_words", PySem.W.fnOf "_law_is_words" "_law_is_words" (defArgs s_w_is_words) (defBody s_w_is_words) (defScope s_w_is_words) .none kV18 dc18 pm18 an18 cd18 ct18), ("_law_is_number", PySem.W.fnOf "_law_is_number" "_law_is_number" (defArgs s_w_is_number) (defBody s_w_is_number) (defScope s_w_is_number) .none kV19 dc19 pm19 an19 cd19 ct19), ("_law_is_row", PySem.W.fnOf "_law_is_row" "_law_is_row" (defArgs s_w_is_row) (defBody s_w_is_row) (defScope s_w_is_row) .none kV20 dc20 pm20 an20 cd20 ct20), ("law", PySem.W.fnOf "law" "law" (defArgs s_law) (defBody s_law) (defScope s_law) .none kV21 dc21 pm21 an21 cd21 ct21)] : List (Str × FuncData)).lookup x).getD (PySem.W.fnOf "is_letter" "is_letter" (defArgs s_is_letter) (defBody s_is_letter) (defScope s_is_letter) .none kV1 dc1 pm1 an1 cd1 ct1)
  have D : Ds K mg fas fts := ⟨D1, D2, D3, D4, D5, D6, D7, D8, D9, D10, D11, D12, D13, D14, D15, D16, D17, D18, D19, D20, D21⟩
  exact ⟨PySem.W.fnOf "law" "law" (defArgs s_law) (defBody s_law) (defScope s_law) .none kV21 dc21 pm21 an21 cd21 ct21, fun s v => .of_eq rfl, fun base _ _ => ok_law (fa := fas) (ft := fts) T D⟩
theorem sp_law {K : PySem.W.Frag} {H : Hp} {Q : VK} {E : XK} {a : Addr} {ns : List Int} (hS : SqL K H a (ns.map V.int)) (hQ : ∀ H', Q (.bl true) H') : spT K m_law [.ref a] H Q E :=
  ⟨fun _ => false, [.scr ns], fun b e => (nomatch e), .cons (.scr hS) .nil, .bl true, law_true ns, fun v H' _ r => by rw [r.bl_inv]; exact hQ H'⟩
theorem walk {l : PySem.W.OpenLaw} {q : Program} {loose : List Str} {XP : (Str → Option Value) → Heap → Prop} {YP : World → Heap → Prop} {d : DefRec} {K : Params → PySem.W.Frag} (hn : l.most = some 63) (hdf : d.params.defaults = [])
    (hY : ∀ (w : World) (h : Heap), YP w h → (K w.params).In h)
    (F : ∀ (w : World) (mg : Str → Option Value) (fa : Addr) (h : Heap), (K w.params).In h → h.Ns mainGlobals mg → mg d.name = some (.ref fa) →
      ∃ fd : FuncData, (∀ (s : Shared) (u : Value), BindsTo s fd ⟨[u], []⟩ [("_law_script", u)]) ∧ ∀ base : Heap, (K w.params).In base → base.Ns mainGlobals mg → FnOk l.prog w (K w.params) mg base CX0 7 fa fd ["_law_script"] (spT (K w.params) m_law)) :
    PySem.W.WalkO q loose XP YP l.row.toRowW d [] (fun f vs => PySem.call f vs) :=
  L2.walk_of (n := 63) (k := 7) (x := "_law_script") (CX := fun _ => CX0) (sp := fun w => spT (K w.params) m_law) hn (by decide) hdf ⟨rfl, by decide, by decide⟩ hY F (fun _ _ a ns hl _ hS => sp_law hS fun _ => rfl) fun _ _ _ _ _ z => z
end M3
open PySem PySem.W PyProof.Rows
set_option maxRecDepth 100000 in
set_option maxHeartbeats 0 in
theorem PySem.Challenge.cw_talkhall_k03_rows_holds : PySem.Challenge.rw_talkhall_k03_rows.Holds := by
  w_on; o_law; k_head; (case hw => w_witness2)
  k_fill
  refine M3.walk (l := PySem.Challenge.rw_talkhall_k03_rows) rfl rfl (fun w h Y => PySem.W.kIn_of Y) ?F
  case F =>
    intro w mg fa h KX G hmg
    refine' M3.all_mk KX G hmg ?a1 ?l1 ?c1 ?k1 ?a2 ?l2 ?c2 ?k2 ?a3 ?l3 ?c3 ?k3 ?a4 ?l4 ?c4 ?k4 ?a5 ?l5 ?c5 ?k5 ?a6 ?l6 ?c6 ?k6 ?a7 ?l7 ?c7 ?k7 ?a8 ?l8 ?c8 ?k8 ?a9 ?l9 ?c9 ?k9 ?a10 ?l10 ?c10 ?k10 ?a11 ?l11 ?c11 ?k11 ?a12 ?l12 ?c12 ?k12 ?a13 ?l13 ?c13 ?k13 ?a14 ?l14 ?c14 ?k14 ?a15 ?l15 ?c15 ?k15 ?a16 ?l16 ?c16 ?k16 ?a17 ?l17 ?c17 ?k17 ?a18 ?l18 ?c18 ?k18 ?a19 ?l19 ?c19 ?k19 ?a20 ?l20 ?c20 ?k20 ?a21 ?l21 ?c21 ?k21 ?b1 ?v1 ?b2 ?b3 ?b4 ?v4 ?b5 ?v5 ?e1 ?d1 ?s1 ?r1_0 ?r1_1 ?r1_2 ?z1 ?z2 ?z3 ?z4 ?z5 ?z6 ?z7 ?z8 ?z9
    (case a1 => k_is)
    (case l1 => k_is)
    (case c1 => k_is)
    (case k1 => k_is)
    (case a2 => k_is)
    (case l2 => k_is)
    (case c2 => k_is)
    (case k2 => k_is)
    (case a3 => k_is)
    (case l3 => k_is)
    (case c3 => k_is)
    (case k3 => k_is)
    (case a4 => k_is)
    (case l4 => k_is)
    (case c4 => k_is)
    (case k4 => k_is)
    (case a5 => k_is)
    (case l5 => k_is)
    (case c5 => k_is)
    (case k5 => k_is)
    (case a6 => k_is)
    (case l6 => k_is)
    (case c6 => k_is)
    (case k6 => k_is)
    (case a7 => k_is)
    (case l7 => k_is)
    (case c7 => k_is)
    (case k7 => k_is)
    (case a8 => k_is)
    (case l8 => k_is)
    (case c8 => k_is)
    (case k8 => k_is)
    (case a9 => k_is)
    (case l9 => k_is)
    (case c9 => k_is)
    (case k9 => k_is)
    (case a10 => k_is)
    (case l10 => k_is)
    (case c10 => k_is)
    (case k10 => k_is)
    (case a11 => k_is)
    (case l11 => k_is)
    (case c11 => k_is)
    (case k11 => k_is)
    (case a12 => k_is)
    (case l12 => k_is)
    (case c12 => k_is)
    (case k12 => k_is)
    (case a13 => k_is)
    (case l13 => k_is)
    (case c13 => k_is)
    (case k13 => k_is)
    (case a14 => k_is)
    (case l14 => k_is)
    (case c14 => k_is)
    (case k14 => k_is)
    (case a15 => k_is)
    (case l15 => k_is)
    (case c15 => k_is)
    (case k15 => k_is)
    (case a16 => k_is)
    (case l16 => k_is)
    (case c16 => k_is)
    (case k16 => k_is)
    (case a17 => k_is)
    (case l17 => k_is)
    (case c17 => k_is)
    (case k17 => k_is)
    (case a18 => k_is)
    (case l18 => k_is)
    (case c18 => k_is)
    (case k18 => k_is)
    (case a19 => k_is)
    (case l19 => k_is)
    (case c19 => k_is)
    (case k19 => k_is)
    (case a20 => k_is)
    (case l20 => k_is)
    (case c20 => k_is)
    (case k20 => k_is)
    (case a21 => k_is)
    (case l21 => k_is)
    (case c21 => k_is)
    (case k21 => k_is)
    (case b1 => k_is)
    (case v1 => k_is)
    (case b2 => k_is)
    (case b3 => k_is)
    (case b4 => k_is)
    (case v4 => k_is)
    (case b5 => k_is)
    (case v5 => k_is)
    (case e1 => k_is)
    (case d1 => k_is)
    (case s1 => rfl)
    (case r1_0 => k_is)
    (case r1_1 => k_is)
    (case r1_2 => k_is)
    (case z1 => k_is)
    (case z2 => k_is)
    (case z3 => k_is)
    (case z4 => k_is)
    (case z5 => k_is)
    (case z6 => k_is)
    (case z7 => k_is)
    (case z8 => k_is)
    (case z9 => k_is)

