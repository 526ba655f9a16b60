import PyProof.Rows.All
import Wide.All
import OpenK.AllK
import Wide.FinOn
import Lean
import PyProof.EqAt
import PyProof.EqKinds
import PyProof.TupleCall
import PyProof.ExcArgsOwn
import PyProof.AttrMissSeq
import PyProof.StrLawsRepr
import PySem.Challenge.RW_talkhall_k38_whole_no_other_lines
set_option Elab.async false
set_option linter.all false
set_option maxRecDepth 100000
namespace L2
open PySem PySem.Spec PyProof.Rows
abbrev Key := Sum Int Str
def keyIs : Key → Value → Bool
  | .inl k, v => Value.isInt k v
  | .inr x, v => Value.isStrOf x v
def keyH (w : World) : Key → Int
  | .inl k => hashInt k
  | .inr x => hashStr w x
theorem keyIs_shape : ∀ {k : Key} {v : Value}, keyIs k v = true → (∃ i t, k = Sum.inl i ∧ v = Value.int i t) ∨ (∃ x t, k = Sum.inr x ∧ v = Value.str x t)
  | .inl i, v, h => by
    obtain ⟨t, e⟩ := Value.isInt_shape (k := i) (v := v) h
    exact .inl ⟨i, t, rfl, e⟩
  | .inr x, v, h => by
    obtain ⟨t, e⟩ := Value.isStrOf_shape (x := x) (v := v) h
    exact .inr ⟨x, t, rfl, e⟩
theorem keyIs_int (i : Int) (t : Tok) : keyIs (.inl i) (.int i t) = true := by simp [keyIs, Value.isInt]
theorem keyIs_str (x : Str) (t : Tok) : keyIs (.inr x) (.str x t) = true := by simp [keyIs, Value.isStrOf]
theorem key_ll (a b : Int) : decide ((Sum.inl a : Key) = Sum.inl b) = (a == b) := by
  by_cases e : a = b
  · subst e; simp
  · have h : ¬ (Sum.inl a : Key) = Sum.inl b := fun q => e (Sum.inl.inj q)
    rw [decide_eq_false h]
    exact (beq_eq_false_iff_ne.mpr e).symm
theorem key_rr (a b : Str) : decide ((Sum.inr a : Key) = Sum.inr b) = decide (a = b) := by
  by_cases e : a = b
  · subst e; simp
  · have h : ¬ (Sum.inr a : Key) = Sum.inr b := fun q => e (Sum.inr.inj q)
    rw [decide_eq_false h, decide_eq_false e]
theorem key_lr (a : Int) (b : Str) : decide ((Sum.inl a : Key) = Sum.inr b) = false := decide_eq_false (fun q => nomatch q)
theorem key_rl (a : Str) (b : Int) : decide ((Sum.inr a : Key) = Sum.inl b) = false := decide_eq_false (fun q => nomatch q)
def mixKind (prog : Program) (w : World) : PySem.KeyKind prog w Key where
  is := keyIs
  hash := keyH w
  inj := fun v a b ha hb => by
    rcases keyIs_shape ha with ⟨i, t, rfl, rfl⟩ | ⟨x, t, rfl, rfl⟩
    · rcases keyIs_shape hb with ⟨j, u, rfl, e⟩ | ⟨y, u, rfl, e⟩
      · injection e with e1 _; rw [e1]
      · exact nomatch e
    · rcases keyIs_shape hb with ⟨j, u, rfl, e⟩ | ⟨y, u, rfl, e⟩
      · exact nomatch e
      · injection e with e1 _; rw [e1]
  byValue := fun k v h => by
    rcases keyIs_shape h with ⟨i, t, rfl, rfl⟩ | ⟨x, t, rfl, rfl⟩ <;> rfl
  pyHash := fun hv h => by
    rcases keyIs_shape hv with ⟨i, t, rfl, rfl⟩ | ⟨x, t, rfl, rfl⟩
    · exact wpAny_pyHash_int h
    · exact wpAny_pyHash_str h
  eqBool := fun hu hv h => by
    rcases keyIs_shape hu with ⟨i, t, rfl, rfl⟩ | ⟨x, t, rfl, rfl⟩
    · rcases keyIs_shape hv with ⟨j, u, rfl, rfl⟩ | ⟨y, u, rfl, rfl⟩
      · rw [key_ll] at h; exact wpAny_eqBool_int h
      · rw [key_lr] at h; exact SeqAt.EqAt.int_str i t y u _ _ _ _ h
    · rcases keyIs_shape hv with ⟨j, u, rfl, rfl⟩ | ⟨y, u, rfl, rfl⟩
      · rw [key_rl] at h; exact SeqAt.EqAt.str_int x t j u _ _ _ _ h
      · rw [key_rr] at h; exact wpAny_eqBool_str h
  «strs» := fun k x t v h => by
    rcases keyIs_shape h with ⟨i, u, rfl, e⟩ | ⟨y, u, rfl, e⟩
    · exact nomatch e
    · injection e with e1 _
      subst e1
      cases v <;> rfl
theorem mixKind_int (prog : Program) (w : World) (i : Int) (t : Tok) : (mixKind prog w).is (.inl i) (.int i t) = true := keyIs_int i t
theorem mixKind_str (prog : Program) (w : World) (x : Str) (t : Tok) : (mixKind prog w).is (.inr x) (.str x t) = true := keyIs_str x t
end L2
namespace L2
open PySem PySem.Spec PyProof.Rows
inductive V where
  | non | bl (b : Bool) | int (i : Int) | str (x : Str) | byt (b : Array UInt8) | flt (b : UInt64) | ref (a : Addr) | ty (n : String)
  deriving DecidableEq
def RelV : V → Value → Prop
  | .non, u => u = Value.none
  | .bl b, u => u = Value.bool b
  | .int i, u => ∃ t, u = Value.int i t
  | .str x, u => ∃ t, u = Value.str x t
  | .byt b, u => ∃ t, u = Value.bytes b t
  | .flt b, u => ∃ t, u = Value.float b t
  | .ref a, u => u = Value.ref a
  | .ty n, u => u = Value.type n
abbrev Vals : List V → List Value → Prop := Paired RelV
theorem Vals.length {xs : List V} {us : List Value} (r : Vals xs us) : xs.length = us.length := Paired.length r
theorem Vals.get : ∀ {xs : List V} {us : List Value} {i : Nat} {x : V}, Vals xs us → xs[i]? = some x → ∃ u, us[i]? = some u ∧ RelV x u
  | _, _, _, _, .nil, e => by simp at e
  | _, _, 0, _, .cons r _, e => by simp at e; subst e; exact ⟨_, rfl, r⟩
  | _, _, i + 1, x, .cons _ t, e => by
    obtain ⟨u, h1, h2⟩ := Vals.get (i := i) (x := x) t (by simpa using e)
    exact ⟨u, by simpa using h1, h2⟩
theorem Vals.append : ∀ {xs ys : List V} {us ws : List Value}, Vals xs us → Vals ys ws → Vals (xs ++ ys) (us ++ ws)
  | _, _, _, _, .nil, s => s
  | _, _, _, _, .cons r t, s => .cons r (Vals.append t s)
theorem Vals.take : ∀ {xs : List V} {us : List Value} (n : Nat), Vals xs us → Vals (xs.take n) (us.take n)
  | _, _, 0, _ => .nil
  | _, _, _ + 1, .nil => .nil
  | _, _, n + 1, .cons r t => .cons r (Vals.take n t)
theorem Vals.drop : ∀ {xs : List V} {us : List Value} (n : Nat), Vals xs us → Vals (xs.drop n) (us.drop n)
  | _, _, 0, r => r
  | _, _, _ + 1, .nil => .nil
  | _, _, n + 1, .cons _ t => Vals.drop n t
def RelO : Option V → Option Value → Prop
  | some v, some u => RelV v u
  | none, none => True
  | _, _ => False
def KV {κ : Type} : List (κ × V) → List (κ × Value) → Prop := Paired fun (p : κ × V) (q : κ × Value) => p.1 = q.1 ∧ RelV p.2 q.2
def kV : Key → V
  | .inl i => .int i
  | .inr x => .str x
inductive HO where
  | lst (xs : List V)
  | tup (xs : List V)
  | dK (kvs : List (Key × V)) | dT (kvs : List (List Key × V))
  | set (S : Int → Bool) (n : Nat)
  | ins (C dx : Addr) (fs : List (Str × V))
  | own (x : Addr)
  | xd (fs : List (Str × V))
  | met (f x : Addr)
  | rng (lo hi : Int)
  | frz (o : Obj) (u : HO)
  | tbl (ps : Array Value)
  | ext (φ : Heap → Prop)
abbrev Hp := Addr → Option HO
def upd (H : Hp) (a : Addr) (o : HO) : Hp := fun b => if b = a then some o else H b
theorem upd_same {H : Hp} {a : Addr} {o : HO} : upd H a o a = some o := by unfold upd; rw [if_pos rfl]
theorem upd_ne {H : Hp} {a b : Addr} {o : HO} (h : b ≠ a) : upd H a o b = H b := by unfold upd; rw [if_neg h]
theorem ne_of_none {H : Hp} {a b : Addr} {o : HO} (h : H a = some o) (h' : H b = none) : a ≠ b := by
  intro e; subst e; rw [h] at h'; cases h'
section
variable (P : Program) (w : World)
def ObjOk (H : Hp) (h : Heap) (a : Addr) : HO → Prop
  | .lst xs => xs.length ≤ sizeLine ∧ ∃ (its : List Value) (n : Nat), Vals xs its ∧ h.get? a = some { cls := .type "list", data := .seq its.toArray n }
  | .tup xs => xs.length ≤ sizeLine ∧ ∃ its : List Value, Vals xs its ∧ IsTup h a its.toArray
  | .dK kvs => kvs.length ≤ sizeLine ∧ (a == sysModules) = false ∧ ∃ vs, KV kvs vs ∧ h.DictOf (mixKind P w) a vs
  | .dT kvs => kvs.length ≤ sizeLine ∧ (a == sysModules) = false ∧ ∃ xs : List (List Key × Addr × Value),
      Paired (fun (p : List Key × V) (q : List Key × Addr × Value) => p.1 = q.1 ∧ H q.2.1 = some (.tup (p.1.map kV)) ∧ RelV p.2 q.2.2) kvs xs ∧
      ∃ o es ep, h.get? a = some o ∧ o.ExactDict ∧ o.data = .dict es ep ∧ es.toList = xs.map (entryOfKey (tupleKind (mixKind P w))) ∧ (xs.map (·.1)).Nodup
  | .set S n => h.SetOf (intKind P w) a S n
  | .ins C dx fs => H dx = some (.own a) ∧ fs.length ≤ 1000 ∧ dx ≠ a ∧ h.get? a = some (PySem.W.instObj C dx) ∧
      ∃ mA, h.Ns1 dx mA ∧ (∀ f, RelO (fs.lookup f) (mA f)) ∧ PySem.Within mA (fs.map (·.1))
  | .own _ => ∃ o, h.get? a = some o
  | .xd fs => ∃ mA, h.Ns1 a mA ∧ ∀ f, RelO (fs.lookup f) (mA f)
  | .rng lo hi => ∃ t u v, h.get? a = some { cls := .type "range", data := .fields #[.int lo t, .int hi u, .int 1 v] }
  | .frz o u => h.get? a = some o ∧ ObjOk H h a u
  | .tbl ps => h.get? a = some { cls := .none, data := .fields ps }
  | .met f x => h.get? a = some (PySem.W.methodObj (.ref f) (.ref x))
  | .ext φ => φ h ∧ (∃ o, h.get? a = some o) ∧ ∀ h1 h2 : Heap, φ h1 → (∀ o, h1.get? a = some o → h2.get? a = some o) → φ h2
def HOk (H : Hp) (h : Heap) : Prop := ∀ a o, H a = some o → ObjOk P w H h a o
end
section
variable {P : Program} {w : World} {H H' : Hp} {h h' : Heap} {a : Addr} {o : HO}
theorem ObjOk.lt (x : ObjOk P w H h a o) : a < h.objs.size := by
  cases o with
  | lst xs => obtain ⟨_, _, _, _, e⟩ := x; exact Heap.lt_size e
  | tup xs => obtain ⟨_, _, _, p⟩ := x; exact p.lt
  | dK kvs => obtain ⟨_, _, _, _, o, _, _, e, _⟩ := x; exact Heap.lt_size e
  | dT kvs => obtain ⟨_, _, _, _, o, _, _, e, _⟩ := x; exact Heap.lt_size e
  | set S n => obtain ⟨o, _, _, _, e, _⟩ := x; exact Heap.lt_size e
  | ins C dx fs => obtain ⟨_, _, _, e, _⟩ := x; exact Heap.lt_size e
  | own y => obtain ⟨_, e⟩ := x; exact Heap.lt_size e
  | xd fs => obtain ⟨_, ⟨_, _, _, e, _⟩, _⟩ := x; exact Heap.lt_size e
  | rng lo hi => obtain ⟨_, _, _, e⟩ := x; exact Heap.lt_size e
  | frz ob u => obtain ⟨e, _⟩ := x; exact Heap.lt_size e
  | tbl ps => exact Heap.lt_size (show h.get? a = some _ from x)
  | met f y => exact Heap.lt_size (show h.get? a = some _ from x)
  | ext φ => obtain ⟨_, ⟨_, e⟩, _⟩ := x; exact Heap.lt_size e
theorem Paired.mapP {α β : Type} {F G : α → β → Prop} : ∀ {l₁ : List α} {l₂ : List β}, Paired F l₁ l₂ → (∀ a b, F a b → G a b) → Paired G l₁ l₂
  | _, _, .nil, _ => .nil
  | _, _, .cons r t, f => .cons (f _ _ r) (Paired.mapP t f)
theorem ObjOk.stay (x : ObjOk P w H h a o) (k : ∀ b u, (b = a ∨ H b = some (.own a)) → h.get? b = some u → h'.get? b = some u)
    (ho : ∀ b, H b = some (.own a) → H' b = some (.own a)) (ht : ∀ b xs, H b = some (.tup xs) → H' b = some (.tup xs)) : ObjOk P w H' h' a o := by
  induction o with
  | lst xs => obtain ⟨z, its, n, r, e⟩ := x; exact ⟨z, its, n, r, k _ _ (.inl rfl) e⟩
  | tup xs => obtain ⟨z, its, r, ob, e, c⟩ := x; exact ⟨z, its, r, ob, k _ _ (.inl rfl) e, c⟩
  | dK kvs => obtain ⟨z, y, vs, r, ob, es, ep, e, c⟩ := x; exact ⟨z, y, vs, r, ob, es, ep, k _ _ (.inl rfl) e, c⟩
  | dT kvs =>
    obtain ⟨z, y, xs, r, ob, es, ep, e, c⟩ := x
    exact ⟨z, y, xs, Paired.mapP r fun p q z => ⟨z.1, ht _ _ z.2.1, z.2.2⟩, ob, es, ep, k _ _ (.inl rfl) e, c⟩
  | set S n => obtain ⟨ob, es, ep, t, e, c⟩ := x; exact ⟨ob, es, ep, t, k _ _ (.inl rfl) e, c⟩
  | ins C dx fs =>
    obtain ⟨d, z, ne, e, mA, ⟨od, es, ep, e2, c⟩, r⟩ := x
    exact ⟨ho _ d, z, ne, k _ _ (.inl rfl) e, mA, ⟨od, es, ep, k _ _ (.inr d) e2, c⟩, r⟩
  | own y => obtain ⟨ob, e⟩ := x; exact ⟨ob, k _ _ (.inl rfl) e⟩
  | xd fs => obtain ⟨mA, ⟨od, es, ep, e, c⟩, r⟩ := x; exact ⟨mA, ⟨od, es, ep, k _ _ (.inl rfl) e, c⟩, r⟩
  | rng lo hi => obtain ⟨t, u, v, e⟩ := x; exact ⟨t, u, v, k _ _ (.inl rfl) e⟩
  | frz ob u ih => obtain ⟨e, q⟩ := x; exact ⟨k _ _ (.inl rfl) e, ih q⟩
  | tbl ps =>
    have e : h.get? a = some { cls := .none, data := .fields ps } := x
    show h'.get? a = some { cls := .none, data := .fields ps }
    exact k a _ (.inl rfl) e
  | met f y =>
    have e : h.get? a = some (PySem.W.methodObj (.ref f) (.ref y)) := x
    show h'.get? a = some (PySem.W.methodObj (.ref f) (.ref y))
    exact k a _ (.inl rfl) e
  | ext φ => obtain ⟨p, ⟨o, e⟩, st⟩ := x; exact ⟨st _ _ p fun o q => k _ _ (.inl rfl) q, ⟨o, k _ _ (.inl rfl) e⟩, st⟩
theorem HOk.lt (x : HOk P w H h) (e : H a = some o) : a < h.objs.size := (x a o e).lt
theorem HOk.fresh (x : HOk P w H h) (e : h.objs.size ≤ a) : H a = none := by
  cases q : H a with
  | none => rfl
  | some u => exact absurd (Nat.lt_of_lt_of_le (x.lt q) e) (Nat.lt_irrefl _)
theorem HOk.kept (x : HOk P w H h) (k : ∀ b u, h.get? b = some u → h'.get? b = some u) : HOk P w H h' := fun a o e =>
  (x a o e).stay (fun b u _ q => k b u q) (fun _ q => q) fun _ _ q => q
theorem HOk.laid (x : HOk P w H h) (k : ∀ b u, h.get? b = some u → h'.get? b = some u) (hp : h.objs.size ≤ a) (new : ObjOk P w (upd H a o) h' a o) : HOk P w (upd H a o) h' := fun b u e => by
  have hn := x.fresh hp
  by_cases hb : b = a
  · subst hb; rw [upd_same] at e; cases e; exact new
  · rw [upd_ne hb] at e
    exact (x b u e).stay (fun c v _ q => k c v q) (fun c q => by rw [upd_ne (ne_of_none q hn)]; exact q) fun c xs q => by rw [upd_ne (ne_of_none q hn)]; exact q
end
def Rd (H : Hp) (a : Addr) (u : HO) : Prop := H a = some u ∨ ∃ o, H a = some (.frz o u)
theorem Rd.ok {P : Program} {w : World} {H : Hp} {h : Heap} {a : Addr} {u : HO} (r : Rd H a u) (x : HOk P w H h) : ObjOk P w H h a u := by
  rcases r with r | ⟨o, r⟩
  · exact x a u r
  · obtain ⟨_, q⟩ := x a _ r
    exact q
def Mut : Option HO → Prop
  | some (.lst _) => True
  | some (.dK _) => True
  | some (.dT _) => True
  | some (.set _ _) => True
  | some (.ins _ _ _) => True
  | some (.ext _) => True
  | _ => False
section
variable {P : Program} {w : World} {H : Hp} {h h' : Heap} {x e : Addr} {o' : HO}
theorem HOk.write (ok : HOk P w H h) (mu : Mut (H x)) (he : e = x ∨ H e = some (.own x)) (k : ∀ b u, b ≠ e → h.get? b = some u → h'.get? b = some u) (heo : ∃ u, h'.get? e = some u)
    (new : ObjOk P w (upd H x o') h' x o') : HOk P w (upd H x o') h' := fun b u q => by
  have nown : ∀ c y, H c = some (.own y) → c ≠ x := fun c y r z => by subst z; rw [r] at mu; exact mu
  have ntup : ∀ c xs, H c = some (.tup xs) → c ≠ x := fun c xs r z => by subst z; rw [r] at mu; exact mu
  by_cases hb : b = x
  · subst hb; rw [upd_same] at q; cases q; exact new
  · rw [upd_ne hb] at q
    by_cases hbe : b = e
    · have q' : H b = some (.own x) := by
        rcases he with z | z
        · exact absurd (hbe.trans z) hb
        · rw [hbe]; exact z
      rw [q] at q'; cases q'
      obtain ⟨v, hv⟩ := heo
      exact ⟨v, by rw [hbe]; exact hv⟩
    · refine (ok b u q).stay (fun c v hc r => k c v ?_ r) (fun c r => by rw [upd_ne (nown c b r)]; exact r) fun c xs r => by rw [upd_ne (ntup c xs r)]; exact r
      rcases hc with rfl | hc
      · exact hbe
      · rintro rfl
        rcases he with z | z
        · exact nown c b hc z
        · rw [hc] at z; cases z; exact hb rfl
end
structure Un (fs ex : List Addr) (H H' : Hp) (h h' : Heap) : Prop where
  keep : ∀ b o, h.get? b = some o → H b = none → b ∉ fs → b ∉ ex → h'.get? b = some o
  slot : ∀ b o, h.get? b = some o → H b = none → b ∈ fs → b ∉ ex → ∃ sl, h'.get? b = some { o with slots := sl }
  free : ∀ b o, h.get? b = some o → H b = none → b ∉ ex → H' b = none
  there : ∀ b o, h.get? b = some o → b ∉ ex → ∃ o', h'.get? b = some o'
  tups : ∀ b xs, H b = some (.tup xs) → H' b = some (.tup xs)
  frzs : ∀ b o u, H b = some (.frz o u) → H' b = some (.frz o u)
  tbls : ∀ b ps, H b = some (.tbl ps) → ∃ more, H' b = some (.tbl (ps ++ more))
section
variable {fs fs' ex ex' : List Addr} {H H1 H2 : Hp} {h h1 h2 h' : Heap} {a x e : Addr} {o : HO}
theorem Un.any (u : Un fs ex H H1 h h1) {b : Addr} {ob : Obj} (q : h.get? b = some ob) (n : H b = none) (hx : b ∉ ex) : ∃ sl, h1.get? b = some { ob with slots := sl } := by
  by_cases hb : b ∈ fs
  · exact u.slot b ob q n hb hx
  · exact ⟨ob.slots, u.keep b ob q n hb hx⟩
theorem Un.trans (a : Un fs ex H H1 h h1) (b : Un fs ex H1 H2 h1 h2) : Un fs ex H H2 h h2 where
  keep := fun c ob q n hc hx => b.keep c ob (a.keep c ob q n hc hx) (a.free c ob q n hx) hc hx
  slot := fun c ob q n hc hx => by
    obtain ⟨sl, e1⟩ := a.slot c ob q n hc hx
    obtain ⟨sl', e2⟩ := b.slot c _ e1 (a.free c ob q n hx) hc hx
    exact ⟨sl', e2⟩
  free := fun c ob q n hx => by
    obtain ⟨o', e1⟩ := a.there c ob q hx
    exact b.free c o' e1 (a.free c ob q n hx) hx
  there := fun c ob q hx => by
    obtain ⟨o', e1⟩ := a.there c ob q hx
    exact b.there c o' e1 hx
  tups := fun c xs q => b.tups c xs (a.tups c xs q)
  frzs := fun c ob xs q => b.frzs c ob xs (a.frzs c ob xs q)
  tbls := fun c ps q => by
    obtain ⟨m1, e1⟩ := a.tbls c ps q
    obtain ⟨m2, e2⟩ := b.tbls c _ e1
    exact ⟨m1 ++ m2, by rw [e2, Array.append_assoc]⟩
theorem Un.kept (k : ∀ b u, h.get? b = some u → h'.get? b = some u) : Un fs ex H H h h' :=
  ⟨fun b ob q _ _ _ => k b ob q, fun b ob q _ _ _ => ⟨ob.slots, k b ob q⟩, fun _ _ _ n _ => n, fun b ob q _ => ⟨ob, k b ob q⟩, fun _ _ q => q, fun _ _ _ q => q, fun _ ps q => ⟨#[], by rw [q]; simp⟩⟩
theorem Un.refl : Un fs ex H H h h := Un.kept fun _ _ q => q
theorem Un.laid (k : ∀ b u, h.get? b = some u → h'.get? b = some u) (hp : h.objs.size ≤ a) (hn : H a = none) : Un fs ex H (upd H a o) h h' where
  keep := fun b u q _ _ _ => k b u q
  slot := fun b u q _ _ _ => ⟨u.slots, k b u q⟩
  free := fun b u q n _ => by rw [upd_ne (Nat.ne_of_lt (Nat.lt_of_lt_of_le (Heap.lt_size q) hp))]; exact n
  there := fun b u q _ => ⟨u, k b u q⟩
  tups := fun b xs q => by rw [upd_ne (ne_of_none q hn)]; exact q
  frzs := fun b u xs q => by rw [upd_ne (ne_of_none q hn)]; exact q
  tbls := fun b ps q => ⟨#[], by rw [upd_ne (ne_of_none q hn), q]; simp⟩
theorem Un.write (mu : Mut (H x)) (he : e = x ∨ H e = some (.own x)) (k : ∀ b u, b ≠ e → h.get? b = some u → h'.get? b = some u) (heo : ∃ u, h'.get? e = some u) : Un fs ex H (upd H x o) h h' := by
  have hx : ∀ b, H b = none → b ≠ x := fun b n z => by subst z; rw [n] at mu; exact mu
  have hb : ∀ b, H b = none → b ≠ e := fun b n z => by
    subst z
    rcases he with r | r
    · exact hx b n r
    · rw [n] at r; cases r
  have hm : ∀ b u, H b = some u → ¬ Mut (some u) → b ≠ x := fun b u q nm z => by subst z; rw [q] at mu; exact nm mu
  refine ⟨fun b u q n _ _ => k b u (hb b n) q, fun b u q n _ _ => ⟨u.slots, k b u (hb b n) q⟩, fun b u q n _ => by rw [upd_ne (hx b n)]; exact n, fun b u q _ => ?_,
    fun b xs q => by rw [upd_ne (hm b _ q fun z => z)]; exact q, fun b u xs q => by rw [upd_ne (hm b _ q fun z => z)]; exact q, fun b ps q => ⟨#[], by rw [upd_ne (hm b _ q fun z => z), q]; simp⟩⟩
  by_cases hbe : b = e
  · subst hbe; exact heo
  · exact ⟨u, k b u hbe q⟩
end
def trk (h : Heap) (H : Hp) : List Addr := (List.range h.objs.size).filter fun a => (H a).isSome
def hidT (h : Heap) (H : Hp) : Heap := PySem.W.hideAll h (trk h H)
theorem hidT_size (h : Heap) (H : Hp) : (hidT h H).objs.size = h.objs.size := PySem.W.hideAll_size _ _
theorem hidT_get {h : Heap} {H : Hp} {b : Addr} {o : Obj} (e : h.get? b = some o) (n : H b = none) : (hidT h H).get? b = some o :=
  PySem.W.hideAll_get _ e fun hm => by
    have q : (H b).isSome = true := (List.mem_filter.mp hm).2
    rw [n] at q; simp at q
theorem of_hidT {h : Heap} {H : Hp} {b : Addr} {o : Obj} (e : (hidT h H).get? b = some o) : h.get? b = some o ∧ H b = none := by
  have e' : h.get? b = some o := PySem.W.of_hideAll (trk h H) e
  refine ⟨e', ?_⟩
  cases q : H b with
  | none => rfl
  | some x =>
    have hm : b ∈ trk h H := List.mem_filter.mpr ⟨List.mem_range.mpr (Heap.lt_size e'), by simp [q]⟩
    have z : (hidT h H).get? b = none := PySem.W.hideAll_none (trk h H) hm
    rw [z] at e; cases e
end L2
namespace L2
open PySem PySem.Spec PyProof.Rows
structure Mod (K : PySem.W.Frag) (mg : Str → Option Value) (base : Heap) : Prop where
  kin : K.In base
  glob : base.Ns mainGlobals mg
  blt : ∃ mb, base.Ns builtinsNs mb ∧ ∀ x : Str, x ≠ "__name__" → mb x = bootBuiltins x
  nolimit : base.NoLimit
structure Cx where
  prog : Program
  w : World
  K : PySem.W.Frag
  mg : Str → Option Value
  base : Heap
  A : Around
  N : List Str
  s₀ : Shared
  H₀ : Hp
  env : Env
  outer : List Env
  stack : List Env
  ex : List Addr
  fn : Str → Bool
  calm : Bool
  pn : List (Addr × Obj)
  xe : Value → Shared → Prop
def frs (l : List Env) : List Addr := l.filterMap (·.frame)
abbrev Cx.fs (X : Cx) : List Addr := frs X.outer
def Vis (sc : Scope) (x : Str) : Prop := sc.names.lookup x = some .local ∨ sc.names.lookup x = some .cell ∨ sc.names.lookup x = some .free
def Loc (sc : Scope) (x : Str) : Prop := sc.names.lookup x = some .local ∨ sc.names.lookup x = some .cell
def Look (env : Env) (h : Heap) (m : Str → Option Value) (x : Str) (u : Value) : Prop :=
  (env.kindOf x = some .local ∧ m x = some u) ∨ ((env.kindOf x = some .cell ∨ env.kindOf x = some .free) ∧ ∃ c, env.cells.lookup x = some c ∧ h.IsCell c (some u))
structure Cx.Ok (X : Cx) : Prop where
  mod : Mod X.K X.mg X.base
  kind : X.env.scope.kind = .function
  glob : X.env.globals = mainGlobals
  blt : X.env.builtins = builtinsNs
  above : X.s₀.heap.objs.size ≤ X.env.locals
  inj : ∀ x y c, X.env.cells.lookup x = some c → X.env.cells.lookup y = some c → x = y
  has : ∀ x, (X.env.kindOf x = some .cell ∨ X.env.kindOf x = some .free) → ∃ c, X.env.cells.lookup x = some c
  cab : ∀ x c, X.fn x = true → X.env.cells.lookup x = some c → X.s₀.heap.objs.size ≤ c
  hd : X.calm = true → X.A.handled = none
  frames : X.A.frames = some X.stack
  stk : X.stack = X.outer ∨ (X.stack = X.env :: X.outer ∧ X.env.frame = some X.env.locals)
  exf : ∀ b ∈ X.ex, b ≠ X.env.locals ∧ ∀ x c, X.env.cells.lookup x = some c → c ≠ b
  bs : ∀ b o, X.base.get? b = some o → X.s₀.heap.get? b = some o ∧ X.H₀ b = none
  bsz : X.base.objs.size ≤ X.s₀.heap.objs.size
  noex : ∀ b o, X.base.get? b = some o → b ∉ X.ex
  exfs : ∀ b ∈ X.ex, b ∉ X.fs
  funs : X.s₀.heap.FunFrames X.base X.outer
  frf : ∀ b ∈ X.fs, X.H₀ b = none
structure Inv (X : Cx) (pins : List (Addr × Obj)) (σ : List (Option V)) (H : Hp) (s : Shared) : Prop where
  ok : X.Ok
  os : s.os = X.s₀.os
  bare : AllBare s.gens
  base : Un X.fs X.ex X.H₀ H X.s₀.heap s.heap
  loc : ∃ m, s.heap.Ns X.env.locals m ∧ ∀ (i : Nat) (x : Str) (v : V), X.N[i]? = some x → σ[i]? = some (some v) → Vis X.env.scope x → ∃ u, RelV v u ∧ Look X.env s.heap m x u
  cell : ∀ x c, X.env.cells.lookup x = some c → ∃ v, s.heap.IsCell c v
  free : H X.env.locals = none
  freeC : ∀ x c, X.env.cells.lookup x = some c → H c = none
  pin : ∀ p ∈ X.pn ++ pins, s.heap.get? p.1 = some p.2 ∧ H p.1 = none ∧ p.1 ≠ X.env.locals ∧ p.1 ∉ X.fs ∧ ∀ v, p.2.data ≠ .cell v
  hok : HOk X.prog X.w H s.heap
  len : σ.length = X.N.length
section
variable {X : Cx} {pins : List (Addr × Obj)} {σ : List (Option V)} {H H' : Hp} {s : Shared} {h' : Heap}
theorem Cx.Ok.nofr (ok : X.Ok) {b : Addr} {o : Obj} (e : X.base.get? b = some o) : b ∉ X.fs := fun hb => by
  have := (ok.funs.mem hb).1
  rw [e] at this; cases this
theorem Inv.bs (I : Inv X pins σ H s) : ∀ b o, X.base.get? b = some o → s.heap.get? b = some o ∧ H b = none := fun b o e =>
  ⟨I.base.keep b o (I.ok.bs b o e).1 (I.ok.bs b o e).2 (I.ok.nofr e) (I.ok.noex b o e), I.base.free b o (I.ok.bs b o e).1 (I.ok.bs b o e).2 (I.ok.noex b o e)⟩
theorem Inv.bk (I : Inv X pins σ H s) : ∀ b o, X.base.get? b = some o → s.heap.get? b = some o := fun b o e => (I.bs b o e).1
theorem Inv.mod (I : Inv X pins σ H s) : Mod X.K X.mg X.base := I.ok.mod
theorem Inv.kIn (I : Inv X pins σ H s) : X.K.In s.heap := I.ok.mod.kin.keeps I.bk
theorem Inv.lt (I : Inv X pins σ H s) : X.env.locals < s.heap.objs.size := let ⟨_, hn, _⟩ := I.loc; hn.lt
theorem Inv.sz (I : Inv X pins σ H s) : X.s₀.heap.objs.size ≤ s.heap.objs.size := Nat.le_trans I.ok.above (Nat.le_of_lt I.lt)
theorem Inv.nofs (I : Inv X pins σ H s) {a : Addr} (h : s.heap.objs.size ≤ a) : a ∉ X.fs := fun hb => by
  obtain ⟨_, o, ho, _⟩ := I.ok.funs.mem hb
  exact absurd (Nat.lt_of_lt_of_le (Heap.lt_size ho) (Nat.le_trans I.sz h)) (Nat.lt_irrefl _)
theorem Inv.cne (I : Inv X pins σ H s) : ∀ x c, X.env.cells.lookup x = some c → c ≠ X.env.locals := fun x c e z => by
  obtain ⟨v, o, ho, hd⟩ := I.cell x c e
  obtain ⟨m, ⟨o', es, ep, ho', hd', _⟩, _⟩ := I.loc
  rw [z, ho'] at ho; cases ho; rw [hd'] at hd; cases hd
theorem Inv.funs (I : Inv X pins σ H s) : s.heap.FunFrames X.base X.outer := by
  have all : ∀ (l : List Env), (∀ b ∈ frs l, b ∈ X.fs) → X.s₀.heap.FunFrames X.base l → s.heap.FunFrames X.base l := by
    intro l
    induction l with
    | nil => intro _ _; trivial
    | cons env r ih =>
      intro hs hl
      obtain ⟨hk, ⟨L, o, hf, hn, ho, hd⟩, hr⟩ := hl
      have hL : L ∈ X.fs := hs L (by unfold frs; rw [List.filterMap_cons, hf]; exact List.mem_cons_self)
      obtain ⟨sl, e⟩ := I.base.slot L o ho (I.ok.frf L hL) hL fun z => I.ok.exfs L z hL
      exact ⟨hk, ⟨L, _, hf, hn, e, hd⟩, ih (fun b hb => hs b (by unfold frs; rw [List.filterMap_cons, hf]; exact List.mem_cons_of_mem _ hb)) hr⟩
  exact all X.outer (fun _ hb => hb) I.ok.funs
theorem Inv.stack (I : Inv X pins σ H s) : s.heap.FunFrames X.base X.stack := by
  rcases I.ok.stk with e | ⟨e, hf⟩
  · rw [e]; exact I.funs
  · rw [e]
    obtain ⟨m, hn, _⟩ := I.loc
    refine .cons (by rw [I.ok.kind]; decide) hf hn ?_ I.funs
    exact Heap.get?_none_of_le (Nat.le_trans I.ok.bsz I.ok.above)
theorem Inv.stkSub (I : Inv X pins σ H s) : ∀ b ∈ frs X.stack, b ∈ X.env.locals :: X.fs := fun b hb => by
  rcases I.ok.stk with e | ⟨e, hf⟩
  · rw [e] at hb; exact List.mem_cons_of_mem _ hb
  · rw [e] at hb
    unfold frs at hb
    rw [List.filterMap_cons, hf] at hb
    exact hb
theorem Inv.stkFree (I : Inv X pins σ H s) : ∀ b ∈ frs X.stack, H b = none := fun b hb => by
  rcases List.mem_cons.mp (I.stkSub b hb) with e | hb
  · rw [e]; exact I.free
  · obtain ⟨_, o, ho, _⟩ := I.ok.funs.mem hb
    exact I.base.free b o ho (I.ok.frf b hb) fun z => I.ok.exfs b z hb
theorem Inv.step {g' : Array GenState} {t' : Nat} {d' : Drawn} {ch : List Addr} (I : Inv X pins σ H s)
    (hch : ∀ b ∈ ch, (b ∈ X.ex ∨ X.s₀.heap.objs.size ≤ b) ∧ b ≠ X.env.locals ∧ (∀ x c, X.env.cells.lookup x = some c → c ≠ b) ∧ ∀ p ∈ X.pn ++ pins, p.1 ≠ b)
    (keep : ∀ b o, b ≠ X.env.locals → b ∉ X.fs → b ∉ ch → s.heap.get? b = some o → H b = none → h'.get? b = some o)
    (slot : ∀ b o, b ≠ X.env.locals → b ∈ X.fs → b ∉ ch → s.heap.get? b = some o → H b = none → ∃ sl, h'.get? b = some { o with slots := sl }) (free : ∀ b o, b ∉ ch → s.heap.get? b = some o → H b = none → H' b = none)
    (there : ∀ b o, b ∉ ch → s.heap.get? b = some o → ∃ o', h'.get? b = some o')
    (tups : ∀ b xs, H b = some (.tup xs) → H' b = some (.tup xs)) (frzs : ∀ b o u, H b = some (.frz o u) → H' b = some (.frz o u)) (tbls : ∀ b ps, H b = some (.tbl ps) → ∃ more, H' b = some (.tbl (ps ++ more)))
    (ns : ∀ m, s.heap.Ns X.env.locals m → h'.Ns X.env.locals m) (hok : HOk X.prog X.w H' h') (hg : AllBare g') :
    Inv X pins σ H' { s with heap := h', gens := g', drawn := d', toks := t' } := by
  have neL : ∀ b o, X.s₀.heap.get? b = some o → b ≠ X.env.locals := fun b o e => Nat.ne_of_lt (Nat.lt_of_lt_of_le (Heap.lt_size e) I.ok.above)
  have neC : ∀ b o, X.s₀.heap.get? b = some o → b ∉ X.ex → b ∉ ch := fun b o e hx hb => by
    rcases (hch b hb).1 with z | z
    · exact hx z
    · exact absurd (Nat.lt_of_lt_of_le (Heap.lt_size e) z) (Nat.lt_irrefl _)
  have cellK : ∀ x c, X.env.cells.lookup x = some c → ∀ v, s.heap.IsCell c v → h'.IsCell c v := fun x c e v ⟨o, ho, hd⟩ => by
    have nch : c ∉ ch := fun z => (hch c z).2.2.1 x c e rfl
    by_cases hc : c ∈ X.fs
    · obtain ⟨sl, q⟩ := slot c o (I.cne x c e) hc nch ho (I.freeC x c e)
      exact ⟨_, q, hd⟩
    · exact ⟨o, keep c o (I.cne x c e) hc nch ho (I.freeC x c e), hd⟩
  refine ⟨I.ok, I.os, hg, ⟨fun b o e n hb hx => ?_, fun b o e n hb hx => ?_, fun b o e n hx => ?_, fun b o e hx => ?_, fun b xs e => tups b xs (I.base.tups b xs e), fun b o xs e => frzs b o xs (I.base.frzs b o xs e), fun b ps e => ?_⟩, ?_, fun x c e => ?_, ?_, fun x c e => ?_, fun p hp => ?_, hok, I.len⟩
  · exact keep b o (neL b o e) hb (neC b o e hx) (I.base.keep b o e n hb hx) (I.base.free b o e n hx)
  · obtain ⟨sl, e1⟩ := I.base.slot b o e n hb hx
    obtain ⟨sl', e2⟩ := slot b _ (neL b o e) hb (neC b o e hx) e1 (I.base.free b o e n hx)
    exact ⟨sl', e2⟩
  · obtain ⟨o', e1⟩ := I.base.there b o e hx
    exact free b o' (neC b o e hx) e1 (I.base.free b o e n hx)
  · obtain ⟨o', e1⟩ := I.base.there b o e hx
    exact there b o' (neC b o e hx) e1
  · obtain ⟨m1, e1⟩ := I.base.tbls b ps e
    obtain ⟨m2, e2⟩ := tbls b _ e1
    exact ⟨m1 ++ m2, by rw [e2, Array.append_assoc]⟩
  · obtain ⟨m, hn, hl⟩ := I.loc
    refine ⟨m, ns m hn, fun i x v e1 e2 e3 => ?_⟩
    obtain ⟨u, r, l⟩ := hl i x v e1 e2 e3
    refine ⟨u, r, ?_⟩
    rcases l with l | ⟨k, c, e, z⟩
    · exact .inl l
    · exact .inr ⟨k, c, e, cellK x c e _ z⟩
  · obtain ⟨v, z⟩ := I.cell x c e
    exact ⟨v, cellK x c e v z⟩
  · obtain ⟨m, ⟨o, _, _, ho, _⟩, _⟩ := I.loc
    exact free _ o (fun z => (hch _ z).2.1 rfl) ho I.free
  · obtain ⟨v, o, ho, hd⟩ := I.cell x c e
    exact free c o (fun z => (hch c z).2.2.1 x c e rfl) ho (I.freeC x c e)
  · obtain ⟨e, n, ne, nf, d⟩ := I.pin p hp
    have nch : p.1 ∉ ch := fun z => (hch p.1 z).2.2.2 p hp rfl
    exact ⟨keep p.1 p.2 ne nf nch e n, free p.1 p.2 nch e n, ne, nf, d⟩
theorem Inv.un {t' : Nat} (I : Inv X pins σ H s) (u : Un X.fs [] H H' s.heap h') (hok : HOk X.prog X.w H' h') : Inv X pins σ H' { s with heap := h', toks := t' } := by
  obtain ⟨m, ⟨o, es, ep, ho, r⟩, _⟩ := id I.loc
  obtain ⟨sl, hL⟩ := u.any ho I.free (by simp)
  exact I.step (g' := s.gens) (d' := s.drawn) (ch := []) (fun _ z => nomatch z) (fun b o _ hb _ e n => u.keep b o e n hb (by simp)) (fun b o _ hb _ e n => u.slot b o e n hb (by simp)) (fun b o _ e n => u.free b o e n (by simp)) (fun b o _ e => u.there b o e (by simp)) u.tups u.frzs u.tbls (fun m' hm => by
    obtain ⟨o', es', ep', ho', r'⟩ := hm
    rw [ho] at ho'; cases ho'
    exact ⟨_, es', ep', hL, r'⟩) hok I.bare
theorem Inv.call {g' : Array GenState} {t' : Nat} {d' : Drawn} {ch : List Addr} (I : Inv X pins σ H s) (u : Un (frs X.stack) ch H H' s.heap h') (hok : HOk X.prog X.w H' h') (hg : AllBare g')
    (hch : ∀ b ∈ ch, (b ∈ X.ex ∨ X.s₀.heap.objs.size ≤ b) ∧ b ≠ X.env.locals ∧ (∀ x c, X.env.cells.lookup x = some c → c ≠ b) ∧ ∀ p ∈ X.pn ++ pins, p.1 ≠ b) :
    Inv X pins σ H' { s with heap := h', gens := g', drawn := d', toks := t' } := by
  obtain ⟨m, ⟨o, es, ep, ho, r⟩, _⟩ := id I.loc
  obtain ⟨sl, hL⟩ := u.any ho I.free fun z => (hch _ z).2.1 rfl
  exact I.step (ch := ch) hch (fun b o hL hb hc e n => u.keep b o e n (fun z => (List.mem_cons.mp (I.stkSub b z)).elim hL hb) hc) (fun b o _ _ hc e n => u.any e n hc) (fun b o hc e n => u.free b o e n hc) (fun b o hc e => u.there b o e hc) u.tups u.frzs u.tbls (fun m' hm => by
    obtain ⟨o', es', ep', ho', r'⟩ := hm
    rw [ho] at ho'; cases ho'
    exact ⟨_, es', ep', hL, r'⟩) hok hg
theorem Inv.turned {t' : Nat} {it : Addr} (I : Inv X pins σ H s) (k : ∀ b o, b ≠ it → s.heap.get? b = some o → h'.get? b = some o) (hn : H it = none) (hL : it ≠ X.env.locals)
    (h1 : it ∈ X.ex ∨ X.s₀.heap.objs.size ≤ it) (h2 : ∀ x c, X.env.cells.lookup x = some c → c ≠ it) (h3 : ∀ p ∈ X.pn ++ pins, p.1 ≠ it) : Inv X pins σ H { s with heap := h', toks := t' } := by
  have nit : ∀ b u, H b = some u → b ≠ it := fun b u e z => by rw [z, hn] at e; cases e
  refine I.step (g' := s.gens) (d' := s.drawn) (ch := [it]) (fun b hb => ?_) (fun b o _ _ hc e _ => k b o (fun z => hc (by simp [z])) e) (fun b o _ _ hc e _ => ⟨o.slots, k b o (fun z => hc (by simp [z])) e⟩) (fun _ _ _ _ n => n)
    (fun b o hc e => ⟨o, k b o (fun z => hc (by simp [z])) e⟩) (fun _ _ e => e) (fun _ _ _ e => e) (fun b ps e => ⟨#[], by rw [e]; simp⟩) (fun m hm => ?_) (fun b u e => ?_) I.bare
  · have e : b = it := by simpa using hb
    subst e
    exact ⟨h1, hL, h2, h3⟩
  · obtain ⟨o, es, ep, ho, r⟩ := hm
    exact ⟨o, es, ep, k _ o (Ne.symm hL) ho, r⟩
  · refine (I.hok b u e).stay (fun c v hc q => k c v ?_ q) (fun _ q => q) fun _ _ q => q
    rcases hc with z | z
    · rw [z]; exact nit b u e
    · exact nit c _ z
theorem Inv.tok (I : Inv X pins σ H s) (t : Nat) : Inv X pins σ H { s with toks := t } := I.un (h' := s.heap) (t' := t) Un.refl I.hok
theorem Inv.kept {t' : Nat} (I : Inv X pins σ H s) (k : ∀ b u, s.heap.get? b = some u → h'.get? b = some u) : Inv X pins σ H { s with heap := h', toks := t' } := I.un (Un.kept k) (I.hok.kept k)
theorem Inv.laid {a : Addr} {o : HO} {t' : Nat} (I : Inv X pins σ H s) (k : ∀ b u, s.heap.get? b = some u → h'.get? b = some u) (hp : s.heap.objs.size ≤ a) (new : ObjOk X.prog X.w (upd H a o) h' a o) :
    Inv X pins σ (upd H a o) { s with heap := h', toks := t' } := I.un (Un.laid k hp (I.hok.fresh hp)) (I.hok.laid k hp new)
theorem Inv.write {x e : Addr} {o : HO} {t' : Nat} (I : Inv X pins σ H s) (mu : Mut (H x)) (he : e = x ∨ H e = some (.own x)) (k : ∀ b u, b ≠ e → s.heap.get? b = some u → h'.get? b = some u) (heo : ∃ u, h'.get? e = some u)
    (new : ObjOk X.prog X.w (upd H x o) h' x o) : Inv X pins σ (upd H x o) { s with heap := h', toks := t' } := I.un (Un.write mu he k heo) (I.hok.write mu he k heo new)
theorem Inv.pins_of {pins' : List (Addr × Obj)} (I : Inv X pins σ H s) (h : ∀ p ∈ pins', s.heap.get? p.1 = some p.2 ∧ H p.1 = none ∧ p.1 ≠ X.env.locals ∧ p.1 ∉ X.fs ∧ ∀ v, p.2.data ≠ .cell v) : Inv X pins' σ H s :=
  ⟨I.ok, I.os, I.bare, I.base, I.loc, I.cell, I.free, I.freeC, fun p hp => (List.mem_append.mp hp).elim (fun z => I.pin p (List.mem_append_left _ z)) (h p), I.hok, I.len⟩
theorem nodup_ix {N : List Str} (hN : N.Nodup) {i j : Nat} {x : Str} (a : N[i]? = some x) (b : N[j]? = some x) : i = j := by
  obtain ⟨h1, e1⟩ := List.getElem?_eq_some_iff.mp a
  obtain ⟨h2, e2⟩ := List.getElem?_eq_some_iff.mp b
  exact (List.getElem_inj hN).mp (e1.trans e2.symm)
theorem store_ok2 {M : Model} {A : Around} {E : Value → Shared → Prop} {i : Nat} {x : Str} {v : V} {u : Value} {Q : Unit → Shared → Prop} (I : Inv X pins σ H s) (hN : X.N.Nodup) (hi : X.N[i]? = some x) (hx : Loc X.env.scope x) (r : RelV v u)
    (h : ∀ s', Inv X pins (σ.set i (some v)) H s' → (∃ a, Heap.SameBut a s.heap s'.heap ∧ (a = X.env.locals ∨ X.env.cells.lookup x = some a)) → Q () s') (hf : X.fn x = true ∨ X.env.scope.names.lookup x = some .local := by first | exact .inl rfl | exact .inr rfl | assumption) : wpAny M A (storeName X.env x u) Q E s := by
  obtain ⟨m, hn, hl⟩ := id I.loc
  have hcls : (X.env.scope.kind == .class || (X.env.scope.kind == .module && X.env.locals != X.env.globals)) = false := by rw [I.ok.kind]; rfl
  have hiσ : i < σ.length := by rw [I.len]; exact (List.getElem?_eq_some_iff.mp hi).1
  have cne := I.cne
  have tracked : ∀ {a : Addr} {h' : Heap}, (∃ o, s.heap.get? a = some o ∧ H a = none) → Heap.SameBut a s.heap h' → HOk X.prog X.w H h' := fun {a h'} ha hs b ob e => by
    obtain ⟨_, _, hfree⟩ := ha
    refine (I.hok b ob e).stay (fun c w' hc q => (hs.2 c ?_).trans q) (fun _ q => q) fun _ _ q => q
    rintro rfl
    rcases hc with rfl | hc
    · rw [hfree] at e; cases e
    · rw [hfree] at hc; cases hc
  rcases hx with hk | hk
  · refine wpAny_storeName_local hk hn (fun h' hn' hs => ?_) hcls
    obtain ⟨oL, _, _, hoL, _⟩ := id hn
    refine h _ ⟨I.ok, I.os, I.bare, ⟨fun b o e n hb hx => ?_, fun b o e n hb hx => ?_, I.base.free, fun b o e hx => ?_, I.base.tups, I.base.frzs, I.base.tbls⟩, ⟨_, hn', fun j y v' e1 e2 e3 => ?_⟩, fun y c e => ?_, I.free, I.freeC, fun p hp => ?_, tracked ⟨oL, hoL, I.free⟩ hs, by simpa using I.len⟩ ⟨_, hs, .inl rfl⟩
    · exact (hs.2 b (Nat.ne_of_lt (Nat.lt_of_lt_of_le (Heap.lt_size e) I.ok.above))).trans (I.base.keep b o e n hb hx)
    · obtain ⟨sl, e1⟩ := I.base.slot b o e n hb hx
      exact ⟨sl, (hs.2 b (Nat.ne_of_lt (Nat.lt_of_lt_of_le (Heap.lt_size e) I.ok.above))).trans e1⟩
    · obtain ⟨o', e1⟩ := I.base.there b o e hx
      exact ⟨o', (hs.2 b (Nat.ne_of_lt (Nat.lt_of_lt_of_le (Heap.lt_size e) I.ok.above))).trans e1⟩
    · by_cases hj : j = i
      · subst hj
        rw [hi] at e1; cases e1
        rw [List.getElem?_set_self hiσ] at e2
        cases e2
        exact ⟨u, r, .inl ⟨hk, by simp⟩⟩
      · rw [List.getElem?_set_ne (Ne.symm hj)] at e2
        obtain ⟨u', r', q⟩ := hl j y v' e1 e2 e3
        refine ⟨u', r', ?_⟩
        rcases q with ⟨k, e⟩ | ⟨k, c, e, z⟩
        · refine .inl ⟨k, ?_⟩
          have : y ≠ x := fun e => hj (nodup_ix hN e1 (e ▸ hi))
          simp [this, e]
        · exact .inr ⟨k, c, e, z.sameBut hs (cne y c e)⟩
    · obtain ⟨w', z⟩ := I.cell y c e
      exact ⟨w', z.sameBut hs (cne y c e)⟩
    · obtain ⟨e, n, ne, nf, d⟩ := I.pin p hp
      exact ⟨(hs.2 p.1 ne).trans e, n, ne, nf, d⟩
  · have hfn : X.fn x = true := by
      rcases hf with z | z
      · exact z
      · rw [z] at hk; cases hk
    obtain ⟨c, hc⟩ := I.ok.has x (.inl hk)
    obtain ⟨w', z⟩ := I.cell x c hc
    refine wpAny_storeName_cell I.ok.kind hk hc z (fun h' hc' hs => ?_)
    obtain ⟨oc, hoc, hocd⟩ := id z
    refine h { s with heap := h' } ⟨I.ok, I.os, I.bare, ⟨fun b o e n hb hx => ?_, fun b o e n hb hx => ?_, I.base.free, fun b o e hx => ?_, I.base.tups, I.base.frzs, I.base.tbls⟩, ⟨m, hn.sameBut hs (Ne.symm (cne x c hc)), fun j y v' e1 e2 e3 => ?_⟩, fun y c' e => ?_, I.free, I.freeC, fun p hp => ?_, tracked ⟨oc, hoc, I.freeC x c hc⟩ hs, by simpa using I.len⟩ ⟨c, hs, .inr hc⟩
    · exact (hs.2 b (Nat.ne_of_lt (Nat.lt_of_lt_of_le (Heap.lt_size e) (I.ok.cab x c hfn hc)))).trans (I.base.keep b o e n hb hx)
    · obtain ⟨sl, e1⟩ := I.base.slot b o e n hb hx
      exact ⟨sl, (hs.2 b (Nat.ne_of_lt (Nat.lt_of_lt_of_le (Heap.lt_size e) (I.ok.cab x c hfn hc)))).trans e1⟩
    · obtain ⟨o', e1⟩ := I.base.there b o e hx
      exact ⟨o', (hs.2 b (Nat.ne_of_lt (Nat.lt_of_lt_of_le (Heap.lt_size e) (I.ok.cab x c hfn hc)))).trans e1⟩
    · by_cases hj : j = i
      · subst hj
        rw [hi] at e1; cases e1
        rw [List.getElem?_set_self hiσ] at e2
        cases e2
        exact ⟨u, r, .inr ⟨.inl hk, c, hc, hc'⟩⟩
      · rw [List.getElem?_set_ne (Ne.symm hj)] at e2
        obtain ⟨u', r', q⟩ := hl j y v' e1 e2 e3
        refine ⟨u', r', ?_⟩
        rcases q with q | ⟨k, c', e, z'⟩
        · exact .inl q
        · refine .inr ⟨k, c', e, z'.sameBut hs ?_⟩
          rintro rfl
          exact hj (nodup_ix hN e1 (I.ok.inj _ _ _ e hc ▸ hi))
    · by_cases hcc : c' = c
      · subst hcc; exact ⟨_, hc'⟩
      · obtain ⟨w2, z2⟩ := I.cell y c' e
        exact ⟨w2, z2.sameBut hs hcc⟩
    · obtain ⟨e, n, ne, nf, d⟩ := I.pin p hp
      refine ⟨(hs.2 p.1 ?_).trans e, n, ne, nf, d⟩
      intro q
      rw [q, hoc] at e
      have q' : oc = p.2 := Option.some.inj e
      exact d w' (by rw [← q']; exact hocd)
theorem store_ok {M : Model} {A : Around} {E : Value → Shared → Prop} {i : Nat} {x : Str} {v : V} {u : Value} {Q : Unit → Shared → Prop} (I : Inv X pins σ H s) (hN : X.N.Nodup) (hi : X.N[i]? = some x) (hx : Loc X.env.scope x) (r : RelV v u)
    (h : ∀ s', Inv X pins (σ.set i (some v)) H s' → Q () s') (hf : X.fn x = true ∨ X.env.scope.names.lookup x = some .local := by first | exact .inl rfl | exact .inr rfl | assumption) : wpAny M A (storeName X.env x u) Q E s :=
  store_ok2 I hN hi hx r (fun s' I' _ => h s' I') hf
theorem Inv.call' {s' : Shared} {ch : List Addr} (I : Inv X pins σ H s) (ho : s'.os = s.os) (u : Un (frs X.stack) ch H H' s.heap s'.heap) (hok : HOk X.prog X.w H' s'.heap) (hg : AllBare s'.gens)
    (hch : ∀ b ∈ ch, (b ∈ X.ex ∨ X.s₀.heap.objs.size ≤ b) ∧ b ≠ X.env.locals ∧ (∀ x c, X.env.cells.lookup x = some c → c ≠ b) ∧ ∀ p ∈ X.pn ++ pins, p.1 ≠ b) : Inv X pins σ H' s' := by
  obtain ⟨h', g', d', t', o'⟩ := s'
  have e : o' = s.os := ho
  subst e
  exact I.call (g' := g') (t' := t') (d' := d') u hok hg hch
end
abbrev XK := Value → Option Addr → Hp → Prop
abbrev St := List (Option V)
abbrev VK := V → Hp → Prop
abbrev TE := St → Hp → VK → Prop
abbrev TT := St → Hp → (Bool → Hp → Prop) → Prop
abbrev TA := St → Hp → (List V → Hp → Prop) → Prop
structure Ends where
  nx : St → Hp → Prop
  rt : VK
  bk : St → Hp → Prop := fun _ _ => False
  ct : St → Hp → Prop := fun _ _ => False
abbrev TS := Ends → St → Hp → Prop
def EP (X : Cx) (pins : List (Addr × Obj)) (σ : St) (Q : VK) (u : Value) (s' : Shared) : Prop := ∃ v H', Inv X pins σ H' s' ∧ RelV v u ∧ Q v H'
def TP (X : Cx) (pins : List (Addr × Obj)) (σ : St) (Q : Bool → Hp → Prop) (b : Bool) (s' : Shared) : Prop := ∃ H', Inv X pins σ H' s' ∧ Q b H'
def AP (X : Cx) (pins : List (Addr × Obj)) (σ : St) (Q : List V → Hp → Prop) (us : List Value) (s' : Shared) : Prop := ∃ vs H', Inv X pins σ H' s' ∧ Vals vs us ∧ Q vs H'
def SP (X : Cx) (pins : List (Addr × Obj)) (D : Ends) (f : Flow) (s' : Shared) : Prop :=
  match f with
  | .next => ∃ σ' H', Inv X pins σ' H' s' ∧ D.nx σ' H'
  | .brk => ∃ σ' H', Inv X pins σ' H' s' ∧ D.bk σ' H'
  | .cont => ∃ σ' H', Inv X pins σ' H' s' ∧ D.ct σ' H'
  | .ret u => ∃ v σ' H', Inv X pins σ' H' s' ∧ RelV v u ∧ D.rt v H'
def PE (X : Cx) (e : Expr) (t : TE) : Prop :=
  ∀ (pins : List (Addr × Obj)) (s : Shared) (σ : St) (H : Hp) (Q : VK), Inv X pins σ H s → t σ H Q → wpAny (model X.prog X.w) X.A (eval e X.env) (EP X pins σ Q) X.xe s
def PT (X : Cx) (e : Expr) (t : TT) : Prop :=
  ∀ (pins : List (Addr × Obj)) (s : Shared) (σ : St) (H : Hp) (Q : Bool → Hp → Prop), Inv X pins σ H s → t σ H Q → wpAny (model X.prog X.w) X.A (isTrue e X.env (eval e X.env)) (TP X pins σ Q) X.xe s
def PW (X : Cx) (e : Expr) (t : TT) : Prop :=
  ∀ (whole : Sem Value) (pins : List (Addr × Obj)) (s : Shared) (σ : St) (H : Hp) (Q : Bool → Hp → Prop), Inv X pins σ H s → t σ H Q → wpAny (model X.prog X.w) X.A (isTrue e X.env whole) (TP X pins σ Q) X.xe s
theorem PW.pt {X : Cx} {e : Expr} {t : TT} (h : PW X e t) : PT X e t := h _
def PA (X : Cx) (es : List Expr) (t : TA) : Prop :=
  ∀ (pos : Pos) (pins : List (Addr × Obj)) (s : Shared) (σ : St) (H : Hp) (Q : List V → Hp → Prop), Inv X pins σ H s → t σ H Q → wpAny (model X.prog X.w) X.A (spliced (backTo pos (starEach es X.env))) (AP X pins σ Q) X.xe s
def PS (X : Cx) (st : Stmt) (t : TS) : Prop :=
  ∀ (pins : List (Addr × Obj)) (s : Shared) (σ : St) (H : Hp) (D : Ends), Inv X pins σ H s → t D σ H → wpAny (model X.prog X.w) X.A (exec st X.env) (SP X pins D) X.xe s
def PSs (X : Cx) (st : List Stmt) (t : TS) : Prop :=
  ∀ (pins : List (Addr × Obj)) (s : Shared) (σ : St) (H : Hp) (D : Ends), Inv X pins σ H s → t D σ H → wpAny (model X.prog X.w) X.A (execs st X.env) (SP X pins D) X.xe s
theorem thn {α : Type} {t : Sem α} {Q Q' : α → Shared → Prop} {M : Model} {A : Around} {E : Value → Shared → Prop} {s : Shared} (h : wpAny M A t Q E s) (hQ : ∀ a s, Q a s → Q' a s) : wpAny M A t Q' E s := wpAny_mono h hQ fun _ _ x => x
end L2
namespace L2
open PySem PySem.Spec PyProof.Rows
section
variable {X : Cx}
theorem bin {a b : Expr} {ta tb : TE} (ha : PE X a ta) (hb : PE X b tb) {pins : List (Addr × Obj)} {s : Shared} {σ : St} {H : Hp} {R : V → V → Hp → Prop} (I : Inv X pins σ H s) (h : ta σ H fun x H1 => tb σ H1 fun y H2 => R x y H2)
    {α : Type} {Q : α → Shared → Prop} {f : Value → Value → Sem α}
    (hf : ∀ v u s2 x y H2, Inv X pins σ H2 s2 → RelV x v → RelV y u → R x y H2 → wpAny (model X.prog X.w) X.A (f v u) Q X.xe s2) :
    wpAny (model X.prog X.w) X.A (eval a X.env) (fun v s₁ => wpAny (model X.prog X.w) X.A (eval b X.env) (fun u s₂ => wpAny (model X.prog X.w) X.A (f v u) Q X.xe s₂) X.xe s₁) X.xe s := by
  refine thn (ha pins s σ H _ I h) fun v s1 ⟨x, H1, I1, r1, q1⟩ => ?_
  refine thn (hb pins s1 σ H1 _ I1 q1) fun u s2 ⟨y, H2, I2, r2, q2⟩ => ?_
  exact hf v u s2 x y H2 I2 r1 r2 q2
def tVar (i : Nat) : TE := fun σ H Q => ∃ v, σ[i]? = some (some v) ∧ Q v H
def tC (v : V) : TE := fun _ H Q => Q v H
theorem pe_var {i : Nat} {x : Str} {pos : Pos} (hN : X.N[i]? = some x) (hv : Vis X.env.scope x) (hd : (x == ("__debug__" : Str)) = false := by decide) (hcd : (x == ("__classdict__" : Str)) = false := by decide) : PE X (.Name x pos) (tVar i) := by
  intro pins s σ H Q I h
  obtain ⟨v, e, h⟩ := h
  obtain ⟨m, hn, hl⟩ := I.loc
  obtain ⟨u, r, l⟩ := hl i x v hN e hv
  have fin : EP X pins σ Q u s := ⟨v, H, I, r, h⟩
  rcases l with ⟨hk, hm⟩ | ⟨hk, c, hc, hcell⟩
  · exact wpAny_Name (wpAny_loadName_local I.ok.kind hk hn hm fin) hd
  · rcases hk with hk | hk
    · exact wpAny_Name (wpAny_loadName_cell I.ok.kind hk hc hcell fin) hd
    · exact wpAny_Name (wpAny_loadName_free I.ok.kind hk hc hcell fin hcd) hd
theorem pe_int {i j pos} : PE X (.Constant (.int i) j pos) (tC (.int i)) := fun _ _ _ H _ I h => wpAny_Constant_int ⟨.int i, H, I.tok _, ⟨_, rfl⟩, h⟩
theorem pe_bl {b j pos} : PE X (.Constant (.bool b) j pos) (tC (.bl b)) := fun _ _ _ H _ I h => Constant_bool ⟨.bl b, H, I, rfl, h⟩
theorem pe_non {j pos} : PE X (.Constant .none j pos) (tC .non) := fun _ _ _ H _ I h => Constant_none ⟨.non, H, I, rfl, h⟩
theorem pe_str {x j pos} : PE X (.Constant (.str x) j pos) (tC (.str x)) := fun _ _ _ H _ I h => Calls.Constant_str ⟨.str x, H, I.tok _, ⟨_, rfl⟩, h⟩
def Gl (X : Cx) (x : Str) : Prop := X.env.kindOf x = some .globalImplicit
theorem ld_glob {E : Value → Shared → Prop} {pins : List (Addr × Obj)} {s : Shared} {σ : St} {H : Hp} {x : Str} {u : Value} {pos : Pos} {Q : Value → Shared → Prop} (I : Inv X pins σ H s) (hg : Gl X x) (hm : X.mg x = some u) (h : Q u s)
    (hd : (x == ("__debug__" : Str)) = false := by decide) : wpAny (model X.prog X.w) X.A (eval (.Name x pos) X.env) Q E s :=
  Calls.Name_function_global I.ok.kind hg (Calls.loadGlobal_global (by rw [I.ok.glob]; exact I.mod.glob.keeps I.bk) hm h) hd
theorem ld_blt {E : Value → Shared → Prop} {pins : List (Addr × Obj)} {s : Shared} {σ : St} {H : Hp} {x : Str} {u : Value} {pos : Pos} {Q : Value → Shared → Prop} (I : Inv X pins σ H s) (hg : Gl X x) (hm : X.mg x = none) (hv : bootBuiltins x = some u) (h : Q u s)
    (hn : x ≠ "__name__" := by decide) (hd : (x == ("__debug__" : Str)) = false := by decide) : wpAny (model X.prog X.w) X.A (eval (.Name x pos) X.env) Q E s := by
  obtain ⟨mb, h1, h2⟩ := I.mod.blt
  exact Calls.Name_function_global I.ok.kind hg (Calls.loadGlobal_builtin (by rw [I.ok.glob]; exact I.mod.glob.keeps I.bk) hm (by rw [I.ok.blt]; exact h1.keeps I.bk) ((h2 x hn).trans hv) h) hd
theorem pe_glob {x : Str} {v : V} {u : Value} {pos : Pos} (hg : Gl X x) (hm : X.mg x = some u) (r : RelV v u) (hd : (x == ("__debug__" : Str)) = false := by decide) : PE X (.Name x pos) (tC v) :=
  fun _ _ _ H _ I h => ld_glob I hg hm ⟨v, H, I, r, h⟩ hd
theorem pe_bltn {x : Str} {v : V} {u : Value} {pos : Pos} (hg : Gl X x) (hm : X.mg x = none) (hv : bootBuiltins x = some u) (r : RelV v u) (hn : x ≠ "__name__" := by decide) (hd : (x == ("__debug__" : Str)) = false := by decide) : PE X (.Name x pos) (tC v) :=
  fun _ _ _ H _ I h => ld_blt I hg hm hv ⟨v, H, I, r, h⟩ hn hd
variable {a b : Expr} {ta tb : TE} {pos : Pos}
variable {tA tB' : TT} {rest : List Expr}
def tAnd (t u : TT) : TT := fun σ H Q => t σ H fun c H1 => if c = true then u σ H1 Q else Q false H1
def tOr (t u : TT) : TT := fun σ H Q => t σ H fun c H1 => if c = true then Q true H1 else u σ H1 Q
def tNot (t : TT) : TT := fun σ H Q => t σ H fun c H1 => Q (!c) H1
theorem pw_and1 (ha : PT X a tA) : PW X (.BoolOp .And [a] pos) tA := by
  intro wh pins s σ H Q I h
  refine isTrue_and (thn (ha pins s σ H Q I h) fun c s1 e => ?_)
  cases c with
  | true => exact isTrue_and_nil e
  | false => exact e
theorem pw_or1 (ha : PT X a tA) : PW X (.BoolOp .Or [a] pos) tA := by
  intro wh pins s σ H Q I h
  refine isTrue_or (thn (ha pins s σ H Q I h) fun c s1 e => ?_)
  cases c with
  | false => exact isTrue_or_nil e
  | true => exact e
theorem pw_and (ha : PT X a tA) (hb : PW X (.BoolOp .And (b :: rest) pos) tB') : PW X (.BoolOp .And (a :: b :: rest) pos) (tAnd tA tB') := by
  intro wh pins s σ H Q I h
  refine isTrue_and (thn (ha pins s σ H _ I h) fun c s1 ⟨H1, I1, q1⟩ => ?_)
  cases c with
  | true => exact hb wh pins s1 σ H1 Q I1 q1
  | false => exact ⟨H1, I1, q1⟩
theorem pw_or (ha : PT X a tA) (hb : PW X (.BoolOp .Or (b :: rest) pos) tB') : PW X (.BoolOp .Or (a :: b :: rest) pos) (tOr tA tB') := by
  intro wh pins s σ H Q I h
  refine isTrue_or (thn (ha pins s σ H _ I h) fun c s1 ⟨H1, I1, q1⟩ => ?_)
  cases c with
  | true => exact ⟨H1, I1, q1⟩
  | false => exact hb wh pins s1 σ H1 Q I1 q1
theorem pt_not (ha : PT X a tA) : PT X (.UnaryOp .Not a pos) (tNot tA) := by
  intro pins s σ H Q I h
  exact isTrue_not (ha pins s σ H (fun c H1 => Q (!c) H1) I h)
theorem pe_one {op} {t : TE} (h : PE X a t) : PE X (.BoolOp op [a] pos) t := fun pins s σ H Q I hw => BoolOp_one (h pins s σ H Q I hw)
def tIf (t : TT) (ta tb : TE) : TE := fun σ H Q => t σ H fun c H1 => if c = true then ta σ H1 Q else tb σ H1 Q
theorem pe_ifExp {c : Expr} (hc : PT X c tA) (ha : PE X a ta) (hb : PE X b tb) : PE X (.IfExp c a b pos) (tIf tA ta tb) := by
  intro pins s σ H Q I h
  refine wpAny_IfExp (thn (hc pins s σ H _ I h) fun d s1 ⟨H1, I1, q1⟩ => ?_)
  cases d with
  | true => exact ha pins s1 σ H1 Q I1 q1
  | false => exact hb pins s1 σ H1 Q I1 q1
end
end L2
namespace L2
open PySem PySem.Spec PyProof.Rows
def SqL (K : PySem.W.Frag) (H : Hp) (a : Addr) (xs : List V) : Prop :=
  Rd H a (.lst xs) ∨
    ∃ (o : Obj) (its : Array Value) (n : Nat), K.lookup a = some o ∧ o.cls = .type "list" ∧ o.dict = none ∧ o.data = .seq its n ∧ its.size ≤ sizeLine ∧ Vals xs its.toList
def SqT (K : PySem.W.Frag) (H : Hp) (a : Addr) (xs : List V) : Prop :=
  Rd H a (.tup xs) ∨
    ∃ (o : Obj) (its : Array Value) (n : Nat), K.lookup a = some o ∧ o.cls = .type "tuple" ∧ o.data = .seq its n ∧ its.size ≤ sizeLine ∧ Vals xs its.toList
def absV : Value → Option V
  | .none => some .non
  | .bool b => some (.bl b)
  | .int i _ => some (.int i)
  | .str x _ => some (.str x)
  | .bytes b _ => some (.byt b)
  | .float b _ => some (.flt b)
  | .ref a => some (.ref a)
  | .type n => some (.ty n)
  | _ => none
theorem RelV.abs {x : V} {u : Value} (r : RelV x u) : absV u = some x := by
  cases x with
  | non => cases r; rfl
  | bl _ => cases r; rfl
  | int _ => obtain ⟨t, rfl⟩ := r; rfl
  | str _ => obtain ⟨t, rfl⟩ := r; rfl
  | byt _ => obtain ⟨t, rfl⟩ := r; rfl
  | flt _ => obtain ⟨t, rfl⟩ := r; rfl
  | ref _ => cases r; rfl
  | ty _ => cases r; rfl
theorem RelV.inj {x y : V} {u : Value} (r : RelV x u) (q : RelV y u) : x = y := Option.some.inj (r.abs.symm.trans q.abs)
theorem Vals.inj : ∀ {xs ys : List V} {us : List Value}, Vals xs us → Vals ys us → xs = ys
  | _, _, _, .nil, .nil => rfl
  | _, _, _, .cons r t, .cons r' t' => by rw [r.inj r', Vals.inj t t']
section
variable {X : Cx} {pins : List (Addr × Obj)} {σ : St} {H : Hp} {s : Shared} {a : Addr} {xs ys : List V}
theorem SqL.of {K : PySem.W.Frag} (h : H a = some (.lst xs)) : SqL K H a xs := .inl (.inl h)
theorem SqT.of {K : PySem.W.Frag} (h : H a = some (.tup xs)) : SqT K H a xs := .inl (.inl h)
theorem Inv.list (I : Inv X pins σ H s) (h : SqL X.K H a xs) : ∃ its : List Value, Vals xs its ∧ PlainL s.heap a its.toArray ∧ xs.length ≤ sizeLine := by
  rcases h with h | ⟨o, its, n, hk, hc, hd, hs, hz, r⟩
  · obtain ⟨z, its, n, r, e⟩ := h.ok I.hok
    exact ⟨its, r, ⟨_, n, e, rfl, rfl, rfl⟩, z⟩
  · refine ⟨its.toList, r, ⟨o, n, I.kIn a o hk, hc, hd, by simpa using hs⟩, ?_⟩
    have e := r.length
    simp only [Array.length_toList] at e
    omega
theorem Inv.tuple (I : Inv X pins σ H s) (h : SqT X.K H a xs) : ∃ its : List Value, Vals xs its ∧ IsTup s.heap a its.toArray ∧ xs.length ≤ sizeLine := by
  rcases h with h | ⟨o, its, n, hk, hc, hs, hz, r⟩
  · obtain ⟨z, its, r, p⟩ := h.ok I.hok
    exact ⟨its, r, p, z⟩
  · refine ⟨its.toList, r, ⟨o, I.kIn a o hk, hc, n, by simpa using hs⟩, ?_⟩
    have e := r.length
    simp only [Array.length_toList] at e
    omega
theorem Inv.list_inj (I : Inv X pins σ H s) (h : SqL X.K H a xs) (h' : SqL X.K H a ys) : xs = ys := by
  obtain ⟨its, r, ⟨o, n, e, _, _, d⟩, _⟩ := I.list h
  obtain ⟨its', r', ⟨o', n', e', _, _, d'⟩, _⟩ := I.list h'
  rw [e] at e'; cases e'
  rw [d] at d'
  injection d' with d1 _
  have : its = its' := by simpa using congrArg Array.toList d1
  subst this
  exact r.inj r'
theorem Inv.tuple_inj (I : Inv X pins σ H s) (h : SqT X.K H a xs) (h' : SqT X.K H a ys) : xs = ys := by
  obtain ⟨its, r, ⟨o, e, _, n, d⟩, _⟩ := I.tuple h
  obtain ⟨its', r', ⟨o', e', _, n', d'⟩, _⟩ := I.tuple h'
  rw [e] at e'; cases e'
  rw [d] at d'
  injection d' with d1 _
  have : its = its' := by simpa using congrArg Array.toList d1
  subst this
  exact r.inj r'
end
abbrev Cx.wish (X : Cx) (E : Value → Shared → Prop) : Cx := { X with xe := E }
abbrev Cx.nox (X : Cx) : Cx := X.wish fun _ _ => False
theorem Cx.Ok.wish {X : Cx} (ok : X.Ok) (E : Value → Shared → Prop) : (X.wish E).Ok :=
  ⟨ok.mod, ok.kind, ok.glob, ok.blt, ok.above, ok.inj, ok.has, ok.cab, ok.hd, ok.frames, ok.stk, ok.exf, ok.bs, ok.bsz, ok.noex, ok.exfs, ok.funs, ok.frf⟩
theorem Cx.Ok.unwish {X : Cx} {E : Value → Shared → Prop} (ok : (X.wish E).Ok) : X.Ok :=
  ⟨ok.mod, ok.kind, ok.glob, ok.blt, ok.above, ok.inj, ok.has, ok.cab, ok.hd, ok.frames, ok.stk, ok.exf, ok.bs, ok.bsz, ok.noex, ok.exfs, ok.funs, ok.frf⟩
section
variable {X : Cx} {pins : List (Addr × Obj)} {σ : St} {H : Hp} {s : Shared} {E : Value → Shared → Prop}
theorem Inv.wish (I : Inv X pins σ H s) (E : Value → Shared → Prop) : Inv (X.wish E) pins σ H s := ⟨I.ok.wish E, I.os, I.bare, I.base, I.loc, I.cell, I.free, I.freeC, I.pin, I.hok, I.len⟩
theorem Inv.unwish (I : Inv (X.wish E) pins σ H s) : Inv X pins σ H s := ⟨I.ok.unwish, I.os, I.bare, I.base, I.loc, I.cell, I.free, I.freeC, I.pin, I.hok, I.len⟩
theorem SP.unwish {D : Ends} {f : Flow} {s' : Shared} (h : SP (X.wish E) pins D f s') : SP X pins D f s' := by
  cases f with
  | next => obtain ⟨σ', H', I, q⟩ := h; exact ⟨σ', H', I.unwish, q⟩
  | brk => obtain ⟨σ', H', I, q⟩ := h; exact ⟨σ', H', I.unwish, q⟩
  | cont => obtain ⟨σ', H', I, q⟩ := h; exact ⟨σ', H', I.unwish, q⟩
  | ret u => obtain ⟨v, σ', H', I, r, q⟩ := h; exact ⟨v, σ', H', I.unwish, r, q⟩
theorem PSs.nox {st : List Stmt} {t : TS} (h : PSs X.nox st t) : PSs X st t := fun pins s σ H D I hw =>
  wpAny_mono (h pins s σ H D (I.wish _) hw) (fun _ _ q => q.unwish) fun _ _ z => False.elim z
end
section
variable {X : Cx} {st : Stmt} {rest : List Stmt} {t u : TS} {e : Expr} {te : TE} {pos : Pos}
def tNext : TS := fun D σ H => D.nx σ H
def tSeq (t u : TS) : TS := fun D σ H => t { D with nx := u D } σ H
theorem pss_nil : PSs X [] tNext := fun _ _ σ H _ I h => wpAny_execs_nil ⟨σ, H, I, h⟩
theorem pss_cons (h1 : PS X st t) (h2 : PSs X rest u) : PSs X (st :: rest) (tSeq t u) := by
  intro pins s σ H D I h
  refine wpAny_execs_cons (thn (h1 pins s σ H { D with nx := u D } I h) fun f s1 q => ?_)
  cases f with
  | next =>
    obtain ⟨σ', H', I', q⟩ := q
    exact h2 pins s1 σ' H' D I' q
  | ret v => exact q
  | brk => exact q
  | cont => exact q
theorem pss_one (h1 : PS X st t) : PSs X [st] t := by
  intro pins s σ H D I h
  refine wpAny_execs_cons (thn (h1 pins s σ H D I h) fun f s1 q => ?_)
  cases f with
  | next => exact wpAny_execs_nil q
  | ret v => exact q
  | brk => exact q
  | cont => exact q
theorem Inv.quiet {pins : List (Addr × Obj)} {σ : St} {H : Hp} {s : Shared} (I : Inv X pins σ H s) : interactive X.env = false := by simp [interactive, I.ok.kind]
def tDrop (te : TE) : TS := fun D σ H => te σ H fun _ H1 => D.nx σ H1
theorem ps_expr (he : PE X e te) (hs : swapsWith e none pos.line X.env = pure false := by rfl) : PS X (.Expr e pos) (tDrop te) := by
  intro pins s σ H D I h
  exact wpAny_Expr_any (thn (he pins s σ H _ I h) fun v s1 ⟨x, H1, I1, r1, q1⟩ => ⟨σ, H1, I1, q1⟩) I.quiet hs
def tRet (te : TE) : TS := fun D σ H => te σ H D.rt
theorem ps_ret (he : PE X e te) : PS X (.Return (some e) pos) (tRet te) := by
  intro pins s σ H D I h
  exact wpAny_Return_some (thn (he pins s σ H _ I h) fun v s1 ⟨x, H1, I1, r1, q1⟩ => ⟨x, σ, H1, I1, r1, q1⟩)
def tIfS (c : TT) (t u : TS) : TS := fun D σ H => c σ H fun b H1 => if b = true then t D σ H1 else u D σ H1
theorem ps_if {c : Expr} {a b : List Stmt} {tc : TT} (hc : PT X c tc) (ha : PSs X a t) (hb : PSs X b u) : PS X (.If c a b pos) (tIfS tc t u) := by
  intro pins s σ H D I h
  refine wpAny_If (thn (hc pins s σ H _ I h) fun d s1 ⟨H1, I1, q1⟩ => ?_)
  cases d with
  | true => exact ha pins s1 σ H1 D I1 q1
  | false => exact hb pins s1 σ H1 D I1 q1
end
abbrev TG := V → St → Hp → (St → Hp → Prop) → Prop
abbrev TGs := List V → St → Hp → (St → Hp → Prop) → Prop
def PG (X : Cx) (target : Expr) (t : TG) : Prop :=
  ∀ (pins : List (Addr × Obj)) (s : Shared) (σ : St) (H : Hp) (v : V) (u : Value) (Q : St → Hp → Prop), Inv X pins σ H s → RelV v u → t v σ H Q →
    wpAny (model X.prog X.w) X.A (assign target X.env u) (fun _ s' => ∃ σ' H', Inv X pins σ' H' s' ∧ Q σ' H') X.xe s
def PGs (X : Cx) (ts : List Expr) (t : TGs) : Prop :=
  ∀ (pins : List (Addr × Obj)) (s : Shared) (σ : St) (H : Hp) (vs : List V) (us : List Value) (Q : St → Hp → Prop), Inv X pins σ H s → Vals vs us → t vs σ H Q →
    wpAny (model X.prog X.w) X.A (assignInOrder ((assignEach ts X.env).map (·.2)) us) (fun _ s' => ∃ σ' H', Inv X pins σ' H' s' ∧ Q σ' H') X.xe s
section
variable {X : Cx} {pos : Pos}
def gName (i : Nat) : TG := fun v σ H Q => Q (σ.set i (some v)) H
theorem pg_name {i : Nat} {x : Str} (hN : X.N.Nodup) (hi : X.N[i]? = some x) (hx : Loc X.env.scope x) (hf : X.fn x = true ∨ X.env.scope.names.lookup x = some .local := by first | exact .inl rfl | exact .inr rfl | assumption) : PG X (.Name x pos) (gName i) := by
  intro pins s σ H v u Q I r h
  exact wpAny_assign_Name (store_ok I hN hi hx r (fun s' I' => ⟨_, H, I', h⟩) hf)
def gNil : TGs := fun vs σ H Q => vs = [] ∧ Q σ H
def gCons (t : TG) (u : TGs) : TGs := fun vs σ H Q => ∃ v r, vs = v :: r ∧ t v σ H fun σ' H' => u r σ' H' Q
theorem pgs_nil : PGs X [] gNil := by
  intro pins s σ H vs us Q I r h
  obtain ⟨e, h⟩ := h
  subst e
  cases r
  exact assignInOrder_nil ⟨σ, H, I, h⟩
theorem pgs_cons {e : Expr} {es : List Expr} {t : TG} {u : TGs} (h1 : PG X e t) (h2 : PGs X es u)
    (hs : (assignEach (e :: es) X.env).map (·.2) = assign e X.env :: (assignEach es X.env).map (·.2) := by rfl) : PGs X (e :: es) (gCons t u) := by
  intro pins s σ H vs us Q I r h
  obtain ⟨v, vr, e1, h⟩ := h
  subst e1
  cases r with
  | cons r rr =>
    rw [hs]
    refine assignInOrder_cons (thn (h1 pins s σ H _ _ _ I r h) fun _ s1 ⟨σ1, H1, I1, q1⟩ => ?_)
    exact h2 pins s1 σ1 H1 _ _ Q I1 rr q1
def gTup (K : PySem.W.Frag) (n : Nat) (t : TGs) : TG := fun v σ H Q => ∃ a xs, v = .ref a ∧ SqT K H a xs ∧ xs.length = n ∧ t xs σ H Q
theorem pg_tup {es : List Expr} {k : Nat} {t : TGs} {n : Nat} (hc : X.calm = true) (h : PGs X es t)
    (hn : (assignEach es X.env).length = n := by rfl) (hst : (assignEach es X.env).findIdx? (·.1) = none := by rfl) : PG X (.Tuple es k pos) (gTup X.K n t) := by
  intro pins s σ H v u Q I r hw
  obtain ⟨a, xs, e1, hq, hl, hw⟩ := hw
  subst e1
  cases r
  obtain ⟨its, rv, ht, hz⟩ := I.tuple hq
  refine assign_Tuple_tuple (I.ok.hd hc) ht (by simp [hn, ← hl, rv.length]) hst fun h' hx => ?_
  have I1 : Inv X pins σ H { s with heap := h' } := I.kept (t' := s.toks) fun b o e => hx b o (Nat.ne_of_lt (Heap.lt_size e)) e
  exact h pins _ σ H xs _ Q I1 (by simpa using rv) hw
def tAsg (te : TE) (g : TG) : TS := fun D σ H => te σ H fun x H1 => g x σ H1 D.nx
theorem ps_set {i : Nat} {x : Str} {e : Expr} {te : TE} {pos' : Pos} (hN : X.N.Nodup) (hi : X.N[i]? = some x) (hx : Loc X.env.scope x) (he : PE X e te) (hs : swapsWith e (some (.Name x pos')) pos.line X.env = pure false := by rfl) (hf : X.fn x = true ∨ X.env.scope.names.lookup x = some .local := by first | exact .inl rfl | exact .inr rfl | assumption) :
    PS X (.Assign [.Name x pos'] e pos) (tAsg te (gName i)) := by
  intro pins s σ H D I h
  refine wpAny_Assign_Name (thn (he pins s σ H _ I h) fun v s1 ⟨y, H1, I1, r1, q1⟩ => ?_) hs
  exact store_ok I1 hN hi hx r1 (fun s2 I2 => ⟨_, H1, I2, q1⟩) hf
end
section
variable {X : Cx} {pos : Pos}
def tWhile (c : TT) (tb : TS) : TS := fun D σ H => ∃ W : Nat → St → Hp → Prop, (∃ m, W m σ H) ∧ ∀ m σ H, W m σ H →
  c σ H fun b H1 => if b = true then ∃ N : St → Hp → Prop, (∀ σ' H', N σ' H' → ∃ m', m' < m ∧ W m' σ' H') ∧ tb { D with nx := N, ct := N, bk := D.nx } σ H1 else D.nx σ H1
theorem ps_while {c : Expr} {body : List Stmt} {tc : TT} {tb : TS} (hp : PassesOwn (model X.prog X.w) X.A X.env X.xe) (hc : PT X c tc) (hb : PSs X body tb) : PS X (.While c body [] pos) (tWhile tc tb) := by
  intro pins s σ H D I h
  obtain ⟨W, ⟨m0, w0⟩, turn⟩ := h
  refine wpAny_While (codeAny_whileLoop (fun n s' => ∃ σ' H', Inv X pins σ' H' s' ∧ W n σ' H') ?_ m0 ⟨σ, H, I, w0⟩)
  rintro n s1 ⟨σ1, H1, I1, w1⟩
  refine wpAny_passesOwn hp (thn (hc pins s1 σ1 H1 _ I1 (turn n σ1 H1 w1)) fun b s2 ⟨H2, I2, q2⟩ => ?_)
  cases b with
  | true =>
    obtain ⟨N, hN, q2⟩ := q2
    rw [if_pos rfl]
    refine wpAny_passesOwn hp (thn (hb pins s2 σ1 H2 _ I2 q2) fun f s3 q3 => ?_)
    cases f with
    | next =>
      obtain ⟨σ3, H3, I3, n3⟩ := q3
      obtain ⟨m', hm, w3⟩ := hN σ3 H3 n3
      exact ⟨m', hm, σ3, H3, I3, w3⟩
    | cont =>
      obtain ⟨σ3, H3, I3, n3⟩ := q3
      obtain ⟨m', hm, w3⟩ := hN σ3 H3 n3
      exact ⟨m', hm, σ3, H3, I3, w3⟩
    | brk => exact q3
    | ret v => exact q3
  | false =>
    rw [if_neg Bool.false_ne_true]
    exact wpAny_execs_nil ⟨σ1, H2, I2, q2⟩
end
structure It where
  go : Nat → Hp → Prop
  yld : Nat → Hp → V → Hp → Prop
  stop : Nat → Hp → Prop
def FpOk (X : Cx) (pins : List (Addr × Obj)) (H : Hp) (b : Addr) : Prop :=
  H b = none ∧ b ≠ X.env.locals ∧ b ∉ X.fs ∧ (b ∈ X.ex ∨ X.s₀.heap.objs.size ≤ b) ∧ (∀ x c, X.env.cells.lookup x = some c → c ≠ b) ∧ ∀ p ∈ X.pn ++ pins, p.1 ≠ b
theorem Inv.fpOk {X : Cx} {pins : List (Addr × Obj)} {σ : St} {H H' : Hp} {s : Shared} {b : Addr} (I : Inv X pins σ H s) (hb : s.heap.objs.size ≤ b) (hn : H' b = none) : FpOk X pins H' b := by
  refine ⟨hn, Nat.ne_of_gt (Nat.lt_of_lt_of_le I.lt hb), I.nofs hb, .inr (Nat.le_trans I.sz hb), fun x c e z => ?_, fun p hp z => ?_⟩
  · obtain ⟨v, q⟩ := I.cell x c e
    exact absurd (Nat.lt_of_lt_of_le q.lt (by rw [z]; exact hb)) (Nat.lt_irrefl _)
  · exact absurd (Nat.lt_of_lt_of_le (Heap.lt_size (I.pin p hp).1) (by rw [z]; exact hb)) (Nat.lt_irrefl _)
structure Turn (P : Program) (w : World) (K : PySem.W.Frag) (tg : Expr) (J : It) (fp : List Addr) (it : Addr) (tn : Nat → Heap → Prop) : Prop where
  mem : it ∈ fp
  obj : ∀ i h, tn i h → ∀ b ∈ fp, ∃ o, h.get? b = some o ∧ ∀ v, o.data ≠ .cell v
  keep : ∀ i h h', tn i h → (∀ b ∈ fp, ∀ o, h.get? b = some o → h'.get? b = some o) → tn i h'
  item : ∀ (X : Cx), X.prog = P → X.w = w → X.K = K → X.calm = true → ∀ (i : Nat) (pins : List (Addr × Obj)) (s : Shared) (σ : St) (H : Hp) (E : Value → Shared → Prop), Inv X pins σ H s → (∀ b ∈ fp, FpOk X pins H b) → tn i s.heap → J.go i H →
    wpAny (model P w) X.A (pyNext (.ref it)) (fun r s1 => ∃ u, r = some u ∧
      wpAny (model P w) X.A (letOwnedTupleGo tg (.ref it) u) (fun _ s2 => ∃ x H', Inv X pins σ H' s2 ∧ RelV x u ∧ J.yld i H x H' ∧ tn (i + 1) s2.heap ∧ ∀ b ∈ fp, H' b = none) E s1) E s
  done : ∀ (X : Cx), X.prog = P → X.w = w → X.K = K → X.calm = true → ∀ (i : Nat) (pins : List (Addr × Obj)) (s : Shared) (σ : St) (H : Hp) (E : Value → Shared → Prop), Inv X pins σ H s → (∀ b ∈ fp, FpOk X pins H b) → tn i s.heap → J.stop i H →
    wpAny (model P w) X.A (pyNext (.ref it)) (fun r s1 => r = none ∧ Inv X pins σ H s1) E s
  self : ∀ (A : Around) (i : Nat) (s : Shared) (Q : Value → Shared → Prop) (E : Value → Shared → Prop), tn i s.heap → Q (.ref it) s → wpAny (model P w) A (pyIter (.ref it)) Q E s
abbrev TI := St → Hp → (It → Hp → Prop) → Prop
def PIE (X : Cx) (pins : List (Addr × Obj)) (σ : St) (tg : Expr) (R : It → Hp → Prop) (itv : Value) (s2 : Shared) : Prop :=
  ∃ (it : Addr) (fp : List Addr) (tn : Nat → Heap → Prop) (J : It) (H' : Hp), itv = .ref it ∧ Inv X pins σ H' s2 ∧ Turn X.prog X.w X.K tg J fp it tn ∧ tn 0 s2.heap ∧ (∀ b ∈ fp, FpOk X pins H' b) ∧ R J H'
def PI (X : Cx) (tg iter : Expr) (wi : TI) : Prop :=
  ∀ (pins : List (Addr × Obj)) (s : Shared) (σ : St) (H : Hp) (R : It → Hp → Prop), Inv X pins σ H s → wi σ H R →
    wpAny (model X.prog X.w) X.A (eval iter X.env) (fun v s1 => wpAny (model X.prog X.w) X.A (pyIter v) (PIE X pins σ tg R) X.xe s1) X.xe s
theorem go_of {M : Model} {A : Around} {E : Value → Shared → Prop} {s : Shared} {tg : Expr} {it : Addr} {u : Value} {o : Obj} {n : String} {vs : Array Value} {Q : Unit → Shared → Prop} (ho : s.heap.get? it = some o) (hc : o.cls = .type n) (hd : o.data = .fields vs)
    (hn : ["enumerate", "zip", "dict_itemiterator", "dict_reverseitemiterator", "odict_iterator", "itertools.zip_longest", "itertools.pairwise"].contains n = false) (hQ : Q () s) : wpAny M A (letOwnedTupleGo tg (.ref it) u) Q E s := by
  unfold letOwnedTupleGo
  cases tg <;> first
    | exact wpAny_pure hQ
    | (cases u <;> first
        | exact wpAny_pure hQ
        | (refine wpAny_bind (wpAny_load ho ?_)
           rw [hc, hd]
           show wpAny M A (if (["enumerate", "zip", "dict_itemiterator", "dict_reverseitemiterator", "odict_iterator", "itertools.zip_longest", "itertools.pairwise"].contains n && vs[0]? == some (rawInt _)) = true then _ else _) Q E s
           rw [if_neg (by intro h; rw [hn, Bool.false_and] at h; cases h)]
           exact wpAny_pure hQ))
def Itl (K : PySem.W.Frag) (a : Addr) : It :=
  ⟨fun i H => ∃ xs x, SqL K H a xs ∧ xs[i]? = some x, fun i H x H' => H' = H ∧ ∀ xs, SqL K H a xs → xs[i]? = some x, fun i H => ∃ xs, SqL K H a xs ∧ xs.length ≤ i⟩
def Itt (K : PySem.W.Frag) (a : Addr) : It :=
  ⟨fun i H => ∃ xs x, SqT K H a xs ∧ xs[i]? = some x, fun i H x H' => H' = H ∧ ∀ xs, SqT K H a xs → xs[i]? = some x, fun i H => ∃ xs, SqT K H a xs ∧ xs.length ≤ i⟩
def Itr (lo : Int) (n : Nat) : It := ⟨fun i _ => i < n, fun i H x H' => H' = H ∧ x = .int (lo + i), fun i _ => n ≤ i⟩
theorem turn_list {P : Program} {w : World} {K : PySem.W.Frag} {tg : Expr} (a it : Addr) : Turn P w K tg (Itl K a) [it] it (fun i h => h.IsListIter it a i) where
  mem := by simp
  obj := fun i h st b hb => by
    have e : b = it := by simpa using hb
    subst e
    obtain ⟨o, e, c, d⟩ := st
    exact ⟨o, e, fun v z => by rw [d] at z; cases z⟩
  keep := fun i h h' st k => st.at fun o e => k it (by simp) o e
  item := by
    intro X hP hw hK hc i pins s σ H E I hf st hg
    subst hP hw hK
    obtain ⟨xs, x, hq, hx⟩ := hg
    obtain ⟨its, rv, p, hz⟩ := I.list hq
    obtain ⟨u, hu, ru⟩ := rv.get hx
    obtain ⟨f0, f1, f2, f3, f4, f5⟩ := hf it (by simp)
    refine wpAny_pyNext_list_item st p.isList (x := u) (by simpa using hu) fun h' st' sb => ?_
    have I1 : Inv X pins σ H { s with heap := h' } := I.turned (t' := s.toks) (fun b o hb e => (sb.2 b hb).trans e) f0 f1 f3 f4 f5
    obtain ⟨o, e, c, d⟩ := id st'
    exact ⟨u, rfl, go_of (s := { s with heap := h' }) e c d (by decide) ⟨x, H, I1, ru, ⟨rfl, fun ys hy => by rw [I.list_inj hy hq]; exact hx⟩, st', fun b hb => (hf b hb).1⟩⟩
  done := by
    intro X hP hw hK hc i pins s σ H E I hf st hg
    subst hP hw hK
    obtain ⟨xs, hq, hx⟩ := hg
    obtain ⟨its, rv, p, hz⟩ := I.list hq
    obtain ⟨f0, f1, f2, f3, f4, f5⟩ := hf it (by simp)
    have hl := rv.length
    exact wpAny_pyNext_list_end (I.ok.hd hc) st p.isList (by simp; omega) fun h' eb => ⟨rfl, I.turned (t' := s.toks) (fun b o hb e => eb b o hb e) f0 f1 f3 f4 f5⟩
  self := fun _ _ _ _ _ st h => wpAny_pyIter_listiter st h
theorem turn_tuple {P : Program} {w : World} {K : PySem.W.Frag} {tg : Expr} (a it : Addr) : Turn P w K tg (Itt K a) [it] it (fun i h => h.IsTupleIter it a i) where
  mem := by simp
  obj := fun i h st b hb => by
    have e : b = it := by simpa using hb
    subst e
    obtain ⟨o, e, c, d⟩ := st
    exact ⟨o, e, fun v z => by rw [d] at z; cases z⟩
  keep := fun i h h' st k => st.at fun o e => k it (by simp) o e
  item := by
    intro X hP hw hK hc i pins s σ H E I hf st hg
    subst hP hw hK
    obtain ⟨xs, x, hq, hx⟩ := hg
    obtain ⟨its, rv, p, hz⟩ := I.tuple hq
    obtain ⟨u, hu, ru⟩ := rv.get hx
    obtain ⟨f0, f1, f2, f3, f4, f5⟩ := hf it (by simp)
    refine wpAny_pyNext_tuple_item st (show s.heap.IsTuple a its.toArray from p) (x := u) (by simpa using hu) fun h' st' sb => ?_
    have I1 : Inv X pins σ H { s with heap := h' } := I.turned (t' := s.toks) (fun b o hb e => (sb.2 b hb).trans e) f0 f1 f3 f4 f5
    obtain ⟨o, e, c, d⟩ := id st'
    exact ⟨u, rfl, go_of (s := { s with heap := h' }) e c d (by decide) ⟨x, H, I1, ru, ⟨rfl, fun ys hy => by rw [I.tuple_inj hy hq]; exact hx⟩, st', fun b hb => (hf b hb).1⟩⟩
  done := by
    intro X hP hw hK hc i pins s σ H E I hf st hg
    subst hP hw hK
    obtain ⟨xs, hq, hx⟩ := hg
    obtain ⟨its, rv, p, hz⟩ := I.tuple hq
    obtain ⟨f0, f1, f2, f3, f4, f5⟩ := hf it (by simp)
    have hl := rv.length
    exact wpAny_pyNext_tuple_end (I.ok.hd hc) st (show s.heap.IsTuple a its.toArray from p) (by simp; omega) fun h' eb => ⟨rfl, I.turned (t' := s.toks) (fun b o hb e => eb b o hb e) f0 f1 f3 f4 f5⟩
  self := fun _ _ _ _ _ st h => wpAny_pyIter_tupleiter st h
theorem turn_range {P : Program} {w : World} {K : PySem.W.Frag} {tg : Expr} (it : Addr) (lo : Int) (n : Nat) : Turn P w K tg (Itr lo n) [it] it (fun i h => IsRangeIter h it (lo + (i : Nat) * 1) ((n : Int) - (i : Nat)) 1) where
  mem := by simp
  obj := fun i h st b hb => by
    have e : b = it := by simpa using hb
    subst e
    exact ⟨_, st, fun v z => by
      have z' : Data.fields _ = Data.cell v := z
      cases z'⟩
  keep := fun i h h' st k => k it (by simp) _ st
  item := by
    intro X hP hw hK hc i pins s σ H E I hf st hg
    subst hP hw hK
    obtain ⟨f0, f1, f2, f3, f4, f5⟩ := hf it (by simp)
    have W := Walks.range (prog := X.prog) (w := X.w) (I.ok.hd hc) it lo 1 n
    refine W.item i s _ _ hg st fun v h' tk hv st' kk => ?_
    obtain ⟨t, rfl⟩ := hv
    have I1 : Inv X pins σ H { s with heap := h', toks := tk } := I.turned (fun b o hb e => kk b o (by simpa using hb) e) f0 f1 f3 f4 f5
    refine ⟨_, rfl, go_of (s := { s with heap := h', toks := tk }) (n := "range_iterator") st' rfl rfl (by decide) ⟨.int (lo + i), H, I1, ⟨t, ?_⟩, ⟨rfl, rfl⟩, st', fun b hb => (hf b hb).1⟩⟩
    rw [Int.mul_one]
  done := by
    intro X hP hw hK hc i pins s σ H E I hf st hg
    subst hP hw hK
    obtain ⟨f0, f1, f2, f3, f4, f5⟩ := hf it (by simp)
    exact wpAny_pyNext_range_end (I.ok.hd hc) st (by have : n ≤ i := hg; omega) fun h' eb => ⟨rfl, I.turned (t' := s.toks) (fun b o hb e => eb b o hb e) f0 f1 f3 f4 f5⟩
  self := fun _ _ _ _ _ st h => wpAny_pyIter_rangeiter st h
end L2
namespace L2
open PySem PySem.Spec PyProof.Rows
section
variable {X : Cx} {tg : Expr}
theorem range_it {pins : List (Addr × Obj)} {σ : St} {H : Hp} {s : Shared} {R : It → Hp → Prop} {E : Value → Shared → Prop} {lo hi : Int} {t u v : Tok} {tk : Nat} (I : Inv X pins σ H s) (h1 : -(2 ^ 62) ≤ lo) (h2 : lo < 2 ^ 62) (h3 : -(2 ^ 62) ≤ hi) (h4 : hi < 2 ^ 62)
    (q : R (Itr lo (hi - lo).toNat) H) : wpAny (model X.prog X.w) X.A (pyIter (.ref s.heap.objs.size)) (PIE X pins σ tg R) E { s with heap := s.heap.push { cls := .type "range", data := .fields #[.int lo t, .int hi u, .int 1 v] }, toks := tk } := by
  refine wpAny_pyIter_range (IsRange.new ..) (small_one h1 h2 h3 h4) ?_
  have I1 : Inv X pins σ H { s with heap := s.heap.push { cls := .type "range", data := .fields #[.int lo t, .int hi u, .int 1 v] }, toks := tk } := I.kept fun b o e => Heap.get?_push_of_some _ e
  refine ⟨(s.heap.push { cls := .type "range", data := .fields #[.int lo t, .int hi u, .int 1 v] }).objs.size, [(s.heap.push { cls := .type "range", data := .fields #[.int lo t, .int hi u, .int 1 v] }).objs.size], _, _, H, rfl,
    I1.kept (t' := tk) fun b o e => Heap.get?_push_of_some _ e, turn_range _ lo (hi - lo).toNat, ?_, fun b hb => ?_, q⟩
  · have e1 : lo + ((0 : Nat) : Int) * 1 = lo := by simp
    have e2 : (((hi - lo).toNat : Nat) : Int) - ((0 : Nat) : Int) = Builtin.Range.rangeSize lo hi 1 := by rw [rangeSize_one]; split <;> omega
    show IsRangeIter _ _ (lo + ((0 : Nat) : Int) * 1) ((((hi - lo).toNat : Nat) : Int) - ((0 : Nat) : Int)) 1
    rw [e1, e2]
    exact Heap.get?_push_size _ rfl
  · have e : b = (s.heap.push { cls := .type "range", data := .fields #[.int lo t, .int hi u, .int 1 v] }).objs.size := by simpa using hb
    subst e
    exact I1.fpOk (Nat.le_refl _) (I1.hok.fresh (Nat.le_refl _))
def iRng1 (ta : TA) : TI := fun σ H R => ta σ H fun vs H1 => ∃ j : Int, vs = [.int j] ∧ -(2 ^ 62) ≤ j ∧ j < 2 ^ 62 ∧ R (Itr 0 j.toNat) H1
theorem pi_range1 {a : Expr} {ta : TA} {p pos : Pos} (hg : Gl X "range") (hm : X.mg "range" = none) (ha : PA X [a] ta) (hs : starEach [a] X.env = [(false, eval a X.env)] := by rfl) : PI X tg (.Call (.Name "range" p) [a] [] pos) (iRng1 ta) := by
  intro pins s σ H R I h
  refine Call_ (ld_blt I hg hm boot_range (PyProof.Rows.callWith_type1 (thn (ha pos pins s σ H _ I h) fun us s1 ⟨vs, H1, I1, r1, q1⟩ => ?_) hs rfl))
  obtain ⟨j, e, q1, q2, q⟩ := q1
  subst e
  cases r1 with
  | cons r rr =>
    cases rr
    obtain ⟨t, rfl⟩ := r
    exact call_range_1 (range_it I1 (by omega) (by omega) q1 q2 (by simpa using q))
def tFor (wi : TI) (g : TG) (tb : TS) : TS := fun D σ H => wi σ H fun J H1 => ∃ W : Nat → Nat → St → Hp → Prop, (∃ m, W 0 m σ H1) ∧ ∀ i m σ H, W i m σ H →
  (J.stop i H ∧ D.nx σ H) ∨ (J.go i H ∧ ∃ N : St → Hp → Prop, (∀ σ' H', N σ' H' → ∃ m', m' < m ∧ W (i + 1) m' σ' H') ∧ ∀ x H', J.yld i H x H' → g x σ H' fun σ2 H2 => tb { D with nx := N, ct := N, bk := D.nx } σ2 H2)
def pinsAt (fp : List Addr) (h : Heap) : List (Addr × Obj) := fp.filterMap fun b => (h.get? b).map fun o => (b, o)
theorem mem_pinsAt {fp : List Addr} {h : Heap} {b : Addr} {o : Obj} (hb : b ∈ fp) (e : h.get? b = some o) : (b, o) ∈ pinsAt fp h := List.mem_filterMap.mpr ⟨b, hb, by rw [e]; rfl⟩
theorem of_pinsAt {fp : List Addr} {h : Heap} {p : Addr × Obj} (hp : p ∈ pinsAt fp h) : p.1 ∈ fp ∧ h.get? p.1 = some p.2 := by
  obtain ⟨b, hb, e⟩ := List.mem_filterMap.mp hp
  cases q : h.get? b with
  | none => rw [q] at e; cases e
  | some o =>
    rw [q] at e
    have e' : (b, o) = p := Option.some.inj e
    subst e'
    exact ⟨hb, q⟩
theorem Inv.pinned {pins : List (Addr × Obj)} {σ : St} {H : Hp} {s : Shared} {fp : List Addr} (I : Inv X pins σ H s) (hf : ∀ b ∈ fp, FpOk X pins H b) (ho : ∀ b ∈ fp, ∃ o, s.heap.get? b = some o ∧ ∀ v, o.data ≠ .cell v) : Inv X (pins ++ pinsAt fp s.heap) σ H s :=
  I.pins_of fun p hp => (List.mem_append.mp hp).elim (fun z => I.pin p (List.mem_append_right _ z)) fun z => by
    obtain ⟨hb, e⟩ := of_pinsAt z
    obtain ⟨f0, f1, f2, _⟩ := hf p.1 hb
    obtain ⟨o, e', d⟩ := ho p.1 hb
    rw [e] at e'; cases e'
    exact ⟨e, f0, f1, f2, d⟩
theorem Inv.unpinned {pins pl : List (Addr × Obj)} {σ : St} {H : Hp} {s : Shared} (I : Inv X (pins ++ pl) σ H s) : Inv X pins σ H s := I.pins_of fun p hp => I.pin p (List.mem_append_right _ (List.mem_append_left _ hp))
theorem ps_for {iter : Expr} {body : List Stmt} {wi : TI} {g : TG} {tb : TS} {pos : Pos} (hp : PassesOwn (model X.prog X.w) X.A X.env X.xe) (hc : X.calm = true) (hi : PI X tg iter wi) (hg : PG X tg g) (hb : PSs X body tb)
    (hs : ∀ x, foldedSetIterable iter X.env x = pure x := by intro _; rfl) : PS X (.For tg iter body [] pos) (tFor wi g tb) := by
  intro pins s σ H D I h
  refine wpAny_For (thn (hi pins s σ H _ I h) fun v s1 h1 => thn h1 fun itv s2 h2 => ?_) hs
  obtain ⟨it, fp, tn, J, H2, e, I2, T, st2, f2, W, ⟨m0, w0⟩, turn⟩ := h2
  subst e
  have stat : ∀ {H' : Hp}, (∀ b ∈ fp, H' b = none) → ∀ b ∈ fp, FpOk X pins H' b := fun hn b hb => ⟨hn b hb, (f2 b hb).2⟩
  refine codeAny_forLoop_any (fun n s' => ∃ i σ' H', Inv X pins σ' H' s' ∧ tn i s'.heap ∧ (∀ b ∈ fp, H' b = none) ∧ W i n σ' H') ?_ m0 ⟨0, σ, H2, I2, st2, fun b hb => (f2 b hb).1, w0⟩
  rintro n s3 ⟨i, σ3, H3, I3, st3, fr3, w3⟩
  rcases turn i n σ3 H3 w3 with ⟨stop, qn⟩ | ⟨go, N, hN, step⟩
  · refine wpAny_passesOwn hp (thn (T.done X rfl rfl rfl hc i pins s3 σ3 H3 X.xe I3 (stat fr3) st3 stop) fun r s4 ⟨hr, I4⟩ => ?_)
    subst hr
    exact wpAny_execs_nil ⟨σ3, H3, I4, qn⟩
  · refine wpAny_passesOwn hp (thn (T.item X rfl rfl rfl hc i pins s3 σ3 H3 X.xe I3 (stat fr3) st3 go) fun r s4 ⟨u, hr, h4⟩ => ?_)
    subst hr
    refine wpAny_passesOwn hp (thn h4 fun _ s5 ⟨x, H5, I5, r5, y5, st5, fr5⟩ => ?_)
    have I5' := I5.pinned (stat fr5) (T.obj _ _ st5)
    refine wpAny_passesOwn hp (thn (hg _ s5 σ3 H5 x u _ I5' r5 (step x H5 y5)) fun _ s6 ⟨σ6, H6, I6, q6⟩ => ?_)
    refine wpAny_passesOwn hp (thn (hb _ s6 σ6 H6 _ I6 q6) fun f s7 q7 => ?_)
    have again : ∀ {σ7 : St} {H7 : Hp}, Inv X (pins ++ pinsAt fp s5.heap) σ7 H7 s7 → N σ7 H7 → ∃ m, m < n ∧ ∃ i σ' H', Inv X pins σ' H' s7 ∧ tn i s7.heap ∧ (∀ b ∈ fp, H' b = none) ∧ W i m σ' H' := fun {σ7 H7} I7 n7 => by
      obtain ⟨m', hm, w7⟩ := hN σ7 H7 n7
      refine ⟨m', hm, i + 1, σ7, H7, I7.unpinned, T.keep _ _ _ st5 fun b hb o e => (I7.pin (b, o) (List.mem_append_right _ (List.mem_append_right _ (mem_pinsAt hb e)))).1, fun b hb => ?_, w7⟩
      obtain ⟨o, e, d⟩ := T.obj _ _ st5 b hb
      exact (I7.pin (b, o) (List.mem_append_right _ (List.mem_append_right _ (mem_pinsAt hb e)))).2.1
    cases f with
    | next => obtain ⟨σ7, H7, I7, n7⟩ := q7; exact again I7 n7
    | cont => obtain ⟨σ7, H7, I7, n7⟩ := q7; exact again I7 n7
    | brk => obtain ⟨σ7, H7, I7, q7⟩ := q7; exact ⟨σ7, H7, I7.unpinned, q7⟩
    | ret v => obtain ⟨x7, σ7, H7, I7, r7, q7⟩ := q7; exact ⟨x7, σ7, H7, I7.unpinned, r7, q7⟩
end
end L2
namespace L2
open PySem PySem.Spec PyProof.Rows
abbrev R2 := V → V → Hp → VK → Prop
def OpR (X : Cx) (f : Value → Value → Sem Value) (r : R2) : Prop :=
  ∀ (pins : List (Addr × Obj)) (s : Shared) (σ : St) (H : Hp) (x y : V) (v u : Value) (Q : VK), Inv X pins σ H s → RelV x v → RelV y u → r x y H Q →
    wpAny (model X.prog X.w) X.A (f v u) (EP X pins σ Q) X.xe s
def UnR (X : Cx) (f : Value → Sem Value) (r : V → Hp → VK → Prop) : Prop :=
  ∀ (pins : List (Addr × Obj)) (s : Shared) (σ : St) (H : Hp) (x : V) (v : Value) (Q : VK), Inv X pins σ H s → RelV x v → r x H Q →
    wpAny (model X.prog X.w) X.A (f v) (EP X pins σ Q) X.xe s
def CallR (X : Cx) (f : Value) (r : List V → Hp → VK → Prop) : Prop :=
  ∀ (pins : List (Addr × Obj)) (s : Shared) (σ : St) (H : Hp) (xs : List V) (us : List Value) (Q : VK), Inv X pins σ H s → Vals xs us → r xs H Q →
    wpAny (model X.prog X.w) X.A (call f us) (EP X pins σ Q) X.xe s
def TruR (X : Cx) (r : V → Hp → (Bool → Hp → Prop) → Prop) : Prop :=
  ∀ (pins : List (Addr × Obj)) (s : Shared) (σ : St) (H : Hp) (x : V) (v : Value) (Q : Bool → Hp → Prop), Inv X pins σ H s → RelV x v → r x H Q →
    wpAny (model X.prog X.w) X.A (truthy v) (TP X pins σ Q) X.xe s
def tOp (r : R2) (ta tb : TE) : TE := fun σ H Q => ta σ H fun x H1 => tb σ H1 fun y H2 => r x y H2 Q
def tUn (r : V → Hp → VK → Prop) (ta : TE) : TE := fun σ H Q => ta σ H fun x H1 => r x H1 Q
def rI (C : Int → Int → Prop) (g : Int → Int → V) : R2 := fun x y H Q => ∃ i j, x = .int i ∧ y = .int j ∧ C i j ∧ Q (g i j) H
def rI0 (g : Int → Int → V) : R2 := fun x y H Q => ∃ i j, x = .int i ∧ y = .int j ∧ Q (g i j) H
def rU (g : Int → V) : V → Hp → VK → Prop := fun x H Q => ∃ i, x = .int i ∧ Q (g i) H
section
variable {X : Cx} {a b c : Expr} {ta tb tc : TE} {pos : Pos}
theorem binT (ha : PE X a ta) (hb : PE X b tb) {pins : List (Addr × Obj)} {s : Shared} {σ : St} {H : Hp} {R : V → V → Hp → Prop} (I : Inv X pins σ H s)
    (h : ta σ H fun x H1 => tb σ H1 fun y H2 => R x y H2) {Q : Value → Shared → Prop} {f : Value → Value → Sem Value}
    (hf : ∀ v u s2 x y H2, Inv X pins σ H2 s2 → RelV x v → RelV y u → R x y H2 → wpAny (model X.prog X.w) X.A (f v u) Q X.xe s2) :
    wpAny (model X.prog X.w) X.A (eval a X.env) (fun v s₁ => wpAny (model X.prog X.w) X.A (eval b X.env) (fun u s₂ => wpAny (model X.prog X.w) X.A (f v u) Q X.xe s₂) X.xe s₁) X.xe s := by
  refine thn (ha pins s σ H _ I h) fun v s1 ⟨x, H1, I1, r1, q1⟩ => ?_
  refine thn (hb pins s1 σ H1 _ I1 q1) fun u s2 ⟨y, H2, I2, r2, q2⟩ => ?_
  exact hf v u s2 x y H2 I2 r1 r2 q2
theorem pe_op {op : Operator} {r : R2} (ho : OpR X (binaryOp op) r) (ha : PE X a ta) (hb : PE X b tb) : PE X (.BinOp a op b pos) (tOp r ta tb) := by
  intro pins s σ H Q I h
  exact wpAny_BinOp (binT ha hb I h fun v u s2 x y H2 I2 rx ry q => ho pins s2 σ H2 x y v u Q I2 rx ry q)
theorem pe_un {op : UnaryOp} {r : V → Hp → VK → Prop} (ho : UnR X (unaryOp op) r) (ha : PE X a ta) : PE X (.UnaryOp op a pos) (tUn r ta) := by
  intro pins s σ H Q I h
  exact UnaryOp_ (thn (ha pins s σ H _ I h) fun v s1 ⟨x, H1, I1, r1, q1⟩ => ho pins s1 σ H1 x v Q I1 r1 q1)
theorem opI {f : Value → Value → Sem Value} {C : Int → Int → Prop} {g : Int → Int → Int}
    (rule : ∀ (i j : Int) (t u : Tok) (s : Shared) (Q : Value → Shared → Prop) (E : Value → Shared → Prop), C i j → Q (.int (g i j) s.toks) { s with toks := s.toks + 1 } → wpAny (model X.prog X.w) X.A (f (.int i t) (.int j u)) Q E s) :
    OpR X f (rI C fun i j => .int (g i j)) := by
  intro pins s σ H x y v u Q I rx ry h
  obtain ⟨i, j, rfl, rfl, hc, q⟩ := h
  obtain ⟨t, rfl⟩ := rx
  obtain ⟨t', rfl⟩ := ry
  exact rule i j t t' s _ _ hc ⟨.int (g i j), H, I.tok _, ⟨_, rfl⟩, q⟩
theorem opI0 {f : Value → Value → Sem Value} {g : Int → Int → Int}
    (rule : ∀ (i j : Int) (t u : Tok) (s : Shared) (Q : Value → Shared → Prop) (E : Value → Shared → Prop), Q (.int (g i j) s.toks) { s with toks := s.toks + 1 } → wpAny (model X.prog X.w) X.A (f (.int i t) (.int j u)) Q E s) :
    OpR X f (rI0 fun i j => .int (g i j)) := by
  intro pins s σ H x y v u Q I rx ry h
  obtain ⟨i, j, rfl, rfl, q⟩ := h
  obtain ⟨t, rfl⟩ := rx
  obtain ⟨t', rfl⟩ := ry
  exact rule i j t t' s _ _ ⟨.int (g i j), H, I.tok _, ⟨_, rfl⟩, q⟩
theorem opB0 {f : Value → Value → Sem Value} {g : Int → Int → Bool}
    (rule : ∀ (i j : Int) (t u : Tok) (s : Shared) (Q : Value → Shared → Prop) (E : Value → Shared → Prop), Q (.bool (g i j)) s → wpAny (model X.prog X.w) X.A (f (.int i t) (.int j u)) Q E s) :
    OpR X f (rI0 fun i j => .bl (g i j)) := by
  intro pins s σ H x y v u Q I rx ry h
  obtain ⟨i, j, rfl, rfl, q⟩ := h
  obtain ⟨t, rfl⟩ := rx
  obtain ⟨t', rfl⟩ := ry
  exact rule i j t t' s _ _ ⟨.bl (g i j), H, I, rfl, q⟩
def CDiv (i j : Int) : Prop := 0 < j ∧ j < 1073741824
def CMul (i j : Int) : Prop := (-(2 ^ 64) < i ∧ i < 2 ^ 64) ∨ (-(2 ^ 64) < j ∧ j < 2 ^ 64)
theorem CMul.ok {i j : Int} (h : CMul i j) : IntMulOk i j := by
  rcases h with ⟨h1, h2⟩ | ⟨h1, h2⟩
  · exact .of_left (intBits_le_64 h1 h2)
  · exact .of_right (intBits_le_64 h1 h2)
theorem op_add : OpR X (binaryOp .Add) (rI0 fun i j => .int (i + j)) := opI0 fun _ _ _ _ _ _ _ q => add_int q
theorem op_sub : OpR X (binaryOp .Sub) (rI0 fun i j => .int (i - j)) := opI0 fun _ _ _ _ _ _ _ q => sub_int q
theorem op_mul : OpR X (binaryOp .Mult) (rI CMul fun i j => .int (i * j)) := opI fun _ _ _ _ _ _ _ hc q => mul_int q hc.ok
theorem op_fdiv : OpR X (binaryOp .FloorDiv) (rI CDiv fun i j => .int (i / j)) := opI fun i j _ _ _ _ _ hc q => by
  have h1 : (0 : Int) < j := hc.1
  have h2 : j < 1073741824 := hc.2
  exact floordiv_int (by omega) (by rw [Int.fdiv_eq_ediv_of_nonneg i (by omega)]; exact q) (.inl (PyProof.noPylong_small (by omega)))
theorem op_mod : OpR X (binaryOp .Mod) (rI (fun _ j => 0 < j) fun i j => .int (i % j)) := opI fun i j _ _ _ _ _ hc q => by
  have h1 : (0 : Int) < j := hc
  exact mod_int' (by omega) (by rw [Int.fmod_eq_emod_of_nonneg i (by omega)]; exact q)
theorem unI {f : Value → Sem Value} {g : Int → Int}
    (rule : ∀ (i : Int) (t : Tok) (s : Shared) (Q : Value → Shared → Prop) (E : Value → Shared → Prop), Q (.int (g i) s.toks) { s with toks := s.toks + 1 } → wpAny (model X.prog X.w) X.A (f (.int i t)) Q E s) :
    UnR X f (rU fun i => .int (g i)) := by
  intro pins s σ H x v Q I rx h
  obtain ⟨i, rfl, q⟩ := h
  obtain ⟨t, rfl⟩ := rx
  exact rule i t s _ _ ⟨.int (g i), H, I.tok _, ⟨_, rfl⟩, q⟩
theorem un_neg : UnR X (unaryOp .USub) (rU fun i => .int (-i)) := unI fun _ _ _ _ _ q => neg_int q
end
section
variable {X : Cx} {a b c : Expr} {ta tb tc : TE} {pos : Pos}
theorem fin_bl {pins : List (Addr × Obj)} {σ : St} {H : Hp} {s : Shared} {Q : VK} {k k' : Bool} (I : Inv X pins σ H s) (q : Q (.bl k) H) (e : k = k') : EP X pins σ Q (.bool k') s := by
  subst e
  exact ⟨.bl k, H, I, rfl, q⟩
theorem op_lt : OpR X (compareOp .Lt) (rI0 fun i j => .bl (decide (i < j))) := opB0 fun _ _ _ _ _ _ _ q => lt_int q
theorem op_le : OpR X (compareOp .LtE) (rI0 fun i j => .bl (decide (i ≤ j))) := opB0 fun _ _ _ _ _ _ _ q => le_int q
theorem op_gt : OpR X (compareOp .Gt) (rI0 fun i j => .bl (decide (j < i))) := opB0 fun _ _ _ _ _ _ _ q => gt_int q
theorem op_ge : OpR X (compareOp .GtE) (rI0 fun i j => .bl (decide (j ≤ i))) := opB0 fun _ _ _ _ _ _ _ q => ge_int q
theorem op_lt_str : OpR X (compareOp .Lt) (fun x y H Q => ∃ i j, x = .str i ∧ y = .str j ∧ Q (.bl (decide (i.cps.toList < j.cps.toList))) H) := by
  intro pins s σ H x y v u Q I rx ry h
  obtain ⟨i, j, rfl, rfl, q⟩ := h
  obtain ⟨t, rfl⟩ := rx
  obtain ⟨t', rfl⟩ := ry
  exact lt_str (fin_bl I q rfl)
theorem op_in_str : OpR X (compareOp .In) (fun x y H Q => ∃ i j, x = .str i ∧ y = .str j ∧ Q (.bl (!(Builtin.Str.occurrences j i 0 j.length 1).isEmpty)) H) := by
  intro pins s σ H x y v u Q I rx ry h
  obtain ⟨i, j, rfl, rfl, q⟩ := h
  obtain ⟨t, rfl⟩ := rx
  obtain ⟨t', rfl⟩ := ry
  exact in_str (fin_bl I q rfl)
theorem op_isN : OpR X (compareOp .Is) (fun x y H Q => y = .non ∧ Q (.bl (decide (x = .non))) H) := by
  intro pins s σ H x y v u Q I rx ry h
  obtain ⟨rfl, q⟩ := h
  cases ry
  refine is_none_gen (fin_bl I q ?_)
  cases x <;> first
    | (cases rx; rfl)
    | (obtain ⟨t, rfl⟩ := rx; rfl)
theorem nomark (b : Expr) {op : CmpOp} (h : op ≠ .In := by decide) (h2 : op ≠ .NotIn := by decide) : behindInMarks op b = false := by
  have e1 : (op == CmpOp.In) = false := by cases op <;> first | rfl | exact absurd rfl h
  have e2 : (op == CmpOp.NotIn) = false := by cases op <;> first | rfl | exact absurd rfl h2
  cases b <;> simp [behindInMarks, e1, e2]
theorem pe_cmpR {op : CmpOp} {r : R2} (ho : OpR X (compareOp op) r) (ha : PE X a ta) (hb : PE X b tb) (hm : behindInMarks op b = false) : PE X (.Compare a [op] [b] pos) (tOp r ta tb) := by
  intro pins s σ H Q I h
  exact wpAny_Compare1 (binT ha hb I h fun v u s2 x y H2 I2 rx ry q => ho pins s2 σ H2 x y v u Q I2 rx ry q) hm
def tTest (t : TE) : TT := fun σ H Q => t σ H fun x H' => ∃ k, x = .bl k ∧ Q k H'
theorem pt_cmpR {op : CmpOp} {r : R2} (ho : OpR X (compareOp op) r) (ha : PE X a ta) (hb : PE X b tb) (hm : behindInMarks op b = false) : PT X (.Compare a [op] [b] pos) (tTest (tOp r ta tb)) := by
  intro pins s σ H Q I h
  refine wpAny_isTrue_Compare1 (thn (ha pins s σ H _ I h) fun v s1 ⟨x, H1, I1, r1, q1⟩ => thn (hb pins s1 σ H1 _ I1 q1) fun u s2 ⟨y, H2, I2, r2, q2⟩ =>
    thn (ho pins s2 σ H2 x y v u _ I2 r1 r2 q2) fun c s3 ⟨z, H3, I3, r3, k, e, q3⟩ => ?_) hm
  subst e
  cases r3
  exact wpAny_truthy_bool ⟨H3, I3, q3⟩
def tChain (r r' : R2) (ta tb tc : TE) : TE := fun σ H Q => ta σ H fun x H1 => tb σ H1 fun y H2 => r x y H2 fun z H3 => ∃ k, z = .bl k ∧
  (if k = true then tc σ H3 fun w' H4 => r' y w' H4 Q else Q (.bl false) H3)
theorem pe_chain {op op' : CmpOp} {r r' : R2} (ho : OpR X (compareOp op) r) (ho' : OpR X (compareOp op') r') (ha : PE X a ta) (hb : PE X b tb) (hc : PE X c tc)
    (hm : lastMarks [op, op'] [b, c] = false := by with_unfolding_all rfl) : PE X (.Compare a [op, op'] [b, c] pos) (tChain r r' ta tb tc) := by
  intro pins s σ H Q I h
  refine Compare_chain (thn (ha pins s σ H _ I h) fun v s1 ⟨x, H1, I1, r1, q1⟩ => chain_link (thn (hb pins s1 σ H1 _ I1 q1) fun u s2 ⟨y, H2, I2, r2, q2⟩ =>
    thn (ho pins s2 σ H2 x y v u _ I2 r1 r2 q2) fun d s3 ⟨z, H3, I3, r3, k, e, q3⟩ => ?_)) hm
  subst e
  cases r3
  refine wpAny_truthy_bool ?_
  cases k with
  | false => exact ite_ff ⟨.bl false, H3, I3, rfl, q3⟩
  | true => exact ite_tt (chain_last (thn (hc pins s3 σ H3 _ I3 q3) fun w' s4 ⟨z', H4, I4, r4, q4⟩ => ho' pins s4 σ H4 y z' u w' Q I4 r2 r4 q4))
def TruV (K : PySem.W.Frag) (x : V) (H : Hp) (k : Bool) : Prop :=
  match x with
  | .non => k = false
  | .bl b => k = b
  | .int i => k = (i != 0)
  | .str y => y.length ≤ sizeLine ∧ k = ((y.length : Int) != 0)
  | .byt y => y.size ≤ sizeLine ∧ k = ((y.size : Int) != 0)
  | .ref p => (∃ xs, SqL K H p xs ∧ k = !xs.isEmpty) ∨ (∃ xs, SqT K H p xs ∧ k = !xs.isEmpty) ∨ ∃ kvs, Rd H p (.dK kvs) ∧ k = !kvs.isEmpty
  | _ => False
theorem isEmpty_kv {κ : Type} {kvs : List (κ × V)} {vs : List (κ × Value)} (r : KV kvs vs) : (!vs.isEmpty) = !kvs.isEmpty := by
  cases r <;> rfl
theorem isEmpty_of {xs : List V} {its : List Value} (r : Vals xs its) : (!its.toArray.isEmpty) = !xs.isEmpty := by
  cases r <;> simp
theorem line63 : (sizeLine : Nat) < 2 ^ 63 := by rw [sizeLine_eq]; decide
theorem tru_ok : TruR X (fun x H Q => ∃ k, TruV X.K x H k ∧ Q k H) := by
  intro pins s σ H x v Q I rx h
  obtain ⟨k, e, q⟩ := h
  have hl := line63
  have hs : sizeLine = 16777216 := sizeLine_eq
  cases x with
  | non =>
    cases rx
    have e' : k = false := e
    subst e'
    exact truthy_none ⟨H, I, q⟩
  | bl b =>
    cases rx
    have e' : k = b := e
    subst e'
    exact wpAny_truthy_bool ⟨H, I, q⟩
  | int i =>
    obtain ⟨t, rfl⟩ := rx
    have e' : k = (i != 0) := e
    subst e'
    exact PySem.P.truthy_int ⟨H, I, q⟩
  | str y =>
    obtain ⟨t, rfl⟩ := rx
    obtain ⟨hy, e'⟩ : y.length ≤ sizeLine ∧ k = ((y.length : Int) != 0) := e
    subst e'
    exact PySem.P.truthy_str (by omega) ⟨H, I.tok _, q⟩
  | byt y =>
    obtain ⟨t, rfl⟩ := rx
    obtain ⟨hy, e'⟩ : y.size ≤ sizeLine ∧ k = ((y.size : Int) != 0) := e
    subst e'
    exact PySem.W.truthy_bytes (by omega) ⟨H, I.tok _, q⟩
  | ref p =>
    cases rx
    have e' : (∃ xs, SqL X.K H p xs ∧ k = !xs.isEmpty) ∨ (∃ xs, SqT X.K H p xs ∧ k = !xs.isEmpty) ∨ ∃ kvs, Rd H p (.dK kvs) ∧ k = !kvs.isEmpty := e
    rcases e' with ⟨xs, hx, e'⟩ | ⟨xs, hx, e'⟩ | ⟨kvs, hx, e'⟩
    · subst e'
      obtain ⟨its, r, pl, hz⟩ := I.list hx
      have hlen := r.length
      exact wpAny_truthy_list pl.isList (by simp only [List.size_toArray]; omega) ⟨H, I.tok _, by rw [isEmpty_of r]; exact q⟩
    · subst e'
      obtain ⟨its, r, pl, hz⟩ := I.tuple hx
      have hlen := r.length
      exact truthy_tuple pl (by simp only [List.size_toArray]; omega) ⟨H, I.tok _, by rw [isEmpty_of r]; exact q⟩
    · subst e'
      obtain ⟨hz, hS, vs, r, m⟩ : kvs.length ≤ sizeLine ∧ (p == sysModules) = false ∧ ∃ vs, KV kvs vs ∧ s.heap.DictOf (mixKind X.prog X.w) p vs := hx.ok I.hok
      have hlen : kvs.length = vs.length := Paired.length r
      exact wpAny_truthy_dict hS m (by omega) ⟨H, I.tok _, by rw [isEmpty_kv r]; exact q⟩
  | _ => exact (show False from e).elim
theorem pt_truth (ha : PE X a ta) (he : ∀ whole, isTrue a X.env whole = (do let v ← whole; standAt a.pos; holding [v] (truthy v))) :
    PT X a (fun σ H Q => ta σ H fun x H' => ∃ k, TruV X.K x H' k ∧ Q k H') := by
  intro pins s σ H Q I h
  exact isTrue_plain (thn (ha pins s σ H _ I h) fun v s1 ⟨x, H1, I1, r1, q1⟩ => tru_ok pins s1 σ H1 x v Q I1 r1 q1) (he _)
theorem op_add_str : OpR X (binaryOp .Add) (fun x y H Q => ∃ i j, x = .str i ∧ y = .str j ∧ i.length + j.length ≤ sizeLine ∧ Q (.str (i ++ j)) H) := by
  intro pins s σ H x y v u Q I rx ry h
  obtain ⟨i, j, rfl, rfl, hz, q⟩ := h
  obtain ⟨t, rfl⟩ := rx
  obtain ⟨t', rfl⟩ := ry
  exact add_str (fun t' tk => ⟨.str (i ++ j), H, I.tok _, ⟨_, rfl⟩, q⟩) hz
theorem vals1 {x : V} {us : List Value} (r : Vals [x] us) : ∃ u, us = [u] ∧ RelV x u := by
  cases r with
  | cons r1 r2 => cases r2; exact ⟨_, rfl, r1⟩
theorem vals2 {x y : V} {us : List Value} (r : Vals [x, y] us) : ∃ u w', us = [u, w'] ∧ RelV x u ∧ RelV y w' := by
  cases r with
  | cons r1 r2 =>
    cases r2 with
    | cons r3 r4 => cases r4; exact ⟨_, _, rfl, r1, r3⟩
theorem call_int1 : CallR X (.type "int") (fun xs H Q => (∃ i, xs = [.int i] ∧ Q (.int i) H) ∨ ∃ k, xs = [.bl k] ∧ Q (.int (if k then 1 else 0)) H) := by
  intro pins s σ H xs us Q I r h
  rcases h with ⟨i, rfl, q⟩ | ⟨k, rfl, q⟩
  · obtain ⟨u, rfl, t, rfl⟩ := vals1 r
    exact call_int_int ⟨.int i, H, I, ⟨_, rfl⟩, q⟩
  · obtain ⟨u, rfl, r1⟩ := vals1 r
    cases r1
    exact call_int_bool ⟨.int (if k then 1 else 0), H, I.tok _, ⟨_, rfl⟩, q⟩
theorem call_str_int : CallR X (.type "str") (fun xs H Q => ∃ i, xs = [.int i] ∧ i.natAbs.log2 < 1920 ∧ Q (.str (toString i)) H) := by
  intro pins s σ H xs us Q I r h
  obtain ⟨i, rfl, hz, q⟩ := h
  obtain ⟨u, rfl, t, rfl⟩ := vals1 r
  exact PySem.P.str_of_int hz ⟨.str _, H, I.tok _, ⟨_, rfl⟩, q⟩
def LenV (K : PySem.W.Frag) (x : V) (H : Hp) (n : Nat) : Prop :=
  match x with
  | .str y => y.length ≤ sizeLine ∧ n = y.length
  | .byt y => y.size ≤ sizeLine ∧ n = y.size
  | .ref p => (∃ xs, SqL K H p xs ∧ n = xs.length) ∨ ∃ xs, SqT K H p xs ∧ n = xs.length
  | _ => False
theorem call_len : CallR X (.builtin "len") (fun xs H Q => ∃ x n, xs = [x] ∧ LenV X.K x H n ∧ Q (.int n) H) := by
  intro pins s σ H xs us Q I r h
  obtain ⟨x, n, rfl, e, q⟩ := h
  obtain ⟨u, rfl, rx⟩ := vals1 r
  have hl := line63
  have hs : sizeLine = 16777216 := sizeLine_eq
  cases x with
  | str y =>
    obtain ⟨t, rfl⟩ := rx
    obtain ⟨hy, e'⟩ : y.length ≤ sizeLine ∧ n = y.length := e
    subst e'
    exact len_str (by omega) ⟨.int _, H, I.tok _, ⟨_, rfl⟩, q⟩
  | byt y =>
    obtain ⟨t, rfl⟩ := rx
    obtain ⟨hy, e'⟩ : y.size ≤ sizeLine ∧ n = y.size := e
    subst e'
    exact PySem.W.len_bytes (by omega) ⟨.int _, H, I.tok _, ⟨_, rfl⟩, q⟩
  | ref p =>
    cases rx
    have e' : (∃ xs, SqL X.K H p xs ∧ n = xs.length) ∨ ∃ xs, SqT X.K H p xs ∧ n = xs.length := e
    rcases e' with ⟨xs, hx, e'⟩ | ⟨xs, hx, e'⟩
    · subst e'
      obtain ⟨its, r', pl, hz⟩ := I.list hx
      have hlen := r'.length
      exact Calls.call_len_list pl.isList (by simp only [List.size_toArray]; omega) ⟨.int xs.length, H, I.tok _, ⟨_, by simp only [List.size_toArray]; rw [hlen]⟩, q⟩
    · subst e'
      obtain ⟨its, r', pl, hz⟩ := I.tuple hx
      have hlen := r'.length
      exact len_tuple pl (by simp only [List.size_toArray]; omega) ⟨.int xs.length, H, I.tok _, ⟨_, by simp only [List.size_toArray]; rw [hlen]⟩, q⟩
  | _ => exact (show False from e).elim
end
end L2
namespace L2
open PySem PySem.Spec PyProof.Rows
structure ObjM (h : Heap) (x dx C : Addr) (mA : Str → Option Value) : Prop where
  obj : h.get? x = some (PySem.W.instObj C dx)
  ns : h.Ns1 dx mA
  ne : dx ≠ x
theorem lookIn_ns {h : Heap} {dx : Addr} {mA : Str → Option Value} (n : h.Ns1 dx mA) : ∃ od, h.get? dx = some od ∧ ∀ name, PySem.W.lookIn name od = some (mA name) := by
  obtain ⟨o, es, ep, ho, hd, hk, _, hm⟩ := n
  refine ⟨o, ho, fun name => ?_⟩
  have e := hm name
  unfold nsFind findBy at e
  rw [← Array.find?_toList] at e
  unfold PySem.W.lookIn
  rw [hd]
  dsimp only
  split
  · rename_i y q
    rw [q] at e
    exact congrArg some e
  · rename_i q
    rw [q] at e
    have a : es.toList.any (·.refKey) = false := by
      rw [List.any_eq_false]
      intro y hy
      obtain ⟨z, t, hkey⟩ := hk y (Array.mem_toList_iff.mp hy)
      simp [DictEntry.refKey, hkey]
    have a' : ¬ es.toList.any (·.refKey) = true := by rw [a]; exact Bool.false_ne_true
    rw [if_neg a']
    exact congrArg some e
theorem ObjM.look {h : Heap} {x dx C : Addr} {mA : Str → Option Value} (I : ObjM h x dx C mA) : ∃ od, PySem.W.InstAt h x (PySem.W.instObj C dx) C (some od) ∧ ∀ name, PySem.W.lookIn name od = some (mA name) :=
  let ⟨od, ho, hl⟩ := lookIn_ns I.ns
  ⟨od, ⟨I.obj, rfl, rfl, ho⟩, hl⟩
theorem RelO.some_of {v : V} {o : Option Value} (r : RelO (some v) o) : ∃ u, o = some u ∧ RelV v u := by
  cases o with
  | none => exact (show False from r).elim
  | some u => exact ⟨u, rfl, r⟩
section
variable {P : Program} {w : World} {H H' : Hp} {h h' : Heap} {a C dx : Addr} {fs fs' : List (Str × V)}
theorem ins_get (hok : HOk P w H h) (e : H a = some (.ins C dx fs)) : ∃ mA, ObjM h a dx C mA ∧ (∀ f, RelO (fs.lookup f) (mA f)) ∧ PySem.Within mA (fs.map (·.1)) ∧ fs.length ≤ 1000 ∧ H dx = some (.own a) := by
  obtain ⟨d, z, ne, ob, mA, n, r, q⟩ := (show ObjOk P w H h a (.ins C dx fs) from hok a _ e)
  exact ⟨mA, ⟨ob, n, ne⟩, r, q, z, d⟩
end
structure Cls (K : PySem.W.Frag) (C : Addr) : Prop where
  pg : PySem.W.plainGet K C Str.empty = true
  hd : PySem.W.hasDictIn K C = true
  po : PySem.W.plainOver K C = true
  sa : PySem.W.findIn K (.ref C) "__setattr__" = some (some (.builtin "object.__setattr__"))
theorem Cls.get {K : PySem.W.Frag} {C : Addr} (c : Cls K C) (f : Str) : PySem.W.plainGet K C f = true := c.pg
section
variable {X : Cx} {pins : List (Addr × Obj)} {σ : St} {H : Hp} {s : Shared} {A : Around} {E : Value → Shared → Prop} {Q : Value → Shared → Prop} {c : Value} {b : Bool}
inductive TyOf (K : PySem.W.Frag) (H : Hp) : V → Value → Prop where
  | non : TyOf K H .non (.type "NoneType")
  | bl (x : Bool) : TyOf K H (.bl x) (.type "bool")
  | int (i : Int) : TyOf K H (.int i) (.type "int")
  | str (x : Str) : TyOf K H (.str x) (.type "str")
  | flt (x : UInt64) : TyOf K H (.flt x) (.type "float")
  | lst {a : Addr} {xs : List V} (e : H a = some (.lst xs)) : TyOf K H (.ref a) (.type "list")
  | frz {a : Addr} {o : Obj} {xs : List V} (e : H a = some (.frz o (.lst xs))) : TyOf K H (.ref a) (.type "list")
  | tup {a : Addr} {xs : List V} (e : H a = some (.tup xs)) : TyOf K H (.ref a) (.type "tuple")
  | dK {a : Addr} {kvs : List (Key × V)} (e : H a = some (.dK kvs)) : TyOf K H (.ref a) (.type "dict")
  | dT {a : Addr} {kvs : List (List Key × V)} (e : H a = some (.dT kvs)) : TyOf K H (.ref a) (.type "dict")
  | ins {a C dx : Addr} {fs : List (Str × V)} (e : H a = some (.ins C dx fs)) (cl : Cls K C) (ha : PySem.W.findIn K (.ref C) "__class__" = some (some (.builtin "object.__class__")))
      (hn : PySem.W.specialIn K (.builtin "object.__class__") "__get__" = some (some (.builtin "getset_descriptor.__get__"))) (htk : PySem.W.takesIn K (.builtin "object.__class__") = some true)
      (hm : PySem.W.mroIn K C (.type "object") = some true) : TyOf K H (.ref a) (.ref C)
theorem isinst_ok {x : V} {u t : Value} (I : Inv X pins σ H s) (rx : RelV x u) (ty : TyOf X.K H x t) (e : PySem.W.kitOne X.K t c = some b) (h : ∀ tk, Q (.bool b) { s with toks := tk }) :
    wpAny (model X.prog X.w) A (call (.builtin "isinstance") [u, c]) Q E s := by
  cases ty with
  | non => cases (show u = Value.none from rx); exact PySem.W.kia_one PySem.W.kitx_none I.kIn True.intro e (fun z => nomatch z) h
  | bl y => cases (show u = Value.bool y from rx); exact PySem.W.kia_one PySem.W.kitx_bool I.kIn True.intro e (fun z => nomatch z) h
  | int i => obtain ⟨t, q⟩ := (show ∃ t, u = Value.int i t from rx); cases q; exact PySem.W.kia_one PySem.W.kitx_int I.kIn True.intro e (fun z => nomatch z) h
  | str y => obtain ⟨t, q⟩ := (show ∃ t, u = Value.str y t from rx); cases q; exact PySem.W.kia_one PySem.W.kitx_str I.kIn True.intro e (fun z => nomatch z) h
  | flt y => obtain ⟨t, q⟩ := (show ∃ t, u = Value.float y t from rx); cases q; exact PySem.W.kia_one PySem.W.kitx_float I.kIn True.intro e (fun z => nomatch z) h
  | @lst a xs ea =>
    cases (show u = Value.ref a from rx)
    obtain ⟨_, _, n, _, h1⟩ := (show ObjOk X.prog X.w H s.heap a (.lst xs) from I.hok a _ ea)
    exact PySem.W.kia_one PySem.W.kitx_list I.kIn ⟨_, h1, rfl⟩ e (fun z => nomatch z) h
  | @frz a ob xs ea =>
    cases (show u = Value.ref a from rx)
    obtain ⟨_, _, _, n, _, h1⟩ := (show ObjOk X.prog X.w H s.heap a (.frz ob (.lst xs)) from I.hok a _ ea)
    exact PySem.W.kia_one PySem.W.kitx_list I.kIn ⟨_, h1, rfl⟩ e (fun z => nomatch z) h
  | @tup a xs ea =>
    cases (show u = Value.ref a from rx)
    obtain ⟨_, _, _, p⟩ := (show ObjOk X.prog X.w H s.heap a (.tup xs) from I.hok a _ ea)
    obtain ⟨o, h1, h2, _⟩ := p
    exact PySem.W.kia_one PySem.W.kitx_tuple I.kIn ⟨o, h1, h2⟩ e (fun z => nomatch z) h
  | @dK a kvs ea =>
    cases (show u = Value.ref a from rx)
    obtain ⟨_, _, vs, _, p⟩ := (show ObjOk X.prog X.w H s.heap a (.dK kvs) from I.hok a _ ea)
    obtain ⟨o, es, ep, h1, h2, _⟩ := p
    exact PySem.W.kia_one PySem.W.kitx_dict I.kIn ⟨o, h1, h2.1⟩ e (fun z => nomatch z) h
  | @dT a kvs ea =>
    cases (show u = Value.ref a from rx)
    obtain ⟨_, _, xs, _, o, es, ep, h1, h2, _⟩ := (show ObjOk X.prog X.w H s.heap a (.dT kvs) from I.hok a _ ea)
    exact PySem.W.kia_one PySem.W.kitx_dict I.kIn ⟨o, h1, h2.1⟩ e (fun z => nomatch z) h
  | @ins a C dx fs ea cl ha hn htk hm =>
    cases (show u = Value.ref a from rx)
    obtain ⟨mA, O, _⟩ := ins_get I.hok ea
    obtain ⟨od, J, _⟩ := O.look
    exact PySem.W.kia_one (PySem.W.kitx_own (cl.get _) cl.hd ha hn htk hm) I.kIn J e (fun z => nomatch z) h
end
end L2
namespace L2
open PySem PySem.Spec PyProof.Rows
structure Room (k : Nat) (A : Around) : Prop where
  hd : A.handled = none
  dp : A.depth + 3 * k + 5 < recursionLimit
  un : A.units + 16 * k + 200 < cLine
theorem Room.mono {j k : Nat} {A : Around} (r : Room k A) (h : j ≤ k) : Room j A := ⟨r.hd, by have := r.dp; omega, by have := r.un; omega⟩
theorem Room.deeper {k : Nat} {A : Around} (r : Room (k + 1) A) (env : Env) : Room k (A.deeper env) :=
  ⟨r.hd, by have := r.dp; show A.depth + 1 + 3 * k + 5 < _; omega, by have := r.un; show A.units + 3 + 16 * k + 200 < _; omega⟩
theorem Room.depth {k : Nat} {A : Around} (r : Room k A) : A.depth < recursionLimit := by have := r.dp; omega
theorem Room.units {k : Nat} {A : Around} (r : Room k A) : A.units + 64 < cLine := by have := r.un; omega
def tNil : TA := fun _ H Q => Q [] H
def tCons (ta : TE) (tr : TA) : TA := fun σ H Q => ta σ H fun x H1 => tr σ H1 fun xs H2 => Q (x :: xs) H2
section
variable {X : Cx} {e : Expr} {es : List Expr} {te : TE} {t : TA} {pos : Pos}
theorem pa_nil : PA X [] tNil := fun _ _ _ _ H Q I h => Calls.spliced_nil ⟨[], H, I, .nil, h⟩
theorem pa_cons (ha : PE X e te) (hr : PA X es t) (hs : starEach (e :: es) X.env = (false, eval e X.env) :: starEach es X.env := by rfl) : PA X (e :: es) (tCons te t) := by
  intro pos pins s σ H Q I h
  rw [hs]
  show wpAny _ _ (spliced ((false, eval e X.env) :: backTo pos (starEach es X.env))) _ _ s
  refine Calls.spliced_cons (thn (ha pins s σ H _ I h) fun u s1 ⟨x, H1, I1, r1, q1⟩ => ?_)
  exact thn (hr pos pins s1 σ H1 _ I1 q1) fun us s2 ⟨xs, H2, I2, r2, q2⟩ => ⟨x :: xs, H2, I2, .cons r1 r2, q2⟩
def tTup (t : TA) : TE := fun σ H Q => t σ H fun xs H1 => xs.length ≤ sizeLine ∧ ∀ p, H1 p = none → Q (.ref p) (upd H1 p (.tup xs))
def tLst (t : TA) : TE := fun σ H Q => t σ H fun xs H1 => xs.length ≤ sizeLine ∧ ∀ p, H1 p = none → Q (.ref p) (upd H1 p (.lst xs))
theorem pe_tup {x1} (h : PA X es t) : PE X (.Tuple es x1 pos) (tTup t) := by
  intro pins s σ H Q I hq
  refine wpAny_Tuple_spliced (thn (h pos pins s σ H _ I hq) fun us s1 ⟨xs, H1, I1, r, z, q⟩ => ⟨by rw [← r.length]; exact z, ?_⟩)
  have hf : H1 s1.heap.objs.size = none := I1.hok.fresh (Nat.le_refl _)
  refine ⟨.ref s1.heap.objs.size, upd H1 s1.heap.objs.size (.tup xs), I1.laid (t' := s1.toks) (fun b u e => Heap.get?_push_of_some _ e) (Nat.le_refl _) ?_, rfl, q _ hf⟩
  exact ⟨z, us, r, ⟨_, Heap.get?_push_size _ rfl, rfl, _, rfl⟩⟩
theorem pe_lst (h : PA X es t) : PE X (.List es pos) (tLst t) := by
  intro pins s σ H Q I hq
  refine wpAny_List_spliced (thn (h pos pins s σ H _ I hq) fun us s1 ⟨xs, H1, I1, r, z, q⟩ => ⟨by rw [← r.length]; exact z, ?_⟩)
  have hf : H1 s1.heap.objs.size = none := I1.hok.fresh (Nat.le_refl _)
  refine ⟨.ref s1.heap.objs.size, upd H1 s1.heap.objs.size (.lst xs), I1.laid (t' := s1.toks) (fun b u e => Heap.get?_push_of_some _ e) (Nat.le_refl _) ?_, rfl, q _ hf⟩
  exact ⟨z, us, 0, r, Heap.get?_push_size _ rfl⟩
end
abbrev Sp := List V → Hp → VK → XK → Prop
abbrev CXT := List Env → Hp → Shared → XK → Value → Shared → Prop
structure Env0 (P : Program) (w : World) (K : PySem.W.Frag) (mg : Str → Option Value) (base : Heap) (A : Around) (outer : List Env) (s : Shared) (H : Hp) : Prop where
  frames : A.frames = some outer
  mod : Mod K mg base
  bs : ∀ b o, base.get? b = some o → s.heap.get? b = some o ∧ H b = none
  bsz : base.objs.size ≤ s.heap.objs.size
  funs : s.heap.FunFrames base outer
  frf : ∀ b ∈ frs outer, H b = none
  hok : HOk P w H s.heap
  bare : AllBare s.gens
def CE (outer : List Env) (P : Program) (w : World) (H : Hp) (s : Shared) (Q : VK) (u : Value) (s' : Shared) : Prop :=
  ∃ v H', s'.os = s.os ∧ AllBare s'.gens ∧ Un (frs outer) [] H H' s.heap s'.heap ∧ HOk P w H' s'.heap ∧ RelV v u ∧ Q v H'
def CR (CX : CXT) (outer : List Env) (P : Program) (w : World) (H : Hp) (s : Shared) (Q : VK) (E : XK) (r : Result) (s' : Shared) : Prop :=
  match r with
  | .ok (.ret u) => CE outer P w H s Q u s'
  | .ok _ => False
  | .error e => CX outer H s E e s'
structure FnOk (P : Program) (w : World) (K : PySem.W.Frag) (mg : Str → Option Value) (base : Heap) (CX : CXT) (k : Nat) (f : Addr) (fd : FuncData) (ps : List Str) (sp : Sp) : Prop where
  len : ∀ vs H Q E, sp vs H Q E → vs.length = ps.length
  run : ∀ (A : Around) (outer : List Env) (s : Shared) (H : Hp) (args : Args) (us : List Value) (vs : List V) (Q : VK) (E : XK), Room k A → Env0 P w K mg base A outer s H → BindsTo s fd args (ps.zip us) → Vals vs us → sp vs H Q E →
    codeAny (model P w) A (.call (.ref f) args) (CR CX outer P w H s Q E) s
theorem FnOk.mono {P : Program} {w : World} {K : PySem.W.Frag} {mg : Str → Option Value} {base : Heap} {CX : CXT} {j k : Nat} {f : Addr} {fd : FuncData} {ps : List Str} {sp : Sp} (F : FnOk P w K mg base CX j f fd ps sp) (h : j ≤ k) :
    FnOk P w K mg base CX k f fd ps sp := ⟨F.len, fun A outer s H args us vs Q E hr => F.run A outer s H args us vs Q E (hr.mono h)⟩
section
variable {X : Cx} {pins : List (Addr × Obj)} {σ : St} {H : Hp} {s s' : Shared}
theorem Inv.env0 (I : Inv X pins σ H s) : Env0 X.prog X.w X.K X.mg X.base X.A X.stack s H :=
  ⟨I.ok.frames, I.ok.mod, I.bs, Nat.le_trans I.ok.bsz I.sz, I.stack, I.stkFree, I.hok, I.bare⟩
theorem Inv.after {Q : VK} {u : Value} (I : Inv X pins σ H s) (h : CE X.stack X.prog X.w H s Q u s') : EP X pins σ Q u s' := by
  obtain ⟨v, H', os, bare, un, hok, r, q⟩ := h
  obtain ⟨hh, g, d, t, os'⟩ := s'
  obtain rfl : os' = s.os := os
  exact ⟨v, H', I.call (h' := hh) (g' := g) (d' := d) (t' := t) (ch := []) un hok bare (fun b z => absurd z (by simp)), r, q⟩
end
def tCall (sp : Sp) (dvs : List V) (E : XK) (t : TA) : TE := fun σ H Q => t σ H fun vs H1 => sp (vs ++ dvs) H1 Q E
def Binds (K : PySem.W.Frag) (fd : FuncData) (ps : List Str) (ds : List Value) : Prop :=
  ∀ (s : Shared) (us : List Value), K.In s.heap → (us ++ ds).length = ps.length → BindsTo s fd ⟨us, []⟩ (ps.zip (us ++ ds))
theorem Binds.all {K : PySem.W.Frag} {fd : FuncData} {ps : List Str} (h : ∀ us : List Value, us.length = ps.length → bindArgs fd ⟨us, []⟩ = pure (ps.zip us)) : Binds K fd ps [] := fun s us _ hl => by
  rw [List.append_nil] at hl ⊢
  exact .of_eq (h us hl)
def Passes (CX : CXT) (X : Cx) (E : XK) : Prop := ∀ (pins : List (Addr × Obj)) (σ : St) (H : Hp) (s : Shared) (e : Value) (s' : Shared), Inv X pins σ H s → CX X.stack H s E e s' → X.xe e s'
section
variable {X : Cx} {CX : CXT} {k : Nat} {f C : Addr} {fd : FuncData} {ps : List Str} {sp : Sp} {dvs : List V} {ds : List Value} {E : XK} {x m : Str} {p pos apos : Pos} {e o : Expr} {es : List Expr} {ta : TE} {t : TA}
theorem run_fn {pins : List (Addr × Obj)} {σ : St} {H : Hp} {s : Shared} {Q : VK} {us : List Value} {vs : List V} (F : FnOk X.prog X.w X.K X.mg X.base CX k f fd ps sp) (hr : Room k X.A) (hb : Binds X.K fd ps ds) (hd : Vals dvs ds) (hx : Passes CX X E)
    (I : Inv X pins σ H s) (r : Vals vs us) (h : sp (vs ++ dvs) H Q E) : wpAny (model X.prog X.w) X.A (call (.ref f) us) (EP X pins σ Q) X.xe s := by
  have r2 : Vals (vs ++ dvs) (us ++ ds) := r.append hd
  have hl : (us ++ ds).length = ps.length := by rw [← r2.length]; exact F.len _ _ _ _ h
  refine wpAny_call (codeAny_mono (F.run X.A X.stack s H ⟨us, []⟩ (us ++ ds) (vs ++ dvs) Q E hr I.env0 (hb s us I.kIn hl) r2 h) fun r s' hq => ?_)
  cases r with
  | error e => exact hx pins σ H s e s' I hq
  | ok fl =>
    cases fl with
    | ret u => exact I.after hq
    | next => exact False.elim hq
    | brk => exact False.elim hq
    | cont => exact False.elim hq
theorem pe_call (F : FnOk X.prog X.w X.K X.mg X.base CX k f fd ps sp) (hr : Room k X.A) (hg : Gl X x) (hm : X.mg x = some (.ref f)) (hk : PySem.W.keepIn X.K (.ref f) = true) (hb : Binds X.K fd ps ds) (hd : Vals dvs ds) (hx : Passes CX X E)
    (ha : PA X (e :: es) t) (hdb : (x == ("__debug__" : Str)) = false := by decide) (he : starEach (e :: es) X.env = (false, eval e X.env) :: starEach es X.env := by rfl) (hpl : (backTo pos (starEach es X.env)).any (·.1) = false := by rfl) :
    PE X (.Call (.Name x p) (e :: es) [] pos) (tCall sp dvs E t) := by
  intro pins s σ H Q I h
  refine wpAny_Call_Name_kw (ld_glob I hg hm ?_ hdb)
  refine PySem.W.callWith_K (h₀ := X.base) I.ok.mod.kin hk (thn (ha pos pins s σ H _ I h) fun us s1 ⟨vs, H1, I1, r, q⟩ => ⟨I1.kIn, ?_⟩) he hpl
  exact run_fn F hr hb hd hx I1 r q
theorem pe_call0 (F : FnOk X.prog X.w X.K X.mg X.base CX k f fd ps sp) (hr : Room k X.A) (hg : Gl X x) (hm : X.mg x = some (.ref f)) (hk : PySem.W.keepIn X.K (.ref f) = true) (hb : Binds X.K fd ps ds) (hd : Vals dvs ds) (hx : Passes CX X E)
    (hdb : (x == ("__debug__" : Str)) = false := by decide) : PE X (.Call (.Name x p) [] [] pos) (tCall sp dvs E tNil) := by
  intro pins s σ H Q I h
  refine wpAny_Call_Name_kw (ld_glob I hg hm ?_ hdb)
  exact PySem.W.callWith_K0 I.kIn hk (run_fn (us := []) F hr hb hd hx I .nil h)
end
structure FnScope (N P : List Str) (sc : Scope) : Prop where
  kind : sc.kind = .function
  co : sc.isCoroutine = false
  gen : sc.isGenerator = false
  nd : N.Nodup
  pre : N.take P.length = P
  par : ∀ x ∈ P, sc.names.lookup x = some .local ∨ sc.names.lookup x = some .cell
  nofree : ∀ y ∈ sc.names, y.2 ≠ .free
theorem bindL_out {kindOf : Str → Option NameKind} {x : Str} : ∀ {binds : List (Str × Value)} {m : Str → Option Value}, (∀ v, (x, v) ∉ binds) → bindL kindOf binds m x = m x
  | [], _, _ => rfl
  | (n, v) :: r, m, h => by
    unfold bindL
    rw [bindL_out fun w hw => h w (List.mem_cons_of_mem _ hw)]
    split
    · have : x ≠ n := by rintro rfl; exact h v List.mem_cons_self
      simp [this]
    · rfl
theorem bindC_out {kindOf : Str → Option NameKind} {x : Str} : ∀ {binds : List (Str × Value)} {m : Str → Option Value}, (∀ v, (x, v) ∉ binds) → bindC kindOf binds m x = m x
  | [], _, _ => rfl
  | (n, v) :: r, m, h => by
    unfold bindC
    rw [bindC_out fun w hw => h w (List.mem_cons_of_mem _ hw)]
    split
    · rfl
    · have : x ≠ n := by rintro rfl; exact h v List.mem_cons_self
      simp [this]
theorem bindL_get {kindOf : Str → Option NameKind} {x : Str} {v : Value} : ∀ {P : List Str} {vs : List Value} {i : Nat} {m : Str → Option Value}, P.Nodup → P[i]? = some x → vs[i]? = some v → kindOf x = some .local →
    bindL kindOf (P.zip vs) m x = some v
  | [], _, _, _, _, h, _, _ => by simp at h
  | _ :: _, [], _, _, _, _, h, _ => by simp at h
  | p :: P, w :: vs, 0, m, nd, h1, h2, hk => by
    simp at h1 h2; subst h1; subst h2
    show bindL kindOf ((p, w) :: P.zip vs) m p = _
    unfold bindL
    rw [bindL_out fun v hv => (List.nodup_cons.mp nd).1 (List.of_mem_zip hv).1, if_pos hk]
    simp
  | p :: P, w :: vs, i + 1, m, nd, h1, h2, hk => by
    show bindL kindOf ((p, w) :: P.zip vs) m x = _
    unfold bindL
    exact bindL_get (i := i) (List.nodup_cons.mp nd).2 (by simpa using h1) (by simpa using h2) hk
theorem bindC_get {kindOf : Str → Option NameKind} {x : Str} {v : Value} : ∀ {P : List Str} {vs : List Value} {i : Nat} {m : Str → Option Value}, P.Nodup → P[i]? = some x → vs[i]? = some v → kindOf x ≠ some .local →
    bindC kindOf (P.zip vs) m x = some v
  | [], _, _, _, _, h, _, _ => by simp at h
  | _ :: _, [], _, _, _, _, h, _ => by simp at h
  | p :: P, w :: vs, 0, m, nd, h1, h2, hk => by
    simp at h1 h2; subst h1; subst h2
    show bindC kindOf ((p, w) :: P.zip vs) m p = _
    unfold bindC
    rw [bindC_out fun v hv => (List.nodup_cons.mp nd).1 (List.of_mem_zip hv).1, if_neg hk]
    simp
  | p :: P, w :: vs, i + 1, m, nd, h1, h2, hk => by
    show bindC kindOf ((p, w) :: P.zip vs) m x = _
    unfold bindC
    exact bindC_get (i := i) (List.nodup_cons.mp nd).2 (by simpa using h1) (by simpa using h2) hk
def start (N : List Str) (vs : List V) : St := vs.map some ++ List.replicate (N.length - vs.length) none
def cxOf (CX : CXT) (P : Program) (w : World) (K : PySem.W.Frag) (mg : Str → Option Value) (base : Heap) (N : List Str) (qual : Str) (scope : Scope) (f : Addr) (cd : Value) (A : Around) (outer : List Env) (s : Shared) (H : Hp) (E : XK) : Cx where
  prog := P
  w := w
  K := K
  mg := mg
  base := base
  A := A.deeper (envOfC qual scope s.heap.objs.size f cd)
  N := N
  s₀ := s
  H₀ := H
  env := envOfC qual scope s.heap.objs.size f cd
  outer := outer
  stack := envOfC qual scope s.heap.objs.size f cd :: outer
  ex := []
  calm := true
  fn := fun _ => true
  pn := []
  xe := fun e s' => wpAny (model P w) (A.deeper (envOfC qual scope s.heap.objs.size f cd)) (leaving (envOfC qual scope s.heap.objs.size f cd) e) (fun _ s'' => CX outer H s E e s'') (fun e' s'' => CX outer H s E e' s'') s'
theorem cell_has {sc : Scope} {n : Nat} {x : Str} (h : sc.names.lookup x = some .cell) : ∃ c, (cellsFrom n sc.names []).lookup x = some c := by
  have q := PySem.W.cellsFrom_some sc.names n [] (.inl h)
  exact Option.isSome_iff_exists.mp q
theorem inv_start {CX : CXT} {P : Program} {w : World} {K : PySem.W.Frag} {mg : Str → Option Value} {base : Heap} {N ps : List Str} {qual : Str} {scope : Scope} {f : Addr} {cd : Value} {A : Around} {outer : List Env} {s s1 : Shared} {H : Hp} {E : XK} {us : List Value} {vs : List V}
    (S : FnScope N ps scope) (hd : A.handled = none) (e0 : Env0 P w K mg base A outer s H) (hl : vs.length = ps.length) (r : Vals vs us)
    (x : InCallC s s.heap.objs.size (bindL (envOfC qual scope s.heap.objs.size f cd).kindOf (ps.zip us) fun _ => none) (cellsFrom (s.heap.objs.size + 1) scope.names []) (bindC (envOfC qual scope s.heap.objs.size f cd).kindOf (ps.zip us) fun _ => none) s1) :
    Inv (cxOf CX P w K mg base N qual scope f cd A outer s H E) [] (start N vs) H s1 := by
  have hpl : ps.length ≤ N.length := by have := congrArg List.length S.pre; rw [List.length_take] at this; omega
  obtain ⟨h1, tk, rfl, hk⟩ := x.done
  have noA : ∀ b : Addr, b ∉ (cxOf CX P w K mg base N qual scope f cd A outer s H E).ex := fun b z => absurd (show b ∈ ([] : List Addr) from z) (by simp)
  refine ⟨⟨e0.mod, S.kind, rfl, rfl, Nat.le_refl _, fun y z c h1 h2 => ?_, fun y hy => ?_, fun y c _ h => ?_, fun _ => hd, Around.frames_deeper e0.frames, .inr ⟨rfl, rfl⟩, fun b z => absurd z (noA b), e0.bs, e0.bsz, fun b _ _ => noA b, fun b z => absurd z (noA b), e0.funs, e0.frf⟩,
    rfl, e0.bare, Un.kept hk, ⟨_, x.toInCall.ns, fun i y v h1 h2 h3 => ?_⟩, fun y c h => ⟨_, x.cell y c h⟩, e0.hok.fresh (Nat.le_refl _), fun y c h => ?_, fun p hp => absurd (show p ∈ ([] : List (Addr × Obj)) from hp) (by simp), e0.hok.kept hk, ?_⟩
  · exact name_of_addr x.apart (PySem.mem_of_lookup h1) (PySem.mem_of_lookup h2)
  · have hy : scope.names.lookup y = some .cell ∨ scope.names.lookup y = some .free := hy
    rcases hy with hy | hy
    · exact cell_has hy
    · exact absurd rfl (S.nofree _ (PySem.mem_of_lookup hy))
  · exact Nat.le_of_lt (x.above y c (PySem.mem_of_lookup h))
  · have hi : i < vs.length := by
      unfold start at h2
      by_cases hi : i < vs.length
      · exact hi
      · rw [List.getElem?_append_right (by simpa using hi)] at h2
        rw [List.getElem?_replicate] at h2
        split at h2 <;> cases h2
    have ha : vs[i]? = some v := by
      unfold start at h2
      rw [List.getElem?_append_left (by simpa using hi), List.getElem?_map] at h2
      cases e : vs[i]? with
      | none => rw [e] at h2; cases h2
      | some a => rw [e] at h2; cases h2; rfl
    obtain ⟨u, hu, rv⟩ := r.get ha
    have hp : ps[i]? = some y := by
      rw [← S.pre, List.getElem?_take_of_lt (by omega)]; exact h1
    have ndP : ps.Nodup := by rw [← S.pre]; exact S.nd.sublist (List.take_sublist _ _)
    refine ⟨u, rv, ?_⟩
    rcases S.par y (List.mem_of_getElem? hp) with k | k
    · exact .inl ⟨k, bindL_get ndP hp hu k⟩
    · obtain ⟨c, e⟩ := cell_has (n := s.heap.objs.size + 1) k
      refine .inr ⟨.inl k, c, e, ?_⟩
      have q := x.cell y c e
      rw [bindC_get ndP hp hu (by show scope.names.lookup y ≠ _; rw [k]; decide)] at q
      exact q
  · exact e0.hok.fresh (Nat.le_of_lt (x.above y c (PySem.mem_of_lookup h)))
  · unfold start
    show _ = N.length
    rw [List.length_append, List.length_map, List.length_replicate]
    omega
theorem fn_of {CX : CXT} {P : Program} {w : World} {K : PySem.W.Frag} {mg : Str → Option Value} {base : Heap} {k : Nat} {f : Addr} {name qual : Str} {params : Arguments} {body : List Stmt} {scope : Scope} {dV kV doc pm cdv ct oc : Value} {an od : Option Addr}
    {osl : Array (Option Value)} {N ps : List Str} {sp : Sp} (lk : K.lookup f = some ⟨oc, od, .func (PySem.W.fnOf name qual params body scope dV kV doc pm an cdv ct), osl⟩) (hcd : PySem.W.codeIn K cdv qual = true) (S : FnScope N ps scope)
    (len : ∀ vs H Q E, sp vs H Q E → vs.length = ps.length)
    (hbody : ∀ (A : Around) (outer : List Env) (s : Shared) (H : Hp) (vs : List V) (Q : VK) (E : XK), Room k (A.deeper (envOfC qual scope s.heap.objs.size f cdv)) → sp vs H Q E →
      ∃ t, PSs (cxOf CX P w K mg base N qual scope f cdv A outer s H E) body t ∧ t { nx := fun _ H' => Q .non H', rt := Q } (start N vs) H) :
    FnOk P w K mg base CX (k + 1) f (PySem.W.fnOf name qual params body scope dV kV doc pm an cdv ct) ps sp := by
  refine ⟨len, fun A outer s H args us vs Q E hr e0 hb r hsp => ?_⟩
  have hl := len _ _ _ _ hsp
  have KX : K.In s.heap := e0.mod.kin.keeps fun b o e => (e0.bs b o e).1
  have lim : s.heap.NoLimit := e0.mod.nolimit.keeps fun b o e => (e0.bs b o e).1
  have hkind : ∀ y ∈ ps.zip us, scope.names.lookup y.1 = some .local ∨ (scope.names.lookup y.1 = some .cell ∧ ((cellsFrom (s.heap.objs.size + 1) scope.names []).lookup y.1).isSome = true) := fun ⟨n, v⟩ hy => by
    rcases S.par n (List.of_mem_zip hy).1 with q | q
    · exact .inl q
    · exact .inr ⟨q, PySem.W.cellsFrom_some _ _ _ (.inl q)⟩
  refine codeAny_call_function hr.depth (KX _ _ lk) rfl S.co S.gen rfl (PySem.W.codeRec_of KX hcd) (hb _ _ _ _ ?_)
  refine wpAny_newFunctionEnv_cells S.kind hkind fun env he s1 x => ?_
  subst he
  refine ⟨lim.keeps x.toInCall.keep, codeAny_func ?_⟩
  obtain ⟨t, ht, hq⟩ := hbody A outer s H vs Q E (hr.deeper _) hsp
  have I : Inv (cxOf CX P w K mg base N qual scope f cdv A outer s H E) [] (start N vs) H s1 := inv_start S hr.hd e0 hl r x
  refine wpAny_mono (ht [] s1 (start N vs) H _ I hq) (fun fl s' hs => ?_) fun e s' hs => hs
  have fin : ∀ {σ' : St} {H' : Hp} {v : V} {u : Value}, Inv (cxOf CX P w K mg base N qual scope f cdv A outer s H E) [] σ' H' s' → RelV v u → Q v H' → CE outer P w H s Q u s' :=
    fun {σ' H' v u} J rv q => ⟨v, H', J.os, J.bare, J.base, J.hok, rv, q⟩
  cases fl with
  | ret u =>
    obtain ⟨v, σ', H', J, rv, q⟩ := hs
    exact fin J rv q
  | next =>
    obtain ⟨σ', H', J, q⟩ := hs
    exact fin (v := V.non) (u := Value.none) J rfl q
  | brk =>
    obtain ⟨_, _, _, q⟩ := hs
    exact False.elim q
  | cont =>
    obtain ⟨_, _, _, q⟩ := hs
    exact False.elim q
end L2
namespace L2
open PySem PySem.Spec PyProof.Rows
section
variable {X : Cx} {x : Str} {p pos : Pos} {e : Expr} {es : List Expr} {t : TA} {id T : String} {r : List V → Hp → VK → Prop}
def tCB (r : List V → Hp → VK → Prop) (t : TA) : TE := fun σ H Q => t σ H fun vs H1 => r vs H1 Q
theorem pe_callB (hc : CallR X (.builtin id) r) (hg : Gl X x) (hm : X.mg x = none) (hv : bootBuiltins x = some (.builtin id)) (ha : PA X (e :: es) t) (hn : x ≠ "__name__" := by decide) (hdb : (x == ("__debug__" : Str)) = false := by decide)
    (he : starEach (e :: es) X.env = (false, eval e X.env) :: starEach es X.env := by rfl) (hpl : (backTo pos (starEach es X.env)).any (·.1) = false := by rfl) : PE X (.Call (.Name x p) (e :: es) [] pos) (tCB r t) := by
  intro pins s σ H Q I h
  refine wpAny_Call_Name_kw (ld_blt I hg hm hv ?_ hn hdb)
  exact PyProof.Rows.callWith_builtin1 (thn (ha pos pins s σ H _ I h) fun us s1 ⟨vs, H1, I1, r1, q1⟩ => hc pins s1 σ H1 vs us Q I1 r1 q1) he hpl
theorem pe_callTy (hc : CallR X (.type T) r) (hg : Gl X x) (hm : X.mg x = none) (hv : bootBuiltins x = some (.type T)) (ha : PA X (e :: es) t) (hn : x ≠ "__name__" := by decide) (hdb : (x == ("__debug__" : Str)) = false := by decide)
    (he : starEach (e :: es) X.env = (false, eval e X.env) :: starEach es X.env := by rfl) (hpl : (backTo pos (starEach es X.env)).any (·.1) = false := by rfl) : PE X (.Call (.Name x p) (e :: es) [] pos) (tCB r t) := by
  intro pins s σ H Q I h
  refine wpAny_Call_Name_kw (ld_blt I hg hm hv ?_ hn hdb)
  exact PyProof.Rows.callWith_type1 (thn (ha pos pins s σ H _ I h) fun us s1 ⟨vs, H1, I1, r1, q1⟩ => hc pins s1 σ H1 vs us Q I1 r1 q1) he hpl
end
end L2
namespace HT
open PySem PyProof.Rows
section
open PySem.SeqAt
open PySem.AutoSeq1 (wpAny_loadPart')
open PySem.MeetsSeq PySem.MeetsSeq2 PySem.MeetsSeq3
end
section
variable {prog : Program} {w : World} {A : Around} {E : Value → Shared → Prop} {s : Shared}
theorem cat_tup {t b : Addr} {vs ws : List Value} {Q : Value → Shared → Prop} (ht : IsTup s.heap t vs.toArray) (hb : IsTup s.heap b ws.toArray) (hv : vs ≠ [])
    (h1 : ws = [] → Q (.ref t) s) (h2 : ws ≠ [] → Q (.ref s.heap.objs.size) { s with heap := s.heap.push { cls := .type "tuple", data := .seq (vs ++ ws).toArray } })
    (hsz : vs.length + ws.length ≤ sizeLine) : wpAny (model prog w) A (binaryOp .Add (.ref t) (.ref b)) Q E s := by
  obtain ⟨⟨cls, dd, data, sl⟩, ho, hc, n, hd⟩ := id ht
  obtain ⟨⟨cls2, dd2, data2, sl2⟩, ho2, hc2, n2, hd2⟩ := id hb
  simp only at hc hd hc2 hd2
  subst hc hd hc2 hd2
  have e : vs.toArray ++ ws.toArray = (vs ++ ws).toArray := by simp
  by_cases hw : ws = []
  · exact concat_meets ⟨_, ho, rfl⟩ ⟨_, ho2, rfl⟩ noFill_tuple_add seq_tuple_add PySem.F.slot_tuple_add PySem.F.entry_tuple_add (PySem.F.args_tuple_add_2 _ _)
      (tuple_addW1 t b vs.toArray ws.toArray n n2 dd dd2 sl sl2 (by simpa using hv) (by simp [hw])) ⟨ho, ho2, h1 hw⟩
  · refine concat_meets ⟨_, ho, rfl⟩ ⟨_, ho2, rfl⟩ noFill_tuple_add seq_tuple_add PySem.F.slot_tuple_add PySem.F.entry_tuple_add (PySem.F.args_tuple_add_2 _ _)
      (tuple_addW2 t b vs.toArray ws.toArray n n2 dd dd2 sl sl2 (by simpa using hv) (by simpa using hw) (by rw [List.size_toArray, List.size_toArray]; exact hsz)) ⟨ho, ho2, ?_⟩
    rw [e]
    exact h2 hw
def sIx (n d : Nat) : Option Int → Nat
  | none => d
  | some v => if v < 0 then (v + (n : Int)).toNat else min v.toNat n
theorem sIx_none (n d : Nat) : sIx n d none = d := rfl
theorem sIx_nat (n d k : Nat) : sIx n d (some (k : Int)) = min k n := by
  show (if (k : Int) < 0 then ((k : Int) + (n : Int)).toNat else min (k : Int).toNat n) = min k n
  rw [if_neg (by omega), Int.toNat_natCast]
theorem sIx_le (n d : Nat) (hd : d ≤ n) (o : Option Int) : sIx n d o ≤ n := by
  cases o with
  | none => exact hd
  | some v =>
    show (if v < 0 then (v + (n : Int)).toNat else min v.toNat n) ≤ n
    by_cases hv : v < 0
    · rw [if_pos hv]; omega
    · rw [if_neg hv]; exact Nat.min_le_right _ _
theorem clip_eq (v : Int) (n d : Nat) : (if v < 0 then max (v + (n : Int)) 0 else min v (n : Int)) = ((sIx n d (some v) : Nat) : Int) := by
  show (if v < 0 then max (v + (n : Int)) 0 else min v (n : Int)) = (((if v < 0 then (v + (n : Int)).toNat else min v.toNat n) : Nat) : Int)
  by_cases hv : v < 0
  · simp only [if_pos hv]; omega
  · simp only [if_neg hv]; omega
theorem adjust_gen (lo hi : Option Int) (n : Nat) : Builtin.Slice.sliceAdjust lo hi 1 (n : Int) = (((sIx n 0 lo : Nat) : Int), ((sIx n n hi : Nat) : Int)) := by
  have h1 : ¬ ((1 : Int) < 0) := by omega
  unfold Builtin.Slice.sliceAdjust
  simp only [h1, if_false]
  refine Prod.ext ?_ ?_
  · cases lo with
    | none => rfl
    | some v => exact clip_eq v n 0
  · cases hi with
    | none => rfl
    | some v => exact clip_eq v n n
theorem places_gen (i j : Nat) : Builtin.Slice.slicePlaces (i : Int) (j : Int) 1 = j - i := by
  unfold Builtin.Slice.slicePlaces
  have h1 : (1 : Int) > 0 := by omega
  simp only [h1, if_true, Int.ediv_one]
  split <;> omega
theorem slicePart_ {v : Value} {o : Option Int} {Q : Option Int → Shared → Prop} (p : IsPart v o) (h : Q o s) : wpAny (model prog w) A (Builtin.Slice.slicePartIndex v) Q E s := by
  cases p with
  | none => exact slicePart_none h
  | int i t => exact slicePart_int h
theorem sliceApplied_gen {sl : Addr} {vl vu : Value} {lo hi : Option Int} {n : Nat} {Q : Int × Int × Nat → Shared → Prop} (hs : s.heap.IsSliceOf sl vl vu .none) (pl : IsPart vl lo) (pu : IsPart vu hi)
    (h : Q (((sIx n 0 lo : Nat) : Int), 1, sIx n n hi - sIx n 0 lo) s) : wpAny (model prog w) A (Builtin.Slice.sliceApplied (.ref sl) (pure (n : Int))) Q E s := by
  obtain ⟨os, hos, hcs, hds⟩ := id hs
  unfold Builtin.Slice.sliceApplied Builtin.Slice.sliceFields
  refine wpAny_bind (wpAny_bind (wpAny_field hos hds (x := vl) rfl (wpAny_bind (wpAny_field hos hds (x := vu) rfl (wpAny_bind (wpAny_field hos hds (x := .none) rfl (wpAny_pure ?_)))))))
  refine wpAny_bind (slicePart_none ?_)
  show wpAny _ _ (if ((1 : Int) == 0) = true then _ else _) _ _ s
  rw [if_neg (by decide)]
  refine wpAny_bind (slicePart_ pl (wpAny_bind (slicePart_ pu (wpAny_bind (wpAny_pure ?_)))))
  show wpAny _ _ (match Builtin.Slice.sliceAdjust lo hi 1 (n : Int) with | (lo, hi) => pure (lo, (1 : Int), Builtin.Slice.slicePlaces lo hi 1)) _ _ s
  rw [adjust_gen lo hi n]
  show wpAny _ _ (pure (((sIx n 0 lo : Nat) : Int), (1 : Int), Builtin.Slice.slicePlaces ((sIx n 0 lo : Nat) : Int) ((sIx n n hi : Nat) : Int) 1)) _ _ s
  rw [places_gen]
  exact wpAny_pure h
theorem pick_gen (xs : Array Value) (i k : Nat) : ((List.range k).filterMap fun (m : Nat) => xs[((i : Int) + (m : Int) * 1).toNat]?).toArray = ((xs.toList.drop i).take k).toArray := by
  have e : (fun (m : Nat) => xs[((i : Int) + (m : Int) * 1).toNat]?) = fun m => xs[i + m]? := by
    funext m
    have : ((i : Int) + (m : Int) * 1).toNat = i + m := by omega
    rw [this]
  rw [e]
  have := pick_run xs i k
  rw [List.filterMap_map] at this
  have e2 : ((fun x => xs[x]?) ∘ fun x => i + x) = fun m => xs[i + m]? := rfl
  rw [e2] at this
  rw [this]
theorem getItem_tuple_cut {t sl : Addr} {items : Array Value} {vl vu : Value} {lo hi : Option Int} {Q : Value → Shared → Prop} (ht : IsTup s.heap t items) (hs : s.heap.IsSliceOf sl vl vu .none) (pl : IsPart vl lo) (pu : IsPart vu hi)
    (hw : ¬ (sIx items.size 0 lo = 0 ∧ sIx items.size items.size hi = items.size))
    (h : Q (.ref s.heap.objs.size) { s with heap := s.heap.push { cls := .type "tuple", data := .seq ((items.toList.drop (sIx items.size 0 lo)).take (sIx items.size items.size hi - sIx items.size 0 lo)).toArray } })
    (hsz : items.size ≤ sizeLine) : wpAny (model prog w) A (getItem (.ref t) (.ref sl)) Q E s := by
  have htake : sizeOk (.seq ((items.toList.drop (sIx items.size 0 lo)).take (sIx items.size items.size hi - sIx items.size 0 lo)).toArray) := by
    show ((items.toList.drop (sIx items.size 0 lo)).take (sIx items.size items.size hi - sIx items.size 0 lo)).toArray.size ≤ sizeLine
    rw [List.size_toArray, List.length_take, List.length_drop, Array.length_toList]
    omega
  have hj : sIx items.size items.size hi ≤ items.size := sIx_le _ _ (Nat.le_refl _) hi
  obtain ⟨os, hos, hcs, hds⟩ := id hs
  have hTs : s.TypeIs (.ref sl) "slice" := ⟨os, hos, hcs⟩
  unfold getItem
  try with_reducible refine wpAny_holding ?_
  first | refine wpAny_bind (wpAny_pure ?_) | skip
  refine wpAny_bind (wpAny_sequenceKey ht.typeIs (by decide) ?_)
  refine wpAny_bind (wpAny_callSpecial?_slot (name := Str.ofString "__getitem__") ht.typeIs PyProof.Rows.slot_tuple_getitem
    (wpAny_call_entry PyProof.Rows.slot_tuple_getitem ht.typeIs entry_tuple_getitem ?_ (args_tuple_getitem _ _)))
  show wpAny _ _ (Builtin.Tuple.tupleItemsOf (.ref t) >>= _) _ _ s
  refine wpAny_bind (tupleItemsOf_ ht ?_)
  refine wpAny_bind (wpAny_typeOf hTs ?_)
  rw [if_pos (by decide)]
  refine wpAny_bind (sliceApplied_gen hs pl pu ?_)
  have hno : ¬ ((((sIx items.size 0 lo : Nat) : Int) == 0 && (1 : Int) == 1 && (sIx items.size items.size hi - sIx items.size 0 lo) == items.size) = true) := by
    intro q
    rw [Bool.and_eq_true, Bool.and_eq_true] at q
    have q1 : ((sIx items.size 0 lo : Nat) : Int) = 0 := eq_of_beq q.1.1
    have q2 : sIx items.size items.size hi - sIx items.size 0 lo = items.size := eq_of_beq q.2
    exact hw ⟨by omega, by omega⟩
  show wpAny _ _ (if (((sIx items.size 0 lo : Nat) : Int) == 0 && (1 : Int) == 1 && (sIx items.size items.size hi - sIx items.size 0 lo) == items.size) = true then _ else _) _ _ s
  rw [if_neg hno, pick_gen]
  first
    | exact wpAny_bind (m := Builtin.Tuple.tupleExact _) (wpAny_newObj_type (wpAny_pure ⟨_, rfl, wpAny_pure h⟩) htake)
    | exact wpAny_bind (m := Builtin.Tuple.tupleExact _) (wpAny_newObj_type (wpAny_bind (wpAny_pure (wpAny_pure ⟨_, rfl, wpAny_pure h⟩))) htake)
    | exact wpAny_bind (wpAny_bind (m := Builtin.Tuple.tupleExact _) (wpAny_newObj_type (wpAny_pure (wpAny_pure ⟨_, rfl, wpAny_pure h⟩)) htake))
    | exact wpAny_bind (wpAny_bind (m := Builtin.Tuple.tupleExact _) (wpAny_newObj_type (wpAny_pure ⟨_, rfl, wpAny_pure h⟩) htake))
end
end HT
namespace L2
open PySem PySem.Spec PyProof.Rows
abbrev TO := St → Hp → (Option Int → Hp → Prop) → Prop
def PO (X : Cx) (e : Option Expr) (t : TO) : Prop :=
  ∀ (pins : List (Addr × Obj)) (s : Shared) (σ : St) (H : Hp) (Q : Option Int → Hp → Prop), Inv X pins σ H s → t σ H Q →
    wpAny (model X.prog X.w) X.A (evalPart e X.env) (fun u s' => ∃ o H', Inv X pins σ H' s' ∧ IsPart u o ∧ Q o H') X.xe s
def tNoPart : TO := fun _ H Q => Q none H
def tPart (t : TE) : TO := fun σ H Q => t σ H fun x H1 => ∃ i, x = .int i ∧ Q (some i) H1
section
variable {X : Cx} {e : Expr} {te : TE} {lo hi : Option Expr} {tl th : TO} {pos p2 : Pos}
theorem po_none : PO X none tNoPart := by
  intro pins s σ H Q I h
  rw [evalPart_none]
  exact wpAny_pure ⟨none, H, I, .none, h⟩
theorem po_some (h : PE X e te) : PO X (some e) (tPart te) := by
  intro pins s σ H Q I hw
  rw [evalPart_some]
  refine thn (h pins s σ H _ I hw) fun u s1 ⟨x, H1, I1, r1, q1⟩ => ?_
  obtain ⟨i, rfl, q⟩ := q1
  obtain ⟨t, rfl⟩ := r1
  exact ⟨some i, H1, I1, .int i t, q⟩
def SlR (X : Cx) (r : V → Option Int → Option Int → Hp → VK → Prop) : Prop :=
  ∀ (pins : List (Addr × Obj)) (s : Shared) (σ : St) (H : Hp) (x : V) (v vl vu : Value) (lo hi : Option Int) (sl : Addr) (Q : VK), Inv X pins σ H s → RelV x v → s.heap.IsSliceOf sl vl vu .none → IsPart vl lo → IsPart vu hi → r x lo hi H Q →
    ∃ T id, typeLookup (.type T) "__getitem__" = pure (some (.builtin id)) ∧ s.TypeIs v T ∧ wpAny (model X.prog X.w) X.A (getItem v (.ref sl)) (EP X pins σ Q) X.xe s
def tSl (r : V → Option Int → Option Int → Hp → VK → Prop) (te : TE) (tl th : TO) : TE := fun σ H Q => te σ H fun x H1 => tl σ H1 fun l H2 => th σ H2 fun u H3 => r x l u H3 Q
theorem pe_slice {r : V → Option Int → Option Int → Hp → VK → Prop} (hr : SlR X r) (he : PE X e te) (hl : PO X lo tl) (hu : PO X hi th) : PE X (.Subscript e (.Slice lo hi none p2) pos) (tSl r te tl th) := by
  intro pins s σ H Q I h
  refine Subscript_ (thn (he pins s σ H _ I h) fun v s1 ⟨x, H1, I1, r1, q1⟩ => ?_)
  refine wpAny_Slice (thn (hl pins s1 σ H1 _ I1 q1) fun vl s2 ⟨l, H2, I2, pl, q2⟩ => thn (hu pins s2 σ H2 _ I2 q2) fun vu s3 ⟨u, H3, I3, pu, q3⟩ => ?_)
  rw [evalPart_none]
  refine wpAny_pure ?_
  have I4 : Inv X pins σ H3 { s3 with heap := s3.heap.push { cls := .type "slice", data := .fields #[vl, vu, .none] } } := I3.kept (t' := s3.toks) fun b ob q => Heap.get?_push_of_some _ q
  obtain ⟨T, id, hT, ht, hg⟩ := hr pins { s3 with heap := s3.heap.push { cls := .type "slice", data := .fields #[vl, vu, .none] } } σ H3 x v vl vu l u s3.heap.objs.size Q I4 r1 (Heap.IsSliceOf.new ..) pl pu q3
  show wpAny (model X.prog X.w) X.A (subscriptTail e (.Slice lo hi none p2) v (.ref s3.heap.objs.size)) (EP X pins σ Q) X.xe { s3 with heap := s3.heap.push { cls := .type "slice", data := .fields #[vl, vu, .none] } }
  exact tail_any (ops := [.ref s3.heap.objs.size, v]) ht hT hg (by with_unfolding_all rfl)
def cutV (xs : List V) (lo hi : Option Int) : List V := (xs.drop (HT.sIx xs.length 0 lo)).take (HT.sIx xs.length xs.length hi - HT.sIx xs.length 0 lo)
theorem cutV_length (xs : List V) (lo hi : Option Int) : (cutV xs lo hi).length ≤ xs.length := by
  unfold cutV
  rw [List.length_take, List.length_drop]
  omega
def rSlT (K : PySem.W.Frag) : V → Option Int → Option Int → Hp → VK → Prop := fun x lo hi H Q => ∃ a xs, x = .ref a ∧ SqT K H a xs ∧
  ¬ (HT.sIx xs.length 0 lo = 0 ∧ HT.sIx xs.length xs.length hi = xs.length) ∧ ∀ p, H p = none → Q (.ref p) (upd H p (.tup (cutV xs lo hi)))
theorem sl_tup : SlR X (rSlT X.K) := by
  intro pins s σ H x v vl vu lo hi sl Q I rx hs pl pu h
  obtain ⟨a, xs, rfl, hx, hw, q⟩ := h
  cases rx
  obtain ⟨its, r, ht, hz⟩ := I.tuple hx
  have hlen : its.toArray.size = xs.length := by rw [List.size_toArray]; exact r.length.symm
  refine ⟨"tuple", _, PyProof.Rows.slot_tuple_getitem.lookup, ht.typeIs, ?_⟩
  refine HT.getItem_tuple_cut ht hs pl pu (by rw [hlen]; exact hw) ?_ (by rw [hlen]; exact hz)
  rw [hlen]
  refine ⟨.ref s.heap.objs.size, _, I.laid (t' := s.toks) (o := .tup (cutV xs lo hi)) (fun b ob q => Heap.get?_push_of_some _ q) (Nat.le_refl _) ?_, rfl, q _ (I.hok.fresh (Nat.le_refl _))⟩
  exact ⟨Nat.le_trans (cutV_length xs lo hi) hz, _, (r.drop (HT.sIx xs.length 0 lo)).take (HT.sIx xs.length xs.length hi - HT.sIx xs.length 0 lo), IsTup.new _ _⟩
def rCatT (K : PySem.W.Frag) : R2 := fun x y H Q => ∃ a b xs ys, x = .ref a ∧ y = .ref b ∧ SqT K H a xs ∧ SqT K H b ys ∧ xs ≠ [] ∧ xs.length + ys.length ≤ sizeLine ∧
  (ys = [] → Q (.ref a) H) ∧ (ys ≠ [] → ∀ p, H p = none → Q (.ref p) (upd H p (.tup (xs ++ ys))))
theorem Vals.nil_iff {xs : List V} {us : List Value} (r : Vals xs us) : us = [] ↔ xs = [] := by
  cases r with
  | nil => simp
  | cons _ _ => simp
theorem op_catT : OpR X (binaryOp .Add) (rCatT X.K) := by
  intro pins s σ H x y v u Q I rx ry h
  obtain ⟨a, b, xs, ys, rfl, rfl, ha, hb, hx, hz, q1, q2⟩ := h
  cases rx
  cases ry
  obtain ⟨its, r1, p1, _⟩ := I.tuple ha
  obtain ⟨its2, r2, p2, _⟩ := I.tuple hb
  refine HT.cat_tup p1 p2 (fun z => hx (r1.nil_iff.mp z)) (fun z => ⟨.ref a, H, I, rfl, q1 (r2.nil_iff.mp z)⟩) (fun z => ?_) (by rw [← r1.length, ← r2.length]; exact hz)
  refine ⟨.ref s.heap.objs.size, _, I.laid (t' := s.toks) (o := .tup (xs ++ ys)) (fun b ob q => Heap.get?_push_of_some _ q) (Nat.le_refl _) ?_, rfl, q2 (fun w => z (r2.nil_iff.mpr w)) _ (I.hok.fresh (Nat.le_refl _))⟩
  exact ⟨by rw [List.length_append]; exact hz, _, r1.append r2, IsTup.new _ _⟩
end
end L2
namespace L2
open PySem PySem.Spec PyProof.Rows
def ixN (n : Nat) (i : Int) : Option Nat := if 0 ≤ i then (if i < n then some i.toNat else none) else if -(n : Int) ≤ i then some (i + n).toNat else none
def atI {α : Type} (xs : List α) (i : Int) : Option α := (ixN xs.length i).bind fun j => xs[j]?
theorem ixN_seq {n : Nat} {i : Int} {j : Nat} (h : ixN n i = some j) : seqIndex? i n = some j ∧ j < n ∧ -(n : Int) ≤ i ∧ i < n := by
  unfold ixN at h
  by_cases h0 : 0 ≤ i
  · rw [if_pos h0] at h
    by_cases h1 : i < n
    · rw [if_pos h1] at h
      have e : i.toNat = j := Option.some.inj h
      exact ⟨by rw [seqIndex_of h0 h1, e], by omega, by omega, h1⟩
    · rw [if_neg h1] at h; cases h
  · rw [if_neg h0] at h
    by_cases h1 : -(n : Int) ≤ i
    · rw [if_pos h1] at h
      have e : (i + n).toNat = j := Option.some.inj h
      exact ⟨by rw [seqIndex_neg (by omega) h1, e], by omega, h1, by omega⟩
    · rw [if_neg h1] at h; cases h
theorem atI_get {α : Type} {xs : List α} {i : Int} {v : α} (h : atI xs i = some v) : ∃ j, seqIndex? i xs.length = some j ∧ xs[j]? = some v ∧ j < xs.length ∧ -(xs.length : Int) ≤ i ∧ i < xs.length := by
  unfold atI at h
  cases e : ixN xs.length i with
  | none => rw [e] at h; cases h
  | some j =>
    rw [e] at h
    obtain ⟨h1, h2, h3, h4⟩ := ixN_seq e
    exact ⟨j, h1, h, h2, h3, h4⟩
theorem atI_nat {α : Type} {xs : List α} {j : Nat} {v : α} (h : xs[j]? = some v) : atI xs (j : Int) = some v := by
  have hj : j < xs.length := (List.getElem?_eq_some_iff.mp h).1
  have e : ixN xs.length (j : Int) = some j := by
    unfold ixN
    rw [if_pos (by omega), if_pos (by omega)]; simp
  unfold atI; rw [e]; exact h
def PlainIx (b : Expr) : Prop := ∀ o i, subscripted b false o i = operate [o, i] (getItem o i)
def IxR (X : Cx) (r : R2) : Prop :=
  ∀ (value slice : Expr) (pins : List (Addr × Obj)) (s : Shared) (σ : St) (H : Hp) (x y : V) (v u : Value) (Q : VK), Inv X pins σ H s → RelV x v → RelV y u → r x y H Q →
    subscripted slice false v u = operate [v, u] (getItem v u) → wpAny (model X.prog X.w) X.A (subscriptTail value slice v u) (EP X pins σ Q) X.xe s
def MtR (X : Cx) (id : String) (r : V → List V → Hp → VK → Prop) : Prop :=
  ∀ (pins : List (Addr × Obj)) (s : Shared) (σ : St) (H : Hp) (x : V) (xs : List V) (v : Value) (us : List Value) (Q : VK), Inv X pins σ H s → RelV x v → Vals xs us → r x xs H Q →
    wpAny (model X.prog X.w) X.A (call (.builtin id) (v :: us)) (EP X pins σ Q) X.xe s
section
variable {X : Cx} {a b : Expr} {ta tb : TE} {pos : Pos}
theorem pe_ix {r : R2} (hr : IxR X r) (ha : PE X a ta) (hb : PE X b tb) (hs : PlainIx b) : PE X (.Subscript a b pos) (tOp r ta tb) := by
  intro pins s σ H Q I h
  exact Subscript_ (binT ha hb I h fun v u s2 x y H2 I2 rx ry q => hr a b pins s2 σ H2 x y v u Q I2 rx ry q (hs _ _))
def rIxL (K : PySem.W.Frag) : R2 := fun x y H Q => ∃ p xs i v, x = .ref p ∧ y = .int i ∧ SqL K H p xs ∧ atI xs i = some v ∧ Q v H
def rIxT (K : PySem.W.Frag) : R2 := fun x y H Q => ∃ p xs i v, x = .ref p ∧ y = .int i ∧ SqT K H p xs ∧ atI xs i = some v ∧ Q v H
def rIxS : R2 := fun x y H Q => ∃ z i c, x = .str z ∧ y = .int i ∧ z.length ≤ sizeLine ∧ atI z.cps.toList i = some c ∧ Q (.str ⟨#[c]⟩) H
theorem ix_list : IxR X (rIxL X.K) := by
  intro value slice pins s σ H x y v u Q I rx ry h hs
  obtain ⟨p, xs, i, z, rfl, rfl, hq, he, q⟩ := h
  cases rx
  obtain ⟨t, rfl⟩ := ry
  obtain ⟨its, r, pl, hz⟩ := I.list hq
  obtain ⟨j, h1, h2, h3, h4, h5⟩ := atI_get he
  obtain ⟨w, ew, rw'⟩ := r.get h2
  have hl := r.length
  have hn := line63
  have fin : EP X pins σ Q w s := ⟨z, H, I, rw', q⟩
  by_cases h0 : 0 ≤ i
  · have hj : i.toNat = j := by
      rw [seqIndex_of h0 h5] at h1
      exact Option.some.inj h1
    exact item_listR pl.isList h0 (by omega) (by rw [hj]; simpa using ew) fin hs
  · have hj : (i + (its.toArray.size : Int)).toNat = j := by
      rw [seqIndex_neg (by omega) h4] at h1
      rw [List.size_toArray, ← hl]
      exact Option.some.inj h1
    exact subscriptTail_builtinR (x := w) pl.isList.typeIs slot_list_getitem.lookup
      (wpAny_getItem_list_neg (Q := fun r s' => r = w ∧ EP X pins σ Q r s') pl.isList (by omega) (by rw [List.size_toArray] <;> omega) (by omega) (by rw [hj]; simpa using ew) ⟨rfl, fin⟩) hs
theorem ix_tup : IxR X (rIxT X.K) := by
  intro value slice pins s σ H x y v u Q I rx ry h hs
  obtain ⟨p, xs, i, z, rfl, rfl, hq, he, q⟩ := h
  cases rx
  obtain ⟨t, rfl⟩ := ry
  obtain ⟨its, r, pl, hz⟩ := I.tuple hq
  obtain ⟨j, h1, h2, h3, h4, h5⟩ := atI_get he
  obtain ⟨w, ew, rw'⟩ := r.get h2
  have hl := r.length
  have hn := line63
  have fin : EP X pins σ Q w s := ⟨z, H, I, rw', q⟩
  exact subscriptTail_builtinR (x := w) pl.typeIs slot_tuple_getitem.lookup
    (getItem_tuple (j := j) (Q := fun r s' => r = w ∧ EP X pins σ Q r s') pl (by omega) (by omega) (by rw [List.size_toArray, ← hl]; exact h1) (by simpa using ew) ⟨rfl, fin⟩) hs
theorem ix_str : IxR X rIxS := by
  intro value slice pins s σ H x y v u Q I rx ry h hs
  obtain ⟨z, i, c, rfl, rfl, hz, he, q⟩ := h
  obtain ⟨t, rfl⟩ := rx
  obtain ⟨t', rfl⟩ := ry
  obtain ⟨j, h1, h2, h3, h4, h5⟩ := atI_get he
  have hl : z.cps.toList.length = z.length := by simp [Str.length]
  rw [hl] at h1 h4 h5
  have hn := line63
  exact tail_any (typeIs_str s z t) slot_str_getitem.lookup (getItem_str (c := c) (by
    have e1 : decide (i < -(2 ^ 63 : Int)) = false := decide_eq_false (by omega)
    have e2 : decide (i ≥ 2 ^ 63) = false := decide_eq_false (by omega)
    rw [e1, e2, Bool.or_false]) (by rw [h1]; simpa using h2) ⟨.str ⟨#[c]⟩, H, I.tok _, ⟨_, rfl⟩, q⟩) hs
theorem slice_bounds (lo hi : Option Int) (n : Nat) : (sliceBounds lo hi none n).1 = ((HT.sIx n 0 lo : Nat) : Int) ∧ (sliceBounds lo hi none n).2.1 = ((HT.sIx n n hi : Nat) : Int) ∧ (sliceBounds lo hi none n).2.2 = 1 := by
  refine ⟨?_, ?_, rfl⟩
  · cases lo with
    | none => simp [sliceBounds, HT.sIx]
    | some i =>
      simp only [sliceBounds, HT.sIx, Option.getD_none, show (1 : Int) > 0 by decide, if_true]
      by_cases h : i < 0
      · simp only [h, if_true] <;> omega
      · simp only [h, if_false] <;> omega
  · cases hi with
    | none => simp [sliceBounds, HT.sIx]
    | some i =>
      simp only [sliceBounds, HT.sIx, Option.getD_none, show (1 : Int) > 0 by decide, if_true]
      by_cases h : i < 0
      · simp only [h, if_true] <;> omega
      · simp only [h, if_false] <;> omega
theorem slicePick_cut (its : List Value) (lo hi : Option Int) : slicePick its.toArray lo hi none = ((its.drop (HT.sIx its.length 0 lo)).take (HT.sIx its.length its.length hi - HT.sIx its.length 0 lo)).toArray := by
  obtain ⟨h1, h2, h3⟩ := slice_bounds lo hi its.toArray.size
  unfold slicePick
  rw [h1, h2, h3]
  simp only [sliceRange_one, pick_run, List.size_toArray] <;> rfl
def rSlL (K : PySem.W.Frag) : V → Option Int → Option Int → Hp → VK → Prop := fun x lo hi H Q => ∃ a xs, x = .ref a ∧ SqL K H a xs ∧ ∀ p, H p = none → Q (.ref p) (upd H p (.lst (cutV xs lo hi)))
theorem sl_list : SlR X (rSlL X.K) := by
  intro pins s σ H x v vl vu lo hi sl Q I rx hs pl pu h
  obtain ⟨a, xs, rfl, hx, q⟩ := h
  cases rx
  obtain ⟨its, r, ht, hz⟩ := I.list hx
  have hlen := r.length
  refine ⟨"list", _, slot_list_getitem.lookup, ht.isList.typeIs, ?_⟩
  refine wpAny_getItem_list_slice ht.isList hs pl pu .none (by simp) ?_ (by rw [List.size_toArray] <;> omega)
  rw [slicePick_cut, ← hlen]
  refine ⟨.ref s.heap.objs.size, _, I.laid (t' := s.toks) (o := .lst (cutV xs lo hi)) (fun b ob q => Heap.get?_push_of_some _ q) (Nat.le_refl _) ?_, rfl, q _ (I.hok.fresh (Nat.le_refl _))⟩
  exact ⟨Nat.le_trans (cutV_length xs lo hi) hz, _, 0, (r.drop (HT.sIx xs.length 0 lo)).take (HT.sIx xs.length xs.length hi - HT.sIx xs.length 0 lo), Heap.get?_push_size _ rfl⟩
theorem call_tuple_of : CallR X (.type "tuple") (fun xs H Q => ∃ p ys, xs = [.ref p] ∧ ((SqL X.K H p ys ∧ ∀ l, H l = none → Q (.ref l) (upd H l (.tup ys))) ∨ (SqT X.K H p ys ∧ Q (.ref p) H))) := by
  intro pins s σ H xs us Q I r h
  obtain ⟨p, ys, rfl, h⟩ := h
  obtain ⟨u, rfl, rx⟩ := vals1 r
  cases rx
  rcases h with ⟨hq, q⟩ | ⟨hq, q⟩
  · obtain ⟨its, r', pl, hz⟩ := I.list hq
    have hlen := r'.length
    refine call_tuple_list pl.isList (fun h' kp => ?_) (by simp only [List.size_toArray] <;> omega)
    have I1 : Inv X pins σ H { s with heap := h' } := I.kept (t' := s.toks) kp
    have I2 : Inv X pins σ (upd H h'.objs.size (.tup ys)) { s with heap := h'.push { cls := .type "tuple", data := .seq its.toArray } } :=
      I1.laid (t' := s.toks) (fun b o e => Heap.get?_push_of_some _ e) (Nat.le_refl _) (show ObjOk X.prog X.w _ _ _ (.tup ys) from ⟨hz, its, r', IsTup.new _ _⟩)
    exact ⟨.ref h'.objs.size, _, I2, rfl, q _ (I1.hok.fresh (Nat.le_refl _))⟩
  · obtain ⟨its, r', pl, hz⟩ := I.tuple hq
    exact call_tuple_same pl ⟨.ref p, H, I, rfl, q⟩
def tyV (K : PySem.W.Frag) (T : String) (x : V) (H : Hp) : Prop := match x with
  | .str _ => T = "str"
  | .int _ => T = "int"
  | .ref p => (T = "list" ∧ ∃ xs, SqL K H p xs) ∨ (T = "tuple" ∧ ∃ o, K.lookup p = some o ∧ o.cls = .type "tuple" ∧ o.dict = none) ∨
      (T = "dict" ∧ ((∃ kvs, H p = some (.dK kvs)) ∨ ∃ kvs, H p = some (.dT kvs))) ∨ (T = "set" ∧ ∃ S n, H p = some (.set S n))
  | _ => False
theorem tyV_is {pins : List (Addr × Obj)} {σ : St} {H : Hp} {s : Shared} {T : String} {x : V} {v : Value} (I : Inv X pins σ H s) (r : RelV x v) (ty : tyV X.K T x H) :
    s.TypeIs v T ∧ ∀ a, v = .ref a → ∃ ob, s.heap.get? a = some ob ∧ ob.dict = none := by
  cases x with
  | str z =>
    obtain ⟨t, rfl⟩ := r
    cases (show T = "str" from ty)
    exact ⟨typeIs_str s z t, fun _ e => nomatch e⟩
  | int i =>
    obtain ⟨t, rfl⟩ := r
    cases (show T = "int" from ty)
    exact ⟨typeIs_int s i t, fun _ e => nomatch e⟩
  | ref p =>
    cases r
    rcases ty with ⟨rfl, xs, hq⟩ | ⟨rfl, o, hk, hc, hd⟩ | ⟨rfl, hk⟩ | ⟨rfl, S, n, hk⟩
    · obtain ⟨its, _, pl, _⟩ := I.list hq
      refine ⟨pl.isList.typeIs, fun a e => ?_⟩
      cases e
      obtain ⟨o, n, e, c, hd, _⟩ := pl
      exact ⟨o, e, hd⟩
    · refine ⟨⟨o, I.kIn p o hk, hc⟩, fun a e => ?_⟩
      cases e
      exact ⟨o, I.kIn _ o hk, hd⟩
    · have z : ∃ o, s.heap.get? p = some o ∧ o.ExactDict := by
        rcases hk with ⟨kvs, hk⟩ | ⟨kvs, hk⟩
        · obtain ⟨_, _, _, _, o, _, _, e, ex, _⟩ := I.hok p _ hk
          exact ⟨o, e, ex⟩
        · obtain ⟨_, _, _, _, o, _, _, e, ex, _⟩ := I.hok p _ hk
          exact ⟨o, e, ex⟩
      obtain ⟨o, e, ex⟩ := z
      refine ⟨⟨o, e, ex.1⟩, fun a e2 => ?_⟩
      cases e2
      exact ⟨o, e, ex.2.1⟩
    · obtain ⟨o, _, _, _, e, ex, _⟩ := I.hok p _ hk
      refine ⟨⟨o, e, ex.1⟩, fun a e2 => ?_⟩
      cases e2
      exact ⟨o, e, ex.2.1⟩
  | _ => exact False.elim ty
def tBM (K : PySem.W.Frag) (T : String) (r : V → List V → Hp → VK → Prop) (to : TE) (t : TA) : TE := fun σ H Q => to σ H fun x H1 => tyV K T x H1 ∧ t σ H1 fun xs H2 => r x xs H2 Q
variable {o e : Expr} {es : List Expr} {to : TE} {t : TA} {name : Str} {apos cpos : Pos} {T id : String} {r : V → List V → Hp → VK → Prop}
theorem pe_bm (pa : PlainAttrs T) (slot : Slot T name id) (hty : typeOf (.builtin id) = pure (.type "method_descriptor")) (hm : MtR X id r) (ho : PE X o to) (ha : PA X (e :: es) t)
    (hbase : attributeBase o name X.env (eval o X.env) = eval o X.env := by rfl)
    (hfew : ((backTo cpos (starEach (e :: es) X.env)).all (fun x => !x.1) && (backToKw cpos (keywordEach [] X.env)).all (fun x => x.1.isSome)
      && decide ((e :: es).length + ([] : List Keyword).length + (if ([] : List Keyword).isEmpty then 0 else 1) < 30)) = true := by rfl)
    (hline : (apos.endLine == cpos.line) = true := by rfl) (hs : starEach (e :: es) X.env = (false, eval e X.env) :: starEach es X.env := by rfl) (hplain : (backTo cpos (starEach es X.env)).any (·.1) = false := by rfl) :
    PE X (.Call (.Attribute o name apos) (e :: es) [] cpos) (tBM X.K T r to t) := by
  intro pins s σ H Q I h
  refine wpAny_Call_method_late hbase hfew hline rfl (thn (ho pins s σ H _ I h) fun v s1 ⟨x, H1, I1, r1, ty, q1⟩ => ?_)
  obtain ⟨h1, h2⟩ := tyV_is I1 r1 ty
  refine ⟨T, id, pa, slot, hty, h1, h2, ?_⟩
  have hA := ha cpos pins s1 σ H1 _ I1 q1
  rw [hs] at hA ⊢
  refine Calls.callWith_builtin (by show (false || (backTo cpos (starEach es X.env)).any (·.1)) = false; rw [hplain] <;> rfl) (Calls.evalArgs_plain ?_)
  exact thn hA fun us s2 ⟨vs, H2, I2, r2, q2⟩ => hm pins s2 σ H2 x vs v us Q I2 r1 r2 q2
end
end L2
namespace L2
open PySem PySem.Spec PyProof.Rows
def MtM (X : Cx) (id : String) (r : V → List V → Hp → VK → Prop) : Prop :=
  ∀ (pins : List (Addr × Obj)) (s : Shared) (σ : St) (H : Hp) (x : V) (xs : List V) (v : Value) (us : List Value) (Q : VK), Inv X pins σ H s → RelV x v → Vals xs us → r x xs H Q →
    wpAny (model X.prog X.w) X.A (call (.builtin id) (v :: us)) (EP X pins σ Q) X.xe s
theorem Vals.one : ∀ {x : V} {us : List Value}, Vals [x] us → ∃ u, us = [u] ∧ RelV x u
  | _, _, .cons r .nil => ⟨_, rfl, r⟩
theorem Vals.two : ∀ {x y : V} {us : List Value}, Vals [x, y] us → ∃ u v, us = [u, v] ∧ RelV x u ∧ RelV y v
  | _, _, _, .cons r (.cons q .nil) => ⟨_, _, rfl, r, q⟩
theorem Vals.rep {xs : List V} {us : List Value} (h : Vals xs us) : ∀ k : Nat, Vals (List.replicate k xs).flatten (List.replicate k us).flatten
  | 0 => .nil
  | k + 1 => by
    rw [List.replicate_succ, List.replicate_succ, List.flatten_cons, List.flatten_cons]
    exact Vals.append h (Vals.rep h k)
theorem foldl_rep (its : List Value) : ∀ (k : Nat) (acc : List Value),
    List.foldl (fun x1 x2 => x1 ++ x2) acc.toArray (List.replicate k its.toArray) = (acc ++ (List.replicate k its).flatten).toArray
  | 0, acc => by simp
  | k + 1, acc => by
    have e : acc.toArray ++ its.toArray = (acc ++ its).toArray := by simp
    have e2 : (acc ++ its) ++ (List.replicate k its).flatten = acc ++ (List.replicate (k + 1) its).flatten := by
      rw [List.replicate_succ, List.flatten_cons, List.append_assoc]
    rw [← e2, ← foldl_rep its k (acc ++ its), ← e, List.replicate_succ, List.foldl_cons]
section
variable {X : Cx} {pins : List (Addr × Obj)} {σ : St} {H : Hp} {s : Shared} {l b : Addr} {xs ys zs : List V}
theorem Inv.lset {its its' : List Value} {n : Nat} {f : Array Value → Array Value} {t' : Nat} (I : Inv X pins σ H s) (hH : H l = some (.lst xs))
    (e : s.heap.get? l = some { cls := .type "list", data := .seq its.toArray n }) (hf : f its.toArray = its'.toArray) (hv : Vals ys its') (hz : ys.length ≤ sizeLine) :
    Inv X pins σ (upd H l (.lst ys)) { s with heap := s.heap.update l (Obj.mapSeq f), toks := t' } := by
  have q := PySem.IsL.update e f
  rw [hf] at q
  refine I.write (x := l) (e := l) (by rw [hH]; exact trivial) (.inl rfl) (fun b' u hb hu => (Heap.get?_update_other s.heap (Obj.mapSeq f) (Ne.symm hb)).trans hu) ⟨_, q⟩ ?_
  exact ⟨hz, its', _, hv, q⟩
theorem Inv.lnew {its : List Value} {t' : Nat} (I : Inv X pins σ H s) (hv : Vals ys its) (hz : ys.length ≤ sizeLine) :
    Inv X pins σ (upd H s.heap.objs.size (.lst ys)) { s with heap := s.heap.push { cls := .type "list", data := .seq its.toArray }, toks := t' } :=
  I.laid (fun _ _ q => Heap.get?_push_of_some _ q) (Nat.le_refl _) ⟨hz, its, 0, hv, Heap.get?_push_size _ rfl⟩
theorem Inv.fresh (I : Inv X pins σ H s) : H s.heap.objs.size = none := I.hok.fresh (Nat.le_refl _)
theorem Inv.lstM (I : Inv X pins σ H s) (hH : H l = some (.lst xs)) : xs.length ≤ sizeLine ∧ ∃ (its : List Value) (n : Nat), Vals xs its ∧ xs.length = its.length ∧ s.heap.get? l = some { cls := .type "list", data := .seq its.toArray n } := by
  obtain ⟨z, its, n, r, e⟩ := I.hok l _ hH
  exact ⟨z, its, n, r, r.length, e⟩
theorem notLongL {n : Nat} (h : n ≤ sizeLine) : Builtin.List.listTooLong n = false := by
  unfold Builtin.List.listTooLong
  exact decide_eq_false (by omega)
end
section
variable {X : Cx}
def rAppend : V → List V → Hp → VK → Prop := fun x vs H Q => ∃ l xs y, x = .ref l ∧ vs = [y] ∧ H l = some (.lst xs) ∧ xs.length < sizeLine ∧ Q .non (upd H l (.lst (xs ++ [y])))
theorem mt_append : MtM X "list.append" rAppend := by
  intro pins s σ H x vs v us Q I rx rv h
  obtain ⟨l, xs, y, rfl, rfl, hH, hz, q⟩ := h
  cases rx
  obtain ⟨u, rfl, ru⟩ := rv.one
  obtain ⟨z, its, n, r, hl, e⟩ := I.lstM hH
  refine call_meets F.slot_list_append ⟨_, e, rfl⟩ F.entry_list_append (F.args_list_append_2 _ _) (PySem.list_append l its.toArray n u (by rw [List.size_toArray]; omega)) ⟨e, ?_⟩
  refine ⟨.non, _, I.lset (its' := its ++ [u]) hH e (by simp) (r.append (.cons ru .nil)) ?_, rfl, q⟩
  rw [List.length_append, List.length_singleton]
  omega
def rExtend : V → List V → Hp → VK → Prop := fun x vs H Q => ∃ l b xs zs, x = .ref l ∧ vs = [.ref b] ∧ H l = some (.lst xs) ∧ H b = some (.lst zs) ∧ xs.length + zs.length ≤ sizeLine ∧ Q .non (upd H l (.lst (xs ++ zs)))
theorem mt_extend : MtM X "list.extend" rExtend := by
  intro pins s σ H x vs v us Q I rx rv h
  obtain ⟨l, b, xs, zs, rfl, rfl, hH, hB, hz, q⟩ := h
  cases rx
  obtain ⟨u, rfl, ru⟩ := rv.one
  cases ru
  obtain ⟨z, its, n, r, hl, e⟩ := I.lstM hH
  obtain ⟨z2, its2, n2, r2, hl2, e2⟩ := I.lstM hB
  have hsz : its.toArray.size + its2.toArray.size ≤ sizeLine := by rw [List.size_toArray, List.size_toArray]; omega
  have hlong : ¬ (!its.toArray.isEmpty && Builtin.List.listTooLong (its.toArray.size + its2.toArray.size)) = true := by
    rw [notLongL hsz, Bool.and_false]
    exact Bool.false_ne_true
  refine call_meets F.slot_list_extend ⟨_, e, rfl⟩ F.entry_list_extend (F.args_list_extend_2 _ _)
    (AutoSeq1.list_extend_list_list_0 l its.toArray n b its2.toArray n2 hlong (by rw [List.size_toArray]; omega) (by omega)) ⟨e, e2, ?_⟩
  refine ⟨.non, _, I.lset (its' := its ++ its2) hH e (by simp) (r.append r2) ?_, rfl, q⟩
  rw [List.length_append]
  omega
def rCat : R2 := fun x y H Q => ∃ l b xs zs, x = .ref l ∧ y = .ref b ∧ H l = some (.lst xs) ∧ H b = some (.lst zs) ∧ xs.length + zs.length ≤ sizeLine ∧ ∀ p, H p = none → Q (.ref p) (upd H p (.lst (xs ++ zs)))
theorem op_cat : OpR X (binaryOp .Add) rCat := by
  intro pins s σ H x y v u Q I rx ry h
  obtain ⟨l, b, xs, zs, rfl, rfl, hH, hB, hz, q⟩ := h
  cases rx
  cases ry
  obtain ⟨z, its, n, r, hl, e⟩ := I.lstM hH
  obtain ⟨z2, its2, n2, r2, hl2, e2⟩ := I.lstM hB
  refine PySem.P.add_list e e2 ?_ (by rw [List.size_toArray, List.size_toArray]; omega)
  have ea : its.toArray ++ its2.toArray = (its ++ its2).toArray := by simp
  rw [ea]
  exact ⟨.ref _, _, I.lnew (t' := s.toks) (r.append r2) (by rw [List.length_append]; omega), rfl, q _ I.fresh⟩
def rRep : R2 := fun x y H Q => ∃ l k xs, x = .ref l ∧ y = .int k ∧ H l = some (.lst xs) ∧ -(2 ^ 63) ≤ k ∧ k < 2 ^ 63 ∧ xs.length * k.toNat ≤ sizeLine ∧
  ∀ p, H p = none → Q (.ref p) (upd H p (.lst (List.replicate k.toNat xs).flatten))
theorem len_rep {α : Type} (xs : List α) (k : Nat) : (List.replicate k xs).flatten.length = k * xs.length := by
  induction k with
  | zero => simp
  | succ k ih => rw [List.replicate_succ, List.flatten_cons, List.length_append, ih, Nat.succ_mul, Nat.add_comm]
theorem op_rep : OpR X (binaryOp .Mult) rRep := by
  intro pins s σ H x y v u Q I rx ry h
  obtain ⟨l, k, xs, rfl, rfl, hH, h1, h2, hz, q⟩ := h
  cases rx
  obtain ⟨t, rfl⟩ := ry
  obtain ⟨z, its, n, r, hl, e⟩ := I.lstM hH
  have hlen : its.toArray.size * k.toNat ≤ sizeLine := by rw [List.size_toArray, ← hl]; exact hz
  have hcap : ¬ its.toArray.size * k.toNat > (2 ^ 63 - 1) / 8 := by
    have : (sizeLine : Nat) ≤ (2 ^ 63 - 1) / 8 := by decide
    omega
  have hfit : ¬ (!Builtin.List.listFitsIndex k) = true := by
    rw [fitsIndex_both h1 h2]
    exact Bool.false_ne_true
  have hlong : ¬ Builtin.List.listTooLong (its.toArray.size * k.toNat) = true := by
    rw [notLongL hlen]
    exact Bool.false_ne_true
  have hnew : List.foldl (fun x1 x2 => x1 ++ x2) #[] (List.replicate (if its.toArray.isEmpty = true then 0 else k.toNat) its.toArray) = (List.replicate k.toNat its).flatten.toArray := by
    have f0 : ∀ m : Nat, List.foldl (fun x1 x2 => x1 ++ x2) #[] (List.replicate m its.toArray) = (List.replicate m its).flatten.toArray := fun m => by
      have := foldl_rep its m []
      rw [List.nil_append] at this
      exact this
    rw [f0]
    cases its with
    | nil => simp
    | cons a r' => rw [if_neg (by simp)]
  refine wpAny_binaryOp_repeat_ref (T := "list") (U := "int") (by decide) ⟨_, e, rfl⟩ (fun s' => typeIs_int s' k t) noFill_list_mul F.fills_int_mul F.slot_int_rmul repeat_list F.slot_int_index.lookup
    (call_meets F.slot_int_rmul (typeIs_int s k t) F.entry_int_rmul (F.args_int_rmul_2 _ _) (int___rmul___int_list k t l its.toArray n)
      ⟨e, rfl, ⟨_, e, rfl⟩, call_meets F.slot_list_mul ⟨_, e, rfl⟩ F.entry_list_mul (F.args_list_mul_2 _ _) (AutoListH.list___mul___list_int_3 l its.toArray n k t hfit hcap hlong) ⟨e, ?_⟩⟩)
  rw [hnew]
  exact ⟨.ref _, _, I.lnew (t' := s.toks) (r.rep k.toNat) (by rw [len_rep, Nat.mul_comm]; exact hz), rfl, q _ I.fresh⟩
end
end L2
namespace L2
open PySem PySem.Spec PyProof.Rows
section
variable {κ : Type} [DecidableEq κ]
def valV (kvs : List (κ × V)) (k : κ) : Option V := (kvs.find? fun kv => decide (kv.1 = k)).map (·.2)
theorem valV_pos {p : κ × V} {r : List (κ × V)} {k : κ} (e : p.1 = k) : valV (p :: r) k = some p.2 := by simp [valV, List.find?_cons, e]
theorem valV_neg {p : κ × V} {r : List (κ × V)} {k : κ} (e : ¬ p.1 = k) : valV (p :: r) k = valV r k := by simp [valV, List.find?_cons, e]
theorem RelO.isSome_eq {o : Option V} {u : Option Value} (r : RelO o u) : o.isSome = u.isSome := by
  cases o with
  | none => cases u with
    | none => rfl
    | some _ => exact (show False from r).elim
  | some _ => cases u with
    | none => exact (show False from r).elim
    | some _ => rfl
theorem KV.val {kvs : List (κ × V)} {vs : List (κ × Value)} (r : KV kvs vs) (k : κ) : RelO (valV kvs k) (valueAt vs k) := by
  unfold KV at r
  induction r with
  | nil => exact True.intro
  | @cons p q ps qs h t ih =>
    obtain ⟨h1, h2⟩ := h
    by_cases e : p.1 = k
    · have e' : q.1 = k := h1.symm.trans e
      have b : valueAt (q :: qs) k = some q.2 := by simp [valueAt, List.find?_cons, e']
      rw [valV_pos e, b]; exact h2
    · have e' : ¬ q.1 = k := fun z => e (h1.trans z)
      have b : valueAt (q :: qs) k = valueAt qs k := by simp [valueAt, List.find?_cons, e']
      rw [valV_neg e, b]; exact ih
end
theorem kV_is {P : Program} {w : World} {k : Key} {u : Value} (r : RelV (kV k) u) : (mixKind P w).is k u = true := by
  cases k with
  | inl i => obtain ⟨t, e⟩ := (show ∃ t, u = Value.int i t from r); subst e; exact mixKind_int P w i t
  | inr x => obtain ⟨t, e⟩ := (show ∃ t, u = Value.str x t from r); subst e; exact mixKind_str P w x t
theorem items_are {P : Program} {w : World} : ∀ {ks : List Key} {us : List Value}, Vals (ks.map kV) us → ItemsAre (mixKind P w) ks us
  | [], _, r => by rw [List.map_nil] at r; cases r; exact .nil
  | k :: ks, _, r => by
    rw [List.map_cons] at r
    cases r with
    | cons h t => exact .cons (kV_is h) (items_are t)
abbrev KT (H : Hp) : List (List Key × V) → List (List Key × Addr × Value) → Prop := Paired fun p q => p.1 = q.1 ∧ H q.2.1 = some (.tup (p.1.map kV)) ∧ RelV p.2 q.2.2
theorem KT.val {H : Hp} {kvs : List (List Key × V)} {xs : List (List Key × Addr × Value)} (r : KT H kvs xs) (k : List Key) : RelO (valV kvs k) ((atKey xs k).map (·.2)) := by
  induction r with
  | nil => exact True.intro
  | @cons p q ps qs h t ih =>
    obtain ⟨h1, _, h2⟩ := h
    by_cases e : p.1 = k
    · have e' : q.1 = k := h1.symm.trans e
      have b : atKey (q :: qs) k = some q.2 := by simp [atKey, List.find?_cons, e']
      rw [valV_pos e, b]; exact h2
    · have e' : ¬ q.1 = k := fun z => e (h1.trans z)
      have b : atKey (q :: qs) k = atKey qs k := by simp [atKey, List.find?_cons, e']
      rw [valV_neg e, b]; exact ih
section
variable {P : Program} {w : World} {H : Hp} {h : Heap} {a : Addr}
theorem rd_of {u : HO} (ok : HOk P w H h) (e : Rd H a u) : ObjOk P w H h a u := e.ok ok
theorem dk_rd {kvs : List (Key × V)} (ok : HOk P w H h) (e : Rd H a (.dK kvs)) : kvs.length ≤ sizeLine ∧ (a == sysModules) = false ∧ ∃ vs, KV kvs vs ∧ h.DictOf (mixKind P w) a vs :=
  show ObjOk P w H h a (.dK kvs) from rd_of ok e
theorem key_of {ks : List Key} (ok : HOk P w H h) (e : H a = some (.tup (ks.map kV))) : (tupleKind (mixKind P w)).is h ks a := by
  obtain ⟨_, its, r, o, h1, h2, n, h3⟩ := (show ObjOk P w H h a (.tup (ks.map kV)) from ok a _ e)
  exact ⟨o, its.toArray, n, h1, h2, h3, by simpa using items_are r⟩
theorem dt_rd {kvs : List (List Key × V)} (ok : HOk P w H h) (e : Rd H a (.dT kvs)) : kvs.length ≤ sizeLine ∧ (a == sysModules) = false ∧
    ∃ xs, KT H kvs xs ∧ h.DictOfH (tupleKind (mixKind P w)) a xs := by
  obtain ⟨z, y, xs, r, o, es, ep, h1, h2, h3, h4, h5⟩ := (show ObjOk P w H h a (.dT kvs) from rd_of ok e)
  refine ⟨z, y, xs, r, o, es, ep, h1, h2, h3, h4, fun x hx => ?_, h5⟩
  have all : ∀ {l : List (List Key × V)} {m : List (List Key × Addr × Value)}, KT H l m → ∀ x ∈ m, (tupleKind (mixKind P w)).is h x.1 x.2.1 := by
    intro l m q
    induction q with
    | nil => intro x hx; exact nomatch hx
    | @cons p q ps qs hq t ih =>
      intro x hx
      rcases List.mem_cons.mp hx with e | hx
      · subst e
        exact key_of ok (by rw [← hq.1]; exact hq.2.1)
      · exact ih x hx
  exact all r x hx
end
def DGet (H : Hp) (a : Addr) (y : V) (r : Option V) : Prop :=
  (∃ kvs k, Rd H a (.dK kvs) ∧ y = kV k ∧ r = valV kvs k) ∨ ∃ kvs k b, Rd H a (.dT kvs) ∧ y = .ref b ∧ H b = some (.tup (k.map kV)) ∧ r = valV kvs k
section
variable {X : Cx} {pins : List (Addr × Obj)} {σ : St} {H : Hp} {s : Shared} {a : Addr} {y v : V} {u r : Value} {o : Option V} {A : Around} {E : Value → Shared → Prop}
theorem d_getItem {Q : Value → Shared → Prop} (hu : A.units + 1 < cLine) (I : Inv X pins σ H s) (g : DGet H a y (some v)) (ry : RelV y u) (h : ∀ w' s', Inv X pins σ H s' → RelV v w' → Q w' s') :
    wpAny (model X.prog X.w) A (getItem (.ref a) u) Q E s := by
  rcases g with ⟨kvs, k, e, ey, l⟩ | ⟨kvs, k, b, e, ey, eb, l⟩
  · subst ey
    obtain ⟨z, hd, vs, rel, dd⟩ := dk_rd I.hok e
    obtain ⟨w', hw, rw'⟩ := RelO.some_of (v := v) (o := valueAt vs k) (by rw [l]; exact rel.val k)
    exact wpAny_getItem_of (kV_is ry) dd.mapOf hw (h w' _ (I.tok _) rw')
  · subst ey
    cases (show u = Value.ref b from ry)
    obtain ⟨z, hd, xs, rel, dd⟩ := dt_rd I.hok e
    obtain ⟨w', hw, rw'⟩ := RelO.some_of (v := v) (o := (atKey xs k).map (·.2)) (by rw [l]; exact rel.val k)
    obtain ⟨p, hp, hp2⟩ := Option.map_eq_some_iff.mp hw
    refine wpAny_getItem_heap (tupleKind_room_in1 hu) (key_of I.hok eb) dd hp ?_
    rw [hp2]
    exact h w' _ (I.tok _) rw'
theorem d_in {Q : Value → Shared → Prop} (hu : A.units + 1 < cLine) (I : Inv X pins σ H s) (g : DGet H a y o) (ry : RelV y u) (h : ∀ s', Inv X pins σ H s' → Q (.bool o.isSome) s') :
    wpAny (model X.prog X.w) A (compareOp .In u (.ref a)) Q E s := by
  rcases g with ⟨kvs, k, e, ey, l⟩ | ⟨kvs, k, b, e, ey, eb, l⟩
  · subst ey
    obtain ⟨z, hd, vs, rel, dd⟩ := dk_rd I.hok e
    refine wpAny_in_of (kV_is ry) hd dd.mapOf ?_
    rw [← (rel.val k).isSome_eq, ← l]
    exact h _ (I.tok _)
  · subst ey
    cases (show u = Value.ref b from ry)
    obtain ⟨z, hd, xs, rel, dd⟩ := dt_rd I.hok e
    refine wpAny_in_heap (tupleKind_room_in1 hu) (key_of I.hok eb) hd dd ?_
    have q := (rel.val k).isSome_eq
    rw [Option.isSome_map] at q
    rw [← q, ← l]
    exact h _ (I.tok _)
end
def NoSl (i : Expr) : Prop := ∀ ov iv, subscripted i false ov iv = operate [ov, iv] (getItem ov iv)
theorem subD_of {prog : Program} {w : World} {A : Around} {E : Value → Shared → Prop} {s : Shared} {env : Env} {value slice : Expr} {pos : Pos} {T id : String} {Q : Value → Shared → Prop}
    (hl : typeLookup (.type T) "__getitem__" = pure (some (.builtin id))) (hs : NoSl slice)
    (h : wpAny (model prog w) A (eval value env) (fun o s₁ => wpAny (model prog w) A (eval slice env) (fun i s₂ => s₂.TypeIs o T ∧ wpAny (model prog w) A (getItem o i) Q E s₂) E s₁) E s) :
    wpAny (model prog w) A (eval (.Subscript value slice pos) env) Q E s := by
  refine Subscript_ (wpAny_mono h (fun o s₁ h₁ => wpAny_mono h₁ (fun i s₂ h₂ => ?_) fun _ _ x => x) fun _ _ x => x)
  obtain ⟨hT, h₂⟩ := h₂
  unfold subscriptTail
  refine wpAny_bind ?_
  rw [getitemInPython_of_ne hT.not_modules]
  refine wpAny_bind (wpAny_specialOf hT hl ?_)
  have fin : wpAny (model prog w) A (subscripted slice false o i) (fun r s₃ => wpAny (model prog w) A (letTemporaryGo value o r >>= fun _ => pure r) Q E s₃) E s₂ := by
    rw [hs o i]
    exact wpAny_operating (wpAny_mono h₂ (fun r s₃ h₃ => wpAny_bind (wpAny_letTemporaryGo (wpAny_pure h₃))) fun _ _ x => x)
  first
    | exact wpAny_pure (wpAny_bind fin)
    | exact wpAny_bind (wpAny_pure (wpAny_bind fin))
    | exact wpAny_bind fin
theorem dict_typeIs {X : Cx} {pins : List (Addr × Obj)} {σ : St} {H : Hp} {s : Shared} {a : Addr} {y : V} {o : Option V} (I : Inv X pins σ H s) (g : DGet H a y o) : s.TypeIs (.ref a) "dict" := by
  rcases g with ⟨kvs, k, e, _, _⟩ | ⟨kvs, k, b, e, _, _, _⟩
  · obtain ⟨_, _, vs, _, dd⟩ := dk_rd I.hok e
    exact dd.typeIs
  · obtain ⟨_, _, xs, _, dd⟩ := dt_rd I.hok e
    exact dd.typeIs
end L2
namespace Att
open PySem PySem.W PySem.Calls PyProof.Rows
theorem ints_of_wellAll {P : Params} {h : Heap} : ∀ (ns : List Int) (vs : List Value), WellAll P h vs (ns.map WData.int) → IntsAre vs ns := by
  intro ns
  induction ns with
  | nil =>
    intro vs w
    rw [List.map_nil] at w
    cases w
    exact .nil
  | cons n ns ih =>
    intro vs w
    rw [List.map_cons] at w
    cases w with
    | cons a b =>
      cases a
      exact .cons _ _ (ih _ b)
theorem script_of {l : OpenLaw} {n : Nat} (hn : l.most = some n) {P : Params} {h : Heap} {args : List WData} {vals : List Value}
    (hpre : l.row.toRowW.claim.pre args = true) (hwl : WellAll P h vals args) :
    ∃ a vs ns, vals = [Value.ref a] ∧ args = [WData.list (ns.map WData.int)] ∧ h.get? a = some { cls := .type "list", data := .seq vs.toArray } ∧ IntsAre vs ns ∧ ns.length ≤ n := by
  have hsh : WShape.hasAll [] args [.list .int] = true := (pre_splitW hpre).1
  have hc : l.pre.holds [] { args := args } = true := (pre_splitW hpre).2
  obtain ⟨d, r, rfl, h1, h2⟩ := hasAllW_cons hsh
  obtain rfl := hasAllW_nil h2
  obtain ⟨xs, rfl, h3⟩ := hasW_list h1
  obtain ⟨ns, rfl⟩ := items_int h3
  have hlen : ns.length ≤ n := by
    unfold OpenLaw.pre at hc
    have h4 : (WTm.not (.lt (.lit (.int (n : Int))) (.len (.arg 0)))).holds [] { args := [.list (ns.map .int)] } = true := by
      have h4 := (holds_andW hc).1
      rw [hn] at h4
      exact h4
    have h5 := condW_of h4 (w_not (w_lt w_lit (w_len_list (w_arg rfl))))
    rw [List.length_map] at h5
    refine Nat.le_of_not_lt fun q => ?_
    have q' : (n : Int) < ((ns.length : Nat) : Int) := by omega
    first
      | (rw [decide_eq_true q'] at h5; exact absurd h5 (by decide))
      | (simp at h5; omega)
  cases hwl with
  | cons w1 w2 =>
    cases w2
    cases w1 with
    | list ho hall => exact ⟨_, _, ns, rfl, rfl, ho, ints_of_wellAll ns _ hall, hlen⟩
theorem post_true (l : OpenLaw) (args : List WData) : l.row.toRowW.claim.post args (.bool true) args = true :=
  postW_of (r := l.row.toRowW) (X := (true == true))
    (show WShape.has [] (.bool true) .bool = true by first | rfl | decide | simp [WShape.has, WShape.arms, WShape.armsAll])
    (show (WTm.eq .res (.lit (.bool true))).value [] { args := args, res := some (.bool true), after := args } = some (.bool (true == true)) from w_eq_bool (w_res rfl) w_lit) rfl
theorem attach_call {l : OpenLaw} {n : Nat} {q : Program} {loose : List Str} {XP : (Str → Option Value) → Heap → Prop} {YP : World → Heap → Prop} {d : DefRec}
    (hn : l.most = some n) (hdf : d.params.defaults = [])
    (call : ∀ (w : World) (s₀ s₁ : Shared) (mg mb : Str → Option Value) (fa : Addr) (o : Obj) (pm cd doc : Value) (a : Addr) (vs : List Value) (ns : List Int),
      Ground q loose [] XP w s₀ mg mb s₁.heap → YP w s₁.heap →
      s₁.heap.get? fa = some o → o.data = .func (docDef d.name d.params d.body d.scope pm cd doc) → s₁.heap.CodeRec cd d.name → mg d.name = some (.ref fa) →
      s₁.heap.get? a = some { cls := .type "list", data := .seq vs.toArray } → IntsAre vs ns → ns.length ≤ n → s₁.gens = #[] →
      codeAny (model l.prog w) callerA (.call (.ref fa) ⟨[.ref a], []⟩) (fun r s' => r = .ok (.ret (.bool true)) ∧ OldK s₁.heap s'.heap ∧ s'.os = s₁.os ∧ AllBare s'.gens) s₁) :
    WalkO q loose XP YP l.row.toRowW d [] (fun f vs => PySem.call f vs) := by
  intro w s₀ s₁ mg mb G Y fa o pm cd doc dV kV ho hd hcd hD hmg hg args vals as hpre hlay hrd hwl hlo
  obtain rfl : dV = .none := Dflts.none hD hdf
  obtain rfl : kV = .none := Dflts.noKw hD
  obtain ⟨a, vs, ns, rfl, rfl, hobj, hints, hlen⟩ := script_of hn hpre hwl
  refine enter_call (codeAny_mono (call w s₀ s₁ mg mb fa o pm cd doc a vs ns G Y ho (fd_plain hd) hcd hmg hobj hints hlen hg) fun r s' hq => ?_)
  obtain ⟨rfl, h2, h3, h4⟩ := hq
  exact ⟨.inl ⟨.bool true, .bool true, [], rfl, fun _ => rfl, .bool true, post_true l _, fun _ => ⟨List.Pairwise.nil, fun _ hm => (nomatch hm)⟩⟩, h2, h3, h4⟩
end Att
namespace L2
open PySem PySem.Spec PyProof.Rows
theorem vals_ints : ∀ {vs : List Value} {ns : List Int}, IntsAre vs ns → Vals (ns.map V.int) vs
  | _, _, .nil => .nil
  | _, _, .cons n t h => .cons ⟨t, rfl⟩ (vals_ints h)
def Only (H : Hp) : Prop := ∀ b, H b = none ∨ ∃ o xs, H b = some (.frz o (.lst xs))
theorem law_call {P : Program} {w : World} {K : PySem.W.Frag} {mg mb : Str → Option Value} {CX : CXT} {k : Nat} {fa a : Addr} {fd : FuncData} {x : Str} {sp : Sp} {s₁ : Shared} {vs : List Value} {ns : List Int}
    (KX : K.In s₁.heap) (hns : s₁.heap.Ns mainGlobals mg) (hb : s₁.heap.Ns builtinsNs mb) (hbb : ∀ x : Str, x ≠ "__name__" → mb x = bootBuiltins x) (hlim : s₁.heap.NoLimit) (hg : s₁.gens = #[])
    (ha : s₁.heap.get? a = some { cls := .type "list", data := .seq vs.toArray }) (hi : IntsAre vs ns) (hl : ns.length ≤ sizeLine) (hr : Room k callerA)
    (F : ∀ base : Heap, K.In base → base.Ns mainGlobals mg → FnOk P w K mg base CX k fa fd [x] sp) (hbind : ∀ (s : Shared) (u : Value), BindsTo s fd ⟨[u], []⟩ [(x, u)])
    (hsp : ∀ H : Hp, Only H → SqL K H a (ns.map V.int) → sp [.ref a] H (fun v _ => v = .bl true) fun _ _ _ => False)
    (hCX : ∀ H e s', CX [] H s₁ (fun _ _ _ => False) e s' → False) :
    codeAny (model P w) callerA (.call (.ref fa) ⟨[.ref a], []⟩) (fun r s' => r = .ok (.ret (.bool true)) ∧ OldK s₁.heap s'.heap ∧ s'.os = s₁.os ∧ AllBare s'.gens) s₁ := by
  have rv := vals_ints hi
  have lenV := hi.length
  have core : ∀ H : Hp, Only H → SqL K H a (ns.map V.int) → HOk P w H s₁.heap → (∀ b, H b ≠ none → b = a) → (H a ≠ none → K.lookup a = none) →
      codeAny (model P w) callerA (.call (.ref fa) ⟨[.ref a], []⟩) (fun r s' => r = .ok (.ret (.bool true)) ∧ OldK s₁.heap s'.heap ∧ s'.os = s₁.os ∧ AllBare s'.gens) s₁ := by
    intro H hO hS hok hA hK
    have base_of : ∀ {b : Addr} {o : Obj}, s₁.heap.get? b = some o → H b = none → (hidT s₁.heap H).get? b = some o := fun e n => hidT_get e n
    have noA : ∀ {b : Addr} {o : Obj} {es : Array DictEntry} {ep : Nat}, s₁.heap.get? b = some o → o.data = .dict es ep → H b = none := fun {b o es ep} e d => by
      cases q : H b with
      | none => rfl
      | some u =>
        have e' : b = a := hA b (by rw [q]; simp)
        subst e'
        rw [ha] at e; cases e
        have d' : Data.seq vs.toArray _ = Data.dict es ep := d
        cases d'
    have nsK : ∀ {b : Addr} {m : Str → Option Value}, s₁.heap.Ns b m → (hidT s₁.heap H).Ns b m := fun {b m} ⟨o, es, ep, e, d, r⟩ => ⟨o, es, ep, base_of e (noA e d), d, r⟩
    have hKb : K.In (hidT s₁.heap H) := fun b o e => base_of (KX b o e) (by
      cases q : H b with
      | none => rfl
      | some u =>
        have e' : b = a := hA b (by rw [q]; simp)
        subst e'
        rw [hK (by rw [q]; simp)] at e; cases e)
    have hM : Mod K mg (hidT s₁.heap H) := ⟨hKb, nsK hns, ⟨mb, nsK hb, hbb⟩, let ⟨mc, h1, h2⟩ := hlim; ⟨mc, nsK h1, h2⟩⟩
    have e0 : Env0 P w K mg (hidT s₁.heap H) callerA [] s₁ H := ⟨rfl, hM, fun b o e => of_hidT e, Nat.le_of_eq (hidT_size _ _), trivial, fun b hb => absurd (show b ∈ ([] : List Addr) from hb) (by simp), hok, .of_eq hg⟩
    refine codeAny_mono ((F _ hKb (nsK hns)).run callerA [] s₁ H ⟨[.ref a], []⟩ [.ref a] [.ref a] _ _ hr e0 (hbind s₁ (.ref a)) (.cons rfl .nil) (hsp H hO hS)) fun r s' h => ?_
    cases r with
    | error e => exact (hCX H e s' h).elim
    | ok fl =>
      cases fl with
      | next => exact False.elim h
      | brk => exact False.elim h
      | cont => exact False.elim h
      | ret u =>
        obtain ⟨v, H', os, bare, un, hok', r', q⟩ := h
        have q' : v = .bl true := q
        subst q'
        obtain rfl : u = Value.bool true := r'
        refine ⟨rfl, OldK.of_keep fun b o e => ?_, os, bare⟩
        cases q : H b with
        | none => exact un.keep b o e q (by intro z; exact absurd (show b ∈ ([] : List Addr) from z) (by simp)) (by simp)
        | some u =>
          rcases hO b with z | ⟨ob, xs, z⟩
          · rw [q] at z; cases z
          · have z2 := un.frzs b ob _ z
            obtain ⟨e1, _⟩ := hok b _ z
            obtain ⟨e2, _⟩ := hok' b _ z2
            rw [e] at e1; cases e1
            exact e2
  cases hk : K.lookup a with
  | some o =>
    have e := KX a o hk
    rw [ha] at e
    cases e
    refine core (fun _ => none) (fun _ => .inl rfl) (.inr ⟨_, vs.toArray, _, hk, rfl, rfl, rfl, by rw [List.size_toArray, lenV]; exact hl, by simpa using rv⟩) (fun b u z => by have z' : (none : Option HO) = some u := z; cases z') (fun b z => absurd rfl z) fun z => absurd rfl z
  | none =>
    refine core (fun b => if b = a then some (.frz { cls := .type "list", data := .seq vs.toArray } (.lst (ns.map V.int))) else none) (fun b => ?_) (.inl (.inr ⟨{ cls := .type "list", data := .seq vs.toArray }, if_pos rfl⟩)) (fun b u z => ?_) (fun b z => ?_) fun _ => hk
    · by_cases hb : b = a
      · exact .inr ⟨_, _, if_pos hb⟩
      · exact .inl (if_neg hb)
    · by_cases hb : b = a
      · have z' := (if_pos hb).symm.trans z
        cases z'
        subst hb
        exact ⟨ha, by rw [List.length_map]; exact hl, vs, _, rv, ha⟩
      · have z' := (if_neg hb).symm.trans z
        cases z'
    · by_cases hb : b = a
      · exact hb
      · exact absurd (if_neg hb) z
end L2
namespace L2
open PySem PySem.Spec PyProof.Rows
theorem walk_of {l : PySem.W.OpenLaw} {n k : Nat} {q : Program} {loose : List Str} {XP : (Str → Option Value) → Heap → Prop} {YP : World → Heap → Prop} {d : DefRec} {K : Params → PySem.W.Frag} {CX : World → CXT} {sp : World → Sp} {x : Str}
    (hn : l.most = some n) (hn2 : n ≤ sizeLine) (hdf : d.params.defaults = []) (hr : Room k callerA)
    (hY : ∀ (w : World) (h : Heap), YP w h → (K w.params).In h)
    (F : ∀ (w : World) (mg : Str → Option Value) (fa : Addr) (h : Heap), (K w.params).In h → h.Ns mainGlobals mg → mg d.name = some (.ref fa) →
      ∃ fd : FuncData, (∀ (s : Shared) (u : Value), BindsTo s fd ⟨[u], []⟩ [(x, u)]) ∧
        ∀ base : Heap, (K w.params).In base → base.Ns mainGlobals mg → FnOk l.prog w (K w.params) mg base (CX w) k fa fd [x] (sp w))
    (hsp : ∀ (w : World) (H : Hp) (a : Addr) (ns : List Int), ns.length ≤ n → Only H → SqL (K w.params) H a (ns.map V.int) → sp w [.ref a] H (fun v _ => v = .bl true) fun _ _ _ => False)
    (hCX : ∀ (w : World) (H : Hp) (s : Shared) (e : Value) (s' : Shared), CX w [] H s (fun _ _ _ => False) e s' → False) :
    PySem.W.WalkO q loose XP YP l.row.toRowW d [] (fun f vs => PySem.call f vs) := by
  refine Att.attach_call hn hdf fun w s₀ s₁ mg mb fa o pm cd doc a vs ns G Y ho hd hcd hmg hobj hints hlen hg => ?_
  have KX := hY w _ Y
  obtain ⟨fd, hb, hF⟩ := F w mg fa _ KX G.T.g hmg
  exact law_call KX G.T.g G.T.b G.T.builtins G.T.nolimit hg hobj hints (Nat.le_trans hlen hn2) hr hF hb (fun H hO hS => hsp w H a ns hlen hO hS) fun H e s' => hCX w H s₁ e s'
end L2
namespace L2
open PySem PySem.Spec PyProof.Rows
def defArgs (s : Stmt) : Arguments := match s with
  | .FunctionDef _ a _ _ _ _ _ _ _ _ => a
  | _ => { posonlyargs := [], args := [], vararg := none, kwonlyargs := [], kw_defaults := [], kwarg := none, defaults := [] }
def defBody (s : Stmt) : List Stmt := match s with
  | .FunctionDef _ _ b _ _ _ _ _ _ _ => b
  | _ => []
def defScope (s : Stmt) : Scope := match s with
  | .FunctionDef _ _ _ _ _ _ sc _ _ _ => sc
  | _ => { kind := .function, names := [], isGenerator := false, isCoroutine := false }
abbrev CX0 : CXT := fun _ _ _ _ _ _ => False
abbrev E0 : XK := fun _ _ _ => False
theorem pass0 {X : Cx} : Passes CX0 X E0 := fun _ _ _ _ _ _ _ h => h.elim
structure Fun (K : PySem.W.Frag) (x qual : Str) (st : Stmt) (f : Addr) (fd : FuncData) : Prop where
  ex : ∃ (oc : Value) (od : Option Addr) (kV doc pm : Value) (an : Option Addr) (cdv ct : Value) (osl : Array (Option Value)),
    fd = PySem.W.fnOf x qual (defArgs st) (defBody st) (defScope st) .none kV doc pm an cdv ct ∧ K.lookup f = some ⟨oc, od, .func fd, osl⟩ ∧ PySem.W.codeIn K cdv qual = true
  kp : PySem.W.keepIn K (.ref f) = true
section
variable {P : Program} {w : World} {K : PySem.W.Frag} {mg : Str → Option Value} {base : Heap}
theorem Fun.ok {x qual : Str} {st : Stmt} {f : Addr} {fd : FuncData} {N ps : List Str} {k : Nat} {sp : Sp} (F : Fun K x qual st f fd) (S : FnScope N ps (defScope st)) (len : ∀ vs H Q E, sp vs H Q E → vs.length = ps.length)
    (hbody : ∀ (cdv : Value) (A : Around) (outer : List Env) (s : Shared) (H : Hp) (vs : List V) (Q : VK) (E : XK), Room k (A.deeper (envOfC qual (defScope st) s.heap.objs.size f cdv)) → sp vs H Q E →
      ∃ t, PSs (cxOf CX0 P w K mg base N qual (defScope st) f cdv A outer s H E).nox (defBody st) t ∧ t { nx := fun _ H' => Q .non H', rt := Q } (start N vs) H) : FnOk P w K mg base CX0 (k + 1) f fd ps sp := by
  obtain ⟨oc, od, kV, doc, pm, an, cdv, ct, osl, rfl, lk, hcd⟩ := F.ex
  refine fn_of lk hcd S len fun A outer s H vs Q E hr hsp => ?_
  obtain ⟨t, h, q⟩ := hbody cdv A outer s H vs Q E hr hsp
  exact ⟨t, h.nox, q⟩
theorem Fun.binds {x qual : Str} {st : Stmt} {f : Addr} {fd : FuncData} {ps : List Str} (F : Fun K x qual st f fd)
    (h : ∀ (kV doc pm : Value) (an : Option Addr) (cdv ct : Value) (us : List Value), us.length = ps.length → bindArgs (PySem.W.fnOf x qual (defArgs st) (defBody st) (defScope st) .none kV doc pm an cdv ct) ⟨us, []⟩ = pure (ps.zip us)) : Binds K fd ps [] := by
  obtain ⟨oc, od, kV, doc, pm, an, cdv, ct, osl, rfl, lk, hcd⟩ := F.ex
  exact .all (h kV doc pm an cdv ct)
theorem fun_mk {x qual : Str} {st : Stmt} {f : Addr} {oc : Value} {od an : Option Addr} {osl : Array (Option Value)} {kV doc pm cdv ct : Value} (l : K.lookup f = some ⟨oc, od, .func (PySem.W.fnOf x qual (defArgs st) (defBody st) (defScope st) .none kV doc pm an cdv ct), osl⟩)
    (c : PySem.W.codeIn K cdv qual = true) (k : PySem.W.keepIn K (.ref f) = true) : Fun K x qual st f (PySem.W.fnOf x qual (defArgs st) (defBody st) (defScope st) .none kV doc pm an cdv ct) := ⟨⟨oc, od, kV, doc, pm, an, cdv, ct, osl, rfl, l, c⟩, k⟩
end
theorem hu_of {A : Around} {k : Nat} (hr : Room k A) : A.units + 1 < cLine := Nat.lt_of_le_of_lt (Nat.add_le_add_left (by decide : 1 ≤ 64) _) hr.units
theorem iteF {A B : Prop} (h : B) : if false = true then A else B := by
  rw [if_neg Bool.false_ne_true]
  exact h
theorem iteT {A B : Prop} (h : A) : if true = true then A else B := by
  rw [if_pos rfl]
  exact h
def Same (H H' : Hp) : Prop := ∀ b o, H b = some o → H' b = some o
theorem Same.refl (H : Hp) : Same H H := fun _ _ h => h
theorem Same.trans {H H1 H2 : Hp} (a : Same H H1) (b : Same H1 H2) : Same H H2 := fun c o h => b c o (a c o h)
theorem Same.free {H H' : Hp} (e : Same H H') {l : Addr} (h : H' l = Option.none) : H l = Option.none := by
  cases q : H l with
  | none => rfl
  | some o =>
    rw [e l o q] at h
    cases h
theorem Same.seq {K : PySem.W.Frag} {H H' : Hp} {a : Addr} {xs : List V} (e : Same H H') (h : SqL K H a xs) : SqL K H' a xs := by
  rcases h with (h | ⟨o, h⟩) | h
  · exact .inl (.inl (e _ _ h))
  · exact .inl (.inr ⟨o, e _ _ h⟩)
  · exact .inr h
end L2
namespace L2
open PySem PySem.Spec PyProof.Rows
theorem forIn_fold {α β : Type} {f : α → β → Sem (ForInStep β)} {g : β → α → β} : ∀ (l : List α) (c : β), (∀ x ∈ l, ∀ c, f x c = pure (.yield (g c x))) → forIn l c f = (pure (l.foldl g c) : Sem β)
  | [], c, _ => rfl
  | x :: l, c, h => by
    rw [List.forIn_cons, h x List.mem_cons_self, pure_bind]
    exact forIn_fold l _ fun y hy => h y (List.mem_cons_of_mem _ hy)
def clStep (env : Env) (cs : List (Str × Addr)) (x : Str × NameKind) : List (Str × Addr) := if x.2 == .free then (x.1, (env.cells.lookup x.1).getD 0) :: cs else cs
def lcCl (scope : Scope) (env : Env) : List (Str × Addr) := scope.names.foldl (clStep env) []
theorem lcCl_closure {scope : Scope} {env : Env} (h : ∀ x ∈ scope.names, x.2 = .free → ∃ c, env.cells.lookup x.1 = some c) : closureFor scope env = pure (lcCl scope env) := by
  simp only [closureFor]
  rw [forIn_fold (g := clStep env) scope.names [] (fun x hx c => by
    obtain ⟨n, k⟩ := x
    by_cases hk : k = .free
    · subst hk
      obtain ⟨a, ha⟩ := h _ hx rfl
      have ha' : env.cells.lookup n = some a := ha
      simp [cellOf, ha', clStep]
    · have e : (k == NameKind.free) = false := by simpa using hk
      simp [e, clStep])]
  rfl
theorem clStep_sub {env : Env} : ∀ (names : List (Str × NameKind)) (acc : List (Str × Addr)), (∀ x ∈ names, x.2 = .free → ∃ c, env.cells.lookup x.1 = some c) → (∀ x c, acc.lookup x = some c → env.cells.lookup x = some c) →
    ∀ x c, (names.foldl (clStep env) acc).lookup x = some c → env.cells.lookup x = some c
  | [], _, _, ha, x, c, e => ha x c e
  | (n, k) :: r, acc, hf, ha, x, c, e => by
    refine clStep_sub r (clStep env acc (n, k)) (fun y hy => hf y (List.mem_cons_of_mem _ hy)) (fun y d ed => ?_) x c e
    unfold clStep at ed
    by_cases hk : k = .free
    · subst hk
      obtain ⟨a, hn⟩ := hf (n, .free) List.mem_cons_self rfl
      have hn' : env.cells.lookup n = some a := hn
      simp only [beq_self_eq_true, if_true, hn', Option.getD_some, List.lookup_cons] at ed
      split at ed
      · rename_i hy
        have : y = n := by simpa using hy
        subst this
        rw [hn']; exact ed
      · exact ha y d ed
    · have e : (k == NameKind.free) = false := by simpa using hk
      simp only [e, Bool.false_eq_true, if_false] at ed
      exact ha y d ed
theorem clStep_has {env : Env} : ∀ (names : List (Str × NameKind)) (acc : List (Str × Addr)) (x : Str), ((acc.lookup x).isSome = true ∨ (x, NameKind.free) ∈ names) → ((names.foldl (clStep env) acc).lookup x).isSome = true
  | [], _, _, h => h.elim (fun z => z) fun z => absurd z (by simp)
  | (n, k) :: r, acc, x, h => by
    refine clStep_has r (clStep env acc (n, k)) x ?_
    unfold clStep
    rcases h with h | h
    · left
      split
      · rw [List.lookup_cons]
        split <;> simp_all
      · exact h
    · rcases List.mem_cons.mp h with h | h
      · left
        cases h
        simp [List.lookup_cons]
      · exact .inr h
theorem relabel_of {env : Env} : ∀ {names : List (Str × NameKind)} {x : Str} {k : NameKind}, (names.map fun (n, k) => if (k == NameKind.free && env.scope.kind == .function && env.kindOf n == some .cell) then (n, NameKind.cell) else (n, k)).lookup x = some k →
    names.lookup x = some k ∨ names.lookup x = some .free
  | [], _, _, h => by simp at h
  | (n, j) :: r, x, k, h => by
    simp only [List.map_cons] at h
    by_cases hx : x = n
    · subst hx
      by_cases hc : (j == NameKind.free && env.scope.kind == .function && env.kindOf x == some .cell) = true
      · rw [if_pos hc] at h
        simp only [Bool.and_eq_true, beq_iff_eq] at hc
        right
        rw [List.lookup_cons, beq_self_eq_true, hc.1.1]
      · rw [if_neg hc] at h
        left
        rw [List.lookup_cons, beq_self_eq_true] at h ⊢
        exact h
    · have e : (x == n) = false := by simpa using hx
      have h' : (r.map fun (n, k) => if (k == NameKind.free && env.scope.kind == .function && env.kindOf n == some .cell) then (n, NameKind.cell) else (n, k)).lookup x = some k := by
        split at h <;> (rw [List.lookup_cons, e] at h; exact h)
      rcases relabel_of h' with z | z
      · left; rw [List.lookup_cons, e]; exact z
      · right; rw [List.lookup_cons, e]; exact z
theorem relabel_free {env : Env} : ∀ {names : List (Str × NameKind)} {x : Str}, names.lookup x = some .free →
    (names.map fun (n, k) => if (k == NameKind.free && env.scope.kind == .function && env.kindOf n == some .cell) then (n, NameKind.cell) else (n, k)).lookup x = some .cell ∨
    (names.map fun (n, k) => if (k == NameKind.free && env.scope.kind == .function && env.kindOf n == some .cell) then (n, NameKind.cell) else (n, k)).lookup x = some .free
  | [], _, h => by simp at h
  | (n, j) :: r, x, h => by
    simp only [List.map_cons]
    by_cases hx : x = n
    · subst hx
      rw [List.lookup_cons, beq_self_eq_true] at h
      have hj : j = .free := Option.some.inj h
      by_cases hc : (j == NameKind.free && env.scope.kind == .function && env.kindOf x == some .cell) = true
      · left; rw [if_pos hc, List.lookup_cons, beq_self_eq_true]
      · right; rw [if_neg hc, List.lookup_cons, beq_self_eq_true, hj]
    · have e : (x == n) = false := by simpa using hx
      rw [List.lookup_cons, e] at h
      rcases relabel_free (env := env) h with z | z
      · left; split <;> (rw [List.lookup_cons, e]; exact z)
      · right; split <;> (rw [List.lookup_cons, e]; exact z)
def cxC (X : Cx) (scope : Scope) (N : List Str) (s : Shared) (H : Hp) (ex : List Addr) : Cx where
  prog := X.prog
  w := X.w
  K := X.K
  mg := X.mg
  base := X.base
  A := X.A
  N := N
  s₀ := s
  H₀ := H
  env := compEnvC scope (lcCl scope X.env) s.heap.objs.size X.env
  outer := X.stack
  stack := X.stack
  ex := ex
  fn := fun _ => false
  calm := X.calm
  pn := []
  xe := fun _ _ => False
def lcOk (N N' : List Str) (ix : List (Option Nat)) (sc scope : Scope) : Bool :=
  decide (N'.length = ix.length) && (N'.zip ix).all (fun p => match p.2 with
    | none => true
    | some j => decide (N[j]? = some p.1) && decide (scope.names.lookup p.1 = some .free)) &&
  scope.names.all (fun y => y.2 != .cell && (y.2 != .free || decide (sc.names.lookup y.1 = some .cell)) && (y.2 != .local || decide (scope.names.lookup y.1 = some .local))) && (scope.kind == .function)
structure LcOk (X : Cx) (N' : List Str) (ix : List (Option Nat)) (scope : Scope) : Prop where
  len : N'.length = ix.length
  free : ∀ (i : Nat) (x : Str) (j : Nat), N'[i]? = some x → ix[i]? = some (some j) → X.N[j]? = some x ∧ scope.names.lookup x = some .free
  nocell : ∀ y ∈ scope.names, y.2 ≠ .cell
  cell : ∀ y ∈ scope.names, y.2 = .free → X.env.scope.names.lookup y.1 = some .cell
  loc : ∀ y ∈ scope.names, y.2 = .local → scope.names.lookup y.1 = some .local
  kind : scope.kind = .function
theorem LcOk.of {X : Cx} {N N' : List Str} {ix : List (Option Nat)} {sc scope : Scope} (hN : X.N = N) (hs : X.env.scope = sc) (h : lcOk N N' ix sc scope = true) : LcOk X N' ix scope := by
  unfold lcOk at h
  simp only [Bool.and_eq_true, decide_eq_true_eq, List.all_eq_true] at h
  obtain ⟨⟨⟨h1, h2⟩, h3⟩, h4⟩ := h
  refine ⟨h1, fun i x j e1 e2 => ?_, fun y hy z => ?_, fun y hy z => ?_, fun y hy z => ?_, by simpa using h4⟩
  · have m : (x, some j) ∈ N'.zip ix := List.mem_of_getElem? (i := i) (by rw [List.getElem?_zip_eq_some]; exact ⟨e1, e2⟩)
    have q := h2 _ m
    simp only [Bool.and_eq_true, decide_eq_true_eq] at q
    rw [hN]; exact q
  · have q := (h3 y hy).1.1
    rw [z] at q; simp at q
  · have q := (h3 y hy).1.2
    rw [z] at q
    simp only [bne_self_eq_false, Bool.false_or, decide_eq_true_eq] at q
    rw [hs]; exact q
  · have q := (h3 y hy).2
    rw [z] at q
    simp only [bne_self_eq_false, Bool.false_or, decide_eq_true_eq] at q
    exact q
def lcStart (ix : List (Option Nat)) (σ : St) : St := ix.map fun o => o.bind fun j => (σ[j]?).join
theorem inv_startC {X : Cx} {N' : List Str} {ix : List (Option Nat)} {scope : Scope} {pins : List (Addr × Obj)} {σ : St} {H : Hp} {s : Shared} {h₁ : Heap} {fp : List Addr} {tk : Nat} (L : LcOk X N' ix scope) (I : Inv X pins σ H s)
    (hns : h₁.Ns s.heap.objs.size (fun _ => none)) (hsb : ∀ b o, s.heap.get? b = some o → h₁.get? b = some o)
    (hf : ∀ b ∈ fp, FpOk X pins H b) (hfo : ∀ b ∈ fp, b < s.heap.objs.size) : Inv (cxC X scope N' s H fp) [] (lcStart ix σ) H { s with heap := h₁, toks := tk } := by
  have hcells : ∀ y ∈ scope.names, y.2 = .free → ∃ c, X.env.cells.lookup y.1 = some c := fun y hy z => I.ok.has y.1 (.inl (L.cell y hy z))
  have sub : ∀ x c, (lcCl scope X.env).lookup x = some c → X.env.cells.lookup x = some c := clStep_sub scope.names [] hcells (fun x c e => by simp at e)
  have has : ∀ x, scope.names.lookup x = some .free → ∃ c, (lcCl scope X.env).lookup x = some c := fun x e =>
    Option.isSome_iff_exists.mp (clStep_has scope.names [] x (.inr (PySem.mem_of_lookup e)))
  have stk : ∀ b ∈ fp, b ∉ frs X.stack := fun b hb z => by
    obtain ⟨_, f1, f2, _⟩ := hf b hb
    rcases List.mem_cons.mp (I.stkSub b z) with q | q
    · exact f1 q
    · exact f2 q
  refine ⟨⟨I.ok.mod, L.kind, I.ok.glob, I.ok.blt, Nat.le_refl _, fun x y c e1 e2 => I.ok.inj x y c (sub x c e1) (sub y c e2), fun x hx => ?_, fun x c z => absurd (show false = true from z) Bool.false_ne_true, I.ok.hd, I.ok.frames, .inl rfl,
      fun b hb => ⟨Nat.ne_of_lt (hfo b hb), fun x c e => (hf b hb).2.2.2.2.1 x c (sub x c e)⟩, I.bs, Nat.le_trans I.ok.bsz I.sz, fun b o e hb => ?_, stk, I.stack, I.stkFree⟩,
    rfl, I.bare, Un.kept hsb, ⟨_, hns, fun i x v e1 e2 e3 => ?_⟩, fun x c e => ?_, I.fresh, fun x c e => I.freeC x c (sub x c e), fun p hp => absurd (show p ∈ ([] : List (Addr × Obj)) from hp) (by simp), I.hok.kept hsb, ?_⟩
  · have hx : (relabel scope X.env).names.lookup x = some .cell ∨ (relabel scope X.env).names.lookup x = some .free := hx
    have hfree : scope.names.lookup x = some .free := by
      rcases hx with z | z
      · rcases relabel_of z with q | q
        · exact absurd rfl (L.nocell _ (PySem.mem_of_lookup q))
        · exact q
      · rcases relabel_of z with q | q
        · exact q
        · exact q
    exact has x hfree
  · obtain ⟨_, _, _, q, _⟩ := hf b hb
    rcases q with q | q
    · exact I.ok.noex b o e q
    · exact absurd (Nat.lt_of_lt_of_le (Heap.lt_size (I.ok.bs b o e).1) q) (Nat.lt_irrefl _)
  ·
    unfold lcStart at e2
    rw [List.getElem?_map] at e2
    cases eo : ix[i]? with
    | none => rw [eo] at e2; cases e2
    | some o =>
      rw [eo] at e2
      cases o with
      | none => exact absurd (show (some none : Option (Option V)) = some (some v) from e2) (by simp)
      | some j =>
        obtain ⟨n1, n2⟩ := L.free i x j e1 eo
        have e3' : (σ[j]?).join = some v := Option.some.inj (show some ((σ[j]?).join) = some (some v) from e2)
        have e4 : σ[j]? = some (some v) := by
          cases q : σ[j]? with
          | none => rw [q] at e3'; cases e3'
          | some z =>
            rw [q] at e3'
            have : z = some v := e3'
            rw [this]
        have hcl : X.env.scope.names.lookup x = some .cell := L.cell _ (PySem.mem_of_lookup n2) rfl
        obtain ⟨m, hn, hl⟩ := I.loc
        obtain ⟨u, r, l⟩ := hl j x v n1 e4 (.inr (.inl hcl))
        refine ⟨u, r, ?_⟩
        rcases l with ⟨k, _⟩ | ⟨k, c, ec, z⟩
        · have k' : X.env.scope.names.lookup x = some .local := k
          rw [hcl] at k'; cases k'
        · obtain ⟨c', hc'⟩ := has x n2
          have ecc : c' = c := by
            have q := sub x c' hc'
            rw [ec] at q; exact (Option.some.inj q).symm
          subst ecc
          refine .inr ⟨?_, c', hc', ?_⟩
          · exact relabel_free n2
          · obtain ⟨o', ho', hd'⟩ := z
            exact ⟨o', hsb _ _ ho', hd'⟩
  · obtain ⟨v, o, ho, hd⟩ := I.cell x c (sub x c e)
    exact ⟨v, o, hsb _ _ ho, hd⟩
  · show (lcStart ix σ).length = N'.length
    unfold lcStart
    rw [List.length_map]; exact L.len.symm
end L2
namespace L2
open PySem PySem.Spec PyProof.Rows
abbrev lcTests (ifs : List Expr) (env : Env) : Sem Bool := forIn ifs true fun c r => if r = true then do let ok ← isTrue c env (eval c env); pure (ForInStep.yield ok) else pure (ForInStep.yield r)
section
variable {prog : Program} {w : World} {A : Around} {R : Result → Shared → Prop} {s : Shared}
theorem lc_loop {elt target iter : Expr} {ifs : List Expr} {scope : Scope} {pos : Pos} {it acc : Value} {env : Env} (I : Nat → Shared → Prop)
    (turn : ∀ n s, I n s → wpAny (model prog w) A (pyNext it) (fun r s₁ => match r with
      | none => R (.ok .next) s₁
      | some v => wpAny (model prog w) A (letOwnedTupleGo target it v) (fun _ s₁' => wpAny (model prog w) A (assign target env v) (fun _ s₂ =>
          wpAny (model prog w) A (lcTests ifs env) (fun ok s₃ =>
            if ok = true then wpAny (model prog w) A (eval elt env) (fun x s₄ =>
              wpAny (model prog w) A (call (.builtin "list.append") [acc, x]) (fun _ s₅ => ∃ m, m < n ∧ I m s₅) (fun _ _ => False) s₄) (fun _ _ => False) s₃
            else ∃ m, m < n ∧ I m s₃) (fun _ _ => False) s₂) (fun _ _ => False) s₁') (fun _ _ => False) s₁) (fun _ _ => False) s)
    (n : Nat) (h : I n s) : codeAny (model prog w) A (.compLoop (.ListComp elt [⟨target, iter, ifs, 0⟩] scope pos) 0 it acc env) R s := by
  refine codeAny_loop rfl I (fun n s hI => ?_) n h
  show wpAny _ A ((compTurn (.ListComp elt [⟨target, iter, ifs, 0⟩] scope pos) 0 it acc env).onRaise (fun x => do noteFrame x env; theTreesLotGoes x)) _ _ s
  refine wpAny_noted ?_
  rw [compTurn_list]
  refine wpAny_bind (wpAny_standAt (wpAny_bind (wpAny_mono (turn n s hI) (fun r s₁ h₁ => ?_) fun _ _ f => f.elim)))
  cases r with
  | none => exact wpAny_pure h₁
  | some v =>
    refine wpAny_bind (wpAny_mono h₁ (fun _ s₁' h₁' => ?_) fun _ _ f => f.elim)
    refine wpAny_bind (wpAny_mono h₁' (fun _ s₂ h₂ => wpAny_bind (wpAny_mono h₂ (fun ok s₃ h₃ => ?_) fun _ _ f => f.elim)) fun _ _ f => f.elim)
    cases ok with
    | false => exact wpAny_pure ⟨rfl, h₃⟩
    | true => exact wpAny_bind (wpAny_bind (wpAny_mono h₃ (fun x s₄ h₄ => wpAny_bind (wpAny_mono h₄ (fun _ s₅ h₅ => wpAny_pure (wpAny_pure ⟨rfl, h₅⟩)) fun _ _ f => f.elim)) fun _ _ f => f.elim))
end
def PF (X : Cx) (ifs : List Expr) (t : TT) : Prop :=
  ∀ (pins : List (Addr × Obj)) (s : Shared) (σ : St) (H : Hp) (Q : Bool → Hp → Prop), Inv X pins σ H s → t σ H Q → wpAny (model X.prog X.w) X.A (lcTests ifs X.env) (TP X pins σ Q) X.xe s
theorem pf_nil {X : Cx} : PF X [] (fun _ H Q => Q true H) := fun _ _ _ H _ I h => wpAny_tests_nil ⟨H, I, h⟩
def LcW (J : It) (D : Addr) (σ0 : St) (H0 : Hp) (g : TG) (tc : TT) (te : TE) (Q : Hp → Prop) : Prop :=
  ∃ W : Nat → Nat → St → Hp → Prop, (∃ m, W 0 m σ0 H0) ∧ ∀ i m σ H, W i m σ H → (J.stop i H ∧ Q H) ∨
    (J.go i H ∧ ∃ N : St → Hp → Prop, (∀ σ' H', N σ' H' → ∃ m', m' < m ∧ W (i + 1) m' σ' H') ∧ ∀ x H', J.yld i H x H' → g x σ H' fun σ2 H2 => tc σ2 H2 fun b H3 =>
      if b = true then te σ2 H3 fun y H4 => ∃ ys, H4 D = some (.lst ys) ∧ ys.length < sizeLine ∧ N σ2 (upd H4 D (.lst (ys ++ [y]))) else N σ2 H3)
def tLC (wi : TI) (ix : List (Option Nat)) (g : TG) (tc : TT) (te : TE) : TE := fun σ H Q => wi σ H fun J H1 => ∀ D, H1 D = none → LcW J D (lcStart ix σ) (upd H1 D (.lst [])) g tc te fun H' => Q (.ref D) H'
section
variable {X : Cx} {scope : Scope} {N' : List Str} {ix : List (Option Nat)} {tg iter elt : Expr} {ifs : List Expr} {pos : Pos} {g : TG} {tc : TT} {te : TE}
theorem lc_core {use : Option (Value → Sem Unit)} {Qf : Value → Shared → Prop} {QD : Addr → Hp → Prop} {pins : List (Addr × Obj)} {s2 : Shared} {σ : St} {H2 : Hp} {it : Addr} {fp : List Addr} {tn : Nat → Heap → Prop} {J : It}
    (L : LcOk X N' ix scope) (hc : X.calm = true) (hin : ∀ s H ex, PG (cxC X scope N' s H ex) tg g ∧ PF (cxC X scope N' s H ex) ifs tc ∧ PE (cxC X scope N' s H ex) elt te)
    (I2 : Inv X pins σ H2 s2) (T : Turn X.prog X.w X.K tg J fp it tn) (st2 : tn 0 s2.heap) (f2 : ∀ b ∈ fp, FpOk X pins H2 b)
    (hw : ∀ D, H2 D = none → LcW J D (lcStart ix σ) (upd H2 D (.lst [])) g tc te (QD D))
    (hfin : ∀ D C H' s' m, Inv X pins σ H' s' → FpOk X pins H' C → s'.heap.Ns C m → QD D H' → compPost (model X.prog X.w) X.A X.xe use Qf (.ref D) C (.ok .next) s') :
    wpAny (model X.prog X.w) X.A (newList []) (fun acc s₃ => wpAny (model X.prog X.w) X.A (newFunctionEnv scope X.env.globals (lcCl scope X.env) [] X.env.qual none .none (some X.env)) (fun cenv s₄ =>
      codeAny (model X.prog X.w) X.A (.compStart (.ListComp elt [⟨tg, iter, ifs, 0⟩] scope pos) 0 (.ref it) acc { cenv with scope := relabel scope X.env }) (compPost (model X.prog X.w) X.A X.xe use Qf acc cenv.locals) s₄) X.xe s₃) X.xe s2 := by
  refine wpAny_newObj_type (wpAny_newFunctionEnv L.nocell (by intro y hy; simp at hy) (fun h₁ hns₁ hsb₁ => ?_) L.kind)
  dsimp only at hns₁ hsb₁ ⊢
  have hD : H2 s2.heap.objs.size = none := I2.fresh
  have I3 : Inv X pins σ (upd H2 s2.heap.objs.size (.lst [])) { s2 with heap := s2.heap.push { cls := .type "list", data := .seq ([] : List Value).toArray }, toks := s2.toks } := I2.lnew (its := []) .nil (Nat.zero_le _)
  generalize hs3 : ({ s2 with heap := s2.heap.push { cls := .type "list", data := .seq ([] : List Value).toArray }, toks := s2.toks } : Shared) = s3 at I3
  have e3 : ({ s2 with heap := s2.heap.push { cls := .type "list", dict := none, data := .seq ([] : List Value).toArray } } : Shared) = s3 := hs3
  have eh : s2.heap.push { cls := .type "list", dict := none, data := .seq ([] : List Value).toArray } = s3.heap := congrArg Shared.heap e3
  have eos : s3.os = s2.os := by rw [← e3]
  have ek : ∀ b o, s2.heap.get? b = some o → s3.heap.get? b = some o := fun b o e => by rw [← eh]; exact Heap.get?_push_of_some _ e
  have esz : s2.heap.objs.size ≤ s3.heap.objs.size := by rw [← eh, Heap.size_push]; exact Nat.le_succ _
  rw [eh] at hns₁ hsb₁ ⊢
  have f3 : ∀ b ∈ fp, FpOk X pins (upd H2 s2.heap.objs.size (.lst [])) b := fun b hb => by
    obtain ⟨o, eo, _⟩ := T.obj _ _ st2 b hb
    refine ⟨?_, (f2 b hb).2⟩
    rw [upd_ne (Nat.ne_of_lt (Heap.lt_size eo))]
    exact (f2 b hb).1
  have flt : ∀ b ∈ fp, b < s3.heap.objs.size := fun b hb => by
    obtain ⟨o, eo, _⟩ := T.obj _ _ st2 b hb
    exact Nat.lt_of_lt_of_le (Heap.lt_size eo) esz
  have k4 : ∀ b o, s3.heap.get? b = some o → h₁.get? b = some o := fun b o e => hsb₁.extBut b o (Nat.ne_of_lt (Heap.lt_size e)) (Heap.get?_push_of_some _ e)
  have st4 : tn 0 h₁ := T.keep _ _ _ st2 fun b _ o e => k4 b o (ek b o e)
  obtain ⟨W, ⟨m0, w0⟩, turn⟩ := hw s2.heap.objs.size hD
  have I4 : ∀ tk, Inv (cxC X scope N' s3 (upd H2 s2.heap.objs.size (.lst [])) fp) [] (lcStart ix σ) (upd H2 s2.heap.objs.size (.lst [])) { s3 with heap := h₁, toks := tk } := fun tk =>
    inv_startC L I3 hns₁ k4 f3 flt
  obtain ⟨hg, hf, he⟩ := hin s3 (upd H2 s2.heap.objs.size (.lst [])) fp
  have stat : ∀ {H' : Hp}, (∀ b ∈ fp, H' b = none) → ∀ b ∈ fp, FpOk (cxC X scope N' s3 (upd H2 s2.heap.objs.size (.lst [])) fp) [] H' b := fun {H'} hn b hb => by
    have ok := (I4 0).ok
    obtain ⟨x1, x2⟩ := ok.exf b hb
    exact ⟨hn b hb, x1, ok.exfs b hb, .inl hb, x2, fun p hp => absurd (show p ∈ ([] : List (Addr × Obj)) from hp) (by simp)⟩
  have loop : ∀ tk, codeAny (model X.prog X.w) X.A (.compLoop (.ListComp elt [⟨tg, iter, ifs, 0⟩] scope pos) 0 (.ref it) (.ref s2.heap.objs.size) (compEnvC scope (lcCl scope X.env) s3.heap.objs.size X.env))
      (compPost (model X.prog X.w) X.A X.xe use Qf (.ref s2.heap.objs.size) s3.heap.objs.size) { s3 with heap := h₁, toks := tk } := fun tk => by
    refine lc_loop (fun n s' => ∃ i σ' H', Inv (cxC X scope N' s3 (upd H2 s2.heap.objs.size (.lst [])) fp) [] σ' H' s' ∧ tn i s'.heap ∧ (∀ b ∈ fp, H' b = none) ∧ W i n σ' H') ?_ m0
      ⟨0, _, _, I4 tk, st4, fun b hb => (f3 b hb).1, w0⟩
    rintro n s5 ⟨i, σ5, H5, I5, st5, fr5, w5⟩
    rcases turn i n σ5 H5 w5 with ⟨stop, qn⟩ | ⟨go, N, hN, step⟩
    · refine thn (T.done (cxC X scope N' s3 (upd H2 s2.heap.objs.size (.lst [])) fp) rfl rfl rfl hc i [] s5 σ5 H5 _ I5 (stat fr5) st5 stop) fun r s6 ⟨hr, I6⟩ => ?_
      subst hr
      have u : Un (frs X.stack) fp H2 H5 s2.heap s6.heap := (Un.laid (o := .lst []) ek (Nat.le_refl _) hD).trans I6.base
      have J6 : Inv X pins σ H5 s6 := I2.call' (ch := fp) (I6.os.trans eos) u I6.hok I6.bare fun b hb => by
        obtain ⟨_, x1, _, x3, x4, x5⟩ := f2 b hb
        exact ⟨x3, x1, x4, x5⟩
      obtain ⟨m, hm, _⟩ := I6.loc
      exact hfin _ _ H5 s6 m J6 (I2.fpOk esz I6.free) hm qn
    · refine thn (T.item (cxC X scope N' s3 (upd H2 s2.heap.objs.size (.lst [])) fp) rfl rfl rfl hc i [] s5 σ5 H5 _ I5 (stat fr5) st5 go) fun r s6 ⟨v, hr, h6⟩ => ?_
      subst hr
      refine thn h6 fun _ s7 ⟨x, H7, I7, r7, y7, st7, fr7⟩ => ?_
      have I7' := I7.pinned (stat fr7) (T.obj _ _ st7)
      refine thn (hg _ s7 σ5 H7 x v _ I7' r7 (step x H7 y7)) fun _ s8 ⟨σ8, H8, I8, q8⟩ => ?_
      have again : ∀ {σ9 : St} {H9 : Hp} {s9 : Shared}, Inv (cxC X scope N' s3 (upd H2 s2.heap.objs.size (.lst [])) fp) ([] ++ pinsAt fp s7.heap) σ9 H9 s9 → N σ9 H9 →
          ∃ m, m < n ∧ ∃ i σ' H', Inv (cxC X scope N' s3 (upd H2 s2.heap.objs.size (.lst [])) fp) [] σ' H' s9 ∧ tn i s9.heap ∧ (∀ b ∈ fp, H' b = none) ∧ W i m σ' H' := fun {σ9 H9 s9} I9 n9 => by
        obtain ⟨m', hm, w9⟩ := hN σ9 H9 n9
        refine ⟨m', hm, i + 1, σ9, H9, I9.unpinned, T.keep _ _ _ st7 fun b hb o e => (I9.pin (b, o) (List.mem_append_right _ (List.mem_append_right _ (mem_pinsAt hb e)))).1, fun b hb => ?_, w9⟩
        obtain ⟨o, e, d⟩ := T.obj _ _ st7 b hb
        exact (I9.pin (b, o) (List.mem_append_right _ (List.mem_append_right _ (mem_pinsAt hb e)))).2.1
      refine thn (hf _ s8 σ8 H8 _ I8 q8) fun ok s9 ⟨H9, I9, q9⟩ => ?_
      cases ok with
      | false => exact again I9 q9
      | true =>
        refine thn (he _ s9 σ8 H9 _ I9 q9) fun y s10 ⟨v10, H10, I10, r10, ys, hy, hz, n10⟩ => ?_
        refine thn (mt_append _ s10 σ8 H10 (.ref s2.heap.objs.size) [v10] (.ref s2.heap.objs.size) [y] (fun _ H' => N σ8 H') I10 rfl (.cons r10 .nil) ⟨_, ys, v10, rfl, rfl, hy, hz, n10⟩) fun _ s11 ⟨_, H11, I11, _, q11⟩ => ?_
        exact again I11 q11
  have es : ∀ tk, ({ s2 with heap := h₁, toks := tk } : Shared) = { s3 with heap := h₁, toks := tk } := fun tk => by rw [← e3]
  have loop2 : ∀ tk, codeAny (model X.prog X.w) X.A (.compLoop (.ListComp elt [⟨tg, iter, ifs, 0⟩] scope pos) 0 (.ref it) (.ref s2.heap.objs.size) (compEnvC scope (lcCl scope X.env) s3.heap.objs.size X.env))
      (compPost (model X.prog X.w) X.A X.xe use Qf (.ref s2.heap.objs.size) s3.heap.objs.size) { s2 with heap := h₁, toks := tk } := fun tk => by
    rw [es tk]
    exact loop tk
  exact codeAny_compStart_list (loop2 _) (T.self _ 0 _ _ _ st4 (loop2 _))
theorem pe_lc {wi : TI} (L : LcOk X N' ix scope) (hc : X.calm = true) (hi : PI X tg iter wi) (hin : ∀ s H ex, PG (cxC X scope N' s H ex) tg g ∧ PF (cxC X scope N' s H ex) ifs tc ∧ PE (cxC X scope N' s H ex) elt te)
    (hs : ∀ x, foldedSetIterable iter X.env x = pure x := by intro _; rfl) : PE X (.ListComp elt [⟨tg, iter, ifs, 0⟩] scope pos) (tLC wi ix g tc te) := by
  intro pins s σ H Q I h
  have hcells : ∀ y ∈ scope.names, y.2 = .free → ∃ c, X.env.cells.lookup y.1 = some c := fun y hy z => I.ok.has y.1 (.inl (L.cell y hy z))
  rw [eval_ListComp]
  refine wpAny_comprehension_free (use := none) rfl hs (lcCl_closure hcells) L.kind L.loc (thn (hi pins s σ H _ I h) fun v s1 h1 => thn h1 fun itv s2 h2 => ?_)
  obtain ⟨it, fp, tn, J, H2, e, I2, T, st2, f2, hw⟩ := h2
  subst e
  refine lc_core (QD := fun D H' => Q (.ref D) H') L hc hin I2 T st2 f2 hw fun D C H' s' m I' fC hm q => ⟨m, hm, fun h' hsb => ?_⟩
  obtain ⟨x0, x1, x2, x3, x4, x5⟩ := fC
  exact ⟨.ref D, H', I'.turned (t' := s'.toks) (fun b o hb e => (hsb.2 b hb).trans e) x0 x1 x3 x4 x5, rfl, q⟩
theorem ps_setLC {wi : TI} {i : Nat} {x : Str} {px spos : Pos} (L : LcOk X N' ix scope) (hc : X.calm = true) (hN : X.N.Nodup) (hi : X.N[i]? = some x) (hx : Loc X.env.scope x) (hit : PI X tg iter wi)
    (hin : ∀ s H ex, PG (cxC X scope N' s H ex) tg g ∧ PF (cxC X scope N' s H ex) ifs tc ∧ PE (cxC X scope N' s H ex) elt te)
    (hsw : swapsWith (.ListComp elt [⟨tg, iter, ifs, 0⟩] scope pos) (some (.Name x px)) spos.line X.env = pure true := by rfl)
    (hs : ∀ x, foldedSetIterable iter X.env x = pure x := by intro _; rfl) (hf : X.fn x = true ∨ X.env.scope.names.lookup x = some .local := by first | exact .inl rfl | exact .inr rfl | assumption) :
    PS X (.Assign [.Name x px] (.ListComp elt [⟨tg, iter, ifs, 0⟩] scope pos) spos) (fun D σ H => tLC wi ix g tc te σ H fun v H' => D.nx (σ.set i (some v)) H') := by
  intro pins s σ H D I h
  have hcells : ∀ y ∈ scope.names, y.2 = .free → ∃ c, X.env.cells.lookup y.1 = some c := fun y hy z => I.ok.has y.1 (.inl (L.cell y hy z))
  rw [exec_Assign_Name_used _ _ _ _ hsw]
  refine wpAny_bind (wpAny_standAt (wpAny_bind ?_))
  show wpAny _ X.A (do let _ ← comprehension (.ListComp elt [⟨tg, iter, ifs, 0⟩] scope pos) scope X.env _ (newList []) false (eval iter X.env) (some (assign (.Name x px) X.env))) _ _ s
  refine wpAny_bind (wpAny_mono (wpAny_comprehension_free (use := some (assign (.Name x px) X.env)) (Q := fun _ s' => SP X pins D .next s') rfl hs (lcCl_closure hcells) L.kind L.loc
    (thn (hit pins s σ H _ I h) fun v s1 h1 => thn h1 fun itv s2 h2 => ?_)) (fun _ s' hq => wpAny_pure (wpAny_pure hq)) fun _ _ e => e)
  obtain ⟨it, fp, tn, J, H2, e, I2, T, st2, f2, hw⟩ := h2
  subst e
  refine lc_core (QD := fun Dd H' => D.nx (σ.set i (some (.ref Dd))) H') L hc hin I2 T st2 f2 hw fun Dd C H' s' m I' fC hm q => ?_
  obtain ⟨x0, x1, x2, x3, x4, x5⟩ := fC
  show wpAny _ X.A (assign (.Name x px) X.env (.ref Dd)) _ _ _
  refine wpAny_assign_Name (store_ok2 I' hN hi hx (v := .ref Dd) rfl (fun s'' I'' hch => ?_) hf)
  obtain ⟨a, hsb, ha⟩ := hch
  have hCa : C ≠ a := by
    rcases ha with ha | ha
    · rw [ha]; exact x1
    · exact fun z => x4 _ _ ha z.symm
  refine ⟨m, hm.sameBut hsb hCa, fun h' hsb' => ?_⟩
  exact ⟨_, H', I''.turned (t' := s''.toks) (fun b o hb e => (hsb'.2 b hb).trans e) x0 x1 x3 x4 x5, q⟩
end
end L2
namespace L2
open PySem PySem.Spec PyProof.Rows
def Its (z : Str) : It := ⟨fun i _ => i < z.cps.size, fun i H x H' => H' = H ∧ ∃ c, z.cps[i]? = some c ∧ x = .str ⟨#[c]⟩, fun i _ => i = z.cps.size⟩
theorem turn_str {P : Program} {w : World} {K : PySem.W.Frag} {tg : Expr} {z : Str} {t : Tok} {it : Addr} {n : String} (hn : ["enumerate", "zip", "dict_itemiterator", "dict_reverseitemiterator", "odict_iterator", "itertools.zip_longest", "itertools.pairwise"].contains n = false)
    (W : ∀ A' : Around, A'.handled = none → Walks P w A' it [it] [it] z.cps.size (SignAt z) (fun i h => h.IsStrIter it n z t i))
    (self : ∀ (A : Around) (i : Nat) (s : Shared) (Q : Value → Shared → Prop) (E : Value → Shared → Prop), s.heap.IsStrIter it n z t i → Q (.ref it) s → wpAny (model P w) A (pyIter (.ref it)) Q E s) :
    Turn P w K tg (Its z) [it] it (fun i h => h.IsStrIter it n z t i) where
  mem := by simp
  obj := fun i h st b hb => by
    have e : b = it := by simpa using hb
    subst e
    obtain ⟨o, e, c, d⟩ := st
    exact ⟨o, e, fun v q => by rw [d] at q; cases q⟩
  keep := fun i h h' st k => by
    obtain ⟨o, e, c, d⟩ := st
    exact ⟨o, k it (by simp) o e, c, d⟩
  item := by
    intro X hP hw hK hc i pins s σ H E I hf st hg
    subst hP hw hK
    obtain ⟨f0, f1, f2, f3, f4, f5⟩ := hf it (by simp)
    refine (W X.A (I.ok.hd hc)).item i s _ _ hg st fun v h' tk hv st' kk => ?_
    obtain ⟨c, u, hcu, rfl⟩ := hv
    have I1 : Inv X pins σ H { s with heap := h', toks := tk } := I.turned (fun b o hb e => kk b o (by simpa using hb) e) f0 f1 f3 f4 f5
    obtain ⟨o, e, cl, d⟩ := id st'
    exact ⟨_, rfl, go_of (s := { s with heap := h', toks := tk }) e cl d hn ⟨.str ⟨#[c]⟩, H, I1, ⟨u, rfl⟩, ⟨rfl, c, hcu, rfl⟩, st', fun b hb => (hf b hb).1⟩⟩
  done := by
    intro X hP hw hK hc i pins s σ H E I hf st hg
    subst hP hw hK
    obtain ⟨f0, f1, f2, f3, f4, f5⟩ := hf it (by simp)
    have e : i = z.cps.size := hg
    subst e
    exact (W X.A (I.ok.hd hc)).done s _ _ st fun h' tk kk => ⟨rfl, I.turned (fun b o hb e => kk b o (by simpa using hb) e) f0 f1 f3 f4 f5⟩
  self := self
section
variable {X : Cx}
theorem op_le_str : OpR X (compareOp .LtE) (fun x y H Q => ∃ i j, x = .str i ∧ y = .str j ∧ Q (.bl (!(decide (j.cps.toList < i.cps.toList)))) H) := by
  intro pins s σ H x y v u Q I rx ry h
  obtain ⟨i, j, rfl, rfl, q⟩ := h
  obtain ⟨t, rfl⟩ := rx
  obtain ⟨t', rfl⟩ := ry
  exact PySem.P.le_str (fin_bl I q rfl)
theorem op_isB : OpR X (compareOp .Is) (fun x y H Q => ∃ c d, x = .bl c ∧ y = .bl d ∧ Q (.bl (c == d)) H) := by
  intro pins s σ H x y v u Q I rx ry h
  obtain ⟨c, d, rfl, rfl, q⟩ := h
  cases rx
  cases ry
  exact is_bool (fin_bl I q rfl)
theorem op_mulS : OpR X (binaryOp .Mult) (fun x y H Q => ∃ z n, x = .str z ∧ y = .int n ∧ MulOk z n ∧ Q (.str (Txt.mul z n)) H) := by
  intro pins s σ H x y v u Q I rx ry h
  obtain ⟨z, n, rfl, rfl, hok, q⟩ := h
  obtain ⟨t, rfl⟩ := rx
  obtain ⟨t', rfl⟩ := ry
  exact SB.mul hok fun t' k => ⟨.str _, H, I.tok _, ⟨_, rfl⟩, q⟩
theorem call_all (hc : X.calm = true) : CallR X (.builtin "all") (fun xs H Q => ∃ (p : Addr) (bs : List Bool), xs = [.ref p] ∧ SqL X.K H p (bs.map V.bl) ∧ Q (.bl (bs.all id)) H) := by
  intro pins s σ H xs us Q I r h
  obtain ⟨p, bs, rfl, hl, q⟩ := h
  obtain ⟨u, rfl, ru⟩ := vals1 r
  cases (show u = Value.ref p from ru)
  obtain ⟨its, rv, pl, hz⟩ := I.list hl
  have hb : its = bs.map Value.bool := by
    clear hz pl hl q I
    induction bs generalizing its with
    | nil => cases rv; rfl
    | cons b r ih =>
      cases rv with
      | cons r1 r2 =>
        rw [List.map_cons, ← ih _ (by exact r2)]
        cases (show _ = Value.bool b from r1)
        rfl
  subst hb
  have hlt : p < s.heap.objs.size := by obtain ⟨o, n, e, _⟩ := pl; exact Heap.lt_size e
  refine call_all_walk (wpAny_pyIter_list pl.isList ?_)
  refine ⟨s.heap.objs.size, [s.heap.objs.size, p], [s.heap.objs.size], (bs.map Value.bool).toArray.size, _, _, fun i => (bs[i]?).getD true, rfl, Walks.list (A := X.A.in1) (I.ok.hd hc) _ p (Nat.ne_of_lt hlt) _,
    ⟨⟨_, Heap.get?_push_size _ rfl, rfl, rfl⟩, pl.isList.push _⟩, fun i v s' Q' E' hP hQ => ?_, fun h' tk hk => ?_⟩
  · have hP' : (bs.map Value.bool)[i]? = some v := by simpa using hP
    rw [List.getElem?_map] at hP'
    cases eb : bs[i]? with
    | none => rw [eb] at hP'; cases hP'
    | some b =>
      rw [eb] at hP'
      cases hP'
      simp only [eb, Option.getD_some] at hQ
      exact wpAny_truthy_bool hQ
  · have e : ((List.range (bs.map Value.bool).toArray.size).all fun i => (bs[i]?).getD true) = bs.all id := by
      rw [List.size_toArray, List.length_map]; exact LSm.range_all bs
    rw [e]
    exact ⟨.bl _, H, I.kept (LSm.kept_iter hk), rfl, q⟩
theorem strs_of : ∀ {ts : List Str} {its : List Value}, Vals (ts.map V.str) its → ∃ l : List (Str × Tok), its = strValues l ∧ l.map (·.1) = ts
  | [], _, .nil => ⟨[], rfl, rfl⟩
  | x :: r, _, .cons r1 r2 => by
    obtain ⟨l, e1, e2⟩ := strs_of r2
    obtain ⟨t, rfl⟩ := (show ∃ t, _ = Value.str x t from r1)
    exact ⟨(x, t) :: l, by rw [e1]; rfl, by rw [List.map_cons, e2]⟩
theorem mt_join : MtM X "str.join" (fun x xs H Q => ∃ (z : Str) (p : Addr) (ts : List Str), x = .str z ∧ xs = [.ref p] ∧ SqL X.K H p (ts.map V.str) ∧ JoinOk z ts = true ∧ Q (.str (Txt.join z ts)) H) := by
  intro pins s σ H x vs v us Q I rx rv h
  obtain ⟨z, p, ts, rfl, rfl, hl, hok, q⟩ := h
  obtain ⟨t, rfl⟩ := rx
  obtain ⟨u, rfl, ru⟩ := rv.one
  cases (show u = Value.ref p from ru)
  obtain ⟨its, rv, pl, hz⟩ := I.list hl
  obtain ⟨l, rfl, e2⟩ := strs_of rv
  exact SC.join pl.isList e2 hok fun t' k => ⟨.str _, H, I.tok _, ⟨_, rfl⟩, q⟩
end
end L2
namespace L2
open PySem PySem.Spec PyProof.Rows
theorem Same.tup {K : PySem.W.Frag} {H H' : Hp} {a : Addr} {xs : List V} (e : Same H H') (h : SqT K H a xs) : SqT K H' a xs := by
  rcases h with (h | ⟨o, h⟩) | h
  · exact .inl (.inl (e _ _ h))
  · exact .inl (.inr ⟨o, e _ _ h⟩)
  · exact .inr h
theorem Same.upd {H : Hp} {D : Addr} {o : HO} (hD : H D = none) : Same H (upd H D o) := fun b u e => by rw [upd_ne (ne_of_none e hD)]; exact e
theorem Same.upd' {H H' : Hp} {D : Addr} {o : HO} (s : Same H H') (hD : H D = none) : Same H (L2.upd H' D o) := fun b u e => by rw [upd_ne (ne_of_none e hD)]; exact s b u e
structure DefAt (K : PySem.W.Frag) (mg : Str → Option Value) (x : Str) (st : Stmt) (ps : List Str) (f : Addr) (fd : FuncData) : Prop where
  fn : Fun K x x st f fd
  bd : Binds K fd ps []
  mg : mg x = some (.ref f)
theorem pe_def {X : Cx} {x : Str} {st : Stmt} {ps : List Str} {f : Addr} {fd : FuncData} {k : Nat} {sp : Sp} {e : Expr} {es : List Expr} {t : TA} {p pos : Pos} (D : DefAt X.K X.mg x st ps f fd) (G : FnOk X.prog X.w X.K X.mg X.base CX0 k f fd ps sp) (hr : Room k X.A)
    (ha : PA X (e :: es) t) (hg : Gl X x := by rfl) (hdb : (x == ("__debug__" : Str)) = false := by decide) (he : starEach (e :: es) X.env = (false, eval e X.env) :: starEach es X.env := by rfl)
    (hpl : (backTo pos (starEach es X.env)).any (·.1) = false := by rfl) : PE X (.Call (.Name x p) (e :: es) [] pos) (tCall sp [] E0 t) := by
  have q := pe_call (p := p) (pos := pos) G hr hg D.mg D.fn.kp D.bd .nil pass0 ha (hdb := hdb) (he := he) (hpl := hpl)
  exact q
theorem pe_notT {X : Cx} {a : Expr} {ta : TE} {pos : Pos} (ha : PE X a ta) : PE X (.UnaryOp .Not a pos) (fun σ H Q => ta σ H fun x H1 => ∃ k, TruV X.K x H1 k ∧ Q (.bl (!k)) H1) := by
  intro pins s σ H Q I h
  refine UnaryOp_ (thn (ha pins s σ H _ I h) fun v s1 ⟨x, H1, I1, r1, q1⟩ => ?_)
  refine not_of (thn (tru_ok pins s1 σ H1 x v (fun k H' => Q (.bl (!k)) H') I1 r1 q1) fun b s2 ⟨H2, I2, q2⟩ => ?_)
  exact ⟨.bl (!b), H2, I2, rfl, q2⟩
end L2
namespace L2
open PySem PySem.Spec PyProof.Rows
theorem at_one {x : Str} {c k : Nat} : StrLaws.At x ⟨#[c]⟩ x.length k ↔ x.cps.toList[k]? = some c := by
  unfold StrLaws.At
  rw [StrLaws.subAt_eq]
  have e1 : (⟨#[c]⟩ : Str).length = 1 := rfl
  have e2 : (⟨#[c]⟩ : Str).cps.toList = [c] := rfl
  have hn : x.cps.toList.length = x.length := by simp [Str.length]
  rw [e1, e2]
  constructor
  · rintro ⟨h1, h2⟩
    have h3 := eq_of_beq h2
    have hk : k < x.cps.toList.length := by omega
    rw [List.drop_eq_getElem_cons hk] at h3
    simp at h3
    rw [List.getElem?_eq_getElem hk]
    simpa using h3
  · intro h
    have hk : k < x.cps.toList.length := (List.getElem?_eq_some_iff.mp h).1
    refine ⟨by omega, ?_⟩
    rw [List.drop_eq_getElem_cons hk]
    rw [List.getElem?_eq_getElem hk] at h
    have h' := Option.some.inj h
    simp [h']
theorem split_len (x : Str) (c : Nat) : (Builtin.Str.partsBetween x (Builtin.Str.occurrences x ⟨#[c]⟩ 0 x.length (x.length + 1)) 1).length ≤ x.length + 2 := by
  rw [length_partsBetween]
  have := StrLaws.occ_length_le_len x ⟨#[c]⟩ 0 x.length (x.length + 1)
  omega
section
variable {X : Cx}
theorem mt_split : MtM X "str.split" (fun x xs H Q => ∃ (z : Str) (c : Nat), x = .str z ∧ xs = [.str ⟨#[c]⟩] ∧ z.length + 2 ≤ sizeLine ∧ ∀ p, H p = none → Q (.ref p) (upd H p (.lst ((Txt.split z ⟨#[c]⟩).map V.str)))) := by
  intro pins s σ H x vs v us Q I rx rv h
  obtain ⟨z, c, rfl, rfl, hz, q⟩ := h
  obtain ⟨t, rfl⟩ := rx
  obtain ⟨u, rfl, ru⟩ := rv.one
  obtain ⟨tu, rfl⟩ := (show ∃ t, u = Value.str ⟨#[c]⟩ t from ru)
  have q0 := q _ I.fresh
  have vals : ∀ l : List (Str × Tok), Vals ((l.map (·.1)).map V.str) (strValues l) := fun l => by
    induction l with
    | nil => exact .nil
    | cons a r ih => exact .cons ⟨_, rfl⟩ ih
  have fin : ∀ (l : List (Str × Tok)) (tk : Nat), l.map (·.1) = Txt.split z ⟨#[c]⟩ → l.length ≤ sizeLine → EP X pins σ Q (.ref s.heap.objs.size) { s with heap := s.heap.push { cls := .type "list", data := .seq (strValues l).toArray }, toks := tk } := fun l tk e hl => by
    have hv := vals l
    rw [e] at hv
    refine ⟨.ref s.heap.objs.size, _, I.lnew hv ?_, rfl, q0⟩
    rw [List.length_map, ← e, List.length_map]; exact hl
  have hlen := split_len z c
  cases h1 : (decide (z.length < (⟨#[c]⟩ : Str).length) || decide (Builtin.Str.strKind z < Builtin.Str.strKind ⟨#[c]⟩))
  · cases hf : (Builtin.Str.occurrences z ⟨#[c]⟩ 0 z.length (z.length + 1)).isEmpty
    · refine call_meets F.slot_str_split (typeIs_str _ _ _) F.entry_str_split (F.args_str_split_2 _ _) (meets_str_split_sep z ⟨#[c]⟩ t tu h1 rfl hf (by omega) (by show (Builtin.Str.partsBetween z _ 1).length ≤ _; omega)) ?_
      rw [strsFrom_eq]
      refine fin (numbered s.toks _) _ ?_ ?_
      · rw [numbered_texts]
        unfold Txt.split
        rw [if_neg (ne_true_of_eq_false h1), if_neg (ne_true_of_eq_false hf)]
      · have e := congrArg List.length (numbered_texts s.toks (Builtin.Str.partsBetween z (Builtin.Str.occurrences z ⟨#[c]⟩ 0 z.length (z.length + 1)) (⟨#[c]⟩ : Str).length))
        rw [List.length_map] at e
        rw [e]
        show (Builtin.Str.partsBetween z _ 1).length ≤ _
        omega
    · refine call_meets F.slot_str_split (typeIs_str _ _ _) F.entry_str_split (F.args_str_split_2 _ _) (meets_str_split_not_found z ⟨#[c]⟩ t tu h1 rfl hf) ?_
      refine fin [(z, t)] s.toks ?_ (by show 1 ≤ sizeLine; decide)
      unfold Txt.split
      rw [if_neg (ne_true_of_eq_false h1), if_pos hf]; rfl
  · refine call_meets F.slot_str_split (typeIs_str _ _ _) F.entry_str_split (F.args_str_split_2 _ _) (meets_str_split_cannot_occur z ⟨#[c]⟩ t tu h1) ?_
    refine fin [(z, t)] s.toks ?_ (by show 1 ≤ sizeLine; decide)
    unfold Txt.split
    rw [if_pos h1]; rfl
def rSlS : V → Option Int → Option Int → Hp → VK → Prop := fun x lo hi H Q => ∃ z, x = .str z ∧ z.length ≤ sizeLine ∧ Q (.str (Txt.slice z lo hi)) H
theorem sl_str : SlR X rSlS := by
  intro pins s σ H x v vl vu lo hi sl Q I rx hs pl pu h
  obtain ⟨z, rfl, hz, q⟩ := h
  obtain ⟨t, rfl⟩ := rx
  refine ⟨"str", _, F.slot_str_getitem.lookup, typeIs_str _ _ _, ?_⟩
  have go : ∀ (l u : Option (Int × Tok)), s.heap.IsSlice sl l u none → lo = l.map (·.1) → hi = u.map (·.1) → wpAny (model X.prog X.w) X.A (getItem (.str z t) (.ref sl)) (EP X pins σ Q) X.xe s := fun l u hh e1 e2 => by
    subst e1 e2
    exact wpAny_getItem_str_slice hh rfl (post_val_or_str ⟨Nat.le_trans (Txt.slice_le z _ _) hz, fun t' k => ⟨.str _, H, I.tok _, ⟨_, rfl⟩, q⟩⟩)
  cases pl with
  | none =>
    cases pu with
    | none => exact go none none hs rfl rfl
    | int j tj => exact go none (some (j, tj)) hs rfl rfl
  | int i ti =>
    cases pu with
    | none => exact go (some (i, ti)) none hs rfl rfl
    | int j tj => exact go (some (i, ti)) (some (j, tj)) hs rfl rfl
end
end L2
namespace L2
open PySem PySem.Spec PyProof.Rows
section
variable {X : Cx}
theorem isTup_get {h : Heap} {p : Addr} {its : Array Value} (ht : h.IsTuple p its) : ∃ dd n sl, h.get? p = some ⟨.type "tuple", dd, .seq its n, sl⟩ := by
  obtain ⟨⟨cls, dd, data, sl⟩, h1, h2, n, h3⟩ := ht
  dsimp only at h2 h3
  subst h2 h3
  exact ⟨dd, n, sl, h1⟩
end
end L2
namespace L2
open PySem PySem.Spec PyProof.Rows
def KDict (K : PySem.W.Frag) (w : World) (a : Addr) (kvs : List (Str × Value)) : Prop :=
  (a == sysModules) = false ∧ ∃ o es ep, K.lookup a = some o ∧ o.ExactDict ∧ o.data = .dict es ep ∧ ∀ prog, KeysOf (PySem.strKind prog w) es ∧ Pairs (PySem.strKind prog w) es.toList kvs ∧ (kvs.map (·.1)).Nodup
section
variable {X : Cx} {pins : List (Addr × Obj)} {σ : St} {H : Hp} {s : Shared}
theorem KDict.of {a : Addr} {kvs : List (Str × Value)} (D : KDict X.K X.w a kvs) (I : Inv X pins σ H s) : s.heap.DictOf (PySem.strKind X.prog X.w) a kvs := by
  obtain ⟨_, o, es, ep, h1, h2, h3, h4⟩ := D
  obtain ⟨k1, k2, k3⟩ := h4 X.prog
  exact ⟨o, es, ep, I.kIn _ _ h1, h2, h3, k1, k2, k3⟩
theorem op_inKD : OpR X (compareOp .In) (fun x y H Q => ∃ (z : Str) (a : Addr) (kvs : List (Str × Value)), x = .str z ∧ y = .ref a ∧ KDict X.K X.w a kvs ∧ Q (.bl (valueAt kvs z).isSome) H) := by
  intro pins s σ H x y v u Q I rx ry h
  obtain ⟨z, a, kvs, rfl, rfl, D, q⟩ := h
  obtain ⟨t, rfl⟩ := rx
  cases (show u = Value.ref a from ry)
  exact wpAny_in_of (knd := PySem.strKind X.prog X.w) (k := z) (by simp [PySem.strKind, Value.isStrOf]) D.1 (D.of I).mapOf ⟨.bl _, H, I.tok _, rfl, q⟩
theorem pe_getKD {o i : Expr} {to ti : TE} {pos : Pos} (ho : PE X o to) (hi : PE X i ti) (hs : NoSl i) :
    PE X (.Subscript o i pos) (tOp (fun x y H Q => ∃ (a : Addr) (z : Str) (kvs : List (Str × Value)) (u : Value) (v : V), x = .ref a ∧ y = .str z ∧ KDict X.K X.w a kvs ∧ valueAt kvs z = some u ∧ RelV v u ∧ Q v H) to ti) := by
  intro pins s σ H Q I h
  refine subD_of PySem.F.slot_dict_getitem.lookup hs (thn (ho pins s σ H _ I h) fun u s1 ⟨x, H1, I1, rx, q1⟩ => thn (hi pins s1 σ H1 _ I1 q1) fun iv s2 ⟨y, H2, I2, ry, q2⟩ => ?_)
  obtain ⟨a, z, kvs, u', v, rfl, rfl, D, hv, rv, q⟩ := q2
  cases (show u = Value.ref a from rx)
  obtain ⟨t, rfl⟩ := ry
  have dd := D.of I2
  refine ⟨?_, wpAny_getItem_of (knd := PySem.strKind X.prog X.w) (k := z) (by simp [PySem.strKind, Value.isStrOf]) dd.mapOf hv ⟨v, H2, I2.tok _, rv, q⟩⟩
  obtain ⟨ob, es, ep, h1, h2, _⟩ := dd
  exact ⟨ob, h1, h2.1⟩
end
end L2
namespace L2
open PySem PySem.Spec PyProof.Rows
inductive Tr where
  | non | bl (b : Bool) | int (i : Int) | str (z : Str) | ty (n : String)
  | scr (ns : List Int) | tup (ts : List Tr) | lst (ts : List Tr) | dic (kts : List (Key × Tr)) | at (i : Nat)
  | dct (kts : List (List Key × Tr)) | ob (x : Str) (fs : List (Str × Tr)) | exn (x : Str)
def txMax : Nat := 1000000
def clsAt (K : PySem.W.Frag) (x : Str) : Addr := match PySem.W.nsIn K mainGlobals x with
  | some (some (.ref C)) => C
  | _ => 0
structure Vw where
  H : Hp
  ix : Addr → Option Nat
instance : Coe Vw Hp := ⟨Vw.H⟩
instance : CoeFun Vw (fun _ => Addr → Option HO) := ⟨Vw.H⟩
structure SameV (W W' : Vw) : Prop where
  h : Same W.H W'.H
  x : ∀ a i, W.ix a = some i → W'.ix a = some i
theorem SameV.refl (W : Vw) : SameV W W := ⟨Same.refl _, fun _ _ e => e⟩
theorem SameV.trans {W W1 W2 : Vw} (a : SameV W W1) (b : SameV W1 W2) : SameV W W2 := ⟨a.h.trans b.h, fun c i e => b.x c i (a.x c i e)⟩
mutual
inductive Rep (K : PySem.W.Frag) (H : Vw) : V → Tr → Prop where
  | non : Rep K H .non .non
  | bl (b : Bool) : Rep K H (.bl b) (.bl b)
  | int (i : Int) : Rep K H (.int i) (.int i)
  | str (z : Str) (h : z.length ≤ txMax) : Rep K H (.str z) (.str z)
  | ty (n : String) : Rep K H (.ty n) (.ty n)
  | scr {a : Addr} {ns : List Int} (h : SqL K H.H a (ns.map V.int)) : Rep K H (.ref a) (.scr ns)
  | tup {a : Addr} {vs : List V} {ts : List Tr} (h : SqT K H.H a vs) (r : Reps K H vs ts) : Rep K H (.ref a) (.tup ts)
  | lst {a : Addr} {vs : List V} {ts : List Tr} (h : H.H a = some (.lst vs)) (r : Reps K H vs ts) : Rep K H (.ref a) (.lst ts)
  | dic {a : Addr} {kvs : List (Key × V)} {kts : List (Key × Tr)} (h : Rd H.H a (.dK kvs)) (e : kvs.map (·.1) = kts.map (·.1)) (r : Reps K H (kvs.map (·.2)) (kts.map (·.2))) : Rep K H (.ref a) (.dic kts)
  | at {a : Addr} {i : Nat} (h : H.ix a = some i) : Rep K H (.ref a) (.at i)
  | dct {a : Addr} {kvs : List (List Key × V)} {kts : List (List Key × Tr)} (h : H.H a = some (.dT kvs)) (e : kvs.map (·.1) = kts.map (·.1)) (r : Reps K H (kvs.map (·.2)) (kts.map (·.2))) : Rep K H (.ref a) (.dct kts)
  | ob {a dx : Addr} {x : Str} {fvs : List (Str × V)} {fs : List (Str × Tr)} (h : H.H a = some (.ins (clsAt K x) dx fvs)) (e : fvs.map (·.1) = fs.map (·.1)) (r : Reps K H (fvs.map (·.2)) (fs.map (·.2))) : Rep K H (.ref a) (.ob x fs)
  | exn {a : Addr} {oe : Obj} {x : Str} (h : H.H a = some (.ext fun h => h.get? a = some oe)) (c : oe.cls = .ref (clsAt K x)) : Rep K H (.ref a) (.exn x)
inductive Reps (K : PySem.W.Frag) (H : Vw) : List V → List Tr → Prop where
  | nil : Reps K H [] []
  | cons {v : V} {t : Tr} {vs : List V} {ts : List Tr} (h : Rep K H v t) (r : Reps K H vs ts) : Reps K H (v :: vs) (t :: ts)
end
section
theorem Rd.same {H H' : Hp} {a : Addr} {u : HO} (s : Same H H') (h : Rd H a u) : Rd H' a u := by
  rcases h with h | ⟨o, h⟩
  · exact .inl (s _ _ h)
  · exact .inr ⟨o, s _ _ h⟩
variable {K : PySem.W.Frag} {H H' : Vw}
theorem Rep.same (s : SameV H H') {v : V} {t : Tr} (h : Rep K H v t) : Rep K H' v t := by
  refine Rep.rec (motive_1 := fun v t _ => Rep K H' v t) (motive_2 := fun vs ts _ => Reps K H' vs ts) ?_ ?_ ?_ ?_ ?_ ?_ ?_ ?_ ?_ ?_ ?_ ?_ ?_ ?_ ?_ h
  · exact .non
  · exact fun b => .bl b
  · exact fun i => .int i
  · exact fun z h => .str z h
  · exact fun n => .ty n
  · exact fun h => .scr (s.h.seq h)
  · exact fun h _ r => .tup (s.h.tup h) r
  · exact fun h _ r => .lst (s.h _ _ h) r
  · exact fun h e _ r => .dic (Rd.same s.h h) e r
  · exact fun h => .at (s.x _ _ h)
  · exact fun h e _ r => .dct (s.h _ _ h) e r
  · exact fun h e _ r => .ob (s.h _ _ h) e r
  · exact fun h c => .exn (s.h _ _ h) c
  · exact .nil
  · exact fun _ _ h r => .cons h r
theorem Reps.same (s : SameV H H') : ∀ {vs : List V} {ts : List Tr}, Reps K H vs ts → Reps K H' vs ts
  | [], _, h => by cases h; exact .nil
  | _ :: _, _, h => by cases h with | cons h r => exact .cons (h.same s) (Reps.same s r)
theorem Reps.length : ∀ {vs : List V} {ts : List Tr}, Reps K H vs ts → vs.length = ts.length
  | [], _, h => by cases h; rfl
  | _ :: _, _, h => by cases h with | cons h r => rw [List.length_cons, List.length_cons, Reps.length r]
theorem Reps.get : ∀ {vs : List V} {ts : List Tr} {i : Nat} {t : Tr}, Reps K H vs ts → ts[i]? = some t → ∃ v, vs[i]? = some v ∧ Rep K H v t
  | [], _, i, t, h, e => by cases h; simp at e
  | _ :: _, _, 0, t, h, e => by cases h with | cons h r => simp at e; subst e; exact ⟨_, rfl, h⟩
  | _ :: _, _, i + 1, t, h, e => by
    cases h with
    | cons h r =>
      obtain ⟨v, e1, r1⟩ := Reps.get (i := i) (t := t) r (by simpa using e)
      exact ⟨v, by simpa using e1, r1⟩
theorem Reps.getV : ∀ {vs : List V} {ts : List Tr} {i : Nat} {v : V}, Reps K H vs ts → vs[i]? = some v → ∃ t, ts[i]? = some t ∧ Rep K H v t
  | [], _, i, t, h, e => by simp at e
  | _ :: _, _, 0, t, h, e => by cases h with | cons h r => simp at e; subst e; exact ⟨_, rfl, h⟩
  | _ :: _, _, i + 1, t, h, e => by
    cases h with
    | cons h r =>
      obtain ⟨v, e1, r1⟩ := Reps.getV (i := i) r (by simpa using e)
      exact ⟨v, by simpa using e1, r1⟩
theorem Reps.append : ∀ {vs ws : List V} {ts us : List Tr}, Reps K H vs ts → Reps K H ws us → Reps K H (vs ++ ws) (ts ++ us)
  | [], _, _, _, h, q => by cases h; exact q
  | _ :: _, _, _, _, h, q => by cases h with | cons h r => exact .cons h (Reps.append r q)
theorem Reps.take : ∀ {vs : List V} {ts : List Tr} (n : Nat), Reps K H vs ts → Reps K H (vs.take n) (ts.take n)
  | _, _, 0, _ => by rw [List.take_zero, List.take_zero]; exact .nil
  | [], _, _ + 1, h => by cases h; exact .nil
  | _ :: _, _, n + 1, h => by cases h with | cons h r => exact .cons h (Reps.take n r)
theorem Reps.drop : ∀ {vs : List V} {ts : List Tr} (n : Nat), Reps K H vs ts → Reps K H (vs.drop n) (ts.drop n)
  | _, _, 0, h => h
  | [], _, _ + 1, h => by cases h; exact .nil
  | _ :: _, _, n + 1, h => by cases h with | cons h r => exact Reps.drop n r
theorem Reps.rep {vs : List V} {ts : List Tr} (h : Reps K H vs ts) : ∀ n : Nat, Reps K H (List.replicate n vs).flatten (List.replicate n ts).flatten
  | 0 => .nil
  | n + 1 => by
    rw [List.replicate_succ, List.replicate_succ, List.flatten_cons, List.flatten_cons]
    exact h.append (Reps.rep h n)
theorem reps_strs : ∀ {zs : List Str}, (∀ z ∈ zs, z.length ≤ txMax) → Reps K H (zs.map V.str) (zs.map Tr.str)
  | [], _ => .nil
  | z :: zs, h => .cons (.str z (h z (List.mem_cons_self ..))) (reps_strs fun y hy => h y (List.mem_cons_of_mem _ hy))
end
structure Bar where
  hd : Addr → Bool
  ix : Addr → Option Nat
instance : CoeFun Bar (fun _ => Addr → Bool) := ⟨Bar.hd⟩
def hid (B : Bar) (H : Hp) : Vw := ⟨fun b => if B.hd b = true then none else H b, B.ix⟩
def HB (B : Bar) (H : Hp) : Prop := ∀ b, B.hd b = true → ∃ o, H b = some o
section
variable {B B' : Bar} {H H' : Hp}
theorem hid_at {b : Addr} (h : B.hd b = false) : (hid B H).H b = H b := by show (if B.hd b = true then none else H b) = _; rw [h, if_neg Bool.false_ne_true]
theorem hid_sub : Same (hid B H).H H := fun b o (e : (if B.hd b = true then none else H b) = some o) => by
  split at e
  · cases e
  · exact e
theorem hid_same (s : Same H H') : SameV (hid B H) (hid B H') := ⟨fun b o (e : (if B.hd b = true then none else H b) = some o) => by
  show (if B.hd b = true then none else H' b) = some o
  split at e
  · cases e
  · rw [if_neg (by assumption)]; exact s b o e, fun _ _ e => e⟩
def raw (B : Bar) (H : Hp) : Vw := ⟨H, B.ix⟩
theorem hid_raw : SameV (hid B H) (raw B H) := ⟨hid_sub, fun _ _ e => e⟩
theorem HB.same (h : HB B H) (s : Same H H') : HB B H' := fun b e => by obtain ⟨o, q⟩ := h b e; exact ⟨o, s b o q⟩
theorem HB.free {p : Addr} (h : HB B H) (hp : H p = none) : B.hd p = false := by
  cases e : B.hd p with
  | false => rfl
  | true => obtain ⟨o, q⟩ := h p e; rw [hp] at q; cases q
theorem HB.new {p : Addr} {o : HO} (h : HB B H) (hp : H p = none) : (hid B (upd H p o)).H p = some o := by rw [hid_at (h.free hp)]; exact upd_same
structure BarLe (B B' : Bar) : Prop where
  hd : ∀ b, B.hd b = true → B'.hd b = true
  ix : ∀ b i, B'.ix b = some i → B.ix b = some i
theorem hid_mono (h : BarLe B B') : SameV (hid B' H) (hid B H) := ⟨fun b o (e : (if B'.hd b = true then none else H b) = some o) => by
  show (if B.hd b = true then none else H b) = some o
  split at e
  · cases e
  · rename_i n
    rw [if_neg fun z => n (h.hd b z)]; exact e, h.ix⟩
end
inductive Rs (α : Type) where
  | bad | ok (a : α) | exc (c : Tr)
def Rs.bind {α β : Type} (r : Rs α) (f : α → Rs β) : Rs β := match r with
  | .ok a => f a
  | .exc c => .exc c
  | .bad => .bad
theorem Rs.bind_ok {α β : Type} (a : α) (f : α → Rs β) : (Rs.ok a).bind f = f a := rfl
def XA (X : Cx) (c : Tr) (H : Hp) : Prop := False
def FiX (xc : Tr → Prop) {α : Type} (r : Rs α) (k : α → Prop) : Prop := match r with
  | .ok a => k a
  | .exc c => xc c
  | .bad => False
def xP (X : Cx) (H : Hp) : Tr → Prop := fun c => ∀ H', Same H H' → XA X c H'
def Fi (X : Cx) (H : Hp) {α : Type} (r : Rs α) (k : α → Prop) : Prop := FiX (xP X H) r k
section
variable {X : Cx} {H H' : Hp} {α β : Type} {r : Rs α} {k k' : α → Prop} {xc xc' : Tr → Prop}
theorem FiX.mono (h : FiX xc r k) (w : ∀ a, k a → k' a) : FiX xc r k' := by
  cases r with
  | ok a => exact w a h
  | exc c => exact h
  | bad => exact h
theorem FiX.imp (h : FiX xc r k) (w : ∀ c, xc c → xc' c) : FiX xc' r k := by
  cases r with
  | ok a => exact h
  | exc c => exact w c h
  | bad => exact h
theorem FiX.bind {f : α → Rs β} {k : β → Prop} (h : FiX xc (r.bind f) k) : FiX xc r fun a => FiX xc (f a) k := by
  cases r with
  | ok a => exact h
  | exc c => exact h
  | bad => exact h
theorem Fi.mono (h : Fi X H r k) (w : ∀ a, k a → k' a) : Fi X H r k' := FiX.mono h w
theorem Fi.same (h : Fi X H r k) (s : Same H H') : Fi X H' r k := FiX.imp h fun _ q H2 s2 => q H2 (s.trans s2)
theorem Fi.bind {f : α → Rs β} {k : β → Prop} (h : Fi X H (r.bind f) k) : Fi X H r fun a => Fi X H (f a) k := FiX.bind h
end
inductive Cell where
  | no | sh (t : Tr) | ow (ts : List Tr)
abbrev Rho := List Cell
structure RepS (K : PySem.W.Frag) (B : Bar) (H : Hp) (σ : St) (ρ : Rho) : Prop where
  len : ρ.length = σ.length
  sh : ∀ (i : Nat) (t : Tr), ρ[i]? = some (.sh t) → ∃ v, σ[i]? = some (some v) ∧ Rep K (hid B H) v t
  ow : ∀ (i : Nat) (ts : List Tr), ρ[i]? = some (.ow ts) → ∃ D ys, σ[i]? = some (some (.ref D)) ∧ B D = true ∧ H D = some (.lst ys) ∧ Reps K (hid B H) ys ts
  ap : ∀ (i j : Nat) (ts us : List Tr) (D : Addr), i ≠ j → ρ[i]? = some (.ow ts) → ρ[j]? = some (.ow us) → σ[i]? = some (some (.ref D)) → σ[j]? ≠ some (some (.ref D))
section
variable {K : PySem.W.Frag} {B B' : Bar} {H H' : Hp} {σ : St} {ρ : Rho}
theorem RepS.same (h : RepS K B H σ ρ) (s : Same H H') : RepS K B H' σ ρ :=
  ⟨h.len, fun i t e => by obtain ⟨v, e1, r⟩ := h.sh i t e; exact ⟨v, e1, r.same (hid_same s)⟩,
    fun i ts e => by obtain ⟨D, ys, e1, e2, e3, r⟩ := h.ow i ts e; exact ⟨D, ys, e1, e2, s _ _ e3, r.same (hid_same s)⟩, h.ap⟩
theorem set_cases {α : Type} {l : List α} {i j : Nat} {x y : α} (e : (l.set i x)[j]? = some y) : (i = j ∧ i < l.length ∧ y = x) ∨ (i ≠ j ∧ l[j]? = some y) := by
  rw [List.getElem?_set] at e
  by_cases hij : i = j
  · rw [if_pos hij] at e
    by_cases hl : i < l.length
    · rw [if_pos hl] at e
      exact .inl ⟨hij, hl, (Option.some.inj e).symm⟩
    · rw [if_neg hl] at e; cases e
  · rw [if_neg hij] at e
    exact .inr ⟨hij, e⟩
theorem RepS.set {v : V} {t : Tr} (h : RepS K B H σ ρ) (i : Nat) (r : Rep K (hid B H) v t) : RepS K B H (σ.set i (some v)) (ρ.set i (.sh t)) := by
  refine ⟨by rw [List.length_set, List.length_set]; exact h.len, fun j u e => ?_, fun j us e => ?_, fun j k us ws D hjk e1 e2 e3 => ?_⟩
  · rcases set_cases e with ⟨rfl, hl, q⟩ | ⟨hij, q⟩
    · cases q
      exact ⟨v, by rw [List.getElem?_set, if_pos rfl, if_pos (by rw [← h.len]; exact hl)], r⟩
    · obtain ⟨w, e1, r1⟩ := h.sh j u q
      exact ⟨w, by rw [List.getElem?_set, if_neg hij]; exact e1, r1⟩
  · rcases set_cases e with ⟨rfl, hl, q⟩ | ⟨hij, q⟩
    · cases q
    · obtain ⟨D, ys, e1, r1⟩ := h.ow j us q
      exact ⟨D, ys, by rw [List.getElem?_set, if_neg hij]; exact e1, r1⟩
  · rcases set_cases e1 with ⟨rfl, hl, q⟩ | ⟨hij, q⟩
    · cases q
    · rcases set_cases e2 with ⟨rfl, hl, q2⟩ | ⟨hik, q2⟩
      · cases q2
      · rw [List.getElem?_set, if_neg hij] at e3
        rw [List.getElem?_set, if_neg hik]
        exact h.ap j k us ws D hjk q q2 e3
end
def startT (n : Nat) (ts : List Tr) : Rho := ts.map Cell.sh ++ List.replicate (n - ts.length) .no
theorem startT_at {n i : Nat} {ts : List Tr} {c : Cell} (e : (startT n ts)[i]? = some c) : c = .no ∨ ∃ t, ts[i]? = some t ∧ c = .sh t := by
  unfold startT at e
  by_cases hi : i < ts.length
  · rw [List.getElem?_append_left (by rw [List.length_map]; exact hi), List.getElem?_map] at e
    cases q : ts[i]? with
    | none => rw [q] at e; cases e
    | some u => rw [q] at e; exact .inr ⟨u, rfl, (Option.some.inj e).symm⟩
  · rw [List.getElem?_append_right (by rw [List.length_map]; omega), List.getElem?_replicate] at e
    split at e
    · exact .inl (Option.some.inj e).symm
    · cases e
theorem RepS.start {K : PySem.W.Frag} {B : Bar} {H : Hp} {N : List Str} {vs : List V} {ts : List Tr} (h : Reps K (hid B H) vs ts) : RepS K B H (start N vs) (startT N.length ts) := by
  have hl := h.length
  refine ⟨by unfold L2.start startT; simp only [List.length_append, List.length_map, List.length_replicate]; omega, fun i t e => ?_, fun i us e => ?_, fun i j us ws D _ e _ _ => ?_⟩
  · rcases startT_at e with q | ⟨u, q, q2⟩
    · cases q
    · cases q2
      obtain ⟨v, e1, r⟩ := h.get q
      have hi : i < vs.length := (List.getElem?_eq_some_iff.mp e1).1
      refine ⟨v, ?_, r⟩
      unfold L2.start
      rw [List.getElem?_append_left (by rw [List.length_map]; exact hi), List.getElem?_map, e1]
      rfl
  · rcases startT_at e with q | ⟨u, q, q2⟩
    · cases q
    · cases q2
  · rcases startT_at e with q | ⟨u, q, q2⟩
    · cases q
    · cases q2
def isStar : Expr → Bool
  | .Starred .. => true
  | _ => false
theorem star_cons {e : Expr} (es : List Expr) (env : Env) (h : isStar e = false) : starEach (e :: es) env = (false, eval e env) :: starEach es env := by
  cases e <;> first | rfl | cases h
def noStars (es : List Expr) : Bool := es.all fun e => !isStar e
theorem star_none {pos : Pos} {env : Env} : ∀ {es : List Expr}, noStars es = true → (backTo pos (starEach es env)).any (·.1) = false
  | [], _ => by rw [starEach]; rfl
  | e :: es, h => by
    unfold noStars at h
    rw [List.all_cons, Bool.and_eq_true] at h
    have h1 : isStar e = false := by simpa using h.1
    rw [star_cons es env h1]
    exact star_none (es := es) h.2
theorem star_all {pos : Pos} {env : Env} : ∀ {es : List Expr}, noStars es = true → (backTo pos (starEach es env)).all (fun x => !x.1) = true
  | [], _ => by rw [starEach]; rfl
  | e :: es, h => by
    unfold noStars at h
    rw [List.all_cons, Bool.and_eq_true] at h
    have h1 : isStar e = false := by simpa using h.1
    rw [star_cons es env h1]
    exact star_all (es := es) h.2
theorem stars_head {e : Expr} {es : List Expr} (h : noStars (e :: es) = true) : isStar e = false ∧ noStars es = true := by
  unfold noStars at h
  rw [List.all_cons, Bool.and_eq_true] at h
  exact ⟨by simpa using h.1, h.2⟩
def isComp : Expr → Bool
  | .ListComp .. => true
  | .SetComp .. => true
  | .DictComp .. => true
  | _ => false
theorem swaps_no {e : Expr} {t : Option Expr} {n : Nat} {env : Env} (h : isComp e = false) : swapsWith e t n env = pure false := by
  cases e <;> first | rfl | cases h
def plainTest : Expr → Bool
  | .UnaryOp .. => false
  | .BoolOp .. => false
  | .IfExp .. => false
  | .Compare .. => false
  | _ => true
theorem test_plain {e : Expr} {env : Env} (h : plainTest e = true) : ∀ whole, isTrue e env whole = (do let v ← whole; standAt e.pos; holding [v] (truthy v)) := by
  intro whole
  cases e <;> first | rfl | cases h
def isSet : Expr → Bool
  | .Set .. => true
  | _ => false
theorem folded_no {e : Expr} {env : Env} (h : isSet e = false) : ∀ x, foldedSetIterable e env x = pure x := by
  intro x
  cases e <;> first | rfl | cases h
def isCall : Expr → Bool
  | .Call .. => true
  | _ => false
theorem base_no {o : Expr} {x : Str} {env : Env} {w : Sem Value} (h : isCall o = false) : attributeBase o x env w = w := by
  cases o <;> first | rfl | cases h
def tP (X : Cx) (F : Rho → Rs Tr) : TE := fun σ H Q => ∃ B ρ, HB B H ∧ RepS X.K B H σ ρ ∧ Fi X H (F ρ) fun t => ∀ v H', Same H H' → Rep X.K (hid B H') v t → Q v H'
def tQ (X : Cx) (F : Rho → Rs Bool) : TT := fun σ H Q => ∃ B ρ, HB B H ∧ RepS X.K B H σ ρ ∧ Fi X H (F ρ) fun b => ∀ H', Same H H' → Q b H'
def tPA (X : Cx) (F : Rho → Rs (List Tr)) : TA := fun σ H Q => ∃ B ρ, HB B H ∧ RepS X.K B H σ ρ ∧ Fi X H (F ρ) fun ts => ∀ vs H', Same H H' → Reps X.K (hid B H') vs ts → Q vs H'
inductive Out where
  | nx (ρ : Rho) | ret (t : Tr) | bk (ρ : Rho) | ct (ρ : Rho)
structure Since (C B0 : Bar) (H0 : Hp) (B : Bar) (H : Hp) : Prop where
  kp : ∀ b o, C b = true → H0 b = some o → H b = some o
  vis : SameV (hid B0 H0) (hid B H)
  sub : BarLe C B
  hb : HB B H
section
variable {C B0 B B1 B2 : Bar} {H0 H H' H1 H2 : Hp}
theorem Since.go (h : Since C B0 H0 B H) (s : Same H H') : Since C B0 H0 B H' := ⟨fun b o c e => s _ _ (h.kp b o c e), h.vis.trans (hid_same s), h.sub, h.hb.same s⟩
theorem BarLe.refl : BarLe B B := ⟨fun _ e => e, fun _ _ e => e⟩
theorem Since.refl (h : HB B H) (c : BarLe C B) : Since C B H B H := ⟨fun _ _ _ e => e, SameV.refl _, c, h⟩
theorem Since.trans (h : Since C B0 H0 B1 H1) (q : Since C B1 H1 B2 H2) : Since C B0 H0 B2 H2 := ⟨fun b o c e => q.kp b o c (h.kp b o c e), h.vis.trans q.vis, q.sub, q.hb⟩
theorem Since.same (h : Since C C H0 B H) : Same H0 H := fun b o e => by
  cases q : C b with
  | true => exact h.kp b o q e
  | false => exact hid_sub _ _ (h.vis.h b o (by rw [hid_at q]; exact e))
end
def EndsAt (X : Cx) (D : Ends) (C B0 : Bar) (H0 : Hp) : Out → Prop
  | .nx ρ => ∀ σ' B' H', Since C B0 H0 B' H' → RepS X.K B' H' σ' ρ → D.nx σ' H'
  | .ret t => ∀ v B' H', Since C B0 H0 B' H' → Rep X.K (hid C H') v t → D.rt v H'
  | .bk ρ => ∀ σ' B' H', Since C B0 H0 B' H' → RepS X.K B' H' σ' ρ → D.bk σ' H'
  | .ct ρ => ∀ σ' B' H', Since C B0 H0 B' H' → RepS X.K B' H' σ' ρ → D.ct σ' H'
def xS (X : Cx) (C B0 : Bar) (H0 : Hp) : Tr → Prop := fun c => ∀ B' H', Since C B0 H0 B' H' → XA X c H'
def tS (X : Cx) (G : Rho → Rs Out) : TS := fun D σ H => ∃ C B0 H0 B ρ, Since C B0 H0 B H ∧ RepS X.K B H σ ρ ∧ FiX (xS X C B0 H0) (G ρ) (EndsAt X D C B0 H0)
theorem PE.weak {X : Cx} {e : Expr} {t t' : TE} (h : PE X e t) (w : ∀ σ H Q, t' σ H Q → t σ H Q) : PE X e t' := fun pins s σ H Q I q => h pins s σ H Q I (w σ H Q q)
theorem PT.weak {X : Cx} {e : Expr} {t t' : TT} (h : PT X e t) (w : ∀ σ H Q, t' σ H Q → t σ H Q) : PT X e t' := fun pins s σ H Q I q => h pins s σ H Q I (w σ H Q q)
theorem PW.weak {X : Cx} {e : Expr} {t t' : TT} (h : PW X e t) (w : ∀ σ H Q, t' σ H Q → t σ H Q) : PW X e t' := fun wh pins s σ H Q I q => h wh pins s σ H Q I (w σ H Q q)
theorem PA.weak {X : Cx} {es : List Expr} {t t' : TA} (h : PA X es t) (w : ∀ σ H Q, t' σ H Q → t σ H Q) : PA X es t' := fun pos pins s σ H Q I q => h pos pins s σ H Q I (w σ H Q q)
theorem PS.weak {X : Cx} {st : Stmt} {t t' : TS} (h : PS X st t) (w : ∀ D σ H, t' D σ H → t D σ H) : PS X st t' := fun pins s σ H D I q => h pins s σ H D I (w D σ H q)
theorem PSs.weak {X : Cx} {st : List Stmt} {t t' : TS} (h : PSs X st t) (w : ∀ D σ H, t' D σ H → t D σ H) : PSs X st t' := fun pins s σ H D I q => h pins s σ H D I (w D σ H q)
def getS (ρ : Rho) (i : Nat) : Rs Tr := match ρ[i]? with
  | some (.sh t) => .ok t
  | _ => .bad
theorem getS_rep {X : Cx} {B : Bar} {σ : St} {H : Hp} {ρ : Rho} {i : Nat} {k : Tr → Prop} (r : RepS X.K B H σ ρ) (h : Fi X H (getS ρ i) k) : ∃ v t, σ[i]? = some (some v) ∧ Rep X.K (hid B H) v t ∧ k t := by
  unfold getS at h
  split at h
  · rename_i t e
    obtain ⟨v, e1, r1⟩ := r.sh i t e
    exact ⟨v, t, e1, r1, h⟩
  · exact h.elim
section
variable {X : Cx} {a b c : Expr} {pos : Pos} {F G E : Rho → Rs Tr}
theorem t_var (i : Nat) {x : Str} {pos : Pos} (hN : X.N[i]? = some x := by rfl) (hv : Vis X.env.scope x := by first | exact Or.inl rfl | exact Or.inr (Or.inl rfl) | exact Or.inr (Or.inr rfl)) (hd : (x == ("__debug__" : Str)) = false := by decide)
    (hcd : (x == ("__classdict__" : Str)) = false := by decide) : PE X (.Name x pos) (tP X fun ρ => getS ρ i) :=
  (pe_var hN hv hd hcd).weak fun σ H Q ⟨B, ρ, hb, r, q⟩ => by
    obtain ⟨v, t, e, r1, k⟩ := getS_rep r q
    exact ⟨v, e, k v H (Same.refl H) r1⟩
theorem t_con {v : V} {t : Tr} {e : Expr} (h : PE X e (tC v)) (r : ∀ H, Rep X.K H v t) : PE X e (tP X fun _ => .ok t) :=
  h.weak fun σ H Q ⟨B, ρ, _, _, q⟩ => q v H (Same.refl H) (r _)
theorem t_int {i : Int} {j pos} : PE X (.Constant (.int i) j pos) (tP X fun _ => .ok (.int i)) := t_con pe_int fun H => .int i
theorem t_bl {b : Bool} {j pos} : PE X (.Constant (.bool b) j pos) (tP X fun _ => .ok (.bl b)) := t_con pe_bl fun H => .bl b
theorem t_non {j pos} : PE X (.Constant .none j pos) (tP X fun _ => .ok .non) := t_con pe_non fun H => .non
theorem t_str {z : Str} {j pos} (hz : z.length ≤ txMax := by decide) : PE X (.Constant (.str z) j pos) (tP X fun _ => .ok (.str z)) := t_con pe_str fun H => .str z hz
def GlobT (K : PySem.W.Frag) (mg : Str → Option Value) (x : Str) (t : Tr) : Prop := ∃ v u, mg x = some u ∧ RelV v u ∧ ∀ H, Rep K H v t
theorem t_glob {x : Str} {t : Tr} (g : GlobT X.K X.mg x t) (hg : Gl X x := by rfl) (hd : (x == ("__debug__" : Str)) = false := by decide) : PE X (.Name x pos) (tP X fun _ => .ok t) := by
  obtain ⟨v, u, hm, r, q⟩ := g
  exact t_con (pe_glob hg hm r hd) q
theorem t_ty {x : Str} {n : String} (hm : X.mg x = none) (hv : bootBuiltins x = some (.type n) := by rfl) (hg : Gl X x := by rfl) (hn : x ≠ "__name__" := by decide) (hd : (x == ("__debug__" : Str)) = false := by decide) : PE X (.Name x pos) (tP X fun _ => .ok (.ty n)) :=
  t_con (pe_bltn (v := .ty n) hg hm hv rfl hn hd) fun H => .ty n
def op2 (h : Tr → Tr → Rs Tr) (a b : Rs Tr) : Rs Tr := a.bind fun x => b.bind fun y => h x y
def rT (X : Cx) (h : Tr → Tr → Rs Tr) : R2 := fun x y H Q => ∃ B tx ty, HB B H ∧ Rep X.K (hid B H) x tx ∧ Rep X.K (hid B H) y ty ∧ Fi X H (h tx ty) fun t => ∀ v H', Same H H' → Rep X.K (hid B H') v t → Q v H'
abbrev OpT (X : Cx) (f : Value → Value → Sem Value) (h : Tr → Tr → Rs Tr) : Prop := OpR X f (rT X h)
theorem op2_read {h : Tr → Tr → Rs Tr} {σ : St} {H : Hp} {Q : VK} (q : tP X (fun ρ => op2 h (F ρ) (G ρ)) σ H Q) : tOp (rT X h) (tP X F) (tP X G) σ H Q := by
  obtain ⟨B, ρ, hb, r, q⟩ := q
  refine ⟨B, ρ, hb, r, q.bind.mono fun x qx v H1 s1 r1 => ⟨B, ρ, hb.same s1, r.same s1, (qx.bind.same s1).mono fun y qy u H2 s2 r2 => ⟨B, x, y, (hb.same s1).same s2, r1.same (hid_same s2), r2, ?_⟩⟩⟩
  exact (qy.same (s1.trans s2)).mono fun t qt w H3 s3 r3 => qt w H3 ((s1.trans s2).trans s3) r3
theorem t_bin {op : Operator} {h : Tr → Tr → Rs Tr} (ho : OpT X (binaryOp op) h) (ha : PE X a (tP X F)) (hb : PE X b (tP X G)) : PE X (.BinOp a op b pos) (tP X fun ρ => op2 h (F ρ) (G ρ)) :=
  (pe_op ho ha hb).weak fun _ _ _ q => op2_read q
theorem t_cmp {op : CmpOp} {h : Tr → Tr → Rs Tr} (ho : OpT X (compareOp op) h) (ha : PE X a (tP X F)) (hb : PE X b (tP X G)) (hm : behindInMarks op b = false := by first | exact nomark _ | rfl | with_unfolding_all rfl) : PE X (.Compare a [op] [b] pos) (tP X fun ρ => op2 h (F ρ) (G ρ)) :=
  (pe_cmpR ho ha hb hm).weak fun _ _ _ q => op2_read q
def asB (r : Rs Tr) : Rs Bool := r.bind fun t => match t with
  | .bl b => .ok b
  | _ => .bad
theorem Rep.bl_inv {K : PySem.W.Frag} {H : Vw} {v : V} {b : Bool} (h : Rep K H v (.bl b)) : v = .bl b := by cases h; rfl
theorem asB_fin {H : Hp} {r : Rs Tr} {k : Bool → Prop} (h : Fi X H (asB r) k) : Fi X H r fun t => ∃ b, t = .bl b ∧ k b := by
  refine h.bind.mono fun t q => ?_
  cases t with
  | bl b => exact ⟨b, rfl, q⟩
  | _ => exact q.elim
theorem q_cmp {op : CmpOp} {h : Tr → Tr → Rs Tr} (ho : OpT X (compareOp op) h) (ha : PE X a (tP X F)) (hb : PE X b (tP X G)) (hm : behindInMarks op b = false := by first | exact nomark _ | rfl | with_unfolding_all rfl) : PT X (.Compare a [op] [b] pos) (tQ X fun ρ => asB (op2 h (F ρ) (G ρ))) :=
  (pt_cmpR ho ha hb hm).weak fun σ H Q ⟨B, ρ, hb, r, q⟩ => by
    refine op2_read (Q := fun x H' => ∃ k, x = .bl k ∧ Q k H') ⟨B, ρ, hb, r, (asB_fin q).mono fun t qt v H' s' r' => ?_⟩
    obtain ⟨b, rfl, k⟩ := qt
    exact ⟨b, r'.bl_inv, k H' s'⟩
def truT : Tr → Rs Bool
  | .non => .ok false
  | .bl b => .ok b
  | .int i => .ok (i != 0)
  | .str z => .ok ((z.length : Int) != 0)
  | .tup ts => .ok (!ts.isEmpty)
  | .lst ts => .ok (!ts.isEmpty)
  | .dic kts => .ok (!kts.isEmpty)
  | _ => .bad
theorem Reps.isEmpty {K : PySem.W.Frag} {H : Vw} {vs : List V} {ts : List Tr} (h : Reps K H vs ts) : vs.isEmpty = ts.isEmpty := by cases h <;> rfl
theorem tx_line : txMax ≤ sizeLine := by rw [sizeLine_eq]; decide
theorem truT_ok {K : PySem.W.Frag} {H : Vw} {v : V} {t : Tr} {b : Bool} (r : Rep K H v t) (e : truT t = .ok b) : TruV K v H b := by
  cases r with
  | non => cases e; rfl
  | bl c => cases e; rfl
  | int i => cases e; rfl
  | str z h => cases e; exact ⟨Nat.le_trans h tx_line, rfl⟩
  | ty n => cases e
  | tup h r => cases e; exact .inr (.inl ⟨_, h, by rw [r.isEmpty]⟩)
  | lst h r => cases e; exact .inl ⟨_, .of h, by rw [r.isEmpty]⟩
  | scr h => cases e
  | «at» h => cases e
  | dct h e1 rr => cases e
  | ob h e1 rr => cases e
  | exn h c => cases e
  | dic h e1 r =>
    cases e
    refine .inr (.inr ⟨_, h, ?_⟩)
    rename_i kvs kts
    cases kvs <;> cases kts <;> first | rfl | cases e1
theorem truT_fin {H : Vw} {v : V} {t : Tr} {k : Bool → Prop} (r : Rep X.K H v t) (h : Fi X H (truT t) k) : ∃ b, TruV X.K v H b ∧ k b := by
  cases e : truT t with
  | ok b => rw [e] at h; exact ⟨b, truT_ok r e, h⟩
  | exc c => cases t <;> cases e
  | bad => rw [e] at h; exact h.elim
theorem q_val (ha : PE X a (tP X F)) (he : plainTest a = true := by rfl) : PT X a (tQ X fun ρ => (F ρ).bind truT) :=
  (pt_truth ha (test_plain he)).weak fun σ H Q ⟨B, ρ, hb, r, q⟩ => ⟨B, ρ, hb, r, q.bind.mono fun t qt v H' s' r' => by
    obtain ⟨b, h1, h2⟩ := truT_fin (r'.same hid_raw) (qt.same s')
    exact ⟨b, h1, h2 H' s'⟩⟩
def notB (r : Rs Bool) : Rs Bool := r.bind fun b => .ok (!b)
variable {A B : Rho → Rs Bool} {rest : List Expr}
theorem q_not (ha : PT X a (tQ X A)) : PT X (.UnaryOp .Not a pos) (tQ X fun ρ => notB (A ρ)) :=
  (pt_not ha).weak fun σ H Q ⟨B, ρ, hb, r, q⟩ => ⟨B, ρ, hb, r, q.bind⟩
def andB (a b : Rs Bool) : Rs Bool := a.bind fun c => if c then b else .ok false
def orB (a b : Rs Bool) : Rs Bool := a.bind fun c => if c then .ok true else b
theorem w_and1 (ha : PT X a (tQ X A)) : PW X (.BoolOp .And [a] pos) (tQ X A) := pw_and1 ha
theorem w_or1 (ha : PT X a (tQ X A)) : PW X (.BoolOp .Or [a] pos) (tQ X A) := pw_or1 ha
theorem w_and (ha : PT X a (tQ X A)) (hb : PW X (.BoolOp .And (b :: rest) pos) (tQ X B)) : PW X (.BoolOp .And (a :: b :: rest) pos) (tQ X fun ρ => andB (A ρ) (B ρ)) :=
  (pw_and ha hb).weak fun σ H Q ⟨Bb, ρ, hb, r, q⟩ => ⟨Bb, ρ, hb, r, q.bind.mono fun c qc H1 s1 => by
    cases c with
    | true => exact ⟨Bb, ρ, hb.same s1, r.same s1, (Fi.same qc s1).mono fun b qb H2 s2 => qb H2 (s1.trans s2)⟩
    | false => exact qc H1 s1⟩
theorem w_or (ha : PT X a (tQ X A)) (hb : PW X (.BoolOp .Or (b :: rest) pos) (tQ X B)) : PW X (.BoolOp .Or (a :: b :: rest) pos) (tQ X fun ρ => orB (A ρ) (B ρ)) :=
  (pw_or ha hb).weak fun σ H Q ⟨Bb, ρ, hb, r, q⟩ => ⟨Bb, ρ, hb, r, q.bind.mono fun c qc H1 s1 => by
    cases c with
    | false => exact ⟨Bb, ρ, hb.same s1, r.same s1, (Fi.same qc s1).mono fun b qb H2 s2 => qb H2 (s1.trans s2)⟩
    | true => exact qc H1 s1⟩
theorem q_bool {op} {es : List Expr} (h : PW X (.BoolOp op es pos) (tQ X A)) : PT X (.BoolOp op es pos) (tQ X A) := h.pt
def andV (a b : Rs Tr) : Rs Tr := a.bind fun t => (truT t).bind fun c => if c then b else .ok t
def orV (a b : Rs Tr) : Rs Tr := a.bind fun t => (truT t).bind fun c => if c then .ok t else b
theorem t_and (ha : PE X a (tP X F)) (hb : PE X (.BoolOp .And (b :: rest) pos) (tP X G)) : PE X (.BoolOp .And (a :: b :: rest) pos) (tP X fun ρ => andV (F ρ) (G ρ)) := by
  intro pins s σ H Q I ⟨B, ρ, hB, r, q⟩
  refine BoolOp_and (thn (ha pins s σ H _ I ⟨B, ρ, hB, r, q.bind.mono fun t qt v H1 s1 r1 => (show ∃ t, Rep X.K (hid B H1) v t ∧ Same H H1 ∧ Fi X H ((truT t).bind fun c => if c then G ρ else .ok t) (fun t => ∀ v H', Same H H' → Rep X.K (hid B H') v t → Q v H') from ⟨t, r1, s1, qt⟩)⟩) fun v s1 ⟨x, H1, I1, r1, t, rt, sm, qt⟩ => ?_)
  obtain ⟨c, h1, h2⟩ := truT_fin (rt.same hid_raw) (qt.bind.same sm)
  refine thn (tru_ok pins s1 σ H1 x v (fun k H' => k = c ∧ H' = H1) I1 r1 ⟨c, h1, rfl, rfl⟩) fun k s2 ⟨H2, I2, e1, e2⟩ => ?_
  subst e1 e2
  cases k with
  | true => exact hb pins s2 σ _ Q I2 ⟨B, ρ, hB.same sm, r.same sm, (Fi.same h2 sm).mono fun t q v H' s' r' => q v H' (sm.trans s') r'⟩
  | false => exact ⟨x, _, I2, r1, h2 x _ sm rt⟩
theorem t_or (ha : PE X a (tP X F)) (hb : PE X (.BoolOp .Or (b :: rest) pos) (tP X G)) : PE X (.BoolOp .Or (a :: b :: rest) pos) (tP X fun ρ => orV (F ρ) (G ρ)) := by
  intro pins s σ H Q I ⟨B, ρ, hB, r, q⟩
  refine BoolOp_or (thn (ha pins s σ H _ I ⟨B, ρ, hB, r, q.bind.mono fun t qt v H1 s1 r1 => (show ∃ t, Rep X.K (hid B H1) v t ∧ Same H H1 ∧ Fi X H ((truT t).bind fun c => if c then .ok t else G ρ) (fun t => ∀ v H', Same H H' → Rep X.K (hid B H') v t → Q v H') from ⟨t, r1, s1, qt⟩)⟩) fun v s1 ⟨x, H1, I1, r1, t, rt, sm, qt⟩ => ?_)
  obtain ⟨c, h1, h2⟩ := truT_fin (rt.same hid_raw) (qt.bind.same sm)
  refine thn (tru_ok pins s1 σ H1 x v (fun k H' => k = c ∧ H' = H1) I1 r1 ⟨c, h1, rfl, rfl⟩) fun k s2 ⟨H2, I2, e1, e2⟩ => ?_
  subst e1 e2
  cases k with
  | false => exact hb pins s2 σ _ Q I2 ⟨B, ρ, hB.same sm, r.same sm, (Fi.same h2 sm).mono fun t q v H' s' r' => q v H' (sm.trans s') r'⟩
  | true => exact ⟨x, _, I2, r1, h2 x _ sm rt⟩
theorem t_one {op} (h : PE X a (tP X F)) : PE X (.BoolOp op [a] pos) (tP X F) := pe_one h
def blR (r : Rs Bool) : Rs Tr := r.bind fun b => .ok (.bl b)
theorem t_not (ha : PE X a (tP X F)) : PE X (.UnaryOp .Not a pos) (tP X fun ρ => blR (notB ((F ρ).bind truT))) :=
  (pe_notT ha).weak fun σ H Q ⟨B, ρ, hb, r, q⟩ => ⟨B, ρ, hb, r, q.bind.bind.bind.mono fun t qt v H1 s1 r1 => by
    obtain ⟨b, h1, h2⟩ := truT_fin (r1.same hid_raw) (qt.same s1)
    exact ⟨b, h1, h2 _ H1 s1 (.bl _)⟩⟩
def iteR (c : Rs Bool) (a b : Rs Tr) : Rs Tr := c.bind fun k => if k then a else b
theorem t_if (hc : PT X c (tQ X A)) (ha : PE X a (tP X F)) (hb : PE X b (tP X G)) : PE X (.IfExp c a b pos) (tP X fun ρ => iteR (A ρ) (F ρ) (G ρ)) :=
  (pe_ifExp hc ha hb).weak fun σ H Q ⟨B, ρ, hb, r, q⟩ => ⟨B, ρ, hb, r, q.bind.mono fun k qk H1 s1 => by
    cases k with
    | true => exact ⟨B, ρ, hb.same s1, r.same s1, (Fi.same qk s1).mono fun t q v H2 s2 r2 => q v H2 (s1.trans s2) r2⟩
    | false => exact ⟨B, ρ, hb.same s1, r.same s1, (Fi.same qk s1).mono fun t q v H2 s2 r2 => q v H2 (s1.trans s2) r2⟩⟩
def chnR (h h' : Tr → Tr → Rs Tr) (a b c : Rs Tr) : Rs Tr := a.bind fun x => b.bind fun y => (asB (h x y)).bind fun k => if k then c.bind fun z => h' y z else .ok (.bl false)
theorem chn_read {h h' : Tr → Tr → Rs Tr} {σ : St} {H : Hp} {Q : VK} (q : tP X (fun ρ => chnR h h' (F ρ) (G ρ) (E ρ)) σ H Q) : tChain (rT X h) (rT X h') (tP X F) (tP X G) (tP X E) σ H Q := by
  obtain ⟨B, ρ, hb, r, q⟩ := q
  refine ⟨B, ρ, hb, r, q.bind.mono fun x qx v H1 s1 r1 => ⟨B, ρ, hb.same s1, r.same s1, (qx.bind.same s1).mono fun y qy u H2 s2 r2 => ⟨B, x, y, hb.same (s1.trans s2), r1.same (hid_same s2), r2, ?_⟩⟩⟩
  have s12 := s1.trans s2
  refine (asB_fin (qy.bind.same s12)).mono fun t qt w H3 s3 r3 => ?_
  obtain ⟨k, rfl, qk⟩ := qt
  have s13 := s12.trans s3
  refine ⟨k, r3.bl_inv, ?_⟩
  cases k with
  | false => exact iteF (qk _ _ s13 (.bl false))
  | true =>
    refine iteT ⟨B, ρ, hb.same s13, r.same s13, ((Fi.bind qk).same s13).mono fun z qz v4 H4 s4 r4 => ⟨B, y, z, hb.same (s13.trans s4), r2.same (hid_same (s3.trans s4)), r4, ?_⟩⟩
    exact (qz.same (s13.trans s4)).mono fun t qt v5 H5 s5 r5 => qt v5 H5 ((s13.trans s4).trans s5) r5
theorem t_chain {op op' : CmpOp} {h h' : Tr → Tr → Rs Tr} (ho : OpT X (compareOp op) h) (ho' : OpT X (compareOp op') h') (ha : PE X a (tP X F)) (hb : PE X b (tP X G)) (hc : PE X c (tP X E))
    (hm : lastMarks [op, op'] [b, c] = false := by with_unfolding_all rfl) : PE X (.Compare a [op, op'] [b, c] pos) (tP X fun ρ => chnR h h' (F ρ) (G ρ) (E ρ)) :=
  (pe_chain ho ho' ha hb hc hm).weak fun _ _ _ q => chn_read q
variable {es : List Expr} {L : Rho → Rs (List Tr)}
def consR (a : Rs Tr) (l : Rs (List Tr)) : Rs (List Tr) := a.bind fun x => l.bind fun xs => .ok (x :: xs)
theorem l_nil : PA X [] (tPA X fun _ => .ok []) := pa_nil.weak fun σ H Q ⟨B, ρ, hb, r, q⟩ => q [] H (Same.refl H) .nil
theorem l_cons (ha : PE X a (tP X F)) (hr : PA X es (tPA X L)) (hs : isStar a = false := by rfl) : PA X (a :: es) (tPA X fun ρ => consR (F ρ) (L ρ)) :=
  (pa_cons ha hr (star_cons _ _ hs)).weak fun σ H Q ⟨B, ρ, hb, r, q⟩ => ⟨B, ρ, hb, r, q.bind.mono fun x qx v H1 s1 r1 => ⟨B, ρ, hb.same s1, r.same s1, (qx.bind.same s1).mono fun xs qs vs H2 s2 r2 => qs _ H2 (s1.trans s2) (.cons (r1.same (hid_same s2)) r2)⟩⟩
def szT : Nat := 16777216
theorem szT_eq : szT = sizeLine := sizeLine_eq.symm
def tupR (l : Rs (List Tr)) : Rs Tr := l.bind fun ts => if ts.length ≤ szT then .ok (.tup ts) else .bad
def lstR (l : Rs (List Tr)) : Rs Tr := l.bind fun ts => if ts.length ≤ szT then .ok (.lst ts) else .bad
theorem t_tup {x1} (h : PA X es (tPA X L)) : PE X (.Tuple es x1 pos) (tP X fun ρ => tupR (L ρ)) :=
  (pe_tup h).weak fun σ H Q ⟨B, ρ, hb, r, q⟩ => ⟨B, ρ, hb, r, q.bind.mono fun ts qt vs H1 s1 r1 => by
    by_cases hz : ts.length ≤ szT
    · rw [if_pos hz] at qt
      refine ⟨by rw [r1.length, ← szT_eq]; exact hz, fun p hp => qt (.ref p) _ (s1.upd' (s1.free hp)) (.tup (.of ((hb.same s1).new hp)) (r1.same (hid_same (Same.upd hp))))⟩
    · rw [if_neg hz] at qt; exact qt.elim⟩
theorem t_lst (h : PA X es (tPA X L)) : PE X (.List es pos) (tP X fun ρ => lstR (L ρ)) :=
  (pe_lst h).weak fun σ H Q ⟨B, ρ, hb, r, q⟩ => ⟨B, ρ, hb, r, q.bind.mono fun ts qt vs H1 s1 r1 => by
    by_cases hz : ts.length ≤ szT
    · rw [if_pos hz] at qt
      refine ⟨by rw [r1.length, ← szT_eq]; exact hz, fun p hp => qt (.ref p) _ (s1.upd' (s1.free hp)) (.lst ((hb.same s1).new hp) (r1.same (hid_same (Same.upd hp))))⟩
    · rw [if_neg hz] at qt; exact qt.elim⟩
def callR (h : List Tr → Rs Tr) (l : Rs (List Tr)) : Rs Tr := l.bind h
def rC (X : Cx) (h : List Tr → Rs Tr) : List V → Hp → VK → Prop := fun xs H Q => ∃ B ts, HB B H ∧ Reps X.K (hid B H) xs ts ∧ Fi X H (h ts) fun t => ∀ v H', Same H H' → Rep X.K (hid B H') v t → Q v H'
abbrev CallT (X : Cx) (f : Value) (h : List Tr → Rs Tr) : Prop := CallR X f (rC X h)
theorem call_read {h : List Tr → Rs Tr} {σ : St} {H : Hp} {Q : VK} (q : tP X (fun ρ => callR h (L ρ)) σ H Q) : tCB (rC X h) (tPA X L) σ H Q := by
  obtain ⟨B, ρ, hb, r, q⟩ := q
  exact ⟨B, ρ, hb, r, q.bind.mono fun ts qt vs H1 s1 r1 => ⟨B, ts, hb.same s1, r1, (qt.same s1).mono fun t qt v H2 s2 r2 => qt v H2 (s1.trans s2) r2⟩⟩
theorem t_callB {id : String} {x : Str} {p : Pos} {e : Expr} {h : List Tr → Rs Tr} (hc : CallT X (.builtin id) h) (hm : X.mg x = none) (ha : PA X (e :: es) (tPA X L)) (hv : bootBuiltins x = some (.builtin id) := by rfl) (hg : Gl X x := by rfl) (hn : x ≠ "__name__" := by decide) (hdb : (x == ("__debug__" : Str)) = false := by decide)
    (hst : noStars (e :: es) = true := by rfl) : PE X (.Call (.Name x p) (e :: es) [] pos) (tP X fun ρ => callR h (L ρ)) :=
  (pe_callB hc hg hm hv ha hn hdb (star_cons _ _ (stars_head hst).1) (star_none (stars_head hst).2)).weak fun _ _ _ q => call_read q
theorem t_callTy {T : String} {x : Str} {p : Pos} {e : Expr} {h : List Tr → Rs Tr} (hc : CallT X (.type T) h) (hm : X.mg x = none) (ha : PA X (e :: es) (tPA X L)) (hv : bootBuiltins x = some (.type T) := by rfl) (hg : Gl X x := by rfl) (hn : x ≠ "__name__" := by decide) (hdb : (x == ("__debug__" : Str)) = false := by decide)
    (hst : noStars (e :: es) = true := by rfl) : PE X (.Call (.Name x p) (e :: es) [] pos) (tP X fun ρ => callR h (L ρ)) :=
  (pe_callTy hc hg hm hv ha hn hdb (star_cons _ _ (stars_head hst).1) (star_none (stars_head hst).2)).weak fun _ _ _ q => call_read q
def spT (K : PySem.W.Frag) (f : List Tr → Rs Tr) : Sp := fun vs H Q _ => ∃ B ts, HB B H ∧ Reps K (hid B H) vs ts ∧ ∃ t, f ts = .ok t ∧ ∀ v H', Same H H' → Rep K (hid B H') v t → Q v H'
theorem t_def {x : Str} {st : Stmt} {ps : List Str} {f : Addr} {fd : FuncData} {k : Nat} {h : List Tr → Rs Tr} {e : Expr} {p : Pos} (D : DefAt X.K X.mg x st ps f fd) (G : FnOk X.prog X.w X.K X.mg X.base CX0 k f fd ps (spT X.K h)) (hr : Room k X.A)
    (ha : PA X (e :: es) (tPA X L)) (hg : Gl X x := by rfl) (hdb : (x == ("__debug__" : Str)) = false := by decide) (hst : noStars (e :: es) = true := by rfl) : PE X (.Call (.Name x p) (e :: es) [] pos) (tP X fun ρ => callR h (L ρ)) :=
  (pe_def D G hr ha hg hdb (star_cons _ _ (stars_head hst).1) (star_none (stars_head hst).2)).weak fun σ H Q ⟨B, ρ, hb, r, q⟩ => ⟨B, ρ, hb, r, q.bind.mono fun ts qt vs H1 s1 r1 => by
    cases e : h ts with
    | ok t => rw [e] at qt; exact ⟨B, ts, hb.same s1, by rw [List.append_nil]; exact r1, t, e, fun v H2 s2 r2 => qt v H2 (s1.trans s2) r2⟩
    | exc c => rw [e] at qt; exact (qt _ (Same.refl _)).elim
    | bad => rw [e] at qt; exact qt.elim⟩
end
end L2
namespace L2
open PySem PySem.Spec PyProof.Rows
section
variable {X : Cx} {a b c e : Expr} {pos : Pos} {F : Rho → Rs Tr} {G G' : Rho → Rs Out} {A : Rho → Rs Bool} {st : Stmt} {rest sts : List Stmt}
def seqO (r : Rs Out) (G : Rho → Rs Out) : Rs Out := r.bind fun o => match o with
  | .nx ρ => G ρ
  | .ret t => .ok (.ret t)
  | .bk ρ => .ok (.bk ρ)
  | .ct ρ => .ok (.ct ρ)
theorem s_nil : PSs X [] (tS X fun ρ => .ok (.nx ρ)) := pss_nil.weak fun D σ H ⟨C, B0, H0, B, ρ, si, r, q⟩ => q σ B H si r
theorem s_cons (h1 : PS X st (tS X G)) (h2 : PSs X rest (tS X G')) : PSs X (st :: rest) (tS X fun ρ => seqO (G ρ) G') :=
  (pss_cons h1 h2).weak fun D σ H ⟨C, B0, H0, B, ρ, si, r, q⟩ => ⟨C, B0, H0, B, ρ, si, r, q.bind.mono fun o qo => by
    cases o with
    | nx ρ' => exact fun σ' B' H' si' r' => ⟨C, B0, H0, B', ρ', si', r', qo⟩
    | ret t => exact qo
    | bk ρ' => exact qo
    | ct ρ' => exact qo⟩
theorem s_one (h1 : PS X st (tS X G)) : PSs X [st] (tS X G) := pss_one h1
def setO (i : Nat) (r : Rs Tr) (ρ : Rho) : Rs Out := r.bind fun t => .ok (.nx (ρ.set i (.sh t)))
theorem FiX.here {α : Type} {C B0 B : Bar} {H0 H : Hp} {r : Rs α} {k : α → Prop} (h : FiX (xS X C B0 H0) r k) (si : Since C B0 H0 B H) : Fi X H r k := h.imp fun _ q H' s' => q B H' (si.go s')
theorem tP_in {C B0 B : Bar} {H0 H : Hp} {σ : St} {ρ : Rho} {k : Tr → Prop} (si : Since C B0 H0 B H) (r : RepS X.K B H σ ρ) (q : FiX (xS X C B0 H0) (F ρ) k) {Q : VK} (hq : ∀ t v H', k t → Same H H' → Since C B0 H0 B H' → RepS X.K B H' σ ρ → Rep X.K (hid B H') v t → Q v H') : tP X F σ H Q :=
  ⟨B, ρ, si.hb, r, (q.here si).mono fun t qt v H' s' r' => hq t v H' qt s' (si.go s') (r.same s') r'⟩
theorem tQ_in {C B0 B : Bar} {H0 H : Hp} {σ : St} {ρ : Rho} {k : Bool → Prop} (si : Since C B0 H0 B H) (r : RepS X.K B H σ ρ) (q : FiX (xS X C B0 H0) (A ρ) k) {Q : Bool → Hp → Prop} (hq : ∀ b H', k b → Same H H' → Since C B0 H0 B H' → RepS X.K B H' σ ρ → Q b H') : tQ X A σ H Q :=
  ⟨B, ρ, si.hb, r, (q.here si).mono fun b qb H' s' => hq b H' qb s' (si.go s') (r.same s')⟩
theorem Rep.out {K : PySem.W.Frag} {C B0 B : Bar} {H0 H : Hp} {v : V} {t : Tr} (r : Rep K (hid B H) v t) (si : Since C B0 H0 B H) : Rep K (hid C H) v t := r.same (hid_mono si.sub)
theorem s_set {i : Nat} {x : Str} {pos' : Pos} (he : PE X e (tP X F)) (hN : X.N.Nodup := by assumption) (hi : X.N[i]? = some x := by rfl) (hx : Loc X.env.scope x := by first | exact Or.inl rfl | exact Or.inr rfl) (hs : isComp e = false := by rfl) (hf : X.fn x = true ∨ X.env.scope.names.lookup x = some .local := by first | exact .inl rfl | exact .inr rfl | assumption) :
    PS X (.Assign [.Name x pos'] e pos) (tS X fun ρ => setO i (F ρ) ρ) :=
  (ps_set hN hi hx he (swaps_no hs) hf).weak fun D σ H ⟨C, B0, H0, B, ρ, si, r, q⟩ => tP_in si r q.bind fun t v H1 qt s1 si1 r1 rv => qt _ B H1 si1 (r1.set i rv)
def retO (r : Rs Tr) : Rs Out := r.bind fun t => .ok (.ret t)
theorem s_ret (he : PE X e (tP X F)) : PS X (.Return (some e) pos) (tS X fun ρ => retO (F ρ)) :=
  (ps_ret he).weak fun D σ H ⟨C, B0, H0, B, ρ, si, r, q⟩ => tP_in si r q.bind fun t v H1 qt s1 si1 r1 rv => qt v B H1 si1 (rv.out si1)
def dropO (r : Rs Tr) (ρ : Rho) : Rs Out := r.bind fun _ => .ok (.nx ρ)
def ifO (c : Rs Bool) (a b : Rs Out) : Rs Out := c.bind fun k => if k then a else b
theorem s_if {ys ns : List Stmt} (hc : PT X c (tQ X A)) (ha : PSs X ys (tS X G)) (hb : PSs X ns (tS X G')) : PS X (.If c ys ns pos) (tS X fun ρ => ifO (A ρ) (G ρ) (G' ρ)) :=
  (ps_if hc ha hb).weak fun D σ H ⟨C, B0, H0, B, ρ, si, r, q⟩ => tQ_in si r q.bind fun k H1 qk s1 si1 r1 => by
    cases k with
    | true => exact iteT ⟨C, B0, H0, B, ρ, si1, r1, qk⟩
    | false => exact iteF ⟨C, B0, H0, B, ρ, si1, r1, qk⟩
def parO (i j : Nat) (l : Rs (List Tr)) (ρ : Rho) : Rs Out := l.bind fun ts => match ts with
  | [x, y] => .ok (.nx ((ρ.set i (.sh x)).set j (.sh y)))
  | _ => .bad
abbrev Tgt := Tr → Rho → Rs Rho
def tG (X : Cx) (T : Tgt) : TG := fun v σ H Q => ∃ B ρ t, HB B H ∧ RepS X.K B H σ ρ ∧ Rep X.K (hid B H) v t ∧ Fi X H (T t ρ) fun ρ' => ∀ σ' H', Same H H' → RepS X.K B H' σ' ρ' → Q σ' H'
def gN (i : Nat) : Tgt := fun t ρ => .ok (ρ.set i (.sh t))
theorem g_name (i : Nat) {x : Str} (hN : X.N.Nodup := by assumption) (hi : X.N[i]? = some x := by rfl) (hx : Loc X.env.scope x := by first | exact Or.inl rfl | exact Or.inr rfl) (hf : X.fn x = true ∨ X.env.scope.names.lookup x = some .local := by first | exact .inl rfl | exact .inr rfl | assumption) : PG X (.Name x pos) (tG X (gN i)) := by
  intro pins s σ H v u Q I r ⟨B, ρ, t, hb, rs, rt, q⟩
  exact pg_name hN hi hx hf pins s σ H v u Q I r (q _ H (Same.refl H) (rs.set i rt))
def gNs : List Nat → List Tr → Rho → Rs Rho
  | [], [], ρ => .ok ρ
  | i :: is, t :: ts, ρ => gNs is ts (ρ.set i (.sh t))
  | _, _, _ => .bad
def tGs (X : Cx) (T : List Tr → Rho → Rs Rho) : TGs := fun vs σ H Q => ∃ B ρ ts, HB B H ∧ RepS X.K B H σ ρ ∧ Reps X.K (hid B H) vs ts ∧ Fi X H (T ts ρ) fun ρ' => ∀ σ' H', Same H H' → RepS X.K B H' σ' ρ' → Q σ' H'
theorem g_nil : PGs X [] (tGs X (gNs [])) := by
  intro pins s σ H vs us Q I r ⟨B, ρ, ts, hb, rs, rt, q⟩
  match ts, rt, q with
  | [], .nil, q => exact pgs_nil pins s σ H [] us Q I r ⟨rfl, q σ H (Same.refl H) rs⟩
  | _ :: _, _, q => exact q.elim
theorem g_cons {es : List Expr} {i : Nat} {is : List Nat} {x : Str} (h2 : PGs X es (tGs X (gNs is))) (hN : X.N.Nodup := by assumption) (hi : X.N[i]? = some x := by rfl) (hx : Loc X.env.scope x := by first | exact Or.inl rfl | exact Or.inr rfl) (hf : X.fn x = true ∨ X.env.scope.names.lookup x = some .local := by first | exact .inl rfl | exact .inr rfl | assumption)
    (hs : (assignEach (.Name x pos :: es) X.env).map (·.2) = assign (.Name x pos) X.env :: (assignEach es X.env).map (·.2) := by rfl) : PGs X (.Name x pos :: es) (tGs X (gNs (i :: is))) := by
  intro pins s σ H vs us Q I r ⟨B, ρ, ts, hb, rs, rt, q⟩
  match ts, rt, q with
  | [], _, q => exact q.elim
  | t :: ts, .cons r1 r2, q =>
    exact pgs_cons (pg_name hN hi hx hf) h2 hs pins s σ H _ us Q I r ⟨_, _, rfl, ⟨B, _, ts, hb, rs.set i r1, r2, q⟩⟩
def gT (is : List Nat) : Tgt := fun t ρ => match t with
  | .tup ts => gNs is ts ρ
  | _ => .bad
theorem gNs_len : ∀ {is : List Nat} {ts : List Tr} {ρ ρ' : Rho}, gNs is ts ρ = .ok ρ' → ts.length = is.length
  | [], [], _, _, _ => rfl
  | [], _ :: _, _, _, h => by cases h
  | _ :: _, [], _, _, h => by cases h
  | _ :: is, _ :: ts, _, _, h => by rw [List.length_cons, List.length_cons, gNs_len (is := is) (ts := ts) h]
theorem gNs_noexc : ∀ {is : List Nat} {ts : List Tr} {ρ : Rho} {c : Tr}, gNs is ts ρ ≠ .exc c
  | [], [], _, _ => fun h => by cases h
  | [], _ :: _, _, _ => fun h => by cases h
  | _ :: _, [], _, _ => fun h => by cases h
  | _ :: is, _ :: ts, _, _ => gNs_noexc (is := is) (ts := ts)
theorem g_tup {es : List Expr} {k : Nat} {is : List Nat} (h : PGs X es (tGs X (gNs is))) (hc : X.calm = true := by rfl) (hn : (assignEach es X.env).length = is.length := by rfl) (hst : (assignEach es X.env).findIdx? (·.1) = none := by rfl) : PG X (.Tuple es k pos) (tG X (gT is)) := by
  intro pins s σ H v u Q I r ⟨B, ρ, t, hb, rs, rt, q⟩
  cases rt with
  | tup hq rv =>
    refine pg_tup hc h hn hst pins s σ H _ u Q I r ⟨_, _, rfl, (Same.tup hid_sub hq), ?_, B, ρ, _, hb, rs, rv, q⟩
    have q' : Fi X H (gNs is _ ρ) _ := q
    cases e : gNs is _ ρ with
    | ok ρ' => rw [rv.length]; exact gNs_len e
    | exc c => exact (gNs_noexc e).elim
    | bad => rw [e] at q'; exact q'.elim
  | _ => exact q.elim
def unpO (T : Tgt) (r : Rs Tr) (ρ : Rho) : Rs Out := r.bind fun t => (T t ρ).bind fun ρ' => .ok (.nx ρ')
structure GoesT (K : PySem.W.Frag) (B : Bar) (J : It) (H : Hp) (ts : List Tr) : Prop where
  go : ∀ i B' H', i < ts.length → SameV (hid B H) (hid B' H') → HB B' H' → J.go i H'
  yld : ∀ i B' H' x H'', i < ts.length → SameV (hid B H) (hid B' H') → HB B' H' → J.yld i H' x H'' → Same H' H'' ∧ ∃ t, ts[i]? = some t ∧ Rep K (hid B' H'') x t
  stop : ∀ B' H', SameV (hid B H) (hid B' H') → J.stop ts.length H'
def tI (X : Cx) (W : Rho → Rs (List Tr)) : TI := fun σ H R => ∃ B ρ, HB B H ∧ RepS X.K B H σ ρ ∧ Fi X H (W ρ) fun ts => ∀ J H', Same H H' → GoesT X.K B J H' ts → R J H'
def forO (T : Tgt) (G : Rho → Rs Out) : List Tr → Rho → Rs Out
  | [], ρ => .ok (.nx ρ)
  | t :: ts, ρ => (T t ρ).bind fun ρ1 => (G ρ1).bind fun o => match o with
    | .nx ρ2 => forO T G ts ρ2
    | .ct ρ2 => forO T G ts ρ2
    | .bk ρ2 => .ok (.nx ρ2)
    | .ret t => .ok (.ret t)
def loopO (T : Tgt) (G : Rho → Rs Out) (l : Rs (List Tr)) (ρ : Rho) : Rs Out := l.bind fun ts => forO T G ts ρ
theorem s_for {tg iter : Expr} {body : List Stmt} {W : Rho → Rs (List Tr)} {T : Tgt} (hi : PI X tg iter (tI X W)) (hg : PG X tg (tG X T)) (hb : PSs X body (tS X G)) (hp : PassesOwn (model X.prog X.w) X.A X.env X.xe := by exact PassesOwn.never) (hc : X.calm = true := by rfl)
    (hs : isSet iter = false := by rfl) : PS X (.For tg iter body [] pos) (tS X fun ρ => loopO T G (W ρ) ρ) :=
  (ps_for hp hc hi hg hb (folded_no hs)).weak fun D σ H ⟨C, B0, H0, B, ρ, si, r, q⟩ => ⟨B, ρ, si.hb, r, (q.bind.here si).mono fun ts qt J H1 s1 gt => by
    have si1 := si.go s1
    refine ⟨fun i m σ' H' => m = ts.length - i ∧ i ≤ ts.length ∧ ∃ B' ρ', Since C B H1 B' H' ∧ RepS X.K B' H' σ' ρ' ∧ FiX (xS X C B0 H0) (forO T G (ts.drop i) ρ') (EndsAt X D C B0 H0), ⟨_, rfl, Nat.zero_le _, B, ρ, Since.refl si1.hb si1.sub, r.same s1, qt⟩, ?_⟩
    rintro i m σ' H' ⟨rfl, hi, B', ρ', si', r', q'⟩
    by_cases hlt : i < ts.length
    · rw [List.drop_eq_getElem_cons hlt] at q'
      refine .inr ⟨gt.go i B' H' hlt si'.vis si'.hb, fun σ2 H2 => ∃ B2 ρ2, Since C B H1 B2 H2 ∧ RepS X.K B2 H2 σ2 ρ2 ∧ FiX (xS X C B0 H0) (forO T G (ts.drop (i + 1)) ρ2) (EndsAt X D C B0 H0),
        fun σ2 H2 ⟨B2, ρ2, x1, x2, x3⟩ => ⟨ts.length - (i + 1), by omega, rfl, hlt, B2, ρ2, x1, x2, x3⟩, fun x H2 hx => ?_⟩
      obtain ⟨s2, t, et, rt⟩ := gt.yld i B' H' x H2 hlt si'.vis si'.hb hx
      have et' : ts[i] = t := by rw [List.getElem?_eq_getElem hlt] at et; exact Option.some.inj et
      rw [et'] at q'
      have si2 := si'.go s2
      have qq : FiX (xS X C B0 H0) (T t ρ') _ := FiX.bind q'
      refine ⟨B', ρ', t, si2.hb, r'.same s2, rt, (qq.here (si1.trans si2)).mono fun ρ1 q1 σ3 H3 s3 r3 => ?_⟩
      have si3 := si2.go s3
      refine ⟨C, B', H3, B', ρ1, Since.refl si3.hb si3.sub, r3, ((FiX.bind q1).imp fun c xc B4 H4 si4 => xc B4 H4 (si1.trans (si3.trans si4))).mono fun o qo => ?_⟩
      cases o with
      | nx ρ2 => exact fun σ4 B4 H4 si4 r4 => ⟨B4, ρ2, si3.trans si4, r4, qo⟩
      | ct ρ2 => exact fun σ4 B4 H4 si4 r4 => ⟨B4, ρ2, si3.trans si4, r4, qo⟩
      | bk ρ2 => exact fun σ4 B4 H4 si4 r4 => qo σ4 B4 H4 (si1.trans (si3.trans si4)) r4
      | ret t => exact fun v B4 H4 si4 r4 => qo v B4 H4 (si1.trans (si3.trans si4)) r4
    · have e : i = ts.length := by omega
      subst e
      rw [List.drop_length] at q'
      exact .inl ⟨gt.stop B' H' si'.vis, q' σ' B' H' (si1.trans si') r'⟩⟩
def sgnT (z : Str) : List Tr := z.cps.toList.map fun c => Tr.str ⟨#[c]⟩
def seqW (r : Rs Tr) : Rs (List Tr) := r.bind fun t => match t with
  | .tup ts => .ok ts
  | .lst ts => .ok ts
  | .str z => .ok (sgnT z)
  | _ => .bad
theorem goesT_list {K : PySem.W.Frag} {B : Bar} {H : Hp} {a : Addr} {vs : List V} {ts : List Tr} (h : hid B H a = some (.lst vs)) (r : Reps K (hid B H) vs ts) : GoesT K B (Itl K a) H ts where
  go := fun i B' H' hi s hb => by
    have hv : i < vs.length := by rw [r.length]; exact hi
    exact ⟨vs, vs[i], SqL.of (hid_sub _ _ (s.h _ _ h)), by simp [hv]⟩
  yld := fun i B' H' x H'' hi s hb ⟨e, y⟩ => by
    subst e
    have q := y vs (SqL.of (hid_sub _ _ (s.h _ _ h)))
    obtain ⟨t, e1, r1⟩ := r.getV q
    exact ⟨Same.refl _, t, e1, r1.same s⟩
  stop := fun B' H' s => ⟨vs, SqL.of (hid_sub _ _ (s.h _ _ h)), by rw [r.length]; exact Nat.le_refl _⟩
theorem goesT_tup {K : PySem.W.Frag} {B : Bar} {H : Hp} {a : Addr} {vs : List V} {ts : List Tr} (h : SqT K (hid B H) a vs) (r : Reps K (hid B H) vs ts) : GoesT K B (Itt K a) H ts where
  go := fun i B' H' hi s hb => by
    have hv : i < vs.length := by rw [r.length]; exact hi
    exact ⟨vs, vs[i], Same.tup hid_sub (s.h.tup h), by simp [hv]⟩
  yld := fun i B' H' x H'' hi s hb ⟨e, y⟩ => by
    subst e
    have q := y vs (Same.tup hid_sub (s.h.tup h))
    obtain ⟨t, e1, r1⟩ := r.getV q
    exact ⟨Same.refl _, t, e1, r1.same s⟩
  stop := fun B' H' s => ⟨vs, Same.tup hid_sub (s.h.tup h), by rw [r.length]; exact Nat.le_refl _⟩
theorem goesT_str {K : PySem.W.Frag} {B : Bar} {H : Hp} (z : Str) : GoesT K B (Its z) H (sgnT z) where
  go := fun i B' H' hi _ _ => by
    have h : i < z.cps.size := by simpa [sgnT] using hi
    exact h
  yld := fun i B' H' x H'' hi s hb ⟨e, c, hc, hx⟩ => by
    subst e
    subst hx
    refine ⟨Same.refl _, .str ⟨#[c]⟩, ?_, .str _ (by show 1 ≤ txMax; decide)⟩
    unfold sgnT
    rw [List.getElem?_map, Array.getElem?_toList, hc]
    rfl
  stop := fun B' H' s => by simp [sgnT, Its]
theorem str_pie {pins : List (Addr × Obj)} {σ : St} {H1 : Hp} {s1 : Shared} {R : It → Hp → Prop} {tg : Expr} {z : Str} {t : Tok} (I1 : Inv X pins σ H1 s1) (q : R (Its z) H1) : wpAny (model X.prog X.w) X.A (pyIter (.str z t)) (PIE X pins σ tg R) X.xe s1 := by
  have fin : ∀ b ∈ [s1.heap.objs.size], FpOk X pins H1 b := fun b hb => by
    have e : b = s1.heap.objs.size := by simpa using hb
    rw [e]
    exact I1.fpOk (Nat.le_refl _) (I1.hok.fresh (Nat.le_refl _))
  cases ha : z.cps.all (· < 128)
  · exact wpAny_pyIter_wide ha ⟨s1.heap.objs.size, [s1.heap.objs.size], _, _, H1, rfl, I1.kept (t' := s1.toks) fun b o e => Heap.get?_push_of_some _ e,
      turn_str (n := "str_iterator") (t := t) (by decide) (fun A' hA => Walks.strWide hA _ z t) fun _ _ _ _ _ st hq => wpAny_pyIter_striter_wide st hq, ⟨_, Heap.get?_push_size _ rfl, rfl, rfl⟩, fin, q⟩
  · exact wpAny_pyIter_ascii ha ⟨s1.heap.objs.size, [s1.heap.objs.size], _, _, H1, rfl, I1.kept (t' := s1.toks) fun b o e => Heap.get?_push_of_some _ e,
      turn_str (n := "str_ascii_iterator") (t := t) (by decide) (fun A' hA => Walks.strAscii hA _ z t) fun _ _ _ _ _ st hq => wpAny_pyIter_striter_ascii st hq, ⟨_, Heap.get?_push_size _ rfl, rfl, rfl⟩, fin, q⟩
theorem i_seq {tg l : Expr} (hl : PE X l (tP X F)) : PI X tg l (tI X fun ρ => seqW (F ρ)) := by
  intro pins s σ H R I ⟨B, ρ, hb, r, q⟩
  have key : ∀ (v : Value) (s1 : Shared) (x : V) (H1 : Hp) (t : Tr), Inv X pins σ H1 s1 → RelV x v → Same H H1 → Rep X.K (hid B H1) x t → (∃ ts, seqW (.ok t) = .ok ts ∧ ∀ J H', Same H H' → GoesT X.K B J H' ts → R J H') → wpAny (model X.prog X.w) X.A (pyIter v) (PIE X pins σ tg R) X.xe s1 := by
    intro v s1 x H1 t I1 r1 sm rt ⟨ts, et, k⟩
    cases rt with
    | @tup a vs us h rr =>
      cases et
      cases r1
      have hq : SqT X.K H1 a vs := Same.tup hid_sub h
      obtain ⟨its, rv, p, hz⟩ := I1.tuple hq
      refine wpAny_pyIter_tuple (show s1.heap.IsTuple a its.toArray from p) ?_
      refine ⟨s1.heap.objs.size, [s1.heap.objs.size], _, _, H1, rfl, I1.kept (t' := s1.toks) fun b o e => Heap.get?_push_of_some _ e, turn_tuple a _, ⟨_, Heap.get?_push_size _ rfl, rfl, rfl⟩, fun b hb => ?_, k _ H1 sm (goesT_tup h rr)⟩
      have e : b = s1.heap.objs.size := by simpa using hb
      subst e
      exact I1.fpOk (Nat.le_refl _) (I1.hok.fresh (Nat.le_refl _))
    | @lst a vs us h rr =>
      cases et
      cases r1
      have hq : SqL X.K H1 a vs := SqL.of (hid_sub _ _ h)
      obtain ⟨its, rv, p, hz⟩ := I1.list hq
      refine wpAny_pyIter_list p.isList ?_
      refine ⟨s1.heap.objs.size, [s1.heap.objs.size], _, _, H1, rfl, I1.kept (t' := s1.toks) fun b o e => Heap.get?_push_of_some _ e, turn_list a _, ⟨_, Heap.get?_push_size _ rfl, rfl, rfl⟩, fun b hb => ?_, k _ H1 sm (goesT_list h rr)⟩
      have e : b = s1.heap.objs.size := by simpa using hb
      subst e
      exact I1.fpOk (Nat.le_refl _) (I1.hok.fresh (Nat.le_refl _))
    | str z hz =>
      cases et
      obtain ⟨t, rfl⟩ := (show ∃ t, v = Value.str z t from r1)
      exact str_pie I1 (k _ H1 sm (goesT_str z))
    | _ => cases et
  refine thn (hl pins s σ H (fun x H1 => ∃ t, Same H H1 ∧ Rep X.K (hid B H1) x t ∧ ∃ ts, seqW (.ok t) = .ok ts ∧ ∀ J H', Same H H' → GoesT X.K B J H' ts → R J H') I ⟨B, ρ, hb, r, q.bind.mono fun t qt v H1 s1 r1 => ⟨t, s1, r1, ?_⟩⟩) fun v s1 ⟨x, H1, I1, r1, t, sm, rt, k⟩ => key v s1 x H1 t I1 r1 sm rt k
  cases t with
  | tup ts => exact ⟨ts, rfl, qt⟩
  | lst ts => exact ⟨ts, rfl, qt⟩
  | str z => exact ⟨_, rfl, qt⟩
  | _ => exact qt.elim
def rngT (lo : Int) (n : Nat) : List Tr := (List.range n).map fun k => Tr.int (lo + (k : Nat))
theorem rngT_length (lo : Int) (n : Nat) : (rngT lo n).length = n := by simp [rngT]
theorem goesT_range {K : PySem.W.Frag} {B : Bar} {H : Hp} (lo : Int) (n : Nat) : GoesT K B (Itr lo n) H (rngT lo n) where
  go := fun i B' H' hi _ _ => by rw [rngT_length] at hi; exact hi
  yld := fun i B' H' x H'' hi s hb ⟨e, y⟩ => by
    subst e
    subst y
    rw [rngT_length] at hi
    refine ⟨Same.refl _, .int (lo + i), ?_, .int _⟩
    unfold rngT
    rw [List.getElem?_map, List.getElem?_range hi]
    rfl
  stop := fun B' H' s => by rw [rngT_length]; exact Nat.le_refl _
def rng1W (l : Rs (List Tr)) : Rs (List Tr) := l.bind fun ts => match ts with
  | [.int j] => if -4611686018427387904 ≤ j ∧ j < 4611686018427387904 then .ok (rngT 0 j.toNat) else .bad
  | _ => .bad
theorem PI.weak {tg iter : Expr} {t t' : TI} (h : PI X tg iter t) (w : ∀ σ H R, t' σ H R → t σ H R) : PI X tg iter t' := fun pins s σ H R I q => h pins s σ H R I (w σ H R q)
variable {L : Rho → Rs (List Tr)} {tg : Expr} {p : Pos}
theorem i_range1 (hm : X.mg "range" = none) (ha : PA X [a] (tPA X L)) (hg : Gl X "range" := by rfl) (hs : noStars [a] = true := by rfl) : PI X tg (.Call (.Name "range" p) [a] [] pos) (tI X fun ρ => rng1W (L ρ)) :=
  (pi_range1 hg hm ha (by rw [star_cons _ _ (stars_head hs).1]; rfl)).weak fun σ H R ⟨B, ρ, hb, r, q⟩ => ⟨B, ρ, hb, r, q.bind.mono fun ts qt vs H1 s1 r1 => by
    split at qt
    · rename_i j
      cases r1 with
      | cons h1 r1 =>
        cases h1; cases r1
        split at qt
        · rename_i hj
          exact ⟨j, rfl, by omega, by omega, qt _ H1 s1 (goesT_range 0 _)⟩
        · exact qt.elim
    · exact qt.elim⟩
def pur {α : Type} (r : Rs α) : Rs α := match r with
  | .ok a => .ok a
  | _ => .bad
def lcRho (ix : List (Option Nat)) (ρ : Rho) : Rho := ix.map fun o => match o with
  | none => .no
  | some j => match ρ[j]? with
    | some (.sh t) => .sh t
    | _ => .no
theorem RepS.comp {K : PySem.W.Frag} {B B' : Bar} {H H' : Hp} {σ : St} {ρ : Rho} (ix : List (Option Nat)) (h : RepS K B H σ ρ) (s : SameV (hid B H) (hid B' H')) : RepS K B' H' (lcStart ix σ) (lcRho ix ρ) := by
  have no : ∀ (i : Nat) (c : Cell), (lcRho ix ρ)[i]? = some c → c = .no ∨ ∃ j t, ix[i]? = some (some j) ∧ ρ[j]? = some (.sh t) ∧ c = .sh t := fun i c e => by
    unfold lcRho at e
    rw [List.getElem?_map] at e
    cases q : ix[i]? with
    | none => rw [q] at e; cases e
    | some o =>
      rw [q] at e
      cases o with
      | none => exact .inl (Option.some.inj e).symm
      | some j =>
        have e' : (match ρ[j]? with | some (Cell.sh t) => Cell.sh t | _ => Cell.no) = c := Option.some.inj e
        split at e'
        · rename_i t q2; exact .inr ⟨j, t, rfl, q2, e'.symm⟩
        · exact .inl e'.symm
  refine ⟨by unfold lcRho lcStart; rw [List.length_map, List.length_map], fun i t e => ?_, fun i ts e => ?_, fun i j ts us D _ e => ?_⟩
  · rcases no i _ e with q | ⟨j, u, q1, q2, q3⟩
    · cases q
    · cases q3
      obtain ⟨v, e1, r1⟩ := h.sh j t q2
      refine ⟨v, ?_, r1.same s⟩
      unfold lcStart
      rw [List.getElem?_map, q1]
      show some ((σ[j]?).join) = _
      rw [e1]
      rfl
  · rcases no i _ e with q | ⟨j, u, q1, q2, q3⟩
    · cases q
    · cases q3
  · rcases no i _ e with q | ⟨j, u, q1, q2, q3⟩
    · cases q
    · cases q3
def lcL (T : Tgt) (A : Rho → Rs Bool) (F : Rho → Rs Tr) : List Tr → Rho → Rs (List Tr)
  | [], _ => .ok []
  | t :: ts, ρ => (pur (T t ρ)).bind fun ρ1 => (pur (A ρ1)).bind fun k => if k then (pur (F ρ1)).bind fun y => (lcL T A F ts ρ1).bind fun ys => .ok (y :: ys) else lcL T A F ts ρ1
def lcR (ix : List (Option Nat)) (T : Tgt) (A : Rho → Rs Bool) (F : Rho → Rs Tr) (l : Rs (List Tr)) (ρ : Rho) : Rs Tr := l.bind fun ts => if ts.length ≤ szT then (lcL T A F ts (lcRho ix ρ)).bind fun ys => .ok (.lst ys) else .bad
def barD (B : Bar) (D : Addr) : Bar := ⟨fun b => B.hd b || b == D, B.ix⟩
theorem barD_vis {B : Bar} {D : Addr} {H : Hp} {o : HO} (hD : H D = none) : SameV (hid B H) (hid (barD B D) (upd H D o)) := ⟨fun b u e => by
  have e1 := hid_sub b u e
  have hne : b ≠ D := ne_of_none e1 hD
  have hB : B.hd b = false := by
    cases q : B.hd b with
    | false => rfl
    | true =>
      have e2 : (if B.hd b = true then none else H b) = some u := e
      rw [q, if_pos rfl] at e2; cases e2
  rw [hid_at (show (B.hd b || b == D) = false by rw [hB, beq_false_of_ne hne]; rfl), upd_ne hne]
  exact e1, fun _ _ e => e⟩
theorem barD_hb {B : Bar} {D : Addr} {H : Hp} {o : HO} (h : HB B H) (hD : H D = none) : HB (barD B D) (upd H D o) := fun b e => by
  by_cases q : b = D
  · subst q; exact ⟨o, upd_same⟩
  · have e' : (B.hd b || b == D) = true := e
    rw [beq_false_of_ne q, Bool.or_false] at e'
    rw [upd_ne q]
    exact h b e'
theorem barD_self {B : Bar} {D : Addr} : (barD B D).hd D = true := by show (B.hd D || D == D) = true; rw [beq_self_eq_true, Bool.or_true]
theorem barD_upd {B : Bar} {D : Addr} {H : Hp} {o : HO} : hid (barD B D) (upd H D o) = hid (barD B D) H := by
  unfold hid
  congr 1
  funext b
  by_cases q : b = D
  · subst q
    rw [if_pos barD_self, if_pos barD_self]
  · rw [upd_ne q]
theorem barD_le {B : Bar} {D : Addr} : BarLe B (barD B D) := ⟨fun b e => by show (B.hd b || b == D) = true; rw [e, Bool.true_or], fun _ _ e => e⟩
theorem barD_sub {B : Bar} {D : Addr} {H : Hp} : SameV (hid (barD B D) H) (hid B H) := hid_mono barD_le
def NoOw (ρ : Rho) : Prop := ∀ (i : Nat) (ts : List Tr), ρ[i]? ≠ some (.ow ts)
def TgOk (T : Tgt) : Prop := ∀ t ρ ρ', NoOw ρ → T t ρ = .ok ρ' → NoOw ρ'
theorem NoOw.set {ρ : Rho} (h : NoOw ρ) (i : Nat) (t : Tr) : NoOw (ρ.set i (.sh t)) := fun j ts e => by
  rcases set_cases e with ⟨_, _, q⟩ | ⟨_, q⟩
  · cases q
  · exact h j ts q
theorem tgOk_n (i : Nat) : TgOk (gN i) := fun t ρ ρ' h e => by cases e; exact h.set i t
theorem noOw_lc (ix : List (Option Nat)) (ρ : Rho) : NoOw (lcRho ix ρ) := fun i ts e => by
  unfold lcRho at e
  rw [List.getElem?_map] at e
  cases q : ix[i]? with
  | none => rw [q] at e; cases e
  | some o =>
    rw [q] at e
    cases o with
    | none => cases e
    | some j =>
      have e' : (match ρ[j]? with | some (Cell.sh t) => Cell.sh t | _ => Cell.no) = .ow ts := Option.some.inj e
      split at e' <;> cases e'
theorem pur_ok {α : Type} {xc : Tr → Prop} {r : Rs α} {k : α → Prop} (h : FiX xc (pur r) k) : ∃ a, r = .ok a ∧ k a := by
  cases r with
  | ok a => exact ⟨a, rfl, h⟩
  | exc c => exact h.elim
  | bad => exact h.elim
def tP0 (K : PySem.W.Frag) (F : Rho → Rs Tr) : TE := fun σ H Q => ∃ B ρ, HB B H ∧ RepS K B H σ ρ ∧ ∃ t, F ρ = .ok t ∧ ∀ v H', Same H H' → Rep K (hid B H') v t → Q v H'
def tQ0 (K : PySem.W.Frag) (F : Rho → Rs Bool) : TT := fun σ H Q => ∃ B ρ, HB B H ∧ RepS K B H σ ρ ∧ ∃ b, F ρ = .ok b ∧ ∀ H', Same H H' → Q b H'
def tG0 (K : PySem.W.Frag) (T : Tgt) : TG := fun v σ H Q => ∃ B ρ t, HB B H ∧ RepS K B H σ ρ ∧ Rep K (hid B H) v t ∧ ∃ ρ', T t ρ = .ok ρ' ∧ ∀ σ' H', Same H H' → RepS K B H' σ' ρ' → Q σ' H'
theorem tP0_to {X : Cx} {F : Rho → Rs Tr} {σ : St} {H : Hp} {Q : VK} : tP0 X.K F σ H Q → tP X F σ H Q := fun ⟨B, ρ, hb, r, t, e, q⟩ => ⟨B, ρ, hb, r, by rw [e]; exact q⟩
theorem tQ0_to {X : Cx} {F : Rho → Rs Bool} {σ : St} {H : Hp} {Q : Bool → Hp → Prop} : tQ0 X.K F σ H Q → tQ X F σ H Q := fun ⟨B, ρ, hb, r, t, e, q⟩ => ⟨B, ρ, hb, r, by rw [e]; exact q⟩
theorem tG0_to {X : Cx} {T : Tgt} {v : V} {σ : St} {H : Hp} {Q : St → Hp → Prop} : tG0 X.K T v σ H Q → tG X T v σ H Q := fun ⟨B, ρ, t, hb, r, rt, ρ', e, q⟩ => ⟨B, ρ, t, hb, r, rt, by rw [e]; exact q⟩
theorem lc_read {K : PySem.W.Frag} {J : It} {D : Addr} {B : Bar} {H : Hp} {σ0 : St} {ρ0 : Rho} {ts : List Tr} {T : Tgt} {A : Rho → Rs Bool} {F : Rho → Rs Tr} {Q : Hp → Prop} (hT : TgOk T) (h0 : NoOw ρ0) (hb : HB B H) (gt : GoesT K B J H ts) (hz : ts.length ≤ szT) (r : RepS K (barD B D) (upd H D (.lst [])) σ0 ρ0) (hD : H D = none)
    {xc : Tr → Prop} {k : List Tr → Prop} (q : FiX xc (lcL T A F ts ρ0) k) (hQ : ∀ ys H', k ys → Same H H' → Rep K (hid B H') (.ref D) (.lst ys) → Q H') : LcW J D σ0 (upd H D (.lst [])) (tG0 K T) (tQ0 K A) (tP0 K F) Q := by
  refine ⟨fun i m σ H' => m = ts.length - i ∧ i ≤ ts.length ∧ Same H H' ∧ HB (barD B D) H' ∧ SameV (hid B H) (hid (barD B D) H') ∧ ∃ ρ vs us, NoOw ρ ∧ RepS K (barD B D) H' σ ρ ∧ H' D = some (.lst vs) ∧ vs.length ≤ i ∧ Reps K (hid (barD B D) H') vs us ∧ FiX xc (lcL T A F (ts.drop i) ρ) (fun ys => k (us ++ ys)),
    ⟨_, rfl, Nat.zero_le _, Same.upd hD, barD_hb hb hD, barD_vis hD, ρ0, [], [], h0, r, upd_same, Nat.le_refl _, .nil, q⟩, ?_⟩
  rintro i m σ H' ⟨rfl, hi, sm, hb', vis, ρ, vs, us, no, rs, hd, hl, rv, q'⟩
  by_cases hlt : i < ts.length
  · rw [List.drop_eq_getElem_cons hlt] at q'
    refine .inr ⟨gt.go i _ H' hlt vis hb', fun σ2 H2 => Same H H2 ∧ HB (barD B D) H2 ∧ SameV (hid B H) (hid (barD B D) H2) ∧ ∃ ρ vs us, NoOw ρ ∧ RepS K (barD B D) H2 σ2 ρ ∧ H2 D = some (.lst vs) ∧ vs.length ≤ i + 1 ∧ Reps K (hid (barD B D) H2) vs us ∧ FiX xc (lcL T A F (ts.drop (i + 1)) ρ) (fun ys => k (us ++ ys)),
      fun σ2 H2 h => ⟨ts.length - (i + 1), by omega, rfl, hlt, h⟩, fun x H2 hx => ?_⟩
    obtain ⟨s2, t, et, rt⟩ := gt.yld i _ H' x H2 hlt vis hb' hx
    have et' : ts[i] = t := by rw [List.getElem?_eq_getElem hlt] at et; exact Option.some.inj et
    rw [et'] at q'
    obtain ⟨ρ1, eT, q1⟩ := pur_ok (FiX.bind q')
    have no1 := hT t ρ ρ1 no eT
    refine ⟨_, ρ, t, hb'.same s2, rs.same s2, rt, ρ1, eT, fun σ3 H3 s3 r3 => ?_⟩
    have s23 := s2.trans s3
    obtain ⟨c, eA, qc⟩ := pur_ok (FiX.bind q1)
    refine ⟨_, ρ1, hb'.same s23, r3, c, eA, fun H4 s4 => ?_⟩
    have s24 := s23.trans s4
    have g4 : Same H H4 := sm.trans s24
    cases c with
    | false =>
      exact iteF ⟨g4, hb'.same s24, vis.trans (hid_same s24), ρ1, vs, us, no1, r3.same s4, s24 _ _ hd, by omega, rv.same (hid_same s24), qc⟩
    | true =>
      obtain ⟨y, eF, qy⟩ := pur_ok (FiX.bind qc)
      refine iteT ⟨_, ρ1, hb'.same s24, r3.same s4, y, eF, fun v H5 s5 r5 => ?_⟩
      have s25 := s24.trans s5
      refine ⟨vs, s25 _ _ hd, by rw [← szT_eq]; omega, (sm.trans s25).upd' hD, ?_, ?_, ρ1, vs ++ [v], us ++ [y], no1, ?_, upd_same, by rw [List.length_append]; exact Nat.add_le_add_right hl 1, ?_, ?_⟩
      · intro b e
        by_cases q : b = D
        · subst q; exact ⟨_, upd_same⟩
        · rw [upd_ne q]; exact (hb'.same s25) b e
      · rw [barD_upd]; exact vis.trans (hid_same s25)
      · have r5' := (r3.same s4).same s5
        refine ⟨r5'.len, fun i t e => ?_, fun i ts e => (no1 i ts e).elim, r5'.ap⟩
        rw [barD_upd]; exact r5'.sh i t e
      · rw [barD_upd]; exact (rv.same (hid_same s25)).append (.cons r5 .nil)
      · exact (FiX.bind qy).mono fun ys q => by rw [List.append_assoc]; exact q
  · have e : i = ts.length := by omega
    subst e
    rw [List.drop_length] at q'
    refine .inl ⟨gt.stop _ H' vis, hQ us H' (by have := (show k (us ++ []) from q'); rw [List.append_nil] at this; exact this) sm (.lst ?_ (rv.same barD_sub))⟩
    rw [hid_at (hb.free hD)]
    exact hd
variable {scope : Scope} {N' : List Str} {ix : List (Option Nat)} {elt iter : Expr} {ifs : List Expr} {T : Tgt} {W : Rho → Rs (List Tr)}
theorem f_nil {X : Cx} : PF X [] (tQ X fun _ => .ok true) := fun pins s σ H Q I ⟨B, ρ, hb, r, q⟩ => pf_nil pins s σ H Q I (q H (Same.refl H))
theorem tLC_read {σ : St} {H : Hp} {Q : VK} (hT : TgOk T) (q : tP X (fun ρ => lcR ix T A F (W ρ) ρ) σ H Q) : tLC (tI X W) ix (tG0 X.K T) (tQ0 X.K A) (tP0 X.K F) σ H Q := by
  obtain ⟨B, ρ, hb, r, q⟩ := q
  refine ⟨B, ρ, hb, r, q.bind.mono fun ts qt J H1 s1 gt D hD => ?_⟩
  by_cases hz : ts.length ≤ szT
  · rw [if_pos hz] at qt
    exact lc_read hT (noOw_lc ix ρ) (hb.same s1) gt hz ((r.same s1).comp ix (barD_vis hD)) hD (Fi.bind qt) fun ys H' k s' rp => k _ H' (s1.trans s') rp
  · rw [if_neg hz] at qt; exact qt.elim
structure Blk (X : Cx) (scope : Scope) (N' : List Str) (tg elt : Expr) (ifs : List Expr) (T : Tgt) (A : Rho → Rs Bool) (F : Rho → Rs Tr) : Prop where
  all : ∀ s H ex, PG (cxC X scope N' s H ex) tg (tG (cxC X scope N' s H ex) T) ∧ PF (cxC X scope N' s H ex) ifs (tQ (cxC X scope N' s H ex) A) ∧ PE (cxC X scope N' s H ex) elt (tP (cxC X scope N' s H ex) F)
theorem Blk.to0 {X : Cx} {scope : Scope} {N' : List Str} {tg elt : Expr} {ifs : List Expr} {T : Tgt} {A : Rho → Rs Bool} {F : Rho → Rs Tr} (h : Blk X scope N' tg elt ifs T A F) : ∀ s H ex, PG (cxC X scope N' s H ex) tg (tG0 X.K T) ∧ PF (cxC X scope N' s H ex) ifs (tQ0 X.K A) ∧ PE (cxC X scope N' s H ex) elt (tP0 X.K F) := fun s H ex => by
  obtain ⟨h1, h2, h3⟩ := h.all s H ex
  exact ⟨fun pins s σ H v u Q I r q => h1 pins s σ H v u Q I r (tG0_to q), fun pins s σ H Q I q => h2 pins s σ H Q I (tQ0_to q), fun pins s σ H Q I q => h3 pins s σ H Q I (tP0_to q)⟩
theorem t_lc (Lk : LcOk X N' ix scope) (hi : PI X tg iter (tI X W)) (hin : Blk X scope N' tg elt ifs T A F) (hT : TgOk T) (hc : X.calm = true := by rfl) (hs : isSet iter = false := by rfl) :
    PE X (.ListComp elt [⟨tg, iter, ifs, 0⟩] scope pos) (tP X fun ρ => lcR ix T A F (W ρ) ρ) :=
  (pe_lc Lk hc hi hin.to0 (folded_no hs)).weak fun σ H Q q => tLC_read hT q
theorem s_setLC {i : Nat} {x : Str} {px spos : Pos} (Lk : LcOk X N' ix scope) (hit : PI X tg iter (tI X W)) (hin : Blk X scope N' tg elt ifs T A F) (hT : TgOk T) (hN : X.N.Nodup := by assumption) (hc : X.calm = true := by rfl) (hi : X.N[i]? = some x := by rfl) (hx : Loc X.env.scope x := by first | exact Or.inl rfl | exact Or.inr rfl)
    (hsw : swapsWith (.ListComp elt [⟨tg, iter, ifs, 0⟩] scope pos) (some (.Name x px)) spos.line X.env = pure true := by rfl) (hs : isSet iter = false := by rfl) (hf : X.fn x = true ∨ X.env.scope.names.lookup x = some .local := by first | exact .inl rfl | exact .inr rfl | assumption) :
    PS X (.Assign [.Name x px] (.ListComp elt [⟨tg, iter, ifs, 0⟩] scope pos) spos) (tS X fun ρ => setO i (lcR ix T A F (W ρ) ρ) ρ) :=
  (ps_setLC Lk hc hN hi hx hit hin.to0 hsw (folded_no hs) hf).weak fun D σ H ⟨C, B0, H0, B, ρ, si, r, q⟩ => tLC_read hT (tP_in (F := fun ρ => lcR ix T A F (W ρ) ρ) si r q.bind fun t v H1 qt s1 si1 r1 rv => qt _ B H1 si1 (r1.set i rv))
def bodyR (r : Rs Out) : Rs Tr := r.bind fun o => match o with
  | .nx _ => .ok .non
  | .ret t => .ok t
  | _ => .bad
theorem Fun.okT {P : Program} {w : World} {K : PySem.W.Frag} {mg : Str → Option Value} {base : Heap} {x qual : Str} {st : Stmt} {f : Addr} {fd : FuncData} {N ps : List Str} {k : Nat} {h : List Tr → Rs Tr} (Fn : Fun K x qual st f fd) (S : FnScope N ps (defScope st)) (len : ∀ ts t, h ts = .ok t → ts.length = ps.length)
    (hbody : ∀ (cdv : Value) (A : Around) (outer : List Env) (s : Shared) (H : Hp) (E : XK), Room k (A.deeper (envOfC qual (defScope st) s.heap.objs.size f cdv)) →
      ∃ G, PSs (cxOf CX0 P w K mg base N qual (defScope st) f cdv A outer s H E).nox (defBody st) (tS (cxOf CX0 P w K mg base N qual (defScope st) f cdv A outer s H E).nox G) ∧ ∀ ts t, h ts = .ok t → bodyR (G (startT N.length ts)) = .ok t) : FnOk P w K mg base CX0 (k + 1) f fd ps (spT K h) := by
  refine Fn.ok S (fun vs H Q E q => ?_) (fun cdv A outer s H vs Q E hr q => ?_)
  · obtain ⟨B, ts, hb, r, t, e, _⟩ := q
    rw [r.length]; exact len ts t e
  · obtain ⟨B, ts, hb, r, t, e, q⟩ := q
    obtain ⟨G, hG, hE⟩ := hbody cdv A outer s H E hr
    refine ⟨_, hG, B, B, H, B, startT N.length ts, Since.refl hb BarLe.refl, RepS.start r, ?_⟩
    have e1 := hE ts t e
    cases eo : G (startT N.length ts) with
    | ok o =>
      rw [eo] at e1
      cases o with
      | nx ρ => cases e1; exact fun σ' B' H' si r' => q .non H' si.same .non
      | ret u => cases e1; exact fun v B' H' si r' => q v H' si.same r'
      | bk ρ => cases e1
      | ct ρ => cases e1
    | exc c => rw [eo] at e1; cases e1
    | bad => rw [eo] at e1; cases e1
end
end L2
namespace L2
open PySem PySem.Spec PyProof.Rows
section
variable {X : Cx}
theorem op_catS : OpR X (binaryOp .Add) (fun x y H Q => ∃ (a b : Addr) (xs ys : List V), x = .ref a ∧ y = .ref b ∧ SqT X.K H a xs ∧ SqT X.K H b ys ∧ xs.length + ys.length ≤ sizeLine ∧ (xs = [] → Q (.ref b) H) ∧ (ys = [] → Q (.ref a) H) ∧ ∀ p, H p = none → Q (.ref p) (upd H p (.tup (xs ++ ys)))) := by
  intro pins s σ H x y v u Q I rx ry h
  obtain ⟨a, b, xs, ys, rfl, rfl, ha, hb, hz, q1, q2, q3⟩ := h
  by_cases hx : xs = []
  · subst hx
    cases (show v = Value.ref a from rx)
    cases (show u = Value.ref b from ry)
    obtain ⟨i1, r1, p1, _⟩ := I.tuple ha
    obtain ⟨i2, r2, p2, _⟩ := I.tuple hb
    cases r1
    obtain ⟨dd, n, sl, h1⟩ := isTup_get p1
    obtain ⟨dd2, n2, sl2, h2⟩ := isTup_get p2
    exact concat_meets ⟨_, h1, rfl⟩ ⟨_, h2, rfl⟩ noFill_tuple_add seq_tuple_add PySem.F.slot_tuple_add PySem.F.entry_tuple_add (PySem.F.args_tuple_add_2 _ _) (tuple_addW0 a b _ _ n n2 dd dd2 sl sl2 rfl) ⟨h1, h2, ⟨.ref b, H, I, rfl, q1 rfl⟩⟩
  · exact op_catT pins s σ H _ _ v u Q I rx ry ⟨a, b, xs, ys, rfl, rfl, ha, hb, hx, hz, q2, fun _ p hp => q3 p hp⟩
theorem Rep.up {K : PySem.W.Frag} {B : Bar} {H : Hp} {v : V} {t : Tr} (r : Rep K (hid B H) v t) : Rep K (raw B H) v t := r.same hid_raw
theorem SqT.up {K : PySem.W.Frag} {B : Bar} {H : Hp} {a : Addr} {xs : List V} (h : SqT K (hid B H) a xs) : SqT K H a xs := Same.tup hid_sub h
theorem hid_up {B : Bar} {H : Hp} {a : Addr} {o : HO} (h : hid B H a = some o) : H a = some o := hid_sub _ _ h
theorem Rep.newT {K : PySem.W.Frag} {B : Bar} {H : Hp} {p : Addr} {vs : List V} {ts : List Tr} (hb : HB B H) (hp : H p = none) (r : Reps K (hid B H) vs ts) : Rep K (hid B (upd H p (.tup vs))) (.ref p) (.tup ts) := .tup (.of (hb.new hp)) (r.same (hid_same (Same.upd hp)))
theorem Rep.newL {K : PySem.W.Frag} {B : Bar} {H : Hp} {p : Addr} {vs : List V} {ts : List Tr} (hb : HB B H) (hp : H p = none) (r : Reps K (hid B H) vs ts) : Rep K (hid B (upd H p (.lst vs))) (.ref p) (.lst ts) := .lst (hb.new hp) (r.same (hid_same (Same.upd hp)))
theorem reps_nil {K : PySem.W.Frag} {H : Vw} {ts : List Tr} (h : Reps K H [] ts) : ts = [] := by cases h; rfl
theorem tx_app {a b : Str} (h : a.length + b.length ≤ txMax) : (a ++ b).length ≤ txMax := by rw [PySem.Str.length_append]; exact h
def addT : Tr → Tr → Rs Tr
  | .int i, .int j => .ok (.int (i + j))
  | .str a, .str b => if a.length + b.length ≤ txMax then .ok (.str (a ++ b)) else .bad
  | .tup a, .tup b => if a.length + b.length ≤ szT then .ok (.tup (a ++ b)) else .bad
  | .lst a, .lst b => if a.length + b.length ≤ szT then .ok (.lst (a ++ b)) else .bad
  | _, _ => .bad
theorem fi_if {H : Hp} {c : Prop} [Decidable c] {t : Tr} {k : Tr → Prop} (h : Fi X H (if c then Rs.ok t else .bad) k) : c ∧ k t := by
  by_cases hc : c
  · rw [if_pos hc] at h; exact ⟨hc, h⟩
  · rw [if_neg hc] at h; exact h.elim
theorem o_add : OpT X (binaryOp .Add) addT := by
  intro pins s σ H x y v u Q I rx ry ⟨B, tx, ty, hb, r1, r2, q⟩
  cases r1 with
  | int i =>
    cases r2 with
    | int j => exact op_add pins s σ H _ _ v u Q I rx ry ⟨i, j, rfl, rfl, q _ H (Same.refl H) (.int _)⟩
    | _ => exact (show False from q).elim
  | str a ha =>
    cases r2 with
    | str b hb' =>
      obtain ⟨hz, k⟩ := fi_if q
      exact op_add_str pins s σ H _ _ v u Q I rx ry ⟨a, b, rfl, rfl, Nat.le_trans hz tx_line, k _ H (Same.refl H) (.str _ (tx_app hz))⟩
    | _ => exact (show False from q).elim
  | tup h1 rr1 =>
    cases r2 with
    | tup h2 rr2 =>
      obtain ⟨hz, k⟩ := fi_if q
      refine op_catS pins s σ H _ _ v u Q I rx ry ⟨_, _, _, _, rfl, rfl, h1.up, h2.up, by rw [rr1.length, rr2.length, ← szT_eq]; exact hz, fun e => ?_, fun e => ?_, fun p hp => k _ _ (Same.upd hp) (.newT hb hp (rr1.append rr2))⟩
      · subst e
        rw [reps_nil rr1] at k
        exact k _ H (Same.refl H) (.tup h2 rr2)
      · subst e
        rw [reps_nil rr2, List.append_nil] at k
        exact k _ H (Same.refl H) (.tup h1 rr1)
    | _ => exact (show False from q).elim
  | lst h1 rr1 =>
    cases r2 with
    | lst h2 rr2 =>
      obtain ⟨hz, k⟩ := fi_if q
      exact op_cat pins s σ H _ _ v u Q I rx ry ⟨_, _, _, _, rfl, rfl, hid_up h1, hid_up h2, by rw [rr1.length, rr2.length, ← szT_eq]; exact hz, fun p hp => k _ _ (Same.upd hp) (.newL hb hp (rr1.append rr2))⟩
    | _ => exact (show False from q).elim
  | _ => cases r2 <;> exact (show False from q).elim
def subT : Tr → Tr → Rs Tr
  | .int i, .int j => .ok (.int (i - j))
  | _, _ => .bad
theorem o_sub : OpT X (binaryOp .Sub) subT := by
  intro pins s σ H x y v u Q I rx ry ⟨B, tx, ty, hb, r1, r2, q⟩
  unfold subT at q
  split at q
  · rename_i i j
    cases r1
    cases r2
    exact op_sub pins s σ H _ _ v u Q I rx ry ⟨i, j, rfl, rfl, q _ H (Same.refl H) (.int _)⟩
  · exact (show False from q).elim
def modT : Tr → Tr → Rs Tr
  | .int i, .int j => if 0 < j then .ok (.int (i % j)) else .bad
  | _, _ => .bad
theorem o_mod : OpT X (binaryOp .Mod) modT := by
  intro pins s σ H x y v u Q I rx ry ⟨B, tx, ty, hb, r1, r2, q⟩
  unfold modT at q
  split at q
  · rename_i i j
    cases r1
    cases r2
    obtain ⟨hz, k⟩ := fi_if q
    exact op_mod pins s σ H _ _ v u Q I rx ry ⟨i, j, rfl, rfl, hz, k _ H (Same.refl H) (.int _)⟩
  · exact (show False from q).elim
def fdivT : Tr → Tr → Rs Tr
  | .int i, .int j => if 0 < j ∧ j < 1073741824 then .ok (.int (i / j)) else .bad
  | _, _ => .bad
theorem o_fdiv : OpT X (binaryOp .FloorDiv) fdivT := by
  intro pins s σ H x y v u Q I rx ry ⟨B, tx, ty, hb, r1, r2, q⟩
  unfold fdivT at q
  split at q
  · rename_i i j
    cases r1
    cases r2
    obtain ⟨hz, k⟩ := fi_if q
    exact op_fdiv pins s σ H _ _ v u Q I rx ry ⟨i, j, rfl, rfl, hz, k _ H (Same.refl H) (.int _)⟩
  · exact (show False from q).elim
def mulOk (i j : Int) : Prop := (-18446744073709551616 < i ∧ i < 18446744073709551616) ∨ (-18446744073709551616 < j ∧ j < 18446744073709551616)
theorem mulOk.cm {i j : Int} (h : mulOk i j) : CMul i j := by
  unfold mulOk at h
  unfold CMul
  omega
instance (i j : Int) : Decidable (mulOk i j) := by unfold mulOk; infer_instance
def mulT : Tr → Tr → Rs Tr
  | .int i, .int j => if mulOk i j then .ok (.int (i * j)) else .bad
  | .str z, .int n => if 0 ≤ n ∧ n ≤ 1000 ∧ z.length ≤ 1000 then .ok (.str (Txt.mul z n)) else .bad
  | .lst ts, .int n => if 0 ≤ n ∧ n ≤ 1000 ∧ ts.length * n.toNat ≤ szT then .ok (.lst (List.replicate n.toNat ts).flatten) else .bad
  | _, _ => .bad
theorem op_repR : OpR X (binaryOp .Mult) (fun x y H Q => ∃ (l : Addr) (k : Int) (xs : List V), x = .ref l ∧ y = .int k ∧ H l = some (.lst xs) ∧ -(2 ^ 63) ≤ k ∧ k < 2 ^ 63 ∧ xs.length * k.toNat ≤ sizeLine ∧ ∀ p, H p = none → Q (.ref p) (upd H p (.lst (List.replicate k.toNat xs).flatten))) := op_rep
theorem mul_len {z : Str} {n : Int} (h0 : 0 ≤ n) (h1 : n ≤ 1000) (hz : z.length ≤ 1000) : (Txt.mul z n).length ≤ txMax := by
  have e := PyProof.Rows.len_mul z n
  split at e
  · have : ((Txt.mul z n).length : Int) = 0 := e
    unfold txMax
    omega
  · have h2 : (z.length : Int) * n ≤ 1000 * 1000 := Int.mul_le_mul (by omega) h1 h0 (by decide)
    have e' : ((Txt.mul z n).length : Int) = (z.length : Int) * n := e
    unfold txMax
    omega
theorem o_mul : OpT X (binaryOp .Mult) mulT := by
  intro pins s σ H x y v u Q I rx ry ⟨B, tx, ty, hb, r1, r2, q⟩
  cases r1 with
  | int i =>
    cases r2 with
    | int j =>
      obtain ⟨hz, k⟩ := fi_if q
      exact op_mul pins s σ H _ _ v u Q I rx ry ⟨i, j, rfl, rfl, hz.cm, k _ H (Same.refl H) (.int _)⟩
    | _ => exact (show False from q).elim
  | str z hz' =>
    cases r2 with
    | int n =>
      obtain ⟨⟨h0, h1, h2⟩, k⟩ := fi_if q
      exact op_mulS pins s σ H _ _ v u Q I rx ry ⟨z, n, rfl, rfl, PyProof.Rows.mulOk_of 1000 1000 h2 h1 (by omega) (by decide) (by decide), k _ H (Same.refl H) (.str _ (mul_len h0 h1 h2))⟩
    | _ => exact (show False from q).elim
  | lst h1 rr1 =>
    cases r2 with
    | int n =>
      obtain ⟨⟨h0, hn, hz⟩, k⟩ := fi_if q
      exact op_repR pins s σ H _ _ v u Q I rx ry ⟨_, n, _, rfl, rfl, hid_up h1, by omega, by omega, by rw [rr1.length, ← szT_eq]; exact hz, fun p hp => k _ _ (Same.upd hp) (.newL hb hp (rr1.rep _))⟩
    | _ => exact (show False from q).elim
  | _ => cases r2 <;> exact (show False from q).elim
end
end L2
namespace L2
open PySem PySem.Spec PyProof.Rows
mutual
def eqT : Tr → Tr → Bool
  | .non, .non => true
  | .bl a, .bl b => a == b
  | .bl a, .int b => (if a then 1 else 0) == b
  | .int a, .bl b => a == (if b then 1 else 0)
  | .int a, .int b => a == b
  | .str a, .str b => a == b
  | .tup a, .tup b => eqTs a b
  | .lst a, .lst b => eqTs a b
  | _, _ => false
def eqTs : List Tr → List Tr → Bool
  | [], [] => true
  | x :: xs, y :: ys => eqT x y && eqTs xs ys
  | _, _ => false
end
mutual
def plT : Tr → Bool
  | .non => true
  | .bl _ => true
  | .int _ => true
  | .str _ => true
  | .tup ts => plTs ts
  | .lst ts => plTs ts
  | _ => false
def plTs : List Tr → Bool
  | [] => true
  | t :: ts => plT t && plTs ts
end
mutual
def dT : Tr → Nat
  | .tup ts => dTs ts + 1
  | .lst ts => dTs ts + 1
  | _ => 0
def dTs : List Tr → Nat
  | [] => 0
  | t :: ts => max (dT t) (dTs ts)
end
theorem plTs_mem : ∀ {ts : List Tr}, plTs ts = true → ∀ t ∈ ts, plT t = true
  | [], _, t, h => nomatch h
  | u :: us, h, t, m => by
    rw [plTs, Bool.and_eq_true] at h
    rcases List.mem_cons.mp m with rfl | m
    · exact h.1
    · exact plTs_mem h.2 t m
theorem dTs_mem : ∀ {ts : List Tr}, ∀ t ∈ ts, dT t ≤ dTs ts
  | [], t, h => nomatch h
  | u :: us, t, m => by
    rw [dTs]
    rcases List.mem_cons.mp m with rfl | m
    · exact Nat.le_max_left _ _
    · exact Nat.le_trans (dTs_mem t m) (Nat.le_max_right _ _)
theorem eqTs_all : ∀ (xs ys : List Tr), ((List.range (min xs.length ys.length)).all (fun j => eqT (xs.getD j .non) (ys.getD j .non)) && xs.length == ys.length) = eqTs xs ys
  | [], [] => rfl
  | [], y :: ys => rfl
  | x :: xs, [] => rfl
  | x :: xs, y :: ys => by
    have ih := eqTs_all xs ys
    rw [eqTs, ← ih, List.length_cons, List.length_cons, Nat.succ_min_succ, List.range_succ_eq_map, List.all_cons, List.all_map, Bool.and_assoc]
    congr 1
    have e1 : (xs.length + 1 == ys.length + 1) = (xs.length == ys.length) := by rw [Bool.eq_iff_iff, beq_iff_eq, beq_iff_eq]; omega
    rw [e1]
    rfl
section
variable {A : Around} {s : Shared}
theorem eqAt_rc {v u : Value} {k : Bool} (hv : ∀ b t, v ≠ Value.float b t) (hs : v = u → k = true) (h : SeqAt.RcAt A s v u k) : SeqAt.EqAt A s v u k := fun prog w E Q hq => by
  unfold eqBool
  refine wpAny_holding ?_
  refine wpAny_ite_split (fun hab => ?_) (fun _ => ?_)
  · rw [hs (eq_of_beq hab)] at hq
    exact wpAny_bind (wpAny_rule (wpAny_pure hq))
  · cases v with
    | float b t => exact absurd rfl (hv b t)
    | _ => exact wpAny_bind (h prog w E _ (wpAny_truthy_bool hq))
end
section
variable {X : Cx} {pins : List (Addr × Obj)} {σ : St} {H : Hp} {ixx : Addr → Option Nat} {s : Shared}
theorem tup_not_lst (I : Inv X pins σ H s) {a : Addr} {vs ws : List V} (h1 : SqT X.K H a vs) (h2 : H a = some (.lst ws)) : False := by
  obtain ⟨_, _, ⟨o, e, c, _⟩, _⟩ := I.tuple h1
  obtain ⟨_, its, n, _, e2⟩ := I.hok a _ h2
  rw [e] at e2
  cases e2
  exact absurd c (by show ¬ (Value.type "list" = .type "tuple"); decide +kernel)
theorem rep_fun (I : Inv X pins σ H s) : ∀ (n : Nat) {x : V} {t t' : Tr}, dT t ≤ n → plT t = true → plT t' = true → Rep X.K (⟨H, ixx⟩ : Vw) x t → Rep X.K (⟨H, ixx⟩ : Vw) x t' → t = t' := by
  intro n
  induction n with
  | zero =>
    intro x t t' hd p p' r r'
    cases r with
    | tup h rr => exact absurd hd (by rw [dT]; omega)
    | lst h rr => exact absurd hd (by rw [dT]; omega)
    | ty n => cases p
    | scr h => cases p
    | dic h e rr => cases p
    | «at» h => cases p
    | dct h e rr => cases p
    | ob h e rr => cases p
    | exn h c => cases p
    | non => cases r'; rfl
    | bl b => cases r'; rfl
    | int i => cases r'; rfl
    | str z h => cases r'; rfl
  | succ n ih =>
    intro x t t' hd p p' r r'
    have go : ∀ {vs : List V} {ts ts' : List Tr}, (∀ t ∈ ts, dT t ≤ n) → (∀ t ∈ ts, plT t = true) → (∀ t ∈ ts', plT t = true) → Reps X.K (⟨H, ixx⟩ : Vw) vs ts → Reps X.K (⟨H, ixx⟩ : Vw) vs ts' → ts = ts' := by
      intro vs
      induction vs with
      | nil => intro ts ts' _ _ _ q q'; cases q; cases q'; rfl
      | cons v vs ihv =>
        intro ts ts' h1 h2 h3 q q'
        cases q with
        | cons qh qr =>
          cases q' with
          | cons qh' qr' =>
            rw [ih (h1 _ (List.mem_cons_self ..)) (h2 _ (List.mem_cons_self ..)) (h3 _ (List.mem_cons_self ..)) qh qh', ihv (fun t m => h1 t (List.mem_cons_of_mem _ m)) (fun t m => h2 t (List.mem_cons_of_mem _ m)) (fun t m => h3 t (List.mem_cons_of_mem _ m)) qr qr']
    cases r with
    | tup h rr =>
      rw [dT] at hd
      cases r' with
      | tup h' rr' =>
        have e := I.tuple_inj h h'
        subst e
        rw [go (fun t m => Nat.le_trans (dTs_mem t m) (by omega)) (plTs_mem p) (plTs_mem p') rr rr']
      | lst h' rr' => exact (tup_not_lst I h h').elim
      | scr h' => cases p'
      | dic h' e rr' => cases p'
      | «at» h => cases p'
      | dct h e rr => cases p'
      | ob h e rr => cases p'
      | exn h c => cases p'
    | lst h rr =>
      rw [dT] at hd
      cases r' with
      | lst h' rr' =>
        rw [h] at h'
        cases h'
        rw [go (fun t m => Nat.le_trans (dTs_mem t m) (by omega)) (plTs_mem p) (plTs_mem p') rr rr']
      | tup h' rr' => exact (tup_not_lst I h' h).elim
      | scr h' => cases p'
      | dic h' e rr' => cases p'
      | «at» h => cases p'
      | dct h e rr => cases p'
      | ob h e rr => cases p'
      | exn h c => cases p'
    | ty n => cases p
    | scr h => cases p
    | dic h e rr => cases p
    | «at» h => cases p
    | dct h e rr => cases p
    | ob h e rr => cases p
    | exn h c => cases p
    | non => cases r'; rfl
    | bl b => cases r'; rfl
    | int i => cases r'; rfl
    | str z h => cases r'; rfl
mutual
theorem eqT_refl : ∀ {t : Tr}, plT t = true → eqT t t = true
  | .non, _ => rfl
  | .bl b, _ => by rw [eqT]; exact beq_self_eq_true b
  | .int i, _ => by rw [eqT]; exact beq_self_eq_true i
  | .str z, _ => by rw [eqT]; exact beq_self_eq_true z
  | .tup ts, h => by rw [eqT]; rw [plT] at h; exact eqTs_refl h
  | .lst ts, h => by rw [eqT]; rw [plT] at h; exact eqTs_refl h
  | .ty _, h => by cases h
  | .scr _, h => by cases h
  | .dic _, h => by cases h
  | .at _, h => by cases h
  | .dct _, h => by cases h
  | .ob _ _, h => by cases h
  | .exn _, h => by cases h
theorem eqTs_refl : ∀ {ts : List Tr}, plTs ts = true → eqTs ts ts = true
  | [], _ => rfl
  | t :: ts, h => by
    rw [plTs, Bool.and_eq_true] at h
    rw [eqTs, eqT_refl h.1, eqTs_refl h.2]
    rfl
end
theorem getD_of {α : Type} {l : List α} {j : Nat} {x d : α} (h : l[j]? = some x) : l.getD j d = x := by rw [List.getD_eq_getElem?_getD, h]; rfl
theorem rc_rep (I : Inv X pins σ H s) : ∀ (n : Nat) {A : Around} {x y : V} {v u : Value} {t t' : Tr}, dT t ≤ n → plT t = true → plT t' = true → Rep X.K (⟨H, ixx⟩ : Vw) x t → Rep X.K (⟨H, ixx⟩ : Vw) y t' → RelV x v → RelV y u → A.units + n < cLine → SeqAt.RcAt A s v u (eqT t t') := by
  intro n
  induction n with
  | zero =>
    intro A x y v u t t' hd p p' r r' rx ry hu
    cases r with
    | tup h rr => exact absurd hd (by rw [dT]; omega)
    | lst h rr => exact absurd hd (by rw [dT]; omega)
    | ty n => cases p
    | scr h => cases p
    | dic h e rr => cases p
    | «at» h => cases p
    | dct h e rr => cases p
    | ob h e rr => cases p
    | exn h c => cases p
    | non =>
      cases (show v = Value.none from rx)
      cases r' with
      | non => cases (show u = Value.none from ry); exact SeqAt.RcAt.none_none
      | bl b => cases (show u = Value.bool b from ry); exact SeqAt.RcAt.none_bool b
      | int b => obtain ⟨w, rfl⟩ := (show ∃ t, u = Value.int b t from ry); exact SeqAt.RcAt.none_int b w
      | str b _ => obtain ⟨w, rfl⟩ := (show ∃ t, u = Value.str b t from ry); exact SeqAt.RcAt.none_str b w
      | @tup a _ _ h rr => cases (show u = Value.ref a from ry); obtain ⟨_, _, q, _⟩ := I.tuple h; exact SeqAt.RcAt.none_tuple q (by omega)
      | @lst a _ _ h rr => cases (show u = Value.ref a from ry); obtain ⟨_, _, q, _⟩ := I.list (.of h); exact SeqAt.RcAt.none_list q.isList (by omega)
      | ty n => cases p'
      | scr h => cases p'
      | dic h e rr => cases p'
      | «at» h => cases p'
      | dct h e rr => cases p'
      | ob h e rr => cases p'
      | exn h c => cases p'
    | bl c =>
      cases (show v = Value.bool c from rx)
      cases r' with
      | non => cases (show u = Value.none from ry); exact SeqAt.RcAt.bool_none c
      | bl b => cases (show u = Value.bool b from ry); exact SeqAt.RcAt.bool_bool c b
      | int b => obtain ⟨w, rfl⟩ := (show ∃ t, u = Value.int b t from ry); exact SeqAt.RcAt.bool_int c b w
      | str b _ => obtain ⟨w, rfl⟩ := (show ∃ t, u = Value.str b t from ry); exact SeqAt.RcAt.bool_str c b w
      | @tup a _ _ h rr => cases (show u = Value.ref a from ry); obtain ⟨_, _, q, _⟩ := I.tuple h; exact SeqAt.RcAt.bool_tuple c q (by omega)
      | @lst a _ _ h rr => cases (show u = Value.ref a from ry); obtain ⟨_, _, q, _⟩ := I.list (.of h); exact SeqAt.RcAt.bool_list c q.isList (by omega)
      | ty n => cases p'
      | scr h => cases p'
      | dic h e rr => cases p'
      | «at» h => cases p'
      | dct h e rr => cases p'
      | ob h e rr => cases p'
      | exn h c => cases p'
    | int c =>
      obtain ⟨w0, rfl⟩ := (show ∃ t, v = Value.int c t from rx)
      cases r' with
      | non => cases (show u = Value.none from ry); exact SeqAt.RcAt.int_none c w0
      | bl b => cases (show u = Value.bool b from ry); exact SeqAt.RcAt.int_bool c w0 b
      | int b => obtain ⟨w, rfl⟩ := (show ∃ t, u = Value.int b t from ry); exact SeqAt.RcAt.int_int c w0 b w
      | str b _ => obtain ⟨w, rfl⟩ := (show ∃ t, u = Value.str b t from ry); exact SeqAt.RcAt.int_str c w0 b w
      | @tup a _ _ h rr => cases (show u = Value.ref a from ry); obtain ⟨_, _, q, _⟩ := I.tuple h; exact SeqAt.RcAt.int_tuple c w0 q (by omega)
      | @lst a _ _ h rr => cases (show u = Value.ref a from ry); obtain ⟨_, _, q, _⟩ := I.list (.of h); exact SeqAt.RcAt.int_list c w0 q.isList (by omega)
      | ty n => cases p'
      | scr h => cases p'
      | dic h e rr => cases p'
      | «at» h => cases p'
      | dct h e rr => cases p'
      | ob h e rr => cases p'
      | exn h c => cases p'
    | str c _ =>
      obtain ⟨w0, rfl⟩ := (show ∃ t, v = Value.str c t from rx)
      cases r' with
      | non => cases (show u = Value.none from ry); exact SeqAt.RcAt.str_none c w0
      | bl b => cases (show u = Value.bool b from ry); exact SeqAt.RcAt.str_bool c w0 b
      | int b => obtain ⟨w, rfl⟩ := (show ∃ t, u = Value.int b t from ry); exact SeqAt.RcAt.str_int c w0 b w
      | str b _ => obtain ⟨w, rfl⟩ := (show ∃ t, u = Value.str b t from ry); exact SeqAt.RcAt.str_str c w0 b w
      | @tup a _ _ h rr => cases (show u = Value.ref a from ry); obtain ⟨_, _, q, _⟩ := I.tuple h; exact SeqAt.RcAt.str_tuple c w0 q (by omega)
      | @lst a _ _ h rr => cases (show u = Value.ref a from ry); obtain ⟨_, _, q, _⟩ := I.list (.of h); exact SeqAt.RcAt.str_list c w0 q.isList (by omega)
      | ty n => cases p'
      | scr h => cases p'
      | dic h e rr => cases p'
      | «at» h => cases p'
      | dct h e rr => cases p'
      | ob h e rr => cases p'
      | exn h c => cases p'
  | succ n ih =>
    intro A x y v u t t' hd p p' r r' rx ry hu
    by_cases hflat : dT t = 0
    · have e0 : dT t ≤ n := by omega
      exact ih e0 p p' r r' rx ry (by omega)
    have items : ∀ {vs vs' : List V} {us us' : List Value} {ts ts' : List Tr} (j : Nat) (h1 : j < us.length) (h2 : j < us'.length), (∀ t ∈ ts, dT t ≤ n) → (∀ t ∈ ts, plT t = true) → (∀ t ∈ ts', plT t = true) → Reps X.K (⟨H, ixx⟩ : Vw) vs ts → Reps X.K (⟨H, ixx⟩ : Vw) vs' ts' → Vals vs us → Vals vs' us' →
        SeqAt.EqAt A.in1 s us[j] us'[j] (eqT (ts.getD j .non) (ts'.getD j .non)) := by
      intro vs vs' us us' ts ts' j h1 h2 d1 q1 q2 rr rr' rv rv'
      have k1 : j < vs.length := by rw [rv.length]; exact h1
      have k2 : j < vs'.length := by rw [rv'.length]; exact h2
      obtain ⟨t1, e1, p1⟩ := rr.getV (List.getElem?_eq_getElem k1)
      obtain ⟨t2, e2, p2⟩ := rr'.getV (List.getElem?_eq_getElem k2)
      obtain ⟨w1, f1, g1⟩ := rv.get (List.getElem?_eq_getElem k1)
      obtain ⟨w2, f2, g2⟩ := rv'.get (List.getElem?_eq_getElem k2)
      rw [List.getElem?_eq_getElem h1] at f1
      rw [List.getElem?_eq_getElem h2] at f2
      rw [Option.some.inj f1, Option.some.inj f2, getD_of e1, getD_of e2]
      have m1 := List.mem_of_getElem? e1
      have m2 := List.mem_of_getElem? e2
      refine eqAt_rc (fun b t e => ?_) (fun e => ?_) (ih (d1 _ m1) (q1 _ m1) (q2 _ m2) p1 p2 g1 g2 (by show A.units + 1 + n < cLine; omega))
      · subst e
        have g1' : ∃ v0, Rep X.K (⟨H, ixx⟩ : Vw) v0 t1 ∧ RelV v0 (.float b t) := ⟨_, p1, g1⟩
        obtain ⟨v0, p0, g0⟩ := g1'
        cases p0 <;> first | (obtain ⟨_, z⟩ := g0; cases z; done) | (cases g0; done)
      subst e
      rw [g1.inj g2] at p1
      rw [← rep_fun I n (d1 _ m1) (q1 _ m1) (q2 _ m2) p1 p2]
      exact eqT_refl (q1 _ m1)
    cases r with
    | @tup a vs ts h rr =>
      rw [dT] at hd
      cases (show v = Value.ref a from rx)
      obtain ⟨us, rv, pt, _⟩ := I.tuple h
      cases r' with
      | non => cases (show u = Value.none from ry); exact SeqAt.RcAt.tuple_none pt (by omega)
      | bl b => cases (show u = Value.bool b from ry); exact SeqAt.RcAt.tuple_bool b pt (by omega)
      | int b => obtain ⟨w, rfl⟩ := (show ∃ t, u = Value.int b t from ry); exact SeqAt.RcAt.tuple_int b w pt (by omega)
      | str b _ => obtain ⟨w, rfl⟩ := (show ∃ t, u = Value.str b t from ry); exact SeqAt.RcAt.tuple_str b w pt (by omega)
      | @tup a' vs' ts' h' rr' =>
        cases (show u = Value.ref a' from ry)
        obtain ⟨us', rv', pt', _⟩ := I.tuple h'
        have q := SeqAt.RcAt.tuples (A := A) (e := fun j => eqT (ts.getD j .non) (ts'.getD j .non)) pt pt' (by omega) fun j h1 h2 => by
          have := items j (by simpa using h1) (by simpa using h2) (fun t m => Nat.le_trans (dTs_mem t m) (by omega)) (plTs_mem p) (plTs_mem p') rr rr' rv rv'
          simpa using this
        rw [List.size_toArray, List.size_toArray, ← rv.length, ← rv'.length, rr.length, rr'.length, eqTs_all] at q
        rw [eqT]
        exact q
      | @lst a' _ _ h' rr' => cases (show u = Value.ref a' from ry); obtain ⟨_, _, q, _⟩ := I.list (.of h'); exact SeqAt.RcAt.tuple_list pt q.isList (by omega)
      | ty n => cases p'
      | scr h => cases p'
      | dic h e rr => cases p'
      | «at» h => cases p'
      | dct h e rr => cases p'
      | ob h e rr => cases p'
      | exn h c => cases p'
    | @lst a vs ts h rr =>
      rw [dT] at hd
      cases (show v = Value.ref a from rx)
      obtain ⟨us, rv, pl, _⟩ := I.list (.of h)
      cases r' with
      | non => cases (show u = Value.none from ry); exact SeqAt.RcAt.list_none pl.isList (by omega)
      | bl b => cases (show u = Value.bool b from ry); exact SeqAt.RcAt.list_bool b pl.isList (by omega)
      | int b => obtain ⟨w, rfl⟩ := (show ∃ t, u = Value.int b t from ry); exact SeqAt.RcAt.list_int b w pl.isList (by omega)
      | str b _ => obtain ⟨w, rfl⟩ := (show ∃ t, u = Value.str b t from ry); exact SeqAt.RcAt.list_str b w pl.isList (by omega)
      | @tup a' _ _ h' rr' => cases (show u = Value.ref a' from ry); obtain ⟨_, _, q, _⟩ := I.tuple h'; exact SeqAt.RcAt.list_tuple pl.isList q (by omega)
      | @lst a' vs' ts' h' rr' =>
        cases (show u = Value.ref a' from ry)
        obtain ⟨us', rv', pl', _⟩ := I.list (.of h')
        rw [eqT]
        by_cases hz : ts.length = ts'.length
        · have q := SeqAt.RcAt.lists (A := A) (e := fun j => eqT (ts.getD j .non) (ts'.getD j .non)) pl.isList pl'.isList (by rw [List.size_toArray, List.size_toArray, ← rv.length, ← rv'.length, rr.length, rr'.length]; exact hz) (by omega) fun j h1 h2 => by
            have := items j (by simpa using h1) (by simpa using h2) (fun t m => Nat.le_trans (dTs_mem t m) (by omega)) (plTs_mem p) (plTs_mem p') rr rr' rv rv'
            simpa using this
          have e := eqTs_all ts ts'
          rw [hz, Nat.min_self, beq_self_eq_true, Bool.and_true] at e
          rw [List.size_toArray, ← rv.length, rr.length, hz, e] at q
          exact q
        · have e := eqTs_all ts ts'
          rw [beq_false_of_ne hz, Bool.and_false] at e
          rw [← e]
          exact SeqAt.RcAt.lists_lengths pl.isList pl'.isList (by rw [List.size_toArray, List.size_toArray, ← rv.length, ← rv'.length, rr.length, rr'.length]; simpa using hz) (by omega)
      | ty n => cases p'
      | scr h => cases p'
      | dic h e rr => cases p'
      | «at» h => cases p'
      | dct h e rr => cases p'
      | ob h e rr => cases p'
      | exn h c => cases p'
    | _ => exact absurd rfl hflat
end
section
variable {X : Cx}
def eqC (a b : Tr) : Rs Tr := if plT a = true ∧ plT b = true ∧ dT a ≤ 40 then .ok (.bl (eqT a b)) else .bad
theorem o_eq (hu : X.A.units + 40 < cLine) : OpT X (compareOp .Eq) eqC := by
  intro pins s σ H x y v u Q I rx ry ⟨B, tx, ty, hb, r1, r2, q⟩
  obtain ⟨⟨p1, p2, hd⟩, k⟩ := fi_if q
  exact rc_rep I 40 hd p1 p2 r1.up r2.up rx ry hu _ _ _ _ ⟨.bl _, H, I, rfl, k _ H (Same.refl H) (.bl _)⟩
end
end L2
namespace L2
open PySem PySem.Spec PyProof.Rows
section
variable {X : Cx} {pins : List (Addr × Obj)} {σ : St} {H : Hp} {ixx : Addr → Option Nat} {s : Shared}
theorem rep_nofloat {K : PySem.W.Frag} {x : V} {t : Tr} {v : Value} (r : Rep K (⟨H, ixx⟩ : Vw) x t) (rx : RelV x v) : ∀ b t, v ≠ Value.float b t := fun b t e => by
  subst e
  cases r <;> first | (obtain ⟨_, z⟩ := rx; cases z; done) | (cases rx; done)
theorem eqAt_rep (I : Inv X pins σ H s) (n : Nat) {A : Around} {x y : V} {v u : Value} {t t' : Tr} (hd : dT t ≤ n) (p : plT t = true) (p' : plT t' = true) (r : Rep X.K (⟨H, ixx⟩ : Vw) x t) (r' : Rep X.K (⟨H, ixx⟩ : Vw) y t') (rx : RelV x v) (ry : RelV y u) (hu : A.units + n < cLine) : SeqAt.EqAt A s v u (eqT t t') := by
  refine eqAt_rc (rep_nofloat r rx) (fun e => ?_) (rc_rep I n hd p p' r r' rx ry hu)
  subst e
  rw [rx.inj ry] at r
  rw [← rep_fun I n hd p p' r r']
  exact eqT_refl p
theorem eqAt_items (I : Inv X pins σ H s) (n : Nat) {A : Around} {vs vs' : List V} {us us' : List Value} {ts ts' : List Tr} (j : Nat) (h1 : j < us.length) (h2 : j < us'.length) (d1 : ∀ t ∈ ts, dT t ≤ n) (q1 : ∀ t ∈ ts, plT t = true) (q2 : ∀ t ∈ ts', plT t = true) (rr : Reps X.K (⟨H, ixx⟩ : Vw) vs ts) (rr' : Reps X.K (⟨H, ixx⟩ : Vw) vs' ts') (rv : Vals vs us) (rv' : Vals vs' us') (hu : A.units + n < cLine) :
    SeqAt.EqAt A s us[j] us'[j] (eqT (ts.getD j .non) (ts'.getD j .non)) := by
  have k1 : j < vs.length := by rw [rv.length]; exact h1
  have k2 : j < vs'.length := by rw [rv'.length]; exact h2
  obtain ⟨t1, e1, p1⟩ := rr.getV (List.getElem?_eq_getElem k1)
  obtain ⟨t2, e2, p2⟩ := rr'.getV (List.getElem?_eq_getElem k2)
  obtain ⟨w1, f1, g1⟩ := rv.get (List.getElem?_eq_getElem k1)
  obtain ⟨w2, f2, g2⟩ := rv'.get (List.getElem?_eq_getElem k2)
  rw [List.getElem?_eq_getElem h1] at f1
  rw [List.getElem?_eq_getElem h2] at f2
  rw [Option.some.inj f1, Option.some.inj f2, getD_of e1, getD_of e2]
  exact eqAt_rep I n (d1 _ (List.mem_of_getElem? e1)) (q1 _ (List.mem_of_getElem? e1)) (q2 _ (List.mem_of_getElem? e2)) p1 p2 g1 g2 hu
theorem ne_rep (I : Inv X pins σ H s) (n : Nat) {A : Around} {x y : V} {v u : Value} {t t' : Tr} (hd : dT t ≤ n + 1) (p : plT t = true) (p' : plT t' = true) (r : Rep X.K (⟨H, ixx⟩ : Vw) x t) (r' : Rep X.K (⟨H, ixx⟩ : Vw) y t') (rx : RelV x v) (ry : RelV y u) (hu : A.units + (n + 1) < cLine) : SeqAt.RcNeAt A s v u (!eqT t t') := by
  have hu0 : A.units < cLine := by omega
  cases r with
  | ty n => cases p
  | scr h => cases p
  | dic h e rr => cases p
  | «at» h => cases p
  | dct h e rr => cases p
  | ob h e rr => cases p
  | exn h c => cases p
  | non =>
    cases (show v = Value.none from rx)
    cases r' with
    | non => cases (show u = Value.none from ry); exact SeqAt.RcNeAt.none_none
    | bl b => cases (show u = Value.bool b from ry); exact SeqAt.RcNeAt.none_bool b
    | int b => obtain ⟨w, rfl⟩ := (show ∃ t, u = Value.int b t from ry); exact SeqAt.RcNeAt.none_int b w
    | str b _ => obtain ⟨w, rfl⟩ := (show ∃ t, u = Value.str b t from ry); exact SeqAt.RcNeAt.none_str b w
    | @tup a _ _ h rr => cases (show u = Value.ref a from ry); obtain ⟨_, _, q, _⟩ := I.tuple h; exact SeqAt.RcNeAt.none_tuple q hu0
    | @lst a _ _ h rr => cases (show u = Value.ref a from ry); obtain ⟨_, _, q, _⟩ := I.list (.of h); exact SeqAt.RcNeAt.none_list q.isList hu0
    | ty n => cases p'
    | scr h => cases p'
    | dic h e rr => cases p'
    | «at» h => cases p'
    | dct h e rr => cases p'
    | ob h e rr => cases p'
    | exn h c => cases p'
  | bl c =>
    cases (show v = Value.bool c from rx)
    cases r' with
    | non => cases (show u = Value.none from ry); exact SeqAt.RcNeAt.bool_none c
    | bl b => cases (show u = Value.bool b from ry); exact SeqAt.RcNeAt.bool_bool c b
    | int b => obtain ⟨w, rfl⟩ := (show ∃ t, u = Value.int b t from ry); exact SeqAt.RcNeAt.bool_int c b w
    | str b _ => obtain ⟨w, rfl⟩ := (show ∃ t, u = Value.str b t from ry); exact SeqAt.RcNeAt.bool_str c b w
    | @tup a _ _ h rr => cases (show u = Value.ref a from ry); obtain ⟨_, _, q, _⟩ := I.tuple h; exact SeqAt.RcNeAt.bool_tuple c q hu0
    | @lst a _ _ h rr => cases (show u = Value.ref a from ry); obtain ⟨_, _, q, _⟩ := I.list (.of h); exact SeqAt.RcNeAt.bool_list c q.isList hu0
    | ty n => cases p'
    | scr h => cases p'
    | dic h e rr => cases p'
    | «at» h => cases p'
    | dct h e rr => cases p'
    | ob h e rr => cases p'
    | exn h c => cases p'
  | int c =>
    obtain ⟨w0, rfl⟩ := (show ∃ t, v = Value.int c t from rx)
    cases r' with
    | non => cases (show u = Value.none from ry); exact SeqAt.RcNeAt.int_none c w0
    | bl b => cases (show u = Value.bool b from ry); exact SeqAt.RcNeAt.int_bool c w0 b
    | int b => obtain ⟨w, rfl⟩ := (show ∃ t, u = Value.int b t from ry); exact SeqAt.RcNeAt.int_int c w0 b w
    | str b _ => obtain ⟨w, rfl⟩ := (show ∃ t, u = Value.str b t from ry); exact SeqAt.RcNeAt.int_str c w0 b w
    | @tup a _ _ h rr => cases (show u = Value.ref a from ry); obtain ⟨_, _, q, _⟩ := I.tuple h; exact SeqAt.RcNeAt.int_tuple c w0 q hu0
    | @lst a _ _ h rr => cases (show u = Value.ref a from ry); obtain ⟨_, _, q, _⟩ := I.list (.of h); exact SeqAt.RcNeAt.int_list c w0 q.isList hu0
    | ty n => cases p'
    | scr h => cases p'
    | dic h e rr => cases p'
    | «at» h => cases p'
    | dct h e rr => cases p'
    | ob h e rr => cases p'
    | exn h c => cases p'
  | str c _ =>
    obtain ⟨w0, rfl⟩ := (show ∃ t, v = Value.str c t from rx)
    cases r' with
    | non => cases (show u = Value.none from ry); exact SeqAt.RcNeAt.str_none c w0
    | bl b => cases (show u = Value.bool b from ry); exact SeqAt.RcNeAt.str_bool c w0 b
    | int b => obtain ⟨w, rfl⟩ := (show ∃ t, u = Value.int b t from ry); exact SeqAt.RcNeAt.str_int c w0 b w
    | str b _ => obtain ⟨w, rfl⟩ := (show ∃ t, u = Value.str b t from ry); exact SeqAt.RcNeAt.str_str c w0 b w
    | @tup a _ _ h rr => cases (show u = Value.ref a from ry); obtain ⟨_, _, q, _⟩ := I.tuple h; exact SeqAt.RcNeAt.str_tuple c w0 q hu0
    | @lst a _ _ h rr => cases (show u = Value.ref a from ry); obtain ⟨_, _, q, _⟩ := I.list (.of h); exact SeqAt.RcNeAt.str_list c w0 q.isList hu0
    | ty n => cases p'
    | scr h => cases p'
    | dic h e rr => cases p'
    | «at» h => cases p'
    | dct h e rr => cases p'
    | ob h e rr => cases p'
    | exn h c => cases p'
  | @tup a vs ts h rr =>
    rw [dT] at hd
    cases (show v = Value.ref a from rx)
    obtain ⟨us, rv, pt, _⟩ := I.tuple h
    cases r' with
    | non => cases (show u = Value.none from ry); exact SeqAt.RcNeAt.tuple_none pt hu0
    | bl b => cases (show u = Value.bool b from ry); exact SeqAt.RcNeAt.tuple_bool b pt hu0
    | int b => obtain ⟨w, rfl⟩ := (show ∃ t, u = Value.int b t from ry); exact SeqAt.RcNeAt.tuple_int b w pt hu0
    | str b _ => obtain ⟨w, rfl⟩ := (show ∃ t, u = Value.str b t from ry); exact SeqAt.RcNeAt.tuple_str b w pt hu0
    | @tup a' vs' ts' h' rr' =>
      cases (show u = Value.ref a' from ry)
      obtain ⟨us', rv', pt', _⟩ := I.tuple h'
      have q := SeqAt.RcNeAt.tuples (A := A) (e := fun j => eqT (ts.getD j .non) (ts'.getD j .non)) pt pt' hu0 fun j h1 h2 => by
        have := eqAt_items I n (A := A.in1) j (by simpa using h1) (by simpa using h2) (fun t m => Nat.le_trans (dTs_mem t m) (by omega)) (plTs_mem p) (plTs_mem p') rr rr' rv rv' (by show A.units + 1 + n < cLine; omega)
        simpa using this
      rw [List.size_toArray, List.size_toArray, ← rv.length, ← rv'.length, rr.length, rr'.length, eqTs_all] at q
      rw [eqT]
      exact q
    | @lst a' _ _ h' rr' => cases (show u = Value.ref a' from ry); obtain ⟨_, _, q, _⟩ := I.list (.of h'); exact SeqAt.RcNeAt.tuple_list pt q.isList hu0
    | ty n => cases p'
    | scr h => cases p'
    | dic h e rr => cases p'
    | «at» h => cases p'
    | dct h e rr => cases p'
    | ob h e rr => cases p'
    | exn h c => cases p'
  | @lst a vs ts h rr =>
    rw [dT] at hd
    cases (show v = Value.ref a from rx)
    obtain ⟨us, rv, pl, _⟩ := I.list (.of h)
    cases r' with
    | non => cases (show u = Value.none from ry); exact SeqAt.RcNeAt.list_none pl.isList hu0
    | bl b => cases (show u = Value.bool b from ry); exact SeqAt.RcNeAt.list_bool b pl.isList hu0
    | int b => obtain ⟨w, rfl⟩ := (show ∃ t, u = Value.int b t from ry); exact SeqAt.RcNeAt.list_int b w pl.isList hu0
    | str b _ => obtain ⟨w, rfl⟩ := (show ∃ t, u = Value.str b t from ry); exact SeqAt.RcNeAt.list_str b w pl.isList hu0
    | @tup a' _ _ h' rr' => cases (show u = Value.ref a' from ry); obtain ⟨_, _, q, _⟩ := I.tuple h'; exact SeqAt.RcNeAt.list_tuple pl.isList q hu0
    | @lst a' vs' ts' h' rr' =>
      cases (show u = Value.ref a' from ry)
      obtain ⟨us', rv', pl', _⟩ := I.list (.of h')
      rw [eqT]
      by_cases hz : ts.length = ts'.length
      · have q := SeqAt.RcNeAt.lists (A := A) (e := fun j => eqT (ts.getD j .non) (ts'.getD j .non)) pl.isList pl'.isList (by rw [List.size_toArray, List.size_toArray, ← rv.length, ← rv'.length, rr.length, rr'.length]; exact hz) hu0 fun j h1 h2 => by
          have := eqAt_items I n (A := A.in1) j (by simpa using h1) (by simpa using h2) (fun t m => Nat.le_trans (dTs_mem t m) (by omega)) (plTs_mem p) (plTs_mem p') rr rr' rv rv' (by show A.units + 1 + n < cLine; omega)
          simpa using this
        have e := eqTs_all ts ts'
        rw [hz, Nat.min_self, beq_self_eq_true, Bool.and_true] at e
        rw [List.size_toArray, ← rv.length, rr.length, hz, e] at q
        exact q
      · have e := eqTs_all ts ts'
        rw [beq_false_of_ne hz, Bool.and_false] at e
        rw [← e]
        exact SeqAt.RcNeAt.lists_lengths pl.isList pl'.isList (by rw [List.size_toArray, List.size_toArray, ← rv.length, ← rv'.length, rr.length, rr'.length]; simpa using hz) hu0
    | ty n => cases p'
    | scr h => cases p'
    | dic h e rr => cases p'
    | «at» h => cases p'
    | dct h e rr => cases p'
    | ob h e rr => cases p'
    | exn h c => cases p'
end
section
variable {X : Cx}
def neC (a b : Tr) : Rs Tr := if plT a = true ∧ plT b = true ∧ dT a ≤ 40 then .ok (.bl (!eqT a b)) else .bad
theorem o_ne (hu : X.A.units + 40 < cLine) : OpT X (compareOp .NotEq) neC := by
  intro pins s σ H x y v u Q I rx ry ⟨B, tx, ty, hb, r1, r2, q⟩
  obtain ⟨⟨p1, p2, hd⟩, k⟩ := fi_if q
  exact ne_rep I 39 hd p1 p2 r1.up r2.up rx ry hu _ _ _ _ ⟨.bl _, H, I, rfl, k _ H (Same.refl H) (.bl _)⟩
def ltC : Tr → Tr → Rs Tr
  | .int i, .int j => .ok (.bl (decide (i < j)))
  | .str a, .str b => .ok (.bl (decide (a.cps.toList < b.cps.toList)))
  | _, _ => .bad
def leC : Tr → Tr → Rs Tr
  | .int i, .int j => .ok (.bl (decide (i ≤ j)))
  | .str a, .str b => .ok (.bl (!(decide (b.cps.toList < a.cps.toList))))
  | _, _ => .bad
def gtC : Tr → Tr → Rs Tr
  | .int i, .int j => .ok (.bl (decide (j < i)))
  | _, _ => .bad
def geC : Tr → Tr → Rs Tr
  | .int i, .int j => .ok (.bl (decide (j ≤ i)))
  | _, _ => .bad
theorem o_lt : OpT X (compareOp .Lt) ltC := by
  intro pins s σ H x y v u Q I rx ry ⟨B, tx, ty, hb, r1, r2, q⟩
  cases r1 with
  | int i =>
    cases r2 with
    | int j => exact op_lt pins s σ H _ _ v u Q I rx ry ⟨i, j, rfl, rfl, q _ H (Same.refl H) (.bl _)⟩
    | _ => exact (show False from q).elim
  | str a _ =>
    cases r2 with
    | str b _ => exact op_lt_str pins s σ H _ _ v u Q I rx ry ⟨a, b, rfl, rfl, q _ H (Same.refl H) (.bl _)⟩
    | _ => exact (show False from q).elim
  | _ => cases r2 <;> exact (show False from q).elim
theorem o_le : OpT X (compareOp .LtE) leC := by
  intro pins s σ H x y v u Q I rx ry ⟨B, tx, ty, hb, r1, r2, q⟩
  cases r1 with
  | int i =>
    cases r2 with
    | int j => exact op_le pins s σ H _ _ v u Q I rx ry ⟨i, j, rfl, rfl, q _ H (Same.refl H) (.bl _)⟩
    | _ => exact (show False from q).elim
  | str a _ =>
    cases r2 with
    | str b _ => exact op_le_str pins s σ H _ _ v u Q I rx ry ⟨a, b, rfl, rfl, q _ H (Same.refl H) (.bl _)⟩
    | _ => exact (show False from q).elim
  | _ => cases r2 <;> exact (show False from q).elim
theorem o_gt : OpT X (compareOp .Gt) gtC := by
  intro pins s σ H x y v u Q I rx ry ⟨B, tx, ty, hb, r1, r2, q⟩
  unfold gtC at q
  split at q
  · rename_i i j
    cases r1
    cases r2
    exact op_gt pins s σ H _ _ v u Q I rx ry ⟨i, j, rfl, rfl, q _ H (Same.refl H) (.bl _)⟩
  · exact (show False from q).elim
theorem o_ge : OpT X (compareOp .GtE) geC := by
  intro pins s σ H x y v u Q I rx ry ⟨B, tx, ty, hb, r1, r2, q⟩
  unfold geC at q
  split at q
  · rename_i i j
    cases r1
    cases r2
    exact op_ge pins s σ H _ _ v u Q I rx ry ⟨i, j, rfl, rfl, q _ H (Same.refl H) (.bl _)⟩
  · exact (show False from q).elim
def isN : Tr → Bool
  | .non => true
  | _ => false
theorem isN_rep {K : PySem.W.Frag} {H : Vw} {x : V} {t : Tr} (r : Rep K H x t) : decide (x = .non) = isN t := by
  cases r <;> rfl
def isC : Tr → Tr → Rs Tr
  | a, .non => .ok (.bl (isN a))
  | .bl a, .bl b => .ok (.bl (a == b))
  | _, _ => .bad
def isnC : Tr → Tr → Rs Tr
  | a, .non => .ok (.bl (!isN a))
  | .bl a, .bl b => .ok (.bl (a != b))
  | _, _ => .bad
theorem o_is : OpT X (compareOp .Is) isC := by
  intro pins s σ H x y v u Q I rx ry ⟨B, tx, ty, hb, r1, r2, q⟩
  cases r2 with
  | non =>
    have k : ∀ v H', Same H H' → Rep X.K (hid B H') v (.bl (isN tx)) → Q v H' := by cases tx <;> exact q
    exact op_isN pins s σ H _ _ v u Q I rx ry ⟨rfl, by rw [isN_rep r1]; exact k _ H (Same.refl H) (.bl _)⟩
  | bl b =>
    cases r1 with
    | bl a => exact op_isB pins s σ H _ _ v u Q I rx ry ⟨a, b, rfl, rfl, q _ H (Same.refl H) (.bl _)⟩
    | _ => exact (show False from q).elim
  | _ => cases r1 <;> exact (show False from q).elim
def valT (kts : List (Key × Tr)) (k : Key) : Option Tr := (kts.find? fun kv => decide (kv.1 = k)).map (·.2)
def keyT : Tr → Option Key
  | .int i => some (.inl i)
  | .str z => some (.inr z)
  | _ => none
theorem key_rep {K : PySem.W.Frag} {H : Vw} {x : V} {t : Tr} {k : Key} (r : Rep K H x t) (e : keyT t = some k) : x = kV k := by
  cases r with
  | int i => cases e; rfl
  | str z h => cases e; rfl
  | _ => cases e
theorem val_rep {K : PySem.W.Frag} {H : Vw} (k : Key) : ∀ {kvs : List (Key × V)} {kts : List (Key × Tr)}, kvs.map (·.1) = kts.map (·.1) → Reps K H (kvs.map (·.2)) (kts.map (·.2)) → (valT kts k = none ∧ valV kvs k = none) ∨ ∃ t v, valT kts k = some t ∧ valV kvs k = some v ∧ Rep K H v t
  | [], [], _, _ => .inl ⟨rfl, rfl⟩
  | [], _ :: _, e, _ => by cases e
  | _ :: _, [], e, _ => by cases e
  | (k1, v1) :: kvs, (k2, t2) :: kts, e, r => by
    rw [List.map_cons, List.map_cons] at e
    injection e with e1 e2
    have e1' : k1 = k2 := e1
    subst e1'
    cases r with
    | cons h r =>
      by_cases q : k1 = k
      · refine .inr ⟨t2, v1, ?_, valV_pos q, h⟩
        unfold valT
        rw [List.find?_cons, decide_eq_true (show (k1, t2).1 = k from q)]
        rfl
      · rw [valV_neg q]
        have e3 : valT ((k1, t2) :: kts) k = valT kts k := by
          unfold valT
          rw [List.find?_cons, decide_eq_false (show ¬ (k1, t2).1 = k from q)]
        rw [e3]
        exact val_rep k e2 r
theorem dget_rep {K : PySem.W.Frag} {H : Vw} {a : Addr} {kvs : List (Key × V)} {kts : List (Key × Tr)} {y : V} {t : Tr} {k : Key} (h : Rd H.H a (.dK kvs)) (e : kvs.map (·.1) = kts.map (·.1)) (r : Reps K H (kvs.map (·.2)) (kts.map (·.2))) (ry : Rep K H y t) (hk : keyT t = some k) :
    ∃ o, DGet H a y o ∧ ((valT kts k = none ∧ o = none) ∨ ∃ t v, valT kts k = some t ∧ o = some v ∧ Rep K H v t) := by
  have e1 := key_rep ry hk
  subst e1
  refine ⟨_, .inl ⟨kvs, k, h, rfl, rfl⟩, ?_⟩
  rcases val_rep k e r with ⟨h1, h2⟩ | ⟨t, v, h1, h2, h3⟩
  · exact .inl ⟨h1, h2⟩
  · exact .inr ⟨t, v, h1, h2, h3⟩
def flT : Tr → Bool
  | .non => true
  | .bl _ => true
  | .int _ => true
  | .str _ => true
  | _ => false
def eU (x : Tr) (u : Value) : Bool := match u with
  | .none => eqT .non x
  | .bool b => eqT (.bl b) x
  | .int i _ => eqT (.int i) x
  | .str z _ => eqT (.str z) x
  | _ => false
theorem eU_rep {K : PySem.W.Frag} {H : Vw} {y : V} {t x : Tr} {u : Value} (r : Rep K H y t) (f : flT t = true) (ry : RelV y u) : eU x u = eqT t x := by
  cases r with
  | non => cases (show u = Value.none from ry); rfl
  | bl b => cases (show u = Value.bool b from ry); rfl
  | int i => obtain ⟨w, rfl⟩ := (show ∃ t, u = Value.int i t from ry); rfl
  | str z _ => obtain ⟨w, rfl⟩ := (show ∃ t, u = Value.str z t from ry); rfl
  | _ => cases f
theorem any_eU {K : PySem.W.Frag} {H : Vw} {x : Tr} : ∀ {vs : List V} {ts : List Tr} {us : List Value}, Reps K H vs ts → ts.all flT = true → Vals vs us → us.any (eU x) = ts.any fun y => eqT y x
  | [], _, _, r, _, rv => by cases r; cases rv; rfl
  | _ :: _, _, _, r, f, rv => by
    cases r with
    | cons h r =>
      cases rv with
      | cons h1 rv =>
        rw [List.all_cons, Bool.and_eq_true] at f
        rw [List.any_cons, List.any_cons, eU_rep h f.1 h1, any_eU r f.2 rv]
theorem flat_dT {t : Tr} (f : flT t = true) : dT t ≤ 0 ∧ plT t = true := by cases t <;> first | exact ⟨Nat.le_refl _, rfl⟩ | cases f
theorem mem_eU {pins : List (Addr × Obj)} {σ : St} {H : Hp} {ixx : Addr → Option Nat} {s : Shared} {A : Around} {x : V} {t : Tr} {v : Value} (I : Inv X pins σ H s) (hu : A.units < cLine) (rx : Rep X.K (⟨H, ixx⟩ : Vw) x t) (p : plT t = true) (rv : RelV x v) : ∀ {vs : List V} {ts : List Tr} {us : List Value}, Reps X.K (⟨H, ixx⟩ : Vw) vs ts → ts.all flT = true → Vals vs us → ∀ u ∈ us, SeqAt.EqAt A s u v (eU t u)
  | [], _, _, r, _, q => fun u m => by cases q; cases m
  | _ :: _, _, _, r, f, q => fun u m => by
    cases r with
    | cons h r =>
      cases q with
      | cons h1 q =>
        rw [List.all_cons, Bool.and_eq_true] at f
        rcases List.mem_cons.mp m with rfl | m
        · rw [eU_rep h f.1 h1]
          obtain ⟨d0, p0⟩ := flat_dT f.1
          exact eqAt_rep I 0 d0 p0 p h rx h1 rv hu
        · exact mem_eU I hu rx p rv r f.2 q u m
def inL (x : Tr) (ts : List Tr) : Rs Bool := if plT x = true ∧ ts.all flT = true then .ok (ts.any fun y => eqT y x) else .bad
def inC : Tr → Tr → Rs Tr
  | x, .tup ts => blR (inL x ts)
  | x, .lst ts => blR (inL x ts)
  | x, .dic kts => match keyT x with
    | some k => .ok (.bl (valT kts k).isSome)
    | none => .bad
  | .str i, .str j => .ok (.bl (!(Builtin.Str.occurrences j i 0 j.length 1).isEmpty))
  | _, _ => .bad
def ninC : Tr → Tr → Rs Tr
  | x, .tup ts => blR (notB (inL x ts))
  | x, .lst ts => blR (notB (inL x ts))
  | x, .dic kts => match keyT x with
    | some k => .ok (.bl (!(valT kts k).isSome))
    | none => .bad
  | .str i, .str j => .ok (.bl (!(!(Builtin.Str.occurrences j i 0 j.length 1).isEmpty)))
  | _, _ => .bad
theorem inC_dic (x : Tr) (kts : List (Key × Tr)) : inC x (.dic kts) = match keyT x with | some k => .ok (.bl (valT kts k).isSome) | none => .bad := by cases x <;> rfl
theorem inL_fin {H : Hp} {x : Tr} {ts : List Tr} {k : Bool → Prop} (q : Fi X H (inL x ts) k) : plT x = true ∧ ts.all flT = true ∧ k (ts.any fun y => eqT y x) := by
  unfold inL at q
  split at q
  · rename_i h; exact ⟨h.1, h.2, q⟩
  · exact q.elim
theorem o_in (hu : X.A.units + 1 < cLine) : OpT X (compareOp .In) inC := by
  intro pins s σ H x y v u Q I rx ry ⟨B, tx, ty, hb, r1, r2, q⟩
  cases r2 with
  | tup h rr =>
    rename_i a vs ts
    obtain ⟨f, g, k⟩ := inL_fin (Fi.bind q)
    cases (show u = Value.ref a from ry)
    obtain ⟨its, rv, pl, _⟩ := I.tuple h.up
    refine SeqAt.in_tupleAt (eU tx) pl (fun w hw => mem_eU I hu r1.up f rx (rr.same hid_raw) g rv w (by simpa using hw)) ⟨.bl _, H, I, rfl, ?_⟩
    rw [show its.toArray.any (eU tx) = its.any (eU tx) by simp, any_eU rr g rv]
    exact k _ H (Same.refl H) (.bl _)
  | lst h rr =>
    rename_i a vs ts
    obtain ⟨f, g, k⟩ := inL_fin (Fi.bind q)
    cases (show u = Value.ref a from ry)
    obtain ⟨its, rv, pl, _⟩ := I.list (.of (hid_up h))
    refine SeqAt.in_listAt (eU tx) pl.isList (fun w hw => mem_eU I hu r1.up f rx (rr.same hid_raw) g rv w (by simpa using hw)) ⟨.bl _, H, I, rfl, ?_⟩
    rw [show its.toArray.any (eU tx) = its.any (eU tx) by simp, any_eU rr g rv]
    exact k _ H (Same.refl H) (.bl _)
  | dic h e rr =>
    rename_i a kvs kts
    cases ek : keyT tx with
    | none =>
      have q' := q
      rw [inC_dic, ek] at q'
      exact (show False from q').elim
    | some k =>
      have q' := q
      rw [inC_dic, ek] at q'
      obtain ⟨o, g, ho⟩ := dget_rep (H := raw _ _) (h.same hid_sub) e (rr.same hid_raw) r1.up ek
      have eo : o.isSome = (valT kts k).isSome := by
        rcases ho with ⟨h1, rfl⟩ | ⟨_, _, h1, rfl, _⟩
        · rw [h1]; rfl
        · rw [h1]; rfl
      cases (show u = Value.ref a from ry)
      refine d_in hu I g rx fun s' I' => ⟨.bl _, H, I', rfl, ?_⟩
      rw [eo]
      exact q' _ H (Same.refl H) (.bl _)
  | str j hj =>
    cases r1 with
    | str i hi => exact op_in_str pins s σ H _ _ v u Q I rx ry ⟨i, j, rfl, rfl, q _ H (Same.refl H) (.bl _)⟩
    | _ => exact (show False from q).elim
  | _ => cases r1 <;> exact (show False from q).elim
end
end L2
namespace L2
open PySem PySem.Spec PyProof.Rows
def okO {α : Type} : Option α → Rs α
  | some a => .ok a
  | none => .bad
def ixT : Tr → Tr → Rs Tr
  | .tup ts, .int i => okO (atI ts i)
  | .lst ts, .int i => okO (atI ts i)
  | .str z, .int i => (okO (atI z.cps.toList i)).bind fun c => .ok (.str ⟨#[c]⟩)
  | .scr ns, .int i => (okO (atI ns i)).bind fun n => .ok (.int n)
  | .dic kts, t => (okO (keyT t)).bind fun k => okO (valT kts k)
  | _, _ => .bad
theorem ixT_dic (x : Tr) (kts : List (Key × Tr)) : ixT (.dic kts) x = (okO (keyT x)).bind fun k => okO (valT kts k) := by cases x <;> rfl
theorem Reps.atI {K : PySem.W.Frag} {H : Vw} {vs : List V} {ts : List Tr} {i : Int} {t : Tr} (r : Reps K H vs ts) (e : L2.atI ts i = some t) : ∃ v, L2.atI vs i = some v ∧ Rep K H v t := by
  unfold L2.atI at e ⊢
  rw [r.length]
  cases q : ixN ts.length i with
  | none => rw [q] at e; cases e
  | some j =>
    rw [q] at e
    obtain ⟨v, e1, r1⟩ := r.get (show ts[j]? = some t from e)
    exact ⟨v, e1, r1⟩
theorem okO_fin {X : Cx} {H : Hp} {α : Type} {o : Option α} {k : α → Prop} (h : Fi X H (okO o) k) : ∃ a, o = some a ∧ k a := by
  cases o with
  | none => exact h.elim
  | some a => exact ⟨a, rfl, h⟩
section
variable {X : Cx} {a b e : Expr} {pos : Pos} {F G : Rho → Rs Tr}
theorem atI_map {α β : Type} (f : α → β) (xs : List α) (i : Int) : L2.atI (xs.map f) i = (L2.atI xs i).map f := by
  unfold L2.atI
  rw [List.length_map]
  cases ixN xs.length i with
  | none => rfl
  | some j => show (xs.map f)[j]? = _; rw [List.getElem?_map]; rfl
theorem one_len (c : Nat) : (⟨#[c]⟩ : Str).length ≤ txMax := by show 1 ≤ txMax; decide
theorem x_ix (hu : X.A.units + 1 < cLine) : IxR X (rT X ixT) := by
  intro value slice pins s σ H x y v u Q I rx ry ⟨B, tx, ty, hb, r1, r2, q⟩ hs
  cases r1 with
  | tup h rr =>
    cases r2 with
    | int i =>
      obtain ⟨t, et, k⟩ := okO_fin q
      obtain ⟨w, ew, rw'⟩ := rr.atI et
      exact ix_tup value slice pins s σ H _ _ v u Q I rx ry ⟨_, _, i, w, rfl, rfl, h.up, ew, k w H (Same.refl H) rw'⟩ hs
    | _ => exact (show False from q).elim
  | lst h rr =>
    cases r2 with
    | int i =>
      obtain ⟨t, et, k⟩ := okO_fin q
      obtain ⟨w, ew, rw'⟩ := rr.atI et
      exact ix_list value slice pins s σ H _ _ v u Q I rx ry ⟨_, _, i, w, rfl, rfl, .of (hid_up h), ew, k w H (Same.refl H) rw'⟩ hs
    | _ => exact (show False from q).elim
  | scr h =>
    cases r2 with
    | int i =>
      obtain ⟨n, et, k⟩ := okO_fin (Fi.bind q)
      exact ix_list value slice pins s σ H _ _ v u Q I rx ry ⟨_, _, i, .int n, rfl, rfl, Same.seq hid_sub h, by rw [atI_map, et]; rfl, k _ H (Same.refl H) (.int n)⟩ hs
    | _ => exact (show False from q).elim
  | str z hz =>
    cases r2 with
    | int i =>
      obtain ⟨c, et, k⟩ := okO_fin (Fi.bind q)
      exact ix_str value slice pins s σ H _ _ v u Q I rx ry ⟨z, i, c, rfl, rfl, Nat.le_trans hz tx_line, et, k _ H (Same.refl H) (.str _ (one_len c))⟩ hs
    | _ => exact (show False from q).elim
  | dic h e rr =>
    rename_i a kvs kts
    have q' := q
    rw [ixT_dic] at q'
    obtain ⟨k, ek, qk⟩ := okO_fin (Fi.bind q')
    obtain ⟨t, et, qt⟩ := okO_fin qk
    obtain ⟨o, g, ho⟩ := dget_rep h e rr r2 ek
    rcases ho with ⟨h1, _⟩ | ⟨t', w, h1, rfl, rw'⟩
    · rw [et] at h1; cases h1
    · rw [et] at h1
      cases h1
      cases (show v = Value.ref a from rx)
      have g' : DGet H a y (some w) := by
        have e1 := key_rep r2 ek
        subst e1
        rcases g with ⟨kvs', k', e1, e2, e3⟩ | ⟨kvs', k', b, e1, e2, e3, _⟩
        · exact .inl ⟨kvs', k', e1.same hid_sub, e2, e3⟩
        · cases k <;> cases e2
      exact tail_any (dict_typeIs I g') PySem.F.slot_dict_getitem.lookup (d_getItem hu I g' ry fun w' s' I' rv => ⟨w, H, I', rv, qt w H (Same.refl H) rw'⟩) hs
  | _ => cases r2 <;> exact (show False from q).elim
theorem t_ix (hu : X.A.units + 1 < cLine) (ha : PE X a (tP X F)) (hb : PE X b (tP X G)) (hs : PlainIx b := by exact fun _ _ => rfl) : PE X (.Subscript a b pos) (tP X fun ρ => op2 ixT (F ρ) (G ρ)) :=
  (pe_ix (x_ix hu) ha hb hs).weak fun _ _ _ q => op2_read q
def tO (X : Cx) (P : Rho → Rs (Option Int)) : TO := fun σ H Q => ∃ B ρ, HB B H ∧ RepS X.K B H σ ρ ∧ Fi X H (P ρ) fun o => ∀ H', Same H H' → Q o H'
def asI (r : Rs Tr) : Rs (Option Int) := r.bind fun t => match t with
  | .int i => .ok (some i)
  | _ => .bad
theorem p_none : PO X none (tO X fun _ => .ok none) := fun pins s σ H Q I ⟨B, ρ, hb, r, q⟩ => po_none pins s σ H Q I (q H (Same.refl H))
theorem p_some (h : PE X e (tP X F)) : PO X (some e) (tO X fun ρ => asI (F ρ)) := fun pins s σ H Q I ⟨B, ρ, hb, r, q⟩ =>
  po_some h pins s σ H Q I ⟨B, ρ, hb, r, q.bind.mono fun t qt v H' s' r' => by
    cases r' with
    | int i => exact ⟨i, rfl, qt H' s'⟩
    | _ => exact (show False from qt).elim⟩
def cutG {α : Type} (xs : List α) (lo hi : Option Int) : List α := (xs.drop (HT.sIx xs.length 0 lo)).take (HT.sIx xs.length xs.length hi - HT.sIx xs.length 0 lo)
theorem Reps.cut {K : PySem.W.Frag} {H : Vw} {vs : List V} {ts : List Tr} (r : Reps K H vs ts) (lo hi : Option Int) : Reps K H (cutV vs lo hi) (cutG ts lo hi) := by
  unfold cutV cutG
  rw [r.length]
  exact (r.drop _).take _
def wholeC (n : Nat) (lo hi : Option Int) : Bool := HT.sIx n 0 lo == 0 && HT.sIx n n hi == n
def slT : Tr → Option Int → Option Int → Rs Tr
  | .tup ts, lo, hi => if wholeC ts.length lo hi = true then .bad else .ok (.tup (cutG ts lo hi))
  | .lst ts, lo, hi => .ok (.lst (cutG ts lo hi))
  | .str z, lo, hi => if (Txt.slice z lo hi).length ≤ txMax then .ok (.str (Txt.slice z lo hi)) else .bad
  | _, _, _ => .bad
def slR (r : Rs Tr) (lo hi : Rs (Option Int)) : Rs Tr := r.bind fun t => lo.bind fun l => hi.bind fun h => slT t l h
def rSl (X : Cx) : V → Option Int → Option Int → Hp → VK → Prop := fun x lo hi H Q => ∃ B t, HB B H ∧ Rep X.K (hid B H) x t ∧ Fi X H (slT t lo hi) fun t => ∀ v H', Same H H' → Rep X.K (hid B H') v t → Q v H'
theorem x_sl : SlR X (rSl X) := by
  intro pins s σ H x v vl vu lo hi sl Q I rx hs pl pu ⟨B, t, hb, r, q⟩
  cases r with
  | tup h rr =>
    rename_i a vs ts
    have q' : Fi X H (if wholeC ts.length lo hi = true then Rs.bad else .ok (Tr.tup (cutG ts lo hi))) _ := q
    by_cases hw : wholeC ts.length lo hi = true
    · rw [if_pos hw] at q'; exact (show False from q').elim
    · rw [if_neg hw] at q'
      refine sl_tup pins s σ H _ v vl vu lo hi sl Q I rx hs pl pu ⟨_, _, rfl, h.up, fun z => hw ?_, fun p hp => q' _ _ (Same.upd hp) (.newT hb hp (rr.cut lo hi))⟩
      rw [rr.length] at z
      unfold wholeC
      rw [z.1, z.2, beq_self_eq_true, beq_self_eq_true]; rfl
  | lst h rr => exact sl_list pins s σ H _ v vl vu lo hi sl Q I rx hs pl pu ⟨_, _, rfl, .of (hid_up h), fun p hp => q _ _ (Same.upd hp) (.newL hb hp (rr.cut lo hi))⟩
  | str z hz =>
    obtain ⟨h1, k⟩ := fi_if q
    exact sl_str pins s σ H _ v vl vu lo hi sl Q I rx hs pl pu ⟨z, rfl, Nat.le_trans hz tx_line, k _ H (Same.refl H) (.str _ h1)⟩
  | _ => exact (show False from q).elim
variable {P1 P2 : Rho → Rs (Option Int)} {lo hi : Option Expr} {p2 : Pos}
theorem t_sl (he : PE X e (tP X F)) (hl : PO X lo (tO X P1)) (hu : PO X hi (tO X P2)) : PE X (.Subscript e (.Slice lo hi none p2) pos) (tP X fun ρ => slR (F ρ) (P1 ρ) (P2 ρ)) :=
  (pe_slice x_sl he hl hu).weak fun σ H Q ⟨B, ρ, hb, r, q⟩ => ⟨B, ρ, hb, r, q.bind.mono fun t qt v H1 s1 r1 => ⟨B, ρ, hb.same s1, r.same s1, (qt.bind.same s1).mono fun l ql H2 s2 => ⟨B, ρ, hb.same (s1.trans s2), r.same (s1.trans s2), (ql.bind.same (s1.trans s2)).mono fun h qh H3 s3 =>
    ⟨B, t, hb.same ((s1.trans s2).trans s3), r1.same (hid_same (s2.trans s3)), (qh.same ((s1.trans s2).trans s3)).mono fun t qt v H4 s4 r4 => qt v H4 (((s1.trans s2).trans s3).trans s4) r4⟩⟩⟩⟩
variable {es : List Expr} {L : Rho → Rs (List Tr)}
def lenT : List Tr → Rs Tr
  | [.str z] => .ok (.int (z.length : Int))
  | [.tup ts] => .ok (.int (ts.length : Int))
  | [.lst ts] => .ok (.int (ts.length : Int))
  | [.scr ns] => .ok (.int (ns.length : Int))
  | _ => .bad
theorem rC_one {h : List Tr → Rs Tr} {xs : List V} {H : Hp} {Q : VK} (hh : ∀ ts t, h ts = .ok t → ts.length = 1) (hx : ∀ ts c, h ts ≠ .exc c) (q : rC X h xs H Q) : ∃ B x tx t, xs = [x] ∧ HB B H ∧ Rep X.K (hid B H) x tx ∧ h [tx] = .ok t ∧ ∀ v H', Same H H' → Rep X.K (hid B H') v t → Q v H' := by
  obtain ⟨B, ts, hb, r, q⟩ := q
  cases e : h ts with
  | bad => rw [e] at q; exact q.elim
  | exc c => exact (hx ts c e).elim
  | ok t =>
    rw [e] at q
    have hl := hh ts t e
    match ts, hl, r with
    | [tx], _, .cons r1 .nil => exact ⟨B, _, tx, t, rfl, hb, r1, e, q⟩
theorem c_len : CallT X (.builtin "len") lenT := by
  intro pins s σ H xs us Q I rv q
  obtain ⟨B, x, tx, t, rfl, hb, r, e, k⟩ := rC_one (fun ts t e => by unfold lenT at e; split at e <;> first | rfl | cases e) (fun ts c e => by unfold lenT at e; split at e <;> cases e) q
  cases r with
  | str z hz => cases e; exact call_len pins s σ H _ us Q I rv ⟨_, _, rfl, ⟨Nat.le_trans hz tx_line, rfl⟩, k _ H (Same.refl H) (.int _)⟩
  | tup h rr => cases e; exact call_len pins s σ H _ us Q I rv ⟨_, _, rfl, .inr ⟨_, h.up, rfl⟩, k _ H (Same.refl H) (by rw [rr.length]; exact .int _)⟩
  | lst h rr => cases e; exact call_len pins s σ H _ us Q I rv ⟨_, _, rfl, .inl ⟨_, .of (hid_up h), rfl⟩, k _ H (Same.refl H) (by rw [rr.length]; exact .int _)⟩
  | scr h => cases e; exact call_len pins s σ H _ us Q I rv ⟨_, _, rfl, .inl ⟨_, Same.seq hid_sub h, rfl⟩, k _ H (Same.refl H) (by rw [List.length_map]; exact .int _)⟩
  | _ => cases e
def listT : List Tr → Rs Tr
  | [.tup ts] => .ok (.lst ts)
  | [.lst ts] => .ok (.lst ts)
  | _ => .bad
def tupleT : List Tr → Rs Tr
  | [.tup ts] => .ok (.tup ts)
  | [.lst ts] => .ok (.tup ts)
  | _ => .bad
theorem c_tuple : CallT X (.type "tuple") tupleT := by
  intro pins s σ H xs us Q I rv q
  obtain ⟨B, x, tx, t, rfl, hb, r, e, k⟩ := rC_one (fun ts t e => by unfold tupleT at e; split at e <;> first | rfl | cases e) (fun ts c e => by unfold tupleT at e; split at e <;> cases e) q
  cases r with
  | tup h rr => cases e; exact call_tuple_of pins s σ H _ us Q I rv ⟨_, _, rfl, .inr ⟨h.up, k _ H (Same.refl H) (.tup h rr)⟩⟩
  | lst h rr => cases e; exact call_tuple_of pins s σ H _ us Q I rv ⟨_, _, rfl, .inl ⟨.of (hid_up h), fun p hp => k _ _ (Same.upd hp) (.newT hb hp rr)⟩⟩
  | _ => cases e
def kindT : Tr → String
  | .non => "NoneType"
  | .bl _ => "bool"
  | .int _ => "int"
  | .str _ => "str"
  | .ty _ => "type"
  | .tup _ => "tuple"
  | .lst _ => "list"
  | .scr _ => "list"
  | .dic _ => "dict"
  | .at _ => "object"
  | .dct _ => "dict"
  | .ob _ _ => "object"
  | .exn _ => "object"
def isK (t : Tr) (c : String) : Bool := kindT t == c || (kindT t == "bool" && c == "int")
def kinds : List String := ["int", "str", "bool", "tuple", "list", "dict"]
theorem kit_all (K : PySem.W.Frag) : ∀ a ∈ ["NoneType", "bool", "int", "str", "tuple", "list", "dict"], ∀ c ∈ kinds, PySem.W.kitOne K (.type a) (.type c) = some (a == c || (a == "bool" && c == "int")) := by
  intro a ha c hc
  simp only [kinds, List.mem_cons, List.not_mem_nil, or_false] at ha hc
  rcases ha with rfl | rfl | rfl | rfl | rfl | rfl | rfl <;> rcases hc with rfl | rfl | rfl | rfl | rfl | rfl <;> first | rfl | (unfold PySem.W.kitOne; exact if_pos (by decide))
def isiT : List Tr → Rs Tr
  | [.ty _, _] => .bad
  | [.at _, _] => .bad
  | [.ob _ _, _] => .bad
  | [.exn _, _] => .bad
  | [t, .ty c] => if kinds.contains c = true then .ok (.bl (isK t c)) else .bad
  | _ => .bad
theorem isi_rep {pins : List (Addr × Obj)} {σ : St} {H : Hp} {ixx : Addr → Option Nat} {s : Shared} {A : Around} {Q : Value → Shared → Prop} {E : Value → Shared → Prop} {x : V} {t : Tr} {u : Value} {c : String} (I : Inv X pins σ H s) (r : Rep X.K (⟨H, ixx⟩ : Vw) x t) (nt : ∀ n, t ≠ .ty n) (na : ∀ n, t ≠ .at n) (no : ∀ n fs, t ≠ .ob n fs) (nx : ∀ n, t ≠ .exn n) (rx : RelV x u) (hc : c ∈ kinds) (h : ∀ tk, Q (.bool (isK t c)) { s with toks := tk }) :
    wpAny (model X.prog X.w) A (call (.builtin "isinstance") [u, .type c]) Q E s := by
  have kit := fun a ha => kit_all X.K a ha c hc
  cases r with
  | non => exact isinst_ok I rx .non (kit _ (by decide)) h
  | bl b => exact isinst_ok I rx (.bl b) (kit _ (by decide)) h
  | int i => exact isinst_ok I rx (.int i) (kit _ (by decide)) h
  | str z hz => exact isinst_ok I rx (.str z) (kit _ (by decide)) h
  | ty n => exact absurd rfl (nt n)
  | «at» h => exact absurd rfl (na _)
  | ob h e rr => exact absurd rfl (no _ _)
  | exn h c => exact absurd rfl (nx _)
  | @dct a kvs kts hq e rr =>
    cases (show u = Value.ref a from rx)
    obtain ⟨_, _, xs, _, o, es, ep, h1, h2, _⟩ := (show ObjOk X.prog X.w H s.heap a (.dT kvs) from I.hok a _ hq)
    exact PySem.W.kia_one PySem.W.kitx_dict I.kIn ⟨o, h1, h2.1⟩ (kit "dict" (by decide)) (fun z => nomatch z) h
  | @tup a vs ts hq rr =>
    cases (show u = Value.ref a from rx)
    obtain ⟨its, rv, ⟨o, h1, h2, _⟩, _⟩ := I.tuple hq
    exact PySem.W.kia_one PySem.W.kitx_tuple I.kIn ⟨o, h1, h2⟩ (kit "tuple" (by decide)) (fun z => nomatch z) h
  | lst hq rr => exact isinst_ok I rx (.lst hq) (kit _ (by decide)) h
  | @scr a ns hq =>
    cases (show u = Value.ref a from rx)
    obtain ⟨its, rv, ⟨o, n, h1, h2, _⟩, _⟩ := I.list hq
    exact PySem.W.kia_one PySem.W.kitx_list I.kIn ⟨o, h1, h2⟩ (kit "list" (by decide)) (fun z => nomatch z) h
  | @dic a kvs kts hq e rr =>
    cases (show u = Value.ref a from rx)
    obtain ⟨_, _, vs, _, p⟩ := (show ObjOk X.prog X.w H s.heap a (.dK kvs) from hq.ok I.hok)
    obtain ⟨o, es, ep, h1, h2, _⟩ := p
    exact PySem.W.kia_one PySem.W.kitx_dict I.kIn ⟨o, h1, h2.1⟩ (kit "dict" (by decide)) (fun z => nomatch z) h
theorem c_isi : CallT X (.builtin "isinstance") isiT := by
  intro pins s σ H xs us Q I rv ⟨B, ts, hb, r, q⟩
  have key : ∃ t c, ts = [t, .ty c] ∧ (∀ n, t ≠ .ty n) ∧ (∀ n, t ≠ .at n) ∧ (∀ n fs, t ≠ .ob n fs) ∧ (∀ n, t ≠ .exn n) ∧ kinds.contains c = true ∧ ∀ v H', Same H H' → Rep X.K (hid B H') v (.bl (isK t c)) → Q v H' := by
    unfold isiT at q
    split at q
    · exact q.elim
    · exact q.elim
    · exact q.elim
    · exact q.elim
    · rename_i t c nt na no nx
      obtain ⟨h1, h2⟩ := fi_if q
      exact ⟨t, c, rfl, fun n e => nt n e, fun n e => na n e, fun n fs e => no n fs e, fun n e => nx n e, h1, h2⟩
    · exact q.elim
  obtain ⟨t, c, rfl, nt, na, no, nx, hc, k⟩ := key
  match r, rv with
  | .cons r1 (.cons r2 .nil), .cons v1 (.cons v2 .nil) =>
    cases r2
    cases v2
    exact isi_rep I r1.up nt na no nx v1 (by simpa using hc) fun tk => ⟨.bl _, H, I.tok _, rfl, k _ H (Same.refl H) (.bl _)⟩
def mS (h : Str → List Tr → Rs Tr) (a : Rs Tr) (l : Rs (List Tr)) : Rs Tr := a.bind fun t => match t with
  | .str z => l.bind (h z)
  | _ => .bad
def rM (X : Cx) (h : Str → List Tr → Rs Tr) : V → List V → Hp → VK → Prop := fun x xs H Q => ∃ B z ts, HB B H ∧ x = .str z ∧ z.length ≤ txMax ∧ Reps X.K (hid B H) xs ts ∧ Fi X H (h z ts) fun t => ∀ v H', Same H H' → Rep X.K (hid B H') v t → Q v H'
variable {o : Expr} {name : Str} {apos cpos : Pos} {id : String} {h : Str → List Tr → Rs Tr}
theorem t_ms (slot : Slot "str" name id) (hty : typeOf (.builtin id) = pure (.type "method_descriptor")) (hm : MtR X id (rM X h)) (ho : PE X o (tP X F)) (ha : PA X (e :: es) (tPA X L)) (pa : PlainAttrs "str" := by exact PySem.F.plainAttrs_str)
    (hbase : isCall o = false := by rfl) (hst : noStars (e :: es) = true := by rfl) (hn : (e :: es).length < 30 := by decide) (hline : (apos.endLine == cpos.line) = true := by rfl) :
    PE X (.Call (.Attribute o name apos) (e :: es) [] cpos) (tP X fun ρ => mS h (F ρ) (L ρ)) :=
  (pe_bm pa slot hty hm ho ha (base_no hbase) (by rw [star_all hst, decide_eq_true (show (e :: es).length + ([] : List Keyword).length + (if ([] : List Keyword).isEmpty then 0 else 1) < 30 from hn)]; rfl) hline (star_cons _ _ (stars_head hst).1) (star_none (stars_head hst).2)).weak fun σ H Q ⟨B, ρ, hb, r, q⟩ => ⟨B, ρ, hb, r, q.bind.mono fun t qt v H1 s1 r1 => by
    cases r1 with
    | str z hz =>
      exact ⟨rfl, B, ρ, hb.same s1, r.same s1, (Fi.bind qt |>.same s1).mono fun ts qs vs H2 s2 r2 => ⟨B, z, ts, hb.same (s1.trans s2), rfl, hz, r2, (qs.same (s1.trans s2)).mono fun t qt v H3 s3 r3 => qt v H3 ((s1.trans s2).trans s3) r3⟩⟩
    | _ => exact (show False from qt).elim⟩
def strsL : List Tr → Rs (List Str)
  | [] => .ok []
  | .str z :: ts => (strsL ts).bind fun zs => .ok (z :: zs)
  | _ => .bad
theorem strsL_ok : ∀ {ts : List Tr} {zs : List Str}, strsL ts = .ok zs → ts = zs.map Tr.str
  | [], zs, e => by cases e; rfl
  | t :: ts, zs, e => by
    cases t with
    | str z =>
      rw [strsL] at e
      cases q : strsL ts with
      | ok ys => rw [q] at e; cases e; rw [strsL_ok q]; rfl
      | exc c => rw [q] at e; cases e
      | bad => rw [q] at e; cases e
    | _ => cases e
theorem reps_strs_inv {K : PySem.W.Frag} {H : Vw} : ∀ {zs : List Str} {vs : List V}, Reps K H vs (zs.map Tr.str) → vs = zs.map V.str
  | [], _, r => by cases r; rfl
  | z :: zs, _, r => by
    cases r with
    | cons h r => cases h; rw [reps_strs_inv r]; rfl
def joinM (z : Str) : List Tr → Rs Tr
  | [.lst ts] => (strsL ts).bind fun zs => if JoinOk z zs = true ∧ (Txt.join z zs).length ≤ txMax then .ok (.str (Txt.join z zs)) else .bad
  | _ => .bad
theorem strsL_exc : ∀ {ts : List Tr} {c : Tr}, strsL ts ≠ .exc c
  | [], _ => fun e => by cases e
  | t :: ts, c => fun e => by
    cases t with
    | str z =>
      rw [strsL] at e
      cases q : strsL ts with
      | ok ys => rw [q] at e; cases e
      | exc c => exact strsL_exc q
      | bad => rw [q] at e; cases e
    | _ => cases e
theorem m_join : MtR X "str.join" (rM X joinM) := by
  intro pins s σ H x xs v us Q I rx rv ⟨B, z, ts, hb, e, hz, r, q⟩
  subst e
  unfold joinM at q
  split at q
  · rename_i us'
    cases r with
    | cons h r =>
      cases r
      cases h with
      | lst hl rr =>
        cases e : strsL us' with
        | ok zs =>
          rw [e] at q
          obtain ⟨⟨h1, h2⟩, k⟩ := fi_if q
          have e2 := strsL_ok e
          subst e2
          have e3 := reps_strs_inv rr
          subst e3
          exact mt_join pins s σ H _ _ v us Q I rx rv ⟨z, _, zs, rfl, rfl, .of (hid_up hl), h1, k _ H (Same.refl H) (.str _ h2)⟩
        | exc c => exact (strsL_exc e).elim
        | bad => rw [e] at q; exact (show False from q).elim
  · exact (show False from q).elim
end
end L2
namespace L2
open PySem PySem.Spec PyProof.Rows
section
variable {X : Cx} {a e : Expr} {pos : Pos} {F : Rho → Rs Tr}
def negT : Tr → Rs Tr
  | .int i => .ok (.int (-i))
  | _ => .bad
theorem t_neg (ha : PE X a (tP X F)) : PE X (.UnaryOp .USub a pos) (tP X fun ρ => (F ρ).bind negT) :=
  (pe_un un_neg ha).weak fun σ H Q ⟨B, ρ, hb, r, q⟩ => ⟨B, ρ, hb, r, q.bind.mono fun t qt v H' s' r' => by
    cases r' with
    | int i => exact ⟨i, rfl, qt _ H' s' (.int _)⟩
    | _ => exact (show False from qt).elim⟩
end
theorem hu40 {k : Nat} {A : Around} (hr : Room k A) : A.units + 40 < cLine := by have := hr.units; omega
def mir (n m : Nat) (G : Rho → Rs Out) (ts : List Tr) : Rs Tr := if ts.length = n then bodyR (G (startT m ts)) else .bad
theorem mir_len {n m : Nat} {G : Rho → Rs Out} {ts : List Tr} {t : Tr} (h : mir n m G ts = .ok t) : ts.length = n := by
  unfold mir at h
  split at h
  · assumption
  · cases h
theorem mir_ok {n m : Nat} {G : Rho → Rs Out} {ts : List Tr} {t : Tr} (h : mir n m G ts = .ok t) : bodyR (G (startT m ts)) = .ok t := by
  unfold mir at h
  split at h
  · exact h
  · cases h
end L2
namespace L2
open PySem PySem.Spec PyProof.Rows
structure RepD (K : PySem.W.Frag) (H : Vw) (kvs : List (Key × V)) (kts : List (Key × Tr)) : Prop where
  keys : kvs.map (·.1) = kts.map (·.1)
  vals : Reps K H (kvs.map (·.2)) (kts.map (·.2))
section
variable {K : PySem.W.Frag} {H H' : Vw}
theorem RepD.same {kvs : List (Key × V)} {kts : List (Key × Tr)} (s : SameV H H') (h : RepD K H kvs kts) : RepD K H' kvs kts := ⟨h.keys, h.vals.same s⟩
end
section
variable {X : Cx} {a e o f : Expr} {pos apos cpos : Pos} {F G E : Rho → Rs Tr} {keys : List (Option Expr)} {vals : List Expr} {P : Rho → Rs (List (Tr × Tr))}
def GDictT (K : PySem.W.Frag) (w : World) (mg : Str → Option Value) (x : Str) (kts : List (Str × Tr)) : Prop :=
  ∃ a kvs, mg x = some (.ref a) ∧ KDict K w a kvs ∧ ∀ z, (valueAt kvs z = none ∧ kts.lookup z = none) ∨ ∃ u v t, valueAt kvs z = some u ∧ RelV v u ∧ kts.lookup z = some t ∧ ∀ H, Rep K H v t
def inGT (kts : List (Str × Tr)) : Tr → Rs Tr
  | .str z => .ok (.bl (kts.lookup z).isSome)
  | _ => .bad
def ixGT (kts : List (Str × Tr)) : Tr → Rs Tr
  | .str z => okO (kts.lookup z)
  | _ => .bad
variable {x : Str} {kts : List (Str × Tr)} {p : Pos}
theorem inG_read {σ : St} {H : Hp} {Q : VK} {ad : Addr} {kvs : List (Str × Value)} (D : KDict X.K X.w ad kvs) (hz : ∀ z, (valueAt kvs z = none ∧ kts.lookup z = none) ∨ ∃ u v t, valueAt kvs z = some u ∧ RelV v u ∧ kts.lookup z = some t ∧ ∀ H, Rep X.K H v t) (q : tP X (fun ρ => (F ρ).bind (inGT kts)) σ H Q) :
    tOp (fun x y H Q => ∃ (z : Str) (a : Addr) (kvs : List (Str × Value)), x = .str z ∧ y = .ref a ∧ KDict X.K X.w a kvs ∧ Q (.bl (valueAt kvs z).isSome) H) (tP X F) (tC (.ref ad)) σ H Q := by
  obtain ⟨B, ρ, hb, r, q⟩ := q
  refine ⟨B, ρ, hb, r, q.bind.mono fun t qt v H1 s1 r1 => ?_⟩
  cases r1 with
  | str z h =>
    refine ⟨z, ad, kvs, rfl, rfl, D, ?_⟩
    have qt' : ∀ v H', Same H H' → Rep X.K (hid B H') v (.bl (kts.lookup z).isSome) → Q v H' := qt
    rcases hz z with ⟨h1, h2⟩ | ⟨u, v, t, h1, _, h2, _⟩
    · rw [h1]; rw [h2] at qt'; exact qt' _ H1 s1 (.bl _)
    · rw [h1]; rw [h2] at qt'; exact qt' _ H1 s1 (.bl _)
  | _ => exact (show False from qt).elim
theorem t_inG (g : GDictT X.K X.w X.mg x kts) (ha : PE X a (tP X F)) (hg : Gl X x := by rfl) (hd : (x == ("__debug__" : Str)) = false := by decide) : PE X (.Compare a [.In] [.Name x p] pos) (tP X fun ρ => (F ρ).bind (inGT kts)) := by
  obtain ⟨ad, kvs, hm, D, hz⟩ := g
  exact (pe_cmpR op_inKD ha (pe_glob (v := .ref ad) hg hm rfl hd) (by rfl)).weak fun σ H Q q => inG_read D hz q
theorem t_ixG (g : GDictT X.K X.w X.mg x kts) (ha : PE X a (tP X F)) (hg : Gl X x := by rfl) (hd : (x == ("__debug__" : Str)) = false := by decide) (hs : NoSl a := by exact fun _ _ => rfl) : PE X (.Subscript (.Name x p) a pos) (tP X fun ρ => (F ρ).bind (ixGT kts)) := by
  obtain ⟨ad, kvs, hm, D, hz⟩ := g
  refine (pe_getKD (pe_glob (v := .ref ad) hg hm rfl hd) ha hs).weak fun σ H Q ⟨B, ρ, hb, r, q⟩ => ?_
  refine ⟨B, ρ, hb, r, q.bind.mono fun t qt v H1 s1 r1 => ?_⟩
  cases r1 with
  | str z h =>
    obtain ⟨t, et, k⟩ := okO_fin qt
    rcases hz z with ⟨h1, h2⟩ | ⟨u, v, t', h1, h3, h2, h4⟩
    · rw [h2] at et; cases et
    · rw [h2] at et
      cases et
      exact ⟨ad, z, kvs, u, v, rfl, rfl, D, h1, h3, k v H1 s1 (h4 _)⟩
  | _ => exact (show False from qt).elim
def blsL : List Tr → Rs (List Bool)
  | [] => .ok []
  | .bl b :: ts => (blsL ts).bind fun zs => .ok (b :: zs)
  | _ => .bad
theorem bls_rep {K : PySem.W.Frag} {H : Vw} {H0 : Hp} {k : List Bool → Prop} : ∀ {ts : List Tr} {vs : List V}, Reps K H vs ts → Fi X H0 (blsL ts) k → ∃ bs, k bs ∧ vs = bs.map V.bl
  | [], _, r, q => by cases r; exact ⟨[], q, rfl⟩
  | t :: ts, _, r, q => by
    cases r with
    | cons h r =>
      cases h with
      | bl b =>
        obtain ⟨bs, k1, e⟩ := bls_rep (k := fun zs => k (b :: zs)) r (Fi.bind q)
        exact ⟨b :: bs, k1, by rw [e]; rfl⟩
      | _ => exact (show False from q).elim
def allT : List Tr → Rs Tr
  | [.lst ts] => (blsL ts).bind fun bs => .ok (.bl (bs.all id))
  | _ => .bad
theorem c_all (hc : X.calm = true) : CallT X (.builtin "all") allT := by
  intro pins s σ H xs us Q I rv ⟨B, ts, hb, r, q⟩
  unfold allT at q
  split at q
  · cases r with
    | cons h r =>
      cases r
      cases h with
      | lst hl rr =>
        obtain ⟨bs, k, e⟩ := bls_rep rr (Fi.bind q)
        subst e
        exact call_all hc pins s σ H _ us Q I rv ⟨_, bs, rfl, .of (hid_up hl), k _ H (Same.refl H) (.bl _)⟩
  · exact (show False from q).elim
end
end L2
namespace L2
open PySem
inductive KDE (K : PySem.W.Frag) (w : World) : List DictEntry → List (Str × Value) → List (Str × Tr) → Prop
  | nil : KDE K w [] [] []
  | cons {z : Str} {t : Tok} {v : V} {u : Value} {tr : Tr} {es : List DictEntry} {kvs : List (Str × Value)} {kts : List (Str × Tr)} : RelV v u → (∀ H, Rep K H v tr) → KDE K w es kvs kts →
      KDE K w (⟨PyData.keyHash w.params z, .str z t, u⟩ :: es) ((z, u) :: kvs) ((z, tr) :: kts)
variable {K : PySem.W.Frag} {w : World} {es : List DictEntry} {kvs : List (Str × Value)} {kts : List (Str × Tr)}
theorem KDE.keys (prog : Program) (h : KDE K w es kvs kts) : ∀ e ∈ es, ∃ k, (PySem.strKind prog w).is k e.key = true ∧ e.hash = (PySem.strKind prog w).hash k := by
  induction h with
  | nil => intro e he; cases he
  | @cons z t v u tr es kvs kts _ _ _ ih =>
    intro e he
    rcases List.mem_cons.mp he with rfl | he
    · exact ⟨z, by simp [PySem.strKind, Value.isStrOf], rfl⟩
    · exact ih e he
theorem KDE.pairs (prog : Program) (h : KDE K w es kvs kts) : Pairs (PySem.strKind prog w) es kvs := by
  induction h with
  | nil => exact .nil
  | cons _ _ _ ih => exact .cons (by simp [PySem.strKind, Value.isStrOf]) rfl ih
theorem KDE.at (h : KDE K w es kvs kts) (y : Str) : (valueAt kvs y = none ∧ kts.lookup y = none) ∨ ∃ u v t, valueAt kvs y = some u ∧ RelV v u ∧ kts.lookup y = some t ∧ ∀ H, Rep K H v t := by
  induction h with
  | nil => exact .inl ⟨rfl, rfl⟩
  | @cons z t v u tr es kvs kts hr hp _ ih =>
    by_cases e : z = y
    · subst e
      exact .inr ⟨u, v, tr, by simp [valueAt], hr, by simp [List.lookup], hp⟩
    · have e1 : valueAt ((z, u) :: kvs) y = valueAt kvs y := by simp [valueAt, e]
      have e2 : List.lookup y ((z, tr) :: kts) = kts.lookup y := by
        have : (y == z) = false := beq_eq_false_iff_ne.mpr fun k => e k.symm
        simp [List.lookup, this]
      rw [e1, e2]; exact ih
theorem KDE.gd {mg : Str → Option Value} {x : Str} {a : Addr} {ep : Nat} (h : KDE K w es kvs kts) (hm : mg x = some (.ref a)) (hl : K.lookup a = some ⟨.type "dict", none, .dict es.toArray ep, #[]⟩) (hs : (a == sysModules) = false) (hn : (kvs.map (·.1)).Nodup) : GDictT K w mg x kts :=
  ⟨a, kvs, hm, ⟨hs, _, _, _, hl, ⟨rfl, rfl, rfl⟩, rfl, fun prog => ⟨fun e he => h.keys prog e (by simpa using he), h.pairs prog, hn⟩⟩, h.at⟩
end L2
namespace L2
open PySem PySem.Spec PyProof.Rows
inductive Ao where
  | lst (ts : List Tr) | dic (kts : List (Key × Tr)) | ins (x : Str) (fs : List (Str × Tr)) | dct (kts : List (List Key × Tr)) | exo (x : Str)
abbrev Ab := List Ao
def AoAt (K : PySem.W.Frag) (B : Bar) (H : Hp) (a : Addr) : Ao → Prop
  | .lst ts => B.hd a = true ∧ ∃ vs, H a = some (.lst vs) ∧ Reps K (hid B H) vs ts
  | .dic kts => B.hd a = true ∧ ∃ kvs, H a = some (.dK kvs) ∧ RepD K (hid B H) kvs kts
  | .dct kts => B.hd a = true ∧ ∃ kvs, H a = some (.dT kvs) ∧ kvs.map (·.1) = kts.map (·.1) ∧ Reps K (hid B H) (kvs.map (·.2)) (kts.map (·.2))
  | .ins x fs => B.hd a = true ∧ ∃ dx fvs, H a = some (.ins (clsAt K x) dx fvs) ∧ H dx = some (.own a) ∧ B.ix dx = none ∧ fvs.map (·.1) = fs.map (·.1) ∧ Reps K (hid B H) (fvs.map (·.2)) (fs.map (·.2))
  | .exo x => B.hd a = true ∧ ∃ oe : Obj, H a = some (.ext fun h => h.get? a = some oe) ∧ oe.cls = .ref (clsAt K x)
structure HA (K : PySem.W.Frag) (B : Bar) (A : Ab) (H : Hp) : Prop where
  hb : HB B H
  ob : ∀ i o, A[i]? = some o → ∃ a, B.ix a = some i ∧ AoAt K B H a o
  inj : ∀ a b i, B.ix a = some i → B.ix b = some i → a = b
  lt : ∀ a i, B.ix a = some i → i < A.length
structure Grows (B : Bar) (H : Hp) (B' : Bar) (H' : Hp) : Prop where
  vis : SameV (hid B H) (hid B' H')
  kp : ∀ b o, B.ix b = none → H b = some o → H' b = some o
  hd : ∀ b, B.ix b = none → B.hd b = true → B'.hd b = true
  nw : ∀ b i, B'.ix b = some i → B.ix b = none → H b = none
section
variable {K : PySem.W.Frag} {B B' B1 B2 : Bar} {H H' H1 H2 : Hp} {A : Ab}
theorem AoAt.same {a : Addr} {o : Ao} (h : AoAt K B H a o) (s : Same H H') : AoAt K B H' a o := by
  cases o with
  | lst ts => obtain ⟨h0, vs, h1, h2⟩ := h; exact ⟨h0, vs, s _ _ h1, h2.same (hid_same s)⟩
  | dic kts => obtain ⟨h0, vs, h1, h2⟩ := h; exact ⟨h0, vs, s _ _ h1, h2.same (hid_same s)⟩
  | dct kts => obtain ⟨h0, vs, h1, h2, h3⟩ := h; exact ⟨h0, vs, s _ _ h1, h2, h3.same (hid_same s)⟩
  | exo x => obtain ⟨h0, oe, h1, h2⟩ := h; exact ⟨h0, oe, s _ _ h1, h2⟩
  | ins c fs => obtain ⟨h0, dx, fvs, h1, h2, h3, h4, h5⟩ := h; exact ⟨h0, dx, fvs, s _ _ h1, s _ _ h2, h3, h4, h5.same (hid_same s)⟩
theorem AoAt.hd {a : Addr} {o : Ao} (h : AoAt K B H a o) : B.hd a = true := by cases o <;> exact h.1
theorem AoAt.mem {a : Addr} {o : Ao} (h : AoAt K B H a o) : ∃ x, H a = some x ∧ (∀ vs, x ≠ .tup vs) ∧ ∀ ob u, x ≠ .frz ob u := by
  cases o with
  | lst ts => obtain ⟨h0, vs, h1, h2⟩ := h; exact ⟨_, h1, (fun _ e => by cases e), (fun _ _ e => by cases e)⟩
  | dic kts => obtain ⟨h0, vs, h1, h2⟩ := h; exact ⟨_, h1, (fun _ e => by cases e), (fun _ _ e => by cases e)⟩
  | dct kts => obtain ⟨h0, vs, h1, h2⟩ := h; exact ⟨_, h1, (fun _ e => by cases e), (fun _ _ e => by cases e)⟩
  | exo x => obtain ⟨h0, oe, h1, h2⟩ := h; exact ⟨_, h1, (fun _ e => by cases e), (fun _ _ e => by cases e)⟩
  | ins c fs => obtain ⟨h0, dx, fvs, h1, h2⟩ := h; exact ⟨_, h1, (fun _ e => by cases e), (fun _ _ e => by cases e)⟩
theorem HA.same (h : HA K B A H) (s : Same H H') : HA K B A H' :=
  ⟨h.hb.same s, fun i o e => by obtain ⟨a, h1, h2⟩ := h.ob i o e; exact ⟨a, h1, h2.same s⟩, h.inj, h.lt⟩
theorem HA.get (h : HA K B A H) {a : Addr} {i : Nat} {o : Ao} (e : B.ix a = some i) (q : A[i]? = some o) : AoAt K B H a o := by
  obtain ⟨b, h1, h2⟩ := h.ob i o q
  rw [h.inj a b i e h1]; exact h2
theorem HA.ex (h : HA K B A H) {a : Addr} {i : Nat} (e : B.ix a = some i) : ∃ o, A[i]? = some o ∧ AoAt K B H a o := by
  have l := h.lt a i e
  exact ⟨A[i], List.getElem?_eq_getElem l, h.get e (List.getElem?_eq_getElem l)⟩
theorem HA.free (h : HA K B A H) {p : Addr} (hp : H p = none) : B.ix p = none := by
  cases e : B.ix p with
  | none => rfl
  | some i =>
    obtain ⟨o, _, q⟩ := h.ex e
    obtain ⟨x, e2, _⟩ := q.mem
    rw [hp] at e2; cases e2
theorem Grows.of (s : Same H H') : Grows B H B H' := ⟨hid_same s, fun b o _ e => s b o e, fun _ _ e => e, fun b i e n => by rw [n] at e; cases e⟩
theorem Grows.refl : Grows B H B H := .of (Same.refl H)
theorem Grows.trans (hb : HB B H) (a : Grows B H B1 H1) (b : Grows B1 H1 B2 H2) : Grows B H B2 H2 := by
  have key : ∀ c, B.ix c = none → (∃ o, H c = some o) → B1.ix c = none := fun c n ⟨o, e⟩ => by
    cases q : B1.ix c with
    | none => rfl
    | some i => have := a.nw c i q n; rw [e] at this; cases this
  refine ⟨a.vis.trans b.vis, fun c o n e => b.kp c o (key c n ⟨o, e⟩) (a.kp c o n e), fun c n e => ?_, fun c i e n => ?_⟩
  · exact b.hd c (key c n (hb c e)) (a.hd c n e)
  · cases q : B1.ix c with
    | none =>
      have := b.nw c i e q
      cases q2 : H c with
      | none => rfl
      | some o => rw [a.kp c o n q2] at this; cases this
    | some j => exact a.nw c j q n
def barN (B : Bar) (p : Addr) (i : Nat) : Bar := ⟨fun b => B.hd b || b == p, fun b => if b = p then some i else B.ix b⟩
theorem barN_hd {p : Addr} {i : Nat} : (barN B p i).hd p = true := by show (B.hd p || p == p) = true; rw [beq_self_eq_true, Bool.or_true]
theorem barN_ix {p : Addr} {i : Nat} : (barN B p i).ix p = some i := if_pos rfl
theorem barN_ne {p b : Addr} {i : Nat} (h : b ≠ p) : (barN B p i).ix b = B.ix b := if_neg h
theorem barN_hne {p b : Addr} {i : Nat} (h : b ≠ p) : (barN B p i).hd b = B.hd b := by show (B.hd b || b == p) = _; rw [beq_false_of_ne h, Bool.or_false]
theorem barN_vis {p : Addr} {i : Nat} (hp : H p = none) (hx : B.ix p = none) (s : Same H H') : SameV (hid B H) (hid (barN B p i) H') := ⟨fun b u e => by
  have e1 := hid_sub b u e
  have hne : b ≠ p := ne_of_none e1 hp
  have hB : B.hd b = false := by
    cases q : B.hd b with
    | false => rfl
    | true =>
      have e2 : (if B.hd b = true then none else H b) = some u := e
      rw [q, if_pos rfl] at e2; cases e2
  rw [hid_at (by rw [barN_hne hne]; exact hB)]
  exact s b u e1, fun b j e => by
  have hne : b ≠ p := fun z => by rw [z] at e; rw [show (hid B H).ix p = B.ix p from rfl, hx] at e; cases e
  show (barN B p i).ix b = some j
  rw [barN_ne hne]; exact e⟩
theorem HA.push {p : Addr} {o : Ao} (h : HA K B A H) (hp : H p = none) (s : Same H H') (ho : AoAt K (barN B p A.length) H' p o) : Grows B H (barN B p A.length) H' ∧ HA K (barN B p A.length) (A ++ [o]) H' := by
  have hx := h.free hp
  have vis : SameV (hid B H) (hid (barN B p A.length) H') := barN_vis hp hx s
  have up : ∀ {a : Addr} {u : Ao}, a ≠ p → AoAt K B H a u → AoAt K (barN B p A.length) H' a u := fun {a u} hne q => by
    have e0 : (barN B p A.length).hd a = true := by rw [barN_hne hne]; exact q.hd
    cases u with
    | lst ts => obtain ⟨h0, vs, h1, h2⟩ := q; exact ⟨e0, vs, s _ _ h1, h2.same vis⟩
    | dic kts => obtain ⟨h0, vs, h1, h2⟩ := q; exact ⟨e0, vs, s _ _ h1, h2.same vis⟩
    | dct kts => obtain ⟨h0, vs, h1, h2, h3⟩ := q; exact ⟨e0, vs, s _ _ h1, h2, h3.same vis⟩
    | exo x => obtain ⟨h0, oe, h1, h2⟩ := q; exact ⟨e0, oe, s _ _ h1, h2⟩
    | ins c fs =>
      obtain ⟨h0, dx, fvs, h1, h2, h3, h4, h5⟩ := q
      exact ⟨e0, dx, fvs, s _ _ h1, s _ _ h2, by rw [barN_ne (ne_of_none h2 hp)]; exact h3, h4, h5.same vis⟩
  refine ⟨⟨vis, fun b u _ e => s b u e, fun b _ e => ?_, fun b i e n => ?_⟩, ⟨fun b e => ?_, fun i u e => ?_, fun a b i e1 e2 => ?_, fun a i e => ?_⟩⟩
  · show (B.hd b || b == p) = true
    rw [e, Bool.true_or]
  · by_cases q : b = p
    · rw [q]; exact hp
    · rw [barN_ne q, n] at e; cases e
  · by_cases q : b = p
    · rw [q]; obtain ⟨x, e2, _⟩ := ho.mem; exact ⟨x, e2⟩
    · rw [barN_hne q] at e; obtain ⟨x, e2⟩ := h.hb b e; exact ⟨x, s _ _ e2⟩
  · by_cases q : i < A.length
    · rw [List.getElem?_append_left q] at e
      obtain ⟨a, e1, e2⟩ := h.ob i u e
      have hne : a ≠ p := fun z => by rw [z, hx] at e1; cases e1
      exact ⟨a, by rw [barN_ne hne]; exact e1, up hne e2⟩
    · rw [List.getElem?_append_right (Nat.le_of_not_lt q)] at e
      have hi : i - A.length = 0 := by
        cases z : i - A.length with
        | zero => rfl
        | succ k => rw [z] at e; cases e
      rw [hi] at e
      cases e
      have : i = A.length := by omega
      subst this
      exact ⟨p, barN_ix, ho⟩
  · by_cases q1 : a = p
    · by_cases q2 : b = p
      · rw [q1, q2]
      · rw [q1, barN_ix] at e1; cases e1
        rw [barN_ne q2] at e2
        exact absurd (h.lt b _ e2) (Nat.lt_irrefl _)
    · by_cases q2 : b = p
      · rw [q2, barN_ix] at e2; cases e2
        rw [barN_ne q1] at e1
        exact absurd (h.lt a _ e1) (Nat.lt_irrefl _)
      · rw [barN_ne q1] at e1; rw [barN_ne q2] at e2; exact h.inj a b i e1 e2
  · rw [List.length_append, List.length_singleton]
    by_cases q : a = p
    · rw [q, barN_ix] at e; cases e; exact Nat.lt_succ_self _
    · rw [barN_ne q] at e; exact Nat.lt_succ_of_lt (h.lt a i e)
theorem hid_upd {a : Addr} {u : HO} (h : B.hd a = true) : hid B (upd H a u) = hid B H := by
  unfold hid
  congr 1
  funext b
  by_cases q : b = a
  · subst q; rw [if_pos h, if_pos h]
  · rw [upd_ne q]
theorem HA.write {a : Addr} {i : Nat} {o : Ao} {u : HO} (h : HA K B A H) (e : B.ix a = some i) (ho : AoAt K B (upd H a u) a o) : Grows B H B (upd H a u) ∧ HA K B (A.set i o) (upd H a u) := by
  have hd : B.hd a = true := ho.hd
  have hv : hid B (upd H a u) = hid B H := hid_upd hd
  refine ⟨⟨by rw [hv]; exact SameV.refl _, fun b x n q => ?_, fun _ _ q => q, fun b j q n => by rw [n] at q; cases q⟩, ⟨fun b q => ?_, fun j x q => ?_, h.inj, fun b j q => by rw [List.length_set]; exact h.lt b j q⟩⟩
  · have hne : b ≠ a := fun z => by rw [z, e] at n; cases n
    rw [upd_ne hne]; exact q
  · by_cases z : b = a
    · subst z; exact ⟨u, upd_same⟩
    · rw [upd_ne z]; exact h.hb b q
  · rcases set_cases q with ⟨rfl, _, rfl⟩ | ⟨hij, q⟩
    · exact ⟨a, e, ho⟩
    · obtain ⟨b, e1, e2⟩ := h.ob j x q
      have hne : b ≠ a := fun z => by rw [z, e] at e1; cases e1; exact hij rfl
      refine ⟨b, e1, ?_⟩
      cases x with
      | lst ts => obtain ⟨h0, vs, h1, h2⟩ := e2; exact ⟨h0, vs, by rw [upd_ne hne]; exact h1, by rw [hv]; exact h2⟩
      | dic kts => obtain ⟨h0, vs, h1, h2⟩ := e2; exact ⟨h0, vs, by rw [upd_ne hne]; exact h1, by rw [hv]; exact h2⟩
      | dct kts => obtain ⟨h0, vs, h1, h2, h3⟩ := e2; exact ⟨h0, vs, by rw [upd_ne hne]; exact h1, h2, by rw [hv]; exact h3⟩
      | exo x => obtain ⟨h0, oe, h1, h2⟩ := e2; exact ⟨h0, oe, by rw [upd_ne hne]; exact h1, h2⟩
      | ins c fs =>
        obtain ⟨h0, dx, fvs, h1, h2, h3, h4, h5⟩ := e2
        have hdx : dx ≠ a := fun z => by rw [z, e] at h3; cases h3
        exact ⟨h0, dx, fvs, by rw [upd_ne hne]; exact h1, by rw [upd_ne hdx]; exact h2, h3, h4, by rw [hv]; exact h5⟩
end
mutual
def noAt : Tr → Bool
  | .at _ => false
  | .tup ts => noAts ts
  | .lst ts => noAts ts
  | .dic kts => noAtD kts
  | .dct kts => noAtE kts
  | .ob _ fs => noAtF fs
  | _ => true
def noAts : List Tr → Bool
  | [] => true
  | t :: ts => noAt t && noAts ts
def noAtD : List (Key × Tr) → Bool
  | [] => true
  | p :: r => noAtP p && noAtD r
def noAtP : Key × Tr → Bool
  | (_, t) => noAt t
def noAtE : List (List Key × Tr) → Bool
  | [] => true
  | p :: r => noAtQ p && noAtE r
def noAtQ : List Key × Tr → Bool
  | (_, t) => noAt t
def noAtF : List (Str × Tr) → Bool
  | [] => true
  | p :: r => noAtR p && noAtF r
def noAtR : Str × Tr → Bool
  | (_, t) => noAt t
end
theorem noAtD_map : ∀ (kts : List (Key × Tr)), noAtD kts = noAts (kts.map (·.2))
  | [] => rfl
  | (k, t) :: r => by rw [noAtD, noAtP, List.map_cons, noAts, noAtD_map r]
theorem noAtE_map : ∀ (kts : List (List Key × Tr)), noAtE kts = noAts (kts.map (·.2))
  | [] => rfl
  | (k, t) :: r => by rw [noAtE, noAtQ, List.map_cons, noAts, noAtE_map r]
theorem noAtF_map : ∀ (kts : List (Str × Tr)), noAtF kts = noAts (kts.map (·.2))
  | [] => rfl
  | (k, t) :: r => by rw [noAtF, noAtR, List.map_cons, noAts, noAtF_map r]
mutual
def tuF : Tr → Bool
  | .non => true
  | .bl _ => true
  | .int _ => true
  | .str _ => true
  | .ty _ => true
  | .at _ => true
  | .tup ts => tuFs ts
  | _ => false
def tuFs : List Tr → Bool
  | [] => true
  | t :: ts => tuF t && tuFs ts
end
def thawT : Nat → Ab → Tr → Tr
  | 0, _, t => t
  | n + 1, A, .at i => match A[i]? with
    | some (.lst ts) => .lst (ts.map (thawT n A))
    | some (.dic kts) => .dic (kts.map fun p => (p.1, thawT n A p.2))
    | some (.dct kts) => .dct (kts.map fun p => (p.1, thawT n A p.2))
    | some (.ins c fs) => .ob c (fs.map fun p => (p.1, thawT n A p.2))
    | some (.exo x) => .exn x
    | none => .at i
  | _ + 1, _, t => t
def Bar.un (B : Bar) : Bar := ⟨fun b => B.hd b && (B.ix b).isNone, B.ix⟩
section
variable {K : PySem.W.Frag} {B B' : Bar} {H H' : Hp} {A : Ab}
theorem un_le : BarLe B.un B := ⟨fun b e => by
  have e' : (B.hd b && (B.ix b).isNone) = true := e
  rw [Bool.and_eq_true] at e'; exact e'.1, fun _ _ e => e⟩
theorem un_vis : SameV (hid B H) (hid B.un H) := hid_mono un_le
theorem un_hb (h : HB B H) : HB B.un H := fun b e => h b (un_le.hd b e)
theorem un_at {a : Addr} {i : Nat} (e : B.ix a = some i) : (hid B.un H).H a = H a := hid_at (by show (B.hd a && (B.ix a).isNone) = false; rw [e]; exact Bool.and_false _)
theorem reps_map {W W' : Vw} {f : Tr → Tr} (h : ∀ {v t}, Rep K W v t → Rep K W' v (f t)) : ∀ {vs : List V} {ts : List Tr}, Reps K W vs ts → Reps K W' vs (ts.map f)
  | [], _, r => by cases r; exact .nil
  | _ :: _, _, r => by cases r with | cons h1 r => exact .cons (h h1) (reps_map h r)
theorem thaw_rep (ha : HA K B A H) : ∀ (n : Nat) {v : V} {t : Tr}, Rep K (hid B H) v t → Rep K (hid B.un H) v (thawT n A t)
  | 0, v, t, r => by rw [thawT]; exact r.same un_vis
  | n + 1, v, t, r => by
    cases r with
    | @«at» a i h =>
      have e : B.ix a = some i := h
      obtain ⟨o, q, ao⟩ := ha.ex e
      rw [thawT, q]
      cases o with
      | lst ts =>
        obtain ⟨h0, vs, h1, h2⟩ := ao
        exact .lst (by rw [un_at e]; exact h1) (reps_map (fun r => thaw_rep ha n r) h2)
      | dic kts =>
        obtain ⟨h0, kvs, h1, h2⟩ := ao
        refine .dic (.inl (by rw [un_at e]; exact h1)) (by rw [h2.keys, List.map_map]; rfl) ?_
        have := reps_map (fun r => thaw_rep ha n r) h2.vals
        rw [List.map_map] at this ⊢
        exact this
      | exo x => obtain ⟨h0, oe, h1, h2⟩ := ao; exact .exn (by rw [un_at e]; exact h1) h2
      | dct kts =>
        obtain ⟨h0, kvs, h1, h2, h3⟩ := ao
        refine .dct (by rw [un_at e]; exact h1) (by rw [h2, List.map_map]; rfl) ?_
        have := reps_map (fun r => thaw_rep ha n r) h3
        rw [List.map_map] at this ⊢
        exact this
      | ins c fs =>
        obtain ⟨h0, dx, fvs, h1, h2, h3, h4, h5⟩ := ao
        refine .ob (by rw [un_at e]; exact h1) (by rw [h4, List.map_map]; rfl) ?_
        have := reps_map (fun r => thaw_rep ha n r) h5
        rw [List.map_map] at this ⊢
        exact this
    | non => exact .non
    | bl b => exact .bl b
    | int i => exact .int i
    | str z h => exact .str z h
    | ty m => exact .ty m
    | scr h => exact .scr (un_vis.h.seq h)
    | tup h r => exact .tup (un_vis.h.tup h) (r.same un_vis)
    | lst h r => exact .lst (un_vis.h _ _ h) (r.same un_vis)
    | dic h e r => exact .dic (h.same un_vis.h) e (r.same un_vis)
    | dct h e r => exact .dct (un_vis.h _ _ h) e (r.same un_vis)
    | ob h e r => exact .ob (un_vis.h _ _ h) e (r.same un_vis)
    | exn h c => exact .exn (un_vis.h _ _ h) c
theorem un_tup (ha : HA K B A H) {a : Addr} {x : HO} (e : (hid B.un H).H a = some x) (hx : (∃ vs, x = .tup vs) ∨ ∃ o u, x = .frz o u) : (hid B H).H a = some x := by
  have e1 := hid_sub a x e
  cases q : B.hd a with
  | false => rw [hid_at q]; exact e1
  | true =>
    cases z : B.ix a with
    | none =>
      have e2 : (if B.un.hd a = true then none else H a) = some x := e
      rw [show B.un.hd a = (B.hd a && (B.ix a).isNone) from rfl, q, z] at e2
      cases e2
    | some i =>
      obtain ⟨o, _, ao⟩ := ha.ex z
      obtain ⟨y, e3, n1, n2⟩ := ao.mem
      rw [e1] at e3; cases e3
      rcases hx with ⟨vs, rfl⟩ | ⟨o, u, rfl⟩
      · exact absurd rfl (n1 vs)
      · exact absurd rfl (n2 o u)
structure TupTo (W W' : Vw) : Prop where
  h : ∀ a x, W.H a = some x → ((∃ vs, x = .tup vs) ∨ ∃ o u, x = .frz o u) → W'.H a = some x
  x : ∀ a i, W.ix a = some i → W'.ix a = some i
theorem TupTo.un (ha : HA K B A H) : TupTo (hid B.un H) (hid B H) := ⟨fun a x e hx => un_tup ha e hx, fun _ _ e => e⟩
theorem TupTo.trans {W W1 W2 : Vw} (a : TupTo W W1) (b : TupTo W1 W2) : TupTo W W2 := ⟨fun c x e hx => b.h c x (a.h c x e hx) hx, fun c i e => b.x c i (a.x c i e)⟩
theorem TupTo.new {p : Addr} {i : Nat} {x : HO} (hx : B.ix p = none) (hp : H p = some x) (n1 : ∀ vs, x ≠ .tup vs) (n2 : ∀ o u, x ≠ .frz o u) : TupTo (hid B H) (hid (barN B p i) H) := ⟨fun a y e hy => by
  have e1 := hid_sub a y e
  have hne : a ≠ p := fun z => by
    rw [z, hp] at e1; cases e1
    rcases hy with ⟨vs, z⟩ | ⟨o, u, z⟩
    · exact n1 vs z
    · exact n2 o u z
  have hB : B.hd a = false := by
    cases q : B.hd a with
    | false => rfl
    | true =>
      have e2 : (if B.hd a = true then none else H a) = some y := e
      rw [q, if_pos rfl] at e2; cases e2
  rw [hid_at (by rw [barN_hne hne]; exact hB)]
  exact e1, fun a j e => by
  have hne : a ≠ p := fun z => by rw [z] at e; rw [show (hid B H).ix p = B.ix p from rfl, hx] at e; cases e
  show (barN B p i).ix a = some j
  rw [barN_ne hne]; exact e⟩
theorem flat_to {W W' : Vw} (s : TupTo W W') {v : V} {t : Tr} (h : Rep K W v t) : tuF t = true → Rep K W' v t := by
  refine Rep.rec (motive_1 := fun v t _ => tuF t = true → Rep K W' v t) (motive_2 := fun vs ts _ => tuFs ts = true → Reps K W' vs ts) ?_ ?_ ?_ ?_ ?_ ?_ ?_ ?_ ?_ ?_ ?_ ?_ ?_ ?_ ?_ h
  · exact fun _ => .non
  · exact fun b _ => .bl b
  · exact fun i _ => .int i
  · exact fun z h _ => .str z h
  · exact fun n _ => .ty n
  · exact fun h f => nomatch f
  · intro a vs ts h _ ih f
    refine .tup ?_ (ih f)
    rcases h with (h | ⟨o, h⟩) | h
    · exact .inl (.inl (s.h _ _ h (.inl ⟨_, rfl⟩)))
    · exact .inl (.inr ⟨o, s.h _ _ h (.inr ⟨_, _, rfl⟩)⟩)
    · exact .inr h
  · exact fun h _ _ f => nomatch f
  · exact fun h _ _ _ f => nomatch f
  · exact fun h _ => .at (s.x _ _ h)
  · exact fun h _ _ _ f => nomatch f
  · exact fun h _ _ _ f => nomatch f
  · exact fun h c f => nomatch f
  · exact fun _ => .nil
  · intro v t vs ts _ _ ih1 ih2 f
    rw [tuFs, Bool.and_eq_true] at f
    exact .cons (ih1 f.1) (ih2 f.2)
theorem flats_to {W W' : Vw} (s : TupTo W W') : ∀ {vs : List V} {ts : List Tr}, Reps K W vs ts → tuFs ts = true → Reps K W' vs ts
  | [], _, r, _ => by cases r; exact .nil
  | _ :: _, _, r, f => by
    cases r with
    | cons h r =>
      rw [tuFs, Bool.and_eq_true] at f
      exact .cons (flat_to s h f.1) (flats_to s r f.2)
theorem flat_back (ha : HA K B A H) {v : V} {t : Tr} (h : Rep K (hid B.un H) v t) (f : tuF t = true) : Rep K (hid B H) v t := flat_to (.un ha) h f
theorem Rep.noat {W W' : Vw} (s : Same W.H W'.H) {v : V} {t : Tr} (h : Rep K W v t) : noAt t = true → Rep K W' v t := by
  refine Rep.rec (motive_1 := fun v t _ => noAt t = true → Rep K W' v t) (motive_2 := fun vs ts _ => noAts ts = true → Reps K W' vs ts) ?_ ?_ ?_ ?_ ?_ ?_ ?_ ?_ ?_ ?_ ?_ ?_ ?_ ?_ ?_ h
  · exact fun _ => .non
  · exact fun b _ => .bl b
  · exact fun i _ => .int i
  · exact fun z h _ => .str z h
  · exact fun n _ => .ty n
  · exact fun h _ => .scr (s.seq h)
  · exact fun h _ ih f => .tup (s.tup h) (ih f)
  · exact fun h _ ih f => .lst (s _ _ h) (ih f)
  · intro a kvs kts h e _ ih f
    refine .dic (Rd.same s h) e (ih ?_)
    rw [noAt, noAtD_map] at f
    exact f
  · exact fun h f => nomatch f
  · intro a kvs kts h e _ ih f
    refine .dct (s _ _ h) e (ih ?_)
    rw [noAt, noAtE_map] at f
    exact f
  · intro a c dx fvs fs h e _ ih f
    refine .ob (s _ _ h) e (ih ?_)
    rw [noAt, noAtF_map] at f
    exact f
  · exact fun h c _ => .exn (s _ _ h) c
  · exact fun _ => .nil
  · intro v t vs ts _ _ ih1 ih2 f
    rw [noAts, Bool.and_eq_true] at f
    exact .cons (ih1 f.1) (ih2 f.2)
theorem Reps.noat {W W' : Vw} (s : Same W.H W'.H) : ∀ {vs : List V} {ts : List Tr}, Reps K W vs ts → noAts ts = true → Reps K W' vs ts
  | [], _, r, _ => by cases r; exact .nil
  | _ :: _, _, r, f => by
    cases r with
    | cons h r =>
      rw [noAts, Bool.and_eq_true] at f
      exact .cons (h.noat s f.1) (Reps.noat s r f.2)
end
def thawC (A : Ab) : Cell → Cell
  | .sh t => .sh (thawT 5 A t)
  | c => c
def thawR (A : Ab) (ρ : Rho) : Rho := ρ.map (thawC A)
theorem RepS.thaw {K : PySem.W.Frag} {B : Bar} {H : Hp} {A : Ab} {σ : St} {ρ : Rho} (ha : HA K B A H) (n : NoOw ρ) (h : RepS K B H σ ρ) : RepS K B.un H σ (thawR A ρ) := by
  have no : ∀ i ts, (thawR A ρ)[i]? ≠ some (Cell.ow ts) := fun i ts e => by
    unfold thawR at e
    rw [List.getElem?_map] at e
    cases q : ρ[i]? with
    | none => rw [q] at e; cases e
    | some c =>
      rw [q] at e
      cases c with
      | no => cases e
      | sh t => cases e
      | ow us => exact n i us q
  refine ⟨by unfold thawR; rw [List.length_map]; exact h.len, fun i t e => ?_, fun i ts e => absurd e (no i ts), fun i j ts us D _ e => absurd e (no i ts)⟩
  unfold thawR at e
  rw [List.getElem?_map] at e
  cases q : ρ[i]? with
  | none => rw [q] at e; cases e
  | some c =>
    rw [q] at e
    cases c with
    | no => cases e
    | ow us => exact absurd q (n i us)
    | sh u =>
      obtain ⟨v, e1, r⟩ := h.sh i u q
      have e2 : thawT 5 A u = t := by
        have e3 := Option.some.inj e
        exact (Cell.sh.inj e3)
      rw [← e2]
      exact ⟨v, e1, thaw_rep ha 5 r⟩
theorem RepS.grow {K : PySem.W.Frag} {B B' : Bar} {H H' : Hp} {σ : St} {ρ : Rho} (h : RepS K B H σ ρ) (n : NoOw ρ) (g : Grows B H B' H') : RepS K B' H' σ ρ :=
  ⟨h.len, fun i t e => by obtain ⟨v, e1, r⟩ := h.sh i t e; exact ⟨v, e1, r.same g.vis⟩, fun i ts e => absurd e (n i ts), fun i j ts us D _ e => absurd e (n i ts)⟩
end L2
namespace L2
open PySem PySem.Spec PyProof.Rows
theorem ObjOk.get {P : Program} {w : World} {H : Hp} {h : Heap} {a : Addr} {o : HO} (x : ObjOk P w H h a o) : ∃ u, h.get? a = some u := by
  cases o with
  | lst xs => obtain ⟨_, _, _, _, e⟩ := x; exact ⟨_, e⟩
  | tup xs => obtain ⟨_, _, _, o, e, _⟩ := x; exact ⟨o, e⟩
  | dK kvs => obtain ⟨_, _, _, _, o, _, _, e, _⟩ := x; exact ⟨o, e⟩
  | dT kvs => obtain ⟨_, _, _, _, o, _, _, e, _⟩ := x; exact ⟨o, e⟩
  | set S n => obtain ⟨o, _, _, _, e, _⟩ := x; exact ⟨o, e⟩
  | ins C dx fs => obtain ⟨_, _, _, e, _⟩ := x; exact ⟨_, e⟩
  | own y => exact x
  | xd fs => obtain ⟨_, ⟨_, _, _, e, _⟩, _⟩ := x; exact ⟨_, e⟩
  | rng lo hi => obtain ⟨_, _, _, e⟩ := x; exact ⟨_, e⟩
  | frz ob u => obtain ⟨e, _⟩ := x; exact ⟨_, e⟩
  | tbl ps => exact ⟨_, (show h.get? a = some _ from x)⟩
  | met f y => exact ⟨_, (show h.get? a = some _ from x)⟩
  | ext φ => obtain ⟨_, e, _⟩ := x; exact e
structure Und (h0 : Heap) (H : Hp) (h : Heap) (a : Addr) (cls : Value) : Prop where
  ob : ∃ oe vs a0, h.get? a = some oe ∧ oe.cls = cls ∧ oe.data = .fields vs ∧ vs[0]? = some a0 ∧
    (vs[1]? = some .none ∨ ∃ T oT ts, vs[1]? = some (.ref T) ∧ T ≠ a ∧ h0.get? T = none ∧ H T = none ∧ h.get? T = some oT ∧ oT.data = .fields ts ∧ ts[3]? = some .none)
  fr : H a = none
  nw : h0.get? a = none
def XS (X : Cx) (H : Hp) (cls e : Value) (s : Shared) : Prop := ∃ a pins σ h0, e = .ref a ∧ Inv X pins σ H s ∧ Und h0 H s.heap a cls ∧ (∀ b, h0.get? b = none → X.s₀.heap.get? b = none) ∧ (∀ p ∈ X.pn, ∃ o, h0.get? p.1 = some o) ∧ ∀ b, s.heap.get? b = none → h0.get? b = none
def EX (X : Cx) : XK := fun cls _ H => ∀ e s, XS X H cls e s → X.xe e s
def CXe (P : Program) (w : World) : CXT := fun outer H s E e s' => ∃ a cls H', e = .ref a ∧ s'.os = s.os ∧ AllBare s'.gens ∧ Un (frs outer) [] H H' s.heap s'.heap ∧ HOk P w H' s'.heap ∧ Und s.heap H' s'.heap a cls ∧ E cls none H'
theorem Und.older {h0 h1 h : Heap} {H : Hp} {a : Addr} {cls : Value} (u : Und h1 H h a cls) (k : ∀ b, h1.get? b = none → h0.get? b = none) : Und h0 H h a cls := by
  obtain ⟨⟨oe, vs, a0, e1, e2, e3, e4, e5⟩, f, n⟩ := u
  refine ⟨⟨oe, vs, a0, e1, e2, e3, e4, ?_⟩, f, k a n⟩
  rcases e5 with e5 | ⟨T, oT, ts, q1, q2, q3, q4⟩
  · exact .inl e5
  · exact .inr ⟨T, oT, ts, q1, q2, k T q3, q4⟩
theorem Inv.none_old {X : Cx} {pins : List (Addr × Obj)} {σ : St} {H : Hp} {s : Shared} (I : Inv X pins σ H s) (hx : X.ex = []) {b : Addr} (n : s.heap.get? b = none) : X.s₀.heap.get? b = none := by
  cases q : X.s₀.heap.get? b with
  | none => rfl
  | some o =>
    obtain ⟨o', e⟩ := I.base.there b o q (by rw [hx]; simp)
    rw [n] at e; cases e
theorem passes_EX {X : Cx} (hx : X.ex = []) : Passes (CXe X.prog X.w) X (EX X) := by
  intro pins σ H s e s' I z
  obtain ⟨a, cls, H', rfl, os, bare, un, hok, und, q⟩ := z
  have ce : CE X.stack X.prog X.w H s (fun _ H2 => H2 = H') .none s' := ⟨.non, H', os, bare, un, hok, rfl, rfl⟩
  obtain ⟨v, H2, I2, _, rfl⟩ := I.after ce
  exact q (.ref a) s' ⟨a, pins, σ, s.heap, rfl, I2, und, fun b n => I.none_old hx n, fun p hp => ⟨_, (I.pin p (List.mem_append_left _ hp)).1⟩, fun b n => by
    cases z : s.heap.get? b with
    | none => rfl
    | some o => obtain ⟨o', e⟩ := un.there b o z (by simp); rw [n] at e; cases e⟩
section
variable {P : Program} {w : World} {K : PySem.W.Frag} {mg : Str → Option Value} {base : Heap} {N : List Str} {qual : Str} {scope : Scope} {f : Addr} {cd : Value} {A : Around} {outer : List Env} {s : Shared} {H : Hp} {E : XK}
theorem leave_ok {H' : Hp} {cls e : Value} {s' : Shared} (x : XS (cxOf (CXe P w) P w K mg base N qual scope f cd A outer s H E) H' cls e s') (q : E cls none H') : (cxOf (CXe P w) P w K mg base N qual scope f cd A outer s H E).xe e s' := by
  obtain ⟨a, pins, σ, h00, rfl, I, und0, old, _, _⟩ := x
  have und := und0.older (h0 := s.heap) old
  obtain ⟨⟨oe, vs, a0, he, hcls, hd, h0, h1⟩, fr, nw⟩ := und
  let env := envOfC qual scope s.heap.objs.size f cd
  have hfr : (A.deeper env).frames = some (env :: outer) := I.ok.frames
  have hk : s'.heap.FunFrames base (env :: outer) := I.stack
  have hof : ∀ L ∈ frs (env :: outer), H' L = none ∧ ∃ o, s'.heap.get? L = some o ∧ ∀ ws, o.data ≠ .fields ws := fun L hL => ⟨I.stkFree L hL, (hk.mem hL).2⟩
  have haf : a ∉ frs (env :: outer) := fun m => by
    obtain ⟨_, o, e1, e2⟩ := hof a m
    rw [he] at e1; cases e1
    exact e2 vs hd
  have fin : ∀ (hs : List Addr) (h' : Heap), (∀ b ∈ hs, H' b = none ∧ (b ∈ frs (env :: outer) ∨ s.heap.get? b = none)) → (∀ b ∈ frs (env :: outer), b ∈ hs) → a ∈ hs → (∀ b ∈ hs, b ∈ frs (env :: outer) ∨ b = a ∨ H' b = none) →
      Heap.LeftW (PySem.W.hideAll s'.heap hs) (env :: outer) a cls a0 s'.heap h' → CXe P w outer H s E (.ref a) { s' with heap := h' } := by
    intro hs h' hh hsub hain _ ⟨k1, k2, k3, k4⟩
    have kp : ∀ b o, b ∉ hs → s'.heap.get? b = some o → h'.get? b = some o := fun b o nb e => k1 b o (PySem.W.hideAll_get _ e nb)
    have old : ∀ b o, s.heap.get? b = some o → b ∉ frs outer → b ∉ hs := fun b o e nf m => by
      rcases (hh b m).2 with z | z
      · unfold frs at z
        rw [List.filterMap_cons] at z
        have z' : b ∈ s.heap.objs.size :: frs outer := z
        rcases List.mem_cons.mp z' with z' | z'
        · exact absurd (Heap.lt_size e) (by rw [z']; exact Nat.lt_irrefl _)
        · exact nf z'
      · rw [e] at z; cases z
    have sl : ∀ b o, s'.heap.get? b = some o → b ∈ frs outer → ∃ sl, h'.get? b = some { o with slots := sl } := fun b o e m => by
      obtain ⟨_, o2, e2, nf⟩ := hof b (by unfold frs at m ⊢; rw [List.filterMap_cons]; exact List.mem_cons_of_mem _ m)
      rw [e] at e2; cases e2
      exact k4 b o e nf
    have U : Un (frs outer) [] H H' s.heap s'.heap := I.base
    refine ⟨a, cls, H', rfl, I.os, I.bare, ⟨fun b o e n nf nx => ?_, fun b o e n m nx => ?_, U.free, fun b o e nx => ?_, U.tups, U.frzs, U.tbls⟩, fun b o e => ?_, ⟨?_, fr, nw⟩, q⟩
    · exact kp b o (old b o e nf) (U.keep b o e n nf nx)
    · obtain ⟨s1, e1⟩ := U.slot b o e n m nx
      obtain ⟨s2, e2⟩ := sl b _ e1 m
      exact ⟨s2, e2⟩
    · obtain ⟨o1, e1⟩ := U.there b o e nx
      by_cases m : b ∈ frs outer
      · obtain ⟨s2, e2⟩ := sl b o1 e1 m
        exact ⟨_, e2⟩
      · exact ⟨o1, kp b o1 (old b o e m) e1⟩
    · refine (I.hok b o e).stay (fun c u hc z => kp c u (fun m => ?_) z) (fun _ z => z) fun _ _ z => z
      have n := (hh c m).1
      rcases hc with rfl | hc
      · rw [n] at e; cases e
      · rw [n] at hc; cases hc
    · obtain ⟨oe2, vs2, T, oT, ts, q1, ⟨q2, q3⟩, q4, q5, q6, q7, q8, q9, q10⟩ := k3
      refine ⟨oe2, vs2, a0, q1, q2, q4, q3, .inr ⟨T, oT, ts, q5, q7, ?_, ?_, q8, q9, q10⟩⟩
      · by_cases m : T ∈ hs
        · rcases (hh T m).2 with z | z
          · obtain ⟨o3, e3, n3⟩ := (k2.mem z).2
            rw [q8] at e3; cases e3
            exact absurd q9 (n3 ts)
          · exact z
        · cases z : s.heap.get? T with
          | none => rfl
          | some o =>
            obtain ⟨o1, e1⟩ := U.there T o z (by simp)
            rw [PySem.W.hideAll_get _ e1 m] at q6; cases q6
      · by_cases m : T ∈ hs
        · exact (hh T m).1
        · cases z : H' T with
          | none => rfl
          | some o =>
            obtain ⟨u, e1⟩ : ∃ u, s'.heap.get? T = some u := (I.hok T o z).get
            rw [PySem.W.hideAll_get _ e1 m] at q6; cases q6
  have hin : ∀ e ∈ (env :: outer), ∀ b, e.frame = some b → b ∈ frs (env :: outer) := fun e he b hb => List.mem_filterMap.mpr ⟨e, he, hb⟩
  show wpAny (model P w) (A.deeper env) (leaving env (.ref a)) (fun _ s'' => CXe P w outer H s E (.ref a) s'') _ s'
  rcases h1 with h1 | ⟨T, oT, ts, h1, hTa, hT0, hTn, hT, hdT, h3⟩
  · let hs := a :: frs (env :: outer)
    refine wpAny_leaving_firstW (base := PySem.W.hideAll s'.heap hs) hfr (PySem.W.funFrames_hide hk fun e he b hb => List.mem_cons_of_mem _ (hin e he b hb)) rfl he (fun b o z => PySem.W.of_hideAll _ z) (PySem.W.hideAll_none _ (List.mem_cons_self ..)) hd h1 h0 fun h' hL => ?_
    rw [hcls] at hL
    refine fin hs h' (fun b m => ?_) (fun b m => List.mem_cons_of_mem _ m) (List.mem_cons_self ..) (fun b m => ?_) hL
    · rcases List.mem_cons.mp m with rfl | m
      · exact ⟨fr, .inr nw⟩
      · exact ⟨(hof b m).1, .inl m⟩
    · rcases List.mem_cons.mp m with rfl | m
      · exact .inr (.inl rfl)
      · exact .inl m
  · let hs := a :: T :: frs (env :: outer)
    refine wpAny_leaving_nextW (base := PySem.W.hideAll s'.heap hs) (cls := cls) (a0 := a0) hfr (PySem.W.funFrames_hide hk fun e he b hb => List.mem_cons_of_mem _ (List.mem_cons_of_mem _ (hin e he b hb))) rfl
      ⟨oe, vs, T, oT, ts, he, ⟨hcls, h0⟩, hd, h1, PySem.W.hideAll_none _ (List.mem_cons_of_mem _ (List.mem_cons_self ..)), hTa, hT, hdT, h3⟩ (fun b o z => PySem.W.of_hideAll _ z) (PySem.W.hideAll_none _ (List.mem_cons_self ..)) fun h' hL => ?_
    refine fin hs h' (fun b m => ?_) (fun b m => List.mem_cons_of_mem _ (List.mem_cons_of_mem _ m)) (List.mem_cons_self ..) (fun b m => ?_) hL
    · rcases List.mem_cons.mp m with rfl | m
      · exact ⟨fr, .inr nw⟩
      · rcases List.mem_cons.mp m with rfl | m
        · exact ⟨hTn, .inr hT0⟩
        · exact ⟨(hof b m).1, .inl m⟩
    · rcases List.mem_cons.mp m with rfl | m
      · exact .inr (.inl rfl)
      · rcases List.mem_cons.mp m with rfl | m
        · exact .inr (.inr hTn)
        · exact .inl m
end
end L2
namespace L2
open PySem PySem.Spec PyProof.Rows
inductive Rz (α : Type) where
  | bad | ok (a : α) (A : Ab) | exc (c : Tr) (A : Ab)
def Rz.bind {α β : Type} (r : Rz α) (f : α → Ab → Rz β) : Rz β := match r with
  | .ok a A => f a A
  | .exc c A => .exc c A
  | .bad => .bad
def FzX (xc : Tr → Ab → Prop) {α : Type} (r : Rz α) (k : α → Ab → Prop) : Prop := match r with
  | .ok a A => k a A
  | .exc c A => xc c A
  | .bad => False
section
variable {α β : Type} {r : Rz α} {k k' : α → Ab → Prop} {xc xc' : Tr → Ab → Prop}
theorem FzX.mono (h : FzX xc r k) (w : ∀ a A, k a A → k' a A) : FzX xc r k' := by
  cases r with
  | ok a A => exact w a A h
  | exc c A => exact h
  | bad => exact h
theorem FzX.imp (h : FzX xc r k) (w : ∀ c A, xc c A → xc' c A) : FzX xc' r k := by
  cases r with
  | ok a A => exact h
  | exc c A => exact w c A h
  | bad => exact h
theorem FzX.bind {f : α → Ab → Rz β} {k : β → Ab → Prop} (h : FzX xc (r.bind f) k) : FzX xc r fun a A => FzX xc (f a A) k := by
  cases r with
  | ok a A => exact h
  | exc c A => exact h
  | bad => exact h
end
def liftZ {α : Type} (r : Rs α) (A : Ab) : Rz α := match r with
  | .ok a => .ok a A
  | _ => .bad
theorem lift_fin {X : Cx} {H : Hp} {α : Type} {xc : Tr → Ab → Prop} {r : Rs α} {A : Ab} {k : α → Ab → Prop} (q : FzX xc (liftZ r A) k) : Fi X H r fun a => k a A := by
  cases r with
  | ok a => exact q
  | exc c => exact (show False from q).elim
  | bad => exact q
def clsV (K : PySem.W.Frag) : Tr → Value
  | .str x => .ref (clsAt K x)
  | _ => .none
def XE (X : Cx) (B : Bar) (H : Hp) : Tr → Ab → Prop := fun c A => ∀ B' H', Grows B H B' H' → HA X.K B' A H' → EX X (clsV X.K c) none H'
theorem XE.grow {X : Cx} {B B' : Bar} {H H' : Hp} {c : Tr} {A : Ab} (hb : HB B H) (h : XE X B H c A) (g : Grows B H B' H') : XE X B' H' c A := fun B2 H2 g2 ha => h B2 H2 (g.trans hb g2) ha
def tE (X : Cx) (F : Rho → Ab → Rz Tr) : TE := fun σ H Q => ∃ B A ρ, HA X.K B A H ∧ RepS X.K B H σ ρ ∧ NoOw ρ ∧ FzX (XE X B H) (F ρ A) fun t A' => ∀ v B' H', Grows B H B' H' → HA X.K B' A' H' → Rep X.K (hid B' H') v t → Q v H'
def tEQ (X : Cx) (F : Rho → Ab → Rz Bool) : TT := fun σ H Q => ∃ B A ρ, HA X.K B A H ∧ RepS X.K B H σ ρ ∧ NoOw ρ ∧ FzX (XE X B H) (F ρ A) fun b A' => ∀ B' H', Grows B H B' H' → HA X.K B' A' H' → Q b H'
def tEA (X : Cx) (F : Rho → Ab → Rz (List Tr)) : TA := fun σ H Q => ∃ B A ρ, HA X.K B A H ∧ RepS X.K B H σ ρ ∧ NoOw ρ ∧ FzX (XE X B H) (F ρ A) fun ts A' => ∀ vs B' H', Grows B H B' H' → HA X.K B' A' H' → Reps X.K (hid B' H') vs ts → Q vs H'
def Fsh (H H' : Hp) (p : Addr) : Prop := H p = none ∧ ∀ o u, H' p ≠ some (.frz o u)
theorem Fsh.upd {H H1 : Hp} {p : Addr} {x : HO} (h : H p = none) (hx : ∀ o u, x ≠ .frz o u) : Fsh H (L2.upd H1 p x) p := ⟨h, fun o u z => by rw [upd_same] at z; cases z; exact hx _ _ rfl⟩
def tF (X : Cx) (F : Rho → Rs Tr) : TE := fun σ H Q => ∃ B ρ, HB B H ∧ RepS X.K B H σ ρ ∧ Fi X H (F ρ) fun t => ∀ v H', Same H H' → Rep X.K (hid B H') v t → (∀ p, v = .ref p → Fsh H H' p) → Q v H'
def flZ (r : Rs Tr) (A : Ab) : Rz Tr := match r with
  | .ok t => if tuF t = true then .ok t A else .bad
  | _ => .bad
def newZ (r : Rs Tr) (A : Ab) : Rz Tr := match r with
  | .ok (.lst ts) => if tuFs ts = true then .ok (.at A.length) (A ++ [.lst ts]) else .bad
  | .ok (.dic kts) => if tuFs (kts.map (·.2)) = true then .ok (.at A.length) (A ++ [.dic kts]) else .bad
  | .ok (.dct kts) => if tuFs (kts.map (·.2)) = true then .ok (.at A.length) (A ++ [.dct kts]) else .bad
  | _ => .bad
section
variable {X : Cx} {e : Expr} {es : List Expr} {F : Rho → Rs Tr} {P : Rho → Rs Bool} {L : Rho → Rs (List Tr)} {FZ GZ : Rho → Ab → Rz Tr} {LZ : Rho → Ab → Rz (List Tr)}
theorem e_pure_read {σ : St} {H : Hp} {Q : VK} (q : tE X (fun ρ A => liftZ (F ρ) A) σ H Q) : tP X F σ H Q := by
  obtain ⟨B, A, ρ, ha, r, _, q⟩ := q
  exact ⟨B, ρ, ha.hb, r, (lift_fin q).mono fun t qt v H' s rv => qt v B H' (.of s) (ha.same s) rv⟩
theorem e_pure (h : PE X e (tP X F)) : PE X e (tE X fun ρ A => liftZ (F ρ) A) := h.weak fun σ H Q q => e_pure_read q
theorem eq_pure (h : PT X e (tQ X P)) : PT X e (tEQ X fun ρ A => liftZ (P ρ) A) :=
  h.weak fun σ H Q ⟨B, A, ρ, ha, r, _, q⟩ => ⟨B, ρ, ha.hb, r, (lift_fin q).mono fun t qt H' s => qt B H' (.of s) (ha.same s)⟩
theorem e_thaw (h : PE X e (tP X F)) : PE X e (tE X fun ρ A => flZ (F (thawR A ρ)) A) :=
  h.weak fun σ H Q ⟨B, A, ρ, ha, r, n, q⟩ => ⟨B.un, thawR A ρ, un_hb ha.hb, r.thaw ha n, by
    have q : FzX (XE X B H) (flZ (F (thawR A ρ)) A) _ := q
    cases e : F (thawR A ρ) with
    | bad => rw [e] at q; exact q
    | exc c => rw [e] at q; exact (show False from q).elim
    | ok t =>
      rw [e] at q
      intro v H' s rv
      by_cases f : tuF t = true
      · have q' : FzX _ (if tuF t = true then Rz.ok t A else .bad) _ := q
        rw [if_pos f] at q'
        exact q' v B H' (.of s) (ha.same s) (flat_back (ha.same s) rv f)
      · have q' : FzX _ (if tuF t = true then Rz.ok t A else .bad) _ := q
        rw [if_neg f] at q'
        exact (show False from q').elim⟩
theorem z_if' {c : Prop} [Decidable c] {α : Type} {xc : Tr → Ab → Prop} {r : Rz α} {k : α → Ab → Prop} (h : FzX xc (if c then r else .bad) k) : c ∧ FzX xc r k := by
  by_cases q : c
  · rw [if_pos q] at h; exact ⟨q, h⟩
  · rw [if_neg q] at h; exact (show False from h).elim
theorem e_new_read {σ : St} {H : Hp} {Q : VK} (q : tE X (fun ρ A => newZ (F (thawR A ρ)) A) σ H Q) : tF X F σ H Q := by
    obtain ⟨B, A, ρ, ha, r, n, q⟩ := q
    refine ⟨B.un, thawR A ρ, un_hb ha.hb, r.thaw ha n, ?_⟩
    have q : FzX (XE X B H) (newZ (F (thawR A ρ)) A) _ := q
    cases e : F (thawR A ρ) with
    | bad => rw [e] at q; exact q
    | exc c => rw [e] at q; exact (show False from q).elim
    | ok t =>
      rw [e] at q
      intro v H' s rv fr
      have ha' := ha.same s
      cases rv with
      | @lst p vs ts h rr =>
        have hp := (fr p rfl).1
        obtain ⟨f, q'⟩ := z_if' q
        have h1 : H' p = some (.lst vs) := hid_sub _ _ h
        obtain ⟨g, h2⟩ := ha.push (o := .lst ts) hp s ⟨barN_hd, vs, h1, flats_to ((TupTo.un ha').trans (.new (ha.free hp) h1 (fun _ z => by cases z) fun _ _ z => by cases z)) rr f⟩
        exact q' _ _ H' g h2 (.at barN_ix)
      | @dic p kvs kts h ek rr =>
        have hp := (fr p rfl).1
        obtain ⟨f, q'⟩ := z_if' q
        have h1 : H' p = some (.dK kvs) := by
          rcases h.same hid_sub with h | ⟨o, h⟩
          · exact h
          · exact ((fr p rfl).2 _ _ h).elim
        obtain ⟨g, h2⟩ := ha.push (o := .dic kts) hp s ⟨barN_hd, kvs, h1, ek, flats_to ((TupTo.un ha').trans (.new (ha.free hp) h1 (fun _ z => by cases z) fun _ _ z => by cases z)) rr f⟩
        exact q' _ _ H' g h2 (.at barN_ix)
      | @dct p kvs kts h ek rr =>
        have hp := (fr p rfl).1
        obtain ⟨f, q'⟩ := z_if' q
        have h1 : H' p = some (.dT kvs) := hid_sub _ _ h
        obtain ⟨g, h2⟩ := ha.push (o := .dct kts) hp s ⟨barN_hd, kvs, h1, ek, flats_to ((TupTo.un ha').trans (.new (ha.free hp) h1 (fun _ z => by cases z) fun _ _ z => by cases z)) rr f⟩
        exact q' _ _ H' g h2 (.at barN_ix)
      | _ => exact (show False from q).elim
theorem e_new (h : PE X e (tF X F)) : PE X e (tE X fun ρ A => newZ (F (thawR A ρ)) A) := h.weak fun σ H Q q => e_new_read q
end
end L2
namespace L2
open PySem PySem.Spec PyProof.Rows
def EndsZ (X : Cx) (D : Ends) (B0 : Bar) (H0 : Hp) : Out → Ab → Prop
  | .nx ρ, A => ∀ σ' B' H', Grows B0 H0 B' H' → HA X.K B' A H' → RepS X.K B' H' σ' ρ → NoOw ρ → D.nx σ' H'
  | .ret t, A => ∀ v B' H', Grows B0 H0 B' H' → HA X.K B' A H' → Rep X.K (hid B' H') v t → D.rt v H'
  | .bk ρ, A => ∀ σ' B' H', Grows B0 H0 B' H' → HA X.K B' A H' → RepS X.K B' H' σ' ρ → NoOw ρ → D.bk σ' H'
  | .ct ρ, A => ∀ σ' B' H', Grows B0 H0 B' H' → HA X.K B' A H' → RepS X.K B' H' σ' ρ → NoOw ρ → D.ct σ' H'
def tZ (X : Cx) (G : Rho → Ab → Rz Out) : TS := fun D σ H => ∃ B0 H0 B A ρ, HB B0 H0 ∧ Grows B0 H0 B H ∧ HA X.K B A H ∧ RepS X.K B H σ ρ ∧ NoOw ρ ∧ FzX (XE X B0 H0) (G ρ A) (EndsZ X D B0 H0)
section
variable {X : Cx} {a b c e : Expr} {pos : Pos} {F : Rho → Ab → Rz Tr} {G G' : Rho → Ab → Rz Out} {P : Rho → Ab → Rz Bool} {st : Stmt} {rest sts : List Stmt}
def seqZ (r : Rz Out) (G : Rho → Ab → Rz Out) : Rz Out := r.bind fun o A => match o with
  | .nx ρ => G ρ A
  | .ret t => .ok (.ret t) A
  | .bk ρ => .ok (.bk ρ) A
  | .ct ρ => .ok (.ct ρ) A
theorem z_nil : PSs X [] (tZ X fun ρ A => .ok (.nx ρ) A) := pss_nil.weak fun D σ H ⟨B0, H0, B, A, ρ, hb, g, ha, r, n, q⟩ => q σ B H g ha r n
theorem z_cons (h1 : PS X st (tZ X G)) (h2 : PSs X rest (tZ X G')) : PSs X (st :: rest) (tZ X fun ρ A => seqZ (G ρ A) G') :=
  (pss_cons h1 h2).weak fun D σ H ⟨B0, H0, B, A, ρ, hb, g, ha, r, n, q⟩ => ⟨B0, H0, B, A, ρ, hb, g, ha, r, n, q.bind.mono fun o A1 qo => by
    cases o with
    | nx ρ' => exact fun σ' B' H' g' ha' r' n' => ⟨B0, H0, B', A1, ρ', hb, g', ha', r', n', qo⟩
    | ret t => exact qo
    | bk ρ' => exact qo
    | ct ρ' => exact qo⟩
theorem z_one (h1 : PS X st (tZ X G)) : PSs X [st] (tZ X G) := pss_one h1
theorem tE_in {B0 B : Bar} {H0 H : Hp} {A : Ab} {σ : St} {ρ : Rho} {k : Tr → Ab → Prop} (hb : HB B0 H0) (g : Grows B0 H0 B H) (ha : HA X.K B A H) (r : RepS X.K B H σ ρ) (n : NoOw ρ) (q : FzX (XE X B0 H0) (F ρ A) k) {Q : VK}
    (hq : ∀ t A' v B' H', k t A' → Grows B0 H0 B' H' → HA X.K B' A' H' → RepS X.K B' H' σ ρ → Rep X.K (hid B' H') v t → Grows B H B' H' → Q v H') : tE X F σ H Q :=
  ⟨B, A, ρ, ha, r, n, (q.imp fun c A' x => x.grow hb g).mono fun t A' qp v B' H' g' ha' rv => hq t A' v B' H' qp (g.trans hb g') ha' (r.grow n g') rv g'⟩
theorem tEQ_in {B0 B : Bar} {H0 H : Hp} {A : Ab} {σ : St} {ρ : Rho} {k : Bool → Ab → Prop} (hb : HB B0 H0) (g : Grows B0 H0 B H) (ha : HA X.K B A H) (r : RepS X.K B H σ ρ) (n : NoOw ρ) (q : FzX (XE X B0 H0) (P ρ A) k) {Q : Bool → Hp → Prop}
    (hq : ∀ t A' B' H', k t A' → Grows B0 H0 B' H' → HA X.K B' A' H' → RepS X.K B' H' σ ρ → Q t H') : tEQ X P σ H Q :=
  ⟨B, A, ρ, ha, r, n, (q.imp fun c A' x => x.grow hb g).mono fun t A' qp B' H' g' ha' => hq t A' B' H' qp (g.trans hb g') ha' (r.grow n g')⟩
def setZ (i : Nat) (r : Rz Tr) (ρ : Rho) : Rz Out := r.bind fun t A => .ok (.nx (ρ.set i (.sh t))) A
theorem z_set {i : Nat} {x : Str} {pos' : Pos} (he : PE X e (tE X F)) (hN : X.N.Nodup := by assumption) (hi : X.N[i]? = some x := by rfl) (hx : Loc X.env.scope x := by first | exact Or.inl rfl | exact Or.inr rfl) (hs : isComp e = false := by rfl) (hf : X.fn x = true ∨ X.env.scope.names.lookup x = some .local := by first | exact .inl rfl | exact .inr rfl | assumption) :
    PS X (.Assign [.Name x pos'] e pos) (tZ X fun ρ A => setZ i (F ρ A) ρ) :=
  (ps_set hN hi hx he (swaps_no hs) hf).weak fun D σ H ⟨B0, H0, B, A, ρ, hb, g, ha, r, n, q⟩ => tE_in hb g ha r n q.bind fun t A' v B' H' qt g' ha' r' rv _ => qt _ B' H' g' ha' (r'.set i rv) (n.set i t)
def retZ (r : Rz Tr) : Rz Out := r.bind fun t A => .ok (.ret t) A
theorem z_ret (he : PE X e (tE X F)) : PS X (.Return (some e) pos) (tZ X fun ρ A => retZ (F ρ A)) :=
  (ps_ret he).weak fun D σ H ⟨B0, H0, B, A, ρ, hb, g, ha, r, n, q⟩ => tE_in hb g ha r n q.bind fun t A' v B' H' qt g' ha' r' rv _ => qt v B' H' g' ha' rv
def dropZ (r : Rz Tr) (ρ : Rho) : Rz Out := r.bind fun _ A => .ok (.nx ρ) A
theorem z_expr (he : PE X e (tE X F)) (hs : isComp e = false := by rfl) : PS X (.Expr e pos) (tZ X fun ρ A => dropZ (F ρ A) ρ) :=
  (ps_expr he (swaps_no hs)).weak fun D σ H ⟨B0, H0, B, A, ρ, hb, g, ha, r, n, q⟩ => tE_in hb g ha r n q.bind fun t A' v B' H' qt g' ha' r' rv _ => qt _ B' H' g' ha' r' n
def ifZ (c : Rz Bool) (a b : Ab → Rz Out) : Rz Out := c.bind fun k A => if k then a A else b A
theorem z_if {ys ns : List Stmt} (hc : PT X c (tEQ X P)) (h1 : PSs X ys (tZ X G)) (h2 : PSs X ns (tZ X G')) : PS X (.If c ys ns pos) (tZ X fun ρ A => ifZ (P ρ A) (G ρ) (G' ρ)) :=
  (ps_if hc h1 h2).weak fun D σ H ⟨B0, H0, B, A, ρ, hb, g, ha, r, n, q⟩ => tEQ_in hb g ha r n q.bind fun k A' B' H' qk g' ha' r' => by
    cases k with
    | true => exact iteT ⟨B0, H0, B', A', ρ, hb, g', ha', r', n, qk⟩
    | false => exact iteF ⟨B0, H0, B', A', ρ, hb, g', ha', r', n, qk⟩
def forZ (T : Tgt) (G : Rho → Ab → Rz Out) : List Tr → Rho → Ab → Rz Out
  | [], ρ, A => .ok (.nx ρ) A
  | t :: ts, ρ, A => (liftZ (T t ρ) A).bind fun ρ1 A => (G ρ1 A).bind fun o A => match o with
    | .nx ρ2 => forZ T G ts ρ2 A
    | .ct ρ2 => forZ T G ts ρ2 A
    | .bk ρ2 => .ok (.nx ρ2) A
    | .ret t => .ok (.ret t) A
def whileZ (P : Rho → Ab → Rz Bool) (G : Rho → Ab → Rz Out) : Nat → Rho → Ab → Rz Out
  | 0, _, _ => .bad
  | m + 1, ρ, A => (P ρ A).bind fun k A => if k then (G ρ A).bind fun o A => match o with
      | .nx ρ2 => whileZ P G m ρ2 A
      | .ct ρ2 => whileZ P G m ρ2 A
      | .bk ρ2 => .ok (.nx ρ2) A
      | .ret t => .ok (.ret t) A
    else .ok (.nx ρ) A
theorem z_while (m : Nat) {body : List Stmt} (hc : PT X c (tEQ X P)) (hb : PSs X body (tZ X G)) (hp : PassesOwn (model X.prog X.w) X.A X.env X.xe := by first | exact PassesOwn.never | exact PassesOwn.leaving) : PS X (.While c body [] pos) (tZ X fun ρ A => whileZ P G m ρ A) :=
  (ps_while hp hc hb).weak fun D σ H ⟨B0, H0, B, A, ρ, hb0, g, ha, r, n, q⟩ => by
    refine ⟨fun k σ' H' => ∃ B' A' ρ', Grows B0 H0 B' H' ∧ HA X.K B' A' H' ∧ RepS X.K B' H' σ' ρ' ∧ NoOw ρ' ∧ FzX (XE X B0 H0) (whileZ P G k ρ' A') (EndsZ X D B0 H0), ⟨m, B, A, ρ, g, ha, r, n, q⟩, ?_⟩
    rintro k σ1 H1 ⟨B1, A1, ρ1, g1, ha1, r1, n1, q1⟩
    cases k with
    | zero => exact (show False from q1).elim
    | succ k =>
      refine tEQ_in hb0 g1 ha1 r1 n1 (FzX.bind q1) fun t A2 B2 H2 q2 g2 ha2 r2 => ?_
      cases t with
      | false =>
        rw [if_neg Bool.false_ne_true] at q2 ⊢
        exact q2 σ1 B2 H2 g2 ha2 r2 n1
      | true =>
        rw [if_pos rfl] at q2 ⊢
        refine ⟨fun σ' H' => ∃ B' A' ρ', Grows B0 H0 B' H' ∧ HA X.K B' A' H' ∧ RepS X.K B' H' σ' ρ' ∧ NoOw ρ' ∧ FzX (XE X B0 H0) (whileZ P G k ρ' A') (EndsZ X D B0 H0), fun σ' H' h => ⟨k, Nat.lt_succ_self k, h⟩, ?_⟩
        refine ⟨B0, H0, B2, A2, ρ1, hb0, g2, ha2, r2, n1, (FzX.bind q2).mono fun o A4 qo => ?_⟩
        cases o with
        | nx ρ2 => exact fun σ4 B4 H4 g4 ha4 r4 n4 => ⟨B4, A4, ρ2, g4, ha4, r4, n4, qo⟩
        | ct ρ2 => exact fun σ4 B4 H4 g4 ha4 r4 n4 => ⟨B4, A4, ρ2, g4, ha4, r4, n4, qo⟩
        | bk ρ2 => exact qo
        | ret t => exact qo
end
section
variable {X : Cx} {a e o : Expr} {es : List Expr} {F : Rho → Ab → Rz Tr} {L : Rho → Ab → Rz (List Tr)} {name : Str} {apos cpos : Pos} {id : String}
def consZ (r : Rz Tr) (l : Ab → Rz (List Tr)) : Rz (List Tr) := r.bind fun x A => (l A).bind fun xs A => .ok (x :: xs) A
theorem ea_nil : PA X [] (tEA X fun _ A => .ok [] A) := pa_nil.weak fun σ H Q ⟨B, A, ρ, ha, r, n, q⟩ => q [] B H .refl ha .nil
theorem ea_cons (h1 : PE X a (tE X F)) (hr : PA X es (tEA X L)) (hs : isStar a = false := by rfl) : PA X (a :: es) (tEA X fun ρ A => consZ (F ρ A) (L ρ)) :=
  (pa_cons h1 hr (star_cons _ _ hs)).weak fun σ H Q ⟨B, A, ρ, ha, r, n, q⟩ => ⟨B, A, ρ, ha, r, n, q.bind.mono fun x A1 qx v B1 H1 g1 ha1 r1 => ⟨B1, A1, ρ, ha1, r.grow n g1, n, ((FzX.bind qx).imp fun c A' x => x.grow ha.hb g1).mono fun xs A2 qs vs B2 H2 g2 ha2 r2 => qs _ B2 H2 (g1.trans ha.hb g2) ha2 (.cons (r1.same g2.vis) r2)⟩⟩
def WrZ (X : Cx) (r : V → List V → Hp → VK → Prop) (h : Nat → List Tr → Ab → Rz Tr) : Prop :=
  ∀ (B : Bar) (A : Ab) (H : Hp) (a : Addr) (i : Nat) (xs : List V) (ts : List Tr) (Q : VK), HA X.K B A H → B.ix a = some i → Reps X.K (hid B H) xs ts →
    FzX (XE X B H) (h i ts A) (fun t A' => ∀ v B' H', Grows B H B' H' → HA X.K B' A' H' → Rep X.K (hid B' H') v t → Q v H') → r (.ref a) xs H Q
def isL (A : Ab) (i : Nat) : Bool := match A[i]? with
  | some (.lst _) => true
  | _ => false
theorem isL_at {K : PySem.W.Frag} {B : Bar} {A : Ab} {H : Hp} {a : Addr} {i : Nat} (ha : HA K B A H) (e : B.ix a = some i) (h : isL A i = true) : ∃ xs, H a = some (.lst xs) := by
  obtain ⟨o, eo, ao⟩ := ha.ex e
  unfold isL at h
  rw [eo] at h
  cases o with
  | lst ts => obtain ⟨_, vs, h1, _⟩ := ao; exact ⟨vs, h1⟩
  | dic _ => cases h
  | dct _ => cases h
  | exo _ => cases h
  | ins _ _ => cases h
def mtL (h : Nat → List Tr → Ab → Rz Tr) (r : Rz Tr) (l : Ab → Rz (List Tr)) : Rz Tr := r.bind fun t A => match t with
  | .at i => if isL A i = true then (l A).bind fun ts A => h i ts A else .bad
  | _ => .bad
variable {r : V → List V → Hp → VK → Prop} {h : Nat → List Tr → Ab → Rz Tr}
theorem e_mtL (slot : Slot "list" name id) (hty : typeOf (.builtin id) = pure (.type "method_descriptor")) (hm : MtM X id r) (hz : WrZ X r h) (ho : PE X o (tE X F)) (ha : PA X (e :: es) (tEA X L)) (pa : PlainAttrs "list" := by exact PySem.F.plainAttrs_list)
    (hbase : isCall o = false := by rfl) (hst : noStars (e :: es) = true := by rfl) (hn : (e :: es).length < 30 := by decide) (hline : (apos.endLine == cpos.line) = true := by rfl) :
    PE X (.Call (.Attribute o name apos) (e :: es) [] cpos) (tE X fun ρ A => mtL h (F ρ A) (L ρ)) :=
  (pe_bm pa slot hty hm ho ha (base_no hbase) (by rw [star_all hst, decide_eq_true (show (e :: es).length + ([] : List Keyword).length + (if ([] : List Keyword).isEmpty then 0 else 1) < 30 from hn)]; rfl) hline (star_cons _ _ (stars_head hst).1) (star_none (stars_head hst).2)).weak fun σ H Q ⟨B, A, ρ, ha, r, n, q⟩ => ⟨B, A, ρ, ha, r, n, q.bind.mono fun t A1 qt v B1 H1 g1 ha1 rv => by
    cases rv with
    | @«at» a i hix =>
      obtain ⟨hl, q2⟩ := z_if' qt
      obtain ⟨xs, hxs⟩ := isL_at ha1 hix hl
      exact ⟨.inl ⟨rfl, xs, SqL.of hxs⟩, B1, A1, ρ, ha1, r.grow n g1, n, ((FzX.bind q2).imp fun c A' x => x.grow ha.hb g1).mono fun ts A2 qs vs B2 H2 g2 ha2 rs => hz B2 A2 H2 a i vs ts Q ha2 (g2.vis.x _ _ hix) rs ((qs.imp fun c A' x => x.grow ha.hb (g1.trans ha.hb g2)).mono fun t A3 qt v B3 H3 g3 ha3 r3 => qt v B3 H3 ((g1.trans ha.hb g2).trans ha.hb g3) ha3 r3)⟩
    | _ => exact (show False from qt).elim⟩
def appZ (i : Nat) : List Tr → Ab → Rz Tr
  | [t], A => match A[i]? with
    | some (.lst ts) => if ts.length < szT then .ok .non (A.set i (.lst (ts ++ [t]))) else .bad
    | _ => .bad
  | _, _ => .bad
theorem wz_app : WrZ X rAppend appZ := by
  intro B A H a i xs ts Q ha hix rs q
  match ts, rs, q with
  | [], _, q => exact (show False from q).elim
  | _ :: _ :: _, _, q => exact (show False from q).elim
  | [t], .cons (v := y) r1 .nil, q =>
    obtain ⟨o, eo, ao⟩ := ha.ex hix
    simp only [appZ, eo] at q
    cases o with
    | lst us =>
      obtain ⟨hz, q⟩ := z_if' q
      obtain ⟨hd, vs, h1, h2⟩ := ao
      obtain ⟨g, h3⟩ := ha.write (o := .lst (us ++ [t])) (u := .lst (vs ++ [y])) hix ⟨hd, _, upd_same, by rw [hid_upd hd]; exact h2.append (.cons r1 .nil)⟩
      exact ⟨a, vs, y, rfl, rfl, h1, by rw [h2.length, ← szT_eq]; exact hz, q .non B _ g h3 .non⟩
    | dic _ => exact (show False from q).elim
    | dct _ => exact (show False from q).elim
    | exo _ => exact (show False from q).elim
    | ins _ _ => exact (show False from q).elim
end
def bodyZ (r : Rz Out) : Rs Tr := match r with
  | .ok (.nx _) _ => .ok .non
  | .ok (.ret t) A => if noAt (thawT 3 A t) = true then .ok (thawT 3 A t) else .bad
  | _ => .bad
theorem noOw_start {n : Nat} {ts : List Tr} : NoOw (startT n ts) := fun i us e => by
  rcases startT_at e with q | ⟨u, _, q⟩ <;> cases q
theorem Fun.okZ {P : Program} {w : World} {K : PySem.W.Frag} {mg : Str → Option Value} {base : Heap} {x qual : Str} {st : Stmt} {f : Addr} {fd : FuncData} {N ps : List Str} {k : Nat} {h : List Tr → Rs Tr} (Fn : Fun K x qual st f fd) (S : FnScope N ps (defScope st)) (len : ∀ ts t, h ts = .ok t → ts.length = ps.length)
    (hbody : ∀ (cdv : Value) (A : Around) (outer : List Env) (s : Shared) (H : Hp) (E : XK), Room k (A.deeper (envOfC qual (defScope st) s.heap.objs.size f cdv)) →
      ∃ G, PSs (cxOf CX0 P w K mg base N qual (defScope st) f cdv A outer s H E).nox (defBody st) (tZ (cxOf CX0 P w K mg base N qual (defScope st) f cdv A outer s H E).nox G) ∧ ∀ ts t, h ts = .ok t → noAts ts = true ∧ bodyZ (G (startT N.length ts) []) = .ok t) : FnOk P w K mg base CX0 (k + 1) f fd ps (spT K h) := by
  refine Fn.ok S (fun vs H Q E q => ?_) (fun cdv A outer s H vs Q E hr q => ?_)
  · obtain ⟨B, ts, hb, r, t, e, _⟩ := q
    rw [r.length]; exact len ts t e
  · obtain ⟨B, ts, hb, r, t, e, q⟩ := q
    obtain ⟨G, hG, hE⟩ := hbody cdv A outer s H E hr
    obtain ⟨na, e1⟩ := hE ts t e
    let B0 : Bar := ⟨B.hd, fun _ => none⟩
    have hb0 : HB B0 H := hb
    have ha0 : HA K B0 [] H := ⟨hb0, fun i o z => by simp at z, (fun a b i z => by cases (show (none : Option Nat) = some i from z)), (fun a i z => by cases (show (none : Option Nat) = some i from z))⟩
    have r0 : Reps K (hid B0 H) vs ts := Reps.noat (W := hid B H) (W' := hid B0 H) (fun _ _ e => e) r na
    have sm : ∀ {B' : Bar} {H' : Hp}, Grows B0 H B' H' → Same H H' := fun g b o z => g.kp b o rfl z
    refine ⟨_, hG, B0, H, B0, [], startT N.length ts, hb0, .refl, ha0, RepS.start r0, noOw_start, ?_⟩
    cases eo : G (startT N.length ts) [] with
    | ok o A1 =>
      rw [eo] at e1
      cases o with
      | nx ρ => cases e1; exact fun σ' B' H' g ha r' n' => q .non H' (sm g) .non
      | ret u =>
        have e2 : (if noAt (thawT 3 A1 u) = true then Rs.ok (thawT 3 A1 u) else .bad) = .ok t := e1
        by_cases z : noAt (thawT 3 A1 u) = true
        · rw [if_pos z] at e2
          cases e2
          intro v B' H' g ha r'
          refine q v H' (sm g) (Rep.noat (fun b o z => ?_) (thaw_rep ha 3 r') z)
          have z1 := hid_sub b o z
          cases hB : B.hd b with
          | false => rw [hid_at hB]; exact z1
          | true =>
            have h2 : B'.hd b = true := g.hd b rfl hB
            have h3 : B'.ix b = none := by
              cases h4 : B'.ix b with
              | none => rfl
              | some i => have h5 := g.nw b i h4 rfl; obtain ⟨o2, h6⟩ := hb b hB; rw [h5] at h6; cases h6
            have z2 : (if B'.un.hd b = true then none else H' b) = some o := z
            rw [show B'.un.hd b = (B'.hd b && (B'.ix b).isNone) from rfl, h2, h3] at z2
            cases z2
        · rw [if_neg z] at e2; cases e2
      | bk ρ => cases e1
      | ct ρ => cases e1
    | exc c A1 => rw [eo] at e1; cases e1
    | bad => rw [eo] at e1; cases e1
def mirZ (n m : Nat) (G : Rho → Ab → Rz Out) (ts : List Tr) : Rs Tr := if ts.length = n ∧ noAts ts = true then bodyZ (G (startT m ts) []) else .bad
theorem mirZ_len {n m : Nat} {G : Rho → Ab → Rz Out} {ts : List Tr} {t : Tr} (h : mirZ n m G ts = .ok t) : ts.length = n := by
  unfold mirZ at h
  split at h
  · rename_i z; exact z.1
  · cases h
theorem mirZ_ok {n m : Nat} {G : Rho → Ab → Rz Out} {ts : List Tr} {t : Tr} (h : mirZ n m G ts = .ok t) : noAts ts = true ∧ bodyZ (G (startT m ts) []) = .ok t := by
  unfold mirZ at h
  split at h
  · rename_i z; exact ⟨z.2, h⟩
  · cases h
end L2
namespace L2
open PySem PySem.Spec PyProof.Rows
section
variable {X : Cx} {a b e : Expr} {es : List Expr} {pos : Pos} {F G : Rho → Rs Tr} {L : Rho → Rs (List Tr)} {A : Rho → Rs Bool}
theorem n_lst (h : PA X es (tPA X L)) : PE X (.List es pos) (tF X fun ρ => lstR (L ρ)) :=
  (pe_lst h).weak fun σ H Q ⟨B, ρ, hb, r, q⟩ => ⟨B, ρ, hb, r, q.bind.mono fun ts qt vs H1 s1 r1 => by
    by_cases hz : ts.length ≤ szT
    · rw [if_pos hz] at qt
      refine ⟨by rw [r1.length, ← szT_eq]; exact hz, fun p hp => qt (.ref p) _ (s1.upd' (s1.free hp)) (.lst ((hb.same s1).new hp) (r1.same (hid_same (Same.upd hp)))) fun p' e => by cases e; exact .upd (s1.free hp) (fun _ _ z => by cases z)⟩
    · rw [if_neg hz] at qt; exact qt.elim⟩
variable {scope : Scope} {N' : List Str} {ix : List (Option Nat)} {elt iter tg : Expr} {ifs : List Expr} {T : Tgt} {W : Rho → Rs (List Tr)}
end
end L2
namespace L2
open PySem PySem.Spec PyProof.Rows
section
variable {prog : Program} {w : World} {A : Around} {E : Value → Shared → Prop} {s : Shared} {I a : Addr} {o : Obj} {es : Array (Int × Value)} {ep : Nat} {t : SetTable}
theorem stop_any {α : Type} {R : α → Shared → Prop} (hh : A.handled = none)
    (h : ∀ h' (x : Addr), Shared.TypeIs { s with heap := h' } (.ref x) "StopIteration" → (∀ b o, s.heap.get? b = some o → h'.get? b = some o) → E (.ref x) { s with heap := h' }) :
    wpAny (model prog w) A.in1 (newExc (.type "StopIteration") []) (fun x s' => wpAny (model prog w) A.in1 (raiseNew x : Sem α) R E s') E s := by
  simp only [newExc, newTuple]
  refine wpAny_bind (wpAny_newObj_type ?_ (by size_fits))
  refine wpAny_bind (m := firstArgMember _ _) (wpAny_of_eq (a := Value.none) (by first | rfl | (simp only [firstArgMember]; rfl)) ?_)
  refine wpAny_newObj_type ?_ (by size_fits)
  simp only [raiseNew]
  refine wpAny_bind (wpAny_handled ?_)
  first | rw [show A.in1.handled = none from hh] | rw [hh]
  refine wpAny_bind (wpAny_pure (wpAny_throw ?_))
  exact h _ _ ⟨_, Heap.get?_push_size _ rfl, rfl⟩ fun b o e => Heap.get?_push_of_some _ (Heap.get?_push_of_some _ e)
end
end L2
namespace L2
open PySem PySem.Spec PyProof.Rows
section
variable {prog : Program} {w : World} {A : Around} {E : Value → Shared → Prop} {s : Shared}
theorem nextT_item {it t : Addr} {i : Nat} {items : Array Value} {x : Value} {Q : Value → Shared → Prop} (hit : s.heap.IsTupleIter it t i) (ht : s.heap.IsTuple t items) (hx : items[i]? = some x)
    (hQ : ∀ h', h'.IsTupleIter it t (i + 1) → Heap.SameBut it s.heap h' → Q x { s with heap := h' }) : wpAny (model prog w) A (Builtin.SmallTypes.nextOf (.ref it)) Q E s := by
  have key : wpAny (model prog w) A (pyNext (.ref it)) (fun r s' => ∃ v, r = some v ∧ Q v s') (fun _ _ => False) s := wpAny_pyNext_tuple_item hit ht hx fun h' a b => ⟨x, rfl, hQ h' a b⟩
  obtain ⟨o, ho, hc, hd⟩ := id hit
  obtain ⟨ol, hol, _, nl, hdl⟩ := ht
  unfold Builtin.SmallTypes.nextOf
  refine wpAny_bind (wpAny_callSpecial?_slot (name := Str.ofString "__next__") hit.typeIs F.slot_tuple_iterator_next (wpAny_call_entry F.slot_tuple_iterator_next hit.typeIs F.entry_tuple_iterator_next ?_ (F.args_tuple_iterator_next_1 _)))
  show wpAny _ _ (field (.ref it) 0 >>= _) _ _ s
  refine wpAny_bind (wpAny_field ho hd (x := .ref t) rfl ?_)
  show wpAny _ _ (if (Value.ref t == Value.none) = true then _ else _) _ _ s
  rw [if_neg (show ¬ ((Value.ref t == Value.none) = true) from Bool.false_ne_true)]
  show wpAny _ _ (field (.ref it) 1 >>= _) _ _ s
  refine wpAny_bind (wpAny_field ho hd (x := .int i 0) rfl ?_)
  show wpAny _ _ (seqItems? (.ref t) >>= _) _ _ s
  refine wpAny_bind (wpAny_seqItems hol hdl ?_)
  simp only [Int.toNat_natCast, hx]
  refine wpAny_bind (wpAny_setField ho hd (by simp) (wpAny_pure ⟨x, rfl, wpAny_pure (hQ _ ?_ (Heap.SameBut.update ..))⟩))
  exact ⟨_, Heap.get?_update_self _ ho (Obj.isFreed_of_fields (Obj.data_mapFields hd _)), (Obj.cls_mapFields ..).trans hc, by rw [Obj.data_mapFields hd]; simp [rawInt]⟩
theorem nextT_end {it t : Addr} {i : Nat} {items : Array Value} {Q : Value → Shared → Prop} (hh : A.handled = none) (hit : s.heap.IsTupleIter it t i) (ht : s.heap.IsTuple t items) (hx : items[i]? = none)
    (hE : ∀ h' (e : Addr), Heap.ExtBut it s.heap h' → Shared.TypeIs { s with heap := h' } (.ref e) "StopIteration" → E (.ref e) { s with heap := h' }) : wpAny (model prog w) A (Builtin.SmallTypes.nextOf (.ref it)) Q E s := by
  obtain ⟨o, ho, hc, hd⟩ := id hit
  obtain ⟨ol, hol, _, nl, hdl⟩ := ht
  unfold Builtin.SmallTypes.nextOf
  refine wpAny_bind (wpAny_callSpecial?_slot (name := Str.ofString "__next__") hit.typeIs F.slot_tuple_iterator_next (wpAny_call_entry F.slot_tuple_iterator_next hit.typeIs F.entry_tuple_iterator_next ?_ (F.args_tuple_iterator_next_1 _)))
  show wpAny _ _ (field (.ref it) 0 >>= _) _ _ s
  refine wpAny_bind (wpAny_field ho hd (x := .ref t) rfl ?_)
  show wpAny _ _ (if (Value.ref t == Value.none) = true then _ else _) _ _ s
  rw [if_neg (show ¬ ((Value.ref t == Value.none) = true) from Bool.false_ne_true)]
  show wpAny _ _ (field (.ref it) 1 >>= _) _ _ s
  refine wpAny_bind (wpAny_field ho hd (x := .int i 0) rfl ?_)
  show wpAny _ _ (seqItems? (.ref t) >>= _) _ _ s
  refine wpAny_bind (wpAny_seqItems hol hdl ?_)
  simp only [Int.toNat_natCast, hx]
  refine wpAny_bind (wpAny_rule (wpAny_bind (wpAny_setField ho hd (by simp) ?_)))
  show wpAny _ _ (newExc (.type "StopIteration") [] >>= _) _ _ _
  refine wpAny_bind (stop_any hh fun h' x hx' hk => ?_)
  exact hE h' x (fun b o hb e => hk b o ((Heap.SameBut.update ..).extBut b o hb e)) hx'
end
end L2
namespace L2
open PySem PySem.Spec PyProof.Rows
section
variable {X : Cx} {pins : List (Addr × Obj)} {σ : St} {H : Hp} {s : Shared} {h' : Heap}
theorem Inv.turnedNew {ch : List Addr} {T : Addr} {o : HO} {t' : Nat} (I : Inv X pins σ H s) (hch : ∀ b ∈ ch, FpOk X pins H b) (k : ∀ b o, b ∉ ch → s.heap.get? b = some o → h'.get? b = some o) (hT : s.heap.objs.size ≤ T)
    (new : ObjOk X.prog X.w (upd H T o) h' T o) : Inv X pins σ (upd H T o) { s with heap := h', toks := t' } := by
  have hTn : H T = none := I.hok.fresh hT
  have nch : ∀ b u, H b = some u → b ∉ ch := fun b u e m => by rw [(hch b m).1] at e; cases e
  refine I.step (g' := s.gens) (d' := s.drawn) (ch := ch) (fun b hb => ?_) (fun b o _ _ hc e _ => k b o hc e) (fun b o _ _ hc e _ => ⟨o.slots, k b o hc e⟩) (fun b o _ e n => ?_) (fun b o hc e => ⟨o, k b o hc e⟩) (fun b xs e => ?_) (fun b o u e => ?_) (fun b ps e => ⟨#[], ?_⟩) (fun m hm => ?_) (fun b u e => ?_) I.bare
  · obtain ⟨_, x1, _, x3, x4, x5⟩ := hch b hb
    exact ⟨x3, x1, x4, x5⟩
  · rw [upd_ne (Nat.ne_of_lt (Nat.lt_of_lt_of_le (Heap.lt_size e) hT))]; exact n
  · rw [upd_ne (ne_of_none e hTn)]; exact e
  · rw [upd_ne (ne_of_none e hTn)]; exact e
  · rw [upd_ne (ne_of_none e hTn), e]; simp
  · exact hm.at' fun o e => k _ o (fun z => (hch _ z).2.1 rfl) e
  · by_cases hb : b = T
    · subst hb
      rw [upd_same] at e
      cases e
      exact new
    · rw [upd_ne hb] at e
      refine (I.hok b u e).stay (fun c v hc q => k c v ?_ q) (fun c q => by rw [upd_ne (ne_of_none q hTn)]; exact q) fun c xs q => by rw [upd_ne (ne_of_none q hTn)]; exact q
      rcases hc with rfl | hc
      · exact nch c u e
      · exact nch c _ hc
theorem Inv.turnedAll {ch : List Addr} {t' : Nat} (I : Inv X pins σ H s) (hch : ∀ b ∈ ch, FpOk X pins H b) (k : ∀ b o, b ∉ ch → s.heap.get? b = some o → h'.get? b = some o) : Inv X pins σ H { s with heap := h', toks := t' } := by
  have nch : ∀ b u, H b = some u → b ∉ ch := fun b u e m => by rw [(hch b m).1] at e; cases e
  refine I.step (g' := s.gens) (d' := s.drawn) (ch := ch) (fun b hb => ?_) (fun b o _ _ hc e _ => k b o hc e) (fun b o _ _ hc e _ => ⟨o.slots, k b o hc e⟩) (fun b o _ e n => n) (fun b o hc e => ⟨o, k b o hc e⟩) (fun b xs e => e) (fun b o u e => e) (fun b ps e => ⟨#[], by rw [e]; simp⟩) (fun m hm => ?_) (fun b u e => ?_) I.bare
  · obtain ⟨_, x1, _, x3, x4, x5⟩ := hch b hb
    exact ⟨x3, x1, x4, x5⟩
  · exact hm.at' fun o e => k _ o (fun z => (hch _ z).2.1 rfl) e
  · refine (I.hok b u e).stay (fun c v hc q => k c v ?_ q) (fun c q => q) fun c xs q => q
    rcases hc with rfl | hc
    · exact nch c u e
    · exact nch c _ hc
end
end L2
namespace PySem
open AutoSeq1 (wpAny_loadPart')
theorem meets_enumT (l : Addr) (items : Array Value) (n : Nat) (dct : Option Addr) (sl : Array (Option Value)) :
    Meets (Builtin.«enumerate.__new__» ⟨[.type "enumerate", .ref l], []⟩) (fun _ R s => s.heap.get? l = some { cls := .type "tuple", dict := dct, data := .seq items n, slots := sl } ∧
      R (.ok (.ret (.ref (s.heap.push { cls := .type "tuple_iterator", data := .fields #[.ref l, .int 0 0] }).objs.size)))
        { s with heap := (s.heap.push { cls := .type "tuple_iterator", data := .fields #[.ref l, .int 0 0] }).push { cls := .type "enumerate", data := .fields #[.none, .bool false, .ref s.heap.objs.size, rawInt 0, .none, .none] } }) :=
  .of_wp fun prog w A R s h => by
    obtain ⟨hp, g, d, tk, os⟩ := s
    obtain ⟨hl, h⟩ := h
    have hsub := sub_enumerate
    have hL : Heap.IsTuple (Shared.heap ⟨hp, g, d, tk, os⟩) l items := ⟨_, hl, rfl, n, rfl⟩
    wp_walk using wpAny_loadPart' hl
    refine wpAny_stack_any fun st => wpAny_pure ?_
    split
    · rename_i c _ _ _ _ _
      cases (c == Value.type "enumerate") <;> (wp_walk using wpAny_loadPart' hl, wpAny_pyIter_tuple hL; exact ⟨_, rfl, h⟩)
    · wp_walk using wpAny_loadPart' hl, wpAny_pyIter_tuple hL
      exact ⟨_, rfl, h⟩
section
variable {prog : Program} {w : World} {A : Around} {E : Value → Shared → Prop} {s : Shared}
theorem call_enumT {l : Addr} {items : Array Value} {Q : Value → Shared → Prop} (hL : s.heap.IsTuple l items)
    (h : ∀ h', IsEnum h' (s.heap.objs.size + 1) s.heap.objs.size 0 .none → h'.IsTupleIter s.heap.objs.size l 0 → (∀ b o, s.heap.get? b = some o → h'.get? b = some o) → Q (.ref (s.heap.objs.size + 1)) { s with heap := h' }) :
    wpAny (model prog w) A (call (.type "enumerate") [.ref l]) Q E s := by
  obtain ⟨⟨c, dct, dt, sl⟩, hl, hc, n, hd⟩ := hL
  have hc' : c = .type "tuple" := hc
  have hd' : dt = .seq items n := hd
  subst hc' hd'
  refine callType_new F.called_enumerate (by decide) (F.typeCall_enumerate_1 _) (F.newCall_enumerate_1 _) (fun obj => F.args_object_init_2 obj _) F.entry_enumerate_new (meets_enumT l items n dct sl) ⟨hl, ?_⟩
  have hz : (s.heap.push { cls := .type "tuple_iterator", data := .fields #[.ref l, .int 0 0] }).objs.size = s.heap.objs.size + 1 := Heap.size_push ..
  show _ ∧ _
  rw [hz]
  have he : IsEnum ((s.heap.push { cls := .type "tuple_iterator", data := .fields #[.ref l, .int 0 0] }).push { cls := .type "enumerate", data := .fields #[.none, .bool false, .ref s.heap.objs.size, rawInt 0, .none, .none] }) (s.heap.objs.size + 1) s.heap.objs.size 0 .none := by
    have q := Heap.get?_push_size (s.heap.push { cls := .type "tuple_iterator", data := .fields #[.ref l, .int 0 0] }) (o := { cls := .type "enumerate", data := .fields #[.none, .bool false, .ref s.heap.objs.size, rawInt 0, .none, .none] }) rfl
    rw [hz] at q
    exact q
  exact ⟨⟨_, he, rfl⟩, h _ he ⟨_, Heap.get?_push_of_some _ (Heap.get?_push_size _ rfl), rfl, rfl⟩ fun b o x => Heap.get?_push_of_some _ (Heap.get?_push_of_some _ x)⟩
theorem enumT_item {e it l : Addr} {i : Nat} {items : Array Value} {x old : Value} {Q : Option Value → Shared → Prop} (he : IsEnum s.heap e it i old) (hit : s.heap.IsTupleIter it l i) (hl : s.heap.IsTuple l items) (hx : items[i]? = some x) (hne : e ≠ it)
    (hQ : ∀ h', IsEnumOut h' e it ((i : Int) + 1) x s.heap.objs.size → h'.IsTupleIter it l (i + 1) → IsPair h' s.heap.objs.size (.int i s.toks) x →
      (∀ b o, b ≠ e → b ≠ it → s.heap.get? b = some o → h'.get? b = some o) → Q (some (.ref s.heap.objs.size)) { s with heap := h', toks := s.toks + 1 }) : wpAny (model prog w) A (pyNext (.ref e)) Q E s := by
  have hT : s.TypeIs (.ref e) "enumerate" := ⟨_, he, rfl⟩
  unfold pyNext
  refine wpAny_bind (wpAny_attempt (wpAny_callSpecial?_slot (name := Str.ofString "__next__") hT F.slot_enumerate_next (wpAny_call_entry F.slot_enumerate_next hT F.entry_enumerate_next ?_ (F.args_enumerate_next_1 _))))
  obtain ⟨hp, g, d, tk, os⟩ := s
  show wpAny _ _ (field (.ref e) 2 >>= _) _ _ _
  refine wpAny_bind (wpAny_field he rfl (x := .ref it) rfl ?_)
  refine wpAny_bind (L2.nextT_item hit hl hx fun h₁ hit₁ hs₁ => ?_)
  replace hs₁ : Heap.SameBut it hp h₁ := hs₁
  have he₁ : IsEnum h₁ e it i old := (hs₁.2 e hne).trans he
  show wpAny _ _ (field (.ref e) 3 >>= _) _ _ ⟨h₁, g, d, tk, os⟩
  refine wpAny_bind (wpAny_field he₁ rfl (x := rawInt i) rfl ?_)
  show wpAny _ _ (field (.ref e) 4 >>= _) _ _ ⟨h₁, g, d, tk, os⟩
  refine wpAny_bind (wpAny_field he₁ rfl (x := .none) rfl ?_)
  show wpAny _ _ (mkInt i >>= _) _ _ ⟨h₁, g, d, tk, os⟩
  refine wpAny_bind (wpAny_mkInt ?_)
  show wpAny _ _ (setField (.ref e) 3 (rawInt ((i : Int) + 1)) >>= _) _ _ ⟨h₁, g, d, tk + 1, os⟩
  refine wpAny_bind (wpAny_setField_rec he₁ (by simp) fun h₂ he₂ hs₂ => ?_)
  replace hs₂ : Heap.SameBut e h₁ h₂ := hs₂
  replace he₂ : IsEnum h₂ e it ((i : Int) + 1) old := he₂
  show wpAny _ _ (setField (.ref e) 4 .none >>= _) _ _ ⟨h₂, g, d, tk + 1, os⟩
  refine wpAny_bind (wpAny_setField_rec he₂ (by simp) fun h₃ he₃ hs₃ => ?_)
  replace hs₃ : Heap.SameBut e h₂ h₃ := hs₃
  replace he₃ : IsEnum h₃ e it ((i : Int) + 1) old := he₃
  show wpAny _ _ (newTuple [.int i tk, x] >>= _) _ _ ⟨h₃, g, d, tk + 1, os⟩
  refine wpAny_bind (wpAny_newTuple ?_)
  have he₄ : IsEnum (h₃.push { cls := .type "tuple", data := .seq #[.int i tk, x] }) e it ((i : Int) + 1) old := Heap.get?_push_of_some _ he₃
  generalize hh₄ : h₃.push { cls := .type "tuple", data := .seq #[.int i tk, x] } = h₄ at he₄
  have hsz : h₃.objs.size = hp.objs.size := by rw [hs₃.1, hs₂.1, hs₁.1]
  have hel : e < hp.objs.size := Heap.lt_size he
  have ht₄ : IsPair h₄ hp.objs.size (.int i tk) x := by rw [← hh₄, ← hsz]; exact Heap.get?_push_size _ rfl
  have hk₄ : ∀ b o, b ≠ e → b ≠ it → hp.get? b = some o → h₄.get? b = some o := fun b o hbe hbi hb => by
    rw [← hh₄]; exact Heap.get?_push_of_some _ (hs₃.extBut b o hbe (hs₂.extBut b o hbe (hs₁.extBut b o hbi hb)))
  have hit₄ : h₄.IsTupleIter it l (i + 1) := by
    rw [← hh₄]; exact ((hit₁.extBut hs₂.extBut (Ne.symm hne)).extBut hs₃.extBut (Ne.symm hne)).at fun o e => Heap.get?_push_of_some _ e
  show wpAny _ _ (Builtin.SmallTypes.ownedTupleIsFree (.ref e) >>= _) _ _ ⟨h₄, g, d, tk + 1, os⟩
  rw [hsz]
  clear hh₄ he₃ hs₃ he₂ hs₂ he₁ hs₁ hit₁ hsz h₃ h₂ h₁
  refine wpAny_bind ?_
  unfold Builtin.SmallTypes.ownedTupleIsFree
  refine wpAny_bind (wpAny_field he₄ rfl (x := .none) rfl (wpAny_pure ?_))
  simp only [if_true]
  refine wpAny_bind (wpAny_rule ?_)
  refine wpAny_bind (wpAny_field he₄ rfl (x := old) rfl ?_)
  refine wpAny_bind (wpAny_setField_rec he₄ (by simp) fun h₅ he₅ hs₅ => ?_)
  replace hs₅ : Heap.SameBut e h₄ h₅ := hs₅
  replace he₅ : IsEnum h₅ e it ((i : Int) + 1) x := he₅
  show wpAny _ _ (Builtin.SmallTypes.ownedTupleHandOut (.ref e) (.ref hp.objs.size) >>= _) _ _ ⟨h₅, g, d, tk + 1, os⟩
  refine wpAny_bind ?_
  unfold Builtin.SmallTypes.ownedTupleHandOut
  refine wpAny_bind (wpAny_setField_rec he₅ (by simp) fun h₆ he₆ hs₆ => ?_)
  replace hs₆ : Heap.SameBut e h₅ h₆ := hs₆
  replace he₆ : IsEnumOut h₆ e it ((i : Int) + 1) x hp.objs.size := he₆
  refine wpAny_setField_rec he₆ (by simp) fun h₇ he₇ hs₇ => ?_
  replace hs₇ : Heap.SameBut e h₆ h₇ := hs₇
  replace he₇ : IsEnumOut h₇ e it ((i : Int) + 1) x hp.objs.size := he₇
  refine wpAny_bind (wpAny_letGo (wpAny_pure ⟨_, rfl, wpAny_pure (hQ h₇ he₇ ?_ ?_ ?_)⟩))
  · exact ((hit₄.extBut hs₅.extBut (Ne.symm hne)).extBut hs₆.extBut (Ne.symm hne)).extBut hs₇.extBut (Ne.symm hne)
  · exact hs₇.extBut _ _ (Nat.ne_of_gt hel) (hs₆.extBut _ _ (Nat.ne_of_gt hel) (hs₅.extBut _ _ (Nat.ne_of_gt hel) ht₄))
  · exact fun b o hbe hbi hb => hs₇.extBut b o hbe (hs₆.extBut b o hbe (hs₅.extBut b o hbe (hk₄ b o hbe hbi hb)))
theorem enumT_end {e it l : Addr} {i : Nat} {items : Array Value} {old : Value} {Q : Option Value → Shared → Prop} (hh : A.handled = none) (he : IsEnum s.heap e it i old) (hit : s.heap.IsTupleIter it l i) (hl : s.heap.IsTuple l items) (hx : items[i]? = none)
    (hQ : ∀ h', Heap.ExtBut it s.heap h' → Q none { s with heap := h' }) : wpAny (model prog w) A (pyNext (.ref e)) Q E s := by
  have hT : s.TypeIs (.ref e) "enumerate" := ⟨_, he, rfl⟩
  unfold pyNext
  refine wpAny_bind (wpAny_attempt (wpAny_callSpecial?_slot (name := Str.ofString "__next__") hT F.slot_enumerate_next (wpAny_call_entry F.slot_enumerate_next hT F.entry_enumerate_next ?_ (F.args_enumerate_next_1 _))))
  show wpAny _ _ (field (.ref e) 2 >>= _) _ _ _
  refine wpAny_bind (wpAny_field he rfl (x := .ref it) rfl ?_)
  refine wpAny_bind (L2.nextT_end hh hit hl hx fun h' x he' hx' => ?_)
  refine wpAny_bind (wpAny_isInstance (T := "StopIteration") (b := true) hx' isSubtype_stop ?_)
  exact wpAny_pure (hQ _ he')
end
end PySem
namespace L2
open PySem PySem.Spec PyProof.Rows
def Ite (K : PySem.W.Frag) (a : Addr) : It :=
  ⟨fun i H => ∃ xs x, SqT K H a xs ∧ xs[i]? = some x,
   fun i H v H' => ∃ T x, v = .ref T ∧ H T = none ∧ H' = upd H T (.tup [.int i, x]) ∧ ∀ xs, SqT K H a xs → xs[i]? = some x,
   fun i H => ∃ xs, SqT K H a xs ∧ xs.length ≤ i⟩
theorem turn_enum {P : Program} {w : World} {K : PySem.W.Frag} {es : List Expr} {x1 : Nat} {pos : Pos} {z it a : Addr} (hne : z ≠ it) :
    Turn P w K (.Tuple es x1 pos) (Ite K a) [z, it] z (fun i h => (∃ old, IsEnum h z it i old) ∧ h.IsTupleIter it a i) where
  mem := by simp
  obj := fun i h st c hc => by
    obtain ⟨⟨old, hz⟩, ⟨o1, e1, c1, d1⟩⟩ := st
    simp only [List.mem_cons, List.not_mem_nil, or_false] at hc
    rcases hc with rfl | rfl
    · exact ⟨_, hz, fun v e => by cases (show Data.fields _ = Data.cell v from e)⟩
    · exact ⟨o1, e1, fun v e => by rw [d1] at e; cases e⟩
  keep := fun i h h' st k => by
    obtain ⟨⟨old, hz⟩, h1⟩ := st
    exact ⟨⟨old, k z (by simp) _ hz⟩, h1.at fun o e => k it (by simp) o e⟩
  item := by
    intro X hP hw hK hc i pins s σ H E I hf st hg
    subst hP hw hK
    obtain ⟨xs, x, hq, hx⟩ := hg
    obtain ⟨⟨old, hz⟩, h1⟩ := st
    obtain ⟨its, rv, p, _⟩ := I.tuple hq
    obtain ⟨u, hu, ru⟩ := rv.get hx
    refine enumT_item hz h1 (show s.heap.IsTuple a its.toArray from p) (x := u) (by simpa using hu) hne fun h₁ g1 g2 g3 kk => ?_
    refine ⟨_, rfl, wpAny_letOwnedTupleGo_enum g1 fun h₂ k1 sb => ?_⟩
    have lt : ∀ {c : Addr} {o : Obj}, s.heap.get? c = some o → s.heap.objs.size ≠ c := fun e => Nat.ne_of_gt (Heap.lt_size e)
    have up : ∀ c o, c ∉ [z, it] → s.heap.get? c = some o → h₂.get? c = some o := fun c o m e => by
      simp only [List.mem_cons, List.not_mem_nil, or_false, not_or] at m
      exact sb.extBut _ _ m.1 (kk c o m.1 m.2 e)
    have hp2 : IsPair h₂ s.heap.objs.size (.int i s.toks) u := sb.extBut _ _ (lt hz) g3
    refine ⟨.ref s.heap.objs.size, _, I.turnedNew (t' := s.toks + 1) (ch := [z, it]) (T := s.heap.objs.size) (o := .tup [.int i, x]) hf up (Nat.le_refl _) ⟨by show 2 ≤ sizeLine; decide, [.int i s.toks, u], .cons ⟨_, rfl⟩ (.cons ru .nil), ⟨_, hp2, rfl, _, rfl⟩⟩, rfl,
      ⟨s.heap.objs.size, x, rfl, I.fresh, rfl, fun xs' h => by rw [I.tuple_inj h hq]; exact hx⟩, ⟨⟨_, by simpa using k1⟩, g2.extBut sb.extBut (Ne.symm hne)⟩, fun c m => ?_⟩
    rw [upd_ne ?_]
    · exact (hf c m).1
    · simp only [List.mem_cons, List.not_mem_nil, or_false] at m
      obtain ⟨o1, e1, _⟩ := h1
      rcases m with rfl | rfl
      · exact (lt hz).symm
      · exact (lt e1).symm
  done := by
    intro X hP hw hK hc i pins s σ H E I hf st hg
    subst hP hw hK
    obtain ⟨xs, hq, hx⟩ := hg
    obtain ⟨⟨old, hz⟩, h1⟩ := st
    obtain ⟨its, rv, p, _⟩ := I.tuple hq
    have hl := rv.length
    refine enumT_end (I.ok.hd hc) hz h1 (show s.heap.IsTuple a its.toArray from p) (by simp; omega) fun h' kk => ⟨rfl, ?_⟩
    refine I.turnedAll (t' := s.toks) (ch := [it]) (fun c m => hf c ?_) fun c o m e => ?_
    · simp only [List.mem_cons, List.not_mem_nil, or_false] at m ⊢
      exact .inr m
    · simp only [List.mem_cons, List.not_mem_nil, or_false] at m
      exact kk c o m e
  self := fun _ _ _ _ _ st h => by obtain ⟨⟨old, hz⟩, _⟩ := st; exact wpAny_pyIter_enum hz h
def iEnum (K : PySem.W.Frag) (ta : TA) : TI := fun σ H R => ta σ H fun vs H1 => ∃ a xs, vs = [.ref a] ∧ SqT K H1 a xs ∧ R (Ite K a) H1
theorem boot_enum : bootBuiltins "enumerate" = some (.type "enumerate") := by decide +kernel
theorem pi_enum {X : Cx} {es : List Expr} {x1 : Nat} {tpos : Pos} {a : Expr} {ta : TA} {p pos : Pos} (hg : Gl X "enumerate") (hm : X.mg "enumerate" = none) (ha : PA X [a] ta) (hs : starEach [a] X.env = [(false, eval a X.env)] := by rfl) :
    PI X (.Tuple es x1 tpos) (.Call (.Name "enumerate" p) [a] [] pos) (iEnum X.K ta) := by
  intro pins s σ H R I h
  refine Call_ (ld_blt I hg hm boot_enum (PyProof.Rows.callWith_type1 (thn (ha pos pins s σ H _ I h) fun us s1 ⟨vs, H1, I1, r1, q1⟩ => ?_) (by rw [hs]; rfl) rfl))
  obtain ⟨c, xs, e, hc, q⟩ := q1
  subst e
  obtain ⟨u, rfl, ru⟩ := Vals.one r1
  cases (show u = Value.ref c from ru)
  obtain ⟨its, rv, p, _⟩ := I1.tuple hc
  refine call_enumT (show s1.heap.IsTuple c its.toArray from p) fun h' hz g1 kk => ?_
  have I2 : Inv X pins σ H1 { s1 with heap := h' } := I1.kept (t' := s1.toks) kk
  refine wpAny_pyIter_enum hz ⟨s1.heap.objs.size + 1, [s1.heap.objs.size + 1, s1.heap.objs.size], _, _, H1, rfl, I2, turn_enum (Nat.ne_of_gt (Nat.lt_succ_self _)), ⟨⟨_, hz⟩, g1⟩, fun b m => ?_, q⟩
  have hb : s1.heap.objs.size ≤ b := by
    simp only [List.mem_cons, List.not_mem_nil, or_false] at m
    rcases m with rfl | rfl
    · exact Nat.le_add_right _ 1
    · exact Nat.le_refl _
  exact I1.fpOk hb (I1.hok.fresh hb)
end L2
namespace L2
open PySem PySem.Spec PyProof.Rows
def enL : Nat → List Tr → List Tr
  | _, [] => []
  | k, t :: ts => .tup [.int k, t] :: enL (k + 1) ts
theorem enL_len : ∀ (k : Nat) (ts : List Tr), (enL k ts).length = ts.length
  | _, [] => rfl
  | k, _ :: ts => by rw [enL, List.length_cons, List.length_cons, enL_len]
theorem enL_get : ∀ (ts : List Tr) (k i : Nat), (enL k ts)[i]? = (ts[i]?).map fun t => .tup [.int ((k + i : Nat) : Int), t]
  | [], _, _ => rfl
  | t :: ts, k, 0 => rfl
  | t :: ts, k, i + 1 => by
    rw [enL, List.getElem?_cons_succ, List.getElem?_cons_succ, enL_get ts (k + 1) i]
    have e : k + 1 + i = k + (i + 1) := by omega
    rw [e]
section
variable {X : Cx} {a b e : Expr} {pos p tpos : Pos} {L : Rho → Rs (List Tr)} {es : List Expr} {x1 : Nat}
theorem goesT_enum {K : PySem.W.Frag} {B : Bar} {H : Hp} {a : Addr} {vs : List V} {ts : List Tr} (h : SqT K (hid B H) a vs) (r : Reps K (hid B H) vs ts) : GoesT K B (Ite K a) H (enL 0 ts) where
  go := fun i B' H' hi s hb => by
    have hv : i < vs.length := by rw [enL_len] at hi; rw [r.length]; exact hi
    exact ⟨vs, vs[i], Same.tup hid_sub (s.h.tup h), by simp [hv]⟩
  yld := fun i B' H' x H'' hi s hb ⟨T, y, e1, e2, e3, q⟩ => by
    subst e1 e3
    obtain ⟨t, et, rt⟩ := r.getV (q vs (Same.tup hid_sub (s.h.tup h)))
    refine ⟨Same.upd e2, .tup [.int i, t], by rw [enL_get, et, Nat.zero_add]; rfl, .tup (.of (hb.new e2)) (.cons (.int _) (.cons ((rt.same s).same (hid_same (Same.upd e2))) .nil))⟩
  stop := fun B' H' s => ⟨vs, Same.tup hid_sub (s.h.tup h), by rw [enL_len, r.length]; exact Nat.le_refl _⟩
def enW (l : Rs (List Tr)) : Rs (List Tr) := l.bind fun ts => match ts with
  | [.tup us] => .ok (enL 0 us)
  | _ => .bad
theorem i_enum (hm : X.mg "enumerate" = none) (ha : PA X [a] (tPA X L)) (hg : Gl X "enumerate" := by rfl) (hs : noStars [a] = true := by rfl) : PI X (.Tuple es x1 tpos) (.Call (.Name "enumerate" p) [a] [] pos) (tI X fun ρ => enW (L ρ)) :=
  (pi_enum hg hm ha (by rw [star_cons _ _ (stars_head hs).1]; rfl)).weak fun σ H R ⟨B, ρ, hb, r, q⟩ => ⟨B, ρ, hb, r, q.bind.mono fun ts qt vs H1 s1 r1 => by
    split at qt
    · cases r1 with
      | cons h1 r1 =>
        cases r1
        cases h1 with
        | tup h rr => exact ⟨_, _, rfl, Same.tup hid_sub h, qt _ H1 s1 (goesT_enum h rr)⟩
    · exact qt.elim⟩
def strT : List Tr → Rs Tr
  | [.int i] => if i.natAbs.log2 < 1920 ∧ (Str.ofString (toString i)).length ≤ txMax then .ok (.str (Str.ofString (toString i))) else .bad
  | [.str z] => .ok (.str z)
  | _ => .bad
theorem c_str : CallT X (.type "str") strT := by
  intro pins s σ H xs us Q I rv ⟨B, ts, hb, r, q⟩
  match ts, r, q with
  | [], _, q => exact (show False from q).elim
  | _ :: _ :: _, r, q =>
    cases r with
    | cons h1 r => cases h1 <;> exact (show False from q).elim
  | [t], .cons h1 .nil, q =>
    cases h1 with
    | int i =>
      obtain ⟨⟨k1, k2⟩, k⟩ := fi_if q
      exact call_str_int pins s σ H _ us Q I rv ⟨i, rfl, k1, k _ H (Same.refl H) (.str _ k2)⟩
    | str z hz =>
      obtain ⟨u, rfl, tk, rfl⟩ := vals1 rv
      exact PySem.P.str_of_str ⟨.str z, H, I, ⟨_, rfl⟩, q _ H (Same.refl H) (.str z hz)⟩
    | _ => exact (show False from q).elim
variable {F : Rho → Rs Tr}
def PJ (X : Cx) (es : List Expr) (J : Rho → Str → Rs Tr) : Prop := ∀ (pins : List (Addr × Obj)) (s : Shared) (σ : St) (H : Hp) (acc : Str) (Q : VK), Inv X pins σ H s → tP X (fun ρ => J ρ acc) σ H Q → wpAny (model X.prog X.w) X.A (joinParts acc (evalEach es X.env)) (EP X pins σ Q) X.xe s
def jNil (acc : Str) : Rs Tr := if acc.length ≤ txMax then .ok (.str acc) else .bad
theorem j_nil : PJ X [] fun _ acc => jNil acc := by
  intro pins s σ H acc Q I ⟨B, ρ, hb, r, q⟩
  obtain ⟨h1, k⟩ := fi_if q
  exact joinParts_nil ⟨.str acc, H, I.tok _, ⟨_, rfl⟩, k _ H (Same.refl H) (.str acc h1)⟩ (Nat.le_trans h1 tx_line)
def jCons (r : Rs Tr) (J : Str → Rs Tr) (acc : Str) : Rs Tr := r.bind fun t => match t with
  | .str y => if (acc ++ y).length ≤ txMax then J (acc ++ y) else .bad
  | _ => .bad
theorem j_cons {J : Rho → Str → Rs Tr} (h : PE X e (tP X F)) (hr : PJ X es J) : PJ X (e :: es) fun ρ acc => jCons (F ρ) (J ρ) acc := by
  intro pins s σ H acc Q I ⟨B, ρ, hb, r, q⟩
  refine joinParts_cons (thn (h pins s σ H (fun x H1 => ∃ y, x = .str y ∧ (acc ++ y).length ≤ txMax ∧ Same H H1 ∧ Fi X H (J ρ (acc ++ y)) fun t => ∀ v H', Same H H' → Rep X.K (hid B H') v t → Q v H') I ⟨B, ρ, hb, r, q.bind.mono fun t qt v H1 s1 r1 => ?_⟩) fun u s1 ⟨x, H1, I1, rx, y, ex, hl, sm, k⟩ => ?_)
  · cases r1 with
    | str y hy =>
      by_cases hl : (acc ++ y).length ≤ txMax
      · exact ⟨y, rfl, hl, s1, by have k : Fi X H (if (acc ++ y).length ≤ txMax then J ρ (acc ++ y) else .bad) _ := qt; rw [if_pos hl] at k; exact k⟩
      · have k : Fi X H (if (acc ++ y).length ≤ txMax then J ρ (acc ++ y) else .bad) _ := qt
        rw [if_neg hl] at k; exact (show False from k).elim
    | _ => exact (show False from qt).elim
  · subst ex
    obtain ⟨tk, rfl⟩ := (show ∃ t, u = Value.str y t from rx)
    exact ⟨Nat.le_trans hl tx_line, hr pins s1 σ H1 _ Q I1 ⟨B, ρ, hb.same sm, r.same sm, (k.same sm).mono fun t qt v H2 s2 r2 => qt v H2 (sm.trans s2) r2⟩⟩
theorem t_fstr' {v1 v2 : Expr} {rest : List Expr} {J : Rho → Str → Rs Tr} (h : PJ X (v1 :: v2 :: rest) J) : PE X (.JoinedStr (v1 :: v2 :: rest) pos) (tP X fun ρ => J ρ Str.empty) := fun pins s σ H Q I q => JoinedStr_many (h pins s σ H Str.empty Q I q)
end
end L2
namespace L2
open PySem PySem.Spec PySem.Calls PyProof.Rows
def idxR (ts : List Tr) (x : Tr) : Rs Tr := if plT x = true ∧ ts.all flT = true then (match ts.findIdx? (fun y => eqT y x) with | some j => .ok (.int j) | none => .bad) else .bad
def cntR (ts : List Tr) (x : Tr) : Rs Tr := if plT x = true ∧ ts.all flT = true then .ok (.int (ts.countP fun y => eqT y x : Nat)) else .bad
theorem eU_at {K : PySem.W.Frag} {W : Vw} {x : Tr} : ∀ {vs : List V} {ts : List Tr} {us : List Value}, Reps K W vs ts → ts.all flT = true → Vals vs us → us.map (eU x) = ts.map fun y => eqT y x
  | [], _, _, r, _, rv => by cases r; cases rv; rfl
  | _ :: _, _, _, r, f, rv => by
    cases r with
    | cons h r =>
      cases rv with
      | cons h1 rv =>
        rw [List.all_cons, Bool.and_eq_true] at f
        rw [List.map_cons, List.map_cons, eU_rep h f.1 h1, eU_at r f.2 rv]
theorem find_at {ts : List Tr} {us : List Value} {x : Tr} {j : Nat} (e : us.map (eU x) = ts.map fun y => eqT y x) (h : ts.findIdx? (fun y => eqT y x) = some j) : ∃ hj : j < us.length, eU x us[j] = true ∧ ∀ m (hm : m < us.length), m < j → eU x us[m] = false := by
  obtain ⟨hj, h1, h2⟩ := List.findIdx?_eq_some_iff_getElem.mp h
  have hl : us.length = ts.length := by have q := congrArg List.length e; rw [List.length_map, List.length_map] at q; exact q
  have at_ : ∀ (i : Nat) (h1 : i < us.length) (h2 : i < ts.length), eU x us[i] = eqT ts[i] x := fun i h1 h2 => by
    have q := congrArg (fun l : List Bool => l[i]?) e
    simp only [List.getElem?_map, List.getElem?_eq_getElem h1, List.getElem?_eq_getElem h2] at q
    exact Option.some.inj q
  refine ⟨by rw [hl]; exact hj, by rw [at_ j _ hj]; exact h1, fun m hm hmj => ?_⟩
  rw [at_ m hm (by rw [← hl]; exact hm)]
  have q := h2 m hmj
  cases z : eqT ts[m] x with
  | false => rfl
  | true => exact absurd z q
theorem idxR_fin {X : Cx} {H : Hp} {ts : List Tr} {x : Tr} {k : Tr → Prop} (q : Fi X H (idxR ts x) k) : plT x = true ∧ ts.all flT = true ∧ ∃ j : Nat, ts.findIdx? (fun y => eqT y x) = some j ∧ k (.int j) := by
  unfold idxR at q
  by_cases z : plT x = true ∧ ts.all flT = true
  · rw [if_pos z] at q
    cases e : ts.findIdx? (fun y => eqT y x) with
    | none => rw [e] at q; exact (show False from q).elim
    | some j => rw [e] at q; exact ⟨z.1, z.2, j, rfl, q⟩
  · rw [if_neg z] at q; exact (show False from q).elim
theorem cntR_fin {X : Cx} {H : Hp} {ts : List Tr} {x : Tr} {k : Tr → Prop} (q : Fi X H (cntR ts x) k) : plT x = true ∧ ts.all flT = true ∧ k (.int (ts.countP fun y => eqT y x : Nat)) := by
  unfold cntR at q
  by_cases z : plT x = true ∧ ts.all flT = true
  · rw [if_pos z] at q; exact ⟨z.1, z.2, q⟩
  · rw [if_neg z] at q; exact (show False from q).elim
theorem count_at {ts : List Tr} {us : List Value} {x : Tr} (e : us.map (eU x) = ts.map fun y => eqT y x) : us.countP (eU x) = ts.countP fun y => eqT y x := by
  have a : us.countP (eU x) = (us.map (eU x)).countP id := by rw [List.countP_map]; rfl
  have b : (ts.countP fun y => eqT y x) = (ts.map fun y => eqT y x).countP id := by rw [List.countP_map]; rfl
  rw [a, b, e]
section
variable {X : Cx} {pins : List (Addr × Obj)} {σ : St} {H : Hp} {s : Shared} {A : Around} {E : Value → Shared → Prop}
theorem lix_ok {a : Addr} {vs : List V} {ts : List Tr} {v : V} {tx : Tr} {u : Value} {ixx : Addr → Option Nat} {Q : VK} (hu : X.A.units + 1 < cLine) (I : Inv X pins σ H s) (h : SqL X.K H a vs) (r : Reps X.K (⟨H, ixx⟩ : Vw) vs ts) (rx : Rep X.K (⟨H, ixx⟩ : Vw) v tx) (ru : RelV v u) {k : Tr → Prop} (q : Fi X H (idxR ts tx) k) (hk : ∀ j : Nat, k (.int j) → Q (.int j) H) :
    wpAny (model X.prog X.w) X.A (call (.builtin "list.index") [.ref a, u]) (EP X pins σ Q) X.xe s := by
  obtain ⟨p1, p2, j, e, q⟩ := idxR_fin q
  obtain ⟨its, rv, pl, hz⟩ := I.list h
  · obtain ⟨hj, h1, h2⟩ := find_at (eU_at r p2 rv) e
    have hs : (j : Int) < 2 ^ 63 - 1 := by
      have := rv.length
      rw [sizeLine_eq] at hz
      omega
    obtain ⟨⟨cls, dd, data, sl⟩, n, ho, hc, hd0, hd⟩ := id pl
    simp only at hc hd hd0
    have hd1 := hd
    subst hc
    subst hd1
    refine call_meets PySem.F.slot_list_index ⟨_, ho, rfl⟩ PySem.F.entry_list_index (PySem.F.args_list_index_2 _ _) (SeqAt.list_indexAt a its.toArray n dd sl u (eU tx) j (by simpa using hj) hs (by simpa using h1) fun m hm hmj => by simpa using h2 m (by simpa using hm) hmj) ⟨ho, fun y hy => mem_eU I (A := X.A.in1) hu rx p1 ru r p2 rv y (by simpa using hy), ?_⟩
    exact ⟨.int j, H, I.tok _, ⟨_, rfl⟩, hk j q⟩
theorem lct_ok {a : Addr} {vs : List V} {ts : List Tr} {v : V} {tx : Tr} {u : Value} {ixx : Addr → Option Nat} {Q : VK} (hu : X.A.units + 1 < cLine) (I : Inv X pins σ H s) (h : SqL X.K H a vs) (r : Reps X.K (⟨H, ixx⟩ : Vw) vs ts) (rx : Rep X.K (⟨H, ixx⟩ : Vw) v tx) (ru : RelV v u) {k : Tr → Prop} (q : Fi X H (cntR ts tx) k) (hk : ∀ j : Nat, k (.int j) → Q (.int j) H) :
    wpAny (model X.prog X.w) X.A (call (.builtin "list.count") [.ref a, u]) (EP X pins σ Q) X.xe s := by
  obtain ⟨p1, p2, q⟩ := cntR_fin q
  obtain ⟨its, rv, pl, hz⟩ := I.list h
  rw [← count_at (eU_at r p2 rv)] at q
  obtain ⟨⟨cls, dd, data, sl⟩, n, ho, hc, hd0, hd⟩ := id pl
  simp only at hc hd hd0
  have hd1 := hd
  subst hc
  subst hd1
  refine call_meets PySem.F.slot_list_count ⟨_, ho, rfl⟩ PySem.F.entry_list_count (PySem.F.args_list_count_2 _ _) (SeqAt.list_countAt a its.toArray n dd sl u (eU tx)) ⟨ho, fun y hy => mem_eU I (A := X.A.in1) hu rx p1 ru r p2 rv y (by simpa using hy), ?_⟩
  exact ⟨.int (its.countP (eU tx) : Nat), H, I.tok _, ⟨_, rfl⟩, hk _ q⟩
variable {o e : Expr} {es : List Expr} {p tpos apos cpos : Pos} {F G : Rho → Rs Tr} {L : Rho → Rs (List Tr)}
def lmR (h : List Tr → Tr → Rs Tr) (r : Rs Tr) (a : Rs Tr) : Rs Tr := r.bind fun t => match t with
  | .lst ts => a.bind fun x => h ts x
  | _ => .bad
def rLM (X : Cx) (h : List Tr → Tr → Rs Tr) : V → List V → Hp → VK → Prop := fun x xs H Q => ∃ B ts y ty, HB B H ∧ Rep X.K (hid B H) x (.lst ts) ∧ xs = [y] ∧ Rep X.K (hid B H) y ty ∧ Fi X H (h ts ty) fun t => ∀ v H', Same H H' → Rep X.K (hid B H') v t → Q v H'
theorem m_lidx (hu : X.A.units + 1 < cLine) : MtR X "list.index" (rLM X idxR) := by
  intro pins s σ H x xs v us Q I rx rv ⟨B, ts, y, ty, hb, r, e, ry, q⟩
  subst e
  obtain ⟨u, rfl, ru⟩ := vals1 rv
  cases r with
  | lst h rr =>
    cases rx
    exact lix_ok (ixx := B.ix) hu I (.of (hid_up h)) (rr.same hid_raw) (ry.same hid_raw) ru q fun j z => z _ H (Same.refl H) (.int _)
theorem m_lcnt (hu : X.A.units + 1 < cLine) : MtR X "list.count" (rLM X cntR) := by
  intro pins s σ H x xs v us Q I rx rv ⟨B, ts, y, ty, hb, r, e, ry, q⟩
  subst e
  obtain ⟨u, rfl, ru⟩ := vals1 rv
  cases r with
  | lst h rr =>
    cases rx
    exact lct_ok (ixx := B.ix) hu I (.of (hid_up h)) (rr.same hid_raw) (ry.same hid_raw) ru q fun j z => z _ H (Same.refl H) (.int _)
theorem t_lm {name : Str} {id : String} {h : List Tr → Tr → Rs Tr} (slot : Slot "list" name id) (hty : typeOf (.builtin id) = pure (.type "method_descriptor")) (hm : MtR X id (rLM X h)) (ho : PE X o (tP X F)) (he : PE X e (tP X G)) (pa : PlainAttrs "list" := by exact PySem.F.plainAttrs_list)
    (hbase : isCall o = false := by rfl) (hst : noStars [e] = true := by rfl) (hline : (apos.endLine == cpos.line) = true := by rfl) :
    PE X (.Call (.Attribute o name apos) [e] [] cpos) (tP X fun ρ => lmR h (F ρ) (G ρ)) :=
  (pe_bm pa slot hty hm ho (l_cons he l_nil (stars_head hst).1) (base_no hbase) (by rw [star_all hst]; rfl) hline (star_cons _ _ (stars_head hst).1) (star_none (stars_head hst).2)).weak fun σ H Q ⟨B, ρ, hb, r, q⟩ => ⟨B, ρ, hb, r, q.bind.mono fun t qt v H1 s1 r1 => by
    cases r1 with
    | lst hl rr =>
      rename_i a vs ts
      refine ⟨.inl ⟨rfl, vs, .of (hid_up hl)⟩, B, ρ, hb.same s1, r.same s1, ?_⟩
      have qt' : Fi X H ((G ρ).bind fun x => h ts x) _ := qt
      have q2 := (Fi.bind qt').same s1
      refine Fi.mono (r := consR (G ρ) (.ok [])) (k := fun zs => ∃ x, zs = [x] ∧ Fi X H (h ts x) fun t => ∀ v H', Same H H' → Rep X.K (hid B H') v t → Q v H') ?_ fun zs ⟨x, ez, qx⟩ ws H2 s2 r2 => ?_
      · cases eg : G ρ with
        | ok x => rw [eg] at q2; exact ⟨x, rfl, q2⟩
        | exc c => rw [eg] at q2; exact q2
        | bad => rw [eg] at q2; exact q2
      · subst ez
        cases r2 with
        | cons ry r2 =>
          cases r2
          exact ⟨B, ts, _, x, hb.same (s1.trans s2), .lst ((hid_same s2).h _ _ hl) (rr.same (hid_same s2)), rfl, ry, (qx.same (s1.trans s2)).mono fun t k v H3 s3 r3 => k v H3 ((s1.trans s2).trans s3) r3⟩
    | _ => exact (show False from qt).elim⟩
end
end L2
namespace L2
open PySem PySem.Spec PyProof.Rows
def xcZ (K : PySem.W.Frag) (B : Bar) (H : Hp) (E : XK) : Tr → Ab → Prop := fun c A => ∀ B' H', Grows B H B' H' → HA K B' A H' → E (clsV K c) none H'
def spZ (K : PySem.W.Frag) (f : List Tr → Ab → Rz Tr) : Sp := fun vs H Q E => ∃ B A ts, HA K B A H ∧ Reps K (hid B H) vs ts ∧ FzX (xcZ K B H E) (f ts A) fun t A' => ∀ v B' H', Grows B H B' H' → HA K B' A' H' → Rep K (hid B' H') v t → Q v H'
def bodyS (r : Rz Out) : Rz Tr := r.bind fun o A => match o with
  | .nx _ => .ok .non A
  | .ret t => .ok t A
  | _ => .bad
theorem Fun.okS {P : Program} {w : World} {K : PySem.W.Frag} {mg : Str → Option Value} {base : Heap} {x qual : Str} {st : Stmt} {f : Addr} {fd : FuncData} {N ps : List Str} {k : Nat} {h : List Tr → Ab → Rz Tr} (Fn : Fun K x qual st f fd) (S : FnScope N ps (defScope st)) (len : ∀ ts A, h ts A ≠ .bad → ts.length = ps.length)
    (hbody : ∀ (cdv : Value) (A : Around) (outer : List Env) (s : Shared) (H : Hp) (E : XK), Room k (A.deeper (envOfC qual (defScope st) s.heap.objs.size f cdv)) →
      ∃ G, PSs (cxOf (CXe P w) P w K mg base N qual (defScope st) f cdv A outer s H E) (defBody st) (tZ (cxOf (CXe P w) P w K mg base N qual (defScope st) f cdv A outer s H E) G) ∧ ∀ ts A, h ts A ≠ .bad → h ts A = bodyS (G (startT N.length ts) A)) : FnOk P w K mg base (CXe P w) (k + 1) f fd ps (spZ K h) := by
  obtain ⟨oc, od, kV, doc, pm, an, cdv, ct, osl, rfl, lk, hcd⟩ := Fn.ex
  have nb : ∀ {B : Bar} {A : Ab} {H : Hp} {E : XK} {ts : List Tr} {k : Tr → Ab → Prop}, FzX (xcZ K B H E) (h ts A) k → h ts A ≠ .bad := fun {B A H E ts k} q z => by rw [z] at q; exact q
  refine fn_of lk hcd S (fun vs H Q E ⟨B, A, ts, ha, r, q⟩ => by rw [r.length]; exact len ts A (nb q)) fun A outer s H vs Q E hr ⟨B, A1, ts, ha, r, q⟩ => ?_
  obtain ⟨G, hG, hE⟩ := hbody cdv A outer s H E hr
  refine ⟨_, hG, B, H, B, A1, startT N.length ts, ha.hb, .refl, ha, RepS.start r, noOw_start, ?_⟩
  rw [hE ts A1 (nb q)] at q
  refine (FzX.bind q).imp (fun c A2 z B' H' g ha' e s x => leave_ok x (z B' H' g ha')) |>.mono fun o A2 z => ?_
  cases o with
  | nx ρ => exact fun σ' B' H' g ha' r' n' => z .non B' H' g ha' .non
  | ret t => exact fun v B' H' g ha' r' => z v B' H' g ha' r'
  | bk ρ => exact (show False from z).elim
  | ct ρ => exact (show False from z).elim
def mirS (n m : Nat) (G : Rho → Ab → Rz Out) (ts : List Tr) (A : Ab) : Rz Tr := if ts.length = n then bodyS (G (startT m ts) A) else .bad
theorem mirS_len {n m : Nat} {G : Rho → Ab → Rz Out} {ts : List Tr} {A : Ab} (h : mirS n m G ts A ≠ .bad) : ts.length = n := by
  unfold mirS at h
  by_cases z : ts.length = n
  · exact z
  · rw [if_neg z] at h; exact absurd rfl h
theorem mirS_ok {n m : Nat} {G : Rho → Ab → Rz Out} {ts : List Tr} {A : Ab} (h : mirS n m G ts A ≠ .bad) : mirS n m G ts A = bodyS (G (startT m ts) A) := by
  unfold mirS
  rw [if_pos (mirS_len h)]
section
variable {X : Cx} {o e : Expr} {es : List Expr} {p pos apos : Pos} {F : Rho → Ab → Rz Tr} {L : Rho → Ab → Rz (List Tr)} {h : List Tr → Ab → Rz Tr} {x : Str} {st : Stmt} {ps : List Str} {f : Addr} {fd : FuncData} {k : Nat}
theorem spZ_in {B B1 : Bar} {H H1 : Hp} {A1 : Ab} {vs : List V} {ts : List Tr} {Q : VK} (hb : HB B H) (g : Grows B H B1 H1) (ha : HA X.K B1 A1 H1) (r : Reps X.K (hid B1 H1) vs ts) (q : FzX (XE X B H) (h ts A1) fun t A' => ∀ v B' H', Grows B H B' H' → HA X.K B' A' H' → Rep X.K (hid B' H') v t → Q v H') : spZ X.K h vs H1 Q (EX X) :=
  ⟨B1, A1, ts, ha, r, (q.imp fun c A' z => z.grow hb g).mono fun t A' z v B' H' g' ha' rv => z v B' H' (g.trans hb g') ha' rv⟩
theorem e_def (D : DefAt X.K X.mg x st ps f fd) (G : FnOk X.prog X.w X.K X.mg X.base (CXe X.prog X.w) k f fd ps (spZ X.K h)) (hr : Room k X.A) (ha : PA X (e :: es) (tEA X L)) (hx : X.ex = [] := by rfl) (hg : Gl X x := by rfl) (hdb : (x == ("__debug__" : Str)) = false := by decide) (hst : noStars (e :: es) = true := by rfl) :
    PE X (.Call (.Name x p) (e :: es) [] pos) (tE X fun ρ A => (L ρ A).bind h) :=
  (pe_call (p := p) (pos := pos) G hr hg D.mg D.fn.kp D.bd .nil (passes_EX hx) ha (hdb := hdb) (he := star_cons _ _ (stars_head hst).1) (hpl := star_none (stars_head hst).2)).weak fun σ H Q ⟨B, A, ρ, ha, r, n, q⟩ => ⟨B, A, ρ, ha, r, n, q.bind.mono fun ts A1 qt vs B1 H1 g1 ha1 r1 => by
    show spZ X.K h (vs ++ []) H1 Q (EX X)
    rw [List.append_nil]
    exact spZ_in ha.hb g1 ha1 r1 qt⟩
variable {c m : Str}
end
end L2
namespace L2
open PySem PySem.Spec PyProof.Rows
abbrev bmV : List Value := [.type "ValueError", .type "Exception", .type "BaseException", .type "object"]
structure ErrAt (K : PySem.W.Frag) (mg : Str → Option Value) (x : Str) : Prop where
  mg : mg x = some (.ref (clsAt K x))
  ex : PySem.W.excIn K (clsAt K x) bmV "ValueError.__new__" = true
theorem exc_obj {K : PySem.W.Frag} {h : Heap} {C : Addr} {bmB : List Value} {newId : String} (X : K.In h) (q : PySem.W.excIn K C bmB newId = true) :
    ∃ bm N nm qn bs hd sn sub ab col dd k0 k1 k2 k3 k5 mN, h.get? C = some (excClassObj nm qn C N bs bm hd sn sub ab col dd k0 k1 k2 k3 k5 newId) ∧ h.Ns N mN ∧ mN "__init__" = none ∧ OwnTail h bmB bm := by
  unfold PySem.W.excIn at q
  split at q
  · rename_i d0 cd sl ho
    split at q
    · rename_i C2 bm j0 j1 j2 j3 n j5 hm hs
      simp only [Bool.and_eq_true, beq_iff_eq, Bool.not_eq_true'] at q
      obtain ⟨⟨⟨⟨⟨e1, e2⟩, e3⟩, e4⟩, e5⟩, e6⟩ := q
      subst e1 e2
      obtain ⟨nm, bs, mro, ns, qn, hd, sn, sub, ab, col, del⟩ := cd
      have hm' : mro = _ := hm
      have e3' : del = false := e3
      have e5' : PySem.W.nsOkIn K ns = true := e5
      have e6' : PySem.W.nsIn K ns "__init__" = some none := e6
      subst hm' e3'
      obtain ⟨l⟩ := sl
      have hs' : l = _ := hs
      subst hs'
      exact ⟨bm, ns, nm, qn, bs, hd, sn, sub, ab, col, d0, j0, j1, j2, j3, j5, _, X _ _ ho, .of_isNs (PySem.W.isNs_of_in X e5'), PySem.W.nsMap_none_of_in X e5' e6', PySem.W.tail_of_in X e4⟩
    · cases q
  · cases q
section
variable {X : Cx} {x : Str} {np cpos pos : Pos} {e : Expr} {es : List Expr} {L : Rho → Ab → Rz (List Tr)}
def raiseZ (x : Str) (l : Rz (List Tr)) : Rz Out := l.bind fun ts A => if ts.length ≤ szT then .exc (.str x) A else .bad
theorem z_raise (D : ErrAt X.K X.mg x) (ha : PA X (e :: es) (tEA X L)) (hx : X.ex = [] := by rfl) (hc : X.calm = true := by rfl) (hg : Gl X x := by rfl) (hdb : (x == ("__debug__" : Str)) = false := by decide) (hst : noStars (e :: es) = true := by rfl) :
    PS X (.Raise (some (.Call (.Name x np) (e :: es) [] cpos)) none pos) (tZ X fun ρ A => raiseZ x (L ρ A)) := by
  intro pins s σ H D' I ⟨B0, H0, B, A, ρ, hb, g, hA, r, n, q⟩
  obtain ⟨bm, N, nm, qn, bs, hd, sn, sub, ab, col, dd, k0, k1, k2, k3, k5, mN, hC, hN, hni, T⟩ := exc_obj (h := X.base) I.ok.mod.kin D.ex
  have hst1 : starEach (e :: es) X.env = (false, eval e X.env) :: starEach es X.env := star_cons _ _ (stars_head hst).1
  have hpl : (backTo cpos (starEach es X.env)).any (·.1) = false := star_none (stars_head hst).2
  refine wpAny_Raise_call_subU (C := clsAt X.K x) (nm := nm) (q := qn) (N := N) (bs := bs) (bm := bm) (hdct := hd) (sn := sn) (sub := sub) (ab := ab) (col := col) (dd := dd) (k0 := k0) (k1 := k1) (k2 := k2) (k3 := k3) (k5 := k5)
    PySem.F.excBase_ValueError (by decide +kernel) PySem.F.excBase_ValueError (mN := mN) (T.hasType (by decide +kernel)) (I.ok.hd hc) (by rw [hst1]; show (false || (backTo cpos (starEach es X.env)).any (·.1)) = false; rw [hpl]; rfl) hni
    (ld_glob I hg D.mg ⟨rfl, ?_⟩ hdb)
  have hA2 := ha cpos pins s σ H (fun vs H2 => vs.length ≤ sizeLine ∧ EX X (.ref (clsAt X.K x)) none H2) I ⟨B, A, ρ, hA, r, n, ((FzX.bind q).imp fun c A' z => z.grow hb g).mono fun ts A2 qt vs B2 H2 g2 ha2 rs => by
    obtain ⟨hl, q2⟩ := z_if' qt
    exact ⟨by rw [rs.length, ← szT_eq]; exact hl, (show XE X B0 H0 (.str x) A2 from q2) B2 H2 (g.trans hb g2) ha2⟩⟩
  rw [hst1] at hA2 ⊢
  refine Calls.evalArgs_plain (thn hA2 fun us s2 ⟨vs, H2, I2, rv, hl, hE⟩ => ⟨rfl, by rw [← rv.length]; exact hl, I2.bk _ _ hC, hN.keeps I2.bk, T.keeps I2.bk, fun h' a hm => hE _ _ ?_⟩)
  obtain ⟨t, e1, e2, e3⟩ := hm.there
  refine ⟨a, pins, σ, s2.heap, rfl, I2.kept (t' := s2.toks) hm.keeps, ⟨⟨_, _, _, e1, rfl, rfl, rfl, .inl rfl⟩, ?_, hm.new⟩, fun b n => I2.none_old hx n, fun p hp => ⟨_, (I2.pin p (List.mem_append_left _ hp)).1⟩, fun b nb => by
    cases z : s2.heap.get? b with
    | none => rfl
    | some o => rw [hm.keeps b o z] at nb; cases nb⟩
  cases z : H2 a with
  | none => rfl
  | some o =>
    obtain ⟨u, e4⟩ := (I2.hok a o z).get
    rw [hm.new] at e4; cases e4
end
end L2
namespace L2
open PySem PySem.Spec PyProof.Rows
theorem frs_stk {X : Cx} (ok : X.Ok) : ∀ b ∈ X.fs, b ∈ frs X.stack := fun b hb => by
  rcases ok.stk with e | ⟨e, _⟩
  · rw [e]; exact hb
  · rw [e]
    obtain ⟨v, hv, hf⟩ := List.mem_filterMap.mp hb
    exact List.mem_filterMap.mpr ⟨v, List.mem_cons_of_mem _ hv, hf⟩
theorem Inv.shaken {X : Cx} {pins : List (Addr × Obj)} {σ : St} {H : Hp} {s : Shared} {h' : Heap} {hs : List Addr} (I : Inv X pins σ H s) (hx : X.ex = [])
    (kp : ∀ b o, b ∉ hs → b ∉ frs X.stack → s.heap.get? b = some o → h'.get? b = some o) (sl : ∀ b o, b ∈ frs X.stack → s.heap.get? b = some o → ∃ sl, h'.get? b = some { o with slots := sl })
    (hn : ∀ b ∈ hs, H b = none ∧ X.s₀.heap.get? b = none ∧ (∀ p ∈ X.pn ++ pins, p.1 ≠ b) ∧ ((∃ o ws, s.heap.get? b = some o ∧ o.data = .fields ws) ∨ s.heap.get? b = none)) : Inv X pins σ H { s with heap := h' } := by
  have nex : ∀ b : Addr, b ∉ X.ex := fun b => by rw [hx]; simp
  have any : ∀ b o, b ∉ hs → s.heap.get? b = some o → ∃ sl, h'.get? b = some { o with slots := sl } := fun b o nb e => by
    by_cases m : b ∈ frs X.stack
    · exact sl b o m e
    · exact ⟨o.slots, kp b o nb m e⟩
  have hsF : ∀ b o, s.heap.get? b = some o → (∀ ws, o.data ≠ .fields ws) → b ∉ hs := fun b o e d m => by
    rcases (hn b m).2.2.2 with ⟨o2, ws, e2, d2⟩ | e2
    · rw [e] at e2; cases e2; exact d ws d2
    · rw [e] at e2; cases e2
  have cellK : ∀ c v, s.heap.IsCell c v → h'.IsCell c v := fun c v ⟨o, ho, hd⟩ => by
    obtain ⟨s1, e1⟩ := any c o (hsF c o ho fun ws z => by rw [hd] at z; cases z) ho
    exact ⟨_, e1, hd⟩
  have old : ∀ b o, X.s₀.heap.get? b = some o → b ∉ hs := fun b o e m => by rw [(hn b m).2.1] at e; cases e
  refine ⟨I.ok, I.os, I.bare, ⟨fun b o e n hb _ => ?_, fun b o e n hb _ => ?_, I.base.free, fun b o e _ => ?_, I.base.tups, I.base.frzs, I.base.tbls⟩, ?_, fun x c e => ?_, I.free, I.freeC, fun p hp => ?_, fun b u e => ?_, I.len⟩
  · refine kp b o (old b o e) (fun m => ?_) (I.base.keep b o e n hb (nex b))
    rcases List.mem_cons.mp (I.stkSub b m) with z | z
    · exact absurd (Nat.lt_of_lt_of_le (Heap.lt_size e) I.ok.above) (by rw [z]; exact Nat.lt_irrefl _)
    · exact hb z
  · obtain ⟨s1, e1⟩ := I.base.slot b o e n hb (nex b)
    obtain ⟨s2, e2⟩ := sl b _ (frs_stk I.ok b hb) e1
    exact ⟨s2, e2⟩
  · obtain ⟨o1, e1⟩ := I.base.there b o e (nex b)
    obtain ⟨s2, e2⟩ := any b o1 (old b o e) e1
    exact ⟨_, e2⟩
  · obtain ⟨m, hm, hl⟩ := I.loc
    refine ⟨m, ?_, fun i x v e1 e2 e3 => ?_⟩
    · obtain ⟨o, es, ep, ho, hd, r⟩ := hm
      obtain ⟨s1, e1⟩ := any _ o (hsF _ o ho fun ws z => by rw [hd] at z; cases z) ho
      exact ⟨_, es, ep, e1, hd, r⟩
    · obtain ⟨u, r, l⟩ := hl i x v e1 e2 e3
      refine ⟨u, r, ?_⟩
      rcases l with l | ⟨k, c, e, z⟩
      · exact .inl l
      · exact .inr ⟨k, c, e, cellK c _ z⟩
  · obtain ⟨v, z⟩ := I.cell x c e
    exact ⟨v, cellK c v z⟩
  · obtain ⟨e, n, ne, nf, d⟩ := I.pin p hp
    refine ⟨kp p.1 p.2 (fun m => (hn _ m).2.2.1 p hp rfl) (fun m => ?_) e, n, ne, nf, d⟩
    rcases List.mem_cons.mp (I.stkSub _ m) with z | z
    · exact ne z
    · exact nf z
  · refine (I.hok b u e).stay (fun c v hc q => kp c v (fun m => ?_) (fun m => ?_) q) (fun _ q => q) fun _ _ q => q
    · have n := (hn c m).1
      rcases hc with rfl | hc
      · rw [n] at e; cases e
      · rw [n] at hc; cases hc
    · have n := I.stkFree c m
      rcases hc with rfl | hc
      · rw [n] at e; cases e
      · rw [n] at hc; cases hc
def Trc (h0 : Heap) (H : Hp) (h : Heap) (a : Addr) (cls : Value) : Prop := ∃ oe vs a0 T oT ts, h.get? a = some oe ∧ oe.cls = cls ∧ oe.data = .fields vs ∧ vs[0]? = some a0 ∧ vs[1]? = some (.ref T) ∧ T ≠ a ∧ h0.get? T = none ∧ H T = none ∧ h.get? T = some oT ∧ oT.data = .fields ts ∧ ts[3]? = some .none
structure Cau (X : Cx) (h0 : Heap) (σ : St) (H : Hp) (s : Shared) (a : Addr) (cls : Value) : Prop where
  inv : Inv X [] σ H s
  und : Und h0 H s.heap a cls
  old : ∀ b, h0.get? b = none → X.s₀.heap.get? b = none
  pn : ∀ p ∈ X.pn, ∃ o, h0.get? p.1 = some o
  gr : ∀ b, s.heap.get? b = none → h0.get? b = none
theorem XS.cau {X : Cx} {H : Hp} {cls e : Value} {s : Shared} (x : XS X H cls e s) : ∃ a σ h0, e = .ref a ∧ Cau X h0 σ H s a cls := by
  obtain ⟨a, pins, σ, h0, rfl, I, und, old, pn, gr⟩ := x
  exact ⟨a, σ, h0, rfl, I.pins_of (fun p hp => I.pin p (List.mem_append_left _ (by simpa using hp))), und, old, pn, gr⟩
theorem Cau.step {X : Cx} {h0 : Heap} {σ : St} {H : Hp} {s : Shared} {a : Addr} {cls a0 : Value} {h' : Heap} {hs : List Addr} (C : Cau X h0 σ H s a cls) (hx : X.ex = []) (ha : a ∈ hs) (hh : ∀ b ∈ hs, H b = none ∧ h0.get? b = none ∧ ∃ o ws, s.heap.get? b = some o ∧ o.data = .fields ws)
    (k1 : (PySem.W.hideAll s.heap (hs ++ frs X.stack)).StaysIn h') (k4 : ∀ b o, s.heap.get? b = some o → (∀ ws, o.data ≠ .fields ws) → ∃ sl, h'.get? b = some { o with slots := sl })
    (k3 : h'.TracedW (PySem.W.hideAll s.heap (hs ++ frs X.stack)) a cls a0) (fr' : ∀ b ∈ frs X.stack, ∃ o, h'.get? b = some o ∧ ∀ ws, o.data ≠ .fields ws) : Cau X h0 σ H { s with heap := h' } a cls ∧ Trc h0 H h' a cls := by
  have hk := C.inv.stack
  have hof : ∀ L ∈ frs X.stack, ∃ o, s.heap.get? L = some o ∧ ∀ ws, o.data ≠ .fields ws := fun L hL => (hk.mem hL).2
  have gp : ∀ b, h0.get? b = none → ∀ p ∈ X.pn ++ [], p.1 ≠ b := fun b n p hp z => by
    obtain ⟨o, e⟩ := C.pn p (by simpa using hp)
    rw [z, n] at e; cases e
  have kp : ∀ b o, b ∉ hs → b ∉ frs X.stack → s.heap.get? b = some o → h'.get? b = some o := fun b o n1 n2 e => k1 b o (PySem.W.hideAll_get _ e fun m => (List.mem_append.mp m).elim n1 n2)
  have sl : ∀ b o, b ∈ frs X.stack → s.heap.get? b = some o → ∃ sl, h'.get? b = some { o with slots := sl } := fun b o m e => by
    obtain ⟨o2, e2, d2⟩ := hof b m
    rw [e] at e2; cases e2
    exact k4 b o e d2
  have tr : Trc h0 H h' a cls := by
    obtain ⟨oe, vs, T, oT, ts, q1, ⟨q2, q3⟩, q4, q5, q6, q7, q8, q9, q10⟩ := k3
    have hTf : T ∉ frs X.stack := fun m => by
      obtain ⟨o, e, d⟩ := fr' T m
      rw [q8] at e; cases e
      exact d ts q9
    have key : h0.get? T = none ∧ H T = none := by
      by_cases m : T ∈ hs
      · exact ⟨(hh T m).2.1, (hh T m).1⟩
      · have n : s.heap.get? T = none := by
          cases z : s.heap.get? T with
          | none => rfl
          | some o => rw [PySem.W.hideAll_get _ z fun mm => (List.mem_append.mp mm).elim m hTf] at q6; cases q6
        refine ⟨C.gr T n, ?_⟩
        cases z : H T with
        | none => rfl
        | some o => obtain ⟨u, e⟩ := (C.inv.hok T o z).get; rw [n] at e; cases e
    exact ⟨oe, vs, a0, T, oT, ts, q1, q2, q4, q3, q5, q7, key.1, key.2, q8, q9, q10⟩
  refine ⟨⟨C.inv.shaken hx kp sl fun b m => ⟨(hh b m).1, C.old b (hh b m).2.1, gp b (hh b m).2.1, .inl (hh b m).2.2⟩, ⟨?_, C.und.fr, C.und.nw⟩, C.old, C.pn, fun b n => ?_⟩, tr⟩
  · obtain ⟨oe, vs, b0, T, oT, ts, q1, q2, q3, q4, q5, q6⟩ := tr
    exact ⟨oe, vs, b0, q1, q2, q3, q4, .inr ⟨T, oT, ts, q5, q6⟩⟩
  · by_cases m : b ∈ hs
    · exact (hh b m).2.1
    · refine C.gr b ?_
      cases z : s.heap.get? b with
      | none => rfl
      | some o =>
        have n' : h'.get? b = none := n
        by_cases m2 : b ∈ frs X.stack
        · obtain ⟨s1, e1⟩ := sl b o m2 z
          rw [n'] at e1; cases e1
        · rw [kp b o m m2 z] at n'; cases n'
end L2
namespace L2
open PySem PySem.Spec PyProof.Rows
section
variable {X : Cx} {h0 : Heap} {σ : St} {H : Hp} {s : Shared} {a : Addr} {cls : Value} {A : Around} {E : Value → Shared → Prop} {M : Model}
theorem note_ok (C : Cau X h0 σ H s a cls) (hx : X.ex = []) (hst : X.stack = X.env :: X.outer) (hf : X.env.frame = some X.env.locals) (hA : A.frames = some X.stack) {Q : Unit → Shared → Prop} (q : ∀ s', Cau X h0 σ H s' a cls → Trc h0 H s'.heap a cls → Q () s') :
    wpAny M A (noteFrame (.ref a) X.env) (fun _ s2 => wpAny M A (setFlight (.ref a) none) Q E s2) E s := by
  obtain ⟨⟨oe, vs, a0, he, hcls, hd, h0', h1⟩, fr, nw⟩ := C.und
  have hk : s.heap.FunFrames X.base X.stack := C.inv.stack
  have hin : ∀ e ∈ X.stack, ∀ b, e.frame = some b → b ∈ frs X.stack := fun e he b hb => List.mem_filterMap.mpr ⟨e, he, hb⟩
  have after : ∀ (hs : List Addr) (h' : Heap), a ∈ hs → (∀ b ∈ hs, H b = none ∧ h0.get? b = none ∧ ∃ o ws, s.heap.get? b = some o ∧ o.data = .fields ws) → Heap.NotedW (PySem.W.hideAll s.heap (hs ++ frs X.stack)) X.stack a cls a0 (rawInt X.env.locals) s.heap h' → wpAny M A (setFlight (.ref a) none) Q E { s with heap := h' } := by
    intro hs h' ham hh ⟨k1, k2, k3, k4⟩
    refine wpAny_setFlight_noneW (s := { s with heap := h' }) k1 k2 k3 fun h2 j1 j2 j3 j4 => ?_
    obtain ⟨c1, c2⟩ := C.step hx ham hh j1 (fun b o e d => by obtain ⟨sl, e1⟩ := k4 b o e d; exact ⟨sl, j4 b _ e1 d⟩) j3 fun b m => (j2.mem m).2
    exact q _ c1 c2
  rcases h1 with h1 | ⟨T, oT, ts, h1, hTa, hT0, hTn, hT, hdT, h3⟩
  · have hl : s.heap.FunFrames (PySem.W.hideAll s.heap ([a] ++ frs X.stack)) (X.env :: X.outer) := by rw [← hst]; exact PySem.W.funFrames_hide hk fun e he b hb => List.mem_append_right _ (hin e he b hb)
    unfold noteFrame
    simp only [hf]
    refine wpAny_bind (wpAny_field he hd h1 ?_)
    rw [if_neg (by decide)]
    refine wpAny_entryW (base := PySem.W.hideAll s.heap ([a] ++ frs X.stack)) (by rw [hA, hst]) hl hf he (fun b o z => PySem.W.of_hideAll _ z) (PySem.W.hideAll_none _ (List.mem_append_left _ (List.mem_singleton.mpr rfl))) hd (Array.getElem?_eq_some_iff.mp h1).1 h0' fun h' hN => ?_
    rw [hcls, ← hst] at hN
    refine after [a] h' (List.mem_singleton.mpr rfl) (fun b m => ?_) hN
    cases List.mem_singleton.mp m
    exact ⟨fr, nw, oe, vs, he, hd⟩
  · have hl : s.heap.FunFrames (PySem.W.hideAll s.heap ([a, T] ++ frs X.stack)) (X.env :: X.outer) := by rw [← hst]; exact PySem.W.funFrames_hide hk fun e he b hb => List.mem_append_right _ (hin e he b hb)
    refine wpAny_noteFrame_onW (base := PySem.W.hideAll s.heap ([a, T] ++ frs X.stack)) (cls := cls) (a0 := a0) (by rw [hA, hst]) hl hf ⟨oe, vs, T, oT, ts, he, ⟨hcls, h0'⟩, hd, h1, PySem.W.hideAll_none _ (List.mem_append_left _ (by simp)), hTa, hT, hdT, h3⟩ (fun b o z => PySem.W.of_hideAll _ z) (PySem.W.hideAll_none _ (List.mem_append_left _ (by simp))) fun h' hN => ?_
    rw [← hst] at hN
    refine after [a, T] h' (by simp) (fun b m => ?_) hN
    simp only [List.mem_cons, List.not_mem_nil, or_false] at m
    rcases m with rfl | rfl
    · exact ⟨fr, nw, oe, vs, he, hd⟩
    · exact ⟨hTn, hT0, oT, ts, hT, hdT⟩
theorem flight_ok (C : Cau X h0 σ H s a cls) (T : Trc h0 H s.heap a cls) (hx : X.ex = []) {Q : Unit → Shared → Prop} (q : ∀ s', Cau X h0 σ H s' a cls → Trc h0 H s'.heap a cls → Q () s') : wpAny M A (setFlight (.ref a) none) Q E s := by
  obtain ⟨oe, vs, a0, T, oT, ts, e1, e2, e3, e4, e5, e6, e7, e8, e9, e10, e11⟩ := T
  have hk : s.heap.FunFrames X.base X.stack := C.inv.stack
  have hin : ∀ e ∈ X.stack, ∀ b, e.frame = some b → b ∈ frs X.stack := fun e he b hb => List.mem_filterMap.mpr ⟨e, he, hb⟩
  have hl : s.heap.FunFrames (PySem.W.hideAll s.heap ([a, T] ++ frs X.stack)) X.stack := PySem.W.funFrames_hide hk fun e he b hb => List.mem_append_right _ (hin e he b hb)
  refine wpAny_setFlight_noneW (base := PySem.W.hideAll s.heap ([a, T] ++ frs X.stack)) (cls := cls) (a0 := a0) (fl := .none) (fun b o z => PySem.W.of_hideAll _ z) hl ⟨oe, vs, T, oT, ts, e1, ⟨e2, e4⟩, e3, e5, PySem.W.hideAll_none _ (List.mem_append_left _ (by simp)), e6, e9, e10, e11⟩ fun h2 j1 j2 j3 j4 => ?_
  obtain ⟨c1, c2⟩ := C.step hx (hs := [a, T]) (by simp) (fun b m => by
    simp only [List.mem_cons, List.not_mem_nil, or_false] at m
    rcases m with rfl | rfl
    · exact ⟨C.und.fr, C.und.nw, oe, vs, e1, e3⟩
    · exact ⟨e8, e7, oT, ts, e9, e10⟩) j1 (fun b o e d => ⟨o.slots, j4 b o e d⟩) j3 fun b m => (j2.mem m).2
  exact q _ c1 c2
theorem Cau.track (C : Cau X h0 σ H s a cls) (hx : X.ex = []) : ∃ oe : Obj, oe.cls = cls ∧ s.heap.get? a = some oe ∧ Inv X [] σ (upd H a (.ext fun h => h.get? a = some oe)) s := by
  obtain ⟨⟨oe, vs, a0, he, hcls, hd, _⟩, fr, nw⟩ := C.und
  have I := C.inv
  refine ⟨oe, hcls, he, I.ok, I.os, I.bare, ⟨I.base.keep, I.base.slot, fun b o e n hb => ?_, I.base.there, fun b ts e => ?_, fun b o u e => ?_, fun b p e => ?_⟩, I.loc, I.cell, ?_, fun y c e => ?_, fun p hp => ?_, fun b u e => ?_, I.len⟩
  · rw [upd_ne fun z => ?_]
    · exact I.base.free b o e n hb
    · rw [z, C.old a nw] at e; cases e
  · rw [upd_ne fun z => ?_]
    · exact I.base.tups b ts e
    · have q := I.base.tups b ts e; rw [z, fr] at q; cases q
  · rw [upd_ne fun z => ?_]
    · exact I.base.frzs b o u e
    · have q := I.base.frzs b o u e; rw [z, fr] at q; cases q
  · obtain ⟨more, q⟩ := I.base.tbls b p e
    exact ⟨more, by rw [upd_ne fun z => (by rw [z, fr] at q; cases q)]; exact q⟩
  · rw [upd_ne fun z => ?_]
    · exact I.free
    · obtain ⟨m, ⟨o, es, ep, ho, hd2, _⟩, _⟩ := I.loc
      rw [z, he] at ho; cases ho
      rw [hd] at hd2; cases hd2
  · rw [upd_ne fun z => ?_]
    · exact I.freeC y c e
    · obtain ⟨v, o, ho, hd2⟩ := I.cell y c e
      rw [z, he] at ho; cases ho
      rw [hd] at hd2; cases hd2
  · obtain ⟨q1, q2, q3⟩ := I.pin p hp
    refine ⟨q1, ?_, q3⟩
    rw [upd_ne fun z => ?_]
    · exact q2
    · obtain ⟨o, e⟩ := C.pn p (by simpa using hp)
      rw [z, nw] at e; cases e
  · by_cases z : b = a
    · subst z
      rw [upd_same] at e
      cases e
      exact ⟨he, ⟨oe, he⟩, fun h1 h2 p k => k _ p⟩
    · rw [upd_ne z] at e
      exact (I.hok b u e).stay (fun _ _ _ q => q) (fun c q => by rw [upd_ne (ne_of_none q fr)]; exact q) fun c xs q => by rw [upd_ne (ne_of_none q fr)]; exact q
theorem unbind_ok {pins : List (Addr × Obj)} {i : Nat} {n : Str} {pos : Pos} {Q : Unit → Shared → Prop} (I : Inv X pins σ H s) (hN : X.N.Nodup) (hi : X.N[i]? = some n) (hl : X.env.scope.names.lookup n = some .local) (q : ∀ s', Inv X pins (σ.set i none) H s' → Q () s') : wpAny M A (do bindName X.env n .none; unbindBehindTheSuite X.env n pos) Q E s := by
  obtain ⟨m, hn, hlk⟩ := id I.loc
  have hcl : (X.env.scope.kind == .class || (X.env.scope.kind == .module && X.env.locals != X.env.globals)) = false := by rw [I.ok.kind]; rfl
  obtain ⟨oL, _, _, hoL, _⟩ := id hn
  refine wpAny_nameGoes_keeps hl hn hcl fun h' v hn' hs => q _ ?_
  have ne : ∀ b o, X.s₀.heap.get? b = some o → b ≠ X.env.locals := fun b o e => Nat.ne_of_lt (Nat.lt_of_lt_of_le (Heap.lt_size e) I.ok.above)
  refine ⟨I.ok, I.os, I.bare, ⟨fun b o e n hb hx => ?_, fun b o e n hb hx => ?_, I.base.free, fun b o e hx => ?_, I.base.tups, I.base.frzs, I.base.tbls⟩, ⟨_, hn', fun j y w e1 e2 e3 => ?_⟩, fun y c e => ?_, I.free, I.freeC, fun p hp => ?_, fun b u e => ?_, by rw [List.length_set]; exact I.len⟩
  · exact (hs.2 b (ne b o e)).trans (I.base.keep b o e n hb hx)
  · obtain ⟨sl, e1⟩ := I.base.slot b o e n hb hx
    exact ⟨sl, (hs.2 b (ne b o e)).trans e1⟩
  · obtain ⟨o1, e1⟩ := I.base.there b o e hx
    exact ⟨o1, (hs.2 b (ne b o e)).trans e1⟩
  · by_cases hj : j = i
    · subst hj
      have hjl : j < σ.length := by rw [I.len]; exact (List.getElem?_eq_some_iff.mp hi).1
      rw [List.getElem?_set_self hjl] at e2
      cases e2
    · rw [List.getElem?_set_ne (Ne.symm hj)] at e2
      obtain ⟨u, r, l⟩ := hlk j y w e1 e2 e3
      refine ⟨u, r, ?_⟩
      rcases l with ⟨k, e⟩ | ⟨k, c, e, z⟩
      · refine .inl ⟨k, ?_⟩
        have hy : y ≠ n := fun z => hj (nodup_ix hN e1 (z ▸ hi))
        show (if y = n then v else m y) = some u
        rw [if_neg hy]; exact e
      · exact .inr ⟨k, c, e, z.sameBut hs (I.cne y c e)⟩
  · obtain ⟨w, z⟩ := I.cell y c e
    exact ⟨w, z.sameBut hs (I.cne y c e)⟩
  · obtain ⟨e, n2, ne2, nf, d⟩ := I.pin p hp
    exact ⟨(hs.2 p.1 ne2).trans e, n2, ne2, nf, d⟩
  · refine (I.hok b u e).stay (fun c w hc z => (hs.2 c fun y => ?_).trans z) (fun _ z => z) fun _ _ z => z
    subst y
    rcases hc with z2 | z2
    · rw [← z2, I.free] at e; cases e
    · rw [I.free] at z2; cases z2
end
theorem RepS.none {K : PySem.W.Frag} {B : Bar} {H : Hp} {σ : St} : RepS K B H σ (List.replicate σ.length .no) := by
  have no : ∀ (i : Nat) (c : Cell), (List.replicate σ.length Cell.no)[i]? = some c → c = .no := fun i c e => by
    rw [List.getElem?_replicate] at e
    split at e
    · exact (Option.some.inj e).symm
    · cases e
  exact ⟨List.length_replicate, (fun i t e => by cases no i _ e), (fun i ts e => by cases no i _ e), (fun i j ts us D _ e => by cases no i _ e)⟩
theorem RepS.unset {K : PySem.W.Frag} {B : Bar} {H : Hp} {σ : St} {ρ : Rho} (h : RepS K B H σ ρ) (n : NoOw ρ) (i : Nat) : RepS K B H (σ.set i Option.none) (ρ.set i .no) := by
  refine ⟨by rw [List.length_set, List.length_set]; exact h.len, fun j t e => ?_, fun j ts e => ?_, fun j k ts us D _ e => ?_⟩
  · rcases set_cases e with ⟨_, _, z⟩ | ⟨hj, e⟩
    · cases z
    · obtain ⟨v, e1, r⟩ := h.sh j t e
      exact ⟨v, by rw [List.getElem?_set_ne hj]; exact e1, r⟩
  · rcases set_cases e with ⟨_, _, z⟩ | ⟨hj, e⟩
    · cases z
    · exact absurd e (n j ts)
  · rcases set_cases e with ⟨_, _, z⟩ | ⟨hj, e⟩
    · cases z
    · exact absurd e (n j ts)
theorem NoOw.unset {ρ : Rho} (h : NoOw ρ) (i : Nat) : NoOw (ρ.set i .no) := fun j ts e => by
  rcases set_cases e with ⟨_, _, z⟩ | ⟨hj, e⟩
  · cases z
  · exact h j ts e
end L2
namespace L2
open PySem PySem.Spec PyProof.Rows
abbrev Cx.inTry (X : Cx) (pn : List (Addr × Obj)) (E' : Value → Shared → Prop) : Cx := { X with pn := pn, xe := E' }
abbrev Cx.inExc (X : Cx) (pn : List (Addr × Obj)) (e : Value) : Cx := { X with A := X.A.mark (some e), calm := false, pn := pn, xe := fun _ _ => False }
section
variable {X : Cx} {pins pn : List (Addr × Obj)} {σ : St} {H : Hp} {s : Shared} {E' : Value → Shared → Prop} {e : Value}
theorem Cx.Ok.inTry (ok : X.Ok) : (X.inTry pn E').Ok := ⟨ok.mod, ok.kind, ok.glob, ok.blt, ok.above, ok.inj, ok.has, ok.cab, ok.hd, ok.frames, ok.stk, ok.exf, ok.bs, ok.bsz, ok.noex, ok.exfs, ok.funs, ok.frf⟩
theorem Cx.Ok.outTry (ok : (X.inTry pn E').Ok) : X.Ok := ⟨ok.mod, ok.kind, ok.glob, ok.blt, ok.above, ok.inj, ok.has, ok.cab, ok.hd, ok.frames, ok.stk, ok.exf, ok.bs, ok.bsz, ok.noex, ok.exfs, ok.funs, ok.frf⟩
theorem Cx.Ok.inExc (ok : X.Ok) : (X.inExc pn e).Ok := ⟨ok.mod, ok.kind, ok.glob, ok.blt, ok.above, ok.inj, ok.has, ok.cab, (fun z => by cases z), ok.frames, ok.stk, ok.exf, ok.bs, ok.bsz, ok.noex, ok.exfs, ok.funs, ok.frf⟩
theorem Inv.inTry (I : Inv X pins σ H s) : Inv (X.inTry (X.pn ++ pins) E') [] σ H s := ⟨I.ok.inTry, I.os, I.bare, I.base, I.loc, I.cell, I.free, I.freeC, fun p hp => I.pin p (by simpa using hp), I.hok, I.len⟩
theorem Inv.outTry (I : Inv (X.inTry (X.pn ++ pins) E') [] σ H s) : Inv X pins σ H s := ⟨I.ok.outTry, I.os, I.bare, I.base, I.loc, I.cell, I.free, I.freeC, fun p hp => I.pin p (by simpa using hp), I.hok, I.len⟩
theorem Inv.inExc (I : Inv (X.inTry pn E') [] σ H s) : Inv (X.inExc pn e) [] σ H s := ⟨I.ok.outTry.inExc, I.os, I.bare, I.base, I.loc, I.cell, I.free, I.freeC, I.pin, I.hok, I.len⟩
theorem Inv.outExc (ok : X.Ok) (I : Inv (X.inExc (X.pn ++ pins) e) [] σ H s) : Inv X pins σ H s := ⟨ok, I.os, I.bare, I.base, I.loc, I.cell, I.free, I.freeC, fun p hp => I.pin p (by simpa using hp), I.hok, I.len⟩
theorem SP.outTry {D : Ends} {f : Flow} (h : SP (X.inTry (X.pn ++ pins) E') [] D f s) : SP X pins D f s := by
  cases f with
  | next => obtain ⟨σ', H', I, q⟩ := h; exact ⟨σ', H', I.outTry, q⟩
  | brk => obtain ⟨σ', H', I, q⟩ := h; exact ⟨σ', H', I.outTry, q⟩
  | cont => obtain ⟨σ', H', I, q⟩ := h; exact ⟨σ', H', I.outTry, q⟩
  | ret u => obtain ⟨v, σ', H', I, r, q⟩ := h; exact ⟨v, σ', H', I.outTry, r, q⟩
end
structure CatchAt (K : PySem.W.Frag) (mg : Str → Option Value) (c : Str) (xs : List Str) : Prop where
  mg : mg c = some (.ref (clsAt K c))
  all : ∀ x ∈ xs, PySem.W.exmOne K (.ref (clsAt K x)) (.ref (clsAt K c)) = some true
def catZ (N i : Nat) (xs : List Str) (x : Str) (A : Ab) (G2 : Rho → Ab → Rz Out) : Rz Out := if xs.contains x = true then match G2 ((List.replicate N Cell.no).set i (.sh (.at A.length))) (A ++ [.exo x]) with
  | .ok (.nx ρ) A => .ok (.nx (ρ.set i .no)) A
  | .ok (.ret t) A => .ok (.ret t) A
  | _ => .bad
  else .bad
def tryZ (N i : Nat) (xs : List Str) (r : Rz Out) (G2 : Rho → Ab → Rz Out) : Rz Out := match r with
  | .ok o A => .ok o A
  | .exc (.str x) A => catZ N i xs x A G2
  | _ => .bad
section
variable {X : Cx} {c n : Str} {tp hp pos : Pos} {xs : List Str} {i : Nat} {body suite : List Stmt} {b₀ : Stmt} {G G2 : Rho → Ab → Rz Out}
theorem z_tryAs' (Tc : CatchAt X.K X.mg c xs) (hb : ∀ pn E', PSs (X.inTry pn E') body (tZ (X.inTry pn E') G)) (hs : ∀ pn e, PSs (X.inExc pn e) (b₀ :: suite) (tZ (X.inExc pn e) G2)) (hN : X.N.Nodup) (hi : X.N[i]? = some n) (hl : X.env.scope.names.lookup n = some .local)
    (hst : X.stack = X.env :: X.outer) (hf : X.env.frame = some X.env.locals) (hx : X.ex = []) (hfn : X.fn n = true ∨ X.env.scope.names.lookup n = some .local) (hg : Gl X c) (hdb : (c == ("__debug__" : Str)) = false) :
    PS X (.Try body [.ExceptHandler (some (.Name c tp)) (some n) (b₀ :: suite) hp] [] [] pos) (tZ X fun ρ A => tryZ X.N.length i xs (G ρ A) G2) := by
  intro pins s σ H D I ⟨B0, H0, B, A, ρ, hb0, g, ha, r, no, q⟩
  have okX := I.ok
  refine wpAny_Try_except (wpAny_mono (hb (X.pn ++ pins) _ [] s σ H D I.inTry ⟨B0, H0, B, A, ρ, hb0, g, ha, r, no, ?_⟩) (fun f s1 h1 => ?_) fun e s1 z => z)
  · have q' : FzX (XE X B0 H0) (tryZ X.N.length i xs (G ρ A) G2) (EndsZ X D B0 H0) := q
    cases eG : G ρ A with
    | bad => rw [eG] at q'; exact (show False from q').elim
    | ok o A1 => rw [eG] at q'; cases o <;> exact q'
    | exc t A1 =>
      rw [eG] at q'
      cases t with
      | str x =>
        obtain ⟨hxs, q2⟩ := z_if' q'
        intro B' H' g' ha' e s1 xs1
        obtain ⟨a, σ1, h0, rfl, C⟩ := xs1.cau
        refine note_ok C hx hst hf okX.frames fun s3 C3 T3 => ?_
        refine wpAny_handleBy_cons (codeAny_handlers_test ?_) (by intro z; cases z)
        refine Calls.Name_function_global okX.kind hg (Calls.loadGlobal_global (by rw [okX.glob]; exact okX.mod.glob.keeps C3.inv.bk) Tc.mg ?_) hdb
        obtain ⟨⟨oe, vs, a0, he, hcls, _⟩, _, _⟩ := C3.und
        have LT : PySem.W.Looks (model X.prog X.w) s3.heap (typeOf (.ref a)) (.ref (clsAt X.K x)) := by
          have LL := (PySem.W.Looks.ld (M := model X.prog X.w) (part := none) he).andThen (f := fun o : Obj => pure o.cls) .now
          rw [hcls] at LL
          exact LL
        refine PySem.W.exm_one C3.inv.kIn LT (Tc.all x (by simpa using hxs)) _ _ _ s3 (fun _ _ z => z) ?_
        refine codeAny_handlers_suite_as ?_
        refine flight_ok C3 T3 hx fun s4 C4 T4 => ?_
        obtain ⟨oe4, hc4, he4, I4⟩ := C4.track hx
        have frA : H' a = none := C4.und.fr
        refine store_ok (X := X.inTry (X.pn ++ pins) _) I4 hN hi (.inl hl) (v := .ref a) rfl (fun s5 I5 => ?_) hfn
        obtain ⟨g5, ha5⟩ := ha'.push (p := a) (o := .exo x) frA (Same.upd frA) ⟨barN_hd, oe4, upd_same, hc4⟩
        have hlen : σ1.length = X.N.length := C4.inv.len
        have r5 : RepS X.K (barN B' a A1.length) (upd H' a (.ext fun h => h.get? a = some oe4)) (σ1.set i (some (.ref a))) ((List.replicate X.N.length Cell.no).set i (.sh (.at A1.length))) := by
          rw [← hlen]
          exact RepS.none.set i (.at barN_ix)
        have no5 : NoOw ((List.replicate X.N.length Cell.no).set i (.sh (.at A1.length))) := NoOw.set (fun j ts z => by
          rw [List.getElem?_replicate] at z
          split at z <;> cases z) i _
        have key : FzX (fun _ _ => False) (G2 ((List.replicate X.N.length Cell.no).set i (.sh (.at A1.length))) (A1 ++ [.exo x])) fun o A2 => match o with
            | .nx ρ => EndsZ X D B0 H0 (.nx (ρ.set i .no)) A2
            | .ret t => EndsZ X D B0 H0 (.ret t) A2
            | _ => False := by
          cases e2 : G2 ((List.replicate X.N.length Cell.no).set i (.sh (.at A1.length))) (A1 ++ [.exo x]) with
          | bad => simp only [e2] at q2; exact q2
          | exc c1 A2 => simp only [e2] at q2; exact q2
          | ok o A2 =>
            simp only [e2] at q2
            cases o <;> exact q2
        refine wpAny_mono (hs (X.pn ++ pins) (.ref a) [] s5 _ _ { nx := fun σ2 H2 => D.nx (σ2.set i none) H2, rt := D.rt } I5.inExc ⟨B0, H0, barN B' a A1.length, A1 ++ [.exo x], _, hb0, g'.trans hb0 g5, ha5, r5, no5, ?_⟩) (fun f s6 h6 => ?_) fun _ _ z => (show False from z).elim
        · refine (key.imp fun _ _ z => z.elim).mono fun o A2 z => ?_
          cases o with
          | nx ρ2 => exact fun σ2 B2 H2 g2 ha2 r2 n2 => z (σ2.set i none) B2 H2 g2 ha2 (r2.unset n2 i) (n2.unset i)
          | ret t => exact z
          | bk _ => exact z.elim
          | ct _ => exact z.elim
        · cases f with
          | next =>
            obtain ⟨σ6, H6, I6, q6⟩ := h6
            exact unbind_ok (I6.outExc okX) hN hi hl fun s7 I7 => ⟨_, H6, I7, q6⟩
          | ret u =>
            obtain ⟨v, σ6, H6, I6, rv, q6⟩ := h6
            exact unbind_ok (I6.outExc okX) hN hi hl fun s7 I7 => ⟨v, _, H6, I7, rv, q6⟩
          | brk => obtain ⟨_, _, _, z⟩ := h6; exact (show False from z).elim
          | cont => obtain ⟨_, _, _, z⟩ := h6; exact (show False from z).elim
      | _ => exact (show False from q').elim
  · cases f with
    | next => exact wpAny_execs_nil h1.outTry
    | brk => exact h1.outTry
    | cont => exact h1.outTry
    | ret u => exact h1.outTry
end
end L2
namespace L2
open PySem PySem.Spec PySem.Calls PyProof.Rows PySem.W
structure ExcG (K : Frag) (D : Addr) : Prop where
  ga : findIn K (.ref D) "__getattribute__" = some (some (.builtin "BaseException.__getattribute__"))
  gh : findIn K (.ref D) "__getattr__" = some none
  cl : findIn K (.ref D) "__class__" = some (some (.builtin "object.__class__"))
  ob : mroIn K D (.type "object") = some true
  be : mroIn K D (.type "BaseException") = some true
section
variable {prog : Program} {w : World} {A : Around} {E : Value → Shared → Prop} {h : Heap} {g : Array GenState} {d : Drawn} {t : Nat} {os : OsState} {a D : Addr} {o : Obj} {K : Frag}
theorem xc_get {R : Result → Shared → Prop} {tp : Value} (G : ExcG K D) (X : K.In h) (hx : h.get? a = some o) (hc : o.cls = .ref D) (hq : R (.ok (.ret (.ref D))) ⟨h, g, d, t, os⟩) :
    codeAny (model prog w) A (.call (.builtin "getset_descriptor.__get__") ⟨[.builtin "object.__class__", .ref a, tp], []⟩) R ⟨h, g, d, t, os⟩ := by
  have hT5 : (⟨h, g, d, t, os⟩ : Shared).TypeIs (.builtin "object.__class__") "getset_descriptor" := F.typeOf_object_class
  have L0 : Looks (model prog w) h (typeOf (.ref a)) (.ref D) := hc ▸ (Looks.ld hx).andThen .now
  have L1 : Looks (model prog w) h (isSubtype (.ref D) (.type (".".intercalate ("object.__class__".cutAt '.').dropLast))) true := by rw [show ".".intercalate ("object.__class__".cutAt '.').dropLast = "object" by decide +kernel]; exact looks_mroIn X G.ob
  refine codeAny_call_builtin F.slot_gs_get.plain F.entry_gs_get (F.slot_gs_get.check _ _ _ _ _ _ _ _ hT5 (F.args_gs_get _ _ _) ?_)
  repeat (any_goals (first | assumption | (with_reducible refine L0.at ?_) | (with_reducible refine L1.at ?_) | wp_step))
  refine ⟨Code.quiet_builtin _ (by decide +kernel), codeAny_builtin F.entry_object_class ?_⟩
  repeat (any_goals (first | assumption | (with_reducible refine L0.at ?_) | wp_step))
theorem xc_entry {tk : Tok} {Q : Fin → Shared → Prop} (G : ExcG K D) (X : K.In h) (hx : h.get? a = some o) (hc : o.cls = .ref D) (hq : Q (.done (.ret (.ref D))) ⟨h, g, d, t, os⟩) :
    wpAny (model prog w) A (Builtin.«object.__getattribute__» ⟨[.ref a, .str "__class__" tk], []⟩) Q E ⟨h, g, d, t, os⟩ := by
  have L0 : Looks (model prog w) h (typeOf (.ref a)) (.ref D) := hc ▸ (Looks.ld hx).andThen .now
  have L1 := looks_findIn (M := model prog w) X G.cl
  have hT5 : (⟨h, g, d, t, os⟩ : Shared).TypeIs (.builtin "object.__class__") "getset_descriptor" := F.typeOf_object_class
  have f5 := F.typeOf_object_class
  have f6 := F.slot_gs_get.lookup
  have f7 := F.slot_gs_set.lookup
  repeat (any_goals (first | assumption | (with_reducible refine L0.at ?_) | (with_reducible refine L1.at ?_) | wp_step))
  refine xc_get G X hx hc ?_
  repeat (any_goals (first | assumption | wp_step))
theorem xc_check {M : Model} {nameV : Value} {Q : Unit → Shared → Prop} (G : ExcG K D) (X : K.In h) (hx : h.get? a = some o) (hc : o.cls = .ref D) (hq : Q () ⟨h, g, d, t, os⟩) : wpAny M A (checkBuiltinCall "BaseException.__getattribute__" ⟨[.ref a, nameV], []⟩) Q E ⟨h, g, d, t, os⟩ := by
  have L0 : Looks M h (typeOf (.ref a)) (.ref D) := hc ▸ (Looks.ld hx).andThen .now
  have L1 := looks_mroIn (M := M) X G.be
  have k1 : builtinKind "BaseException.__getattribute__" = some .slot := by decide +kernel
  have k2 : splitId "BaseException.__getattribute__" = some ("BaseException", "__getattribute__") := by decide +kernel
  have ha := F.args_bexc_ga (.ref a) nameV
  simp only [checkBuiltinCall, k1, k2]
  refine wpAny_bind ?_
  unfold isInstance
  repeat (any_goals (first | assumption | (with_reducible refine L0.at ?_) | (with_reducible refine L1.at ?_) | wp_step))
theorem xc_call {tk : Tok} {R : Result → Shared → Prop} (G : ExcG K D) (X : K.In h) (hx : h.get? a = some o) (hc : o.cls = .ref D) (hq : R (.ok (.ret (.ref D))) ⟨h, g, d, t, os⟩) :
    codeAny (model prog w) A (.call (.builtin "BaseException.__getattribute__") ⟨[.ref a, .str "__class__" tk], []⟩) R ⟨h, g, d, t, os⟩ :=
  codeAny_call_builtin (by decide +kernel) F.entry_bexc_ga (xc_check G X hx hc (xc_entry G X hx hc hq))
theorem xc_by {tk : Tok} {Q : Value → Shared → Prop} (FB : Slot "ValueError" "__getattribute__" "BaseException.__getattribute__") (G : ExcG K D) (X : K.In h) (hx : h.get? a = some o) (hc : o.cls = .ref D) (hq : Q (.ref D) ⟨h, g, d, t, os⟩) :
    wpAny (model prog w) A (getAttrBy (.ref a) (.str "__class__" tk) false) Q E ⟨h, g, d, t, os⟩ := by
  have L0 : Looks (model prog w) h (typeOf (.ref a)) (.ref D) := hc ▸ (Looks.ld hx).andThen .now
  have L1 := looks_findIn (M := model prog w) X G.ga
  have L2 := looks_findIn (M := model prog w) X G.gh
  have f3 := FB.bind (.ref a)
  have k0 : onTheHeap (Value.builtin "BaseException.__getattribute__") = false := rfl
  have k2 : (Value.builtin "BaseException.__getattribute__" == Value.builtin "object.__getattribute__") = false := by decide +kernel
  have k1 : (onTheHeap (Value.ref D) && Value.builtin "BaseException.__getattribute__" == Value.builtin "object.__getattribute__") = false := by rw [k2]; rfl
  repeat (any_goals (first | assumption | (with_reducible refine L0.at ?_) | (with_reducible refine L1.at ?_) | (with_reducible refine L2.at ?_) | wp_step))
  refine xc_call G X hx hc ?_
  repeat (any_goals (first | assumption | wp_step))
theorem xc_attr {Q : Option Value → Shared → Prop} (FB : Slot "ValueError" "__getattribute__" "BaseException.__getattribute__") (G : ExcG K D) (X : K.In h) (hx : h.get? a = some o) (hc : o.cls = .ref D) (hq : Q (some (.ref D)) ⟨h, g, d, t + 1, os⟩) :
    wpAny (model prog w) A (getAttr? (.ref a) "__class__") Q E ⟨h, g, d, t, os⟩ := by
  unfold getAttr? getAttrBy?
  repeat (any_goals (first | assumption | with_reducible apply xc_by FB G X hx hc | wp_step))
theorem kitx_exc (G : ExcG K D) (hcl : (clsIn K D).isSome = true) : KitX K (.ref a) (.ref D) (fun h => ∃ o, h.get? a = some o ∧ o.cls = .ref D) where
  ty := fun M h X ⟨o, hx, hc⟩ => hc ▸ (Looks.ld hx).andThen .now
  it := fun M h X _ => by
    unfold clsIn at hcl
    split at hcl
    · rename_i c' d' cd' sl' ho
      intro A' Q' E' s' k q
      unfold isType loadHead
      exact wpAny_bind (wpAny_loadPart (k _ _ (X _ _ ho)) (wpAny_pure q))
    · cases hcl
  ne := fun h tp dd its n sl X htp => by
    refine Bool.eq_false_iff.mpr fun q => ?_
    have e : D = tp := Value.ref.inj (beq_iff_eq.mp q)
    subst e
    unfold clsIn at hcl
    split at hcl
    · rename_i c' d' cd' sl' ho
      cases (X _ _ ho).symm.trans htp
    · cases hcl
  ca := fun {prog w A E Q s} X ⟨o, hx, hc⟩ k => by
    obtain ⟨h, g, d, t, os⟩ := s
    exact xc_attr F.excAttr_ValueError.ga G X hx hc k
end
structure IsxAt (K : Frag) (u : Value) (tab : List (Str × Bool)) : Prop where
  all : ∀ x b, tab.lookup x = some b → kitOne K (.ref (clsAt K x)) u = some b ∧ ExcG K (clsAt K x) ∧ (clsIn K (clsAt K x)).isSome = true
def isxT (tab : List (Str × Bool)) : Tr → Rs Tr
  | .exn x => match tab.lookup x with
    | some b => .ok (.bl b)
    | none => .bad
  | _ => .bad
section
variable {X : Cx} {e : Expr} {p p2 pos : Pos} {F : Rho → Rs Tr} {c : Str} {tab : List (Str × Bool)} {cv : V} {u : Value}
theorem call_isx (T : IsxAt X.K u tab) (hu : ∀ u', RelV cv u' → u' = u) : CallR X (.builtin "isinstance") (fun xs H Q => ∃ B y t, HB B H ∧ xs = [y, cv] ∧ Rep X.K (hid B H) y t ∧ Fi X H (isxT tab t) fun t => ∀ v H', Same H H' → Rep X.K (hid B H') v t → Q v H') := by
  intro pins s σ H xs us Q I r ⟨B, y, t, hb, ex, ry, q⟩
  subst ex
  obtain ⟨v, w', rfl, r1, r2⟩ := vals2 r
  cases hu w' r2
  cases ry with
  | @exn a oe x h hc =>
    cases r1
    have q1 := q
    unfold isxT at q1
    dsimp only at q1
    cases eb : tab.lookup x with
    | none => rw [eb] at q1; exact (show False from q1).elim
    | some b =>
      rw [eb] at q1
      obtain ⟨k1, k2, k3⟩ := T.all x b eb
      obtain ⟨ho, _⟩ := (show ObjOk X.prog X.w H s.heap a (.ext fun h => h.get? a = some oe) from I.hok a _ (hid_up h))
      exact kia_one (kitx_exc k2 k3) I.kIn ⟨oe, ho, hc⟩ k1 (fun z => nomatch z) fun tk => ⟨.bl b, H, I.tok _, rfl, (show ∀ v H', Same H H' → Rep X.K (hid B H') v (.bl b) → Q v H' from q1) _ H (Same.refl H) (.bl b)⟩
  | _ => exact (show False from q).elim
theorem isx_args (hv : PE X (.Name c p2) (tC cv)) (he : PE X e (tP X F)) (hst : isStar e = false) : PA X [e, .Name c p2] (fun σ H Q => ∃ B ρ, HB B H ∧ RepS X.K B H σ ρ ∧ Fi X H (F ρ) fun t => ∀ v H', Same H H' → Rep X.K (hid B H') v t → Q [v, cv] H') :=
  (pa_cons he (pa_cons hv pa_nil (star_cons _ _ rfl)) (star_cons _ _ hst)).weak fun σ H Q ⟨B, ρ, hb, r, q⟩ => ⟨B, ρ, hb, r, q.mono fun t qt v H1 s1 rv => qt v H1 s1 rv⟩
theorem t_isxG (T : IsxAt X.K (.ref (clsAt X.K c)) tab) (hm : X.mg c = some (.ref (clsAt X.K c))) (hi : X.mg "isinstance" = none) (he : PE X e (tP X F)) (hg : Gl X c := by rfl) (hg2 : Gl X "isinstance" := by rfl) (hdb : (c == ("__debug__" : Str)) = false := by decide) (hst : noStars [e, .Name c p2] = true := by rfl) :
    PE X (.Call (.Name "isinstance" p) [e, .Name c p2] [] pos) (tP X fun ρ => (F ρ).bind (isxT tab)) :=
  (pe_callB (call_isx (cv := .ref (clsAt X.K c)) T fun u' z => z) hg2 hi rfl (isx_args (pe_glob (v := .ref (clsAt X.K c)) hg hm rfl hdb) he (stars_head hst).1) (by decide) (by decide) (star_cons _ _ (stars_head hst).1) (star_none (stars_head hst).2)).weak fun σ H Q ⟨B, ρ, hb, r, q⟩ => ⟨B, ρ, hb, r, q.bind.mono fun t qt v H1 s1 rv => ⟨B, v, t, hb.same s1, rfl, rv, (qt.same s1).mono fun t k v H2 s2 r2 => k v H2 (s1.trans s2) r2⟩⟩
theorem t_isxB {n : String} (T : IsxAt X.K (.type n) tab) (hm : X.mg c = none) (hi : X.mg "isinstance" = none) (he : PE X e (tP X F)) (hv : bootBuiltins c = some (.type n) := by rfl) (hg : Gl X c := by rfl) (hn : c ≠ "__name__" := by decide) (hg2 : Gl X "isinstance" := by rfl) (hdb : (c == ("__debug__" : Str)) = false := by decide) (hst : noStars [e, .Name c p2] = true := by rfl) :
    PE X (.Call (.Name "isinstance" p) [e, .Name c p2] [] pos) (tP X fun ρ => (F ρ).bind (isxT tab)) :=
  (pe_callB (call_isx (cv := .ty n) T fun u' z => z) hg2 hi rfl (isx_args (pe_bltn (v := .ty n) hg hm hv rfl hn hdb) he (stars_head hst).1) (by decide) (by decide) (star_cons _ _ (stars_head hst).1) (star_none (stars_head hst).2)).weak fun σ H Q ⟨B, ρ, hb, r, q⟩ => ⟨B, ρ, hb, r, q.bind.mono fun t qt v H1 s1 rv => ⟨B, v, t, hb.same s1, rfl, rv, (qt.same s1).mono fun t k v H2 s2 r2 => k v H2 (s1.trans s2) r2⟩⟩
end
end L2
namespace L2
open PySem PySem.Spec PySem.Calls PyProof.Rows
section
variable {X : Cx} {pins : List (Addr × Obj)} {σ : St} {H : Hp} {s : Shared}
theorem Inv.reframed {m : Str → Option Value} {h' : Heap} {tk : Nat} (I : Inv X pins σ H s) (hn0 : s.heap.Ns X.env.locals m) (hn : h'.Ns X.env.locals m) (kp : ∀ b o, b ≠ X.env.locals → s.heap.get? b = some o → h'.get? b = some o) : Inv X pins σ H { s with heap := h', toks := tk } := by
  obtain ⟨m0, hm0, hl⟩ := id I.loc
  have cne := I.cne
  have lo : ∀ {b : Addr} {o : Obj}, X.s₀.heap.get? b = some o → b ≠ X.env.locals := fun {b o} e => Nat.ne_of_lt (Nat.lt_of_lt_of_le (Heap.lt_size e) I.ok.above)
  have em : m0 = m := by
    obtain ⟨o1, es1, ep1, a1, b1, _, d1⟩ := hm0
    obtain ⟨o2, es2, ep2, a2, b2, _, d2⟩ := hn0
    rw [a1] at a2; cases a2
    rw [b1] at b2; cases b2
    funext x
    rw [← d1 x, ← d2 x]
  subst em
  refine ⟨I.ok, I.os, I.bare, ⟨fun b o e n hb hx => kp b o (lo e) (I.base.keep b o e n hb hx), fun b o e n hb hx => ?_, I.base.free, fun b o e hx => ?_, I.base.tups, I.base.frzs, I.base.tbls⟩, ⟨m0, hn, fun j y v' e1 e2 e3 => ?_⟩, fun y c e => ?_, I.free, I.freeC, fun p hp => ?_, fun b u e => ?_, I.len⟩
  · obtain ⟨sl, e1⟩ := I.base.slot b o e n hb hx
    exact ⟨sl, kp b _ (lo e) e1⟩
  · obtain ⟨o', e1⟩ := I.base.there b o e hx
    exact ⟨o', kp b o' (lo e) e1⟩
  · obtain ⟨u', r', q⟩ := hl j y v' e1 e2 e3
    refine ⟨u', r', ?_⟩
    rcases q with ⟨k, e⟩ | ⟨k, c, e, z⟩
    · exact .inl ⟨k, e⟩
    · obtain ⟨oc, e5, e6⟩ := id z
      exact .inr ⟨k, c, e, oc, kp c oc (cne y c e) e5, e6⟩
  · obtain ⟨w', z⟩ := I.cell y c e
    obtain ⟨oc, e5, e6⟩ := id z
    exact ⟨w', oc, kp c oc (cne y c e) e5, e6⟩
  · obtain ⟨e, n, ne, nf, d⟩ := I.pin p hp
    exact ⟨kp p.1 p.2 ne e, n, ne, nf, d⟩
  · refine (I.hok b u e).stay (fun c w' hc q => kp c w' ?_ q) (fun _ q => q) fun _ _ q => q
    rintro rfl
    rcases hc with rfl | hc
    · rw [I.free] at e; cases e
    · rw [I.free] at hc; cases hc
end
end L2
namespace L2
open PySem PySem.Spec PySem.Calls PyProof.Rows
theorem nolen_lri : typeLookup (.type "list_reverseiterator") "__len__" = pure none := by rw [typeLookup_type, builtinLookup_eq_fast]; kernel_rfl
theorem hint_lri : typeLookup (.type "list_reverseiterator") "__length_hint__" = pure (some (.builtin "list_reverseiterator.__length_hint__")) := by rw [typeLookup_type, builtinLookup_eq_fast]; kernel_rfl
section
variable {prog : Program} {w : World} {A : Around} {E : Value → Shared → Prop} {s : Shared} {I l : Addr}
theorem collect_rev {Q : List Value → Shared → Prop} {vs : List Value} (hh : A.handled = none) (hne : l ≠ I) (hl : s.heap.IsList l vs.toArray) (hi : s.heap.IsRevIter I l ((vs.length : Int) - 1)) (hn : vs.length ≤ sizeLine)
    (hQ : ∀ h' tk, (∀ b o, b ≠ I → s.heap.get? b = some o → h'.get? b = some o) → Q vs.reverse { s with heap := h', toks := tk }) : wpAny (model prog w) A (collect (.ref I)) Q E s := by
  have hlt : I < s.heap.objs.size := by obtain ⟨o, ho, _⟩ := hi; exact Heap.lt_size ho
  have hlt2 : l < s.heap.objs.size := by obtain ⟨o, ho, _⟩ := hl; exact Heap.lt_size ho
  have hsz : vs.toArray.size = vs.length := by simp
  have W := (Walks.listRev (prog := prog) (w := w) (A := A.in1) hh I l hne vs.toArray).toS
  rw [hsz] at W
  have hT : ∀ i (s : Shared), (i ≤ vs.length ∧ s.heap.IsRevIter I l ((vs.length : Int) - 1 - (i : Int)) ∧ s.heap.IsList l vs.toArray) → s.TypeIs (.ref I) "list_reverseiterator" := fun i s x => x.2.1.typeIs
  have hst : 0 ≤ vs.length ∧ s.heap.IsRevIter I l ((vs.length : Int) - 1 - ((0 : Nat) : Int)) ∧ s.heap.IsList l vs.toArray := ⟨Nat.zero_le _, by rw [show (vs.length : Int) - 1 - ((0 : Nat) : Int) = (vs.length : Int) - 1 by omega]; exact hi, hl⟩
  have hSf : s.heap.objs.size ∉ [I, l] := fun hm => by
    rcases List.mem_cons.mp hm with e | hm
    · exact absurd hlt (by rw [e]; exact Nat.lt_irrefl _)
    · exact absurd hlt2 (by rw [List.mem_singleton.mp hm]; exact Nat.lt_irrefl _)
  have hSI : s.heap.objs.size ≠ I := fun e => hSf (by rw [e]; exact List.mem_cons_self ..)
  unfold collect
  refine wpAny_bind (wpAny_runValue (codeAny_builtin entry_proto_collect' ?_))
  rw [Around.under_plainId PySem.F.plain_proto_collect _]
  show wpAny _ A.in1 (newList [] >>= fun z => again (.builtin "list.__iadd__" ⟨[z, .ref I], []⟩)) _ _ s
  refine wpAny_bind (wpAny_newObj_type ?_)
  refine wpAny_pure ⟨plainId_quiet PySem.F.plain_list_iadd _, codeAny_builtin entry_list_iadd' ?_⟩
  rw [Around.under_plainId PySem.F.plain_list_iadd _]
  have hst1 := W.frame 0 s (s.heap.push { cls := .type "list", data := .seq ([] : List Value).toArray }) s.toks hst (Nat.le_refl _) fun b _ o e => Heap.get?_push_of_some _ e
  have hS1 : (s.heap.push { cls := .type "list", data := .seq ([] : List Value).toArray }).get? s.heap.objs.size = some { cls := .type "list", data := .seq #[] } := Heap.get?_push_size _ rfl
  have h1 : Builtin.List.listSameRef (.ref s.heap.objs.size) (.ref I) = false := by simp [Builtin.List.listSameRef, hSI]
  show wpAny _ A.in1 (Builtin.List.listExtendWith (.ref s.heap.objs.size) (.ref I) (.ref s.heap.objs.size)) _ _ _
  unfold Builtin.List.listExtendWith
  refine wpAny_bind (wpAny_typeOf (hT 0 _ hst1) ?_)
  rw [if_neg (by rw [h1]; decide)]
  refine wpAny_bind (W.self 0 _ _ _ hst1 ?_)
  refine wpAny_bind (wpAny_holding ?_)
  unfold Builtin.List.listLengthHint
  refine wpAny_bind (wpAny_specialOf (hT 0 _ hst1) nolen_lri ?_)
  show wpAny _ A.in1 (specialOf (Value.ref I) (Str.ofString "__length_hint__") >>= _) _ _ _
  refine wpAny_bind (wpAny_specialOf (hT 0 _ hst1) hint_lri ?_)
  generalize hid : ("list_reverseiterator.__length_hint__" : String) = id0
  wp_delta
  rw [show splitId id0 = some ("list_reverseiterator", "__length_hint__") from by subst hid; decide +kernel]
  subst hid
  refine wpAny_bind (wpAny_isInstance (b := true) (hT 0 _ hst1) (by rw [isSubtype_type]; kernel_rfl) ?_)
  refine wpAny_pure ?_
  rw [if_neg (by decide)]
  refine wpAny_pure ⟨plainId_quiet PySem.F.plain_extend_loop _, codeAny_extend_loopS W hn _ hSf _ vs.length 0 _ _ _ rfl (Nat.zero_le _) hst1 hS1 (ItemsOf.nil _) fun s' acc' c' hm hS' hacc => ?_⟩
  show wpAny _ A (load s.heap.objs.size >>= _) _ _ s'
  refine wpAny_bind (wpAny_load hS' ?_)
  have e : acc'.toList = vs.reverse := by
    refine List.ext_getElem? fun i => ?_
    by_cases hi' : i < vs.length
    · have q1 : acc'.toList[i]? = some (acc'[i]'(by rw [hacc.1]; exact hi')) := by rw [Array.getElem?_toList]; exact Array.getElem?_eq_getElem _
      have q2 := hacc.2 i _ (Array.getElem?_eq_getElem (by rw [hacc.1]; exact hi'))
      rw [q1, List.getElem?_reverse hi', ← q2]
      simp
    · rw [List.getElem?_eq_none (by rw [Array.length_toList, hacc.1]; omega), List.getElem?_eq_none (by rw [List.length_reverse]; omega)]
  show wpAny _ _ (pure acc'.toList) _ _ _
  rw [e]
  obtain ⟨hk, hg, hd, ho, ht⟩ := hm
  obtain ⟨hp', gn', dr', tk', os'⟩ := s'
  cases (show gn' = s.gens from hg)
  cases (show dr' = s.drawn from hd)
  cases (show os' = s.os from ho)
  exact wpAny_pure (hQ hp' tk' fun b o nb eb => hk b o (fun hm => by
    rcases List.mem_cons.mp hm with e | hm
    · exact absurd (Heap.lt_size eb) (by rw [e]; exact Nat.lt_irrefl _)
    · exact nb (List.mem_singleton.mp hm)) (Heap.get?_push_of_some _ eb))
theorem gives_tail (x : Str) (rs : List (Str × Tok)) (hok : Builtin.Str.tooLong ((rs.map (·.1)).toArray.foldl (· + ·.length + x.length) 0) = false) : Gives (joinTail x (strValues rs)) (joinMade x rs) := by
  have g0 := gives_joinTail x rs hok
  cases rs with
  | nil => exact g0
  | cons p r => cases r <;> exact g0
theorem join_rev {Q : Value → Shared → Prop} {x : Str} {t : Tok} {ls : List (Str × Tok)} (hh : A.handled = none) (hne : l ≠ I) (hl : s.heap.IsList l (strValues ls).toArray) (hi : s.heap.IsRevIter I l (((strValues ls).length : Int) - 1)) (hn : (strValues ls).length ≤ sizeLine)
    (hok : JoinOk x (ls.reverse.map (·.1)) = true) (hQ : ∀ h' tk t', (∀ b o, b ≠ I → s.heap.get? b = some o → h'.get? b = some o) → Q (.str (Txt.join x (ls.reverse.map (·.1))) t') { s with heap := h', toks := tk }) : wpAny (model prog w) A (call (.builtin "str.join") [.str x t, .ref I]) Q E s := by
  refine wpAny_call (codeAny_call_builtin PySem.F.slot_str_join.plain PySem.F.entry_str_join (PySem.F.slot_str_join.check _ _ _ _ _ _ _ _ (typeIs_str _ _ _) (PySem.F.args_str_join_2 _ _) ?_))
  rw [join_tree_other]
  refine wpAny_bind (wpAny_typeOf hi.typeIs ?_)
  show wpAny _ A.in1 ((pyIter (.ref I)).tryCatch _ >>= fun z => collect z >>= fun zs => joinTail x zs) _ _ s
  refine wpAny_bind (wpAny_tryCatch (wpAny_pyIter_revIter hi ?_))
  refine wpAny_bind (collect_rev (A := A.in1) hh hne hl hi hn fun h' tk kp => ?_)
  have e : (strValues ls).reverse = strValues ls.reverse := by
    show (ls.map _).reverse = ls.reverse.map _
    rw [List.map_reverse]
  rw [e]
  unfold JoinOk at hok
  rw [Bool.not_eq_true'] at hok
  have g := gives_tail x ls.reverse hok
  exact g prog w A (wants Q E) _ (post_join ls.reverse ⟨joinFit_length hok, fun t' k => hQ h' k t' kp⟩)
end
section
variable {X : Cx} {o e : Expr} {F G : Rho → Rs Tr} {apos cpos p1 p2 : Pos}
theorem Inv.grown {pins : List (Addr × Obj)} {σ : St} {H : Hp} {s : Shared} {h' : Heap} {tk : Nat} (I : Inv X pins σ H s) (kp : ∀ b o, s.heap.get? b = some o → h'.get? b = some o) : Inv X pins σ H { s with heap := h', toks := tk } := by
  obtain ⟨m, hn, _⟩ := id I.loc
  exact I.reframed hn (hn.at' fun o q => kp _ _ q) fun b o _ q => kp b o q
def joinRev (a b : Rs Tr) : Rs Tr := a.bind fun t => match t with
  | .str z => b.bind fun u => match u with
    | .lst ts => (strsL ts).bind fun zs => if JoinOk z zs.reverse = true ∧ (Txt.join z zs.reverse).length ≤ txMax then .ok (.str (Txt.join z zs.reverse)) else .bad
    | _ => .bad
  | _ => .bad
def tJR (X : Cx) (to te : TE) : TE := fun σ H Q => to σ H fun x H1 => ∃ z, x = .str z ∧ te σ H1 fun y H2 => ∃ (p : Addr) (ts : List Str), [y] = [V.ref p] ∧ SqL X.K H2 p (ts.map V.str) ∧ JoinOk z ts.reverse = true ∧ Q (.str (Txt.join z ts.reverse)) H2
theorem pe_joinRev {to te : TE} (hm : X.mg "reversed" = none) (ho : PE X o to) (he : PE X e te) (hc : X.calm = true) (hg : Gl X "reversed") (hbase : isCall o = false) (hst : noStars [e] = true) (hline : (apos.endLine == cpos.line) = true) :
    PE X (.Call (.Attribute o "join" apos) [.Call (.Name "reversed" p1) [e] [] p2] [] cpos) (tJR X to te) := by
  intro pins s σ H Q I h
  refine wpAny_Call_method_late (base_no hbase) rfl hline rfl (thn (ho pins s σ H _ I h) fun v s1 ⟨x, H1, I1, r1, z, ex, q1⟩ => ?_)
  subst ex
  obtain ⟨t, rfl⟩ := r1
  refine ⟨"str", "str.join", PySem.F.plainAttrs_str, PySem.F.slot_str_join, PySem.F.type_str_join, typeIs_str _ _ _, (fun a e => by cases e), ?_⟩
  refine Calls.callWith_builtin rfl (Calls.evalArgs_plain (Calls.spliced_cons ?_))
  refine wpAny_Call_Name_kw (ld_blt I1 hg hm rfl ?_ (by decide) (by decide))
  refine PyProof.Rows.callWith_type1 ?_ (star_cons _ _ (stars_head hst).1) (star_none (stars_head hst).2)
  refine thn (pa_cons he pa_nil (star_cons _ _ (stars_head hst).1) p2 pins s1 σ H1 (fun vs H2 => ∃ (p : Addr) (ts : List Str), vs = [V.ref p] ∧ SqL X.K H2 p (ts.map V.str) ∧ JoinOk z ts.reverse = true ∧ Q (.str (Txt.join z ts.reverse)) H2) I1 q1) fun us s2 ⟨vs, H2, I2, r2, q2⟩ => ?_
  obtain ⟨p, ts, rfl, hl, hok, q⟩ := q2
  obtain ⟨u, rfl, ru⟩ := vals1 r2
  cases (show u = Value.ref p from ru)
  obtain ⟨its, rv, pl, hz⟩ := I2.list hl
  obtain ⟨ls, rfl, e2⟩ := strs_of rv
  have hlt : p < s2.heap.objs.size := by obtain ⟨o, ho, _⟩ := pl.isList; exact Heap.lt_size ho
  have e3 : ls.reverse.map (·.1) = ts.reverse := by rw [List.map_reverse, e2]
  refine call_reversed_list pl.isList (Calls.spliced_nil ?_)
  have hsz : (((strValues ls).toArray.size : Nat) : Int) - 1 = ((strValues ls).length : Int) - 1 := by simp
  refine join_rev (ls := ls) (I := s2.heap.objs.size) (l := p) (I2.ok.hd hc) (Nat.ne_of_lt hlt) (pl.isList.at fun o q => Heap.get?_push_of_some _ q) ⟨_, Heap.get?_push_size _ rfl, rfl, by rw [hsz]; rfl⟩ (by have := congrArg List.length e2; rw [List.length_map] at this; show (ls.map _).length ≤ _; rw [List.length_map] at hz ⊢; omega) (by rw [e3]; exact hok) fun h' tk t' kp => ?_
  rw [e3]
  exact ⟨.str _, H2, I2.grown fun b o q => kp b o (Nat.ne_of_lt (Heap.lt_size q)) (Heap.get?_push_of_some _ q), ⟨_, rfl⟩, q⟩
theorem t_joinRev (hm : X.mg "reversed" = none) (ho : PE X o (tP X F)) (he : PE X e (tP X G)) (hc : X.calm = true := by rfl) (hg : Gl X "reversed" := by rfl) (hbase : isCall o = false := by rfl) (hst : noStars [e] = true := by rfl) (hline : (apos.endLine == cpos.line) = true := by rfl) :
    PE X (.Call (.Attribute o "join" apos) [.Call (.Name "reversed" p1) [e] [] p2] [] cpos) (tP X fun ρ => joinRev (F ρ) (G ρ)) :=
  (pe_joinRev hm ho he hc hg hbase hst hline).weak fun σ H Q ⟨B, ρ, hb, r, q⟩ => ⟨B, ρ, hb, r, q.bind.mono fun t qt v H1 s1 rv => by
    cases rv with
    | str z hz =>
      refine ⟨z, rfl, B, ρ, hb.same s1, r.same s1, ((Fi.bind qt).same s1).mono fun u qu v2 H2 s2 rv2 => ?_⟩
      cases rv2 with
      | lst hl rr =>
        rename_i us
        dsimp only at qu
        cases e : strsL us with
        | ok zs =>
          rw [e] at qu
          obtain ⟨⟨h1, h2⟩, k⟩ := fi_if qu
          have e2 := strsL_ok e
          subst e2
          have e3 := reps_strs_inv rr
          subst e3
          exact ⟨_, zs, rfl, .of (hid_up hl), h1, k _ H2 (s1.trans s2) (.str _ h2)⟩
        | exc c => exact (strsL_exc e).elim
        | bad => rw [e] at qu; exact (show False from qu).elim
      | _ => exact (show False from qu).elim
    | _ => exact (show False from qt).elim⟩
def PE1 (X : Cx) (e : Expr) (t : TE) : Prop :=
  ∀ (pins : List (Addr × Obj)) (s : Shared) (σ : St) (H : Hp) (Q : VK), Inv X pins σ H s → 1 ≤ s.toks → t σ H Q → wpAny (model X.prog X.w) X.A (eval e X.env) (EP X pins σ Q) X.xe s
theorem PE.one {t : TE} (h : PE X e t) : PE1 X e t := fun pins s σ H Q I _ q => h pins s σ H Q I q
theorem PE1.weak {t t' : TE} (h : PE1 X e t) (w : ∀ σ H Q, t' σ H Q → t σ H Q) : PE1 X e t' := fun pins s σ H Q I k q => h pins s σ H Q I k (w σ H Q q)
def isCallN : Expr → Bool
  | .Call (.Name ..) .. => true
  | _ => false
theorem base_noN {o : Expr} {x : Str} {env : Env} {w : Sem Value} (h : isCallN o = false) : attributeBase o x env w = w := by
  cases o with
  | Call f a k p => cases f <;> first | rfl | cases h
  | _ => rfl
def replR (a b : Str) (r : Rs Tr) : Rs Tr := r.bind fun t => match t with
  | .str z => if (a == b) = false ∧ b.length ≤ 14 ∧ z.length ≤ 1048576 ∧ (Txt.replace z a b).length ≤ txMax then .ok (.str (Txt.replace z a b)) else .bad
  | _ => .bad
def tRp (a b : Str) (to : TE) : TE := fun σ H Q => to σ H fun x H1 => ∃ z, x = .str z ∧ (a == b) = false ∧ b.length ≤ 14 ∧ z.length ≤ 1048576 ∧ Q (.str (Txt.replace z a b)) H1
variable {a b : Str} {j1 j2 : Nat} {pa pb : Pos}
theorem pe1_repl {to : TE} (ho : PE1 X o to) (hbase : isCallN o = false) (hline : (apos.endLine == cpos.line) = true) :
    PE1 X (.Call (.Attribute o "replace" apos) [.Constant (.str a) j1 pa, .Constant (.str b) j2 pb] [] cpos) (tRp a b to) := by
  intro pins s σ H Q I k h
  refine wpAny_Call_method_late (base_noN hbase) rfl hline rfl (wpAny_with_toks k (wpAny_mono (ho pins s σ H _ I k h) (fun v s1 ⟨x, H1, I1, r1, z, ex, hne, hb, hz, q1⟩ k1 => ?_) fun _ _ x _ => x))
  subst ex
  obtain ⟨t, rfl⟩ := r1
  refine ⟨"str", "str.replace", PySem.F.plainAttrs_str, PySem.F.slot_str_replace, PySem.F.type_str_replace, typeIs_str _ _ _, (fun a e => by cases e), ?_⟩
  refine Calls.callWith_builtin rfl (Calls.evalArgs_plain (Calls.spliced_cons (Calls.Constant_str (k := j1) (pos := pa) (Calls.spliced_cons (Calls.Constant_str (k := j2) (pos := pb) (Calls.spliced_nil ?_))))))
  exact SC.replaceW (Nat.ne_of_gt k1) (Nat.succ_ne_zero _) (Nat.ne_of_lt (Nat.lt_succ_self _)) hne hz hb fun t' k' => ⟨.str _, H1, I1.tok _, ⟨_, rfl⟩, q1⟩
theorem t_repl1 (ho : PE1 X o (tP X F)) (hbase : isCallN o = false := by rfl) (hline : (apos.endLine == cpos.line) = true := by rfl) :
    PE1 X (.Call (.Attribute o "replace" apos) [.Constant (.str a) j1 pa, .Constant (.str b) j2 pb] [] cpos) (tP X fun ρ => replR a b (F ρ)) :=
  (pe1_repl ho hbase hline).weak fun σ H Q ⟨B, ρ, hb, r, q⟩ => ⟨B, ρ, hb, r, q.bind.mono fun t qt v H1 s1 rv => by
    cases rv with
    | str z hz =>
      obtain ⟨⟨h1, h2, h3, h4⟩, k⟩ := fi_if qt
      exact ⟨z, rfl, h1, h2, h3, k _ H1 s1 (.str _ h4)⟩
    | _ => exact (show False from qt).elim⟩
theorem t_one1 (h : PE X o (tP X F)) : PE1 X o (tP X F) := h.one
theorem pe_opLit {op : Operator} {z : Str} {r : R2} {te : TE} (h : OpR X (binaryOp op) r) (he : PE1 X e te) : PE X (.BinOp (.Constant (.str z) j1 pa) op e cpos) (tOp r (tC (.str z)) te) := by
  intro pins s σ H Q I q
  refine wpAny_BinOp (Calls.Constant_str (k := j1) (pos := pa) ?_)
  refine thn (he pins _ σ H _ (I.tok _) (Nat.le_add_left 1 _) q) fun u s2 ⟨y, H2, I2, r2, q2⟩ => ?_
  exact h pins s2 σ H2 (.str z) y _ u Q I2 ⟨_, rfl⟩ r2 q2
theorem t_binLit {op : Operator} {z : Str} {h : Tr → Tr → Rs Tr} (ho : OpT X (binaryOp op) h) (he : PE1 X e (tP X F)) (hz : z.length ≤ txMax := by decide) : PE X (.BinOp (.Constant (.str z) j1 pa) op e cpos) (tP X fun ρ => op2 h (.ok (.str z)) (F ρ)) :=
  (pe_opLit ho he).weak fun σ H Q ⟨B, ρ, hb, r, q⟩ => ⟨B, ρ, hb, r, (Fi.bind (r := F ρ) q).mono fun y qy u H2 s2 r2 => ⟨B, _, y, hb.same s2, .str z hz, r2, (qy.same s2).mono fun t qt w H3 s3 r3 => qt w H3 (s2.trans s3) r3⟩⟩
end
end L2
namespace L2
open PySem PySem.Spec PySem.Calls PyProof.Rows
section
variable {X : Cx}
theorem vals_tok : ∀ l : List (Str × Tok), Vals ((l.map (·.1)).map V.str) (strValues l)
  | [] => .nil
  | a :: r => .cons ⟨_, rfl⟩ (vals_tok r)
theorem mt_splitN : MtM X "str.split" (fun x xs H Q => ∃ (z y : Str) (k : Int), x = .str z ∧ xs = [.str y, .int k] ∧ (y.length == 0) = false ∧ 0 ≤ k ∧ k < 1000 ∧ z.length + 2 ≤ sizeLine ∧ ∀ p, H p = none → Q (.ref p) (upd H p (.lst ((Txt.splitMax z y k).map V.str)))) := by
  intro pins s σ H x vs v us Q I rx rv h
  obtain ⟨z, y, k, rfl, rfl, hy, k0, k1, hz, q⟩ := h
  obtain ⟨t, rfl⟩ := rx
  obtain ⟨u, u2, rfl, ru, ru2⟩ := rv.two
  obtain ⟨tu, rfl⟩ := (show ∃ t, u = Value.str y t from ru)
  obtain ⟨tv, rfl⟩ := (show ∃ t, u2 = Value.int k t from ru2)
  have q0 := q _ I.fresh
  have hk : (decide (k < -(2 ^ 63 : Int)) || decide (k ≥ 2 ^ 63)) = false := by rw [decide_eq_false (by omega), decide_eq_false (by omega)]; rfl
  have hn : (Builtin.Str.partsBetween z (Builtin.Str.occurrences z y 0 z.length (limitOf z k)) y.length).length ≤ sizeLine := by
    have e1 := StrLaws.occ_length_le_len z y 0 z.length (limitOf z k)
    rw [length_partsBetween]; omega
  have fin : ∀ (l : List (Str × Tok)) (tk : Nat), l.map (·.1) = Txt.splitMax z y k → l.length ≤ sizeLine → EP X pins σ Q (.ref s.heap.objs.size) { s with heap := s.heap.push { cls := .type "list", data := .seq (strValues l).toArray }, toks := tk } := fun l tk e hl => by
    have hv := vals_tok l
    rw [e] at hv
    refine ⟨.ref s.heap.objs.size, _, I.lnew hv ?_, rfl, q0⟩
    rw [List.length_map, ← e, List.length_map]; exact hl
  cases h1 : (decide (z.length < y.length) || decide (Builtin.Str.strKind z < Builtin.Str.strKind y))
  · cases hf : (Builtin.Str.occurrences z y 0 z.length (limitOf z k)).isEmpty
    · refine call_meets PySem.F.slot_str_split (typeIs_str _ _ _) PySem.F.entry_str_split (PySem.F.args_str_split_3 _ _ _) (meets_str_split_sep_max z y k t tu tv hk h1 hy hf (by omega) hn) ?_
      rw [strsFrom_eq]
      refine fin (numbered s.toks _) _ ?_ ?_
      · rw [numbered_texts]
        unfold Txt.splitMax
        rw [if_neg (ne_true_of_eq_false h1), if_neg (ne_true_of_eq_false hf)]
      · have e := congrArg List.length (numbered_texts s.toks (Builtin.Str.partsBetween z (Builtin.Str.occurrences z y 0 z.length (limitOf z k)) y.length))
        rw [List.length_map] at e
        rw [e]; exact hn
    · refine call_meets PySem.F.slot_str_split (typeIs_str _ _ _) PySem.F.entry_str_split (PySem.F.args_str_split_3 _ _ _) (meets_str_split_max_not_found z y k t tu tv hk h1 hy hf) ?_
      refine fin [(z, t)] s.toks ?_ (by show 1 ≤ sizeLine; decide)
      unfold Txt.splitMax
      rw [if_neg (ne_true_of_eq_false h1), if_pos hf]; rfl
  · refine call_meets PySem.F.slot_str_split (typeIs_str _ _ _) PySem.F.entry_str_split (PySem.F.args_str_split_3 _ _ _) (meets_str_split_max_cannot_occur z y k t tu tv hk h1) ?_
    refine fin [(z, t)] s.toks ?_ (by show 1 ≤ sizeLine; decide)
    unfold Txt.splitMax
    rw [if_pos h1]; rfl
def splitM (z : Str) : List Tr → Rs Tr
  | [.str y] => if y.length = 1 then .ok (.lst ((Txt.split z y).map .str)) else .bad
  | [.str y, .int k] => if (y.length == 0) = false ∧ 0 ≤ k ∧ k < 1000 then .ok (.lst ((Txt.splitMax z y k).map .str)) else .bad
  | _ => .bad
theorem one_sign {y : Str} (h : y.length = 1) : ∃ c, y = ⟨#[c]⟩ := by
  obtain ⟨⟨l⟩⟩ := y
  match l, h with
  | [c], _ => exact ⟨c, rfl⟩
theorem m_splitS : MtR X "str.split" (rM X splitM) := by
  intro pins s σ H x xs v us Q I rx rv ⟨B, z, ts, hb, e, hz, r, q⟩
  subst e
  have hz2 : z.length + 2 ≤ sizeLine := by rw [sizeLine_eq]; unfold txMax at hz; omega
  unfold splitM at q
  split at q
  · obtain ⟨h1, k⟩ := fi_if q
    obtain ⟨c, rfl⟩ := one_sign h1
    cases r with
    | cons h r =>
      cases r; cases h
      exact mt_split pins s σ H _ _ v us Q I rx rv ⟨z, c, rfl, rfl, hz2, fun p hp => k _ _ (Same.upd hp) (.newL hb hp (reps_strs fun y hy => Nat.le_trans (part_short hy) hz))⟩
  · obtain ⟨⟨h1, h2, h3⟩, k⟩ := fi_if q
    cases r with
    | cons h r =>
      cases r with
      | cons h' r =>
        cases r; cases h; cases h'
        exact mt_splitN pins s σ H _ _ v us Q I rx rv ⟨z, _, _, rfl, rfl, h1, h2, h3, hz2, fun p hp => k _ _ (Same.upd hp) (.newL hb hp (reps_strs fun y hy => Nat.le_trans (partMax_short hy) hz))⟩
  · exact (show False from q).elim
def tri (p : Str × Str × Str) : List Str := [p.1, p.2.1, p.2.2]
theorem mt_part : MtM X "str.partition" (fun x xs H Q => ∃ (z y : Str), x = .str z ∧ xs = [.str y] ∧ (y.length == 0) = false ∧ z.length ≤ sizeLine ∧ ∀ p, H p = none → Q (.ref p) (upd H p (.tup ((tri (Txt.partition z y)).map V.str)))) := by
  intro pins s σ H x vs v us Q I rx rv h
  obtain ⟨z, y, rfl, rfl, hy, hz, q⟩ := h
  obtain ⟨t, rfl⟩ := rx
  obtain ⟨u, rfl, ru⟩ := rv.one
  obtain ⟨tu, rfl⟩ := (show ∃ t, u = Value.str y t from ru)
  have q0 := q _ I.fresh
  have fin : ∀ (a b c : Str) (ta tb tc tk : Nat), Txt.partition z y = (a, b, c) → EP X pins σ Q (.ref s.heap.objs.size) { s with heap := s.heap.push { cls := .type "tuple", data := .seq [.str a ta, .str b tb, .str c tc].toArray }, toks := tk } := fun a b c ta tb tc tk e => by
    rw [e] at q0
    refine ⟨.ref s.heap.objs.size, _, I.laid (o := .tup [.str a, .str b, .str c]) (fun _ _ q => Heap.get?_push_of_some _ q) (Nat.le_refl _) ⟨by show 3 ≤ sizeLine; decide, [.str a ta, .str b tb, .str c tc], .cons ⟨_, rfl⟩ (.cons ⟨_, rfl⟩ (.cons ⟨_, rfl⟩ .nil)), ⟨_, Heap.get?_push_size _ rfl, rfl, _, rfl⟩⟩, rfl, q0⟩
  refine call_meets PySem.F.slot_str_partition (typeIs_str _ _ _) PySem.F.entry_str_partition (PySem.F.args_str_partition_2 _ _) (meets_str_partition z y t tu hy hz) ?_
  cases eo : Builtin.Str.occurrences z y 0 z.length 1 with
  | nil => exact fin _ _ _ _ _ _ _ (by unfold Txt.partition; rw [eo])
  | cons i r => exact fin _ _ _ _ _ _ _ (by unfold Txt.partition; rw [eo])
theorem mt_rpart : MtM X "str.rpartition" (fun x xs H Q => ∃ (z y : Str), x = .str z ∧ xs = [.str y] ∧ (y.length == 0) = false ∧ z.length ≤ sizeLine ∧ ∀ p, H p = none → Q (.ref p) (upd H p (.tup ((tri (Txt.rpartition z y)).map V.str)))) := by
  intro pins s σ H x vs v us Q I rx rv h
  obtain ⟨z, y, rfl, rfl, hy, hz, q⟩ := h
  obtain ⟨t, rfl⟩ := rx
  obtain ⟨u, rfl, ru⟩ := rv.one
  obtain ⟨tu, rfl⟩ := (show ∃ t, u = Value.str y t from ru)
  have q0 := q _ I.fresh
  have fin : ∀ (a b c : Str) (ta tb tc tk : Nat), Txt.rpartition z y = (a, b, c) → EP X pins σ Q (.ref s.heap.objs.size) { s with heap := s.heap.push { cls := .type "tuple", data := .seq [.str a ta, .str b tb, .str c tc].toArray }, toks := tk } := fun a b c ta tb tc tk e => by
    rw [e] at q0
    refine ⟨.ref s.heap.objs.size, _, I.laid (o := .tup [.str a, .str b, .str c]) (fun _ _ q => Heap.get?_push_of_some _ q) (Nat.le_refl _) ⟨by show 3 ≤ sizeLine; decide, [.str a ta, .str b tb, .str c tc], .cons ⟨_, rfl⟩ (.cons ⟨_, rfl⟩ (.cons ⟨_, rfl⟩ .nil)), ⟨_, Heap.get?_push_size _ rfl, rfl, _, rfl⟩⟩, rfl, q0⟩
  refine call_meets PySem.F.slot_str_rpartition (typeIs_str _ _ _) PySem.F.entry_str_rpartition (PySem.F.args_str_rpartition_2 _ _) (meets_str_rpartition z y t tu hy hz) ?_
  cases eo : Builtin.Str.lastOccurrence z y 0 z.length with
  | none => exact fin _ _ _ _ _ _ _ (by unfold Txt.rpartition; rw [eo])
  | some i => exact fin _ _ _ _ _ _ _ (by unfold Txt.rpartition; rw [eo])
theorem sub_len (x : Str) (i j : Nat) : (Builtin.Str.strSub x i j).length ≤ x.length := strSub_length_le ..
theorem part_len {z y : Str} (h : y.length ≤ txMax) (hz : z.length ≤ txMax) : ∀ a ∈ tri (Txt.partition z y), a.length ≤ txMax := by
  unfold Txt.partition
  split
  · intro a m
    rcases List.mem_cons.mp m with rfl | m
    · exact Nat.le_trans (sub_len ..) hz
    · rcases List.mem_cons.mp m with rfl | m
      · exact h
      · rw [List.mem_singleton.mp m]; exact Nat.le_trans (sub_len ..) hz
  · intro a m
    rcases List.mem_cons.mp m with rfl | m
    · exact hz
    · rcases List.mem_cons.mp m with rfl | m
      · exact Nat.zero_le _
      · rw [List.mem_singleton.mp m]; exact Nat.zero_le _
theorem rpart_len {z y : Str} (h : y.length ≤ txMax) (hz : z.length ≤ txMax) : ∀ a ∈ tri (Txt.rpartition z y), a.length ≤ txMax := by
  unfold Txt.rpartition
  split
  · intro a m
    rcases List.mem_cons.mp m with rfl | m
    · exact Nat.le_trans (sub_len ..) hz
    · rcases List.mem_cons.mp m with rfl | m
      · exact h
      · rw [List.mem_singleton.mp m]; exact Nat.le_trans (sub_len ..) hz
  · intro a m
    rcases List.mem_cons.mp m with rfl | m
    · exact Nat.zero_le _
    · rcases List.mem_cons.mp m with rfl | m
      · exact Nat.zero_le _
      · rw [List.mem_singleton.mp m]; exact hz
def partM (z : Str) : List Tr → Rs Tr
  | [.str y] => if (y.length == 0) = false then .ok (.tup ((tri (Txt.partition z y)).map .str)) else .bad
  | _ => .bad
def rpartM (z : Str) : List Tr → Rs Tr
  | [.str y] => if (y.length == 0) = false then .ok (.tup ((tri (Txt.rpartition z y)).map .str)) else .bad
  | _ => .bad
theorem m_part : MtR X "str.partition" (rM X partM) := by
  intro pins s σ H x xs v us Q I rx rv ⟨B, z, ts, hb, e, hz, r, q⟩
  subst e
  have hz2 : z.length ≤ sizeLine := by rw [sizeLine_eq]; unfold txMax at hz; omega
  unfold partM at q
  split at q
  · obtain ⟨h1, k⟩ := fi_if q
    cases r with
    | cons h r =>
      cases r
      cases h with
      | str y hy => exact mt_part pins s σ H _ _ v us Q I rx rv ⟨z, _, rfl, rfl, h1, hz2, fun p hp => k _ _ (Same.upd hp) (.newT hb hp (reps_strs (part_len hy hz)))⟩
  · exact (show False from q).elim
theorem m_rpart : MtR X "str.rpartition" (rM X rpartM) := by
  intro pins s σ H x xs v us Q I rx rv ⟨B, z, ts, hb, e, hz, r, q⟩
  subst e
  have hz2 : z.length ≤ sizeLine := by rw [sizeLine_eq]; unfold txMax at hz; omega
  unfold rpartM at q
  split at q
  · obtain ⟨h1, k⟩ := fi_if q
    cases r with
    | cons h r =>
      cases r
      cases h with
      | str y hy => exact mt_rpart pins s σ H _ _ v us Q I rx rv ⟨z, _, rfl, rfl, h1, hz2, fun p hp => k _ _ (Same.upd hp) (.newT hb hp (reps_strs (rpart_len hy hz)))⟩
  · exact (show False from q).elim
def intST : List Tr → Rs Tr
  | [.int i] => .ok (.int i)
  | [.str z] => if z.length ≤ 640 then match PySem.intText? z with
    | some n => .ok (.int n)
    | none => .bad
    else .bad
  | _ => .bad
theorem c_intS : CallT X (.type "int") intST := by
  intro pins s σ H xs us Q I rv q
  obtain ⟨B, x, tx, t, rfl, hb, r, e, k⟩ := rC_one (fun ts t e => by unfold intST at e; split at e <;> first | rfl | cases e) (fun ts c e => by unfold intST at e; split at e <;> first | cases e | (split at e <;> first | cases e | (split at e <;> cases e))) q
  cases r with
  | int i => cases e; exact call_int1 pins s σ H _ us Q I rv (.inl ⟨i, rfl, k _ H (Same.refl H) (.int _)⟩)
  | str z hz =>
    obtain ⟨u, rfl, ru⟩ := vals1 rv
    obtain ⟨tu, rfl⟩ := (show ∃ t, u = Value.str z t from ru)
    dsimp only [intST] at e
    split at e
    · rename_i h1
      split at e
      · rename_i n h2
        cases e
        exact PySem.W.KIN.call_text h2 h1 ⟨.int n, H, I.tok _, ⟨_, rfl⟩, k _ H (Same.refl H) (.int _)⟩
      · cases e
    · cases e
  | _ => cases e
end
end L2
namespace L2
open PySem PySem.Spec PySem.Calls PyProof.Rows
section
variable {X : Cx} {o e : Expr} {F G : Rho → Rs Tr} {apos cpos p1 p2 pos : Pos} {lo hi : Option Expr}
def PEB (X : Cx) (e : Expr) (t : TE) : Prop :=
  ∀ (pins : List (Addr × Obj)) (s : Shared) (σ : St) (H : Hp) (Q : VK), Inv X pins σ H s → t σ H Q → wpAny (model X.prog X.w) X.A (eval e X.env) (fun v s' => 1 ≤ s'.toks ∧ EP X pins σ Q v s') X.xe s
theorem PEB.weak {t t' : TE} (h : PEB X e t) (w : ∀ σ H Q, t' σ H Q → t σ H Q) : PEB X e t' := fun pins s σ H Q I q => h pins s σ H Q I (w σ H Q q)
variable {i : Int} {j : Nat} {P2 : Rho → Rs (Option Int)} {te : TE} {th : TO}
theorem pe_sliceB {r : V → Option Int → Option Int → Hp → VK → Prop} (hr : SlR X r) (he : PE X e te) (hu : PO X hi th) : PEB X (.Subscript e (.Slice (some (.Constant (.int i) j p1)) hi none p2) pos) (tSl r te (tPart (tC (.int i))) th) := by
  intro pins s σ H Q I h
  refine Subscript_ (thn (he pins s σ H _ I h) fun v s1 ⟨x, H1, I1, r1, q1⟩ => ?_)
  have hl : wpAny (model X.prog X.w) X.A (evalPart (some (.Constant (.int i) j p1)) X.env) (fun u s' => 1 ≤ s'.toks ∧ ∃ o H', Inv X pins σ H' s' ∧ IsPart u o ∧ th σ H' fun hi H3 => r x o hi H3 Q) X.xe s1 := by
    rw [evalPart_some]
    obtain ⟨i', e, q⟩ := q1
    cases e
    exact wpAny_Constant_int ⟨Nat.le_add_left .., some i, H1, I1.tok _, .int i _, q⟩
  refine wpAny_Slice (thn hl fun vl s2 ⟨k2, l, H2, I2, pl, q2⟩ => wpAny_with_toks k2 (wpAny_mono (hu pins s2 σ H2 _ I2 q2) (fun vu s3 ⟨u, H3, I3, pu, q3⟩ k3 => ?_) fun _ _ z _ => z))
  rw [evalPart_none]
  refine wpAny_pure ?_
  have I4 : Inv X pins σ H3 { s3 with heap := s3.heap.push { cls := .type "slice", data := .fields #[vl, vu, .none] } } := I3.kept (t' := s3.toks) fun b ob q => Heap.get?_push_of_some _ q
  obtain ⟨T, id, hT, ht, hg⟩ := hr pins { s3 with heap := s3.heap.push { cls := .type "slice", data := .fields #[vl, vu, .none] } } σ H3 x v vl vu l u s3.heap.objs.size Q I4 r1 (Heap.IsSliceOf.new ..) pl pu q3
  show wpAny (model X.prog X.w) X.A (subscriptTail e (.Slice (some (.Constant (.int i) j p1)) hi none p2) v (.ref s3.heap.objs.size)) (fun v s' => 1 ≤ s'.toks ∧ EP X pins σ Q v s') X.xe { s3 with heap := s3.heap.push { cls := .type "slice", data := .fields #[vl, vu, .none] } }
  exact wpAny_mono (wpAny_toks_of (n := 1) k3 (tail_any (ops := [.ref s3.heap.objs.size, v]) ht hT hg (by with_unfolding_all rfl))) (fun _ _ z => z) fun _ _ z => z.2
theorem t_slB (he : PE X e (tP X F)) (hu : PO X hi (tO X P2)) : PEB X (.Subscript e (.Slice (some (.Constant (.int i) j p1)) hi none p2) pos) (tP X fun ρ => slR (F ρ) (asI (.ok (.int i))) (P2 ρ)) :=
  (pe_sliceB x_sl he hu).weak fun σ H Q ⟨B, ρ, hb, r, q⟩ => ⟨B, ρ, hb, r, q.bind.mono fun t qt v H1 s1 r1 => ⟨i, rfl, B, ρ, hb.same s1, r.same s1, (Fi.bind (show Fi X H ((P2 ρ).bind _) _ from qt) |>.same s1).mono fun h qh H3 s3 =>
    ⟨B, t, hb.same (s1.trans s3), r1.same (hid_same s3), (qh.same (s1.trans s3)).mono fun t qt v H4 s4 r4 => qt v H4 ((s1.trans s3).trans s4) r4⟩⟩⟩
variable {a b : Str} {j1 j2 : Nat} {pa pb : Pos}
theorem pe_replB {to : TE} (ho : PEB X o to) (hbase : isCallN o = false) (hline : (apos.endLine == cpos.line) = true) :
    PEB X (.Call (.Attribute o "replace" apos) [.Constant (.str a) j1 pa, .Constant (.str b) j2 pb] [] cpos) (tRp a b to) := by
  intro pins s σ H Q I h
  refine wpAny_Call_method_late (base_noN hbase) rfl hline rfl (thn (ho pins s σ H _ I h) fun v s1 ⟨k1, x, H1, I1, r1, z, ex, hne, hb, hz, q1⟩ => ?_)
  subst ex
  obtain ⟨t, rfl⟩ := r1
  refine ⟨"str", "str.replace", PySem.F.plainAttrs_str, PySem.F.slot_str_replace, PySem.F.type_str_replace, typeIs_str _ _ _, (fun a e => by cases e), ?_⟩
  refine Calls.callWith_builtin rfl (Calls.evalArgs_plain (Calls.spliced_cons (Calls.Constant_str (k := j1) (pos := pa) (Calls.spliced_cons (Calls.Constant_str (k := j2) (pos := pb) (Calls.spliced_nil ?_))))))
  exact wpAny_mono (wpAny_toks_of (n := 1) (Nat.le_add_left 1 _) (SC.replaceW (Nat.ne_of_gt k1) (Nat.succ_ne_zero _) (Nat.ne_of_lt (Nat.lt_succ_self _)) hne hz hb fun t' k' => (show EP X pins σ Q _ _ from ⟨.str _, H1, I1.tok _, ⟨_, rfl⟩, q1⟩))) (fun _ _ z => z) fun _ _ z => z.2
theorem t_replB (ho : PEB X o (tP X F)) (hbase : isCallN o = false := by rfl) (hline : (apos.endLine == cpos.line) = true := by rfl) :
    PEB X (.Call (.Attribute o "replace" apos) [.Constant (.str a) j1 pa, .Constant (.str b) j2 pb] [] cpos) (tP X fun ρ => replR a b (F ρ)) :=
  (pe_replB ho hbase hline).weak fun σ H Q ⟨B, ρ, hb, r, q⟩ => ⟨B, ρ, hb, r, q.bind.mono fun t qt v H1 s1 rv => by
    cases rv with
    | str z hz =>
      obtain ⟨⟨h1, h2, h3, h4⟩, k⟩ := fi_if qt
      exact ⟨z, rfl, h1, h2, h3, k _ H1 s1 (.str _ h4)⟩
    | _ => exact (show False from qt).elim⟩
theorem t_unB (h : PEB X o (tP X F)) : PE X o (tP X F) := fun pins s σ H Q I q => thn (h pins s σ H Q I q) fun _ _ z => z.2
end
end L2
namespace L2
open PySem PySem.Spec PySem.Calls PyProof.Rows
section
variable {X : Cx} {F : Rho → Rs Tr} {pos : Pos}
def reprT : Tr → Rs Tr
  | .str z => if (reprText z).length ≤ txMax then .ok (.str (reprText z)) else .bad
  | _ => .bad
theorem t_fvalR {v : Expr} (h : PE X v (tP X F)) : PE X (.FormattedValue v 114 none pos) (tP X fun ρ => (F ρ).bind reprT) := by
  intro pins s σ H Q I ⟨B, ρ, hb, r, q⟩
  show wpAny _ _ (do let v ← eval v X.env; standAt pos; formatted pos (← holding [v] (converted 114 v)) none) _ _ s
  refine wpAny_bind (wpAny_mono (h pins s σ H (fun x H1 => ∃ t, Rep X.K (hid B H1) x t ∧ Same H H1 ∧ Fi X H (reprT t) fun t => ∀ v H', Same H H' → Rep X.K (hid B H') v t → Q v H') I ⟨B, ρ, hb, r, q.bind.mono fun t qt v H1 s1 r1 => ⟨t, r1, s1, qt⟩⟩) (fun u s1 ⟨x, H1, I1, rx, t, rt, sm, k⟩ => ?_) fun _ _ x => x)
  refine wpAny_bind (wpAny_standAt ?_)
  cases rt with
  | str z hz =>
    obtain ⟨tk, rfl⟩ := (show ∃ t, u = Value.str z t from rx)
    obtain ⟨k1, k⟩ := fi_if k
    show wpAny _ _ (do let v' ← holding [.str z tk] (pyReprObj (.str z tk)); formatField v' Str.empty) _ _ s1
    refine wpAny_bind (wpAny_holding (wpAny_pyReprObj_str ?_ (Nat.le_trans k1 tx_line)))
    exact formatField_str (fun t' tk' => ⟨.str (reprText z), H1, I1.tok _, ⟨_, rfl⟩, k _ H1 sm (.str _ k1)⟩) (Nat.le_trans k1 tx_line)
  | _ => exact (show False from k).elim
theorem range_any : ∀ (bs : List Bool), ((List.range bs.length).any fun i => (bs[i]?).getD false) = bs.any id := by
  intro bs
  rw [Bool.eq_iff_iff, List.any_eq_true, List.any_eq_true]
  constructor
  · rintro ⟨i, hi, h⟩
    have hlt := List.mem_range.mp hi
    rw [List.getElem?_eq_getElem hlt] at h
    exact ⟨bs[i], List.getElem_mem hlt, h⟩
  · rintro ⟨b, hb, h⟩
    obtain ⟨i, hlt, e⟩ := List.getElem_of_mem hb
    exact ⟨i, List.mem_range.mpr hlt, by rw [List.getElem?_eq_getElem hlt, e]; exact h⟩
theorem vals_bools : ∀ {bs : List Bool} {its : List Value}, Vals (bs.map V.bl) its → its = bs.map Value.bool
  | [], _, rv => by cases rv; rfl
  | b :: r, _, rv => by
    cases rv with
    | cons r1 r2 =>
      rw [List.map_cons, ← vals_bools r2]
      cases (show _ = Value.bool b from r1)
      rfl
theorem call_anyL (hc : X.calm = true) : CallR X (.builtin "any") (fun xs H Q => ∃ (p : Addr) (bs : List Bool), xs = [.ref p] ∧ SqL X.K H p (bs.map V.bl) ∧ Q (.bl (bs.any id)) H) := by
  intro pins s σ H xs us Q I r h
  obtain ⟨p, bs, rfl, hl, q⟩ := h
  obtain ⟨u, rfl, ru⟩ := vals1 r
  cases (show u = Value.ref p from ru)
  obtain ⟨its, rv, pl, hz⟩ := I.list hl
  have hb := vals_bools rv
  subst hb
  have hlt : p < s.heap.objs.size := by obtain ⟨o, n, e, _⟩ := pl; exact Heap.lt_size e
  refine call_any_walk (wpAny_pyIter_list pl.isList ?_)
  refine ⟨s.heap.objs.size, [s.heap.objs.size, p], [s.heap.objs.size], (bs.map Value.bool).toArray.size, _, _, fun i => (bs[i]?).getD false, rfl, Walks.list (A := X.A.in1) (I.ok.hd hc) _ p (Nat.ne_of_lt hlt) _,
    ⟨⟨_, Heap.get?_push_size _ rfl, rfl, rfl⟩, pl.isList.push _⟩, fun i v s' Q' E' hP hQ => ?_, fun h' tk hk => ?_⟩
  · have hP' : (bs.map Value.bool)[i]? = some v := by simpa using hP
    rw [List.getElem?_map] at hP'
    cases eb : bs[i]? with
    | none => rw [eb] at hP'; cases hP'
    | some b =>
      rw [eb] at hP'
      cases hP'
      simp only [eb, Option.getD_some] at hQ
      exact wpAny_truthy_bool hQ
  · have e : ((List.range (bs.map Value.bool).toArray.size).any fun i => (bs[i]?).getD false) = bs.any id := by
      rw [List.size_toArray, List.length_map]; exact range_any bs
    rw [e]
    exact ⟨.bl _, H, I.kept (LSm.kept_iter hk), rfl, q⟩
def anyT : List Tr → Rs Tr
  | [.lst ts] => (blsL ts).bind fun bs => .ok (.bl (bs.any id))
  | _ => .bad
theorem c_any (hc : X.calm = true) : CallT X (.builtin "any") anyT := by
  intro pins s σ H xs us Q I rv ⟨B, ts, hb, r, q⟩
  unfold anyT at q
  split at q
  · cases r with
    | cons h r =>
      cases r
      cases h with
      | lst hl rr =>
        obtain ⟨bs, k, e⟩ := bls_rep rr (Fi.bind q)
        subst e
        exact call_anyL hc pins s σ H _ us Q I rv ⟨_, bs, rfl, .of (hid_up hl), k _ H (Same.refl H) (.bl _)⟩
  · exact (show False from q).elim
theorem t_def0 {x : Str} {st : Stmt} {ps : List Str} {f : Addr} {fd : FuncData} {k : Nat} {h : List Tr → Rs Tr} {p : Pos} (D : DefAt X.K X.mg x st ps f fd) (G : FnOk X.prog X.w X.K X.mg X.base CX0 k f fd ps (spT X.K h)) (hr : Room k X.A)
    (hg : Gl X x := by rfl) (hdb : (x == ("__debug__" : Str)) = false := by decide) : PE X (.Call (.Name x p) [] [] pos) (tP X fun _ => h []) :=
  (pe_call0 (p := p) (pos := pos) G hr hg D.mg D.fn.kp D.bd .nil pass0 (hdb := hdb)).weak fun σ H Q ⟨B, ρ, hb, r, q⟩ => by
    cases e : h [] with
    | ok t => rw [e] at q; exact ⟨B, [], hb, .nil, t, e, fun v H2 s2 r2 => q v H2 s2 r2⟩
    | exc c => rw [e] at q; exact (q _ (Same.refl _)).elim
    | bad => rw [e] at q; exact q.elim
end
end L2
namespace L2
open PySem PySem.Spec PyProof.Rows
structure QE (X : Cx) (e : Expr) (F : Rho → Rs Tr) : Prop where
  h : PE X e (tP X F)
structure Q1 (X : Cx) (e : Expr) (F : Rho → Rs Tr) : Prop where
  h : PE1 X e (tP X F)
structure Q2 (X : Cx) (e : Expr) (F : Rho → Rs Tr) : Prop where
  h : PEB X e (tP X F)
structure QT (X : Cx) (e : Expr) (F : Rho → Rs Bool) : Prop where
  h : PT X e (tQ X F)
structure QW (X : Cx) (e : Expr) (F : Rho → Rs Bool) : Prop where
  h : PW X e (tQ X F)
structure QA (X : Cx) (e : List Expr) (F : Rho → Rs (List Tr)) : Prop where
  h : PA X e (tPA X F)
structure QS (X : Cx) (e : Stmt) (F : Rho → Rs Out) : Prop where
  h : PS X e (tS X F)
structure QB (X : Cx) (e : List Stmt) (F : Rho → Rs Out) : Prop where
  h : PSs X e (tS X F)
structure QG (X : Cx) (e : Expr) (F : Tgt) : Prop where
  h : PG X e (tG X F)
structure QGs (X : Cx) (e : List Expr) (F : List Tr → Rho → Rs Rho) : Prop where
  h : PGs X e (tGs X F)
structure QI (X : Cx) (tg e : Expr) (F : Rho → Rs (List Tr)) : Prop where
  h : PI X tg e (tI X F)
structure QO (X : Cx) (e : Option Expr) (F : Rho → Rs (Option Int)) : Prop where
  h : PO X e (tO X F)
structure QF (X : Cx) (e : List Expr) (F : Rho → Rs Bool) : Prop where
  h : PF X e (tQ X F)
structure ZE (X : Cx) (e : Expr) (F : Rho → Ab → Rz Tr) : Prop where
  h : PE X e (tE X F)
structure NE (X : Cx) (e : Expr) (F : Rho → Rs Tr) : Prop where
  h : PE X e (tF X F)
structure ZT (X : Cx) (e : Expr) (F : Rho → Ab → Rz Bool) : Prop where
  h : PT X e (tEQ X F)
structure ZL (X : Cx) (e : List Expr) (F : Rho → Ab → Rz (List Tr)) : Prop where
  h : PA X e (tEA X F)
structure ZS (X : Cx) (e : Stmt) (F : Rho → Ab → Rz Out) : Prop where
  h : PS X e (tZ X F)
structure ZB (X : Cx) (e : List Stmt) (F : Rho → Ab → Rz Out) : Prop where
  h : PSs X e (tZ X F)
structure BlkQ (X : Cx) (scope : Scope) (N' : List Str) (tg elt : Expr) (ifs : List Expr) (T : Tgt) (A : Rho → Rs Bool) (F : Rho → Rs Tr) : Prop where
  all : ∀ s H ex, QG (cxC X scope N' s H ex) tg T ∧ QF (cxC X scope N' s H ex) ifs A ∧ QE (cxC X scope N' s H ex) elt F
theorem BlkQ.to {X : Cx} {scope : Scope} {N' : List Str} {tg elt : Expr} {ifs : List Expr} {T : Tgt} {A : Rho → Rs Bool} {F : Rho → Rs Tr} (b : BlkQ X scope N' tg elt ifs T A F) : Blk X scope N' tg elt ifs T A F :=
  ⟨fun s H ex => ⟨(b.all s H ex).1.h, (b.all s H ex).2.1.h, (b.all s H ex).2.2.h⟩⟩
section
variable {X : Cx} {a b c : Expr} {pos : Pos} {F G E : Rho → Rs Tr}
theorem T_var (i : Nat) {x : Str} {pos : Pos} (hN : X.N[i]? = some x := by rfl) (hv : Vis X.env.scope x := by first | exact Or.inl rfl | exact Or.inr (Or.inl rfl) | exact Or.inr (Or.inr rfl)) (hd : (x == ("__debug__" : Str)) = false := by decide) (hcd : (x == ("__classdict__" : Str)) = false := by decide) : QE X (.Name x pos) (fun ρ => getS ρ i) := ⟨t_var i hN hv hd hcd⟩
theorem T_int {i : Int} {j pos} : QE X (.Constant (.int i) j pos) (fun _ => .ok (.int i)) := ⟨t_int ⟩
theorem T_bl {b : Bool} {j pos} : QE X (.Constant (.bool b) j pos) (fun _ => .ok (.bl b)) := ⟨t_bl ⟩
theorem T_non {j pos} : QE X (.Constant .none j pos) (fun _ => .ok .non) := ⟨t_non ⟩
theorem T_str {z : Str} {j pos} (hz : z.length ≤ txMax := by decide) : QE X (.Constant (.str z) j pos) (fun _ => .ok (.str z)) := ⟨t_str hz⟩
theorem T_glob {x : Str} {t : Tr} (g : GlobT X.K X.mg x t) (hg : Gl X x := by rfl) (hd : (x == ("__debug__" : Str)) = false := by decide) : QE X (.Name x pos) (fun _ => .ok t) := ⟨t_glob g hg hd⟩
theorem T_ty {x : Str} {n : String} (hm : X.mg x = none) (hv : bootBuiltins x = some (.type n) := by rfl) (hg : Gl X x := by rfl) (hn : x ≠ "__name__" := by decide) (hd : (x == ("__debug__" : Str)) = false := by decide) : QE X (.Name x pos) (fun _ => .ok (.ty n)) := ⟨t_ty hm hv hg hn hd⟩
theorem T_bin {op : Operator} {h : Tr → Tr → Rs Tr} (ho : OpT X (binaryOp op) h) (ha : QE X a F) (hb : QE X b G) : QE X (.BinOp a op b pos) (fun ρ => op2 h (F ρ) (G ρ)) := ⟨t_bin ho ha.h hb.h⟩
theorem T_cmp {op : CmpOp} {h : Tr → Tr → Rs Tr} (ho : OpT X (compareOp op) h) (ha : QE X a F) (hb : QE X b G) (hm : behindInMarks op b = false := by first | exact nomark _ | rfl | with_unfolding_all rfl) : QE X (.Compare a [op] [b] pos) (fun ρ => op2 h (F ρ) (G ρ)) := ⟨t_cmp ho ha.h hb.h hm⟩
theorem Q_cmp {op : CmpOp} {h : Tr → Tr → Rs Tr} (ho : OpT X (compareOp op) h) (ha : QE X a F) (hb : QE X b G) (hm : behindInMarks op b = false := by first | exact nomark _ | rfl | with_unfolding_all rfl) : QT X (.Compare a [op] [b] pos) (fun ρ => asB (op2 h (F ρ) (G ρ))) := ⟨q_cmp ho ha.h hb.h hm⟩
theorem Q_val (ha : QE X a F) (he : plainTest a = true := by rfl) : QT X a (fun ρ => (F ρ).bind truT) := ⟨q_val ha.h he⟩
end
section
variable {X : Cx} {a b c : Expr} {pos : Pos} {F G E : Rho → Rs Tr} {A B : Rho → Rs Bool} {rest : List Expr}
theorem Q_not (ha : QT X a A) : QT X (.UnaryOp .Not a pos) (fun ρ => notB (A ρ)) := ⟨q_not ha.h⟩
theorem W_and1 (ha : QT X a A) : QW X (.BoolOp .And [a] pos) A := ⟨w_and1 ha.h⟩
theorem W_or1 (ha : QT X a A) : QW X (.BoolOp .Or [a] pos) A := ⟨w_or1 ha.h⟩
theorem W_and (ha : QT X a A) (hb : QW X (.BoolOp .And (b :: rest) pos) B) : QW X (.BoolOp .And (a :: b :: rest) pos) (fun ρ => andB (A ρ) (B ρ)) := ⟨w_and ha.h hb.h⟩
theorem W_or (ha : QT X a A) (hb : QW X (.BoolOp .Or (b :: rest) pos) B) : QW X (.BoolOp .Or (a :: b :: rest) pos) (fun ρ => orB (A ρ) (B ρ)) := ⟨w_or ha.h hb.h⟩
theorem Q_bool {op} {es : List Expr} (h : QW X (.BoolOp op es pos) A) : QT X (.BoolOp op es pos) A := ⟨q_bool h.h⟩
theorem T_and (ha : QE X a F) (hb : QE X (.BoolOp .And (b :: rest) pos) G) : QE X (.BoolOp .And (a :: b :: rest) pos) (fun ρ => andV (F ρ) (G ρ)) := ⟨t_and ha.h hb.h⟩
theorem T_or (ha : QE X a F) (hb : QE X (.BoolOp .Or (b :: rest) pos) G) : QE X (.BoolOp .Or (a :: b :: rest) pos) (fun ρ => orV (F ρ) (G ρ)) := ⟨t_or ha.h hb.h⟩
theorem T_one {op} (h : QE X a F) : QE X (.BoolOp op [a] pos) F := ⟨t_one h.h⟩
theorem T_not (ha : QE X a F) : QE X (.UnaryOp .Not a pos) (fun ρ => blR (notB ((F ρ).bind truT))) := ⟨t_not ha.h⟩
theorem T_if (hc : QT X c A) (ha : QE X a F) (hb : QE X b G) : QE X (.IfExp c a b pos) (fun ρ => iteR (A ρ) (F ρ) (G ρ)) := ⟨t_if hc.h ha.h hb.h⟩
theorem T_chain {op op' : CmpOp} {h h' : Tr → Tr → Rs Tr} (ho : OpT X (compareOp op) h) (ho' : OpT X (compareOp op') h') (ha : QE X a F) (hb : QE X b G) (hc : QE X c E) (hm : lastMarks [op, op'] [b, c] = false := by with_unfolding_all rfl) : QE X (.Compare a [op, op'] [b, c] pos) (fun ρ => chnR h h' (F ρ) (G ρ) (E ρ)) := ⟨t_chain ho ho' ha.h hb.h hc.h hm⟩
end
section
variable {X : Cx} {a b c : Expr} {pos : Pos} {F G E : Rho → Rs Tr} {A B : Rho → Rs Bool} {rest : List Expr} {es : List Expr} {L : Rho → Rs (List Tr)}
theorem L_nil  : QA X [] (fun _ => .ok []) := ⟨l_nil ⟩
theorem L_cons (ha : QE X a F) (hr : QA X es L) (hs : isStar a = false := by rfl) : QA X (a :: es) (fun ρ => consR (F ρ) (L ρ)) := ⟨l_cons ha.h hr.h hs⟩
theorem T_tup {x1} (h : QA X es L) : QE X (.Tuple es x1 pos) (fun ρ => tupR (L ρ)) := ⟨t_tup h.h⟩
theorem T_lst (h : QA X es L) : QE X (.List es pos) (fun ρ => lstR (L ρ)) := ⟨t_lst h.h⟩
theorem T_callB {id : String} {x : Str} {p : Pos} {e : Expr} {h : List Tr → Rs Tr} (hc : CallT X (.builtin id) h) (hm : X.mg x = none) (ha : QA X (e :: es) L) (hv : bootBuiltins x = some (.builtin id) := by rfl) (hg : Gl X x := by rfl) (hn : x ≠ "__name__" := by decide) (hdb : (x == ("__debug__" : Str)) = false := by decide) (hst : noStars (e :: es) = true := by rfl) : QE X (.Call (.Name x p) (e :: es) [] pos) (fun ρ => callR h (L ρ)) := ⟨t_callB hc hm ha.h hv hg hn hdb hst⟩
theorem T_callTy {T : String} {x : Str} {p : Pos} {e : Expr} {h : List Tr → Rs Tr} (hc : CallT X (.type T) h) (hm : X.mg x = none) (ha : QA X (e :: es) L) (hv : bootBuiltins x = some (.type T) := by rfl) (hg : Gl X x := by rfl) (hn : x ≠ "__name__" := by decide) (hdb : (x == ("__debug__" : Str)) = false := by decide) (hst : noStars (e :: es) = true := by rfl) : QE X (.Call (.Name x p) (e :: es) [] pos) (fun ρ => callR h (L ρ)) := ⟨t_callTy hc hm ha.h hv hg hn hdb hst⟩
theorem T_def {x : Str} {st : Stmt} {ps : List Str} {f : Addr} {fd : FuncData} {k : Nat} {h : List Tr → Rs Tr} {e : Expr} {p : Pos} (D : DefAt X.K X.mg x st ps f fd) (G : FnOk X.prog X.w X.K X.mg X.base CX0 k f fd ps (spT X.K h)) (hr : Room k X.A) (ha : QA X (e :: es) L) (hg : Gl X x := by rfl) (hdb : (x == ("__debug__" : Str)) = false := by decide) (hst : noStars (e :: es) = true := by rfl) : QE X (.Call (.Name x p) (e :: es) [] pos) (fun ρ => callR h (L ρ)) := ⟨t_def D G hr ha.h hg hdb hst⟩
end
section
variable {X : Cx} {a b c e : Expr} {pos : Pos} {F : Rho → Rs Tr} {G G' : Rho → Rs Out} {A : Rho → Rs Bool} {st : Stmt} {rest sts : List Stmt}
theorem S_nil  : QB X [] (fun ρ => .ok (.nx ρ)) := ⟨s_nil ⟩
theorem S_cons (h1 : QS X st G) (h2 : QB X rest G') : QB X (st :: rest) (fun ρ => seqO (G ρ) G') := ⟨s_cons h1.h h2.h⟩
theorem S_one (h1 : QS X st G) : QB X [st] G := ⟨s_one h1.h⟩
theorem S_set {i : Nat} {x : Str} {pos' : Pos} (he : QE X e F) (hN : X.N.Nodup := by assumption) (hi : X.N[i]? = some x := by rfl) (hx : Loc X.env.scope x := by first | exact Or.inl rfl | exact Or.inr rfl) (hs : isComp e = false := by rfl) (hf : X.fn x = true ∨ X.env.scope.names.lookup x = some .local := by first | exact .inl rfl | exact .inr rfl | assumption) : QS X (.Assign [.Name x pos'] e pos) (fun ρ => setO i (F ρ) ρ) := ⟨s_set he.h hN hi hx hs hf⟩
theorem S_ret (he : QE X e F) : QS X (.Return (some e) pos) (fun ρ => retO (F ρ)) := ⟨s_ret he.h⟩
theorem S_if {ys ns : List Stmt} (hc : QT X c A) (ha : QB X ys G) (hb : QB X ns G') : QS X (.If c ys ns pos) (fun ρ => ifO (A ρ) (G ρ) (G' ρ)) := ⟨s_if hc.h ha.h hb.h⟩
theorem G_name (i : Nat) {x : Str} (hN : X.N.Nodup := by assumption) (hi : X.N[i]? = some x := by rfl) (hx : Loc X.env.scope x := by first | exact Or.inl rfl | exact Or.inr rfl) (hf : X.fn x = true ∨ X.env.scope.names.lookup x = some .local := by first | exact .inl rfl | exact .inr rfl | assumption) : QG X (.Name x pos) (gN i) := ⟨g_name i hN hi hx hf⟩
theorem G_nil  : QGs X [] (gNs []) := ⟨g_nil ⟩
theorem G_cons {es : List Expr} {i : Nat} {is : List Nat} {x : Str} (h2 : QGs X es (gNs is)) (hN : X.N.Nodup := by assumption) (hi : X.N[i]? = some x := by rfl) (hx : Loc X.env.scope x := by first | exact Or.inl rfl | exact Or.inr rfl) (hf : X.fn x = true ∨ X.env.scope.names.lookup x = some .local := by first | exact .inl rfl | exact .inr rfl | assumption) (hs : (assignEach (.Name x pos :: es) X.env).map (·.2) = assign (.Name x pos) X.env :: (assignEach es X.env).map (·.2) := by rfl) : QGs X (.Name x pos :: es) (gNs (i :: is)) := ⟨g_cons h2.h hN hi hx hf hs⟩
theorem G_tup {es : List Expr} {k : Nat} {is : List Nat} (h : QGs X es (gNs is)) (hc : X.calm = true := by rfl) (hn : (assignEach es X.env).length = is.length := by rfl) (hst : (assignEach es X.env).findIdx? (·.1) = none := by rfl) : QG X (.Tuple es k pos) (gT is) := ⟨g_tup h.h hc hn hst⟩
theorem S_for {tg iter : Expr} {body : List Stmt} {W : Rho → Rs (List Tr)} {T : Tgt} (hi : QI X tg iter W) (hg : QG X tg T) (hb : QB X body G) (hp : PassesOwn (model X.prog X.w) X.A X.env X.xe := by exact PassesOwn.never) (hc : X.calm = true := by rfl) (hs : isSet iter = false := by rfl) : QS X (.For tg iter body [] pos) (fun ρ => loopO T G (W ρ) ρ) := ⟨s_for hi.h hg.h hb.h hp hc hs⟩
theorem I_seq {tg l : Expr} (hl : QE X l F) : QI X tg l (fun ρ => seqW (F ρ)) := ⟨i_seq hl.h⟩
end
section
variable {X : Cx} {a b c e : Expr} {pos : Pos} {F : Rho → Rs Tr} {G G' : Rho → Rs Out} {A : Rho → Rs Bool} {st : Stmt} {rest sts : List Stmt} {L : Rho → Rs (List Tr)} {tg : Expr} {p : Pos}
theorem I_range1 (hm : X.mg "range" = none) (ha : QA X [a] L) (hg : Gl X "range" := by rfl) (hs : noStars [a] = true := by rfl) : QI X tg (.Call (.Name "range" p) [a] [] pos) (fun ρ => rng1W (L ρ)) := ⟨i_range1 hm ha.h hg hs⟩
end
section
variable {X : Cx} {a b c e : Expr} {pos : Pos} {F : Rho → Rs Tr} {G G' : Rho → Rs Out} {A : Rho → Rs Bool} {st : Stmt} {rest sts : List Stmt} {L : Rho → Rs (List Tr)} {tg : Expr} {p : Pos} {scope : Scope} {N' : List Str} {ix : List (Option Nat)} {elt iter : Expr} {ifs : List Expr} {T : Tgt} {W : Rho → Rs (List Tr)}
theorem F_nil {X : Cx} : QF X [] (fun _ => .ok true) := ⟨f_nil ⟩
theorem T_lc (Lk : LcOk X N' ix scope) (hi : QI X tg iter W) (hin : BlkQ X scope N' tg elt ifs T A F) (hT : TgOk T) (hc : X.calm = true := by rfl) (hs : isSet iter = false := by rfl) : QE X (.ListComp elt [⟨tg, iter, ifs, 0⟩] scope pos) (fun ρ => lcR ix T A F (W ρ) ρ) := ⟨t_lc Lk hi.h hin.to hT hc hs⟩
theorem S_setLC {i : Nat} {x : Str} {px spos : Pos} (Lk : LcOk X N' ix scope) (hit : QI X tg iter W) (hin : BlkQ X scope N' tg elt ifs T A F) (hT : TgOk T) (hN : X.N.Nodup := by assumption) (hc : X.calm = true := by rfl) (hi : X.N[i]? = some x := by rfl) (hx : Loc X.env.scope x := by first | exact Or.inl rfl | exact Or.inr rfl) (hsw : swapsWith (.ListComp elt [⟨tg, iter, ifs, 0⟩] scope pos) (some (.Name x px)) spos.line X.env = pure true := by rfl) (hs : isSet iter = false := by rfl) (hf : X.fn x = true ∨ X.env.scope.names.lookup x = some .local := by first | exact .inl rfl | exact .inr rfl | assumption) : QS X (.Assign [.Name x px] (.ListComp elt [⟨tg, iter, ifs, 0⟩] scope pos) spos) (fun ρ => setO i (lcR ix T A F (W ρ) ρ) ρ) := ⟨s_setLC Lk hit.h hin.to hT hN hc hi hx hsw hs hf⟩
end
section
variable {X : Cx} {a b e : Expr} {pos : Pos} {F G : Rho → Rs Tr}
theorem T_ix (hu : X.A.units + 1 < cLine) (ha : QE X a F) (hb : QE X b G) (hs : PlainIx b := by exact fun _ _ => rfl) : QE X (.Subscript a b pos) (fun ρ => op2 ixT (F ρ) (G ρ)) := ⟨t_ix hu ha.h hb.h hs⟩
theorem P_none  : QO X none (fun _ => .ok none) := ⟨p_none ⟩
theorem P_some (h : QE X e F) : QO X (some e) (fun ρ => asI (F ρ)) := ⟨p_some h.h⟩
end
section
variable {X : Cx} {a b e : Expr} {pos : Pos} {F G : Rho → Rs Tr} {P1 P2 : Rho → Rs (Option Int)} {lo hi : Option Expr} {p2 : Pos}
theorem T_sl (he : QE X e F) (hl : QO X lo P1) (hu : QO X hi P2) : QE X (.Subscript e (.Slice lo hi none p2) pos) (fun ρ => slR (F ρ) (P1 ρ) (P2 ρ)) := ⟨t_sl he.h hl.h hu.h⟩
end
section
variable {X : Cx} {a b e : Expr} {pos : Pos} {F G : Rho → Rs Tr} {P1 P2 : Rho → Rs (Option Int)} {lo hi : Option Expr} {p2 : Pos} {es : List Expr} {L : Rho → Rs (List Tr)} {o : Expr} {name : Str} {apos cpos : Pos} {id : String} {h : Str → List Tr → Rs Tr}
theorem T_ms (slot : Slot "str" name id) (hty : typeOf (.builtin id) = pure (.type "method_descriptor")) (hm : MtR X id (rM X h)) (ho : QE X o F) (ha : QA X (e :: es) L) (pa : PlainAttrs "str" := by exact PySem.F.plainAttrs_str) (hbase : isCall o = false := by rfl) (hst : noStars (e :: es) = true := by rfl) (hn : (e :: es).length < 30 := by decide) (hline : (apos.endLine == cpos.line) = true := by rfl) : QE X (.Call (.Attribute o name apos) (e :: es) [] cpos) (fun ρ => mS h (F ρ) (L ρ)) := ⟨t_ms slot hty hm ho.h ha.h pa hbase hst hn hline⟩
end
section
variable {X : Cx} {a e : Expr} {pos : Pos} {F : Rho → Rs Tr}
theorem T_neg (ha : QE X a F) : QE X (.UnaryOp .USub a pos) (fun ρ => (F ρ).bind negT) := ⟨t_neg ha.h⟩
end
section
variable {X : Cx} {a e o f : Expr} {pos apos cpos : Pos} {F G E : Rho → Rs Tr} {keys : List (Option Expr)} {vals : List Expr} {P : Rho → Rs (List (Tr × Tr))} {x : Str} {kts : List (Str × Tr)} {p : Pos}
theorem T_inG (g : GDictT X.K X.w X.mg x kts) (ha : QE X a F) (hg : Gl X x := by rfl) (hd : (x == ("__debug__" : Str)) = false := by decide) : QE X (.Compare a [.In] [.Name x p] pos) (fun ρ => (F ρ).bind (inGT kts)) := ⟨t_inG g ha.h hg hd⟩
theorem T_ixG (g : GDictT X.K X.w X.mg x kts) (ha : QE X a F) (hg : Gl X x := by rfl) (hd : (x == ("__debug__" : Str)) = false := by decide) (hs : NoSl a := by exact fun _ _ => rfl) : QE X (.Subscript (.Name x p) a pos) (fun ρ => (F ρ).bind (ixGT kts)) := ⟨t_ixG g ha.h hg hd hs⟩
end
section
variable {X : Cx} {a b e : Expr} {pos p tpos : Pos} {L : Rho → Rs (List Tr)} {es : List Expr} {x1 : Nat}
theorem I_enum (hm : X.mg "enumerate" = none) (ha : QA X [a] L) (hg : Gl X "enumerate" := by rfl) (hs : noStars [a] = true := by rfl) : QI X (.Tuple es x1 tpos) (.Call (.Name "enumerate" p) [a] [] pos) (fun ρ => enW (L ρ)) := ⟨i_enum hm ha.h hg hs⟩
end
section
variable {X : Cx} {pins : List (Addr × Obj)} {σ : St} {H : Hp} {s : Shared} {A : Around} {E : Value → Shared → Prop} {o e : Expr} {es : List Expr} {p tpos apos cpos : Pos} {F G : Rho → Rs Tr} {L : Rho → Rs (List Tr)}
theorem T_lm {name : Str} {id : String} {h : List Tr → Tr → Rs Tr} (slot : Slot "list" name id) (hty : typeOf (.builtin id) = pure (.type "method_descriptor")) (hm : MtR X id (rLM X h)) (ho : QE X o F) (he : QE X e G) (pa : PlainAttrs "list" := by exact PySem.F.plainAttrs_list) (hbase : isCall o = false := by rfl) (hst : noStars [e] = true := by rfl) (hline : (apos.endLine == cpos.line) = true := by rfl) : QE X (.Call (.Attribute o name apos) [e] [] cpos) (fun ρ => lmR h (F ρ) (G ρ)) := ⟨t_lm slot hty hm ho.h he.h pa hbase hst hline⟩
end
section
variable {X : Cx} {o e : Expr} {F G : Rho → Rs Tr} {apos cpos p1 p2 : Pos}
theorem T_joinRev (hm : X.mg "reversed" = none) (ho : QE X o F) (he : QE X e G) (hc : X.calm = true := by rfl) (hg : Gl X "reversed" := by rfl) (hbase : isCall o = false := by rfl) (hst : noStars [e] = true := by rfl) (hline : (apos.endLine == cpos.line) = true := by rfl) : QE X (.Call (.Attribute o "join" apos) [.Call (.Name "reversed" p1) [e] [] p2] [] cpos) (fun ρ => joinRev (F ρ) (G ρ)) := ⟨t_joinRev hm ho.h he.h hc hg hbase hst hline⟩
end
section
variable {X : Cx} {o e : Expr} {F G : Rho → Rs Tr} {apos cpos p1 p2 : Pos} {a b : Str} {j1 j2 : Nat} {pa pb : Pos}
theorem T_repl1 (ho : Q1 X o F) (hbase : isCallN o = false := by rfl) (hline : (apos.endLine == cpos.line) = true := by rfl) : Q1 X (.Call (.Attribute o "replace" apos) [.Constant (.str a) j1 pa, .Constant (.str b) j2 pb] [] cpos) (fun ρ => replR a b (F ρ)) := ⟨t_repl1 ho.h hbase hline⟩
theorem T_one1 (h : QE X o F) : Q1 X o F := ⟨t_one1 h.h⟩
theorem T_binLit {op : Operator} {z : Str} {h : Tr → Tr → Rs Tr} (ho : OpT X (binaryOp op) h) (he : Q1 X e F) (hz : z.length ≤ txMax := by decide) : QE X (.BinOp (.Constant (.str z) j1 pa) op e cpos) (fun ρ => op2 h (.ok (.str z)) (F ρ)) := ⟨t_binLit ho he.h hz⟩
end
section
variable {X : Cx} {o e : Expr} {F G : Rho → Rs Tr} {apos cpos p1 p2 pos : Pos} {lo hi : Option Expr} {i : Int} {j : Nat} {P2 : Rho → Rs (Option Int)} {te : TE} {th : TO}
theorem T_slB (he : QE X e F) (hu : QO X hi P2) : Q2 X (.Subscript e (.Slice (some (.Constant (.int i) j p1)) hi none p2) pos) (fun ρ => slR (F ρ) (asI (.ok (.int i))) (P2 ρ)) := ⟨t_slB he.h hu.h⟩
end
section
variable {X : Cx} {o e : Expr} {F G : Rho → Rs Tr} {apos cpos p1 p2 pos : Pos} {lo hi : Option Expr} {i : Int} {j : Nat} {P2 : Rho → Rs (Option Int)} {te : TE} {th : TO} {a b : Str} {j1 j2 : Nat} {pa pb : Pos}
theorem T_replB (ho : Q2 X o F) (hbase : isCallN o = false := by rfl) (hline : (apos.endLine == cpos.line) = true := by rfl) : Q2 X (.Call (.Attribute o "replace" apos) [.Constant (.str a) j1 pa, .Constant (.str b) j2 pb] [] cpos) (fun ρ => replR a b (F ρ)) := ⟨t_replB ho.h hbase hline⟩
theorem T_unB (h : Q2 X o F) : QE X o F := ⟨t_unB h.h⟩
end
section
variable {X : Cx} {F : Rho → Rs Tr} {pos : Pos}
theorem T_fvalR {v : Expr} (h : QE X v F) : QE X (.FormattedValue v 114 none pos) (fun ρ => (F ρ).bind reprT) := ⟨t_fvalR h.h⟩
theorem T_def0 {x : Str} {st : Stmt} {ps : List Str} {f : Addr} {fd : FuncData} {k : Nat} {h : List Tr → Rs Tr} {p : Pos} (D : DefAt X.K X.mg x st ps f fd) (G : FnOk X.prog X.w X.K X.mg X.base CX0 k f fd ps (spT X.K h)) (hr : Room k X.A) (hg : Gl X x := by rfl) (hdb : (x == ("__debug__" : Str)) = false := by decide) : QE X (.Call (.Name x p) [] [] pos) (fun _ => h []) := ⟨t_def0 D G hr hg hdb⟩
end
section
variable {X : Cx} {e : Expr} {es : List Expr} {F : Rho → Rs Tr} {P : Rho → Rs Bool} {L : Rho → Rs (List Tr)} {FZ GZ : Rho → Ab → Rz Tr} {LZ : Rho → Ab → Rz (List Tr)}
theorem E_pure (h : QE X e F) : ZE X e (fun ρ A => liftZ (F ρ) A) := ⟨e_pure h.h⟩
theorem Eq_pure (h : QT X e P) : ZT X e (fun ρ A => liftZ (P ρ) A) := ⟨eq_pure h.h⟩
theorem E_thaw (h : QE X e F) : ZE X e (fun ρ A => flZ (F (thawR A ρ)) A) := ⟨e_thaw h.h⟩
theorem E_new (h : NE X e F) : ZE X e (fun ρ A => newZ (F (thawR A ρ)) A) := ⟨e_new h.h⟩
end
section
variable {X : Cx} {a b c e : Expr} {pos : Pos} {F : Rho → Ab → Rz Tr} {G G' : Rho → Ab → Rz Out} {P : Rho → Ab → Rz Bool} {st : Stmt} {rest sts : List Stmt}
theorem Z_nil  : ZB X [] (fun ρ A => .ok (.nx ρ) A) := ⟨z_nil ⟩
theorem Z_cons (h1 : ZS X st G) (h2 : ZB X rest G') : ZB X (st :: rest) (fun ρ A => seqZ (G ρ A) G') := ⟨z_cons h1.h h2.h⟩
theorem Z_one (h1 : ZS X st G) : ZB X [st] G := ⟨z_one h1.h⟩
theorem Z_set {i : Nat} {x : Str} {pos' : Pos} (he : ZE X e F) (hN : X.N.Nodup := by assumption) (hi : X.N[i]? = some x := by rfl) (hx : Loc X.env.scope x := by first | exact Or.inl rfl | exact Or.inr rfl) (hs : isComp e = false := by rfl) (hf : X.fn x = true ∨ X.env.scope.names.lookup x = some .local := by first | exact .inl rfl | exact .inr rfl | assumption) : ZS X (.Assign [.Name x pos'] e pos) (fun ρ A => setZ i (F ρ A) ρ) := ⟨z_set he.h hN hi hx hs hf⟩
theorem Z_ret (he : ZE X e F) : ZS X (.Return (some e) pos) (fun ρ A => retZ (F ρ A)) := ⟨z_ret he.h⟩
theorem Z_expr (he : ZE X e F) (hs : isComp e = false := by rfl) : ZS X (.Expr e pos) (fun ρ A => dropZ (F ρ A) ρ) := ⟨z_expr he.h hs⟩
theorem Z_if {ys ns : List Stmt} (hc : ZT X c P) (h1 : ZB X ys G) (h2 : ZB X ns G') : ZS X (.If c ys ns pos) (fun ρ A => ifZ (P ρ A) (G ρ) (G' ρ)) := ⟨z_if hc.h h1.h h2.h⟩
theorem Z_while (m : Nat) {body : List Stmt} (hc : ZT X c P) (hb : ZB X body G) (hp : PassesOwn (model X.prog X.w) X.A X.env X.xe := by first | exact PassesOwn.never | exact PassesOwn.leaving) : ZS X (.While c body [] pos) (fun ρ A => whileZ P G m ρ A) := ⟨z_while m hc.h hb.h hp⟩
end
section
variable {X : Cx} {a e o : Expr} {es : List Expr} {F : Rho → Ab → Rz Tr} {L : Rho → Ab → Rz (List Tr)} {name : Str} {apos cpos : Pos} {id : String}
theorem Ea_nil  : ZL X [] (fun _ A => .ok [] A) := ⟨ea_nil ⟩
theorem Ea_cons (h1 : ZE X a F) (hr : ZL X es L) (hs : isStar a = false := by rfl) : ZL X (a :: es) (fun ρ A => consZ (F ρ A) (L ρ)) := ⟨ea_cons h1.h hr.h hs⟩
end
section
variable {X : Cx} {a e o : Expr} {es : List Expr} {F : Rho → Ab → Rz Tr} {L : Rho → Ab → Rz (List Tr)} {name : Str} {apos cpos : Pos} {id : String} {r : V → List V → Hp → VK → Prop} {h : Nat → List Tr → Ab → Rz Tr}
theorem E_mtL (slot : Slot "list" name id) (hty : typeOf (.builtin id) = pure (.type "method_descriptor")) (hm : MtM X id r) (hz : WrZ X r h) (ho : ZE X o F) (ha : ZL X (e :: es) L) (pa : PlainAttrs "list" := by exact PySem.F.plainAttrs_list) (hbase : isCall o = false := by rfl) (hst : noStars (e :: es) = true := by rfl) (hn : (e :: es).length < 30 := by decide) (hline : (apos.endLine == cpos.line) = true := by rfl) : ZE X (.Call (.Attribute o name apos) (e :: es) [] cpos) (fun ρ A => mtL h (F ρ A) (L ρ)) := ⟨e_mtL slot hty hm hz ho.h ha.h pa hbase hst hn hline⟩
end
section
variable {X : Cx} {a b e : Expr} {es : List Expr} {pos : Pos} {F G : Rho → Rs Tr} {L : Rho → Rs (List Tr)} {A : Rho → Rs Bool}
theorem N_lst (h : QA X es L) : NE X (.List es pos) (fun ρ => lstR (L ρ)) := ⟨n_lst h.h⟩
end
section
variable {X : Cx} {o e : Expr} {es : List Expr} {p pos apos : Pos} {F : Rho → Ab → Rz Tr} {L : Rho → Ab → Rz (List Tr)} {h : List Tr → Ab → Rz Tr} {x : Str} {st : Stmt} {ps : List Str} {f : Addr} {fd : FuncData} {k : Nat}
theorem E_def (D : DefAt X.K X.mg x st ps f fd) (G : FnOk X.prog X.w X.K X.mg X.base (CXe X.prog X.w) k f fd ps (spZ X.K h)) (hr : Room k X.A) (ha : ZL X (e :: es) L) (hx : X.ex = [] := by rfl) (hg : Gl X x := by rfl) (hdb : (x == ("__debug__" : Str)) = false := by decide) (hst : noStars (e :: es) = true := by rfl) : ZE X (.Call (.Name x p) (e :: es) [] pos) (fun ρ A => (L ρ A).bind h) := ⟨e_def D G hr ha.h hx hg hdb hst⟩
end
section
variable {X : Cx} {x : Str} {np cpos pos : Pos} {e : Expr} {es : List Expr} {L : Rho → Ab → Rz (List Tr)}
theorem Z_raise (D : ErrAt X.K X.mg x) (ha : ZL X (e :: es) L) (hx : X.ex = [] := by rfl) (hc : X.calm = true := by rfl) (hg : Gl X x := by rfl) (hdb : (x == ("__debug__" : Str)) = false := by decide) (hst : noStars (e :: es) = true := by rfl) : ZS X (.Raise (some (.Call (.Name x np) (e :: es) [] cpos)) none pos) (fun ρ A => raiseZ x (L ρ A)) := ⟨z_raise D ha.h hx hc hg hdb hst⟩
end
section
variable {X : Cx} {e : Expr} {p p2 pos : Pos} {F : Rho → Rs Tr} {c : Str} {tab : List (Str × Bool)} {cv : V} {u : Value}
theorem T_isxG (T : IsxAt X.K (.ref (clsAt X.K c)) tab) (hm : X.mg c = some (.ref (clsAt X.K c))) (hi : X.mg "isinstance" = none) (he : QE X e F) (hg : Gl X c := by rfl) (hg2 : Gl X "isinstance" := by rfl) (hdb : (c == ("__debug__" : Str)) = false := by decide) (hst : noStars [e, .Name c p2] = true := by rfl) : QE X (.Call (.Name "isinstance" p) [e, .Name c p2] [] pos) (fun ρ => (F ρ).bind (isxT tab)) := ⟨t_isxG T hm hi he.h hg hg2 hdb hst⟩
theorem T_isxB {n : String} (T : IsxAt X.K (.type n) tab) (hm : X.mg c = none) (hi : X.mg "isinstance" = none) (he : QE X e F) (hv : bootBuiltins c = some (.type n) := by rfl) (hg : Gl X c := by rfl) (hn : c ≠ "__name__" := by decide) (hg2 : Gl X "isinstance" := by rfl) (hdb : (c == ("__debug__" : Str)) = false := by decide) (hst : noStars [e, .Name c p2] = true := by rfl) : QE X (.Call (.Name "isinstance" p) [e, .Name c p2] [] pos) (fun ρ => (F ρ).bind (isxT tab)) := ⟨t_isxB T hm hi he.h hv hg hn hg2 hdb hst⟩
end
theorem Fun.okQ {P : Program} {w : World} {K : PySem.W.Frag} {mg : Str → Option Value} {base : Heap} {x qual : Str} {st : Stmt} {f : Addr} {fd : FuncData} {N ps : List Str} {k : Nat} {h : List Tr → Rs Tr} (Fn : Fun K x qual st f fd) (S : FnScope N ps (defScope st)) (len : ∀ ts t, h ts = .ok t → ts.length = ps.length)
    (hbody : ∀ (cdv : Value) (A : Around) (outer : List Env) (s : Shared) (H : Hp) (E : XK), Room k (A.deeper (envOfC qual (defScope st) s.heap.objs.size f cdv)) →
      ∃ G, QB (cxOf CX0 P w K mg base N qual (defScope st) f cdv A outer s H E).nox (defBody st) G ∧ ∀ ts t, h ts = .ok t → bodyR (G (startT N.length ts)) = .ok t) : FnOk P w K mg base CX0 (k + 1) f fd ps (spT K h) :=
  Fn.okT S len fun cdv A outer s H E hr => let ⟨G, h, q⟩ := hbody cdv A outer s H E hr; ⟨G, h.h, q⟩
theorem Fun.okZQ {P : Program} {w : World} {K : PySem.W.Frag} {mg : Str → Option Value} {base : Heap} {x qual : Str} {st : Stmt} {f : Addr} {fd : FuncData} {N ps : List Str} {k : Nat} {h : List Tr → Rs Tr} (Fn : Fun K x qual st f fd) (S : FnScope N ps (defScope st)) (len : ∀ ts t, h ts = .ok t → ts.length = ps.length)
    (hbody : ∀ (cdv : Value) (A : Around) (outer : List Env) (s : Shared) (H : Hp) (E : XK), Room k (A.deeper (envOfC qual (defScope st) s.heap.objs.size f cdv)) →
      ∃ G, ZB (cxOf CX0 P w K mg base N qual (defScope st) f cdv A outer s H E).nox (defBody st) G ∧ ∀ ts t, h ts = .ok t → noAts ts = true ∧ bodyZ (G (startT N.length ts) []) = .ok t) : FnOk P w K mg base CX0 (k + 1) f fd ps (spT K h) :=
  Fn.okZ S len fun cdv A outer s H E hr => let ⟨G, h, q⟩ := hbody cdv A outer s H E hr; ⟨G, h.h, q⟩
structure JQ (X : Cx) (es : List Expr) (J : Rho → Str → Rs Tr) : Prop where
  h : PJ X es J
theorem J_nil {X : Cx} : JQ X [] fun _ acc => jNil acc := ⟨j_nil⟩
theorem J_cons {X : Cx} {e : Expr} {es : List Expr} {F : Rho → Rs Tr} {J : Rho → Str → Rs Tr} (h : QE X e F) (hr : JQ X es J) : JQ X (e :: es) fun ρ acc => jCons (F ρ) (J ρ) acc := ⟨j_cons h.h hr.h⟩
theorem T_fstr {X : Cx} {pos : Pos} {v1 v2 : Expr} {rest : List Expr} {J : Rho → Str → Rs Tr} (h : JQ X (v1 :: v2 :: rest) J) : QE X (.JoinedStr (v1 :: v2 :: rest) pos) (fun ρ => J ρ Str.empty) := ⟨t_fstr' h.h⟩
theorem Z_tryAs {X : Cx} {c n : Str} {tp hp pos : Pos} {xs : List Str} {i : Nat} {body suite : List Stmt} {b₀ : Stmt} {G G2 : Rho → Ab → Rz Out} (Tc : CatchAt X.K X.mg c xs) (hb : ∀ pn E', ZB (X.inTry pn E') body G) (hs : ∀ pn e, ZB (X.inExc pn e) (b₀ :: suite) G2) (hN : X.N.Nodup) (hi : X.N[i]? = some n := by rfl) (hl : X.env.scope.names.lookup n = some .local := by rfl)
    (hst : X.stack = X.env :: X.outer := by rfl) (hf : X.env.frame = some X.env.locals := by rfl) (hx : X.ex = [] := by rfl) (hfn : X.fn n = true ∨ X.env.scope.names.lookup n = some .local := by exact .inl rfl) (hg : Gl X c := by rfl) (hdb : (c == ("__debug__" : Str)) = false := by decide) :
    ZS X (.Try body [.ExceptHandler (some (.Name c tp)) (some n) (b₀ :: suite) hp] [] [] pos) (fun ρ A => tryZ X.N.length i xs (G ρ A) G2) := ⟨z_tryAs' Tc (fun pn E' => (hb pn E').h) (fun pn e => (hs pn e).h) hN hi hl hst hf hx hfn hg hdb⟩
theorem Fun.okSQ {P : Program} {w : World} {K : PySem.W.Frag} {mg : Str → Option Value} {base : Heap} {x qual : Str} {st : Stmt} {f : Addr} {fd : FuncData} {N ps : List Str} {k : Nat} {h : List Tr → Ab → Rz Tr} (Fn : Fun K x qual st f fd) (S : FnScope N ps (defScope st)) (len : ∀ ts A, h ts A ≠ .bad → ts.length = ps.length)
    (hbody : ∀ (cdv : Value) (A : Around) (outer : List Env) (s : Shared) (H : Hp) (E : XK), Room k (A.deeper (envOfC qual (defScope st) s.heap.objs.size f cdv)) →
      ∃ G, ZB (cxOf (CXe P w) P w K mg base N qual (defScope st) f cdv A outer s H E) (defBody st) G ∧ ∀ ts A, h ts A ≠ .bad → h ts A = bodyS (G (startT N.length ts) A)) : FnOk P w K mg base (CXe P w) (k + 1) f fd ps (spZ K h) :=
  Fn.okS S len fun cdv A outer s H E hr => let ⟨G, h, q⟩ := hbody cdv A outer s H E hr; ⟨G, h.h, q⟩
end L2
namespace M38
open PySem L2
def top (i : Nat) : Stmt := PySem.Challenge.pw_talkhall_k38_whole_no_other_lines.main.body.getD i (.Pass ⟨0, 0, 0, 0⟩)
abbrev sd_is_letter : Stmt := top 15
def g_is_letter : Rho → Rs Out := fun ρ => retO (chnR leC leC (Rs.ok (.str "a")) (getS ρ 0) (Rs.ok (.str "z")))
def m_is_letter : List Tr → Rs Tr := mir 1 1 g_is_letter
theorem sc_is_letter : FnScope ["sign"] ["sign"] (defScope sd_is_letter) := ⟨rfl, rfl, rfl, by decide +kernel, rfl, by decide +kernel, by decide +kernel⟩
abbrev sd_is_name : Stmt := top 16
def g_is_name : Rho → Rs Out := fun ρ => seqO (ifO (notB ((callR isiT (consR (getS ρ 0) (consR (Rs.ok (.ty "str")) (.ok [])))).bind truT)) (retO (Rs.ok (.bl false))) (.ok (.nx ρ))) fun ρ => retO (andV (chnR leC leC (Rs.ok (.int 1)) (callR lenT (consR (getS ρ 0) (.ok []))) (Rs.ok (.int 6))) (callR allT (consR (lcR [none] (gN 0) (fun _ => .ok true) (fun ρ => (callR m_is_letter (consR (getS ρ 0) (.ok [])))) (seqW (getS ρ 0)) ρ) (.ok []))))
def m_is_name : List Tr → Rs Tr := mir 1 1 g_is_name
theorem sc_is_name : FnScope ["thing"] ["thing"] (defScope sd_is_name) := ⟨rfl, rfl, rfl, by decide +kernel, rfl, by decide +kernel, by decide +kernel⟩
abbrev sd_is_words : Stmt := top 17
def g_is_words : Rho → Rs Out := fun ρ => retO (andV (callR isiT (consR (getS ρ 0) (consR (Rs.ok (.ty "str")) (.ok [])))) (chnR leC leC (Rs.ok (.int 1)) (callR lenT (consR (getS ρ 0) (.ok []))) (Rs.ok (.int 60))))
def m_is_words : List Tr → Rs Tr := mir 1 1 g_is_words
theorem sc_is_words : FnScope ["thing"] ["thing"] (defScope sd_is_words) := ⟨rfl, rfl, rfl, by decide +kernel, rfl, by decide +kernel, by decide +kernel⟩
abbrev sd_is_whole : Stmt := top 23
def g_is_whole : Rho → Rs Out := fun ρ => retO (andV (callR isiT (consR (getS ρ 0) (consR (Rs.ok (.ty "int")) (.ok [])))) (blR (notB ((callR isiT (consR (getS ρ 0) (consR (Rs.ok (.ty "bool")) (.ok [])))).bind truT))))
def m_is_whole : List Tr → Rs Tr := mir 1 1 g_is_whole
theorem sc_is_whole : FnScope ["thing"] ["thing"] (defScope sd_is_whole) := ⟨rfl, rfl, rfl, by decide +kernel, rfl, by decide +kernel, by decide +kernel⟩
abbrev sd_is_number : Stmt := top 24
def g_is_number : Rho → Rs Out := fun ρ => retO (andV (callR m_is_whole (consR (getS ρ 0) (.ok []))) (op2 geC (getS ρ 0) (Rs.ok (.int 1))))
def m_is_number : List Tr → Rs Tr := mir 1 1 g_is_number
theorem sc_is_number : FnScope ["thing"] ["thing"] (defScope sd_is_number) := ⟨rfl, rfl, rfl, by decide +kernel, rfl, by decide +kernel, by decide +kernel⟩
abbrev sd_is_answer : Stmt := top 25
def g_is_answer : Rho → Rs Out := fun ρ => retO (orV (op2 isC (getS ρ 0) (Rs.ok .non)) (callR m_is_number (consR (getS ρ 0) (.ok []))))
def m_is_answer : List Tr → Rs Tr := mir 1 1 g_is_answer
theorem sc_is_answer : FnScope ["thing"] ["thing"] (defScope sd_is_answer) := ⟨rfl, rfl, rfl, by decide +kernel, rfl, by decide +kernel, by decide +kernel⟩
abbrev sd_is_setting : Stmt := top 26
def g_is_setting : Rho → Rs Out := fun ρ => retO (andV (callR isiT (consR (getS ρ 0) (consR (Rs.ok (.ty "str")) (.ok [])))) (andV ((getS ρ 0).bind (inGT [("door", .tup [.str "open", .str "asked"]), ("voice", .tup [.str "all", .str "some"]), ("past", .tup [.str "shown", .str "hidden"])])) (op2 inC (getS ρ 1) ((getS ρ 0).bind (ixGT [("door", .tup [.str "open", .str "asked"]), ("voice", .tup [.str "all", .str "some"]), ("past", .tup [.str "shown", .str "hidden"])])))))
def m_is_setting : List Tr → Rs Tr := mir 2 2 g_is_setting
theorem sc_is_setting : FnScope ["what", "value"] ["what", "value"] (defScope sd_is_setting) := ⟨rfl, rfl, rfl, by decide +kernel, rfl, by decide +kernel, by decide +kernel⟩
abbrev sd_are_two_parts : Stmt := top 27
def g_are_two_parts : Rho → Rs Out := fun ρ => seqO (ifO (asB (op2 eqC (getS ρ 0) (Rs.ok (.str "set")))) (retO (callR m_is_setting (consR (getS ρ 1) (consR (getS ρ 2) (.ok []))))) (.ok (.nx ρ))) fun ρ => seqO (ifO (asB (op2 eqC (getS ρ 0) (Rs.ok (.str "role")))) (retO (andV (callR m_is_name (consR (getS ρ 1) (.ok []))) (op2 inC (getS ρ 2) (Rs.ok (.tup [.str "guest", .str "speaker", .str "keeper", .str "owner"]))))) (.ok (.nx ρ))) fun ρ => seqO (ifO (asB (op2 eqC (getS ρ 0) (Rs.ok (.str "say")))) (retO (andV (callR m_is_words (consR (getS ρ 1) (.ok []))) (callR m_is_answer (consR (getS ρ 2) (.ok []))))) (.ok (.nx ρ))) fun ρ => seqO (ifO (asB (op2 eqC (getS ρ 0) (Rs.ok (.str "mend")))) (retO (andV (callR m_is_number (consR (getS ρ 1) (.ok []))) (callR m_is_words (consR (getS ρ 2) (.ok []))))) (.ok (.nx ρ))) fun ρ => retO (Rs.ok (.bl false))
def m_are_two_parts : List Tr → Rs Tr := mir 3 3 g_are_two_parts
theorem sc_are_two_parts : FnScope ["word", "first", "second"] ["word", "first", "second"] (defScope sd_are_two_parts) := ⟨rfl, rfl, rfl, by decide +kernel, rfl, by decide +kernel, by decide +kernel⟩
abbrev sd_are_parts : Stmt := top 28
def g_are_parts : Rho → Rs Out := fun ρ => seqO (ifO (asB (op2 inC (getS ρ 0) (Rs.ok (.tup [.str "found", .str "enter", .str "leave"])))) (retO (op2 eqC (callR lenT (consR (getS ρ 1) (.ok []))) (Rs.ok (.int 0)))) (.ok (.nx ρ))) fun ρ => seqO (ifO (asB (op2 inC (getS ρ 0) (Rs.ok (.tup [.str "ask", .str "unbar", .str "out", .str "bar"])))) (retO (andV (op2 eqC (callR lenT (consR (getS ρ 1) (.ok []))) (Rs.ok (.int 1))) (callR m_is_name (consR (op2 ixT (getS ρ 1) (Rs.ok (.int 0))) (.ok []))))) (.ok (.nx ρ))) fun ρ => seqO (ifO (asB (op2 eqC (getS ρ 0) (Rs.ok (.str "gone")))) (retO (andV (op2 eqC (callR lenT (consR (getS ρ 1) (.ok []))) (Rs.ok (.int 1))) (callR m_is_number (consR (op2 ixT (getS ρ 1) (Rs.ok (.int 0))) (.ok []))))) (.ok (.nx ρ))) fun ρ => retO (andV (op2 eqC (callR lenT (consR (getS ρ 1) (.ok []))) (Rs.ok (.int 2))) (callR m_are_two_parts (consR (getS ρ 0) (consR (op2 ixT (getS ρ 1) (Rs.ok (.int 0))) (consR (op2 ixT (getS ρ 1) (Rs.ok (.int 1))) (.ok []))))))
def m_are_parts : List Tr → Rs Tr := mir 2 2 g_are_parts
theorem sc_are_parts : FnScope ["word", "parts"] ["word", "parts"] (defScope sd_are_parts) := ⟨rfl, rfl, rfl, by decide +kernel, rfl, by decide +kernel, by decide +kernel⟩
abbrev sd_is_row : Stmt := top 29
def g_is_row : Rho → Rs Out := fun ρ => seqO (ifO (orB (notB ((callR isiT (consR (getS ρ 0) (consR (Rs.ok (.ty "tuple")) (.ok [])))).bind truT)) (asB (op2 ltC (callR lenT (consR (getS ρ 0) (.ok []))) (Rs.ok (.int 3))))) (retO (Rs.ok (.bl false))) (.ok (.nx ρ))) fun ρ => retO (andV (callR m_is_number (consR (op2 ixT (getS ρ 0) (Rs.ok (.int 0))) (.ok []))) (andV (callR m_is_name (consR (op2 ixT (getS ρ 0) (Rs.ok (.int 1))) (.ok []))) (callR m_are_parts (consR (op2 ixT (getS ρ 0) (Rs.ok (.int 2))) (consR (slR (getS ρ 0) (asI (Rs.ok (.int 3))) (.ok none)) (.ok []))))))
def m_is_row : List Tr → Rs Tr := mir 1 1 g_is_row
theorem sc_is_row : FnScope ["thing"] ["thing"] (defScope sd_is_row) := ⟨rfl, rfl, rfl, by decide +kernel, rfl, by decide +kernel, by decide +kernel⟩
abbrev sd_digits_of : Stmt := top 31
def g_digits_of : Rho → Ab → Rz Out := fun ρ A => seqZ (setZ 1 (newZ ((fun ρ => (lstR (.ok []))) (thawR A ρ)) A) ρ) fun ρ A => seqZ (whileZ (fun ρ A => (liftZ (asB (op2 gtC (getS ρ 0) (Rs.ok (.int 9)))) A)) (fun ρ A => seqZ (dropZ (mtL appZ (liftZ (getS ρ 1) A) (fun A => (consZ (liftZ (callR strT (consR (op2 modT (getS ρ 0) (Rs.ok (.int 10))) (.ok []))) A) (fun A => (.ok [] A))))) ρ) fun ρ A => setZ 0 (liftZ (op2 fdivT (getS ρ 0) (Rs.ok (.int 10))) A) ρ) 200 ρ A) fun ρ A => seqZ (dropZ (mtL appZ (liftZ (getS ρ 1) A) (fun A => (consZ (liftZ (callR strT (consR (getS ρ 0) (.ok []))) A) (fun A => (.ok [] A))))) ρ) fun ρ A => retZ (flZ ((fun ρ => (joinRev (Rs.ok (.str "")) (getS ρ 1))) (thawR A ρ)) A)
def m_digits_of : List Tr → Rs Tr := mirZ 1 2 g_digits_of
theorem sc_digits_of : FnScope ["number", "digits"] ["number"] (defScope sd_digits_of) := ⟨rfl, rfl, rfl, by decide +kernel, rfl, by decide +kernel, by decide +kernel⟩
abbrev sd_number_in : Stmt := top 32
def g_number_in : Rho → Rs Out := fun ρ => seqO (setO 1 (Rs.ok (.int 0)) ρ) fun ρ => seqO (loopO (gN 2) (fun ρ => setO 1 (op2 addT (op2 mulT (getS ρ 1) (Rs.ok (.int 10))) (callR intST (consR (getS ρ 2) (.ok [])))) ρ) (seqW (getS ρ 0)) ρ) fun ρ => retO (getS ρ 1)
def m_number_in : List Tr → Rs Tr := mir 1 3 g_number_in
theorem sc_number_in : FnScope ["digits", "number", "sign"] ["digits"] (defScope sd_number_in) := ⟨rfl, rfl, rfl, by decide +kernel, rfl, by decide +kernel, by decide +kernel⟩
abbrev sd_are_digits : Stmt := top 33
def g_are_digits : Rho → Rs Out := fun ρ => retO (andV (op2 neC (getS ρ 0) (Rs.ok (.str ""))) (callR allT (consR (lcR [none] (gN 0) (fun _ => .ok true) (fun ρ => (chnR leC leC (Rs.ok (.str "0")) (getS ρ 0) (Rs.ok (.str "9")))) (seqW (getS ρ 0)) ρ) (.ok []))))
def m_are_digits : List Tr → Rs Tr := mir 1 1 g_are_digits
theorem sc_are_digits : FnScope ["text"] ["text"] (defScope sd_are_digits) := ⟨rfl, rfl, rfl, by decide +kernel, rfl, by decide +kernel, by decide +kernel⟩
abbrev sd_quoted : Stmt := top 34
def g_quoted : Rho → Rs Out := fun ρ => retO (op2 addT (op2 addT (Rs.ok (.str "\"")) (replR "\"" "\\\"" (replR "\\" "\\\\" (getS ρ 0)))) (Rs.ok (.str "\"")))
def m_quoted : List Tr → Rs Tr := mir 1 1 g_quoted
theorem sc_quoted : FnScope ["words"] ["words"] (defScope sd_quoted) := ⟨rfl, rfl, rfl, by decide +kernel, rfl, by decide +kernel, by decide +kernel⟩
abbrev sd_unquoted : Stmt := top 35
def g_unquoted : Rho → Rs Out := fun ρ => retO (replR "\\\\" "\\" (replR "\\\"" "\"" (slR (getS ρ 0) (asI (Rs.ok (.int 1))) (asI ((Rs.ok (.int 1)).bind negT)))))
def m_unquoted : List Tr → Rs Tr := mir 1 1 g_unquoted
theorem sc_unquoted : FnScope ["text"] ["text"] (defScope sd_unquoted) := ⟨rfl, rfl, rfl, by decide +kernel, rfl, by decide +kernel, by decide +kernel⟩
abbrev sd_text_of : Stmt := top 36
def g_text_of : Rho → Rs Out := fun ρ => seqO (ifO (asB (op2 isC (getS ρ 0) (Rs.ok .non))) (retO (Rs.ok (.str "-"))) (.ok (.nx ρ))) fun ρ => retO (iteR ((callR isiT (consR (getS ρ 0) (consR (Rs.ok (.ty "str")) (.ok [])))).bind truT) (getS ρ 0) (callR m_digits_of (consR (getS ρ 0) (.ok []))))
def m_text_of : List Tr → Rs Tr := mir 1 1 g_text_of
theorem sc_text_of : FnScope ["part"] ["part"] (defScope sd_text_of) := ⟨rfl, rfl, rfl, by decide +kernel, rfl, by decide +kernel, by decide +kernel⟩
abbrev sd_part_in : Stmt := top 37
def g_part_in : Rho → Rs Out := fun ρ => seqO (ifO (asB (op2 eqC (getS ρ 0) (Rs.ok (.str "-")))) (retO (Rs.ok .non)) (.ok (.nx ρ))) fun ρ => retO (iteR ((callR m_are_digits (consR (getS ρ 0) (.ok []))).bind truT) (callR m_number_in (consR (getS ρ 0) (.ok []))) (getS ρ 0))
def m_part_in : List Tr → Rs Tr := mir 1 1 g_part_in
theorem sc_part_in : FnScope ["text"] ["text"] (defScope sd_part_in) := ⟨rfl, rfl, rfl, by decide +kernel, rfl, by decide +kernel, by decide +kernel⟩
abbrev sd_texts_of : Stmt := top 38
def g_texts_of : Rho → Rs Out := fun ρ => seqO (ifO (asB (op2 eqC (getS ρ 0) (Rs.ok (.str "say")))) (retO (lstR (consR (callR m_quoted (consR (op2 ixT (getS ρ 1) (Rs.ok (.int 0))) (.ok []))) (consR (callR m_text_of (consR (op2 ixT (getS ρ 1) (Rs.ok (.int 1))) (.ok []))) (.ok []))))) (.ok (.nx ρ))) fun ρ => seqO (ifO (asB (op2 eqC (getS ρ 0) (Rs.ok (.str "mend")))) (retO (lstR (consR (callR m_text_of (consR (op2 ixT (getS ρ 1) (Rs.ok (.int 0))) (.ok []))) (consR (callR m_quoted (consR (op2 ixT (getS ρ 1) (Rs.ok (.int 1))) (.ok []))) (.ok []))))) (.ok (.nx ρ))) fun ρ => retO (lcR [none] (gN 0) (fun _ => .ok true) (fun ρ => (callR m_text_of (consR (getS ρ 0) (.ok [])))) (seqW (getS ρ 1)) ρ)
def m_texts_of : List Tr → Rs Tr := mir 2 2 g_texts_of
theorem sc_texts_of : FnScope ["word", "parts"] ["word", "parts"] (defScope sd_texts_of) := ⟨rfl, rfl, rfl, by decide +kernel, rfl, by decide +kernel, by decide +kernel⟩
abbrev sd_parts_in : Stmt := top 39
def g_parts_in : Rho → Rs Out := fun ρ => seqO (ifO (asB (op2 eqC (getS ρ 0) (Rs.ok (.str "say")))) (seqO (setO 2 (mS rpartM (getS ρ 1) (consR (Rs.ok (.str " ")) (.ok []))) ρ) fun ρ => retO (tupR (consR (callR m_unquoted (consR (op2 ixT (getS ρ 2) (Rs.ok (.int 0))) (.ok []))) (consR (callR m_part_in (consR (op2 ixT (getS ρ 2) (Rs.ok (.int 2))) (.ok []))) (.ok []))))) (.ok (.nx ρ))) fun ρ => seqO (ifO (asB (op2 eqC (getS ρ 0) (Rs.ok (.str "mend")))) (seqO (setO 2 (mS partM (getS ρ 1) (consR (Rs.ok (.str " ")) (.ok []))) ρ) fun ρ => retO (tupR (consR (callR m_part_in (consR (op2 ixT (getS ρ 2) (Rs.ok (.int 0))) (.ok []))) (consR (callR m_unquoted (consR (op2 ixT (getS ρ 2) (Rs.ok (.int 2))) (.ok []))) (.ok []))))) (.ok (.nx ρ))) fun ρ => retO (callR tupleT (consR (lcR [none] (gN 0) (fun _ => .ok true) (fun ρ => (callR m_part_in (consR (getS ρ 0) (.ok [])))) (seqW (mS splitM (getS ρ 1) (consR (Rs.ok (.str " ")) (.ok [])))) ρ) (.ok [])))
def m_parts_in : List Tr → Rs Tr := mir 2 3 g_parts_in
theorem sc_parts_in : FnScope ["word", "text", "cut"] ["word", "text"] (defScope sd_parts_in) := ⟨rfl, rfl, rfl, by decide +kernel, rfl, by decide +kernel, by decide +kernel⟩
abbrev sd_line_of : Stmt := top 40
def g_line_of : Rho → Rs Out := fun ρ => retO (mS joinM (Rs.ok (.str " ")) (consR (op2 addT (lstR (consR (callR m_text_of (consR (op2 ixT (getS ρ 0) (Rs.ok (.int 0))) (.ok []))) (consR (op2 ixT (getS ρ 0) (Rs.ok (.int 1))) (consR (op2 ixT (getS ρ 0) (Rs.ok (.int 2))) (.ok []))))) (callR m_texts_of (consR (op2 ixT (getS ρ 0) (Rs.ok (.int 2))) (consR (slR (getS ρ 0) (asI (Rs.ok (.int 3))) (.ok none)) (.ok []))))) (.ok [])))
def m_line_of : List Tr → Rs Tr := mir 1 1 g_line_of
theorem sc_line_of : FnScope ["row"] ["row"] (defScope sd_line_of) := ⟨rfl, rfl, rfl, by decide +kernel, rfl, by decide +kernel, by decide +kernel⟩
abbrev sd_row_in : Stmt := top 41
def g_row_in : Rho → Ab → Rz Out := fun ρ A => seqZ (setZ 1 (liftZ (mS splitM (getS ρ 0) (consR (Rs.ok (.str " ")) (consR (Rs.ok (.int 3)) (.ok [])))) A) ρ) fun ρ A => seqZ (ifZ (liftZ (asB (op2 ltC (callR lenT (consR (getS ρ 1) (.ok []))) (Rs.ok (.int 3)))) A) (fun A => raiseZ "NoLine" (consZ (liftZ ((fun acc => jCons (Rs.ok (.str "too short for a line: ")) (fun acc => jCons ((getS ρ 0).bind reprT) (fun acc => jNil acc) acc) acc) Str.empty) A) (fun A => (.ok [] A)))) (fun A => .ok (.nx ρ) A)) fun ρ A => seqZ (setZ 2 (liftZ (tupR (consR (callR m_part_in (consR (op2 ixT (getS ρ 1) (Rs.ok (.int 0))) (.ok []))) (consR (op2 ixT (getS ρ 1) (Rs.ok (.int 1))) (consR (op2 ixT (getS ρ 1) (Rs.ok (.int 2))) (.ok []))))) A) ρ) fun ρ A => retZ (liftZ (iteR (asB (op2 eqC (callR lenT (consR (getS ρ 1) (.ok []))) (Rs.ok (.int 3)))) (getS ρ 2) (op2 addT (getS ρ 2) (callR m_parts_in (consR (op2 ixT (getS ρ 1) (Rs.ok (.int 2))) (consR (op2 ixT (getS ρ 1) (Rs.ok (.int 3))) (.ok [])))))) A)
def m_row_in : List Tr → Ab → Rz Tr := mirS 1 3 g_row_in
theorem sc_row_in : FnScope ["text", "pieces", "head"] ["text"] (defScope sd_row_in) := ⟨rfl, rfl, rfl, by decide +kernel, rfl, by decide +kernel, by decide +kernel⟩
abbrev sd_read_line : Stmt := top 42
def g_read_line : Rho → Ab → Rz Out := fun ρ A => seqZ (setZ 1 (((consZ (liftZ (getS ρ 0) A) (fun A => (.ok [] A)))).bind m_row_in) ρ) fun ρ A => seqZ (ifZ (liftZ (orB (notB ((callR m_is_row (consR (getS ρ 1) (.ok []))).bind truT)) (asB (op2 neC (callR m_line_of (consR (getS ρ 1) (.ok []))) (getS ρ 0)))) A) (fun A => raiseZ "NoLine" (consZ (liftZ ((fun acc => jCons (Rs.ok (.str "the line of no row: ")) (fun acc => jCons ((getS ρ 0).bind reprT) (fun acc => jNil acc) acc) acc) Str.empty) A) (fun A => (.ok [] A)))) (fun A => .ok (.nx ρ) A)) fun ρ A => retZ (liftZ (getS ρ 1) A)
def m_read_line : List Tr → Ab → Rz Tr := mirS 1 2 g_read_line
theorem sc_read_line : FnScope ["text", "row"] ["text"] (defScope sd_read_line) := ⟨rfl, rfl, rfl, by decide +kernel, rfl, by decide +kernel, by decide +kernel⟩
abbrev sd_w_cell : Stmt := top 44
def g_w_cell : Rho → Rs Out := fun ρ => seqO (ifO (asB (op2 ltC (getS ρ 1) (callR lenT (consR (getS ρ 0) (.ok []))))) (retO (op2 ixT (getS ρ 0) (getS ρ 1))) (.ok (.nx ρ))) fun ρ => retO (Rs.ok (.int 0))
def m_w_cell : List Tr → Rs Tr := mir 2 2 g_w_cell
theorem sc_w_cell : FnScope ["_law_script", "_law_k"] ["_law_script", "_law_k"] (defScope sd_w_cell) := ⟨rfl, rfl, rfl, by decide +kernel, rfl, by decide +kernel, by decide +kernel⟩
abbrev sd_w_mix : Stmt := top 45
def g_w_mix : Rho → Rs Out := fun ρ => seqO (setO 3 (op2 modT (op2 mulT (getS ρ 0) (Rs.ok (.int 48271))) (getS ρ 1)) ρ) fun ρ => retO (op2 modT (op2 modT (op2 mulT (getS ρ 3) (op2 addT (getS ρ 3) (Rs.ok (.int 7)))) (getS ρ 1)) (getS ρ 2))
def m_w_mix : List Tr → Rs Tr := mir 3 4 g_w_mix
theorem sc_w_mix : FnScope ["_law_cell_here", "_law_prime", "_law_many", "_law_blend"] ["_law_cell_here", "_law_prime", "_law_many"] (defScope sd_w_mix) := ⟨rfl, rfl, rfl, by decide +kernel, rfl, by decide +kernel, by decide +kernel⟩
abbrev sd_w_words : Stmt := top 46
def g_w_words : Rho → Rs Out := fun ρ => seqO (setO 1 (Rs.ok (.str " !\"#$&'()*+,-./0123456789:;<=>?@ABCDEFGHIJKLMNOPQRSTUVWXYZ[\\]^_`abcdefghijklmnopqrstuvwxyz{|}~")) ρ) fun ρ => seqO (ifO (asB (op2 eqC (op2 modT (getS ρ 0) (Rs.ok (.int 3))) (Rs.ok (.int 0)))) (seqO (setO 2 (tupR (consR (Rs.ok (.str "hi")) (consR (Rs.ok (.str "@ann hi")) (consR (Rs.ok (.str "@bo @ann")) (consR (Rs.ok (.str "hi @cy")) (consR (Rs.ok (.str "@ann,")) (consR (Rs.ok (.str "@@ann")) (consR (Rs.ok (.str "a@ann")) (consR (Rs.ok (.str "\"")) (.ok [])))))))))) ρ) fun ρ => seqO (setO 2 (op2 addT (getS ρ 2) (tupR (consR (Rs.ok (.str "@ed @ed x")) (consR (Rs.ok (.str "@")) (consR (Rs.ok (.str "@annabel")) (consR (Rs.ok (.str "@zed")) (.ok []))))))) ρ) fun ρ => retO (op2 ixT (getS ρ 2) (callR m_w_mix (consR (getS ρ 0) (consR (Rs.ok (.int 9973)) (consR (Rs.ok (.int 12)) (.ok []))))))) (.ok (.nx ρ))) fun ρ => seqO (setO 3 (op2 addT (Rs.ok (.int 1)) (callR m_w_mix (consR (getS ρ 0) (consR (Rs.ok (.int 9967)) (consR (Rs.ok (.int 6)) (.ok [])))))) ρ) fun ρ => seqO (ifO (asB (op2 eqC (callR m_w_mix (consR (getS ρ 0) (consR (Rs.ok (.int 9949)) (consR (Rs.ok (.int 9)) (.ok []))))) (Rs.ok (.int 0)))) (setO 3 (Rs.ok (.int 60)) ρ) (.ok (.nx ρ))) fun ρ => retO (mS joinM (Rs.ok (.str "")) (consR (lcR [none, some 1, some 0] (gN 0) (fun _ => .ok true) (fun ρ => (op2 ixT (getS ρ 1) (callR m_w_mix (consR (op2 addT (getS ρ 2) (op2 mulT (Rs.ok (.int 7)) (getS ρ 0))) (consR (Rs.ok (.int 9941)) (consR (callR lenT (consR (getS ρ 1) (.ok []))) (.ok []))))))) (rng1W (consR (getS ρ 3) (.ok []))) ρ) (.ok [])))
def m_w_words : List Tr → Rs Tr := mir 1 4 g_w_words
theorem sc_w_words : FnScope ["_law_cell_here", "_law_signs", "_law_some", "_law_many"] ["_law_cell_here"] (defScope sd_w_words) := ⟨rfl, rfl, rfl, by decide +kernel, rfl, by decide +kernel, by decide +kernel⟩
abbrev sd_w_any_row : Stmt := top 47
def g_w_any_row : Rho → Rs Out := fun ρ => seqO (setO 1 (tupR (consR (Rs.ok (.str "ann")) (consR (Rs.ok (.str "bo")) (consR (Rs.ok (.str "abcdef")) (.ok []))))) ρ) fun ρ => seqO (setO 2 (op2 ixT (getS ρ 1) (callR m_w_mix (consR (getS ρ 0) (consR (Rs.ok (.int 9851)) (consR (Rs.ok (.int 3)) (.ok [])))))) ρ) fun ρ => seqO (setO 3 (op2 addT (Rs.ok (.int 1)) (callR m_w_mix (consR (getS ρ 0) (consR (Rs.ok (.int 9839)) (consR (Rs.ok (.int 12)) (.ok [])))))) ρ) fun ρ => seqO (setO 4 (callR m_w_mix (consR (getS ρ 0) (consR (Rs.ok (.int 9833)) (consR (Rs.ok (.int 12)) (.ok []))))) ρ) fun ρ => seqO (setO 5 (tupR (consR (op2 addT (Rs.ok (.int 1)) (callR m_w_mix (consR (getS ρ 0) (consR (Rs.ok (.int 9829)) (consR (Rs.ok (.int 99)) (.ok [])))))) (consR (op2 ixT (getS ρ 1) (callR m_w_mix (consR (getS ρ 0) (consR (Rs.ok (.int 9817)) (consR (Rs.ok (.int 3)) (.ok [])))))) (.ok [])))) ρ) fun ρ => seqO (ifO (asB (op2 ltC (getS ρ 4) (Rs.ok (.int 3)))) (retO (op2 addT (getS ρ 5) (tupR (consR (op2 ixT (tupR (consR (Rs.ok (.str "found")) (consR (Rs.ok (.str "enter")) (consR (Rs.ok (.str "leave")) (.ok []))))) (getS ρ 4)) (.ok []))))) (.ok (.nx ρ))) fun ρ => seqO (ifO (asB (op2 eqC (getS ρ 4) (Rs.ok (.int 3)))) (seqO (setO 6 (lstR (consR (tupR (consR (Rs.ok (.str "door")) (consR (Rs.ok (.str "open")) (.ok [])))) (consR (tupR (consR (Rs.ok (.str "door")) (consR (Rs.ok (.str "asked")) (.ok [])))) (consR (tupR (consR (Rs.ok (.str "voice")) (consR (Rs.ok (.str "all")) (.ok [])))) (.ok []))))) ρ) fun ρ => seqO (setO 6 (op2 addT (getS ρ 6) (lstR (consR (tupR (consR (Rs.ok (.str "voice")) (consR (Rs.ok (.str "some")) (.ok [])))) (consR (tupR (consR (Rs.ok (.str "past")) (consR (Rs.ok (.str "shown")) (.ok [])))) (consR (tupR (consR (Rs.ok (.str "past")) (consR (Rs.ok (.str "hidden")) (.ok [])))) (.ok [])))))) ρ) fun ρ => retO (op2 addT (op2 addT (getS ρ 5) (tupR (consR (Rs.ok (.str "set")) (.ok [])))) (op2 ixT (getS ρ 6) (callR m_w_mix (consR (getS ρ 0) (consR (Rs.ok (.int 9811)) (consR (Rs.ok (.int 6)) (.ok [])))))))) (.ok (.nx ρ))) fun ρ => seqO (ifO (asB (op2 ltC (getS ρ 4) (Rs.ok (.int 8)))) (retO (op2 addT (getS ρ 5) (tupR (consR (op2 ixT (tupR (consR (Rs.ok (.str "ask")) (consR (Rs.ok (.str "unbar")) (consR (Rs.ok (.str "out")) (consR (Rs.ok (.str "bar")) (.ok [])))))) (op2 subT (getS ρ 4) (Rs.ok (.int 4)))) (consR (getS ρ 2) (.ok [])))))) (.ok (.nx ρ))) fun ρ => seqO (ifO (asB (op2 eqC (getS ρ 4) (Rs.ok (.int 8)))) (retO (op2 addT (getS ρ 5) (tupR (consR (Rs.ok (.str "role")) (consR (getS ρ 2) (consR (op2 ixT (tupR (consR (Rs.ok (.str "guest")) (consR (Rs.ok (.str "speaker")) (consR (Rs.ok (.str "keeper")) (consR (Rs.ok (.str "owner")) (.ok [])))))) (callR m_w_mix (consR (getS ρ 0) (consR (Rs.ok (.int 9803)) (consR (Rs.ok (.int 4)) (.ok [])))))) (.ok []))))))) (.ok (.nx ρ))) fun ρ => seqO (ifO (asB (op2 eqC (getS ρ 4) (Rs.ok (.int 9)))) (retO (op2 addT (getS ρ 5) (tupR (consR (Rs.ok (.str "say")) (consR (callR m_w_words (consR (op2 addT (getS ρ 0) (Rs.ok (.int 1))) (.ok []))) (consR (op2 ixT (tupR (consR (Rs.ok .non) (consR (getS ρ 3) (.ok [])))) (op2 modT (getS ρ 0) (Rs.ok (.int 2)))) (.ok []))))))) (.ok (.nx ρ))) fun ρ => seqO (ifO (asB (op2 eqC (getS ρ 4) (Rs.ok (.int 10)))) (retO (op2 addT (getS ρ 5) (tupR (consR (Rs.ok (.str "mend")) (consR (getS ρ 3) (consR (callR m_w_words (consR (op2 addT (getS ρ 0) (Rs.ok (.int 2))) (.ok []))) (.ok []))))))) (.ok (.nx ρ))) fun ρ => retO (op2 addT (getS ρ 5) (tupR (consR (Rs.ok (.str "gone")) (consR (getS ρ 3) (.ok [])))))
def m_w_any_row : List Tr → Rs Tr := mir 1 7 g_w_any_row
theorem sc_w_any_row : FnScope ["_law_cell_here", "_law_names", "_law_whom", "_law_number", "_law_way", "_law_ahead", "_law_some"] ["_law_cell_here"] (defScope sd_w_any_row) := ⟨rfl, rfl, rfl, by decide +kernel, rfl, by decide +kernel, by decide +kernel⟩
abbrev sd_w_line : Stmt := top 48
def g_w_line : Rho → Rs Out := fun ρ => seqO (setO 1 (op2 addT (op2 addT (op2 addT (op2 addT (callR strT (consR (op2 ixT (getS ρ 0) (Rs.ok (.int 0))) (.ok []))) (Rs.ok (.str " "))) (op2 ixT (getS ρ 0) (Rs.ok (.int 1)))) (Rs.ok (.str " "))) (op2 ixT (getS ρ 0) (Rs.ok (.int 2)))) ρ) fun ρ => seqO (loopO (gT [2, 3]) (fun ρ => ifO (asB (op2 isC (getS ρ 3) (Rs.ok .non))) (setO 1 (op2 addT (getS ρ 1) (Rs.ok (.str " -"))) ρ) (ifO (orB (andB (asB (op2 eqC (op2 ixT (getS ρ 0) (Rs.ok (.int 2))) (Rs.ok (.str "say")))) (asB (op2 eqC (getS ρ 2) (Rs.ok (.int 0))))) (andB (asB (op2 eqC (op2 ixT (getS ρ 0) (Rs.ok (.int 2))) (Rs.ok (.str "mend")))) (asB (op2 eqC (getS ρ 2) (Rs.ok (.int 1)))))) (seqO (setO 1 (op2 addT (getS ρ 1) (Rs.ok (.str " \""))) ρ) fun ρ => seqO (loopO (gN 4) (fun ρ => seqO (ifO (asB (op2 inC (getS ρ 4) (Rs.ok (.str "\\\"")))) (setO 1 (op2 addT (getS ρ 1) (Rs.ok (.str "\\"))) ρ) (.ok (.nx ρ))) fun ρ => setO 1 (op2 addT (getS ρ 1) (getS ρ 4)) ρ) (seqW (getS ρ 3)) ρ) fun ρ => setO 1 (op2 addT (getS ρ 1) (Rs.ok (.str "\""))) ρ) (setO 1 (op2 addT (op2 addT (getS ρ 1) (Rs.ok (.str " "))) (callR strT (consR (getS ρ 3) (.ok [])))) ρ))) (enW (consR (slR (getS ρ 0) (asI (Rs.ok (.int 3))) (.ok none)) (.ok []))) ρ) fun ρ => retO (getS ρ 1)
def m_w_line : List Tr → Rs Tr := mir 1 5 g_w_line
theorem sc_w_line : FnScope ["_law_row", "_law_found", "_law_k", "_law_part", "_law_sign"] ["_law_row"] (defScope sd_w_line) := ⟨rfl, rfl, rfl, by decide +kernel, rfl, by decide +kernel, by decide +kernel⟩
abbrev sd_w_word : Stmt := top 49
def g_w_word : Rho → Rs Out := fun ρ => seqO (setO 1 (lstR (consR ((getS ρ 0).bind (isxT [("Known", true), ("NoPerson", false), ("NoRoom", false), ("NotIn", false), ("NotAsked", false), ("Barred", false), ("NoRight", false), ("NoRow", false), ("NoHand", false), ("NoLine", false)])) (consR ((getS ρ 0).bind (isxT [("Known", false), ("NoPerson", true), ("NoRoom", false), ("NotIn", false), ("NotAsked", false), ("Barred", false), ("NoRight", false), ("NoRow", false), ("NoHand", false), ("NoLine", false)])) (.ok [])))) ρ) fun ρ => seqO (setO 1 (op2 addT (getS ρ 1) (lstR (consR ((getS ρ 0).bind (isxT [("Known", false), ("NoPerson", false), ("NoRoom", true), ("NotIn", false), ("NotAsked", false), ("Barred", false), ("NoRight", false), ("NoRow", false), ("NoHand", false), ("NoLine", false)])) (consR ((getS ρ 0).bind (isxT [("Known", false), ("NoPerson", false), ("NoRoom", false), ("NotIn", true), ("NotAsked", false), ("Barred", false), ("NoRight", false), ("NoRow", false), ("NoHand", false), ("NoLine", false)])) (.ok []))))) ρ) fun ρ => seqO (setO 1 (op2 addT (getS ρ 1) (lstR (consR ((getS ρ 0).bind (isxT [("Known", false), ("NoPerson", false), ("NoRoom", false), ("NotIn", false), ("NotAsked", true), ("Barred", false), ("NoRight", false), ("NoRow", false), ("NoHand", false), ("NoLine", false)])) (consR ((getS ρ 0).bind (isxT [("Known", false), ("NoPerson", false), ("NoRoom", false), ("NotIn", false), ("NotAsked", false), ("Barred", true), ("NoRight", false), ("NoRow", false), ("NoHand", false), ("NoLine", false)])) (.ok []))))) ρ) fun ρ => seqO (setO 1 (op2 addT (getS ρ 1) (lstR (consR ((getS ρ 0).bind (isxT [("Known", false), ("NoPerson", false), ("NoRoom", false), ("NotIn", false), ("NotAsked", false), ("Barred", false), ("NoRight", true), ("NoRow", false), ("NoHand", false), ("NoLine", false)])) (.ok [])))) ρ) fun ρ => seqO (setO 1 (op2 addT (getS ρ 1) (lstR (consR ((getS ρ 0).bind (isxT [("Known", false), ("NoPerson", false), ("NoRoom", false), ("NotIn", false), ("NotAsked", false), ("Barred", false), ("NoRight", false), ("NoRow", true), ("NoHand", false), ("NoLine", false)])) (consR ((getS ρ 0).bind (isxT [("Known", false), ("NoPerson", false), ("NoRoom", false), ("NotIn", false), ("NotAsked", false), ("Barred", false), ("NoRight", false), ("NoRow", false), ("NoHand", true), ("NoLine", false)])) (consR ((getS ρ 0).bind (isxT [("Known", false), ("NoPerson", false), ("NoRoom", false), ("NotIn", false), ("NotAsked", false), ("Barred", false), ("NoRight", false), ("NoRow", false), ("NoHand", false), ("NoLine", true)])) (.ok [])))))) ρ) fun ρ => seqO (setO 2 (tupR (consR (Rs.ok (.str "known")) (consR (Rs.ok (.str "no person")) (consR (Rs.ok (.str "no room")) (consR (Rs.ok (.str "not in")) (consR (Rs.ok (.str "not asked")) (consR (Rs.ok (.str "barred")) (.ok [])))))))) ρ) fun ρ => seqO (setO 2 (op2 addT (getS ρ 2) (tupR (consR (Rs.ok (.str "no right")) (consR (Rs.ok (.str "no row")) (consR (Rs.ok (.str "no hand")) (consR (Rs.ok (.str "no line")) (.ok []))))))) ρ) fun ρ => seqO (ifO (orB (asB (op2 neC (lmR cntR (getS ρ 1) (Rs.ok (.bl true))) (Rs.ok (.int 1)))) (notB (((getS ρ 0).bind (isxT [("Known", true), ("NoPerson", true), ("NoRoom", true), ("NotIn", true), ("NotAsked", true), ("Barred", true), ("NoRight", true), ("NoRow", true), ("NoHand", true), ("NoLine", true)])).bind truT))) (retO (Rs.ok (.str "wrong"))) (.ok (.nx ρ))) fun ρ => retO (op2 ixT (getS ρ 2) (lmR idxR (getS ρ 1) (Rs.ok (.bl true))))
def m_w_word : List Tr → Rs Tr := mir 1 3 g_w_word
theorem sc_w_word : FnScope ["_law_kept", "_law_kinds", "_law_words_here"] ["_law_kept"] (defScope sd_w_word) := ⟨rfl, rfl, rfl, by decide +kernel, rfl, by decide +kernel, by decide +kernel⟩
abbrev sd_w_read : Stmt := top 50
def g_w_read : Rho → Ab → Rz Out := fun ρ A => seqZ (setZ 1 (flZ ((fun ρ => (Rs.ok .non)) (thawR A ρ)) A) ρ) fun ρ A => seqZ (setZ 2 (flZ ((fun ρ => (Rs.ok .non)) (thawR A ρ)) A) ρ) fun ρ A => seqZ (tryZ 4 3 ["Known", "NoPerson", "NoRoom", "NotIn", "NotAsked", "Barred", "NoRight", "NoRow", "NoHand", "NoLine"] (setZ 2 (((consZ (liftZ (getS ρ 0) A) (fun A => (.ok [] A)))).bind m_read_line) ρ) (fun ρ A => setZ 1 (liftZ (getS ρ 3) A) ρ)) fun ρ A => retZ (flZ ((fun ρ => (iteR (asB (op2 isC (getS ρ 1) (Rs.ok .non))) (getS ρ 2) (callR m_w_word (consR (getS ρ 1) (.ok []))))) (thawR A ρ)) A)
def m_w_read : List Tr → Rs Tr := mirZ 1 4 g_w_read
theorem sc_w_read : FnScope ["_law_text", "_law_kept", "_law_answer", "e"] ["_law_text"] (defScope sd_w_read) := ⟨rfl, rfl, rfl, by decide +kernel, rfl, by decide +kernel, by decide +kernel⟩
abbrev sd_w_is_right : Stmt := top 51
def g_w_is_right : Rho → Rs Out := fun ρ => seqO (setO 1 (callR m_w_read (consR (getS ρ 0) (.ok []))) ρ) fun ρ => seqO (ifO ((callR isiT (consR (getS ρ 1) (consR (Rs.ok (.ty "str")) (.ok [])))).bind truT) (retO (op2 eqC (getS ρ 1) (Rs.ok (.str "no line")))) (.ok (.nx ρ))) fun ρ => retO (andV (op2 isC (callR m_is_row (consR (getS ρ 1) (.ok []))) (Rs.ok (.bl true))) (op2 eqC (callR m_w_line (consR (getS ρ 1) (.ok []))) (getS ρ 0)))
def m_w_is_right : List Tr → Rs Tr := mir 1 2 g_w_is_right
theorem sc_w_is_right : FnScope ["_law_text", "_law_told"] ["_law_text"] (defScope sd_w_is_right) := ⟨rfl, rfl, rfl, by decide +kernel, rfl, by decide +kernel, by decide +kernel⟩
abbrev sd_w_lines : Stmt := top 52
def g_w_lines : Rho → Rs Out := fun ρ => seqO (setO 0 (lstR (consR (Rs.ok (.str "")) (consR (Rs.ok (.str " ")) (consR (Rs.ok (.str "1")) (consR (Rs.ok (.str "1 ann")) (consR (Rs.ok (.str "ann enter")) (consR (Rs.ok (.str "1 ann enter ")) (.ok [])))))))) ρ) fun ρ => seqO (setO 0 (op2 addT (getS ρ 0) (lstR (consR (Rs.ok (.str " 1 ann enter")) (consR (Rs.ok (.str "1  ann enter")) (consR (Rs.ok (.str "0 ann enter")) (consR (Rs.ok (.str "01 ann enter")) (consR (Rs.ok (.str "-1 ann enter")) (.ok [])))))))) ρ) fun ρ => seqO (setO 0 (op2 addT (getS ρ 0) (lstR (consR (Rs.ok (.str "1 Ann enter")) (consR (Rs.ok (.str "1 ann entered")) (consR (Rs.ok (.str "1 ann enter bo")) (consR (Rs.ok (.str "1 abcdefg leave")) (.ok []))))))) ρ) fun ρ => seqO (setO 0 (op2 addT (getS ρ 0) (lstR (consR (Rs.ok (.str "1 ann found -")) (consR (Rs.ok (.str "1 ann set door")) (consR (Rs.ok (.str "1 ann set door all")) (.ok [])))))) ρ) fun ρ => seqO (setO 0 (op2 addT (getS ρ 0) (lstR (consR (Rs.ok (.str "1 ann set past open")) (consR (Rs.ok (.str "1 ann ask")) (consR (Rs.ok (.str "1 ann ask 5")) (consR (Rs.ok (.str "1 ann ask bo cy")) (.ok []))))))) ρ) fun ρ => seqO (setO 0 (op2 addT (getS ρ 0) (lstR (consR (Rs.ok (.str "1 ann role bo")) (consR (Rs.ok (.str "1 ann role bo king")) (consR (Rs.ok (.str "1 ann out Bo")) (.ok [])))))) ρ) fun ρ => seqO (setO 0 (op2 addT (getS ρ 0) (lstR (consR (Rs.ok (.str "1 ann say \"hi\"")) (consR (Rs.ok (.str "1 ann say hi -")) (consR (Rs.ok (.str "1 ann say \"\" -")) (consR (Rs.ok (.str "1 ann say \"hi\" 0")) (.ok []))))))) ρ) fun ρ => seqO (setO 0 (op2 addT (getS ρ 0) (lstR (consR (Rs.ok (.str "1 ann say \"hi\" 01")) (consR (Rs.ok (.str "1 ann say \"hi\" bo")) (consR (Rs.ok (.str "1 ann say \"hi")) (.ok [])))))) ρ) fun ρ => seqO (setO 0 (op2 addT (getS ρ 0) (lstR (consR (Rs.ok (.str "1 ann say \"h\"i\" -")) (consR (Rs.ok (.str "1 ann say \"\\hi\" -")) (consR (Rs.ok (.str "1 ann say \"hi\"  -")) (.ok [])))))) ρ) fun ρ => seqO (setO 0 (op2 addT (getS ρ 0) (lstR (consR (Rs.ok (.str "1 ann say \"hi\"- -")) (consR (Rs.ok (.str "1 ann mend \"hi\" 2")) (consR (Rs.ok (.str "1 ann mend 2 hi")) (.ok [])))))) ρ) fun ρ => seqO (setO 0 (op2 addT (getS ρ 0) (lstR (consR (Rs.ok (.str "1 ann mend - \"hi\"")) (consR (Rs.ok (.str "1 ann gone")) (consR (Rs.ok (.str "1 ann gone -")) (consR (Rs.ok (.str "1 ann gone bo")) (.ok []))))))) ρ) fun ρ => seqO (setO 0 (op2 addT (getS ρ 0) (lstR (consR (Rs.ok (.str "\"1\" ann enter")) (consR (Rs.ok (.str "1 \"ann\" enter")) (consR (Rs.ok (.str "1 ann unbar")) (consR (Rs.ok (.str "+1 ann enter")) (.ok []))))))) ρ) fun ρ => retO (getS ρ 0)
def m_w_lines : List Tr → Rs Tr := mir 0 1 g_w_lines
theorem sc_w_lines : FnScope ["_law_some"] [] (defScope sd_w_lines) := ⟨rfl, rfl, rfl, by decide +kernel, rfl, by decide +kernel, by decide +kernel⟩
abbrev sd_w_changed : Stmt := top 53
def g_w_changed : Rho → Rs Out := fun ρ => seqO (setO 2 (callR m_w_mix (consR (getS ρ 1) (consR (Rs.ok (.int 9817)) (consR (op2 addT (callR lenT (consR (getS ρ 0) (.ok []))) (Rs.ok (.int 1))) (.ok []))))) ρ) fun ρ => seqO (setO 3 (Rs.ok (.str " \"\\-019abenst")) ρ) fun ρ => seqO (setO 4 (op2 ixT (getS ρ 3) (callR m_w_mix (consR (getS ρ 1) (consR (Rs.ok (.int 9811)) (consR (callR lenT (consR (getS ρ 3) (.ok []))) (.ok [])))))) ρ) fun ρ => seqO (setO 5 (callR m_w_mix (consR (getS ρ 1) (consR (Rs.ok (.int 9803)) (consR (Rs.ok (.int 3)) (.ok []))))) ρ) fun ρ => seqO (ifO (asB (op2 eqC (getS ρ 5) (Rs.ok (.int 0)))) (retO (op2 addT (op2 addT (slR (getS ρ 0) (.ok none) (asI (getS ρ 2))) (getS ρ 4)) (slR (getS ρ 0) (asI (getS ρ 2)) (.ok none)))) (.ok (.nx ρ))) fun ρ => seqO (ifO (asB (op2 eqC (getS ρ 5) (Rs.ok (.int 1)))) (retO (op2 addT (slR (getS ρ 0) (.ok none) (asI (getS ρ 2))) (slR (getS ρ 0) (asI (op2 addT (getS ρ 2) (Rs.ok (.int 1)))) (.ok none)))) (.ok (.nx ρ))) fun ρ => retO (op2 addT (op2 addT (slR (getS ρ 0) (.ok none) (asI (getS ρ 2))) (getS ρ 4)) (slR (getS ρ 0) (asI (op2 addT (getS ρ 2) (Rs.ok (.int 1)))) (.ok none)))
def m_w_changed : List Tr → Rs Tr := mir 2 6 g_w_changed
theorem sc_w_changed : FnScope ["_law_text", "_law_cell_here", "_law_at", "_law_signs", "_law_sign", "_law_kind"] ["_law_text", "_law_cell_here"] (defScope sd_w_changed) := ⟨rfl, rfl, rfl, by decide +kernel, rfl, by decide +kernel, by decide +kernel⟩
abbrev sd_law : Stmt := top 54
def g_law : Rho → Rs Out := fun ρ => seqO (ifO ((callR anyT (consR (lcR [none] (gN 0) (fun _ => .ok true) (fun ρ => (op2 neC (callR m_w_read (consR (getS ρ 0) (.ok []))) (Rs.ok (.str "no line")))) (seqW (m_w_lines [])) ρ) (.ok []))).bind truT) (retO (Rs.ok (.bl false))) (.ok (.nx ρ))) fun ρ => seqO (setO 1 (tupR (consR (Rs.ok (.str "1")) (consR (Rs.ok (.str "ann")) (consR (Rs.ok (.str "bo")) (consR (Rs.ok (.str "enter")) (consR (Rs.ok (.str "say")) (consR (Rs.ok (.str "\"hi\"")) (consR (Rs.ok (.str "-")) (consR (Rs.ok (.str "gone")) (consR (Rs.ok (.str "2")) (consR (Rs.ok (.str "role")) (.ok [])))))))))))) ρ) fun ρ => seqO (setO 1 (op2 addT (getS ρ 1) (tupR (consR (Rs.ok (.str "owner")) (consR (Rs.ok (.str "mend")) (consR (Rs.ok (.str " ")) (consR (Rs.ok (.str "set")) (consR (Rs.ok (.str "door")) (consR (Rs.ok (.str "open")) (.ok []))))))))) ρ) fun ρ => seqO (loopO (gN 2) (fun ρ => seqO (setO 3 (callR m_w_line (consR (callR m_w_any_row (consR (op2 addT (callR m_w_cell (consR (getS ρ 0) (consR (getS ρ 2) (.ok [])))) (op2 mulT (Rs.ok (.int 31)) (getS ρ 2))) (.ok []))) (.ok []))) ρ) fun ρ => seqO (loopO (gN 4) (fun ρ => seqO (setO 3 (callR m_w_changed (consR (getS ρ 3) (consR (op2 addT (callR m_w_cell (consR (getS ρ 0) (consR (op2 addT (Rs.ok (.int 8)) (getS ρ 4)) (.ok [])))) (op2 mulT (Rs.ok (.int 7)) (getS ρ 2))) (.ok [])))) ρ) fun ρ => ifO (notB ((callR m_w_is_right (consR (getS ρ 3) (.ok []))).bind truT)) (retO (Rs.ok (.bl false))) (.ok (.nx ρ))) (rng1W (consR (Rs.ok (.int 3)) (.ok []))) ρ) fun ρ => seqO (setO 5 (op2 addT (callR m_w_cell (consR (getS ρ 0) (consR (Rs.ok (.int 11)) (.ok [])))) (op2 mulT (Rs.ok (.int 17)) (getS ρ 2))) ρ) fun ρ => seqO (setO 6 (lcR [none, some 1, some 5] (gN 0) (fun _ => .ok true) (fun ρ => (op2 ixT (getS ρ 1) (callR m_w_mix (consR (op2 addT (getS ρ 2) (op2 mulT (Rs.ok (.int 3)) (getS ρ 0))) (consR (Rs.ok (.int 9787)) (consR (Rs.ok (.int 16)) (.ok []))))))) (rng1W (consR (callR m_w_mix (consR (getS ρ 5) (consR (Rs.ok (.int 9781)) (consR (Rs.ok (.int 7)) (.ok []))))) (.ok []))) ρ) ρ) fun ρ => ifO (notB ((callR m_w_is_right (consR (mS joinM (Rs.ok (.str " ")) (consR (getS ρ 6) (.ok []))) (.ok []))).bind truT)) (retO (Rs.ok (.bl false))) (.ok (.nx ρ))) (rng1W (consR (Rs.ok (.int 8)) (.ok []))) ρ) fun ρ => retO (Rs.ok (.bl true))
def m_law : List Tr → Rs Tr := mir 1 7 g_law
theorem sc_law : FnScope ["_law_script", "_law_words_here", "_law_k", "_law_text", "_law_turn", "_law_cell_here", "_law_drawn"] ["_law_script"] (defScope sd_law) := ⟨rfl, rfl, rfl, by decide +kernel, rfl, by decide +kernel, by decide +kernel⟩
structure Gl0 (K : PySem.W.Frag) (w : World) (mg : Str → Option Value) : Prop where
  BARE_WORDS : GlobT K mg "BARE_WORDS" (.tup [.str "found", .str "enter", .str "leave"])
  MOST_LETTERS : GlobT K mg "MOST_LETTERS" (.int 6)
  MOST_SIGNS : GlobT K mg "MOST_SIGNS" (.int 60)
  ROLES : GlobT K mg "ROLES" (.tup [.str "guest", .str "speaker", .str "keeper", .str "owner"])
  WHOM_WORDS : GlobT K mg "WHOM_WORDS" (.tup [.str "ask", .str "unbar", .str "out", .str "bar"])
  ValueError : mg "ValueError" = none
  all : mg "all" = none
  any : mg "any" = none
  bool : mg "bool" = none
  enumerate : mg "enumerate" = none
  int : mg "int" = none
  isinstance : mg "isinstance" = none
  len : mg "len" = none
  range : mg "range" = none
  reversed : mg "reversed" = none
  str : mg "str" = none
  tuple : mg "tuple" = none
  SETTINGS : GDictT K w mg "SETTINGS" [("door", .tup [.str "open", .str "asked"]), ("voice", .tup [.str "all", .str "some"]), ("past", .tup [.str "shown", .str "hidden"])]
  x_Barred : IsxAt K (.ref (clsAt K "Barred")) [("Known", false), ("NoPerson", false), ("NoRoom", false), ("NotIn", false), ("NotAsked", false), ("Barred", true), ("NoRight", false), ("NoRow", false), ("NoHand", false), ("NoLine", false)]
  x_Known : IsxAt K (.ref (clsAt K "Known")) [("Known", true), ("NoPerson", false), ("NoRoom", false), ("NotIn", false), ("NotAsked", false), ("Barred", false), ("NoRight", false), ("NoRow", false), ("NoHand", false), ("NoLine", false)]
  x_NoHand : IsxAt K (.ref (clsAt K "NoHand")) [("Known", false), ("NoPerson", false), ("NoRoom", false), ("NotIn", false), ("NotAsked", false), ("Barred", false), ("NoRight", false), ("NoRow", false), ("NoHand", true), ("NoLine", false)]
  x_NoLine : IsxAt K (.ref (clsAt K "NoLine")) [("Known", false), ("NoPerson", false), ("NoRoom", false), ("NotIn", false), ("NotAsked", false), ("Barred", false), ("NoRight", false), ("NoRow", false), ("NoHand", false), ("NoLine", true)]
  x_NoPerson : IsxAt K (.ref (clsAt K "NoPerson")) [("Known", false), ("NoPerson", true), ("NoRoom", false), ("NotIn", false), ("NotAsked", false), ("Barred", false), ("NoRight", false), ("NoRow", false), ("NoHand", false), ("NoLine", false)]
  x_NoRight : IsxAt K (.ref (clsAt K "NoRight")) [("Known", false), ("NoPerson", false), ("NoRoom", false), ("NotIn", false), ("NotAsked", false), ("Barred", false), ("NoRight", true), ("NoRow", false), ("NoHand", false), ("NoLine", false)]
  x_NoRoom : IsxAt K (.ref (clsAt K "NoRoom")) [("Known", false), ("NoPerson", false), ("NoRoom", true), ("NotIn", false), ("NotAsked", false), ("Barred", false), ("NoRight", false), ("NoRow", false), ("NoHand", false), ("NoLine", false)]
  x_NoRow : IsxAt K (.ref (clsAt K "NoRow")) [("Known", false), ("NoPerson", false), ("NoRoom", false), ("NotIn", false), ("NotAsked", false), ("Barred", false), ("NoRight", false), ("NoRow", true), ("NoHand", false), ("NoLine", false)]
  x_NotAsked : IsxAt K (.ref (clsAt K "NotAsked")) [("Known", false), ("NoPerson", false), ("NoRoom", false), ("NotIn", false), ("NotAsked", true), ("Barred", false), ("NoRight", false), ("NoRow", false), ("NoHand", false), ("NoLine", false)]
  x_NotIn : IsxAt K (.ref (clsAt K "NotIn")) [("Known", false), ("NoPerson", false), ("NoRoom", false), ("NotIn", true), ("NotAsked", false), ("Barred", false), ("NoRight", false), ("NoRow", false), ("NoHand", false), ("NoLine", false)]
  x_ValueError : IsxAt K (.type "ValueError") [("Known", true), ("NoPerson", true), ("NoRoom", true), ("NotIn", true), ("NotAsked", true), ("Barred", true), ("NoRight", true), ("NoRow", true), ("NoHand", true), ("NoLine", true)]
  xm_Barred : mg "Barred" = some (.ref (clsAt K "Barred"))
  xm_Known : mg "Known" = some (.ref (clsAt K "Known"))
  xm_NoHand : mg "NoHand" = some (.ref (clsAt K "NoHand"))
  xm_NoLine : mg "NoLine" = some (.ref (clsAt K "NoLine"))
  xm_NoPerson : mg "NoPerson" = some (.ref (clsAt K "NoPerson"))
  xm_NoRight : mg "NoRight" = some (.ref (clsAt K "NoRight"))
  xm_NoRoom : mg "NoRoom" = some (.ref (clsAt K "NoRoom"))
  xm_NoRow : mg "NoRow" = some (.ref (clsAt K "NoRow"))
  xm_NotAsked : mg "NotAsked" = some (.ref (clsAt K "NotAsked"))
  xm_NotIn : mg "NotIn" = some (.ref (clsAt K "NotIn"))
  c_TalkError : CatchAt K mg "TalkError" ["Known", "NoPerson", "NoRoom", "NotIn", "NotAsked", "Barred", "NoRight", "NoRow", "NoHand", "NoLine"]
  r_NoLine : ErrAt K mg "NoLine"
structure Ds (K : PySem.W.Frag) (mg : Str → Option Value) (fa : Str → Addr) (ft : Str → FuncData) : Prop where
  is_letter : DefAt K mg "is_letter" sd_is_letter ["sign"] (fa "is_letter") (ft "is_letter")
  is_name : DefAt K mg "is_name" sd_is_name ["thing"] (fa "is_name") (ft "is_name")
  is_words : DefAt K mg "is_words" sd_is_words ["thing"] (fa "is_words") (ft "is_words")
  is_whole : DefAt K mg "is_whole" sd_is_whole ["thing"] (fa "is_whole") (ft "is_whole")
  is_number : DefAt K mg "is_number" sd_is_number ["thing"] (fa "is_number") (ft "is_number")
  is_answer : DefAt K mg "is_answer" sd_is_answer ["thing"] (fa "is_answer") (ft "is_answer")
  is_setting : DefAt K mg "is_setting" sd_is_setting ["what", "value"] (fa "is_setting") (ft "is_setting")
  are_two_parts : DefAt K mg "are_two_parts" sd_are_two_parts ["word", "first", "second"] (fa "are_two_parts") (ft "are_two_parts")
  are_parts : DefAt K mg "are_parts" sd_are_parts ["word", "parts"] (fa "are_parts") (ft "are_parts")
  is_row : DefAt K mg "is_row" sd_is_row ["thing"] (fa "is_row") (ft "is_row")
  digits_of : DefAt K mg "digits_of" sd_digits_of ["number"] (fa "digits_of") (ft "digits_of")
  number_in : DefAt K mg "number_in" sd_number_in ["digits"] (fa "number_in") (ft "number_in")
  are_digits : DefAt K mg "are_digits" sd_are_digits ["text"] (fa "are_digits") (ft "are_digits")
  quoted : DefAt K mg "quoted" sd_quoted ["words"] (fa "quoted") (ft "quoted")
  unquoted : DefAt K mg "unquoted" sd_unquoted ["text"] (fa "unquoted") (ft "unquoted")
  text_of : DefAt K mg "text_of" sd_text_of ["part"] (fa "text_of") (ft "text_of")
  part_in : DefAt K mg "part_in" sd_part_in ["text"] (fa "part_in") (ft "part_in")
  texts_of : DefAt K mg "texts_of" sd_texts_of ["word", "parts"] (fa "texts_of") (ft "texts_of")
  parts_in : DefAt K mg "parts_in" sd_parts_in ["word", "text"] (fa "parts_in") (ft "parts_in")
  line_of : DefAt K mg "line_of" sd_line_of ["row"] (fa "line_of") (ft "line_of")
  row_in : DefAt K mg "row_in" sd_row_in ["text"] (fa "row_in") (ft "row_in")
  read_line : DefAt K mg "read_line" sd_read_line ["text"] (fa "read_line") (ft "read_line")
  w_cell : DefAt K mg "_law_cell" sd_w_cell ["_law_script", "_law_k"] (fa "w_cell") (ft "w_cell")
  w_mix : DefAt K mg "_law_mix" sd_w_mix ["_law_cell_here", "_law_prime", "_law_many"] (fa "w_mix") (ft "w_mix")
  w_words : DefAt K mg "_law_words" sd_w_words ["_law_cell_here"] (fa "w_words") (ft "w_words")
  w_any_row : DefAt K mg "_law_any_row" sd_w_any_row ["_law_cell_here"] (fa "w_any_row") (ft "w_any_row")
  w_line : DefAt K mg "_law_line" sd_w_line ["_law_row"] (fa "w_line") (ft "w_line")
  w_word : DefAt K mg "_law_word" sd_w_word ["_law_kept"] (fa "w_word") (ft "w_word")
  w_read : DefAt K mg "_law_read" sd_w_read ["_law_text"] (fa "w_read") (ft "w_read")
  w_is_right : DefAt K mg "_law_is_right" sd_w_is_right ["_law_text"] (fa "w_is_right") (ft "w_is_right")
  w_lines : DefAt K mg "_law_lines" sd_w_lines [] (fa "w_lines") (ft "w_lines")
  w_changed : DefAt K mg "_law_changed" sd_w_changed ["_law_text", "_law_cell_here"] (fa "w_changed") (ft "w_changed")
  law : DefAt K mg "law" sd_law ["_law_script"] (fa "law") (ft "law")
section
variable {P : Program} {w : World} {K : PySem.W.Frag} {mg : Str → Option Value} {base : Heap} {fa : Str → Addr} {ft : Str → FuncData}
theorem ok_is_letter (T : Gl0 K w mg) (D : Ds K mg fa ft) : FnOk P w K mg base CX0 1 (fa "is_letter") (ft "is_letter") ["sign"] (spT K m_is_letter) := by
  have Fn := D.is_letter.fn
  refine Fun.okQ Fn sc_is_letter (fun ts t e => mir_len e) fun cdv A outer s H E hr =>
    ⟨_, (S_one (S_ret (T_chain o_le o_le T_str (T_var 0) T_str))), ?_⟩
  exact fun ts t e => mir_ok (G := g_is_letter) e
theorem ok_is_name (T : Gl0 K w mg) (D : Ds K mg fa ft) : FnOk P w K mg base CX0 2 (fa "is_name") (ft "is_name") ["thing"] (spT K m_is_name) := by
  have G_is_letter : FnOk P w K mg base CX0 1 (fa "is_letter") (ft "is_letter") ["sign"] (spT K m_is_letter) := (ok_is_letter T D).mono (by decide)
  have Fn := D.is_name.fn
  refine Fun.okQ Fn sc_is_name (fun ts t e => mir_len e) fun cdv A outer s H E hr =>
    ⟨_, (S_cons (S_if (Q_not (Q_val (T_callB c_isi T.isinstance (L_cons (T_var 0) (L_cons (T_ty T.str) L_nil))))) (S_one (S_ret T_bl)) S_nil) (S_one (S_ret (T_and (T_chain o_le o_le T_int (T_callB c_len T.len (L_cons (T_var 0) L_nil)) (T_glob T.MOST_LETTERS)) (T_one (T_callB (c_all rfl) T.all (L_cons (T_lc (N' := ["sign"]) (ix := [none]) (LcOk.of (N := ["thing"]) (sc := defScope sd_is_name) rfl rfl (by decide +kernel)) (I_seq (T_var 0)) ⟨fun s H ex => ⟨(G_name 0 (by show List.Nodup (["sign"] : List Str); decide +kernel)), F_nil, (T_def D.is_letter G_is_letter hr (L_cons (T_var 0) L_nil))⟩⟩ (tgOk_n 0)) L_nil))))))), ?_⟩
  exact fun ts t e => mir_ok (G := g_is_name) e
theorem ok_is_words (T : Gl0 K w mg) (D : Ds K mg fa ft) : FnOk P w K mg base CX0 1 (fa "is_words") (ft "is_words") ["thing"] (spT K m_is_words) := by
  have Fn := D.is_words.fn
  refine Fun.okQ Fn sc_is_words (fun ts t e => mir_len e) fun cdv A outer s H E hr =>
    ⟨_, (S_one (S_ret (T_and (T_callB c_isi T.isinstance (L_cons (T_var 0) (L_cons (T_ty T.str) L_nil))) (T_one (T_chain o_le o_le T_int (T_callB c_len T.len (L_cons (T_var 0) L_nil)) (T_glob T.MOST_SIGNS)))))), ?_⟩
  exact fun ts t e => mir_ok (G := g_is_words) e
theorem ok_is_whole (T : Gl0 K w mg) (D : Ds K mg fa ft) : FnOk P w K mg base CX0 1 (fa "is_whole") (ft "is_whole") ["thing"] (spT K m_is_whole) := by
  have Fn := D.is_whole.fn
  refine Fun.okQ Fn sc_is_whole (fun ts t e => mir_len e) fun cdv A outer s H E hr =>
    ⟨_, (S_one (S_ret (T_and (T_callB c_isi T.isinstance (L_cons (T_var 0) (L_cons (T_ty T.int) L_nil))) (T_one (T_not (T_callB c_isi T.isinstance (L_cons (T_var 0) (L_cons (T_ty T.bool) L_nil)))))))), ?_⟩
  exact fun ts t e => mir_ok (G := g_is_whole) e
theorem ok_is_number (T : Gl0 K w mg) (D : Ds K mg fa ft) : FnOk P w K mg base CX0 2 (fa "is_number") (ft "is_number") ["thing"] (spT K m_is_number) := by
  have G_is_whole : FnOk P w K mg base CX0 1 (fa "is_whole") (ft "is_whole") ["thing"] (spT K m_is_whole) := (ok_is_whole T D).mono (by decide)
  have Fn := D.is_number.fn
  refine Fun.okQ Fn sc_is_number (fun ts t e => mir_len e) fun cdv A outer s H E hr =>
    ⟨_, (S_one (S_ret (T_and (T_def D.is_whole G_is_whole hr (L_cons (T_var 0) L_nil)) (T_one (T_cmp o_ge (T_var 0) T_int))))), ?_⟩
  exact fun ts t e => mir_ok (G := g_is_number) e
theorem ok_is_answer (T : Gl0 K w mg) (D : Ds K mg fa ft) : FnOk P w K mg base CX0 3 (fa "is_answer") (ft "is_answer") ["thing"] (spT K m_is_answer) := by
  have G_is_number : FnOk P w K mg base CX0 2 (fa "is_number") (ft "is_number") ["thing"] (spT K m_is_number) := (ok_is_number T D).mono (by decide)
  have Fn := D.is_answer.fn
  refine Fun.okQ Fn sc_is_answer (fun ts t e => mir_len e) fun cdv A outer s H E hr =>
    ⟨_, (S_one (S_ret (T_or (T_cmp o_is (T_var 0) T_non) (T_one (T_def D.is_number G_is_number hr (L_cons (T_var 0) L_nil)))))), ?_⟩
  exact fun ts t e => mir_ok (G := g_is_answer) e
theorem ok_is_setting (T : Gl0 K w mg) (D : Ds K mg fa ft) : FnOk P w K mg base CX0 1 (fa "is_setting") (ft "is_setting") ["what", "value"] (spT K m_is_setting) := by
  have Fn := D.is_setting.fn
  refine Fun.okQ Fn sc_is_setting (fun ts t e => mir_len e) fun cdv A outer s H E hr =>
    ⟨_, (S_one (S_ret (T_and (T_callB c_isi T.isinstance (L_cons (T_var 0) (L_cons (T_ty T.str) L_nil))) (T_and (T_inG T.SETTINGS (T_var 0)) (T_one (T_cmp (o_in (hu_of hr)) (T_var 1) (T_ixG T.SETTINGS (T_var 0)))))))), ?_⟩
  exact fun ts t e => mir_ok (G := g_is_setting) e
theorem ok_are_two_parts (T : Gl0 K w mg) (D : Ds K mg fa ft) : FnOk P w K mg base CX0 4 (fa "are_two_parts") (ft "are_two_parts") ["word", "first", "second"] (spT K m_are_two_parts) := by
  have G_is_answer : FnOk P w K mg base CX0 3 (fa "is_answer") (ft "is_answer") ["thing"] (spT K m_is_answer) := (ok_is_answer T D).mono (by decide)
  have G_is_name : FnOk P w K mg base CX0 3 (fa "is_name") (ft "is_name") ["thing"] (spT K m_is_name) := (ok_is_name T D).mono (by decide)
  have G_is_number : FnOk P w K mg base CX0 3 (fa "is_number") (ft "is_number") ["thing"] (spT K m_is_number) := (ok_is_number T D).mono (by decide)
  have G_is_setting : FnOk P w K mg base CX0 3 (fa "is_setting") (ft "is_setting") ["what", "value"] (spT K m_is_setting) := (ok_is_setting T D).mono (by decide)
  have G_is_words : FnOk P w K mg base CX0 3 (fa "is_words") (ft "is_words") ["thing"] (spT K m_is_words) := (ok_is_words T D).mono (by decide)
  have Fn := D.are_two_parts.fn
  refine Fun.okQ Fn sc_are_two_parts (fun ts t e => mir_len e) fun cdv A outer s H E hr =>
    ⟨_, (S_cons (S_if (Q_cmp (o_eq (hu40 hr)) (T_var 0) T_str) (S_one (S_ret (T_def D.is_setting G_is_setting hr (L_cons (T_var 1) (L_cons (T_var 2) L_nil))))) S_nil) (S_cons (S_if (Q_cmp (o_eq (hu40 hr)) (T_var 0) T_str) (S_one (S_ret (T_and (T_def D.is_name G_is_name hr (L_cons (T_var 1) L_nil)) (T_one (T_cmp (o_in (hu_of hr)) (T_var 2) (T_glob T.ROLES)))))) S_nil) (S_cons (S_if (Q_cmp (o_eq (hu40 hr)) (T_var 0) T_str) (S_one (S_ret (T_and (T_def D.is_words G_is_words hr (L_cons (T_var 1) L_nil)) (T_one (T_def D.is_answer G_is_answer hr (L_cons (T_var 2) L_nil)))))) S_nil) (S_cons (S_if (Q_cmp (o_eq (hu40 hr)) (T_var 0) T_str) (S_one (S_ret (T_and (T_def D.is_number G_is_number hr (L_cons (T_var 1) L_nil)) (T_one (T_def D.is_words G_is_words hr (L_cons (T_var 2) L_nil)))))) S_nil) (S_one (S_ret T_bl)))))), ?_⟩
  exact fun ts t e => mir_ok (G := g_are_two_parts) e
theorem ok_are_parts (T : Gl0 K w mg) (D : Ds K mg fa ft) : FnOk P w K mg base CX0 5 (fa "are_parts") (ft "are_parts") ["word", "parts"] (spT K m_are_parts) := by
  have G_are_two_parts : FnOk P w K mg base CX0 4 (fa "are_two_parts") (ft "are_two_parts") ["word", "first", "second"] (spT K m_are_two_parts) := (ok_are_two_parts T D).mono (by decide)
  have G_is_name : FnOk P w K mg base CX0 4 (fa "is_name") (ft "is_name") ["thing"] (spT K m_is_name) := (ok_is_name T D).mono (by decide)
  have G_is_number : FnOk P w K mg base CX0 4 (fa "is_number") (ft "is_number") ["thing"] (spT K m_is_number) := (ok_is_number T D).mono (by decide)
  have Fn := D.are_parts.fn
  refine Fun.okQ Fn sc_are_parts (fun ts t e => mir_len e) fun cdv A outer s H E hr =>
    ⟨_, (S_cons (S_if (Q_cmp (o_in (hu_of hr)) (T_var 0) (T_glob T.BARE_WORDS)) (S_one (S_ret (T_cmp (o_eq (hu40 hr)) (T_callB c_len T.len (L_cons (T_var 1) L_nil)) T_int))) S_nil) (S_cons (S_if (Q_cmp (o_in (hu_of hr)) (T_var 0) (T_glob T.WHOM_WORDS)) (S_one (S_ret (T_and (T_cmp (o_eq (hu40 hr)) (T_callB c_len T.len (L_cons (T_var 1) L_nil)) T_int) (T_one (T_def D.is_name G_is_name hr (L_cons (T_ix (hu_of hr) (T_var 1) T_int) L_nil)))))) S_nil) (S_cons (S_if (Q_cmp (o_eq (hu40 hr)) (T_var 0) T_str) (S_one (S_ret (T_and (T_cmp (o_eq (hu40 hr)) (T_callB c_len T.len (L_cons (T_var 1) L_nil)) T_int) (T_one (T_def D.is_number G_is_number hr (L_cons (T_ix (hu_of hr) (T_var 1) T_int) L_nil)))))) S_nil) (S_one (S_ret (T_and (T_cmp (o_eq (hu40 hr)) (T_callB c_len T.len (L_cons (T_var 1) L_nil)) T_int) (T_one (T_def D.are_two_parts G_are_two_parts hr (L_cons (T_var 0) (L_cons (T_ix (hu_of hr) (T_var 1) T_int) (L_cons (T_ix (hu_of hr) (T_var 1) T_int) L_nil))))))))))), ?_⟩
  exact fun ts t e => mir_ok (G := g_are_parts) e
theorem ok_is_row (T : Gl0 K w mg) (D : Ds K mg fa ft) : FnOk P w K mg base CX0 6 (fa "is_row") (ft "is_row") ["thing"] (spT K m_is_row) := by
  have G_are_parts : FnOk P w K mg base CX0 5 (fa "are_parts") (ft "are_parts") ["word", "parts"] (spT K m_are_parts) := (ok_are_parts T D).mono (by decide)
  have G_is_name : FnOk P w K mg base CX0 5 (fa "is_name") (ft "is_name") ["thing"] (spT K m_is_name) := (ok_is_name T D).mono (by decide)
  have G_is_number : FnOk P w K mg base CX0 5 (fa "is_number") (ft "is_number") ["thing"] (spT K m_is_number) := (ok_is_number T D).mono (by decide)
  have Fn := D.is_row.fn
  refine Fun.okQ Fn sc_is_row (fun ts t e => mir_len e) fun cdv A outer s H E hr =>
    ⟨_, (S_cons (S_if (Q_bool (W_or (Q_not (Q_val (T_callB c_isi T.isinstance (L_cons (T_var 0) (L_cons (T_ty T.tuple) L_nil))))) (W_or1 (Q_cmp o_lt (T_callB c_len T.len (L_cons (T_var 0) L_nil)) T_int)))) (S_one (S_ret T_bl)) S_nil) (S_one (S_ret (T_and (T_def D.is_number G_is_number hr (L_cons (T_ix (hu_of hr) (T_var 0) T_int) L_nil)) (T_and (T_def D.is_name G_is_name hr (L_cons (T_ix (hu_of hr) (T_var 0) T_int) L_nil)) (T_one (T_def D.are_parts G_are_parts hr (L_cons (T_ix (hu_of hr) (T_var 0) T_int) (L_cons (T_sl (T_var 0) (P_some T_int) P_none) L_nil))))))))), ?_⟩
  exact fun ts t e => mir_ok (G := g_is_row) e
theorem ok_digits_of (T : Gl0 K w mg) (D : Ds K mg fa ft) : FnOk P w K mg base CX0 1 (fa "digits_of") (ft "digits_of") ["number"] (spT K m_digits_of) := by
  have Fn := D.digits_of.fn
  refine Fun.okZQ Fn sc_digits_of (fun ts t e => mirZ_len e) fun cdv A outer s H E hr =>
    ⟨_, (Z_cons (Z_set (i := 1) (E_new (N_lst L_nil)) sc_digits_of.nd) (Z_cons (Z_while 200 (Eq_pure (Q_cmp o_gt (T_var 0) T_int)) (Z_cons (Z_expr (E_mtL PySem.F.slot_list_append PySem.F.type_list_append mt_append wz_app (E_pure (T_var 1)) (Ea_cons (E_pure (T_callTy c_str T.str (L_cons (T_bin o_mod (T_var 0) T_int) L_nil))) Ea_nil))) (Z_one (Z_set (i := 0) (E_pure (T_bin o_fdiv (T_var 0) T_int)) sc_digits_of.nd)))) (Z_cons (Z_expr (E_mtL PySem.F.slot_list_append PySem.F.type_list_append mt_append wz_app (E_pure (T_var 1)) (Ea_cons (E_pure (T_callTy c_str T.str (L_cons (T_var 0) L_nil))) Ea_nil))) (Z_one (Z_ret (E_thaw (T_joinRev T.reversed T_str (T_var 1)))))))), ?_⟩
  exact fun ts t e => mirZ_ok (G := g_digits_of) e
theorem ok_number_in (T : Gl0 K w mg) (D : Ds K mg fa ft) : FnOk P w K mg base CX0 1 (fa "number_in") (ft "number_in") ["digits"] (spT K m_number_in) := by
  have Fn := D.number_in.fn
  refine Fun.okQ Fn sc_number_in (fun ts t e => mir_len e) fun cdv A outer s H E hr =>
    ⟨_, (S_cons (S_set (i := 1) T_int sc_number_in.nd) (S_cons (S_for (I_seq (T_var 0)) (G_name 2 sc_number_in.nd) (S_one (S_set (i := 1) (T_bin o_add (T_bin o_mul (T_var 1) T_int) (T_callTy c_intS T.int (L_cons (T_var 2) L_nil))) sc_number_in.nd))) (S_one (S_ret (T_var 1))))), ?_⟩
  exact fun ts t e => mir_ok (G := g_number_in) e
theorem ok_are_digits (T : Gl0 K w mg) (D : Ds K mg fa ft) : FnOk P w K mg base CX0 1 (fa "are_digits") (ft "are_digits") ["text"] (spT K m_are_digits) := by
  have Fn := D.are_digits.fn
  refine Fun.okQ Fn sc_are_digits (fun ts t e => mir_len e) fun cdv A outer s H E hr =>
    ⟨_, (S_one (S_ret (T_and (T_cmp (o_ne (hu40 hr)) (T_var 0) T_str) (T_one (T_callB (c_all rfl) T.all (L_cons (T_lc (N' := ["sign"]) (ix := [none]) (LcOk.of (N := ["text"]) (sc := defScope sd_are_digits) rfl rfl (by decide +kernel)) (I_seq (T_var 0)) ⟨fun s H ex => ⟨(G_name 0 (by show List.Nodup (["sign"] : List Str); decide +kernel)), F_nil, (T_chain o_le o_le T_str (T_var 0) T_str)⟩⟩ (tgOk_n 0)) L_nil)))))), ?_⟩
  exact fun ts t e => mir_ok (G := g_are_digits) e
theorem ok_quoted (T : Gl0 K w mg) (D : Ds K mg fa ft) : FnOk P w K mg base CX0 1 (fa "quoted") (ft "quoted") ["words"] (spT K m_quoted) := by
  have Fn := D.quoted.fn
  refine Fun.okQ Fn sc_quoted (fun ts t e => mir_len e) fun cdv A outer s H E hr =>
    ⟨_, (S_one (S_ret (T_bin o_add (T_binLit o_add (T_repl1 (T_repl1 (T_one1 (T_var 0))))) T_str))), ?_⟩
  exact fun ts t e => mir_ok (G := g_quoted) e
theorem ok_unquoted (T : Gl0 K w mg) (D : Ds K mg fa ft) : FnOk P w K mg base CX0 1 (fa "unquoted") (ft "unquoted") ["text"] (spT K m_unquoted) := by
  have Fn := D.unquoted.fn
  refine Fun.okQ Fn sc_unquoted (fun ts t e => mir_len e) fun cdv A outer s H E hr =>
    ⟨_, (S_one (S_ret (T_unB (T_replB (T_replB (T_slB (T_var 0) (P_some (T_neg T_int)))))))), ?_⟩
  exact fun ts t e => mir_ok (G := g_unquoted) e
theorem ok_text_of (T : Gl0 K w mg) (D : Ds K mg fa ft) : FnOk P w K mg base CX0 2 (fa "text_of") (ft "text_of") ["part"] (spT K m_text_of) := by
  have G_digits_of : FnOk P w K mg base CX0 1 (fa "digits_of") (ft "digits_of") ["number"] (spT K m_digits_of) := (ok_digits_of T D).mono (by decide)
  have Fn := D.text_of.fn
  refine Fun.okQ Fn sc_text_of (fun ts t e => mir_len e) fun cdv A outer s H E hr =>
    ⟨_, (S_cons (S_if (Q_cmp o_is (T_var 0) T_non) (S_one (S_ret T_str)) S_nil) (S_one (S_ret (T_if (Q_val (T_callB c_isi T.isinstance (L_cons (T_var 0) (L_cons (T_ty T.str) L_nil)))) (T_var 0) (T_def D.digits_of G_digits_of hr (L_cons (T_var 0) L_nil)))))), ?_⟩
  exact fun ts t e => mir_ok (G := g_text_of) e
theorem ok_part_in (T : Gl0 K w mg) (D : Ds K mg fa ft) : FnOk P w K mg base CX0 2 (fa "part_in") (ft "part_in") ["text"] (spT K m_part_in) := by
  have G_are_digits : FnOk P w K mg base CX0 1 (fa "are_digits") (ft "are_digits") ["text"] (spT K m_are_digits) := (ok_are_digits T D).mono (by decide)
  have G_number_in : FnOk P w K mg base CX0 1 (fa "number_in") (ft "number_in") ["digits"] (spT K m_number_in) := (ok_number_in T D).mono (by decide)
  have Fn := D.part_in.fn
  refine Fun.okQ Fn sc_part_in (fun ts t e => mir_len e) fun cdv A outer s H E hr =>
    ⟨_, (S_cons (S_if (Q_cmp (o_eq (hu40 hr)) (T_var 0) T_str) (S_one (S_ret T_non)) S_nil) (S_one (S_ret (T_if (Q_val (T_def D.are_digits G_are_digits hr (L_cons (T_var 0) L_nil))) (T_def D.number_in G_number_in hr (L_cons (T_var 0) L_nil)) (T_var 0))))), ?_⟩
  exact fun ts t e => mir_ok (G := g_part_in) e
theorem ok_texts_of (T : Gl0 K w mg) (D : Ds K mg fa ft) : FnOk P w K mg base CX0 3 (fa "texts_of") (ft "texts_of") ["word", "parts"] (spT K m_texts_of) := by
  have G_quoted : FnOk P w K mg base CX0 2 (fa "quoted") (ft "quoted") ["words"] (spT K m_quoted) := (ok_quoted T D).mono (by decide)
  have G_text_of : FnOk P w K mg base CX0 2 (fa "text_of") (ft "text_of") ["part"] (spT K m_text_of) := (ok_text_of T D).mono (by decide)
  have Fn := D.texts_of.fn
  refine Fun.okQ Fn sc_texts_of (fun ts t e => mir_len e) fun cdv A outer s H E hr =>
    ⟨_, (S_cons (S_if (Q_cmp (o_eq (hu40 hr)) (T_var 0) T_str) (S_one (S_ret (T_lst (L_cons (T_def D.quoted G_quoted hr (L_cons (T_ix (hu_of hr) (T_var 1) T_int) L_nil)) (L_cons (T_def D.text_of G_text_of hr (L_cons (T_ix (hu_of hr) (T_var 1) T_int) L_nil)) L_nil))))) S_nil) (S_cons (S_if (Q_cmp (o_eq (hu40 hr)) (T_var 0) T_str) (S_one (S_ret (T_lst (L_cons (T_def D.text_of G_text_of hr (L_cons (T_ix (hu_of hr) (T_var 1) T_int) L_nil)) (L_cons (T_def D.quoted G_quoted hr (L_cons (T_ix (hu_of hr) (T_var 1) T_int) L_nil)) L_nil))))) S_nil) (S_one (S_ret (T_lc (N' := ["part"]) (ix := [none]) (LcOk.of (N := ["word", "parts"]) (sc := defScope sd_texts_of) rfl rfl (by decide +kernel)) (I_seq (T_var 1)) ⟨fun s H ex => ⟨(G_name 0 (by show List.Nodup (["part"] : List Str); decide +kernel)), F_nil, (T_def D.text_of G_text_of hr (L_cons (T_var 0) L_nil))⟩⟩ (tgOk_n 0)))))), ?_⟩
  exact fun ts t e => mir_ok (G := g_texts_of) e
theorem ok_parts_in (T : Gl0 K w mg) (D : Ds K mg fa ft) : FnOk P w K mg base CX0 3 (fa "parts_in") (ft "parts_in") ["word", "text"] (spT K m_parts_in) := by
  have G_part_in : FnOk P w K mg base CX0 2 (fa "part_in") (ft "part_in") ["text"] (spT K m_part_in) := (ok_part_in T D).mono (by decide)
  have G_unquoted : FnOk P w K mg base CX0 2 (fa "unquoted") (ft "unquoted") ["text"] (spT K m_unquoted) := (ok_unquoted T D).mono (by decide)
  have Fn := D.parts_in.fn
  refine Fun.okQ Fn sc_parts_in (fun ts t e => mir_len e) fun cdv A outer s H E hr =>
    ⟨_, (S_cons (S_if (Q_cmp (o_eq (hu40 hr)) (T_var 0) T_str) (S_cons (S_set (i := 2) (T_ms PySem.F.slot_str_rpartition PySem.F.type_str_rpartition m_rpart (T_var 1) (L_cons T_str L_nil)) sc_parts_in.nd) (S_one (S_ret (T_tup (L_cons (T_def D.unquoted G_unquoted hr (L_cons (T_ix (hu_of hr) (T_var 2) T_int) L_nil)) (L_cons (T_def D.part_in G_part_in hr (L_cons (T_ix (hu_of hr) (T_var 2) T_int) L_nil)) L_nil)))))) S_nil) (S_cons (S_if (Q_cmp (o_eq (hu40 hr)) (T_var 0) T_str) (S_cons (S_set (i := 2) (T_ms PySem.F.slot_str_partition PySem.F.type_str_partition m_part (T_var 1) (L_cons T_str L_nil)) sc_parts_in.nd) (S_one (S_ret (T_tup (L_cons (T_def D.part_in G_part_in hr (L_cons (T_ix (hu_of hr) (T_var 2) T_int) L_nil)) (L_cons (T_def D.unquoted G_unquoted hr (L_cons (T_ix (hu_of hr) (T_var 2) T_int) L_nil)) L_nil)))))) S_nil) (S_one (S_ret (T_callTy c_tuple T.tuple (L_cons (T_lc (N' := ["part"]) (ix := [none]) (LcOk.of (N := ["word", "text", "cut"]) (sc := defScope sd_parts_in) rfl rfl (by decide +kernel)) (I_seq (T_ms PySem.F.slot_str_split PySem.F.type_str_split m_splitS (T_var 1) (L_cons T_str L_nil))) ⟨fun s H ex => ⟨(G_name 0 (by show List.Nodup (["part"] : List Str); decide +kernel)), F_nil, (T_def D.part_in G_part_in hr (L_cons (T_var 0) L_nil))⟩⟩ (tgOk_n 0)) L_nil)))))), ?_⟩
  exact fun ts t e => mir_ok (G := g_parts_in) e
theorem ok_line_of (T : Gl0 K w mg) (D : Ds K mg fa ft) : FnOk P w K mg base CX0 4 (fa "line_of") (ft "line_of") ["row"] (spT K m_line_of) := by
  have G_text_of : FnOk P w K mg base CX0 3 (fa "text_of") (ft "text_of") ["part"] (spT K m_text_of) := (ok_text_of T D).mono (by decide)
  have G_texts_of : FnOk P w K mg base CX0 3 (fa "texts_of") (ft "texts_of") ["word", "parts"] (spT K m_texts_of) := (ok_texts_of T D).mono (by decide)
  have Fn := D.line_of.fn
  refine Fun.okQ Fn sc_line_of (fun ts t e => mir_len e) fun cdv A outer s H E hr =>
    ⟨_, (S_one (S_ret (T_ms PySem.F.slot_str_join PySem.F.type_str_join m_join T_str (L_cons (T_bin o_add (T_lst (L_cons (T_def D.text_of G_text_of hr (L_cons (T_ix (hu_of hr) (T_var 0) T_int) L_nil)) (L_cons (T_ix (hu_of hr) (T_var 0) T_int) (L_cons (T_ix (hu_of hr) (T_var 0) T_int) L_nil)))) (T_def D.texts_of G_texts_of hr (L_cons (T_ix (hu_of hr) (T_var 0) T_int) (L_cons (T_sl (T_var 0) (P_some T_int) P_none) L_nil)))) L_nil)))), ?_⟩
  exact fun ts t e => mir_ok (G := g_line_of) e
theorem ok_row_in (T : Gl0 K w mg) (D : Ds K mg fa ft) : FnOk P w K mg base (CXe P w) 4 (fa "row_in") (ft "row_in") ["text"] (spZ K m_row_in) := by
  have G_part_in : FnOk P w K mg base CX0 3 (fa "part_in") (ft "part_in") ["text"] (spT K m_part_in) := (ok_part_in T D).mono (by decide)
  have G_parts_in : FnOk P w K mg base CX0 3 (fa "parts_in") (ft "parts_in") ["word", "text"] (spT K m_parts_in) := (ok_parts_in T D).mono (by decide)
  have Fn := D.row_in.fn
  refine Fun.okSQ Fn sc_row_in (fun ts A e => mirS_len e) fun cdv A outer s H E hr =>
    ⟨_, (Z_cons (Z_set (i := 1) (E_pure (T_ms PySem.F.slot_str_split PySem.F.type_str_split m_splitS (T_var 0) (L_cons T_str (L_cons T_int L_nil)))) sc_row_in.nd) (Z_cons (Z_if (Eq_pure (Q_cmp o_lt (T_callB c_len T.len (L_cons (T_var 1) L_nil)) T_int)) (Z_one (Z_raise T.r_NoLine (Ea_cons (E_pure (T_fstr (J_cons T_str (J_cons (T_fvalR (T_var 0)) J_nil)))) Ea_nil))) Z_nil) (Z_cons (Z_set (i := 2) (E_pure (T_tup (L_cons (T_def D.part_in G_part_in hr (L_cons (T_ix (hu_of hr) (T_var 1) T_int) L_nil)) (L_cons (T_ix (hu_of hr) (T_var 1) T_int) (L_cons (T_ix (hu_of hr) (T_var 1) T_int) L_nil))))) sc_row_in.nd) (Z_one (Z_ret (E_pure (T_if (Q_cmp (o_eq (hu40 hr)) (T_callB c_len T.len (L_cons (T_var 1) L_nil)) T_int) (T_var 2) (T_bin o_add (T_var 2) (T_def D.parts_in G_parts_in hr (L_cons (T_ix (hu_of hr) (T_var 1) T_int) (L_cons (T_ix (hu_of hr) (T_var 1) T_int) L_nil))))))))))), ?_⟩
  exact fun ts A e => mirS_ok (G := g_row_in) e
theorem ok_read_line (T : Gl0 K w mg) (D : Ds K mg fa ft) : FnOk P w K mg base (CXe P w) 7 (fa "read_line") (ft "read_line") ["text"] (spZ K m_read_line) := by
  have G_is_row : FnOk P w K mg base CX0 6 (fa "is_row") (ft "is_row") ["thing"] (spT K m_is_row) := (ok_is_row T D).mono (by decide)
  have G_line_of : FnOk P w K mg base CX0 6 (fa "line_of") (ft "line_of") ["row"] (spT K m_line_of) := (ok_line_of T D).mono (by decide)
  have G_row_in : FnOk P w K mg base (CXe P w) 6 (fa "row_in") (ft "row_in") ["text"] (spZ K m_row_in) := (ok_row_in T D).mono (by decide)
  have Fn := D.read_line.fn
  refine Fun.okSQ Fn sc_read_line (fun ts A e => mirS_len e) fun cdv A outer s H E hr =>
    ⟨_, (Z_cons (Z_set (i := 1) (E_def D.row_in G_row_in hr (Ea_cons (E_pure (T_var 0)) Ea_nil)) sc_read_line.nd) (Z_cons (Z_if (Eq_pure (Q_bool (W_or (Q_not (Q_val (T_def D.is_row G_is_row hr (L_cons (T_var 1) L_nil)))) (W_or1 (Q_cmp (o_ne (hu40 hr)) (T_def D.line_of G_line_of hr (L_cons (T_var 1) L_nil)) (T_var 0)))))) (Z_one (Z_raise T.r_NoLine (Ea_cons (E_pure (T_fstr (J_cons T_str (J_cons (T_fvalR (T_var 0)) J_nil)))) Ea_nil))) Z_nil) (Z_one (Z_ret (E_pure (T_var 1)))))), ?_⟩
  exact fun ts A e => mirS_ok (G := g_read_line) e
theorem ok_w_cell (T : Gl0 K w mg) (D : Ds K mg fa ft) : FnOk P w K mg base CX0 1 (fa "w_cell") (ft "w_cell") ["_law_script", "_law_k"] (spT K m_w_cell) := by
  have Fn := D.w_cell.fn
  refine Fun.okQ Fn sc_w_cell (fun ts t e => mir_len e) fun cdv A outer s H E hr =>
    ⟨_, (S_cons (S_if (Q_cmp o_lt (T_var 1) (T_callB c_len T.len (L_cons (T_var 0) L_nil))) (S_one (S_ret (T_ix (hu_of hr) (T_var 0) (T_var 1)))) S_nil) (S_one (S_ret T_int))), ?_⟩
  exact fun ts t e => mir_ok (G := g_w_cell) e
theorem ok_w_mix (T : Gl0 K w mg) (D : Ds K mg fa ft) : FnOk P w K mg base CX0 1 (fa "w_mix") (ft "w_mix") ["_law_cell_here", "_law_prime", "_law_many"] (spT K m_w_mix) := by
  have Fn := D.w_mix.fn
  refine Fun.okQ Fn sc_w_mix (fun ts t e => mir_len e) fun cdv A outer s H E hr =>
    ⟨_, (S_cons (S_set (i := 3) (T_bin o_mod (T_bin o_mul (T_var 0) T_int) (T_var 1)) sc_w_mix.nd) (S_one (S_ret (T_bin o_mod (T_bin o_mod (T_bin o_mul (T_var 3) (T_bin o_add (T_var 3) T_int)) (T_var 1)) (T_var 2))))), ?_⟩
  exact fun ts t e => mir_ok (G := g_w_mix) e
theorem ok_w_words (T : Gl0 K w mg) (D : Ds K mg fa ft) : FnOk P w K mg base CX0 2 (fa "w_words") (ft "w_words") ["_law_cell_here"] (spT K m_w_words) := by
  have G_w_mix : FnOk P w K mg base CX0 1 (fa "w_mix") (ft "w_mix") ["_law_cell_here", "_law_prime", "_law_many"] (spT K m_w_mix) := (ok_w_mix T D).mono (by decide)
  have Fn := D.w_words.fn
  refine Fun.okQ Fn sc_w_words (fun ts t e => mir_len e) fun cdv A outer s H E hr =>
    ⟨_, (S_cons (S_set (i := 1) T_str sc_w_words.nd) (S_cons (S_if (Q_cmp (o_eq (hu40 hr)) (T_bin o_mod (T_var 0) T_int) T_int) (S_cons (S_set (i := 2) (T_tup (L_cons T_str (L_cons T_str (L_cons T_str (L_cons T_str (L_cons T_str (L_cons T_str (L_cons T_str (L_cons T_str L_nil))))))))) sc_w_words.nd) (S_cons (S_set (i := 2) (T_bin o_add (T_var 2) (T_tup (L_cons T_str (L_cons T_str (L_cons T_str (L_cons T_str L_nil)))))) sc_w_words.nd) (S_one (S_ret (T_ix (hu_of hr) (T_var 2) (T_def D.w_mix G_w_mix hr (L_cons (T_var 0) (L_cons T_int (L_cons T_int L_nil))))))))) S_nil) (S_cons (S_set (i := 3) (T_bin o_add T_int (T_def D.w_mix G_w_mix hr (L_cons (T_var 0) (L_cons T_int (L_cons T_int L_nil))))) sc_w_words.nd) (S_cons (S_if (Q_cmp (o_eq (hu40 hr)) (T_def D.w_mix G_w_mix hr (L_cons (T_var 0) (L_cons T_int (L_cons T_int L_nil)))) T_int) (S_one (S_set (i := 3) T_int sc_w_words.nd)) S_nil) (S_one (S_ret (T_ms PySem.F.slot_str_join PySem.F.type_str_join m_join T_str (L_cons (T_lc (N' := ["_law_k", "_law_signs", "_law_cell_here"]) (ix := [none, some 1, some 0]) (LcOk.of (N := ["_law_cell_here", "_law_signs", "_law_some", "_law_many"]) (sc := defScope sd_w_words) rfl rfl (by decide +kernel)) (I_range1 T.range (L_cons (T_var 3) L_nil)) ⟨fun s H ex => ⟨(G_name 0 (by show List.Nodup (["_law_k", "_law_signs", "_law_cell_here"] : List Str); decide +kernel)), F_nil, (T_ix (hu_of hr) (T_var 1) (T_def D.w_mix G_w_mix hr (L_cons (T_bin o_add (T_var 2) (T_bin o_mul T_int (T_var 0))) (L_cons T_int (L_cons (T_callB c_len T.len (L_cons (T_var 1) L_nil)) L_nil)))))⟩⟩ (tgOk_n 0)) L_nil)))))))), ?_⟩
  exact fun ts t e => mir_ok (G := g_w_words) e
theorem ok_w_any_row (T : Gl0 K w mg) (D : Ds K mg fa ft) : FnOk P w K mg base CX0 3 (fa "w_any_row") (ft "w_any_row") ["_law_cell_here"] (spT K m_w_any_row) := by
  have G_w_mix : FnOk P w K mg base CX0 2 (fa "w_mix") (ft "w_mix") ["_law_cell_here", "_law_prime", "_law_many"] (spT K m_w_mix) := (ok_w_mix T D).mono (by decide)
  have G_w_words : FnOk P w K mg base CX0 2 (fa "w_words") (ft "w_words") ["_law_cell_here"] (spT K m_w_words) := (ok_w_words T D).mono (by decide)
  have Fn := D.w_any_row.fn
  refine Fun.okQ Fn sc_w_any_row (fun ts t e => mir_len e) fun cdv A outer s H E hr =>
    ⟨_, (S_cons (S_set (i := 1) (T_tup (L_cons T_str (L_cons T_str (L_cons T_str L_nil)))) sc_w_any_row.nd) (S_cons (S_set (i := 2) (T_ix (hu_of hr) (T_var 1) (T_def D.w_mix G_w_mix hr (L_cons (T_var 0) (L_cons T_int (L_cons T_int L_nil))))) sc_w_any_row.nd) (S_cons (S_set (i := 3) (T_bin o_add T_int (T_def D.w_mix G_w_mix hr (L_cons (T_var 0) (L_cons T_int (L_cons T_int L_nil))))) sc_w_any_row.nd) (S_cons (S_set (i := 4) (T_def D.w_mix G_w_mix hr (L_cons (T_var 0) (L_cons T_int (L_cons T_int L_nil)))) sc_w_any_row.nd) (S_cons (S_set (i := 5) (T_tup (L_cons (T_bin o_add T_int (T_def D.w_mix G_w_mix hr (L_cons (T_var 0) (L_cons T_int (L_cons T_int L_nil))))) (L_cons (T_ix (hu_of hr) (T_var 1) (T_def D.w_mix G_w_mix hr (L_cons (T_var 0) (L_cons T_int (L_cons T_int L_nil))))) L_nil))) sc_w_any_row.nd) (S_cons (S_if (Q_cmp o_lt (T_var 4) T_int) (S_one (S_ret (T_bin o_add (T_var 5) (T_tup (L_cons (T_ix (hu_of hr) (T_tup (L_cons T_str (L_cons T_str (L_cons T_str L_nil)))) (T_var 4)) L_nil))))) S_nil) (S_cons (S_if (Q_cmp (o_eq (hu40 hr)) (T_var 4) T_int) (S_cons (S_set (i := 6) (T_lst (L_cons (T_tup (L_cons T_str (L_cons T_str L_nil))) (L_cons (T_tup (L_cons T_str (L_cons T_str L_nil))) (L_cons (T_tup (L_cons T_str (L_cons T_str L_nil))) L_nil)))) sc_w_any_row.nd) (S_cons (S_set (i := 6) (T_bin o_add (T_var 6) (T_lst (L_cons (T_tup (L_cons T_str (L_cons T_str L_nil))) (L_cons (T_tup (L_cons T_str (L_cons T_str L_nil))) (L_cons (T_tup (L_cons T_str (L_cons T_str L_nil))) L_nil))))) sc_w_any_row.nd) (S_one (S_ret (T_bin o_add (T_bin o_add (T_var 5) (T_tup (L_cons T_str L_nil))) (T_ix (hu_of hr) (T_var 6) (T_def D.w_mix G_w_mix hr (L_cons (T_var 0) (L_cons T_int (L_cons T_int L_nil)))))))))) S_nil) (S_cons (S_if (Q_cmp o_lt (T_var 4) T_int) (S_one (S_ret (T_bin o_add (T_var 5) (T_tup (L_cons (T_ix (hu_of hr) (T_tup (L_cons T_str (L_cons T_str (L_cons T_str (L_cons T_str L_nil))))) (T_bin o_sub (T_var 4) T_int)) (L_cons (T_var 2) L_nil)))))) S_nil) (S_cons (S_if (Q_cmp (o_eq (hu40 hr)) (T_var 4) T_int) (S_one (S_ret (T_bin o_add (T_var 5) (T_tup (L_cons T_str (L_cons (T_var 2) (L_cons (T_ix (hu_of hr) (T_tup (L_cons T_str (L_cons T_str (L_cons T_str (L_cons T_str L_nil))))) (T_def D.w_mix G_w_mix hr (L_cons (T_var 0) (L_cons T_int (L_cons T_int L_nil))))) L_nil))))))) S_nil) (S_cons (S_if (Q_cmp (o_eq (hu40 hr)) (T_var 4) T_int) (S_one (S_ret (T_bin o_add (T_var 5) (T_tup (L_cons T_str (L_cons (T_def D.w_words G_w_words hr (L_cons (T_bin o_add (T_var 0) T_int) L_nil)) (L_cons (T_ix (hu_of hr) (T_tup (L_cons T_non (L_cons (T_var 3) L_nil))) (T_bin o_mod (T_var 0) T_int)) L_nil))))))) S_nil) (S_cons (S_if (Q_cmp (o_eq (hu40 hr)) (T_var 4) T_int) (S_one (S_ret (T_bin o_add (T_var 5) (T_tup (L_cons T_str (L_cons (T_var 3) (L_cons (T_def D.w_words G_w_words hr (L_cons (T_bin o_add (T_var 0) T_int) L_nil)) L_nil))))))) S_nil) (S_one (S_ret (T_bin o_add (T_var 5) (T_tup (L_cons T_str (L_cons (T_var 3) L_nil))))))))))))))))), ?_⟩
  exact fun ts t e => mir_ok (G := g_w_any_row) e
theorem ok_w_line (T : Gl0 K w mg) (D : Ds K mg fa ft) : FnOk P w K mg base CX0 1 (fa "w_line") (ft "w_line") ["_law_row"] (spT K m_w_line) := by
  have Fn := D.w_line.fn
  refine Fun.okQ Fn sc_w_line (fun ts t e => mir_len e) fun cdv A outer s H E hr =>
    ⟨_, (S_cons (S_set (i := 1) (T_bin o_add (T_bin o_add (T_bin o_add (T_bin o_add (T_callTy c_str T.str (L_cons (T_ix (hu_of hr) (T_var 0) T_int) L_nil)) T_str) (T_ix (hu_of hr) (T_var 0) T_int)) T_str) (T_ix (hu_of hr) (T_var 0) T_int)) sc_w_line.nd) (S_cons (S_for (I_enum T.enumerate (L_cons (T_sl (T_var 0) (P_some T_int) P_none) L_nil)) (G_tup (is := [2, 3]) (G_cons (i := 2) (G_cons (i := 3) G_nil sc_w_line.nd) sc_w_line.nd)) (S_one (S_if (Q_cmp o_is (T_var 3) T_non) (S_one (S_set (i := 1) (T_bin o_add (T_var 1) T_str) sc_w_line.nd)) (S_one (S_if (Q_bool (W_or (Q_bool (W_and (Q_cmp (o_eq (hu40 hr)) (T_ix (hu_of hr) (T_var 0) T_int) T_str) (W_and1 (Q_cmp (o_eq (hu40 hr)) (T_var 2) T_int)))) (W_or1 (Q_bool (W_and (Q_cmp (o_eq (hu40 hr)) (T_ix (hu_of hr) (T_var 0) T_int) T_str) (W_and1 (Q_cmp (o_eq (hu40 hr)) (T_var 2) T_int))))))) (S_cons (S_set (i := 1) (T_bin o_add (T_var 1) T_str) sc_w_line.nd) (S_cons (S_for (I_seq (T_var 3)) (G_name 4 sc_w_line.nd) (S_cons (S_if (Q_cmp (o_in (hu_of hr)) (T_var 4) T_str) (S_one (S_set (i := 1) (T_bin o_add (T_var 1) T_str) sc_w_line.nd)) S_nil) (S_one (S_set (i := 1) (T_bin o_add (T_var 1) (T_var 4)) sc_w_line.nd)))) (S_one (S_set (i := 1) (T_bin o_add (T_var 1) T_str) sc_w_line.nd)))) (S_one (S_set (i := 1) (T_bin o_add (T_bin o_add (T_var 1) T_str) (T_callTy c_str T.str (L_cons (T_var 3) L_nil))) sc_w_line.nd))))))) (S_one (S_ret (T_var 1))))), ?_⟩
  exact fun ts t e => mir_ok (G := g_w_line) e
theorem ok_w_word (T : Gl0 K w mg) (D : Ds K mg fa ft) : FnOk P w K mg base CX0 1 (fa "w_word") (ft "w_word") ["_law_kept"] (spT K m_w_word) := by
  have Fn := D.w_word.fn
  refine Fun.okQ Fn sc_w_word (fun ts t e => mir_len e) fun cdv A outer s H E hr =>
    ⟨_, (S_cons (S_set (i := 1) (T_lst (L_cons (T_isxG T.x_Known T.xm_Known T.isinstance (T_var 0)) (L_cons (T_isxG T.x_NoPerson T.xm_NoPerson T.isinstance (T_var 0)) L_nil))) sc_w_word.nd) (S_cons (S_set (i := 1) (T_bin o_add (T_var 1) (T_lst (L_cons (T_isxG T.x_NoRoom T.xm_NoRoom T.isinstance (T_var 0)) (L_cons (T_isxG T.x_NotIn T.xm_NotIn T.isinstance (T_var 0)) L_nil)))) sc_w_word.nd) (S_cons (S_set (i := 1) (T_bin o_add (T_var 1) (T_lst (L_cons (T_isxG T.x_NotAsked T.xm_NotAsked T.isinstance (T_var 0)) (L_cons (T_isxG T.x_Barred T.xm_Barred T.isinstance (T_var 0)) L_nil)))) sc_w_word.nd) (S_cons (S_set (i := 1) (T_bin o_add (T_var 1) (T_lst (L_cons (T_isxG T.x_NoRight T.xm_NoRight T.isinstance (T_var 0)) L_nil))) sc_w_word.nd) (S_cons (S_set (i := 1) (T_bin o_add (T_var 1) (T_lst (L_cons (T_isxG T.x_NoRow T.xm_NoRow T.isinstance (T_var 0)) (L_cons (T_isxG T.x_NoHand T.xm_NoHand T.isinstance (T_var 0)) (L_cons (T_isxG T.x_NoLine T.xm_NoLine T.isinstance (T_var 0)) L_nil))))) sc_w_word.nd) (S_cons (S_set (i := 2) (T_tup (L_cons T_str (L_cons T_str (L_cons T_str (L_cons T_str (L_cons T_str (L_cons T_str L_nil))))))) sc_w_word.nd) (S_cons (S_set (i := 2) (T_bin o_add (T_var 2) (T_tup (L_cons T_str (L_cons T_str (L_cons T_str (L_cons T_str L_nil)))))) sc_w_word.nd) (S_cons (S_if (Q_bool (W_or (Q_cmp (o_ne (hu40 hr)) (T_lm PySem.F.slot_list_count PySem.F.type_list_count (m_lcnt (hu_of hr)) (T_var 1) T_bl) T_int) (W_or1 (Q_not (Q_val (T_isxB T.x_ValueError T.ValueError T.isinstance (T_var 0))))))) (S_one (S_ret T_str)) S_nil) (S_one (S_ret (T_ix (hu_of hr) (T_var 2) (T_lm PySem.F.slot_list_index PySem.F.type_list_index (m_lidx (hu_of hr)) (T_var 1) T_bl)))))))))))), ?_⟩
  exact fun ts t e => mir_ok (G := g_w_word) e
theorem ok_w_read (T : Gl0 K w mg) (D : Ds K mg fa ft) : FnOk P w K mg base CX0 8 (fa "w_read") (ft "w_read") ["_law_text"] (spT K m_w_read) := by
  have G_w_word : FnOk P w K mg base CX0 7 (fa "w_word") (ft "w_word") ["_law_kept"] (spT K m_w_word) := (ok_w_word T D).mono (by decide)
  have G_read_line : FnOk P w K mg base (CXe P w) 7 (fa "read_line") (ft "read_line") ["text"] (spZ K m_read_line) := (ok_read_line T D).mono (by decide)
  have Fn := D.w_read.fn
  refine Fun.okZQ Fn sc_w_read (fun ts t e => mirZ_len e) fun cdv A outer s H E hr =>
    ⟨_, (Z_cons (Z_set (i := 1) (E_thaw T_non) sc_w_read.nd) (Z_cons (Z_set (i := 2) (E_thaw T_non) sc_w_read.nd) (Z_cons (Z_tryAs (i := 3) T.c_TalkError (fun pn E' => (Z_one (Z_set (i := 2) (E_def D.read_line G_read_line hr (Ea_cons (E_pure (T_var 0)) Ea_nil)) sc_w_read.nd))) (fun pn e => (Z_one (Z_set (i := 1) (E_pure (T_var 3)) sc_w_read.nd))) sc_w_read.nd) (Z_one (Z_ret (E_thaw (T_if (Q_cmp o_is (T_var 1) T_non) (T_var 2) (T_def D.w_word G_w_word hr (L_cons (T_var 1) L_nil))))))))), ?_⟩
  exact fun ts t e => mirZ_ok (G := g_w_read) e
theorem ok_w_is_right (T : Gl0 K w mg) (D : Ds K mg fa ft) : FnOk P w K mg base CX0 9 (fa "w_is_right") (ft "w_is_right") ["_law_text"] (spT K m_w_is_right) := by
  have G_w_line : FnOk P w K mg base CX0 8 (fa "w_line") (ft "w_line") ["_law_row"] (spT K m_w_line) := (ok_w_line T D).mono (by decide)
  have G_w_read : FnOk P w K mg base CX0 8 (fa "w_read") (ft "w_read") ["_law_text"] (spT K m_w_read) := (ok_w_read T D).mono (by decide)
  have G_is_row : FnOk P w K mg base CX0 8 (fa "is_row") (ft "is_row") ["thing"] (spT K m_is_row) := (ok_is_row T D).mono (by decide)
  have Fn := D.w_is_right.fn
  refine Fun.okQ Fn sc_w_is_right (fun ts t e => mir_len e) fun cdv A outer s H E hr =>
    ⟨_, (S_cons (S_set (i := 1) (T_def D.w_read G_w_read hr (L_cons (T_var 0) L_nil)) sc_w_is_right.nd) (S_cons (S_if (Q_val (T_callB c_isi T.isinstance (L_cons (T_var 1) (L_cons (T_ty T.str) L_nil)))) (S_one (S_ret (T_cmp (o_eq (hu40 hr)) (T_var 1) T_str))) S_nil) (S_one (S_ret (T_and (T_cmp o_is (T_def D.is_row G_is_row hr (L_cons (T_var 1) L_nil)) T_bl) (T_one (T_cmp (o_eq (hu40 hr)) (T_def D.w_line G_w_line hr (L_cons (T_var 1) L_nil)) (T_var 0)))))))), ?_⟩
  exact fun ts t e => mir_ok (G := g_w_is_right) e
theorem ok_w_lines (T : Gl0 K w mg) (D : Ds K mg fa ft) : FnOk P w K mg base CX0 1 (fa "w_lines") (ft "w_lines") [] (spT K m_w_lines) := by
  have Fn := D.w_lines.fn
  refine Fun.okQ Fn sc_w_lines (fun ts t e => mir_len e) fun cdv A outer s H E hr =>
    ⟨_, (S_cons (S_set (i := 0) (T_lst (L_cons T_str (L_cons T_str (L_cons T_str (L_cons T_str (L_cons T_str (L_cons T_str L_nil))))))) sc_w_lines.nd) (S_cons (S_set (i := 0) (T_bin o_add (T_var 0) (T_lst (L_cons T_str (L_cons T_str (L_cons T_str (L_cons T_str (L_cons T_str L_nil))))))) sc_w_lines.nd) (S_cons (S_set (i := 0) (T_bin o_add (T_var 0) (T_lst (L_cons T_str (L_cons T_str (L_cons T_str (L_cons T_str L_nil)))))) sc_w_lines.nd) (S_cons (S_set (i := 0) (T_bin o_add (T_var 0) (T_lst (L_cons T_str (L_cons T_str (L_cons T_str L_nil))))) sc_w_lines.nd) (S_cons (S_set (i := 0) (T_bin o_add (T_var 0) (T_lst (L_cons T_str (L_cons T_str (L_cons T_str (L_cons T_str L_nil)))))) sc_w_lines.nd) (S_cons (S_set (i := 0) (T_bin o_add (T_var 0) (T_lst (L_cons T_str (L_cons T_str (L_cons T_str L_nil))))) sc_w_lines.nd) (S_cons (S_set (i := 0) (T_bin o_add (T_var 0) (T_lst (L_cons T_str (L_cons T_str (L_cons T_str (L_cons T_str L_nil)))))) sc_w_lines.nd) (S_cons (S_set (i := 0) (T_bin o_add (T_var 0) (T_lst (L_cons T_str (L_cons T_str (L_cons T_str L_nil))))) sc_w_lines.nd) (S_cons (S_set (i := 0) (T_bin o_add (T_var 0) (T_lst (L_cons T_str (L_cons T_str (L_cons T_str L_nil))))) sc_w_lines.nd) (S_cons (S_set (i := 0) (T_bin o_add (T_var 0) (T_lst (L_cons T_str (L_cons T_str (L_cons T_str L_nil))))) sc_w_lines.nd) (S_cons (S_set (i := 0) (T_bin o_add (T_var 0) (T_lst (L_cons T_str (L_cons T_str (L_cons T_str (L_cons T_str L_nil)))))) sc_w_lines.nd) (S_cons (S_set (i := 0) (T_bin o_add (T_var 0) (T_lst (L_cons T_str (L_cons T_str (L_cons T_str (L_cons T_str L_nil)))))) sc_w_lines.nd) (S_one (S_ret (T_var 0))))))))))))))), ?_⟩
  exact fun ts t e => mir_ok (G := g_w_lines) e
theorem ok_w_changed (T : Gl0 K w mg) (D : Ds K mg fa ft) : FnOk P w K mg base CX0 2 (fa "w_changed") (ft "w_changed") ["_law_text", "_law_cell_here"] (spT K m_w_changed) := by
  have G_w_mix : FnOk P w K mg base CX0 1 (fa "w_mix") (ft "w_mix") ["_law_cell_here", "_law_prime", "_law_many"] (spT K m_w_mix) := (ok_w_mix T D).mono (by decide)
  have Fn := D.w_changed.fn
  refine Fun.okQ Fn sc_w_changed (fun ts t e => mir_len e) fun cdv A outer s H E hr =>
    ⟨_, (S_cons (S_set (i := 2) (T_def D.w_mix G_w_mix hr (L_cons (T_var 1) (L_cons T_int (L_cons (T_bin o_add (T_callB c_len T.len (L_cons (T_var 0) L_nil)) T_int) L_nil)))) sc_w_changed.nd) (S_cons (S_set (i := 3) T_str sc_w_changed.nd) (S_cons (S_set (i := 4) (T_ix (hu_of hr) (T_var 3) (T_def D.w_mix G_w_mix hr (L_cons (T_var 1) (L_cons T_int (L_cons (T_callB c_len T.len (L_cons (T_var 3) L_nil)) L_nil))))) sc_w_changed.nd) (S_cons (S_set (i := 5) (T_def D.w_mix G_w_mix hr (L_cons (T_var 1) (L_cons T_int (L_cons T_int L_nil)))) sc_w_changed.nd) (S_cons (S_if (Q_cmp (o_eq (hu40 hr)) (T_var 5) T_int) (S_one (S_ret (T_bin o_add (T_bin o_add (T_sl (T_var 0) P_none (P_some (T_var 2))) (T_var 4)) (T_sl (T_var 0) (P_some (T_var 2)) P_none)))) S_nil) (S_cons (S_if (Q_cmp (o_eq (hu40 hr)) (T_var 5) T_int) (S_one (S_ret (T_bin o_add (T_sl (T_var 0) P_none (P_some (T_var 2))) (T_sl (T_var 0) (P_some (T_bin o_add (T_var 2) T_int)) P_none)))) S_nil) (S_one (S_ret (T_bin o_add (T_bin o_add (T_sl (T_var 0) P_none (P_some (T_var 2))) (T_var 4)) (T_sl (T_var 0) (P_some (T_bin o_add (T_var 2) T_int)) P_none)))))))))), ?_⟩
  exact fun ts t e => mir_ok (G := g_w_changed) e
theorem ok_law (T : Gl0 K w mg) (D : Ds K mg fa ft) : FnOk P w K mg base CX0 10 (fa "law") (ft "law") ["_law_script"] (spT K m_law) := by
  have G_w_any_row : FnOk P w K mg base CX0 9 (fa "w_any_row") (ft "w_any_row") ["_law_cell_here"] (spT K m_w_any_row) := (ok_w_any_row T D).mono (by decide)
  have G_w_cell : FnOk P w K mg base CX0 9 (fa "w_cell") (ft "w_cell") ["_law_script", "_law_k"] (spT K m_w_cell) := (ok_w_cell T D).mono (by decide)
  have G_w_changed : FnOk P w K mg base CX0 9 (fa "w_changed") (ft "w_changed") ["_law_text", "_law_cell_here"] (spT K m_w_changed) := (ok_w_changed T D).mono (by decide)
  have G_w_is_right : FnOk P w K mg base CX0 9 (fa "w_is_right") (ft "w_is_right") ["_law_text"] (spT K m_w_is_right) := (ok_w_is_right T D).mono (by decide)
  have G_w_line : FnOk P w K mg base CX0 9 (fa "w_line") (ft "w_line") ["_law_row"] (spT K m_w_line) := (ok_w_line T D).mono (by decide)
  have G_w_lines : FnOk P w K mg base CX0 9 (fa "w_lines") (ft "w_lines") [] (spT K m_w_lines) := (ok_w_lines T D).mono (by decide)
  have G_w_mix : FnOk P w K mg base CX0 9 (fa "w_mix") (ft "w_mix") ["_law_cell_here", "_law_prime", "_law_many"] (spT K m_w_mix) := (ok_w_mix T D).mono (by decide)
  have G_w_read : FnOk P w K mg base CX0 9 (fa "w_read") (ft "w_read") ["_law_text"] (spT K m_w_read) := (ok_w_read T D).mono (by decide)
  have Fn := D.law.fn
  refine Fun.okQ Fn sc_law (fun ts t e => mir_len e) fun cdv A outer s H E hr =>
    ⟨_, (S_cons (S_if (Q_val (T_callB (c_any rfl) T.any (L_cons (T_lc (N' := ["_law_text"]) (ix := [none]) (LcOk.of (N := ["_law_script", "_law_words_here", "_law_k", "_law_text", "_law_turn", "_law_cell_here", "_law_drawn"]) (sc := defScope sd_law) rfl rfl (by decide +kernel)) (I_seq (T_def0 D.w_lines G_w_lines hr)) ⟨fun s H ex => ⟨(G_name 0 (by show List.Nodup (["_law_text"] : List Str); decide +kernel)), F_nil, (T_cmp (o_ne (hu40 hr)) (T_def D.w_read G_w_read hr (L_cons (T_var 0) L_nil)) T_str)⟩⟩ (tgOk_n 0)) L_nil))) (S_one (S_ret T_bl)) S_nil) (S_cons (S_set (i := 1) (T_tup (L_cons T_str (L_cons T_str (L_cons T_str (L_cons T_str (L_cons T_str (L_cons T_str (L_cons T_str (L_cons T_str (L_cons T_str (L_cons T_str L_nil))))))))))) sc_law.nd) (S_cons (S_set (i := 1) (T_bin o_add (T_var 1) (T_tup (L_cons T_str (L_cons T_str (L_cons T_str (L_cons T_str (L_cons T_str (L_cons T_str L_nil)))))))) sc_law.nd) (S_cons (S_for (I_range1 T.range (L_cons T_int L_nil)) (G_name 2 sc_law.nd) (S_cons (S_set (i := 3) (T_def D.w_line G_w_line hr (L_cons (T_def D.w_any_row G_w_any_row hr (L_cons (T_bin o_add (T_def D.w_cell G_w_cell hr (L_cons (T_var 0) (L_cons (T_var 2) L_nil))) (T_bin o_mul T_int (T_var 2))) L_nil)) L_nil)) sc_law.nd) (S_cons (S_for (I_range1 T.range (L_cons T_int L_nil)) (G_name 4 sc_law.nd) (S_cons (S_set (i := 3) (T_def D.w_changed G_w_changed hr (L_cons (T_var 3) (L_cons (T_bin o_add (T_def D.w_cell G_w_cell hr (L_cons (T_var 0) (L_cons (T_bin o_add T_int (T_var 4)) L_nil))) (T_bin o_mul T_int (T_var 2))) L_nil))) sc_law.nd) (S_one (S_if (Q_not (Q_val (T_def D.w_is_right G_w_is_right hr (L_cons (T_var 3) L_nil)))) (S_one (S_ret T_bl)) S_nil)))) (S_cons (S_set (i := 5) (T_bin o_add (T_def D.w_cell G_w_cell hr (L_cons (T_var 0) (L_cons T_int L_nil))) (T_bin o_mul T_int (T_var 2))) sc_law.nd) (S_cons (S_setLC (i := 6) (N' := ["_law_j", "_law_words_here", "_law_cell_here"]) (ix := [none, some 1, some 5]) (LcOk.of (N := ["_law_script", "_law_words_here", "_law_k", "_law_text", "_law_turn", "_law_cell_here", "_law_drawn"]) (sc := defScope sd_law) rfl rfl (by decide +kernel)) (I_range1 T.range (L_cons (T_def D.w_mix G_w_mix hr (L_cons (T_var 5) (L_cons T_int (L_cons T_int L_nil)))) L_nil)) ⟨fun s H ex => ⟨(G_name 0 (by show List.Nodup (["_law_j", "_law_words_here", "_law_cell_here"] : List Str); decide +kernel)), F_nil, (T_ix (hu_of hr) (T_var 1) (T_def D.w_mix G_w_mix hr (L_cons (T_bin o_add (T_var 2) (T_bin o_mul T_int (T_var 0))) (L_cons T_int (L_cons T_int L_nil)))))⟩⟩ (tgOk_n 0) sc_law.nd) (S_one (S_if (Q_not (Q_val (T_def D.w_is_right G_w_is_right hr (L_cons (T_ms PySem.F.slot_str_join PySem.F.type_str_join m_join T_str (L_cons (T_var 6) L_nil)) L_nil)))) (S_one (S_ret T_bl)) S_nil))))))) (S_one (S_ret T_bl)))))), ?_⟩
  exact fun ts t e => mir_ok (G := g_law) e
end
end M38
namespace L2
open PySem PyProof.Rows
open PySem.Builtin.Str (occurrences strSub partsBetween subAt lastOccurrence)
theorem lenL (x : Str) : x.cps.toList.length = x.length := by simp [Str.length]
theorem strEq {a b : Str} (h : a.cps.toList = b.cps.toList) : a = b := by
  cases a; cases b
  exact congrArg Str.mk (Array.toList_inj.mp h)
def posL (c : Nat) : Nat → Nat → List Nat → List Nat
  | _, _, [] => []
  | lim, i, d :: r => if d = c ∧ 0 < lim then i :: posL c (lim - 1) (i + 1) r else posL c lim (i + 1) r
theorem sub_one {x : Str} {c i : Nat} : subAt x ⟨#[c]⟩ i = true ↔ x.cps.toList[i]? = some c := by
  constructor
  · intro h
    by_cases hi : i + 1 ≤ x.length
    · exact at_one.mp ⟨hi, h⟩
    · exfalso
      rw [StrLaws.subAt_eq] at h
      have h3 := eq_of_beq h
      rw [List.drop_eq_nil_of_le (by rw [lenL]; omega)] at h3
      exact absurd h3 (by simp)
  · intro h
    exact (at_one.mpr h).2
theorem occ_run (x : Str) (c lim : Nat) : ∀ (m cur : Nat) (st : Array Nat × Nat), cur + m = x.length + 1 → st.snd ≤ cur → st.fst.size ≤ lim →
    (forIn (List.range' cur m) st (StrLaws.occBody x ⟨#[c]⟩ x.length lim)).run.fst.toList = st.fst.toList ++ posL c (lim - st.fst.size) cur (x.cps.toList.drop cur)
  | 0, cur, st, hm, _, _ => by
    rw [List.drop_eq_nil_of_le (by rw [lenL]; omega)]
    show st.fst.toList = st.fst.toList ++ []
    rw [List.append_nil]
  | m + 1, cur, st, hm, hf, hs => by
    rw [List.range'_succ, List.forIn_cons]
    by_cases hc : cur < x.length
    · have hd := List.drop_eq_getElem_cons (l := x.cps.toList) (i := cur) (by rw [lenL]; exact hc)
      have hg : x.cps.toList[cur]? = some (x.cps.toList[cur]'(by rw [lenL]; exact hc)) := List.getElem?_eq_getElem _
      generalize x.cps.toList[cur]'(by rw [lenL]; exact hc) = d at hd hg
      rw [hd]
      unfold StrLaws.occBody
      split
      · rename_i h
        have e := sub_one.mp h.2
        rw [hg] at e
        cases e
        show (forIn (List.range' (cur + 1) m) (st.fst.push cur, cur + 1) (StrLaws.occBody x ⟨#[c]⟩ x.length lim)).run.fst.toList = _
        rw [occ_run x c lim m (cur + 1) (st.fst.push cur, cur + 1) (by omega) (Nat.le_refl _) (by show (st.fst.push cur).size ≤ lim; rw [Array.size_push]; exact h.1.1.1)]
        show (st.fst.push cur).toList ++ posL c (lim - (st.fst.push cur).size) (cur + 1) _ = _
        rw [posL, if_pos ⟨rfl, by have := h.1.1.1; omega⟩, Array.toList_push, Array.size_push, List.append_assoc, Nat.sub_sub]
        rfl
      · rename_i h
        show (forIn (List.range' (cur + 1) m) (st.fst, st.snd) (StrLaws.occBody x ⟨#[c]⟩ x.length lim)).run.fst.toList = _
        rw [occ_run x c lim m (cur + 1) (st.fst, st.snd) (by omega) (Nat.le_succ_of_le hf) hs, posL, if_neg]
        rintro ⟨e1, e2⟩
        subst e1
        exact h ⟨⟨⟨by omega, hf⟩, hc⟩, sub_one.mpr hg⟩
    · have hcn : cur = x.length := by omega
      have hm0 : m = 0 := by omega
      subst hm0
      unfold StrLaws.occBody
      rw [if_neg (fun h => by have h2 : cur + 1 ≤ x.length := h.1.2; omega), List.drop_eq_nil_of_le (by rw [lenL]; omega)]
      show st.fst.toList = st.fst.toList ++ []
      rw [List.append_nil]
theorem occ_pos (x : Str) (c lim : Nat) : occurrences x ⟨#[c]⟩ 0 x.length lim = posL c lim 0 x.cps.toList := by
  rw [StrLaws.occ_eq, occ_run x c lim _ 0 (#[], 0) (by omega) (Nat.le_refl _) (Nat.zero_le _)]
  rfl
theorem posL_zero (c : Nat) : ∀ (l : List Nat) (i : Nat), posL c 0 i l = []
  | [], _ => rfl
  | d :: r, i => by rw [posL, if_neg (fun h => Nat.lt_irrefl _ h.2), posL_zero c r]
def splitNL (c : Nat) : Nat → List Nat → List (List Nat)
  | _, [] => [[]]
  | lim, x :: r => if x = c ∧ 0 < lim then [] :: splitNL c (lim - 1) r else match splitNL c lim r with
    | p :: ps => (x :: p) :: ps
    | [] => [[x]]
def glueL (a : List Nat) : List (List Nat) → List (List Nat)
  | p :: ps => (a ++ p) :: ps
  | [] => [a]
theorem glue_nil : ∀ (l : List (List Nat)), l ≠ [] → glueL [] l = l
  | [], h => absurd rfl h
  | p :: ps, _ => rfl
theorem splitNL_ne (c : Nat) : ∀ (l : List Nat) (lim : Nat), splitNL c lim l ≠ []
  | [], lim => by simp [splitNL]
  | x :: r, lim => by
    unfold splitNL
    split
    · simp
    · split <;> simp
theorem splitNL_step {c lim x : Nat} {r : List Nat} (h : ¬ (x = c ∧ 0 < lim)) : splitNL c lim (x :: r) = glueL [x] (splitNL c lim r) := by
  rw [splitNL, if_neg h]
  cases e : splitNL c lim r with
  | nil => exact absurd e (splitNL_ne c r lim)
  | cons p ps => rfl
theorem glue_glue (a b : List Nat) : ∀ (l : List (List Nat)), l ≠ [] → glueL a (glueL b l) = glueL (a ++ b) l
  | [], h => absurd rfl h
  | p :: ps, _ => by show (a ++ (b ++ p)) :: ps = (a ++ b ++ p) :: ps; rw [List.append_assoc]
theorem parts_splitN (x : Str) (c : Nat) : ∀ (m lim a i : Nat), a ≤ i → i + m = x.length → (StrLaws.partsFrom x 1 a (posL c lim i (x.cps.toList.drop i))).map (fun p => p.cps.toList) = glueL ((x.cps.toList.drop a).take (i - a)) (splitNL c lim (x.cps.toList.drop i))
  | 0, lim, a, i, ha, hi => by
    rw [List.drop_eq_nil_of_le (by rw [lenL]; omega : x.cps.toList.length ≤ i)]
    show [(strSub x a x.length).cps.toList] = [_ ++ []]
    rw [StrLaws.strSub_toList, List.append_nil, show x.length - a = i - a by omega]
  | m + 1, lim, a, i, ha, hi => by
    have hlt : i < x.cps.toList.length := by rw [lenL]; omega
    have hd := List.drop_eq_getElem_cons hlt
    have hg : x.cps.toList[i]? = some (x.cps.toList[i]'hlt) := List.getElem?_eq_getElem _
    generalize x.cps.toList[i]'hlt = d at hd hg
    rw [hd]
    by_cases h : d = c ∧ 0 < lim
    · rw [posL, if_pos h, splitNL, if_pos h]
      show (strSub x a i).cps.toList :: (StrLaws.partsFrom x 1 (i + 1) (posL c (lim - 1) (i + 1) (x.cps.toList.drop (i + 1)))).map (fun p => p.cps.toList) = _
      rw [parts_splitN x c m (lim - 1) (i + 1) (i + 1) (Nat.le_refl _) (by omega), StrLaws.strSub_toList, Nat.sub_self, List.take_zero, glue_nil _ (splitNL_ne _ _ _)]
      show _ = ((x.cps.toList.drop a).take (i - a) ++ []) :: _
      rw [List.append_nil]
    · rw [posL, if_neg h, parts_splitN x c m lim a (i + 1) (by omega) (by omega), splitNL_step h, glue_glue _ _ _ (splitNL_ne _ _ _)]
      congr 1
      rw [show i + 1 - a = (i - a) + 1 by omega, List.take_succ, List.getElem?_drop, show a + (i - a) = i by omega, hg]
      rfl
theorem kind_one {c : Nat} (hc : c < 256) (x : Str) : decide (Builtin.Str.strKind x < Builtin.Str.strKind ⟨#[c]⟩) = false := by
  have hk : Builtin.Str.strKind ⟨#[c]⟩ = 1 := by
    unfold Builtin.Str.strKind
    rw [if_pos (by simp [hc])]
  have hk2 : 1 ≤ Builtin.Str.strKind x := by
    unfold Builtin.Str.strKind
    split
    · exact Nat.le_refl _
    · split <;> decide
  exact decide_eq_false (by omega)
theorem split_max (x : Str) (c : Nat) (k : Int) (hc : c < 256) (hk : 0 ≤ k) : (Txt.splitMax x ⟨#[c]⟩ k).map (fun p => p.cps.toList) = splitNL c k.toNat x.cps.toList := by
  have key := parts_splitN x c x.length k.toNat 0 0 (Nat.le_refl _) (by omega)
  rw [List.drop_zero, Nat.sub_self, List.take_zero, glue_nil _ (splitNL_ne _ _ _)] at key
  have hl : limitOf x k = k.toNat := if_neg (by omega)
  unfold Txt.splitMax
  rw [kind_one hc, Bool.or_false, hl, occ_pos]
  by_cases e0 : decide (x.length < (⟨#[c]⟩ : Str).length) = true
  · rw [if_pos e0]
    have h0 : x.length < 1 := of_decide_eq_true e0
    have hx : x.cps.toList = [] := List.eq_nil_of_length_eq_zero (by rw [lenL]; omega)
    show [x.cps.toList] = _
    rw [hx]
    rfl
  · rw [if_neg e0]
    by_cases e1 : (posL c k.toNat 0 x.cps.toList).isEmpty = true
    · rw [if_pos e1]
      rw [List.isEmpty_iff.mp e1] at key
      rw [← key]
      show [x.cps.toList] = [(strSub x 0 x.length).cps.toList]
      rw [StrLaws.sub_whole]
    · rw [if_neg e1, StrLaws.partsBetween_eq]
      exact key
theorem splitNL_cut (c lim : Nat) : ∀ (a b : List Nat), c ∉ a → splitNL c (lim + 1) (a ++ c :: b) = a :: splitNL c lim b
  | [], b, _ => by
    show splitNL c (lim + 1) (c :: b) = _
    rw [splitNL, if_pos ⟨rfl, Nat.succ_pos _⟩]
    rfl
  | x :: r, b, h => by
    show splitNL c (lim + 1) (x :: (r ++ c :: b)) = _
    rw [splitNL_step (fun z => h (by rw [z.1]; exact List.mem_cons_self ..)), splitNL_cut c lim r b fun m => h (List.mem_cons_of_mem _ m)]
    rfl
def pos2 (p q : Nat) : Nat → Nat → List Nat → List Nat
  | 0, _, _ => []
  | n + 1, i, x :: y :: r => if x = p ∧ y = q then i :: pos2 p q n (i + 2) r else pos2 p q n (i + 1) (y :: r)
  | _ + 1, _, _ => []
def rep2 (p q : Nat) (z : List Nat) : Nat → List Nat → List Nat
  | 0, l => l
  | n + 1, x :: y :: r => if x = p ∧ y = q then z ++ rep2 p q z n r else x :: rep2 p q z n (y :: r)
  | _ + 1, l => l
theorem pos2_more (p q : Nat) : ∀ (n m i : Nat) (l : List Nat), l.length ≤ n → n ≤ m → pos2 p q n i l = pos2 p q m i l
  | 0, m, i, l, h, _ => by
    have e : l = [] := List.eq_nil_of_length_eq_zero (by omega)
    subst e
    cases m <;> rfl
  | n + 1, 0, i, l, h, hm => by omega
  | n + 1, m + 1, i, [], h, hm => rfl
  | n + 1, m + 1, i, [x], h, hm => rfl
  | n + 1, m + 1, i, x :: y :: r, h, hm => by
    rw [pos2, pos2]
    split
    · rw [pos2_more p q n m (i + 2) r (by simp only [List.length_cons] at h; omega) (by omega)]
    · exact pos2_more p q n m (i + 1) (y :: r) (by simp only [List.length_cons] at h ⊢; omega) (by omega)
theorem at_two {x : Str} {p q k : Nat} : (k + 2 ≤ x.length ∧ subAt x ⟨#[p, q]⟩ k = true) ↔ ∃ r, x.cps.toList.drop k = p :: q :: r := by
  rw [StrLaws.subAt_eq]
  show (k + 2 ≤ x.length ∧ ((x.cps.toList.drop k).take 2 == [p, q]) = true) ↔ _
  constructor
  · rintro ⟨h1, h2⟩
    have h3 := eq_of_beq h2
    refine ⟨x.cps.toList.drop (k + 2), ?_⟩
    have e := (List.take_append_drop 2 (x.cps.toList.drop k)).symm
    rw [h3, List.drop_drop] at e
    exact e
  · rintro ⟨r, h⟩
    have hl := congrArg List.length h
    rw [List.length_drop, lenL] at hl
    simp only [List.length_cons] at hl
    refine ⟨by omega, ?_⟩
    rw [h]
    exact beq_self_eq_true _
theorem occ_run2 (x : Str) (p q lim : Nat) : ∀ (m cur : Nat) (st : Array Nat × Nat), cur + m = x.length + 1 → st.fst.size + m ≤ lim → (st.snd ≤ cur ∨ st.snd = cur + 1) →
    (forIn (List.range' cur m) st (StrLaws.occBody x ⟨#[p, q]⟩ x.length lim)).run.fst.toList = st.fst.toList ++ pos2 p q (m + 1) (max cur st.snd) (x.cps.toList.drop (max cur st.snd))
  | 0, cur, st, hm, _, _ => by
    rw [List.drop_eq_nil_of_le (by rw [lenL]; omega)]
    show st.fst.toList = st.fst.toList ++ []
    rw [List.append_nil]
  | m + 1, cur, st, hm, hs, hf => by
    rw [List.range'_succ, List.forIn_cons]
    unfold StrLaws.occBody
    split
    · rename_i h
      obtain ⟨r, hr⟩ := at_two.mp ⟨h.1.2, h.2⟩
      have hle : st.snd ≤ cur := h.1.1.2
      show (forIn (List.range' (cur + 1) m) (st.fst.push cur, cur + 2) (StrLaws.occBody x ⟨#[p, q]⟩ x.length lim)).run.fst.toList = _
      rw [occ_run2 x p q lim m (cur + 1) (st.fst.push cur, cur + 2) (by omega) (by show (st.fst.push cur).size + m ≤ lim; rw [Array.size_push]; omega) (.inr rfl), Nat.max_eq_left hle, hr]
      have hr2 : x.cps.toList.drop (cur + 2) = r := by
        rw [← List.drop_drop, hr]; rfl
      show (st.fst.push cur).toList ++ pos2 p q (m + 1) (max (cur + 1) (cur + 2)) (x.cps.toList.drop (max (cur + 1) (cur + 2))) = _
      rw [Nat.max_eq_right (by omega), hr2, Array.toList_push, List.append_assoc, pos2, if_pos ⟨rfl, rfl⟩]
      rfl
    · rename_i h
      show (forIn (List.range' (cur + 1) m) (st.fst, st.snd) (StrLaws.occBody x ⟨#[p, q]⟩ x.length lim)).run.fst.toList = _
      rw [occ_run2 x p q lim m (cur + 1) (st.fst, st.snd) (by omega) (by show st.fst.size + m ≤ lim; omega) (.inl (by show st.snd ≤ cur + 1; omega))]
      show st.fst.toList ++ pos2 p q (m + 1) (max (cur + 1) st.snd) (x.cps.toList.drop (max (cur + 1) st.snd)) = _
      congr 1
      rcases hf with hf | hf
      · rw [Nat.max_eq_left (by omega : st.snd ≤ cur + 1), Nat.max_eq_left hf]
        by_cases hc : cur < x.length
        · have hd := List.drop_eq_getElem_cons (l := x.cps.toList) (i := cur) (by rw [lenL]; exact hc)
          generalize x.cps.toList[cur]'(by rw [lenL]; exact hc) = d at hd
          rw [hd]
          cases e : x.cps.toList.drop (cur + 1) with
          | nil => rfl
          | cons y r =>
            show pos2 p q (m + 1) (cur + 1) (y :: r) = if d = p ∧ y = q then cur :: pos2 p q (m + 1) (cur + 2) r else pos2 p q (m + 1) (cur + 1) (y :: r)
            rw [if_neg]
            rintro ⟨e1, e2⟩
            subst e1 e2
            obtain ⟨h1, h2⟩ := at_two.mpr ⟨r, by rw [hd, e]⟩
            exact h ⟨⟨⟨by omega, hf⟩, h1⟩, h2⟩
        · rw [List.drop_eq_nil_of_le (by rw [lenL]; omega), List.drop_eq_nil_of_le (by rw [lenL]; omega)]
          rfl
      · rw [hf, Nat.max_self, Nat.max_eq_right (Nat.le_succ _)]
        exact pos2_more p q (m + 1) (m + 2) (cur + 1) _ (by rw [List.length_drop, lenL]; omega) (by omega)
theorem occ_pos2 (x : Str) (p q : Nat) : occurrences x ⟨#[p, q]⟩ 0 x.length (x.length + 1) = pos2 p q (x.length + 2) 0 x.cps.toList := by
  rw [StrLaws.occ_eq, occ_run2 x p q _ _ 0 (#[], 0) (by omega) (by show 0 + (x.length + 1 - 0) ≤ x.length + 1; omega) (.inl (Nat.le_refl _))]
  rfl
theorem join_two (z a b : Str) (r : List Str) : (Str.join z (a :: b :: r)).cps.toList = a.cps.toList ++ z.cps.toList ++ (Str.join z (b :: r)).cps.toList := by
  show (a ++ z ++ Str.join z (b :: r)).cps.toList = _
  simp only [Str.cps_append, Array.toList_append]
theorem join_rep2 (x z : Str) (p q : Nat) : ∀ (n a i : Nat), a ≤ i → i ≤ x.length → (Str.join z (StrLaws.partsFrom x 2 a (pos2 p q n i (x.cps.toList.drop i)))).cps.toList = (x.cps.toList.drop a).take (i - a) ++ rep2 p q z.cps.toList n (x.cps.toList.drop i)
  | n, a, i, ha, hi => by
    have plain : (Str.join z (StrLaws.partsFrom x 2 a [])).cps.toList = (x.cps.toList.drop a).take (i - a) ++ x.cps.toList.drop i := by
      show (strSub x a x.length).cps.toList = _
      rw [StrLaws.strSub_toList, List.take_of_length_le (by rw [List.length_drop, lenL]; exact Nat.le_refl _)]
      have e : x.cps.toList.drop i = (x.cps.toList.drop a).drop (i - a) := by rw [List.drop_drop]; congr 1; omega
      rw [e, List.take_append_drop]
    cases n with
    | zero => exact plain
    | succ n =>
      cases e : x.cps.toList.drop i with
      | nil => rw [e] at plain; exact plain
      | cons d r =>
        cases r with
        | nil => rw [e] at plain; exact plain
        | cons y r =>
          have hl := congrArg List.length e
          rw [List.length_drop, lenL] at hl
          simp only [List.length_cons] at hl
          rw [pos2, rep2]
          split
          · have e2 : x.cps.toList.drop (i + 2) = r := by rw [← List.drop_drop, e]; rfl
            have ih := join_rep2 x z p q n (i + 2) (i + 2) (Nat.le_refl _) (by omega)
            rw [e2, Nat.sub_self, List.take_zero, List.nil_append] at ih
            rw [← ih]
            show (Str.join z (strSub x a i :: StrLaws.partsFrom x 2 (i + 2) (pos2 p q n (i + 2) r))).cps.toList = _
            obtain ⟨b, rs, eb⟩ := StrLaws.partsFrom_ne x 2 (i + 2) (pos2 p q n (i + 2) r)
            rw [eb, join_two, StrLaws.strSub_toList, List.append_assoc]
          · have e1 : x.cps.toList.drop (i + 1) = y :: r := by rw [← List.drop_drop, e]; rfl
            have ih := join_rep2 x z p q n a (i + 1) (by omega) (by omega)
            rw [e1] at ih
            rw [ih, show i + 1 - a = (i - a) + 1 by omega, List.take_succ, List.getElem?_drop, show a + (i - a) = i by omega]
            have hg : x.cps.toList[i]? = some d := by
              have := congrArg (fun l => l[0]?) e
              simpa [List.getElem?_drop] using this
            rw [hg, List.append_assoc]
            rfl
theorem repl_two (x z : Str) (p q : Nat) : (Txt.replace x ⟨#[p, q]⟩ z).cps.toList = rep2 p q z.cps.toList (x.length + 2) x.cps.toList := by
  have key := join_rep2 x z p q (x.length + 2) 0 0 (Nat.le_refl _) (Nat.zero_le _)
  rw [List.drop_zero, Nat.sub_self, List.take_zero, List.nil_append] at key
  rw [← key]
  unfold Txt.replace
  rw [occ_pos2]
  have h10 : ((⟨#[p, q]⟩ : Str).length == 0) = false := rfl
  rw [h10, Bool.false_and, Bool.or_false]
  cases e : (pos2 p q (x.length + 2) 0 x.cps.toList).isEmpty with
  | true =>
    rw [if_pos rfl, List.isEmpty_iff.mp e]
    show x.cps.toList = (strSub x 0 x.length).cps.toList
    rw [StrLaws.sub_whole]
  | false =>
    rw [if_neg Bool.false_ne_true, StrLaws.glued_eq_join, StrLaws.partsBetween_eq]
    rfl
end L2
namespace L2
open PySem PyProof.Rows
def dg (m : Nat) : List Nat := (Nat.toDigits 10 m).map Char.toNat
theorem dg_dig : ∀ d : Nat, d < 10 → (Nat.digitChar d).toNat = 48 + d := by decide
theorem dg_lt {m : Nat} (h : m < 10) : dg m = [48 + m] := by
  unfold dg
  rw [Nat.toDigits_of_lt_base h, List.map_cons, List.map_nil, dg_dig m h]
theorem dg_ge {m : Nat} (h : 10 ≤ m) : dg m = dg (m / 10) ++ [48 + m % 10] := by
  have hm : m % 10 < 10 := Nat.mod_lt m (by decide)
  have t : Nat.toDigits 10 (m / 10) ++ Nat.toDigits 10 (m % 10) = Nat.toDigits 10 (10 * (m / 10) + m % 10) := Nat.toDigits_append_toDigits (by decide) (by omega) hm
  rw [Nat.div_add_mod] at t
  unfold dg
  rw [← t, List.map_append, Nat.toDigits_of_lt_base hm, List.map_cons, List.map_nil, dg_dig _ hm]
theorem dg_str (m : Nat) : Str.ofString (toString ((m : Nat) : Int)) = ⟨(dg m).toArray⟩ := strEq (by rw [PySem.W.KIN.signs_num]; rfl)
theorem dg_len {m k : Nat} (hk : 1 ≤ k) (h : m < 10 ^ k) : (dg m).length ≤ k := by
  unfold dg
  rw [List.length_map]
  exact toDigits_len_pow (by decide) hk h
theorem dg_all : ∀ (m : Nat), ∀ c ∈ dg m, 48 ≤ c ∧ c ≤ 57 := by
  intro m
  induction m using Nat.strongRecOn with
  | _ m ih =>
    intro c hc
    by_cases h : m < 10
    · rw [dg_lt h, List.mem_singleton] at hc; omega
    · rw [dg_ge (by omega)] at hc
      rcases List.mem_append.mp hc with hc | hc
      · exact ih (m / 10) (by omega) c hc
      · rw [List.mem_singleton] at hc
        have := Nat.mod_lt m (show 0 < 10 by decide)
        omega
theorem join_empty : ∀ zs : List Str, (Txt.join "" zs).cps.toList = (zs.map (fun z => z.cps.toList)).flatten := by
  intro zs
  have e0 : ("" : Str).cps.toList = [] := by decide
  have key : ∀ zs : List Str, (Str.join "" zs).cps.toList = (zs.map (fun z => z.cps.toList)).flatten := by
    intro zs
    induction zs with
    | nil => rfl
    | cons a r ih =>
      cases r with
      | nil => show a.cps.toList = a.cps.toList ++ []; rw [List.append_nil]
      | cons b r => rw [join_two, ih, e0, List.append_nil]; rfl
  show (Builtin.Str.glued "" zs).cps.toList = _
  rw [StrLaws.glued_eq_join]
  exact key zs
theorem flat_one : ∀ l : List Nat, ((l.map fun c => (⟨#[c]⟩ : Str)).map (fun z => z.cps.toList)).flatten = l
  | [] => rfl
  | c :: l => by rw [List.map_cons, List.map_cons, List.flatten_cons, flat_one l]; rfl
theorem join_one (l : List Nat) : Txt.join "" (l.map fun c => (⟨#[c]⟩ : Str)) = ⟨l.toArray⟩ := strEq (by rw [join_empty, flat_one])
theorem sum_one : ∀ l : List Nat, ((l.map fun c => (⟨#[c]⟩ : Str)).map (·.length)).sum = l.length
  | [] => rfl
  | c :: l => by rw [List.map_cons, List.map_cons, List.sum_cons, sum_one l, List.length_cons]; show 1 + l.length = _; omega
theorem joinOk_one {l : List Nat} (h : l.length ≤ 1000) : JoinOk "" (l.map fun c => (⟨#[c]⟩ : Str)) = true := joinOk_of (by
  have e0 : ("" : Str).length = 0 := by decide
  rw [sum_one, e0, Nat.mul_zero]; omega)
end L2
namespace M38
open PySem L2
def isS (r : Rs Tr) (z : Str) : Bool := match r with
  | .ok (.str y) => y == z
  | _ => false
theorem isS_ok {r : Rs Tr} {z : Str} (h : isS r z = true) : r = .ok (.str z) := by
  unfold isS at h
  split at h
  · rw [eq_of_beq h]
  · cases h
theorem str_dig {d : Nat} (h : d < 10) : strT [.int (d : Int)] = .ok (.str ⟨#[48 + d]⟩) := by
  have q : (List.range 10).all (fun d => isS (strT [.int (d : Int)]) ⟨#[48 + d]⟩) = true := by decide +kernel
  exact isS_ok (List.all_eq_true.mp q d (List.mem_range.mpr h))
def sgs (l : List Nat) : List Tr := l.map fun c => Tr.str ⟨#[c]⟩
def gW : Rho → Ab → Rz Out := fun ρ A => seqZ (dropZ (mtL appZ (liftZ (getS ρ 1) A) (fun A => (consZ (liftZ (callR strT (consR (op2 modT (getS ρ 0) (Rs.ok (.int 10))) (.ok []))) A) (fun A => (.ok [] A))))) ρ) fun ρ A => setZ 0 (liftZ (op2 fdivT (getS ρ 0) (Rs.ok (.int 10))) A) ρ
def pW : Rho → Ab → Rz Bool := fun ρ A => (liftZ (asB (op2 gtC (getS ρ 0) (Rs.ok (.int 9)))) A)
theorem app_eq {l : List Nat} {z : Str} (h : l.length < 1000) : appZ 0 [.str z] [.lst (sgs l)] = .ok .non [.lst (sgs l ++ [.str z])] := if_pos (by unfold sgs; rw [List.length_map]; exact Nat.lt_of_lt_of_le h (by decide))
theorem gW_eq (m : Nat) (l : List Nat) (h : l.length < 1000) : gW [.sh (.int (m : Int)), .sh (.at 0)] [.lst (sgs l)] = .ok (.nx [.sh (.int ((m / 10 : Nat) : Int)), .sh (.at 0)]) [.lst (sgs (l ++ [48 + m % 10]))] := by
  have e1 : modT (.int (m : Int)) (.int 10) = .ok (.int ((m % 10 : Nat) : Int)) := by
    show (if (0 : Int) < 10 then Rs.ok (Tr.int ((m : Int) % 10)) else Rs.bad) = _
    rw [if_pos (by decide), Int.natCast_emod]; rfl
  have e2 : fdivT (.int (m : Int)) (.int 10) = .ok (.int ((m / 10 : Nat) : Int)) := by
    show (if (0 : Int) < 10 ∧ (10 : Int) < 1073741824 then Rs.ok (Tr.int ((m : Int) / 10)) else Rs.bad) = _
    rw [if_pos ⟨by decide, by decide⟩, Int.natCast_ediv]; rfl
  show seqZ (dropZ ((consZ (liftZ (callR strT (consR (modT (.int (m : Int)) (.int 10)) (.ok []))) [.lst (sgs l)]) (fun A => (.ok [] A))).bind fun ts A => appZ 0 ts A) [.sh (.int (m : Int)), .sh (.at 0)]) _ = _
  rw [e1]
  show seqZ (dropZ ((consZ (liftZ (strT [.int ((m % 10 : Nat) : Int)]) [.lst (sgs l)]) (fun A => (.ok [] A))).bind fun ts A => appZ 0 ts A) [.sh (.int (m : Int)), .sh (.at 0)]) _ = _
  rw [str_dig (Nat.mod_lt m (by decide))]
  show seqZ (dropZ (appZ 0 [.str ⟨#[48 + m % 10]⟩] [.lst (sgs l)]) [.sh (.int (m : Int)), .sh (.at 0)]) _ = _
  rw [app_eq h]
  show setZ 0 (liftZ (fdivT (.int (m : Int)) (.int 10)) [.lst (sgs l ++ [.str ⟨#[48 + m % 10]⟩])]) [.sh (.int (m : Int)), .sh (.at 0)] = _
  rw [e2]
  show Rz.ok (Out.nx [.sh (.int ((m / 10 : Nat) : Int)), .sh (.at 0)]) [.lst (sgs l ++ [.str ⟨#[48 + m % 10]⟩])] = _
  unfold sgs
  rw [List.map_append]
  rfl
theorem while_eq : ∀ (f g m : Nat) (l : List Nat), m < 10 ^ f → f < g → l.length + g ≤ 1000 → ∃ (m' : Nat) (r : List Nat), m' < 10 ∧ dg m = (48 + m') :: r.reverse ∧ r.length ≤ f ∧ whileZ pW gW g [.sh (.int (m : Int)), .sh (.at 0)] [.lst (sgs l)] = .ok (.nx [.sh (.int (m' : Int)), .sh (.at 0)]) [.lst (sgs (l ++ r))]
  | f, 0, m, l, _, hg, _ => by omega
  | f, g + 1, m, l, hm, hg, hl => by
    by_cases h : m < 10
    · refine ⟨m, [], h, dg_lt h, Nat.zero_le _, ?_⟩
      show (Rz.ok (decide (9 < (m : Int))) [.lst (sgs l)] : Rz Bool).bind _ = _
      rw [decide_eq_false (by omega), List.append_nil]
      rfl
    · match f, hm with
      | 0, hm => exfalso; simp at hm; omega
      | f + 1, hm =>
        obtain ⟨m', r, h1, h2, h3, h4⟩ := while_eq f g (m / 10) (l ++ [48 + m % 10]) (Nat.div_lt_of_lt_mul (by rw [Nat.mul_comm, ← Nat.pow_succ]; exact hm)) (by omega) (by rw [List.length_append, List.length_singleton]; omega)
        refine ⟨m', (48 + m % 10) :: r, h1, ?_, by rw [List.length_cons]; omega, ?_⟩
        · rw [dg_ge (by omega), h2, List.reverse_cons]; rfl
        · show (Rz.ok (decide (9 < (m : Int))) [.lst (sgs l)] : Rz Bool).bind _ = _
          rw [decide_eq_true (by omega)]
          show (gW [.sh (.int (m : Int)), .sh (.at 0)] [.lst (sgs l)]).bind _ = _
          rw [gW_eq m l (by omega)]
          show whileZ pW gW g [.sh (.int ((m / 10 : Nat) : Int)), .sh (.at 0)] [.lst (sgs (l ++ [48 + m % 10]))] = _
          rw [h4, List.append_assoc]
          rfl
theorem thaw_sgs (A : Ab) (n : Nat) (l : List Nat) : (sgs l).map (thawT n A) = sgs l := by
  unfold sgs
  rw [List.map_map]
  refine List.map_congr_left fun c _ => ?_
  cases n <;> rfl
theorem strsL_sgs : ∀ l : List Nat, strsL (sgs l) = .ok (l.map fun c => (⟨#[c]⟩ : Str))
  | [] => rfl
  | c :: l => by
    show strsL (.str ⟨#[c]⟩ :: sgs l) = _
    rw [strsL, strsL_sgs l]
    rfl
theorem e_dig {m : Nat} (h : m < 10 ^ 150) : m_digits_of [.int (m : Int)] = .ok (.str ⟨(dg m).toArray⟩) := by
  obtain ⟨m', r, h1, h2, h3, h4⟩ := while_eq 150 200 m [] h (by decide) (by decide)
  have key : m_digits_of [.int (m : Int)] = bodyZ (g_digits_of [.sh (.int (m : Int)), .no] []) := by
    show (if [Tr.int (m : Int)].length = 1 ∧ noAts [Tr.int (m : Int)] = true then bodyZ (g_digits_of (startT 2 [.int (m : Int)]) []) else .bad) = _
    rw [if_pos ⟨rfl, rfl⟩]
    rfl
  rw [key]
  show bodyZ (seqZ (whileZ pW gW 200 [.sh (.int (m : Int)), .sh (.at 0)] [.lst (sgs [])]) fun ρ A => seqZ (dropZ (mtL appZ (liftZ (getS ρ 1) A) (fun A => (consZ (liftZ (callR strT (consR (getS ρ 0) (.ok []))) A) (fun A => (.ok [] A))))) ρ) fun ρ A => retZ (flZ ((fun ρ => (joinRev (Rs.ok (.str "")) (getS ρ 1))) (thawR A ρ)) A)) = _
  rw [h4, List.nil_append]
  show bodyZ (seqZ (dropZ ((consZ (liftZ (strT [.int (m' : Int)]) [.lst (sgs r)]) (fun A => (.ok [] A))).bind fun ts A => appZ 0 ts A) [.sh (.int (m' : Int)), .sh (.at 0)]) fun ρ A => retZ (flZ ((fun ρ => (joinRev (Rs.ok (.str "")) (getS ρ 1))) (thawR A ρ)) A)) = _
  rw [str_dig h1]
  show bodyZ (seqZ (dropZ (appZ 0 [.str ⟨#[48 + m']⟩] [.lst (sgs r)]) [.sh (.int (m' : Int)), .sh (.at 0)]) fun ρ A => retZ (flZ ((fun ρ => (joinRev (Rs.ok (.str "")) (getS ρ 1))) (thawR A ρ)) A)) = _
  rw [app_eq (by omega)]
  have e5 : sgs r ++ [.str ⟨#[48 + m']⟩] = sgs (r ++ [48 + m']) := by unfold sgs; rw [List.map_append]; rfl
  rw [e5]
  show bodyZ (retZ (flZ (joinRev (Rs.ok (.str "")) (.ok (.lst ((sgs (r ++ [48 + m'])).map (thawT 4 [.lst (sgs (r ++ [48 + m']))]))))) [.lst (sgs (r ++ [48 + m']))])) = _
  rw [thaw_sgs]
  have e6 : (r ++ [48 + m']).reverse = dg m := by rw [List.reverse_append, h2]; rfl
  have hl : (dg m).length ≤ 151 := by rw [← e6, List.length_reverse, List.length_append, List.length_singleton]; omega
  have e7 : ((r ++ [48 + m']).map fun c => (⟨#[c]⟩ : Str)).reverse = (dg m).map fun c => (⟨#[c]⟩ : Str) := by rw [← List.map_reverse, e6]
  have e8 : joinRev (Rs.ok (.str "")) (.ok (.lst (sgs (r ++ [48 + m'])))) = .ok (.str ⟨(dg m).toArray⟩) := by
    show (strsL (sgs (r ++ [48 + m']))).bind (fun zs => if JoinOk "" zs.reverse = true ∧ (Txt.join "" zs.reverse).length ≤ txMax then Rs.ok (Tr.str (Txt.join "" zs.reverse)) else Rs.bad) = _
    rw [strsL_sgs]
    show (if JoinOk "" ((r ++ [48 + m']).map fun c => (⟨#[c]⟩ : Str)).reverse = true ∧ (Txt.join "" ((r ++ [48 + m']).map fun c => (⟨#[c]⟩ : Str)).reverse).length ≤ txMax then Rs.ok (Tr.str (Txt.join "" ((r ++ [48 + m']).map fun c => (⟨#[c]⟩ : Str)).reverse)) else Rs.bad) = _
    rw [e7, join_one, if_pos ⟨joinOk_one (by omega), by show (dg m).toArray.size ≤ txMax; rw [List.size_toArray]; unfold txMax; omega⟩]
  rw [e8]
  rfl
end M38
namespace M38
open PySem L2
def rls : List Str := ["guest", "speaker", "keeper", "owner"]
def bare : List Str := ["found", "enter", "leave"]
def whom : List Str := ["ask", "unbar", "out", "bar"]
theorem lcF {A : Rho → Rs Bool} {F : Rho → Rs Tr} {p : Tr → Bool} {f : Tr → Tr} {R : Rho} : ∀ (ts : List Tr) (c : Cell), (∀ t ∈ ts, A (.sh t :: R) = .ok (p t)) → (∀ t ∈ ts, p t = true → F (.sh t :: R) = .ok (f t)) → lcL (gN 0) A F ts (c :: R) = .ok ((ts.filter p).map f)
  | [], c, _, _ => rfl
  | t :: ts, c, h1, h2 => by
    rw [lcL]
    show (Rs.bind (pur (A (.sh t :: R))) _ : Rs (List Tr)) = _
    rw [h1 t (List.mem_cons_self ..)]
    have ih := lcF ts (.sh t) (fun u m => h1 u (List.mem_cons_of_mem _ m)) (fun u m => h2 u (List.mem_cons_of_mem _ m))
    cases e : p t with
    | true =>
      show (Rs.bind (pur (F (.sh t :: R))) _ : Rs (List Tr)) = _
      rw [h2 t (List.mem_cons_self ..) e]
      show ((lcL (gN 0) A F ts (.sh t :: R)).bind fun ys => Rs.ok (f t :: ys)) = _
      rw [ih, List.filter_cons, e]
      rfl
    | false =>
      show lcL (gN 0) A F ts (.sh t :: R) = _
      rw [ih, List.filter_cons, e]
      rfl
theorem lcM {F : Rho → Rs Tr} {f : Tr → Tr} {R : Rho} (ts : List Tr) (c : Cell) (h : ∀ t ∈ ts, F (.sh t :: R) = .ok (f t)) : lcL (gN 0) (fun _ => .ok true) F ts (c :: R) = .ok (ts.map f) := by
  have q := lcF (A := fun _ => .ok true) (p := fun _ => true) ts c (fun _ _ => rfl) (fun t m _ => h t m)
  rw [show ts.filter (fun _ => true) = ts by rw [List.filter_eq_self]; intros; rfl] at q
  exact q
theorem sgn_len (z : Str) : (sgnT z).length = z.length := by simp [sgnT, Str.length]
theorem ifgo {b : Bool} {G1 : Rs Out} {ρ : Rho} {G : Rho → Rs Out} : bodyR (seqO (ifO (.ok b) G1 (.ok (.nx ρ))) G) = if b = true then bodyR (seqO G1 G) else bodyR (G ρ) := by cases b <;> rfl
def mix (c p m : Int) : Int := (c * 48271 % p) * (c * 48271 % p + 7) % p % m
theorem mix_in {c p m : Int} (hm : 0 < m) : 0 ≤ mix c p m ∧ mix c p m < m := ⟨Int.emod_nonneg _ (by omega), Int.emod_lt_of_pos _ hm⟩
theorem mul_ok {i j : Int} (h : mulOk i j) : mulT (.int i) (.int j) = .ok (.int (i * j)) := if_pos h
theorem mod_ok {i j : Int} (h : 0 < j) : modT (.int i) (.int j) = .ok (.int (i % j)) := if_pos h
theorem rng1_eq (j : Int) : rng1W (.ok [.int j]) = if -4611686018427387904 ≤ j ∧ j < 4611686018427387904 then .ok (rngT 0 j.toNat) else .bad := rfl
theorem lcR_ok {ix : List (Option Nat)} {T : Tgt} {A : Rho → Rs Bool} {F : Rho → Rs Tr} {ts : List Tr} {ρ : Rho} (h : ts.length ≤ szT) : lcR ix T A F (.ok ts) ρ = (lcL T A F ts (lcRho ix ρ)).bind fun ys => .ok (.lst ys) := if_pos h
theorem e_mix (c p m : Int) (hp : 0 < p) (hp2 : p ≤ 1048576) (hm : 0 < m) : m_w_mix [.int c, .int p, .int m] = .ok (.int (mix c p m)) := by
  have b0 : 0 ≤ c * 48271 % p := Int.emod_nonneg _ (by omega)
  have b1 : c * 48271 % p < p := Int.emod_lt_of_pos _ hp
  show bodyR (seqO (setO 3 (op2 modT (mulT (.int c) (.int 48271)) (.ok (.int p))) [.sh (.int c), .sh (.int p), .sh (.int m), .no]) fun ρ => retO (op2 modT (op2 modT (op2 mulT (getS ρ 3) (op2 addT (getS ρ 3) (Rs.ok (.int 7)))) (getS ρ 1)) (getS ρ 2))) = _
  have q1 : mulT (.int c) (.int 48271) = .ok (.int (c * 48271)) := if_pos (.inr ⟨by decide, by decide⟩)
  rw [q1]
  have q2 : op2 modT (.ok (.int (c * 48271))) (.ok (.int p)) = .ok (.int (c * 48271 % p)) := if_pos hp
  rw [q2]
  show bodyR (retO (op2 modT (op2 modT (mulT (.int (c * 48271 % p)) (.int (c * 48271 % p + 7))) (.ok (.int p))) (.ok (.int m)))) = _
  have q3 : mulT (.int (c * 48271 % p)) (.int (c * 48271 % p + 7)) = .ok (.int ((c * 48271 % p) * (c * 48271 % p + 7))) := if_pos (.inl ⟨by omega, by omega⟩)
  rw [q3]
  have q4 : op2 modT (.ok (.int ((c * 48271 % p) * (c * 48271 % p + 7)))) (.ok (.int p)) = .ok (.int ((c * 48271 % p) * (c * 48271 % p + 7) % p)) := if_pos hp
  rw [q4]
  have q5 : op2 modT (.ok (.int ((c * 48271 % p) * (c * 48271 % p + 7) % p))) (.ok (.int m)) = .ok (.int (mix c p m)) := if_pos hm
  rw [q5]
  rfl
theorem e_cell (ns : List Int) (k : Int) (h : 0 ≤ k) : ∃ c, m_w_cell [.scr ns, .int k] = .ok (.int c) := by
  show ∃ c, bodyR (seqO (ifO (.ok (decide (k < (ns.length : Int)))) (retO ((okO (L2.atI ns k)).bind fun n => .ok (.int n))) (.ok (.nx [.sh (.scr ns), .sh (.int k)]))) fun ρ => retO (Rs.ok (.int 0))) = _
  by_cases hk : k < (ns.length : Int)
  · have hl : k.toNat < ns.length := by omega
    have e : L2.atI ns k = some (ns[k.toNat]) := by
      have q := atI_nat (xs := ns) (j := k.toNat) (List.getElem?_eq_getElem hl)
      rw [Int.toNat_of_nonneg h] at q
      exact q
    rw [decide_eq_true hk, e]
    exact ⟨_, rfl⟩
  · rw [decide_eq_false hk]
    exact ⟨0, rfl⟩
def some12 : List Str := ["hi", "@ann hi", "@bo @ann", "hi @cy", "@ann,", "@@ann", "a@ann", "\"", "@ed @ed x", "@", "@annabel", "@zed"]
def sgns : Str := " !\"#$&'()*+,-./0123456789:;<=>?@ABCDEFGHIJKLMNOPQRSTUVWXYZ[\\]^_`abcdefghijklmnopqrstuvwxyz{|}~"
theorem sgns_len : sgns.length = 94 := by decide +kernel
theorem sgns_cps : sgns.cps.toList.length = 94 := by decide +kernel
theorem len12 : ∀ i, i < 12 → 1 ≤ (some12.getD i "").length ∧ (some12.getD i "").length ≤ 60 := by decide +kernel
def signAt (c : Int) (k : Nat) : Str := ⟨#[sgns.cps.toList.getD (mix (c + 7 * (0 + (k : Int))) 9941 94).toNat 0]⟩
theorem atIn {α : Type} {xs : List α} {i : Int} (d : α) (h0 : 0 ≤ i) (h1 : i < (xs.length : Int)) : L2.atI xs i = some (xs.getD i.toNat d) := by
  have hk : i.toNat < xs.length := by omega
  have q : xs[i.toNat]? = some (xs.getD i.toNat d) := by
    rw [List.getElem?_eq_getElem hk, List.getD_eq_getElem?_getD, List.getElem?_eq_getElem hk]
    rfl
  have q2 := atI_nat q
  rw [Int.toNat_of_nonneg h0] at q2
  exact q2
def SG (z : Str) : Prop := ∀ c ∈ z.cps.toList, c < 128
def GW (t : Rs Tr) : Prop := ∃ z : Str, t = .ok (.str z) ∧ 1 ≤ z.length ∧ z.length ≤ 60 ∧ SG z
theorem sg12 : ∀ i, i < 12 → ∀ c ∈ (some12.getD i "").cps.toList, c < 128 := by decide +kernel
theorem sgAll : ∀ i, i < 94 → sgns.cps.toList.getD i 0 < 128 := by decide +kernel
theorem strs_map (f : Nat → Str) : ∀ l : List Nat, strsL (l.map fun k => Tr.str (f k)) = .ok (l.map f)
  | [] => rfl
  | k :: l => by rw [List.map_cons, strsL, strs_map f l]; rfl
theorem gw_join (c : Int) (n : Nat) (h1 : 1 ≤ n) (h2 : n ≤ 60) (tl : List Cell) : GW (mS joinM (Rs.ok (.str "")) (consR (lcR [none, some 1, some 0] (gN 0) (fun _ => .ok true) (fun ρ => (op2 ixT (getS ρ 1) (callR m_w_mix (consR (op2 addT (getS ρ 2) (op2 mulT (Rs.ok (.int 7)) (getS ρ 0))) (consR (Rs.ok (.int 9941)) (consR (callR lenT (consR (getS ρ 1) (.ok []))) (.ok []))))))) (rng1W (.ok [.int (n : Int)])) (.sh (.int c) :: .sh (.str sgns) :: tl)) (.ok []))) := by
  have e1 : rng1W (.ok [.int (n : Int)]) = .ok (rngT 0 n) := by
    rw [rng1_eq, if_pos ⟨by omega, by omega⟩, Int.toNat_natCast]
  have e2 : lcR [none, some 1, some 0] (gN 0) (fun _ => .ok true) (fun ρ => (op2 ixT (getS ρ 1) (callR m_w_mix (consR (op2 addT (getS ρ 2) (op2 mulT (Rs.ok (.int 7)) (getS ρ 0))) (consR (Rs.ok (.int 9941)) (consR (callR lenT (consR (getS ρ 1) (.ok []))) (.ok []))))))) (.ok (rngT 0 n)) (.sh (.int c) :: .sh (.str sgns) :: tl) = .ok (.lst ((List.range n).map fun k => Tr.str (signAt c k))) := by
    rw [lcR_ok (by rw [rngT_length]; unfold szT; omega)]
    show (lcL (gN 0) _ _ (rngT 0 n) (.no :: [.sh (.str sgns), .sh (.int c)])).bind _ = _
    rw [lcM (f := fun t => match t with | .int k => .str (signAt c k.toNat) | t => t) (rngT 0 n) .no fun t m => ?_]
    · refine congrArg (fun l => Rs.ok (Tr.lst l)) ?_
      unfold rngT
      rw [List.map_map]
      refine List.map_congr_left fun k _ => ?_
      show Tr.str (signAt c ((0 : Int) + (k : Int)).toNat) = _
      rw [Int.zero_add, Int.toNat_natCast]
    · unfold rngT at m
      obtain ⟨k, _, rfl⟩ := List.mem_map.mp m
      have e3 : mulT (.int 7) (.int (0 + (k : Int))) = .ok (.int (7 * (0 + (k : Int)))) := mul_ok (.inl ⟨by decide, by decide⟩)
      show op2 ixT (.ok (.str sgns)) (callR m_w_mix (consR (op2 addT (.ok (.int c)) (mulT (.int 7) (.int (0 + (k : Int))))) (consR (Rs.ok (.int 9941)) (consR (.ok (.int (sgns.length : Int))) (.ok []))))) = _
      rw [e3, sgns_len]
      show op2 ixT (.ok (.str sgns)) (m_w_mix [.int (c + 7 * (0 + (k : Int))), .int 9941, .int 94]) = _
      rw [e_mix _ _ _ (by decide) (by decide) (by decide)]
      obtain ⟨m0, m1⟩ := mix_in (c := c + 7 * (0 + (k : Int))) (p := 9941) (m := 94) (by decide)
      show (okO (L2.atI sgns.cps.toList (mix (c + 7 * (0 + (k : Int))) 9941 94))).bind (fun ch => Rs.ok (Tr.str ⟨#[ch]⟩)) = .ok (.str (signAt c (0 + (k : Int)).toNat))
      rw [atIn 0 m0 (by rw [sgns_cps]; exact m1), Int.zero_add, Int.toNat_natCast]
      show Rs.ok (Tr.str ⟨#[sgns.cps.toList.getD (mix (c + 7 * (k : Int)) 9941 94).toNat 0]⟩) = _
      unfold signAt
      rw [Int.zero_add]
  rw [e1, e2]
  have e4 : (Txt.join ("" : Str) ((List.range n).map (signAt c))).length = n := by
    have q := PySem.W.KT.join_ones ((List.range n).map (signAt c)) fun a ha => by obtain ⟨j, _, rfl⟩ := List.mem_map.mp ha; rfl
    rw [List.length_map, List.length_range] at q
    exact q
  have jo : JoinOk "" ((List.range n).map (signAt c)) = true := by
    have q := PyProof.Rows.joinOk_few (sep := "") (as := List.range n) (pz := fun _ => true) (f := signAt c) (by rw [List.length_range]; omega) (fun a => by show 1 ≤ _; decide) (by decide)
    rw [show (List.range n).filter (fun _ => true) = List.range n by rw [List.filter_eq_self]; intros; rfl] at q
    exact q
  refine ⟨_, ?_, by rw [e4]; exact h1, by rw [e4]; exact h2, ?_⟩
  rotate_left
  · intro x hx
    rw [join_empty] at hx
    obtain ⟨l, hl, hm⟩ := List.mem_flatten.mp hx
    rw [List.map_map] at hl
    obtain ⟨k, _, rfl⟩ := List.mem_map.mp hl
    have hm' : x ∈ [sgns.cps.toList.getD (mix (c + 7 * (0 + (k : Int))) 9941 94).toNat 0] := hm
    obtain ⟨m0, m1⟩ := mix_in (c := c + 7 * (0 + (k : Int))) (p := 9941) (m := 94) (by decide)
    rw [List.mem_singleton.mp hm']
    exact sgAll _ (by omega)
  show (strsL ((List.range n).map fun k => Tr.str (signAt c k))).bind (fun zs => if JoinOk "" zs = true ∧ (Txt.join "" zs).length ≤ txMax then Rs.ok (Tr.str (Txt.join "" zs)) else .bad) = _
  rw [strs_map]
  show (if JoinOk "" ((List.range n).map (signAt c)) = true ∧ (Txt.join "" ((List.range n).map (signAt c))).length ≤ txMax then _ else _) = _
  rw [if_pos ⟨jo, by rw [e4]; unfold txMax; omega⟩]
theorem e_lw (c : Int) : GW (m_w_words [.int c]) := by
  have e3 : modT (.int c) (.int 3) = .ok (.int (c % 3)) := mod_ok (by decide)
  show GW (bodyR (seqO (ifO (asB (op2 eqC (modT (.int c) (.int 3)) (Rs.ok (.int 0)))) (seqO (.ok (.nx [.sh (.int c), .sh (.str sgns), .sh (.tup ([.str "hi", .str "@ann hi", .str "@bo @ann", .str "hi @cy", .str "@ann,", .str "@@ann", .str "a@ann", .str "\""])), .no])) _) (.ok (.nx [.sh (.int c), .sh (.str sgns), .no, .no]))) _))
  rw [e3]
  show GW (bodyR (seqO (ifO (.ok (c % 3 == 0)) _ _) _))
  rw [ifgo]
  cases h3 : (c % 3 == 0) with
  | true =>
    rw [if_pos rfl]
    obtain ⟨m0, m1⟩ := mix_in (c := c) (p := 9973) (m := 12) (by decide)
    have q : op2 ixT (.ok (.tup (some12.map Tr.str))) (m_w_mix [.int c, .int 9973, .int 12]) = .ok (.str (some12.getD (mix c 9973 12).toNat "")) := by
      rw [e_mix _ _ _ (by decide) (by decide) (by decide)]
      show okO (L2.atI (some12.map Tr.str) (mix c 9973 12)) = _
      rw [atI_map, atIn (xs := some12) "" m0 m1]
      rfl
    obtain ⟨l1, l2⟩ := len12 (mix c 9973 12).toNat (by omega)
    refine ⟨_, ?_, l1, l2, sg12 _ (by omega)⟩
    show bodyR (seqO (retO (op2 ixT (.ok (.tup (some12.map Tr.str))) (m_w_mix [.int c, .int 9973, .int 12]))) _) = _
    rw [q]
    rfl
  | false =>
    rw [if_neg Bool.false_ne_true]
    show GW (bodyR (seqO (setO 3 (op2 addT (Rs.ok (.int 1)) (m_w_mix [.int c, .int 9967, .int 6])) [.sh (.int c), .sh (.str sgns), .no, .no]) _))
    rw [e_mix _ _ _ (by decide) (by decide) (by decide)]
    obtain ⟨b0, b1⟩ := mix_in (c := c) (p := 9967) (m := 6) (by decide)
    show GW (bodyR (seqO (ifO (asB (op2 eqC (m_w_mix [.int c, .int 9949, .int 9]) (Rs.ok (.int 0)))) (setO 3 (Rs.ok (.int 60)) [.sh (.int c), .sh (.str sgns), .no, .sh (.int (1 + mix c 9967 6))]) (.ok (.nx [.sh (.int c), .sh (.str sgns), .no, .sh (.int (1 + mix c 9967 6))]))) _))
    rw [e_mix _ _ _ (by decide) (by decide) (by decide)]
    show GW (bodyR (seqO (ifO (.ok (mix c 9949 9 == 0)) _ _) _))
    rw [ifgo]
    have fin : ∀ r : Rs Tr, GW r → GW (bodyR (retO r)) := fun r ⟨z, e, l⟩ => ⟨z, by rw [e]; rfl, l⟩
    cases h9 : (mix c 9949 9 == 0) with
    | true =>
      rw [if_pos rfl]
      exact fin _ (gw_join c 60 (by decide) (by decide) [.no, .sh (.int 60)])
    | false =>
      rw [if_neg Bool.false_ne_true]
      have q := fin _ (gw_join c (1 + mix c 9967 6).toNat (by omega) (by omega) [.no, .sh (.int (1 + mix c 9967 6))])
      rw [Int.toNat_of_nonneg (by omega)] at q
      exact q
def nms : List Str := ["ann", "bo", "abcdef"]
def six : List (Str × Str) := [("door", "open"), ("door", "asked"), ("voice", "all"), ("voice", "some"), ("past", "shown"), ("past", "hidden")]
inductive GP : Str → List Tr → Prop where
  | bare {w : Str} (h : w ∈ M38.bare) : GP w []
  | set {p : Str × Str} (h : p ∈ six) : GP "set" [.str p.1, .str p.2]
  | whom {w x : Str} (h : w ∈ M38.whom) (hx : x ∈ nms) : GP w [.str x]
  | role {x r : Str} (hx : x ∈ nms) (hr : r ∈ rls) : GP "role" [.str x, .str r]
  | say {z : Str} {a : Tr} (h1 : 1 ≤ z.length) (h2 : z.length ≤ 60) (hs : SG z) (ha : a = .non ∨ ∃ n, a = .int n ∧ 1 ≤ n ∧ n ≤ 12) : GP "say" [.str z, a]
  | mend {n : Int} {z : Str} (hn : 1 ≤ n ∧ n ≤ 12) (h1 : 1 ≤ z.length) (h2 : z.length ≤ 60) (hs : SG z) : GP "mend" [.int n, .str z]
  | gone {n : Int} (hn : 1 ≤ n ∧ n ≤ 12) : GP "gone" [.int n]
def Good (t : Tr) : Prop := ∃ n who w ps, t = .tup (.int n :: .str who :: .str w :: ps) ∧ (1 ≤ n ∧ n ≤ 99) ∧ who ∈ nms ∧ GP w ps
theorem pick (zs : List Str) (i : Int) (h0 : 0 ≤ i) (h1 : i < (zs.length : Int)) : ∃ z, ixT (.tup (zs.map Tr.str)) (.int i) = .ok (.str z) ∧ z ∈ zs := by
  refine ⟨zs.getD i.toNat "", ?_, ?_⟩
  · show okO (L2.atI (zs.map Tr.str) i) = _
    rw [atI_map, atIn (xs := zs) "" h0 h1]
    rfl
  · have hk : i.toNat < zs.length := by omega
    rw [List.getD_eq_getElem?_getD, List.getElem?_eq_getElem hk]
    exact List.getElem_mem hk
theorem pick6 (i : Int) (h0 : 0 ≤ i) (h1 : i < 6) : ∃ p, ixT (.lst (six.map fun p => .tup [.str p.1, .str p.2])) (.int i) = .ok (.tup [.str p.1, .str p.2]) ∧ p ∈ six := by
  refine ⟨six.getD i.toNat ("", ""), ?_, ?_⟩
  · show okO (L2.atI (six.map fun p => Tr.tup [.str p.1, .str p.2]) i) = _
    rw [atI_map, atIn (xs := six) ("", "") h0 h1]
    rfl
  · have hk : i.toNat < six.length := by show _ < 6; omega
    rw [List.getD_eq_getElem?_getD, List.getElem?_eq_getElem hk]
    exact List.getElem_mem hk
theorem retG {r : Rs Tr} {G : Rho → Rs Out} : bodyR (seqO (retO r) G) = r := by
  cases r <;> rfl
theorem e_any (c : Int) : ∃ t, m_w_any_row [.int c] = .ok t ∧ Good t := by
  obtain ⟨a0, a1⟩ := mix_in (c := c) (p := 9851) (m := 3) (by decide)
  obtain ⟨x, ex, hx⟩ := pick nms _ a0 a1
  obtain ⟨b0, b1⟩ := mix_in (c := c) (p := 9817) (m := 3) (by decide)
  obtain ⟨who, ew, hw⟩ := pick nms _ b0 b1
  obtain ⟨n0, n01⟩ := mix_in (c := c) (p := 9839) (m := 12) (by decide)
  obtain ⟨k0, k01⟩ := mix_in (c := c) (p := 9829) (m := 99) (by decide)
  obtain ⟨w0, w1⟩ := mix_in (c := c) (p := 9833) (m := 12) (by decide)
  have M := fun (c p m : Int) (hp : 0 < p) (hp2 : p ≤ 1048576) (hm : 0 < m) => e_mix c p m hp hp2 hm
  show ∃ t, bodyR (seqO (setO 2 (op2 ixT (.ok (.tup (nms.map Tr.str))) (m_w_mix [.int c, .int 9851, .int 3])) [.sh (.int c), .sh (.tup (nms.map Tr.str)), .no, .no, .no, .no, .no]) _) = _ ∧ _
  rw [M _ _ _ (by decide) (by decide) (by decide)]
  show ∃ t, bodyR (seqO (setO 2 (ixT (.tup (nms.map Tr.str)) (.int (mix c 9851 3))) _) _) = _ ∧ _
  rw [ex]
  show ∃ t, bodyR (seqO (setO 3 (op2 addT (Rs.ok (.int 1)) (m_w_mix [.int c, .int 9839, .int 12])) [.sh (.int c), .sh (.tup (nms.map Tr.str)), .sh (.str x), .no, .no, .no, .no]) _) = _ ∧ _
  rw [M _ _ _ (by decide) (by decide) (by decide)]
  show ∃ t, bodyR (seqO (setO 4 (m_w_mix [.int c, .int 9833, .int 12]) [.sh (.int c), .sh (.tup (nms.map Tr.str)), .sh (.str x), .sh (.int (1 + mix c 9839 12)), .no, .no, .no]) _) = _ ∧ _
  rw [M _ _ _ (by decide) (by decide) (by decide)]
  show ∃ t, bodyR (seqO (setO 5 (tupR (consR (op2 addT (Rs.ok (.int 1)) (m_w_mix [.int c, .int 9829, .int 99])) (consR (op2 ixT (.ok (.tup (nms.map Tr.str))) (m_w_mix [.int c, .int 9817, .int 3])) (.ok [])))) [.sh (.int c), .sh (.tup (nms.map Tr.str)), .sh (.str x), .sh (.int (1 + mix c 9839 12)), .sh (.int (mix c 9833 12)), .no, .no]) _) = _ ∧ _
  rw [M _ _ _ (by decide) (by decide) (by decide), M _ _ _ (by decide) (by decide) (by decide)]
  show ∃ t, bodyR (seqO (setO 5 (tupR (consR (.ok (.int (1 + mix c 9829 99))) (consR (ixT (.tup (nms.map Tr.str)) (.int (mix c 9817 3))) (.ok [])))) _) _) = _ ∧ _
  rw [ew]
  generalize hN : 1 + mix c 9839 12 = num
  generalize hn : 1 + mix c 9829 99 = n
  generalize mix c 9833 12 = way at w0 w1
  have num1 : 1 ≤ num ∧ num ≤ 12 := ⟨by omega, by omega⟩
  have n1 : 1 ≤ n ∧ n ≤ 99 := ⟨by omega, by omega⟩
  clear hN hn n0 n01 k0 k01 ex ew a0 a1 b0 b1
  have good : ∀ {w : Str} {ps : List Tr}, GP w ps → Good (.tup (.int n :: .str who :: .str w :: ps)) := fun h => ⟨n, who, _, _, rfl, n1, hw, h⟩
  show ∃ t, bodyR (seqO (ifO (.ok (decide (way < 3))) (retO (op2 addT (.ok (.tup [.int n, .str who])) (tupR (consR (ixT (.tup (M38.bare.map Tr.str)) (.int way)) (.ok []))))) (.ok (.nx [.sh (.int c), .sh (.tup (nms.map Tr.str)), .sh (.str x), .sh (.int num), .sh (.int way), .sh (.tup [.int n, .str who]), .no]))) _) = _ ∧ _
  rw [ifgo]
  by_cases h : way < 3
  · rw [if_pos (decide_eq_true h), retG]
    obtain ⟨z, e, m⟩ := pick M38.bare way w0 h
    rw [e]
    exact ⟨_, rfl, good (.bare m)⟩
  rw [if_neg fun z => h (of_decide_eq_true z)]
  show ∃ t, bodyR (seqO (ifO (.ok (way == 3)) (retO (op2 addT (.ok (.tup [.int n, .str who, .str "set"])) (op2 ixT (.ok (.lst (six.map fun p => .tup [.str p.1, .str p.2]))) (m_w_mix [.int c, .int 9811, .int 6])))) (.ok (.nx [.sh (.int c), .sh (.tup (nms.map Tr.str)), .sh (.str x), .sh (.int num), .sh (.int way), .sh (.tup [.int n, .str who]), .no]))) _) = _ ∧ _
  rw [ifgo]
  by_cases h3 : way = 3
  · rw [if_pos (beq_iff_eq.mpr h3), retG, M _ _ _ (by decide) (by decide) (by decide)]
    obtain ⟨c0, c1⟩ := mix_in (c := c) (p := 9811) (m := 6) (by decide)
    obtain ⟨p, e, m⟩ := pick6 _ c0 c1
    have e' : op2 ixT (.ok (.lst (six.map fun p => .tup [.str p.1, .str p.2]))) (.ok (.int (mix c 9811 6))) = _ := e
    rw [e']
    exact ⟨_, rfl, good (.set m)⟩
  rw [if_neg fun z => h3 (beq_iff_eq.mp z)]
  show ∃ t, bodyR (seqO (ifO (.ok (decide (way < 8))) (retO (op2 addT (.ok (.tup [.int n, .str who])) (tupR (consR (ixT (.tup (M38.whom.map Tr.str)) (.int (way - 4))) (consR (.ok (.str x)) (.ok [])))))) (.ok (.nx [.sh (.int c), .sh (.tup (nms.map Tr.str)), .sh (.str x), .sh (.int num), .sh (.int way), .sh (.tup [.int n, .str who]), .no]))) _) = _ ∧ _
  rw [ifgo]
  by_cases h8 : way < 8
  · rw [if_pos (decide_eq_true h8), retG]
    obtain ⟨z, e, m⟩ := pick M38.whom (way - 4) (by omega) (by show way - 4 < 4; omega)
    rw [e]
    exact ⟨_, rfl, good (.whom m hx)⟩
  rw [if_neg fun z => h8 (of_decide_eq_true z)]
  show ∃ t, bodyR (seqO (ifO (.ok (way == 8)) (retO (op2 addT (.ok (.tup [.int n, .str who])) (tupR (consR (Rs.ok (.str "role")) (consR (.ok (.str x)) (consR (op2 ixT (.ok (.tup (rls.map Tr.str))) (m_w_mix [.int c, .int 9803, .int 4])) (.ok []))))))) (.ok (.nx [.sh (.int c), .sh (.tup (nms.map Tr.str)), .sh (.str x), .sh (.int num), .sh (.int way), .sh (.tup [.int n, .str who]), .no]))) _) = _ ∧ _
  rw [ifgo]
  by_cases h9 : way = 8
  · rw [if_pos (beq_iff_eq.mpr h9), retG, M _ _ _ (by decide) (by decide) (by decide)]
    obtain ⟨c0, c1⟩ := mix_in (c := c) (p := 9803) (m := 4) (by decide)
    obtain ⟨z, e, m⟩ := pick rls _ c0 c1
    have e' : op2 ixT (.ok (.tup (rls.map Tr.str))) (.ok (.int (mix c 9803 4))) = _ := e
    rw [e']
    exact ⟨_, rfl, good (.role hx m)⟩
  rw [if_neg fun z => h9 (beq_iff_eq.mp z)]
  show ∃ t, bodyR (seqO (ifO (.ok (way == 9)) (retO (op2 addT (.ok (.tup [.int n, .str who])) (tupR (consR (Rs.ok (.str "say")) (consR (m_w_words [.int (c + 1)]) (consR (op2 ixT (.ok (.tup [.non, .int num])) (modT (.int c) (.int 2))) (.ok []))))))) (.ok (.nx [.sh (.int c), .sh (.tup (nms.map Tr.str)), .sh (.str x), .sh (.int num), .sh (.int way), .sh (.tup [.int n, .str who]), .no]))) _) = _ ∧ _
  rw [ifgo]
  by_cases h10 : way = 9
  · rw [if_pos (beq_iff_eq.mpr h10), retG, mod_ok (by decide)]
    obtain ⟨z, e, l1, l2, ls⟩ := e_lw (c + 1)
    rw [e]
    have h2 : c % 2 = 0 ∨ c % 2 = 1 := by omega
    rcases h2 with h2 | h2
    · rw [h2]
      exact ⟨_, rfl, good (.say l1 l2 ls (.inl rfl))⟩
    · rw [h2]
      exact ⟨_, rfl, good (.say l1 l2 ls (.inr ⟨num, rfl, num1⟩))⟩
  rw [if_neg fun z => h10 (beq_iff_eq.mp z)]
  show ∃ t, bodyR (seqO (ifO (.ok (way == 10)) (retO (op2 addT (.ok (.tup [.int n, .str who])) (tupR (consR (Rs.ok (.str "mend")) (consR (.ok (.int num)) (consR (m_w_words [.int (c + 2)]) (.ok []))))))) (.ok (.nx [.sh (.int c), .sh (.tup (nms.map Tr.str)), .sh (.str x), .sh (.int num), .sh (.int way), .sh (.tup [.int n, .str who]), .no]))) _) = _ ∧ _
  rw [ifgo]
  by_cases h11 : way = 10
  · rw [if_pos (beq_iff_eq.mpr h11), retG]
    obtain ⟨z, e, l1, l2, ls⟩ := e_lw (c + 2)
    rw [e]
    exact ⟨_, rfl, good (.mend num1 l1 l2 ls)⟩
  rw [if_neg fun z => h11 (beq_iff_eq.mp z)]
  exact ⟨_, rfl, good (.gone num1)⟩
end M38
namespace M38
open PySem L2
theorem in2 (c : Nat) : (!(Builtin.Str.occurrences ("\\\"" : Str) ⟨#[c]⟩ 0 ("\\\"" : Str).length 1).isEmpty) = (c == 92 || c == 34) := by
  have e : (("\\\"" : Str)) = ⟨#[92, 34]⟩ := by decide +kernel
  rw [e]
  by_cases h1 : c = 92
  · subst h1; decide +kernel
  · by_cases h2 : c = 34
    · subst h2; decide +kernel
    · have n1 : ¬ 92 = c := Ne.symm h1
      have n2 : ¬ 34 = c := Ne.symm h2
      rw [beq_false_of_ne h1, beq_false_of_ne h2]
      simp [Builtin.Str.occurrences, Builtin.Str.subAt, Str.length, n1, n2, List.range']
theorem sapp (a b c : Str) : a ++ b ++ c = a ++ (b ++ c) := by
  cases a; cases b; cases c
  exact congrArg Str.mk (Array.append_assoc ..)
theorem sapp0 (a : Str) : a ++ ("" : Str) = a := by
  cases a
  exact congrArg Str.mk (by show _ ++ (#[] : Array Nat) = _; exact Array.append_empty)
theorem slen (a b : Str) : (a ++ b).length = a.length + b.length := PySem.Str.length_append ..
def strI (i : Int) : Str := Str.ofString (toString i)
def NB (n : Int) : Prop := ∃ m : Nat, n = (m : Int) ∧ 1 ≤ m ∧ m < 10 ^ 150
theorem strI_dg (m : Nat) : strI (m : Int) = ⟨(dg m).toArray⟩ := dg_str m
theorem nb_small {n : Int} (h0 : 1 ≤ n) (h1 : n ≤ 99) : NB n := ⟨n.toNat, by omega, by omega, Nat.lt_of_le_of_lt (show n.toNat ≤ 99 by omega) (by decide)⟩
theorem nb_len {n : Int} (h : NB n) : (strI n).length ≤ 151 := by
  obtain ⟨m, rfl, h1, h2⟩ := h
  rw [strI_dg]
  have := dg_len (k := 150) (by decide) h2
  show (dg m).toArray.size ≤ 151
  rw [List.size_toArray]
  omega
theorem nb_str {n : Int} (h : NB n) : strT [.int n] = .ok (.str (strI n)) := by
  have hl := nb_len h
  obtain ⟨m, rfl, h1, h2⟩ := h
  refine if_pos ⟨?_, by show (strI (m : Int)).length ≤ txMax; unfold txMax; omega⟩
  show ((m : Int).natAbs).log2 < 1920
  rw [Int.natAbs_natCast]
  exact (Nat.log2_lt (by omega)).mpr (Nat.lt_of_lt_of_le h2 (by decide +kernel))
def escC (c : Nat) : Str := if (c == 92 || c == 34) = true then ⟨#[92, c]⟩ else ⟨#[c]⟩
def escL : List Nat → Str
  | [] => ""
  | c :: cs => escC c ++ escL cs
theorem escC_len (c : Nat) : (escC c).length ≤ 2 := by
  unfold escC
  split
  · exact Nat.le_refl 2
  · exact (by decide : 1 ≤ 2)
theorem escL_len : ∀ cs : List Nat, (escL cs).length ≤ 2 * cs.length
  | [] => by decide
  | c :: cs => by
    have h1 := escC_len c
    have h2 := escL_len cs
    rw [escL, slen, List.length_cons]
    omega
theorem addS {a b : Str} (h : a.length + b.length ≤ txMax) : addT (.str a) (.str b) = .ok (.str (a ++ b)) := if_pos h
theorem eqS (a b : Str) : eqC (.str a) (.str b) = .ok (.bl (a == b)) := if_pos ⟨rfl, rfl, by show 0 ≤ 40; decide⟩
theorem eqI (a b : Int) : eqC (.int a) (.int b) = .ok (.bl (a == b)) := if_pos ⟨rfl, rfl, by show 0 ≤ 40; decide⟩
theorem for1 {T : Tgt} {G0 : Rho → Rs Out} {t : Tr} {ts : List Tr} {ρ ρ0 ρ1 : Rho} {o : Rs Out} (hT : T t ρ = .ok ρ0) (h : G0 ρ0 = .ok (.nx ρ1)) (q : forO T G0 ts ρ1 = o) : forO T G0 (t :: ts) ρ = o := by
  rw [forO, hT]
  show (G0 ρ0).bind _ = _
  rw [h]; exact q
theorem sqS {i : Nat} {r : Rs Tr} {t : Tr} {ρ : Rho} {G : Rho → Rs Out} {o : Rs Out} (h : r = .ok t) (q : G (ρ.set i (.sh t)) = o) : seqO (setO i r ρ) G = o := by
  rw [h]; exact q
theorem stO {i : Nat} {r : Rs Tr} {t : Tr} {ρ : Rho} (h : r = .ok t) : setO i r ρ = .ok (.nx (ρ.set i (.sh t))) := by rw [h]; rfl
theorem mirE {n m : Nat} {G : Rho → Rs Out} {ts : List Tr} (h : ts.length = n) : mir n m G ts = bodyR (G (startT m ts)) := if_pos h
def gL : Rho → Rs Out := fun ρ => seqO (ifO (asB (op2 inC (getS ρ 4) (Rs.ok (.str "\\\"")))) (setO 1 (op2 addT (getS ρ 1) (Rs.ok (.str "\\"))) ρ) (.ok (.nx ρ))) fun ρ => setO 1 (op2 addT (getS ρ 1) (getS ρ 4)) ρ
theorem e_sign (c : Nat) (f : Str) (r k p : Cell) (h : f.length ≤ 5000) : gL [r, .sh (.str f), k, p, .sh (.str ⟨#[c]⟩)] = .ok (.nx [r, .sh (.str (f ++ escC c)), k, p, .sh (.str ⟨#[c]⟩)]) := by
  show seqO (ifO (.ok (!(Builtin.Str.occurrences ("\\\"" : Str) ⟨#[c]⟩ 0 ("\\\"" : Str).length 1).isEmpty)) (setO 1 (addT (.str f) (.str "\\")) [r, .sh (.str f), k, p, .sh (.str ⟨#[c]⟩)]) (.ok (.nx [r, .sh (.str f), k, p, .sh (.str ⟨#[c]⟩)]))) _ = _
  rw [in2]
  unfold escC
  cases e : (c == 92 || c == 34) with
  | true =>
    rw [if_pos rfl]
    show seqO (setO 1 (addT (.str f) (.str "\\")) [r, .sh (.str f), k, p, .sh (.str ⟨#[c]⟩)]) _ = _
    have l1 : ("\\" : Str).length = 1 := by decide
    refine sqS (addS (by rw [l1]; unfold txMax; omega)) ?_
    show setO 1 (addT (.str (f ++ "\\")) (.str ⟨#[c]⟩)) _ = _
    rw [stO (addS (by rw [slen, l1]; show f.length + 1 + 1 ≤ txMax; unfold txMax; omega)), sapp]
    rfl
  | false =>
    rw [if_neg Bool.false_ne_true]
    show setO 1 (addT (.str f) (.str ⟨#[c]⟩)) _ = _
    rw [stO (addS (by show f.length + 1 ≤ txMax; unfold txMax; omega))]
    rfl
theorem e_signs : ∀ (cs : List Nat) (f : Str) (r k p x : Cell), f.length + 2 * cs.length ≤ 5000 → ∃ y, forO (gN 4) gL (cs.map fun c => Tr.str ⟨#[c]⟩) [r, .sh (.str f), k, p, x] = .ok (.nx [r, .sh (.str (f ++ escL cs)), k, p, y])
  | [], f, r, k, p, x, h => ⟨x, by rw [escL, sapp0]; rfl⟩
  | c :: cs, f, r, k, p, x, h => by
    rw [List.length_cons] at h
    have hc := escC_len c
    obtain ⟨y, e⟩ := e_signs cs (f ++ escC c) r k p (.sh (.str ⟨#[c]⟩)) (by rw [slen]; omega)
    exact ⟨y, by rw [List.map_cons, escL, ← sapp]; exact for1 rfl (e_sign c f r k p (by omega)) e⟩
def gP : Rho → Rs Out := fun ρ => ifO (asB (op2 isC (getS ρ 3) (Rs.ok .non))) (setO 1 (op2 addT (getS ρ 1) (Rs.ok (.str " -"))) ρ) (ifO (orB (andB (asB (op2 eqC (op2 ixT (getS ρ 0) (Rs.ok (.int 2))) (Rs.ok (.str "say")))) (asB (op2 eqC (getS ρ 2) (Rs.ok (.int 0))))) (andB (asB (op2 eqC (op2 ixT (getS ρ 0) (Rs.ok (.int 2))) (Rs.ok (.str "mend")))) (asB (op2 eqC (getS ρ 2) (Rs.ok (.int 1)))))) (seqO (setO 1 (op2 addT (getS ρ 1) (Rs.ok (.str " \""))) ρ) fun ρ => seqO (loopO (gN 4) gL (seqW (getS ρ 3)) ρ) fun ρ => setO 1 (op2 addT (getS ρ 1) (Rs.ok (.str "\""))) ρ) (setO 1 (op2 addT (op2 addT (getS ρ 1) (Rs.ok (.str " "))) (callR strT (consR (getS ρ 3) (.ok [])))) ρ))
theorem ix2 (a b c : Tr) (ps : List Tr) : ixT (.tup (a :: b :: c :: ps)) (.int 2) = .ok c := by
  show okO (L2.atI (a :: b :: c :: ps) 2) = _
  rw [show L2.atI (a :: b :: c :: ps) 2 = some c from atI_nat (j := 2) rfl]
  rfl
theorem ix1 (a b c : Tr) (ps : List Tr) : ixT (.tup (a :: b :: c :: ps)) (.int 1) = .ok b := by
  show okO (L2.atI (a :: b :: c :: ps) 1) = _
  rw [show L2.atI (a :: b :: c :: ps) 1 = some b from atI_nat (j := 1) rfl]
  rfl
theorem ix0 (a b c : Tr) (ps : List Tr) : ixT (.tup (a :: b :: c :: ps)) (.int 0) = .ok a := by
  show okO (L2.atI (a :: b :: c :: ps) 0) = _
  rw [show L2.atI (a :: b :: c :: ps) 0 = some a from atI_nat (j := 0) rfl]
  rfl
def isQ (w : Str) (k : Int) : Bool := w == "say" && k == 0 || w == "mend" && k == 1
theorem condQ (a b c d : Bool) : orB (andB (.ok a) (.ok b)) (andB (.ok c) (.ok d)) = .ok (a && b || c && d) := by cases a <;> cases b <;> cases c <;> cases d <;> rfl
inductive PartOk : Bool → Tr → Prop where
  | non (q : Bool) : PartOk q .non
  | int {i : Int} (h : NB i) : PartOk false (.int i)
  | nm {z : Str} (h : z.length ≤ 10) : PartOk false (.str z)
  | wd {z : Str} (h : z.length ≤ 60) : PartOk true (.str z)
def ptx (q : Bool) : Tr → Str
  | .int i => strI i
  | .str z => if q then "\"" ++ (escL z.cps.toList ++ "\"") else z
  | _ => "-"
theorem ptx_len {q : Bool} {p : Tr} (h : PartOk q p) : (ptx q p).length ≤ 200 := by
  cases h with
  | non q => show ("-" : Str).length ≤ 200; decide
  | int h => exact Nat.le_trans (nb_len h) (by decide)
  | nm h => exact Nat.le_trans h (by decide)
  | @wd z h =>
    have q := escL_len z.cps.toList
    have l1 : ("\"" : Str).length = 1 := by decide
    show ("\"" ++ (escL z.cps.toList ++ "\"") : Str).length ≤ 200
    rw [slen, slen, l1]
    have l2 : z.cps.toList.length = z.length := by simp [Str.length]
    omega
theorem cond_row (n : Int) (who w : Str) (ps : List Tr) (k : Int) : orB (andB (asB (op2 eqC (op2 ixT (.ok (.tup (.int n :: .str who :: .str w :: ps))) (Rs.ok (.int 2))) (Rs.ok (.str "say")))) (asB (op2 eqC (.ok (.int k)) (Rs.ok (.int 0))))) (andB (asB (op2 eqC (op2 ixT (.ok (.tup (.int n :: .str who :: .str w :: ps))) (Rs.ok (.int 2))) (Rs.ok (.str "mend")))) (asB (op2 eqC (.ok (.int k)) (Rs.ok (.int 1))))) = .ok (isQ w k) := by
  show orB (andB (asB (op2 eqC (ixT (.tup (.int n :: .str who :: .str w :: ps)) (.int 2)) (Rs.ok (.str "say")))) (asB (eqC (.int k) (.int 0)))) (andB (asB (op2 eqC (ixT (.tup (.int n :: .str who :: .str w :: ps)) (.int 2)) (Rs.ok (.str "mend")))) (asB (eqC (.int k) (.int 1)))) = _
  rw [ix2, eqI, eqI]
  show orB (andB (asB (eqC (.str w) (.str "say"))) (.ok (k == 0))) (andB (asB (eqC (.str w) (.str "mend"))) (.ok (k == 1))) = _
  rw [eqS, eqS]
  exact condQ _ _ _ _
theorem e_part (n : Int) (who w : Str) (ps : List Tr) (f : Str) (k : Int) (p : Tr) (x : Cell) (hf : f.length ≤ 1000) (hp : PartOk (isQ w k) p) :
    ∃ y, gP [.sh (.tup (.int n :: .str who :: .str w :: ps)), .sh (.str f), .sh (.int k), .sh p, x] = .ok (.nx [.sh (.tup (.int n :: .str who :: .str w :: ps)), .sh (.str (f ++ (" " ++ ptx (isQ w k) p))), .sh (.int k), .sh p, y]) := by
  have l1 : (" " : Str).length = 1 := by decide
  have plain : ∀ z : Str, isQ w k = false → isN p = false → strT [p] = .ok (.str z) → z.length ≤ 200 → gP [.sh (.tup (.int n :: .str who :: .str w :: ps)), .sh (.str f), .sh (.int k), .sh p, x] = .ok (.nx [.sh (.tup (.int n :: .str who :: .str w :: ps)), .sh (.str (f ++ (" " ++ z))), .sh (.int k), .sh p, x]) := by
    intro z hq hN hz hl
    show ifO (asB (isC p .non)) _ (ifO (orB (andB (asB (op2 eqC (op2 ixT (.ok (.tup (.int n :: .str who :: .str w :: ps))) (Rs.ok (.int 2))) (Rs.ok (.str "say")))) (asB (op2 eqC (.ok (.int k)) (Rs.ok (.int 0))))) (andB (asB (op2 eqC (op2 ixT (.ok (.tup (.int n :: .str who :: .str w :: ps))) (Rs.ok (.int 2))) (Rs.ok (.str "mend")))) (asB (op2 eqC (.ok (.int k)) (Rs.ok (.int 1)))))) _ (setO 1 (op2 addT (addT (.str f) (.str " ")) (strT [p])) [.sh (.tup (.int n :: .str who :: .str w :: ps)), .sh (.str f), .sh (.int k), .sh p, x])) = _
    have e0 : asB (isC p .non) = .ok false := by
      have e1 : isC p .non = .ok (.bl (isN p)) := by cases p <;> rfl
      rw [e1, hN]; rfl
    rw [cond_row, hq, hz, e0, addS (by rw [l1]; unfold txMax; omega)]
    show setO 1 (addT (.str (f ++ " ")) (.str z)) _ = _
    rw [stO (addS (by rw [slen, l1]; unfold txMax; omega)), sapp]
    rfl
  generalize hq : isQ w k = q at hp
  cases hp with
  | non q =>
    refine ⟨x, ?_⟩
    show setO 1 (addT (.str f) (.str " -")) _ = _
    rw [stO (addS (by show f.length + 2 ≤ txMax; unfold txMax; omega))]
    have e : (" -" : Str) = " " ++ ptx q .non := by show (" -" : Str) = " " ++ "-"; decide +kernel
    rw [e]
    rfl
  | int h => exact ⟨x, plain _ hq rfl (nb_str h) (Nat.le_trans (nb_len h) (by decide))⟩
  | nm h => exact ⟨x, plain _ hq rfl rfl (Nat.le_trans h (by decide))⟩
  | @wd z h =>
    have l2 : (" \"" : Str).length = 2 := by decide
    have l3 : z.cps.toList.length = z.length := by simp [Str.length]
    obtain ⟨y, e⟩ := e_signs z.cps.toList (f ++ " \"") (.sh (.tup (.int n :: .str who :: .str w :: ps))) (.sh (.int k)) (.sh (.str z)) x (by rw [slen, l2]; omega)
    refine ⟨y, ?_⟩
    show ifO (orB (andB (asB (op2 eqC (op2 ixT (.ok (.tup (.int n :: .str who :: .str w :: ps))) (Rs.ok (.int 2))) (Rs.ok (.str "say")))) (asB (op2 eqC (.ok (.int k)) (Rs.ok (.int 0))))) (andB (asB (op2 eqC (op2 ixT (.ok (.tup (.int n :: .str who :: .str w :: ps))) (Rs.ok (.int 2))) (Rs.ok (.str "mend")))) (asB (op2 eqC (.ok (.int k)) (Rs.ok (.int 1)))))) (seqO (setO 1 (addT (.str f) (.str " \"")) [.sh (.tup (.int n :: .str who :: .str w :: ps)), .sh (.str f), .sh (.int k), .sh (.str z), x]) fun ρ => seqO (loopO (gN 4) gL (seqW (getS ρ 3)) ρ) fun ρ => setO 1 (op2 addT (getS ρ 1) (Rs.ok (.str "\""))) ρ) _ = _
    rw [cond_row, hq]
    show seqO (setO 1 (addT (.str f) (.str " \"")) [.sh (.tup (.int n :: .str who :: .str w :: ps)), .sh (.str f), .sh (.int k), .sh (.str z), x]) _ = _
    refine sqS (addS (by rw [l2]; unfold txMax; omega)) ?_
    show seqO (forO (gN 4) gL (z.cps.toList.map fun c => Tr.str ⟨#[c]⟩) [.sh (.tup (.int n :: .str who :: .str w :: ps)), .sh (.str (f ++ " \"")), .sh (.int k), .sh (.str z), x]) _ = _
    rw [e]
    have l4 : ("\"" : Str).length = 1 := by decide
    have l5 := escL_len z.cps.toList
    show setO 1 (addT (.str (f ++ " \"" ++ escL z.cps.toList)) (.str "\"")) _ = _
    rw [stO (addS (by rw [slen, slen, l2, l4]; unfold txMax; omega))]
    have e6 : (" \"" : Str) = " " ++ "\"" := by decide +kernel
    have e7 : f ++ " \"" ++ escL z.cps.toList ++ "\"" = f ++ (" " ++ ("\"" ++ (escL z.cps.toList ++ "\""))) := by rw [e6]; simp only [sapp]
    rw [e7]
    rfl
def ptsS (w : Str) : Int → List Tr → Str
  | _, [] => ""
  | k, p :: ps => (" " ++ ptx (isQ w k) p) ++ ptsS w (k + 1) ps
def lineS (n : Int) (who w : Str) (ps : List Tr) : Str := (strI n ++ (" " ++ (who ++ (" " ++ w)))) ++ ptsS w 0 ps
def PartsOk (w : Str) : Int → List Tr → Prop
  | _, [] => True
  | k, p :: ps => PartOk (isQ w k) p ∧ PartsOk w (k + 1) ps
theorem e_parts (n : Int) (who w : Str) (ps0 : List Tr) : ∀ (ps : List Tr) (f : Str) (k : Nat) (a b c : Cell), f.length + 201 * ps.length ≤ 1000 → PartsOk w k ps → ∃ a' b' c', forO (gT [2, 3]) gP (enL k ps) [.sh (.tup (.int n :: .str who :: .str w :: ps0)), .sh (.str f), a, b, c] = .ok (.nx [.sh (.tup (.int n :: .str who :: .str w :: ps0)), .sh (.str (f ++ ptsS w k ps)), a', b', c'])
  | [], f, k, a, b, c, _, _ => ⟨a, b, c, by rw [ptsS, sapp0]; rfl⟩
  | p :: ps, f, k, a, b, c, hl, ⟨h1, h2⟩ => by
    rw [List.length_cons] at hl
    obtain ⟨y, e⟩ := e_part n who w ps0 f k p c (by omega) h1
    have hp := ptx_len h1
    have l1 : (" " : Str).length = 1 := by decide
    obtain ⟨a', b', c', e2⟩ := e_parts n who w ps0 ps (f ++ (" " ++ ptx (isQ w k) p)) (k + 1) (.sh (.int k)) (.sh p) y (by rw [slen, slen, l1]; omega) h2
    refine ⟨a', b', c', ?_⟩
    rw [enL, ptsS, ← sapp]
    exact for1 rfl e e2
theorem e_line {n : Int} {who w : Str} {ps : List Tr} (hn : NB n) (hw : who.length ≤ 6) (hw2 : w.length ≤ 6) (hl : ps.length ≤ 2) (h : PartsOk w 0 ps) : m_w_line [.tup (.int n :: .str who :: .str w :: ps)] = .ok (.str (lineS n who w ps)) := by
  have l1 : (" " : Str).length = 1 := by decide
  have ln := nb_len hn
  have key : m_w_line [.tup (.int n :: .str who :: .str w :: ps)] = bodyR (g_w_line [.sh (.tup (.int n :: .str who :: .str w :: ps)), .no, .no, .no, .no]) := mirE rfl
  rw [key]
  show bodyR (seqO (setO 1 (op2 addT (op2 addT (op2 addT (op2 addT (callR strT (consR (ixT (.tup (.int n :: .str who :: .str w :: ps)) (.int 0)) (.ok []))) (Rs.ok (.str " "))) (ixT (.tup (.int n :: .str who :: .str w :: ps)) (.int 1))) (Rs.ok (.str " "))) (ixT (.tup (.int n :: .str who :: .str w :: ps)) (.int 2))) [.sh (.tup (.int n :: .str who :: .str w :: ps)), .no, .no, .no, .no]) fun ρ => seqO (loopO (gT [2, 3]) gP (enW (consR (slR (getS ρ 0) (asI (Rs.ok (.int 3))) (.ok none)) (.ok []))) ρ) fun ρ => retO (getS ρ 1)) = _
  rw [ix0, ix1, ix2]
  show bodyR (seqO (setO 1 (op2 addT (op2 addT (op2 addT (op2 addT (strT [.int n]) (Rs.ok (.str " "))) (.ok (.str who))) (Rs.ok (.str " "))) (.ok (.str w))) _) _) = _
  rw [nb_str hn]
  show bodyR (seqO (setO 1 (op2 addT (op2 addT (op2 addT (addT (.str (strI n)) (.str " ")) (.ok (.str who))) (Rs.ok (.str " "))) (.ok (.str w))) _) _) = _
  rw [addS (by rw [l1]; unfold txMax; omega)]
  show bodyR (seqO (setO 1 (op2 addT (op2 addT (addT (.str (strI n ++ " ")) (.str who)) (Rs.ok (.str " "))) (.ok (.str w))) _) _) = _
  rw [addS (by rw [slen, l1]; unfold txMax; omega)]
  show bodyR (seqO (setO 1 (op2 addT (addT (.str (strI n ++ " " ++ who)) (.str " ")) (.ok (.str w))) _) _) = _
  rw [addS (by rw [slen, slen, l1]; unfold txMax; omega)]
  show bodyR (seqO (setO 1 (addT (.str (strI n ++ " " ++ who ++ " ")) (.str w)) _) _) = _
  rw [addS (by rw [slen, slen, slen, l1]; unfold txMax; omega)]
  have e0 : strI n ++ " " ++ who ++ " " ++ w = strI n ++ (" " ++ (who ++ (" " ++ w))) := by rw [sapp, sapp, sapp]
  rw [e0]
  have esl : slR (.ok (.tup (.int n :: .str who :: .str w :: ps))) (asI (Rs.ok (.int 3))) (.ok none) = .ok (.tup ps) := by
    match ps, hl with
    | [], _ => rfl
    | [_], _ => rfl
    | [_, _], _ => rfl
  obtain ⟨a', b', c', e⟩ := e_parts n who w ps ps (strI n ++ (" " ++ (who ++ (" " ++ w)))) 0 .no .no .no (by rw [slen, slen, slen, slen, l1]; omega) h
  show bodyR (seqO (loopO (gT [2, 3]) gP (enW (consR (slR (.ok (.tup (.int n :: .str who :: .str w :: ps))) (asI (Rs.ok (.int 3))) (.ok none)) (.ok []))) [.sh (.tup (.int n :: .str who :: .str w :: ps)), .sh (.str (strI n ++ (" " ++ (who ++ (" " ++ w))))), .no, .no, .no]) _) = _
  rw [esl]
  show bodyR (seqO (forO (gT [2, 3]) gP (enL 0 ps) [.sh (.tup (.int n :: .str who :: .str w :: ps)), .sh (.str (strI n ++ (" " ++ (who ++ (" " ++ w))))), .no, .no, .no]) _) = _
  rw [e]
  rfl
end M38
namespace M38
open PySem L2
def subL (c : Nat) (z : List Nat) : List Nat → List Nat
  | [] => []
  | d :: r => (if d = c then z else [d]) ++ subL c z r
theorem subL_app (c : Nat) (z : List Nat) : ∀ a b : List Nat, subL c z (a ++ b) = subL c z a ++ subL c z b
  | [], _ => rfl
  | d :: r, b => by show (if d = c then z else [d]) ++ subL c z (r ++ b) = ((if d = c then z else [d]) ++ subL c z r) ++ subL c z b; rw [subL_app c z r b, List.append_assoc]
theorem subL_free (c : Nat) (z : List Nat) : ∀ l : List Nat, c ∉ l → subL c z l = l
  | [], _ => rfl
  | d :: r, h => by
    show (if d = c then z else [d]) ++ subL c z r = _
    rw [if_neg (fun e => h (by rw [e]; exact List.mem_cons_self ..)), subL_free c z r fun m => h (List.mem_cons_of_mem _ m)]
    rfl
theorem subL_join (c : Nat) (z : Str) : ∀ ps : List Str, (∀ p ∈ ps, c ∉ p.cps.toList) → subL c z.cps.toList (Str.join ⟨#[c]⟩ ps).cps.toList = (Str.join z ps).cps.toList
  | [], _ => rfl
  | [p], h => subL_free c _ _ (h p (List.mem_singleton.mpr rfl))
  | p :: q :: r, h => by
    have ih := subL_join c z (q :: r) fun a ha => h a (List.mem_cons_of_mem _ ha)
    show subL c z.cps.toList (p ++ ⟨#[c]⟩ ++ Str.join ⟨#[c]⟩ (q :: r)).cps.toList = (p ++ z ++ Str.join z (q :: r)).cps.toList
    simp only [Str.cps_append, Array.toList_append]
    rw [subL_app, subL_app, ih, subL_free c _ _ (h p (List.mem_cons_self ..))]
    show p.cps.toList ++ ((if c = c then z.cps.toList else [c]) ++ []) ++ _ = _
    rw [if_pos rfl, List.append_nil]
theorem repl_sub (x z : Str) (c : Nat) : (Txt.replace x ⟨#[c]⟩ z).cps.toList = subL c z.cps.toList x.cps.toList := by
  rw [StrLaws.replace_one, ← subL_join c z _ (StrLaws.split_free x c), StrLaws.join_split]
theorem esc_two : ∀ cs : List Nat, subL 34 [92, 34] (subL 92 [92, 92] cs) = (escL cs).cps.toList
  | [] => rfl
  | c :: cs => by
    show subL 34 [92, 34] ((if c = 92 then [92, 92] else [c]) ++ subL 92 [92, 92] cs) = (escC c ++ escL cs).cps.toList
    rw [subL_app, esc_two cs, Str.cps_append, Array.toList_append]
    congr 1
    unfold escC
    by_cases h1 : c = 92
    · subst h1; rfl
    · by_cases h2 : c = 34
      · subst h2; rfl
      · rw [if_neg h1, beq_false_of_ne h1, beq_false_of_ne h2]
        show (if c = 34 then [92, 34] else [c]) ++ [] = _
        rw [if_neg h2]
        rfl
theorem s92 : ("\\" : Str) = ⟨#[92]⟩ := by decide +kernel
theorem s34 : ("\"" : Str) = ⟨#[34]⟩ := by decide +kernel
theorem s9292 : ("\\\\" : Str) = ⟨#[92, 92]⟩ := by decide +kernel
theorem s9234 : ("\\\"" : Str) = ⟨#[92, 34]⟩ := by decide +kernel
theorem repl_esc (z : Str) : Txt.replace (Txt.replace z "\\" "\\\\") "\"" "\\\"" = escL z.cps.toList := by
  refine strEq ?_
  rw [s34, s9234, s92, s9292, repl_sub, repl_sub]
  exact esc_two _
theorem subL_len (c : Nat) (z : List Nat) (h : z.length = 2) : ∀ l : List Nat, (subL c z l).length ≤ 2 * l.length
  | [] => Nat.le_refl _
  | d :: r => by
    have ih := subL_len c z h r
    show ((if d = c then z else [d]) ++ subL c z r).length ≤ _
    rw [List.length_append, List.length_cons]
    split
    · omega
    · simp only [List.length_singleton]; omega
theorem repl_len (z : Str) : (Txt.replace z "\\" "\\\\").length ≤ 2 * z.length := by
  have h := subL_len 92 [92, 92] rfl z.cps.toList
  rw [s92, s9292]
  have e := repl_sub z ⟨#[92, 92]⟩ 92
  have l1 : (Txt.replace z ⟨#[92]⟩ ⟨#[92, 92]⟩).length = (Txt.replace z ⟨#[92]⟩ ⟨#[92, 92]⟩).cps.toList.length := by simp [Str.length]
  have l2 : z.length = z.cps.toList.length := by simp [Str.length]
  rw [l1, e, l2]
  exact h
theorem e_quo {z : Str} (h : z.length ≤ 60) : m_quoted [.str z] = .ok (.str ("\"" ++ (escL z.cps.toList ++ "\""))) := by
  have l1 : ("\"" : Str).length = 1 := by decide
  have l3 : z.cps.toList.length = z.length := by simp [Str.length]
  have l5 := escL_len z.cps.toList
  have key : m_quoted [.str z] = bodyR (g_quoted [.sh (.str z)]) := mirE rfl
  rw [key]
  show bodyR (retO (op2 addT (op2 addT (Rs.ok (.str "\"")) (replR "\"" "\\\"" (replR "\\" "\\\\" (.ok (.str z))))) (Rs.ok (.str "\"")))) = _
  have e1 : replR "\\" "\\\\" (.ok (.str z)) = .ok (.str (Txt.replace z "\\" "\\\\")) := if_pos ⟨by decide, by decide, by omega, by have := repl_len z; unfold txMax; omega⟩
  have e2 : replR "\"" "\\\"" (.ok (.str (Txt.replace z "\\" "\\\\"))) = .ok (.str (escL z.cps.toList)) := by
    rw [← repl_esc z]
    exact if_pos ⟨by decide, by decide, by have := repl_len z; omega, by rw [repl_esc]; unfold txMax; omega⟩
  rw [e1, e2]
  show bodyR (retO (op2 addT (addT (.str "\"") (.str (escL z.cps.toList))) (Rs.ok (.str "\"")))) = _
  rw [addS (by rw [l1]; unfold txMax; omega)]
  show bodyR (retO (addT (.str ("\"" ++ escL z.cps.toList)) (.str "\""))) = _
  rw [addS (by rw [slen, l1]; unfold txMax; omega), sapp]
  rfl
theorem e_digI {n : Int} (h : NB n) : m_digits_of [.int n] = .ok (.str (strI n)) := by
  obtain ⟨m, rfl, h1, h2⟩ := h
  rw [strI_dg]
  exact e_dig h2
theorem e_txB {n : Int} (h : NB n) : m_text_of [.int n] = .ok (.str (strI n)) := by
  have key : m_text_of [.int n] = bodyR (retO (m_digits_of [.int n])) := rfl
  rw [key, e_digI h]
  rfl
theorem e_txS (z : Str) : m_text_of [.str z] = .ok (.str z) := rfl
theorem e_txN : m_text_of [.non] = .ok (.str "-") := rfl
def ptsL (w : Str) : Int → List Tr → List Str
  | _, [] => []
  | k, p :: ps => ptx (isQ w k) p :: ptsL w (k + 1) ps
theorem e_tx {p : Tr} (h : PartOk false p) : m_text_of [p] = .ok (.str (ptx false p)) := by
  cases h with
  | non q => exact e_txN
  | int h => exact e_txB h
  | nm h => exact e_txS _
def wN (w : Str) : Bool := !(w == "say") && !(w == "mend")
theorem isQ_no {w : Str} (h : wN w = true) (k : Int) : isQ w k = false := by
  unfold wN at h
  unfold isQ
  cases e1 : (w == "say") with
  | true => rw [e1] at h; cases h
  | false =>
    cases e2 : (w == "mend") with
    | true => rw [e1, e2] at h; cases h
    | false => rfl
def gT0 : Rho → Rs Tr := fun ρ => callR m_text_of (consR (getS ρ 0) (.ok []))
theorem lc_one {p : Tr} {ts : List Tr} {zs : List Str} {x : Cell} (h : PartOk false p) (q : lcL (gN 0) (fun _ => .ok true) gT0 ts [.sh p] = .ok (zs.map .str)) : lcL (gN 0) (fun _ => .ok true) gT0 (p :: ts) [x] = .ok ((ptx false p :: zs).map .str) := by
  show (pur (m_text_of [p])).bind (fun y => (lcL (gN 0) (fun _ => .ok true) gT0 ts [.sh p]).bind fun ys => .ok (y :: ys)) = _
  rw [e_tx h, q]
  rfl
theorem tx_plain {w : Str} {ps : List Tr} (hw : wN w = true) (hl : ps.length ≤ 2) (h : PartsOk w 0 ps) : m_texts_of [.str w, .tup ps] = .ok (.lst ((ptsL w 0 ps).map .str)) := by
  have key : m_texts_of [.str w, .tup ps] = bodyR (g_texts_of [.sh (.str w), .sh (.tup ps)]) := mirE rfl
  rw [key]
  have e1 : (w == "say") = false := by cases e : (w == "say") with
    | false => rfl
    | true => unfold wN at hw; rw [e] at hw; cases hw
  have e2 : (w == "mend") = false := by cases e : (w == "mend") with
    | false => rfl
    | true => unfold wN at hw; rw [e1, e] at hw; cases hw
  show bodyR (seqO (ifO (asB (eqC (.str w) (.str "say"))) _ (.ok (.nx [.sh (.str w), .sh (.tup ps)]))) _) = _
  rw [eqS, e1]
  show bodyR (seqO (ifO (asB (eqC (.str w) (.str "mend"))) _ (.ok (.nx [.sh (.str w), .sh (.tup ps)]))) _) = _
  rw [eqS, e2]
  show bodyR (retO (lcR [none] (gN 0) (fun _ => .ok true) gT0 (.ok ps) [.sh (.str w), .sh (.tup ps)])) = _
  have e : lcL (gN 0) (fun _ => .ok true) gT0 ps [.no] = .ok ((ptsL w 0 ps).map .str) := by
    match ps, hl, h with
    | [], _, _ => rfl
    | [a], _, ⟨h1, _⟩ =>
      rw [isQ_no hw] at h1
      unfold ptsL
      rw [isQ_no hw]
      exact lc_one h1 rfl
    | [a, b], _, ⟨h1, h2, _⟩ =>
      rw [isQ_no hw] at h1 h2
      unfold ptsL ptsL
      rw [isQ_no hw, isQ_no hw]
      exact lc_one h1 (lc_one h2 rfl)
  have e3 : lcR [none] (gN 0) (fun _ => .ok true) gT0 (.ok ps) [.sh (.str w), .sh (.tup ps)] = .ok (.lst ((ptsL w 0 ps).map .str)) := by
    show (if ps.length ≤ szT then (lcL (gN 0) (fun _ => .ok true) gT0 ps [.no]).bind fun ys => Rs.ok (Tr.lst ys) else Rs.bad) = _
    rw [if_pos (Nat.le_trans hl (by decide)), e]
    rfl
  rw [e3]
  rfl
theorem tx_say {z : Str} {a : Tr} (h : z.length ≤ 60) (ha : PartOk false a) : m_texts_of [.str "say", .tup [.str z, a]] = .ok (.lst ((ptsL "say" 0 [.str z, a]).map .str)) := by
  have key : m_texts_of [.str "say", .tup [.str z, a]] = bodyR (seqO (ifO (asB (eqC (.str "say") (.str "say"))) (retO (lstR (consR (m_quoted [.str z]) (consR (m_text_of [a]) (.ok []))))) (.ok (.nx [.sh (.str "say"), .sh (.tup [.str z, a])]))) fun ρ => seqO (ifO (asB (op2 eqC (getS ρ 0) (Rs.ok (.str "mend")))) (retO (lstR (consR (callR m_text_of (consR (op2 ixT (getS ρ 1) (Rs.ok (.int 0))) (.ok []))) (consR (callR m_quoted (consR (op2 ixT (getS ρ 1) (Rs.ok (.int 1))) (.ok []))) (.ok []))))) (.ok (.nx ρ))) fun ρ => retO (lcR [none] (gN 0) (fun _ => .ok true) (fun ρ => (callR m_text_of (consR (getS ρ 0) (.ok [])))) (seqW (getS ρ 1)) ρ)) := mirE rfl
  rw [key, eqS, beq_self_eq_true]
  rw [ e_quo h, e_tx ha]
  rfl
theorem tx_mend {z : Str} {n : Int} (h : z.length ≤ 60) (hn : NB n) : m_texts_of [.str "mend", .tup [.int n, .str z]] = .ok (.lst ((ptsL "mend" 0 [.int n, .str z]).map .str)) := by
  have key : m_texts_of [.str "mend", .tup [.int n, .str z]] = bodyR (seqO (ifO (asB (eqC (.str "mend") (.str "say"))) (retO (lstR (consR (m_quoted [.int n]) (consR (m_text_of [.str z]) (.ok []))))) (.ok (.nx [.sh (.str "mend"), .sh (.tup [.int n, .str z])]))) fun ρ => seqO (ifO (asB (op2 eqC (getS ρ 0) (Rs.ok (.str "mend")))) (retO (lstR (consR (callR m_text_of (consR (op2 ixT (getS ρ 1) (Rs.ok (.int 0))) (.ok []))) (consR (callR m_quoted (consR (op2 ixT (getS ρ 1) (Rs.ok (.int 1))) (.ok []))) (.ok []))))) (.ok (.nx ρ))) fun ρ => retO (lcR [none] (gN 0) (fun _ => .ok true) (fun ρ => (callR m_text_of (consR (getS ρ 0) (.ok [])))) (seqW (getS ρ 1)) ρ)) := mirE rfl
  rw [key, eqS, show (("mend" : Str) == "say") = false by decide]
  show bodyR (seqO (ifO (asB (eqC (.str "mend") (.str "mend"))) (retO (lstR (consR (m_text_of [.int n]) (consR (m_quoted [.str z]) (.ok []))))) _) _) = _
  rw [eqS, beq_self_eq_true]
  rw [ e_quo h, e_txB hn]
  rfl
inductive RP : Str → List Tr → Prop where
  | bare {w : Str} (h : w ∈ M38.bare) : RP w []
  | nm1 {w x : Str} (h : wN w = true) (h6 : w.length ≤ 6) (hx : x.length ≤ 10) : RP w [.str x]
  | nm2 {w x y : Str} (h : wN w = true) (h6 : w.length ≤ 6) (hx : x.length ≤ 10) (hy : y.length ≤ 10) : RP w [.str x, .str y]
  | say {z : Str} {a : Tr} (h2 : z.length ≤ 60) (ha : a = .non ∨ ∃ n, a = .int n ∧ NB n) : RP "say" [.str z, a]
  | mend {n : Int} {z : Str} (hn : NB n) (h2 : z.length ≤ 60) : RP "mend" [.int n, .str z]
  | gone {n : Int} (hn : NB n) : RP "gone" [.int n]
theorem rp_ok {w : Str} {ps : List Tr} (h : RP w ps) : w.length ≤ 6 ∧ ps.length ≤ 2 ∧ PartsOk w 0 ps := by
  cases h with
  | bare h =>
    have q : ∀ z ∈ M38.bare, z.length ≤ 6 := by decide +kernel
    exact ⟨q _ h, by decide, trivial⟩
  | nm1 h h6 hx =>
    refine ⟨h6, by show 1 ≤ 2; decide, ?_, trivial⟩
    rw [isQ_no h]
    exact .nm hx
  | nm2 h h6 hx hy =>
    refine ⟨h6, by show 2 ≤ 2; decide, ?_, ?_, trivial⟩ <;> rw [isQ_no h]
    · exact .nm hx
    · exact .nm hy
  | say h2 ha =>
    refine ⟨by decide, by show 2 ≤ 2; decide, PartOk.wd h2, ?_, trivial⟩
    rcases ha with rfl | ⟨k, rfl, hk⟩
    · exact .non _
    · exact PartOk.int hk
  | mend hn h2 => exact ⟨by decide, by show 2 ≤ 2; decide, PartOk.int hn, PartOk.wd h2, trivial⟩
  | gone hn => exact ⟨by decide, by show 1 ≤ 2; decide, PartOk.int hn, trivial⟩
theorem tx_all {w : Str} {ps : List Tr} (h : RP w ps) : m_texts_of [.str w, .tup ps] = .ok (.lst ((ptsL w 0 ps).map .str)) := by
  obtain ⟨_, h2, hp⟩ := rp_ok h
  cases h with
  | bare h =>
    have q : ∀ z ∈ M38.bare, wN z = true := by decide +kernel
    exact tx_plain (q _ h) h2 hp
  | nm1 h h6 hx => exact tx_plain h h2 hp
  | nm2 h h6 hx hy => exact tx_plain h h2 hp
  | say h5 ha =>
    refine tx_say h5 ?_
    rcases ha with rfl | ⟨k, rfl, hk⟩
    · exact .non _
    · exact .int hk
  | mend hn h5 => exact tx_mend h5 hn
  | gone hn => exact tx_plain (by decide) h2 hp
theorem join_ptsL (w : Str) : ∀ (ps : List Tr) (k : Int) (x : Str), Str.join " " (x :: ptsL w k ps) = x ++ ptsS w k ps
  | [], k, x => by rw [ptsL, ptsS, sapp0]; rfl
  | p :: ps, k, x => by
    rw [ptsL, ptsS, PyProof.Rows.join_cons_cons, join_ptsL w ps (k + 1), sapp, sapp]
theorem strsL_map : ∀ zs : List Str, strsL (zs.map .str) = .ok zs
  | [] => rfl
  | z :: zs => by rw [List.map_cons, strsL, strsL_map zs]; rfl
theorem ptsL_len (w : Str) : ∀ (ps : List Tr) (k : Int), (ptsL w k ps).length = ps.length
  | [], _ => rfl
  | p :: ps, k => by rw [ptsL, List.length_cons, List.length_cons, ptsL_len w ps]
theorem ptsL_sum (w : Str) : ∀ (ps : List Tr) (k : Int), PartsOk w k ps → ((ptsL w k ps).map (·.length)).sum ≤ 200 * ps.length
  | [], _, _ => Nat.le_refl _
  | p :: ps, k, ⟨h1, h2⟩ => by
    have q1 := ptx_len h1
    have q2 := ptsL_sum w ps (k + 1) h2
    rw [ptsL, List.map_cons, List.sum_cons, List.length_cons]
    omega
theorem ptsS_len (w : Str) : ∀ (ps : List Tr) (k : Int), PartsOk w k ps → (ptsS w k ps).length ≤ 201 * ps.length
  | [], _, _ => by rw [ptsS]; decide
  | p :: ps, k, ⟨h1, h2⟩ => by
    have q1 := ptx_len h1
    have q2 := ptsS_len w ps (k + 1) h2
    have l1 : (" " : Str).length = 1 := by decide
    rw [ptsS, slen, slen, l1, List.length_cons]
    omega
theorem e_lineof {n : Int} {who w : Str} {ps : List Tr} (hn : NB n) (hw : who.length ≤ 6) (hg : RP w ps) : m_line_of [.tup (.int n :: .str who :: .str w :: ps)] = .ok (.str (lineS n who w ps)) := by
  have htx := tx_all hg
  obtain ⟨hw2, h2, hp⟩ := rp_ok hg
  have key : m_line_of [.tup (.int n :: .str who :: .str w :: ps)] = bodyR (g_line_of [.sh (.tup (.int n :: .str who :: .str w :: ps))]) := mirE rfl
  rw [key]
  have esl : slR (.ok (.tup (.int n :: .str who :: .str w :: ps))) (asI (Rs.ok (.int 3))) (.ok none) = .ok (.tup ps) := by
    match ps, h2 with
    | [], _ => rfl
    | [_], _ => rfl
    | [_, _], _ => rfl
  show bodyR (retO (mS joinM (Rs.ok (.str " ")) (consR (op2 addT (lstR (consR (callR m_text_of (consR (ixT (.tup (.int n :: .str who :: .str w :: ps)) (.int 0)) (.ok []))) (consR (ixT (.tup (.int n :: .str who :: .str w :: ps)) (.int 1)) (consR (ixT (.tup (.int n :: .str who :: .str w :: ps)) (.int 2)) (.ok []))))) (callR m_texts_of (consR (ixT (.tup (.int n :: .str who :: .str w :: ps)) (.int 2)) (consR (slR (.ok (.tup (.int n :: .str who :: .str w :: ps))) (asI (Rs.ok (.int 3))) (.ok none)) (.ok []))))) (.ok [])))) = _
  rw [ix0, ix1, ix2, esl]
  show bodyR (retO (mS joinM (Rs.ok (.str " ")) (consR (op2 addT (lstR (consR (m_text_of [.int n]) (.ok [.str who, .str w]))) (m_texts_of [.str w, .tup ps])) (.ok [])))) = _
  rw [e_txB hn, htx]
  show bodyR (retO (mS joinM (Rs.ok (.str " ")) (consR (addT (.lst [.str (strI n), .str who, .str w]) (.lst ((ptsL w 0 ps).map .str))) (.ok [])))) = _
  have ea : addT (.lst [.str (strI n), .str who, .str w]) (.lst ((ptsL w 0 ps).map .str)) = .ok (.lst ((strI n :: who :: w :: ptsL w 0 ps).map .str)) := if_pos (by
    rw [List.length_map, ptsL_len]
    show 3 + ps.length ≤ szT
    exact Nat.le_trans (Nat.add_le_add_left h2 3) (by decide))
  rw [ea]
  have l1 : (" " : Str).length = 1 := by decide
  have ln := nb_len hn
  have q1 := ptsL_sum w ps 0 hp
  have q2 := ptsS_len w ps 0 hp
  have ej : Txt.join " " (strI n :: who :: w :: ptsL w 0 ps) = lineS n who w ps := by
    show Builtin.Str.glued " " _ = _
    rw [StrLaws.glued_eq_join, PyProof.Rows.join_cons_cons, PyProof.Rows.join_cons_cons, join_ptsL]
    unfold lineS
    simp only [sapp]
  have hj : JoinOk " " (strI n :: who :: w :: ptsL w 0 ps) = true := PyProof.Rows.joinOk_of (by
    simp only [List.map_cons, List.sum_cons, List.length_cons, ptsL_len, l1]
    omega)
  have em : joinM " " [.lst ((strI n :: who :: w :: ptsL w 0 ps).map .str)] = .ok (.str (lineS n who w ps)) := by
    show (strsL ((strI n :: who :: w :: ptsL w 0 ps).map .str)).bind (fun zs => if JoinOk " " zs = true ∧ (Txt.join " " zs).length ≤ txMax then Rs.ok (Tr.str (Txt.join " " zs)) else Rs.bad) = _
    rw [strsL_map]
    show (if JoinOk " " (strI n :: who :: w :: ptsL w 0 ps) = true ∧ (Txt.join " " (strI n :: who :: w :: ptsL w 0 ps)).length ≤ txMax then Rs.ok (Tr.str (Txt.join " " (strI n :: who :: w :: ptsL w 0 ps))) else .bad) = _
    rw [ej, if_pos ⟨hj, by unfold lineS; rw [slen, slen, slen, slen, slen, l1]; unfold txMax; omega⟩]
  show bodyR (retO (joinM " " [.lst ((strI n :: who :: w :: ptsL w 0 ps).map .str)])) = _
  rw [em]
  rfl
end M38
namespace M38
open PySem L2
def isD (c : Nat) : Bool := decide (48 ≤ c) && decide (c ≤ 57)
def digB (z : Str) : Bool := !(z == "") && z.cps.toList.all isD
def oneD : Rho → Rs Tr := fun ρ => chnR leC leC (Rs.ok (.str "0")) (getS ρ 0) (Rs.ok (.str "9"))
theorem lex1 (a b : Nat) : decide ([a] < [b]) = decide (a < b) := by
  by_cases h : a < b
  · rw [decide_eq_true h, decide_eq_true (show [a] < [b] from List.Lex.rel h)]
  · rw [decide_eq_false h, decide_eq_false]
    intro q
    cases q with
    | rel z => exact h z
    | cons z => cases z
theorem e_oneD (c : Nat) (R : Rho) : oneD (.sh (.str ⟨#[c]⟩) :: R) = .ok (.bl (isD c)) := by
  show ((Rs.ok (!(decide ([c] < ("0" : Str).cps.toList))) : Rs Bool).bind fun k => if k then (Rs.ok (Tr.bl (!(decide (("9" : Str).cps.toList < [c])))) : Rs Tr) else .ok (.bl false)) = _
  have e0 : ("0" : Str).cps.toList = [48] := by decide
  have e9 : ("9" : Str).cps.toList = [57] := by decide
  rw [e0, e9, lex1, lex1]
  unfold isD
  by_cases h : c < 48
  · rw [decide_eq_true h, decide_eq_false (by omega : ¬ 48 ≤ c)]; rfl
  · rw [decide_eq_false h, decide_eq_true (by omega : 48 ≤ c)]
    by_cases h2 : 57 < c
    · rw [decide_eq_true h2, decide_eq_false (by omega : ¬ c ≤ 57)]; rfl
    · rw [decide_eq_false h2, decide_eq_true (by omega : c ≤ 57)]; rfl
theorem lc_dig : ∀ (cs : List Nat) (c : Cell), lcL (gN 0) (fun _ => .ok true) oneD (cs.map fun c => Tr.str ⟨#[c]⟩) [c] = .ok ((cs.map isD).map .bl)
  | [], _ => rfl
  | d :: cs, c => by
    rw [List.map_cons, List.map_cons, List.map_cons]
    show (pur (oneD [.sh (.str ⟨#[d]⟩)])).bind (fun y => (lcL (gN 0) (fun _ => .ok true) oneD (cs.map fun c => Tr.str ⟨#[c]⟩) [.sh (.str ⟨#[d]⟩)]).bind fun ys => .ok (y :: ys)) = _
    rw [e_oneD, lc_dig cs]
    rfl
theorem bls_bl : ∀ bs : List Bool, blsL (bs.map .bl) = .ok bs
  | [] => rfl
  | b :: bs => by rw [List.map_cons, blsL, bls_bl bs]; rfl
theorem e_areD (z : Str) (h : z.length ≤ 5000) : m_are_digits [.str z] = .ok (.bl (digB z)) := by
  have key : m_are_digits [.str z] = bodyR (retO (andV (neC (.str z) (.str "")) (callR allT (consR (lcR [none] (gN 0) (fun _ => .ok true) oneD (.ok (sgnT z)) [.sh (.str z)]) (.ok []))))) := mirE rfl
  have e1 : lcR [none] (gN 0) (fun _ => .ok true) oneD (.ok (sgnT z)) [.sh (.str z)] = .ok (.lst ((z.cps.toList.map isD).map .bl)) := by
    show (if (sgnT z).length ≤ szT then (lcL (gN 0) (fun _ => .ok true) oneD (z.cps.toList.map fun c => Tr.str ⟨#[c]⟩) [.no]).bind fun ys => Rs.ok (Tr.lst ys) else Rs.bad) = _
    rw [if_pos (by rw [sgn_len]; exact Nat.le_trans h (by decide)), lc_dig]
    rfl
  have e2 : allT [.lst ((z.cps.toList.map isD).map .bl)] = .ok (.bl (z.cps.toList.all isD)) := by
    show (blsL ((z.cps.toList.map isD).map .bl)).bind (fun bs => Rs.ok (Tr.bl (bs.all id))) = _
    rw [bls_bl]
    show Rs.ok (Tr.bl ((z.cps.toList.map isD).all id)) = _
    rw [List.all_map]
    rfl
  have e3 : neC (.str z) (.str "") = .ok (.bl (!(z == ""))) := if_pos ⟨rfl, rfl, by show 0 ≤ 40; decide⟩
  rw [key, e1, e3]
  show bodyR (retO (andV (.ok (.bl (!(z == "")))) (allT [.lst ((z.cps.toList.map isD).map .bl)]))) = _
  rw [e2]
  unfold digB
  cases (z == "") <;> rfl
def isI (r : Rs Tr) (n : Int) : Bool := match r with
  | .ok (.int i) => i == n
  | _ => false
theorem isI_ok {r : Rs Tr} {n : Int} (h : isI r n = true) : r = .ok (.int n) := by
  unfold isI at h
  split at h
  · rw [eq_of_beq h]
  · cases h
theorem int_dig {c : Nat} (h : isD c = true) : intST [.str ⟨#[c]⟩] = .ok (.int ((c - 48 : Nat) : Int)) := by
  have q : (List.range 58).all (fun c => !(isD c) || isI (intST [.str ⟨#[c]⟩]) ((c - 48 : Nat) : Int)) = true := by decide +kernel
  unfold isD at h
  rw [Bool.and_eq_true] at h
  have h1 := of_decide_eq_true h.1
  have h2 := of_decide_eq_true h.2
  have z := List.all_eq_true.mp q c (List.mem_range.mpr (by omega))
  have e : isD c = true := by unfold isD; rw [h.1, h.2]; rfl
  rw [e] at z
  exact isI_ok z
def gNum : Rho → Rs Out := fun ρ => setO 1 (op2 addT (op2 mulT (getS ρ 1) (Rs.ok (.int 10))) (callR intST (consR (getS ρ 2) (.ok [])))) ρ
theorem gn_step (t y x : Cell) (i j : Int) : setO 1 (op2 addT (.ok (.int i)) (.ok (.int j))) [t, y, x] = .ok (.nx [t, .sh (.int (i + j)), x]) := rfl
theorem gn_at (t : Cell) (i : Int) (s : Str) : gNum [t, .sh (.int i), .sh (.str s)] = setO 1 (op2 addT (mulT (.int i) (.int 10)) (intST [.str s])) [t, .sh (.int i), .sh (.str s)] := rfl
theorem num_loop (t : Cell) : ∀ (cs : List Nat) (a : Nat) (x : Cell), (∀ c ∈ cs, isD c = true) → ∃ y, forO (gN 2) gNum (cs.map fun c => Tr.str ⟨#[c]⟩) [t, .sh (.int (a : Int)), x] = .ok (.nx [t, .sh (.int ((cs.foldl (fun a c => a * 10 + (c - 48)) a : Nat) : Int)), y])
  | [], a, x, _ => ⟨x, rfl⟩
  | c :: cs, a, x, h => by
    obtain ⟨y, e⟩ := num_loop t cs (a * 10 + (c - 48)) (.sh (.str ⟨#[c]⟩)) fun d m => h d (List.mem_cons_of_mem _ m)
    refine ⟨y, ?_⟩
    rw [List.map_cons]
    refine for1 (ρ0 := [t, .sh (.int (a : Int)), .sh (.str ⟨#[c]⟩)]) (ρ1 := [t, .sh (.int ((a * 10 + (c - 48) : Nat) : Int)), .sh (.str ⟨#[c]⟩)]) rfl ?_ e
    rw [gn_at]
    rw [mul_ok (.inr ⟨by decide, by decide⟩), int_dig (h c (List.mem_cons_self ..))]
    rw [gn_step]
    rw [show ((a * 10 + (c - 48) : Nat) : Int) = (a : Int) * 10 + ((c - 48 : Nat) : Int) by omega]
def valD (z : Str) : Nat := z.cps.toList.foldl (fun a c => a * 10 + (c - 48)) 0
theorem e_numin (z : Str) (h : digB z = true) : m_number_in [.str z] = .ok (.int (valD z : Int)) := by
  unfold digB at h
  rw [Bool.and_eq_true] at h
  obtain ⟨y, e⟩ := num_loop (.sh (.str z)) z.cps.toList 0 .no fun c m => List.all_eq_true.mp h.2 c m
  have key : m_number_in [.str z] = bodyR (seqO (forO (gN 2) gNum (z.cps.toList.map fun c => Tr.str ⟨#[c]⟩) [.sh (.str z), .sh (.int ((0 : Nat) : Int)), .no]) fun ρ => retO (getS ρ 1)) := mirE rfl
  rw [key, e]
  rfl
def partT (z : Str) : Tr := if (z == "-") = true then .non else if digB z = true then .int (valD z : Int) else .str z
theorem e_partin (z : Str) (h : z.length ≤ 5000) : m_part_in [.str z] = .ok (partT z) := by
  have key : m_part_in [.str z] = bodyR (seqO (ifO (asB (eqC (.str z) (.str "-"))) (retO (Rs.ok .non)) (.ok (.nx [.sh (.str z)]))) fun ρ => retO (iteR ((callR m_are_digits (consR (getS ρ 0) (.ok []))).bind truT) (callR m_number_in (consR (getS ρ 0) (.ok []))) (getS ρ 0))) := mirE rfl
  rw [key, eqS]
  unfold partT
  cases e : (z == "-") with
  | true => rfl
  | false =>
    show bodyR (retO (iteR ((m_are_digits [.str z]).bind truT) (m_number_in [.str z]) (.ok (.str z)))) = _
    rw [e_areD z h, if_neg Bool.false_ne_true]
    cases e2 : digB z with
    | true => rw [e_numin z e2]; rfl
    | false => rfl
theorem slice_in {x : Str} {a b : Nat} {l : List Nat} (h : x.cps.toList = a :: (l ++ [b])) : Txt.slice x (some 1) (some (-1)) = ⟨l.toArray⟩ := by
  have hl : x.length = l.length + 2 := by rw [← lenL, h]; simp
  show StrLaws.sliceText x (some 1) (some (-1)) = _
  rw [StrLaws.sliceText_neg_hi x (some 1) (by decide) (by rw [hl]; omega), StrLaws.sliceText_plain ⟨by decide, by rw [hl]; omega, by rw [lenL, hl]; omega⟩, h, hl]
  refine strEq ?_
  show ((a :: (l ++ [b])).drop 1).take (-1 + ((l.length + 2 : Nat) : Int) - 1).toNat = l
  rw [show (-1 + ((l.length + 2 : Nat) : Int) - 1).toNat = l.length by omega]
  show (l ++ [b]).take l.length = l
  rw [List.take_left']
  rfl
theorem unq_key (x : Str) : m_unquoted [.str x] = bodyR (retO (replR "\\\\" "\\" (replR "\\\"" "\"" (slT (.str x) (some 1) (some (-1)))))) := mirE rfl
end M38
namespace M38.R
open PySem L2
theorem lcF {A : Rho → Rs Bool} {F : Rho → Rs Tr} {p : Tr → Bool} {f : Tr → Tr} {R : Rho} : ∀ (ts : List Tr) (c : Cell), (∀ t ∈ ts, A (.sh t :: R) = .ok (p t)) → (∀ t ∈ ts, p t = true → F (.sh t :: R) = .ok (f t)) → lcL (gN 0) A F ts (c :: R) = .ok ((ts.filter p).map f)
  | [], c, _, _ => rfl
  | t :: ts, c, h1, h2 => by
    rw [lcL]
    show (Rs.bind (pur (A (.sh t :: R))) _ : Rs (List Tr)) = _
    rw [h1 t (List.mem_cons_self ..)]
    have ih := lcF ts (.sh t) (fun u m => h1 u (List.mem_cons_of_mem _ m)) (fun u m => h2 u (List.mem_cons_of_mem _ m))
    cases e : p t with
    | true =>
      show (Rs.bind (pur (F (.sh t :: R))) _ : Rs (List Tr)) = _
      rw [h2 t (List.mem_cons_self ..) e]
      show ((lcL (gN 0) A F ts (.sh t :: R)).bind fun ys => Rs.ok (f t :: ys)) = _
      rw [ih, List.filter_cons, e]
      rfl
    | false =>
      show lcL (gN 0) A F ts (.sh t :: R) = _
      rw [ih, List.filter_cons, e]
      rfl
theorem lcM {F : Rho → Rs Tr} {f : Tr → Tr} {R : Rho} (ts : List Tr) (c : Cell) (h : ∀ t ∈ ts, F (.sh t :: R) = .ok (f t)) : lcL (gN 0) (fun _ => .ok true) F ts (c :: R) = .ok (ts.map f) := by
  have q := lcF (A := fun _ => .ok true) (p := fun _ => true) ts c (fun _ _ => rfl) (fun t m _ => h t m)
  rw [show ts.filter (fun _ => true) = ts by rw [List.filter_eq_self]; intros; rfl] at q
  exact q
theorem bls_map (g : Tr → Bool) : ∀ ts : List Tr, blsL (ts.map fun t => .bl (g t)) = .ok (ts.map g)
  | [] => rfl
  | t :: ts => by rw [List.map_cons, blsL, bls_map g ts]; rfl
theorem sgn_mem {z : Str} {t : Tr} (h : t ∈ sgnT z) : ∃ c, t = .str ⟨#[c]⟩ := by
  unfold sgnT at h
  obtain ⟨c, _, e⟩ := List.mem_map.mp h
  exact ⟨c, e.symm⟩
theorem sgn_len (z : Str) : (sgnT z).length = z.length := by simp [sgnT, Str.length]
def letT (z : Str) : Bool := !(decide (z.cps.toList < ("a" : Str).cps.toList)) && !(decide (("z" : Str).cps.toList < z.cps.toList))
theorem e_letter (z : Str) : m_is_letter [.str z] = .ok (.bl (letT z)) := by
  show bodyR (retO (chnR leC leC (Rs.ok (.str "a")) (.ok (.str z)) (Rs.ok (.str "z")))) = _
  unfold letT
  cases e : (!(decide (z.cps.toList < ("a" : Str).cps.toList))) with
  | true => simp only [mir, bodyR, startT, seqO, setO, retO, ifO, dropO, parO, unpO, getS, op2, callR, consR, asB, notB, andB, orB, andV, orV, truT, blR, iteR, chnR, tupR, lstR, slR, asI, okO, leC, ltC, gtC, geC, isC, isnC, isN, eqC, neC, inC, ninC, lenT, listT, tupleT, isiT, negT, Rs.bind, Rs.bind_ok, List.length_cons, List.length_nil, List.map_cons, List.map_nil, List.replicate, List.set, List.getElem?_cons_zero, List.getElem?_cons_succ, List.nil_append, List.cons_append, if_true, if_false, ite_true, ite_false, Nat.reduceAdd, Nat.reduceSub, Nat.reduceEqDiff, Nat.reduceLeDiff, e, Bool.true_and]
  | false => simp only [mir, bodyR, startT, seqO, setO, retO, ifO, dropO, parO, unpO, getS, op2, callR, consR, asB, notB, andB, orB, andV, orV, truT, blR, iteR, chnR, tupR, lstR, slR, asI, okO, leC, ltC, gtC, geC, isC, isnC, isN, eqC, neC, inC, ninC, lenT, listT, tupleT, isiT, negT, Rs.bind, Rs.bind_ok, List.length_cons, List.length_nil, List.map_cons, List.map_nil, List.replicate, List.set, List.getElem?_cons_zero, List.getElem?_cons_succ, List.nil_append, List.cons_append, if_true, if_false, ite_true, ite_false, Nat.reduceAdd, Nat.reduceSub, Nat.reduceEqDiff, Nat.reduceLeDiff, e, Bool.false_and, Bool.false_eq_true]
def letV : Tr → Bool
  | .str z => letT z
  | _ => false
def nmT : Tr → Bool
  | .str z => decide ((1 : Int) ≤ z.length) && (decide ((z.length : Int) ≤ 6) && (sgnT z).all letV)
  | _ => false
def wdT : Tr → Bool
  | .str z => decide ((1 : Int) ≤ z.length) && decide ((z.length : Int) ≤ 60)
  | _ => false
def nuT : Tr → Bool
  | .int i => decide (1 ≤ i)
  | _ => false
theorem e_words (t : Tr) (h : plT t = true) : m_is_words [t] = .ok (.bl (wdT t)) := by
  cases t with
  | str z =>
    show bodyR (retO (andV (.ok (.bl true)) (chnR leC leC (Rs.ok (.int 1)) (.ok (.int z.length)) (Rs.ok (.int 60))))) = _
    unfold wdT
    cases e : decide ((1 : Int) ≤ z.length) with
    | true => simp only [mir, bodyR, startT, seqO, setO, retO, ifO, dropO, parO, unpO, getS, op2, callR, consR, asB, notB, andB, orB, andV, orV, truT, blR, iteR, chnR, tupR, lstR, slR, asI, okO, leC, ltC, gtC, geC, isC, isnC, isN, eqC, neC, inC, ninC, lenT, listT, tupleT, isiT, negT, Rs.bind, Rs.bind_ok, List.length_cons, List.length_nil, List.map_cons, List.map_nil, List.replicate, List.set, List.getElem?_cons_zero, List.getElem?_cons_succ, List.nil_append, List.cons_append, if_true, if_false, ite_true, ite_false, Nat.reduceAdd, Nat.reduceSub, Nat.reduceEqDiff, Nat.reduceLeDiff, e, Bool.true_and]
    | false => simp only [mir, bodyR, startT, seqO, setO, retO, ifO, dropO, parO, unpO, getS, op2, callR, consR, asB, notB, andB, orB, andV, orV, truT, blR, iteR, chnR, tupR, lstR, slR, asI, okO, leC, ltC, gtC, geC, isC, isnC, isN, eqC, neC, inC, ninC, lenT, listT, tupleT, isiT, negT, Rs.bind, Rs.bind_ok, List.length_cons, List.length_nil, List.map_cons, List.map_nil, List.replicate, List.set, List.getElem?_cons_zero, List.getElem?_cons_succ, List.nil_append, List.cons_append, if_true, if_false, ite_true, ite_false, Nat.reduceAdd, Nat.reduceSub, Nat.reduceEqDiff, Nat.reduceLeDiff, e, Bool.false_and, Bool.false_eq_true]
  | ty _ => cases h
  | scr _ => cases h
  | dic _ => cases h
  | «at» _ => cases h
  | dct _ => cases h
  | ob _ _ => cases h
  | exn _ => cases h
  | _ => rfl
theorem e_name (t : Tr) (h : plT t = true) : m_is_name [t] = .ok (.bl (nmT t)) := by
  cases t with
  | str z =>
    show bodyR (retO (andV (chnR leC leC (Rs.ok (.int 1)) (.ok (.int z.length)) (Rs.ok (.int 6))) (callR allT (consR (lcR [none] (gN 0) (fun _ => .ok true) (fun ρ => callR m_is_letter (consR (getS ρ 0) (.ok []))) (.ok (sgnT z)) [.sh (.str z)]) (.ok []))))) = _
    unfold nmT
    cases e : decide ((1 : Int) ≤ z.length) with
    | false => simp only [mir, bodyR, startT, seqO, setO, retO, ifO, dropO, parO, unpO, getS, op2, callR, consR, asB, notB, andB, orB, andV, orV, truT, blR, iteR, chnR, tupR, lstR, slR, asI, okO, leC, ltC, gtC, geC, isC, isnC, isN, eqC, neC, inC, ninC, lenT, listT, tupleT, isiT, negT, Rs.bind, Rs.bind_ok, List.length_cons, List.length_nil, List.map_cons, List.map_nil, List.replicate, List.set, List.getElem?_cons_zero, List.getElem?_cons_succ, List.nil_append, List.cons_append, if_true, if_false, ite_true, ite_false, Nat.reduceAdd, Nat.reduceSub, Nat.reduceEqDiff, Nat.reduceLeDiff, e, Bool.false_and, Bool.false_eq_true]
    | true =>
      cases e2 : decide ((z.length : Int) ≤ 6) with
      | false => simp only [mir, bodyR, startT, seqO, setO, retO, ifO, dropO, parO, unpO, getS, op2, callR, consR, asB, notB, andB, orB, andV, orV, truT, blR, iteR, chnR, tupR, lstR, slR, asI, okO, leC, ltC, gtC, geC, isC, isnC, isN, eqC, neC, inC, ninC, lenT, listT, tupleT, isiT, negT, Rs.bind, Rs.bind_ok, List.length_cons, List.length_nil, List.map_cons, List.map_nil, List.replicate, List.set, List.getElem?_cons_zero, List.getElem?_cons_succ, List.nil_append, List.cons_append, if_true, if_false, ite_true, ite_false, Nat.reduceAdd, Nat.reduceSub, Nat.reduceEqDiff, Nat.reduceLeDiff, e, e2, Bool.true_and, Bool.false_and, Bool.false_eq_true]
      | true =>
        have hl : (sgnT z).length ≤ szT := by rw [sgn_len]; have := of_decide_eq_true e2; unfold szT; omega
        have q : lcR [none] (gN 0) (fun _ => .ok true) (fun ρ => callR m_is_letter (consR (getS ρ 0) (.ok []))) (.ok (sgnT z)) [.sh (.str z)] = .ok (.lst ((sgnT z).map fun t => .bl (letV t))) := by
          unfold lcR
          show (if (sgnT z).length ≤ szT then _ else _) = _
          rw [if_pos hl]
          show (lcL (gN 0) _ _ (sgnT z) [.no]).bind _ = _
          rw [lcM (f := fun t => .bl (letV t)) (sgnT z) .no fun t m => by obtain ⟨c, rfl⟩ := sgn_mem m; exact e_letter _]
          rfl
        rw [q]
        have q2 : callR allT (consR (.ok (.lst ((sgnT z).map fun t => .bl (letV t)))) (.ok [])) = .ok (.bl ((sgnT z).all letV)) := by
          show (blsL ((sgnT z).map fun t => .bl (letV t))).bind (fun bs => Rs.ok (Tr.bl (bs.all id))) = _
          rw [bls_map]
          show Rs.ok (Tr.bl (((sgnT z).map letV).all id)) = _
          rw [List.all_map]
          rfl
        rw [q2]
        simp only [mir, bodyR, startT, seqO, setO, retO, ifO, dropO, parO, unpO, getS, op2, callR, consR, asB, notB, andB, orB, andV, orV, truT, blR, iteR, chnR, tupR, lstR, slR, asI, okO, leC, ltC, gtC, geC, isC, isnC, isN, eqC, neC, inC, ninC, lenT, listT, tupleT, isiT, negT, Rs.bind, Rs.bind_ok, List.length_cons, List.length_nil, List.map_cons, List.map_nil, List.replicate, List.set, List.getElem?_cons_zero, List.getElem?_cons_succ, List.nil_append, List.cons_append, if_true, if_false, ite_true, ite_false, Nat.reduceAdd, Nat.reduceSub, Nat.reduceEqDiff, Nat.reduceLeDiff, e, e2, Bool.true_and]
  | ty _ => cases h
  | scr _ => cases h
  | dic _ => cases h
  | «at» _ => cases h
  | dct _ => cases h
  | ob _ _ => cases h
  | exn _ => cases h
  | _ => rfl
theorem e_number (t : Tr) (h : plT t = true) : m_is_number [t] = .ok (.bl (nuT t)) := by
  cases t with
  | ty _ => cases h
  | scr _ => cases h
  | dic _ => cases h
  | «at» _ => cases h
  | dct _ => cases h
  | ob _ _ => cases h
  | exn _ => cases h
  | _ => rfl
def anT : Tr → Bool
  | .non => true
  | t => nuT t
theorem e_answer (t : Tr) (h : plT t = true) : m_is_answer [t] = .ok (.bl (anT t)) := by
  cases t with
  | ty _ => cases h
  | scr _ => cases h
  | dic _ => cases h
  | «at» _ => cases h
  | dct _ => cases h
  | ob _ _ => cases h
  | exn _ => cases h
  | _ => rfl
def inz (t : Tr) (zs : List Str) : Bool := zs.any fun z => eqT (.str z) t
theorem e_in (t : Tr) (zs : List Str) (h : plT t = true) : inC t (.tup (zs.map Tr.str)) = .ok (.bl (inz t zs)) := by
  have e : (zs.map Tr.str).all flT = true := by rw [List.all_map, List.all_eq_true]; intros; rfl
  have q : inC t (.tup (zs.map Tr.str)) = blR (inL t (zs.map Tr.str)) := by cases t <;> rfl
  rw [q]
  unfold inL
  rw [if_pos ⟨h, e⟩, List.any_map]
  rfl
def sets : List (Str × List Str) := [("door", ["open", "asked"]), ("voice", ["all", "some"]), ("past", ["shown", "hidden"])]
def seT (a b : Tr) : Bool := match a with
  | .str z => match sets.lookup z with
    | some zs => inz b zs
    | none => false
  | _ => false
theorem e_setting (a b : Tr) (h : plT a = true) (h2 : plT b = true) : m_is_setting [a, b] = .ok (.bl (seT a b)) := by
  cases a with
  | str z =>
    have e0 : ∀ z : Str, List.lookup z [(("door" : Str), Tr.tup [.str "open", .str "asked"]), ("voice", .tup [.str "all", .str "some"]), ("past", .tup [.str "shown", .str "hidden"])] = (sets.lookup z).map fun zs => Tr.tup (zs.map Tr.str) := by
      intro z
      unfold sets
      rw [List.lookup_cons, List.lookup_cons, List.lookup_cons, List.lookup_cons, List.lookup_cons, List.lookup_cons]
      cases (z == ("door" : Str)) <;> cases (z == ("voice" : Str)) <;> cases (z == ("past" : Str)) <;> rfl
    show bodyR (retO (andV (.ok (.bl true)) (andV (.ok (.bl (List.lookup z [(("door" : Str), Tr.tup [.str "open", .str "asked"]), ("voice", .tup [.str "all", .str "some"]), ("past", .tup [.str "shown", .str "hidden"])]).isSome)) (op2 inC (.ok b) (okO (List.lookup z [(("door" : Str), Tr.tup [.str "open", .str "asked"]), ("voice", .tup [.str "all", .str "some"]), ("past", .tup [.str "shown", .str "hidden"])])))))) = _
    rw [e0]
    have e9 : seT (.str z) b = match sets.lookup z with | some zs => inz b zs | none => false := rfl
    rw [e9]
    cases e : sets.lookup z with
    | none => rfl
    | some zs =>
      have q := e_in b zs h2
      show bodyR (retO (andV (.ok (.bl true)) (andV (.ok (.bl true)) (inC b (.tup (zs.map Tr.str)))))) = _
      rw [q]
      rfl
  | ty _ => cases h
  | scr _ => cases h
  | dic _ => cases h
  | «at» _ => cases h
  | dct _ => cases h
  | ob _ _ => cases h
  | exn _ => cases h
  | _ => rfl
theorem ifret {b : Bool} {t : Tr} {ρ : Rho} {G : Rho → Rs Out} : bodyR (seqO (ifO (.ok b) (retO (.ok t)) (.ok (.nx ρ))) G) = if b = true then .ok t else bodyR (G ρ) := by cases b <;> rfl
theorem e_eq (a : Tr) (z : Str) (h : plT a = true) (hd : dT a ≤ 40) : eqC a (.str z) = .ok (.bl (eqT a (.str z))) := if_pos ⟨h, rfl, hd⟩
def rls : List Str := ["guest", "speaker", "keeper", "owner"]
def twT (w a b : Tr) : Bool := if eqT w (.str "set") = true then seT a b else if eqT w (.str "role") = true then nmT a && inz b rls else if eqT w (.str "say") = true then wdT a && anT b else if eqT w (.str "mend") = true then nuT a && wdT b else false
theorem and2 (x y : Bool) : andV (.ok (.bl x)) (.ok (.bl y)) = .ok (.bl (x && y)) := by cases x <;> rfl
theorem okite {c : Prop} [Decidable c] (x y : Bool) : (if c then Rs.ok (Tr.bl x) else .ok (.bl y)) = Rs.ok (.bl (if c then x else y)) := by split <;> rfl
theorem e_two (w a b : Tr) (hw : plT w = true) (hd : dT w ≤ 40) (ha : plT a = true) (hb : plT b = true) : m_are_two_parts [w, a, b] = .ok (.bl (twT w a b)) := by
  have r := e_in b rls hb
  have r' : inC b (.tup [.str "guest", .str "speaker", .str "keeper", .str "owner"]) = _ := r
  show bodyR (seqO (ifO (asB (eqC w (.str "set"))) (retO (m_is_setting [a, b])) (.ok (.nx [.sh w, .sh a, .sh b]))) _) = _
  rw [e_eq w _ hw hd, e_setting a b ha hb]
  show bodyR (seqO (ifO (.ok (eqT w (.str "set"))) _ _) _) = _
  rw [ifret]
  show (if _ then _ else bodyR (seqO (ifO (asB (eqC w (.str "role"))) (retO (andV (m_is_name [a]) (inC b (.tup [.str "guest", .str "speaker", .str "keeper", .str "owner"])))) (.ok (.nx [.sh w, .sh a, .sh b]))) _)) = _
  rw [e_eq w _ hw hd, e_name a ha, r', and2]
  show (if _ then _ else bodyR (seqO (ifO (.ok (eqT w (.str "role"))) _ _) _)) = _
  rw [ifret]
  show (if _ then _ else if _ then _ else bodyR (seqO (ifO (asB (eqC w (.str "say"))) (retO (andV (m_is_words [a]) (m_is_answer [b]))) (.ok (.nx [.sh w, .sh a, .sh b]))) _)) = _
  rw [e_eq w _ hw hd, e_words a ha, e_answer b hb, and2]
  show (if _ then _ else if _ then _ else bodyR (seqO (ifO (.ok (eqT w (.str "say"))) _ _) _)) = _
  rw [ifret]
  show (if _ then _ else if _ then _ else if _ then _ else bodyR (seqO (ifO (asB (eqC w (.str "mend"))) (retO (andV (m_is_number [a]) (m_is_words [b]))) (.ok (.nx [.sh w, .sh a, .sh b]))) _)) = _
  rw [e_eq w _ hw hd, e_number a ha, e_words b hb, and2]
  show (if _ then _ else if _ then _ else if _ then _ else bodyR (seqO (ifO (.ok (eqT w (.str "mend"))) _ _) _)) = _
  rw [ifret]
  show (if _ then _ else if _ then _ else if _ then _ else if _ then _ else Rs.ok (Tr.bl false)) = _
  rw [okite, okite, okite, okite]
  rfl
def bare : List Str := ["found", "enter", "leave"]
def whom : List Str := ["ask", "unbar", "out", "bar"]
def paT (w : Tr) (ps : List Tr) : Bool :=
  if inz w bare = true then ((ps.length : Int) == 0) else if inz w whom = true then ((ps.length : Int) == 1) && nmT (ps.getD 0 .non) else if eqT w (.str "gone") = true then ((ps.length : Int) == 1) && nuT (ps.getD 0 .non) else ((ps.length : Int) == 2) && twT w (ps.getD 0 .non) (ps.getD 1 .non)
theorem at0 (ps : List Tr) (h : ((ps.length : Int) == 1) = true ∨ ((ps.length : Int) == 2) = true) : ixT (.tup ps) (.int 0) = .ok (ps.getD 0 .non) := by
  match ps, h with
  | x :: r, _ =>
    have e : L2.atI (x :: r) ((0 : Nat) : Int) = some x := atI_nat rfl
    show okO (L2.atI (x :: r) 0) = _
    rw [show (0 : Int) = ((0 : Nat) : Int) from rfl, e]
    rfl
  | [], h => rcases h with h | h <;> cases h
theorem at1 (ps : List Tr) (h : ((ps.length : Int) == 2) = true) : ixT (.tup ps) (.int 1) = .ok (ps.getD 1 .non) := by
  match ps, h with
  | x :: y :: r, _ =>
    have e : L2.atI (x :: y :: r) ((1 : Nat) : Int) = some y := atI_nat rfl
    show okO (L2.atI (x :: y :: r) 1) = _
    rw [show (1 : Int) = ((1 : Nat) : Int) from rfl, e]
    rfl
  | [_], h => cases h
  | [], h => cases h
theorem plD {ps : List Tr} (h : plTs ps = true) (k : Nat) : plT (ps.getD k .non) = true := by
  rw [List.getD_eq_getElem?_getD]
  cases e : ps[k]? with
  | none => rfl
  | some t => exact plTs_mem h t (List.mem_of_getElem? e)
theorem and3 {x : Bool} {r : Rs Tr} {y : Bool} (h : x = true → r = .ok (.bl y)) : andV (.ok (.bl x)) r = .ok (.bl (x && y)) := by
  cases x with
  | false => rfl
  | true => rw [h rfl]; rfl
theorem e_parts (w : Tr) (ps : List Tr) (hw : plT w = true) (hd : dT w ≤ 40) (hp : plTs ps = true) : m_are_parts [w, .tup ps] = .ok (.bl (paT w ps)) := by
  have r1 : inC w (.tup [.str "found", .str "enter", .str "leave"]) = _ := e_in w bare hw
  have r2 : inC w (.tup [.str "ask", .str "unbar", .str "out", .str "bar"]) = _ := e_in w whom hw
  show bodyR (seqO (ifO (asB (inC w (.tup [.str "found", .str "enter", .str "leave"]))) (retO (.ok (.bl ((ps.length : Int) == 0)))) (.ok (.nx [.sh w, .sh (.tup ps)]))) _) = _
  rw [r1]
  show bodyR (seqO (ifO (.ok (inz w bare)) _ _) _) = _
  rw [ifret]
  show (if _ then _ else bodyR (seqO (ifO (asB (inC w (.tup [.str "ask", .str "unbar", .str "out", .str "bar"]))) (retO (andV (.ok (.bl ((ps.length : Int) == 1))) (callR m_is_name (consR (ixT (.tup ps) (.int 0)) (.ok []))))) (.ok (.nx [.sh w, .sh (.tup ps)]))) _)) = _
  rw [r2, and3 (y := nmT (ps.getD 0 .non)) (fun e => by rw [at0 ps (.inl e)]; exact e_name _ (plD hp 0))]
  show (if _ then _ else bodyR (seqO (ifO (.ok (inz w whom)) _ _) _)) = _
  rw [ifret]
  show (if _ then _ else if _ then _ else bodyR (seqO (ifO (asB (eqC w (.str "gone"))) (retO (andV (.ok (.bl ((ps.length : Int) == 1))) (callR m_is_number (consR (ixT (.tup ps) (.int 0)) (.ok []))))) (.ok (.nx [.sh w, .sh (.tup ps)]))) _)) = _
  rw [e_eq w _ hw hd, and3 (y := nuT (ps.getD 0 .non)) (fun e => by rw [at0 ps (.inl e)]; exact e_number _ (plD hp 0))]
  show (if _ then _ else if _ then _ else bodyR (seqO (ifO (.ok (eqT w (.str "gone"))) _ _) _)) = _
  rw [ifret]
  show (if _ then _ else if _ then _ else if _ then _ else bodyR (retO (andV (.ok (.bl ((ps.length : Int) == 2))) (callR m_are_two_parts (consR (.ok w) (consR (ixT (.tup ps) (.int 0)) (consR (ixT (.tup ps) (.int 1)) (.ok [])))))))) = _
  rw [and3 (y := twT w (ps.getD 0 .non) (ps.getD 1 .non)) (fun e => by rw [at0 ps (.inr e), at1 ps e]; exact e_two w _ _ hw hd (plD hp 0) (plD hp 1))]
  show (if _ then _ else if _ then _ else if _ then _ else Rs.ok (Tr.bl _)) = _
  rw [okite, okite, okite]
  rfl
def rwL (ts : List Tr) : Bool := decide (3 ≤ ts.length) && (nuT (ts.getD 0 .non) && (nmT (ts.getD 1 .non) && paT (ts.getD 2 .non) (ts.drop 3)))
def rwT : Tr → Bool
  | .tup ts => rwL ts
  | _ => false
theorem plDrop : ∀ {ps : List Tr} (k : Nat), plTs ps = true → plTs (ps.drop k) = true
  | _, 0, h => h
  | [], _ + 1, h => h
  | _ :: ps, k + 1, h => by
    rw [plTs, Bool.and_eq_true] at h
    exact plDrop (ps := ps) k h.2
theorem dD {ps : List Tr} (k : Nat) : dT (ps.getD k .non) ≤ dTs ps := by
  rw [List.getD_eq_getElem?_getD]
  cases e : ps[k]? with
  | none => exact Nat.zero_le _
  | some t => exact dTs_mem t (List.mem_of_getElem? e)
theorem atK (ts : List Tr) (k : Nat) (h : k < ts.length) : ixT (.tup ts) (.int (k : Int)) = .ok (ts.getD k .non) := by
  have e : L2.atI ts (k : Int) = some (ts.getD k .non) := atI_nat (by rw [List.getD_eq_getElem?_getD, List.getElem?_eq_getElem h]; rfl)
  show okO (L2.atI ts (k : Int)) = _
  rw [e]
  rfl
theorem slD (ts : List Tr) (k : Nat) (h0 : 0 < k) (h : k ≤ ts.length) : slT (.tup ts) (some (k : Int)) none = .ok (.tup (ts.drop k)) := by
  have e1 : HT.sIx ts.length 0 (some (k : Int)) = k := by rw [HT.sIx_nat, Nat.min_eq_left h]
  have e2 : HT.sIx ts.length ts.length none = ts.length := HT.sIx_none _ _
  have w : wholeC ts.length (some (k : Int)) none = false := by
    unfold wholeC
    rw [e1, beq_false_of_ne (by omega)]
    rfl
  show (if wholeC ts.length (some (k : Int)) none = true then Rs.bad else Rs.ok (Tr.tup (cutG ts (some (k : Int)) none))) = _
  rw [w, if_neg Bool.false_ne_true]
  unfold cutG
  rw [e1, e2, List.take_of_length_le (by rw [List.length_drop]; exact Nat.le_refl _)]
theorem e_row (t : Tr) (h : plT t = true) (hd : dT t ≤ 40) : m_is_row [t] = .ok (.bl (rwT t)) := by
  cases t with
  | tup ts =>
    rw [dT] at hd
    have hp : plTs ts = true := h
    show bodyR (seqO (ifO (.ok (decide ((ts.length : Int) < 3))) (retO (Rs.ok (.bl false))) (.ok (.nx [.sh (.tup ts)]))) fun ρ => retO (andV (callR m_is_number (consR (op2 ixT (getS ρ 0) (Rs.ok (.int 0))) (.ok []))) (andV (callR m_is_name (consR (op2 ixT (getS ρ 0) (Rs.ok (.int 1))) (.ok []))) (callR m_are_parts (consR (op2 ixT (getS ρ 0) (Rs.ok (.int 2))) (consR (slR (getS ρ 0) (asI (Rs.ok (.int 3))) (.ok none)) (.ok []))))))) = _
    rw [ifret]
    by_cases h3 : 3 ≤ ts.length
    · rw [if_neg (by rw [decide_eq_true_eq]; omega)]
      show bodyR (retO (andV (callR m_is_number (consR (ixT (.tup ts) (.int ((0 : Nat) : Int))) (.ok []))) (andV (callR m_is_name (consR (ixT (.tup ts) (.int ((1 : Nat) : Int))) (.ok []))) (callR m_are_parts (consR (ixT (.tup ts) (.int ((2 : Nat) : Int))) (consR (slT (.tup ts) (some ((3 : Nat) : Int)) none) (.ok []))))))) = _
      rw [atK ts 0 (by omega), atK ts 1 (by omega), atK ts 2 (by omega), slD ts 3 (by omega) h3]
      show bodyR (retO (andV (m_is_number [ts.getD 0 .non]) (andV (m_is_name [ts.getD 1 .non]) (m_are_parts [ts.getD 2 .non, .tup (ts.drop 3)])))) = _
      rw [e_number _ (plD hp 0), e_name _ (plD hp 1), e_parts _ _ (plD hp 2) (Nat.le_trans (dD 2) (by omega)) (plDrop 3 hp), and2, and2]
      show Rs.ok (Tr.bl _) = Rs.ok (Tr.bl (rwL ts))
      unfold rwL
      rw [decide_eq_true h3, Bool.true_and]
    · rw [if_pos (by rw [decide_eq_true_eq]; omega)]
      show _ = Rs.ok (Tr.bl (rwL ts))
      unfold rwL
      rw [decide_eq_false h3, Bool.false_and]
  | ty _ => cases h
  | scr _ => cases h
  | dic _ => cases h
  | «at» _ => cases h
  | dct _ => cases h
  | ob _ _ => cases h
  | exn _ => cases h
  | _ => rfl
end M38.R
namespace M38
open PySem L2
theorem s32 : (" " : Str) = ⟨#[32]⟩ := by decide +kernel
theorem get0 {t : Tr} {R : Rho} : getS (.sh t :: R) 0 = .ok t := rfl
theorem get1 {a : Cell} {t : Tr} {R : Rho} : getS (a :: .sh t :: R) 1 = .ok t := rfl
theorem get2 {a b : Cell} {t : Tr} {R : Rho} : getS (a :: b :: .sh t :: R) 2 = .ok t := rfl
theorem op2_ok {h : Tr → Tr → Rs Tr} {a b : Tr} : op2 h (.ok a) (.ok b) = h a b := rfl
theorem call1_ok {h : List Tr → Rs Tr} {a : Tr} : callR h (consR (.ok a) (.ok [])) = h [a] := rfl
theorem call2_ok {h : List Tr → Rs Tr} {x y : Tr} : callR h (consR (.ok x) (consR (.ok y) (.ok []))) = h [x, y] := rfl
theorem ifT {A B : Rs Out} : ifO (asB (.ok (.bl true))) A B = A := rfl
theorem ifF {A B : Rs Out} : ifO (asB (.ok (.bl false))) A B = B := rfl
theorem sqRet {t : Tr} {G : Rho → Rs Out} : seqO (.ok (.ret t)) G = .ok (.ret t) := rfl
theorem sqNx {ρ : Rho} {G : Rho → Rs Out} : seqO (.ok (.nx ρ)) G = G ρ := rfl
theorem setR {i : Nat} {t : Tr} {ρ : Rho} : setO i (.ok t) ρ = .ok (.nx (ρ.set i (.sh t))) := rfl
theorem mS_ok {h : Str → List Tr → Rs Tr} {z : Str} {x : Tr} : mS h (.ok (.str z)) (consR (.ok x) (.ok [])) = h z [x] := rfl
theorem tup2 {a b : Tr} : retO (tupR (consR (.ok a) (consR (.ok b) (.ok [])))) = .ok (.ret (.tup [a, b])) := rfl
theorem ixS0 (a b c : Tr) : op2 ixT (.ok (.tup [a, b, c])) (Rs.ok (.int 0)) = .ok a := ix0 a b c []
theorem ixS2 (a b c : Tr) : op2 ixT (.ok (.tup [a, b, c])) (Rs.ok (.int 2)) = .ok c := ix2 a b c []
def FlT (t : Tr) : Prop := t = .non ∨ (∃ m : Nat, t = .int (m : Int) ∧ m < 10 ^ 150) ∨ ∃ z : Str, t = .str z ∧ z.length ≤ 150
theorem fold_lt : ∀ (cs : List Nat) (a : Nat), (∀ c ∈ cs, isD c = true) → cs.foldl (fun a c => a * 10 + (c - 48)) a < (a + 1) * 10 ^ cs.length
  | [], a, _ => by show a < (a + 1) * 1; omega
  | c :: cs, a, h => by
    have ih := fold_lt cs (a * 10 + (c - 48)) fun d m => h d (List.mem_cons_of_mem _ m)
    have hc : c - 48 ≤ 9 := by
      have q := h c (List.mem_cons_self ..)
      unfold isD at q
      rw [Bool.and_eq_true] at q
      have := of_decide_eq_true q.2
      omega
    rw [List.foldl_cons, List.length_cons, Nat.pow_succ]
    refine Nat.lt_of_lt_of_le ih ?_
    rw [Nat.mul_comm (10 ^ cs.length) 10, ← Nat.mul_assoc]
    exact Nat.mul_le_mul_right _ (by omega)
theorem valD_lt {z : Str} (h : digB z = true) (hl : z.length ≤ 150) : valD z < 10 ^ 150 := by
  unfold digB at h
  rw [Bool.and_eq_true] at h
  have q := fold_lt z.cps.toList 0 fun c m => List.all_eq_true.mp h.2 c m
  rw [lenL, Nat.zero_add, Nat.one_mul] at q
  exact Nat.lt_of_lt_of_le q (Nat.pow_le_pow_right (by decide) hl)
theorem part_fl {z : Str} (hl : z.length ≤ 150) : FlT (partT z) := by
  unfold partT
  split
  · exact .inl rfl
  · split
    · rename_i h
      exact .inr (.inl ⟨_, rfl, valD_lt h hl⟩)
    · exact .inr (.inr ⟨_, rfl, hl⟩)
theorem e_pin {z : Str} (hl : z.length ≤ 150) : m_part_in [.str z] = .ok (partT z) := e_partin z (Nat.le_trans hl (by decide))
theorem rep2_len (p q : Nat) (z : List Nat) (hz : z.length ≤ 2) : ∀ (n : Nat) (l : List Nat), (rep2 p q z n l).length ≤ l.length
  | 0, l => Nat.le_refl _
  | n + 1, [] => Nat.le_refl _
  | n + 1, [x] => Nat.le_refl _
  | n + 1, x :: y :: r => by
    rw [rep2]
    split
    · have := rep2_len p q z hz n r
      rw [List.length_append, List.length_cons, List.length_cons]
      omega
    · have := rep2_len p q z hz n (y :: r)
      rw [List.length_cons, List.length_cons]
      exact Nat.succ_le_succ this
theorem repl_le (x : Str) (p q c : Nat) : (Txt.replace x ⟨#[p, q]⟩ ⟨#[c]⟩).length ≤ x.length := by
  rw [← lenL, repl_two, ← lenL x]
  exact rep2_len p q [c] (by show 1 ≤ 2; decide) _ _
theorem slice_le (x : Str) : (Txt.slice x (some 1) (some (-1))).length ≤ x.length := by
  obtain ⟨⟨l⟩⟩ := x
  match l with
  | [] => decide +kernel
  | [a] =>
    have e : (Txt.slice ⟨⟨[a]⟩⟩ (some 1) (some (-1))).length = 0 := rfl
    rw [e]; exact Nat.zero_le _
  | a :: b :: r =>
    have hne : b :: r ≠ [] := by simp
    have e : (a :: b :: r) = a :: ((b :: r).dropLast ++ [(b :: r).getLast hne]) := by rw [List.dropLast_concat_getLast]
    rw [slice_in (x := ⟨⟨a :: b :: r⟩⟩) (a := a) (b := (b :: r).getLast hne) (l := (b :: r).dropLast) e]
    show ((b :: r).dropLast).length ≤ (a :: b :: r).length
    simp only [List.length_dropLast, List.length_cons]
    omega
theorem e_unqT {x : Str} (h : x.length ≤ 150) : ∃ y : Str, m_unquoted [.str x] = .ok (.str y) ∧ y.length ≤ 150 := by
  have h1 := slice_le x
  have h2 := repl_le (Txt.slice x (some 1) (some (-1))) 92 34 34
  have h3 := repl_le (Txt.replace (Txt.slice x (some 1) (some (-1))) ⟨#[92, 34]⟩ ⟨#[34]⟩) 92 92 92
  rw [← s9234, ← s34] at h2 h3
  rw [← s9292, ← s92] at h3
  have e0 : slT (.str x) (some 1) (some (-1)) = .ok (.str (Txt.slice x (some 1) (some (-1)))) := if_pos (by unfold txMax; omega)
  have e1 : replR "\\\"" "\"" (.ok (.str (Txt.slice x (some 1) (some (-1))))) = .ok (.str (Txt.replace (Txt.slice x (some 1) (some (-1))) "\\\"" "\"")) := if_pos ⟨by decide, by decide, by omega, by unfold txMax; omega⟩
  have e2 : replR "\\\\" "\\" (.ok (.str (Txt.replace (Txt.slice x (some 1) (some (-1))) "\\\"" "\""))) = .ok (.str (Txt.replace (Txt.replace (Txt.slice x (some 1) (some (-1))) "\\\"" "\"") "\\\\" "\\")) := if_pos ⟨by decide, by decide, by omega, by unfold txMax; omega⟩
  refine ⟨_, ?_, Nat.le_trans h3 (Nat.le_trans h2 (Nat.le_trans h1 h))⟩
  rw [unq_key, e0, e1, e2]
  rfl
theorem sub_le (x : Str) (i j : Nat) : (Builtin.Str.strSub x i j).length ≤ x.length := by
  rw [← lenL, StrLaws.strSub_toList, ← lenL x, List.length_take, List.length_drop]
  omega
theorem part_le (x y : Str) : ∃ a b c : Str, tri (Txt.partition x y) = [a, b, c] ∧ a.length ≤ x.length ∧ c.length ≤ x.length := by
  refine ⟨_, _, _, rfl, ?_⟩
  unfold Txt.partition
  split
  · exact ⟨sub_le .., sub_le ..⟩
  · exact ⟨Nat.le_refl _, Nat.zero_le _⟩
theorem rpart_le (x y : Str) : ∃ a b c : Str, tri (Txt.rpartition x y) = [a, b, c] ∧ a.length ≤ x.length ∧ c.length ≤ x.length := by
  refine ⟨_, _, _, rfl, ?_⟩
  unfold Txt.rpartition
  split
  · exact ⟨sub_le .., sub_le ..⟩
  · exact ⟨Nat.zero_le _, Nat.le_refl _⟩
theorem join_le (s : Str) : ∀ (ps : List Str), (∀ p ∈ ps, p.length ≤ (Str.join s ps).length) ∧ (s.length = 1 → ps.length ≤ (Str.join s ps).length + 1)
  | [] => ⟨fun p m => (nomatch m), fun _ => Nat.zero_le _⟩
  | [p] => ⟨fun q m => by rw [List.mem_singleton.mp m]; exact Nat.le_refl _, fun _ => by show 1 ≤ _; omega⟩
  | p :: q :: r => by
    obtain ⟨h1, h2⟩ := join_le s (q :: r)
    rw [PyProof.Rows.join_cons_cons, slen, slen]
    refine ⟨fun a m => ?_, fun hs => ?_⟩
    · rcases List.mem_cons.mp m with rfl | m
      · omega
      · have := h1 a m; omega
    · have := h2 hs
      rw [List.length_cons]
      omega
theorem split_le {x p : Str} (h : p ∈ Txt.split x " ") : p.length ≤ x.length := by
  have q := (join_le " " (Txt.split x " ")).1 p h
  rw [StrLaws.join_split] at q
  exact q
theorem split_many (x : Str) : (Txt.split x " ").length ≤ x.length + 1 := by
  have q := (join_le " " (Txt.split x " ")).2 (by decide)
  rw [StrLaws.join_split] at q
  exact q
theorem splitNL_le (c : Nat) : ∀ (l : List Nat) (lim : Nat), (∀ p ∈ splitNL c lim l, p.length ≤ l.length) ∧ (splitNL c lim l).length ≤ lim + 1
  | l, lim => by
    induction l generalizing lim with
    | nil =>
      have e : splitNL c lim [] = [[]] := by cases lim <;> rfl
      rw [e]
      exact ⟨fun p m => by rw [List.mem_singleton.mp m]; exact Nat.le_refl _, by show 1 ≤ _; omega⟩
    | cons x r ih =>
      by_cases h : x = c ∧ 0 < lim
      · obtain ⟨rfl, hl⟩ := h
        obtain ⟨m, rfl⟩ : ∃ m, lim = m + 1 := ⟨lim - 1, by omega⟩
        have e : splitNL x (m + 1) (x :: r) = [] :: splitNL x m r := splitNL_cut x m [] r (fun z => (nomatch z))
        obtain ⟨i1, i2⟩ := ih m
        rw [e]
        refine ⟨fun p q => ?_, by rw [List.length_cons]; omega⟩
        rcases List.mem_cons.mp q with rfl | q
        · exact Nat.zero_le _
        · exact Nat.le_trans (i1 p q) (by rw [List.length_cons]; omega)
      · rw [splitNL_step h]
        obtain ⟨i1, i2⟩ := ih lim
        have hne := splitNL_ne c r lim
        match e : splitNL c lim r, hne with
        | y :: ys, _ =>
          rw [e] at i1 i2
          show (∀ p ∈ (x :: y) :: ys, _) ∧ ((x :: y) :: ys).length ≤ _
          refine ⟨fun p q => ?_, i2⟩
          rcases List.mem_cons.mp q with rfl | q
          · rw [List.length_cons, List.length_cons]; exact Nat.succ_le_succ (i1 y (List.mem_cons_self ..))
          · exact Nat.le_trans (i1 p (List.mem_cons_of_mem _ q)) (by rw [List.length_cons]; omega)
theorem cut3 (x : Str) : (∀ p ∈ Txt.splitMax x ⟨#[32]⟩ 3, p.length ≤ x.length) ∧ (Txt.splitMax x ⟨#[32]⟩ 3).length ≤ 4 ∧ 1 ≤ (Txt.splitMax x ⟨#[32]⟩ 3).length := by
  have e := split_max x 32 3 (by decide) (by decide)
  obtain ⟨h1, h2⟩ := splitNL_le 32 x.cps.toList 3
  have hne := splitNL_ne 32 x.cps.toList 3
  have el : (Txt.splitMax x ⟨#[32]⟩ 3).length = (splitNL 32 3 x.cps.toList).length := by
    have q := congrArg List.length e
    rw [List.length_map] at q
    exact q
  refine ⟨fun p m => ?_, by rw [el]; exact h2, by rw [el]; cases q : splitNL 32 3 x.cps.toList with | nil => exact absurd q hne | cons a b => rw [List.length_cons]; omega⟩
  have m2 : p.cps.toList ∈ splitNL 32 3 x.cps.toList := by
    have q : p.cps.toList ∈ (Txt.splitMax x ⟨#[32]⟩ 3).map (fun p => p.cps.toList) := List.mem_map_of_mem m
    rw [e] at q
    exact q
  have := h1 _ m2
  rw [lenL, lenL] at this
  exact this
theorem split3 {x : Str} {zs : List Str} (h : Txt.splitMax x ⟨#[32]⟩ 3 = zs) : mS splitM (.ok (.str x)) (consR (Rs.ok (.str " ")) (consR (Rs.ok (.int 3)) (.ok []))) = .ok (.lst (zs.map .str)) := by
  show (if ((" " : Str).length == 0) = false ∧ (0 : Int) ≤ 3 ∧ (3 : Int) < 1000 then Rs.ok (Tr.lst ((Txt.splitMax x " " 3).map .str)) else .bad) = _
  rw [if_pos ⟨by decide, by decide, by decide⟩, s32, h]
theorem pin_all : ∀ (zs : List Str) (c : Cell), (∀ z ∈ zs, z.length ≤ 150) → lcL (gN 0) (fun _ => .ok true) (fun ρ => (callR m_part_in (consR (getS ρ 0) (.ok [])))) (zs.map .str) [c] = .ok (zs.map partT)
  | [], _, _ => rfl
  | z :: zs, c, h => by
    rw [List.map_cons, List.map_cons]
    show (pur (m_part_in [.str z])).bind (fun y => (lcL (gN 0) (fun _ => .ok true) (fun ρ => (callR m_part_in (consR (getS ρ 0) (.ok [])))) (zs.map .str) [.sh (.str z)]).bind fun ys => .ok (y :: ys)) = _
    rw [e_pin (h z (List.mem_cons_self ..)), pin_all zs _ fun y m => h y (List.mem_cons_of_mem _ m)]
    rfl
theorem in_parts {w x : Str} (hx : x.length ≤ 150) : ∃ ps, m_parts_in [.str w, .str x] = .ok (.tup ps) ∧ (∀ p ∈ ps, FlT p) ∧ ps.length ≤ 151 := by
  have key : m_parts_in [.str w, .str x] = bodyR (g_parts_in [.sh (.str w), .sh (.str x), .no]) := mirE rfl
  rw [key]
  unfold g_parts_in
  rw [get0, op2_ok, eqS]
  cases e1 : (w == ("say" : Str)) with
  | true =>
    obtain ⟨a, b, c, e, la, lc⟩ := rpart_le x " "
    have hp : rpartM x [.str " "] = .ok (.tup [.str a, .str b, .str c]) := by
      show (if ((" " : Str).length == 0) = false then Rs.ok (Tr.tup ((tri (Txt.rpartition x " ")).map .str)) else .bad) = _
      rw [if_pos (by decide), e]
      rfl
    obtain ⟨y, ey, ly⟩ := e_unqT (Nat.le_trans la hx)
    rw [ifT, get1, mS_ok, hp, setR, sqNx]
    rw [show ([.sh (.str w), .sh (.str x), .no] : Rho).set 2 (.sh (.tup [.str a, .str b, .str c])) = [.sh (.str w), .sh (.str x), .sh (.tup [.str a, .str b, .str c])] from rfl]
    rw [get2, ixS0, ixS2, call1_ok, call1_ok, ey, e_pin (Nat.le_trans lc hx), tup2, sqRet]
    refine ⟨_, rfl, fun p m => ?_, by show 2 ≤ 151; decide⟩
    rcases List.mem_cons.mp m with rfl | m
    · exact .inr (.inr ⟨_, rfl, ly⟩)
    · rw [List.mem_singleton.mp m]
      exact part_fl (Nat.le_trans lc hx)
  | false =>
    rw [ifF, sqNx, get0, op2_ok, eqS]
    cases e2 : (w == ("mend" : Str)) with
    | true =>
      obtain ⟨a, b, c, e, la, lc⟩ := part_le x " "
      have hp : partM x [.str " "] = .ok (.tup [.str a, .str b, .str c]) := by
        show (if ((" " : Str).length == 0) = false then Rs.ok (Tr.tup ((tri (Txt.partition x " ")).map .str)) else .bad) = _
        rw [if_pos (by decide), e]
        rfl
      obtain ⟨y, ey, ly⟩ := e_unqT (Nat.le_trans lc hx)
      rw [ifT, get1, mS_ok, hp, setR, sqNx]
      rw [show ([.sh (.str w), .sh (.str x), .no] : Rho).set 2 (.sh (.tup [.str a, .str b, .str c])) = [.sh (.str w), .sh (.str x), .sh (.tup [.str a, .str b, .str c])] from rfl]
      rw [get2, ixS0, ixS2, call1_ok, call1_ok, ey, e_pin (Nat.le_trans la hx), tup2, sqRet]
      refine ⟨_, rfl, fun p m => ?_, by show 2 ≤ 151; decide⟩
      rcases List.mem_cons.mp m with rfl | m
      · exact part_fl (Nat.le_trans la hx)
      · rw [List.mem_singleton.mp m]
        exact .inr (.inr ⟨_, rfl, ly⟩)
    | false =>
      have hs := split_many x
      have e3 : mS splitM (.ok (.str x)) (consR (Rs.ok (.str " ")) (.ok [])) = .ok (.lst ((Txt.split x " ").map .str)) := by
        rw [mS_ok]
        show (if (" " : Str).length = 1 then Rs.ok (Tr.lst ((Txt.split x " ").map .str)) else .bad) = _
        rw [if_pos (by decide)]
      have e4 : lcR [none] (gN 0) (fun _ => .ok true) (fun ρ => (callR m_part_in (consR (getS ρ 0) (.ok [])))) (seqW (.ok (.lst ((Txt.split x " ").map .str)))) [.sh (.str w), .sh (.str x), .no] = .ok (.lst ((Txt.split x " ").map partT)) := by
        show lcR [none] (gN 0) (fun _ => .ok true) (fun ρ => (callR m_part_in (consR (getS ρ 0) (.ok [])))) (.ok ((Txt.split x " ").map .str)) [.sh (.str w), .sh (.str x), .no] = _
        rw [lcR_ok (by rw [List.length_map]; unfold szT; omega)]
        show (lcL (gN 0) _ _ ((Txt.split x " ").map .str) [.no]).bind _ = _
        rw [pin_all _ _ fun z m => Nat.le_trans (split_le m) hx]
        rfl
      rw [ifF, sqNx, get1, e3, e4, call1_ok]
      refine ⟨(Txt.split x " ").map partT, rfl, fun p m => ?_, by rw [List.length_map]; omega⟩
      obtain ⟨z, hz, rfl⟩ := List.mem_map.mp m
      exact part_fl (Nat.le_trans (split_le hz) hx)
end M38
namespace M38
open PySem L2
theorem ixl0 (a : Tr) (ts : List Tr) : op2 ixT (.ok (.lst (a :: ts))) (Rs.ok (.int 0)) = .ok a := by
  show okO (L2.atI (a :: ts) 0) = _
  rw [show L2.atI (a :: ts) 0 = some a from atI_nat (j := 0) rfl]; rfl
theorem ixl1 (a b : Tr) (ts : List Tr) : op2 ixT (.ok (.lst (a :: b :: ts))) (Rs.ok (.int 1)) = .ok b := by
  show okO (L2.atI (a :: b :: ts) 1) = _
  rw [show L2.atI (a :: b :: ts) 1 = some b from atI_nat (j := 1) rfl]; rfl
theorem ixl2 (a b c : Tr) (ts : List Tr) : op2 ixT (.ok (.lst (a :: b :: c :: ts))) (Rs.ok (.int 2)) = .ok c := by
  show okO (L2.atI (a :: b :: c :: ts) 2) = _
  rw [show L2.atI (a :: b :: c :: ts) 2 = some c from atI_nat (j := 2) rfl]; rfl
theorem ixl3 (a b c d : Tr) (ts : List Tr) : op2 ixT (.ok (.lst (a :: b :: c :: d :: ts))) (Rs.ok (.int 3)) = .ok d := by
  show okO (L2.atI (a :: b :: c :: d :: ts) 3) = _
  rw [show L2.atI (a :: b :: c :: d :: ts) 3 = some d from atI_nat (j := 3) rfl]; rfl
theorem mirSE {n m : Nat} {G : Rho → Ab → Rz Out} {ts : List Tr} {A : Ab} (h : ts.length = n) : mirS n m G ts A = bodyS (G (startT m ts) A) := if_pos h
def TX (z : Str) : Prop := z.length ≤ 150 ∧ SG z
theorem tx_repr {z : Str} (h : TX z) (p : Str) (hp : p.length ≤ 100) : jCons (Rs.ok (.str p)) (fun acc => jCons ((Rs.ok (.str z)).bind reprT) (fun acc => jNil acc) acc) Str.empty = .ok (.str (Str.empty ++ p ++ reprText z)) := by
  have hl : (reprText z).length ≤ 1502 := by
    have q := StrLaws.reprText_len z fun c m => Nat.lt_trans (h.2 c m) (by decide)
    have := h.1
    omega
  have e1 : reprT (.str z) = .ok (.str (reprText z)) := if_pos (by unfold txMax; omega)
  have l0 : Str.empty.length = 0 := rfl
  have l1 : (Str.empty ++ p).length ≤ txMax := by rw [slen, l0]; unfold txMax; omega
  have l2 : (Str.empty ++ p ++ reprText z).length ≤ txMax := by rw [slen, slen, l0]; unfold txMax; omega
  show (if (Str.empty ++ p).length ≤ txMax then jCons (reprT (.str z)) (fun acc => jNil acc) (Str.empty ++ p) else .bad) = _
  rw [if_pos l1, e1]
  show (if (Str.empty ++ p ++ reprText z).length ≤ txMax then jNil (Str.empty ++ p ++ reprText z) else .bad) = _
  rw [if_pos l2]
  exact if_pos l2
theorem lt3 (n : Nat) : asB (ltC (.int (n : Int)) (.int 3)) = .ok (decide ((n : Int) < 3)) := rfl
theorem rz1 {r : Rs Tr} {A : Ab} {t : Tr} (h : r = .ok t) : consZ (liftZ r A) (fun A => .ok [] A) = .ok [t] A := by rw [h]; rfl
theorem raise1 {x : Str} {r : Rs Tr} {A : Ab} {t : Tr} (h : r = .ok t) : raiseZ x (consZ (liftZ r A) (fun A => .ok [] A)) = .exc (.str x) A := by rw [rz1 h]; rfl
def RowOf (z : Str) (A : Ab) (r : Rz Tr) : Prop := r = .exc (.str "NoLine") A ∨ ∃ a b c ps, r = .ok (.tup (a :: .str b :: .str c :: ps)) A ∧ FlT a ∧ b.length ≤ 150 ∧ c.length ≤ 150 ∧ (∀ p ∈ ps, FlT p) ∧ ps.length ≤ 151
theorem setZ_ok {i : Nat} {r : Rs Tr} {t : Tr} {ρ : Rho} {A : Ab} {G : Rho → Ab → Rz Out} (h : r = .ok t) : seqZ (setZ i (liftZ r A) ρ) G = G (ρ.set i (.sh t)) A := by rw [h]; rfl
theorem e_rowin {z : Str} (h : TX z) (A : Ab) : RowOf z A (m_row_in [.str z] A) := by
  have key : m_row_in [.str z] A = bodyS (g_row_in [.sh (.str z), .no, .no] A) := mirSE rfl
  rw [key]
  unfold g_row_in
  obtain ⟨h1, h2, h3⟩ := cut3 z
  generalize hzs : Txt.splitMax z ⟨#[32]⟩ 3 = zs at h1 h2 h3
  have es := split3 hzs
  rw [get0, setZ_ok es]
  rw [show ([.sh (.str z), .no, .no] : Rho).set 1 (.sh (.lst (zs.map .str))) = [.sh (.str z), .sh (.lst (zs.map .str)), .no] from rfl]
  have el : callR lenT (consR (getS [.sh (.str z), .sh (.lst (zs.map .str)), .no] 1) (.ok [])) = .ok (.int (zs.length : Int)) := by
    show Rs.ok (Tr.int (((zs.map Tr.str).length : Nat) : Int)) = _
    rw [List.length_map]
  rw [el, op2_ok, lt3, get0]
  by_cases hk : zs.length < 3
  · left
    rw [decide_eq_true (show (zs.length : Int) < 3 by omega)]
    show bodyS (seqZ (raiseZ "NoLine" (consZ (liftZ (jCons (Rs.ok (.str "too short for a line: ")) (fun acc => jCons ((Rs.ok (.str z)).bind reprT) (fun acc => jNil acc) acc) Str.empty) A) (fun A => .ok [] A))) _) = _
    rw [raise1 (tx_repr h _ (by decide))]
    rfl
  · right
    rw [decide_eq_false (show ¬ (zs.length : Int) < 3 by omega)]
    match zs, hk, h1, h2 with
    | [a, b, c], _, h1, _ =>
      have la := Nat.le_trans (h1 a (by simp)) h.1
      have lb := Nat.le_trans (h1 b (by simp)) h.1
      have lc := Nat.le_trans (h1 c (by simp)) h.1
      refine ⟨partT a, b, c, [], ?_, part_fl la, lb, lc, fun p m => (nomatch m), by decide⟩
      show bodyS (seqZ (setZ 2 (liftZ (tupR (consR (callR m_part_in (consR (op2 ixT (.ok (.lst [.str a, .str b, .str c])) (Rs.ok (.int 0))) (.ok []))) (consR (op2 ixT (.ok (.lst [.str a, .str b, .str c])) (Rs.ok (.int 1))) (consR (op2 ixT (.ok (.lst [.str a, .str b, .str c])) (Rs.ok (.int 2))) (.ok []))))) A) [.sh (.str z), .sh (.lst [.str a, .str b, .str c]), .no]) _) = _
      rw [ixl0, ixl1, ixl2, call1_ok, e_pin la]
      rfl
    | [a, b, c, d], _, h1, _ =>
      have la := Nat.le_trans (h1 a (by simp)) h.1
      have lb := Nat.le_trans (h1 b (by simp)) h.1
      have lc := Nat.le_trans (h1 c (by simp)) h.1
      have ld := Nat.le_trans (h1 d (by simp)) h.1
      obtain ⟨ps, ep, hp, hl⟩ := in_parts (w := c) ld
      refine ⟨partT a, b, c, ps, ?_, part_fl la, lb, lc, hp, hl⟩
      show bodyS (seqZ (setZ 2 (liftZ (tupR (consR (callR m_part_in (consR (op2 ixT (.ok (.lst [.str a, .str b, .str c, .str d])) (Rs.ok (.int 0))) (.ok []))) (consR (op2 ixT (.ok (.lst [.str a, .str b, .str c, .str d])) (Rs.ok (.int 1))) (consR (op2 ixT (.ok (.lst [.str a, .str b, .str c, .str d])) (Rs.ok (.int 2))) (.ok []))))) A) [.sh (.str z), .sh (.lst [.str a, .str b, .str c, .str d]), .no]) _) = _
      rw [ixl0, ixl1, ixl2, call1_ok, e_pin la]
      show bodyS (retZ (liftZ (op2 addT (.ok (.tup [partT a, .str b, .str c])) (callR m_parts_in (consR (op2 ixT (.ok (.lst [.str a, .str b, .str c, .str d])) (Rs.ok (.int 2))) (consR (op2 ixT (.ok (.lst [.str a, .str b, .str c, .str d])) (Rs.ok (.int 3))) (.ok []))))) A)) = _
      rw [ixl2, ixl3, call2_ok, ep, op2_ok]
      have ea : addT (.tup [partT a, .str b, .str c]) (.tup ps) = .ok (.tup ([partT a, .str b, .str c] ++ ps)) := if_pos (by
        show 3 + ps.length ≤ szT
        exact Nat.le_trans (Nat.add_le_add_left hl 3) (by decide))
      rw [ea]
      rfl
    | [], hk, _, _ => exact absurd (by show 0 < 3; decide) hk
    | [_], hk, _, _ => exact absurd (by show 1 < 3; decide) hk
    | [_, _], hk, _, _ => exact absurd (by show 2 < 3; decide) hk
    | _ :: _ :: _ :: _ :: _ :: _, _, _, h2 => simp only [List.length_cons] at h2; omega
theorem fl_pl {t : Tr} (h : FlT t) : plT t = true ∧ dT t = 0 ∧ flT t = true := by
  rcases h with rfl | ⟨m, rfl, _⟩ | ⟨z, rfl, _⟩
  · exact ⟨rfl, rfl, rfl⟩
  · exact ⟨rfl, rfl, rfl⟩
  · exact ⟨rfl, rfl, rfl⟩
theorem fls_pl : ∀ {ts : List Tr}, (∀ t ∈ ts, FlT t) → plTs ts = true ∧ dTs ts = 0
  | [], _ => ⟨rfl, rfl⟩
  | t :: ts, h => by
    obtain ⟨a, b, _⟩ := fl_pl (h t (List.mem_cons_self ..))
    obtain ⟨c, d⟩ := fls_pl (ts := ts) fun u m => h u (List.mem_cons_of_mem _ m)
    rw [plTs, dTs, a, b, c, d]
    exact ⟨rfl, rfl⟩
theorem nu_nb {t : Tr} (h : FlT t) (q : R.nuT t = true) : ∃ n, t = .int n ∧ NB n := by
  rcases h with rfl | ⟨m, rfl, hm⟩ | ⟨z, rfl, _⟩
  · cases q
  · exact ⟨_, rfl, m, rfl, by have := of_decide_eq_true q; omega, hm⟩
  · cases q
theorem nm_len {t : Tr} (h : FlT t) (q : R.nmT t = true) : ∃ z : Str, t = .str z ∧ z.length ≤ 6 := by
  rcases h with rfl | ⟨m, rfl, hm⟩ | ⟨z, rfl, _⟩
  · cases q
  · cases q
  · refine ⟨z, rfl, ?_⟩
    have q' : (decide ((1 : Int) ≤ z.length) && (decide ((z.length : Int) ≤ 6) && (sgnT z).all R.letV)) = true := q
    rw [Bool.and_eq_true, Bool.and_eq_true] at q'
    have := of_decide_eq_true q'.2.1
    omega
theorem wd_len {t : Tr} (h : FlT t) (q : R.wdT t = true) : ∃ z : Str, t = .str z ∧ z.length ≤ 60 := by
  rcases h with rfl | ⟨m, rfl, hm⟩ | ⟨z, rfl, _⟩
  · cases q
  · cases q
  · refine ⟨z, rfl, ?_⟩
    have q' : (decide ((1 : Int) ≤ z.length) && decide ((z.length : Int) ≤ 60)) = true := q
    rw [Bool.and_eq_true] at q'
    have := of_decide_eq_true q'.2
    omega
theorem an_ok {t : Tr} (h : FlT t) (q : R.anT t = true) : t = .non ∨ ∃ n, t = .int n ∧ NB n := by
  rcases h with rfl | ⟨m, rfl, hm⟩ | ⟨z, rfl, _⟩
  · exact .inl rfl
  · exact .inr (nu_nb (.inr (.inl ⟨m, rfl, hm⟩)) q)
  · cases q
theorem inz_mem {t : Tr} {zs : List Str} (h : FlT t) (q : R.inz t zs = true) : ∃ z, t = .str z ∧ z ∈ zs := by
  unfold R.inz at q
  obtain ⟨y, hy, e⟩ := List.any_eq_true.mp q
  rcases h with rfl | ⟨m, rfl, hm⟩ | ⟨z, rfl, _⟩
  · cases e
  · cases e
  · have e' : (y == z) = true := e
    rw [← eq_of_beq e']
    exact ⟨y, rfl, hy⟩
theorem eqT_str {c : Str} {w : Str} (h : eqT (.str c) (.str w) = true) : c = w := eq_of_beq h
theorem len1 {ps : List Tr} (h : ((ps.length : Int) == 1) = true) : ∃ a, ps = [a] := by
  have h' := eq_of_beq h
  match ps, h' with
  | [a], _ => exact ⟨a, rfl⟩
  | [], h' => exact absurd h' (by decide)
  | _ :: _ :: _, h' => simp only [List.length_cons] at h'; omega
theorem len2 {ps : List Tr} (h : ((ps.length : Int) == 2) = true) : ∃ a b, ps = [a, b] := by
  have h' := eq_of_beq h
  match ps, h' with
  | [a, b], _ => exact ⟨a, b, rfl⟩
  | [], h' => exact absurd h' (by decide)
  | [_], h' => exact absurd h' (by show ¬ ((1 : Nat) : Int) = 2; decide)
  | _ :: _ :: _ :: _, h' => simp only [List.length_cons] at h'; omega
theorem whom_ok : ∀ z ∈ R.whom, wN z = true ∧ z.length ≤ 6 := by decide +kernel
theorem sets_ok : ∀ p ∈ R.sets, p.1.length ≤ 10 ∧ ∀ z ∈ p.2, z.length ≤ 10 := by decide +kernel
theorem rls_ok : ∀ z ∈ R.rls, z.length ≤ 10 := by decide +kernel
theorem bare_ok : ∀ z ∈ R.bare, z ∈ M38.bare := by decide +kernel
theorem lookup_mem {α : Type} {z : Str} : ∀ {l : List (Str × α)} {a : α}, l.lookup z = some a → ∃ y, (y, a) ∈ l ∧ y = z
  | [], _, h => by cases h
  | (y, b) :: l, a, h => by
    rw [List.lookup_cons] at h
    cases e : (z == y) with
    | true => rw [e] at h; cases h; exact ⟨y, List.mem_cons_self .., (eq_of_beq e).symm⟩
    | false =>
      rw [e] at h
      obtain ⟨x, m, q⟩ := lookup_mem (l := l) h
      exact ⟨x, List.mem_cons_of_mem _ m, q⟩
theorem pa_rp {c : Str} {ps : List Tr} (hp : ∀ p ∈ ps, FlT p) (q : R.paT (.str c) ps = true) : RP c ps := by
  unfold R.paT at q
  have hc : ∀ zs, R.inz (.str c) zs = true → c ∈ zs := fun zs h => by
    unfold R.inz at h
    obtain ⟨y, hy, e⟩ := List.any_eq_true.mp h
    rw [← eqT_str e]
    exact hy
  by_cases h1 : R.inz (.str c) R.bare = true
  · rw [if_pos h1] at q
    have e : ps = [] := by
      cases ps with
      | nil => rfl
      | cons a r => have := eq_of_beq q; simp only [List.length_cons] at this; omega
    subst e
    exact .bare (bare_ok _ (hc _ h1))
  rw [if_neg h1] at q
  by_cases h2 : R.inz (.str c) R.whom = true
  · rw [if_pos h2, Bool.and_eq_true] at q
    obtain ⟨a, rfl⟩ := len1 q.1
    obtain ⟨z, e, l⟩ := nm_len (hp a (List.mem_singleton.mpr rfl)) q.2
    obtain ⟨w1, w2⟩ := whom_ok c (hc _ h2)
    subst e
    exact .nm1 w1 w2 (Nat.le_trans l (by decide))
  rw [if_neg h2] at q
  by_cases h3 : eqT (.str c) (.str "gone") = true
  · rw [if_pos h3, Bool.and_eq_true] at q
    obtain ⟨a, rfl⟩ := len1 q.1
    obtain ⟨n, e, hn⟩ := nu_nb (hp a (List.mem_singleton.mpr rfl)) q.2
    subst e
    rw [eqT_str h3]
    exact .gone hn
  rw [if_neg h3, Bool.and_eq_true] at q
  obtain ⟨a, b, rfl⟩ := len2 q.1
  have ha := hp a (by simp)
  have hb := hp b (by simp)
  have q := q.2
  have q : R.twT (.str c) a b = true := q
  unfold R.twT at q
  by_cases h4 : eqT (.str c) (.str "set") = true
  · rw [if_pos h4] at q
    rw [eqT_str h4]
    rcases ha with rfl | ⟨m, rfl, hm⟩ | ⟨z, rfl, _⟩
    · cases q
    · cases q
    · have q' : (match R.sets.lookup z with | some zs => R.inz b zs | none => false) = true := q
      cases e : R.sets.lookup z with
      | none => rw [e] at q'; cases q'
      | some zs =>
        rw [e] at q'
        obtain ⟨y, m, rfl⟩ := lookup_mem e
        obtain ⟨x, rfl, mx⟩ := inz_mem hb q'
        have s := sets_ok _ m
        exact .nm2 (by decide) (by decide) s.1 (s.2 _ mx)
  rw [if_neg h4] at q
  by_cases h5 : eqT (.str c) (.str "role") = true
  · rw [if_pos h5, Bool.and_eq_true] at q
    rw [eqT_str h5]
    obtain ⟨z, rfl, l⟩ := nm_len ha q.1
    obtain ⟨x, rfl, mx⟩ := inz_mem hb q.2
    exact .nm2 (by decide) (by decide) (Nat.le_trans l (by decide)) (rls_ok _ mx)
  rw [if_neg h5] at q
  by_cases h6 : eqT (.str c) (.str "say") = true
  · rw [if_pos h6, Bool.and_eq_true] at q
    rw [eqT_str h6]
    obtain ⟨z, rfl, l⟩ := wd_len ha q.1
    exact .say l (an_ok hb q.2)
  rw [if_neg h6] at q
  by_cases h7 : eqT (.str c) (.str "mend") = true
  · rw [if_pos h7, Bool.and_eq_true] at q
    rw [eqT_str h7]
    obtain ⟨n, rfl, hn⟩ := nu_nb ha q.1
    obtain ⟨z, rfl, l⟩ := wd_len hb q.2
    exact .mend hn l
  rw [if_neg h7] at q
  cases q
def IsRow (z : Str) (n : Int) (who w : Str) (ps : List Tr) : Prop := NB n ∧ who.length ≤ 6 ∧ RP w ps ∧ m_is_row [.tup (.int n :: .str who :: .str w :: ps)] = .ok (.bl true) ∧ lineS n who w ps = z
theorem neS (a b : Str) : neC (.str a) (.str b) = .ok (.bl (!(a == b))) := if_pos ⟨rfl, rfl, by show 0 ≤ 40; decide⟩
theorem e_read {z : Str} (h : TX z) (A : Ab) : m_read_line [.str z] A = .exc (.str "NoLine") A ∨ ∃ n who w ps, m_read_line [.str z] A = .ok (.tup (.int n :: .str who :: .str w :: ps)) A ∧ IsRow z n who w ps := by
  have key : m_read_line [.str z] A = bodyS (g_read_line [.sh (.str z), .no] A) := mirSE rfl
  rw [key]
  unfold g_read_line
  have e0 : (consZ (liftZ (getS [.sh (.str z), .no] 0) A) (fun A => (.ok [] A))).bind m_row_in = m_row_in [.str z] A := rfl
  rw [e0]
  have no : ∀ {r : Rs Bool} {t : Tr}, r = .ok true → seqZ (ifZ (liftZ r A) (fun A => raiseZ "NoLine" (consZ (liftZ (jCons (Rs.ok (.str "the line of no row: ")) (fun acc => jCons ((Rs.ok (.str z)).bind reprT) (fun acc => jNil acc) acc) Str.empty) A) (fun A => (.ok [] A)))) (fun A => .ok (.nx [.sh (.str z), .sh t]) A)) (fun ρ A => retZ (liftZ (getS ρ 1) A)) = .exc (.str "NoLine") A := by
    intro r t hr
    rw [hr]
    show seqZ (raiseZ "NoLine" (consZ (liftZ (jCons (Rs.ok (.str "the line of no row: ")) (fun acc => jCons ((Rs.ok (.str z)).bind reprT) (fun acc => jNil acc) acc) Str.empty) A) (fun A => .ok [] A))) _ = _
    rw [raise1 (tx_repr h _ (by decide))]
    rfl
  rcases e_rowin h A with e | ⟨a, b, c, ps, e, ha, lb, lc, hp, hl⟩
  · left
    rw [e]
    rfl
  rw [e]
  have hpl : plTs (a :: .str b :: .str c :: ps) = true ∧ dTs (a :: .str b :: .str c :: ps) = 0 := fls_pl fun t m => by
    rcases List.mem_cons.mp m with rfl | m
    · exact ha
    rcases List.mem_cons.mp m with rfl | m
    · exact .inr (.inr ⟨_, rfl, lb⟩)
    rcases List.mem_cons.mp m with rfl | m
    · exact .inr (.inr ⟨_, rfl, lc⟩)
    · exact hp t m
  have er : m_is_row [.tup (a :: .str b :: .str c :: ps)] = .ok (.bl (R.rwT (.tup (a :: .str b :: .str c :: ps)))) := R.e_row _ hpl.1 (by rw [dT, hpl.2]; decide)
  show bodyS (seqZ (ifZ (liftZ (orB (notB ((m_is_row [.tup (a :: .str b :: .str c :: ps)]).bind truT)) (asB (op2 neC (m_line_of [.tup (a :: .str b :: .str c :: ps)]) (.ok (.str z))))) A) (fun A => raiseZ "NoLine" (consZ (liftZ (jCons (Rs.ok (.str "the line of no row: ")) (fun acc => jCons ((Rs.ok (.str z)).bind reprT) (fun acc => jNil acc) acc) Str.empty) A) (fun A => (.ok [] A)))) (fun A => .ok (.nx [.sh (.str z), .sh (.tup (a :: .str b :: .str c :: ps))]) A)) (fun ρ A => retZ (liftZ (getS ρ 1) A))) = _ ∨ ∃ n who w qs, bodyS (seqZ (ifZ (liftZ (orB (notB ((m_is_row [.tup (a :: .str b :: .str c :: ps)]).bind truT)) (asB (op2 neC (m_line_of [.tup (a :: .str b :: .str c :: ps)]) (.ok (.str z))))) A) (fun A => raiseZ "NoLine" (consZ (liftZ (jCons (Rs.ok (.str "the line of no row: ")) (fun acc => jCons ((Rs.ok (.str z)).bind reprT) (fun acc => jNil acc) acc) Str.empty) A) (fun A => (.ok [] A)))) (fun A => .ok (.nx [.sh (.str z), .sh (.tup (a :: .str b :: .str c :: ps))]) A)) (fun ρ A => retZ (liftZ (getS ρ 1) A))) = _ ∧ _
  cases hr : R.rwT (.tup (a :: .str b :: .str c :: ps)) with
  | false =>
    left
    rw [er, hr, no (r := orB (notB ((Rs.ok (.bl false)).bind truT)) _) rfl]
    rfl
  | true =>
    have hr' : (decide (3 ≤ (a :: .str b :: .str c :: ps : List Tr).length) && (R.nuT a && (R.nmT (.str b) && R.paT (.str c) ps))) = true := hr
    rw [Bool.and_eq_true, Bool.and_eq_true, Bool.and_eq_true] at hr'
    obtain ⟨n, rfl, hn⟩ := nu_nb ha hr'.2.1
    obtain ⟨b', eb, l6⟩ := nm_len (.inr (.inr ⟨b, rfl, lb⟩)) hr'.2.2.1
    cases eb
    have hg := pa_rp hp hr'.2.2.2
    have eL := e_lineof hn l6 hg
    rw [er, hr, eL, op2_ok, neS]
    cases hz : (lineS n b c ps == z) with
    | false =>
      left
      rw [no (r := orB (notB ((Rs.ok (.bl true)).bind truT)) (asB (.ok (.bl (!false))))) rfl]
      rfl
    | true =>
      right
      refine ⟨n, b, c, ps, rfl, hn, l6, hg, ?_, eq_of_beq hz⟩
      rw [er, hr]
end M38
namespace M38
open PySem L2
theorem rp_tu {w : Str} {ps : List Tr} (h : RP w ps) : tuFs ps = true ∧ noAts ps = true := by
  cases h with
  | bare h => exact ⟨rfl, rfl⟩
  | nm1 h h6 hx => exact ⟨rfl, rfl⟩
  | nm2 h h6 hx hy => exact ⟨rfl, rfl⟩
  | say h2 ha =>
    rcases ha with rfl | ⟨k, rfl, hk⟩
    · exact ⟨rfl, rfl⟩
    · exact ⟨rfl, rfl⟩
  | mend hn h2 => exact ⟨rfl, rfl⟩
  | gone hn => exact ⟨rfl, rfl⟩
theorem e_word : m_w_word [.exn "NoLine"] = .ok (.str "no line") := isS_ok (by decide +kernel)
theorem mirZE {n m : Nat} {G : Rho → Ab → Rz Out} {ts : List Tr} (h : ts.length = n) (q : noAts ts = true) : mirZ n m G ts = bodyZ (G (startT m ts) []) := if_pos ⟨h, q⟩
def errs : List Str := ["Known", "NoPerson", "NoRoom", "NotIn", "NotAsked", "Barred", "NoRight", "NoRow", "NoHand", "NoLine"]
theorem e_wread {z : Str} (h : TX z) : m_w_read [.str z] = .ok (.str "no line") ∨ ∃ n who w ps, m_w_read [.str z] = .ok (.tup (.int n :: .str who :: .str w :: ps)) ∧ IsRow z n who w ps := by
  have key : m_w_read [.str z] = bodyZ (seqZ (tryZ 4 3 errs (setZ 2 (m_read_line [.str z] []) [.sh (.str z), .sh .non, .sh .non, .no]) (fun ρ A => setZ 1 (liftZ (getS ρ 3) A) ρ)) fun ρ A => retZ (flZ ((fun ρ => (iteR (asB (op2 isC (getS ρ 1) (Rs.ok .non))) (getS ρ 2) (callR m_w_word (consR (getS ρ 1) (.ok []))))) (thawR A ρ)) A)) := mirZE rfl rfl
  rw [key]
  rcases e_read h [] with e | ⟨n, who, w, ps, e, hr⟩
  · left
    rw [e]
    show bodyZ (retZ (flZ (callR m_w_word (consR (Rs.ok (.exn "NoLine")) (.ok []))) [.exo "NoLine"])) = _
    rw [call1_ok, e_word]
    rfl
  · right
    refine ⟨n, who, w, ps, ?_, hr⟩
    obtain ⟨t1, t2⟩ := rp_tu hr.2.2.1
    rw [e]
    show bodyZ (retZ (flZ (.ok (.tup (.int n :: .str who :: .str w :: ps))) [])) = _
    have f1 : tuF (.tup (.int n :: .str who :: .str w :: ps)) = true := t1
    have f2 : noAt (.tup (.int n :: .str who :: .str w :: ps)) = true := t2
    have e1 : flZ (.ok (.tup (.int n :: .str who :: .str w :: ps))) [] = .ok (.tup (.int n :: .str who :: .str w :: ps)) [] := if_pos f1
    rw [e1]
    exact if_pos f2
theorem e_right {z : Str} (h : TX z) : m_w_is_right [.str z] = .ok (.bl true) := by
  have key : m_w_is_right [.str z] = bodyR (seqO (setO 1 (m_w_read [.str z]) [.sh (.str z), .no]) fun ρ => seqO (ifO ((callR isiT (consR (getS ρ 1) (consR (Rs.ok (.ty "str")) (.ok [])))).bind truT) (retO (op2 eqC (getS ρ 1) (Rs.ok (.str "no line")))) (.ok (.nx ρ))) fun ρ => retO (andV (op2 isC (callR m_is_row (consR (getS ρ 1) (.ok []))) (Rs.ok (.bl true))) (op2 eqC (callR m_w_line (consR (getS ρ 1) (.ok []))) (getS ρ 0)))) := mirE rfl
  rw [key]
  rcases e_wread h with e | ⟨n, who, w, ps, e, hn, hw, hg, hr, hz⟩
  · rw [e]; rfl
  · obtain ⟨h6, h2, hp⟩ := rp_ok hg
    rw [e]
    show bodyR (retO (andV (op2 isC (m_is_row [.tup (.int n :: .str who :: .str w :: ps)]) (Rs.ok (.bl true))) (op2 eqC (m_w_line [.tup (.int n :: .str who :: .str w :: ps)]) (.ok (.str z))))) = _
    rw [hr, e_line hn hw h6 h2 hp, hz, op2_ok, op2_ok, eqS, beq_self_eq_true]
    rfl
theorem sg_app {a b : Str} (h : SG a) (q : SG b) : SG (a ++ b) := fun c m => by
  rw [Str.cps_append, Array.toList_append] at m
  rcases List.mem_append.mp m with m | m
  · exact h c m
  · exact q c m
theorem sg_sub {a : Str} {l : List Nat} (h : SG a) (q : ∀ c ∈ l, c ∈ a.cps.toList) : SG ⟨l.toArray⟩ := fun c m => h c (q c m)
theorem sg_strI {n : Int} (h : NB n) : SG (strI n) := by
  obtain ⟨m, rfl, _, _⟩ := h
  rw [strI_dg]
  exact fun c q => by have := dg_all m c q; omega
theorem sg_esc : ∀ {cs : List Nat}, (∀ c ∈ cs, c < 128) → SG (escL cs)
  | [], _ => fun c m => (nomatch m)
  | c :: cs, h => sg_app (by
      unfold escC
      have hc := h c (List.mem_cons_self ..)
      split
      · intro d m
        rcases List.mem_cons.mp m with rfl | m
        · decide
        · rw [List.mem_singleton.mp m]; exact hc
      · intro d m
        rw [List.mem_singleton.mp m]; exact hc) (sg_esc fun d m => h d (List.mem_cons_of_mem _ m))
def sgB (z : Str) : Bool := z.cps.toList.all fun c => decide (c < 128)
theorem sg_of {z : Str} (h : sgB z = true) : SG z := fun c m => of_decide_eq_true (List.all_eq_true.mp h c m)
theorem nb2_len {n : Int} (h0 : 1 ≤ n) (h1 : n ≤ 99) : (strI n).length ≤ 2 := by
  obtain ⟨m, rfl⟩ : ∃ m : Nat, n = (m : Int) := ⟨n.toNat, by omega⟩
  rw [strI_dg]
  have := dg_len (m := m) (k := 2) (by decide) (by show m < 100; omega)
  show (dg m).toArray.size ≤ 2
  rw [List.size_toArray]
  exact this
theorem nms_ok : ∀ z ∈ nms, z.length ≤ 6 ∧ sgB z = true := by decide +kernel
theorem six_ok : ∀ p ∈ six, p.1.length ≤ 6 ∧ p.2.length ≤ 6 ∧ sgB p.1 = true ∧ sgB p.2 = true := by decide +kernel
theorem rl_ok : ∀ z ∈ rls, z.length ≤ 7 ∧ sgB z = true := by decide +kernel
theorem whom_ok2 : ∀ z ∈ M38.whom, wN z = true ∧ z.length ≤ 6 ∧ sgB z = true := by decide +kernel
theorem bare_ok2 : ∀ z ∈ M38.bare, sgB z = true := by decide +kernel
theorem quo_ok {z : Str} (h : z.length ≤ 60) (hs : SG z) : (ptx true (.str z)).length ≤ 122 ∧ SG (ptx true (.str z)) := by
  have q := escL_len z.cps.toList
  have l1 : ("\"" : Str).length = 1 := by decide
  rw [lenL] at q
  have hq : SG "\"" := sg_of (by decide +kernel)
  refine ⟨?_, sg_app hq (sg_app (sg_esc hs) hq)⟩
  show ("\"" ++ (escL z.cps.toList ++ "\"") : Str).length ≤ 122
  rw [slen, slen, l1]
  omega
theorem gp_rp {w : Str} {ps : List Tr} (h : GP w ps) : RP w ps ∧ SG w ∧ (ptsS w 0 ps).length ≤ 126 ∧ SG (ptsS w 0 ps) := by
  have lb : (" " : Str).length = 1 := by decide
  have sb : SG " " := sg_of (by decide +kernel)
  have se : SG "" := sg_of (by decide +kernel)
  have one : ∀ {w : Str} {p : Tr}, (ptx (isQ w 0) p).length ≤ 125 → SG (ptx (isQ w 0) p) → (ptsS w 0 [p]).length ≤ 126 ∧ SG (ptsS w 0 [p]) := fun {w p} h1 h2 => by
    have e : ptsS w 0 [p] = " " ++ ptx (isQ w 0) p := by show (" " ++ ptx (isQ w 0) p) ++ "" = _; rw [sapp0]
    rw [e, slen, lb]
    exact ⟨by omega, sg_app sb h2⟩
  have two : ∀ {w : Str} {p q : Tr}, (ptx (isQ w 0) p).length + (ptx (isQ w 1) q).length ≤ 124 → SG (ptx (isQ w 0) p) → SG (ptx (isQ w 1) q) → (ptsS w 0 [p, q]).length ≤ 126 ∧ SG (ptsS w 0 [p, q]) := fun {w p q} h1 h2 h3 => by
    have e : ptsS w 0 [p, q] = (" " ++ ptx (isQ w 0) p) ++ (" " ++ ptx (isQ w 1) q) := by show (" " ++ ptx (isQ w 0) p) ++ ((" " ++ ptx (isQ w 1) q) ++ "") = _; rw [sapp0]
    rw [e, slen, slen, slen, lb]
    exact ⟨by omega, sg_app (sg_app sb h2) (sg_app sb h3)⟩
  cases h with
  | bare h => exact ⟨.bare h, sg_of (bare_ok2 _ h), by show (("" : Str)).length ≤ 126; decide, se⟩
  | @set p h =>
    obtain ⟨a, b, c, d⟩ := six_ok p h
    exact ⟨.nm2 (by decide) (by decide) (by omega) (by omega), sg_of (by decide +kernel), two (w := "set") (p := .str p.1) (q := .str p.2) (by show p.1.length + p.2.length ≤ 124; omega) (sg_of c) (sg_of d)⟩
  | @whom w x h hx =>
    obtain ⟨w1, w2, w3⟩ := whom_ok2 w h
    obtain ⟨a, b⟩ := nms_ok x hx
    have e : ptx (isQ w 0) (.str x) = x := by rw [isQ_no w1]; rfl
    exact ⟨.nm1 w1 w2 (by omega), sg_of w3, one (by rw [e]; omega) (by rw [e]; exact sg_of b)⟩
  | @role x r hx hr =>
    obtain ⟨a, b⟩ := nms_ok x hx
    obtain ⟨c, d⟩ := rl_ok r hr
    exact ⟨.nm2 (by decide) (by decide) (by omega) (by omega), sg_of (by decide +kernel), two (w := "role") (p := .str x) (q := .str r) (by show x.length + r.length ≤ 124; omega) (sg_of b) (sg_of d)⟩
  | @say z a h1 h2 hs ha =>
    obtain ⟨q1, q2⟩ := quo_ok h2 hs
    rcases ha with rfl | ⟨k, rfl, k1, k2⟩
    · exact ⟨.say h2 (.inl rfl), sg_of (by decide +kernel), two (w := "say") (p := .str z) (q := .non) (by show (ptx true (.str z)).length + ("-" : Str).length ≤ 124; have : ("-" : Str).length = 1 := (by decide); omega) q2 (sg_of (by decide +kernel))⟩
    · have nb := nb_small k1 (by omega)
      have l := nb2_len k1 (by omega)
      exact ⟨.say h2 (.inr ⟨k, rfl, nb⟩), sg_of (by decide +kernel), two (w := "say") (p := .str z) (q := .int k) (by show (ptx true (.str z)).length + (strI k).length ≤ 124; omega) q2 (sg_strI nb)⟩
  | @mend k z hk h1 h2 hs =>
    obtain ⟨q1, q2⟩ := quo_ok h2 hs
    have nb := nb_small hk.1 (by omega)
    have l := nb2_len hk.1 (by omega)
    exact ⟨.mend nb h2, sg_of (by decide +kernel), two (w := "mend") (p := .int k) (q := .str z) (by show (strI k).length + (ptx true (.str z)).length ≤ 124; omega) (sg_strI nb) q2⟩
  | @gone k hk =>
    have nb := nb_small hk.1 (by omega)
    have l := nb2_len hk.1 (by omega)
    exact ⟨.gone nb, sg_of (by decide +kernel), one (w := "gone") (p := .int k) (by show (strI k).length ≤ 125; omega) (sg_strI nb)⟩
def TL (z : Str) (k : Nat) : Prop := z.length ≤ 142 + k ∧ SG z
theorem tl_tx {z : Str} {k : Nat} (h : TL z k) (hk : k ≤ 8) : TX z := ⟨by have := h.1; omega, h.2⟩
theorem e_drawn (c : Int) : ∃ t z, m_w_any_row [.int c] = .ok t ∧ m_w_line [t] = .ok (.str z) ∧ TL z 0 := by
  obtain ⟨t, e, n, who, w, ps, rfl, hn, hw, hp⟩ := e_any c
  obtain ⟨r, sw, lp, sp⟩ := gp_rp hp
  obtain ⟨h6, h2, hk⟩ := rp_ok r
  obtain ⟨n6, ns⟩ := nms_ok who hw
  have nb := nb_small hn.1 hn.2
  have l2 := nb2_len hn.1 hn.2
  have lb : (" " : Str).length = 1 := by decide
  have sb : SG " " := sg_of (by decide +kernel)
  refine ⟨_, _, e, e_line nb n6 h6 h2 hk, ?_, ?_⟩
  · unfold lineS
    rw [slen, slen, slen, slen, slen, lb]
    omega
  · exact sg_app (sg_app (sg_strI nb) (sg_app sb (sg_app (sg_of ns) (sg_app sb sw)))) sp
theorem sl_to {x : Str} {i : Int} (h0 : 0 ≤ i) (h1 : i ≤ x.length) : Txt.slice x none (some i) = ⟨(x.cps.toList.take i.toNat).toArray⟩ := by
  have q := StrLaws.sliceText_to (x := x) (j := i) ⟨h0, by rw [lenL]; exact h1⟩
  rw [List.drop_zero, Int.sub_zero] at q
  exact q
theorem sl_from {x : Str} {i : Int} (h0 : 0 ≤ i) : Txt.slice x (some i) none = ⟨(x.cps.toList.drop i.toNat).toArray⟩ := by
  have base : ∀ i : Int, 0 ≤ i → i ≤ x.length → Txt.slice x (some i) none = ⟨(x.cps.toList.drop i.toNat).toArray⟩ := fun i h0 h1 => by
    have q := StrLaws.sliceText_from (x := x) (i := i) ⟨h0, by rw [lenL]; exact h1⟩
    rw [List.take_of_length_le (by rw [List.length_drop, lenL]; omega)] at q
    exact q
  by_cases h1 : i ≤ x.length
  · exact base i h0 h1
  · have e : Builtin.Str.strSliceIndices (some i) none 1 x.length = Builtin.Str.strSliceIndices (some (x.length : Int)) none 1 x.length := by
      have a : ¬ i < 0 := by omega
      have b : ¬ ((x.length : Int) < 0) := by omega
      have m1 : min i (x.length : Int) = (x.length : Int) := by omega
      simp [Builtin.Str.strSliceIndices, a, b, m1]
    have e2 : Txt.slice x (some i) none = Txt.slice x (some (x.length : Int)) none := by unfold Txt.slice; rw [e]
    rw [e2, base _ (by omega) (Int.le_refl _)]
    rw [List.drop_eq_nil_of_le (by rw [lenL]; omega), List.drop_eq_nil_of_le (by rw [lenL]; omega)]
theorem slT_ok {x y : Str} {l u : Option Int} (h : Txt.slice x l u = y) (hy : y.length ≤ txMax) : slT (.str x) l u = .ok (.str y) := by
  subst h
  exact if_pos hy
theorem len_arr (l : List Nat) : (⟨l.toArray⟩ : Str).length = l.length := by show l.toArray.size = _; exact List.size_toArray
def chs : Str := " \"\\-019abenst"
theorem chs_len : chs.length = 13 := by decide +kernel
theorem chs_cps : chs.cps.toList.length = 13 := by decide +kernel
theorem chs_sg : ∀ i, i < 13 → chs.cps.toList.getD i 0 < 128 := by decide +kernel
theorem ifret {b : Bool} {r : Rs Tr} {ρ : Rho} {G : Rho → Rs Out} : bodyR (seqO (ifO (.ok b) (retO r) (.ok (.nx ρ))) G) = if b = true then r else bodyR (G ρ) := by cases b <;> cases r <;> rfl
theorem e_changed {z : Str} {k : Nat} (h : TL z k) (hk : k ≤ 5) (c : Int) : ∃ y, m_w_changed [.str z, .int c] = .ok (.str y) ∧ TL y (k + 1) := by
  obtain ⟨hl, hs⟩ := h
  have M := fun (c p m : Int) (hp : 0 < p) (hp2 : p ≤ 1048576) (hm : 0 < m) => e_mix c p m hp hp2 hm
  obtain ⟨a0, a1⟩ := mix_in (c := c) (p := 9817) (m := (z.length : Int) + 1) (by omega)
  obtain ⟨b0, b1⟩ := mix_in (c := c) (p := 9811) (m := 13) (by decide)
  obtain ⟨d0, d1⟩ := mix_in (c := c) (p := 9803) (m := 3) (by decide)
  have key : m_w_changed [.str z, .int c] = bodyR (g_w_changed [.sh (.str z), .sh (.int c), .no, .no, .no, .no]) := mirE rfl
  rw [key]
  unfold g_w_changed
  have e1 : callR m_w_mix (consR (getS [.sh (.str z), .sh (.int c), .no, .no, .no, .no] 1) (consR (Rs.ok (.int 9817)) (consR (op2 addT (callR lenT (consR (getS [.sh (.str z), .sh (.int c), .no, .no, .no, .no] 0) (.ok []))) (Rs.ok (.int 1))) (.ok [])))) = .ok (.int (mix c 9817 ((z.length : Int) + 1))) := M c 9817 _ (by decide) (by decide) (by omega)
  rw [e1]
  generalize hat : mix c 9817 ((z.length : Int) + 1) = at_ at a0 a1
  let ρ1 : Rho := [.sh (.str z), .sh (.int c), .sh (.int at_), .sh (.str chs), .no, .no]
  have e2 : op2 ixT (getS ρ1 3) (callR m_w_mix (consR (getS ρ1 1) (consR (Rs.ok (.int 9811)) (consR (callR lenT (consR (getS ρ1 3) (.ok []))) (.ok []))))) = .ok (.str ⟨#[chs.cps.toList.getD (mix c 9811 13).toNat 0]⟩) := by
    show op2 ixT (.ok (.str chs)) (m_w_mix [.int c, .int 9811, .int (chs.length : Int)]) = _
    rw [chs_len]
    show op2 ixT (.ok (.str chs)) (m_w_mix [.int c, .int 9811, .int 13]) = _
    rw [M c 9811 13 (by decide) (by decide) (by decide)]
    show (okO (L2.atI chs.cps.toList (mix c 9811 13))).bind (fun ch => Rs.ok (Tr.str ⟨#[ch]⟩)) = _
    rw [atIn 0 b0 (by rw [chs_cps]; exact b1)]
    rfl
  show ∃ y, bodyR (seqO (setO 4 (op2 ixT (getS ρ1 3) (callR m_w_mix (consR (getS ρ1 1) (consR (Rs.ok (.int 9811)) (consR (callR lenT (consR (getS ρ1 3) (.ok []))) (.ok [])))))) ρ1) _) = _ ∧ _
  rw [e2]
  have hsg := chs_sg (mix c 9811 13).toNat (by omega)
  generalize hsi : chs.cps.toList.getD (mix c 9811 13).toNat 0 = si at hsg
  show ∃ y, bodyR (seqO (setO 5 (m_w_mix [.int c, .int 9803, .int 3]) [.sh (.str z), .sh (.int c), .sh (.int at_), .sh (.str chs), .sh (.str ⟨#[si]⟩), .no]) _) = _ ∧ _
  rw [M c 9803 3 (by decide) (by decide) (by decide)]
  generalize mix c 9803 3 = kind at d0 d1
  have hlz : z.cps.toList.length = z.length := lenL z
  have t1 : slT (.str z) none (some at_) = .ok (.str ⟨(z.cps.toList.take at_.toNat).toArray⟩) := slT_ok (sl_to a0 (by omega)) (by rw [len_arr, List.length_take]; unfold txMax; omega)
  have t2 : slT (.str z) (some at_) none = .ok (.str ⟨(z.cps.toList.drop at_.toNat).toArray⟩) := slT_ok (sl_from a0) (by rw [len_arr, List.length_drop]; unfold txMax; omega)
  have t3 : slT (.str z) (some (at_ + 1)) none = .ok (.str ⟨(z.cps.toList.drop (at_ + 1).toNat).toArray⟩) := slT_ok (sl_from (by omega)) (by rw [len_arr, List.length_drop]; unfold txMax; omega)
  have s1 : SG ⟨(z.cps.toList.take at_.toNat).toArray⟩ := sg_sub hs fun c m => List.mem_of_mem_take m
  have s2 : SG ⟨(z.cps.toList.drop at_.toNat).toArray⟩ := sg_sub hs fun c m => List.mem_of_mem_drop m
  have s3 : SG ⟨(z.cps.toList.drop (at_ + 1).toNat).toArray⟩ := sg_sub hs fun c m => List.mem_of_mem_drop m
  have ss : SG ⟨#[si]⟩ := fun c m => by rw [List.mem_singleton.mp m]; exact hsg
  have n1 : (⟨(z.cps.toList.take at_.toNat).toArray⟩ : Str).length = at_.toNat := by rw [len_arr, List.length_take]; omega
  have n2 : (⟨(z.cps.toList.drop at_.toNat).toArray⟩ : Str).length = z.length - at_.toNat := by rw [len_arr, List.length_drop, hlz]
  have n3 : (⟨(z.cps.toList.drop (at_ + 1).toNat).toArray⟩ : Str).length = z.length - (at_ + 1).toNat := by rw [len_arr, List.length_drop, hlz]
  have ns : (⟨#[si]⟩ : Str).length = 1 := rfl
  generalize (⟨(z.cps.toList.take at_.toNat).toArray⟩ : Str) = x1 at t1 s1 n1
  generalize (⟨(z.cps.toList.drop at_.toNat).toArray⟩ : Str) = x2 at t2 s2 n2
  generalize (⟨(z.cps.toList.drop (at_ + 1).toNat).toArray⟩ : Str) = x3 at t3 s3 n3
  generalize (⟨#[si]⟩ : Str) = sg at ss ns
  have w1 : op2 addT (op2 addT (.ok (.str x1)) (.ok (.str sg))) (.ok (.str x2)) = .ok (.str (x1 ++ sg ++ x2)) := by
    rw [op2_ok, addS (by unfold txMax; omega), op2_ok, addS (by rw [slen]; unfold txMax; omega)]
  have w2 : op2 addT (.ok (.str x1)) (.ok (.str x3)) = .ok (.str (x1 ++ x3)) := by
    rw [op2_ok, addS (by unfold txMax; omega)]
  have w3 : op2 addT (op2 addT (.ok (.str x1)) (.ok (.str sg))) (.ok (.str x3)) = .ok (.str (x1 ++ sg ++ x3)) := by
    rw [op2_ok, addS (by unfold txMax; omega), op2_ok, addS (by rw [slen]; unfold txMax; omega)]
  show ∃ y, bodyR (seqO (ifO (.ok (kind == 0)) (retO (op2 addT (op2 addT (slT (.str z) none (some at_)) (.ok (.str sg))) (slT (.str z) (some at_) none))) (.ok (.nx [.sh (.str z), .sh (.int c), .sh (.int at_), .sh (.str chs), .sh (.str sg), .sh (.int kind)]))) _) = _ ∧ _
  rw [ifret, t1, t2, w1]
  by_cases q0 : kind = 0
  · rw [if_pos (beq_iff_eq.mpr q0)]
    exact ⟨_, rfl, by rw [slen, slen]; omega, sg_app (sg_app s1 ss) s2⟩
  rw [if_neg fun q => q0 (beq_iff_eq.mp q)]
  show ∃ y, bodyR (seqO (ifO (.ok (kind == 1)) (retO (op2 addT (slT (.str z) none (some at_)) (slT (.str z) (some (at_ + 1)) none))) (.ok (.nx [.sh (.str z), .sh (.int c), .sh (.int at_), .sh (.str chs), .sh (.str sg), .sh (.int kind)]))) _) = _ ∧ _
  rw [ifret, t1, t3, w2]
  by_cases q1 : kind = 1
  · rw [if_pos (beq_iff_eq.mpr q1)]
    exact ⟨_, rfl, by rw [slen]; omega, sg_app s1 s3⟩
  rw [if_neg fun q => q1 (beq_iff_eq.mp q)]
  show ∃ y, bodyR (retO (op2 addT (op2 addT (slT (.str z) none (some at_)) (.ok (.str sg))) (slT (.str z) (some (at_ + 1)) none))) = _ ∧ _
  rw [t1, t3, w3]
  exact ⟨_, rfl, by rw [slen, slen]; omega, sg_app (sg_app s1 ss) s3⟩
end M38
namespace M38
open PySem L2
def noL (t : Tr) : Bool := isS (callR m_w_read (consR (.ok t) (.ok []))) "no line"
def fortyB : Bool := match m_w_lines [] with
  | .ok (.lst ts) => decide (ts.length ≤ 100) && ts.all noL
  | _ => false
theorem forty : fortyB = true := by decide +kernel
theorem e_forty : ∃ ts, m_w_lines [] = .ok (.lst ts) ∧ ts.length ≤ 100 ∧ ∀ t ∈ ts, m_w_read [t] = .ok (.str "no line") := by
  have h := forty
  unfold fortyB at h
  split at h
  · rename_i ts e
    rw [Bool.and_eq_true] at h
    exact ⟨ts, e, of_decide_eq_true h.1, fun t m => isS_ok (List.all_eq_true.mp h.2 t m)⟩
  · cases h
theorem bls_no : ∀ ts : List Tr, blsL (ts.map fun _ => Tr.bl false) = .ok (ts.map fun _ => false)
  | [] => rfl
  | t :: ts => by rw [List.map_cons, blsL, bls_no ts]; rfl
theorem any_no : ∀ ts : List Tr, (ts.map fun _ => false).any id = false
  | [] => rfl
  | t :: ts => by rw [List.map_cons, List.any_cons, any_no ts]; rfl
def ten6 : List Str := ["1", "ann", "bo", "enter", "say", "\"hi\"", "-", "gone", "2", "role", "owner", "mend", " ", "set", "door", "open"]
theorem ten6_ok : ∀ z ∈ ten6, z.length ≤ 6 ∧ sgB z = true := by decide +kernel
theorem rngs (n : Nat) : ∀ t ∈ rngT 0 n, ∃ k : Int, t = .int k ∧ 0 ≤ k ∧ k < n := by
  intro t m
  unfold rngT at m
  obtain ⟨k, hk, rfl⟩ := List.mem_map.mp m
  have := List.mem_range.mp hk
  exact ⟨_, rfl, by omega, by omega⟩
theorem loop_ok {T : Tgt} {G : Rho → Rs Out} {ts : List Tr} {ρ : Rho} : loopO T G (.ok ts) ρ = forO T G ts ρ := rfl
theorem for_all {i : Nat} {G : Rho → Rs Out} (I : Rho → Prop) (P : Tr → Prop) (h : ∀ t ρ, P t → I ρ → ∃ ρ', G (ρ.set i (.sh t)) = .ok (.nx ρ') ∧ I ρ') : ∀ (ts : List Tr) (ρ : Rho), (∀ t ∈ ts, P t) → I ρ → ∃ ρ', forO (gN i) G ts ρ = .ok (.nx ρ') ∧ I ρ'
  | [], ρ, _, hi => ⟨ρ, rfl, hi⟩
  | t :: ts, ρ, hp, hi => by
    obtain ⟨ρ1, e, h1⟩ := h t ρ (hp t (List.mem_cons_self ..)) hi
    obtain ⟨ρ2, e2, h2⟩ := for_all I P h ts ρ1 (fun u m => hp u (List.mem_cons_of_mem _ m)) h1
    exact ⟨ρ2, for1 rfl e e2, h2⟩
def gC : Rho → Rs Out := fun ρ => seqO (setO 3 (callR m_w_changed (consR (getS ρ 3) (consR (op2 addT (callR m_w_cell (consR (getS ρ 0) (consR (op2 addT (Rs.ok (.int 8)) (getS ρ 4)) (.ok [])))) (op2 mulT (Rs.ok (.int 7)) (getS ρ 2))) (.ok [])))) ρ) fun ρ => ifO (notB ((callR m_w_is_right (consR (getS ρ 3) (.ok []))).bind truT)) (retO (Rs.ok (.bl false))) (.ok (.nx ρ))
theorem e_cellI (ns : List Int) (k j : Int) (hk : 0 ≤ k) (m : Int) (hm : mulOk j m) : ∃ c, op2 addT (callR m_w_cell (consR (Rs.ok (.scr ns)) (consR (Rs.ok (.int k)) (.ok [])))) (op2 mulT (Rs.ok (.int j)) (.ok (.int m))) = .ok (.int c) := by
  obtain ⟨c, e⟩ := e_cell ns k hk
  refine ⟨c + j * m, ?_⟩
  rw [call2_ok, e, op2_ok, mul_ok hm]
  rfl
theorem turnC (ns : List Int) (W : Tr) (k : Int) (r5 r6 : Cell) (j : Nat) (hj : j < 5) (t : Tr) (ρ : Rho) (ht : ∃ i : Int, t = .int i ∧ 0 ≤ i ∧ i < 3) (h : ∃ z x, TL z j ∧ ρ = [.sh (.scr ns), .sh W, .sh (.int k), .sh (.str z), x, r5, r6]) :
    ∃ ρ', gC (ρ.set 4 (.sh t)) = .ok (.nx ρ') ∧ ∃ z x, TL z (j + 1) ∧ ρ' = [.sh (.scr ns), .sh W, .sh (.int k), .sh (.str z), x, r5, r6] := by
  obtain ⟨i, rfl, i0, i1⟩ := ht
  obtain ⟨z, x, hz, rfl⟩ := h
  obtain ⟨c, ec⟩ := e_cellI ns (8 + i) 7 (by omega) k (.inl ⟨by decide, by decide⟩)
  obtain ⟨y, ey, hy⟩ := e_changed hz (by omega) c
  refine ⟨[.sh (.scr ns), .sh W, .sh (.int k), .sh (.str y), .sh (.int i), r5, r6], ?_, y, _, hy, rfl⟩
  show seqO (setO 3 (callR m_w_changed (consR (.ok (.str z)) (consR (op2 addT (callR m_w_cell (consR (Rs.ok (.scr ns)) (consR (Rs.ok (.int (8 + i))) (.ok [])))) (op2 mulT (Rs.ok (.int 7)) (.ok (.int k)))) (.ok [])))) [.sh (.scr ns), .sh W, .sh (.int k), .sh (.str z), .sh (.int i), r5, r6]) _ = _
  rw [ec, call2_ok, ey]
  show ifO (notB ((m_w_is_right [.str y]).bind truT)) _ _ = _
  rw [e_right (tl_tx hy (by omega))]
  rfl
theorem loopC (ns : List Int) (W : Tr) (k : Int) (r5 r6 : Cell) : ∀ (ts : List Tr) (j : Nat) (ρ : Rho), j + ts.length ≤ 5 → (∀ t ∈ ts, ∃ i : Int, t = .int i ∧ 0 ≤ i ∧ i < 3) → (∃ z x, TL z j ∧ ρ = [.sh (.scr ns), .sh W, .sh (.int k), .sh (.str z), x, r5, r6]) →
    ∃ z x, forO (gN 4) gC ts ρ = .ok (.nx [.sh (.scr ns), .sh W, .sh (.int k), .sh (.str z), x, r5, r6])
  | [], j, ρ, _, _, ⟨z, x, _, e⟩ => ⟨z, x, by rw [e]; rfl⟩
  | t :: ts, j, ρ, hl, ht, h => by
    rw [List.length_cons] at hl
    obtain ⟨ρ1, e, h1⟩ := turnC ns W k r5 r6 j (by omega) t ρ (ht t (List.mem_cons_self ..)) h
    obtain ⟨z, x, e2⟩ := loopC ns W k r5 r6 ts (j + 1) ρ1 (by omega) (fun u m => ht u (List.mem_cons_of_mem _ m)) h1
    exact ⟨z, x, for1 rfl e e2⟩
def drawS (W : List Str) (c : Int) (k : Int) : Str := W.getD (mix (c + 3 * k) 9787 16).toNat ""
theorem e_joined (zs : List Str) (hl : zs.length ≤ 7) (h : ∀ z ∈ zs, z.length ≤ 6 ∧ sgB z = true) : ∃ z, joinM " " [.lst (zs.map .str)] = .ok (.str z) ∧ TX z := by
  have l1 : (" " : Str).length = 1 := by decide
  have hs : ∀ l : List Str, (∀ z ∈ l, z.length ≤ 6 ∧ sgB z = true) → (Str.join " " l).length ≤ 7 * l.length ∧ SG (Str.join " " l) := by
    intro l
    induction l with
    | nil => exact fun _ => ⟨Nat.zero_le _, fun c m => (nomatch m)⟩
    | cons a r ih =>
      intro q
      obtain ⟨qa, sa⟩ := q a (List.mem_cons_self ..)
      cases r with
      | nil => exact ⟨by show a.length ≤ 7; omega, sg_of sa⟩
      | cons b s =>
        obtain ⟨i1, i2⟩ := ih fun z m => q z (List.mem_cons_of_mem _ m)
        rw [PyProof.Rows.join_cons_cons]
        refine ⟨?_, sg_app (sg_app (sg_of sa) (sg_of (by decide +kernel))) i2⟩
        rw [slen, slen, l1, List.length_cons (a := a)]
        omega
  obtain ⟨j1, j2⟩ := hs zs h
  have ej : Txt.join " " zs = Str.join " " zs := StrLaws.glued_eq_join ..
  have hsum : ∀ l : List Str, (∀ z ∈ l, z.length ≤ 6 ∧ sgB z = true) → (l.map (·.length)).sum ≤ 6 * l.length := by
    intro l
    induction l with
    | nil => exact fun _ => Nat.le_refl _
    | cons a r ih =>
      intro q
      have i1 := ih fun z m => q z (List.mem_cons_of_mem _ m)
      have qa := (q a (List.mem_cons_self ..)).1
      rw [List.map_cons, List.sum_cons, List.length_cons]
      omega
  have hj : JoinOk " " zs = true := PyProof.Rows.joinOk_of (by
    have := hsum zs h
    rw [l1]
    omega)
  refine ⟨Str.join " " zs, ?_, by omega, j2⟩
  show (strsL (zs.map .str)).bind (fun zs => if JoinOk " " zs = true ∧ (Txt.join " " zs).length ≤ txMax then Rs.ok (Tr.str (Txt.join " " zs)) else .bad) = _
  rw [strsL_map]
  show (if JoinOk " " zs = true ∧ (Txt.join " " zs).length ≤ txMax then Rs.ok (Tr.str (Txt.join " " zs)) else .bad) = _
  rw [ej, if_pos ⟨hj, by unfold txMax; omega⟩]
theorem e_draws (c : Int) (n : Nat) (hn : n ≤ 7) : lcL (gN 0) (fun _ => .ok true) (fun ρ => (op2 ixT (getS ρ 1) (callR m_w_mix (consR (op2 addT (getS ρ 2) (op2 mulT (Rs.ok (.int 3)) (getS ρ 0))) (consR (Rs.ok (.int 9787)) (consR (Rs.ok (.int 16)) (.ok []))))))) (rngT 0 n) [.no, .sh (.tup (ten6.map Tr.str)), .sh (.int c)] = .ok (((List.range n).map fun (k : Nat) => drawS ten6 c (0 + (k : Int))).map .str) := by
  rw [lcM (f := fun t => match t with | .int k => .str (drawS ten6 c k) | t => t) (rngT 0 n) .no fun t m => ?_]
  · unfold rngT
    rw [List.map_map, List.map_map]
    rfl
  · obtain ⟨k, rfl, k0, k1⟩ := rngs n t m
    obtain ⟨m0, m1⟩ := mix_in (c := c + 3 * k) (p := 9787) (m := 16) (by decide)
    show op2 ixT (.ok (.tup (ten6.map Tr.str))) (callR m_w_mix (consR (op2 addT (.ok (.int c)) (mulT (.int 3) (.int k))) (consR (Rs.ok (.int 9787)) (consR (Rs.ok (.int 16)) (.ok []))))) = _
    rw [mul_ok (.inl ⟨by decide, by decide⟩)]
    show op2 ixT (.ok (.tup (ten6.map Tr.str))) (m_w_mix [.int (c + 3 * k), .int 9787, .int 16]) = _
    rw [e_mix _ _ _ (by decide) (by decide) (by decide)]
    show okO (L2.atI (ten6.map Tr.str) (mix (c + 3 * k) 9787 16)) = _
    rw [atI_map, atIn (xs := ten6) "" m0 m1]
    rfl
theorem draw_in (c k : Int) : drawS ten6 c k ∈ ten6 := by
  obtain ⟨m0, m1⟩ := mix_in (c := c + 3 * k) (p := 9787) (m := 16) (by decide)
  unfold drawS
  have hk : (mix (c + 3 * k) 9787 16).toNat < ten6.length := by show _ < 16; omega
  rw [List.getD_eq_getElem?_getD, List.getElem?_eq_getElem hk]
  exact List.getElem_mem hk
def gK : Rho → Rs Out := fun ρ => seqO (setO 3 (callR m_w_line (consR (callR m_w_any_row (consR (op2 addT (callR m_w_cell (consR (getS ρ 0) (consR (getS ρ 2) (.ok [])))) (op2 mulT (Rs.ok (.int 31)) (getS ρ 2))) (.ok []))) (.ok []))) ρ) fun ρ => seqO (loopO (gN 4) gC (rng1W (consR (Rs.ok (.int 3)) (.ok []))) ρ) fun ρ => seqO (setO 5 (op2 addT (callR m_w_cell (consR (getS ρ 0) (consR (Rs.ok (.int 11)) (.ok [])))) (op2 mulT (Rs.ok (.int 17)) (getS ρ 2))) ρ) fun ρ => seqO (setO 6 (lcR [none, some 1, some 5] (gN 0) (fun _ => .ok true) (fun ρ => (op2 ixT (getS ρ 1) (callR m_w_mix (consR (op2 addT (getS ρ 2) (op2 mulT (Rs.ok (.int 3)) (getS ρ 0))) (consR (Rs.ok (.int 9787)) (consR (Rs.ok (.int 16)) (.ok []))))))) (rng1W (consR (callR m_w_mix (consR (getS ρ 5) (consR (Rs.ok (.int 9781)) (consR (Rs.ok (.int 7)) (.ok []))))) (.ok []))) ρ) ρ) fun ρ => ifO (notB ((callR m_w_is_right (consR (mS joinM (Rs.ok (.str " ")) (consR (getS ρ 6) (.ok []))) (.ok []))).bind truT)) (retO (Rs.ok (.bl false))) (.ok (.nx ρ))
theorem rng3 : rng1W (consR (Rs.ok (.int 3)) (.ok [])) = .ok (rngT 0 3) := by
  show rng1W (.ok [.int 3]) = _
  rw [rng1_eq, if_pos (by decide)]
  rfl
theorem rng8 : rng1W (consR (Rs.ok (.int 8)) (.ok [])) = .ok (rngT 0 8) := by
  show rng1W (.ok [.int 8]) = _
  rw [rng1_eq, if_pos (by decide)]
  rfl
def KI (ns : List Int) (ρ : Rho) : Prop := ∃ a b c d e, ρ = [.sh (.scr ns), .sh (.tup (ten6.map Tr.str)), a, b, c, d, e]
theorem turnK (ns : List Int) (t : Tr) (ρ : Rho) (ht : ∃ i : Int, t = .int i ∧ 0 ≤ i ∧ i < 8) (h : KI ns ρ) : ∃ ρ', gK (ρ.set 2 (.sh t)) = .ok (.nx ρ') ∧ KI ns ρ' := by
  obtain ⟨i, rfl, i0, i1⟩ := ht
  obtain ⟨a, b, c, d, e, rfl⟩ := h
  obtain ⟨c1, ec1⟩ := e_cellI ns i 31 i0 i (.inl ⟨by decide, by decide⟩)
  obtain ⟨t1, z1, et, ez, hz⟩ := e_drawn c1
  obtain ⟨z2, x2, e2⟩ := loopC ns (.tup (ten6.map Tr.str)) i d e (rngT 0 3) 0 [.sh (.scr ns), .sh (.tup (ten6.map Tr.str)), .sh (.int i), .sh (.str z1), c, d, e] (by decide) (rngs 3) ⟨z1, c, hz, rfl⟩
  obtain ⟨c2, ec2⟩ := e_cellI ns 11 17 (by decide) i (.inl ⟨by decide, by decide⟩)
  obtain ⟨m0, m1⟩ := mix_in (c := c2) (p := 9781) (m := 7) (by decide)
  have hr : rng1W (consR (callR m_w_mix (consR (Rs.ok (.int c2)) (consR (Rs.ok (.int 9781)) (consR (Rs.ok (.int 7)) (.ok []))))) (.ok [])) = .ok (rngT 0 (mix c2 9781 7).toNat) := by
    show rng1W (consR (m_w_mix [.int c2, .int 9781, .int 7]) (.ok [])) = _
    rw [e_mix _ _ _ (by decide) (by decide) (by decide)]
    show rng1W (.ok [.int (mix c2 9781 7)]) = _
    rw [rng1_eq, if_pos ⟨by omega, by omega⟩]
  have hn : (mix c2 9781 7).toNat ≤ 7 := by omega
  have ed := e_draws c2 (mix c2 9781 7).toNat hn
  generalize (mix c2 9781 7).toNat = n at hr hn ed
  obtain ⟨zj, ej, hj⟩ := e_joined ((List.range n).map fun (k : Nat) => drawS ten6 c2 (0 + (k : Int))) (by rw [List.length_map, List.length_range]; exact hn) fun z m => by
    obtain ⟨k, _, rfl⟩ := List.mem_map.mp m
    exact ten6_ok _ (draw_in _ _)
  refine ⟨[.sh (.scr ns), .sh (.tup (ten6.map Tr.str)), .sh (.int i), .sh (.str z2), x2, .sh (.int c2), .sh (.lst (((List.range n).map fun (k : Nat) => drawS ten6 c2 (0 + (k : Int))).map .str))], ?_, _, _, _, _, _, rfl⟩
  show seqO (setO 3 (callR m_w_line (consR (callR m_w_any_row (consR (op2 addT (callR m_w_cell (consR (Rs.ok (.scr ns)) (consR (Rs.ok (.int i)) (.ok [])))) (op2 mulT (Rs.ok (.int 31)) (.ok (.int i)))) (.ok []))) (.ok []))) [.sh (.scr ns), .sh (.tup (ten6.map Tr.str)), .sh (.int i), b, c, d, e]) _ = _
  rw [ec1, call1_ok, et, call1_ok, ez]
  show seqO (loopO (gN 4) gC (rng1W (consR (Rs.ok (.int 3)) (.ok []))) [.sh (.scr ns), .sh (.tup (ten6.map Tr.str)), .sh (.int i), .sh (.str z1), c, d, e]) _ = _
  rw [rng3, loop_ok, e2]
  show seqO (setO 5 (op2 addT (callR m_w_cell (consR (Rs.ok (.scr ns)) (consR (Rs.ok (.int 11)) (.ok [])))) (op2 mulT (Rs.ok (.int 17)) (.ok (.int i)))) [.sh (.scr ns), .sh (.tup (ten6.map Tr.str)), .sh (.int i), .sh (.str z2), x2, d, e]) _ = _
  rw [ec2]
  show seqO (setO 6 (lcR [none, some 1, some 5] (gN 0) (fun _ => .ok true) (fun ρ => (op2 ixT (getS ρ 1) (callR m_w_mix (consR (op2 addT (getS ρ 2) (op2 mulT (Rs.ok (.int 3)) (getS ρ 0))) (consR (Rs.ok (.int 9787)) (consR (Rs.ok (.int 16)) (.ok []))))))) (rng1W (consR (callR m_w_mix (consR (Rs.ok (.int c2)) (consR (Rs.ok (.int 9781)) (consR (Rs.ok (.int 7)) (.ok []))))) (.ok []))) [.sh (.scr ns), .sh (.tup (ten6.map Tr.str)), .sh (.int i), .sh (.str z2), x2, .sh (.int c2), e]) [.sh (.scr ns), .sh (.tup (ten6.map Tr.str)), .sh (.int i), .sh (.str z2), x2, .sh (.int c2), e]) _ = _
  rw [hr, lcR_ok (by rw [rngT_length]; unfold szT; omega)]
  show seqO (setO 6 ((lcL (gN 0) _ _ (rngT 0 n) [.no, .sh (.tup (ten6.map Tr.str)), .sh (.int c2)]).bind _) _) _ = _
  rw [ed]
  show ifO (notB ((callR m_w_is_right (consR (joinM " " [.lst (((List.range n).map fun (k : Nat) => drawS ten6 c2 (0 + (k : Int))).map .str)]) (.ok []))).bind truT)) _ _ = _
  rw [ej, call1_ok, e_right hj]
  rfl
theorem law_true (ns : List Int) : m_law [.scr ns] = .ok (.bl true) := by
  obtain ⟨ts, e1, hl, h1⟩ := e_forty
  have key : m_law [.scr ns] = bodyR (seqO (ifO ((callR anyT (consR (lcR [none] (gN 0) (fun _ => .ok true) (fun ρ => (op2 neC (callR m_w_read (consR (getS ρ 0) (.ok []))) (Rs.ok (.str "no line")))) (seqW (m_w_lines [])) [.sh (.scr ns), .no, .no, .no, .no, .no, .no]) (.ok []))).bind truT) (retO (Rs.ok (.bl false))) (.ok (.nx [.sh (.scr ns), .no, .no, .no, .no, .no, .no]))) fun ρ => seqO (setO 1 (tupR (consR (Rs.ok (.str "1")) (consR (Rs.ok (.str "ann")) (consR (Rs.ok (.str "bo")) (consR (Rs.ok (.str "enter")) (consR (Rs.ok (.str "say")) (consR (Rs.ok (.str "\"hi\"")) (consR (Rs.ok (.str "-")) (consR (Rs.ok (.str "gone")) (consR (Rs.ok (.str "2")) (consR (Rs.ok (.str "role")) (.ok [])))))))))))) ρ) fun ρ => seqO (setO 1 (op2 addT (getS ρ 1) (tupR (consR (Rs.ok (.str "owner")) (consR (Rs.ok (.str "mend")) (consR (Rs.ok (.str " ")) (consR (Rs.ok (.str "set")) (consR (Rs.ok (.str "door")) (consR (Rs.ok (.str "open")) (.ok []))))))))) ρ) fun ρ => seqO (loopO (gN 2) gK (rng1W (consR (Rs.ok (.int 8)) (.ok []))) ρ) fun ρ => retO (Rs.ok (.bl true))) := mirE rfl
  rw [key, e1]
  have e2 : lcR [none] (gN 0) (fun _ => .ok true) (fun ρ => (op2 neC (callR m_w_read (consR (getS ρ 0) (.ok []))) (Rs.ok (.str "no line")))) (seqW (.ok (.lst ts))) [.sh (.scr ns), .no, .no, .no, .no, .no, .no] = .ok (.lst (ts.map fun _ => .bl false)) := by
    show lcR [none] (gN 0) (fun _ => .ok true) (fun ρ => (op2 neC (callR m_w_read (consR (getS ρ 0) (.ok []))) (Rs.ok (.str "no line")))) (.ok ts) [.sh (.scr ns), .no, .no, .no, .no, .no, .no] = _
    rw [lcR_ok (Nat.le_trans hl (by decide))]
    show (lcL (gN 0) _ _ ts (.no :: [])).bind _ = _
    rw [lcM (f := fun _ => .bl false) ts .no fun t m => by
      show op2 neC (m_w_read [t]) (Rs.ok (.str "no line")) = _
      rw [h1 t m, op2_ok, neS, beq_self_eq_true]
      rfl]
    rfl
  have e3 : callR anyT (consR (.ok (.lst (ts.map fun _ => .bl false))) (.ok [])) = .ok (.bl false) := by
    show (blsL (ts.map fun _ => Tr.bl false)).bind (fun bs => Rs.ok (Tr.bl (bs.any id))) = _
    rw [bls_no]
    show Rs.ok (Tr.bl ((ts.map fun _ => false).any id)) = _
    rw [any_no]
  rw [e2, e3]
  obtain ⟨ρ', e4, _⟩ := for_all (i := 2) (G := gK) (KI ns) (fun t => ∃ i : Int, t = .int i ∧ 0 ≤ i ∧ i < 8) (fun t ρ => turnK ns t ρ) (rngT 0 8) [.sh (.scr ns), .sh (.tup (ten6.map Tr.str)), .no, .no, .no, .no, .no] (rngs 8) ⟨_, _, _, _, _, rfl⟩
  show bodyR (seqO (loopO (gN 2) gK (rng1W (consR (Rs.ok (.int 8)) (.ok []))) [.sh (.scr ns), .sh (.tup (ten6.map Tr.str)), .no, .no, .no, .no, .no]) _) = _
  rw [rng8, loop_ok, e4]
  rfl
end M38
namespace L2
open PySem PySem.Spec PyProof.Rows PySem.W
def excGB (K : Frag) (D : Addr) : Bool := decide (findIn K (.ref D) "__getattribute__" = some (some (.builtin "BaseException.__getattribute__"))) && (decide (findIn K (.ref D) "__getattr__" = some none) && (decide (findIn K (.ref D) "__class__" = some (some (.builtin "object.__class__"))) && (decide (mroIn K D (.type "object") = some true) && decide (mroIn K D (.type "BaseException") = some true))))
theorem excG_of {K : Frag} {D : Addr} (h : excGB K D = true) : ExcG K D := by
  unfold excGB at h
  rw [Bool.and_eq_true, Bool.and_eq_true, Bool.and_eq_true, Bool.and_eq_true] at h
  exact ⟨of_decide_eq_true h.1, of_decide_eq_true h.2.1, of_decide_eq_true h.2.2.1, of_decide_eq_true h.2.2.2.1, of_decide_eq_true h.2.2.2.2⟩
def isxB (K : Frag) (u : Value) (tab : List (Str × Bool)) : Bool := tab.all fun p => decide (kitOne K (.ref (clsAt K p.1)) u = some p.2)
def exgB (K : Frag) (xs : List Str) : Bool := xs.all fun x => excGB K (clsAt K x) && (clsIn K (clsAt K x)).isSome
theorem lookup_in {α : Type} {z : Str} : ∀ {l : List (Str × α)} {a : α}, l.lookup z = some a → (z, a) ∈ l
  | [], _, h => by cases h
  | (y, b) :: l, a, h => by
    rw [List.lookup_cons] at h
    cases e : (z == y) with
    | true => rw [e] at h; cases h; rw [eq_of_beq e]; exact List.mem_cons_self ..
    | false => rw [e] at h; exact List.mem_cons_of_mem _ (lookup_in h)
theorem isx_mk {K : Frag} {u : Value} {tab : List (Str × Bool)} {xs : List Str} (h : isxB K u tab = true) (q : exgB K xs = true) (e : tab.map (·.1) = xs) : IsxAt K u tab := ⟨fun x b hx => by
  have m := lookup_in hx
  have h1 := of_decide_eq_true (List.all_eq_true.mp h _ m)
  have mx : x ∈ xs := by rw [← e]; exact List.mem_map_of_mem m
  have h2 := List.all_eq_true.mp q x mx
  rw [Bool.and_eq_true] at h2
  exact ⟨h1, excG_of h2.1, h2.2⟩⟩
def catB (K : Frag) (c : Str) (xs : List Str) : Bool := xs.all fun x => decide (exmOne K (.ref (clsAt K x)) (.ref (clsAt K c)) = some true)
theorem catch_mk {K : Frag} {mg : Str → Option Value} {c : Str} {xs : List Str} (m : mg c = some (.ref (clsAt K c))) (h : catB K c xs = true) : CatchAt K mg c xs := ⟨m, fun x hx => of_decide_eq_true (List.all_eq_true.mp h x hx)⟩
theorem us0 {P : List Value → Prop} (h : P []) : ∀ us : List Value, us.length = 0 → P us
  | [], _ => h
theorem us1 {P : List Value → Prop} (h : ∀ a, P [a]) : ∀ us : List Value, us.length = 1 → P us
  | [a], _ => h a
theorem us2 {P : List Value → Prop} (h : ∀ a b, P [a, b]) : ∀ us : List Value, us.length = 2 → P us
  | [a, b], _ => h a b
theorem us3 {P : List Value → Prop} (h : ∀ a b c, P [a, b, c]) : ∀ us : List Value, us.length = 3 → P us
  | [a, b, c], _ => h a b c
end L2
namespace M38
open PySem L2
set_option maxHeartbeats 8000000 in
theorem all_mk {l : PySem.W.OpenLaw} {w : World} {K : PySem.W.Frag} {h : Heap} {mg : Str → Option Value} {fa : Addr} (X : K.In h) (G : h.Ns mainGlobals mg) (hfa : mg "law" = some (.ref fa))
    {f1 : Addr} {t1 : FuncData} (a1 : W.nsIn K mainGlobals "is_letter" = some (some (.ref f1))) (l1 : Fun K "is_letter" "is_letter" sd_is_letter f1 t1)
    {f2 : Addr} {t2 : FuncData} (a2 : W.nsIn K mainGlobals "is_name" = some (some (.ref f2))) (l2 : Fun K "is_name" "is_name" sd_is_name f2 t2)
    {f3 : Addr} {t3 : FuncData} (a3 : W.nsIn K mainGlobals "is_words" = some (some (.ref f3))) (l3 : Fun K "is_words" "is_words" sd_is_words f3 t3)
    {f4 : Addr} {t4 : FuncData} (a4 : W.nsIn K mainGlobals "is_whole" = some (some (.ref f4))) (l4 : Fun K "is_whole" "is_whole" sd_is_whole f4 t4)
    {f5 : Addr} {t5 : FuncData} (a5 : W.nsIn K mainGlobals "is_number" = some (some (.ref f5))) (l5 : Fun K "is_number" "is_number" sd_is_number f5 t5)
    {f6 : Addr} {t6 : FuncData} (a6 : W.nsIn K mainGlobals "is_answer" = some (some (.ref f6))) (l6 : Fun K "is_answer" "is_answer" sd_is_answer f6 t6)
    {f7 : Addr} {t7 : FuncData} (a7 : W.nsIn K mainGlobals "is_setting" = some (some (.ref f7))) (l7 : Fun K "is_setting" "is_setting" sd_is_setting f7 t7)
    {f8 : Addr} {t8 : FuncData} (a8 : W.nsIn K mainGlobals "are_two_parts" = some (some (.ref f8))) (l8 : Fun K "are_two_parts" "are_two_parts" sd_are_two_parts f8 t8)
    {f9 : Addr} {t9 : FuncData} (a9 : W.nsIn K mainGlobals "are_parts" = some (some (.ref f9))) (l9 : Fun K "are_parts" "are_parts" sd_are_parts f9 t9)
    {f10 : Addr} {t10 : FuncData} (a10 : W.nsIn K mainGlobals "is_row" = some (some (.ref f10))) (l10 : Fun K "is_row" "is_row" sd_is_row f10 t10)
    {f11 : Addr} {t11 : FuncData} (a11 : W.nsIn K mainGlobals "digits_of" = some (some (.ref f11))) (l11 : Fun K "digits_of" "digits_of" sd_digits_of f11 t11)
    {f12 : Addr} {t12 : FuncData} (a12 : W.nsIn K mainGlobals "number_in" = some (some (.ref f12))) (l12 : Fun K "number_in" "number_in" sd_number_in f12 t12)
    {f13 : Addr} {t13 : FuncData} (a13 : W.nsIn K mainGlobals "are_digits" = some (some (.ref f13))) (l13 : Fun K "are_digits" "are_digits" sd_are_digits f13 t13)
    {f14 : Addr} {t14 : FuncData} (a14 : W.nsIn K mainGlobals "quoted" = some (some (.ref f14))) (l14 : Fun K "quoted" "quoted" sd_quoted f14 t14)
    {f15 : Addr} {t15 : FuncData} (a15 : W.nsIn K mainGlobals "unquoted" = some (some (.ref f15))) (l15 : Fun K "unquoted" "unquoted" sd_unquoted f15 t15)
    {f16 : Addr} {t16 : FuncData} (a16 : W.nsIn K mainGlobals "text_of" = some (some (.ref f16))) (l16 : Fun K "text_of" "text_of" sd_text_of f16 t16)
    {f17 : Addr} {t17 : FuncData} (a17 : W.nsIn K mainGlobals "part_in" = some (some (.ref f17))) (l17 : Fun K "part_in" "part_in" sd_part_in f17 t17)
    {f18 : Addr} {t18 : FuncData} (a18 : W.nsIn K mainGlobals "texts_of" = some (some (.ref f18))) (l18 : Fun K "texts_of" "texts_of" sd_texts_of f18 t18)
    {f19 : Addr} {t19 : FuncData} (a19 : W.nsIn K mainGlobals "parts_in" = some (some (.ref f19))) (l19 : Fun K "parts_in" "parts_in" sd_parts_in f19 t19)
    {f20 : Addr} {t20 : FuncData} (a20 : W.nsIn K mainGlobals "line_of" = some (some (.ref f20))) (l20 : Fun K "line_of" "line_of" sd_line_of f20 t20)
    {f21 : Addr} {t21 : FuncData} (a21 : W.nsIn K mainGlobals "row_in" = some (some (.ref f21))) (l21 : Fun K "row_in" "row_in" sd_row_in f21 t21)
    {f22 : Addr} {t22 : FuncData} (a22 : W.nsIn K mainGlobals "read_line" = some (some (.ref f22))) (l22 : Fun K "read_line" "read_line" sd_read_line f22 t22)
    {f23 : Addr} {t23 : FuncData} (a23 : W.nsIn K mainGlobals "_law_cell" = some (some (.ref f23))) (l23 : Fun K "_law_cell" "_law_cell" sd_w_cell f23 t23)
    {f24 : Addr} {t24 : FuncData} (a24 : W.nsIn K mainGlobals "_law_mix" = some (some (.ref f24))) (l24 : Fun K "_law_mix" "_law_mix" sd_w_mix f24 t24)
    {f25 : Addr} {t25 : FuncData} (a25 : W.nsIn K mainGlobals "_law_words" = some (some (.ref f25))) (l25 : Fun K "_law_words" "_law_words" sd_w_words f25 t25)
    {f26 : Addr} {t26 : FuncData} (a26 : W.nsIn K mainGlobals "_law_any_row" = some (some (.ref f26))) (l26 : Fun K "_law_any_row" "_law_any_row" sd_w_any_row f26 t26)
    {f27 : Addr} {t27 : FuncData} (a27 : W.nsIn K mainGlobals "_law_line" = some (some (.ref f27))) (l27 : Fun K "_law_line" "_law_line" sd_w_line f27 t27)
    {f28 : Addr} {t28 : FuncData} (a28 : W.nsIn K mainGlobals "_law_word" = some (some (.ref f28))) (l28 : Fun K "_law_word" "_law_word" sd_w_word f28 t28)
    {f29 : Addr} {t29 : FuncData} (a29 : W.nsIn K mainGlobals "_law_read" = some (some (.ref f29))) (l29 : Fun K "_law_read" "_law_read" sd_w_read f29 t29)
    {f30 : Addr} {t30 : FuncData} (a30 : W.nsIn K mainGlobals "_law_is_right" = some (some (.ref f30))) (l30 : Fun K "_law_is_right" "_law_is_right" sd_w_is_right f30 t30)
    {f31 : Addr} {t31 : FuncData} (a31 : W.nsIn K mainGlobals "_law_lines" = some (some (.ref f31))) (l31 : Fun K "_law_lines" "_law_lines" sd_w_lines f31 t31)
    {f32 : Addr} {t32 : FuncData} (a32 : W.nsIn K mainGlobals "_law_changed" = some (some (.ref f32))) (l32 : Fun K "_law_changed" "_law_changed" sd_w_changed f32 t32)
    {f33 : Addr} {t33 : FuncData} (a33 : W.nsIn K mainGlobals "law" = some (some (.ref f33))) (l33 : Fun K "law" "law" sd_law f33 t33)
    {ga1 : Addr} {go1 : Option Addr} {gn1 : Nat} {gs1 : Array (Option Value)} {u1_0 u1_1 u1_2 : Tok} (b1 : PySem.W.nsIn K mainGlobals "BARE_WORDS" = some (some (.ref ga1))) (v1 : K.lookup ga1 = some ⟨.type "tuple", go1, .seq #[.str "found" u1_0, .str "enter" u1_1, .str "leave" u1_2] gn1, gs1⟩)
    {gt2 : Tok} (b2 : PySem.W.nsIn K mainGlobals "MOST_LETTERS" = some (some (.int 6 gt2)))
    {gt3 : Tok} (b3 : PySem.W.nsIn K mainGlobals "MOST_SIGNS" = some (some (.int 60 gt3)))
    {ga4 : Addr} {go4 : Option Addr} {gn4 : Nat} {gs4 : Array (Option Value)} {u4_0 u4_1 u4_2 u4_3 : Tok} (b4 : PySem.W.nsIn K mainGlobals "ROLES" = some (some (.ref ga4))) (v4 : K.lookup ga4 = some ⟨.type "tuple", go4, .seq #[.str "guest" u4_0, .str "speaker" u4_1, .str "keeper" u4_2, .str "owner" u4_3] gn4, gs4⟩)
    {ga5 : Addr} {go5 : Option Addr} {gn5 : Nat} {gs5 : Array (Option Value)} {u5_0 u5_1 u5_2 u5_3 : Tok} (b5 : PySem.W.nsIn K mainGlobals "WHOM_WORDS" = some (some (.ref ga5))) (v5 : K.lookup ga5 = some ⟨.type "tuple", go5, .seq #[.str "ask" u5_0, .str "unbar" u5_1, .str "out" u5_2, .str "bar" u5_3] gn5, gs5⟩)
    {da1 : Addr} {dn1 : Nat} {y1_0 y1_1 y1_2 : Tok} {p1_0 p1_1 p1_2 : Addr} (e1 : PySem.W.nsIn K mainGlobals "SETTINGS" = some (some (.ref da1))) (d1 : K.lookup da1 = some ⟨.type "dict", none, .dict #[⟨PyData.keyHash w.params "door", .str "door" y1_0, .ref p1_0⟩, ⟨PyData.keyHash w.params "voice", .str "voice" y1_1, .ref p1_1⟩, ⟨PyData.keyHash w.params "past", .str "past" y1_2, .ref p1_2⟩] dn1, #[]⟩) (s1 : (da1 == sysModules) = false)
    {po1_0 : Option Addr} {pn1_0 : Nat} {ps1_0 : Array (Option Value)} {x1_0_0 x1_0_1 : Tok} (r1_0 : K.lookup p1_0 = some ⟨.type "tuple", po1_0, .seq #[.str "open" x1_0_0, .str "asked" x1_0_1] pn1_0, ps1_0⟩)
    {po1_1 : Option Addr} {pn1_1 : Nat} {ps1_1 : Array (Option Value)} {x1_1_0 x1_1_1 : Tok} (r1_1 : K.lookup p1_1 = some ⟨.type "tuple", po1_1, .seq #[.str "all" x1_1_0, .str "some" x1_1_1] pn1_1, ps1_1⟩)
    {po1_2 : Option Addr} {pn1_2 : Nat} {ps1_2 : Array (Option Value)} {x1_2_0 x1_2_1 : Tok} (r1_2 : K.lookup p1_2 = some ⟨.type "tuple", po1_2, .seq #[.str "shown" x1_2_0, .str "hidden" x1_2_1] pn1_2, ps1_2⟩)
    (z1 : PySem.W.nsIn K mainGlobals "ValueError" = some none)
    (z2 : PySem.W.nsIn K mainGlobals "all" = some none)
    (z3 : PySem.W.nsIn K mainGlobals "any" = some none)
    (z4 : PySem.W.nsIn K mainGlobals "bool" = some none)
    (z5 : PySem.W.nsIn K mainGlobals "enumerate" = some none)
    (z6 : PySem.W.nsIn K mainGlobals "int" = some none)
    (z7 : PySem.W.nsIn K mainGlobals "isinstance" = some none)
    (z8 : PySem.W.nsIn K mainGlobals "len" = some none)
    (z9 : PySem.W.nsIn K mainGlobals "range" = some none)
    (z10 : PySem.W.nsIn K mainGlobals "reversed" = some none)
    (z11 : PySem.W.nsIn K mainGlobals "str" = some none)
    (z12 : PySem.W.nsIn K mainGlobals "tuple" = some none)
    (w_Barred : PySem.W.nsIn K mainGlobals "Barred" = some (some (.ref (clsAt K "Barred"))))
    (w_Known : PySem.W.nsIn K mainGlobals "Known" = some (some (.ref (clsAt K "Known"))))
    (w_NoHand : PySem.W.nsIn K mainGlobals "NoHand" = some (some (.ref (clsAt K "NoHand"))))
    (w_NoLine : PySem.W.nsIn K mainGlobals "NoLine" = some (some (.ref (clsAt K "NoLine"))))
    (w_NoPerson : PySem.W.nsIn K mainGlobals "NoPerson" = some (some (.ref (clsAt K "NoPerson"))))
    (w_NoRight : PySem.W.nsIn K mainGlobals "NoRight" = some (some (.ref (clsAt K "NoRight"))))
    (w_NoRoom : PySem.W.nsIn K mainGlobals "NoRoom" = some (some (.ref (clsAt K "NoRoom"))))
    (w_NoRow : PySem.W.nsIn K mainGlobals "NoRow" = some (some (.ref (clsAt K "NoRow"))))
    (w_NotAsked : PySem.W.nsIn K mainGlobals "NotAsked" = some (some (.ref (clsAt K "NotAsked"))))
    (w_NotIn : PySem.W.nsIn K mainGlobals "NotIn" = some (some (.ref (clsAt K "NotIn"))))
    (w_TalkError : PySem.W.nsIn K mainGlobals "TalkError" = some (some (.ref (clsAt K "TalkError"))))
    (w9exg : exgB K ["Known", "NoPerson", "NoRoom", "NotIn", "NotAsked", "Barred", "NoRight", "NoRow", "NoHand", "NoLine"] = true)
    (w1Barred : isxB K (.ref (clsAt K "Barred")) [("Known", false), ("NoPerson", false), ("NoRoom", false), ("NotIn", false), ("NotAsked", false), ("Barred", true), ("NoRight", false), ("NoRow", false), ("NoHand", false), ("NoLine", false)] = true)
    (w1Known : isxB K (.ref (clsAt K "Known")) [("Known", true), ("NoPerson", false), ("NoRoom", false), ("NotIn", false), ("NotAsked", false), ("Barred", false), ("NoRight", false), ("NoRow", false), ("NoHand", false), ("NoLine", false)] = true)
    (w1NoHand : isxB K (.ref (clsAt K "NoHand")) [("Known", false), ("NoPerson", false), ("NoRoom", false), ("NotIn", false), ("NotAsked", false), ("Barred", false), ("NoRight", false), ("NoRow", false), ("NoHand", true), ("NoLine", false)] = true)
    (w1NoLine : isxB K (.ref (clsAt K "NoLine")) [("Known", false), ("NoPerson", false), ("NoRoom", false), ("NotIn", false), ("NotAsked", false), ("Barred", false), ("NoRight", false), ("NoRow", false), ("NoHand", false), ("NoLine", true)] = true)
    (w1NoPerson : isxB K (.ref (clsAt K "NoPerson")) [("Known", false), ("NoPerson", true), ("NoRoom", false), ("NotIn", false), ("NotAsked", false), ("Barred", false), ("NoRight", false), ("NoRow", false), ("NoHand", false), ("NoLine", false)] = true)
    (w1NoRight : isxB K (.ref (clsAt K "NoRight")) [("Known", false), ("NoPerson", false), ("NoRoom", false), ("NotIn", false), ("NotAsked", false), ("Barred", false), ("NoRight", true), ("NoRow", false), ("NoHand", false), ("NoLine", false)] = true)
    (w1NoRoom : isxB K (.ref (clsAt K "NoRoom")) [("Known", false), ("NoPerson", false), ("NoRoom", true), ("NotIn", false), ("NotAsked", false), ("Barred", false), ("NoRight", false), ("NoRow", false), ("NoHand", false), ("NoLine", false)] = true)
    (w1NoRow : isxB K (.ref (clsAt K "NoRow")) [("Known", false), ("NoPerson", false), ("NoRoom", false), ("NotIn", false), ("NotAsked", false), ("Barred", false), ("NoRight", false), ("NoRow", true), ("NoHand", false), ("NoLine", false)] = true)
    (w1NotAsked : isxB K (.ref (clsAt K "NotAsked")) [("Known", false), ("NoPerson", false), ("NoRoom", false), ("NotIn", false), ("NotAsked", true), ("Barred", false), ("NoRight", false), ("NoRow", false), ("NoHand", false), ("NoLine", false)] = true)
    (w1NotIn : isxB K (.ref (clsAt K "NotIn")) [("Known", false), ("NoPerson", false), ("NoRoom", false), ("NotIn", true), ("NotAsked", false), ("Barred", false), ("NoRight", false), ("NoRow", false), ("NoHand", false), ("NoLine", false)] = true)
    (w1ValueError : isxB K (.type "ValueError") [("Known", true), ("NoPerson", true), ("NoRoom", true), ("NotIn", true), ("NotAsked", true), ("Barred", true), ("NoRight", true), ("NoRow", true), ("NoHand", true), ("NoLine", true)] = true)
    (w2TalkError : catB K "TalkError" ["Known", "NoPerson", "NoRoom", "NotIn", "NotAsked", "Barred", "NoRight", "NoRow", "NoHand", "NoLine"] = true)
    (w3NoLine : PySem.W.excIn K (clsAt K "NoLine") bmV "ValueError.__new__" = true)
    : ∃ fd : FuncData, (∀ (s : Shared) (v : Value), BindsTo s fd ⟨[v], []⟩ [("_law_script", v)]) ∧ ∀ base : Heap, K.In base → base.Ns mainGlobals mg → FnOk l.prog w K mg base CX0 10 fa fd ["_law_script"] (spT K m_law) := by
  cases hfa.symm.trans (W.mg_of X G a33)
  have T : Gl0 K w mg := ⟨⟨.ref ga1, _, W.mg_of X G b1, rfl, fun H => .tup (vs := [.str "found", .str "enter", .str "leave"]) (.inr ⟨_, _, _, v1, rfl, rfl, by show 3 ≤ sizeLine; decide, (.cons ⟨_, rfl⟩ (.cons ⟨_, rfl⟩ (.cons ⟨_, rfl⟩ .nil)))⟩) (.cons (.str _ (by decide)) (.cons (.str _ (by decide)) (.cons (.str _ (by decide)) .nil)))⟩, ⟨.int 6, _, W.mg_of X G b2, ⟨_, rfl⟩, fun H => .int 6⟩, ⟨.int 60, _, W.mg_of X G b3, ⟨_, rfl⟩, fun H => .int 60⟩, ⟨.ref ga4, _, W.mg_of X G b4, rfl, fun H => .tup (vs := [.str "guest", .str "speaker", .str "keeper", .str "owner"]) (.inr ⟨_, _, _, v4, rfl, rfl, by show 4 ≤ sizeLine; decide, (.cons ⟨_, rfl⟩ (.cons ⟨_, rfl⟩ (.cons ⟨_, rfl⟩ (.cons ⟨_, rfl⟩ .nil))))⟩) (.cons (.str _ (by decide)) (.cons (.str _ (by decide)) (.cons (.str _ (by decide)) (.cons (.str _ (by decide)) .nil))))⟩, ⟨.ref ga5, _, W.mg_of X G b5, rfl, fun H => .tup (vs := [.str "ask", .str "unbar", .str "out", .str "bar"]) (.inr ⟨_, _, _, v5, rfl, rfl, by show 4 ≤ sizeLine; decide, (.cons ⟨_, rfl⟩ (.cons ⟨_, rfl⟩ (.cons ⟨_, rfl⟩ (.cons ⟨_, rfl⟩ .nil))))⟩) (.cons (.str _ (by decide)) (.cons (.str _ (by decide)) (.cons (.str _ (by decide)) (.cons (.str _ (by decide)) .nil))))⟩, W.mg_none_of X G z1, W.mg_none_of X G z2, W.mg_none_of X G z3, W.mg_none_of X G z4, W.mg_none_of X G z5, W.mg_none_of X G z6, W.mg_none_of X G z7, W.mg_none_of X G z8, W.mg_none_of X G z9, W.mg_none_of X G z10, W.mg_none_of X G z11, W.mg_none_of X G z12, KDE.gd (kts := [("door", .tup [.str "open", .str "asked"]), ("voice", .tup [.str "all", .str "some"]), ("past", .tup [.str "shown", .str "hidden"])]) (.cons (v := .ref _) rfl (fun H => .tup (vs := [.str "open", .str "asked"]) (.inr ⟨_, _, _, r1_0, rfl, rfl, by show 2 ≤ sizeLine; decide, (.cons ⟨_, rfl⟩ (.cons ⟨_, rfl⟩ .nil))⟩) (.cons (.str _ (by decide)) (.cons (.str _ (by decide)) .nil))) (.cons (v := .ref _) rfl (fun H => .tup (vs := [.str "all", .str "some"]) (.inr ⟨_, _, _, r1_1, rfl, rfl, by show 2 ≤ sizeLine; decide, (.cons ⟨_, rfl⟩ (.cons ⟨_, rfl⟩ .nil))⟩) (.cons (.str _ (by decide)) (.cons (.str _ (by decide)) .nil))) (.cons (v := .ref _) rfl (fun H => .tup (vs := [.str "shown", .str "hidden"]) (.inr ⟨_, _, _, r1_2, rfl, rfl, by show 2 ≤ sizeLine; decide, (.cons ⟨_, rfl⟩ (.cons ⟨_, rfl⟩ .nil))⟩) (.cons (.str _ (by decide)) (.cons (.str _ (by decide)) .nil))) .nil))) (W.mg_of X G e1) d1 s1 (show List.Nodup (["door", "voice", "past"] : List Str) by decide), isx_mk w1Barred w9exg rfl, isx_mk w1Known w9exg rfl, isx_mk w1NoHand w9exg rfl, isx_mk w1NoLine w9exg rfl, isx_mk w1NoPerson w9exg rfl, isx_mk w1NoRight w9exg rfl, isx_mk w1NoRoom w9exg rfl, isx_mk w1NoRow w9exg rfl, isx_mk w1NotAsked w9exg rfl, isx_mk w1NotIn w9exg rfl, isx_mk w1ValueError w9exg rfl, W.mg_of X G w_Barred, W.mg_of X G w_Known, W.mg_of X G w_NoHand, W.mg_of X G w_NoLine, W.mg_of X G w_NoPerson, W.mg_of X G w_NoRight, W.mg_of X G w_NoRoom, W.mg_of X G w_NoRow, W.mg_of X G w_NotAsked, W.mg_of X G w_NotIn, catch_mk (W.mg_of X G w_TalkError) w2TalkError, ⟨W.mg_of X G w_NoLine, w3NoLine⟩⟩
  have D1 : DefAt K mg "is_letter" sd_is_letter ["sign"] f1 _ := ⟨l1, l1.binds fun _ _ _ _ _ _ => us1 fun _ => rfl, W.mg_of X G a1⟩
  have D2 : DefAt K mg "is_name" sd_is_name ["thing"] f2 _ := ⟨l2, l2.binds fun _ _ _ _ _ _ => us1 fun _ => rfl, W.mg_of X G a2⟩
  have D3 : DefAt K mg "is_words" sd_is_words ["thing"] f3 _ := ⟨l3, l3.binds fun _ _ _ _ _ _ => us1 fun _ => rfl, W.mg_of X G a3⟩
  have D4 : DefAt K mg "is_whole" sd_is_whole ["thing"] f4 _ := ⟨l4, l4.binds fun _ _ _ _ _ _ => us1 fun _ => rfl, W.mg_of X G a4⟩
  have D5 : DefAt K mg "is_number" sd_is_number ["thing"] f5 _ := ⟨l5, l5.binds fun _ _ _ _ _ _ => us1 fun _ => rfl, W.mg_of X G a5⟩
  have D6 : DefAt K mg "is_answer" sd_is_answer ["thing"] f6 _ := ⟨l6, l6.binds fun _ _ _ _ _ _ => us1 fun _ => rfl, W.mg_of X G a6⟩
  have D7 : DefAt K mg "is_setting" sd_is_setting ["what", "value"] f7 _ := ⟨l7, l7.binds fun _ _ _ _ _ _ => us2 fun _ _ => rfl, W.mg_of X G a7⟩
  have D8 : DefAt K mg "are_two_parts" sd_are_two_parts ["word", "first", "second"] f8 _ := ⟨l8, l8.binds fun _ _ _ _ _ _ => us3 fun _ _ _ => rfl, W.mg_of X G a8⟩
  have D9 : DefAt K mg "are_parts" sd_are_parts ["word", "parts"] f9 _ := ⟨l9, l9.binds fun _ _ _ _ _ _ => us2 fun _ _ => rfl, W.mg_of X G a9⟩
  have D10 : DefAt K mg "is_row" sd_is_row ["thing"] f10 _ := ⟨l10, l10.binds fun _ _ _ _ _ _ => us1 fun _ => rfl, W.mg_of X G a10⟩
  have D11 : DefAt K mg "digits_of" sd_digits_of ["number"] f11 _ := ⟨l11, l11.binds fun _ _ _ _ _ _ => us1 fun _ => rfl, W.mg_of X G a11⟩
  have D12 : DefAt K mg "number_in" sd_number_in ["digits"] f12 _ := ⟨l12, l12.binds fun _ _ _ _ _ _ => us1 fun _ => rfl, W.mg_of X G a12⟩
  have D13 : DefAt K mg "are_digits" sd_are_digits ["text"] f13 _ := ⟨l13, l13.binds fun _ _ _ _ _ _ => us1 fun _ => rfl, W.mg_of X G a13⟩
  have D14 : DefAt K mg "quoted" sd_quoted ["words"] f14 _ := ⟨l14, l14.binds fun _ _ _ _ _ _ => us1 fun _ => rfl, W.mg_of X G a14⟩
  have D15 : DefAt K mg "unquoted" sd_unquoted ["text"] f15 _ := ⟨l15, l15.binds fun _ _ _ _ _ _ => us1 fun _ => rfl, W.mg_of X G a15⟩
  have D16 : DefAt K mg "text_of" sd_text_of ["part"] f16 _ := ⟨l16, l16.binds fun _ _ _ _ _ _ => us1 fun _ => rfl, W.mg_of X G a16⟩
  have D17 : DefAt K mg "part_in" sd_part_in ["text"] f17 _ := ⟨l17, l17.binds fun _ _ _ _ _ _ => us1 fun _ => rfl, W.mg_of X G a17⟩
  have D18 : DefAt K mg "texts_of" sd_texts_of ["word", "parts"] f18 _ := ⟨l18, l18.binds fun _ _ _ _ _ _ => us2 fun _ _ => rfl, W.mg_of X G a18⟩
  have D19 : DefAt K mg "parts_in" sd_parts_in ["word", "text"] f19 _ := ⟨l19, l19.binds fun _ _ _ _ _ _ => us2 fun _ _ => rfl, W.mg_of X G a19⟩
  have D20 : DefAt K mg "line_of" sd_line_of ["row"] f20 _ := ⟨l20, l20.binds fun _ _ _ _ _ _ => us1 fun _ => rfl, W.mg_of X G a20⟩
  have D21 : DefAt K mg "row_in" sd_row_in ["text"] f21 _ := ⟨l21, l21.binds fun _ _ _ _ _ _ => us1 fun _ => rfl, W.mg_of X G a21⟩
  have D22 : DefAt K mg "read_line" sd_read_line ["text"] f22 _ := ⟨l22, l22.binds fun _ _ _ _ _ _ => us1 fun _ => rfl, W.mg_of X G a22⟩
  have D23 : DefAt K mg "_law_cell" sd_w_cell ["_law_script", "_law_k"] f23 _ := ⟨l23, l23.binds fun _ _ _ _ _ _ => us2 fun _ _ => rfl, W.mg_of X G a23⟩
  have D24 : DefAt K mg "_law_mix" sd_w_mix ["_law_cell_here", "_law_prime", "_law_many"] f24 _ := ⟨l24, l24.binds fun _ _ _ _ _ _ => us3 fun _ _ _ => rfl, W.mg_of X G a24⟩
  have D25 : DefAt K mg "_law_words" sd_w_words ["_law_cell_here"] f25 _ := ⟨l25, l25.binds fun _ _ _ _ _ _ => us1 fun _ => rfl, W.mg_of X G a25⟩
  have D26 : DefAt K mg "_law_any_row" sd_w_any_row ["_law_cell_here"] f26 _ := ⟨l26, l26.binds fun _ _ _ _ _ _ => us1 fun _ => rfl, W.mg_of X G a26⟩
  have D27 : DefAt K mg "_law_line" sd_w_line ["_law_row"] f27 _ := ⟨l27, l27.binds fun _ _ _ _ _ _ => us1 fun _ => rfl, W.mg_of X G a27⟩
  have D28 : DefAt K mg "_law_word" sd_w_word ["_law_kept"] f28 _ := ⟨l28, l28.binds fun _ _ _ _ _ _ => us1 fun _ => rfl, W.mg_of X G a28⟩
  have D29 : DefAt K mg "_law_read" sd_w_read ["_law_text"] f29 _ := ⟨l29, l29.binds fun _ _ _ _ _ _ => us1 fun _ => rfl, W.mg_of X G a29⟩
  have D30 : DefAt K mg "_law_is_right" sd_w_is_right ["_law_text"] f30 _ := ⟨l30, l30.binds fun _ _ _ _ _ _ => us1 fun _ => rfl, W.mg_of X G a30⟩
  have D31 : DefAt K mg "_law_lines" sd_w_lines [] f31 _ := ⟨l31, l31.binds fun _ _ _ _ _ _ => us0 rfl, W.mg_of X G a31⟩
  have D32 : DefAt K mg "_law_changed" sd_w_changed ["_law_text", "_law_cell_here"] f32 _ := ⟨l32, l32.binds fun _ _ _ _ _ _ => us2 fun _ _ => rfl, W.mg_of X G a32⟩
  have D33 : DefAt K mg "law" sd_law ["_law_script"] fa _ := ⟨l33, l33.binds fun _ _ _ _ _ _ => us1 fun _ => rfl, W.mg_of X G a33⟩
  let fas : Str → Addr := fun x => (([(Str.ofString "is_letter", f1), (Str.ofString "is_name", f2), (Str.ofString "is_words", f3), (Str.ofString "is_whole", f4), (Str.ofString "is_number", f5), (Str.ofString "is_answer", f6), (Str.ofString "is_setting", f7), (Str.ofString "are_two_parts", f8), (Str.ofString "are_parts", f9), (Str.ofString "is_row", f10), (Str.ofString "digits_of", f11), (Str.ofString "number_in", f12), (Str.ofString "are_digits", f13), (Str.ofString "quoted", f14), (Str.ofString "unquoted", f15), (Str.ofString "text_of", f16), (Str.ofString "part_in", f17), (Str.ofString "texts_of", f18), (Str.ofString "parts_in", f19), (Str.ofString "line_of", f20), (Str.ofString "row_in", f21), (Str.ofString "read_line", f22), (Str.ofString "w_cell", f23), (Str.ofString "w_mix", f24), (Str.ofString "w_words", f25), (Str.ofString "w_any_row", f26), (Str.ofString "w_line", f27), (Str.ofString "w_word", f28), (Str.ofString "w_read", f29), (Str.ofString "w_is_right", f30), (Str.ofString "w_lines", f31), (Str.ofString "w_changed", f32), (Str.ofString "law", fa)] : List (Str × Addr)).lookup x).getD 0
  let fts : Str → FuncData := fun x => (([(Str.ofString "is_letter", t1), (Str.ofString "is_name", t2), (Str.ofString "is_words", t3), (Str.ofString "is_whole", t4), (Str.ofString "is_number", t5), (Str.ofString "is_answer", t6), (Str.ofString "is_setting", t7), (Str.ofString "are_two_parts", t8), (Str.ofString "are_parts", t9), (Str.ofString "is_row", t10), (Str.ofString "digits_of", t11), (Str.ofString "number_in", t12), (Str.ofString "are_digits", t13), (Str.ofString "quoted", t14), (Str.ofString "unquoted", t15), (Str.ofString "text_of", t16), (Str.ofString "part_in", t17), (Str.ofString "texts_of", t18), (Str.ofString "parts_in", t19), (Str.ofString "line_of", t20), (Str.ofString "row_in", t21), (Str.ofString "read_line", t22), (Str.ofString "w_cell", t23), (Str.ofString "w_mix", t24), (Str.ofString "w_words", t25), (Str.ofString "w_any_row", t26), (Str.ofString "w_line", t27), (Str.ofString "w_word", t28), (Str.ofString "w_read", t29), (Str.ofString "w_is_right", t30), (Str.ofString "w_lines", t31), (Str.ofString "w_changed", t32), (Str.ofString "law", t33)] : List (Str × FuncData)).lookup x).getD (t1)
  have D : Ds K mg fas fts := ⟨D1, D2, D3, D4, D5, D6, D7, D8, D9, D10, D11, D12, D13, D14, D15, D16, D17, D18, D19, D20, D21, D22, D23, D24, D25, D26, D27, D28, D29, D30, D31, D32, D33⟩
  obtain ⟨oc, od, kV, doc, pm, an, cdv, ct, osl, e9, _, _⟩ := l33.ex
  exact ⟨t33, fun s v => by rw [e9]; exact .of_eq rfl, fun base _ _ => ok_law (fa := fas) (ft := fts) T D⟩
theorem sp_law {K : PySem.W.Frag} {H : Hp} {Q : VK} {E : XK} {a : Addr} {ns : List Int} (hS : SqL K H a (ns.map V.int)) (hQ : ∀ H', Q (.bl true) H') : spT K m_law [.ref a] H Q E :=
  ⟨⟨fun _ => false, fun _ => none⟩, [.scr ns], fun b e => (nomatch e), .cons (.scr hS) .nil, .bl true, law_true ns, fun v H' _ r => by rw [r.bl_inv]; exact hQ H'⟩
theorem walk {l : PySem.W.OpenLaw} {q : Program} {loose : List Str} {XP : (Str → Option Value) → Heap → Prop} {YP : World → Heap → Prop} {d : DefRec} {K : Params → PySem.W.Frag} (hn : l.most = some 63) (hdf : d.params.defaults = [])
    (hY : ∀ (w : World) (h : Heap), YP w h → (K w.params).In h)
    (F : ∀ (w : World) (mg : Str → Option Value) (fa : Addr) (h : Heap), (K w.params).In h → h.Ns mainGlobals mg → mg d.name = some (.ref fa) →
      ∃ fd : FuncData, (∀ (s : Shared) (u : Value), BindsTo s fd ⟨[u], []⟩ [("_law_script", u)]) ∧ ∀ base : Heap, (K w.params).In base → base.Ns mainGlobals mg → FnOk l.prog w (K w.params) mg base CX0 10 fa fd ["_law_script"] (spT (K w.params) m_law)) :
    PySem.W.WalkO q loose XP YP l.row.toRowW d [] (fun f vs => PySem.call f vs) :=
  L2.walk_of (n := 63) (k := 10) (x := "_law_script") (CX := fun _ => CX0) (sp := fun w => spT (K w.params) m_law) hn (by decide) hdf ⟨rfl, by decide, by decide⟩ hY F (fun _ _ a ns hl _ hS => sp_law hS fun _ => rfl) fun _ _ _ _ _ z => z
end M38
namespace PySem.W.Fast
def tw17836498647566827403:=0
def tw9944943248884990406:=0
def tw13040243345908434219:=0
def tw11392870009360802917:=0
def tw7115894990716814057:=0
def tw3670058076972990190:=0
def tw1170176856764518658:=0
def tw11616031636853415268:=0
def tw2311318030145312504:=0
def tw7933154605114547060:=0
def tw6573309157267069511:=0
def tw16392963196865848741:=0
def tw3590779060963234298:=0
def tw18297652123967475490:=0
def tw14918574565615657079:=0
def tw15792512218881997692:=0
def tw15010959250933757075:=0
def tw10947234918458167665:=0
def tw17042422164468965369:=0
def tw10359383498937972600:=0
def tw10653366742451384113:=0
def tw12634573305711564519:=0
def tw15695742704187302812:=0
def tw18322185174220869970:=0
def tw11727541225292154053:=0
def tw8099419543383492666:=0
def tw12175276310708200682:=0
def tw3257586877349603347:=0
def tw11585018317232170764:=0
def tw17321715454005360388:=0
def tw5576970909903602061:=0
def tw6973251070967307954:=0
def tw6288371391886198910:=0
def tw13649868589228627350:=0
def tw11687027809531652563:=0
def tw1044861365251778749:=0
def tw14671581620614142653:=0
def tw11113804807200817971:=0
def tw12259949163194714932:=0
def tw17388570792234932605:=0
def tw13293361430426342871:=0
def tw570775667435205116:=0
def tw6586647926989881831:=0
def tw1666949689787935106:=0
def tw8673926959427425597:=0
def tw6689701680571347754:=0
def tw740193676013776701:=0
def tw15748461600529270069:=0
def tw3782017285347125065:=0
def tw781026265669758927:=0
def tw9668067277732710323:=0
def tw10661997877171691705:=0
def tw13996683770853365252:=0
def tw17517785195406930423:=0
def tw6695115901451249309:=0
def tw9962850294112295461:=0
def tw7003153124899052633:=0
def tw8860949218924099634:=0
def tw8578854330541562320:=0
def tw13099157044617929790:=0
def tw12171865920514927040:=0
def tw18063945411461206246:=0
def tw7241320537252581095:=0
def tw16883089249060249991:=0
def tw2685371707303293643:=0
def tw14234399214359890271:=0
def tw6713472089766063657:=0
def tw12391781218594973427:=0
def tw7167339252716126466:=0
def tw5652441618692877665:=0
def tw1651742374639357514:=0
def tw12435396479537777623:=0
def tw1366908636568262619:=0
def tw9966382882199177947:=0
def tw17391073903906374569:=0
def tw1098783522435272659:=0
def tw18133731786246996757:=0
def tw3250037036508350987:=0
def tw15895665269430092280:=0
def tw18329486456595064920:=0
def tw1619804924500684417:=0
def tw3845277444609490082:=0
def tw12161857868727175476:=0
def tw4515530562425666840:=0
def tw14570400648819604780:=0
def tw8415581008636807783:=0
def tw13124468605030275510:=0
def tw13418902868533216728:=0
def tw2395897693061284482:=0
def tw2296972214748992899:=0
def tw7708783236200841683:=0
def tw11381960485007306235:=0
def tw5562697675593682401:=0
def tw1185580227596243563:=0
def tw12452702368593105801:=0
def tw2458609085511491310:=0
def tw17986635956006409453:=0
def tw837859942935424988:=0
def tw13345032383756139222:=0
def tw17530681184197592310:=0
def tw11331907550934011843:=0
def tw1767008003930282288:=0
def tw5267155401403633105:=0
def tw10908598492013794173:=0
def tw10782602287016936237:=0
def tw15324697545436513555:=0
def tw7244646366338732486:=0
def tw12575401312252690077:=0
def tw17374707088755808312:=0
def tw8474619310675176714:=0
def tw4677214945758863472:=0
def tw759688670647545841:=0
def tw17247542028580746763:=0
def tw14832962446289217113:=0
def tw13662389655590001854:=0
def tw15686780269617962953:=0
def tw17996616064973383666:=0
def tw10790609372259414582:=0
def tw16471387809231560267:=0
def tw1253069773672309592:=0
def tw17580927882986563694:=0
def tw15513248734618745018:=0
def tw895917625779616938:=0
def tw4610013972296189886:=0
def tw10486009557656496457:=0
def tw12027026462074476687:=0
def tw3387842660859593029:=0
def tw8978025403093095626:=0
def tw11585150225363411830:=0
def tw17559817842582232206:=0
def tw2075421490797041835:=0
def tw10833504583013554653:=0
def tw16745250630805956339:=0
def tw8477557378383405197:=0
def tw1013240325929886006:=0
def tw7990717906129686189:=0
def tw3091636280256324997:=0
def tw5853028985432175545:=0
def tw10546430933551058532:=0
def tw12682968932525445705:=0
def tw17563977493130612451:=0
def tw9066401786508704540:=0
def tw11062411418216263920:=0
def tw7313194300818842322:=0
def tw3022940063652091637:=0
def tw10069634991900107124:=0
def tw17308639569046132303:=0
def tw474340119321630601:=0
def tw7945624582126798850:=0
def tw17673762630595555600:=0
def tw16823090301261523326:=0
def tw15200408286177364162:=0
def tw4425175583078195703:=0
def tw18224710547869348894:=0
def tw2953344552321613474:=0
def tw16034334781972358063:=0
def tw10706577590708632203:=0
def tw10073683428617619519:=0
def tw17276854152366326042:=0
def tw16955402163302929894:=0
def tw655869801848065545:=0
def tw11325402609290851483:=0
def tw17724496758402543455:=0
def tw2411254471243062437:=0
def tw1947300552542362846:=0
def tw9357654939453526797:=0
def tw16923971650358485706:=0
def tw143669984294428023:=0
def tw9187686138987716411:=0
def tw14808907157011711741:=0
def tw10424381373772836428:=0
def tw15327980856118700214:=0
def tw14378033536642944363:=0
def tw16208094833943328640:=0
def tw6724889527308058576:=0
def tw9714628799214382802:=0
def tw11892402228589098959:=0
def tw6912067144159883837:=0
def tw13766087179090931191:=0
def tw932628239039652029:=0
def tw7708485199077308164:=0
def tw14271192508250496966:=0
def tw11412269525225723662:=0
def tw15053940938878709283:=0
def tw4255015117638161747:=0
def tw13758531055917675181:=0
def tw5270437772158421501:=0
def tw9153243697010980708:=0
def tw16023681375650977407:=0
def tw6741033470868375415:=0
def tw8280900350477568809:=0
def tw6390130084166457251:=0
def tw11969675869852852535:=0
def tw15641376826762556689:=0
def tw11228243182053629002:=0
def tw12210986212710624958:=0
def tw5177072275550017208:=0
def tw6741211233366681269:=0
def tw8348954417174413562:=0
def tw5643071596908664498:=0
def tw10049002582680684855:=0
def tw5596404359612324755:=0
def tw1814596814070576651:=0
def tw10928403363308624772:=0
def tw11201019526804693708:=0
def tw490468069645895798:=0
def tw7648220627166278536:=0
def tw4414385219110471849:=0
def tw12951922475393231625:=0
def tw6425357228555497649:=0
def tw6976325474797366412:=0
def tw6448829344982668630:=0
def tw14521007072397201154:=0
def tw11530813740509159036:=0
def tw13289978042384282130:=0
def tw12447446799502562548:=0
def tw9136751674304543548:=0
def tw17502677110440391579:=0
def tw12466741336701984634:=0
def tw13223117971827560538:=0
def tw13187625009884715496:=0
def tw4951372843897569877:=0
def tw9587997230258949926:=0
def tw1897153331025195714:=0
def tw6525393131532997294:=0
def tw15107039353046130312:=0
def tw3551667214569007949:=0
def tw15613960370329658822:=0
def tw11799180832391505156:=0
def tw9956085294103183991:=0
def tw6666807843672557327:=0
def tw410421731220855698:=0
def tw2649579568385719349:=0
def tw10846592555631031322:=0
def tw10497369191787029691:=0
def tw16933976312274404306:=0
def tw4243847846683174187:=0
def tw12161935994628929044:=0
def tw12997257168752859819:=0
def tw1671434571485476520:=0
def tw1583305592127783430:=0
def tw7462691641040371858:=0
def tw9277192244540624509:=0
def tw11082993048385280432:=0
def tw3729009215335145401:=0
def tw3405606873288230971:=0
def tw18249542484763841380:=0
def tw116398605546905497:=0
def tw3955645101475946495:=0
def tw14791655746218045046:=0
def tw15816902649007130146:=0
def tw13829180244442528262:=0
def tw6927359512318343387:=0
def tw4513905277785955979:=0
def tw11968597571860857921:=0
def tw4429212139925042997:=0
def tw8817329403546094013:=0
def tw13086211371825216819:=0
def tw13416940758126098349:=0
def tw16008787324392730758:=0
def tw15243028677880216521:=0
def tw14511785588775260651:=0
def tw8481945766492071917:=0
def tw17312455030442052063:=0
def tw9115371635803703581:=0
def tw4239213459875876408:=0
def tw15764726779141733709:=0
def tw11461750172902999858:=0
def tw5928802864526722779:=0
def tw4171053385113532966:=0
def tw3819001945759766072:=0
def tw16500889443705202564:=0
def tw16047586053575066778:=0
def tw18082805297817437781:=0
def tw13203719191367255065:=0
def tw15460543723377815147:=0
def tw16081418976096229408:=0
def tw5611595840397398953:=0
def tw5604602387730327828:=0
def tw5515499988754330438:=0
def tw3665116974071353324:=0
def tw6795293961809982741:=0
def tw3069454122575747191:=0
def tw7227371967379203691:=0
def tw2257616181341376978:=0
def tw3014773166579445793:=0
def tw9040183296067239319:=0
def tw6551512156987093670:=0
def tw17509491655548570917:=0
def tw16046432914530979475:=0
def tw2522715096554224430:=0
def tw15229648574597537500:=0
def tw8698734506312040182:=0
def tw11400511869242723699:=0
def tw2891452719076345109:=0
def tw13420754559700079516:=0
def tw6175548437532599187:=0
def tw3739463655322056809:=0
def tw8120381172339689294:=0
def tw12244564271865764538:=0
def tw16687639951614155978:=0
def tw14179085607438024145:=0
def tw12234175667518629487:=0
def tw6942917020008157579:=0
def tw2545228605020487804:=0
def tw11053844134214878516:=0
def tw18233473180480138902:=0
def tw10039941773946869216:=0
def tw17240791898099127066:=0
def tw8328042546489280458:=0
def tw5810927350187321429:=0
def tw15267110856515496852:=0
def tw458250909585815651:=0
def tw6421159143577860442:=0
def tw14311466364130646112:=0
def tw3472927912661951553:=0
def tw17879195368388684087:=0
def tw16318885297102907299:=0
def tw8327487303074090431:=0
def tw13626007046544477437:=0
def tw3494489232003205128:=0
def tw8029403973428337079:=0
def tw5659674697321445482:=0
def tw518554314238203990:=0
def tw6119346625959821584:=0
def tw4446806706677214222:=0
def tw18130585827580828404:=0
def tw15349952715246675069:=0
def tw7701010889613462627:=0
def tw13602722906915371978:=0
def tw8901844739541981227:=0
def tw8356639453281133199:=0
def tw16055280368753384983:=0
def tw12757012973022304291:=0
def tw8021054661250849144:=0
def tw3831529020100785088:=0
def tw11474821091822612723:=0
def tw17288762043298359930:=0
def tw10863524531487843979:=0
def tw3054941467548471692:=0
def tw14725488621032729864:=0
def tw2308435231678789208:=0
def tw16990063549991976176:=0
def tw13425014919517290510:=0
def tw12122761984698337240:=0
def tw10162446689068210034:=0
def tw4807306256201014461:=0
def tw808000763458840066:=0
def tw7624330939752039752:=0
def tw13330770612782568460:=0
def tw14323697994582203135:=0
def tw13238766812930125720:=0
def tw15675019345224901751:=0
def tw12255652333504021480:=0
def tw1230986023950532619:=0
def tw9776392941208091216:=0
def tw13099209526012189625:=0
def tw7420663323456454358:=0
def tw5520626562270138297:=0
def tw14932260516573485208:=0
def tw4609946378834807662:=0
def tw13332677507170025501:=0
def tw12079823923088492695:=0
def tw8757924012778783928:=0
def tw4802369229741534269:=0
def tw14936131661886219818:=0
def tw3628722132616697963:=0
def tw13954230657621051842:=0
def tw18180336283526945566:=0
def tw15791919847030015659:=0
def tw9545165469358186236:=0
def tw969349486600136428:=0
def tw17351337561963046602:=0
def tw57789127159137652:=0
def tw16687555915714203525:=0
def tw13786406286774495694:=0
def tw12635958310799219395:=0
def tw2680524122694057696:=0
end PySem.W.Fast
open PySem PySem.W PyProof.Rows
set_option maxRecDepth 100000 in
set_option maxHeartbeats 0 in
theorem PySem.Challenge.cw_talkhall_k38_whole_no_other_lines_holds : PySem.Challenge.rw_talkhall_k38_whole_no_other_lines.Holds := by
  w_on; o_law; k_head; (case hw => w_witness2)
  k_fill
  refine M38.walk (l := PySem.Challenge.rw_talkhall_k38_whole_no_other_lines) rfl rfl (fun w h Y => PySem.W.kIn_of Y) ?F
  case F =>
    intro w mg fa h KX G hmg
    refine' M38.all_mk KX G hmg ?_ ?_ ?_ ?_ ?_ ?_ ?_ ?_ ?_ ?_ ?_ ?_ ?_ ?_ ?_ ?_ ?_ ?_ ?_ ?_ ?_ ?_ ?_ ?_ ?_ ?_ ?_ ?_ ?_ ?_ ?_ ?_ ?_ ?_ ?_ ?_ ?_ ?_ ?_ ?_ ?_ ?_ ?_ ?_ ?_ ?_ ?_ ?_ ?_ ?_ ?_ ?_ ?_ ?_ ?_ ?_ ?_ ?_ ?_ ?_ ?_ ?_ ?_ ?_ ?_ ?_ ?_ ?_ ?_ ?_ ?_ ?_ ?_ ?_ ?_ ?_ ?_ ?_ ?_ ?_ ?_ ?_ ?_ ?_ ?_ ?_ ?_ ?_ ?_ ?_ ?_ ?_ ?_ ?_ ?_ ?_ ?_ ?_ ?_ ?_ ?_ ?_ ?_ ?_ ?_ ?_ ?_ ?_ ?_ ?_ ?_ ?_ ?_ ?_ ?_ ?_ ?_
    all_goals first | k_is | kernel_rfl | (refine' L2.fun_mk ?q1 ?q2 ?q3; (case q1 => k_is); (case q2 => k_is); (case q3 => k_is)) | skip
