import PyProof.Rows.All
import Wide.All
import OpenK.AllK
import Wide.FinOn
import Lean
import PyProof.EqAt
import PyProof.EqKinds
import PyProof.TupleCall
import PyProof.Rows.SortRuns
import PyProof.Rows.SortShell
import PySem.Challenge.RW_evenlots_k06_runs_told
set_option Elab.async false
set_option linter.all false
set_option maxRecDepth 100000
/-! THE HAND LAYER, for ints, bools, texts, own classes, LISTS and tuples (index, slices, in, append, pop ..), calls, loops. Paste it whole ahead of your own text; what your proof does not reach may be deleted. -/
namespace L2
open PySem PySem.Spec PyProof.Rows

/-- a key: an int or a str -/
abbrev Key := Sum Int Str
def keyIs : Key → Value → Bool
  | .inl k, v => Value.isInt k v
  | .inr x, v => Value.isStrOf x v
def keyH (w : World) : Key → Int
  | .inl k => hashInt k
  | .inr x => hashStr w x
theorem keyIs_shape : ∀ {k : Key} {v : Value}, keyIs k v = true → (∃ i t, k = Sum.inl i ∧ v = Value.int i t) ∨ (∃ x t, k = Sum.inr x ∧ v = Value.str x t)
  | .inl i, v, h => by
    obtain ⟨t, e⟩ := Value.isInt_shape (k := i) (v := v) h
    exact .inl ⟨i, t, rfl, e⟩
  | .inr x, v, h => by
    obtain ⟨t, e⟩ := Value.isStrOf_shape (x := x) (v := v) h
    exact .inr ⟨x, t, rfl, e⟩
theorem keyIs_int (i : Int) (t : Tok) : keyIs (.inl i) (.int i t) = true := by simp [keyIs, Value.isInt]
theorem keyIs_str (x : Str) (t : Tok) : keyIs (.inr x) (.str x t) = true := by simp [keyIs, Value.isStrOf]
theorem key_ll (a b : Int) : decide ((Sum.inl a : Key) = Sum.inl b) = (a == b) := by
  by_cases e : a = b
  · subst e; simp
  · have h : ¬ (Sum.inl a : Key) = Sum.inl b := fun q => e (Sum.inl.inj q)
    rw [decide_eq_false h]
    exact (beq_eq_false_iff_ne.mpr e).symm
theorem key_rr (a b : Str) : decide ((Sum.inr a : Key) = Sum.inr b) = decide (a = b) := by
  by_cases e : a = b
  · subst e; simp
  · have h : ¬ (Sum.inr a : Key) = Sum.inr b := fun q => e (Sum.inr.inj q)
    rw [decide_eq_false h, decide_eq_false e]
theorem key_lr (a : Int) (b : Str) : decide ((Sum.inl a : Key) = Sum.inr b) = false := decide_eq_false (fun q => nomatch q)
theorem key_rl (a : Str) (b : Int) : decide ((Sum.inr a : Key) = Sum.inl b) = false := decide_eq_false (fun q => nomatch q)

def mixKind (prog : Program) (w : World) : PySem.KeyKind prog w Key where
  is := keyIs
  hash := keyH w
  inj := fun v a b ha hb => by
    rcases keyIs_shape ha with ⟨i, t, rfl, rfl⟩ | ⟨x, t, rfl, rfl⟩
    · rcases keyIs_shape hb with ⟨j, u, rfl, e⟩ | ⟨y, u, rfl, e⟩
      · injection e with e1 _; rw [e1]
      · exact nomatch e
    · rcases keyIs_shape hb with ⟨j, u, rfl, e⟩ | ⟨y, u, rfl, e⟩
      · exact nomatch e
      · injection e with e1 _; rw [e1]
  byValue := fun k v h => by
    rcases keyIs_shape h with ⟨i, t, rfl, rfl⟩ | ⟨x, t, rfl, rfl⟩ <;> rfl
  pyHash := fun hv h => by
    rcases keyIs_shape hv with ⟨i, t, rfl, rfl⟩ | ⟨x, t, rfl, rfl⟩
    · exact wpAny_pyHash_int h
    · exact wpAny_pyHash_str h
  eqBool := fun hu hv h => by
    rcases keyIs_shape hu with ⟨i, t, rfl, rfl⟩ | ⟨x, t, rfl, rfl⟩
    · rcases keyIs_shape hv with ⟨j, u, rfl, rfl⟩ | ⟨y, u, rfl, rfl⟩
      · rw [key_ll] at h; exact wpAny_eqBool_int h
      · rw [key_lr] at h; exact SeqAt.EqAt.int_str i t y u _ _ _ _ h
    · rcases keyIs_shape hv with ⟨j, u, rfl, rfl⟩ | ⟨y, u, rfl, rfl⟩
      · rw [key_rl] at h; exact SeqAt.EqAt.str_int x t j u _ _ _ _ h
      · rw [key_rr] at h; exact wpAny_eqBool_str h
  «strs» := fun k x t v h => by
    rcases keyIs_shape h with ⟨i, u, rfl, e⟩ | ⟨y, u, rfl, e⟩
    · exact nomatch e
    · injection e with e1 _
      subst e1
      cases v <;> rfl

theorem mixKind_is (prog : Program) (w : World) (k : Key) (v : Value) : (mixKind prog w).is k v = keyIs k v := rfl
theorem mixKind_int (prog : Program) (w : World) (i : Int) (t : Tok) : (mixKind prog w).is (.inl i) (.int i t) = true := keyIs_int i t
theorem mixKind_str (prog : Program) (w : World) (x : Str) (t : Tok) : (mixKind prog w).is (.inr x) (.str x t) = true := keyIs_str x t
end L2

namespace L2
open PySem PySem.Spec PyProof.Rows

/-- a value, without the heap -/
inductive V where
  | non | bl (b : Bool) | int (i : Int) | str (x : Str) | byt (b : Array UInt8) | flt (b : UInt64) | ref (a : Addr) | ty (n : String)
  deriving DecidableEq

def RelV : V → Value → Prop
  | .non, u => u = Value.none
  | .bl b, u => u = Value.bool b
  | .int i, u => ∃ t, u = Value.int i t
  | .str x, u => ∃ t, u = Value.str x t
  | .byt b, u => ∃ t, u = Value.bytes b t
  | .flt b, u => ∃ t, u = Value.float b t
  | .ref a, u => u = Value.ref a
  | .ty n, u => u = Value.type n

abbrev Vals : List V → List Value → Prop := Paired RelV
theorem Vals.length {xs : List V} {us : List Value} (r : Vals xs us) : xs.length = us.length := Paired.length r
theorem Vals.get : ∀ {xs : List V} {us : List Value} {i : Nat} {x : V}, Vals xs us → xs[i]? = some x → ∃ u, us[i]? = some u ∧ RelV x u
  | _, _, _, _, .nil, e => by simp at e
  | _, _, 0, _, .cons r _, e => by simp at e; subst e; exact ⟨_, rfl, r⟩
  | _, _, i + 1, x, .cons _ t, e => by
    obtain ⟨u, h1, h2⟩ := Vals.get (i := i) (x := x) t (by simpa using e)
    exact ⟨u, by simpa using h1, h2⟩
theorem Vals.set {x : V} {u : Value} (r : RelV x u) : ∀ {xs : List V} {us : List Value} (i : Nat), Vals xs us → Vals (xs.set i x) (us.set i u)
  | _, _, _, .nil => .nil
  | _, _, 0, .cons _ t => .cons r t
  | _, _, i + 1, .cons q t => .cons q (Vals.set r i t)
theorem Vals.append : ∀ {xs ys : List V} {us ws : List Value}, Vals xs us → Vals ys ws → Vals (xs ++ ys) (us ++ ws)
  | _, _, _, _, .nil, s => s
  | _, _, _, _, .cons r t, s => .cons r (Vals.append t s)
theorem Vals.take : ∀ {xs : List V} {us : List Value} (n : Nat), Vals xs us → Vals (xs.take n) (us.take n)
  | _, _, 0, _ => .nil
  | _, _, _ + 1, .nil => .nil
  | _, _, n + 1, .cons r t => .cons r (Vals.take n t)
theorem Vals.drop : ∀ {xs : List V} {us : List Value} (n : Nat), Vals xs us → Vals (xs.drop n) (us.drop n)
  | _, _, 0, r => r
  | _, _, _ + 1, .nil => .nil
  | _, _, n + 1, .cons _ t => Vals.drop n t
theorem Vals.none_of : ∀ {xs : List V} {us : List Value} {i : Nat}, Vals xs us → xs[i]? = none → us[i]? = none := fun {xs us i} r e => by
  have h1 := r.length
  have h2 : xs.length ≤ i := List.getElem?_eq_none_iff.mp e
  exact List.getElem?_eq_none_iff.mpr (by omega)

def RelO : Option V → Option Value → Prop
  | some v, some u => RelV v u
  | none, none => True
  | _, _ => False
def KV {κ : Type} : List (κ × V) → List (κ × Value) → Prop := Paired fun (p : κ × V) (q : κ × Value) => p.1 = q.1 ∧ RelV p.2 q.2

/-- a key of a dict (00_mix): an int or a text -/
def kV : Key → V
  | .inl i => .int i
  | .inr x => .str x

/-- what stands at a tracked address -/
inductive HO where
  /-- a list -/
  | lst (xs : List V)
  /-- a tuple (never changes) -/
  | tup (xs : List V)
  /-- a dict whose keys are ints and texts; one whose keys are tuples of ints and texts (the empty one is both) -/
  | dK (kvs : List (Key × V)) | dT (kvs : List (List Key × V))
  /-- a set of ints: its members, its size -/
  | set (S : Int → Bool) (n : Nat)
  /-- an instance of the class at C, its dict at dx, its attributes -/
  | ins (C dx : Addr) (fs : List (Str × V))
  /-- the dict of the instance at x -/
  | own (x : Addr)
  /-- the dict of an exception -/
  | xd (fs : List (Str × V))
  /-- a bound method, f of x -/
  | met (f x : Addr)
  /-- a range object lo, lo + 1, .. below hi -/
  | rng (lo hi : Int)
  /-- a thing that is known to the object (the script; a dict while a loop walks it): read, never written while it is so -/
  | frz (o : Obj) (u : HO)
  /-- a code object's table -/
  | tbl (ps : Array Value)
  /-- any other thing, by what is true of its one object (a def of one's own: SetO a S n := HO.ext fun h => ..) -/
  | ext (φ : Heap → Prop)

abbrev Hp := Addr → Option HO
def upd (H : Hp) (a : Addr) (o : HO) : Hp := fun b => if b = a then some o else H b
theorem upd_same {H : Hp} {a : Addr} {o : HO} : upd H a o a = some o := by unfold upd; rw [if_pos rfl]
theorem upd_ne {H : Hp} {a b : Addr} {o : HO} (h : b ≠ a) : upd H a o b = H b := by unfold upd; rw [if_neg h]
theorem upd_upd {H : Hp} {a : Addr} {o u : HO} : upd (upd H a o) a u = upd H a u := by
  funext b; unfold upd; split <;> rfl
/-- two objects of different content stand apart -/
theorem ne_of {H : Hp} {a b : Addr} {o u : HO} (h : H a = some o) (h' : H b = some u) (d : o ≠ u) : a ≠ b := by
  intro e; subst e; rw [h] at h'; exact d (Option.some.inj h')
theorem ne_of_none {H : Hp} {a b : Addr} {o : HO} (h : H a = some o) (h' : H b = none) : a ≠ b := by
  intro e; subst e; rw [h] at h'; cases h'

section
variable (P : Program) (w : World)
def ObjOk (H : Hp) (h : Heap) (a : Addr) : HO → Prop
  | .lst xs => xs.length ≤ sizeLine ∧ ∃ (its : List Value) (n : Nat), Vals xs its ∧ h.get? a = some { cls := .type "list", data := .seq its.toArray n }
  | .tup xs => xs.length ≤ sizeLine ∧ ∃ its : List Value, Vals xs its ∧ IsTup h a its.toArray
  | .dK kvs => kvs.length ≤ sizeLine ∧ (a == sysModules) = false ∧ ∃ vs, KV kvs vs ∧ h.DictOf (mixKind P w) a vs
  | .dT kvs => kvs.length ≤ sizeLine ∧ (a == sysModules) = false ∧ ∃ xs : List (List Key × Addr × Value),
      Paired (fun (p : List Key × V) (q : List Key × Addr × Value) => p.1 = q.1 ∧ H q.2.1 = some (.tup (p.1.map kV)) ∧ RelV p.2 q.2.2) kvs xs ∧
      ∃ o es ep, h.get? a = some o ∧ o.ExactDict ∧ o.data = .dict es ep ∧ es.toList = xs.map (entryOfKey (tupleKind (mixKind P w))) ∧ (xs.map (·.1)).Nodup
  | .set S n => h.SetOf (intKind P w) a S n
  | .ins C dx fs => H dx = some (.own a) ∧ fs.length ≤ 1000 ∧ dx ≠ a ∧ h.get? a = some (PySem.W.instObj C dx) ∧
      ∃ mA, h.Ns1 dx mA ∧ (∀ f, RelO (fs.lookup f) (mA f)) ∧ PySem.Within mA (fs.map (·.1))
  | .own _ => ∃ o, h.get? a = some o
  | .xd fs => ∃ mA, h.Ns1 a mA ∧ ∀ f, RelO (fs.lookup f) (mA f)
  | .rng lo hi => ∃ t u v, h.get? a = some { cls := .type "range", data := .fields #[.int lo t, .int hi u, .int 1 v] }
  | .frz o u => h.get? a = some o ∧ ObjOk H h a u
  | .tbl ps => h.get? a = some { cls := .none, data := .fields ps }
  | .met f x => h.get? a = some (PySem.W.methodObj (.ref f) (.ref x))
  | .ext φ => φ h ∧ (∃ o, h.get? a = some o) ∧ ∀ h1 h2 : Heap, φ h1 → (∀ o, h1.get? a = some o → h2.get? a = some o) → φ h2
/-- the abstract heap is held -/
def HOk (H : Hp) (h : Heap) : Prop := ∀ a o, H a = some o → ObjOk P w H h a o
end

section
variable {P : Program} {w : World} {H H' : Hp} {h h' : Heap} {a : Addr} {o : HO}
theorem ObjOk.lt (x : ObjOk P w H h a o) : a < h.objs.size := by
  cases o with
  | lst xs => obtain ⟨_, _, _, _, e⟩ := x; exact Heap.lt_size e
  | tup xs => obtain ⟨_, _, _, p⟩ := x; exact p.lt
  | dK kvs => obtain ⟨_, _, _, _, o, _, _, e, _⟩ := x; exact Heap.lt_size e
  | dT kvs => obtain ⟨_, _, _, _, o, _, _, e, _⟩ := x; exact Heap.lt_size e
  | set S n => obtain ⟨o, _, _, _, e, _⟩ := x; exact Heap.lt_size e
  | ins C dx fs => obtain ⟨_, _, _, e, _⟩ := x; exact Heap.lt_size e
  | own y => obtain ⟨_, e⟩ := x; exact Heap.lt_size e
  | xd fs => obtain ⟨_, ⟨_, _, _, e, _⟩, _⟩ := x; exact Heap.lt_size e
  | rng lo hi => obtain ⟨_, _, _, e⟩ := x; exact Heap.lt_size e
  | frz ob u => obtain ⟨e, _⟩ := x; exact Heap.lt_size e
  | tbl ps => exact Heap.lt_size (show h.get? a = some _ from x)
  | met f y => exact Heap.lt_size (show h.get? a = some _ from x)
  | ext φ => obtain ⟨_, ⟨_, e⟩, _⟩ := x; exact Heap.lt_size e
theorem Paired.mapP {α β : Type} {F G : α → β → Prop} : ∀ {l₁ : List α} {l₂ : List β}, Paired F l₁ l₂ → (∀ a b, F a b → G a b) → Paired G l₁ l₂
  | _, _, .nil, _ => .nil
  | _, _, .cons r t, f => .cons (f _ _ r) (Paired.mapP t f)
theorem Paired.imp' {α β : Type} {F G : α → β → Prop} (f : ∀ a b, F a b → G a b) {l₁ : List α} {l₂ : List β} (r : Paired F l₁ l₂) : Paired G l₁ l₂ := Paired.mapP r f
/-- what an object's description leans on: its own object, its own dict, the tuples -/
theorem ObjOk.stay (x : ObjOk P w H h a o) (k : ∀ b u, (b = a ∨ H b = some (.own a)) → h.get? b = some u → h'.get? b = some u)
    (ho : ∀ b, H b = some (.own a) → H' b = some (.own a)) (ht : ∀ b xs, H b = some (.tup xs) → H' b = some (.tup xs)) : ObjOk P w H' h' a o := by
  induction o with
  | lst xs => obtain ⟨z, its, n, r, e⟩ := x; exact ⟨z, its, n, r, k _ _ (.inl rfl) e⟩
  | tup xs => obtain ⟨z, its, r, ob, e, c⟩ := x; exact ⟨z, its, r, ob, k _ _ (.inl rfl) e, c⟩
  | dK kvs => obtain ⟨z, y, vs, r, ob, es, ep, e, c⟩ := x; exact ⟨z, y, vs, r, ob, es, ep, k _ _ (.inl rfl) e, c⟩
  | dT kvs =>
    obtain ⟨z, y, xs, r, ob, es, ep, e, c⟩ := x
    exact ⟨z, y, xs, Paired.mapP r fun p q z => ⟨z.1, ht _ _ z.2.1, z.2.2⟩, ob, es, ep, k _ _ (.inl rfl) e, c⟩
  | set S n => obtain ⟨ob, es, ep, t, e, c⟩ := x; exact ⟨ob, es, ep, t, k _ _ (.inl rfl) e, c⟩
  | ins C dx fs =>
    obtain ⟨d, z, ne, e, mA, ⟨od, es, ep, e2, c⟩, r⟩ := x
    exact ⟨ho _ d, z, ne, k _ _ (.inl rfl) e, mA, ⟨od, es, ep, k _ _ (.inr d) e2, c⟩, r⟩
  | own y => obtain ⟨ob, e⟩ := x; exact ⟨ob, k _ _ (.inl rfl) e⟩
  | xd fs => obtain ⟨mA, ⟨od, es, ep, e, c⟩, r⟩ := x; exact ⟨mA, ⟨od, es, ep, k _ _ (.inl rfl) e, c⟩, r⟩
  | rng lo hi => obtain ⟨t, u, v, e⟩ := x; exact ⟨t, u, v, k _ _ (.inl rfl) e⟩
  | frz ob u ih => obtain ⟨e, q⟩ := x; exact ⟨k _ _ (.inl rfl) e, ih q⟩
  | tbl ps =>
    have e : h.get? a = some { cls := .none, data := .fields ps } := x
    show h'.get? a = some { cls := .none, data := .fields ps }
    exact k a _ (.inl rfl) e
  | met f y =>
    have e : h.get? a = some (PySem.W.methodObj (.ref f) (.ref y)) := x
    show h'.get? a = some (PySem.W.methodObj (.ref f) (.ref y))
    exact k a _ (.inl rfl) e
  | ext φ => obtain ⟨p, ⟨o, e⟩, st⟩ := x; exact ⟨st _ _ p fun o q => k _ _ (.inl rfl) q, ⟨o, k _ _ (.inl rfl) e⟩, st⟩
theorem HOk.lt (x : HOk P w H h) (e : H a = some o) : a < h.objs.size := (x a o e).lt
theorem HOk.fresh (x : HOk P w H h) (e : h.objs.size ≤ a) : H a = none := by
  cases q : H a with
  | none => rfl
  | some u => exact absurd (Nat.lt_of_lt_of_le (x.lt q) e) (Nat.lt_irrefl _)
/-- every object of the heap is kept -/
theorem HOk.kept (x : HOk P w H h) (k : ∀ b u, h.get? b = some u → h'.get? b = some u) : HOk P w H h' := fun a o e =>
  (x a o e).stay (fun b u _ q => k b u q) (fun _ q => q) fun _ _ q => q
/-- a new object is laid and tracked -/
theorem HOk.laid (x : HOk P w H h) (k : ∀ b u, h.get? b = some u → h'.get? b = some u) (hp : h.objs.size ≤ a) (new : ObjOk P w (upd H a o) h' a o) : HOk P w (upd H a o) h' := fun b u e => by
  have hn := x.fresh hp
  by_cases hb : b = a
  · subst hb; rw [upd_same] at e; cases e; exact new
  · rw [upd_ne hb] at e
    exact (x b u e).stay (fun c v _ q => k c v q) (fun c q => by rw [upd_ne (ne_of_none q hn)]; exact q) fun c xs q => by rw [upd_ne (ne_of_none q hn)]; exact q
end

/-- what may be read as u: it is u, or a known u -/
def Rd (H : Hp) (a : Addr) (u : HO) : Prop := H a = some u ∨ ∃ o, H a = some (.frz o u)
theorem Rd.of {H : Hp} {a : Addr} {u : HO} (h : H a = some u) : Rd H a u := .inl h
theorem Rd.ok {P : Program} {w : World} {H : Hp} {h : Heap} {a : Addr} {u : HO} (r : Rd H a u) (x : HOk P w H h) : ObjOk P w H h a u := by
  rcases r with r | ⟨o, r⟩
  · exact x a u r
  · obtain ⟨_, q⟩ := x a _ r
    exact q
/-- what may be written -/
def Mut : Option HO → Prop
  | some (.lst _) => True
  | some (.dK _) => True
  | some (.dT _) => True
  | some (.set _ _) => True
  | some (.ins _ _ _) => True
  | some (.ext _) => True
  | _ => False
section
variable {P : Program} {w : World} {H : Hp} {h h' : Heap} {x e : Addr} {o' : HO}
/-- the object at e is changed: x itself, or the dict of the instance x -/
theorem HOk.write (ok : HOk P w H h) (mu : Mut (H x)) (he : e = x ∨ H e = some (.own x)) (k : ∀ b u, b ≠ e → h.get? b = some u → h'.get? b = some u) (heo : ∃ u, h'.get? e = some u)
    (new : ObjOk P w (upd H x o') h' x o') : HOk P w (upd H x o') h' := fun b u q => by
  have nown : ∀ c y, H c = some (.own y) → c ≠ x := fun c y r z => by subst z; rw [r] at mu; exact mu
  have ntup : ∀ c xs, H c = some (.tup xs) → c ≠ x := fun c xs r z => by subst z; rw [r] at mu; exact mu
  by_cases hb : b = x
  · subst hb; rw [upd_same] at q; cases q; exact new
  · rw [upd_ne hb] at q
    by_cases hbe : b = e
    · have q' : H b = some (.own x) := by
        rcases he with z | z
        · exact absurd (hbe.trans z) hb
        · rw [hbe]; exact z
      rw [q] at q'; cases q'
      obtain ⟨v, hv⟩ := heo
      exact ⟨v, by rw [hbe]; exact hv⟩
    · refine (ok b u q).stay (fun c v hc r => k c v ?_ r) (fun c r => by rw [upd_ne (nown c b r)]; exact r) fun c xs r => by rw [upd_ne (ntup c xs r)]; exact r
      rcases hc with rfl | hc
      · exact hbe
      · rintro rfl
        rcases he with z | z
        · exact nown c b hc z
        · rw [hc] at z; cases z; exact hb rfl
end

/-! ### kept unless tracked; of the frames at fs (the callers') the slots may change (an exception that passes writes there); of the records at ex (iterators) nothing is said -/
structure Un (fs ex : List Addr) (H H' : Hp) (h h' : Heap) : Prop where
  keep : ∀ b o, h.get? b = some o → H b = none → b ∉ fs → b ∉ ex → h'.get? b = some o
  slot : ∀ b o, h.get? b = some o → H b = none → b ∈ fs → b ∉ ex → ∃ sl, h'.get? b = some { o with slots := sl }
  free : ∀ b o, h.get? b = some o → H b = none → b ∉ ex → H' b = none
  there : ∀ b o, h.get? b = some o → b ∉ ex → ∃ o', h'.get? b = some o'
  tups : ∀ b xs, H b = some (.tup xs) → H' b = some (.tup xs)
  frzs : ∀ b o u, H b = some (.frz o u) → H' b = some (.frz o u)
  tbls : ∀ b ps, H b = some (.tbl ps) → ∃ more, H' b = some (.tbl (ps ++ more))
section
variable {fs fs' ex ex' : List Addr} {H H1 H2 : Hp} {h h1 h2 h' : Heap} {a x e : Addr} {o : HO}
theorem Un.any (u : Un fs ex H H1 h h1) {b : Addr} {ob : Obj} (q : h.get? b = some ob) (n : H b = none) (hx : b ∉ ex) : ∃ sl, h1.get? b = some { ob with slots := sl } := by
  by_cases hb : b ∈ fs
  · exact u.slot b ob q n hb hx
  · exact ⟨ob.slots, u.keep b ob q n hb hx⟩
theorem Un.trans (a : Un fs ex H H1 h h1) (b : Un fs ex H1 H2 h1 h2) : Un fs ex H H2 h h2 where
  keep := fun c ob q n hc hx => b.keep c ob (a.keep c ob q n hc hx) (a.free c ob q n hx) hc hx
  slot := fun c ob q n hc hx => by
    obtain ⟨sl, e1⟩ := a.slot c ob q n hc hx
    obtain ⟨sl', e2⟩ := b.slot c _ e1 (a.free c ob q n hx) hc hx
    exact ⟨sl', e2⟩
  free := fun c ob q n hx => by
    obtain ⟨o', e1⟩ := a.there c ob q hx
    exact b.free c o' e1 (a.free c ob q n hx) hx
  there := fun c ob q hx => by
    obtain ⟨o', e1⟩ := a.there c ob q hx
    exact b.there c o' e1 hx
  tups := fun c xs q => b.tups c xs (a.tups c xs q)
  frzs := fun c ob xs q => b.frzs c ob xs (a.frzs c ob xs q)
  tbls := fun c ps q => by
    obtain ⟨m1, e1⟩ := a.tbls c ps q
    obtain ⟨m2, e2⟩ := b.tbls c _ e1
    exact ⟨m1 ++ m2, by rw [e2, Array.append_assoc]⟩
theorem Un.kept (k : ∀ b u, h.get? b = some u → h'.get? b = some u) : Un fs ex H H h h' :=
  ⟨fun b ob q _ _ _ => k b ob q, fun b ob q _ _ _ => ⟨ob.slots, k b ob q⟩, fun _ _ _ n _ => n, fun b ob q _ => ⟨ob, k b ob q⟩, fun _ _ q => q, fun _ _ _ q => q, fun _ ps q => ⟨#[], by rw [q]; simp⟩⟩
theorem Un.refl : Un fs ex H H h h := Un.kept fun _ _ q => q
theorem Un.laid (k : ∀ b u, h.get? b = some u → h'.get? b = some u) (hp : h.objs.size ≤ a) (hn : H a = none) : Un fs ex H (upd H a o) h h' where
  keep := fun b u q _ _ _ => k b u q
  slot := fun b u q _ _ _ => ⟨u.slots, k b u q⟩
  free := fun b u q n _ => by rw [upd_ne (Nat.ne_of_lt (Nat.lt_of_lt_of_le (Heap.lt_size q) hp))]; exact n
  there := fun b u q _ => ⟨u, k b u q⟩
  tups := fun b xs q => by rw [upd_ne (ne_of_none q hn)]; exact q
  frzs := fun b u xs q => by rw [upd_ne (ne_of_none q hn)]; exact q
  tbls := fun b ps q => ⟨#[], by rw [upd_ne (ne_of_none q hn), q]; simp⟩
theorem Un.write (mu : Mut (H x)) (he : e = x ∨ H e = some (.own x)) (k : ∀ b u, b ≠ e → h.get? b = some u → h'.get? b = some u) (heo : ∃ u, h'.get? e = some u) : Un fs ex H (upd H x o) h h' := by
  have hx : ∀ b, H b = none → b ≠ x := fun b n z => by subst z; rw [n] at mu; exact mu
  have hb : ∀ b, H b = none → b ≠ e := fun b n z => by
    subst z
    rcases he with r | r
    · exact hx b n r
    · rw [n] at r; cases r
  have hm : ∀ b u, H b = some u → ¬ Mut (some u) → b ≠ x := fun b u q nm z => by subst z; rw [q] at mu; exact nm mu
  refine ⟨fun b u q n _ _ => k b u (hb b n) q, fun b u q n _ _ => ⟨u.slots, k b u (hb b n) q⟩, fun b u q n _ => by rw [upd_ne (hx b n)]; exact n, fun b u q _ => ?_,
    fun b xs q => by rw [upd_ne (hm b _ q fun z => z)]; exact q, fun b u xs q => by rw [upd_ne (hm b _ q fun z => z)]; exact q, fun b ps q => ⟨#[], by rw [upd_ne (hm b _ q fun z => z), q]; simp⟩⟩
  by_cases hbe : b = e
  · subst hbe; exact heo
  · exact ⟨u, k b u hbe q⟩
theorem Un.mono (u : Un fs ex H H1 h h1) (hs : ∀ b ∈ fs, b ∈ fs') (hx : ∀ b ∈ ex, b ∈ ex') : Un fs' ex' H H1 h h1 :=
  ⟨fun b ob q n hb he => u.keep b ob q n (fun z => hb (hs b z)) fun z => he (hx b z), fun _ _ q n _ he => u.any q n fun z => he (hx _ z), fun b ob q n he => u.free b ob q n fun z => he (hx b z), fun b ob q he => u.there b ob q fun z => he (hx b z), u.tups, u.frzs, u.tbls⟩
end

/-! ### the heap without what is tracked -/
def trk (h : Heap) (H : Hp) : List Addr := (List.range h.objs.size).filter fun a => (H a).isSome
def hidT (h : Heap) (H : Hp) : Heap := PySem.W.hideAll h (trk h H)
theorem hidT_size (h : Heap) (H : Hp) : (hidT h H).objs.size = h.objs.size := PySem.W.hideAll_size _ _
theorem hidT_get {h : Heap} {H : Hp} {b : Addr} {o : Obj} (e : h.get? b = some o) (n : H b = none) : (hidT h H).get? b = some o :=
  PySem.W.hideAll_get _ e fun hm => by
    have q : (H b).isSome = true := (List.mem_filter.mp hm).2
    rw [n] at q; simp at q
theorem of_hidT {h : Heap} {H : Hp} {b : Addr} {o : Obj} (e : (hidT h H).get? b = some o) : h.get? b = some o ∧ H b = none := by
  have e' : h.get? b = some o := PySem.W.of_hideAll (trk h H) e
  refine ⟨e', ?_⟩
  cases q : H b with
  | none => rfl
  | some x =>
    have hm : b ∈ trk h H := List.mem_filter.mpr ⟨List.mem_range.mpr (Heap.lt_size e'), by simp [q]⟩
    have z : (hidT h H).get? b = none := PySem.W.hideAll_none (trk h H) hm
    rw [z] at e; cases e

/-! ### OpenK's ledger, filled with every new object but one -/
def allNews (g h : Heap) (L : Addr) : List (Addr × Obj) := (List.range h.objs.size).filterMap fun a => if a = L ∨ (g.get? a).isSome = true then none else (h.get? a).map fun o => (a, o)
theorem mem_allNews {g h : Heap} {L a : Addr} {o : Obj} (h1 : a ≠ L) (h2 : g.get? a = none) (h3 : h.get? a = some o) : (a, o) ∈ allNews g h L :=
  List.mem_filterMap.mpr ⟨a, List.mem_range.mpr (Heap.lt_size h3), by simp [h1, h2, h3]⟩
theorem of_mem_allNews {g h : Heap} {L : Addr} {p : Addr × Obj} (hp : p ∈ allNews g h L) : p.1 ≠ L ∧ g.get? p.1 = none ∧ h.get? p.1 = some p.2 := by
  obtain ⟨b, _, e⟩ := List.mem_filterMap.mp hp
  split at e
  · cases e
  · rename_i hn
    cases q : h.get? b with
    | none => rw [q] at e; simp at e
    | some u =>
      rw [q] at e
      simp only [Option.map_some, Option.some.injEq] at e
      subst e
      refine ⟨fun z => hn (.inl z), ?_, q⟩
      show g.get? b = none
      cases r : g.get? b with
      | none => rfl
      | some v => exact (hn (.inr (by simp [r]))).elim
def rest (g h : Heap) (L d : Addr) : List (Addr × Obj) := (allNews g h L).filter fun p => decide (p.1 ≠ d)
theorem rest_ne {g h : Heap} {L d : Addr} : ∀ p ∈ rest g h L d, p.1 ≠ d := fun p hp => of_decide_eq_true (List.mem_filter.mp hp).2
theorem mem_rest {g h : Heap} {L d a : Addr} {o : Obj} (h1 : a ≠ L) (h2 : g.get? a = none) (h3 : h.get? a = some o) (h4 : a ≠ d) : (a, o) ∈ rest g h L d :=
  List.mem_filter.mpr ⟨mem_allNews h1 h2 h3, decide_eq_true h4⟩
theorem news_all {g h : Heap} {L : Addr} : News g L h (allNews g h L) := fun p hp => let ⟨a, b, c⟩ := of_mem_allNews hp; ⟨c, a, b⟩
theorem news_at {g h : Heap} {L d : Addr} {o : Obj} (h1 : d ≠ L) (h2 : g.get? d = none) (h3 : h.get? d = some o) : News g L h ((d, o) :: rest g h L d) := fun p hp => by
  rcases List.mem_cons.mp hp with rfl | hp
  · exact ⟨h3, h1, h2⟩
  · exact news_all p (List.mem_filter.mp hp).1
/-- behind a rule that changed d alone: all else but the frame is kept -/
theorem kept_of_news {g h h' : Heap} {L d : Addr} {m : Str → Option Value} (k : ∀ b o, g.get? b = some o → h.get? b = some o) (F : Fr g L h' m) (N : News g L h' (rest g h L d)) :
    ∀ b o, b ≠ L → b ≠ d → h.get? b = some o → h'.get? b = some o := fun b o h1 h2 e => by
  cases q : g.get? b with
  | some u =>
    have := k b u q
    rw [e] at this; cases this
    exact F.keep b _ q
  | none => exact (N (b, o) (mem_rest h1 q e h2)).1
end L2

namespace L2
open PySem PySem.Spec PyProof.Rows

/-- the module's facts, over the base: the heap at the law's entry without what is tracked there -/
structure Mod (K : PySem.W.Frag) (mg : Str → Option Value) (base : Heap) : Prop where
  kin : K.In base
  glob : base.Ns mainGlobals mg
  blt : ∃ mb, base.Ns builtinsNs mb ∧ ∀ x : Str, x ≠ "__name__" → mb x = bootBuiltins x
  nolimit : base.NoLimit

/-- the context: a def's body (or a comprehension's block) running. base: fixed through the whole law; s₀, H₀: the entry; outer: the frames whose slots others may change (a def's callers); stack: all frames that run;
   ex: iterators that were made ahead of the entry and are walked here (a comprehension's); fn: the names whose cells were made at the entry (a def: all; a comprehension's block: its own); calm: not within an except suite; pn: pins that every state bears; xe: what is wanted of an exception that leaves the code -/
structure Cx where
  prog : Program
  w : World
  K : PySem.W.Frag
  mg : Str → Option Value
  base : Heap
  A : Around
  N : List Str
  s₀ : Shared
  H₀ : Hp
  env : Env
  outer : List Env
  stack : List Env
  ex : List Addr
  fn : Str → Bool
  calm : Bool
  pn : List (Addr × Obj)
  xe : Value → Shared → Prop
/-- the callers' frames -/
def frs (l : List Env) : List Addr := l.filterMap (·.frame)
abbrev Cx.fs (X : Cx) : List Addr := frs X.outer

def Vis (sc : Scope) (x : Str) : Prop := sc.names.lookup x = some .local ∨ sc.names.lookup x = some .cell ∨ sc.names.lookup x = some .free
def Loc (sc : Scope) (x : Str) : Prop := sc.names.lookup x = some .local ∨ sc.names.lookup x = some .cell
def Look (env : Env) (h : Heap) (m : Str → Option Value) (x : Str) (u : Value) : Prop :=
  (env.kindOf x = some .local ∧ m x = some u) ∨ ((env.kindOf x = some .cell ∨ env.kindOf x = some .free) ∧ ∃ c, env.cells.lookup x = some c ∧ h.IsCell c (some u))

structure Cx.Ok (X : Cx) : Prop where
  mod : Mod X.K X.mg X.base
  kind : X.env.scope.kind = .function
  glob : X.env.globals = mainGlobals
  blt : X.env.builtins = builtinsNs
  above : X.s₀.heap.objs.size ≤ X.env.locals
  inj : ∀ x y c, X.env.cells.lookup x = some c → X.env.cells.lookup y = some c → x = y
  has : ∀ x, (X.env.kindOf x = some .cell ∨ X.env.kindOf x = some .free) → ∃ c, X.env.cells.lookup x = some c
  cab : ∀ x c, X.fn x = true → X.env.cells.lookup x = some c → X.s₀.heap.objs.size ≤ c
  hd : X.calm = true → X.A.handled = none
  frames : X.A.frames = some X.stack
  stk : X.stack = X.outer ∨ (X.stack = X.env :: X.outer ∧ X.env.frame = some X.env.locals)
  exf : ∀ b ∈ X.ex, b ≠ X.env.locals ∧ ∀ x c, X.env.cells.lookup x = some c → c ≠ b
  bs : ∀ b o, X.base.get? b = some o → X.s₀.heap.get? b = some o ∧ X.H₀ b = none
  bsz : X.base.objs.size ≤ X.s₀.heap.objs.size
  noex : ∀ b o, X.base.get? b = some o → b ∉ X.ex
  exfs : ∀ b ∈ X.ex, b ∉ X.fs
  funs : X.s₀.heap.FunFrames X.base X.outer
  frf : ∀ b ∈ X.fs, X.H₀ b = none

structure Inv (X : Cx) (pins : List (Addr × Obj)) (σ : List (Option V)) (H : Hp) (s : Shared) : Prop where
  ok : X.Ok
  os : s.os = X.s₀.os
  bare : AllBare s.gens
  base : Un X.fs X.ex X.H₀ H X.s₀.heap s.heap
  loc : ∃ m, s.heap.Ns X.env.locals m ∧ ∀ (i : Nat) (x : Str) (v : V), X.N[i]? = some x → σ[i]? = some (some v) → Vis X.env.scope x → ∃ u, RelV v u ∧ Look X.env s.heap m x u
  cell : ∀ x c, X.env.cells.lookup x = some c → ∃ v, s.heap.IsCell c v
  free : H X.env.locals = none
  freeC : ∀ x c, X.env.cells.lookup x = some c → H c = none
  pin : ∀ p ∈ X.pn ++ pins, s.heap.get? p.1 = some p.2 ∧ H p.1 = none ∧ p.1 ≠ X.env.locals ∧ p.1 ∉ X.fs ∧ ∀ v, p.2.data ≠ .cell v
  hok : HOk X.prog X.w H s.heap
  len : σ.length = X.N.length

section
variable {X : Cx} {pins : List (Addr × Obj)} {σ : List (Option V)} {H H' : Hp} {s : Shared} {h' : Heap}

theorem Cx.Ok.nofr (ok : X.Ok) {b : Addr} {o : Obj} (e : X.base.get? b = some o) : b ∉ X.fs := fun hb => by
  have := (ok.funs.mem hb).1
  rw [e] at this; cases this
theorem Inv.bs (I : Inv X pins σ H s) : ∀ b o, X.base.get? b = some o → s.heap.get? b = some o ∧ H b = none := fun b o e =>
  ⟨I.base.keep b o (I.ok.bs b o e).1 (I.ok.bs b o e).2 (I.ok.nofr e) (I.ok.noex b o e), I.base.free b o (I.ok.bs b o e).1 (I.ok.bs b o e).2 (I.ok.noex b o e)⟩
theorem Inv.bk (I : Inv X pins σ H s) : ∀ b o, X.base.get? b = some o → s.heap.get? b = some o := fun b o e => (I.bs b o e).1
theorem Inv.mod (I : Inv X pins σ H s) : Mod X.K X.mg X.base := I.ok.mod
theorem Inv.kIn (I : Inv X pins σ H s) : X.K.In s.heap := I.ok.mod.kin.keeps I.bk
theorem Inv.nolimit (I : Inv X pins σ H s) : s.heap.NoLimit := I.ok.mod.nolimit.keeps I.bk
/-- the frame over the base: for OpenK's rules (K.In X.base is I.mod.kin) -/
theorem Inv.fr (I : Inv X pins σ H s) : ∃ m, Fr X.base X.env.locals s.heap m :=
  let ⟨m, hn, _⟩ := I.loc
  ⟨m, hn, I.bk, Nat.le_trans I.ok.bsz I.ok.above⟩
theorem Inv.lt (I : Inv X pins σ H s) : X.env.locals < s.heap.objs.size := let ⟨_, hn, _⟩ := I.loc; hn.lt
theorem Inv.sz (I : Inv X pins σ H s) : X.s₀.heap.objs.size ≤ s.heap.objs.size := Nat.le_trans I.ok.above (Nat.le_of_lt I.lt)
theorem Inv.nofs (I : Inv X pins σ H s) {a : Addr} (h : s.heap.objs.size ≤ a) : a ∉ X.fs := fun hb => by
  obtain ⟨_, o, ho, _⟩ := I.ok.funs.mem hb
  exact absurd (Nat.lt_of_lt_of_le (Heap.lt_size ho) (Nat.le_trans I.sz h)) (Nat.lt_irrefl _)
theorem Inv.cne (I : Inv X pins σ H s) : ∀ x c, X.env.cells.lookup x = some c → c ≠ X.env.locals := fun x c e z => by
  obtain ⟨v, o, ho, hd⟩ := I.cell x c e
  obtain ⟨m, ⟨o', es, ep, ho', hd', _⟩, _⟩ := I.loc
  rw [z, ho'] at ho; cases ho; rw [hd'] at hd; cases hd
theorem Inv.funs (I : Inv X pins σ H s) : s.heap.FunFrames X.base X.outer := by
  have all : ∀ (l : List Env), (∀ b ∈ frs l, b ∈ X.fs) → X.s₀.heap.FunFrames X.base l → s.heap.FunFrames X.base l := by
    intro l
    induction l with
    | nil => intro _ _; trivial
    | cons env r ih =>
      intro hs hl
      obtain ⟨hk, ⟨L, o, hf, hn, ho, hd⟩, hr⟩ := hl
      have hL : L ∈ X.fs := hs L (by unfold frs; rw [List.filterMap_cons, hf]; exact List.mem_cons_self)
      obtain ⟨sl, e⟩ := I.base.slot L o ho (I.ok.frf L hL) hL fun z => I.ok.exfs L z hL
      exact ⟨hk, ⟨L, _, hf, hn, e, hd⟩, ih (fun b hb => hs b (by unfold frs; rw [List.filterMap_cons, hf]; exact List.mem_cons_of_mem _ hb)) hr⟩
  exact all X.outer (fun _ hb => hb) I.ok.funs

/-- the frames that run, for a call -/
theorem Inv.stack (I : Inv X pins σ H s) : s.heap.FunFrames X.base X.stack := by
  rcases I.ok.stk with e | ⟨e, hf⟩
  · rw [e]; exact I.funs
  · rw [e]
    obtain ⟨m, hn, _⟩ := I.loc
    refine .cons (by rw [I.ok.kind]; decide) hf hn ?_ I.funs
    exact Heap.get?_none_of_le (Nat.le_trans I.ok.bsz I.ok.above)
theorem Inv.stkSub (I : Inv X pins σ H s) : ∀ b ∈ frs X.stack, b ∈ X.env.locals :: X.fs := fun b hb => by
  rcases I.ok.stk with e | ⟨e, hf⟩
  · rw [e] at hb; exact List.mem_cons_of_mem _ hb
  · rw [e] at hb
    unfold frs at hb
    rw [List.filterMap_cons, hf] at hb
    exact hb
theorem Inv.stkFree (I : Inv X pins σ H s) : ∀ b ∈ frs X.stack, H b = none := fun b hb => by
  rcases List.mem_cons.mp (I.stkSub b hb) with e | hb
  · rw [e]; exact I.free
  · obtain ⟨_, o, ho, _⟩ := I.ok.funs.mem hb
    exact I.base.free b o ho (I.ok.frf b hb) fun z => I.ok.exfs b z hb

/-- THE STEP: the untracked objects but the frame and the records at ch are kept (the callers' frames up to slots), the frame's map is kept, the new abstract heap is held -/
theorem Inv.step {g' : Array GenState} {t' : Nat} {d' : Drawn} {ch : List Addr} (I : Inv X pins σ H s)
    (hch : ∀ b ∈ ch, (b ∈ X.ex ∨ X.s₀.heap.objs.size ≤ b) ∧ b ≠ X.env.locals ∧ (∀ x c, X.env.cells.lookup x = some c → c ≠ b) ∧ ∀ p ∈ X.pn ++ pins, p.1 ≠ b)
    (keep : ∀ b o, b ≠ X.env.locals → b ∉ X.fs → b ∉ ch → s.heap.get? b = some o → H b = none → h'.get? b = some o)
    (slot : ∀ b o, b ≠ X.env.locals → b ∈ X.fs → b ∉ ch → s.heap.get? b = some o → H b = none → ∃ sl, h'.get? b = some { o with slots := sl }) (free : ∀ b o, b ∉ ch → s.heap.get? b = some o → H b = none → H' b = none)
    (there : ∀ b o, b ∉ ch → s.heap.get? b = some o → ∃ o', h'.get? b = some o')
    (tups : ∀ b xs, H b = some (.tup xs) → H' b = some (.tup xs)) (frzs : ∀ b o u, H b = some (.frz o u) → H' b = some (.frz o u)) (tbls : ∀ b ps, H b = some (.tbl ps) → ∃ more, H' b = some (.tbl (ps ++ more)))
    (ns : ∀ m, s.heap.Ns X.env.locals m → h'.Ns X.env.locals m) (hok : HOk X.prog X.w H' h') (hg : AllBare g') :
    Inv X pins σ H' { s with heap := h', gens := g', drawn := d', toks := t' } := by
  have neL : ∀ b o, X.s₀.heap.get? b = some o → b ≠ X.env.locals := fun b o e => Nat.ne_of_lt (Nat.lt_of_lt_of_le (Heap.lt_size e) I.ok.above)
  have neC : ∀ b o, X.s₀.heap.get? b = some o → b ∉ X.ex → b ∉ ch := fun b o e hx hb => by
    rcases (hch b hb).1 with z | z
    · exact hx z
    · exact absurd (Nat.lt_of_lt_of_le (Heap.lt_size e) z) (Nat.lt_irrefl _)
  have cellK : ∀ x c, X.env.cells.lookup x = some c → ∀ v, s.heap.IsCell c v → h'.IsCell c v := fun x c e v ⟨o, ho, hd⟩ => by
    have nch : c ∉ ch := fun z => (hch c z).2.2.1 x c e rfl
    by_cases hc : c ∈ X.fs
    · obtain ⟨sl, q⟩ := slot c o (I.cne x c e) hc nch ho (I.freeC x c e)
      exact ⟨_, q, hd⟩
    · exact ⟨o, keep c o (I.cne x c e) hc nch ho (I.freeC x c e), hd⟩
  refine ⟨I.ok, I.os, hg, ⟨fun b o e n hb hx => ?_, fun b o e n hb hx => ?_, fun b o e n hx => ?_, fun b o e hx => ?_, fun b xs e => tups b xs (I.base.tups b xs e), fun b o xs e => frzs b o xs (I.base.frzs b o xs e), fun b ps e => ?_⟩, ?_, fun x c e => ?_, ?_, fun x c e => ?_, fun p hp => ?_, hok, I.len⟩
  · exact keep b o (neL b o e) hb (neC b o e hx) (I.base.keep b o e n hb hx) (I.base.free b o e n hx)
  · obtain ⟨sl, e1⟩ := I.base.slot b o e n hb hx
    obtain ⟨sl', e2⟩ := slot b _ (neL b o e) hb (neC b o e hx) e1 (I.base.free b o e n hx)
    exact ⟨sl', e2⟩
  · obtain ⟨o', e1⟩ := I.base.there b o e hx
    exact free b o' (neC b o e hx) e1 (I.base.free b o e n hx)
  · obtain ⟨o', e1⟩ := I.base.there b o e hx
    exact there b o' (neC b o e hx) e1
  · obtain ⟨m1, e1⟩ := I.base.tbls b ps e
    obtain ⟨m2, e2⟩ := tbls b _ e1
    exact ⟨m1 ++ m2, by rw [e2, Array.append_assoc]⟩
  · obtain ⟨m, hn, hl⟩ := I.loc
    refine ⟨m, ns m hn, fun i x v e1 e2 e3 => ?_⟩
    obtain ⟨u, r, l⟩ := hl i x v e1 e2 e3
    refine ⟨u, r, ?_⟩
    rcases l with l | ⟨k, c, e, z⟩
    · exact .inl l
    · exact .inr ⟨k, c, e, cellK x c e _ z⟩
  · obtain ⟨v, z⟩ := I.cell x c e
    exact ⟨v, cellK x c e v z⟩
  · obtain ⟨m, ⟨o, _, _, ho, _⟩, _⟩ := I.loc
    exact free _ o (fun z => (hch _ z).2.1 rfl) ho I.free
  · obtain ⟨v, o, ho, hd⟩ := I.cell x c e
    exact free c o (fun z => (hch c z).2.2.1 x c e rfl) ho (I.freeC x c e)
  · obtain ⟨e, n, ne, nf, d⟩ := I.pin p hp
    have nch : p.1 ∉ ch := fun z => (hch p.1 z).2.2.2 p hp rfl
    exact ⟨keep p.1 p.2 ne nf nch e n, free p.1 p.2 nch e n, ne, nf, d⟩
/-- .. where the frame's own object is kept too -/
theorem Inv.un {t' : Nat} (I : Inv X pins σ H s) (u : Un X.fs [] H H' s.heap h') (hok : HOk X.prog X.w H' h') : Inv X pins σ H' { s with heap := h', toks := t' } := by
  obtain ⟨m, ⟨o, es, ep, ho, r⟩, _⟩ := id I.loc
  obtain ⟨sl, hL⟩ := u.any ho I.free (by simp)
  exact I.step (g' := s.gens) (d' := s.drawn) (ch := []) (fun _ z => nomatch z) (fun b o _ hb _ e n => u.keep b o e n hb (by simp)) (fun b o _ hb _ e n => u.slot b o e n hb (by simp)) (fun b o _ e n => u.free b o e n (by simp)) (fun b o _ e => u.there b o e (by simp)) u.tups u.frzs u.tbls (fun m' hm => by
    obtain ⟨o', es', ep', ho', r'⟩ := hm
    rw [ho] at ho'; cases ho'
    exact ⟨_, es', ep', hL, r'⟩) hok I.bare
/-- behind a call (or a comprehension's block): the slots of this frame may have changed too, the records at ch may have turned -/
theorem Inv.call {g' : Array GenState} {t' : Nat} {d' : Drawn} {ch : List Addr} (I : Inv X pins σ H s) (u : Un (frs X.stack) ch H H' s.heap h') (hok : HOk X.prog X.w H' h') (hg : AllBare g')
    (hch : ∀ b ∈ ch, (b ∈ X.ex ∨ X.s₀.heap.objs.size ≤ b) ∧ b ≠ X.env.locals ∧ (∀ x c, X.env.cells.lookup x = some c → c ≠ b) ∧ ∀ p ∈ X.pn ++ pins, p.1 ≠ b) :
    Inv X pins σ H' { s with heap := h', gens := g', drawn := d', toks := t' } := by
  obtain ⟨m, ⟨o, es, ep, ho, r⟩, _⟩ := id I.loc
  obtain ⟨sl, hL⟩ := u.any ho I.free fun z => (hch _ z).2.1 rfl
  exact I.step (ch := ch) hch (fun b o hL hb hc e n => u.keep b o e n (fun z => (List.mem_cons.mp (I.stkSub b z)).elim hL hb) hc) (fun b o _ _ hc e n => u.any e n hc) (fun b o hc e n => u.free b o e n hc) (fun b o hc e => u.there b o e hc) u.tups u.frzs u.tbls (fun m' hm => by
    obtain ⟨o', es', ep', ho', r'⟩ := hm
    rw [ho] at ho'; cases ho'
    exact ⟨_, es', ep', hL, r'⟩) hok hg
/-- an untracked record of ours (an iterator) has turned -/
theorem Inv.turned {t' : Nat} {it : Addr} (I : Inv X pins σ H s) (k : ∀ b o, b ≠ it → s.heap.get? b = some o → h'.get? b = some o) (hn : H it = none) (hL : it ≠ X.env.locals)
    (h1 : it ∈ X.ex ∨ X.s₀.heap.objs.size ≤ it) (h2 : ∀ x c, X.env.cells.lookup x = some c → c ≠ it) (h3 : ∀ p ∈ X.pn ++ pins, p.1 ≠ it) : Inv X pins σ H { s with heap := h', toks := t' } := by
  have nit : ∀ b u, H b = some u → b ≠ it := fun b u e z => by rw [z, hn] at e; cases e
  refine I.step (g' := s.gens) (d' := s.drawn) (ch := [it]) (fun b hb => ?_) (fun b o _ _ hc e _ => k b o (fun z => hc (by simp [z])) e) (fun b o _ _ hc e _ => ⟨o.slots, k b o (fun z => hc (by simp [z])) e⟩) (fun _ _ _ _ n => n)
    (fun b o hc e => ⟨o, k b o (fun z => hc (by simp [z])) e⟩) (fun _ _ e => e) (fun _ _ _ e => e) (fun b ps e => ⟨#[], by rw [e]; simp⟩) (fun m hm => ?_) (fun b u e => ?_) I.bare
  · have e : b = it := by simpa using hb
    subst e
    exact ⟨h1, hL, h2, h3⟩
  · obtain ⟨o, es, ep, ho, r⟩ := hm
    exact ⟨o, es, ep, k _ o (Ne.symm hL) ho, r⟩
  · refine (I.hok b u e).stay (fun c v hc q => k c v ?_ q) (fun _ q => q) fun _ _ q => q
    rcases hc with z | z
    · rw [z]; exact nit b u e
    · exact nit c _ z
theorem Inv.tok (I : Inv X pins σ H s) (t : Nat) : Inv X pins σ H { s with toks := t } := I.un (h' := s.heap) (t' := t) Un.refl I.hok
/-- all objects kept -/
theorem Inv.kept {t' : Nat} (I : Inv X pins σ H s) (k : ∀ b u, s.heap.get? b = some u → h'.get? b = some u) : Inv X pins σ H { s with heap := h', toks := t' } := I.un (Un.kept k) (I.hok.kept k)
/-- a new object laid and tracked -/
theorem Inv.laid {a : Addr} {o : HO} {t' : Nat} (I : Inv X pins σ H s) (k : ∀ b u, s.heap.get? b = some u → h'.get? b = some u) (hp : s.heap.objs.size ≤ a) (new : ObjOk X.prog X.w (upd H a o) h' a o) :
    Inv X pins σ (upd H a o) { s with heap := h', toks := t' } := I.un (Un.laid k hp (I.hok.fresh hp)) (I.hok.laid k hp new)
/-- an object written -/
theorem Inv.write {x e : Addr} {o : HO} {t' : Nat} (I : Inv X pins σ H s) (mu : Mut (H x)) (he : e = x ∨ H e = some (.own x)) (k : ∀ b u, b ≠ e → s.heap.get? b = some u → h'.get? b = some u) (heo : ∃ u, h'.get? e = some u)
    (new : ObjOk X.prog X.w (upd H x o) h' x o) : Inv X pins σ (upd H x o) { s with heap := h', toks := t' } := I.un (Un.write mu he k heo) (I.hok.write mu he k heo new)
/-- forgetting slots, pins -/
theorem Inv.weak {σ' : List (Option V)} (I : Inv X pins σ H s) (hl : σ'.length = σ.length) (w : ∀ (i : Nat) v, σ'[i]? = some (some v) → σ[i]? = some (some v)) : Inv X pins σ' H s :=
  ⟨I.ok, I.os, I.bare, I.base, let ⟨m, hn, hl'⟩ := I.loc; ⟨m, hn, fun i x v e1 e2 e3 => hl' i x v e1 (w i v e2) e3⟩, I.cell, I.free, I.freeC, I.pin, I.hok, hl.trans I.len⟩
theorem Inv.pins_of {pins' : List (Addr × Obj)} (I : Inv X pins σ H s) (h : ∀ p ∈ pins', s.heap.get? p.1 = some p.2 ∧ H p.1 = none ∧ p.1 ≠ X.env.locals ∧ p.1 ∉ X.fs ∧ ∀ v, p.2.data ≠ .cell v) : Inv X pins' σ H s :=
  ⟨I.ok, I.os, I.bare, I.base, I.loc, I.cell, I.free, I.freeC, fun p hp => (List.mem_append.mp hp).elim (fun z => I.pin p (List.mem_append_left _ z)) (h p), I.hok, I.len⟩

theorem nodup_ix {N : List Str} (hN : N.Nodup) {i j : Nat} {x : Str} (a : N[i]? = some x) (b : N[j]? = some x) : i = j := by
  obtain ⟨h1, e1⟩ := List.getElem?_eq_some_iff.mp a
  obtain ⟨h2, e2⟩ := List.getElem?_eq_some_iff.mp b
  exact (List.getElem_inj hN).mp (e1.trans e2.symm)

/-- a name is stored; what changed -/
theorem store_ok2 {M : Model} {A : Around} {E : Value → Shared → Prop} {i : Nat} {x : Str} {v : V} {u : Value} {Q : Unit → Shared → Prop} (I : Inv X pins σ H s) (hN : X.N.Nodup) (hi : X.N[i]? = some x) (hx : Loc X.env.scope x) (r : RelV v u)
    (h : ∀ s', Inv X pins (σ.set i (some v)) H s' → (∃ a, Heap.SameBut a s.heap s'.heap ∧ (a = X.env.locals ∨ X.env.cells.lookup x = some a)) → Q () s') (hf : X.fn x = true ∨ X.env.scope.names.lookup x = some .local := by first | exact .inl rfl | exact .inr rfl | assumption) : wpAny M A (storeName X.env x u) Q E s := by
  obtain ⟨m, hn, hl⟩ := id I.loc
  have hcls : (X.env.scope.kind == .class || (X.env.scope.kind == .module && X.env.locals != X.env.globals)) = false := by rw [I.ok.kind]; rfl
  have hiσ : i < σ.length := by rw [I.len]; exact (List.getElem?_eq_some_iff.mp hi).1
  have cne := I.cne
  have tracked : ∀ {a : Addr} {h' : Heap}, (∃ o, s.heap.get? a = some o ∧ H a = none) → Heap.SameBut a s.heap h' → HOk X.prog X.w H h' := fun {a h'} ha hs b ob e => by
    obtain ⟨_, _, hfree⟩ := ha
    refine (I.hok b ob e).stay (fun c w' hc q => (hs.2 c ?_).trans q) (fun _ q => q) fun _ _ q => q
    rintro rfl
    rcases hc with rfl | hc
    · rw [hfree] at e; cases e
    · rw [hfree] at hc; cases hc
  rcases hx with hk | hk
  · refine wpAny_storeName_local hk hn (fun h' hn' hs => ?_) hcls
    obtain ⟨oL, _, _, hoL, _⟩ := id hn
    refine h _ ⟨I.ok, I.os, I.bare, ⟨fun b o e n hb hx => ?_, fun b o e n hb hx => ?_, I.base.free, fun b o e hx => ?_, I.base.tups, I.base.frzs, I.base.tbls⟩, ⟨_, hn', fun j y v' e1 e2 e3 => ?_⟩, fun y c e => ?_, I.free, I.freeC, fun p hp => ?_, tracked ⟨oL, hoL, I.free⟩ hs, by simpa using I.len⟩ ⟨_, hs, .inl rfl⟩
    · exact (hs.2 b (Nat.ne_of_lt (Nat.lt_of_lt_of_le (Heap.lt_size e) I.ok.above))).trans (I.base.keep b o e n hb hx)
    · obtain ⟨sl, e1⟩ := I.base.slot b o e n hb hx
      exact ⟨sl, (hs.2 b (Nat.ne_of_lt (Nat.lt_of_lt_of_le (Heap.lt_size e) I.ok.above))).trans e1⟩
    · obtain ⟨o', e1⟩ := I.base.there b o e hx
      exact ⟨o', (hs.2 b (Nat.ne_of_lt (Nat.lt_of_lt_of_le (Heap.lt_size e) I.ok.above))).trans e1⟩
    · by_cases hj : j = i
      · subst hj
        rw [hi] at e1; cases e1
        rw [List.getElem?_set_self hiσ] at e2
        cases e2
        exact ⟨u, r, .inl ⟨hk, by simp⟩⟩
      · rw [List.getElem?_set_ne (Ne.symm hj)] at e2
        obtain ⟨u', r', q⟩ := hl j y v' e1 e2 e3
        refine ⟨u', r', ?_⟩
        rcases q with ⟨k, e⟩ | ⟨k, c, e, z⟩
        · refine .inl ⟨k, ?_⟩
          have : y ≠ x := fun e => hj (nodup_ix hN e1 (e ▸ hi))
          simp [this, e]
        · exact .inr ⟨k, c, e, z.sameBut hs (cne y c e)⟩
    · obtain ⟨w', z⟩ := I.cell y c e
      exact ⟨w', z.sameBut hs (cne y c e)⟩
    · obtain ⟨e, n, ne, nf, d⟩ := I.pin p hp
      exact ⟨(hs.2 p.1 ne).trans e, n, ne, nf, d⟩
  · have hfn : X.fn x = true := by
      rcases hf with z | z
      · exact z
      · rw [z] at hk; cases hk
    obtain ⟨c, hc⟩ := I.ok.has x (.inl hk)
    obtain ⟨w', z⟩ := I.cell x c hc
    refine wpAny_storeName_cell I.ok.kind hk hc z (fun h' hc' hs => ?_)
    obtain ⟨oc, hoc, hocd⟩ := id z
    refine h { s with heap := h' } ⟨I.ok, I.os, I.bare, ⟨fun b o e n hb hx => ?_, fun b o e n hb hx => ?_, I.base.free, fun b o e hx => ?_, I.base.tups, I.base.frzs, I.base.tbls⟩, ⟨m, hn.sameBut hs (Ne.symm (cne x c hc)), fun j y v' e1 e2 e3 => ?_⟩, fun y c' e => ?_, I.free, I.freeC, fun p hp => ?_, tracked ⟨oc, hoc, I.freeC x c hc⟩ hs, by simpa using I.len⟩ ⟨c, hs, .inr hc⟩
    · exact (hs.2 b (Nat.ne_of_lt (Nat.lt_of_lt_of_le (Heap.lt_size e) (I.ok.cab x c hfn hc)))).trans (I.base.keep b o e n hb hx)
    · obtain ⟨sl, e1⟩ := I.base.slot b o e n hb hx
      exact ⟨sl, (hs.2 b (Nat.ne_of_lt (Nat.lt_of_lt_of_le (Heap.lt_size e) (I.ok.cab x c hfn hc)))).trans e1⟩
    · obtain ⟨o', e1⟩ := I.base.there b o e hx
      exact ⟨o', (hs.2 b (Nat.ne_of_lt (Nat.lt_of_lt_of_le (Heap.lt_size e) (I.ok.cab x c hfn hc)))).trans e1⟩
    · by_cases hj : j = i
      · subst hj
        rw [hi] at e1; cases e1
        rw [List.getElem?_set_self hiσ] at e2
        cases e2
        exact ⟨u, r, .inr ⟨.inl hk, c, hc, hc'⟩⟩
      · rw [List.getElem?_set_ne (Ne.symm hj)] at e2
        obtain ⟨u', r', q⟩ := hl j y v' e1 e2 e3
        refine ⟨u', r', ?_⟩
        rcases q with q | ⟨k, c', e, z'⟩
        · exact .inl q
        · refine .inr ⟨k, c', e, z'.sameBut hs ?_⟩
          rintro rfl
          exact hj (nodup_ix hN e1 (I.ok.inj _ _ _ e hc ▸ hi))
    · by_cases hcc : c' = c
      · subst hcc; exact ⟨_, hc'⟩
      · obtain ⟨w2, z2⟩ := I.cell y c' e
        exact ⟨w2, z2.sameBut hs hcc⟩
    · obtain ⟨e, n, ne, nf, d⟩ := I.pin p hp
      refine ⟨(hs.2 p.1 ?_).trans e, n, ne, nf, d⟩
      intro q
      rw [q, hoc] at e
      have q' : oc = p.2 := Option.some.inj e
      exact d w' (by rw [← q']; exact hocd)
theorem store_ok {M : Model} {A : Around} {E : Value → Shared → Prop} {i : Nat} {x : Str} {v : V} {u : Value} {Q : Unit → Shared → Prop} (I : Inv X pins σ H s) (hN : X.N.Nodup) (hi : X.N[i]? = some x) (hx : Loc X.env.scope x) (r : RelV v u)
    (h : ∀ s', Inv X pins (σ.set i (some v)) H s' → Q () s') (hf : X.fn x = true ∨ X.env.scope.names.lookup x = some .local := by first | exact .inl rfl | exact .inr rfl | assumption) : wpAny M A (storeName X.env x u) Q E s :=
  store_ok2 I hN hi hx r (fun s' I' _ => h s' I') hf
/-- behind a call or a block, the state as it is -/
theorem Inv.call' {s' : Shared} {ch : List Addr} (I : Inv X pins σ H s) (ho : s'.os = s.os) (u : Un (frs X.stack) ch H H' s.heap s'.heap) (hok : HOk X.prog X.w H' s'.heap) (hg : AllBare s'.gens)
    (hch : ∀ b ∈ ch, (b ∈ X.ex ∨ X.s₀.heap.objs.size ≤ b) ∧ b ≠ X.env.locals ∧ (∀ x c, X.env.cells.lookup x = some c → c ≠ b) ∧ ∀ p ∈ X.pn ++ pins, p.1 ≠ b) : Inv X pins σ H' s' := by
  obtain ⟨h', g', d', t', o'⟩ := s'
  have e : o' = s.os := ho
  subst e
  exact I.call (g' := g') (t' := t') (d' := d') u hok hg hch
end

/-! ### the judgements -/
/-- an exception: its class, its own dict's address (where it has one), the abstract heap behind it -/
abbrev XK := Value → Option Addr → Hp → Prop
abbrev St := List (Option V)
abbrev VK := V → Hp → Prop
/-- an expression's reading; a test's; an argument list's -/
abbrev TE := St → Hp → VK → Prop
abbrev TT := St → Hp → (Bool → Hp → Prop) → Prop
abbrev TA := St → Hp → (List V → Hp → Prop) → Prop
/-- what is wanted behind a statement -/
structure Ends where
  nx : St → Hp → Prop
  rt : VK
  bk : St → Hp → Prop := fun _ _ => False
  ct : St → Hp → Prop := fun _ _ => False
abbrev TS := Ends → St → Hp → Prop

def EP (X : Cx) (pins : List (Addr × Obj)) (σ : St) (Q : VK) (u : Value) (s' : Shared) : Prop := ∃ v H', Inv X pins σ H' s' ∧ RelV v u ∧ Q v H'
def TP (X : Cx) (pins : List (Addr × Obj)) (σ : St) (Q : Bool → Hp → Prop) (b : Bool) (s' : Shared) : Prop := ∃ H', Inv X pins σ H' s' ∧ Q b H'
def AP (X : Cx) (pins : List (Addr × Obj)) (σ : St) (Q : List V → Hp → Prop) (us : List Value) (s' : Shared) : Prop := ∃ vs H', Inv X pins σ H' s' ∧ Vals vs us ∧ Q vs H'
def SP (X : Cx) (pins : List (Addr × Obj)) (D : Ends) (f : Flow) (s' : Shared) : Prop :=
  match f with
  | .next => ∃ σ' H', Inv X pins σ' H' s' ∧ D.nx σ' H'
  | .brk => ∃ σ' H', Inv X pins σ' H' s' ∧ D.bk σ' H'
  | .cont => ∃ σ' H', Inv X pins σ' H' s' ∧ D.ct σ' H'
  | .ret u => ∃ v σ' H', Inv X pins σ' H' s' ∧ RelV v u ∧ D.rt v H'

def PE (X : Cx) (e : Expr) (t : TE) : Prop :=
  ∀ (pins : List (Addr × Obj)) (s : Shared) (σ : St) (H : Hp) (Q : VK), Inv X pins σ H s → t σ H Q → wpAny (model X.prog X.w) X.A (eval e X.env) (EP X pins σ Q) X.xe s
def PT (X : Cx) (e : Expr) (t : TT) : Prop :=
  ∀ (pins : List (Addr × Obj)) (s : Shared) (σ : St) (H : Hp) (Q : Bool → Hp → Prop), Inv X pins σ H s → t σ H Q → wpAny (model X.prog X.w) X.A (isTrue e X.env (eval e X.env)) (TP X pins σ Q) X.xe s
/-- a test whatever its 'whole' is (and, or) -/
def PW (X : Cx) (e : Expr) (t : TT) : Prop :=
  ∀ (whole : Sem Value) (pins : List (Addr × Obj)) (s : Shared) (σ : St) (H : Hp) (Q : Bool → Hp → Prop), Inv X pins σ H s → t σ H Q → wpAny (model X.prog X.w) X.A (isTrue e X.env whole) (TP X pins σ Q) X.xe s
theorem PW.pt {X : Cx} {e : Expr} {t : TT} (h : PW X e t) : PT X e t := h _
/-- an argument list (no star), from the left -/
def PA (X : Cx) (es : List Expr) (t : TA) : Prop :=
  ∀ (pos : Pos) (pins : List (Addr × Obj)) (s : Shared) (σ : St) (H : Hp) (Q : List V → Hp → Prop), Inv X pins σ H s → t σ H Q → wpAny (model X.prog X.w) X.A (spliced (backTo pos (starEach es X.env))) (AP X pins σ Q) X.xe s
def PS (X : Cx) (st : Stmt) (t : TS) : Prop :=
  ∀ (pins : List (Addr × Obj)) (s : Shared) (σ : St) (H : Hp) (D : Ends), Inv X pins σ H s → t D σ H → wpAny (model X.prog X.w) X.A (exec st X.env) (SP X pins D) X.xe s
def PSs (X : Cx) (st : List Stmt) (t : TS) : Prop :=
  ∀ (pins : List (Addr × Obj)) (s : Shared) (σ : St) (H : Hp) (D : Ends), Inv X pins σ H s → t D σ H → wpAny (model X.prog X.w) X.A (execs st X.env) (SP X pins D) X.xe s
/-- weaken the end -/
theorem thn {α : Type} {t : Sem α} {Q Q' : α → Shared → Prop} {M : Model} {A : Around} {E : Value → Shared → Prop} {s : Shared} (h : wpAny M A t Q E s) (hQ : ∀ a s, Q a s → Q' a s) : wpAny M A t Q' E s := wpAny_mono h hQ fun _ _ x => x
end L2

namespace L2
open PySem PySem.Spec PyProof.Rows
section
variable {X : Cx}

/-- two expressions in a row -/
theorem bin {a b : Expr} {ta tb : TE} (ha : PE X a ta) (hb : PE X b tb) {pins : List (Addr × Obj)} {s : Shared} {σ : St} {H : Hp} {R : V → V → Hp → Prop} (I : Inv X pins σ H s) (h : ta σ H fun x H1 => tb σ H1 fun y H2 => R x y H2)
    {α : Type} {Q : α → Shared → Prop} {f : Value → Value → Sem α}
    (hf : ∀ v u s2 x y H2, Inv X pins σ H2 s2 → RelV x v → RelV y u → R x y H2 → wpAny (model X.prog X.w) X.A (f v u) Q X.xe s2) :
    wpAny (model X.prog X.w) X.A (eval a X.env) (fun v s₁ => wpAny (model X.prog X.w) X.A (eval b X.env) (fun u s₂ => wpAny (model X.prog X.w) X.A (f v u) Q X.xe s₂) X.xe s₁) X.xe s := by
  refine thn (ha pins s σ H _ I h) fun v s1 ⟨x, H1, I1, r1, q1⟩ => ?_
  refine thn (hb pins s1 σ H1 _ I1 q1) fun u s2 ⟨y, H2, I2, r2, q2⟩ => ?_
  exact hf v u s2 x y H2 I2 r1 r2 q2

/-! ### names and constants -/
def tVar (i : Nat) : TE := fun σ H Q => ∃ v, σ[i]? = some (some v) ∧ Q v H
def tC (v : V) : TE := fun _ H Q => Q v H
theorem pe_var {i : Nat} {x : Str} {pos : Pos} (hN : X.N[i]? = some x) (hv : Vis X.env.scope x) (hd : (x == ("__debug__" : Str)) = false := by decide) (hcd : (x == ("__classdict__" : Str)) = false := by decide) : PE X (.Name x pos) (tVar i) := by
  intro pins s σ H Q I h
  obtain ⟨v, e, h⟩ := h
  obtain ⟨m, hn, hl⟩ := I.loc
  obtain ⟨u, r, l⟩ := hl i x v hN e hv
  have fin : EP X pins σ Q u s := ⟨v, H, I, r, h⟩
  rcases l with ⟨hk, hm⟩ | ⟨hk, c, hc, hcell⟩
  · exact wpAny_Name (wpAny_loadName_local I.ok.kind hk hn hm fin) hd
  · rcases hk with hk | hk
    · exact wpAny_Name (wpAny_loadName_cell I.ok.kind hk hc hcell fin) hd
    · exact wpAny_Name (wpAny_loadName_free I.ok.kind hk hc hcell fin hcd) hd
theorem pe_int {i j pos} : PE X (.Constant (.int i) j pos) (tC (.int i)) := fun _ _ _ H _ I h => wpAny_Constant_int ⟨.int i, H, I.tok _, ⟨_, rfl⟩, h⟩
theorem pe_bl {b j pos} : PE X (.Constant (.bool b) j pos) (tC (.bl b)) := fun _ _ _ H _ I h => Constant_bool ⟨.bl b, H, I, rfl, h⟩
theorem pe_non {j pos} : PE X (.Constant .none j pos) (tC .non) := fun _ _ _ H _ I h => Constant_none ⟨.non, H, I, rfl, h⟩
theorem pe_str {x j pos} : PE X (.Constant (.str x) j pos) (tC (.str x)) := fun _ _ _ H _ I h => Calls.Constant_str ⟨.str x, H, I.tok _, ⟨_, rfl⟩, h⟩

/-- a global name of the def -/
def Gl (X : Cx) (x : Str) : Prop := X.env.kindOf x = some .globalImplicit
theorem ld_glob {E : Value → Shared → Prop} {pins : List (Addr × Obj)} {s : Shared} {σ : St} {H : Hp} {x : Str} {u : Value} {pos : Pos} {Q : Value → Shared → Prop} (I : Inv X pins σ H s) (hg : Gl X x) (hm : X.mg x = some u) (h : Q u s)
    (hd : (x == ("__debug__" : Str)) = false := by decide) : wpAny (model X.prog X.w) X.A (eval (.Name x pos) X.env) Q E s :=
  Calls.Name_function_global I.ok.kind hg (Calls.loadGlobal_global (by rw [I.ok.glob]; exact I.mod.glob.keeps I.bk) hm h) hd
theorem ld_blt {E : Value → Shared → Prop} {pins : List (Addr × Obj)} {s : Shared} {σ : St} {H : Hp} {x : Str} {u : Value} {pos : Pos} {Q : Value → Shared → Prop} (I : Inv X pins σ H s) (hg : Gl X x) (hm : X.mg x = none) (hv : bootBuiltins x = some u) (h : Q u s)
    (hn : x ≠ "__name__" := by decide) (hd : (x == ("__debug__" : Str)) = false := by decide) : wpAny (model X.prog X.w) X.A (eval (.Name x pos) X.env) Q E s := by
  obtain ⟨mb, h1, h2⟩ := I.mod.blt
  exact Calls.Name_function_global I.ok.kind hg (Calls.loadGlobal_builtin (by rw [I.ok.glob]; exact I.mod.glob.keeps I.bk) hm (by rw [I.ok.blt]; exact h1.keeps I.bk) ((h2 x hn).trans hv) h) hd
/-- a module's constant, a class, a function, as a value -/
theorem pe_glob {x : Str} {v : V} {u : Value} {pos : Pos} (hg : Gl X x) (hm : X.mg x = some u) (r : RelV v u) (hd : (x == ("__debug__" : Str)) = false := by decide) : PE X (.Name x pos) (tC v) :=
  fun _ _ _ H _ I h => ld_glob I hg hm ⟨v, H, I, r, h⟩ hd
theorem pe_bltn {x : Str} {v : V} {u : Value} {pos : Pos} (hg : Gl X x) (hm : X.mg x = none) (hv : bootBuiltins x = some u) (r : RelV v u) (hn : x ≠ "__name__" := by decide) (hd : (x == ("__debug__" : Str)) = false := by decide) : PE X (.Name x pos) (tC v) :=
  fun _ _ _ H _ I h => ld_blt I hg hm hv ⟨v, H, I, r, h⟩ hn hd

/-! ### arithmetic -/
/-- two ints -/
def t2I (ta tb : TE) (k : Int → Int → Hp → Prop) : St → Hp → Prop := fun σ H => ta σ H fun x H1 => tb σ H1 fun y H2 => ∃ i j, x = .int i ∧ y = .int j ∧ k i j H2
def tAdd (ta tb : TE) : TE := fun σ H Q => t2I ta tb (fun i j H2 => Q (.int (i + j)) H2) σ H
def tSub (ta tb : TE) : TE := fun σ H Q => t2I ta tb (fun i j H2 => Q (.int (i - j)) H2) σ H
/-- the left factor below 2^64 -/
def tMul (ta tb : TE) : TE := fun σ H Q => t2I ta tb (fun i j H2 => (-(2 ^ 64) < i ∧ i < 2 ^ 64) ∧ Q (.int (i * j)) H2) σ H
variable {a b : Expr} {ta tb : TE} {pos : Pos}
theorem pe_add (ha : PE X a ta) (hb : PE X b tb) : PE X (.BinOp a .Add b pos) (tAdd ta tb) := by
  intro pins s σ H Q I h
  refine wpAny_BinOp (bin ha hb I h fun v u s2 x y H2 I2 rx ry q => ?_)
  obtain ⟨i, j, rfl, rfl, q⟩ := q
  obtain ⟨t, rfl⟩ := rx
  obtain ⟨t', rfl⟩ := ry
  exact add_int ⟨.int _, H2, I2.tok _, ⟨_, rfl⟩, q⟩
theorem pe_sub (ha : PE X a ta) (hb : PE X b tb) : PE X (.BinOp a .Sub b pos) (tSub ta tb) := by
  intro pins s σ H Q I h
  refine wpAny_BinOp (bin ha hb I h fun v u s2 x y H2 I2 rx ry q => ?_)
  obtain ⟨i, j, rfl, rfl, q⟩ := q
  obtain ⟨t, rfl⟩ := rx
  obtain ⟨t', rfl⟩ := ry
  exact sub_int ⟨.int _, H2, I2.tok _, ⟨_, rfl⟩, q⟩
theorem pe_mul (ha : PE X a ta) (hb : PE X b tb) : PE X (.BinOp a .Mult b pos) (tMul ta tb) := by
  intro pins s σ H Q I h
  refine wpAny_BinOp (bin ha hb I h fun v u s2 x y H2 I2 rx ry q => ?_)
  obtain ⟨i, j, rfl, rfl, ⟨q1, q2⟩, q⟩ := q
  obtain ⟨t, rfl⟩ := rx
  obtain ⟨t', rfl⟩ := ry
  exact mul_int ⟨.int _, H2, I2.tok _, ⟨_, rfl⟩, q⟩ (.of_left (intBits_le_64 q1 q2))

/-! ### comparisons -/
def PC (X : Cx) (op : CmpOp) (a b : Expr) (t : TE) : Prop :=
  ∀ (pins : List (Addr × Obj)) (s : Shared) (σ : St) (H : Hp) (Q : VK), Inv X pins σ H s → t σ H Q →
    wpAny (model X.prog X.w) X.A (eval a X.env) (fun v s₁ => wpAny (model X.prog X.w) X.A (eval b X.env) (fun u s₂ => wpAny (model X.prog X.w) X.A (compareOp op v u) (EP X pins σ Q) X.xe s₂) X.xe s₁) X.xe s
theorem nobehind (b : Expr) {op : CmpOp} (h : op ≠ .In) (h2 : op ≠ .NotIn) : behindInMarks op b = false := by
  have e1 : (op == CmpOp.In) = false := by cases op <;> first | rfl | exact absurd rfl h
  have e2 : (op == CmpOp.NotIn) = false := by cases op <;> first | rfl | exact absurd rfl h2
  cases b <;> simp [behindInMarks, e1, e2]
def tCmp (p : Int → Int → Bool) (ta tb : TE) : TE := fun σ H Q => t2I ta tb (fun i j H2 => Q (.bl (p i j)) H2) σ H
abbrev tLt : TE → TE → TE := tCmp fun i j => decide (i < j)
abbrev tLe : TE → TE → TE := tCmp fun i j => decide (i ≤ j)
abbrev tGt : TE → TE → TE := tCmp fun i j => decide (j < i)
abbrev tGe : TE → TE → TE := tCmp fun i j => decide (j ≤ i)
abbrev tEqI : TE → TE → TE := tCmp fun i j => decide (i = j)
abbrev tNeI : TE → TE → TE := tCmp fun i j => !decide (i = j)
/-- a comparison of two ints, by its rule -/
theorem pc_int {op : CmpOp} {p : Int → Int → Bool} (ha : PE X a ta) (hb : PE X b tb)
    (rule : ∀ (i j : Int) (t u : Tok) (Q : Value → Shared → Prop) (s : Shared), Q (.bool (p i j)) s → wpAny (model X.prog X.w) X.A (compareOp op (.int i t) (.int j u)) Q X.xe s) : PC X op a b (tCmp p ta tb) := by
  intro pins s σ H Q I h
  refine bin ha hb I h fun v u s2 x y H2 I2 rx ry q => ?_
  obtain ⟨i, j, rfl, rfl, q⟩ := q
  obtain ⟨t, rfl⟩ := rx
  obtain ⟨t', rfl⟩ := ry
  exact rule i j t t' _ s2 ⟨.bl _, H2, I2, rfl, q⟩
theorem pc_lt (ha : PE X a ta) (hb : PE X b tb) : PC X .Lt a b (tLt ta tb) := pc_int ha hb fun _ _ _ _ _ _ h => lt_int h
theorem pc_le (ha : PE X a ta) (hb : PE X b tb) : PC X .LtE a b (tLe ta tb) := pc_int ha hb fun _ _ _ _ _ _ h => le_int h
theorem pc_gt (ha : PE X a ta) (hb : PE X b tb) : PC X .Gt a b (tGt ta tb) := pc_int ha hb fun _ _ _ _ _ _ h => gt_int h
theorem pc_ge (ha : PE X a ta) (hb : PE X b tb) : PC X .GtE a b (tGe ta tb) := pc_int ha hb fun _ _ _ _ _ _ h => ge_int h
theorem pc_eqI (ha : PE X a ta) (hb : PE X b tb) : PC X .Eq a b (tEqI ta tb) := pc_int ha hb fun _ _ _ _ _ _ h => eq_int (by rw [Bool.beq_eq_decide_eq]; exact h)
theorem pc_neI (ha : PE X a ta) (hb : PE X b tb) : PC X .NotEq a b (tNeI ta tb) := pc_int ha hb fun _ _ _ _ _ _ h => ne_int (by rw [bne, Bool.beq_eq_decide_eq]; exact h)
/-- is None -/
def tIsN (ta : TE) : TE := fun σ H Q => ta σ H fun x H1 => Q (.bl (decide (x = .non))) H1
def tNotN (ta : TE) : TE := fun σ H Q => ta σ H fun x H1 => Q (.bl (!decide (x = .non))) H1
theorem RelV.none_iff {x : V} {v : Value} (r : RelV x v) : (v == Value.none) = decide (x = .non) := by
  cases x with
  | non => cases r; rfl
  | bl _ => cases r; rfl
  | int _ => obtain ⟨t, rfl⟩ := r; rfl
  | str _ => obtain ⟨t, rfl⟩ := r; rfl
  | byt _ => obtain ⟨t, rfl⟩ := r; rfl
  | flt _ => obtain ⟨t, rfl⟩ := r; rfl
  | ref _ => cases r; rfl
  | ty _ => cases r; rfl
theorem pc_isN {j pos'} (ha : PE X a ta) : PC X .Is a (.Constant .none j pos') (tIsN ta) := by
  intro pins s σ H Q I h
  refine thn (ha pins s σ H _ I h) fun v s1 ⟨x, H1, I1, r1, q1⟩ => ?_
  exact Constant_none (is_none_gen ⟨.bl _, H1, I1, by rw [r1.none_iff]; rfl, q1⟩)
theorem pc_notN {j pos'} (ha : PE X a ta) : PC X .IsNot a (.Constant .none j pos') (tNotN ta) := by
  intro pins s σ H Q I h
  refine thn (ha pins s σ H _ I h) fun v s1 ⟨x, H1, I1, r1, q1⟩ => ?_
  exact Constant_none (isnot_none_gen ⟨.bl _, H1, I1, by rw [r1.none_iff]; rfl, q1⟩)
/-- a comparison as a value, as a test -/
def tB (t : TE) : TT := fun σ H Q => t σ H fun x H1 => ∃ c, x = .bl c ∧ Q c H1
theorem pe_cmp {op : CmpOp} {t : TE} (h : PC X op a b t) (h1 : behindInMarks op b = false := by first | exact nobehind _ (by decide) (by decide) | rfl) : PE X (.Compare a [op] [b] pos) t := fun pins s σ H Q I hw => wpAny_Compare1 (h pins s σ H Q I hw) h1
theorem pt_cmp {op : CmpOp} {t : TE} (h : PC X op a b t) (h1 : behindInMarks op b = false := by first | exact nobehind _ (by decide) (by decide) | rfl) : PT X (.Compare a [op] [b] pos) (tB t) := by
  intro pins s σ H Q I hw
  refine wpAny_isTrue_Compare1 (thn (h pins s σ H _ I hw) fun v s1 h1 => thn h1 fun u s2 h2 => thn h2 fun c s3 ⟨x, H1, I1, r1, q1⟩ => ?_) h1
  obtain ⟨d, rfl, q⟩ := q1
  cases r1
  exact wpAny_truthy_bool ⟨H1, I1, q⟩
/-- an expression whose value is a bool, as a test -/
theorem pt_val {e : Expr} {t : TE} (h : PE X e t) (he : ∀ whole, isTrue e X.env whole = (do let v ← whole; standAt e.pos; holding [v] (truthy v)) := by intro _; rfl) : PT X e (tB t) := by
  intro pins s σ H Q I hw
  refine isTrue_plain (thn (h pins s σ H _ I hw) fun v s1 ⟨x, H1, I1, r1, q1⟩ => ?_) (he _)
  obtain ⟨d, rfl, q⟩ := q1
  cases r1
  exact wpAny_truthy_bool ⟨H1, I1, q⟩

/-! ### and, or, not -/
variable {tA tB' : TT} {rest : List Expr}
def tAnd (t u : TT) : TT := fun σ H Q => t σ H fun c H1 => if c = true then u σ H1 Q else Q false H1
def tOr (t u : TT) : TT := fun σ H Q => t σ H fun c H1 => if c = true then Q true H1 else u σ H1 Q
def tNot (t : TT) : TT := fun σ H Q => t σ H fun c H1 => Q (!c) H1
theorem pw_and1 (ha : PT X a tA) : PW X (.BoolOp .And [a] pos) tA := by
  intro wh pins s σ H Q I h
  refine isTrue_and (thn (ha pins s σ H Q I h) fun c s1 e => ?_)
  cases c with
  | true => exact isTrue_and_nil e
  | false => exact e
theorem pw_or1 (ha : PT X a tA) : PW X (.BoolOp .Or [a] pos) tA := by
  intro wh pins s σ H Q I h
  refine isTrue_or (thn (ha pins s σ H Q I h) fun c s1 e => ?_)
  cases c with
  | false => exact isTrue_or_nil e
  | true => exact e
theorem pw_and (ha : PT X a tA) (hb : PW X (.BoolOp .And (b :: rest) pos) tB') : PW X (.BoolOp .And (a :: b :: rest) pos) (tAnd tA tB') := by
  intro wh pins s σ H Q I h
  refine isTrue_and (thn (ha pins s σ H _ I h) fun c s1 ⟨H1, I1, q1⟩ => ?_)
  cases c with
  | true => exact hb wh pins s1 σ H1 Q I1 q1
  | false => exact ⟨H1, I1, q1⟩
theorem pw_or (ha : PT X a tA) (hb : PW X (.BoolOp .Or (b :: rest) pos) tB') : PW X (.BoolOp .Or (a :: b :: rest) pos) (tOr tA tB') := by
  intro wh pins s σ H Q I h
  refine isTrue_or (thn (ha pins s σ H _ I h) fun c s1 ⟨H1, I1, q1⟩ => ?_)
  cases c with
  | true => exact ⟨H1, I1, q1⟩
  | false => exact hb wh pins s1 σ H1 Q I1 q1
theorem pt_not (ha : PT X a tA) : PT X (.UnaryOp .Not a pos) (tNot tA) := by
  intro pins s σ H Q I h
  exact isTrue_not (ha pins s σ H (fun c H1 => Q (!c) H1) I h)
/-- .. as values (bools) -/
def tAndV (ta tb : TE) : TE := fun σ H Q => ta σ H fun x H1 => ∃ c, x = .bl c ∧ if c = true then tb σ H1 Q else Q (.bl false) H1
def tOrV (ta tb : TE) : TE := fun σ H Q => ta σ H fun x H1 => ∃ c, x = .bl c ∧ if c = true then Q (.bl true) H1 else tb σ H1 Q
def tNotV (ta : TE) : TE := fun σ H Q => ta σ H fun x H1 => ∃ c, x = .bl c ∧ Q (.bl (!c)) H1
theorem pe_one {op} {t : TE} (h : PE X a t) : PE X (.BoolOp op [a] pos) t := fun pins s σ H Q I hw => BoolOp_one (h pins s σ H Q I hw)
theorem pe_and (ha : PE X a ta) (hb : PE X (.BoolOp .And (b :: rest) pos) tb) : PE X (.BoolOp .And (a :: b :: rest) pos) (tAndV ta tb) := by
  intro pins s σ H Q I h
  refine BoolOp_and (thn (ha pins s σ H _ I h) fun v s1 ⟨x, H1, I1, r1, q1⟩ => ?_)
  obtain ⟨c, rfl, q1⟩ := q1
  cases r1
  refine wpAny_truthy_bool ?_
  cases c with
  | true => exact hb pins s1 σ H1 Q I1 q1
  | false => exact ⟨.bl false, H1, I1, rfl, q1⟩
theorem pe_or (ha : PE X a ta) (hb : PE X (.BoolOp .Or (b :: rest) pos) tb) : PE X (.BoolOp .Or (a :: b :: rest) pos) (tOrV ta tb) := by
  intro pins s σ H Q I h
  refine BoolOp_or (thn (ha pins s σ H _ I h) fun v s1 ⟨x, H1, I1, r1, q1⟩ => ?_)
  obtain ⟨c, rfl, q1⟩ := q1
  cases r1
  refine wpAny_truthy_bool ?_
  cases c with
  | false => exact hb pins s1 σ H1 Q I1 q1
  | true => exact ⟨.bl true, H1, I1, rfl, q1⟩
theorem pe_not (ha : PE X a ta) : PE X (.UnaryOp .Not a pos) (tNotV ta) := by
  intro pins s σ H Q I h
  refine UnaryOp_ (thn (ha pins s σ H _ I h) fun v s1 ⟨x, H1, I1, r1, q1⟩ => ?_)
  obtain ⟨c, rfl, q1⟩ := q1
  cases r1
  exact not_of (wpAny_truthy_bool ⟨.bl (!c), H1, I1, rfl, q1⟩)
/-- a if t else b -/
def tIf (t : TT) (ta tb : TE) : TE := fun σ H Q => t σ H fun c H1 => if c = true then ta σ H1 Q else tb σ H1 Q
theorem pe_ifExp {c : Expr} (hc : PT X c tA) (ha : PE X a ta) (hb : PE X b tb) : PE X (.IfExp c a b pos) (tIf tA ta tb) := by
  intro pins s σ H Q I h
  refine wpAny_IfExp (thn (hc pins s σ H _ I h) fun d s1 ⟨H1, I1, q1⟩ => ?_)
  cases d with
  | true => exact ha pins s1 σ H1 Q I1 q1
  | false => exact hb pins s1 σ H1 Q I1 q1
end
end L2

namespace L2
open PySem PySem.Spec PyProof.Rows

/-! ### a list, a tuple that is read: tracked, frozen, or an object of the module -/
def SqL (K : PySem.W.Frag) (H : Hp) (a : Addr) (xs : List V) : Prop :=
  Rd H a (.lst xs) ∨
    ∃ (o : Obj) (its : Array Value) (n : Nat), K.lookup a = some o ∧ o.cls = .type "list" ∧ o.dict = none ∧ o.data = .seq its n ∧ its.size ≤ sizeLine ∧ Vals xs its.toList
def SqT (K : PySem.W.Frag) (H : Hp) (a : Addr) (xs : List V) : Prop :=
  Rd H a (.tup xs) ∨
    ∃ (o : Obj) (its : Array Value) (n : Nat), K.lookup a = some o ∧ o.cls = .type "tuple" ∧ o.data = .seq its n ∧ its.size ≤ sizeLine ∧ Vals xs its.toList
def absV : Value → Option V
  | .none => some .non
  | .bool b => some (.bl b)
  | .int i _ => some (.int i)
  | .str x _ => some (.str x)
  | .bytes b _ => some (.byt b)
  | .float b _ => some (.flt b)
  | .ref a => some (.ref a)
  | .type n => some (.ty n)
  | _ => none
theorem RelV.abs {x : V} {u : Value} (r : RelV x u) : absV u = some x := by
  cases x with
  | non => cases r; rfl
  | bl _ => cases r; rfl
  | int _ => obtain ⟨t, rfl⟩ := r; rfl
  | str _ => obtain ⟨t, rfl⟩ := r; rfl
  | byt _ => obtain ⟨t, rfl⟩ := r; rfl
  | flt _ => obtain ⟨t, rfl⟩ := r; rfl
  | ref _ => cases r; rfl
  | ty _ => cases r; rfl
theorem RelV.inj {x y : V} {u : Value} (r : RelV x u) (q : RelV y u) : x = y := Option.some.inj (r.abs.symm.trans q.abs)
theorem Vals.inj : ∀ {xs ys : List V} {us : List Value}, Vals xs us → Vals ys us → xs = ys
  | _, _, _, .nil, .nil => rfl
  | _, _, _, .cons r t, .cons r' t' => by rw [r.inj r', Vals.inj t t']
section
variable {X : Cx} {pins : List (Addr × Obj)} {σ : St} {H : Hp} {s : Shared} {a : Addr} {xs ys : List V}
theorem SqL.of {K : PySem.W.Frag} (h : H a = some (.lst xs)) : SqL K H a xs := .inl (.inl h)
theorem SqT.of {K : PySem.W.Frag} (h : H a = some (.tup xs)) : SqT K H a xs := .inl (.inl h)
theorem Inv.list (I : Inv X pins σ H s) (h : SqL X.K H a xs) : ∃ its : List Value, Vals xs its ∧ PlainL s.heap a its.toArray ∧ xs.length ≤ sizeLine := by
  rcases h with h | ⟨o, its, n, hk, hc, hd, hs, hz, r⟩
  · obtain ⟨z, its, n, r, e⟩ := h.ok I.hok
    exact ⟨its, r, ⟨_, n, e, rfl, rfl, rfl⟩, z⟩
  · refine ⟨its.toList, r, ⟨o, n, I.kIn a o hk, hc, hd, by simpa using hs⟩, ?_⟩
    have e := r.length
    simp only [Array.length_toList] at e
    omega
theorem Inv.tuple (I : Inv X pins σ H s) (h : SqT X.K H a xs) : ∃ its : List Value, Vals xs its ∧ IsTup s.heap a its.toArray ∧ xs.length ≤ sizeLine := by
  rcases h with h | ⟨o, its, n, hk, hc, hs, hz, r⟩
  · obtain ⟨z, its, r, p⟩ := h.ok I.hok
    exact ⟨its, r, p, z⟩
  · refine ⟨its.toList, r, ⟨o, I.kIn a o hk, hc, n, by simpa using hs⟩, ?_⟩
    have e := r.length
    simp only [Array.length_toList] at e
    omega
theorem Inv.list_inj (I : Inv X pins σ H s) (h : SqL X.K H a xs) (h' : SqL X.K H a ys) : xs = ys := by
  obtain ⟨its, r, ⟨o, n, e, _, _, d⟩, _⟩ := I.list h
  obtain ⟨its', r', ⟨o', n', e', _, _, d'⟩, _⟩ := I.list h'
  rw [e] at e'; cases e'
  rw [d] at d'
  injection d' with d1 _
  have : its = its' := by simpa using congrArg Array.toList d1
  subst this
  exact r.inj r'
theorem Inv.tuple_inj (I : Inv X pins σ H s) (h : SqT X.K H a xs) (h' : SqT X.K H a ys) : xs = ys := by
  obtain ⟨its, r, ⟨o, e, _, n, d⟩, _⟩ := I.tuple h
  obtain ⟨its', r', ⟨o', e', _, n', d'⟩, _⟩ := I.tuple h'
  rw [e] at e'; cases e'
  rw [d] at d'
  injection d' with d1 _
  have : its = its' := by simpa using congrArg Array.toList d1
  subst this
  exact r.inj r'
end

/-! ### another wish about exceptions -/
abbrev Cx.wish (X : Cx) (E : Value → Shared → Prop) : Cx := { X with xe := E }
/-- no exception leaves -/
abbrev Cx.nox (X : Cx) : Cx := X.wish fun _ _ => False
theorem Cx.Ok.wish {X : Cx} (ok : X.Ok) (E : Value → Shared → Prop) : (X.wish E).Ok :=
  ⟨ok.mod, ok.kind, ok.glob, ok.blt, ok.above, ok.inj, ok.has, ok.cab, ok.hd, ok.frames, ok.stk, ok.exf, ok.bs, ok.bsz, ok.noex, ok.exfs, ok.funs, ok.frf⟩
theorem Cx.Ok.unwish {X : Cx} {E : Value → Shared → Prop} (ok : (X.wish E).Ok) : X.Ok :=
  ⟨ok.mod, ok.kind, ok.glob, ok.blt, ok.above, ok.inj, ok.has, ok.cab, ok.hd, ok.frames, ok.stk, ok.exf, ok.bs, ok.bsz, ok.noex, ok.exfs, ok.funs, ok.frf⟩
section
variable {X : Cx} {pins : List (Addr × Obj)} {σ : St} {H : Hp} {s : Shared} {E : Value → Shared → Prop}
theorem Inv.wish (I : Inv X pins σ H s) (E : Value → Shared → Prop) : Inv (X.wish E) pins σ H s := ⟨I.ok.wish E, I.os, I.bare, I.base, I.loc, I.cell, I.free, I.freeC, I.pin, I.hok, I.len⟩
theorem Inv.unwish (I : Inv (X.wish E) pins σ H s) : Inv X pins σ H s := ⟨I.ok.unwish, I.os, I.bare, I.base, I.loc, I.cell, I.free, I.freeC, I.pin, I.hok, I.len⟩
theorem SP.unwish {D : Ends} {f : Flow} {s' : Shared} (h : SP (X.wish E) pins D f s') : SP X pins D f s' := by
  cases f with
  | next => obtain ⟨σ', H', I, q⟩ := h; exact ⟨σ', H', I.unwish, q⟩
  | brk => obtain ⟨σ', H', I, q⟩ := h; exact ⟨σ', H', I.unwish, q⟩
  | cont => obtain ⟨σ', H', I, q⟩ := h; exact ⟨σ', H', I.unwish, q⟩
  | ret u => obtain ⟨v, σ', H', I, r, q⟩ := h; exact ⟨v, σ', H', I.unwish, r, q⟩
theorem PE.nox {e : Expr} {t : TE} (h : PE X.nox e t) : PE X e t := fun pins s σ H Q I hw =>
  wpAny_mono (h pins s σ H Q (I.wish _) hw) (fun _ _ ⟨v, H', I', r, q⟩ => ⟨v, H', I'.unwish, r, q⟩) fun _ _ z => False.elim z
theorem PT.nox {e : Expr} {t : TT} (h : PT X.nox e t) : PT X e t := fun pins s σ H Q I hw =>
  wpAny_mono (h pins s σ H Q (I.wish _) hw) (fun _ _ ⟨H', I', q⟩ => ⟨H', I'.unwish, q⟩) fun _ _ z => False.elim z
theorem PSs.nox {st : List Stmt} {t : TS} (h : PSs X.nox st t) : PSs X st t := fun pins s σ H D I hw =>
  wpAny_mono (h pins s σ H D (I.wish _) hw) (fun _ _ q => q.unwish) fun _ _ z => False.elim z
end

/-! ### blocks and small statements -/
section
variable {X : Cx} {st : Stmt} {rest : List Stmt} {t u : TS} {e : Expr} {te : TE} {pos : Pos}
def tNext : TS := fun D σ H => D.nx σ H
def tSeq (t u : TS) : TS := fun D σ H => t { D with nx := u D } σ H
theorem pss_nil : PSs X [] tNext := fun _ _ σ H _ I h => wpAny_execs_nil ⟨σ, H, I, h⟩
theorem pss_cons (h1 : PS X st t) (h2 : PSs X rest u) : PSs X (st :: rest) (tSeq t u) := by
  intro pins s σ H D I h
  refine wpAny_execs_cons (thn (h1 pins s σ H { D with nx := u D } I h) fun f s1 q => ?_)
  cases f with
  | next =>
    obtain ⟨σ', H', I', q⟩ := q
    exact h2 pins s1 σ' H' D I' q
  | ret v => exact q
  | brk => exact q
  | cont => exact q
theorem pss_one (h1 : PS X st t) : PSs X [st] t := by
  intro pins s σ H D I h
  refine wpAny_execs_cons (thn (h1 pins s σ H D I h) fun f s1 q => ?_)
  cases f with
  | next => exact wpAny_execs_nil q
  | ret v => exact q
  | brk => exact q
  | cont => exact q
def tBreak : TS := fun D σ H => D.bk σ H
def tCont : TS := fun D σ H => D.ct σ H
theorem ps_pass : PS X (.Pass pos) tNext := fun _ _ σ H _ I h => wpAny_Pass ⟨σ, H, I, h⟩
theorem ps_break : PS X (.Break pos) tBreak := fun _ _ σ H _ I h => wpAny_Break ⟨σ, H, I, h⟩
theorem ps_continue : PS X (.Continue pos) tCont := fun _ _ σ H _ I h => wpAny_Continue ⟨σ, H, I, h⟩
/-- in a def's body nothing is shown -/
theorem Inv.quiet {pins : List (Addr × Obj)} {σ : St} {H : Hp} {s : Shared} (I : Inv X pins σ H s) : interactive X.env = false := by simp [interactive, I.ok.kind]
/-- a docstring -/
theorem ps_doc {x j pos pos'} : PS X (.Expr (.Constant (.str x) j pos) pos') tNext := fun _ s σ H _ I h => wpAny_Expr (Calls.Constant_str (show SP X _ _ .next { s with toks := s.toks + 1 } from ⟨σ, H, I.tok _, h⟩)) I.quiet
/-- an expression whose value is dropped -/
def tDrop (te : TE) : TS := fun D σ H => te σ H fun _ H1 => D.nx σ H1
theorem ps_expr (he : PE X e te) (hs : swapsWith e none pos.line X.env = pure false := by rfl) : PS X (.Expr e pos) (tDrop te) := by
  intro pins s σ H D I h
  exact wpAny_Expr_any (thn (he pins s σ H _ I h) fun v s1 ⟨x, H1, I1, r1, q1⟩ => ⟨σ, H1, I1, q1⟩) I.quiet hs
def tRet (te : TE) : TS := fun D σ H => te σ H D.rt
theorem ps_ret (he : PE X e te) : PS X (.Return (some e) pos) (tRet te) := by
  intro pins s σ H D I h
  exact wpAny_Return_some (thn (he pins s σ H _ I h) fun v s1 ⟨x, H1, I1, r1, q1⟩ => ⟨x, σ, H1, I1, r1, q1⟩)
def tRetN : TS := fun D _ H => D.rt .non H
theorem ps_retN : PS X (.Return none pos) tRetN := fun _ _ σ H _ I h => wpAny_Return_none ⟨.non, σ, H, I, rfl, h⟩
def tIfS (c : TT) (t u : TS) : TS := fun D σ H => c σ H fun b H1 => if b = true then t D σ H1 else u D σ H1
theorem ps_if {c : Expr} {a b : List Stmt} {tc : TT} (hc : PT X c tc) (ha : PSs X a t) (hb : PSs X b u) : PS X (.If c a b pos) (tIfS tc t u) := by
  intro pins s σ H D I h
  refine wpAny_If (thn (hc pins s σ H _ I h) fun d s1 ⟨H1, I1, q1⟩ => ?_)
  cases d with
  | true => exact ha pins s1 σ H1 D I1 q1
  | false => exact hb pins s1 σ H1 D I1 q1
/-- code that the proof never comes to -/
def tNever : TS := fun _ _ _ => False
theorem ps_never : PS X st tNever := fun _ _ _ _ _ _ h => h.elim
theorem pss_never {sts : List Stmt} : PSs X sts tNever := fun _ _ _ _ _ _ h => h.elim
end

/-! ### targets -/
abbrev TG := V → St → Hp → (St → Hp → Prop) → Prop
abbrev TGs := List V → St → Hp → (St → Hp → Prop) → Prop
def PG (X : Cx) (target : Expr) (t : TG) : Prop :=
  ∀ (pins : List (Addr × Obj)) (s : Shared) (σ : St) (H : Hp) (v : V) (u : Value) (Q : St → Hp → Prop), Inv X pins σ H s → RelV v u → t v σ H Q →
    wpAny (model X.prog X.w) X.A (assign target X.env u) (fun _ s' => ∃ σ' H', Inv X pins σ' H' s' ∧ Q σ' H') X.xe s
/-- several targets, one after another -/
def PGs (X : Cx) (ts : List Expr) (t : TGs) : Prop :=
  ∀ (pins : List (Addr × Obj)) (s : Shared) (σ : St) (H : Hp) (vs : List V) (us : List Value) (Q : St → Hp → Prop), Inv X pins σ H s → Vals vs us → t vs σ H Q →
    wpAny (model X.prog X.w) X.A (assignInOrder ((assignEach ts X.env).map (·.2)) us) (fun _ s' => ∃ σ' H', Inv X pins σ' H' s' ∧ Q σ' H') X.xe s
/-- o[i] = v, by values -/
abbrev TSet := V → V → V → Hp → (Hp → Prop) → Prop
def PSet (X : Cx) (t : TSet) : Prop :=
  ∀ (pins : List (Addr × Obj)) (s : Shared) (σ : St) (H : Hp) (o i v : V) (ov iv u : Value) (Q : Hp → Prop), Inv X pins σ H s → RelV o ov → RelV i iv → RelV v u → t o i v H Q →
    wpAny (model X.prog X.w) X.A (setItem ov iv u) (fun _ s' => ∃ H', Inv X pins σ H' s' ∧ Q H') X.xe s
/-- a op= b, by values -/
abbrev TIp := V → V → Hp → VK → Prop
def PIp (X : Cx) (op : Operator) (t : TIp) : Prop :=
  ∀ (pins : List (Addr × Obj)) (s : Shared) (σ : St) (H : Hp) (x y : V) (v u : Value) (Q : VK), Inv X pins σ H s → RelV x v → RelV y u → t x y H Q →
    wpAny (model X.prog X.w) X.A (inplaceOp op v u) (EP X pins σ Q) X.xe s
section
variable {X : Cx} {pos : Pos}
def gName (i : Nat) : TG := fun v σ H Q => Q (σ.set i (some v)) H
theorem pg_name {i : Nat} {x : Str} (hN : X.N.Nodup) (hi : X.N[i]? = some x) (hx : Loc X.env.scope x) (hf : X.fn x = true ∨ X.env.scope.names.lookup x = some .local := by first | exact .inl rfl | exact .inr rfl | assumption) : PG X (.Name x pos) (gName i) := by
  intro pins s σ H v u Q I r h
  exact wpAny_assign_Name (store_ok I hN hi hx r (fun s' I' => ⟨_, H, I', h⟩) hf)
def gNil : TGs := fun vs σ H Q => vs = [] ∧ Q σ H
def gCons (t : TG) (u : TGs) : TGs := fun vs σ H Q => ∃ v r, vs = v :: r ∧ t v σ H fun σ' H' => u r σ' H' Q
theorem pgs_nil : PGs X [] gNil := by
  intro pins s σ H vs us Q I r h
  obtain ⟨e, h⟩ := h
  subst e
  cases r
  exact assignInOrder_nil ⟨σ, H, I, h⟩
theorem pgs_cons {e : Expr} {es : List Expr} {t : TG} {u : TGs} (h1 : PG X e t) (h2 : PGs X es u)
    (hs : (assignEach (e :: es) X.env).map (·.2) = assign e X.env :: (assignEach es X.env).map (·.2) := by rfl) : PGs X (e :: es) (gCons t u) := by
  intro pins s σ H vs us Q I r h
  obtain ⟨v, vr, e1, h⟩ := h
  subst e1
  cases r with
  | cons r rr =>
    rw [hs]
    refine assignInOrder_cons (thn (h1 pins s σ H _ _ _ I r h) fun _ s1 ⟨σ1, H1, I1, q1⟩ => ?_)
    exact h2 pins s1 σ1 H1 _ _ Q I1 rr q1
/-- (a, b, ..) = a tuple of that length -/
def gTup (K : PySem.W.Frag) (n : Nat) (t : TGs) : TG := fun v σ H Q => ∃ a xs, v = .ref a ∧ SqT K H a xs ∧ xs.length = n ∧ t xs σ H Q
theorem pg_tup {es : List Expr} {k : Nat} {t : TGs} {n : Nat} (hc : X.calm = true) (h : PGs X es t)
    (hn : (assignEach es X.env).length = n := by rfl) (hst : (assignEach es X.env).findIdx? (·.1) = none := by rfl) : PG X (.Tuple es k pos) (gTup X.K n t) := by
  intro pins s σ H v u Q I r hw
  obtain ⟨a, xs, e1, hq, hl, hw⟩ := hw
  subst e1
  cases r
  obtain ⟨its, rv, ht, hz⟩ := I.tuple hq
  refine assign_Tuple_tuple (I.ok.hd hc) ht (by simp [hn, ← hl, rv.length]) hst fun h' hx => ?_
  have I1 : Inv X pins σ H { s with heap := h' } := I.kept (t' := s.toks) fun b o e => hx b o (Nat.ne_of_lt (Heap.lt_size e)) e
  exact h pins _ σ H xs _ Q I1 (by simpa using rv) hw
/-- o[i] = .. -/
def gSub (to ti : TE) (t : TSet) : TG := fun v σ H Q => to σ H fun o H1 => ti σ H1 fun i H2 => t o i v H2 fun H3 => Q σ H3
theorem pg_sub {o i : Expr} {to ti : TE} {t : TSet} (ho : PE X o to) (hi : PE X i ti) (hs : PSet X t)
    (ha : ∀ v, assign (.Subscript o i pos) X.env v = (do
      let ov ← holding [v] (eval o X.env)
      let iv ← holding [v, ov] (eval i X.env)
      standAt pos
      holding [v, ov, iv] (setItem ov iv v)
      release [v, ov, iv] []) := by intro _; rfl) : PG X (.Subscript o i pos) (gSub to ti t) := by
  intro pins s σ H v u Q I r h
  rw [ha]
  refine wpAny_bind (wpAny_holding (thn (ho pins s σ H _ I h) fun ov s1 ⟨x, H1, I1, r1, q1⟩ => ?_))
  refine wpAny_bind (wpAny_holding (thn (hi pins s1 σ H1 _ I1 q1) fun iv s2 ⟨y, H2, I2, r2, q2⟩ => ?_))
  refine wpAny_bind (wpAny_standAt (wpAny_bind (wpAny_holding (thn (hs pins s2 σ H2 x y v ov iv u _ I2 r1 r2 r q2) fun _ s3 ⟨H3, I3, q3⟩ => ?_))))
  exact wpAny_release ⟨σ, H3, I3, q3⟩
/-- target = value -/
def tAsg (te : TE) (g : TG) : TS := fun D σ H => te σ H fun x H1 => g x σ H1 D.nx
theorem ps_asg {tg e : Expr} {te : TE} {g : TG} (he : PE X e te) (hg : PG X tg g) (hs : swapsWithSole [tg] e pos.line X.env = pure false := by rfl) (hw : swappedStores [tg] e X.env = pure none := by rfl)
    (h1 : (assignEach [tg] X.env).map (·.2) = [assign tg X.env] := by rfl) : PS X (.Assign [tg] e pos) (tAsg te g) := by
  intro pins s σ H D I h
  refine wpAny_Assign_stores (thn (he pins s σ H _ I h) fun v s1 ⟨x, H1, I1, r1, q1⟩ => ?_) hs hw
  rw [h1]
  exact thn (hg pins s1 σ H1 x v _ I1 r1 q1) fun _ s2 q => q
/-- name = value -/
theorem ps_set {i : Nat} {x : Str} {e : Expr} {te : TE} {pos' : Pos} (hN : X.N.Nodup) (hi : X.N[i]? = some x) (hx : Loc X.env.scope x) (he : PE X e te) (hs : swapsWith e (some (.Name x pos')) pos.line X.env = pure false := by rfl) (hf : X.fn x = true ∨ X.env.scope.names.lookup x = some .local := by first | exact .inl rfl | exact .inr rfl | assumption) :
    PS X (.Assign [.Name x pos'] e pos) (tAsg te (gName i)) := by
  intro pins s σ H D I h
  refine wpAny_Assign_Name (thn (he pins s σ H _ I h) fun v s1 ⟨y, H1, I1, r1, q1⟩ => ?_) hs
  exact store_ok I1 hN hi hx r1 (fun s2 I2 => ⟨_, H1, I2, q1⟩) hf
/-- a, b = x, y with plain local names: stored from the right; the pair itself is not tracked (the opening rows as in PyProof/Rows/TupAssign.lean:23) -/
def tPar (i j : Nat) (ta : TA) : TS := fun D σ H => ta σ H fun vs H1 => ∃ v w, vs = [v, w] ∧ D.nx ((σ.set i (some v)).set j (some w)) H1
theorem ps_par {i j : Nat} {x y : Str} {a b : Expr} {ta : TA} {px py pt : Pos} {kt k2 pt2} (hc : X.calm = true) (hN : X.N.Nodup) (hi : X.N[i]? = some x) (hj : X.N[j]? = some y) (hij : i ≠ j)
    (hx : X.env.scope.names.lookup x = some .local) (hy : X.env.scope.names.lookup y = some .local) (ha : PA X [a, b] ta)
    (hw : swappedStores [.Tuple [.Name x px, .Name y py] kt pt] (.Tuple [a, b] k2 pt2) X.env = pure (some [x, y]))
    (hs : swapsWithSole [.Tuple [.Name x px, .Name y py] kt pt] (.Tuple [a, b] k2 pt2) pos.line X.env = pure false := by rfl) :
    PS X (.Assign [.Tuple [.Name x px, .Name y py] kt pt] (.Tuple [a, b] k2 pt2) pos) (tPar i j ta) := by
  intro pins s σ H D I h
  rw [exec_Assign_arm]
  refine wpAny_bind (wpAny_standAt ?_)
  rw [hs]
  refine wpAny_bind (wpAny_pure ?_)
  rw [if_neg (by decide)]
  refine wpAny_bind (Tuple_ (thn (ha _ pins s σ H _ I h) fun us s1 ⟨vs, H1, I1, r1, q1⟩ => ?_))
  obtain ⟨v, w, e1, q1⟩ := q1
  subst e1
  obtain ⟨u1, u2, rfl, rv, rw'⟩ : ∃ u1 u2, us = [u1, u2] ∧ RelV v u1 ∧ RelV w u2 := by
    cases r1 with
    | cons p q =>
      cases q with
      | cons p' q' =>
        cases q'
        exact ⟨_, _, rfl, p, p'⟩
  refine wpAny_newObj_type ?_ (by show 2 ≤ sizeLine; decide)
  have I2 : Inv X pins σ H1 { s1 with heap := s1.heap.push { cls := .type "tuple", data := .seq [u1, u2].toArray } } := I1.kept (t' := s1.toks) fun b o e => Heap.get?_push_of_some _ e
  rw [hw]
  refine wpAny_bind (wpAny_pure ?_)
  show wpAny (model X.prog X.w) X.A (do rule "assign.swapped-stores"; let items ← unpackItems (.ref s1.heap.objs.size) 2 none; assignInOrder [fun v => bindName X.env y v, fun v => bindName X.env x v] items.reverse; pure Flow.next) _ _ _
  refine wpAny_bind (wpAny_rule (wpAny_bind (unpackItems_tuple (items := #[u1, u2]) (I.ok.hd hc) (IsTup.new s1.heap _) fun h' hx' => ?_)))
  have I3 := I2.kept (h' := h') (t' := s1.toks) fun b o e => hx' b o (Nat.ne_of_lt (Heap.lt_size e)) e
  show wpAny _ _ (assignInOrder [fun v => bindName X.env y v, fun v => bindName X.env x v] [u2, u1] >>= fun _ => pure Flow.next) _ _ _
  refine wpAny_bind (assignInOrder_cons (wpAny_bindName (store_ok I3 hN hj (.inl hy) rw' (fun s2 I4 => ?_) (.inr hy))))
  refine assignInOrder_cons (wpAny_bindName (store_ok I4 hN hi (.inl hx) rv (fun s3 I5 => assignInOrder_nil (wpAny_pure ?_)) (.inr hx)))
  rw [List.set_comm _ _ (Ne.symm hij)] at I5
  exact ⟨_, H1, I5, q1⟩
/-- name op= e -/
def tAug (i : Nat) (te : TE) (ti : TIp) : TS := fun D σ H => ∃ x, σ[i]? = some (some x) ∧ te σ H fun y H1 => ti x y H1 fun z H2 => D.nx (σ.set i (some z)) H2
theorem ps_aug {i : Nat} {x : Str} {e : Expr} {te : TE} {op : Operator} {ti : TIp} {pos' : Pos} (hN : X.N.Nodup) (hi : X.N[i]? = some x) (hx : Loc X.env.scope x) (he : PE X e te) (ho : PIp X op ti) (hf : X.fn x = true ∨ X.env.scope.names.lookup x = some .local := by first | exact .inl rfl | exact .inr rfl | assumption) :
    PS X (.AugAssign (.Name x pos') op e pos) (tAug i te ti) := by
  intro pins s σ H D I h
  obtain ⟨v, e1, h⟩ := h
  obtain ⟨m, hn, hl⟩ := I.loc
  have vis : Vis X.env.scope x := by rcases hx with k | k; exact .inl k; exact .inr (.inl k)
  obtain ⟨u, r, l⟩ := hl i x v hi e1 vis
  refine wpAny_AugAssign_Name ?_
  have go : wpAny (model X.prog X.w) X.A (eval e X.env) (fun w s₂ => wpAny (model X.prog X.w) X.A (inplaceOp op u w) (fun r s₃ => wpAny (model X.prog X.w) X.A (storeName X.env x r) (fun _ => SP X pins D .next) X.xe s₃) X.xe s₂) X.xe s := by
    refine thn (he pins s σ H _ I h) fun w s1 ⟨y, H1, I1, r1, q1⟩ => ?_
    refine thn (ho pins s1 σ H1 v y u w _ I1 r r1 q1) fun z s2 ⟨zv, H2, I2, r2, q2⟩ => ?_
    exact store_ok I2 hN hi hx r2 (fun s3 I3 => ⟨_, H2, I3, q2⟩) hf
  rcases l with ⟨hk, hm⟩ | ⟨hk, c, hc, hcell⟩
  · exact wpAny_loadName_local I.ok.kind hk hn hm go
  · rcases hk with hk | hk
    · exact wpAny_loadName_cell I.ok.kind hk hc hcell go
    · rcases hx with k | k
      · have : X.env.scope.names.lookup x = some .free := hk
        rw [k] at this; cases this
      · have : X.env.scope.names.lookup x = some .free := hk
        rw [k] at this; cases this
/-- o[i] op= e -/
def tAugS (to ti te : TE) (tget : V → V → Hp → VK → Prop) (tip : TIp) (tset : TSet) : TS := fun D σ H => to σ H fun o H1 => ti σ H1 fun i H2 => tget o i H2 fun x H3 => te σ H3 fun y H4 => tip x y H4 fun z H5 => tset o i z H5 fun H6 => D.nx σ H6
/-- o[i], by values -/
def PGet (X : Cx) (t : V → V → Hp → VK → Prop) : Prop :=
  ∀ (pins : List (Addr × Obj)) (s : Shared) (σ : St) (H : Hp) (o i : V) (ov iv : Value) (Q : VK), Inv X pins σ H s → RelV o ov → RelV i iv → t o i H Q →
    wpAny (model X.prog X.w) X.A (getItem ov iv) (EP X pins σ Q) X.xe s
theorem ps_augS {o i e : Expr} {to ti te : TE} {tget : V → V → Hp → VK → Prop} {tip : TIp} {tset : TSet} {op : Operator} {tpos : Pos} (ho : PE X o to) (hi : PE X i ti) (hg : PGet X tget) (he : PE X e te) (hp : PIp X op tip) (hs : PSet X tset)
    (ha : ∀ ov iv new, augStore i ov iv new = (do holding [new, ov, iv] (setItem ov iv new); release [new, ov, iv] []; pure .next) := by intros; rfl) : PS X (.AugAssign (.Subscript o i tpos) op e pos) (tAugS to ti te tget tip tset) := by
  intro pins s σ H D I h
  refine wpAny_AugAssign_SubscriptAny (thn (ho pins s σ H _ I h) fun ov s1 ⟨x1, H1, I1, r1, q1⟩ => ?_) ha
  refine thn (hi pins s1 σ H1 _ I1 q1) fun iv s2 ⟨x2, H2, I2, r2, q2⟩ => ?_
  refine thn (hg pins s2 σ H2 x1 x2 ov iv _ I2 r1 r2 q2) fun old s3 ⟨x3, H3, I3, r3, q3⟩ => ?_
  refine thn (he pins s3 σ H3 _ I3 q3) fun v s4 ⟨x4, H4, I4, r4, q4⟩ => ?_
  refine thn (hp pins s4 σ H4 x3 x4 old v _ I4 r3 r4 q4) fun new s5 ⟨x5, H5, I5, r5, q5⟩ => ?_
  exact thn (hs pins s5 σ H5 x1 x2 x5 ov iv new _ I5 r1 r2 r5 q5) fun _ s6 ⟨H6, I6, q6⟩ => ⟨σ, H6, I6, q6⟩
/-- ints -/
def ipI (f : Int → Int → Int) : TIp := fun x y H Q => ∃ i j, x = .int i ∧ y = .int j ∧ Q (.int (f i j)) H
theorem ip_add : PIp X .Add (ipI fun i j => i + j) := by
  intro pins s σ H x y v u Q I r1 r2 h
  obtain ⟨i, j, e1, e2, q⟩ := h
  subst e1; subst e2
  obtain ⟨t, rfl⟩ := r1
  obtain ⟨t', rfl⟩ := r2
  exact iadd_int ⟨.int _, H, I.tok _, ⟨_, rfl⟩, q⟩
theorem ip_sub : PIp X .Sub (ipI fun i j => i - j) := by
  intro pins s σ H x y v u Q I r1 r2 h
  obtain ⟨i, j, e1, e2, q⟩ := h
  subst e1; subst e2
  obtain ⟨t, rfl⟩ := r1
  obtain ⟨t', rfl⟩ := r2
  exact isub_int ⟨.int _, H, I.tok _, ⟨_, rfl⟩, q⟩
end

/-! ### while -/
section
variable {X : Cx} {pos : Pos}
/-- the invariant W with its measure -/
def tWhile (c : TT) (tb : TS) : TS := fun D σ H => ∃ W : Nat → St → Hp → Prop, (∃ m, W m σ H) ∧ ∀ m σ H, W m σ H →
  c σ H fun b H1 => if b = true then ∃ N : St → Hp → Prop, (∀ σ' H', N σ' H' → ∃ m', m' < m ∧ W m' σ' H') ∧ tb { D with nx := N, ct := N, bk := D.nx } σ H1 else D.nx σ H1
theorem ps_while {c : Expr} {body : List Stmt} {tc : TT} {tb : TS} (hp : PassesOwn (model X.prog X.w) X.A X.env X.xe) (hc : PT X c tc) (hb : PSs X body tb) : PS X (.While c body [] pos) (tWhile tc tb) := by
  intro pins s σ H D I h
  obtain ⟨W, ⟨m0, w0⟩, turn⟩ := h
  refine wpAny_While (codeAny_whileLoop (fun n s' => ∃ σ' H', Inv X pins σ' H' s' ∧ W n σ' H') ?_ m0 ⟨σ, H, I, w0⟩)
  rintro n s1 ⟨σ1, H1, I1, w1⟩
  refine wpAny_passesOwn hp (thn (hc pins s1 σ1 H1 _ I1 (turn n σ1 H1 w1)) fun b s2 ⟨H2, I2, q2⟩ => ?_)
  cases b with
  | true =>
    obtain ⟨N, hN, q2⟩ := q2
    rw [if_pos rfl]
    refine wpAny_passesOwn hp (thn (hb pins s2 σ1 H2 _ I2 q2) fun f s3 q3 => ?_)
    cases f with
    | next =>
      obtain ⟨σ3, H3, I3, n3⟩ := q3
      obtain ⟨m', hm, w3⟩ := hN σ3 H3 n3
      exact ⟨m', hm, σ3, H3, I3, w3⟩
    | cont =>
      obtain ⟨σ3, H3, I3, n3⟩ := q3
      obtain ⟨m', hm, w3⟩ := hN σ3 H3 n3
      exact ⟨m', hm, σ3, H3, I3, w3⟩
    | brk => exact q3
    | ret v => exact q3
  | false =>
    rw [if_neg Bool.false_ne_true]
    exact wpAny_execs_nil ⟨σ1, H2, I2, q2⟩
end

/-! ### what a loop or a comprehension walks -/
/-- at turn i: it yields x (the heap may grow), or it stops -/
structure It where
  go : Nat → Hp → Prop
  yld : Nat → Hp → V → Hp → Prop
  stop : Nat → Hp → Prop
/-- the iterator's own objects may turn: they are not the frame's, not pinned, younger than the entry (or a comprehension's own) -/
def FpOk (X : Cx) (pins : List (Addr × Obj)) (H : Hp) (b : Addr) : Prop :=
  H b = none ∧ b ≠ X.env.locals ∧ b ∉ X.fs ∧ (b ∈ X.ex ∨ X.s₀.heap.objs.size ≤ b) ∧ (∀ x c, X.env.cells.lookup x = some c → c ≠ b) ∧ ∀ p ∈ X.pn ++ pins, p.1 ≠ b
theorem Inv.fpOk {X : Cx} {pins : List (Addr × Obj)} {σ : St} {H H' : Hp} {s : Shared} {b : Addr} (I : Inv X pins σ H s) (hb : s.heap.objs.size ≤ b) (hn : H' b = none) : FpOk X pins H' b := by
  refine ⟨hn, Nat.ne_of_gt (Nat.lt_of_lt_of_le I.lt hb), I.nofs hb, .inr (Nat.le_trans I.sz hb), fun x c e z => ?_, fun p hp z => ?_⟩
  · obtain ⟨v, q⟩ := I.cell x c e
    exact absurd (Nat.lt_of_lt_of_le q.lt (by rw [z]; exact hb)) (Nat.lt_irrefl _)
  · exact absurd (Nat.lt_of_lt_of_le (Heap.lt_size (I.pin p hp).1) (by rw [z]; exact hb)) (Nat.lt_irrefl _)
structure Turn (P : Program) (w : World) (K : PySem.W.Frag) (tg : Expr) (J : It) (fp : List Addr) (it : Addr) (tn : Nat → Heap → Prop) : Prop where
  mem : it ∈ fp
  obj : ∀ i h, tn i h → ∀ b ∈ fp, ∃ o, h.get? b = some o ∧ ∀ v, o.data ≠ .cell v
  keep : ∀ i h h', tn i h → (∀ b ∈ fp, ∀ o, h.get? b = some o → h'.get? b = some o) → tn i h'
  item : ∀ (X : Cx), X.prog = P → X.w = w → X.K = K → X.calm = true → ∀ (i : Nat) (pins : List (Addr × Obj)) (s : Shared) (σ : St) (H : Hp) (E : Value → Shared → Prop), Inv X pins σ H s → (∀ b ∈ fp, FpOk X pins H b) → tn i s.heap → J.go i H →
    wpAny (model P w) X.A (pyNext (.ref it)) (fun r s1 => ∃ u, r = some u ∧
      wpAny (model P w) X.A (letOwnedTupleGo tg (.ref it) u) (fun _ s2 => ∃ x H', Inv X pins σ H' s2 ∧ RelV x u ∧ J.yld i H x H' ∧ tn (i + 1) s2.heap ∧ ∀ b ∈ fp, H' b = none) E s1) E s
  done : ∀ (X : Cx), X.prog = P → X.w = w → X.K = K → X.calm = true → ∀ (i : Nat) (pins : List (Addr × Obj)) (s : Shared) (σ : St) (H : Hp) (E : Value → Shared → Prop), Inv X pins σ H s → (∀ b ∈ fp, FpOk X pins H b) → tn i s.heap → J.stop i H →
    wpAny (model P w) X.A (pyNext (.ref it)) (fun r s1 => r = none ∧ Inv X pins σ H s1) E s
  self : ∀ (A : Around) (i : Nat) (s : Shared) (Q : Value → Shared → Prop) (E : Value → Shared → Prop), tn i s.heap → Q (.ref it) s → wpAny (model P w) A (pyIter (.ref it)) Q E s
abbrev TI := St → Hp → (It → Hp → Prop) → Prop
/-- an iterator has come -/
def PIE (X : Cx) (pins : List (Addr × Obj)) (σ : St) (tg : Expr) (R : It → Hp → Prop) (itv : Value) (s2 : Shared) : Prop :=
  ∃ (it : Addr) (fp : List Addr) (tn : Nat → Heap → Prop) (J : It) (H' : Hp), itv = .ref it ∧ Inv X pins σ H' s2 ∧ Turn X.prog X.w X.K tg J fp it tn ∧ tn 0 s2.heap ∧ (∀ b ∈ fp, FpOk X pins H' b) ∧ R J H'
def PI (X : Cx) (tg iter : Expr) (wi : TI) : Prop :=
  ∀ (pins : List (Addr × Obj)) (s : Shared) (σ : St) (H : Hp) (R : It → Hp → Prop), Inv X pins σ H s → wi σ H R →
    wpAny (model X.prog X.w) X.A (eval iter X.env) (fun v s1 => wpAny (model X.prog X.w) X.A (pyIter v) (PIE X pins σ tg R) X.xe s1) X.xe s

/-- the step ahead of the store is nothing for an iterator that keeps no tuple -/
theorem go_of {M : Model} {A : Around} {E : Value → Shared → Prop} {s : Shared} {tg : Expr} {it : Addr} {u : Value} {o : Obj} {n : String} {vs : Array Value} {Q : Unit → Shared → Prop} (ho : s.heap.get? it = some o) (hc : o.cls = .type n) (hd : o.data = .fields vs)
    (hn : ["enumerate", "zip", "dict_itemiterator", "dict_reverseitemiterator", "odict_iterator", "itertools.zip_longest", "itertools.pairwise"].contains n = false) (hQ : Q () s) : wpAny M A (letOwnedTupleGo tg (.ref it) u) Q E s := by
  unfold letOwnedTupleGo
  cases tg <;> first
    | exact wpAny_pure hQ
    | (cases u <;> first
        | exact wpAny_pure hQ
        | (refine wpAny_bind (wpAny_load ho ?_)
           rw [hc, hd]
           show wpAny M A (if (["enumerate", "zip", "dict_itemiterator", "dict_reverseitemiterator", "odict_iterator", "itertools.zip_longest", "itertools.pairwise"].contains n && vs[0]? == some (rawInt _)) = true then _ else _) Q E s
           rw [if_neg (by intro h; rw [hn, Bool.false_and] at h; cases h)]
           exact wpAny_pure hQ))

/-- the list at a, as it stands at each turn (a loop may append to it) -/
def Itl (K : PySem.W.Frag) (a : Addr) : It :=
  ⟨fun i H => ∃ xs x, SqL K H a xs ∧ xs[i]? = some x, fun i H x H' => H' = H ∧ ∀ xs, SqL K H a xs → xs[i]? = some x, fun i H => ∃ xs, SqL K H a xs ∧ xs.length ≤ i⟩
def Itt (K : PySem.W.Frag) (a : Addr) : It :=
  ⟨fun i H => ∃ xs x, SqT K H a xs ∧ xs[i]? = some x, fun i H x H' => H' = H ∧ ∀ xs, SqT K H a xs → xs[i]? = some x, fun i H => ∃ xs, SqT K H a xs ∧ xs.length ≤ i⟩
/-- lo, lo + 1, .. (n of them) -/
def Itr (lo : Int) (n : Nat) : It := ⟨fun i _ => i < n, fun i H x H' => H' = H ∧ x = .int (lo + i), fun i _ => n ≤ i⟩
theorem turn_list {P : Program} {w : World} {K : PySem.W.Frag} {tg : Expr} (a it : Addr) : Turn P w K tg (Itl K a) [it] it (fun i h => h.IsListIter it a i) where
  mem := by simp
  obj := fun i h st b hb => by
    have e : b = it := by simpa using hb
    subst e
    obtain ⟨o, e, c, d⟩ := st
    exact ⟨o, e, fun v z => by rw [d] at z; cases z⟩
  keep := fun i h h' st k => st.at fun o e => k it (by simp) o e
  item := by
    intro X hP hw hK hc i pins s σ H E I hf st hg
    subst hP hw hK
    obtain ⟨xs, x, hq, hx⟩ := hg
    obtain ⟨its, rv, p, hz⟩ := I.list hq
    obtain ⟨u, hu, ru⟩ := rv.get hx
    obtain ⟨f0, f1, f2, f3, f4, f5⟩ := hf it (by simp)
    refine wpAny_pyNext_list_item st p.isList (x := u) (by simpa using hu) fun h' st' sb => ?_
    have I1 : Inv X pins σ H { s with heap := h' } := I.turned (t' := s.toks) (fun b o hb e => (sb.2 b hb).trans e) f0 f1 f3 f4 f5
    obtain ⟨o, e, c, d⟩ := id st'
    exact ⟨u, rfl, go_of (s := { s with heap := h' }) e c d (by decide) ⟨x, H, I1, ru, ⟨rfl, fun ys hy => by rw [I.list_inj hy hq]; exact hx⟩, st', fun b hb => (hf b hb).1⟩⟩
  done := by
    intro X hP hw hK hc i pins s σ H E I hf st hg
    subst hP hw hK
    obtain ⟨xs, hq, hx⟩ := hg
    obtain ⟨its, rv, p, hz⟩ := I.list hq
    obtain ⟨f0, f1, f2, f3, f4, f5⟩ := hf it (by simp)
    have hl := rv.length
    exact wpAny_pyNext_list_end (I.ok.hd hc) st p.isList (by simp; omega) fun h' eb => ⟨rfl, I.turned (t' := s.toks) (fun b o hb e => eb b o hb e) f0 f1 f3 f4 f5⟩
  self := fun _ _ _ _ _ st h => wpAny_pyIter_listiter st h
theorem turn_tuple {P : Program} {w : World} {K : PySem.W.Frag} {tg : Expr} (a it : Addr) : Turn P w K tg (Itt K a) [it] it (fun i h => h.IsTupleIter it a i) where
  mem := by simp
  obj := fun i h st b hb => by
    have e : b = it := by simpa using hb
    subst e
    obtain ⟨o, e, c, d⟩ := st
    exact ⟨o, e, fun v z => by rw [d] at z; cases z⟩
  keep := fun i h h' st k => st.at fun o e => k it (by simp) o e
  item := by
    intro X hP hw hK hc i pins s σ H E I hf st hg
    subst hP hw hK
    obtain ⟨xs, x, hq, hx⟩ := hg
    obtain ⟨its, rv, p, hz⟩ := I.tuple hq
    obtain ⟨u, hu, ru⟩ := rv.get hx
    obtain ⟨f0, f1, f2, f3, f4, f5⟩ := hf it (by simp)
    refine wpAny_pyNext_tuple_item st (show s.heap.IsTuple a its.toArray from p) (x := u) (by simpa using hu) fun h' st' sb => ?_
    have I1 : Inv X pins σ H { s with heap := h' } := I.turned (t' := s.toks) (fun b o hb e => (sb.2 b hb).trans e) f0 f1 f3 f4 f5
    obtain ⟨o, e, c, d⟩ := id st'
    exact ⟨u, rfl, go_of (s := { s with heap := h' }) e c d (by decide) ⟨x, H, I1, ru, ⟨rfl, fun ys hy => by rw [I.tuple_inj hy hq]; exact hx⟩, st', fun b hb => (hf b hb).1⟩⟩
  done := by
    intro X hP hw hK hc i pins s σ H E I hf st hg
    subst hP hw hK
    obtain ⟨xs, hq, hx⟩ := hg
    obtain ⟨its, rv, p, hz⟩ := I.tuple hq
    obtain ⟨f0, f1, f2, f3, f4, f5⟩ := hf it (by simp)
    have hl := rv.length
    exact wpAny_pyNext_tuple_end (I.ok.hd hc) st (show s.heap.IsTuple a its.toArray from p) (by simp; omega) fun h' eb => ⟨rfl, I.turned (t' := s.toks) (fun b o hb e => eb b o hb e) f0 f1 f3 f4 f5⟩
  self := fun _ _ _ _ _ st h => wpAny_pyIter_tupleiter st h
theorem turn_range {P : Program} {w : World} {K : PySem.W.Frag} {tg : Expr} (it : Addr) (lo : Int) (n : Nat) : Turn P w K tg (Itr lo n) [it] it (fun i h => IsRangeIter h it (lo + (i : Nat) * 1) ((n : Int) - (i : Nat)) 1) where
  mem := by simp
  obj := fun i h st b hb => by
    have e : b = it := by simpa using hb
    subst e
    exact ⟨_, st, fun v z => by
      have z' : Data.fields _ = Data.cell v := z
      cases z'⟩
  keep := fun i h h' st k => k it (by simp) _ st
  item := by
    intro X hP hw hK hc i pins s σ H E I hf st hg
    subst hP hw hK
    obtain ⟨f0, f1, f2, f3, f4, f5⟩ := hf it (by simp)
    have W := Walks.range (prog := X.prog) (w := X.w) (I.ok.hd hc) it lo 1 n
    refine W.item i s _ _ hg st fun v h' tk hv st' kk => ?_
    obtain ⟨t, rfl⟩ := hv
    have I1 : Inv X pins σ H { s with heap := h', toks := tk } := I.turned (fun b o hb e => kk b o (by simpa using hb) e) f0 f1 f3 f4 f5
    refine ⟨_, rfl, go_of (s := { s with heap := h', toks := tk }) (n := "range_iterator") st' rfl rfl (by decide) ⟨.int (lo + i), H, I1, ⟨t, ?_⟩, ⟨rfl, rfl⟩, st', fun b hb => (hf b hb).1⟩⟩
    rw [Int.mul_one]
  done := by
    intro X hP hw hK hc i pins s σ H E I hf st hg
    subst hP hw hK
    obtain ⟨f0, f1, f2, f3, f4, f5⟩ := hf it (by simp)
    exact wpAny_pyNext_range_end (I.ok.hd hc) st (by have : n ≤ i := hg; omega) fun h' eb => ⟨rfl, I.turned (t' := s.toks) (fun b o hb e => eb b o hb e) f0 f1 f3 f4 f5⟩
  self := fun _ _ _ _ _ st h => wpAny_pyIter_rangeiter st h
end L2

namespace L2
open PySem PySem.Spec PyProof.Rows
section
variable {X : Cx} {tg : Expr}
def iList (K : PySem.W.Frag) (tl : TE) : TI := fun σ H R => tl σ H fun x H1 => ∃ a, x = .ref a ∧ (∃ xs, SqL K H1 a xs) ∧ R (Itl K a) H1
def iTup (K : PySem.W.Frag) (tl : TE) : TI := fun σ H R => tl σ H fun x H1 => ∃ a, x = .ref a ∧ (∃ xs, SqT K H1 a xs) ∧ R (Itt K a) H1
theorem pi_list {l : Expr} {tl : TE} (hl : PE X l tl) : PI X tg l (iList X.K tl) := by
  intro pins s σ H R I h
  refine thn (hl pins s σ H _ I h) fun v s1 ⟨x, H1, I1, r1, q1⟩ => ?_
  obtain ⟨a, e, ⟨xs, hq⟩, q⟩ := q1
  subst e
  cases r1
  obtain ⟨its, rv, p, hz⟩ := I1.list hq
  refine wpAny_pyIter_list p.isList ?_
  refine ⟨s1.heap.objs.size, [s1.heap.objs.size], _, _, H1, rfl, I1.kept (t' := s1.toks) fun b o e => Heap.get?_push_of_some _ e, turn_list a _, ⟨_, Heap.get?_push_size _ rfl, rfl, rfl⟩, fun b hb => ?_, q⟩
  have e : b = s1.heap.objs.size := by simpa using hb
  subst e
  exact I1.fpOk (Nat.le_refl _) (I1.hok.fresh (Nat.le_refl _))
theorem pi_tup {l : Expr} {tl : TE} (hl : PE X l tl) : PI X tg l (iTup X.K tl) := by
  intro pins s σ H R I h
  refine thn (hl pins s σ H _ I h) fun v s1 ⟨x, H1, I1, r1, q1⟩ => ?_
  obtain ⟨a, e, ⟨xs, hq⟩, q⟩ := q1
  subst e
  cases r1
  obtain ⟨its, rv, p, hz⟩ := I1.tuple hq
  refine wpAny_pyIter_tuple (show s1.heap.IsTuple a its.toArray from p) ?_
  refine ⟨s1.heap.objs.size, [s1.heap.objs.size], _, _, H1, rfl, I1.kept (t' := s1.toks) fun b o e => Heap.get?_push_of_some _ e, turn_tuple a _, ⟨_, Heap.get?_push_size _ rfl, rfl, rfl⟩, fun b hb => ?_, q⟩
  have e : b = s1.heap.objs.size := by simpa using hb
  subst e
  exact I1.fpOk (Nat.le_refl _) (I1.hok.fresh (Nat.le_refl _))
/-- a range object just made, walked -/
theorem range_it {pins : List (Addr × Obj)} {σ : St} {H : Hp} {s : Shared} {R : It → Hp → Prop} {E : Value → Shared → Prop} {lo hi : Int} {t u v : Tok} {tk : Nat} (I : Inv X pins σ H s) (h1 : -(2 ^ 62) ≤ lo) (h2 : lo < 2 ^ 62) (h3 : -(2 ^ 62) ≤ hi) (h4 : hi < 2 ^ 62)
    (q : R (Itr lo (hi - lo).toNat) H) : wpAny (model X.prog X.w) X.A (pyIter (.ref s.heap.objs.size)) (PIE X pins σ tg R) E { s with heap := s.heap.push { cls := .type "range", data := .fields #[.int lo t, .int hi u, .int 1 v] }, toks := tk } := by
  refine wpAny_pyIter_range (IsRange.new ..) (small_one h1 h2 h3 h4) ?_
  have I1 : Inv X pins σ H { s with heap := s.heap.push { cls := .type "range", data := .fields #[.int lo t, .int hi u, .int 1 v] }, toks := tk } := I.kept fun b o e => Heap.get?_push_of_some _ e
  refine ⟨(s.heap.push { cls := .type "range", data := .fields #[.int lo t, .int hi u, .int 1 v] }).objs.size, [(s.heap.push { cls := .type "range", data := .fields #[.int lo t, .int hi u, .int 1 v] }).objs.size], _, _, H, rfl,
    I1.kept (t' := tk) fun b o e => Heap.get?_push_of_some _ e, turn_range _ lo (hi - lo).toNat, ?_, fun b hb => ?_, q⟩
  · have e1 : lo + ((0 : Nat) : Int) * 1 = lo := by simp
    have e2 : (((hi - lo).toNat : Nat) : Int) - ((0 : Nat) : Int) = Builtin.Range.rangeSize lo hi 1 := by rw [rangeSize_one]; split <;> omega
    show IsRangeIter _ _ (lo + ((0 : Nat) : Int) * 1) ((((hi - lo).toNat : Nat) : Int) - ((0 : Nat) : Int)) 1
    rw [e1, e2]
    exact Heap.get?_push_size _ rfl
  · have e : b = (s.heap.push { cls := .type "range", data := .fields #[.int lo t, .int hi u, .int 1 v] }).objs.size := by simpa using hb
    subst e
    exact I1.fpOk (Nat.le_refl _) (I1.hok.fresh (Nat.le_refl _))
def iRng1 (ta : TA) : TI := fun σ H R => ta σ H fun vs H1 => ∃ j : Int, vs = [.int j] ∧ -(2 ^ 62) ≤ j ∧ j < 2 ^ 62 ∧ R (Itr 0 j.toNat) H1
def iRng2 (ta : TA) : TI := fun σ H R => ta σ H fun vs H1 => ∃ i j : Int, vs = [.int i, .int j] ∧ (-(2 ^ 62) ≤ i ∧ i < 2 ^ 62 ∧ -(2 ^ 62) ≤ j ∧ j < 2 ^ 62) ∧ R (Itr i (j - i).toNat) H1
theorem pi_range1 {a : Expr} {ta : TA} {p pos : Pos} (hg : Gl X "range") (hm : X.mg "range" = none) (ha : PA X [a] ta) (hs : starEach [a] X.env = [(false, eval a X.env)] := by rfl) : PI X tg (.Call (.Name "range" p) [a] [] pos) (iRng1 ta) := by
  intro pins s σ H R I h
  refine Call_ (ld_blt I hg hm boot_range (PyProof.Rows.callWith_type1 (thn (ha pos pins s σ H _ I h) fun us s1 ⟨vs, H1, I1, r1, q1⟩ => ?_) hs rfl))
  obtain ⟨j, e, q1, q2, q⟩ := q1
  subst e
  cases r1 with
  | cons r rr =>
    cases rr
    obtain ⟨t, rfl⟩ := r
    exact call_range_1 (range_it I1 (by omega) (by omega) q1 q2 (by simpa using q))
theorem pi_range2 {a b : Expr} {ta : TA} {p pos : Pos} (hg : Gl X "range") (hm : X.mg "range" = none) (ha : PA X [a, b] ta) (hs : starEach [a, b] X.env = [(false, eval a X.env), (false, eval b X.env)] := by rfl) (hs2 : starEach [b] X.env = [(false, eval b X.env)] := by rfl) :
    PI X tg (.Call (.Name "range" p) [a, b] [] pos) (iRng2 ta) := by
  intro pins s σ H R I h
  refine Call_ (ld_blt I hg hm boot_range (PyProof.Rows.callWith_type1 (thn (ha pos pins s σ H _ I h) fun us s1 ⟨vs, H1, I1, r1, q1⟩ => ?_) (by rw [hs, hs2]) (by rw [hs2]; rfl)))
  obtain ⟨i, j, e, ⟨q1, q2, q3, q4⟩, q⟩ := q1
  subst e
  cases r1 with
  | cons r rr =>
    cases rr with
    | cons r' rr =>
      cases rr
      obtain ⟨t, rfl⟩ := r
      obtain ⟨t', rfl⟩ := r'
      exact call_range_2 (range_it I1 q1 q2 q3 q4 q)

/-! ### for -/
/-- W: the invariant by the turn and a measure; N: what the body is to reach -/
def tFor (wi : TI) (g : TG) (tb : TS) : TS := fun D σ H => wi σ H fun J H1 => ∃ W : Nat → Nat → St → Hp → Prop, (∃ m, W 0 m σ H1) ∧ ∀ i m σ H, W i m σ H →
  (J.stop i H ∧ D.nx σ H) ∨ (J.go i H ∧ ∃ N : St → Hp → Prop, (∀ σ' H', N σ' H' → ∃ m', m' < m ∧ W (i + 1) m' σ' H') ∧ ∀ x H', J.yld i H x H' → g x σ H' fun σ2 H2 => tb { D with nx := N, ct := N, bk := D.nx } σ2 H2)
/-- the records at fp as they stand -/
def pinsAt (fp : List Addr) (h : Heap) : List (Addr × Obj) := fp.filterMap fun b => (h.get? b).map fun o => (b, o)
theorem mem_pinsAt {fp : List Addr} {h : Heap} {b : Addr} {o : Obj} (hb : b ∈ fp) (e : h.get? b = some o) : (b, o) ∈ pinsAt fp h := List.mem_filterMap.mpr ⟨b, hb, by rw [e]; rfl⟩
theorem of_pinsAt {fp : List Addr} {h : Heap} {p : Addr × Obj} (hp : p ∈ pinsAt fp h) : p.1 ∈ fp ∧ h.get? p.1 = some p.2 := by
  obtain ⟨b, hb, e⟩ := List.mem_filterMap.mp hp
  cases q : h.get? b with
  | none => rw [q] at e; cases e
  | some o =>
    rw [q] at e
    have e' : (b, o) = p := Option.some.inj e
    subst e'
    exact ⟨hb, q⟩
theorem Inv.pinned {pins : List (Addr × Obj)} {σ : St} {H : Hp} {s : Shared} {fp : List Addr} (I : Inv X pins σ H s) (hf : ∀ b ∈ fp, FpOk X pins H b) (ho : ∀ b ∈ fp, ∃ o, s.heap.get? b = some o ∧ ∀ v, o.data ≠ .cell v) : Inv X (pins ++ pinsAt fp s.heap) σ H s :=
  I.pins_of fun p hp => (List.mem_append.mp hp).elim (fun z => I.pin p (List.mem_append_right _ z)) fun z => by
    obtain ⟨hb, e⟩ := of_pinsAt z
    obtain ⟨f0, f1, f2, _⟩ := hf p.1 hb
    obtain ⟨o, e', d⟩ := ho p.1 hb
    rw [e] at e'; cases e'
    exact ⟨e, f0, f1, f2, d⟩
theorem Inv.unpinned {pins pl : List (Addr × Obj)} {σ : St} {H : Hp} {s : Shared} (I : Inv X (pins ++ pl) σ H s) : Inv X pins σ H s := I.pins_of fun p hp => I.pin p (List.mem_append_right _ (List.mem_append_left _ hp))
theorem ps_for {iter : Expr} {body : List Stmt} {wi : TI} {g : TG} {tb : TS} {pos : Pos} (hp : PassesOwn (model X.prog X.w) X.A X.env X.xe) (hc : X.calm = true) (hi : PI X tg iter wi) (hg : PG X tg g) (hb : PSs X body tb)
    (hs : ∀ x, foldedSetIterable iter X.env x = pure x := by intro _; rfl) : PS X (.For tg iter body [] pos) (tFor wi g tb) := by
  intro pins s σ H D I h
  refine wpAny_For (thn (hi pins s σ H _ I h) fun v s1 h1 => thn h1 fun itv s2 h2 => ?_) hs
  obtain ⟨it, fp, tn, J, H2, e, I2, T, st2, f2, W, ⟨m0, w0⟩, turn⟩ := h2
  subst e
  -- what stays true of the iterator's objects through the loop
  have stat : ∀ {H' : Hp}, (∀ b ∈ fp, H' b = none) → ∀ b ∈ fp, FpOk X pins H' b := fun hn b hb => ⟨hn b hb, (f2 b hb).2⟩
  refine codeAny_forLoop_any (fun n s' => ∃ i σ' H', Inv X pins σ' H' s' ∧ tn i s'.heap ∧ (∀ b ∈ fp, H' b = none) ∧ W i n σ' H') ?_ m0 ⟨0, σ, H2, I2, st2, fun b hb => (f2 b hb).1, w0⟩
  rintro n s3 ⟨i, σ3, H3, I3, st3, fr3, w3⟩
  rcases turn i n σ3 H3 w3 with ⟨stop, qn⟩ | ⟨go, N, hN, step⟩
  · refine wpAny_passesOwn hp (thn (T.done X rfl rfl rfl hc i pins s3 σ3 H3 X.xe I3 (stat fr3) st3 stop) fun r s4 ⟨hr, I4⟩ => ?_)
    subst hr
    exact wpAny_execs_nil ⟨σ3, H3, I4, qn⟩
  · refine wpAny_passesOwn hp (thn (T.item X rfl rfl rfl hc i pins s3 σ3 H3 X.xe I3 (stat fr3) st3 go) fun r s4 ⟨u, hr, h4⟩ => ?_)
    subst hr
    refine wpAny_passesOwn hp (thn h4 fun _ s5 ⟨x, H5, I5, r5, y5, st5, fr5⟩ => ?_)
    have I5' := I5.pinned (stat fr5) (T.obj _ _ st5)
    refine wpAny_passesOwn hp (thn (hg _ s5 σ3 H5 x u _ I5' r5 (step x H5 y5)) fun _ s6 ⟨σ6, H6, I6, q6⟩ => ?_)
    refine wpAny_passesOwn hp (thn (hb _ s6 σ6 H6 _ I6 q6) fun f s7 q7 => ?_)
    have again : ∀ {σ7 : St} {H7 : Hp}, Inv X (pins ++ pinsAt fp s5.heap) σ7 H7 s7 → N σ7 H7 → ∃ m, m < n ∧ ∃ i σ' H', Inv X pins σ' H' s7 ∧ tn i s7.heap ∧ (∀ b ∈ fp, H' b = none) ∧ W i m σ' H' := fun {σ7 H7} I7 n7 => by
      obtain ⟨m', hm, w7⟩ := hN σ7 H7 n7
      refine ⟨m', hm, i + 1, σ7, H7, I7.unpinned, T.keep _ _ _ st5 fun b hb o e => (I7.pin (b, o) (List.mem_append_right _ (List.mem_append_right _ (mem_pinsAt hb e)))).1, fun b hb => ?_, w7⟩
      obtain ⟨o, e, d⟩ := T.obj _ _ st5 b hb
      exact (I7.pin (b, o) (List.mem_append_right _ (List.mem_append_right _ (mem_pinsAt hb e)))).2.1
    cases f with
    | next => obtain ⟨σ7, H7, I7, n7⟩ := q7; exact again I7 n7
    | cont => obtain ⟨σ7, H7, I7, n7⟩ := q7; exact again I7 n7
    | brk => obtain ⟨σ7, H7, I7, q7⟩ := q7; exact ⟨σ7, H7, I7.unpinned, q7⟩
    | ret v => obtain ⟨x7, σ7, H7, I7, r7, q7⟩ := q7; exact ⟨x7, σ7, H7, I7.unpinned, r7, q7⟩
end

/-! ### the forms one uses -/
/-- over a list that the body leaves as it is -/
theorem for_list {K : PySem.W.Frag} {a : Addr} {xs : List V} {g : TG} {tb : TS} {D : Ends} {σ : St} {H : Hp} (Pv : Nat → St → Hp → Prop) (h0 : Pv 0 σ H) (hl : ∀ i σ H, i ≤ xs.length → Pv i σ H → SqL K H a xs)
    (hs : ∀ i x σ H, xs[i]? = some x → Pv i σ H → g x σ H fun σ2 H2 => tb { D with nx := Pv (i + 1), ct := Pv (i + 1), bk := D.nx } σ2 H2) (hd : ∀ σ H, Pv xs.length σ H → D.nx σ H) :
    ∃ W : Nat → Nat → St → Hp → Prop, (∃ m, W 0 m σ H) ∧ ∀ i m σ H, W i m σ H →
      ((Itl K a).stop i H ∧ D.nx σ H) ∨ ((Itl K a).go i H ∧ ∃ N : St → Hp → Prop, (∀ σ' H', N σ' H' → ∃ m', m' < m ∧ W (i + 1) m' σ' H') ∧ ∀ x H', (Itl K a).yld i H x H' → g x σ H' fun σ2 H2 => tb { D with nx := N, ct := N, bk := D.nx } σ2 H2) := by
  refine ⟨fun i m σ H => m = xs.length - i ∧ i ≤ xs.length ∧ Pv i σ H, ⟨xs.length, by simp, Nat.zero_le _, h0⟩, ?_⟩
  rintro i m σ H ⟨rfl, hi, p⟩
  have q := hl i σ H hi p
  by_cases hlt : i < xs.length
  · refine .inr ⟨⟨xs, xs[i], q, by simp [hlt]⟩, Pv (i + 1), fun σ' H' p' => ⟨xs.length - (i + 1), by omega, rfl, hlt, p'⟩, fun x H' y => ?_⟩
    obtain ⟨e, y⟩ := y
    subst e
    exact hs i x σ _ (y xs q) p
  · have e : i = xs.length := by omega
    subst e
    exact .inl ⟨⟨xs, q, Nat.le_refl _⟩, hd σ H p⟩
theorem for_tup {K : PySem.W.Frag} {a : Addr} {xs : List V} {g : TG} {tb : TS} {D : Ends} {σ : St} {H : Hp} (Pv : Nat → St → Hp → Prop) (h0 : Pv 0 σ H) (hl : ∀ i σ H, i ≤ xs.length → Pv i σ H → SqT K H a xs)
    (hs : ∀ i x σ H, xs[i]? = some x → Pv i σ H → g x σ H fun σ2 H2 => tb { D with nx := Pv (i + 1), ct := Pv (i + 1), bk := D.nx } σ2 H2) (hd : ∀ σ H, Pv xs.length σ H → D.nx σ H) :
    ∃ W : Nat → Nat → St → Hp → Prop, (∃ m, W 0 m σ H) ∧ ∀ i m σ H, W i m σ H →
      ((Itt K a).stop i H ∧ D.nx σ H) ∨ ((Itt K a).go i H ∧ ∃ N : St → Hp → Prop, (∀ σ' H', N σ' H' → ∃ m', m' < m ∧ W (i + 1) m' σ' H') ∧ ∀ x H', (Itt K a).yld i H x H' → g x σ H' fun σ2 H2 => tb { D with nx := N, ct := N, bk := D.nx } σ2 H2) := by
  refine ⟨fun i m σ H => m = xs.length - i ∧ i ≤ xs.length ∧ Pv i σ H, ⟨xs.length, by simp, Nat.zero_le _, h0⟩, ?_⟩
  rintro i m σ H ⟨rfl, hi, p⟩
  have q := hl i σ H hi p
  by_cases hlt : i < xs.length
  · refine .inr ⟨⟨xs, xs[i], q, by simp [hlt]⟩, Pv (i + 1), fun σ' H' p' => ⟨xs.length - (i + 1), by omega, rfl, hlt, p'⟩, fun x H' y => ?_⟩
    obtain ⟨e, y⟩ := y
    subst e
    exact hs i x σ _ (y xs q) p
  · have e : i = xs.length := by omega
    subst e
    exact .inl ⟨⟨xs, q, Nat.le_refl _⟩, hd σ H p⟩
theorem for_range {lo : Int} {n : Nat} {g : TG} {tb : TS} {D : Ends} {σ : St} {H : Hp} (Pv : Nat → St → Hp → Prop) (h0 : Pv 0 σ H)
    (hs : ∀ i σ H, i < n → Pv i σ H → g (.int (lo + i)) σ H fun σ2 H2 => tb { D with nx := Pv (i + 1), ct := Pv (i + 1), bk := D.nx } σ2 H2) (hd : ∀ σ H, Pv n σ H → D.nx σ H) :
    ∃ W : Nat → Nat → St → Hp → Prop, (∃ m, W 0 m σ H) ∧ ∀ i m σ H, W i m σ H →
      ((Itr lo n).stop i H ∧ D.nx σ H) ∨ ((Itr lo n).go i H ∧ ∃ N : St → Hp → Prop, (∀ σ' H', N σ' H' → ∃ m', m' < m ∧ W (i + 1) m' σ' H') ∧ ∀ x H', (Itr lo n).yld i H x H' → g x σ H' fun σ2 H2 => tb { D with nx := N, ct := N, bk := D.nx } σ2 H2) := by
  refine ⟨fun i m σ H => m = n - i ∧ i ≤ n ∧ Pv i σ H, ⟨n, by simp, Nat.zero_le _, h0⟩, ?_⟩
  rintro i m σ H ⟨rfl, hi, p⟩
  by_cases hlt : i < n
  · refine .inr ⟨hlt, Pv (i + 1), fun σ' H' p' => ⟨n - (i + 1), by omega, rfl, hlt, p'⟩, fun x H' y => ?_⟩
    obtain ⟨e, y⟩ := y
    subst e y
    exact hs i σ _ hlt p
  · have e : i = n := by omega
    subst e
    exact .inl ⟨Nat.le_refl _, hd σ H p⟩
/-- while, by a word and a measure of the state -/
theorem while_by {c : TT} {tb : TS} {D : Ends} {σ : St} {H : Hp} (Pv : St → Hp → Prop) (μ : St → Hp → Nat) (h0 : Pv σ H)
    (hs : ∀ σ H, Pv σ H → c σ H fun b H1 => if b = true then tb { D with nx := fun σ' H' => Pv σ' H' ∧ μ σ' H' < μ σ H, ct := fun σ' H' => Pv σ' H' ∧ μ σ' H' < μ σ H, bk := D.nx } σ H1 else D.nx σ H1)
    (mono : ∀ σ H Q Q', (∀ b H1, Q b H1 → Q' b H1) → c σ H Q → c σ H Q') : tWhile c tb D σ H := by
  refine ⟨fun m σ H => m = μ σ H ∧ Pv σ H, ⟨_, rfl, h0⟩, ?_⟩
  rintro m σ H ⟨rfl, p⟩
  refine mono σ H _ _ (fun b H1 q => ?_) (hs σ H p)
  cases b with
  | true => exact ⟨_, fun σ' H' ⟨p', l⟩ => ⟨_, l, rfl, p'⟩, q⟩
  | false => exact q
end L2

namespace L2
open PySem PySem.Spec PyProof.Rows

abbrev R2 := V → V → Hp → VK → Prop
/-- a two-place operation on values: f is binaryOp op, inplaceOp op or compareOp op -/
def OpR (X : Cx) (f : Value → Value → Sem Value) (r : R2) : Prop :=
  ∀ (pins : List (Addr × Obj)) (s : Shared) (σ : St) (H : Hp) (x y : V) (v u : Value) (Q : VK), Inv X pins σ H s → RelV x v → RelV y u → r x y H Q →
    wpAny (model X.prog X.w) X.A (f v u) (EP X pins σ Q) X.xe s
/-- a one-place operation -/
def UnR (X : Cx) (f : Value → Sem Value) (r : V → Hp → VK → Prop) : Prop :=
  ∀ (pins : List (Addr × Obj)) (s : Shared) (σ : St) (H : Hp) (x : V) (v : Value) (Q : VK), Inv X pins σ H s → RelV x v → r x H Q →
    wpAny (model X.prog X.w) X.A (f v) (EP X pins σ Q) X.xe s
/-- a call of a value that is known (a builtin, a type) with values -/
def CallR (X : Cx) (f : Value) (r : List V → Hp → VK → Prop) : Prop :=
  ∀ (pins : List (Addr × Obj)) (s : Shared) (σ : St) (H : Hp) (xs : List V) (us : List Value) (Q : VK), Inv X pins σ H s → Vals xs us → r xs H Q →
    wpAny (model X.prog X.w) X.A (call f us) (EP X pins σ Q) X.xe s
/-- a value's truth -/
def TruR (X : Cx) (r : V → Hp → (Bool → Hp → Prop) → Prop) : Prop :=
  ∀ (pins : List (Addr × Obj)) (s : Shared) (σ : St) (H : Hp) (x : V) (v : Value) (Q : Bool → Hp → Prop), Inv X pins σ H s → RelV x v → r x H Q →
    wpAny (model X.prog X.w) X.A (truthy v) (TP X pins σ Q) X.xe s

def tOp (r : R2) (ta tb : TE) : TE := fun σ H Q => ta σ H fun x H1 => tb σ H1 fun y H2 => r x y H2 Q
def tUn (r : V → Hp → VK → Prop) (ta : TE) : TE := fun σ H Q => ta σ H fun x H1 => r x H1 Q
/-- ints in, under C, and a value out -/
def rI (C : Int → Int → Prop) (g : Int → Int → V) : R2 := fun x y H Q => ∃ i j, x = .int i ∧ y = .int j ∧ C i j ∧ Q (g i j) H
def rI0 (g : Int → Int → V) : R2 := fun x y H Q => ∃ i j, x = .int i ∧ y = .int j ∧ Q (g i j) H
def rU (g : Int → V) : V → Hp → VK → Prop := fun x H Q => ∃ i, x = .int i ∧ Q (g i) H

section
variable {X : Cx} {a b c : Expr} {ta tb tc : TE} {pos : Pos}

theorem binT (ha : PE X a ta) (hb : PE X b tb) {pins : List (Addr × Obj)} {s : Shared} {σ : St} {H : Hp} {R : V → V → Hp → Prop} (I : Inv X pins σ H s)
    (h : ta σ H fun x H1 => tb σ H1 fun y H2 => R x y H2) {Q : Value → Shared → Prop} {f : Value → Value → Sem Value}
    (hf : ∀ v u s2 x y H2, Inv X pins σ H2 s2 → RelV x v → RelV y u → R x y H2 → wpAny (model X.prog X.w) X.A (f v u) Q X.xe s2) :
    wpAny (model X.prog X.w) X.A (eval a X.env) (fun v s₁ => wpAny (model X.prog X.w) X.A (eval b X.env) (fun u s₂ => wpAny (model X.prog X.w) X.A (f v u) Q X.xe s₂) X.xe s₁) X.xe s := by
  refine thn (ha pins s σ H _ I h) fun v s1 ⟨x, H1, I1, r1, q1⟩ => ?_
  refine thn (hb pins s1 σ H1 _ I1 q1) fun u s2 ⟨y, H2, I2, r2, q2⟩ => ?_
  exact hf v u s2 x y H2 I2 r1 r2 q2

theorem pe_op {op : Operator} {r : R2} (ho : OpR X (binaryOp op) r) (ha : PE X a ta) (hb : PE X b tb) : PE X (.BinOp a op b pos) (tOp r ta tb) := by
  intro pins s σ H Q I h
  exact wpAny_BinOp (binT ha hb I h fun v u s2 x y H2 I2 rx ry q => ho pins s2 σ H2 x y v u Q I2 rx ry q)
theorem pe_un {op : UnaryOp} {r : V → Hp → VK → Prop} (ho : UnR X (unaryOp op) r) (ha : PE X a ta) : PE X (.UnaryOp op a pos) (tUn r ta) := by
  intro pins s σ H Q I h
  exact UnaryOp_ (thn (ha pins s σ H _ I h) fun v s1 ⟨x, H1, I1, r1, q1⟩ => ho pins s1 σ H1 x v Q I1 r1 q1)
/-- a op= e at a name: the name's slot i -/
theorem augR {op : Operator} {r : R2} (ho : OpR X (inplaceOp op) r) {pins : List (Addr × Obj)} {s : Shared} {σ : St} {H : Hp} {x y : V} {v u : Value} {Q : VK} (I : Inv X pins σ H s)
    (rx : RelV x v) (ry : RelV y u) (q : r x y H Q) : wpAny (model X.prog X.w) X.A (inplaceOp op v u) (EP X pins σ Q) X.xe s := ho pins s σ H x y v u Q I rx ry q

/-! ### ints -/
theorem opI {f : Value → Value → Sem Value} {C : Int → Int → Prop} {g : Int → Int → Int}
    (rule : ∀ (i j : Int) (t u : Tok) (s : Shared) (Q : Value → Shared → Prop) (E : Value → Shared → Prop), C i j → Q (.int (g i j) s.toks) { s with toks := s.toks + 1 } → wpAny (model X.prog X.w) X.A (f (.int i t) (.int j u)) Q E s) :
    OpR X f (rI C fun i j => .int (g i j)) := by
  intro pins s σ H x y v u Q I rx ry h
  obtain ⟨i, j, rfl, rfl, hc, q⟩ := h
  obtain ⟨t, rfl⟩ := rx
  obtain ⟨t', rfl⟩ := ry
  exact rule i j t t' s _ _ hc ⟨.int (g i j), H, I.tok _, ⟨_, rfl⟩, q⟩
theorem opI0 {f : Value → Value → Sem Value} {g : Int → Int → Int}
    (rule : ∀ (i j : Int) (t u : Tok) (s : Shared) (Q : Value → Shared → Prop) (E : Value → Shared → Prop), Q (.int (g i j) s.toks) { s with toks := s.toks + 1 } → wpAny (model X.prog X.w) X.A (f (.int i t) (.int j u)) Q E s) :
    OpR X f (rI0 fun i j => .int (g i j)) := by
  intro pins s σ H x y v u Q I rx ry h
  obtain ⟨i, j, rfl, rfl, q⟩ := h
  obtain ⟨t, rfl⟩ := rx
  obtain ⟨t', rfl⟩ := ry
  exact rule i j t t' s _ _ ⟨.int (g i j), H, I.tok _, ⟨_, rfl⟩, q⟩
theorem opB0 {f : Value → Value → Sem Value} {g : Int → Int → Bool}
    (rule : ∀ (i j : Int) (t u : Tok) (s : Shared) (Q : Value → Shared → Prop) (E : Value → Shared → Prop), Q (.bool (g i j)) s → wpAny (model X.prog X.w) X.A (f (.int i t) (.int j u)) Q E s) :
    OpR X f (rI0 fun i j => .bl (g i j)) := by
  intro pins s σ H x y v u Q I rx ry h
  obtain ⟨i, j, rfl, rfl, q⟩ := h
  obtain ⟨t, rfl⟩ := rx
  obtain ⟨t', rfl⟩ := ry
  exact rule i j t t' s _ _ ⟨.bl (g i j), H, I, rfl, q⟩

def CDiv (i j : Int) : Prop := 0 < j ∧ j < 1073741824
def CDivN (i j : Int) : Prop := j ≠ 0 ∧ j.natAbs < 1073741824
def CPow (i j : Int) : Prop := 0 ≤ j ∧ j ≤ 1000000 ∧ i.natAbs < 2 ^ 64
def CMul (i j : Int) : Prop := (-(2 ^ 64) < i ∧ i < 2 ^ 64) ∨ (-(2 ^ 64) < j ∧ j < 2 ^ 64)
theorem CMul.ok {i j : Int} (h : CMul i j) : IntMulOk i j := by
  rcases h with ⟨h1, h2⟩ | ⟨h1, h2⟩
  · exact .of_left (intBits_le_64 h1 h2)
  · exact .of_right (intBits_le_64 h1 h2)
theorem two_pow_nn (k : Nat) : (0 : Int) ≤ 2 ^ k := by
  rw [two_pow_cast]
  exact Int.natCast_nonneg _

theorem op_add : OpR X (binaryOp .Add) (rI0 fun i j => .int (i + j)) := opI0 fun _ _ _ _ _ _ _ q => add_int q
theorem op_sub : OpR X (binaryOp .Sub) (rI0 fun i j => .int (i - j)) := opI0 fun _ _ _ _ _ _ _ q => sub_int q
theorem op_mul : OpR X (binaryOp .Mult) (rI CMul fun i j => .int (i * j)) := opI fun _ _ _ _ _ _ _ hc q => mul_int q hc.ok
/-- // by a positive divisor -/
theorem op_fdiv : OpR X (binaryOp .FloorDiv) (rI CDiv fun i j => .int (i / j)) := opI fun i j _ _ _ _ _ hc q => by
  have h1 : (0 : Int) < j := hc.1
  have h2 : j < 1073741824 := hc.2
  exact floordiv_int (by omega) (by rw [Int.fdiv_eq_ediv_of_nonneg i (by omega)]; exact q) (.inl (PyProof.noPylong_small (by omega)))
theorem op_fdivN : OpR X (binaryOp .FloorDiv) (rI CDivN fun i j => .int (i.fdiv j)) := opI fun _ _ _ _ _ _ _ hc q => floordiv_int hc.1 q (.inl (PyProof.noPylong_small hc.2))
/-- % by a positive divisor of any size -/
theorem op_mod : OpR X (binaryOp .Mod) (rI (fun _ j => 0 < j) fun i j => .int (i % j)) := opI fun i j _ _ _ _ _ hc q => by
  have h1 : (0 : Int) < j := hc
  exact mod_int' (by omega) (by rw [Int.fmod_eq_emod_of_nonneg i (by omega)]; exact q)
theorem op_modN : OpR X (binaryOp .Mod) (rI (fun _ j => j ≠ 0) fun i j => .int (i.fmod j)) := opI fun _ _ _ _ _ _ _ hc q => mod_int' hc q
theorem op_pow : OpR X (binaryOp .Pow) (rI CPow fun i j => .int (i ^ j.toNat)) := opI fun _ _ _ _ _ _ _ hc q => pow_int_small hc.1 hc.2.1 hc.2.2 q
theorem op_shl : OpR X (binaryOp .LShift) (rI CPow fun i j => .int (i * 2 ^ j.toNat)) := opI fun _ _ _ _ _ _ _ hc q => lshift_int_small hc.1 hc.2.1 hc.2.2 q
theorem op_shr : OpR X (binaryOp .RShift) (rI (fun _ j => 0 ≤ j) fun i j => .int (i / 2 ^ j.toNat)) := opI fun i j _ _ _ _ _ hc q =>
  rshift_int hc (by rw [Int.fdiv_eq_ediv_of_nonneg i (two_pow_nn _)]; exact q)
theorem op_and : OpR X (binaryOp .BitAnd) (rI0 fun i j => .int (Builtin.bitAnd i j)) := opI0 fun _ _ _ _ _ _ _ q => and_int q
theorem op_or : OpR X (binaryOp .BitOr) (rI0 fun i j => .int (Builtin.bitOr i j)) := opI0 fun _ _ _ _ _ _ _ q => or_int q
theorem op_xor : OpR X (binaryOp .BitXor) (rI0 fun i j => .int (Builtin.bitXor i j)) := opI0 fun _ _ _ _ _ _ _ q => xor_int q

theorem iop_add : OpR X (inplaceOp .Add) (rI0 fun i j => .int (i + j)) := opI0 fun _ _ _ _ _ _ _ q => iadd_int q
theorem iop_sub : OpR X (inplaceOp .Sub) (rI0 fun i j => .int (i - j)) := opI0 fun _ _ _ _ _ _ _ q => isub_int q
theorem iop_mul : OpR X (inplaceOp .Mult) (rI CMul fun i j => .int (i * j)) := opI fun _ _ _ _ _ _ _ hc q => imul_int q hc.ok
theorem iop_fdiv : OpR X (inplaceOp .FloorDiv) (rI CDiv fun i j => .int (i / j)) := opI fun i j _ _ _ _ _ hc q => by
  have h1 : (0 : Int) < j := hc.1
  have h2 : j < 1073741824 := hc.2
  exact ifloordiv_int (by omega) (by rw [Int.fdiv_eq_ediv_of_nonneg i (by omega)]; exact q) (.inl (PyProof.noPylong_small (by omega)))
theorem iop_mod : OpR X (inplaceOp .Mod) (rI (fun _ j => 0 < j) fun i j => .int (i % j)) := opI fun i j _ _ _ _ _ hc q => by
  have h1 : (0 : Int) < j := hc
  exact imod_int (by omega) (by rw [Int.fmod_eq_emod_of_nonneg i (by omega)]; exact q)
theorem iop_shl : OpR X (inplaceOp .LShift) (rI CPow fun i j => .int (i * 2 ^ j.toNat)) := opI fun _ _ _ _ _ _ _ hc q => ilshift_int_small hc.1 hc.2.1 hc.2.2 q
theorem iop_shr : OpR X (inplaceOp .RShift) (rI (fun _ j => 0 ≤ j) fun i j => .int (i / 2 ^ j.toNat)) := opI fun i j _ _ _ _ _ hc q =>
  irshift_int hc (by rw [Int.fdiv_eq_ediv_of_nonneg i (two_pow_nn _)]; exact q)
theorem iop_and : OpR X (inplaceOp .BitAnd) (rI0 fun i j => .int (Builtin.bitAnd i j)) := opI0 fun _ _ _ _ _ _ _ q => iand_int q
theorem iop_or : OpR X (inplaceOp .BitOr) (rI0 fun i j => .int (Builtin.bitOr i j)) := opI0 fun _ _ _ _ _ _ _ q => ior_int q
theorem iop_xor : OpR X (inplaceOp .BitXor) (rI0 fun i j => .int (Builtin.bitXor i j)) := opI0 fun _ _ _ _ _ _ _ q => ixor_int q

theorem unI {f : Value → Sem Value} {g : Int → Int}
    (rule : ∀ (i : Int) (t : Tok) (s : Shared) (Q : Value → Shared → Prop) (E : Value → Shared → Prop), Q (.int (g i) s.toks) { s with toks := s.toks + 1 } → wpAny (model X.prog X.w) X.A (f (.int i t)) Q E s) :
    UnR X f (rU fun i => .int (g i)) := by
  intro pins s σ H x v Q I rx h
  obtain ⟨i, rfl, q⟩ := h
  obtain ⟨t, rfl⟩ := rx
  exact rule i t s _ _ ⟨.int (g i), H, I.tok _, ⟨_, rfl⟩, q⟩
theorem un_neg : UnR X (unaryOp .USub) (rU fun i => .int (-i)) := unI fun _ _ _ _ _ q => neg_int q
theorem un_inv : UnR X (unaryOp .Invert) (rU fun i => .int (Builtin.bitNot i)) := unI fun _ _ _ _ _ q => invert_int q

/-! ### bools among ints: n += (a < b) -/
theorem op_add_ib : OpR X (binaryOp .Add) (fun x y H Q => ∃ i k, x = .int i ∧ y = .bl k ∧ Q (.int (i + b2i k)) H) := by
  intro pins s σ H x y v u Q I rx ry h
  obtain ⟨i, k, rfl, rfl, q⟩ := h
  obtain ⟨t, rfl⟩ := rx
  cases ry
  exact add_int_bool ⟨.int (i + b2i k), H, I.tok _, ⟨_, rfl⟩, q⟩
end

/-! ### comparisons -/
/-- the scalars that == tells apart as data does -/
def scal : V → V → Bool
  | .non, .non => true | .non, .int _ => true | .int _, .non => true | .non, .bl _ => true | .bl _, .non => true | .non, .str _ => true | .str _, .non => true
  | .int _, .int _ => true | .bl _, .bl _ => true | .str _, .str _ => true | .byt _, .byt _ => true
  | .int _, .str _ => true | .str _, .int _ => true | .bl _, .str _ => true | .str _, .bl _ => true
  | _, _ => false
def rEq : R2 := fun x y H Q => scal x y = true ∧ Q (.bl (decide (x = y))) H
def rNe : R2 := fun x y H Q => scal x y = true ∧ Q (.bl (!decide (x = y))) H

theorem dec_int {i j : Int} : decide (V.int i = V.int j) = (i == j) := by
  rw [Bool.eq_iff_iff]
  simp
theorem dec_bl {i j : Bool} : decide (V.bl i = V.bl j) = (i == j) := by
  rw [Bool.eq_iff_iff]
  simp
theorem dec_str {i j : Str} : decide (V.str i = V.str j) = (i == j) := by
  rw [Bool.eq_iff_iff]
  simp
theorem dec_byt {i j : Array UInt8} : decide (V.byt i = V.byt j) = (i.toList == j.toList) := by
  rw [Bool.eq_iff_iff]
  cases i
  cases j
  simp

section
variable {X : Cx} {a b c : Expr} {ta tb tc : TE} {pos : Pos}
theorem fin_bl {pins : List (Addr × Obj)} {σ : St} {H : Hp} {s : Shared} {Q : VK} {k k' : Bool} (I : Inv X pins σ H s) (q : Q (.bl k) H) (e : k = k') : EP X pins σ Q (.bool k') s := by
  subst e
  exact ⟨.bl k, H, I, rfl, q⟩
theorem op_eq : OpR X (compareOp .Eq) rEq := by
  intro pins s σ H x y v u Q I rx ry h
  obtain ⟨hs, q⟩ := h
  cases x with
  | non =>
    cases rx
    cases y with
    | non => cases ry; exact PySem.EqNone.eq_none_none (fin_bl I q (by simp))
    | bl j => cases ry; exact PySem.EqNone.eq_none_bool (fin_bl I q (by simp))
    | int j => obtain ⟨t', rfl⟩ := ry; exact PySem.EqNone.eq_none_int (fin_bl I q (by simp))
    | str j => obtain ⟨t', rfl⟩ := ry; exact PySem.EqNone.eq_none_str (fin_bl I q (by simp))
    | _ => exact absurd (show false = true from hs) Bool.false_ne_true
  | bl i =>
    cases rx
    cases y with
    | non => cases ry; exact PySem.EqNone.eq_bool_none (fin_bl I q (by simp))
    | bl j => cases ry; exact eq_bool (fin_bl I q dec_bl)
    | str j => obtain ⟨t', rfl⟩ := ry; exact PySem.EqMixed.eq_bool_str (fin_bl I q (by simp))
    | _ => exact absurd (show false = true from hs) Bool.false_ne_true
  | int i =>
    obtain ⟨t, rfl⟩ := rx
    cases y with
    | non => cases ry; exact PySem.EqNone.eq_int_none (fin_bl I q (by simp))
    | int j => obtain ⟨t', rfl⟩ := ry; exact eq_int (fin_bl I q dec_int)
    | str j => obtain ⟨t', rfl⟩ := ry; exact PySem.EqMixed.eq_int_str (fin_bl I q (by simp))
    | _ => exact absurd (show false = true from hs) Bool.false_ne_true
  | str i =>
    obtain ⟨t, rfl⟩ := rx
    cases y with
    | non => cases ry; exact PySem.EqNone.eq_str_none (fin_bl I q (by simp))
    | bl j => cases ry; exact PySem.EqMixed.eq_str_bool (fin_bl I q (by simp))
    | int j => obtain ⟨t', rfl⟩ := ry; exact PySem.EqMixed.eq_str_int (fin_bl I q (by simp))
    | str j => obtain ⟨t', rfl⟩ := ry; exact eq_str (fin_bl I q dec_str)
    | _ => exact absurd (show false = true from hs) Bool.false_ne_true
  | byt i =>
    obtain ⟨t, rfl⟩ := rx
    cases y with
    | byt j => obtain ⟨t', rfl⟩ := ry; exact PySem.W.eq_bytes (fin_bl I q dec_byt)
    | _ => exact absurd (show false = true from hs) Bool.false_ne_true
  | _ => cases y <;> exact absurd (show false = true from hs) Bool.false_ne_true
theorem op_ne : OpR X (compareOp .NotEq) rNe := by
  intro pins s σ H x y v u Q I rx ry h
  obtain ⟨hs, q⟩ := h
  cases x with
  | non =>
    cases rx
    cases y with
    | non => cases ry; exact PySem.EqNone.ne_none_none (fin_bl I q (by simp))
    | bl j => cases ry; exact PySem.EqNone.ne_none_bool (fin_bl I q (by simp))
    | int j => obtain ⟨t', rfl⟩ := ry; exact PySem.EqNone.ne_none_int (fin_bl I q (by simp))
    | str j => obtain ⟨t', rfl⟩ := ry; exact PySem.EqNone.ne_none_str (fin_bl I q (by simp))
    | _ => exact absurd (show false = true from hs) Bool.false_ne_true
  | bl i =>
    cases rx
    cases y with
    | non => cases ry; exact PySem.EqNone.ne_bool_none (fin_bl I q (by simp))
    | bl j => cases ry; exact ne_bool (fin_bl I q (congrArg not dec_bl))
    | str j => obtain ⟨t', rfl⟩ := ry; exact PySem.EqMixed.ne_bool_str (fin_bl I q (by simp))
    | _ => exact absurd (show false = true from hs) Bool.false_ne_true
  | int i =>
    obtain ⟨t, rfl⟩ := rx
    cases y with
    | non => cases ry; exact PySem.EqNone.ne_int_none (fin_bl I q (by simp))
    | int j => obtain ⟨t', rfl⟩ := ry; exact ne_int (fin_bl I q (congrArg not dec_int))
    | str j => obtain ⟨t', rfl⟩ := ry; exact PySem.EqMixed.ne_int_str (fin_bl I q (by simp))
    | _ => exact absurd (show false = true from hs) Bool.false_ne_true
  | str i =>
    obtain ⟨t, rfl⟩ := rx
    cases y with
    | non => cases ry; exact PySem.EqNone.ne_str_none (fin_bl I q (by simp))
    | bl j => cases ry; exact PySem.EqMixed.ne_str_bool (fin_bl I q (by simp))
    | int j => obtain ⟨t', rfl⟩ := ry; exact PySem.EqMixed.ne_str_int (fin_bl I q (by simp))
    | str j => obtain ⟨t', rfl⟩ := ry; exact ne_str (fin_bl I q (congrArg not dec_str))
    | _ => exact absurd (show false = true from hs) Bool.false_ne_true
  | byt i =>
    obtain ⟨t, rfl⟩ := rx
    cases y with
    | byt j => obtain ⟨t', rfl⟩ := ry; exact PySem.W.ne_bytes (fin_bl I q (congrArg not dec_byt))
    | _ => exact absurd (show false = true from hs) Bool.false_ne_true
  | _ => cases y <;> exact absurd (show false = true from hs) Bool.false_ne_true

theorem op_lt : OpR X (compareOp .Lt) (rI0 fun i j => .bl (decide (i < j))) := opB0 fun _ _ _ _ _ _ _ q => lt_int q
theorem op_le : OpR X (compareOp .LtE) (rI0 fun i j => .bl (decide (i ≤ j))) := opB0 fun _ _ _ _ _ _ _ q => le_int q
theorem op_gt : OpR X (compareOp .Gt) (rI0 fun i j => .bl (decide (j < i))) := opB0 fun _ _ _ _ _ _ _ q => gt_int q
theorem op_ge : OpR X (compareOp .GtE) (rI0 fun i j => .bl (decide (j ≤ i))) := opB0 fun _ _ _ _ _ _ _ q => ge_int q
theorem op_lt_str : OpR X (compareOp .Lt) (fun x y H Q => ∃ i j, x = .str i ∧ y = .str j ∧ Q (.bl (decide (i.cps.toList < j.cps.toList))) H) := by
  intro pins s σ H x y v u Q I rx ry h
  obtain ⟨i, j, rfl, rfl, q⟩ := h
  obtain ⟨t, rfl⟩ := rx
  obtain ⟨t', rfl⟩ := ry
  exact lt_str (fin_bl I q rfl)
/-- the one string within the other -/
theorem op_in_str : OpR X (compareOp .In) (fun x y H Q => ∃ i j, x = .str i ∧ y = .str j ∧ Q (.bl (!(Builtin.Str.occurrences j i 0 j.length 1).isEmpty)) H) := by
  intro pins s σ H x y v u Q I rx ry h
  obtain ⟨i, j, rfl, rfl, q⟩ := h
  obtain ⟨t, rfl⟩ := rx
  obtain ⟨t', rfl⟩ := ry
  exact in_str (fin_bl I q rfl)

/-- is None, is not None: the right side a value none -/
theorem op_isN : OpR X (compareOp .Is) (fun x y H Q => y = .non ∧ Q (.bl (decide (x = .non))) H) := by
  intro pins s σ H x y v u Q I rx ry h
  obtain ⟨rfl, q⟩ := h
  cases ry
  refine is_none_gen (fin_bl I q ?_)
  cases x <;> first
    | (cases rx; rfl)
    | (obtain ⟨t, rfl⟩ := rx; rfl)
theorem op_notN : OpR X (compareOp .IsNot) (fun x y H Q => y = .non ∧ Q (.bl (!decide (x = .non))) H) := by
  intro pins s σ H x y v u Q I rx ry h
  obtain ⟨rfl, q⟩ := h
  cases ry
  refine isnot_none_gen (fin_bl I q ?_)
  cases x <;> first
    | (cases rx; rfl)
    | (obtain ⟨t, rfl⟩ := rx; rfl)

theorem op_notin_str : OpR X (compareOp .NotIn) (fun x y H Q => ∃ i j, x = .str i ∧ y = .str j ∧ Q (.bl (!(!(Builtin.Str.occurrences j i 0 j.length 1).isEmpty))) H) := by
  intro pins s σ H x y v u Q I rx ry h
  obtain ⟨i, j, rfl, rfl, q⟩ := h
  obtain ⟨t, rfl⟩ := rx
  obtain ⟨t', rfl⟩ := ry
  exact notIn_str (fin_bl I q rfl)
/-- is, is not of two objects that are tracked lists or instances -/
def isObj : HO → Bool
  | .lst _ => true
  | .ins _ _ _ => true
  | _ => false
theorem obj_there {pins : List (Addr × Obj)} {s : Shared} {σ : St} {H : Hp} {a : Addr} {o : HO} (I : Inv X pins σ H s) (h : H a = some o) (p : isObj o = true) : ∃ ob, s.heap.get? a = some ob ∧ ob.cls ≠ .type "tuple" := by
  cases o with
  | lst xs =>
    obtain ⟨_, its, n, _, e⟩ : xs.length ≤ sizeLine ∧ ∃ (its : List Value) (n : Nat), Vals xs its ∧ s.heap.get? a = some { cls := .type "list", data := .seq its.toArray n } := I.hok a _ h
    exact ⟨_, e, (by show Value.type "list" ≠ .type "tuple"; decide +kernel)⟩
  | ins C dx fs =>
    have x := I.hok a _ h
    obtain ⟨_, _, _, e, _⟩ := x
    exact ⟨_, e, (by show Value.ref C ≠ .type "tuple"; exact fun z => by cases z)⟩
  | _ => exact absurd (show false = true from p) Bool.false_ne_true
theorem op_is_ref : OpR X (compareOp .Is) (fun x y H Q => ∃ a b oa ob, x = .ref a ∧ y = .ref b ∧ H a = some oa ∧ isObj oa = true ∧ H b = some ob ∧ isObj ob = true ∧ Q (.bl (decide (a = b))) H) := by
  intro pins s σ H x y v u Q I rx ry h
  obtain ⟨a, b, oa, ob, rfl, rfl, ha, pa, hb, pb, q⟩ := h
  cases rx
  cases ry
  obtain ⟨o1, e1, n1⟩ := obj_there I ha pa
  obtain ⟨o2, e2, _⟩ := obj_there I hb pb
  by_cases z : a = b
  · subst z
    exact wpAny_is_ref_self (fin_bl I q (by simp))
  · exact wpAny_is_ref_other z e1 e2 n1 (fin_bl I q (by simp [z]))
theorem op_isnot_ref : OpR X (compareOp .IsNot) (fun x y H Q => ∃ a b oa ob, x = .ref a ∧ y = .ref b ∧ H a = some oa ∧ isObj oa = true ∧ H b = some ob ∧ isObj ob = true ∧ Q (.bl (!decide (a = b))) H) := by
  intro pins s σ H x y v u Q I rx ry h
  obtain ⟨a, b, oa, ob, rfl, rfl, ha, pa, hb, pb, q⟩ := h
  cases rx
  cases ry
  obtain ⟨o1, e1, n1⟩ := obj_there I ha pa
  obtain ⟨o2, e2, _⟩ := obj_there I hb pb
  by_cases z : a = b
  · subst z
    exact wpAny_isNot_ref_self (fin_bl I q (by simp))
  · exact wpAny_isNot_ref_other z e1 e2 n1 (fin_bl I q (by simp [z]))

/-- two rules for one operation: by cases -/
theorem OpR.or {f : Value → Value → Sem Value} {r r' : R2} (h : OpR X f r) (h' : OpR X f r') : OpR X f (fun x y H Q => r x y H Q ∨ r' x y H Q) := by
  intro pins s σ H x y v u Q I rx ry q
  rcases q with q | q
  · exact h pins s σ H x y v u Q I rx ry q
  · exact h' pins s σ H x y v u Q I rx ry q

theorem nomark (b : Expr) {op : CmpOp} (h : op ≠ .In := by decide) (h2 : op ≠ .NotIn := by decide) : behindInMarks op b = false := by
  have e1 : (op == CmpOp.In) = false := by cases op <;> first | rfl | exact absurd rfl h
  have e2 : (op == CmpOp.NotIn) = false := by cases op <;> first | rfl | exact absurd rfl h2
  cases b <;> simp [behindInMarks, e1, e2]
/-- a comparison as a value; hm: nomark b, or (for in, not in) by with_unfolding_all rfl -/
theorem pe_cmpR {op : CmpOp} {r : R2} (ho : OpR X (compareOp op) r) (ha : PE X a ta) (hb : PE X b tb) (hm : behindInMarks op b = false) : PE X (.Compare a [op] [b] pos) (tOp r ta tb) := by
  intro pins s σ H Q I h
  exact wpAny_Compare1 (binT ha hb I h fun v u s2 x y H2 I2 rx ry q => ho pins s2 σ H2 x y v u Q I2 rx ry q) hm
/-- a reading of a value as a test -/
def tTest (t : TE) : TT := fun σ H Q => t σ H fun x H' => ∃ k, x = .bl k ∧ Q k H'
theorem pt_cmpR {op : CmpOp} {r : R2} (ho : OpR X (compareOp op) r) (ha : PE X a ta) (hb : PE X b tb) (hm : behindInMarks op b = false) : PT X (.Compare a [op] [b] pos) (tTest (tOp r ta tb)) := by
  intro pins s σ H Q I h
  refine wpAny_isTrue_Compare1 (thn (ha pins s σ H _ I h) fun v s1 ⟨x, H1, I1, r1, q1⟩ => thn (hb pins s1 σ H1 _ I1 q1) fun u s2 ⟨y, H2, I2, r2, q2⟩ =>
    thn (ho pins s2 σ H2 x y v u _ I2 r1 r2 q2) fun c s3 ⟨z, H3, I3, r3, k, e, q3⟩ => ?_) hm
  subst e
  cases r3
  exact wpAny_truthy_bool ⟨H3, I3, q3⟩
/-- a op1 b op2 c -/
def tChain (r r' : R2) (ta tb tc : TE) : TE := fun σ H Q => ta σ H fun x H1 => tb σ H1 fun y H2 => r x y H2 fun z H3 => ∃ k, z = .bl k ∧
  (if k = true then tc σ H3 fun w' H4 => r' y w' H4 Q else Q (.bl false) H3)
theorem pe_chain {op op' : CmpOp} {r r' : R2} (ho : OpR X (compareOp op) r) (ho' : OpR X (compareOp op') r') (ha : PE X a ta) (hb : PE X b tb) (hc : PE X c tc)
    (hm : lastMarks [op, op'] [b, c] = false := by with_unfolding_all rfl) : PE X (.Compare a [op, op'] [b, c] pos) (tChain r r' ta tb tc) := by
  intro pins s σ H Q I h
  refine Compare_chain (thn (ha pins s σ H _ I h) fun v s1 ⟨x, H1, I1, r1, q1⟩ => chain_link (thn (hb pins s1 σ H1 _ I1 q1) fun u s2 ⟨y, H2, I2, r2, q2⟩ =>
    thn (ho pins s2 σ H2 x y v u _ I2 r1 r2 q2) fun d s3 ⟨z, H3, I3, r3, k, e, q3⟩ => ?_)) hm
  subst e
  cases r3
  refine wpAny_truthy_bool ?_
  cases k with
  | false => exact ite_ff ⟨.bl false, H3, I3, rfl, q3⟩
  | true => exact ite_tt (chain_last (thn (hc pins s3 σ H3 _ I3 q3) fun w' s4 ⟨z', H4, I4, r4, q4⟩ => ho' pins s4 σ H4 y z' u w' Q I4 r2 r4 q4))
theorem pt_chain {op op' : CmpOp} {r r' : R2} (ho : OpR X (compareOp op) r) (ho' : OpR X (compareOp op') r') (ha : PE X a ta) (hb : PE X b tb) (hc : PE X c tc)
    (hm : lastMarks [op, op'] [b, c] = false := by with_unfolding_all rfl) : PT X (.Compare a [op, op'] [b, c] pos) (tTest (tChain r r' ta tb tc)) := by
  intro pins s σ H Q I h
  refine isTrue_chain (thn (ha pins s σ H _ I h) fun v s1 ⟨x, H1, I1, r1, q1⟩ => test_link (thn (hb pins s1 σ H1 _ I1 q1) fun u s2 ⟨y, H2, I2, r2, q2⟩ =>
    thn (ho pins s2 σ H2 x y v u _ I2 r1 r2 q2) fun d s3 ⟨z, H3, I3, r3, k, e, q3⟩ => ?_)) hm
  subst e
  cases r3
  refine wpAny_truthy_bool ?_
  cases k with
  | false =>
    obtain ⟨k', e', q'⟩ := q3
    cases e'
    exact ite_ff ⟨H3, I3, q'⟩
  | true =>
    refine ite_tt (test_last (thn (hc pins s3 σ H3 _ I3 q3) fun w' s4 ⟨z', H4, I4, r4, q4⟩ => thn (ho' pins s4 σ H4 y z' u w' _ I4 r2 r4 q4) fun d' s5 ⟨z2, H5, I5, r5, k2, e2, q5⟩ => ?_))
    subst e2
    cases r5
    exact wpAny_truthy_bool ⟨H5, I5, q5⟩

/-! ### truth -/
/-- a value's truth by the abstract heap -/
def TruV (K : PySem.W.Frag) (x : V) (H : Hp) (k : Bool) : Prop :=
  match x with
  | .non => k = false
  | .bl b => k = b
  | .int i => k = (i != 0)
  | .str y => y.length ≤ sizeLine ∧ k = ((y.length : Int) != 0)
  | .byt y => y.size ≤ sizeLine ∧ k = ((y.size : Int) != 0)
  | .ref p => (∃ xs, SqL K H p xs ∧ k = !xs.isEmpty) ∨ (∃ xs, SqT K H p xs ∧ k = !xs.isEmpty) ∨ ∃ kvs, H p = some (.dK kvs) ∧ k = !kvs.isEmpty
  | _ => False
theorem isEmpty_kv {κ : Type} {kvs : List (κ × V)} {vs : List (κ × Value)} (r : KV kvs vs) : (!vs.isEmpty) = !kvs.isEmpty := by
  cases r <;> rfl
theorem isEmpty_of {xs : List V} {its : List Value} (r : Vals xs its) : (!its.toArray.isEmpty) = !xs.isEmpty := by
  cases r <;> simp
theorem line63 : (sizeLine : Nat) < 2 ^ 63 := by rw [sizeLine_eq]; decide
theorem tru_ok : TruR X (fun x H Q => ∃ k, TruV X.K x H k ∧ Q k H) := by
  intro pins s σ H x v Q I rx h
  obtain ⟨k, e, q⟩ := h
  have hl := line63
  have hs : sizeLine = 16777216 := sizeLine_eq
  cases x with
  | non =>
    cases rx
    have e' : k = false := e
    subst e'
    exact truthy_none ⟨H, I, q⟩
  | bl b =>
    cases rx
    have e' : k = b := e
    subst e'
    exact wpAny_truthy_bool ⟨H, I, q⟩
  | int i =>
    obtain ⟨t, rfl⟩ := rx
    have e' : k = (i != 0) := e
    subst e'
    exact PySem.P.truthy_int ⟨H, I, q⟩
  | str y =>
    obtain ⟨t, rfl⟩ := rx
    obtain ⟨hy, e'⟩ : y.length ≤ sizeLine ∧ k = ((y.length : Int) != 0) := e
    subst e'
    exact PySem.P.truthy_str (by omega) ⟨H, I.tok _, q⟩
  | byt y =>
    obtain ⟨t, rfl⟩ := rx
    obtain ⟨hy, e'⟩ : y.size ≤ sizeLine ∧ k = ((y.size : Int) != 0) := e
    subst e'
    exact PySem.W.truthy_bytes (by omega) ⟨H, I.tok _, q⟩
  | ref p =>
    cases rx
    have e' : (∃ xs, SqL X.K H p xs ∧ k = !xs.isEmpty) ∨ (∃ xs, SqT X.K H p xs ∧ k = !xs.isEmpty) ∨ ∃ kvs, H p = some (.dK kvs) ∧ k = !kvs.isEmpty := e
    rcases e' with ⟨xs, hx, e'⟩ | ⟨xs, hx, e'⟩ | ⟨kvs, hx, e'⟩
    · subst e'
      obtain ⟨its, r, pl, hz⟩ := I.list hx
      have hlen := r.length
      exact wpAny_truthy_list pl.isList (by simp only [List.size_toArray]; omega) ⟨H, I.tok _, by rw [isEmpty_of r]; exact q⟩
    · subst e'
      obtain ⟨its, r, pl, hz⟩ := I.tuple hx
      have hlen := r.length
      exact truthy_tuple pl (by simp only [List.size_toArray]; omega) ⟨H, I.tok _, by rw [isEmpty_of r]; exact q⟩
    · subst e'
      obtain ⟨hz, hS, vs, r, m⟩ : kvs.length ≤ sizeLine ∧ (p == sysModules) = false ∧ ∃ vs, KV kvs vs ∧ s.heap.DictOf (mixKind X.prog X.w) p vs := I.hok p _ hx
      have hlen : kvs.length = vs.length := Paired.length r
      exact wpAny_truthy_dict hS m (by omega) ⟨H, I.tok _, by rw [isEmpty_kv r]; exact q⟩
  | _ => exact (show False from e).elim
/-- any expression whose test is its value's truth (a name, a call, a subscript, a field ..: he by fun _ => rfl) -/
theorem pt_truth (ha : PE X a ta) (he : ∀ whole, isTrue a X.env whole = (do let v ← whole; standAt a.pos; holding [v] (truthy v))) :
    PT X a (fun σ H Q => ta σ H fun x H' => ∃ k, TruV X.K x H' k ∧ Q k H') := by
  intro pins s σ H Q I h
  exact isTrue_plain (thn (ha pins s σ H _ I h) fun v s1 ⟨x, H1, I1, r1, q1⟩ => tru_ok pins s1 σ H1 x v Q I1 r1 q1) (he _)

/-! ### strs and bytes -/
theorem pe_byt {x : List UInt8} {k : Nat} : PE X (.Constant (.bytes x) k pos) (fun _ H Q => Q (.byt x.toArray) H) := fun _ _ _ H _ I h => PySem.W.Constant_bytes ⟨.byt x.toArray, H, I.tok _, ⟨_, rfl⟩, h⟩
theorem op_add_str : OpR X (binaryOp .Add) (fun x y H Q => ∃ i j, x = .str i ∧ y = .str j ∧ i.length + j.length ≤ sizeLine ∧ Q (.str (i ++ j)) H) := by
  intro pins s σ H x y v u Q I rx ry h
  obtain ⟨i, j, rfl, rfl, hz, q⟩ := h
  obtain ⟨t, rfl⟩ := rx
  obtain ⟨t', rfl⟩ := ry
  exact add_str (fun t' tk => ⟨.str (i ++ j), H, I.tok _, ⟨_, rfl⟩, q⟩) hz
theorem iop_add_str : OpR X (inplaceOp .Add) (fun x y H Q => ∃ i j, x = .str i ∧ y = .str j ∧ i.length + j.length ≤ sizeLine ∧ Q (.str (i ++ j)) H) := by
  intro pins s σ H x y v u Q I rx ry h
  obtain ⟨i, j, rfl, rfl, hz, q⟩ := h
  obtain ⟨t, rfl⟩ := rx
  obtain ⟨t', rfl⟩ := ry
  exact iadd_str (fun t' tk => ⟨.str (i ++ j), H, I.tok _, ⟨_, rfl⟩, q⟩) hz
theorem op_add_byt : OpR X (binaryOp .Add) (fun x y H Q => ∃ i j, x = .byt i ∧ y = .byt j ∧ i.size + j.size ≤ 16777216 ∧ Q (.byt (i ++ j)) H) := by
  intro pins s σ H x y v u Q I rx ry h
  obtain ⟨i, j, rfl, rfl, hz, q⟩ := h
  obtain ⟨t, rfl⟩ := rx
  obtain ⟨t', rfl⟩ := ry
  exact PySem.W.KBy.add_bytes hz (fun t' tk => ⟨.byt (i ++ j), H, I.tok _, ⟨_, rfl⟩, q⟩)

def PlainIxT (b : Expr) : Prop := ∀ o i, subscripted b false o i = operate [o, i] (getItem o i)
/-- s[i], 0 ≤ i < len -/
theorem pe_item_str (ha : PE X a ta) (hb : PE X b tb) (hs : PlainIxT b) :
    PE X (.Subscript a b pos) (tOp (fun x y H Q => ∃ z i c, x = .str z ∧ y = .int i ∧ 0 ≤ i ∧ i < 2 ^ 63 ∧ i < z.length ∧ z.cps[i.toNat]? = some c ∧ Q (.str ⟨#[c]⟩) H) ta tb) := by
  intro pins s σ H Q I h
  refine Subscript_ (binT ha hb I h fun v u s2 x y H2 I2 rx ry q => ?_)
  obtain ⟨z, i, c, rfl, rfl, h0, h63, h1, hc, q⟩ := q
  obtain ⟨t, rfl⟩ := rx
  obtain ⟨t', rfl⟩ := ry
  have e : seqIndex? i z.length = some i.toNat := PySem.StrLaws.seqIndex_nonneg h0 h1
  exact tail_any (typeIs_str s2 z t) slot_str_getitem.lookup (getItem_str (c := c) (by
    have e1 : decide (i < -(2 ^ 63 : Int)) = false := decide_eq_false (by omega)
    have e2 : decide (i ≥ 2 ^ 63) = false := decide_eq_false (by omega)
    rw [e1, e2] <;> rfl) (by rw [e]; exact hc) ⟨.str ⟨#[c]⟩, H2, I2.tok _, ⟨_, rfl⟩, q⟩) (hs _ _)
/-- b[i], 0 ≤ i < len -/
theorem pe_item_byt (ha : PE X a ta) (hb : PE X b tb) (hs : PlainIxT b) :
    PE X (.Subscript a b pos) (tOp (fun x y H Q => ∃ (z : List UInt8) (i : Int), x = .byt z.toArray ∧ y = .int i ∧ z.length ≤ sizeLine ∧ 0 ≤ i ∧ i < z.length ∧ Q (.int ((z.getD i.toNat 0).toNat : Nat)) H) ta tb) := by
  intro pins s σ H Q I h
  refine Subscript_ (binT ha hb I h fun v u s2 x y H2 I2 rx ry q => ?_)
  obtain ⟨z, i, rfl, rfl, hz, h0, h1, q⟩ := q
  obtain ⟨t, rfl⟩ := rx
  obtain ⟨t', rfl⟩ := ry
  have hl : sizeLine = 16777216 := sizeLine_eq
  exact tail_any (PySem.W.typeIs_bytes s2 z.toArray t) PySem.W.FB.slot_bytes_getitem.lookup (PySem.W.getItem_bytes (by omega) h0 h1 ⟨.int ((z.getD i.toNat 0).toNat : Nat), H2, I2.tok _, ⟨_, rfl⟩, q⟩) (hs _ _)

/-! ### scalar builtins, by CallR -/
theorem vals1 {x : V} {us : List Value} (r : Vals [x] us) : ∃ u, us = [u] ∧ RelV x u := by
  cases r with
  | cons r1 r2 => cases r2; exact ⟨_, rfl, r1⟩
theorem vals2 {x y : V} {us : List Value} (r : Vals [x, y] us) : ∃ u w', us = [u, w'] ∧ RelV x u ∧ RelV y w' := by
  cases r with
  | cons r1 r2 =>
    cases r2 with
    | cons r3 r4 => cases r4; exact ⟨_, _, rfl, r1, r3⟩
theorem call_abs : CallR X (.builtin "abs") (fun xs H Q => ∃ i, xs = [.int i] ∧ Q (.int (if i < 0 then -i else i)) H) := by
  intro pins s σ H xs us Q I r h
  obtain ⟨i, rfl, q⟩ := h
  obtain ⟨u, rfl, t, rfl⟩ := vals1 r
  exact call_abs_int fun u tk => ⟨.int (if i < 0 then -i else i), H, I.tok _, ⟨_, rfl⟩, q⟩
theorem call_max2 (hc : X.calm = true) : CallR X (.builtin "max") (fun xs H Q => ∃ i j, xs = [.int i, .int j] ∧ Q (.int (if j > i then j else i)) H) := by
  intro pins s σ H xs us Q I r h
  obtain ⟨i, j, rfl, q⟩ := h
  obtain ⟨u, w', rfl, ⟨t, rfl⟩, ⟨t', rfl⟩⟩ := vals2 r
  refine max_two_ints (I.ok.hd hc) fun h' tk k => ⟨_, H, I.kept k, ?_, q⟩
  by_cases hj : j > i
  · rw [if_pos hj, if_pos hj]; exact ⟨_, rfl⟩
  · rw [if_neg hj, if_neg hj]; exact ⟨_, rfl⟩
theorem call_min2 (hc : X.calm = true) : CallR X (.builtin "min") (fun xs H Q => ∃ i j, xs = [.int i, .int j] ∧ Q (.int (if j < i then j else i)) H) := by
  intro pins s σ H xs us Q I r h
  obtain ⟨i, j, rfl, q⟩ := h
  obtain ⟨u, w', rfl, ⟨t, rfl⟩, ⟨t', rfl⟩⟩ := vals2 r
  refine min_two_ints (I.ok.hd hc) fun h' tk k => ⟨_, H, I.kept k, ?_, q⟩
  by_cases hj : j < i
  · rw [if_pos hj, if_pos hj]; exact ⟨_, rfl⟩
  · rw [if_neg hj, if_neg hj]; exact ⟨_, rfl⟩
theorem call_int1 : CallR X (.type "int") (fun xs H Q => (∃ i, xs = [.int i] ∧ Q (.int i) H) ∨ ∃ k, xs = [.bl k] ∧ Q (.int (if k then 1 else 0)) H) := by
  intro pins s σ H xs us Q I r h
  rcases h with ⟨i, rfl, q⟩ | ⟨k, rfl, q⟩
  · obtain ⟨u, rfl, t, rfl⟩ := vals1 r
    exact call_int_int ⟨.int i, H, I, ⟨_, rfl⟩, q⟩
  · obtain ⟨u, rfl, r1⟩ := vals1 r
    cases r1
    exact call_int_bool ⟨.int (if k then 1 else 0), H, I.tok _, ⟨_, rfl⟩, q⟩
theorem call_bool1 : CallR X (.type "bool") (fun xs H Q => (∃ i, xs = [.int i] ∧ Q (.bl (i != 0)) H) ∨ ∃ k, xs = [.bl k] ∧ Q (.bl k) H) := by
  intro pins s σ H xs us Q I r h
  rcases h with ⟨i, rfl, q⟩ | ⟨k, rfl, q⟩
  · obtain ⟨u, rfl, t, rfl⟩ := vals1 r
    exact call_bool_int ⟨.bl (i != 0), H, I, rfl, q⟩
  · obtain ⟨u, rfl, r1⟩ := vals1 r
    cases r1
    exact call_bool_bool ⟨.bl k, H, I, rfl, q⟩
theorem call_str_int : CallR X (.type "str") (fun xs H Q => ∃ i, xs = [.int i] ∧ i.natAbs.log2 < 1920 ∧ Q (.str (toString i)) H) := by
  intro pins s σ H xs us Q I r h
  obtain ⟨i, rfl, hz, q⟩ := h
  obtain ⟨u, rfl, t, rfl⟩ := vals1 r
  exact PySem.P.str_of_int hz ⟨.str _, H, I.tok _, ⟨_, rfl⟩, q⟩
theorem call_ord : CallR X (.builtin "ord") (fun xs H Q => ∃ x, xs = [.str x] ∧ x.length = 1 ∧ Q (.int (x.cps.getD 0 0 : Nat)) H) := by
  intro pins s σ H xs us Q I r h
  obtain ⟨x, rfl, hz, q⟩ := h
  obtain ⟨u, rfl, t, rfl⟩ := vals1 r
  exact ord_of_one hz ⟨.int _, H, I.tok _, ⟨_, rfl⟩, q⟩
theorem call_chr : CallR X (.builtin "chr") (fun xs H Q => ∃ i, xs = [.int i] ∧ 0 ≤ i ∧ i ≤ 1114111 ∧ Q (.str ⟨#[i.toNat]⟩) H) := by
  intro pins s σ H xs us Q I r h
  obtain ⟨i, rfl, h0, h1, q⟩ := h
  obtain ⟨u, rfl, t, rfl⟩ := vals1 r
  exact chr_of_range h0 h1 ⟨.str _, H, I.tok _, ⟨_, rfl⟩, q⟩
/-- len of a str, a bytes, a list, a tuple -/
def LenV (K : PySem.W.Frag) (x : V) (H : Hp) (n : Nat) : Prop :=
  match x with
  | .str y => y.length ≤ sizeLine ∧ n = y.length
  | .byt y => y.size ≤ sizeLine ∧ n = y.size
  | .ref p => (∃ xs, SqL K H p xs ∧ n = xs.length) ∨ ∃ xs, SqT K H p xs ∧ n = xs.length
  | _ => False
theorem call_len : CallR X (.builtin "len") (fun xs H Q => ∃ x n, xs = [x] ∧ LenV X.K x H n ∧ Q (.int n) H) := by
  intro pins s σ H xs us Q I r h
  obtain ⟨x, n, rfl, e, q⟩ := h
  obtain ⟨u, rfl, rx⟩ := vals1 r
  have hl := line63
  have hs : sizeLine = 16777216 := sizeLine_eq
  cases x with
  | str y =>
    obtain ⟨t, rfl⟩ := rx
    obtain ⟨hy, e'⟩ : y.length ≤ sizeLine ∧ n = y.length := e
    subst e'
    exact len_str (by omega) ⟨.int _, H, I.tok _, ⟨_, rfl⟩, q⟩
  | byt y =>
    obtain ⟨t, rfl⟩ := rx
    obtain ⟨hy, e'⟩ : y.size ≤ sizeLine ∧ n = y.size := e
    subst e'
    exact PySem.W.len_bytes (by omega) ⟨.int _, H, I.tok _, ⟨_, rfl⟩, q⟩
  | ref p =>
    cases rx
    have e' : (∃ xs, SqL X.K H p xs ∧ n = xs.length) ∨ ∃ xs, SqT X.K H p xs ∧ n = xs.length := e
    rcases e' with ⟨xs, hx, e'⟩ | ⟨xs, hx, e'⟩
    · subst e'
      obtain ⟨its, r', pl, hz⟩ := I.list hx
      have hlen := r'.length
      exact Calls.call_len_list pl.isList (by simp only [List.size_toArray]; omega) ⟨.int xs.length, H, I.tok _, ⟨_, by simp only [List.size_toArray]; rw [hlen]⟩, q⟩
    · subst e'
      obtain ⟨its, r', pl, hz⟩ := I.tuple hx
      have hlen := r'.length
      exact len_tuple pl (by simp only [List.size_toArray]; omega) ⟨.int xs.length, H, I.tok _, ⟨_, by simp only [List.size_toArray]; rw [hlen]⟩, q⟩
  | _ => exact (show False from e).elim
/-- divmod: a new tuple -/
theorem call_divmod : CallR X (.builtin "divmod") (fun xs H Q => ∃ i j, xs = [.int i, .int j] ∧ CDiv i j ∧ ∀ p, H p = none → Q (.ref p) (upd H p (.tup [.int (i / j), .int (i % j)]))) := by
  intro pins s σ H xs us Q I r h
  obtain ⟨i, j, rfl, ⟨h1, h2⟩, q⟩ := h
  obtain ⟨u, w', rfl, ⟨t, rfl⟩, ⟨t', rfl⟩⟩ := vals2 r
  refine divmod_int (by omega) ?_ (.inl (PyProof.noPylong_small (by omega)))
  rw [Int.fdiv_eq_ediv_of_nonneg i (by omega), Int.fmod_eq_emod_of_nonneg i (by omega)]
  have hn : H s.heap.objs.size = none := I.hok.fresh (Nat.le_refl _)
  refine ⟨.ref s.heap.objs.size, _, ?_, rfl, q _ hn⟩
  refine I.laid (fun b o e => Heap.get?_push_of_some _ e) (Nat.le_refl _) ⟨by simp only [List.length_cons, List.length_nil]; rw [sizeLine_eq]; decide, [.int (i / j) s.toks, .int (i % j) (s.toks + 1)], .cons ⟨_, rfl⟩ (.cons ⟨_, rfl⟩ .nil), ?_⟩
  exact ⟨_, Heap.get?_push_size s.heap rfl, rfl, 0, rfl⟩
end
end L2

namespace L2
open PySem PySem.Spec PyProof.Rows

/-! ### an instance, its attributes a map -/
structure ObjM (h : Heap) (x dx C : Addr) (mA : Str → Option Value) : Prop where
  obj : h.get? x = some (PySem.W.instObj C dx)
  ns : h.Ns1 dx mA
  ne : dx ≠ x

theorem lookIn_ns {h : Heap} {dx : Addr} {mA : Str → Option Value} (n : h.Ns1 dx mA) : ∃ od, h.get? dx = some od ∧ ∀ name, PySem.W.lookIn name od = some (mA name) := by
  obtain ⟨o, es, ep, ho, hd, hk, _, hm⟩ := n
  refine ⟨o, ho, fun name => ?_⟩
  have e := hm name
  unfold nsFind findBy at e
  rw [← Array.find?_toList] at e
  unfold PySem.W.lookIn
  rw [hd]
  dsimp only
  split
  · rename_i y q
    rw [q] at e
    exact congrArg some e
  · rename_i q
    rw [q] at e
    have a : es.toList.any (·.refKey) = false := by
      rw [List.any_eq_false]
      intro y hy
      obtain ⟨z, t, hkey⟩ := hk y (Array.mem_toList_iff.mp hy)
      simp [DictEntry.refKey, hkey]
    have a' : ¬ es.toList.any (·.refKey) = true := by rw [a]; exact Bool.false_ne_true
    rw [if_neg a']
    exact congrArg some e

theorem ObjM.look {h : Heap} {x dx C : Addr} {mA : Str → Option Value} (I : ObjM h x dx C mA) : ∃ od, PySem.W.InstAt h x (PySem.W.instObj C dx) C (some od) ∧ ∀ name, PySem.W.lookIn name od = some (mA name) :=
  let ⟨od, ho, hl⟩ := lookIn_ns I.ns
  ⟨od, ⟨I.obj, rfl, rfl, ho⟩, hl⟩

section
variable {prog : Program} {w : World} {A : Around} {E : Value → Shared → Prop} {s : Shared} {K : PySem.W.Frag} {x dx C f : Addr} {mA : Str → Option Value} {name : Str} {v : Value}

theorem get_map {expr : Bool} {Q : Value → Shared → Prop} (X : K.In s.heap) (I : ObjM s.heap x dx C mA) (hg : PySem.W.plainGet K C name = true) (hh : PySem.W.hasDictIn K C = true)
    (ha : PySem.W.findIn K (.ref C) name = some none) (hv : mA name = some v) (hv' : PySem.W.handedIn v = true) (h : Q v { s with toks := s.toks + 1 }) :
    wpAny (model prog w) A (getAttr (.ref x) name expr) Q E s := by
  obtain ⟨od, J, hl⟩ := I.look
  exact PySem.W.get_value X J (PySem.W.plainGet_of hg).1 (PySem.W.findObj_own hh ha rfl (by rw [hl, hv])) hv' h

theorem get_const {expr : Bool} {a : Value} {Q : Value → Shared → Prop} (X : K.In s.heap) (I : ObjM s.heap x dx C mA) (hg : PySem.W.plainGet K C name = true) (hh : PySem.W.hasDictIn K C = true)
    (ha : PySem.W.findIn K (.ref C) name = some (some a)) (hn : PySem.W.specialIn K a "__get__" = some none) (hc : PySem.W.copiedNames.contains name = false) (hv : mA name = none) (hv' : PySem.W.handedIn a = true)
    (h : Q a { s with toks := s.toks + 1 }) : wpAny (model prog w) A (getAttr (.ref x) name expr) Q E s := by
  obtain ⟨od, J, hl⟩ := I.look
  exact PySem.W.get_value X J (PySem.W.plainGet_of hg).1 (PySem.W.findObj_cls hh ha hn hv' hc (by rw [hl, hv])) hv' h

theorem get_meth {pl : Sem Bool} {Q : Value × List Value → Shared → Prop} (X : K.In s.heap) (I : ObjM s.heap x dx C mA) (hg : PySem.W.plainGet K C name = true)
    (hf : PySem.W.findIn K (.ref C) name = some (some (.ref f))) (ht : PySem.W.isFn K (.ref f) = true) (hv : mA name = none) (h : Q (.ref f, [.ref x]) s) :
    wpAny (model prog w) A (getMethod (.ref x) name pl) Q E s := by
  obtain ⟨od, J, hl⟩ := I.look
  exact PySem.W.method_fn X J (PySem.W.plainGet_of hg).1 (PySem.W.plainGet_of hg).2 hf (beq_iff_eq.mp ht) (by show (PySem.W.lookIn name od).map (·.isSome) = some false; rw [hl, hv]; rfl) h

theorem set_map {ns : List Str} {Q : Unit → Shared → Prop} (X : K.In s.heap) (I : ObjM s.heap x dx C mA)
    (hs : PySem.W.findIn K (.ref C) "__setattr__" = some (some (.builtin "object.__setattr__"))) (hp : PySem.W.plainOver K C = true) (ht : PySem.W.takerIn K C name = some none) (hh : PySem.W.hasDictIn K C = true)
    (hw : PySem.Within mA ns) (hsz : ns.length ≤ sizeLine)
    (h : ∀ h', ObjM h' x dx C (fun y => if y = name then some v else mA y) → Heap.SameBut dx s.heap h' → Q () { s with heap := h', toks := s.toks + 2 }) :
    wpAny (model prog w) A (setAttr (.ref x) name v) Q E s := by
  obtain ⟨od, J, hl⟩ := I.look
  refine PySem.W.set_plain X J hs (PySem.W.osa_open (s := { s with toks := s.toks + 1 }) (r := none) X J hp ht fun b => ?_)
  obtain ⟨cd, hc, hd'⟩ := PySem.W.any_some hh
  have hx : s.heap.get? x = some ⟨.ref C, some dx, .plain, #[]⟩ := I.obj
  refine wpAny_bind (wpAny_pure (wpAny_bind (wpAny_bind (wpAny_loadPart hx (wpAny_bind (PySem.W.Looks.here (s := { s with toks := s.toks + 1 }) (PySem.W.looks_clsIn X hc) ?_))))))
  rw [hd']
  refine wpAny_pure (a := some dx) (wpAny_bind (wpAny_pure (wpAny_bind ?_)))
  refine wpAny_nsSet1 (s := { s with toks := s.toks + 1 }) I.ns fun h' hn2 hs2 => ?_
  obtain ⟨oD, esD, epD, hoD, hdD, hcD⟩ := hn2.count (PySem.Within.cons name v hw)
  refine wpAny_bind (wpAny_lookBehind hoD (by rw [hdD]; exact pastItsLine_dict (Nat.le_trans hcD (by rw [List.length_cons]; omega))) ?_)
  exact wpAny_pure (h _ ⟨(hs2.2 _ (Ne.symm I.ne)).trans I.obj, hn2, I.ne⟩ hs2)

/-- C(..): the dict at the heap's end, the instance behind it; then its __init__ -/
theorem make_map {R : Result → Shared → Prop} {vs : List Value} {kw : List (Str × Value)} (X : K.In s.heap) (hm : PySem.W.makesIn K C = true)
    (hi : PySem.W.findIn K (.ref C) "__init__" = some (some (.ref f))) (hf : PySem.W.typeIn K (.ref f) = some (.type "function"))
    (h : codeAny (model prog w) (A.under (.builtin "type.__call__" ⟨.ref C :: vs, kw⟩)) (.call (.ref f) ⟨.ref (s.heap.objs.size + 1) :: vs, kw⟩) (PySem.W.InitBack (s.heap.objs.size + 1) R)
      { s with heap := (s.heap.push PySem.W.emptyDict).push (PySem.W.instObj C s.heap.objs.size) }) :
    codeAny (model prog w) A (.call (.ref C) ⟨vs, kw⟩) R s := by
  obtain ⟨hh, g, d, t, os⟩ := s
  exact PySem.W.make_core (PySem.W.makes_of X hm) (PySem.W.looks_findIn X hi) (fun self => PySem.W.bind_fn X self hf) (.inl rfl) h
/-- C() where there is no __init__ but object's -/
theorem make_map0 {R : Result → Shared → Prop} (X : K.In s.heap) (hm : PySem.W.makesIn K C = true)
    (hi : PySem.W.findIn K (.ref C) "__init__" = some (some (.builtin "object.__init__")))
    (hb : ∀ self, PySem.W.Looks (model prog w) s.heap (bindSpecial (.builtin "object.__init__") self) (.builtin "object.__init__", [self]))
    (h : codeAny (model prog w) (A.under (.builtin "type.__call__" ⟨[.ref C], []⟩)) (.call (.builtin "object.__init__") ⟨[.ref (s.heap.objs.size + 1)], []⟩) (PySem.W.InitBack (s.heap.objs.size + 1) R)
      { s with heap := (s.heap.push PySem.W.emptyDict).push (PySem.W.instObj C s.heap.objs.size) }) :
    codeAny (model prog w) A (.call (.ref C) ⟨[], []⟩) R s := by
  obtain ⟨hh, g, d, t, os⟩ := s
  exact PySem.W.make_core (PySem.W.makes_of X hm) (PySem.W.looks_findIn X hi) hb (.inr ⟨rfl, rfl⟩) h
end

/-! ### the attributes as a list of pairs -/
def putF (f : Str) (v : V) : List (Str × V) → List (Str × V)
  | [] => [(f, v)]
  | (g, x) :: r => if g = f then (g, v) :: r else (g, x) :: putF f v r
theorem lookup_putF (f g : Str) (v : V) : ∀ fs : List (Str × V), (putF f v fs).lookup g = if g = f then some v else fs.lookup g
  | [] => by
    show List.lookup g [(f, v)] = _
    by_cases h : g = f
    · have hb : (g == f) = true := beq_iff_eq.mpr h
      simp only [List.lookup, hb, if_pos h]
    · have hb : (g == f) = false := beq_eq_false_iff_ne.mpr h
      simp only [List.lookup, hb, if_neg h]
  | (k, x) :: r => by
    have ih := lookup_putF f g v r
    rw [show putF f v ((k, x) :: r) = (if k = f then (k, v) :: r else (k, x) :: putF f v r) from rfl]
    by_cases hk : k = f
    · rw [if_pos hk]
      by_cases h : g = k
      · have hb : (g == k) = true := beq_iff_eq.mpr h
        simp only [List.lookup, hb, if_pos (h.trans hk)]
      · have hb : (g == k) = false := beq_eq_false_iff_ne.mpr h
        simp only [List.lookup, hb, if_neg (fun e : g = f => h (e.trans hk.symm))]
    · rw [if_neg hk]
      by_cases h : g = k
      · have hb : (g == k) = true := beq_iff_eq.mpr h
        simp only [List.lookup, hb, if_neg (fun e : g = f => hk (h.symm.trans e))]
      · have hb : (g == k) = false := beq_eq_false_iff_ne.mpr h
        simp only [List.lookup, hb]
        exact ih
theorem keys_putF (f : Str) (v : V) : ∀ fs : List (Str × V), f ∈ (putF f v fs).map (·.1) ∧ ∀ g, g ∈ fs.map (·.1) → g ∈ (putF f v fs).map (·.1)
  | [] => ⟨by simp [putF], fun g h => by simp at h⟩
  | (k, x) :: r => by
    obtain ⟨i1, i2⟩ := keys_putF f v r
    rw [show putF f v ((k, x) :: r) = (if k = f then (k, v) :: r else (k, x) :: putF f v r) from rfl]
    by_cases hk : k = f
    · rw [if_pos hk]
      subst hk
      exact ⟨by simp, fun g h => by simpa using h⟩
    · rw [if_neg hk]
      refine ⟨?_, fun g h => ?_⟩
      · rw [List.map_cons]
        exact List.mem_cons_of_mem _ i1
      · rw [List.map_cons] at h ⊢
        rcases List.mem_cons.mp h with e | e
        · exact List.mem_cons.mpr (.inl e)
        · exact List.mem_cons_of_mem _ (i2 g e)
theorem length_putF (f : Str) (v : V) : ∀ fs : List (Str × V), (putF f v fs).length ≤ fs.length + 1
  | [] => by simp [putF]
  | (k, x) :: r => by
    have ih := length_putF f v r
    rw [show putF f v ((k, x) :: r) = (if k = f then (k, v) :: r else (k, x) :: putF f v r) from rfl]
    by_cases hk : k = f
    · rw [if_pos hk, List.length_cons, List.length_cons]; omega
    · rw [if_neg hk, List.length_cons, List.length_cons]; omega

theorem RelO.some_of {v : V} {o : Option Value} (r : RelO (some v) o) : ∃ u, o = some u ∧ RelV v u := by
  cases o with
  | none => exact (show False from r).elim
  | some u => exact ⟨u, rfl, r⟩
theorem RelO.none_of {o : Option Value} (r : RelO none o) : o = none := by
  cases o with
  | none => rfl
  | some u => exact (show False from r).elim
theorem handed_of {v : V} {u : Value} (r : RelV v u) : PySem.W.handedIn u = true := by
  cases v with
  | non => cases (show u = Value.none from r); rfl
  | bl b => cases (show u = Value.bool b from r); rfl
  | int i => obtain ⟨t, e⟩ := (show ∃ t, u = Value.int i t from r); cases e; rfl
  | str x => obtain ⟨t, e⟩ := (show ∃ t, u = Value.str x t from r); cases e; rfl
  | byt b => obtain ⟨t, e⟩ := (show ∃ t, u = Value.bytes b t from r); cases e; rfl
  | flt b => obtain ⟨t, e⟩ := (show ∃ t, u = Value.float b t from r); cases e; rfl
  | ref a => cases (show u = Value.ref a from r); rfl
  | ty n => cases (show u = Value.type n from r); rfl

section
variable {P : Program} {w : World} {H H' : Hp} {h h' : Heap} {a C dx : Addr} {fs fs' : List (Str × V)}
theorem ins_get (hok : HOk P w H h) (e : H a = some (.ins C dx fs)) : ∃ mA, ObjM h a dx C mA ∧ (∀ f, RelO (fs.lookup f) (mA f)) ∧ PySem.Within mA (fs.map (·.1)) ∧ fs.length ≤ 1000 ∧ H dx = some (.own a) := by
  obtain ⟨d, z, ne, ob, mA, n, r, q⟩ := (show ObjOk P w H h a (.ins C dx fs) from hok a _ e)
  exact ⟨mA, ⟨ob, n, ne⟩, r, q, z, d⟩
end

/-! ### what of the text a class must have -/
structure Cls (K : PySem.W.Frag) (C : Addr) : Prop where
  pg : PySem.W.plainGet K C Str.empty = true
  hd : PySem.W.hasDictIn K C = true
  po : PySem.W.plainOver K C = true
  sa : PySem.W.findIn K (.ref C) "__setattr__" = some (some (.builtin "object.__setattr__"))
theorem Cls.get {K : PySem.W.Frag} {C : Addr} (c : Cls K C) (f : Str) : PySem.W.plainGet K C f = true := c.pg
/-- no class of it has the name -/
def NoAttr (K : PySem.W.Frag) (C : Addr) (f : Str) : Prop := PySem.W.findIn K (.ref C) f = some none
theorem NoAttr.taker {K : PySem.W.Frag} {C : Addr} {f : Str} (n : NoAttr K C f) : PySem.W.takerIn K C f = some none := by
  unfold PySem.W.takerIn
  rw [show PySem.W.findIn K (.ref C) f = some none from n]
  rfl
/-- a constant of the class -/
structure Con (K : PySem.W.Frag) (C : Addr) (f : Str) (v : V) (u : Value) : Prop where
  at_ : PySem.W.findIn K (.ref C) f = some (some u)
  rel : RelV v u
  get : PySem.W.specialIn K u "__get__" = some none
  cp : PySem.W.copiedNames.contains f = false
/-- a method: a plain def of the class or of one above it -/
structure Meth (K : PySem.W.Frag) (C : Addr) (m : Str) (f : Addr) : Prop where
  at_ : PySem.W.findIn K (.ref C) m = some (some (.ref f))
  fn : PySem.W.isFn K (.ref f) = true
  kp : PySem.W.keepIn K (.ref f) = true

section
variable {X : Cx} {pins : List (Addr × Obj)} {σ : St} {H : Hp} {s : Shared} {a C dx : Addr} {fs : List (Str × V)} {f : Str} {v : V} {A : Around} {E : Value → Shared → Prop}

theorem getattr_ok {b : Bool} {Q : Value → Shared → Prop} (I : Inv X pins σ H s) (e : H a = some (.ins C dx fs)) (c : Cls X.K C) (n : NoAttr X.K C f) (l : fs.lookup f = some v)
    (h : ∀ u s', Inv X pins σ H s' → RelV v u → Q u s') : wpAny (model X.prog X.w) A (getAttr (.ref a) f b) Q E s := by
  obtain ⟨mA, O, r, _, _, _⟩ := ins_get I.hok e
  obtain ⟨u, hu, ru⟩ := RelO.some_of (v := v) (o := mA f) (by rw [← l]; exact r f)
  exact get_map I.kIn O (c.get f) c.hd n hu (handed_of ru) (h u _ (I.tok _) ru)

theorem getcon_ok {b : Bool} {u : Value} {Q : Value → Shared → Prop} (I : Inv X pins σ H s) (e : H a = some (.ins C dx fs)) (c : Cls X.K C) (k : Con X.K C f v u) (l : fs.lookup f = none)
    (h : ∀ s', Inv X pins σ H s' → Q u s') : wpAny (model X.prog X.w) A (getAttr (.ref a) f b) Q E s := by
  obtain ⟨mA, O, r, _, _, _⟩ := ins_get I.hok e
  have hn : mA f = none := RelO.none_of (by rw [← l]; exact r f)
  exact get_const I.kIn O (c.get f) c.hd k.at_ k.get k.cp hn (handed_of k.rel) (h _ (I.tok _))

theorem getmeth_ok {m : Str} {g : Addr} {pl : Sem Bool} {Q : Value × List Value → Shared → Prop} (I : Inv X pins σ H s) (e : H a = some (.ins C dx fs)) (c : Cls X.K C) (k : Meth X.K C m g) (l : fs.lookup m = none)
    (h : Q (.ref g, [.ref a]) s) : wpAny (model X.prog X.w) A (getMethod (.ref a) m pl) Q E s := by
  obtain ⟨mA, O, r, _, _, _⟩ := ins_get I.hok e
  have hn : mA m = none := RelO.none_of (by rw [← l]; exact r m)
  exact get_meth I.kIn O (c.get m) k.at_ k.fn hn h

theorem setattr_ok {y : V} {u : Value} {Q : Unit → Shared → Prop} (I : Inv X pins σ H s) (e : H a = some (.ins C dx fs)) (c : Cls X.K C) (n : NoAttr X.K C f) (hl : fs.length < 1000) (ry : RelV y u)
    (h : ∀ s', Inv X pins σ (upd H a (.ins C dx (putF f y fs))) s' → Q () s') : wpAny (model X.prog X.w) A (setAttr (.ref a) f u) Q E s := by
  obtain ⟨mA, O, r, wi, _, ho⟩ := ins_get I.hok e
  have hz : (fs.map (·.1)).length ≤ sizeLine := by rw [List.length_map, sizeLine_eq]; omega
  refine set_map I.kIn O c.sa c.po n.taker c.hd wi hz fun h' O' sb => h _ ?_
  have hd : ∃ o, h'.get? dx = some o := let ⟨o, _, _, e', _⟩ := O'.ns; ⟨o, e'⟩
  refine I.write (x := a) (e := dx) (by rw [e]; exact True.intro) (.inr ho) (fun b q hb z => (sb.2 b hb).trans z) hd ?_
  refine ⟨by rw [upd_ne O.ne]; exact ho, ?_, O.ne, O'.obj, _, O'.ns, fun g => ?_, fun g hg => ?_⟩
  · have := length_putF f y fs; omega
  · show RelO ((putF f y fs).lookup g) (if g = f then some u else mA g)
    rw [lookup_putF]
    by_cases q : g = f
    · rw [if_pos q, if_pos q]; exact ry
    · rw [if_neg q, if_neg q]; exact r g
  · by_cases q : g = f
    · rw [q]; exact (keys_putF f y fs).1
    · refine (keys_putF f y fs).2 g (wi g fun z => hg ?_)
      show (if g = f then some u else mA g) = none
      rw [if_neg q]; exact z

/-- a new instance, tracked, without attributes -/
theorem Inv.made (I : Inv X pins σ H s) : Inv X pins σ (upd (upd H s.heap.objs.size (.own (s.heap.objs.size + 1))) (s.heap.objs.size + 1) (.ins C s.heap.objs.size []))
    { s with heap := (s.heap.push PySem.W.emptyDict).push (PySem.W.instObj C s.heap.objs.size) } := by
  have e1 : (s.heap.push PySem.W.emptyDict).get? s.heap.objs.size = some PySem.W.emptyDict := Heap.get?_push_size s.heap rfl
  have e2 : ((s.heap.push PySem.W.emptyDict).push (PySem.W.instObj C s.heap.objs.size)).get? (s.heap.objs.size + 1) = some (PySem.W.instObj C s.heap.objs.size) := by
    have := Heap.get?_push_size (s.heap.push PySem.W.emptyDict) (o := PySem.W.instObj C s.heap.objs.size) rfl
    rwa [Heap.size_push] at this
  have e3 : (s.heap.push PySem.W.emptyDict).Ns s.heap.objs.size (fun _ => none) := ⟨PySem.W.emptyDict, #[], _, e1, rfl, (fun e he => absurd he (by simp)), fun _ => rfl⟩
  have I1 := I.laid (a := s.heap.objs.size) (o := .own (s.heap.objs.size + 1)) (h' := s.heap.push PySem.W.emptyDict) (t' := s.toks) (fun b u q => Heap.get?_push_of_some _ q) (Nat.le_refl _) ⟨_, e1⟩
  refine I1.laid (a := s.heap.objs.size + 1) (o := .ins C s.heap.objs.size []) (t' := s.toks) (fun b u q => Heap.get?_push_of_some _ q) (Nat.le_of_eq (Heap.size_push _ _)) ?_
  have ne : s.heap.objs.size ≠ s.heap.objs.size + 1 := Nat.ne_of_lt (Nat.lt_succ_self _)
  refine ⟨by rw [upd_ne ne, upd_same], Nat.zero_le _, ne, e2, fun _ => none, (Heap.Ns1.of_empty e3).at fun o q => Heap.get?_push_of_some _ q, fun _ => True.intro, fun y hy => absurd rfl hy⟩

/-- e.f where nothing but the object is asked: through attributeBase (super) and the last hold -/
theorem attr_of {prog : Program} {w : World} {env : Env} {e : Expr} {f : Str} {pos : Pos} {s : Shared} {Q : Value → Shared → Prop} (hb : attributeBase e f env (eval e env) = eval e env)
    (h : wpAny (model prog w) A (eval e env) (fun o s₁ => wpAny (model prog w) A (getAttr o f true) Q E s₁) E s) : wpAny (model prog w) A (eval (.Attribute e f pos) env) Q E s :=
  Attribute_any_ h (by rw [arm_eval_Attribute, hb])
end

/-! ### readings and rules -/
/-- e.f, an attribute of the instance -/
def tFld (K : PySem.W.Frag) (ta : TE) (f : Str) : TE := fun σ H Q => ta σ H fun x H1 => ∃ a C dx fs v, x = .ref a ∧ H1 a = some (.ins C dx fs) ∧ Cls K C ∧ NoAttr K C f ∧ fs.lookup f = some v ∧ Q v H1
/-- e.f, a constant of the class -/
def tCon (K : PySem.W.Frag) (ta : TE) (f : Str) : TE := fun σ H Q => ta σ H fun x H1 => ∃ a C dx fs v u, x = .ref a ∧ H1 a = some (.ins C dx fs) ∧ Cls K C ∧ Con K C f v u ∧ fs.lookup f = none ∧ Q v H1
/-- e.f = value -/
def sFld (K : PySem.W.Frag) (ta tv : TE) (f : Str) : TS := fun D σ H => tv σ H fun y H1 => ta σ H1 fun x H2 => ∃ a C dx fs, x = .ref a ∧ H2 a = some (.ins C dx fs) ∧ Cls K C ∧ NoAttr K C f ∧ fs.length < 1000 ∧
  D.nx σ (upd H2 a (.ins C dx (putF f y fs)))
/-- an augmented operator on two values -/
def InOp (X : Cx) (op : Operator) (rd : V → V → Hp → VK → Prop) : Prop :=
  ∀ (pins : List (Addr × Obj)) (s : Shared) (σ : St) (H : Hp) (x y : V) (u v : Value) (Q : VK), Inv X pins σ H s → RelV x u → RelV y v → rd x y H Q → wpAny (model X.prog X.w) X.A (inplaceOp op u v) (EP X pins σ Q) X.xe s
/-- e.f op= value -/
def sFldAug (K : PySem.W.Frag) (ta tv : TE) (rd : V → V → Hp → VK → Prop) (f : Str) : TS := fun D σ H => ta σ H fun x H1 => ∃ a C dx fs v, x = .ref a ∧ H1 a = some (.ins C dx fs) ∧ Cls K C ∧ NoAttr K C f ∧ fs.lookup f = some v ∧
  tv σ H1 fun y H2 => rd v y H2 fun z H3 => ∃ dx' fs', H3 a = some (.ins C dx' fs') ∧ fs'.length < 1000 ∧ D.nx σ (upd H3 a (.ins C dx' (putF f z fs')))

section
variable {X : Cx} {o e value : Expr} {f : Str} {pos pos' tpos : Pos} {ta tv : TE}
theorem pe_fld (he : PE X e ta) (hb : attributeBase e f X.env (eval e X.env) = eval e X.env) : PE X (.Attribute e f pos) (tFld X.K ta f) := by
  intro pins s σ H Q I h
  refine attr_of hb (thn (he pins s σ H _ I h) fun u s1 ⟨x, H1, I1, rx, a, C, dx, fs, v, ex, ea, c, n, l, q⟩ => ?_)
  subst ex
  obtain rfl : u = Value.ref a := rx
  exact getattr_ok I1 ea c n l fun u' s2 I2 ru => ⟨v, H1, I2, ru, q⟩
theorem pe_con (he : PE X e ta) (hb : attributeBase e f X.env (eval e X.env) = eval e X.env) : PE X (.Attribute e f pos) (tCon X.K ta f) := by
  intro pins s σ H Q I h
  refine attr_of hb (thn (he pins s σ H _ I h) fun u s1 ⟨x, H1, I1, rx, a, C, dx, fs, v, u0, ex, ea, c, k, l, q⟩ => ?_)
  subst ex
  obtain rfl : u = Value.ref a := rx
  exact getcon_ok I1 ea c k l fun s2 I2 => ⟨v, H1, I2, k.rel, q⟩
theorem ps_fld (ha : PE X o ta) (hv : PE X value tv) (hs : swapsWith value (some (.Attribute o f pos')) pos.line X.env = pure false) : PS X (.Assign [.Attribute o f pos'] value pos) (sFld X.K ta tv f) := by
  intro pins s σ H D I h
  refine plainObj_wpAny_Assign_Attribute (thn (hv pins s σ H _ I h) fun u s1 ⟨y, H1, I1, ry, q⟩ => thn (ha pins s1 σ H1 _ I1 q) fun ov s2 ⟨x, H2, I2, rx, a, C, dx, fs, ex, ea, c, n, l, q2⟩ => ?_) hs
  subst ex
  obtain rfl : ov = Value.ref a := rx
  exact setattr_ok I2 ea c n l ry fun s3 I3 => ⟨σ, _, I3, q2⟩
theorem ps_fldaug {op : Operator} {rd : V → V → Hp → VK → Prop} (ha : PE X o ta) (hv : PE X value tv) (hop : InOp X op rd) : PS X (.AugAssign (.Attribute o f tpos) op value pos) (sFldAug X.K ta tv rd f) := by
  intro pins s σ H D I h
  refine wpAny_AugAssign_AttributeAny (thn (ha pins s σ H _ I h) fun ov s1 ⟨x, H1, I1, rx, a, C, dx, fs, v, ex, ea, c, n, l, q⟩ => ?_)
  subst ex
  obtain rfl : ov = Value.ref a := rx
  refine getattr_ok I1 ea c n l fun u s2 I2 ru => thn (hv pins s2 σ H1 _ I2 q) fun w3 s3 ⟨y, H2, I3, ry, q3⟩ => thn (hop pins s3 σ H2 v y u w3 _ I3 ru ry q3) fun w4 s4 ⟨z, H3, I4, rz, dx', fs', ea', l', q4⟩ => ?_
  exact setattr_ok I4 ea' c n l' rz fun s5 I5 => ⟨σ, _, I5, q4⟩
def rAdd : V → V → Hp → VK → Prop := fun x y H Q => ∃ i j, x = .int i ∧ y = .int j ∧ Q (.int (i + j)) H
def rSub : V → V → Hp → VK → Prop := fun x y H Q => ∃ i j, x = .int i ∧ y = .int j ∧ Q (.int (i - j)) H
theorem in_add : InOp X .Add rAdd := by
  rintro pins s σ H x y u v Q I rx ry ⟨i, j, rfl, rfl, q⟩
  obtain ⟨t, rfl⟩ := (show ∃ t, u = Value.int i t from rx)
  obtain ⟨t', rfl⟩ := (show ∃ t', v = Value.int j t' from ry)
  exact PyProof.Rows.iadd_int ⟨.int (i + j), H, I.tok _, ⟨_, rfl⟩, q⟩
theorem in_sub : InOp X .Sub rSub := by
  rintro pins s σ H x y u v Q I rx ry ⟨i, j, rfl, rfl, q⟩
  obtain ⟨t, rfl⟩ := (show ∃ t, u = Value.int i t from rx)
  obtain ⟨t', rfl⟩ := (show ∃ t', v = Value.int j t' from ry)
  exact PyProof.Rows.isub_int ⟨.int (i - j), H, I.tok _, ⟨_, rfl⟩, q⟩

/-- what is between an instance and its method: the tree of a method call -/
theorem methcall_of {pl : Sem Bool} {m : Str} {apos : Pos} {args : List Expr} {pins : List (Addr × Obj)} {s : Shared} {σ : St} {H : Hp} {Q : Value → Shared → Prop} {te : TE} (he : PE X e te) (I : Inv X pins σ H s)
    (h : te σ H fun x H1 => ∃ a C dx fs g, x = .ref a ∧ H1 a = some (.ins C dx fs) ∧ Cls X.K C ∧ Meth X.K C m g ∧ fs.lookup m = none ∧
      ∀ s1, Inv X pins σ H1 s1 → wpAny (model X.prog X.w) X.A (callWith pos (.ref g) [.ref a] (backTo pos (starEach args X.env)) (backToKw pos (keywordEach [] X.env))) Q X.xe s1)
    (ht : eval (.Call (.Attribute e m apos) args [] pos) X.env = (do
      let ov ← eval e X.env
      standAt apos.atName
      let (f, first) ← holding [ov] (getMethod ov m pl)
      callWith pos f first (backTo pos (starEach args X.env)) (backToKw pos (keywordEach [] X.env)))) :
    wpAny (model X.prog X.w) X.A (eval (.Call (.Attribute e m apos) args [] pos) X.env) Q X.xe s := by
  refine PySem.W.methodCall_KW (pl := pl) (thn (he pins s σ H _ I h) fun u s1 ⟨x, H1, I1, rx, a, C, dx, fs, g, ex, ea, c, k, l, q⟩ => ?_) ht
  subst ex
  obtain rfl : u = Value.ref a := rx
  exact getmeth_ok I1 ea c k l (q s1 I1)
end

/-! ### isinstance -/
section
variable {X : Cx} {pins : List (Addr × Obj)} {σ : St} {H : Hp} {s : Shared} {A : Around} {E : Value → Shared → Prop} {Q : Value → Shared → Prop} {c : Value} {b : Bool}
/-- the type of a value, as the fragment's deciders take it; for an instance its class -/
inductive TyOf (K : PySem.W.Frag) (H : Hp) : V → Value → Prop where
  | non : TyOf K H .non (.type "NoneType")
  | bl (x : Bool) : TyOf K H (.bl x) (.type "bool")
  | int (i : Int) : TyOf K H (.int i) (.type "int")
  | str (x : Str) : TyOf K H (.str x) (.type "str")
  | flt (x : UInt64) : TyOf K H (.flt x) (.type "float")
  | lst {a : Addr} {xs : List V} (e : H a = some (.lst xs)) : TyOf K H (.ref a) (.type "list")
  | frz {a : Addr} {o : Obj} {xs : List V} (e : H a = some (.frz o (.lst xs))) : TyOf K H (.ref a) (.type "list")
  | tup {a : Addr} {xs : List V} (e : H a = some (.tup xs)) : TyOf K H (.ref a) (.type "tuple")
  | dK {a : Addr} {kvs : List (Key × V)} (e : H a = some (.dK kvs)) : TyOf K H (.ref a) (.type "dict")
  | dT {a : Addr} {kvs : List (List Key × V)} (e : H a = some (.dT kvs)) : TyOf K H (.ref a) (.type "dict")
  | ins {a C dx : Addr} {fs : List (Str × V)} (e : H a = some (.ins C dx fs)) (cl : Cls K C) (ha : PySem.W.findIn K (.ref C) "__class__" = some (some (.builtin "object.__class__")))
      (hn : PySem.W.specialIn K (.builtin "object.__class__") "__get__" = some (some (.builtin "getset_descriptor.__get__"))) (htk : PySem.W.takesIn K (.builtin "object.__class__") = some true)
      (hm : PySem.W.mroIn K C (.type "object") = some true) : TyOf K H (.ref a) (.ref C)
/-- isinstance(x, c) for one class c, a built-in or an own one: kitOne's answer -/
theorem isinst_ok {x : V} {u t : Value} (I : Inv X pins σ H s) (rx : RelV x u) (ty : TyOf X.K H x t) (e : PySem.W.kitOne X.K t c = some b) (h : ∀ tk, Q (.bool b) { s with toks := tk }) :
    wpAny (model X.prog X.w) A (call (.builtin "isinstance") [u, c]) Q E s := by
  cases ty with
  | non => cases (show u = Value.none from rx); exact PySem.W.kia_one PySem.W.kitx_none I.kIn True.intro e (fun z => nomatch z) h
  | bl y => cases (show u = Value.bool y from rx); exact PySem.W.kia_one PySem.W.kitx_bool I.kIn True.intro e (fun z => nomatch z) h
  | int i => obtain ⟨t, q⟩ := (show ∃ t, u = Value.int i t from rx); cases q; exact PySem.W.kia_one PySem.W.kitx_int I.kIn True.intro e (fun z => nomatch z) h
  | str y => obtain ⟨t, q⟩ := (show ∃ t, u = Value.str y t from rx); cases q; exact PySem.W.kia_one PySem.W.kitx_str I.kIn True.intro e (fun z => nomatch z) h
  | flt y => obtain ⟨t, q⟩ := (show ∃ t, u = Value.float y t from rx); cases q; exact PySem.W.kia_one PySem.W.kitx_float I.kIn True.intro e (fun z => nomatch z) h
  | @lst a xs ea =>
    cases (show u = Value.ref a from rx)
    obtain ⟨_, _, n, _, h1⟩ := (show ObjOk X.prog X.w H s.heap a (.lst xs) from I.hok a _ ea)
    exact PySem.W.kia_one PySem.W.kitx_list I.kIn ⟨_, h1, rfl⟩ e (fun z => nomatch z) h
  | @frz a ob xs ea =>
    cases (show u = Value.ref a from rx)
    obtain ⟨_, _, _, n, _, h1⟩ := (show ObjOk X.prog X.w H s.heap a (.frz ob (.lst xs)) from I.hok a _ ea)
    exact PySem.W.kia_one PySem.W.kitx_list I.kIn ⟨_, h1, rfl⟩ e (fun z => nomatch z) h
  | @tup a xs ea =>
    cases (show u = Value.ref a from rx)
    obtain ⟨_, _, _, p⟩ := (show ObjOk X.prog X.w H s.heap a (.tup xs) from I.hok a _ ea)
    obtain ⟨o, h1, h2, _⟩ := p
    exact PySem.W.kia_one PySem.W.kitx_tuple I.kIn ⟨o, h1, h2⟩ e (fun z => nomatch z) h
  | @dK a kvs ea =>
    cases (show u = Value.ref a from rx)
    obtain ⟨_, _, vs, _, p⟩ := (show ObjOk X.prog X.w H s.heap a (.dK kvs) from I.hok a _ ea)
    obtain ⟨o, es, ep, h1, h2, _⟩ := p
    exact PySem.W.kia_one PySem.W.kitx_dict I.kIn ⟨o, h1, h2.1⟩ e (fun z => nomatch z) h
  | @dT a kvs ea =>
    cases (show u = Value.ref a from rx)
    obtain ⟨_, _, xs, _, o, es, ep, h1, h2, _⟩ := (show ObjOk X.prog X.w H s.heap a (.dT kvs) from I.hok a _ ea)
    exact PySem.W.kia_one PySem.W.kitx_dict I.kIn ⟨o, h1, h2.1⟩ e (fun z => nomatch z) h
  | @ins a C dx fs ea cl ha hn htk hm =>
    cases (show u = Value.ref a from rx)
    obtain ⟨mA, O, _⟩ := ins_get I.hok ea
    obtain ⟨od, J, _⟩ := O.look
    exact PySem.W.kia_one (PySem.W.kitx_own (cl.get _) cl.hd ha hn htk hm) I.kIn J e (fun z => nomatch z) h
end
end L2

namespace L2
open PySem PySem.Spec PyProof.Rows

/-! ### room -/
structure Room (k : Nat) (A : Around) : Prop where
  hd : A.handled = none
  dp : A.depth + 3 * k + 5 < recursionLimit
  un : A.units + 16 * k + 200 < cLine
theorem Room.mono {j k : Nat} {A : Around} (r : Room k A) (h : j ≤ k) : Room j A := ⟨r.hd, by have := r.dp; omega, by have := r.un; omega⟩
theorem Room.deeper {k : Nat} {A : Around} (r : Room (k + 1) A) (env : Env) : Room k (A.deeper env) :=
  ⟨r.hd, by have := r.dp; show A.depth + 1 + 3 * k + 5 < _; omega, by have := r.un; show A.units + 3 + 16 * k + 200 < _; omega⟩
theorem Room.in1 {k : Nat} {A : Around} (r : Room (k + 1) A) : Room k A.in1 :=
  ⟨r.hd, by have := r.dp; show A.depth + 3 * k + 5 < _; omega, by have := r.un; show A.units + 1 + 16 * k + 200 < _; omega⟩
theorem make_depth {A : Around} {C : Addr} {us : List Value} {kw : List (Str × Value)} : (A.under (.builtin "type.__call__" ⟨.ref C :: us, kw⟩)).depth = A.depth + 1 := by
  first | rfl | simp [Around.under, Code.weight, Code.isCreation, Code.isGuard, Code.isCaller, Code.frames, Code.isFrame, guardIds]
theorem make_units {A : Around} {C : Addr} {us : List Value} {kw : List (Str × Value)} : (A.under (.builtin "type.__call__" ⟨.ref C :: us, kw⟩)).units = A.units + 1 := by
  first | rfl | simp [Around.under, Code.cUnits, Code.frames, Code.isFrame]
theorem Room.make {k : Nat} {A : Around} (r : Room (k + 1) A) (C : Addr) (us : List Value) (kw : List (Str × Value)) : Room k (A.under (.builtin "type.__call__" ⟨.ref C :: us, kw⟩)) :=
  ⟨r.hd, by have := r.dp; rw [make_depth]; omega, by have := r.un; rw [make_units]; omega⟩
theorem Room.depth {k : Nat} {A : Around} (r : Room k A) : A.depth < recursionLimit := by have := r.dp; omega
theorem Room.units {k : Nat} {A : Around} (r : Room k A) : A.units + 64 < cLine := by have := r.un; omega
theorem Room.units0 {k : Nat} {A : Around} (r : Room k A) : A.units < cLine := by have := r.un; omega

/-! ### argument lists and displays -/
def tNil : TA := fun _ H Q => Q [] H
def tCons (ta : TE) (tr : TA) : TA := fun σ H Q => ta σ H fun x H1 => tr σ H1 fun xs H2 => Q (x :: xs) H2
section
variable {X : Cx} {e : Expr} {es : List Expr} {te : TE} {t : TA} {pos : Pos}
theorem pa_nil : PA X [] tNil := fun _ _ _ _ H Q I h => Calls.spliced_nil ⟨[], H, I, .nil, h⟩
theorem pa_cons (ha : PE X e te) (hr : PA X es t) (hs : starEach (e :: es) X.env = (false, eval e X.env) :: starEach es X.env := by rfl) : PA X (e :: es) (tCons te t) := by
  intro pos pins s σ H Q I h
  rw [hs]
  show wpAny _ _ (spliced ((false, eval e X.env) :: backTo pos (starEach es X.env))) _ _ s
  refine Calls.spliced_cons (thn (ha pins s σ H _ I h) fun u s1 ⟨x, H1, I1, r1, q1⟩ => ?_)
  exact thn (hr pos pins s1 σ H1 _ I1 q1) fun us s2 ⟨xs, H2, I2, r2, q2⟩ => ⟨x :: xs, H2, I2, .cons r1 r2, q2⟩

/-- a tuple, a list of written items -/
def tTup (t : TA) : TE := fun σ H Q => t σ H fun xs H1 => xs.length ≤ sizeLine ∧ ∀ p, H1 p = none → Q (.ref p) (upd H1 p (.tup xs))
def tLst (t : TA) : TE := fun σ H Q => t σ H fun xs H1 => xs.length ≤ sizeLine ∧ ∀ p, H1 p = none → Q (.ref p) (upd H1 p (.lst xs))
theorem pe_tup {x1} (h : PA X es t) : PE X (.Tuple es x1 pos) (tTup t) := by
  intro pins s σ H Q I hq
  refine wpAny_Tuple_spliced (thn (h pos pins s σ H _ I hq) fun us s1 ⟨xs, H1, I1, r, z, q⟩ => ⟨by rw [← r.length]; exact z, ?_⟩)
  have hf : H1 s1.heap.objs.size = none := I1.hok.fresh (Nat.le_refl _)
  refine ⟨.ref s1.heap.objs.size, upd H1 s1.heap.objs.size (.tup xs), I1.laid (t' := s1.toks) (fun b u e => Heap.get?_push_of_some _ e) (Nat.le_refl _) ?_, rfl, q _ hf⟩
  exact ⟨z, us, r, ⟨_, Heap.get?_push_size _ rfl, rfl, _, rfl⟩⟩
theorem pe_lst (h : PA X es t) : PE X (.List es pos) (tLst t) := by
  intro pins s σ H Q I hq
  refine wpAny_List_spliced (thn (h pos pins s σ H _ I hq) fun us s1 ⟨xs, H1, I1, r, z, q⟩ => ⟨by rw [← r.length]; exact z, ?_⟩)
  have hf : H1 s1.heap.objs.size = none := I1.hok.fresh (Nat.le_refl _)
  refine ⟨.ref s1.heap.objs.size, upd H1 s1.heap.objs.size (.lst xs), I1.laid (t' := s1.toks) (fun b u e => Heap.get?_push_of_some _ e) (Nat.le_refl _) ?_, rfl, q _ hf⟩
  exact ⟨z, us, 0, r, Heap.get?_push_size _ rfl⟩
end

/-! ### what a def promises -/
/-- a def's promise: the bound arguments in the parameters' order, the heap, the wanted end, the wanted exception -/
abbrev Sp := List V → Hp → VK → XK → Prop
/-- how an exception lies behind a call (file 08 gives it): the callers' frames, abstract heap and state ahead of the call, the wish, the exception, the state -/
abbrev CXT := List Env → Hp → Shared → XK → Value → Shared → Prop

/-- the state at a call -/
structure Env0 (P : Program) (w : World) (K : PySem.W.Frag) (mg : Str → Option Value) (base : Heap) (A : Around) (outer : List Env) (s : Shared) (H : Hp) : Prop where
  frames : A.frames = some outer
  mod : Mod K mg base
  bs : ∀ b o, base.get? b = some o → s.heap.get? b = some o ∧ H b = none
  bsz : base.objs.size ≤ s.heap.objs.size
  funs : s.heap.FunFrames base outer
  frf : ∀ b ∈ frs outer, H b = none
  hok : HOk P w H s.heap
  bare : AllBare s.gens
/-- a call's end -/
def CE (outer : List Env) (P : Program) (w : World) (H : Hp) (s : Shared) (Q : VK) (u : Value) (s' : Shared) : Prop :=
  ∃ v H', s'.os = s.os ∧ AllBare s'.gens ∧ Un (frs outer) [] H H' s.heap s'.heap ∧ HOk P w H' s'.heap ∧ RelV v u ∧ Q v H'
def CR (CX : CXT) (outer : List Env) (P : Program) (w : World) (H : Hp) (s : Shared) (Q : VK) (E : XK) (r : Result) (s' : Shared) : Prop :=
  match r with
  | .ok (.ret u) => CE outer P w H s Q u s'
  | .ok _ => False
  | .error e => CX outer H s E e s'
structure FnOk (P : Program) (w : World) (K : PySem.W.Frag) (mg : Str → Option Value) (base : Heap) (CX : CXT) (k : Nat) (f : Addr) (fd : FuncData) (ps : List Str) (sp : Sp) : Prop where
  len : ∀ vs H Q E, sp vs H Q E → vs.length = ps.length
  run : ∀ (A : Around) (outer : List Env) (s : Shared) (H : Hp) (args : Args) (us : List Value) (vs : List V) (Q : VK) (E : XK), Room k A → Env0 P w K mg base A outer s H → BindsTo s fd args (ps.zip us) → Vals vs us → sp vs H Q E →
    codeAny (model P w) A (.call (.ref f) args) (CR CX outer P w H s Q E) s
theorem FnOk.mono {P : Program} {w : World} {K : PySem.W.Frag} {mg : Str → Option Value} {base : Heap} {CX : CXT} {j k : Nat} {f : Addr} {fd : FuncData} {ps : List Str} {sp : Sp} (F : FnOk P w K mg base CX j f fd ps sp) (h : j ≤ k) :
    FnOk P w K mg base CX k f fd ps sp := ⟨F.len, fun A outer s H args us vs Q E hr => F.run A outer s H args us vs Q E (hr.mono h)⟩
/-- a weaker promise -/
theorem FnOk.imp {P : Program} {w : World} {K : PySem.W.Frag} {mg : Str → Option Value} {base : Heap} {CX : CXT} {k : Nat} {f : Addr} {fd : FuncData} {ps : List Str} {sp sp' : Sp} (F : FnOk P w K mg base CX k f fd ps sp)
    (h : ∀ vs H Q E, sp' vs H Q E → sp vs H Q E) : FnOk P w K mg base CX k f fd ps sp' :=
  ⟨fun vs H Q E q => F.len vs H Q E (h _ _ _ _ q), fun A outer s H args us vs Q E hr he hb hv hs => F.run A outer s H args us vs Q E hr he hb hv (h _ _ _ _ hs)⟩

theorem Env0.make {P : Program} {w : World} {K : PySem.W.Frag} {mg : Str → Option Value} {base : Heap} {A : Around} {outer : List Env} {s : Shared} {H : Hp} (e : Env0 P w K mg base A outer s H) (C : Addr) (us : List Value) (kw : List (Str × Value)) :
    Env0 P w K mg base (A.under (.builtin "type.__call__" ⟨.ref C :: us, kw⟩)) outer s H := ⟨by first | exact e.frames | (simpa [Around.under, Code.envs, Code.isFrame, pushEnvs] using e.frames), e.mod, e.bs, e.bsz, e.funs, e.frf, e.hok, e.bare⟩
theorem Env0.in1 {P : Program} {w : World} {K : PySem.W.Frag} {mg : Str → Option Value} {base : Heap} {A : Around} {outer : List Env} {s : Shared} {H : Hp} (e : Env0 P w K mg base A outer s H) :
    Env0 P w K mg base A.in1 outer s H := ⟨e.frames, e.mod, e.bs, e.bsz, e.funs, e.frf, e.hok, e.bare⟩

section
variable {X : Cx} {pins : List (Addr × Obj)} {σ : St} {H : Hp} {s s' : Shared}
/-- from a body: what a callee wants -/
theorem Inv.env0 (I : Inv X pins σ H s) : Env0 X.prog X.w X.K X.mg X.base X.A X.stack s H :=
  ⟨I.ok.frames, I.ok.mod, I.bs, Nat.le_trans I.ok.bsz I.sz, I.stack, I.stkFree, I.hok, I.bare⟩
/-- behind a call -/
theorem Inv.after {Q : VK} {u : Value} (I : Inv X pins σ H s) (h : CE X.stack X.prog X.w H s Q u s') : EP X pins σ Q u s' := by
  obtain ⟨v, H', os, bare, un, hok, r, q⟩ := h
  obtain ⟨hh, g, d, t, os'⟩ := s'
  obtain rfl : os' = s.os := os
  exact ⟨v, H', I.call (h' := hh) (g' := g) (d' := d) (t' := t) (ch := []) un hok bare (fun b z => absurd z (by simp)), r, q⟩
end

/-! ### calls -/
/-- f(..): the written arguments, then the defaults dvs; E: what is wanted of an exception -/
def tCall (sp : Sp) (dvs : List V) (E : XK) (t : TA) : TE := fun σ H Q => t σ H fun vs H1 => sp (vs ++ dvs) H1 Q E
/-- o.m(..) of an instance of the class at C -/
def tMeth (C : Addr) (m : Str) (sp : Sp) (dvs : List V) (E : XK) (ta : TE) (t : TA) : TE := fun σ H Q => ta σ H fun x H1 => ∃ a dx fs, x = .ref a ∧ H1 a = some (.ins C dx fs) ∧ fs.lookup m = none ∧
  t σ H1 fun vs H2 => sp (x :: (vs ++ dvs)) H2 Q E
/-- C(..): a new instance and its dict, then __init__ -/
def tMake (C : Addr) (sp : Sp) (dvs : List V) (E : XK) (t : TA) : TE := fun σ H Q => t σ H fun vs H1 => ∀ x dx, H1 x = none → H1 dx = none → dx ≠ x →
  sp (.ref x :: (vs ++ dvs)) (upd (upd H1 dx (.own x)) x (.ins C dx [])) (fun v H2 => v = .non ∧ Q (.ref x) H2) E

/-- how the parameters are bound: us the positional arguments, kw the keywords' values by name, ds the defaults that fill up -/
def Binds (K : PySem.W.Frag) (fd : FuncData) (ps : List Str) (ds : List Value) : Prop :=
  ∀ (s : Shared) (us : List Value), K.In s.heap → (us ++ ds).length = ps.length → BindsTo s fd ⟨us, []⟩ (ps.zip (us ++ ds))
/-- every parameter is given -/
theorem Binds.all {K : PySem.W.Frag} {fd : FuncData} {ps : List Str} (h : ∀ us : List Value, us.length = ps.length → bindArgs fd ⟨us, []⟩ = pure (ps.zip us)) : Binds K fd ps [] := fun s us _ hl => by
  rw [List.append_nil] at hl ⊢
  exact .of_eq (h us hl)

/-- an exception of a callee reaches what this body wants of exceptions -/
def Passes (CX : CXT) (X : Cx) (E : XK) : Prop := ∀ (pins : List (Addr × Obj)) (σ : St) (H : Hp) (s : Shared) (e : Value) (s' : Shared), Inv X pins σ H s → CX X.stack H s E e s' → X.xe e s'

section
variable {X : Cx} {CX : CXT} {k : Nat} {f C : Addr} {fd : FuncData} {ps : List Str} {sp : Sp} {dvs : List V} {ds : List Value} {E : XK} {x m : Str} {p pos apos : Pos} {e o : Expr} {es : List Expr} {ta : TE} {t : TA}

/-- the callee runs -/
theorem run_fn {pins : List (Addr × Obj)} {σ : St} {H : Hp} {s : Shared} {Q : VK} {us : List Value} {vs : List V} (F : FnOk X.prog X.w X.K X.mg X.base CX k f fd ps sp) (hr : Room k X.A) (hb : Binds X.K fd ps ds) (hd : Vals dvs ds) (hx : Passes CX X E)
    (I : Inv X pins σ H s) (r : Vals vs us) (h : sp (vs ++ dvs) H Q E) : wpAny (model X.prog X.w) X.A (call (.ref f) us) (EP X pins σ Q) X.xe s := by
  have r2 : Vals (vs ++ dvs) (us ++ ds) := r.append hd
  have hl : (us ++ ds).length = ps.length := by rw [← r2.length]; exact F.len _ _ _ _ h
  refine wpAny_call (codeAny_mono (F.run X.A X.stack s H ⟨us, []⟩ (us ++ ds) (vs ++ dvs) Q E hr I.env0 (hb s us I.kIn hl) r2 h) fun r s' hq => ?_)
  cases r with
  | error e => exact hx pins σ H s e s' I hq
  | ok fl =>
    cases fl with
    | ret u => exact I.after hq
    | next => exact False.elim hq
    | brk => exact False.elim hq
    | cont => exact False.elim hq

theorem pe_call (F : FnOk X.prog X.w X.K X.mg X.base CX k f fd ps sp) (hr : Room k X.A) (hg : Gl X x) (hm : X.mg x = some (.ref f)) (hk : PySem.W.keepIn X.K (.ref f) = true) (hb : Binds X.K fd ps ds) (hd : Vals dvs ds) (hx : Passes CX X E)
    (ha : PA X (e :: es) t) (hdb : (x == ("__debug__" : Str)) = false := by decide) (he : starEach (e :: es) X.env = (false, eval e X.env) :: starEach es X.env := by rfl) (hpl : (backTo pos (starEach es X.env)).any (·.1) = false := by rfl) :
    PE X (.Call (.Name x p) (e :: es) [] pos) (tCall sp dvs E t) := by
  intro pins s σ H Q I h
  refine wpAny_Call_Name_kw (ld_glob I hg hm ?_ hdb)
  refine PySem.W.callWith_K (h₀ := X.base) I.ok.mod.kin hk (thn (ha pos pins s σ H _ I h) fun us s1 ⟨vs, H1, I1, r, q⟩ => ⟨I1.kIn, ?_⟩) he hpl
  exact run_fn F hr hb hd hx I1 r q
theorem pe_call0 (F : FnOk X.prog X.w X.K X.mg X.base CX k f fd ps sp) (hr : Room k X.A) (hg : Gl X x) (hm : X.mg x = some (.ref f)) (hk : PySem.W.keepIn X.K (.ref f) = true) (hb : Binds X.K fd ps ds) (hd : Vals dvs ds) (hx : Passes CX X E)
    (hdb : (x == ("__debug__" : Str)) = false := by decide) : PE X (.Call (.Name x p) [] [] pos) (tCall sp dvs E tNil) := by
  intro pins s σ H Q I h
  refine wpAny_Call_Name_kw (ld_glob I hg hm ?_ hdb)
  exact PySem.W.callWith_K0 I.kIn hk (run_fn (us := []) F hr hb hd hx I .nil h)

/-- o.m(e, ..) -/
theorem pe_meth {pl : Sem Bool} (he : PE X o ta) (c : Cls X.K C) (hm : Meth X.K C m f) (F : FnOk X.prog X.w X.K X.mg X.base CX k f fd ps sp) (hr : Room k X.A) (hb : Binds X.K fd ps ds) (hd : Vals dvs ds) (hx : Passes CX X E) (ha : PA X (e :: es) t)
    (hst : starEach (e :: es) X.env = (false, eval e X.env) :: starEach es X.env := by rfl) (hpl : (backTo pos (starEach es X.env)).any (·.1) = false := by rfl)
    (ht : eval (.Call (.Attribute o m apos) (e :: es) [] pos) X.env = (do
      let ov ← eval o X.env
      standAt apos.atName
      let (f, first) ← holding [ov] (getMethod ov m pl)
      callWith pos f first (backTo pos (starEach (e :: es) X.env)) (backToKw pos (keywordEach [] X.env))) := by rfl) :
    PE X (.Call (.Attribute o m apos) (e :: es) [] pos) (tMeth C m sp dvs E ta t) := by
  intro pins s σ H Q I h
  refine PySem.W.methodCall_KW (pl := pl) (thn (he pins s σ H _ I h) fun u s1 ⟨x, H1, I1, rx, a, dx, fs, ex, ea, l, q⟩ => ?_) ht
  subst ex
  obtain rfl : u = Value.ref a := rx
  refine getmeth_ok I1 ea c hm l ?_
  refine PySem.W.callWith_K (first := [.ref a]) (h₀ := X.base) I.ok.mod.kin hm.kp (thn (ha pos pins s1 σ H1 _ I1 q) fun us s2 ⟨vs, H2, I2, r, q2⟩ => ⟨I2.kIn, ?_⟩) hst hpl
  exact run_fn (us := .ref a :: us) (vs := .ref a :: vs) F hr hb hd hx I2 (.cons rfl r) q2
/-- o.m() -/
theorem pe_meth0 {pl : Sem Bool} (he : PE X o ta) (c : Cls X.K C) (hm : Meth X.K C m f) (F : FnOk X.prog X.w X.K X.mg X.base CX k f fd ps sp) (hr : Room k X.A) (hb : Binds X.K fd ps ds) (hd : Vals dvs ds) (hx : Passes CX X E)
    (ht : eval (.Call (.Attribute o m apos) [] [] pos) X.env = (do
      let ov ← eval o X.env
      standAt apos.atName
      let (f, first) ← holding [ov] (getMethod ov m pl)
      callWith pos f first (backTo pos (starEach [] X.env)) (backToKw pos (keywordEach [] X.env))) := by rfl) :
    PE X (.Call (.Attribute o m apos) [] [] pos) (tMeth C m sp dvs E ta tNil) := by
  intro pins s σ H Q I h
  refine PySem.W.methodCall_KW (pl := pl) (thn (he pins s σ H _ I h) fun u s1 ⟨x, H1, I1, rx, a, dx, fs, ex, ea, l, q⟩ => ?_) ht
  subst ex
  obtain rfl : u = Value.ref a := rx
  refine getmeth_ok I1 ea c hm l ?_
  exact PySem.W.callWith_K0 (first := [.ref a]) I1.kIn hm.kp (run_fn (us := [.ref a]) (vs := [.ref a]) F hr hb hd hx I1 (.cons rfl .nil) q)

/-- what a class must have to be made -/
structure Mk (K : PySem.W.Frag) (C f : Addr) : Prop where
  makes : PySem.W.makesIn K C = true
  init : PySem.W.findIn K (.ref C) "__init__" = some (some (.ref f))
  fn : PySem.W.isFn K (.ref f) = true
  kp : PySem.W.keepIn K (.ref C) = true

theorem run_make {pins : List (Addr × Obj)} {σ : St} {H : Hp} {s : Shared} {Q : VK} {us : List Value} {vs : List V} (M : Mk X.K C f) (F : FnOk X.prog X.w X.K X.mg X.base CX k f fd ps sp) (hr : Room (k + 1) X.A) (hb : Binds X.K fd ps ds) (hd : Vals dvs ds)
    (hx : Passes CX X E) (I : Inv X pins σ H s) (r : Vals vs us)
    (h : ∀ x dx, H x = none → H dx = none → dx ≠ x → sp (.ref x :: (vs ++ dvs)) (upd (upd H dx (.own x)) x (.ins C dx [])) (fun v H2 => v = .non ∧ Q (.ref x) H2) E) :
    wpAny (model X.prog X.w) X.A (call (.ref C) us) (EP X pins σ Q) X.xe s := by
  have hq := h (s.heap.objs.size + 1) s.heap.objs.size (I.hok.fresh (Nat.le_succ _)) (I.hok.fresh (Nat.le_refl _)) (Nat.ne_of_lt (Nat.lt_succ_self _))
  have I2 := Inv.made (C := C) I
  have r2 : Vals (V.ref (s.heap.objs.size + 1) :: (vs ++ dvs)) (Value.ref (s.heap.objs.size + 1) :: (us ++ ds)) := .cons rfl (r.append hd)
  have hl : (Value.ref (s.heap.objs.size + 1) :: us ++ ds).length = ps.length := by
    have e := r2.length
    rw [F.len _ _ _ _ hq] at e
    exact e.symm
  refine wpAny_call (make_map (f := f) I.kIn M.makes M.init (beq_iff_eq.mp M.fn) (codeAny_mono (F.run _ X.stack _ _ ⟨Value.ref (s.heap.objs.size + 1) :: us, []⟩ (Value.ref (s.heap.objs.size + 1) :: (us ++ ds)) _ _ E (hr.make C us [])
    (I2.env0.make C us []) (hb _ (Value.ref (s.heap.objs.size + 1) :: us) I2.kIn hl) r2 hq) fun r s' hq' => ?_))
  cases r with
  | error e => exact hx pins σ _ _ e s' I2 hq'
  | ok fl =>
    cases fl with
    | ret u =>
      obtain ⟨v, H', I3, rv, ev, q3⟩ := I2.after hq'
      subst ev
      exact ⟨rv, ⟨V.ref (s.heap.objs.size + 1), H', I3, rfl, q3⟩⟩
    | next => exact False.elim hq'
    | brk => exact False.elim hq'
    | cont => exact False.elim hq'
theorem pe_make (M : Mk X.K C f) (F : FnOk X.prog X.w X.K X.mg X.base CX k f fd ps sp) (hr : Room (k + 1) X.A) (hg : Gl X x) (hm : X.mg x = some (.ref C)) (hb : Binds X.K fd ps ds) (hd : Vals dvs ds) (hx : Passes CX X E)
    (ha : PA X (e :: es) t) (hdb : (x == ("__debug__" : Str)) = false := by decide) (he : starEach (e :: es) X.env = (false, eval e X.env) :: starEach es X.env := by rfl) (hpl : (backTo pos (starEach es X.env)).any (·.1) = false := by rfl) :
    PE X (.Call (.Name x p) (e :: es) [] pos) (tMake C sp dvs E t) := by
  intro pins s σ H Q I h
  refine wpAny_Call_Name_kw (ld_glob I hg hm ?_ hdb)
  refine PySem.W.callWith_K (h₀ := X.base) I.ok.mod.kin M.kp (thn (ha pos pins s σ H _ I h) fun us s1 ⟨vs, H1, I1, r, q⟩ => ⟨I1.kIn, ?_⟩) he hpl
  exact run_make M F hr hb hd hx I1 r q
theorem pe_make0 (M : Mk X.K C f) (F : FnOk X.prog X.w X.K X.mg X.base CX k f fd ps sp) (hr : Room (k + 1) X.A) (hg : Gl X x) (hm : X.mg x = some (.ref C)) (hb : Binds X.K fd ps ds) (hd : Vals dvs ds) (hx : Passes CX X E)
    (hdb : (x == ("__debug__" : Str)) = false := by decide) : PE X (.Call (.Name x p) [] [] pos) (tMake C sp dvs E tNil) := by
  intro pins s σ H Q I h
  refine wpAny_Call_Name_kw (ld_glob I hg hm ?_ hdb)
  exact PySem.W.callWith_K0 I.kIn M.kp (run_make (us := []) M F hr hb hd hx I .nil h)
end

/-! ### keywords -/
/-- the values of the keywords, from the left -/
def PK (X : Cx) (kws : List Keyword) (t : TA) : Prop :=
  ∀ (pos : Pos) (pins : List (Addr × Obj)) (s : Shared) (σ : St) (H : Hp) (Q : List V → Hp → Prop), Inv X pins σ H s → t σ H Q → wpAny (model X.prog X.w) X.A (evalAll ((backToKw pos (keywordEach kws X.env)).map (·.2))) (AP X pins σ Q) X.xe s
section
variable {X : Cx} {CX : CXT} {k : Nat} {f C : Addr} {fd : FuncData} {ps ks : List Str} {sp : Sp} {E : XK} {x m : Str} {p pos apos kpos : Pos} {e o : Expr} {es : List Expr} {kws : List Keyword} {te ta : TE} {t tk : TA} {nm : Option Str}
theorem pk_nil : PK X [] tNil := fun _ _ _ _ H Q I h => wpAny_evalAll_nil ⟨[], H, I, .nil, h⟩
theorem pk_cons (ha : PE X e te) (hr : PK X kws t) : PK X (⟨nm, e, kpos⟩ :: kws) (tCons te t) := by
  intro pos pins s σ H Q I h
  show wpAny _ _ (evalAll ((do let v ← eval e X.env; standAt pos; pure v) :: (backToKw pos (keywordEach kws X.env)).map (·.2))) _ _ s
  refine wpAny_evalAll_cons (wpAny_bind (thn (ha pins s σ H _ I h) fun u s1 ⟨x, H1, I1, r1, q1⟩ => wpAny_bind (wpAny_standAt (wpAny_pure ?_))))
  exact thn (hr pos pins s1 σ H1 _ I1 q1) fun us s2 ⟨xs, H2, I2, r2, q2⟩ => ⟨x :: xs, H2, I2, .cons r1 r2, q2⟩

/-- how a call with keywords binds: g puts the positional values us and the keywords' values ws (names ks) in the parameters' order, defaults among them -/
structure KBinds (K : PySem.W.Frag) (fd : FuncData) (ps ks : List Str) (g : List Value → List Value → List Value) (gV : List V → List V → List V) : Prop where
  to : ∀ (s : Shared) (us ws : List Value), K.In s.heap → (g us ws).length = ps.length → BindsTo s fd ⟨us, ks.zip ws⟩ (ps.zip (g us ws))
  rel : ∀ {vs : List V} {us : List Value} {zs : List V} {ws : List Value}, Vals vs us → Vals zs ws → Vals (gV vs zs) (g us ws)
def tCallK (sp : Sp) (gV : List V → List V → List V) (E : XK) (t tk : TA) : TE := fun σ H Q => t σ H fun vs H1 => tk σ H1 fun zs H2 => sp (gV vs zs) H2 Q E
variable {g : List Value → List Value → List Value} {gV : List V → List V → List V}
theorem run_fnk {pins : List (Addr × Obj)} {σ : St} {H : Hp} {s : Shared} {Q : VK} {us ws : List Value} {vs zs : List V} (F : FnOk X.prog X.w X.K X.mg X.base CX k f fd ps sp) (hr : Room k X.A) (hb : KBinds X.K fd ps ks g gV) (hx : Passes CX X E)
    (I : Inv X pins σ H s) (r : Vals vs us) (rz : Vals zs ws) (h : sp (gV vs zs) H Q E) : wpAny (model X.prog X.w) X.A (call (.ref f) us (ks.zip ws)) (EP X pins σ Q) X.xe s := by
  have r2 := hb.rel r rz
  have hl : (g us ws).length = ps.length := by rw [← r2.length]; exact F.len _ _ _ _ h
  refine wpAny_call (codeAny_mono (F.run X.A X.stack s H ⟨us, ks.zip ws⟩ (g us ws) (gV vs zs) Q E hr I.env0 (hb.to s us ws I.kIn hl) r2 h) fun r s' hq => ?_)
  cases r with
  | error e => exact hx pins σ H s e s' I hq
  | ok fl =>
    cases fl with
    | ret u => exact I.after hq
    | next => exact False.elim hq
    | brk => exact False.elim hq
    | cont => exact False.elim hq
/-- f(e, .., k = v, ..) -/
theorem pe_callK (F : FnOk X.prog X.w X.K X.mg X.base CX k f fd ps sp) (hr : Room k X.A) (hg : Gl X x) (hm : X.mg x = some (.ref f)) (hk : PySem.W.keepIn X.K (.ref f) = true) (hb : KBinds X.K fd ps ks g gV) (hx : Passes CX X E)
    (ha : PA X (e :: es) t) (hkw : PK X kws tk) (hall : (backToKw pos (keywordEach kws X.env)).all (·.1.isSome) = true := by rfl) (hks : (backToKw pos (keywordEach kws X.env)).filterMap (·.1) = ks := by rfl)
    (hdb : (x == ("__debug__" : Str)) = false := by decide) (he : starEach (e :: es) X.env = (false, eval e X.env) :: starEach es X.env := by rfl)
    (hpl : ((backTo pos (starEach (e :: es) X.env)).any (·.1) || (backToKw pos (keywordEach kws X.env)).any (·.1.isNone)) = false := by rfl) :
    PE X (.Call (.Name x p) (e :: es) kws pos) (tCallK sp gV E t tk) := by
  intro pins s σ H Q I h
  refine wpAny_Call_Name_kw (ld_glob I hg hm ?_ hdb)
  refine PySem.W.callWith_KW (h₀ := X.base) I.ok.mod.kin hk hall (thn (ha pos pins s σ H _ I h) fun us s1 ⟨vs, H1, I1, r, q⟩ => ?_) hpl he
  refine thn (hkw pos pins s1 σ H1 _ I1 q) fun ws s2 ⟨zs, H2, I2, rz, q2⟩ => ⟨I2.kIn, ?_⟩
  rw [hks]
  exact run_fnk F hr hb hx I2 r rz q2
end

/-! ### a def's body keeps its promise -/
/-- names: the parameters first -/
structure FnScope (N P : List Str) (sc : Scope) : Prop where
  kind : sc.kind = .function
  co : sc.isCoroutine = false
  gen : sc.isGenerator = false
  nd : N.Nodup
  pre : N.take P.length = P
  par : ∀ x ∈ P, sc.names.lookup x = some .local ∨ sc.names.lookup x = some .cell
  nofree : ∀ y ∈ sc.names, y.2 ≠ .free

theorem bindL_out {kindOf : Str → Option NameKind} {x : Str} : ∀ {binds : List (Str × Value)} {m : Str → Option Value}, (∀ v, (x, v) ∉ binds) → bindL kindOf binds m x = m x
  | [], _, _ => rfl
  | (n, v) :: r, m, h => by
    unfold bindL
    rw [bindL_out fun w hw => h w (List.mem_cons_of_mem _ hw)]
    split
    · have : x ≠ n := by rintro rfl; exact h v List.mem_cons_self
      simp [this]
    · rfl
theorem bindC_out {kindOf : Str → Option NameKind} {x : Str} : ∀ {binds : List (Str × Value)} {m : Str → Option Value}, (∀ v, (x, v) ∉ binds) → bindC kindOf binds m x = m x
  | [], _, _ => rfl
  | (n, v) :: r, m, h => by
    unfold bindC
    rw [bindC_out fun w hw => h w (List.mem_cons_of_mem _ hw)]
    split
    · rfl
    · have : x ≠ n := by rintro rfl; exact h v List.mem_cons_self
      simp [this]
theorem bindL_get {kindOf : Str → Option NameKind} {x : Str} {v : Value} : ∀ {P : List Str} {vs : List Value} {i : Nat} {m : Str → Option Value}, P.Nodup → P[i]? = some x → vs[i]? = some v → kindOf x = some .local →
    bindL kindOf (P.zip vs) m x = some v
  | [], _, _, _, _, h, _, _ => by simp at h
  | _ :: _, [], _, _, _, _, h, _ => by simp at h
  | p :: P, w :: vs, 0, m, nd, h1, h2, hk => by
    simp at h1 h2; subst h1; subst h2
    show bindL kindOf ((p, w) :: P.zip vs) m p = _
    unfold bindL
    rw [bindL_out fun v hv => (List.nodup_cons.mp nd).1 (List.of_mem_zip hv).1, if_pos hk]
    simp
  | p :: P, w :: vs, i + 1, m, nd, h1, h2, hk => by
    show bindL kindOf ((p, w) :: P.zip vs) m x = _
    unfold bindL
    exact bindL_get (i := i) (List.nodup_cons.mp nd).2 (by simpa using h1) (by simpa using h2) hk
theorem bindC_get {kindOf : Str → Option NameKind} {x : Str} {v : Value} : ∀ {P : List Str} {vs : List Value} {i : Nat} {m : Str → Option Value}, P.Nodup → P[i]? = some x → vs[i]? = some v → kindOf x ≠ some .local →
    bindC kindOf (P.zip vs) m x = some v
  | [], _, _, _, _, h, _, _ => by simp at h
  | _ :: _, [], _, _, _, _, h, _ => by simp at h
  | p :: P, w :: vs, 0, m, nd, h1, h2, hk => by
    simp at h1 h2; subst h1; subst h2
    show bindC kindOf ((p, w) :: P.zip vs) m p = _
    unfold bindC
    rw [bindC_out fun v hv => (List.nodup_cons.mp nd).1 (List.of_mem_zip hv).1, if_neg hk]
    simp
  | p :: P, w :: vs, i + 1, m, nd, h1, h2, hk => by
    show bindC kindOf ((p, w) :: P.zip vs) m x = _
    unfold bindC
    exact bindC_get (i := i) (List.nodup_cons.mp nd).2 (by simpa using h1) (by simpa using h2) hk

/-- the names' values at the entry -/
def start (N : List Str) (vs : List V) : St := vs.map some ++ List.replicate (N.length - vs.length) none

/-- the context of a def's body, at its entry; an exception leaves the frame, then lies as CX says -/
def cxOf (CX : CXT) (P : Program) (w : World) (K : PySem.W.Frag) (mg : Str → Option Value) (base : Heap) (N : List Str) (qual : Str) (scope : Scope) (f : Addr) (cd : Value) (A : Around) (outer : List Env) (s : Shared) (H : Hp) (E : XK) : Cx where
  prog := P
  w := w
  K := K
  mg := mg
  base := base
  A := A.deeper (envOfC qual scope s.heap.objs.size f cd)
  N := N
  s₀ := s
  H₀ := H
  env := envOfC qual scope s.heap.objs.size f cd
  outer := outer
  stack := envOfC qual scope s.heap.objs.size f cd :: outer
  ex := []
  calm := true
  fn := fun _ => true
  pn := []
  xe := fun e s' => wpAny (model P w) (A.deeper (envOfC qual scope s.heap.objs.size f cd)) (leaving (envOfC qual scope s.heap.objs.size f cd) e) (fun _ s'' => CX outer H s E e s'') (fun e' s'' => CX outer H s E e' s'') s'

theorem cell_has {sc : Scope} {n : Nat} {x : Str} (h : sc.names.lookup x = some .cell) : ∃ c, (cellsFrom n sc.names []).lookup x = some c := by
  have q := PySem.W.cellsFrom_some sc.names n [] (.inl h)
  exact Option.isSome_iff_exists.mp q

theorem inv_start {CX : CXT} {P : Program} {w : World} {K : PySem.W.Frag} {mg : Str → Option Value} {base : Heap} {N ps : List Str} {qual : Str} {scope : Scope} {f : Addr} {cd : Value} {A : Around} {outer : List Env} {s s1 : Shared} {H : Hp} {E : XK} {us : List Value} {vs : List V}
    (S : FnScope N ps scope) (hd : A.handled = none) (e0 : Env0 P w K mg base A outer s H) (hl : vs.length = ps.length) (r : Vals vs us)
    (x : InCallC s s.heap.objs.size (bindL (envOfC qual scope s.heap.objs.size f cd).kindOf (ps.zip us) fun _ => none) (cellsFrom (s.heap.objs.size + 1) scope.names []) (bindC (envOfC qual scope s.heap.objs.size f cd).kindOf (ps.zip us) fun _ => none) s1) :
    Inv (cxOf CX P w K mg base N qual scope f cd A outer s H E) [] (start N vs) H s1 := by
  have hpl : ps.length ≤ N.length := by have := congrArg List.length S.pre; rw [List.length_take] at this; omega
  obtain ⟨h1, tk, rfl, hk⟩ := x.done
  have noA : ∀ b : Addr, b ∉ (cxOf CX P w K mg base N qual scope f cd A outer s H E).ex := fun b z => absurd (show b ∈ ([] : List Addr) from z) (by simp)
  refine ⟨⟨e0.mod, S.kind, rfl, rfl, Nat.le_refl _, fun y z c h1 h2 => ?_, fun y hy => ?_, fun y c _ h => ?_, fun _ => hd, Around.frames_deeper e0.frames, .inr ⟨rfl, rfl⟩, fun b z => absurd z (noA b), e0.bs, e0.bsz, fun b _ _ => noA b, fun b z => absurd z (noA b), e0.funs, e0.frf⟩,
    rfl, e0.bare, Un.kept hk, ⟨_, x.toInCall.ns, fun i y v h1 h2 h3 => ?_⟩, fun y c h => ⟨_, x.cell y c h⟩, e0.hok.fresh (Nat.le_refl _), fun y c h => ?_, fun p hp => absurd (show p ∈ ([] : List (Addr × Obj)) from hp) (by simp), e0.hok.kept hk, ?_⟩
  · exact name_of_addr x.apart (PySem.mem_of_lookup h1) (PySem.mem_of_lookup h2)
  · have hy : scope.names.lookup y = some .cell ∨ scope.names.lookup y = some .free := hy
    rcases hy with hy | hy
    · exact cell_has hy
    · exact absurd rfl (S.nofree _ (PySem.mem_of_lookup hy))
  · exact Nat.le_of_lt (x.above y c (PySem.mem_of_lookup h))
  · have hi : i < vs.length := by
      unfold start at h2
      by_cases hi : i < vs.length
      · exact hi
      · rw [List.getElem?_append_right (by simpa using hi)] at h2
        rw [List.getElem?_replicate] at h2
        split at h2 <;> cases h2
    have ha : vs[i]? = some v := by
      unfold start at h2
      rw [List.getElem?_append_left (by simpa using hi), List.getElem?_map] at h2
      cases e : vs[i]? with
      | none => rw [e] at h2; cases h2
      | some a => rw [e] at h2; cases h2; rfl
    obtain ⟨u, hu, rv⟩ := r.get ha
    have hp : ps[i]? = some y := by
      rw [← S.pre, List.getElem?_take_of_lt (by omega)]; exact h1
    have ndP : ps.Nodup := by rw [← S.pre]; exact S.nd.sublist (List.take_sublist _ _)
    refine ⟨u, rv, ?_⟩
    rcases S.par y (List.mem_of_getElem? hp) with k | k
    · exact .inl ⟨k, bindL_get ndP hp hu k⟩
    · obtain ⟨c, e⟩ := cell_has (n := s.heap.objs.size + 1) k
      refine .inr ⟨.inl k, c, e, ?_⟩
      have q := x.cell y c e
      rw [bindC_get ndP hp hu (by show scope.names.lookup y ≠ _; rw [k]; decide)] at q
      exact q
  · exact e0.hok.fresh (Nat.le_of_lt (x.above y c (PySem.mem_of_lookup h)))
  · unfold start
    show _ = N.length
    rw [List.length_append, List.length_map, List.length_replicate]
    omega

/-- THE RULE: a def (or a method) of the text, by its body. The body's reading t is chosen for each entry; it is run at the parameters' values -/
theorem fn_of {CX : CXT} {P : Program} {w : World} {K : PySem.W.Frag} {mg : Str → Option Value} {base : Heap} {k : Nat} {f : Addr} {name qual : Str} {params : Arguments} {body : List Stmt} {scope : Scope} {dV kV doc pm cdv ct oc : Value} {an od : Option Addr}
    {osl : Array (Option Value)} {N ps : List Str} {sp : Sp} (lk : K.lookup f = some ⟨oc, od, .func (PySem.W.fnOf name qual params body scope dV kV doc pm an cdv ct), osl⟩) (hcd : PySem.W.codeIn K cdv qual = true) (S : FnScope N ps scope)
    (len : ∀ vs H Q E, sp vs H Q E → vs.length = ps.length)
    (hbody : ∀ (A : Around) (outer : List Env) (s : Shared) (H : Hp) (vs : List V) (Q : VK) (E : XK), Room k (A.deeper (envOfC qual scope s.heap.objs.size f cdv)) → sp vs H Q E →
      ∃ t, PSs (cxOf CX P w K mg base N qual scope f cdv A outer s H E) body t ∧ t { nx := fun _ H' => Q .non H', rt := Q } (start N vs) H) :
    FnOk P w K mg base CX (k + 1) f (PySem.W.fnOf name qual params body scope dV kV doc pm an cdv ct) ps sp := by
  refine ⟨len, fun A outer s H args us vs Q E hr e0 hb r hsp => ?_⟩
  have hl := len _ _ _ _ hsp
  have KX : K.In s.heap := e0.mod.kin.keeps fun b o e => (e0.bs b o e).1
  have lim : s.heap.NoLimit := e0.mod.nolimit.keeps fun b o e => (e0.bs b o e).1
  have hkind : ∀ y ∈ ps.zip us, scope.names.lookup y.1 = some .local ∨ (scope.names.lookup y.1 = some .cell ∧ ((cellsFrom (s.heap.objs.size + 1) scope.names []).lookup y.1).isSome = true) := fun ⟨n, v⟩ hy => by
    rcases S.par n (List.of_mem_zip hy).1 with q | q
    · exact .inl q
    · exact .inr ⟨q, PySem.W.cellsFrom_some _ _ _ (.inl q)⟩
  refine codeAny_call_function hr.depth (KX _ _ lk) rfl S.co S.gen rfl (PySem.W.codeRec_of KX hcd) (hb _ _ _ _ ?_)
  refine wpAny_newFunctionEnv_cells S.kind hkind fun env he s1 x => ?_
  subst he
  refine ⟨lim.keeps x.toInCall.keep, codeAny_func ?_⟩
  obtain ⟨t, ht, hq⟩ := hbody A outer s H vs Q E (hr.deeper _) hsp
  have I : Inv (cxOf CX P w K mg base N qual scope f cdv A outer s H E) [] (start N vs) H s1 := inv_start S hr.hd e0 hl r x
  refine wpAny_mono (ht [] s1 (start N vs) H _ I hq) (fun fl s' hs => ?_) fun e s' hs => hs
  have fin : ∀ {σ' : St} {H' : Hp} {v : V} {u : Value}, Inv (cxOf CX P w K mg base N qual scope f cdv A outer s H E) [] σ' H' s' → RelV v u → Q v H' → CE outer P w H s Q u s' :=
    fun {σ' H' v u} J rv q => ⟨v, H', J.os, J.bare, J.base, J.hok, rv, q⟩
  cases fl with
  | ret u =>
    obtain ⟨v, σ', H', J, rv, q⟩ := hs
    exact fin J rv q
  | next =>
    obtain ⟨σ', H', J, q⟩ := hs
    exact fin (v := V.non) (u := Value.none) J rfl q
  | brk =>
    obtain ⟨_, _, _, q⟩ := hs
    exact False.elim q
  | cont =>
    obtain ⟨_, _, _, q⟩ := hs
    exact False.elim q
end L2

namespace L2
open PySem PySem.Spec PyProof.Rows
section
variable {X : Cx} {x : Str} {p pos : Pos} {e : Expr} {es : List Expr} {t : TA} {id T : String} {r : List V → Hp → VK → Prop}

def tCB (r : List V → Hp → VK → Prop) (t : TA) : TE := fun σ H Q => t σ H fun vs H1 => r vs H1 Q
/-- f(e, ..), f a built-in function -/
theorem pe_callB (hc : CallR X (.builtin id) r) (hg : Gl X x) (hm : X.mg x = none) (hv : bootBuiltins x = some (.builtin id)) (ha : PA X (e :: es) t) (hn : x ≠ "__name__" := by decide) (hdb : (x == ("__debug__" : Str)) = false := by decide)
    (he : starEach (e :: es) X.env = (false, eval e X.env) :: starEach es X.env := by rfl) (hpl : (backTo pos (starEach es X.env)).any (·.1) = false := by rfl) : PE X (.Call (.Name x p) (e :: es) [] pos) (tCB r t) := by
  intro pins s σ H Q I h
  refine wpAny_Call_Name_kw (ld_blt I hg hm hv ?_ hn hdb)
  exact PyProof.Rows.callWith_builtin1 (thn (ha pos pins s σ H _ I h) fun us s1 ⟨vs, H1, I1, r1, q1⟩ => hc pins s1 σ H1 vs us Q I1 r1 q1) he hpl
/-- T(e, ..), T a built-in type -/
theorem pe_callTy (hc : CallR X (.type T) r) (hg : Gl X x) (hm : X.mg x = none) (hv : bootBuiltins x = some (.type T)) (ha : PA X (e :: es) t) (hn : x ≠ "__name__" := by decide) (hdb : (x == ("__debug__" : Str)) = false := by decide)
    (he : starEach (e :: es) X.env = (false, eval e X.env) :: starEach es X.env := by rfl) (hpl : (backTo pos (starEach es X.env)).any (·.1) = false := by rfl) : PE X (.Call (.Name x p) (e :: es) [] pos) (tCB r t) := by
  intro pins s σ H Q I h
  refine wpAny_Call_Name_kw (ld_blt I hg hm hv ?_ hn hdb)
  exact PyProof.Rows.callWith_type1 (thn (ha pos pins s σ H _ I h) fun us s1 ⟨vs, H1, I1, r1, q1⟩ => hc pins s1 σ H1 vs us Q I1 r1 q1) he hpl
/-- T() -/
theorem pe_callTy0 (hc : CallR X (.type T) r) (hg : Gl X x) (hm : X.mg x = none) (hv : bootBuiltins x = some (.type T)) (hn : x ≠ "__name__" := by decide) (hdb : (x == ("__debug__" : Str)) = false := by decide) :
    PE X (.Call (.Name x p) [] [] pos) (tCB r tNil) := by
  intro pins s σ H Q I h
  refine wpAny_Call_Name_kw (ld_blt I hg hm hv ?_ hn hdb)
  exact PyProof.Rows.callWith_type0 (hc pins s σ H [] [] Q I .nil h)
end
end L2

namespace HT
open PySem PyProof.Rows

/-- t < u of tuples of ints -/
def lexLt : List Int → List Int → Bool
  | [], [] => false
  | [], _ :: _ => true
  | _ :: _, [] => false
  | x :: xs, y :: ys => if x = y then lexLt xs ys else decide (x < y)
theorem lexLt_cons (x y : Int) (xs ys : List Int) : lexLt (x :: xs) (y :: ys) = if x = y then lexLt xs ys else decide (x < y) := rfl
theorem lexLt_nil_nil : lexLt [] [] = false := rfl
theorem lexLt_nil_cons (y : Int) (ys : List Int) : lexLt [] (y :: ys) = true := rfl
theorem lexLt_cons_nil (x : Int) (xs : List Int) : lexLt (x :: xs) [] = false := rfl

theorem eqAt_int (A : Around) (s : Shared) (a : Int) (t : Tok) (c : Int) (u : Tok) : ∃ e, SeqAt.EqAt A s (.int a t) (.int c u) e ∧ (e = true ↔ a = c) :=
  ⟨(a == c), SeqAt.EqAt.int_int a t c u, by simp⟩
theorem rcLt_int (A : Around) (s : Shared) (a : Int) (t : Tok) (c : Int) (u : Tok) (prog : Program) (w : World) (E : Value → Shared → Prop) (Q : Value → Shared → Prop) (h : Q (.bool (decide (a < c))) s) :
    wpAny (model prog w) A (richCompare .Lt (.int a t) (.int c u)) Q E s :=
  (PyProof.Rows.lt_int h : wpAny (model prog w) A (compareOp .Lt (.int a t) (.int c u)) Q E s)

section
open PySem.SeqAt
open PySem.AutoSeq1 (wpAny_loadPart')
open PySem.MeetsSeq PySem.MeetsSeq2 PySem.MeetsSeq3

theorem tuple_lt_ints (l b : Addr) (items items2 : Array Value) (n n2 : Nat) (dd dd2 : Option Addr) (sl sl2 : Array (Option Value)) (ns ms : List Int) (hi : IntsAre items.toList ns) (hj : IntsAre items2.toList ms) :
    Meets (Builtin.«tuple.__lt__» ⟨[.ref l, .ref b], []⟩)
      (fun _ R s => s.heap.get? l = some { cls := .type "tuple", dict := dd, data := .seq items n, slots := sl } ∧ s.heap.get? b = some { cls := .type "tuple", dict := dd2, data := .seq items2 n2, slots := sl2 } ∧
        R (.ok (.ret (.bool (lexLt ns ms)))) s) :=
  .of_wp fun prog w A R s h => by
    obtain ⟨hp, g, d, tk, os⟩ := s; obtain ⟨hl, hb, h⟩ := h
    have f2 := AutoSeq1.sub_tuple_tuple
    have z1 : items.size = ns.length := by rw [← hi.length]; simp
    have z2 : items2.size = ms.length := by rw [← hj.length]; simp
    wp_walk using wpAny_loadPart' hl, wpAny_loadPart' hb, wpAny_forIn_list _ (fun rest b s' => b.1 = none ∧ s' = ⟨hp, g, d, tk, os⟩ ∧ ∃ (vs ws : List Value) (ns' ms' : List Int), rest = vs.zip ws ∧
      IntsAre vs ns' ∧ IntsAre ws ms' ∧ ns'.length + items2.size = ms'.length + items.size ∧ R (.ok (.ret (.bool (lexLt ns' ms')))) ⟨hp, g, d, tk, os⟩) _
    case turn =>
      rintro ⟨y, x⟩ rest b s' ⟨hb', rfl, vs, ws, ns', ms', hz, hvi, hwi, hlen, hR⟩
      cases hvi with
      | nil => rw [List.zip_nil_left] at hz; cases hz
      | cons a t hvi' =>
        cases hwi with
        | nil => rw [List.zip_nil_right] at hz; cases hz
        | cons c u hwi' =>
          rw [List.zip_cons_cons] at hz
          injection hz with hyx hrest
          injection hyx with hy hx
          subst hy hx
          rw [lexLt_cons] at hR
          simp only [List.length_cons] at hlen
          obtain ⟨e, he, hiff⟩ := eqAt_int A.in1 ⟨hp, g, d, tk, os⟩ a t c u
          refine wpAny_bind (he prog w _ _ ?_)
          cases e with
          | true =>
            rw [if_pos (hiff.mp rfl)] at hR
            wp_walk
            exact ⟨rfl, rfl, _, _, _, _, hrest, hvi', hwi', by omega, hR⟩
          | false =>
            rw [if_neg (fun q => absurd (hiff.mpr q) Bool.false_ne_true)] at hR
            have hri := rcLt_int A.in1 ⟨hp, g, d, tk, os⟩ a t c u prog w
            wp_walk using hri
            exact ⟨_, rfl, by simpa using hR⟩
    case fin =>
      rintro ⟨b1, b2⟩ s' ⟨hb', rfl, vs, ws, ns', ms', hz, hvi, hwi, hlen, hR⟩
      simp only at hb'
      subst hb'
      have hv : lexLt ns' ms' = decide (items.size < items2.size) := by
        cases hvi with
        | nil =>
          cases hwi with
          | nil =>
            simp only [List.length_nil] at hlen
            rw [lexLt_nil_nil]
            exact (decide_eq_false (by omega)).symm
          | cons c u hw =>
            simp only [List.length_nil, List.length_cons] at hlen
            rw [lexLt_nil_cons]
            exact (decide_eq_true (by omega)).symm
        | cons a t hv =>
          cases hwi with
          | nil =>
            simp only [List.length_nil, List.length_cons] at hlen
            rw [lexLt_cons_nil]
            exact (decide_eq_false (by omega)).symm
          | cons c u hw =>
            rw [List.zip_cons_cons] at hz
            cases hz
      rw [hv] at hR
      wp_walk
      exact ⟨_, rfl, by simpa [Builtin.Tuple.tupleCompareSizes] using hR⟩
    case h =>
      exact ⟨rfl, rfl, items.toList, items2.toList, ns, ms, rfl, hi, hj, by omega, h⟩
end

section
variable {prog : Program} {w : World} {A : Around} {E : Value → Shared → Prop} {s : Shared}

theorem lt_tupInts {l b : Addr} {items items2 : Array Value} {ns ms : List Int} {Q : Value → Shared → Prop} (hl : IsTup s.heap l items) (hb : IsTup s.heap b items2) (hi : IntsAre items.toList ns) (hj : IntsAre items2.toList ms)
    (hu : A.units < cLine) (h : Q (.bool (lexLt ns ms)) s) : wpAny (model prog w) A (compareOp .Lt (.ref l) (.ref b)) Q E s := by
  obtain ⟨⟨cls, dd, data, sl⟩, ho, hc, n, hd⟩ := id hl
  obtain ⟨⟨cls2, dd2, data2, sl2⟩, ho2, hc2, n2, hd2⟩ := id hb
  simp only at hc hd hc2 hd2
  subst hc hd hc2 hd2
  exact richCompare_meets_room (op := .Lt) ⟨_, ho, rfl⟩ ⟨_, ho2, rfl⟩ PySem.F.slot_tuple_lt PySem.F.entry_tuple_lt (PySem.F.args_tuple_lt_2 _ _) (tuple_lt_ints l b items items2 n n2 dd dd2 sl sl2 ns ms hi hj)
    ⟨ho, ho2, show Value.bool (lexLt ns ms) ≠ Value.notImplemented ∧ Q (.bool (lexLt ns ms)) s from ⟨(fun x => nomatch x), h⟩⟩ hu

/-- t + u, t not empty -/
theorem cat_tup {t b : Addr} {vs ws : List Value} {Q : Value → Shared → Prop} (ht : IsTup s.heap t vs.toArray) (hb : IsTup s.heap b ws.toArray) (hv : vs ≠ [])
    (h1 : ws = [] → Q (.ref t) s) (h2 : ws ≠ [] → Q (.ref s.heap.objs.size) { s with heap := s.heap.push { cls := .type "tuple", data := .seq (vs ++ ws).toArray } })
    (hsz : vs.length + ws.length ≤ sizeLine) : wpAny (model prog w) A (binaryOp .Add (.ref t) (.ref b)) Q E s := by
  obtain ⟨⟨cls, dd, data, sl⟩, ho, hc, n, hd⟩ := id ht
  obtain ⟨⟨cls2, dd2, data2, sl2⟩, ho2, hc2, n2, hd2⟩ := id hb
  simp only at hc hd hc2 hd2
  subst hc hd hc2 hd2
  have e : vs.toArray ++ ws.toArray = (vs ++ ws).toArray := by simp
  by_cases hw : ws = []
  · exact concat_meets ⟨_, ho, rfl⟩ ⟨_, ho2, rfl⟩ noFill_tuple_add seq_tuple_add PySem.F.slot_tuple_add PySem.F.entry_tuple_add (PySem.F.args_tuple_add_2 _ _)
      (tuple_addW1 t b vs.toArray ws.toArray n n2 dd dd2 sl sl2 (by simpa using hv) (by simp [hw])) ⟨ho, ho2, h1 hw⟩
  · refine concat_meets ⟨_, ho, rfl⟩ ⟨_, ho2, rfl⟩ noFill_tuple_add seq_tuple_add PySem.F.slot_tuple_add PySem.F.entry_tuple_add (PySem.F.args_tuple_add_2 _ _)
      (tuple_addW2 t b vs.toArray ws.toArray n n2 dd dd2 sl sl2 (by simpa using hv) (by simpa using hw) (by rw [List.size_toArray, List.size_toArray]; exact hsz)) ⟨ho, ho2, ?_⟩
    rw [e]
    exact h2 hw

/-! ### t[a:b], not the whole -/
/-- a slice's bound as a place among n (d where it is left out) -/
def sIx (n d : Nat) : Option Int → Nat
  | none => d
  | some v => if v < 0 then (v + (n : Int)).toNat else min v.toNat n
theorem sIx_none (n d : Nat) : sIx n d none = d := rfl
theorem sIx_nat (n d k : Nat) : sIx n d (some (k : Int)) = min k n := by
  show (if (k : Int) < 0 then ((k : Int) + (n : Int)).toNat else min (k : Int).toNat n) = min k n
  rw [if_neg (by omega), Int.toNat_natCast]
theorem sIx_le (n d : Nat) (hd : d ≤ n) (o : Option Int) : sIx n d o ≤ n := by
  cases o with
  | none => exact hd
  | some v =>
    show (if v < 0 then (v + (n : Int)).toNat else min v.toNat n) ≤ n
    by_cases hv : v < 0
    · rw [if_pos hv]; omega
    · rw [if_neg hv]; exact Nat.min_le_right _ _
theorem clip_eq (v : Int) (n d : Nat) : (if v < 0 then max (v + (n : Int)) 0 else min v (n : Int)) = ((sIx n d (some v) : Nat) : Int) := by
  show (if v < 0 then max (v + (n : Int)) 0 else min v (n : Int)) = (((if v < 0 then (v + (n : Int)).toNat else min v.toNat n) : Nat) : Int)
  by_cases hv : v < 0
  · simp only [if_pos hv]; omega
  · simp only [if_neg hv]; omega
theorem adjust_gen (lo hi : Option Int) (n : Nat) : Builtin.Slice.sliceAdjust lo hi 1 (n : Int) = (((sIx n 0 lo : Nat) : Int), ((sIx n n hi : Nat) : Int)) := by
  have h1 : ¬ ((1 : Int) < 0) := by omega
  unfold Builtin.Slice.sliceAdjust
  simp only [h1, if_false]
  refine Prod.ext ?_ ?_
  · cases lo with
    | none => rfl
    | some v => exact clip_eq v n 0
  · cases hi with
    | none => rfl
    | some v => exact clip_eq v n n
theorem places_gen (i j : Nat) : Builtin.Slice.slicePlaces (i : Int) (j : Int) 1 = j - i := by
  unfold Builtin.Slice.slicePlaces
  have h1 : (1 : Int) > 0 := by omega
  simp only [h1, if_true, Int.ediv_one]
  split <;> omega
theorem slicePart_ {v : Value} {o : Option Int} {Q : Option Int → Shared → Prop} (p : IsPart v o) (h : Q o s) : wpAny (model prog w) A (Builtin.Slice.slicePartIndex v) Q E s := by
  cases p with
  | none => exact slicePart_none h
  | int i t => exact slicePart_int h
theorem sliceApplied_gen {sl : Addr} {vl vu : Value} {lo hi : Option Int} {n : Nat} {Q : Int × Int × Nat → Shared → Prop} (hs : s.heap.IsSliceOf sl vl vu .none) (pl : IsPart vl lo) (pu : IsPart vu hi)
    (h : Q (((sIx n 0 lo : Nat) : Int), 1, sIx n n hi - sIx n 0 lo) s) : wpAny (model prog w) A (Builtin.Slice.sliceApplied (.ref sl) (pure (n : Int))) Q E s := by
  obtain ⟨os, hos, hcs, hds⟩ := id hs
  unfold Builtin.Slice.sliceApplied Builtin.Slice.sliceFields
  refine wpAny_bind (wpAny_bind (wpAny_field hos hds (x := vl) rfl (wpAny_bind (wpAny_field hos hds (x := vu) rfl (wpAny_bind (wpAny_field hos hds (x := .none) rfl (wpAny_pure ?_)))))))
  refine wpAny_bind (slicePart_none ?_)
  show wpAny _ _ (if ((1 : Int) == 0) = true then _ else _) _ _ s
  rw [if_neg (by decide)]
  refine wpAny_bind (slicePart_ pl (wpAny_bind (slicePart_ pu (wpAny_bind (wpAny_pure ?_)))))
  show wpAny _ _ (match Builtin.Slice.sliceAdjust lo hi 1 (n : Int) with | (lo, hi) => pure (lo, (1 : Int), Builtin.Slice.slicePlaces lo hi 1)) _ _ s
  rw [adjust_gen lo hi n]
  show wpAny _ _ (pure (((sIx n 0 lo : Nat) : Int), (1 : Int), Builtin.Slice.slicePlaces ((sIx n 0 lo : Nat) : Int) ((sIx n n hi : Nat) : Int) 1)) _ _ s
  rw [places_gen]
  exact wpAny_pure h
theorem pick_gen (xs : Array Value) (i k : Nat) : ((List.range k).filterMap fun (m : Nat) => xs[((i : Int) + (m : Int) * 1).toNat]?).toArray = ((xs.toList.drop i).take k).toArray := by
  have e : (fun (m : Nat) => xs[((i : Int) + (m : Int) * 1).toNat]?) = fun m => xs[i + m]? := by
    funext m
    have : ((i : Int) + (m : Int) * 1).toNat = i + m := by omega
    rw [this]
  rw [e]
  have := pick_run xs i k
  rw [List.filterMap_map] at this
  have e2 : ((fun x => xs[x]?) ∘ fun x => i + x) = fun m => xs[i + m]? := rfl
  rw [e2] at this
  rw [this]

theorem getItem_tuple_cut {t sl : Addr} {items : Array Value} {vl vu : Value} {lo hi : Option Int} {Q : Value → Shared → Prop} (ht : IsTup s.heap t items) (hs : s.heap.IsSliceOf sl vl vu .none) (pl : IsPart vl lo) (pu : IsPart vu hi)
    (hw : ¬ (sIx items.size 0 lo = 0 ∧ sIx items.size items.size hi = items.size))
    (h : Q (.ref s.heap.objs.size) { s with heap := s.heap.push { cls := .type "tuple", data := .seq ((items.toList.drop (sIx items.size 0 lo)).take (sIx items.size items.size hi - sIx items.size 0 lo)).toArray } })
    (hsz : items.size ≤ sizeLine) : wpAny (model prog w) A (getItem (.ref t) (.ref sl)) Q E s := by
  have htake : sizeOk (.seq ((items.toList.drop (sIx items.size 0 lo)).take (sIx items.size items.size hi - sIx items.size 0 lo)).toArray) := by
    show ((items.toList.drop (sIx items.size 0 lo)).take (sIx items.size items.size hi - sIx items.size 0 lo)).toArray.size ≤ sizeLine
    rw [List.size_toArray, List.length_take, List.length_drop, Array.length_toList]
    omega
  have hj : sIx items.size items.size hi ≤ items.size := sIx_le _ _ (Nat.le_refl _) hi
  obtain ⟨os, hos, hcs, hds⟩ := id hs
  have hTs : s.TypeIs (.ref sl) "slice" := ⟨os, hos, hcs⟩
  unfold getItem
  try with_reducible refine wpAny_holding ?_
  first | refine wpAny_bind (wpAny_pure ?_) | skip
  refine wpAny_bind (wpAny_sequenceKey ht.typeIs (by decide) ?_)
  refine wpAny_bind (wpAny_callSpecial?_slot (name := Str.ofString "__getitem__") ht.typeIs PyProof.Rows.slot_tuple_getitem
    (wpAny_call_entry PyProof.Rows.slot_tuple_getitem ht.typeIs entry_tuple_getitem ?_ (args_tuple_getitem _ _)))
  show wpAny _ _ (Builtin.Tuple.tupleItemsOf (.ref t) >>= _) _ _ s
  refine wpAny_bind (tupleItemsOf_ ht ?_)
  refine wpAny_bind (wpAny_typeOf hTs ?_)
  rw [if_pos (by decide)]
  refine wpAny_bind (sliceApplied_gen hs pl pu ?_)
  have hno : ¬ ((((sIx items.size 0 lo : Nat) : Int) == 0 && (1 : Int) == 1 && (sIx items.size items.size hi - sIx items.size 0 lo) == items.size) = true) := by
    intro q
    rw [Bool.and_eq_true, Bool.and_eq_true] at q
    have q1 : ((sIx items.size 0 lo : Nat) : Int) = 0 := eq_of_beq q.1.1
    have q2 : sIx items.size items.size hi - sIx items.size 0 lo = items.size := eq_of_beq q.2
    exact hw ⟨by omega, by omega⟩
  show wpAny _ _ (if (((sIx items.size 0 lo : Nat) : Int) == 0 && (1 : Int) == 1 && (sIx items.size items.size hi - sIx items.size 0 lo) == items.size) = true then _ else _) _ _ s
  rw [if_neg hno, pick_gen]
  first
    | exact wpAny_bind (m := Builtin.Tuple.tupleExact _) (wpAny_newObj_type (wpAny_pure ⟨_, rfl, wpAny_pure h⟩) htake)
    | exact wpAny_bind (m := Builtin.Tuple.tupleExact _) (wpAny_newObj_type (wpAny_bind (wpAny_pure (wpAny_pure ⟨_, rfl, wpAny_pure h⟩))) htake)
    | exact wpAny_bind (wpAny_bind (m := Builtin.Tuple.tupleExact _) (wpAny_newObj_type (wpAny_pure (wpAny_pure ⟨_, rfl, wpAny_pure h⟩)) htake))
    | exact wpAny_bind (wpAny_bind (m := Builtin.Tuple.tupleExact _) (wpAny_newObj_type (wpAny_pure ⟨_, rfl, wpAny_pure h⟩) htake))
end
end HT

namespace L2
open PySem PySem.Spec PyProof.Rows

/-! ### the parts of a slice -/
abbrev TO := St → Hp → (Option Int → Hp → Prop) → Prop
/-- a slice's part (left out, or an int) -/
def PO (X : Cx) (e : Option Expr) (t : TO) : Prop :=
  ∀ (pins : List (Addr × Obj)) (s : Shared) (σ : St) (H : Hp) (Q : Option Int → Hp → Prop), Inv X pins σ H s → t σ H Q →
    wpAny (model X.prog X.w) X.A (evalPart e X.env) (fun u s' => ∃ o H', Inv X pins σ H' s' ∧ IsPart u o ∧ Q o H') X.xe s
def tNoPart : TO := fun _ H Q => Q none H
def tPart (t : TE) : TO := fun σ H Q => t σ H fun x H1 => ∃ i, x = .int i ∧ Q (some i) H1

theorem intsAre_of {ns : List Int} : ∀ {us : List Value}, Vals (ns.map V.int) us → IntsAre us ns := by
  induction ns with
  | nil => intro us r; rw [List.map_nil] at r; cases r; exact .nil
  | cons n ns ih =>
    intro us r
    rw [List.map_cons] at r
    cases r with
    | cons r1 r2 =>
      obtain ⟨t, e⟩ := r1
      subst e
      exact .cons n t (ih r2)

section
variable {X : Cx} {e : Expr} {te : TE} {lo hi : Option Expr} {tl th : TO} {pos p2 : Pos}

theorem po_none : PO X none tNoPart := by
  intro pins s σ H Q I h
  rw [evalPart_none]
  exact wpAny_pure ⟨none, H, I, .none, h⟩
theorem po_some (h : PE X e te) : PO X (some e) (tPart te) := by
  intro pins s σ H Q I hw
  rw [evalPart_some]
  refine thn (h pins s σ H _ I hw) fun u s1 ⟨x, H1, I1, r1, q1⟩ => ?_
  obtain ⟨i, rfl, q⟩ := q1
  obtain ⟨t, rfl⟩ := r1
  exact ⟨some i, H1, I1, .int i t, q⟩

/-- what a slice of a value is, by values: the slice object stands at sl -/
def SlR (X : Cx) (r : V → Option Int → Option Int → Hp → VK → Prop) : Prop :=
  ∀ (pins : List (Addr × Obj)) (s : Shared) (σ : St) (H : Hp) (x : V) (v vl vu : Value) (lo hi : Option Int) (sl : Addr) (Q : VK), Inv X pins σ H s → RelV x v → s.heap.IsSliceOf sl vl vu .none → IsPart vl lo → IsPart vu hi → r x lo hi H Q →
    ∃ T id, typeLookup (.type T) "__getitem__" = pure (some (.builtin id)) ∧ s.TypeIs v T ∧ wpAny (model X.prog X.w) X.A (getItem v (.ref sl)) (EP X pins σ Q) X.xe s
theorem SlR.or {r r' : V → Option Int → Option Int → Hp → VK → Prop} (h : SlR X r) (h' : SlR X r') : SlR X (fun x lo hi H Q => r x lo hi H Q ∨ r' x lo hi H Q) := by
  intro pins s σ H x v vl vu lo hi sl Q I rx hs pl pu q
  rcases q with q | q
  · exact h pins s σ H x v vl vu lo hi sl Q I rx hs pl pu q
  · exact h' pins s σ H x v vl vu lo hi sl Q I rx hs pl pu q
def tSl (r : V → Option Int → Option Int → Hp → VK → Prop) (te : TE) (tl th : TO) : TE := fun σ H Q => te σ H fun x H1 => tl σ H1 fun l H2 => th σ H2 fun u H3 => r x l u H3 Q
/-- a[lo:hi], any a -/
theorem pe_slice {r : V → Option Int → Option Int → Hp → VK → Prop} (hr : SlR X r) (he : PE X e te) (hl : PO X lo tl) (hu : PO X hi th) : PE X (.Subscript e (.Slice lo hi none p2) pos) (tSl r te tl th) := by
  intro pins s σ H Q I h
  refine Subscript_ (thn (he pins s σ H _ I h) fun v s1 ⟨x, H1, I1, r1, q1⟩ => ?_)
  refine wpAny_Slice (thn (hl pins s1 σ H1 _ I1 q1) fun vl s2 ⟨l, H2, I2, pl, q2⟩ => thn (hu pins s2 σ H2 _ I2 q2) fun vu s3 ⟨u, H3, I3, pu, q3⟩ => ?_)
  rw [evalPart_none]
  refine wpAny_pure ?_
  have I4 : Inv X pins σ H3 { s3 with heap := s3.heap.push { cls := .type "slice", data := .fields #[vl, vu, .none] } } := I3.kept (t' := s3.toks) fun b ob q => Heap.get?_push_of_some _ q
  obtain ⟨T, id, hT, ht, hg⟩ := hr pins { s3 with heap := s3.heap.push { cls := .type "slice", data := .fields #[vl, vu, .none] } } σ H3 x v vl vu l u s3.heap.objs.size Q I4 r1 (Heap.IsSliceOf.new ..) pl pu q3
  show wpAny (model X.prog X.w) X.A (subscriptTail e (.Slice lo hi none p2) v (.ref s3.heap.objs.size)) (EP X pins σ Q) X.xe { s3 with heap := s3.heap.push { cls := .type "slice", data := .fields #[vl, vu, .none] } }
  exact tail_any (ops := [.ref s3.heap.objs.size, v]) ht hT hg (by with_unfolding_all rfl)

/-- the items of xs[lo:hi] -/
def cutV (xs : List V) (lo hi : Option Int) : List V := (xs.drop (HT.sIx xs.length 0 lo)).take (HT.sIx xs.length xs.length hi - HT.sIx xs.length 0 lo)
theorem cutV_length (xs : List V) (lo hi : Option Int) : (cutV xs lo hi).length ≤ xs.length := by
  unfold cutV
  rw [List.length_take, List.length_drop]
  omega
/-- t[lo:hi], not the whole of it (the whole would be t itself) -/
def rSlT (K : PySem.W.Frag) : V → Option Int → Option Int → Hp → VK → Prop := fun x lo hi H Q => ∃ a xs, x = .ref a ∧ SqT K H a xs ∧
  ¬ (HT.sIx xs.length 0 lo = 0 ∧ HT.sIx xs.length xs.length hi = xs.length) ∧ ∀ p, H p = none → Q (.ref p) (upd H p (.tup (cutV xs lo hi)))
theorem sl_tup : SlR X (rSlT X.K) := by
  intro pins s σ H x v vl vu lo hi sl Q I rx hs pl pu h
  obtain ⟨a, xs, rfl, hx, hw, q⟩ := h
  cases rx
  obtain ⟨its, r, ht, hz⟩ := I.tuple hx
  have hlen : its.toArray.size = xs.length := by rw [List.size_toArray]; exact r.length.symm
  refine ⟨"tuple", _, PyProof.Rows.slot_tuple_getitem.lookup, ht.typeIs, ?_⟩
  refine HT.getItem_tuple_cut ht hs pl pu (by rw [hlen]; exact hw) ?_ (by rw [hlen]; exact hz)
  rw [hlen]
  refine ⟨.ref s.heap.objs.size, _, I.laid (t' := s.toks) (o := .tup (cutV xs lo hi)) (fun b ob q => Heap.get?_push_of_some _ q) (Nat.le_refl _) ?_, rfl, q _ (I.hok.fresh (Nat.le_refl _))⟩
  exact ⟨Nat.le_trans (cutV_length xs lo hi) hz, _, (r.drop (HT.sIx xs.length 0 lo)).take (HT.sIx xs.length xs.length hi - HT.sIx xs.length 0 lo), IsTup.new _ _⟩

/-! ### t < u, t + u -/
def rLtT (K : PySem.W.Frag) : R2 := fun x y H Q => ∃ a b ns ms, x = .ref a ∧ y = .ref b ∧ SqT K H a (ns.map V.int) ∧ SqT K H b (ms.map V.int) ∧ Q (.bl (HT.lexLt ns ms)) H
theorem op_ltT (hu : X.A.units < cLine) : OpR X (compareOp .Lt) (rLtT X.K) := by
  intro pins s σ H x y v u Q I rx ry h
  obtain ⟨a, b, ns, ms, rfl, rfl, ha, hb, q⟩ := h
  cases rx
  cases ry
  obtain ⟨its, r1, p1, _⟩ := I.tuple ha
  obtain ⟨its2, r2, p2, _⟩ := I.tuple hb
  have i1 : IntsAre its.toArray.toList ns := intsAre_of r1
  have i2 : IntsAre its2.toArray.toList ms := intsAre_of r2
  exact HT.lt_tupInts p1 p2 i1 i2 hu ⟨.bl (HT.lexLt ns ms), H, I, rfl, q⟩
/-- t + u, t not empty: u empty gives t itself -/
def rCatT (K : PySem.W.Frag) : R2 := fun x y H Q => ∃ a b xs ys, x = .ref a ∧ y = .ref b ∧ SqT K H a xs ∧ SqT K H b ys ∧ xs ≠ [] ∧ xs.length + ys.length ≤ sizeLine ∧
  (ys = [] → Q (.ref a) H) ∧ (ys ≠ [] → ∀ p, H p = none → Q (.ref p) (upd H p (.tup (xs ++ ys))))
theorem Vals.nil_iff {xs : List V} {us : List Value} (r : Vals xs us) : us = [] ↔ xs = [] := by
  cases r with
  | nil => simp
  | cons _ _ => simp
theorem op_catT : OpR X (binaryOp .Add) (rCatT X.K) := by
  intro pins s σ H x y v u Q I rx ry h
  obtain ⟨a, b, xs, ys, rfl, rfl, ha, hb, hx, hz, q1, q2⟩ := h
  cases rx
  cases ry
  obtain ⟨its, r1, p1, _⟩ := I.tuple ha
  obtain ⟨its2, r2, p2, _⟩ := I.tuple hb
  refine HT.cat_tup p1 p2 (fun z => hx (r1.nil_iff.mp z)) (fun z => ⟨.ref a, H, I, rfl, q1 (r2.nil_iff.mp z)⟩) (fun z => ?_) (by rw [← r1.length, ← r2.length]; exact hz)
  refine ⟨.ref s.heap.objs.size, _, I.laid (t' := s.toks) (o := .tup (xs ++ ys)) (fun b ob q => Heap.get?_push_of_some _ q) (Nat.le_refl _) ?_, rfl, q2 (fun w => z (r2.nil_iff.mpr w)) _ (I.hok.fresh (Nat.le_refl _))⟩
  exact ⟨by rw [List.length_append]; exact hz, _, r1.append r2, IsTup.new _ _⟩
/-- tuple(t) -/
theorem call_tupleT : CallR X (.type "tuple") (fun xs H Q => ∃ a ys, xs = [.ref a] ∧ SqT X.K H a ys ∧ Q (.ref a) H) := by
  intro pins s σ H xs us Q I r h
  obtain ⟨a, ys, rfl, ha, q⟩ := h
  obtain ⟨u, rfl, ru⟩ := vals1 r
  cases ru
  obtain ⟨its, _, p1, _⟩ := I.tuple ha
  exact call_tuple_same (items := its.toArray) p1 ⟨.ref a, H, I, rfl, q⟩
end
end L2

namespace L2
open PySem PySem.Spec PyProof.Rows

/-! ### places -/
/-- the place that an index of any sign means -/
def ixN (n : Nat) (i : Int) : Option Nat := if 0 ≤ i then (if i < n then some i.toNat else none) else if -(n : Int) ≤ i then some (i + n).toNat else none
def atI {α : Type} (xs : List α) (i : Int) : Option α := (ixN xs.length i).bind fun j => xs[j]?
theorem ixN_seq {n : Nat} {i : Int} {j : Nat} (h : ixN n i = some j) : seqIndex? i n = some j ∧ j < n ∧ -(n : Int) ≤ i ∧ i < n := by
  unfold ixN at h
  by_cases h0 : 0 ≤ i
  · rw [if_pos h0] at h
    by_cases h1 : i < n
    · rw [if_pos h1] at h
      have e : i.toNat = j := Option.some.inj h
      exact ⟨by rw [seqIndex_of h0 h1, e], by omega, by omega, h1⟩
    · rw [if_neg h1] at h; cases h
  · rw [if_neg h0] at h
    by_cases h1 : -(n : Int) ≤ i
    · rw [if_pos h1] at h
      have e : (i + n).toNat = j := Option.some.inj h
      exact ⟨by rw [seqIndex_neg (by omega) h1, e], by omega, h1, by omega⟩
    · rw [if_neg h1] at h; cases h
theorem atI_get {α : Type} {xs : List α} {i : Int} {v : α} (h : atI xs i = some v) : ∃ j, seqIndex? i xs.length = some j ∧ xs[j]? = some v ∧ j < xs.length ∧ -(xs.length : Int) ≤ i ∧ i < xs.length := by
  unfold atI at h
  cases e : ixN xs.length i with
  | none => rw [e] at h; cases h
  | some j =>
    rw [e] at h
    obtain ⟨h1, h2, h3, h4⟩ := ixN_seq e
    exact ⟨j, h1, h, h2, h3, h4⟩
theorem atI_nat {α : Type} {xs : List α} {j : Nat} {v : α} (h : xs[j]? = some v) : atI xs (j : Int) = some v := by
  have hj : j < xs.length := (List.getElem?_eq_some_iff.mp h).1
  have e : ixN xs.length (j : Int) = some j := by
    unfold ixN
    rw [if_pos (by omega), if_pos (by omega)]; simp
  unfold atI; rw [e]; exact h
theorem atI_last {α : Type} (xs : List α) (v : α) : atI (xs ++ [v]) (-1) = some v := by
  have hl : (xs ++ [v]).length = xs.length + 1 := by simp
  have e : ixN (xs ++ [v]).length (-1) = some xs.length := by
    unfold ixN
    rw [hl, if_neg (by decide), if_pos (by omega)]
    congr 1
    omega
  unfold atI
  rw [e]
  show (xs ++ [v])[xs.length]? = some v
  simp

/-! ### what may be subscripted -/
/-- what stands as an index of a plain subscript -/
def PlainIx (b : Expr) : Prop := ∀ o i, subscripted b false o i = operate [o, i] (getItem o i)
/-- a subscript by values -/
def IxR (X : Cx) (r : R2) : Prop :=
  ∀ (value slice : Expr) (pins : List (Addr × Obj)) (s : Shared) (σ : St) (H : Hp) (x y : V) (v u : Value) (Q : VK), Inv X pins σ H s → RelV x v → RelV y u → r x y H Q →
    subscripted slice false v u = operate [v, u] (getItem v u) → wpAny (model X.prog X.w) X.A (subscriptTail value slice v u) (EP X pins σ Q) X.xe s
/-- a call of a builtin's method by values: the receiver, the arguments -/
def MtR (X : Cx) (id : String) (r : V → List V → Hp → VK → Prop) : Prop :=
  ∀ (pins : List (Addr × Obj)) (s : Shared) (σ : St) (H : Hp) (x : V) (xs : List V) (v : Value) (us : List Value) (Q : VK), Inv X pins σ H s → RelV x v → Vals xs us → r x xs H Q →
    wpAny (model X.prog X.w) X.A (call (.builtin id) (v :: us)) (EP X pins σ Q) X.xe s
section
variable {X : Cx} {a b : Expr} {ta tb : TE} {pos : Pos}
theorem IxR.or {r r' : R2} (h : IxR X r) (h' : IxR X r') : IxR X (fun x y H Q => r x y H Q ∨ r' x y H Q) := by
  intro value slice pins s σ H x y v u Q I rx ry q hs
  rcases q with q | q
  · exact h value slice pins s σ H x y v u Q I rx ry q hs
  · exact h' value slice pins s σ H x y v u Q I rx ry q hs
theorem MtR.or {id : String} {r r' : V → List V → Hp → VK → Prop} (h : MtR X id r) (h' : MtR X id r') : MtR X id (fun x xs H Q => r x xs H Q ∨ r' x xs H Q) := by
  intro pins s σ H x xs v us Q I rx rs q
  rcases q with q | q
  · exact h pins s σ H x xs v us Q I rx rs q
  · exact h' pins s σ H x xs v us Q I rx rs q
/-- a[b] -/
theorem pe_ix {r : R2} (hr : IxR X r) (ha : PE X a ta) (hb : PE X b tb) (hs : PlainIx b) : PE X (.Subscript a b pos) (tOp r ta tb) := by
  intro pins s σ H Q I h
  exact Subscript_ (binT ha hb I h fun v u s2 x y H2 I2 rx ry q => hr a b pins s2 σ H2 x y v u Q I2 rx ry q (hs _ _))

def rIxL (K : PySem.W.Frag) : R2 := fun x y H Q => ∃ p xs i v, x = .ref p ∧ y = .int i ∧ SqL K H p xs ∧ atI xs i = some v ∧ Q v H
def rIxT (K : PySem.W.Frag) : R2 := fun x y H Q => ∃ p xs i v, x = .ref p ∧ y = .int i ∧ SqT K H p xs ∧ atI xs i = some v ∧ Q v H
def rIxS : R2 := fun x y H Q => ∃ z i c, x = .str z ∧ y = .int i ∧ z.length ≤ sizeLine ∧ atI z.cps.toList i = some c ∧ Q (.str ⟨#[c]⟩) H
theorem ix_list : IxR X (rIxL X.K) := by
  intro value slice pins s σ H x y v u Q I rx ry h hs
  obtain ⟨p, xs, i, z, rfl, rfl, hq, he, q⟩ := h
  cases rx
  obtain ⟨t, rfl⟩ := ry
  obtain ⟨its, r, pl, hz⟩ := I.list hq
  obtain ⟨j, h1, h2, h3, h4, h5⟩ := atI_get he
  obtain ⟨w, ew, rw'⟩ := r.get h2
  have hl := r.length
  have hn := line63
  have fin : EP X pins σ Q w s := ⟨z, H, I, rw', q⟩
  by_cases h0 : 0 ≤ i
  · have hj : i.toNat = j := by
      rw [seqIndex_of h0 h5] at h1
      exact Option.some.inj h1
    exact item_listR pl.isList h0 (by omega) (by rw [hj]; simpa using ew) fin hs
  · have hj : (i + (its.toArray.size : Int)).toNat = j := by
      rw [seqIndex_neg (by omega) h4] at h1
      rw [List.size_toArray, ← hl]
      exact Option.some.inj h1
    exact subscriptTail_builtinR (x := w) pl.isList.typeIs slot_list_getitem.lookup
      (wpAny_getItem_list_neg (Q := fun r s' => r = w ∧ EP X pins σ Q r s') pl.isList (by omega) (by rw [List.size_toArray] <;> omega) (by omega) (by rw [hj]; simpa using ew) ⟨rfl, fin⟩) hs
theorem ix_tup : IxR X (rIxT X.K) := by
  intro value slice pins s σ H x y v u Q I rx ry h hs
  obtain ⟨p, xs, i, z, rfl, rfl, hq, he, q⟩ := h
  cases rx
  obtain ⟨t, rfl⟩ := ry
  obtain ⟨its, r, pl, hz⟩ := I.tuple hq
  obtain ⟨j, h1, h2, h3, h4, h5⟩ := atI_get he
  obtain ⟨w, ew, rw'⟩ := r.get h2
  have hl := r.length
  have hn := line63
  have fin : EP X pins σ Q w s := ⟨z, H, I, rw', q⟩
  exact subscriptTail_builtinR (x := w) pl.typeIs slot_tuple_getitem.lookup
    (getItem_tuple (j := j) (Q := fun r s' => r = w ∧ EP X pins σ Q r s') pl (by omega) (by omega) (by rw [List.size_toArray, ← hl]; exact h1) (by simpa using ew) ⟨rfl, fin⟩) hs
theorem ix_str : IxR X rIxS := by
  intro value slice pins s σ H x y v u Q I rx ry h hs
  obtain ⟨z, i, c, rfl, rfl, hz, he, q⟩ := h
  obtain ⟨t, rfl⟩ := rx
  obtain ⟨t', rfl⟩ := ry
  obtain ⟨j, h1, h2, h3, h4, h5⟩ := atI_get he
  have hl : z.cps.toList.length = z.length := by simp [Str.length]
  rw [hl] at h1 h4 h5
  have hn := line63
  exact tail_any (typeIs_str s z t) slot_str_getitem.lookup (getItem_str (c := c) (by
    have e1 : decide (i < -(2 ^ 63 : Int)) = false := decide_eq_false (by omega)
    have e2 : decide (i ≥ 2 ^ 63) = false := decide_eq_false (by omega)
    rw [e1, e2, Bool.or_false]) (by rw [h1]; simpa using h2) ⟨.str ⟨#[c]⟩, H, I.tok _, ⟨_, rfl⟩, q⟩) hs
/-- list, tuple or str -/
def rIx (K : PySem.W.Frag) : R2 := fun x y H Q => rIxL K x y H Q ∨ rIxT K x y H Q ∨ rIxS x y H Q
theorem ix_seq : IxR X (rIx X.K) := ix_list.or (ix_tup.or ix_str)

/-! ### xs[i] = v, any sign -/
/-- the list's object behind a store -/
theorem mapSeq_set (its : List Value) (n j : Nat) (u : Value) : Obj.mapSeq (·.setIfInBounds j u) { cls := .type "list", data := .seq its.toArray n } = { cls := .type "list", data := .seq (its.set j u).toArray n } := by
  simp [Obj.mapSeq]
theorem Inv.lst {pins : List (Addr × Obj)} {σ : St} {H : Hp} {s : Shared} {p : Addr} {xs : List V} (I : Inv X pins σ H s) (h : H p = some (.lst xs)) :
    ∃ (its : List Value) (n : Nat), Vals xs its ∧ s.heap.get? p = some { cls := .type "list", data := .seq its.toArray n } ∧ xs.length ≤ sizeLine := by
  obtain ⟨z, its, n, r, e⟩ := I.hok p _ h
  exact ⟨its, n, r, e, z⟩
/-- the list at p is written by an update of its object -/
theorem Inv.lstUpd {pins : List (Addr × Obj)} {σ : St} {H : Hp} {s : Shared} {p : Addr} {xs ys : List V} {its its' : List Value} {n n' : Nat} {f : Obj → Obj} (I : Inv X pins σ H s) (h : H p = some (.lst xs))
    (ho : s.heap.get? p = some { cls := .type "list", data := .seq its.toArray n }) (hf : f { cls := .type "list", data := .seq its.toArray n } = { cls := .type "list", data := .seq its'.toArray n' }) (r : Vals ys its') (hz : ys.length ≤ sizeLine) (t : Nat) :
    Inv X pins σ (upd H p (.lst ys)) { s with heap := s.heap.update p f, toks := t } := by
  have e : (s.heap.update p f).get? p = some { cls := .type "list", data := .seq its'.toArray n' } := by
    rw [Heap.get?_update_self f ho (by rw [hf] <;> rfl), hf]
  refine I.write (x := p) (e := p) (by rw [h]; trivial) (.inl rfl) (fun b u hb q => (Heap.get?_update_other _ _ (Ne.symm hb)).trans q) ⟨_, e⟩ ?_
  exact ⟨hz, its', n', r, e⟩
def rSetL : V → V → V → Hp → (Hp → Prop) → Prop := fun o i v H Q => ∃ p xs k j, o = .ref p ∧ i = .int k ∧ H p = some (.lst xs) ∧ ixN xs.length k = some j ∧ Q (upd H p (.lst (xs.set j v)))
theorem set_list : PSet X rSetL := by
  intro pins s σ H o i v ov iv u Q I ro ri rv h
  obtain ⟨p, xs, k, j, rfl, rfl, hp, hj, q⟩ := h
  cases ro
  obtain ⟨t, rfl⟩ := ri
  obtain ⟨its, n, r, ho, hz⟩ := I.lst hp
  obtain ⟨h1, h2, h3, h4⟩ := ixN_seq hj
  have hl := r.length
  have hn := line63
  have I' : Inv X pins σ (upd H p (.lst (xs.set j v))) { s with heap := s.heap.update p (Obj.mapSeq (·.setIfInBounds j u)) } :=
    I.lstUpd hp ho (mapSeq_set its n j u) (r.set rv j) (by rw [List.length_set]; exact hz) s.toks
  by_cases h0 : 0 ≤ k
  · have hk : k.toNat = j := by
      rw [seqIndex_of h0 h4] at h1
      exact Option.some.inj h1
    exact PySem.W.ki_setAt ho h0 (by omega) (by rw [List.size_toArray, ← hl]; exact h4) (by rw [hk]; exact ⟨_, I', q⟩)
  · have hk : (k + (its.toArray.size : Int)).toNat = j := by
      rw [seqIndex_neg (by omega) h3] at h1
      rw [List.size_toArray, ← hl]
      exact Option.some.inj h1
    exact PySem.W.ki_setBack ho (by omega) (by rw [List.size_toArray, ← hl]; exact h3) (by omega) (by rw [hk]; exact ⟨_, I', q⟩)

/-! ### slices -/
theorem slice_bounds (lo hi : Option Int) (n : Nat) : (sliceBounds lo hi none n).1 = ((HT.sIx n 0 lo : Nat) : Int) ∧ (sliceBounds lo hi none n).2.1 = ((HT.sIx n n hi : Nat) : Int) ∧ (sliceBounds lo hi none n).2.2 = 1 := by
  refine ⟨?_, ?_, rfl⟩
  · cases lo with
    | none => simp [sliceBounds, HT.sIx]
    | some i =>
      simp only [sliceBounds, HT.sIx, Option.getD_none, show (1 : Int) > 0 by decide, if_true]
      by_cases h : i < 0
      · simp only [h, if_true] <;> omega
      · simp only [h, if_false] <;> omega
  · cases hi with
    | none => simp [sliceBounds, HT.sIx]
    | some i =>
      simp only [sliceBounds, HT.sIx, Option.getD_none, show (1 : Int) > 0 by decide, if_true]
      by_cases h : i < 0
      · simp only [h, if_true] <;> omega
      · simp only [h, if_false] <;> omega
theorem slicePick_cut (its : List Value) (lo hi : Option Int) : slicePick its.toArray lo hi none = ((its.drop (HT.sIx its.length 0 lo)).take (HT.sIx its.length its.length hi - HT.sIx its.length 0 lo)).toArray := by
  obtain ⟨h1, h2, h3⟩ := slice_bounds lo hi its.toArray.size
  unfold slicePick
  rw [h1, h2, h3]
  simp only [sliceRange_one, pick_run, List.size_toArray] <;> rfl
/-- xs[lo:hi] of a list: a new list -/
def rSlL (K : PySem.W.Frag) : V → Option Int → Option Int → Hp → VK → Prop := fun x lo hi H Q => ∃ a xs, x = .ref a ∧ SqL K H a xs ∧ ∀ p, H p = none → Q (.ref p) (upd H p (.lst (cutV xs lo hi)))
theorem sl_list : SlR X (rSlL X.K) := by
  intro pins s σ H x v vl vu lo hi sl Q I rx hs pl pu h
  obtain ⟨a, xs, rfl, hx, q⟩ := h
  cases rx
  obtain ⟨its, r, ht, hz⟩ := I.list hx
  have hlen := r.length
  refine ⟨"list", _, slot_list_getitem.lookup, ht.isList.typeIs, ?_⟩
  refine wpAny_getItem_list_slice ht.isList hs pl pu .none (by simp) ?_ (by rw [List.size_toArray] <;> omega)
  rw [slicePick_cut, ← hlen]
  refine ⟨.ref s.heap.objs.size, _, I.laid (t' := s.toks) (o := .lst (cutV xs lo hi)) (fun b ob q => Heap.get?_push_of_some _ q) (Nat.le_refl _) ?_, rfl, q _ (I.hok.fresh (Nat.le_refl _))⟩
  exact ⟨Nat.le_trans (cutV_length xs lo hi) hz, _, 0, (r.drop (HT.sIx xs.length 0 lo)).take (HT.sIx xs.length xs.length hi - HT.sIx xs.length 0 lo), Heap.get?_push_size _ rfl⟩

/-! ### in, not in: flat items -/
def flatV : V → Bool
  | .non => true
  | .bl _ => true
  | .int _ => true
  | .str _ => true
  | _ => false
/-- == of flat values -/
def eqV : V → V → Bool
  | .non, .non => true
  | .bl a, .bl b => a == b
  | .bl a, .int b => (if a then 1 else 0) == b
  | .int a, .bl b => a == (if b then 1 else 0)
  | .int a, .int b => a == b
  | .str a, .str b => a == b
  | _, _ => false
theorem eqAt_V {A : Around} {s : Shared} {y x : V} {u v : Value} (ry : RelV y u) (rx : RelV x v) (fy : flatV y = true) (fx : flatV x = true) : SeqAt.EqAt A s u v (eqV y x) := by
  cases y with
  | non =>
    cases ry
    cases x with
    | non => cases rx; exact SeqAt.EqAt.same _
    | bl b => cases rx; exact SeqAt.EqAt.none_bool b
    | int b => obtain ⟨t, rfl⟩ := rx; exact SeqAt.EqAt.none_int b t
    | str b => obtain ⟨t, rfl⟩ := rx; exact SeqAt.EqAt.none_str b t
    | _ => exact absurd (show false = true from fx) Bool.false_ne_true
  | bl a =>
    cases ry
    cases x with
    | non => cases rx; exact SeqAt.EqAt.bool_none a
    | bl b => cases rx; exact SeqAt.EqAt.bool_bool a b
    | int b => obtain ⟨t, rfl⟩ := rx; exact SeqAt.EqAt.bool_int a b t
    | str b => obtain ⟨t, rfl⟩ := rx; exact SeqAt.EqAt.bool_str a b t
    | _ => exact absurd (show false = true from fx) Bool.false_ne_true
  | int a =>
    obtain ⟨t', rfl⟩ := ry
    cases x with
    | non => cases rx; exact SeqAt.EqAt.int_none a t'
    | bl b => cases rx; exact SeqAt.EqAt.int_bool a t' b
    | int b => obtain ⟨t, rfl⟩ := rx; exact SeqAt.EqAt.int_int a t' b t
    | str b => obtain ⟨t, rfl⟩ := rx; exact SeqAt.EqAt.int_str a t' b t
    | _ => exact absurd (show false = true from fx) Bool.false_ne_true
  | str a =>
    obtain ⟨t', rfl⟩ := ry
    cases x with
    | non => cases rx; exact SeqAt.EqAt.str_none a t'
    | bl b => cases rx; exact SeqAt.EqAt.str_bool a t' b
    | int b => obtain ⟨t, rfl⟩ := rx; exact SeqAt.EqAt.str_int a t' b t
    | str b => obtain ⟨t, rfl⟩ := rx; exact SeqAt.EqAt.str_str a t' b t
    | _ => exact absurd (show false = true from fx) Bool.false_ne_true
  | _ => exact absurd (show false = true from fy) Bool.false_ne_true
/-- the items' answers, read off the values (a value's own answer does not lean on its token) -/
def eqU (x : V) (u : Value) : Bool := match u with
  | .none => eqV .non x
  | .bool b => eqV (.bl b) x
  | .int i _ => eqV (.int i) x
  | .str z _ => eqV (.str z) x
  | _ => false
theorem eqU_of {x y : V} {u : Value} (r : RelV y u) (f : flatV y = true) : eqU x u = eqV y x := by
  cases y with
  | non => cases r; rfl
  | bl b => cases r; rfl
  | int i => obtain ⟨t, rfl⟩ := r; rfl
  | str z => obtain ⟨t, rfl⟩ := r; rfl
  | _ => exact absurd (show false = true from f) Bool.false_ne_true
theorem any_eqU {x : V} : ∀ {xs : List V} {us : List Value}, Vals xs us → xs.all flatV = true → us.any (eqU x) = xs.any fun y => eqV y x
  | _, _, .nil, _ => rfl
  | y :: xs, u :: us, .cons r t, f => by
    rw [List.all_cons, Bool.and_eq_true] at f
    rw [List.any_cons, List.any_cons, eqU_of r f.1, any_eqU t f.2]
theorem mem_eqAt {A : Around} {s : Shared} {x : V} {v : Value} (rx : RelV x v) (fx : flatV x = true) : ∀ {xs : List V} {us : List Value}, Vals xs us → xs.all flatV = true → ∀ u ∈ us, SeqAt.EqAt A s u v (eqU x u)
  | _, _, .nil, _ => fun u hu => by cases hu
  | y :: xs, u :: us, .cons r t, f => fun u' hu => by
    rw [List.all_cons, Bool.and_eq_true] at f
    rcases List.mem_cons.mp hu with rfl | hu
    · rw [eqU_of r f.1]; exact eqAt_V r rx f.1 fx
    · exact mem_eqAt rx fx t f.2 u' hu
def inV (x : V) (xs : List V) : Bool := xs.any fun y => eqV y x
/-- x in a list or tuple of flat items -/
def rIn (K : PySem.W.Frag) (neg : Bool) : R2 := fun x y H Q => ∃ p xs, y = .ref p ∧ (SqL K H p xs ∨ SqT K H p xs) ∧ flatV x = true ∧ xs.all flatV = true ∧ Q (.bl (if neg then !inV x xs else inV x xs)) H
theorem op_in_seq : OpR X (compareOp .In) (rIn X.K false) := by
  intro pins s σ H x y v u Q I rx ry h
  obtain ⟨p, xs, rfl, hq, fx, fs, q⟩ := h
  cases ry
  rcases hq with hq | hq
  · obtain ⟨its, r, pl, hz⟩ := I.list hq
    refine SeqAt.in_listAt (eqU x) pl.isList (fun w hw => mem_eqAt rx fx r fs w (by simpa using hw)) ⟨.bl _, H, I, rfl, ?_⟩
    rw [show its.toArray.any (eqU x) = its.any (eqU x) by simp, any_eqU r fs]
    exact q
  · obtain ⟨its, r, pl, hz⟩ := I.tuple hq
    refine SeqAt.in_tupleAt (eqU x) pl (fun w hw => mem_eqAt rx fx r fs w (by simpa using hw)) ⟨.bl _, H, I, rfl, ?_⟩
    rw [show its.toArray.any (eqU x) = its.any (eqU x) by simp, any_eqU r fs]
    exact q
theorem op_notIn_seq : OpR X (compareOp .NotIn) (rIn X.K true) := by
  intro pins s σ H x y v u Q I rx ry h
  obtain ⟨p, xs, rfl, hq, fx, fs, q⟩ := h
  cases ry
  rcases hq with hq | hq
  · obtain ⟨its, r, pl, hz⟩ := I.list hq
    refine SeqAt.notIn_listAt (eqU x) pl.isList (fun w hw => mem_eqAt rx fx r fs w (by simpa using hw)) ⟨.bl _, H, I, rfl, ?_⟩
    rw [show its.toArray.any (eqU x) = its.any (eqU x) by simp, any_eqU r fs]
    exact q
  · obtain ⟨its, r, pl, hz⟩ := I.tuple hq
    refine SeqAt.notIn_tupleAt (eqU x) pl (fun w hw => mem_eqAt rx fx r fs w (by simpa using hw)) ⟨.bl _, H, I, rfl, ?_⟩
    rw [show its.toArray.any (eqU x) = its.any (eqU x) by simp, any_eqU r fs]
    exact q
theorem op_notIn_str : OpR X (compareOp .NotIn) (fun x y H Q => ∃ i j, x = .str i ∧ y = .str j ∧ Q (.bl (!(!(Builtin.Str.occurrences j i 0 j.length 1).isEmpty))) H) := by
  intro pins s σ H x y v u Q I rx ry h
  obtain ⟨i, j, rfl, rfl, q⟩ := h
  obtain ⟨t, rfl⟩ := rx
  obtain ⟨t', rfl⟩ := ry
  exact notIn_str ⟨.bl _, H, I, rfl, q⟩

/-! ### len, list(x), tuple(x) of any list or tuple that is read -/
theorem call_len_seq : CallR X (.builtin "len") (fun xs H Q => ∃ p ys, xs = [.ref p] ∧ (SqL X.K H p ys ∨ SqT X.K H p ys) ∧ Q (.int ys.length) H) := by
  intro pins s σ H xs us Q I r h
  obtain ⟨p, ys, rfl, hq, q⟩ := h
  obtain ⟨u, rfl, rx⟩ := vals1 r
  cases rx
  have hn := line63
  rcases hq with hq | hq
  · obtain ⟨its, r', pl, hz⟩ := I.list hq
    have hlen := r'.length
    exact Calls.call_len_list pl.isList (by simp only [List.size_toArray] <;> omega) ⟨.int ys.length, H, I.tok _, ⟨s.toks + 1, by rw [List.size_toArray, hlen]⟩, q⟩
  · obtain ⟨its, r', pl, hz⟩ := I.tuple hq
    have hlen := r'.length
    exact len_tuple pl (by simp only [List.size_toArray] <;> omega) ⟨.int ys.length, H, I.tok _, ⟨s.toks + 1, by rw [List.size_toArray, hlen]⟩, q⟩
theorem call_len_str : CallR X (.builtin "len") (fun xs H Q => ∃ z, xs = [.str z] ∧ z.length ≤ sizeLine ∧ Q (.int z.length) H) := by
  intro pins s σ H xs us Q I r h
  obtain ⟨z, rfl, hz, q⟩ := h
  obtain ⟨u, rfl, t, rfl⟩ := vals1 r
  have hn := line63
  exact len_str (by omega) ⟨.int z.length, H, I.tok _, ⟨_, rfl⟩, q⟩
theorem CallR.or {f : Value} {r r' : List V → Hp → VK → Prop} (h : CallR X f r) (h' : CallR X f r') : CallR X f (fun xs H Q => r xs H Q ∨ r' xs H Q) := by
  intro pins s σ H xs us Q I rs q
  rcases q with q | q
  · exact h pins s σ H xs us Q I rs q
  · exact h' pins s σ H xs us Q I rs q
theorem call_list_of : CallR X (.type "list") (fun xs H Q => ∃ p ys, xs = [.ref p] ∧ (SqL X.K H p ys ∨ SqT X.K H p ys) ∧ ∀ l, H l = none → Q (.ref l) (upd H l (.lst ys))) := by
  intro pins s σ H xs us Q I r h
  obtain ⟨p, ys, rfl, hq, q⟩ := h
  obtain ⟨u, rfl, rx⟩ := vals1 r
  cases rx
  have fin : ∀ (its : List Value), Vals ys its → ys.length ≤ sizeLine → ∀ (h' : Heap) (c' : Nat), (∀ b o', s.heap.get? b = some o' → h'.get? b = some o') →
      h'.get? s.heap.objs.size = some { cls := .type "list", dict := none, data := .seq its.toArray c', slots := #[] } → EP X pins σ Q (.ref s.heap.objs.size) { s with heap := h' } := fun its r' hz h' c' kp e =>
    ⟨.ref s.heap.objs.size, _, I.laid (t' := s.toks) kp (Nat.le_refl _) (show ObjOk X.prog X.w _ h' _ (.lst ys) from ⟨hz, its, c', r', e⟩), rfl, q _ (I.hok.fresh (Nat.le_refl _))⟩
  rcases hq with hq | hq
  · obtain ⟨its, r', pl, hz⟩ := I.list hq
    have hlen := r'.length
    obtain ⟨o, ho, hc, n, hd⟩ := pl.isList
    exact call_list_seq p (.inl rfl) ho hc hd (fun h' c' kp e => fin its r' hz h' c' kp e) (by simp only [List.size_toArray] <;> omega)
  · obtain ⟨its, r', pl, hz⟩ := I.tuple hq
    have hlen := r'.length
    obtain ⟨o, ho, hc, n, hd⟩ := pl
    exact call_list_seq p (.inr rfl) ho hc hd (fun h' c' kp e => fin its r' hz h' c' kp e) (by simp only [List.size_toArray] <;> omega)
theorem call_tuple_of : CallR X (.type "tuple") (fun xs H Q => ∃ p ys, xs = [.ref p] ∧ ((SqL X.K H p ys ∧ ∀ l, H l = none → Q (.ref l) (upd H l (.tup ys))) ∨ (SqT X.K H p ys ∧ Q (.ref p) H))) := by
  intro pins s σ H xs us Q I r h
  obtain ⟨p, ys, rfl, h⟩ := h
  obtain ⟨u, rfl, rx⟩ := vals1 r
  cases rx
  rcases h with ⟨hq, q⟩ | ⟨hq, q⟩
  · obtain ⟨its, r', pl, hz⟩ := I.list hq
    have hlen := r'.length
    refine call_tuple_list pl.isList (fun h' kp => ?_) (by simp only [List.size_toArray] <;> omega)
    have I1 : Inv X pins σ H { s with heap := h' } := I.kept (t' := s.toks) kp
    have I2 : Inv X pins σ (upd H h'.objs.size (.tup ys)) { s with heap := h'.push { cls := .type "tuple", data := .seq its.toArray } } :=
      I1.laid (t' := s.toks) (fun b o e => Heap.get?_push_of_some _ e) (Nat.le_refl _) (show ObjOk X.prog X.w _ _ _ (.tup ys) from ⟨hz, its, r', IsTup.new _ _⟩)
    exact ⟨.ref h'.objs.size, _, I2, rfl, q _ (I1.hok.fresh (Nat.le_refl _))⟩
  · obtain ⟨its, r', pl, hz⟩ := I.tuple hq
    exact call_tuple_same pl ⟨.ref p, H, I, rfl, q⟩

/-! ### the call of a builtin's method: o.m(..) -/
/-- the value is of that builtin type -/
def tyV (K : PySem.W.Frag) (T : String) (x : V) (H : Hp) : Prop := match x with
  | .str _ => T = "str"
  | .int _ => T = "int"
  | .ref p => (T = "list" ∧ ∃ xs, SqL K H p xs) ∨ (T = "tuple" ∧ ∃ o, K.lookup p = some o ∧ o.cls = .type "tuple" ∧ o.dict = none) ∨
      (T = "dict" ∧ ((∃ kvs, H p = some (.dK kvs)) ∨ ∃ kvs, H p = some (.dT kvs))) ∨ (T = "set" ∧ ∃ S n, H p = some (.set S n))
  | _ => False
theorem tyV_is {pins : List (Addr × Obj)} {σ : St} {H : Hp} {s : Shared} {T : String} {x : V} {v : Value} (I : Inv X pins σ H s) (r : RelV x v) (ty : tyV X.K T x H) :
    s.TypeIs v T ∧ ∀ a, v = .ref a → ∃ ob, s.heap.get? a = some ob ∧ ob.dict = none := by
  cases x with
  | str z =>
    obtain ⟨t, rfl⟩ := r
    cases (show T = "str" from ty)
    exact ⟨typeIs_str s z t, fun _ e => nomatch e⟩
  | int i =>
    obtain ⟨t, rfl⟩ := r
    cases (show T = "int" from ty)
    exact ⟨typeIs_int s i t, fun _ e => nomatch e⟩
  | ref p =>
    cases r
    rcases ty with ⟨rfl, xs, hq⟩ | ⟨rfl, o, hk, hc, hd⟩ | ⟨rfl, hk⟩ | ⟨rfl, S, n, hk⟩
    · obtain ⟨its, _, pl, _⟩ := I.list hq
      refine ⟨pl.isList.typeIs, fun a e => ?_⟩
      cases e
      obtain ⟨o, n, e, c, hd, _⟩ := pl
      exact ⟨o, e, hd⟩
    · refine ⟨⟨o, I.kIn p o hk, hc⟩, fun a e => ?_⟩
      cases e
      exact ⟨o, I.kIn _ o hk, hd⟩
    · have z : ∃ o, s.heap.get? p = some o ∧ o.ExactDict := by
        rcases hk with ⟨kvs, hk⟩ | ⟨kvs, hk⟩
        · obtain ⟨_, _, _, _, o, _, _, e, ex, _⟩ := I.hok p _ hk
          exact ⟨o, e, ex⟩
        · obtain ⟨_, _, _, _, o, _, _, e, ex, _⟩ := I.hok p _ hk
          exact ⟨o, e, ex⟩
      obtain ⟨o, e, ex⟩ := z
      refine ⟨⟨o, e, ex.1⟩, fun a e2 => ?_⟩
      cases e2
      exact ⟨o, e, ex.2.1⟩
    · obtain ⟨o, _, _, _, e, ex, _⟩ := I.hok p _ hk
      refine ⟨⟨o, e, ex.1⟩, fun a e2 => ?_⟩
      cases e2
      exact ⟨o, e, ex.2.1⟩
  | _ => exact False.elim ty
def tBM0 (K : PySem.W.Frag) (T : String) (r : V → List V → Hp → VK → Prop) (to : TE) : TE := fun σ H Q => to σ H fun x H1 => tyV K T x H1 ∧ r x [] H1 Q
def tBM (K : PySem.W.Frag) (T : String) (r : V → List V → Hp → VK → Prop) (to : TE) (t : TA) : TE := fun σ H Q => to σ H fun x H1 => tyV K T x H1 ∧ t σ H1 fun xs H2 => r x xs H2 Q
variable {o e : Expr} {es : List Expr} {to : TE} {t : TA} {name : Str} {apos cpos : Pos} {T id : String} {r : V → List V → Hp → VK → Prop}
theorem pe_bm0 (pa : PlainAttrs T) (slot : Slot T name id) (hty : typeOf (.builtin id) = pure (.type "method_descriptor")) (hm : MtR X id r) (ho : PE X o to)
    (hbase : attributeBase o name X.env (eval o X.env) = eval o X.env := by rfl) (hline : (apos.endLine == cpos.line) = true := by rfl) : PE X (.Call (.Attribute o name apos) [] [] cpos) (tBM0 X.K T r to) := by
  intro pins s σ H Q I h
  refine wpAny_Call_method0_late hbase hline (thn (ho pins s σ H _ I h) fun v s1 ⟨x, H1, I1, r1, ty, q1⟩ => ?_)
  obtain ⟨h1, h2⟩ := tyV_is I1 r1 ty
  exact ⟨T, id, pa, slot, hty, h1, h2, Calls.callWith_builtin rfl (PySem.evalArgs_none (hm pins s1 σ H1 x [] v [] Q I1 r1 .nil q1))⟩
theorem pe_bm (pa : PlainAttrs T) (slot : Slot T name id) (hty : typeOf (.builtin id) = pure (.type "method_descriptor")) (hm : MtR X id r) (ho : PE X o to) (ha : PA X (e :: es) t)
    (hbase : attributeBase o name X.env (eval o X.env) = eval o X.env := by rfl)
    (hfew : ((backTo cpos (starEach (e :: es) X.env)).all (fun x => !x.1) && (backToKw cpos (keywordEach [] X.env)).all (fun x => x.1.isSome)
      && decide ((e :: es).length + ([] : List Keyword).length + (if ([] : List Keyword).isEmpty then 0 else 1) < 30)) = true := by rfl)
    (hline : (apos.endLine == cpos.line) = true := by rfl) (hs : starEach (e :: es) X.env = (false, eval e X.env) :: starEach es X.env := by rfl) (hplain : (backTo cpos (starEach es X.env)).any (·.1) = false := by rfl) :
    PE X (.Call (.Attribute o name apos) (e :: es) [] cpos) (tBM X.K T r to t) := by
  intro pins s σ H Q I h
  refine wpAny_Call_method_late hbase hfew hline rfl (thn (ho pins s σ H _ I h) fun v s1 ⟨x, H1, I1, r1, ty, q1⟩ => ?_)
  obtain ⟨h1, h2⟩ := tyV_is I1 r1 ty
  refine ⟨T, id, pa, slot, hty, h1, h2, ?_⟩
  have hA := ha cpos pins s1 σ H1 _ I1 q1
  rw [hs] at hA ⊢
  refine Calls.callWith_builtin (by show (false || (backTo cpos (starEach es X.env)).any (·.1)) = false; rw [hplain] <;> rfl) (Calls.evalArgs_plain ?_)
  exact thn hA fun us s2 ⟨vs, H2, I2, r2, q2⟩ => hm pins s2 σ H2 x vs v us Q I2 r1 r2 q2
/- xs.append(e), list.index on a module's tuple .. are MtR facts of 06m -/
end
end L2

namespace L2
open PySem PySem.Spec PyProof.Rows

def MtM (X : Cx) (id : String) (r : V → List V → Hp → VK → Prop) : Prop :=
  ∀ (pins : List (Addr × Obj)) (s : Shared) (σ : St) (H : Hp) (x : V) (xs : List V) (v : Value) (us : List Value) (Q : VK), Inv X pins σ H s → RelV x v → Vals xs us → r x xs H Q →
    wpAny (model X.prog X.w) X.A (call (.builtin id) (v :: us)) (EP X pins σ Q) X.xe s

/-! ### lists of values -/
theorem Vals.one : ∀ {x : V} {us : List Value}, Vals [x] us → ∃ u, us = [u] ∧ RelV x u
  | _, _, .cons r .nil => ⟨_, rfl, r⟩
theorem Vals.two : ∀ {x y : V} {us : List Value}, Vals [x, y] us → ∃ u v, us = [u, v] ∧ RelV x u ∧ RelV y v
  | _, _, _, .cons r (.cons q .nil) => ⟨_, _, rfl, r, q⟩
theorem Vals.zero : ∀ {us : List Value}, Vals [] us → us = []
  | _, .nil => rfl
theorem Vals.dropLast {xs : List V} {us : List Value} (h : Vals xs us) : Vals xs.dropLast us.dropLast := by
  induction h with
  | nil => exact .nil
  | cons r t ih =>
    cases t with
    | nil => exact .nil
    | cons q t' => exact .cons r ih
theorem Vals.eraseIdx : ∀ {xs : List V} {us : List Value} (i : Nat), Vals xs us → Vals (xs.eraseIdx i) (us.eraseIdx i)
  | _, _, _, .nil => .nil
  | _, _, 0, .cons _ t => t
  | _, _, i + 1, .cons r t => .cons r (Vals.eraseIdx i t)
theorem Vals.reverse {xs : List V} {us : List Value} (h : Vals xs us) : Vals xs.reverse us.reverse := by
  induction h with
  | nil => exact .nil
  | cons r t ih => rw [List.reverse_cons, List.reverse_cons]; exact Vals.append ih (.cons r .nil)
theorem Vals.rep {xs : List V} {us : List Value} (h : Vals xs us) : ∀ k : Nat, Vals (List.replicate k xs).flatten (List.replicate k us).flatten
  | 0 => .nil
  | k + 1 => by
    rw [List.replicate_succ, List.replicate_succ, List.flatten_cons, List.flatten_cons]
    exact Vals.append h (Vals.rep h k)
theorem erase_last {α : Type} (l : List α) : l.eraseIdx (l.length - 1) = l.dropLast := by
  induction l with
  | nil => rfl
  | cons a r ih =>
    cases r with
    | nil => rfl
    | cons b r =>
      have e : (a :: b :: r).length - 1 = ((b :: r).length - 1) + 1 := by
        have h1 : (a :: b :: r).length = r.length + 2 := rfl
        have h2 : (b :: r).length = r.length + 1 := rfl
        omega
      rw [e, List.eraseIdx_cons_succ, ih]
      all_goals rfl
theorem len_erase {α : Type} : ∀ (l : List α) (i : Nat), (l.eraseIdx i).length ≤ l.length
  | [], _ => Nat.le_refl _
  | _ :: _, 0 => Nat.le_succ _
  | _ :: r, i + 1 => Nat.succ_le_succ (len_erase r i)
theorem foldl_rep (its : List Value) : ∀ (k : Nat) (acc : List Value),
    List.foldl (fun x1 x2 => x1 ++ x2) acc.toArray (List.replicate k its.toArray) = (acc ++ (List.replicate k its).flatten).toArray
  | 0, acc => by simp
  | k + 1, acc => by
    have e : acc.toArray ++ its.toArray = (acc ++ its).toArray := by simp
    have e2 : (acc ++ its) ++ (List.replicate k its).flatten = acc ++ (List.replicate (k + 1) its).flatten := by
      rw [List.replicate_succ, List.flatten_cons, List.append_assoc]
    rw [← e2, ← foldl_rep its k (acc ++ its), ← e, List.replicate_succ, List.foldl_cons]

section
variable {X : Cx} {pins : List (Addr × Obj)} {σ : St} {H : Hp} {s : Shared} {l b : Addr} {xs ys zs : List V}

/-! ### the two steps: a tracked list is rewritten, a new list is laid -/
theorem Inv.lset {its its' : List Value} {n : Nat} {f : Array Value → Array Value} {t' : Nat} (I : Inv X pins σ H s) (hH : H l = some (.lst xs))
    (e : s.heap.get? l = some { cls := .type "list", data := .seq its.toArray n }) (hf : f its.toArray = its'.toArray) (hv : Vals ys its') (hz : ys.length ≤ sizeLine) :
    Inv X pins σ (upd H l (.lst ys)) { s with heap := s.heap.update l (Obj.mapSeq f), toks := t' } := by
  have q := PySem.IsL.update e f
  rw [hf] at q
  refine I.write (x := l) (e := l) (by rw [hH]; exact trivial) (.inl rfl) (fun b' u hb hu => (Heap.get?_update_other s.heap (Obj.mapSeq f) (Ne.symm hb)).trans hu) ⟨_, q⟩ ?_
  exact ⟨hz, its', _, hv, q⟩
theorem Inv.lnew {its : List Value} {t' : Nat} (I : Inv X pins σ H s) (hv : Vals ys its) (hz : ys.length ≤ sizeLine) :
    Inv X pins σ (upd H s.heap.objs.size (.lst ys)) { s with heap := s.heap.push { cls := .type "list", data := .seq its.toArray }, toks := t' } :=
  I.laid (fun _ _ q => Heap.get?_push_of_some _ q) (Nat.le_refl _) ⟨hz, its, 0, hv, Heap.get?_push_size _ rfl⟩
theorem Inv.fresh (I : Inv X pins σ H s) : H s.heap.objs.size = none := I.hok.fresh (Nat.le_refl _)
theorem Inv.lstM (I : Inv X pins σ H s) (hH : H l = some (.lst xs)) : xs.length ≤ sizeLine ∧ ∃ (its : List Value) (n : Nat), Vals xs its ∧ xs.length = its.length ∧ s.heap.get? l = some { cls := .type "list", data := .seq its.toArray n } := by
  obtain ⟨z, its, n, r, e⟩ := I.hok l _ hH
  exact ⟨z, its, n, r, r.length, e⟩

theorem notLongL {n : Nat} (h : n ≤ sizeLine) : Builtin.List.listTooLong n = false := by
  unfold Builtin.List.listTooLong
  exact decide_eq_false (by omega)
end

section
variable {X : Cx}

/-! ### methods -/
def rAppend : V → List V → Hp → VK → Prop := fun x vs H Q => ∃ l xs y, x = .ref l ∧ vs = [y] ∧ H l = some (.lst xs) ∧ xs.length < sizeLine ∧ Q .non (upd H l (.lst (xs ++ [y])))
theorem mt_append : MtM X "list.append" rAppend := by
  intro pins s σ H x vs v us Q I rx rv h
  obtain ⟨l, xs, y, rfl, rfl, hH, hz, q⟩ := h
  cases rx
  obtain ⟨u, rfl, ru⟩ := rv.one
  obtain ⟨z, its, n, r, hl, e⟩ := I.lstM hH
  refine call_meets F.slot_list_append ⟨_, e, rfl⟩ F.entry_list_append (F.args_list_append_2 _ _) (PySem.list_append l its.toArray n u (by rw [List.size_toArray]; omega)) ⟨e, ?_⟩
  refine ⟨.non, _, I.lset (its' := its ++ [u]) hH e (by simp) (r.append (.cons ru .nil)) ?_, rfl, q⟩
  rw [List.length_append, List.length_singleton]
  omega

def rExtend : V → List V → Hp → VK → Prop := fun x vs H Q => ∃ l b xs zs, x = .ref l ∧ vs = [.ref b] ∧ H l = some (.lst xs) ∧ H b = some (.lst zs) ∧ xs.length + zs.length ≤ sizeLine ∧ Q .non (upd H l (.lst (xs ++ zs)))
theorem mt_extend : MtM X "list.extend" rExtend := by
  intro pins s σ H x vs v us Q I rx rv h
  obtain ⟨l, b, xs, zs, rfl, rfl, hH, hB, hz, q⟩ := h
  cases rx
  obtain ⟨u, rfl, ru⟩ := rv.one
  cases ru
  obtain ⟨z, its, n, r, hl, e⟩ := I.lstM hH
  obtain ⟨z2, its2, n2, r2, hl2, e2⟩ := I.lstM hB
  have hsz : its.toArray.size + its2.toArray.size ≤ sizeLine := by rw [List.size_toArray, List.size_toArray]; omega
  have hlong : ¬ (!its.toArray.isEmpty && Builtin.List.listTooLong (its.toArray.size + its2.toArray.size)) = true := by
    rw [notLongL hsz, Bool.and_false]
    exact Bool.false_ne_true
  refine call_meets F.slot_list_extend ⟨_, e, rfl⟩ F.entry_list_extend (F.args_list_extend_2 _ _)
    (AutoSeq1.list_extend_list_list_0 l its.toArray n b its2.toArray n2 hlong (by rw [List.size_toArray]; omega) (by omega)) ⟨e, e2, ?_⟩
  refine ⟨.non, _, I.lset (its' := its ++ its2) hH e (by simp) (r.append r2) ?_, rfl, q⟩
  rw [List.length_append]
  omega

def rPop : V → List V → Hp → VK → Prop := fun x vs H Q => ∃ l xs y, x = .ref l ∧ vs = [] ∧ H l = some (.lst xs) ∧ xs[xs.length - 1]? = some y ∧ Q y (upd H l (.lst xs.dropLast))
theorem mt_pop : MtM X "list.pop" rPop := by
  intro pins s σ H x vs v us Q I rx rv h
  obtain ⟨l, xs, y, rfl, rfl, hH, hy, q⟩ := h
  cases rx
  have hus := rv.zero
  subst hus
  obtain ⟨z, its, n, r, hl, e⟩ := I.lstM hH
  obtain ⟨u, hu, ru⟩ := r.get hy
  have hy' : its.toArray[its.toArray.size - 1]? = some u := by
    show its.toArray[its.length - 1]? = some u
    rw [← Array.getElem?_toList, ← hl]
    exact hu
  refine call_meets F.slot_list_pop ⟨_, e, rfl⟩ F.entry_list_pop (F.args_list_pop_1 _) (MeetsSeq.list_pop_last l its.toArray n u hy' (by rw [List.size_toArray]; omega)) ⟨e, ?_⟩
  refine ⟨y, _, I.lset (its' := its.dropLast) hH e ?_ r.dropLast ?_, ru, q⟩
  · show its.toArray.eraseIdxIfInBounds (its.toArray.size - 1) = its.dropLast.toArray
    rw [List.size_toArray, List.eraseIdxIfInBounds_toArray, erase_last]
  · rw [List.length_dropLast]
    omega

def rPopAt : V → List V → Hp → VK → Prop := fun x vs H Q => ∃ l xs i k y, x = .ref l ∧ vs = [.int i] ∧ H l = some (.lst xs) ∧ -(2 ^ 63) ≤ i ∧ i < 2 ^ 63 ∧ seqIndex? i xs.length = some k ∧ xs[k]? = some y ∧ Q y (upd H l (.lst (xs.eraseIdx k)))
theorem mt_popAt : MtM X "list.pop" rPopAt := by
  intro pins s σ H x vs v us Q I rx rv h
  obtain ⟨l, xs, i, k, y, rfl, rfl, hH, h1, h2, hk, hy, q⟩ := h
  cases rx
  obtain ⟨u, rfl, ru⟩ := rv.one
  obtain ⟨t, rfl⟩ := ru
  obtain ⟨z, its, n, r, hl, e⟩ := I.lstM hH
  obtain ⟨w, hw, rw'⟩ := r.get hy
  refine call_meets F.slot_list_pop ⟨_, e, rfl⟩ F.entry_list_pop (F.args_list_pop_2 _ _)
    (MeetsSeq.list_pop_at l its.toArray n i t k w (fitsIndex_both h1 h2) (by rw [List.size_toArray, ← hl]; exact hk) (by rw [← Array.getElem?_toList]; exact hw) (by rw [List.size_toArray]; omega)) ⟨e, ?_⟩
  refine ⟨y, _, I.lset (its' := its.eraseIdx k) hH e ?_ (r.eraseIdx k) ?_, rw', q⟩
  · show its.toArray.eraseIdxIfInBounds k = (its.eraseIdx k).toArray
    rw [List.eraseIdxIfInBounds_toArray]
  · have := len_erase xs k
    omega

def rReverse : V → List V → Hp → VK → Prop := fun x vs H Q => ∃ l xs, x = .ref l ∧ vs = [] ∧ H l = some (.lst xs) ∧ Q .non (upd H l (.lst xs.reverse))
theorem mt_reverse : MtM X "list.reverse" rReverse := by
  intro pins s σ H x vs v us Q I rx rv h
  obtain ⟨l, xs, rfl, rfl, hH, q⟩ := h
  cases rx
  have hus := rv.zero
  subst hus
  obtain ⟨z, its, n, r, hl, e⟩ := I.lstM hH
  refine call_meets F.slot_list_reverse ⟨_, e, rfl⟩ F.entry_list_reverse (F.args_list_reverse_1 _) (AutoSeq1.list_reverse_list_0 l its.toArray n (by rw [List.size_toArray]; omega)) ⟨e, ?_⟩
  refine ⟨.non, _, I.lset (its' := its.reverse) hH e (by simp) r.reverse ?_, rfl, q⟩
  rw [List.length_reverse]
  omega

def rClear : V → List V → Hp → VK → Prop := fun x vs H Q => ∃ l xs, x = .ref l ∧ vs = [] ∧ H l = some (.lst xs) ∧ Q .non (upd H l (.lst []))
theorem mt_clear : MtM X "list.clear" rClear := by
  intro pins s σ H x vs v us Q I rx rv h
  obtain ⟨l, xs, rfl, rfl, hH, q⟩ := h
  cases rx
  have hus := rv.zero
  subst hus
  obtain ⟨z, its, n, r, hl, e⟩ := I.lstM hH
  refine call_meets F.slot_list_clear ⟨_, e, rfl⟩ F.entry_list_clear (F.args_list_clear_1 _) (AutoSeq1.list_clear_list_0 l its.toArray n (by rw [List.size_toArray]; omega)) ⟨e, ?_⟩
  exact ⟨.non, _, I.lset (its' := []) (ys := []) hH e rfl .nil (Nat.zero_le _), rfl, q⟩

/-! ### list + list, list += list, list * int -/
def rCat : R2 := fun x y H Q => ∃ l b xs zs, x = .ref l ∧ y = .ref b ∧ H l = some (.lst xs) ∧ H b = some (.lst zs) ∧ xs.length + zs.length ≤ sizeLine ∧ ∀ p, H p = none → Q (.ref p) (upd H p (.lst (xs ++ zs)))
theorem op_cat : OpR X (binaryOp .Add) rCat := by
  intro pins s σ H x y v u Q I rx ry h
  obtain ⟨l, b, xs, zs, rfl, rfl, hH, hB, hz, q⟩ := h
  cases rx
  cases ry
  obtain ⟨z, its, n, r, hl, e⟩ := I.lstM hH
  obtain ⟨z2, its2, n2, r2, hl2, e2⟩ := I.lstM hB
  refine PySem.P.add_list e e2 ?_ (by rw [List.size_toArray, List.size_toArray]; omega)
  have ea : its.toArray ++ its2.toArray = (its ++ its2).toArray := by simp
  rw [ea]
  exact ⟨.ref _, _, I.lnew (t' := s.toks) (r.append r2) (by rw [List.length_append]; omega), rfl, q _ I.fresh⟩
/-- a list times an int (a negative one is nothing) -/
def rRep : R2 := fun x y H Q => ∃ l k xs, x = .ref l ∧ y = .int k ∧ H l = some (.lst xs) ∧ -(2 ^ 63) ≤ k ∧ k < 2 ^ 63 ∧ xs.length * k.toNat ≤ sizeLine ∧
  ∀ p, H p = none → Q (.ref p) (upd H p (.lst (List.replicate k.toNat xs).flatten))
theorem len_rep {α : Type} (xs : List α) (k : Nat) : (List.replicate k xs).flatten.length = k * xs.length := by
  induction k with
  | zero => simp
  | succ k ih => rw [List.replicate_succ, List.flatten_cons, List.length_append, ih, Nat.succ_mul, Nat.add_comm]
theorem op_rep : OpR X (binaryOp .Mult) rRep := by
  intro pins s σ H x y v u Q I rx ry h
  obtain ⟨l, k, xs, rfl, rfl, hH, h1, h2, hz, q⟩ := h
  cases rx
  obtain ⟨t, rfl⟩ := ry
  obtain ⟨z, its, n, r, hl, e⟩ := I.lstM hH
  have hlen : its.toArray.size * k.toNat ≤ sizeLine := by rw [List.size_toArray, ← hl]; exact hz
  have hcap : ¬ its.toArray.size * k.toNat > (2 ^ 63 - 1) / 8 := by
    have : (sizeLine : Nat) ≤ (2 ^ 63 - 1) / 8 := by decide
    omega
  have hfit : ¬ (!Builtin.List.listFitsIndex k) = true := by
    rw [fitsIndex_both h1 h2]
    exact Bool.false_ne_true
  have hlong : ¬ Builtin.List.listTooLong (its.toArray.size * k.toNat) = true := by
    rw [notLongL hlen]
    exact Bool.false_ne_true
  have hnew : List.foldl (fun x1 x2 => x1 ++ x2) #[] (List.replicate (if its.toArray.isEmpty = true then 0 else k.toNat) its.toArray) = (List.replicate k.toNat its).flatten.toArray := by
    have f0 : ∀ m : Nat, List.foldl (fun x1 x2 => x1 ++ x2) #[] (List.replicate m its.toArray) = (List.replicate m its).flatten.toArray := fun m => by
      have := foldl_rep its m []
      rw [List.nil_append] at this
      exact this
    rw [f0]
    cases its with
    | nil => simp
    | cons a r' => rw [if_neg (by simp)]
  refine wpAny_binaryOp_repeat_ref (T := "list") (U := "int") (by decide) ⟨_, e, rfl⟩ (fun s' => typeIs_int s' k t) noFill_list_mul F.fills_int_mul F.slot_int_rmul repeat_list F.slot_int_index.lookup
    (call_meets F.slot_int_rmul (typeIs_int s k t) F.entry_int_rmul (F.args_int_rmul_2 _ _) (int___rmul___int_list k t l its.toArray n)
      ⟨e, rfl, ⟨_, e, rfl⟩, call_meets F.slot_list_mul ⟨_, e, rfl⟩ F.entry_list_mul (F.args_list_mul_2 _ _) (AutoListH.list___mul___list_int_3 l its.toArray n k t hfit hcap hlong) ⟨e, ?_⟩⟩)
  rw [hnew]
  exact ⟨.ref _, _, I.lnew (t' := s.toks) (r.rep k.toNat) (by rw [len_rep, Nat.mul_comm]; exact hz), rfl, q _ I.fresh⟩

/-! ### del xs[i] -/
theorem del_list {pins : List (Addr × Obj)} {s : Shared} {σ : St} {H : Hp} {l : Addr} {xs : List V} {i : Int} {t : Tok} {k : Nat} {Q : Unit → Shared → Prop} (I : Inv X pins σ H s) (hH : H l = some (.lst xs))
    (h1 : -(2 ^ 63) ≤ i) (h2 : i < 2 ^ 63) (hk : seqIndex? i xs.length = some k) (h : ∀ s', Inv X pins σ (upd H l (.lst (xs.eraseIdx k))) s' → Q () s') :
    wpAny (model X.prog X.w) X.A (delItem (.ref l) (.int i t)) Q X.xe s := by
  obtain ⟨z, its, n, r, hl, e⟩ := I.lstM hH
  refine PySem.P.delItem_list (k := k) e (fitsIndex_both h1 h2) (by rw [List.size_toArray, ← hl]; exact hk) (h _ ?_) (by rw [List.size_toArray]; omega)
  refine I.lset (its' := its.eraseIdx k) (t' := s.toks) hH e ?_ (r.eraseIdx k) ?_
  · show its.toArray.eraseIdxIfInBounds k = (its.eraseIdx k).toArray
    rw [List.eraseIdxIfInBounds_toArray]
  · have := len_erase xs k
    omega
end

/-! ### xs[a:b] = ys -/
section
variable {prog : Program} {w : World} {A : Around} {E : Value → Shared → Prop} {s : Shared}
theorem splice_eq (its its2 : List Value) (a c : Nat) : its.toArray.extract 0 a ++ its2.toArray ++ its.toArray.extract c its.toArray.size = (its.take a ++ its2 ++ its.drop c).toArray := by
  apply Array.toList_inj.mp
  first
    | (simp
       exact List.take_of_length_le (by simp))
    | simp [List.take_of_length_le]
    | simp
theorem bounds_run {a c n : Nat} (hac : a ≤ c) (hc : c ≤ n) : sliceBounds (some (a : Int)) (some (c : Int)) none n = ((a : Int), (c : Int), 1) := by
  simp only [sliceBounds, Option.getD_none]
  have h1 : ¬ ((a : Int) < 0) := by omega
  have h2 : ¬ ((c : Int) < 0) := by omega
  simp only [h1, h2, if_false, show (1 : Int) > 0 by decide, if_true]
  congr 1
  · omega
  · congr 1; omega
/-- list.__setitem__ with a slice of step one and another list -/
theorem setItem_slice {l b sl : Addr} {items new : Array Value} {n n2 : Nat} {vl vu : Value} {a c : Nat} {Q : Unit → Shared → Prop}
    (e : s.heap.get? l = some { cls := .type "list", data := .seq items n }) (e2 : s.heap.get? b = some { cls := .type "list", data := .seq new n2 }) (hne : l ≠ b)
    (hs : s.heap.IsSliceOf sl vl vu .none) (pl : IsPart vl (some (a : Int))) (pu : IsPart vu (some (c : Int))) (hac : a ≤ c) (hc : c ≤ items.size)
    (hsz : items.size + new.size ≤ sizeLine) (h : Q () { s with heap := s.heap.update l (Obj.mapSeq fun xs => xs.extract 0 a ++ new ++ xs.extract c xs.size) }) :
    wpAny (model prog w) A (setItem (.ref l) (.ref sl) (.ref b)) Q E s := by
  have hl : s.heap.IsList l items := PySem.IsL.isList e
  have hb : s.heap.IsList b new := PySem.IsL.isList e2
  obtain ⟨os, hos, hcs, hds⟩ := id hs
  have hTs : s.TypeIs (.ref sl) "slice" := ⟨os, hos, hcs⟩
  have hstep : ¬ ((rawPart none == rawInt 0) = true) := Bool.false_ne_true
  have hsame : Builtin.List.listSameRef (.ref l) (.ref b) = false := by
    unfold Builtin.List.listSameRef
    exact beq_eq_false_iff_ne.mpr hne
  have hmax : (max (a : Int) (c : Int)).toNat = c := by omega
  have hz' : ((fun xs : Array Value => xs.extract 0 a ++ new ++ xs.extract c xs.size) items).size ≤ sizeLine + 1 := by
    simp only [Array.size_append, Array.size_extract]
    omega
  unfold setItem
  try with_reducible refine wpAny_holding ?_
  first | refine wpAny_bind (wpAny_pure ?_) | skip
  refine wpAny_bind (wpAny_sequenceKey hl.typeIs (by decide) ?_)
  refine wpAny_bind (wpAny_callSpecial?_slot (name := Str.ofString "__setitem__") hl.typeIs slot_list_setitem
    (wpAny_call_entry slot_list_setitem hl.typeIs entry_list_setitem ?_ (args_list_setitem _ _ _)))
  show wpAny _ _ (Builtin.List.listSubscript? (.ref sl) >>= _) _ _ s
  refine wpAny_bind ?_
  unfold Builtin.List.listSubscript?
  refine wpAny_bind (wpAny_specialOf hTs slice_no_index ?_)
  simp only [Option.isNone_none, if_true]
  refine wpAny_pure ?_
  show wpAny _ _ (typeOf (.ref sl) >>= _) _ _ s
  refine wpAny_bind (wpAny_typeOf hTs ?_)
  first
    | rw [if_neg (by decide)]
    | refine PySem.W.KFB.if_not (by decide) ?_
  rw [listSliceParts_eq]
  refine wpAny_bind (wpAny_bind (wpAny_field hos hds (x := .none) rfl (wpAny_bind (wpAny_listPart .none ?_))))
  rw [if_neg hstep]
  refine wpAny_bind (wpAny_field hos hds (x := vl) rfl (wpAny_bind (wpAny_listPart pl ?_)))
  refine wpAny_bind (wpAny_field hos hds (x := vu) rfl (wpAny_bind (wpAny_listPart pu (wpAny_pure ?_))))
  first
    | simp only [hsame, Bool.false_eq_true, if_false]
    | refine PySem.W.KFB.if_not hsame ?_
    | (dsimp only
       rw [if_neg (by rw [hsame]; exact Bool.false_ne_true)])
  refine wpAny_bind (m := Builtin.List.listAllItems (.ref b) "must assign iterable to extended slice") ?_
  unfold Builtin.List.listAllItems
  refine wpAny_bind (wpAny_typeOf hb.typeIs ?_)
  first
    | refine PySem.W.KFB.if_so (by decide) ?_
    | rw [if_pos (by decide)]
    | simp only [beq_self_eq_true, Bool.true_or, if_true]
  unfold Builtin.List.listItems
  refine wpAny_bind (wpAny_seqItems e2 rfl (wpAny_pure ?_))
  refine wpAny_bind (wpAny_bind (wpAny_seqItems e rfl (wpAny_pure ?_)))
  refine wpAny_bind (wpAny_of_eq ((sliceIndices_raw (some (a : Int)) (some (c : Int)) none items.size (by simp)).trans (congrArg (pure : Int × Int × Int → Sem (Int × Int × Int)) (bounds_run hac hc))) ?_)
  show wpAny _ _ (if ((1 : Int) == 1) = true then _ else _) _ _ s
  rw [if_pos (by decide)]
  refine wpAny_bind (wpAny_rule ?_)
  first
    | simp only [notLongL hsz, Bool.false_eq_true, if_false]
    | refine PySem.W.KFB.if_not (notLongL hsz) ?_
  first | refine wpAny_bind (wpAny_pure ?_) | skip
  show wpAny _ _ (updateSeq l (fun xs => xs.extract 0 ((a : Int)).toNat ++ new ++ xs.extract (max (a : Int) (c : Int)).toNat xs.size) >>= _) _ _ s
  rw [hmax, Int.toNat_natCast]
  refine wpAny_bind (wpAny_updateSeq (hz := Nat.le_trans (Nat.le_add_right _ _) hsz) (_hz' := hz') e rfl ?_)
  refine wpAny_bind (wpAny_letGo ?_)
  first
    | exact wpAny_bind (wpAny_pure (wpAny_pure ⟨.none, rfl, wpAny_pure h⟩))
    | exact wpAny_pure ⟨.none, rfl, wpAny_pure h⟩
end

section
variable {X : Cx}
/-- xs[a:c] = ys of another list, at the value level: sl is the slice object that was just made -/
theorem set_slice {pins : List (Addr × Obj)} {s : Shared} {σ : St} {H : Hp} {l b sl : Addr} {xs ys : List V} {a c : Int} {vl vu : Value} {Q : Unit → Shared → Prop} (I : Inv X pins σ H s)
    (hH : H l = some (.lst xs)) (hB : H b = some (.lst ys)) (hne : l ≠ b) (hs : s.heap.IsSliceOf sl vl vu .none) (ra : RelV (.int a) vl) (rc : RelV (.int c) vu) (h0 : 0 ≤ a) (hac : a ≤ c) (hc : c ≤ xs.length)
    (hz : xs.length + ys.length ≤ sizeLine) (h : ∀ s', Inv X pins σ (upd H l (.lst (xs.take a.toNat ++ ys ++ xs.drop c.toNat))) s' → Q () s') :
    wpAny (model X.prog X.w) X.A (setItem (.ref l) (.ref sl) (.ref b)) Q X.xe s := by
  obtain ⟨ta, rfl⟩ := ra
  obtain ⟨tc, rfl⟩ := rc
  obtain ⟨z, its, n, r, hl, e⟩ := I.lstM hH
  obtain ⟨z2, its2, n2, r2, hl2, e2⟩ := I.lstM hB
  obtain ⟨a', rfl⟩ := Int.eq_ofNat_of_zero_le h0
  obtain ⟨c', rfl⟩ := Int.eq_ofNat_of_zero_le (Int.le_trans h0 hac)
  simp only [Int.toNat_natCast] at h
  refine setItem_slice (a := a') (c := c') e e2 hne hs (.int _ _) (.int _ _) (by omega) (by rw [List.size_toArray]; omega) (by rw [List.size_toArray, List.size_toArray]; omega) (h _ ?_)
  refine I.lset (its' := its.take a' ++ its2 ++ its.drop c') (t' := s.toks) hH e ?_ (Vals.append (Vals.append (r.take _) r2) (r.drop _)) ?_
  · exact splice_eq its its2 a' c'
  · rw [List.length_append, List.length_append, List.length_take, List.length_drop]
    omega
end
end L2

namespace Att
open PySem PySem.W PySem.Calls PyProof.Rows

/-! ### the script -/
theorem ints_of_wellAll {P : Params} {h : Heap} : ∀ (ns : List Int) (vs : List Value), WellAll P h vs (ns.map WData.int) → IntsAre vs ns := by
  intro ns
  induction ns with
  | nil =>
    intro vs w
    rw [List.map_nil] at w
    cases w
    exact .nil
  | cons n ns ih =>
    intro vs w
    rw [List.map_cons] at w
    cases w with
    | cons a b =>
      cases a
      exact .cons _ _ (ih _ b)

theorem script_of {l : OpenLaw} {n : Nat} (hn : l.most = some n) {P : Params} {h : Heap} {args : List WData} {vals : List Value}
    (hpre : l.row.toRowW.claim.pre args = true) (hwl : WellAll P h vals args) :
    ∃ a vs ns, vals = [Value.ref a] ∧ args = [WData.list (ns.map WData.int)] ∧ h.get? a = some { cls := .type "list", data := .seq vs.toArray } ∧ IntsAre vs ns ∧ ns.length ≤ n := by
  have hsh : WShape.hasAll [] args [.list .int] = true := (pre_splitW hpre).1
  have hc : l.pre.holds [] { args := args } = true := (pre_splitW hpre).2
  obtain ⟨d, r, rfl, h1, h2⟩ := hasAllW_cons hsh
  obtain rfl := hasAllW_nil h2
  obtain ⟨xs, rfl, h3⟩ := hasW_list h1
  obtain ⟨ns, rfl⟩ := items_int h3
  have hlen : ns.length ≤ n := by
    unfold OpenLaw.pre at hc
    have h4 : (WTm.not (.lt (.lit (.int (n : Int))) (.len (.arg 0)))).holds [] { args := [.list (ns.map .int)] } = true := by
      have h4 := (holds_andW hc).1
      rw [hn] at h4
      exact h4
    have h5 := condW_of h4 (w_not (w_lt w_lit (w_len_list (w_arg rfl))))
    rw [List.length_map] at h5
    refine Nat.le_of_not_lt fun q => ?_
    have q' : (n : Int) < ((ns.length : Nat) : Int) := by omega
    first
      | (rw [decide_eq_true q'] at h5; exact absurd h5 (by decide))
      | (simp at h5; omega)
  cases hwl with
  | cons w1 w2 =>
    cases w2
    cases w1 with
    | list ho hall => exact ⟨_, _, ns, rfl, rfl, ho, ints_of_wellAll ns _ hall, hlen⟩

theorem post_true (l : OpenLaw) (args : List WData) : l.row.toRowW.claim.post args (.bool true) args = true :=
  postW_of (r := l.row.toRowW) (X := (true == true))
    (show WShape.has [] (.bool true) .bool = true by first | rfl | decide | simp [WShape.has, WShape.arms, WShape.armsAll])
    (show (WTm.eq .res (.lit (.bool true))).value [] { args := args, res := some (.bool true), after := args } = some (.bool (true == true)) from w_eq_bool (w_res rfl) w_lit) rfl

/-! ### the attachment: holds_open's last premise (the goal 'hc' behind k_head) from a wpAny of the law's body -/
theorem attach {l : OpenLaw} {n : Nat} {q : Program} {loose : List Str} {XP : (Str → Option Value) → Heap → Prop} {YP : World → Heap → Prop} {d : DefRec} {x : Str}
    (hn : l.most = some n) (hdf : d.params.defaults = [])
    (hbind : ∀ pm cd doc v : Value, bindArgs (docDef d.name d.params d.body d.scope pm cd doc) ⟨[v], []⟩ = pure [(x, v)])
    (hx : d.scope.names.lookup x = some .local ∨ d.scope.names.lookup x = some .cell)
    (hk : d.scope.kind = .function) (hco : d.scope.isCoroutine = false) (hgen : d.scope.isGenerator = false)
    (body : ∀ (w : World) (s₀ s₁ s : Shared) (mg mb : Str → Option Value) (fa : Addr) (o : Obj) (pm cd doc : Value) (a : Addr) (vs : List Value) (ns : List Int),
      Ground q loose [] XP w s₀ mg mb s₁.heap → YP w s₁.heap →
      s₁.heap.get? fa = some o → o.data = .func (docDef d.name d.params d.body d.scope pm cd doc) → s₁.heap.CodeRec cd d.name → mg d.name = some (.ref fa) →
      s₁.heap.get? a = some { cls := .type "list", data := .seq vs.toArray } → IntsAre vs ns → ns.length ≤ n →
      s.gens = #[] → s.os = s₁.os →
      Fr s₁.heap s₁.heap.objs.size s.heap (bindL (envOfC d.name d.scope s₁.heap.objs.size fa cd).kindOf [(x, .ref a)] fun _ => none) →
      Cl s₁.heap.objs.size (cellsFrom (s₁.heap.objs.size + 1) d.scope.names []) s.heap (bindC (envOfC d.name d.scope s₁.heap.objs.size fa cd).kindOf [(x, .ref a)] fun _ => none) →
      wpAny (model l.prog w) (callerA.deeper (envOfC d.name d.scope s₁.heap.objs.size fa cd)) (execs d.body (envOfC d.name d.scope s₁.heap.objs.size fa cd))
        (fun f s' => f = .ret (.bool true) ∧ OldK s₁.heap s'.heap ∧ s'.os = s₁.os ∧ AllBare s'.gens) (fun _ _ => False) s) :
    WalkO q loose XP YP l.row.toRowW d [] (fun f vs => PySem.call f vs) := by
  intro w s₀ s₁ mg mb G Y fa o pm cd doc dV kV ho hd hcd hD hmg hg args vals as hpre hlay hrd hwl hlo
  obtain rfl : dV = .none := Dflts.none hD hdf
  obtain rfl : kV = .none := Dflts.noKw hD
  obtain ⟨a, vs, ns, rfl, rfl, hobj, hints, hlen⟩ := script_of hn hpre hwl
  refine enter_call ?_
  refine call_cells_ret (o := o) (by rw [depth_caller]; decide) ho (fd_plain hd) G.T.nolimit hcd (hbind pm cd doc (.ref a)) (fun y hy => ?_) (fun h₁ tk F X => ?_) hco hgen hk
  · obtain rfl : y = (x, Value.ref a) := List.mem_singleton.mp hy
    rcases hx with e | e
    · exact .inl e
    · exact .inr ⟨e, cellsFrom_some _ _ _ (.inl e)⟩
  · refine wpAny_mono (body w s₀ s₁ { s₁ with heap := h₁, toks := tk } mg mb fa o pm cd doc a vs ns G Y ho (fd_plain hd) hcd hmg hobj hints hlen hg rfl F X) (fun f s' hq => ?_) (fun _ _ hq => hq)
    obtain ⟨rfl, h2, h3, h4⟩ := hq
    exact ⟨.inl ⟨.bool true, .bool true, [], rfl, fun _ => rfl, .bool true, post_true l _, fun _ => ⟨List.Pairwise.nil, fun _ hm => (nomatch hm)⟩⟩, h2, h3, h4⟩

/-- the same from a codeAny of the CALL (for a layer whose function contracts speak of calls) -/
theorem attach_call {l : OpenLaw} {n : Nat} {q : Program} {loose : List Str} {XP : (Str → Option Value) → Heap → Prop} {YP : World → Heap → Prop} {d : DefRec}
    (hn : l.most = some n) (hdf : d.params.defaults = [])
    (call : ∀ (w : World) (s₀ s₁ : Shared) (mg mb : Str → Option Value) (fa : Addr) (o : Obj) (pm cd doc : Value) (a : Addr) (vs : List Value) (ns : List Int),
      Ground q loose [] XP w s₀ mg mb s₁.heap → YP w s₁.heap →
      s₁.heap.get? fa = some o → o.data = .func (docDef d.name d.params d.body d.scope pm cd doc) → s₁.heap.CodeRec cd d.name → mg d.name = some (.ref fa) →
      s₁.heap.get? a = some { cls := .type "list", data := .seq vs.toArray } → IntsAre vs ns → ns.length ≤ n → s₁.gens = #[] →
      codeAny (model l.prog w) callerA (.call (.ref fa) ⟨[.ref a], []⟩) (fun r s' => r = .ok (.ret (.bool true)) ∧ OldK s₁.heap s'.heap ∧ s'.os = s₁.os ∧ AllBare s'.gens) s₁) :
    WalkO q loose XP YP l.row.toRowW d [] (fun f vs => PySem.call f vs) := by
  intro w s₀ s₁ mg mb G Y fa o pm cd doc dV kV ho hd hcd hD hmg hg args vals as hpre hlay hrd hwl hlo
  obtain rfl : dV = .none := Dflts.none hD hdf
  obtain rfl : kV = .none := Dflts.noKw hD
  obtain ⟨a, vs, ns, rfl, rfl, hobj, hints, hlen⟩ := script_of hn hpre hwl
  refine enter_call (codeAny_mono (call w s₀ s₁ mg mb fa o pm cd doc a vs ns G Y ho (fd_plain hd) hcd hmg hobj hints hlen hg) fun r s' hq => ?_)
  obtain ⟨rfl, h2, h3, h4⟩ := hq
  exact ⟨.inl ⟨.bool true, .bool true, [], rfl, fun _ => rfl, .bool true, post_true l _, fun _ => ⟨List.Pairwise.nil, fun _ hm => (nomatch hm)⟩⟩, h2, h3, h4⟩

/-- the same where the top left finished generators (o_head chose holds_openN): nothing may have changed at all and no generator may be left -/
theorem attachN {l : OpenLaw} {n : Nat} {q : Program} {loose : List Str} {XP : (Str → Option Value) → Heap → Prop} {YP : World → Heap → Prop} {d : DefRec} {x : Str}
    (hn : l.most = some n) (hdf : d.params.defaults = [])
    (hbind : ∀ pm cd doc v : Value, bindArgs (docDef d.name d.params d.body d.scope pm cd doc) ⟨[v], []⟩ = pure [(x, v)])
    (hx : d.scope.names.lookup x = some .local ∨ d.scope.names.lookup x = some .cell)
    (hk : d.scope.kind = .function) (hco : d.scope.isCoroutine = false) (hgen : d.scope.isGenerator = false)
    (body : ∀ (w : World) (s₀ s₁ s : Shared) (mg mb : Str → Option Value) (fa : Addr) (o : Obj) (pm cd doc : Value) (a : Addr) (vs : List Value) (ns : List Int),
      Ground q loose [] XP w s₀ mg mb s₁.heap → YP w s₁.heap →
      s₁.heap.get? fa = some o → o.data = .func (docDef d.name d.params d.body d.scope pm cd doc) → s₁.heap.CodeRec cd d.name → mg d.name = some (.ref fa) →
      s₁.heap.get? a = some { cls := .type "list", data := .seq vs.toArray } → IntsAre vs ns → ns.length ≤ n →
      s.gens = #[] → s.os = s₁.os →
      Fr s₁.heap s₁.heap.objs.size s.heap (bindL (envOfC d.name d.scope s₁.heap.objs.size fa cd).kindOf [(x, .ref a)] fun _ => none) →
      Cl s₁.heap.objs.size (cellsFrom (s₁.heap.objs.size + 1) d.scope.names []) s.heap (bindC (envOfC d.name d.scope s₁.heap.objs.size fa cd).kindOf [(x, .ref a)] fun _ => none) →
      wpAny (model l.prog w) (callerA.deeper (envOfC d.name d.scope s₁.heap.objs.size fa cd)) (execs d.body (envOfC d.name d.scope s₁.heap.objs.size fa cd))
        (fun f s' => f = .ret (.bool true) ∧ (∀ b o, s₁.heap.get? b = some o → s'.heap.get? b = some o) ∧ s'.os = s₁.os ∧ s'.gens = #[]) (fun _ _ => False) s) :
    WalkN q loose XP YP l.row.toRowW d [] (fun f vs => PySem.call f vs) := by
  intro w s₀ s₁ mg mb G Y fa o pm cd doc dV kV ho hd hcd hD hmg hg args vals as hpre hlay hrd hwl hlo
  obtain rfl : dV = .none := Dflts.none hD hdf
  obtain rfl : kV = .none := Dflts.noKw hD
  obtain ⟨a, vs, ns, rfl, rfl, hobj, hints, hlen⟩ := script_of hn hpre hwl
  refine enter_callW ?_
  refine call_cells_ret (o := o) (by rw [depth_caller]; decide) ho (fd_plain hd) G.T.nolimit hcd (hbind pm cd doc (.ref a)) (fun y hy => ?_) (fun h₁ tk F X => ?_) hco hgen hk
  · obtain rfl : y = (x, Value.ref a) := List.mem_singleton.mp hy
    rcases hx with e | e
    · exact .inl e
    · exact .inr ⟨e, cellsFrom_some _ _ _ (.inl e)⟩
  · refine wpAny_mono (body w s₀ s₁ { s₁ with heap := h₁, toks := tk } mg mb fa o pm cd doc a vs ns G Y ho (fd_plain hd) hcd hmg hobj hints hlen hg rfl F X) (fun f s' hq => ?_) (fun _ _ hq => hq)
    obtain ⟨rfl, h2, h3, h4⟩ := hq
    exact ⟨.inl ⟨.bool true, .bool true, [], rfl, fun _ => rfl, .bool true, post_true l _, fun _ => ⟨List.Pairwise.nil, fun _ hm => (nomatch hm)⟩⟩, h2, h3, h4⟩

/-! ### rules over ANY heap (no ledger) from facts about the written part K: the library's own take a ledger (News) for what they write -/
section
variable {prog : Program} {w : World} {A : Around} {E : Value → Shared → Prop} {s : Shared} {K : Frag}

/-- a def of the module, or a method (qual 'C.m'), entered: the frame is the next address; cells behind it -/
theorem call_fn {R : Result → Shared → Prop} {name qual : Str} {params : Arguments} {body : List Stmt} {scope : Scope} {dV kV doc pm cdv ct oc : Value} {an od : Option Addr} {osl : Array (Option Value)} {f : Addr} {args : Args} {binds : List (Str × Value)}
    (X : K.In s.heap) (hlim : s.heap.NoLimit) (ho : K.lookup f = some ⟨oc, od, .func (fnOf name qual params body scope dV kV doc pm an cdv ct), osl⟩) (hcd : codeIn K cdv qual = true) (hroom : A.depth < recursionLimit)
    (hbind : BindsTo s (fnOf name qual params body scope dV kV doc pm an cdv ct) args binds)
    (hkind : (binds.all fun y => scope.names.lookup y.1 == some .local || scope.names.lookup y.1 == some .cell) = true)
    (h : ∀ s₁, InCallC s s.heap.objs.size (bindL (envOfC qual scope s.heap.objs.size f cdv).kindOf binds fun _ => none) (cellsFrom (s.heap.objs.size + 1) scope.names [])
        (bindC (envOfC qual scope s.heap.objs.size f cdv).kindOf binds fun _ => none) s₁ →
      wpAny (model prog w) (A.deeper (envOfC qual scope s.heap.objs.size f cdv)) (execs body (envOfC qual scope s.heap.objs.size f cdv))
        (fun fl s' => R (.ok (.ret (match fl with | .ret v => v | _ => .none))) s')
        (fun e s' => wpAny (model prog w) (A.deeper (envOfC qual scope s.heap.objs.size f cdv)) (leaving (envOfC qual scope s.heap.objs.size f cdv) e) (fun _ s'' => R (.error e) s'') (fun e' s'' => R (.error e') s'') s') s₁)
    (hco : scope.isCoroutine = false) (hgen : scope.isGenerator = false) (hk : scope.kind = .function) : codeAny (model prog w) A (.call (.ref f) args) R s := by
  refine codeAny_call_function hroom (X _ _ ho) rfl hco hgen rfl (codeRec_of X hcd) (hbind _ _ _ _ ?_)
  refine wpAny_newFunctionEnv_cells hk (kindsX hkind _) fun env he s₁ x => ?_
  subst he
  exact ⟨hlim.keeps x.toInCall.keep, codeAny_func (h s₁ x)⟩

/-- C(..): dict at size, instance at size + 1, then __init__ -/
theorem make_obj {R : Result → Shared → Prop} {C fI : Addr} {rest : List Value} {kw : List (Str × Value)}
    (X : K.In s.heap) (hm : makesIn K C = true) (hi : findIn K (.ref C) "__init__" = some (some (.ref fI))) (hf : isFn K (.ref fI) = true)
    (h : codeAny (model prog w) (A.under (.builtin "type.__call__" ⟨.ref C :: rest, kw⟩)) (.call (.ref fI) ⟨.ref (s.heap.objs.size + 1) :: rest, kw⟩) (InitBack (s.heap.objs.size + 1) R)
      { s with heap := (s.heap.push emptyDict).push (instObj C s.heap.objs.size) }) : codeAny (model prog w) A (.call (.ref C) ⟨rest, kw⟩) R s := by
  obtain ⟨hh, g, d, t, os⟩ := s
  exact make_core (makes_of X hm) (looks_findIn X hi) (fun self => bind_fn X self (beq_iff_eq.mp hf)) (.inl rfl) h

/-- x.name where the instance's dict holds the name and the class does not -/
theorem get_field {x C : Addr} {ox : Obj} {es : List DictEntry} {n : Nat} {name : Str} {expr : Bool} {v : Value} {Q : Value → Shared → Prop}
    (X : K.In s.heap) (I : PySem.W.InstAt s.heap x ox C (some (dictOf es n))) (hg : plainGet K C name = true) (hh : hasDictIn K C = true) (ha : findIn K (.ref C) name = some none)
    (hl : getL name es = some (some v)) (hv : handedIn v = true) (h : Q v { s with toks := s.toks + 1 }) : wpAny (model prog w) A (getAttr (.ref x) name expr) Q E s :=
  get_value X I (plainGet_of hg).1 (findObj_own hh ha rfl hl) hv h

/-- x.m(..): the method found in the class -/
theorem get_method {x C f : Addr} {ox : Obj} {es : List DictEntry} {n : Nat} {name : Str} {pl : Sem Bool} {Q : Value × List Value → Shared → Prop}
    (X : K.In s.heap) (I : PySem.W.InstAt s.heap x ox C (some (dictOf es n))) (hg : plainGet K C name = true) (hf : findIn K (.ref C) name = some (some (.ref f))) (ht : isFn K (.ref f) = true)
    (hl : getL name es = some none) (h : Q (.ref f, [.ref x]) s) : wpAny (model prog w) A (getMethod (.ref x) name pl) Q E s :=
  method_fn X I (plainGet_of hg).1 (plainGet_of hg).2 hf (beq_iff_eq.mp ht) (by show (lookIn name (dictOf es n)).map _ = _; rw [lookIn_dict, hl]; rfl) h

/-! the whole heap as the ledger: makes every rule that writes through a ledger a rule over any heap -/
def noObjs (h : Heap) : Heap := { h with objs := #[] }
theorem noObjs_get (h : Heap) (b : Addr) : (noObjs h).get? b = none := by
  cases e : (noObjs h).get? b with
  | none => rfl
  | some o => exact absurd (Heap.lt_size e) (Nat.not_lt_zero _)
def ledger (h : Heap) (L d : Addr) : List (Addr × Obj) := (List.range h.objs.size).filterMap fun a => if a = L ∨ a = d then none else (h.get? a).map fun o => (a, o)
theorem mem_ledger {h : Heap} {L d a : Addr} {o : Obj} : (a, o) ∈ ledger h L d ↔ a ≠ L ∧ a ≠ d ∧ h.get? a = some o := by
  unfold ledger
  rw [List.mem_filterMap]
  constructor
  · rintro ⟨b, _, e⟩
    split at e
    · cases e
    · rename_i hb
      obtain ⟨o', ho, e'⟩ := Option.map_eq_some_iff.mp e
      cases e'
      exact ⟨fun q => hb (.inl q), fun q => hb (.inr q), ho⟩
  · rintro ⟨n1, n2, ho⟩
    refine ⟨a, List.mem_range.mpr (Heap.lt_size ho), ?_⟩
    rw [if_neg (show ¬ (a = L ∨ a = d) from fun q => q.elim n1 n2), ho] <;> rfl
theorem news_ledger {h : Heap} {L d : Addr} {od : Obj} (hne : d ≠ L) (ho : h.get? d = some od) : News (noObjs h) L h ([] ++ (d, od) :: ledger h L d) := by
  rintro ⟨a, o⟩ hp
  rcases List.mem_cons.mp hp with e | hp
  · cases e
    exact ⟨ho, hne, noObjs_get _ _⟩
  · obtain ⟨n1, n2, e⟩ := mem_ledger.mp hp
    exact ⟨e, n1, noObjs_get _ _⟩
theorem fr_all {h : Heap} {L : Addr} {m : Str → Option Value} (n : h.Ns L m) : Fr (noObjs h) L h m :=
  ⟨n, fun b o e => (by rw [noObjs_get] at e; cases e), Nat.zero_le _⟩
/-- Upd of the head entry (for append_K, setItem_K ..) -/
theorem upd_ledger {h : Heap} {L d : Addr} {o o' : Obj} : Upd d o o' ((d, o) :: ledger h L d) ((d, o') :: ledger h L d) :=
  .head fun ⟨_, _⟩ hp => (mem_ledger.mp hp).2.1

/-- x.name = v over any heap: L is any namespace of the heap (the frame's, say): its map stays, its object is not told; all else but the dict stays -/
theorem set_field {x C dx L : Addr} {ox : Obj} {m : Str → Option Value} {es es' : List DictEntry} {n n' : Nat} {name : Str} {v : Value} {Q : Unit → Shared → Prop}
    (X : K.In s.heap) (I : PySem.W.InstAt s.heap x ox C (some (dictOf es n))) (hd : ox.dict = some dx) (hL : s.heap.Ns L m) (hne : dx ≠ L)
    (hs : findIn K (.ref C) "__setattr__" = some (some (.builtin "object.__setattr__"))) (hp : plainOver K C = true) (ht : takerIn K C name = some none) (hh : hasDictIn K C = true) (hl : (getL name es).isSome = true)
    (e : (putL name (PyData.keyHash w.params name) (.str name (s.toks + 1)) v es, putN name es n) = (es', n')) (hz : es'.length ≤ 1000)
    (h : ∀ h' : Heap, h'.Ns L m → h'.get? dx = some (dictOf es' n') → (∀ b o, b ≠ dx → b ≠ L → s.heap.get? b = some o → h'.get? b = some o) → Q () { s with heap := h', toks := s.toks + 2 }) :
    wpAny (model prog w) A (setAttr (.ref x) name v) Q E s := by
  obtain ⟨e1, e2⟩ := Prod.mk.inj e
  have hdx : s.heap.get? dx = some (dictOf es n) := by
    have := I.dict
    rw [hd] at this
    exact this
  refine set_plain X I hs (osa_dict (s := { s with toks := s.toks + 1 }) (h₀ := noObjs s.heap) (L := L) (m := m) (od := dictOf es n) (od' := dictOf es' n') (es := es') (n := n') (pre := []) (post := ledger s.heap L dx)
    (fr_all hL) (news_ledger hne hdx) X I hd hp ht hh hl (fun _ q => nomatch q) (fun ⟨_, _⟩ q => (mem_ledger.mp q).2.1) (by rw [putName_dict, e1, e2]) rfl hz fun h' F' N' => ?_)
  exact h h' F'.ns (N'.get (List.Mem.head _)) fun b o n1 n2 ho => N'.get (List.Mem.tail _ (mem_ledger.mpr ⟨n2, n1, ho⟩))
end
end Att

namespace L2
open PySem PySem.Spec PyProof.Rows

theorem vals_ints : ∀ {vs : List Value} {ns : List Int}, IntsAre vs ns → Vals (ns.map V.int) vs
  | _, _, .nil => .nil
  | _, _, .cons n t h => .cons ⟨t, rfl⟩ (vals_ints h)

/-- nothing is tracked but the script, known to the object (or it is an object of the module) -/
def Only (H : Hp) : Prop := ∀ b, H b = none ∨ ∃ o xs, H b = some (.frz o (.lst xs))

/-- THE HEAD: the law's promise, at the heap behind the top. F, the promise of the law's def, may use that base is part of the heap (so K.In base, base.Ns mainGlobals mg stand in Mod) -/
theorem law_call {P : Program} {w : World} {K : PySem.W.Frag} {mg mb : Str → Option Value} {CX : CXT} {k : Nat} {fa a : Addr} {fd : FuncData} {x : Str} {sp : Sp} {s₁ : Shared} {vs : List Value} {ns : List Int}
    (KX : K.In s₁.heap) (hns : s₁.heap.Ns mainGlobals mg) (hb : s₁.heap.Ns builtinsNs mb) (hbb : ∀ x : Str, x ≠ "__name__" → mb x = bootBuiltins x) (hlim : s₁.heap.NoLimit) (hg : s₁.gens = #[])
    (ha : s₁.heap.get? a = some { cls := .type "list", data := .seq vs.toArray }) (hi : IntsAre vs ns) (hl : ns.length ≤ sizeLine) (hr : Room k callerA)
    (F : ∀ base : Heap, K.In base → base.Ns mainGlobals mg → FnOk P w K mg base CX k fa fd [x] sp) (hbind : ∀ (s : Shared) (u : Value), BindsTo s fd ⟨[u], []⟩ [(x, u)])
    (hsp : ∀ H : Hp, Only H → SqL K H a (ns.map V.int) → sp [.ref a] H (fun v _ => v = .bl true) fun _ _ _ => False)
    (hCX : ∀ H e s', CX [] H s₁ (fun _ _ _ => False) e s' → False) :
    codeAny (model P w) callerA (.call (.ref fa) ⟨[.ref a], []⟩) (fun r s' => r = .ok (.ret (.bool true)) ∧ OldK s₁.heap s'.heap ∧ s'.os = s₁.os ∧ AllBare s'.gens) s₁ := by
  have rv := vals_ints hi
  have lenV := hi.length
  -- from an abstract heap in which nothing but the script may be tracked
  have core : ∀ H : Hp, Only H → SqL K H a (ns.map V.int) → HOk P w H s₁.heap → (∀ b, H b ≠ none → b = a) → (H a ≠ none → K.lookup a = none) →
      codeAny (model P w) callerA (.call (.ref fa) ⟨[.ref a], []⟩) (fun r s' => r = .ok (.ret (.bool true)) ∧ OldK s₁.heap s'.heap ∧ s'.os = s₁.os ∧ AllBare s'.gens) s₁ := by
    intro H hO hS hok hA hK
    have base_of : ∀ {b : Addr} {o : Obj}, s₁.heap.get? b = some o → H b = none → (hidT s₁.heap H).get? b = some o := fun e n => hidT_get e n
    have noA : ∀ {b : Addr} {o : Obj} {es : Array DictEntry} {ep : Nat}, s₁.heap.get? b = some o → o.data = .dict es ep → H b = none := fun {b o es ep} e d => by
      cases q : H b with
      | none => rfl
      | some u =>
        have e' : b = a := hA b (by rw [q]; simp)
        subst e'
        rw [ha] at e; cases e
        have d' : Data.seq vs.toArray _ = Data.dict es ep := d
        cases d'
    have nsK : ∀ {b : Addr} {m : Str → Option Value}, s₁.heap.Ns b m → (hidT s₁.heap H).Ns b m := fun {b m} ⟨o, es, ep, e, d, r⟩ => ⟨o, es, ep, base_of e (noA e d), d, r⟩
    have hKb : K.In (hidT s₁.heap H) := fun b o e => base_of (KX b o e) (by
      cases q : H b with
      | none => rfl
      | some u =>
        have e' : b = a := hA b (by rw [q]; simp)
        subst e'
        rw [hK (by rw [q]; simp)] at e; cases e)
    have hM : Mod K mg (hidT s₁.heap H) := ⟨hKb, nsK hns, ⟨mb, nsK hb, hbb⟩, let ⟨mc, h1, h2⟩ := hlim; ⟨mc, nsK h1, h2⟩⟩
    have e0 : Env0 P w K mg (hidT s₁.heap H) callerA [] s₁ H := ⟨rfl, hM, fun b o e => of_hidT e, Nat.le_of_eq (hidT_size _ _), trivial, fun b hb => absurd (show b ∈ ([] : List Addr) from hb) (by simp), hok, .of_eq hg⟩
    refine codeAny_mono ((F _ hKb (nsK hns)).run callerA [] s₁ H ⟨[.ref a], []⟩ [.ref a] [.ref a] _ _ hr e0 (hbind s₁ (.ref a)) (.cons rfl .nil) (hsp H hO hS)) fun r s' h => ?_
    cases r with
    | error e => exact (hCX H e s' h).elim
    | ok fl =>
      cases fl with
      | next => exact False.elim h
      | brk => exact False.elim h
      | cont => exact False.elim h
      | ret u =>
        obtain ⟨v, H', os, bare, un, hok', r', q⟩ := h
        have q' : v = .bl true := q
        subst q'
        obtain rfl : u = Value.bool true := r'
        refine ⟨rfl, OldK.of_keep fun b o e => ?_, os, bare⟩
        cases q : H b with
        | none => exact un.keep b o e q (by intro z; exact absurd (show b ∈ ([] : List Addr) from z) (by simp)) (by simp)
        | some u =>
          rcases hO b with z | ⟨ob, xs, z⟩
          · rw [q] at z; cases z
          · have z2 := un.frzs b ob _ z
            obtain ⟨e1, _⟩ := hok b _ z
            obtain ⟨e2, _⟩ := hok' b _ z2
            rw [e] at e1; cases e1
            exact e2
  cases hk : K.lookup a with
  | some o =>
    -- the script is one of the module's own objects
    have e := KX a o hk
    rw [ha] at e
    cases e
    refine core (fun _ => none) (fun _ => .inl rfl) (.inr ⟨_, vs.toArray, _, hk, rfl, rfl, rfl, by rw [List.size_toArray, lenV]; exact hl, by simpa using rv⟩) (fun b u z => by have z' : (none : Option HO) = some u := z; cases z') (fun b z => absurd rfl z) fun z => absurd rfl z
  | none =>
    refine core (fun b => if b = a then some (.frz { cls := .type "list", data := .seq vs.toArray } (.lst (ns.map V.int))) else none) (fun b => ?_) (.inl (.inr ⟨{ cls := .type "list", data := .seq vs.toArray }, if_pos rfl⟩)) (fun b u z => ?_) (fun b z => ?_) fun _ => hk
    · by_cases hb : b = a
      · exact .inr ⟨_, _, if_pos hb⟩
      · exact .inl (if_neg hb)
    · by_cases hb : b = a
      · have z' := (if_pos hb).symm.trans z
        cases z'
        subst hb
        exact ⟨ha, by rw [List.length_map]; exact hl, vs, _, rv, ha⟩
      · have z' := (if_neg hb).symm.trans z
        cases z'
    · by_cases hb : b = a
      · exact hb
      · exact absurd (if_neg hb) z
end L2

namespace L2
open PySem PySem.Spec PyProof.Rows

abbrev KOf {K : PySem.W.Frag} {h : Heap} (_ : K.In h) : PySem.W.Frag := K

/-- the goal that k_head leaves (case hc), from the law's promise. F gives the function object fd (K's own) once, then the promise over every base -/
theorem walk_of {l : PySem.W.OpenLaw} {n k : Nat} {q : Program} {loose : List Str} {XP : (Str → Option Value) → Heap → Prop} {YP : World → Heap → Prop} {d : DefRec} {K : Params → PySem.W.Frag} {CX : World → CXT} {sp : World → Sp} {x : Str}
    (hn : l.most = some n) (hn2 : n ≤ sizeLine) (hdf : d.params.defaults = []) (hr : Room k callerA)
    (hY : ∀ (w : World) (h : Heap), YP w h → (K w.params).In h)
    (F : ∀ (w : World) (mg : Str → Option Value) (fa : Addr) (h : Heap), (K w.params).In h → h.Ns mainGlobals mg → mg d.name = some (.ref fa) →
      ∃ fd : FuncData, (∀ (s : Shared) (u : Value), BindsTo s fd ⟨[u], []⟩ [(x, u)]) ∧
        ∀ base : Heap, (K w.params).In base → base.Ns mainGlobals mg → FnOk l.prog w (K w.params) mg base (CX w) k fa fd [x] (sp w))
    (hsp : ∀ (w : World) (H : Hp) (a : Addr) (ns : List Int), ns.length ≤ n → Only H → SqL (K w.params) H a (ns.map V.int) → sp w [.ref a] H (fun v _ => v = .bl true) fun _ _ _ => False)
    (hCX : ∀ (w : World) (H : Hp) (s : Shared) (e : Value) (s' : Shared), CX w [] H s (fun _ _ _ => False) e s' → False) :
    PySem.W.WalkO q loose XP YP l.row.toRowW d [] (fun f vs => PySem.call f vs) := by
  refine Att.attach_call hn hdf fun w s₀ s₁ mg mb fa o pm cd doc a vs ns G Y ho hd hcd hmg hobj hints hlen hg => ?_
  have KX := hY w _ Y
  obtain ⟨fd, hb, hF⟩ := F w mg fa _ KX G.T.g hmg
  exact law_call KX G.T.g G.T.b G.T.builtins G.T.nolimit hg hobj hints (Nat.le_trans hlen hn2) hr hF hb (fun H hO hS => hsp w H a ns hlen hO hS) fun H e s' => hCX w H s₁ e s'
/-- the same where the promise hangs on the written part alone: (sp := My.sp_law), no hole under a binder -/
theorem walk_ofK {l : PySem.W.OpenLaw} {n k : Nat} {q : Program} {loose : List Str} {XP : (Str → Option Value) → Heap → Prop} {YP : World → Heap → Prop} {d : DefRec} {K : Params → PySem.W.Frag} {CX : CXT} {sp : PySem.W.Frag → Sp} {x : Str}
    (hn : l.most = some n) (hn2 : n ≤ sizeLine) (hdf : d.params.defaults = []) (hr : Room k callerA)
    (hY : ∀ (w : World) (h : Heap), YP w h → (K w.params).In h)
    (F : ∀ (w : World) (mg : Str → Option Value) (fa : Addr) (h : Heap), (K w.params).In h → h.Ns mainGlobals mg → mg d.name = some (.ref fa) →
      ∃ fd : FuncData, (∀ (s : Shared) (u : Value), BindsTo s fd ⟨[u], []⟩ [(x, u)]) ∧
        ∀ base : Heap, (K w.params).In base → base.Ns mainGlobals mg → FnOk l.prog w (K w.params) mg base CX k fa fd [x] (sp (K w.params)))
    (hsp : ∀ (K : PySem.W.Frag) (H : Hp) (a : Addr) (ns : List Int), ns.length ≤ n → Only H → SqL K H a (ns.map V.int) → sp K [.ref a] H (fun v _ => v = .bl true) fun _ _ _ => False)
    (hCX : ∀ (H : Hp) (s : Shared) (e : Value) (s' : Shared), CX [] H s (fun _ _ _ => False) e s' → False) :
    PySem.W.WalkO q loose XP YP l.row.toRowW d [] (fun f vs => PySem.call f vs) :=
  walk_of (K := K) (CX := fun _ => CX) (sp := fun w => sp (K w.params)) hn hn2 hdf hr hY F (fun w H a ns h1 h2 h3 => hsp (K w.params) H a ns h1 h2 h3) fun _ H s e s' => hCX H s e s'
end L2

/- THE LAST THEOREM (shape; LID, My.* are yours):
   My.Adr: a structure of the addresses that your layer names (classes, functions); My.Txt K t: a structure (Prop) of the equations over K;
   My.txt_mk : {K} {implicit addresses ..} (e1 : nsIn K mainGlobals "law" = some (some (.ref f))) (e2 : K.lookup f = some ⟨oc, od, .func (fnOf "law" "law" params body scope dV kV doc pm an cdv ct), sl⟩) (e3 : codeIn K cdv "law" = true) .. : ∃ t, My.Txt K t

theorem PySem.Challenge.cw_LID_holds : PySem.Challenge.rw_LID.Holds := by
  w_on; o_law; k_head; (case hw => w_witness2)
  k_fill
  refine L2.walk_of (l := PySem.Challenge.rw_LID) (n := 63) (k := 40) (x := "script") (CX := fun w => ..) (sp := fun _ => My.sp_law) rfl (by decide) rfl ⟨rfl, by decide, by decide⟩ (fun w h Y => PySem.W.kIn_of Y) ?F ?S ?C
  case F =>
    intro w mg fa h KX G hmg
    have T : ∃ t, My.Txt (L2.KOf KX) t := by
      dsimp only [L2.KOf]                          -- K must stand as «<heap const> w.params» for k_is
      refine' My.txt_mk ?e1 ?e2 ?e3 ..
      (case e1 => PySem.W.k_is)                    -- in the order: a name -> its address -> its object -> its parts
      (case e2 => PySem.W.k_is)
      ..
    obtain ⟨t, T⟩ := T
    have e0 := hmg.symm.trans (PySem.W.mg_of KX G T.law)
    cases e0                                       -- fa is the law's own address
    exact ⟨_, fun s u => .of_eq rfl, fun base kb nb => My.law_fn T kb nb⟩     -- if «.of_eq rfl» comes too early: refine' ⟨_, ?b, fun base kb nb => My.law_fn T kb nb⟩; exact fun s u => .of_eq rfl
  case S => exact fun w H a ns hl hO hS => ..
  case C => exact ..
(the tactic k_is has no namespace: write k_is) -/

/-! SHORT WORDS over the layer: a def of the text, its body, what a loop and a test want. -/
namespace L2
open PySem PySem.Spec PyProof.Rows

/-! ### the text by places -/
/-- the j-th statement of a class's body -/
def inClass (s : Stmt) (j : Nat) : Stmt := match s with
  | .ClassDef _ _ _ body _ _ _ _ _ _ _ => body.getD j (.Pass ⟨0, 0, 0, 0⟩)
  | _ => .Pass ⟨0, 0, 0, 0⟩
def defArgs (s : Stmt) : Arguments := match s with
  | .FunctionDef _ a _ _ _ _ _ _ _ _ => a
  | _ => { posonlyargs := [], args := [], vararg := none, kwonlyargs := [], kw_defaults := [], kwarg := none, defaults := [] }
def defBody (s : Stmt) : List Stmt := match s with
  | .FunctionDef _ _ b _ _ _ _ _ _ _ => b
  | _ => []
def defScope (s : Stmt) : Scope := match s with
  | .FunctionDef _ _ _ _ _ _ sc _ _ _ => sc
  | _ => { kind := .function, names := [], isGenerator := false, isCoroutine := false }

/-! ### no exception leaves a def -/
abbrev CX0 : CXT := fun _ _ _ _ _ _ => False
abbrev E0 : XK := fun _ _ _ => False
theorem pass0 {X : Cx} : Passes CX0 X E0 := fun _ _ _ _ _ _ _ h => h.elim

/-! ### a def (or method) of the text as it stands behind the top -/
structure Fun (K : PySem.W.Frag) (x qual : Str) (st : Stmt) (f : Addr) (fd : FuncData) : Prop where
  ex : ∃ (oc : Value) (od : Option Addr) (kV doc pm : Value) (an : Option Addr) (cdv ct : Value) (osl : Array (Option Value)),
    fd = PySem.W.fnOf x qual (defArgs st) (defBody st) (defScope st) .none kV doc pm an cdv ct ∧ K.lookup f = some ⟨oc, od, .func fd, osl⟩ ∧ PySem.W.codeIn K cdv qual = true
  kp : PySem.W.keepIn K (.ref f) = true
section
variable {P : Program} {w : World} {K : PySem.W.Frag} {mg : Str → Option Value} {base : Heap}
/-- THE RULE for a def: its body as a term of rules, and the reading of that term -/
theorem Fun.ok {x qual : Str} {st : Stmt} {f : Addr} {fd : FuncData} {N ps : List Str} {k : Nat} {sp : Sp} (F : Fun K x qual st f fd) (S : FnScope N ps (defScope st)) (len : ∀ vs H Q E, sp vs H Q E → vs.length = ps.length)
    (hbody : ∀ (cdv : Value) (A : Around) (outer : List Env) (s : Shared) (H : Hp) (vs : List V) (Q : VK) (E : XK), Room k (A.deeper (envOfC qual (defScope st) s.heap.objs.size f cdv)) → sp vs H Q E →
      ∃ t, PSs (cxOf CX0 P w K mg base N qual (defScope st) f cdv A outer s H E).nox (defBody st) t ∧ t { nx := fun _ H' => Q .non H', rt := Q } (start N vs) H) : FnOk P w K mg base CX0 (k + 1) f fd ps sp := by
  obtain ⟨oc, od, kV, doc, pm, an, cdv, ct, osl, rfl, lk, hcd⟩ := F.ex
  refine fn_of lk hcd S len fun A outer s H vs Q E hr hsp => ?_
  obtain ⟨t, h, q⟩ := hbody cdv A outer s H vs Q E hr hsp
  exact ⟨t, h.nox, q⟩
/-- how its arguments bind (no defaults): h is «fun _ _ _ _ _ _ us hl => match us, hl with | [_, _], _ => rfl», one _ a parameter -/
theorem Fun.binds {x qual : Str} {st : Stmt} {f : Addr} {fd : FuncData} {ps : List Str} (F : Fun K x qual st f fd)
    (h : ∀ (kV doc pm : Value) (an : Option Addr) (cdv ct : Value) (us : List Value), us.length = ps.length → bindArgs (PySem.W.fnOf x qual (defArgs st) (defBody st) (defScope st) .none kV doc pm an cdv ct) ⟨us, []⟩ = pure (ps.zip us)) : Binds K fd ps [] := by
  obtain ⟨oc, od, kV, doc, pm, an, cdv, ct, osl, rfl, lk, hcd⟩ := F.ex
  exact .all (h kV doc pm an cdv ct)
theorem fun_mk {x qual : Str} {st : Stmt} {f : Addr} {oc : Value} {od an : Option Addr} {osl : Array (Option Value)} {kV doc pm cdv ct : Value} (l : K.lookup f = some ⟨oc, od, .func (PySem.W.fnOf x qual (defArgs st) (defBody st) (defScope st) .none kV doc pm an cdv ct), osl⟩)
    (c : PySem.W.codeIn K cdv qual = true) (k : PySem.W.keepIn K (.ref f) = true) : Fun K x qual st f (PySem.W.fnOf x qual (defArgs st) (defBody st) (defScope st) .none kV doc pm an cdv ct) := ⟨⟨oc, od, kV, doc, pm, an, cdv, ct, osl, rfl, l, c⟩, k⟩
end
theorem hu_of {A : Around} {k : Nat} (hr : Room k A) : A.units + 1 < cLine := Nat.lt_of_le_of_lt (Nat.add_le_add_left (by decide : 1 ≤ 64) _) hr.units
theorem small1000 {n : Nat} (h : n ≤ 1000) : n < sizeLine := Nat.lt_of_le_of_lt h (by decide)

/-! ### expressions in short: the name that stands in the i-th slot -/
section
variable {X : Cx}
theorem pv (i : Nat) {x : Str} {pos : Pos} (hN : X.N[i]? = some x := by rfl) (hv : Vis X.env.scope x := by first | exact Or.inl rfl | exact Or.inr (Or.inl rfl) | exact Or.inr (Or.inr rfl)) (hd : (x == ("__debug__" : Str)) = false := by decide)
    (hcd : (x == ("__classdict__" : Str)) = false := by decide) : PE X (.Name x pos) (tVar i) := pe_var hN hv hd hcd
end

/-! ### tests -/
theorem iteF {A B : Prop} (h : B) : if false = true then A else B := by
  rw [if_neg Bool.false_ne_true]
  exact h
theorem iteT {A B : Prop} (h : A) : if true = true then A else B := by
  rw [if_pos rfl]
  exact h
theorem ite2 {c A B : Prop} [Decidable c] (h1 : c → A) (h2 : ¬ c → B) : if c then A else B := by
  by_cases h : c
  · rw [if_pos h]
    exact h1 h
  · rw [if_neg h]
    exact h2 h
theorem iteNS {c A B : Prop} [Decidable c] (hc : c) (h : B) : if (!decide c) = true then A else B := by
  rw [decide_eq_true hc]
  exact iteF h

/-! ### heaps -/
/-- all that was tracked is as it was -/
def Same (H H' : Hp) : Prop := ∀ b o, H b = some o → H' b = some o
theorem Same.refl (H : Hp) : Same H H := fun _ _ h => h
theorem Same.trans {H H1 H2 : Hp} (a : Same H H1) (b : Same H1 H2) : Same H H2 := fun c o h => b c o (a c o h)
theorem Same.free {H H' : Hp} (e : Same H H') {l : Addr} (h : H' l = Option.none) : H l = Option.none := by
  cases q : H l with
  | none => rfl
  | some o =>
    rw [e l o q] at h
    cases h
theorem Same.seq {K : PySem.W.Frag} {H H' : Hp} {a : Addr} {xs : List V} (e : Same H H') (h : SqL K H a xs) : SqL K H' a xs := by
  rcases h with (h | ⟨o, h⟩) | h
  · exact .inl (.inl (e _ _ h))
  · exact .inl (.inr ⟨o, e _ _ h⟩)
  · exact .inr h

end L2

/-! EVENLOTS: the model's sort beyond 63 items, 1: galloping. -/
namespace EvS
open PySem PyProof.Rows
abbrev SM := StateT SortSt Sem
def gal : Bool → Keyed → Array Keyed → Nat → Nat → Nat → SM (Option Nat) := sortPriv% PySem.Builtin.gallop
def mLo : Array Keyed → Array Keyed → SM (Array Keyed) := sortPriv% PySem.Builtin.mergeLo
def mHi : Array Keyed → Array Keyed → SM (Array Keyed) := sortPriv% PySem.Builtin.mergeHi
abbrev setG (st : SortSt) (g : Nat) : SortSt := SortSt.mk' (kindOf st) (arrOf st) (pendingOf st) g (failedOf st)
def byd (left : Bool) (key : Keyed) (xs : Array Keyed) (b i : Nat) : SM (Option Bool) := do
  let x ← elem' xs (b + i)
  if left then lt' x key else return (← lt' key x).map (!·)
def galFin (left : Bool) (key : Keyed) (xs : Array Keyed) (b n lo0 hi0 : Nat) : SM (Option Nat) := do
  let mut lo := lo0
  let mut hi := hi0
  for _ in [0:n] do
    if lo ≥ hi then break
    let m := lo + (hi - lo) / 2
    let some mo ← byd left key xs b m | return none
    if mo then lo := m + 1 else hi := m
  return some hi
theorem gal_eq (left : Bool) (key : Keyed) (xs : Array Keyed) (b n h : Nat) : gal left key xs b n h = (do
  let mut la := 0
  let mut of := 1
  let mut lo := 0
  let mut hi := 0
  let some right ← byd left key xs b h | return none
  if right then
    let mx := n - h
    for _ in [0:n] do
      if of ≥ mx then break
      let some mo ← byd left key xs b (h + of) | return none
      if !mo then break
      la := of
      of := 2 * of + 1
    lo := h + la + 1
    hi := h + min of mx
  else
    let mx := h + 1
    for _ in [0:n] do
      if of ≥ mx then break
      let some fo ← byd left key xs b (h - of) | return none
      if fo then break
      la := of
      of := 2 * of + 1
    lo := h + 1 - min of mx
    hi := h - la
  for _ in [0:n] do
    if lo ≥ hi then break
    let m := lo + (hi - lo) / 2
    let some mo ← byd left key xs b m | return none
    if mo then lo := m + 1 else hi := m
  return some hi) := rfl

/-- how the model compares two keys: it answers lt and changes nothing -/
structure Cmp (prog : Program) (w : World) (A : Around) (E : Value → Shared → Prop) (s : Shared) (kd : SortKind) (good : Keyed → Prop) (lt : Keyed → Keyed → Bool) : Prop where
  run : ∀ {st : SortSt} {x y : Keyed} {Q : Option Bool → SortSt → Prop}, kindOf st = kd → good x → good y → Q (some (lt x y)) st → wpS (model prog w) A E s (lt' x y) Q st
def bq (lt : Keyed → Keyed → Bool) (left : Bool) (key x : Keyed) : Bool := if left then lt x key else !lt key x

section
variable {prog : Program} {w : World} {A : Around} {E : Value → Shared → Prop} {s : Shared} {kd : SortKind} {good : Keyed → Prop} {lt : Keyed → Keyed → Bool} {st : SortSt}
theorem wp_elem {xs : Array Keyed} {i : Nat} {x : Keyed} {Q : Keyed → SortSt → Prop} (hx : xs[i]? = some x) (h : Q x st) : wpS (model prog w) A E s (elem' xs i) Q st := by
  rw [elem'_eq, hx]
  exact wpS_pure h
theorem wp_byd (C : Cmp prog w A E s kd good lt) {left : Bool} {key x : Keyed} {xs : Array Keyed} {b i : Nat} {Q : Option Bool → SortSt → Prop} (hk : kindOf st = kd) (hg : good key) (hx : xs[b + i]? = some x) (hgx : good x)
    (h : Q (some (bq lt left key x)) st) : wpS (model prog w) A E s (byd left key xs b i) Q st := by
  unfold byd
  refine wpS_bind (wp_elem hx ?_)
  cases left with
  | true =>
    simp only [if_true]
    exact C.run hk hgx hg h
  | false =>
    simp only [Bool.false_eq_true, if_false]
    exact wpS_bind (C.run hk hg hgx (wpS_pure h))

variable {left : Bool} {key : Keyed} {xs : Array Keyed} {b n : Nat} {B : Nat → Bool} {Q : Option Nat → SortSt → Prop}
theorem wp_fin (C : Cmp prog w A E s kd good lt) (hk : kindOf st = kd) (hg : good key) (hall : ∀ i, i < n → ∃ x, xs[b + i]? = some x ∧ good x ∧ bq lt left key x = B i)
    (hB : ∀ i j, i ≤ j → j < n → B j = true → B i = true) {lo hi : Nat} (h1 : lo ≤ hi) (h2 : hi ≤ n) (hlo : ∀ i, i < lo → B i = true) (hhi : ∀ i, hi ≤ i → i < n → B i = false)
    (hQ : ∀ k, k ≤ n → (∀ i, i < k → B i = true) → (∀ i, k ≤ i → i < n → B i = false) → Q (some k) st) : wpS (model prog w) A E s (galFin left key xs b n lo hi) Q st := by
  unfold galFin
  refine wpS_bind (wpS_mono (wpS_forRange (I := fun x c st' => st' = st ∧ ∃ l r, c = (none, l, r) ∧ l ≤ r ∧ r ≤ n ∧ r - l ≤ n - x ∧ (∀ i, i < l → B i = true) ∧ (∀ i, r ≤ i → i < n → B i = false))
    (Q := fun c st' => st' = st ∧ ∃ r, c.1 = none ∧ c.2.2 = r ∧ r ≤ n ∧ (∀ i, i < r → B i = true) ∧ (∀ i, r ≤ i → i < n → B i = false)) ?step ?fin ⟨rfl, lo, hi, rfl, h1, h2, by omega, hlo, hhi⟩) ?post)
  case fin =>
    rintro c st' ⟨rfl, l, r, rfl, a1, a2, a3, a4, a5⟩
    have : l = r := by omega
    subst this
    exact ⟨rfl, l, rfl, rfl, a2, a4, a5⟩
  case step =>
    rintro x c st' _ hx ⟨rfl, l, r, rfl, a1, a2, a3, a4, a5⟩
    dsimp only
    by_cases hge : l ≥ r
    · rw [if_pos hge]
      have : l = r := by omega
      subst this
      exact wpS_pure ⟨rfl, l, rfl, rfl, a2, a4, a5⟩
    · rw [if_neg hge]
      obtain ⟨y, e1, e2, e3⟩ := hall (l + (r - l) / 2) (by omega)
      refine wpS_bind (wp_byd C hk hg e1 e2 ?_)
      rw [e3]
      cases hb : B (l + (r - l) / 2) with
      | true =>
        simp only [if_true]
        refine wpS_pure ⟨rfl, _, r, rfl, by omega, a2, by omega, fun i hi => ?_, a5⟩
        exact hB i (l + (r - l) / 2) (by omega) (by omega) hb
      | false =>
        simp only [Bool.false_eq_true, if_false]
        refine wpS_pure ⟨rfl, l, _, rfl, by omega, by omega, by omega, a4, fun i hi1 hi2 => ?_⟩
        cases hbi : B i with
        | false => rfl
        | true => rw [hB _ i hi1 hi2 hbi] at hb; cases hb
  case post =>
    rintro ⟨c1, c2, c3⟩ st' ⟨rfl, r, e1, e2, a2, a4, a5⟩
    dsimp only at e1 e2
    subst e1 e2
    exact wpS_pure (hQ _ a2 a4 a5)
/-- the place among n sorted items where the keys turn -/
theorem wp_gal (C : Cmp prog w A E s kd good lt) (hk : kindOf st = kd) (hg : good key) (hall : ∀ i, i < n → ∃ x, xs[b + i]? = some x ∧ good x ∧ bq lt left key x = B i)
    (hB : ∀ i j, i ≤ j → j < n → B j = true → B i = true) {h : Nat} (hh : h < n)
    (hQ : ∀ k, k ≤ n → (∀ i, i < k → B i = true) → (∀ i, k ≤ i → i < n → B i = false) → Q (some k) st) : wpS (model prog w) A E s (gal left key xs b n h) Q st := by
  rw [gal_eq]
  dsimp only
  have hF : ∀ i j, i ≤ j → j < n → B i = false → B j = false := fun i j h1 h2 h3 => by
    cases hbj : B j with
    | false => rfl
    | true => rw [hB i j h1 h2 hbj] at h3; cases h3
  obtain ⟨y, e1, e2, e3⟩ := hall h hh
  refine wpS_bind (wp_byd C hk hg e1 e2 ?_)
  rw [e3]
  cases hbh : B h with
  | true =>
    simp only [if_true]
    refine wpS_bind (wpS_mono (wpS_forRange (I := fun x c st' => st' = st ∧ ∃ la of, c = (none, la, of) ∧ la < of ∧ x + 1 ≤ of ∧ h + la < n ∧ B (h + la) = true)
      (Q := fun c st' => st' = st ∧ ∃ la of, c = (none, la, of) ∧ la < of ∧ h + la < n ∧ B (h + la) = true ∧ (n - h ≤ of ∨ (h + of < n ∧ B (h + of) = false))) ?step ?fin ⟨rfl, 0, 1, rfl, by omega, by omega, by omega, hbh⟩) ?post)
    case fin =>
      rintro c st' ⟨rfl, la, of, rfl, a1, a2, a3, a4⟩
      exact ⟨rfl, la, of, rfl, a1, a3, a4, .inl (by omega)⟩
    case step =>
      rintro x c st' _ hx ⟨rfl, la, of, rfl, a1, a2, a3, a4⟩
      dsimp only
      by_cases hge : of ≥ n - h
      · rw [if_pos hge]
        exact wpS_pure ⟨rfl, la, of, rfl, a1, a3, a4, .inl hge⟩
      · rw [if_neg hge]
        obtain ⟨z, f1, f2, f3⟩ := hall (h + of) (by omega)
        refine wpS_bind (wp_byd C hk hg f1 f2 ?_)
        rw [f3]
        cases hb : B (h + of) with
        | true =>
          simp only [Bool.not_true, Bool.false_eq_true, if_false]
          exact wpS_pure ⟨rfl, of, 2 * of + 1, rfl, by omega, by omega, by omega, hb⟩
        | false =>
          simp only [Bool.not_false, if_true]
          exact wpS_pure ⟨rfl, la, of, rfl, a1, a3, a4, .inr ⟨by omega, hb⟩⟩
    case post =>
      rintro c st' ⟨rfl, la, of, rfl, a1, a3, a4, a5⟩
      dsimp only
      refine wp_fin (lo := h + la + 1) (hi := h + min of (n - h)) C hk hg hall hB (by omega) (by omega) (fun i hi => hB i (h + la) (by omega) a3 a4) (fun i h1 h2 => ?_) hQ
      rcases a5 with z | ⟨z1, z2⟩
      · omega
      · exact hF (h + of) i (by omega) h2 z2
  | false =>
    simp only [Bool.false_eq_true, if_false]
    refine wpS_bind (wpS_mono (wpS_forRange (I := fun x c st' => st' = st ∧ ∃ la of, c = (none, la, of) ∧ la < of ∧ x + 1 ≤ of ∧ la ≤ h ∧ B (h - la) = false)
      (Q := fun c st' => st' = st ∧ ∃ la of, c = (none, la, of) ∧ la < of ∧ la ≤ h ∧ B (h - la) = false ∧ (h + 1 ≤ of ∨ (of ≤ h ∧ B (h - of) = true))) ?step ?fin ⟨rfl, 0, 1, rfl, by omega, by omega, by omega, hbh⟩) ?post)
    case fin =>
      rintro c st' ⟨rfl, la, of, rfl, a1, a2, a3, a4⟩
      exact ⟨rfl, la, of, rfl, a1, a3, a4, .inl (by omega)⟩
    case step =>
      rintro x c st' _ hx ⟨rfl, la, of, rfl, a1, a2, a3, a4⟩
      dsimp only
      by_cases hge : of ≥ h + 1
      · rw [if_pos hge]
        exact wpS_pure ⟨rfl, la, of, rfl, a1, a3, a4, .inl hge⟩
      · rw [if_neg hge]
        obtain ⟨z, f1, f2, f3⟩ := hall (h - of) (by omega)
        refine wpS_bind (wp_byd C hk hg f1 f2 ?_)
        rw [f3]
        cases hb : B (h - of) with
        | true =>
          simp only [if_true]
          exact wpS_pure ⟨rfl, la, of, rfl, a1, a3, a4, .inr ⟨by omega, hb⟩⟩
        | false =>
          simp only [Bool.false_eq_true, if_false]
          exact wpS_pure ⟨rfl, of, 2 * of + 1, rfl, by omega, by omega, by omega, hb⟩
    case post =>
      rintro c st' ⟨rfl, la, of, rfl, a1, a3, a4, a5⟩
      dsimp only
      refine wp_fin (lo := h + 1 - min of (h + 1)) (hi := h - la) C hk hg hall hB (by omega) (by omega) (fun i hi => ?_) (fun i h1 h2 => hF (h - la) i h1 h2 a4) hQ
      rcases a5 with z | ⟨z1, z2⟩
      · omega
      · exact hB i (h - of) (by omega) (by omega) z2
end
end EvS

/-! EVENLOTS: the model's sort beyond 63 items, 2: two sorted arrays merged from the left. -/
namespace EvS
open PySem PyProof.Rows
def setGm : Nat → SM Unit := sortPriv% PySem.Builtin.setMinGallop
theorem setGm_eq (g : Nat) : setGm g = modify fun s => setG s g := rfl
set_option maxHeartbeats 4000000 in
theorem mLo_eq (a b : Array Keyed) : mLo a b = (do
  rule "list.sort.merge-lo"
  let tot := a.size + b.size
  let dn (o : Array Keyed) (p q : Nat) := o ++ a.extract p a.size ++ b.extract q b.size
  let lA (o : Array Keyed) (p q : Nat) := o ++ b.extract q b.size ++ a.extract p a.size
  let mut o : Array Keyed := #[← elem' b 0]
  let mut p := 0
  let mut q := 1
  if q == b.size then return dn o p q
  if p + 1 == a.size then return lA o p q
  let mut mg := gallopOf (← get)
  for _ in [0:tot] do
    let mut ac := 0
    let mut bc := 0
    for _ in [0:tot] do
      let some bw ← lt' (← elem' b q) (← elem' a p) | return dn o p q
      if bw then
        o := o.push (← elem' b q); q := q + 1; bc := bc + 1; ac := 0
        if q == b.size then return dn o p q
        if bc ≥ mg then break
      else
        o := o.push (← elem' a p); p := p + 1; ac := ac + 1; bc := 0
        if p + 1 == a.size then return lA o p q
        if ac ≥ mg then break
    rule "list.sort.gallop"
    mg := mg + 1
    for _ in [0:tot] do
      if mg > 1 then mg := mg - 1
      setGm mg
      let some k ← gal false (← elem' b q) a p (a.size - p) 0 | return dn o p q
      ac := k
      if k > 0 then
        o := o ++ a.extract p (p + k); p := p + k
        if p + 1 == a.size then return lA o p q
        if p == a.size then return dn o p q
      o := o.push (← elem' b q); q := q + 1
      if q == b.size then return dn o p q
      let some k ← gal true (← elem' a p) b q (b.size - q) 0 | return dn o p q
      bc := k
      if k > 0 then
        o := o ++ b.extract q (q + k); q := q + k
        if q == b.size then return dn o p q
      o := o.push (← elem' a p); p := p + 1
      if p + 1 == a.size then return lA o p q
      if ac < 7 && bc < 7 then break
    mg := mg + 1
    setGm mg
  unsupported "internal:list.sort.merge-bound") := rfl

/-! ### the order of keys -/
structure Ord (good : Keyed → Prop) (lt : Keyed → Keyed → Bool) : Prop where
  tr : ∀ {x y z}, good x → good y → good z → lt y x = false → lt z y = false → lt z x = false
  tot : ∀ {x y}, good x → good y → lt x y = true → lt y x = false
abbrev LE (lt : Keyed → Keyed → Bool) (x y : Keyed) : Prop := lt y x = false
structure SL (good : Keyed → Prop) (lt : Keyed → Keyed → Bool) (l : List Keyed) : Prop where
  all : ∀ x ∈ l, good x
  srt : l.Pairwise (LE lt)
/-- what stands merged (o), what is left of a from p and of b from q -/
structure MI (good : Keyed → Prop) (lt : Keyed → Keyed → Bool) (a b o : List Keyed) (p q : Nat) : Prop where
  perm : (o ++ (a.drop p ++ b.drop q)).Perm (a ++ b)
  srt : o.Pairwise (LE lt)
  low : ∀ x ∈ o, ∀ y ∈ a.drop p ++ b.drop q, LE lt x y
  pa : p ≤ a.length
  qb : q ≤ b.length
section
variable {good : Keyed → Prop} {lt : Keyed → Keyed → Bool} {a b o : List Keyed} {p q k : Nat} {x : Keyed}
theorem MI.size (m : MI good lt a b o p q) : o.length = p + q := by
  have e := m.perm.length_eq
  have := m.pa
  have := m.qb
  rw [List.length_append, List.length_append, List.length_append, List.length_drop, List.length_drop] at e
  omega
theorem drop_at {l : List Keyed} {i : Nat} (h : l[i]? = some x) : l.drop i = x :: l.drop (i + 1) := by
  obtain ⟨hi, e⟩ := List.getElem?_eq_some_iff.mp h
  rw [List.drop_eq_getElem_cons hi, e]
theorem SL.from (s : SL good lt a) {i : Nat} (h : a[i]? = some x) : ∀ y ∈ a.drop i, y = x ∨ LE lt x y := fun y hy => by
  rw [drop_at h] at hy
  rcases List.mem_cons.mp hy with z | z
  · exact .inl z
  · have hp : (a.drop i).Pairwise (LE lt) := s.srt.sublist (List.drop_sublist _ _)
    rw [drop_at h] at hp
    exact .inr ((List.pairwise_cons.mp hp).1 y z)
theorem SL.up (s : SL good lt a) {i j : Nat} {y : Keyed} (h : a[i]? = some x) (h' : a[j]? = some y) (hij : i < j) : LE lt x y := by
  obtain ⟨hi, e⟩ := List.getElem?_eq_some_iff.mp h
  obtain ⟨hj, e'⟩ := List.getElem?_eq_some_iff.mp h'
  rw [← e, ← e']
  exact List.pairwise_iff_getElem.mp s.srt i j hi hj hij
theorem SL.good_at (s : SL good lt a) {i : Nat} (h : a[i]? = some x) : good x := s.all x (List.mem_of_getElem? h)
/-- a least one of what is left is taken -/
theorem MI.pushA (m : MI good lt a b o p q) (sa : SL good lt a) (h : a[p]? = some x) (hb : ∀ y ∈ b.drop q, LE lt x y) : MI good lt a b (o ++ [x]) (p + 1) q := by
  have hd := drop_at h
  obtain ⟨hp, _⟩ := List.getElem?_eq_some_iff.mp h
  refine ⟨?_, ?_, ?_, hp, m.qb⟩
  · have e := m.perm
    rw [hd] at e
    simpa [List.append_assoc] using e
  · refine List.pairwise_append.mpr ⟨m.srt, List.pairwise_singleton _ _, fun y hy z hz => ?_⟩
    rw [List.mem_singleton] at hz
    subst hz
    exact m.low y hy z (by rw [hd]; simp)
  · intro y hy z hz
    rcases List.mem_append.mp hy with hy | hy
    · exact m.low y hy z (by rw [hd]; rcases List.mem_append.mp hz with w | w <;> simp [w])
    · rw [List.mem_singleton] at hy
      subst hy
      rcases List.mem_append.mp hz with w | w
      · have hp2 : (a.drop p).Pairwise (LE lt) := sa.srt.sublist (List.drop_sublist _ _)
        rw [hd] at hp2
        exact (List.pairwise_cons.mp hp2).1 z w
      · exact hb z w
theorem MI.pushB (m : MI good lt a b o p q) (sb : SL good lt b) (h : b[q]? = some x) (ha : ∀ y ∈ a.drop p, LE lt x y) : MI good lt a b (o ++ [x]) p (q + 1) := by
  have hd := drop_at h
  obtain ⟨hq, _⟩ := List.getElem?_eq_some_iff.mp h
  refine ⟨?_, ?_, ?_, m.pa, hq⟩
  · have e := m.perm
    rw [hd] at e
    refine List.Perm.trans ?_ e
    rw [List.append_assoc]
    refine List.Perm.append_left _ ?_
    show (x :: (a.drop p ++ b.drop (q + 1))).Perm (a.drop p ++ x :: b.drop (q + 1))
    exact List.perm_middle.symm
  · refine List.pairwise_append.mpr ⟨m.srt, List.pairwise_singleton _ _, fun y hy z hz => ?_⟩
    rw [List.mem_singleton] at hz
    subst hz
    exact m.low y hy z (by rw [hd]; simp)
  · intro y hy z hz
    rcases List.mem_append.mp hy with hy | hy
    · exact m.low y hy z (by rw [hd]; rcases List.mem_append.mp hz with w | w <;> simp [w])
    · rw [List.mem_singleton] at hy
      subst hy
      rcases List.mem_append.mp hz with w | w
      · exact ha z w
      · have hp2 : (b.drop q).Pairwise (LE lt) := sb.srt.sublist (List.drop_sublist _ _)
        rw [hd] at hp2
        exact (List.pairwise_cons.mp hp2).1 z w
theorem take_more {l : List Keyed} {i k : Nat} {x : Keyed} (h : l[i + k]? = some x) : (l.drop i).take (k + 1) = (l.drop i).take k ++ [x] := by
  rw [List.take_add_one, List.getElem?_drop, h]
  rfl
theorem MI.blockA (m : MI good lt a b o p q) (sa : SL good lt a) : ∀ k, p + k ≤ a.length → (∀ i y, i < k → a[p + i]? = some y → ∀ z ∈ b.drop q, LE lt y z) → MI good lt a b (o ++ (a.drop p).take k) (p + k) q
  | 0, _, _ => by simpa using m
  | k + 1, hk, h => by
    have ih := MI.blockA m sa k (by omega) fun i y hi => h i y (by omega)
    have e : a[p + k]? = some a[p + k] := List.getElem?_eq_getElem (by omega)
    have r := ih.pushA sa e (h k _ (by omega) e)
    rw [List.append_assoc, ← take_more e] at r
    exact r
theorem MI.blockB (m : MI good lt a b o p q) (sb : SL good lt b) : ∀ k, q + k ≤ b.length → (∀ i y, i < k → b[q + i]? = some y → ∀ z ∈ a.drop p, LE lt y z) → MI good lt a b (o ++ (b.drop q).take k) p (q + k)
  | 0, _, _ => by simpa using m
  | k + 1, hk, h => by
    have ih := MI.blockB m sb k (by omega) fun i y hi => h i y (by omega)
    have e : b[q + k]? = some b[q + k] := List.getElem?_eq_getElem (by omega)
    have r := ih.pushB sb e (h k _ (by omega) e)
    rw [List.append_assoc, ← take_more e] at r
    exact r
def Good (lt : Keyed → Keyed → Bool) (a b : List Keyed) (r : List Keyed) : Prop := r.Perm (a ++ b) ∧ r.Pairwise (LE lt)
theorem MI.done (m : MI good lt a b o p q) (sa : SL good lt a) (sb : SL good lt b) (h : a.drop p = [] ∨ b.drop q = []) : Good lt a b (o ++ a.drop p ++ b.drop q) := by
  refine ⟨by rw [List.append_assoc]; exact m.perm, ?_⟩
  rw [List.append_assoc]
  refine List.pairwise_append.mpr ⟨m.srt, ?_, m.low⟩
  rcases h with h | h
  · rw [h, List.nil_append]; exact sb.srt.sublist (List.drop_sublist _ _)
  · rw [h, List.append_nil]; exact sa.srt.sublist (List.drop_sublist _ _)
/-- one of a is left, no lesser than all of b -/
theorem MI.last (m : MI good lt a b o p q) (sb : SL good lt b) (h : a[p]? = some x) (hp : p + 1 = a.length) (hx : ∀ y ∈ b, LE lt y x) : Good lt a b (o ++ b.drop q ++ a.drop p) := by
  have hd : a.drop p = [x] := by rw [drop_at h, List.drop_eq_nil_of_le (by omega)]
  constructor
  · refine List.Perm.trans ?_ m.perm
    rw [List.append_assoc]
    exact List.Perm.append_left _ List.perm_append_comm
  · rw [List.append_assoc]
    refine List.pairwise_append.mpr ⟨m.srt, ?_, fun y hy z hz => m.low y hy z (by rcases List.mem_append.mp hz with w | w <;> simp [w])⟩
    refine List.pairwise_append.mpr ⟨sb.srt.sublist (List.drop_sublist _ _), by rw [hd]; exact List.pairwise_singleton _ _, fun y hy z hz => ?_⟩
    rw [hd, List.mem_singleton] at hz
    subst hz
    exact hx y (List.mem_of_mem_drop hy)
end
/-- only the pace of galloping has changed -/
structure SG (st st' : SortSt) : Prop where
  kind : kindOf st' = kindOf st
  arr : arrOf st' = arrOf st
  pend : pendingOf st' = pendingOf st
  fail : failedOf st' = failedOf st
theorem SG.refl (st : SortSt) : SG st st := ⟨rfl, rfl, rfl, rfl⟩
theorem SG.setG {st st' : SortSt} (h : SG st st') (g : Nat) : SG st (setG st' g) := ⟨h.kind, h.arr, h.pend, h.fail⟩
theorem ext_drop (xs : Array Keyed) (i : Nat) : (xs.extract i xs.size).toList = xs.toList.drop i := by
  rw [Array.toList_extract]
  exact List.take_of_length_le (by rw [List.length_drop, Array.length_toList]; exact Nat.le_refl _)
theorem ext_take (xs : Array Keyed) (i k : Nat) : (xs.extract i (i + k)).toList = (xs.toList.drop i).take k := by simp [List.extract]
end EvS

/-! EVENLOTS: the model's sort beyond 63 items, 3: the merge from the left is right. -/
namespace EvS
open PySem PyProof.Rows
section
variable {prog : Program} {w : World} {A : Around} {E : Value → Shared → Prop} {s : Shared} {kd : SortKind} {good : Keyed → Prop} {lt : Keyed → Keyed → Bool} {st : SortSt} {a b : Array Keyed} {Q : Array Keyed → SortSt → Prop}
theorem at_of {xs : Array Keyed} {i : Nat} (h : i < xs.size) : xs[i]? = some xs[i] ∧ xs.toList[i]? = some xs[i] := ⟨Array.getElem?_eq_getElem h, by simp [h]⟩
/-- galloping among sorted items, either way: what is ahead of the place is not above the key, what is behind not below -/
theorem wp_gal2 (C : Cmp prog w A E s kd good lt) (O : Ord good lt) (hk : kindOf st = kd) {left : Bool} {key : Keyed} {xs : Array Keyed} {bs n h : Nat} {Q : Option Nat → SortSt → Prop} (hg : good key) (hn : bs + n ≤ xs.size)
    (hgs : ∀ i, i < n → ∀ x, xs.toList[bs + i]? = some x → good x) (hsrt : ∀ i j x y, i < j → j < n → xs.toList[bs + i]? = some x → xs.toList[bs + j]? = some y → LE lt x y) (hh : h < n)
    (hQ : ∀ k, k ≤ n → (∀ i x, i < k → xs.toList[bs + i]? = some x → LE lt x key) → (∀ i x, k ≤ i → i < n → xs.toList[bs + i]? = some x → LE lt key x) → Q (some k) st) : wpS (model prog w) A E s (gal left key xs bs n h) Q st := by
  refine wp_gal (B := fun i => bq lt left key (xs[bs + i]?.getD key)) C hk hg (fun i hi => ?_) (fun i j hij hj hb => ?_) hh fun k k1 k2 k3 => hQ k k1 (fun i x hi hx => ?_) fun i x hi1 hi2 hx => ?_
  · obtain ⟨e, l⟩ := at_of (xs := xs) (i := bs + i) (by omega)
    exact ⟨_, e, hgs i hi _ l, by rw [e]; rfl⟩
  · obtain ⟨e1, l1⟩ := at_of (xs := xs) (i := bs + i) (by omega)
    obtain ⟨e2, l2⟩ := at_of (xs := xs) (i := bs + j) (by omega)
    rw [e1, Option.getD_some]
    rw [e2, Option.getD_some] at hb
    by_cases hh : i = j
    · subst hh; exact hb
    have hs := hsrt i j _ _ (by omega) hj l1 l2
    have g1 := hgs i (by omega) _ l1
    have g2 := hgs j hj _ l2
    cases left with
    | true =>
      have hb' : lt xs[bs + j] key = true := hb
      show lt xs[bs + i] key = true
      cases q : lt xs[bs + i] key with
      | true => rfl
      | false =>
        have := O.tr hg g1 g2 q hs
        rw [hb'] at this
        cases this
    | false =>
      have hb' : (!lt key xs[bs + j]) = true := hb
      show (!lt key xs[bs + i]) = true
      rw [Bool.not_eq_true'] at hb' ⊢
      exact O.tr g1 g2 hg hs hb'
  · have hlt : bs + i < xs.size := by
      have := (List.getElem?_eq_some_iff.mp hx).1
      simpa using this
    obtain ⟨e, l⟩ := at_of hlt
    rw [l] at hx
    have z := k2 i hi
    rw [e, Option.getD_some] at z
    have hx' : xs[bs + i] = x := Option.some.inj hx
    rw [hx'] at z l
    have gx := hgs i (by omega) _ l
    cases left with
    | true => exact O.tot gx hg z
    | false =>
      have z' : (!lt key x) = true := z
      rwa [Bool.not_eq_true'] at z'
  · have hlt : bs + i < xs.size := by omega
    obtain ⟨e, l⟩ := at_of hlt
    rw [l] at hx
    have z := k3 i hi1 hi2
    rw [e, Option.getD_some] at z
    have hx' : xs[bs + i] = x := Option.some.inj hx
    rw [hx'] at z l
    have gx := hgs i hi2 _ l
    cases left with
    | true => exact z
    | false =>
      have z' : (!lt key x) = false := z
      rw [Bool.not_eq_false'] at z'
      exact O.tot hg gx z'
theorem mem_drop_at {l : List Keyed} {i : Nat} {z : Keyed} (h : z ∈ l.drop i) : ∃ j, l[i + j]? = some z := by
  obtain ⟨j, hj⟩ := List.mem_iff_getElem?.mp h
  exact ⟨j, by rw [← List.getElem?_drop]; exact hj⟩
theorem lt_len {l : List Keyed} {i : Nat} {z : Keyed} (h : l[i]? = some z) : i < l.length := (List.getElem?_eq_some_iff.mp h).1
set_option maxHeartbeats 8000000 in
theorem wp_mLo (C : Cmp prog w A E s kd good lt) (O : Ord good lt) (hk : kindOf st = kd) (sa : SL good lt a.toList) (sb : SL good lt b.toList) (ha : 0 < a.size) (hb : 0 < b.size)
    (h0 : ∀ x y, a.toList[0]? = some x → b.toList[0]? = some y → LE lt y x) (h1 : ∀ x, a.toList[a.size - 1]? = some x → ∀ y ∈ b.toList, LE lt y x)
    (hQ : ∀ r st', SG st st' → Good lt a.toList b.toList r.toList → Q r st') : wpS (model prog w) A E s (mLo a b) Q st := by
  rw [mLo_eq]
  dsimp only
  refine wpS_bind (wpS_lift (wpAny_rule ⟨rfl, ?_⟩))
  obtain ⟨eb0, lb0⟩ := at_of hb
  obtain ⟨ea0, la0⟩ := at_of ha
  refine wpS_bind (wp_elem eb0 ?_)
  have m0 : MI good lt a.toList b.toList [] 0 0 := ⟨by simp, List.Pairwise.nil, fun x hx => (nomatch hx), Nat.zero_le _, Nat.zero_le _⟩
  have lowB : ∀ {p q : Nat} {x y : Keyed}, a.toList[p]? = some x → b.toList[q]? = some y → LE lt y x → ∀ z ∈ a.toList.drop p, LE lt y z := fun {p q x y} hx hy hl z hz => by
    rcases sa.from hx z hz with e | e
    · rw [e]; exact hl
    · exact O.tr (sb.good_at hy) (sa.good_at hx) (sa.all z (List.mem_of_mem_drop hz)) hl e
  have lowA : ∀ {p q : Nat} {x y : Keyed}, a.toList[p]? = some x → b.toList[q]? = some y → LE lt x y → ∀ z ∈ b.toList.drop q, LE lt x z := fun {p q x y} hx hy hl z hz => by
    rcases sb.from hy z hz with e | e
    · rw [e]; exact hl
    · exact O.tr (sa.good_at hx) (sb.good_at hy) (sb.all z (List.mem_of_mem_drop hz)) hl e
  have m1 : MI good lt a.toList b.toList [b[0]] 0 1 := m0.pushB sb lb0 (lowB la0 lb0 (h0 _ _ la0 lb0))
  have fin : ∀ {st' : SortSt} {o : Array Keyed} {p q : Nat}, SG st st' → MI good lt a.toList b.toList o.toList p q → (p = a.size ∨ q = b.size) → Q (o ++ a.extract p a.size ++ b.extract q b.size) st' := fun {st' o p q} g m h => by
    refine hQ _ st' g ?_
    rw [Array.toList_append, Array.toList_append, ext_drop, ext_drop]
    refine m.done sa sb ?_
    rcases h with h | h
    · exact .inl (List.drop_eq_nil_of_le (by rw [h]; simp))
    · exact .inr (List.drop_eq_nil_of_le (by rw [h]; simp))
  have las : ∀ {st' : SortSt} {o : Array Keyed} {p q : Nat}, SG st st' → MI good lt a.toList b.toList o.toList p q → p + 1 = a.size → Q (o ++ b.extract q b.size ++ a.extract p a.size) st' := fun {st' o p q} g m h => by
    refine hQ _ st' g ?_
    rw [Array.toList_append, Array.toList_append, ext_drop, ext_drop]
    obtain ⟨_, l⟩ := at_of (xs := a) (i := p) (by omega)
    refine m.last sb l (by simpa using h) (h1 _ ?_)
    rw [show a.size - 1 = p by omega]
    exact l
  by_cases c1 : (1 == b.size) = true
  · rw [if_pos c1]
    exact wpS_pure (fin (SG.refl _) m1 (.inr (eq_of_beq c1)))
  rw [if_neg c1]
  have nb : 1 < b.size := by
    have : ¬ 1 = b.size := fun z => c1 (by rw [← z]; rfl)
    omega
  by_cases c2 : (0 + 1 == a.size) = true
  · rw [if_pos c2]
    exact wpS_pure (las (SG.refl _) m1 (eq_of_beq c2))
  rw [if_neg c2]
  have na : 1 < a.size := by
    have : ¬ 0 + 1 = a.size := fun z => c2 (by rw [← z]; rfl)
    omega
  refine wpS_bind (wpS_get ?_)
  refine wpS_bind (wpS_mono (wpS_forRange
    (I := fun x c st' => SG st st' ∧ ∃ o p q mg, c = (none, o, p, q, mg) ∧ MI good lt a.toList b.toList o.toList p q ∧ p + 1 < a.size ∧ q < b.size ∧ x + 1 ≤ o.size)
    (Q := fun c st' => SG st st' ∧ ∃ r o, c = (some r, o) ∧ Q r st') ?ostep ?ofin ⟨SG.refl _, #[b[0]], 0, 1, _, rfl, m1, by omega, nb, by simp⟩) ?opost)
  case ofin =>
    rintro c st' ⟨g, o, p, q, mg, rfl, m, hp, hq, ho⟩
    have := m.size
    rw [Array.length_toList] at this
    omega
  case opost =>
    rintro c st' ⟨g, r, o, rfl, hq⟩
    exact wpS_pure hq
  case ostep =>
    rintro x c st1 _ hx ⟨g1, o, p, q, mg, rfl, m, hp, hq, ho⟩
    dsimp only
    refine wpS_bind (wpS_mono (wpS_forRange
      (I := fun y c st2 => SG st st2 ∧ ∃ o' p' q' ac bc, c = (none, o', p', q', ac, bc) ∧ MI good lt a.toList b.toList o'.toList p' q' ∧ p' + 1 < a.size ∧ q' < b.size ∧ o.size + y ≤ o'.size)
      (Q := fun c st2 => SG st st2 ∧ ((∃ r z, c = (some r, z) ∧ Q r st2) ∨ ∃ o' p' q' ac bc, c = (none, o', p', q', ac, bc) ∧ MI good lt a.toList b.toList o'.toList p' q' ∧ p' + 1 < a.size ∧ q' < b.size ∧ o.size + 1 ≤ o'.size))
      ?istep ?ifin ⟨g1, o, p, q, 0, 0, rfl, m, hp, hq, by omega⟩) ?ipost)
    case ifin =>
      rintro c st2 ⟨g2, o', p', q', ac, bc, rfl, m', hp', hq', ho'⟩
      exact ⟨g2, .inr ⟨o', p', q', ac, bc, rfl, m', hp', hq', by omega⟩⟩
    case istep =>
      rintro y c st2 _ hy ⟨g2, o', p', q', ac, bc, rfl, m', hp', hq', ho'⟩
      dsimp only
      obtain ⟨eb, lb⟩ := at_of hq'
      obtain ⟨ea, la⟩ := at_of (xs := a) (i := p') (by omega)
      refine wpS_bind (wp_elem eb (wpS_bind (wp_elem ea (wpS_bind (C.run (g2.kind.trans hk) (sb.good_at lb) (sa.good_at la) ?_)))))
      cases hlt : lt b[q'] a[p'] with
      | true =>
        simp only [if_true]
        have mm := m'.pushB sb lb (lowB la lb (O.tot (sb.good_at lb) (sa.good_at la) hlt))
        refine wpS_bind (wp_elem eb ?_)
        by_cases d1 : (q' + 1 == b.size) = true
        · rw [if_pos d1]
          exact wpS_pure ⟨g2, .inl ⟨_, _, rfl, fin g2 (by simpa using mm) (.inr (eq_of_beq d1))⟩⟩
        · rw [if_neg d1]
          have d1' : ¬ q' + 1 = b.size := fun z => d1 (by rw [z]; simp)
          split
          · exact wpS_pure ⟨g2, .inr ⟨_, _, _, _, _, rfl, by simpa using mm, hp', by omega, by simp; omega⟩⟩
          · exact wpS_pure ⟨g2, _, _, _, _, _, rfl, by simpa using mm, hp', by omega, by simp; omega⟩
      | false =>
        simp only [Bool.false_eq_true, if_false]
        have mm := m'.pushA sa la (lowA la lb hlt)
        refine wpS_bind (wp_elem ea ?_)
        by_cases d1 : (p' + 1 + 1 == a.size) = true
        · rw [if_pos d1]
          exact wpS_pure ⟨g2, .inl ⟨_, _, rfl, las g2 (by simpa using mm) (eq_of_beq d1)⟩⟩
        · rw [if_neg d1]
          have d1' : ¬ p' + 1 + 1 = a.size := fun z => d1 (by rw [z]; simp)
          split
          · exact wpS_pure ⟨g2, .inr ⟨_, _, _, _, _, rfl, by simpa using mm, by omega, hq', by simp; omega⟩⟩
          · exact wpS_pure ⟨g2, _, _, _, _, _, rfl, by simpa using mm, by omega, hq', by simp; omega⟩
    case ipost =>
      rintro c st2 ⟨g2, ⟨r, z, rfl, hr⟩ | ⟨o', p', q', ac, bc, rfl, m', hp', hq', ho'⟩⟩
      · exact wpS_pure ⟨g2, _, _, rfl, hr⟩
      · refine wpS_bind (wpS_lift (wpAny_rule ⟨rfl, ?_⟩))
        refine wpS_bind (wpS_mono (wpS_forRange
          (I := fun y c st3 => SG st st3 ∧ ∃ o2 p2 q2 mg2 ac2 bc2, c = (none, o2, p2, q2, mg2, ac2, bc2) ∧ MI good lt a.toList b.toList o2.toList p2 q2 ∧ p2 + 1 < a.size ∧ q2 < b.size ∧ o'.size ≤ o2.size)
          (Q := fun c st3 => SG st st3 ∧ ((∃ r z, c = (some r, z) ∧ Q r st3) ∨ ∃ o2 p2 q2 mg2 ac2 bc2, c = (none, o2, p2, q2, mg2, ac2, bc2) ∧ MI good lt a.toList b.toList o2.toList p2 q2 ∧ p2 + 1 < a.size ∧ q2 < b.size ∧ o'.size ≤ o2.size))
          ?gstep ?gfin ⟨g2, o', p', q', _, ac, bc, rfl, m', hp', hq', Nat.le_refl _⟩) ?gpost)
        case gfin =>
          rintro c st3 ⟨g3, o2, p2, q2, mg2, ac2, bc2, rfl, m2, hp2, hq2, ho2⟩
          exact ⟨g3, .inr ⟨o2, p2, q2, mg2, ac2, bc2, rfl, m2, hp2, hq2, ho2⟩⟩
        case gpost =>
          rintro c st3 ⟨g3, ⟨r, z, rfl, hr⟩ | ⟨o2, p2, q2, mg2, ac2, bc2, rfl, m2, hp2, hq2, ho2⟩⟩
          · exact wpS_pure ⟨g3, _, _, rfl, hr⟩
          · dsimp only
            rw [setGm_eq]
            exact wpS_bind (wpS_modify (wpS_pure ⟨g3.setG _, _, _, _, _, rfl, m2, hp2, hq2, by omega⟩))
        case gstep =>
          rintro y c st3 _ hy ⟨g3, o2, p2, q2, mg2, ac2, bc2, rfl, m2, hp2, hq2, ho2⟩
          dsimp only
          obtain ⟨eb, lb⟩ := at_of hq2
          by_cases hmg : mg2 > 1
          case' pos => rw [if_pos hmg]
          case' neg => rw [if_neg hmg]
          all_goals
            rw [setGm_eq]
            refine wpS_bind (wpS_modify ?_)
            refine wpS_bind (wp_elem eb (wpS_bind (wp_gal2 (xs := a) (bs := p2) (n := a.size - p2) (h := 0) C O ((g3.setG _).kind.trans hk) (sb.good_at lb) (by omega) (fun i _ x hx => sa.good_at hx) (fun i j x y hij _ hx hy => sa.up hx hy (by omega)) (by omega) fun k k1 k2 k3 => ?_)))
            -- k of a are taken
            have mk : MI good lt a.toList b.toList (o2 ++ a.extract p2 (p2 + k)).toList (p2 + k) q2 := by
              rw [Array.toList_append, ext_take]
              exact m2.blockA sa k (by rw [Array.length_toList]; omega) fun i x hi hx => lowA hx lb (k2 i x hi hx)
            have bl : ∀ z ∈ a.toList.drop (p2 + k), LE lt b[q2] z := fun z hz => by
              obtain ⟨j, hj⟩ := mem_drop_at hz
              rw [Nat.add_assoc] at hj
              have := lt_len hj
              rw [Array.length_toList] at this
              exact k3 (k + j) z (by omega) (by omega) hj
            dsimp only
            by_cases c3 : k > 0
            case' pos =>
              rw [if_pos c3]
              by_cases c4 : (p2 + k + 1 == a.size) = true
              · rw [if_pos c4]
                exact wpS_pure ⟨g3.setG _, .inl ⟨_, _, rfl, las (g3.setG _) mk (eq_of_beq c4)⟩⟩
              rw [if_neg c4]
              by_cases c5 : (p2 + k == a.size) = true
              · rw [if_pos c5]
                exact wpS_pure ⟨g3.setG _, .inl ⟨_, _, rfl, fin (g3.setG _) mk (.inl (eq_of_beq c5))⟩⟩
              rw [if_neg c5]
              have hpX : p2 + k + 1 < a.size := by
                have q1 : ¬ p2 + k + 1 = a.size := fun z => c4 (by rw [z]; simp)
                have q2 : ¬ p2 + k = a.size := fun z => c5 (by rw [z]; simp)
                omega
              have hoX : o'.size ≤ (o2 ++ a.extract p2 (p2 + k)).size := by rw [Array.size_append]; omega
              revert mk bl hpX hoX
              generalize o2 ++ a.extract p2 (p2 + k) = oX
              generalize p2 + k = pX
            case' neg =>
              rw [if_neg c3]
              have k0 : k = 0 := by omega
              subst k0
              replace mk : MI good lt a.toList b.toList o2.toList p2 q2 := m2
              replace bl : ∀ z ∈ a.toList.drop p2, LE lt b[q2] z := bl
              have hpX : p2 + 1 < a.size := hp2
              have hoX : o'.size ≤ o2.size := ho2
              revert mk bl hpX hoX
              generalize o2 = oX
              generalize p2 = pX
            all_goals
              intro mX blX hpX hoX
              refine wpS_bind (wp_elem eb ?_)
              have mb := mX.pushB sb lb blX
              by_cases d1 : (q2 + 1 == b.size) = true
              · rw [if_pos d1]
                exact wpS_pure ⟨g3.setG _, .inl ⟨_, _, rfl, fin (g3.setG _) (by rw [Array.toList_push]; exact mb) (.inr (eq_of_beq d1))⟩⟩
              rw [if_neg d1]
              have hq3 : q2 + 1 < b.size := by
                have q1 : ¬ q2 + 1 = b.size := fun z => d1 (by rw [z]; simp)
                omega
              obtain ⟨eaX, laX⟩ := at_of (xs := a) (i := pX) (by omega)
              refine wpS_bind (wp_elem eaX (wpS_bind (wp_gal2 (xs := b) (bs := q2 + 1) (n := b.size - (q2 + 1)) (h := 0) C O ((g3.setG _).kind.trans hk) (sa.good_at laX) (by omega) (fun i _ x hx => sb.good_at hx) (fun i j x y hij _ hx hy => sb.up hx hy (by omega)) (by omega) fun k' j1 j2 j3 => ?_)))
              have mk2 : MI good lt a.toList b.toList (oX.push b[q2] ++ b.extract (q2 + 1) (q2 + 1 + k')).toList pX (q2 + 1 + k') := by
                rw [Array.toList_append, ext_take, Array.toList_push]
                exact mb.blockB sb k' (by rw [Array.length_toList]; omega) fun i y hi hy => lowB laX hy (j2 i y hi hy)
              have al : ∀ z ∈ b.toList.drop (q2 + 1 + k'), LE lt a[pX] z := fun z hz => by
                obtain ⟨j, hj⟩ := mem_drop_at hz
                rw [Nat.add_assoc (q2 + 1)] at hj
                have := lt_len hj
                rw [Array.length_toList] at this
                exact j3 (k' + j) z (by omega) (by omega) hj
              dsimp only
              by_cases e3 : k' > 0
              case' pos =>
                rw [if_pos e3]
                by_cases e4 : (q2 + 1 + k' == b.size) = true
                · rw [if_pos e4]
                  exact wpS_pure ⟨g3.setG _, .inl ⟨_, _, rfl, fin (g3.setG _) mk2 (.inr (eq_of_beq e4))⟩⟩
                rw [if_neg e4]
                have hqY : q2 + 1 + k' < b.size := by
                  have q1 : ¬ q2 + 1 + k' = b.size := fun z => e4 (by rw [z]; simp)
                  omega
                have hoY : o'.size ≤ (oX.push b[q2] ++ b.extract (q2 + 1) (q2 + 1 + k')).size := by rw [Array.size_append, Array.size_push]; omega
                revert mk2 al hqY hoY
                generalize oX.push b[q2] ++ b.extract (q2 + 1) (q2 + 1 + k') = oY
                generalize q2 + 1 + k' = qY
              case' neg =>
                rw [if_neg e3]
                have k0 : k' = 0 := by omega
                subst k0
                replace mk2 : MI good lt a.toList b.toList (oX.push b[q2]).toList pX (q2 + 1) := by rw [Array.toList_push]; exact mb
                replace al : ∀ z ∈ b.toList.drop (q2 + 1), LE lt a[pX] z := al
                have hqY : q2 + 1 < b.size := hq3
                have hoY : o'.size ≤ (oX.push b[q2]).size := by rw [Array.size_push]; omega
                revert mk2 al hqY hoY
                generalize oX.push b[q2] = oY
                generalize q2 + 1 = qY
              all_goals
                intro mY alY hqY hoY
                refine wpS_bind (wp_elem eaX ?_)
                have mc := mY.pushA sa laX alY
                by_cases f1 : (pX + 1 + 1 == a.size) = true
                · rw [if_pos f1]
                  exact wpS_pure ⟨g3.setG _, .inl ⟨_, _, rfl, las (g3.setG _) (by rw [Array.toList_push]; exact mc) (eq_of_beq f1)⟩⟩
                rw [if_neg f1]
                have hpY : pX + 1 + 1 < a.size := by
                  have q1 : ¬ pX + 1 + 1 = a.size := fun z => f1 (by rw [z]; simp)
                  omega
                split
                · exact wpS_pure ⟨g3.setG _, .inr ⟨_, _, _, _, _, _, rfl, by rw [Array.toList_push]; exact mc, hpY, hqY, by rw [Array.size_push]; omega⟩⟩
                · exact wpS_pure ⟨g3.setG _, _, _, _, _, _, _, rfl, by rw [Array.toList_push]; exact mc, hpY, hqY, by rw [Array.size_push]; omega⟩
end
end EvS

/-! EVENLOTS: the model's sort beyond 63 items, 4: the merge from the right. -/
namespace EvS
open PySem PyProof.Rows
set_option maxHeartbeats 4000000 in
theorem mHi_eq (a b : Array Keyed) : mHi a b = (do
  rule "list.sort.merge-hi"
  let tot := a.size + b.size
  let dn (o : Array Keyed) (p q : Nat) := a.extract 0 p ++ b.extract 0 q ++ o.reverse
  let fB (o : Array Keyed) (p q : Nat) := b.extract 0 q ++ a.extract 0 p ++ o.reverse
  let mut p := a.size - 1
  let mut q := b.size
  let mut o : Array Keyed := #[← elem' a p]
  if p == 0 then return dn o p q
  if q == 1 then return fB o p q
  let mut mg := gallopOf (← get)
  for _ in [0:tot] do
    let mut ac := 0
    let mut bc := 0
    for _ in [0:tot] do
      let some aw ← lt' (← elem' b (q - 1)) (← elem' a (p - 1)) | return dn o p q
      if aw then
        p := p - 1; o := o.push (← elem' a p); ac := ac + 1; bc := 0
        if p == 0 then return dn o p q
        if ac ≥ mg then break
      else
        q := q - 1; o := o.push (← elem' b q); bc := bc + 1; ac := 0
        if q == 1 then return fB o p q
        if bc ≥ mg then break
    rule "list.sort.gallop"
    mg := mg + 1
    for _ in [0:tot] do
      if mg > 1 then mg := mg - 1
      setGm mg
      let some u ← gal false (← elem' b (q - 1)) a 0 p (p - 1) | return dn o p q
      let k := p - u
      ac := k
      if k > 0 then
        o := o ++ (a.extract u p).reverse; p := u
        if p == 0 then return dn o p q
      q := q - 1; o := o.push (← elem' b q)
      if q == 1 then return fB o p q
      let some u ← gal true (← elem' a (p - 1)) b 0 q (q - 1) | return dn o p q
      let k := q - u
      bc := k
      if k > 0 then
        o := o ++ (b.extract u q).reverse; q := u
        if q == 1 then return fB o p q
        if q == 0 then return dn o p q
      p := p - 1; o := o.push (← elem' a p)
      if p == 0 then return dn o p q
      if ac < 7 && bc < 7 then break
    mg := mg + 1
    setGm mg
  unsupported "internal:list.sort.merge-bound") := rfl

/-- what is left ahead (of a up to p, of b up to q), what stands merged behind, o the other way about -/
structure MH (good : Keyed → Prop) (lt : Keyed → Keyed → Bool) (a b o : List Keyed) (p q : Nat) : Prop where
  perm : (a.take p ++ (b.take q ++ o.reverse)).Perm (a ++ b)
  srt : o.reverse.Pairwise (LE lt)
  low : ∀ x ∈ o, ∀ y ∈ a.take p ++ b.take q, LE lt y x
  pa : p ≤ a.length
  qb : q ≤ b.length
section
variable {good : Keyed → Prop} {lt : Keyed → Keyed → Bool} {a b o : List Keyed} {p q k : Nat} {x : Keyed}
theorem MH.size (m : MH good lt a b o p q) : o.length + p + q = a.length + b.length := by
  have e := m.perm.length_eq
  have := m.pa
  have := m.qb
  rw [List.length_append, List.length_append, List.length_append, List.length_take, List.length_take, List.length_reverse] at e
  omega
theorem take_at {l : List Keyed} {i : Nat} (h : l[i]? = some x) : l.take (i + 1) = l.take i ++ [x] := by
  rw [List.take_add_one, h]
  rfl
theorem SL.under (s : SL good lt a) (h : a[p]? = some x) : ∀ y ∈ a.take p, LE lt y x := fun y hy => by
  obtain ⟨j, hj⟩ := List.mem_iff_getElem?.mp hy
  have hlt : j < p := by
    have := lt_len hj
    rw [List.length_take] at this
    omega
  rw [List.getElem?_take_of_lt hlt] at hj
  exact s.up hj h hlt
theorem MH.pushA (m : MH good lt a b o (p + 1) q) (sa : SL good lt a) (h : a[p]? = some x) (hb : ∀ y ∈ b.take q, LE lt y x) : MH good lt a b (o ++ [x]) p q := by
  have hd := take_at h
  have hp := lt_len h
  refine ⟨?_, ?_, ?_, by omega, m.qb⟩
  · have e := m.perm
    rw [hd] at e
    refine List.Perm.trans ?_ e
    rw [List.reverse_append, List.append_assoc]
    refine List.Perm.append_left _ ?_
    show (b.take q ++ x :: o.reverse).Perm (x :: (b.take q ++ o.reverse))
    exact List.perm_middle
  · rw [List.reverse_append]
    refine List.pairwise_cons.mpr ⟨fun y hy => m.low y (List.mem_reverse.mp hy) x (by rw [hd]; simp), m.srt⟩
  · intro y hy z hz
    rcases List.mem_append.mp hy with hy | hy
    · exact m.low y hy z (by rw [hd]; rcases List.mem_append.mp hz with w | w <;> simp [w])
    · rw [List.mem_singleton] at hy
      subst hy
      rcases List.mem_append.mp hz with w | w
      · exact sa.under h z w
      · exact hb z w
theorem MH.pushB (m : MH good lt a b o p (q + 1)) (sb : SL good lt b) (h : b[q]? = some x) (ha : ∀ y ∈ a.take p, LE lt y x) : MH good lt a b (o ++ [x]) p q := by
  have hd := take_at h
  have hq := lt_len h
  refine ⟨?_, ?_, ?_, m.pa, by omega⟩
  · have e := m.perm
    rw [hd] at e
    refine List.Perm.trans ?_ e
    rw [List.reverse_append, List.append_assoc (b.take q)]
    exact List.Perm.refl _
  · rw [List.reverse_append]
    refine List.pairwise_cons.mpr ⟨fun y hy => m.low y (List.mem_reverse.mp hy) x (by rw [hd]; simp), m.srt⟩
  · intro y hy z hz
    rcases List.mem_append.mp hy with hy | hy
    · exact m.low y hy z (by rw [hd]; rcases List.mem_append.mp hz with w | w <;> simp [w])
    · rw [List.mem_singleton] at hy
      subst hy
      rcases List.mem_append.mp hz with w | w
      · exact ha z w
      · exact sb.under h z w
theorem drop_take_at {l : List Keyed} {u k : Nat} (h : l[u]? = some x) : (l.drop u).take (k + 1) = x :: (l.drop (u + 1)).take k := by rw [drop_at h, List.take_succ_cons]
theorem MH.blockA (sa : SL good lt a) : ∀ (k u : Nat) (o : List Keyed), MH good lt a b o (u + k) q → (∀ i y, u ≤ i → i < u + k → a[i]? = some y → ∀ z ∈ b.take q, LE lt z y) → MH good lt a b (o ++ ((a.drop u).take k).reverse) u q
  | 0, u, o, m, _ => by simpa using m
  | k + 1, u, o, m, h => by
    have hlen := m.pa
    have ih := MH.blockA sa k (u + 1) o (by rw [show u + 1 + k = u + (k + 1) by omega]; exact m) fun i y h1 h2 => h i y (by omega) (by omega)
    have e : a[u]? = some a[u] := List.getElem?_eq_getElem (by omega)
    have r := ih.pushA sa e (h u _ (Nat.le_refl _) (by omega) e)
    rw [drop_take_at e, List.reverse_cons, ← List.append_assoc]
    exact r
theorem MH.blockB (sb : SL good lt b) : ∀ (k u : Nat) (o : List Keyed), MH good lt a b o p (u + k) → (∀ i y, u ≤ i → i < u + k → b[i]? = some y → ∀ z ∈ a.take p, LE lt z y) → MH good lt a b (o ++ ((b.drop u).take k).reverse) p u
  | 0, u, o, m, _ => by simpa using m
  | k + 1, u, o, m, h => by
    have hlen := m.qb
    have ih := MH.blockB sb k (u + 1) o (by rw [show u + 1 + k = u + (k + 1) by omega]; exact m) fun i y h1 h2 => h i y (by omega) (by omega)
    have e : b[u]? = some b[u] := List.getElem?_eq_getElem (by omega)
    have r := ih.pushB sb e (h u _ (Nat.le_refl _) (by omega) e)
    rw [drop_take_at e, List.reverse_cons, ← List.append_assoc]
    exact r
theorem MH.done (m : MH good lt a b o p q) (sa : SL good lt a) (sb : SL good lt b) (h : a.take p = [] ∨ b.take q = []) : Good lt a b (a.take p ++ b.take q ++ o.reverse) := by
  refine ⟨by rw [List.append_assoc]; exact m.perm, ?_⟩
  refine List.pairwise_append.mpr ⟨?_, m.srt, fun x hx y hy => m.low y (List.mem_reverse.mp hy) x hx⟩
  rcases h with h | h
  · rw [h, List.nil_append]; exact sb.srt.sublist (List.take_sublist _ _)
  · rw [h, List.append_nil]; exact sa.srt.sublist (List.take_sublist _ _)
theorem MH.first (m : MH good lt a b o p 1) (sa : SL good lt a) (h : b[0]? = some x) (hx : ∀ y ∈ a, LE lt x y) : Good lt a b (b.take 1 ++ a.take p ++ o.reverse) := by
  have hd : b.take 1 = [x] := take_at (i := 0) h
  constructor
  · refine List.Perm.trans ?_ m.perm
    rw [List.append_assoc]
    exact List.perm_append_comm_assoc _ _ _
  · refine List.pairwise_append.mpr ⟨?_, m.srt, fun y hy z hz => m.low z (List.mem_reverse.mp hz) y (by rcases List.mem_append.mp hy with w | w <;> simp [w])⟩
    refine List.pairwise_append.mpr ⟨by rw [hd]; exact List.pairwise_singleton _ _, sa.srt.sublist (List.take_sublist _ _), fun y hy z hz => ?_⟩
    rw [hd, List.mem_singleton] at hy
    subst hy
    exact hx z (List.mem_of_mem_take hz)
end
theorem ext_0 (xs : Array Keyed) (i : Nat) : (xs.extract 0 i).toList = xs.toList.take i := by simp [List.extract]
theorem ext_cut (xs : Array Keyed) (u p : Nat) : (xs.extract u p).toList = (xs.toList.drop u).take (p - u) := by simp [List.extract]
end EvS

/-! EVENLOTS: the model's sort beyond 63 items, 5: the merge from the right is right. -/
namespace EvS
open PySem PyProof.Rows
section
variable {good : Keyed → Prop} {lt : Keyed → Keyed → Bool} {a b o : List Keyed} {p q u : Nat} {x : Keyed}
theorem MH.pushA' (m : MH good lt a b o p q) (hp : 0 < p) (sa : SL good lt a) (h : a[p - 1]? = some x) (hb : ∀ y ∈ b.take q, LE lt y x) : MH good lt a b (o ++ [x]) (p - 1) q :=
  MH.pushA (by rw [show p - 1 + 1 = p by omega]; exact m) sa h hb
theorem MH.pushB' (m : MH good lt a b o p q) (hq : 0 < q) (sb : SL good lt b) (h : b[q - 1]? = some x) (ha : ∀ y ∈ a.take p, LE lt y x) : MH good lt a b (o ++ [x]) p (q - 1) :=
  MH.pushB (by rw [show q - 1 + 1 = q by omega]; exact m) sb h ha
theorem MH.blockA' (m : MH good lt a b o p q) (hu : u ≤ p) (sa : SL good lt a) (h : ∀ i y, u ≤ i → i < p → a[i]? = some y → ∀ z ∈ b.take q, LE lt z y) : MH good lt a b (o ++ ((a.drop u).take (p - u)).reverse) u q :=
  MH.blockA sa (p - u) u o (by rw [show u + (p - u) = p by omega]; exact m) fun i y h1 h2 => h i y h1 (by omega)
theorem MH.blockB' (m : MH good lt a b o p q) (hu : u ≤ q) (sb : SL good lt b) (h : ∀ i y, u ≤ i → i < q → b[i]? = some y → ∀ z ∈ a.take p, LE lt z y) : MH good lt a b (o ++ ((b.drop u).take (q - u)).reverse) p u :=
  MH.blockB sb (q - u) u o (by rw [show u + (q - u) = q by omega]; exact m) fun i y h1 h2 => h i y h1 (by omega)
theorem mem_take_at {l : List Keyed} {i : Nat} {z : Keyed} (h : z ∈ l.take i) : ∃ j, j < i ∧ l[j]? = some z := by
  obtain ⟨j, hj⟩ := List.mem_iff_getElem?.mp h
  have hlt : j < i := by
    have := lt_len hj
    rw [List.length_take] at this
    omega
  exact ⟨j, hlt, by rwa [List.getElem?_take_of_lt hlt] at hj⟩
end
section
variable {prog : Program} {w : World} {A : Around} {E : Value → Shared → Prop} {s : Shared} {kd : SortKind} {good : Keyed → Prop} {lt : Keyed → Keyed → Bool} {st : SortSt} {a b : Array Keyed} {Q : Array Keyed → SortSt → Prop}
set_option maxHeartbeats 8000000 in
theorem wp_mHi (C : Cmp prog w A E s kd good lt) (O : Ord good lt) (hk : kindOf st = kd) (sa : SL good lt a.toList) (sb : SL good lt b.toList) (ha : 0 < a.size) (hb : 0 < b.size)
    (h0 : ∀ y, b.toList[0]? = some y → ∀ x ∈ a.toList, LE lt y x) (h1 : ∀ x, a.toList[a.size - 1]? = some x → ∀ y ∈ b.toList, LE lt y x)
    (hQ : ∀ r st', SG st st' → Good lt a.toList b.toList r.toList → Q r st') : wpS (model prog w) A E s (mHi a b) Q st := by
  rw [mHi_eq]
  dsimp only
  refine wpS_bind (wpS_lift (wpAny_rule ⟨rfl, ?_⟩))
  obtain ⟨ea1, la1⟩ := at_of (xs := a) (i := a.size - 1) (by omega)
  obtain ⟨eb0, lb0⟩ := at_of hb
  refine wpS_bind (wp_elem ea1 ?_)
  have upA : ∀ {p q : Nat} {x y : Keyed}, 0 < q → a.toList[p]? = some x → b.toList[q - 1]? = some y → LE lt y x → ∀ z ∈ b.toList.take q, LE lt z x := fun {p q x y} hq hx hy hl z hz => by
    obtain ⟨j, hj, ej⟩ := mem_take_at hz
    by_cases e : j = q - 1
    · rw [e, hy] at ej; cases ej; exact hl
    · exact O.tr (sb.good_at ej) (sb.good_at hy) (sa.good_at hx) (sb.up ej hy (by omega)) hl
  have upB : ∀ {p q : Nat} {x y : Keyed}, 0 < p → a.toList[p - 1]? = some x → b.toList[q]? = some y → LE lt x y → ∀ z ∈ a.toList.take p, LE lt z y := fun {p q x y} hp hx hy hl z hz => by
    obtain ⟨j, hj, ej⟩ := mem_take_at hz
    by_cases e : j = p - 1
    · rw [e, hx] at ej; cases ej; exact hl
    · exact O.tr (sa.good_at ej) (sa.good_at hx) (sb.good_at hy) (sa.up ej hx (by omega)) hl
  have m0 : MH good lt a.toList b.toList [] a.size b.size := ⟨by rw [List.take_of_length_le (by simp), List.take_of_length_le (by simp)]; simp, List.Pairwise.nil, fun x hx => (nomatch hx), by simp, by simp⟩
  have m1 : MH good lt a.toList b.toList [a[a.size - 1]] (a.size - 1) b.size := m0.pushA' ha sa la1 fun y hy => h1 _ la1 y (List.mem_of_mem_take hy)
  have fin : ∀ {st' : SortSt} {o : Array Keyed} {p q : Nat}, SG st st' → MH good lt a.toList b.toList o.toList p q → (p = 0 ∨ q = 0) → Q (a.extract 0 p ++ b.extract 0 q ++ o.reverse) st' := fun {st' o p q} g m h => by
    refine hQ _ st' g ?_
    rw [Array.toList_append, Array.toList_append, ext_0, ext_0, Array.toList_reverse]
    refine m.done sa sb ?_
    rcases h with h | h
    · exact .inl (by rw [h]; rfl)
    · exact .inr (by rw [h]; rfl)
  have fst : ∀ {st' : SortSt} {o : Array Keyed} {p q : Nat}, SG st st' → MH good lt a.toList b.toList o.toList p q → q = 1 → Q (b.extract 0 q ++ a.extract 0 p ++ o.reverse) st' := fun {st' o p q} g m h => by
    subst h
    refine hQ _ st' g ?_
    rw [Array.toList_append, Array.toList_append, ext_0, ext_0, Array.toList_reverse]
    exact m.first sa lb0 (h0 _ lb0)
  by_cases c1 : (a.size - 1 == 0) = true
  · rw [if_pos c1]
    exact wpS_pure (fin (SG.refl _) m1 (.inl (eq_of_beq c1)))
  rw [if_neg c1]
  have na : 0 < a.size - 1 := by
    have : ¬ a.size - 1 = 0 := fun z => c1 (by rw [z]; rfl)
    omega
  by_cases c2 : (b.size == 1) = true
  · rw [if_pos c2]
    exact wpS_pure (fst (SG.refl _) m1 (eq_of_beq c2))
  rw [if_neg c2]
  have nb : 1 < b.size := by
    have : ¬ b.size = 1 := fun z => c2 (by rw [z]; rfl)
    omega
  refine wpS_bind (wpS_get ?_)
  refine wpS_bind (wpS_mono (wpS_forRange
    (I := fun x c st' => SG st st' ∧ ∃ p q o mg, c = (none, p, q, o, mg) ∧ MH good lt a.toList b.toList o.toList p q ∧ 0 < p ∧ 1 < q ∧ x + 1 ≤ o.size)
    (Q := fun c st' => SG st st' ∧ ∃ r o, c = (some r, o) ∧ Q r st') ?ostep ?ofin ⟨SG.refl _, a.size - 1, b.size, #[a[a.size - 1]], _, rfl, m1, na, nb, by simp⟩) ?opost)
  case ofin =>
    rintro c st' ⟨g, p, q, o, mg, rfl, m, hp, hq, ho⟩
    have := m.size
    rw [Array.length_toList, Array.length_toList, Array.length_toList] at this
    omega
  case opost =>
    rintro c st' ⟨g, r, o, rfl, hq⟩
    exact wpS_pure hq
  case ostep =>
    rintro x c st1 _ hx ⟨g1, p, q, o, mg, rfl, m, hp, hq, ho⟩
    dsimp only
    refine wpS_bind (wpS_mono (wpS_forRange
      (I := fun y c st2 => SG st st2 ∧ ∃ p' q' o' ac bc, c = (none, p', q', o', ac, bc) ∧ MH good lt a.toList b.toList o'.toList p' q' ∧ 0 < p' ∧ 1 < q' ∧ o.size + y ≤ o'.size)
      (Q := fun c st2 => SG st st2 ∧ ((∃ r z, c = (some r, z) ∧ Q r st2) ∨ ∃ p' q' o' ac bc, c = (none, p', q', o', ac, bc) ∧ MH good lt a.toList b.toList o'.toList p' q' ∧ 0 < p' ∧ 1 < q' ∧ o.size + 1 ≤ o'.size))
      ?istep ?ifin ⟨g1, p, q, o, 0, 0, rfl, m, hp, hq, by omega⟩) ?ipost)
    case ifin =>
      rintro c st2 ⟨g2, p', q', o', ac, bc, rfl, m', hp', hq', ho'⟩
      exact ⟨g2, .inr ⟨p', q', o', ac, bc, rfl, m', hp', hq', by omega⟩⟩
    case istep =>
      rintro y c st2 _ hy ⟨g2, p', q', o', ac, bc, rfl, m', hp', hq', ho'⟩
      dsimp only
      have hpl := m'.pa
      have hql := m'.qb
      rw [Array.length_toList] at hpl hql
      obtain ⟨eb, lb⟩ := at_of (xs := b) (i := q' - 1) (by omega)
      obtain ⟨ea, la⟩ := at_of (xs := a) (i := p' - 1) (by omega)
      refine wpS_bind (wp_elem eb (wpS_bind (wp_elem ea (wpS_bind (C.run (g2.kind.trans hk) (sb.good_at lb) (sa.good_at la) ?_)))))
      cases hlt : lt b[q' - 1] a[p' - 1] with
      | true =>
        simp only [if_true]
        have mm := m'.pushA' hp' sa la (upA (by omega) la lb (O.tot (sb.good_at lb) (sa.good_at la) hlt))
        refine wpS_bind (wp_elem ea ?_)
        by_cases d1 : (p' - 1 == 0) = true
        · rw [if_pos d1]
          exact wpS_pure ⟨g2, .inl ⟨_, _, rfl, fin g2 (by simpa using mm) (.inl (eq_of_beq d1))⟩⟩
        · rw [if_neg d1]
          have d1' : ¬ p' - 1 = 0 := fun z => d1 (by rw [z]; rfl)
          split
          · exact wpS_pure ⟨g2, .inr ⟨_, _, _, _, _, rfl, by simpa using mm, by omega, hq', by simp; omega⟩⟩
          · exact wpS_pure ⟨g2, _, _, _, _, _, rfl, by simpa using mm, by omega, hq', by simp; omega⟩
      | false =>
        simp only [Bool.false_eq_true, if_false]
        have mm := m'.pushB' (by omega) sb lb (upB hp' la lb hlt)
        refine wpS_bind (wp_elem eb ?_)
        by_cases d1 : (q' - 1 == 1) = true
        · rw [if_pos d1]
          exact wpS_pure ⟨g2, .inl ⟨_, _, rfl, fst g2 (by simpa using mm) (eq_of_beq d1)⟩⟩
        · rw [if_neg d1]
          have d1' : ¬ q' - 1 = 1 := fun z => d1 (by rw [z]; rfl)
          split
          · exact wpS_pure ⟨g2, .inr ⟨_, _, _, _, _, rfl, by simpa using mm, hp', by omega, by simp; omega⟩⟩
          · exact wpS_pure ⟨g2, _, _, _, _, _, rfl, by simpa using mm, hp', by omega, by simp; omega⟩
    case ipost =>
      rintro c st2 ⟨g2, ⟨r, z, rfl, hr⟩ | ⟨p', q', o', ac, bc, rfl, m', hp', hq', ho'⟩⟩
      · exact wpS_pure ⟨g2, _, _, rfl, hr⟩
      · refine wpS_bind (wpS_lift (wpAny_rule ⟨rfl, ?_⟩))
        refine wpS_bind (wpS_mono (wpS_forRange
          (I := fun y c st3 => SG st st3 ∧ ∃ p2 q2 o2 mg2 ac2 bc2, c = (none, p2, q2, o2, mg2, ac2, bc2) ∧ MH good lt a.toList b.toList o2.toList p2 q2 ∧ 0 < p2 ∧ 1 < q2 ∧ o'.size ≤ o2.size)
          (Q := fun c st3 => SG st st3 ∧ ((∃ r z, c = (some r, z) ∧ Q r st3) ∨ ∃ p2 q2 o2 mg2 ac2 bc2, c = (none, p2, q2, o2, mg2, ac2, bc2) ∧ MH good lt a.toList b.toList o2.toList p2 q2 ∧ 0 < p2 ∧ 1 < q2 ∧ o'.size ≤ o2.size))
          ?gstep ?gfin ⟨g2, p', q', o', _, ac, bc, rfl, m', hp', hq', Nat.le_refl _⟩) ?gpost)
        case gfin =>
          rintro c st3 ⟨g3, p2, q2, o2, mg2, ac2, bc2, rfl, m2, hp2, hq2, ho2⟩
          exact ⟨g3, .inr ⟨p2, q2, o2, mg2, ac2, bc2, rfl, m2, hp2, hq2, ho2⟩⟩
        case gpost =>
          rintro c st3 ⟨g3, ⟨r, z, rfl, hr⟩ | ⟨p2, q2, o2, mg2, ac2, bc2, rfl, m2, hp2, hq2, ho2⟩⟩
          · exact wpS_pure ⟨g3, _, _, rfl, hr⟩
          · dsimp only
            rw [setGm_eq]
            exact wpS_bind (wpS_modify (wpS_pure ⟨g3.setG _, _, _, _, _, rfl, m2, hp2, hq2, by omega⟩))
        case gstep =>
          rintro y c st3 _ hy ⟨g3, p2, q2, o2, mg2, ac2, bc2, rfl, m2, hp2, hq2, ho2⟩
          dsimp only
          have hpl := m2.pa
          have hql := m2.qb
          rw [Array.length_toList] at hpl hql
          obtain ⟨eb, lb⟩ := at_of (xs := b) (i := q2 - 1) (by omega)
          by_cases hmg : mg2 > 1
          case' pos => rw [if_pos hmg]
          case' neg => rw [if_neg hmg]
          all_goals
            rw [setGm_eq]
            refine wpS_bind (wpS_modify ?_)
            refine wpS_bind (wp_elem eb (wpS_bind (wp_gal2 (xs := a) (bs := 0) (n := p2) (h := p2 - 1) C O ((g3.setG _).kind.trans hk) (sb.good_at lb) (by omega) (fun i _ x hx => sa.good_at hx) (fun i j x y hij _ hx hy => sa.up hx hy (by omega)) (by omega) fun u k1 k2 k3 => ?_)))
            simp only [Nat.zero_add] at k2 k3
            have mk : MH good lt a.toList b.toList (o2 ++ (a.extract u p2).reverse).toList u q2 := by
              rw [Array.toList_append, Array.toList_reverse, ext_cut]
              exact m2.blockA' k1 sa fun i x h1 h2 hx => upA (by omega) hx lb (k3 i x h1 h2 hx)
            have bl : ∀ z ∈ a.toList.take u, LE lt z b[q2 - 1] := fun z hz => by
              obtain ⟨j, hj, ej⟩ := mem_take_at hz
              exact k2 j z hj ej
            dsimp only
            by_cases c3 : p2 - u > 0
            case' pos =>
              rw [if_pos c3]
              by_cases c4 : (u == 0) = true
              · rw [if_pos c4]
                exact wpS_pure ⟨g3.setG _, .inl ⟨_, _, rfl, fin (g3.setG _) mk (.inl (eq_of_beq c4))⟩⟩
              rw [if_neg c4]
              have hpX : 0 < u := by
                have q1 : ¬ u = 0 := fun z => c4 (by rw [z]; rfl)
                omega
              have hoX : o'.size ≤ (o2 ++ (a.extract u p2).reverse).size := by rw [Array.size_append]; omega
              generalize p2 - u = kk
              revert mk bl hpX hoX
              generalize o2 ++ (a.extract u p2).reverse = oX
              generalize u = pX
            case' neg =>
              rw [if_neg c3]
              have k0 : u = p2 := by omega
              subst k0
              replace mk : MH good lt a.toList b.toList o2.toList u q2 := m2
              replace bl : ∀ z ∈ a.toList.take u, LE lt z b[q2 - 1] := bl
              have hpX : 0 < u := hp2
              have hoX : o'.size ≤ o2.size := ho2
              generalize u - u = kk
              revert mk bl hpX hoX
              generalize o2 = oX
              generalize u = pX
            all_goals
              intro mX blX hpX hoX
              have hpXl := mX.pa
              rw [Array.length_toList] at hpXl
              refine wpS_bind (wp_elem eb ?_)
              have mb := mX.pushB' (by omega) sb lb blX
              by_cases d1 : (q2 - 1 == 1) = true
              · rw [if_pos d1]
                exact wpS_pure ⟨g3.setG _, .inl ⟨_, _, rfl, fst (g3.setG _) (by rw [Array.toList_push]; exact mb) (eq_of_beq d1)⟩⟩
              rw [if_neg d1]
              have hq3 : 1 < q2 - 1 := by
                have q1 : ¬ q2 - 1 = 1 := fun z => d1 (by rw [z]; rfl)
                omega
              obtain ⟨eaX, laX⟩ := at_of (xs := a) (i := pX - 1) (by omega)
              refine wpS_bind (wp_elem eaX (wpS_bind (wp_gal2 (xs := b) (bs := 0) (n := q2 - 1) (h := q2 - 1 - 1) C O ((g3.setG _).kind.trans hk) (sa.good_at laX) (by omega) (fun i _ x hx => sb.good_at hx) (fun i j x y hij _ hx hy => sb.up hx hy (by omega)) (by omega) fun v j1 j2 j3 => ?_)))
              simp only [Nat.zero_add] at j2 j3
              have mk2 : MH good lt a.toList b.toList (oX.push b[q2 - 1] ++ (b.extract v (q2 - 1)).reverse).toList pX v := by
                rw [Array.toList_append, Array.toList_reverse, ext_cut, Array.toList_push]
                exact mb.blockB' j1 sb fun i x h1 h2 hx => upB hpX laX hx (j3 i x h1 h2 hx)
              have al : ∀ z ∈ b.toList.take v, LE lt z a[pX - 1] := fun z hz => by
                obtain ⟨j, hj, ej⟩ := mem_take_at hz
                exact j2 j z hj ej
              dsimp only
              by_cases e3 : q2 - 1 - v > 0
              case' pos =>
                rw [if_pos e3]
                by_cases e4 : (v == 1) = true
                · rw [if_pos e4]
                  exact wpS_pure ⟨g3.setG _, .inl ⟨_, _, rfl, fst (g3.setG _) mk2 (eq_of_beq e4)⟩⟩
                rw [if_neg e4]
                by_cases e5 : (v == 0) = true
                · rw [if_pos e5]
                  exact wpS_pure ⟨g3.setG _, .inl ⟨_, _, rfl, fin (g3.setG _) mk2 (.inr (eq_of_beq e5))⟩⟩
                rw [if_neg e5]
                have hqY : 1 < v := by
                  have q1 : ¬ v = 1 := fun z => e4 (by rw [z]; rfl)
                  have q2 : ¬ v = 0 := fun z => e5 (by rw [z]; rfl)
                  omega
                have hoY : o'.size ≤ (oX.push b[q2 - 1] ++ (b.extract v (q2 - 1)).reverse).size := by rw [Array.size_append, Array.size_push]; omega
                generalize q2 - 1 - v = ll
                revert mk2 al hqY hoY
                generalize oX.push b[q2 - 1] ++ (b.extract v (q2 - 1)).reverse = oY
                generalize v = qY
              case' neg =>
                rw [if_neg e3]
                have k0 : v = q2 - 1 := by omega
                subst k0
                replace mk2 : MH good lt a.toList b.toList (oX.push b[q2 - 1]).toList pX (q2 - 1) := by rw [Array.toList_push]; exact mb
                replace al : ∀ z ∈ b.toList.take (q2 - 1), LE lt z a[pX - 1] := al
                have hqY : 1 < q2 - 1 := hq3
                have hoY : o'.size ≤ (oX.push b[q2 - 1]).size := by rw [Array.size_push]; omega
                generalize q2 - 1 - (q2 - 1) = ll
                revert mk2 al hqY hoY
                generalize oX.push b[q2 - 1] = oY
                generalize q2 - 1 = qY
              all_goals
                intro mY alY hqY hoY
                refine wpS_bind (wp_elem eaX ?_)
                have mc := mY.pushA' hpX sa laX alY
                by_cases f1 : (pX - 1 == 0) = true
                · rw [if_pos f1]
                  exact wpS_pure ⟨g3.setG _, .inl ⟨_, _, rfl, fin (g3.setG _) (by rw [Array.toList_push]; exact mc) (.inl (eq_of_beq f1))⟩⟩
                rw [if_neg f1]
                have hpY : 0 < pX - 1 := by
                  have q1 : ¬ pX - 1 = 0 := fun z => f1 (by rw [z]; rfl)
                  omega
                split
                · exact wpS_pure ⟨g3.setG _, .inr ⟨_, _, _, _, _, _, rfl, by rw [Array.toList_push]; exact mc, hpY, hqY, by rw [Array.size_push]; omega⟩⟩
                · exact wpS_pure ⟨g3.setG _, _, _, _, _, _, _, rfl, by rw [Array.toList_push]; exact mc, hpY, hqY, by rw [Array.size_push]; omega⟩
end
end EvS

/-! EVENLOTS: the model's sort beyond 63 items, 6: a run is counted (and turned about), a stretch is sorted by insertion. -/
namespace EvS
open PySem PyProof.Rows
def G (xs : Array Keyed) (k : Nat) : Keyed := xs[k]?.getD (.none, .none)
theorem G_congr {xs ys : Array Keyed} {i j : Nat} (h : xs[i]? = ys[j]?) : G xs i = G ys j := by unfold G; rw [h]
theorem G_get {xs : Array Keyed} {i : Nat} (h : i < xs.size) : xs[i]? = some (G xs i) := by
  unfold G
  rw [Array.getElem?_eq_getElem h]
  rfl
/-- nothing but [lo, hi) has changed -/
def Out (lo hi : Nat) (xs ys : Array Keyed) : Prop := ∀ k, (k < lo ∨ hi ≤ k) → ys[k]? = xs[k]?
theorem Out.refl {lo hi : Nat} (xs : Array Keyed) : Out lo hi xs xs := fun _ _ => rfl
theorem Out.trans {lo hi : Nat} {xs ys zs : Array Keyed} (a : Out lo hi xs ys) (b : Out lo hi ys zs) : Out lo hi xs zs := fun k h => (b k h).trans (a k h)
structure SB (kd : SortKind) (a₀ : Array Keyed) (st : SortSt) : Prop where
  perm : (arrOf st).Perm a₀
  kind : kindOf st = kd
  fail : failedOf st = none
theorem SB.size {kd : SortKind} {a₀ : Array Keyed} {st : SortSt} (h : SB kd a₀ st) : (arrOf st).size = a₀.size := h.perm.size_eq
theorem SB.put {kd : SortKind} {a₀ : Array Keyed} {st : SortSt} (h : SB kd a₀ st) {xs : Array Keyed} (hp : xs.Perm (arrOf st)) : SB kd a₀ (setArr st xs) := ⟨hp.trans h.perm, h.kind, h.fail⟩
section
variable {prog : Program} {w : World} {A : Around} {E : Value → Shared → Prop} {s : Shared} {kd : SortKind} {good : Keyed → Prop} {lt : Keyed → Keyed → Bool} {st : SortSt} {a₀ : Array Keyed}
theorem SB.ok (h : SB kd a₀ st) (hg : ∀ x ∈ a₀.toList, good x) {i : Nat} (hi : i < a₀.size) : good (G (arrOf st) i) := by
  have hi' : i < (arrOf st).size := by rw [h.size]; exact hi
  have e : G (arrOf st) i = (arrOf st)[i] := by unfold G; rw [Array.getElem?_eq_getElem hi']; rfl
  rw [e]
  exact hg _ ((Array.perm_iff_toList_perm.mp h.perm).mem_iff.mp (by simp))
theorem wp_ltAt (C : Cmp prog w A E s kd good lt) (h : SB kd a₀ st) (hg : ∀ x ∈ a₀.toList, good x) {i j : Nat} {Q : Option Bool → SortSt → Prop} (hi : i < a₀.size) (hj : j < a₀.size)
    (hQ : Q (some (lt (G (arrOf st) i) (G (arrOf st) j))) st) : wpS (model prog w) A E s (ltAt' i j) Q st := by
  rw [ltAt'_eq]
  refine wpS_bind (wpS_get ?_)
  exact wpS_bind (wp_elem (G_get (by rw [h.size]; exact hi)) (wpS_bind (wp_elem (G_get (by rw [h.size]; exact hj)) (C.run h.kind (h.ok hg hi) (h.ok hg hj) hQ))))
def Asc (lt : Keyed → Keyed → Bool) (xs : Array Keyed) (lo n : Nat) : Prop := ∀ i j, lo ≤ i → i ≤ j → j < lo + n → LE lt (G xs i) (G xs j)
def Dsc (lt : Keyed → Keyed → Bool) (xs : Array Keyed) (lo n : Nat) : Prop := ∀ i j, lo ≤ i → i ≤ j → j < lo + n → LE lt (G xs j) (G xs i)
theorem Ord.rf (O : Ord good lt) {x : Keyed} (h : good x) : LE lt x x := by
  show lt x x = false
  cases q : lt x x with
  | false => rfl
  | true =>
    have z := O.tot h h q
    rw [q] at z
    cases z
theorem Asc.more (O : Ord good lt) (h : SB kd a₀ st) (hg : ∀ x ∈ a₀.toList, good x) {lo n : Nat} (hn : 1 ≤ n) (hs : lo + n < a₀.size) (a : Asc lt (arrOf st) lo n) (hl : LE lt (G (arrOf st) (lo + n - 1)) (G (arrOf st) (lo + n))) : Asc lt (arrOf st) lo (n + 1) := fun i j h1 h2 h3 => by
  by_cases e : j < lo + n
  · exact a i j h1 h2 e
  have e' : j = lo + n := by omega
  subst e'
  by_cases e : i = lo + n
  · subst e; exact O.rf (h.ok hg (by omega))
  · exact O.tr (h.ok hg (by omega)) (h.ok hg (by omega)) (h.ok hg (by omega)) (a i (lo + n - 1) h1 (by omega) (by omega)) hl
theorem Dsc.more (O : Ord good lt) (h : SB kd a₀ st) (hg : ∀ x ∈ a₀.toList, good x) {lo n : Nat} (hn : 1 ≤ n) (hs : lo + n < a₀.size) (a : Dsc lt (arrOf st) lo n) (hl : LE lt (G (arrOf st) (lo + n)) (G (arrOf st) (lo + n - 1))) : Dsc lt (arrOf st) lo (n + 1) := fun i j h1 h2 h3 => by
  by_cases e : j < lo + n
  · exact a i j h1 h2 e
  have e' : j = lo + n := by omega
  subst e'
  by_cases e : i = lo + n
  · subst e; exact O.rf (h.ok hg (by omega))
  · exact O.tr (h.ok hg (by omega)) (h.ok hg (by omega)) (h.ok hg (by omega)) hl (a i (lo + n - 1) h1 (by omega) (by omega))
/-! ### turned about -/
theorem G_mirror {xs : Array Keyed} {i j : Nat} (hj : j ≤ xs.size) (k : Nat) : G (mirror xs i j ((j - i) / 2)) k = if i ≤ k ∧ k < j then G xs (i + j - 1 - k) else G xs k := by
  have e := getElem?_mirror_all (i := i) hj k
  by_cases h1 : i ≤ k ∧ k < j
  · rw [if_pos h1] at e ⊢; exact G_congr e
  · rw [if_neg h1] at e ⊢; exact G_congr e
theorem mirror_out {xs : Array Keyed} {i j lo hi : Nat} (hj : j ≤ xs.size) (h1 : lo ≤ i) (h2 : j ≤ hi) : Out lo hi xs (mirror xs i j ((j - i) / 2)) := fun k hk => by
  rw [getElem?_mirror_all hj, if_neg (by omega)]
/-- like items turned about change no order -/
theorem Dsc.same (O : Ord good lt) {xs : Array Keyed} {lo n i j : Nat} (hj : j ≤ xs.size) (hg : ∀ k, k < xs.size → good (G xs k)) (d : Dsc lt xs lo n) (hlo : lo ≤ i) (hjn : j ≤ lo + n) (hn : lo + n ≤ xs.size)
    (eq : ∀ p q, i ≤ p → p < j → i ≤ q → q < j → LE lt (G xs p) (G xs q)) : Dsc lt (mirror xs i j ((j - i) / 2)) lo n := fun p q h1 h2 h3 => by
  have like : ∀ k, k < lo + n → LE lt (G xs k) (G (mirror xs i j ((j - i) / 2)) k) ∧ LE lt (G (mirror xs i j ((j - i) / 2)) k) (G xs k) ∧ good (G (mirror xs i j ((j - i) / 2)) k) := fun k hk => by
    rw [G_mirror hj]
    by_cases c : i ≤ k ∧ k < j
    · rw [if_pos c]
      exact ⟨eq _ _ c.1 c.2 (by omega) (by omega), eq _ _ (by omega) (by omega) c.1 c.2, hg _ (by omega)⟩
    · rw [if_neg c]
      exact ⟨O.rf (hg _ (by omega)), O.rf (hg _ (by omega)), hg _ (by omega)⟩
  obtain ⟨a1, a2, a3⟩ := like p (by omega)
  obtain ⟨b1, b2, b3⟩ := like q (by omega)
  exact O.tr b3 (hg _ (by omega)) a3 b2 (O.tr (hg _ (by omega)) (hg _ (by omega)) a3 (d p q h1 h2 h3) a1)
theorem Dsc.turn {xs : Array Keyed} {lo n : Nat} (hn : lo + n ≤ xs.size) (d : Dsc lt xs lo n) : Asc lt (mirror xs lo (lo + n) ((lo + n - lo) / 2)) lo n := fun p q h1 h2 h3 => by
  rw [G_mirror hn, G_mirror hn, if_pos (by omega), if_pos (by omega)]
  exact d _ _ (by omega) (by omega) (by omega)
end

def ascTail (lo n1 nrem : Nat) : SM (Option Nat) := do
  let mut n := n1
  for _ in [n:nrem] do
    let some sm ← ltAt' (lo + n) (lo + n - 1) | return none
    if sm then break
    n := n + 1
  return some n
def dscPart (lo n0 nrem : Nat) : SM (Option Nat) := do
  rule "list.sort.descending-run"
  let mut n := n0 + 1
  let mut e := 0
  for _ in [n:nrem] do
    let some sm ← ltAt' (lo + n) (lo + n - 1) | return none
    if sm then
      if e > 0 then reverseSlice' (lo + n - (e + 1)) (lo + n)
      e := 0
    else
      let some la ← ltAt' (lo + n - 1) (lo + n) | return none
      if la then break
      e := e + 1
    n := n + 1
  if e > 0 then reverseSlice' (lo + n - (e + 1)) (lo + n)
  reverseSlice' lo (lo + n)
  for _ in [n:nrem] do
    let some sm ← ltAt' (lo + n) (lo + n - 1) | return none
    if sm then break
    n := n + 1
  return some n
section
variable {prog : Program} {w : World} {A : Around} {E : Value → Shared → Prop} {s : Shared} {kd : SortKind} {good : Keyed → Prop} {lt : Keyed → Keyed → Bool} {st : SortSt} {a₀ : Array Keyed} {lo nrem : Nat} {Q : Option Nat → SortSt → Prop}
theorem SB.gs (h : SB kd a₀ st) (hg : ∀ x ∈ a₀.toList, good x) : ∀ k, k < (arrOf st).size → good (G (arrOf st) k) := fun k hk => h.ok hg (by rw [← h.size]; exact hk)
set_option maxHeartbeats 2000000 in
theorem wp_dsc (C : Cmp prog w A E s kd good lt) (O : Ord good lt) (h : SB kd a₀ st) (hg : ∀ x ∈ a₀.toList, good x) (hs : lo + nrem ≤ a₀.size) {n0 : Nat} (h1 : 1 ≤ n0) (h2 : n0 + 1 ≤ nrem) (hd : Dsc lt (arrOf st) lo (n0 + 1))
    (hQ : ∀ n st', SB kd a₀ st' → pendingOf st' = pendingOf st → 1 ≤ n → n ≤ nrem → Asc lt (arrOf st') lo n → Out lo (lo + nrem) (arrOf st) (arrOf st') → Q (some n) st') : wpS (model prog w) A E s (dscPart lo n0 nrem) Q st := by
  unfold dscPart
  dsimp only
  refine wpS_bind (wpS_lift (wpAny_rule ⟨rfl, ?_⟩))
  -- the last loop
  have asc : ∀ {st' : SortSt} {n1 : Nat}, SB kd a₀ st' → pendingOf st' = pendingOf st → 1 ≤ n1 → n1 ≤ nrem → Asc lt (arrOf st') lo n1 → Out lo (lo + nrem) (arrOf st) (arrOf st') →
      wpS (model prog w) A E s (ascTail lo n1 nrem) Q st' := fun {st' n1} B p0 p1 p2 p3 p4 => by
    unfold ascTail
    dsimp only
    refine wpS_bind (wpS_mono (wpS_forRange (I := fun x c st'' => st'' = st' ∧ c = (none, x) ∧ 1 ≤ x ∧ x ≤ nrem ∧ Asc lt (arrOf st') lo x) (Q := fun c st'' => st'' = st' ∧ ∃ n, c = (none, n) ∧ 1 ≤ n ∧ n ≤ nrem ∧ Asc lt (arrOf st') lo n) ?step ?fin ⟨rfl, rfl, p1, p2, p3⟩) ?post)
    case fin =>
      rintro c st'' ⟨rfl, rfl, a1, a2, a3⟩
      exact ⟨rfl, _, rfl, a1, a2, a3⟩
    case post =>
      rintro c st'' ⟨rfl, n, rfl, a1, a2, a3⟩
      exact wpS_pure (hQ n _ B p0 a1 a2 a3 p4)
    case step =>
      rintro x c st'' h3 h4 ⟨rfl, rfl, a1, a2, a3⟩
      dsimp only
      refine wpS_bind (wp_ltAt C B hg (by omega) (by omega) ?_)
      cases q : lt (G (arrOf st'') (lo + x)) (G (arrOf st'') (lo + x - 1)) with
      | true =>
        simp only [if_true]
        exact wpS_pure ⟨rfl, x, rfl, a1, a2, a3⟩
      | false =>
        simp only [Bool.false_eq_true, if_false]
        exact wpS_pure ⟨rfl, rfl, by omega, h4, a3.more O B hg a1 (by omega) q⟩
  refine wpS_bind (wpS_mono (wpS_forRange
    (I := fun x c st' => SB kd a₀ st' ∧ pendingOf st' = pendingOf st ∧ Out lo (lo + nrem) (arrOf st) (arrOf st') ∧ ∃ e, c = (none, x, e) ∧ 2 ≤ x ∧ x ≤ nrem ∧ e + 2 ≤ x ∧ Dsc lt (arrOf st') lo x ∧ ∀ p q, lo + x - (e + 1) ≤ p → p < lo + x → lo + x - (e + 1) ≤ q → q < lo + x → LE lt (G (arrOf st') p) (G (arrOf st') q))
    (Q := fun c st' => SB kd a₀ st' ∧ pendingOf st' = pendingOf st ∧ Out lo (lo + nrem) (arrOf st) (arrOf st') ∧ ∃ x e, c = (none, x, e) ∧ 2 ≤ x ∧ x ≤ nrem ∧ e + 2 ≤ x ∧ Dsc lt (arrOf st') lo x ∧ ∀ p q, lo + x - (e + 1) ≤ p → p < lo + x → lo + x - (e + 1) ≤ q → q < lo + x → LE lt (G (arrOf st') p) (G (arrOf st') q)) ?step ?fin ?init) ?post)
  case init =>
    refine ⟨h, rfl, Out.refl _, 0, rfl, by omega, by omega, by omega, hd, fun p q a1 a2 a3 a4 => ?_⟩
    have : p = q := by omega
    subst this
    exact O.rf (h.ok hg (by omega))
  case fin =>
    rintro c st' ⟨B, p0, ou, e, rfl, a1, a2, a3, a4, a5⟩
    exact ⟨B, p0, ou, _, e, rfl, a1, a2, a3, a4, a5⟩
  case post =>
    rintro c st' ⟨B, p0, ou, x, e, rfl, a1, a2, a3, a4, a5⟩
    dsimp only
    have sz := B.size
    by_cases c1 : e > 0
    · rw [if_pos c1, reverseSlice'_eq, reverseSlice'_eq]
      refine wpS_bind (wpS_modify (wpS_bind (wpS_modify ?_)))
      have d1 := a4.same O (i := lo + x - (e + 1)) (j := lo + x) (by omega) (B.gs hg) (by omega) (by omega) (by omega) a5
      have B1 := B.put (mirror_perm (arrOf st') (lo + x - (e + 1)) (lo + x) ((lo + x - (lo + x - (e + 1))) / 2))
      have d2 := d1.turn (by rw [mirror_size]; omega)
      exact asc (B1.put (mirror_perm _ _ _ _)) p0 (by omega) a2 d2 ((ou.trans (mirror_out (by omega) (by omega) (by omega))).trans (mirror_out (by rw [mirror_size]; omega) (by omega) (by omega)))
    · rw [if_neg c1, reverseSlice'_eq]
      refine wpS_bind (wpS_modify ?_)
      exact asc (B.put (mirror_perm _ _ _ _)) p0 (by omega) a2 (a4.turn (by omega)) (ou.trans (mirror_out (by omega) (by omega) (by omega)))
  case step =>
    rintro x c st' h3 h4 ⟨B, p0, ou, e, rfl, a1, a2, a3, a4, a5⟩
    dsimp only
    have sz := B.size
    refine wpS_bind (wp_ltAt C B hg (by omega) (by omega) ?_)
    cases q : lt (G (arrOf st') (lo + x)) (G (arrOf st') (lo + x - 1)) with
    | true =>
      simp only [if_true]
      have le1 := O.tot (B.ok hg (by omega)) (B.ok hg (by omega)) q
      by_cases c1 : e > 0
      · rw [if_pos c1, reverseSlice'_eq]
        refine wpS_bind (wpS_modify (wpS_pure ?_))
        have d0 := a4.more O B hg (by omega) (by omega) le1
        have d1 := d0.same O (i := lo + x - (e + 1)) (j := lo + x) (by omega) (B.gs hg) (by omega) (by omega) (by omega) a5
        have B1 := B.put (mirror_perm (arrOf st') (lo + x - (e + 1)) (lo + x) ((lo + x - (lo + x - (e + 1))) / 2))
        refine ⟨B1, p0, ou.trans (mirror_out (by omega) (by omega) (by omega)), 0, rfl, by omega, h4, by omega, d1, fun p q b1 b2 b3 b4 => ?_⟩
        have : p = q := by omega
        subst this
        exact O.rf (B1.ok hg (by omega))
      · rw [if_neg c1]
        refine wpS_pure ⟨B, p0, ou, 0, rfl, by omega, h4, by omega, a4.more O B hg (by omega) (by omega) le1, fun p q b1 b2 b3 b4 => ?_⟩
        have : p = q := by omega
        subst this
        exact O.rf (B.ok hg (by omega))
    | false =>
      simp only [Bool.false_eq_true, if_false]
      refine wpS_bind (wp_ltAt C B hg (by omega) (by omega) ?_)
      cases q2 : lt (G (arrOf st') (lo + x - 1)) (G (arrOf st') (lo + x)) with
      | true =>
        simp only [if_true]
        exact wpS_pure ⟨B, p0, ou, x, e, rfl, a1, a2, a3, a4, a5⟩
      | false =>
        simp only [Bool.false_eq_true, if_false]
        refine wpS_pure ⟨B, p0, ou, e + 1, rfl, by omega, h4, by omega, a4.more O B hg (by omega) (by omega) q2, fun p q' b1 b2 b3 b4 => ?_⟩
        by_cases f1 : p = lo + x
        · subst f1
          by_cases f2 : q' = lo + x
          · subst f2; exact O.rf (B.ok hg (by omega))
          · exact O.tr (B.ok hg (by omega)) (B.ok hg (by omega)) (B.ok hg (by omega)) q2 (a5 _ _ (by omega) (by omega) (by omega) (by omega))
        · by_cases f2 : q' = lo + x
          · subst f2
            exact O.tr (B.ok hg (by omega)) (B.ok hg (by omega)) (B.ok hg (by omega)) (a5 p (lo + x - 1) (by omega) (by omega) (by omega) (by omega)) q
          · exact a5 _ _ (by omega) (by omega) (by omega) (by omega)
end
end EvS

/-! EVENLOTS: the model's sort beyond 63 items, 7: a run is counted, a stretch is sorted by insertion, anywhere in the array. -/
namespace EvS
open PySem PyProof.Rows
section
variable {prog : Program} {w : World} {A : Around} {E : Value → Shared → Prop} {s : Shared} {kd : SortKind} {good : Keyed → Prop} {lt : Keyed → Keyed → Bool} {st : SortSt} {a₀ : Array Keyed} {lo nrem : Nat}
set_option maxHeartbeats 2000000 in
theorem wp_count {Q : Option Nat → SortSt → Prop} (C : Cmp prog w A E s kd good lt) (O : Ord good lt) (h : SB kd a₀ st) (hg : ∀ x ∈ a₀.toList, good x) (hs : lo + nrem ≤ a₀.size) (h1 : 1 ≤ nrem)
    (hQ : ∀ n st', SB kd a₀ st' → pendingOf st' = pendingOf st → 1 ≤ n → n ≤ nrem → Asc lt (arrOf st') lo n → Out lo (lo + nrem) (arrOf st) (arrOf st') → Q (some n) st') : wpS (model prog w) A E s (countRun' lo nrem) Q st := by
  rw [countRun'_eq]
  dsimp only
  have sz := h.size
  refine wpS_bind (wpS_mono (wpS_forRange (I := fun x c st' => st' = st ∧ c = (none, x) ∧ 1 ≤ x ∧ x ≤ nrem ∧ Asc lt (arrOf st) lo x)
    (Q := fun c st' => st' = st ∧ ∃ n, c = (none, n) ∧ 1 ≤ n ∧ n ≤ nrem ∧ Asc lt (arrOf st) lo n ∧ (n < nrem → lt (G (arrOf st) (lo + n)) (G (arrOf st) (lo + n - 1)) = true)) ?step ?fin ⟨rfl, rfl, Nat.le_refl _, h1, ?init⟩) ?post)
  case init =>
    intro i j a1 a2 a3
    have : i = j := by omega
    subst this
    exact O.rf (h.ok hg (by omega))
  case fin =>
    rintro c st' ⟨rfl, rfl, a1, a2, a3⟩
    exact ⟨rfl, _, rfl, a1, a2, a3, fun z => by omega⟩
  case step =>
    rintro x c st' h3 h4 ⟨rfl, rfl, a1, a2, a3⟩
    dsimp only
    refine wpS_bind (wp_ltAt C h hg (by omega) (by omega) ?_)
    cases q : lt (G (arrOf st') (lo + x)) (G (arrOf st') (lo + x - 1)) with
    | true =>
      simp only [if_true]
      exact wpS_pure ⟨rfl, x, rfl, a1, a2, a3, fun _ => q⟩
    | false =>
      simp only [Bool.false_eq_true, if_false]
      exact wpS_pure ⟨rfl, rfl, by omega, h4, a3.more O h hg a1 (by omega) q⟩
  case post =>
    rintro c st' ⟨rfl, n, rfl, a1, a2, a3, a4⟩
    dsimp only
    by_cases c1 : (n == nrem) = true
    · rw [if_pos c1]
      exact wpS_pure (hQ n _ h rfl a1 a2 a3 (Out.refl _))
    rw [if_neg c1]
    have hn : n < nrem := by
      have : ¬ n = nrem := fun z => c1 (by rw [z]; simp)
      omega
    have sm := a4 hn
    have sm' := O.tot (h.ok hg (by omega)) (h.ok hg (by omega)) sm
    by_cases c2 : n > 1
    · rw [if_pos c2]
      refine wpS_bind (wp_ltAt C h hg (by omega) (by omega) ?_)
      cases q : lt (G (arrOf st') lo) (G (arrOf st') (lo + n - 1)) with
      | true =>
        simp only [if_true]
        exact wpS_pure (hQ n _ h rfl a1 a2 a3 (Out.refl _))
      | false =>
        simp only [Bool.false_eq_true, if_false]
        rw [reverseSlice'_eq]
        refine wpS_bind (wpS_modify ?_)
        -- all of the stretch are alike
        have like : ∀ p q', lo ≤ p → p < lo + n → lo ≤ q' → q' < lo + n → LE lt (G (arrOf st') p) (G (arrOf st') q') := fun p q' b1 b2 b3 b4 =>
          O.tr (h.ok hg (by omega)) (h.ok hg (by omega)) (h.ok hg (by omega)) (a3 p (lo + n - 1) b1 (by omega) (by omega)) (O.tr (h.ok hg (by omega)) (h.ok hg (by omega)) (h.ok hg (by omega)) q (a3 lo q' (Nat.le_refl _) b3 b4))
        have d0 : Dsc lt (arrOf st') lo n := fun p q' b1 b2 b3 => like q' p (by omega) (by omega) b1 (by omega)
        have d1 : Dsc lt (arrOf st') lo (n + 1) := d0.more O h hg a1 (by omega) sm'
        have d2 := d1.same O (i := lo) (j := lo + n) (by omega) (h.gs hg) (Nat.le_refl _) (by omega) (by omega) fun p q' b1 b2 b3 b4 => like p q' b1 b2 b3 b4
        refine wp_dsc (st := setArr st' (mirror (arrOf st') lo (lo + n) ((lo + n - lo) / 2))) C O (h.put (mirror_perm _ _ _ _)) hg hs a1 hn d2 fun m st2 B p0 p1 p2 p3 p4 => hQ m st2 B p0 p1 p2 p3 ?_
        exact (mirror_out (hi := lo + nrem) (by omega) (Nat.le_refl _) (by omega)).trans p4
    · rw [if_neg c2]
      have e : n = 1 := by omega
      subst e
      have d0 : Dsc lt (arrOf st') lo 1 := fun p q' b1 b2 b3 => by
        have : p = q' := by omega
        subst this
        exact O.rf (h.ok hg (by omega))
      exact wp_dsc C O h hg hs (Nat.le_refl _) hn (d0.more O h hg (Nat.le_refl _) (by omega) sm') hQ

theorem G_bubble {xs : Array Keyed} {src d : Nat} (hs : src < xs.size) (hd : d ≤ src) (k : Nat) : G (bubble xs src d) k = if k = src - d then G xs src else if src - d < k ∧ k ≤ src then G xs (k - 1) else G xs k := by
  have e := getElem?_bubble hs d hd k
  by_cases h1 : k = src - d
  · rw [if_pos h1] at e ⊢; exact G_congr e
  · rw [if_neg h1] at e ⊢
    by_cases h2 : src - d < k ∧ k ≤ src
    · rw [if_pos h2] at e ⊢; exact G_congr e
    · rw [if_neg h2] at e ⊢; exact G_congr e
theorem bubble_out {xs : Array Keyed} {src d lo hi : Nat} (hs : src < xs.size) (hd : d ≤ src) (h1 : lo ≤ src - d) (h2 : src < hi) : Out lo hi xs (bubble xs src d) := fun k hk => by
  rw [getElem?_bubble hs d hd, if_neg (by omega), if_neg (by omega)]
set_option maxHeartbeats 2000000 in
theorem wp_bin {Q : Bool → SortSt → Prop} (C : Cmp prog w A E s kd good lt) (O : Ord good lt) (h : SB kd a₀ st) (hg : ∀ x ∈ a₀.toList, good x) {n ok : Nat} (hs : lo + n ≤ a₀.size) (h1 : 1 ≤ ok) (h2 : ok ≤ n) (ha : Asc lt (arrOf st) lo ok)
    (hQ : ∀ st', SB kd a₀ st' → pendingOf st' = pendingOf st → Asc lt (arrOf st') lo n → Out lo (lo + n) (arrOf st) (arrOf st') → Q true st') : wpS (model prog w) A E s (binarySort' lo n ok) Q st := by
  rw [binarySort'_eq]
  refine wpS_bind (wpS_mono (wpS_forRange (I := fun k c st' => c = (none, ()) ∧ SB kd a₀ st' ∧ pendingOf st' = pendingOf st ∧ Asc lt (arrOf st') lo k ∧ Out lo (lo + n) (arrOf st) (arrOf st'))
    (Q := fun c st' => c = (none, ()) ∧ SB kd a₀ st' ∧ pendingOf st' = pendingOf st ∧ Asc lt (arrOf st') lo n ∧ Out lo (lo + n) (arrOf st) (arrOf st')) ?step ?fin ?init) ?post)
  case post =>
    rintro c st' ⟨rfl, B, p0, a, ou⟩
    exact wpS_pure (hQ st' B p0 a ou)
  case init =>
    refine ⟨rfl, h, rfl, ?_, Out.refl _⟩
    rwa [show max ok 1 = ok by omega]
  case fin =>
    rintro c st' ⟨hc, B, p0, a, ou⟩
    refine ⟨hc, B, p0, ?_, ou⟩
    rwa [show max (max ok 1) n = n by omega] at a
  case step =>
    rintro k c st' hak hkn ⟨rfl, B, p0, a, ou⟩
    have sz := B.size
    refine wpS_bind (wpS_mono (wpS_forRange (I := fun x c st'' => st'' = st' ∧ ∃ l r, c = (none, l, r) ∧ l ≤ r ∧ r ≤ k ∧ r - l ≤ k - x ∧
        (∀ i, i < l → LE lt (G (arrOf st') (lo + i)) (G (arrOf st') (lo + k))) ∧ (∀ i, r ≤ i → i < k → LE lt (G (arrOf st') (lo + k)) (G (arrOf st') (lo + i))))
      (Q := fun c st'' => st'' = st' ∧ ∃ l r, c = (none, l, r) ∧ l ≤ k ∧
        (∀ i, i < l → LE lt (G (arrOf st') (lo + i)) (G (arrOf st') (lo + k))) ∧ (∀ i, l ≤ i → i < k → LE lt (G (arrOf st') (lo + k)) (G (arrOf st') (lo + i)))) ?istep ?ifin ?iinit) ?ipost)
    case iinit => exact ⟨rfl, 0, k, rfl, by omega, by omega, by omega, fun i hi => by omega, fun i b1 b2 => by omega⟩
    case ifin =>
      rintro c st'' ⟨rfl, l, r, rfl, b1, b2, b3, b4, b5⟩
      have : l = r := by omega
      subst this
      exact ⟨rfl, l, l, rfl, b2, b4, b5⟩
    case istep =>
      rintro x c st'' _ hxk ⟨rfl, l, r, rfl, b1, b2, b3, b4, b5⟩
      dsimp only
      by_cases hge : l ≥ r
      · rw [if_pos hge]
        have : l = r := by omega
        subst this
        exact wpS_pure ⟨rfl, l, l, rfl, b2, b4, b5⟩
      · rw [if_neg hge]
        refine wpS_bind (wp_ltAt C B hg (by omega) (by omega) ?_)
        cases q : lt (G (arrOf st'') (lo + k)) (G (arrOf st'') (lo + (l + r) / 2)) with
        | true =>
          simp only [if_true]
          have q' := O.tot (B.ok hg (by omega)) (B.ok hg (by omega)) q
          exact wpS_pure ⟨rfl, l, (l + r) / 2, rfl, by omega, by omega, by omega, b4, fun i c1 c2 => O.tr (B.ok hg (by omega)) (B.ok hg (by omega)) (B.ok hg (by omega)) q' (a _ _ (by omega) (by omega) (by omega))⟩
        | false =>
          simp only [Bool.false_eq_true, if_false]
          exact wpS_pure ⟨rfl, (l + r) / 2 + 1, r, rfl, by omega, by omega, by omega, fun i c1 => O.tr (B.ok hg (by omega)) (B.ok hg (by omega)) (B.ok hg (by omega)) (a (lo + i) (lo + (l + r) / 2) (by omega) (by omega) (by omega)) q, b5⟩
    case ipost =>
      rintro c st'' ⟨rfl, l, r, rfl, b1, b4, b5⟩
      show wpS _ _ _ _ (do moveDown' (lo + k) (lo + l); pure (ForInStep.yield (none, ()))) _ _
      rw [moveDown'_eq]
      have hks : lo + k < (arrOf st'').size := by omega
      refine wpS_bind (wpS_modify (wpS_pure ⟨rfl, B.put (bubble_perm _ _ _), p0, ?_, ou.trans (bubble_out hks (by omega) (by omega) (by omega))⟩))
      intro i j hi hij hj
      show LE lt (G (bubble (arrOf st'') (lo + k) (lo + k - (lo + l))) i) (G (bubble (arrOf st'') (lo + k) (lo + k - (lo + l))) j)
      rw [G_bubble hks (by omega), G_bubble hks (by omega), show lo + k - (lo + k - (lo + l)) = lo + l by omega]
      have e4 : ∀ m, lo ≤ m → m < lo + l → LE lt (G (arrOf st'') m) (G (arrOf st'') (lo + k)) := fun m m1 m2 => by
        have := b4 (m - lo) (by omega)
        rwa [show lo + (m - lo) = m by omega] at this
      have e5 : ∀ m, lo + l ≤ m → m < lo + k → LE lt (G (arrOf st'') (lo + k)) (G (arrOf st'') m) := fun m m1 m2 => by
        have := b5 (m - lo) (by omega) (by omega)
        rwa [show lo + (m - lo) = m by omega] at this
      repeat' split
      all_goals first
        | (exfalso; omega)
        | exact O.rf (B.ok hg (by omega))
        | exact e4 _ (by omega) (by omega)
        | exact e5 _ (by omega) (by omega)
        | exact a _ _ (by omega) (by omega) (by omega)
end
end EvS

/-! EVENLOTS: the model's sort beyond 63 items, 8: two neighbouring runs are merged. -/
namespace EvS
open PySem PyProof.Rows
set_option maxHeartbeats 2000000 in
theorem mAt_eq (i : Nat) : mergeAt' i = (do
  let s ← get
  let (some (sa, na, pw), some (sb, nb, _)) := ((pendingOf s)[i]?, (pendingOf s)[i + 1]?) | unsupported "internal:list.sort.pending"
  set (setPending s (((pendingOf s).setIfInBounds i (sa, na + nb, pw)).eraseIdxIfInBounds (i + 1)))
  let some k ← gal false (← elem' (arrOf s) sb) (arrOf s) sa na 0 | return false
  let (sa, na) := (sa + k, na - k)
  if na == 0 then return true
  let some nb ← gal true (← elem' (arrOf s) (sa + na - 1)) (arrOf s) sb nb (nb - 1) | return false
  if nb == 0 then return true
  let x := (arrOf s).extract sa sb
  let y := (arrOf s).extract sb (sb + nb)
  let m ← if na ≤ nb then mLo x y else mHi x y
  modify fun s => setArr s (m.toList.zipIdx.foldl (fun a (p, j) => a.setIfInBounds (sa + j) p) (arrOf s))
  return (failedOf (← get)).isNone) := rfl
theorem wr_get {f : Array Keyed → Keyed × Nat → Array Keyed} {o : Nat} (hf : ∀ a p j, f a (p, j) = a.setIfInBounds (o + j) p) : ∀ (m : List Keyed) (j0 : Nat) (xs : Array Keyed), o + j0 + m.length ≤ xs.size →
    ((m.zipIdx j0).foldl f xs).size = xs.size ∧ ∀ k, ((m.zipIdx j0).foldl f xs)[k]? = if o + j0 ≤ k ∧ k < o + j0 + m.length then m[k - (o + j0)]? else xs[k]?
  | [], j0, xs, _ => ⟨rfl, fun k => by rw [if_neg (by rw [List.length_nil]; omega)]; rfl⟩
  | x :: m, j0, xs, h => by
    rw [List.length_cons] at h
    have ih := wr_get hf m (j0 + 1) (f xs (x, j0)) (by rw [hf, Array.size_setIfInBounds]; omega)
    rw [List.zipIdx_cons, List.foldl_cons]
    refine ⟨by rw [ih.1, hf, Array.size_setIfInBounds], fun k => ?_⟩
    rw [ih.2 k, hf, List.length_cons]
    by_cases c : k = o + j0
    · subst c
      rw [if_neg (by omega), if_pos (by omega), Nat.sub_self, Array.getElem?_setIfInBounds_self_of_lt (by omega)]
      rfl
    · rw [Array.getElem?_setIfInBounds_ne (by omega)]
      by_cases c2 : o + (j0 + 1) ≤ k ∧ k < o + (j0 + 1) + m.length
      · rw [if_pos c2, if_pos (by omega), show k - (o + j0) = (k - (o + (j0 + 1))) + 1 by omega, List.getElem?_cons_succ]
      · rw [if_neg c2, if_neg (by omega)]
section
variable {prog : Program} {w : World} {A : Around} {E : Value → Shared → Prop} {s : Shared} {kd : SortKind} {good : Keyed → Prop} {lt : Keyed → Keyed → Bool} {st : SortSt} {a₀ : Array Keyed}
theorem G_list {xs : Array Keyed} {i : Nat} {x : Keyed} (h : xs.toList[i]? = some x) : G xs i = x := by
  unfold G
  rw [← Array.getElem?_toList, h]
  rfl
theorem list_G {xs : Array Keyed} {i : Nat} (h : i < xs.size) : xs.toList[i]? = some (G xs i) := by
  rw [Array.getElem?_toList]
  exact G_get h
/-- a stretch of a run, as a sorted list -/
theorem Asc.sl {lo n u v : Nat} {xs : Array Keyed} (hg : ∀ k, k < xs.size → good (G xs k)) (a : Asc lt xs lo n) (h1 : lo ≤ u) (h2 : v ≤ lo + n) (h3 : v ≤ xs.size) : SL good lt (xs.extract u v).toList := by
  have at_ : ∀ i x, (xs.extract u v).toList[i]? = some x → x = G xs (u + i) ∧ u + i < v := fun i x hx => by
    rw [ext_cut] at hx
    have hl := lt_len hx
    rw [List.length_take, List.length_drop, Array.length_toList] at hl
    rw [List.getElem?_take_of_lt (by omega), List.getElem?_drop] at hx
    exact ⟨(G_list hx).symm, by omega⟩
  refine ⟨fun x hx => ?_, List.pairwise_iff_getElem.mpr fun i j hi hj hij => ?_⟩
  · obtain ⟨i, hi⟩ := List.mem_iff_getElem?.mp hx
    obtain ⟨e, l⟩ := at_ i x hi
    rw [e]
    exact hg _ (by omega)
  · obtain ⟨e1, l1⟩ := at_ i _ (List.getElem?_eq_getElem hi)
    obtain ⟨e2, l2⟩ := at_ j _ (List.getElem?_eq_getElem hj)
    rw [e1, e2]
    exact a _ _ (by omega) (by omega) (by omega)
set_option maxHeartbeats 4000000 in
theorem wp_mAt {Q : Bool → SortSt → Prop} (C : Cmp prog w A E s kd good lt) (O : Ord good lt) (h : SB kd a₀ st) (hg : ∀ x ∈ a₀.toList, good x) {i s1 n1 p1 n2 p2 : Nat} (e1 : (pendingOf st)[i]? = some (s1, n1, p1)) (e2 : (pendingOf st)[i + 1]? = some (s1 + n1, n2, p2))
    (l1 : 1 ≤ n1) (l2 : 1 ≤ n2) (hs : s1 + n1 + n2 ≤ a₀.size) (a1 : Asc lt (arrOf st) s1 n1) (a2 : Asc lt (arrOf st) (s1 + n1) n2)
    (hQ : ∀ st', SB kd a₀ st' → pendingOf st' = ((pendingOf st).setIfInBounds i (s1, n1 + n2, p1)).eraseIdxIfInBounds (i + 1) → Asc lt (arrOf st') s1 (n1 + n2) → Out s1 (s1 + n1 + n2) (arrOf st) (arrOf st') → Q true st') :
    wpS (model prog w) A E s (mergeAt' i) Q st := by
  rw [mAt_eq]
  refine wpS_bind (wpS_get ?_)
  rw [e1, e2]
  dsimp only
  have sz := h.size
  have gs := h.gs hg
  refine wpS_bind (m := set _) ?_
  show wpS (model prog w) A E s (modify fun _ => setPending st (((pendingOf st).setIfInBounds i (s1, n1 + n2, p1)).eraseIdxIfInBounds (i + 1))) _ st
  refine wpS_modify ?_
  have B1 : SB kd a₀ (setPending st (((pendingOf st).setIfInBounds i (s1, n1 + n2, p1)).eraseIdxIfInBounds (i + 1))) := ⟨h.perm, h.kind, h.fail⟩
  refine wpS_bind (wp_elem (G_get (by omega)) (wpS_bind (wp_gal2 (xs := arrOf st) (bs := s1) (n := n1) (h := 0) C O B1.kind (gs _ (by omega)) (by omega) (fun i hi x hx => ?_) (fun i j x y hij hj hx hy => ?_) (by omega) fun k k1 k2 k3 => ?_)))
  · rw [← G_list hx]; exact gs _ (by omega)
  · rw [← G_list hx, ← G_list hy]; exact a1 _ _ (by omega) (by omega) (by omega)
  have k2' : ∀ m, s1 ≤ m → m < s1 + k → LE lt (G (arrOf st) m) (G (arrOf st) (s1 + n1)) := fun m m1 m2 => k2 (m - s1) _ (by omega) (by rw [show s1 + (m - s1) = m by omega]; exact list_G (by omega))
  have k3' : ∀ m, s1 + k ≤ m → m < s1 + n1 → LE lt (G (arrOf st) (s1 + n1)) (G (arrOf st) m) := fun m m1 m2 => k3 (m - s1) _ (by omega) (by omega) (by rw [show s1 + (m - s1) = m by omega]; exact list_G (by omega))
  dsimp only
  by_cases c1 : (n1 - k == 0) = true
  · rw [if_pos c1]
    have c1' : n1 - k = 0 := eq_of_beq c1
    refine wpS_pure (hQ _ B1 rfl (fun p q b1 b2 b3 => ?_) (Out.refl _))
    by_cases d1 : q < s1 + n1
    · exact a1 p q b1 b2 d1
    · by_cases d2 : p < s1 + n1
      · exact O.tr (gs _ (by omega)) (gs _ (by omega)) (gs _ (by omega)) (k2' p b1 (by omega)) (a2 _ q (Nat.le_refl _) (by omega) (by omega))
      · exact a2 p q (by omega) b2 (by omega)
  rw [if_neg c1]
  have c1' : k < n1 := by
    have : ¬ n1 - k = 0 := fun z => c1 (by rw [z]; rfl)
    omega
  rw [show s1 + k + (n1 - k) - 1 = s1 + n1 - 1 by omega]
  refine wpS_bind (wp_elem (G_get (by omega)) (wpS_bind (wp_gal2 (xs := arrOf st) (bs := s1 + n1) (n := n2) (h := n2 - 1) C O B1.kind (gs _ (by omega)) (by omega) (fun i hi x hx => ?_) (fun i j x y hij hj hx hy => ?_) (by omega) fun u j1 j2 j3 => ?_)))
  · rw [← G_list hx]; exact gs _ (by omega)
  · rw [← G_list hx, ← G_list hy]; exact a2 _ _ (by omega) (by omega) (by omega)
  have j2' : ∀ m, s1 + n1 ≤ m → m < s1 + n1 + u → LE lt (G (arrOf st) m) (G (arrOf st) (s1 + n1 - 1)) := fun m m1 m2 => j2 (m - (s1 + n1)) _ (by omega) (by rw [show s1 + n1 + (m - (s1 + n1)) = m by omega]; exact list_G (by omega))
  have j3' : ∀ m, s1 + n1 + u ≤ m → m < s1 + n1 + n2 → LE lt (G (arrOf st) (s1 + n1 - 1)) (G (arrOf st) m) := fun m m1 m2 => j3 (m - (s1 + n1)) _ (by omega) (by omega) (by rw [show s1 + n1 + (m - (s1 + n1)) = m by omega]; exact list_G (by omega))
  dsimp only
  by_cases c2 : (u == 0) = true
  · rw [if_pos c2]
    have c2' : u = 0 := eq_of_beq c2
    refine wpS_pure (hQ _ B1 rfl (fun p q b1 b2 b3 => ?_) (Out.refl _))
    by_cases d1 : q < s1 + n1
    · exact a1 p q b1 b2 d1
    · by_cases d2 : p < s1 + n1
      · exact O.tr (gs _ (by omega)) (gs _ (by omega)) (gs _ (by omega)) (a1 p (s1 + n1 - 1) b1 (by omega) (by omega)) (j3' q (by omega) (by omega))
      · exact a2 p q (by omega) b2 (by omega)
  rw [if_neg c2]
  have c2' : 0 < u := by
    have : ¬ u = 0 := fun z => c2 (by rw [z]; rfl)
    omega
  have sx : SL good lt ((arrOf st).extract (s1 + k) (s1 + n1)).toList := a1.sl gs (by omega) (by omega) (by omega)
  have sy : SL good lt ((arrOf st).extract (s1 + n1) (s1 + n1 + u)).toList := a2.sl gs (by omega) (by omega) (by omega)
  have zx : ((arrOf st).extract (s1 + k) (s1 + n1)).size = n1 - k := by rw [Array.size_extract]; omega
  have zy : ((arrOf st).extract (s1 + n1) (s1 + n1 + u)).size = u := by rw [Array.size_extract]; omega
  have gx : ∀ i x, ((arrOf st).extract (s1 + k) (s1 + n1)).toList[i]? = some x → x = G (arrOf st) (s1 + k + i) ∧ s1 + k + i < s1 + n1 := fun i x hx => by
    have hl := lt_len hx
    rw [Array.length_toList, zx] at hl
    rw [ext_cut, List.getElem?_take_of_lt (by omega), List.getElem?_drop] at hx
    exact ⟨(G_list hx).symm, by omega⟩
  have gy : ∀ i x, ((arrOf st).extract (s1 + n1) (s1 + n1 + u)).toList[i]? = some x → x = G (arrOf st) (s1 + n1 + i) ∧ i < u := fun i x hx => by
    have hl := lt_len hx
    rw [Array.length_toList, zy] at hl
    rw [ext_cut, List.getElem?_take_of_lt (by omega), List.getElem?_drop] at hx
    exact ⟨(G_list hx).symm, hl⟩
  -- what comes behind the merge
  have fin : ∀ (m : Array Keyed) (st2 : SortSt), SG (setPending st (((pendingOf st).setIfInBounds i (s1, n1 + n2, p1)).eraseIdxIfInBounds (i + 1))) st2 →
      Good lt ((arrOf st).extract (s1 + k) (s1 + n1)).toList ((arrOf st).extract (s1 + n1) (s1 + n1 + u)).toList m.toList →
      wpS (model prog w) A E s (do
        modify fun s => setArr s (m.toList.zipIdx.foldl (fun a (p, j) => a.setIfInBounds (s1 + k + j) p) (arrOf s))
        return (failedOf (← get)).isNone) Q st2 := fun m st2 g gd => by
    refine wpS_bind (wpS_modify (wpS_bind (wpS_get (wpS_pure ?_))))
    have hm : m.toList.length = (n1 - k) + u := by
      have := gd.1.length_eq
      rw [List.length_append] at this
      simp only [Array.length_toList, zx, zy] at this ⊢
      exact this
    have garr : arrOf st2 = arrOf st := g.arr
    obtain ⟨w1, w2⟩ := wr_get (f := fun a (p, j) => a.setIfInBounds (s1 + k + j) p) (o := s1 + k) (fun _ _ _ => rfl) m.toList 0 (arrOf st2) (by rw [garr, hm]; omega)
    rw [garr] at w1 w2
    simp only [Nat.add_zero] at w2
    have hf : (failedOf (setArr st2 (m.toList.zipIdx.foldl (fun a (p, j) => a.setIfInBounds (s1 + k + j) p) (arrOf st2)))).isNone = true := by
      show (failedOf st2).isNone = true
      rw [g.fail]
      show (failedOf st).isNone = true
      rw [h.fail]
      rfl
    rw [hf]
    have elist : (m.toList.zipIdx.foldl (fun a (p, j) => a.setIfInBounds (s1 + k + j) p) (arrOf st)).toList = (arrOf st).toList.take (s1 + k) ++ (m.toList ++ (arrOf st).toList.drop (s1 + n1 + u)) := by
      refine List.ext_getElem? fun j => ?_
      rw [Array.getElem?_toList, w2 j]
      have ht : ((arrOf st).toList.take (s1 + k)).length = s1 + k := by rw [List.length_take, Array.length_toList]; omega
      by_cases d1 : j < s1 + k
      · rw [if_neg (by omega), List.getElem?_append_left (by omega), List.getElem?_take_of_lt d1, Array.getElem?_toList]
      · rw [List.getElem?_append_right (by omega), ht]
        by_cases d2 : j < s1 + k + m.toList.length
        · rw [if_pos (by omega), List.getElem?_append_left (by omega)]
        · rw [if_neg (by omega), List.getElem?_append_right (by omega), List.getElem?_drop, Array.getElem?_toList]
          congr 1
          omega
    have orig : (arrOf st).toList = (arrOf st).toList.take (s1 + k) ++ ((((arrOf st).extract (s1 + k) (s1 + n1)).toList ++ ((arrOf st).extract (s1 + n1) (s1 + n1 + u)).toList) ++ (arrOf st).toList.drop (s1 + n1 + u)) := by
      refine List.ext_getElem? fun j => ?_
      have ht : ((arrOf st).toList.take (s1 + k)).length = s1 + k := by rw [List.length_take, Array.length_toList]; omega
      by_cases d1 : j < s1 + k
      · rw [List.getElem?_append_left (by omega), List.getElem?_take_of_lt d1]
      · rw [List.getElem?_append_right (by omega), ht, List.append_assoc]
        by_cases d2 : j < s1 + n1
        · rw [List.getElem?_append_left (by rw [Array.length_toList, zx]; omega), ext_cut, List.getElem?_take_of_lt (by omega), List.getElem?_drop]
          congr 1
          omega
        · rw [List.getElem?_append_right (by rw [Array.length_toList, zx]; omega), Array.length_toList, zx]
          by_cases d3 : j < s1 + n1 + u
          · rw [List.getElem?_append_left (by rw [Array.length_toList, zy]; omega), ext_cut, List.getElem?_take_of_lt (by omega), List.getElem?_drop]
            congr 1
            omega
          · rw [List.getElem?_append_right (by rw [Array.length_toList, zy]; omega), Array.length_toList, zy, List.getElem?_drop]
            congr 1
            omega
    have hp : (m.toList.zipIdx.foldl (fun a (p, j) => a.setIfInBounds (s1 + k + j) p) (arrOf st)).Perm (arrOf st) := by
      refine Array.perm_iff_toList_perm.mpr ?_
      rw [elist]
      exact List.Perm.trans (List.Perm.append_left _ (List.Perm.append_right _ gd.1)) (List.Perm.of_eq orig.symm)
    have nw : arrOf (setArr st2 (m.toList.zipIdx.foldl (fun a (p, j) => a.setIfInBounds (s1 + k + j) p) (arrOf st2))) = m.toList.zipIdx.foldl (fun a (p, j) => a.setIfInBounds (s1 + k + j) p) (arrOf st) := by rw [garr]
    refine hQ _ ⟨?_, g.kind.trans h.kind, g.fail.trans h.fail⟩ g.pend ?_ ?_
    · rw [nw]
      exact hp.trans h.perm
    · rw [nw]
      -- the whole is sorted
      have gm : ∀ j, s1 + k ≤ j → j < s1 + n1 + u → ∃ z, m.toList[j - (s1 + k)]? = some z ∧ G (m.toList.zipIdx.foldl (fun a (p, j) => a.setIfInBounds (s1 + k + j) p) (arrOf st)) j = z ∧ z ∈ m.toList := fun j b1 b2 => by
        have e : m.toList[j - (s1 + k)]? = some m.toList[j - (s1 + k)] := List.getElem?_eq_getElem (by omega)
        refine ⟨_, e, ?_, List.mem_of_getElem? e⟩
        unfold G
        rw [w2 j, if_pos (by omega), e]
        rfl
      have go : ∀ j, (j < s1 + k ∨ s1 + n1 + u ≤ j) → G (m.toList.zipIdx.foldl (fun a (p, j) => a.setIfInBounds (s1 + k + j) p) (arrOf st)) j = G (arrOf st) j := fun j b => G_congr (by rw [w2 j, if_neg (by omega)])
      have mem : ∀ z ∈ m.toList, good z ∧ (∀ j, s1 ≤ j → j < s1 + k → LE lt (G (arrOf st) j) z) ∧ ∀ j, s1 + n1 + u ≤ j → j < s1 + n1 + n2 → LE lt z (G (arrOf st) j) := fun z hz => by
        rcases List.mem_append.mp (gd.1.mem_iff.mp hz) with hz | hz
        · obtain ⟨i', hi'⟩ := List.mem_iff_getElem?.mp hz
          obtain ⟨rfl, l⟩ := gx i' z hi'
          refine ⟨gs _ (by omega), fun j b1 b2 => a1 _ _ b1 (by omega) (by omega), fun j b1 b2 => ?_⟩
          exact O.tr (gs _ (by omega)) (gs _ (by omega)) (gs _ (by omega)) (a1 _ (s1 + n1 - 1) (by omega) (by omega) (by omega)) (j3' j b1 b2)
        · obtain ⟨i', hi'⟩ := List.mem_iff_getElem?.mp hz
          obtain ⟨rfl, l⟩ := gy i' z hi'
          refine ⟨gs _ (by omega), fun j b1 b2 => ?_, fun j b1 b2 => a2 _ _ (by omega) (by omega) (by omega)⟩
          exact O.tr (gs _ (by omega)) (gs _ (by omega)) (gs _ (by omega)) (k2' j b1 b2) (a2 _ _ (Nat.le_refl _) (by omega) (by omega))
      intro p q b1 b2 b3
      by_cases d1 : p < s1 + k
      · rw [go p (.inl d1)]
        by_cases d2 : q < s1 + k
        · rw [go q (.inl d2)]; exact a1 _ _ b1 b2 (by omega)
        by_cases d3 : q < s1 + n1 + u
        · obtain ⟨z, _, e, hz⟩ := gm q (by omega) d3
          rw [e]; exact (mem z hz).2.1 p b1 d1
        · rw [go q (.inr (by omega))]
          exact O.tr (gs _ (by omega)) (gs _ (by omega)) (gs _ (by omega)) (k2' p b1 d1) (a2 _ _ (Nat.le_refl _) (by omega) (by omega))
      by_cases d3 : p < s1 + n1 + u
      · obtain ⟨z, ez, e, hz⟩ := gm p (by omega) d3
        rw [e]
        by_cases d4 : q < s1 + n1 + u
        · obtain ⟨z', ez', e', hz'⟩ := gm q (by omega) d4
          rw [e']
          by_cases d5 : p = q
          · subst d5
            rw [ez] at ez'
            cases ez'
            exact O.rf (mem z hz).1
          · obtain ⟨h1', q1⟩ := List.getElem?_eq_some_iff.mp ez
            obtain ⟨h2', q2⟩ := List.getElem?_eq_some_iff.mp ez'
            rw [← q1, ← q2]
            exact List.pairwise_iff_getElem.mp gd.2 _ _ h1' h2' (by omega)
        · rw [go q (.inr (by omega))]
          exact (mem z hz).2.2 q (by omega) (by omega)
      · rw [go p (.inr (by omega)), go q (.inr (by omega))]
        exact a2 _ _ (by omega) b2 (by omega)
    · intro j hj
      rw [nw, w2 j, if_neg (by omega)]
  have h1' : ∀ x, ((arrOf st).extract (s1 + k) (s1 + n1)).toList[((arrOf st).extract (s1 + k) (s1 + n1)).size - 1]? = some x → ∀ y ∈ ((arrOf st).extract (s1 + n1) (s1 + n1 + u)).toList, LE lt y x := fun x hx y hy => by
    obtain ⟨rfl, l⟩ := gx _ x hx
    obtain ⟨i', hi'⟩ := List.mem_iff_getElem?.mp hy
    obtain ⟨rfl, l'⟩ := gy i' y hi'
    rw [zx, show s1 + k + (n1 - k - 1) = s1 + n1 - 1 by omega]
    exact j2' _ (by omega) (by omega)
  have h0' : ∀ y, ((arrOf st).extract (s1 + n1) (s1 + n1 + u)).toList[0]? = some y → ∀ x ∈ ((arrOf st).extract (s1 + k) (s1 + n1)).toList, LE lt y x := fun y hy x hx => by
    obtain ⟨rfl, l⟩ := gy _ y hy
    obtain ⟨i', hi'⟩ := List.mem_iff_getElem?.mp hx
    obtain ⟨rfl, l'⟩ := gx i' x hi'
    exact k3' _ (by omega) (by omega)
  by_cases c3 : n1 - k ≤ u
  · rw [if_pos c3]
    exact wpS_bind (wp_mLo C O B1.kind sx sy (by omega) (by omega) (fun x y hx hy => h0' y hy x (List.mem_of_getElem? hx)) h1' fun r st' g gd => fin r st' g gd)
  · rw [if_neg c3]
    exact wpS_bind (wp_mHi C O B1.kind sx sy (by omega) (by omega) h0' h1' fun r st' g gd => fin r st' g gd)
end
end EvS

/-! EVENLOTS: the model's sort beyond 63 items, 9: runs are found and merged until one is left. -/
namespace EvS
open PySem PyProof.Rows
/-- the pending runs lie one behind the other from s to e, each sorted -/
def Ch (lt : Keyed → Keyed → Bool) (xs : Array Keyed) : Nat → List (Nat × Nat × Nat) → Nat → Prop
  | s, [], e => s = e
  | s, (t, n, _) :: r, e => t = s ∧ 1 ≤ n ∧ Asc lt xs s n ∧ Ch lt xs (s + n) r e
section
variable {lt : Keyed → Keyed → Bool} {xs ys : Array Keyed}
theorem Ch.app : ∀ {P R : List (Nat × Nat × Nat)} {s e : Nat}, Ch lt xs s (P ++ R) e → ∃ m, Ch lt xs s P m ∧ Ch lt xs m R e
  | [], _, s, _, h => ⟨s, rfl, h⟩
  | (t, n, p) :: P, R, s, e, h => by
    obtain ⟨h1, h2, h3, h4⟩ := h
    obtain ⟨m, a, b⟩ := Ch.app (P := P) h4
    exact ⟨m, ⟨h1, h2, h3, a⟩, b⟩
theorem Ch.join : ∀ {P R : List (Nat × Nat × Nat)} {s m e : Nat}, Ch lt xs s P m → Ch lt xs m R e → Ch lt xs s (P ++ R) e
  | [], _, s, m, _, h, k => by
    have h' : s = m := h
    subst h'
    exact k
  | (t, n, p) :: P, R, s, m, e, h, k => by
    obtain ⟨h1, h2, h3, h4⟩ := h
    exact ⟨h1, h2, h3, Ch.join (P := P) h4 k⟩
theorem Ch.le : ∀ {P : List (Nat × Nat × Nat)} {s e : Nat}, Ch lt xs s P e → s + P.length ≤ e
  | [], s, e, h => by
    have h' : s = e := h
    simp [h']
  | (t, n, p) :: P, s, e, h => by
    obtain ⟨h1, h2, h3, h4⟩ := h
    have := Ch.le (P := P) h4
    rw [List.length_cons]
    omega
theorem Asc.keep {lo n : Nat} (a : Asc lt xs lo n) (h : ∀ k, lo ≤ k → k < lo + n → G ys k = G xs k) : Asc lt ys lo n := fun i j h1 h2 h3 => by
  rw [h i h1 (by omega), h j (by omega) h3]
  exact a i j h1 h2 h3
theorem Ch.keep : ∀ {P : List (Nat × Nat × Nat)} {s e : Nat}, Ch lt xs s P e → (∀ k, s ≤ k → k < e → G ys k = G xs k) → Ch lt ys s P e
  | [], _, _, h, _ => h
  | (t, n, p) :: P, s, e, h, k => by
    obtain ⟨h1, h2, h3, h4⟩ := h
    have := Ch.le h4
    exact ⟨h1, h2, h3.keep fun i a b => k i a (by omega), Ch.keep (P := P) h4 fun i a b => k i (by omega) b⟩
end
theorem set_erase {α : Type} (a b x : α) (l2 : List α) : ∀ l1 : List α, ((l1 ++ a :: b :: l2).set l1.length x).eraseIdx (l1.length + 1) = l1 ++ x :: l2
  | [] => rfl
  | c :: l1 => by
    show c :: (((l1 ++ a :: b :: l2).set l1.length x).eraseIdx (l1.length + 1)) = c :: (l1 ++ x :: l2)
    rw [set_erase a b x l2 l1]
section
variable {prog : Program} {w : World} {A : Around} {E : Value → Shared → Prop} {s : Shared} {kd : SortKind} {good : Keyed → Prop} {lt : Keyed → Keyed → Bool} {st : SortSt} {a₀ : Array Keyed}
theorem wp_mAt2 {Q : Bool → SortSt → Prop} (C : Cmp prog w A E s kd good lt) (O : Ord good lt) (h : SB kd a₀ st) (hg : ∀ x ∈ a₀.toList, good x) {i e : Nat} (hc : Ch lt (arrOf st) 0 (pendingOf st).toList e) (he : e ≤ a₀.size) (hi : i + 1 < (pendingOf st).size)
    (hQ : ∀ st', SB kd a₀ st' → Ch lt (arrOf st') 0 (pendingOf st').toList e → (pendingOf st').size + 1 = (pendingOf st).size → (∀ k, e ≤ k → G (arrOf st') k = G (arrOf st) k) → Q true st') : wpS (model prog w) A E s (mergeAt' i) Q st := by
  obtain ⟨x, d1⟩ : ∃ x, (pendingOf st).toList[i]? = some x := ⟨_, List.getElem?_eq_getElem (by rw [Array.length_toList]; omega)⟩
  obtain ⟨y, d2⟩ : ∃ x, (pendingOf st).toList[i + 1]? = some x := ⟨_, List.getElem?_eq_getElem (by rw [Array.length_toList]; omega)⟩
  have split : (pendingOf st).toList = (pendingOf st).toList.take i ++ x :: y :: (pendingOf st).toList.drop (i + 2) := by
    obtain ⟨g1, e1⟩ := List.getElem?_eq_some_iff.mp d1
    obtain ⟨g2, e2⟩ := List.getElem?_eq_some_iff.mp d2
    rw [← e1, ← e2, ← List.drop_eq_getElem_cons g2, ← List.drop_eq_getElem_cons g1, List.take_append_drop]
  have lt1 : ((pendingOf st).toList.take i).length = i := by rw [List.length_take, Array.length_toList]; omega
  obtain ⟨s1, n1, p1⟩ := x
  obtain ⟨s2, n2, p2⟩ := y
  have hc' := hc
  rw [split] at hc'
  obtain ⟨m, c1, c2⟩ := Ch.app hc'
  obtain ⟨rfl, l1, a1, rfl, l2, a2, c3⟩ := c2
  have hle := Ch.le c3
  refine wp_mAt C O h hg (by rw [← Array.getElem?_toList]; exact d1) (by rw [← Array.getElem?_toList]; exact d2) l1 l2 (by omega) a1 a2 fun st' B pe as ou => ?_
  have ep : (pendingOf st').toList = (pendingOf st).toList.take i ++ (s1, n1 + n2, p1) :: (pendingOf st).toList.drop (i + 2) := by
    rw [pe, Array.toList_eraseIdxIfInBounds, Array.toList_setIfInBounds]
    have q := set_erase (s1, n1, p1) (s1 + n1, n2, p2) (s1, n1 + n2, p1) ((pendingOf st).toList.drop (i + 2)) ((pendingOf st).toList.take i)
    rw [← split, lt1] at q
    exact q
  refine hQ st' B ?_ ?_ fun k hk => G_congr (ou k (.inr (by omega)))
  · rw [ep]
    have hm := Ch.le c1
    refine Ch.join (m := s1) (c1.keep fun k b1 b2 => G_congr (ou k (.inl b2))) ⟨rfl, by omega, as, ?_⟩
    rw [← Nat.add_assoc]
    exact c3.keep fun k b1 b2 => G_congr (ou k (.inr b1))
  · have z1 := congrArg List.length ep
    have z2 := congrArg List.length split
    rw [List.length_append, List.length_cons] at z1 z2
    rw [List.length_cons] at z2
    rw [Array.length_toList] at z1 z2
    omega

theorem Ch.last {xs : Array Keyed} {P : List (Nat × Nat × Nat)} {e : Nat} {f : Nat × Nat × Nat → Nat × Nat × Nat} (hf : ∀ t n p, ∃ q, f (t, n, p) = (t, n, q)) : ∀ {s : Nat} (i : Nat), Ch lt xs s P e → Ch lt xs s (P.modify i f) e := by
  induction P with
  | nil => intro s i h; cases i <;> exact h
  | cons x P ih =>
    intro s i h
    obtain ⟨t, n, p⟩ := x
    obtain ⟨h1, h2, h3, h4⟩ := h
    cases i with
    | zero =>
      obtain ⟨q, e⟩ := hf t n p
      show Ch lt xs s (f (t, n, p) :: P) _
      rw [e]
      exact ⟨h1, h2, h3, h4⟩
    | succ i => exact ⟨h1, h2, h3, ih i h4⟩
set_option maxHeartbeats 4000000 in
/-- the whole: what was there, sorted -/
theorem wp_runs {Q : Unit → SortSt → Prop} (C : Cmp prog w A E s kd good lt) (O : Ord good lt) (h : SB kd a₀ st) (hp : pendingOf st = #[]) (hg : ∀ x ∈ a₀.toList, good x) (h2 : 2 ≤ a₀.size)
    (hQ : ∀ st', SB kd a₀ st' → Asc lt (arrOf st') 0 a₀.size → Q () st') : wpS (model prog w) A E s sortRuns' Q st := by
  rw [sortRuns'_eq]
  refine wpS_bind (wpS_get ?_)
  dsimp only
  have sz := h.size
  rw [sz]
  generalize minRun' a₀.size a₀.size 0 = mr
  refine wpS_bind (wpS_mono (wpS_forRange
    (I := fun x c st' => ∃ lo, c = (none, lo) ∧ x ≤ lo ∧ lo ≤ a₀.size ∧ SB kd a₀ st' ∧ Ch lt (arrOf st') 0 (pendingOf st').toList lo)
    (Q := fun c st' => ∃ lo, c = (none, lo) ∧ lo = a₀.size ∧ SB kd a₀ st' ∧ Ch lt (arrOf st') 0 (pendingOf st').toList lo) ?step ?fin ⟨0, rfl, Nat.le_refl _, Nat.zero_le _, h, by rw [hp]; rfl⟩) ?post)
  case fin =>
    rintro c st' ⟨lo, rfl, a1, a2, B, hc⟩
    exact ⟨lo, rfl, by omega, B, hc⟩
  case step =>
    rintro x c st1 _ hx ⟨lo, rfl, a1, a2, B, hc⟩
    dsimp only
    by_cases c1 : lo ≥ a₀.size
    · rw [if_pos c1]
      exact wpS_pure ⟨lo, rfl, by omega, B, hc⟩
    rw [if_neg c1]
    -- behind the new run: pushed, older ones merged first
    refine wpS_bind (wp_count C O B hg (by omega) (by omega) fun n st2 B2 p0 q1 q2 q3 q4 => ?_)
    have hc2 : Ch lt (arrOf st2) 0 (pendingOf st2).toList lo := by
      rw [p0]
      exact hc.keep fun k _ b2 => G_congr (q4 k (.inl b2))
    dsimp only
    have rest : ∀ (n : Nat) (st3 : SortSt), SB kd a₀ st3 → Ch lt (arrOf st3) 0 (pendingOf st3).toList lo → 1 ≤ n → lo + n ≤ a₀.size → Asc lt (arrOf st3) lo n →
        (∃ lo', (none, lo + n) = ((none, lo') : Option Unit × Nat) ∧ x + 1 ≤ lo' ∧ lo' ≤ a₀.size ∧ SB kd a₀ (setPending st3 ((pendingOf st3).push (lo, n, 0))) ∧ Ch lt (arrOf st3) 0 ((pendingOf st3).push (lo, n, 0)).toList lo') := fun n st3 B3 hc3 r1 r2 r3 => by
      refine ⟨lo + n, rfl, by omega, r2, ⟨B3.perm, B3.kind, B3.fail⟩, ?_⟩
      rw [Array.toList_push]
      exact Ch.join hc3 ⟨rfl, r1, r3, rfl⟩
    by_cases c2 : n < mr
    case' pos =>
      rw [if_pos c2]
      refine wpS_bind (wpS_lift (wpAny_rule ⟨rfl, ?_⟩))
      refine wpS_bind (wp_bin (n := min (a₀.size - lo) mr) C O B2 hg (by omega) q1 (by omega) q3 fun st2 B2 p3 q3 ou => ?_)
      simp only [Bool.not_true, Bool.false_eq_true, if_false]
      replace hc2 : Ch lt (arrOf st2) 0 (pendingOf st2).toList lo := by
        rw [p3]
        exact hc2.keep fun k _ b => G_congr (ou k (.inl b))
      have q1 : 1 ≤ min (a₀.size - lo) mr := by omega
      have q2' : lo + min (a₀.size - lo) mr ≤ a₀.size := by omega
      clear ou
      revert q3 q1 q2'
      generalize min (a₀.size - lo) mr = n
      intro q3 q1 q2'
    case' neg =>
      rw [if_neg c2]
      have q2' : lo + n ≤ a₀.size := by omega
    all_goals
      refine wpS_bind (wpS_get ?_)
      cases eb : (pendingOf st2).back? with
      | none =>
        dsimp only
        exact wpS_bind (wpS_modify (wpS_pure (rest n st2 B2 hc2 q1 q2' q3)))
      | some y =>
        obtain ⟨s1, n1, pz⟩ := y
        dsimp only
        generalize power' a₀.size (2 * s1 + n1) (2 * s1 + n1 + n1 + n) a₀.size = pw
        refine wpS_bind (wpS_mono (wpS_forRange
          (I := fun _ c st3 => c = (none, ()) ∧ SB kd a₀ st3 ∧ Ch lt (arrOf st3) 0 (pendingOf st3).toList lo ∧ Asc lt (arrOf st3) lo n)
          (Q := fun c st3 => c = (none, ()) ∧ SB kd a₀ st3 ∧ Ch lt (arrOf st3) 0 (pendingOf st3).toList lo ∧ Asc lt (arrOf st3) lo n) ?istep ?ifin ⟨rfl, B2, hc2, q3⟩) ?ipost)
        case ifin => exact fun c st3 z => z
        case ipost =>
          rintro c st3 ⟨rfl, B3, hc3, as3⟩
          refine wpS_bind (wpS_modify (wpS_bind (wpS_modify (wpS_pure ?_))))
          refine rest n (setPending st3 ((pendingOf st3).modify ((pendingOf st3).size - 1) fun x => (x.fst, x.2.fst, pw))) ⟨B3.perm, B3.kind, B3.fail⟩ ?_ q1 q2' as3
          show Ch lt (arrOf st3) 0 ((pendingOf st3).modify ((pendingOf st3).size - 1) fun x => (x.fst, x.2.fst, pw)).toList lo
          rw [Array.toList_modify]
          exact Ch.last (fun t n p => ⟨_, rfl⟩) _ hc3
        case istep =>
          rintro z c st3 _ hz ⟨rfl, B3, hc3, as3⟩
          refine wpS_bind (wpS_get ?_)
          by_cases c3 : (pendingOf st3).size > 1
          · rw [if_pos c3]
            have e3 : (pendingOf st3)[(pendingOf st3).size - 2]? = some (pendingOf st3)[(pendingOf st3).size - 2] := Array.getElem?_eq_getElem (by omega)
            rw [e3]
            generalize (pendingOf st3)[(pendingOf st3).size - 2] = y3
            obtain ⟨t3, n3, p3'⟩ := y3
            dsimp only
            by_cases c4 : p3' ≤ pw
            · rw [if_pos c4]
              exact wpS_pure ⟨rfl, B3, hc3, as3⟩
            · rw [if_neg c4]
              refine wpS_bind (wp_mAt2 C O B3 hg hc3 a2 (by omega) fun st4 B4 hc4 _ kp => ?_)
              simp only [Bool.not_true, Bool.false_eq_true, if_false]
              exact wpS_pure ⟨rfl, B4, hc4, as3.keep fun k b1 _ => kp k b1⟩
          · rw [if_neg c3]
            exact wpS_pure ⟨rfl, B3, hc3, as3⟩
  case post =>
    rintro c st' ⟨lo, rfl, rfl, B, hc⟩
    dsimp only
    have hl := Ch.le hc
    rw [Array.length_toList] at hl
    refine wpS_bind (wpS_mono (wpS_forRange
      (I := fun x c st'' => c = (none, ()) ∧ SB kd a₀ st'' ∧ Ch lt (arrOf st'') 0 (pendingOf st'').toList a₀.size ∧ (pendingOf st'').size + x ≤ a₀.size)
      (Q := fun c st'' => c = (none, ()) ∧ SB kd a₀ st'' ∧ Ch lt (arrOf st'') 0 (pendingOf st'').toList a₀.size ∧ (pendingOf st'').size ≤ 1) ?step ?fin ⟨rfl, B, hc, by omega⟩) ?post)
    case fin =>
      rintro c st'' ⟨rfl, B', hc', l'⟩
      exact ⟨rfl, B', hc', by omega⟩
    case post =>
      rintro c st'' ⟨rfl, B', hc', l'⟩
      refine wpS_pure (hQ st'' B' ?_)
      cases e : (pendingOf st'').toList with
      | nil =>
        rw [e] at hc'
        have z : 0 = a₀.size := hc'
        omega
      | cons y r =>
        have hr : r = [] := by
          have z := congrArg List.length e
          rw [Array.length_toList, List.length_cons] at z
          cases r with
          | nil => rfl
          | cons _ _ => rw [List.length_cons] at z; omega
        subst hr
        obtain ⟨t, n, p⟩ := y
        rw [e] at hc'
        obtain ⟨_, _, b3, b4⟩ := hc'
        have z : 0 + n = a₀.size := b4
        rw [← z, Nat.zero_add]
        exact b3
    case step =>
      rintro x c st'' _ hx ⟨rfl, B', hc', l'⟩
      refine wpS_bind (wpS_get ?_)
      by_cases c1 : (pendingOf st'').size ≤ 1
      · rw [if_pos c1]
        exact wpS_pure ⟨rfl, B', hc', c1⟩
      · rw [if_neg c1]
        refine wpS_bind (wp_mAt2 C O B' hg hc' (Nat.le_refl _) ?_ fun st3 B3 hc3 l3 _ => ?_)
        · have hidx : ∀ c : Bool, (if c = true then (pendingOf st'').size - 2 - 1 else (pendingOf st'').size - 2) + 1 < (pendingOf st'').size := fun c => by
            cases c with
            | true => rw [if_pos rfl]; omega
            | false => rw [if_neg Bool.false_ne_true]; omega
          exact hidx _
        · simp only [Bool.not_true, Bool.false_eq_true, if_false]
          exact wpS_pure ⟨rfl, B3, hc3, by omega⟩
end
end EvS

/-! EVENLOTS: the model's sort beyond 63 items, 10: sorted(..) of a list of ints, of whatever length. -/
namespace EvS
open PySem PyProof.Rows
section
variable {prog : Program} {w : World} {A : Around} {E : Value → Shared → Prop} {s : Shared}
def gInt (x : Keyed) : Prop := ∃ n t, x.1 = Value.int n t
def lInt (x y : Keyed) : Bool := decide (numOf x.1 < numOf y.1)
theorem cmp_int : Cmp prog w A E s oneType' gInt lInt where
  run := fun {st x y Q} hk gx gy hq => by
    obtain ⟨n, t, e1⟩ := gx
    obtain ⟨m, u, e2⟩ := gy
    unfold lInt at hq
    rw [e1, e2] at hq
    rw [lt'_eq]
    refine wpS_bind (wpS_get ?_)
    rw [hk, keyLt'_oneType, e1, e2]
    exact wpS_bind (wpS_lift (wpAny_attempt (oneLt_int ⟨rfl, wpS_pure hq⟩)))
theorem ord_int : Ord gInt lInt where
  tr := fun {x y z} _ _ _ h1 h2 => by
    unfold lInt at *
    rw [decide_eq_false_iff_not] at *
    omega
  tot := fun {x y} _ _ h => by
    unfold lInt at *
    rw [decide_eq_true_iff] at h
    rw [decide_eq_false_iff_not]
    omega
theorem K_G (xs : Array Keyed) (i : Nat) : K xs i = numOf (G xs i).1 := by
  unfold K G
  cases xs[i]? with
  | none => rfl
  | some p => rfl
theorem sort_tree {a : Addr} {vs : List Value} {ns : List Int} {n : Nat} {P : Fin → Shared → Prop} (ho : s.heap.get? a = some (seqObj "list" vs.toArray n)) (hI : IntsAre vs ns) (hz : vs.length ≤ sizeLine)
    (hP : ∀ (out : Array Value) (ms : List Int), IntsAre out.toList ms → ms.Perm ns → ms.Pairwise (· ≤ ·) → P (.done (.ret .none)) { s with heap := sortedHeap s.heap a vs out }) : wpAny (model prog w) A (Builtin.«list.sort» ⟨[.ref a], []⟩) P E s := by
  rw [list_sort_plain]
  have la : a < s.heap.objs.size := Heap.lt_size ho
  refine wpAny_bind (listItems_at ho rfl (wpAny_bind (listUpdate_at ho rfl ?_ (by rw [List.size_toArray]; exact hz))))
  obtain ⟨c1, o1⟩ : ∃ c1, (s.heap.update a (Obj.mapSeq fun _ => #[])).get? a = some (seqObj "list" #[] c1) := ⟨_, get?_update_seq ho (fun _ => #[])⟩
  refine wpAny_bind (seqEpoch_at o1 rfl (wpAny_bind (wpAny_newTuple (wpAny_bind (wpAny_newList (wpAny_holding ?_))))))
  have o6 : (((s.heap.update a (Obj.mapSeq fun _ => #[])).push (seqObj "tuple" vs.toArray 0)).push (seqObj "list" #[] 0)).get? a = some (seqObj "list" #[] c1) := by
    rw [Heap.get?_push_ne _ _ _ (by rw [size_push', Heap.size_update]; exact Nat.ne_of_lt (Nat.lt_succ_of_lt la)), Heap.get?_push_ne _ _ _ (by rw [Heap.size_update]; exact Nat.ne_of_lt la)]
    exact o1
  show wpAny (model prog w) A _ P E { s with heap := ((s.heap.update a (Obj.mapSeq fun _ => #[])).push (seqObj "tuple" vs.toArray 0)).push (seqObj "list" #[] 0) }
  dsimp only
  have zs : vs.toArray.size = vs.length := by simp
  have fin : ∀ st' : SortSt, (arrOf st').Perm (pairsOf vs) → SortedTo (arrOf st') (pairsOf vs).size → P (.done (.ret .none)) { s with heap := sortedHeap s.heap a vs ((arrOf st').map (·.2)) } := fun st' hp hs => by
    obtain ⟨ms, q1, q2, q3⟩ := sorted_out hI hp hs
    exact hP _ ms q1 q2 q3
  by_cases h2 : vs.toArray.size < 2
  · rw [if_pos h2, if_pos h2]
    refine wpAny_bind (wpAny_pure ?_)
    rw [StateT.run_pure]
    refine wpAny_bind (wpAny_pure ?_)
    dsimp only
    refine wpAny_bind (seqEpoch_at o6 rfl (wpAny_bind (listUpdate_at o6 rfl ?_ (hsz2 := by rw [Array.size_map]; show (pairsOf vs).size ≤ _; rw [pairsOf_size]; omega))))
    simp only [bne_self_eq_false, Bool.false_eq_true, if_false]
    refine wpAny_pure (fin (SortSt.mk' general' (vs.toArray.zip vs.toArray) #[] 7 none) (Array.Perm.refl _) fun i j hij hj => ?_)
    have : i = j := by rw [pairsOf_size] at hj; omega
    subst this
    exact Int.le_refl _
  · rw [if_neg h2, if_neg h2]
    obtain ⟨v, v', r, rfl⟩ : ∃ v v' r, vs = v :: v' :: r := by
      cases vs with
      | nil => simp at h2
      | cons v r =>
        cases r with
        | nil => simp at h2
        | cons v' r => exact ⟨v, v', r, rfl⟩
    rw [keyKind_ints hI]
    refine wpAny_bind (wpAny_pure ?_)
    refine wpAny_bind (wpAny_mono (wp_runs (a₀ := pairsOf (v :: v' :: r)) (st := SortSt.mk' oneType' ((v :: v' :: r).toArray.zip (v :: v' :: r).toArray) #[] 7 none)
      (Q := fun _ st' => SB oneType' (pairsOf (v :: v' :: r)) st' ∧ Asc lInt (arrOf st') 0 (pairsOf (v :: v' :: r)).size)
      cmp_int ord_int ⟨Array.Perm.refl _, rfl, rfl⟩ rfl (fun x hx => hI.intKeys x hx) (by rw [pairsOf_size]; simp) fun st' B as => ⟨B, as⟩) ?_ fun _ _ e => e)
    rintro ⟨⟨⟩, st'⟩ s' ⟨rfl, B, as⟩
    dsimp only
    refine wpAny_bind (seqEpoch_at o6 rfl (wpAny_bind (listUpdate_at o6 rfl ?_ (hsz2 := by refine Nat.le_trans (Nat.le_of_eq ((Array.size_map ..).trans (B.perm.size_eq.trans (pairsOf_size _)))) ?_; omega))))
    rw [B.fail]
    simp only [bne_self_eq_false, Bool.false_eq_true, if_false]
    refine wpAny_pure (fin st' B.perm fun i j hij hj => ?_)
    have q : lInt (G (arrOf st') j) (G (arrOf st') i) = false := as i j (Nat.zero_le _) hij (by omega)
    unfold lInt at q
    rw [decide_eq_false_iff_not] at q
    rw [K_G, K_G]
    omega
/-- sorted(xs): a new list, the same ints, rising -/
theorem sorted_any {l : Addr} {vs : List Value} {ns : List Int} {Q : Value → Shared → Prop} (hl : s.heap.IsList l vs.toArray) (hI : IntsAre vs ns) (hz : vs.length ≤ sizeLine)
    (h : ∀ (out : Array Value) (ms : List Int), IntsAre out.toList ms → ms.Perm ns → ms.Pairwise (· ≤ ·) → Q (.ref (s.heap.objs.size + 1)) { s with heap := sortedAll s.heap vs out }) : wpAny (model prog w) A (call (.builtin "sorted") [.ref l]) Q E s := by
  refine Calls.call_function_entry kind_sorted plain_sorted entry_sorted (args_sorted1 _) ?_
  unfold Builtin.«sorted»
  refine wpAny_bind (m := checkCount "sorted" 1 1 _) (wpAny_pure (wpAny_bind (collect_list hl ?_ hz)))
  refine wpAny_bind (wpAny_newList ?_)
  have sz : ((s.heap.push (seqObj "list" #[] 0)).update s.heap.objs.size (Obj.mapSeq (· ++ vs.toArray))).objs.size = s.heap.objs.size + 1 := by rw [Heap.size_update, size_push']
  have oL : (((s.heap.push (seqObj "list" #[] 0)).update s.heap.objs.size (Obj.mapSeq (· ++ vs.toArray))).push (seqObj "list" vs.toArray 0)).get? (s.heap.objs.size + 1) = some (seqObj "list" vs.toArray 0) := by
    rw [← sz]
    exact Heap.get?_push_size _ rfl
  show wpAny _ _ _ _ _ { s with heap := ((s.heap.push (seqObj "list" #[] 0)).update s.heap.objs.size (Obj.mapSeq (· ++ vs.toArray))).push (seqObj "list" vs.toArray 0) }
  rw [sz]
  refine wpAny_bind (wpAny_holding (wpAny_call_entry slot_list_sort ⟨_, oL, rfl⟩ entry_list_sort (sort_tree oL hI hz fun out ms b1 b2 b3 => ⟨_, rfl, ?_⟩) (args_list_sort _)))
  exact wpAny_pure ⟨_, rfl, h out ms b1 b2 b3⟩
end
end EvS

/-! EVENLOTS' OWN RULES over the hand layer, 1: list comprehensions (one clause, at most one test), as values and as stored in a name. -/
namespace L2
open PySem PySem.Spec PyProof.Rows

section
variable {prog : Program} {w : World} {A : Around} {R : Result → Shared → Prop} {s : Shared}
/-- the comprehension's loop, whatever iterator: nothing is raised -/
theorem comp_loop {elt tg src : Expr} {tests : List Expr} {sc : Scope} {cp : Pos} {it acc : Value} {ev : Env} (J : Nat → Shared → Prop)
    (turn : ∀ n s, J n s → wpAny (model prog w) A (pyNext it) (fun r s1 => match r with
      | none => R (.ok .next) s1
      | some v => wpAny (model prog w) A (letOwnedTupleGo tg it v) (fun _ s2 => wpAny (model prog w) A (assign tg ev v) (fun _ s3 =>
          wpAny (model prog w) A (forIn tests true fun c r => if r = true then do let ok ← isTrue c ev (eval c ev); pure (ForInStep.yield ok) else pure (ForInStep.yield r)) (fun ok s4 =>
            if ok = true then wpAny (model prog w) A (eval elt ev) (fun x s5 => wpAny (model prog w) A (call (.builtin "list.append") [acc, x]) (fun _ s6 => ∃ m, m < n ∧ J m s6) (fun _ _ => False) s5) (fun _ _ => False) s4
            else ∃ m, m < n ∧ J m s4) (fun _ _ => False) s3) (fun _ _ => False) s2) (fun _ _ => False) s1) (fun _ _ => False) s)
    (n : Nat) (h : J n s) : codeAny (model prog w) A (.compLoop (.ListComp elt [⟨tg, src, tests, 0⟩] sc cp) 0 it acc ev) R s := by
  refine codeAny_loop rfl J (fun n s hJ => ?_) n h
  show wpAny _ A ((compTurn (.ListComp elt [⟨tg, src, tests, 0⟩] sc cp) 0 it acc ev).onRaise (fun x => do noteFrame x ev; theTreesLotGoes x)) _ _ s
  refine wpAny_noted ?_
  rw [compTurn_list]
  refine wpAny_bind (wpAny_standAt (wpAny_bind (wpAny_mono (turn n s hJ) (fun r s1 h1 => ?_) fun _ _ f => f.elim)))
  cases r with
  | none => exact wpAny_pure h1
  | some v =>
    refine wpAny_bind (wpAny_mono h1 (fun _ s2 h2 => ?_) fun _ _ f => f.elim)
    refine wpAny_bind (wpAny_mono h2 (fun _ s3 h3 => wpAny_bind (wpAny_mono h3 (fun ok s4 h4 => ?_) fun _ _ f => f.elim)) fun _ _ f => f.elim)
    cases ok with
    | false => exact wpAny_pure ⟨rfl, h4⟩
    | true => exact wpAny_bind (wpAny_bind (wpAny_mono h4 (fun x s5 h5 => wpAny_bind (wpAny_mono h5 (fun _ s6 h6 => wpAny_pure (wpAny_pure ⟨rfl, h6⟩)) fun _ _ f => f.elim)) fun _ _ f => f.elim))
end

/-! ### the cells that a comprehension closes over -/
theorem closure_walk {ev : Env} {F : Str × NameKind → List (Str × Addr) → Sem (ForInStep (List (Str × Addr)))}
    (hF : ∀ n k cs, F (n, k) cs = if (k == NameKind.free) = true then (do let c ← cellOf ev n; pure (ForInStep.yield ((n, c) :: cs))) else pure (ForInStep.yield cs)) :
    ∀ (ns : List (Str × NameKind)) (cs : List (Str × Addr)), (∀ x c, cs.lookup x = some c → ev.cells.lookup x = some c) → (∀ x ∈ ns, x.2 = .free → ∃ c, ev.cells.lookup x.1 = some c) →
      ∃ cl, (forIn ns cs F : Sem (List (Str × Addr))) = pure cl ∧ (∀ x c, cl.lookup x = some c → ev.cells.lookup x = some c) ∧ (∀ x c, cs.lookup x = some c → ∃ d, cl.lookup x = some d) ∧
        ∀ x ∈ ns, x.2 = .free → ∃ c, cl.lookup x.1 = some c
  | [], cs, h1, _ => ⟨cs, by rw [List.forIn_nil], h1, fun _ c e => ⟨c, e⟩, fun _ hx => nomatch hx⟩
  | (n, k) :: ns, cs, h1, h2 => by
    have h2' : ∀ x ∈ ns, x.2 = .free → ∃ c, ev.cells.lookup x.1 = some c := fun x hx => h2 x (List.mem_cons_of_mem _ hx)
    by_cases hk : k = NameKind.free
    · subst hk
      obtain ⟨c, hc⟩ := h2 (n, .free) List.mem_cons_self rfl
      have h1' : ∀ x d, ((n, c) :: cs).lookup x = some d → ev.cells.lookup x = some d := fun x d e => by
        rw [List.lookup_cons] at e
        cases hx : x == n with
        | true => rw [hx] at e; cases e; rw [eq_of_beq hx]; exact hc
        | false => rw [hx] at e; exact h1 x d e
      obtain ⟨cl, e1, e2, e3, e4⟩ := closure_walk hF ns ((n, c) :: cs) h1' h2'
      refine ⟨cl, ?_, e2, fun x d e => ?_, fun x hx hf => ?_⟩
      · rw [List.forIn_cons, hF]
        have hcell : cellOf ev n = pure c := by unfold cellOf; rw [hc]
        rw [if_pos (by decide), hcell]
        exact e1
      · cases hx : x == n with
        | true => exact e3 x c (by rw [List.lookup_cons, hx])
        | false => exact e3 x d (by rw [List.lookup_cons, hx]; exact e)
      · rcases List.mem_cons.mp hx with rfl | hx
        · exact e3 n c (by rw [List.lookup_cons, beq_self_eq_true])
        · exact e4 x hx hf
    · obtain ⟨cl, e1, e2, e3, e4⟩ := closure_walk hF ns cs h1 h2'
      refine ⟨cl, ?_, e2, e3, fun x hx hf => ?_⟩
      · rw [List.forIn_cons, hF, if_neg (fun z => hk (eq_of_beq z))]
        exact e1
      · rcases List.mem_cons.mp hx with rfl | hx
        · exact absurd hf hk
        · exact e4 x hx hf
theorem closure_ok {sc : Scope} {ev : Env} (h : ∀ x ∈ sc.names, x.2 = .free → ∃ c, ev.cells.lookup x.1 = some c) :
    ∃ cl, closureFor sc ev = pure cl ∧ (∀ x c, cl.lookup x = some c → ev.cells.lookup x = some c) ∧ ∀ x ∈ sc.names, x.2 = .free → ∃ c, cl.lookup x.1 = some c := by
  obtain ⟨cl, e1, e2, _, e4⟩ := closure_walk (ev := ev) (F := fun x cs => match x with
    | (n, k) => if (k == NameKind.free) = true then (do let c ← cellOf ev n; pure (ForInStep.yield ((n, c) :: cs))) else pure (ForInStep.yield cs)) (fun _ _ _ => rfl) sc.names [] (fun x c e => nomatch e) h
  refine ⟨cl, ?_, e2, e4⟩
  show ((forIn sc.names [] (fun x cs => match x with
    | (n, k) => if (k == NameKind.free) = true then (do let c ← cellOf ev n; pure (ForInStep.yield ((n, c) :: cs))) else pure (ForInStep.yield cs)) : Sem (List (Str × Addr))) >>= fun z => pure z) = pure cl
  rw [e1]
  rfl

/-! ### names of the comprehension's own scope -/
theorem lookup_map2 (g : Str → NameKind → NameKind) : ∀ (l : List (Str × NameKind)) (x : Str), (l.map fun p => (p.1, g p.1 p.2)).lookup x = (l.lookup x).map (g x)
  | [], _ => rfl
  | (n, k) :: l, x => by
    rw [List.map_cons, List.lookup_cons, List.lookup_cons]
    cases hx : x == n with
    | true => rw [eq_of_beq hx]; rfl
    | false => exact lookup_map2 g l x
theorem mem_of_look : ∀ {l : List (Str × NameKind)} {x : Str} {k : NameKind}, l.lookup x = some k → (x, k) ∈ l
  | (n, k') :: l, x, k, h => by
    rw [List.lookup_cons] at h
    cases hx : x == n with
    | true => rw [hx] at h; cases h; rw [eq_of_beq hx]; exact List.mem_cons_self
    | false => rw [hx] at h; exact List.mem_cons_of_mem _ (mem_of_look h)
def reKind (ev : Env) (n : Str) (k : NameKind) : NameKind := if (k == .free && ev.scope.kind == .function && ev.kindOf n == some .cell) = true then .cell else k
theorem look_relabel (sc : Scope) (ev : Env) (x : Str) : (relabel sc ev).names.lookup x = (sc.names.lookup x).map (reKind ev x) := by
  have e : (relabel sc ev).names = sc.names.map fun p => (p.1, reKind ev p.1 p.2) := by
    unfold relabel
    refine List.map_congr_left fun p _ => ?_
    obtain ⟨n, k⟩ := p
    show (if (k == .free && ev.scope.kind == .function && ev.kindOf n == some .cell) = true then (n, NameKind.cell) else (n, k)) = (n, reKind ev n k)
    unfold reKind
    split <;> rfl
  rw [e]
  exact lookup_map2 _ _ _

/-- what is asked of a comprehension's scope: tn its targets, fn the names of around that it reads, ix their slots there -/
structure CompOk (sc esc : Scope) (N fn : List Str) (ix : List Nat) : Prop where
  kind : sc.kind = .function
  nocell : ∀ x ∈ sc.names, x.2 ≠ .cell
  locs : ∀ x ∈ sc.names, x.2 = .local → sc.names.lookup x.1 = some .local
  frees : ∀ x ∈ sc.names, x.2 = .free → esc.names.lookup x.1 = some .cell ∨ esc.names.lookup x.1 = some .free
  ixs : ix.map (fun i => N[i]?) = fn.map some
  fns : ∀ x ∈ fn, sc.names.lookup x = some .free

/-- the context of the block -/
def cxComp (X : Cx) (N' : List Str) (sc : Scope) (s2 : Shared) (H2 : Hp) (cl : List (Str × Addr)) (C : Addr) (fp : List Addr) : Cx where
  prog := X.prog
  w := X.w
  K := X.K
  mg := X.mg
  base := X.base
  A := X.A
  N := N'
  s₀ := s2
  H₀ := H2
  env := compEnvC sc cl C X.env
  outer := X.stack
  stack := X.stack
  ex := fp
  fn := fun _ => false
  calm := X.calm
  pn := []
  xe := fun _ _ => False
/-- the block's names ahead of its first turn -/
def cSt (nt : Nat) (ix : List Nat) (σ : St) : St := List.replicate nt none ++ ix.map fun k => (σ[k]?).join

/-- the loop's reading: W the invariant (turn, measure, names, heap); the list grows at l -/
def tCompW (J : It) (g : TG) (tc : TT) (te : TE) (l : Addr) (q : Hp → Prop) (σ0 : St) (H0 : Hp) : Prop :=
  ∃ W : Nat → Nat → St → Hp → Prop, (∃ m, W 0 m σ0 H0) ∧ ∀ i m σ H, W i m σ H →
    (J.stop i H ∧ q H) ∨ (J.go i H ∧ ∃ N : St → Hp → Prop, (∀ σ' H', N σ' H' → ∃ m', m' < m ∧ W (i + 1) m' σ' H') ∧ ∀ x H', J.yld i H x H' → g x σ H' fun σ2 H2 => tc σ2 H2 fun b H3 =>
      if b = true then te σ2 H3 fun v H4 => ∃ xs, H4 l = some (.lst xs) ∧ xs.length < sizeLine ∧ N σ2 (upd H4 l (.lst (xs ++ [v]))) else N σ2 H3)
def tComp (wi : TI) (nt : Nat) (ix : List Nat) (g : TG) (tc : TT) (te : TE) : TE := fun σ H Q => wi σ H fun J H1 => ∀ l, H1 l = none → tCompW J g tc te l (fun H' => Q (.ref l) H') (cSt nt ix σ) (upd H1 l (.lst []))

/-- the tests of a clause -/
def PTs (X : Cx) (tests : List Expr) (tc : TT) : Prop :=
  ∀ (pins : List (Addr × Obj)) (s : Shared) (σ : St) (H : Hp) (Q : Bool → Hp → Prop), Inv X pins σ H s → tc σ H Q →
    wpAny (model X.prog X.w) X.A (forIn tests true fun c r => if r = true then do let ok ← isTrue c X.env (eval c X.env); pure (ForInStep.yield ok) else pure (ForInStep.yield r)) (TP X pins σ Q) X.xe s
def tAll : TT := fun _ H Q => Q true H
theorem pts_nil {X : Cx} : PTs X [] tAll := fun _ _ _ H _ I h => wpAny_tests_nil ⟨H, I, h⟩
theorem pts_one {X : Cx} {c : Expr} {tc : TT} (h : PT X c tc) : PTs X [c] tc := fun pins s σ H Q I hw => wpAny_tests_one (h pins s σ H Q I hw)

section
variable {X : Cx} {elt tg src : Expr} {tests : List Expr} {sc esc : Scope} {cp : Pos} {g : TG} {tc : TT} {te : TE} {N tn fn : List Str} {ix : List Nat}
theorem cx_ok {cl : List (Str × Addr)} {pins : List (Addr × Obj)} {σ : St} {s2 : Shared} {H2 : Hp} {C : Addr} {fp : List Addr} (hsc : X.env.scope = esc) (ok : CompOk sc esc N fn ix)
    (hsub : ∀ x c, cl.lookup x = some c → X.env.cells.lookup x = some c) (hall : ∀ x ∈ sc.names, x.2 = .free → ∃ c, cl.lookup x.1 = some c)
    (I2 : Inv X pins σ H2 s2) (f2 : ∀ b ∈ fp, FpOk X pins H2 b) (lt : ∀ b ∈ fp, b < s2.heap.objs.size) (hC : s2.heap.objs.size ≤ C) : (cxComp X (tn ++ fn) sc s2 H2 cl C fp).Ok where
  mod := I2.ok.mod
  kind := ok.kind
  glob := I2.ok.glob
  blt := I2.ok.blt
  above := hC
  inj := fun x y c e1 e2 => I2.ok.inj x y c (hsub x c e1) (hsub y c e2)
  has := fun x hx => by
    have hx' : (relabel sc X.env).names.lookup x = some .cell ∨ (relabel sc X.env).names.lookup x = some .free := hx
    rw [look_relabel] at hx'
    cases e : sc.names.lookup x with
    | none => rw [e] at hx'; rcases hx' with z | z <;> cases z
    | some k =>
      have hm := mem_of_look e
      have hk : k = .free := by
        by_cases z : k = .free
        · exact z
        · exfalso
          have hr : reKind X.env x k = k := by
            unfold reKind
            rw [if_neg]
            intro q
            rw [Bool.and_eq_true, Bool.and_eq_true] at q
            exact z (eq_of_beq q.1.1)
          rw [e, Option.map_some, hr] at hx'
          rcases hx' with q | q
          · exact ok.nocell _ hm (Option.some.inj q)
          · exact z (Option.some.inj q)
      subst hk
      exact hall _ hm rfl
  cab := fun _ _ e => nomatch e
  hd := I2.ok.hd
  frames := I2.ok.frames
  stk := .inl rfl
  exf := fun b hb => ⟨Nat.ne_of_lt (Nat.lt_of_lt_of_le (lt b hb) hC), fun x c e => (f2 b hb).2.2.2.2.1 x c (hsub x c e)⟩
  bs := I2.bs
  bsz := Nat.le_trans I2.ok.bsz I2.sz
  noex := fun b o e hb => by
    rcases (f2 b hb).2.2.2.1 with z | z
    · exact I2.ok.noex b o e z
    · exact absurd (Nat.lt_of_lt_of_le (Heap.lt_size e) (Nat.le_trans I2.ok.bsz z)) (Nat.lt_irrefl _)
  exfs := fun b hb hf => by
    rcases List.mem_cons.mp (I2.stkSub b hf) with z | z
    · exact (f2 b hb).2.1 z
    · exact (f2 b hb).2.2.1 z
  funs := I2.stack
  frf := I2.stkFree

theorem cSt_len (nt : Nat) (ix : List Nat) (σ : St) : (cSt nt ix σ).length = nt + ix.length := by
  unfold cSt
  rw [List.length_append, List.length_replicate, List.length_map]

/-- the block from the iterator on: at its end the asker's own context stands again, the frame of the block at C let go -/
theorem comp_core {cl : List (Str × Addr)} {pins : List (Addr × Obj)} {σ : St} {s2 : Shared} {H2 : Hp} {it : Addr} {fp : List Addr} {tu : Nat → Heap → Prop} {J : It} {E : Value → Shared → Prop} {q : Addr → Hp → Prop}
    {RR : Value → Addr → Result → Shared → Prop} (hc : X.calm = true) (hsc : X.env.scope = esc) (hN : X.N = N) (ok : CompOk sc esc N fn ix)
    (hsub : ∀ x c, cl.lookup x = some c → X.env.cells.lookup x = some c) (hall : ∀ x ∈ sc.names, x.2 = .free → ∃ c, cl.lookup x.1 = some c)
    (hg : ∀ s2 H2 cl C fp, PG (cxComp X (tn ++ fn) sc s2 H2 cl C fp) tg g)
    (ht : ∀ s2 H2 cl C fp, PTs (cxComp X (tn ++ fn) sc s2 H2 cl C fp) tests tc)
    (he : ∀ s2 H2 cl C fp, PE (cxComp X (tn ++ fn) sc s2 H2 cl C fp) elt te)
    (I2 : Inv X pins σ H2 s2) (T : Turn X.prog X.w X.K tg J fp it tu) (st2 : tu 0 s2.heap) (f2 : ∀ b ∈ fp, FpOk X pins H2 b)
    (h : ∀ l, H2 l = none → tCompW J g tc te l (q l) (cSt tn.length ix σ) (upd H2 l (.lst [])))
    (hRR : ∀ (C l : Addr) (s4 : Shared) (H3 : Hp) (m : Str → Option Value), Inv X pins σ H3 s4 → s4.heap.Ns C m → FpOk X pins H3 C → q l H3 → RR (.ref l) C (.ok .next) s4) :
    wpAny (model X.prog X.w) X.A (newList []) (fun acc s3 => wpAny (model X.prog X.w) X.A (newFunctionEnv sc X.env.globals cl [] X.env.qual none .none (some X.env)) (fun cenv s4 =>
      codeAny (model X.prog X.w) X.A (.compStart (.ListComp elt [⟨tg, src, tests, 0⟩] sc cp) 0 (.ref it) acc { cenv with scope := relabel sc X.env }) (RR acc cenv.locals) s4) E s3) E s2 := by
  refine wpAny_newObj_type (wpAny_newFunctionEnv ok.nocell (by intro y hy; simp at hy) (fun h1 hns hsb => ?_) ok.kind)
  dsimp only at hns hsb ⊢
  generalize hL : s2.heap.push { cls := .type "list", dict := none, data := .seq ([] : List Value).toArray } = g1 at hns hsb ⊢
  have hC : g1.objs.size = s2.heap.objs.size + 1 := by rw [← hL, Heap.size_push]
  have hlC : s2.heap.objs.size ≠ g1.objs.size := by rw [hC]; exact Nat.ne_of_lt (Nat.lt_succ_self _)
  have hCle : s2.heap.objs.size ≤ g1.objs.size := by rw [hC]; exact Nat.le_succ _
  have old : ∀ b o, s2.heap.get? b = some o → h1.get? b = some o := fun b o e =>
    hsb.extBut b o (Nat.ne_of_lt (Nat.lt_of_lt_of_le (Heap.lt_size e) hCle)) (Heap.get?_push_of_some _ (hL ▸ Heap.get?_push_of_some _ e))
  have hnew : h1.get? s2.heap.objs.size = some { cls := .type "list", data := .seq ([] : List Value).toArray } := hsb.extBut _ _ hlC (Heap.get?_push_of_some _ (hL ▸ Heap.get?_push_size _ rfl))
  have lt : ∀ b ∈ fp, b < s2.heap.objs.size := fun b hb => by
    obtain ⟨o, e, _⟩ := T.obj 0 _ st2 b hb
    exact Heap.lt_size e
  have hl0 : H2 s2.heap.objs.size = none := I2.fresh
  have cok : (cxComp X (tn ++ fn) sc s2 H2 cl g1.objs.size fp).Ok := cx_ok hsc ok hsub hall I2 f2 lt hCle
  have hixl : ix.length = fn.length := by
    have z := congrArg List.length ok.ixs
    rwa [List.length_map, List.length_map] at z
  have YI : Inv (cxComp X (tn ++ fn) sc s2 H2 cl g1.objs.size fp) [] (cSt tn.length ix σ) (upd H2 s2.heap.objs.size (.lst [])) { s2 with heap := h1, toks := s2.toks + ([] : List (Str × Value)).length } := by
    refine ⟨cok, rfl, I2.bare, Un.laid old (Nat.le_refl _) hl0, ⟨_, hns, fun i x v e1 e2 e3 => ?_⟩, fun x c e => ?_, ?_, fun x c e => ?_, fun p hp => ?_, ?_, ?_⟩
    · -- a name of around
      have hi : tn.length ≤ i := by
        by_cases z : i < tn.length
        · exfalso
          have e2' : (cSt tn.length ix σ)[i]? = some none := by
            unfold cSt
            rw [List.getElem?_append_left (by rw [List.length_replicate]; exact z), List.getElem?_replicate, if_pos z]
          rw [e2'] at e2
          cases e2
        · omega
      have e1' : fn[i - tn.length]? = some x := by
        have z : (tn ++ fn)[i]? = some x := e1
        rwa [List.getElem?_append_right hi] at z
      have e2' : (ix.map fun k => (σ[k]?).join)[i - tn.length]? = some (some v) := by
        unfold cSt at e2
        rwa [List.getElem?_append_right (by rw [List.length_replicate]; exact hi), List.length_replicate] at e2
      rw [List.getElem?_map] at e2'
      cases ek : ix[i - tn.length]? with
      | none => rw [ek] at e2'; cases e2'
      | some k =>
        rw [ek] at e2'
        have ev : (σ[k]?).join = some v := Option.some.inj e2'
        have ev' : σ[k]? = some (some v) := by
          cases z : σ[k]? with
          | none => rw [z] at ev; cases ev
          | some w' => rw [z] at ev; exact congrArg some ev
        have eN : X.N[k]? = some x := by
          have z := congrArg (fun l => l[i - tn.length]?) ok.ixs
          rw [List.getElem?_map, List.getElem?_map, ek, e1'] at z
          rw [hN]
          exact Option.some.inj z
        have hfx : sc.names.lookup x = some .free := ok.fns x (List.mem_of_getElem? e1')
        have hmem := mem_of_look hfx
        have hkind : X.env.scope.names.lookup x = some .cell ∨ X.env.scope.names.lookup x = some .free := by rw [hsc]; exact ok.frees _ hmem rfl
        obtain ⟨m, hn, hl⟩ := I2.loc
        obtain ⟨u, r, lk⟩ := hl k x v eN ev' (.inr hkind)
        refine ⟨u, r, .inr ⟨?_, ?_⟩⟩
        · show (relabel sc X.env).names.lookup x = some .cell ∨ (relabel sc X.env).names.lookup x = some .free
          rw [look_relabel, hfx, Option.map_some]
          unfold reKind
          split
          · exact .inl rfl
          · exact .inr rfl
        · rcases lk with ⟨z, _⟩ | ⟨_, c, ec, o, ho, hd⟩
          · have z' : X.env.scope.names.lookup x = some .local := z
            rw [z'] at hkind
            rcases hkind with w' | w' <;> cases w'
          · obtain ⟨c', hc'⟩ := hall _ hmem rfl
            have ecc := hsub _ _ hc'
            rw [ec] at ecc
            cases ecc
            exact ⟨c, hc', o, old _ _ ho, hd⟩
    · obtain ⟨v, o, ho, hd⟩ := I2.cell x c (hsub x c e)
      exact ⟨v, o, old _ _ ho, hd⟩
    · show (upd H2 s2.heap.objs.size (.lst [])) g1.objs.size = none
      rw [upd_ne (Ne.symm hlC)]
      exact I2.hok.fresh hCle
    · have hfc := I2.freeC x c (hsub x c e)
      obtain ⟨v, o, ho, _⟩ := I2.cell x c (hsub x c e)
      show (upd H2 s2.heap.objs.size (.lst [])) c = none
      rw [upd_ne (Nat.ne_of_lt (Heap.lt_size ho))]
      exact hfc
    · exact nomatch hp
    · exact I2.hok.laid old (Nat.le_refl _) ⟨Nat.zero_le _, [], _, .nil, hnew⟩
    · rw [cSt_len, hixl]
      show _ = (tn ++ fn).length
      rw [List.length_append]
  have fpY : ∀ {H' : Hp}, (∀ b ∈ fp, H' b = none) → ∀ b ∈ fp, FpOk (cxComp X (tn ++ fn) sc s2 H2 cl g1.objs.size fp) [] H' b := fun hn b hb =>
    ⟨hn b hb, (cok.exf b hb).1, cok.exfs b hb, .inl hb, fun x c e => (cok.exf b hb).2 x c e, fun p hp => nomatch hp⟩
  have fr0 : ∀ b ∈ fp, (upd H2 s2.heap.objs.size (.lst [])) b = none := fun b hb => by
    rw [upd_ne (Nat.ne_of_lt (lt b hb))]
    exact (f2 b hb).1
  have loop : codeAny (model X.prog X.w) X.A (.compLoop (.ListComp elt [⟨tg, src, tests, 0⟩] sc cp) 0 (.ref it) (.ref s2.heap.objs.size) (compEnvC sc cl g1.objs.size X.env)) (RR (.ref s2.heap.objs.size) g1.objs.size)
      { s2 with heap := h1, toks := s2.toks + ([] : List (Str × Value)).length } := by
    obtain ⟨W, ⟨m0, w0⟩, turn⟩ := h s2.heap.objs.size hl0
    refine comp_loop (fun n s' => ∃ i σ' H', Inv (cxComp X (tn ++ fn) sc s2 H2 cl g1.objs.size fp) [] σ' H' s' ∧ tu i s'.heap ∧ (∀ b ∈ fp, H' b = none) ∧ W i n σ' H') ?_ m0
      ⟨0, _, _, YI, T.keep _ _ _ st2 fun b _ o e => old b o e, fr0, w0⟩
    rintro n s3 ⟨i, σ3, H3, I3, st3, fr3, w3⟩
    rcases turn i n σ3 H3 w3 with ⟨stop, qn⟩ | ⟨go, Nx, hNx, step⟩
    · refine thn (T.done (cxComp X (tn ++ fn) sc s2 H2 cl g1.objs.size fp) rfl rfl rfl hc i [] s3 σ3 H3 _ I3 (fpY fr3) st3 stop) fun r s4 ⟨hr, I4⟩ => ?_
      subst hr
      obtain ⟨m, hn, _⟩ := I4.loc
      have IX : Inv X pins σ H3 s4 := I2.call' (ch := fp) I4.os I4.base I4.hok I4.bare fun b hb => by
        obtain ⟨_, a1, _, a3, a4, a5⟩ := f2 b hb
        exact ⟨a3, a1, a4, a5⟩
      exact hRR _ _ s4 H3 m IX hn (I2.fpOk hCle I4.free) qn
    · refine thn (T.item (cxComp X (tn ++ fn) sc s2 H2 cl g1.objs.size fp) rfl rfl rfl hc i [] s3 σ3 H3 _ I3 (fpY fr3) st3 go) fun r s4 ⟨u, hr, h4⟩ => ?_
      subst hr
      refine thn h4 fun _ s5 ⟨x, H5, I5, r5, y5, st5, fr5⟩ => ?_
      have I5' := I5.pinned (fpY fr5) (T.obj _ _ st5)
      refine thn (hg _ _ _ _ _ _ s5 σ3 H5 x u _ I5' r5 (step x H5 y5)) fun _ s6 ⟨σ6, H6, I6, q6⟩ => ?_
      refine thn (ht _ _ _ _ _ _ s6 σ6 H6 _ I6 q6) fun b s7 ⟨H7, I7, q7⟩ => ?_
      have again : ∀ {s8 : Shared} {H8 : Hp}, Inv (cxComp X (tn ++ fn) sc s2 H2 cl g1.objs.size fp) ([] ++ pinsAt fp s5.heap) σ6 H8 s8 → Nx σ6 H8 →
          ∃ m, m < n ∧ ∃ i σ' H', Inv (cxComp X (tn ++ fn) sc s2 H2 cl g1.objs.size fp) [] σ' H' s8 ∧ tu i s8.heap ∧ (∀ b ∈ fp, H' b = none) ∧ W i m σ' H' := fun {s8 H8} I8 n8 => by
        obtain ⟨m', hm, w8⟩ := hNx σ6 H8 n8
        refine ⟨m', hm, i + 1, σ6, H8, I8.unpinned, T.keep _ _ _ st5 fun b hb o e => (I8.pin (b, o) (List.mem_append_right _ (List.mem_append_right _ (mem_pinsAt hb e)))).1, fun b hb => ?_, w8⟩
        obtain ⟨o, e, _⟩ := T.obj _ _ st5 b hb
        exact (I8.pin (b, o) (List.mem_append_right _ (List.mem_append_right _ (mem_pinsAt hb e)))).2.1
      cases b with
      | false =>
        rw [if_neg Bool.false_ne_true] at q7 ⊢
        exact again I7 q7
      | true =>
        rw [if_pos rfl] at q7 ⊢
        refine thn (he _ _ _ _ _ _ s7 σ6 H7 _ I7 q7) fun y s8 ⟨v, H8, I8, r8, xs, hx, hz, n8⟩ => ?_
        refine thn (mt_append _ s8 σ6 H8 (.ref s2.heap.objs.size) [v] (.ref s2.heap.objs.size) [y] (fun _ H9 => Nx σ6 H9) I8 rfl (.cons r8 .nil) ⟨_, xs, v, rfl, rfl, hx, hz, n8⟩) fun _ s9 ⟨_, H9, I9, _, q9⟩ => again I9 q9
  exact codeAny_compStart_list loop (T.self _ 0 _ _ _ (T.keep _ _ _ st2 fun b _ o e => old b o e) loop)

variable {wi : TI}
/-- [e for t in src if c] -/
theorem pe_comp (hc : X.calm = true) (hsc : X.env.scope = esc) (hN : X.N = N) (ok : CompOk sc esc N fn ix) (hi : PI X tg src wi)
    (hg : ∀ s2 H2 cl C fp, PG (cxComp X (tn ++ fn) sc s2 H2 cl C fp) tg g)
    (ht : ∀ s2 H2 cl C fp, PTs (cxComp X (tn ++ fn) sc s2 H2 cl C fp) tests tc)
    (he : ∀ s2 H2 cl C fp, PE (cxComp X (tn ++ fn) sc s2 H2 cl C fp) elt te)
    (hs : ∀ x, foldedSetIterable src X.env x = pure x := by intro _; rfl) : PE X (.ListComp elt [⟨tg, src, tests, 0⟩] sc cp) (tComp wi tn.length ix g tc te) := by
  intro pins s σ H Q I h
  rw [eval_ListComp]
  obtain ⟨cl, hcl, hsub, hall⟩ := closure_ok (sc := sc) (ev := X.env) fun x hx hf => I.ok.has x.1 (by have z := ok.frees x hx hf; rw [← hsc] at z; exact z)
  refine wpAny_comprehension_free (use := none) rfl hs hcl ok.kind ok.locs (thn (hi pins s σ H _ I h) fun xv s1 h1 => thn h1 fun itv s2 h2 => ?_)
  obtain ⟨it, fp, tu, J, H2, e, I2, T, st2, f2, hq⟩ := h2
  subst e
  refine comp_core (q := fun l H' => Q (.ref l) H') (RR := fun acc C => compPost (model X.prog X.w) X.A X.xe none (EP X pins σ Q) acc C) hc hsc hN ok hsub hall hg ht he I2 T st2 f2 hq fun C l s4 H3 m I4 hn fC q4 => ?_
  obtain ⟨a0, a1, _, a3, a4, a5⟩ := fC
  exact ⟨m, hn, fun h' sb => ⟨.ref l, H3, I4.turned (t' := s4.toks) (fun b o hb e => (sb.2 b hb).trans e) a0 a1 a3 a4 a5, rfl, q4⟩⟩
/-- name = [e for t in src if c] -/
theorem ps_comp {i : Nat} {y : Str} {py sp : Pos} (hnd : X.N.Nodup) (hiy : X.N[i]? = some y) (hy : X.env.scope.names.lookup y = some .local) (hc : X.calm = true) (hsc : X.env.scope = esc) (hN : X.N = N) (ok : CompOk sc esc N fn ix) (hi : PI X tg src wi)
    (hg : ∀ s2 H2 cl C fp, PG (cxComp X (tn ++ fn) sc s2 H2 cl C fp) tg g)
    (ht : ∀ s2 H2 cl C fp, PTs (cxComp X (tn ++ fn) sc s2 H2 cl C fp) tests tc)
    (he : ∀ s2 H2 cl C fp, PE (cxComp X (tn ++ fn) sc s2 H2 cl C fp) elt te)
    (hsw : swapsWith (.ListComp elt [⟨tg, src, tests, 0⟩] sc cp) (some (.Name y py)) sp.line X.env = pure true := by rfl)
    (hs : ∀ x, foldedSetIterable src X.env x = pure x := by intro _; rfl) :
    PS X (.Assign [.Name y py] (.ListComp elt [⟨tg, src, tests, 0⟩] sc cp) sp) (fun D σ H => tComp wi tn.length ix g tc te σ H fun v H' => D.nx (σ.set i (some v)) H') := by
  intro pins s σ H D I h
  rw [exec_Assign_Name_used _ _ _ _ hsw]
  obtain ⟨cl, hcl, hsub, hall⟩ := closure_ok (sc := sc) (ev := X.env) fun x hx hf => I.ok.has x.1 (by have z := ok.frees x hx hf; rw [← hsc] at z; exact z)
  refine wpAny_bind (wpAny_standAt (wpAny_bind ?_))
  show wpAny _ X.A (do let _ ← comprehension (.ListComp elt [⟨tg, src, tests, 0⟩] sc cp) sc X.env _ (newList []) false (eval src X.env) (some (assign (.Name y py) X.env))) _ _ s
  refine wpAny_bind (wpAny_mono (wpAny_comprehension_free (use := some (assign (.Name y py) X.env)) (Q := fun _ s' => SP X pins D .next s') rfl hs hcl ok.kind ok.locs
    (thn (hi pins s σ H _ I h) fun xv s1 h1 => thn h1 fun itv s2 h2 => ?_)) (fun _ s' hq => wpAny_pure (wpAny_pure hq)) fun _ _ e => e)
  obtain ⟨it, fp, tu, J, H2, e, I2, T, st2, f2, hq⟩ := h2
  subst e
  refine comp_core (q := fun l H' => D.nx (σ.set i (some (.ref l))) H') (RR := fun acc C => compPost (model X.prog X.w) X.A X.xe (some (assign (.Name y py) X.env)) (fun _ s' => SP X pins D .next s') acc C) hc hsc hN ok hsub hall hg ht he I2 T st2 f2 hq fun C l s4 H3 m I4 hn fC q4 => ?_
  obtain ⟨a0, a1, _, a3, a4, a5⟩ := fC
  refine wpAny_assign_Name (store_ok2 I4 hnd hiy (.inl hy) (v := .ref l) rfl (fun s5 I5 ⟨a, sb, ha⟩ => ?_) (.inr hy))
  have hCa : C ≠ a := by
    rcases ha with z | z
    · rw [z]; exact a1
    · exact Ne.symm (a4 y a z)
  refine ⟨m, hn.sameBut sb hCa, fun h' sb' => ⟨_, H3, I5.turned (t' := s5.toks) (fun b o hb e => (sb'.2 b hb).trans e) a0 a1 a3 a4 a5, q4⟩⟩
end

/-! ### the forms one uses: n turns of any iterator, the invariant by the turn -/
theorem comp_by {J : It} {g : TG} {tc : TT} {te : TE} {l : Addr} {q : Hp → Prop} {σ : St} {H : Hp} (n : Nat) (Pv : Nat → St → Hp → Prop) (h0 : Pv 0 σ H) (hgo : ∀ i σ H, i < n → Pv i σ H → J.go i H) (hstop : ∀ σ H, Pv n σ H → J.stop n H)
    (hs : ∀ i x σ H H', i < n → Pv i σ H → J.yld i H x H' → g x σ H' fun σ2 H2 => tc σ2 H2 fun b H3 =>
      if b = true then te σ2 H3 fun v H4 => ∃ xs, H4 l = some (.lst xs) ∧ xs.length < sizeLine ∧ Pv (i + 1) σ2 (upd H4 l (.lst (xs ++ [v]))) else Pv (i + 1) σ2 H3)
    (hd : ∀ σ H, Pv n σ H → q H) : tCompW J g tc te l q σ H := by
  refine ⟨fun i m σ H => m = n - i ∧ i ≤ n ∧ Pv i σ H, ⟨n, by simp, Nat.zero_le _, h0⟩, ?_⟩
  rintro i m σ H ⟨rfl, hi, p⟩
  by_cases hlt : i < n
  · exact .inr ⟨hgo i σ H hlt p, Pv (i + 1), fun σ' H' p' => ⟨n - (i + 1), by omega, rfl, hlt, p'⟩, fun x H' y => hs i x σ H H' hlt p y⟩
  · have e : i = n := by omega
    subst e
    exact .inl ⟨hstop σ H p, hd σ H p⟩
theorem for_by {J : It} {g : TG} {tb : TS} {D : Ends} {σ : St} {H : Hp} (n : Nat) (Pv : Nat → St → Hp → Prop) (h0 : Pv 0 σ H) (hgo : ∀ i σ H, i < n → Pv i σ H → J.go i H) (hstop : ∀ σ H, Pv n σ H → J.stop n H)
    (hs : ∀ i x σ H H', i < n → Pv i σ H → J.yld i H x H' → g x σ H' fun σ2 H2 => tb { D with nx := Pv (i + 1), ct := Pv (i + 1), bk := D.nx } σ2 H2) (hd : ∀ σ H, Pv n σ H → D.nx σ H) :
    ∃ W : Nat → Nat → St → Hp → Prop, (∃ m, W 0 m σ H) ∧ ∀ i m σ H, W i m σ H →
      (J.stop i H ∧ D.nx σ H) ∨ (J.go i H ∧ ∃ N : St → Hp → Prop, (∀ σ' H', N σ' H' → ∃ m', m' < m ∧ W (i + 1) m' σ' H') ∧ ∀ x H', J.yld i H x H' → g x σ H' fun σ2 H2 => tb { D with nx := N, ct := N, bk := D.nx } σ2 H2) := by
  refine ⟨fun i m σ H => m = n - i ∧ i ≤ n ∧ Pv i σ H, ⟨n, by simp, Nat.zero_le _, h0⟩, ?_⟩
  rintro i m σ H ⟨rfl, hi, p⟩
  by_cases hlt : i < n
  · exact .inr ⟨hgo i σ H hlt p, Pv (i + 1), fun σ' H' p' => ⟨n - (i + 1), by omega, rfl, hlt, p'⟩, fun x H' y => hs i x σ H H' hlt p y⟩
  · have e : i = n := by omega
    subst e
    exact .inl ⟨hstop σ H p, hd σ H p⟩
end L2

/-! EVENLOTS' OWN RULES over the hand layer, 2: enumerate of a list, zip of two lists or of two tuples, walked by a tuple of targets. -/
namespace L2
open PySem PySem.Spec PyProof.Rows

section
variable {X : Cx} {pins : List (Addr × Obj)} {σ : St} {H : Hp} {s : Shared} {g : Heap}
/-- records of ours have turned -/
theorem Inv.turnL {ch : List Addr} {t' : Nat} (I : Inv X pins σ H s) (hf : ∀ b ∈ ch, FpOk X pins H b) (k : ∀ b o, b ∉ ch → s.heap.get? b = some o → g.get? b = some o) : Inv X pins σ H { s with heap := g, toks := t' } := by
  refine I.step (g' := s.gens) (d' := s.drawn) (ch := ch) (fun b hb => ?_) (fun b o _ _ hc e _ => k b o hc e) (fun b o _ _ hc e _ => ⟨o.slots, k b o hc e⟩) (fun _ _ _ _ n => n)
    (fun b o hc e => ⟨o, k b o hc e⟩) (fun _ _ e => e) (fun _ _ _ e => e) (fun b ps e => ⟨#[], by rw [e]; simp⟩) (fun m hm => ?_) (fun b u e => ?_) I.bare
  · obtain ⟨_, a1, _, a3, a4, a5⟩ := hf b hb
    exact ⟨a3, a1, a4, a5⟩
  · obtain ⟨o, es, ep, ho, r⟩ := hm
    exact ⟨o, es, ep, k _ o (fun z => (hf _ z).2.1 rfl) ho, r⟩
  · refine (I.hok b u e).stay (fun c v hc q => k c v (fun z => ?_) q) (fun _ q => q) fun _ _ q => q
    have n := (hf c z).1
    rcases hc with y | y
    · rw [y, e] at n; cases n
    · rw [n] at y; cases y
/-- .. and a new object is laid -/
theorem Inv.turnLay {ch : List Addr} {T : Addr} {o : HO} {t' : Nat} (I : Inv X pins σ H s) (hf : ∀ b ∈ ch, FpOk X pins H b) (k : ∀ b u, b ∉ ch → s.heap.get? b = some u → g.get? b = some u) (hT : s.heap.objs.size ≤ T)
    (new : ObjOk X.prog X.w (upd H T o) g T o) : Inv X pins σ (upd H T o) { s with heap := g, toks := t' } := by
  have hn : H T = none := I.hok.fresh hT
  have lt : ∀ b u, s.heap.get? b = some u → b ≠ T := fun b u e => Nat.ne_of_lt (Nat.lt_of_lt_of_le (Heap.lt_size e) hT)
  refine I.step (g' := s.gens) (d' := s.drawn) (ch := ch) (fun b hb => ?_) (fun b o _ _ hc e _ => k b o hc e) (fun b o _ _ hc e _ => ⟨o.slots, k b o hc e⟩) (fun b u _ e n => by rw [upd_ne (lt b u e)]; exact n)
    (fun b o hc e => ⟨o, k b o hc e⟩) (fun b xs e => by rw [upd_ne (ne_of_none e hn)]; exact e) (fun b _ xs e => by rw [upd_ne (ne_of_none e hn)]; exact e) (fun b ps e => ⟨#[], by rw [upd_ne (ne_of_none e hn), e]; simp⟩) (fun m hm => ?_) (fun b u e => ?_) I.bare
  · obtain ⟨_, a1, _, a3, a4, a5⟩ := hf b hb
    exact ⟨a3, a1, a4, a5⟩
  · obtain ⟨o, es, ep, ho, r⟩ := hm
    exact ⟨o, es, ep, k _ o (fun z => (hf _ z).2.1 rfl) ho, r⟩
  · by_cases hb : b = T
    · subst hb; rw [upd_same] at e; cases e; exact new
    · rw [upd_ne hb] at e
      refine (I.hok b u e).stay (fun c v hc q => k c v (fun z => ?_) q) (fun c q => by rw [upd_ne (ne_of_none q hn)]; exact q) fun c xs q => by rw [upd_ne (ne_of_none q hn)]; exact q
      have n := (hf c z).1
      rcases hc with y | y
      · rw [y, e] at n; cases n
      · rw [n] at y; cases y
theorem two_ok : (2 : Nat) ≤ sizeLine := by decide
theorem PI.or {tg src : Expr} {w1 w2 : TI} (a : PI X tg src w1) (b : PI X tg src w2) : PI X tg src (fun σ H R => w1 σ H R ∨ w2 σ H R) := fun pins s σ H R I h =>
  h.elim (fun z => a pins s σ H R I z) fun z => b pins s σ H R I z
end

/-! ### enumerate -/
def Ite (K : PySem.W.Frag) (l : Addr) : It :=
  ⟨fun i H => ∃ xs x, SqL K H l xs ∧ xs[i]? = some x, fun i H v H' => ∃ T x, H T = none ∧ v = .ref T ∧ H' = upd H T (.tup [.int i, x]) ∧ ∀ xs, SqL K H l xs → xs[i]? = some x, fun i H => ∃ xs, SqL K H l xs ∧ xs.length ≤ i⟩
theorem turn_enum {P : Program} {w : World} {K : PySem.W.Frag} {elts : List Expr} {k : Nat} {tp : Pos} (l e it : Addr) (hne : e ≠ it) :
    Turn P w K (.Tuple elts k tp) (Ite K l) [e, it] e (fun i h => (∃ old, IsEnum h e it (i : Nat) old) ∧ h.IsListIter it l i) where
  mem := by simp
  obj := fun i h st b hb => by
    obtain ⟨⟨old, he⟩, hi⟩ := st
    rcases List.mem_cons.mp hb with z | z
    · subst z
      exact ⟨_, he, fun v q => by
        have q' : Data.fields _ = Data.cell v := q
        cases q'⟩
    · have z' : b = it := by simpa using z
      subst z'
      obtain ⟨o, e, c, d⟩ := hi
      exact ⟨o, e, fun v q => by rw [d] at q; cases q⟩
  keep := fun i h h' st kk => by
    obtain ⟨⟨old, he⟩, hi⟩ := st
    exact ⟨⟨old, kk e (by simp) _ he⟩, hi.at fun o q => kk it (by simp) o q⟩
  item := by
    intro X hP hw hK hc i pins s σ H E I hf st hg
    subst hP hw hK
    obtain ⟨xs, x, hq, hx⟩ := hg
    obtain ⟨its, rv, p, hz⟩ := I.list hq
    obtain ⟨u, hu, ru⟩ := rv.get hx
    obtain ⟨⟨old, he⟩, hit⟩ := st
    have le : e < s.heap.objs.size := Heap.lt_size he
    have li : it < s.heap.objs.size := by obtain ⟨_, q, _⟩ := hit; exact Heap.lt_size q
    refine wpAny_pyNext_enum_item he hit p.isList (x := u) (by simpa using hu) hne fun h1 ho hit1 hT hsz hk => ?_
    refine ⟨_, rfl, wpAny_letOwnedTupleGo_enum ho fun h2 he2 hs2 => ?_⟩
    replace hs2 : Heap.SameBut e h1 h2 := hs2
    have up : ∀ b o, b ∉ [e, it] → s.heap.get? b = some o → h2.get? b = some o := fun b o hb q => (hs2.2 b (fun z => hb (by simp [z]))).trans (hk b o (fun z => hb (by simp [z])) (fun z => hb (by simp [z])) q)
    have hT2 : h2.get? s.heap.objs.size = some { cls := .type "tuple", data := .seq #[.int i s.toks, u] } := (hs2.2 _ (Nat.ne_of_gt le)).trans hT
    refine ⟨.ref s.heap.objs.size, upd H s.heap.objs.size (.tup [.int i, x]), I.turnLay (ch := [e, it]) (t' := s.toks + 1) hf up (Nat.le_refl _) ⟨two_ok, [.int i s.toks, u], .cons ⟨_, rfl⟩ (.cons ru .nil), ⟨_, hT2, rfl, _, rfl⟩⟩, rfl,
      ⟨_, x, I.fresh, rfl, rfl, fun ys hy => by rw [I.list_inj hy hq]; exact hx⟩, ⟨⟨u, by simpa using he2⟩, hit1.at fun o q => (hs2.2 it (Ne.symm hne)).trans q⟩, fun b hb => ?_⟩
    have hlt : b < s.heap.objs.size := by
      rcases List.mem_cons.mp hb with z | z
      · rw [z]; exact le
      · have z' : b = it := by simpa using z
        rw [z']; exact li
    rw [upd_ne (Nat.ne_of_lt hlt)]
    exact (hf b hb).1
  done := by
    intro X hP hw hK hc i pins s σ H E I hf st hg
    subst hP hw hK
    obtain ⟨xs, hq, hx⟩ := hg
    obtain ⟨its, rv, p, hz⟩ := I.list hq
    obtain ⟨⟨old, he⟩, hit⟩ := st
    have hl := rv.length
    exact wpAny_pyNext_enum_end (I.ok.hd hc) he hit p.isList (by simp; omega) fun h1 eb => ⟨rfl, I.turnL (ch := [e, it]) (t' := s.toks) hf fun b o hb q => eb b o (fun z => hb (by simp [z])) q⟩
  self := fun A i s Q E st h => by
    obtain ⟨⟨old, he⟩, _⟩ := st
    exact wpAny_pyIter_enum he h
def iEnum (K : PySem.W.Frag) (ta : TA) : TI := fun σ H R => ta σ H fun vs H1 => ∃ l xs, vs = [.ref l] ∧ SqL K H1 l xs ∧ R (Ite K l) H1
theorem pi_enum {X : Cx} {a : Expr} {ta : TA} {p cp tp : Pos} {elts : List Expr} {k : Nat} (hg : Gl X "enumerate") (hm : X.mg "enumerate" = none) (ha : PA X [a] ta) (hs : starEach [a] X.env = [(false, eval a X.env)] := by rfl) :
    PI X (.Tuple elts k tp) (.Call (.Name "enumerate" p) [a] [] cp) (iEnum X.K ta) := by
  intro pins s σ H R I h
  refine Call_ (ld_blt I hg hm boot_enumerate (PyProof.Rows.callWith_type1 (thn (ha cp pins s σ H _ I h) fun us s1 ⟨vs, H1, I1, r1, q1⟩ => ?_) hs rfl))
  obtain ⟨l, xs, e, hq, q⟩ := q1
  subst e
  cases r1 with
  | cons r rr =>
    cases rr
    cases r
    obtain ⟨its, rv, pl, hz⟩ := I1.list hq
    refine call_enumerate_list pl.isList fun h1 he hit hsz hk => wpAny_pyIter_enum he ?_
    refine ⟨s1.heap.objs.size + 1, [s1.heap.objs.size + 1, s1.heap.objs.size], _, _, H1, rfl, I1.kept (t' := s1.toks) hk, turn_enum l _ _ (Nat.succ_ne_self _), ⟨⟨_, by simpa using he⟩, hit⟩, fun b hb => ?_, q⟩
    have hle : s1.heap.objs.size ≤ b := by
      rcases List.mem_cons.mp hb with z | z
      · rw [z]; exact Nat.le_succ _
      · have z' : b = s1.heap.objs.size := by simpa using z
        rw [z']; exact Nat.le_refl _
    exact I1.fpOk hle (I1.hok.fresh hle)

/-! ### zip: a turn by two iterators of any kind -/
section
variable {prog : Program} {w : World} {A : Around} {E : Value → Shared → Prop} {s : Shared}
theorem zip_turn {z TI TO i1 i2 : Addr} {x y a b : Value} {P1 P2 : Heap → Prop} {Q : Value → Shared → Prop} (dO : TO ≠ z) (d1 : i1 ≠ z) (d2 : i2 ≠ z) (dO1 : TO ≠ i1) (dO2 : TO ≠ i2) (d12 : i1 ≠ i2)
    (hz : IsZip s.heap z TI TO .none) (hTI : IsPair s.heap TI (.ref i1) (.ref i2)) (hTO : IsPair s.heap TO a b)
    (n1 : ∀ (g : Heap) (Q : Value → Shared → Prop) (E : Value → Shared → Prop), (∀ c o, c ≠ z → s.heap.get? c = some o → g.get? c = some o) → (∀ g', P1 g' → Heap.SameBut i1 g g' → Q x { s with heap := g' }) →
      wpAny (model prog w) A (Builtin.SmallTypes.nextOf (.ref i1)) Q E { s with heap := g })
    (n2 : ∀ (g : Heap) (Q : Value → Shared → Prop) (E : Value → Shared → Prop), (∀ c o, c ≠ z → c ≠ TO → c ≠ i1 → s.heap.get? c = some o → g.get? c = some o) → (∀ g', P2 g' → Heap.SameBut i2 g g' → Q y { s with heap := g' }) →
      wpAny (model prog w) A (Builtin.SmallTypes.nextOf (.ref i2)) Q E { s with heap := g })
    (k1 : ∀ g g' : Heap, P1 g → (∀ o, g.get? i1 = some o → g'.get? i1 = some o) → P1 g') (k2 : ∀ g g' : Heap, P2 g → (∀ o, g.get? i2 = some o → g'.get? i2 = some o) → P2 g')
    (hQ : ∀ g, IsZip g z TI TO (rawInt s.heap.objs.size) → IsPair g TO x y → P1 g → P2 g → IsPair g s.heap.objs.size x y →
      (∀ c o, c ≠ z → c ≠ TO → c ≠ i1 → c ≠ i2 → s.heap.get? c = some o → g.get? c = some o) → Q (.ref s.heap.objs.size) { s with heap := g }) :
    wpAny (model prog w) A (Builtin.«zip.__next__» ⟨[.ref z], []⟩) (fun fin s' => ∃ v, fin = .done (.ret v) ∧ Q v s') E s := by
  show wpAny _ _ (field (.ref z) 2 >>= _) _ _ _
  refine wpAny_bind (wpAny_field hz rfl (x := .bool false) rfl ?_)
  show wpAny _ _ (field (.ref z) 3 >>= _) _ _ _
  refine wpAny_bind (wpAny_field hz rfl (x := .ref TI) rfl (wpAny_bind (wpAny_seqItems hTI rfl ?_)))
  show wpAny _ _ (Builtin.SmallTypes.ownedTupleIsFree (.ref z) >>= _) _ _ _
  refine wpAny_bind ?_
  unfold Builtin.SmallTypes.ownedTupleIsFree
  refine wpAny_bind (wpAny_field hz rfl (x := .none) rfl (wpAny_pure ?_))
  simp only [if_true]
  refine wpAny_bind (wpAny_rule (wpAny_bind (wpAny_field hz rfl (x := .ref TO) rfl ?_)))
  refine wpAny_bind (wpAny_setField_rec hz (by simp) fun g1 z1 e1 => wpAny_bind ?_)
  replace z1 : IsZip g1 z TI TO .ellipsis := z1
  replace e1 : Heap.SameBut z s.heap g1 := e1
  simp only [List.zipIdx_cons, List.zipIdx_nil, List.forIn_cons, List.forIn_nil]
  refine wpAny_bind (wpAny_bind (wpAny_onRaise ?_))
  show wpAny _ _ (Builtin.SmallTypes.nextOf (.ref i1) >>= _) _ _ { s with heap := g1 }
  refine wpAny_bind (n1 g1 _ _ (fun c o c1 e => e1.extBut _ _ c1 e) fun g2 p2 e2 => wpAny_pure ?_)
  have o2 : IsPair g2 TO a b := e2.extBut _ _ dO1 (e1.extBut _ _ dO hTO)
  refine wpAny_bind (wpAny_seqItems o2 rfl (wpAny_bind (wpAny_updateSeq_pair o2 fun g3 o3 e3 => ?_)))
  replace o3 : IsPair g3 TO x b := o3
  replace e3 : Heap.SameBut TO g2 g3 := e3
  refine wpAny_bind (wpAny_letGo (wpAny_pure ?_))
  refine wpAny_bind (wpAny_bind (wpAny_onRaise ?_))
  show wpAny _ _ (Builtin.SmallTypes.nextOf (.ref i2) >>= _) _ _ { s with heap := g3 }
  refine wpAny_bind (n2 g3 _ _ (fun c o c1 c2 c3 e => e3.extBut _ _ c2 (e2.extBut _ _ c3 (e1.extBut _ _ c1 e))) fun g4 p4 e4 => wpAny_pure ?_)
  have o4 : IsPair g4 TO x b := e4.extBut _ _ dO2 o3
  refine wpAny_bind (wpAny_seqItems o4 rfl (wpAny_bind (wpAny_updateSeq_pair o4 fun g5 o5 e5 => ?_)))
  replace o5 : IsPair g5 TO x y := o5
  replace e5 : Heap.SameBut TO g4 g5 := e5
  refine wpAny_bind (wpAny_letGo (wpAny_pure (wpAny_pure ?_)))
  refine wpAny_bind (wpAny_seqItems o5 rfl (wpAny_bind (wpAny_newTuple ?_)))
  have sz : g5.objs.size = s.heap.objs.size := by rw [e5.1, e4.1, e3.1, e2.1, e1.1]
  have z5 : IsZip g5 z TI TO .ellipsis := e5.extBut _ _ (Ne.symm dO) (e4.extBut _ _ (Ne.symm d2) (e3.extBut _ _ (Ne.symm dO) (e2.extBut _ _ (Ne.symm d1) z1)))
  have k5 : ∀ c o, c ≠ z → c ≠ TO → c ≠ i1 → c ≠ i2 → s.heap.get? c = some o → g5.get? c = some o := fun c o c1 c2 c3 c4 e =>
    e5.extBut _ _ c2 (e4.extBut _ _ c4 (e3.extBut _ _ c2 (e2.extBut _ _ c3 (e1.extBut _ _ c1 e))))
  have p5 : P1 g5 := k1 g2 g5 p2 fun o e => e5.extBut _ _ (Ne.symm dO1) (e4.extBut _ _ d12 (e3.extBut _ _ (Ne.symm dO1) e))
  have q5 : P2 g5 := k2 g4 g5 p4 fun o e => e5.extBut _ _ (Ne.symm dO2) e
  have zl : z < g5.objs.size := Heap.lt_size z5
  show wpAny _ _ (Builtin.SmallTypes.ownedTupleHandOut (.ref z) (.ref g5.objs.size) >>= _) _ _ _
  refine wpAny_bind ?_
  unfold Builtin.SmallTypes.ownedTupleHandOut
  have z6 : IsZip (g5.push { cls := .type "tuple", data := .seq #[x, y] }) z TI TO .ellipsis := Heap.get?_push_of_some _ z5
  refine wpAny_bind (wpAny_setField_rec z6 (by simp) fun g7 z7 e7 => ?_)
  replace z7 : IsZip g7 z TI TO (rawInt g5.objs.size) := z7
  refine wpAny_setField_rec z7 (by simp) fun g8 z8 e8 => ?_
  replace z8 : IsZip g8 z TI TO (rawInt g5.objs.size) := z8
  have up : ∀ c o, c ≠ z → g5.get? c = some o → g8.get? c = some o := fun c o c1 e => e8.extBut _ _ c1 (e7.extBut _ _ c1 (Heap.get?_push_of_some _ e))
  have t8 : IsPair g8 g5.objs.size x y := e8.extBut _ _ (Nat.ne_of_gt zl) (e7.extBut _ _ (Nat.ne_of_gt zl) (Heap.get?_push_size _ rfl))
  rw [sz] at z8 t8
  refine wpAny_pure ⟨_, rfl, ?_⟩
  show Q (.ref g5.objs.size) _
  rw [sz]
  exact hQ g8 z8 (up _ _ dO o5) (k1 g5 g8 p5 fun o e => up _ o d1 e) (k2 g5 g8 q5 fun o e => up _ o d2 e) t8 fun c o c1 c2 c3 c4 e => up c o c1 (k5 c o c1 c2 c3 c4 e)

/-- the end, where the first iterator has come to its own -/
theorem zip_over {z TI TO i1 i2 : Addr} {a b : Value} {Q : Fin → Shared → Prop} (d1 : i1 ≠ z)
    (hz : IsZip s.heap z TI TO .none) (hTI : IsPair s.heap TI (.ref i1) (.ref i2)) (hTO : IsPair s.heap TO a b)
    (n1 : ∀ (g : Heap) (Q : Value → Shared → Prop) (E : Value → Shared → Prop), (∀ c o, c ≠ z → s.heap.get? c = some o → g.get? c = some o) →
      (∀ g' e, Heap.ExtBut i1 g g' → (∃ o, g'.get? e = some o ∧ o.cls = .type "StopIteration") → E (.ref e) { s with heap := g' }) → wpAny (model prog w) A (Builtin.SmallTypes.nextOf (.ref i1)) Q E { s with heap := g })
    (hE : ∀ g e, (∀ c o, c ≠ z → c ≠ i1 → s.heap.get? c = some o → g.get? c = some o) → (∃ o, g.get? e = some o ∧ o.cls = .type "StopIteration") → E (.ref e) { s with heap := g }) :
    wpAny (model prog w) A (Builtin.«zip.__next__» ⟨[.ref z], []⟩) Q E s := by
  show wpAny _ _ (field (.ref z) 2 >>= _) _ _ _
  refine wpAny_bind (wpAny_field hz rfl (x := .bool false) rfl ?_)
  show wpAny _ _ (field (.ref z) 3 >>= _) _ _ _
  refine wpAny_bind (wpAny_field hz rfl (x := .ref TI) rfl (wpAny_bind (wpAny_seqItems hTI rfl ?_)))
  show wpAny _ _ (Builtin.SmallTypes.ownedTupleIsFree (.ref z) >>= _) _ _ _
  refine wpAny_bind ?_
  unfold Builtin.SmallTypes.ownedTupleIsFree
  refine wpAny_bind (wpAny_field hz rfl (x := .none) rfl (wpAny_pure ?_))
  simp only [if_true]
  refine wpAny_bind (wpAny_rule (wpAny_bind (wpAny_field hz rfl (x := .ref TO) rfl ?_)))
  refine wpAny_bind (wpAny_setField_rec hz (by simp) fun g1 z1 e1 => wpAny_bind ?_)
  replace z1 : IsZip g1 z TI TO .ellipsis := z1
  replace e1 : Heap.SameBut z s.heap g1 := e1
  simp only [List.zipIdx_cons, List.zipIdx_nil, List.forIn_cons, List.forIn_nil]
  refine wpAny_bind (wpAny_bind (wpAny_onRaise ?_))
  show wpAny _ _ (Builtin.SmallTypes.nextOf (.ref i1) >>= _) _ _ { s with heap := g1 }
  refine wpAny_bind (n1 g1 _ _ (fun c o c1 e => e1.extBut _ _ c1 e) fun g2 e e2 he => ?_)
  obtain ⟨oe, hoe, hce⟩ := he
  have z2 : IsZip g2 z TI TO .ellipsis := e2 _ _ (Ne.symm d1) z1
  have hez : e ≠ z := fun q => by subst q; rw [z2] at hoe; cases hoe; simp at hce
  exact wpAny_setField_rec z2 (by simp) fun g3 _ e3 => hE g3 e (fun c o c1 c3 q => e3.extBut _ _ c1 (e2 _ _ c3 (e1.extBut _ _ c1 q))) ⟨oe, e3.extBut _ _ hez hoe, hce⟩

/-- a tuple's iterator, asked for the next one from within -/
theorem nextOf_tup {it t : Addr} {i : Nat} {items : Array Value} {x : Value} {Q : Value → Shared → Prop} (hit : s.heap.IsTupleIter it t i) (ht : s.heap.IsTuple t items) (hx : items[i]? = some x)
    (hQ : ∀ g, g.IsTupleIter it t (i + 1) → Heap.SameBut it s.heap g → Q x { s with heap := g }) : wpAny (model prog w) A (Builtin.SmallTypes.nextOf (.ref it)) Q E s := by
  obtain ⟨o, ho, hc, hd⟩ := id hit
  obtain ⟨ol, hol, _, nl, hdl⟩ := id ht
  unfold Builtin.SmallTypes.nextOf
  refine wpAny_bind (wpAny_callSpecial?_slot (name := Str.ofString "__next__") hit.typeIs slot_tupleiter_next (wpAny_call_entry slot_tupleiter_next hit.typeIs entry_tupleiter_next ?_ (args_tupleiter_next _)))
  show wpAny _ _ (field (.ref it) 0 >>= _) _ _ s
  refine wpAny_bind (wpAny_field ho hd (x := .ref t) rfl ?_)
  show wpAny _ _ (if (Value.ref t == Value.none) = true then _ else _) _ _ s
  rw [if_neg (show ¬ ((Value.ref t == Value.none) = true) from Bool.false_ne_true)]
  show wpAny _ _ (field (.ref it) 1 >>= _) _ _ s
  refine wpAny_bind (wpAny_field ho hd (x := .int i 0) rfl ?_)
  show wpAny _ _ (seqItems? (.ref t) >>= _) _ _ s
  refine wpAny_bind (wpAny_seqItems hol hdl ?_)
  simp only [Int.toNat_natCast, hx]
  refine wpAny_bind (wpAny_setField ho hd (by simp) (wpAny_pure ⟨x, rfl, wpAny_pure (hQ _ ?_ (Heap.SameBut.update ..))⟩))
  exact ⟨_, Heap.get?_update_self _ ho (Obj.isFreed_of_fields (Obj.data_mapFields hd _)), (Obj.cls_mapFields ..).trans hc, by rw [Obj.data_mapFields hd]; simp [rawInt]⟩
theorem nextOf_tup_end {it t : Addr} {i : Nat} {items : Array Value} {Q : Value → Shared → Prop} (hh : A.handled = none) (hit : s.heap.IsTupleIter it t i) (ht : s.heap.IsTuple t items) (hx : items[i]? = none)
    (hE : ∀ g e, Heap.ExtBut it s.heap g → (∃ o, g.get? e = some o ∧ o.cls = .type "StopIteration") → E (.ref e) { s with heap := g }) : wpAny (model prog w) A (Builtin.SmallTypes.nextOf (.ref it)) Q E s := by
  obtain ⟨o, ho, hc, hd⟩ := id hit
  obtain ⟨ol, hol, _, nl, hdl⟩ := id ht
  unfold Builtin.SmallTypes.nextOf
  refine wpAny_bind (wpAny_callSpecial?_slot (name := Str.ofString "__next__") hit.typeIs slot_tupleiter_next (wpAny_call_entry slot_tupleiter_next hit.typeIs entry_tupleiter_next ?_ (args_tupleiter_next _)))
  show wpAny _ _ (field (.ref it) 0 >>= _) _ _ s
  refine wpAny_bind (wpAny_field ho hd (x := .ref t) rfl ?_)
  show wpAny _ _ (if (Value.ref t == Value.none) = true then _ else _) _ _ s
  rw [if_neg (show ¬ ((Value.ref t == Value.none) = true) from Bool.false_ne_true)]
  show wpAny _ _ (field (.ref it) 1 >>= _) _ _ s
  refine wpAny_bind (wpAny_field ho hd (x := .int i 0) rfl ?_)
  show wpAny _ _ (seqItems? (.ref t) >>= _) _ _ s
  refine wpAny_bind (wpAny_seqItems hol hdl ?_)
  simp only [Int.toNat_natCast, hx]
  refine wpAny_bind (wpAny_rule (wpAny_bind (wpAny_setField ho hd (by simp) ?_)))
  show wpAny _ _ (newExc (.type "StopIteration") [] >>= _) _ _ _
  refine wpAny_bind ?_
  simp only [newExc, newTuple]
  refine wpAny_bind (wpAny_newObj_type ?_ (by size_fits))
  refine wpAny_bind (m := firstArgMember _ _) (wpAny_of_eq (a := Value.none) (by first | rfl | (simp only [firstArgMember]; rfl)) (wpAny_newObj_type ?_ (by size_fits)))
  simp only [raiseNew]
  refine wpAny_bind (wpAny_handled ?_)
  first | rw [show A.in1.handled = none from hh] | rw [hh]
  exact wpAny_bind (wpAny_pure (wpAny_throw (hE _ _ (((Heap.SameBut.update ..).extBut.push _).push _) ⟨_, Heap.get?_push_size _ rfl, rfl⟩)))
end
end L2

/-! EVENLOTS' OWN RULES over the hand layer, 3: zip(a, b) of two tracked lists, or of two tracked tuples. -/
namespace L2
open PySem PySem.Spec PyProof.Rows

section
variable {prog : Program} {w : World} {A : Around} {E : Value → Shared → Prop} {s : Shared}
theorem next_zip {z TI TO i1 i2 : Addr} {x y a b : Value} {P1 P2 : Heap → Prop} {Q : Option Value → Shared → Prop} (dO : TO ≠ z) (d1 : i1 ≠ z) (d2 : i2 ≠ z) (dO1 : TO ≠ i1) (dO2 : TO ≠ i2) (d12 : i1 ≠ i2)
    (hz : IsZip s.heap z TI TO .none) (hTI : IsPair s.heap TI (.ref i1) (.ref i2)) (hTO : IsPair s.heap TO a b)
    (n1 : ∀ (A : Around) (g : Heap) (Q : Value → Shared → Prop) (E : Value → Shared → Prop), (∀ c o, c ≠ z → s.heap.get? c = some o → g.get? c = some o) → (∀ g', P1 g' → Heap.SameBut i1 g g' → Q x { s with heap := g' }) →
      wpAny (model prog w) A (Builtin.SmallTypes.nextOf (.ref i1)) Q E { s with heap := g })
    (n2 : ∀ (A : Around) (g : Heap) (Q : Value → Shared → Prop) (E : Value → Shared → Prop), (∀ c o, c ≠ z → c ≠ TO → c ≠ i1 → s.heap.get? c = some o → g.get? c = some o) → (∀ g', P2 g' → Heap.SameBut i2 g g' → Q y { s with heap := g' }) →
      wpAny (model prog w) A (Builtin.SmallTypes.nextOf (.ref i2)) Q E { s with heap := g })
    (k1 : ∀ g g' : Heap, P1 g → (∀ o, g.get? i1 = some o → g'.get? i1 = some o) → P1 g') (k2 : ∀ g g' : Heap, P2 g → (∀ o, g.get? i2 = some o → g'.get? i2 = some o) → P2 g')
    (hQ : ∀ g, IsZip g z TI TO (rawInt s.heap.objs.size) → IsPair g TO x y → P1 g → P2 g → IsPair g s.heap.objs.size x y →
      (∀ c o, c ≠ z → c ≠ TO → c ≠ i1 → c ≠ i2 → s.heap.get? c = some o → g.get? c = some o) → Q (some (.ref s.heap.objs.size)) { s with heap := g }) : wpAny (model prog w) A (pyNext (.ref z)) Q E s := by
  have hT : s.TypeIs (.ref z) "zip" := ⟨_, hz, rfl⟩
  unfold pyNext
  exact wpAny_bind (wpAny_attempt (wpAny_callSpecial?_slot (name := Str.ofString "__next__") hT F.slot_zip_next (wpAny_call_entry F.slot_zip_next hT F.entry_zip_next
    (zip_turn dO d1 d2 dO1 dO2 d12 hz hTI hTO (fun g Q E => n1 _ g Q E) (fun g Q E => n2 _ g Q E) k1 k2 fun g a1 a2 a3 a4 a5 a6 => wpAny_pure (hQ g a1 a2 a3 a4 a5 a6)) (F.args_zip_next_1 _))))
theorem next_zip_end {z TI TO i1 i2 : Addr} {a b : Value} {Q : Option Value → Shared → Prop} (hh : A.handled = none) (d1 : i1 ≠ z)
    (hz : IsZip s.heap z TI TO .none) (hTI : IsPair s.heap TI (.ref i1) (.ref i2)) (hTO : IsPair s.heap TO a b)
    (n1 : ∀ (A : Around) (g : Heap) (Q : Value → Shared → Prop) (E : Value → Shared → Prop), A.handled = none → (∀ c o, c ≠ z → s.heap.get? c = some o → g.get? c = some o) →
      (∀ g' e, Heap.ExtBut i1 g g' → (∃ o, g'.get? e = some o ∧ o.cls = .type "StopIteration") → E (.ref e) { s with heap := g' }) → wpAny (model prog w) A (Builtin.SmallTypes.nextOf (.ref i1)) Q E { s with heap := g })
    (hQ : ∀ g, (∀ c o, c ≠ z → c ≠ i1 → s.heap.get? c = some o → g.get? c = some o) → Q none { s with heap := g }) : wpAny (model prog w) A (pyNext (.ref z)) Q E s := by
  have hT : s.TypeIs (.ref z) "zip" := ⟨_, hz, rfl⟩
  unfold pyNext
  refine wpAny_bind (wpAny_attempt (wpAny_callSpecial?_slot (name := Str.ofString "__next__") hT F.slot_zip_next (wpAny_call_entry F.slot_zip_next hT F.entry_zip_next
    (zip_over d1 hz hTI hTO (fun g Q E k e => n1 _ g Q E hh k e) fun g e kk he => ?_) (F.args_zip_next_1 _))))
  obtain ⟨o, ho, hc⟩ := he
  exact wpAny_bind (wpAny_isInstance (T := "StopIteration") (b := true) ⟨o, ho, hc⟩ isSubtype_stop (wpAny_pure (hQ _ kk)))

/-! zip of two tuples is made -/
abbrev zt1 (h : Heap) (l1 : Addr) : Heap := h.push { cls := .type "tuple_iterator", data := .fields #[.ref l1, .int 0 0] }
abbrev zt2 (h : Heap) (l1 l2 : Addr) : Heap := (zt1 h l1).push { cls := .type "tuple_iterator", data := .fields #[.ref l2, .int 0 0] }
abbrev zt3 (h : Heap) (l1 l2 : Addr) : Heap := (zt2 h l1 l2).push { cls := .type "tuple", data := .seq #[.ref h.objs.size, .ref (zt1 h l1).objs.size] }
abbrev zt4 (h : Heap) (l1 l2 : Addr) : Heap := (zt3 h l1 l2).push { cls := .type "tuple", data := .seq #[.none, .none] }
abbrev zt5 (h : Heap) (l1 l2 : Addr) : Heap := (zt4 h l1 l2).push { cls := .type "zip", data := .fields #[.none, .bool false, .bool false, .ref (zt2 h l1 l2).objs.size, .ref (zt3 h l1 l2).objs.size] }
theorem tup_push {h : Heap} {a : Addr} {items : Array Value} (x : h.IsTuple a items) (o : Obj) : (h.push o).IsTuple a items := let ⟨p, ho, r⟩ := x; ⟨p, Heap.get?_push_of_some _ ho, r⟩
theorem meets_zip_tup (l1 l2 : Addr) (xs ys : Array Value) :
    Meets (Builtin.«zip.__new__» ⟨[.type "zip", .ref l1, .ref l2], []⟩) (fun _ R s => s.heap.IsTuple l1 xs ∧ s.heap.IsTuple l2 ys ∧ R (.ok (.ret (.ref (zt4 s.heap l1 l2).objs.size))) { s with heap := zt5 s.heap l1 l2 }) :=
  .of_wp fun prog w A R s h => by
    obtain ⟨hp, g, d, tk, os⟩ := s; obtain ⟨hl1, hl2, h⟩ := h
    have hsub := sub_zip
    have hA : Heap.IsTuple (Shared.heap ⟨hp, g, d, tk, os⟩) l1 xs := hl1
    have hB : Heap.IsTuple (Shared.heap ⟨hp.push { cls := .type "tuple_iterator", data := .fields #[.ref l1, .int 0 0] }, g, d, tk, os⟩) l2 ys := tup_push hl2 _
    wp_walk using wpAny_pyIter_tuple hA, wpAny_pyIter_tuple hB
    exact ⟨_, rfl, h⟩
theorem zip_tups {l1 l2 : Addr} {xs ys : Array Value} {Q : Value → Shared → Prop} (hl1 : s.heap.IsTuple l1 xs) (hl2 : s.heap.IsTuple l2 ys)
    (h : ∀ g, IsZip g (s.heap.objs.size + 4) (s.heap.objs.size + 2) (s.heap.objs.size + 3) .none → IsPair g (s.heap.objs.size + 2) (.ref s.heap.objs.size) (.ref (s.heap.objs.size + 1)) →
      IsPair g (s.heap.objs.size + 3) .none .none → g.IsTupleIter s.heap.objs.size l1 0 → g.IsTupleIter (s.heap.objs.size + 1) l2 0 → (∀ c o, s.heap.get? c = some o → g.get? c = some o) → Q (.ref (s.heap.objs.size + 4)) { s with heap := g }) :
    wpAny (model prog w) A (call (.type "zip") [.ref l1, .ref l2]) Q E s := by
  refine callType_new F.called_zip (by decide) (F.typeCall_zip_2 _ _) (F.newCall_zip_2 _ _) (fun obj => F.args_object_init_3 obj _ _) F.entry_zip_new (meets_zip_tup l1 l2 xs ys) ⟨hl1, hl2, ?_⟩
  have w1 : (zt1 s.heap l1).objs.size = s.heap.objs.size + 1 := Heap.size_push ..
  have w2 : (zt2 s.heap l1 l2).objs.size = s.heap.objs.size + 2 := by rw [Heap.size_push, w1]
  have w3 : (zt3 s.heap l1 l2).objs.size = s.heap.objs.size + 3 := by rw [Heap.size_push, w2]
  have w4 : (zt4 s.heap l1 l2).objs.size = s.heap.objs.size + 4 := by rw [Heap.size_push, w3]
  have v5 : (zt5 s.heap l1 l2).get? (zt4 s.heap l1 l2).objs.size = some _ := Heap.get?_push_size _ rfl
  have v4 : (zt5 s.heap l1 l2).get? (zt3 s.heap l1 l2).objs.size = some _ := Heap.get?_push_of_some _ (Heap.get?_push_size _ rfl)
  have v3 : (zt5 s.heap l1 l2).get? (zt2 s.heap l1 l2).objs.size = some _ := Heap.get?_push_of_some _ (Heap.get?_push_of_some _ (Heap.get?_push_size _ rfl))
  have v2 : (zt5 s.heap l1 l2).get? (zt1 s.heap l1).objs.size = some _ := Heap.get?_push_of_some _ (Heap.get?_push_of_some _ (Heap.get?_push_of_some _ (Heap.get?_push_size _ rfl)))
  have v1 : (zt5 s.heap l1 l2).get? s.heap.objs.size = some _ := Heap.get?_push_of_some _ (Heap.get?_push_of_some _ (Heap.get?_push_of_some _ (Heap.get?_push_of_some _ (Heap.get?_push_size _ rfl))))
  show _ ∧ _
  rw [w2, w3, w4] at v5
  rw [w1, w2] at v3
  rw [w3] at v4
  rw [w1] at v2
  rw [w4]
  exact ⟨⟨_, v5, rfl⟩, h _ v5 v3 v4 ⟨_, v1, rfl, rfl⟩ ⟨_, v2, rfl, rfl⟩ fun c o x => Heap.get?_push_of_some _ (Heap.get?_push_of_some _ (Heap.get?_push_of_some _ (Heap.get?_push_of_some _ (Heap.get?_push_of_some _ x))))⟩
end

/-- c: HO.lst or HO.tup -/
def Itz (c : List V → HO) (l1 l2 : Addr) : It :=
  ⟨fun i H => ∃ xs ys x y, H l1 = some (c xs) ∧ H l2 = some (c ys) ∧ xs[i]? = some x ∧ ys[i]? = some y,
   fun i H v H' => ∃ T x y, H T = none ∧ v = .ref T ∧ H' = upd H T (.tup [x, y]) ∧ (∀ xs, H l1 = some (c xs) → xs[i]? = some x) ∧ ∀ ys, H l2 = some (c ys) → ys[i]? = some y,
   fun i H => ∃ xs, H l1 = some (c xs) ∧ xs.length ≤ i⟩
/-- what an iterator over an object of the kind c is -/
structure SeqK (P : Program) (w : World) (c : List V → HO) (IsS : Heap → Addr → Array Value → Prop) (IsI : Heap → Addr → Addr → Nat → Prop) : Prop where
  inj : ∀ xs ys, c xs = c ys → xs = ys
  rd : ∀ {H : Hp} {h : Heap} {a : Addr} {xs : List V}, HOk P w H h → H a = some (c xs) → ∃ its : List Value, Vals xs its ∧ IsS h a its.toArray
  at_ : ∀ {h g : Heap} {a : Addr} {v : Array Value}, IsS h a v → (∀ o, h.get? a = some o → g.get? a = some o) → IsS g a v
  iat : ∀ {h g : Heap} {a l : Addr} {i : Nat}, IsI h a l i → (∀ o, h.get? a = some o → g.get? a = some o) → IsI g a l i
  iob : ∀ {h : Heap} {a l : Addr} {i : Nat}, IsI h a l i → ∃ o, h.get? a = some o ∧ ∀ v, o.data ≠ .cell v
  nx : ∀ {A : Around} {s : Shared} {E : Value → Shared → Prop} {Q : Value → Shared → Prop} {it l : Addr} {i : Nat} {its : Array Value} {x : Value}, IsI s.heap it l i → IsS s.heap l its → its[i]? = some x →
    (∀ g, IsI g it l (i + 1) → Heap.SameBut it s.heap g → Q x { s with heap := g }) → wpAny (model P w) A (Builtin.SmallTypes.nextOf (.ref it)) Q E s
  nd : ∀ {A : Around} {s : Shared} {E : Value → Shared → Prop} {Q : Value → Shared → Prop} {it l : Addr} {i : Nat} {its : Array Value}, A.handled = none → IsI s.heap it l i → IsS s.heap l its → its[i]? = none →
    (∀ g e, Heap.ExtBut it s.heap g → (∃ o, g.get? e = some o ∧ o.cls = .type "StopIteration") → E (.ref e) { s with heap := g }) → wpAny (model P w) A (Builtin.SmallTypes.nextOf (.ref it)) Q E s
theorem seqk_lst {P : Program} {w : World} : SeqK P w HO.lst Heap.IsList Heap.IsListIter where
  inj := fun _ _ e => by cases e; rfl
  rd := fun {H h a xs} x e => by
    obtain ⟨_, its, n, r, q⟩ := x a _ e
    exact ⟨its, r, _, q, rfl, n, rfl⟩
  at_ := fun x k => x.at k
  iat := fun x k => x.at k
  iob := fun x => by
    obtain ⟨o, e, _, d⟩ := x
    exact ⟨o, e, fun v z => by rw [d] at z; cases z⟩
  nx := fun h1 h2 h3 h4 => wpAny_nextOf_list_item h1 h2 h3 h4
  nd := fun h0 h1 h2 h3 h4 => wpAny_nextOf_list_end h0 h1 h2 h3 h4
theorem seqk_tup {P : Program} {w : World} : SeqK P w HO.tup Heap.IsTuple Heap.IsTupleIter where
  inj := fun _ _ e => by cases e; rfl
  rd := fun {H h a xs} x e => by
    obtain ⟨_, its, r, q⟩ := x a _ e
    exact ⟨its, r, q⟩
  at_ := fun x k => let ⟨o, ho, r⟩ := x; ⟨o, k _ ho, r⟩
  iat := fun x k => x.at k
  iob := fun x => by
    obtain ⟨o, e, _, d⟩ := x
    exact ⟨o, e, fun v z => by rw [d] at z; cases z⟩
  nx := fun h1 h2 h3 h4 => nextOf_tup h1 h2 h3 h4
  nd := fun h0 h1 h2 h3 h4 => nextOf_tup_end h0 h1 h2 h3 h4

theorem turn_zip {P : Program} {w : World} {K : PySem.W.Frag} {elts : List Expr} {k : Nat} {tp : Pos} {c : List V → HO} {IsS : Heap → Addr → Array Value → Prop} {IsI : Heap → Addr → Addr → Nat → Prop} (S : SeqK P w c IsS IsI) (l1 l2 n : Addr) :
    Turn P w K (.Tuple elts k tp) (Itz c l1 l2) [n + 4, n + 2, n + 3, n, n + 1] (n + 4)
      (fun i h => IsZip h (n + 4) (n + 2) (n + 3) .none ∧ IsPair h (n + 2) (.ref n) (.ref (n + 1)) ∧ (∃ a b, IsPair h (n + 3) a b) ∧ IsI h n l1 i ∧ IsI h (n + 1) l2 i) where
  mem := by simp
  obj := fun i h st b hb => by
    obtain ⟨hz, hTI, ⟨a, b', hTO⟩, h1, h2⟩ := st
    simp only [List.mem_cons, List.not_mem_nil, or_false] at hb
    rcases hb with z | z | z | z | z <;> subst z
    · exact ⟨_, hz, fun v q => by have q' : Data.fields _ = Data.cell v := q; cases q'⟩
    · exact ⟨_, hTI, fun v q => by have q' : Data.seq _ _ = Data.cell v := q; cases q'⟩
    · exact ⟨_, hTO, fun v q => by have q' : Data.seq _ _ = Data.cell v := q; cases q'⟩
    · exact S.iob h1
    · exact S.iob h2
  keep := fun i h h' st kk => by
    obtain ⟨hz, hTI, ⟨a, b', hTO⟩, h1, h2⟩ := st
    exact ⟨kk _ (by simp) _ hz, kk _ (by simp) _ hTI, ⟨a, b', kk _ (by simp) _ hTO⟩, S.iat h1 fun o q => kk _ (by simp) o q, S.iat h2 fun o q => kk _ (by simp) o q⟩
  item := by
    intro X hP hw hK hc i pins s σ H E I hf st hg
    subst hP hw hK
    obtain ⟨xs, ys, x, y, e1, e2, hx, hy⟩ := hg
    obtain ⟨hz, hTI, ⟨a, b', hTO⟩, h1, h2⟩ := st
    obtain ⟨is1, rv1, p1⟩ := S.rd I.hok e1
    obtain ⟨is2, rv2, p2⟩ := S.rd I.hok e2
    obtain ⟨u, hu, ru⟩ := rv1.get hx
    obtain ⟨v, hv, rv⟩ := rv2.get hy
    have ap : ∀ l xs, H l = some (c xs) → ∀ b ∈ [n + 4, n + 2, n + 3, n, n + 1], l ≠ b := fun l xs e b hb z => by
      have q := (hf b hb).1
      rw [← z, e] at q
      cases q
    have lz : @LT.lt Nat _ (n + 4) s.heap.objs.size := Heap.lt_size hz
    refine next_zip (P1 := fun g => IsI g n l1 (i + 1)) (P2 := fun g => IsI g (n + 1) l2 (i + 1)) (x := u) (y := v) (by first | exact Nat.ne_of_lt (by omega) | exact Nat.ne_of_gt (by omega)) (by first | exact Nat.ne_of_lt (by omega) | exact Nat.ne_of_gt (by omega)) (by first | exact Nat.ne_of_lt (by omega) | exact Nat.ne_of_gt (by omega)) (by first | exact Nat.ne_of_lt (by omega) | exact Nat.ne_of_gt (by omega)) (by first | exact Nat.ne_of_lt (by omega) | exact Nat.ne_of_gt (by omega)) (by first | exact Nat.ne_of_lt (by omega) | exact Nat.ne_of_gt (by omega)) hz hTI hTO
      (fun A g Q E kk hQ => S.nx (s := { s with heap := g }) (S.iat h1 fun o q => kk _ o (by first | exact Nat.ne_of_lt (by omega) | exact Nat.ne_of_gt (by omega)) q) (S.at_ p1 fun o q => kk _ o (ap _ _ e1 _ (by simp)) q) (by simpa using hu) hQ)
      (fun A g Q E kk hQ => S.nx (s := { s with heap := g }) (S.iat h2 fun o q => kk _ o (by first | exact Nat.ne_of_lt (by omega) | exact Nat.ne_of_gt (by omega)) (by first | exact Nat.ne_of_lt (by omega) | exact Nat.ne_of_gt (by omega)) (by first | exact Nat.ne_of_lt (by omega) | exact Nat.ne_of_gt (by omega)) q) (S.at_ p2 fun o q => kk _ o (ap _ _ e2 _ (by simp)) (ap _ _ e2 _ (by simp)) (ap _ _ e2 _ (by simp)) q) (by simpa using hv) hQ)
      (fun g g' p q => S.iat p q) (fun g g' p q => S.iat p q) fun g a1 a2 a3 a4 a5 a6 => ?_
    refine ⟨_, rfl, wpAny_letOwnedTupleGo_zip a1 fun g2 z2 s2 => ?_⟩
    replace s2 : Heap.SameBut (n + 4) g g2 := s2
    have up : ∀ b o, b ∉ [n + 4, n + 2, n + 3, n, n + 1] → s.heap.get? b = some o → g2.get? b = some o := fun b o hb q =>
      (s2.2 b (fun z => hb (by simp [z]))).trans (a6 b o (fun z => hb (by simp [z])) (fun z => hb (by simp [z])) (fun z => hb (by simp [z])) (fun z => hb (by simp [z])) q)
    have hT2 : g2.get? s.heap.objs.size = some { cls := .type "tuple", data := .seq #[u, v] } := (s2.2 _ (by first | exact Nat.ne_of_lt (by omega) | exact Nat.ne_of_gt (by omega))).trans a5
    have lt : ∀ b ∈ [n + 4, n + 2, n + 3, n, n + 1], b < s.heap.objs.size := fun b hb => by
      simp only [List.mem_cons, List.not_mem_nil, or_false] at hb
      rcases hb with z | z | z | z | z <;> (rw [z]; first | exact Nat.le_add_right _ _ | exact Nat.le_refl _ | exact Nat.lt_of_le_of_lt (by omega) lz)
    refine ⟨.ref s.heap.objs.size, upd H s.heap.objs.size (.tup [x, y]), I.turnLay (t' := s.toks) hf up (Nat.le_refl _) ⟨two_ok, [u, v], .cons ru (.cons rv .nil), ⟨_, hT2, rfl, _, rfl⟩⟩, rfl,
      ⟨_, x, y, I.fresh, rfl, rfl, fun zs hz' => ?_, fun zs hz' => ?_⟩, ⟨z2, (s2.2 _ (by first | exact Nat.ne_of_lt (by omega) | exact Nat.ne_of_gt (by omega))).trans (a6 _ _ (by first | exact Nat.ne_of_lt (by omega) | exact Nat.ne_of_gt (by omega)) (by first | exact Nat.ne_of_lt (by omega) | exact Nat.ne_of_gt (by omega)) (by first | exact Nat.ne_of_lt (by omega) | exact Nat.ne_of_gt (by omega)) (by first | exact Nat.ne_of_lt (by omega) | exact Nat.ne_of_gt (by omega)) hTI), ⟨_, _, (s2.2 _ (by first | exact Nat.ne_of_lt (by omega) | exact Nat.ne_of_gt (by omega))).trans a2⟩, S.iat a3 fun o q => (s2.2 _ (by first | exact Nat.ne_of_lt (by omega) | exact Nat.ne_of_gt (by omega))).trans q, S.iat a4 fun o q => (s2.2 _ (by first | exact Nat.ne_of_lt (by omega) | exact Nat.ne_of_gt (by omega))).trans q⟩, fun b hb => ?_⟩
    · rw [e1] at hz'
      rw [← S.inj _ _ (Option.some.inj hz')]
      exact hx
    · rw [e2] at hz'
      rw [← S.inj _ _ (Option.some.inj hz')]
      exact hy
    · rw [upd_ne (Nat.ne_of_lt (lt b hb))]
      exact (hf b hb).1
  done := by
    intro X hP hw hK hc i pins s σ H E I hf st hg
    subst hP hw hK
    obtain ⟨xs, e1, hx⟩ := hg
    obtain ⟨hz, hTI, ⟨a, b', hTO⟩, h1, h2⟩ := st
    obtain ⟨is1, rv1, p1⟩ := S.rd I.hok e1
    have hl := rv1.length
    have ne : l1 ≠ n + 4 := fun z => by
      have q := (hf (n + 4) (by simp)).1
      rw [← z, e1] at q
      cases q
    exact next_zip_end (I.ok.hd hc) (by first | exact Nat.ne_of_lt (by omega) | exact Nat.ne_of_gt (by omega)) hz hTI hTO (fun A g Q E hh kk hE => S.nd (s := { s with heap := g }) hh (S.iat h1 fun o q => kk _ o (by first | exact Nat.ne_of_lt (by omega) | exact Nat.ne_of_gt (by omega)) q) (S.at_ p1 fun o q => kk _ o ne q) (by simp; omega) hE)
      fun g kk => ⟨rfl, I.turnL (t' := s.toks) hf fun b o hb q => kk b o (fun z => hb (by simp [z])) (fun z => hb (by simp [z])) q⟩
  self := fun A i s Q E st h => wpAny_pyIter_zip st.1 h

/-- zip(a, b): two lists, or two tuples -/
def iZip (ta : TA) : TI := fun σ H R => ta σ H fun vs H1 => ∃ l1 l2, vs = [.ref l1, .ref l2] ∧ ((∃ xs ys, H1 l1 = some (.lst xs) ∧ H1 l2 = some (.lst ys) ∧ R (Itz HO.lst l1 l2) H1) ∨ ∃ xs ys, H1 l1 = some (.tup xs) ∧ H1 l2 = some (.tup ys) ∧ R (Itz HO.tup l1 l2) H1)
theorem pi_zip {X : Cx} {a b : Expr} {ta : TA} {p cp tp : Pos} {elts : List Expr} {k : Nat} (hg : Gl X "zip") (hm : X.mg "zip" = none) (ha : PA X [a, b] ta) (hs : starEach [a, b] X.env = [(false, eval a X.env), (false, eval b X.env)] := by rfl) (hs2 : starEach [b] X.env = [(false, eval b X.env)] := by rfl) :
    PI X (.Tuple elts k tp) (.Call (.Name "zip" p) [a, b] [] cp) (iZip ta) := by
  intro pins s σ H R I h
  refine Call_ (ld_blt I hg hm boot_zip (PyProof.Rows.callWith_type1 (thn (ha cp pins s σ H _ I h) fun us s1 ⟨vs, H1, I1, r1, q1⟩ => ?_) (by rw [hs, hs2]) (by rw [hs2]; rfl)))
  obtain ⟨l1, l2, e, q⟩ := q1
  subst e
  cases r1 with
  | cons r rr =>
    cases rr with
    | cons r' rr =>
      cases rr
      cases r
      cases r'
      have fpo : ∀ b ∈ [s1.heap.objs.size + 4, s1.heap.objs.size + 2, s1.heap.objs.size + 3, s1.heap.objs.size, s1.heap.objs.size + 1], FpOk X pins H1 b := fun b hb => by
        have hle : s1.heap.objs.size ≤ b := by
          simp only [List.mem_cons, List.not_mem_nil, or_false] at hb
          rcases hb with z | z | z | z | z <;> (rw [z]; first | exact Nat.le_add_right _ _ | exact Nat.le_refl _ | exact Nat.lt_of_le_of_lt (by omega) lz)
        exact I1.fpOk hle (I1.hok.fresh hle)
      rcases q with ⟨xs, ys, e1, e2, q⟩ | ⟨xs, ys, e1, e2, q⟩
      · obtain ⟨is1, rv1, p1⟩ := (seqk_lst (P := X.prog) (w := X.w)).rd I1.hok e1
        obtain ⟨is2, rv2, p2⟩ := (seqk_lst (P := X.prog) (w := X.w)).rd I1.hok e2
        refine call_zip_2 p1 p2 fun g b1 b2 b3 b4 b5 b6 kk => wpAny_pyIter_zip b1 ?_
        exact ⟨_, _, _, _, H1, rfl, I1.kept (t' := s1.toks) kk, turn_zip seqk_lst l1 l2 s1.heap.objs.size, ⟨b1, b2, ⟨_, _, b3⟩, b4, b5⟩, fpo, q⟩
      · obtain ⟨is1, rv1, p1⟩ := (seqk_tup (P := X.prog) (w := X.w)).rd I1.hok e1
        obtain ⟨is2, rv2, p2⟩ := (seqk_tup (P := X.prog) (w := X.w)).rd I1.hok e2
        refine zip_tups p1 p2 fun g b1 b2 b3 b4 b5 kk => wpAny_pyIter_zip b1 ?_
        exact ⟨_, _, _, _, H1, rfl, I1.kept (t' := s1.toks) kk, turn_zip seqk_tup l1 l2 s1.heap.objs.size, ⟨b1, b2, ⟨_, _, b3⟩, b4, b5⟩, fpo, q⟩
end L2

/-! EVENLOTS' OWN RULES over the hand layer, 4: sorted of ints, isinstance, a list beside an empty one, slices of texts, xs[::-1], // by greater divisors. -/
namespace L2
open PySem PySem.Spec PyProof.Rows
section
variable {X : Cx}
/-- sorted(xs) of ints: a new list, the same ints, rising -/
theorem call_sorted : CallR X (.builtin "sorted") (fun xs H Q => ∃ p ns, xs = [.ref p] ∧ SqL X.K H p (ns.map V.int) ∧ ∀ l (ms : List Int), H l = none → ms.Perm ns → ms.Pairwise (· ≤ ·) → Q (.ref l) (upd H l (.lst (ms.map V.int)))) := by
  intro pins s σ H xs us Q I r h
  obtain ⟨p, ns, rfl, hq, q⟩ := h
  obtain ⟨u, rfl, ru⟩ := vals1 r
  cases ru
  obtain ⟨its, rv, pl, hz⟩ := I.list hq
  have hl := rv.length
  refine EvS.sorted_any pl.isList (intsAre_of rv) (by omega) fun out ms b1 b2 b3 => ?_
  obtain ⟨e, he⟩ := sortedAll_at s.heap its out
  have hn : H (s.heap.objs.size + 1) = none := I.hok.fresh (Nat.le_succ _)
  refine ⟨.ref (s.heap.objs.size + 1), _, I.laid (t' := s.toks) (o := .lst (ms.map V.int)) (fun b u q => sortedAll_old q) (Nat.le_succ _) ⟨?_, out.toList, e, vals_ints b1, ?_⟩, rfl, q _ ms hn b2 b3⟩
  · rw [List.length_map, b2.length_eq]
    rw [List.length_map] at hz
    exact hz
  · simpa using he
/-- isinstance(x, T) of a value of the built-in type t -/
def rIsOne (K : PySem.W.Frag) : List V → Hp → VK → Prop := fun xs H Q => ∃ x T t b, xs = [x, .ty T] ∧ TyOf K H x (.type t) ∧ PySem.W.kitOne K (.type t) (.type T) = some b ∧ Q (.bl b) H
theorem call_isOne : CallR X (.builtin "isinstance") (rIsOne X.K) := by
  intro pins s σ H xs us Q I r h
  obtain ⟨x, T, t, b, rfl, ty, e, q⟩ := h
  obtain ⟨u, u', rfl, ru, ru'⟩ := vals2 r
  cases (show u' = Value.type T from ru')
  exact isinst_ok I ru ty e fun tk => ⟨.bl b, H, I.tok tk, rfl, q⟩
/-- isinstance(x, (T, ..)), the tuple just made -/
def rIsAny (K : PySem.W.Frag) : List V → Hp → VK → Prop := fun xs H Q => ∃ (x : V) (p : Addr) (Ts : List String) (t : String) (b : Bool), xs = [x, .ref p] ∧ H p = some (.tup (Ts.map V.ty)) ∧ TyOf K H x (.type t) ∧ PySem.W.kitAny K (.type t) (Ts.map Value.type) = some b ∧ Q (.bl b) H
theorem tys_of : ∀ {Ts : List String} {us : List Value}, Vals (Ts.map V.ty) us → us = Ts.map Value.type
  | [], _, .nil => rfl
  | _ :: _, _, .cons r t => by
    rw [List.map_cons, ← tys_of t]
    exact congrArg (· :: _) r
theorem call_isAny : CallR X (.builtin "isinstance") (rIsAny X.K) := by
  intro pins s σ H xs us Q I r h
  obtain ⟨x, p, Ts, t, b, rfl, hp, ty, e, q⟩ := h
  obtain ⟨u, u', rfl, ru, ru'⟩ := vals2 r
  cases (show u' = Value.ref p from ru')
  obtain ⟨_, its, rv, o, ho, hc, n, hd⟩ := I.hok p _ hp
  have ei := tys_of rv
  subst ei
  obtain ⟨oc, od, odt, osl⟩ := o
  cases (show oc = .type "tuple" from hc)
  cases (show odt = .seq (Ts.map Value.type).toArray n from hd)
  have fin : ∀ tk, EP X pins σ Q (.bool b) { s with toks := tk } := fun tk => ⟨.bl b, H, I.tok tk, rfl, q⟩
  cases ty with
  | non => cases (show u = Value.none from ru); exact PySem.W.kia_tup PySem.W.kitx_none I.kIn True.intro ho e (fun z => nomatch z) fin
  | bl y => cases (show u = Value.bool y from ru); exact PySem.W.kia_tup PySem.W.kitx_bool I.kIn True.intro ho e (fun z => nomatch z) fin
  | int i => obtain ⟨t, q'⟩ := (show ∃ t, u = Value.int i t from ru); cases q'; exact PySem.W.kia_tup PySem.W.kitx_int I.kIn True.intro ho e (fun z => nomatch z) fin
  | str y => obtain ⟨t, q'⟩ := (show ∃ t, u = Value.str y t from ru); cases q'; exact PySem.W.kia_tup PySem.W.kitx_str I.kIn True.intro ho e (fun z => nomatch z) fin
  | flt y => obtain ⟨t, q'⟩ := (show ∃ t, u = Value.float y t from ru); cases q'; exact PySem.W.kia_tup PySem.W.kitx_float I.kIn True.intro ho e (fun z => nomatch z) fin
  | @lst a ys ea =>
    cases (show u = Value.ref a from ru)
    obtain ⟨_, _, m, _, h1⟩ := (show ObjOk X.prog X.w H s.heap a (.lst ys) from I.hok a _ ea)
    exact PySem.W.kia_tup PySem.W.kitx_list I.kIn ⟨_, h1, rfl⟩ ho e (fun z => nomatch z) fin
  | @frz a ob ys ea =>
    cases (show u = Value.ref a from ru)
    obtain ⟨_, _, _, m, _, h1⟩ := (show ObjOk X.prog X.w H s.heap a (.frz ob (.lst ys)) from I.hok a _ ea)
    exact PySem.W.kia_tup PySem.W.kitx_list I.kIn ⟨_, h1, rfl⟩ ho e (fun z => nomatch z) fin
  | @tup a ys ea =>
    cases (show u = Value.ref a from ru)
    obtain ⟨_, _, _, p'⟩ := (show ObjOk X.prog X.w H s.heap a (.tup ys) from I.hok a _ ea)
    obtain ⟨o', h1, h2, _⟩ := p'
    exact PySem.W.kia_tup PySem.W.kitx_tuple I.kIn ⟨o', h1, h2⟩ ho e (fun z => nomatch z) fin
  | @dK a kvs ea =>
    cases (show u = Value.ref a from ru)
    obtain ⟨_, _, vs, _, p'⟩ := (show ObjOk X.prog X.w H s.heap a (.dK kvs) from I.hok a _ ea)
    obtain ⟨o', es, ep, h1, h2, _⟩ := p'
    exact PySem.W.kia_tup PySem.W.kitx_dict I.kIn ⟨o', h1, h2.1⟩ ho e (fun z => nomatch z) fin
  | @dT a kvs ea =>
    cases (show u = Value.ref a from ru)
    obtain ⟨_, _, ys, _, o', es, ep, h1, h2, _⟩ := (show ObjOk X.prog X.w H s.heap a (.dT kvs) from I.hok a _ ea)
    exact PySem.W.kia_tup PySem.W.kitx_dict I.kIn ⟨o', h1, h2.1⟩ ho e (fun z => nomatch z) fin
/-- a list == a list of which one is empty -/
def rEqE (K : PySem.W.Frag) : R2 := fun x y H Q => ∃ p q xs ys, x = .ref p ∧ y = .ref q ∧ SqL K H p xs ∧ SqL K H q ys ∧ (xs = [] ∨ ys = []) ∧ Q (.bl (decide (xs = ys))) H
theorem op_eqE (hu : X.A.units < cLine) : OpR X (compareOp .Eq) (rEqE X.K) := by
  intro pins s σ H x y v u Q I rx ry h
  obtain ⟨p, q, xs, ys, rfl, rfl, hp, hq, hor, k⟩ := h
  cases rx
  cases ry
  obtain ⟨i1, r1, l1, z1⟩ := I.list hp
  obtain ⟨i2, r2, l2, z2⟩ := I.list hq
  have e1 := r1.length
  have e2 := r2.length
  by_cases c : xs.length = ys.length
  · have exy : xs = ys := by
      rcases hor with z | z
      · subst z; exact (List.eq_nil_of_length_eq_zero (by rw [← c]; rfl)).symm
      · subst z; exact List.eq_nil_of_length_eq_zero (by rw [c]; rfl)
    have x0 : xs.length = 0 := by
      rcases hor with z | z
      · rw [z]; rfl
      · rw [c, z]; rfl
    refine SeqAt.eq_listAt (e := fun _ => true) l1.isList l2.isList (by rw [List.size_toArray, List.size_toArray]; omega) hu (fun j h1 _ => ?_) ?_
    · rw [List.size_toArray] at h1; omega
    · rw [decide_eq_true exy] at k
      refine ⟨.bl true, H, I, ?_, k⟩
      have : (List.range i1.toArray.size).all (fun _ => true) = true := List.all_eq_true.mpr fun _ _ => rfl
      rw [this]
      rfl
  · refine SeqAt.eq_list_lengthsAt l1.isList l2.isList (by rw [List.size_toArray, List.size_toArray]; exact bne_iff_ne.mpr (by omega)) hu ?_
    rw [decide_eq_false (fun z => c (by rw [z]))] at k
    exact ⟨.bl false, H, I, rfl, k⟩
/-- a slice of a text: some text, no longer -/
def rSlS : V → Option Int → Option Int → Hp → VK → Prop := fun x _ _ H Q => ∃ z, x = .str z ∧ z.length ≤ sizeLine ∧ ∀ y : Str, y.length ≤ z.length → Q (.str y) H
theorem part_of {v : Value} {o : Option Int} (h : IsPart v o) : ∃ l : Option (Int × Tok), v = partValue l := by
  cases h with
  | none => exact ⟨none, rfl⟩
  | int i t => exact ⟨some (i, t), rfl⟩
theorem sl_str : SlR X rSlS := by
  intro pins s σ H x v vl vu lo hi sl Q I rx hs pl pu h
  obtain ⟨z, rfl, hz, q⟩ := h
  obtain ⟨t, rfl⟩ := rx
  obtain ⟨l, rfl⟩ := part_of pl
  obtain ⟨u, rfl⟩ := part_of pu
  obtain ⟨o, ho, hc, hd⟩ := hs
  refine ⟨"str", _, F.slot_str_getitem.lookup, typeIs_str s z t, wpAny_getItem_str_slice (l := l) (u := u) (st := none) ⟨o, ho, hc, hd⟩ rfl ?_⟩
  unfold sliceMade
  split
  · exact ⟨.str z, H, I, ⟨_, rfl⟩, q z (Nat.le_refl _)⟩
  · have hl : (⟨((slicePicked z l u none).filterMap (z.cps[·]?)).toArray⟩ : Str).length ≤ z.length := by
      show ((slicePicked z l u none).filterMap (z.cps[·]?)).toArray.size ≤ z.length
      rw [List.size_toArray]
      exact Nat.le_trans (List.length_filterMap_le _ _) (by unfold slicePicked; exact indices_len_le _ _ z.length)
    exact ⟨Nat.le_trans hl hz, .str _, H, I.tok _, ⟨_, rfl⟩, q _ hl⟩
/-! ### xs[::-1] -/
theorem fm_map {α β : Type} {f : α → Option β} {g : α → β} : ∀ {l : List α}, (∀ x ∈ l, f x = some (g x)) → l.filterMap f = l.map g
  | [], _ => rfl
  | a :: l, h => by rw [List.filterMap_cons, h a List.mem_cons_self, List.map_cons, fm_map fun x hx => h x (List.mem_cons_of_mem _ hx)]
theorem pick_rev (items : List Value) : slicePick items.toArray none none (some (-1)) = items.reverse.toArray := by
  have hc : (sliceRange ((items.length : Int) - 1) (-1) (-1)) = (List.range items.length).map fun (k : Nat) => items.length - 1 - k := by
    unfold sliceRange
    rw [if_neg (by decide)]
    have e : (if (items.length : Int) - 1 > -1 then ((items.length : Int) - 1 - -1 - -1 - 1) / - -1 else 0) = (items.length : Int) := by
      split
      · rw [show (- -1 : Int) = 1 by rfl, Int.ediv_one]; omega
      · omega
    dsimp only
    rw [e]
    refine List.map_congr_left fun k hk => ?_
    have := List.mem_range.mp hk
    omega
  have hb : slicePick items.toArray none none (some (-1)) = ((sliceRange ((items.length : Int) - 1) (-1) (-1)).filterMap (items.toArray[·]?)).toArray := by
    unfold slicePick sliceBounds
    simp
  rw [hb, hc]
  congr 1
  rw [List.filterMap_map]
  have hf : (List.range items.length).filterMap ((fun x => items.toArray[x]?) ∘ fun (k : Nat) => items.length - 1 - k) = (List.range items.length).map fun (k : Nat) => items.getD (items.length - 1 - k) .none := by
    refine fm_map fun k hk => ?_
    have := List.mem_range.mp hk
    show items.toArray[items.length - 1 - k]? = some (items.getD (items.length - 1 - k) .none)
    rw [List.getElem?_toArray, List.getD_eq_getElem?_getD, List.getElem?_eq_getElem (by omega)]
    rfl
  rw [hf]
  refine List.ext_getElem? fun j => ?_
  rw [List.getElem?_map]
  by_cases hj : j < items.length
  · rw [List.getElem?_range hj, List.getElem?_reverse hj, Option.map_some, List.getD_eq_getElem?_getD, List.getElem?_eq_getElem (by omega)]
    rfl
  · rw [List.getElem?_eq_none (by rw [List.length_range]; omega), List.getElem?_eq_none (by rw [List.length_reverse]; omega)]
    rfl
def tRev (K : PySem.W.Frag) (te ts : TE) : TE := fun σ H Q => te σ H fun x H1 => ts σ H1 fun y H2 => ∃ a xs, x = .ref a ∧ y = .int (-1) ∧ SqL K H2 a xs ∧ ∀ p, H2 p = none → Q (.ref p) (upd H2 p (.lst xs.reverse))
theorem pe_rev {e st : Expr} {te ts : TE} {p2 ep : Pos} (he : PE X e te) (hst : PE X st ts) : PE X (.Subscript e (.Slice none none (some st) p2) ep) (tRev X.K te ts) := by
  intro pins s σ H Q I h
  refine Subscript_ (thn (he pins s σ H _ I h) fun v s1 ⟨x, H1, I1, r1, q1⟩ => ?_)
  refine wpAny_Slice ?_
  rw [evalPart_none]
  refine wpAny_pure (wpAny_pure ?_)
  rw [evalPart_some]
  refine thn (hst pins s1 σ H1 _ I1 q1) fun w s3 ⟨y, H3, I3, r3, a, xs, ex, ey, hq, q3⟩ => ?_
  subst ex ey
  cases r1
  obtain ⟨tk, rfl⟩ := r3
  have I4 : Inv X pins σ H3 { s3 with heap := s3.heap.push { cls := .type "slice", data := .fields #[.none, .none, .int (-1) tk] } } := I3.kept (t' := s3.toks) fun b ob q => Heap.get?_push_of_some _ q
  obtain ⟨its, r, ht, hz⟩ := I4.list hq
  have hlen := r.length
  show wpAny (model X.prog X.w) X.A (subscriptTail e (.Slice none none (some st) p2) (.ref a) (.ref s3.heap.objs.size)) (EP X pins σ Q) X.xe { s3 with heap := s3.heap.push { cls := .type "slice", data := .fields #[.none, .none, .int (-1) tk] } }
  refine tail_any (ops := [.ref a, .ref s3.heap.objs.size]) ht.isList.typeIs slot_list_getitem.lookup (wpAny_getItem_list_slice ht.isList (Heap.IsSliceOf.new ..) .none .none (.int (-1) tk) (by decide) ?_ (by rw [List.size_toArray]; omega)) (by with_unfolding_all rfl)
  rw [pick_rev]
  refine ⟨.ref _, _, I4.laid (t' := s3.toks) (o := .lst xs.reverse) (fun b ob q => Heap.get?_push_of_some _ q) (Nat.le_refl _) ?_, rfl, q3 _ (I4.hok.fresh (Nat.le_refl _))⟩
  exact ⟨by rw [List.length_reverse]; exact hz, _, 0, r.reverse, Heap.get?_push_size _ rfl⟩
/-- // by a positive divisor below 2^64 -/
theorem op_fdivB : OpR X (binaryOp .FloorDiv) (rI (fun _ j => 0 < j ∧ j < 2 ^ 64) fun i j => .int (i / j)) := opI fun i j _ _ _ _ _ hc q => by
  have h1 : (0 : Int) < j := hc.1
  refine floordiv_int (by omega) (by rw [Int.fdiv_eq_ediv_of_nonneg i (by omega)]; exact q) (.inl (PyProof.noPylong_of_log2 ?_))
  have h2 : j.natAbs < 2 ^ 64 := by have := hc.2; omega
  have h3 : j.natAbs.log2 < 64 := (Nat.log2_lt (by omega)).mpr h2
  omega
end
end L2

/-! EVENLOTS' laws: what all of them share: the heaps between calls, the text's names. -/
namespace Ev
open PySem L2
/-- all that was tracked but p is as it was -/
def Kp (p : Addr) (H H' : Hp) : Prop := ∀ b o, b ≠ p → H b = some o → H' b = some o
theorem Kp.refl (p : Addr) (H : Hp) : Kp p H H := fun _ _ _ h => h
theorem Kp.trans {p : Addr} {H H1 H2 : Hp} (a : Kp p H H1) (b : Kp p H1 H2) : Kp p H H2 := fun c o n h => b c o n (a c o n h)
theorem Kp.of {p : Addr} {H H' : Hp} (h : L2.Same H H') : Kp p H H' := fun c o _ e => h c o e
theorem Kp.put {p : Addr} {H : Hp} {o : HO} : Kp p H (upd H p o) := fun b u n e => by rw [upd_ne n]; exact e
theorem Kp.new {p q : Addr} {H : Hp} {o : HO} (h : H q = none) : Kp p H (upd H q o) := fun b u _ e => by rw [upd_ne (ne_of_none e h)]; exact e
theorem same_new {H : Hp} {p : Addr} (h : H p = none) (o : HO) : L2.Same H (upd H p o) := fun b u q => by rw [upd_ne (ne_of_none q h)]; exact q
theorem small {n : Nat} (h : n ≤ 1000000) : n ≤ sizeLine := Nat.le_trans h (by decide)
theorem smalll {n : Nat} (h : n ≤ 1000000) : n < sizeLine := Nat.lt_of_le_of_lt h (by decide)
/-- the built-in names that the top has not bound -/
structure Nm (mg : Str → Option Value) : Prop where
  len : mg "len" = none
  range : mg "range" = none
  isi : mg "isinstance" = none
  bool : mg "bool" = none
  int : mg "int" = none
  str : mg "str" = none
  list : mg "list" = none
  tuple : mg "tuple" = none
  zip : mg "zip" = none
  enum : mg "enumerate" = none
  sorted : mg "sorted" = none
  max : mg "max" = none
  min : mg "min" = none
/-- a pool: three ints in a list of its own; the third counts what was taken -/
def PoolAt (H : Hp) (p : Addr) (x y z : Int) : Prop := H p = some (.lst [.int x, .int y, .int z]) ∧ 0 ≤ z
end Ev
/-! ### rules whose readings name the written part, with that part given: for the block of a comprehension -/
namespace L2
open PySem
variable {X : Cx} {K : PySem.W.Frag}
theorem ix_listK (h : X.K = K) : IxR X (rIxL K) := h ▸ ix_list
theorem ix_tupK (h : X.K = K) : IxR X (rIxT K) := h ▸ ix_tup
theorem pg_tupK {es : List Expr} {k : Nat} {t : TGs} {n : Nat} {tp : Pos} (hk : X.K = K) (hc : X.calm = true) (h : PGs X es t) (hn : (assignEach es X.env).length = n := by rfl) (hst : (assignEach es X.env).findIdx? (·.1) = none := by rfl) : PG X (.Tuple es k tp) (gTup K n t) := hk ▸ pg_tup hc h hn hst
theorem call_lenK (h : X.K = K) : CallR X (.builtin "len") (fun xs H Q => ∃ p ys, xs = [.ref p] ∧ (SqL K H p ys ∨ SqT K H p ys) ∧ Q (.int ys.length) H) := h ▸ call_len_seq
theorem call_isOneK (h : X.K = K) : CallR X (.builtin "isinstance") (rIsOne K) := h ▸ call_isOne
theorem pi_listK {tg l : Expr} {tl : TE} (h : X.K = K) (hl : PE X l tl) : PI X tg l (iList K tl) := h ▸ pi_list hl
end L2

namespace Ev
open PySem
def top (i : Nat) : Stmt := PySem.Challenge.pw_evenlots_k06_runs_told.main.body.getD i (.Pass ⟨0, 0, 0, 0⟩)
end Ev

/-! _law_pool, _law_take -/
namespace Ev
open PySem L2
abbrev sPool : Stmt := top 3
abbrev sTake : Stmt := top 4
def spPool (K : PySem.W.Frag) : Sp := fun vs H Q _ => ∃ (a : Addr) (ns : List Int) (k : Int), vs = [.ref a, .int k] ∧ SqL K H a (ns.map V.int) ∧ ns.length ≤ 63 ∧ 0 ≤ k ∧ k ≤ 100 ∧
  ∀ (p : Addr) (x y z : Int) (H' : Hp), H p = none → L2.Same H H' → PoolAt H' p x y z → z ≤ 5000 → Q (.ref p) H'
def spTake : Sp := fun vs H Q _ => ∃ (p : Addr) (x y z m : Int), vs = [.ref p, .int m] ∧ PoolAt H p x y z ∧ z ≤ 1000000 ∧ 0 < m ∧ m < 2 ^ 64 ∧
  ∀ (r x' z' : Int) (H' : Hp), 0 ≤ r → r < m → z ≤ z' → z' ≤ z + 1 → PoolAt H' p x' y z' → Kp p H H' → (∀ b, H b = none → H' b = none) → Q (.int r) H'
section
variable {P : Program} {w : World} {K : PySem.W.Frag} {mg : Str → Option Value} {base : Heap}
theorem scPool : FnScope ["script", "k", "cell"] ["script", "k"] (defScope sPool) := ⟨rfl, rfl, rfl, by decide +kernel, rfl, by decide +kernel, by decide +kernel⟩
theorem ok_pool {f : Addr} {fd : FuncData} (F : Fun K "_law_pool" "_law_pool" sPool f fd) (T : Nm mg) : FnOk P w K mg base CX0 1 f fd ["script", "k"] (spPool K) := by
  refine F.ok scPool (fun vs H Q E h => ?_) (fun cdv A outer s H vs Q E hr h => ?_)
  · obtain ⟨a, ns, k, rfl, _⟩ := h
    rfl
  obtain ⟨a, ns, k, rfl, hS, h63, h0, h1, q⟩ := h
  refine ⟨_, pss_cons (ps_set (i := 2) scPool.nd rfl (Or.inl rfl) pe_int)
    (pss_cons (ps_if (pt_cmpR op_lt (pv 1) (pe_callB call_len_seq rfl T.len PySem.boot_len (pa_cons (pv 0) pa_nil)) (nomark _)) (pss_one (ps_set (i := 2) scPool.nd rfl (Or.inl rfl) (pe_ix ix_list (pv 0) (pv 1) (fun _ _ => rfl)))) pss_nil)
    (pss_cons (ps_if (pt_cmpR op_ge (pv 2) (pe_op op_pow pe_int pe_int) (nomark _)) (pss_one (ps_ret (pe_lst (pa_cons (pe_op op_sub (pv 2) (pe_op op_pow pe_int pe_int)) (pa_cons pe_int (pa_cons pe_int pa_nil)))))) pss_nil)
    (pss_one (ps_ret (pe_lst (pa_cons (pv 2) (pa_cons pe_int (pa_cons (pe_op op_mul pe_int (pv 1)) pa_nil)))))))), ?_⟩
  have cp : CPow 10 18 := ⟨by decide, by decide, by decide⟩
  have rest : ∀ c : Int, (tSeq (tIfS (tTest (tOp (rI0 fun i j => .bl (decide (j ≤ i))) (tVar 2) (tOp (rI CPow fun i j => .int (i ^ j.toNat)) (tC (.int 10)) (tC (.int 18))))) (tRet (tLst (tCons (tOp (rI0 fun i j => .int (i - j)) (tVar 2) (tOp (rI CPow fun i j => .int (i ^ j.toNat)) (tC (.int 10)) (tC (.int 18)))) (tCons (tC (.int 1)) (tCons (tC (.int 0)) tNil))))) tNext)
      (tRet (tLst (tCons (tVar 2) (tCons (tC (.int 0)) (tCons (tOp (rI CMul fun i j => .int (i * j)) (tC (.int 41)) (tVar 1)) tNil)))))) { nx := fun _ H' => Q .non H', rt := Q } [some (.ref a), some (.int k), some (.int c)] H := fun c => by
    refine ⟨_, rfl, _, _, rfl, rfl, cp, _, _, rfl, rfl, _, rfl, ?_⟩
    refine ite2 (fun _ => ?_) (fun _ => ?_)
    · refine ⟨_, rfl, _, _, rfl, rfl, cp, _, _, rfl, rfl, (small (by decide) : 3 ≤ sizeLine), fun p hp => ?_⟩
      exact q p _ _ _ _ hp (same_new hp _) ⟨upd_same, by decide⟩ (by decide)
    · refine ⟨_, rfl, _, rfl, _, _, rfl, rfl, .inl ⟨by decide, by decide⟩, (small (by decide) : 3 ≤ sizeLine), fun p hp => ?_⟩
      exact q p _ _ _ _ hp (same_new hp _) ⟨upd_same, by omega⟩ (by omega)
  refine ⟨_, rfl, _, rfl, a, _, rfl, .inl hS, _, _, rfl, rfl, _, rfl, ?_⟩
  refine ite2 (fun c => ?_) (fun c => ?_)
  · have c' : k < (((ns.map V.int).length : Nat) : Int) := of_decide_eq_true c
    have hl : k.toNat < (ns.map V.int).length := by omega
    have hk : (ns.map V.int)[k.toNat]? = some (.int (ns[k.toNat]'(by simpa using hl))) := by
      rw [List.getElem?_map, List.getElem?_eq_getElem (by simpa using hl)]
      rfl
    have e := atI_nat hk
    rw [show ((k.toNat : Nat) : Int) = k by omega] at e
    exact ⟨_, rfl, _, rfl, a, _, k, _, rfl, rfl, hS, e, rest _⟩
  · exact rest 0
theorem scTake : FnScope ["pool", "many", "found", "step", "mark"] ["pool", "many"] (defScope sTake) := ⟨rfl, rfl, rfl, by decide +kernel, rfl, by decide +kernel, by decide +kernel⟩
theorem atI3 (x y z : V) : atI [x, y, z] 0 = some x ∧ atI [x, y, z] 1 = some y ∧ atI [x, y, z] 2 = some z := ⟨rfl, rfl, rfl⟩
theorem mod_lo {a b : Int} (h : 0 < b) : 0 ≤ a % b := Int.emod_nonneg _ (by omega)
theorem mod_hi {a b : Int} (h : 0 < b) : a % b < b := Int.emod_lt_of_pos _ h
theorem ok_take {f : Addr} {fd : FuncData} (F : Fun K "_law_take" "_law_take" sTake f fd) (T : Nm mg) : FnOk P w K mg base CX0 1 f fd ["pool", "many"] spTake := by
  refine F.ok scTake (fun vs H Q E h => ?_) (fun cdv A outer s H vs Q E hr h => ?_)
  · obtain ⟨p, x, y, z, m, rfl, _⟩ := h
    rfl
  obtain ⟨p, x, y, z, m, rfl, ⟨hp, hz⟩, hz1, hm, hm2, q⟩ := h
  refine ⟨_, pss_cons (ps_if (pt_cmpR op_eq (pe_ix ix_list (pv 0) pe_int (fun _ _ => rfl)) pe_int (nomark _))
      (pss_cons (ps_set (i := 2) scTake.nd rfl (Or.inl rfl) (pe_op op_mod (pe_ix ix_list (pv 0) pe_int (fun _ _ => rfl)) (pv 1)))
      (pss_cons (ps_asg (pe_op op_fdivB (pe_ix ix_list (pv 0) pe_int (fun _ _ => rfl)) (pv 1)) (pg_sub (pv 0) pe_int set_list))
      (pss_one (ps_ret (pv 2))))) pss_nil)
    (pss_cons (ps_asg (pe_op op_add (pe_ix ix_list (pv 0) pe_int (fun _ _ => rfl)) pe_int) (pg_sub (pv 0) pe_int set_list))
    (pss_cons (ps_set (i := 3) scTake.nd rfl (Or.inl rfl) (pe_ix ix_list (pv 0) pe_int (fun _ _ => rfl)))
    (pss_cons (ps_set (i := 4) scTake.nd rfl (Or.inl rfl) (pe_op op_mul (pe_op op_add (pe_op op_mod (pe_ix ix_list (pv 0) pe_int (fun _ _ => rfl)) pe_int) pe_int) (pe_op op_add (pe_op op_mul pe_int (pv 3)) pe_int)))
    (pss_cons (ps_set (i := 4) scTake.nd rfl (Or.inl rfl) (pe_op op_add (pv 4) (pe_op op_mul (pe_op op_mul pe_int (pv 3)) (pv 3))))
    (pss_cons (ps_set (i := 4) scTake.nd rfl (Or.inl rfl) (pe_op op_mod (pe_op op_mul (pv 4) (pv 4)) pe_int))
    (pss_one (ps_ret (pe_op op_mod (pe_op op_fdivB (pe_op op_mod (pe_op op_mul (pv 4) (pe_op op_add (pv 4) pe_int)) pe_int) pe_int) (pv 1))))))))), ?_⟩
  have S0 : SqL K H p [.int x, .int y, .int z] := SqL.of hp
  refine ⟨_, rfl, p, _, _, _, rfl, rfl, S0, (atI3 _ _ _).2.1, rfl, _, rfl, ?_⟩
  refine ite2 (fun c => ?_) (fun c => ?_)
  · refine ⟨_, rfl, p, _, _, _, rfl, rfl, S0, (atI3 _ _ _).1, _, rfl, _, _, rfl, rfl, hm, ?_⟩
    refine ⟨_, rfl, p, _, _, _, rfl, rfl, S0, (atI3 _ _ _).1, _, rfl, _, _, rfl, rfl, ⟨hm, hm2⟩, ?_⟩
    refine ⟨_, rfl, p, _, _, 0, rfl, rfl, hp, rfl, ?_⟩
    refine ⟨_, rfl, ?_⟩
    exact q _ (x / m) z _ (mod_lo hm) (mod_hi hm) (Int.le_refl _) (by omega) ⟨upd_same, hz⟩ Kp.put fun b hb => by rw [upd_ne (fun e => by subst e; rw [hb] at hp; cases hp)]; exact hb
  · have S1 : SqL K (upd H p (.lst [.int x, .int y, .int (z + 1)])) p [.int x, .int y, .int (z + 1)] := SqL.of upd_same
    refine ⟨_, rfl, p, _, _, _, rfl, rfl, S0, (atI3 _ _ _).2.2, _, _, rfl, rfl, ?_⟩
    refine ⟨_, rfl, p, _, _, 2, rfl, rfl, hp, rfl, ?_⟩
    refine ⟨_, rfl, p, _, _, _, rfl, rfl, S1, (atI3 _ _ _).2.2, ?_⟩
    have a1 : 0 ≤ x % 9999999589 := mod_lo (by decide)
    have a2 : x % 9999999589 < 9999999589 := mod_hi (by decide)
    refine ⟨_, rfl, p, _, _, _, rfl, rfl, S1, (atI3 _ _ _).1, _, _, rfl, rfl, (by show (0 : Int) < 9999999589; decide), _, _, rfl, rfl, _, rfl, _, _, rfl, rfl, .inl ⟨by decide, by decide⟩, _, _, rfl, rfl, _, _, rfl, rfl, .inl ⟨by omega, by omega⟩, ?_⟩
    refine ⟨_, rfl, _, rfl, _, _, rfl, rfl, .inl ⟨by decide, by decide⟩, _, rfl, _, _, rfl, rfl, .inr ⟨by omega, by omega⟩, _, _, rfl, rfl, ?_⟩
    have b1 : (x % 9999999589 + 997) * (31 * (z + 1) + 61) ≤ 10000001000 * 31000200 := Int.mul_le_mul (by omega) (by omega) (by omega) (by decide)
    have b0 : 0 ≤ (x % 9999999589 + 997) * (31 * (z + 1) + 61) := Int.mul_nonneg (by omega) (by omega)
    have b2 : 3539 * (z + 1) * (z + 1) ≤ 3539000000000 * 1000001 := Int.mul_le_mul (by omega) (by omega) (by omega) (by decide)
    have b3 : 0 ≤ 3539 * (z + 1) * (z + 1) := Int.mul_nonneg (by omega) (by omega)
    generalize (x % 9999999589 + 997) * (31 * (z + 1) + 61) = u at b0 b1 ⊢
    generalize 3539 * (z + 1) * (z + 1) = v at b2 b3 ⊢
    refine ⟨_, rfl, _, rfl, _, _, rfl, rfl, .inl ⟨by omega, by omega⟩, _, _, rfl, rfl, (by show (0 : Int) < 99999999629; decide), ?_⟩
    have c1 : 0 ≤ (u + v) * (u + v) % 99999999629 := mod_lo (by decide)
    have c2 : (u + v) * (u + v) % 99999999629 < 99999999629 := mod_hi (by decide)
    generalize (u + v) * (u + v) % 99999999629 = mk at c1 c2 ⊢
    refine ⟨_, rfl, _, rfl, _, _, rfl, rfl, _, _, rfl, rfl, .inl ⟨by omega, by omega⟩, _, _, rfl, rfl, (by show (0 : Int) < 99999999911; decide), _, _, rfl, rfl, ⟨by decide, by decide⟩, _, rfl, _, _, rfl, rfl, hm, ?_⟩
    exact q _ x (z + 1) _ (mod_lo hm) (mod_hi hm) (by omega) (Int.le_refl _) ⟨upd_same, by omega⟩ Kp.put fun b hb => by rw [upd_ne (fun e => by subst e; rw [hb] at hp; cases hp)]; exact hb
end
end Ev



/-! _law_tag, _law_key -/
namespace Ev
open PySem L2
abbrev sTag : Stmt := top 5
abbrev sKey : Stmt := top 6
/-- a def of the top as a caller sees it -/
structure Cal (P : Program) (w : World) (K : PySem.W.Frag) (mg : Str → Option Value) (base : Heap) (x : Str) (lv : Nat) (f : Addr) (fd : FuncData) (ps : List Str) (sp : Sp) : Prop where
  G : FnOk P w K mg base CX0 lv f fd ps sp
  b : Binds K fd ps []
  k : PySem.W.keepIn K (.ref f) = true
  m : mg x = some (.ref f)
/-- what a taker leaves: the pool somewhat on, all else as it was, nothing tracked that was not but what it tells -/
structure Left (p : Addr) (y z n : Int) (H H' : Hp) : Prop where
  pool : ∃ x' z', PoolAt H' p x' y z' ∧ z ≤ z' ∧ z' ≤ z + n
  kp : Kp p H H'
theorem Left.trans {p : Addr} {y z n m : Int} {H H1 H2 : Hp} (a : Left p y z n H H1) (b : ∀ x z', PoolAt H1 p x y z' → z ≤ z' → z' ≤ z + n → Left p y z' m H1 H2) : Left p y z (n + m) H H2 := by
  obtain ⟨x1, z1, p1, l1, l2⟩ := a.pool
  have c := b x1 z1 p1 l1 l2
  obtain ⟨x2, z2, p2, l3, l4⟩ := c.pool
  exact ⟨⟨x2, z2, p2, by omega, by omega⟩, a.kp.trans c.kp⟩
theorem Left.refl {p : Addr} {x y z : Int} {H : Hp} (h : PoolAt H p x y z) : Left p y z 0 H H := ⟨⟨x, z, h, Int.le_refl _, by omega⟩, Kp.refl _ _⟩
theorem Left.mono {p : Addr} {y z n m : Int} {H H' : Hp} (a : Left p y z n H H') (h : n ≤ m) : Left p y z m H H' := by
  obtain ⟨x1, z1, p1, l1, l2⟩ := a.pool
  exact ⟨⟨x1, z1, p1, l1, by omega⟩, a.kp⟩
theorem Left.new {p q : Addr} {y z n : Int} {H H' : Hp} {o : HO} (a : Left p y z n H H') (h : H' q = none) : Left p y z n H (upd H' q o) := by
  obtain ⟨x1, z1, ⟨p1, p2⟩, l1, l2⟩ := a.pool
  exact ⟨⟨x1, z1, ⟨by rw [upd_ne (ne_of_none p1 h)]; exact p1, p2⟩, l1, l2⟩, a.kp.trans (Kp.new h)⟩
/-- the next number of the pool, as its callers use it -/
def spTake' : Sp := fun vs H Q _ => ∃ (p : Addr) (x y z m : Int), vs = [.ref p, .int m] ∧ PoolAt H p x y z ∧ z ≤ 1000000 ∧ 0 < m ∧ m < 2 ^ 64 ∧ ∀ (r : Int) (H' : Hp), 0 ≤ r → r < m → Left p y z 1 H H' → Q (.int r) H'
def spTag : Sp := fun vs H Q _ => ∃ (p : Addr) (x y z : Int), vs = [.ref p] ∧ PoolAt H p x y z ∧ z ≤ 900000 ∧ ∀ (t : Str) (H' : Hp), t.length ≤ 8 → 1 ≤ t.length → Left p y z 9 H H' → Q (.str t) H'
def spKey : Sp := fun vs H Q _ => ∃ (p : Addr) (x y z k : Int), vs = [.ref p, .int k] ∧ PoolAt H p x y z ∧ z ≤ 900000 ∧ ∀ (r : Int) (H' : Hp), Left p y z 5 H H' → Q (.int r) H'
theorem at_in {α : Type} {xs : List α} {i : Int} (h0 : 0 ≤ i) (h1 : i < (xs.length : Int)) : ∃ c, atI xs i = some c ∧ c ∈ xs := by
  have e : xs[i.toNat]? = some (xs[i.toNat]'(by omega)) := List.getElem?_eq_getElem (by omega)
  have q := atI_nat e
  rw [show ((i.toNat : Nat) : Int) = i by omega] at q
  exact ⟨_, q, List.getElem_mem _⟩
theorem abc_len : ("abcdefghijklmnopqrstuvwxyz" : Str).cps.toList.length = 26 := by decide +kernel
theorem Left.go {p : Addr} {x1 y z z1 n m : Int} {H H1 H2 : Hp} (a : Left p y z n H H1) (h : PoolAt H1 p x1 y z1) (b : Left p y z1 m H1 H2) : Left p y z (n + m) H H2 :=
  a.trans fun x' z' pp _ _ => by
    have e := pp.1
    rw [h.1] at e
    cases e
    exact b
section
variable {P : Program} {w : World} {K : PySem.W.Frag} {mg : Str → Option Value} {base : Heap}
theorem take_weak {lv : Nat} {f : Addr} {fd : FuncData} (G : FnOk P w K mg base CX0 lv f fd ["pool", "many"] spTake) : FnOk P w K mg base CX0 lv f fd ["pool", "many"] spTake' :=
  G.imp fun vs H Q E ⟨p, x, y, z, m, e, hp, h1, h2, h3, q⟩ => ⟨p, x, y, z, m, e, hp, h1, h2, h3, fun r x' z' H' a1 a2 a3 a4 a5 a6 _ => q r H' a1 a2 ⟨⟨x', z', a5, a3, a4⟩, a6⟩⟩
theorem scTag : FnScope ["pool", "found", "turn"] ["pool"] (defScope sTag) := ⟨rfl, rfl, rfl, by decide +kernel, rfl, by decide +kernel, by decide +kernel⟩
theorem ok_tag {f fT : Addr} {fd fdT : FuncData} (F : Fun K "_law_tag" "_law_tag" sTag f fd) (T : Nm mg) (ct : Cal P w K mg base "_law_take" 1 fT fdT ["pool", "many"] spTake') : FnOk P w K mg base CX0 2 f fd ["pool"] spTag := by
  refine F.ok scTag (fun vs H Q E h => ?_) (fun cdv A outer s H vs Q E hr h => ?_)
  · obtain ⟨p, x, y, z, rfl, _⟩ := h
    rfl
  obtain ⟨p, x, y, z, rfl, hp, hz, q⟩ := h
  have z0 := hp.2
  refine ⟨_, pss_cons (ps_set (i := 1) scTag.nd rfl (Or.inl rfl) pe_str)
    (pss_cons (ps_for PassesOwn.never rfl (pi_range1 rfl T.range (pa_cons (pe_op op_add pe_int (pe_call ct.G hr rfl ct.m ct.k ct.b .nil pass0 (pa_cons (pv 0) (pa_cons pe_int pa_nil)))) pa_nil)) (pg_name (i := 2) scTag.nd rfl (Or.inl rfl))
      (pss_one (ps_set (i := 1) scTag.nd rfl (Or.inl rfl) (pe_op op_add_str (pv 1) (pe_ix ix_str pe_str (pe_call ct.G hr rfl ct.m ct.k ct.b .nil pass0 (pa_cons (pv 0) (pa_cons pe_int pa_nil))) (fun _ _ => rfl))))))
    (pss_one (ps_ret (pv 1)))), ?_⟩
  refine ⟨_, rfl, p, x, y, z, 8, rfl, hp, by omega, by decide, by decide, fun r H1 r0 r1 L1 => ?_⟩
  refine ⟨_, _, rfl, rfl, _, rfl, by omega, by omega, ?_⟩
  refine for_range (lo := 0) (n := (1 + r).toNat) (fun i σ H2 => ∃ (t : Str) (v : Option V), σ = [some (.ref p), some (.str t), v] ∧ t.length = i ∧ Left p y z (1 + i) H H2) ⟨_, none, rfl, rfl, L1.mono (by omega)⟩ ?_ ?_
  · rintro i σ H2 hi ⟨t, v, rfl, ht, L2⟩
    obtain ⟨x2, z2, p2, l1, l2⟩ := L2.pool
    refine ⟨_, rfl, _, rfl, p, x2, y, z2, 26, rfl, p2, by omega, by decide, by decide, fun r2 H3 s0 s1 L3 => ?_⟩
    obtain ⟨c, hc, _⟩ := at_in (xs := ("abcdefghijklmnopqrstuvwxyz" : Str).cps.toList) (i := r2) s0 (by rw [abc_len]; exact s1)
    refine ⟨_, r2, c, rfl, rfl, by decide +kernel, hc, t, _, rfl, rfl, ?_, ?_⟩
    · show t.length + 1 ≤ sizeLine
      exact small (by omega)
    · refine ⟨_, _, rfl, ?_, ?_⟩
      · rw [Str.length_append]
        show t.length + 1 = i + 1
        omega
      · exact (L2.go p2 L3).mono (by omega)
  · rintro σ H2 ⟨t, v, rfl, ht, L2⟩
    exact ⟨_, rfl, q t H2 (by omega) (by omega) (L2.mono (by omega))⟩
theorem scKey : FnScope ["pool", "kind", "sign", "number", "turn"] ["pool", "kind"] (defScope sKey) := ⟨rfl, rfl, rfl, by decide +kernel, rfl, by decide +kernel, by decide +kernel⟩
theorem ok_key {f fT : Addr} {fd fdT : FuncData} (F : Fun K "_law_key" "_law_key" sKey f fd) (T : Nm mg) (ct : Cal P w K mg base "_law_take" 1 fT fdT ["pool", "many"] spTake') : FnOk P w K mg base CX0 2 f fd ["pool", "kind"] spKey := by
  refine F.ok scKey (fun vs H Q E h => ?_) (fun cdv A outer s H vs Q E hr h => ?_)
  · obtain ⟨p, x, y, z, k, rfl, _⟩ := h
    rfl
  obtain ⟨p, x, y, z, k, rfl, hp, hz, q⟩ := h
  have z0 := hp.2
  refine ⟨_, pss_cons (ps_if (pt_cmpR op_eq (pv 1) pe_int (nomark _)) (pss_one (ps_ret (pe_call ct.G hr rfl ct.m ct.k ct.b .nil pass0 (pa_cons (pv 0) (pa_cons pe_int pa_nil))))) pss_nil)
    (pss_cons (ps_if (pt_cmpR op_eq (pv 1) pe_int (nomark _)) (pss_one (ps_ret (pe_op op_sub (pe_call ct.G hr rfl ct.m ct.k ct.b .nil pass0 (pa_cons (pv 0) (pa_cons pe_int pa_nil))) pe_int))) pss_nil)
    (pss_cons (ps_set (i := 2) scKey.nd rfl (Or.inl rfl) (pe_op op_sub pe_int (pe_op op_mul pe_int (pe_call ct.G hr rfl ct.m ct.k ct.b .nil pass0 (pa_cons (pv 0) (pa_cons pe_int pa_nil))))))
    (pss_cons (ps_set (i := 3) scKey.nd rfl (Or.inl rfl) pe_int)
    (pss_cons (ps_for PassesOwn.never rfl (pi_range1 rfl T.range (pa_cons (pe_ix ix_list (pe_lst (pa_cons pe_int (pa_cons pe_int (pa_cons pe_int pa_nil)))) (pe_call ct.G hr rfl ct.m ct.k ct.b .nil pass0 (pa_cons (pv 0) (pa_cons pe_int pa_nil))) (fun _ _ => rfl)) pa_nil)) (pg_name (i := 4) scKey.nd rfl (Or.inl rfl))
      (pss_one (ps_set (i := 3) scKey.nd rfl (Or.inl rfl) (pe_op op_add (pe_op op_mul (pv 3) (pe_op op_pow pe_int pe_int)) (pe_call ct.G hr rfl ct.m ct.k ct.b .nil pass0 (pa_cons (pv 0) (pa_cons (pe_op op_pow pe_int pe_int) pa_nil)))))))
    (pss_one (ps_ret (pe_op op_mul (pv 2) (pv 3)))))))), ?_⟩
  have cp : CPow 10 10 := ⟨by decide, by decide, by decide⟩
  refine ⟨_, rfl, rfl, _, rfl, ?_⟩
  refine ite2 (fun c => ?_) (fun c => ?_)
  · exact ⟨_, rfl, p, x, y, z, 3, rfl, hp, by omega, by decide, by decide, fun r H1 r0 r1 L1 => q r H1 (L1.mono (by decide))⟩
  refine ⟨_, rfl, rfl, _, rfl, ?_⟩
  refine ite2 (fun c => ?_) (fun c => ?_)
  · exact ⟨_, rfl, p, x, y, z, 40, rfl, hp, by omega, by decide, by decide, fun r H1 r0 r1 L1 => ⟨_, _, rfl, rfl, q _ H1 (L1.mono (by decide))⟩⟩
  refine ⟨_, rfl, p, x, y, z, 2, rfl, hp, by omega, by decide, by decide, fun r H1 r0 r1 L1 => ?_⟩
  refine ⟨_, _, rfl, rfl, .inl ⟨by decide, by decide⟩, _, _, rfl, rfl, ?_⟩
  obtain ⟨x1, z1, p1, l1, l2⟩ := L1.pool
  refine ⟨(small (by decide) : 3 ≤ sizeLine), fun a ha => ?_⟩
  have p1' : PoolAt (upd H1 a (.lst [.int 1, .int 2, .int 3])) p x1 y z1 := ⟨by rw [upd_ne (ne_of_none p1.1 ha)]; exact p1.1, p1.2⟩
  refine ⟨_, rfl, p, x1, y, z1, 3, rfl, p1', by omega, by decide, by decide, fun r2 H2 s0 s1 L2 => ?_⟩
  have ha2 : H2 a = some (.lst [.int 1, .int 2, .int 3]) := L2.kp _ _ (fun e => by subst e; rw [p1.1] at ha; cases ha) upd_same
  obtain ⟨j, hj, j0, j1⟩ : ∃ j : Int, atI ([.int 1, .int 2, .int 3] : List V) r2 = some (.int j) ∧ 1 ≤ j ∧ j ≤ 3 := by
    have : r2 = 0 ∨ r2 = 1 ∨ r2 = 2 := by omega
    rcases this with e | e | e <;> subst e
    · exact ⟨1, rfl, by decide, by decide⟩
    · exact ⟨2, rfl, by decide, by decide⟩
    · exact ⟨3, rfl, by decide, by decide⟩
  refine ⟨a, _, r2, _, rfl, rfl, SqL.of ha2, hj, j, rfl, by omega, by omega, ?_⟩
  have L12 : Left p y z 2 H H2 := by
    have L1' : Left p y z 1 H (upd H1 a (.lst [.int 1, .int 2, .int 3])) := L1.new ha
    exact L1'.go p1' L2
  refine for_range (lo := 0) (n := j.toNat) (fun i σ H3 => ∃ (nm : Int) (v : Option V), σ = [some (.ref p), some (.int k), some (.int (1 - 2 * r)), some (.int nm), v] ∧ Left p y z (2 + i) H H3) ⟨0, none, rfl, L12.mono (by omega)⟩ ?_ ?_
  · rintro i σ H3 hi ⟨nm, v, rfl, L3⟩
    obtain ⟨x3, z3, p3, l3, l4⟩ := L3.pool
    refine ⟨_, rfl, _, _, rfl, rfl, cp, _, _, rfl, rfl, .inr ⟨by decide, by decide⟩, _, rfl, _, _, rfl, rfl, cp, p, x3, y, z3, _, rfl, p3, by omega, by decide, by decide, fun r4 H4 t0 t1 L4 => ?_⟩
    refine ⟨_, _, rfl, rfl, _, _, rfl, ?_⟩
    exact (L3.go p3 L4).mono (by omega)
  · rintro σ H3 ⟨nm, v, rfl, L3⟩
    exact ⟨_, rfl, _, rfl, _, _, rfl, rfl, .inl ⟨by omega, by omega⟩, q _ H3 (L3.mono (by omega))⟩
end
end Ev



/-! _law_row: a list of its own, of things (key, tag), whatever they are, no longer than told. -/
namespace Ev
open PySem L2
abbrev sRow : Stmt := top 7
abbrev nRow : List Str := ["pool", "most", "kind", "way", "keys", "at", "tags"]
/-- the thing t stands at a -/
def ThAt (H : Hp) (a : Addr) (t : Int × Str) : Prop := H a = some (.tup [.int t.1, .str t.2])
abbrev Ths (H : Hp) : List Addr → List (Int × Str) → Prop := Paired (ThAt H)
theorem Ths.keep {H H' : Hp} {as : List Addr} {ts : List (Int × Str)} (h : Ths H as ts) (k : ∀ a xs, H a = some (.tup xs) → H' a = some (.tup xs)) : Ths H' as ts := Paired.mapP h fun a t e => k a _ e
theorem Kp.tup {p : Addr} {H H' : Hp} {ys : List V} (k : Kp p H H') (hp : H p = some (.lst ys)) : ∀ a xs, H a = some (.tup xs) → H' a = some (.tup xs) := fun a xs e => k a _ (fun z => by subst z; rw [hp] at e; cases e) e
def spRow : Sp := fun vs H Q _ => ∃ (p : Addr) (x y z m : Int), vs = [.ref p, .int m] ∧ PoolAt H p x y z ∧ z ≤ 500000 ∧ 0 ≤ m ∧ m ≤ 2000 ∧
  ∀ (l : Addr) (as : List Addr) (ts : List (Int × Str)) (H' : Hp), H' l = some (.lst (as.map V.ref)) → Ths H' as ts → (as.length : Int) ≤ m → (∀ t ∈ ts, t.2.length ≤ 8) → Left p y z (7 * m + 40) H H' → Q (.ref l) H'
section
variable {P : Program} {w : World} {K : PySem.W.Frag} {mg : Str → Option Value} {base : Heap}
theorem scRow : FnScope nRow ["pool", "most"] (defScope sRow) := ⟨rfl, rfl, rfl, by decide +kernel, rfl, by decide +kernel, by decide +kernel⟩
abbrev cxRow (P : Program) (w : World) (K : PySem.W.Frag) (mg : Str → Option Value) (base : Heap) (f : Addr) (cdv : Value) (A : Around) (outer : List Env) (s : Shared) (H : Hp) (E : XK) : Cx := (cxOf CX0 P w K mg base nRow "_law_row" (defScope sRow) f cdv A outer s H E).nox
theorem nd_key : (["key", "pool", "tags"] : List Str).Nodup := by decide +kernel
theorem nd_turn : (["turn", "pool", "kind"] : List Str).Nodup := by decide +kernel
theorem Left.lst {p a : Addr} {x y z n : Int} {H H' : Hp} {xs : List V} (L : Left p y z n H H') (hp : PoolAt H p x y z) (h : H a = some (.lst xs)) (hne : a ≠ p) : H' a = some (.lst xs) := L.kp a _ hne h
theorem Left.ne {p e : Addr} {y z n : Int} {H H' : Hp} (L : Left p y z n H H') (h : H' e = none) : e ≠ p := fun q => by
  subst q
  obtain ⟨_, _, q, _⟩ := L.pool
  rw [q.1] at h
  cases h
theorem go1 {i : Nat} {x : V} {σ : St} {H : Hp} {A B : St → Hp → Prop} (h : A (σ.set i (some x)) H) : gName i x σ H fun σ2 H2 => tAll σ2 H2 fun b H3 => if b = true then A σ2 H3 else B σ2 H3 := by
  show (if true = true then A (σ.set i (some x)) H else B (σ.set i (some x)) H)
  rw [if_pos rfl]
  exact h
theorem cut_map (ks : List Int) (lo hi : Option Int) : cutV (ks.map V.int) lo hi = ((ks.drop (HT.sIx ks.length 0 lo)).take (HT.sIx ks.length ks.length hi - HT.sIx ks.length 0 lo)).map V.int := by
  unfold cutV
  rw [List.length_map, List.map_take, List.map_drop]
theorem ok_row {f fT fG fK : Addr} {fd fdT fdG fdK : FuncData} (F : Fun K "_law_row" "_law_row" sRow f fd) (T : Nm mg) (ct : Cal P w K mg base "_law_take" 1 fT fdT ["pool", "many"] spTake')
    (cg : Cal P w K mg base "_law_tag" 2 fG fdG ["pool"] spTag) (ck : Cal P w K mg base "_law_key" 2 fK fdK ["pool", "kind"] spKey) : FnOk P w K mg base CX0 3 f fd ["pool", "most"] spRow := by
  refine F.ok scRow (fun vs H Q E h => ?_) (fun cdv A outer s H vs Q E hr h => ?_)
  · obtain ⟨p, x, y, z, m, rfl, _⟩ := h
    rfl
  obtain ⟨p, x, y, z, m, rfl, hp, hz, hm0, hm1, q⟩ := h
  have z0 := hp.2
  have hr1 : Room 1 _ := hr.mono (by decide)
  -- what holds once the keys are drawn
  let RI : St → Hp → Prop := fun σ H2 => ∃ (l : Addr) (ks : List Int) (kind way : Int) (v5 v6 : Option V), σ = [some (.ref p), some (.int m), some (.int kind), some (.int way), some (.ref l), v5, v6] ∧ H2 l = some (.lst (ks.map V.int)) ∧ (ks.length : Int) ≤ m ∧ l ≠ p
  -- the tags, and the row
  have t6 : ∃ t, PSs (cxRow P w K mg base f cdv A outer s H E) ((defBody sRow).drop 6) t ∧ ∀ σ H2, RI σ H2 → Left p y z (5 * m + 10) H H2 → t { nx := fun _ H' => Q .non H', rt := Q } σ H2 := by
    refine ⟨_, pss_cons (ps_set (i := 6) scRow.nd rfl (Or.inr rfl) (pe_lst (pa_cons (pe_call cg.G hr rfl cg.m cg.k cg.b .nil pass0 (pa_cons (pv 0) pa_nil)) (pa_cons (pe_call cg.G hr rfl cg.m cg.k cg.b .nil pass0 (pa_cons (pv 0) pa_nil)) (pa_cons (pe_call cg.G hr rfl cg.m cg.k cg.b .nil pass0 (pa_cons (pv 0) pa_nil)) pa_nil)))))
      (pss_one (ps_ret (pe_comp (esc := defScope sRow) (N := nRow) (tn := ["key"]) (fn := ["pool", "tags"]) (ix := [0, 6]) rfl rfl rfl ⟨rfl, by decide +kernel, by decide +kernel, by decide +kernel, rfl, by decide +kernel⟩ (pi_list (pv 4)) (fun _ _ _ _ _ => pg_name (i := 0) nd_key rfl (Or.inl rfl)) (fun _ _ _ _ _ => pts_nil)
        (fun _ _ _ _ _ => pe_tup (pa_cons (pv 0) (pa_cons (pe_slice sl_str (pe_ix (ix_listK (K := K) rfl) (pv 2) (pe_call ct.G hr1 rfl ct.m ct.k ct.b .nil pass0 (pa_cons (pv 1) (pa_cons pe_int pa_nil))) (fun _ _ => rfl)) po_none (po_some (pe_op op_add pe_int (pe_call ct.G hr1 rfl ct.m ct.k ct.b .nil pass0 (pa_cons (pv 1) (pa_cons pe_int pa_nil)))))) pa_nil)))))), ?_⟩
    rintro σ H2 ⟨l, ks, kind, way, v5, v6, rfl, hl, hlen, hlp⟩ L2
    obtain ⟨x2, z2, p2, a1, a2⟩ := L2.pool
    refine ⟨_, rfl, p, x2, y, z2, rfl, p2, by omega, fun u1 H3 g1 g1' M1 => ?_⟩
    have L3 := L2.go p2 M1
    obtain ⟨x3, z3, p3, a3, a4⟩ := M1.pool
    refine ⟨_, rfl, p, x3, y, z3, rfl, p3, by omega, fun u2 H4 g2 g2' M2 => ?_⟩
    have L4 := L3.go p3 M2
    obtain ⟨x4, z4, p4, a5, a6⟩ := M2.pool
    refine ⟨_, rfl, p, x4, y, z4, rfl, p4, by omega, fun u3 H5 g3 g3' M3 => ?_⟩
    have L5 := L4.go p4 M3
    obtain ⟨x5, z5, p5, a7, a8⟩ := M3.pool
    refine ⟨(small (by decide) : 3 ≤ sizeLine), fun tg htg => ?_⟩
    have hl5 : H5 l = some (.lst (ks.map V.int)) := M3.kp _ _ hlp (M2.kp _ _ hlp (M1.kp _ _ hlp hl))
    have L6 : Left p y z (5 * m + 10 + 9 + 9 + 9) H (upd H5 tg (.lst [.str u1, .str u2, .str u3])) := L5.new htg
    have hl6 : (upd H5 tg (.lst [.str u1, .str u2, .str u3])) l = some (.lst (ks.map V.int)) := by rw [upd_ne (ne_of_none hl5 htg)]; exact hl5
    have tgp : tg ≠ p := fun e => by subst e; rw [p5.1] at htg; cases htg
    refine ⟨_, rfl, l, rfl, ⟨_, SqL.of hl6⟩, fun l2 hl2 => ?_⟩
    have l2l : l ≠ l2 := ne_of_none hl6 hl2
    have l2t : tg ≠ l2 := ne_of_none upd_same hl2
    have l2p : l2 ≠ p := fun e => by
      subst e
      obtain ⟨_, _, z9, _⟩ := L6.pool
      rw [z9.1] at hl2; cases hl2
    refine comp_by (J := Itl K l) ks.length (fun i σ H7 => ∃ (v : Option V) (as : List Addr) (ts : List (Int × Str)), σ = [v, some (.ref p), some (.ref tg)] ∧ H7 l = some (.lst (ks.map V.int)) ∧ H7 tg = some (.lst [.str u1, .str u2, .str u3]) ∧
        H7 l2 = some (.lst (as.map V.ref)) ∧ Ths H7 as ts ∧ as.length = i ∧ (∀ t ∈ ts, t.2.length ≤ 8) ∧ Left p y z (5 * m + 37 + 2 * i) H H7) ?_ ?_ ?_ ?_ ?_
    · refine ⟨none, [], [], rfl, by rw [upd_ne l2l]; exact hl6, by rw [upd_ne l2t]; exact upd_same, upd_same, .nil, rfl, (fun t ht => (nomatch ht)), (L6.new hl2).mono (by omega)⟩
    · rintro i σ H7 hi ⟨v, as, ts, rfl, b1, b2, b3, b4, b5, b6, b7⟩
      exact ⟨_, _, SqL.of b1, List.getElem?_eq_getElem (by rw [List.length_map]; exact hi)⟩
    · rintro σ H7 ⟨v, as, ts, rfl, b1, b2, b3, b4, b5, b6, b7⟩
      exact ⟨_, SqL.of b1, by rw [List.length_map]; exact Nat.le_refl _⟩
    · rintro i xv σ H7 H8 hi ⟨v, as, ts, rfl, b1, b2, b3, b4, b5, b6, b7⟩ ⟨rfl, yl⟩
      have hx := yl _ (SqL.of b1)
      obtain ⟨k, rfl⟩ : ∃ k, xv = V.int k := by
        rw [List.getElem?_map] at hx
        cases e : ks[i]? with
        | none => rw [e] at hx; cases hx
        | some k => rw [e] at hx; exact ⟨k, (Option.some.inj hx).symm⟩
      refine go1 ?_
      obtain ⟨x7, z7, p7, c1, c2⟩ := b7.pool
      refine ⟨_, rfl, _, rfl, _, rfl, p, x7, y, z7, 3, rfl, p7, by omega, by decide, by decide, fun r H9 r0 r1 N1 => ?_⟩
      have b2' : H9 tg = some (.lst [.str u1, .str u2, .str u3]) := N1.kp _ _ tgp b2
      obtain ⟨u, hu, mem⟩ := at_in (xs := ([.str u1, .str u2, .str u3] : List V)) (i := r) r0 r1
      obtain ⟨ut, rfl, ul⟩ : ∃ ut : Str, u = .str ut ∧ ut.length ≤ 8 := by
        simp only [List.mem_cons, List.not_mem_nil, or_false] at mem
        rcases mem with e | e | e <;> subst e
        · exact ⟨u1, rfl, g1⟩
        · exact ⟨u2, rfl, g2⟩
        · exact ⟨u3, rfl, g3⟩
      obtain ⟨x9, z9, p9, c3, c4⟩ := N1.pool
      refine ⟨tg, _, r, _, rfl, rfl, SqL.of b2', hu, ?_⟩
      refine ⟨_, rfl, p, x9, y, z9, 8, rfl, p9, by omega, by decide, by decide, fun r' H10 r0' r1' N2 => ?_⟩
      refine ⟨_, _, rfl, rfl, _, rfl, ut, rfl, small (by omega), fun yt hy => ?_⟩
      refine ⟨two_ok, fun tq htq => ?_⟩
      have b3' : H10 l2 = some (.lst (as.map V.ref)) := N2.kp _ _ l2p (N1.kp _ _ l2p b3)
      have q2 : l2 ≠ tq := ne_of_none b3' htq
      have b1' : H10 l = some (.lst (ks.map V.int)) := N2.kp _ _ hlp (N1.kp _ _ hlp b1)
      have b2'' : H10 tg = some (.lst [.str u1, .str u2, .str u3]) := N2.kp _ _ tgp b2'
      refine ⟨as.map V.ref, by rw [upd_ne q2]; exact b3', smalll (by rw [List.length_map]; omega), some (.int k), as ++ [tq], ts ++ [(k, yt)], rfl, ?_, ?_, ?_, ?_, ?_, ?_, ?_⟩
      · rw [upd_ne l2l, upd_ne (ne_of_none b1' htq)]; exact b1'
      · rw [upd_ne l2t, upd_ne (ne_of_none b2'' htq)]; exact b2''
      · rw [upd_same, List.map_append]; rfl
      · have kt : ∀ a xs, H8 a = some (.tup xs) → upd (upd H10 tq (.tup [.int k, .str yt])) l2 (.lst (as.map V.ref ++ [.ref tq])) a = some (.tup xs) := fun a xs e => by
          have e10 : H10 a = some (.tup xs) := N2.kp.tup p9.1 _ _ (N1.kp.tup p7.1 _ _ e)
          rw [upd_ne (ne_of e10 b3' (by intro z; cases z)), upd_ne (ne_of_none e10 htq)]
          exact e10
        refine Paired.snoc (b4.keep kt) ?_
        show upd (upd H10 tq (.tup [.int k, .str yt])) l2 (.lst (as.map V.ref ++ [.ref tq])) tq = some (.tup [.int k, .str yt])
        rw [upd_ne (Ne.symm q2), upd_same]
      · rw [List.length_append, b5]; rfl
      · intro t ht
        rcases List.mem_append.mp ht with ht | ht
        · exact b6 t ht
        · rw [List.mem_singleton] at ht; subst ht; show yt.length ≤ 8; omega
      · have Lx := ((b7.go p7 N1).mono (m := 5 * m + 37 + 2 * i + 1) (by omega)).go p9 N2
        have Ly : Left p y z (5 * m + 37 + 2 * i + 1 + 1) H (upd H10 tq (.tup [.int k, .str yt])) := Lx.new htq
        obtain ⟨⟨xx, zz, pp, d1, d2⟩, kk⟩ := Ly
        refine ⟨⟨xx, zz, ⟨by rw [upd_ne (Ne.symm l2p)]; exact pp.1, pp.2⟩, d1, by omega⟩, fun bb o hb e => ?_⟩
        have hl0 : bb ≠ l2 := fun e2 => by
          subst e2
          have := (L6.kp bb o hb e)
          rw [hl2] at this; cases this
        rw [upd_ne hl0]
        exact kk bb o hb e
    · rintro σ H7 ⟨v, as, ts, rfl, b1, b2, b3, b4, b5, b6, b7⟩
      exact q l2 as ts H7 b3 b4 (by omega) b6 (b7.mono (by omega))
  -- if way == 3
  have t5 : ∃ t, PSs (cxRow P w K mg base f cdv A outer s H E) ((defBody sRow).drop 5) t ∧ ∀ σ H2, RI σ H2 → Left p y z (5 * m + 9) H H2 → t { nx := fun _ H' => Q .non H', rt := Q } σ H2 := by
    obtain ⟨t, h6, r6⟩ := t6
    refine ⟨_, pss_cons (ps_if (pt_cmpR op_eq (pv 3) pe_int (nomark _))
      (pss_cons (ps_set (i := 5) scRow.nd rfl (Or.inl rfl) (pe_call ct.G hr1 rfl ct.m ct.k ct.b .nil pass0 (pa_cons (pv 0) (pa_cons (pe_op op_add (pe_callB call_len_seq rfl T.len PySem.boot_len (pa_cons (pv 4) pa_nil)) pe_int) pa_nil))))
      (pss_one (ps_set (i := 4) scRow.nd rfl (Or.inl rfl) (pe_op op_cat (pe_callB call_sorted rfl T.sorted PyProof.Rows.boot_sorted (pa_cons (pe_slice sl_list (pv 4) po_none (po_some (pv 5))) pa_nil)) (pe_callB call_sorted rfl T.sorted PyProof.Rows.boot_sorted (pa_cons (pe_slice sl_list (pv 4) (po_some (pv 5)) po_none) pa_nil)))))) pss_nil) h6, ?_⟩
    rintro σ H2 ⟨l, ks, kind, way, v5, v6, rfl, hl, hlen, hlp⟩ L2
    obtain ⟨x2, z2, p2, a1, a2⟩ := L2.pool
    refine ⟨_, rfl, rfl, _, rfl, ?_⟩
    refine ite2 (fun c => ?_) (fun c => ?_)
    · refine ⟨_, rfl, _, rfl, l, _, rfl, .inl (SqL.of hl), _, _, rfl, rfl, p, x2, y, z2, _, rfl, p2, by omega, by rw [List.length_map]; omega, by rw [List.length_map]; omega, fun r H3 r0 r1 M1 => ?_⟩
      rw [List.length_map] at r1
      have hl3 : H3 l = some (.lst (ks.map V.int)) := M1.kp _ _ hlp hl
      refine ⟨_, rfl, _, rfl, _, rfl, l, _, rfl, SqL.of hl3, fun c1 hc1 => ?_⟩
      rw [cut_map]
      refine ⟨c1, _, rfl, SqL.of upd_same, fun d1 ms1 hd1 pm1 _ => ?_⟩
      have hl4 : ∀ o, (upd H3 c1 o) l = some (.lst (ks.map V.int)) := fun o => by rw [upd_ne (ne_of_none hl3 hc1)]; exact hl3
      have hl5 : ∀ o o', (upd (upd H3 c1 o) d1 o') l = some (.lst (ks.map V.int)) := fun o o' => by
        by_cases e : l = d1
        · have := hl4 (.lst (((ks.drop (HT.sIx ks.length 0 none)).take (HT.sIx ks.length ks.length (some r) - HT.sIx ks.length 0 none)).map V.int))
          rw [e, hd1] at this; cases this
        · rw [upd_ne e]; exact hl4 o
      refine ⟨_, rfl, _, rfl, _, rfl, l, _, rfl, SqL.of (hl5 _ _), fun c2 hc2 => ?_⟩
      rw [cut_map]
      refine ⟨c2, _, rfl, SqL.of upd_same, fun d2 ms2 hd2 pm2 _ => ?_⟩
      have d1c2 : d1 ≠ c2 := fun e => by subst e; rw [upd_same] at hc2; cases hc2
      have d1d2 : d1 ≠ d2 := fun e => by subst e; rw [upd_ne d1c2, upd_same] at hd2; cases hd2
      have n1 := pm1.length_eq
      have n2 := pm2.length_eq
      have er : r = ((r.toNat : Nat) : Int) := by omega
      rw [List.length_take, List.length_drop, HT.sIx_none, er, HT.sIx_nat] at n1
      rw [List.length_take, List.length_drop, HT.sIx_none, er, HT.sIx_nat] at n2
      refine ⟨d1, d2, _, _, rfl, rfl, by rw [upd_ne d1d2, upd_ne d1c2, upd_same], upd_same, ?_, fun e he => ?_⟩
      · rw [List.length_map, List.length_map]
        exact small (by omega)
      · have L3 := L2.go p2 M1
        refine r6 _ _ ⟨e, ms1 ++ ms2, kind, way, _, v6, rfl, ?_, ?_, ((((L3.new hc1).new hd1).new hc2).new hd2).ne he⟩ ((((((L3.new hc1).new hd1).new hc2).new hd2).new he).mono (by omega))
        · rw [upd_same, List.map_append]
        · rw [List.length_append]; omega
    · exact r6 _ _ ⟨l, ks, kind, way, v5, v6, rfl, hl, hlen, hlp⟩ (L2.mono (by omega))
  -- if way == 2
  have t4 : ∃ t, PSs (cxRow P w K mg base f cdv A outer s H E) ((defBody sRow).drop 4) t ∧ ∀ σ H2, RI σ H2 → Left p y z (5 * m + 9) H H2 → t { nx := fun _ H' => Q .non H', rt := Q } σ H2 := by
    obtain ⟨t, h5, r5⟩ := t5
    refine ⟨_, pss_cons (ps_if (pt_cmpR op_eq (pv 3) pe_int (nomark _)) (pss_one (ps_set (i := 4) scRow.nd rfl (Or.inl rfl) (pe_rev (pe_callB call_sorted rfl T.sorted PyProof.Rows.boot_sorted (pa_cons (pv 4) pa_nil)) (pe_un un_neg pe_int)))) pss_nil) h5, ?_⟩
    rintro σ H2 ⟨l, ks, kind, way, v5, v6, rfl, hl, hlen, hlp⟩ L2
    refine ⟨_, rfl, rfl, _, rfl, ?_⟩
    refine ite2 (fun c => ?_) (fun c => ?_)
    · refine ⟨_, rfl, l, _, rfl, SqL.of hl, fun d1 ms1 hd1 pm1 _ => ?_⟩
      refine ⟨_, rfl, d1, _, rfl, rfl, SqL.of upd_same, fun e he => ?_⟩
      refine r5 _ _ ⟨e, ms1.reverse, kind, way, v5, v6, rfl, ?_, ?_, (L2.new hd1).ne he⟩ ((L2.new hd1).new he)
      · rw [upd_same, List.map_reverse]
      · rw [List.length_reverse, pm1.length_eq]; exact hlen
    · exact r5 _ _ ⟨l, ks, kind, way, v5, v6, rfl, hl, hlen, hlp⟩ L2
  -- if way == 1
  have t3 : ∃ t, PSs (cxRow P w K mg base f cdv A outer s H E) ((defBody sRow).drop 3) t ∧ ∀ σ H2, RI σ H2 → Left p y z (5 * m + 9) H H2 → t { nx := fun _ H' => Q .non H', rt := Q } σ H2 := by
    obtain ⟨t, h4, r4⟩ := t4
    refine ⟨_, pss_cons (ps_if (pt_cmpR op_eq (pv 3) pe_int (nomark _)) (pss_one (ps_set (i := 4) scRow.nd rfl (Or.inl rfl) (pe_callB call_sorted rfl T.sorted PyProof.Rows.boot_sorted (pa_cons (pv 4) pa_nil)))) pss_nil) h4, ?_⟩
    rintro σ H2 ⟨l, ks, kind, way, v5, v6, rfl, hl, hlen, hlp⟩ L2
    refine ⟨_, rfl, rfl, _, rfl, ?_⟩
    refine ite2 (fun c => ?_) (fun c => ?_)
    · refine ⟨_, rfl, l, _, rfl, SqL.of hl, fun d1 ms1 hd1 pm1 _ => ?_⟩
      exact r4 _ _ ⟨d1, ms1, kind, way, v5, v6, rfl, upd_same, by rw [pm1.length_eq]; exact hlen, L2.ne hd1⟩ (L2.new hd1)
    · exact r4 _ _ ⟨l, ks, kind, way, v5, v6, rfl, hl, hlen, hlp⟩ L2
  -- the keys
  obtain ⟨t, h3, r3⟩ := t3
  refine ⟨_, pss_cons (ps_set (i := 2) scRow.nd rfl (Or.inr rfl) (pe_call ct.G hr1 rfl ct.m ct.k ct.b .nil pass0 (pa_cons (pv 0) (pa_cons pe_int pa_nil))))
    (pss_cons (ps_set (i := 3) scRow.nd rfl (Or.inl rfl) (pe_call ct.G hr1 rfl ct.m ct.k ct.b .nil pass0 (pa_cons (pv 0) (pa_cons pe_int pa_nil))))
    (pss_cons (ps_comp (i := 4) (esc := defScope sRow) (N := nRow) (tn := ["turn"]) (fn := ["pool", "kind"]) (ix := [0, 2]) scRow.nd rfl rfl rfl rfl rfl ⟨rfl, by decide +kernel, by decide +kernel, by decide +kernel, rfl, by decide +kernel⟩
      (pi_range1 rfl T.range (pa_cons (pe_call ct.G hr1 rfl ct.m ct.k ct.b .nil pass0 (pa_cons (pv 0) (pa_cons (pe_op op_add (pv 1) pe_int) pa_nil))) pa_nil)) (fun _ _ _ _ _ => pg_name (i := 0) nd_turn rfl (Or.inl rfl)) (fun _ _ _ _ _ => pts_nil)
      (fun _ _ _ _ _ => pe_call ck.G hr rfl ck.m ck.k ck.b .nil pass0 (pa_cons (pv 1) (pa_cons (pv 2) pa_nil)))) h3)), ?_⟩
  refine ⟨_, rfl, p, x, y, z, 3, rfl, hp, by omega, by decide, by decide, fun kind H1 k0 k1 M1 => ?_⟩
  obtain ⟨x1, z1, p1, a1, a2⟩ := M1.pool
  refine ⟨_, rfl, p, x1, y, z1, 4, rfl, p1, by omega, by decide, by decide, fun way H2 w0 w1 M2 => ?_⟩
  have L2 := M1.go p1 M2
  obtain ⟨x2, z2, p2, a3, a4⟩ := M2.pool
  refine ⟨_, rfl, _, rfl, _, _, rfl, rfl, p, x2, y, z2, _, rfl, p2, by omega, by omega, by omega, fun r H3 r0 r1 M3 => ?_⟩
  have L3 := L2.go p2 M3
  refine ⟨r, rfl, by omega, by omega, fun l hl => ?_⟩
  have hlp := L3.ne hl
  refine comp_by (J := Itr 0 r.toNat) r.toNat (fun i σ H4 => ∃ (v : Option V) (ks : List Int), σ = [v, some (.ref p), some (.int kind)] ∧ H4 l = some (.lst (ks.map V.int)) ∧ ks.length = i ∧ Left p y z (3 + 5 * i) H H4) ?_ ?_ ?_ ?_ ?_
  · exact ⟨none, [], rfl, upd_same, rfl, (L3.new hl).mono (by omega)⟩
  · exact fun i σ H4 hi _ => hi
  · exact fun σ H4 _ => Nat.le_refl _
  · rintro i xv σ H4 H5 hi ⟨v, ks, rfl, b1, b2, b3⟩ ⟨rfl, rfl⟩
    refine go1 ?_
    obtain ⟨x4, z4, p4, c1, c2⟩ := b3.pool
    refine ⟨_, rfl, _, rfl, p, x4, y, z4, kind, rfl, p4, by omega, fun kv H6 N1 => ?_⟩
    have b1' : H6 l = some (.lst (ks.map V.int)) := N1.kp _ _ hlp b1
    refine ⟨_, b1', smalll (by rw [List.length_map]; omega), _, ks ++ [kv], rfl, by rw [upd_same, List.map_append]; rfl, by rw [List.length_append, b2]; rfl, ?_⟩
    have Lx := (b3.go p4 N1).mono (m := 3 + 5 * ((i + 1 : Nat) : Int)) (by omega)
    obtain ⟨⟨xx, zz, pp, d1, d2⟩, kk⟩ := Lx
    refine ⟨⟨xx, zz, ⟨by rw [upd_ne (Ne.symm hlp)]; exact pp.1, pp.2⟩, d1, by omega⟩, fun bb o hb e => ?_⟩
    have hl0 : bb ≠ l := fun e2 => by
      subst e2
      have := L3.kp bb o hb e
      rw [hl] at this; cases this
    rw [upd_ne hl0]
    exact kk bb o hb e
  · rintro σ H4 ⟨v, ks, rfl, b1, b2, b3⟩
    exact r3 _ _ ⟨l, ks, kind, way, none, none, rfl, b1, by omega, hlp⟩ (b3.mono (by omega))
end
end Ev



/-! _law_same: of two values that are the same data it tells True. -/
namespace Ev
open PySem L2
abbrev sSame : Stmt := top 10
def Flat (x y : V) : Prop := (∃ i, x = .int i ∧ y = .int i) ∨ ∃ s, x = .str s ∧ y = .str s
/-- the same data, at most n deep -/
def Alk (H : Hp) : Nat → V → V → Prop
  | 0, x, y => Flat x y
  | n + 1, x, y => Flat x y ∨ ∃ a b xs ys, x = .ref a ∧ y = .ref b ∧ ((H a = some (.lst xs) ∧ H b = some (.lst ys)) ∨ (H a = some (.tup xs) ∧ H b = some (.tup ys))) ∧ xs.length = ys.length ∧ xs.length ≤ 100000 ∧
      ∀ (i : Nat) (u v : V), xs[i]? = some u → ys[i]? = some v → Alk H n u v
theorem Alk.keep {H H' : Hp} (k : L2.Same H H') : ∀ {n : Nat} {x y : V}, Alk H n x y → Alk H' n x y
  | 0, _, _, h => h
  | n + 1, _, _, h => by
    rcases h with h | ⟨a, b, xs, ys, e1, e2, h, l1, l2, e⟩
    · exact .inl h
    · refine .inr ⟨a, b, xs, ys, e1, e2, ?_, l1, l2, fun i u v c d => (e i u v c d).keep k⟩
      rcases h with ⟨h1, h2⟩ | ⟨h1, h2⟩
      · exact .inl ⟨k _ _ h1, k _ _ h2⟩
      · exact .inr ⟨k _ _ h1, k _ _ h2⟩
def spSame (n : Nat) : Sp := fun vs H Q _ => ∃ (x y : V), vs = [x, y] ∧ Alk H n x y ∧ ∀ H', L2.Same H H' → Q (.bl true) H'
theorem ki_int_bool (K : PySem.W.Frag) : PySem.W.kitOne K (.type "int") (.type "bool") = some false := by kernel_rfl
theorem ki_str_bool (K : PySem.W.Frag) : PySem.W.kitOne K (.type "str") (.type "bool") = some false := by kernel_rfl
theorem ki_list_bool (K : PySem.W.Frag) : PySem.W.kitOne K (.type "list") (.type "bool") = some false := by kernel_rfl
theorem ki_tuple_bool (K : PySem.W.Frag) : PySem.W.kitOne K (.type "tuple") (.type "bool") = some false := by kernel_rfl
theorem ki_int_tuple (K : PySem.W.Frag) : PySem.W.kitOne K (.type "int") (.type "tuple") = some false := by kernel_rfl
theorem ki_str_tuple (K : PySem.W.Frag) : PySem.W.kitOne K (.type "str") (.type "tuple") = some false := by kernel_rfl
theorem ki_list_tuple (K : PySem.W.Frag) : PySem.W.kitOne K (.type "list") (.type "tuple") = some false := by kernel_rfl
theorem ki_tuple_tuple (K : PySem.W.Frag) : PySem.W.kitOne K (.type "tuple") (.type "tuple") = some true := by kernel_rfl
theorem ki_int_str (K : PySem.W.Frag) : PySem.W.kitOne K (.type "int") (.type "str") = some false := by kernel_rfl
theorem ki_str_str (K : PySem.W.Frag) : PySem.W.kitOne K (.type "str") (.type "str") = some true := by kernel_rfl
theorem ki_list_list (K : PySem.W.Frag) : PySem.W.kitOne K (.type "list") (.type "list") = some true := by kernel_rfl
theorem ka_int (K : PySem.W.Frag) : PySem.W.kitAny K (.type "int") [.type "list", .type "tuple"] = some false := by kernel_rfl
theorem ka_str (K : PySem.W.Frag) : PySem.W.kitAny K (.type "str") [.type "list", .type "tuple"] = some false := by kernel_rfl
theorem ka_list (K : PySem.W.Frag) : PySem.W.kitAny K (.type "list") [.type "list", .type "tuple"] = some true := by kernel_rfl
theorem ka_tuple (K : PySem.W.Frag) : PySem.W.kitAny K (.type "tuple") [.type "list", .type "tuple"] = some true := by kernel_rfl
/-- what isinstance tells of a value of the built-in type t, here -/
structure Ty4 (K : PySem.W.Frag) (t : String) (b2 b3 b4 : Bool) : Prop where
  i1 : PySem.W.kitOne K (.type t) (.type "bool") = some false
  i2 : PySem.W.kitOne K (.type t) (.type "tuple") = some b2
  i3 : PySem.W.kitAny K (.type t) (["list", "tuple"].map Value.type) = some b3
  i4 : PySem.W.kitOne K (.type t) (.type "str") = some b4 ∨ b3 = true
section
variable {P : Program} {w : World} {K : PySem.W.Frag} {mg : Str → Option Value} {base : Heap}
theorem ty_int : Ty4 K "int" false false false := ⟨ki_int_bool K, ki_int_tuple K, ka_int K, .inl (ki_int_str K)⟩
theorem ty_str : Ty4 K "str" false false true := ⟨ki_str_bool K, ki_str_tuple K, ka_str K, .inl (ki_str_str K)⟩
theorem ty_list : Ty4 K "list" false true false := ⟨ki_list_bool K, ki_list_tuple K, ka_list K, .inr rfl⟩
theorem ty_tuple : Ty4 K "tuple" true true false := ⟨ki_tuple_bool K, ki_tuple_tuple K, ka_tuple K, .inr rfl⟩
theorem scSame : FnScope ["one", "other"] ["one", "other"] (defScope sSame) := ⟨rfl, rfl, rfl, by decide +kernel, rfl, by decide +kernel, by decide +kernel⟩
theorem nd_ab : (["a", "b"] : List Str).Nodup := by decide +kernel
theorem tst {A B : Prop} {b : Bool} (h : B) : if (!decide (V.bl b = V.bl b)) = true then A else B := by
  rw [decide_eq_true rfl]
  exact iteF h
/-- one call deeper: n of the depth -/
theorem ok_same1 {n lv : Nat} {f g : Addr} {fd gd : FuncData} (F : Fun K "_law_same" "_law_same" sSame f fd) (T : Nm mg) (deep : ∀ m, n = m + 1 → Cal P w K mg base "_law_same" lv g gd ["one", "other"] (spSame m)) : FnOk P w K mg base CX0 (lv + 1) f fd ["one", "other"] (spSame n) := by
  refine F.ok scSame (fun vs H Q E h => ?_) (fun cdv A outer s H vs Q E hr h => ?_)
  · obtain ⟨x, y, rfl, _⟩ := h
    rfl
  obtain ⟨x, y, rfl, hA, q⟩ := h
  have hu : ((cxOf CX0 P w K mg base ["one", "other"] "_law_same" (defScope sSame) f cdv A outer s H E).nox).A.units < cLine := Nat.lt_of_le_of_lt (Nat.le_succ _) (hu_of hr)
  have go : ∀ (t : String) (b2 b3 b4 : Bool), Ty4 K t b2 b3 b4 → (∀ H', L2.Same H H' → TyOf K H' x (.type t) ∧ TyOf K H' y (.type t)) → (b3 = false → Flat x y) →
      (b3 = true → ∃ m, n = m + 1 ∧ ∃ a b xs ys, x = .ref a ∧ y = .ref b ∧ ((H a = some (.lst xs) ∧ H b = some (.lst ys)) ∨ (H a = some (.tup xs) ∧ H b = some (.tup ys))) ∧ xs.length = ys.length ∧ xs.length ≤ 100000 ∧ ∀ (i : Nat) (u v : V), xs[i]? = some u → ys[i]? = some v → Alk H m u v) →
      ∃ t, PSs (cxOf CX0 P w K mg base ["one", "other"] "_law_same" (defScope sSame) f cdv A outer s H E).nox (defBody sSame) t ∧ t { nx := fun _ H' => Q .non H', rt := Q } (L2.start ["one", "other"] [x, y]) H := by
    intro t b2 b3 b4 ty tyo flat deepo
    have one : ∀ T2, Gl (cxOf CX0 P w K mg base ["one", "other"] "_law_same" (defScope sSame) f cdv A outer s H E).nox T2 → True := fun _ _ => trivial
    cases b3 with
    | false =>
      refine ⟨_, pss_cons (ps_if (PW.pt (pw_or (pt_cmpR op_ne (pe_callB call_isOne rfl T.isi PyProof.Rows.boot_isinstance (pa_cons (pv 0) (pa_cons (pe_bltn (v := .ty "bool") rfl T.bool PyProof.Rows.boot_bool rfl) pa_nil))) (pe_callB call_isOne rfl T.isi PyProof.Rows.boot_isinstance (pa_cons (pv 1) (pa_cons (pe_bltn (v := .ty "bool") rfl T.bool PyProof.Rows.boot_bool rfl) pa_nil))) (nomark _))
          (pw_or1 (pt_cmpR op_ne (pe_callB call_isOne rfl T.isi PyProof.Rows.boot_isinstance (pa_cons (pv 0) (pa_cons (pe_bltn (v := .ty "tuple") rfl T.tuple PyProof.Rows.boot_tuple rfl) pa_nil))) (pe_callB call_isOne rfl T.isi PyProof.Rows.boot_isinstance (pa_cons (pv 1) (pa_cons (pe_bltn (v := .ty "tuple") rfl T.tuple PyProof.Rows.boot_tuple rfl) pa_nil))) (nomark _))))) (pss_one (ps_ret pe_bl)) pss_nil)
        (pss_cons (ps_if (PW.pt (pw_and (pt_val (pe_callB call_isAny rfl T.isi PyProof.Rows.boot_isinstance (pa_cons (pv 0) (pa_cons (pe_tup (pa_cons (pe_bltn (v := .ty "list") rfl T.list PyProof.Rows.boot_list rfl) (pa_cons (pe_bltn (v := .ty "tuple") rfl T.tuple PyProof.Rows.boot_tuple rfl) pa_nil))) pa_nil)))) (pw_and1 (pt_val (pe_callB call_isAny rfl T.isi PyProof.Rows.boot_isinstance (pa_cons (pv 1) (pa_cons (pe_tup (pa_cons (pe_bltn (v := .ty "list") rfl T.list PyProof.Rows.boot_list rfl) (pa_cons (pe_bltn (v := .ty "tuple") rfl T.tuple PyProof.Rows.boot_tuple rfl) pa_nil))) pa_nil))))))) pss_never pss_nil)
        (pss_one (ps_ret (pe_and (pe_cmpR op_eq (pe_callB call_isOne rfl T.isi PyProof.Rows.boot_isinstance (pa_cons (pv 0) (pa_cons (pe_bltn (v := .ty "str") rfl T.str PyProof.Rows.boot_str rfl) pa_nil))) (pe_callB call_isOne rfl T.isi PyProof.Rows.boot_isinstance (pa_cons (pv 1) (pa_cons (pe_bltn (v := .ty "str") rfl T.str PyProof.Rows.boot_str rfl) pa_nil))) (nomark _)) (pe_one (pe_cmpR op_eq (pv 0) (pv 1) (nomark _))))))), ?_⟩
      have ty0 := tyo H (L2.Same.refl H)
      refine ⟨_, rfl, x, "bool", t, false, rfl, ty0.1, ty.i1, _, rfl, y, "bool", t, false, rfl, ty0.2, ty.i1, rfl, _, rfl, ?_⟩
      refine iteF ?_
      refine ⟨_, rfl, x, "tuple", t, b2, rfl, ty0.1, ty.i2, _, rfl, y, "tuple", t, b2, rfl, ty0.2, ty.i2, (by cases b2 <;> rfl), _, rfl, ?_⟩
      refine tst ?_
      refine ⟨_, rfl, two_ok, fun u1 hu1 => ?_⟩
      have s1 := same_new hu1 (.tup [.ty "list", .ty "tuple"])
      refine ⟨x, u1, ["list", "tuple"], t, false, rfl, upd_same, (tyo _ s1).1, ty.i3, _, rfl, ?_⟩
      refine iteF ?_
      refine iteF ?_
      have i4 : PySem.W.kitOne K (.type t) (.type "str") = some b4 := ty.i4.resolve_right (by decide)
      refine ⟨_, rfl, x, "str", t, b4, rfl, (tyo _ s1).1, i4, _, rfl, y, "str", t, b4, rfl, (tyo _ s1).2, i4, (by cases b4 <;> rfl), _, rfl, ?_⟩
      rw [decide_eq_true rfl]
      refine iteT ?_
      rcases flat rfl with ⟨i, rfl, rfl⟩ | ⟨z, rfl, rfl⟩
      · refine ⟨_, rfl, _, rfl, rfl, ?_⟩
        rw [decide_eq_true rfl]
        exact q _ s1
      · refine ⟨_, rfl, _, rfl, rfl, ?_⟩
        rw [decide_eq_true rfl]
        exact q _ s1
    | true =>
      obtain ⟨m, hm, a, b, xs, ys, rfl, rfl, ho, hl, hl2, hx⟩ := deepo rfl
      have c := deep m hm
      refine ⟨_, pss_cons (ps_if (PW.pt (pw_or (pt_cmpR op_ne (pe_callB call_isOne rfl T.isi PyProof.Rows.boot_isinstance (pa_cons (pv 0) (pa_cons (pe_bltn (v := .ty "bool") rfl T.bool PyProof.Rows.boot_bool rfl) pa_nil))) (pe_callB call_isOne rfl T.isi PyProof.Rows.boot_isinstance (pa_cons (pv 1) (pa_cons (pe_bltn (v := .ty "bool") rfl T.bool PyProof.Rows.boot_bool rfl) pa_nil))) (nomark _))
          (pw_or1 (pt_cmpR op_ne (pe_callB call_isOne rfl T.isi PyProof.Rows.boot_isinstance (pa_cons (pv 0) (pa_cons (pe_bltn (v := .ty "tuple") rfl T.tuple PyProof.Rows.boot_tuple rfl) pa_nil))) (pe_callB call_isOne rfl T.isi PyProof.Rows.boot_isinstance (pa_cons (pv 1) (pa_cons (pe_bltn (v := .ty "tuple") rfl T.tuple PyProof.Rows.boot_tuple rfl) pa_nil))) (nomark _))))) (pss_one (ps_ret pe_bl)) pss_nil)
        (pss_cons (ps_if (PW.pt (pw_and (pt_val (pe_callB call_isAny rfl T.isi PyProof.Rows.boot_isinstance (pa_cons (pv 0) (pa_cons (pe_tup (pa_cons (pe_bltn (v := .ty "list") rfl T.list PyProof.Rows.boot_list rfl) (pa_cons (pe_bltn (v := .ty "tuple") rfl T.tuple PyProof.Rows.boot_tuple rfl) pa_nil))) pa_nil)))) (pw_and1 (pt_val (pe_callB call_isAny rfl T.isi PyProof.Rows.boot_isinstance (pa_cons (pv 1) (pa_cons (pe_tup (pa_cons (pe_bltn (v := .ty "list") rfl T.list PyProof.Rows.boot_list rfl) (pa_cons (pe_bltn (v := .ty "tuple") rfl T.tuple PyProof.Rows.boot_tuple rfl) pa_nil))) pa_nil)))))))
          (pss_one (ps_ret (pe_and (pe_cmpR op_eq (pe_callB call_len_seq rfl T.len PySem.boot_len (pa_cons (pv 0) pa_nil)) (pe_callB call_len_seq rfl T.len PySem.boot_len (pa_cons (pv 1) pa_nil)) (nomark _)) (pe_one (pe_cmpR (op_eqE hu)
            (pe_comp (esc := defScope sSame) (N := ["one", "other"]) (tn := ["a", "b"]) (fn := []) (ix := []) rfl rfl rfl ⟨rfl, by decide +kernel, by decide +kernel, by decide +kernel, rfl, by decide +kernel⟩ (pi_zip rfl T.zip (pa_cons (pv 0) (pa_cons (pv 1) pa_nil))) (fun _ _ _ _ _ => pg_tupK (K := K) (n := 2) rfl rfl (pgs_cons (pg_name (i := 0) nd_ab rfl (Or.inl rfl)) (pgs_cons (pg_name (i := 1) nd_ab rfl (Or.inl rfl)) pgs_nil)))
              (fun _ _ _ _ _ => pts_one (pt_not (pt_val (pe_call c.G hr rfl c.m c.k c.b .nil pass0 (pa_cons (pv 0) (pa_cons (pv 1) pa_nil)))))) (fun _ _ _ _ _ => pe_int))
            (pe_lst pa_nil) (nomark _)))))) pss_nil)
        pss_never), ?_⟩
      have ty0 := tyo H (L2.Same.refl H)
      refine ⟨_, rfl, _, "bool", t, false, rfl, ty0.1, ty.i1, _, rfl, _, "bool", t, false, rfl, ty0.2, ty.i1, rfl, _, rfl, ?_⟩
      refine iteF ?_
      refine ⟨_, rfl, _, "tuple", t, b2, rfl, ty0.1, ty.i2, _, rfl, _, "tuple", t, b2, rfl, ty0.2, ty.i2, (by cases b2 <;> rfl), _, rfl, ?_⟩
      refine tst ?_
      refine ⟨_, rfl, two_ok, fun u1 hu1 => ?_⟩
      have s1 := same_new hu1 (.tup [.ty "list", .ty "tuple"])
      refine ⟨_, u1, ["list", "tuple"], t, true, rfl, upd_same, (tyo _ s1).1, ty.i3, _, rfl, ?_⟩
      refine iteT ?_
      refine ⟨_, rfl, two_ok, fun u2 hu2 => ?_⟩
      have s2 := s1.trans (same_new hu2 (.tup [.ty "list", .ty "tuple"]))
      refine ⟨_, u2, ["list", "tuple"], t, true, rfl, upd_same, (tyo _ s2).2, ty.i3, _, rfl, ?_⟩
      refine iteT ?_
      generalize upd (upd H u1 (.tup [.ty "list", .ty "tuple"])) u2 (.tup [.ty "list", .ty "tuple"]) = H2 at s2
      -- both have as many
      have sq : ∃ k : List V → HO, (k = HO.lst ∨ k = HO.tup) ∧ H2 a = some (k xs) ∧ H2 b = some (k ys) := by
        rcases ho with ⟨o1, o2⟩ | ⟨o1, o2⟩
        · exact ⟨HO.lst, .inl rfl, s2 _ _ o1, s2 _ _ o2⟩
        · exact ⟨HO.tup, .inr rfl, s2 _ _ o1, s2 _ _ o2⟩
      obtain ⟨kd, hkd, oa, ob⟩ := sq
      have sl : ∀ {c : Addr} {zs : List V}, H2 c = some (kd zs) → SqL K H2 c zs ∨ SqT K H2 c zs := fun {c zs} e => by
        rcases hkd with z | z <;> subst z
        · exact .inl (SqL.of e)
        · exact .inr (SqT.of e)
      refine ⟨_, rfl, a, xs, rfl, sl oa, _, rfl, b, ys, rfl, sl ob, rfl, ?_⟩
      rw [hl, decide_eq_true rfl]
      refine ⟨true, rfl, iteT ?_⟩
      refine ⟨_, rfl, _, rfl, a, b, rfl, ?_⟩
      have comp : ∀ l, H2 l = none → tCompW (Itz kd a b) (gTup K 2 (gCons (gName 0) (gCons (gName 1) gNil))) (tNot (tB (tCall (spSame m) [] E0 (tCons (tVar 0) (tCons (tVar 1) tNil))))) (tC (.int 1)) l
          (fun H' => tLst tNil [some (.ref a), some (.ref b)] H' fun yv H'' => rEqE K (.ref l) yv H'' fun v H3 => Q v H3) [none, none] (upd H2 l (.lst [])) := fun l hl0 => by
        have ki : ∀ us vs, kd us = kd vs → us = vs := by
          rcases hkd with z | z <;> subst z <;> (intro us vs e; cases e; rfl)
        refine comp_by (J := Itz kd a b) xs.length (fun i σ H4 => ∃ v1 v2 : Option V, σ = [v1, v2] ∧ L2.Same (upd H2 l (.lst [])) H4) ⟨none, none, rfl, L2.Same.refl _⟩ ?_ ?_ ?_ ?_
        · rintro i σ H4 hi ⟨v1, v2, rfl, k4⟩
          have oa4 : H4 a = some (kd xs) := k4 _ _ (by rw [upd_ne (ne_of_none oa hl0)]; exact oa)
          have ob4 : H4 b = some (kd ys) := k4 _ _ (by rw [upd_ne (ne_of_none ob hl0)]; exact ob)
          exact ⟨xs, ys, _, _, oa4, ob4, List.getElem?_eq_getElem hi, List.getElem?_eq_getElem (by omega)⟩
        · rintro σ H4 ⟨v1, v2, rfl, k4⟩
          have oa4 : H4 a = some (kd xs) := k4 _ _ (by rw [upd_ne (ne_of_none oa hl0)]; exact oa)
          exact ⟨xs, oa4, Nat.le_refl _⟩
        · rintro i xv σ H4 H5 hi ⟨v1, v2, rfl, k4⟩ ⟨Tt, u, v, hT, rfl, rfl, hxs, hys⟩
          have oa4 : H4 a = some (kd xs) := k4 _ _ (by rw [upd_ne (ne_of_none oa hl0)]; exact oa)
          have ob4 : H4 b = some (kd ys) := k4 _ _ (by rw [upd_ne (ne_of_none ob hl0)]; exact ob)
          have kH : L2.Same H (upd H4 Tt (.tup [u, v])) := s2.trans ((same_new hl0 _).trans (k4.trans (same_new hT _)))
          refine ⟨Tt, [u, v], rfl, SqT.of upd_same, rfl, u, [v], rfl, v, [], rfl, rfl, ?_⟩
          refine ⟨_, rfl, _, rfl, u, v, rfl, (hx i u v (hxs xs oa4) (hys ys ob4)).keep kH, fun H6 k6 => ⟨true, rfl, iteF ?_⟩⟩
          exact ⟨some u, some v, rfl, k4.trans ((same_new hT _).trans k6)⟩
        · rintro σ H4 ⟨v1, v2, rfl, k4⟩
          have hl4 : H4 l = some (.lst []) := k4 _ _ upd_same
          refine ⟨Nat.zero_le _, fun e he => ?_⟩
          refine ⟨l, e, [], [], rfl, rfl, SqL.of (by rw [upd_ne (ne_of_none hl4 he)]; exact hl4), SqL.of upd_same, .inl rfl, ?_⟩
          rw [decide_eq_true rfl]
          exact q _ (s2.trans ((same_new hl0 _).trans (k4.trans (same_new he _))))
      rcases hkd with z | z <;> subst z
      · exact .inl ⟨xs, ys, oa, ob, fun l hl0 => comp l hl0⟩
      · exact .inr ⟨xs, ys, oa, ob, fun l hl0 => comp l hl0⟩
  cases n with
  | zero =>
    have fl : Flat x y := hA
    rcases id fl with ⟨i, rfl, rfl⟩ | ⟨z, rfl, rfl⟩
    · exact go "int" _ _ _ ty_int (fun _ _ => ⟨.int i, .int i⟩) (fun _ => fl) (fun e => nomatch e)
    · exact go "str" _ _ _ ty_str (fun _ _ => ⟨.str z, .str z⟩) (fun _ => fl) (fun e => nomatch e)
  | succ n =>
    rcases id hA with fl | ⟨a, b, xs, ys, rfl, rfl, ho, hl, hl2, hx⟩
    · rcases id fl with ⟨i, rfl, rfl⟩ | ⟨z, rfl, rfl⟩
      · exact go "int" _ _ _ ty_int (fun _ _ => ⟨.int i, .int i⟩) (fun _ => fl) (fun e => nomatch e)
      · exact go "str" _ _ _ ty_str (fun _ _ => ⟨.str z, .str z⟩) (fun _ => fl) (fun e => nomatch e)
    · rcases id ho with ⟨h1, h2⟩ | ⟨h1, h2⟩
      · exact go "list" _ _ _ ty_list (fun _ k => ⟨.lst (k _ _ h1), .lst (k _ _ h2)⟩) (fun e => nomatch e) (fun _ => ⟨n, rfl, a, b, xs, ys, rfl, rfl, ho, hl, hl2, hx⟩)
      · exact go "tuple" _ _ _ ty_tuple (fun _ k => ⟨.tup (k _ _ h1), .tup (k _ _ h2)⟩) (fun e => nomatch e) (fun _ => ⟨n, rfl, a, b, xs, ys, rfl, rfl, ho, hl, hl2, hx⟩)
theorem ok_same {f : Addr} {fd : FuncData} (F : Fun K "_law_same" "_law_same" sSame f fd) (b : Binds K fd ["one", "other"] []) (m : mg "_law_same" = some (.ref f)) (T : Nm mg) : ∀ n : Nat, FnOk P w K mg base CX0 (n + 1) f fd ["one", "other"] (spSame n)
  | 0 => ok_same1 (g := f) (gd := fd) F T fun m e => nomatch e
  | n + 1 => ok_same1 F T fun k e => by
    cases e
    exact ⟨ok_same F b m T n, b, F.kp, m⟩
end
end Ev


/-! EVENLOTS: runs, as plain lists. -/
namespace Ev
section
variable {α : Type} (κ : α → Int)
/-- one thing more -/
def stepRun (rs : List (List α)) (a : α) : List (List α) :=
  match rs.getLast? with
  | some r => match r.getLast? with
    | some b => if κ b ≤ κ a then rs.dropLast ++ [r ++ [a]] else rs ++ [[a]]
    | none => rs ++ [[a]]
  | none => rs ++ [[a]]
def runsF (as : List α) : List (List α) := as.foldl (stepRun κ) []
variable {κ}
def cutL (as : List α) (c d : Nat) : List α := (as.drop c).take (d - c)
/-- the pieces between neighbouring cuts -/
def pcs (as : List α) : List Nat → List (List α)
  | c :: d :: r => cutL as c d :: pcs as (d :: r)
  | _ => []
theorem pcs_snoc (as : List α) (c d : Nat) : ∀ cs : List Nat, pcs as (cs ++ [c] ++ [d]) = pcs as (cs ++ [c]) ++ [cutL as c d]
  | [] => rfl
  | [x] => rfl
  | x :: y :: r => by
    show cutL as x y :: pcs as ((y :: r) ++ [c] ++ [d]) = cutL as x y :: pcs as ((y :: r) ++ [c]) ++ [cutL as c d]
    rw [pcs_snoc as c d (y :: r)]
    rfl
theorem pcs_length (as : List α) : ∀ cs : List Nat, (pcs as cs).length = cs.length - 1
  | [] => rfl
  | [_] => rfl
  | x :: y :: r => by
    show (pcs as (y :: r)).length + 1 = (y :: r).length + 1 - 1
    rw [pcs_length as (y :: r)]
    simp
theorem cutL_more {as : List α} {c d : Nat} {a : α} (h : as[d]? = some a) (hc : c ≤ d) : cutL as c (d + 1) = cutL as c d ++ [a] := by
  unfold cutL
  rw [show d + 1 - c = (d - c) + 1 by omega, List.take_add_one, List.getElem?_drop, show c + (d - c) = d by omega, h]
  rfl
theorem cutL_one {as : List α} {d : Nat} {a : α} (h : as[d]? = some a) : cutL as d (d + 1) = [a] := by
  rw [cutL_more h (Nat.le_refl _)]
  unfold cutL
  rw [Nat.sub_self]
  rfl
/-- the places below i where a key falls -/
def cutsTo (κ : α → Int) (as : List α) : Nat → List Nat
  | 0 => []
  | 1 => []
  | i + 2 => cutsTo κ as (i + 1) ++ (match as[i]?, as[i + 1]? with
    | some b, some a => if κ a < κ b then [i + 1] else []
    | _, _ => [])
theorem cuts_lt (as : List α) : ∀ (i : Nat) (c : Nat), c ∈ cutsTo κ as i → 1 ≤ c ∧ c < i
  | 0, c, h => nomatch h
  | 1, c, h => nomatch h
  | i + 2, c, h => by
    rcases List.mem_append.mp h with h | h
    · have := cuts_lt as (i + 1) c h
      omega
    · split at h
      · split at h
        · rw [List.mem_singleton] at h; omega
        · cases h
      · cases h
theorem step_run {as : List α} {cs : List Nat} {c d : Nat} {b a : α} (h1 : as[d]? = some b) (h2 : as[d + 1]? = some a) (hc : c ≤ d) :
    stepRun κ (pcs as (cs ++ [c] ++ [d + 1])) a = if κ a < κ b then pcs as (cs ++ [c] ++ [d + 1] ++ [d + 2]) else pcs as (cs ++ [c] ++ [d + 2]) := by
  have e1 := pcs_snoc as c (d + 1) cs
  have e3 : cutL as c (d + 1) = cutL as c d ++ [b] := cutL_more h1 hc
  unfold stepRun
  rw [e1, List.getLast?_concat]
  dsimp only
  rw [e3, List.getLast?_concat]
  dsimp only
  by_cases q : κ a < κ b
  · rw [if_pos q, if_neg (by omega), pcs_snoc as (d + 1) (d + 2) (cs ++ [c]), cutL_one h2, e1, e3]
  · rw [if_neg q, if_pos (by omega), pcs_snoc as c (d + 2) cs, List.dropLast_concat, cutL_more h2 (by omega), e3]
theorem runs_cuts {as : List α} : ∀ (i : Nat), i + 1 ≤ as.length → (as.take (i + 1)).foldl (stepRun κ) [] = pcs as ([0] ++ cutsTo κ as (i + 1) ++ [i + 1])
  | 0, h => by
    have e : as[0]? = some as[0] := List.getElem?_eq_getElem (by omega)
    rw [List.take_add_one, e]
    show [[as[0]]] = [cutL as 0 1]
    rw [cutL_one e]
  | i + 1, h => by
    have e1 : as[i]? = some as[i] := List.getElem?_eq_getElem (by omega)
    have e2 : as[i + 1]? = some as[i + 1] := List.getElem?_eq_getElem (by omega)
    have ih := runs_cuts (as := as) i (by omega)
    rw [List.take_add_one, e2]
    show (as.take (i + 1) ++ [as[i + 1]]).foldl (stepRun κ) [] = _
    rw [List.foldl_append, ih]
    show stepRun κ (pcs as ([0] ++ cutsTo κ as (i + 1) ++ [i + 1])) as[i + 1] = pcs as ([0] ++ (cutsTo κ as (i + 1) ++ (match as[i]?, as[i + 1]? with
      | some b, some a => if κ a < κ b then [i + 1] else []
      | _, _ => [])) ++ [i + 2])
    rw [e1, e2]
    dsimp only
    obtain ⟨cs, c, ec, hc⟩ : ∃ cs c, [0] ++ cutsTo κ as (i + 1) = cs ++ [c] ∧ c ≤ i := by
      rcases List.eq_nil_or_concat (cutsTo κ as (i + 1)) with hq | ⟨l, x, hq⟩
      · exact ⟨[], 0, by rw [hq]; rfl, Nat.zero_le _⟩
      · have := cuts_lt (κ := κ) as (i + 1) x (by rw [hq]; simp)
        exact ⟨[0] ++ l, x, by rw [hq, List.concat_eq_append, List.append_assoc], by omega⟩
    rw [← List.append_assoc [0], ec, step_run e1 e2 hc]
    by_cases q : κ as[i + 1] < κ as[i]
    · rw [if_pos q, if_pos q]
    · rw [if_neg q, if_neg q, List.append_nil]
/-- what the law cuts out is what the runs are -/
theorem runs_due {as : List α} (h : as ≠ []) : runsF κ as = pcs as ([0] ++ cutsTo κ as as.length ++ [as.length]) := by
  have hl : 0 < as.length := List.length_pos_iff.mpr h
  have e := runs_cuts (κ := κ) (as := as) (as.length - 1) (by omega)
  rw [show as.length - 1 + 1 = as.length by omega, List.take_length] at e
  exact e
theorem runs_nil : runsF κ ([] : List α) = [] := rfl
end
end Ev


/-! runs_of: the program's own def tells the runs, each a list of its own. -/
namespace Ev
open PySem L2
abbrev sRuns : Stmt := top 1
/-- a thing with the key that κ says -/
def Th (κ : Addr → Int) (H : Hp) (a : Addr) : Prop := ∃ s : Str, H a = some (.tup [.int (κ a), .str s])
/-- the lists at ls hold the things of the rows rs -/
abbrev Rws (H : Hp) : List Addr → List (List Addr) → Prop := Paired fun l r => H l = some (.lst (r.map V.ref))
theorem Rws.keep {H H' : Hp} : ∀ {ls : List Addr} {rs : List (List Addr)}, Rws H ls rs → (∀ l ∈ ls, ∀ o, H l = some o → H' l = some o) → Rws H' ls rs
  | _, _, .nil, _ => .nil
  | _, _, .cons h t, k => .cons (k _ List.mem_cons_self _ h) (Rws.keep t fun l hl => k l (List.mem_cons_of_mem _ hl))
theorem Rws.lst {H : Hp} : ∀ {ls : List Addr} {rs : List (List Addr)}, Rws H ls rs → ∀ l ∈ ls, ∃ xs, H l = some (.lst xs)
  | _, _, .cons h t, l, hl => by
    rcases List.mem_cons.mp hl with e | e
    · subst e; exact ⟨_, h⟩
    · exact Rws.lst t l e
/-- told: the list at r of the lists at ls, all new, no two one -/
structure Told (H H' : Hp) (r : Addr) (ls : List Addr) (rs : List (List Addr)) : Prop where
  at_ : H' r = some (.lst (ls.map V.ref))
  rows : Rws H' ls rs
  nd : ls.Nodup
  out : r ∉ ls
  newr : H r = none
  news : ∀ l ∈ ls, H l = none
  same : L2.Same H H'
def spRuns (κ : Addr → Int) : Sp := fun vs H Q _ => ∃ (a : Addr) (as : List Addr), vs = [.ref a] ∧ H a = some (.lst (as.map V.ref)) ∧ (∀ b ∈ as, Th κ H b) ∧ as.length ≤ 100000 ∧
  ∀ (r : Addr) (ls : List Addr) (H' : Hp), Told H H' r ls (runsF κ as) → Q (.ref r) H'
theorem pair_last {α β : Type} {F : α → β → Prop} : ∀ {l : List α} {m : List β}, Paired F l m → ∀ y, m.getLast? = some y → ∃ l' x m', l = l' ++ [x] ∧ m = m' ++ [y] ∧ Paired F l' m' ∧ F x y
  | _, _, .nil, y, h => nomatch h
  | [x], [z], .cons h .nil, y, e => by
    have e' : z = y := by simpa using e
    subst e'
    exact ⟨[], x, [], rfl, rfl, .nil, h⟩
  | x :: x2 :: l, z :: z2 :: m, .cons h (.cons h2 t), y, e => by
    have e' : (z2 :: m).getLast? = some y := by rw [List.getLast?_cons_cons] at e; exact e
    obtain ⟨l', u, m', e1, e2, e3, e4⟩ := pair_last (.cons h2 t) y e'
    exact ⟨x :: l', u, z :: m', by rw [e1]; rfl, by rw [e2]; rfl, .cons h e3, e4⟩
theorem step_none {α : Type} (κ : α → Int) {rs : List (List α)} {a : α} (h : rs.getLast? = none) : stepRun κ rs a = rs ++ [[a]] := by unfold stepRun; rw [h]
theorem step_some {α : Type} (κ : α → Int) {rs m : List (List α)} {r : List α} {c a : α} (h : rs = m ++ [r ++ [c]]) : stepRun κ rs a = if κ c ≤ κ a then m ++ [r ++ [c] ++ [a]] else rs ++ [[a]] := by
  subst h
  unfold stepRun
  rw [List.getLast?_concat]
  dsimp only
  rw [List.getLast?_concat]
  dsimp only
  rw [List.dropLast_concat]
/-- a run has a last thing -/
theorem runs_full {α : Type} (κ : α → Int) : ∀ (as : List α) (rs : List (List α)), (∀ r ∈ rs, r ≠ []) → ∀ r ∈ as.foldl (stepRun κ) rs, r ≠ []
  | [], rs, h => h
  | a :: as, rs, h => by
    refine runs_full κ as _ ?_
    intro r hr
    unfold stepRun at hr
    have one : ∀ r ∈ rs ++ [[a]], r ≠ [] := fun r hr => by
      rcases List.mem_append.mp hr with z | z
      · exact h r z
      · rw [List.mem_singleton] at z; subst z; exact List.cons_ne_nil _ _
    split at hr
    · split at hr
      · split at hr
        · rcases List.mem_append.mp hr with z | z
          · exact h r (List.dropLast_subset _ z)
          · rw [List.mem_singleton] at z; subst z; exact List.append_ne_nil_of_right_ne_nil _ (List.cons_ne_nil _ _)
        · exact one r hr
      · exact one r hr
    · exact one r hr
theorem runs_mem {α : Type} (κ : α → Int) (S : List α) (M : Nat) : ∀ (as : List α) (rs : List (List α)), (∀ a ∈ as, a ∈ S) → (∀ r ∈ rs, (∀ c ∈ r, c ∈ S) ∧ r.length ≤ M) → ∀ r ∈ as.foldl (stepRun κ) rs, (∀ c ∈ r, c ∈ S) ∧ r.length ≤ M + as.length
  | [], rs, _, h => fun r hr => ⟨(h r hr).1, (h r hr).2⟩
  | a :: as, rs, hS, h => by
    intro r hr
    have ha := hS a List.mem_cons_self
    have one : ∀ r ∈ rs ++ [[a]], (∀ c ∈ r, c ∈ S) ∧ r.length ≤ M + 1 := fun r hr => by
      rcases List.mem_append.mp hr with z | z
      · exact ⟨(h r z).1, by have := (h r z).2; omega⟩
      · rw [List.mem_singleton] at z
        subst z
        exact ⟨fun c hc => by rw [List.mem_singleton] at hc; subst hc; exact ha, by show 1 ≤ M + 1; omega⟩
    have st : ∀ r ∈ stepRun κ rs a, (∀ c ∈ r, c ∈ S) ∧ r.length ≤ M + 1 := fun r hr => by
      unfold stepRun at hr
      split at hr
      · rename_i r0 e0
        have h0 := h r0 (List.mem_of_getLast? e0)
        split at hr
        · split at hr
          · rcases List.mem_append.mp hr with z | z
            · have := h r (List.dropLast_subset _ z)
              exact ⟨this.1, by have := this.2; omega⟩
            · rw [List.mem_singleton] at z
              subst z
              refine ⟨fun c hc => ?_, by rw [List.length_append]; have := h0.2; show r0.length + 1 ≤ M + 1; omega⟩
              rcases List.mem_append.mp hc with y | y
              · exact h0.1 c y
              · rw [List.mem_singleton] at y; subst y; exact ha
          · exact one r hr
        · exact one r hr
      · exact one r hr
    have := runs_mem κ S (M + 1) as (stepRun κ rs a) (fun b hb => hS b (List.mem_cons_of_mem _ hb)) st r hr
    exact ⟨this.1, by rw [List.length_cons]; have := this.2; omega⟩
section
variable {P : Program} {w : World} {K : PySem.W.Frag} {mg : Str → Option Value} {base : Heap}
theorem scRuns : FnScope ["row", "runs", "thing"] ["row"] (defScope sRuns) := ⟨rfl, rfl, rfl, by decide +kernel, rfl, by decide +kernel, by decide +kernel⟩
theorem ok_runs {κ : Addr → Int} {f : Addr} {fd : FuncData} (F : Fun K "runs_of" "runs_of" sRuns f fd) : FnOk P w K mg base CX0 1 f fd ["row"] (spRuns κ) := by
  refine F.ok scRuns (fun vs H Q E h => ?_) (fun cdv A outer s H vs Q E hr h => ?_)
  · obtain ⟨a, as, rfl, _⟩ := h
    rfl
  obtain ⟨a, as, rfl, ha, hth, hlen, q⟩ := h
  refine ⟨_, pss_cons (ps_set (i := 1) scRuns.nd rfl (Or.inl rfl) (pe_lst pa_nil))
    (pss_cons (ps_for PassesOwn.never rfl (pi_list (pv 0)) (pg_name (i := 2) scRuns.nd rfl (Or.inl rfl))
      (pss_one (ps_if (PW.pt (pw_and (pt_truth (pv 1) (fun _ => rfl)) (pw_and1 (pt_cmpR op_ge (pe_ix ix_tup (pv 2) pe_int (fun _ _ => rfl)) (pe_ix ix_tup (pe_ix ix_list (pe_ix ix_list (pv 1) (pe_un un_neg pe_int) (fun _ _ => rfl)) (pe_un un_neg pe_int) (fun _ _ => rfl)) pe_int (fun _ _ => rfl)) (nomark _)))))
        (pss_one (ps_expr (pe_bm PySem.F.plainAttrs_list PySem.F.slot_list_append PySem.F.type_list_append mt_append (pe_ix ix_list (pv 1) (pe_un un_neg pe_int) (fun _ _ => rfl)) (pa_cons (pv 2) pa_nil))))
        (pss_one (ps_expr (pe_bm PySem.F.plainAttrs_list PySem.F.slot_list_append PySem.F.type_list_append mt_append (pv 1) (pa_cons (pe_lst (pa_cons (pv 2) pa_nil)) pa_nil)))))))
    (pss_one (ps_ret (pv 1)))), ?_⟩
  refine ⟨Nat.zero_le _, fun r hr0 => ?_⟩
  have har : a ≠ r := ne_of_none ha hr0
  refine ⟨_, rfl, a, rfl, ⟨_, SqL.of (by rw [upd_ne har]; exact ha)⟩, for_list (K := K) (a := a) (xs := as.map V.ref) (fun i σ H2 => ∃ (v : Option V) (ls : List Addr), σ = [some (.ref a), some (.ref r), v] ∧ Told H H2 r ls ((as.take i).foldl (stepRun κ) []) ∧ ls.length ≤ i) ?_ ?_ ?_ ?_⟩
  · exact ⟨none, [], rfl, ⟨upd_same, .nil, List.nodup_nil, (fun z => nomatch z), hr0, (fun _ z => nomatch z), same_new hr0 _⟩, Nat.le_refl _⟩
  · rintro i σ H2 _ ⟨v, ls, rfl, D, _⟩
    exact SqL.of (D.same _ _ ha)
  · rintro i y σ H2 hi ⟨v, ls, rfl, D, hls⟩
    obtain ⟨b, hb, rfl⟩ : ∃ b, as[i]? = some b ∧ y = V.ref b := by
      rw [List.getElem?_map] at hi
      cases e : as[i]? with
      | none => rw [e] at hi; cases hi
      | some b => rw [e] at hi; exact ⟨b, rfl, (Option.some.inj hi).symm⟩
    have hbm : b ∈ as := List.mem_of_getElem? hb
    have hil : i < as.length := (List.getElem?_eq_some_iff.mp hb).1
    obtain ⟨sb, tb⟩ := hth b hbm
    have tb2 := D.same _ _ tb
    have etake : as.take (i + 1) = as.take i ++ [b] := by rw [List.take_add_one, hb]; rfl
    have efold : (as.take (i + 1)).foldl (stepRun κ) [] = stepRun κ ((as.take i).foldl (stepRun κ) []) b := by rw [etake, List.foldl_append]; rfl
    -- a new run of one thing
    have fresh : stepRun κ ((as.take i).foldl (stepRun κ) []) b = (as.take i).foldl (stepRun κ) [] ++ [[b]] → (tDrop (tBM K "list" rAppend (tVar 1) (tCons (tLst (tCons (tVar 2) tNil)) tNil))) { nx := fun σ H2 => ∃ (v : Option V) (ls : List Addr), σ = [some (.ref a), some (.ref r), v] ∧ Told H H2 r ls ((as.take (i + 1)).foldl (stepRun κ) []) ∧ ls.length ≤ i + 1, rt := Q } [some (.ref a), some (.ref r), some (.ref b)] H2 := fun es => by
      refine ⟨_, rfl, .inl ⟨rfl, _, SqL.of D.at_⟩, _, rfl, (small (by decide) : 1 ≤ sizeLine), fun l hl => ?_⟩
      have hrl : r ≠ l := ne_of_none D.at_ hl
      have nl : ∀ c ∈ ls, c ≠ l := fun c hc => by
        obtain ⟨xs, e⟩ := D.rows.lst c hc
        exact ne_of_none e hl
      refine ⟨r, _, _, rfl, rfl, by rw [upd_ne hrl]; exact D.at_, smalll (by rw [List.length_map]; omega), ?_⟩
      refine ⟨_, ls ++ [l], rfl, ⟨?_, ?_, ?_, ?_, D.newr, ?_, ?_⟩, by rw [List.length_append]; exact Nat.succ_le_succ hls⟩
      · rw [upd_same, List.map_append]; rfl
      · rw [efold, es]
        refine Paired.snoc (D.rows.keep fun c hc o e => ?_) ?_
        · rw [upd_ne (fun z : c = r => D.out (z ▸ hc)), upd_ne (nl c hc)]; exact e
        · show upd (upd H2 l (.lst [.ref b])) r _ l = some (.lst ([b].map V.ref))
          rw [upd_ne (Ne.symm hrl), upd_same]; rfl
      · exact List.nodup_append.mpr ⟨D.nd, by simp, fun c hc d hd => by rw [List.mem_singleton] at hd; subst hd; exact nl c hc⟩
      · intro z
        rcases List.mem_append.mp z with z | z
        · exact D.out z
        · rw [List.mem_singleton] at z; exact hrl z
      · intro c hc
        rcases List.mem_append.mp hc with z | z
        · exact D.news c z
        · rw [List.mem_singleton] at z; subst z; exact D.same.free hl
      · intro c o e
        have e2 := D.same _ _ e
        rw [upd_ne (ne_of_none e D.newr), upd_ne (ne_of_none e2 hl)]
        exact e2
    refine ⟨_, rfl, !((ls.map V.ref).isEmpty), ?_, ?_⟩
    · exact .inl ⟨_, SqL.of D.at_, rfl⟩
    cases hgl : ((as.take i).foldl (stepRun κ) []).getLast? with
    | none =>
      have e0 : (as.take i).foldl (stepRun κ) [] = [] := List.getLast?_eq_none_iff.mp hgl
      have el : ls = [] := by
        have := D.rows
        rw [e0] at this
        cases this
        rfl
      rw [el]
      refine iteF ?_
      refine iteF ?_
      exact fresh (step_none κ hgl)
    | some rn =>
      obtain ⟨l', lx, m', e1, e2, e3, e4⟩ := pair_last D.rows rn hgl
      have ne : rn ≠ [] := runs_full κ (as.take i) [] (fun _ z => nomatch z) rn (List.mem_of_getLast? hgl)
      obtain ⟨rn', c, erc⟩ : ∃ rn' c, rn = rn' ++ [c] := by
        rcases List.eq_nil_or_concat rn with z | ⟨L, z, hz⟩
        · exact absurd z ne
        · exact ⟨L, z, by rw [hz, List.concat_eq_append]⟩
      have hrm := runs_mem κ as 0 (as.take i) [] (fun z hz => List.mem_of_mem_take hz) (fun _ z => nomatch z) rn (List.mem_of_getLast? hgl)
      have hrl : rn.length ≤ 100000 := by
        have z := hrm.2
        rw [List.length_take] at z
        omega
      have hcm : c ∈ as := hrm.1 c (by rw [erc]; simp)
      obtain ⟨sc, tc⟩ := hth c hcm
      have tc2 := D.same _ _ tc
      have at1 : atI (ls.map V.ref) (-1) = some (.ref lx) := by rw [e1, List.map_append]; exact atI_last _ _
      have at2 : atI (rn.map V.ref) (-1) = some (.ref c) := by rw [erc, List.map_append]; exact atI_last _ _
      have step : ∀ b', stepRun κ ((as.take i).foldl (stepRun κ) []) b' = if κ c ≤ κ b' then m' ++ [rn ++ [b']] else (as.take i).foldl (stepRun κ) [] ++ [[b']] := fun b' => by
        rw [step_some κ (by rw [e2, erc]), erc]
      rw [show (!((ls.map V.ref).isEmpty)) = true by rw [e1, List.map_append]; simp]
      refine iteT ?_
      refine ⟨_, rfl, b, _, _, _, rfl, rfl, SqT.of tb2, rfl, _, rfl, _, rfl, r, _, _, _, rfl, rfl, SqL.of D.at_, at1, _, rfl, lx, _, _, _, rfl, rfl, SqL.of e4, at2, c, _, _, _, rfl, rfl, SqT.of tc2, rfl, _, _, rfl, rfl, _, rfl, ?_⟩
      refine ite2 (fun cc => ?_) (fun cc => ?_)
      · have cc' : κ c ≤ κ b := of_decide_eq_true cc
        refine ⟨_, rfl, _, rfl, r, _, _, _, rfl, rfl, SqL.of D.at_, at1, .inl ⟨rfl, _, SqL.of e4⟩, _, rfl, lx, _, _, rfl, rfl, e4, smalll (by rw [List.length_map]; omega), ?_⟩
        have hrx : r ≠ lx := fun z => D.out (by rw [z, e1]; simp)
        have nd := D.nd
        rw [e1] at nd
        have nx : ∀ d ∈ l', d ≠ lx := fun d hd => (List.nodup_append.mp nd).2.2 d hd lx (by simp)
        refine ⟨_, ls, rfl, ⟨by rw [upd_ne hrx]; exact D.at_, ?_, D.nd, D.out, D.newr, D.news, fun d o e => ?_⟩, by omega⟩
        · rw [efold, step b, if_pos cc', e1]
          refine Paired.snoc (Rws.keep e3 fun d hd o e => by rw [upd_ne (nx d hd)]; exact e) ?_
          show upd H2 lx (.lst (rn.map V.ref ++ [.ref b])) lx = some (.lst ((rn ++ [b]).map V.ref))
          rw [upd_same, List.map_append]
          rfl
        · rw [upd_ne (ne_of_none e (D.news lx (by rw [e1]; simp)))]
          exact D.same _ _ e
      · have cc' : ¬ κ c ≤ κ b := of_decide_eq_false (Bool.eq_false_iff.mpr cc)
        exact fresh (by rw [step b, if_neg cc'])
  · rintro σ H2 ⟨v, ls, rfl, D, _⟩
    rw [List.length_map, List.take_length] at D
    exact ⟨_, rfl, q r ls H2 D⟩
end
end Ev



/-! _law_due: the law's own runs are the runs. -/
namespace Ev
open PySem L2
abbrev sDue : Stmt := top 11
abbrev nDue : List Str := ["row", "cuts", "found", "k"]
theorem nd_at : (["at", "row"] : List Str).Nodup := by decide +kernel
theorem Told.snoc {H H2 : Hp} {r l : Addr} {ls : List Addr} {rs : List (List Addr)} {x : List Addr} (D : Told H H2 r ls rs) (hl : H2 l = none) : Told H (upd (upd H2 l (.lst (x.map V.ref))) r (.lst (ls.map V.ref ++ [.ref l]))) r (ls ++ [l]) (rs ++ [x]) := by
  have hrl : r ≠ l := ne_of_none D.at_ hl
  have nl : ∀ c ∈ ls, c ≠ l := fun c hc => by
    obtain ⟨xs, e⟩ := D.rows.lst c hc
    exact ne_of_none e hl
  refine ⟨?_, ?_, ?_, ?_, D.newr, ?_, ?_⟩
  · rw [upd_same, List.map_append]; rfl
  · refine Paired.snoc (D.rows.keep fun c hc o e => ?_) ?_
    · rw [upd_ne (fun z : c = r => D.out (z ▸ hc)), upd_ne (nl c hc)]; exact e
    · show upd (upd H2 l (.lst (x.map V.ref))) r _ l = some (.lst (x.map V.ref))
      rw [upd_ne (Ne.symm hrl), upd_same]
  · exact List.nodup_append.mpr ⟨D.nd, by simp, fun c hc d hd => by rw [List.mem_singleton] at hd; subst hd; exact nl c hc⟩
  · intro z
    rcases List.mem_append.mp z with z | z
    · exact D.out z
    · rw [List.mem_singleton] at z; exact hrl z
  · intro c hc
    rcases List.mem_append.mp hc with z | z
    · exact D.news c z
    · rw [List.mem_singleton] at z; subst z; exact D.same.free hl
  · intro c o e
    have e2 := D.same _ _ e
    rw [upd_ne (ne_of_none e D.newr), upd_ne (ne_of_none e2 hl)]
    exact e2
def ci (n : Nat) : V := .int (n : Int)
def cutsOf (κ : Addr → Int) (as : List Addr) : List Nat := [0] ++ cutsTo κ as as.length ++ [as.length]
theorem cuts_up {κ : Addr → Int} (as : List Addr) : ∀ i : Nat, (cutsTo κ as i).Pairwise (· < ·)
  | 0 => .nil
  | 1 => .nil
  | i + 2 => by
    refine List.pairwise_append.mpr ⟨cuts_up as (i + 1), ?_, ?_⟩
    · split
      · split
        · exact List.pairwise_singleton _ _
        · exact .nil
      · exact .nil
    · intro c hc d hd
      have := cuts_lt (κ := κ) as (i + 1) c hc
      split at hd
      · split at hd
        · rw [List.mem_singleton] at hd; omega
        · cases hd
      · cases hd
theorem cutsOf_up {κ : Addr → Int} {as : List Addr} (h : as ≠ []) : (cutsOf κ as).Pairwise (· < ·) := by
  have hl : 0 < as.length := List.length_pos_iff.mpr h
  refine List.pairwise_append.mpr ⟨List.pairwise_append.mpr ⟨List.pairwise_singleton _ _, cuts_up as _, fun c hc d hd => ?_⟩, List.pairwise_singleton _ _, fun c hc d hd => ?_⟩
  · rw [List.mem_singleton] at hc; subst hc; have := cuts_lt (κ := κ) as _ d hd; omega
  · rw [List.mem_singleton] at hd
    subst hd
    rcases List.mem_append.mp hc with z | z
    · rw [List.mem_singleton] at z; omega
    · exact (cuts_lt (κ := κ) as _ c z).2
theorem cutsOf_le {κ : Addr → Int} {as : List Addr} {c : Nat} (h : c ∈ cutsOf κ as) : c ≤ as.length := by
  rcases List.mem_append.mp h with z | z
  · rcases List.mem_append.mp z with y | y
    · rw [List.mem_singleton] at y; omega
    · exact Nat.le_of_lt (cuts_lt (κ := κ) as _ c y).2
  · rw [List.mem_singleton] at z; omega
theorem cutsTo_len (κ : Addr → Int) (as : List Addr) : ∀ i : Nat, (cutsTo κ as i).length ≤ i
  | 0 => Nat.le_refl _
  | 1 => Nat.zero_le _
  | i + 2 => by
    have := cutsTo_len κ as (i + 1)
    rw [cutsTo, List.length_append]
    split
    · split
      · rw [List.length_singleton]; omega
      · rw [List.length_nil]; omega
    · rw [List.length_nil]; omega
theorem cutsTo_two {κ : Addr → Int} {as : List Addr} {i : Nat} {a b : Addr} (e1 : as[i]? = some b) (e2 : as[i + 1]? = some a) : cutsTo κ as (i + 1 + 1) = cutsTo κ as (i + 1) ++ if κ a < κ b then [i + 1] else [] := by
  rw [cutsTo, e1, e2]
theorem cut_refs (as : List Addr) {c d : Nat} (hc : c ≤ as.length) (hd : d ≤ as.length) : cutV (as.map V.ref) (some (c : Int)) (some (d : Int)) = (cutL as c d).map V.ref := by
  unfold cutV cutL
  rw [List.length_map, HT.sIx_nat, HT.sIx_nat, Nat.min_eq_left hc, Nat.min_eq_left hd, List.map_take, List.map_drop]
/-- what the loop has by its turn i -/
def dueAt (κ : Addr → Int) (as : List Addr) (i : Nat) : List (List Addr) := if as = [] then [] else pcs as ((cutsOf κ as).take (i + 1))
theorem atI_map {α β : Type} {f : α → β} {xs : List α} {j : Nat} {x : α} {i : Int} (h : xs[j]? = some x) (e : i = (j : Int)) : atI (xs.map f) i = some (f x) := by
  subst e
  exact atI_nat (by rw [List.getElem?_map, h]; rfl)
section
variable {P : Program} {w : World} {K : PySem.W.Frag} {mg : Str → Option Value} {base : Heap}
theorem scDue : FnScope nDue ["row"] (defScope sDue) := ⟨rfl, rfl, rfl, by decide +kernel, rfl, by decide +kernel, by decide +kernel⟩
theorem ok_due {κ : Addr → Int} {f : Addr} {fd : FuncData} (F : Fun K "_law_due" "_law_due" sDue f fd) (T : Nm mg) : FnOk P w K mg base CX0 1 f fd ["row"] (spRuns κ) := by
  refine F.ok scDue (fun vs H Q E h => ?_) (fun cdv A outer s H vs Q E hr h => ?_)
  · obtain ⟨a, as, rfl, _⟩ := h
    rfl
  obtain ⟨a, as, rfl, ha, hth, hlen, q⟩ := h
  refine ⟨_, pss_cons (ps_set (i := 1) scDue.nd rfl (Or.inl rfl) (pe_op op_cat (pe_op op_cat (pe_lst (pa_cons pe_int pa_nil))
      (pe_comp (esc := defScope sDue) (N := nDue) (tn := ["at"]) (fn := ["row"]) (ix := [0]) rfl rfl rfl ⟨rfl, by decide +kernel, by decide +kernel, by decide +kernel, rfl, by decide +kernel⟩
        (pi_range2 rfl T.range (pa_cons pe_int (pa_cons (pe_callB call_len_seq rfl T.len PySem.boot_len (pa_cons (pv 0) pa_nil)) pa_nil))) (fun _ _ _ _ _ => pg_name (i := 0) nd_at rfl (Or.inl rfl))
        (fun _ _ _ _ _ => pts_one (pt_cmpR op_lt (pe_ix (ix_tupK (K := K) rfl) (pe_ix (ix_listK (K := K) rfl) (pv 1) (pv 0) (fun _ _ => rfl)) pe_int (fun _ _ => rfl)) (pe_ix (ix_tupK (K := K) rfl) (pe_ix (ix_listK (K := K) rfl) (pv 1) (pe_op op_sub (pv 0) pe_int) (fun _ _ => rfl)) pe_int (fun _ _ => rfl)) (nomark _)))
        (fun _ _ _ _ _ => pv 0))) (pe_lst (pa_cons (pe_callB call_len_seq rfl T.len PySem.boot_len (pa_cons (pv 0) pa_nil)) pa_nil))))
    (pss_cons (ps_set (i := 2) scDue.nd rfl (Or.inl rfl) (pe_lst pa_nil))
    (pss_cons (ps_for PassesOwn.never rfl (pi_range2 rfl T.range (pa_cons pe_int (pa_cons (pe_callB call_len_seq rfl T.len PySem.boot_len (pa_cons (pv 1) pa_nil)) pa_nil))) (pg_name (i := 3) scDue.nd rfl (Or.inl rfl))
      (pss_one (ps_if (pt_cmpR op_lt (pe_ix ix_list (pv 1) (pe_op op_sub (pv 3) pe_int) (fun _ _ => rfl)) (pe_ix ix_list (pv 1) (pv 3) (fun _ _ => rfl)) (nomark _))
        (pss_one (ps_expr (pe_bm PySem.F.plainAttrs_list PySem.F.slot_list_append PySem.F.type_list_append mt_append (pv 2) (pa_cons (pe_slice sl_list (pv 0) (po_some (pe_ix ix_list (pv 1) (pe_op op_sub (pv 3) pe_int) (fun _ _ => rfl))) (po_some (pe_ix ix_list (pv 1) (pv 3) (fun _ _ => rfl)))) pa_nil)))) pss_nil)))
    (pss_one (ps_ret (pv 2))))), ?_⟩
  refine ⟨(small (by decide) : 1 ≤ sizeLine), fun z0 hz0 => ?_⟩
  have s0 : L2.Same H (upd H z0 (.lst [.int 0])) := same_new hz0 _
  have hz : (upd H z0 (.lst [.int 0])) z0 = some (.lst [.int 0]) := upd_same
  generalize upd H z0 (.lst [.int 0]) = H1 at s0 hz
  refine ⟨_, rfl, a, _, rfl, .inl (SqL.of (s0 _ _ ha)), 1, _, rfl, ⟨by decide, by decide, by omega, by rw [List.length_map]; omega⟩, fun l hl => ?_⟩
  rw [List.length_map]
  have sl : L2.Same H1 (upd H1 l (.lst [])) := same_new hl _
  refine comp_by (J := Itr 1 ((as.length : Int) - 1).toNat) ((as.length : Int) - 1).toNat (fun i σ H7 => ∃ v : Option V, σ = [v, some (.ref a)] ∧ H7 l = some (.lst ((cutsTo κ as (i + 1)).map ci)) ∧ L2.Same H1 H7) ?_ ?_ ?_ ?_ ?_
  · exact ⟨none, rfl, upd_same, sl⟩
  · exact fun i σ H4 hi _ => hi
  · exact fun σ H4 _ => Nat.le_refl _
  · rintro i xv σ H7 H8 hi ⟨v, rfl, b1, b2⟩ ⟨rfl, rfl⟩
    have hi2 : i + 1 < as.length := by omega
    have e1 : as[i]? = some as[i] := List.getElem?_eq_getElem (by omega)
    have e2 : as[i + 1]? = some as[i + 1] := List.getElem?_eq_getElem hi2
    obtain ⟨t1, h1⟩ := hth as[i] (List.getElem_mem _)
    obtain ⟨t2, h2⟩ := hth as[i + 1] (List.getElem_mem _)
    have ha7 := b2 _ _ (s0 _ _ ha)
    have ecut := cutsTo_two (κ := κ) e1 e2
    refine ⟨_, rfl, _, rfl, a, _, _, _, rfl, rfl, SqL.of ha7, atI_map e2 (by omega), _, _, _, _, rfl, rfl, SqT.of (b2 _ _ (s0 _ _ h2)), rfl,
      _, rfl, _, rfl, _, _, rfl, rfl, a, _, _, _, rfl, rfl, SqL.of ha7, atI_map e1 (by omega), _, _, _, _, rfl, rfl, SqT.of (b2 _ _ (s0 _ _ h1)), rfl, _, _, rfl, rfl, _, rfl, ?_⟩
    refine ite2 (fun c => ?_) (fun c => ?_)
    · have c' : κ as[i + 1] < κ as[i] := of_decide_eq_true c
      have hle := cutsTo_len κ as (i + 1)
      refine ⟨_, rfl, _, b1, smalll (by rw [List.length_map]; omega), _, rfl, ?_, fun b o e => ?_⟩
      · rw [upd_same, ecut, if_pos c', List.map_append]
        have : (1 + (i : Int)) = ((i + 1 : Nat) : Int) := by omega
        rw [this]
        rfl
      · rw [upd_ne (ne_of_none e hl)]; exact b2 _ _ e
    · have c' : ¬ κ as[i + 1] < κ as[i] := of_decide_eq_false (Bool.eq_false_iff.mpr c)
      exact ⟨_, rfl, by rw [ecut, if_neg c', List.append_nil]; exact b1, b2⟩
  rintro σ H7 ⟨v, rfl, b1, b2⟩
  have en : cutsTo κ as (((as.length : Int) - 1).toNat + 1) = cutsTo κ as as.length := by
    cases hn : as.length with
    | zero => rfl
    | succ n => rw [show (((n + 1 : Nat) : Int) - 1).toNat + 1 = n + 1 by omega]
  rw [en] at b1
  have hle := cutsTo_len κ as as.length
  refine ⟨z0, l, _, _, rfl, rfl, b2 _ _ hz, b1, small (by rw [List.length_map]; show 1 + _ ≤ _; omega), fun c1 hc1 => ?_⟩
  have s7 : L2.Same H (upd H7 c1 (.lst ([V.int 0] ++ (cutsTo κ as as.length).map ci))) := (s0.trans b2).trans (same_new hc1 _)
  refine ⟨_, rfl, a, _, rfl, .inl (SqL.of (s7 _ _ ha)), (small (by decide) : 1 ≤ sizeLine), fun z1 hz1 => ?_⟩
  rw [List.length_map]
  have c1z : c1 ≠ z1 := ne_of_none upd_same hz1
  refine ⟨c1, z1, _, _, rfl, rfl, by rw [upd_ne c1z]; exact upd_same, upd_same, small (by simp; omega), fun cu hcu => ?_⟩
  have ecs : [V.int 0] ++ (cutsTo κ as as.length).map ci ++ [V.int (as.length : Int)] = (cutsOf κ as).map ci := by
    unfold cutsOf
    rw [List.map_append, List.map_append]
    rfl
  rw [ecs]
  have hc8 : (upd (upd (upd H7 c1 (.lst ([V.int 0] ++ (cutsTo κ as as.length).map ci))) z1 (.lst [V.int (as.length : Int)])) cu (.lst ((cutsOf κ as).map ci))) cu = some (.lst ((cutsOf κ as).map ci)) := upd_same
  have s8 := (s7.trans (same_new hz1 (.lst [V.int (as.length : Int)]))).trans (same_new hcu (.lst ((cutsOf κ as).map ci)))
  generalize upd (upd (upd H7 c1 (.lst ([V.int 0] ++ (cutsTo κ as as.length).map ci))) z1 (.lst [V.int (as.length : Int)])) cu (.lst ((cutsOf κ as).map ci)) = H8 at s8 hc8
  refine ⟨Nat.zero_le _, fun fo hfo => ?_⟩
  have hcf : cu ≠ fo := ne_of_none hc8 hfo
  have hcl : (cutsOf κ as).length ≤ as.length + 2 := by unfold cutsOf; rw [List.length_append, List.length_append, List.length_singleton, List.length_singleton]; omega
  have hc2 : 2 ≤ (cutsOf κ as).length := by unfold cutsOf; rw [List.length_append, List.length_append, List.length_singleton, List.length_singleton]; omega
  refine ⟨_, rfl, cu, _, rfl, .inl (SqL.of (by rw [upd_ne hcf]; exact hc8)), 1, _, rfl, ⟨by decide, by decide, by omega, by rw [List.length_map]; omega⟩, ?_⟩
  rw [List.length_map]
  have em : (((cutsOf κ as).length : Int) - 1).toNat + 1 = (cutsOf κ as).length := by omega
  refine for_range (lo := 1) (fun i σ H9 => ∃ (v : Option V) (ls : List Addr), σ = [some (.ref a), some (.ref cu), some (.ref fo), v] ∧ Told H H9 fo ls (dueAt κ as i) ∧ H9 cu = some (.lst ((cutsOf κ as).map ci)) ∧ ls.length ≤ i ∧ cu ∉ ls) ?_ ?_ ?_
  · refine ⟨none, [], rfl, ⟨upd_same, ?_, List.nodup_nil, (fun z => nomatch z), s8.free hfo, (fun _ z => nomatch z), s8.trans (same_new hfo _)⟩, by rw [upd_ne hcf]; exact hc8, Nat.le_refl _, fun z => nomatch z⟩
    have : dueAt κ as 0 = [] := by
      unfold dueAt
      split
      · rfl
      · rfl
    rw [this]
    exact .nil
  · rintro i σ H9 hi ⟨v, ls, rfl, D, hcu9, hls, hout⟩
    have i1 : i + 1 < (cutsOf κ as).length := by omega
    have e1 : (cutsOf κ as)[i]? = some (cutsOf κ as)[i] := List.getElem?_eq_getElem (by omega)
    have e2 : (cutsOf κ as)[i + 1]? = some (cutsOf κ as)[i + 1] := List.getElem?_eq_getElem i1
    have l1 := cutsOf_le (κ := κ) (as := as) (List.getElem_mem (by omega : i < (cutsOf κ as).length))
    have l2 := cutsOf_le (κ := κ) (as := as) (List.getElem_mem i1)
    have ha9 := D.same _ _ ha
    refine ⟨_, rfl, _, rfl, _, _, rfl, rfl, cu, _, _, _, rfl, rfl, SqL.of hcu9, atI_map e1 (by omega), _, rfl, _, rfl, cu, _, _, _, rfl, rfl, SqL.of hcu9, atI_map e2 (by omega), _, _, rfl, rfl, _, rfl, ?_⟩
    refine ite2 (fun c => ?_) (fun c => ?_)
    · have c' : (((cutsOf κ as)[i] : Nat) : Int) < (((cutsOf κ as)[i + 1] : Nat) : Int) := of_decide_eq_true c
      have ne : as ≠ [] := fun z => by subst z; simp only [List.length_nil] at l1 l2; omega
      refine ⟨_, rfl, .inl ⟨rfl, _, SqL.of D.at_⟩, _, rfl, _, rfl, _, rfl, _, _, rfl, rfl, cu, _, _, _, rfl, rfl, SqL.of hcu9, atI_map e1 (by omega), _, rfl, _, rfl, _, rfl, cu, _, _, _, rfl, rfl, SqL.of hcu9, atI_map e2 (by omega), _, rfl, a, _, rfl, SqL.of ha9, fun l3 hl3 => ?_⟩
      rw [cut_refs as l1 l2]
      have hrl : fo ≠ l3 := ne_of_none D.at_ hl3
      refine ⟨fo, _, _, rfl, rfl, by rw [upd_ne hrl]; exact D.at_, smalll (by rw [List.length_map]; omega), ?_⟩
      have ed : dueAt κ as (i + 1) = dueAt κ as i ++ [cutL as (cutsOf κ as)[i] (cutsOf κ as)[i + 1]] := by
        unfold dueAt
        rw [if_neg ne, if_neg ne, List.take_add_one (i := i + 1), e2, List.take_add_one (i := i), e1]
        exact pcs_snoc as _ _ _
      refine ⟨_, ls ++ [l3], rfl, by rw [ed]; exact D.snoc hl3, ?_, by rw [List.length_append]; exact Nat.succ_le_succ hls, ?_⟩
      · rw [upd_ne hcf, upd_ne (ne_of_none hcu9 hl3)]; exact hcu9
      · intro z
        rcases List.mem_append.mp z with z | z
        · exact hout z
        · rw [List.mem_singleton] at z; exact ne_of_none hcu9 hl3 z
    · have c' : ¬ (((cutsOf κ as)[i] : Nat) : Int) < (((cutsOf κ as)[i + 1] : Nat) : Int) := of_decide_eq_false (Bool.eq_false_iff.mpr c)
      have ne : as = [] := by
        by_cases z : as = []
        · exact z
        · have := List.pairwise_iff_getElem.mp (cutsOf_up (κ := κ) z) i (i + 1) (by omega) i1 (by omega)
          omega
      refine ⟨_, ls, rfl, ?_, hcu9, by omega, hout⟩
      have ed : dueAt κ as (i + 1) = dueAt κ as i := by unfold dueAt; rw [if_pos ne, if_pos ne]
      rw [ed]
      exact D
  · rintro σ H9 ⟨v, ls, rfl, D, _⟩
    refine ⟨_, rfl, q fo ls H9 ?_⟩
    have ed : dueAt κ as (((cutsOf κ as).length : Int) - 1).toNat = runsF κ as := by
      unfold dueAt
      rw [em, List.take_length]
      by_cases z : as = []
      · rw [if_pos z, z]; rfl
      · rw [if_neg z]; exact (runs_due z).symm
    rw [← ed]
    exact D
end
end Ev



/-! law of k06: it tells True. -/
namespace Ev
open PySem L2
abbrev sLaw : Stmt := top 12
abbrev nLaw : List Str := ["script", "k", "pool", "most", "row", "due", "handed", "again", "found", "at", "one"]
def spLaw (K : PySem.W.Frag) : Sp := fun vs H Q _ => ∃ (a : Addr) (ns : List Int), vs = [.ref a] ∧ SqL K H a (ns.map V.int) ∧ ns.length ≤ 63 ∧ ∀ H', Q (.bl true) H'
def spRunsE : Sp := fun vs H Q E => ∃ κ, spRuns κ vs H Q E
theorem pick2 (b : Bool) (x y : Int) : atI [V.int x, V.int y] (if b = true then 1 else 0) = some (.int (if b = true then y else x)) := by cases b <;> rfl
theorem alk_flat {H : Hp} {u v : V} (h : Flat u v) : ∀ n, Alk H n u v
  | 0 => h
  | _ + 1 => .inl h
theorem alk_pair {H : Hp} {b c : Addr} {k : Int} {s : Str} (h : H b = some (.tup [.int k, .str s])) (h' : H c = some (.tup [.int k, .str s])) (n : Nat) : Alk H (n + 1) (.ref b) (.ref c) := by
  refine .inr ⟨b, c, _, _, rfl, rfl, .inr ⟨h, h'⟩, rfl, by show 2 ≤ 100000; omega, fun i u v e1 e2 => ?_⟩
  match i, e1, e2 with
  | 0, e1, e2 => cases e1; cases e2; exact alk_flat (.inl ⟨_, rfl, rfl⟩) n
  | 1, e1, e2 => cases e1; cases e2; exact alk_flat (.inr ⟨_, rfl, rfl⟩) n
  | i + 2, e1, _ => cases e1
theorem alk_refs {κ : Addr → Int} {H : Hp} {r : List Addr} (th : ∀ b ∈ r, Th κ H b) (n : Nat) : ∀ (i : Nat) (u v : V), (r.map V.ref)[i]? = some u → (r.map V.ref)[i]? = some v → Alk H (n + 1) u v := fun i u v e1 e2 => by
  rw [e1] at e2
  cases e2
  rw [List.getElem?_map] at e1
  cases e : r[i]? with
  | none => rw [e] at e1; cases e1
  | some b =>
    rw [e] at e1
    cases e1
    obtain ⟨s, t⟩ := th b (List.mem_of_getElem? e)
    exact alk_pair t t n
theorem alk_list {H : Hp} {a b : Addr} {xs ys : List V} {n : Nat} (ha : H a = some (.lst xs)) (hb : H b = some (.lst ys)) (hl : xs.length = ys.length) (hs : xs.length ≤ 100000) (h : ∀ (i : Nat) (u v : V), xs[i]? = some u → ys[i]? = some v → Alk H n u v) : Alk H (n + 1) (.ref a) (.ref b) :=
  .inr ⟨a, b, xs, ys, rfl, rfl, .inl ⟨ha, hb⟩, hl, hs, h⟩
theorem Rws.get {H : Hp} : ∀ {ls : List Addr} {rs : List (List Addr)}, Rws H ls rs → ∀ {i : Nat} {l : Addr} {r : List Addr}, ls[i]? = some l → rs[i]? = some r → H l = some (.lst (r.map V.ref))
  | _, _, .cons h t, 0, l, r, e1, e2 => by cases e1; cases e2; exact h
  | _, _, .cons h t, i + 1, l, r, e1, e2 => Rws.get t (i := i) (by simpa using e1) (by simpa using e2)
/-- a run with the mark behind it -/
def MRow (H : Hp) (f : Addr) (r : List Addr) (j : Nat) : Prop := ∃ t, H f = some (.lst (r.map V.ref ++ [.ref t])) ∧ H t = some (.tup [.int (j : Int), .str "mark"])
theorem MRow.keep {H H' : Hp} {f : Addr} {r : List Addr} {j : Nat} (h : MRow H f r j) (k : L2.Same H H') : MRow H' f r j := by
  obtain ⟨t, a, b⟩ := h
  exact ⟨t, k _ _ a, k _ _ b⟩
theorem alk_marked {κ : Addr → Int} {H : Hp} {f c : Addr} {r : List Addr} {j : Nat} (th : ∀ b ∈ r, Th κ H b) (hr : r.length ≤ 1000) (h : MRow H f r j) (h' : MRow H c r j) (n : Nat) : Alk H (n + 2) (.ref f) (.ref c) := by
  obtain ⟨t, a, b⟩ := h
  obtain ⟨t', a', b'⟩ := h'
  refine alk_list a a' (by rw [List.length_append, List.length_append]; rfl) (by rw [List.length_append, List.length_map]; show r.length + 1 ≤ _; omega) fun i u v e1 e2 => ?_
  by_cases hi : i < (r.map V.ref).length
  · rw [List.getElem?_append_left hi] at e1 e2
    exact alk_refs th n i u v e1 e2
  · rw [List.getElem?_append_right (by omega)] at e1 e2
    cases hj : i - (r.map V.ref).length with
    | zero => rw [hj] at e1 e2; cases e1; cases e2; exact alk_pair b b' n
    | succ m => rw [hj] at e1; cases e1
def keyAt (H : Hp) (b : Addr) : Int := match H b with
  | some (.tup (.int k :: _)) => k
  | _ => 0
theorem ths_th {H : Hp} : ∀ {as : List Addr} {ts : List (Int × Str)}, Ths H as ts → ∀ b ∈ as, Th (keyAt H) H b
  | _, _, .cons (b := t) h r, c, hc => by
    rcases List.mem_cons.mp hc with e | e
    · subst e
      have h' : H c = some (.tup [.int t.1, .str t.2]) := h
      refine ⟨t.2, ?_⟩
      have : keyAt H c = t.1 := by unfold keyAt; rw [h']
      rw [this]
      exact h'
    · exact ths_th r c e
theorem nd_ne {fs : List Addr} (nd : fs.Nodup) {i j : Nat} {f g : Addr} (e1 : fs[i]? = some f) (e2 : fs[j]? = some g) (h : i ≠ j) : f ≠ g := fun z => by
  obtain ⟨h1, e1⟩ := List.getElem?_eq_some_iff.mp e1
  obtain ⟨h2, e2⟩ := List.getElem?_eq_some_iff.mp e2
  have p := List.pairwise_iff_getElem.mp nd
  rcases Nat.lt_or_gt_of_ne h with q | q
  · exact p i j h1 h2 q (by rw [e1, e2]; exact z)
  · exact p j i h2 h1 q (by rw [e1, e2]; exact z.symm)
theorem Th.keep {κ : Addr → Int} {H H' : Hp} {b : Addr} (h : Th κ H b) (k : L2.Same H H') : Th κ H' b := by
  obtain ⟨s, e⟩ := h
  exact ⟨s, k _ _ e⟩
theorem step_len {α : Type} (κ : α → Int) (rs : List (List α)) (a : α) : (stepRun κ rs a).length ≤ rs.length + 1 := by
  have one : (rs ++ [[a]]).length ≤ rs.length + 1 := by rw [List.length_append]; exact Nat.le_refl _
  unfold stepRun
  split
  · split
    · split
      · rw [List.length_append, List.length_dropLast]; show rs.length - 1 + 1 ≤ _; omega
      · exact one
    · exact one
  · exact one
theorem fold_len {α : Type} (κ : α → Int) : ∀ (as : List α) (rs : List (List α)), (as.foldl (stepRun κ) rs).length ≤ rs.length + as.length
  | [], rs => Nat.le_refl _
  | a :: as, rs => by
    have h1 := fold_len κ as (stepRun κ rs a)
    have h2 := step_len κ rs a
    rw [List.foldl_cons, List.length_cons]
    omega
section
variable {P : Program} {w : World} {K : PySem.W.Frag} {mg : Str → Option Value} {base : Heap}
theorem runsE {lv : Nat} {f : Addr} {fd : FuncData} (G : ∀ κ, FnOk P w K mg base CX0 lv f fd ["row"] (spRuns κ)) : FnOk P w K mg base CX0 lv f fd ["row"] spRunsE :=
  ⟨fun vs H Q E ⟨κ, h⟩ => (G κ).len vs H Q E h, fun A outer s H args us vs Q E hr he hb hv ⟨κ, hs⟩ => (G κ).run A outer s H args us vs Q E hr he hb hv hs⟩
theorem scLaw : FnScope nLaw ["script"] (defScope sLaw) := ⟨rfl, rfl, rfl, by decide +kernel, rfl, by decide +kernel, by decide +kernel⟩
theorem nd_ao : (["at", "one"] : List Str).Nodup := by decide +kernel
set_option maxHeartbeats 0 in
theorem ok_law {f fP fT fR fD fU fS : Addr} {fd fdP fdT fdR fdD fdU fdS : FuncData} (F : Fun K "law" "law" sLaw f fd) (T : Nm mg) (cp : Cal P w K mg base "_law_pool" 1 fP fdP ["script", "k"] (spPool K)) (ct : Cal P w K mg base "_law_take" 1 fT fdT ["pool", "many"] spTake')
    (cr : Cal P w K mg base "_law_row" 3 fR fdR ["pool", "most"] spRow) (cd : Cal P w K mg base "_law_due" 1 fD fdD ["row"] spRunsE) (cu : Cal P w K mg base "runs_of" 1 fU fdU ["row"] spRunsE) (cs : Cal P w K mg base "_law_same" 4 fS fdS ["one", "other"] (spSame 3)) : FnOk P w K mg base CX0 5 f fd ["script"] (spLaw K) := by
  refine F.ok scLaw (fun vs H Q E h => ?_) (fun cdv A outer s H vs Q E hr h => ?_)
  · obtain ⟨a, ns, rfl, _⟩ := h
    rfl
  obtain ⟨a, ns, rfl, hS, h63, q⟩ := h
  have hr1 : Room 1 _ := hr.mono (by decide)
  have hr3 : Room 3 _ := hr.mono (by decide)
  refine ⟨_, pss_cons (ps_for PassesOwn.never rfl (pi_range1 rfl T.range (pa_cons (pe_callB (call_max2 rfl) rfl T.max PyProof.Rows.boot_max (pa_cons pe_int (pa_cons (pe_callB (call_min2 rfl) rfl T.min PyProof.Rows.boot_min (pa_cons pe_int (pa_cons (pe_callB call_len_seq rfl T.len PySem.boot_len (pa_cons (pv 0) pa_nil)) pa_nil))) pa_nil))) pa_nil)) (pg_name (i := 1) scLaw.nd rfl (Or.inl rfl))
      (pss_cons (ps_set (i := 2) scLaw.nd rfl (Or.inl rfl) (pe_call cp.G hr1 rfl cp.m cp.k cp.b .nil pass0 (pa_cons (pv 0) (pa_cons (pv 1) pa_nil))))
      (pss_cons (ps_set (i := 3) scLaw.nd rfl (Or.inl rfl) (pe_ix ix_list (pe_lst (pa_cons pe_int (pa_cons (pe_ix ix_list (pe_lst (pa_cons pe_int (pa_cons pe_int pa_nil))) (pe_callTy call_int1 rfl T.int PyProof.Rows.boot_int (pa_cons (pe_cmpR op_gt (pv 1) pe_int (nomark _)) pa_nil)) (fun _ _ => rfl)) pa_nil)))
        (pe_callTy call_int1 rfl T.int PyProof.Rows.boot_int (pa_cons (pe_cmpR op_eq (pe_call ct.G hr1 rfl ct.m ct.k ct.b .nil pass0 (pa_cons (pv 2) (pa_cons pe_int pa_nil))) pe_int (nomark _)) pa_nil)) (fun _ _ => rfl)))
      (pss_cons (ps_set (i := 4) scLaw.nd rfl (Or.inl rfl) (pe_call cr.G hr3 rfl cr.m cr.k cr.b .nil pass0 (pa_cons (pv 2) (pa_cons (pv 3) pa_nil))))
      (pss_cons (ps_set (i := 5) scLaw.nd rfl (Or.inl rfl) (pe_call cd.G hr1 rfl cd.m cd.k cd.b .nil pass0 (pa_cons (pv 4) pa_nil)))
      (pss_cons (ps_set (i := 6) scLaw.nd rfl (Or.inl rfl) (pe_callTy call_list_of rfl T.list PyProof.Rows.boot_list (pa_cons (pv 4) pa_nil)))
      (pss_one (ps_for PassesOwn.never rfl (pi_range1 rfl T.range (pa_cons pe_int pa_nil)) (pg_name (i := 7) scLaw.nd rfl (Or.inl rfl))
        (pss_cons (ps_set (i := 8) scLaw.nd rfl (Or.inl rfl) (pe_call cu.G hr1 rfl cu.m cu.k cu.b .nil pass0 (pa_cons (pv 6) pa_nil)))
        (pss_cons (ps_if (PW.pt (pw_or (pt_not (pt_val (pe_callB call_isOne rfl T.isi PyProof.Rows.boot_isinstance (pa_cons (pv 8) (pa_cons (pe_bltn (v := .ty "list") rfl T.list PyProof.Rows.boot_list rfl) pa_nil))))) (pw_or1 (pt_not (pt_val (pe_call cs.G hr rfl cs.m cs.k cs.b .nil pass0 (pa_cons (pv 8) (pa_cons (pv 5) pa_nil)))))))) pss_never pss_nil)
        (pss_cons (ps_for PassesOwn.never rfl (pi_enum rfl T.enum (pa_cons (pv 8) pa_nil)) (pg_tupK (K := K) (n := 2) rfl rfl (pgs_cons (pg_name (i := 9) scLaw.nd rfl (Or.inl rfl)) (pgs_cons (pg_name (i := 10) scLaw.nd rfl (Or.inl rfl)) pgs_nil)))
          (pss_one (ps_expr (pe_bm PySem.F.plainAttrs_list PySem.F.slot_list_append PySem.F.type_list_append mt_append (pv 10) (pa_cons (pe_tup (pa_cons (pv 9) (pa_cons pe_str pa_nil))) pa_nil)))))
        (pss_cons (ps_if (pt_not (pt_val (pe_call cs.G hr rfl cs.m cs.k cs.b .nil pass0 (pa_cons (pv 8) (pa_cons
            (pe_comp (esc := defScope sLaw) (N := nLaw) (tn := ["at", "one"]) (fn := []) (ix := []) rfl rfl rfl ⟨rfl, by decide +kernel, by decide +kernel, by decide +kernel, rfl, by decide +kernel⟩ (pi_enum rfl T.enum (pa_cons (pv 5) pa_nil))
              (fun _ _ _ _ _ => pg_tupK (K := K) (n := 2) rfl rfl (pgs_cons (pg_name (i := 0) nd_ao rfl (Or.inl rfl)) (pgs_cons (pg_name (i := 1) nd_ao rfl (Or.inl rfl)) pgs_nil))) (fun _ _ _ _ _ => pts_nil)
              (fun _ _ _ _ _ => pe_op op_cat (pv 1) (pe_lst (pa_cons (pe_tup (pa_cons (pv 0) (pa_cons pe_str pa_nil))) pa_nil)))) pa_nil))))) pss_never pss_nil)
        (pss_cons (ps_expr (pe_bm PySem.F.plainAttrs_list PySem.F.slot_list_append PySem.F.type_list_append mt_append (pv 8) (pa_cons (pe_lst pa_nil) pa_nil)))
        (pss_one (ps_if (pt_not (pt_val (pe_call cs.G hr rfl cs.m cs.k cs.b .nil pass0 (pa_cons (pv 6) (pa_cons (pv 4) pa_nil))))) pss_never pss_nil)))))))))))))))
    (pss_one (ps_ret pe_bl)), ?_⟩
  refine ⟨_, rfl, a, _, rfl, .inl hS, _, _, rfl, _, _, rfl, _, rfl, ?_⟩
  have hj : ∀ n : Int, 0 ≤ n → 1 ≤ (if (if n < 12 then n else 12) > 1 then (if n < 12 then n else 12) else 1) ∧ (if (if n < 12 then n else 12) > 1 then (if n < 12 then n else 12) else 1) ≤ 12 := by
    intro n hn
    split <;> split <;> omega
  obtain ⟨g1, g2⟩ := hj _ (Int.natCast_nonneg (ns.map V.int).length)
  generalize (if (if ((ns.map V.int).length : Int) < 12 then ((ns.map V.int).length : Int) else 12) > 1 then (if ((ns.map V.int).length : Int) < 12 then ((ns.map V.int).length : Int) else 12) else 1) = J at g1 g2 ⊢
  refine ⟨by omega, by omega, for_range (lo := 0) (fun _ σ H1 => ∃ v1 v2 v3 v4 v5 v6 v7 v8 v9 v10 : Option V, σ = [some (.ref a), v1, v2, v3, v4, v5, v6, v7, v8, v9, v10] ∧ L2.Same H H1) ?_ ?_ ?_⟩
  · exact ⟨_, _, _, _, _, _, _, _, _, _, rfl, L2.Same.refl H⟩
  case refine_3 => exact fun σ H1 _ => q H1
  rintro i σ H1 hi ⟨v1, v2, v3, v4, v5, v6, v7, v8, v9, v10, rfl, S1⟩
  refine ⟨_, rfl, _, rfl, a, ns, _, rfl, S1.seq hS, h63, by omega, by omega, fun p x y z H2 hp S2 P2 hz => ?_⟩
  have z0 := P2.2
  refine ⟨two_ok, fun m1 hm1 => ?_⟩
  refine ⟨_, rfl, _, _, rfl, rfl, .inr ⟨_, rfl, m1, _, _, _, rfl, rfl, SqL.of upd_same, pick2 _ _ _, two_ok, fun m2 hm2 => ?_⟩⟩
  have S2b : L2.Same H2 (upd H2 m1 (.lst [.int 200, .int 20])) := same_new hm1 _
  have m2p := (ne_of_none (S2b _ _ P2.1) hm2).symm
  have hm : ∀ (c1 c2 : Bool), 0 ≤ (if c2 = true then (if c1 = true then (20 : Int) else 200) else 20) ∧ (if c2 = true then (if c1 = true then (20 : Int) else 200) else 20) ≤ 1000 := by
    intro c1 c2
    cases c1 <;> cases c2 <;> decide
  refine ⟨_, rfl, p, x, y, z, 8, rfl, ⟨S2b.trans (same_new hm2 _) _ _ P2.1, z0⟩, by omega, by decide, by decide, fun r H3 r0 r1 L3 => ?_⟩
  refine ⟨rfl, .inr ⟨_, rfl, m2, _, _, _, rfl, rfl, SqL.of (L3.kp _ _ m2p upd_same), pick2 _ _ _, ?_⟩⟩
  obtain ⟨x3, z3, P3, a1, a2⟩ := L3.pool
  refine ⟨_, rfl, _, rfl, p, x3, y, z3, _, rfl, P3, by omega, (hm _ _).1, Int.le_trans (hm _ _).2 (by decide), fun l as ts H4 hl th hlen htag L4 => ?_⟩
  have hA : as.length ≤ 1000 := Int.ofNat_le.mp (Int.le_trans hlen (hm _ _).2)
  have S4 : L2.Same H1 H4 := fun b o e => by
    have n : b ≠ p := ne_of_none e hp
    exact L4.kp b o n (L3.kp b o n ((S2b.trans (same_new hm2 _)) b o (S2 b o e)))
  refine ⟨_, rfl, keyAt H4, l, as, rfl, hl, ths_th th, by omega, fun d ls H5 D => ?_⟩
  refine ⟨_, rfl, l, _, rfl, .inl (SqL.of (D.same _ _ hl)), fun hd hhd => ?_⟩
  have S6 : L2.Same H5 (upd H5 hd (.lst (as.map V.ref))) := same_new hhd _
  have hd6 : (upd H5 hd (.lst (as.map V.ref))) hd = some (.lst (as.map V.ref)) := upd_same
  have th6 : ∀ b ∈ as, Th (keyAt H4) (upd H5 hd (.lst (as.map V.ref))) b := fun b hb => (ths_th th b hb).keep (D.same.trans S6)
  have hl6 := S6 _ _ (D.same _ _ hl)
  have d6 := S6 _ _ D.at_
  have rows6 : Rws (upd H5 hd (.lst (as.map V.ref))) ls (runsF (keyAt H4) as) := D.rows.keep fun c _ o e => S6 _ _ e
  have S16 := (S4.trans D.same).trans S6
  generalize upd H5 hd (.lst (as.map V.ref)) = H6 at S6 hd6 th6 hl6 d6 rows6 S16
  have rlen : (runsF (keyAt H4) as).length ≤ as.length := by have := fold_len (keyAt H4) as []; rw [List.length_nil, Nat.zero_add] at this; exact this
  have rmem : ∀ r ∈ runsF (keyAt H4) as, (∀ c ∈ r, c ∈ as) ∧ r.length ≤ 0 + as.length := runs_mem (keyAt H4) as 0 as [] (fun _ h => h) (fun _ h => nomatch h)
  generalize hrs : runsF (keyAt H4) as = rs at rlen rmem rows6 D
  have lls : ls.length = rs.length := Paired.length rows6
  refine ⟨2, rfl, by decide, by decide, for_range (lo := 0) (fun _ σ H7 => ∃ v1 v2 v3 v7 v8 v9 v10 : Option V, σ = [some (.ref a), v1, v2, v3, some (.ref l), some (.ref d), some (.ref hd), v7, v8, v9, v10] ∧ L2.Same H6 H7) ?_ ?_ ?_⟩
  · exact ⟨_, _, _, _, _, _, _, rfl, L2.Same.refl H6⟩
  case refine_3 =>
    rintro σ H7 ⟨u1, u2, u3, u7, u8, u9, u10, rfl, S7⟩
    exact ⟨_, _, _, _, _, _, _, _, _, _, rfl, S1.trans (S16.trans S7)⟩
  rintro again σ H7 _ ⟨u1, u2, u3, u7, u8, u9, u10, rfl, S7⟩
  refine ⟨_, rfl, keyAt H4, hd, as, rfl, S7 _ _ hd6, fun b hb => (th6 b hb).keep S7, by omega, fun fo fs H8 E8 => ?_⟩
  rw [hrs] at E8
  have fls : fs.length = rs.length := Paired.length E8.rows
  have S68 := S7.trans E8.same
  have thr : ∀ (H' : Hp), L2.Same H6 H' → ∀ r ∈ rs, ∀ b ∈ r, Th (keyAt H4) H' b := fun H' k r hr b hb => (th6 b ((rmem r hr).1 b hb)).keep k
  have row_at : ∀ j, j < rs.length → ∃ r, rs[j]? = some r ∧ r ∈ rs ∧ r.length ≤ 1000 := fun j hj => ⟨rs[j], List.getElem?_eq_getElem hj, List.getElem_mem hj, by have := (rmem rs[j] (List.getElem_mem hj)).2; omega⟩
  have ref_at : ∀ {xs : List Addr} {j : Nat} {u : V}, (xs.map V.ref)[j]? = some u → ∃ b, xs[j]? = some b ∧ u = .ref b := fun {xs j u} e => by
    rw [List.getElem?_map] at e
    cases q : xs[j]? with
    | none => rw [q] at e; cases e
    | some b => rw [q] at e; cases e; exact ⟨b, rfl, rfl⟩
  refine ⟨_, rfl, _, "list", "list", true, rfl, .lst E8.at_, ki_list_list K, true, rfl, iteF ?_⟩
  refine ⟨_, rfl, _, rfl, .ref fo, .ref d, rfl, ?_, fun H9 S9 => ⟨true, rfl, iteF ?_⟩⟩
  · refine alk_list E8.at_ (S68 _ _ d6) (by rw [List.length_map, List.length_map]; omega) (by rw [List.length_map]; omega) fun j u v e1 e2 => ?_
    obtain ⟨f1, h1, rfl⟩ := ref_at e1
    obtain ⟨l1, h2, rfl⟩ := ref_at e2
    obtain ⟨r, hr1, hr2, hr3⟩ := row_at j (by have := (List.getElem?_eq_some_iff.mp h1).1; omega)
    exact alk_list (E8.rows.get h1 hr1) (S68 _ _ (rows6.get h2 hr1)) rfl (by rw [List.length_map]; omega) (alk_refs (thr H8 S68 r hr2) 0)
  have S79 := E8.same.trans S9
  have S69 := S7.trans S79
  refine ⟨_, rfl, fo, _, rfl, SqL.of (S9 _ _ E8.at_), for_by (J := Ite K fo) fs.length (fun j σ H10 => ∃ w0 w1 w2 : Option V, σ = [some (.ref a), u1, u2, u3, some (.ref l), some (.ref d), some (.ref hd), w0, some (.ref fo), w1, w2] ∧ L2.Same H7 H10 ∧ H10 fo = some (.lst (fs.map V.ref)) ∧
      ∀ (k : Nat) (g : Addr) (r : List Addr), fs[k]? = some g → rs[k]? = some r → (k < j → MRow H10 g r k) ∧ (j ≤ k → H10 g = some (.lst (r.map V.ref)))) ?_ ?_ ?_ ?_ ?_⟩
  · exact ⟨_, _, _, rfl, S79, S9 _ _ E8.at_, fun k g r h1 h2 => ⟨fun z => absurd z (Nat.not_lt_zero _), fun _ => S9 _ _ (E8.rows.get h1 h2)⟩⟩
  · rintro j σ H10 hj ⟨w0, w1, w2, rfl, T1, T2, T3⟩
    exact ⟨_, _, SqL.of T2, by rw [List.getElem?_map, List.getElem?_eq_getElem hj]; rfl⟩
  · rintro σ H10 ⟨w0, w1, w2, rfl, T1, T2, T3⟩
    exact ⟨_, SqL.of T2, by rw [List.length_map]; exact Nat.le_refl _⟩
  · rintro j xv σ H10 H11 hj ⟨w0, w1, w2, rfl, T1, T2, T3⟩ ⟨Tt, xo, hT, rfl, rfl, hxo⟩
    obtain ⟨g, hg, rfl⟩ := ref_at (hxo _ (SqL.of T2))
    obtain ⟨r, hr1, hr2, hr3⟩ := row_at j (by omega)
    have g10 := (T3 j g r hg hr1).2 (Nat.le_refl _)
    have gm : g ∈ fs := List.mem_of_getElem? hg
    have sT : L2.Same H10 (upd H10 Tt (.tup [.int (j : Int), .ref g])) := same_new hT _
    refine ⟨Tt, [.int (j : Int), .ref g], rfl, SqT.of upd_same, rfl, _, [_], rfl, _, [], rfl, rfl, ?_⟩
    refine ⟨_, rfl, .inl ⟨rfl, _, SqL.of (sT _ _ g10)⟩, _, rfl, two_ok, fun M hM => ?_⟩
    have sM : L2.Same H10 (upd (upd H10 Tt (.tup [.int (j : Int), .ref g])) M (.tup [.int (j : Int), .str "mark"])) := sT.trans (same_new hM _)
    have MM : (upd (upd H10 Tt (.tup [.int (j : Int), .ref g])) M (.tup [.int (j : Int), .str "mark"])) M = some (.tup [.int (j : Int), .str "mark"]) := upd_same
    generalize upd (upd H10 Tt (.tup [.int (j : Int), .ref g])) M (.tup [.int (j : Int), .str "mark"]) = H12 at sM MM
    have g12 := sM _ _ g10
    refine ⟨g, _, _, rfl, rfl, g12, smalll (by rw [List.length_map]; omega), _, _, _, rfl, fun b o e => ?_, ?_, ?_⟩
    · rw [upd_ne (ne_of_none e (E8.news g gm))]; exact sM _ _ (T1 _ _ e)
    · rw [upd_ne (fun z : fo = g => E8.out (z ▸ gm))]; exact sM _ _ T2
    · intro k g' r' h1 h2
      by_cases hk : k = j
      · subst hk
        rw [hg] at h1
        rw [hr1] at h2
        cases h1
        cases h2
        exact ⟨fun _ => ⟨M, upd_same, by rw [upd_ne (ne_of MM g12 (by intro z; cases z))]; exact MM⟩, fun z => absurd z (by omega)⟩
      · have gne := nd_ne E8.nd h1 hg hk
        obtain ⟨q1, q2⟩ := T3 k g' r' h1 h2
        refine ⟨fun z => ?_, fun z => ?_⟩
        · obtain ⟨t, t1, t2⟩ := q1 (by omega)
          exact ⟨t, by rw [upd_ne gne]; exact sM _ _ t1, by rw [upd_ne (ne_of (sM _ _ t2) g12 (by intro z; cases z))]; exact sM _ _ t2⟩
        · rw [upd_ne gne]; exact sM _ _ (q2 (by omega))
  rintro σ H10 ⟨w0, w1, w2, rfl, T1, T2, T3⟩
  have S610 := S7.trans T1
  refine ⟨_, rfl, _, rfl, d, _, rfl, SqL.of (S610 _ _ d6), fun c hc => ?_⟩
  have d10 := S610 _ _ d6
  refine comp_by (J := Ite K d) ls.length (fun j σ H13 => ∃ (y1 y2 : Option V) (cs : List Addr), σ = [y1, y2] ∧ L2.Same H10 H13 ∧ H13 c = some (.lst (cs.map V.ref)) ∧ cs.length = j ∧ (∀ (k : Nat) (g : Addr) (r : List Addr), cs[k]? = some g → rs[k]? = some r → MRow H13 g r k) ∧ c ∉ cs) ?_ ?_ ?_ ?_ ?_
  · exact ⟨none, none, [], rfl, same_new hc _, upd_same, rfl, (fun k g r h => nomatch h), fun h => nomatch h⟩
  · rintro j σ H13 hj ⟨y1, y2, cs, rfl, T4, T5, T6, T7, T8⟩
    exact ⟨_, _, SqL.of (T4 _ _ d10), by rw [List.getElem?_map, List.getElem?_eq_getElem hj]; rfl⟩
  · rintro σ H13 ⟨y1, y2, cs, rfl, T4, T5, T6, T7, T8⟩
    exact ⟨_, SqL.of (T4 _ _ d10), by rw [List.length_map]; exact Nat.le_refl _⟩
  · rintro j xv σ H13 H14 hj ⟨y1, y2, cs, rfl, T4, T5, T6, T7, T8⟩ ⟨Tt, xo, hT, rfl, rfl, hxo⟩
    obtain ⟨g, hg, rfl⟩ := ref_at (hxo _ (SqL.of (T4 _ _ d10)))
    obtain ⟨r, hr1, hr2, hr3⟩ := row_at j (by omega)
    have g13 := T4 _ _ (S610 _ _ (rows6.get hg hr1))
    have sT : L2.Same H13 (upd H13 Tt (.tup [.int (j : Int), .ref g])) := same_new hT _
    refine ⟨Tt, [.int (j : Int), .ref g], rfl, SqT.of upd_same, rfl, _, [_], rfl, _, [], rfl, rfl, ?_⟩
    dsimp only [tAll]
    rw [if_pos rfl]
    refine ⟨_, rfl, _, rfl, two_ok, fun M hM => ⟨(small (by decide) : 1 ≤ sizeLine), fun L1 hL1 => ?_⟩⟩
    have sM : L2.Same H13 (upd (upd (upd H13 Tt (.tup [.int (j : Int), .ref g])) M (.tup [.int (j : Int), .str "mark"])) L1 (.lst [.ref M])) := (sT.trans (same_new hM _)).trans (same_new hL1 _)
    have MM : (upd (upd (upd H13 Tt (.tup [.int (j : Int), .ref g])) M (.tup [.int (j : Int), .str "mark"])) L1 (.lst [.ref M])) M = some (.tup [.int (j : Int), .str "mark"]) := (same_new hL1 _) _ _ upd_same
    have LL : (upd (upd (upd H13 Tt (.tup [.int (j : Int), .ref g])) M (.tup [.int (j : Int), .str "mark"])) L1 (.lst [.ref M])) L1 = some (.lst [.ref M]) := upd_same
    generalize upd (upd (upd H13 Tt (.tup [.int (j : Int), .ref g])) M (.tup [.int (j : Int), .str "mark"])) L1 (.lst [.ref M]) = H15 at sM MM LL
    refine ⟨g, L1, _, _, rfl, rfl, sM _ _ g13, LL, small (by rw [List.length_map]; show r.length + 1 ≤ _; omega), fun n hn => ?_⟩
    have c15 := sM _ _ T5
    have cn : c ≠ n := ne_of_none c15 hn
    have sn : L2.Same H15 (upd H15 n (.lst (r.map V.ref ++ [.ref M]))) := same_new hn _
    have nn : (upd H15 n (.lst (r.map V.ref ++ [.ref M]))) n = some (.lst (r.map V.ref ++ [.ref M])) := upd_same
    have Mn := sn _ _ MM
    have cl := sn _ _ c15
    have s13 := sM.trans sn
    generalize upd H15 n (.lst (r.map V.ref ++ [.ref M])) = H16 at sn nn Mn cl s13
    refine ⟨cs.map V.ref, cl, smalll (by rw [List.length_map]; omega), _, _, cs ++ [n], rfl, fun b o e => ?_, by rw [upd_same, List.map_append]; rfl, by rw [List.length_append, T6]; rfl, fun k g' r' h1 h2 => ?_, fun h => ?_⟩
    · rw [upd_ne (ne_of_none e hc)]; exact s13 _ _ (T4 _ _ e)
    · by_cases hk : k < cs.length
      · rw [List.getElem?_append_left hk] at h1
        obtain ⟨t, t1, t2⟩ := T7 k g' r' h1 h2
        have cne : g' ≠ c := fun z => T8 (z ▸ List.mem_of_getElem? h1)
        exact ⟨t, by rw [upd_ne cne]; exact s13 _ _ t1, by rw [upd_ne (ne_of t2 T5 (by intro z; cases z))]; exact s13 _ _ t2⟩
      · rw [List.getElem?_append_right (by omega)] at h1
        cases hz : k - cs.length with
        | succ m => rw [hz] at h1; cases h1
        | zero =>
          rw [hz] at h1
          cases h1
          have ek : k = j := by omega
          subst ek
          rw [hr1] at h2
          cases h2
          exact ⟨M, by rw [upd_ne (Ne.symm cn)]; exact nn, by rw [upd_ne (ne_of Mn cl (by intro z; cases z))]; exact Mn⟩
    · rcases List.mem_append.mp h with h | h
      · exact T8 h
      · rw [List.mem_singleton] at h; exact cn h
  rintro σ H13 ⟨y1, y2, cs', rfl, T4, T5, T6, T7, _⟩
  have S613 := S610.trans T4
  refine ⟨.ref fo, .ref c, rfl, ?_, fun H14 S14 => ⟨true, rfl, iteF ?_⟩⟩
  · refine alk_list (T4 _ _ T2) T5 (by rw [List.length_map, List.length_map]; omega) (by rw [List.length_map]; omega) fun j u v e1 e2 => ?_
    obtain ⟨f1, h1, rfl⟩ := ref_at e1
    obtain ⟨l1, h2, rfl⟩ := ref_at e2
    have hj : j < fs.length := (List.getElem?_eq_some_iff.mp h1).1
    obtain ⟨r, hr1, hr2, hr3⟩ := row_at j (by omega)
    exact alk_marked (thr H13 S613 r hr2) hr3 (((T3 j f1 r h1 hr1).1 hj).keep T4) (T7 j l1 r h2 hr1) 0
  have T14 := T1.trans (T4.trans S14)
  have fo14 := S14 _ _ (T4 _ _ T2)
  refine ⟨_, rfl, .inl ⟨rfl, _, SqL.of fo14⟩, Nat.zero_le _, fun e he => ?_⟩
  have foe : fo ≠ e := ne_of_none fo14 he
  refine ⟨fo, _, _, rfl, rfl, (same_new he _) _ _ fo14, smalll (by rw [List.length_map]; omega), ?_⟩
  have S715 : L2.Same H7 (upd (upd H14 e (.lst [])) fo (.lst (fs.map V.ref ++ [.ref e]))) := fun b o z => by
    rw [upd_ne (ne_of_none z E8.newr)]
    exact (same_new he _) _ _ (T14 _ _ z)
  have S615 := S7.trans S715
  generalize upd (upd H14 e (.lst [])) fo (.lst (fs.map V.ref ++ [.ref e])) = H15 at S715 S615
  refine ⟨_, rfl, _, rfl, .ref hd, .ref l, rfl, ?_, fun H16 S16' => ⟨true, rfl, iteF ?_⟩⟩
  · exact alk_list (S615 _ _ hd6) (S615 _ _ hl6) rfl (by rw [List.length_map]; omega) (alk_refs (fun b hb => (th6 b hb).keep S615) 1)
  · exact ⟨_, _, _, _, _, _, _, rfl, S615.trans S16'⟩
end
end Ev



/-! the top of the linked text, and the theorem -/
namespace Ev
open PySem L2
theorem all_mk {l : PySem.W.OpenLaw} {w : World} {K : PySem.W.Frag} {h : Heap} {mg : Str → Option Value} {fa f1 f2 f3 f4 f5 f6 f7 f8 f9 : Addr} (X : K.In h) (G : h.Ns mainGlobals mg) (hfa : mg "law" = some (.ref fa))
    {od1 an1 od2 an2 od3 an3 od4 an4 od5 an5 od6 an6 od7 an7 od8 an8 od9 an9 : Option Addr} {sl1 sl2 sl3 sl4 sl5 sl6 sl7 sl8 sl9 : Array (Option Value)} {oc1 kV1 dc1 pm1 cd1 ct1 oc2 kV2 dc2 pm2 cd2 ct2 oc3 kV3 dc3 pm3 cd3 ct3 oc4 kV4 dc4 pm4 cd4 ct4 oc5 kV5 dc5 pm5 cd5 ct5 oc6 kV6 dc6 pm6 cd6 ct6 oc7 kV7 dc7 pm7 cd7 ct7 oc8 kV8 dc8 pm8 cd8 ct8 oc9 kV9 dc9 pm9 cd9 ct9 : Value}
    (a1 : PySem.W.nsIn K mainGlobals "runs_of" = some (some (.ref f1))) (l1 : K.lookup f1 = some ⟨oc1, od1, .func (PySem.W.fnOf "runs_of" "runs_of" (defArgs sRuns) (defBody sRuns) (defScope sRuns) .none kV1 dc1 pm1 an1 cd1 ct1), sl1⟩) (c1 : PySem.W.codeIn K cd1 "runs_of" = true) (k1 : PySem.W.keepIn K (.ref f1) = true)
    (a2 : PySem.W.nsIn K mainGlobals "_law_pool" = some (some (.ref f2))) (l2 : K.lookup f2 = some ⟨oc2, od2, .func (PySem.W.fnOf "_law_pool" "_law_pool" (defArgs sPool) (defBody sPool) (defScope sPool) .none kV2 dc2 pm2 an2 cd2 ct2), sl2⟩) (c2 : PySem.W.codeIn K cd2 "_law_pool" = true) (k2 : PySem.W.keepIn K (.ref f2) = true)
    (a3 : PySem.W.nsIn K mainGlobals "_law_take" = some (some (.ref f3))) (l3 : K.lookup f3 = some ⟨oc3, od3, .func (PySem.W.fnOf "_law_take" "_law_take" (defArgs sTake) (defBody sTake) (defScope sTake) .none kV3 dc3 pm3 an3 cd3 ct3), sl3⟩) (c3 : PySem.W.codeIn K cd3 "_law_take" = true) (k3 : PySem.W.keepIn K (.ref f3) = true)
    (a4 : PySem.W.nsIn K mainGlobals "_law_tag" = some (some (.ref f4))) (l4 : K.lookup f4 = some ⟨oc4, od4, .func (PySem.W.fnOf "_law_tag" "_law_tag" (defArgs sTag) (defBody sTag) (defScope sTag) .none kV4 dc4 pm4 an4 cd4 ct4), sl4⟩) (c4 : PySem.W.codeIn K cd4 "_law_tag" = true) (k4 : PySem.W.keepIn K (.ref f4) = true)
    (a5 : PySem.W.nsIn K mainGlobals "_law_key" = some (some (.ref f5))) (l5 : K.lookup f5 = some ⟨oc5, od5, .func (PySem.W.fnOf "_law_key" "_law_key" (defArgs sKey) (defBody sKey) (defScope sKey) .none kV5 dc5 pm5 an5 cd5 ct5), sl5⟩) (c5 : PySem.W.codeIn K cd5 "_law_key" = true) (k5 : PySem.W.keepIn K (.ref f5) = true)
    (a6 : PySem.W.nsIn K mainGlobals "_law_row" = some (some (.ref f6))) (l6 : K.lookup f6 = some ⟨oc6, od6, .func (PySem.W.fnOf "_law_row" "_law_row" (defArgs sRow) (defBody sRow) (defScope sRow) .none kV6 dc6 pm6 an6 cd6 ct6), sl6⟩) (c6 : PySem.W.codeIn K cd6 "_law_row" = true) (k6 : PySem.W.keepIn K (.ref f6) = true)
    (a7 : PySem.W.nsIn K mainGlobals "_law_same" = some (some (.ref f7))) (l7 : K.lookup f7 = some ⟨oc7, od7, .func (PySem.W.fnOf "_law_same" "_law_same" (defArgs sSame) (defBody sSame) (defScope sSame) .none kV7 dc7 pm7 an7 cd7 ct7), sl7⟩) (c7 : PySem.W.codeIn K cd7 "_law_same" = true) (k7 : PySem.W.keepIn K (.ref f7) = true)
    (a8 : PySem.W.nsIn K mainGlobals "_law_due" = some (some (.ref f8))) (l8 : K.lookup f8 = some ⟨oc8, od8, .func (PySem.W.fnOf "_law_due" "_law_due" (defArgs sDue) (defBody sDue) (defScope sDue) .none kV8 dc8 pm8 an8 cd8 ct8), sl8⟩) (c8 : PySem.W.codeIn K cd8 "_law_due" = true) (k8 : PySem.W.keepIn K (.ref f8) = true)
    (a9 : PySem.W.nsIn K mainGlobals "law" = some (some (.ref f9))) (l9 : K.lookup f9 = some ⟨oc9, od9, .func (PySem.W.fnOf "law" "law" (defArgs sLaw) (defBody sLaw) (defScope sLaw) .none kV9 dc9 pm9 an9 cd9 ct9), sl9⟩) (c9 : PySem.W.codeIn K cd9 "law" = true) (k9 : PySem.W.keepIn K (.ref f9) = true)
    (z1 : PySem.W.nsIn K mainGlobals "len" = some none)
    (z2 : PySem.W.nsIn K mainGlobals "range" = some none)
    (z3 : PySem.W.nsIn K mainGlobals "isinstance" = some none)
    (z4 : PySem.W.nsIn K mainGlobals "bool" = some none)
    (z5 : PySem.W.nsIn K mainGlobals "int" = some none)
    (z6 : PySem.W.nsIn K mainGlobals "str" = some none)
    (z7 : PySem.W.nsIn K mainGlobals "list" = some none)
    (z8 : PySem.W.nsIn K mainGlobals "tuple" = some none)
    (z9 : PySem.W.nsIn K mainGlobals "zip" = some none)
    (z10 : PySem.W.nsIn K mainGlobals "enumerate" = some none)
    (z11 : PySem.W.nsIn K mainGlobals "sorted" = some none)
    (z12 : PySem.W.nsIn K mainGlobals "max" = some none)
    (z13 : PySem.W.nsIn K mainGlobals "min" = some none) :
    ∃ fd : FuncData, (∀ (s : Shared) (v : Value), BindsTo s fd ⟨[v], []⟩ [("script", v)]) ∧ ∀ base : Heap, K.In base → base.Ns mainGlobals mg → FnOk l.prog w K mg base CX0 5 fa fd ["script"] (spLaw K) := by
  have e := hfa.symm.trans (PySem.W.mg_of X G a9)
  cases e
  have F1 := fun_mk (st := sRuns) l1 c1 k1
  have F2 := fun_mk (st := sPool) l2 c2 k2
  have F3 := fun_mk (st := sTake) l3 c3 k3
  have F4 := fun_mk (st := sTag) l4 c4 k4
  have F5 := fun_mk (st := sKey) l5 c5 k5
  have F6 := fun_mk (st := sRow) l6 c6 k6
  have F7 := fun_mk (st := sSame) l7 c7 k7
  have F8 := fun_mk (st := sDue) l8 c8 k8
  have F9 := fun_mk (st := sLaw) l9 c9 k9
  have b1 := F1.binds (ps := ["row"]) fun _ _ _ _ _ _ us hl => match us, hl with | [_], _ => rfl
  have b2 := F2.binds (ps := ["script", "k"]) fun _ _ _ _ _ _ us hl => match us, hl with | [_, _], _ => rfl
  have b3 := F3.binds (ps := ["pool", "many"]) fun _ _ _ _ _ _ us hl => match us, hl with | [_, _], _ => rfl
  have b4 := F4.binds (ps := ["pool"]) fun _ _ _ _ _ _ us hl => match us, hl with | [_], _ => rfl
  have b5 := F5.binds (ps := ["pool", "kind"]) fun _ _ _ _ _ _ us hl => match us, hl with | [_, _], _ => rfl
  have b6 := F6.binds (ps := ["pool", "most"]) fun _ _ _ _ _ _ us hl => match us, hl with | [_, _], _ => rfl
  have b7 := F7.binds (ps := ["one", "other"]) fun _ _ _ _ _ _ us hl => match us, hl with | [_, _], _ => rfl
  have b8 := F8.binds (ps := ["row"]) fun _ _ _ _ _ _ us hl => match us, hl with | [_], _ => rfl
  have m1 := PySem.W.mg_of X G a1
  have m2 := PySem.W.mg_of X G a2
  have m3 := PySem.W.mg_of X G a3
  have m4 := PySem.W.mg_of X G a4
  have m5 := PySem.W.mg_of X G a5
  have m6 := PySem.W.mg_of X G a6
  have m7 := PySem.W.mg_of X G a7
  have m8 := PySem.W.mg_of X G a8
  have m9 := PySem.W.mg_of X G a9
  have T : Nm mg := ⟨PySem.W.mg_none_of X G z1, PySem.W.mg_none_of X G z2, PySem.W.mg_none_of X G z3, PySem.W.mg_none_of X G z4, PySem.W.mg_none_of X G z5, PySem.W.mg_none_of X G z6, PySem.W.mg_none_of X G z7, PySem.W.mg_none_of X G z8, PySem.W.mg_none_of X G z9, PySem.W.mg_none_of X G z10, PySem.W.mg_none_of X G z11, PySem.W.mg_none_of X G z12, PySem.W.mg_none_of X G z13⟩
  refine ⟨PySem.W.fnOf "law" "law" (defArgs sLaw) (defBody sLaw) (defScope sLaw) .none kV9 dc9 pm9 an9 cd9 ct9, fun s v => .of_eq rfl, fun base _ _ => ?_⟩
  have ct : Cal l.prog w K mg base "_law_take" 1 f3 _ ["pool", "many"] spTake' := ⟨take_weak (ok_take F3 T), b3, k3, m3⟩
  have cg : Cal l.prog w K mg base "_law_tag" 2 f4 _ ["pool"] spTag := ⟨ok_tag F4 T ct, b4, k4, m4⟩
  have ck : Cal l.prog w K mg base "_law_key" 2 f5 _ ["pool", "kind"] spKey := ⟨ok_key F5 T ct, b5, k5, m5⟩
  exact ok_law F9 T ⟨ok_pool F2 T, b2, k2, m2⟩ ct ⟨ok_row F6 T ct cg ck, b6, k6, m6⟩ ⟨runsE fun κ => ok_due F8 T, b8, k8, m8⟩ ⟨runsE fun κ => ok_runs F1, b1, k1, m1⟩ ⟨ok_same F7 b7 m7 T 3, b7, k7, m7⟩
theorem walk {l : PySem.W.OpenLaw} {q : Program} {loose : List Str} {XP : (Str → Option Value) → Heap → Prop} {YP : World → Heap → Prop} {d : DefRec} {K : Params → PySem.W.Frag} (hn : l.most = some 63) (hdf : d.params.defaults = [])
    (hY : ∀ (w : World) (h : Heap), YP w h → (K w.params).In h)
    (F : ∀ (w : World) (mg : Str → Option Value) (fa : Addr) (h : Heap), (K w.params).In h → h.Ns mainGlobals mg → mg d.name = some (.ref fa) →
      ∃ fd : FuncData, (∀ (s : Shared) (u : Value), BindsTo s fd ⟨[u], []⟩ [("script", u)]) ∧ ∀ base : Heap, (K w.params).In base → base.Ns mainGlobals mg → FnOk l.prog w (K w.params) mg base CX0 5 fa fd ["script"] (spLaw (K w.params))) :
    PySem.W.WalkO q loose XP YP l.row.toRowW d [] (fun f vs => PySem.call f vs) :=
  L2.walk_of (n := 63) (k := 5) (x := "script") (CX := fun _ => CX0) (sp := fun w => spLaw (K w.params)) hn (by decide) hdf ⟨rfl, by decide, by decide⟩ hY F (fun _ _ a ns hl _ hS => ⟨a, ns, rfl, hS, hl, fun _ => rfl⟩) fun _ _ _ _ _ z => z
end Ev
open PySem PySem.W PyProof.Rows
set_option maxRecDepth 100000 in
set_option maxHeartbeats 0 in
theorem PySem.Challenge.cw_evenlots_k06_runs_told_holds : PySem.Challenge.rw_evenlots_k06_runs_told.Holds := by
  w_on; o_law; k_head; (case hw => w_witness2)
  k_fill
  refine Ev.walk (l := PySem.Challenge.rw_evenlots_k06_runs_told) rfl rfl (fun w h Y => PySem.W.kIn_of Y) ?F
  case F =>
    intro w mg fa h KX G hmg
    refine' Ev.all_mk KX G hmg ?a1 ?l1 ?c1 ?k1 ?a2 ?l2 ?c2 ?k2 ?a3 ?l3 ?c3 ?k3 ?a4 ?l4 ?c4 ?k4 ?a5 ?l5 ?c5 ?k5 ?a6 ?l6 ?c6 ?k6 ?a7 ?l7 ?c7 ?k7 ?a8 ?l8 ?c8 ?k8 ?a9 ?l9 ?c9 ?k9 ?z1 ?z2 ?z3 ?z4 ?z5 ?z6 ?z7 ?z8 ?z9 ?z10 ?z11 ?z12 ?z13
    (case a1 => k_is); (case l1 => k_is); (case c1 => k_is); (case k1 => k_is)
    (case a2 => k_is); (case l2 => k_is); (case c2 => k_is); (case k2 => k_is)
    (case a3 => k_is); (case l3 => k_is); (case c3 => k_is); (case k3 => k_is)
    (case a4 => k_is); (case l4 => k_is); (case c4 => k_is); (case k4 => k_is)
    (case a5 => k_is); (case l5 => k_is); (case c5 => k_is); (case k5 => k_is)
    (case a6 => k_is); (case l6 => k_is); (case c6 => k_is); (case k6 => k_is)
    (case a7 => k_is); (case l7 => k_is); (case c7 => k_is); (case k7 => k_is)
    (case a8 => k_is); (case l8 => k_is); (case c8 => k_is); (case k8 => k_is)
    (case a9 => k_is); (case l9 => k_is); (case c9 => k_is); (case k9 => k_is)
    (case z1 => k_is)
    (case z2 => k_is)
    (case z3 => k_is)
    (case z4 => k_is)
    (case z5 => k_is)
    (case z6 => k_is)
    (case z7 => k_is)
    (case z8 => k_is)
    (case z9 => k_is)
    (case z10 => k_is)
    (case z11 => k_is)
    (case z12 => k_is)
    (case z13 => k_is)


