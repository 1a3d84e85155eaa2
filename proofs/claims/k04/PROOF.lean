import PyProof.Rows.All
import Wide.All
import OpenK.AllK
import Wide.FinOn
import Lean
import PyProof.EqAt
import PyProof.EqKinds
import PyProof.TupleCall
import PySem.Challenge.RW_drawnweb_k04_shortest_ways
section
-- CHANGE: your row's module here, as the last of these rows
set_option Elab.async false
set_option linter.all false
set_option maxRecDepth 100000
/-! THE HAND LAYER, for ints, bools, texts, own classes, LISTS and tuples (index, slices, in, append, pop ..), calls, loops. Paste it whole ahead of your own text; what your proof does not reach may be deleted. -/
namespace L2
open PySem PySem.Spec PyProof.Rows

/-- a key: an int or a str -/
abbrev Key := Sum Int Str
def keyIs : Key → Value → Bool
  | .inl k, v => Value.isInt k v
  | .inr x, v => Value.isStrOf x v
def keyH (w : World) : Key → Int
  | .inl k => hashInt k
  | .inr x => hashStr w x
theorem keyIs_shape : ∀ {k : Key} {v : Value}, keyIs k v = true → (∃ i t, k = Sum.inl i ∧ v = Value.int i t) ∨ (∃ x t, k = Sum.inr x ∧ v = Value.str x t)
  | .inl i, v, h => by
    obtain ⟨t, e⟩ := Value.isInt_shape (k := i) (v := v) h
    exact .inl ⟨i, t, rfl, e⟩
  | .inr x, v, h => by
    obtain ⟨t, e⟩ := Value.isStrOf_shape (x := x) (v := v) h
    exact .inr ⟨x, t, rfl, e⟩
theorem keyIs_int (i : Int) (t : Tok) : keyIs (.inl i) (.int i t) = true := by simp [keyIs, Value.isInt]
theorem keyIs_str (x : Str) (t : Tok) : keyIs (.inr x) (.str x t) = true := by simp [keyIs, Value.isStrOf]
theorem key_ll (a b : Int) : decide ((Sum.inl a : Key) = Sum.inl b) = (a == b) := by
  by_cases e : a = b
  · subst e; simp
  · have h : ¬ (Sum.inl a : Key) = Sum.inl b := fun q => e (Sum.inl.inj q)
    rw [decide_eq_false h]
    exact (beq_eq_false_iff_ne.mpr e).symm
theorem key_rr (a b : Str) : decide ((Sum.inr a : Key) = Sum.inr b) = decide (a = b) := by
  by_cases e : a = b
  · subst e; simp
  · have h : ¬ (Sum.inr a : Key) = Sum.inr b := fun q => e (Sum.inr.inj q)
    rw [decide_eq_false h, decide_eq_false e]
theorem key_lr (a : Int) (b : Str) : decide ((Sum.inl a : Key) = Sum.inr b) = false := decide_eq_false (fun q => nomatch q)
theorem key_rl (a : Str) (b : Int) : decide ((Sum.inr a : Key) = Sum.inl b) = false := decide_eq_false (fun q => nomatch q)

def mixKind (prog : Program) (w : World) : PySem.KeyKind prog w Key where
  is := keyIs
  hash := keyH w
  inj := fun v a b ha hb => by
    rcases keyIs_shape ha with ⟨i, t, rfl, rfl⟩ | ⟨x, t, rfl, rfl⟩
    · rcases keyIs_shape hb with ⟨j, u, rfl, e⟩ | ⟨y, u, rfl, e⟩
      · injection e with e1 _; rw [e1]
      · exact nomatch e
    · rcases keyIs_shape hb with ⟨j, u, rfl, e⟩ | ⟨y, u, rfl, e⟩
      · exact nomatch e
      · injection e with e1 _; rw [e1]
  byValue := fun k v h => by
    rcases keyIs_shape h with ⟨i, t, rfl, rfl⟩ | ⟨x, t, rfl, rfl⟩ <;> rfl
  pyHash := fun hv h => by
    rcases keyIs_shape hv with ⟨i, t, rfl, rfl⟩ | ⟨x, t, rfl, rfl⟩
    · exact wpAny_pyHash_int h
    · exact wpAny_pyHash_str h
  eqBool := fun hu hv h => by
    rcases keyIs_shape hu with ⟨i, t, rfl, rfl⟩ | ⟨x, t, rfl, rfl⟩
    · rcases keyIs_shape hv with ⟨j, u, rfl, rfl⟩ | ⟨y, u, rfl, rfl⟩
      · rw [key_ll] at h; exact wpAny_eqBool_int h
      · rw [key_lr] at h; exact SeqAt.EqAt.int_str i t y u _ _ _ _ h
    · rcases keyIs_shape hv with ⟨j, u, rfl, rfl⟩ | ⟨y, u, rfl, rfl⟩
      · rw [key_rl] at h; exact SeqAt.EqAt.str_int x t j u _ _ _ _ h
      · rw [key_rr] at h; exact wpAny_eqBool_str h
  «strs» := fun k x t v h => by
    rcases keyIs_shape h with ⟨i, u, rfl, e⟩ | ⟨y, u, rfl, e⟩
    · exact nomatch e
    · injection e with e1 _
      subst e1
      cases v <;> rfl

theorem mixKind_is (prog : Program) (w : World) (k : Key) (v : Value) : (mixKind prog w).is k v = keyIs k v := rfl
theorem mixKind_int (prog : Program) (w : World) (i : Int) (t : Tok) : (mixKind prog w).is (.inl i) (.int i t) = true := keyIs_int i t
theorem mixKind_str (prog : Program) (w : World) (x : Str) (t : Tok) : (mixKind prog w).is (.inr x) (.str x t) = true := keyIs_str x t
end L2

namespace L2
open PySem PySem.Spec PyProof.Rows

/-- a value, without the heap -/
inductive V where
  | non | bl (b : Bool) | int (i : Int) | str (x : Str) | byt (b : Array UInt8) | flt (b : UInt64) | ref (a : Addr) | ty (n : String)
  deriving DecidableEq

def RelV : V → Value → Prop
  | .non, u => u = Value.none
  | .bl b, u => u = Value.bool b
  | .int i, u => ∃ t, u = Value.int i t
  | .str x, u => ∃ t, u = Value.str x t
  | .byt b, u => ∃ t, u = Value.bytes b t
  | .flt b, u => ∃ t, u = Value.float b t
  | .ref a, u => u = Value.ref a
  | .ty n, u => u = Value.type n

abbrev Vals : List V → List Value → Prop := Paired RelV
theorem Vals.length {xs : List V} {us : List Value} (r : Vals xs us) : xs.length = us.length := Paired.length r
theorem Vals.get : ∀ {xs : List V} {us : List Value} {i : Nat} {x : V}, Vals xs us → xs[i]? = some x → ∃ u, us[i]? = some u ∧ RelV x u
  | _, _, _, _, .nil, e => by simp at e
  | _, _, 0, _, .cons r _, e => by simp at e; subst e; exact ⟨_, rfl, r⟩
  | _, _, i + 1, x, .cons _ t, e => by
    obtain ⟨u, h1, h2⟩ := Vals.get (i := i) (x := x) t (by simpa using e)
    exact ⟨u, by simpa using h1, h2⟩
theorem Vals.set {x : V} {u : Value} (r : RelV x u) : ∀ {xs : List V} {us : List Value} (i : Nat), Vals xs us → Vals (xs.set i x) (us.set i u)
  | _, _, _, .nil => .nil
  | _, _, 0, .cons _ t => .cons r t
  | _, _, i + 1, .cons q t => .cons q (Vals.set r i t)
theorem Vals.append : ∀ {xs ys : List V} {us ws : List Value}, Vals xs us → Vals ys ws → Vals (xs ++ ys) (us ++ ws)
  | _, _, _, _, .nil, s => s
  | _, _, _, _, .cons r t, s => .cons r (Vals.append t s)
theorem Vals.take : ∀ {xs : List V} {us : List Value} (n : Nat), Vals xs us → Vals (xs.take n) (us.take n)
  | _, _, 0, _ => .nil
  | _, _, _ + 1, .nil => .nil
  | _, _, n + 1, .cons r t => .cons r (Vals.take n t)
theorem Vals.drop : ∀ {xs : List V} {us : List Value} (n : Nat), Vals xs us → Vals (xs.drop n) (us.drop n)
  | _, _, 0, r => r
  | _, _, _ + 1, .nil => .nil
  | _, _, n + 1, .cons _ t => Vals.drop n t
theorem Vals.none_of : ∀ {xs : List V} {us : List Value} {i : Nat}, Vals xs us → xs[i]? = none → us[i]? = none := fun {xs us i} r e => by
  have h1 := r.length
  have h2 : xs.length ≤ i := List.getElem?_eq_none_iff.mp e
  exact List.getElem?_eq_none_iff.mpr (by omega)

def RelO : Option V → Option Value → Prop
  | some v, some u => RelV v u
  | none, none => True
  | _, _ => False
def KV {κ : Type} : List (κ × V) → List (κ × Value) → Prop := Paired fun (p : κ × V) (q : κ × Value) => p.1 = q.1 ∧ RelV p.2 q.2

/-- a key of a dict (00_mix): an int or a text -/
def kV : Key → V
  | .inl i => .int i
  | .inr x => .str x

/-- what stands at a tracked address -/
inductive HO where
  /-- a list -/
  | lst (xs : List V)
  /-- a tuple (never changes) -/
  | tup (xs : List V)
  /-- a dict whose keys are ints and texts; one whose keys are tuples of ints and texts (the empty one is both) -/
  | dK (kvs : List (Key × V)) | dT (kvs : List (List Key × V))
  /-- a set of ints: its members, its size -/
  | set (S : Int → Bool) (n : Nat)
  /-- an instance of the class at C, its dict at dx, its attributes -/
  | ins (C dx : Addr) (fs : List (Str × V))
  /-- the dict of the instance at x -/
  | own (x : Addr)
  /-- the dict of an exception -/
  | xd (fs : List (Str × V))
  /-- a bound method, f of x -/
  | met (f x : Addr)
  /-- a range object lo, lo + 1, .. below hi -/
  | rng (lo hi : Int)
  /-- a thing that is known to the object (the script; a dict while a loop walks it): read, never written while it is so -/
  | frz (o : Obj) (u : HO)
  /-- a code object's table -/
  | tbl (ps : Array Value)
  /-- any other thing, by what is true of its one object (a def of one's own: SetO a S n := HO.ext fun h => ..) -/
  | ext (φ : Heap → Prop)

abbrev Hp := Addr → Option HO
def upd (H : Hp) (a : Addr) (o : HO) : Hp := fun b => if b = a then some o else H b
theorem upd_same {H : Hp} {a : Addr} {o : HO} : upd H a o a = some o := by unfold upd; rw [if_pos rfl]
theorem upd_ne {H : Hp} {a b : Addr} {o : HO} (h : b ≠ a) : upd H a o b = H b := by unfold upd; rw [if_neg h]
theorem upd_upd {H : Hp} {a : Addr} {o u : HO} : upd (upd H a o) a u = upd H a u := by
  funext b; unfold upd; split <;> rfl
/-- two objects of different content stand apart -/
theorem ne_of {H : Hp} {a b : Addr} {o u : HO} (h : H a = some o) (h' : H b = some u) (d : o ≠ u) : a ≠ b := by
  intro e; subst e; rw [h] at h'; exact d (Option.some.inj h')
theorem ne_of_none {H : Hp} {a b : Addr} {o : HO} (h : H a = some o) (h' : H b = none) : a ≠ b := by
  intro e; subst e; rw [h] at h'; cases h'

section
variable (P : Program) (w : World)
def ObjOk (H : Hp) (h : Heap) (a : Addr) : HO → Prop
  | .lst xs => xs.length ≤ sizeLine ∧ ∃ (its : List Value) (n : Nat), Vals xs its ∧ h.get? a = some { cls := .type "list", data := .seq its.toArray n }
  | .tup xs => xs.length ≤ sizeLine ∧ ∃ its : List Value, Vals xs its ∧ IsTup h a its.toArray
  | .dK kvs => kvs.length ≤ sizeLine ∧ (a == sysModules) = false ∧ ∃ vs, KV kvs vs ∧ h.DictOf (mixKind P w) a vs
  | .dT kvs => kvs.length ≤ sizeLine ∧ (a == sysModules) = false ∧ ∃ xs : List (List Key × Addr × Value),
      Paired (fun (p : List Key × V) (q : List Key × Addr × Value) => p.1 = q.1 ∧ H q.2.1 = some (.tup (p.1.map kV)) ∧ RelV p.2 q.2.2) kvs xs ∧
      ∃ o es ep, h.get? a = some o ∧ o.ExactDict ∧ o.data = .dict es ep ∧ es.toList = xs.map (entryOfKey (tupleKind (mixKind P w))) ∧ (xs.map (·.1)).Nodup
  | .set S n => h.SetOf (intKind P w) a S n
  | .ins C dx fs => H dx = some (.own a) ∧ fs.length ≤ 1000 ∧ dx ≠ a ∧ h.get? a = some (PySem.W.instObj C dx) ∧
      ∃ mA, h.Ns1 dx mA ∧ (∀ f, RelO (fs.lookup f) (mA f)) ∧ PySem.Within mA (fs.map (·.1))
  | .own _ => ∃ o, h.get? a = some o
  | .xd fs => ∃ mA, h.Ns1 a mA ∧ ∀ f, RelO (fs.lookup f) (mA f)
  | .rng lo hi => ∃ t u v, h.get? a = some { cls := .type "range", data := .fields #[.int lo t, .int hi u, .int 1 v] }
  | .frz o u => h.get? a = some o ∧ ObjOk H h a u
  | .tbl ps => h.get? a = some { cls := .none, data := .fields ps }
  | .met f x => h.get? a = some (PySem.W.methodObj (.ref f) (.ref x))
  | .ext φ => φ h ∧ (∃ o, h.get? a = some o) ∧ ∀ h1 h2 : Heap, φ h1 → (∀ o, h1.get? a = some o → h2.get? a = some o) → φ h2
/-- the abstract heap is held -/
def HOk (H : Hp) (h : Heap) : Prop := ∀ a o, H a = some o → ObjOk P w H h a o
end

section
variable {P : Program} {w : World} {H H' : Hp} {h h' : Heap} {a : Addr} {o : HO}
theorem ObjOk.lt (x : ObjOk P w H h a o) : a < h.objs.size := by
  cases o with
  | lst xs => obtain ⟨_, _, _, _, e⟩ := x; exact Heap.lt_size e
  | tup xs => obtain ⟨_, _, _, p⟩ := x; exact p.lt
  | dK kvs => obtain ⟨_, _, _, _, o, _, _, e, _⟩ := x; exact Heap.lt_size e
  | dT kvs => obtain ⟨_, _, _, _, o, _, _, e, _⟩ := x; exact Heap.lt_size e
  | set S n => obtain ⟨o, _, _, _, e, _⟩ := x; exact Heap.lt_size e
  | ins C dx fs => obtain ⟨_, _, _, e, _⟩ := x; exact Heap.lt_size e
  | own y => obtain ⟨_, e⟩ := x; exact Heap.lt_size e
  | xd fs => obtain ⟨_, ⟨_, _, _, e, _⟩, _⟩ := x; exact Heap.lt_size e
  | rng lo hi => obtain ⟨_, _, _, e⟩ := x; exact Heap.lt_size e
  | frz ob u => obtain ⟨e, _⟩ := x; exact Heap.lt_size e
  | tbl ps => exact Heap.lt_size (show h.get? a = some _ from x)
  | met f y => exact Heap.lt_size (show h.get? a = some _ from x)
  | ext φ => obtain ⟨_, ⟨_, e⟩, _⟩ := x; exact Heap.lt_size e
theorem Paired.mapP {α β : Type} {F G : α → β → Prop} : ∀ {l₁ : List α} {l₂ : List β}, Paired F l₁ l₂ → (∀ a b, F a b → G a b) → Paired G l₁ l₂
  | _, _, .nil, _ => .nil
  | _, _, .cons r t, f => .cons (f _ _ r) (Paired.mapP t f)
theorem Paired.imp' {α β : Type} {F G : α → β → Prop} (f : ∀ a b, F a b → G a b) {l₁ : List α} {l₂ : List β} (r : Paired F l₁ l₂) : Paired G l₁ l₂ := Paired.mapP r f
/-- what an object's description leans on: its own object, its own dict, the tuples -/
theorem ObjOk.stay (x : ObjOk P w H h a o) (k : ∀ b u, (b = a ∨ H b = some (.own a)) → h.get? b = some u → h'.get? b = some u)
    (ho : ∀ b, H b = some (.own a) → H' b = some (.own a)) (ht : ∀ b xs, H b = some (.tup xs) → H' b = some (.tup xs)) : ObjOk P w H' h' a o := by
  induction o with
  | lst xs => obtain ⟨z, its, n, r, e⟩ := x; exact ⟨z, its, n, r, k _ _ (.inl rfl) e⟩
  | tup xs => obtain ⟨z, its, r, ob, e, c⟩ := x; exact ⟨z, its, r, ob, k _ _ (.inl rfl) e, c⟩
  | dK kvs => obtain ⟨z, y, vs, r, ob, es, ep, e, c⟩ := x; exact ⟨z, y, vs, r, ob, es, ep, k _ _ (.inl rfl) e, c⟩
  | dT kvs =>
    obtain ⟨z, y, xs, r, ob, es, ep, e, c⟩ := x
    exact ⟨z, y, xs, Paired.mapP r fun p q z => ⟨z.1, ht _ _ z.2.1, z.2.2⟩, ob, es, ep, k _ _ (.inl rfl) e, c⟩
  | set S n => obtain ⟨ob, es, ep, t, e, c⟩ := x; exact ⟨ob, es, ep, t, k _ _ (.inl rfl) e, c⟩
  | ins C dx fs =>
    obtain ⟨d, z, ne, e, mA, ⟨od, es, ep, e2, c⟩, r⟩ := x
    exact ⟨ho _ d, z, ne, k _ _ (.inl rfl) e, mA, ⟨od, es, ep, k _ _ (.inr d) e2, c⟩, r⟩
  | own y => obtain ⟨ob, e⟩ := x; exact ⟨ob, k _ _ (.inl rfl) e⟩
  | xd fs => obtain ⟨mA, ⟨od, es, ep, e, c⟩, r⟩ := x; exact ⟨mA, ⟨od, es, ep, k _ _ (.inl rfl) e, c⟩, r⟩
  | rng lo hi => obtain ⟨t, u, v, e⟩ := x; exact ⟨t, u, v, k _ _ (.inl rfl) e⟩
  | frz ob u ih => obtain ⟨e, q⟩ := x; exact ⟨k _ _ (.inl rfl) e, ih q⟩
  | tbl ps =>
    have e : h.get? a = some { cls := .none, data := .fields ps } := x
    show h'.get? a = some { cls := .none, data := .fields ps }
    exact k a _ (.inl rfl) e
  | met f y =>
    have e : h.get? a = some (PySem.W.methodObj (.ref f) (.ref y)) := x
    show h'.get? a = some (PySem.W.methodObj (.ref f) (.ref y))
    exact k a _ (.inl rfl) e
  | ext φ => obtain ⟨p, ⟨o, e⟩, st⟩ := x; exact ⟨st _ _ p fun o q => k _ _ (.inl rfl) q, ⟨o, k _ _ (.inl rfl) e⟩, st⟩
theorem HOk.lt (x : HOk P w H h) (e : H a = some o) : a < h.objs.size := (x a o e).lt
theorem HOk.fresh (x : HOk P w H h) (e : h.objs.size ≤ a) : H a = none := by
  cases q : H a with
  | none => rfl
  | some u => exact absurd (Nat.lt_of_lt_of_le (x.lt q) e) (Nat.lt_irrefl _)
/-- every object of the heap is kept -/
theorem HOk.kept (x : HOk P w H h) (k : ∀ b u, h.get? b = some u → h'.get? b = some u) : HOk P w H h' := fun a o e =>
  (x a o e).stay (fun b u _ q => k b u q) (fun _ q => q) fun _ _ q => q
/-- a new object is laid and tracked -/
theorem HOk.laid (x : HOk P w H h) (k : ∀ b u, h.get? b = some u → h'.get? b = some u) (hp : h.objs.size ≤ a) (new : ObjOk P w (upd H a o) h' a o) : HOk P w (upd H a o) h' := fun b u e => by
  have hn := x.fresh hp
  by_cases hb : b = a
  · subst hb; rw [upd_same] at e; cases e; exact new
  · rw [upd_ne hb] at e
    exact (x b u e).stay (fun c v _ q => k c v q) (fun c q => by rw [upd_ne (ne_of_none q hn)]; exact q) fun c xs q => by rw [upd_ne (ne_of_none q hn)]; exact q
end

/-- what may be read as u: it is u, or a known u -/
def Rd (H : Hp) (a : Addr) (u : HO) : Prop := H a = some u ∨ ∃ o, H a = some (.frz o u)
theorem Rd.of {H : Hp} {a : Addr} {u : HO} (h : H a = some u) : Rd H a u := .inl h
theorem Rd.ok {P : Program} {w : World} {H : Hp} {h : Heap} {a : Addr} {u : HO} (r : Rd H a u) (x : HOk P w H h) : ObjOk P w H h a u := by
  rcases r with r | ⟨o, r⟩
  · exact x a u r
  · obtain ⟨_, q⟩ := x a _ r
    exact q
/-- what may be written -/
def Mut : Option HO → Prop
  | some (.lst _) => True
  | some (.dK _) => True
  | some (.dT _) => True
  | some (.set _ _) => True
  | some (.ins _ _ _) => True
  | some (.ext _) => True
  | _ => False
section
variable {P : Program} {w : World} {H : Hp} {h h' : Heap} {x e : Addr} {o' : HO}
/-- the object at e is changed: x itself, or the dict of the instance x -/
theorem HOk.write (ok : HOk P w H h) (mu : Mut (H x)) (he : e = x ∨ H e = some (.own x)) (k : ∀ b u, b ≠ e → h.get? b = some u → h'.get? b = some u) (heo : ∃ u, h'.get? e = some u)
    (new : ObjOk P w (upd H x o') h' x o') : HOk P w (upd H x o') h' := fun b u q => by
  have nown : ∀ c y, H c = some (.own y) → c ≠ x := fun c y r z => by subst z; rw [r] at mu; exact mu
  have ntup : ∀ c xs, H c = some (.tup xs) → c ≠ x := fun c xs r z => by subst z; rw [r] at mu; exact mu
  by_cases hb : b = x
  · subst hb; rw [upd_same] at q; cases q; exact new
  · rw [upd_ne hb] at q
    by_cases hbe : b = e
    · have q' : H b = some (.own x) := by
        rcases he with z | z
        · exact absurd (hbe.trans z) hb
        · rw [hbe]; exact z
      rw [q] at q'; cases q'
      obtain ⟨v, hv⟩ := heo
      exact ⟨v, by rw [hbe]; exact hv⟩
    · refine (ok b u q).stay (fun c v hc r => k c v ?_ r) (fun c r => by rw [upd_ne (nown c b r)]; exact r) fun c xs r => by rw [upd_ne (ntup c xs r)]; exact r
      rcases hc with rfl | hc
      · exact hbe
      · rintro rfl
        rcases he with z | z
        · exact nown c b hc z
        · rw [hc] at z; cases z; exact hb rfl
end

/-! ### kept unless tracked; of the frames at fs (the callers') the slots may change (an exception that passes writes there); of the records at ex (iterators) nothing is said -/
structure Un (fs ex : List Addr) (H H' : Hp) (h h' : Heap) : Prop where
  keep : ∀ b o, h.get? b = some o → H b = none → b ∉ fs → b ∉ ex → h'.get? b = some o
  slot : ∀ b o, h.get? b = some o → H b = none → b ∈ fs → b ∉ ex → ∃ sl, h'.get? b = some { o with slots := sl }
  free : ∀ b o, h.get? b = some o → H b = none → b ∉ ex → H' b = none
  there : ∀ b o, h.get? b = some o → b ∉ ex → ∃ o', h'.get? b = some o'
  tups : ∀ b xs, H b = some (.tup xs) → H' b = some (.tup xs)
  frzs : ∀ b o u, H b = some (.frz o u) → H' b = some (.frz o u)
  tbls : ∀ b ps, H b = some (.tbl ps) → ∃ more, H' b = some (.tbl (ps ++ more))
section
variable {fs fs' ex ex' : List Addr} {H H1 H2 : Hp} {h h1 h2 h' : Heap} {a x e : Addr} {o : HO}
theorem Un.any (u : Un fs ex H H1 h h1) {b : Addr} {ob : Obj} (q : h.get? b = some ob) (n : H b = none) (hx : b ∉ ex) : ∃ sl, h1.get? b = some { ob with slots := sl } := by
  by_cases hb : b ∈ fs
  · exact u.slot b ob q n hb hx
  · exact ⟨ob.slots, u.keep b ob q n hb hx⟩
theorem Un.trans (a : Un fs ex H H1 h h1) (b : Un fs ex H1 H2 h1 h2) : Un fs ex H H2 h h2 where
  keep := fun c ob q n hc hx => b.keep c ob (a.keep c ob q n hc hx) (a.free c ob q n hx) hc hx
  slot := fun c ob q n hc hx => by
    obtain ⟨sl, e1⟩ := a.slot c ob q n hc hx
    obtain ⟨sl', e2⟩ := b.slot c _ e1 (a.free c ob q n hx) hc hx
    exact ⟨sl', e2⟩
  free := fun c ob q n hx => by
    obtain ⟨o', e1⟩ := a.there c ob q hx
    exact b.free c o' e1 (a.free c ob q n hx) hx
  there := fun c ob q hx => by
    obtain ⟨o', e1⟩ := a.there c ob q hx
    exact b.there c o' e1 hx
  tups := fun c xs q => b.tups c xs (a.tups c xs q)
  frzs := fun c ob xs q => b.frzs c ob xs (a.frzs c ob xs q)
  tbls := fun c ps q => by
    obtain ⟨m1, e1⟩ := a.tbls c ps q
    obtain ⟨m2, e2⟩ := b.tbls c _ e1
    exact ⟨m1 ++ m2, by rw [e2, Array.append_assoc]⟩
theorem Un.kept (k : ∀ b u, h.get? b = some u → h'.get? b = some u) : Un fs ex H H h h' :=
  ⟨fun b ob q _ _ _ => k b ob q, fun b ob q _ _ _ => ⟨ob.slots, k b ob q⟩, fun _ _ _ n _ => n, fun b ob q _ => ⟨ob, k b ob q⟩, fun _ _ q => q, fun _ _ _ q => q, fun _ ps q => ⟨#[], by rw [q]; simp⟩⟩
theorem Un.refl : Un fs ex H H h h := Un.kept fun _ _ q => q
theorem Un.laid (k : ∀ b u, h.get? b = some u → h'.get? b = some u) (hp : h.objs.size ≤ a) (hn : H a = none) : Un fs ex H (upd H a o) h h' where
  keep := fun b u q _ _ _ => k b u q
  slot := fun b u q _ _ _ => ⟨u.slots, k b u q⟩
  free := fun b u q n _ => by rw [upd_ne (Nat.ne_of_lt (Nat.lt_of_lt_of_le (Heap.lt_size q) hp))]; exact n
  there := fun b u q _ => ⟨u, k b u q⟩
  tups := fun b xs q => by rw [upd_ne (ne_of_none q hn)]; exact q
  frzs := fun b u xs q => by rw [upd_ne (ne_of_none q hn)]; exact q
  tbls := fun b ps q => ⟨#[], by rw [upd_ne (ne_of_none q hn), q]; simp⟩
theorem Un.write (mu : Mut (H x)) (he : e = x ∨ H e = some (.own x)) (k : ∀ b u, b ≠ e → h.get? b = some u → h'.get? b = some u) (heo : ∃ u, h'.get? e = some u) : Un fs ex H (upd H x o) h h' := by
  have hx : ∀ b, H b = none → b ≠ x := fun b n z => by subst z; rw [n] at mu; exact mu
  have hb : ∀ b, H b = none → b ≠ e := fun b n z => by
    subst z
    rcases he with r | r
    · exact hx b n r
    · rw [n] at r; cases r
  have hm : ∀ b u, H b = some u → ¬ Mut (some u) → b ≠ x := fun b u q nm z => by subst z; rw [q] at mu; exact nm mu
  refine ⟨fun b u q n _ _ => k b u (hb b n) q, fun b u q n _ _ => ⟨u.slots, k b u (hb b n) q⟩, fun b u q n _ => by rw [upd_ne (hx b n)]; exact n, fun b u q _ => ?_,
    fun b xs q => by rw [upd_ne (hm b _ q fun z => z)]; exact q, fun b u xs q => by rw [upd_ne (hm b _ q fun z => z)]; exact q, fun b ps q => ⟨#[], by rw [upd_ne (hm b _ q fun z => z), q]; simp⟩⟩
  by_cases hbe : b = e
  · subst hbe; exact heo
  · exact ⟨u, k b u hbe q⟩
theorem Un.mono (u : Un fs ex H H1 h h1) (hs : ∀ b ∈ fs, b ∈ fs') (hx : ∀ b ∈ ex, b ∈ ex') : Un fs' ex' H H1 h h1 :=
  ⟨fun b ob q n hb he => u.keep b ob q n (fun z => hb (hs b z)) fun z => he (hx b z), fun _ _ q n _ he => u.any q n fun z => he (hx _ z), fun b ob q n he => u.free b ob q n fun z => he (hx b z), fun b ob q he => u.there b ob q fun z => he (hx b z), u.tups, u.frzs, u.tbls⟩
end

/-! ### the heap without what is tracked -/
def trk (h : Heap) (H : Hp) : List Addr := (List.range h.objs.size).filter fun a => (H a).isSome
def hidT (h : Heap) (H : Hp) : Heap := PySem.W.hideAll h (trk h H)
theorem hidT_size (h : Heap) (H : Hp) : (hidT h H).objs.size = h.objs.size := PySem.W.hideAll_size _ _
theorem hidT_get {h : Heap} {H : Hp} {b : Addr} {o : Obj} (e : h.get? b = some o) (n : H b = none) : (hidT h H).get? b = some o :=
  PySem.W.hideAll_get _ e fun hm => by
    have q : (H b).isSome = true := (List.mem_filter.mp hm).2
    rw [n] at q; simp at q
theorem of_hidT {h : Heap} {H : Hp} {b : Addr} {o : Obj} (e : (hidT h H).get? b = some o) : h.get? b = some o ∧ H b = none := by
  have e' : h.get? b = some o := PySem.W.of_hideAll (trk h H) e
  refine ⟨e', ?_⟩
  cases q : H b with
  | none => rfl
  | some x =>
    have hm : b ∈ trk h H := List.mem_filter.mpr ⟨List.mem_range.mpr (Heap.lt_size e'), by simp [q]⟩
    have z : (hidT h H).get? b = none := PySem.W.hideAll_none (trk h H) hm
    rw [z] at e; cases e

/-! ### OpenK's ledger, filled with every new object but one -/
def allNews (g h : Heap) (L : Addr) : List (Addr × Obj) := (List.range h.objs.size).filterMap fun a => if a = L ∨ (g.get? a).isSome = true then none else (h.get? a).map fun o => (a, o)
theorem mem_allNews {g h : Heap} {L a : Addr} {o : Obj} (h1 : a ≠ L) (h2 : g.get? a = none) (h3 : h.get? a = some o) : (a, o) ∈ allNews g h L :=
  List.mem_filterMap.mpr ⟨a, List.mem_range.mpr (Heap.lt_size h3), by simp [h1, h2, h3]⟩
theorem of_mem_allNews {g h : Heap} {L : Addr} {p : Addr × Obj} (hp : p ∈ allNews g h L) : p.1 ≠ L ∧ g.get? p.1 = none ∧ h.get? p.1 = some p.2 := by
  obtain ⟨b, _, e⟩ := List.mem_filterMap.mp hp
  split at e
  · cases e
  · rename_i hn
    cases q : h.get? b with
    | none => rw [q] at e; simp at e
    | some u =>
      rw [q] at e
      simp only [Option.map_some, Option.some.injEq] at e
      subst e
      refine ⟨fun z => hn (.inl z), ?_, q⟩
      show g.get? b = none
      cases r : g.get? b with
      | none => rfl
      | some v => exact (hn (.inr (by simp [r]))).elim
def rest (g h : Heap) (L d : Addr) : List (Addr × Obj) := (allNews g h L).filter fun p => decide (p.1 ≠ d)
theorem rest_ne {g h : Heap} {L d : Addr} : ∀ p ∈ rest g h L d, p.1 ≠ d := fun p hp => of_decide_eq_true (List.mem_filter.mp hp).2
theorem mem_rest {g h : Heap} {L d a : Addr} {o : Obj} (h1 : a ≠ L) (h2 : g.get? a = none) (h3 : h.get? a = some o) (h4 : a ≠ d) : (a, o) ∈ rest g h L d :=
  List.mem_filter.mpr ⟨mem_allNews h1 h2 h3, decide_eq_true h4⟩
theorem news_all {g h : Heap} {L : Addr} : News g L h (allNews g h L) := fun p hp => let ⟨a, b, c⟩ := of_mem_allNews hp; ⟨c, a, b⟩
theorem news_at {g h : Heap} {L d : Addr} {o : Obj} (h1 : d ≠ L) (h2 : g.get? d = none) (h3 : h.get? d = some o) : News g L h ((d, o) :: rest g h L d) := fun p hp => by
  rcases List.mem_cons.mp hp with rfl | hp
  · exact ⟨h3, h1, h2⟩
  · exact news_all p (List.mem_filter.mp hp).1
/-- behind a rule that changed d alone: all else but the frame is kept -/
theorem kept_of_news {g h h' : Heap} {L d : Addr} {m : Str → Option Value} (k : ∀ b o, g.get? b = some o → h.get? b = some o) (F : Fr g L h' m) (N : News g L h' (rest g h L d)) :
    ∀ b o, b ≠ L → b ≠ d → h.get? b = some o → h'.get? b = some o := fun b o h1 h2 e => by
  cases q : g.get? b with
  | some u =>
    have := k b u q
    rw [e] at this; cases this
    exact F.keep b _ q
  | none => exact (N (b, o) (mem_rest h1 q e h2)).1
end L2

namespace L2
open PySem PySem.Spec PyProof.Rows

/-- the module's facts, over the base: the heap at the law's entry without what is tracked there -/
structure Mod (K : PySem.W.Frag) (mg : Str → Option Value) (base : Heap) : Prop where
  kin : K.In base
  glob : base.Ns mainGlobals mg
  blt : ∃ mb, base.Ns builtinsNs mb ∧ ∀ x : Str, x ≠ "__name__" → mb x = bootBuiltins x
  nolimit : base.NoLimit

/-- the context: a def's body (or a comprehension's block) running. base: fixed through the whole law; s₀, H₀: the entry; outer: the frames whose slots others may change (a def's callers); stack: all frames that run;
   ex: iterators that were made ahead of the entry and are walked here (a comprehension's); fn: the names whose cells were made at the entry (a def: all; a comprehension's block: its own); calm: not within an except suite; pn: pins that every state bears; xe: what is wanted of an exception that leaves the code -/
structure Cx where
  prog : Program
  w : World
  K : PySem.W.Frag
  mg : Str → Option Value
  base : Heap
  A : Around
  N : List Str
  s₀ : Shared
  H₀ : Hp
  env : Env
  outer : List Env
  stack : List Env
  ex : List Addr
  fn : Str → Bool
  calm : Bool
  pn : List (Addr × Obj)
  xe : Value → Shared → Prop
/-- the callers' frames -/
def frs (l : List Env) : List Addr := l.filterMap (·.frame)
abbrev Cx.fs (X : Cx) : List Addr := frs X.outer

def Vis (sc : Scope) (x : Str) : Prop := sc.names.lookup x = some .local ∨ sc.names.lookup x = some .cell ∨ sc.names.lookup x = some .free
def Loc (sc : Scope) (x : Str) : Prop := sc.names.lookup x = some .local ∨ sc.names.lookup x = some .cell
def Look (env : Env) (h : Heap) (m : Str → Option Value) (x : Str) (u : Value) : Prop :=
  (env.kindOf x = some .local ∧ m x = some u) ∨ ((env.kindOf x = some .cell ∨ env.kindOf x = some .free) ∧ ∃ c, env.cells.lookup x = some c ∧ h.IsCell c (some u))

structure Cx.Ok (X : Cx) : Prop where
  mod : Mod X.K X.mg X.base
  kind : X.env.scope.kind = .function
  glob : X.env.globals = mainGlobals
  blt : X.env.builtins = builtinsNs
  above : X.s₀.heap.objs.size ≤ X.env.locals
  inj : ∀ x y c, X.env.cells.lookup x = some c → X.env.cells.lookup y = some c → x = y
  has : ∀ x, (X.env.kindOf x = some .cell ∨ X.env.kindOf x = some .free) → ∃ c, X.env.cells.lookup x = some c
  cab : ∀ x c, X.fn x = true → X.env.cells.lookup x = some c → X.s₀.heap.objs.size ≤ c
  hd : X.calm = true → X.A.handled = none
  frames : X.A.frames = some X.stack
  stk : X.stack = X.outer ∨ (X.stack = X.env :: X.outer ∧ X.env.frame = some X.env.locals)
  exf : ∀ b ∈ X.ex, b ≠ X.env.locals ∧ ∀ x c, X.env.cells.lookup x = some c → c ≠ b
  bs : ∀ b o, X.base.get? b = some o → X.s₀.heap.get? b = some o ∧ X.H₀ b = none
  bsz : X.base.objs.size ≤ X.s₀.heap.objs.size
  noex : ∀ b o, X.base.get? b = some o → b ∉ X.ex
  exfs : ∀ b ∈ X.ex, b ∉ X.fs
  funs : X.s₀.heap.FunFrames X.base X.outer
  frf : ∀ b ∈ X.fs, X.H₀ b = none

structure Inv (X : Cx) (pins : List (Addr × Obj)) (σ : List (Option V)) (H : Hp) (s : Shared) : Prop where
  ok : X.Ok
  os : s.os = X.s₀.os
  bare : AllBare s.gens
  base : Un X.fs X.ex X.H₀ H X.s₀.heap s.heap
  loc : ∃ m, s.heap.Ns X.env.locals m ∧ ∀ (i : Nat) (x : Str) (v : V), X.N[i]? = some x → σ[i]? = some (some v) → Vis X.env.scope x → ∃ u, RelV v u ∧ Look X.env s.heap m x u
  cell : ∀ x c, X.env.cells.lookup x = some c → ∃ v, s.heap.IsCell c v
  free : H X.env.locals = none
  freeC : ∀ x c, X.env.cells.lookup x = some c → H c = none
  pin : ∀ p ∈ X.pn ++ pins, s.heap.get? p.1 = some p.2 ∧ H p.1 = none ∧ p.1 ≠ X.env.locals ∧ p.1 ∉ X.fs ∧ ∀ v, p.2.data ≠ .cell v
  hok : HOk X.prog X.w H s.heap
  len : σ.length = X.N.length

section
variable {X : Cx} {pins : List (Addr × Obj)} {σ : List (Option V)} {H H' : Hp} {s : Shared} {h' : Heap}

theorem Cx.Ok.nofr (ok : X.Ok) {b : Addr} {o : Obj} (e : X.base.get? b = some o) : b ∉ X.fs := fun hb => by
  have := (ok.funs.mem hb).1
  rw [e] at this; cases this
theorem Inv.bs (I : Inv X pins σ H s) : ∀ b o, X.base.get? b = some o → s.heap.get? b = some o ∧ H b = none := fun b o e =>
  ⟨I.base.keep b o (I.ok.bs b o e).1 (I.ok.bs b o e).2 (I.ok.nofr e) (I.ok.noex b o e), I.base.free b o (I.ok.bs b o e).1 (I.ok.bs b o e).2 (I.ok.noex b o e)⟩
theorem Inv.bk (I : Inv X pins σ H s) : ∀ b o, X.base.get? b = some o → s.heap.get? b = some o := fun b o e => (I.bs b o e).1
theorem Inv.mod (I : Inv X pins σ H s) : Mod X.K X.mg X.base := I.ok.mod
theorem Inv.kIn (I : Inv X pins σ H s) : X.K.In s.heap := I.ok.mod.kin.keeps I.bk
theorem Inv.nolimit (I : Inv X pins σ H s) : s.heap.NoLimit := I.ok.mod.nolimit.keeps I.bk
/-- the frame over the base: for OpenK's rules (K.In X.base is I.mod.kin) -/
theorem Inv.fr (I : Inv X pins σ H s) : ∃ m, Fr X.base X.env.locals s.heap m :=
  let ⟨m, hn, _⟩ := I.loc
  ⟨m, hn, I.bk, Nat.le_trans I.ok.bsz I.ok.above⟩
theorem Inv.lt (I : Inv X pins σ H s) : X.env.locals < s.heap.objs.size := let ⟨_, hn, _⟩ := I.loc; hn.lt
theorem Inv.sz (I : Inv X pins σ H s) : X.s₀.heap.objs.size ≤ s.heap.objs.size := Nat.le_trans I.ok.above (Nat.le_of_lt I.lt)
theorem Inv.nofs (I : Inv X pins σ H s) {a : Addr} (h : s.heap.objs.size ≤ a) : a ∉ X.fs := fun hb => by
  obtain ⟨_, o, ho, _⟩ := I.ok.funs.mem hb
  exact absurd (Nat.lt_of_lt_of_le (Heap.lt_size ho) (Nat.le_trans I.sz h)) (Nat.lt_irrefl _)
theorem Inv.cne (I : Inv X pins σ H s) : ∀ x c, X.env.cells.lookup x = some c → c ≠ X.env.locals := fun x c e z => by
  obtain ⟨v, o, ho, hd⟩ := I.cell x c e
  obtain ⟨m, ⟨o', es, ep, ho', hd', _⟩, _⟩ := I.loc
  rw [z, ho'] at ho; cases ho; rw [hd'] at hd; cases hd
theorem Inv.funs (I : Inv X pins σ H s) : s.heap.FunFrames X.base X.outer := by
  have all : ∀ (l : List Env), (∀ b ∈ frs l, b ∈ X.fs) → X.s₀.heap.FunFrames X.base l → s.heap.FunFrames X.base l := by
    intro l
    induction l with
    | nil => intro _ _; trivial
    | cons env r ih =>
      intro hs hl
      obtain ⟨hk, ⟨L, o, hf, hn, ho, hd⟩, hr⟩ := hl
      have hL : L ∈ X.fs := hs L (by unfold frs; rw [List.filterMap_cons, hf]; exact List.mem_cons_self)
      obtain ⟨sl, e⟩ := I.base.slot L o ho (I.ok.frf L hL) hL fun z => I.ok.exfs L z hL
      exact ⟨hk, ⟨L, _, hf, hn, e, hd⟩, ih (fun b hb => hs b (by unfold frs; rw [List.filterMap_cons, hf]; exact List.mem_cons_of_mem _ hb)) hr⟩
  exact all X.outer (fun _ hb => hb) I.ok.funs

/-- the frames that run, for a call -/
theorem Inv.stack (I : Inv X pins σ H s) : s.heap.FunFrames X.base X.stack := by
  rcases I.ok.stk with e | ⟨e, hf⟩
  · rw [e]; exact I.funs
  · rw [e]
    obtain ⟨m, hn, _⟩ := I.loc
    refine .cons (by rw [I.ok.kind]; decide) hf hn ?_ I.funs
    exact Heap.get?_none_of_le (Nat.le_trans I.ok.bsz I.ok.above)
theorem Inv.stkSub (I : Inv X pins σ H s) : ∀ b ∈ frs X.stack, b ∈ X.env.locals :: X.fs := fun b hb => by
  rcases I.ok.stk with e | ⟨e, hf⟩
  · rw [e] at hb; exact List.mem_cons_of_mem _ hb
  · rw [e] at hb
    unfold frs at hb
    rw [List.filterMap_cons, hf] at hb
    exact hb
theorem Inv.stkFree (I : Inv X pins σ H s) : ∀ b ∈ frs X.stack, H b = none := fun b hb => by
  rcases List.mem_cons.mp (I.stkSub b hb) with e | hb
  · rw [e]; exact I.free
  · obtain ⟨_, o, ho, _⟩ := I.ok.funs.mem hb
    exact I.base.free b o ho (I.ok.frf b hb) fun z => I.ok.exfs b z hb

/-- THE STEP: the untracked objects but the frame and the records at ch are kept (the callers' frames up to slots), the frame's map is kept, the new abstract heap is held -/
theorem Inv.step {g' : Array GenState} {t' : Nat} {d' : Drawn} {ch : List Addr} (I : Inv X pins σ H s)
    (hch : ∀ b ∈ ch, (b ∈ X.ex ∨ X.s₀.heap.objs.size ≤ b) ∧ b ≠ X.env.locals ∧ (∀ x c, X.env.cells.lookup x = some c → c ≠ b) ∧ ∀ p ∈ X.pn ++ pins, p.1 ≠ b)
    (keep : ∀ b o, b ≠ X.env.locals → b ∉ X.fs → b ∉ ch → s.heap.get? b = some o → H b = none → h'.get? b = some o)
    (slot : ∀ b o, b ≠ X.env.locals → b ∈ X.fs → b ∉ ch → s.heap.get? b = some o → H b = none → ∃ sl, h'.get? b = some { o with slots := sl }) (free : ∀ b o, b ∉ ch → s.heap.get? b = some o → H b = none → H' b = none)
    (there : ∀ b o, b ∉ ch → s.heap.get? b = some o → ∃ o', h'.get? b = some o')
    (tups : ∀ b xs, H b = some (.tup xs) → H' b = some (.tup xs)) (frzs : ∀ b o u, H b = some (.frz o u) → H' b = some (.frz o u)) (tbls : ∀ b ps, H b = some (.tbl ps) → ∃ more, H' b = some (.tbl (ps ++ more)))
    (ns : ∀ m, s.heap.Ns X.env.locals m → h'.Ns X.env.locals m) (hok : HOk X.prog X.w H' h') (hg : AllBare g') :
    Inv X pins σ H' { s with heap := h', gens := g', drawn := d', toks := t' } := by
  have neL : ∀ b o, X.s₀.heap.get? b = some o → b ≠ X.env.locals := fun b o e => Nat.ne_of_lt (Nat.lt_of_lt_of_le (Heap.lt_size e) I.ok.above)
  have neC : ∀ b o, X.s₀.heap.get? b = some o → b ∉ X.ex → b ∉ ch := fun b o e hx hb => by
    rcases (hch b hb).1 with z | z
    · exact hx z
    · exact absurd (Nat.lt_of_lt_of_le (Heap.lt_size e) z) (Nat.lt_irrefl _)
  have cellK : ∀ x c, X.env.cells.lookup x = some c → ∀ v, s.heap.IsCell c v → h'.IsCell c v := fun x c e v ⟨o, ho, hd⟩ => by
    have nch : c ∉ ch := fun z => (hch c z).2.2.1 x c e rfl
    by_cases hc : c ∈ X.fs
    · obtain ⟨sl, q⟩ := slot c o (I.cne x c e) hc nch ho (I.freeC x c e)
      exact ⟨_, q, hd⟩
    · exact ⟨o, keep c o (I.cne x c e) hc nch ho (I.freeC x c e), hd⟩
  refine ⟨I.ok, I.os, hg, ⟨fun b o e n hb hx => ?_, fun b o e n hb hx => ?_, fun b o e n hx => ?_, fun b o e hx => ?_, fun b xs e => tups b xs (I.base.tups b xs e), fun b o xs e => frzs b o xs (I.base.frzs b o xs e), fun b ps e => ?_⟩, ?_, fun x c e => ?_, ?_, fun x c e => ?_, fun p hp => ?_, hok, I.len⟩
  · exact keep b o (neL b o e) hb (neC b o e hx) (I.base.keep b o e n hb hx) (I.base.free b o e n hx)
  · obtain ⟨sl, e1⟩ := I.base.slot b o e n hb hx
    obtain ⟨sl', e2⟩ := slot b _ (neL b o e) hb (neC b o e hx) e1 (I.base.free b o e n hx)
    exact ⟨sl', e2⟩
  · obtain ⟨o', e1⟩ := I.base.there b o e hx
    exact free b o' (neC b o e hx) e1 (I.base.free b o e n hx)
  · obtain ⟨o', e1⟩ := I.base.there b o e hx
    exact there b o' (neC b o e hx) e1
  · obtain ⟨m1, e1⟩ := I.base.tbls b ps e
    obtain ⟨m2, e2⟩ := tbls b _ e1
    exact ⟨m1 ++ m2, by rw [e2, Array.append_assoc]⟩
  · obtain ⟨m, hn, hl⟩ := I.loc
    refine ⟨m, ns m hn, fun i x v e1 e2 e3 => ?_⟩
    obtain ⟨u, r, l⟩ := hl i x v e1 e2 e3
    refine ⟨u, r, ?_⟩
    rcases l with l | ⟨k, c, e, z⟩
    · exact .inl l
    · exact .inr ⟨k, c, e, cellK x c e _ z⟩
  · obtain ⟨v, z⟩ := I.cell x c e
    exact ⟨v, cellK x c e v z⟩
  · obtain ⟨m, ⟨o, _, _, ho, _⟩, _⟩ := I.loc
    exact free _ o (fun z => (hch _ z).2.1 rfl) ho I.free
  · obtain ⟨v, o, ho, hd⟩ := I.cell x c e
    exact free c o (fun z => (hch c z).2.2.1 x c e rfl) ho (I.freeC x c e)
  · obtain ⟨e, n, ne, nf, d⟩ := I.pin p hp
    have nch : p.1 ∉ ch := fun z => (hch p.1 z).2.2.2 p hp rfl
    exact ⟨keep p.1 p.2 ne nf nch e n, free p.1 p.2 nch e n, ne, nf, d⟩
/-- .. where the frame's own object is kept too -/
theorem Inv.un {t' : Nat} (I : Inv X pins σ H s) (u : Un X.fs [] H H' s.heap h') (hok : HOk X.prog X.w H' h') : Inv X pins σ H' { s with heap := h', toks := t' } := by
  obtain ⟨m, ⟨o, es, ep, ho, r⟩, _⟩ := id I.loc
  obtain ⟨sl, hL⟩ := u.any ho I.free (by simp)
  exact I.step (g' := s.gens) (d' := s.drawn) (ch := []) (fun _ z => nomatch z) (fun b o _ hb _ e n => u.keep b o e n hb (by simp)) (fun b o _ hb _ e n => u.slot b o e n hb (by simp)) (fun b o _ e n => u.free b o e n (by simp)) (fun b o _ e => u.there b o e (by simp)) u.tups u.frzs u.tbls (fun m' hm => by
    obtain ⟨o', es', ep', ho', r'⟩ := hm
    rw [ho] at ho'; cases ho'
    exact ⟨_, es', ep', hL, r'⟩) hok I.bare
/-- behind a call (or a comprehension's block): the slots of this frame may have changed too, the records at ch may have turned -/
theorem Inv.call {g' : Array GenState} {t' : Nat} {d' : Drawn} {ch : List Addr} (I : Inv X pins σ H s) (u : Un (frs X.stack) ch H H' s.heap h') (hok : HOk X.prog X.w H' h') (hg : AllBare g')
    (hch : ∀ b ∈ ch, (b ∈ X.ex ∨ X.s₀.heap.objs.size ≤ b) ∧ b ≠ X.env.locals ∧ (∀ x c, X.env.cells.lookup x = some c → c ≠ b) ∧ ∀ p ∈ X.pn ++ pins, p.1 ≠ b) :
    Inv X pins σ H' { s with heap := h', gens := g', drawn := d', toks := t' } := by
  obtain ⟨m, ⟨o, es, ep, ho, r⟩, _⟩ := id I.loc
  obtain ⟨sl, hL⟩ := u.any ho I.free fun z => (hch _ z).2.1 rfl
  exact I.step (ch := ch) hch (fun b o hL hb hc e n => u.keep b o e n (fun z => (List.mem_cons.mp (I.stkSub b z)).elim hL hb) hc) (fun b o _ _ hc e n => u.any e n hc) (fun b o hc e n => u.free b o e n hc) (fun b o hc e => u.there b o e hc) u.tups u.frzs u.tbls (fun m' hm => by
    obtain ⟨o', es', ep', ho', r'⟩ := hm
    rw [ho] at ho'; cases ho'
    exact ⟨_, es', ep', hL, r'⟩) hok hg
/-- an untracked record of ours (an iterator) has turned -/
theorem Inv.turned {t' : Nat} {it : Addr} (I : Inv X pins σ H s) (k : ∀ b o, b ≠ it → s.heap.get? b = some o → h'.get? b = some o) (hn : H it = none) (hL : it ≠ X.env.locals)
    (h1 : it ∈ X.ex ∨ X.s₀.heap.objs.size ≤ it) (h2 : ∀ x c, X.env.cells.lookup x = some c → c ≠ it) (h3 : ∀ p ∈ X.pn ++ pins, p.1 ≠ it) : Inv X pins σ H { s with heap := h', toks := t' } := by
  have nit : ∀ b u, H b = some u → b ≠ it := fun b u e z => by rw [z, hn] at e; cases e
  refine I.step (g' := s.gens) (d' := s.drawn) (ch := [it]) (fun b hb => ?_) (fun b o _ _ hc e _ => k b o (fun z => hc (by simp [z])) e) (fun b o _ _ hc e _ => ⟨o.slots, k b o (fun z => hc (by simp [z])) e⟩) (fun _ _ _ _ n => n)
    (fun b o hc e => ⟨o, k b o (fun z => hc (by simp [z])) e⟩) (fun _ _ e => e) (fun _ _ _ e => e) (fun b ps e => ⟨#[], by rw [e]; simp⟩) (fun m hm => ?_) (fun b u e => ?_) I.bare
  · have e : b = it := by simpa using hb
    subst e
    exact ⟨h1, hL, h2, h3⟩
  · obtain ⟨o, es, ep, ho, r⟩ := hm
    exact ⟨o, es, ep, k _ o (Ne.symm hL) ho, r⟩
  · refine (I.hok b u e).stay (fun c v hc q => k c v ?_ q) (fun _ q => q) fun _ _ q => q
    rcases hc with z | z
    · rw [z]; exact nit b u e
    · exact nit c _ z
theorem Inv.tok (I : Inv X pins σ H s) (t : Nat) : Inv X pins σ H { s with toks := t } := I.un (h' := s.heap) (t' := t) Un.refl I.hok
/-- all objects kept -/
theorem Inv.kept {t' : Nat} (I : Inv X pins σ H s) (k : ∀ b u, s.heap.get? b = some u → h'.get? b = some u) : Inv X pins σ H { s with heap := h', toks := t' } := I.un (Un.kept k) (I.hok.kept k)
/-- a new object laid and tracked -/
theorem Inv.laid {a : Addr} {o : HO} {t' : Nat} (I : Inv X pins σ H s) (k : ∀ b u, s.heap.get? b = some u → h'.get? b = some u) (hp : s.heap.objs.size ≤ a) (new : ObjOk X.prog X.w (upd H a o) h' a o) :
    Inv X pins σ (upd H a o) { s with heap := h', toks := t' } := I.un (Un.laid k hp (I.hok.fresh hp)) (I.hok.laid k hp new)
/-- an object written -/
theorem Inv.write {x e : Addr} {o : HO} {t' : Nat} (I : Inv X pins σ H s) (mu : Mut (H x)) (he : e = x ∨ H e = some (.own x)) (k : ∀ b u, b ≠ e → s.heap.get? b = some u → h'.get? b = some u) (heo : ∃ u, h'.get? e = some u)
    (new : ObjOk X.prog X.w (upd H x o) h' x o) : Inv X pins σ (upd H x o) { s with heap := h', toks := t' } := I.un (Un.write mu he k heo) (I.hok.write mu he k heo new)
/-- forgetting slots, pins -/
theorem Inv.weak {σ' : List (Option V)} (I : Inv X pins σ H s) (hl : σ'.length = σ.length) (w : ∀ (i : Nat) v, σ'[i]? = some (some v) → σ[i]? = some (some v)) : Inv X pins σ' H s :=
  ⟨I.ok, I.os, I.bare, I.base, let ⟨m, hn, hl'⟩ := I.loc; ⟨m, hn, fun i x v e1 e2 e3 => hl' i x v e1 (w i v e2) e3⟩, I.cell, I.free, I.freeC, I.pin, I.hok, hl.trans I.len⟩
theorem Inv.pins_of {pins' : List (Addr × Obj)} (I : Inv X pins σ H s) (h : ∀ p ∈ pins', s.heap.get? p.1 = some p.2 ∧ H p.1 = none ∧ p.1 ≠ X.env.locals ∧ p.1 ∉ X.fs ∧ ∀ v, p.2.data ≠ .cell v) : Inv X pins' σ H s :=
  ⟨I.ok, I.os, I.bare, I.base, I.loc, I.cell, I.free, I.freeC, fun p hp => (List.mem_append.mp hp).elim (fun z => I.pin p (List.mem_append_left _ z)) (h p), I.hok, I.len⟩

theorem nodup_ix {N : List Str} (hN : N.Nodup) {i j : Nat} {x : Str} (a : N[i]? = some x) (b : N[j]? = some x) : i = j := by
  obtain ⟨h1, e1⟩ := List.getElem?_eq_some_iff.mp a
  obtain ⟨h2, e2⟩ := List.getElem?_eq_some_iff.mp b
  exact (List.getElem_inj hN).mp (e1.trans e2.symm)

/-- a name is stored; what changed -/
theorem store_ok2 {M : Model} {A : Around} {E : Value → Shared → Prop} {i : Nat} {x : Str} {v : V} {u : Value} {Q : Unit → Shared → Prop} (I : Inv X pins σ H s) (hN : X.N.Nodup) (hi : X.N[i]? = some x) (hx : Loc X.env.scope x) (r : RelV v u)
    (h : ∀ s', Inv X pins (σ.set i (some v)) H s' → (∃ a, Heap.SameBut a s.heap s'.heap ∧ (a = X.env.locals ∨ X.env.cells.lookup x = some a)) → Q () s') (hf : X.fn x = true ∨ X.env.scope.names.lookup x = some .local := by first | exact .inl rfl | exact .inr rfl | assumption) : wpAny M A (storeName X.env x u) Q E s := by
  obtain ⟨m, hn, hl⟩ := id I.loc
  have hcls : (X.env.scope.kind == .class || (X.env.scope.kind == .module && X.env.locals != X.env.globals)) = false := by rw [I.ok.kind]; rfl
  have hiσ : i < σ.length := by rw [I.len]; exact (List.getElem?_eq_some_iff.mp hi).1
  have cne := I.cne
  have tracked : ∀ {a : Addr} {h' : Heap}, (∃ o, s.heap.get? a = some o ∧ H a = none) → Heap.SameBut a s.heap h' → HOk X.prog X.w H h' := fun {a h'} ha hs b ob e => by
    obtain ⟨_, _, hfree⟩ := ha
    refine (I.hok b ob e).stay (fun c w' hc q => (hs.2 c ?_).trans q) (fun _ q => q) fun _ _ q => q
    rintro rfl
    rcases hc with rfl | hc
    · rw [hfree] at e; cases e
    · rw [hfree] at hc; cases hc
  rcases hx with hk | hk
  · refine wpAny_storeName_local hk hn (fun h' hn' hs => ?_) hcls
    obtain ⟨oL, _, _, hoL, _⟩ := id hn
    refine h _ ⟨I.ok, I.os, I.bare, ⟨fun b o e n hb hx => ?_, fun b o e n hb hx => ?_, I.base.free, fun b o e hx => ?_, I.base.tups, I.base.frzs, I.base.tbls⟩, ⟨_, hn', fun j y v' e1 e2 e3 => ?_⟩, fun y c e => ?_, I.free, I.freeC, fun p hp => ?_, tracked ⟨oL, hoL, I.free⟩ hs, by simpa using I.len⟩ ⟨_, hs, .inl rfl⟩
    · exact (hs.2 b (Nat.ne_of_lt (Nat.lt_of_lt_of_le (Heap.lt_size e) I.ok.above))).trans (I.base.keep b o e n hb hx)
    · obtain ⟨sl, e1⟩ := I.base.slot b o e n hb hx
      exact ⟨sl, (hs.2 b (Nat.ne_of_lt (Nat.lt_of_lt_of_le (Heap.lt_size e) I.ok.above))).trans e1⟩
    · obtain ⟨o', e1⟩ := I.base.there b o e hx
      exact ⟨o', (hs.2 b (Nat.ne_of_lt (Nat.lt_of_lt_of_le (Heap.lt_size e) I.ok.above))).trans e1⟩
    · by_cases hj : j = i
      · subst hj
        rw [hi] at e1; cases e1
        rw [List.getElem?_set_self hiσ] at e2
        cases e2
        exact ⟨u, r, .inl ⟨hk, by simp⟩⟩
      · rw [List.getElem?_set_ne (Ne.symm hj)] at e2
        obtain ⟨u', r', q⟩ := hl j y v' e1 e2 e3
        refine ⟨u', r', ?_⟩
        rcases q with ⟨k, e⟩ | ⟨k, c, e, z⟩
        · refine .inl ⟨k, ?_⟩
          have : y ≠ x := fun e => hj (nodup_ix hN e1 (e ▸ hi))
          simp [this, e]
        · exact .inr ⟨k, c, e, z.sameBut hs (cne y c e)⟩
    · obtain ⟨w', z⟩ := I.cell y c e
      exact ⟨w', z.sameBut hs (cne y c e)⟩
    · obtain ⟨e, n, ne, nf, d⟩ := I.pin p hp
      exact ⟨(hs.2 p.1 ne).trans e, n, ne, nf, d⟩
  · have hfn : X.fn x = true := by
      rcases hf with z | z
      · exact z
      · rw [z] at hk; cases hk
    obtain ⟨c, hc⟩ := I.ok.has x (.inl hk)
    obtain ⟨w', z⟩ := I.cell x c hc
    refine wpAny_storeName_cell I.ok.kind hk hc z (fun h' hc' hs => ?_)
    obtain ⟨oc, hoc, hocd⟩ := id z
    refine h { s with heap := h' } ⟨I.ok, I.os, I.bare, ⟨fun b o e n hb hx => ?_, fun b o e n hb hx => ?_, I.base.free, fun b o e hx => ?_, I.base.tups, I.base.frzs, I.base.tbls⟩, ⟨m, hn.sameBut hs (Ne.symm (cne x c hc)), fun j y v' e1 e2 e3 => ?_⟩, fun y c' e => ?_, I.free, I.freeC, fun p hp => ?_, tracked ⟨oc, hoc, I.freeC x c hc⟩ hs, by simpa using I.len⟩ ⟨c, hs, .inr hc⟩
    · exact (hs.2 b (Nat.ne_of_lt (Nat.lt_of_lt_of_le (Heap.lt_size e) (I.ok.cab x c hfn hc)))).trans (I.base.keep b o e n hb hx)
    · obtain ⟨sl, e1⟩ := I.base.slot b o e n hb hx
      exact ⟨sl, (hs.2 b (Nat.ne_of_lt (Nat.lt_of_lt_of_le (Heap.lt_size e) (I.ok.cab x c hfn hc)))).trans e1⟩
    · obtain ⟨o', e1⟩ := I.base.there b o e hx
      exact ⟨o', (hs.2 b (Nat.ne_of_lt (Nat.lt_of_lt_of_le (Heap.lt_size e) (I.ok.cab x c hfn hc)))).trans e1⟩
    · by_cases hj : j = i
      · subst hj
        rw [hi] at e1; cases e1
        rw [List.getElem?_set_self hiσ] at e2
        cases e2
        exact ⟨u, r, .inr ⟨.inl hk, c, hc, hc'⟩⟩
      · rw [List.getElem?_set_ne (Ne.symm hj)] at e2
        obtain ⟨u', r', q⟩ := hl j y v' e1 e2 e3
        refine ⟨u', r', ?_⟩
        rcases q with q | ⟨k, c', e, z'⟩
        · exact .inl q
        · refine .inr ⟨k, c', e, z'.sameBut hs ?_⟩
          rintro rfl
          exact hj (nodup_ix hN e1 (I.ok.inj _ _ _ e hc ▸ hi))
    · by_cases hcc : c' = c
      · subst hcc; exact ⟨_, hc'⟩
      · obtain ⟨w2, z2⟩ := I.cell y c' e
        exact ⟨w2, z2.sameBut hs hcc⟩
    · obtain ⟨e, n, ne, nf, d⟩ := I.pin p hp
      refine ⟨(hs.2 p.1 ?_).trans e, n, ne, nf, d⟩
      intro q
      rw [q, hoc] at e
      have q' : oc = p.2 := Option.some.inj e
      exact d w' (by rw [← q']; exact hocd)
theorem store_ok {M : Model} {A : Around} {E : Value → Shared → Prop} {i : Nat} {x : Str} {v : V} {u : Value} {Q : Unit → Shared → Prop} (I : Inv X pins σ H s) (hN : X.N.Nodup) (hi : X.N[i]? = some x) (hx : Loc X.env.scope x) (r : RelV v u)
    (h : ∀ s', Inv X pins (σ.set i (some v)) H s' → Q () s') (hf : X.fn x = true ∨ X.env.scope.names.lookup x = some .local := by first | exact .inl rfl | exact .inr rfl | assumption) : wpAny M A (storeName X.env x u) Q E s :=
  store_ok2 I hN hi hx r (fun s' I' _ => h s' I') hf
/-- behind a call or a block, the state as it is -/
theorem Inv.call' {s' : Shared} {ch : List Addr} (I : Inv X pins σ H s) (ho : s'.os = s.os) (u : Un (frs X.stack) ch H H' s.heap s'.heap) (hok : HOk X.prog X.w H' s'.heap) (hg : AllBare s'.gens)
    (hch : ∀ b ∈ ch, (b ∈ X.ex ∨ X.s₀.heap.objs.size ≤ b) ∧ b ≠ X.env.locals ∧ (∀ x c, X.env.cells.lookup x = some c → c ≠ b) ∧ ∀ p ∈ X.pn ++ pins, p.1 ≠ b) : Inv X pins σ H' s' := by
  obtain ⟨h', g', d', t', o'⟩ := s'
  have e : o' = s.os := ho
  subst e
  exact I.call (g' := g') (t' := t') (d' := d') u hok hg hch
end

/-! ### the judgements -/
/-- an exception: its class, its own dict's address (where it has one), the abstract heap behind it -/
abbrev XK := Value → Option Addr → Hp → Prop
abbrev St := List (Option V)
abbrev VK := V → Hp → Prop
/-- an expression's reading; a test's; an argument list's -/
abbrev TE := St → Hp → VK → Prop
abbrev TT := St → Hp → (Bool → Hp → Prop) → Prop
abbrev TA := St → Hp → (List V → Hp → Prop) → Prop
/-- what is wanted behind a statement -/
structure Ends where
  nx : St → Hp → Prop
  rt : VK
  bk : St → Hp → Prop := fun _ _ => False
  ct : St → Hp → Prop := fun _ _ => False
abbrev TS := Ends → St → Hp → Prop

def EP (X : Cx) (pins : List (Addr × Obj)) (σ : St) (Q : VK) (u : Value) (s' : Shared) : Prop := ∃ v H', Inv X pins σ H' s' ∧ RelV v u ∧ Q v H'
def TP (X : Cx) (pins : List (Addr × Obj)) (σ : St) (Q : Bool → Hp → Prop) (b : Bool) (s' : Shared) : Prop := ∃ H', Inv X pins σ H' s' ∧ Q b H'
def AP (X : Cx) (pins : List (Addr × Obj)) (σ : St) (Q : List V → Hp → Prop) (us : List Value) (s' : Shared) : Prop := ∃ vs H', Inv X pins σ H' s' ∧ Vals vs us ∧ Q vs H'
def SP (X : Cx) (pins : List (Addr × Obj)) (D : Ends) (f : Flow) (s' : Shared) : Prop :=
  match f with
  | .next => ∃ σ' H', Inv X pins σ' H' s' ∧ D.nx σ' H'
  | .brk => ∃ σ' H', Inv X pins σ' H' s' ∧ D.bk σ' H'
  | .cont => ∃ σ' H', Inv X pins σ' H' s' ∧ D.ct σ' H'
  | .ret u => ∃ v σ' H', Inv X pins σ' H' s' ∧ RelV v u ∧ D.rt v H'

def PE (X : Cx) (e : Expr) (t : TE) : Prop :=
  ∀ (pins : List (Addr × Obj)) (s : Shared) (σ : St) (H : Hp) (Q : VK), Inv X pins σ H s → t σ H Q → wpAny (model X.prog X.w) X.A (eval e X.env) (EP X pins σ Q) X.xe s
def PT (X : Cx) (e : Expr) (t : TT) : Prop :=
  ∀ (pins : List (Addr × Obj)) (s : Shared) (σ : St) (H : Hp) (Q : Bool → Hp → Prop), Inv X pins σ H s → t σ H Q → wpAny (model X.prog X.w) X.A (isTrue e X.env (eval e X.env)) (TP X pins σ Q) X.xe s
/-- a test whatever its 'whole' is (and, or) -/
def PW (X : Cx) (e : Expr) (t : TT) : Prop :=
  ∀ (whole : Sem Value) (pins : List (Addr × Obj)) (s : Shared) (σ : St) (H : Hp) (Q : Bool → Hp → Prop), Inv X pins σ H s → t σ H Q → wpAny (model X.prog X.w) X.A (isTrue e X.env whole) (TP X pins σ Q) X.xe s
theorem PW.pt {X : Cx} {e : Expr} {t : TT} (h : PW X e t) : PT X e t := h _
/-- an argument list (no star), from the left -/
def PA (X : Cx) (es : List Expr) (t : TA) : Prop :=
  ∀ (pos : Pos) (pins : List (Addr × Obj)) (s : Shared) (σ : St) (H : Hp) (Q : List V → Hp → Prop), Inv X pins σ H s → t σ H Q → wpAny (model X.prog X.w) X.A (spliced (backTo pos (starEach es X.env))) (AP X pins σ Q) X.xe s
def PS (X : Cx) (st : Stmt) (t : TS) : Prop :=
  ∀ (pins : List (Addr × Obj)) (s : Shared) (σ : St) (H : Hp) (D : Ends), Inv X pins σ H s → t D σ H → wpAny (model X.prog X.w) X.A (exec st X.env) (SP X pins D) X.xe s
def PSs (X : Cx) (st : List Stmt) (t : TS) : Prop :=
  ∀ (pins : List (Addr × Obj)) (s : Shared) (σ : St) (H : Hp) (D : Ends), Inv X pins σ H s → t D σ H → wpAny (model X.prog X.w) X.A (execs st X.env) (SP X pins D) X.xe s
/-- weaken the end -/
theorem thn {α : Type} {t : Sem α} {Q Q' : α → Shared → Prop} {M : Model} {A : Around} {E : Value → Shared → Prop} {s : Shared} (h : wpAny M A t Q E s) (hQ : ∀ a s, Q a s → Q' a s) : wpAny M A t Q' E s := wpAny_mono h hQ fun _ _ x => x
end L2

namespace L2
open PySem PySem.Spec PyProof.Rows
section
variable {X : Cx}

/-- two expressions in a row -/
theorem bin {a b : Expr} {ta tb : TE} (ha : PE X a ta) (hb : PE X b tb) {pins : List (Addr × Obj)} {s : Shared} {σ : St} {H : Hp} {R : V → V → Hp → Prop} (I : Inv X pins σ H s) (h : ta σ H fun x H1 => tb σ H1 fun y H2 => R x y H2)
    {α : Type} {Q : α → Shared → Prop} {f : Value → Value → Sem α}
    (hf : ∀ v u s2 x y H2, Inv X pins σ H2 s2 → RelV x v → RelV y u → R x y H2 → wpAny (model X.prog X.w) X.A (f v u) Q X.xe s2) :
    wpAny (model X.prog X.w) X.A (eval a X.env) (fun v s₁ => wpAny (model X.prog X.w) X.A (eval b X.env) (fun u s₂ => wpAny (model X.prog X.w) X.A (f v u) Q X.xe s₂) X.xe s₁) X.xe s := by
  refine thn (ha pins s σ H _ I h) fun v s1 ⟨x, H1, I1, r1, q1⟩ => ?_
  refine thn (hb pins s1 σ H1 _ I1 q1) fun u s2 ⟨y, H2, I2, r2, q2⟩ => ?_
  exact hf v u s2 x y H2 I2 r1 r2 q2

/-! ### names and constants -/
def tVar (i : Nat) : TE := fun σ H Q => ∃ v, σ[i]? = some (some v) ∧ Q v H
def tC (v : V) : TE := fun _ H Q => Q v H
theorem pe_var {i : Nat} {x : Str} {pos : Pos} (hN : X.N[i]? = some x) (hv : Vis X.env.scope x) (hd : (x == ("__debug__" : Str)) = false := by decide) (hcd : (x == ("__classdict__" : Str)) = false := by decide) : PE X (.Name x pos) (tVar i) := by
  intro pins s σ H Q I h
  obtain ⟨v, e, h⟩ := h
  obtain ⟨m, hn, hl⟩ := I.loc
  obtain ⟨u, r, l⟩ := hl i x v hN e hv
  have fin : EP X pins σ Q u s := ⟨v, H, I, r, h⟩
  rcases l with ⟨hk, hm⟩ | ⟨hk, c, hc, hcell⟩
  · exact wpAny_Name (wpAny_loadName_local I.ok.kind hk hn hm fin) hd
  · rcases hk with hk | hk
    · exact wpAny_Name (wpAny_loadName_cell I.ok.kind hk hc hcell fin) hd
    · exact wpAny_Name (wpAny_loadName_free I.ok.kind hk hc hcell fin hcd) hd
theorem pe_int {i j pos} : PE X (.Constant (.int i) j pos) (tC (.int i)) := fun _ _ _ H _ I h => wpAny_Constant_int ⟨.int i, H, I.tok _, ⟨_, rfl⟩, h⟩
theorem pe_bl {b j pos} : PE X (.Constant (.bool b) j pos) (tC (.bl b)) := fun _ _ _ H _ I h => Constant_bool ⟨.bl b, H, I, rfl, h⟩
theorem pe_non {j pos} : PE X (.Constant .none j pos) (tC .non) := fun _ _ _ H _ I h => Constant_none ⟨.non, H, I, rfl, h⟩
theorem pe_str {x j pos} : PE X (.Constant (.str x) j pos) (tC (.str x)) := fun _ _ _ H _ I h => Calls.Constant_str ⟨.str x, H, I.tok _, ⟨_, rfl⟩, h⟩

/-- a global name of the def -/
def Gl (X : Cx) (x : Str) : Prop := X.env.kindOf x = some .globalImplicit
theorem ld_glob {E : Value → Shared → Prop} {pins : List (Addr × Obj)} {s : Shared} {σ : St} {H : Hp} {x : Str} {u : Value} {pos : Pos} {Q : Value → Shared → Prop} (I : Inv X pins σ H s) (hg : Gl X x) (hm : X.mg x = some u) (h : Q u s)
    (hd : (x == ("__debug__" : Str)) = false := by decide) : wpAny (model X.prog X.w) X.A (eval (.Name x pos) X.env) Q E s :=
  Calls.Name_function_global I.ok.kind hg (Calls.loadGlobal_global (by rw [I.ok.glob]; exact I.mod.glob.keeps I.bk) hm h) hd
theorem ld_blt {E : Value → Shared → Prop} {pins : List (Addr × Obj)} {s : Shared} {σ : St} {H : Hp} {x : Str} {u : Value} {pos : Pos} {Q : Value → Shared → Prop} (I : Inv X pins σ H s) (hg : Gl X x) (hm : X.mg x = none) (hv : bootBuiltins x = some u) (h : Q u s)
    (hn : x ≠ "__name__" := by decide) (hd : (x == ("__debug__" : Str)) = false := by decide) : wpAny (model X.prog X.w) X.A (eval (.Name x pos) X.env) Q E s := by
  obtain ⟨mb, h1, h2⟩ := I.mod.blt
  exact Calls.Name_function_global I.ok.kind hg (Calls.loadGlobal_builtin (by rw [I.ok.glob]; exact I.mod.glob.keeps I.bk) hm (by rw [I.ok.blt]; exact h1.keeps I.bk) ((h2 x hn).trans hv) h) hd
/-- a module's constant, a class, a function, as a value -/
theorem pe_glob {x : Str} {v : V} {u : Value} {pos : Pos} (hg : Gl X x) (hm : X.mg x = some u) (r : RelV v u) (hd : (x == ("__debug__" : Str)) = false := by decide) : PE X (.Name x pos) (tC v) :=
  fun _ _ _ H _ I h => ld_glob I hg hm ⟨v, H, I, r, h⟩ hd
theorem pe_bltn {x : Str} {v : V} {u : Value} {pos : Pos} (hg : Gl X x) (hm : X.mg x = none) (hv : bootBuiltins x = some u) (r : RelV v u) (hn : x ≠ "__name__" := by decide) (hd : (x == ("__debug__" : Str)) = false := by decide) : PE X (.Name x pos) (tC v) :=
  fun _ _ _ H _ I h => ld_blt I hg hm hv ⟨v, H, I, r, h⟩ hn hd

/-! ### arithmetic -/
/-- two ints -/
def t2I (ta tb : TE) (k : Int → Int → Hp → Prop) : St → Hp → Prop := fun σ H => ta σ H fun x H1 => tb σ H1 fun y H2 => ∃ i j, x = .int i ∧ y = .int j ∧ k i j H2
def tAdd (ta tb : TE) : TE := fun σ H Q => t2I ta tb (fun i j H2 => Q (.int (i + j)) H2) σ H
def tSub (ta tb : TE) : TE := fun σ H Q => t2I ta tb (fun i j H2 => Q (.int (i - j)) H2) σ H
/-- the left factor below 2^64 -/
def tMul (ta tb : TE) : TE := fun σ H Q => t2I ta tb (fun i j H2 => (-(2 ^ 64) < i ∧ i < 2 ^ 64) ∧ Q (.int (i * j)) H2) σ H
variable {a b : Expr} {ta tb : TE} {pos : Pos}
theorem pe_add (ha : PE X a ta) (hb : PE X b tb) : PE X (.BinOp a .Add b pos) (tAdd ta tb) := by
  intro pins s σ H Q I h
  refine wpAny_BinOp (bin ha hb I h fun v u s2 x y H2 I2 rx ry q => ?_)
  obtain ⟨i, j, rfl, rfl, q⟩ := q
  obtain ⟨t, rfl⟩ := rx
  obtain ⟨t', rfl⟩ := ry
  exact add_int ⟨.int _, H2, I2.tok _, ⟨_, rfl⟩, q⟩
theorem pe_sub (ha : PE X a ta) (hb : PE X b tb) : PE X (.BinOp a .Sub b pos) (tSub ta tb) := by
  intro pins s σ H Q I h
  refine wpAny_BinOp (bin ha hb I h fun v u s2 x y H2 I2 rx ry q => ?_)
  obtain ⟨i, j, rfl, rfl, q⟩ := q
  obtain ⟨t, rfl⟩ := rx
  obtain ⟨t', rfl⟩ := ry
  exact sub_int ⟨.int _, H2, I2.tok _, ⟨_, rfl⟩, q⟩
theorem pe_mul (ha : PE X a ta) (hb : PE X b tb) : PE X (.BinOp a .Mult b pos) (tMul ta tb) := by
  intro pins s σ H Q I h
  refine wpAny_BinOp (bin ha hb I h fun v u s2 x y H2 I2 rx ry q => ?_)
  obtain ⟨i, j, rfl, rfl, ⟨q1, q2⟩, q⟩ := q
  obtain ⟨t, rfl⟩ := rx
  obtain ⟨t', rfl⟩ := ry
  exact mul_int ⟨.int _, H2, I2.tok _, ⟨_, rfl⟩, q⟩ (.of_left (intBits_le_64 q1 q2))

/-! ### comparisons -/
def PC (X : Cx) (op : CmpOp) (a b : Expr) (t : TE) : Prop :=
  ∀ (pins : List (Addr × Obj)) (s : Shared) (σ : St) (H : Hp) (Q : VK), Inv X pins σ H s → t σ H Q →
    wpAny (model X.prog X.w) X.A (eval a X.env) (fun v s₁ => wpAny (model X.prog X.w) X.A (eval b X.env) (fun u s₂ => wpAny (model X.prog X.w) X.A (compareOp op v u) (EP X pins σ Q) X.xe s₂) X.xe s₁) X.xe s
theorem nobehind (b : Expr) {op : CmpOp} (h : op ≠ .In) (h2 : op ≠ .NotIn) : behindInMarks op b = false := by
  have e1 : (op == CmpOp.In) = false := by cases op <;> first | rfl | exact absurd rfl h
  have e2 : (op == CmpOp.NotIn) = false := by cases op <;> first | rfl | exact absurd rfl h2
  cases b <;> simp [behindInMarks, e1, e2]
def tCmp (p : Int → Int → Bool) (ta tb : TE) : TE := fun σ H Q => t2I ta tb (fun i j H2 => Q (.bl (p i j)) H2) σ H
abbrev tLt : TE → TE → TE := tCmp fun i j => decide (i < j)
abbrev tLe : TE → TE → TE := tCmp fun i j => decide (i ≤ j)
abbrev tGt : TE → TE → TE := tCmp fun i j => decide (j < i)
abbrev tGe : TE → TE → TE := tCmp fun i j => decide (j ≤ i)
abbrev tEqI : TE → TE → TE := tCmp fun i j => decide (i = j)
abbrev tNeI : TE → TE → TE := tCmp fun i j => !decide (i = j)
/-- a comparison of two ints, by its rule -/
theorem pc_int {op : CmpOp} {p : Int → Int → Bool} (ha : PE X a ta) (hb : PE X b tb)
    (rule : ∀ (i j : Int) (t u : Tok) (Q : Value → Shared → Prop) (s : Shared), Q (.bool (p i j)) s → wpAny (model X.prog X.w) X.A (compareOp op (.int i t) (.int j u)) Q X.xe s) : PC X op a b (tCmp p ta tb) := by
  intro pins s σ H Q I h
  refine bin ha hb I h fun v u s2 x y H2 I2 rx ry q => ?_
  obtain ⟨i, j, rfl, rfl, q⟩ := q
  obtain ⟨t, rfl⟩ := rx
  obtain ⟨t', rfl⟩ := ry
  exact rule i j t t' _ s2 ⟨.bl _, H2, I2, rfl, q⟩
theorem pc_lt (ha : PE X a ta) (hb : PE X b tb) : PC X .Lt a b (tLt ta tb) := pc_int ha hb fun _ _ _ _ _ _ h => lt_int h
theorem pc_le (ha : PE X a ta) (hb : PE X b tb) : PC X .LtE a b (tLe ta tb) := pc_int ha hb fun _ _ _ _ _ _ h => le_int h
theorem pc_gt (ha : PE X a ta) (hb : PE X b tb) : PC X .Gt a b (tGt ta tb) := pc_int ha hb fun _ _ _ _ _ _ h => gt_int h
theorem pc_ge (ha : PE X a ta) (hb : PE X b tb) : PC X .GtE a b (tGe ta tb) := pc_int ha hb fun _ _ _ _ _ _ h => ge_int h
theorem pc_eqI (ha : PE X a ta) (hb : PE X b tb) : PC X .Eq a b (tEqI ta tb) := pc_int ha hb fun _ _ _ _ _ _ h => eq_int (by rw [Bool.beq_eq_decide_eq]; exact h)
theorem pc_neI (ha : PE X a ta) (hb : PE X b tb) : PC X .NotEq a b (tNeI ta tb) := pc_int ha hb fun _ _ _ _ _ _ h => ne_int (by rw [bne, Bool.beq_eq_decide_eq]; exact h)
/-- is None -/
def tIsN (ta : TE) : TE := fun σ H Q => ta σ H fun x H1 => Q (.bl (decide (x = .non))) H1
def tNotN (ta : TE) : TE := fun σ H Q => ta σ H fun x H1 => Q (.bl (!decide (x = .non))) H1
theorem RelV.none_iff {x : V} {v : Value} (r : RelV x v) : (v == Value.none) = decide (x = .non) := by
  cases x with
  | non => cases r; rfl
  | bl _ => cases r; rfl
  | int _ => obtain ⟨t, rfl⟩ := r; rfl
  | str _ => obtain ⟨t, rfl⟩ := r; rfl
  | byt _ => obtain ⟨t, rfl⟩ := r; rfl
  | flt _ => obtain ⟨t, rfl⟩ := r; rfl
  | ref _ => cases r; rfl
  | ty _ => cases r; rfl
theorem pc_isN {j pos'} (ha : PE X a ta) : PC X .Is a (.Constant .none j pos') (tIsN ta) := by
  intro pins s σ H Q I h
  refine thn (ha pins s σ H _ I h) fun v s1 ⟨x, H1, I1, r1, q1⟩ => ?_
  exact Constant_none (is_none_gen ⟨.bl _, H1, I1, by rw [r1.none_iff]; rfl, q1⟩)
theorem pc_notN {j pos'} (ha : PE X a ta) : PC X .IsNot a (.Constant .none j pos') (tNotN ta) := by
  intro pins s σ H Q I h
  refine thn (ha pins s σ H _ I h) fun v s1 ⟨x, H1, I1, r1, q1⟩ => ?_
  exact Constant_none (isnot_none_gen ⟨.bl _, H1, I1, by rw [r1.none_iff]; rfl, q1⟩)
/-- a comparison as a value, as a test -/
def tB (t : TE) : TT := fun σ H Q => t σ H fun x H1 => ∃ c, x = .bl c ∧ Q c H1
theorem pe_cmp {op : CmpOp} {t : TE} (h : PC X op a b t) (h1 : behindInMarks op b = false := by first | exact nobehind _ (by decide) (by decide) | rfl) : PE X (.Compare a [op] [b] pos) t := fun pins s σ H Q I hw => wpAny_Compare1 (h pins s σ H Q I hw) h1
theorem pt_cmp {op : CmpOp} {t : TE} (h : PC X op a b t) (h1 : behindInMarks op b = false := by first | exact nobehind _ (by decide) (by decide) | rfl) : PT X (.Compare a [op] [b] pos) (tB t) := by
  intro pins s σ H Q I hw
  refine wpAny_isTrue_Compare1 (thn (h pins s σ H _ I hw) fun v s1 h1 => thn h1 fun u s2 h2 => thn h2 fun c s3 ⟨x, H1, I1, r1, q1⟩ => ?_) h1
  obtain ⟨d, rfl, q⟩ := q1
  cases r1
  exact wpAny_truthy_bool ⟨H1, I1, q⟩
/-- an expression whose value is a bool, as a test -/
theorem pt_val {e : Expr} {t : TE} (h : PE X e t) (he : ∀ whole, isTrue e X.env whole = (do let v ← whole; standAt e.pos; holding [v] (truthy v)) := by intro _; rfl) : PT X e (tB t) := by
  intro pins s σ H Q I hw
  refine isTrue_plain (thn (h pins s σ H _ I hw) fun v s1 ⟨x, H1, I1, r1, q1⟩ => ?_) (he _)
  obtain ⟨d, rfl, q⟩ := q1
  cases r1
  exact wpAny_truthy_bool ⟨H1, I1, q⟩

/-! ### and, or, not -/
variable {tA tB' : TT} {rest : List Expr}
def tAnd (t u : TT) : TT := fun σ H Q => t σ H fun c H1 => if c = true then u σ H1 Q else Q false H1
def tOr (t u : TT) : TT := fun σ H Q => t σ H fun c H1 => if c = true then Q true H1 else u σ H1 Q
def tNot (t : TT) : TT := fun σ H Q => t σ H fun c H1 => Q (!c) H1
theorem pw_and1 (ha : PT X a tA) : PW X (.BoolOp .And [a] pos) tA := by
  intro wh pins s σ H Q I h
  refine isTrue_and (thn (ha pins s σ H Q I h) fun c s1 e => ?_)
  cases c with
  | true => exact isTrue_and_nil e
  | false => exact e
theorem pw_or1 (ha : PT X a tA) : PW X (.BoolOp .Or [a] pos) tA := by
  intro wh pins s σ H Q I h
  refine isTrue_or (thn (ha pins s σ H Q I h) fun c s1 e => ?_)
  cases c with
  | false => exact isTrue_or_nil e
  | true => exact e
theorem pw_and (ha : PT X a tA) (hb : PW X (.BoolOp .And (b :: rest) pos) tB') : PW X (.BoolOp .And (a :: b :: rest) pos) (tAnd tA tB') := by
  intro wh pins s σ H Q I h
  refine isTrue_and (thn (ha pins s σ H _ I h) fun c s1 ⟨H1, I1, q1⟩ => ?_)
  cases c with
  | true => exact hb wh pins s1 σ H1 Q I1 q1
  | false => exact ⟨H1, I1, q1⟩
theorem pw_or (ha : PT X a tA) (hb : PW X (.BoolOp .Or (b :: rest) pos) tB') : PW X (.BoolOp .Or (a :: b :: rest) pos) (tOr tA tB') := by
  intro wh pins s σ H Q I h
  refine isTrue_or (thn (ha pins s σ H _ I h) fun c s1 ⟨H1, I1, q1⟩ => ?_)
  cases c with
  | true => exact ⟨H1, I1, q1⟩
  | false => exact hb wh pins s1 σ H1 Q I1 q1
theorem pt_not (ha : PT X a tA) : PT X (.UnaryOp .Not a pos) (tNot tA) := by
  intro pins s σ H Q I h
  exact isTrue_not (ha pins s σ H (fun c H1 => Q (!c) H1) I h)
/-- .. as values (bools) -/
def tAndV (ta tb : TE) : TE := fun σ H Q => ta σ H fun x H1 => ∃ c, x = .bl c ∧ if c = true then tb σ H1 Q else Q (.bl false) H1
def tOrV (ta tb : TE) : TE := fun σ H Q => ta σ H fun x H1 => ∃ c, x = .bl c ∧ if c = true then Q (.bl true) H1 else tb σ H1 Q
def tNotV (ta : TE) : TE := fun σ H Q => ta σ H fun x H1 => ∃ c, x = .bl c ∧ Q (.bl (!c)) H1
theorem pe_one {op} {t : TE} (h : PE X a t) : PE X (.BoolOp op [a] pos) t := fun pins s σ H Q I hw => BoolOp_one (h pins s σ H Q I hw)
theorem pe_and (ha : PE X a ta) (hb : PE X (.BoolOp .And (b :: rest) pos) tb) : PE X (.BoolOp .And (a :: b :: rest) pos) (tAndV ta tb) := by
  intro pins s σ H Q I h
  refine BoolOp_and (thn (ha pins s σ H _ I h) fun v s1 ⟨x, H1, I1, r1, q1⟩ => ?_)
  obtain ⟨c, rfl, q1⟩ := q1
  cases r1
  refine wpAny_truthy_bool ?_
  cases c with
  | true => exact hb pins s1 σ H1 Q I1 q1
  | false => exact ⟨.bl false, H1, I1, rfl, q1⟩
theorem pe_or (ha : PE X a ta) (hb : PE X (.BoolOp .Or (b :: rest) pos) tb) : PE X (.BoolOp .Or (a :: b :: rest) pos) (tOrV ta tb) := by
  intro pins s σ H Q I h
  refine BoolOp_or (thn (ha pins s σ H _ I h) fun v s1 ⟨x, H1, I1, r1, q1⟩ => ?_)
  obtain ⟨c, rfl, q1⟩ := q1
  cases r1
  refine wpAny_truthy_bool ?_
  cases c with
  | false => exact hb pins s1 σ H1 Q I1 q1
  | true => exact ⟨.bl true, H1, I1, rfl, q1⟩
theorem pe_not (ha : PE X a ta) : PE X (.UnaryOp .Not a pos) (tNotV ta) := by
  intro pins s σ H Q I h
  refine UnaryOp_ (thn (ha pins s σ H _ I h) fun v s1 ⟨x, H1, I1, r1, q1⟩ => ?_)
  obtain ⟨c, rfl, q1⟩ := q1
  cases r1
  exact not_of (wpAny_truthy_bool ⟨.bl (!c), H1, I1, rfl, q1⟩)
/-- a if t else b -/
def tIf (t : TT) (ta tb : TE) : TE := fun σ H Q => t σ H fun c H1 => if c = true then ta σ H1 Q else tb σ H1 Q
theorem pe_ifExp {c : Expr} (hc : PT X c tA) (ha : PE X a ta) (hb : PE X b tb) : PE X (.IfExp c a b pos) (tIf tA ta tb) := by
  intro pins s σ H Q I h
  refine wpAny_IfExp (thn (hc pins s σ H _ I h) fun d s1 ⟨H1, I1, q1⟩ => ?_)
  cases d with
  | true => exact ha pins s1 σ H1 Q I1 q1
  | false => exact hb pins s1 σ H1 Q I1 q1
end
end L2

namespace L2
open PySem PySem.Spec PyProof.Rows

/-! ### a list, a tuple that is read: tracked, frozen, or an object of the module -/
def SqL (K : PySem.W.Frag) (H : Hp) (a : Addr) (xs : List V) : Prop :=
  Rd H a (.lst xs) ∨
    ∃ (o : Obj) (its : Array Value) (n : Nat), K.lookup a = some o ∧ o.cls = .type "list" ∧ o.dict = none ∧ o.data = .seq its n ∧ its.size ≤ sizeLine ∧ Vals xs its.toList
def SqT (K : PySem.W.Frag) (H : Hp) (a : Addr) (xs : List V) : Prop :=
  Rd H a (.tup xs) ∨
    ∃ (o : Obj) (its : Array Value) (n : Nat), K.lookup a = some o ∧ o.cls = .type "tuple" ∧ o.data = .seq its n ∧ its.size ≤ sizeLine ∧ Vals xs its.toList
def absV : Value → Option V
  | .none => some .non
  | .bool b => some (.bl b)
  | .int i _ => some (.int i)
  | .str x _ => some (.str x)
  | .bytes b _ => some (.byt b)
  | .float b _ => some (.flt b)
  | .ref a => some (.ref a)
  | .type n => some (.ty n)
  | _ => none
theorem RelV.abs {x : V} {u : Value} (r : RelV x u) : absV u = some x := by
  cases x with
  | non => cases r; rfl
  | bl _ => cases r; rfl
  | int _ => obtain ⟨t, rfl⟩ := r; rfl
  | str _ => obtain ⟨t, rfl⟩ := r; rfl
  | byt _ => obtain ⟨t, rfl⟩ := r; rfl
  | flt _ => obtain ⟨t, rfl⟩ := r; rfl
  | ref _ => cases r; rfl
  | ty _ => cases r; rfl
theorem RelV.inj {x y : V} {u : Value} (r : RelV x u) (q : RelV y u) : x = y := Option.some.inj (r.abs.symm.trans q.abs)
theorem Vals.inj : ∀ {xs ys : List V} {us : List Value}, Vals xs us → Vals ys us → xs = ys
  | _, _, _, .nil, .nil => rfl
  | _, _, _, .cons r t, .cons r' t' => by rw [r.inj r', Vals.inj t t']
section
variable {X : Cx} {pins : List (Addr × Obj)} {σ : St} {H : Hp} {s : Shared} {a : Addr} {xs ys : List V}
theorem SqL.of {K : PySem.W.Frag} (h : H a = some (.lst xs)) : SqL K H a xs := .inl (.inl h)
theorem SqT.of {K : PySem.W.Frag} (h : H a = some (.tup xs)) : SqT K H a xs := .inl (.inl h)
theorem Inv.list (I : Inv X pins σ H s) (h : SqL X.K H a xs) : ∃ its : List Value, Vals xs its ∧ PlainL s.heap a its.toArray ∧ xs.length ≤ sizeLine := by
  rcases h with h | ⟨o, its, n, hk, hc, hd, hs, hz, r⟩
  · obtain ⟨z, its, n, r, e⟩ := h.ok I.hok
    exact ⟨its, r, ⟨_, n, e, rfl, rfl, rfl⟩, z⟩
  · refine ⟨its.toList, r, ⟨o, n, I.kIn a o hk, hc, hd, by simpa using hs⟩, ?_⟩
    have e := r.length
    simp only [Array.length_toList] at e
    omega
theorem Inv.tuple (I : Inv X pins σ H s) (h : SqT X.K H a xs) : ∃ its : List Value, Vals xs its ∧ IsTup s.heap a its.toArray ∧ xs.length ≤ sizeLine := by
  rcases h with h | ⟨o, its, n, hk, hc, hs, hz, r⟩
  · obtain ⟨z, its, r, p⟩ := h.ok I.hok
    exact ⟨its, r, p, z⟩
  · refine ⟨its.toList, r, ⟨o, I.kIn a o hk, hc, n, by simpa using hs⟩, ?_⟩
    have e := r.length
    simp only [Array.length_toList] at e
    omega
theorem Inv.list_inj (I : Inv X pins σ H s) (h : SqL X.K H a xs) (h' : SqL X.K H a ys) : xs = ys := by
  obtain ⟨its, r, ⟨o, n, e, _, _, d⟩, _⟩ := I.list h
  obtain ⟨its', r', ⟨o', n', e', _, _, d'⟩, _⟩ := I.list h'
  rw [e] at e'; cases e'
  rw [d] at d'
  injection d' with d1 _
  have : its = its' := by simpa using congrArg Array.toList d1
  subst this
  exact r.inj r'
theorem Inv.tuple_inj (I : Inv X pins σ H s) (h : SqT X.K H a xs) (h' : SqT X.K H a ys) : xs = ys := by
  obtain ⟨its, r, ⟨o, e, _, n, d⟩, _⟩ := I.tuple h
  obtain ⟨its', r', ⟨o', e', _, n', d'⟩, _⟩ := I.tuple h'
  rw [e] at e'; cases e'
  rw [d] at d'
  injection d' with d1 _
  have : its = its' := by simpa using congrArg Array.toList d1
  subst this
  exact r.inj r'
end

/-! ### another wish about exceptions -/
abbrev Cx.wish (X : Cx) (E : Value → Shared → Prop) : Cx := { X with xe := E }
/-- no exception leaves -/
abbrev Cx.nox (X : Cx) : Cx := X.wish fun _ _ => False
theorem Cx.Ok.wish {X : Cx} (ok : X.Ok) (E : Value → Shared → Prop) : (X.wish E).Ok :=
  ⟨ok.mod, ok.kind, ok.glob, ok.blt, ok.above, ok.inj, ok.has, ok.cab, ok.hd, ok.frames, ok.stk, ok.exf, ok.bs, ok.bsz, ok.noex, ok.exfs, ok.funs, ok.frf⟩
theorem Cx.Ok.unwish {X : Cx} {E : Value → Shared → Prop} (ok : (X.wish E).Ok) : X.Ok :=
  ⟨ok.mod, ok.kind, ok.glob, ok.blt, ok.above, ok.inj, ok.has, ok.cab, ok.hd, ok.frames, ok.stk, ok.exf, ok.bs, ok.bsz, ok.noex, ok.exfs, ok.funs, ok.frf⟩
section
variable {X : Cx} {pins : List (Addr × Obj)} {σ : St} {H : Hp} {s : Shared} {E : Value → Shared → Prop}
theorem Inv.wish (I : Inv X pins σ H s) (E : Value → Shared → Prop) : Inv (X.wish E) pins σ H s := ⟨I.ok.wish E, I.os, I.bare, I.base, I.loc, I.cell, I.free, I.freeC, I.pin, I.hok, I.len⟩
theorem Inv.unwish (I : Inv (X.wish E) pins σ H s) : Inv X pins σ H s := ⟨I.ok.unwish, I.os, I.bare, I.base, I.loc, I.cell, I.free, I.freeC, I.pin, I.hok, I.len⟩
theorem SP.unwish {D : Ends} {f : Flow} {s' : Shared} (h : SP (X.wish E) pins D f s') : SP X pins D f s' := by
  cases f with
  | next => obtain ⟨σ', H', I, q⟩ := h; exact ⟨σ', H', I.unwish, q⟩
  | brk => obtain ⟨σ', H', I, q⟩ := h; exact ⟨σ', H', I.unwish, q⟩
  | cont => obtain ⟨σ', H', I, q⟩ := h; exact ⟨σ', H', I.unwish, q⟩
  | ret u => obtain ⟨v, σ', H', I, r, q⟩ := h; exact ⟨v, σ', H', I.unwish, r, q⟩
theorem PE.nox {e : Expr} {t : TE} (h : PE X.nox e t) : PE X e t := fun pins s σ H Q I hw =>
  wpAny_mono (h pins s σ H Q (I.wish _) hw) (fun _ _ ⟨v, H', I', r, q⟩ => ⟨v, H', I'.unwish, r, q⟩) fun _ _ z => False.elim z
theorem PT.nox {e : Expr} {t : TT} (h : PT X.nox e t) : PT X e t := fun pins s σ H Q I hw =>
  wpAny_mono (h pins s σ H Q (I.wish _) hw) (fun _ _ ⟨H', I', q⟩ => ⟨H', I'.unwish, q⟩) fun _ _ z => False.elim z
theorem PSs.nox {st : List Stmt} {t : TS} (h : PSs X.nox st t) : PSs X st t := fun pins s σ H D I hw =>
  wpAny_mono (h pins s σ H D (I.wish _) hw) (fun _ _ q => q.unwish) fun _ _ z => False.elim z
end

/-! ### blocks and small statements -/
section
variable {X : Cx} {st : Stmt} {rest : List Stmt} {t u : TS} {e : Expr} {te : TE} {pos : Pos}
def tNext : TS := fun D σ H => D.nx σ H
def tSeq (t u : TS) : TS := fun D σ H => t { D with nx := u D } σ H
theorem pss_nil : PSs X [] tNext := fun _ _ σ H _ I h => wpAny_execs_nil ⟨σ, H, I, h⟩
theorem pss_cons (h1 : PS X st t) (h2 : PSs X rest u) : PSs X (st :: rest) (tSeq t u) := by
  intro pins s σ H D I h
  refine wpAny_execs_cons (thn (h1 pins s σ H { D with nx := u D } I h) fun f s1 q => ?_)
  cases f with
  | next =>
    obtain ⟨σ', H', I', q⟩ := q
    exact h2 pins s1 σ' H' D I' q
  | ret v => exact q
  | brk => exact q
  | cont => exact q
theorem pss_one (h1 : PS X st t) : PSs X [st] t := by
  intro pins s σ H D I h
  refine wpAny_execs_cons (thn (h1 pins s σ H D I h) fun f s1 q => ?_)
  cases f with
  | next => exact wpAny_execs_nil q
  | ret v => exact q
  | brk => exact q
  | cont => exact q
def tBreak : TS := fun D σ H => D.bk σ H
def tCont : TS := fun D σ H => D.ct σ H
theorem ps_pass : PS X (.Pass pos) tNext := fun _ _ σ H _ I h => wpAny_Pass ⟨σ, H, I, h⟩
theorem ps_break : PS X (.Break pos) tBreak := fun _ _ σ H _ I h => wpAny_Break ⟨σ, H, I, h⟩
theorem ps_continue : PS X (.Continue pos) tCont := fun _ _ σ H _ I h => wpAny_Continue ⟨σ, H, I, h⟩
/-- in a def's body nothing is shown -/
theorem Inv.quiet {pins : List (Addr × Obj)} {σ : St} {H : Hp} {s : Shared} (I : Inv X pins σ H s) : interactive X.env = false := by simp [interactive, I.ok.kind]
/-- a docstring -/
theorem ps_doc {x j pos pos'} : PS X (.Expr (.Constant (.str x) j pos) pos') tNext := fun _ s σ H _ I h => wpAny_Expr (Calls.Constant_str (show SP X _ _ .next { s with toks := s.toks + 1 } from ⟨σ, H, I.tok _, h⟩)) I.quiet
/-- an expression whose value is dropped -/
def tDrop (te : TE) : TS := fun D σ H => te σ H fun _ H1 => D.nx σ H1
theorem ps_expr (he : PE X e te) (hs : swapsWith e none pos.line X.env = pure false := by rfl) : PS X (.Expr e pos) (tDrop te) := by
  intro pins s σ H D I h
  exact wpAny_Expr_any (thn (he pins s σ H _ I h) fun v s1 ⟨x, H1, I1, r1, q1⟩ => ⟨σ, H1, I1, q1⟩) I.quiet hs
def tRet (te : TE) : TS := fun D σ H => te σ H D.rt
theorem ps_ret (he : PE X e te) : PS X (.Return (some e) pos) (tRet te) := by
  intro pins s σ H D I h
  exact wpAny_Return_some (thn (he pins s σ H _ I h) fun v s1 ⟨x, H1, I1, r1, q1⟩ => ⟨x, σ, H1, I1, r1, q1⟩)
def tRetN : TS := fun D _ H => D.rt .non H
theorem ps_retN : PS X (.Return none pos) tRetN := fun _ _ σ H _ I h => wpAny_Return_none ⟨.non, σ, H, I, rfl, h⟩
def tIfS (c : TT) (t u : TS) : TS := fun D σ H => c σ H fun b H1 => if b = true then t D σ H1 else u D σ H1
theorem ps_if {c : Expr} {a b : List Stmt} {tc : TT} (hc : PT X c tc) (ha : PSs X a t) (hb : PSs X b u) : PS X (.If c a b pos) (tIfS tc t u) := by
  intro pins s σ H D I h
  refine wpAny_If (thn (hc pins s σ H _ I h) fun d s1 ⟨H1, I1, q1⟩ => ?_)
  cases d with
  | true => exact ha pins s1 σ H1 D I1 q1
  | false => exact hb pins s1 σ H1 D I1 q1
/-- code that the proof never comes to -/
def tNever : TS := fun _ _ _ => False
theorem ps_never : PS X st tNever := fun _ _ _ _ _ _ h => h.elim
theorem pss_never {sts : List Stmt} : PSs X sts tNever := fun _ _ _ _ _ _ h => h.elim
end

/-! ### targets -/
abbrev TG := V → St → Hp → (St → Hp → Prop) → Prop
abbrev TGs := List V → St → Hp → (St → Hp → Prop) → Prop
def PG (X : Cx) (target : Expr) (t : TG) : Prop :=
  ∀ (pins : List (Addr × Obj)) (s : Shared) (σ : St) (H : Hp) (v : V) (u : Value) (Q : St → Hp → Prop), Inv X pins σ H s → RelV v u → t v σ H Q →
    wpAny (model X.prog X.w) X.A (assign target X.env u) (fun _ s' => ∃ σ' H', Inv X pins σ' H' s' ∧ Q σ' H') X.xe s
/-- several targets, one after another -/
def PGs (X : Cx) (ts : List Expr) (t : TGs) : Prop :=
  ∀ (pins : List (Addr × Obj)) (s : Shared) (σ : St) (H : Hp) (vs : List V) (us : List Value) (Q : St → Hp → Prop), Inv X pins σ H s → Vals vs us → t vs σ H Q →
    wpAny (model X.prog X.w) X.A (assignInOrder ((assignEach ts X.env).map (·.2)) us) (fun _ s' => ∃ σ' H', Inv X pins σ' H' s' ∧ Q σ' H') X.xe s
/-- o[i] = v, by values -/
abbrev TSet := V → V → V → Hp → (Hp → Prop) → Prop
def PSet (X : Cx) (t : TSet) : Prop :=
  ∀ (pins : List (Addr × Obj)) (s : Shared) (σ : St) (H : Hp) (o i v : V) (ov iv u : Value) (Q : Hp → Prop), Inv X pins σ H s → RelV o ov → RelV i iv → RelV v u → t o i v H Q →
    wpAny (model X.prog X.w) X.A (setItem ov iv u) (fun _ s' => ∃ H', Inv X pins σ H' s' ∧ Q H') X.xe s
/-- a op= b, by values -/
abbrev TIp := V → V → Hp → VK → Prop
def PIp (X : Cx) (op : Operator) (t : TIp) : Prop :=
  ∀ (pins : List (Addr × Obj)) (s : Shared) (σ : St) (H : Hp) (x y : V) (v u : Value) (Q : VK), Inv X pins σ H s → RelV x v → RelV y u → t x y H Q →
    wpAny (model X.prog X.w) X.A (inplaceOp op v u) (EP X pins σ Q) X.xe s
section
variable {X : Cx} {pos : Pos}
def gName (i : Nat) : TG := fun v σ H Q => Q (σ.set i (some v)) H
theorem pg_name {i : Nat} {x : Str} (hN : X.N.Nodup) (hi : X.N[i]? = some x) (hx : Loc X.env.scope x) (hf : X.fn x = true ∨ X.env.scope.names.lookup x = some .local := by first | exact .inl rfl | exact .inr rfl | assumption) : PG X (.Name x pos) (gName i) := by
  intro pins s σ H v u Q I r h
  exact wpAny_assign_Name (store_ok I hN hi hx r (fun s' I' => ⟨_, H, I', h⟩) hf)
def gNil : TGs := fun vs σ H Q => vs = [] ∧ Q σ H
def gCons (t : TG) (u : TGs) : TGs := fun vs σ H Q => ∃ v r, vs = v :: r ∧ t v σ H fun σ' H' => u r σ' H' Q
theorem pgs_nil : PGs X [] gNil := by
  intro pins s σ H vs us Q I r h
  obtain ⟨e, h⟩ := h
  subst e
  cases r
  exact assignInOrder_nil ⟨σ, H, I, h⟩
theorem pgs_cons {e : Expr} {es : List Expr} {t : TG} {u : TGs} (h1 : PG X e t) (h2 : PGs X es u)
    (hs : (assignEach (e :: es) X.env).map (·.2) = assign e X.env :: (assignEach es X.env).map (·.2) := by rfl) : PGs X (e :: es) (gCons t u) := by
  intro pins s σ H vs us Q I r h
  obtain ⟨v, vr, e1, h⟩ := h
  subst e1
  cases r with
  | cons r rr =>
    rw [hs]
    refine assignInOrder_cons (thn (h1 pins s σ H _ _ _ I r h) fun _ s1 ⟨σ1, H1, I1, q1⟩ => ?_)
    exact h2 pins s1 σ1 H1 _ _ Q I1 rr q1
/-- (a, b, ..) = a tuple of that length -/
def gTup (K : PySem.W.Frag) (n : Nat) (t : TGs) : TG := fun v σ H Q => ∃ a xs, v = .ref a ∧ SqT K H a xs ∧ xs.length = n ∧ t xs σ H Q
theorem pg_tup {es : List Expr} {k : Nat} {t : TGs} {n : Nat} (hc : X.calm = true) (h : PGs X es t)
    (hn : (assignEach es X.env).length = n := by rfl) (hst : (assignEach es X.env).findIdx? (·.1) = none := by rfl) : PG X (.Tuple es k pos) (gTup X.K n t) := by
  intro pins s σ H v u Q I r hw
  obtain ⟨a, xs, e1, hq, hl, hw⟩ := hw
  subst e1
  cases r
  obtain ⟨its, rv, ht, hz⟩ := I.tuple hq
  refine assign_Tuple_tuple (I.ok.hd hc) ht (by simp [hn, ← hl, rv.length]) hst fun h' hx => ?_
  have I1 : Inv X pins σ H { s with heap := h' } := I.kept (t' := s.toks) fun b o e => hx b o (Nat.ne_of_lt (Heap.lt_size e)) e
  exact h pins _ σ H xs _ Q I1 (by simpa using rv) hw
/-- o[i] = .. -/
def gSub (to ti : TE) (t : TSet) : TG := fun v σ H Q => to σ H fun o H1 => ti σ H1 fun i H2 => t o i v H2 fun H3 => Q σ H3
theorem pg_sub {o i : Expr} {to ti : TE} {t : TSet} (ho : PE X o to) (hi : PE X i ti) (hs : PSet X t)
    (ha : ∀ v, assign (.Subscript o i pos) X.env v = (do
      let ov ← holding [v] (eval o X.env)
      let iv ← holding [v, ov] (eval i X.env)
      standAt pos
      holding [v, ov, iv] (setItem ov iv v)
      release [v, ov, iv] []) := by intro _; rfl) : PG X (.Subscript o i pos) (gSub to ti t) := by
  intro pins s σ H v u Q I r h
  rw [ha]
  refine wpAny_bind (wpAny_holding (thn (ho pins s σ H _ I h) fun ov s1 ⟨x, H1, I1, r1, q1⟩ => ?_))
  refine wpAny_bind (wpAny_holding (thn (hi pins s1 σ H1 _ I1 q1) fun iv s2 ⟨y, H2, I2, r2, q2⟩ => ?_))
  refine wpAny_bind (wpAny_standAt (wpAny_bind (wpAny_holding (thn (hs pins s2 σ H2 x y v ov iv u _ I2 r1 r2 r q2) fun _ s3 ⟨H3, I3, q3⟩ => ?_))))
  exact wpAny_release ⟨σ, H3, I3, q3⟩
/-- target = value -/
def tAsg (te : TE) (g : TG) : TS := fun D σ H => te σ H fun x H1 => g x σ H1 D.nx
theorem ps_asg {tg e : Expr} {te : TE} {g : TG} (he : PE X e te) (hg : PG X tg g) (hs : swapsWithSole [tg] e pos.line X.env = pure false := by rfl) (hw : swappedStores [tg] e X.env = pure none := by rfl)
    (h1 : (assignEach [tg] X.env).map (·.2) = [assign tg X.env] := by rfl) : PS X (.Assign [tg] e pos) (tAsg te g) := by
  intro pins s σ H D I h
  refine wpAny_Assign_stores (thn (he pins s σ H _ I h) fun v s1 ⟨x, H1, I1, r1, q1⟩ => ?_) hs hw
  rw [h1]
  exact thn (hg pins s1 σ H1 x v _ I1 r1 q1) fun _ s2 q => q
/-- name = value -/
theorem ps_set {i : Nat} {x : Str} {e : Expr} {te : TE} {pos' : Pos} (hN : X.N.Nodup) (hi : X.N[i]? = some x) (hx : Loc X.env.scope x) (he : PE X e te) (hs : swapsWith e (some (.Name x pos')) pos.line X.env = pure false := by rfl) (hf : X.fn x = true ∨ X.env.scope.names.lookup x = some .local := by first | exact .inl rfl | exact .inr rfl | assumption) :
    PS X (.Assign [.Name x pos'] e pos) (tAsg te (gName i)) := by
  intro pins s σ H D I h
  refine wpAny_Assign_Name (thn (he pins s σ H _ I h) fun v s1 ⟨y, H1, I1, r1, q1⟩ => ?_) hs
  exact store_ok I1 hN hi hx r1 (fun s2 I2 => ⟨_, H1, I2, q1⟩) hf
/-- a, b = x, y with plain local names: stored from the right; the pair itself is not tracked (the opening rows as in PyProof/Rows/TupAssign.lean:23) -/
def tPar (i j : Nat) (ta : TA) : TS := fun D σ H => ta σ H fun vs H1 => ∃ v w, vs = [v, w] ∧ D.nx ((σ.set i (some v)).set j (some w)) H1
theorem ps_par {i j : Nat} {x y : Str} {a b : Expr} {ta : TA} {px py pt : Pos} {kt k2 pt2} (hc : X.calm = true) (hN : X.N.Nodup) (hi : X.N[i]? = some x) (hj : X.N[j]? = some y) (hij : i ≠ j)
    (hx : X.env.scope.names.lookup x = some .local) (hy : X.env.scope.names.lookup y = some .local) (ha : PA X [a, b] ta)
    (hw : swappedStores [.Tuple [.Name x px, .Name y py] kt pt] (.Tuple [a, b] k2 pt2) X.env = pure (some [x, y]))
    (hs : swapsWithSole [.Tuple [.Name x px, .Name y py] kt pt] (.Tuple [a, b] k2 pt2) pos.line X.env = pure false := by rfl) :
    PS X (.Assign [.Tuple [.Name x px, .Name y py] kt pt] (.Tuple [a, b] k2 pt2) pos) (tPar i j ta) := by
  intro pins s σ H D I h
  rw [exec_Assign_arm]
  refine wpAny_bind (wpAny_standAt ?_)
  rw [hs]
  refine wpAny_bind (wpAny_pure ?_)
  rw [if_neg (by decide)]
  refine wpAny_bind (Tuple_ (thn (ha _ pins s σ H _ I h) fun us s1 ⟨vs, H1, I1, r1, q1⟩ => ?_))
  obtain ⟨v, w, e1, q1⟩ := q1
  subst e1
  obtain ⟨u1, u2, rfl, rv, rw'⟩ : ∃ u1 u2, us = [u1, u2] ∧ RelV v u1 ∧ RelV w u2 := by
    cases r1 with
    | cons p q =>
      cases q with
      | cons p' q' =>
        cases q'
        exact ⟨_, _, rfl, p, p'⟩
  refine wpAny_newObj_type ?_ (by show 2 ≤ sizeLine; decide)
  have I2 : Inv X pins σ H1 { s1 with heap := s1.heap.push { cls := .type "tuple", data := .seq [u1, u2].toArray } } := I1.kept (t' := s1.toks) fun b o e => Heap.get?_push_of_some _ e
  rw [hw]
  refine wpAny_bind (wpAny_pure ?_)
  show wpAny (model X.prog X.w) X.A (do rule "assign.swapped-stores"; let items ← unpackItems (.ref s1.heap.objs.size) 2 none; assignInOrder [fun v => bindName X.env y v, fun v => bindName X.env x v] items.reverse; pure Flow.next) _ _ _
  refine wpAny_bind (wpAny_rule (wpAny_bind (unpackItems_tuple (items := #[u1, u2]) (I.ok.hd hc) (IsTup.new s1.heap _) fun h' hx' => ?_)))
  have I3 := I2.kept (h' := h') (t' := s1.toks) fun b o e => hx' b o (Nat.ne_of_lt (Heap.lt_size e)) e
  show wpAny _ _ (assignInOrder [fun v => bindName X.env y v, fun v => bindName X.env x v] [u2, u1] >>= fun _ => pure Flow.next) _ _ _
  refine wpAny_bind (assignInOrder_cons (wpAny_bindName (store_ok I3 hN hj (.inl hy) rw' (fun s2 I4 => ?_) (.inr hy))))
  refine assignInOrder_cons (wpAny_bindName (store_ok I4 hN hi (.inl hx) rv (fun s3 I5 => assignInOrder_nil (wpAny_pure ?_)) (.inr hx)))
  rw [List.set_comm _ _ (Ne.symm hij)] at I5
  exact ⟨_, H1, I5, q1⟩
/-- name op= e -/
def tAug (i : Nat) (te : TE) (ti : TIp) : TS := fun D σ H => ∃ x, σ[i]? = some (some x) ∧ te σ H fun y H1 => ti x y H1 fun z H2 => D.nx (σ.set i (some z)) H2
theorem ps_aug {i : Nat} {x : Str} {e : Expr} {te : TE} {op : Operator} {ti : TIp} {pos' : Pos} (hN : X.N.Nodup) (hi : X.N[i]? = some x) (hx : Loc X.env.scope x) (he : PE X e te) (ho : PIp X op ti) (hf : X.fn x = true ∨ X.env.scope.names.lookup x = some .local := by first | exact .inl rfl | exact .inr rfl | assumption) :
    PS X (.AugAssign (.Name x pos') op e pos) (tAug i te ti) := by
  intro pins s σ H D I h
  obtain ⟨v, e1, h⟩ := h
  obtain ⟨m, hn, hl⟩ := I.loc
  have vis : Vis X.env.scope x := by rcases hx with k | k; exact .inl k; exact .inr (.inl k)
  obtain ⟨u, r, l⟩ := hl i x v hi e1 vis
  refine wpAny_AugAssign_Name ?_
  have go : wpAny (model X.prog X.w) X.A (eval e X.env) (fun w s₂ => wpAny (model X.prog X.w) X.A (inplaceOp op u w) (fun r s₃ => wpAny (model X.prog X.w) X.A (storeName X.env x r) (fun _ => SP X pins D .next) X.xe s₃) X.xe s₂) X.xe s := by
    refine thn (he pins s σ H _ I h) fun w s1 ⟨y, H1, I1, r1, q1⟩ => ?_
    refine thn (ho pins s1 σ H1 v y u w _ I1 r r1 q1) fun z s2 ⟨zv, H2, I2, r2, q2⟩ => ?_
    exact store_ok I2 hN hi hx r2 (fun s3 I3 => ⟨_, H2, I3, q2⟩) hf
  rcases l with ⟨hk, hm⟩ | ⟨hk, c, hc, hcell⟩
  · exact wpAny_loadName_local I.ok.kind hk hn hm go
  · rcases hk with hk | hk
    · exact wpAny_loadName_cell I.ok.kind hk hc hcell go
    · rcases hx with k | k
      · have : X.env.scope.names.lookup x = some .free := hk
        rw [k] at this; cases this
      · have : X.env.scope.names.lookup x = some .free := hk
        rw [k] at this; cases this
/-- o[i] op= e -/
def tAugS (to ti te : TE) (tget : V → V → Hp → VK → Prop) (tip : TIp) (tset : TSet) : TS := fun D σ H => to σ H fun o H1 => ti σ H1 fun i H2 => tget o i H2 fun x H3 => te σ H3 fun y H4 => tip x y H4 fun z H5 => tset o i z H5 fun H6 => D.nx σ H6
/-- o[i], by values -/
def PGet (X : Cx) (t : V → V → Hp → VK → Prop) : Prop :=
  ∀ (pins : List (Addr × Obj)) (s : Shared) (σ : St) (H : Hp) (o i : V) (ov iv : Value) (Q : VK), Inv X pins σ H s → RelV o ov → RelV i iv → t o i H Q →
    wpAny (model X.prog X.w) X.A (getItem ov iv) (EP X pins σ Q) X.xe s
theorem ps_augS {o i e : Expr} {to ti te : TE} {tget : V → V → Hp → VK → Prop} {tip : TIp} {tset : TSet} {op : Operator} {tpos : Pos} (ho : PE X o to) (hi : PE X i ti) (hg : PGet X tget) (he : PE X e te) (hp : PIp X op tip) (hs : PSet X tset)
    (ha : ∀ ov iv new, augStore i ov iv new = (do holding [new, ov, iv] (setItem ov iv new); release [new, ov, iv] []; pure .next) := by intros; rfl) : PS X (.AugAssign (.Subscript o i tpos) op e pos) (tAugS to ti te tget tip tset) := by
  intro pins s σ H D I h
  refine wpAny_AugAssign_SubscriptAny (thn (ho pins s σ H _ I h) fun ov s1 ⟨x1, H1, I1, r1, q1⟩ => ?_) ha
  refine thn (hi pins s1 σ H1 _ I1 q1) fun iv s2 ⟨x2, H2, I2, r2, q2⟩ => ?_
  refine thn (hg pins s2 σ H2 x1 x2 ov iv _ I2 r1 r2 q2) fun old s3 ⟨x3, H3, I3, r3, q3⟩ => ?_
  refine thn (he pins s3 σ H3 _ I3 q3) fun v s4 ⟨x4, H4, I4, r4, q4⟩ => ?_
  refine thn (hp pins s4 σ H4 x3 x4 old v _ I4 r3 r4 q4) fun new s5 ⟨x5, H5, I5, r5, q5⟩ => ?_
  exact thn (hs pins s5 σ H5 x1 x2 x5 ov iv new _ I5 r1 r2 r5 q5) fun _ s6 ⟨H6, I6, q6⟩ => ⟨σ, H6, I6, q6⟩
/-- ints -/
def ipI (f : Int → Int → Int) : TIp := fun x y H Q => ∃ i j, x = .int i ∧ y = .int j ∧ Q (.int (f i j)) H
theorem ip_add : PIp X .Add (ipI fun i j => i + j) := by
  intro pins s σ H x y v u Q I r1 r2 h
  obtain ⟨i, j, e1, e2, q⟩ := h
  subst e1; subst e2
  obtain ⟨t, rfl⟩ := r1
  obtain ⟨t', rfl⟩ := r2
  exact iadd_int ⟨.int _, H, I.tok _, ⟨_, rfl⟩, q⟩
theorem ip_sub : PIp X .Sub (ipI fun i j => i - j) := by
  intro pins s σ H x y v u Q I r1 r2 h
  obtain ⟨i, j, e1, e2, q⟩ := h
  subst e1; subst e2
  obtain ⟨t, rfl⟩ := r1
  obtain ⟨t', rfl⟩ := r2
  exact isub_int ⟨.int _, H, I.tok _, ⟨_, rfl⟩, q⟩
end

/-! ### while -/
section
variable {X : Cx} {pos : Pos}
/-- the invariant W with its measure -/
def tWhile (c : TT) (tb : TS) : TS := fun D σ H => ∃ W : Nat → St → Hp → Prop, (∃ m, W m σ H) ∧ ∀ m σ H, W m σ H →
  c σ H fun b H1 => if b = true then ∃ N : St → Hp → Prop, (∀ σ' H', N σ' H' → ∃ m', m' < m ∧ W m' σ' H') ∧ tb { D with nx := N, ct := N, bk := D.nx } σ H1 else D.nx σ H1
theorem ps_while {c : Expr} {body : List Stmt} {tc : TT} {tb : TS} (hp : PassesOwn (model X.prog X.w) X.A X.env X.xe) (hc : PT X c tc) (hb : PSs X body tb) : PS X (.While c body [] pos) (tWhile tc tb) := by
  intro pins s σ H D I h
  obtain ⟨W, ⟨m0, w0⟩, turn⟩ := h
  refine wpAny_While (codeAny_whileLoop (fun n s' => ∃ σ' H', Inv X pins σ' H' s' ∧ W n σ' H') ?_ m0 ⟨σ, H, I, w0⟩)
  rintro n s1 ⟨σ1, H1, I1, w1⟩
  refine wpAny_passesOwn hp (thn (hc pins s1 σ1 H1 _ I1 (turn n σ1 H1 w1)) fun b s2 ⟨H2, I2, q2⟩ => ?_)
  cases b with
  | true =>
    obtain ⟨N, hN, q2⟩ := q2
    rw [if_pos rfl]
    refine wpAny_passesOwn hp (thn (hb pins s2 σ1 H2 _ I2 q2) fun f s3 q3 => ?_)
    cases f with
    | next =>
      obtain ⟨σ3, H3, I3, n3⟩ := q3
      obtain ⟨m', hm, w3⟩ := hN σ3 H3 n3
      exact ⟨m', hm, σ3, H3, I3, w3⟩
    | cont =>
      obtain ⟨σ3, H3, I3, n3⟩ := q3
      obtain ⟨m', hm, w3⟩ := hN σ3 H3 n3
      exact ⟨m', hm, σ3, H3, I3, w3⟩
    | brk => exact q3
    | ret v => exact q3
  | false =>
    rw [if_neg Bool.false_ne_true]
    exact wpAny_execs_nil ⟨σ1, H2, I2, q2⟩
end

/-! ### what a loop or a comprehension walks -/
/-- at turn i: it yields x (the heap may grow), or it stops -/
structure It where
  go : Nat → Hp → Prop
  yld : Nat → Hp → V → Hp → Prop
  stop : Nat → Hp → Prop
/-- the iterator's own objects may turn: they are not the frame's, not pinned, younger than the entry (or a comprehension's own) -/
def FpOk (X : Cx) (pins : List (Addr × Obj)) (H : Hp) (b : Addr) : Prop :=
  H b = none ∧ b ≠ X.env.locals ∧ b ∉ X.fs ∧ (b ∈ X.ex ∨ X.s₀.heap.objs.size ≤ b) ∧ (∀ x c, X.env.cells.lookup x = some c → c ≠ b) ∧ ∀ p ∈ X.pn ++ pins, p.1 ≠ b
theorem Inv.fpOk {X : Cx} {pins : List (Addr × Obj)} {σ : St} {H H' : Hp} {s : Shared} {b : Addr} (I : Inv X pins σ H s) (hb : s.heap.objs.size ≤ b) (hn : H' b = none) : FpOk X pins H' b := by
  refine ⟨hn, Nat.ne_of_gt (Nat.lt_of_lt_of_le I.lt hb), I.nofs hb, .inr (Nat.le_trans I.sz hb), fun x c e z => ?_, fun p hp z => ?_⟩
  · obtain ⟨v, q⟩ := I.cell x c e
    exact absurd (Nat.lt_of_lt_of_le q.lt (by rw [z]; exact hb)) (Nat.lt_irrefl _)
  · exact absurd (Nat.lt_of_lt_of_le (Heap.lt_size (I.pin p hp).1) (by rw [z]; exact hb)) (Nat.lt_irrefl _)
structure Turn (P : Program) (w : World) (K : PySem.W.Frag) (tg : Expr) (J : It) (fp : List Addr) (it : Addr) (tn : Nat → Heap → Prop) : Prop where
  mem : it ∈ fp
  obj : ∀ i h, tn i h → ∀ b ∈ fp, ∃ o, h.get? b = some o ∧ ∀ v, o.data ≠ .cell v
  keep : ∀ i h h', tn i h → (∀ b ∈ fp, ∀ o, h.get? b = some o → h'.get? b = some o) → tn i h'
  item : ∀ (X : Cx), X.prog = P → X.w = w → X.K = K → X.calm = true → ∀ (i : Nat) (pins : List (Addr × Obj)) (s : Shared) (σ : St) (H : Hp) (E : Value → Shared → Prop), Inv X pins σ H s → (∀ b ∈ fp, FpOk X pins H b) → tn i s.heap → J.go i H →
    wpAny (model P w) X.A (pyNext (.ref it)) (fun r s1 => ∃ u, r = some u ∧
      wpAny (model P w) X.A (letOwnedTupleGo tg (.ref it) u) (fun _ s2 => ∃ x H', Inv X pins σ H' s2 ∧ RelV x u ∧ J.yld i H x H' ∧ tn (i + 1) s2.heap ∧ ∀ b ∈ fp, H' b = none) E s1) E s
  done : ∀ (X : Cx), X.prog = P → X.w = w → X.K = K → X.calm = true → ∀ (i : Nat) (pins : List (Addr × Obj)) (s : Shared) (σ : St) (H : Hp) (E : Value → Shared → Prop), Inv X pins σ H s → (∀ b ∈ fp, FpOk X pins H b) → tn i s.heap → J.stop i H →
    wpAny (model P w) X.A (pyNext (.ref it)) (fun r s1 => r = none ∧ Inv X pins σ H s1) E s
  self : ∀ (A : Around) (i : Nat) (s : Shared) (Q : Value → Shared → Prop) (E : Value → Shared → Prop), tn i s.heap → Q (.ref it) s → wpAny (model P w) A (pyIter (.ref it)) Q E s
abbrev TI := St → Hp → (It → Hp → Prop) → Prop
/-- an iterator has come -/
def PIE (X : Cx) (pins : List (Addr × Obj)) (σ : St) (tg : Expr) (R : It → Hp → Prop) (itv : Value) (s2 : Shared) : Prop :=
  ∃ (it : Addr) (fp : List Addr) (tn : Nat → Heap → Prop) (J : It) (H' : Hp), itv = .ref it ∧ Inv X pins σ H' s2 ∧ Turn X.prog X.w X.K tg J fp it tn ∧ tn 0 s2.heap ∧ (∀ b ∈ fp, FpOk X pins H' b) ∧ R J H'
def PI (X : Cx) (tg iter : Expr) (wi : TI) : Prop :=
  ∀ (pins : List (Addr × Obj)) (s : Shared) (σ : St) (H : Hp) (R : It → Hp → Prop), Inv X pins σ H s → wi σ H R →
    wpAny (model X.prog X.w) X.A (eval iter X.env) (fun v s1 => wpAny (model X.prog X.w) X.A (pyIter v) (PIE X pins σ tg R) X.xe s1) X.xe s

/-- the step ahead of the store is nothing for an iterator that keeps no tuple -/
theorem go_of {M : Model} {A : Around} {E : Value → Shared → Prop} {s : Shared} {tg : Expr} {it : Addr} {u : Value} {o : Obj} {n : String} {vs : Array Value} {Q : Unit → Shared → Prop} (ho : s.heap.get? it = some o) (hc : o.cls = .type n) (hd : o.data = .fields vs)
    (hn : ["enumerate", "zip", "dict_itemiterator", "dict_reverseitemiterator", "odict_iterator", "itertools.zip_longest", "itertools.pairwise"].contains n = false) (hQ : Q () s) : wpAny M A (letOwnedTupleGo tg (.ref it) u) Q E s := by
  unfold letOwnedTupleGo
  cases tg <;> first
    | exact wpAny_pure hQ
    | (cases u <;> first
        | exact wpAny_pure hQ
        | (refine wpAny_bind (wpAny_load ho ?_)
           rw [hc, hd]
           show wpAny M A (if (["enumerate", "zip", "dict_itemiterator", "dict_reverseitemiterator", "odict_iterator", "itertools.zip_longest", "itertools.pairwise"].contains n && vs[0]? == some (rawInt _)) = true then _ else _) Q E s
           rw [if_neg (by intro h; rw [hn, Bool.false_and] at h; cases h)]
           exact wpAny_pure hQ))

/-- the list at a, as it stands at each turn (a loop may append to it) -/
def Itl (K : PySem.W.Frag) (a : Addr) : It :=
  ⟨fun i H => ∃ xs x, SqL K H a xs ∧ xs[i]? = some x, fun i H x H' => H' = H ∧ ∀ xs, SqL K H a xs → xs[i]? = some x, fun i H => ∃ xs, SqL K H a xs ∧ xs.length ≤ i⟩
def Itt (K : PySem.W.Frag) (a : Addr) : It :=
  ⟨fun i H => ∃ xs x, SqT K H a xs ∧ xs[i]? = some x, fun i H x H' => H' = H ∧ ∀ xs, SqT K H a xs → xs[i]? = some x, fun i H => ∃ xs, SqT K H a xs ∧ xs.length ≤ i⟩
/-- lo, lo + 1, .. (n of them) -/
def Itr (lo : Int) (n : Nat) : It := ⟨fun i _ => i < n, fun i H x H' => H' = H ∧ x = .int (lo + i), fun i _ => n ≤ i⟩
theorem turn_list {P : Program} {w : World} {K : PySem.W.Frag} {tg : Expr} (a it : Addr) : Turn P w K tg (Itl K a) [it] it (fun i h => h.IsListIter it a i) where
  mem := by simp
  obj := fun i h st b hb => by
    have e : b = it := by simpa using hb
    subst e
    obtain ⟨o, e, c, d⟩ := st
    exact ⟨o, e, fun v z => by rw [d] at z; cases z⟩
  keep := fun i h h' st k => st.at fun o e => k it (by simp) o e
  item := by
    intro X hP hw hK hc i pins s σ H E I hf st hg
    subst hP hw hK
    obtain ⟨xs, x, hq, hx⟩ := hg
    obtain ⟨its, rv, p, hz⟩ := I.list hq
    obtain ⟨u, hu, ru⟩ := rv.get hx
    obtain ⟨f0, f1, f2, f3, f4, f5⟩ := hf it (by simp)
    refine wpAny_pyNext_list_item st p.isList (x := u) (by simpa using hu) fun h' st' sb => ?_
    have I1 : Inv X pins σ H { s with heap := h' } := I.turned (t' := s.toks) (fun b o hb e => (sb.2 b hb).trans e) f0 f1 f3 f4 f5
    obtain ⟨o, e, c, d⟩ := id st'
    exact ⟨u, rfl, go_of (s := { s with heap := h' }) e c d (by decide) ⟨x, H, I1, ru, ⟨rfl, fun ys hy => by rw [I.list_inj hy hq]; exact hx⟩, st', fun b hb => (hf b hb).1⟩⟩
  done := by
    intro X hP hw hK hc i pins s σ H E I hf st hg
    subst hP hw hK
    obtain ⟨xs, hq, hx⟩ := hg
    obtain ⟨its, rv, p, hz⟩ := I.list hq
    obtain ⟨f0, f1, f2, f3, f4, f5⟩ := hf it (by simp)
    have hl := rv.length
    exact wpAny_pyNext_list_end (I.ok.hd hc) st p.isList (by simp; omega) fun h' eb => ⟨rfl, I.turned (t' := s.toks) (fun b o hb e => eb b o hb e) f0 f1 f3 f4 f5⟩
  self := fun _ _ _ _ _ st h => wpAny_pyIter_listiter st h
theorem turn_tuple {P : Program} {w : World} {K : PySem.W.Frag} {tg : Expr} (a it : Addr) : Turn P w K tg (Itt K a) [it] it (fun i h => h.IsTupleIter it a i) where
  mem := by simp
  obj := fun i h st b hb => by
    have e : b = it := by simpa using hb
    subst e
    obtain ⟨o, e, c, d⟩ := st
    exact ⟨o, e, fun v z => by rw [d] at z; cases z⟩
  keep := fun i h h' st k => st.at fun o e => k it (by simp) o e
  item := by
    intro X hP hw hK hc i pins s σ H E I hf st hg
    subst hP hw hK
    obtain ⟨xs, x, hq, hx⟩ := hg
    obtain ⟨its, rv, p, hz⟩ := I.tuple hq
    obtain ⟨u, hu, ru⟩ := rv.get hx
    obtain ⟨f0, f1, f2, f3, f4, f5⟩ := hf it (by simp)
    refine wpAny_pyNext_tuple_item st (show s.heap.IsTuple a its.toArray from p) (x := u) (by simpa using hu) fun h' st' sb => ?_
    have I1 : Inv X pins σ H { s with heap := h' } := I.turned (t' := s.toks) (fun b o hb e => (sb.2 b hb).trans e) f0 f1 f3 f4 f5
    obtain ⟨o, e, c, d⟩ := id st'
    exact ⟨u, rfl, go_of (s := { s with heap := h' }) e c d (by decide) ⟨x, H, I1, ru, ⟨rfl, fun ys hy => by rw [I.tuple_inj hy hq]; exact hx⟩, st', fun b hb => (hf b hb).1⟩⟩
  done := by
    intro X hP hw hK hc i pins s σ H E I hf st hg
    subst hP hw hK
    obtain ⟨xs, hq, hx⟩ := hg
    obtain ⟨its, rv, p, hz⟩ := I.tuple hq
    obtain ⟨f0, f1, f2, f3, f4, f5⟩ := hf it (by simp)
    have hl := rv.length
    exact wpAny_pyNext_tuple_end (I.ok.hd hc) st (show s.heap.IsTuple a its.toArray from p) (by simp; omega) fun h' eb => ⟨rfl, I.turned (t' := s.toks) (fun b o hb e => eb b o hb e) f0 f1 f3 f4 f5⟩
  self := fun _ _ _ _ _ st h => wpAny_pyIter_tupleiter st h
theorem turn_range {P : Program} {w : World} {K : PySem.W.Frag} {tg : Expr} (it : Addr) (lo : Int) (n : Nat) : Turn P w K tg (Itr lo n) [it] it (fun i h => IsRangeIter h it (lo + (i : Nat) * 1) ((n : Int) - (i : Nat)) 1) where
  mem := by simp
  obj := fun i h st b hb => by
    have e : b = it := by simpa using hb
    subst e
    exact ⟨_, st, fun v z => by
      have z' : Data.fields _ = Data.cell v := z
      cases z'⟩
  keep := fun i h h' st k => k it (by simp) _ st
  item := by
    intro X hP hw hK hc i pins s σ H E I hf st hg
    subst hP hw hK
    obtain ⟨f0, f1, f2, f3, f4, f5⟩ := hf it (by simp)
    have W := Walks.range (prog := X.prog) (w := X.w) (I.ok.hd hc) it lo 1 n
    refine W.item i s _ _ hg st fun v h' tk hv st' kk => ?_
    obtain ⟨t, rfl⟩ := hv
    have I1 : Inv X pins σ H { s with heap := h', toks := tk } := I.turned (fun b o hb e => kk b o (by simpa using hb) e) f0 f1 f3 f4 f5
    refine ⟨_, rfl, go_of (s := { s with heap := h', toks := tk }) (n := "range_iterator") st' rfl rfl (by decide) ⟨.int (lo + i), H, I1, ⟨t, ?_⟩, ⟨rfl, rfl⟩, st', fun b hb => (hf b hb).1⟩⟩
    rw [Int.mul_one]
  done := by
    intro X hP hw hK hc i pins s σ H E I hf st hg
    subst hP hw hK
    obtain ⟨f0, f1, f2, f3, f4, f5⟩ := hf it (by simp)
    exact wpAny_pyNext_range_end (I.ok.hd hc) st (by have : n ≤ i := hg; omega) fun h' eb => ⟨rfl, I.turned (t' := s.toks) (fun b o hb e => eb b o hb e) f0 f1 f3 f4 f5⟩
  self := fun _ _ _ _ _ st h => wpAny_pyIter_rangeiter st h
end L2

namespace L2
open PySem PySem.Spec PyProof.Rows
section
variable {X : Cx} {tg : Expr}
def iList (K : PySem.W.Frag) (tl : TE) : TI := fun σ H R => tl σ H fun x H1 => ∃ a, x = .ref a ∧ (∃ xs, SqL K H1 a xs) ∧ R (Itl K a) H1
def iTup (K : PySem.W.Frag) (tl : TE) : TI := fun σ H R => tl σ H fun x H1 => ∃ a, x = .ref a ∧ (∃ xs, SqT K H1 a xs) ∧ R (Itt K a) H1
theorem pi_list {l : Expr} {tl : TE} (hl : PE X l tl) : PI X tg l (iList X.K tl) := by
  intro pins s σ H R I h
  refine thn (hl pins s σ H _ I h) fun v s1 ⟨x, H1, I1, r1, q1⟩ => ?_
  obtain ⟨a, e, ⟨xs, hq⟩, q⟩ := q1
  subst e
  cases r1
  obtain ⟨its, rv, p, hz⟩ := I1.list hq
  refine wpAny_pyIter_list p.isList ?_
  refine ⟨s1.heap.objs.size, [s1.heap.objs.size], _, _, H1, rfl, I1.kept (t' := s1.toks) fun b o e => Heap.get?_push_of_some _ e, turn_list a _, ⟨_, Heap.get?_push_size _ rfl, rfl, rfl⟩, fun b hb => ?_, q⟩
  have e : b = s1.heap.objs.size := by simpa using hb
  subst e
  exact I1.fpOk (Nat.le_refl _) (I1.hok.fresh (Nat.le_refl _))
theorem pi_tup {l : Expr} {tl : TE} (hl : PE X l tl) : PI X tg l (iTup X.K tl) := by
  intro pins s σ H R I h
  refine thn (hl pins s σ H _ I h) fun v s1 ⟨x, H1, I1, r1, q1⟩ => ?_
  obtain ⟨a, e, ⟨xs, hq⟩, q⟩ := q1
  subst e
  cases r1
  obtain ⟨its, rv, p, hz⟩ := I1.tuple hq
  refine wpAny_pyIter_tuple (show s1.heap.IsTuple a its.toArray from p) ?_
  refine ⟨s1.heap.objs.size, [s1.heap.objs.size], _, _, H1, rfl, I1.kept (t' := s1.toks) fun b o e => Heap.get?_push_of_some _ e, turn_tuple a _, ⟨_, Heap.get?_push_size _ rfl, rfl, rfl⟩, fun b hb => ?_, q⟩
  have e : b = s1.heap.objs.size := by simpa using hb
  subst e
  exact I1.fpOk (Nat.le_refl _) (I1.hok.fresh (Nat.le_refl _))
/-- a range object just made, walked -/
theorem range_it {pins : List (Addr × Obj)} {σ : St} {H : Hp} {s : Shared} {R : It → Hp → Prop} {E : Value → Shared → Prop} {lo hi : Int} {t u v : Tok} {tk : Nat} (I : Inv X pins σ H s) (h1 : -(2 ^ 62) ≤ lo) (h2 : lo < 2 ^ 62) (h3 : -(2 ^ 62) ≤ hi) (h4 : hi < 2 ^ 62)
    (q : R (Itr lo (hi - lo).toNat) H) : wpAny (model X.prog X.w) X.A (pyIter (.ref s.heap.objs.size)) (PIE X pins σ tg R) E { s with heap := s.heap.push { cls := .type "range", data := .fields #[.int lo t, .int hi u, .int 1 v] }, toks := tk } := by
  refine wpAny_pyIter_range (IsRange.new ..) (small_one h1 h2 h3 h4) ?_
  have I1 : Inv X pins σ H { s with heap := s.heap.push { cls := .type "range", data := .fields #[.int lo t, .int hi u, .int 1 v] }, toks := tk } := I.kept fun b o e => Heap.get?_push_of_some _ e
  refine ⟨(s.heap.push { cls := .type "range", data := .fields #[.int lo t, .int hi u, .int 1 v] }).objs.size, [(s.heap.push { cls := .type "range", data := .fields #[.int lo t, .int hi u, .int 1 v] }).objs.size], _, _, H, rfl,
    I1.kept (t' := tk) fun b o e => Heap.get?_push_of_some _ e, turn_range _ lo (hi - lo).toNat, ?_, fun b hb => ?_, q⟩
  · have e1 : lo + ((0 : Nat) : Int) * 1 = lo := by simp
    have e2 : (((hi - lo).toNat : Nat) : Int) - ((0 : Nat) : Int) = Builtin.Range.rangeSize lo hi 1 := by rw [rangeSize_one]; split <;> omega
    show IsRangeIter _ _ (lo + ((0 : Nat) : Int) * 1) ((((hi - lo).toNat : Nat) : Int) - ((0 : Nat) : Int)) 1
    rw [e1, e2]
    exact Heap.get?_push_size _ rfl
  · have e : b = (s.heap.push { cls := .type "range", data := .fields #[.int lo t, .int hi u, .int 1 v] }).objs.size := by simpa using hb
    subst e
    exact I1.fpOk (Nat.le_refl _) (I1.hok.fresh (Nat.le_refl _))
def iRng1 (ta : TA) : TI := fun σ H R => ta σ H fun vs H1 => ∃ j : Int, vs = [.int j] ∧ -(2 ^ 62) ≤ j ∧ j < 2 ^ 62 ∧ R (Itr 0 j.toNat) H1
def iRng2 (ta : TA) : TI := fun σ H R => ta σ H fun vs H1 => ∃ i j : Int, vs = [.int i, .int j] ∧ (-(2 ^ 62) ≤ i ∧ i < 2 ^ 62 ∧ -(2 ^ 62) ≤ j ∧ j < 2 ^ 62) ∧ R (Itr i (j - i).toNat) H1
theorem pi_range1 {a : Expr} {ta : TA} {p pos : Pos} (hg : Gl X "range") (hm : X.mg "range" = none) (ha : PA X [a] ta) (hs : starEach [a] X.env = [(false, eval a X.env)] := by rfl) : PI X tg (.Call (.Name "range" p) [a] [] pos) (iRng1 ta) := by
  intro pins s σ H R I h
  refine Call_ (ld_blt I hg hm boot_range (PyProof.Rows.callWith_type1 (thn (ha pos pins s σ H _ I h) fun us s1 ⟨vs, H1, I1, r1, q1⟩ => ?_) hs rfl))
  obtain ⟨j, e, q1, q2, q⟩ := q1
  subst e
  cases r1 with
  | cons r rr =>
    cases rr
    obtain ⟨t, rfl⟩ := r
    exact call_range_1 (range_it I1 (by omega) (by omega) q1 q2 (by simpa using q))
theorem pi_range2 {a b : Expr} {ta : TA} {p pos : Pos} (hg : Gl X "range") (hm : X.mg "range" = none) (ha : PA X [a, b] ta) (hs : starEach [a, b] X.env = [(false, eval a X.env), (false, eval b X.env)] := by rfl) (hs2 : starEach [b] X.env = [(false, eval b X.env)] := by rfl) :
    PI X tg (.Call (.Name "range" p) [a, b] [] pos) (iRng2 ta) := by
  intro pins s σ H R I h
  refine Call_ (ld_blt I hg hm boot_range (PyProof.Rows.callWith_type1 (thn (ha pos pins s σ H _ I h) fun us s1 ⟨vs, H1, I1, r1, q1⟩ => ?_) (by rw [hs, hs2]) (by rw [hs2]; rfl)))
  obtain ⟨i, j, e, ⟨q1, q2, q3, q4⟩, q⟩ := q1
  subst e
  cases r1 with
  | cons r rr =>
    cases rr with
    | cons r' rr =>
      cases rr
      obtain ⟨t, rfl⟩ := r
      obtain ⟨t', rfl⟩ := r'
      exact call_range_2 (range_it I1 q1 q2 q3 q4 q)

/-! ### for -/
/-- W: the invariant by the turn and a measure; N: what the body is to reach -/
def tFor (wi : TI) (g : TG) (tb : TS) : TS := fun D σ H => wi σ H fun J H1 => ∃ W : Nat → Nat → St → Hp → Prop, (∃ m, W 0 m σ H1) ∧ ∀ i m σ H, W i m σ H →
  (J.stop i H ∧ D.nx σ H) ∨ (J.go i H ∧ ∃ N : St → Hp → Prop, (∀ σ' H', N σ' H' → ∃ m', m' < m ∧ W (i + 1) m' σ' H') ∧ ∀ x H', J.yld i H x H' → g x σ H' fun σ2 H2 => tb { D with nx := N, ct := N, bk := D.nx } σ2 H2)
/-- the records at fp as they stand -/
def pinsAt (fp : List Addr) (h : Heap) : List (Addr × Obj) := fp.filterMap fun b => (h.get? b).map fun o => (b, o)
theorem mem_pinsAt {fp : List Addr} {h : Heap} {b : Addr} {o : Obj} (hb : b ∈ fp) (e : h.get? b = some o) : (b, o) ∈ pinsAt fp h := List.mem_filterMap.mpr ⟨b, hb, by rw [e]; rfl⟩
theorem of_pinsAt {fp : List Addr} {h : Heap} {p : Addr × Obj} (hp : p ∈ pinsAt fp h) : p.1 ∈ fp ∧ h.get? p.1 = some p.2 := by
  obtain ⟨b, hb, e⟩ := List.mem_filterMap.mp hp
  cases q : h.get? b with
  | none => rw [q] at e; cases e
  | some o =>
    rw [q] at e
    have e' : (b, o) = p := Option.some.inj e
    subst e'
    exact ⟨hb, q⟩
theorem Inv.pinned {pins : List (Addr × Obj)} {σ : St} {H : Hp} {s : Shared} {fp : List Addr} (I : Inv X pins σ H s) (hf : ∀ b ∈ fp, FpOk X pins H b) (ho : ∀ b ∈ fp, ∃ o, s.heap.get? b = some o ∧ ∀ v, o.data ≠ .cell v) : Inv X (pins ++ pinsAt fp s.heap) σ H s :=
  I.pins_of fun p hp => (List.mem_append.mp hp).elim (fun z => I.pin p (List.mem_append_right _ z)) fun z => by
    obtain ⟨hb, e⟩ := of_pinsAt z
    obtain ⟨f0, f1, f2, _⟩ := hf p.1 hb
    obtain ⟨o, e', d⟩ := ho p.1 hb
    rw [e] at e'; cases e'
    exact ⟨e, f0, f1, f2, d⟩
theorem Inv.unpinned {pins pl : List (Addr × Obj)} {σ : St} {H : Hp} {s : Shared} (I : Inv X (pins ++ pl) σ H s) : Inv X pins σ H s := I.pins_of fun p hp => I.pin p (List.mem_append_right _ (List.mem_append_left _ hp))
theorem ps_for {iter : Expr} {body : List Stmt} {wi : TI} {g : TG} {tb : TS} {pos : Pos} (hp : PassesOwn (model X.prog X.w) X.A X.env X.xe) (hc : X.calm = true) (hi : PI X tg iter wi) (hg : PG X tg g) (hb : PSs X body tb)
    (hs : ∀ x, foldedSetIterable iter X.env x = pure x := by intro _; rfl) : PS X (.For tg iter body [] pos) (tFor wi g tb) := by
  intro pins s σ H D I h
  refine wpAny_For (thn (hi pins s σ H _ I h) fun v s1 h1 => thn h1 fun itv s2 h2 => ?_) hs
  obtain ⟨it, fp, tn, J, H2, e, I2, T, st2, f2, W, ⟨m0, w0⟩, turn⟩ := h2
  subst e
  -- what stays true of the iterator's objects through the loop
  have stat : ∀ {H' : Hp}, (∀ b ∈ fp, H' b = none) → ∀ b ∈ fp, FpOk X pins H' b := fun hn b hb => ⟨hn b hb, (f2 b hb).2⟩
  refine codeAny_forLoop_any (fun n s' => ∃ i σ' H', Inv X pins σ' H' s' ∧ tn i s'.heap ∧ (∀ b ∈ fp, H' b = none) ∧ W i n σ' H') ?_ m0 ⟨0, σ, H2, I2, st2, fun b hb => (f2 b hb).1, w0⟩
  rintro n s3 ⟨i, σ3, H3, I3, st3, fr3, w3⟩
  rcases turn i n σ3 H3 w3 with ⟨stop, qn⟩ | ⟨go, N, hN, step⟩
  · refine wpAny_passesOwn hp (thn (T.done X rfl rfl rfl hc i pins s3 σ3 H3 X.xe I3 (stat fr3) st3 stop) fun r s4 ⟨hr, I4⟩ => ?_)
    subst hr
    exact wpAny_execs_nil ⟨σ3, H3, I4, qn⟩
  · refine wpAny_passesOwn hp (thn (T.item X rfl rfl rfl hc i pins s3 σ3 H3 X.xe I3 (stat fr3) st3 go) fun r s4 ⟨u, hr, h4⟩ => ?_)
    subst hr
    refine wpAny_passesOwn hp (thn h4 fun _ s5 ⟨x, H5, I5, r5, y5, st5, fr5⟩ => ?_)
    have I5' := I5.pinned (stat fr5) (T.obj _ _ st5)
    refine wpAny_passesOwn hp (thn (hg _ s5 σ3 H5 x u _ I5' r5 (step x H5 y5)) fun _ s6 ⟨σ6, H6, I6, q6⟩ => ?_)
    refine wpAny_passesOwn hp (thn (hb _ s6 σ6 H6 _ I6 q6) fun f s7 q7 => ?_)
    have again : ∀ {σ7 : St} {H7 : Hp}, Inv X (pins ++ pinsAt fp s5.heap) σ7 H7 s7 → N σ7 H7 → ∃ m, m < n ∧ ∃ i σ' H', Inv X pins σ' H' s7 ∧ tn i s7.heap ∧ (∀ b ∈ fp, H' b = none) ∧ W i m σ' H' := fun {σ7 H7} I7 n7 => by
      obtain ⟨m', hm, w7⟩ := hN σ7 H7 n7
      refine ⟨m', hm, i + 1, σ7, H7, I7.unpinned, T.keep _ _ _ st5 fun b hb o e => (I7.pin (b, o) (List.mem_append_right _ (List.mem_append_right _ (mem_pinsAt hb e)))).1, fun b hb => ?_, w7⟩
      obtain ⟨o, e, d⟩ := T.obj _ _ st5 b hb
      exact (I7.pin (b, o) (List.mem_append_right _ (List.mem_append_right _ (mem_pinsAt hb e)))).2.1
    cases f with
    | next => obtain ⟨σ7, H7, I7, n7⟩ := q7; exact again I7 n7
    | cont => obtain ⟨σ7, H7, I7, n7⟩ := q7; exact again I7 n7
    | brk => obtain ⟨σ7, H7, I7, q7⟩ := q7; exact ⟨σ7, H7, I7.unpinned, q7⟩
    | ret v => obtain ⟨x7, σ7, H7, I7, r7, q7⟩ := q7; exact ⟨x7, σ7, H7, I7.unpinned, r7, q7⟩
end

/-! ### the forms one uses -/
/-- over a list that the body leaves as it is -/
theorem for_list {K : PySem.W.Frag} {a : Addr} {xs : List V} {g : TG} {tb : TS} {D : Ends} {σ : St} {H : Hp} (Pv : Nat → St → Hp → Prop) (h0 : Pv 0 σ H) (hl : ∀ i σ H, i ≤ xs.length → Pv i σ H → SqL K H a xs)
    (hs : ∀ i x σ H, xs[i]? = some x → Pv i σ H → g x σ H fun σ2 H2 => tb { D with nx := Pv (i + 1), ct := Pv (i + 1), bk := D.nx } σ2 H2) (hd : ∀ σ H, Pv xs.length σ H → D.nx σ H) :
    ∃ W : Nat → Nat → St → Hp → Prop, (∃ m, W 0 m σ H) ∧ ∀ i m σ H, W i m σ H →
      ((Itl K a).stop i H ∧ D.nx σ H) ∨ ((Itl K a).go i H ∧ ∃ N : St → Hp → Prop, (∀ σ' H', N σ' H' → ∃ m', m' < m ∧ W (i + 1) m' σ' H') ∧ ∀ x H', (Itl K a).yld i H x H' → g x σ H' fun σ2 H2 => tb { D with nx := N, ct := N, bk := D.nx } σ2 H2) := by
  refine ⟨fun i m σ H => m = xs.length - i ∧ i ≤ xs.length ∧ Pv i σ H, ⟨xs.length, by simp, Nat.zero_le _, h0⟩, ?_⟩
  rintro i m σ H ⟨rfl, hi, p⟩
  have q := hl i σ H hi p
  by_cases hlt : i < xs.length
  · refine .inr ⟨⟨xs, xs[i], q, by simp [hlt]⟩, Pv (i + 1), fun σ' H' p' => ⟨xs.length - (i + 1), by omega, rfl, hlt, p'⟩, fun x H' y => ?_⟩
    obtain ⟨e, y⟩ := y
    subst e
    exact hs i x σ _ (y xs q) p
  · have e : i = xs.length := by omega
    subst e
    exact .inl ⟨⟨xs, q, Nat.le_refl _⟩, hd σ H p⟩
theorem for_tup {K : PySem.W.Frag} {a : Addr} {xs : List V} {g : TG} {tb : TS} {D : Ends} {σ : St} {H : Hp} (Pv : Nat → St → Hp → Prop) (h0 : Pv 0 σ H) (hl : ∀ i σ H, i ≤ xs.length → Pv i σ H → SqT K H a xs)
    (hs : ∀ i x σ H, xs[i]? = some x → Pv i σ H → g x σ H fun σ2 H2 => tb { D with nx := Pv (i + 1), ct := Pv (i + 1), bk := D.nx } σ2 H2) (hd : ∀ σ H, Pv xs.length σ H → D.nx σ H) :
    ∃ W : Nat → Nat → St → Hp → Prop, (∃ m, W 0 m σ H) ∧ ∀ i m σ H, W i m σ H →
      ((Itt K a).stop i H ∧ D.nx σ H) ∨ ((Itt K a).go i H ∧ ∃ N : St → Hp → Prop, (∀ σ' H', N σ' H' → ∃ m', m' < m ∧ W (i + 1) m' σ' H') ∧ ∀ x H', (Itt K a).yld i H x H' → g x σ H' fun σ2 H2 => tb { D with nx := N, ct := N, bk := D.nx } σ2 H2) := by
  refine ⟨fun i m σ H => m = xs.length - i ∧ i ≤ xs.length ∧ Pv i σ H, ⟨xs.length, by simp, Nat.zero_le _, h0⟩, ?_⟩
  rintro i m σ H ⟨rfl, hi, p⟩
  have q := hl i σ H hi p
  by_cases hlt : i < xs.length
  · refine .inr ⟨⟨xs, xs[i], q, by simp [hlt]⟩, Pv (i + 1), fun σ' H' p' => ⟨xs.length - (i + 1), by omega, rfl, hlt, p'⟩, fun x H' y => ?_⟩
    obtain ⟨e, y⟩ := y
    subst e
    exact hs i x σ _ (y xs q) p
  · have e : i = xs.length := by omega
    subst e
    exact .inl ⟨⟨xs, q, Nat.le_refl _⟩, hd σ H p⟩
theorem for_range {lo : Int} {n : Nat} {g : TG} {tb : TS} {D : Ends} {σ : St} {H : Hp} (Pv : Nat → St → Hp → Prop) (h0 : Pv 0 σ H)
    (hs : ∀ i σ H, i < n → Pv i σ H → g (.int (lo + i)) σ H fun σ2 H2 => tb { D with nx := Pv (i + 1), ct := Pv (i + 1), bk := D.nx } σ2 H2) (hd : ∀ σ H, Pv n σ H → D.nx σ H) :
    ∃ W : Nat → Nat → St → Hp → Prop, (∃ m, W 0 m σ H) ∧ ∀ i m σ H, W i m σ H →
      ((Itr lo n).stop i H ∧ D.nx σ H) ∨ ((Itr lo n).go i H ∧ ∃ N : St → Hp → Prop, (∀ σ' H', N σ' H' → ∃ m', m' < m ∧ W (i + 1) m' σ' H') ∧ ∀ x H', (Itr lo n).yld i H x H' → g x σ H' fun σ2 H2 => tb { D with nx := N, ct := N, bk := D.nx } σ2 H2) := by
  refine ⟨fun i m σ H => m = n - i ∧ i ≤ n ∧ Pv i σ H, ⟨n, by simp, Nat.zero_le _, h0⟩, ?_⟩
  rintro i m σ H ⟨rfl, hi, p⟩
  by_cases hlt : i < n
  · refine .inr ⟨hlt, Pv (i + 1), fun σ' H' p' => ⟨n - (i + 1), by omega, rfl, hlt, p'⟩, fun x H' y => ?_⟩
    obtain ⟨e, y⟩ := y
    subst e y
    exact hs i σ _ hlt p
  · have e : i = n := by omega
    subst e
    exact .inl ⟨Nat.le_refl _, hd σ H p⟩
/-- while, by a word and a measure of the state -/
theorem while_by {c : TT} {tb : TS} {D : Ends} {σ : St} {H : Hp} (Pv : St → Hp → Prop) (μ : St → Hp → Nat) (h0 : Pv σ H)
    (hs : ∀ σ H, Pv σ H → c σ H fun b H1 => if b = true then tb { D with nx := fun σ' H' => Pv σ' H' ∧ μ σ' H' < μ σ H, ct := fun σ' H' => Pv σ' H' ∧ μ σ' H' < μ σ H, bk := D.nx } σ H1 else D.nx σ H1)
    (mono : ∀ σ H Q Q', (∀ b H1, Q b H1 → Q' b H1) → c σ H Q → c σ H Q') : tWhile c tb D σ H := by
  refine ⟨fun m σ H => m = μ σ H ∧ Pv σ H, ⟨_, rfl, h0⟩, ?_⟩
  rintro m σ H ⟨rfl, p⟩
  refine mono σ H _ _ (fun b H1 q => ?_) (hs σ H p)
  cases b with
  | true => exact ⟨_, fun σ' H' ⟨p', l⟩ => ⟨_, l, rfl, p'⟩, q⟩
  | false => exact q
end L2

namespace L2
open PySem PySem.Spec PyProof.Rows

abbrev R2 := V → V → Hp → VK → Prop
/-- a two-place operation on values: f is binaryOp op, inplaceOp op or compareOp op -/
def OpR (X : Cx) (f : Value → Value → Sem Value) (r : R2) : Prop :=
  ∀ (pins : List (Addr × Obj)) (s : Shared) (σ : St) (H : Hp) (x y : V) (v u : Value) (Q : VK), Inv X pins σ H s → RelV x v → RelV y u → r x y H Q →
    wpAny (model X.prog X.w) X.A (f v u) (EP X pins σ Q) X.xe s
/-- a one-place operation -/
def UnR (X : Cx) (f : Value → Sem Value) (r : V → Hp → VK → Prop) : Prop :=
  ∀ (pins : List (Addr × Obj)) (s : Shared) (σ : St) (H : Hp) (x : V) (v : Value) (Q : VK), Inv X pins σ H s → RelV x v → r x H Q →
    wpAny (model X.prog X.w) X.A (f v) (EP X pins σ Q) X.xe s
/-- a call of a value that is known (a builtin, a type) with values -/
def CallR (X : Cx) (f : Value) (r : List V → Hp → VK → Prop) : Prop :=
  ∀ (pins : List (Addr × Obj)) (s : Shared) (σ : St) (H : Hp) (xs : List V) (us : List Value) (Q : VK), Inv X pins σ H s → Vals xs us → r xs H Q →
    wpAny (model X.prog X.w) X.A (call f us) (EP X pins σ Q) X.xe s
/-- a value's truth -/
def TruR (X : Cx) (r : V → Hp → (Bool → Hp → Prop) → Prop) : Prop :=
  ∀ (pins : List (Addr × Obj)) (s : Shared) (σ : St) (H : Hp) (x : V) (v : Value) (Q : Bool → Hp → Prop), Inv X pins σ H s → RelV x v → r x H Q →
    wpAny (model X.prog X.w) X.A (truthy v) (TP X pins σ Q) X.xe s

def tOp (r : R2) (ta tb : TE) : TE := fun σ H Q => ta σ H fun x H1 => tb σ H1 fun y H2 => r x y H2 Q
def tUn (r : V → Hp → VK → Prop) (ta : TE) : TE := fun σ H Q => ta σ H fun x H1 => r x H1 Q
/-- ints in, under C, and a value out -/
def rI (C : Int → Int → Prop) (g : Int → Int → V) : R2 := fun x y H Q => ∃ i j, x = .int i ∧ y = .int j ∧ C i j ∧ Q (g i j) H
def rI0 (g : Int → Int → V) : R2 := fun x y H Q => ∃ i j, x = .int i ∧ y = .int j ∧ Q (g i j) H
def rU (g : Int → V) : V → Hp → VK → Prop := fun x H Q => ∃ i, x = .int i ∧ Q (g i) H

section
variable {X : Cx} {a b c : Expr} {ta tb tc : TE} {pos : Pos}

theorem binT (ha : PE X a ta) (hb : PE X b tb) {pins : List (Addr × Obj)} {s : Shared} {σ : St} {H : Hp} {R : V → V → Hp → Prop} (I : Inv X pins σ H s)
    (h : ta σ H fun x H1 => tb σ H1 fun y H2 => R x y H2) {Q : Value → Shared → Prop} {f : Value → Value → Sem Value}
    (hf : ∀ v u s2 x y H2, Inv X pins σ H2 s2 → RelV x v → RelV y u → R x y H2 → wpAny (model X.prog X.w) X.A (f v u) Q X.xe s2) :
    wpAny (model X.prog X.w) X.A (eval a X.env) (fun v s₁ => wpAny (model X.prog X.w) X.A (eval b X.env) (fun u s₂ => wpAny (model X.prog X.w) X.A (f v u) Q X.xe s₂) X.xe s₁) X.xe s := by
  refine thn (ha pins s σ H _ I h) fun v s1 ⟨x, H1, I1, r1, q1⟩ => ?_
  refine thn (hb pins s1 σ H1 _ I1 q1) fun u s2 ⟨y, H2, I2, r2, q2⟩ => ?_
  exact hf v u s2 x y H2 I2 r1 r2 q2

theorem pe_op {op : Operator} {r : R2} (ho : OpR X (binaryOp op) r) (ha : PE X a ta) (hb : PE X b tb) : PE X (.BinOp a op b pos) (tOp r ta tb) := by
  intro pins s σ H Q I h
  exact wpAny_BinOp (binT ha hb I h fun v u s2 x y H2 I2 rx ry q => ho pins s2 σ H2 x y v u Q I2 rx ry q)
theorem pe_un {op : UnaryOp} {r : V → Hp → VK → Prop} (ho : UnR X (unaryOp op) r) (ha : PE X a ta) : PE X (.UnaryOp op a pos) (tUn r ta) := by
  intro pins s σ H Q I h
  exact UnaryOp_ (thn (ha pins s σ H _ I h) fun v s1 ⟨x, H1, I1, r1, q1⟩ => ho pins s1 σ H1 x v Q I1 r1 q1)
/-- a op= e at a name: the name's slot i -/
theorem augR {op : Operator} {r : R2} (ho : OpR X (inplaceOp op) r) {pins : List (Addr × Obj)} {s : Shared} {σ : St} {H : Hp} {x y : V} {v u : Value} {Q : VK} (I : Inv X pins σ H s)
    (rx : RelV x v) (ry : RelV y u) (q : r x y H Q) : wpAny (model X.prog X.w) X.A (inplaceOp op v u) (EP X pins σ Q) X.xe s := ho pins s σ H x y v u Q I rx ry q

/-! ### ints -/
theorem opI {f : Value → Value → Sem Value} {C : Int → Int → Prop} {g : Int → Int → Int}
    (rule : ∀ (i j : Int) (t u : Tok) (s : Shared) (Q : Value → Shared → Prop) (E : Value → Shared → Prop), C i j → Q (.int (g i j) s.toks) { s with toks := s.toks + 1 } → wpAny (model X.prog X.w) X.A (f (.int i t) (.int j u)) Q E s) :
    OpR X f (rI C fun i j => .int (g i j)) := by
  intro pins s σ H x y v u Q I rx ry h
  obtain ⟨i, j, rfl, rfl, hc, q⟩ := h
  obtain ⟨t, rfl⟩ := rx
  obtain ⟨t', rfl⟩ := ry
  exact rule i j t t' s _ _ hc ⟨.int (g i j), H, I.tok _, ⟨_, rfl⟩, q⟩
theorem opI0 {f : Value → Value → Sem Value} {g : Int → Int → Int}
    (rule : ∀ (i j : Int) (t u : Tok) (s : Shared) (Q : Value → Shared → Prop) (E : Value → Shared → Prop), Q (.int (g i j) s.toks) { s with toks := s.toks + 1 } → wpAny (model X.prog X.w) X.A (f (.int i t) (.int j u)) Q E s) :
    OpR X f (rI0 fun i j => .int (g i j)) := by
  intro pins s σ H x y v u Q I rx ry h
  obtain ⟨i, j, rfl, rfl, q⟩ := h
  obtain ⟨t, rfl⟩ := rx
  obtain ⟨t', rfl⟩ := ry
  exact rule i j t t' s _ _ ⟨.int (g i j), H, I.tok _, ⟨_, rfl⟩, q⟩
theorem opB0 {f : Value → Value → Sem Value} {g : Int → Int → Bool}
    (rule : ∀ (i j : Int) (t u : Tok) (s : Shared) (Q : Value → Shared → Prop) (E : Value → Shared → Prop), Q (.bool (g i j)) s → wpAny (model X.prog X.w) X.A (f (.int i t) (.int j u)) Q E s) :
    OpR X f (rI0 fun i j => .bl (g i j)) := by
  intro pins s σ H x y v u Q I rx ry h
  obtain ⟨i, j, rfl, rfl, q⟩ := h
  obtain ⟨t, rfl⟩ := rx
  obtain ⟨t', rfl⟩ := ry
  exact rule i j t t' s _ _ ⟨.bl (g i j), H, I, rfl, q⟩

def CDiv (i j : Int) : Prop := 0 < j ∧ j < 1073741824
def CDivN (i j : Int) : Prop := j ≠ 0 ∧ j.natAbs < 1073741824
def CPow (i j : Int) : Prop := 0 ≤ j ∧ j ≤ 1000000 ∧ i.natAbs < 2 ^ 64
def CMul (i j : Int) : Prop := (-(2 ^ 64) < i ∧ i < 2 ^ 64) ∨ (-(2 ^ 64) < j ∧ j < 2 ^ 64)
theorem CMul.ok {i j : Int} (h : CMul i j) : IntMulOk i j := by
  rcases h with ⟨h1, h2⟩ | ⟨h1, h2⟩
  · exact .of_left (intBits_le_64 h1 h2)
  · exact .of_right (intBits_le_64 h1 h2)
theorem two_pow_nn (k : Nat) : (0 : Int) ≤ 2 ^ k := by
  rw [two_pow_cast]
  exact Int.natCast_nonneg _

theorem op_add : OpR X (binaryOp .Add) (rI0 fun i j => .int (i + j)) := opI0 fun _ _ _ _ _ _ _ q => add_int q
theorem op_sub : OpR X (binaryOp .Sub) (rI0 fun i j => .int (i - j)) := opI0 fun _ _ _ _ _ _ _ q => sub_int q
theorem op_mul : OpR X (binaryOp .Mult) (rI CMul fun i j => .int (i * j)) := opI fun _ _ _ _ _ _ _ hc q => mul_int q hc.ok
/-- // by a positive divisor -/
theorem op_fdiv : OpR X (binaryOp .FloorDiv) (rI CDiv fun i j => .int (i / j)) := opI fun i j _ _ _ _ _ hc q => by
  have h1 : (0 : Int) < j := hc.1
  have h2 : j < 1073741824 := hc.2
  exact floordiv_int (by omega) (by rw [Int.fdiv_eq_ediv_of_nonneg i (by omega)]; exact q) (.inl (PyProof.noPylong_small (by omega)))
theorem op_fdivN : OpR X (binaryOp .FloorDiv) (rI CDivN fun i j => .int (i.fdiv j)) := opI fun _ _ _ _ _ _ _ hc q => floordiv_int hc.1 q (.inl (PyProof.noPylong_small hc.2))
/-- % by a positive divisor of any size -/
theorem op_mod : OpR X (binaryOp .Mod) (rI (fun _ j => 0 < j) fun i j => .int (i % j)) := opI fun i j _ _ _ _ _ hc q => by
  have h1 : (0 : Int) < j := hc
  exact mod_int' (by omega) (by rw [Int.fmod_eq_emod_of_nonneg i (by omega)]; exact q)
theorem op_modN : OpR X (binaryOp .Mod) (rI (fun _ j => j ≠ 0) fun i j => .int (i.fmod j)) := opI fun _ _ _ _ _ _ _ hc q => mod_int' hc q
theorem op_pow : OpR X (binaryOp .Pow) (rI CPow fun i j => .int (i ^ j.toNat)) := opI fun _ _ _ _ _ _ _ hc q => pow_int_small hc.1 hc.2.1 hc.2.2 q
theorem op_shl : OpR X (binaryOp .LShift) (rI CPow fun i j => .int (i * 2 ^ j.toNat)) := opI fun _ _ _ _ _ _ _ hc q => lshift_int_small hc.1 hc.2.1 hc.2.2 q
theorem op_shr : OpR X (binaryOp .RShift) (rI (fun _ j => 0 ≤ j) fun i j => .int (i / 2 ^ j.toNat)) := opI fun i j _ _ _ _ _ hc q =>
  rshift_int hc (by rw [Int.fdiv_eq_ediv_of_nonneg i (two_pow_nn _)]; exact q)
theorem op_and : OpR X (binaryOp .BitAnd) (rI0 fun i j => .int (Builtin.bitAnd i j)) := opI0 fun _ _ _ _ _ _ _ q => and_int q
theorem op_or : OpR X (binaryOp .BitOr) (rI0 fun i j => .int (Builtin.bitOr i j)) := opI0 fun _ _ _ _ _ _ _ q => or_int q
theorem op_xor : OpR X (binaryOp .BitXor) (rI0 fun i j => .int (Builtin.bitXor i j)) := opI0 fun _ _ _ _ _ _ _ q => xor_int q

theorem iop_add : OpR X (inplaceOp .Add) (rI0 fun i j => .int (i + j)) := opI0 fun _ _ _ _ _ _ _ q => iadd_int q
theorem iop_sub : OpR X (inplaceOp .Sub) (rI0 fun i j => .int (i - j)) := opI0 fun _ _ _ _ _ _ _ q => isub_int q
theorem iop_mul : OpR X (inplaceOp .Mult) (rI CMul fun i j => .int (i * j)) := opI fun _ _ _ _ _ _ _ hc q => imul_int q hc.ok
theorem iop_fdiv : OpR X (inplaceOp .FloorDiv) (rI CDiv fun i j => .int (i / j)) := opI fun i j _ _ _ _ _ hc q => by
  have h1 : (0 : Int) < j := hc.1
  have h2 : j < 1073741824 := hc.2
  exact ifloordiv_int (by omega) (by rw [Int.fdiv_eq_ediv_of_nonneg i (by omega)]; exact q) (.inl (PyProof.noPylong_small (by omega)))
theorem iop_mod : OpR X (inplaceOp .Mod) (rI (fun _ j => 0 < j) fun i j => .int (i % j)) := opI fun i j _ _ _ _ _ hc q => by
  have h1 : (0 : Int) < j := hc
  exact imod_int (by omega) (by rw [Int.fmod_eq_emod_of_nonneg i (by omega)]; exact q)
theorem iop_shl : OpR X (inplaceOp .LShift) (rI CPow fun i j => .int (i * 2 ^ j.toNat)) := opI fun _ _ _ _ _ _ _ hc q => ilshift_int_small hc.1 hc.2.1 hc.2.2 q
theorem iop_shr : OpR X (inplaceOp .RShift) (rI (fun _ j => 0 ≤ j) fun i j => .int (i / 2 ^ j.toNat)) := opI fun i j _ _ _ _ _ hc q =>
  irshift_int hc (by rw [Int.fdiv_eq_ediv_of_nonneg i (two_pow_nn _)]; exact q)
theorem iop_and : OpR X (inplaceOp .BitAnd) (rI0 fun i j => .int (Builtin.bitAnd i j)) := opI0 fun _ _ _ _ _ _ _ q => iand_int q
theorem iop_or : OpR X (inplaceOp .BitOr) (rI0 fun i j => .int (Builtin.bitOr i j)) := opI0 fun _ _ _ _ _ _ _ q => ior_int q
theorem iop_xor : OpR X (inplaceOp .BitXor) (rI0 fun i j => .int (Builtin.bitXor i j)) := opI0 fun _ _ _ _ _ _ _ q => ixor_int q

theorem unI {f : Value → Sem Value} {g : Int → Int}
    (rule : ∀ (i : Int) (t : Tok) (s : Shared) (Q : Value → Shared → Prop) (E : Value → Shared → Prop), Q (.int (g i) s.toks) { s with toks := s.toks + 1 } → wpAny (model X.prog X.w) X.A (f (.int i t)) Q E s) :
    UnR X f (rU fun i => .int (g i)) := by
  intro pins s σ H x v Q I rx h
  obtain ⟨i, rfl, q⟩ := h
  obtain ⟨t, rfl⟩ := rx
  exact rule i t s _ _ ⟨.int (g i), H, I.tok _, ⟨_, rfl⟩, q⟩
theorem un_neg : UnR X (unaryOp .USub) (rU fun i => .int (-i)) := unI fun _ _ _ _ _ q => neg_int q
theorem un_inv : UnR X (unaryOp .Invert) (rU fun i => .int (Builtin.bitNot i)) := unI fun _ _ _ _ _ q => invert_int q

/-! ### bools among ints: n += (a < b) -/
theorem op_add_ib : OpR X (binaryOp .Add) (fun x y H Q => ∃ i k, x = .int i ∧ y = .bl k ∧ Q (.int (i + b2i k)) H) := by
  intro pins s σ H x y v u Q I rx ry h
  obtain ⟨i, k, rfl, rfl, q⟩ := h
  obtain ⟨t, rfl⟩ := rx
  cases ry
  exact add_int_bool ⟨.int (i + b2i k), H, I.tok _, ⟨_, rfl⟩, q⟩
end

/-! ### comparisons -/
/-- the scalars that == tells apart as data does -/
def scal : V → V → Bool
  | .non, .non => true | .non, .int _ => true | .int _, .non => true | .non, .bl _ => true | .bl _, .non => true | .non, .str _ => true | .str _, .non => true
  | .int _, .int _ => true | .bl _, .bl _ => true | .str _, .str _ => true | .byt _, .byt _ => true
  | .int _, .str _ => true | .str _, .int _ => true | .bl _, .str _ => true | .str _, .bl _ => true
  | _, _ => false
def rEq : R2 := fun x y H Q => scal x y = true ∧ Q (.bl (decide (x = y))) H
def rNe : R2 := fun x y H Q => scal x y = true ∧ Q (.bl (!decide (x = y))) H

theorem dec_int {i j : Int} : decide (V.int i = V.int j) = (i == j) := by
  rw [Bool.eq_iff_iff]
  simp
theorem dec_bl {i j : Bool} : decide (V.bl i = V.bl j) = (i == j) := by
  rw [Bool.eq_iff_iff]
  simp
theorem dec_str {i j : Str} : decide (V.str i = V.str j) = (i == j) := by
  rw [Bool.eq_iff_iff]
  simp
theorem dec_byt {i j : Array UInt8} : decide (V.byt i = V.byt j) = (i.toList == j.toList) := by
  rw [Bool.eq_iff_iff]
  cases i
  cases j
  simp

section
variable {X : Cx} {a b c : Expr} {ta tb tc : TE} {pos : Pos}
theorem fin_bl {pins : List (Addr × Obj)} {σ : St} {H : Hp} {s : Shared} {Q : VK} {k k' : Bool} (I : Inv X pins σ H s) (q : Q (.bl k) H) (e : k = k') : EP X pins σ Q (.bool k') s := by
  subst e
  exact ⟨.bl k, H, I, rfl, q⟩
theorem op_eq : OpR X (compareOp .Eq) rEq := by
  intro pins s σ H x y v u Q I rx ry h
  obtain ⟨hs, q⟩ := h
  cases x with
  | non =>
    cases rx
    cases y with
    | non => cases ry; exact PySem.EqNone.eq_none_none (fin_bl I q (by simp))
    | bl j => cases ry; exact PySem.EqNone.eq_none_bool (fin_bl I q (by simp))
    | int j => obtain ⟨t', rfl⟩ := ry; exact PySem.EqNone.eq_none_int (fin_bl I q (by simp))
    | str j => obtain ⟨t', rfl⟩ := ry; exact PySem.EqNone.eq_none_str (fin_bl I q (by simp))
    | _ => exact absurd (show false = true from hs) Bool.false_ne_true
  | bl i =>
    cases rx
    cases y with
    | non => cases ry; exact PySem.EqNone.eq_bool_none (fin_bl I q (by simp))
    | bl j => cases ry; exact eq_bool (fin_bl I q dec_bl)
    | str j => obtain ⟨t', rfl⟩ := ry; exact PySem.EqMixed.eq_bool_str (fin_bl I q (by simp))
    | _ => exact absurd (show false = true from hs) Bool.false_ne_true
  | int i =>
    obtain ⟨t, rfl⟩ := rx
    cases y with
    | non => cases ry; exact PySem.EqNone.eq_int_none (fin_bl I q (by simp))
    | int j => obtain ⟨t', rfl⟩ := ry; exact eq_int (fin_bl I q dec_int)
    | str j => obtain ⟨t', rfl⟩ := ry; exact PySem.EqMixed.eq_int_str (fin_bl I q (by simp))
    | _ => exact absurd (show false = true from hs) Bool.false_ne_true
  | str i =>
    obtain ⟨t, rfl⟩ := rx
    cases y with
    | non => cases ry; exact PySem.EqNone.eq_str_none (fin_bl I q (by simp))
    | bl j => cases ry; exact PySem.EqMixed.eq_str_bool (fin_bl I q (by simp))
    | int j => obtain ⟨t', rfl⟩ := ry; exact PySem.EqMixed.eq_str_int (fin_bl I q (by simp))
    | str j => obtain ⟨t', rfl⟩ := ry; exact eq_str (fin_bl I q dec_str)
    | _ => exact absurd (show false = true from hs) Bool.false_ne_true
  | byt i =>
    obtain ⟨t, rfl⟩ := rx
    cases y with
    | byt j => obtain ⟨t', rfl⟩ := ry; exact PySem.W.eq_bytes (fin_bl I q dec_byt)
    | _ => exact absurd (show false = true from hs) Bool.false_ne_true
  | _ => cases y <;> exact absurd (show false = true from hs) Bool.false_ne_true
theorem op_ne : OpR X (compareOp .NotEq) rNe := by
  intro pins s σ H x y v u Q I rx ry h
  obtain ⟨hs, q⟩ := h
  cases x with
  | non =>
    cases rx
    cases y with
    | non => cases ry; exact PySem.EqNone.ne_none_none (fin_bl I q (by simp))
    | bl j => cases ry; exact PySem.EqNone.ne_none_bool (fin_bl I q (by simp))
    | int j => obtain ⟨t', rfl⟩ := ry; exact PySem.EqNone.ne_none_int (fin_bl I q (by simp))
    | str j => obtain ⟨t', rfl⟩ := ry; exact PySem.EqNone.ne_none_str (fin_bl I q (by simp))
    | _ => exact absurd (show false = true from hs) Bool.false_ne_true
  | bl i =>
    cases rx
    cases y with
    | non => cases ry; exact PySem.EqNone.ne_bool_none (fin_bl I q (by simp))
    | bl j => cases ry; exact ne_bool (fin_bl I q (congrArg not dec_bl))
    | str j => obtain ⟨t', rfl⟩ := ry; exact PySem.EqMixed.ne_bool_str (fin_bl I q (by simp))
    | _ => exact absurd (show false = true from hs) Bool.false_ne_true
  | int i =>
    obtain ⟨t, rfl⟩ := rx
    cases y with
    | non => cases ry; exact PySem.EqNone.ne_int_none (fin_bl I q (by simp))
    | int j => obtain ⟨t', rfl⟩ := ry; exact ne_int (fin_bl I q (congrArg not dec_int))
    | str j => obtain ⟨t', rfl⟩ := ry; exact PySem.EqMixed.ne_int_str (fin_bl I q (by simp))
    | _ => exact absurd (show false = true from hs) Bool.false_ne_true
  | str i =>
    obtain ⟨t, rfl⟩ := rx
    cases y with
    | non => cases ry; exact PySem.EqNone.ne_str_none (fin_bl I q (by simp))
    | bl j => cases ry; exact PySem.EqMixed.ne_str_bool (fin_bl I q (by simp))
    | int j => obtain ⟨t', rfl⟩ := ry; exact PySem.EqMixed.ne_str_int (fin_bl I q (by simp))
    | str j => obtain ⟨t', rfl⟩ := ry; exact ne_str (fin_bl I q (congrArg not dec_str))
    | _ => exact absurd (show false = true from hs) Bool.false_ne_true
  | byt i =>
    obtain ⟨t, rfl⟩ := rx
    cases y with
    | byt j => obtain ⟨t', rfl⟩ := ry; exact PySem.W.ne_bytes (fin_bl I q (congrArg not dec_byt))
    | _ => exact absurd (show false = true from hs) Bool.false_ne_true
  | _ => cases y <;> exact absurd (show false = true from hs) Bool.false_ne_true

theorem op_lt : OpR X (compareOp .Lt) (rI0 fun i j => .bl (decide (i < j))) := opB0 fun _ _ _ _ _ _ _ q => lt_int q
theorem op_le : OpR X (compareOp .LtE) (rI0 fun i j => .bl (decide (i ≤ j))) := opB0 fun _ _ _ _ _ _ _ q => le_int q
theorem op_gt : OpR X (compareOp .Gt) (rI0 fun i j => .bl (decide (j < i))) := opB0 fun _ _ _ _ _ _ _ q => gt_int q
theorem op_ge : OpR X (compareOp .GtE) (rI0 fun i j => .bl (decide (j ≤ i))) := opB0 fun _ _ _ _ _ _ _ q => ge_int q
theorem op_lt_str : OpR X (compareOp .Lt) (fun x y H Q => ∃ i j, x = .str i ∧ y = .str j ∧ Q (.bl (decide (i.cps.toList < j.cps.toList))) H) := by
  intro pins s σ H x y v u Q I rx ry h
  obtain ⟨i, j, rfl, rfl, q⟩ := h
  obtain ⟨t, rfl⟩ := rx
  obtain ⟨t', rfl⟩ := ry
  exact lt_str (fin_bl I q rfl)
/-- the one string within the other -/
theorem op_in_str : OpR X (compareOp .In) (fun x y H Q => ∃ i j, x = .str i ∧ y = .str j ∧ Q (.bl (!(Builtin.Str.occurrences j i 0 j.length 1).isEmpty)) H) := by
  intro pins s σ H x y v u Q I rx ry h
  obtain ⟨i, j, rfl, rfl, q⟩ := h
  obtain ⟨t, rfl⟩ := rx
  obtain ⟨t', rfl⟩ := ry
  exact in_str (fin_bl I q rfl)

/-- is None, is not None: the right side a value none -/
theorem op_isN : OpR X (compareOp .Is) (fun x y H Q => y = .non ∧ Q (.bl (decide (x = .non))) H) := by
  intro pins s σ H x y v u Q I rx ry h
  obtain ⟨rfl, q⟩ := h
  cases ry
  refine is_none_gen (fin_bl I q ?_)
  cases x <;> first
    | (cases rx; rfl)
    | (obtain ⟨t, rfl⟩ := rx; rfl)
theorem op_notN : OpR X (compareOp .IsNot) (fun x y H Q => y = .non ∧ Q (.bl (!decide (x = .non))) H) := by
  intro pins s σ H x y v u Q I rx ry h
  obtain ⟨rfl, q⟩ := h
  cases ry
  refine isnot_none_gen (fin_bl I q ?_)
  cases x <;> first
    | (cases rx; rfl)
    | (obtain ⟨t, rfl⟩ := rx; rfl)

theorem op_notin_str : OpR X (compareOp .NotIn) (fun x y H Q => ∃ i j, x = .str i ∧ y = .str j ∧ Q (.bl (!(!(Builtin.Str.occurrences j i 0 j.length 1).isEmpty))) H) := by
  intro pins s σ H x y v u Q I rx ry h
  obtain ⟨i, j, rfl, rfl, q⟩ := h
  obtain ⟨t, rfl⟩ := rx
  obtain ⟨t', rfl⟩ := ry
  exact notIn_str (fin_bl I q rfl)
/-- is, is not of two objects that are tracked lists or instances -/
def isObj : HO → Bool
  | .lst _ => true
  | .ins _ _ _ => true
  | _ => false
theorem obj_there {pins : List (Addr × Obj)} {s : Shared} {σ : St} {H : Hp} {a : Addr} {o : HO} (I : Inv X pins σ H s) (h : H a = some o) (p : isObj o = true) : ∃ ob, s.heap.get? a = some ob ∧ ob.cls ≠ .type "tuple" := by
  cases o with
  | lst xs =>
    obtain ⟨_, its, n, _, e⟩ : xs.length ≤ sizeLine ∧ ∃ (its : List Value) (n : Nat), Vals xs its ∧ s.heap.get? a = some { cls := .type "list", data := .seq its.toArray n } := I.hok a _ h
    exact ⟨_, e, (by show Value.type "list" ≠ .type "tuple"; decide +kernel)⟩
  | ins C dx fs =>
    have x := I.hok a _ h
    obtain ⟨_, _, _, e, _⟩ := x
    exact ⟨_, e, (by show Value.ref C ≠ .type "tuple"; exact fun z => by cases z)⟩
  | _ => exact absurd (show false = true from p) Bool.false_ne_true
theorem op_is_ref : OpR X (compareOp .Is) (fun x y H Q => ∃ a b oa ob, x = .ref a ∧ y = .ref b ∧ H a = some oa ∧ isObj oa = true ∧ H b = some ob ∧ isObj ob = true ∧ Q (.bl (decide (a = b))) H) := by
  intro pins s σ H x y v u Q I rx ry h
  obtain ⟨a, b, oa, ob, rfl, rfl, ha, pa, hb, pb, q⟩ := h
  cases rx
  cases ry
  obtain ⟨o1, e1, n1⟩ := obj_there I ha pa
  obtain ⟨o2, e2, _⟩ := obj_there I hb pb
  by_cases z : a = b
  · subst z
    exact wpAny_is_ref_self (fin_bl I q (by simp))
  · exact wpAny_is_ref_other z e1 e2 n1 (fin_bl I q (by simp [z]))
theorem op_isnot_ref : OpR X (compareOp .IsNot) (fun x y H Q => ∃ a b oa ob, x = .ref a ∧ y = .ref b ∧ H a = some oa ∧ isObj oa = true ∧ H b = some ob ∧ isObj ob = true ∧ Q (.bl (!decide (a = b))) H) := by
  intro pins s σ H x y v u Q I rx ry h
  obtain ⟨a, b, oa, ob, rfl, rfl, ha, pa, hb, pb, q⟩ := h
  cases rx
  cases ry
  obtain ⟨o1, e1, n1⟩ := obj_there I ha pa
  obtain ⟨o2, e2, _⟩ := obj_there I hb pb
  by_cases z : a = b
  · subst z
    exact wpAny_isNot_ref_self (fin_bl I q (by simp))
  · exact wpAny_isNot_ref_other z e1 e2 n1 (fin_bl I q (by simp [z]))

/-- two rules for one operation: by cases -/
theorem OpR.or {f : Value → Value → Sem Value} {r r' : R2} (h : OpR X f r) (h' : OpR X f r') : OpR X f (fun x y H Q => r x y H Q ∨ r' x y H Q) := by
  intro pins s σ H x y v u Q I rx ry q
  rcases q with q | q
  · exact h pins s σ H x y v u Q I rx ry q
  · exact h' pins s σ H x y v u Q I rx ry q

theorem nomark (b : Expr) {op : CmpOp} (h : op ≠ .In := by decide) (h2 : op ≠ .NotIn := by decide) : behindInMarks op b = false := by
  have e1 : (op == CmpOp.In) = false := by cases op <;> first | rfl | exact absurd rfl h
  have e2 : (op == CmpOp.NotIn) = false := by cases op <;> first | rfl | exact absurd rfl h2
  cases b <;> simp [behindInMarks, e1, e2]
/-- a comparison as a value; hm: nomark b, or (for in, not in) by with_unfolding_all rfl -/
theorem pe_cmpR {op : CmpOp} {r : R2} (ho : OpR X (compareOp op) r) (ha : PE X a ta) (hb : PE X b tb) (hm : behindInMarks op b = false) : PE X (.Compare a [op] [b] pos) (tOp r ta tb) := by
  intro pins s σ H Q I h
  exact wpAny_Compare1 (binT ha hb I h fun v u s2 x y H2 I2 rx ry q => ho pins s2 σ H2 x y v u Q I2 rx ry q) hm
/-- a reading of a value as a test -/
def tTest (t : TE) : TT := fun σ H Q => t σ H fun x H' => ∃ k, x = .bl k ∧ Q k H'
theorem pt_cmpR {op : CmpOp} {r : R2} (ho : OpR X (compareOp op) r) (ha : PE X a ta) (hb : PE X b tb) (hm : behindInMarks op b = false) : PT X (.Compare a [op] [b] pos) (tTest (tOp r ta tb)) := by
  intro pins s σ H Q I h
  refine wpAny_isTrue_Compare1 (thn (ha pins s σ H _ I h) fun v s1 ⟨x, H1, I1, r1, q1⟩ => thn (hb pins s1 σ H1 _ I1 q1) fun u s2 ⟨y, H2, I2, r2, q2⟩ =>
    thn (ho pins s2 σ H2 x y v u _ I2 r1 r2 q2) fun c s3 ⟨z, H3, I3, r3, k, e, q3⟩ => ?_) hm
  subst e
  cases r3
  exact wpAny_truthy_bool ⟨H3, I3, q3⟩
/-- a op1 b op2 c -/
def tChain (r r' : R2) (ta tb tc : TE) : TE := fun σ H Q => ta σ H fun x H1 => tb σ H1 fun y H2 => r x y H2 fun z H3 => ∃ k, z = .bl k ∧
  (if k = true then tc σ H3 fun w' H4 => r' y w' H4 Q else Q (.bl false) H3)
theorem pe_chain {op op' : CmpOp} {r r' : R2} (ho : OpR X (compareOp op) r) (ho' : OpR X (compareOp op') r') (ha : PE X a ta) (hb : PE X b tb) (hc : PE X c tc)
    (hm : lastMarks [op, op'] [b, c] = false := by with_unfolding_all rfl) : PE X (.Compare a [op, op'] [b, c] pos) (tChain r r' ta tb tc) := by
  intro pins s σ H Q I h
  refine Compare_chain (thn (ha pins s σ H _ I h) fun v s1 ⟨x, H1, I1, r1, q1⟩ => chain_link (thn (hb pins s1 σ H1 _ I1 q1) fun u s2 ⟨y, H2, I2, r2, q2⟩ =>
    thn (ho pins s2 σ H2 x y v u _ I2 r1 r2 q2) fun d s3 ⟨z, H3, I3, r3, k, e, q3⟩ => ?_)) hm
  subst e
  cases r3
  refine wpAny_truthy_bool ?_
  cases k with
  | false => exact ite_ff ⟨.bl false, H3, I3, rfl, q3⟩
  | true => exact ite_tt (chain_last (thn (hc pins s3 σ H3 _ I3 q3) fun w' s4 ⟨z', H4, I4, r4, q4⟩ => ho' pins s4 σ H4 y z' u w' Q I4 r2 r4 q4))
theorem pt_chain {op op' : CmpOp} {r r' : R2} (ho : OpR X (compareOp op) r) (ho' : OpR X (compareOp op') r') (ha : PE X a ta) (hb : PE X b tb) (hc : PE X c tc)
    (hm : lastMarks [op, op'] [b, c] = false := by with_unfolding_all rfl) : PT X (.Compare a [op, op'] [b, c] pos) (tTest (tChain r r' ta tb tc)) := by
  intro pins s σ H Q I h
  refine isTrue_chain (thn (ha pins s σ H _ I h) fun v s1 ⟨x, H1, I1, r1, q1⟩ => test_link (thn (hb pins s1 σ H1 _ I1 q1) fun u s2 ⟨y, H2, I2, r2, q2⟩ =>
    thn (ho pins s2 σ H2 x y v u _ I2 r1 r2 q2) fun d s3 ⟨z, H3, I3, r3, k, e, q3⟩ => ?_)) hm
  subst e
  cases r3
  refine wpAny_truthy_bool ?_
  cases k with
  | false =>
    obtain ⟨k', e', q'⟩ := q3
    cases e'
    exact ite_ff ⟨H3, I3, q'⟩
  | true =>
    refine ite_tt (test_last (thn (hc pins s3 σ H3 _ I3 q3) fun w' s4 ⟨z', H4, I4, r4, q4⟩ => thn (ho' pins s4 σ H4 y z' u w' _ I4 r2 r4 q4) fun d' s5 ⟨z2, H5, I5, r5, k2, e2, q5⟩ => ?_))
    subst e2
    cases r5
    exact wpAny_truthy_bool ⟨H5, I5, q5⟩

/-! ### truth -/
/-- a value's truth by the abstract heap -/
def TruV (K : PySem.W.Frag) (x : V) (H : Hp) (k : Bool) : Prop :=
  match x with
  | .non => k = false
  | .bl b => k = b
  | .int i => k = (i != 0)
  | .str y => y.length ≤ sizeLine ∧ k = ((y.length : Int) != 0)
  | .byt y => y.size ≤ sizeLine ∧ k = ((y.size : Int) != 0)
  | .ref p => (∃ xs, SqL K H p xs ∧ k = !xs.isEmpty) ∨ (∃ xs, SqT K H p xs ∧ k = !xs.isEmpty) ∨ ∃ kvs, H p = some (.dK kvs) ∧ k = !kvs.isEmpty
  | _ => False
theorem isEmpty_kv {κ : Type} {kvs : List (κ × V)} {vs : List (κ × Value)} (r : KV kvs vs) : (!vs.isEmpty) = !kvs.isEmpty := by
  cases r <;> rfl
theorem isEmpty_of {xs : List V} {its : List Value} (r : Vals xs its) : (!its.toArray.isEmpty) = !xs.isEmpty := by
  cases r <;> simp
theorem line63 : (sizeLine : Nat) < 2 ^ 63 := by rw [sizeLine_eq]; decide
theorem tru_ok : TruR X (fun x H Q => ∃ k, TruV X.K x H k ∧ Q k H) := by
  intro pins s σ H x v Q I rx h
  obtain ⟨k, e, q⟩ := h
  have hl := line63
  have hs : sizeLine = 16777216 := sizeLine_eq
  cases x with
  | non =>
    cases rx
    have e' : k = false := e
    subst e'
    exact truthy_none ⟨H, I, q⟩
  | bl b =>
    cases rx
    have e' : k = b := e
    subst e'
    exact wpAny_truthy_bool ⟨H, I, q⟩
  | int i =>
    obtain ⟨t, rfl⟩ := rx
    have e' : k = (i != 0) := e
    subst e'
    exact PySem.P.truthy_int ⟨H, I, q⟩
  | str y =>
    obtain ⟨t, rfl⟩ := rx
    obtain ⟨hy, e'⟩ : y.length ≤ sizeLine ∧ k = ((y.length : Int) != 0) := e
    subst e'
    exact PySem.P.truthy_str (by omega) ⟨H, I.tok _, q⟩
  | byt y =>
    obtain ⟨t, rfl⟩ := rx
    obtain ⟨hy, e'⟩ : y.size ≤ sizeLine ∧ k = ((y.size : Int) != 0) := e
    subst e'
    exact PySem.W.truthy_bytes (by omega) ⟨H, I.tok _, q⟩
  | ref p =>
    cases rx
    have e' : (∃ xs, SqL X.K H p xs ∧ k = !xs.isEmpty) ∨ (∃ xs, SqT X.K H p xs ∧ k = !xs.isEmpty) ∨ ∃ kvs, H p = some (.dK kvs) ∧ k = !kvs.isEmpty := e
    rcases e' with ⟨xs, hx, e'⟩ | ⟨xs, hx, e'⟩ | ⟨kvs, hx, e'⟩
    · subst e'
      obtain ⟨its, r, pl, hz⟩ := I.list hx
      have hlen := r.length
      exact wpAny_truthy_list pl.isList (by simp only [List.size_toArray]; omega) ⟨H, I.tok _, by rw [isEmpty_of r]; exact q⟩
    · subst e'
      obtain ⟨its, r, pl, hz⟩ := I.tuple hx
      have hlen := r.length
      exact truthy_tuple pl (by simp only [List.size_toArray]; omega) ⟨H, I.tok _, by rw [isEmpty_of r]; exact q⟩
    · subst e'
      obtain ⟨hz, hS, vs, r, m⟩ : kvs.length ≤ sizeLine ∧ (p == sysModules) = false ∧ ∃ vs, KV kvs vs ∧ s.heap.DictOf (mixKind X.prog X.w) p vs := I.hok p _ hx
      have hlen : kvs.length = vs.length := Paired.length r
      exact wpAny_truthy_dict hS m (by omega) ⟨H, I.tok _, by rw [isEmpty_kv r]; exact q⟩
  | _ => exact (show False from e).elim
/-- any expression whose test is its value's truth (a name, a call, a subscript, a field ..: he by fun _ => rfl) -/
theorem pt_truth (ha : PE X a ta) (he : ∀ whole, isTrue a X.env whole = (do let v ← whole; standAt a.pos; holding [v] (truthy v))) :
    PT X a (fun σ H Q => ta σ H fun x H' => ∃ k, TruV X.K x H' k ∧ Q k H') := by
  intro pins s σ H Q I h
  exact isTrue_plain (thn (ha pins s σ H _ I h) fun v s1 ⟨x, H1, I1, r1, q1⟩ => tru_ok pins s1 σ H1 x v Q I1 r1 q1) (he _)

/-! ### strs and bytes -/
theorem pe_byt {x : List UInt8} {k : Nat} : PE X (.Constant (.bytes x) k pos) (fun _ H Q => Q (.byt x.toArray) H) := fun _ _ _ H _ I h => PySem.W.Constant_bytes ⟨.byt x.toArray, H, I.tok _, ⟨_, rfl⟩, h⟩
theorem op_add_str : OpR X (binaryOp .Add) (fun x y H Q => ∃ i j, x = .str i ∧ y = .str j ∧ i.length + j.length ≤ sizeLine ∧ Q (.str (i ++ j)) H) := by
  intro pins s σ H x y v u Q I rx ry h
  obtain ⟨i, j, rfl, rfl, hz, q⟩ := h
  obtain ⟨t, rfl⟩ := rx
  obtain ⟨t', rfl⟩ := ry
  exact add_str (fun t' tk => ⟨.str (i ++ j), H, I.tok _, ⟨_, rfl⟩, q⟩) hz
theorem iop_add_str : OpR X (inplaceOp .Add) (fun x y H Q => ∃ i j, x = .str i ∧ y = .str j ∧ i.length + j.length ≤ sizeLine ∧ Q (.str (i ++ j)) H) := by
  intro pins s σ H x y v u Q I rx ry h
  obtain ⟨i, j, rfl, rfl, hz, q⟩ := h
  obtain ⟨t, rfl⟩ := rx
  obtain ⟨t', rfl⟩ := ry
  exact iadd_str (fun t' tk => ⟨.str (i ++ j), H, I.tok _, ⟨_, rfl⟩, q⟩) hz
theorem op_add_byt : OpR X (binaryOp .Add) (fun x y H Q => ∃ i j, x = .byt i ∧ y = .byt j ∧ i.size + j.size ≤ 16777216 ∧ Q (.byt (i ++ j)) H) := by
  intro pins s σ H x y v u Q I rx ry h
  obtain ⟨i, j, rfl, rfl, hz, q⟩ := h
  obtain ⟨t, rfl⟩ := rx
  obtain ⟨t', rfl⟩ := ry
  exact PySem.W.KBy.add_bytes hz (fun t' tk => ⟨.byt (i ++ j), H, I.tok _, ⟨_, rfl⟩, q⟩)

def PlainIxT (b : Expr) : Prop := ∀ o i, subscripted b false o i = operate [o, i] (getItem o i)
/-- s[i], 0 ≤ i < len -/
theorem pe_item_str (ha : PE X a ta) (hb : PE X b tb) (hs : PlainIxT b) :
    PE X (.Subscript a b pos) (tOp (fun x y H Q => ∃ z i c, x = .str z ∧ y = .int i ∧ 0 ≤ i ∧ i < 2 ^ 63 ∧ i < z.length ∧ z.cps[i.toNat]? = some c ∧ Q (.str ⟨#[c]⟩) H) ta tb) := by
  intro pins s σ H Q I h
  refine Subscript_ (binT ha hb I h fun v u s2 x y H2 I2 rx ry q => ?_)
  obtain ⟨z, i, c, rfl, rfl, h0, h63, h1, hc, q⟩ := q
  obtain ⟨t, rfl⟩ := rx
  obtain ⟨t', rfl⟩ := ry
  have e : seqIndex? i z.length = some i.toNat := PySem.StrLaws.seqIndex_nonneg h0 h1
  exact tail_any (typeIs_str s2 z t) slot_str_getitem.lookup (getItem_str (c := c) (by
    have e1 : decide (i < -(2 ^ 63 : Int)) = false := decide_eq_false (by omega)
    have e2 : decide (i ≥ 2 ^ 63) = false := decide_eq_false (by omega)
    rw [e1, e2] <;> rfl) (by rw [e]; exact hc) ⟨.str ⟨#[c]⟩, H2, I2.tok _, ⟨_, rfl⟩, q⟩) (hs _ _)
/-- b[i], 0 ≤ i < len -/
theorem pe_item_byt (ha : PE X a ta) (hb : PE X b tb) (hs : PlainIxT b) :
    PE X (.Subscript a b pos) (tOp (fun x y H Q => ∃ (z : List UInt8) (i : Int), x = .byt z.toArray ∧ y = .int i ∧ z.length ≤ sizeLine ∧ 0 ≤ i ∧ i < z.length ∧ Q (.int ((z.getD i.toNat 0).toNat : Nat)) H) ta tb) := by
  intro pins s σ H Q I h
  refine Subscript_ (binT ha hb I h fun v u s2 x y H2 I2 rx ry q => ?_)
  obtain ⟨z, i, rfl, rfl, hz, h0, h1, q⟩ := q
  obtain ⟨t, rfl⟩ := rx
  obtain ⟨t', rfl⟩ := ry
  have hl : sizeLine = 16777216 := sizeLine_eq
  exact tail_any (PySem.W.typeIs_bytes s2 z.toArray t) PySem.W.FB.slot_bytes_getitem.lookup (PySem.W.getItem_bytes (by omega) h0 h1 ⟨.int ((z.getD i.toNat 0).toNat : Nat), H2, I2.tok _, ⟨_, rfl⟩, q⟩) (hs _ _)

/-! ### scalar builtins, by CallR -/
theorem vals1 {x : V} {us : List Value} (r : Vals [x] us) : ∃ u, us = [u] ∧ RelV x u := by
  cases r with
  | cons r1 r2 => cases r2; exact ⟨_, rfl, r1⟩
theorem vals2 {x y : V} {us : List Value} (r : Vals [x, y] us) : ∃ u w', us = [u, w'] ∧ RelV x u ∧ RelV y w' := by
  cases r with
  | cons r1 r2 =>
    cases r2 with
    | cons r3 r4 => cases r4; exact ⟨_, _, rfl, r1, r3⟩
theorem call_abs : CallR X (.builtin "abs") (fun xs H Q => ∃ i, xs = [.int i] ∧ Q (.int (if i < 0 then -i else i)) H) := by
  intro pins s σ H xs us Q I r h
  obtain ⟨i, rfl, q⟩ := h
  obtain ⟨u, rfl, t, rfl⟩ := vals1 r
  exact call_abs_int fun u tk => ⟨.int (if i < 0 then -i else i), H, I.tok _, ⟨_, rfl⟩, q⟩
theorem call_max2 (hc : X.calm = true) : CallR X (.builtin "max") (fun xs H Q => ∃ i j, xs = [.int i, .int j] ∧ Q (.int (if j > i then j else i)) H) := by
  intro pins s σ H xs us Q I r h
  obtain ⟨i, j, rfl, q⟩ := h
  obtain ⟨u, w', rfl, ⟨t, rfl⟩, ⟨t', rfl⟩⟩ := vals2 r
  refine max_two_ints (I.ok.hd hc) fun h' tk k => ⟨_, H, I.kept k, ?_, q⟩
  by_cases hj : j > i
  · rw [if_pos hj, if_pos hj]; exact ⟨_, rfl⟩
  · rw [if_neg hj, if_neg hj]; exact ⟨_, rfl⟩
theorem call_min2 (hc : X.calm = true) : CallR X (.builtin "min") (fun xs H Q => ∃ i j, xs = [.int i, .int j] ∧ Q (.int (if j < i then j else i)) H) := by
  intro pins s σ H xs us Q I r h
  obtain ⟨i, j, rfl, q⟩ := h
  obtain ⟨u, w', rfl, ⟨t, rfl⟩, ⟨t', rfl⟩⟩ := vals2 r
  refine min_two_ints (I.ok.hd hc) fun h' tk k => ⟨_, H, I.kept k, ?_, q⟩
  by_cases hj : j < i
  · rw [if_pos hj, if_pos hj]; exact ⟨_, rfl⟩
  · rw [if_neg hj, if_neg hj]; exact ⟨_, rfl⟩
theorem call_int1 : CallR X (.type "int") (fun xs H Q => (∃ i, xs = [.int i] ∧ Q (.int i) H) ∨ ∃ k, xs = [.bl k] ∧ Q (.int (if k then 1 else 0)) H) := by
  intro pins s σ H xs us Q I r h
  rcases h with ⟨i, rfl, q⟩ | ⟨k, rfl, q⟩
  · obtain ⟨u, rfl, t, rfl⟩ := vals1 r
    exact call_int_int ⟨.int i, H, I, ⟨_, rfl⟩, q⟩
  · obtain ⟨u, rfl, r1⟩ := vals1 r
    cases r1
    exact call_int_bool ⟨.int (if k then 1 else 0), H, I.tok _, ⟨_, rfl⟩, q⟩
theorem call_bool1 : CallR X (.type "bool") (fun xs H Q => (∃ i, xs = [.int i] ∧ Q (.bl (i != 0)) H) ∨ ∃ k, xs = [.bl k] ∧ Q (.bl k) H) := by
  intro pins s σ H xs us Q I r h
  rcases h with ⟨i, rfl, q⟩ | ⟨k, rfl, q⟩
  · obtain ⟨u, rfl, t, rfl⟩ := vals1 r
    exact call_bool_int ⟨.bl (i != 0), H, I, rfl, q⟩
  · obtain ⟨u, rfl, r1⟩ := vals1 r
    cases r1
    exact call_bool_bool ⟨.bl k, H, I, rfl, q⟩
theorem call_str_int : CallR X (.type "str") (fun xs H Q => ∃ i, xs = [.int i] ∧ i.natAbs.log2 < 1920 ∧ Q (.str (toString i)) H) := by
  intro pins s σ H xs us Q I r h
  obtain ⟨i, rfl, hz, q⟩ := h
  obtain ⟨u, rfl, t, rfl⟩ := vals1 r
  exact PySem.P.str_of_int hz ⟨.str _, H, I.tok _, ⟨_, rfl⟩, q⟩
theorem call_ord : CallR X (.builtin "ord") (fun xs H Q => ∃ x, xs = [.str x] ∧ x.length = 1 ∧ Q (.int (x.cps.getD 0 0 : Nat)) H) := by
  intro pins s σ H xs us Q I r h
  obtain ⟨x, rfl, hz, q⟩ := h
  obtain ⟨u, rfl, t, rfl⟩ := vals1 r
  exact ord_of_one hz ⟨.int _, H, I.tok _, ⟨_, rfl⟩, q⟩
theorem call_chr : CallR X (.builtin "chr") (fun xs H Q => ∃ i, xs = [.int i] ∧ 0 ≤ i ∧ i ≤ 1114111 ∧ Q (.str ⟨#[i.toNat]⟩) H) := by
  intro pins s σ H xs us Q I r h
  obtain ⟨i, rfl, h0, h1, q⟩ := h
  obtain ⟨u, rfl, t, rfl⟩ := vals1 r
  exact chr_of_range h0 h1 ⟨.str _, H, I.tok _, ⟨_, rfl⟩, q⟩
/-- len of a str, a bytes, a list, a tuple -/
def LenV (K : PySem.W.Frag) (x : V) (H : Hp) (n : Nat) : Prop :=
  match x with
  | .str y => y.length ≤ sizeLine ∧ n = y.length
  | .byt y => y.size ≤ sizeLine ∧ n = y.size
  | .ref p => (∃ xs, SqL K H p xs ∧ n = xs.length) ∨ ∃ xs, SqT K H p xs ∧ n = xs.length
  | _ => False
theorem call_len : CallR X (.builtin "len") (fun xs H Q => ∃ x n, xs = [x] ∧ LenV X.K x H n ∧ Q (.int n) H) := by
  intro pins s σ H xs us Q I r h
  obtain ⟨x, n, rfl, e, q⟩ := h
  obtain ⟨u, rfl, rx⟩ := vals1 r
  have hl := line63
  have hs : sizeLine = 16777216 := sizeLine_eq
  cases x with
  | str y =>
    obtain ⟨t, rfl⟩ := rx
    obtain ⟨hy, e'⟩ : y.length ≤ sizeLine ∧ n = y.length := e
    subst e'
    exact len_str (by omega) ⟨.int _, H, I.tok _, ⟨_, rfl⟩, q⟩
  | byt y =>
    obtain ⟨t, rfl⟩ := rx
    obtain ⟨hy, e'⟩ : y.size ≤ sizeLine ∧ n = y.size := e
    subst e'
    exact PySem.W.len_bytes (by omega) ⟨.int _, H, I.tok _, ⟨_, rfl⟩, q⟩
  | ref p =>
    cases rx
    have e' : (∃ xs, SqL X.K H p xs ∧ n = xs.length) ∨ ∃ xs, SqT X.K H p xs ∧ n = xs.length := e
    rcases e' with ⟨xs, hx, e'⟩ | ⟨xs, hx, e'⟩
    · subst e'
      obtain ⟨its, r', pl, hz⟩ := I.list hx
      have hlen := r'.length
      exact Calls.call_len_list pl.isList (by simp only [List.size_toArray]; omega) ⟨.int xs.length, H, I.tok _, ⟨_, by simp only [List.size_toArray]; rw [hlen]⟩, q⟩
    · subst e'
      obtain ⟨its, r', pl, hz⟩ := I.tuple hx
      have hlen := r'.length
      exact len_tuple pl (by simp only [List.size_toArray]; omega) ⟨.int xs.length, H, I.tok _, ⟨_, by simp only [List.size_toArray]; rw [hlen]⟩, q⟩
  | _ => exact (show False from e).elim
/-- divmod: a new tuple -/
theorem call_divmod : CallR X (.builtin "divmod") (fun xs H Q => ∃ i j, xs = [.int i, .int j] ∧ CDiv i j ∧ ∀ p, H p = none → Q (.ref p) (upd H p (.tup [.int (i / j), .int (i % j)]))) := by
  intro pins s σ H xs us Q I r h
  obtain ⟨i, j, rfl, ⟨h1, h2⟩, q⟩ := h
  obtain ⟨u, w', rfl, ⟨t, rfl⟩, ⟨t', rfl⟩⟩ := vals2 r
  refine divmod_int (by omega) ?_ (.inl (PyProof.noPylong_small (by omega)))
  rw [Int.fdiv_eq_ediv_of_nonneg i (by omega), Int.fmod_eq_emod_of_nonneg i (by omega)]
  have hn : H s.heap.objs.size = none := I.hok.fresh (Nat.le_refl _)
  refine ⟨.ref s.heap.objs.size, _, ?_, rfl, q _ hn⟩
  refine I.laid (fun b o e => Heap.get?_push_of_some _ e) (Nat.le_refl _) ⟨by simp only [List.length_cons, List.length_nil]; rw [sizeLine_eq]; decide, [.int (i / j) s.toks, .int (i % j) (s.toks + 1)], .cons ⟨_, rfl⟩ (.cons ⟨_, rfl⟩ .nil), ?_⟩
  exact ⟨_, Heap.get?_push_size s.heap rfl, rfl, 0, rfl⟩
end
end L2

namespace L2
open PySem PySem.Spec PyProof.Rows

/-! ### an instance, its attributes a map -/
structure ObjM (h : Heap) (x dx C : Addr) (mA : Str → Option Value) : Prop where
  obj : h.get? x = some (PySem.W.instObj C dx)
  ns : h.Ns1 dx mA
  ne : dx ≠ x

theorem lookIn_ns {h : Heap} {dx : Addr} {mA : Str → Option Value} (n : h.Ns1 dx mA) : ∃ od, h.get? dx = some od ∧ ∀ name, PySem.W.lookIn name od = some (mA name) := by
  obtain ⟨o, es, ep, ho, hd, hk, _, hm⟩ := n
  refine ⟨o, ho, fun name => ?_⟩
  have e := hm name
  unfold nsFind findBy at e
  rw [← Array.find?_toList] at e
  unfold PySem.W.lookIn
  rw [hd]
  dsimp only
  split
  · rename_i y q
    rw [q] at e
    exact congrArg some e
  · rename_i q
    rw [q] at e
    have a : es.toList.any (·.refKey) = false := by
      rw [List.any_eq_false]
      intro y hy
      obtain ⟨z, t, hkey⟩ := hk y (Array.mem_toList_iff.mp hy)
      simp [DictEntry.refKey, hkey]
    have a' : ¬ es.toList.any (·.refKey) = true := by rw [a]; exact Bool.false_ne_true
    rw [if_neg a']
    exact congrArg some e

theorem ObjM.look {h : Heap} {x dx C : Addr} {mA : Str → Option Value} (I : ObjM h x dx C mA) : ∃ od, PySem.W.InstAt h x (PySem.W.instObj C dx) C (some od) ∧ ∀ name, PySem.W.lookIn name od = some (mA name) :=
  let ⟨od, ho, hl⟩ := lookIn_ns I.ns
  ⟨od, ⟨I.obj, rfl, rfl, ho⟩, hl⟩

section
variable {prog : Program} {w : World} {A : Around} {E : Value → Shared → Prop} {s : Shared} {K : PySem.W.Frag} {x dx C f : Addr} {mA : Str → Option Value} {name : Str} {v : Value}

theorem get_map {expr : Bool} {Q : Value → Shared → Prop} (X : K.In s.heap) (I : ObjM s.heap x dx C mA) (hg : PySem.W.plainGet K C name = true) (hh : PySem.W.hasDictIn K C = true)
    (ha : PySem.W.findIn K (.ref C) name = some none) (hv : mA name = some v) (hv' : PySem.W.handedIn v = true) (h : Q v { s with toks := s.toks + 1 }) :
    wpAny (model prog w) A (getAttr (.ref x) name expr) Q E s := by
  obtain ⟨od, J, hl⟩ := I.look
  exact PySem.W.get_value X J (PySem.W.plainGet_of hg).1 (PySem.W.findObj_own hh ha rfl (by rw [hl, hv])) hv' h

theorem get_const {expr : Bool} {a : Value} {Q : Value → Shared → Prop} (X : K.In s.heap) (I : ObjM s.heap x dx C mA) (hg : PySem.W.plainGet K C name = true) (hh : PySem.W.hasDictIn K C = true)
    (ha : PySem.W.findIn K (.ref C) name = some (some a)) (hn : PySem.W.specialIn K a "__get__" = some none) (hc : PySem.W.copiedNames.contains name = false) (hv : mA name = none) (hv' : PySem.W.handedIn a = true)
    (h : Q a { s with toks := s.toks + 1 }) : wpAny (model prog w) A (getAttr (.ref x) name expr) Q E s := by
  obtain ⟨od, J, hl⟩ := I.look
  exact PySem.W.get_value X J (PySem.W.plainGet_of hg).1 (PySem.W.findObj_cls hh ha hn hv' hc (by rw [hl, hv])) hv' h

theorem get_meth {pl : Sem Bool} {Q : Value × List Value → Shared → Prop} (X : K.In s.heap) (I : ObjM s.heap x dx C mA) (hg : PySem.W.plainGet K C name = true)
    (hf : PySem.W.findIn K (.ref C) name = some (some (.ref f))) (ht : PySem.W.isFn K (.ref f) = true) (hv : mA name = none) (h : Q (.ref f, [.ref x]) s) :
    wpAny (model prog w) A (getMethod (.ref x) name pl) Q E s := by
  obtain ⟨od, J, hl⟩ := I.look
  exact PySem.W.method_fn X J (PySem.W.plainGet_of hg).1 (PySem.W.plainGet_of hg).2 hf (beq_iff_eq.mp ht) (by show (PySem.W.lookIn name od).map (·.isSome) = some false; rw [hl, hv]; rfl) h

theorem set_map {ns : List Str} {Q : Unit → Shared → Prop} (X : K.In s.heap) (I : ObjM s.heap x dx C mA)
    (hs : PySem.W.findIn K (.ref C) "__setattr__" = some (some (.builtin "object.__setattr__"))) (hp : PySem.W.plainOver K C = true) (ht : PySem.W.takerIn K C name = some none) (hh : PySem.W.hasDictIn K C = true)
    (hw : PySem.Within mA ns) (hsz : ns.length ≤ sizeLine)
    (h : ∀ h', ObjM h' x dx C (fun y => if y = name then some v else mA y) → Heap.SameBut dx s.heap h' → Q () { s with heap := h', toks := s.toks + 2 }) :
    wpAny (model prog w) A (setAttr (.ref x) name v) Q E s := by
  obtain ⟨od, J, hl⟩ := I.look
  refine PySem.W.set_plain X J hs (PySem.W.osa_open (s := { s with toks := s.toks + 1 }) (r := none) X J hp ht fun b => ?_)
  obtain ⟨cd, hc, hd'⟩ := PySem.W.any_some hh
  have hx : s.heap.get? x = some ⟨.ref C, some dx, .plain, #[]⟩ := I.obj
  refine wpAny_bind (wpAny_pure (wpAny_bind (wpAny_bind (wpAny_loadPart hx (wpAny_bind (PySem.W.Looks.here (s := { s with toks := s.toks + 1 }) (PySem.W.looks_clsIn X hc) ?_))))))
  rw [hd']
  refine wpAny_pure (a := some dx) (wpAny_bind (wpAny_pure (wpAny_bind ?_)))
  refine wpAny_nsSet1 (s := { s with toks := s.toks + 1 }) I.ns fun h' hn2 hs2 => ?_
  obtain ⟨oD, esD, epD, hoD, hdD, hcD⟩ := hn2.count (PySem.Within.cons name v hw)
  refine wpAny_bind (wpAny_lookBehind hoD (by rw [hdD]; exact pastItsLine_dict (Nat.le_trans hcD (by rw [List.length_cons]; omega))) ?_)
  exact wpAny_pure (h _ ⟨(hs2.2 _ (Ne.symm I.ne)).trans I.obj, hn2, I.ne⟩ hs2)

/-- C(..): the dict at the heap's end, the instance behind it; then its __init__ -/
theorem make_map {R : Result → Shared → Prop} {vs : List Value} {kw : List (Str × Value)} (X : K.In s.heap) (hm : PySem.W.makesIn K C = true)
    (hi : PySem.W.findIn K (.ref C) "__init__" = some (some (.ref f))) (hf : PySem.W.typeIn K (.ref f) = some (.type "function"))
    (h : codeAny (model prog w) (A.under (.builtin "type.__call__" ⟨.ref C :: vs, kw⟩)) (.call (.ref f) ⟨.ref (s.heap.objs.size + 1) :: vs, kw⟩) (PySem.W.InitBack (s.heap.objs.size + 1) R)
      { s with heap := (s.heap.push PySem.W.emptyDict).push (PySem.W.instObj C s.heap.objs.size) }) :
    codeAny (model prog w) A (.call (.ref C) ⟨vs, kw⟩) R s := by
  obtain ⟨hh, g, d, t, os⟩ := s
  exact PySem.W.make_core (PySem.W.makes_of X hm) (PySem.W.looks_findIn X hi) (fun self => PySem.W.bind_fn X self hf) (.inl rfl) h
/-- C() where there is no __init__ but object's -/
theorem make_map0 {R : Result → Shared → Prop} (X : K.In s.heap) (hm : PySem.W.makesIn K C = true)
    (hi : PySem.W.findIn K (.ref C) "__init__" = some (some (.builtin "object.__init__")))
    (hb : ∀ self, PySem.W.Looks (model prog w) s.heap (bindSpecial (.builtin "object.__init__") self) (.builtin "object.__init__", [self]))
    (h : codeAny (model prog w) (A.under (.builtin "type.__call__" ⟨[.ref C], []⟩)) (.call (.builtin "object.__init__") ⟨[.ref (s.heap.objs.size + 1)], []⟩) (PySem.W.InitBack (s.heap.objs.size + 1) R)
      { s with heap := (s.heap.push PySem.W.emptyDict).push (PySem.W.instObj C s.heap.objs.size) }) :
    codeAny (model prog w) A (.call (.ref C) ⟨[], []⟩) R s := by
  obtain ⟨hh, g, d, t, os⟩ := s
  exact PySem.W.make_core (PySem.W.makes_of X hm) (PySem.W.looks_findIn X hi) hb (.inr ⟨rfl, rfl⟩) h
end

/-! ### the attributes as a list of pairs -/
def putF (f : Str) (v : V) : List (Str × V) → List (Str × V)
  | [] => [(f, v)]
  | (g, x) :: r => if g = f then (g, v) :: r else (g, x) :: putF f v r
theorem lookup_putF (f g : Str) (v : V) : ∀ fs : List (Str × V), (putF f v fs).lookup g = if g = f then some v else fs.lookup g
  | [] => by
    show List.lookup g [(f, v)] = _
    by_cases h : g = f
    · have hb : (g == f) = true := beq_iff_eq.mpr h
      simp only [List.lookup, hb, if_pos h]
    · have hb : (g == f) = false := beq_eq_false_iff_ne.mpr h
      simp only [List.lookup, hb, if_neg h]
  | (k, x) :: r => by
    have ih := lookup_putF f g v r
    rw [show putF f v ((k, x) :: r) = (if k = f then (k, v) :: r else (k, x) :: putF f v r) from rfl]
    by_cases hk : k = f
    · rw [if_pos hk]
      by_cases h : g = k
      · have hb : (g == k) = true := beq_iff_eq.mpr h
        simp only [List.lookup, hb, if_pos (h.trans hk)]
      · have hb : (g == k) = false := beq_eq_false_iff_ne.mpr h
        simp only [List.lookup, hb, if_neg (fun e : g = f => h (e.trans hk.symm))]
    · rw [if_neg hk]
      by_cases h : g = k
      · have hb : (g == k) = true := beq_iff_eq.mpr h
        simp only [List.lookup, hb, if_neg (fun e : g = f => hk (h.symm.trans e))]
      · have hb : (g == k) = false := beq_eq_false_iff_ne.mpr h
        simp only [List.lookup, hb]
        exact ih
theorem keys_putF (f : Str) (v : V) : ∀ fs : List (Str × V), f ∈ (putF f v fs).map (·.1) ∧ ∀ g, g ∈ fs.map (·.1) → g ∈ (putF f v fs).map (·.1)
  | [] => ⟨by simp [putF], fun g h => by simp at h⟩
  | (k, x) :: r => by
    obtain ⟨i1, i2⟩ := keys_putF f v r
    rw [show putF f v ((k, x) :: r) = (if k = f then (k, v) :: r else (k, x) :: putF f v r) from rfl]
    by_cases hk : k = f
    · rw [if_pos hk]
      subst hk
      exact ⟨by simp, fun g h => by simpa using h⟩
    · rw [if_neg hk]
      refine ⟨?_, fun g h => ?_⟩
      · rw [List.map_cons]
        exact List.mem_cons_of_mem _ i1
      · rw [List.map_cons] at h ⊢
        rcases List.mem_cons.mp h with e | e
        · exact List.mem_cons.mpr (.inl e)
        · exact List.mem_cons_of_mem _ (i2 g e)
theorem length_putF (f : Str) (v : V) : ∀ fs : List (Str × V), (putF f v fs).length ≤ fs.length + 1
  | [] => by simp [putF]
  | (k, x) :: r => by
    have ih := length_putF f v r
    rw [show putF f v ((k, x) :: r) = (if k = f then (k, v) :: r else (k, x) :: putF f v r) from rfl]
    by_cases hk : k = f
    · rw [if_pos hk, List.length_cons, List.length_cons]; omega
    · rw [if_neg hk, List.length_cons, List.length_cons]; omega

theorem RelO.some_of {v : V} {o : Option Value} (r : RelO (some v) o) : ∃ u, o = some u ∧ RelV v u := by
  cases o with
  | none => exact (show False from r).elim
  | some u => exact ⟨u, rfl, r⟩
theorem RelO.none_of {o : Option Value} (r : RelO none o) : o = none := by
  cases o with
  | none => rfl
  | some u => exact (show False from r).elim
theorem handed_of {v : V} {u : Value} (r : RelV v u) : PySem.W.handedIn u = true := by
  cases v with
  | non => cases (show u = Value.none from r); rfl
  | bl b => cases (show u = Value.bool b from r); rfl
  | int i => obtain ⟨t, e⟩ := (show ∃ t, u = Value.int i t from r); cases e; rfl
  | str x => obtain ⟨t, e⟩ := (show ∃ t, u = Value.str x t from r); cases e; rfl
  | byt b => obtain ⟨t, e⟩ := (show ∃ t, u = Value.bytes b t from r); cases e; rfl
  | flt b => obtain ⟨t, e⟩ := (show ∃ t, u = Value.float b t from r); cases e; rfl
  | ref a => cases (show u = Value.ref a from r); rfl
  | ty n => cases (show u = Value.type n from r); rfl

section
variable {P : Program} {w : World} {H H' : Hp} {h h' : Heap} {a C dx : Addr} {fs fs' : List (Str × V)}
theorem ins_get (hok : HOk P w H h) (e : H a = some (.ins C dx fs)) : ∃ mA, ObjM h a dx C mA ∧ (∀ f, RelO (fs.lookup f) (mA f)) ∧ PySem.Within mA (fs.map (·.1)) ∧ fs.length ≤ 1000 ∧ H dx = some (.own a) := by
  obtain ⟨d, z, ne, ob, mA, n, r, q⟩ := (show ObjOk P w H h a (.ins C dx fs) from hok a _ e)
  exact ⟨mA, ⟨ob, n, ne⟩, r, q, z, d⟩
end

/-! ### what of the text a class must have -/
structure Cls (K : PySem.W.Frag) (C : Addr) : Prop where
  pg : PySem.W.plainGet K C Str.empty = true
  hd : PySem.W.hasDictIn K C = true
  po : PySem.W.plainOver K C = true
  sa : PySem.W.findIn K (.ref C) "__setattr__" = some (some (.builtin "object.__setattr__"))
theorem Cls.get {K : PySem.W.Frag} {C : Addr} (c : Cls K C) (f : Str) : PySem.W.plainGet K C f = true := c.pg
/-- no class of it has the name -/
def NoAttr (K : PySem.W.Frag) (C : Addr) (f : Str) : Prop := PySem.W.findIn K (.ref C) f = some none
theorem NoAttr.taker {K : PySem.W.Frag} {C : Addr} {f : Str} (n : NoAttr K C f) : PySem.W.takerIn K C f = some none := by
  unfold PySem.W.takerIn
  rw [show PySem.W.findIn K (.ref C) f = some none from n]
  rfl
/-- a constant of the class -/
structure Con (K : PySem.W.Frag) (C : Addr) (f : Str) (v : V) (u : Value) : Prop where
  at_ : PySem.W.findIn K (.ref C) f = some (some u)
  rel : RelV v u
  get : PySem.W.specialIn K u "__get__" = some none
  cp : PySem.W.copiedNames.contains f = false
/-- a method: a plain def of the class or of one above it -/
structure Meth (K : PySem.W.Frag) (C : Addr) (m : Str) (f : Addr) : Prop where
  at_ : PySem.W.findIn K (.ref C) m = some (some (.ref f))
  fn : PySem.W.isFn K (.ref f) = true
  kp : PySem.W.keepIn K (.ref f) = true

section
variable {X : Cx} {pins : List (Addr × Obj)} {σ : St} {H : Hp} {s : Shared} {a C dx : Addr} {fs : List (Str × V)} {f : Str} {v : V} {A : Around} {E : Value → Shared → Prop}

theorem getattr_ok {b : Bool} {Q : Value → Shared → Prop} (I : Inv X pins σ H s) (e : H a = some (.ins C dx fs)) (c : Cls X.K C) (n : NoAttr X.K C f) (l : fs.lookup f = some v)
    (h : ∀ u s', Inv X pins σ H s' → RelV v u → Q u s') : wpAny (model X.prog X.w) A (getAttr (.ref a) f b) Q E s := by
  obtain ⟨mA, O, r, _, _, _⟩ := ins_get I.hok e
  obtain ⟨u, hu, ru⟩ := RelO.some_of (v := v) (o := mA f) (by rw [← l]; exact r f)
  exact get_map I.kIn O (c.get f) c.hd n hu (handed_of ru) (h u _ (I.tok _) ru)

theorem getcon_ok {b : Bool} {u : Value} {Q : Value → Shared → Prop} (I : Inv X pins σ H s) (e : H a = some (.ins C dx fs)) (c : Cls X.K C) (k : Con X.K C f v u) (l : fs.lookup f = none)
    (h : ∀ s', Inv X pins σ H s' → Q u s') : wpAny (model X.prog X.w) A (getAttr (.ref a) f b) Q E s := by
  obtain ⟨mA, O, r, _, _, _⟩ := ins_get I.hok e
  have hn : mA f = none := RelO.none_of (by rw [← l]; exact r f)
  exact get_const I.kIn O (c.get f) c.hd k.at_ k.get k.cp hn (handed_of k.rel) (h _ (I.tok _))

theorem getmeth_ok {m : Str} {g : Addr} {pl : Sem Bool} {Q : Value × List Value → Shared → Prop} (I : Inv X pins σ H s) (e : H a = some (.ins C dx fs)) (c : Cls X.K C) (k : Meth X.K C m g) (l : fs.lookup m = none)
    (h : Q (.ref g, [.ref a]) s) : wpAny (model X.prog X.w) A (getMethod (.ref a) m pl) Q E s := by
  obtain ⟨mA, O, r, _, _, _⟩ := ins_get I.hok e
  have hn : mA m = none := RelO.none_of (by rw [← l]; exact r m)
  exact get_meth I.kIn O (c.get m) k.at_ k.fn hn h

theorem setattr_ok {y : V} {u : Value} {Q : Unit → Shared → Prop} (I : Inv X pins σ H s) (e : H a = some (.ins C dx fs)) (c : Cls X.K C) (n : NoAttr X.K C f) (hl : fs.length < 1000) (ry : RelV y u)
    (h : ∀ s', Inv X pins σ (upd H a (.ins C dx (putF f y fs))) s' → Q () s') : wpAny (model X.prog X.w) A (setAttr (.ref a) f u) Q E s := by
  obtain ⟨mA, O, r, wi, _, ho⟩ := ins_get I.hok e
  have hz : (fs.map (·.1)).length ≤ sizeLine := by rw [List.length_map, sizeLine_eq]; omega
  refine set_map I.kIn O c.sa c.po n.taker c.hd wi hz fun h' O' sb => h _ ?_
  have hd : ∃ o, h'.get? dx = some o := let ⟨o, _, _, e', _⟩ := O'.ns; ⟨o, e'⟩
  refine I.write (x := a) (e := dx) (by rw [e]; exact True.intro) (.inr ho) (fun b q hb z => (sb.2 b hb).trans z) hd ?_
  refine ⟨by rw [upd_ne O.ne]; exact ho, ?_, O.ne, O'.obj, _, O'.ns, fun g => ?_, fun g hg => ?_⟩
  · have := length_putF f y fs; omega
  · show RelO ((putF f y fs).lookup g) (if g = f then some u else mA g)
    rw [lookup_putF]
    by_cases q : g = f
    · rw [if_pos q, if_pos q]; exact ry
    · rw [if_neg q, if_neg q]; exact r g
  · by_cases q : g = f
    · rw [q]; exact (keys_putF f y fs).1
    · refine (keys_putF f y fs).2 g (wi g fun z => hg ?_)
      show (if g = f then some u else mA g) = none
      rw [if_neg q]; exact z

/-- a new instance, tracked, without attributes -/
theorem Inv.made (I : Inv X pins σ H s) : Inv X pins σ (upd (upd H s.heap.objs.size (.own (s.heap.objs.size + 1))) (s.heap.objs.size + 1) (.ins C s.heap.objs.size []))
    { s with heap := (s.heap.push PySem.W.emptyDict).push (PySem.W.instObj C s.heap.objs.size) } := by
  have e1 : (s.heap.push PySem.W.emptyDict).get? s.heap.objs.size = some PySem.W.emptyDict := Heap.get?_push_size s.heap rfl
  have e2 : ((s.heap.push PySem.W.emptyDict).push (PySem.W.instObj C s.heap.objs.size)).get? (s.heap.objs.size + 1) = some (PySem.W.instObj C s.heap.objs.size) := by
    have := Heap.get?_push_size (s.heap.push PySem.W.emptyDict) (o := PySem.W.instObj C s.heap.objs.size) rfl
    rwa [Heap.size_push] at this
  have e3 : (s.heap.push PySem.W.emptyDict).Ns s.heap.objs.size (fun _ => none) := ⟨PySem.W.emptyDict, #[], _, e1, rfl, (fun e he => absurd he (by simp)), fun _ => rfl⟩
  have I1 := I.laid (a := s.heap.objs.size) (o := .own (s.heap.objs.size + 1)) (h' := s.heap.push PySem.W.emptyDict) (t' := s.toks) (fun b u q => Heap.get?_push_of_some _ q) (Nat.le_refl _) ⟨_, e1⟩
  refine I1.laid (a := s.heap.objs.size + 1) (o := .ins C s.heap.objs.size []) (t' := s.toks) (fun b u q => Heap.get?_push_of_some _ q) (Nat.le_of_eq (Heap.size_push _ _)) ?_
  have ne : s.heap.objs.size ≠ s.heap.objs.size + 1 := Nat.ne_of_lt (Nat.lt_succ_self _)
  refine ⟨by rw [upd_ne ne, upd_same], Nat.zero_le _, ne, e2, fun _ => none, (Heap.Ns1.of_empty e3).at fun o q => Heap.get?_push_of_some _ q, fun _ => True.intro, fun y hy => absurd rfl hy⟩

/-- e.f where nothing but the object is asked: through attributeBase (super) and the last hold -/
theorem attr_of {prog : Program} {w : World} {env : Env} {e : Expr} {f : Str} {pos : Pos} {s : Shared} {Q : Value → Shared → Prop} (hb : attributeBase e f env (eval e env) = eval e env)
    (h : wpAny (model prog w) A (eval e env) (fun o s₁ => wpAny (model prog w) A (getAttr o f true) Q E s₁) E s) : wpAny (model prog w) A (eval (.Attribute e f pos) env) Q E s :=
  Attribute_any_ h (by rw [arm_eval_Attribute, hb])
end

/-! ### readings and rules -/
/-- e.f, an attribute of the instance -/
def tFld (K : PySem.W.Frag) (ta : TE) (f : Str) : TE := fun σ H Q => ta σ H fun x H1 => ∃ a C dx fs v, x = .ref a ∧ H1 a = some (.ins C dx fs) ∧ Cls K C ∧ NoAttr K C f ∧ fs.lookup f = some v ∧ Q v H1
/-- e.f, a constant of the class -/
def tCon (K : PySem.W.Frag) (ta : TE) (f : Str) : TE := fun σ H Q => ta σ H fun x H1 => ∃ a C dx fs v u, x = .ref a ∧ H1 a = some (.ins C dx fs) ∧ Cls K C ∧ Con K C f v u ∧ fs.lookup f = none ∧ Q v H1
/-- e.f = value -/
def sFld (K : PySem.W.Frag) (ta tv : TE) (f : Str) : TS := fun D σ H => tv σ H fun y H1 => ta σ H1 fun x H2 => ∃ a C dx fs, x = .ref a ∧ H2 a = some (.ins C dx fs) ∧ Cls K C ∧ NoAttr K C f ∧ fs.length < 1000 ∧
  D.nx σ (upd H2 a (.ins C dx (putF f y fs)))
/-- an augmented operator on two values -/
def InOp (X : Cx) (op : Operator) (rd : V → V → Hp → VK → Prop) : Prop :=
  ∀ (pins : List (Addr × Obj)) (s : Shared) (σ : St) (H : Hp) (x y : V) (u v : Value) (Q : VK), Inv X pins σ H s → RelV x u → RelV y v → rd x y H Q → wpAny (model X.prog X.w) X.A (inplaceOp op u v) (EP X pins σ Q) X.xe s
/-- e.f op= value -/
def sFldAug (K : PySem.W.Frag) (ta tv : TE) (rd : V → V → Hp → VK → Prop) (f : Str) : TS := fun D σ H => ta σ H fun x H1 => ∃ a C dx fs v, x = .ref a ∧ H1 a = some (.ins C dx fs) ∧ Cls K C ∧ NoAttr K C f ∧ fs.lookup f = some v ∧
  tv σ H1 fun y H2 => rd v y H2 fun z H3 => ∃ dx' fs', H3 a = some (.ins C dx' fs') ∧ fs'.length < 1000 ∧ D.nx σ (upd H3 a (.ins C dx' (putF f z fs')))

section
variable {X : Cx} {o e value : Expr} {f : Str} {pos pos' tpos : Pos} {ta tv : TE}
theorem pe_fld (he : PE X e ta) (hb : attributeBase e f X.env (eval e X.env) = eval e X.env) : PE X (.Attribute e f pos) (tFld X.K ta f) := by
  intro pins s σ H Q I h
  refine attr_of hb (thn (he pins s σ H _ I h) fun u s1 ⟨x, H1, I1, rx, a, C, dx, fs, v, ex, ea, c, n, l, q⟩ => ?_)
  subst ex
  obtain rfl : u = Value.ref a := rx
  exact getattr_ok I1 ea c n l fun u' s2 I2 ru => ⟨v, H1, I2, ru, q⟩
theorem pe_con (he : PE X e ta) (hb : attributeBase e f X.env (eval e X.env) = eval e X.env) : PE X (.Attribute e f pos) (tCon X.K ta f) := by
  intro pins s σ H Q I h
  refine attr_of hb (thn (he pins s σ H _ I h) fun u s1 ⟨x, H1, I1, rx, a, C, dx, fs, v, u0, ex, ea, c, k, l, q⟩ => ?_)
  subst ex
  obtain rfl : u = Value.ref a := rx
  exact getcon_ok I1 ea c k l fun s2 I2 => ⟨v, H1, I2, k.rel, q⟩
theorem ps_fld (ha : PE X o ta) (hv : PE X value tv) (hs : swapsWith value (some (.Attribute o f pos')) pos.line X.env = pure false) : PS X (.Assign [.Attribute o f pos'] value pos) (sFld X.K ta tv f) := by
  intro pins s σ H D I h
  refine plainObj_wpAny_Assign_Attribute (thn (hv pins s σ H _ I h) fun u s1 ⟨y, H1, I1, ry, q⟩ => thn (ha pins s1 σ H1 _ I1 q) fun ov s2 ⟨x, H2, I2, rx, a, C, dx, fs, ex, ea, c, n, l, q2⟩ => ?_) hs
  subst ex
  obtain rfl : ov = Value.ref a := rx
  exact setattr_ok I2 ea c n l ry fun s3 I3 => ⟨σ, _, I3, q2⟩
theorem ps_fldaug {op : Operator} {rd : V → V → Hp → VK → Prop} (ha : PE X o ta) (hv : PE X value tv) (hop : InOp X op rd) : PS X (.AugAssign (.Attribute o f tpos) op value pos) (sFldAug X.K ta tv rd f) := by
  intro pins s σ H D I h
  refine wpAny_AugAssign_AttributeAny (thn (ha pins s σ H _ I h) fun ov s1 ⟨x, H1, I1, rx, a, C, dx, fs, v, ex, ea, c, n, l, q⟩ => ?_)
  subst ex
  obtain rfl : ov = Value.ref a := rx
  refine getattr_ok I1 ea c n l fun u s2 I2 ru => thn (hv pins s2 σ H1 _ I2 q) fun w3 s3 ⟨y, H2, I3, ry, q3⟩ => thn (hop pins s3 σ H2 v y u w3 _ I3 ru ry q3) fun w4 s4 ⟨z, H3, I4, rz, dx', fs', ea', l', q4⟩ => ?_
  exact setattr_ok I4 ea' c n l' rz fun s5 I5 => ⟨σ, _, I5, q4⟩
def rAdd : V → V → Hp → VK → Prop := fun x y H Q => ∃ i j, x = .int i ∧ y = .int j ∧ Q (.int (i + j)) H
def rSub : V → V → Hp → VK → Prop := fun x y H Q => ∃ i j, x = .int i ∧ y = .int j ∧ Q (.int (i - j)) H
theorem in_add : InOp X .Add rAdd := by
  rintro pins s σ H x y u v Q I rx ry ⟨i, j, rfl, rfl, q⟩
  obtain ⟨t, rfl⟩ := (show ∃ t, u = Value.int i t from rx)
  obtain ⟨t', rfl⟩ := (show ∃ t', v = Value.int j t' from ry)
  exact PyProof.Rows.iadd_int ⟨.int (i + j), H, I.tok _, ⟨_, rfl⟩, q⟩
theorem in_sub : InOp X .Sub rSub := by
  rintro pins s σ H x y u v Q I rx ry ⟨i, j, rfl, rfl, q⟩
  obtain ⟨t, rfl⟩ := (show ∃ t, u = Value.int i t from rx)
  obtain ⟨t', rfl⟩ := (show ∃ t', v = Value.int j t' from ry)
  exact PyProof.Rows.isub_int ⟨.int (i - j), H, I.tok _, ⟨_, rfl⟩, q⟩

/-- what is between an instance and its method: the tree of a method call -/
theorem methcall_of {pl : Sem Bool} {m : Str} {apos : Pos} {args : List Expr} {pins : List (Addr × Obj)} {s : Shared} {σ : St} {H : Hp} {Q : Value → Shared → Prop} {te : TE} (he : PE X e te) (I : Inv X pins σ H s)
    (h : te σ H fun x H1 => ∃ a C dx fs g, x = .ref a ∧ H1 a = some (.ins C dx fs) ∧ Cls X.K C ∧ Meth X.K C m g ∧ fs.lookup m = none ∧
      ∀ s1, Inv X pins σ H1 s1 → wpAny (model X.prog X.w) X.A (callWith pos (.ref g) [.ref a] (backTo pos (starEach args X.env)) (backToKw pos (keywordEach [] X.env))) Q X.xe s1)
    (ht : eval (.Call (.Attribute e m apos) args [] pos) X.env = (do
      let ov ← eval e X.env
      standAt apos.atName
      let (f, first) ← holding [ov] (getMethod ov m pl)
      callWith pos f first (backTo pos (starEach args X.env)) (backToKw pos (keywordEach [] X.env)))) :
    wpAny (model X.prog X.w) X.A (eval (.Call (.Attribute e m apos) args [] pos) X.env) Q X.xe s := by
  refine PySem.W.methodCall_KW (pl := pl) (thn (he pins s σ H _ I h) fun u s1 ⟨x, H1, I1, rx, a, C, dx, fs, g, ex, ea, c, k, l, q⟩ => ?_) ht
  subst ex
  obtain rfl : u = Value.ref a := rx
  exact getmeth_ok I1 ea c k l (q s1 I1)
end

/-! ### isinstance -/
section
variable {X : Cx} {pins : List (Addr × Obj)} {σ : St} {H : Hp} {s : Shared} {A : Around} {E : Value → Shared → Prop} {Q : Value → Shared → Prop} {c : Value} {b : Bool}
/-- the type of a value, as the fragment's deciders take it; for an instance its class -/
inductive TyOf (K : PySem.W.Frag) (H : Hp) : V → Value → Prop where
  | non : TyOf K H .non (.type "NoneType")
  | bl (x : Bool) : TyOf K H (.bl x) (.type "bool")
  | int (i : Int) : TyOf K H (.int i) (.type "int")
  | str (x : Str) : TyOf K H (.str x) (.type "str")
  | flt (x : UInt64) : TyOf K H (.flt x) (.type "float")
  | lst {a : Addr} {xs : List V} (e : H a = some (.lst xs)) : TyOf K H (.ref a) (.type "list")
  | frz {a : Addr} {o : Obj} {xs : List V} (e : H a = some (.frz o (.lst xs))) : TyOf K H (.ref a) (.type "list")
  | tup {a : Addr} {xs : List V} (e : H a = some (.tup xs)) : TyOf K H (.ref a) (.type "tuple")
  | dK {a : Addr} {kvs : List (Key × V)} (e : H a = some (.dK kvs)) : TyOf K H (.ref a) (.type "dict")
  | dT {a : Addr} {kvs : List (List Key × V)} (e : H a = some (.dT kvs)) : TyOf K H (.ref a) (.type "dict")
  | ins {a C dx : Addr} {fs : List (Str × V)} (e : H a = some (.ins C dx fs)) (cl : Cls K C) (ha : PySem.W.findIn K (.ref C) "__class__" = some (some (.builtin "object.__class__")))
      (hn : PySem.W.specialIn K (.builtin "object.__class__") "__get__" = some (some (.builtin "getset_descriptor.__get__"))) (htk : PySem.W.takesIn K (.builtin "object.__class__") = some true)
      (hm : PySem.W.mroIn K C (.type "object") = some true) : TyOf K H (.ref a) (.ref C)
/-- isinstance(x, c) for one class c, a built-in or an own one: kitOne's answer -/
theorem isinst_ok {x : V} {u t : Value} (I : Inv X pins σ H s) (rx : RelV x u) (ty : TyOf X.K H x t) (e : PySem.W.kitOne X.K t c = some b) (h : ∀ tk, Q (.bool b) { s with toks := tk }) :
    wpAny (model X.prog X.w) A (call (.builtin "isinstance") [u, c]) Q E s := by
  cases ty with
  | non => cases (show u = Value.none from rx); exact PySem.W.kia_one PySem.W.kitx_none I.kIn True.intro e (fun z => nomatch z) h
  | bl y => cases (show u = Value.bool y from rx); exact PySem.W.kia_one PySem.W.kitx_bool I.kIn True.intro e (fun z => nomatch z) h
  | int i => obtain ⟨t, q⟩ := (show ∃ t, u = Value.int i t from rx); cases q; exact PySem.W.kia_one PySem.W.kitx_int I.kIn True.intro e (fun z => nomatch z) h
  | str y => obtain ⟨t, q⟩ := (show ∃ t, u = Value.str y t from rx); cases q; exact PySem.W.kia_one PySem.W.kitx_str I.kIn True.intro e (fun z => nomatch z) h
  | flt y => obtain ⟨t, q⟩ := (show ∃ t, u = Value.float y t from rx); cases q; exact PySem.W.kia_one PySem.W.kitx_float I.kIn True.intro e (fun z => nomatch z) h
  | @lst a xs ea =>
    cases (show u = Value.ref a from rx)
    obtain ⟨_, _, n, _, h1⟩ := (show ObjOk X.prog X.w H s.heap a (.lst xs) from I.hok a _ ea)
    exact PySem.W.kia_one PySem.W.kitx_list I.kIn ⟨_, h1, rfl⟩ e (fun z => nomatch z) h
  | @frz a ob xs ea =>
    cases (show u = Value.ref a from rx)
    obtain ⟨_, _, _, n, _, h1⟩ := (show ObjOk X.prog X.w H s.heap a (.frz ob (.lst xs)) from I.hok a _ ea)
    exact PySem.W.kia_one PySem.W.kitx_list I.kIn ⟨_, h1, rfl⟩ e (fun z => nomatch z) h
  | @tup a xs ea =>
    cases (show u = Value.ref a from rx)
    obtain ⟨_, _, _, p⟩ := (show ObjOk X.prog X.w H s.heap a (.tup xs) from I.hok a _ ea)
    obtain ⟨o, h1, h2, _⟩ := p
    exact PySem.W.kia_one PySem.W.kitx_tuple I.kIn ⟨o, h1, h2⟩ e (fun z => nomatch z) h
  | @dK a kvs ea =>
    cases (show u = Value.ref a from rx)
    obtain ⟨_, _, vs, _, p⟩ := (show ObjOk X.prog X.w H s.heap a (.dK kvs) from I.hok a _ ea)
    obtain ⟨o, es, ep, h1, h2, _⟩ := p
    exact PySem.W.kia_one PySem.W.kitx_dict I.kIn ⟨o, h1, h2.1⟩ e (fun z => nomatch z) h
  | @dT a kvs ea =>
    cases (show u = Value.ref a from rx)
    obtain ⟨_, _, xs, _, o, es, ep, h1, h2, _⟩ := (show ObjOk X.prog X.w H s.heap a (.dT kvs) from I.hok a _ ea)
    exact PySem.W.kia_one PySem.W.kitx_dict I.kIn ⟨o, h1, h2.1⟩ e (fun z => nomatch z) h
  | @ins a C dx fs ea cl ha hn htk hm =>
    cases (show u = Value.ref a from rx)
    obtain ⟨mA, O, _⟩ := ins_get I.hok ea
    obtain ⟨od, J, _⟩ := O.look
    exact PySem.W.kia_one (PySem.W.kitx_own (cl.get _) cl.hd ha hn htk hm) I.kIn J e (fun z => nomatch z) h
end
end L2

namespace L2
open PySem PySem.Spec PyProof.Rows

/-! ### room -/
structure Room (k : Nat) (A : Around) : Prop where
  hd : A.handled = none
  dp : A.depth + 3 * k + 5 < recursionLimit
  un : A.units + 16 * k + 200 < cLine
theorem Room.mono {j k : Nat} {A : Around} (r : Room k A) (h : j ≤ k) : Room j A := ⟨r.hd, by have := r.dp; omega, by have := r.un; omega⟩
theorem Room.deeper {k : Nat} {A : Around} (r : Room (k + 1) A) (env : Env) : Room k (A.deeper env) :=
  ⟨r.hd, by have := r.dp; show A.depth + 1 + 3 * k + 5 < _; omega, by have := r.un; show A.units + 3 + 16 * k + 200 < _; omega⟩
theorem Room.in1 {k : Nat} {A : Around} (r : Room (k + 1) A) : Room k A.in1 :=
  ⟨r.hd, by have := r.dp; show A.depth + 3 * k + 5 < _; omega, by have := r.un; show A.units + 1 + 16 * k + 200 < _; omega⟩
theorem make_depth {A : Around} {C : Addr} {us : List Value} {kw : List (Str × Value)} : (A.under (.builtin "type.__call__" ⟨.ref C :: us, kw⟩)).depth = A.depth + 1 := by
  first | rfl | simp [Around.under, Code.weight, Code.isCreation, Code.isGuard, Code.isCaller, Code.frames, Code.isFrame, guardIds]
theorem make_units {A : Around} {C : Addr} {us : List Value} {kw : List (Str × Value)} : (A.under (.builtin "type.__call__" ⟨.ref C :: us, kw⟩)).units = A.units + 1 := by
  first | rfl | simp [Around.under, Code.cUnits, Code.frames, Code.isFrame]
theorem Room.make {k : Nat} {A : Around} (r : Room (k + 1) A) (C : Addr) (us : List Value) (kw : List (Str × Value)) : Room k (A.under (.builtin "type.__call__" ⟨.ref C :: us, kw⟩)) :=
  ⟨r.hd, by have := r.dp; rw [make_depth]; omega, by have := r.un; rw [make_units]; omega⟩
theorem Room.depth {k : Nat} {A : Around} (r : Room k A) : A.depth < recursionLimit := by have := r.dp; omega
theorem Room.units {k : Nat} {A : Around} (r : Room k A) : A.units + 64 < cLine := by have := r.un; omega
theorem Room.units0 {k : Nat} {A : Around} (r : Room k A) : A.units < cLine := by have := r.un; omega

/-! ### argument lists and displays -/
def tNil : TA := fun _ H Q => Q [] H
def tCons (ta : TE) (tr : TA) : TA := fun σ H Q => ta σ H fun x H1 => tr σ H1 fun xs H2 => Q (x :: xs) H2
section
variable {X : Cx} {e : Expr} {es : List Expr} {te : TE} {t : TA} {pos : Pos}
theorem pa_nil : PA X [] tNil := fun _ _ _ _ H Q I h => Calls.spliced_nil ⟨[], H, I, .nil, h⟩
theorem pa_cons (ha : PE X e te) (hr : PA X es t) (hs : starEach (e :: es) X.env = (false, eval e X.env) :: starEach es X.env := by rfl) : PA X (e :: es) (tCons te t) := by
  intro pos pins s σ H Q I h
  rw [hs]
  show wpAny _ _ (spliced ((false, eval e X.env) :: backTo pos (starEach es X.env))) _ _ s
  refine Calls.spliced_cons (thn (ha pins s σ H _ I h) fun u s1 ⟨x, H1, I1, r1, q1⟩ => ?_)
  exact thn (hr pos pins s1 σ H1 _ I1 q1) fun us s2 ⟨xs, H2, I2, r2, q2⟩ => ⟨x :: xs, H2, I2, .cons r1 r2, q2⟩

/-- a tuple, a list of written items -/
def tTup (t : TA) : TE := fun σ H Q => t σ H fun xs H1 => xs.length ≤ sizeLine ∧ ∀ p, H1 p = none → Q (.ref p) (upd H1 p (.tup xs))
def tLst (t : TA) : TE := fun σ H Q => t σ H fun xs H1 => xs.length ≤ sizeLine ∧ ∀ p, H1 p = none → Q (.ref p) (upd H1 p (.lst xs))
theorem pe_tup {x1} (h : PA X es t) : PE X (.Tuple es x1 pos) (tTup t) := by
  intro pins s σ H Q I hq
  refine wpAny_Tuple_spliced (thn (h pos pins s σ H _ I hq) fun us s1 ⟨xs, H1, I1, r, z, q⟩ => ⟨by rw [← r.length]; exact z, ?_⟩)
  have hf : H1 s1.heap.objs.size = none := I1.hok.fresh (Nat.le_refl _)
  refine ⟨.ref s1.heap.objs.size, upd H1 s1.heap.objs.size (.tup xs), I1.laid (t' := s1.toks) (fun b u e => Heap.get?_push_of_some _ e) (Nat.le_refl _) ?_, rfl, q _ hf⟩
  exact ⟨z, us, r, ⟨_, Heap.get?_push_size _ rfl, rfl, _, rfl⟩⟩
theorem pe_lst (h : PA X es t) : PE X (.List es pos) (tLst t) := by
  intro pins s σ H Q I hq
  refine wpAny_List_spliced (thn (h pos pins s σ H _ I hq) fun us s1 ⟨xs, H1, I1, r, z, q⟩ => ⟨by rw [← r.length]; exact z, ?_⟩)
  have hf : H1 s1.heap.objs.size = none := I1.hok.fresh (Nat.le_refl _)
  refine ⟨.ref s1.heap.objs.size, upd H1 s1.heap.objs.size (.lst xs), I1.laid (t' := s1.toks) (fun b u e => Heap.get?_push_of_some _ e) (Nat.le_refl _) ?_, rfl, q _ hf⟩
  exact ⟨z, us, 0, r, Heap.get?_push_size _ rfl⟩
end

/-! ### what a def promises -/
/-- a def's promise: the bound arguments in the parameters' order, the heap, the wanted end, the wanted exception -/
abbrev Sp := List V → Hp → VK → XK → Prop
/-- how an exception lies behind a call (file 08 gives it): the callers' frames, abstract heap and state ahead of the call, the wish, the exception, the state -/
abbrev CXT := List Env → Hp → Shared → XK → Value → Shared → Prop

/-- the state at a call -/
structure Env0 (P : Program) (w : World) (K : PySem.W.Frag) (mg : Str → Option Value) (base : Heap) (A : Around) (outer : List Env) (s : Shared) (H : Hp) : Prop where
  frames : A.frames = some outer
  mod : Mod K mg base
  bs : ∀ b o, base.get? b = some o → s.heap.get? b = some o ∧ H b = none
  bsz : base.objs.size ≤ s.heap.objs.size
  funs : s.heap.FunFrames base outer
  frf : ∀ b ∈ frs outer, H b = none
  hok : HOk P w H s.heap
  bare : AllBare s.gens
/-- a call's end -/
def CE (outer : List Env) (P : Program) (w : World) (H : Hp) (s : Shared) (Q : VK) (u : Value) (s' : Shared) : Prop :=
  ∃ v H', s'.os = s.os ∧ AllBare s'.gens ∧ Un (frs outer) [] H H' s.heap s'.heap ∧ HOk P w H' s'.heap ∧ RelV v u ∧ Q v H'
def CR (CX : CXT) (outer : List Env) (P : Program) (w : World) (H : Hp) (s : Shared) (Q : VK) (E : XK) (r : Result) (s' : Shared) : Prop :=
  match r with
  | .ok (.ret u) => CE outer P w H s Q u s'
  | .ok _ => False
  | .error e => CX outer H s E e s'
structure FnOk (P : Program) (w : World) (K : PySem.W.Frag) (mg : Str → Option Value) (base : Heap) (CX : CXT) (k : Nat) (f : Addr) (fd : FuncData) (ps : List Str) (sp : Sp) : Prop where
  len : ∀ vs H Q E, sp vs H Q E → vs.length = ps.length
  run : ∀ (A : Around) (outer : List Env) (s : Shared) (H : Hp) (args : Args) (us : List Value) (vs : List V) (Q : VK) (E : XK), Room k A → Env0 P w K mg base A outer s H → BindsTo s fd args (ps.zip us) → Vals vs us → sp vs H Q E →
    codeAny (model P w) A (.call (.ref f) args) (CR CX outer P w H s Q E) s
theorem FnOk.mono {P : Program} {w : World} {K : PySem.W.Frag} {mg : Str → Option Value} {base : Heap} {CX : CXT} {j k : Nat} {f : Addr} {fd : FuncData} {ps : List Str} {sp : Sp} (F : FnOk P w K mg base CX j f fd ps sp) (h : j ≤ k) :
    FnOk P w K mg base CX k f fd ps sp := ⟨F.len, fun A outer s H args us vs Q E hr => F.run A outer s H args us vs Q E (hr.mono h)⟩
/-- a weaker promise -/
theorem FnOk.imp {P : Program} {w : World} {K : PySem.W.Frag} {mg : Str → Option Value} {base : Heap} {CX : CXT} {k : Nat} {f : Addr} {fd : FuncData} {ps : List Str} {sp sp' : Sp} (F : FnOk P w K mg base CX k f fd ps sp)
    (h : ∀ vs H Q E, sp' vs H Q E → sp vs H Q E) : FnOk P w K mg base CX k f fd ps sp' :=
  ⟨fun vs H Q E q => F.len vs H Q E (h _ _ _ _ q), fun A outer s H args us vs Q E hr he hb hv hs => F.run A outer s H args us vs Q E hr he hb hv (h _ _ _ _ hs)⟩

theorem Env0.make {P : Program} {w : World} {K : PySem.W.Frag} {mg : Str → Option Value} {base : Heap} {A : Around} {outer : List Env} {s : Shared} {H : Hp} (e : Env0 P w K mg base A outer s H) (C : Addr) (us : List Value) (kw : List (Str × Value)) :
    Env0 P w K mg base (A.under (.builtin "type.__call__" ⟨.ref C :: us, kw⟩)) outer s H := ⟨by first | exact e.frames | (simpa [Around.under, Code.envs, Code.isFrame, pushEnvs] using e.frames), e.mod, e.bs, e.bsz, e.funs, e.frf, e.hok, e.bare⟩
theorem Env0.in1 {P : Program} {w : World} {K : PySem.W.Frag} {mg : Str → Option Value} {base : Heap} {A : Around} {outer : List Env} {s : Shared} {H : Hp} (e : Env0 P w K mg base A outer s H) :
    Env0 P w K mg base A.in1 outer s H := ⟨e.frames, e.mod, e.bs, e.bsz, e.funs, e.frf, e.hok, e.bare⟩

section
variable {X : Cx} {pins : List (Addr × Obj)} {σ : St} {H : Hp} {s s' : Shared}
/-- from a body: what a callee wants -/
theorem Inv.env0 (I : Inv X pins σ H s) : Env0 X.prog X.w X.K X.mg X.base X.A X.stack s H :=
  ⟨I.ok.frames, I.ok.mod, I.bs, Nat.le_trans I.ok.bsz I.sz, I.stack, I.stkFree, I.hok, I.bare⟩
/-- behind a call -/
theorem Inv.after {Q : VK} {u : Value} (I : Inv X pins σ H s) (h : CE X.stack X.prog X.w H s Q u s') : EP X pins σ Q u s' := by
  obtain ⟨v, H', os, bare, un, hok, r, q⟩ := h
  obtain ⟨hh, g, d, t, os'⟩ := s'
  obtain rfl : os' = s.os := os
  exact ⟨v, H', I.call (h' := hh) (g' := g) (d' := d) (t' := t) (ch := []) un hok bare (fun b z => absurd z (by simp)), r, q⟩
end

/-! ### calls -/
/-- f(..): the written arguments, then the defaults dvs; E: what is wanted of an exception -/
def tCall (sp : Sp) (dvs : List V) (E : XK) (t : TA) : TE := fun σ H Q => t σ H fun vs H1 => sp (vs ++ dvs) H1 Q E
/-- o.m(..) of an instance of the class at C -/
def tMeth (C : Addr) (m : Str) (sp : Sp) (dvs : List V) (E : XK) (ta : TE) (t : TA) : TE := fun σ H Q => ta σ H fun x H1 => ∃ a dx fs, x = .ref a ∧ H1 a = some (.ins C dx fs) ∧ fs.lookup m = none ∧
  t σ H1 fun vs H2 => sp (x :: (vs ++ dvs)) H2 Q E
/-- C(..): a new instance and its dict, then __init__ -/
def tMake (C : Addr) (sp : Sp) (dvs : List V) (E : XK) (t : TA) : TE := fun σ H Q => t σ H fun vs H1 => ∀ x dx, H1 x = none → H1 dx = none → dx ≠ x →
  sp (.ref x :: (vs ++ dvs)) (upd (upd H1 dx (.own x)) x (.ins C dx [])) (fun v H2 => v = .non ∧ Q (.ref x) H2) E

/-- how the parameters are bound: us the positional arguments, kw the keywords' values by name, ds the defaults that fill up -/
def Binds (K : PySem.W.Frag) (fd : FuncData) (ps : List Str) (ds : List Value) : Prop :=
  ∀ (s : Shared) (us : List Value), K.In s.heap → (us ++ ds).length = ps.length → BindsTo s fd ⟨us, []⟩ (ps.zip (us ++ ds))
/-- every parameter is given -/
theorem Binds.all {K : PySem.W.Frag} {fd : FuncData} {ps : List Str} (h : ∀ us : List Value, us.length = ps.length → bindArgs fd ⟨us, []⟩ = pure (ps.zip us)) : Binds K fd ps [] := fun s us _ hl => by
  rw [List.append_nil] at hl ⊢
  exact .of_eq (h us hl)

/-- an exception of a callee reaches what this body wants of exceptions -/
def Passes (CX : CXT) (X : Cx) (E : XK) : Prop := ∀ (pins : List (Addr × Obj)) (σ : St) (H : Hp) (s : Shared) (e : Value) (s' : Shared), Inv X pins σ H s → CX X.stack H s E e s' → X.xe e s'

section
variable {X : Cx} {CX : CXT} {k : Nat} {f C : Addr} {fd : FuncData} {ps : List Str} {sp : Sp} {dvs : List V} {ds : List Value} {E : XK} {x m : Str} {p pos apos : Pos} {e o : Expr} {es : List Expr} {ta : TE} {t : TA}

/-- the callee runs -/
theorem run_fn {pins : List (Addr × Obj)} {σ : St} {H : Hp} {s : Shared} {Q : VK} {us : List Value} {vs : List V} (F : FnOk X.prog X.w X.K X.mg X.base CX k f fd ps sp) (hr : Room k X.A) (hb : Binds X.K fd ps ds) (hd : Vals dvs ds) (hx : Passes CX X E)
    (I : Inv X pins σ H s) (r : Vals vs us) (h : sp (vs ++ dvs) H Q E) : wpAny (model X.prog X.w) X.A (call (.ref f) us) (EP X pins σ Q) X.xe s := by
  have r2 : Vals (vs ++ dvs) (us ++ ds) := r.append hd
  have hl : (us ++ ds).length = ps.length := by rw [← r2.length]; exact F.len _ _ _ _ h
  refine wpAny_call (codeAny_mono (F.run X.A X.stack s H ⟨us, []⟩ (us ++ ds) (vs ++ dvs) Q E hr I.env0 (hb s us I.kIn hl) r2 h) fun r s' hq => ?_)
  cases r with
  | error e => exact hx pins σ H s e s' I hq
  | ok fl =>
    cases fl with
    | ret u => exact I.after hq
    | next => exact False.elim hq
    | brk => exact False.elim hq
    | cont => exact False.elim hq

theorem pe_call (F : FnOk X.prog X.w X.K X.mg X.base CX k f fd ps sp) (hr : Room k X.A) (hg : Gl X x) (hm : X.mg x = some (.ref f)) (hk : PySem.W.keepIn X.K (.ref f) = true) (hb : Binds X.K fd ps ds) (hd : Vals dvs ds) (hx : Passes CX X E)
    (ha : PA X (e :: es) t) (hdb : (x == ("__debug__" : Str)) = false := by decide) (he : starEach (e :: es) X.env = (false, eval e X.env) :: starEach es X.env := by rfl) (hpl : (backTo pos (starEach es X.env)).any (·.1) = false := by rfl) :
    PE X (.Call (.Name x p) (e :: es) [] pos) (tCall sp dvs E t) := by
  intro pins s σ H Q I h
  refine wpAny_Call_Name_kw (ld_glob I hg hm ?_ hdb)
  refine PySem.W.callWith_K (h₀ := X.base) I.ok.mod.kin hk (thn (ha pos pins s σ H _ I h) fun us s1 ⟨vs, H1, I1, r, q⟩ => ⟨I1.kIn, ?_⟩) he hpl
  exact run_fn F hr hb hd hx I1 r q
theorem pe_call0 (F : FnOk X.prog X.w X.K X.mg X.base CX k f fd ps sp) (hr : Room k X.A) (hg : Gl X x) (hm : X.mg x = some (.ref f)) (hk : PySem.W.keepIn X.K (.ref f) = true) (hb : Binds X.K fd ps ds) (hd : Vals dvs ds) (hx : Passes CX X E)
    (hdb : (x == ("__debug__" : Str)) = false := by decide) : PE X (.Call (.Name x p) [] [] pos) (tCall sp dvs E tNil) := by
  intro pins s σ H Q I h
  refine wpAny_Call_Name_kw (ld_glob I hg hm ?_ hdb)
  exact PySem.W.callWith_K0 I.kIn hk (run_fn (us := []) F hr hb hd hx I .nil h)

/-- o.m(e, ..) -/
theorem pe_meth {pl : Sem Bool} (he : PE X o ta) (c : Cls X.K C) (hm : Meth X.K C m f) (F : FnOk X.prog X.w X.K X.mg X.base CX k f fd ps sp) (hr : Room k X.A) (hb : Binds X.K fd ps ds) (hd : Vals dvs ds) (hx : Passes CX X E) (ha : PA X (e :: es) t)
    (hst : starEach (e :: es) X.env = (false, eval e X.env) :: starEach es X.env := by rfl) (hpl : (backTo pos (starEach es X.env)).any (·.1) = false := by rfl)
    (ht : eval (.Call (.Attribute o m apos) (e :: es) [] pos) X.env = (do
      let ov ← eval o X.env
      standAt apos.atName
      let (f, first) ← holding [ov] (getMethod ov m pl)
      callWith pos f first (backTo pos (starEach (e :: es) X.env)) (backToKw pos (keywordEach [] X.env))) := by rfl) :
    PE X (.Call (.Attribute o m apos) (e :: es) [] pos) (tMeth C m sp dvs E ta t) := by
  intro pins s σ H Q I h
  refine PySem.W.methodCall_KW (pl := pl) (thn (he pins s σ H _ I h) fun u s1 ⟨x, H1, I1, rx, a, dx, fs, ex, ea, l, q⟩ => ?_) ht
  subst ex
  obtain rfl : u = Value.ref a := rx
  refine getmeth_ok I1 ea c hm l ?_
  refine PySem.W.callWith_K (first := [.ref a]) (h₀ := X.base) I.ok.mod.kin hm.kp (thn (ha pos pins s1 σ H1 _ I1 q) fun us s2 ⟨vs, H2, I2, r, q2⟩ => ⟨I2.kIn, ?_⟩) hst hpl
  exact run_fn (us := .ref a :: us) (vs := .ref a :: vs) F hr hb hd hx I2 (.cons rfl r) q2
/-- o.m() -/
theorem pe_meth0 {pl : Sem Bool} (he : PE X o ta) (c : Cls X.K C) (hm : Meth X.K C m f) (F : FnOk X.prog X.w X.K X.mg X.base CX k f fd ps sp) (hr : Room k X.A) (hb : Binds X.K fd ps ds) (hd : Vals dvs ds) (hx : Passes CX X E)
    (ht : eval (.Call (.Attribute o m apos) [] [] pos) X.env = (do
      let ov ← eval o X.env
      standAt apos.atName
      let (f, first) ← holding [ov] (getMethod ov m pl)
      callWith pos f first (backTo pos (starEach [] X.env)) (backToKw pos (keywordEach [] X.env))) := by rfl) :
    PE X (.Call (.Attribute o m apos) [] [] pos) (tMeth C m sp dvs E ta tNil) := by
  intro pins s σ H Q I h
  refine PySem.W.methodCall_KW (pl := pl) (thn (he pins s σ H _ I h) fun u s1 ⟨x, H1, I1, rx, a, dx, fs, ex, ea, l, q⟩ => ?_) ht
  subst ex
  obtain rfl : u = Value.ref a := rx
  refine getmeth_ok I1 ea c hm l ?_
  exact PySem.W.callWith_K0 (first := [.ref a]) I1.kIn hm.kp (run_fn (us := [.ref a]) (vs := [.ref a]) F hr hb hd hx I1 (.cons rfl .nil) q)

/-- what a class must have to be made -/
structure Mk (K : PySem.W.Frag) (C f : Addr) : Prop where
  makes : PySem.W.makesIn K C = true
  init : PySem.W.findIn K (.ref C) "__init__" = some (some (.ref f))
  fn : PySem.W.isFn K (.ref f) = true
  kp : PySem.W.keepIn K (.ref C) = true

theorem run_make {pins : List (Addr × Obj)} {σ : St} {H : Hp} {s : Shared} {Q : VK} {us : List Value} {vs : List V} (M : Mk X.K C f) (F : FnOk X.prog X.w X.K X.mg X.base CX k f fd ps sp) (hr : Room (k + 1) X.A) (hb : Binds X.K fd ps ds) (hd : Vals dvs ds)
    (hx : Passes CX X E) (I : Inv X pins σ H s) (r : Vals vs us)
    (h : ∀ x dx, H x = none → H dx = none → dx ≠ x → sp (.ref x :: (vs ++ dvs)) (upd (upd H dx (.own x)) x (.ins C dx [])) (fun v H2 => v = .non ∧ Q (.ref x) H2) E) :
    wpAny (model X.prog X.w) X.A (call (.ref C) us) (EP X pins σ Q) X.xe s := by
  have hq := h (s.heap.objs.size + 1) s.heap.objs.size (I.hok.fresh (Nat.le_succ _)) (I.hok.fresh (Nat.le_refl _)) (Nat.ne_of_lt (Nat.lt_succ_self _))
  have I2 := Inv.made (C := C) I
  have r2 : Vals (V.ref (s.heap.objs.size + 1) :: (vs ++ dvs)) (Value.ref (s.heap.objs.size + 1) :: (us ++ ds)) := .cons rfl (r.append hd)
  have hl : (Value.ref (s.heap.objs.size + 1) :: us ++ ds).length = ps.length := by
    have e := r2.length
    rw [F.len _ _ _ _ hq] at e
    exact e.symm
  refine wpAny_call (make_map (f := f) I.kIn M.makes M.init (beq_iff_eq.mp M.fn) (codeAny_mono (F.run _ X.stack _ _ ⟨Value.ref (s.heap.objs.size + 1) :: us, []⟩ (Value.ref (s.heap.objs.size + 1) :: (us ++ ds)) _ _ E (hr.make C us [])
    (I2.env0.make C us []) (hb _ (Value.ref (s.heap.objs.size + 1) :: us) I2.kIn hl) r2 hq) fun r s' hq' => ?_))
  cases r with
  | error e => exact hx pins σ _ _ e s' I2 hq'
  | ok fl =>
    cases fl with
    | ret u =>
      obtain ⟨v, H', I3, rv, ev, q3⟩ := I2.after hq'
      subst ev
      exact ⟨rv, ⟨V.ref (s.heap.objs.size + 1), H', I3, rfl, q3⟩⟩
    | next => exact False.elim hq'
    | brk => exact False.elim hq'
    | cont => exact False.elim hq'
theorem pe_make (M : Mk X.K C f) (F : FnOk X.prog X.w X.K X.mg X.base CX k f fd ps sp) (hr : Room (k + 1) X.A) (hg : Gl X x) (hm : X.mg x = some (.ref C)) (hb : Binds X.K fd ps ds) (hd : Vals dvs ds) (hx : Passes CX X E)
    (ha : PA X (e :: es) t) (hdb : (x == ("__debug__" : Str)) = false := by decide) (he : starEach (e :: es) X.env = (false, eval e X.env) :: starEach es X.env := by rfl) (hpl : (backTo pos (starEach es X.env)).any (·.1) = false := by rfl) :
    PE X (.Call (.Name x p) (e :: es) [] pos) (tMake C sp dvs E t) := by
  intro pins s σ H Q I h
  refine wpAny_Call_Name_kw (ld_glob I hg hm ?_ hdb)
  refine PySem.W.callWith_K (h₀ := X.base) I.ok.mod.kin M.kp (thn (ha pos pins s σ H _ I h) fun us s1 ⟨vs, H1, I1, r, q⟩ => ⟨I1.kIn, ?_⟩) he hpl
  exact run_make M F hr hb hd hx I1 r q
theorem pe_make0 (M : Mk X.K C f) (F : FnOk X.prog X.w X.K X.mg X.base CX k f fd ps sp) (hr : Room (k + 1) X.A) (hg : Gl X x) (hm : X.mg x = some (.ref C)) (hb : Binds X.K fd ps ds) (hd : Vals dvs ds) (hx : Passes CX X E)
    (hdb : (x == ("__debug__" : Str)) = false := by decide) : PE X (.Call (.Name x p) [] [] pos) (tMake C sp dvs E tNil) := by
  intro pins s σ H Q I h
  refine wpAny_Call_Name_kw (ld_glob I hg hm ?_ hdb)
  exact PySem.W.callWith_K0 I.kIn M.kp (run_make (us := []) M F hr hb hd hx I .nil h)
end

/-! ### keywords -/
/-- the values of the keywords, from the left -/
def PK (X : Cx) (kws : List Keyword) (t : TA) : Prop :=
  ∀ (pos : Pos) (pins : List (Addr × Obj)) (s : Shared) (σ : St) (H : Hp) (Q : List V → Hp → Prop), Inv X pins σ H s → t σ H Q → wpAny (model X.prog X.w) X.A (evalAll ((backToKw pos (keywordEach kws X.env)).map (·.2))) (AP X pins σ Q) X.xe s
section
variable {X : Cx} {CX : CXT} {k : Nat} {f C : Addr} {fd : FuncData} {ps ks : List Str} {sp : Sp} {E : XK} {x m : Str} {p pos apos kpos : Pos} {e o : Expr} {es : List Expr} {kws : List Keyword} {te ta : TE} {t tk : TA} {nm : Option Str}
theorem pk_nil : PK X [] tNil := fun _ _ _ _ H Q I h => wpAny_evalAll_nil ⟨[], H, I, .nil, h⟩
theorem pk_cons (ha : PE X e te) (hr : PK X kws t) : PK X (⟨nm, e, kpos⟩ :: kws) (tCons te t) := by
  intro pos pins s σ H Q I h
  show wpAny _ _ (evalAll ((do let v ← eval e X.env; standAt pos; pure v) :: (backToKw pos (keywordEach kws X.env)).map (·.2))) _ _ s
  refine wpAny_evalAll_cons (wpAny_bind (thn (ha pins s σ H _ I h) fun u s1 ⟨x, H1, I1, r1, q1⟩ => wpAny_bind (wpAny_standAt (wpAny_pure ?_))))
  exact thn (hr pos pins s1 σ H1 _ I1 q1) fun us s2 ⟨xs, H2, I2, r2, q2⟩ => ⟨x :: xs, H2, I2, .cons r1 r2, q2⟩

/-- how a call with keywords binds: g puts the positional values us and the keywords' values ws (names ks) in the parameters' order, defaults among them -/
structure KBinds (K : PySem.W.Frag) (fd : FuncData) (ps ks : List Str) (g : List Value → List Value → List Value) (gV : List V → List V → List V) : Prop where
  to : ∀ (s : Shared) (us ws : List Value), K.In s.heap → (g us ws).length = ps.length → BindsTo s fd ⟨us, ks.zip ws⟩ (ps.zip (g us ws))
  rel : ∀ {vs : List V} {us : List Value} {zs : List V} {ws : List Value}, Vals vs us → Vals zs ws → Vals (gV vs zs) (g us ws)
def tCallK (sp : Sp) (gV : List V → List V → List V) (E : XK) (t tk : TA) : TE := fun σ H Q => t σ H fun vs H1 => tk σ H1 fun zs H2 => sp (gV vs zs) H2 Q E
variable {g : List Value → List Value → List Value} {gV : List V → List V → List V}
theorem run_fnk {pins : List (Addr × Obj)} {σ : St} {H : Hp} {s : Shared} {Q : VK} {us ws : List Value} {vs zs : List V} (F : FnOk X.prog X.w X.K X.mg X.base CX k f fd ps sp) (hr : Room k X.A) (hb : KBinds X.K fd ps ks g gV) (hx : Passes CX X E)
    (I : Inv X pins σ H s) (r : Vals vs us) (rz : Vals zs ws) (h : sp (gV vs zs) H Q E) : wpAny (model X.prog X.w) X.A (call (.ref f) us (ks.zip ws)) (EP X pins σ Q) X.xe s := by
  have r2 := hb.rel r rz
  have hl : (g us ws).length = ps.length := by rw [← r2.length]; exact F.len _ _ _ _ h
  refine wpAny_call (codeAny_mono (F.run X.A X.stack s H ⟨us, ks.zip ws⟩ (g us ws) (gV vs zs) Q E hr I.env0 (hb.to s us ws I.kIn hl) r2 h) fun r s' hq => ?_)
  cases r with
  | error e => exact hx pins σ H s e s' I hq
  | ok fl =>
    cases fl with
    | ret u => exact I.after hq
    | next => exact False.elim hq
    | brk => exact False.elim hq
    | cont => exact False.elim hq
/-- f(e, .., k = v, ..) -/
theorem pe_callK (F : FnOk X.prog X.w X.K X.mg X.base CX k f fd ps sp) (hr : Room k X.A) (hg : Gl X x) (hm : X.mg x = some (.ref f)) (hk : PySem.W.keepIn X.K (.ref f) = true) (hb : KBinds X.K fd ps ks g gV) (hx : Passes CX X E)
    (ha : PA X (e :: es) t) (hkw : PK X kws tk) (hall : (backToKw pos (keywordEach kws X.env)).all (·.1.isSome) = true := by rfl) (hks : (backToKw pos (keywordEach kws X.env)).filterMap (·.1) = ks := by rfl)
    (hdb : (x == ("__debug__" : Str)) = false := by decide) (he : starEach (e :: es) X.env = (false, eval e X.env) :: starEach es X.env := by rfl)
    (hpl : ((backTo pos (starEach (e :: es) X.env)).any (·.1) || (backToKw pos (keywordEach kws X.env)).any (·.1.isNone)) = false := by rfl) :
    PE X (.Call (.Name x p) (e :: es) kws pos) (tCallK sp gV E t tk) := by
  intro pins s σ H Q I h
  refine wpAny_Call_Name_kw (ld_glob I hg hm ?_ hdb)
  refine PySem.W.callWith_KW (h₀ := X.base) I.ok.mod.kin hk hall (thn (ha pos pins s σ H _ I h) fun us s1 ⟨vs, H1, I1, r, q⟩ => ?_) hpl he
  refine thn (hkw pos pins s1 σ H1 _ I1 q) fun ws s2 ⟨zs, H2, I2, rz, q2⟩ => ⟨I2.kIn, ?_⟩
  rw [hks]
  exact run_fnk F hr hb hx I2 r rz q2
end

/-! ### a def's body keeps its promise -/
/-- names: the parameters first -/
structure FnScope (N P : List Str) (sc : Scope) : Prop where
  kind : sc.kind = .function
  co : sc.isCoroutine = false
  gen : sc.isGenerator = false
  nd : N.Nodup
  pre : N.take P.length = P
  par : ∀ x ∈ P, sc.names.lookup x = some .local ∨ sc.names.lookup x = some .cell
  nofree : ∀ y ∈ sc.names, y.2 ≠ .free

theorem bindL_out {kindOf : Str → Option NameKind} {x : Str} : ∀ {binds : List (Str × Value)} {m : Str → Option Value}, (∀ v, (x, v) ∉ binds) → bindL kindOf binds m x = m x
  | [], _, _ => rfl
  | (n, v) :: r, m, h => by
    unfold bindL
    rw [bindL_out fun w hw => h w (List.mem_cons_of_mem _ hw)]
    split
    · have : x ≠ n := by rintro rfl; exact h v List.mem_cons_self
      simp [this]
    · rfl
theorem bindC_out {kindOf : Str → Option NameKind} {x : Str} : ∀ {binds : List (Str × Value)} {m : Str → Option Value}, (∀ v, (x, v) ∉ binds) → bindC kindOf binds m x = m x
  | [], _, _ => rfl
  | (n, v) :: r, m, h => by
    unfold bindC
    rw [bindC_out fun w hw => h w (List.mem_cons_of_mem _ hw)]
    split
    · rfl
    · have : x ≠ n := by rintro rfl; exact h v List.mem_cons_self
      simp [this]
theorem bindL_get {kindOf : Str → Option NameKind} {x : Str} {v : Value} : ∀ {P : List Str} {vs : List Value} {i : Nat} {m : Str → Option Value}, P.Nodup → P[i]? = some x → vs[i]? = some v → kindOf x = some .local →
    bindL kindOf (P.zip vs) m x = some v
  | [], _, _, _, _, h, _, _ => by simp at h
  | _ :: _, [], _, _, _, _, h, _ => by simp at h
  | p :: P, w :: vs, 0, m, nd, h1, h2, hk => by
    simp at h1 h2; subst h1; subst h2
    show bindL kindOf ((p, w) :: P.zip vs) m p = _
    unfold bindL
    rw [bindL_out fun v hv => (List.nodup_cons.mp nd).1 (List.of_mem_zip hv).1, if_pos hk]
    simp
  | p :: P, w :: vs, i + 1, m, nd, h1, h2, hk => by
    show bindL kindOf ((p, w) :: P.zip vs) m x = _
    unfold bindL
    exact bindL_get (i := i) (List.nodup_cons.mp nd).2 (by simpa using h1) (by simpa using h2) hk
theorem bindC_get {kindOf : Str → Option NameKind} {x : Str} {v : Value} : ∀ {P : List Str} {vs : List Value} {i : Nat} {m : Str → Option Value}, P.Nodup → P[i]? = some x → vs[i]? = some v → kindOf x ≠ some .local →
    bindC kindOf (P.zip vs) m x = some v
  | [], _, _, _, _, h, _, _ => by simp at h
  | _ :: _, [], _, _, _, _, h, _ => by simp at h
  | p :: P, w :: vs, 0, m, nd, h1, h2, hk => by
    simp at h1 h2; subst h1; subst h2
    show bindC kindOf ((p, w) :: P.zip vs) m p = _
    unfold bindC
    rw [bindC_out fun v hv => (List.nodup_cons.mp nd).1 (List.of_mem_zip hv).1, if_neg hk]
    simp
  | p :: P, w :: vs, i + 1, m, nd, h1, h2, hk => by
    show bindC kindOf ((p, w) :: P.zip vs) m x = _
    unfold bindC
    exact bindC_get (i := i) (List.nodup_cons.mp nd).2 (by simpa using h1) (by simpa using h2) hk

/-- the names' values at the entry -/
def start (N : List Str) (vs : List V) : St := vs.map some ++ List.replicate (N.length - vs.length) none

/-- the context of a def's body, at its entry; an exception leaves the frame, then lies as CX says -/
def cxOf (CX : CXT) (P : Program) (w : World) (K : PySem.W.Frag) (mg : Str → Option Value) (base : Heap) (N : List Str) (qual : Str) (scope : Scope) (f : Addr) (cd : Value) (A : Around) (outer : List Env) (s : Shared) (H : Hp) (E : XK) : Cx where
  prog := P
  w := w
  K := K
  mg := mg
  base := base
  A := A.deeper (envOfC qual scope s.heap.objs.size f cd)
  N := N
  s₀ := s
  H₀ := H
  env := envOfC qual scope s.heap.objs.size f cd
  outer := outer
  stack := envOfC qual scope s.heap.objs.size f cd :: outer
  ex := []
  calm := true
  fn := fun _ => true
  pn := []
  xe := fun e s' => wpAny (model P w) (A.deeper (envOfC qual scope s.heap.objs.size f cd)) (leaving (envOfC qual scope s.heap.objs.size f cd) e) (fun _ s'' => CX outer H s E e s'') (fun e' s'' => CX outer H s E e' s'') s'

theorem cell_has {sc : Scope} {n : Nat} {x : Str} (h : sc.names.lookup x = some .cell) : ∃ c, (cellsFrom n sc.names []).lookup x = some c := by
  have q := PySem.W.cellsFrom_some sc.names n [] (.inl h)
  exact Option.isSome_iff_exists.mp q

theorem inv_start {CX : CXT} {P : Program} {w : World} {K : PySem.W.Frag} {mg : Str → Option Value} {base : Heap} {N ps : List Str} {qual : Str} {scope : Scope} {f : Addr} {cd : Value} {A : Around} {outer : List Env} {s s1 : Shared} {H : Hp} {E : XK} {us : List Value} {vs : List V}
    (S : FnScope N ps scope) (hd : A.handled = none) (e0 : Env0 P w K mg base A outer s H) (hl : vs.length = ps.length) (r : Vals vs us)
    (x : InCallC s s.heap.objs.size (bindL (envOfC qual scope s.heap.objs.size f cd).kindOf (ps.zip us) fun _ => none) (cellsFrom (s.heap.objs.size + 1) scope.names []) (bindC (envOfC qual scope s.heap.objs.size f cd).kindOf (ps.zip us) fun _ => none) s1) :
    Inv (cxOf CX P w K mg base N qual scope f cd A outer s H E) [] (start N vs) H s1 := by
  have hpl : ps.length ≤ N.length := by have := congrArg List.length S.pre; rw [List.length_take] at this; omega
  obtain ⟨h1, tk, rfl, hk⟩ := x.done
  have noA : ∀ b : Addr, b ∉ (cxOf CX P w K mg base N qual scope f cd A outer s H E).ex := fun b z => absurd (show b ∈ ([] : List Addr) from z) (by simp)
  refine ⟨⟨e0.mod, S.kind, rfl, rfl, Nat.le_refl _, fun y z c h1 h2 => ?_, fun y hy => ?_, fun y c _ h => ?_, fun _ => hd, Around.frames_deeper e0.frames, .inr ⟨rfl, rfl⟩, fun b z => absurd z (noA b), e0.bs, e0.bsz, fun b _ _ => noA b, fun b z => absurd z (noA b), e0.funs, e0.frf⟩,
    rfl, e0.bare, Un.kept hk, ⟨_, x.toInCall.ns, fun i y v h1 h2 h3 => ?_⟩, fun y c h => ⟨_, x.cell y c h⟩, e0.hok.fresh (Nat.le_refl _), fun y c h => ?_, fun p hp => absurd (show p ∈ ([] : List (Addr × Obj)) from hp) (by simp), e0.hok.kept hk, ?_⟩
  · exact name_of_addr x.apart (PySem.mem_of_lookup h1) (PySem.mem_of_lookup h2)
  · have hy : scope.names.lookup y = some .cell ∨ scope.names.lookup y = some .free := hy
    rcases hy with hy | hy
    · exact cell_has hy
    · exact absurd rfl (S.nofree _ (PySem.mem_of_lookup hy))
  · exact Nat.le_of_lt (x.above y c (PySem.mem_of_lookup h))
  · have hi : i < vs.length := by
      unfold start at h2
      by_cases hi : i < vs.length
      · exact hi
      · rw [List.getElem?_append_right (by simpa using hi)] at h2
        rw [List.getElem?_replicate] at h2
        split at h2 <;> cases h2
    have ha : vs[i]? = some v := by
      unfold start at h2
      rw [List.getElem?_append_left (by simpa using hi), List.getElem?_map] at h2
      cases e : vs[i]? with
      | none => rw [e] at h2; cases h2
      | some a => rw [e] at h2; cases h2; rfl
    obtain ⟨u, hu, rv⟩ := r.get ha
    have hp : ps[i]? = some y := by
      rw [← S.pre, List.getElem?_take_of_lt (by omega)]; exact h1
    have ndP : ps.Nodup := by rw [← S.pre]; exact S.nd.sublist (List.take_sublist _ _)
    refine ⟨u, rv, ?_⟩
    rcases S.par y (List.mem_of_getElem? hp) with k | k
    · exact .inl ⟨k, bindL_get ndP hp hu k⟩
    · obtain ⟨c, e⟩ := cell_has (n := s.heap.objs.size + 1) k
      refine .inr ⟨.inl k, c, e, ?_⟩
      have q := x.cell y c e
      rw [bindC_get ndP hp hu (by show scope.names.lookup y ≠ _; rw [k]; decide)] at q
      exact q
  · exact e0.hok.fresh (Nat.le_of_lt (x.above y c (PySem.mem_of_lookup h)))
  · unfold start
    show _ = N.length
    rw [List.length_append, List.length_map, List.length_replicate]
    omega

/-- THE RULE: a def (or a method) of the text, by its body. The body's reading t is chosen for each entry; it is run at the parameters' values -/
theorem fn_of {CX : CXT} {P : Program} {w : World} {K : PySem.W.Frag} {mg : Str → Option Value} {base : Heap} {k : Nat} {f : Addr} {name qual : Str} {params : Arguments} {body : List Stmt} {scope : Scope} {dV kV doc pm cdv ct oc : Value} {an od : Option Addr}
    {osl : Array (Option Value)} {N ps : List Str} {sp : Sp} (lk : K.lookup f = some ⟨oc, od, .func (PySem.W.fnOf name qual params body scope dV kV doc pm an cdv ct), osl⟩) (hcd : PySem.W.codeIn K cdv qual = true) (S : FnScope N ps scope)
    (len : ∀ vs H Q E, sp vs H Q E → vs.length = ps.length)
    (hbody : ∀ (A : Around) (outer : List Env) (s : Shared) (H : Hp) (vs : List V) (Q : VK) (E : XK), Room k (A.deeper (envOfC qual scope s.heap.objs.size f cdv)) → sp vs H Q E →
      ∃ t, PSs (cxOf CX P w K mg base N qual scope f cdv A outer s H E) body t ∧ t { nx := fun _ H' => Q .non H', rt := Q } (start N vs) H) :
    FnOk P w K mg base CX (k + 1) f (PySem.W.fnOf name qual params body scope dV kV doc pm an cdv ct) ps sp := by
  refine ⟨len, fun A outer s H args us vs Q E hr e0 hb r hsp => ?_⟩
  have hl := len _ _ _ _ hsp
  have KX : K.In s.heap := e0.mod.kin.keeps fun b o e => (e0.bs b o e).1
  have lim : s.heap.NoLimit := e0.mod.nolimit.keeps fun b o e => (e0.bs b o e).1
  have hkind : ∀ y ∈ ps.zip us, scope.names.lookup y.1 = some .local ∨ (scope.names.lookup y.1 = some .cell ∧ ((cellsFrom (s.heap.objs.size + 1) scope.names []).lookup y.1).isSome = true) := fun ⟨n, v⟩ hy => by
    rcases S.par n (List.of_mem_zip hy).1 with q | q
    · exact .inl q
    · exact .inr ⟨q, PySem.W.cellsFrom_some _ _ _ (.inl q)⟩
  refine codeAny_call_function hr.depth (KX _ _ lk) rfl S.co S.gen rfl (PySem.W.codeRec_of KX hcd) (hb _ _ _ _ ?_)
  refine wpAny_newFunctionEnv_cells S.kind hkind fun env he s1 x => ?_
  subst he
  refine ⟨lim.keeps x.toInCall.keep, codeAny_func ?_⟩
  obtain ⟨t, ht, hq⟩ := hbody A outer s H vs Q E (hr.deeper _) hsp
  have I : Inv (cxOf CX P w K mg base N qual scope f cdv A outer s H E) [] (start N vs) H s1 := inv_start S hr.hd e0 hl r x
  refine wpAny_mono (ht [] s1 (start N vs) H _ I hq) (fun fl s' hs => ?_) fun e s' hs => hs
  have fin : ∀ {σ' : St} {H' : Hp} {v : V} {u : Value}, Inv (cxOf CX P w K mg base N qual scope f cdv A outer s H E) [] σ' H' s' → RelV v u → Q v H' → CE outer P w H s Q u s' :=
    fun {σ' H' v u} J rv q => ⟨v, H', J.os, J.bare, J.base, J.hok, rv, q⟩
  cases fl with
  | ret u =>
    obtain ⟨v, σ', H', J, rv, q⟩ := hs
    exact fin J rv q
  | next =>
    obtain ⟨σ', H', J, q⟩ := hs
    exact fin (v := V.non) (u := Value.none) J rfl q
  | brk =>
    obtain ⟨_, _, _, q⟩ := hs
    exact False.elim q
  | cont =>
    obtain ⟨_, _, _, q⟩ := hs
    exact False.elim q
end L2

namespace L2
open PySem PySem.Spec PyProof.Rows
section
variable {X : Cx} {x : Str} {p pos : Pos} {e : Expr} {es : List Expr} {t : TA} {id T : String} {r : List V → Hp → VK → Prop}

def tCB (r : List V → Hp → VK → Prop) (t : TA) : TE := fun σ H Q => t σ H fun vs H1 => r vs H1 Q
/-- f(e, ..), f a built-in function -/
theorem pe_callB (hc : CallR X (.builtin id) r) (hg : Gl X x) (hm : X.mg x = none) (hv : bootBuiltins x = some (.builtin id)) (ha : PA X (e :: es) t) (hn : x ≠ "__name__" := by decide) (hdb : (x == ("__debug__" : Str)) = false := by decide)
    (he : starEach (e :: es) X.env = (false, eval e X.env) :: starEach es X.env := by rfl) (hpl : (backTo pos (starEach es X.env)).any (·.1) = false := by rfl) : PE X (.Call (.Name x p) (e :: es) [] pos) (tCB r t) := by
  intro pins s σ H Q I h
  refine wpAny_Call_Name_kw (ld_blt I hg hm hv ?_ hn hdb)
  exact PyProof.Rows.callWith_builtin1 (thn (ha pos pins s σ H _ I h) fun us s1 ⟨vs, H1, I1, r1, q1⟩ => hc pins s1 σ H1 vs us Q I1 r1 q1) he hpl
/-- T(e, ..), T a built-in type -/
theorem pe_callTy (hc : CallR X (.type T) r) (hg : Gl X x) (hm : X.mg x = none) (hv : bootBuiltins x = some (.type T)) (ha : PA X (e :: es) t) (hn : x ≠ "__name__" := by decide) (hdb : (x == ("__debug__" : Str)) = false := by decide)
    (he : starEach (e :: es) X.env = (false, eval e X.env) :: starEach es X.env := by rfl) (hpl : (backTo pos (starEach es X.env)).any (·.1) = false := by rfl) : PE X (.Call (.Name x p) (e :: es) [] pos) (tCB r t) := by
  intro pins s σ H Q I h
  refine wpAny_Call_Name_kw (ld_blt I hg hm hv ?_ hn hdb)
  exact PyProof.Rows.callWith_type1 (thn (ha pos pins s σ H _ I h) fun us s1 ⟨vs, H1, I1, r1, q1⟩ => hc pins s1 σ H1 vs us Q I1 r1 q1) he hpl
/-- T() -/
theorem pe_callTy0 (hc : CallR X (.type T) r) (hg : Gl X x) (hm : X.mg x = none) (hv : bootBuiltins x = some (.type T)) (hn : x ≠ "__name__" := by decide) (hdb : (x == ("__debug__" : Str)) = false := by decide) :
    PE X (.Call (.Name x p) [] [] pos) (tCB r tNil) := by
  intro pins s σ H Q I h
  refine wpAny_Call_Name_kw (ld_blt I hg hm hv ?_ hn hdb)
  exact PyProof.Rows.callWith_type0 (hc pins s σ H [] [] Q I .nil h)
end
end L2

namespace HT
open PySem PyProof.Rows

/-- t < u of tuples of ints -/
def lexLt : List Int → List Int → Bool
  | [], [] => false
  | [], _ :: _ => true
  | _ :: _, [] => false
  | x :: xs, y :: ys => if x = y then lexLt xs ys else decide (x < y)
theorem lexLt_cons (x y : Int) (xs ys : List Int) : lexLt (x :: xs) (y :: ys) = if x = y then lexLt xs ys else decide (x < y) := rfl
theorem lexLt_nil_nil : lexLt [] [] = false := rfl
theorem lexLt_nil_cons (y : Int) (ys : List Int) : lexLt [] (y :: ys) = true := rfl
theorem lexLt_cons_nil (x : Int) (xs : List Int) : lexLt (x :: xs) [] = false := rfl

theorem eqAt_int (A : Around) (s : Shared) (a : Int) (t : Tok) (c : Int) (u : Tok) : ∃ e, SeqAt.EqAt A s (.int a t) (.int c u) e ∧ (e = true ↔ a = c) :=
  ⟨(a == c), SeqAt.EqAt.int_int a t c u, by simp⟩
theorem rcLt_int (A : Around) (s : Shared) (a : Int) (t : Tok) (c : Int) (u : Tok) (prog : Program) (w : World) (E : Value → Shared → Prop) (Q : Value → Shared → Prop) (h : Q (.bool (decide (a < c))) s) :
    wpAny (model prog w) A (richCompare .Lt (.int a t) (.int c u)) Q E s :=
  (PyProof.Rows.lt_int h : wpAny (model prog w) A (compareOp .Lt (.int a t) (.int c u)) Q E s)

section
open PySem.SeqAt
open PySem.AutoSeq1 (wpAny_loadPart')
open PySem.MeetsSeq PySem.MeetsSeq2 PySem.MeetsSeq3

theorem tuple_lt_ints (l b : Addr) (items items2 : Array Value) (n n2 : Nat) (dd dd2 : Option Addr) (sl sl2 : Array (Option Value)) (ns ms : List Int) (hi : IntsAre items.toList ns) (hj : IntsAre items2.toList ms) :
    Meets (Builtin.«tuple.__lt__» ⟨[.ref l, .ref b], []⟩)
      (fun _ R s => s.heap.get? l = some { cls := .type "tuple", dict := dd, data := .seq items n, slots := sl } ∧ s.heap.get? b = some { cls := .type "tuple", dict := dd2, data := .seq items2 n2, slots := sl2 } ∧
        R (.ok (.ret (.bool (lexLt ns ms)))) s) :=
  .of_wp fun prog w A R s h => by
    obtain ⟨hp, g, d, tk, os⟩ := s; obtain ⟨hl, hb, h⟩ := h
    have f2 := AutoSeq1.sub_tuple_tuple
    have z1 : items.size = ns.length := by rw [← hi.length]; simp
    have z2 : items2.size = ms.length := by rw [← hj.length]; simp
    wp_walk using wpAny_loadPart' hl, wpAny_loadPart' hb, wpAny_forIn_list _ (fun rest b s' => b.1 = none ∧ s' = ⟨hp, g, d, tk, os⟩ ∧ ∃ (vs ws : List Value) (ns' ms' : List Int), rest = vs.zip ws ∧
      IntsAre vs ns' ∧ IntsAre ws ms' ∧ ns'.length + items2.size = ms'.length + items.size ∧ R (.ok (.ret (.bool (lexLt ns' ms')))) ⟨hp, g, d, tk, os⟩) _
    case turn =>
      rintro ⟨y, x⟩ rest b s' ⟨hb', rfl, vs, ws, ns', ms', hz, hvi, hwi, hlen, hR⟩
      cases hvi with
      | nil => rw [List.zip_nil_left] at hz; cases hz
      | cons a t hvi' =>
        cases hwi with
        | nil => rw [List.zip_nil_right] at hz; cases hz
        | cons c u hwi' =>
          rw [List.zip_cons_cons] at hz
          injection hz with hyx hrest
          injection hyx with hy hx
          subst hy hx
          rw [lexLt_cons] at hR
          simp only [List.length_cons] at hlen
          obtain ⟨e, he, hiff⟩ := eqAt_int A.in1 ⟨hp, g, d, tk, os⟩ a t c u
          refine wpAny_bind (he prog w _ _ ?_)
          cases e with
          | true =>
            rw [if_pos (hiff.mp rfl)] at hR
            wp_walk
            exact ⟨rfl, rfl, _, _, _, _, hrest, hvi', hwi', by omega, hR⟩
          | false =>
            rw [if_neg (fun q => absurd (hiff.mpr q) Bool.false_ne_true)] at hR
            have hri := rcLt_int A.in1 ⟨hp, g, d, tk, os⟩ a t c u prog w
            wp_walk using hri
            exact ⟨_, rfl, by simpa using hR⟩
    case fin =>
      rintro ⟨b1, b2⟩ s' ⟨hb', rfl, vs, ws, ns', ms', hz, hvi, hwi, hlen, hR⟩
      simp only at hb'
      subst hb'
      have hv : lexLt ns' ms' = decide (items.size < items2.size) := by
        cases hvi with
        | nil =>
          cases hwi with
          | nil =>
            simp only [List.length_nil] at hlen
            rw [lexLt_nil_nil]
            exact (decide_eq_false (by omega)).symm
          | cons c u hw =>
            simp only [List.length_nil, List.length_cons] at hlen
            rw [lexLt_nil_cons]
            exact (decide_eq_true (by omega)).symm
        | cons a t hv =>
          cases hwi with
          | nil =>
            simp only [List.length_nil, List.length_cons] at hlen
            rw [lexLt_cons_nil]
            exact (decide_eq_false (by omega)).symm
          | cons c u hw =>
            rw [List.zip_cons_cons] at hz
            cases hz
      rw [hv] at hR
      wp_walk
      exact ⟨_, rfl, by simpa [Builtin.Tuple.tupleCompareSizes] using hR⟩
    case h =>
      exact ⟨rfl, rfl, items.toList, items2.toList, ns, ms, rfl, hi, hj, by omega, h⟩
end

section
variable {prog : Program} {w : World} {A : Around} {E : Value → Shared → Prop} {s : Shared}

theorem lt_tupInts {l b : Addr} {items items2 : Array Value} {ns ms : List Int} {Q : Value → Shared → Prop} (hl : IsTup s.heap l items) (hb : IsTup s.heap b items2) (hi : IntsAre items.toList ns) (hj : IntsAre items2.toList ms)
    (hu : A.units < cLine) (h : Q (.bool (lexLt ns ms)) s) : wpAny (model prog w) A (compareOp .Lt (.ref l) (.ref b)) Q E s := by
  obtain ⟨⟨cls, dd, data, sl⟩, ho, hc, n, hd⟩ := id hl
  obtain ⟨⟨cls2, dd2, data2, sl2⟩, ho2, hc2, n2, hd2⟩ := id hb
  simp only at hc hd hc2 hd2
  subst hc hd hc2 hd2
  exact richCompare_meets_room (op := .Lt) ⟨_, ho, rfl⟩ ⟨_, ho2, rfl⟩ PySem.F.slot_tuple_lt PySem.F.entry_tuple_lt (PySem.F.args_tuple_lt_2 _ _) (tuple_lt_ints l b items items2 n n2 dd dd2 sl sl2 ns ms hi hj)
    ⟨ho, ho2, show Value.bool (lexLt ns ms) ≠ Value.notImplemented ∧ Q (.bool (lexLt ns ms)) s from ⟨(fun x => nomatch x), h⟩⟩ hu

/-- t + u, t not empty -/
theorem cat_tup {t b : Addr} {vs ws : List Value} {Q : Value → Shared → Prop} (ht : IsTup s.heap t vs.toArray) (hb : IsTup s.heap b ws.toArray) (hv : vs ≠ [])
    (h1 : ws = [] → Q (.ref t) s) (h2 : ws ≠ [] → Q (.ref s.heap.objs.size) { s with heap := s.heap.push { cls := .type "tuple", data := .seq (vs ++ ws).toArray } })
    (hsz : vs.length + ws.length ≤ sizeLine) : wpAny (model prog w) A (binaryOp .Add (.ref t) (.ref b)) Q E s := by
  obtain ⟨⟨cls, dd, data, sl⟩, ho, hc, n, hd⟩ := id ht
  obtain ⟨⟨cls2, dd2, data2, sl2⟩, ho2, hc2, n2, hd2⟩ := id hb
  simp only at hc hd hc2 hd2
  subst hc hd hc2 hd2
  have e : vs.toArray ++ ws.toArray = (vs ++ ws).toArray := by simp
  by_cases hw : ws = []
  · exact concat_meets ⟨_, ho, rfl⟩ ⟨_, ho2, rfl⟩ noFill_tuple_add seq_tuple_add PySem.F.slot_tuple_add PySem.F.entry_tuple_add (PySem.F.args_tuple_add_2 _ _)
      (tuple_addW1 t b vs.toArray ws.toArray n n2 dd dd2 sl sl2 (by simpa using hv) (by simp [hw])) ⟨ho, ho2, h1 hw⟩
  · refine concat_meets ⟨_, ho, rfl⟩ ⟨_, ho2, rfl⟩ noFill_tuple_add seq_tuple_add PySem.F.slot_tuple_add PySem.F.entry_tuple_add (PySem.F.args_tuple_add_2 _ _)
      (tuple_addW2 t b vs.toArray ws.toArray n n2 dd dd2 sl sl2 (by simpa using hv) (by simpa using hw) (by rw [List.size_toArray, List.size_toArray]; exact hsz)) ⟨ho, ho2, ?_⟩
    rw [e]
    exact h2 hw

/-! ### t[a:b], not the whole -/
/-- a slice's bound as a place among n (d where it is left out) -/
def sIx (n d : Nat) : Option Int → Nat
  | none => d
  | some v => if v < 0 then (v + (n : Int)).toNat else min v.toNat n
theorem sIx_none (n d : Nat) : sIx n d none = d := rfl
theorem sIx_nat (n d k : Nat) : sIx n d (some (k : Int)) = min k n := by
  show (if (k : Int) < 0 then ((k : Int) + (n : Int)).toNat else min (k : Int).toNat n) = min k n
  rw [if_neg (by omega), Int.toNat_natCast]
theorem sIx_le (n d : Nat) (hd : d ≤ n) (o : Option Int) : sIx n d o ≤ n := by
  cases o with
  | none => exact hd
  | some v =>
    show (if v < 0 then (v + (n : Int)).toNat else min v.toNat n) ≤ n
    by_cases hv : v < 0
    · rw [if_pos hv]; omega
    · rw [if_neg hv]; exact Nat.min_le_right _ _
theorem clip_eq (v : Int) (n d : Nat) : (if v < 0 then max (v + (n : Int)) 0 else min v (n : Int)) = ((sIx n d (some v) : Nat) : Int) := by
  show (if v < 0 then max (v + (n : Int)) 0 else min v (n : Int)) = (((if v < 0 then (v + (n : Int)).toNat else min v.toNat n) : Nat) : Int)
  by_cases hv : v < 0
  · simp only [if_pos hv]; omega
  · simp only [if_neg hv]; omega
theorem adjust_gen (lo hi : Option Int) (n : Nat) : Builtin.Slice.sliceAdjust lo hi 1 (n : Int) = (((sIx n 0 lo : Nat) : Int), ((sIx n n hi : Nat) : Int)) := by
  have h1 : ¬ ((1 : Int) < 0) := by omega
  unfold Builtin.Slice.sliceAdjust
  simp only [h1, if_false]
  refine Prod.ext ?_ ?_
  · cases lo with
    | none => rfl
    | some v => exact clip_eq v n 0
  · cases hi with
    | none => rfl
    | some v => exact clip_eq v n n
theorem places_gen (i j : Nat) : Builtin.Slice.slicePlaces (i : Int) (j : Int) 1 = j - i := by
  unfold Builtin.Slice.slicePlaces
  have h1 : (1 : Int) > 0 := by omega
  simp only [h1, if_true, Int.ediv_one]
  split <;> omega
theorem slicePart_ {v : Value} {o : Option Int} {Q : Option Int → Shared → Prop} (p : IsPart v o) (h : Q o s) : wpAny (model prog w) A (Builtin.Slice.slicePartIndex v) Q E s := by
  cases p with
  | none => exact slicePart_none h
  | int i t => exact slicePart_int h
theorem sliceApplied_gen {sl : Addr} {vl vu : Value} {lo hi : Option Int} {n : Nat} {Q : Int × Int × Nat → Shared → Prop} (hs : s.heap.IsSliceOf sl vl vu .none) (pl : IsPart vl lo) (pu : IsPart vu hi)
    (h : Q (((sIx n 0 lo : Nat) : Int), 1, sIx n n hi - sIx n 0 lo) s) : wpAny (model prog w) A (Builtin.Slice.sliceApplied (.ref sl) (pure (n : Int))) Q E s := by
  obtain ⟨os, hos, hcs, hds⟩ := id hs
  unfold Builtin.Slice.sliceApplied Builtin.Slice.sliceFields
  refine wpAny_bind (wpAny_bind (wpAny_field hos hds (x := vl) rfl (wpAny_bind (wpAny_field hos hds (x := vu) rfl (wpAny_bind (wpAny_field hos hds (x := .none) rfl (wpAny_pure ?_)))))))
  refine wpAny_bind (slicePart_none ?_)
  show wpAny _ _ (if ((1 : Int) == 0) = true then _ else _) _ _ s
  rw [if_neg (by decide)]
  refine wpAny_bind (slicePart_ pl (wpAny_bind (slicePart_ pu (wpAny_bind (wpAny_pure ?_)))))
  show wpAny _ _ (match Builtin.Slice.sliceAdjust lo hi 1 (n : Int) with | (lo, hi) => pure (lo, (1 : Int), Builtin.Slice.slicePlaces lo hi 1)) _ _ s
  rw [adjust_gen lo hi n]
  show wpAny _ _ (pure (((sIx n 0 lo : Nat) : Int), (1 : Int), Builtin.Slice.slicePlaces ((sIx n 0 lo : Nat) : Int) ((sIx n n hi : Nat) : Int) 1)) _ _ s
  rw [places_gen]
  exact wpAny_pure h
theorem pick_gen (xs : Array Value) (i k : Nat) : ((List.range k).filterMap fun (m : Nat) => xs[((i : Int) + (m : Int) * 1).toNat]?).toArray = ((xs.toList.drop i).take k).toArray := by
  have e : (fun (m : Nat) => xs[((i : Int) + (m : Int) * 1).toNat]?) = fun m => xs[i + m]? := by
    funext m
    have : ((i : Int) + (m : Int) * 1).toNat = i + m := by omega
    rw [this]
  rw [e]
  have := pick_run xs i k
  rw [List.filterMap_map] at this
  have e2 : ((fun x => xs[x]?) ∘ fun x => i + x) = fun m => xs[i + m]? := rfl
  rw [e2] at this
  rw [this]

theorem getItem_tuple_cut {t sl : Addr} {items : Array Value} {vl vu : Value} {lo hi : Option Int} {Q : Value → Shared → Prop} (ht : IsTup s.heap t items) (hs : s.heap.IsSliceOf sl vl vu .none) (pl : IsPart vl lo) (pu : IsPart vu hi)
    (hw : ¬ (sIx items.size 0 lo = 0 ∧ sIx items.size items.size hi = items.size))
    (h : Q (.ref s.heap.objs.size) { s with heap := s.heap.push { cls := .type "tuple", data := .seq ((items.toList.drop (sIx items.size 0 lo)).take (sIx items.size items.size hi - sIx items.size 0 lo)).toArray } })
    (hsz : items.size ≤ sizeLine) : wpAny (model prog w) A (getItem (.ref t) (.ref sl)) Q E s := by
  have htake : sizeOk (.seq ((items.toList.drop (sIx items.size 0 lo)).take (sIx items.size items.size hi - sIx items.size 0 lo)).toArray) := by
    show ((items.toList.drop (sIx items.size 0 lo)).take (sIx items.size items.size hi - sIx items.size 0 lo)).toArray.size ≤ sizeLine
    rw [List.size_toArray, List.length_take, List.length_drop, Array.length_toList]
    omega
  have hj : sIx items.size items.size hi ≤ items.size := sIx_le _ _ (Nat.le_refl _) hi
  obtain ⟨os, hos, hcs, hds⟩ := id hs
  have hTs : s.TypeIs (.ref sl) "slice" := ⟨os, hos, hcs⟩
  unfold getItem
  try with_reducible refine wpAny_holding ?_
  first | refine wpAny_bind (wpAny_pure ?_) | skip
  refine wpAny_bind (wpAny_sequenceKey ht.typeIs (by decide) ?_)
  refine wpAny_bind (wpAny_callSpecial?_slot (name := Str.ofString "__getitem__") ht.typeIs PyProof.Rows.slot_tuple_getitem
    (wpAny_call_entry PyProof.Rows.slot_tuple_getitem ht.typeIs entry_tuple_getitem ?_ (args_tuple_getitem _ _)))
  show wpAny _ _ (Builtin.Tuple.tupleItemsOf (.ref t) >>= _) _ _ s
  refine wpAny_bind (tupleItemsOf_ ht ?_)
  refine wpAny_bind (wpAny_typeOf hTs ?_)
  rw [if_pos (by decide)]
  refine wpAny_bind (sliceApplied_gen hs pl pu ?_)
  have hno : ¬ ((((sIx items.size 0 lo : Nat) : Int) == 0 && (1 : Int) == 1 && (sIx items.size items.size hi - sIx items.size 0 lo) == items.size) = true) := by
    intro q
    rw [Bool.and_eq_true, Bool.and_eq_true] at q
    have q1 : ((sIx items.size 0 lo : Nat) : Int) = 0 := eq_of_beq q.1.1
    have q2 : sIx items.size items.size hi - sIx items.size 0 lo = items.size := eq_of_beq q.2
    exact hw ⟨by omega, by omega⟩
  show wpAny _ _ (if (((sIx items.size 0 lo : Nat) : Int) == 0 && (1 : Int) == 1 && (sIx items.size items.size hi - sIx items.size 0 lo) == items.size) = true then _ else _) _ _ s
  rw [if_neg hno, pick_gen]
  first
    | exact wpAny_bind (m := Builtin.Tuple.tupleExact _) (wpAny_newObj_type (wpAny_pure ⟨_, rfl, wpAny_pure h⟩) htake)
    | exact wpAny_bind (m := Builtin.Tuple.tupleExact _) (wpAny_newObj_type (wpAny_bind (wpAny_pure (wpAny_pure ⟨_, rfl, wpAny_pure h⟩))) htake)
    | exact wpAny_bind (wpAny_bind (m := Builtin.Tuple.tupleExact _) (wpAny_newObj_type (wpAny_pure (wpAny_pure ⟨_, rfl, wpAny_pure h⟩)) htake))
    | exact wpAny_bind (wpAny_bind (m := Builtin.Tuple.tupleExact _) (wpAny_newObj_type (wpAny_pure ⟨_, rfl, wpAny_pure h⟩) htake))
end
end HT

namespace L2
open PySem PySem.Spec PyProof.Rows

/-! ### the parts of a slice -/
abbrev TO := St → Hp → (Option Int → Hp → Prop) → Prop
/-- a slice's part (left out, or an int) -/
def PO (X : Cx) (e : Option Expr) (t : TO) : Prop :=
  ∀ (pins : List (Addr × Obj)) (s : Shared) (σ : St) (H : Hp) (Q : Option Int → Hp → Prop), Inv X pins σ H s → t σ H Q →
    wpAny (model X.prog X.w) X.A (evalPart e X.env) (fun u s' => ∃ o H', Inv X pins σ H' s' ∧ IsPart u o ∧ Q o H') X.xe s
def tNoPart : TO := fun _ H Q => Q none H
def tPart (t : TE) : TO := fun σ H Q => t σ H fun x H1 => ∃ i, x = .int i ∧ Q (some i) H1

theorem intsAre_of {ns : List Int} : ∀ {us : List Value}, Vals (ns.map V.int) us → IntsAre us ns := by
  induction ns with
  | nil => intro us r; rw [List.map_nil] at r; cases r; exact .nil
  | cons n ns ih =>
    intro us r
    rw [List.map_cons] at r
    cases r with
    | cons r1 r2 =>
      obtain ⟨t, e⟩ := r1
      subst e
      exact .cons n t (ih r2)

section
variable {X : Cx} {e : Expr} {te : TE} {lo hi : Option Expr} {tl th : TO} {pos p2 : Pos}

theorem po_none : PO X none tNoPart := by
  intro pins s σ H Q I h
  rw [evalPart_none]
  exact wpAny_pure ⟨none, H, I, .none, h⟩
theorem po_some (h : PE X e te) : PO X (some e) (tPart te) := by
  intro pins s σ H Q I hw
  rw [evalPart_some]
  refine thn (h pins s σ H _ I hw) fun u s1 ⟨x, H1, I1, r1, q1⟩ => ?_
  obtain ⟨i, rfl, q⟩ := q1
  obtain ⟨t, rfl⟩ := r1
  exact ⟨some i, H1, I1, .int i t, q⟩

/-- what a slice of a value is, by values: the slice object stands at sl -/
def SlR (X : Cx) (r : V → Option Int → Option Int → Hp → VK → Prop) : Prop :=
  ∀ (pins : List (Addr × Obj)) (s : Shared) (σ : St) (H : Hp) (x : V) (v vl vu : Value) (lo hi : Option Int) (sl : Addr) (Q : VK), Inv X pins σ H s → RelV x v → s.heap.IsSliceOf sl vl vu .none → IsPart vl lo → IsPart vu hi → r x lo hi H Q →
    ∃ T id, typeLookup (.type T) "__getitem__" = pure (some (.builtin id)) ∧ s.TypeIs v T ∧ wpAny (model X.prog X.w) X.A (getItem v (.ref sl)) (EP X pins σ Q) X.xe s
theorem SlR.or {r r' : V → Option Int → Option Int → Hp → VK → Prop} (h : SlR X r) (h' : SlR X r') : SlR X (fun x lo hi H Q => r x lo hi H Q ∨ r' x lo hi H Q) := by
  intro pins s σ H x v vl vu lo hi sl Q I rx hs pl pu q
  rcases q with q | q
  · exact h pins s σ H x v vl vu lo hi sl Q I rx hs pl pu q
  · exact h' pins s σ H x v vl vu lo hi sl Q I rx hs pl pu q
def tSl (r : V → Option Int → Option Int → Hp → VK → Prop) (te : TE) (tl th : TO) : TE := fun σ H Q => te σ H fun x H1 => tl σ H1 fun l H2 => th σ H2 fun u H3 => r x l u H3 Q
/-- a[lo:hi], any a -/
theorem pe_slice {r : V → Option Int → Option Int → Hp → VK → Prop} (hr : SlR X r) (he : PE X e te) (hl : PO X lo tl) (hu : PO X hi th) : PE X (.Subscript e (.Slice lo hi none p2) pos) (tSl r te tl th) := by
  intro pins s σ H Q I h
  refine Subscript_ (thn (he pins s σ H _ I h) fun v s1 ⟨x, H1, I1, r1, q1⟩ => ?_)
  refine wpAny_Slice (thn (hl pins s1 σ H1 _ I1 q1) fun vl s2 ⟨l, H2, I2, pl, q2⟩ => thn (hu pins s2 σ H2 _ I2 q2) fun vu s3 ⟨u, H3, I3, pu, q3⟩ => ?_)
  rw [evalPart_none]
  refine wpAny_pure ?_
  have I4 : Inv X pins σ H3 { s3 with heap := s3.heap.push { cls := .type "slice", data := .fields #[vl, vu, .none] } } := I3.kept (t' := s3.toks) fun b ob q => Heap.get?_push_of_some _ q
  obtain ⟨T, id, hT, ht, hg⟩ := hr pins { s3 with heap := s3.heap.push { cls := .type "slice", data := .fields #[vl, vu, .none] } } σ H3 x v vl vu l u s3.heap.objs.size Q I4 r1 (Heap.IsSliceOf.new ..) pl pu q3
  show wpAny (model X.prog X.w) X.A (subscriptTail e (.Slice lo hi none p2) v (.ref s3.heap.objs.size)) (EP X pins σ Q) X.xe { s3 with heap := s3.heap.push { cls := .type "slice", data := .fields #[vl, vu, .none] } }
  exact tail_any (ops := [.ref s3.heap.objs.size, v]) ht hT hg (by with_unfolding_all rfl)

/-- the items of xs[lo:hi] -/
def cutV (xs : List V) (lo hi : Option Int) : List V := (xs.drop (HT.sIx xs.length 0 lo)).take (HT.sIx xs.length xs.length hi - HT.sIx xs.length 0 lo)
theorem cutV_length (xs : List V) (lo hi : Option Int) : (cutV xs lo hi).length ≤ xs.length := by
  unfold cutV
  rw [List.length_take, List.length_drop]
  omega
/-- t[lo:hi], not the whole of it (the whole would be t itself) -/
def rSlT (K : PySem.W.Frag) : V → Option Int → Option Int → Hp → VK → Prop := fun x lo hi H Q => ∃ a xs, x = .ref a ∧ SqT K H a xs ∧
  ¬ (HT.sIx xs.length 0 lo = 0 ∧ HT.sIx xs.length xs.length hi = xs.length) ∧ ∀ p, H p = none → Q (.ref p) (upd H p (.tup (cutV xs lo hi)))
theorem sl_tup : SlR X (rSlT X.K) := by
  intro pins s σ H x v vl vu lo hi sl Q I rx hs pl pu h
  obtain ⟨a, xs, rfl, hx, hw, q⟩ := h
  cases rx
  obtain ⟨its, r, ht, hz⟩ := I.tuple hx
  have hlen : its.toArray.size = xs.length := by rw [List.size_toArray]; exact r.length.symm
  refine ⟨"tuple", _, PyProof.Rows.slot_tuple_getitem.lookup, ht.typeIs, ?_⟩
  refine HT.getItem_tuple_cut ht hs pl pu (by rw [hlen]; exact hw) ?_ (by rw [hlen]; exact hz)
  rw [hlen]
  refine ⟨.ref s.heap.objs.size, _, I.laid (t' := s.toks) (o := .tup (cutV xs lo hi)) (fun b ob q => Heap.get?_push_of_some _ q) (Nat.le_refl _) ?_, rfl, q _ (I.hok.fresh (Nat.le_refl _))⟩
  exact ⟨Nat.le_trans (cutV_length xs lo hi) hz, _, (r.drop (HT.sIx xs.length 0 lo)).take (HT.sIx xs.length xs.length hi - HT.sIx xs.length 0 lo), IsTup.new _ _⟩

/-! ### t < u, t + u -/
def rLtT (K : PySem.W.Frag) : R2 := fun x y H Q => ∃ a b ns ms, x = .ref a ∧ y = .ref b ∧ SqT K H a (ns.map V.int) ∧ SqT K H b (ms.map V.int) ∧ Q (.bl (HT.lexLt ns ms)) H
theorem op_ltT (hu : X.A.units < cLine) : OpR X (compareOp .Lt) (rLtT X.K) := by
  intro pins s σ H x y v u Q I rx ry h
  obtain ⟨a, b, ns, ms, rfl, rfl, ha, hb, q⟩ := h
  cases rx
  cases ry
  obtain ⟨its, r1, p1, _⟩ := I.tuple ha
  obtain ⟨its2, r2, p2, _⟩ := I.tuple hb
  have i1 : IntsAre its.toArray.toList ns := intsAre_of r1
  have i2 : IntsAre its2.toArray.toList ms := intsAre_of r2
  exact HT.lt_tupInts p1 p2 i1 i2 hu ⟨.bl (HT.lexLt ns ms), H, I, rfl, q⟩
/-- t + u, t not empty: u empty gives t itself -/
def rCatT (K : PySem.W.Frag) : R2 := fun x y H Q => ∃ a b xs ys, x = .ref a ∧ y = .ref b ∧ SqT K H a xs ∧ SqT K H b ys ∧ xs ≠ [] ∧ xs.length + ys.length ≤ sizeLine ∧
  (ys = [] → Q (.ref a) H) ∧ (ys ≠ [] → ∀ p, H p = none → Q (.ref p) (upd H p (.tup (xs ++ ys))))
theorem Vals.nil_iff {xs : List V} {us : List Value} (r : Vals xs us) : us = [] ↔ xs = [] := by
  cases r with
  | nil => simp
  | cons _ _ => simp
theorem op_catT : OpR X (binaryOp .Add) (rCatT X.K) := by
  intro pins s σ H x y v u Q I rx ry h
  obtain ⟨a, b, xs, ys, rfl, rfl, ha, hb, hx, hz, q1, q2⟩ := h
  cases rx
  cases ry
  obtain ⟨its, r1, p1, _⟩ := I.tuple ha
  obtain ⟨its2, r2, p2, _⟩ := I.tuple hb
  refine HT.cat_tup p1 p2 (fun z => hx (r1.nil_iff.mp z)) (fun z => ⟨.ref a, H, I, rfl, q1 (r2.nil_iff.mp z)⟩) (fun z => ?_) (by rw [← r1.length, ← r2.length]; exact hz)
  refine ⟨.ref s.heap.objs.size, _, I.laid (t' := s.toks) (o := .tup (xs ++ ys)) (fun b ob q => Heap.get?_push_of_some _ q) (Nat.le_refl _) ?_, rfl, q2 (fun w => z (r2.nil_iff.mpr w)) _ (I.hok.fresh (Nat.le_refl _))⟩
  exact ⟨by rw [List.length_append]; exact hz, _, r1.append r2, IsTup.new _ _⟩
/-- tuple(t) -/
theorem call_tupleT : CallR X (.type "tuple") (fun xs H Q => ∃ a ys, xs = [.ref a] ∧ SqT X.K H a ys ∧ Q (.ref a) H) := by
  intro pins s σ H xs us Q I r h
  obtain ⟨a, ys, rfl, ha, q⟩ := h
  obtain ⟨u, rfl, ru⟩ := vals1 r
  cases ru
  obtain ⟨its, _, p1, _⟩ := I.tuple ha
  exact call_tuple_same (items := its.toArray) p1 ⟨.ref a, H, I, rfl, q⟩
end
end L2

namespace L2
open PySem PySem.Spec PyProof.Rows

/-! ### places -/
/-- the place that an index of any sign means -/
def ixN (n : Nat) (i : Int) : Option Nat := if 0 ≤ i then (if i < n then some i.toNat else none) else if -(n : Int) ≤ i then some (i + n).toNat else none
def atI {α : Type} (xs : List α) (i : Int) : Option α := (ixN xs.length i).bind fun j => xs[j]?
theorem ixN_seq {n : Nat} {i : Int} {j : Nat} (h : ixN n i = some j) : seqIndex? i n = some j ∧ j < n ∧ -(n : Int) ≤ i ∧ i < n := by
  unfold ixN at h
  by_cases h0 : 0 ≤ i
  · rw [if_pos h0] at h
    by_cases h1 : i < n
    · rw [if_pos h1] at h
      have e : i.toNat = j := Option.some.inj h
      exact ⟨by rw [seqIndex_of h0 h1, e], by omega, by omega, h1⟩
    · rw [if_neg h1] at h; cases h
  · rw [if_neg h0] at h
    by_cases h1 : -(n : Int) ≤ i
    · rw [if_pos h1] at h
      have e : (i + n).toNat = j := Option.some.inj h
      exact ⟨by rw [seqIndex_neg (by omega) h1, e], by omega, h1, by omega⟩
    · rw [if_neg h1] at h; cases h
theorem atI_get {α : Type} {xs : List α} {i : Int} {v : α} (h : atI xs i = some v) : ∃ j, seqIndex? i xs.length = some j ∧ xs[j]? = some v ∧ j < xs.length ∧ -(xs.length : Int) ≤ i ∧ i < xs.length := by
  unfold atI at h
  cases e : ixN xs.length i with
  | none => rw [e] at h; cases h
  | some j =>
    rw [e] at h
    obtain ⟨h1, h2, h3, h4⟩ := ixN_seq e
    exact ⟨j, h1, h, h2, h3, h4⟩
theorem atI_nat {α : Type} {xs : List α} {j : Nat} {v : α} (h : xs[j]? = some v) : atI xs (j : Int) = some v := by
  have hj : j < xs.length := (List.getElem?_eq_some_iff.mp h).1
  have e : ixN xs.length (j : Int) = some j := by
    unfold ixN
    rw [if_pos (by omega), if_pos (by omega)]; simp
  unfold atI; rw [e]; exact h
theorem atI_last {α : Type} (xs : List α) (v : α) : atI (xs ++ [v]) (-1) = some v := by
  have hl : (xs ++ [v]).length = xs.length + 1 := by simp
  have e : ixN (xs ++ [v]).length (-1) = some xs.length := by
    unfold ixN
    rw [hl, if_neg (by decide), if_pos (by omega)]
    congr 1
    omega
  unfold atI
  rw [e]
  show (xs ++ [v])[xs.length]? = some v
  simp

/-! ### what may be subscripted -/
/-- what stands as an index of a plain subscript -/
def PlainIx (b : Expr) : Prop := ∀ o i, subscripted b false o i = operate [o, i] (getItem o i)
/-- a subscript by values -/
def IxR (X : Cx) (r : R2) : Prop :=
  ∀ (value slice : Expr) (pins : List (Addr × Obj)) (s : Shared) (σ : St) (H : Hp) (x y : V) (v u : Value) (Q : VK), Inv X pins σ H s → RelV x v → RelV y u → r x y H Q →
    subscripted slice false v u = operate [v, u] (getItem v u) → wpAny (model X.prog X.w) X.A (subscriptTail value slice v u) (EP X pins σ Q) X.xe s
/-- a call of a builtin's method by values: the receiver, the arguments -/
def MtR (X : Cx) (id : String) (r : V → List V → Hp → VK → Prop) : Prop :=
  ∀ (pins : List (Addr × Obj)) (s : Shared) (σ : St) (H : Hp) (x : V) (xs : List V) (v : Value) (us : List Value) (Q : VK), Inv X pins σ H s → RelV x v → Vals xs us → r x xs H Q →
    wpAny (model X.prog X.w) X.A (call (.builtin id) (v :: us)) (EP X pins σ Q) X.xe s
section
variable {X : Cx} {a b : Expr} {ta tb : TE} {pos : Pos}
theorem IxR.or {r r' : R2} (h : IxR X r) (h' : IxR X r') : IxR X (fun x y H Q => r x y H Q ∨ r' x y H Q) := by
  intro value slice pins s σ H x y v u Q I rx ry q hs
  rcases q with q | q
  · exact h value slice pins s σ H x y v u Q I rx ry q hs
  · exact h' value slice pins s σ H x y v u Q I rx ry q hs
theorem MtR.or {id : String} {r r' : V → List V → Hp → VK → Prop} (h : MtR X id r) (h' : MtR X id r') : MtR X id (fun x xs H Q => r x xs H Q ∨ r' x xs H Q) := by
  intro pins s σ H x xs v us Q I rx rs q
  rcases q with q | q
  · exact h pins s σ H x xs v us Q I rx rs q
  · exact h' pins s σ H x xs v us Q I rx rs q
/-- a[b] -/
theorem pe_ix {r : R2} (hr : IxR X r) (ha : PE X a ta) (hb : PE X b tb) (hs : PlainIx b) : PE X (.Subscript a b pos) (tOp r ta tb) := by
  intro pins s σ H Q I h
  exact Subscript_ (binT ha hb I h fun v u s2 x y H2 I2 rx ry q => hr a b pins s2 σ H2 x y v u Q I2 rx ry q (hs _ _))

def rIxL (K : PySem.W.Frag) : R2 := fun x y H Q => ∃ p xs i v, x = .ref p ∧ y = .int i ∧ SqL K H p xs ∧ atI xs i = some v ∧ Q v H
def rIxT (K : PySem.W.Frag) : R2 := fun x y H Q => ∃ p xs i v, x = .ref p ∧ y = .int i ∧ SqT K H p xs ∧ atI xs i = some v ∧ Q v H
def rIxS : R2 := fun x y H Q => ∃ z i c, x = .str z ∧ y = .int i ∧ z.length ≤ sizeLine ∧ atI z.cps.toList i = some c ∧ Q (.str ⟨#[c]⟩) H
theorem ix_list : IxR X (rIxL X.K) := by
  intro value slice pins s σ H x y v u Q I rx ry h hs
  obtain ⟨p, xs, i, z, rfl, rfl, hq, he, q⟩ := h
  cases rx
  obtain ⟨t, rfl⟩ := ry
  obtain ⟨its, r, pl, hz⟩ := I.list hq
  obtain ⟨j, h1, h2, h3, h4, h5⟩ := atI_get he
  obtain ⟨w, ew, rw'⟩ := r.get h2
  have hl := r.length
  have hn := line63
  have fin : EP X pins σ Q w s := ⟨z, H, I, rw', q⟩
  by_cases h0 : 0 ≤ i
  · have hj : i.toNat = j := by
      rw [seqIndex_of h0 h5] at h1
      exact Option.some.inj h1
    exact item_listR pl.isList h0 (by omega) (by rw [hj]; simpa using ew) fin hs
  · have hj : (i + (its.toArray.size : Int)).toNat = j := by
      rw [seqIndex_neg (by omega) h4] at h1
      rw [List.size_toArray, ← hl]
      exact Option.some.inj h1
    exact subscriptTail_builtinR (x := w) pl.isList.typeIs slot_list_getitem.lookup
      (wpAny_getItem_list_neg (Q := fun r s' => r = w ∧ EP X pins σ Q r s') pl.isList (by omega) (by rw [List.size_toArray] <;> omega) (by omega) (by rw [hj]; simpa using ew) ⟨rfl, fin⟩) hs
theorem ix_tup : IxR X (rIxT X.K) := by
  intro value slice pins s σ H x y v u Q I rx ry h hs
  obtain ⟨p, xs, i, z, rfl, rfl, hq, he, q⟩ := h
  cases rx
  obtain ⟨t, rfl⟩ := ry
  obtain ⟨its, r, pl, hz⟩ := I.tuple hq
  obtain ⟨j, h1, h2, h3, h4, h5⟩ := atI_get he
  obtain ⟨w, ew, rw'⟩ := r.get h2
  have hl := r.length
  have hn := line63
  have fin : EP X pins σ Q w s := ⟨z, H, I, rw', q⟩
  exact subscriptTail_builtinR (x := w) pl.typeIs slot_tuple_getitem.lookup
    (getItem_tuple (j := j) (Q := fun r s' => r = w ∧ EP X pins σ Q r s') pl (by omega) (by omega) (by rw [List.size_toArray, ← hl]; exact h1) (by simpa using ew) ⟨rfl, fin⟩) hs
theorem ix_str : IxR X rIxS := by
  intro value slice pins s σ H x y v u Q I rx ry h hs
  obtain ⟨z, i, c, rfl, rfl, hz, he, q⟩ := h
  obtain ⟨t, rfl⟩ := rx
  obtain ⟨t', rfl⟩ := ry
  obtain ⟨j, h1, h2, h3, h4, h5⟩ := atI_get he
  have hl : z.cps.toList.length = z.length := by simp [Str.length]
  rw [hl] at h1 h4 h5
  have hn := line63
  exact tail_any (typeIs_str s z t) slot_str_getitem.lookup (getItem_str (c := c) (by
    have e1 : decide (i < -(2 ^ 63 : Int)) = false := decide_eq_false (by omega)
    have e2 : decide (i ≥ 2 ^ 63) = false := decide_eq_false (by omega)
    rw [e1, e2, Bool.or_false]) (by rw [h1]; simpa using h2) ⟨.str ⟨#[c]⟩, H, I.tok _, ⟨_, rfl⟩, q⟩) hs
/-- list, tuple or str -/
def rIx (K : PySem.W.Frag) : R2 := fun x y H Q => rIxL K x y H Q ∨ rIxT K x y H Q ∨ rIxS x y H Q
theorem ix_seq : IxR X (rIx X.K) := ix_list.or (ix_tup.or ix_str)

/-! ### xs[i] = v, any sign -/
/-- the list's object behind a store -/
theorem mapSeq_set (its : List Value) (n j : Nat) (u : Value) : Obj.mapSeq (·.setIfInBounds j u) { cls := .type "list", data := .seq its.toArray n } = { cls := .type "list", data := .seq (its.set j u).toArray n } := by
  simp [Obj.mapSeq]
theorem Inv.lst {pins : List (Addr × Obj)} {σ : St} {H : Hp} {s : Shared} {p : Addr} {xs : List V} (I : Inv X pins σ H s) (h : H p = some (.lst xs)) :
    ∃ (its : List Value) (n : Nat), Vals xs its ∧ s.heap.get? p = some { cls := .type "list", data := .seq its.toArray n } ∧ xs.length ≤ sizeLine := by
  obtain ⟨z, its, n, r, e⟩ := I.hok p _ h
  exact ⟨its, n, r, e, z⟩
/-- the list at p is written by an update of its object -/
theorem Inv.lstUpd {pins : List (Addr × Obj)} {σ : St} {H : Hp} {s : Shared} {p : Addr} {xs ys : List V} {its its' : List Value} {n n' : Nat} {f : Obj → Obj} (I : Inv X pins σ H s) (h : H p = some (.lst xs))
    (ho : s.heap.get? p = some { cls := .type "list", data := .seq its.toArray n }) (hf : f { cls := .type "list", data := .seq its.toArray n } = { cls := .type "list", data := .seq its'.toArray n' }) (r : Vals ys its') (hz : ys.length ≤ sizeLine) (t : Nat) :
    Inv X pins σ (upd H p (.lst ys)) { s with heap := s.heap.update p f, toks := t } := by
  have e : (s.heap.update p f).get? p = some { cls := .type "list", data := .seq its'.toArray n' } := by
    rw [Heap.get?_update_self f ho (by rw [hf] <;> rfl), hf]
  refine I.write (x := p) (e := p) (by rw [h]; trivial) (.inl rfl) (fun b u hb q => (Heap.get?_update_other _ _ (Ne.symm hb)).trans q) ⟨_, e⟩ ?_
  exact ⟨hz, its', n', r, e⟩
def rSetL : V → V → V → Hp → (Hp → Prop) → Prop := fun o i v H Q => ∃ p xs k j, o = .ref p ∧ i = .int k ∧ H p = some (.lst xs) ∧ ixN xs.length k = some j ∧ Q (upd H p (.lst (xs.set j v)))
theorem set_list : PSet X rSetL := by
  intro pins s σ H o i v ov iv u Q I ro ri rv h
  obtain ⟨p, xs, k, j, rfl, rfl, hp, hj, q⟩ := h
  cases ro
  obtain ⟨t, rfl⟩ := ri
  obtain ⟨its, n, r, ho, hz⟩ := I.lst hp
  obtain ⟨h1, h2, h3, h4⟩ := ixN_seq hj
  have hl := r.length
  have hn := line63
  have I' : Inv X pins σ (upd H p (.lst (xs.set j v))) { s with heap := s.heap.update p (Obj.mapSeq (·.setIfInBounds j u)) } :=
    I.lstUpd hp ho (mapSeq_set its n j u) (r.set rv j) (by rw [List.length_set]; exact hz) s.toks
  by_cases h0 : 0 ≤ k
  · have hk : k.toNat = j := by
      rw [seqIndex_of h0 h4] at h1
      exact Option.some.inj h1
    exact PySem.W.ki_setAt ho h0 (by omega) (by rw [List.size_toArray, ← hl]; exact h4) (by rw [hk]; exact ⟨_, I', q⟩)
  · have hk : (k + (its.toArray.size : Int)).toNat = j := by
      rw [seqIndex_neg (by omega) h3] at h1
      rw [List.size_toArray, ← hl]
      exact Option.some.inj h1
    exact PySem.W.ki_setBack ho (by omega) (by rw [List.size_toArray, ← hl]; exact h3) (by omega) (by rw [hk]; exact ⟨_, I', q⟩)

/-! ### slices -/
theorem slice_bounds (lo hi : Option Int) (n : Nat) : (sliceBounds lo hi none n).1 = ((HT.sIx n 0 lo : Nat) : Int) ∧ (sliceBounds lo hi none n).2.1 = ((HT.sIx n n hi : Nat) : Int) ∧ (sliceBounds lo hi none n).2.2 = 1 := by
  refine ⟨?_, ?_, rfl⟩
  · cases lo with
    | none => simp [sliceBounds, HT.sIx]
    | some i =>
      simp only [sliceBounds, HT.sIx, Option.getD_none, show (1 : Int) > 0 by decide, if_true]
      by_cases h : i < 0
      · simp only [h, if_true] <;> omega
      · simp only [h, if_false] <;> omega
  · cases hi with
    | none => simp [sliceBounds, HT.sIx]
    | some i =>
      simp only [sliceBounds, HT.sIx, Option.getD_none, show (1 : Int) > 0 by decide, if_true]
      by_cases h : i < 0
      · simp only [h, if_true] <;> omega
      · simp only [h, if_false] <;> omega
theorem slicePick_cut (its : List Value) (lo hi : Option Int) : slicePick its.toArray lo hi none = ((its.drop (HT.sIx its.length 0 lo)).take (HT.sIx its.length its.length hi - HT.sIx its.length 0 lo)).toArray := by
  obtain ⟨h1, h2, h3⟩ := slice_bounds lo hi its.toArray.size
  unfold slicePick
  rw [h1, h2, h3]
  simp only [sliceRange_one, pick_run, List.size_toArray] <;> rfl
/-- xs[lo:hi] of a list: a new list -/
def rSlL (K : PySem.W.Frag) : V → Option Int → Option Int → Hp → VK → Prop := fun x lo hi H Q => ∃ a xs, x = .ref a ∧ SqL K H a xs ∧ ∀ p, H p = none → Q (.ref p) (upd H p (.lst (cutV xs lo hi)))
theorem sl_list : SlR X (rSlL X.K) := by
  intro pins s σ H x v vl vu lo hi sl Q I rx hs pl pu h
  obtain ⟨a, xs, rfl, hx, q⟩ := h
  cases rx
  obtain ⟨its, r, ht, hz⟩ := I.list hx
  have hlen := r.length
  refine ⟨"list", _, slot_list_getitem.lookup, ht.isList.typeIs, ?_⟩
  refine wpAny_getItem_list_slice ht.isList hs pl pu .none (by simp) ?_ (by rw [List.size_toArray] <;> omega)
  rw [slicePick_cut, ← hlen]
  refine ⟨.ref s.heap.objs.size, _, I.laid (t' := s.toks) (o := .lst (cutV xs lo hi)) (fun b ob q => Heap.get?_push_of_some _ q) (Nat.le_refl _) ?_, rfl, q _ (I.hok.fresh (Nat.le_refl _))⟩
  exact ⟨Nat.le_trans (cutV_length xs lo hi) hz, _, 0, (r.drop (HT.sIx xs.length 0 lo)).take (HT.sIx xs.length xs.length hi - HT.sIx xs.length 0 lo), Heap.get?_push_size _ rfl⟩

/-! ### in, not in: flat items -/
def flatV : V → Bool
  | .non => true
  | .bl _ => true
  | .int _ => true
  | .str _ => true
  | _ => false
/-- == of flat values -/
def eqV : V → V → Bool
  | .non, .non => true
  | .bl a, .bl b => a == b
  | .bl a, .int b => (if a then 1 else 0) == b
  | .int a, .bl b => a == (if b then 1 else 0)
  | .int a, .int b => a == b
  | .str a, .str b => a == b
  | _, _ => false
theorem eqAt_V {A : Around} {s : Shared} {y x : V} {u v : Value} (ry : RelV y u) (rx : RelV x v) (fy : flatV y = true) (fx : flatV x = true) : SeqAt.EqAt A s u v (eqV y x) := by
  cases y with
  | non =>
    cases ry
    cases x with
    | non => cases rx; exact SeqAt.EqAt.same _
    | bl b => cases rx; exact SeqAt.EqAt.none_bool b
    | int b => obtain ⟨t, rfl⟩ := rx; exact SeqAt.EqAt.none_int b t
    | str b => obtain ⟨t, rfl⟩ := rx; exact SeqAt.EqAt.none_str b t
    | _ => exact absurd (show false = true from fx) Bool.false_ne_true
  | bl a =>
    cases ry
    cases x with
    | non => cases rx; exact SeqAt.EqAt.bool_none a
    | bl b => cases rx; exact SeqAt.EqAt.bool_bool a b
    | int b => obtain ⟨t, rfl⟩ := rx; exact SeqAt.EqAt.bool_int a b t
    | str b => obtain ⟨t, rfl⟩ := rx; exact SeqAt.EqAt.bool_str a b t
    | _ => exact absurd (show false = true from fx) Bool.false_ne_true
  | int a =>
    obtain ⟨t', rfl⟩ := ry
    cases x with
    | non => cases rx; exact SeqAt.EqAt.int_none a t'
    | bl b => cases rx; exact SeqAt.EqAt.int_bool a t' b
    | int b => obtain ⟨t, rfl⟩ := rx; exact SeqAt.EqAt.int_int a t' b t
    | str b => obtain ⟨t, rfl⟩ := rx; exact SeqAt.EqAt.int_str a t' b t
    | _ => exact absurd (show false = true from fx) Bool.false_ne_true
  | str a =>
    obtain ⟨t', rfl⟩ := ry
    cases x with
    | non => cases rx; exact SeqAt.EqAt.str_none a t'
    | bl b => cases rx; exact SeqAt.EqAt.str_bool a t' b
    | int b => obtain ⟨t, rfl⟩ := rx; exact SeqAt.EqAt.str_int a t' b t
    | str b => obtain ⟨t, rfl⟩ := rx; exact SeqAt.EqAt.str_str a t' b t
    | _ => exact absurd (show false = true from fx) Bool.false_ne_true
  | _ => exact absurd (show false = true from fy) Bool.false_ne_true
/-- the items' answers, read off the values (a value's own answer does not lean on its token) -/
def eqU (x : V) (u : Value) : Bool := match u with
  | .none => eqV .non x
  | .bool b => eqV (.bl b) x
  | .int i _ => eqV (.int i) x
  | .str z _ => eqV (.str z) x
  | _ => false
theorem eqU_of {x y : V} {u : Value} (r : RelV y u) (f : flatV y = true) : eqU x u = eqV y x := by
  cases y with
  | non => cases r; rfl
  | bl b => cases r; rfl
  | int i => obtain ⟨t, rfl⟩ := r; rfl
  | str z => obtain ⟨t, rfl⟩ := r; rfl
  | _ => exact absurd (show false = true from f) Bool.false_ne_true
theorem any_eqU {x : V} : ∀ {xs : List V} {us : List Value}, Vals xs us → xs.all flatV = true → us.any (eqU x) = xs.any fun y => eqV y x
  | _, _, .nil, _ => rfl
  | y :: xs, u :: us, .cons r t, f => by
    rw [List.all_cons, Bool.and_eq_true] at f
    rw [List.any_cons, List.any_cons, eqU_of r f.1, any_eqU t f.2]
theorem mem_eqAt {A : Around} {s : Shared} {x : V} {v : Value} (rx : RelV x v) (fx : flatV x = true) : ∀ {xs : List V} {us : List Value}, Vals xs us → xs.all flatV = true → ∀ u ∈ us, SeqAt.EqAt A s u v (eqU x u)
  | _, _, .nil, _ => fun u hu => by cases hu
  | y :: xs, u :: us, .cons r t, f => fun u' hu => by
    rw [List.all_cons, Bool.and_eq_true] at f
    rcases List.mem_cons.mp hu with rfl | hu
    · rw [eqU_of r f.1]; exact eqAt_V r rx f.1 fx
    · exact mem_eqAt rx fx t f.2 u' hu
def inV (x : V) (xs : List V) : Bool := xs.any fun y => eqV y x
/-- x in a list or tuple of flat items -/
def rIn (K : PySem.W.Frag) (neg : Bool) : R2 := fun x y H Q => ∃ p xs, y = .ref p ∧ (SqL K H p xs ∨ SqT K H p xs) ∧ flatV x = true ∧ xs.all flatV = true ∧ Q (.bl (if neg then !inV x xs else inV x xs)) H
theorem op_in_seq : OpR X (compareOp .In) (rIn X.K false) := by
  intro pins s σ H x y v u Q I rx ry h
  obtain ⟨p, xs, rfl, hq, fx, fs, q⟩ := h
  cases ry
  rcases hq with hq | hq
  · obtain ⟨its, r, pl, hz⟩ := I.list hq
    refine SeqAt.in_listAt (eqU x) pl.isList (fun w hw => mem_eqAt rx fx r fs w (by simpa using hw)) ⟨.bl _, H, I, rfl, ?_⟩
    rw [show its.toArray.any (eqU x) = its.any (eqU x) by simp, any_eqU r fs]
    exact q
  · obtain ⟨its, r, pl, hz⟩ := I.tuple hq
    refine SeqAt.in_tupleAt (eqU x) pl (fun w hw => mem_eqAt rx fx r fs w (by simpa using hw)) ⟨.bl _, H, I, rfl, ?_⟩
    rw [show its.toArray.any (eqU x) = its.any (eqU x) by simp, any_eqU r fs]
    exact q
theorem op_notIn_seq : OpR X (compareOp .NotIn) (rIn X.K true) := by
  intro pins s σ H x y v u Q I rx ry h
  obtain ⟨p, xs, rfl, hq, fx, fs, q⟩ := h
  cases ry
  rcases hq with hq | hq
  · obtain ⟨its, r, pl, hz⟩ := I.list hq
    refine SeqAt.notIn_listAt (eqU x) pl.isList (fun w hw => mem_eqAt rx fx r fs w (by simpa using hw)) ⟨.bl _, H, I, rfl, ?_⟩
    rw [show its.toArray.any (eqU x) = its.any (eqU x) by simp, any_eqU r fs]
    exact q
  · obtain ⟨its, r, pl, hz⟩ := I.tuple hq
    refine SeqAt.notIn_tupleAt (eqU x) pl (fun w hw => mem_eqAt rx fx r fs w (by simpa using hw)) ⟨.bl _, H, I, rfl, ?_⟩
    rw [show its.toArray.any (eqU x) = its.any (eqU x) by simp, any_eqU r fs]
    exact q
theorem op_notIn_str : OpR X (compareOp .NotIn) (fun x y H Q => ∃ i j, x = .str i ∧ y = .str j ∧ Q (.bl (!(!(Builtin.Str.occurrences j i 0 j.length 1).isEmpty))) H) := by
  intro pins s σ H x y v u Q I rx ry h
  obtain ⟨i, j, rfl, rfl, q⟩ := h
  obtain ⟨t, rfl⟩ := rx
  obtain ⟨t', rfl⟩ := ry
  exact notIn_str ⟨.bl _, H, I, rfl, q⟩

/-! ### len, list(x), tuple(x) of any list or tuple that is read -/
theorem call_len_seq : CallR X (.builtin "len") (fun xs H Q => ∃ p ys, xs = [.ref p] ∧ (SqL X.K H p ys ∨ SqT X.K H p ys) ∧ Q (.int ys.length) H) := by
  intro pins s σ H xs us Q I r h
  obtain ⟨p, ys, rfl, hq, q⟩ := h
  obtain ⟨u, rfl, rx⟩ := vals1 r
  cases rx
  have hn := line63
  rcases hq with hq | hq
  · obtain ⟨its, r', pl, hz⟩ := I.list hq
    have hlen := r'.length
    exact Calls.call_len_list pl.isList (by simp only [List.size_toArray] <;> omega) ⟨.int ys.length, H, I.tok _, ⟨s.toks + 1, by rw [List.size_toArray, hlen]⟩, q⟩
  · obtain ⟨its, r', pl, hz⟩ := I.tuple hq
    have hlen := r'.length
    exact len_tuple pl (by simp only [List.size_toArray] <;> omega) ⟨.int ys.length, H, I.tok _, ⟨s.toks + 1, by rw [List.size_toArray, hlen]⟩, q⟩
theorem call_len_str : CallR X (.builtin "len") (fun xs H Q => ∃ z, xs = [.str z] ∧ z.length ≤ sizeLine ∧ Q (.int z.length) H) := by
  intro pins s σ H xs us Q I r h
  obtain ⟨z, rfl, hz, q⟩ := h
  obtain ⟨u, rfl, t, rfl⟩ := vals1 r
  have hn := line63
  exact len_str (by omega) ⟨.int z.length, H, I.tok _, ⟨_, rfl⟩, q⟩
theorem CallR.or {f : Value} {r r' : List V → Hp → VK → Prop} (h : CallR X f r) (h' : CallR X f r') : CallR X f (fun xs H Q => r xs H Q ∨ r' xs H Q) := by
  intro pins s σ H xs us Q I rs q
  rcases q with q | q
  · exact h pins s σ H xs us Q I rs q
  · exact h' pins s σ H xs us Q I rs q
theorem call_list_of : CallR X (.type "list") (fun xs H Q => ∃ p ys, xs = [.ref p] ∧ (SqL X.K H p ys ∨ SqT X.K H p ys) ∧ ∀ l, H l = none → Q (.ref l) (upd H l (.lst ys))) := by
  intro pins s σ H xs us Q I r h
  obtain ⟨p, ys, rfl, hq, q⟩ := h
  obtain ⟨u, rfl, rx⟩ := vals1 r
  cases rx
  have fin : ∀ (its : List Value), Vals ys its → ys.length ≤ sizeLine → ∀ (h' : Heap) (c' : Nat), (∀ b o', s.heap.get? b = some o' → h'.get? b = some o') →
      h'.get? s.heap.objs.size = some { cls := .type "list", dict := none, data := .seq its.toArray c', slots := #[] } → EP X pins σ Q (.ref s.heap.objs.size) { s with heap := h' } := fun its r' hz h' c' kp e =>
    ⟨.ref s.heap.objs.size, _, I.laid (t' := s.toks) kp (Nat.le_refl _) (show ObjOk X.prog X.w _ h' _ (.lst ys) from ⟨hz, its, c', r', e⟩), rfl, q _ (I.hok.fresh (Nat.le_refl _))⟩
  rcases hq with hq | hq
  · obtain ⟨its, r', pl, hz⟩ := I.list hq
    have hlen := r'.length
    obtain ⟨o, ho, hc, n, hd⟩ := pl.isList
    exact call_list_seq p (.inl rfl) ho hc hd (fun h' c' kp e => fin its r' hz h' c' kp e) (by simp only [List.size_toArray] <;> omega)
  · obtain ⟨its, r', pl, hz⟩ := I.tuple hq
    have hlen := r'.length
    obtain ⟨o, ho, hc, n, hd⟩ := pl
    exact call_list_seq p (.inr rfl) ho hc hd (fun h' c' kp e => fin its r' hz h' c' kp e) (by simp only [List.size_toArray] <;> omega)
theorem call_tuple_of : CallR X (.type "tuple") (fun xs H Q => ∃ p ys, xs = [.ref p] ∧ ((SqL X.K H p ys ∧ ∀ l, H l = none → Q (.ref l) (upd H l (.tup ys))) ∨ (SqT X.K H p ys ∧ Q (.ref p) H))) := by
  intro pins s σ H xs us Q I r h
  obtain ⟨p, ys, rfl, h⟩ := h
  obtain ⟨u, rfl, rx⟩ := vals1 r
  cases rx
  rcases h with ⟨hq, q⟩ | ⟨hq, q⟩
  · obtain ⟨its, r', pl, hz⟩ := I.list hq
    have hlen := r'.length
    refine call_tuple_list pl.isList (fun h' kp => ?_) (by simp only [List.size_toArray] <;> omega)
    have I1 : Inv X pins σ H { s with heap := h' } := I.kept (t' := s.toks) kp
    have I2 : Inv X pins σ (upd H h'.objs.size (.tup ys)) { s with heap := h'.push { cls := .type "tuple", data := .seq its.toArray } } :=
      I1.laid (t' := s.toks) (fun b o e => Heap.get?_push_of_some _ e) (Nat.le_refl _) (show ObjOk X.prog X.w _ _ _ (.tup ys) from ⟨hz, its, r', IsTup.new _ _⟩)
    exact ⟨.ref h'.objs.size, _, I2, rfl, q _ (I1.hok.fresh (Nat.le_refl _))⟩
  · obtain ⟨its, r', pl, hz⟩ := I.tuple hq
    exact call_tuple_same pl ⟨.ref p, H, I, rfl, q⟩

/-! ### the call of a builtin's method: o.m(..) -/
/-- the value is of that builtin type -/
def tyV (K : PySem.W.Frag) (T : String) (x : V) (H : Hp) : Prop := match x with
  | .str _ => T = "str"
  | .int _ => T = "int"
  | .ref p => (T = "list" ∧ ∃ xs, SqL K H p xs) ∨ (T = "tuple" ∧ ∃ o, K.lookup p = some o ∧ o.cls = .type "tuple" ∧ o.dict = none) ∨
      (T = "dict" ∧ ((∃ kvs, H p = some (.dK kvs)) ∨ ∃ kvs, H p = some (.dT kvs))) ∨ (T = "set" ∧ ∃ S n, H p = some (.set S n))
  | _ => False
theorem tyV_is {pins : List (Addr × Obj)} {σ : St} {H : Hp} {s : Shared} {T : String} {x : V} {v : Value} (I : Inv X pins σ H s) (r : RelV x v) (ty : tyV X.K T x H) :
    s.TypeIs v T ∧ ∀ a, v = .ref a → ∃ ob, s.heap.get? a = some ob ∧ ob.dict = none := by
  cases x with
  | str z =>
    obtain ⟨t, rfl⟩ := r
    cases (show T = "str" from ty)
    exact ⟨typeIs_str s z t, fun _ e => nomatch e⟩
  | int i =>
    obtain ⟨t, rfl⟩ := r
    cases (show T = "int" from ty)
    exact ⟨typeIs_int s i t, fun _ e => nomatch e⟩
  | ref p =>
    cases r
    rcases ty with ⟨rfl, xs, hq⟩ | ⟨rfl, o, hk, hc, hd⟩ | ⟨rfl, hk⟩ | ⟨rfl, S, n, hk⟩
    · obtain ⟨its, _, pl, _⟩ := I.list hq
      refine ⟨pl.isList.typeIs, fun a e => ?_⟩
      cases e
      obtain ⟨o, n, e, c, hd, _⟩ := pl
      exact ⟨o, e, hd⟩
    · refine ⟨⟨o, I.kIn p o hk, hc⟩, fun a e => ?_⟩
      cases e
      exact ⟨o, I.kIn _ o hk, hd⟩
    · have z : ∃ o, s.heap.get? p = some o ∧ o.ExactDict := by
        rcases hk with ⟨kvs, hk⟩ | ⟨kvs, hk⟩
        · obtain ⟨_, _, _, _, o, _, _, e, ex, _⟩ := I.hok p _ hk
          exact ⟨o, e, ex⟩
        · obtain ⟨_, _, _, _, o, _, _, e, ex, _⟩ := I.hok p _ hk
          exact ⟨o, e, ex⟩
      obtain ⟨o, e, ex⟩ := z
      refine ⟨⟨o, e, ex.1⟩, fun a e2 => ?_⟩
      cases e2
      exact ⟨o, e, ex.2.1⟩
    · obtain ⟨o, _, _, _, e, ex, _⟩ := I.hok p _ hk
      refine ⟨⟨o, e, ex.1⟩, fun a e2 => ?_⟩
      cases e2
      exact ⟨o, e, ex.2.1⟩
  | _ => exact False.elim ty
def tBM0 (K : PySem.W.Frag) (T : String) (r : V → List V → Hp → VK → Prop) (to : TE) : TE := fun σ H Q => to σ H fun x H1 => tyV K T x H1 ∧ r x [] H1 Q
def tBM (K : PySem.W.Frag) (T : String) (r : V → List V → Hp → VK → Prop) (to : TE) (t : TA) : TE := fun σ H Q => to σ H fun x H1 => tyV K T x H1 ∧ t σ H1 fun xs H2 => r x xs H2 Q
variable {o e : Expr} {es : List Expr} {to : TE} {t : TA} {name : Str} {apos cpos : Pos} {T id : String} {r : V → List V → Hp → VK → Prop}
theorem pe_bm0 (pa : PlainAttrs T) (slot : Slot T name id) (hty : typeOf (.builtin id) = pure (.type "method_descriptor")) (hm : MtR X id r) (ho : PE X o to)
    (hbase : attributeBase o name X.env (eval o X.env) = eval o X.env := by rfl) (hline : (apos.endLine == cpos.line) = true := by rfl) : PE X (.Call (.Attribute o name apos) [] [] cpos) (tBM0 X.K T r to) := by
  intro pins s σ H Q I h
  refine wpAny_Call_method0_late hbase hline (thn (ho pins s σ H _ I h) fun v s1 ⟨x, H1, I1, r1, ty, q1⟩ => ?_)
  obtain ⟨h1, h2⟩ := tyV_is I1 r1 ty
  exact ⟨T, id, pa, slot, hty, h1, h2, Calls.callWith_builtin rfl (PySem.evalArgs_none (hm pins s1 σ H1 x [] v [] Q I1 r1 .nil q1))⟩
theorem pe_bm (pa : PlainAttrs T) (slot : Slot T name id) (hty : typeOf (.builtin id) = pure (.type "method_descriptor")) (hm : MtR X id r) (ho : PE X o to) (ha : PA X (e :: es) t)
    (hbase : attributeBase o name X.env (eval o X.env) = eval o X.env := by rfl)
    (hfew : ((backTo cpos (starEach (e :: es) X.env)).all (fun x => !x.1) && (backToKw cpos (keywordEach [] X.env)).all (fun x => x.1.isSome)
      && decide ((e :: es).length + ([] : List Keyword).length + (if ([] : List Keyword).isEmpty then 0 else 1) < 30)) = true := by rfl)
    (hline : (apos.endLine == cpos.line) = true := by rfl) (hs : starEach (e :: es) X.env = (false, eval e X.env) :: starEach es X.env := by rfl) (hplain : (backTo cpos (starEach es X.env)).any (·.1) = false := by rfl) :
    PE X (.Call (.Attribute o name apos) (e :: es) [] cpos) (tBM X.K T r to t) := by
  intro pins s σ H Q I h
  refine wpAny_Call_method_late hbase hfew hline rfl (thn (ho pins s σ H _ I h) fun v s1 ⟨x, H1, I1, r1, ty, q1⟩ => ?_)
  obtain ⟨h1, h2⟩ := tyV_is I1 r1 ty
  refine ⟨T, id, pa, slot, hty, h1, h2, ?_⟩
  have hA := ha cpos pins s1 σ H1 _ I1 q1
  rw [hs] at hA ⊢
  refine Calls.callWith_builtin (by show (false || (backTo cpos (starEach es X.env)).any (·.1)) = false; rw [hplain] <;> rfl) (Calls.evalArgs_plain ?_)
  exact thn hA fun us s2 ⟨vs, H2, I2, r2, q2⟩ => hm pins s2 σ H2 x vs v us Q I2 r1 r2 q2
/- xs.append(e), list.index on a module's tuple .. are MtR facts of 06m -/
end
end L2

namespace L2
open PySem PySem.Spec PyProof.Rows

def MtM (X : Cx) (id : String) (r : V → List V → Hp → VK → Prop) : Prop :=
  ∀ (pins : List (Addr × Obj)) (s : Shared) (σ : St) (H : Hp) (x : V) (xs : List V) (v : Value) (us : List Value) (Q : VK), Inv X pins σ H s → RelV x v → Vals xs us → r x xs H Q →
    wpAny (model X.prog X.w) X.A (call (.builtin id) (v :: us)) (EP X pins σ Q) X.xe s

/-! ### lists of values -/
theorem Vals.one : ∀ {x : V} {us : List Value}, Vals [x] us → ∃ u, us = [u] ∧ RelV x u
  | _, _, .cons r .nil => ⟨_, rfl, r⟩
theorem Vals.two : ∀ {x y : V} {us : List Value}, Vals [x, y] us → ∃ u v, us = [u, v] ∧ RelV x u ∧ RelV y v
  | _, _, _, .cons r (.cons q .nil) => ⟨_, _, rfl, r, q⟩
theorem Vals.zero : ∀ {us : List Value}, Vals [] us → us = []
  | _, .nil => rfl
theorem Vals.dropLast {xs : List V} {us : List Value} (h : Vals xs us) : Vals xs.dropLast us.dropLast := by
  induction h with
  | nil => exact .nil
  | cons r t ih =>
    cases t with
    | nil => exact .nil
    | cons q t' => exact .cons r ih
theorem Vals.eraseIdx : ∀ {xs : List V} {us : List Value} (i : Nat), Vals xs us → Vals (xs.eraseIdx i) (us.eraseIdx i)
  | _, _, _, .nil => .nil
  | _, _, 0, .cons _ t => t
  | _, _, i + 1, .cons r t => .cons r (Vals.eraseIdx i t)
theorem Vals.reverse {xs : List V} {us : List Value} (h : Vals xs us) : Vals xs.reverse us.reverse := by
  induction h with
  | nil => exact .nil
  | cons r t ih => rw [List.reverse_cons, List.reverse_cons]; exact Vals.append ih (.cons r .nil)
theorem Vals.rep {xs : List V} {us : List Value} (h : Vals xs us) : ∀ k : Nat, Vals (List.replicate k xs).flatten (List.replicate k us).flatten
  | 0 => .nil
  | k + 1 => by
    rw [List.replicate_succ, List.replicate_succ, List.flatten_cons, List.flatten_cons]
    exact Vals.append h (Vals.rep h k)
theorem erase_last {α : Type} (l : List α) : l.eraseIdx (l.length - 1) = l.dropLast := by
  induction l with
  | nil => rfl
  | cons a r ih =>
    cases r with
    | nil => rfl
    | cons b r =>
      have e : (a :: b :: r).length - 1 = ((b :: r).length - 1) + 1 := by
        have h1 : (a :: b :: r).length = r.length + 2 := rfl
        have h2 : (b :: r).length = r.length + 1 := rfl
        omega
      rw [e, List.eraseIdx_cons_succ, ih]
      all_goals rfl
theorem len_erase {α : Type} : ∀ (l : List α) (i : Nat), (l.eraseIdx i).length ≤ l.length
  | [], _ => Nat.le_refl _
  | _ :: _, 0 => Nat.le_succ _
  | _ :: r, i + 1 => Nat.succ_le_succ (len_erase r i)
theorem foldl_rep (its : List Value) : ∀ (k : Nat) (acc : List Value),
    List.foldl (fun x1 x2 => x1 ++ x2) acc.toArray (List.replicate k its.toArray) = (acc ++ (List.replicate k its).flatten).toArray
  | 0, acc => by simp
  | k + 1, acc => by
    have e : acc.toArray ++ its.toArray = (acc ++ its).toArray := by simp
    have e2 : (acc ++ its) ++ (List.replicate k its).flatten = acc ++ (List.replicate (k + 1) its).flatten := by
      rw [List.replicate_succ, List.flatten_cons, List.append_assoc]
    rw [← e2, ← foldl_rep its k (acc ++ its), ← e, List.replicate_succ, List.foldl_cons]

section
variable {X : Cx} {pins : List (Addr × Obj)} {σ : St} {H : Hp} {s : Shared} {l b : Addr} {xs ys zs : List V}

/-! ### the two steps: a tracked list is rewritten, a new list is laid -/
theorem Inv.lset {its its' : List Value} {n : Nat} {f : Array Value → Array Value} {t' : Nat} (I : Inv X pins σ H s) (hH : H l = some (.lst xs))
    (e : s.heap.get? l = some { cls := .type "list", data := .seq its.toArray n }) (hf : f its.toArray = its'.toArray) (hv : Vals ys its') (hz : ys.length ≤ sizeLine) :
    Inv X pins σ (upd H l (.lst ys)) { s with heap := s.heap.update l (Obj.mapSeq f), toks := t' } := by
  have q := PySem.IsL.update e f
  rw [hf] at q
  refine I.write (x := l) (e := l) (by rw [hH]; exact trivial) (.inl rfl) (fun b' u hb hu => (Heap.get?_update_other s.heap (Obj.mapSeq f) (Ne.symm hb)).trans hu) ⟨_, q⟩ ?_
  exact ⟨hz, its', _, hv, q⟩
theorem Inv.lnew {its : List Value} {t' : Nat} (I : Inv X pins σ H s) (hv : Vals ys its) (hz : ys.length ≤ sizeLine) :
    Inv X pins σ (upd H s.heap.objs.size (.lst ys)) { s with heap := s.heap.push { cls := .type "list", data := .seq its.toArray }, toks := t' } :=
  I.laid (fun _ _ q => Heap.get?_push_of_some _ q) (Nat.le_refl _) ⟨hz, its, 0, hv, Heap.get?_push_size _ rfl⟩
theorem Inv.fresh (I : Inv X pins σ H s) : H s.heap.objs.size = none := I.hok.fresh (Nat.le_refl _)
theorem Inv.lstM (I : Inv X pins σ H s) (hH : H l = some (.lst xs)) : xs.length ≤ sizeLine ∧ ∃ (its : List Value) (n : Nat), Vals xs its ∧ xs.length = its.length ∧ s.heap.get? l = some { cls := .type "list", data := .seq its.toArray n } := by
  obtain ⟨z, its, n, r, e⟩ := I.hok l _ hH
  exact ⟨z, its, n, r, r.length, e⟩

theorem notLongL {n : Nat} (h : n ≤ sizeLine) : Builtin.List.listTooLong n = false := by
  unfold Builtin.List.listTooLong
  exact decide_eq_false (by omega)
end

section
variable {X : Cx}

/-! ### methods -/
def rAppend : V → List V → Hp → VK → Prop := fun x vs H Q => ∃ l xs y, x = .ref l ∧ vs = [y] ∧ H l = some (.lst xs) ∧ xs.length < sizeLine ∧ Q .non (upd H l (.lst (xs ++ [y])))
theorem mt_append : MtM X "list.append" rAppend := by
  intro pins s σ H x vs v us Q I rx rv h
  obtain ⟨l, xs, y, rfl, rfl, hH, hz, q⟩ := h
  cases rx
  obtain ⟨u, rfl, ru⟩ := rv.one
  obtain ⟨z, its, n, r, hl, e⟩ := I.lstM hH
  refine call_meets F.slot_list_append ⟨_, e, rfl⟩ F.entry_list_append (F.args_list_append_2 _ _) (PySem.list_append l its.toArray n u (by rw [List.size_toArray]; omega)) ⟨e, ?_⟩
  refine ⟨.non, _, I.lset (its' := its ++ [u]) hH e (by simp) (r.append (.cons ru .nil)) ?_, rfl, q⟩
  rw [List.length_append, List.length_singleton]
  omega

def rExtend : V → List V → Hp → VK → Prop := fun x vs H Q => ∃ l b xs zs, x = .ref l ∧ vs = [.ref b] ∧ H l = some (.lst xs) ∧ H b = some (.lst zs) ∧ xs.length + zs.length ≤ sizeLine ∧ Q .non (upd H l (.lst (xs ++ zs)))
theorem mt_extend : MtM X "list.extend" rExtend := by
  intro pins s σ H x vs v us Q I rx rv h
  obtain ⟨l, b, xs, zs, rfl, rfl, hH, hB, hz, q⟩ := h
  cases rx
  obtain ⟨u, rfl, ru⟩ := rv.one
  cases ru
  obtain ⟨z, its, n, r, hl, e⟩ := I.lstM hH
  obtain ⟨z2, its2, n2, r2, hl2, e2⟩ := I.lstM hB
  have hsz : its.toArray.size + its2.toArray.size ≤ sizeLine := by rw [List.size_toArray, List.size_toArray]; omega
  have hlong : ¬ (!its.toArray.isEmpty && Builtin.List.listTooLong (its.toArray.size + its2.toArray.size)) = true := by
    rw [notLongL hsz, Bool.and_false]
    exact Bool.false_ne_true
  refine call_meets F.slot_list_extend ⟨_, e, rfl⟩ F.entry_list_extend (F.args_list_extend_2 _ _)
    (AutoSeq1.list_extend_list_list_0 l its.toArray n b its2.toArray n2 hlong (by rw [List.size_toArray]; omega) (by omega)) ⟨e, e2, ?_⟩
  refine ⟨.non, _, I.lset (its' := its ++ its2) hH e (by simp) (r.append r2) ?_, rfl, q⟩
  rw [List.length_append]
  omega

def rPop : V → List V → Hp → VK → Prop := fun x vs H Q => ∃ l xs y, x = .ref l ∧ vs = [] ∧ H l = some (.lst xs) ∧ xs[xs.length - 1]? = some y ∧ Q y (upd H l (.lst xs.dropLast))
theorem mt_pop : MtM X "list.pop" rPop := by
  intro pins s σ H x vs v us Q I rx rv h
  obtain ⟨l, xs, y, rfl, rfl, hH, hy, q⟩ := h
  cases rx
  have hus := rv.zero
  subst hus
  obtain ⟨z, its, n, r, hl, e⟩ := I.lstM hH
  obtain ⟨u, hu, ru⟩ := r.get hy
  have hy' : its.toArray[its.toArray.size - 1]? = some u := by
    show its.toArray[its.length - 1]? = some u
    rw [← Array.getElem?_toList, ← hl]
    exact hu
  refine call_meets F.slot_list_pop ⟨_, e, rfl⟩ F.entry_list_pop (F.args_list_pop_1 _) (MeetsSeq.list_pop_last l its.toArray n u hy' (by rw [List.size_toArray]; omega)) ⟨e, ?_⟩
  refine ⟨y, _, I.lset (its' := its.dropLast) hH e ?_ r.dropLast ?_, ru, q⟩
  · show its.toArray.eraseIdxIfInBounds (its.toArray.size - 1) = its.dropLast.toArray
    rw [List.size_toArray, List.eraseIdxIfInBounds_toArray, erase_last]
  · rw [List.length_dropLast]
    omega

def rPopAt : V → List V → Hp → VK → Prop := fun x vs H Q => ∃ l xs i k y, x = .ref l ∧ vs = [.int i] ∧ H l = some (.lst xs) ∧ -(2 ^ 63) ≤ i ∧ i < 2 ^ 63 ∧ seqIndex? i xs.length = some k ∧ xs[k]? = some y ∧ Q y (upd H l (.lst (xs.eraseIdx k)))
theorem mt_popAt : MtM X "list.pop" rPopAt := by
  intro pins s σ H x vs v us Q I rx rv h
  obtain ⟨l, xs, i, k, y, rfl, rfl, hH, h1, h2, hk, hy, q⟩ := h
  cases rx
  obtain ⟨u, rfl, ru⟩ := rv.one
  obtain ⟨t, rfl⟩ := ru
  obtain ⟨z, its, n, r, hl, e⟩ := I.lstM hH
  obtain ⟨w, hw, rw'⟩ := r.get hy
  refine call_meets F.slot_list_pop ⟨_, e, rfl⟩ F.entry_list_pop (F.args_list_pop_2 _ _)
    (MeetsSeq.list_pop_at l its.toArray n i t k w (fitsIndex_both h1 h2) (by rw [List.size_toArray, ← hl]; exact hk) (by rw [← Array.getElem?_toList]; exact hw) (by rw [List.size_toArray]; omega)) ⟨e, ?_⟩
  refine ⟨y, _, I.lset (its' := its.eraseIdx k) hH e ?_ (r.eraseIdx k) ?_, rw', q⟩
  · show its.toArray.eraseIdxIfInBounds k = (its.eraseIdx k).toArray
    rw [List.eraseIdxIfInBounds_toArray]
  · have := len_erase xs k
    omega

def rReverse : V → List V → Hp → VK → Prop := fun x vs H Q => ∃ l xs, x = .ref l ∧ vs = [] ∧ H l = some (.lst xs) ∧ Q .non (upd H l (.lst xs.reverse))
theorem mt_reverse : MtM X "list.reverse" rReverse := by
  intro pins s σ H x vs v us Q I rx rv h
  obtain ⟨l, xs, rfl, rfl, hH, q⟩ := h
  cases rx
  have hus := rv.zero
  subst hus
  obtain ⟨z, its, n, r, hl, e⟩ := I.lstM hH
  refine call_meets F.slot_list_reverse ⟨_, e, rfl⟩ F.entry_list_reverse (F.args_list_reverse_1 _) (AutoSeq1.list_reverse_list_0 l its.toArray n (by rw [List.size_toArray]; omega)) ⟨e, ?_⟩
  refine ⟨.non, _, I.lset (its' := its.reverse) hH e (by simp) r.reverse ?_, rfl, q⟩
  rw [List.length_reverse]
  omega

def rClear : V → List V → Hp → VK → Prop := fun x vs H Q => ∃ l xs, x = .ref l ∧ vs = [] ∧ H l = some (.lst xs) ∧ Q .non (upd H l (.lst []))
theorem mt_clear : MtM X "list.clear" rClear := by
  intro pins s σ H x vs v us Q I rx rv h
  obtain ⟨l, xs, rfl, rfl, hH, q⟩ := h
  cases rx
  have hus := rv.zero
  subst hus
  obtain ⟨z, its, n, r, hl, e⟩ := I.lstM hH
  refine call_meets F.slot_list_clear ⟨_, e, rfl⟩ F.entry_list_clear (F.args_list_clear_1 _) (AutoSeq1.list_clear_list_0 l its.toArray n (by rw [List.size_toArray]; omega)) ⟨e, ?_⟩
  exact ⟨.non, _, I.lset (its' := []) (ys := []) hH e rfl .nil (Nat.zero_le _), rfl, q⟩

/-! ### list + list, list += list, list * int -/
def rCat : R2 := fun x y H Q => ∃ l b xs zs, x = .ref l ∧ y = .ref b ∧ H l = some (.lst xs) ∧ H b = some (.lst zs) ∧ xs.length + zs.length ≤ sizeLine ∧ ∀ p, H p = none → Q (.ref p) (upd H p (.lst (xs ++ zs)))
theorem op_cat : OpR X (binaryOp .Add) rCat := by
  intro pins s σ H x y v u Q I rx ry h
  obtain ⟨l, b, xs, zs, rfl, rfl, hH, hB, hz, q⟩ := h
  cases rx
  cases ry
  obtain ⟨z, its, n, r, hl, e⟩ := I.lstM hH
  obtain ⟨z2, its2, n2, r2, hl2, e2⟩ := I.lstM hB
  refine PySem.P.add_list e e2 ?_ (by rw [List.size_toArray, List.size_toArray]; omega)
  have ea : its.toArray ++ its2.toArray = (its ++ its2).toArray := by simp
  rw [ea]
  exact ⟨.ref _, _, I.lnew (t' := s.toks) (r.append r2) (by rw [List.length_append]; omega), rfl, q _ I.fresh⟩
/-- a list times an int (a negative one is nothing) -/
def rRep : R2 := fun x y H Q => ∃ l k xs, x = .ref l ∧ y = .int k ∧ H l = some (.lst xs) ∧ -(2 ^ 63) ≤ k ∧ k < 2 ^ 63 ∧ xs.length * k.toNat ≤ sizeLine ∧
  ∀ p, H p = none → Q (.ref p) (upd H p (.lst (List.replicate k.toNat xs).flatten))
theorem len_rep {α : Type} (xs : List α) (k : Nat) : (List.replicate k xs).flatten.length = k * xs.length := by
  induction k with
  | zero => simp
  | succ k ih => rw [List.replicate_succ, List.flatten_cons, List.length_append, ih, Nat.succ_mul, Nat.add_comm]
theorem op_rep : OpR X (binaryOp .Mult) rRep := by
  intro pins s σ H x y v u Q I rx ry h
  obtain ⟨l, k, xs, rfl, rfl, hH, h1, h2, hz, q⟩ := h
  cases rx
  obtain ⟨t, rfl⟩ := ry
  obtain ⟨z, its, n, r, hl, e⟩ := I.lstM hH
  have hlen : its.toArray.size * k.toNat ≤ sizeLine := by rw [List.size_toArray, ← hl]; exact hz
  have hcap : ¬ its.toArray.size * k.toNat > (2 ^ 63 - 1) / 8 := by
    have : (sizeLine : Nat) ≤ (2 ^ 63 - 1) / 8 := by decide
    omega
  have hfit : ¬ (!Builtin.List.listFitsIndex k) = true := by
    rw [fitsIndex_both h1 h2]
    exact Bool.false_ne_true
  have hlong : ¬ Builtin.List.listTooLong (its.toArray.size * k.toNat) = true := by
    rw [notLongL hlen]
    exact Bool.false_ne_true
  have hnew : List.foldl (fun x1 x2 => x1 ++ x2) #[] (List.replicate (if its.toArray.isEmpty = true then 0 else k.toNat) its.toArray) = (List.replicate k.toNat its).flatten.toArray := by
    have f0 : ∀ m : Nat, List.foldl (fun x1 x2 => x1 ++ x2) #[] (List.replicate m its.toArray) = (List.replicate m its).flatten.toArray := fun m => by
      have := foldl_rep its m []
      rw [List.nil_append] at this
      exact this
    rw [f0]
    cases its with
    | nil => simp
    | cons a r' => rw [if_neg (by simp)]
  refine wpAny_binaryOp_repeat_ref (T := "list") (U := "int") (by decide) ⟨_, e, rfl⟩ (fun s' => typeIs_int s' k t) noFill_list_mul F.fills_int_mul F.slot_int_rmul repeat_list F.slot_int_index.lookup
    (call_meets F.slot_int_rmul (typeIs_int s k t) F.entry_int_rmul (F.args_int_rmul_2 _ _) (int___rmul___int_list k t l its.toArray n)
      ⟨e, rfl, ⟨_, e, rfl⟩, call_meets F.slot_list_mul ⟨_, e, rfl⟩ F.entry_list_mul (F.args_list_mul_2 _ _) (AutoListH.list___mul___list_int_3 l its.toArray n k t hfit hcap hlong) ⟨e, ?_⟩⟩)
  rw [hnew]
  exact ⟨.ref _, _, I.lnew (t' := s.toks) (r.rep k.toNat) (by rw [len_rep, Nat.mul_comm]; exact hz), rfl, q _ I.fresh⟩

/-! ### del xs[i] -/
theorem del_list {pins : List (Addr × Obj)} {s : Shared} {σ : St} {H : Hp} {l : Addr} {xs : List V} {i : Int} {t : Tok} {k : Nat} {Q : Unit → Shared → Prop} (I : Inv X pins σ H s) (hH : H l = some (.lst xs))
    (h1 : -(2 ^ 63) ≤ i) (h2 : i < 2 ^ 63) (hk : seqIndex? i xs.length = some k) (h : ∀ s', Inv X pins σ (upd H l (.lst (xs.eraseIdx k))) s' → Q () s') :
    wpAny (model X.prog X.w) X.A (delItem (.ref l) (.int i t)) Q X.xe s := by
  obtain ⟨z, its, n, r, hl, e⟩ := I.lstM hH
  refine PySem.P.delItem_list (k := k) e (fitsIndex_both h1 h2) (by rw [List.size_toArray, ← hl]; exact hk) (h _ ?_) (by rw [List.size_toArray]; omega)
  refine I.lset (its' := its.eraseIdx k) (t' := s.toks) hH e ?_ (r.eraseIdx k) ?_
  · show its.toArray.eraseIdxIfInBounds k = (its.eraseIdx k).toArray
    rw [List.eraseIdxIfInBounds_toArray]
  · have := len_erase xs k
    omega
end

/-! ### xs[a:b] = ys -/
section
variable {prog : Program} {w : World} {A : Around} {E : Value → Shared → Prop} {s : Shared}
theorem splice_eq (its its2 : List Value) (a c : Nat) : its.toArray.extract 0 a ++ its2.toArray ++ its.toArray.extract c its.toArray.size = (its.take a ++ its2 ++ its.drop c).toArray := by
  apply Array.toList_inj.mp
  first
    | (simp
       exact List.take_of_length_le (by simp))
    | simp [List.take_of_length_le]
    | simp
theorem bounds_run {a c n : Nat} (hac : a ≤ c) (hc : c ≤ n) : sliceBounds (some (a : Int)) (some (c : Int)) none n = ((a : Int), (c : Int), 1) := by
  simp only [sliceBounds, Option.getD_none]
  have h1 : ¬ ((a : Int) < 0) := by omega
  have h2 : ¬ ((c : Int) < 0) := by omega
  simp only [h1, h2, if_false, show (1 : Int) > 0 by decide, if_true]
  congr 1
  · omega
  · congr 1; omega
set_option maxRecDepth 100000 in
/-- list.__setitem__ with a slice of step one and another list -/
theorem setItem_slice {l b sl : Addr} {items new : Array Value} {n n2 : Nat} {vl vu : Value} {a c : Nat} {Q : Unit → Shared → Prop}
    (e : s.heap.get? l = some { cls := .type "list", data := .seq items n }) (e2 : s.heap.get? b = some { cls := .type "list", data := .seq new n2 }) (hne : l ≠ b)
    (hs : s.heap.IsSliceOf sl vl vu .none) (pl : IsPart vl (some (a : Int))) (pu : IsPart vu (some (c : Int))) (hac : a ≤ c) (hc : c ≤ items.size)
    (hsz : items.size + new.size ≤ sizeLine) (h : Q () { s with heap := s.heap.update l (Obj.mapSeq fun xs => xs.extract 0 a ++ new ++ xs.extract c xs.size) }) :
    wpAny (model prog w) A (setItem (.ref l) (.ref sl) (.ref b)) Q E s := by
  have hl : s.heap.IsList l items := PySem.IsL.isList e
  have hb : s.heap.IsList b new := PySem.IsL.isList e2
  obtain ⟨os, hos, hcs, hds⟩ := id hs
  have hTs : s.TypeIs (.ref sl) "slice" := ⟨os, hos, hcs⟩
  have hstep : ¬ ((rawPart none == rawInt 0) = true) := Bool.false_ne_true
  have hsame : Builtin.List.listSameRef (.ref l) (.ref b) = false := by
    unfold Builtin.List.listSameRef
    exact beq_eq_false_iff_ne.mpr hne
  have hmax : (max (a : Int) (c : Int)).toNat = c := by omega
  have hz' : ((fun xs : Array Value => xs.extract 0 a ++ new ++ xs.extract c xs.size) items).size ≤ sizeLine + 1 := by
    simp only [Array.size_append, Array.size_extract]
    omega
  unfold setItem
  try with_reducible refine wpAny_holding ?_
  first | refine wpAny_bind (wpAny_pure ?_) | skip
  refine wpAny_bind (wpAny_sequenceKey hl.typeIs (by decide) ?_)
  refine wpAny_bind (wpAny_callSpecial?_slot (name := Str.ofString "__setitem__") hl.typeIs slot_list_setitem
    (wpAny_call_entry slot_list_setitem hl.typeIs entry_list_setitem ?_ (args_list_setitem _ _ _)))
  show wpAny _ _ (Builtin.List.listSubscript? (.ref sl) >>= _) _ _ s
  refine wpAny_bind ?_
  unfold Builtin.List.listSubscript?
  refine wpAny_bind (wpAny_specialOf hTs slice_no_index ?_)
  simp only [Option.isNone_none, if_true]
  refine wpAny_pure ?_
  show wpAny _ _ (typeOf (.ref sl) >>= _) _ _ s
  refine wpAny_bind (wpAny_typeOf hTs ?_)
  first
    | rw [if_neg (by decide)]
    | refine PySem.W.KFB.if_not (by decide) ?_
  rw [listSliceParts_eq]
  refine wpAny_bind (wpAny_bind (wpAny_field hos hds (x := .none) rfl (wpAny_bind (wpAny_listPart .none ?_))))
  rw [if_neg hstep]
  refine wpAny_bind (wpAny_field hos hds (x := vl) rfl (wpAny_bind (wpAny_listPart pl ?_)))
  refine wpAny_bind (wpAny_field hos hds (x := vu) rfl (wpAny_bind (wpAny_listPart pu (wpAny_pure ?_))))
  first
    | simp only [hsame, Bool.false_eq_true, if_false]
    | refine PySem.W.KFB.if_not hsame ?_
    | (dsimp only
       rw [if_neg (by rw [hsame]; exact Bool.false_ne_true)])
  refine wpAny_bind (m := Builtin.List.listAllItems (.ref b) "must assign iterable to extended slice") ?_
  unfold Builtin.List.listAllItems
  refine wpAny_bind (wpAny_typeOf hb.typeIs ?_)
  first
    | refine PySem.W.KFB.if_so (by decide) ?_
    | rw [if_pos (by decide)]
    | simp only [beq_self_eq_true, Bool.true_or, if_true]
  unfold Builtin.List.listItems
  refine wpAny_bind (wpAny_seqItems e2 rfl (wpAny_pure ?_))
  refine wpAny_bind (wpAny_bind (wpAny_seqItems e rfl (wpAny_pure ?_)))
  refine wpAny_bind (wpAny_of_eq ((sliceIndices_raw (some (a : Int)) (some (c : Int)) none items.size (by simp)).trans (congrArg (pure : Int × Int × Int → Sem (Int × Int × Int)) (bounds_run hac hc))) ?_)
  show wpAny _ _ (if ((1 : Int) == 1) = true then _ else _) _ _ s
  rw [if_pos (by decide)]
  refine wpAny_bind (wpAny_rule ?_)
  first
    | simp only [notLongL hsz, Bool.false_eq_true, if_false]
    | refine PySem.W.KFB.if_not (notLongL hsz) ?_
  first | refine wpAny_bind (wpAny_pure ?_) | skip
  show wpAny _ _ (updateSeq l (fun xs => xs.extract 0 ((a : Int)).toNat ++ new ++ xs.extract (max (a : Int) (c : Int)).toNat xs.size) >>= _) _ _ s
  rw [hmax, Int.toNat_natCast]
  refine wpAny_bind (wpAny_updateSeq (hz := Nat.le_trans (Nat.le_add_right _ _) hsz) (_hz' := hz') e rfl ?_)
  refine wpAny_bind (wpAny_letGo ?_)
  first
    | exact wpAny_bind (wpAny_pure (wpAny_pure ⟨.none, rfl, wpAny_pure h⟩))
    | exact wpAny_pure ⟨.none, rfl, wpAny_pure h⟩
end

section
variable {X : Cx}
/-- xs[a:c] = ys of another list, at the value level: sl is the slice object that was just made -/
theorem set_slice {pins : List (Addr × Obj)} {s : Shared} {σ : St} {H : Hp} {l b sl : Addr} {xs ys : List V} {a c : Int} {vl vu : Value} {Q : Unit → Shared → Prop} (I : Inv X pins σ H s)
    (hH : H l = some (.lst xs)) (hB : H b = some (.lst ys)) (hne : l ≠ b) (hs : s.heap.IsSliceOf sl vl vu .none) (ra : RelV (.int a) vl) (rc : RelV (.int c) vu) (h0 : 0 ≤ a) (hac : a ≤ c) (hc : c ≤ xs.length)
    (hz : xs.length + ys.length ≤ sizeLine) (h : ∀ s', Inv X pins σ (upd H l (.lst (xs.take a.toNat ++ ys ++ xs.drop c.toNat))) s' → Q () s') :
    wpAny (model X.prog X.w) X.A (setItem (.ref l) (.ref sl) (.ref b)) Q X.xe s := by
  obtain ⟨ta, rfl⟩ := ra
  obtain ⟨tc, rfl⟩ := rc
  obtain ⟨z, its, n, r, hl, e⟩ := I.lstM hH
  obtain ⟨z2, its2, n2, r2, hl2, e2⟩ := I.lstM hB
  obtain ⟨a', rfl⟩ := Int.eq_ofNat_of_zero_le h0
  obtain ⟨c', rfl⟩ := Int.eq_ofNat_of_zero_le (Int.le_trans h0 hac)
  simp only [Int.toNat_natCast] at h
  refine setItem_slice (a := a') (c := c') e e2 hne hs (.int _ _) (.int _ _) (by omega) (by rw [List.size_toArray]; omega) (by rw [List.size_toArray, List.size_toArray]; omega) (h _ ?_)
  refine I.lset (its' := its.take a' ++ its2 ++ its.drop c') (t' := s.toks) hH e ?_ (Vals.append (Vals.append (r.take _) r2) (r.drop _)) ?_
  · exact splice_eq its its2 a' c'
  · rw [List.length_append, List.length_append, List.length_take, List.length_drop]
    omega
end
end L2

namespace L2
open PySem PySem.Spec PyProof.Rows

/-! ### lists of pairs as tables -/
section
variable {κ : Type} [DecidableEq κ]
def valV (kvs : List (κ × V)) (k : κ) : Option V := (kvs.find? fun kv => decide (kv.1 = k)).map (·.2)
/-- in its place, or at the end -/
def putK (kvs : List (κ × V)) (k : κ) (v : V) : List (κ × V) :=
  if (kvs.any fun kv => decide (kv.1 = k)) = true then kvs.map (fun kv => if kv.1 = k then (kv.1, v) else kv) else kvs ++ [(k, v)]
def dropK (kvs : List (κ × V)) (k : κ) : List (κ × V) := kvs.filter fun kv => decide (kv.1 ≠ k)

theorem valV_nil {k : κ} : valV ([] : List (κ × V)) k = none := rfl
theorem valV_pos {p : κ × V} {r : List (κ × V)} {k : κ} (e : p.1 = k) : valV (p :: r) k = some p.2 := by simp [valV, List.find?_cons, e]
theorem valV_neg {p : κ × V} {r : List (κ × V)} {k : κ} (e : ¬ p.1 = k) : valV (p :: r) k = valV r k := by simp [valV, List.find?_cons, e]
theorem valV_any (k : κ) : ∀ kvs : List (κ × V), (kvs.any fun kv => decide (kv.1 = k)) = (valV kvs k).isSome
  | [] => rfl
  | p :: r => by
    rw [List.any_cons]
    by_cases e : p.1 = k
    · simp only [valV_pos e, decide_eq_true e, Bool.true_or, Option.isSome_some]
    · rw [valV_neg e, decide_eq_false e, Bool.false_or]; exact valV_any k r
theorem valV_map (k j : κ) (y : V) : ∀ kvs : List (κ × V), valV (kvs.map fun kv => if kv.1 = k then (kv.1, y) else kv) j = (valV kvs j).map fun x => if j = k then y else x
  | [] => rfl
  | p :: r => by
    have ih := valV_map k j y r
    rw [List.map_cons]
    by_cases h : p.1 = k
    · rw [if_pos h]
      by_cases e : p.1 = j
      · rw [valV_pos (p := (p.1, y)) e, valV_pos e, Option.map_some, if_pos (e.symm.trans h)]
      · rw [valV_neg (p := (p.1, y)) e, valV_neg e, ih]
    · rw [if_neg h]
      by_cases e : p.1 = j
      · rw [valV_pos (p := p) e, valV_pos e, Option.map_some, if_neg (fun z => h (e.trans z))]
      · rw [valV_neg (p := p) e, valV_neg e, ih]
theorem valV_snoc (k j : κ) (y : V) : ∀ kvs : List (κ × V), valV kvs k = none → valV (kvs ++ [(k, y)]) j = if j = k then some y else valV kvs j
  | [], _ => by
    by_cases e : k = j
    · rw [if_pos e.symm]; exact valV_pos (p := (k, y)) e
    · rw [if_neg (fun z => e z.symm)]; exact valV_neg (p := (k, y)) e
  | p :: r, hn => by
    rw [List.cons_append]
    have hk : ¬ p.1 = k := fun z => by rw [valV_pos z] at hn; cases hn
    rw [valV_neg hk] at hn
    have ih := valV_snoc k j y r hn
    by_cases e : p.1 = j
    · rw [valV_pos e, valV_pos e, if_neg (fun z => hk (e.trans z))]
    · rw [valV_neg e, valV_neg e, ih]
theorem valV_put (kvs : List (κ × V)) (k j : κ) (y : V) : valV (putK kvs k y) j = if j = k then some y else valV kvs j := by
  unfold putK
  by_cases a : (kvs.any fun kv => decide (kv.1 = k)) = true
  · rw [if_pos a, valV_map]
    rw [valV_any] at a
    by_cases e : j = k
    · obtain ⟨x, hx⟩ := Option.isSome_iff_exists.mp a
      rw [if_pos e, e, hx, Option.map_some, if_pos rfl]
    · rw [if_neg e]
      cases valV kvs j with
      | none => rfl
      | some x => rw [Option.map_some, if_neg e]
  · rw [if_neg a]
    refine valV_snoc k j y kvs ?_
    rw [valV_any] at a
    cases q : valV kvs k with
    | none => rfl
    | some x => rw [q] at a; exact (a rfl).elim
theorem length_putK (kvs : List (κ × V)) (k : κ) (v : V) : (putK kvs k v).length ≤ kvs.length + 1 := by
  unfold putK
  split
  · rw [List.length_map]; omega
  · rw [List.length_append, List.length_cons, List.length_nil]; omega
theorem putK_new {kvs : List (κ × V)} {k : κ} (v : V) (h : valV kvs k = none) : putK kvs k v = kvs ++ [(k, v)] := by
  unfold putK
  rw [valV_any, h]
  exact if_neg (by decide)

theorem RelO.isSome_eq {o : Option V} {u : Option Value} (r : RelO o u) : o.isSome = u.isSome := by
  cases o with
  | none => cases u with
    | none => rfl
    | some _ => exact (show False from r).elim
  | some _ => cases u with
    | none => exact (show False from r).elim
    | some _ => rfl
theorem RelO.getD {o : Option V} {u : Option Value} {d : V} {d' : Value} (r : RelO o u) (rd : RelV d d') : RelV (o.getD d) (u.getD d') := by
  cases o with
  | none => cases u with
    | none => exact rd
    | some _ => exact (show False from r).elim
  | some _ => cases u with
    | none => exact (show False from r).elim
    | some _ => exact r

/-- raw tables of the same keys -/
theorem KV.val {kvs : List (κ × V)} {vs : List (κ × Value)} (r : KV kvs vs) (k : κ) : RelO (valV kvs k) (valueAt vs k) := by
  unfold KV at r
  induction r with
  | nil => exact True.intro
  | @cons p q ps qs h t ih =>
    obtain ⟨h1, h2⟩ := h
    by_cases e : p.1 = k
    · have e' : q.1 = k := h1.symm.trans e
      have b : valueAt (q :: qs) k = some q.2 := by simp [valueAt, List.find?_cons, e']
      rw [valV_pos e, b]; exact h2
    · have e' : ¬ q.1 = k := fun z => e (h1.trans z)
      have b : valueAt (q :: qs) k = valueAt qs k := by simp [valueAt, List.find?_cons, e']
      rw [valV_neg e, b]; exact ih
theorem KV.any {kvs : List (κ × V)} {vs : List (κ × Value)} (r : KV kvs vs) (k : κ) : (kvs.any fun kv => decide (kv.1 = k)) = vs.any fun kv => decide (kv.1 = k) := by
  unfold KV at r
  induction r with
  | nil => rfl
  | cons h t ih => rw [List.any_cons, List.any_cons, ih, h.1]
theorem KV.repl {kvs : List (κ × V)} {vs : List (κ × Value)} (r : KV kvs vs) (k : κ) {y : V} {u : Value} (ry : RelV y u) :
    KV (kvs.map fun kv => if kv.1 = k then (kv.1, y) else kv) (vs.map fun kv => if kv.1 = k then (kv.1, u) else kv) := by
  unfold KV at r ⊢
  induction r with
  | nil => exact .nil
  | @cons p q ps qs h t ih =>
    rw [List.map_cons, List.map_cons]
    refine .cons ?_ ih
    obtain ⟨h1, h2⟩ := h
    by_cases e : p.1 = k
    · rw [if_pos e, if_pos (h1.symm.trans e)]; exact ⟨h1, ry⟩
    · rw [if_neg e, if_neg (fun z => e (h1.trans z))]; exact ⟨h1, h2⟩
theorem KV.put {kvs : List (κ × V)} {vs : List (κ × Value)} (r : KV kvs vs) (k : κ) {y : V} {u : Value} (ry : RelV y u) : KV (putK kvs k y) (stored vs k u) := by
  unfold putK stored
  rw [r.any k]
  by_cases e : (vs.any fun kv => decide (kv.1 = k)) = true
  · rw [if_pos e, if_pos e]; exact r.repl k ry
  · rw [if_neg e, if_neg e]; exact Paired.snoc r ⟨rfl, ry⟩
theorem KV.drop {kvs : List (κ × V)} {vs : List (κ × Value)} (r : KV kvs vs) (k : κ) : KV (dropK kvs k) (without vs k) := by
  unfold KV at r ⊢
  unfold dropK without
  induction r with
  | nil => exact .nil
  | @cons p q ps qs h t ih =>
    obtain ⟨h1, h2⟩ := h
    rw [List.filter_cons, List.filter_cons]
    by_cases e : p.1 = k
    · have a : ¬ decide (p.1 ≠ k) = true := by simp [e]
      have b : ¬ decide (q.1 ≠ k) = true := by simp [h1.symm.trans e]
      rw [if_neg a, if_neg b]; exact ih
    · have e' : ¬ q.1 = k := fun z => e (h1.trans z)
      have a : decide (p.1 ≠ k) = true := by simp [e]
      have b : decide (q.1 ≠ k) = true := by simp [e']
      rw [if_pos a, if_pos b]; exact .cons ⟨h1, h2⟩ ih
theorem KV.keys {kvs : List (κ × V)} {vs : List (κ × Value)} (r : KV kvs vs) : kvs.map (·.1) = vs.map (·.1) := by
  unfold KV at r
  induction r with
  | nil => rfl
  | cons h t ih => rw [List.map_cons, List.map_cons, ih, h.1]
theorem KV.length {kvs : List (κ × V)} {vs : List (κ × Value)} (r : KV kvs vs) : kvs.length = vs.length := Paired.length r
theorem dropK_le (kvs : List (κ × V)) (k : κ) : (dropK kvs k).length ≤ kvs.length := List.length_filter_le _ _
end


/-! ### a tracked dict, its keys ints and texts or tuples of these -/
theorem kV_is {P : Program} {w : World} {k : Key} {u : Value} (r : RelV (kV k) u) : (mixKind P w).is k u = true := by
  cases k with
  | inl i => obtain ⟨t, e⟩ := (show ∃ t, u = Value.int i t from r); subst e; exact mixKind_int P w i t
  | inr x => obtain ⟨t, e⟩ := (show ∃ t, u = Value.str x t from r); subst e; exact mixKind_str P w x t
theorem kV_inj {a b : Key} (e : kV a = kV b) : a = b := by
  cases a with
  | inl i => cases b with
    | inl j => have e' : V.int i = V.int j := e; injection e' with e'; rw [e']
    | inr y => exact nomatch (show V.int i = V.str y from e)
  | inr x => cases b with
    | inl j => exact nomatch (show V.str x = V.int j from e)
    | inr y => have e' : V.str x = V.str y := e; injection e' with e'; rw [e']
theorem kVs_inj : ∀ {a b : List Key}, a.map kV = b.map kV → a = b
  | [], [], _ => rfl
  | [], _ :: _, e => by simp at e
  | _ :: _, [], e => by simp at e
  | x :: xs, y :: ys, e => by
    rw [List.map_cons, List.map_cons] at e
    injection e with e1 e2
    rw [kV_inj e1, kVs_inj e2]
theorem items_are {P : Program} {w : World} : ∀ {ks : List Key} {us : List Value}, Vals (ks.map kV) us → ItemsAre (mixKind P w) ks us
  | [], _, r => by rw [List.map_nil] at r; cases r; exact .nil
  | k :: ks, _, r => by
    rw [List.map_cons] at r
    cases r with
    | cons h t => exact .cons (kV_is h) (items_are t)

/-- raw entries of a dict with tuple keys -/
abbrev KT (H : Hp) : List (List Key × V) → List (List Key × Addr × Value) → Prop := Paired fun p q => p.1 = q.1 ∧ H q.2.1 = some (.tup (p.1.map kV)) ∧ RelV p.2 q.2.2
theorem KT.val {H : Hp} {kvs : List (List Key × V)} {xs : List (List Key × Addr × Value)} (r : KT H kvs xs) (k : List Key) : RelO (valV kvs k) ((atKey xs k).map (·.2)) := by
  induction r with
  | nil => exact True.intro
  | @cons p q ps qs h t ih =>
    obtain ⟨h1, _, h2⟩ := h
    by_cases e : p.1 = k
    · have e' : q.1 = k := h1.symm.trans e
      have b : atKey (q :: qs) k = some q.2 := by simp [atKey, List.find?_cons, e']
      rw [valV_pos e, b]; exact h2
    · have e' : ¬ q.1 = k := fun z => e (h1.trans z)
      have b : atKey (q :: qs) k = atKey qs k := by simp [atKey, List.find?_cons, e']
      rw [valV_neg e, b]; exact ih
theorem KT.repl {H : Hp} {kvs : List (List Key × V)} {xs : List (List Key × Addr × Value)} (r : KT H kvs xs) (k : List Key) {y : V} {u : Value} (ry : RelV y u) :
    KT H (kvs.map fun kv => if kv.1 = k then (kv.1, y) else kv) (xs.map (putAt k u)) := by
  induction r with
  | nil => exact .nil
  | @cons p q ps qs h t ih =>
    rw [List.map_cons, List.map_cons]
    refine .cons ?_ ih
    obtain ⟨h1, h2, h3⟩ := h
    unfold putAt
    by_cases e : p.1 = k
    · rw [if_pos e, if_pos (h1.symm.trans e)]; exact ⟨h1, h2, ry⟩
    · rw [if_neg e, if_neg (fun z => e (h1.trans z))]; exact ⟨h1, h2, h3⟩
theorem KT.put {H : Hp} {kvs : List (List Key × V)} {xs : List (List Key × Addr × Value)} (r : KT H kvs xs) (k : List Key) {b : Addr} {y : V} {u : Value} (hb : H b = some (.tup (k.map kV))) (ry : RelV y u) :
    KT H (putK kvs k y) (storedH xs k b u) := by
  have e : (kvs.any fun kv => decide (kv.1 = k)) = (atKey xs k).isSome := by
    rw [valV_any, (r.val k).isSome_eq, Option.isSome_map]
  unfold putK storedH
  rw [e]
  by_cases q : (atKey xs k).isSome = true
  · rw [if_pos q, if_pos q]; exact r.repl k ry
  · rw [if_neg q, if_neg q]; exact Paired.snoc r ⟨rfl, hb, ry⟩
theorem KT.keeps {H H' : Hp} {kvs : List (List Key × V)} {xs : List (List Key × Addr × Value)} (r : KT H kvs xs) (ht : ∀ b ys, H b = some (.tup ys) → H' b = some (.tup ys)) : KT H' kvs xs :=
  Paired.mapP r fun _ _ z => ⟨z.1, ht _ _ z.2.1, z.2.2⟩

section
variable {P : Program} {w : World} {H : Hp} {h : Heap} {a : Addr}
theorem rd_of {u : HO} (ok : HOk P w H h) (e : Rd H a u) : ObjOk P w H h a u := e.ok ok
theorem dk_rd {kvs : List (Key × V)} (ok : HOk P w H h) (e : Rd H a (.dK kvs)) : kvs.length ≤ sizeLine ∧ (a == sysModules) = false ∧ ∃ vs, KV kvs vs ∧ h.DictOf (mixKind P w) a vs :=
  show ObjOk P w H h a (.dK kvs) from rd_of ok e
theorem dk_of {kvs : List (Key × V)} (ok : HOk P w H h) (e : H a = some (.dK kvs)) : kvs.length ≤ sizeLine ∧ (a == sysModules) = false ∧ ∃ vs, KV kvs vs ∧ h.DictOf (mixKind P w) a vs := dk_rd ok (.inl e)
/-- a tracked tuple of ints and texts is a key -/
theorem key_of {ks : List Key} (ok : HOk P w H h) (e : H a = some (.tup (ks.map kV))) : (tupleKind (mixKind P w)).is h ks a := by
  obtain ⟨_, its, r, o, h1, h2, n, h3⟩ := (show ObjOk P w H h a (.tup (ks.map kV)) from ok a _ e)
  exact ⟨o, its.toArray, n, h1, h2, h3, by simpa using items_are r⟩
theorem dt_rd {kvs : List (List Key × V)} (ok : HOk P w H h) (e : Rd H a (.dT kvs)) : kvs.length ≤ sizeLine ∧ (a == sysModules) = false ∧
    ∃ xs, KT H kvs xs ∧ h.DictOfH (tupleKind (mixKind P w)) a xs := by
  obtain ⟨z, y, xs, r, o, es, ep, h1, h2, h3, h4, h5⟩ := (show ObjOk P w H h a (.dT kvs) from rd_of ok e)
  refine ⟨z, y, xs, r, o, es, ep, h1, h2, h3, h4, fun x hx => ?_, h5⟩
  have all : ∀ {l : List (List Key × V)} {m : List (List Key × Addr × Value)}, KT H l m → ∀ x ∈ m, (tupleKind (mixKind P w)).is h x.1 x.2.1 := by
    intro l m q
    induction q with
    | nil => intro x hx; exact nomatch hx
    | @cons p q ps qs hq t ih =>
      intro x hx
      rcases List.mem_cons.mp hx with e | hx
      · subst e
        exact key_of ok (by rw [← hq.1]; exact hq.2.1)
      · exact ih x hx
  exact all r x hx
theorem dt_of {kvs : List (List Key × V)} (ok : HOk P w H h) (e : H a = some (.dT kvs)) : kvs.length ≤ sizeLine ∧ (a == sysModules) = false ∧
    ∃ xs, KT H kvs xs ∧ h.DictOfH (tupleKind (mixKind P w)) a xs := dt_rd ok (.inl e)
end

/-- what the dict at a holds at the key y -/
def DGet (H : Hp) (a : Addr) (y : V) (r : Option V) : Prop :=
  (∃ kvs k, Rd H a (.dK kvs) ∧ y = kV k ∧ r = valV kvs k) ∨ ∃ kvs k b, Rd H a (.dT kvs) ∧ y = .ref b ∧ H b = some (.tup (k.map kV)) ∧ r = valV kvs k
/-- the heap behind a[y] = v -/
def DPut (H : Hp) (a : Addr) (y v : V) (H' : Hp) : Prop :=
  (∃ kvs k, H a = some (.dK kvs) ∧ y = kV k ∧ kvs.length < sizeLine ∧ H' = upd H a (.dK (putK kvs k v))) ∨
  ∃ kvs k b, H a = some (.dT kvs) ∧ y = .ref b ∧ H b = some (.tup (k.map kV)) ∧ kvs.length < sizeLine ∧ H' = upd H a (.dT (putK kvs k v))
theorem DGet.k {H : Hp} {a : Addr} {kvs : List (Key × V)} {k : Key} (e : H a = some (.dK kvs)) : DGet H a (kV k) (valV kvs k) := .inl ⟨kvs, k, .inl e, rfl, rfl⟩
theorem DGet.t {H : Hp} {a b : Addr} {kvs : List (List Key × V)} {k : List Key} (e : H a = some (.dT kvs)) (eb : H b = some (.tup (k.map kV))) : DGet H a (.ref b) (valV kvs k) := .inr ⟨kvs, k, b, .inl e, rfl, eb, rfl⟩
theorem DPut.k {H : Hp} {a : Addr} {kvs : List (Key × V)} {k : Key} {v : V} (e : H a = some (.dK kvs)) (hl : kvs.length < sizeLine) : DPut H a (kV k) v (upd H a (.dK (putK kvs k v))) := .inl ⟨kvs, k, e, rfl, hl, rfl⟩
theorem DPut.t {H : Hp} {a b : Addr} {kvs : List (List Key × V)} {k : List Key} {v : V} (e : H a = some (.dT kvs)) (eb : H b = some (.tup (k.map kV))) (hl : kvs.length < sizeLine) :
    DPut H a (.ref b) v (upd H a (.dT (putK kvs k v))) := .inr ⟨kvs, k, b, e, rfl, eb, hl, rfl⟩


section
variable {X : Cx} {pins : List (Addr × Obj)} {σ : St} {H : Hp} {s : Shared} {a : Addr} {y v : V} {u r : Value} {o : Option V} {A : Around} {E : Value → Shared → Prop}

theorem Inv.big (I : Inv X pins σ H s) : sysModules < s.heap.objs.size := by
  have h : mainGlobals < s.heap.objs.size := (I.mod.glob.keeps I.bk).lt
  exact Nat.lt_trans (by decide) h

/-- d[y], there -/
theorem d_getItem {Q : Value → Shared → Prop} (hu : A.units + 1 < cLine) (I : Inv X pins σ H s) (g : DGet H a y (some v)) (ry : RelV y u) (h : ∀ w' s', Inv X pins σ H s' → RelV v w' → Q w' s') :
    wpAny (model X.prog X.w) A (getItem (.ref a) u) Q E s := by
  rcases g with ⟨kvs, k, e, ey, l⟩ | ⟨kvs, k, b, e, ey, eb, l⟩
  · subst ey
    obtain ⟨z, hd, vs, rel, dd⟩ := dk_rd I.hok e
    obtain ⟨w', hw, rw'⟩ := RelO.some_of (v := v) (o := valueAt vs k) (by rw [l]; exact rel.val k)
    exact wpAny_getItem_of (kV_is ry) dd.mapOf hw (h w' _ (I.tok _) rw')
  · subst ey
    cases (show u = Value.ref b from ry)
    obtain ⟨z, hd, xs, rel, dd⟩ := dt_rd I.hok e
    obtain ⟨w', hw, rw'⟩ := RelO.some_of (v := v) (o := (atKey xs k).map (·.2)) (by rw [l]; exact rel.val k)
    obtain ⟨p, hp, hp2⟩ := Option.map_eq_some_iff.mp hw
    refine wpAny_getItem_heap (tupleKind_room_in1 hu) (key_of I.hok eb) dd hp ?_
    rw [hp2]
    exact h w' _ (I.tok _) rw'
/-- y in d -/
theorem d_in {Q : Value → Shared → Prop} (hu : A.units + 1 < cLine) (I : Inv X pins σ H s) (g : DGet H a y o) (ry : RelV y u) (h : ∀ s', Inv X pins σ H s' → Q (.bool o.isSome) s') :
    wpAny (model X.prog X.w) A (compareOp .In u (.ref a)) Q E s := by
  rcases g with ⟨kvs, k, e, ey, l⟩ | ⟨kvs, k, b, e, ey, eb, l⟩
  · subst ey
    obtain ⟨z, hd, vs, rel, dd⟩ := dk_rd I.hok e
    refine wpAny_in_of (kV_is ry) hd dd.mapOf ?_
    rw [← (rel.val k).isSome_eq, ← l]
    exact h _ (I.tok _)
  · subst ey
    cases (show u = Value.ref b from ry)
    obtain ⟨z, hd, xs, rel, dd⟩ := dt_rd I.hok e
    refine wpAny_in_heap (tupleKind_room_in1 hu) (key_of I.hok eb) hd dd ?_
    have q := (rel.val k).isSome_eq
    rw [Option.isSome_map] at q
    rw [← q, ← l]
    exact h _ (I.tok _)
theorem d_notIn {Q : Value → Shared → Prop} (hu : A.units + 1 < cLine) (I : Inv X pins σ H s) (g : DGet H a y o) (ry : RelV y u) (h : ∀ s', Inv X pins σ H s' → Q (.bool (!o.isSome)) s') :
    wpAny (model X.prog X.w) A (compareOp .NotIn u (.ref a)) Q E s := by
  rcases g with ⟨kvs, k, e, ey, l⟩ | ⟨kvs, k, b, e, ey, eb, l⟩
  · subst ey
    obtain ⟨z, hd, vs, rel, dd⟩ := dk_rd I.hok e
    refine wpAny_notIn_of (kV_is ry) hd dd.mapOf ?_
    rw [← (rel.val k).isSome_eq, ← l]
    exact h _ (I.tok _)
  · subst ey
    cases (show u = Value.ref b from ry)
    obtain ⟨z, hd, xs, rel, dd⟩ := dt_rd I.hok e
    refine wpAny_notIn_heap (tupleKind_room_in1 hu) (key_of I.hok eb) hd dd ?_
    have q := (rel.val k).isSome_eq
    rw [Option.isSome_map] at q
    rw [← q, ← l]
    exact h _ (I.tok _)
/-- a dict's object is replaced -/
theorem d_write {h' : Heap} {t' : Nat} {ob : HO} (I : Inv X pins σ H s) (mu : Mut (H a)) (hs : Heap.SameBut a s.heap h') (he : ∃ q, h'.get? a = some q) (new : ObjOk X.prog X.w (upd H a ob) h' a ob) :
    Inv X pins σ (upd H a ob) { s with heap := h', toks := t' } :=
  I.write (x := a) (e := a) mu (.inl rfl) (fun b q hb z => (hs.2 b hb).trans z) he new
theorem dk_new {P : Program} {w : World} {H' : Hp} {h' : Heap} {kvs : List (Key × V)} {vs : List (Key × Value)} (z : kvs.length ≤ sizeLine) (hd : (a == sysModules) = false) (rel : KV kvs vs) (dd : h'.DictOf (mixKind P w) a vs) :
    ObjOk P w H' h' a (.dK kvs) := ⟨z, hd, vs, rel, dd⟩
/-- d[y] = v -/
theorem d_setItem {H' : Hp} {Q : Unit → Shared → Prop} (hu : A.units + 1 < cLine) (I : Inv X pins σ H s) (g : DPut H a y v H') (ry : RelV y u) (rv : RelV v r) (h : ∀ s', Inv X pins σ H' s' → Q () s') :
    wpAny (model X.prog X.w) A (setItem (.ref a) u r) Q E s := by
  rcases g with ⟨kvs, k, e, ey, l, eH⟩ | ⟨kvs, k, b, e, ey, eb, l, eH⟩
  · subst ey eH
    obtain ⟨z, hd, vs, rel, dd⟩ := dk_of I.hok e
    have hz : vs.length ≤ sizeLine := by rw [← rel.length]; exact z
    have hl : (putK kvs k v).length ≤ sizeLine := by have := length_putK kvs k v; omega
    refine wpAny_setItem_pairs (hsz := hz) (kV_is ry) dd fun h' dd' hs => h _ ?_
    have he : ∃ q, h'.get? a = some q := let ⟨q, _, _, hq, _⟩ := dd'; ⟨q, hq⟩
    exact d_write I (by rw [e]; exact True.intro) hs he (dk_new hl hd (rel.put k rv) dd')
  · subst ey eH
    cases (show u = Value.ref b from ry)
    obtain ⟨z, hd, xs, rel, dd⟩ := dt_of I.hok e
    have hz : xs.length ≤ sizeLine := by rw [← Paired.length rel]; exact z
    have hl : (putK kvs k v).length ≤ sizeLine := by have := length_putK kvs k v; omega
    refine wpAny_setItem_heap (hsz := hz) (tupleKind_room_in1 hu) (key_of I.hok eb) dd fun h' dd' hs => h _ ?_
    obtain ⟨q, es, ep, hq, h2, h3, h4, _, h5⟩ := dd'
    refine d_write I (by rw [e]; exact True.intro) hs ⟨q, hq⟩ ⟨hl, hd, _, (rel.put k eb rv).keeps fun c ys ec => ?_, q, es, ep, hq, h2, h3, h4, h5⟩
    rw [upd_ne (ne_of ec e (fun z => nomatch z))]
    exact ec
end

section
variable {X : Cx} {pins : List (Addr × Obj)} {σ : St} {H : Hp} {s : Shared} {a : Addr} {kvs : List (Key × V)} {k : Key} {u : Value} {A : Around} {E : Value → Shared → Prop}
/-- del d[k] -/
theorem d_delItem {Q : Unit → Shared → Prop} (I : Inv X pins σ H s) (e : H a = some (.dK kvs)) (ry : RelV (kV k) u) (l : (valV kvs k).isSome = true) (h : ∀ s', Inv X pins σ (upd H a (.dK (dropK kvs k))) s' → Q () s') :
    wpAny (model X.prog X.w) A (delItem (.ref a) u) Q E s := by
  obtain ⟨z, hd, vs, rel, dd⟩ := dk_of I.hok e
  refine wpAny_delItem_slot dd.typeIs (by decide) PySem.F.slot_dict_delitem
    (call_meetsIn PySem.F.slot_dict_delitem dd.typeIs PySem.F.entry_dict_delitem (PySem.F.args_dict_delitem_2 _ _) (meets_dict_delitem_pairs (mixKind X.prog X.w) a (kV_is ry)) ⟨vs, dd, by rw [← rel.length]; exact z, by rw [← (rel.val k).isSome_eq]; exact l, fun h' dd' hs => h _ ?_⟩)
  have he : ∃ q, h'.get? a = some q := let ⟨q, _, _, hq, _⟩ := dd'; ⟨q, hq⟩
  exact d_write I (by rw [e]; exact True.intro) hs he (dk_new (Nat.le_trans (dropK_le kvs k) z) hd (rel.drop k) dd')
/-- d.pop(k[, x]), there -/
theorem d_pop {v : V} {more : List Value} {Q : Value → Shared → Prop} (I : Inv X pins σ H s) (e : H a = some (.dK kvs)) (ry : RelV (kV k) u) (l : valV kvs k = some v) (hm : more = [] ∨ ∃ x, more = [x])
    (h : ∀ w' s', Inv X pins σ (upd H a (.dK (dropK kvs k))) s' → RelV v w' → Q w' s') : wpAny (model X.prog X.w) A (call (.builtin "dict.pop") (.ref a :: u :: more)) Q E s := by
  obtain ⟨z, hd, vs, rel, dd⟩ := dk_of I.hok e
  obtain ⟨w', hw, rw'⟩ := RelO.some_of (v := v) (o := valueAt vs k) (by rw [← l]; exact rel.val k)
  have hp : (keyPart u).isSome = true := by
    cases k with
    | inl i => obtain ⟨t, q⟩ := (show ∃ t, u = Value.int i t from ry); subst q; rfl
    | inr x => obtain ⟨t, q⟩ := (show ∃ t, u = Value.str x t from ry); subst q; rfl
  have ha : argsOk "dict.pop" ⟨.ref a :: u :: more, []⟩ := by
    rcases hm with q | ⟨x, q⟩
    · subst q; exact PySem.F.args_dict_pop_2 _ _
    · subst q; exact PySem.F.args_dict_pop_3 _ _ _
  refine call_meetsIn PySem.F.slot_dict_pop dd.typeIs PySem.F.entry_dict_pop ha (meets_dict_pop_there (mixKind X.prog X.w) a (kV_is ry) more hm hp)
    ⟨vs, w', dd, by rw [← rel.length]; exact z, hw, fun h' dd' hs => h w' _ ?_ rw'⟩
  have he : ∃ q, h'.get? a = some q := let ⟨q, _, _, hq, _⟩ := dd'; ⟨q, hq⟩
  exact d_write I (by rw [e]; exact True.intro) hs he (dk_new (Nat.le_trans (dropK_le kvs k) z) hd (rel.drop k) dd')
/-- d.pop(k, x), not there -/
theorem d_popD {r : Value} {Q : Value → Shared → Prop} (I : Inv X pins σ H s) (e : H a = some (.dK kvs)) (ry : RelV (kV k) u) (l : valV kvs k = none) (h : ∀ s', Inv X pins σ H s' → Q r s') :
    wpAny (model X.prog X.w) A (call (.builtin "dict.pop") [.ref a, u, r]) Q E s := by
  obtain ⟨z, hd, vs, rel, dd⟩ := dk_of I.hok e
  have hn : valueAt vs k = none := RelO.none_of (by rw [← l]; exact rel.val k)
  have hp : (keyPart u).isSome = true := by
    cases k with
    | inl i => obtain ⟨t, q⟩ := (show ∃ t, u = Value.int i t from ry); subst q; rfl
    | inr x => obtain ⟨t, q⟩ := (show ∃ t, u = Value.str x t from ry); subst q; rfl
  exact call_meetsIn PySem.F.slot_dict_pop dd.typeIs PySem.F.entry_dict_pop (PySem.F.args_dict_pop_3 _ _ _) (meets_dict_pop_default (mixKind X.prog X.w) a (kV_is ry) hd hp r) ⟨vs, dd, hn, h _ (I.tok _)⟩
/-- d.clear() -/
theorem d_clear {Q : Value → Shared → Prop} (I : Inv X pins σ H s) (e : H a = some (.dK kvs)) (h : ∀ s', Inv X pins σ (upd H a (.dK [])) s' → Q .none s') : wpAny (model X.prog X.w) A (call (.builtin "dict.clear") [.ref a]) Q E s := by
  obtain ⟨z, hd, vs, rel, dd⟩ := dk_of I.hok e
  refine call_meetsIn PySem.F.slot_dict_clear dd.typeIs PySem.F.entry_dict_clear (PySem.F.args_dict_clear_1 _) (meets_dict_clear (mixKind X.prog X.w) a) ⟨vs, dd, by rw [← rel.length]; exact z, fun h' dd' hs => h _ ?_⟩
  have he : ∃ q, h'.get? a = some q := let ⟨q, _, _, hq, _⟩ := dd'; ⟨q, hq⟩
  exact d_write (t' := s.toks) I (by rw [e]; exact True.intro) hs he (dk_new (Nat.zero_le _) hd .nil dd')
/-- len(d) -/
theorem d_len {Q : Value → Shared → Prop} (I : Inv X pins σ H s) (e : Rd H a (.dK kvs)) (h : ∀ t s', Inv X pins σ H s' → Q (.int kvs.length t) s') : wpAny (model X.prog X.w) A (call (.builtin "len") [.ref a]) Q E s := by
  obtain ⟨z, hd, vs, rel, dd⟩ := dk_rd I.hok e
  refine call_len_dict hd dd (by rw [← rel.length]; rw [sizeLine_eq] at z; omega) ?_
  rw [← rel.length]
  exact h _ _ (I.tok _)
/-- if d -/
theorem d_truth {Q : Bool → Shared → Prop} (I : Inv X pins σ H s) (e : Rd H a (.dK kvs)) (h : ∀ s', Inv X pins σ H s' → Q (!kvs.isEmpty) s') : wpAny (model X.prog X.w) A (truthy (.ref a)) Q E s := by
  obtain ⟨z, hd, vs, rel, dd⟩ := dk_rd I.hok e
  refine wpAny_truthy_dict hd dd (by rw [← rel.length]; rw [sizeLine_eq] at z; omega) ?_
  have q : kvs.isEmpty = vs.isEmpty := by cases rel <;> rfl
  rw [← q]
  exact h _ (I.tok _)
end


/-! ### readings and rules -/
/-- the element of a subscription, not a slice -/
def NoSl (i : Expr) : Prop := ∀ ov iv, subscripted i false ov iv = operate [ov, iv] (getItem ov iv)
theorem subD_of {prog : Program} {w : World} {A : Around} {E : Value → Shared → Prop} {s : Shared} {env : Env} {value slice : Expr} {pos : Pos} {T id : String} {Q : Value → Shared → Prop}
    (hl : typeLookup (.type T) "__getitem__" = pure (some (.builtin id))) (hs : NoSl slice)
    (h : wpAny (model prog w) A (eval value env) (fun o s₁ => wpAny (model prog w) A (eval slice env) (fun i s₂ => s₂.TypeIs o T ∧ wpAny (model prog w) A (getItem o i) Q E s₂) E s₁) E s) :
    wpAny (model prog w) A (eval (.Subscript value slice pos) env) Q E s := by
  refine Subscript_ (wpAny_mono h (fun o s₁ h₁ => wpAny_mono h₁ (fun i s₂ h₂ => ?_) fun _ _ x => x) fun _ _ x => x)
  obtain ⟨hT, h₂⟩ := h₂
  unfold subscriptTail
  refine wpAny_bind ?_
  rw [getitemInPython_of_ne hT.not_modules]
  refine wpAny_bind (wpAny_specialOf hT hl ?_)
  have fin : wpAny (model prog w) A (subscripted slice false o i) (fun r s₃ => wpAny (model prog w) A (letTemporaryGo value o r >>= fun _ => pure r) Q E s₃) E s₂ := by
    rw [hs o i]
    exact wpAny_operating (wpAny_mono h₂ (fun r s₃ h₃ => wpAny_bind (wpAny_letTemporaryGo (wpAny_pure h₃))) fun _ _ x => x)
  first
    | exact wpAny_pure (wpAny_bind fin)
    | exact wpAny_bind (wpAny_pure (wpAny_bind fin))
    | exact wpAny_bind fin

theorem dict_typeIs {X : Cx} {pins : List (Addr × Obj)} {σ : St} {H : Hp} {s : Shared} {a : Addr} {y : V} {o : Option V} (I : Inv X pins σ H s) (g : DGet H a y o) : s.TypeIs (.ref a) "dict" := by
  rcases g with ⟨kvs, k, e, _, _⟩ | ⟨kvs, k, b, e, _, _, _⟩
  · obtain ⟨_, _, vs, _, dd⟩ := dk_rd I.hok e
    exact dd.typeIs
  · obtain ⟨_, _, xs, _, dd⟩ := dt_rd I.hok e
    exact dd.typeIs
theorem dict_noDict {X : Cx} {pins : List (Addr × Obj)} {σ : St} {H : Hp} {s : Shared} {a : Addr} {y : V} {o : Option V} (I : Inv X pins σ H s) (g : DGet H a y o) :
    ∀ b, Value.ref a = .ref b → ∃ ob, s.heap.get? b = some ob ∧ ob.dict = none := fun b q => by
  cases q
  rcases g with ⟨kvs, k, e, _, _⟩ | ⟨kvs, k, b, e, _, _, _⟩
  · obtain ⟨_, _, vs, _, ob, _, _, h1, h2, _⟩ := dk_rd I.hok e
    exact ⟨ob, h1, h2.2.1⟩
  · obtain ⟨_, _, xs, _, ob, _, _, h1, h2, _⟩ := dt_rd I.hok e
    exact ⟨ob, h1, h2.2.1⟩

/-- d[y] -/
def tDGet (td ty : TE) : TE := fun σ H Q => td σ H fun x H1 => ty σ H1 fun y H2 => ∃ a v, x = .ref a ∧ DGet H2 a y (some v) ∧ Q v H2
/-- y in d, y not in d -/
def tDIn (ty td : TE) : TE := fun σ H Q => ty σ H fun y H1 => td σ H1 fun x H2 => ∃ a o, x = .ref a ∧ DGet H2 a y o ∧ Q (.bl o.isSome) H2
def tDNotIn (ty td : TE) : TE := fun σ H Q => ty σ H fun y H1 => td σ H1 fun x H2 => ∃ a o, x = .ref a ∧ DGet H2 a y o ∧ Q (.bl (!o.isSome)) H2
/-- d[y] = v -/
def sDPut (td ty tv : TE) : TS := fun D σ H => tv σ H fun v H1 => td σ H1 fun x H2 => ty σ H2 fun y H3 => ∃ a H4, x = .ref a ∧ DPut H3 a y v H4 ∧ D.nx σ H4
/-- d[y] op= v -/
def sDAug (td ty tv : TE) (rd : V → V → Hp → VK → Prop) : TS := fun D σ H => td σ H fun x H1 => ty σ H1 fun y H2 => ∃ a v, x = .ref a ∧ DGet H2 a y (some v) ∧
  tv σ H2 fun y2 H3 => rd v y2 H3 fun z H4 => ∃ H5, DPut H4 a y z H5 ∧ D.nx σ H5
/-- del d[y] -/
def sDDel (td ty : TE) : TS := fun D σ H => td σ H fun x H1 => ty σ H1 fun y H2 => ∃ a kvs k, x = .ref a ∧ H2 a = some (.dK kvs) ∧ y = kV k ∧ (valV kvs k).isSome = true ∧ D.nx σ (upd H2 a (.dK (dropK kvs k)))

section
variable {X : Cx} {o i e value : Expr} {pos pos' tpos : Pos} {td ty tv : TE}
theorem pe_dget (hu : X.A.units + 1 < cLine) (ho : PE X o td) (hi : PE X i ty) (hs : NoSl i) : PE X (.Subscript o i pos) (tDGet td ty) := by
  intro pins s σ H Q I h
  refine subD_of PySem.F.slot_dict_getitem.lookup hs (thn (ho pins s σ H _ I h) fun u s1 ⟨x, H1, I1, rx, q1⟩ => thn (hi pins s1 σ H1 _ I1 q1) fun iv s2 ⟨y, H2, I2, ry, a, v, ex, g, q2⟩ => ?_)
  subst ex
  obtain rfl : u = Value.ref a := rx
  exact ⟨dict_typeIs I2 g, d_getItem hu I2 g ry fun w' s3 I3 rw' => ⟨v, H2, I3, rw', q2⟩⟩
theorem pc_din (hu : X.A.units + 1 < cLine) (hi : PE X i ty) (ho : PE X o td) : PC X .In i o (tDIn ty td) := by
  intro pins s σ H Q I h
  refine thn (hi pins s σ H _ I h) fun iv s1 ⟨y, H1, I1, ry, q1⟩ => thn (ho pins s1 σ H1 _ I1 q1) fun u s2 ⟨x, H2, I2, rx, a, ov, ex, g, q2⟩ => ?_
  subst ex
  obtain rfl : u = Value.ref a := rx
  exact d_in hu I2 g ry fun s3 I3 => ⟨.bl ov.isSome, H2, I3, rfl, q2⟩
theorem pc_dnotin (hu : X.A.units + 1 < cLine) (hi : PE X i ty) (ho : PE X o td) : PC X .NotIn i o (tDNotIn ty td) := by
  intro pins s σ H Q I h
  refine thn (hi pins s σ H _ I h) fun iv s1 ⟨y, H1, I1, ry, q1⟩ => thn (ho pins s1 σ H1 _ I1 q1) fun u s2 ⟨x, H2, I2, rx, a, ov, ex, g, q2⟩ => ?_
  subst ex
  obtain rfl : u = Value.ref a := rx
  exact d_notIn hu I2 g ry fun s3 I3 => ⟨.bl (!ov.isSome), H2, I3, rfl, q2⟩
theorem ps_dput (hu : X.A.units + 1 < cLine) (ho : PE X o td) (hi : PE X i ty) (hv : PE X value tv) (hs : swapsWith value (some (.Subscript o i pos')) pos.line X.env = pure false) :
    PS X (.Assign [.Subscript o i pos'] value pos) (sDPut td ty tv) := by
  intro pins s σ H D I h
  refine wpAny_Assign_Subscript (thn (hv pins s σ H _ I h) fun r s1 ⟨v, H1, I1, rv, q1⟩ => thn (ho pins s1 σ H1 _ I1 q1) fun u s2 ⟨x, H2, I2, rx, q2⟩ => thn (hi pins s2 σ H2 _ I2 q2) fun iv s3 ⟨y, H3, I3, ry, a, H4, ex, g, q3⟩ => ?_) hs
  subst ex
  obtain rfl : u = Value.ref a := rx
  exact d_setItem hu I3 g ry rv fun s4 I4 => ⟨σ, H4, I4, q3⟩
theorem ps_daug {op : Operator} {rd : V → V → Hp → VK → Prop} (hu : X.A.units + 1 < cLine) (ho : PE X o td) (hi : PE X i ty) (hv : PE X value tv) (hop : InOp X op rd)
    (ha : ∀ ov iv new, augStore i ov iv new = (do holding [new, ov, iv] (setItem ov iv new); release [new, ov, iv] []; pure .next)) : PS X (.AugAssign (.Subscript o i tpos) op value pos) (sDAug td ty tv rd) := by
  intro pins s σ H D I h
  refine wpAny_AugAssign_SubscriptAny (thn (ho pins s σ H _ I h) fun u s1 ⟨x, H1, I1, rx, q1⟩ => thn (hi pins s1 σ H1 _ I1 q1) fun iv s2 ⟨y, H2, I2, ry, a, v, ex, g, q2⟩ => ?_) ha
  subst ex
  obtain rfl : u = Value.ref a := rx
  refine d_getItem hu I2 g ry fun w' s3 I3 rw' => thn (hv pins s3 σ H2 _ I3 q2) fun w2 s4 ⟨y2, H3, I4, ry2, q3⟩ => thn (hop pins s4 σ H3 v y2 w' w2 _ I4 rw' ry2 q3) fun w3 s5 ⟨z, H4, I5, rz, H5, g5, q4⟩ => ?_
  exact d_setItem hu I5 g5 ry rz fun s6 I6 => ⟨σ, H5, I6, q4⟩
theorem ps_ddel (ho : PE X o td) (hi : PE X i ty) : PS X (.Delete [.Subscript o i tpos] pos) (sDDel td ty) := by
  intro pins s σ H D I h
  refine wpAny_Delete (wpAny_deleteEach_cons (wpAny_delete_Subscript (thn (ho pins s σ H _ I h) fun u s1 ⟨x, H1, I1, rx, q1⟩ => thn (hi pins s1 σ H1 _ I1 q1) fun iv s2 ⟨y, H2, I2, ry, a, kvs, k, ex, e, ey, l, q2⟩ => ?_)))
  subst ex ey
  obtain rfl : u = Value.ref a := rx
  exact d_delItem I2 e ry l fun s3 I3 => wpAny_deleteEach_nil ⟨σ, _, I3, q2⟩
end


/-! ### displays -/
theorem dk_empty {P : Program} {w : World} {H : Hp} (h : Heap) (hb : sysModules < h.objs.size) : ObjOk P w H (h.push { cls := .type "dict", data := .dict #[] }) h.objs.size (.dK []) :=
  ⟨Nat.zero_le _, beq_eq_false_iff_ne.mpr (Ne.symm (Nat.ne_of_lt hb)), [], .nil, Heap.DictOf.new h⟩
theorem dt_empty {P : Program} {w : World} {H : Hp} (h : Heap) (hb : sysModules < h.objs.size) : ObjOk P w H (h.push { cls := .type "dict", data := .dict #[] }) h.objs.size (.dT []) :=
  ⟨Nat.zero_le _, beq_eq_false_iff_ne.mpr (Ne.symm (Nat.ne_of_lt hb)), [], .nil, _, #[], 0, Heap.get?_push_size _ rfl, ⟨rfl, rfl, rfl⟩, rfl, rfl, List.nodup_nil⟩
/-- {}, to be a dict of the kind that is wanted -/
def tDNewK : TE := fun _ H Q => ∀ p, H p = none → Q (.ref p) (upd H p (.dK []))
def tDNewT : TE := fun _ H Q => ∀ p, H p = none → Q (.ref p) (upd H p (.dT []))
section
variable {X : Cx} {pos : Pos}
theorem pe_dnewK : PE X (.Dict [] [] pos) tDNewK := fun pins s σ H Q I h =>
  wpAny_Dict_empty ⟨.ref s.heap.objs.size, _, I.laid (a := s.heap.objs.size) (o := .dK []) (t' := s.toks) (fun _ _ q => Heap.get?_push_of_some _ q) (Nat.le_refl _) (dk_empty s.heap I.big), rfl, h _ (I.hok.fresh (Nat.le_refl _))⟩
theorem pe_dnewT : PE X (.Dict [] [] pos) tDNewT := fun pins s σ H Q I h =>
  wpAny_Dict_empty ⟨.ref s.heap.objs.size, _, I.laid (a := s.heap.objs.size) (o := .dT []) (t' := s.toks) (fun _ _ q => Heap.get?_push_of_some _ q) (Nat.le_refl _) (dt_empty s.heap I.big), rfl, h _ (I.hok.fresh (Nat.le_refl _))⟩
end

/-- the pairs of a display, from the left -/
def tPairs : List (TE × TE) → St → Hp → (List (V × V) → Hp → Prop) → Prop
  | [], _, H, Q => Q [] H
  | (tk, tv) :: r, σ, H, Q => tk σ H fun x H1 => tv σ H1 fun y H2 => tPairs r σ H2 fun ps H3 => Q ((x, y) :: ps) H3
abbrev VV : List (V × V) → List (Value × Value) → Prop := Paired fun p q => RelV p.1 q.1 ∧ RelV p.2 q.2
def PPs (X : Cx) (pos : Pos) (keys : List (Option Expr)) (values : List Expr) (trs : List (TE × TE)) : Prop :=
  ∀ (pins : List (Addr × Obj)) (s : Shared) (σ : St) (H : Hp) (Q : List (V × V) → Hp → Prop), Inv X pins σ H s → tPairs trs σ H Q →
    wpAny (model X.prog X.w) X.A (evalPairs (pairTrees keys values X.env pos)) (fun vs s' => ∃ ps H', Inv X pins σ H' s' ∧ VV ps vs ∧ Q ps H') X.xe s
theorem pps_nil {X : Cx} {pos : Pos} : PPs X pos [] [] [] := fun pins s σ H Q I h => pairTrees_nil_walk ⟨[], H, I, .nil, h⟩
theorem pps_cons {X : Cx} {pos : Pos} {k v : Expr} {ks : List (Option Expr)} {vs : List Expr} {tk tv : TE} {trs : List (TE × TE)} (hk : PE X k tk) (hv : PE X v tv) (hr : PPs X pos ks vs trs) :
    PPs X pos (some k :: ks) (v :: vs) ((tk, tv) :: trs) := fun pins s σ H Q I h =>
  pairTrees_cons_walk (thn (hk pins s σ H _ I h) fun u s1 ⟨x, H1, I1, rx, q1⟩ => thn (hv pins s1 σ H1 _ I1 q1) fun w2 s2 ⟨y, H2, I2, ry, q2⟩ =>
    thn (hr pins s2 σ H2 _ I2 q2) fun ws s3 ⟨ps, H3, I3, rel, q3⟩ => ⟨(x, y) :: ps, H3, I3, .cons ⟨rx, ry⟩ rel, q3⟩)

def mergeK (kvs more : List (Key × V)) : List (Key × V) := more.foldl (fun acc kv => putK acc kv.1 kv.2) kvs
theorem KV.merge : ∀ {more : List (Key × V)} {rs : List (Key × Value)} {kvs : List (Key × V)} {vs : List (Key × Value)}, KV more rs → KV kvs vs → KV (mergeK kvs more) (merged vs rs) := by
  intro more rs kvs vs r
  unfold KV at r
  induction r generalizing kvs vs with
  | nil => intro q; exact q
  | @cons p q ps qs h t ih =>
    intro r0
    have e : KV (putK kvs p.1 p.2) (stored vs q.1 q.2) := by
      have := r0.put p.1 h.2
      rw [← h.1]; exact this
    exact ih e
theorem length_mergeK : ∀ (more kvs : List (Key × V)), (mergeK kvs more).length ≤ kvs.length + more.length
  | [], kvs => by show kvs.length ≤ kvs.length + 0; omega
  | p :: r, kvs => by
    have h1 := length_mergeK r (putK kvs p.1 p.2)
    have h2 := length_putK kvs p.1 p.2
    show (mergeK (putK kvs p.1 p.2) r).length ≤ _
    rw [List.length_cons]; omega
theorem carries_of {P : Program} {w : World} : ∀ {kvs : List (Key × V)} {ws : List (Value × Value)}, VV (kvs.map fun kv => (kV kv.1, kv.2)) ws → ∃ rs, Carries (mixKind P w) ws rs ∧ KV kvs rs
  | [], _, r => by rw [List.map_nil] at r; cases r; exact ⟨[], True.intro, .nil⟩
  | p :: kvs, _, r => by
    rw [List.map_cons] at r
    cases r with
    | @cons a b as bs h t =>
      obtain ⟨rs, c, q⟩ := carries_of (P := P) (w := w) t
      obtain ⟨b1, b2⟩ := b
      exact ⟨(p.1, b2) :: rs, ⟨kV_is h.1, rfl, c⟩, .cons ⟨rfl, h.2⟩ q⟩
/-- {k: v, ..} with keys ints and texts; the new dict stands empty while the pairs are made -/
def tDisp (trs : List (TE × TE)) : TE := fun σ H Q => ∀ p, H p = none → tPairs trs σ (upd H p (.dK [])) fun ps H2 => H2 p = some (.dK []) ∧ ∃ kvs : List (Key × V), ps = kvs.map (fun kv => (kV kv.1, kv.2)) ∧ kvs.length ≤ 15 ∧ Q (.ref p) (upd H2 p (.dK (mergeK [] kvs)))
theorem pe_disp {X : Cx} {pos : Pos} {keys : List (Option Expr)} {values : List Expr} {trs : List (TE × TE)} (h : PPs X pos keys values trs) (hall : keys.all (·.isSome) = true) (hl : keys.length = values.length) (h0 : keys ≠ [])
    (h15 : keys.length ≤ 15) : PE X (.Dict keys values pos) (tDisp trs) := by
  intro pins s σ H Q I q
  have hn := I.hok.fresh (Nat.le_refl s.heap.objs.size)
  have I1 := I.laid (a := s.heap.objs.size) (o := .dK []) (h' := s.heap.push { cls := .type "dict", data := .dict #[] }) (t' := s.toks) (fun _ _ q => Heap.get?_push_of_some _ q) (Nat.le_refl _) (dk_empty s.heap I.big)
  refine wpAny_Dict_walk (knd := mixKind X.prog X.w) hall hl h0 h15 (thn (h pins _ σ _ _ I1 (q _ hn)) fun ws s2 ⟨ps, H2, I2, rel, e, kvs, ep, lk, q2⟩ => ?_)
  subst ep
  obtain ⟨rs, c, rk⟩ := carries_of (P := X.prog) (w := X.w) rel
  obtain ⟨z, hd, vs0, r0, dd⟩ := dk_of I2.hok e
  cases r0
  refine ⟨rs, c, dd, fun h' dd' hs => ⟨.ref s.heap.objs.size, _, ?_, rfl, q2⟩⟩
  have hz : (mergeK [] kvs).length ≤ sizeLine := by
    have h1 := length_mergeK kvs []
    rw [List.length_nil] at h1
    rw [sizeLine_eq]; omega
  have he : ∃ q, h'.get? s.heap.objs.size = some q := let ⟨q, _, _, hq, _⟩ := dd'; ⟨q, hq⟩
  exact d_write I2 (by rw [e]; exact True.intro) hs he (dk_new hz hd (rk.merge .nil) dd')


/-! ### methods -/
/-- a method call o.m(e) of a built-in, with one argument: what must be seen of the text -/
structure M1 (X : Cx) (o : Expr) (m : Str) (apos : Pos) (e : Expr) (cpos : Pos) : Prop where
  base : attributeBase o m X.env (eval o X.env) = eval o X.env
  few : ((backTo cpos (starEach [e] X.env)).all (fun x => !x.1) && (backToKw cpos (keywordEach [] X.env)).all (fun x => x.1.isSome)
    && decide (([e] : List Expr).length + ([] : List Keyword).length + (if ([] : List Keyword).isEmpty then 0 else 1) < 30)) = true
  line : (apos.endLine == cpos.line) = true
  trees : backTo cpos (starEach [e] X.env) = [(false, eval e X.env)]
structure M2 (X : Cx) (o : Expr) (m : Str) (apos : Pos) (e f : Expr) (cpos : Pos) : Prop where
  base : attributeBase o m X.env (eval o X.env) = eval o X.env
  few : ((backTo cpos (starEach [e, f] X.env)).all (fun x => !x.1) && (backToKw cpos (keywordEach [] X.env)).all (fun x => x.1.isSome)
    && decide (([e, f] : List Expr).length + ([] : List Keyword).length + (if ([] : List Keyword).isEmpty then 0 else 1) < 30)) = true
  line : (apos.endLine == cpos.line) = true
  trees : backTo cpos (starEach [e, f] X.env) = [(false, eval e X.env), (false, eval f X.env)]

/-- a is a dict, whatever its keys -/
def IsD (H : Hp) (a : Addr) : Prop := (∃ kvs, Rd H a (.dK kvs)) ∨ ∃ kvs, Rd H a (.dT kvs)
theorem isD_at {X : Cx} {pins : List (Addr × Obj)} {σ : St} {H : Hp} {s : Shared} {a : Addr} (I : Inv X pins σ H s) (d : IsD H a) :
    s.TypeIs (.ref a) "dict" ∧ (∀ b, Value.ref a = .ref b → ∃ ob, s.heap.get? b = some ob ∧ ob.dict = none) ∧ (a == sysModules) = false := by
  rcases d with ⟨kvs, e⟩ | ⟨kvs, e⟩
  · obtain ⟨_, hd, vs, _, dd⟩ := dk_rd I.hok e
    refine ⟨dd.typeIs, fun b q => ?_, hd⟩
    cases q
    obtain ⟨ob, _, _, h1, h2, _⟩ := dd
    exact ⟨ob, h1, h2.2.1⟩
  · obtain ⟨_, hd, xs, _, dd⟩ := dt_rd I.hok e
    refine ⟨dd.typeIs, fun b q => ?_, hd⟩
    cases q
    obtain ⟨ob, _, _, h1, h2, _⟩ := dd
    exact ⟨ob, h1, h2.2.1⟩

section
variable {X : Cx} {pins : List (Addr × Obj)} {σ : St} {H : Hp} {s : Shared} {a : Addr} {y d : V} {u r : Value} {o : Option V} {A : Around} {E : Value → Shared → Prop}
/-- d.get(y) -/
theorem d_get1 {Q : Value → Shared → Prop} (hu : A.units + 1 < cLine) (I : Inv X pins σ H s) (g : DGet H a y o) (ry : RelV y u) (h : ∀ w' s', Inv X pins σ H s' → RelV (o.getD .non) w' → Q w' s') :
    wpAny (model X.prog X.w) A (call (.builtin "dict.get") [.ref a, u]) Q E s := by
  rcases g with ⟨kvs, k, e, ey, l⟩ | ⟨kvs, k, b, e, ey, eb, l⟩
  · subst ey
    obtain ⟨z, hd, vs, rel, dd⟩ := dk_rd I.hok e
    refine call_meetsIn PySem.F.slot_dict_get dd.typeIs PySem.F.entry_dict_get (PySem.F.args_dict_get_2 _ _) (meets_dict_get (mixKind X.prog X.w) a (kV_is ry) hd) ⟨_, dd.mapOf, h _ _ (I.tok _) ?_⟩
    rw [l]
    exact (rel.val k).getD rfl
  · subst ey
    cases (show u = Value.ref b from ry)
    obtain ⟨z, hd, xs, rel, dd⟩ := dt_rd I.hok e
    refine call_meetsIn PySem.F.slot_dict_get dd.typeIs PySem.F.entry_dict_get (PySem.F.args_dict_get_2 _ _) (meetsH_dict_get (tupleKind (mixKind X.prog X.w)) a b hd) ⟨tupleKind_room_in1 hu, k, xs, key_of I.hok eb, dd, h _ _ (I.tok _) ?_⟩
    rw [l]
    exact (rel.val k).getD rfl
/-- d.get(y, x) -/
theorem d_get2 {Q : Value → Shared → Prop} (hu : A.units + 1 < cLine) (I : Inv X pins σ H s) (g : DGet H a y o) (ry : RelV y u) (rd : RelV d r) (h : ∀ w' s', Inv X pins σ H s' → RelV (o.getD d) w' → Q w' s') :
    wpAny (model X.prog X.w) A (call (.builtin "dict.get") [.ref a, u, r]) Q E s := by
  rcases g with ⟨kvs, k, e, ey, l⟩ | ⟨kvs, k, b, e, ey, eb, l⟩
  · subst ey
    obtain ⟨z, hd, vs, rel, dd⟩ := dk_rd I.hok e
    refine call_meetsIn PySem.F.slot_dict_get dd.typeIs PySem.F.entry_dict_get (PySem.F.args_dict_get_3 _ _ _) (meets_dict_get_default (mixKind X.prog X.w) a (kV_is ry) hd r) ⟨_, dd.mapOf, h _ _ (I.tok _) ?_⟩
    rw [l]
    exact (rel.val k).getD rd
  · subst ey
    cases (show u = Value.ref b from ry)
    obtain ⟨z, hd, xs, rel, dd⟩ := dt_rd I.hok e
    refine call_meetsIn PySem.F.slot_dict_get dd.typeIs PySem.F.entry_dict_get (PySem.F.args_dict_get_3 _ _ _) (meetsH_dict_get_default (tupleKind (mixKind X.prog X.w)) a b hd r) ⟨tupleKind_room_in1 hu, k, xs, key_of I.hok eb, dd, h _ _ (I.tok _) ?_⟩
    rw [l]
    exact (rel.val k).getD rd
end

def tDGet1 (td ty : TE) : TE := fun σ H Q => td σ H fun x H1 => ∃ a, x = .ref a ∧ IsD H1 a ∧ ty σ H1 fun y H2 => ∃ o, DGet H2 a y o ∧ Q (o.getD .non) H2
def tDGet2 (td ty tx : TE) : TE := fun σ H Q => td σ H fun x H1 => ∃ a, x = .ref a ∧ IsD H1 a ∧ ty σ H1 fun y H2 => tx σ H2 fun z H3 => ∃ o, DGet H3 a y o ∧ Q (o.getD z) H3
/-- d.pop(k): there; d.pop(k, x): there or not -/
def tDPop1 (td ty : TE) : TE := fun σ H Q => td σ H fun x H1 => ∃ a, x = .ref a ∧ IsD H1 a ∧ ty σ H1 fun y H2 => ∃ kvs k v, H2 a = some (.dK kvs) ∧ y = kV k ∧ valV kvs k = some v ∧ Q v (upd H2 a (.dK (dropK kvs k)))
def tDPop2 (td ty tx : TE) : TE := fun σ H Q => td σ H fun x H1 => ∃ a, x = .ref a ∧ IsD H1 a ∧ ty σ H1 fun y H2 => tx σ H2 fun z H3 => ∃ kvs k, H3 a = some (.dK kvs) ∧ y = kV k ∧
  (∀ v, valV kvs k = some v → Q v (upd H3 a (.dK (dropK kvs k)))) ∧ (valV kvs k = none → Q z H3)
section
variable {X : Cx} {o e f : Expr} {apos cpos : Pos} {td ty tx : TE}
theorem pe_dget1 (hu : X.A.units + 1 < cLine) (ho : PE X o td) (he : PE X e ty) (m : M1 X o "get" apos e cpos) : PE X (.Call (.Attribute o "get" apos) [e] [] cpos) (tDGet1 td ty) := by
  intro pins s σ H Q I h
  refine wpAny_Call_method m.base m.few m.line PySem.F.plainAttrs_dict PySem.F.slot_dict_get PySem.F.type_dict_get (thn (ho pins s σ H _ I h) fun u s1 ⟨x, H1, I1, rx, a, ex, d, q1⟩ => ?_)
  subst ex
  obtain rfl : u = Value.ref a := rx
  obtain ⟨t1, t2, _⟩ := isD_at I1 d
  refine ⟨t1, t2, ?_⟩
  rw [m.trees]
  refine Calls.callWith_builtin rfl (Calls.evalArgs_plain (Calls.spliced_cons (thn (he pins s1 σ H1 _ I1 q1) fun iv s2 ⟨y, H2, I2, ry, ov, g, q2⟩ => Calls.spliced_nil ?_)))
  exact d_get1 hu I2 g ry fun w' s3 I3 rw' => ⟨_, H2, I3, rw', q2⟩
theorem pe_dget2 (hu : X.A.units + 1 < cLine) (ho : PE X o td) (he : PE X e ty) (hf : PE X f tx) (m : M2 X o "get" apos e f cpos) : PE X (.Call (.Attribute o "get" apos) [e, f] [] cpos) (tDGet2 td ty tx) := by
  intro pins s σ H Q I h
  refine wpAny_Call_method m.base m.few m.line PySem.F.plainAttrs_dict PySem.F.slot_dict_get PySem.F.type_dict_get (thn (ho pins s σ H _ I h) fun u s1 ⟨x, H1, I1, rx, a, ex, d, q1⟩ => ?_)
  subst ex
  obtain rfl : u = Value.ref a := rx
  obtain ⟨t1, t2, _⟩ := isD_at I1 d
  refine ⟨t1, t2, ?_⟩
  rw [m.trees]
  refine Calls.callWith_builtin rfl (Calls.evalArgs_plain (Calls.spliced_cons (thn (he pins s1 σ H1 _ I1 q1) fun iv s2 ⟨y, H2, I2, ry, q2⟩ =>
    Calls.spliced_cons (thn (hf pins s2 σ H2 _ I2 q2) fun fv s3 ⟨z, H3, I3, rz, ov, g, q3⟩ => Calls.spliced_nil ?_))))
  exact d_get2 hu I3 g ry rz fun w' s4 I4 rw' => ⟨_, H3, I4, rw', q3⟩
theorem pe_dpop1 (ho : PE X o td) (he : PE X e ty) (m : M1 X o "pop" apos e cpos) : PE X (.Call (.Attribute o "pop" apos) [e] [] cpos) (tDPop1 td ty) := by
  intro pins s σ H Q I h
  refine wpAny_Call_method m.base m.few m.line PySem.F.plainAttrs_dict PySem.F.slot_dict_pop PySem.F.type_dict_pop (thn (ho pins s σ H _ I h) fun u s1 ⟨x, H1, I1, rx, a, ex, d, q1⟩ => ?_)
  subst ex
  obtain rfl : u = Value.ref a := rx
  obtain ⟨t1, t2, _⟩ := isD_at I1 d
  refine ⟨t1, t2, ?_⟩
  rw [m.trees]
  refine Calls.callWith_builtin rfl (Calls.evalArgs_plain (Calls.spliced_cons (thn (he pins s1 σ H1 _ I1 q1) fun iv s2 ⟨y, H2, I2, ry, kvs, k, v, ea, ey, l, q2⟩ => Calls.spliced_nil ?_)))
  subst ey
  exact d_pop I2 ea ry l (.inl rfl) fun w' s3 I3 rw' => ⟨v, _, I3, rw', q2⟩
theorem pe_dpop2 (ho : PE X o td) (he : PE X e ty) (hf : PE X f tx) (m : M2 X o "pop" apos e f cpos) : PE X (.Call (.Attribute o "pop" apos) [e, f] [] cpos) (tDPop2 td ty tx) := by
  intro pins s σ H Q I h
  refine wpAny_Call_method m.base m.few m.line PySem.F.plainAttrs_dict PySem.F.slot_dict_pop PySem.F.type_dict_pop (thn (ho pins s σ H _ I h) fun u s1 ⟨x, H1, I1, rx, a, ex, d, q1⟩ => ?_)
  subst ex
  obtain rfl : u = Value.ref a := rx
  obtain ⟨t1, t2, _⟩ := isD_at I1 d
  refine ⟨t1, t2, ?_⟩
  rw [m.trees]
  refine Calls.callWith_builtin rfl (Calls.evalArgs_plain (Calls.spliced_cons (thn (he pins s1 σ H1 _ I1 q1) fun iv s2 ⟨y, H2, I2, ry, q2⟩ =>
    Calls.spliced_cons (thn (hf pins s2 σ H2 _ I2 q2) fun fv s3 ⟨z, H3, I3, rz, kvs, k, ea, ey, q3, q4⟩ => Calls.spliced_nil ?_))))
  subst ey
  cases l : valV kvs k with
  | some v => exact d_pop I3 ea ry l (.inr ⟨fv, rfl⟩) fun w' s4 I4 rw' => ⟨v, _, I4, rw', q3 v l⟩
  | none => exact d_popD I3 ea ry l fun s4 I4 => ⟨z, H3, I4, rz, q4 l⟩
end

/-! ### dict(d): a copy -/
section
variable {X : Cx} {pins : List (Addr × Obj)} {σ : St} {H : Hp} {s : Shared} {a : Addr} {kvs : List (Key × V)} {A : Around} {E : Value → Shared → Prop}
theorem d_copyOf {Q : Value → Shared → Prop} (I : Inv X pins σ H s) (e : Rd H a (.dK kvs)) (h : ∀ p s', H p = none → Inv X pins σ (upd H p (.dK kvs)) s' → Q (.ref p) s') : wpAny (model X.prog X.w) A (call (.type "dict") [.ref a]) Q E s := by
  obtain ⟨z, hd, vs, rel, dd⟩ := dk_rd I.hok e
  refine kt_call_dict hd dd (by rw [← rel.length]; exact z) fun h' dd' hs => ?_
  refine h _ _ (I.hok.fresh (Nat.le_refl _)) (I.laid (a := s.heap.objs.size) (o := .dK kvs) (t' := s.toks) (fun b q hq => ?_) (Nat.le_refl _) (dk_new z (beq_eq_false_iff_ne.mpr (Ne.symm (Nat.ne_of_lt I.big))) rel dd'))
  exact (hs.2 b (Nat.ne_of_lt (Heap.lt_size hq))).trans (Heap.get?_push_of_some _ hq)
end


section
variable {X : Cx} {pins : List (Addr × Obj)} {σ : St} {H : Hp} {s : Shared} {a : Addr} {y : V} {u : Value} {A : Around} {E : Value → Shared → Prop}
/-- d[y], not there: a KeyError -/
theorem d_missing {Q : Value → Shared → Prop} (hu : A.units + 1 < cLine) (hh : A.handled = none) (I : Inv X pins σ H s) (g : DGet H a y none) (ry : RelV y u)
    (h : ∀ h' e t', Heap.NewExc s.heap h' e "KeyError" → E (.ref e) { s with heap := h', toks := t' }) : wpAny (model X.prog X.w) A (getItem (.ref a) u) Q E s := by
  rcases g with ⟨kvs, k, e, ey, l⟩ | ⟨kvs, k, b, e, ey, eb, l⟩
  · subst ey
    obtain ⟨z, hd, vs, rel, dd⟩ := dk_rd I.hok e
    have hn : valueAt vs k = none := RelO.none_of (by rw [l]; exact rel.val k)
    exact wpAny_getItem_missing_of (kV_is ry) hd hh dd.mapOf hn fun h' ex ne => h h' ex _ ne
  · subst ey
    cases (show u = Value.ref b from ry)
    obtain ⟨z, hd, xs, rel, dd⟩ := dt_rd I.hok e
    have hn : (atKey xs k).map (·.2) = none := RelO.none_of (by rw [l]; exact rel.val k)
    exact wpAny_getItem_missing_heap (tupleKind_room_in1 hu) (key_of I.hok eb) hd hh dd (Option.map_eq_none_iff.mp hn) fun h' ex ne => h h' ex _ ne
end
end L2

namespace Att
open PySem PySem.W PySem.Calls PyProof.Rows

/-! ### the script -/
theorem ints_of_wellAll {P : Params} {h : Heap} : ∀ (ns : List Int) (vs : List Value), WellAll P h vs (ns.map WData.int) → IntsAre vs ns := by
  intro ns
  induction ns with
  | nil =>
    intro vs w
    rw [List.map_nil] at w
    cases w
    exact .nil
  | cons n ns ih =>
    intro vs w
    rw [List.map_cons] at w
    cases w with
    | cons a b =>
      cases a
      exact .cons _ _ (ih _ b)

theorem script_of {l : OpenLaw} {n : Nat} (hn : l.most = some n) {P : Params} {h : Heap} {args : List WData} {vals : List Value}
    (hpre : l.row.toRowW.claim.pre args = true) (hwl : WellAll P h vals args) :
    ∃ a vs ns, vals = [Value.ref a] ∧ args = [WData.list (ns.map WData.int)] ∧ h.get? a = some { cls := .type "list", data := .seq vs.toArray } ∧ IntsAre vs ns ∧ ns.length ≤ n := by
  have hsh : WShape.hasAll [] args [.list .int] = true := (pre_splitW hpre).1
  have hc : l.pre.holds [] { args := args } = true := (pre_splitW hpre).2
  obtain ⟨d, r, rfl, h1, h2⟩ := hasAllW_cons hsh
  obtain rfl := hasAllW_nil h2
  obtain ⟨xs, rfl, h3⟩ := hasW_list h1
  obtain ⟨ns, rfl⟩ := items_int h3
  have hlen : ns.length ≤ n := by
    unfold OpenLaw.pre at hc
    have h4 : (WTm.not (.lt (.lit (.int (n : Int))) (.len (.arg 0)))).holds [] { args := [.list (ns.map .int)] } = true := by
      have h4 := (holds_andW hc).1
      rw [hn] at h4
      exact h4
    have h5 := condW_of h4 (w_not (w_lt w_lit (w_len_list (w_arg rfl))))
    rw [List.length_map] at h5
    refine Nat.le_of_not_lt fun q => ?_
    have q' : (n : Int) < ((ns.length : Nat) : Int) := by omega
    first
      | (rw [decide_eq_true q'] at h5; exact absurd h5 (by decide))
      | (simp at h5; omega)
  cases hwl with
  | cons w1 w2 =>
    cases w2
    cases w1 with
    | list ho hall => exact ⟨_, _, ns, rfl, rfl, ho, ints_of_wellAll ns _ hall, hlen⟩

theorem post_true (l : OpenLaw) (args : List WData) : l.row.toRowW.claim.post args (.bool true) args = true :=
  postW_of (r := l.row.toRowW) (X := (true == true))
    (show WShape.has [] (.bool true) .bool = true by first | rfl | decide | simp [WShape.has, WShape.arms, WShape.armsAll])
    (show (WTm.eq .res (.lit (.bool true))).value [] { args := args, res := some (.bool true), after := args } = some (.bool (true == true)) from w_eq_bool (w_res rfl) w_lit) rfl

/-! ### the attachment: holds_open's last premise (the goal 'hc' behind k_head) from a wpAny of the law's body -/
theorem attach {l : OpenLaw} {n : Nat} {q : Program} {loose : List Str} {XP : (Str → Option Value) → Heap → Prop} {YP : World → Heap → Prop} {d : DefRec} {x : Str}
    (hn : l.most = some n) (hdf : d.params.defaults = [])
    (hbind : ∀ pm cd doc v : Value, bindArgs (docDef d.name d.params d.body d.scope pm cd doc) ⟨[v], []⟩ = pure [(x, v)])
    (hx : d.scope.names.lookup x = some .local ∨ d.scope.names.lookup x = some .cell)
    (hk : d.scope.kind = .function) (hco : d.scope.isCoroutine = false) (hgen : d.scope.isGenerator = false)
    (body : ∀ (w : World) (s₀ s₁ s : Shared) (mg mb : Str → Option Value) (fa : Addr) (o : Obj) (pm cd doc : Value) (a : Addr) (vs : List Value) (ns : List Int),
      Ground q loose [] XP w s₀ mg mb s₁.heap → YP w s₁.heap →
      s₁.heap.get? fa = some o → o.data = .func (docDef d.name d.params d.body d.scope pm cd doc) → s₁.heap.CodeRec cd d.name → mg d.name = some (.ref fa) →
      s₁.heap.get? a = some { cls := .type "list", data := .seq vs.toArray } → IntsAre vs ns → ns.length ≤ n →
      s.gens = #[] → s.os = s₁.os →
      Fr s₁.heap s₁.heap.objs.size s.heap (bindL (envOfC d.name d.scope s₁.heap.objs.size fa cd).kindOf [(x, .ref a)] fun _ => none) →
      Cl s₁.heap.objs.size (cellsFrom (s₁.heap.objs.size + 1) d.scope.names []) s.heap (bindC (envOfC d.name d.scope s₁.heap.objs.size fa cd).kindOf [(x, .ref a)] fun _ => none) →
      wpAny (model l.prog w) (callerA.deeper (envOfC d.name d.scope s₁.heap.objs.size fa cd)) (execs d.body (envOfC d.name d.scope s₁.heap.objs.size fa cd))
        (fun f s' => f = .ret (.bool true) ∧ OldK s₁.heap s'.heap ∧ s'.os = s₁.os ∧ AllBare s'.gens) (fun _ _ => False) s) :
    WalkO q loose XP YP l.row.toRowW d [] (fun f vs => PySem.call f vs) := by
  intro w s₀ s₁ mg mb G Y fa o pm cd doc dV kV ho hd hcd hD hmg hg args vals as hpre hlay hrd hwl hlo
  obtain rfl : dV = .none := Dflts.none hD hdf
  obtain rfl : kV = .none := Dflts.noKw hD
  obtain ⟨a, vs, ns, rfl, rfl, hobj, hints, hlen⟩ := script_of hn hpre hwl
  refine enter_call ?_
  refine call_cells_ret (o := o) (by rw [depth_caller]; decide) ho (fd_plain hd) G.T.nolimit hcd (hbind pm cd doc (.ref a)) (fun y hy => ?_) (fun h₁ tk F X => ?_) hco hgen hk
  · obtain rfl : y = (x, Value.ref a) := List.mem_singleton.mp hy
    rcases hx with e | e
    · exact .inl e
    · exact .inr ⟨e, cellsFrom_some _ _ _ (.inl e)⟩
  · refine wpAny_mono (body w s₀ s₁ { s₁ with heap := h₁, toks := tk } mg mb fa o pm cd doc a vs ns G Y ho (fd_plain hd) hcd hmg hobj hints hlen hg rfl F X) (fun f s' hq => ?_) (fun _ _ hq => hq)
    obtain ⟨rfl, h2, h3, h4⟩ := hq
    exact ⟨.inl ⟨.bool true, .bool true, [], rfl, fun _ => rfl, .bool true, post_true l _, fun _ => ⟨List.Pairwise.nil, fun _ hm => (nomatch hm)⟩⟩, h2, h3, h4⟩

/-- the same from a codeAny of the CALL (for a layer whose function contracts speak of calls) -/
theorem attach_call {l : OpenLaw} {n : Nat} {q : Program} {loose : List Str} {XP : (Str → Option Value) → Heap → Prop} {YP : World → Heap → Prop} {d : DefRec}
    (hn : l.most = some n) (hdf : d.params.defaults = [])
    (call : ∀ (w : World) (s₀ s₁ : Shared) (mg mb : Str → Option Value) (fa : Addr) (o : Obj) (pm cd doc : Value) (a : Addr) (vs : List Value) (ns : List Int),
      Ground q loose [] XP w s₀ mg mb s₁.heap → YP w s₁.heap →
      s₁.heap.get? fa = some o → o.data = .func (docDef d.name d.params d.body d.scope pm cd doc) → s₁.heap.CodeRec cd d.name → mg d.name = some (.ref fa) →
      s₁.heap.get? a = some { cls := .type "list", data := .seq vs.toArray } → IntsAre vs ns → ns.length ≤ n → s₁.gens = #[] →
      codeAny (model l.prog w) callerA (.call (.ref fa) ⟨[.ref a], []⟩) (fun r s' => r = .ok (.ret (.bool true)) ∧ OldK s₁.heap s'.heap ∧ s'.os = s₁.os ∧ AllBare s'.gens) s₁) :
    WalkO q loose XP YP l.row.toRowW d [] (fun f vs => PySem.call f vs) := by
  intro w s₀ s₁ mg mb G Y fa o pm cd doc dV kV ho hd hcd hD hmg hg args vals as hpre hlay hrd hwl hlo
  obtain rfl : dV = .none := Dflts.none hD hdf
  obtain rfl : kV = .none := Dflts.noKw hD
  obtain ⟨a, vs, ns, rfl, rfl, hobj, hints, hlen⟩ := script_of hn hpre hwl
  refine enter_call (codeAny_mono (call w s₀ s₁ mg mb fa o pm cd doc a vs ns G Y ho (fd_plain hd) hcd hmg hobj hints hlen hg) fun r s' hq => ?_)
  obtain ⟨rfl, h2, h3, h4⟩ := hq
  exact ⟨.inl ⟨.bool true, .bool true, [], rfl, fun _ => rfl, .bool true, post_true l _, fun _ => ⟨List.Pairwise.nil, fun _ hm => (nomatch hm)⟩⟩, h2, h3, h4⟩

/-- the same where the top left finished generators (o_head chose holds_openN): nothing may have changed at all and no generator may be left -/
theorem attachN {l : OpenLaw} {n : Nat} {q : Program} {loose : List Str} {XP : (Str → Option Value) → Heap → Prop} {YP : World → Heap → Prop} {d : DefRec} {x : Str}
    (hn : l.most = some n) (hdf : d.params.defaults = [])
    (hbind : ∀ pm cd doc v : Value, bindArgs (docDef d.name d.params d.body d.scope pm cd doc) ⟨[v], []⟩ = pure [(x, v)])
    (hx : d.scope.names.lookup x = some .local ∨ d.scope.names.lookup x = some .cell)
    (hk : d.scope.kind = .function) (hco : d.scope.isCoroutine = false) (hgen : d.scope.isGenerator = false)
    (body : ∀ (w : World) (s₀ s₁ s : Shared) (mg mb : Str → Option Value) (fa : Addr) (o : Obj) (pm cd doc : Value) (a : Addr) (vs : List Value) (ns : List Int),
      Ground q loose [] XP w s₀ mg mb s₁.heap → YP w s₁.heap →
      s₁.heap.get? fa = some o → o.data = .func (docDef d.name d.params d.body d.scope pm cd doc) → s₁.heap.CodeRec cd d.name → mg d.name = some (.ref fa) →
      s₁.heap.get? a = some { cls := .type "list", data := .seq vs.toArray } → IntsAre vs ns → ns.length ≤ n →
      s.gens = #[] → s.os = s₁.os →
      Fr s₁.heap s₁.heap.objs.size s.heap (bindL (envOfC d.name d.scope s₁.heap.objs.size fa cd).kindOf [(x, .ref a)] fun _ => none) →
      Cl s₁.heap.objs.size (cellsFrom (s₁.heap.objs.size + 1) d.scope.names []) s.heap (bindC (envOfC d.name d.scope s₁.heap.objs.size fa cd).kindOf [(x, .ref a)] fun _ => none) →
      wpAny (model l.prog w) (callerA.deeper (envOfC d.name d.scope s₁.heap.objs.size fa cd)) (execs d.body (envOfC d.name d.scope s₁.heap.objs.size fa cd))
        (fun f s' => f = .ret (.bool true) ∧ (∀ b o, s₁.heap.get? b = some o → s'.heap.get? b = some o) ∧ s'.os = s₁.os ∧ s'.gens = #[]) (fun _ _ => False) s) :
    WalkN q loose XP YP l.row.toRowW d [] (fun f vs => PySem.call f vs) := by
  intro w s₀ s₁ mg mb G Y fa o pm cd doc dV kV ho hd hcd hD hmg hg args vals as hpre hlay hrd hwl hlo
  obtain rfl : dV = .none := Dflts.none hD hdf
  obtain rfl : kV = .none := Dflts.noKw hD
  obtain ⟨a, vs, ns, rfl, rfl, hobj, hints, hlen⟩ := script_of hn hpre hwl
  refine enter_callW ?_
  refine call_cells_ret (o := o) (by rw [depth_caller]; decide) ho (fd_plain hd) G.T.nolimit hcd (hbind pm cd doc (.ref a)) (fun y hy => ?_) (fun h₁ tk F X => ?_) hco hgen hk
  · obtain rfl : y = (x, Value.ref a) := List.mem_singleton.mp hy
    rcases hx with e | e
    · exact .inl e
    · exact .inr ⟨e, cellsFrom_some _ _ _ (.inl e)⟩
  · refine wpAny_mono (body w s₀ s₁ { s₁ with heap := h₁, toks := tk } mg mb fa o pm cd doc a vs ns G Y ho (fd_plain hd) hcd hmg hobj hints hlen hg rfl F X) (fun f s' hq => ?_) (fun _ _ hq => hq)
    obtain ⟨rfl, h2, h3, h4⟩ := hq
    exact ⟨.inl ⟨.bool true, .bool true, [], rfl, fun _ => rfl, .bool true, post_true l _, fun _ => ⟨List.Pairwise.nil, fun _ hm => (nomatch hm)⟩⟩, h2, h3, h4⟩

/-! ### rules over ANY heap (no ledger) from facts about the written part K: the library's own take a ledger (News) for what they write -/
section
variable {prog : Program} {w : World} {A : Around} {E : Value → Shared → Prop} {s : Shared} {K : Frag}

/-- a def of the module, or a method (qual 'C.m'), entered: the frame is the next address; cells behind it -/
theorem call_fn {R : Result → Shared → Prop} {name qual : Str} {params : Arguments} {body : List Stmt} {scope : Scope} {dV kV doc pm cdv ct oc : Value} {an od : Option Addr} {osl : Array (Option Value)} {f : Addr} {args : Args} {binds : List (Str × Value)}
    (X : K.In s.heap) (hlim : s.heap.NoLimit) (ho : K.lookup f = some ⟨oc, od, .func (fnOf name qual params body scope dV kV doc pm an cdv ct), osl⟩) (hcd : codeIn K cdv qual = true) (hroom : A.depth < recursionLimit)
    (hbind : BindsTo s (fnOf name qual params body scope dV kV doc pm an cdv ct) args binds)
    (hkind : (binds.all fun y => scope.names.lookup y.1 == some .local || scope.names.lookup y.1 == some .cell) = true)
    (h : ∀ s₁, InCallC s s.heap.objs.size (bindL (envOfC qual scope s.heap.objs.size f cdv).kindOf binds fun _ => none) (cellsFrom (s.heap.objs.size + 1) scope.names [])
        (bindC (envOfC qual scope s.heap.objs.size f cdv).kindOf binds fun _ => none) s₁ →
      wpAny (model prog w) (A.deeper (envOfC qual scope s.heap.objs.size f cdv)) (execs body (envOfC qual scope s.heap.objs.size f cdv))
        (fun fl s' => R (.ok (.ret (match fl with | .ret v => v | _ => .none))) s')
        (fun e s' => wpAny (model prog w) (A.deeper (envOfC qual scope s.heap.objs.size f cdv)) (leaving (envOfC qual scope s.heap.objs.size f cdv) e) (fun _ s'' => R (.error e) s'') (fun e' s'' => R (.error e') s'') s') s₁)
    (hco : scope.isCoroutine = false) (hgen : scope.isGenerator = false) (hk : scope.kind = .function) : codeAny (model prog w) A (.call (.ref f) args) R s := by
  refine codeAny_call_function hroom (X _ _ ho) rfl hco hgen rfl (codeRec_of X hcd) (hbind _ _ _ _ ?_)
  refine wpAny_newFunctionEnv_cells hk (kindsX hkind _) fun env he s₁ x => ?_
  subst he
  exact ⟨hlim.keeps x.toInCall.keep, codeAny_func (h s₁ x)⟩

/-- C(..): dict at size, instance at size + 1, then __init__ -/
theorem make_obj {R : Result → Shared → Prop} {C fI : Addr} {rest : List Value} {kw : List (Str × Value)}
    (X : K.In s.heap) (hm : makesIn K C = true) (hi : findIn K (.ref C) "__init__" = some (some (.ref fI))) (hf : isFn K (.ref fI) = true)
    (h : codeAny (model prog w) (A.under (.builtin "type.__call__" ⟨.ref C :: rest, kw⟩)) (.call (.ref fI) ⟨.ref (s.heap.objs.size + 1) :: rest, kw⟩) (InitBack (s.heap.objs.size + 1) R)
      { s with heap := (s.heap.push emptyDict).push (instObj C s.heap.objs.size) }) : codeAny (model prog w) A (.call (.ref C) ⟨rest, kw⟩) R s := by
  obtain ⟨hh, g, d, t, os⟩ := s
  exact make_core (makes_of X hm) (looks_findIn X hi) (fun self => bind_fn X self (beq_iff_eq.mp hf)) (.inl rfl) h

/-- x.name where the instance's dict holds the name and the class does not -/
theorem get_field {x C : Addr} {ox : Obj} {es : List DictEntry} {n : Nat} {name : Str} {expr : Bool} {v : Value} {Q : Value → Shared → Prop}
    (X : K.In s.heap) (I : PySem.W.InstAt s.heap x ox C (some (dictOf es n))) (hg : plainGet K C name = true) (hh : hasDictIn K C = true) (ha : findIn K (.ref C) name = some none)
    (hl : getL name es = some (some v)) (hv : handedIn v = true) (h : Q v { s with toks := s.toks + 1 }) : wpAny (model prog w) A (getAttr (.ref x) name expr) Q E s :=
  get_value X I (plainGet_of hg).1 (findObj_own hh ha rfl hl) hv h

/-- x.m(..): the method found in the class -/
theorem get_method {x C f : Addr} {ox : Obj} {es : List DictEntry} {n : Nat} {name : Str} {pl : Sem Bool} {Q : Value × List Value → Shared → Prop}
    (X : K.In s.heap) (I : PySem.W.InstAt s.heap x ox C (some (dictOf es n))) (hg : plainGet K C name = true) (hf : findIn K (.ref C) name = some (some (.ref f))) (ht : isFn K (.ref f) = true)
    (hl : getL name es = some none) (h : Q (.ref f, [.ref x]) s) : wpAny (model prog w) A (getMethod (.ref x) name pl) Q E s :=
  method_fn X I (plainGet_of hg).1 (plainGet_of hg).2 hf (beq_iff_eq.mp ht) (by show (lookIn name (dictOf es n)).map _ = _; rw [lookIn_dict, hl]; rfl) h

/-! the whole heap as the ledger: makes every rule that writes through a ledger a rule over any heap -/
def noObjs (h : Heap) : Heap := { h with objs := #[] }
theorem noObjs_get (h : Heap) (b : Addr) : (noObjs h).get? b = none := by
  cases e : (noObjs h).get? b with
  | none => rfl
  | some o => exact absurd (Heap.lt_size e) (Nat.not_lt_zero _)
def ledger (h : Heap) (L d : Addr) : List (Addr × Obj) := (List.range h.objs.size).filterMap fun a => if a = L ∨ a = d then none else (h.get? a).map fun o => (a, o)
theorem mem_ledger {h : Heap} {L d a : Addr} {o : Obj} : (a, o) ∈ ledger h L d ↔ a ≠ L ∧ a ≠ d ∧ h.get? a = some o := by
  unfold ledger
  rw [List.mem_filterMap]
  constructor
  · rintro ⟨b, _, e⟩
    split at e
    · cases e
    · rename_i hb
      obtain ⟨o', ho, e'⟩ := Option.map_eq_some_iff.mp e
      cases e'
      exact ⟨fun q => hb (.inl q), fun q => hb (.inr q), ho⟩
  · rintro ⟨n1, n2, ho⟩
    refine ⟨a, List.mem_range.mpr (Heap.lt_size ho), ?_⟩
    rw [if_neg (show ¬ (a = L ∨ a = d) from fun q => q.elim n1 n2), ho] <;> rfl
theorem news_ledger {h : Heap} {L d : Addr} {od : Obj} (hne : d ≠ L) (ho : h.get? d = some od) : News (noObjs h) L h ([] ++ (d, od) :: ledger h L d) := by
  rintro ⟨a, o⟩ hp
  rcases List.mem_cons.mp hp with e | hp
  · cases e
    exact ⟨ho, hne, noObjs_get _ _⟩
  · obtain ⟨n1, n2, e⟩ := mem_ledger.mp hp
    exact ⟨e, n1, noObjs_get _ _⟩
theorem fr_all {h : Heap} {L : Addr} {m : Str → Option Value} (n : h.Ns L m) : Fr (noObjs h) L h m :=
  ⟨n, fun b o e => (by rw [noObjs_get] at e; cases e), Nat.zero_le _⟩
/-- Upd of the head entry (for append_K, setItem_K ..) -/
theorem upd_ledger {h : Heap} {L d : Addr} {o o' : Obj} : Upd d o o' ((d, o) :: ledger h L d) ((d, o') :: ledger h L d) :=
  .head fun ⟨_, _⟩ hp => (mem_ledger.mp hp).2.1

/-- x.name = v over any heap: L is any namespace of the heap (the frame's, say): its map stays, its object is not told; all else but the dict stays -/
theorem set_field {x C dx L : Addr} {ox : Obj} {m : Str → Option Value} {es es' : List DictEntry} {n n' : Nat} {name : Str} {v : Value} {Q : Unit → Shared → Prop}
    (X : K.In s.heap) (I : PySem.W.InstAt s.heap x ox C (some (dictOf es n))) (hd : ox.dict = some dx) (hL : s.heap.Ns L m) (hne : dx ≠ L)
    (hs : findIn K (.ref C) "__setattr__" = some (some (.builtin "object.__setattr__"))) (hp : plainOver K C = true) (ht : takerIn K C name = some none) (hh : hasDictIn K C = true) (hl : (getL name es).isSome = true)
    (e : (putL name (PyData.keyHash w.params name) (.str name (s.toks + 1)) v es, putN name es n) = (es', n')) (hz : es'.length ≤ 1000)
    (h : ∀ h' : Heap, h'.Ns L m → h'.get? dx = some (dictOf es' n') → (∀ b o, b ≠ dx → b ≠ L → s.heap.get? b = some o → h'.get? b = some o) → Q () { s with heap := h', toks := s.toks + 2 }) :
    wpAny (model prog w) A (setAttr (.ref x) name v) Q E s := by
  obtain ⟨e1, e2⟩ := Prod.mk.inj e
  have hdx : s.heap.get? dx = some (dictOf es n) := by
    have := I.dict
    rw [hd] at this
    exact this
  refine set_plain X I hs (osa_dict (s := { s with toks := s.toks + 1 }) (h₀ := noObjs s.heap) (L := L) (m := m) (od := dictOf es n) (od' := dictOf es' n') (es := es') (n := n') (pre := []) (post := ledger s.heap L dx)
    (fr_all hL) (news_ledger hne hdx) X I hd hp ht hh hl (fun _ q => nomatch q) (fun ⟨_, _⟩ q => (mem_ledger.mp q).2.1) (by rw [putName_dict, e1, e2]) rfl hz fun h' F' N' => ?_)
  exact h h' F'.ns (N'.get (List.Mem.head _)) fun b o n1 n2 ho => N'.get (List.Mem.tail _ (mem_ledger.mpr ⟨n2, n1, ho⟩))
end
end Att

namespace L2
open PySem PySem.Spec PyProof.Rows

theorem vals_ints : ∀ {vs : List Value} {ns : List Int}, IntsAre vs ns → Vals (ns.map V.int) vs
  | _, _, .nil => .nil
  | _, _, .cons n t h => .cons ⟨t, rfl⟩ (vals_ints h)

/-- nothing is tracked but the script, known to the object (or it is an object of the module) -/
def Only (H : Hp) : Prop := ∀ b, H b = none ∨ ∃ o xs, H b = some (.frz o (.lst xs))

/-- THE HEAD: the law's promise, at the heap behind the top. F, the promise of the law's def, may use that base is part of the heap (so K.In base, base.Ns mainGlobals mg stand in Mod) -/
theorem law_call {P : Program} {w : World} {K : PySem.W.Frag} {mg mb : Str → Option Value} {CX : CXT} {k : Nat} {fa a : Addr} {fd : FuncData} {x : Str} {sp : Sp} {s₁ : Shared} {vs : List Value} {ns : List Int}
    (KX : K.In s₁.heap) (hns : s₁.heap.Ns mainGlobals mg) (hb : s₁.heap.Ns builtinsNs mb) (hbb : ∀ x : Str, x ≠ "__name__" → mb x = bootBuiltins x) (hlim : s₁.heap.NoLimit) (hg : s₁.gens = #[])
    (ha : s₁.heap.get? a = some { cls := .type "list", data := .seq vs.toArray }) (hi : IntsAre vs ns) (hl : ns.length ≤ sizeLine) (hr : Room k callerA)
    (F : ∀ base : Heap, K.In base → base.Ns mainGlobals mg → FnOk P w K mg base CX k fa fd [x] sp) (hbind : ∀ (s : Shared) (u : Value), BindsTo s fd ⟨[u], []⟩ [(x, u)])
    (hsp : ∀ H : Hp, Only H → SqL K H a (ns.map V.int) → sp [.ref a] H (fun v _ => v = .bl true) fun _ _ _ => False)
    (hCX : ∀ H e s', CX [] H s₁ (fun _ _ _ => False) e s' → False) :
    codeAny (model P w) callerA (.call (.ref fa) ⟨[.ref a], []⟩) (fun r s' => r = .ok (.ret (.bool true)) ∧ OldK s₁.heap s'.heap ∧ s'.os = s₁.os ∧ AllBare s'.gens) s₁ := by
  have rv := vals_ints hi
  have lenV := hi.length
  -- from an abstract heap in which nothing but the script may be tracked
  have core : ∀ H : Hp, Only H → SqL K H a (ns.map V.int) → HOk P w H s₁.heap → (∀ b, H b ≠ none → b = a) → (H a ≠ none → K.lookup a = none) →
      codeAny (model P w) callerA (.call (.ref fa) ⟨[.ref a], []⟩) (fun r s' => r = .ok (.ret (.bool true)) ∧ OldK s₁.heap s'.heap ∧ s'.os = s₁.os ∧ AllBare s'.gens) s₁ := by
    intro H hO hS hok hA hK
    have base_of : ∀ {b : Addr} {o : Obj}, s₁.heap.get? b = some o → H b = none → (hidT s₁.heap H).get? b = some o := fun e n => hidT_get e n
    have noA : ∀ {b : Addr} {o : Obj} {es : Array DictEntry} {ep : Nat}, s₁.heap.get? b = some o → o.data = .dict es ep → H b = none := fun {b o es ep} e d => by
      cases q : H b with
      | none => rfl
      | some u =>
        have e' : b = a := hA b (by rw [q]; simp)
        subst e'
        rw [ha] at e; cases e
        have d' : Data.seq vs.toArray _ = Data.dict es ep := d
        cases d'
    have nsK : ∀ {b : Addr} {m : Str → Option Value}, s₁.heap.Ns b m → (hidT s₁.heap H).Ns b m := fun {b m} ⟨o, es, ep, e, d, r⟩ => ⟨o, es, ep, base_of e (noA e d), d, r⟩
    have hKb : K.In (hidT s₁.heap H) := fun b o e => base_of (KX b o e) (by
      cases q : H b with
      | none => rfl
      | some u =>
        have e' : b = a := hA b (by rw [q]; simp)
        subst e'
        rw [hK (by rw [q]; simp)] at e; cases e)
    have hM : Mod K mg (hidT s₁.heap H) := ⟨hKb, nsK hns, ⟨mb, nsK hb, hbb⟩, let ⟨mc, h1, h2⟩ := hlim; ⟨mc, nsK h1, h2⟩⟩
    have e0 : Env0 P w K mg (hidT s₁.heap H) callerA [] s₁ H := ⟨rfl, hM, fun b o e => of_hidT e, Nat.le_of_eq (hidT_size _ _), trivial, fun b hb => absurd (show b ∈ ([] : List Addr) from hb) (by simp), hok, .of_eq hg⟩
    refine codeAny_mono ((F _ hKb (nsK hns)).run callerA [] s₁ H ⟨[.ref a], []⟩ [.ref a] [.ref a] _ _ hr e0 (hbind s₁ (.ref a)) (.cons rfl .nil) (hsp H hO hS)) fun r s' h => ?_
    cases r with
    | error e => exact (hCX H e s' h).elim
    | ok fl =>
      cases fl with
      | next => exact False.elim h
      | brk => exact False.elim h
      | cont => exact False.elim h
      | ret u =>
        obtain ⟨v, H', os, bare, un, hok', r', q⟩ := h
        have q' : v = .bl true := q
        subst q'
        obtain rfl : u = Value.bool true := r'
        refine ⟨rfl, OldK.of_keep fun b o e => ?_, os, bare⟩
        cases q : H b with
        | none => exact un.keep b o e q (by intro z; exact absurd (show b ∈ ([] : List Addr) from z) (by simp)) (by simp)
        | some u =>
          rcases hO b with z | ⟨ob, xs, z⟩
          · rw [q] at z; cases z
          · have z2 := un.frzs b ob _ z
            obtain ⟨e1, _⟩ := hok b _ z
            obtain ⟨e2, _⟩ := hok' b _ z2
            rw [e] at e1; cases e1
            exact e2
  cases hk : K.lookup a with
  | some o =>
    -- the script is one of the module's own objects
    have e := KX a o hk
    rw [ha] at e
    cases e
    refine core (fun _ => none) (fun _ => .inl rfl) (.inr ⟨_, vs.toArray, _, hk, rfl, rfl, rfl, by rw [List.size_toArray, lenV]; exact hl, by simpa using rv⟩) (fun b u z => by have z' : (none : Option HO) = some u := z; cases z') (fun b z => absurd rfl z) fun z => absurd rfl z
  | none =>
    refine core (fun b => if b = a then some (.frz { cls := .type "list", data := .seq vs.toArray } (.lst (ns.map V.int))) else none) (fun b => ?_) (.inl (.inr ⟨{ cls := .type "list", data := .seq vs.toArray }, if_pos rfl⟩)) (fun b u z => ?_) (fun b z => ?_) fun _ => hk
    · by_cases hb : b = a
      · exact .inr ⟨_, _, if_pos hb⟩
      · exact .inl (if_neg hb)
    · by_cases hb : b = a
      · have z' := (if_pos hb).symm.trans z
        cases z'
        subst hb
        exact ⟨ha, by rw [List.length_map]; exact hl, vs, _, rv, ha⟩
      · have z' := (if_neg hb).symm.trans z
        cases z'
    · by_cases hb : b = a
      · exact hb
      · exact absurd (if_neg hb) z
end L2

namespace L2
open PySem PySem.Spec PyProof.Rows

abbrev KOf {K : PySem.W.Frag} {h : Heap} (_ : K.In h) : PySem.W.Frag := K

/-- the goal that k_head leaves (case hc), from the law's promise. F gives the function object fd (K's own) once, then the promise over every base -/
theorem walk_of {l : PySem.W.OpenLaw} {n k : Nat} {q : Program} {loose : List Str} {XP : (Str → Option Value) → Heap → Prop} {YP : World → Heap → Prop} {d : DefRec} {K : Params → PySem.W.Frag} {CX : World → CXT} {sp : World → Sp} {x : Str}
    (hn : l.most = some n) (hn2 : n ≤ sizeLine) (hdf : d.params.defaults = []) (hr : Room k callerA)
    (hY : ∀ (w : World) (h : Heap), YP w h → (K w.params).In h)
    (F : ∀ (w : World) (mg : Str → Option Value) (fa : Addr) (h : Heap), (K w.params).In h → h.Ns mainGlobals mg → mg d.name = some (.ref fa) →
      ∃ fd : FuncData, (∀ (s : Shared) (u : Value), BindsTo s fd ⟨[u], []⟩ [(x, u)]) ∧
        ∀ base : Heap, (K w.params).In base → base.Ns mainGlobals mg → FnOk l.prog w (K w.params) mg base (CX w) k fa fd [x] (sp w))
    (hsp : ∀ (w : World) (H : Hp) (a : Addr) (ns : List Int), ns.length ≤ n → Only H → SqL (K w.params) H a (ns.map V.int) → sp w [.ref a] H (fun v _ => v = .bl true) fun _ _ _ => False)
    (hCX : ∀ (w : World) (H : Hp) (s : Shared) (e : Value) (s' : Shared), CX w [] H s (fun _ _ _ => False) e s' → False) :
    PySem.W.WalkO q loose XP YP l.row.toRowW d [] (fun f vs => PySem.call f vs) := by
  refine Att.attach_call hn hdf fun w s₀ s₁ mg mb fa o pm cd doc a vs ns G Y ho hd hcd hmg hobj hints hlen hg => ?_
  have KX := hY w _ Y
  obtain ⟨fd, hb, hF⟩ := F w mg fa _ KX G.T.g hmg
  exact law_call KX G.T.g G.T.b G.T.builtins G.T.nolimit hg hobj hints (Nat.le_trans hlen hn2) hr hF hb (fun H hO hS => hsp w H a ns hlen hO hS) fun H e s' => hCX w H s₁ e s'
/-- the same where the promise hangs on the written part alone: (sp := My.sp_law), no hole under a binder -/
theorem walk_ofK {l : PySem.W.OpenLaw} {n k : Nat} {q : Program} {loose : List Str} {XP : (Str → Option Value) → Heap → Prop} {YP : World → Heap → Prop} {d : DefRec} {K : Params → PySem.W.Frag} {CX : CXT} {sp : PySem.W.Frag → Sp} {x : Str}
    (hn : l.most = some n) (hn2 : n ≤ sizeLine) (hdf : d.params.defaults = []) (hr : Room k callerA)
    (hY : ∀ (w : World) (h : Heap), YP w h → (K w.params).In h)
    (F : ∀ (w : World) (mg : Str → Option Value) (fa : Addr) (h : Heap), (K w.params).In h → h.Ns mainGlobals mg → mg d.name = some (.ref fa) →
      ∃ fd : FuncData, (∀ (s : Shared) (u : Value), BindsTo s fd ⟨[u], []⟩ [(x, u)]) ∧
        ∀ base : Heap, (K w.params).In base → base.Ns mainGlobals mg → FnOk l.prog w (K w.params) mg base CX k fa fd [x] (sp (K w.params)))
    (hsp : ∀ (K : PySem.W.Frag) (H : Hp) (a : Addr) (ns : List Int), ns.length ≤ n → Only H → SqL K H a (ns.map V.int) → sp K [.ref a] H (fun v _ => v = .bl true) fun _ _ _ => False)
    (hCX : ∀ (H : Hp) (s : Shared) (e : Value) (s' : Shared), CX [] H s (fun _ _ _ => False) e s' → False) :
    PySem.W.WalkO q loose XP YP l.row.toRowW d [] (fun f vs => PySem.call f vs) :=
  walk_of (K := K) (CX := fun _ => CX) (sp := fun w => sp (K w.params)) hn hn2 hdf hr hY F (fun w H a ns h1 h2 h3 => hsp (K w.params) H a ns h1 h2 h3) fun _ H s e s' => hCX H s e s'
end L2

/- THE LAST THEOREM (shape; LID, My.* are yours):
   My.Adr: a structure of the addresses that your layer names (classes, functions); My.Txt K t: a structure (Prop) of the equations over K;
   My.txt_mk : {K} {implicit addresses ..} (e1 : nsIn K mainGlobals "law" = some (some (.ref f))) (e2 : K.lookup f = some ⟨oc, od, .func (fnOf "law" "law" params body scope dV kV doc pm an cdv ct), sl⟩) (e3 : codeIn K cdv "law" = true) .. : ∃ t, My.Txt K t

set_option maxRecDepth 100000 in
set_option maxHeartbeats 0 in
theorem PySem.Challenge.cw_LID_holds : PySem.Challenge.rw_LID.Holds := by
  w_on; o_law; k_head; (case hw => w_witness2)
  k_fill
  refine L2.walk_of (l := PySem.Challenge.rw_LID) (n := 63) (k := 40) (x := "script") (CX := fun w => ..) (sp := fun _ => My.sp_law) rfl (by decide) rfl ⟨rfl, by decide, by decide⟩ (fun w h Y => PySem.W.kIn_of Y) ?F ?S ?C
  case F =>
    intro w mg fa h KX G hmg
    have T : ∃ t, My.Txt (L2.KOf KX) t := by
      dsimp only [L2.KOf]                          -- K must stand as «<heap const> w.params» for k_is
      refine' My.txt_mk ?e1 ?e2 ?e3 ..
      (case e1 => PySem.W.k_is)                    -- in the order: a name -> its address -> its object -> its parts
      (case e2 => PySem.W.k_is)
      ..
    obtain ⟨t, T⟩ := T
    have e0 := hmg.symm.trans (PySem.W.mg_of KX G T.law)
    cases e0                                       -- fa is the law's own address
    exact ⟨_, fun s u => .of_eq rfl, fun base kb nb => My.law_fn T kb nb⟩     -- if «.of_eq rfl» comes too early: refine' ⟨_, ?b, fun base kb nb => My.law_fn T kb nb⟩; exact fun s u => .of_eq rfl
  case S => exact fun w H a ns hl hO hS => ..
  case C => exact ..
(the tactic k_is has no namespace: write k_is) -/

/-! SHORT WORDS over the layer: a def of the text, its body, what a loop and a test want. -/
namespace L2
open PySem PySem.Spec PyProof.Rows

/-! ### the text by places -/
/-- the j-th statement of a class's body -/
def inClass (s : Stmt) (j : Nat) : Stmt := match s with
  | .ClassDef _ _ _ body _ _ _ _ _ _ _ => body.getD j (.Pass ⟨0, 0, 0, 0⟩)
  | _ => .Pass ⟨0, 0, 0, 0⟩
def defArgs (s : Stmt) : Arguments := match s with
  | .FunctionDef _ a _ _ _ _ _ _ _ _ => a
  | _ => { posonlyargs := [], args := [], vararg := none, kwonlyargs := [], kw_defaults := [], kwarg := none, defaults := [] }
def defBody (s : Stmt) : List Stmt := match s with
  | .FunctionDef _ _ b _ _ _ _ _ _ _ => b
  | _ => []
def defScope (s : Stmt) : Scope := match s with
  | .FunctionDef _ _ _ _ _ _ sc _ _ _ => sc
  | _ => { kind := .function, names := [], isGenerator := false, isCoroutine := false }

/-! ### no exception leaves a def -/
abbrev CX0 : CXT := fun _ _ _ _ _ _ => False
abbrev E0 : XK := fun _ _ _ => False
theorem pass0 {X : Cx} : Passes CX0 X E0 := fun _ _ _ _ _ _ _ h => h.elim

/-! ### a def (or method) of the text as it stands behind the top -/
structure Fun (K : PySem.W.Frag) (x qual : Str) (st : Stmt) (f : Addr) (fd : FuncData) : Prop where
  ex : ∃ (oc : Value) (od : Option Addr) (kV doc pm : Value) (an : Option Addr) (cdv ct : Value) (osl : Array (Option Value)),
    fd = PySem.W.fnOf x qual (defArgs st) (defBody st) (defScope st) .none kV doc pm an cdv ct ∧ K.lookup f = some ⟨oc, od, .func fd, osl⟩ ∧ PySem.W.codeIn K cdv qual = true
  kp : PySem.W.keepIn K (.ref f) = true
section
variable {P : Program} {w : World} {K : PySem.W.Frag} {mg : Str → Option Value} {base : Heap}
/-- THE RULE for a def: its body as a term of rules, and the reading of that term -/
theorem Fun.ok {x qual : Str} {st : Stmt} {f : Addr} {fd : FuncData} {N ps : List Str} {k : Nat} {sp : Sp} (F : Fun K x qual st f fd) (S : FnScope N ps (defScope st)) (len : ∀ vs H Q E, sp vs H Q E → vs.length = ps.length)
    (hbody : ∀ (cdv : Value) (A : Around) (outer : List Env) (s : Shared) (H : Hp) (vs : List V) (Q : VK) (E : XK), Room k (A.deeper (envOfC qual (defScope st) s.heap.objs.size f cdv)) → sp vs H Q E →
      ∃ t, PSs (cxOf CX0 P w K mg base N qual (defScope st) f cdv A outer s H E).nox (defBody st) t ∧ t { nx := fun _ H' => Q .non H', rt := Q } (start N vs) H) : FnOk P w K mg base CX0 (k + 1) f fd ps sp := by
  obtain ⟨oc, od, kV, doc, pm, an, cdv, ct, osl, rfl, lk, hcd⟩ := F.ex
  refine fn_of lk hcd S len fun A outer s H vs Q E hr hsp => ?_
  obtain ⟨t, h, q⟩ := hbody cdv A outer s H vs Q E hr hsp
  exact ⟨t, h.nox, q⟩
/-- how its arguments bind (no defaults): h is «fun _ _ _ _ _ _ us hl => match us, hl with | [_, _], _ => rfl», one _ a parameter -/
theorem Fun.binds {x qual : Str} {st : Stmt} {f : Addr} {fd : FuncData} {ps : List Str} (F : Fun K x qual st f fd)
    (h : ∀ (kV doc pm : Value) (an : Option Addr) (cdv ct : Value) (us : List Value), us.length = ps.length → bindArgs (PySem.W.fnOf x qual (defArgs st) (defBody st) (defScope st) .none kV doc pm an cdv ct) ⟨us, []⟩ = pure (ps.zip us)) : Binds K fd ps [] := by
  obtain ⟨oc, od, kV, doc, pm, an, cdv, ct, osl, rfl, lk, hcd⟩ := F.ex
  exact .all (h kV doc pm an cdv ct)
theorem fun_mk {x qual : Str} {st : Stmt} {f : Addr} {oc : Value} {od an : Option Addr} {osl : Array (Option Value)} {kV doc pm cdv ct : Value} (l : K.lookup f = some ⟨oc, od, .func (PySem.W.fnOf x qual (defArgs st) (defBody st) (defScope st) .none kV doc pm an cdv ct), osl⟩)
    (c : PySem.W.codeIn K cdv qual = true) (k : PySem.W.keepIn K (.ref f) = true) : Fun K x qual st f (PySem.W.fnOf x qual (defArgs st) (defBody st) (defScope st) .none kV doc pm an cdv ct) := ⟨⟨oc, od, kV, doc, pm, an, cdv, ct, osl, rfl, l, c⟩, k⟩
end
theorem hu_of {A : Around} {k : Nat} (hr : Room k A) : A.units + 1 < cLine := Nat.lt_of_le_of_lt (Nat.add_le_add_left (by decide : 1 ≤ 64) _) hr.units
theorem small1000 {n : Nat} (h : n ≤ 1000) : n < sizeLine := Nat.lt_of_le_of_lt h (by decide)

/-! ### expressions in short: the name that stands in the i-th slot -/
section
variable {X : Cx}
theorem pv (i : Nat) {x : Str} {pos : Pos} (hN : X.N[i]? = some x := by rfl) (hv : Vis X.env.scope x := by first | exact Or.inl rfl | exact Or.inr (Or.inl rfl) | exact Or.inr (Or.inr rfl)) (hd : (x == ("__debug__" : Str)) = false := by decide)
    (hcd : (x == ("__classdict__" : Str)) = false := by decide) : PE X (.Name x pos) (tVar i) := pe_var hN hv hd hcd
/-- len of a dict -/
theorem call_lenD : CallR X (.builtin "len") (fun xs H Q => ∃ a kvs, xs = [V.ref a] ∧ H a = some (.dK kvs) ∧ Q (.int kvs.length) H) := by
  intro pins s σ H xs us Q I r h
  obtain ⟨a, kvs, rfl, ha, q⟩ := h
  obtain ⟨u, rfl, ru⟩ := vals1 r
  cases ru
  exact d_len I (.inl ha) fun t s' I' => ⟨.int kvs.length, H, I', ⟨t, rfl⟩, q⟩
end

/-! ### tests -/
theorem iteF {A B : Prop} (h : B) : if false = true then A else B := by
  rw [if_neg Bool.false_ne_true]
  exact h
theorem iteT {A B : Prop} (h : A) : if true = true then A else B := by
  rw [if_pos rfl]
  exact h
theorem ite2 {c A B : Prop} [Decidable c] (h1 : c → A) (h2 : ¬ c → B) : if c then A else B := by
  by_cases h : c
  · rw [if_pos h]
    exact h1 h
  · rw [if_neg h]
    exact h2 h
theorem iteNS {c A B : Prop} [Decidable c] (hc : c) (h : B) : if (!decide c) = true then A else B := by
  rw [decide_eq_true hc]
  exact iteF h

/-! ### heaps -/
/-- all that was tracked is as it was -/
def Same (H H' : Hp) : Prop := ∀ b o, H b = some o → H' b = some o
theorem Same.refl (H : Hp) : Same H H := fun _ _ h => h
theorem Same.trans {H H1 H2 : Hp} (a : Same H H1) (b : Same H1 H2) : Same H H2 := fun c o h => b c o (a c o h)
theorem Same.free {H H' : Hp} (e : Same H H') {l : Addr} (h : H' l = Option.none) : H l = Option.none := by
  cases q : H l with
  | none => rfl
  | some o =>
    rw [e l o q] at h
    cases h
theorem Same.seq {K : PySem.W.Frag} {H H' : Hp} {a : Addr} {xs : List V} (e : Same H H') (h : SqL K H a xs) : SqL K H' a xs := by
  rcases h with (h | ⟨o, h⟩) | h
  · exact .inl (.inl (e _ _ h))
  · exact .inl (.inr ⟨o, e _ _ h⟩)
  · exact .inr h

/-! ### a dict's pairs: keys that differ -/
section
variable {κ : Type} [DecidableEq κ]
theorem valV_not {kvs : List (κ × V)} {k : κ} (h : valV kvs k = none) : ¬ k ∈ kvs.map (·.1) := by
  intro m
  obtain ⟨p, hp, e⟩ := List.mem_map.mp m
  have q : (kvs.any fun kv => decide (kv.1 = k)) = true := List.any_eq_true.mpr ⟨p, hp, decide_eq_true e⟩
  rw [valV_any, h] at q
  exact absurd q (by simp)
theorem valV_in {kvs : List (κ × V)} {k : κ} {v : V} (h : valV kvs k = some v) : k ∈ kvs.map (·.1) := by
  have q : (kvs.any fun kv => decide (kv.1 = k)) = true := by
    rw [valV_any, h]
    all_goals rfl
  obtain ⟨p, hp, e⟩ := List.any_eq_true.mp q
  exact List.mem_map.mpr ⟨p, hp, of_decide_eq_true e⟩
theorem nd_snoc : ∀ {l : List κ} {k : κ}, l.Nodup → ¬ k ∈ l → (l ++ [k]).Nodup
  | [], k, _, _ => by simp
  | a :: r, k, h, hk => by
    obtain ⟨h1, h2⟩ := List.nodup_cons.mp h
    show (a :: (r ++ [k])).Nodup
    refine List.nodup_cons.mpr ⟨fun m => ?_, nd_snoc h2 fun m => hk (List.mem_cons.mpr (Or.inr m))⟩
    rcases List.mem_append.mp m with q | q
    · exact h1 q
    · exact hk (List.mem_cons.mpr (Or.inl (List.mem_singleton.mp q).symm))
theorem nd_putK {kvs : List (κ × V)} {k : κ} (v : V) (hn : (kvs.map (·.1)).Nodup) (h : valV kvs k = none) : ((putK kvs k v).map (·.1)).Nodup := by
  rw [putK_new v h, List.map_append]
  exact nd_snoc hn (valV_not h)
theorem dropK_pos {p : κ × V} {r : List (κ × V)} {k : κ} (e : p.1 = k) : dropK (p :: r) k = dropK r k := by
  unfold dropK
  rw [List.filter_cons, if_neg (by simp [e])]
theorem dropK_neg {p : κ × V} {r : List (κ × V)} {k : κ} (e : ¬ p.1 = k) : dropK (p :: r) k = p :: dropK r k := by
  unfold dropK
  rw [List.filter_cons, if_pos (by simp [e])]
theorem dropK_no : ∀ {kvs : List (κ × V)} {k : κ}, ¬ k ∈ kvs.map (·.1) → dropK kvs k = kvs
  | [], _, _ => rfl
  | p :: r, k, h => by
    have h' : ¬ k ∈ r.map (·.1) := fun m => by
      obtain ⟨q, hq, e⟩ := List.mem_map.mp m
      exact h (List.mem_map.mpr ⟨q, List.mem_cons.mpr (Or.inr hq), e⟩)
    rw [dropK_neg fun e => h (List.mem_map.mpr ⟨p, List.mem_cons.mpr (Or.inl rfl), e⟩), dropK_no h']
theorem dropK_mem {kvs : List (κ × V)} {k : κ} {p : κ × V} (h : p ∈ dropK kvs k) : p ∈ kvs := (List.mem_filter.mp h).1
theorem nd_dropK : ∀ {kvs : List (κ × V)} {k : κ}, (kvs.map (·.1)).Nodup → ((dropK kvs k).map (·.1)).Nodup
  | [], _, _ => List.nodup_nil
  | p :: r, k, h => by
    have h : (p.1 :: r.map (·.1)).Nodup := h
    obtain ⟨h1, h2⟩ := List.nodup_cons.mp h
    by_cases e : p.1 = k
    · rw [dropK_pos e]
      exact nd_dropK h2
    · rw [dropK_neg e]
      show (p.1 :: (dropK r k).map (·.1)).Nodup
      refine List.nodup_cons.mpr ⟨fun m => h1 ?_, nd_dropK h2⟩
      obtain ⟨q, hq, eq⟩ := List.mem_map.mp m
      exact List.mem_map.mpr ⟨q, dropK_mem hq, eq⟩
theorem dropK_len : ∀ {kvs : List (κ × V)} {k : κ}, (kvs.map (·.1)).Nodup → k ∈ kvs.map (·.1) → (dropK kvs k).length + 1 = kvs.length
  | [], _, _, m => by simp at m
  | p :: r, k, h, m => by
    have h : (p.1 :: r.map (·.1)).Nodup := h
    have m : k = p.1 ∨ k ∈ r.map (·.1) := List.mem_cons.mp m
    obtain ⟨h1, h2⟩ := List.nodup_cons.mp h
    by_cases e : p.1 = k
    · subst e
      rw [dropK_pos rfl, dropK_no h1]
      all_goals rfl
    · have m' : k ∈ r.map (·.1) := m.resolve_left fun z => e z.symm
      have q := dropK_len h2 m'
      rw [dropK_neg e, List.length_cons, List.length_cons]
      omega
end

end L2
end

section
set_option Elab.async false
set_option linter.all false
set_option maxRecDepth 100000
namespace L2
open PySem PySem.Spec PyProof.Rows

/-! ### a comprehension of one clause -/
/-- the closure of a comprehension's block -/
def closOf (cells : List (Str × Addr)) : List (Str × NameKind) → List (Str × Addr) → List (Str × Addr)
  | [], cs => cs
  | (n, k) :: r, cs => if (k == NameKind.free) = true then (match cells.lookup n with | some a => closOf cells r ((n, a) :: cs) | none => closOf cells r cs) else closOf cells r cs
theorem clos_go {env : Env} : ∀ (names : List (Str × NameKind)) (cs : List (Str × Addr)), (∀ x ∈ names, x.2 = .free → ∃ a, env.cells.lookup x.1 = some a) →
    (forIn names cs fun (x : Str × NameKind) (r : List (Str × Addr)) => (if (x.2 == NameKind.free) = true then (do let a ← cellOf env x.1; pure (ForInStep.yield ((x.1, a) :: r))) else pure (ForInStep.yield r) : Sem (ForInStep (List (Str × Addr))))) = (pure (closOf env.cells names cs) : Sem (List (Str × Addr)))
  | [], cs, _ => rfl
  | (n, k) :: r, cs, h => by
    rw [List.forIn_cons]
    by_cases hk : (k == NameKind.free) = true
    · obtain ⟨a, ha⟩ := h (n, k) List.mem_cons_self (by simpa using hk)
      have ha : env.cells.lookup n = some a := ha
      have hcell : cellOf env n = pure a := by unfold cellOf; rw [ha]
      simp only [hk, if_true]
      rw [hcell]
      show (forIn r ((n, a) :: cs) _ : Sem _) = _
      rw [clos_go r _ fun x hx => h x (List.mem_cons_of_mem _ hx)]
      simp only [closOf, hk, if_true, ha]
    · simp only [hk, if_false]
      show (forIn r cs _ : Sem _) = _
      rw [clos_go r _ fun x hx => h x (List.mem_cons_of_mem _ hx)]
      simp only [closOf, hk, if_false]
      rfl
theorem closureFor_cells {scope : Scope} {env : Env} (h : ∀ x ∈ scope.names, x.2 = .free → ∃ a, env.cells.lookup x.1 = some a) : closureFor scope env = pure (closOf env.cells scope.names []) := by
  have e := clos_go (env := env) scope.names [] h
  unfold closureFor
  simp only [bind_pure_comp] at e ⊢
  first
    | (rw [← e]; rfl)
    | (simpa using e)
theorem clos_sub {cells : List (Str × Addr)} {y : Str} {c : Addr} : ∀ (names : List (Str × NameKind)) (cs : List (Str × Addr)), (∀ y c, cs.lookup y = some c → cells.lookup y = some c) → (closOf cells names cs).lookup y = some c → cells.lookup y = some c
  | [], cs, h, e => h y c e
  | (n, k) :: r, cs, h, e => by
    unfold closOf at e
    by_cases hk : (k == NameKind.free) = true
    · rw [if_pos hk] at e
      cases ha : cells.lookup n with
      | none =>
        rw [ha] at e
        exact clos_sub r cs h e
      | some a =>
        rw [ha] at e
        refine clos_sub r _ (fun y c q => ?_) e
        rw [List.lookup_cons] at q
        by_cases hy : (y == n) = true
        · rw [hy] at q
          cases q
          have : y = n := by simpa using hy
          rw [this]; exact ha
        · have hy' : (y == n) = false := by simpa using hy
          rw [hy'] at q
          exact h y c q
    · rw [if_neg hk] at e
      exact clos_sub r cs h e
theorem clos_keeps {cells : List (Str × Addr)} {y : Str} : ∀ (names : List (Str × NameKind)) (cs : List (Str × Addr)), (cs.lookup y).isSome = true → ((closOf cells names cs).lookup y).isSome = true
  | [], cs, h => h
  | (n, k) :: r, cs, h => by
    unfold closOf
    by_cases hk : (k == NameKind.free) = true
    · rw [if_pos hk]
      cases ha : cells.lookup n with
      | none => exact clos_keeps r cs h
      | some a =>
        refine clos_keeps r _ ?_
        rw [List.lookup_cons]
        by_cases hy : (y == n) = true
        · rw [hy]; rfl
        · have hy' : (y == n) = false := by simpa using hy
          rw [hy']; exact h
    · rw [if_neg hk]
      exact clos_keeps r cs h
theorem clos_has {cells : List (Str × Addr)} {y : Str} : ∀ (names : List (Str × NameKind)) (cs : List (Str × Addr)), (y, NameKind.free) ∈ names → (cells.lookup y).isSome = true → ((closOf cells names cs).lookup y).isSome = true
  | [], cs, h, _ => by simp at h
  | (n, k) :: r, cs, h, hy => by
    unfold closOf
    rcases List.mem_cons.mp h with e | h'
    · cases e
      rw [if_pos (by rfl)]
      cases ha : cells.lookup y with
      | none => rw [ha] at hy; cases hy
      | some a =>
        refine clos_keeps r _ ?_
        rw [List.lookup_cons, show (y == y) = true by simp]
        rfl
    · by_cases hk : (k == NameKind.free) = true
      · rw [if_pos hk]
        cases ha : cells.lookup n with
        | none => exact clos_has r cs h' hy
        | some a => exact clos_has r _ h' hy
      · rw [if_neg hk]
        exact clos_has r cs h' hy
/-- kinds in the block -/
theorem relabel_kind {scope : Scope} {env : Env} {x : Str} {k : NameKind} (hc : ∀ y ∈ scope.names, y.2 ≠ .cell) : (relabel scope env).names.lookup x = some k → (k = .cell ∨ k = .free) → scope.names.lookup x = some .free := by
  unfold relabel
  dsimp only
  generalize hn : scope.names = names at hc ⊢
  clear hn
  induction names with
  | nil => intro h; simp at h
  | cons p r ih =>
    obtain ⟨n, k0⟩ := p
    intro h hk
    rw [List.map_cons, List.lookup_cons] at h
    rw [List.lookup_cons]
    have hc' : ∀ y ∈ r, y.2 ≠ .cell := fun y hy => hc y (List.mem_cons_of_mem _ hy)
    by_cases hx : (x == n) = true
    · rw [hx]
      have hk0 := hc (n, k0) List.mem_cons_self
      have hk0 : k0 ≠ .cell := hk0
      by_cases hq : (k0 == NameKind.free && env.scope.kind == .function && env.kindOf n == some .cell) = true
      · have : (k0 == NameKind.free) = true := by
          rw [Bool.and_eq_true, Bool.and_eq_true] at hq
          exact hq.1.1
        have : k0 = .free := by simpa using this
        rw [this]
      · rw [if_neg hq] at h
        dsimp only at h
        rw [hx] at h
        injection h with h
        subst h
        rcases hk with z | z
        · exact absurd z hk0
        · rw [z]
    · have hx' : (x == n) = false := by simpa using hx
      rw [hx']
      refine ih hc' ?_ hk
      by_cases hq : (k0 == NameKind.free && env.scope.kind == .function && env.kindOf n == some .cell) = true
      · rw [if_pos hq] at h
        dsimp only at h
        rw [hx'] at h
        exact h
      · rw [if_neg hq] at h
        dsimp only at h
        rw [hx'] at h
        exact h
theorem relabel_free {scope : Scope} {env : Env} {x : Str} : scope.names.lookup x = some .free → (relabel scope env).names.lookup x = some .cell ∨ (relabel scope env).names.lookup x = some .free := by
  unfold relabel
  dsimp only
  generalize hn : scope.names = names
  clear hn
  induction names with
  | nil => intro h; simp at h
  | cons p r ih =>
    obtain ⟨n, k0⟩ := p
    intro h
    rw [List.lookup_cons] at h
    rw [List.map_cons, List.lookup_cons]
    by_cases hx : (x == n) = true
    · rw [hx] at h
      injection h with h
      subst h
      by_cases hq : (NameKind.free == NameKind.free && env.scope.kind == .function && env.kindOf n == some .cell) = true
      · rw [if_pos hq]; dsimp only; rw [hx]; exact .inl rfl
      · rw [if_neg hq]; dsimp only; rw [hx]; exact .inr rfl
    · have hx' : (x == n) = false := by simpa using hx
      rw [hx'] at h
      by_cases hq : (k0 == NameKind.free && env.scope.kind == .function && env.kindOf n == some .cell) = true
      · rw [if_pos hq]; dsimp only; rw [hx']; exact ih h
      · rw [if_neg hq]; dsimp only; rw [hx']; exact ih h
end L2
end

section
set_option Elab.async false
set_option linter.all false
set_option maxRecDepth 100000
namespace L2
open PySem PySem.Spec PyProof.Rows

/-- the context of a comprehension's block -/
def compCx (X : Cx) (scope : Scope) (cl : List (Str × Addr)) (N : List Str) (C : Addr) (fp : List Addr) (s : Shared) (H : Hp) : Cx :=
  { X with N := N, s₀ := s, H₀ := H, env := compEnvC scope cl C X.env, outer := X.stack, ex := fp, fn := fun _ => false, pn := [], xe := fun _ _ => False }
/-- what a block's context hangs on -/
structure Bk where
  cl : List (Str × Addr)
  C : Addr
  fp : List Addr
  s : Shared
  H : Hp
/-- the block's names at the entry: those of the frame around by their places -/
def inSt (fr : List (Option Nat)) (σ : St) : St := fr.map fun o => match o with
  | some j => (match σ[j]? with | some v => v | none => none)
  | none => none
structure CompSc (X : Cx) (scope : Scope) (N : List Str) (fr : List (Option Nat)) : Prop where
  kind : scope.kind = .function
  nocell : ∀ y ∈ scope.names, y.2 ≠ .cell
  locs : ∀ y ∈ scope.names, y.2 = .local → scope.names.lookup y.1 = some .local
  free : ∀ y ∈ scope.names, y.2 = .free → X.env.kindOf y.1 = some .cell ∨ X.env.kindOf y.1 = some .free
  len : fr.length = N.length
  fr : ∀ (i j : Nat) (x : Str), N[i]? = some x → fr[i]? = some (some j) → X.N[j]? = some x ∧ scope.names.lookup x = some .free
  nd : N.Nodup

theorem mem_of_lookup' {x : Str} {k : NameKind} : ∀ {l : List (Str × NameKind)}, l.lookup x = some k → (x, k) ∈ l := fun h => PySem.mem_of_lookup h

section
variable {X : Cx} {pins : List (Addr × Obj)} {σ : St} {H : Hp} {s : Shared} {scope : Scope} {N : List Str} {fr : List (Option Nat)} {fp : List Addr}
theorem CompSc.cells (S : CompSc X scope N fr) (I : Inv X pins σ H s) : ∀ x ∈ scope.names, x.2 = .free → ∃ a, X.env.cells.lookup x.1 = some a := fun x hx e => I.ok.has x.1 (S.free x hx e)
theorem inv_comp {h1 : Heap} {m : Str → Option Value} {ob : Obj} {tk : Nat} (I : Inv X pins σ H s) (S : CompSc X scope N fr) (hf : ∀ b ∈ fp, FpOk X pins H b) (hs : ∀ b ∈ fp, b < s.heap.objs.size)
    (hns : h1.Ns s.heap.objs.size m) (hsb : Heap.SameBut s.heap.objs.size (s.heap.push ob) h1) :
    Inv (compCx X scope (closOf X.env.cells scope.names []) N s.heap.objs.size fp s H) [] (inSt fr σ) H { s with heap := h1, toks := tk } := by
  have sub : ∀ y c, (closOf X.env.cells scope.names []).lookup y = some c → X.env.cells.lookup y = some c := fun y c e => clos_sub scope.names [] (fun _ _ z => by simp at z) e
  have old : ∀ b o, s.heap.get? b = some o → h1.get? b = some o := fun b o e => (hsb.2 b (Nat.ne_of_lt (Heap.lt_size e))).trans (Heap.get?_push_of_some _ e)
  have cle : ∀ x c, X.env.cells.lookup x = some c → c < s.heap.objs.size := fun x c e => by
    obtain ⟨v, z⟩ := I.cell x c e
    exact z.lt
  have bne : ∀ b ∈ fp, b ∉ X.ex → X.s₀.heap.objs.size ≤ b := fun b hb hx => by
    rcases (hf b hb).2.2.2.1 with z | z
    · exact absurd z hx
    · exact z
  have ok : (compCx X scope (closOf X.env.cells scope.names []) N s.heap.objs.size fp s H).Ok := by
    refine ⟨I.ok.mod, ?_, I.ok.glob, I.ok.blt, Nat.le_refl _, fun x y c h1 h2 => I.ok.inj x y c (sub x c h1) (sub y c h2), fun x hx => ?_, fun x c z => (by cases z), I.ok.hd, I.ok.frames, .inl rfl, fun b hb => ⟨?_, fun x c e => ?_⟩, fun b o e => I.bs b o e, ?_, fun b o e hb => ?_, fun b hb hs' => ?_, I.stack, I.stkFree⟩
    · exact S.kind
    · have hx : (relabel scope X.env).names.lookup x = some .cell ∨ (relabel scope X.env).names.lookup x = some .free := hx
      have hfr : scope.names.lookup x = some .free := by
        rcases hx with z | z
        · exact relabel_kind S.nocell z (.inl rfl)
        · exact relabel_kind S.nocell z (.inr rfl)
      have hm := mem_of_lookup' hfr
      obtain ⟨a, ha⟩ := S.cells I _ hm rfl
      exact Option.isSome_iff_exists.mp (clos_has scope.names [] hm (by show (X.env.cells.lookup x).isSome = true; rw [show X.env.cells.lookup x = some a from ha]; rfl))
    · exact Nat.ne_of_lt (hs b hb)
    · exact (hf b hb).2.2.2.2.1 x c (sub x c e)
    · exact Nat.le_trans I.ok.bsz I.sz
    · have e : X.base.get? b = some o := e
      rcases (hf b hb).2.2.2.1 with z | z
      · exact I.ok.noex b o e z
      · exact absurd (Nat.lt_of_lt_of_le (Heap.lt_size e) (Nat.le_trans I.ok.bsz z)) (Nat.lt_irrefl _)
    · rcases List.mem_cons.mp (I.stkSub b hs') with z | z
      · exact (hf b hb).2.1 z
      · exact (hf b hb).2.2.1 z
  refine ⟨ok, rfl, I.bare, Un.kept old, ⟨m, hns, fun i x v h1' h2 h3 => ?_⟩, fun x c e => ?_, I.hok.fresh (Nat.le_refl _), fun x c e => I.freeC x c (sub x c e), fun p hp => absurd (show p ∈ ([] : List (Addr × Obj)) from hp) (by simp), I.hok.kept old, ?_⟩
  · have h1' : N[i]? = some x := h1'
    have h2 : (inSt fr σ)[i]? = some (some v) := h2
    unfold inSt at h2
    rw [List.getElem?_map] at h2
    cases e : fr[i]? with
    | none => rw [e] at h2; cases h2
    | some o =>
      rw [e] at h2
      cases o with
      | none => cases h2
      | some j =>
        obtain ⟨hj, hx⟩ := S.fr i j x h1' e
        have h2 : some (match σ[j]? with | some v => v | none => none) = some (some v) := h2
        injection h2 with h2
        cases ej : σ[j]? with
        | none => rw [ej] at h2; cases h2
        | some w' =>
          rw [ej] at h2
          have h2 : w' = some v := h2
          subst h2
          have hk := S.free _ (mem_of_lookup' hx) rfl
          obtain ⟨m0, hn0, hl⟩ := I.loc
          have vis : Vis X.env.scope x := by
            rcases hk with z | z
            · exact .inr (.inl z)
            · exact .inr (.inr z)
          obtain ⟨u, r, l⟩ := hl j x v hj ej vis
          refine ⟨u, r, ?_⟩
          rcases l with ⟨k, _⟩ | ⟨_, c, ec, z⟩
          · exfalso
            rcases hk with q | q
            · have := k.symm.trans q; cases this
            · have := k.symm.trans q; cases this
          · have hm := mem_of_lookup' hx
            obtain ⟨c', ec'⟩ := Option.isSome_iff_exists.mp (clos_has (cells := X.env.cells) scope.names [] hm (by rw [ec]; rfl))
            have : c' = c := by
              have q := sub x c' ec'
              rw [ec] at q
              cases q
              rfl
            subst this
            refine .inr ⟨relabel_free hx, c', ec', ?_⟩
            obtain ⟨o, ho, hd⟩ := z
            exact ⟨o, old _ o ho, hd⟩
  · obtain ⟨v, o, ho, hd⟩ := I.cell x c (sub x c e)
    exact ⟨v, o, old _ o ho, hd⟩
  · show (inSt fr σ).length = N.length
    unfold inSt
    rw [List.length_map, S.len]
end

/-! ### the tests of a clause; what is done with an item -/
def PIfs (X : Cx) (ifs : List Expr) (t : TT) : Prop :=
  ∀ (pins : List (Addr × Obj)) (s : Shared) (σ : St) (H : Hp) (Q : Bool → Hp → Prop), Inv X pins σ H s → t σ H Q →
    wpAny (model X.prog X.w) X.A (forIn ifs true fun c r => if r = true then do let ok ← isTrue c X.env (eval c X.env); pure (ForInStep.yield ok) else pure (ForInStep.yield r)) (TP X pins σ Q) X.xe s
def tYes : TT := fun _ H Q => Q true H
theorem pf_nil {X : Cx} : PIfs X [] tYes := fun _ _ _ H _ I h => wpAny_tests_nil ⟨H, I, h⟩
theorem pf_one {X : Cx} {c : Expr} {t : TT} (h : PT X c t) : PIfs X [c] t := fun pins s σ H Q I hq => wpAny_tests_one (h pins s σ H Q I hq)
abbrev TM := St → Hp → (Hp → Prop) → Prop
def PEm (X : Cx) (em : Sem Unit) (t : TM) : Prop :=
  ∀ (pins : List (Addr × Obj)) (s : Shared) (σ : St) (H : Hp) (R : Hp → Prop), Inv X pins σ H s → t σ H R →
    wpAny (model X.prog X.w) X.A em (fun _ s' => ∃ H', Inv X pins σ H' s' ∧ R H') X.xe s
def tLoop (g : TG) (tt : TT) (tem : TM) (J : It) (τ : St) (H : Hp) (Q : Hp → Prop) : Prop :=
  ∃ W : Nat → Nat → St → Hp → Prop, (∃ m, W 0 m τ H) ∧ ∀ i m τ H, W i m τ H →
    (J.stop i H ∧ Q H) ∨ (J.go i H ∧ ∃ N : St → Hp → Prop, (∀ τ' H', N τ' H' → ∃ m', m' < m ∧ W (i + 1) m' τ' H') ∧ ∀ x H', J.yld i H x H' → g x τ H' fun τ2 H2 => tt τ2 H2 fun b H3 =>
      if b = true then tem τ2 H3 (N τ2) else N τ2 H3)
def turnOf (target iter : Expr) (ifs : List Expr) (em : Sem Unit) (it : Value) (env : Env) (nxt : Sem Fin) : Sem Fin := do
  standAt iter.pos
  match ← pyNext it with
  | none => pure (.done .next)
  | some v =>
    letOwnedTupleGo target it v
    assign target env v
    let mut ok := true
    for c in ifs do
      if ok then ok ← isTrue c env (eval c env)
    if ok then em
    nxt
section
variable {X : Cx} {e target iter : Expr} {ifs : List Expr} {g : TG} {tt : TT} {tem : TM} {acc : Value} {em : Sem Unit}
theorem comp_loop {it : Addr} {fp : List Addr} {tn : Nat → Heap → Prop} {J : It} {τ : St} {H : Hp} {s : Shared} {Q : Hp → Prop} {R : Result → Shared → Prop}
    (ht : compTurn e 0 (.ref it) acc X.env = turnOf target iter ifs em (.ref it) X.env (again (.compLoop e 0 (.ref it) acc X.env)))
    (hd : ∀ (Q : Fin → Shared → Prop) (E : Value → Shared → Prop) (s : Shared), wpAny (model X.prog X.w) X.A ((compTurn e 0 (.ref it) acc X.env).onRaise (fun x => do noteFrame x X.env; theTreesLotGoes x)) Q E s →
      wpAny (model X.prog X.w) (X.A.under (.compLoop e 0 (.ref it) acc X.env)) ((model X.prog X.w).den (.compLoop e 0 (.ref it) acc X.env)) Q E s)
    (hq : (Code.compLoop e 0 (.ref it) acc X.env).quiet = true)
    (hc : X.calm = true) (hx : X.xe = fun _ _ => False) (hg : PG X target g) (hi : PIfs X ifs tt) (he : PEm X em tem) (T : Turn X.prog X.w X.K target J fp it tn)
    (I : Inv X [] τ H s) (st : tn 0 s.heap) (hf : ∀ b ∈ fp, FpOk X [] H b) (h : tLoop g tt tem J τ H Q) (hR : ∀ τ' H' s', Inv X [] τ' H' s' → Q H' → R (.ok .next) s') :
    codeAny (model X.prog X.w) X.A (.compLoop e 0 (.ref it) acc X.env) R s := by
  obtain ⟨W, ⟨m0, w0⟩, turn⟩ := h
  have stat : ∀ {H' : Hp}, (∀ b ∈ fp, H' b = none) → ∀ b ∈ fp, FpOk X [] H' b := fun hn b hb => ⟨hn b hb, (hf b hb).2⟩
  have noX : ∀ {α : Type} {t : Sem α} {Q : α → Shared → Prop} {s' : Shared} {E : Value → Shared → Prop}, wpAny (model X.prog X.w) X.A t Q X.xe s' → wpAny (model X.prog X.w) X.A t Q E s' := fun {α t Q s' E} h' =>
    wpAny_mono h' (fun _ _ q => q) fun _ _ z => by rw [hx] at z; exact z.elim
  refine codeAny_loop hq (fun n s' => ∃ i τ' H', Inv X [] τ' H' s' ∧ tn i s'.heap ∧ (∀ b ∈ fp, H' b = none) ∧ W i n τ' H') ?_ m0 ⟨0, τ, H, I, st, fun b hb => (hf b hb).1, w0⟩
  rintro n s3 ⟨i, σ3, H3, I3, st3, fr3, w3⟩
  refine hd _ _ _ (wpAny_noted ?_)
  rw [ht]
  unfold turnOf
  refine wpAny_bind (wpAny_standAt (wpAny_bind ?_))
  rcases turn i n σ3 H3 w3 with ⟨stop, qn⟩ | ⟨go, Nx, hNx, step⟩
  · refine thn (T.done X rfl rfl rfl hc i [] s3 σ3 H3 _ I3 (stat fr3) st3 stop) fun r s4 ⟨hr, I4⟩ => ?_
    subst hr
    exact wpAny_pure (hR _ _ _ I4 qn)
  · refine thn (T.item X rfl rfl rfl hc i [] s3 σ3 H3 _ I3 (stat fr3) st3 go) fun r s4 ⟨u, hr, h4⟩ => ?_
    subst hr
    refine wpAny_bind (thn h4 fun _ s5 ⟨x, H5, I5, r5, y5, st5, fr5⟩ => ?_)
    have I5' := I5.pinned (stat fr5) (T.obj _ _ st5)
    refine wpAny_bind (noX (thn (hg _ s5 σ3 H5 x u _ I5' r5 (step x H5 y5)) fun _ s6 ⟨σ6, H6, I6, q6⟩ => ?_))
    have again' : ∀ {σ7 : St} {H7 : Hp} {s7 : Shared}, Inv X ([] ++ pinsAt fp s5.heap) σ7 H7 s7 → (∃ m', m' < n ∧ W (i + 1) m' σ7 H7) → ∃ m, m < n ∧ ∃ i σ' H', Inv X [] σ' H' s7 ∧ tn i s7.heap ∧ (∀ b ∈ fp, H' b = none) ∧ W i m σ' H' := fun {σ7 H7 s7} I7 n7 => by
      obtain ⟨m', hm, w7⟩ := n7
      refine ⟨m', hm, i + 1, σ7, H7, I7.unpinned, T.keep _ _ _ st5 fun b hb o e => (I7.pin (b, o) (List.mem_append_right _ (List.mem_append_right _ (mem_pinsAt hb e)))).1, fun b hb => ?_, w7⟩
      obtain ⟨o, e, d⟩ := T.obj _ _ st5 b hb
      exact (I7.pin (b, o) (List.mem_append_right _ (List.mem_append_right _ (mem_pinsAt hb e)))).2.1
    refine wpAny_bind (noX (thn (hi _ s6 σ6 H6 _ I6 q6) fun ok s7 ⟨H7, I7, q7⟩ => ?_))
    cases ok with
    | false => exact wpAny_pure ⟨rfl, again' I7 (hNx _ _ q7)⟩
    | true =>
      refine wpAny_bind (noX (thn (he _ s7 σ6 H7 _ I7 q7) fun _ s8 ⟨H8, I8, q8⟩ => ?_))
      exact wpAny_pure ⟨rfl, again' I8 (hNx _ _ q8)⟩
end

/-! ### [elt for target in iter if ..] -/
def eApp (D : Addr) (te : TE) : TM := fun σ H R => te σ H fun y H1 => ∃ xs, H1 D = some (.lst xs) ∧ xs.length < sizeLine ∧ R (upd H1 D (.lst (xs ++ [y])))
theorem em_app {X : Cx} {elt : Expr} {te : TE} {D : Addr} (h : PE X elt te) : PEm X (do let _ ← call (.builtin "list.append") [.ref D, ← eval elt X.env]) (eApp D te) := by
  intro pins s σ H R I hq
  refine wpAny_bind (thn (h pins s σ H _ I hq) fun u s1 ⟨y, H1, I1, r1, xs, hD, hz, q⟩ => ?_)
  refine wpAny_bind (thn (mt_append pins s1 σ H1 (.ref D) [y] (.ref D) [u] (fun _ H' => R H') I1 rfl (.cons r1 .nil) ⟨D, xs, y, rfl, rfl, hD, hz, q⟩) fun _ s2 ⟨v, H2, I2, _, q2⟩ => ?_)
  exact wpAny_pure ⟨H2, I2, q2⟩
def tLC (fr : List (Option Nat)) (wi : TI) (g : Bk → TG) (tt : Bk → TT) (te : Bk → TE) : TE := fun σ H Q => wi σ H fun J H1 => ∀ D, H1 D = none → ∀ z, tLoop (g z) (tt z) (eApp D (te z)) J (inSt fr σ) (upd H1 D (.lst [])) fun H' => Q (.ref D) H'
section
variable {X : Cx}
/-- what the block has left, for the frame around -/
theorem comp_out {pins : List (Addr × Obj)} {σ τ : St} {H1 H3 H' : Hp} {s2 s3 s' : Shared} {fp : List Addr} {scope : Scope} {cl : List (Str × Addr)} {N : List Str} {h' : Heap}
    (I2 : Inv X pins σ H1 s2) (hf : ∀ b ∈ fp, FpOk X pins H1 b) (u23 : Un (frs X.stack) [] H1 H3 s2.heap s3.heap) (ho : s3.os = s2.os) (hs : s2.heap.objs.size ≤ s3.heap.objs.size)
    (J : Inv (compCx X scope cl N s3.heap.objs.size fp s3 H3) [] τ H' s') (sb : Heap.SameBut s3.heap.objs.size s'.heap h') : Inv X pins σ H' { s' with heap := h' } := by
  have hC : H' s3.heap.objs.size = none := J.free
  have hbase : Un (frs X.stack) fp H3 H' s3.heap s'.heap := J.base
  have u3 : Un (frs X.stack) fp H1 H' s2.heap s'.heap := (u23.mono (fun _ z => z) (fun _ z => nomatch z)).trans hbase
  have ne : ∀ b o, s2.heap.get? b = some o → b ≠ s3.heap.objs.size := fun b o e => Nat.ne_of_lt (Nat.lt_of_lt_of_le (Heap.lt_size e) hs)
  have u : Un (frs X.stack) fp H1 H' s2.heap h' := ⟨fun b o e n h1 h2 => (sb.2 b (ne b o e)).trans (u3.keep b o e n h1 h2), fun b o e n h1 h2 => by
      obtain ⟨sl, q⟩ := u3.slot b o e n h1 h2
      exact ⟨sl, (sb.2 b (ne b o e)).trans q⟩, u3.free, fun b o e h2 => by
      obtain ⟨o', q⟩ := u3.there b o e h2
      exact ⟨o', (sb.2 b (ne b o e)).trans q⟩, u3.tups, u3.frzs, u3.tbls⟩
  have hok : HOk X.prog X.w H' h' := fun b ob e => by
    have q : ObjOk X.prog X.w H' s'.heap b ob := J.hok b ob e
    refine q.stay (fun c w' hc q => (sb.2 c ?_).trans q) (fun _ q => q) fun _ _ q => q
    intro z
    rw [z] at hc
    rcases hc with rfl | hc
    · rw [hC] at e; cases e
    · rw [hC] at hc; cases hc
  refine I2.call' (s' := { s' with heap := h' }) (H' := H') (ch := fp) (J.os.trans ho) u hok J.bare fun b hb => ?_
  obtain ⟨_, f1, _, f3, f4, f5⟩ := hf b hb
  exact ⟨f3, f1, f4, f5⟩
theorem pe_lc {elt target iter : Expr} {ifs : List Expr} {scope : Scope} {pos : Pos} {N : List Str} {fr : List (Option Nat)} {wi : TI} {g : Bk → TG} {tt : Bk → TT} {te : Bk → TE} (hc : X.calm = true) (S : CompSc X scope N fr) (hi : PI X target iter wi)
    (hin : ∀ z : Bk, PG (compCx X scope z.cl N z.C z.fp z.s z.H) target (g z) ∧ PIfs (compCx X scope z.cl N z.C z.fp z.s z.H) ifs (tt z) ∧ PE (compCx X scope z.cl N z.C z.fp z.s z.H) elt (te z))
    (hs : ∀ x, foldedSetIterable iter X.env x = pure x := by intro _; rfl) : PE X (.ListComp elt [⟨target, iter, ifs, 0⟩] scope pos) (tLC fr wi g tt te) := by
  intro pins s σ H Q I h
  rw [eval_ListComp]
  refine wpAny_comprehension_free (g := ⟨target, iter, ifs, 0⟩) (gs := []) (use := none) rfl hs (closureFor_cells (S.cells I)) S.kind S.locs ?_
  refine thn (hi pins s σ H _ I h) fun v s1 h1 => thn h1 fun itv s2 h2 => ?_
  obtain ⟨it, fp, tn, J, H2, e, I2, T, st2, f2, h2⟩ := h2
  subst e
  refine wpAny_newObj_type ?_
  have hD : H2 s2.heap.objs.size = none := I2.fresh
  have I3 := I2.lnew (t' := s2.toks) (ys := []) (its := []) .nil (Nat.zero_le _)
  have lt2 : ∀ b ∈ fp, b < s2.heap.objs.size := fun b hb => by
    obtain ⟨o, e, _⟩ := T.obj _ _ st2 b hb
    exact Heap.lt_size e
  have f3 : ∀ b ∈ fp, FpOk X pins (upd H2 s2.heap.objs.size (.lst [])) b := fun b hb => ⟨by rw [upd_ne (Nat.ne_of_lt (lt2 b hb))]; exact (f2 b hb).1, (f2 b hb).2⟩
  generalize hs3 : ({ s2 with heap := s2.heap.push { cls := .type "list", data := .seq ([] : List Value).toArray } } : Shared) = s3
  have I3 : Inv X pins σ (upd H2 s2.heap.objs.size (.lst [])) s3 := by rw [← hs3]; exact I3
  have sz3 : s3.heap.objs.size = s2.heap.objs.size + 1 := by rw [← hs3]; exact Heap.size_push ..
  have u23 : Un (frs X.stack) [] H2 (upd H2 s2.heap.objs.size (.lst [])) s2.heap s3.heap := by
    rw [← hs3]
    exact Un.laid (fun b o e => Heap.get?_push_of_some _ e) (Nat.le_refl _) hD
  have ho : s3.os = s2.os := by rw [← hs3]
  have st3 : tn 0 s3.heap := T.keep _ _ _ st2 fun b _ o e => by rw [← hs3]; exact Heap.get?_push_of_some _ e
  refine wpAny_newFunctionEnv S.nocell (by intro y hy; simp at hy) (fun h4 hns hsb => ?_) S.kind
  have lt3 : ∀ b ∈ fp, b < s3.heap.objs.size := fun b hb => Nat.lt_of_lt_of_le (lt2 b hb) (by rw [sz3]; exact Nat.le_succ _)
  have I4 := inv_comp (tk := s3.toks + ([] : List (Str × Value)).length) I3 S f3 lt3 hns hsb
  have old4 : ∀ b o, s3.heap.get? b = some o → h4.get? b = some o := fun b o e => (hsb.2 b (Nat.ne_of_lt (Heap.lt_size e))).trans (Heap.get?_push_of_some _ e)
  have st4 : tn 0 h4 := T.keep _ _ _ st3 fun b _ o e => old4 b o e
  have h2 := h2 _ hD ⟨closOf X.env.cells scope.names [], s3.heap.objs.size, fp, s3, upd H2 s2.heap.objs.size (.lst [])⟩
  obtain ⟨hg, hif, hel⟩ := hin ⟨closOf X.env.cells scope.names [], s3.heap.objs.size, fp, s3, upd H2 s2.heap.objs.size (.lst [])⟩
  have loop : codeAny (model X.prog X.w) X.A (.compLoop (.ListComp elt [⟨target, iter, ifs, 0⟩] scope pos) 0 (.ref it) (.ref s2.heap.objs.size) (compEnvC scope (closOf X.env.cells scope.names []) s3.heap.objs.size X.env))
      (compPost (model X.prog X.w) X.A X.xe none (EP X pins σ Q) (.ref s2.heap.objs.size) s3.heap.objs.size) { s3 with heap := h4, toks := s3.toks + ([] : List (Str × Value)).length } := by
    refine comp_loop (X := compCx X scope (closOf X.env.cells scope.names []) N s3.heap.objs.size fp s3 (upd H2 s2.heap.objs.size (.lst []))) (em := (do let _ ← call (.builtin "list.append") [.ref s2.heap.objs.size, ← eval elt (compEnvC scope (closOf X.env.cells scope.names []) s3.heap.objs.size X.env)]))
      (compTurn_list ..) (fun _ _ _ z => z) rfl hc rfl hg hif (em_app hel) T I4 st4 (fun b hb => ?_) h2 (fun τ' H' s' J' q => ?_)
    · obtain ⟨f0, f1, fs, fe, fc, fp'⟩ := f3 b hb
      refine ⟨f0, Nat.ne_of_lt (lt3 b hb), fun z => ?_, .inl hb, fun x c e => fc x c (clos_sub scope.names [] (fun _ _ z => by simp at z) e), fun p hp => absurd (show p ∈ ([] : List (Addr × Obj)) from hp) (by simp)⟩
      rcases List.mem_cons.mp (I3.stkSub b z) with z | z
      · exact f1 z
      · exact fs z
    · obtain ⟨m, hn, _⟩ := J'.loc
      exact ⟨m, hn, fun h' sb => ⟨.ref s2.heap.objs.size, H', comp_out I2 f2 u23 ho (by rw [sz3]; exact Nat.le_succ _) J' sb, rfl, q⟩⟩
  exact codeAny_compStart_list loop (T.self X.A 0 _ _ _ st4 loop)
end
end L2
end

section
set_option Elab.async false
set_option linter.all false
set_option maxRecDepth 100000
namespace L2
open PySem PySem.Spec PyProof.Rows

/-! ### {k: v for target in iter if ..}: keys that are ints or texts -/
theorem compTurn_dict (ek ev target iter : Expr) (ifs : List Expr) (scope : Scope) (pos : Pos) (it : Value) (d : Addr) (env : Env) :
    compTurn (.DictComp ek ev [⟨target, iter, ifs, 0⟩] scope pos) 0 it (.ref d) env = turnOf target iter ifs (do
        let kv ← eval ek env
        let vv ← holding [kv] (eval ev env)
        standAt { ek.pos with endLine := ev.pos.endLine, endCol := ev.pos.endCol }
        holding [kv, vv] (dictSet d kv vv)) it env (again (.compLoop (.DictComp ek ev [⟨target, iter, ifs, 0⟩] scope pos) 0 it (.ref d) env)) := by rfl
theorem codeAny_compStart_dict {prog : Program} {w : World} {A : Around} {R : Result → Shared → Prop} {s : Shared} {ek ev target iter ifs rest scope pos it acc env}
    (h0 : codeAny (model prog w) A (.compLoop (.DictComp ek ev (⟨target, iter, ifs, 0⟩ :: rest) scope pos) 0 it acc env) R s)
    (h : wpAny (model prog w) A (pyIter it) (fun it' s' => codeAny (model prog w) A (.compLoop (.DictComp ek ev (⟨target, iter, ifs, 0⟩ :: rest) scope pos) 0 it' acc env) R s')
      (notedBy (model prog w) A env fun x s' => R (.error x) s') s) :
    codeAny (model prog w) A (.compStart (.DictComp ek ev (⟨target, iter, ifs, 0⟩ :: rest) scope pos) 0 it acc env) R s := by
  refine codeAny_of_tree ?_
  show wpAny _ _ ((compStart (.DictComp ek ev (⟨target, iter, ifs, 0⟩ :: rest) scope pos) 0 it acc env).onRaise (fun x => do noteFrame x env; standAt theWindowsPlace)) _ _ s
  refine wpAny_notedAt ?_
  unfold compStart
  show wpAny _ _ (ask >>= _) _ _ s
  refine wpAny_bind (wpAny_askSetting (wpAny_ite ?_))
  split
  · first
      | exact wpAny_bind (wpAny_pure (wpAny_pure (And.intro rfl h0)))
      | exact wpAny_pure (And.intro rfl h0)
  · first
      | exact wpAny_bind (wpAny_rule (wpAny_bind (wpAny_standAt (wpAny_bind (wpAny_mono h (fun it' s' h' => wpAny_pure (And.intro rfl h')) fun _ _ x => x)))))
      | (refine wpAny_bind (wpAny_rule ?_); show wpAny _ _ (standAt iter.pos >>= _) _ _ s; exact wpAny_bind (wpAny_standAt (wpAny_bind (wpAny_mono h (fun it' s' h' => wpAny_pure (And.intro rfl h')) fun _ _ x => x))))
def ePut (D : Addr) (tk tv : TE) : TM := fun σ H R => tk σ H fun y H1 => tv σ H1 fun v H2 => ∃ kvs k, y = kV k ∧ H2 D = some (.dK kvs) ∧ kvs.length < sizeLine ∧ R (upd H2 D (.dK (putK kvs k v)))
theorem d_set {X : Cx} {pins : List (Addr × Obj)} {σ : St} {H : Hp} {s : Shared} {A : Around} {E : Value → Shared → Prop} {a : Addr} {k : Key} {v : V} {u r : Value} {kvs : List (Key × V)} {Q : Unit → Shared → Prop} (I : Inv X pins σ H s) (e : H a = some (.dK kvs)) (l : kvs.length < sizeLine) (ry : RelV (kV k) u) (rv : RelV v r)
    (h : ∀ s', Inv X pins σ (upd H a (.dK (putK kvs k v))) s' → Q () s') : wpAny (model X.prog X.w) A (dictSet a u r) Q E s := by
  obtain ⟨z, hd, vs, rel, dd⟩ := dk_of I.hok e
  have hz : vs.length ≤ sizeLine := by rw [← rel.length]; exact z
  have hl : (putK kvs k v).length ≤ sizeLine := by have := length_putK kvs k v; omega
  refine wpAny_dictSet_pairs (hsz := hz) (kV_is ry) dd fun h' dd' hs => h _ ?_
  have he : ∃ q, h'.get? a = some q := let ⟨q, _, _, hq, _⟩ := dd'; ⟨q, hq⟩
  exact d_write I (by rw [e]; exact True.intro) hs he (dk_new hl hd (rel.put k rv) dd')
theorem em_put {X : Cx} {ek ev : Expr} {tk tv : TE} {D : Addr} {p : Pos} (hk : PE X ek tk) (hv : PE X ev tv) : PEm X (do
        let kv ← eval ek X.env
        let vv ← holding [kv] (eval ev X.env)
        standAt p
        holding [kv, vv] (dictSet D kv vv)) (ePut D tk tv) := by
  intro pins s σ H R I hq
  refine wpAny_bind (thn (hk pins s σ H _ I hq) fun u s1 ⟨y, H1, I1, r1, q1⟩ => ?_)
  refine wpAny_bind (wpAny_holding (thn (hv pins s1 σ H1 _ I1 q1) fun r s2 ⟨v, H2, I2, r2, q2⟩ => ?_))
  obtain ⟨kvs, k, e, hD, hz, q⟩ := q2
  subst e
  exact wpAny_bind (wpAny_standAt (wpAny_holding (d_set I2 hD hz r1 r2 fun s3 I3 => ⟨_, I3, q⟩)))
def tDC (fr : List (Option Nat)) (wi : TI) (g : Bk → TG) (tt : Bk → TT) (tk tv : Bk → TE) : TE := fun σ H Q => wi σ H fun J H1 => ∀ D, H1 D = none → ∀ z, tLoop (g z) (tt z) (ePut D (tk z) (tv z)) J (inSt fr σ) (upd H1 D (.dK [])) fun H' => Q (.ref D) H'
section
variable {X : Cx}
theorem pe_dc {ek ev target iter : Expr} {ifs : List Expr} {scope : Scope} {pos : Pos} {N : List Str} {fr : List (Option Nat)} {wi : TI} {g : Bk → TG} {tt : Bk → TT} {tk tv : Bk → TE} (hc : X.calm = true) (S : CompSc X scope N fr) (hi : PI X target iter wi)
    (hin : ∀ z : Bk, PG (compCx X scope z.cl N z.C z.fp z.s z.H) target (g z) ∧ PIfs (compCx X scope z.cl N z.C z.fp z.s z.H) ifs (tt z) ∧ PE (compCx X scope z.cl N z.C z.fp z.s z.H) ek (tk z) ∧ PE (compCx X scope z.cl N z.C z.fp z.s z.H) ev (tv z))
    (hs : ∀ x, foldedSetIterable iter X.env x = pure x := by intro _; rfl) : PE X (.DictComp ek ev [⟨target, iter, ifs, 0⟩] scope pos) (tDC fr wi g tt tk tv) := by
  intro pins s σ H Q I h
  show wpAny _ _ (comprehension (.DictComp ek ev [⟨target, iter, ifs, 0⟩] scope pos) scope X.env (firstIterPos [⟨target, iter, ifs, 0⟩] pos) newDict (firstAsync [⟨target, iter, ifs, 0⟩]) (firstIter [⟨target, iter, ifs, 0⟩] X.env)) _ _ s
  refine wpAny_comprehension_free (g := ⟨target, iter, ifs, 0⟩) (gs := []) (use := none) rfl hs (closureFor_cells (S.cells I)) S.kind S.locs ?_
  refine thn (hi pins s σ H _ I h) fun v s1 h1 => thn h1 fun itv s2 h2 => ?_
  obtain ⟨it, fp, tn, J, H2, e, I2, T, st2, f2, h2⟩ := h2
  subst e
  refine wpAny_newObj_type ?_
  have hD : H2 s2.heap.objs.size = none := I2.fresh
  have I3 := I2.laid (a := s2.heap.objs.size) (o := .dK []) (t' := s2.toks) (fun _ _ q => Heap.get?_push_of_some _ q) (Nat.le_refl _) (dk_empty s2.heap I2.big)
  have lt2 : ∀ b ∈ fp, b < s2.heap.objs.size := fun b hb => by
    obtain ⟨o, e, _⟩ := T.obj _ _ st2 b hb
    exact Heap.lt_size e
  have f3 : ∀ b ∈ fp, FpOk X pins (upd H2 s2.heap.objs.size (.dK [])) b := fun b hb => ⟨by rw [upd_ne (Nat.ne_of_lt (lt2 b hb))]; exact (f2 b hb).1, (f2 b hb).2⟩
  generalize hs3 : ({ s2 with heap := s2.heap.push { cls := .type "dict", data := .dict #[] } } : Shared) = s3
  have I3 : Inv X pins σ (upd H2 s2.heap.objs.size (.dK [])) s3 := by rw [← hs3]; exact I3
  have sz3 : s3.heap.objs.size = s2.heap.objs.size + 1 := by rw [← hs3]; exact Heap.size_push ..
  have u23 : Un (frs X.stack) [] H2 (upd H2 s2.heap.objs.size (.dK [])) s2.heap s3.heap := by
    rw [← hs3]
    exact Un.laid (fun b o e => Heap.get?_push_of_some _ e) (Nat.le_refl _) hD
  have ho : s3.os = s2.os := by rw [← hs3]
  have st3 : tn 0 s3.heap := T.keep _ _ _ st2 fun b _ o e => by rw [← hs3]; exact Heap.get?_push_of_some _ e
  refine wpAny_newFunctionEnv S.nocell (by intro y hy; simp at hy) (fun h4 hns hsb => ?_) S.kind
  have lt3 : ∀ b ∈ fp, b < s3.heap.objs.size := fun b hb => Nat.lt_of_lt_of_le (lt2 b hb) (by rw [sz3]; exact Nat.le_succ _)
  have I4 := inv_comp (tk := s3.toks + ([] : List (Str × Value)).length) I3 S f3 lt3 hns hsb
  have old4 : ∀ b o, s3.heap.get? b = some o → h4.get? b = some o := fun b o e => (hsb.2 b (Nat.ne_of_lt (Heap.lt_size e))).trans (Heap.get?_push_of_some _ e)
  have st4 : tn 0 h4 := T.keep _ _ _ st3 fun b _ o e => old4 b o e
  have h2 := h2 _ hD ⟨closOf X.env.cells scope.names [], s3.heap.objs.size, fp, s3, upd H2 s2.heap.objs.size (.dK [])⟩
  obtain ⟨hg, hif, hek, hev⟩ := hin ⟨closOf X.env.cells scope.names [], s3.heap.objs.size, fp, s3, upd H2 s2.heap.objs.size (.dK [])⟩
  have loop : codeAny (model X.prog X.w) X.A (.compLoop (.DictComp ek ev [⟨target, iter, ifs, 0⟩] scope pos) 0 (.ref it) (.ref s2.heap.objs.size) (compEnvC scope (closOf X.env.cells scope.names []) s3.heap.objs.size X.env))
      (compPost (model X.prog X.w) X.A X.xe none (EP X pins σ Q) (.ref s2.heap.objs.size) s3.heap.objs.size) { s3 with heap := h4, toks := s3.toks + ([] : List (Str × Value)).length } := by
    refine comp_loop (X := compCx X scope (closOf X.env.cells scope.names []) N s3.heap.objs.size fp s3 (upd H2 s2.heap.objs.size (.dK [])))
      (compTurn_dict ..) (fun _ _ _ z => z) rfl hc rfl hg hif (em_put hek hev) T I4 st4 (fun b hb => ?_) h2 (fun τ' H' s' J' q => ?_)
    · obtain ⟨f0, f1, fs, fe, fc, fp'⟩ := f3 b hb
      refine ⟨f0, Nat.ne_of_lt (lt3 b hb), fun z => ?_, .inl hb, fun x c e => fc x c (clos_sub scope.names [] (fun _ _ z => by simp at z) e), fun p hp => absurd (show p ∈ ([] : List (Addr × Obj)) from hp) (by simp)⟩
      rcases List.mem_cons.mp (I3.stkSub b z) with z | z
      · exact f1 z
      · exact fs z
    · obtain ⟨m, hn, _⟩ := J'.loc
      exact ⟨m, hn, fun h' sb => ⟨.ref s2.heap.objs.size, H', comp_out I2 f2 u23 ho (by rw [sz3]; exact Nat.le_succ _) J' sb, rfl, q⟩⟩
  exact codeAny_compStart_dict loop (T.self X.A 0 _ _ _ st4 loop)
end
end L2
end

section
set_option Elab.async false
set_option linter.all false
namespace L2
open PySem PySem.W PyProof.Rows

/-! ### the sort as a tree of questions: what it comes to -/
def kGood {α : Type} (lt : Nat → Nat → Bool) (N : Nat) : KasT α → (α → Prop) → Prop
  | .ret a, R => R a
  | .ask i j k, R => i < N ∧ j < N ∧ kGood lt N (k (lt i j)) R
theorem kGood_bind {α β : Type} {lt : Nat → Nat → Bool} {N : Nat} {f : α → KasT β} {R : β → Prop} : ∀ (t : KasT α), kGood lt N t (fun a => kGood lt N (f a) R) → kGood lt N (t.bind f) R
  | .ret _, h => h
  | .ask i j k, ⟨h1, h2, h3⟩ => ⟨h1, h2, kGood_bind (k (lt i j)) h3⟩
theorem kGood_mono {α : Type} {lt : Nat → Nat → Bool} {N : Nat} {R R' : α → Prop} (hr : ∀ a, R a → R' a) : ∀ (t : KasT α), kGood lt N t R → kGood lt N t R'
  | .ret _, h => hr _ h
  | .ask i j k, ⟨h1, h2, h3⟩ => ⟨h1, h2, kGood_mono hr (k (lt i j)) h3⟩
theorem kGood_wp {α : Type} {lt : Nat → Nat → Bool} {N : Nat} {P : Shared → Prop} {cmp : Nat → Nat → (Bool → Shared → Prop) → Shared → Prop} {Q : α → Shared → Prop}
    (hc : ∀ i j C s, i < N → j < N → P s → (∀ s', P s' → C (lt i j) s') → cmp i j C s) : ∀ (t : KasT α) (s : Shared), P s → kGood lt N t (fun a => ∀ s', P s' → Q a s') → t.kasWp cmp Q s
  | .ret _, s, hp, h => h s hp
  | .ask i j k, s, hp, ⟨h1, h2, h3⟩ => hc i j _ s h1 h2 hp fun s' hp' => kGood_wp hc (k (lt i j)) s' hp' h3

structure Ord (lt : Nat → Nat → Bool) : Prop where
  asym : ∀ a b, lt a b = true → lt b a = false
  trans : ∀ a b c, lt b a = false → lt c b = false → lt c a = false
section
variable {lt : Nat → Nat → Bool} {N : Nat}
abbrev gD (p : Array Nat) (i : Nat) : Nat := p.getD i 0
theorem gD_eq (p : Array Nat) (i : Nat) : gD p i = (p[i]?).getD 0 := by
  unfold gD; simp
def Srt (lt : Nat → Nat → Bool) (p : Array Nat) (m : Nat) : Prop := ∀ i j, i ≤ j → j < m → lt (gD p j) (gD p i) = false
def Dsc (lt : Nat → Nat → Bool) (p : Array Nat) (m : Nat) : Prop := ∀ i j, i ≤ j → j < m → lt (gD p i) (gD p j) = false
def Eqs (lt : Nat → Nat → Bool) (p : Array Nat) (a b : Nat) : Prop := ∀ i j, a ≤ i → i < b → a ≤ j → j < b → lt (gD p i) (gD p j) = false
def Pm (N : Nat) (p : Array Nat) : Prop := p.Perm (List.toArray (List.range N))
theorem Pm.size {p : Array Nat} (h : Pm N p) : p.size = N := by
  have := h.size_eq
  simpa using this
theorem Pm.bd {p : Array Nat} (h : Pm N p) (hN : 0 < N) (i : Nat) : gD p i < N := by
  unfold gD
  by_cases hi : i < p.size
  · have hm : p[i] ∈ p := Array.getElem_mem hi
    have : p[i] ∈ (List.toArray (List.range N)) := h.mem_iff.mp hm
    have hlt : p[i] < N := by simpa using this
    simpa [Array.getD, hi] using hlt
  · simpa [Array.getD, hi] using hN
theorem Pm.rev {p : Array Nat} (h : Pm N p) (i j : Nat) : Pm N (kas_rev p i j) := (mirror_perm p i j _).trans h
theorem Pm.bub {p : Array Nat} (h : Pm N p) (i j : Nat) : Pm N (bubble p i j) := (bubble_perm p i j).trans h
theorem rev_get {p : Array Nat} {i j : Nat} (hj : j ≤ p.size) (k : Nat) : gD (kas_rev p i j) k = if i ≤ k ∧ k < j then gD p (i + j - 1 - k) else gD p k := by
  rw [gD_eq, gD_eq, gD_eq]
  unfold kas_rev
  rw [getElem?_mirror_all hj]
  split <;> rfl
theorem asc_good (O : Ord lt) {p : Array Nat} (hp : Pm N p) (hN : 0 < N) : ∀ (f n : Nat), 1 ≤ n → Srt lt p n → kGood lt N (kas_asc p f n) (fun m => n ≤ m ∧ m ≤ n + f ∧ Srt lt p m ∧ (m < n + f → lt (gD p m) (gD p (m - 1)) = true))
  | 0, n, h1, hs => ⟨Nat.le_refl _, Nat.le_refl _, hs, fun h => absurd h (Nat.lt_irrefl _)⟩
  | f + 1, n, h1, hs => by
    refine ⟨hp.bd hN _, hp.bd hN _, ?_⟩
    cases e : lt (p.getD n 0) (p.getD (n - 1) 0) with
    | true =>
      simp only [if_true]
      exact ⟨Nat.le_refl _, by omega, hs, fun _ => e⟩
    | false =>
      simp only [Bool.false_eq_true, if_false]
      have hs' : Srt lt p (n + 1) := by
        intro i j hij hj
        by_cases hjn : j = n
        · subst hjn
          by_cases hin : i = j
          · subst hin
            cases q : lt (gD p i) (gD p i) with
            | false => rfl
            | true => rw [O.asym _ _ q] at q; cases q
          · exact O.trans _ _ _ (hs i (j - 1) (by omega) (by omega)) e
        · exact hs i j hij (by omega)
      exact kGood_mono (fun m ⟨a, b, c, d⟩ => ⟨by omega, by omega, c, fun h => d (by omega)⟩) _ (asc_good O hp hN f (n + 1) (by omega) hs')
theorem irr (O : Ord lt) (a : Nat) : lt a a = false := by
  cases q : lt a a with
  | false => rfl
  | true => rw [O.asym _ _ q] at q; cases q
theorem eqs_rev (O : Ord lt) {p : Array Nat} {a b : Nat} (hb : b ≤ p.size) (h : Eqs lt p a b) : Eqs lt (kas_rev p a b) a b := by
  intro i j h1 h2 h3 h4
  rw [rev_get hb, rev_get hb, if_pos ⟨h1, h2⟩, if_pos ⟨h3, h4⟩]
  exact h _ _ (by omega) (by omega) (by omega) (by omega)
theorem dsc_rev (O : Ord lt) {p : Array Nat} {a b : Nat} (hb : b ≤ p.size) (h : Eqs lt p a b) (hd : Dsc lt p b) : Dsc lt (kas_rev p a b) b := by
  intro i j hij hj
  rw [rev_get hb, rev_get hb]
  by_cases hi : a ≤ i ∧ i < b
  · rw [if_pos hi, if_pos ⟨by omega, hj⟩]
    exact h _ _ (by omega) (by omega) (by omega) (by omega)
  · rw [if_neg hi]
    by_cases hj' : a ≤ j ∧ j < b
    · rw [if_pos hj']
      exact hd _ _ (by omega) (by omega)
    · rw [if_neg hj']
      exact hd _ _ hij hj
theorem dsc_step (O : Ord lt) {p : Array Nat} {n : Nat} (h1 : 1 ≤ n) (hd : Dsc lt p n) (e : lt (gD p (n - 1)) (gD p n) = false) : Dsc lt p (n + 1) := by
  intro i j hij hj
  by_cases hjn : j = n
  · subst hjn
    by_cases hin : i = j
    · subst hin; exact irr O _
    · exact O.trans _ _ _ e (hd i (j - 1) (by omega) (by omega))
  · exact hd i j hij (by omega)
theorem desc_good (O : Ord lt) (hN : 0 < N) : ∀ (f : Nat) (p : Array Nat) (n q : Nat), Pm N p → q + 1 ≤ n → n + f ≤ N → Dsc lt p n → Eqs lt p (n - (q + 1)) n →
    kGood lt N (kas_desc f p n q) (fun r => Pm N r.1 ∧ n ≤ r.2.1 ∧ r.2.1 ≤ n + f ∧ r.2.2 + 1 ≤ r.2.1 ∧ Dsc lt r.1 r.2.1 ∧ Eqs lt r.1 (r.2.1 - (r.2.2 + 1)) r.2.1)
  | 0, p, n, q, hp, hq, hn, hd, he => ⟨hp, Nat.le_refl _, Nat.le_refl _, hq, hd, he⟩
  | f + 1, p, n, q, hp, hq, hn, hd, he => by
    have one : ∀ (p : Array Nat) (n : Nat), Eqs lt p (n + 1 - (0 + 1)) (n + 1) := fun p n i j h1 h2 h3 h4 => by
      have e : i = j := by omega
      subst e; exact irr O _
    refine ⟨hp.bd hN _, hp.bd hN _, ?_⟩
    cases e : lt (p.getD n 0) (p.getD (n - 1) 0) with
    | true =>
      simp only [if_true]
      have e' : lt (gD p (n - 1)) (gD p n) = false := O.asym _ _ e
      by_cases hq0 : q > 0
      · rw [if_pos hq0]
        have hb : n ≤ p.size := by rw [hp.size]; omega
        have hd' := dsc_rev O hb he hd
        refine kGood_mono (fun r ⟨a, b, c, d⟩ => ⟨a, by omega, by omega, d⟩) _ (desc_good O hN f _ (n + 1) 0 (hp.rev _ _) (by omega) (by omega) (dsc_step O (by omega) hd' ?_) (one _ _))
        rw [rev_get hb, rev_get hb, if_pos ⟨by omega, by omega⟩, if_neg (by omega)]
        exact O.trans _ _ _ e' (he _ _ (by omega) (by omega) (by omega) (by omega))
      · rw [if_neg hq0]
        exact kGood_mono (fun r ⟨a, b, c, d⟩ => ⟨a, by omega, by omega, d⟩) _ (desc_good O hN f _ (n + 1) 0 hp (by omega) (by omega) (dsc_step O (by omega) hd e') (one _ _))
    | false =>
      simp only [Bool.false_eq_true, if_false]
      refine ⟨hp.bd hN _, hp.bd hN _, ?_⟩
      cases e2 : lt (p.getD (n - 1) 0) (p.getD n 0) with
      | true =>
        simp only [if_true]
        exact ⟨hp, Nat.le_refl _, (show n ≤ n + (f + 1) by omega), hq, hd, he⟩
      | false =>
        simp only [Bool.false_eq_true, if_false]
        refine kGood_mono (fun r ⟨a, b, c, d⟩ => ⟨a, by omega, by omega, d⟩) _ (desc_good O hN f _ (n + 1) (q + 1) hp (by omega) (by omega) (dsc_step O (by omega) hd e2) ?_)
        intro i j h1 h2 h3 h4
        by_cases hi : i = n
        · by_cases hj : j = n
          · subst hi; subst hj; exact irr O _
          · rw [hi]
            exact O.trans _ _ _ (he j (n - 1) (by omega) (by omega) (by omega) (by omega) |> fun z => he (n - 1) j (by omega) (by omega) (by omega) (by omega)) e
        · by_cases hj : j = n
          · rw [hj]
            exact O.trans _ _ _ e2 (he i (n - 1) (by omega) (by omega) (by omega) (by omega))
          · exact he i j (by omega) (by omega) (by omega) (by omega)
theorem tail3_good (O : Ord lt) (hN : 0 < N) {p : Array Nat} {n : Nat} (hp : Pm N p) (h1 : 1 ≤ n) (hn : n ≤ N) (hd : Dsc lt p n) : kGood lt N (kas_tail3 n N p) (fun r => Pm N r.2 ∧ 1 ≤ r.1 ∧ r.1 ≤ N ∧ Srt lt r.2 r.1) := by
  unfold kas_tail3
  have hb : n ≤ p.size := by rw [hp.size]; exact hn
  have hs : Srt lt (kas_rev p 0 n) n := by
    intro i j hij hj
    rw [rev_get hb, rev_get hb, if_pos ⟨by omega, hj⟩, if_pos ⟨by omega, by omega⟩]
    exact hd _ _ (by omega) (by omega)
  refine kGood_bind _ (kGood_mono (fun m ⟨a, b, c, d⟩ => ?_) _ (asc_good O (hp.rev 0 n) hN (N - n) n h1 hs))
  exact ⟨hp.rev _ _, by show 1 ≤ m; omega, by show m ≤ N; omega, c⟩
theorem descPart_good (O : Ord lt) (hN : 0 < N) {p : Array Nat} {n : Nat} (hp : Pm N p) (h1 : 1 ≤ n) (hn : n + 1 ≤ N) (hd : Dsc lt p (n + 1)) : kGood lt N (kas_descPart n N p) (fun r => Pm N r.2 ∧ 1 ≤ r.1 ∧ r.1 ≤ N ∧ Srt lt r.2 r.1) := by
  unfold kas_descPart
  have e1 : Eqs lt p (n + 1 - (0 + 1)) (n + 1) := fun i j h1 h2 h3 h4 => by
    have e : i = j := by omega
    subst e; exact irr O _
  refine kGood_bind _ (kGood_mono (fun r hr => ?_) _ (desc_good O hN (N - (n + 1)) p (n + 1) 0 hp (by omega) (by omega) hd e1))
  · obtain ⟨a, b, c, d, e, g⟩ := hr
    have hb : r.2.1 ≤ r.1.size := by rw [a.size]; omega
    by_cases hq : r.2.2 > 0
    · rw [if_pos hq]
      exact tail3_good O hN (a.rev _ _) (by omega) (by omega) (dsc_rev O hb g e)
    · rw [if_neg hq]
      exact tail3_good O hN a (by omega) (by omega) e
theorem count_good (O : Ord lt) (hN : 0 < N) {p : Array Nat} (hp : Pm N p) : kGood lt N (kas_count N p) (fun r => Pm N r.2 ∧ 1 ≤ r.1 ∧ r.1 ≤ N ∧ Srt lt r.2 r.1) := by
  unfold kas_count
  have s1 : Srt lt p 1 := fun i j hij hj => by
    have e : i = j := by omega
    subst e; exact irr O _
  refine kGood_bind _ (kGood_mono (fun n ⟨a, b, c, d⟩ => ?_) _ (asc_good O hp hN (N - 1) 1 (Nat.le_refl _) s1))
  by_cases hn : (n == N) = true
  · rw [if_pos hn]
    have : n = N := by simpa using hn
    exact ⟨hp, a, by show n ≤ N; omega, c⟩
  · rw [if_neg hn]
    have hne : n ≠ N := by simpa using hn
    have dl := d (by omega)
    by_cases h1 : n > 1
    · rw [if_pos h1]
      refine ⟨hp.bd hN _, hp.bd hN _, ?_⟩
      cases e : lt (p.getD 0 0) (p.getD (n - 1) 0) with
      | true =>
        simp only [if_true]
        exact ⟨hp, a, by show n ≤ N; omega, c⟩
      | false =>
        simp only [Bool.false_eq_true, if_false]
        have hb : n ≤ p.size := by rw [hp.size]; omega
        have eqs : Eqs lt p 0 n := fun i j _ h2 _ h4 => by
          refine O.trans _ (gD p (n - 1)) _ (c j (n - 1) (by omega) (by omega)) ?_
          exact O.trans _ (gD p 0) _ e (c 0 i (by omega) h2)
        have hd : Dsc lt p n := fun i j hij hj => eqs i j (by omega) (by omega) (by omega) hj
        refine descPart_good O hN (hp.rev _ _) a (by omega) (dsc_step O a (dsc_rev O hb eqs hd) ?_)
        rw [rev_get hb, rev_get hb, if_pos ⟨by omega, by omega⟩, if_neg (by omega)]
        exact O.trans _ _ _ (O.asym _ _ dl) (eqs _ _ (by omega) (by omega) (by omega) (by omega))
    · rw [if_neg h1]
      have e1 : n = 1 := by omega
      subst e1
      refine descPart_good O hN hp (Nat.le_refl _) (by omega) (dsc_step O (Nat.le_refl _) (fun i j hij hj => ?_) (O.asym _ _ dl))
      have e : i = j := by omega
      subst e; exact irr O _
theorem place_good (O : Ord lt) (hN : 0 < N) {p : Array Nat} {k : Nat} (hp : Pm N p) (hs : Srt lt p k) : ∀ (f l r : Nat), l ≤ r → r ≤ k → r - l ≤ f → (∀ i, i < l → lt (gD p k) (gD p i) = false) → (∀ i, r ≤ i → i < k → lt (gD p k) (gD p i) = true) →
    kGood lt N (kas_place p k f l r) (fun l' => l' ≤ k ∧ (∀ i, i < l' → lt (gD p k) (gD p i) = false) ∧ ∀ i, l' ≤ i → i < k → lt (gD p k) (gD p i) = true)
  | 0, l, r, h1, h2, h3, a, b => ⟨by omega, a, fun i hi hk => b i (by omega) hk⟩
  | f + 1, l, r, h1, h2, h3, a, b => by
    unfold kas_place
    by_cases h : l ≥ r
    · rw [if_pos h]
      exact ⟨by omega, a, fun i hi hk => b i (by omega) hk⟩
    · rw [if_neg h]
      refine ⟨hp.bd hN _, hp.bd hN _, ?_⟩
      cases e : lt (p.getD k 0) (p.getD ((l + r) / 2) 0) with
      | true =>
        simp only [if_true]
        refine place_good O hN hp hs f l ((l + r) / 2) (by omega) (by omega) (by omega) a fun i hi hk => ?_
        cases q : lt (gD p k) (gD p i) with
        | true => rfl
        | false =>
          have z := O.trans _ _ _ (hs ((l + r) / 2) i hi hk) q
          rw [e] at z; cases z
      | false =>
        simp only [Bool.false_eq_true, if_false]
        refine place_good O hN hp hs f ((l + r) / 2 + 1) r (by omega) (by omega) (by omega) (fun i hi => ?_) b
        exact O.trans _ _ _ (hs i ((l + r) / 2) (by omega) (by omega)) e
theorem bub_get {p : Array Nat} {k l : Nat} (hk : k < p.size) (hl : l ≤ k) (i : Nat) : gD (bubble p k (k - l)) i = if i = l then gD p k else if l < i ∧ i ≤ k then gD p (i - 1) else gD p i := by
  rw [gD_eq, gD_eq, gD_eq, gD_eq, getElem?_bubble hk (k - l) (by omega)]
  have e : k - (k - l) = l := by omega
  rw [e]
  split
  · rfl
  · split <;> rfl
theorem bin_good (O : Ord lt) (hN : 0 < N) : ∀ (f : Nat) (p : Array Nat) (k : Nat), Pm N p → 1 ≤ k → k + f = N → Srt lt p k → kGood lt N (kas_bin f p k) (fun p' => Pm N p' ∧ Srt lt p' N)
  | 0, p, k, hp, h1, hk, hs => ⟨hp, by have : k = N := by omega
                                       rw [← this]; exact hs⟩
  | f + 1, p, k, hp, h1, hk, hs => by
    unfold kas_bin
    refine kGood_bind _ (kGood_mono (fun l ⟨hl, a, b⟩ => ?_) _ (place_good O hN hp hs k 0 k (Nat.zero_le _) (Nat.le_refl _) (by omega) (fun i hi => absurd hi (Nat.not_lt_zero _)) fun i hi hk => absurd hk (by omega)))
    refine bin_good O hN f _ (k + 1) (hp.bub _ _) (by omega) (by omega) ?_
    have hks : k < p.size := by rw [hp.size]; omega
    intro i j hij hj
    rw [bub_get hks hl, bub_get hks hl]
    by_cases hjl : j = l
    · rw [if_pos hjl]
      by_cases hil : i = l
      · rw [if_pos hil]; exact irr O _
      · rw [if_neg hil, if_neg (by omega)]
        exact a i (by omega)
    · rw [if_neg hjl]
      by_cases hj2 : l < j ∧ j ≤ k
      · rw [if_pos hj2]
        by_cases hil : i = l
        · rw [if_pos hil]
          exact O.asym _ _ (b (j - 1) (by omega) (by omega))
        · rw [if_neg hil]
          by_cases hi2 : l < i ∧ i ≤ k
          · rw [if_pos hi2]
            exact hs _ _ (by omega) (by omega)
          · rw [if_neg hi2]
            exact hs _ _ (by omega) (by omega)
      · rw [if_neg hj2, if_neg (by omega), if_neg (by omega)]
        exact hs _ _ (by omega) (by omega)
theorem sort_good (O : Ord lt) (hN : 0 < N) : kGood lt N (kas_sort N) (fun p => Pm N p ∧ Srt lt p N) := by
  unfold kas_sort
  refine kGood_bind _ (kGood_mono (fun r ⟨a, b, c, d⟩ => ?_) _ (count_good O hN (Array.Perm.refl _)))
  by_cases h : r.1 < N
  · rw [if_pos h]
    have e : max r.1 1 = r.1 := by omega
    rw [e]
    exact bin_good O hN _ _ _ a b (by omega) d
  · rw [if_neg h]
    have e : r.1 = N := by omega
    exact ⟨a, by rw [← e]; exact d⟩
end
end L2
end

section
set_option Elab.async false
set_option linter.all false
set_option maxRecDepth 100000
set_option maxHeartbeats 4000000
namespace L2
open PySem PySem.W PyProof.Rows PySem.Calls

section
variable {prog : Program} {w : World} {A : Around} {E : Value → Shared → Prop} {s : Shared}
def outOf (vs : List Value) (p : Array Nat) : List Value := p.toList.map fun i => vs.getD i Value.none
theorem pm_range {vs : List Value} {p : Array Nat} (h : Pm vs.length p) : (outOf vs p).Perm vs := by
  have h1 : p.toList.Perm (List.range vs.length) := by
    have := h
    unfold Pm at this
    exact Array.perm_iff_toList_perm.mp this
  have h2 : (outOf vs p).Perm ((List.range vs.length).map fun i => vs.getD i Value.none) := h1.map _
  have h3 : ((List.range vs.length).map fun i => vs.getD i Value.none) = vs := by
    apply List.ext_getElem?
    intro i
    rw [List.getElem?_map]
    by_cases hi : i < vs.length
    · rw [List.getElem?_range hi]
      simp [hi]
    · rw [List.getElem?_eq_none (by simpa using hi), List.getElem?_eq_none (by simpa using hi)]
      rfl
  rw [h3] at h2
  exact h2
theorem list_sort_ord {a : Addr} {vs : List Value} {n : Nat} {lt : Nat → Nat → Bool} {P : PySem.Fin → Shared → Prop} (O : Ord lt) (ho : s.heap.get? a = some (seqObj "list" vs.toArray n)) (h64 : vs.length < 64)
    (hk : 2 ≤ vs.length → ∀ h' : Heap, (∀ b o, b ≠ a → s.heap.get? b = some o → h'.get? b = some o) → ∃ κ, (∀ Q : SortKind → Shared → Prop, Q κ { s with heap := h' } → wpAny (model prog w) A (keyKind' vs.toArray) Q (fun _ _ => False) { s with heap := h' }) ∧
      ∀ i j, i < vs.length → j < vs.length → ∀ C : Bool → Shared → Prop, C (lt i j) { s with heap := h' } → wpAny (model prog w) A (keyLt' κ (vs.getD i Value.none) (vs.getD j Value.none)) C (fun _ _ => False) { s with heap := h' })
    (h : ∀ p : Array Nat, Pm vs.length p → Srt lt p vs.length → P (.done (.ret .none)) { s with heap := sortedHeap s.heap a vs (outOf vs p).toArray }) :
    wpAny (model prog w) A (Builtin.«list.sort» ⟨[.ref a], []⟩) P E s := by
  have ha : a < s.heap.objs.size := Heap.lt_size ho
  obtain ⟨e1, ho1⟩ : ∃ e1, (s.heap.update a (Obj.mapSeq fun _ => (#[] : Array Value))).get? a = some (seqObj "list" #[] e1) := ⟨_, get?_update_seq ho fun _ => #[]⟩
  rw [list_sort_plain]
  refine wpAny_bind (listItems_at ho rfl ?_)
  refine wpAny_bind (listUpdate_at ho rfl ?_ (by rw [List.size_toArray, sizeLine_eq]; omega) (Nat.zero_le _))
  refine wpAny_bind (seqEpoch_at ho1 rfl ?_)
  refine wpAny_bind (wpAny_newTuple ?_ (by show vs.length ≤ _; rw [sizeLine_eq]; omega))
  refine wpAny_bind (wpAny_newList ?_ (Nat.zero_le _))
  refine wpAny_holding ?_
  have ho6 : (((s.heap.update a (Obj.mapSeq fun _ => #[])).push (seqObj "tuple" vs.toArray 0)).push (seqObj "list" #[] 0)).get? a = some (seqObj "list" #[] e1) := by
    rw [Heap.get?_push_ne _ _ _ (by rw [size_push', Heap.size_update]; exact Nat.ne_of_lt (Nat.lt_succ_of_lt ha)), Heap.get?_push_ne _ _ _ (by rw [Heap.size_update]; exact Nat.ne_of_lt ha)]
    exact ho1
  show wpAny (model prog w) A _ P E { s with heap := ((s.heap.update a (Obj.mapSeq fun _ => (#[] : Array Value))).push (seqObj "tuple" vs.toArray 0)).push (seqObj "list" #[] 0) }
  dsimp only
  by_cases h2 : vs.toArray.size < 2
  · rw [if_pos h2, if_pos h2]
    refine wpAny_bind (wpAny_pure ?_)
    rw [StateT.run_pure]
    refine wpAny_bind (wpAny_pure ?_)
    dsimp only
    refine wpAny_bind (seqEpoch_at ho6 rfl ?_)
    have hsmall : vs.length < 2 := by simpa using h2
    refine wpAny_bind (listUpdate_at ho6 rfl ?_ (hsz2 := by rw [Array.size_map]; show (pairsOf vs).size ≤ _; rw [pairsOf_size, sizeLine_eq]; omega))
    simp only [bne_self_eq_false, Bool.false_eq_true, if_false]
    have hp : Pm vs.length (List.toArray (List.range vs.length)) := Array.Perm.refl _
    have hs : Srt lt (List.toArray (List.range vs.length)) vs.length := fun i j hij hj => by
      have e : i = j := by omega
      subst e; exact irr O _
    have z := h _ hp hs
    have eo : ((arrOf (SortSt.mk' general' (vs.toArray.zip vs.toArray) #[] 7 none)).map (·.2)) = (outOf vs (List.toArray (List.range vs.length))).toArray := by
      have e1 : outOf vs (List.toArray (List.range vs.length)) = vs := by
        unfold outOf
        apply List.ext_getElem?
        intro i
        rw [List.getElem?_map]
        by_cases hi : i < vs.length
        · simp [List.getElem?_range hi, hi]
        · simp [List.getElem?_eq_none, hi, Nat.le_of_not_lt hi]
      rw [e1]
      show (vs.toArray.zip vs.toArray).map (·.2) = vs.toArray
      apply Array.toList_inj.mp
      simp [List.map_snd_zip]
    refine wpAny_pure ?_
    rw [← eo] at z
    exact z
  · rw [if_neg h2, if_neg h2]
    have h2' : 2 ≤ vs.length := by
      have : ¬ vs.length < 2 := by simpa using h2
      omega
    have keep : ∀ b o, b ≠ a → s.heap.get? b = some o → (((s.heap.update a (Obj.mapSeq fun _ => (#[] : Array Value))).push (seqObj "tuple" vs.toArray 0)).push (seqObj "list" #[] 0)).get? b = some o := fun b o hb e =>
      Heap.get?_push_of_some _ (Heap.get?_push_of_some _ ((Heap.get?_update_other s.heap _ (Ne.symm hb)).trans e))
    obtain ⟨κ, hkk, hlt⟩ := hk h2' _ keep
    refine wpAny_bind (wpAny_mono (hkk _ ?_) (fun κ s0 hk => hk) fun _ _ x => x.elim)
    have tree : (kas_sort vs.length).kasWp (kas_ask prog w A κ vs) (fun p s' => s' = { s with heap := ((s.heap.update a (Obj.mapSeq fun _ => (#[] : Array Value))).push (seqObj "tuple" vs.toArray 0)).push (seqObj "list" #[] 0) } ∧ Pm vs.length p ∧ Srt lt p vs.length)
        { s with heap := ((s.heap.update a (Obj.mapSeq fun _ => (#[] : Array Value))).push (seqObj "tuple" vs.toArray 0)).push (seqObj "list" #[] 0) } := by
      refine kGood_wp (N := vs.length) (lt := lt) (P := fun s' => s' = { s with heap := ((s.heap.update a (Obj.mapSeq fun _ => (#[] : Array Value))).push (seqObj "tuple" vs.toArray 0)).push (seqObj "list" #[] 0) }) ?_ _ _ rfl (kGood_mono (fun p hp s' hs' => ⟨hs', hp.1, hp.2⟩) _ (sort_good O (by omega)))
      intro i j C s' hi hj hs' hC
      subst hs'
      exact hlt i j hi hj C (hC _ rfl)
    refine wpAny_bind (wpAny_mono (kat_run (Q := fun st' s' => ∃ p : Array Nat, p.size = vs.length ∧ arrOf st' = p.map (kas_item (vs.toArray.zip vs.toArray)) ∧ failedOf st' = none ∧
        (s' = { s with heap := ((s.heap.update a (Obj.mapSeq fun _ => (#[] : Array Value))).push (seqObj "tuple" vs.toArray 0)).push (seqObj "list" #[] 0) } ∧ Pm vs.length p ∧ Srt lt p vs.length))
      rfl h2' h64 (fun p' st' s' a1 a2 a3 a4 => ⟨p', a1, a2, a3, a4⟩) tree) ?_ fun _ _ e => e)
    rintro ⟨⟨⟩, st'⟩ s' ⟨p, hp, har, hf, hs', hpm, hsr⟩
    subst hs'
    dsimp only
    have hout := kat_snds rfl har
    rw [hout]
    refine wpAny_bind (seqEpoch_at ho6 rfl ?_)
    refine wpAny_bind (listUpdate_at ho6 rfl ?_ (hsz2 := by rw [List.size_toArray, List.length_map, Array.length_toList, hp, sizeLine_eq]; omega))
    rw [hf]
    simp only [bne_self_eq_false, Bool.false_eq_true, if_false]
    exact wpAny_pure (h p hpm hsr)
theorem sorted_ord {l : Addr} {vs : List Value} {lt : Nat → Nat → Bool} {Q : Value → Shared → Prop} (O : Ord lt) (hl : s.heap.IsList l vs.toArray) (h64 : vs.length < 64)
    (hk : 2 ≤ vs.length → ∀ (A' : Around), A'.units ≤ A.units + 2 → ∀ h' : Heap, (∀ b o, s.heap.get? b = some o → h'.get? b = some o) → ∃ κ, (∀ Q : SortKind → Shared → Prop, Q κ { s with heap := h' } → wpAny (model prog w) A' (keyKind' vs.toArray) Q (fun _ _ => False) { s with heap := h' }) ∧
      ∀ i j, i < vs.length → j < vs.length → ∀ C : Bool → Shared → Prop, C (lt i j) { s with heap := h' } → wpAny (model prog w) A' (keyLt' κ (vs.getD i Value.none) (vs.getD j Value.none)) C (fun _ _ => False) { s with heap := h' })
    (h : ∀ p : Array Nat, Pm vs.length p → Srt lt p vs.length → Q (.ref (s.heap.objs.size + 1)) { s with heap := sortedAll s.heap vs (outOf vs p).toArray }) :
    wpAny (model prog w) A (call (.builtin "sorted") [.ref l]) Q E s := by
  refine Calls.call_function_entry kind_sorted plain_sorted entry_sorted (args_sorted1 _) ?_
  unfold Builtin.«sorted»
  refine wpAny_bind (m := checkCount "sorted" 1 1 _) (wpAny_pure ?_)
  refine wpAny_bind (collect_list hl ?_ (by rw [sizeLine_eq]; omega))
  refine wpAny_bind (wpAny_newList ?_ (by rw [sizeLine_eq]; omega))
  have hsz : ((s.heap.push (seqObj "list" #[] 0)).update s.heap.objs.size (Obj.mapSeq (· ++ vs.toArray))).objs.size = s.heap.objs.size + 1 := by
    rw [Heap.size_update, size_push']
  have hoL : (((s.heap.push (seqObj "list" #[] 0)).update s.heap.objs.size (Obj.mapSeq (· ++ vs.toArray))).push (seqObj "list" vs.toArray 0)).get? (s.heap.objs.size + 1) = some (seqObj "list" vs.toArray 0) := by
    rw [← hsz]; exact Heap.get?_push_size _ rfl
  have keep : ∀ b o, s.heap.get? b = some o → b ≠ s.heap.objs.size + 1 ∧ (((s.heap.push (seqObj "list" #[] 0)).update s.heap.objs.size (Obj.mapSeq (· ++ vs.toArray))).push (seqObj "list" vs.toArray 0)).get? b = some o := fun b o q => by
    have hlt : b < s.heap.objs.size := Heap.lt_size q
    refine ⟨Nat.ne_of_lt (Nat.lt_succ_of_lt hlt), ?_⟩
    rw [Heap.get?_push_ne _ _ _ (by rw [hsz]; exact Nat.ne_of_lt (Nat.lt_succ_of_lt hlt)), Heap.get?_update_ne _ _ _ _ (Nat.ne_of_lt hlt), Heap.get?_push_ne _ _ _ (Nat.ne_of_lt hlt)]
    exact q
  show wpAny _ _ _ _ _ { s with heap := ((s.heap.push (seqObj "list" #[] 0)).update s.heap.objs.size (Obj.mapSeq (· ++ vs.toArray))).push (seqObj "list" vs.toArray 0) }
  rw [hsz]
  refine wpAny_bind (wpAny_holding (wpAny_call_entry slot_list_sort ⟨_, hoL, rfl⟩ entry_list_sort ?body (args_list_sort _)))
  case body =>
    refine list_sort_ord O hoL h64 (fun h2 h' kp => hk h2 _ ?_ h' fun b o e => kp b o (keep b o e).1 (keep b o e).2) fun p a1 a2 => ⟨_, rfl, wpAny_pure ⟨_, rfl, h p a1 a2⟩⟩
    show A.units + 1 + 1 ≤ A.units + 2
    omega
end
end L2
end

section
set_option Elab.async false
set_option linter.all false
set_option maxRecDepth 100000
set_option maxHeartbeats 4000000
namespace L2
open PySem PySem.W PyProof.Rows PySem.Calls

theorem lexLt_asym : ∀ (a b : List Int), HT.lexLt a b = true → HT.lexLt b a = false
  | [], [], h => by cases h
  | [], _ :: _, _ => rfl
  | _ :: _, [], h => by cases h
  | x :: xs, y :: ys, h => by
    rw [HT.lexLt_cons] at h ⊢
    by_cases e : x = y
    · subst e
      rw [if_pos rfl] at h ⊢
      exact lexLt_asym xs ys h
    · rw [if_neg e] at h
      rw [if_neg (Ne.symm e)]
      have : x < y := by simpa using h
      exact decide_eq_false (by omega)
theorem lexLt_trans : ∀ (a b c : List Int), HT.lexLt b a = false → HT.lexLt c b = false → HT.lexLt c a = false
  | [], [], [], _, _ => rfl
  | [], [], _ :: _, _, _ => rfl
  | [], _ :: _, [], _, h => by cases h
  | [], _ :: _, _ :: _, _, _ => rfl
  | _ :: _, [], _, h, _ => by cases h
  | _ :: _, _ :: _, [], _, h => by cases h
  | x :: xs, y :: ys, z :: zs, h1, h2 => by
    rw [HT.lexLt_cons] at h1 h2 ⊢
    by_cases e1 : y = x
    · subst e1
      rw [if_pos rfl] at h1
      by_cases e2 : z = y
      · subst e2
        rw [if_pos rfl] at h2 ⊢
        exact lexLt_trans xs ys zs h1 h2
      · rw [if_neg e2] at h2 ⊢
        exact h2
    · rw [if_neg e1] at h1
      have l1 : ¬ y < x := by simpa using h1
      by_cases e2 : z = y
      · subst e2
        rw [if_neg e1]
        exact decide_eq_false l1
      · rw [if_neg e2] at h2
        have l2 : ¬ z < y := by simpa using h2
        rw [if_neg (by omega)]
        exact decide_eq_false (by omega)
theorem lexOrd (ks : List (List Int)) : Ord (fun i j => HT.lexLt (ks.getD i []) (ks.getD j [])) := ⟨fun a b => lexLt_asym _ _, fun a b c => lexLt_trans _ _ _⟩

/-- items that are tuples of ints -/
def TIs (K : PySem.W.Frag) (H : Hp) (ys : List V) (ks : List (List Int)) : Prop := Paired (fun (v : V) (t : List Int) => ∃ a, v = .ref a ∧ SqT K H a (t.map V.int)) ys ks
theorem Paired.getD {α β : Type} {F : α → β → Prop} {d : α} {d' : β} : ∀ {xs : List α} {ys : List β}, Paired F xs ys → ∀ i, i < xs.length → F (xs.getD i d) (ys.getD i d')
  | _, _, .nil, i, h => absurd h (Nat.not_lt_zero _)
  | _, _, .cons r _, 0, _ => r
  | _, _, .cons _ t, i + 1, h => by
    have := Paired.getD (d := d) (d' := d') t i (by simpa using h)
    simpa using this
theorem katLex_ints {prog : Program} {w : World} {A : Around} {b : Bool} {Q : Bool → Shared → Prop} {s : Shared} : ∀ (xs ys : List Value) (as bs : List Int) (i : Nat), Vals (as.map V.int) xs → Vals (bs.map V.int) ys →
    Q (HT.lexLt as bs) s → ∀ fin, (∀ (n : Nat), fin = decide (n + xs.length < n + ys.length) → True) → (fin = decide (xs.length < ys.length)) → KatLex prog w A b fin Q (xs.zip ys) i s
  | [], ys, as, bs, i, h1, h2, q, fin, _, hf => by
    have e : as = [] := by
      have := h1.length
      simpa using this
    subst e
    show Q fin s
    cases bs with
    | nil =>
      cases h2
      rw [hf]; exact q
    | cons y bs =>
      cases h2 with
      | cons _ t =>
        have q : Q true s := q
        rw [hf]; simpa using q
  | x :: xs, [], as, bs, i, h1, h2, q, fin, _, hf => by
    have e : bs = [] := by
      have := h2.length
      simpa using this
    subst e
    cases as with
    | nil => cases h1
    | cons a as =>
      show Q fin s
      have q : Q false s := q
      rw [hf]
      simpa using q
  | x :: xs, y :: ys, as, bs, i, h1, h2, q, fin, _, hf => by
    cases as with
    | nil => cases h1
    | cons a as =>
      cases bs with
      | nil => cases h2
      | cons c bs =>
        cases h1 with
        | cons r1 t1 =>
          cases h2 with
          | cons r2 t2 =>
            obtain ⟨t, rfl⟩ := r1
            obtain ⟨u, rfl⟩ := r2
            refine kat_cons (wpAny_eqBool_int ?_)
            rw [HT.lexLt_cons] at q
            by_cases e : a = c
            · subst e
              rw [show (a == a) = true by simp]
              rw [if_pos rfl] at q
              exact kat_yes (katLex_ints xs ys as bs (i + 1) t1 t2 q fin (fun _ _ => True.intro) (by rw [hf]; simp))
            · rw [show (a == c) = false by simpa using e]
              rw [if_neg e] at q
              refine kat_no ?_
              cases hb : (b && i == 0) with
              | true => exact oneLt_int q
              | false => exact kat_one _ _ (lt_int q)
section
variable {X : Cx}
theorem call_sorted_ints : CallR X (.builtin "sorted") (fun xs H Q => ∃ p ns, xs = [.ref p] ∧ SqL X.K H p (ns.map V.int) ∧ ns.length < 64 ∧ ∀ (ns' : List Int) l, ns'.Perm ns → ns'.Pairwise (· ≤ ·) → H l = none → Q (.ref l) (upd H l (.lst (ns'.map V.int)))) := by
  intro pins s σ H xs us Q I r h
  obtain ⟨p, ns, rfl, hq, h64, q⟩ := h
  obtain ⟨u, rfl, rx⟩ := vals1 r
  cases rx
  obtain ⟨its, rv, pl, hz⟩ := I.list hq
  have hI : IntsAre its ns := by
    clear pl hz h64 q hq
    induction ns generalizing its with
    | nil => cases rv; exact .nil
    | cons n ns ih =>
      cases rv with
      | cons r1 t1 =>
        obtain ⟨t, rfl⟩ := r1
        exact .cons n t (ih _ t1)
  have hl := rv.length
  rw [List.length_map] at hl
  refine sorted_ints pl.isList hI (by omega) fun out ns' ho hp hs => ?_
  obtain ⟨e, he⟩ := sortedAll_at s.heap its out
  have hv : Vals (ns'.map V.int) out.toList := by
    clear he hp hs
    generalize out.toList = os at ho
    induction ho with
    | nil => exact .nil
    | cons n t _ ih => exact .cons ⟨_, rfl⟩ ih
  have hlen : (ns'.map V.int).length ≤ sizeLine := by
    rw [List.length_map, hp.length_eq, sizeLine_eq]; omega
  refine ⟨.ref (s.heap.objs.size + 1), _, I.laid (t' := s.toks) (a := s.heap.objs.size + 1) (o := .lst (ns'.map V.int)) (fun b u e => sortedAll_old e) (Nat.le_succ _) ?_, rfl, q ns' _ hp hs (I.hok.fresh (Nat.le_succ _))⟩
  refine ⟨hlen, out.toList, e, hv, ?_⟩
  rw [he]
  all_goals simp [seqObj]
theorem tups_firsts {pins : List (Addr × Obj)} {σ : St} {H : Hp} {s : Shared} {h' : Heap} (I : Inv X pins σ H s) (kp : ∀ b o, s.heap.get? b = some o → h'.get? b = some o) : ∀ {ys : List V} {ks : List (List Int)} {its : List Value}, TIs X.K H ys ks → Vals ys its → (∀ t ∈ ks, t ≠ []) →
    ∃ fs, KatTups h' its fs ∧ fs.length = its.length ∧ ∀ v ∈ fs, ∃ i t, v = Value.int i t
  | _, _, _, .nil, .nil, _ => ⟨[], .nil, rfl, fun _ h => nomatch h⟩
  | _, _, _, .cons (b := t) ⟨a, e, hq⟩ r, .cons (b := u) ru rr, hne => by
    subst e
    cases ru
    obtain ⟨fs, h1, h2, h3⟩ := tups_firsts I kp r rr fun t ht => hne t (List.mem_cons_of_mem _ ht)
    obtain ⟨its', rv, ⟨o, ho, hc, n, hd⟩, _⟩ := I.tuple hq
    cases t with
    | nil => exact absurd rfl (hne [] List.mem_cons_self)
    | cons i t =>
      cases rv with
      | cons r1 t1 =>
        obtain ⟨tk, rfl⟩ := r1
        refine ⟨.int i tk :: fs, .cons (kp _ _ ho) hc hd rfl h1, by simp [h2], fun v hv => ?_⟩
        rcases List.mem_cons.mp hv with e | hv
        · exact ⟨i, tk, e⟩
        · exact h3 v hv
theorem getD_map_perm {α β : Type} {p : Array Nat} {zs : List α} {d : α} (h : Pm zs.length p) : (p.toList.map fun i => zs.getD i d).Perm zs := by
  have h1 : p.toList.Perm (List.range zs.length) := Array.perm_iff_toList_perm.mp h
  have h2 : (p.toList.map fun i => zs.getD i d).Perm ((List.range zs.length).map fun i => zs.getD i d) := h1.map _
  have h3 : ((List.range zs.length).map fun i => zs.getD i d) = zs := by
    apply List.ext_getElem?
    intro i
    rw [List.getElem?_map]
    by_cases hi : i < zs.length
    · rw [List.getElem?_range hi]
      simp [hi]
    · rw [List.getElem?_eq_none (by simpa using hi), List.getElem?_eq_none (by simpa using hi)]
      rfl
  rw [h3] at h2
  exact h2
theorem zip_getD {α β : Type} {d : α} {d' : β} : ∀ {xs : List α} {ys : List β} (i : Nat), xs.length = ys.length → (xs.zip ys).getD i (d, d') = (xs.getD i d, ys.getD i d')
  | [], [], i, _ => by simp
  | x :: xs, y :: ys, 0, _ => rfl
  | x :: xs, y :: ys, i + 1, h => by
    have := zip_getD (d := d) (d' := d') (xs := xs) (ys := ys) i (by simpa using h)
    simpa using this
  | [], _ :: _, _, h => by simp at h
  | _ :: _, [], _, h => by simp at h
/-- tuples of ints, none empty: a rising list of the same -/
theorem call_sorted_tups : CallR X (.builtin "sorted") (fun xs H Q => ∃ p ys ks, xs = [.ref p] ∧ SqL X.K H p ys ∧ TIs X.K H ys ks ∧ (∀ t ∈ ks, t ≠ []) ∧ ys.length < 64 ∧
    ∀ (zs : List (V × List Int)) l, zs.Perm (ys.zip ks) → (zs.map (·.2)).Pairwise (fun a b => HT.lexLt b a = false) → H l = none → Q (.ref l) (upd H l (.lst (zs.map (·.1))))) := by
  intro pins s σ H xs us Q I r h
  obtain ⟨p, ys, ks, rfl, hq, ht, hne, h64, q⟩ := h
  obtain ⟨u, rfl, rx⟩ := vals1 r
  cases rx
  obtain ⟨its, rv, pl, hz⟩ := I.list hq
  have hl := rv.length
  have hk : ys.length = ks.length := Paired.length ht
  refine sorted_ord (lexOrd ks) pl.isList (by omega) (fun h2 A' _ h' kp => ⟨tuples' true, fun Q' hq' => ?_, fun i j hi hj C hC => ?_⟩) fun pm hpm hsr => ?_
  · obtain ⟨fs, h1, h2', h3⟩ := tups_firsts I kp ht rv hne
    refine kat_kind (s := { s with heap := h' }) (T := .type "int") h1 (by omega) (fun v hv => ?_) rfl hq'
    obtain ⟨i, t, rfl⟩ := h3 v hv
    exact Looks.now
  · have hiy : i < ys.length := by omega
    have hjy : j < ys.length := by omega
    obtain ⟨a, ea, qa⟩ := Paired.getD (d := V.non) (d' := []) ht i hiy
    obtain ⟨b, eb, qb⟩ := Paired.getD (d := V.non) (d' := []) ht j hjy
    have ra := Paired.getD (d := V.non) (d' := Value.none) rv i hiy
    have rb := Paired.getD (d := V.non) (d' := Value.none) rv j hjy
    rw [ea] at ra
    rw [eb] at rb
    have ra : its.getD i Value.none = .ref a := ra
    have rb : its.getD j Value.none = .ref b := rb
    rw [ra, rb]
    obtain ⟨ia, va, ⟨oa, ha, _, na, da⟩, _⟩ := I.tuple qa
    obtain ⟨ib, vb, ⟨ob, hb, _, nb, db⟩, _⟩ := I.tuple qb
    refine kat_lt (s := { s with heap := h' }) (kp _ _ ha) da (kp _ _ hb) db ?_
    refine katLex_ints ia ib _ _ 0 va vb hC _ (fun _ _ => True.intro) ?_
    simp
  · have hlen : its.length = ys.length := hl.symm
    have hzl : (ys.zip ks).length = its.length := by rw [List.length_zip]; omega
    let zs : List (V × List Int) := pm.toList.map fun i => (ys.zip ks).getD i (V.non, [])
    have hzp : zs.Perm (ys.zip ks) := getD_map_perm (β := Nat) (by rw [hzl]; exact hpm)
    have e1 : zs.map (·.1) = pm.toList.map fun i => ys.getD i V.non := by
      show List.map _ (List.map _ _) = _
      rw [List.map_map]
      exact List.map_congr_left fun i _ => by show ((ys.zip ks).getD i (V.non, [])).1 = _; rw [zip_getD i hk]
    have e2 : zs.map (·.2) = pm.toList.map fun i => ks.getD i [] := by
      show List.map _ (List.map _ _) = _
      rw [List.map_map]
      exact List.map_congr_left fun i _ => by show ((ys.zip ks).getD i (V.non, [])).2 = _; rw [zip_getD i hk]
    have hpw : (zs.map (·.2)).Pairwise (fun a b => HT.lexLt b a = false) := by
      rw [e2, List.pairwise_map, List.pairwise_iff_getElem]
      intro i j hi hj hij
      have sz : pm.toList.length = its.length := by rw [Array.length_toList]; exact hpm.size
      have z := hsr i j (by omega) (by omega)
      have gi : gD pm i = pm.toList[i] := by unfold gD; simp [Array.getD, show i < pm.size by simpa using hi]
      have gj : gD pm j = pm.toList[j] := by unfold gD; simp [Array.getD, show j < pm.size by simpa using hj]
      rw [gi, gj] at z
      exact z
    obtain ⟨e, he⟩ := sortedAll_at s.heap its (outOf its pm).toArray
    have hv : Vals (zs.map (·.1)) (outOf its pm) := by
      rw [e1]
      unfold outOf
      have hb : ∀ i ∈ pm.toList, i < ys.length := fun i hi => by
        have h1 : pm.toList.Perm (List.range its.length) := Array.perm_iff_toList_perm.mp hpm
        have := h1.mem_iff.mp hi
        have : i < its.length := by simpa using this
        omega
      clear he hpw e1 e2 hzp hsr hpm
      generalize pm.toList = ix at hb
      clear zs
      induction ix with
      | nil => exact .nil
      | cons i ix ih => exact .cons (Paired.getD (d := V.non) (d' := Value.none) rv i (hb i List.mem_cons_self)) (ih fun j hj => hb j (List.mem_cons_of_mem _ hj))
    refine ⟨.ref (s.heap.objs.size + 1), _, I.laid (t' := s.toks) (a := s.heap.objs.size + 1) (o := .lst (zs.map (·.1))) (fun b u e => sortedAll_old e) (Nat.le_succ _) ?_, rfl, q zs _ hzp hpw (I.hok.fresh (Nat.le_succ _))⟩
    refine ⟨?_, outOf its pm, e, hv, he⟩
    rw [List.length_map, hzp.length_eq, hzl, sizeLine_eq]
    omega
end
end L2
end

section
set_option Elab.async false
set_option linter.all false
set_option maxRecDepth 100000
set_option maxHeartbeats 4000000
namespace L2
open PySem PySem.Spec PyProof.Rows

/-! ### zip of two tuples -/
section
variable {prog : Program} {w : World} {A : Around} {E : Value → Shared → Prop} {s : Shared}
theorem nx_item {j t : Addr} {k : Nat} {its : Array Value} {v : Value} {Q : Value → Shared → Prop} (hj : s.heap.IsTupleIter j t k) (ht : s.heap.IsTuple t its) (hv : its[k]? = some v)
    (h : ∀ g, g.IsTupleIter j t (k + 1) → Heap.SameBut j s.heap g → Q v { s with heap := g }) : wpAny (model prog w) A (Builtin.SmallTypes.nextOf (.ref j)) Q E s := by
  obtain ⟨oj, ej, cj, dj⟩ := id hj
  obtain ⟨ot, et, _, nt, dt⟩ := ht
  unfold Builtin.SmallTypes.nextOf
  refine wpAny_bind (wpAny_callSpecial?_slot (name := Str.ofString "__next__") hj.typeIs F.slot_tuple_iterator_next (wpAny_call_entry F.slot_tuple_iterator_next hj.typeIs F.entry_tuple_iterator_next ?body (F.args_tuple_iterator_next_1 _)))
  case body =>
    show wpAny _ _ (field (.ref j) 0 >>= _) _ _ s
    refine wpAny_bind (wpAny_field ej dj (x := .ref t) rfl ?a)
    case a =>
      show wpAny _ _ (if (Value.ref t == Value.none) = true then _ else _) _ _ s
      rw [if_neg (by intro z; exact Bool.false_ne_true z)]
      show wpAny _ _ (field (.ref j) 1 >>= _) _ _ s
      refine wpAny_bind (wpAny_field ej dj (x := .int k 0) rfl ?b)
      case b =>
        show wpAny _ _ (seqItems? (.ref t) >>= _) _ _ s
        refine wpAny_bind (wpAny_seqItems et dt ?c)
        case c =>
          simp only [Int.toNat_natCast, hv]
          refine wpAny_bind (wpAny_setField ej dj (by simp) (wpAny_pure ⟨v, rfl, wpAny_pure (h _ ⟨_, Heap.get?_update_self _ ej (Obj.isFreed_of_fields (Obj.data_mapFields dj _)), (Obj.cls_mapFields ..).trans cj, ?d⟩ (Heap.SameBut.update ..))⟩))
          rw [Obj.data_mapFields dj]
          simp [rawInt]
theorem nx_end {j t : Addr} {k : Nat} {its : Array Value} {Q : Value → Shared → Prop} (hh : A.handled = none) (hj : s.heap.IsTupleIter j t k) (ht : s.heap.IsTuple t its) (hv : its[k]? = none)
    (h : ∀ g x, Heap.ExtBut j s.heap g → (∃ o, g.get? x = some o ∧ o.cls = .type "StopIteration") → E (.ref x) { s with heap := g }) : wpAny (model prog w) A (Builtin.SmallTypes.nextOf (.ref j)) Q E s := by
  obtain ⟨oj, ej, cj, dj⟩ := id hj
  obtain ⟨ot, et, _, nt, dt⟩ := ht
  unfold Builtin.SmallTypes.nextOf
  refine wpAny_bind (wpAny_callSpecial?_slot (name := Str.ofString "__next__") hj.typeIs F.slot_tuple_iterator_next (wpAny_call_entry F.slot_tuple_iterator_next hj.typeIs F.entry_tuple_iterator_next ?body (F.args_tuple_iterator_next_1 _)))
  case body =>
    show wpAny _ _ (field (.ref j) 0 >>= _) _ _ s
    refine wpAny_bind (wpAny_field ej dj (x := .ref t) rfl ?a)
    case a =>
      show wpAny _ _ (if (Value.ref t == Value.none) = true then _ else _) _ _ s
      rw [if_neg (by intro z; exact Bool.false_ne_true z)]
      show wpAny _ _ (field (.ref j) 1 >>= _) _ _ s
      refine wpAny_bind (wpAny_field ej dj (x := .int k 0) rfl ?b)
      case b =>
        show wpAny _ _ (seqItems? (.ref t) >>= _) _ _ s
        refine wpAny_bind (wpAny_seqItems et dt ?c)
        case c =>
          simp only [Int.toNat_natCast, hv]
          refine wpAny_bind (wpAny_rule (wpAny_bind (wpAny_setField ej dj (by simp) ?d)))
          case d =>
            show wpAny _ _ (newExc (.type "StopIteration") [] >>= _) _ _ _
            refine wpAny_bind ?f
            simp only [newExc, newTuple]
            refine wpAny_bind (wpAny_newObj_type ?g (by size_fits))
            case g =>
              refine wpAny_bind (m := firstArgMember _ _) (wpAny_of_eq (a := Value.none) (by first | rfl | (simp only [firstArgMember]; rfl)) ?k)
              case k =>
                refine wpAny_newObj_type ?l (by size_fits)
                simp only [raiseNew]
                refine wpAny_bind (wpAny_handled ?m)
                first | rw [show A.in1.handled = none from hh] | rw [hh]
                refine wpAny_bind (wpAny_pure (wpAny_throw (h _ _ (((Heap.SameBut.update ..).extBut.push _).push _) ⟨_, Heap.get?_push_size _ rfl, rfl⟩)))
/-- a zip of two tuples, k turns on: its own record, the pair of its iterators, the pair that it fills, the iterators -/
structure ZS (g : Heap) (z p q i j a b : Addr) (k : Nat) : Prop where
  zr : IsZip g z p q .none
  ins : IsPair g p (.ref i) (.ref j)
  out : ∃ u v, IsPair g q u v
  one : g.IsTupleIter i a k
  two : g.IsTupleIter j b k
theorem ZS.keep {g g' : Heap} {z p q i j a b : Addr} {k : Nat} (x : ZS g z p q i j a b k) (h : ∀ c ∈ [z, p, q, i, j], ∀ o, g.get? c = some o → g'.get? c = some o) : ZS g' z p q i j a b k :=
  ⟨h z (by simp) _ x.zr, h p (by simp) _ x.ins, let ⟨u, v, e⟩ := x.out; ⟨u, v, h q (by simp) _ e⟩, x.one.at fun o e => h i (by simp) o e, x.two.at fun o e => h j (by simp) o e⟩
theorem zip_go {z p q i j a b : Addr} {k : Nat} {xs ys : Array Value} {x y : Value} {Q : Option Value → Shared → Prop} (D : ZipApart z p q i j a b) (Z : ZS s.heap z p q i j a b k) (ha : s.heap.IsTuple a xs) (hb : s.heap.IsTuple b ys) (hx : xs[k]? = some x) (hy : ys[k]? = some y)
    (h : ∀ g, IsZip g z p q (rawInt s.heap.objs.size) → IsPair g p (.ref i) (.ref j) → IsPair g q x y → g.IsTupleIter i a (k + 1) → g.IsTupleIter j b (k + 1) → IsPair g s.heap.objs.size x y → (∀ c o, c ∉ [z, q, i, j] → s.heap.get? c = some o → g.get? c = some o) → Q (some (.ref s.heap.objs.size)) { s with heap := g }) :
    wpAny (model prog w) A (pyNext (.ref z)) Q E s := by
  have hT : s.TypeIs (.ref z) "zip" := ⟨_, Z.zr, rfl⟩
  obtain ⟨u0, v0, eq⟩ := Z.out
  unfold pyNext
  refine wpAny_bind (wpAny_attempt (wpAny_callSpecial?_slot (name := Str.ofString "__next__") hT F.slot_zip_next (wpAny_call_entry F.slot_zip_next hT F.entry_zip_next ?body (F.args_zip_next_1 _))))
  case body =>
    show wpAny _ _ (field (.ref z) 2 >>= _) _ _ _
    refine wpAny_bind (wpAny_field Z.zr rfl (x := .bool false) rfl ?f2)
    show wpAny _ _ (field (.ref z) 3 >>= _) _ _ _
    refine wpAny_bind (wpAny_field Z.zr rfl (x := .ref p) rfl (wpAny_bind (wpAny_seqItems Z.ins rfl ?f3)))
    show wpAny _ _ (Builtin.SmallTypes.ownedTupleIsFree (.ref z) >>= _) _ _ _
    refine wpAny_bind ?f4
    unfold Builtin.SmallTypes.ownedTupleIsFree
    refine wpAny_bind (wpAny_field Z.zr rfl (x := .none) rfl (wpAny_pure ?f5))
    simp only [if_true]
    refine wpAny_bind (wpAny_rule (wpAny_bind (wpAny_field Z.zr rfl (x := .ref q) rfl (wpAny_bind (wpAny_setField_rec Z.zr (by simp) fun g1 z1 s1 => ?f6)))))
    have z1 : IsZip g1 z p q .ellipsis := z1
    refine wpAny_bind ?f7
    simp only [List.zipIdx_cons, List.zipIdx_nil, List.forIn_cons, List.forIn_nil]
    -- the first one's item goes into the pair
    refine wpAny_bind (wpAny_bind (wpAny_onRaise ?f8))
    show wpAny _ _ (Builtin.SmallTypes.nextOf (.ref i) >>= _) _ _ _
    refine wpAny_bind (nx_item (Z.one.extBut s1.extBut D.i1z) (ha.extBut s1.extBut D.l1z) hx fun g2 i2 s2 => wpAny_pure ?f9)
    have q2 : IsPair g2 q u0 v0 := s2.extBut _ _ D.TOi1 (s1.extBut _ _ D.TOz eq)
    refine wpAny_bind (wpAny_seqItems q2 rfl (wpAny_bind (wpAny_updateSeq_pair q2 fun g3 q3 s3 => ?f10)))
    have q3 : IsPair g3 q x v0 := q3
    refine wpAny_bind (wpAny_letGo (wpAny_pure ?f11))
    -- the second one's
    refine wpAny_bind (wpAny_bind (wpAny_onRaise ?f12))
    show wpAny _ _ (Builtin.SmallTypes.nextOf (.ref j) >>= _) _ _ _
    refine wpAny_bind (nx_item (((Z.two.extBut s1.extBut D.i2z).extBut s2.extBut D.i12.symm).extBut s3.extBut D.TOi2.symm) (((hb.extBut s1.extBut D.l2z).extBut s2.extBut D.l2i1).extBut s3.extBut D.l2TO) hy fun g4 j4 s4 => wpAny_pure ?f13)
    have q4 : IsPair g4 q x v0 := s4.extBut _ _ D.TOi2 q3
    refine wpAny_bind (wpAny_seqItems q4 rfl (wpAny_bind (wpAny_updateSeq_pair q4 fun g5 q5 s5 => ?f14)))
    have q5 : IsPair g5 q x y := q5
    refine wpAny_bind (wpAny_letGo (wpAny_pure (wpAny_pure ?f15)))
    refine wpAny_bind (wpAny_seqItems q5 rfl (wpAny_bind (wpAny_newTuple ?f16)))
    have sz : g5.objs.size = s.heap.objs.size := by rw [s5.1, s4.1, s3.1, s2.1, s1.1]
    have z5 : IsZip g5 z p q .ellipsis := s5.extBut _ _ D.TOz.symm (s4.extBut _ _ D.i2z.symm (s3.extBut _ _ D.TOz.symm (s2.extBut _ _ D.i1z.symm z1)))
    have k5 : ∀ c o, c ∉ [z, q, i, j] → s.heap.get? c = some o → g5.get? c = some o := fun c o hc e => by
      have c1 : c ≠ z := fun t => hc (by simp [t])
      have c2 : c ≠ q := fun t => hc (by simp [t])
      have c3 : c ≠ i := fun t => hc (by simp [t])
      have c4 : c ≠ j := fun t => hc (by simp [t])
      exact s5.extBut _ _ c2 (s4.extBut _ _ c4 (s3.extBut _ _ c2 (s2.extBut _ _ c3 (s1.extBut _ _ c1 e))))
    have i5 : g5.IsTupleIter i a (k + 1) := ((i2.extBut s3.extBut D.TOi1.symm).extBut s4.extBut D.i12).extBut s5.extBut D.TOi1.symm
    have j5 : g5.IsTupleIter j b (k + 1) := j4.extBut s5.extBut D.TOi2.symm
    have zlt : z < g5.objs.size := Heap.lt_size z5
    show wpAny _ _ (Builtin.SmallTypes.ownedTupleHandOut (.ref z) (.ref g5.objs.size) >>= _) _ _ _
    refine wpAny_bind ?f17
    unfold Builtin.SmallTypes.ownedTupleHandOut
    have z6 : IsZip (g5.push { cls := .type "tuple", data := .seq #[x, y] }) z p q .ellipsis := Heap.get?_push_of_some _ z5
    refine wpAny_bind (wpAny_setField_rec z6 (by simp) fun g7 z7 s7 => ?f18)
    have z7 : IsZip g7 z p q (rawInt g5.objs.size) := z7
    refine wpAny_setField_rec z7 (by simp) fun g8 z8 s8 => ?f19
    have z8 : IsZip g8 z p q (rawInt g5.objs.size) := z8
    have up : ∀ c o, c ≠ z → g5.get? c = some o → g8.get? c = some o := fun c o c1 e => s8.extBut _ _ c1 (s7.extBut _ _ c1 (Heap.get?_push_of_some _ e))
    have t8 : IsPair g8 g5.objs.size x y := s8.extBut _ _ (Nat.ne_of_gt zlt) (s7.extBut _ _ (Nat.ne_of_gt zlt) (Heap.get?_push_size _ rfl))
    rw [sz] at z8 t8
    have pne : p ∉ [z, q, i, j] := by
      intro t
      simp only [List.mem_cons, List.not_mem_nil, or_false] at t
      rcases t with t | t | t | t
      · exact D.TIz t
      · exact D.TITO t
      · exact D.TIi1 t
      · exact D.TIi2 t
    have fin := h g8 z8 (up _ _ D.TIz (k5 p _ pne Z.ins)) (up _ _ D.TOz q5) (i5.at fun o e => up _ o D.i1z e) (j5.at fun o e => up _ o D.i2z e) t8 fun c o hc e => up c o (fun t => hc (by simp [t])) (k5 c o hc e)
    refine wpAny_pure ⟨_, rfl, wpAny_pure ?_⟩
    show Q (some (.ref g5.objs.size)) _
    rw [sz]
    exact fin
theorem zip_stop {z p q i j a b : Addr} {k : Nat} {xs ys : Array Value} {Q : Option Value → Shared → Prop} (hh : A.handled = none) (D : ZipApart z p q i j a b) (Z : ZS s.heap z p q i j a b k) (ha : s.heap.IsTuple a xs) (hb : s.heap.IsTuple b ys) (he : xs[k]? = none ∨ ys[k]? = none)
    (h : ∀ g, (∀ c o, c ∉ [z, q, i, j] → s.heap.get? c = some o → g.get? c = some o) → Q none { s with heap := g }) : wpAny (model prog w) A (pyNext (.ref z)) Q E s := by
  have hT : s.TypeIs (.ref z) "zip" := ⟨_, Z.zr, rfl⟩
  obtain ⟨u0, v0, eq⟩ := Z.out
  have apart : ∀ c, c ∉ [z, q, i, j] → c ≠ z ∧ c ≠ q ∧ c ≠ i ∧ c ≠ j := fun c hc => ⟨fun t => hc (by simp [t]), fun t => hc (by simp [t]), fun t => hc (by simp [t]), fun t => hc (by simp [t])⟩
  unfold pyNext
  refine wpAny_bind (wpAny_attempt (wpAny_callSpecial?_slot (name := Str.ofString "__next__") hT F.slot_zip_next (wpAny_call_entry F.slot_zip_next hT F.entry_zip_next ?body (F.args_zip_next_1 _))))
  case body =>
    have fin : ∀ g x, (∀ c o, c ∉ [z, q, i, j] → s.heap.get? c = some o → g.get? c = some o) → (∃ o, g.get? x = some o ∧ o.cls = .type "StopIteration") → wpAny (model prog w) A (isInstance (.ref x) (.type "StopIteration")) (fun r s' => wpAny (model prog w) A (if r = true then pure none else throw (.ref x)) Q E s') E { s with heap := g } := fun g x kp hx => by
      obtain ⟨o, ho, hc⟩ := hx
      exact wpAny_isInstance (T := "StopIteration") (b := true) ⟨o, ho, hc⟩ isSubtype_stop (wpAny_pure (h g kp))
    show wpAny _ _ (field (.ref z) 2 >>= _) _ _ _
    refine wpAny_bind (wpAny_field Z.zr rfl (x := .bool false) rfl ?f2)
    show wpAny _ _ (field (.ref z) 3 >>= _) _ _ _
    refine wpAny_bind (wpAny_field Z.zr rfl (x := .ref p) rfl (wpAny_bind (wpAny_seqItems Z.ins rfl ?f3)))
    show wpAny _ _ (Builtin.SmallTypes.ownedTupleIsFree (.ref z) >>= _) _ _ _
    refine wpAny_bind ?f4
    unfold Builtin.SmallTypes.ownedTupleIsFree
    refine wpAny_bind (wpAny_field Z.zr rfl (x := .none) rfl (wpAny_pure ?f5))
    simp only [if_true]
    refine wpAny_bind (wpAny_rule (wpAny_bind (wpAny_field Z.zr rfl (x := .ref q) rfl (wpAny_bind (wpAny_setField_rec Z.zr (by simp) fun g1 z1 s1 => ?f6)))))
    have z1 : IsZip g1 z p q .ellipsis := z1
    refine wpAny_bind ?f7
    simp only [List.zipIdx_cons, List.zipIdx_nil, List.forIn_cons, List.forIn_nil]
    refine wpAny_bind (wpAny_bind (wpAny_onRaise ?f8))
    show wpAny _ _ (Builtin.SmallTypes.nextOf (.ref i) >>= _) _ _ _
    cases hx : xs[k]? with
    | none =>
      refine wpAny_bind (nx_end hh (Z.one.extBut s1.extBut D.i1z) (ha.extBut s1.extBut D.l1z) hx fun g2 x s2 hx' => ?g1)
      obtain ⟨ox, eox, cox⟩ := hx'
      have z2 : IsZip g2 z p q .ellipsis := s2 _ _ D.i1z.symm z1
      have xz : x ≠ z := fun t => by subst t; rw [z2] at eox; cases eox; simp at cox
      refine wpAny_setField_rec z2 (by simp) fun g3 _ s3 => wpAny_bind (fin g3 x (fun c o hc e => ?g2) ⟨ox, s3.extBut _ _ xz eox, cox⟩)
      obtain ⟨c1, _, c3, _⟩ := apart c hc
      exact s3.extBut _ _ c1 (s2 _ _ c3 (s1.extBut _ _ c1 e))
    | some x0 =>
      have hy : ys[k]? = none := by
        rcases he with t | t
        · rw [hx] at t; cases t
        · exact t
      refine wpAny_bind (nx_item (Z.one.extBut s1.extBut D.i1z) (ha.extBut s1.extBut D.l1z) hx fun g2 i2 s2 => wpAny_pure ?g3)
      have q2 : IsPair g2 q u0 v0 := s2.extBut _ _ D.TOi1 (s1.extBut _ _ D.TOz eq)
      refine wpAny_bind (wpAny_seqItems q2 rfl (wpAny_bind (wpAny_updateSeq_pair q2 fun g3 q3 s3 => ?g4)))
      refine wpAny_bind (wpAny_letGo (wpAny_pure ?g5))
      refine wpAny_bind (wpAny_bind (wpAny_onRaise ?g6))
      show wpAny _ _ (Builtin.SmallTypes.nextOf (.ref j) >>= _) _ _ _
      refine wpAny_bind (nx_end hh (((Z.two.extBut s1.extBut D.i2z).extBut s2.extBut D.i12.symm).extBut s3.extBut D.TOi2.symm) (((hb.extBut s1.extBut D.l2z).extBut s2.extBut D.l2i1).extBut s3.extBut D.l2TO) hy fun g4 x s4 hx' => ?g7)
      obtain ⟨ox, eox, cox⟩ := hx'
      have z4 : IsZip g4 z p q .ellipsis := s4 _ _ D.i2z.symm (s3.extBut _ _ D.TOz.symm (s2.extBut _ _ D.i1z.symm z1))
      have xz : x ≠ z := fun t => by subst t; rw [z4] at eox; cases eox; simp at cox
      refine wpAny_setField_rec z4 (by simp) fun g5 _ s5 => wpAny_bind (fin g5 x (fun c o hc e => ?g8) ⟨ox, s5.extBut _ _ xz eox, cox⟩)
      obtain ⟨c1, c2, c3, c4⟩ := apart c hc
      exact s5.extBut _ _ c1 (s4 _ _ c4 (s3.extBut _ _ c2 (s2.extBut _ _ c3 (s1.extBut _ _ c1 e))))
end
end L2
end

section
set_option Elab.async false
set_option linter.all false
set_option maxRecDepth 100000
set_option maxHeartbeats 4000000
namespace L2
open PySem PySem.Spec PyProof.Rows

section
variable {prog : Program} {w : World} {A : Around} {E : Value → Shared → Prop} {s : Shared}
def zipObjs (h : Heap) (a b : Addr) : Heap :=
  ((((h.push { cls := .type "tuple_iterator", data := .fields #[.ref a, .int 0 0] }).push { cls := .type "tuple_iterator", data := .fields #[.ref b, .int 0 0] }).push { cls := .type "tuple", data := .seq #[.ref h.objs.size, .ref (h.push { cls := .type "tuple_iterator", data := .fields #[.ref a, .int 0 0] }).objs.size] }).push { cls := .type "tuple", data := .seq #[.none, .none] }).push
    { cls := .type "zip", data := .fields #[.none, .bool false, .bool false, .ref ((h.push { cls := .type "tuple_iterator", data := .fields #[.ref a, .int 0 0] }).push { cls := .type "tuple_iterator", data := .fields #[.ref b, .int 0 0] }).objs.size,
      .ref (((h.push { cls := .type "tuple_iterator", data := .fields #[.ref a, .int 0 0] }).push { cls := .type "tuple_iterator", data := .fields #[.ref b, .int 0 0] }).push { cls := .type "tuple", data := .seq #[.ref h.objs.size, .ref (h.push { cls := .type "tuple_iterator", data := .fields #[.ref a, .int 0 0] }).objs.size] }).objs.size] }
theorem zip_made (a b : Addr) (xs ys : Array Value) :
    Meets (Builtin.«zip.__new__» ⟨[.type "zip", .ref a, .ref b], []⟩) (fun _ R s => s.heap.IsTuple a xs ∧ s.heap.IsTuple b ys ∧
      R (.ok (.ret (.ref (((((s.heap.push { cls := .type "tuple_iterator", data := .fields #[.ref a, .int 0 0] }).push { cls := .type "tuple_iterator", data := .fields #[.ref b, .int 0 0] }).push { cls := .type "tuple", data := .seq #[.ref s.heap.objs.size, .ref (s.heap.push { cls := .type "tuple_iterator", data := .fields #[.ref a, .int 0 0] }).objs.size] }).push { cls := .type "tuple", data := .seq #[.none, .none] }).objs.size))))
        { s with heap := zipObjs s.heap a b }) :=
  .of_wp fun prog w A R s h => by
    obtain ⟨hp, g, d, tk, os⟩ := s
    obtain ⟨h1, h2, h⟩ := h
    have hsub := sub_zip
    have k1 : Heap.IsTuple (Shared.heap ⟨hp, g, d, tk, os⟩) a xs := h1
    have k2 : Heap.IsTuple (Shared.heap ⟨hp.push { cls := .type "tuple_iterator", data := .fields #[.ref a, .int 0 0] }, g, d, tk, os⟩) b ys := by
      obtain ⟨o, e, r⟩ := h2
      exact ⟨o, Heap.get?_push_of_some _ e, r⟩
    wp_walk using wpAny_pyIter_tuple k1, wpAny_pyIter_tuple k2
    exact ⟨_, rfl, h⟩
theorem call_zipT {a b : Addr} {xs ys : Array Value} {Q : Value → Shared → Prop} (ha : s.heap.IsTuple a xs) (hb : s.heap.IsTuple b ys)
    (h : ∀ g, ZS g (s.heap.objs.size + 4) (s.heap.objs.size + 2) (s.heap.objs.size + 3) s.heap.objs.size (s.heap.objs.size + 1) a b 0 → (∀ c o, s.heap.get? c = some o → g.get? c = some o) → Q (.ref (s.heap.objs.size + 4)) { s with heap := g }) :
    wpAny (model prog w) A (call (.type "zip") [.ref a, .ref b]) Q E s := by
  refine callType_new F.called_zip (by decide) (F.typeCall_zip_2 _ _) (F.newCall_zip_2 _ _) (fun obj => F.args_object_init_3 obj _ _) F.entry_zip_new (zip_made a b xs ys) ⟨ha, hb, ?_⟩
  unfold zipObjs
  generalize e1 : s.heap.push { cls := .type "tuple_iterator", data := .fields #[.ref a, .int 0 0] } = g1
  have z1 : g1.objs.size = s.heap.objs.size + 1 := by rw [← e1]; exact Heap.size_push ..
  have i1 : g1.get? s.heap.objs.size = some { cls := .type "tuple_iterator", data := .fields #[.ref a, .int 0 0] } := by rw [← e1]; exact Heap.get?_push_size _ rfl
  have k1 : ∀ c o, s.heap.get? c = some o → g1.get? c = some o := fun c o e => by rw [← e1]; exact Heap.get?_push_of_some _ e
  generalize e2 : g1.push { cls := .type "tuple_iterator", data := .fields #[.ref b, .int 0 0] } = g2
  have z2 : g2.objs.size = s.heap.objs.size + 2 := by rw [← e2, Heap.size_push, z1]
  have i2 : g2.get? (s.heap.objs.size + 1) = some { cls := .type "tuple_iterator", data := .fields #[.ref b, .int 0 0] } := by rw [← e2, ← z1]; exact Heap.get?_push_size _ rfl
  have k2 : ∀ c o, g1.get? c = some o → g2.get? c = some o := fun c o e => by rw [← e2]; exact Heap.get?_push_of_some _ e
  generalize e3 : g2.push { cls := .type "tuple", data := .seq #[.ref s.heap.objs.size, .ref g1.objs.size] } = g3
  have z3 : g3.objs.size = s.heap.objs.size + 3 := by rw [← e3, Heap.size_push, z2]
  have i3 : g3.get? (s.heap.objs.size + 2) = some { cls := .type "tuple", data := .seq #[.ref s.heap.objs.size, .ref g1.objs.size] } := by rw [← e3, ← z2]; exact Heap.get?_push_size _ rfl
  have k3 : ∀ c o, g2.get? c = some o → g3.get? c = some o := fun c o e => by rw [← e3]; exact Heap.get?_push_of_some _ e
  generalize e4 : g3.push { cls := .type "tuple", data := .seq #[.none, .none] } = g4
  have z4 : g4.objs.size = s.heap.objs.size + 4 := by rw [← e4, Heap.size_push, z3]
  have i4 : g4.get? (s.heap.objs.size + 3) = some { cls := .type "tuple", data := .seq #[.none, .none] } := by rw [← e4, ← z3]; exact Heap.get?_push_size _ rfl
  have k4 : ∀ c o, g3.get? c = some o → g4.get? c = some o := fun c o e => by rw [← e4]; exact Heap.get?_push_of_some _ e
  generalize e5 : g4.push { cls := .type "zip", data := .fields #[.none, .bool false, .bool false, .ref g2.objs.size, .ref g3.objs.size] } = g5
  have i5 : g5.get? (s.heap.objs.size + 4) = some { cls := .type "zip", data := .fields #[.none, .bool false, .bool false, .ref g2.objs.size, .ref g3.objs.size] } := by rw [← e5, ← z4]; exact Heap.get?_push_size _ rfl
  have k5 : ∀ c o, g4.get? c = some o → g5.get? c = some o := fun c o e => by rw [← e5]; exact Heap.get?_push_of_some _ e
  rw [z4]
  rw [z2, z3] at i5
  rw [z1] at i3
  exact ⟨⟨_, i5, rfl⟩, h _ ⟨i5, k5 _ _ (k4 _ _ i3), ⟨_, _, k5 _ _ i4⟩, ⟨_, k5 _ _ (k4 _ _ (k3 _ _ (k2 _ _ i1))), rfl, rfl⟩, ⟨_, k5 _ _ (k4 _ _ (k3 _ _ i2)), rfl, rfl⟩⟩ fun c o e => k5 _ _ (k4 _ _ (k3 _ _ (k2 _ _ (k1 _ _ e))))⟩
end

/-- zip of two tuples at each turn: a new pair -/
def Itz (K : PySem.W.Frag) (a b : Addr) : It :=
  ⟨fun i H => ∃ xs ys x y, SqT K H a xs ∧ SqT K H b ys ∧ xs[i]? = some x ∧ ys[i]? = some y,
   fun i H v H' => ∃ p x y, H p = none ∧ v = .ref p ∧ H' = upd H p (.tup [x, y]) ∧ (∀ xs, SqT K H a xs → xs[i]? = some x) ∧ ∀ ys, SqT K H b ys → ys[i]? = some y,
   fun i H => ∃ xs ys, SqT K H a xs ∧ SqT K H b ys ∧ (xs.length ≤ i ∨ ys.length ≤ i)⟩
theorem turn_zip {P : Program} {w : World} {K : PySem.W.Frag} {es : List Expr} {k : Nat} {pos : Pos} {z p q i j a b : Addr} (D : ZipApart z p q i j a b) : Turn P w K (.Tuple es k pos) (Itz K a b) [z, p, q, i, j] z (fun n h => ZS h z p q i j a b n) where
  mem := by simp
  obj := fun n h st c hc => by
    simp only [List.mem_cons, List.not_mem_nil, or_false] at hc
    rcases hc with rfl | rfl | rfl | rfl | rfl
    · exact ⟨_, st.zr, fun v e => nomatch e⟩
    · exact ⟨_, st.ins, fun v e => nomatch e⟩
    · obtain ⟨u, v, e⟩ := st.out; exact ⟨_, e, fun v e => nomatch e⟩
    · obtain ⟨o, e, _, d⟩ := st.one; exact ⟨o, e, fun v t => by rw [d] at t; cases t⟩
    · obtain ⟨o, e, _, d⟩ := st.two; exact ⟨o, e, fun v t => by rw [d] at t; cases t⟩
  keep := fun n h h' st kp => st.keep kp
  item := by
    intro X hP hw hK hc n pins s σ H E I hf st hg
    subst hP hw hK
    obtain ⟨xs, ys, x, y, qa, qb, hx, hy⟩ := hg
    obtain ⟨ia, ra, ta, _⟩ := I.tuple qa
    obtain ⟨ib, rb, tb, _⟩ := I.tuple qb
    obtain ⟨u, hu, ru⟩ := ra.get hx
    obtain ⟨v, hv, rv⟩ := rb.get hy
    refine zip_go D st ta tb (x := u) (y := v) (by simpa using hu) (by simpa using hv) fun g gz gp gq gi gj gt kp => ?_
    refine ⟨_, rfl, wpAny_letOwnedTupleGo_zip (s := { s with heap := g }) gz fun g' gz' sb => ?_⟩
    have ne : ∀ c o, s.heap.get? c = some o → c ≠ s.heap.objs.size := fun c o e => Nat.ne_of_lt (Heap.lt_size e)
    have zne : s.heap.objs.size ≠ z := (ne z _ st.zr).symm
    have t' : IsPair g' s.heap.objs.size u v := (sb.2 _ zne).trans gt
    have f := I.hok.fresh (Nat.le_refl s.heap.objs.size)
    have free : ∀ c ∈ [z, p, q, i, j], H c = none := fun c hc => (hf c hc).1
    have kp' : ∀ c o, c ∉ [z, q, i, j] → s.heap.get? c = some o → g'.get? c = some o := fun c o hc e => (sb.2 c (fun t => hc (by simp [t]))).trans (kp c o hc e)
    have sub : ∀ c, c ∈ [z, q, i, j] → c ∈ [z, p, q, i, j] := fun c hc => by
      simp only [List.mem_cons, List.not_mem_nil, or_false] at hc ⊢
      rcases hc with h | h | h | h <;> simp [h]
    have tracked : ∀ c o, H c = some o → c ∉ [z, q, i, j] := fun c o e hc => by rw [free c (sub c hc)] at e; cases e
    have hok : HOk X.prog X.w (upd H s.heap.objs.size (.tup [x, y])) g' := fun c o e => by
      by_cases hc : c = s.heap.objs.size
      · subst hc
        rw [upd_same] at e
        cases e
        exact ⟨by rw [sizeLine_eq]; show 2 ≤ _; omega, [u, v], .cons ru (.cons rv .nil), _, t', rfl, 0, rfl⟩
      · rw [upd_ne hc] at e
        refine (I.hok c o e).stay (fun d o' hd e' => kp' d o' ?_ e') (fun d e' => by rw [upd_ne (ne_of_none e' f)]; exact e') fun d xs e' => by rw [upd_ne (ne_of_none e' f)]; exact e'
        rcases hd with rfl | hd
        · exact tracked _ _ e
        · exact tracked _ _ hd
    have I' : Inv X pins σ (upd H s.heap.objs.size (.tup [x, y])) { s with heap := g' } := by
      refine I.step (g' := s.gens) (t' := s.toks) (d' := s.drawn) (ch := [z, q, i, j]) (fun c hc => ?_) (fun c o _ _ hc e _ => kp' c o hc e) (fun c o _ _ hc e _ => ⟨o.slots, kp' c o hc e⟩) (fun c o hc e n => by rw [upd_ne (ne c o e)]; exact n)
        (fun c o hc e => ⟨o, kp' c o hc e⟩) (fun c xs e => by rw [upd_ne (ne_of_none e f)]; exact e) (fun c o u e => by rw [upd_ne (ne_of_none e f)]; exact e) (fun c ps e => ⟨#[], by rw [upd_ne (ne_of_none e f), e]; simp⟩) (fun m hm => ?_) hok I.bare
      · obtain ⟨_, f1, _, f3, f4, f5⟩ := hf c (sub c hc)
        exact ⟨f3, f1, f4, f5⟩
      · obtain ⟨o, es', ep, ho, r⟩ := hm
        exact ⟨o, es', ep, kp' _ o (fun hc => (hf _ (sub _ hc)).2.1 rfl) ho, r⟩
    refine ⟨.ref s.heap.objs.size, _, I', rfl, ⟨_, x, y, f, rfl, rfl, fun zs hz => by rw [I.tuple_inj hz qa]; exact hx, fun zs hz => by rw [I.tuple_inj hz qb]; exact hy⟩, ?_, fun c hc => ?_⟩
    · exact ⟨gz', (sb.2 _ D.TIz).trans gp, ⟨_, _, (sb.2 _ D.TOz).trans gq⟩, gi.at fun o e => (sb.2 _ D.i1z).trans e, gj.at fun o e => (sb.2 _ D.i2z).trans e⟩
    · rw [upd_ne]
      · exact free c hc
      · simp only [List.mem_cons, List.not_mem_nil, or_false] at hc
        rcases hc with rfl | rfl | rfl | rfl | rfl
        · exact ne _ _ st.zr
        · exact ne _ _ st.ins
        · obtain ⟨_, _, e⟩ := st.out; exact ne _ _ e
        · obtain ⟨_, e, _⟩ := st.one; exact ne _ _ e
        · obtain ⟨_, e, _⟩ := st.two; exact ne _ _ e
  done := by
    intro X hP hw hK hc n pins s σ H E I hf st hg
    subst hP hw hK
    obtain ⟨xs, ys, qa, qb, hl⟩ := hg
    obtain ⟨ia, ra, ta, _⟩ := I.tuple qa
    obtain ⟨ib, rb, tb, _⟩ := I.tuple qb
    have la := ra.length
    have lb := rb.length
    have sub : ∀ c, c ∈ [z, q, i, j] → c ∈ [z, p, q, i, j] := fun c hc => by
      simp only [List.mem_cons, List.not_mem_nil, or_false] at hc ⊢
      rcases hc with h | h | h | h <;> simp [h]
    refine zip_stop (I.ok.hd hc) D st ta tb ?_ fun g kp => ⟨rfl, ?_⟩
    · rcases hl with h | h
      · exact .inl (by simp; omega)
      · exact .inr (by simp; omega)
    · have tracked : ∀ c o, H c = some o → c ∉ [z, q, i, j] := fun c o e hc => by rw [(hf c (sub c hc)).1] at e; cases e
      refine I.step (g' := s.gens) (t' := s.toks) (d' := s.drawn) (ch := [z, q, i, j]) (fun c hc => ?_) (fun c o _ _ hc e _ => kp c o hc e) (fun c o _ _ hc e _ => ⟨o.slots, kp c o hc e⟩) (fun c o hc e n => n)
        (fun c o hc e => ⟨o, kp c o hc e⟩) (fun c xs e => e) (fun c o u e => e) (fun c ps e => ⟨#[], by rw [e]; simp⟩) (fun m hm => ?_) (fun c o e => ?_) I.bare
      · obtain ⟨_, f1, _, f3, f4, f5⟩ := hf c (sub c hc)
        exact ⟨f3, f1, f4, f5⟩
      · obtain ⟨o, es', ep, ho, r⟩ := hm
        exact ⟨o, es', ep, kp _ o (fun hc => (hf _ (sub _ hc)).2.1 rfl) ho, r⟩
      · refine (I.hok c o e).stay (fun d o' hd e' => kp d o' ?_ e') (fun d e' => e') fun d xs e' => e'
        rcases hd with rfl | hd
        · exact tracked _ _ e
        · exact tracked _ _ hd
  self := fun _ _ _ _ _ st h => wpAny_pyIter_zip st.zr h
section
variable {X : Cx}
def iZip (K : PySem.W.Frag) (ta : TA) : TI := fun σ H R => ta σ H fun vs H1 => ∃ a b, vs = [.ref a, .ref b] ∧ (∃ xs, SqT K H1 a xs) ∧ (∃ ys, SqT K H1 b ys) ∧ R (Itz K a b) H1
theorem pi_zip {a b : Expr} {ta : TA} {p pos tp : Pos} {es : List Expr} {k : Nat} (hg : Gl X "zip") (hm : X.mg "zip" = none) (ha : PA X [a, b] ta) (hs : starEach [a, b] X.env = [(false, eval a X.env), (false, eval b X.env)] := by rfl) (hs2 : starEach [b] X.env = [(false, eval b X.env)] := by rfl) :
    PI X (.Tuple es k tp) (.Call (.Name "zip" p) [a, b] [] pos) (iZip X.K ta) := by
  intro pins s σ H R I h
  refine wpAny_Call_Name_kw (ld_blt I hg hm PyProof.Rows.boot_zip ?_)
  refine PyProof.Rows.callWith_type1 (thn (ha pos pins s σ H _ I h) fun us s1 ⟨vs, H1, I1, r1, q1⟩ => ?_) (by rw [hs, hs2]) (by rw [hs2]; rfl)
  obtain ⟨a', b', e, ⟨xs, qa⟩, ⟨ys, qb⟩, q⟩ := q1
  subst e
  obtain ⟨u, v, rfl, ru, rv⟩ := vals2 r1
  cases ru
  cases rv
  obtain ⟨ia, ra, ta', _⟩ := I1.tuple qa
  obtain ⟨ib, rb, tb, _⟩ := I1.tuple qb
  refine call_zipT ta' tb fun g Z kp => ?_
  refine wpAny_pyIter_zip (s := { s1 with heap := g }) Z.zr ?_
  have la : a' < s1.heap.objs.size := by obtain ⟨_, e, _⟩ := ta'; exact Heap.lt_size e
  have lb : b' < s1.heap.objs.size := by obtain ⟨_, e, _⟩ := tb; exact Heap.lt_size e
  have fr : ∀ c, s1.heap.objs.size ≤ c → FpOk X pins H1 c := fun c hc => I1.fpOk hc (I1.hok.fresh hc)
  refine ⟨_, _, _, _, H1, rfl, I1.kept (t' := s1.toks) kp, turn_zip (PyProof.Rows.zipApart_new la lb), Z, fun c hc => ?_, q⟩
  simp only [List.mem_cons, List.not_mem_nil, or_false] at hc
  rcases hc with h | h | h | h | h
  · exact h ▸ fr _ (Nat.le_add_right _ _)
  · exact h ▸ fr _ (Nat.le_add_right _ _)
  · exact h ▸ fr _ (Nat.le_add_right _ _)
  · exact h ▸ fr _ (Nat.le_refl _)
  · exact h ▸ fr _ (Nat.le_add_right _ _)
end
end L2
end

section
set_option Elab.async false
set_option linter.all false
set_option maxRecDepth 100000
set_option maxHeartbeats 4000000
namespace L2
open PySem PySem.Spec PyProof.Rows

/-! ### data that never change: what a value is worth -/
mutual
inductive Rp (K : PySem.W.Frag) (H : Hp) : V → PyData → Prop
  | non : Rp K H .non .none
  | bl (b : Bool) : Rp K H (.bl b) (.bool b)
  | int (i : Int) : Rp K H (.int i) (.int i)
  | str (x : Str) : Rp K H (.str x) (.str x)
  | tup {a : Addr} {xs : List V} {ds : List PyData} : SqT K H a xs → Rps K H xs ds → Rp K H (.ref a) (.tuple ds)
inductive Rps (K : PySem.W.Frag) (H : Hp) : List V → List PyData → Prop
  | nil : Rps K H [] []
  | cons {v : V} {vs : List V} {d : PyData} {ds : List PyData} : Rp K H v d → Rps K H vs ds → Rps K H (v :: vs) (d :: ds)
end
theorem Rps.length {K : PySem.W.Frag} {H : Hp} : ∀ {vs : List V} {ds : List PyData}, Rps K H vs ds → vs.length = ds.length
  | _, _, .nil => rfl
  | _, _, .cons _ r => by rw [List.length_cons, List.length_cons, r.length]
theorem Rps.get {K : PySem.W.Frag} {H : Hp} : ∀ {vs : List V} {ds : List PyData} {i : Nat} {v : V}, Rps K H vs ds → vs[i]? = some v → ∃ d, ds[i]? = some d ∧ Rp K H v d
  | _, _, _, _, .nil, e => by simp at e
  | _, _, 0, _, .cons r _, e => by simp at e; subst e; exact ⟨_, rfl, r⟩
  | _, _, i + 1, _, .cons _ t, e => by
    obtain ⟨d, h1, h2⟩ := Rps.get (i := i) t (by simpa using e)
    exact ⟨d, by simpa using h1, h2⟩
theorem Rps.get' {K : PySem.W.Frag} {H : Hp} : ∀ {vs : List V} {ds : List PyData} {i : Nat} {d : PyData}, Rps K H vs ds → ds[i]? = some d → ∃ v, vs[i]? = some v ∧ Rp K H v d
  | _, _, _, _, .nil, e => by simp at e
  | _, _, 0, _, .cons r _, e => by simp at e; subst e; exact ⟨_, rfl, r⟩
  | _, _, i + 1, _, .cons _ t, e => by
    obtain ⟨d, h1, h2⟩ := Rps.get' (i := i) t (by simpa using e)
    exact ⟨d, by simpa using h1, h2⟩
/-- tuples stay -/
def Tups (H H' : Hp) : Prop := ∀ a u, Rd H a (.tup u) → Rd H' a (.tup u)
theorem Tups.refl {H : Hp} : Tups H H := fun _ _ h => h
theorem Tups.trans {H H1 H2 : Hp} (a : Tups H H1) (b : Tups H1 H2) : Tups H H2 := fun c u h => b c u (a c u h)
theorem Tups.sq {K : PySem.W.Frag} {H H' : Hp} (t : Tups H H') {a : Addr} {xs : List V} (h : SqT K H a xs) : SqT K H' a xs := by
  rcases h with h | h
  · exact .inl (t a xs h)
  · exact .inr h
theorem Tups.new {H : Hp} {a : Addr} {o : HO} (h : H a = none) : Tups H (upd H a o) := fun c u r => by
  rcases r with e | ⟨o', e⟩
  · exact .inl (by rw [upd_ne (ne_of_none e h)]; exact e)
  · exact .inr ⟨o', by rw [upd_ne (ne_of_none e h)]; exact e⟩
theorem Tups.put {H : Hp} {a : Addr} {o o' : HO} (h : H a = some o) (hn : ∀ u, o ≠ .tup u) (hf : ∀ x u, o ≠ .frz x u) : Tups H (upd H a o') := fun c u r => by
  rcases r with e | ⟨x, e⟩
  · exact .inl (by rw [upd_ne (ne_of e h fun z => hn u z.symm)]; exact e)
  · exact .inr ⟨x, by rw [upd_ne (ne_of e h fun z => hf x _ z.symm)]; exact e⟩
theorem Tups.lst {H : Hp} {a : Addr} {xs : List V} {o' : HO} (h : H a = some (.lst xs)) : Tups H (upd H a o') := .put h (fun _ z => nomatch z) fun _ _ z => nomatch z
theorem Tups.dk {H : Hp} {a : Addr} {xs : List (Key × V)} {o' : HO} (h : H a = some (.dK xs)) : Tups H (upd H a o') := .put h (fun _ z => nomatch z) fun _ _ z => nomatch z
theorem Same.tups {H H' : Hp} (s : Same H H') : Tups H H' := fun a u r => by
  rcases r with e | ⟨o, e⟩
  · exact .inl (s _ _ e)
  · exact .inr ⟨o, s _ _ e⟩
mutual
theorem Rp.mono {K : PySem.W.Frag} {H H' : Hp} (t : Tups H H') : ∀ {v : V} {d : PyData}, Rp K H v d → Rp K H' v d
  | _, _, .non => .non
  | _, _, .bl b => .bl b
  | _, _, .int i => .int i
  | _, _, .str x => .str x
  | _, _, .tup q r => .tup (t.sq q) (Rps.mono t r)
theorem Rps.mono {K : PySem.W.Frag} {H H' : Hp} (t : Tups H H') : ∀ {v : List V} {d : List PyData}, Rps K H v d → Rps K H' v d
  | _, _, .nil => .nil
  | _, _, .cons r q => .cons (Rp.mono t r) (Rps.mono t q)
end
section
variable {X : Cx} {pins : List (Addr × Obj)} {σ : St} {H : Hp} {s : Shared}
mutual
theorem Rp.reads (I : Inv X pins σ H s) : ∀ {v : V} {d : PyData} {u : Value}, Rp X.K H v d → RelV v u → ∃ as, Reads s.heap u d as
  | _, _, _, .non, r => by cases r; exact ⟨_, .none⟩
  | _, _, _, .bl b, r => by cases r; exact ⟨_, .bool b⟩
  | _, _, _, .int i, r => by obtain ⟨t, rfl⟩ := r; exact ⟨_, .int i t⟩
  | _, _, _, .str x, r => by obtain ⟨t, rfl⟩ := r; exact ⟨_, .str x t⟩
  | _, _, _, .tup q rs, r => by
    cases r
    obtain ⟨its, rv, ⟨o, ho, hc, n, hd⟩, _⟩ := I.tuple q
    obtain ⟨as, h⟩ := Rps.reads I rs rv
    exact ⟨as, .tuple ho hc hd (by simpa using h)⟩
theorem Rps.reads (I : Inv X pins σ H s) : ∀ {v : List V} {d : List PyData} {u : List Value}, Rps X.K H v d → Vals v u → ∃ as, ReadsAll s.heap u d as
  | _, _, _, .nil, .nil => ⟨_, .nil⟩
  | _, _, _, .cons r q, .cons a b => by
    obtain ⟨x, h1⟩ := Rp.reads I r a
    obtain ⟨y, h2⟩ := Rps.reads I q b
    exact ⟨_, .cons h1 h2⟩
end
end
section
variable {X : Cx}
/-- == and != of data -/
theorem op_eqD (hu : X.A.units + 64 < cLine) : OpR X (compareOp .Eq) (fun x y H Q => ∃ d e, Rp X.K H x d ∧ Rp X.K H y e ∧ d.canLay0 = true ∧ e.canLay0 = true ∧ d.depth ≤ 60 ∧ Q (.bl (PyData.eqv d e)) H) := by
  intro pins s σ H x y v u Q I rx ry h
  obtain ⟨d, e, hd, he, cd, ce, dp, q⟩ := h
  obtain ⟨as, r1⟩ := hd.reads I rx
  obtain ⟨bs, r2⟩ := he.reads I ry
  exact SeqAt.compareEq_reads r1 r2 cd ce (by omega) ⟨.bl _, H, I, rfl, q⟩
theorem op_neD (hu : X.A.units + 64 < cLine) : OpR X (compareOp .NotEq) (fun x y H Q => ∃ d e, Rp X.K H x d ∧ Rp X.K H y e ∧ d.canLay0 = true ∧ e.canLay0 = true ∧ d.depth ≤ 60 ∧ Q (.bl (!PyData.eqv d e)) H) := by
  intro pins s σ H x y v u Q I rx ry h
  obtain ⟨d, e, hd, he, cd, ce, dp, q⟩ := h
  obtain ⟨as, r1⟩ := hd.reads I rx
  obtain ⟨bs, r2⟩ := he.reads I ry
  exact SeqAt.compareNe_reads r1 r2 cd ce (by omega) ⟨.bl _, H, I, rfl, q⟩
end
end L2
end

section
set_option Elab.async false
set_option linter.all false
set_option maxRecDepth 100000
set_option maxHeartbeats 4000000
namespace L2
open PySem PySem.Spec PyProof.Rows
section
variable {X : Cx}
/-! ### x in a list or tuple of data -/
theorem mem_reads {h : Heap} : ∀ {vs : List Value} {ds : List PyData} {as : List Addr}, ReadsAll h vs ds as → ∀ v ∈ vs, ∃ d bs, d ∈ ds ∧ Reads h v d bs
  | _, _, _, .nil, v, hv => nomatch hv
  | _, _, _, .cons r q, v, hv => by
    rcases List.mem_cons.mp hv with e | hv
    · subst e; exact ⟨_, _, List.mem_cons_self, r⟩
    · obtain ⟨d, bs, h1, h2⟩ := mem_reads q v hv
      exact ⟨d, bs, List.mem_cons_of_mem _ h1, h2⟩
theorem canAll {ds : List PyData} (h : PyData.canLayAll0 ds = true) : ∀ d ∈ ds, d.canLay0 = true := by
  induction ds with
  | nil => intro d hd; exact nomatch hd
  | cons x xs ih =>
    unfold PyData.canLayAll0 at h
    rw [Bool.and_eq_true] at h
    intro d hd
    rcases List.mem_cons.mp hd with e | hd
    · subst e; exact h.1
    · exact ih h.2 d hd
noncomputable def eqH (h : Heap) (e : PyData) (u : Value) : Bool := @decide (∃ d as, Reads h u d as ∧ PyData.eqv d e = true) (Classical.propDecidable _)
theorem eqH_of {h : Heap} {e d : PyData} {u : Value} {as : List Addr} (r : Reads h u d as) (c : d.canLay0 = true) : eqH h e u = PyData.eqv d e := by
  unfold eqH
  cases q : PyData.eqv d e with
  | true => exact @decide_eq_true _ (Classical.propDecidable _) ⟨d, as, r, q⟩
  | false =>
    refine @decide_eq_false _ (Classical.propDecidable _) ?_
    rintro ⟨d', as', r', q'⟩
    rw [← SeqAt.Reads.unique d d' u as as' c r r'] at q'
    rw [q] at q'
    cases q'
theorem any_eqH {h : Heap} {e : PyData} : ∀ {vs : List Value} {ds : List PyData} {as : List Addr}, ReadsAll h vs ds as → PyData.canLayAll0 ds = true → vs.any (eqH h e) = ds.any fun d => PyData.eqv d e
  | _, _, _, .nil, _ => rfl
  | _, _, _, .cons r q, c => by
    unfold PyData.canLayAll0 at c
    rw [Bool.and_eq_true] at c
    rw [List.any_cons, List.any_cons, eqH_of r c.1, any_eqH q c.2]
def rInD (K : PySem.W.Frag) (neg : Bool) : R2 := fun x y H Q => ∃ p xs ds e, y = .ref p ∧ (SqL K H p xs ∨ SqT K H p xs) ∧ Rps K H xs ds ∧ Rp K H x e ∧ PyData.canLayAll0 ds = true ∧ e.canLay0 = true ∧ e.depth ≤ 50 ∧
  Q (.bl (if neg then !(ds.any fun d => PyData.eqv d e) else ds.any fun d => PyData.eqv d e)) H
theorem inD_eq {pins : List (Addr × Obj)} {σ : St} {H : Hp} {s : Shared} {its : List Value} {ds : List PyData} {as bs : List Addr} {e : PyData} {v : Value} (hu : X.A.units + 64 < cLine) (r : ReadsAll s.heap its ds as) (re : Reads s.heap v e bs) (c : PyData.canLayAll0 ds = true) (ce : e.canLay0 = true) (dp : e.depth ≤ 50) :
    ∀ y, y ∈ its.toArray → SeqAt.EqAt X.A.in1 s y v (eqH s.heap e y) := fun y hy => by
  obtain ⟨d, cs, hd, rd⟩ := mem_reads r y (by simpa using hy)
  rw [eqH_of rd (canAll c d hd)]
  refine SeqAt.eqAt_reads d e X.A.in1 s y v cs bs rd re (canAll c d hd) ce ?_
  show X.A.units + 1 + _ < _
  omega
theorem op_inD (hu : X.A.units + 64 < cLine) : OpR X (compareOp .In) (rInD X.K false) := by
  intro pins s σ H x y v u Q I rx ry h
  obtain ⟨p, xs, ds, e, rfl, hq, rs, re, c, ce, dp, q⟩ := h
  cases ry
  obtain ⟨bs, re'⟩ := re.reads I rx
  rcases hq with hq | hq
  · obtain ⟨its, r, pl, hz⟩ := I.list hq
    obtain ⟨as, ra⟩ := rs.reads I r
    refine SeqAt.in_listAt (eqH s.heap e) pl.isList (inD_eq (pins := pins) (σ := σ) (H := H) hu ra re' c ce dp) ⟨.bl _, H, I, rfl, ?_⟩
    rw [show its.toArray.any (eqH s.heap e) = its.any (eqH s.heap e) by simp, any_eqH ra c]
    exact q
  · obtain ⟨its, r, pl, hz⟩ := I.tuple hq
    obtain ⟨as, ra⟩ := rs.reads I r
    refine SeqAt.in_tupleAt (eqH s.heap e) pl (inD_eq (pins := pins) (σ := σ) (H := H) hu ra re' c ce dp) ⟨.bl _, H, I, rfl, ?_⟩
    rw [show its.toArray.any (eqH s.heap e) = its.any (eqH s.heap e) by simp, any_eqH ra c]
    exact q
theorem op_notInD (hu : X.A.units + 64 < cLine) : OpR X (compareOp .NotIn) (rInD X.K true) := by
  intro pins s σ H x y v u Q I rx ry h
  obtain ⟨p, xs, ds, e, rfl, hq, rs, re, c, ce, dp, q⟩ := h
  cases ry
  obtain ⟨bs, re'⟩ := re.reads I rx
  rcases hq with hq | hq
  · obtain ⟨its, r, pl, hz⟩ := I.list hq
    obtain ⟨as, ra⟩ := rs.reads I r
    refine SeqAt.notIn_listAt (eqH s.heap e) pl.isList (inD_eq (pins := pins) (σ := σ) (H := H) hu ra re' c ce dp) ⟨.bl _, H, I, rfl, ?_⟩
    rw [show its.toArray.any (eqH s.heap e) = its.any (eqH s.heap e) by simp, any_eqH ra c]
    exact q
  · obtain ⟨its, r, pl, hz⟩ := I.tuple hq
    obtain ⟨as, ra⟩ := rs.reads I r
    refine SeqAt.notIn_tupleAt (eqH s.heap e) pl (inD_eq (pins := pins) (σ := σ) (H := H) hu ra re' c ce dp) ⟨.bl _, H, I, rfl, ?_⟩
    rw [show its.toArray.any (eqH s.heap e) = its.any (eqH s.heap e) by simp, any_eqH ra c]
    exact q

/-- a power whose size is known -/
theorem op_powB : OpR X (binaryOp .Pow) (rI (fun i j => 0 ≤ j ∧ (Builtin.Int.intBits i : Int) * j ≤ 2 ^ 27) fun i j => .int (i ^ j.toNat)) := opI fun _ _ _ _ _ _ _ hc q => pow_int hc.1 hc.2 q
/-! ### isinstance with a built-in class -/
/-- the class of a value -/
inductive ClsOf (K : PySem.W.Frag) (H : Hp) : V → String → Prop where
  | non : ClsOf K H .non "NoneType"
  | bl (x : Bool) : ClsOf K H (.bl x) "bool"
  | int (i : Int) : ClsOf K H (.int i) "int"
  | str (x : Str) : ClsOf K H (.str x) "str"
  | lst {a : Addr} {xs : List V} (e : SqL K H a xs) : ClsOf K H (.ref a) "list"
  | tup {a : Addr} {xs : List V} (e : SqT K H a xs) : ClsOf K H (.ref a) "tuple"
  | dK {a : Addr} {kvs : List (Key × V)} (e : H a = some (.dK kvs)) : ClsOf K H (.ref a) "dict"
/-- whether the first class is the second one or under it, of those met here -/
def subB (t c : String) : Bool := t == c || (t == "bool" && c == "int")
def clsNames : List String := ["NoneType", "bool", "int", "str", "list", "tuple", "dict"]
theorem kit_all (K : PySem.W.Frag) : ∀ t ∈ clsNames, ∀ c ∈ clsNames, c ≠ "NoneType" → PySem.W.kitOne K (.type t) (.type c) = some (subB t c) := by
  intro t ht c hc hn
  simp only [clsNames, List.mem_cons, List.not_mem_nil, or_false] at ht hc
  rcases hc with rfl | rfl | rfl | rfl | rfl | rfl | rfl
  · exact absurd rfl hn
  all_goals (rcases ht with rfl | rfl | rfl | rfl | rfl | rfl | rfl <;> first | rfl | decide +kernel)
theorem ClsOf.mem {K : PySem.W.Frag} {H : Hp} {x : V} {t : String} (h : ClsOf K H x t) : t ∈ clsNames := by
  cases h <;> simp [clsNames]
theorem call_isinst : CallR X (.builtin "isinstance") (fun xs H Q => ∃ x t c, xs = [x, .ty c] ∧ ClsOf X.K H x t ∧ c ∈ clsNames ∧ c ≠ "NoneType" ∧ Q (.bl (subB t c)) H) := by
  intro pins s σ H xs us Q I r h
  obtain ⟨x, t, c, rfl, ty, hc, hn, q⟩ := h
  obtain ⟨u, w', rfl, rx, rw'⟩ := vals2 r
  cases rw'
  have e := kit_all X.K t ty.mem c hc hn
  have fin : ∀ tk, EP X pins σ Q (.bool (subB t c)) { s with toks := tk } := fun tk => ⟨.bl _, H, I.tok tk, rfl, q⟩
  cases ty with
  | non => cases rx; exact PySem.W.kia_one PySem.W.kitx_none I.kIn True.intro e (fun z => nomatch z) fin
  | bl y => cases rx; exact PySem.W.kia_one PySem.W.kitx_bool I.kIn True.intro e (fun z => nomatch z) fin
  | int i => obtain ⟨t, rfl⟩ := rx; exact PySem.W.kia_one PySem.W.kitx_int I.kIn True.intro e (fun z => nomatch z) fin
  | str y => obtain ⟨t, rfl⟩ := rx; exact PySem.W.kia_one PySem.W.kitx_str I.kIn True.intro e (fun z => nomatch z) fin
  | lst hq =>
    cases rx
    obtain ⟨its, _, ⟨o, n, h1, h2, _⟩, _⟩ := I.list hq
    exact PySem.W.kia_one PySem.W.kitx_list I.kIn ⟨o, h1, h2⟩ e (fun z => nomatch z) fin
  | tup hq =>
    cases rx
    obtain ⟨its, _, ⟨o, h1, h2, _⟩, _⟩ := I.tuple hq
    exact PySem.W.kia_one PySem.W.kitx_tuple I.kIn ⟨o, h1, h2⟩ e (fun z => nomatch z) fin
  | dK ea =>
    cases rx
    obtain ⟨_, _, vs, _, o, es, ep, h1, h2, _⟩ := I.hok _ _ ea
    exact PySem.W.kia_one PySem.W.kitx_dict I.kIn ⟨o, h1, h2.1⟩ e (fun z => nomatch z) fin

/-! ### all, any of a list of truths -/
def bls (bs : List Bool) : List V := bs.map V.bl
theorem bls_get {bs : List Bool} {its : List Value} (r : Vals (bls bs) its) (i : Nat) (u : Value) (e : its[i]? = some u) : ∃ b, bs[i]? = some b ∧ u = .bool b := by
  have hl := r.length
  unfold bls at hl r
  rw [List.length_map] at hl
  have hi : i < its.length := (List.getElem?_eq_some_iff.mp e).1
  have hb : bs[i]? = some bs[i] := by simp
  obtain ⟨u', e', ru⟩ := r.get (i := i) (x := .bl bs[i]) (by rw [List.getElem?_map, hb]; rfl)
  rw [e] at e'
  cases e'
  exact ⟨bs[i], hb, ru⟩
theorem range_all (bs : List Bool) : (List.range bs.length).all (fun i => (bs[i]?).getD false) = bs.all id := by
  have e : (List.range bs.length).map (fun i => (bs[i]?).getD false) = bs := by
    apply List.ext_getElem?
    intro i
    rw [List.getElem?_map]
    by_cases hi : i < bs.length
    · simp [List.getElem?_range hi, hi]
    · simp [List.getElem?_eq_none, hi, Nat.le_of_not_lt hi]
  conv => rhs; rw [← e]
  rw [List.all_map]
  rfl
theorem range_any (bs : List Bool) : (List.range bs.length).any (fun i => (bs[i]?).getD false) = bs.any id := by
  have e : (List.range bs.length).map (fun i => (bs[i]?).getD false) = bs := by
    apply List.ext_getElem?
    intro i
    rw [List.getElem?_map]
    by_cases hi : i < bs.length
    · simp [List.getElem?_range hi, hi]
    · simp [List.getElem?_eq_none, hi, Nat.le_of_not_lt hi]
  conv => rhs; rw [← e]
  rw [List.any_map]
  rfl
theorem call_all_bools (hc : X.calm = true) : CallR X (.builtin "all") (fun xs H Q => ∃ p bs, xs = [.ref p] ∧ SqL X.K H p (bls bs) ∧ Q (.bl (bs.all id)) H) := by
  intro pins s σ H xs us Q I r h
  obtain ⟨p, bs, rfl, hq, q⟩ := h
  obtain ⟨u, rfl, rx⟩ := vals1 r
  cases rx
  obtain ⟨its, rv, pl, hz⟩ := I.list hq
  have hlt : p < s.heap.objs.size := by obtain ⟨o, n, e, _⟩ := pl; exact Heap.lt_size e
  have hl : its.length = bs.length := by have := rv.length; unfold bls at this; rw [List.length_map] at this; omega
  refine call_all_walk (wpAny_pyIter_list pl.isList ?_)
  refine ⟨_, _, _, _, _, _, fun i => (bs[i]?).getD false, rfl, Walks.list (A := X.A.in1) (I.ok.hd hc) s.heap.objs.size p (Nat.ne_of_lt hlt) its.toArray, ⟨⟨_, Heap.get?_push_size _ rfl, rfl, rfl⟩, pl.isList.push _⟩, fun i v s' Q' E' hv hq' => ?_, fun h' tk kp => ?_⟩
  · obtain ⟨b, hb, rfl⟩ := bls_get rv i v (by simpa using hv)
    have hq' : Q' ((bs[i]?).getD false) s' := hq'
    rw [hb] at hq'
    exact wpAny_truthy_bool hq'
  · refine ⟨.bl _, H, I.kept (t' := tk) fun b o e => kp b o (fun hb => ?_) (Heap.get?_push_of_some _ e), rfl, ?_⟩
    · have : b = s.heap.objs.size := by simpa using hb
      exact absurd (Heap.lt_size e) (by rw [this]; exact Nat.lt_irrefl _)
    · rw [List.size_toArray, hl, range_all]
      exact q
theorem call_any_bools (hc : X.calm = true) : CallR X (.builtin "any") (fun xs H Q => ∃ p bs, xs = [.ref p] ∧ SqL X.K H p (bls bs) ∧ Q (.bl (bs.any id)) H) := by
  intro pins s σ H xs us Q I r h
  obtain ⟨p, bs, rfl, hq, q⟩ := h
  obtain ⟨u, rfl, rx⟩ := vals1 r
  cases rx
  obtain ⟨its, rv, pl, hz⟩ := I.list hq
  have hlt : p < s.heap.objs.size := by obtain ⟨o, n, e, _⟩ := pl; exact Heap.lt_size e
  have hl : its.length = bs.length := by have := rv.length; unfold bls at this; rw [List.length_map] at this; omega
  refine call_any_walk (wpAny_pyIter_list pl.isList ?_)
  refine ⟨_, _, _, _, _, _, fun i => (bs[i]?).getD false, rfl, Walks.list (A := X.A.in1) (I.ok.hd hc) s.heap.objs.size p (Nat.ne_of_lt hlt) its.toArray, ⟨⟨_, Heap.get?_push_size _ rfl, rfl, rfl⟩, pl.isList.push _⟩, fun i v s' Q' E' hv hq' => ?_, fun h' tk kp => ?_⟩
  · obtain ⟨b, hb, rfl⟩ := bls_get rv i v (by simpa using hv)
    have hq' : Q' ((bs[i]?).getD false) s' := hq'
    rw [hb] at hq'
    exact wpAny_truthy_bool hq'
  · refine ⟨.bl _, H, I.kept (t' := tk) fun b o e => kp b o (fun hb => ?_) (Heap.get?_push_of_some _ e), rfl, ?_⟩
    · have : b = s.heap.objs.size := by simpa using hb
      exact absurd (Heap.lt_size e) (by rw [this]; exact Nat.lt_irrefl _)
    · rw [List.size_toArray, hl, range_any]
      exact q
end
end L2
end

section
set_option Elab.async false
set_option linter.all false
set_option maxRecDepth 100000
set_option maxHeartbeats 4000000
namespace L2
open PySem PySem.Spec PyProof.Rows

/-! ### t + u of tuples, whatever they are -/
section
variable {prog : Program} {w : World} {A : Around} {E : Value → Shared → Prop} {s : Shared}
theorem add_left_empty (t b : Addr) (items items2 : Array Value) (n n2 : Nat) (dd dd2 : Option Addr) (sl sl2 : Array (Option Value)) (h0 : items.isEmpty = true) :
    Meets (Builtin.«tuple.__add__» ⟨[.ref t, .ref b], []⟩) (fun _ R s => s.heap.get? t = some ⟨.type "tuple", dd, .seq items n, sl⟩ ∧ s.heap.get? b = some ⟨.type "tuple", dd2, .seq items2 n2, sl2⟩ ∧ R (.ok (.ret (.ref b))) s) :=
  .of_wp fun prog w A R s h => by
    obtain ⟨hp, g, d, tk, os⟩ := s
    obtain ⟨h1, h2, h⟩ := h
    have hsub := sub_tuple_self
    wp_walk using wpAny_loadPart' h1, wpAny_loadPart' h2
    exact ⟨_, rfl, h⟩
end
section
variable {X : Cx}
theorem same_new {H : Hp} {p : Addr} (h : H p = none) (o : HO) : Same H (upd H p o) := fun b u q => by rw [upd_ne (ne_of_none q h)]; exact q
def rCatA (K : PySem.W.Frag) : R2 := fun x y H Q => ∃ a b xs ys, x = .ref a ∧ y = .ref b ∧ SqT K H a xs ∧ SqT K H b ys ∧ xs.length + ys.length ≤ sizeLine ∧ ∀ r H', Same H H' → SqT K H' r (xs ++ ys) → Q (.ref r) H'
theorem op_catA : OpR X (binaryOp .Add) (rCatA X.K) := by
  intro pins s σ H x y v u Q I rx ry h
  obtain ⟨a, b, xs, ys, rfl, rfl, ha, hb, hz, q⟩ := h
  by_cases hx : xs = []
  · subst hx
    cases rx
    cases ry
    obtain ⟨its, r1, ⟨⟨cls, dd, data, sl⟩, ho, hc, n, hd⟩, _⟩ := I.tuple ha
    obtain ⟨its2, r2, ⟨⟨cls2, dd2, data2, sl2⟩, ho2, hc2, n2, hd2⟩, _⟩ := I.tuple hb
    simp only at hc hd hc2 hd2
    subst hc hd hc2 hd2
    cases r1
    exact PySem.concat_meets ⟨_, ho, rfl⟩ ⟨_, ho2, rfl⟩ PySem.noFill_tuple_add PySem.seq_tuple_add PySem.F.slot_tuple_add PySem.F.entry_tuple_add (PySem.F.args_tuple_add_2 _ _)
      (add_left_empty a b _ _ n n2 dd dd2 sl sl2 (by simp)) ⟨ho, ho2, ⟨.ref b, H, I, rfl, q b H (Same.refl H) (by simpa using hb)⟩⟩
  · refine op_catT pins s σ H _ _ v u Q I rx ry ⟨a, b, xs, ys, rfl, rfl, ha, hb, hx, hz, fun e => q a H (Same.refl H) (by rw [e, List.append_nil]; exact ha), fun _ p hp => q p _ (same_new hp _) (SqT.of upd_same)⟩

/-! ### the block's names, by a check -/
def okComp (sc0 : Scope) (N0 : List Str) (scope : Scope) (N : List Str) (fr : List (Option Nat)) : Bool :=
  (scope.kind == .function) && scope.names.all (fun y => y.2 != .cell) && scope.names.all (fun y => y.2 != .local || scope.names.lookup y.1 == some .local) &&
  scope.names.all (fun y => y.2 != .free || (sc0.names.lookup y.1 == some .cell || sc0.names.lookup y.1 == some .free)) && (fr.length == N.length) &&
  (N.zip fr).all (fun p => match p.2 with | none => true | some j => N0[j]? == some p.1 && scope.names.lookup p.1 == some .free) && decide N.Nodup
theorem CompSc.of {sc0 : Scope} {N0 : List Str} {scope : Scope} {N : List Str} {fr : List (Option Nat)} (h1 : X.env.scope = sc0) (h2 : X.N = N0) (h : okComp sc0 N0 scope N fr = true) : CompSc X scope N fr := by
  unfold okComp at h
  simp only [Bool.and_eq_true] at h
  obtain ⟨⟨⟨⟨⟨⟨k1, k2⟩, k3⟩, k4⟩, k5⟩, k6⟩, k7⟩ := h
  rw [List.all_eq_true] at k2 k3 k4 k6
  refine ⟨by simpa using k1, fun y hy => by simpa using k2 y hy, fun y hy e => ?_, fun y hy e => ?_, by simpa using k5, fun i j x hi hj => ?_, of_decide_eq_true k7⟩
  · have := k3 y hy
    rw [e] at this
    simpa using this
  · have := k4 y hy
    rw [e] at this
    have t : sc0.names.lookup y.1 = some .cell ∨ sc0.names.lookup y.1 = some .free := by simpa using this
    show X.env.scope.names.lookup y.1 = _ ∨ X.env.scope.names.lookup y.1 = _
    rw [h1]
    exact t
  · have hm : (x, some j) ∈ N.zip fr := by
      have hz : (N.zip fr)[i]? = some (x, some j) := by rw [List.getElem?_zip_eq_some]; exact ⟨hi, hj⟩
      exact List.mem_of_getElem? hz
    have := k6 _ hm
    simp only [Bool.and_eq_true] at this
    rw [h2]
    exact ⟨by simpa using this.1, by simpa using this.2⟩
/-! ### a def of the text that may be called -/
structure Call1 (P : Program) (w : World) (K : PySem.W.Frag) (mg : Str → Option Value) (base : Heap) (x : Str) (ps : List Str) (k : Nat) (sp : Sp) : Prop where
  ex : ∃ f fd, FnOk P w K mg base CX0 k f fd ps sp ∧ Binds K fd ps [] ∧ PySem.W.keepIn K (.ref f) = true ∧ mg x = some (.ref f)
theorem pe_fn {x : Str} {ps : List Str} {k k' : Nat} {sp : Sp} {e : Expr} {es : List Expr} {t : TA} {p pos : Pos} (C : Call1 X.prog X.w X.K X.mg X.base x ps k sp) (hr : Room k' X.A) (hg : Gl X x) (ha : PA X (e :: es) t) (hk : k ≤ k' := by first | decide | exact Nat.le_refl _ | omega) (hdb : (x == ("__debug__" : Str)) = false := by decide)
    (he : starEach (e :: es) X.env = (false, eval e X.env) :: starEach es X.env := by rfl) (hpl : (backTo pos (starEach es X.env)).any (·.1) = false := by rfl) : PE X (.Call (.Name x p) (e :: es) [] pos) (tCall sp [] E0 t) := by
  obtain ⟨f, fd, F, b, kp, m⟩ := C.ex
  exact pe_call F (hr.mono hk) hg m kp b .nil pass0 ha hdb he hpl
end

/-! ### the law's drawn numbers: a list of three ints, the first not below 0 -/
def Pot (H : Hp) (l : Addr) : Prop := ∃ g q c : Int, H l = some (.lst [.int g, .int q, .int c]) ∧ 0 ≤ g
structure Ex (l : Addr) (H H' : Hp) : Prop where
  keep : ∀ b o, b ≠ l → H b = some o → H' b = some o
  pot : Pot H' l
theorem Ex.refl {l : Addr} {H : Hp} (p : Pot H l) : Ex l H H := ⟨fun _ _ _ h => h, p⟩
theorem Ex.trans {l : Addr} {H H1 H2 : Hp} (a : Ex l H H1) (b : Ex l H1 H2) : Ex l H H2 := ⟨fun c o n h => b.keep c o n (a.keep c o n h), b.pot⟩
theorem Pot.same {l : Addr} {H H1 : Hp} (p : Pot H l) (s : Same H H1) : Pot H1 l := by
  obtain ⟨g, q, c, e, h⟩ := p
  exact ⟨g, q, c, s _ _ e, h⟩
theorem Ex.same {l : Addr} {H H1 H2 : Hp} (a : Ex l H H1) (s : Same H1 H2) : Ex l H H2 := ⟨fun c o n h => s _ _ (a.keep c o n h), a.pot.same s⟩
theorem Ex.of {l : Addr} {H H1 : Hp} (p : Pot H l) (s : Same H H1) : Ex l H H1 := (Ex.refl p).same s
theorem Ex.pick {l : Addr} {H : Hp} {g q c : Int} (h : 0 ≤ g) : Ex l H (upd H l (.lst [.int g, .int q, .int c])) := ⟨fun b o n e => by rw [upd_ne n]; exact e, ⟨g, q, c, upd_same, h⟩⟩
theorem Ex.tups {l : Addr} {H H' : Hp} (p : Pot H l) (e : Ex l H H') : Tups H H' := fun a u r => by
  obtain ⟨g, q, c, el, _⟩ := p
  rcases r with h | ⟨o, h⟩
  · exact .inl (e.keep _ _ (ne_of h el fun z => nomatch z) h)
  · exact .inr ⟨o, e.keep _ _ (ne_of h el fun z => nomatch z) h⟩
/-- a list that is not the pot -/
theorem Ex.lst {l a : Addr} {H H' : Hp} {xs : List V} (e : Ex l H H') (n : a ≠ l) (h : H a = some (.lst xs)) : H' a = some (.lst xs) := e.keep _ _ n h
theorem Ex.free {l a : Addr} {H H' : Hp} (e : Ex l H H') (p : Pot H l) (h : H' a = none) : H a = none := by
  cases q : H a with
  | none => rfl
  | some o =>
    by_cases n : a = l
    · subst n
      obtain ⟨_, _, _, z, _⟩ := e.pot
      rw [z] at h; cases h
    · rw [e.keep a o n q] at h; cases h

/-! ### webs as data -/
abbrev dI (ns : List Int) : PyData := .tuple (ns.map .int)
abbrev dP (p : Int × Int) : PyData := .tuple [.int p.1, .int p.2]
abbrev dT (ts : List (Int × Int)) : PyData := .tuple (ts.map dP)
abbrev dW (ps : List Int) (ts : List (Int × Int)) : PyData := .tuple [dI ps, dT ts]
section
variable {K : PySem.W.Frag} {H : Hp}
theorem Rps.ints : ∀ (ns : List Int), Rps K H (ns.map V.int) (ns.map .int)
  | [] => .nil
  | n :: ns => .cons (.int n) (Rps.ints ns)
theorem Rps.ints_inv : ∀ {ns : List Int} {xs : List V}, Rps K H xs (ns.map .int) → xs = ns.map V.int
  | [], _, .nil => rfl
  | n :: ns, _, .cons (.int _) r => by rw [Rps.ints_inv r]; rfl
theorem Rp.ofI {a : Addr} {ns : List Int} (h : SqT K H a (ns.map V.int)) : Rp K H (.ref a) (dI ns) := .tup h (Rps.ints ns)
theorem Rp.toI {v : V} {ns : List Int} (h : Rp K H v (dI ns)) : ∃ a, v = .ref a ∧ SqT K H a (ns.map V.int) := by
  cases h with
  | tup q r =>
    rw [Rps.ints_inv r] at q
    exact ⟨_, rfl, q⟩
theorem Rp.toP {v : V} {p : Int × Int} (h : Rp K H v (dP p)) : ∃ a, v = .ref a ∧ SqT K H a [.int p.1, .int p.2] := by
  obtain ⟨a, e, q⟩ := Rp.toI (ns := [p.1, p.2]) h
  exact ⟨a, e, q⟩
theorem Rp.ofP {a : Addr} {p : Int × Int} (h : SqT K H a [.int p.1, .int p.2]) : Rp K H (.ref a) (dP p) := Rp.ofI (ns := [p.1, p.2]) h
theorem Rp.toT {v : V} {ts : List (Int × Int)} (h : Rp K H v (dT ts)) : ∃ a ys, v = .ref a ∧ SqT K H a ys ∧ Rps K H ys (ts.map dP) := by
  cases h with
  | tup q r => exact ⟨_, _, rfl, q, r⟩
theorem Rp.toW {v : V} {ps : List Int} {ts : List (Int × Int)} (h : Rp K H v (dW ps ts)) : ∃ a p t ys, v = .ref a ∧ SqT K H a [.ref p, .ref t] ∧ SqT K H p (ps.map V.int) ∧ SqT K H t ys ∧ Rps K H ys (ts.map dP) := by
  cases h with
  | tup q r =>
    cases r with
    | cons r1 r2 =>
      cases r2 with
      | cons r3 r4 =>
        cases r4
        obtain ⟨p, rfl, q1⟩ := r1.toI
        obtain ⟨t, ys, rfl, q2, q3⟩ := r3.toT
        exact ⟨_, p, t, ys, rfl, q, q1, q2, q3⟩
theorem Rp.ofW {v1 v2 : V} {a : Addr} {ps : List Int} {ts : List (Int × Int)} (h : SqT K H a [v1, v2]) (h1 : Rp K H v1 (dI ps)) (h2 : Rp K H v2 (dT ts)) : Rp K H (.ref a) (dW ps ts) := .tup h (.cons h1 (.cons h2 .nil))
theorem Rps.pairAt {ys : List V} {ts : List (Int × Int)} {i : Nat} {y : V} (r : Rps K H ys (ts.map dP)) (e : ys[i]? = some y) : ∃ t a, ts[i]? = some t ∧ y = .ref a ∧ SqT K H a [.int t.1, .int t.2] := by
  obtain ⟨d, hd, rd⟩ := r.get e
  rw [List.getElem?_map] at hd
  cases q : ts[i]? with
  | none => rw [q] at hd; cases hd
  | some t =>
    rw [q] at hd
    cases hd
    obtain ⟨a, ea, qa⟩ := rd.toP
    exact ⟨t, a, rfl, ea, qa⟩
theorem Rps.tis : ∀ {ts : List (Int × Int)} {ys : List V}, Rps K H ys (ts.map dP) → TIs K H ys (ts.map fun t => [t.1, t.2])
  | [], _, .nil => .nil
  | t :: ts, _, .cons r q => .cons (let ⟨a, e, h⟩ := r.toP; ⟨a, e, h⟩) (Rps.tis q)
theorem Rps.snoc : ∀ {vs : List V} {ds : List PyData} {v : V} {d : PyData}, Rps K H vs ds → Rp K H v d → Rps K H (vs ++ [v]) (ds ++ [d])
  | _, _, _, _, .nil, r => .cons r .nil
  | _, _, _, _, .cons a b, r => .cons a (Rps.snoc b r)
theorem can_ints : ∀ (ns : List Int), PyData.canLayAll0 (ns.map .int) = true
  | [] => rfl
  | n :: ns => by show (PyData.canLay0 (.int n) && PyData.canLayAll0 (ns.map .int)) = true; rw [can_ints ns]; rfl
theorem can_pairs : ∀ (ts : List (Int × Int)), PyData.canLayAll0 (ts.map dP) = true
  | [] => rfl
  | t :: ts => by show (PyData.canLay0 (dP t) && PyData.canLayAll0 (ts.map dP)) = true; rw [can_pairs ts]; rfl
theorem eqv_pair (a b : Int × Int) : PyData.eqv (dP a) (dP b) = decide (a = b) := by
  show ((a.1 == b.1) && ((a.2 == b.2) && true)) = _
  obtain ⟨x, y⟩ := a
  obtain ⟨z, t⟩ := b
  by_cases h1 : x = z <;> by_cases h2 : y = t <;> simp [h1, h2]
theorem any_pair (ts : List (Int × Int)) (e : Int × Int) : ((ts.map dP).any fun d => PyData.eqv d (dP e)) = decide (e ∈ ts) := by
  rw [List.any_map]
  induction ts with
  | nil => simp
  | cons t ts ih =>
    rw [List.any_cons, ih]
    show (PyData.eqv (dP t) (dP e) || _) = _
    rw [eqv_pair]
    by_cases h : t = e
    · simp [h]
    · simp [h, Ne.symm h]
theorem eqv_ints : ∀ (ns ms : List Int), PyData.eqvAll (ns.map .int) (ms.map .int) = decide (ns = ms)
  | [], [] => rfl
  | [], _ :: _ => rfl
  | _ :: _, [] => rfl
  | n :: ns, m :: ms => by
    show ((n == m) && PyData.eqvAll (ns.map .int) (ms.map .int)) = _
    rw [eqv_ints ns ms]
    by_cases h1 : n = m <;> by_cases h2 : ns = ms <;> simp [h1, h2]
theorem eqv_pairs : ∀ (ns ms : List (Int × Int)), PyData.eqvAll (ns.map dP) (ms.map dP) = decide (ns = ms)
  | [], [] => rfl
  | [], _ :: _ => rfl
  | _ :: _, [] => rfl
  | n :: ns, m :: ms => by
    show (PyData.eqv (dP n) (dP m) && PyData.eqvAll (ns.map dP) (ms.map dP)) = _
    rw [eqv_pairs ns ms, eqv_pair]
    by_cases h1 : n = m <;> by_cases h2 : ns = ms <;> simp [h1, h2]
theorem eqv_web (ps qs : List Int) (ts us : List (Int × Int)) : PyData.eqv (dW ps ts) (dW qs us) = decide (ps = qs ∧ ts = us) := by
  show (PyData.eqvAll (ps.map .int) (qs.map .int) && (PyData.eqvAll (ts.map dP) (us.map dP) && true)) = _
  rw [eqv_ints, eqv_pairs]
  by_cases h1 : ps = qs <;> by_cases h2 : ts = us <;> simp [h1, h2]
theorem inV_ints (n : Int) (ns : List Int) : inV (.int n) (ns.map V.int) = decide (n ∈ ns) := by
  unfold inV
  rw [List.any_map]
  induction ns with
  | nil => simp
  | cons m ns ih =>
    rw [List.any_cons, ih]
    show ((m == n) || _) = _
    by_cases h : m = n
    · simp [h]
    · simp [h, Ne.symm h]
theorem flat_ints (ns : List Int) : (ns.map V.int).all flatV = true := by
  rw [List.all_map]; simp [Function.comp, flatV]
end
end L2
end

section
set_option Elab.async false
set_option linter.all false
set_option maxRecDepth 100000
set_option maxHeartbeats 4000000
namespace L2
open PySem PySem.Spec PyProof.Rows
section
variable {X : Cx}
/-- the block's own frame may be anything now -/
theorem Inv.let_go {pins : List (Addr × Obj)} {σ : St} {H : Hp} {s : Shared} {C : Addr} {h' : Heap} (I : Inv X pins σ H s) (hn : H C = none) (hL : C ≠ X.env.locals) (h1 : X.s₀.heap.objs.size ≤ C) (h2 : ∀ x c, X.env.cells.lookup x = some c → c ≠ C) (h3 : ∀ p ∈ X.pn ++ pins, p.1 ≠ C)
    (sb : Heap.SameBut C s.heap h') : Inv X pins σ H { s with heap := h' } := I.turned (t' := s.toks) (fun b o hb e => (sb.2 b hb).trans e) hn hL (.inr h1) h2 h3
/-- name = [elt for target in iter if ..] where the name is a local on the comprehension's own line -/
theorem ps_lcs {i : Nat} {x : Str} {elt target iter : Expr} {ifs : List Expr} {scope : Scope} {pos pos' spos : Pos} {N : List Str} {fr : List (Option Nat)} {wi : TI} {g : Bk → TG} {tt : Bk → TT} {te : Bk → TE} (hN : X.N.Nodup) (hi' : X.N[i]? = some x) (hx : X.env.scope.names.lookup x = some .local)
    (hc : X.calm = true) (S : CompSc X scope N fr) (hi : PI X target iter wi)
    (hin : ∀ z : Bk, PG (compCx X scope z.cl N z.C z.fp z.s z.H) target (g z) ∧ PIfs (compCx X scope z.cl N z.C z.fp z.s z.H) ifs (tt z) ∧ PE (compCx X scope z.cl N z.C z.fp z.s z.H) elt (te z))
    (hs : ∀ x, foldedSetIterable iter X.env x = pure x := by intro _; rfl) (hsw : swapsWith (.ListComp elt [⟨target, iter, ifs, 0⟩] scope pos) (some (.Name x pos')) spos.line X.env = pure true := by rfl) :
    PS X (.Assign [.Name x pos'] (.ListComp elt [⟨target, iter, ifs, 0⟩] scope pos) spos) (tAsg (tLC fr wi g tt te) (gName i)) := by
  intro pins s σ H Dn I h
  rw [exec_Assign_Name_used _ _ _ _ hsw]
  refine wpAny_bind (wpAny_standAt (wpAny_bind ?_))
  show wpAny _ X.A (do let _ ← comprehension (.ListComp elt [⟨target, iter, ifs, 0⟩] scope pos) scope X.env (firstIterPos [⟨target, iter, ifs, 0⟩] pos) (newList []) (firstAsync [⟨target, iter, ifs, 0⟩]) (firstIter [⟨target, iter, ifs, 0⟩] X.env) (some (assign (.Name x pos') X.env))) _ _ s
  refine wpAny_bind (wpAny_mono (wpAny_comprehension_free (g := ⟨target, iter, ifs, 0⟩) (gs := []) (use := some (assign (.Name x pos') X.env)) (Q := fun _ s' => SP X pins Dn .next s') (E := X.xe) rfl hs (closureFor_cells (S.cells I)) S.kind S.locs ?_) (fun _ s' hq => wpAny_pure (wpAny_pure hq)) fun _ _ e => e)
  refine thn (hi pins s σ H _ I h) fun v s1 h1 => thn h1 fun itv s2 h2 => ?_
  obtain ⟨it, fp, tn, J, H2, e, I2, T, st2, f2, h2⟩ := h2
  subst e
  refine wpAny_newObj_type ?_
  have hD : H2 s2.heap.objs.size = none := I2.fresh
  have I3 := I2.lnew (t' := s2.toks) (ys := []) (its := []) .nil (Nat.zero_le _)
  have lt2 : ∀ b ∈ fp, b < s2.heap.objs.size := fun b hb => by
    obtain ⟨o, e, _⟩ := T.obj _ _ st2 b hb
    exact Heap.lt_size e
  have f3 : ∀ b ∈ fp, FpOk X pins (upd H2 s2.heap.objs.size (.lst [])) b := fun b hb => ⟨by rw [upd_ne (Nat.ne_of_lt (lt2 b hb))]; exact (f2 b hb).1, (f2 b hb).2⟩
  generalize hs3 : ({ s2 with heap := s2.heap.push { cls := .type "list", data := .seq ([] : List Value).toArray } } : Shared) = s3
  have I3 : Inv X pins σ (upd H2 s2.heap.objs.size (.lst [])) s3 := by rw [← hs3]; exact I3
  have sz3 : s3.heap.objs.size = s2.heap.objs.size + 1 := by rw [← hs3]; exact Heap.size_push ..
  have u23 : Un (frs X.stack) [] H2 (upd H2 s2.heap.objs.size (.lst [])) s2.heap s3.heap := by
    rw [← hs3]
    exact Un.laid (fun b o e => Heap.get?_push_of_some _ e) (Nat.le_refl _) hD
  have ho : s3.os = s2.os := by rw [← hs3]
  have st3 : tn 0 s3.heap := T.keep _ _ _ st2 fun b _ o e => by rw [← hs3]; exact Heap.get?_push_of_some _ e
  refine wpAny_newFunctionEnv S.nocell (by intro y hy; simp at hy) (fun h4 hns hsb => ?_) S.kind
  have lt3 : ∀ b ∈ fp, b < s3.heap.objs.size := fun b hb => Nat.lt_of_lt_of_le (lt2 b hb) (by rw [sz3]; exact Nat.le_succ _)
  have I4 := inv_comp (tk := s3.toks + ([] : List (Str × Value)).length) I3 S f3 lt3 hns hsb
  have old4 : ∀ b o, s3.heap.get? b = some o → h4.get? b = some o := fun b o e => (hsb.2 b (Nat.ne_of_lt (Heap.lt_size e))).trans (Heap.get?_push_of_some _ e)
  have st4 : tn 0 h4 := T.keep _ _ _ st3 fun b _ o e => old4 b o e
  have h2 := h2 _ hD ⟨closOf X.env.cells scope.names [], s3.heap.objs.size, fp, s3, upd H2 s2.heap.objs.size (.lst [])⟩
  obtain ⟨hg, hif, hel⟩ := hin ⟨closOf X.env.cells scope.names [], s3.heap.objs.size, fp, s3, upd H2 s2.heap.objs.size (.lst [])⟩
  have loop : codeAny (model X.prog X.w) X.A (.compLoop (.ListComp elt [⟨target, iter, ifs, 0⟩] scope pos) 0 (.ref it) (.ref s2.heap.objs.size) (compEnvC scope (closOf X.env.cells scope.names []) s3.heap.objs.size X.env))
      (compPost (model X.prog X.w) X.A X.xe (some (assign (.Name x pos') X.env)) (fun _ s' => SP X pins Dn .next s') (.ref s2.heap.objs.size) s3.heap.objs.size) { s3 with heap := h4, toks := s3.toks + ([] : List (Str × Value)).length } := by
    refine comp_loop (X := compCx X scope (closOf X.env.cells scope.names []) N s3.heap.objs.size fp s3 (upd H2 s2.heap.objs.size (.lst []))) (em := (do let _ ← call (.builtin "list.append") [.ref s2.heap.objs.size, ← eval elt (compEnvC scope (closOf X.env.cells scope.names []) s3.heap.objs.size X.env)]))
      (compTurn_list ..) (fun _ _ _ z => z) rfl hc rfl hg hif (em_app hel) T I4 st4 (fun b hb => ?_) h2 (fun τ' H' s' J' q => ?_)
    · obtain ⟨f0, f1, fs, fe, fc, fp'⟩ := f3 b hb
      refine ⟨f0, Nat.ne_of_lt (lt3 b hb), fun z => ?_, .inl hb, fun x c e => fc x c (clos_sub scope.names [] (fun _ _ z => by simp at z) e), fun p hp => absurd (show p ∈ ([] : List (Addr × Obj)) from hp) (by simp)⟩
      rcases List.mem_cons.mp (I3.stkSub b z) with z | z
      · exact f1 z
      · exact fs z
    · obtain ⟨m, hn, _⟩ := J'.loc
      have Io : Inv X pins σ H' s' := comp_out (h' := s'.heap) I2 f2 u23 ho (by rw [sz3]; exact Nat.le_succ _) J' (Heap.SameBut.refl ..)
      have Lne : X.env.locals ≠ s3.heap.objs.size := Nat.ne_of_lt I3.lt
      have cne : ∀ y c, X.env.cells.lookup y = some c → c ≠ s3.heap.objs.size := fun y c e => by
        obtain ⟨v, z⟩ := I3.cell y c e
        exact Nat.ne_of_lt z.lt
      show wpAny (model X.prog X.w) X.A (assign (.Name x pos') X.env (.ref s2.heap.objs.size)) _ X.xe s'
      refine wpAny_assign_Name (store_ok2 (v := .ref s2.heap.objs.size) Io hN hi' (.inl hx) rfl (fun s5 I5 sb5 => ?_) (.inr hx))
      obtain ⟨b, sb, hb⟩ := sb5
      have hbne : s3.heap.objs.size ≠ b := by
        rcases hb with e | e
        · rw [e]; exact Lne.symm
        · exact (cne _ _ e).symm
      refine ⟨m, hn.sameBut sb hbne, fun h' sb' => ⟨_, H', ?_, q⟩⟩
      refine I5.let_go (C := s3.heap.objs.size) J'.free Lne.symm I3.sz cne (fun p hp => ?_) sb'
      exact Nat.ne_of_lt (Heap.lt_size (I3.pin p hp).1)
  exact codeAny_compStart_list loop (T.self X.A 0 _ _ _ st4 loop)
end

/-! ### comprehensions, the usual words -/
/-- over a tuple that stays -/
theorem loop_tup {K : PySem.W.Frag} {a : Addr} {xs : List V} {g : TG} {tt : TT} {tem : TM} {τ : St} {H : Hp} {Q : Hp → Prop} (Pv : Nat → St → Hp → Prop) (h0 : Pv 0 τ H) (hl : ∀ i τ H, i ≤ xs.length → Pv i τ H → SqT K H a xs)
    (hs : ∀ i x τ H, xs[i]? = some x → Pv i τ H → g x τ H fun τ2 H2 => tt τ2 H2 fun b H3 => if b = true then tem τ2 H3 (Pv (i + 1) τ2) else Pv (i + 1) τ2 H3) (hd : ∀ τ H, Pv xs.length τ H → Q H) :
    tLoop g tt tem (Itt K a) τ H Q := by
  refine ⟨fun i m τ H => m = xs.length - i ∧ i ≤ xs.length ∧ Pv i τ H, ⟨xs.length, by simp, Nat.zero_le _, h0⟩, ?_⟩
  rintro i m τ H ⟨rfl, hi, p⟩
  have q := hl i τ H hi p
  by_cases hlt : i < xs.length
  · refine .inr ⟨⟨xs, xs[i], q, by simp [hlt]⟩, Pv (i + 1), fun τ' H' p' => ⟨xs.length - (i + 1), by omega, rfl, hlt, p'⟩, fun x H' y => ?_⟩
    obtain ⟨e, y⟩ := y
    subst e
    exact hs i x τ _ (y xs q) p
  · have e : i = xs.length := by omega
    subst e
    exact .inl ⟨⟨xs, q, Nat.le_refl _⟩, hd τ H p⟩
theorem loop_range {lo : Int} {n : Nat} {g : TG} {tt : TT} {tem : TM} {τ : St} {H : Hp} {Q : Hp → Prop} (Pv : Nat → St → Hp → Prop) (h0 : Pv 0 τ H)
    (hs : ∀ i τ H, i < n → Pv i τ H → g (.int (lo + i)) τ H fun τ2 H2 => tt τ2 H2 fun b H3 => if b = true then tem τ2 H3 (Pv (i + 1) τ2) else Pv (i + 1) τ2 H3) (hd : ∀ τ H, Pv n τ H → Q H) :
    tLoop g tt tem (Itr lo n) τ H Q := by
  refine ⟨fun i m τ H => m = n - i ∧ i ≤ n ∧ Pv i τ H, ⟨n, by simp, Nat.zero_le _, h0⟩, ?_⟩
  rintro i m τ H ⟨rfl, hi, p⟩
  by_cases hlt : i < n
  · refine .inr ⟨hlt, Pv (i + 1), fun τ' H' p' => ⟨n - (i + 1), by omega, rfl, hlt, p'⟩, fun x H' y => ?_⟩
    obtain ⟨e, y⟩ := y
    subst e y
    exact hs i τ _ hlt p
  · have e : i = n := by omega
    subst e
    exact .inl ⟨Nat.le_refl _, hd τ H p⟩
/-- over a zip of two tuples of one length -/
theorem loop_zip {K : PySem.W.Frag} {a b : Addr} {xs ys : List V} {g : TG} {tt : TT} {tem : TM} {τ : St} {H : Hp} {Q : Hp → Prop} (Pv : Nat → St → Hp → Prop) (h0 : Pv 0 τ H) (hle : xs.length = ys.length) (hl : ∀ i τ H, i ≤ xs.length → Pv i τ H → SqT K H a xs ∧ SqT K H b ys)
    (hs : ∀ i x y p τ H, xs[i]? = some x → ys[i]? = some y → Pv i τ H → H p = none → g (.ref p) τ (upd H p (.tup [x, y])) fun τ2 H2 => tt τ2 H2 fun b H3 => if b = true then tem τ2 H3 (Pv (i + 1) τ2) else Pv (i + 1) τ2 H3) (hd : ∀ τ H, Pv xs.length τ H → Q H) :
    tLoop g tt tem (Itz K a b) τ H Q := by
  refine ⟨fun i m τ H => m = xs.length - i ∧ i ≤ xs.length ∧ Pv i τ H, ⟨xs.length, by simp, Nat.zero_le _, h0⟩, ?_⟩
  rintro i m τ H ⟨rfl, hi, p⟩
  obtain ⟨q1, q2⟩ := hl i τ H hi p
  by_cases hlt : i < xs.length
  · have hlt2 : i < ys.length := by omega
    refine .inr ⟨⟨xs, ys, xs[i], ys[i], q1, q2, by simp [hlt], by simp [hlt2]⟩, Pv (i + 1), fun τ' H' p' => ⟨xs.length - (i + 1), by omega, rfl, hlt, p'⟩, fun v H' z => ?_⟩
    obtain ⟨p', x, y, hn, e1, e2, hx, hy⟩ := z
    subst e1 e2
    exact hs i x y p' τ H (hx xs q1) (hy ys q2) p hn
  · have e : i = xs.length := by omega
    subst e
    exact .inl ⟨⟨xs, ys, q1, q2, .inl (Nat.le_refl _)⟩, hd τ H p⟩
end L2
end

section
set_option Elab.async false
set_option linter.all false
set_option maxRecDepth 100000
set_option maxHeartbeats 4000000
namespace L2
open PySem PySem.Spec PyProof.Rows
section
variable {X : Cx}
/-- a row of plain whole numbers -/
def litInts : List Expr → Option (List Int)
  | [] => some []
  | .Constant (.int i) _ _ :: es => (litInts es).map (i :: ·)
  | _ => none
def tInts (ns : List Int) : TA := fun _ H Q => Q (ns.map V.int) H
theorem pa_ints' : ∀ (es : List Expr) (ns : List Int), litInts es = some ns → PA X es (tInts ns)
  | [], ns, h => by cases h; exact pa_nil
  | e :: es, ns, h => by
    unfold litInts at h
    split at h
    · rename_i e1; cases e1
    · rename_i i j p es' e1
      cases e1
      obtain ⟨ms, h1, rfl⟩ := Option.map_eq_some_iff.mp h
      exact pa_cons pe_int (pa_ints' es ms h1)
    · cases h
theorem pss_consH {st : Stmt} {rest : List Stmt} {t u : TS} (h1 : PS X st t) (h2 : ∀ R, R = rest → PSs X R u) : PSs X (st :: rest) (tSeq t u) := pss_cons h1 (h2 _ rfl)
theorem pa_ints {es : List Expr} {ns : List Int} (h : litInts es = some ns) : PA X es (tInts ns) := pa_ints' es ns h
/-- name = [numbers][b], the row of what follows held as a name, so that nothing is worked out too early -/
theorem pss_big {R rest : List Stmt} {es : List Expr} {ns : List Int} {i : Nat} {x : Str} {b : Expr} {tb : TE} {u : TS} {pos pos' p1 p2 : Pos} (hR : R = .Assign [.Name x pos'] (.Subscript (.List es p1) b p2) pos :: rest) (hN : X.N.Nodup) (hi : X.N[i]? = some x) (hx : Loc X.env.scope x) (hes : litInts es = some ns)
    (hb : PE X b tb) (hs : PlainIx b) (h2 : PSs X rest u) (hsw : swapsWith (.Subscript (.List es p1) b p2) (some (.Name x pos')) pos.line X.env = pure false := by rfl) (hf : X.fn x = true ∨ X.env.scope.names.lookup x = some .local := by first | exact .inl rfl | exact .inr rfl | assumption) :
    PSs X R (tSeq (tAsg (tOp (rIxL X.K) (tLst (tInts ns)) tb) (gName i)) u) := by
  subst hR
  exact pss_cons (ps_set hN hi hx (pe_ix ix_list (pe_lst (pa_ints hes)) hb hs) hsw hf) h2
end
end L2
end

section
set_option Elab.async false
set_option linter.all false
set_option maxRecDepth 100000
set_option maxHeartbeats 1000000
namespace L2
open PySem PySem.Spec PyProof.Rows
section
variable {X : Cx}
/-- min of a list of whole numbers, not empty -/
theorem call_min_ints (hc : X.calm = true) : CallR X (.builtin "min") (fun xs H Q => ∃ p ns, xs = [.ref p] ∧ SqL X.K H p (ns.map V.int) ∧ ns ≠ [] ∧ ∀ M : Int, M ∈ ns → (∀ a, a ∈ ns → M ≤ a) → Q (.int M) H) := by
  intro pins s σ H xs us Q I r h
  obtain ⟨p, ns, rfl, hq, hne, q⟩ := h
  obtain ⟨u, rfl, rx⟩ := vals1 r
  cases rx
  obtain ⟨its, rv, pl, hz⟩ := I.list hq
  have hi := intsAre_of rv
  have hn := hi.numsOf
  have hl := hi.length
  obtain ⟨xs, e⟩ := hi.allInts.items
  have hp := pl.isList
  rw [e] at hp
  have en : numsOf its = xs.toList.map (·.1) := by
    have := nums_intItems (xs := xs)
    rw [← e] at this
    exact this
  rw [en] at hn
  have hsz : 0 < xs.size := by
    have h1 : ns.length = xs.size := by rw [← hn, List.length_map, Array.length_toList]
    have : ns.length ≠ 0 := fun z => hne (List.length_eq_zero_iff.mp z)
    omega
  refine min_intList (I.ok.hd hc) hp hsz fun v h' tk hv hk => ?_
  obtain ⟨t, rfl⟩ := intItems_at hv
  obtain ⟨h1, h2⟩ := argBest_lt (numAt xs) (xs.size - 1)
  refine ⟨.int _, H, I.kept (t' := tk) hk, ⟨t, rfl⟩, q _ ?_ fun a ha => ?_⟩
  · rw [numAt_eq, ← hn]; exact getD_mem (by rw [List.length_map, Array.length_toList]; omega)
  · rw [← hn] at ha
    obtain ⟨j, hj, rfl⟩ := mem_getD ha
    rw [List.length_map, Array.length_toList] at hj
    rw [← numAt_eq]; exact h2 j (by omega)
end
end L2
end

section
set_option Elab.async false
set_option linter.all false
set_option maxRecDepth 100000
set_option maxHeartbeats 1000000
namespace L2
open PySem PySem.Spec PyProof.Rows
section
variable {X : Cx}
theorem pa_consH {e : Expr} {es : List Expr} {te : TE} {t : TA} (ha : PE X e te) (hr : ∀ R, R = es → PA X R t) (hs : starEach (e :: es) X.env = (false, eval e X.env) :: starEach es X.env := by rfl) : PA X (e :: es) (tCons te t) := pa_cons ha (hr _ rfl) hs
theorem pa_bigix {R : List Expr} {es : List Expr} {ns : List Int} {b : Expr} {tb : TE} {p1 p2 : Pos} (hR : R = [.Subscript (.List es p1) b p2]) (hes : litInts es = some ns) (hb : PE X b tb) (hs : PlainIx b) : PA X R (tCons (tOp (rIxL X.K) (tLst (tInts ns)) tb) tNil) := by
  subst hR
  exact pa_cons (pe_ix ix_list (pe_lst (pa_ints hes)) hb hs) pa_nil
/-- t[lo:hi] where it is the whole: t itself -/
theorem getItem_tuple_all {prog : Program} {w : World} {A : Around} {E : Value → Shared → Prop} {s : Shared} {t sl : Addr} {its : Array Value} {vl vu : Value} {lo hi : Option Int} {Q : Value → Shared → Prop} (ht : IsTup s.heap t its) (hs : s.heap.IsSliceOf sl vl vu .none) (pl : IsPart vl lo) (pu : IsPart vu hi)
    (h0 : HT.sIx its.size 0 lo = 0) (h1 : HT.sIx its.size its.size hi = its.size) (h : Q (.ref t) s) : wpAny (model prog w) A (getItem (.ref t) (.ref sl)) Q E s := by
  have T : s.TypeIs (.ref sl) "slice" := by obtain ⟨o, a, b, _⟩ := id hs; exact ⟨o, a, b⟩
  unfold getItem
  first | with_reducible refine wpAny_holding ?_ | skip
  first | refine wpAny_bind (wpAny_pure ?_) | skip
  refine wpAny_bind (wpAny_sequenceKey ht.typeIs (by decide) ?_)
  refine wpAny_bind (wpAny_callSpecial?_slot (name := "__getitem__") ht.typeIs slot_tuple_getitem (wpAny_call_entry slot_tuple_getitem ht.typeIs entry_tuple_getitem ?_ (args_tuple_getitem _ _)))
  show wpAny _ _ (Builtin.Tuple.tupleItemsOf (.ref t) >>= _) _ _ s
  refine wpAny_bind (tupleItemsOf_ ht (wpAny_bind (wpAny_typeOf T ?_)))
  rw [if_pos (by decide)]
  refine wpAny_bind (HT.sliceApplied_gen hs pl pu ?_)
  have c : (((HT.sIx its.size 0 lo : Nat) : Int) == 0 && (1 : Int) == 1 && (HT.sIx its.size its.size hi - HT.sIx its.size 0 lo) == its.size) = true := by
    rw [h0, h1, Nat.sub_zero, beq_self_eq_true its.size]; rfl
  show wpAny _ _ (if (((HT.sIx its.size 0 lo : Nat) : Int) == 0 && (1 : Int) == 1 && (HT.sIx its.size its.size hi - HT.sIx its.size 0 lo) == its.size) = true then _ else _) _ _ s
  rw [if_pos c]
  refine wpAny_bind (wpAny_bind (wpAny_typeOf ht.typeIs (wpAny_pure ?_)))
  rw [if_pos (by decide)]
  first
    | exact wpAny_bind (wpAny_pure (wpAny_pure ⟨_, rfl, wpAny_pure h⟩))
    | exact wpAny_bind (wpAny_rule (wpAny_pure ⟨_, rfl, wpAny_pure h⟩))
    | exact wpAny_rule (wpAny_pure ⟨_, rfl, wpAny_pure h⟩)
    | trace_state
/-- t[lo:hi], whole or not -/
def rSlA (K : PySem.W.Frag) : V → Option Int → Option Int → Hp → VK → Prop := fun x lo hi H Q => ∃ a xs, x = .ref a ∧ SqT K H a xs ∧ ∀ r H', Same H H' → SqT K H' r (cutV xs lo hi) → Q (.ref r) H'
theorem sl_tupA : SlR X (rSlA X.K) := by
  intro pins s σ H x v vl vu lo hi sl Q I rx hs pl pu h
  obtain ⟨a, xs, rfl, hx, q⟩ := h
  by_cases hw : HT.sIx xs.length 0 lo = 0 ∧ HT.sIx xs.length xs.length hi = xs.length
  · cases rx
    obtain ⟨its, r, ht, hz⟩ := I.tuple hx
    have hlen : its.toArray.size = xs.length := by rw [List.size_toArray]; exact r.length.symm
    refine ⟨"tuple", _, PyProof.Rows.slot_tuple_getitem.lookup, ht.typeIs, ?_⟩
    refine getItem_tuple_all ht hs pl pu (by rw [hlen]; exact hw.1) (by rw [hlen]; exact hw.2) ⟨.ref a, H, I, rfl, q a H (fun _ _ z => z) ?_⟩
    have e : cutV xs lo hi = xs := by unfold cutV; rw [hw.1, hw.2, List.drop_zero, Nat.sub_zero, List.take_length]
    rw [e]; exact hx
  · exact sl_tup pins s σ H _ v vl vu lo hi sl Q I rx hs pl pu ⟨a, xs, rfl, hx, hw, fun p hp => q p _ (same_new hp _) (SqT.of upd_same)⟩
end
end L2
end

section
set_option Elab.async false
set_option linter.all false
set_option maxRecDepth 100000
set_option maxHeartbeats 1000000
namespace Bf
/-! ### places come to, step by step -/
theorem nodup_len : ∀ (l m : List Int), l.Nodup → (∀ x ∈ l, x ∈ m) → l.length ≤ m.length
  | [], m, _, _ => Nat.zero_le _
  | x :: l, m, nd, h => by
    rw [List.nodup_cons] at nd
    have hx := h x List.mem_cons_self
    have := nodup_len l (m.erase x) nd.2 fun y hy => by
      have ne : y ≠ x := fun e => nd.1 (e ▸ hy)
      exact (List.mem_erase_of_ne ne).mpr (h y (List.mem_cons_of_mem _ hy))
    rw [List.length_erase_of_mem hx] at this
    have : 0 < m.length := List.length_pos_of_mem hx
    rw [List.length_cons]
    omega
variable {nbr : Int → List Int} {S : List Int} {g : Int}
def R (nbr : Int → List Int) (S : List Int) (g : Int) : Nat → Int → Prop
  | 0, p => p = g
  | n + 1, p => R nbr S g n p ∨ (p ∈ S ∧ ∃ q, R nbr S g n q ∧ p ∈ nbr q)
def D (nbr : Int → List Int) (S : List Int) (g : Int) (n : Nat) (p : Int) : Prop := R nbr S g n p ∧ ∀ m, m < n → ¬ R nbr S g m p
theorem R.up {n : Nat} {p : Int} (h : R nbr S g n p) : ∀ {m : Nat}, n ≤ m → R nbr S g m p := by
  intro m hm
  induction m with
  | zero => have : n = 0 := by omega
            subst this; exact h
  | succ m ih =>
    by_cases e : n = m + 1
    · subst e; exact h
    · exact .inl (ih (by omega))
theorem D.uniq {n m : Nat} {p : Int} (a : D nbr S g n p) (b : D nbr S g m p) : n = m := by
  rcases Nat.lt_trichotomy n m with h | h | h
  · exact absurd a.1 (b.2 n h)
  · exact h
  · exact absurd b.1 (a.2 m h)
theorem D.le {n m : Nat} {p : Int} (a : D nbr S g n p) (b : R nbr S g m p) : n ≤ m := by
  by_cases h : m < n
  · exact absurd b (a.2 m h)
  · omega
theorem D.of {p : Int} : ∀ {n : Nat}, R nbr S g n p → ∃ m, m ≤ n ∧ D nbr S g m p := by
  intro n
  induction n with
  | zero => exact fun h => ⟨0, Nat.le_refl _, h, fun m hm => by omega⟩
  | succ n ih =>
    intro h
    by_cases h' : R nbr S g n p
    · obtain ⟨m, hm, d⟩ := ih h'
      exact ⟨m, by omega, d⟩
    · exact ⟨n + 1, Nat.le_refl _, h, fun m hm z => h' (z.up (by omega))⟩
theorem D.zero : D nbr S g 0 g := ⟨rfl, fun m hm => by omega⟩
theorem D.pred {n : Nat} {p : Int} (d : D nbr S g (n + 1) p) : p ∈ S ∧ ∃ q, D nbr S g n q ∧ p ∈ nbr q := by
  rcases d.1 with h | ⟨h, q, hq, hpq⟩
  · exact absurd h (d.2 n (by omega))
  · exact ⟨h, q, ⟨hq, fun m hm z => d.2 (m + 1) (by omega) (.inr ⟨h, q, z, hpq⟩)⟩, hpq⟩
structure Bfs (nbr : Int → List Int) (S : List Int) (g : Int) (w : List Int) (dd : Int → Nat) (at' : Nat) : Prop where
  nd : w.Nodup
  hd : g ∈ w
  ex : ∀ p ∈ w, D nbr S g (dd p) p
  sub : ∀ p ∈ w, p ∈ g :: S
  mono : ∀ (i j : Nat) (p q : Int), i ≤ j → w[i]? = some p → w[j]? = some q → dd p ≤ dd q
  clo : ∀ (i : Nat) (p : Int), i < at' → w[i]? = some p → ∀ o ∈ nbr p, o ∈ S → o ∈ w
  all : ∀ p, w[at']? = some p → ∀ q, R nbr S g (dd p) q → q ∈ w
  near : ∀ p, w[at']? = some p → ∀ q ∈ w, dd q ≤ dd p + 1
theorem Bfs.zero : Bfs nbr S g [g] (fun _ => 0) 0 := by
  refine ⟨List.nodup_cons.mpr ⟨by simp, List.nodup_nil⟩, List.mem_singleton.mpr rfl, fun p hp => ?_, fun p hp => ?_, fun _ _ _ _ _ _ _ => Nat.le_refl _, fun i p hi => by omega, fun p hp q hq => ?_, fun _ _ _ _ => by omega⟩
  · rw [List.mem_singleton] at hp; subst hp; exact D.zero
  · rw [List.mem_singleton] at hp; subst hp; exact List.mem_cons_self
  · exact List.mem_singleton.mpr hq
theorem Bfs.len {w : List Int} {dd : Int → Nat} {at' : Nat} (B : Bfs nbr S g w dd at') : w.length ≤ S.length + 1 := nodup_len w (g :: S) B.nd B.sub
/-- what is new beside p -/
def new (nbr : Int → List Int) (S w : List Int) (p : Int) : List Int := (nbr p).filter fun o => decide (o ∈ S) && !decide (o ∈ w)
theorem new_mem {w : List Int} {p o : Int} : o ∈ new nbr S w p ↔ o ∈ nbr p ∧ o ∈ S ∧ o ∉ w := by
  unfold new
  rw [List.mem_filter, Bool.and_eq_true, Bool.not_eq_true', decide_eq_true_eq, decide_eq_false_iff_not]
theorem Bfs.step {w : List Int} {dd : Int → Nat} {at' : Nat} (B : Bfs nbr S g w dd at') {p : Int} (hp : w[at']? = some p) (hn : (nbr p).Nodup) :
    Bfs nbr S g (w ++ new nbr S w p) (fun x => if x ∈ w then dd x else dd p + 1) (at' + 1) := by
  have pw : p ∈ w := List.mem_of_getElem? hp
  have old : ∀ x, x ∈ w → (if x ∈ w then dd x else dd p + 1) = dd x := fun x hx => if_pos hx
  have nw : ∀ x, x ∈ new nbr S w p → (if x ∈ w then dd x else dd p + 1) = dd p + 1 := fun x hx => if_neg (new_mem.mp hx).2.2
  have lat : at' < w.length := (List.getElem?_eq_some_iff.mp hp).1
  have mono' : ∀ (i j : Nat) (q r : Int), i ≤ j → (w ++ new nbr S w p)[i]? = some q → (w ++ new nbr S w p)[j]? = some r → (if q ∈ w then dd q else dd p + 1) ≤ (if r ∈ w then dd r else dd p + 1) := by
    intro i j q r hij hq hr
    by_cases hj : j < w.length
    · rw [List.getElem?_append_left hj] at hr
      rw [List.getElem?_append_left (by omega)] at hq
      rw [old q (List.mem_of_getElem? hq), old r (List.mem_of_getElem? hr)]
      exact B.mono i j q r hij hq hr
    · rw [List.getElem?_append_right (by omega)] at hr
      rw [nw r (List.mem_of_getElem? hr)]
      by_cases hi : i < w.length
      · rw [List.getElem?_append_left hi] at hq
        rw [old q (List.mem_of_getElem? hq)]
        exact B.near p hp q (List.mem_of_getElem? hq)
      · rw [List.getElem?_append_right (by omega)] at hq
        rw [nw q (List.mem_of_getElem? hq)]
        exact Nat.le_refl _
  have clo' : ∀ (i : Nat) (q : Int), i < at' + 1 → (w ++ new nbr S w p)[i]? = some q → ∀ o ∈ nbr q, o ∈ S → o ∈ w ++ new nbr S w p := by
    intro i q hi hq o ho hS
    rw [List.getElem?_append_left (by omega)] at hq
    by_cases e : i = at'
    · subst e
      rw [hp] at hq
      cases hq
      by_cases how : o ∈ w
      · exact List.mem_append_left _ how
      · exact List.mem_append_right _ (new_mem.mpr ⟨ho, hS, how⟩)
    · exact List.mem_append_left _ (B.clo i q (by omega) hq o ho hS)
  have pat : (w ++ new nbr S w p)[at']? = some p := by rw [List.getElem?_append_left lat]; exact hp
  have le1 : ∀ q ∈ w ++ new nbr S w p, (if q ∈ w then dd q else dd p + 1) ≤ dd p + 1 := fun q hq => by
    rcases List.mem_append.mp hq with h | h
    · rw [old q h]; exact B.near p hp q h
    · rw [nw q h]; exact Nat.le_refl _
  refine ⟨?_, List.mem_append_left _ B.hd, fun q hq => ?_, fun q hq => ?_, mono', clo', fun p' hp' q hq => ?_, fun p' hp' q hq => ?_⟩
  · rw [List.nodup_append]
    refine ⟨B.nd, hn.filter _, fun x hx y hy e => ?_⟩
    subst e
    exact (new_mem.mp hy).2.2 hx
  · rcases List.mem_append.mp hq with h | h
    · show D nbr S g (if q ∈ w then dd q else dd p + 1) q
      rw [old q h]; exact B.ex q h
    · show D nbr S g (if q ∈ w then dd q else dd p + 1) q
      rw [nw q h]
      obtain ⟨h1, h2, h3⟩ := new_mem.mp h
      exact ⟨.inr ⟨h2, p, (B.ex p pw).1, h1⟩, fun m hm z => h3 (B.all p hp q (z.up (by omega)))⟩
  · rcases List.mem_append.mp hq with h | h
    · exact B.sub q h
    · exact List.mem_cons_of_mem _ (new_mem.mp h).2.1
  · have h1 := mono' at' (at' + 1) p p' (by omega) pat hp'
    have h2 := le1 p' (List.mem_of_getElem? hp')
    rw [old p pw] at h1
    have hq : R nbr S g (if p' ∈ w then dd p' else dd p + 1) q := hq
    generalize hv : (if p' ∈ w then dd p' else dd p + 1) = v at h1 h2 hq
    by_cases e : v = dd p
    · subst e
      exact List.mem_append_left _ (B.all p hp q hq)
    · have e : v = dd p + 1 := by omega
      subst e
      rcases hq with hq | ⟨hS, r, hr, hqr⟩
      · exact List.mem_append_left _ (B.all p hp q hq)
      · have rw' := B.all p hp r hr
        obtain ⟨i, hi⟩ := List.mem_iff_getElem?.mp rw'
        have li : i < w.length := (List.getElem?_eq_some_iff.mp hi).1
        have dr : dd r ≤ dd p := (B.ex r rw').le hr
        have hi' : (w ++ new nbr S w p)[i]? = some r := by rw [List.getElem?_append_left li]; exact hi
        have : i < at' + 1 := by
          by_cases h : i < at' + 1
          · exact h
          · have := mono' (at' + 1) i p' r (by omega) hp' hi'
            rw [hv, old r rw'] at this
            omega
        exact clo' i r this hi' q hqr hS
  · have h1 := mono' at' (at' + 1) p p' (by omega) pat hp'
    rw [old p pw] at h1
    have := le1 q hq
    show (if q ∈ w then dd q else dd p + 1) ≤ (if p' ∈ w then dd p' else dd p + 1) + 1
    omega
theorem Bfs.done {w : List Int} {dd : Int → Nat} {at' : Nat} (B : Bfs nbr S g w dd at') (h : w.length ≤ at') : ∀ n p, R nbr S g n p → p ∈ w := by
  intro n
  induction n with
  | zero => intro p hp; have hp : p = g := hp; subst hp; exact B.hd
  | succ n ih =>
    rintro p (hp | ⟨hS, q, hq, hpq⟩)
    · exact ih p hp
    · obtain ⟨i, hi⟩ := List.mem_iff_getElem?.mp (ih q hq)
      have li : i < w.length := (List.getElem?_eq_some_iff.mp hi).1
      exact B.clo i q (by omega) hi p hpq hS
end Bf
end

section
set_option Elab.async false
set_option linter.all false
set_option maxRecDepth 100000
set_option maxHeartbeats 1000000
namespace Bf
variable {nbr : Int → List Int} {S : List Int} {g : Int}
/-- the shortest, of these the least way to g -/
inductive Way (nbr : Int → List Int) (S : List Int) (g : Int) : Nat → Int → List Int → Prop
  | stop : Way nbr S g 0 g [g]
  | step {n : Nat} {p q : Int} {rest : List Int} : D nbr S g (n + 1) p → q ∈ nbr p → D nbr S g n q → (∀ q', q' ∈ nbr p → D nbr S g n q' → q ≤ q') → Way nbr S g n q rest → Way nbr S g (n + 1) p (p :: rest)
theorem Way.dist {n : Nat} {p : Int} {r : List Int} (w : Way nbr S g n p r) : D nbr S g n p := by
  cases w with
  | stop => exact D.zero
  | step d _ _ _ _ => exact d
theorem Way.length {n : Nat} {p : Int} {r : List Int} (w : Way nbr S g n p r) : r.length = n + 1 := by
  induction w with
  | stop => rfl
  | step _ _ _ _ _ ih => rw [List.length_cons, ih]
theorem Way.uniq {n : Nat} {p : Int} {r r' : List Int} (w : Way nbr S g n p r) (w' : Way nbr S g n p r') : r = r' := by
  induction w generalizing r' with
  | stop => cases w'; rfl
  | step d h1 h2 h3 _ ih =>
    cases w' with
    | step d' h1' h2' h3' w2 =>
      have a := h3 _ h1' h2'
      have b := h3' _ h1 h2
      have e := Int.le_antisymm a b
      subst e
      rw [ih w2]
theorem Way.uniq' {n n' : Nat} {p : Int} {r r' : List Int} (w : Way nbr S g n p r) (w' : Way nbr S g n' p r') : r = r' := by
  have e := w.dist.uniq w'.dist
  subst e
  exact w.uniq w'
theorem D.chain (hg : g ∈ S) : ∀ {n : Nat} {p : Int}, D nbr S g n p → ∃ l : List Int, l.length = n + 1 ∧ l.Nodup ∧ (∀ x ∈ l, x ∈ S) ∧ ∀ x ∈ l, ∃ m, m ≤ n ∧ D nbr S g m x := by
  intro n
  induction n with
  | zero =>
    intro p d
    have e : p = g := d.1
    subst e
    exact ⟨[p], rfl, List.nodup_cons.mpr ⟨by simp, List.nodup_nil⟩, fun x hx => by rw [List.mem_singleton] at hx; subst hx; exact hg, fun x hx => by rw [List.mem_singleton] at hx; subst hx; exact ⟨0, Nat.le_refl _, d⟩⟩
  | succ n ih =>
    intro p d
    obtain ⟨hp, q, dq, _⟩ := d.pred
    obtain ⟨l, h1, h2, h3, h4⟩ := ih dq
    refine ⟨p :: l, by rw [List.length_cons, h1], List.nodup_cons.mpr ⟨fun z => ?_, h2⟩, fun x hx => ?_, fun x hx => ?_⟩
    · obtain ⟨m, hm, dm⟩ := h4 p z
      have := d.uniq dm
      omega
    · rcases List.mem_cons.mp hx with rfl | hx
      · exact hp
      · exact h3 x hx
    · rcases List.mem_cons.mp hx with rfl | hx
      · exact ⟨n + 1, Nat.le_refl _, d⟩
      · obtain ⟨m, hm, dm⟩ := h4 x hx
        exact ⟨m, by omega, dm⟩
theorem D.few (hg : g ∈ S) {n : Nat} {p : Int} (d : D nbr S g n p) : n < S.length := by
  obtain ⟨l, h1, h2, h3, _⟩ := d.chain hg
  have := nodup_len l S h2 h3
  omega
/-- the law's own table behind turn t -/
structure Far (nbr : Int → List Int) (S : List Int) (g : Int) (t : Nat) (val : Int → Option Nat) : Prop where
  yes : ∀ p d, D nbr S g d p → d ≤ t → val p = some d
  no : ∀ p d, val p = some d → D nbr S g d p ∧ d ≤ t
/-- within turn t + 1, some places looked at -/
structure FarIn (nbr : Int → List Int) (S : List Int) (g : Int) (t : Nat) (seen : List Int) (val : Int → Option Nat) : Prop where
  yes : ∀ p d, D nbr S g d p → d ≤ t → val p = some d
  now : ∀ p, p ∈ seen → D nbr S g (t + 1) p → val p = some (t + 1)
  no : ∀ p d, val p = some d → D nbr S g d p ∧ (d ≤ t ∨ (d = t + 1 ∧ p ∈ seen))
theorem Far.start {t : Nat} {val : Int → Option Nat} (F : Far nbr S g t val) : FarIn nbr S g t [] val := ⟨F.yes, fun p h => by simp at h, fun p d h => ⟨(F.no p d h).1, .inl (F.no p d h).2⟩⟩
theorem FarIn.done {t : Nat} {val : Int → Option Nat} (F : FarIn nbr S g t S val) : Far nbr S g (t + 1) val := by
  refine ⟨fun p d hd hle => ?_, fun p d h => ?_⟩
  · by_cases e : d ≤ t
    · exact F.yes p d hd e
    · have e : d = t + 1 := by omega
      subst e
      exact F.now p hd.pred.1 hd
  · obtain ⟨h1, h2⟩ := F.no p d h
    refine ⟨h1, ?_⟩
    rcases h2 with h2 | h2 <;> omega
theorem Far.zero : Far nbr S g 0 (fun p => if p = g then some 0 else none) := by
  refine ⟨fun p d hd hle => ?_, fun p d h => ?_⟩
  · have e : d = 0 := by omega
    subst e
    exact if_pos hd.1
  · by_cases e : p = g
    · rw [if_pos e] at h; cases h; subst e; exact ⟨D.zero, Nat.le_refl _⟩
    · rw [if_neg e] at h; cases h
theorem FarIn.skip {t : Nat} {seen : List Int} {val : Int → Option Nat} (F : FarIn nbr S g t seen val) {p : Int} (h : D nbr S g (t + 1) p → val p = some (t + 1)) : FarIn nbr S g t (seen ++ [p]) val := by
  refine ⟨F.yes, fun q hq d => ?_, fun q d hv => ?_⟩
  · rcases List.mem_append.mp hq with hq | hq
    · exact F.now q hq d
    · rw [List.mem_singleton] at hq; subst hq; exact h d
  · obtain ⟨h1, h2⟩ := F.no q d hv
    exact ⟨h1, h2.imp id fun ⟨a, b⟩ => ⟨a, List.mem_append_left _ b⟩⟩
theorem FarIn.put {t : Nat} {seen : List Int} {val : Int → Option Nat} (F : FarIn nbr S g t seen val) {p : Int} (hd : D nbr S g (t + 1) p) : FarIn nbr S g t (seen ++ [p]) (fun q => if q = p then some (t + 1) else val q) := by
  refine ⟨fun q d hq hle => ?_, fun q hq d => ?_, fun q d hv => ?_⟩
  · have ne : q ≠ p := fun e => by subst e; have := hd.uniq hq; omega
    show (if q = p then _ else _) = _
    rw [if_neg ne]; exact F.yes q d hq hle
  · show (if q = p then _ else _) = _
    by_cases e : q = p
    · rw [if_pos e]
    · rw [if_neg e]
      rcases List.mem_append.mp hq with hq | hq
      · exact F.now q hq d
      · exact absurd (List.mem_singleton.mp hq) e
  · have hv : (if q = p then some (t + 1) else val q) = some d := hv
    by_cases e : q = p
    · rw [if_pos e] at hv; cases hv; subst e
      exact ⟨hd, .inr ⟨rfl, List.mem_append_right _ (List.mem_singleton.mpr rfl)⟩⟩
    · rw [if_neg e] at hv
      obtain ⟨h1, h2⟩ := F.no q d hv
      exact ⟨h1, h2.imp id fun ⟨a, b⟩ => ⟨a, List.mem_append_left _ b⟩⟩
/-- the look at one place -/
theorem FarIn.look {t : Nat} {seen : List Int} {val : Int → Option Nat} (F : FarIn nbr S g t seen val) (sym : ∀ p q, p ∈ nbr q → q ∈ nbr p) {p : Int} (hS : p ∈ S) (hn : val p = none) {tied : List Int} (ht : ∀ o, o ∈ tied ↔ o ∈ nbr p) :
    (∃ o ∈ tied, val o = some t) ↔ D nbr S g (t + 1) p := by
  constructor
  · rintro ⟨o, ho, hv⟩
    refine ⟨.inr ⟨hS, o, (F.no o t hv).1.1, sym _ _ ((ht o).mp ho)⟩, fun m hm z => ?_⟩
    obtain ⟨k, hk, dk⟩ := D.of z
    rw [F.yes p k dk (by omega)] at hn
    cases hn
  · intro d
    obtain ⟨_, q, dq, hpq⟩ := d.pred
    exact ⟨q, (ht q).mpr (sym _ _ hpq), F.yes q t dq (Nat.le_refl _)⟩
end Bf
end

section
set_option Elab.async false
set_option linter.all false
set_option maxRecDepth 100000
set_option maxHeartbeats 4000000
namespace K4
open PySem L2 PyProof.Rows
def top (i : Nat) : Stmt := PySem.Challenge.pw_drawnweb_k04_shortest_ways.main.body.getD i (.Pass ⟨0, 0, 0, 0⟩)
structure Txt (mg : Str → Option Value) : Prop where
  z_tuple : mg "tuple" = none
  z_sorted : mg "sorted" = none
  z_len : mg "len" = none
  z_min : mg "min" = none
  z_abs : mg "abs" = none
  z_int : mg "int" = none
  z_range : mg "range" = none
  z_isinstance : mg "isinstance" = none
  z_bool : mg "bool" = none
  z_all : mg "all" = none
  z_zip : mg "zip" = none
  z_max : mg "max" = none
  z_any : mg "any" = none
abbrev s_nears : Stmt := top 1
theorem sc_nears : FnScope ["web", "places", "ties", "beside", "a", "b"] ["web"] (defScope s_nears) := ⟨rfl, rfl, rfl, by decide +kernel, rfl, by decide +kernel, by decide +kernel⟩
abbrev s_steps_from : Stmt := top 2
theorem sc_steps_from : FnScope ["beside", "some", "start", "steps", "waiting", "at", "place", "other"] ["beside", "some", "start"] (defScope s_steps_from) := ⟨rfl, rfl, rfl, by decide +kernel, rfl, by decide +kernel, by decide +kernel⟩
abbrev s_way : Stmt := top 3
theorem sc_way : FnScope ["web", "some", "one", "other", "beside", "steps", "told", "left"] ["web", "some", "one", "other"] (defScope s_way) := ⟨rfl, rfl, rfl, by decide +kernel, rfl, by decide +kernel, by decide +kernel⟩
abbrev s_law_cell : Stmt := top 5
theorem sc_law_cell : FnScope ["_law_script", "_law_k"] ["_law_script", "_law_k"] (defScope s_law_cell) := ⟨rfl, rfl, rfl, by decide +kernel, rfl, by decide +kernel, by decide +kernel⟩
abbrev s_law_left : Stmt := top 6
theorem sc_law_left : FnScope ["_law_script", "_law_k", "_law_cell_here", "_law_great"] ["_law_script", "_law_k"] (defScope s_law_left) := ⟨rfl, rfl, rfl, by decide +kernel, rfl, by decide +kernel, by decide +kernel⟩
abbrev s_law_pick : Stmt := top 7
theorem sc_law_pick : FnScope ["_law_left_here", "_law_many", "_law_digit"] ["_law_left_here", "_law_many"] (defScope s_law_pick) := ⟨rfl, rfl, rfl, by decide +kernel, rfl, by decide +kernel, by decide +kernel⟩
abbrev s_law_web : Stmt := top 8
theorem sc_law_web : FnScope ["_law_left_here", "_law_most", "_law_choice", "_law_often", "_law_many", "_law_first", "_law_step", "_law_places", "_law_ties", "_law_b", "_law_a"] ["_law_left_here", "_law_most"] (defScope s_law_web) := ⟨rfl, rfl, rfl, by decide +kernel, rfl, by decide +kernel, by decide +kernel⟩
abbrev s_law_some : Stmt := top 9
theorem sc_law_some : FnScope ["_law_left_here", "_law_places", "_law_choice", "_law_at"] ["_law_left_here", "_law_places"] (defScope s_law_some) := ⟨rfl, rfl, rfl, by decide +kernel, rfl, by decide +kernel, by decide +kernel⟩
abbrev s_law_same : Stmt := top 10
theorem sc_law_same : FnScope ["_law_found", "_law_due"] ["_law_found", "_law_due"] (defScope s_law_same) := ⟨rfl, rfl, rfl, by decide +kernel, rfl, by decide +kernel, by decide +kernel⟩
abbrev s_law_lattice : Stmt := top 11
theorem sc_law_lattice : FnScope ["_law_left_here", "_law_wide", "_law_high", "_law_first", "_law_step", "_law_name", "_law_ties", "_law_k"] ["_law_left_here"] (defScope s_law_lattice) := ⟨rfl, rfl, rfl, by decide +kernel, rfl, by decide +kernel, by decide +kernel⟩
abbrev s_law_far : Stmt := top 12
theorem sc_law_far : FnScope ["_law_web_here", "_law_some_here", "_law_goal", "_law_far_here", "_law_turn", "_law_place", "_law_tied"] ["_law_web_here", "_law_some_here", "_law_goal"] (defScope s_law_far) := ⟨rfl, rfl, rfl, by decide +kernel, rfl, by decide +kernel, by decide +kernel⟩
abbrev s_law_least : Stmt := top 13
theorem sc_law_least : FnScope ["_law_web_here", "_law_some_here", "_law_one", "_law_goal", "_law_far_here", "_law_found", "_law_here", "_law_tied"] ["_law_web_here", "_law_some_here", "_law_one", "_law_goal"] (defScope s_law_least) := ⟨rfl, rfl, rfl, by decide +kernel, rfl, by decide +kernel, by decide +kernel⟩
abbrev s_law : Stmt := top 14
theorem sc_law : FnScope ["_law_script", "_law_k", "_law_left_here", "_law_web_here", "_law_some_here", "_law_turn", "_law_one", "_law_goal", "_law_due", "_law_again", "_law_found"] ["_law_script"] (defScope s_law) := ⟨rfl, rfl, rfl, by decide +kernel, rfl, by decide +kernel, by decide +kernel⟩
section
variable {P : Program} {w : World} {K : PySem.W.Frag} {mg : Str → Option Value} {base : Heap} {f : Addr} {fd : FuncData}
theorem b01 (b : Bool) : (0 : Int) ≤ (if b = true then 1 else 0) ∧ (if b = true then 1 else 0) ≤ (1 : Int) := by cases b <;> decide
def spPick : Sp := fun vs H Q _ => ∃ l m, vs = [.ref l, .int m] ∧ Pot H l ∧ 0 < m ∧ m < 1073741824 ∧ ∀ r g q c : Int, 0 ≤ r → r < m → 0 ≤ g → Q (.int r) (upd H l (.lst [.int g, .int q, .int c]))
theorem ok_pick (F : Fun K "_law_pick" "_law_pick" s_law_pick f fd) : FnOk P w K mg base CX0 1 f fd ["_law_left_here", "_law_many"] spPick := by
  refine F.ok sc_law_pick (fun vs H Q E h => ?_) (fun cdv A outer s H vs Q E hr h => ?_)
  · obtain ⟨l, m, rfl, _⟩ := h; rfl
  obtain ⟨l, m, rfl, ⟨g, q, c, hl, hg⟩, h0, h1, k⟩ := h
  refine ⟨_, (pss_cons (ps_if (pt_cmpR op_gt (pe_ix ix_list (pv 0) pe_int (fun _ _ => rfl)) pe_int (nomark _)) (pss_cons (ps_set (i := 2) sc_law_pick.nd rfl (Or.inl rfl) (pe_op op_mod (pe_ix ix_list (pv 0) pe_int (fun _ _ => rfl)) (pv 1)))
    (pss_cons (ps_asg (pe_op op_fdiv (pe_ix ix_list (pv 0) pe_int (fun _ _ => rfl)) (pv 1)) (pg_sub (pv 0) pe_int set_list))
    (pss_one (ps_ret (pv 2))))) pss_nil)
    (pss_cons (ps_asg (pe_op op_add (pe_ix ix_list (pv 0) pe_int (fun _ _ => rfl)) pe_int) (pg_sub (pv 0) pe_int set_list))
    (pss_cons (ps_asg (pe_op op_mod (pe_op op_add (pe_op op_add (pe_op op_mul (pe_ix ix_list (pv 0) pe_int (fun _ _ => rfl)) pe_int) pe_int) (pe_op op_mul pe_int (pe_ix ix_list (pv 0) pe_int (fun _ _ => rfl)))) pe_int) (pg_sub (pv 0) pe_int set_list))
    (pss_one (ps_ret (pe_op op_mod (pe_op op_fdiv (pe_op op_mod (pe_op op_mul (pe_ix ix_list (pv 0) pe_int (fun _ _ => rfl)) (pe_op op_add (pe_op op_mod (pe_ix ix_list (pv 0) pe_int (fun _ _ => rfl)) pe_int) pe_int)) pe_int) pe_int) (pv 1))))))), ?_⟩
  refine ⟨_, rfl, l, _, 0, _, rfl, rfl, SqL.of hl, rfl, _, _, rfl, rfl, _, rfl, ?_⟩
  refine ite2 (fun _ => ?_) (fun _ => ?_)
  · refine ⟨_, rfl, l, _, 0, _, rfl, rfl, SqL.of hl, rfl, _, rfl, _, _, rfl, rfl, h0, ?_⟩
    refine ⟨_, rfl, l, _, 0, _, rfl, rfl, SqL.of hl, rfl, _, rfl, _, _, rfl, rfl, ⟨h0, h1⟩, _, rfl, l, _, 0, 0, rfl, rfl, hl, rfl, ?_⟩
    refine ⟨_, rfl, ?_⟩
    exact k _ _ _ _ (Int.emod_nonneg _ (by omega)) (Int.emod_lt_of_pos _ h0) (Int.ediv_nonneg hg (by omega))
  · refine ⟨_, rfl, l, _, 2, _, rfl, rfl, SqL.of hl, rfl, _, _, rfl, rfl, _, rfl, l, _, 2, 2, rfl, rfl, hl, rfl, ?_⟩
    refine ⟨_, rfl, l, _, 1, _, rfl, rfl, SqL.of upd_same, rfl, _, _, rfl, rfl, .inr ⟨by decide, by decide⟩, _, _, rfl, rfl, _, rfl, l, _, 2, _, rfl, rfl, SqL.of upd_same, rfl, _, _, rfl, rfl, .inl ⟨by decide, by decide⟩, _, _, rfl, rfl, _, _, rfl, rfl, (by show (0 : Int) < 2147483647; decide), _, rfl, l, _, 1, 1, rfl, rfl, upd_same, rfl, ?_⟩
    refine ⟨_, rfl, l, _, 1, _, rfl, rfl, SqL.of upd_same, rfl, _, rfl, l, _, 1, _, rfl, rfl, SqL.of upd_same, rfl, _, _, rfl, rfl, (by show (0 : Int) < 40009; decide), _, _, rfl, rfl, _, _, rfl, rfl, .inr ⟨by omega, by omega⟩, _, _, rfl, rfl, (by show (0 : Int) < 2147483629; decide), _, _, rfl, rfl, ⟨by decide, by decide⟩, _, rfl, _, _, rfl, rfl, h0, ?_⟩
    rw [upd_upd]
    exact k _ _ _ _ (Int.emod_nonneg _ (by omega)) (Int.emod_lt_of_pos _ h0) hg
def spCell (K : PySem.W.Frag) : Sp := fun vs H Q _ => ∃ (a : Addr) (ns : List Int) (k : Int), vs = [.ref a, .int k] ∧ SqL K H a (ns.map V.int) ∧ ∀ r : Int, Q (.int r) H
theorem ok_cell (F : Fun K "_law_cell" "_law_cell" s_law_cell f fd) (T : Txt mg) : FnOk P w K mg base CX0 1 f fd ["_law_script", "_law_k"] (spCell K) := by
  refine F.ok sc_law_cell (fun vs H Q E h => ?_) (fun cdv A outer s H vs Q E hr h => ?_)
  · obtain ⟨a, ns, k, rfl, _⟩ := h; rfl
  obtain ⟨a, ns, k, rfl, hS, q⟩ := h
  refine ⟨_, (pss_cons (ps_if (pt_cmpR op_eq (pe_callB call_len_seq rfl T.z_len (by decide +kernel) (pa_cons (pv 0) pa_nil)) pe_int (nomark _)) (pss_one (ps_ret pe_int)) pss_nil)
    (pss_one (ps_ret (pe_ix ix_list (pv 0) (pe_op op_mod (pv 1) (pe_callB call_len_seq rfl T.z_len (by decide +kernel) (pa_cons (pv 0) pa_nil))) (fun _ _ => rfl))))), ?_⟩
  refine ⟨_, rfl, a, _, rfl, .inl hS, rfl, _, rfl, ?_⟩
  refine ite2 (fun _ => q 0) (fun c => ?_)
  have hl : (ns.map V.int).length = ns.length := List.length_map _
  have hn : ns.length ≠ 0 := by
    intro z
    apply c
    exact decide_eq_true (by rw [hl, z]; rfl)
  have hpos : (0 : Int) < (((ns.map V.int).length : Nat) : Int) := by rw [hl]; omega
  have h1 := Int.emod_nonneg k (show (((ns.map V.int).length : Nat) : Int) ≠ 0 by omega)
  have h2 := Int.emod_lt_of_pos k hpos
  obtain ⟨n, hn'⟩ := Int.eq_ofNat_of_zero_le h1
  have hlt : n < ns.length := by rw [hn', hl] at h2; omega
  have hat : atI (ns.map V.int) (k % (((ns.map V.int).length : Nat) : Int)) = some (.int ns[n]) := by
    rw [hn']
    exact atI_nat (by rw [List.getElem?_map, List.getElem?_eq_getElem hlt]; rfl)
  exact ⟨_, rfl, _, rfl, _, rfl, a, _, rfl, .inl hS, _, _, rfl, rfl, hpos, a, _, _, _, rfl, rfl, hS, hat, q _⟩
def spLeft (K : PySem.W.Frag) : Sp := fun vs H Q _ => ∃ (a : Addr) (ns : List Int) (k : Int), vs = [.ref a, .int k] ∧ SqL K H a (ns.map V.int) ∧ 0 ≤ k ∧ k ≤ 100 ∧ ∀ l H', Same H H' → Pot H' l → H l = none → Q (.ref l) H'
theorem ok_left (F : Fun K "_law_left" "_law_left" s_law_left f fd) (T : Txt mg) (C_law_cell : Call1 P w K mg base "_law_cell" ["_law_script", "_law_k"] 1 (spCell K)) : FnOk P w K mg base CX0 2 f fd ["_law_script", "_law_k"] (spLeft K) := by
  refine F.ok sc_law_left (fun vs H Q E h => ?_) (fun cdv A outer s H vs Q E hr h => ?_)
  · obtain ⟨a, ns, k, rfl, _⟩ := h; rfl
  obtain ⟨a, ns, k, rfl, hS, k0, k1, q⟩ := h
  refine ⟨_, (pss_cons (ps_set (i := 2) sc_law_left.nd rfl (Or.inl rfl) (pe_fn C_law_cell hr rfl (pa_cons (pv 0) (pa_cons (pv 1) pa_nil))))
    (pss_cons (ps_set (i := 3) sc_law_left.nd rfl (Or.inl rfl) (pe_op op_mul (pe_op op_mod (pe_callB call_abs rfl T.z_abs (by decide +kernel) (pa_cons (pv 2) pa_nil)) (pe_op op_powB (pe_op op_powB pe_int pe_int) pe_int)) (pe_callTy call_int1 rfl T.z_int (by decide +kernel) (pa_cons (pe_cmpR op_ge (pe_callB call_abs rfl T.z_abs (by decide +kernel) (pa_cons (pv 2) pa_nil)) (pe_op op_powB pe_int pe_int) (nomark _)) pa_nil))))
    (pss_one (ps_ret (pe_lst (pa_cons (pv 3) (pa_cons (pe_op op_mod (pe_op op_mul (pe_op op_add (pe_op op_add (pe_op op_mod (pv 2) pe_int) (pe_op op_mul (pe_op op_mul pe_int (pv 1)) (pv 1))) pe_int) pe_int) pe_int) (pa_cons pe_int pa_nil)))))))), ?_⟩
  refine ⟨_, rfl, _, rfl, a, ns, k, rfl, hS, fun r => ?_⟩
  refine ⟨_, rfl, _, rfl, _, _, rfl, rfl, ⟨by decide, by decide +kernel⟩, _, _, rfl, rfl, ⟨by decide, by decide +kernel⟩, _, _, rfl, rfl, (by show (0 : Int) < (10 ^ Int.toNat 50) ^ Int.toNat 8; decide +kernel), _, rfl, _, rfl, _, _, rfl, rfl, ⟨by decide, by decide +kernel⟩, _, _, rfl, rfl, .inr ⟨_, rfl, _, _, rfl, rfl, .inr ?_, ?_⟩⟩
  · exact ⟨Int.lt_of_lt_of_le (by decide) (b01 _).1, Int.lt_of_le_of_lt (b01 _).2 (by decide)⟩
  refine ⟨_, rfl, _, rfl, _, _, rfl, rfl, (by show (0 : Int) < 2147483629; decide), _, rfl, _, _, rfl, rfl, .inl ⟨by decide, by decide⟩, _, rfl, _, _, rfl, rfl, .inr ⟨by omega, by omega⟩, _, _, rfl, rfl, _, _, rfl, rfl, _, _, rfl, rfl, .inr ⟨by decide, by decide⟩, _, _, rfl, rfl, (by show (0 : Int) < 2147483647; decide), (by show 3 ≤ sizeLine; decide), fun l hl => ?_⟩
  refine q l _ (same_new hl _) ⟨_, _, _, upd_same, ?_⟩ hl
  exact Int.mul_nonneg (Int.emod_nonneg _ (by decide +kernel)) (b01 _).1
end
end K4
end

section
set_option Elab.async false
set_option linter.all false
set_option maxRecDepth 100000
set_option maxHeartbeats 4000000
namespace K4
open PySem L2 PyProof.Rows
theorem ite_t {b : Bool} {A B : Prop} (h : b = true) (x : A) : if b = true then A else B := by rw [if_pos h]; exact x
theorem ite_f {b : Bool} {A B : Prop} (h : b = false) (x : B) : if b = true then A else B := by rw [if_neg (by rw [h]; exact Bool.false_ne_true)]; exact x
def itN : Nat → PyData → Prop
  | 0, _ => False
  | n + 1, d => (∃ i, d = .int i) ∨ ∃ ds : List PyData, d = .tuple ds ∧ ds.length ≤ 1000 ∧ ∀ e ∈ ds, itN n e
section
variable {P : Program} {w : World} {K : PySem.W.Frag} {mg : Str → Option Value} {base : Heap} {f : Addr} {fd : FuncData}
def spSame (K : PySem.W.Frag) (n : Nat) : Sp := fun vs H Q _ => ∃ (x y : V) (d : PyData), vs = [x, y] ∧ Rp K H x d ∧ Rp K H y d ∧ itN n d ∧ ∀ H', Same H H' → Q (.bl true) H'
theorem all_rep (n : Nat) : (List.replicate n true).all id = true := by
  rw [List.all_eq_true]
  intro x hx
  rw [List.mem_replicate] at hx
  rw [hx.2]; rfl
theorem ok_same {n : Nat} (F : Fun K "_law_same" "_law_same" s_law_same f fd) (T : Txt mg) (C_law_same : Call1 P w K mg base "_law_same" ["_law_found", "_law_due"] n (spSame K n)) : FnOk P w K mg base CX0 (n + 1) f fd ["_law_found", "_law_due"] (spSame K (n + 1)) := by
  refine F.ok sc_law_same (fun vs H Q E h => ?_) (fun cdv A outer s H vs Q E hr h => ?_)
  · obtain ⟨x, y, d, rfl, _⟩ := h; rfl
  obtain ⟨x, y, d, rfl, rx, ry, hit, q⟩ := h
  refine ⟨_, (pss_cons (ps_if (pt_val (pe_callB call_isinst rfl T.z_isinstance (by decide +kernel) (pa_cons (pv 1) (pa_cons (pe_bltn (v := .ty "tuple") rfl T.z_tuple (by decide +kernel) rfl) pa_nil)))) (pss_cons (ps_if (PW.pt (pw_or (pt_not (pt_val (pe_callB call_isinst rfl T.z_isinstance (by decide +kernel) (pa_cons (pv 0) (pa_cons (pe_bltn (v := .ty "tuple") rfl T.z_tuple (by decide +kernel) rfl) pa_nil))))) (pw_or1 (pt_cmpR op_ne (pe_callB call_len_seq rfl T.z_len (by decide +kernel) (pa_cons (pv 0) pa_nil)) (pe_callB call_len_seq rfl T.z_len (by decide +kernel) (pa_cons (pv 1) pa_nil)) (nomark _))))) (pss_one (ps_ret pe_bl)) pss_nil)
    (pss_one (ps_ret (pe_callB (call_all_bools rfl) rfl T.z_all (by decide +kernel) (pa_cons (pe_lc rfl (CompSc.of (sc0 := defScope s_law_same) (N0 := ["_law_found", "_law_due"]) (N := ["_law_one", "_law_other"]) (fr := [none, none]) rfl rfl (by decide +kernel)) (pi_zip rfl T.z_zip (pa_cons (pv 0) (pa_cons (pv 1) pa_nil))) (fun _ => ⟨(pg_tup rfl (pgs_cons (pg_name (i := 0) (show (["_law_one", "_law_other"] : List Str).Nodup by decide +kernel) rfl (Or.inl rfl)) (pgs_cons (pg_name (i := 1) (show (["_law_one", "_law_other"] : List Str).Nodup by decide +kernel) rfl (Or.inl rfl)) pgs_nil))), pf_nil, (pe_fn C_law_same hr rfl (pa_cons (pv 0) (pa_cons (pv 1) pa_nil)))⟩)) pa_nil))))) pss_nil)
    (pss_one (ps_ret (pe_and (pe_callB call_isinst rfl T.z_isinstance (by decide +kernel) (pa_cons (pv 0) (pa_cons (pe_bltn (v := .ty "int") rfl T.z_int (by decide +kernel) rfl) pa_nil))) (pe_and (pe_not (pe_callB call_isinst rfl T.z_isinstance (by decide +kernel) (pa_cons (pv 0) (pa_cons (pe_bltn (v := .ty "bool") rfl T.z_bool (by decide +kernel) rfl) pa_nil)))) (pe_one (pe_cmpR op_eq (pv 0) (pv 1) (nomark _)))))))), ?_⟩
  rcases hit with ⟨i, rfl⟩ | ⟨ds, rfl, hlen, hds⟩
  · cases rx
    cases ry
    refine ⟨_, rfl, _, "int", "tuple", rfl, .int i, by decide, by decide, _, rfl, ite_f (by decide) ?_⟩
    refine ⟨_, rfl, _, "int", "int", rfl, .int i, by decide, by decide, _, rfl, ite_t (by decide) ?_⟩
    refine ⟨_, rfl, _, "int", "bool", rfl, .int i, by decide, by decide, _, rfl, _, rfl, ite_t (by decide) ?_⟩
    refine ⟨_, rfl, _, rfl, rfl, ?_⟩
    rw [decide_eq_true rfl]
    exact q H (Same.refl H)
  · cases rx with
    | @tup a xs _ qa ra =>
      cases ry with
      | @tup b ys _ qb rb =>
        have la := ra.length
        have lb := rb.length
        refine ⟨_, rfl, _, "tuple", "tuple", rfl, .tup qb, by decide, by decide, _, rfl, ite_t (by decide) ?_⟩
        refine ⟨_, rfl, _, "tuple", "tuple", rfl, .tup qa, by decide, by decide, _, rfl, ite_f (by decide) ?_⟩
        refine ⟨_, rfl, a, _, rfl, .inr qa, _, rfl, b, _, rfl, .inr qb, rfl, _, rfl, iteNS (by rw [la, lb]) ?_⟩
        refine ⟨_, rfl, _, rfl, a, b, rfl, ⟨_, qa⟩, ⟨_, qb⟩, fun D hD z => ?_⟩
        refine loop_zip (xs := xs) (ys := ys) (fun i τ H' => Same H H' ∧ H' D = some (.lst (bls (List.replicate i true))) ∧ ∃ v1 v2, τ = [v1, v2]) ⟨same_new hD _, upd_same, _, _, rfl⟩ (by omega) (fun i τ H' _ ⟨s', _⟩ => ⟨s'.tups.sq qa, s'.tups.sq qb⟩) ?_ ?_
        · rintro i x y p τ H1 hx hy ⟨s1, hD1, v1, v2, rfl⟩ hp
          obtain ⟨d, hd, rx⟩ := ra.get hx
          obtain ⟨d', hd', ry⟩ := rb.get hy
          rw [hd] at hd'
          cases hd'
          have s2 : Same H (upd H1 p (.tup [x, y])) := s1.trans (same_new hp _)
          refine ⟨p, _, rfl, SqT.of upd_same, rfl, _, _, rfl, _, _, rfl, rfl, ?_⟩
          refine ⟨_, rfl, _, rfl, x, y, d, rfl, rx.mono s2.tups, ry.mono s2.tups, hds d (List.mem_of_getElem? hd), fun H3 s3 => ?_⟩
          have hD3 : H3 D = some (.lst (bls (List.replicate i true))) := s3 _ _ (by rw [upd_ne (ne_of_none hD1 hp)]; exact hD1)
          have hi : i < xs.length := (List.getElem?_eq_some_iff.mp hx).1
          refine ⟨_, hD3, ?_, fun c o e => ?_, ?_, _, _, rfl⟩
          · unfold bls
            rw [List.length_map, List.length_replicate]
            exact small1000 (by omega)
          · rw [upd_ne (ne_of_none e hD)]
            exact s3 _ _ (s2 _ _ e)
          · rw [upd_same]
            unfold bls
            rw [List.replicate_succ', List.map_append]
            rfl
        · rintro τ H1 ⟨s1, hD1, _⟩
          refine ⟨D, _, rfl, SqL.of hD1, ?_⟩
          rw [all_rep]
          exact q H1 s1
theorem same_zero : FnOk P w K mg base CX0 0 f fd ["_law_found", "_law_due"] (spSame K 0) := by
  have no : ∀ vs H Q E, ¬ spSame K 0 vs H Q E := fun vs H Q E ⟨_, _, _, _, _, _, h, _⟩ => h
  exact ⟨fun vs H Q E h => absurd h (no vs H Q E), fun A outer s H args us vs Q E _ _ _ _ h => absurd h (no vs H Q E)⟩
theorem same_all (F : Fun K "_law_same" "_law_same" s_law_same f fd) (T : Txt mg) (b : Binds K fd ["_law_found", "_law_due"] []) (m : mg "_law_same" = some (.ref f)) : ∀ n : Nat, FnOk P w K mg base CX0 n f fd ["_law_found", "_law_due"] (spSame K n)
  | 0 => same_zero
  | n + 1 => ok_same F T ⟨f, fd, same_all F T b m n, b, F.kp, m⟩
end
end K4
end

section
set_option Elab.async false
set_option linter.all false
set_option maxRecDepth 100000
set_option maxHeartbeats 4000000
namespace K4
open PySem L2 PyProof.Rows
/-! ### the neighbours, as numbers -/
structure WebOk (ps : List Int) (ts : List (Int × Int)) : Prop where
  rise : ps.Pairwise (· < ·)
  few : ps.length ≤ 24
  nd : ts.Nodup
  lt : ∀ t ∈ ts, t.1 < t.2
  ends : ∀ t ∈ ts, t.1 ∈ ps ∧ t.2 ∈ ps
  len : ts.length ≤ 60
  rng : ∀ p ∈ ps, 0 ≤ p ∧ p < 100
  srt : (ts.map fun t => [t.1, t.2]).Pairwise fun a b => HT.lexLt b a = false
def nb (ps : List Int) (ts : List (Int × Int)) (p : Int) : List Int := ps.filter fun o => decide ((p, o) ∈ ts) || decide ((o, p) ∈ ts)
def oth (p : Int) (t : Int × Int) : Option Int := if t.1 = p then some t.2 else if t.2 = p then some t.1 else none
def adj (ts : List (Int × Int)) (p : Int) : List Int := ts.filterMap (oth p)
theorem rise_eq : ∀ (a b : List Int), a.Pairwise (· < ·) → b.Pairwise (· < ·) → (∀ x, x ∈ a ↔ x ∈ b) → a = b
  | [], [], _, _, _ => rfl
  | [], y :: b, _, _, h => absurd ((h y).mpr List.mem_cons_self) (by simp)
  | x :: a, [], _, _, h => absurd ((h x).mp List.mem_cons_self) (by simp)
  | x :: a, y :: b, ha, hb, h => by
    rw [List.pairwise_cons] at ha hb
    have e : x = y := by
      rcases List.mem_cons.mp ((h x).mp List.mem_cons_self) with z | z
      · exact z
      · rcases List.mem_cons.mp ((h y).mpr List.mem_cons_self) with z' | z'
        · exact z'.symm
        · have := hb.1 _ z
          have := ha.1 _ z'
          omega
    subst e
    rw [rise_eq a b ha.2 hb.2 fun z => ⟨fun hz => ?_, fun hz => ?_⟩]
    · rcases List.mem_cons.mp ((h z).mp (List.mem_cons_of_mem _ hz)) with e | e
      · have := ha.1 _ hz; omega
      · exact e
    · rcases List.mem_cons.mp ((h z).mpr (List.mem_cons_of_mem _ hz)) with e | e
      · have := hb.1 _ hz; omega
      · exact e
theorem rise_nodup {a : List Int} (h : a.Pairwise (· < ·)) : a.Nodup := h.imp fun h => by omega
theorem rise_of {a : List Int} (h : a.Pairwise (· ≤ ·)) (n : a.Nodup) : a.Pairwise (· < ·) := by
  have := List.Pairwise.and h n
  exact this.imp fun ⟨h1, h2⟩ => by omega
theorem oth_some {p o : Int} {t : Int × Int} (h : oth p t = some o) : t = (p, o) ∨ t = (o, p) := by
  obtain ⟨a, b⟩ := t
  unfold oth at h
  dsimp only at h
  by_cases h1 : a = p
  · rw [if_pos h1] at h
    cases h
    exact .inl (by rw [h1])
  · rw [if_neg h1] at h
    by_cases h2 : b = p
    · rw [if_pos h2] at h
      cases h
      exact .inr (by rw [h2])
    · rw [if_neg h2] at h; cases h
theorem adj_mem {ps : List Int} {ts : List (Int × Int)} (W : WebOk ps ts) (p o : Int) : o ∈ adj ts p ↔ ((p, o) ∈ ts ∨ (o, p) ∈ ts) := by
  unfold adj
  rw [List.mem_filterMap]
  constructor
  · rintro ⟨t, ht, e⟩
    rcases oth_some e with rfl | rfl
    · exact .inl ht
    · exact .inr ht
  · rintro (h | h)
    · exact ⟨_, h, by unfold oth; rw [if_pos rfl]⟩
    · refine ⟨_, h, ?_⟩
      have := W.lt _ h
      unfold oth
      dsimp only at this ⊢
      rw [if_neg (by omega), if_pos rfl]
theorem adj_nodup {ps : List Int} {ts : List (Int × Int)} (W : WebOk ps ts) (p : Int) : (adj ts p).Nodup := by
  unfold adj List.Nodup
  rw [List.pairwise_filterMap]
  refine List.Pairwise.imp_of_mem ?_ W.nd
  intro a b ha hb ne x hx y hy e
  subst e
  have l1 := W.lt _ ha
  have l2 := W.lt _ hb
  rcases oth_some hx with rfl | rfl <;> rcases oth_some hy with rfl | rfl
  · exact ne rfl
  · dsimp only at l1 l2; omega
  · dsimp only at l1 l2; omega
  · exact ne rfl
theorem sorted_adj {ps : List Int} {ts : List (Int × Int)} (W : WebOk ps ts) {p : Int} {ns : List Int} (h : ns.Perm (adj ts p)) (h2 : ns.Pairwise (· ≤ ·)) : ns = nb ps ts p := by
  refine rise_eq _ _ (rise_of h2 (h.nodup_iff.mpr (adj_nodup W p))) (W.rise.filter _) fun x => ?_
  rw [h.mem_iff, adj_mem W]
  unfold nb
  rw [List.mem_filter, Bool.or_eq_true, decide_eq_true_eq, decide_eq_true_eq]
  constructor
  · intro h
    refine ⟨?_, h⟩
    rcases h with h | h
    · exact (W.ends _ h).2
    · exact (W.ends _ h).1
  · exact fun h => h.2
theorem adj_take (ts : List (Int × Int)) (i : Nat) (t : Int × Int) (h : ts[i]? = some t) (p : Int) : adj (ts.take (i + 1)) p = adj (ts.take i) p ++ (oth p t).toList := by
  unfold adj
  rw [List.take_add_one, h, List.filterMap_append]
  congr 1
theorem adj_len (ts : List (Int × Int)) (p : Int) : (adj ts p).length ≤ ts.length := List.length_filterMap_le _ _
section
variable {P : Program} {w : World} {K : PySem.W.Frag} {mg : Str → Option Value} {base : Heap} {f : Addr} {fd : FuncData}
theorem tyL {K : PySem.W.Frag} {H : Hp} {l : Addr} {xs : List V} (h : H l = some (.lst xs)) : tyV K "list" (.ref l) H := .inl ⟨rfl, _, SqL.of h⟩
theorem dgI {H : Hp} {a : Addr} {kvs : List (Key × V)} {i : Int} {v : V} (e : H a = some (.dK kvs)) (h : valV kvs (.inl i) = some v) : DGet H a (.int i) (some v) := .inl ⟨kvs, .inl i, .inl e, rfl, h.symm⟩
theorem kInt (i : Int) : V.int i = kV (.inl i) := rfl
def spNears (K : PySem.W.Frag) : Sp := fun vs H Q _ => ∃ (x : V) (ps : List Int) (ts : List (Int × Int)), vs = [x] ∧ Rp K H x (dW ps ts) ∧ WebOk ps ts ∧ ∀ D kvs H', Same H H' → H' D = some (.dK kvs) → (∀ p ∈ ps, ∃ v, valV kvs (.inl p) = some v ∧ Rp K H' v (dI (nb ps ts p))) → Q (.ref D) H'
/-- the dict of the lists as they grow -/
structure Lists (H : Hp) (ps : List Int) (N : Int → List Int) (kvs : List (Key × V)) (L : Int → Addr) (H' : Hp) : Prop where
  at_ : ∀ p ∈ ps, valV kvs (.inl p) = some (.ref (L p))
  lst : ∀ p ∈ ps, H' (L p) = some (.lst ((N p).map V.int))
  new : ∀ p ∈ ps, H (L p) = none
  inj : ∀ p ∈ ps, ∀ q ∈ ps, L p = L q → p = q
theorem Lists.put {H H' : Hp} {ps : List Int} {N N' : Int → List Int} {kvs : List (Key × V)} {L : Int → Addr} (S : Lists H ps N kvs L H') {p : Int} (hp : p ∈ ps) (h1 : ∀ q, q ≠ p → N' q = N q) : Lists H ps N' kvs L (upd H' (L p) (.lst ((N' p).map V.int))) := by
  refine ⟨S.at_, fun q hq => ?_, S.new, S.inj⟩
  by_cases e : q = p
  · subst e; exact upd_same
  · rw [upd_ne (fun z => e (S.inj _ hq _ hp z)), h1 q e]
    exact S.lst q hq
theorem ok_nears (F : Fun K "nears" "nears" s_nears f fd) (T : Txt mg) : FnOk P w K mg base CX0 1 f fd ["web"] (spNears K) := by
  refine F.ok sc_nears (fun vs H Q E h => ?_) (fun cdv A outer s H vs Q E hr h => ?_)
  · obtain ⟨x, ps, ts, rfl, _⟩ := h; rfl
  obtain ⟨x, ps, ts, rfl, rx, W, q⟩ := h
  have hu := hr.units
  have hu : (A.deeper (envOfC "nears" (defScope s_nears) s.heap.objs.size f cdv)).units + 1 < cLine := by omega
  refine ⟨_, (pss_cons (ps_asg (pv 0) (pg_tup rfl (pgs_cons (pg_name (i := 1) sc_nears.nd rfl (Or.inl rfl)) (pgs_cons (pg_name (i := 2) sc_nears.nd rfl (Or.inl rfl)) pgs_nil))))
    (pss_cons (ps_set (i := 3) sc_nears.nd rfl (Or.inr rfl) (pe_dc rfl (CompSc.of (sc0 := defScope s_nears) (N0 := ["web", "places", "ties", "beside", "a", "b"]) (N := ["place"]) (fr := [none]) rfl rfl (by decide +kernel)) (pi_tup (pv 1)) (fun _ => ⟨(pg_name (i := 0) (show (["place"] : List Str).Nodup by decide +kernel) rfl (Or.inl rfl)), pf_nil, (pv 0), (pe_lst pa_nil)⟩)))
    (pss_cons (ps_for PassesOwn.never rfl (pi_tup (pv 2)) (pg_tup rfl (pgs_cons (pg_name (i := 4) sc_nears.nd rfl (Or.inl rfl)) (pgs_cons (pg_name (i := 5) sc_nears.nd rfl (Or.inl rfl)) pgs_nil))) (pss_cons (ps_expr (pe_bm PySem.F.plainAttrs_list PySem.F.slot_list_append PySem.F.type_list_append mt_append (pe_dget hu (pv 3) (pv 4) (fun _ _ => rfl)) (pa_cons (pv 5) pa_nil)))
    (pss_one (ps_expr (pe_bm PySem.F.plainAttrs_list PySem.F.slot_list_append PySem.F.type_list_append mt_append (pe_dget hu (pv 3) (pv 5) (fun _ _ => rfl)) (pa_cons (pv 4) pa_nil))))))
    (pss_one (ps_ret (pe_dc rfl (CompSc.of (sc0 := defScope s_nears) (N0 := ["web", "places", "ties", "beside", "a", "b"]) (N := ["place", "beside"]) (fr := [none, some 3]) rfl rfl (by decide +kernel)) (pi_tup (pv 1)) (fun _ => ⟨(pg_name (i := 0) (show (["place", "beside"] : List Str).Nodup by decide +kernel) rfl (Or.inl rfl)), pf_nil, (pv 0), (pe_callTy call_tuple_of rfl T.z_tuple (by decide +kernel) (pa_cons (pe_callB call_sorted_ints rfl T.z_sorted (by decide +kernel) (pa_cons (pe_dget hu (pv 1) (pv 0) (fun _ _ => rfl)) pa_nil)) pa_nil))⟩))))))), ?_⟩
  obtain ⟨a, p, t, ys, rfl, qa, qp, qt, rt⟩ := rx.toW
  have ly : ys.length = ts.length := by rw [rt.length, List.length_map]
  have lp : (ps.map V.int).length = ps.length := List.length_map _
  have fewp := W.few
  have lent := W.len
  refine ⟨_, rfl, a, _, rfl, qa, rfl, _, _, rfl, _, _, rfl, rfl, ?_⟩
  refine ⟨_, rfl, p, rfl, ⟨_, qp⟩, fun D hD z => ?_⟩
  refine loop_tup (xs := ps.map V.int) (fun i τ H' => Same H H' ∧ (∃ kvs L, H' D = some (.dK kvs) ∧ kvs.length ≤ i ∧ Lists H (ps.take i) (fun _ => []) kvs L H') ∧ ∃ v1, τ = [v1]) ⟨same_new hD _, ⟨[], fun _ => D, upd_same, Nat.le_refl _, ⟨fun p h => by simp at h, fun p h => by simp at h, fun p h => by simp at h, fun p h => by simp at h⟩⟩, _, rfl⟩ (fun i τ H' _ ⟨s', _⟩ => s'.tups.sq qp) ?_ ?_
  · rintro i y τ H1 hy ⟨s1, ⟨kvs, L, hk, hkl, S⟩, v1, rfl⟩
    rw [List.getElem?_map] at hy
    obtain ⟨pl, hpl, rfl⟩ := Option.map_eq_some_iff.mp hy
    have hi : i < ps.length := (List.getElem?_eq_some_iff.mp hpl).1
    refine ⟨_, rfl, Nat.zero_le _, fun u hu' => ?_⟩
    have hk' : upd H1 u (.lst []) D = some (.dK kvs) := by rw [upd_ne (ne_of_none hk hu')]; exact hk
    refine ⟨_, _, kInt pl, hk', small1000 (by omega), ?_⟩
    have notin : pl ∉ ps.take i := fun z => by
      obtain ⟨j, hj⟩ := List.mem_iff_getElem?.mp z
      rw [List.getElem?_take] at hj
      split at hj
      · rename_i hji
        have := (List.pairwise_iff_getElem.mp W.rise) j i (by omega) hi hji
        have e1 := List.getElem?_eq_some_iff.mp hj
        have e2 := List.getElem?_eq_some_iff.mp hpl
        obtain ⟨_, e1⟩ := e1
        obtain ⟨_, e2⟩ := e2
        omega
      · cases hj
    have tk : ps.take (i + 1) = ps.take i ++ [pl] := by rw [List.take_add_one, hpl]; rfl
    refine ⟨fun e o z => ?_, ⟨_, fun x => if x = pl then u else L x, upd_same, ?_, ?_⟩, _, rfl⟩
    · rw [upd_ne (ne_of_none z hD), upd_ne (ne_of_none z (s1.free hu'))]
      exact s1 _ _ z
    · have := length_putK kvs (.inl pl) (V.ref u); omega
    · have each : ∀ x ∈ ps.take (i + 1), (x = pl) ∨ (x ≠ pl ∧ x ∈ ps.take i) := fun x hx => by
        rw [tk] at hx
        rcases List.mem_append.mp hx with h | h
        · exact .inr ⟨fun e => notin (e ▸ h), h⟩
        · exact .inl (List.mem_singleton.mp h)
      have uD : u ≠ D := (ne_of_none hk hu').symm
      refine ⟨fun x hx => ?_, fun x hx => ?_, fun x hx => ?_, fun x hx y hy' e => ?_⟩
      · rw [valV_put]
        rcases each x hx with rfl | ⟨ne, h⟩
        · rw [if_pos rfl, if_pos rfl]
        · rw [if_neg (fun z => ne (Sum.inl.inj z)), if_neg ne]
          exact S.at_ x h
      · rcases each x hx with rfl | ⟨ne, h⟩
        · rw [if_pos rfl, upd_ne uD, upd_same]; rfl
        · have hl := S.lst x h
          rw [if_neg ne, upd_ne (fun z => by rw [z, hk] at hl; cases hl), upd_ne (ne_of_none hl hu')]
          exact hl
      · rcases each x hx with rfl | ⟨ne, h⟩
        · rw [if_pos rfl]; exact s1.free hu'
        · rw [if_neg ne]; exact S.new x h
      · rcases each x hx with rfl | ⟨ne, h⟩
        · rcases each y hy' with rfl | ⟨ne', h'⟩
          · rfl
          · rw [if_pos rfl, if_neg ne'] at e
            have hl := S.lst y h'
            rw [← e, hu'] at hl
            cases hl
        · rcases each y hy' with rfl | ⟨ne', h'⟩
          · rw [if_pos rfl, if_neg ne] at e
            have hl := S.lst x h
            rw [e, hu'] at hl
            cases hl
          · rw [if_neg ne, if_neg ne'] at e
            exact S.inj x h y h' e
  · rintro τ H1 ⟨s1, ⟨kvs, L, hk, hkl, S⟩, _⟩
    rw [lp, List.take_length] at S
    refine ⟨_, rfl, t, rfl, ⟨_, s1.tups.sq qt⟩, ?_⟩
    refine for_tup (xs := ys) (fun i σ H' => Same H H' ∧ (H' D = some (.dK kvs) ∧ Lists H ps (adj (ts.take i)) kvs L H') ∧ ∃ v0 v4 v5, σ = [v0, some (.ref p), some (.ref t), some (.ref D), v4, v5]) ⟨s1, ⟨hk, S⟩, _, _, _, rfl⟩ (fun i τ H' _ ⟨s', _⟩ => s'.tups.sq qt) ?_ ?_
    · rintro i y σ H2 hy ⟨s2, ⟨hk2, S2⟩, v0, v4, v5, rfl⟩
      obtain ⟨t', c, ht, rfl, qc⟩ := rt.pairAt hy
      have hm : t' ∈ ts := List.mem_of_getElem? ht
      obtain ⟨e1, e2⟩ := W.ends _ hm
      have lt := W.lt _ hm
      have hl1 := S2.lst _ e1
      have ne12 : L t'.1 ≠ L t'.2 := fun z => by have := S2.inj _ e1 _ e2 z; omega
      refine ⟨c, _, rfl, s2.tups.sq qc, rfl, _, _, rfl, _, _, rfl, rfl, ?_⟩
      have sm : ∀ p, ((adj (ts.take i) p).map V.int).length < sizeLine := fun p => by
        rw [List.length_map]
        have := adj_len (ts.take i) p
        have : (ts.take i).length ≤ ts.length := by rw [List.length_take]; omega
        exact small1000 (by omega)
      refine ⟨_, rfl, _, rfl, D, _, rfl, dgI hk2 (S2.at_ _ e1), tyL hl1, _, rfl, L t'.1, _, _, rfl, rfl, hl1, sm _, ?_⟩
      have S3 := S2.put (N' := fun x => if x = t'.1 then adj (ts.take i) x ++ [t'.2] else adj (ts.take i) x) e1 (fun x hx => if_neg hx)
      have e3 : ((if t'.1 = t'.1 then adj (ts.take i) t'.1 ++ [t'.2] else adj (ts.take i) t'.1).map V.int) = (adj (ts.take i) t'.1).map V.int ++ [V.int t'.2] := by rw [if_pos rfl, List.map_append]; rfl
      rw [e3] at S3
      generalize hH3 : upd H2 (L t'.1) (.lst ((adj (ts.take i) t'.1).map V.int ++ [V.int t'.2])) = H3 at S3 ⊢
      have s3 : Same H H3 := by
        intro e o z
        rw [← hH3, upd_ne (ne_of_none z (S2.new _ e1))]
        exact s2 _ _ z
      have hk3 : H3 D = some (.dK kvs) := by rw [← hH3, upd_ne (fun z => by rw [← z, hk2] at hl1; cases hl1)]; exact hk2
      have hl2 := S3.lst _ e2
      have e4 : (if t'.2 = t'.1 then adj (ts.take i) t'.2 ++ [t'.2] else adj (ts.take i) t'.2) = adj (ts.take i) t'.2 := if_neg (by omega)
      rw [e4] at hl2
      refine ⟨_, rfl, _, rfl, D, _, rfl, dgI hk3 (S3.at_ _ e2), tyL hl2, _, rfl, L t'.2, _, _, rfl, rfl, hl2, sm _, ?_⟩
      have S4 := S3.put (N' := adj (ts.take (i + 1))) e2 (fun x hx => by
        rw [adj_take ts i t' ht]
        by_cases h : x = t'.1
        · subst h
          rw [if_pos rfl]
          congr 1
          unfold oth
          rw [if_pos rfl]; rfl
        · rw [if_neg h]
          unfold oth
          rw [if_neg (Ne.symm h), if_neg (Ne.symm hx)]
          exact List.append_nil _)
      have e5 : (adj (ts.take (i + 1)) t'.2).map V.int = (adj (ts.take i) t'.2).map V.int ++ [V.int t'.1] := by
        rw [adj_take ts i t' ht, List.map_append]
        congr 1
        unfold oth
        rw [if_neg (by omega), if_pos rfl]; rfl
      rw [e5] at S4
      refine ⟨fun e o z => ?_, ⟨?_, S4⟩, _, _, _, rfl⟩
      · rw [upd_ne (ne_of_none z (S2.new _ e2))]
        exact s3 _ _ z
      · rw [upd_ne (fun z => by rw [← z, hk3] at hl2; cases hl2)]; exact hk3
    · rintro σ H2 ⟨s2, ⟨hk2, S2⟩, v0, v4, v5, rfl⟩
      rw [ly, List.take_length] at S2
      refine ⟨_, rfl, p, rfl, ⟨_, s2.tups.sq qp⟩, fun D2 hD2 z => ?_⟩
      refine loop_tup (xs := ps.map V.int) (fun i τ H' => Same H2 H' ∧ (∃ kvs2, H' D2 = some (.dK kvs2) ∧ kvs2.length ≤ i ∧ ∀ x ∈ ps.take i, ∃ v, valV kvs2 (.inl x) = some v ∧ Rp K H' v (dI (nb ps ts x))) ∧ ∃ v1, τ = [v1, some (.ref D)]) ⟨same_new hD2 _, ⟨[], upd_same, Nat.le_refl _, fun p h => by simp at h⟩, _, rfl⟩ (fun i τ H' _ ⟨s', _⟩ => (s2.trans s').tups.sq qp) ?_ ?_
      · rintro i y τ H3 hy ⟨s3, ⟨kvs2, hk3, hkl3, S3⟩, v1, rfl⟩
        rw [List.getElem?_map] at hy
        obtain ⟨pl, hpl, rfl⟩ := Option.map_eq_some_iff.mp hy
        have hi : i < ps.length := (List.getElem?_eq_some_iff.mp hpl).1
        have hm : pl ∈ ps := List.mem_of_getElem? hpl
        refine ⟨_, rfl, _, rfl, _, rfl, D, _, rfl, dgI (s3 _ _ hk2) (S2.at_ _ hm), L pl, _, rfl, SqL.of (s3 _ _ (S2.lst _ hm)), ?_, fun ns' l pm srt hl => ?_⟩
        · have := adj_len ts pl; omega
        have e := sorted_adj W pm srt
        subst e
        refine ⟨l, _, rfl, .inl ⟨SqL.of upd_same, fun u hu' => ?_⟩⟩
        have s4 : Same H3 (upd (upd H3 l (.lst ((nb ps ts pl).map V.int))) u (.tup ((nb ps ts pl).map V.int))) := (same_new hl _).trans (same_new hu' _)
        refine ⟨_, _, kInt pl, s4 _ _ hk3, small1000 (by omega), ?_⟩
        have tk : ps.take (i + 1) = ps.take i ++ [pl] := by rw [List.take_add_one, hpl]; rfl
        have tu := s4.tups.trans (Tups.dk (o' := .dK (putK kvs2 (.inl pl) (V.ref u))) (s4 _ _ hk3))
        refine ⟨fun e o z => ?_, ⟨_, upd_same, ?_, fun x hx => ?_⟩, _, rfl⟩
        · rw [upd_ne (ne_of_none z hD2)]
          exact s4 _ _ (s3 _ _ z)
        · have := length_putK kvs2 (.inl pl) (V.ref u); omega
        · rw [valV_put]
          by_cases e : x = pl
          · subst e
            refine ⟨_, if_pos rfl, Rp.ofI (SqT.of ?_)⟩
            rw [upd_ne (fun z => by have := s4 _ _ hk3; rw [← z, upd_same] at this; cases this), upd_same]
          · rw [if_neg (fun z => e (Sum.inl.inj z))]
            rw [tk] at hx
            rcases List.mem_append.mp hx with h | h
            · obtain ⟨v, h1, h2⟩ := S3 x h
              exact ⟨v, h1, h2.mono tu⟩
            · exact absurd (List.mem_singleton.mp h) e
      · rintro τ H3 ⟨s3, ⟨kvs2, hk3, hkl3, S3⟩, _⟩
        rw [lp, List.take_length] at S3
        exact q D2 kvs2 H3 (s2.trans s3) hk3 S3
end
end K4
end

section
set_option Elab.async false
set_option linter.all false
set_option maxRecDepth 100000
set_option maxHeartbeats 4000000
namespace K4
open PySem L2 PyProof.Rows
theorem atI_mem {ns : List Int} {i : Int} (h0 : 0 ≤ i) (h1 : i < (ns.length : Int)) : ∃ n, n ∈ ns ∧ atI (ns.map V.int) i = some (.int n) := by
  obtain ⟨k, rfl⟩ := Int.eq_ofNat_of_zero_le h0
  have hk : k < ns.length := by omega
  exact ⟨ns[k], List.getElem_mem hk, atI_nat (by rw [List.getElem?_map, List.getElem?_eq_getElem hk]; rfl)⟩
abbrev steps : List Int := [1, 3, 7, 9, 11, 13, 17, 19, 21, 23, 27, 29, 31, 33]
theorem step_ne {s : Int} (hs : s ∈ steps) {f i j : Int} (h0 : 0 ≤ i) (h1 : i < j) (h2 : j < 24) : (f + s * (0 + i)) % 100 ≠ (f + s * (0 + j)) % 100 := by
  simp only [steps, List.mem_cons, List.not_mem_nil, or_false] at hs
  rcases hs with rfl | rfl | rfl | rfl | rfl | rfl | rfl | rfl | rfl | rfl | rfl | rfl | rfl | rfl <;> omega
def plc (f s : Int) (n : Nat) : List Int := (List.range n).map fun k : Nat => (f + s * (0 + (k : Int))) % 100
theorem plc_succ (f s : Int) (n : Nat) : plc f s (n + 1) = plc f s n ++ [(f + s * (0 + (n : Int))) % 100] := by
  unfold plc
  rw [List.range_succ, List.map_append]; rfl
theorem plc_len (f s : Int) (n : Nat) : (plc f s n).length = n := by unfold plc; rw [List.length_map, List.length_range]
theorem plc_nodup {f s : Int} {n : Nat} (hs : s ∈ steps) (hn : n ≤ 24) : (plc f s n).Nodup := by
  unfold plc List.Nodup
  rw [List.pairwise_map]
  refine List.Pairwise.imp_of_mem ?_ List.pairwise_lt_range
  intro a b ha hb hab
  rw [List.mem_range] at ha hb
  exact step_ne hs (by omega) (by omega) (by omega)
theorem plc_rng {f s : Int} {n : Nat} : ∀ p ∈ plc f s n, 0 ≤ p ∧ p < 100 := by
  intro p hp
  unfold plc at hp
  obtain ⟨k, _, rfl⟩ := List.mem_map.mp hp
  omega
theorem not_take {ps : List Int} (rise : ps.Pairwise (· < ·)) {i : Nat} {pl : Int} (hpl : ps[i]? = some pl) : pl ∉ ps.take i := fun z => by
  obtain ⟨hi, e2⟩ := List.getElem?_eq_some_iff.mp hpl
  obtain ⟨j, hj⟩ := List.mem_iff_getElem?.mp z
  rw [List.getElem?_take] at hj
  split at hj
  · rename_i hji
    have := (List.pairwise_iff_getElem.mp rise) j i (by omega) hi hji
    obtain ⟨_, e1⟩ := List.getElem?_eq_some_iff.mp hj
    omega
  · cases hj
theorem take_snoc {ps : List Int} {i : Nat} {pl : Int} (hpl : ps[i]? = some pl) : ps.take (i + 1) = ps.take i ++ [pl] := by rw [List.take_add_one, hpl]; rfl
structure Tys (ps : List Int) (i j : Nat) (tys : List (Int × Int)) : Prop where
  nd : tys.Nodup
  lt : ∀ t ∈ tys, t.1 < t.2
  ends : ∀ t ∈ tys, t.1 ∈ ps ∧ t.2 ∈ ps
  len : tys.length ≤ 60
  seen : ∀ t ∈ tys, t.2 ∈ ps.take i ∨ (ps[i]? = some t.2 ∧ t.1 ∈ ps.take j)
theorem Tys.zero {ps : List Int} : Tys ps 0 0 [] := ⟨List.nodup_nil, fun t h => by simp at h, fun t h => by simp at h, Nat.zero_le _, fun t h => by simp at h⟩
theorem Tys.skip {ps : List Int} {i j : Nat} {tys : List (Int × Int)} (S : Tys ps i j tys) {a : Int} (ha : ps[j]? = some a) : Tys ps i (j + 1) tys :=
  ⟨S.nd, S.lt, S.ends, S.len, fun t ht => (S.seen t ht).imp id fun ⟨h1, h2⟩ => ⟨h1, by rw [take_snoc ha]; exact List.mem_append_left _ h2⟩⟩
theorem Tys.row {ps : List Int} {i : Nat} {tys : List (Int × Int)} (S : Tys ps i ps.length tys) {b : Int} (hb : ps[i]? = some b) : Tys ps (i + 1) 0 tys := by
  refine ⟨S.nd, S.lt, S.ends, S.len, fun t ht => .inl ?_⟩
  rw [take_snoc hb]
  rcases S.seen t ht with h | ⟨h, _⟩
  · exact List.mem_append_left _ h
  · rw [hb] at h
    cases h
    exact List.mem_append_right _ (List.mem_singleton.mpr rfl)
theorem Tys.add {ps : List Int} {i j : Nat} {tys : List (Int × Int)} (S : Tys ps i j tys) (rise : ps.Pairwise (· < ·)) {a b : Int} (ha : ps[j]? = some a) (hb : ps[i]? = some b) (h : a < b) (hl : tys.length < 60) : Tys ps i (j + 1) (tys ++ [(a, b)]) := by
  have no : (a, b) ∉ tys := fun z => by
    rcases S.seen _ z with h | ⟨_, h⟩
    · exact not_take rise hb h
    · exact not_take rise ha h
  refine ⟨?_, fun t ht => ?_, fun t ht => ?_, ?_, fun t ht => ?_⟩
  · rw [List.nodup_append]
    refine ⟨S.nd, List.nodup_cons.mpr ⟨by simp, List.nodup_nil⟩, fun x hx y hy e => ?_⟩
    rw [List.mem_singleton] at hy
    subst hy e
    exact no hx
  · rcases List.mem_append.mp ht with h' | h'
    · exact S.lt t h'
    · rw [List.mem_singleton] at h'; subst h'; exact h
  · rcases List.mem_append.mp ht with h' | h'
    · exact S.ends t h'
    · rw [List.mem_singleton] at h'; subst h'; exact ⟨List.mem_of_getElem? ha, List.mem_of_getElem? hb⟩
  · rw [List.length_append, List.length_singleton]; omega
  · rw [take_snoc ha]
    rcases List.mem_append.mp ht with h' | h'
    · exact (S.seen t h').imp id fun ⟨h1, h2⟩ => ⟨h1, List.mem_append_left _ h2⟩
    · rw [List.mem_singleton] at h'; subst h'; exact .inr ⟨hb, List.mem_append_right _ (List.mem_singleton.mpr rfl)⟩
abbrev enc (t : Int × Int) : List Int := [t.1, t.2]
def dec (k : List Int) : Int × Int := (k.getD 0 0, k.getD 1 0)
theorem dec_enc (t : Int × Int) : dec (enc t) = t := rfl
theorem rps_all {K : PySem.W.Frag} {H : Hp} {α : Type} (f : α → V) (g : α → PyData) : ∀ (zs : List α), (∀ z ∈ zs, Rp K H (f z) (g z)) → Rps K H (zs.map f) (zs.map g)
  | [], _ => .nil
  | z :: zs, h => .cons (h z List.mem_cons_self) (rps_all f g zs fun x hx => h x (List.mem_cons_of_mem _ hx))
theorem zip_rps {K : PySem.W.Frag} {H : Hp} : ∀ {zs : List V} {tys : List (Int × Int)}, Rps K H zs (tys.map dP) → ∀ z ∈ zs.zip (tys.map enc), ∃ t, z.2 = enc t ∧ Rp K H z.1 (dP t)
  | [], [], _, z, h => by simp at h
  | [], _ :: _, h, _, _ => by cases h
  | _ :: _, [], h, _, _ => by cases h
  | v :: zs, t :: tys, h, z, hz => by
    cases h with
    | cons h1 h2 =>
      rw [List.map_cons, List.zip_cons_cons] at hz
      rcases List.mem_cons.mp hz with rfl | hz
      · exact ⟨t, rfl, h1⟩
      · exact zip_rps h2 z hz
theorem sorted_ties {K : PySem.W.Frag} {H : Hp} {zs : List V} {tys : List (Int × Int)} (r : Rps K H zs (tys.map dP)) {zs' : List (V × List Int)} (pm : zs'.Perm (zs.zip (tys.map enc))) :
    ∃ ts : List (Int × Int), ts.Perm tys ∧ Rps K H (zs'.map (·.1)) (ts.map dP) ∧ ts.map enc = zs'.map (·.2) := by
  have each : ∀ z ∈ zs', ∃ t, z.2 = enc t ∧ Rp K H z.1 (dP t) := fun z hz => zip_rps r z (pm.mem_iff.mp hz)
  have hl : (tys.map enc).length ≤ zs.length := by rw [r.length, List.length_map, List.length_map]; exact Nat.le_refl _
  refine ⟨zs'.map fun z => dec z.2, ?_, ?_, ?_⟩
  · have h1 : (zs'.map fun z => dec z.2).Perm ((zs.zip (tys.map enc)).map fun z => dec z.2) := pm.map _
    have h2 : ((zs.zip (tys.map enc)).map fun z => dec z.2) = tys := by
      rw [show (fun z : V × List Int => dec z.2) = dec ∘ Prod.snd from rfl, ← List.map_map, List.map_snd_zip hl, List.map_map]
      exact List.map_id tys
    rw [h2] at h1
    exact h1
  · rw [List.map_map]
    refine rps_all _ _ zs' fun z hz => ?_
    obtain ⟨t, e, h⟩ := each z hz
    show Rp K H z.1 (dP (dec z.2))
    rw [e]
    exact h
  · rw [List.map_map]
    refine List.map_congr_left fun z hz => ?_
    obtain ⟨t, e, h⟩ := each z hz
    show enc (dec z.2) = z.2
    rw [e]
    rfl
section
variable {P : Program} {w : World} {K : PySem.W.Frag} {mg : Str → Option Value} {base : Heap} {f : Addr} {fd : FuncData}
def spWeb (K : PySem.W.Frag) : Sp := fun vs H Q _ => ∃ (l : Addr) (m : Int), vs = [.ref l, .int m] ∧ Pot H l ∧ 3 ≤ m ∧ m ≤ 24 ∧ ∀ v ps ts H', Ex l H H' → Rp K H' v (dW ps ts) → WebOk ps ts → Q v H'
theorem ok_web (F : Fun K "_law_web" "_law_web" s_law_web f fd) (T : Txt mg) (C_law_pick : Call1 P w K mg base "_law_pick" ["_law_left_here", "_law_many"] 1 spPick) : FnOk P w K mg base CX0 2 f fd ["_law_left_here", "_law_most"] (spWeb K) := by
  refine F.ok sc_law_web (fun vs H Q E h => ?_) (fun cdv A outer s H vs Q E hr h => ?_)
  · obtain ⟨x, ps, rfl, _⟩ := h; rfl
  obtain ⟨l, m, rfl, pot, m3, m24, q⟩ := h
  refine ⟨_, (pss_cons (ps_par (i := 2) (j := 3) rfl sc_law_web.nd rfl rfl (by decide) rfl rfl (pa_cons (pe_fn C_law_pick hr rfl (pa_cons (pv 0) (pa_cons pe_int pa_nil))) (pa_cons (pe_ix ix_list (pe_lst (pa_cons pe_int (pa_cons pe_int (pa_cons pe_int (pa_cons pe_int pa_nil))))) (pe_fn C_law_pick hr rfl (pa_cons (pv 0) (pa_cons pe_int pa_nil))) (fun _ _ => rfl)) pa_nil)) rfl)
    (pss_cons (ps_set (i := 4) sc_law_web.nd rfl (Or.inl rfl) (pe_ix ix_list (pe_lst (pa_cons pe_int (pa_cons pe_int (pa_cons pe_int (pa_cons (pv 1) (pa_cons (pe_op op_add pe_int (pe_fn C_law_pick hr rfl (pa_cons (pv 0) (pa_cons (pe_op op_sub (pv 1) pe_int) pa_nil)))) pa_nil)))))) (pv 2) (fun _ _ => rfl)))
    (pss_consH (ps_set (i := 5) sc_law_web.nd rfl (Or.inr rfl) (pe_fn C_law_pick hr rfl (pa_cons (pv 0) (pa_cons pe_int pa_nil))))
    (fun _ hR => pss_big (i := 6) (ns := [1, 3, 7, 9, 11, 13, 17, 19, 21, 23, 27, 29, 31, 33]) hR sc_law_web.nd rfl (Or.inr rfl) (by decide +kernel) (pe_fn C_law_pick hr rfl (pa_cons (pv 0) (pa_cons pe_int pa_nil))) (fun _ _ => rfl) (pss_cons (ps_set (i := 7) sc_law_web.nd rfl (Or.inl rfl) (pe_callB call_sorted_ints rfl T.z_sorted (by decide +kernel) (pa_cons (pe_lc rfl (CompSc.of (sc0 := defScope s_law_web) (N0 := ["_law_left_here", "_law_most", "_law_choice", "_law_often", "_law_many", "_law_first", "_law_step", "_law_places", "_law_ties", "_law_b", "_law_a"]) (N := ["_law_k", "_law_first", "_law_step"]) (fr := [none, some 5, some 6]) rfl rfl (by decide +kernel)) (pi_range1 rfl T.z_range (pa_cons (pv 4) pa_nil)) (fun _ => ⟨(pg_name (i := 0) (show (["_law_k", "_law_first", "_law_step"] : List Str).Nodup by decide +kernel) rfl (Or.inl rfl)), pf_nil, (pe_op op_mod (pe_op op_add (pv 1) (pe_op op_mul (pv 2) (pv 0))) pe_int)⟩)) pa_nil)))
    (pss_cons (ps_set (i := 8) sc_law_web.nd rfl (Or.inl rfl) (pe_lst pa_nil))
    (pss_cons (ps_for PassesOwn.never rfl (pi_list (pv 7)) (pg_name (i := 9) sc_law_web.nd rfl (Or.inl rfl)) (pss_one (ps_for PassesOwn.never rfl (pi_list (pv 7)) (pg_name (i := 10) sc_law_web.nd rfl (Or.inl rfl)) (pss_one (ps_if (PW.pt (pw_and (pt_cmpR op_lt (pv 10) (pv 9) (nomark _)) (pw_and (pt_cmpR op_lt (pe_callB call_len_seq rfl T.z_len (by decide +kernel) (pa_cons (pv 8) pa_nil)) pe_int (nomark _)) (pw_and1 (pt_cmpR op_eq (pe_fn C_law_pick hr rfl (pa_cons (pv 0) (pa_cons (pv 3) pa_nil))) pe_int (nomark _)))))) (pss_one (ps_expr (pe_bm PySem.F.plainAttrs_list PySem.F.slot_list_append PySem.F.type_list_append mt_append (pv 8) (pa_cons (pe_tup (pa_cons (pv 10) (pa_cons (pv 9) pa_nil))) pa_nil)))) pss_nil)))))
    (pss_one (ps_ret (pe_tup (pa_cons (pe_callTy call_tuple_of rfl T.z_tuple (by decide +kernel) (pa_cons (pv 7) pa_nil)) (pa_cons (pe_callTy call_tuple_of rfl T.z_tuple (by decide +kernel) (pa_cons (pe_callB call_sorted_tups rfl T.z_sorted (by decide +kernel) (pa_cons (pv 8) pa_nil)) pa_nil)) pa_nil)))))))))))), ?_⟩
  refine ⟨_, rfl, l, 5, rfl, pot, by decide, by decide, fun ch g1 q1 c1 ch0 ch1 g10 => ?_⟩
  have E1 : Ex l H (upd H l (.lst [.int g1, .int q1, .int c1])) := Ex.pick g10
  generalize upd H l (.lst [.int g1, .int q1, .int c1]) = H1 at E1 ⊢
  refine ⟨(by show 4 ≤ sizeLine; decide), fun u1 hu1 => ?_⟩
  have E2 := E1.same (same_new hu1 (.lst [V.int 1, V.int 2, V.int 3, V.int 7]))
  refine ⟨_, rfl, l, 4, rfl, E2.pot, by decide, by decide, fun o g2 q2 c2 o0 o1 g20 => ?_⟩
  have lu1 : u1 ≠ l := by obtain ⟨_, _, _, z, _⟩ := E1.pot; exact (ne_of_none z hu1).symm
  obtain ⟨of, hof, aof⟩ := atI_mem (ns := [1, 2, 3, 7]) o0 o1
  have E3 := E2.trans (Ex.pick (q := q2) (c := c2) g20)
  refine ⟨u1, _, _, _, rfl, rfl, SqL.of (by rw [upd_ne lu1]; exact upd_same), aof, _, _, rfl, ?_⟩
  generalize upd (upd H1 u1 _) l (.lst [.int g2, .int q2, .int c2]) = H3 at E3 ⊢
  refine ⟨_, rfl, _, rfl, _, rfl, _, _, rfl, rfl, l, m - 2, rfl, E3.pot, by omega, by omega, fun r3 g3 q3 c3 r30 r31 g30 => ?_⟩
  have E4 := E3.trans (Ex.pick (q := q3) (c := c3) g30)
  generalize upd H3 l (.lst [.int g3, .int q3, .int c3]) = H4 at E4 ⊢
  refine ⟨_, _, rfl, rfl, (by show 5 ≤ sizeLine; decide), fun u2 hu2 => ?_⟩
  obtain ⟨many, hmany, amany⟩ := atI_mem (ns := [0, 1, 2, m, 3 + r3]) ch0 ch1
  have many0 : 0 ≤ many ∧ many ≤ 24 := by
    simp only [List.mem_cons, List.not_mem_nil, or_false] at hmany
    omega
  refine ⟨_, rfl, u2, _, _, _, rfl, rfl, SqL.of upd_same, amany, ?_⟩
  have E5 := E4.same (same_new hu2 (.lst [V.int 0, V.int 1, V.int 2, V.int m, V.int (3 + r3)]))
  generalize upd H4 u2 _ = H5 at E5 ⊢
  refine ⟨_, rfl, l, 100, rfl, E5.pot, by decide, by decide, fun fi g4 q4 c4 fi0 fi1 g40 => ?_⟩
  have E6 := E5.trans (Ex.pick (q := q4) (c := c4) g40)
  generalize upd H5 l (.lst [.int g4, .int q4, .int c4]) = H6 at E6 ⊢
  refine ⟨(by show 14 ≤ sizeLine; decide), fun u3 hu3 => ?_⟩
  have E7 := E6.same (same_new hu3 (.lst (steps.map V.int)))
  refine ⟨_, rfl, l, 14, rfl, E7.pot, by decide, by decide, fun o5 g5 q5 c5 o50 o51 g50 => ?_⟩
  have lu3 : u3 ≠ l := by obtain ⟨_, _, _, z, _⟩ := E6.pot; exact (ne_of_none z hu3).symm
  obtain ⟨sp, hsp, asp⟩ := atI_mem (ns := steps) o50 o51
  have E8 := E7.trans (Ex.pick (q := q5) (c := c5) g50)
  refine ⟨u3, _, _, _, rfl, rfl, SqL.of (by rw [upd_ne lu3]; exact upd_same), asp, ?_⟩
  generalize upd (upd H6 u3 _) l (.lst [.int g5, .int q5, .int c5]) = H8 at E8 ⊢
  refine ⟨_, rfl, many, rfl, by omega, by omega, fun D hD z => ?_⟩
  refine loop_range (lo := 0) (n := many.toNat) (fun i τ H' => Same H8 H' ∧ H' D = some (.lst ((plc fi sp i).map V.int)) ∧ ∃ v0, τ = [v0, some (.int fi), some (.int sp)]) ⟨same_new hD _, upd_same, _, rfl⟩ ?_ ?_
  · rintro i τ H' hi ⟨s1, hD1, v0, rfl⟩
    refine ⟨_, rfl, _, rfl, _, rfl, _, _, rfl, rfl, .inr ⟨by omega, by omega⟩, _, _, rfl, rfl, _, _, rfl, rfl, (by show (0 : Int) < 100; decide), _, hD1, ?_, ?_⟩
    · rw [List.length_map, plc_len]; exact small1000 (by omega)
    refine ⟨fun e o z => ?_, ?_, _, rfl⟩
    · rw [upd_ne (ne_of_none z hD)]; exact s1 _ _ z
    · rw [upd_same, plc_succ, List.map_append]; rfl
  rintro τ H9 ⟨s9, hD9, _⟩
  refine ⟨D, _, rfl, SqL.of hD9, by rw [plc_len]; omega, fun ps Pl pm srt hPl => ?_⟩
  have E9 := E8.same s9
  have E10 := E9.same (same_new hPl (.lst (ps.map V.int)))
  have hP10 : upd H9 Pl (.lst (ps.map V.int)) Pl = some (.lst (ps.map V.int)) := upd_same
  have nPl : Pl ≠ l := by obtain ⟨_, _, _, z, _⟩ := E9.pot; exact (ne_of_none z hPl).symm
  generalize upd H9 Pl (.lst (ps.map V.int)) = H10 at E10 hP10 ⊢
  have rise : ps.Pairwise (· < ·) := rise_of srt (pm.nodup_iff.mpr (plc_nodup hsp (by omega)))
  have few : ps.length ≤ 24 := by rw [pm.length_eq, plc_len]; omega
  have rng : ∀ p ∈ ps, 0 ≤ p ∧ p < 100 := fun p hp => plc_rng p (pm.mem_iff.mp hp)
  have of0 : 0 < of ∧ of < 1073741824 := by
    simp only [List.mem_cons, List.not_mem_nil, or_false] at hof
    omega
  refine ⟨Nat.zero_le _, fun T' hT => ?_⟩
  have nT : T' ≠ l := by obtain ⟨_, _, _, z, _⟩ := E10.pot; exact (ne_of_none z hT).symm
  have lp : (ps.map V.int).length = ps.length := List.length_map _
  refine ⟨_, rfl, Pl, rfl, ⟨_, SqL.of (by rw [upd_ne (ne_of_none hP10 hT)]; exact hP10)⟩, ?_⟩
  refine for_list (xs := ps.map V.int) (fun i σ H' => Ex l H10 H' ∧ (∃ zs tys, H' T' = some (.lst zs) ∧ Rps K H' zs (tys.map dP) ∧ Tys ps i 0 tys) ∧ ∃ v9 v10, σ = [some (.ref l), some (.int m), some (.int ch), some (.int of), some (.int many), some (.int fi), some (.int sp), some (.ref Pl), some (.ref T'), v9, v10])
    ⟨Ex.of E10.pot (same_new hT _), ⟨[], [], upd_same, .nil, Tys.zero⟩, _, _, rfl⟩ (fun i σ H' _ ⟨e', _⟩ => SqL.of (e'.keep _ _ nPl hP10)) ?_ ?_
  · rintro i y σ Ha hy ⟨Ea, ⟨zs, tys, hTa, rz, St⟩, v9, v10, rfl⟩
    rw [List.getElem?_map] at hy
    obtain ⟨b, hb, rfl⟩ := Option.map_eq_some_iff.mp hy
    refine ⟨_, rfl, Pl, rfl, ⟨_, SqL.of (Ea.keep _ _ nPl hP10)⟩, ?_⟩
    refine for_list (xs := ps.map V.int) (fun j σ H' => Ex l H10 H' ∧ (∃ zs tys, H' T' = some (.lst zs) ∧ Rps K H' zs (tys.map dP) ∧ Tys ps i j tys) ∧ ∃ v10, σ = [some (.ref l), some (.int m), some (.int ch), some (.int of), some (.int many), some (.int fi), some (.int sp), some (.ref Pl), some (.ref T'), some (.int b), v10])
      ⟨Ea, ⟨zs, tys, hTa, rz, St⟩, _, rfl⟩ (fun i σ H' _ ⟨e', _⟩ => SqL.of (e'.keep _ _ nPl hP10)) ?_ ?_
    · clear St rz hTa Ea hy zs tys
      rintro j y σ Hb hy ⟨Eb, ⟨zs, tys, hTb, rz, St⟩, v10, rfl⟩
      rw [List.getElem?_map] at hy
      obtain ⟨a, ha, rfl⟩ := Option.map_eq_some_iff.mp hy
      have lz : zs.length = tys.length := by rw [rz.length, List.length_map]
      refine ⟨_, rfl, _, rfl, _, _, rfl, rfl, _, rfl, ?_⟩
      refine ite2 (fun c1 => ?_) (fun c1 => ?_)
      · have c1 : decide (a < b) = true := c1
        refine ⟨_, rfl, T', _, rfl, .inl (SqL.of hTb), _, _, rfl, rfl, _, rfl, ?_⟩
        refine ite2 (fun c2 => ?_) (fun c2 => ?_)
        · have c2 : decide (((zs.length : Nat) : Int) < 60) = true := c2
          refine ⟨_, rfl, _, rfl, l, of, rfl, Eb.pot, of0.1, of0.2, fun r g q' c r0 r1 g0 => ?_⟩
          have Ec := Eb.trans (Ex.pick (q := q') (c := c) g0)
          have tc := Ex.tups Eb.pot (Ex.pick (q := q') (c := c) g0)
          have hTc : upd Hb l (.lst [.int g, .int q', .int c]) T' = some (.lst zs) := by rw [upd_ne nT]; exact hTb
          generalize upd Hb l (.lst [.int g, .int q', .int c]) = Hc at Ec tc hTc ⊢
          refine ⟨rfl, _, rfl, ?_⟩
          refine ite2 (fun c3 => ?_) (fun c3 => ?_)
          · refine ⟨_, rfl, tyL hTc, _, rfl, _, rfl, (by show 2 ≤ sizeLine; decide), fun u hu => ?_⟩
            have hTu : upd Hc u (.tup [V.int a, V.int b]) T' = some (.lst zs) := by rw [upd_ne (ne_of_none hTc hu)]; exact hTc
            refine ⟨T', _, _, rfl, rfl, hTu, small1000 (by rw [lz]; have := St.len; omega), ?_⟩
            have tu := tc.trans ((Tups.new hu).trans (Tups.lst (o' := .lst (zs ++ [V.ref u])) hTu))
            refine ⟨⟨fun e o ne z => ?_, ?_⟩, ⟨_, tys ++ [(a, b)], upd_same, ?_, St.add rise ha hb (of_decide_eq_true c1) ?_⟩, _, rfl⟩
            · have z1 := Ec.keep _ _ ne z
              rw [upd_ne (ne_of_none z hT), upd_ne (ne_of_none z1 hu)]
              exact z1
            · obtain ⟨g', q'', c', hp, hg⟩ := Ec.pot
              exact ⟨g', q'', c', by rw [upd_ne nT.symm, upd_ne (ne_of_none hp hu)]; exact hp, hg⟩
            · rw [List.map_append]
              refine (rz.mono tu).snoc (Rp.ofP (p := (a, b)) (SqT.of ?_))
              rw [upd_ne (ne_of_none hTc hu).symm, upd_same]
            · have := of_decide_eq_true c2; omega
          · exact ⟨Ec, ⟨zs, tys, hTc, rz.mono tc, St.skip ha⟩, _, rfl⟩
        · exact ite_f rfl ⟨Eb, ⟨zs, tys, hTb, rz, St.skip ha⟩, _, rfl⟩
      · exact ite_f rfl ⟨Eb, ⟨zs, tys, hTb, rz, St.skip ha⟩, _, rfl⟩
    · rintro σ Hb ⟨Eb, ⟨zs, tys, hTb, rz, St⟩, v10, rfl⟩
      rw [lp] at St
      exact ⟨Eb, ⟨zs, tys, hTb, rz, St.row hb⟩, _, _, rfl⟩
  · rintro σ Hb ⟨Eb, ⟨zs, tys, hTb, rz, St⟩, v9, v10, rfl⟩
    have lz : zs.length = tys.length := by rw [rz.length, List.length_map]
    have hPb := Eb.keep _ _ nPl hP10
    refine ⟨_, rfl, Pl, _, rfl, .inl ⟨SqL.of hPb, fun u hu => ?_⟩⟩
    have su := same_new hu (.tup (ps.map V.int))
    have hu2 : upd Hb u (.tup (ps.map V.int)) u = some (.tup (ps.map V.int)) := upd_same
    generalize upd Hb u (.tup (ps.map V.int)) = Hc at su hu2 ⊢
    have rz2 := rz.mono su.tups
    refine ⟨_, rfl, T', zs, tys.map enc, rfl, SqL.of (su _ _ hTb), rz2.tis, fun t ht => ?_, by have := St.len; omega, fun zs' l' pm' srt' hl' => ?_⟩
    · obtain ⟨x, _, rfl⟩ := List.mem_map.mp ht
      exact List.cons_ne_nil _ _
    obtain ⟨ts, pt, rt, et⟩ := sorted_ties rz2 pm'
    refine ⟨l', _, rfl, .inl ⟨SqL.of upd_same, fun u4 hu4 => ?_⟩⟩
    refine ⟨(by show 2 ≤ sizeLine; decide), fun r hr' => ?_⟩
    have s2 : Same Hc _ := (same_new hl' (.lst (zs'.map (·.1)))).trans (same_new hu4 (.tup (zs'.map (·.1))))
    have hu5 : upd (upd Hc l' (.lst (zs'.map (·.1)))) u4 (.tup (zs'.map (·.1))) u4 = some (.tup (zs'.map (·.1))) := upd_same
    generalize upd (upd Hc l' (.lst (zs'.map (·.1)))) u4 (.tup (zs'.map (·.1))) = Hd at s2 hu5 hr' ⊢
    have s3 : Same Hd (upd Hd r (.tup [V.ref u, V.ref u4])) := same_new hr' _
    refine q _ ps ts _ ((E10.trans Eb).same (su.trans (s2.trans s3))) (Rp.ofW (SqT.of upd_same) (Rp.ofI (SqT.of (s3 _ _ (s2 _ _ hu2)))) (.tup (SqT.of (s3 _ _ hu5)) (rt.mono (s2.trans s3).tups))) ?_
    refine ⟨rise, few, pt.nodup_iff.mpr St.nd, fun t ht => St.lt t (pt.mem_iff.mp ht), fun t ht => St.ends t (pt.mem_iff.mp ht), by rw [pt.length_eq]; exact St.len, rng, ?_⟩
    have := srt'
    rw [← et] at this
    exact this
end
end K4
end

section
set_option Elab.async false
set_option linter.all false
set_option maxRecDepth 100000
set_option maxHeartbeats 1000000
namespace K4
open PySem L2 PyProof.Rows
theorem dep_ints : ∀ ns : List Int, PyData.depthAll (ns.map .int) = 0
  | [] => rfl
  | n :: ns => by rw [List.map_cons, PyData.depthAll.eq_2, PyData.depth.eq_6, dep_ints ns]; rfl
theorem dep_I (ns : List Int) : (dI ns).depth = 1 := by rw [PyData.depth.eq_2, dep_ints]
theorem dep_pairs : ∀ ts : List (Int × Int), PyData.depthAll (ts.map dP) ≤ 1
  | [] => by decide
  | t :: ts => by
    rw [List.map_cons, PyData.depthAll.eq_2]
    have h1 : (dP t).depth = 1 := dep_I [t.1, t.2]
    have := dep_pairs ts
    omega
theorem dep_T (ts : List (Int × Int)) : (dT ts).depth ≤ 2 := by rw [PyData.depth.eq_2]; have := dep_pairs ts; omega
theorem dep_W (ps : List Int) (ts : List (Int × Int)) : (dW ps ts).depth ≤ 60 := by
  rw [PyData.depth.eq_2, PyData.depthAll.eq_2, PyData.depthAll.eq_2]
  have := dep_T ts
  have := dep_I ps
  have : PyData.depthAll [] = 0 := rfl
  omega
theorem can_I (ns : List Int) : (dI ns).canLay0 = true := by rw [PyData.canLay0.eq_6]; exact can_ints ns
theorem can_T (ts : List (Int × Int)) : (dT ts).canLay0 = true := by rw [PyData.canLay0.eq_6]; exact can_pairs ts
theorem can_W (ps : List Int) (ts : List (Int × Int)) : (dW ps ts).canLay0 = true := by
  show ((dI ps).canLay0 && ((dT ts).canLay0 && true)) = true
  rw [can_I, can_T]; rfl
theorem eqv_I (ns ms : List Int) : PyData.eqv (dI ns) (dI ms) = decide (ns = ms) := eqv_ints ns ms
theorem cut_lo (ps : List Int) (k : Nat) (h : k ≤ ps.length) : cutV (ps.map V.int) none (some (k : Int)) = (ps.take k).map V.int := by
  unfold cutV
  rw [HT.sIx_none, HT.sIx_nat, List.length_map, List.drop_zero, List.map_take]
  congr 1
  omega
theorem cut_hi (ps : List Int) (k : Nat) (h : k ≤ ps.length) : cutV (ps.map V.int) (some (k : Int)) none = (ps.drop k).map V.int := by
  unfold cutV
  rw [HT.sIx_none, HT.sIx_nat, List.length_map, List.map_drop, Nat.min_eq_left h, List.take_of_length_le]
  rw [List.length_drop, List.length_map]
  omega
section
variable {P : Program} {w : World} {K : PySem.W.Frag} {mg : Str → Option Value} {base : Heap} {f : Addr} {fd : FuncData}
def spSome (K : PySem.W.Frag) : Sp := fun vs H Q _ => ∃ (l : Addr) (x : V) (ps : List Int), vs = [.ref l, x] ∧ Pot H l ∧ Rp K H x (dI ps) ∧ ps.length ≤ 24 ∧ ∀ v ss H', Ex l H H' → Rp K H' v (dI ss) → ss.Sublist ps → Q v H'
theorem ok_some (F : Fun K "_law_some" "_law_some" s_law_some f fd) (T : Txt mg) (C_law_pick : Call1 P w K mg base "_law_pick" ["_law_left_here", "_law_many"] 1 spPick) : FnOk P w K mg base CX0 2 f fd ["_law_left_here", "_law_places"] (spSome K) := by
  refine F.ok sc_law_some (fun vs H Q E h => ?_) (fun cdv A outer s H vs Q E hr h => ?_)
  · obtain ⟨l, x, ps, rfl, _⟩ := h; rfl
  obtain ⟨l, x, ps, rfl, pot, rx, few, q⟩ := h
  have hU := hr.units
  refine ⟨_, (pss_cons (ps_set (i := 2) sc_law_some.nd rfl (Or.inr rfl) (pe_fn C_law_pick hr rfl (pa_cons (pv 0) (pa_cons pe_int pa_nil))))
    (pss_cons (ps_if (PW.pt (pw_or (pt_cmpR op_lt (pv 2) pe_int (nomark _)) (pw_or1 (pt_cmpR (op_eqD hU) (pv 1) (pe_tup pa_nil) (nomark _))))) (pss_one (ps_ret (pe_ix ix_list (pe_lst (pa_cons (pe_tup pa_nil) (pa_cons (pv 1) pa_nil))) (pe_op op_mod (pv 2) pe_int) (fun _ _ => rfl)))) pss_nil)
    (pss_cons (ps_if (pt_cmpR op_eq (pv 2) pe_int (nomark _)) (pss_cons (ps_set (i := 3) sc_law_some.nd rfl (Or.inl rfl) (pe_fn C_law_pick hr rfl (pa_cons (pv 0) (pa_cons (pe_callB call_len_seq rfl T.z_len (by decide +kernel) (pa_cons (pv 1) pa_nil)) pa_nil))))
    (pss_one (ps_ret (pe_op op_catA (pe_slice sl_tup (pv 1) po_none (po_some (pv 3))) (pe_slice sl_tup (pv 1) (po_some (pe_op op_add (pv 3) pe_int)) po_none))))) pss_nil)
    (pss_one (ps_ret (pe_callTy call_tuple_of rfl T.z_tuple (by decide +kernel) (pa_cons (pe_lc rfl (CompSc.of (sc0 := defScope s_law_some) (N0 := ["_law_left_here", "_law_places", "_law_choice", "_law_at"]) (N := ["_law_place", "_law_left_here", "_law_choice"]) (fr := [none, some 0, some 2]) rfl rfl (by decide +kernel)) (pi_tup (pv 1)) (fun _ => ⟨(pg_name (i := 0) (show (["_law_place", "_law_left_here", "_law_choice"] : List Str).Nodup by decide +kernel) rfl (Or.inl rfl)), (pf_one (pt_cmpR op_eq (pe_fn C_law_pick hr rfl (pa_cons (pv 1) (pa_cons (pe_op op_sub (pv 2) pe_int) pa_nil))) pe_int (nomark _))), (pv 0)⟩)) pa_nil))))))), ?_⟩
  obtain ⟨a, rfl, qa⟩ := rx.toI
  have lp : (ps.map V.int).length = ps.length := List.length_map _
  refine ⟨_, rfl, l, 6, rfl, pot, by decide, by decide, fun ch g1 q1 c1 ch0 ch1 g10 => ?_⟩
  have E1 : Ex l H (upd H l (.lst [.int g1, .int q1, .int c1])) := Ex.pick g10
  generalize upd H l (.lst [.int g1, .int q1, .int c1]) = H1 at E1 ⊢
  have t1 := E1.tups pot
  -- the first two choices, or no place at all
  have two : ∀ H2, Same H1 H2 → ∀ u1, H2 u1 = none → ∀ u2, upd H2 u1 (.tup []) u2 = none → ∃ v, atI [V.ref u1, V.ref a] (ch % 2) = some v ∧ Q v (upd (upd H2 u1 (.tup [])) u2 (.lst [V.ref u1, V.ref a])) := by
    intro H2 s2 u1 hu1 u2 hu2
    have s3 : Same H1 (upd (upd H2 u1 (.tup [])) u2 (.lst [V.ref u1, V.ref a])) := s2.trans ((same_new hu1 _).trans (same_new hu2 _))
    have m2 : ch % 2 = 0 ∨ ch % 2 = 1 := by omega
    rcases m2 with e | e
    · rw [e]
      refine ⟨_, rfl, q _ [] _ (E1.same s3) (Rp.ofI (SqT.of ?_)) (List.nil_sublist _)⟩
      rw [upd_ne (ne_of_none upd_same hu2), upd_same]; rfl
    · rw [e]
      exact ⟨_, rfl, q _ ps _ (E1.same s3) (rx.mono (t1.trans s3.tups)) (List.Sublist.refl _)⟩
  refine ⟨_, rfl, _, _, rfl, rfl, _, rfl, ?_⟩
  refine ite2 (fun c1 => ?_) (fun c1 => ?_)
  · refine ite_t rfl ?_
    refine ⟨Nat.zero_le _, fun u1 hu1 => ?_⟩
    refine ⟨_, rfl, (by show 2 ≤ sizeLine; decide), fun u2 hu2 => ?_⟩
    obtain ⟨v, hv, hq⟩ := two H1 (fun _ _ h => h) u1 hu1 u2 hu2
    exact ⟨_, rfl, _, _, rfl, rfl, (by show (0 : Int) < 2; decide), u2, _, _, v, rfl, rfl, SqL.of upd_same, hv, hq⟩
  · have c1 : ¬ decide (ch < 2) = true := c1
    refine ⟨_, rfl, Nat.zero_le _, fun u0 hu0 => ?_⟩
    have s2 := same_new hu0 (.tup [])
    refine ⟨dI ps, dI [], rx.mono (t1.trans s2.tups), Rp.ofI (SqT.of upd_same), can_I _, can_I _, by rw [dep_I]; decide, _, rfl, ?_⟩
    have hu0' : upd H1 u0 (.tup []) u0 = some (.tup []) := upd_same
    generalize upd H1 u0 (.tup []) = H2 at s2 hu0' ⊢
    have E2 := E1.same s2
    have qa2 := (t1.trans s2.tups).sq qa
    rw [eqv_I]
    refine ite2 (fun c2 => ?_) (fun c2 => ?_)
    · refine ⟨Nat.zero_le _, fun u1 hu1 => ?_⟩
      refine ⟨_, rfl, (by show 2 ≤ sizeLine; decide), fun u2 hu2 => ?_⟩
      obtain ⟨v, hv, hq⟩ := two H2 s2 u1 hu1 u2 hu2
      exact ⟨_, rfl, _, _, rfl, rfl, (by show (0 : Int) < 2; decide), u2, _, _, v, rfl, rfl, SqL.of upd_same, hv, hq⟩
    · have c2 : ¬ decide (ps = []) = true := c2
      have hne : ps.length ≠ 0 := fun z => c2 (decide_eq_true (List.length_eq_zero_iff.mp z))
      refine ⟨_, rfl, rfl, _, rfl, ?_⟩
      refine ite2 (fun c3 => ?_) (fun c3 => ?_)
      · refine ⟨_, rfl, _, rfl, a, _, rfl, .inr qa2, l, _, rfl, E2.pot, by rw [lp]; omega, by rw [lp]; omega, fun at' g2 q2 c2 at0 at1 g20 => ?_⟩
        have E3 := E2.trans (Ex.pick (q := q2) (c := c2) g20)
        have qa3 := (Ex.tups E2.pot (Ex.pick (q := q2) (c := c2) g20)).sq qa2
        generalize upd H2 l (.lst [.int g2, .int q2, .int c2]) = H3 at E3 qa3 ⊢
        obtain ⟨k, rfl⟩ := Int.eq_ofNat_of_zero_le at0
        rw [lp] at at1
        have hk : k < ps.length := by omega
        refine ⟨_, rfl, _, rfl, _, rfl, a, _, rfl, qa3, ?_, fun p1 hp1 => ?_⟩
        · rw [lp, HT.sIx_nat]; omega
        rw [cut_lo ps k (by omega)]
        have s4 := same_new hp1 (.tup ((ps.take k).map V.int))
        have hp1' : upd H3 p1 (.tup ((ps.take k).map V.int)) p1 = some (.tup ((ps.take k).map V.int)) := upd_same
        generalize upd H3 p1 (.tup ((ps.take k).map V.int)) = H4 at s4 hp1' ⊢
        refine ⟨_, rfl, _, rfl, _, _, rfl, rfl, _, rfl, a, _, rfl, s4.tups.sq qa3, ?_, fun p2 hp2 => ?_⟩
        · rw [lp, show ((k : Int) + 1) = ((k + 1 : Nat) : Int) by omega, HT.sIx_nat]; omega
        rw [show ((k : Int) + 1) = ((k + 1 : Nat) : Int) by omega, cut_hi ps (k + 1) (by omega)]
        have s5 := same_new hp2 (.tup ((ps.drop (k + 1)).map V.int))
        refine ⟨p1, p2, _, _, rfl, rfl, SqT.of (s5 _ _ hp1'), SqT.of upd_same, ?_, fun r H' s6 hr' => ?_⟩
        · rw [List.length_map, List.length_map, List.length_take, List.length_drop]
          exact Nat.le_of_lt (small1000 (by omega))
        refine q _ (ps.take k ++ ps.drop (k + 1)) _ ((E3.same s4).same (s5.trans s6)) (Rp.ofI (by rw [List.map_append]; exact hr')) ?_
        have := List.Sublist.append (List.Sublist.refl (ps.take k)) (List.drop_sublist_drop_left ps (show k ≤ k + 1 by omega))
        rw [List.take_append_drop] at this
        exact this
      · have c3 : ¬ decide (V.int ch = V.int 2) = true := c3
        have ch3 : 3 ≤ ch := by
          have h1 : ¬ ch < 2 := fun z => c1 (decide_eq_true z)
          have h2 : ¬ ch = 2 := fun z => c3 (decide_eq_true (by rw [z]))
          omega
        refine ⟨_, rfl, a, rfl, ⟨_, qa2⟩, fun D hD z => ?_⟩
        have nD : D ≠ l := by obtain ⟨_, _, _, z, _⟩ := E2.pot; exact (ne_of_none z hD).symm
        refine loop_tup (xs := ps.map V.int) (fun i τ H' => Ex l H2 H' ∧ (∃ ss : List Int, H' D = some (.lst (ss.map V.int)) ∧ ss.Sublist (ps.take i) ∧ ss.length ≤ i) ∧ ∃ v0, τ = [v0, some (.ref l), some (.int ch)]) ⟨Ex.of E2.pot (same_new hD _), ⟨[], upd_same, List.nil_sublist _, Nat.le_refl _⟩, _, rfl⟩ (fun i τ H' _ ⟨e', _⟩ => (Ex.tups E2.pot e').sq qa2) ?_ ?_
        · rintro i y τ Ha hy ⟨Ea, ⟨ss, hDa, sub, lss⟩, v0, rfl⟩
          rw [List.getElem?_map] at hy
          obtain ⟨b, hb, rfl⟩ := Option.map_eq_some_iff.mp hy
          have hi : i < ps.length := (List.getElem?_eq_some_iff.mp hb).1
          refine ⟨_, rfl, _, rfl, _, _, rfl, rfl, l, ch - 1, rfl, Ea.pot, by omega, by omega, fun r g q' c r0 r1 g0 => ?_⟩
          have Ec := Ea.trans (Ex.pick (q := q') (c := c) g0)
          have hDc : upd Ha l (.lst [.int g, .int q', .int c]) D = some (.lst (ss.map V.int)) := by rw [upd_ne nD]; exact hDa
          generalize upd Ha l (.lst [.int g, .int q', .int c]) = Hc at Ec hDc ⊢
          refine ⟨rfl, _, rfl, ?_⟩
          refine ite2 (fun c3 => ?_) (fun c3 => ?_)
          · refine ⟨_, rfl, _, hDc, ?_, ⟨fun e o ne z => ?_, ?_⟩, ⟨ss ++ [b], ?_, ?_, ?_⟩, _, rfl⟩
            · rw [List.length_map]; exact small1000 (by omega)
            · rw [upd_ne (ne_of_none z hD)]; exact Ec.keep _ _ ne z
            · obtain ⟨g', q'', c', hp, hg⟩ := Ec.pot
              exact ⟨g', q'', c', by rw [upd_ne nD.symm]; exact hp, hg⟩
            · rw [upd_same, List.map_append]; rfl
            · rw [take_snoc hb]; exact List.Sublist.append sub (List.Sublist.refl _)
            · rw [List.length_append, List.length_singleton]; omega
          · refine ⟨Ec, ⟨ss, hDc, ?_, by omega⟩, _, rfl⟩
            rw [take_snoc hb]; exact List.Sublist.trans sub (List.sublist_append_left _ _)
        · rintro τ Ha ⟨Ea, ⟨ss, hDa, sub, lss⟩, _⟩
          rw [lp, List.take_length] at sub
          refine ⟨D, _, rfl, .inl ⟨SqL.of hDa, fun u hu => ?_⟩⟩
          exact q _ ss _ ((E2.trans Ea).same (same_new hu _)) (Rp.ofI (SqT.of upd_same)) sub
end
end K4
end

section
set_option Elab.async false
set_option linter.all false
set_option maxRecDepth 100000
set_option maxHeartbeats 1000000
namespace K4
open PySem L2 PyProof.Rows
/-- a table from places to numbers -/
def dct (w : List Int) (dd : Int → Nat) : List (Key × V) := w.map fun x => ((.inl x : Key), V.int (dd x : Nat))
theorem dct_val (dd : Int → Nat) (x : Int) : ∀ w : List Int, valV (dct w dd) (.inl x) = if x ∈ w then some (V.int (dd x : Nat)) else none
  | [] => rfl
  | y :: w => by
    show valV (((.inl y : Key), V.int (dd y : Nat)) :: dct w dd) (.inl x) = _
    by_cases e : y = x
    · subst e
      rw [valV_pos rfl, if_pos List.mem_cons_self]
    · rw [valV_neg (fun z => e (Sum.inl.inj z)), dct_val dd x w]
      by_cases h : x ∈ w
      · rw [if_pos h, if_pos (List.mem_cons_of_mem _ h)]
      · rw [if_neg h, if_neg (fun z => by rcases List.mem_cons.mp z with z | z; exact e z.symm; exact h z)]
theorem dct_put {w : List Int} {dd : Int → Nat} {x : Int} {v : V} (h : x ∉ w) : putK (dct w dd) (.inl x) v = dct w dd ++ [(.inl x, v)] := putK_new v (by rw [dct_val, if_neg h])
theorem dct_congr {w : List Int} {dd dd' : Int → Nat} (h : ∀ x ∈ w, dd x = dd' x) : dct w dd = dct w dd' := List.map_congr_left fun x hx => by rw [h x hx]
theorem dct_len (w : List Int) (dd : Int → Nat) : (dct w dd).length = w.length := List.length_map _
open Bf
section
variable {P : Program} {w : World} {K : PySem.W.Frag} {mg : Str → Option Value} {base : Heap} {f : Addr} {fd : FuncData}
structure Nbs (K : PySem.W.Frag) (H : Hp) (b : Addr) (kb : List (Key × V)) (ps : List Int) (nbr : Int → List Int) : Prop where
  at_ : H b = some (.dK kb)
  val : ∀ p ∈ ps, ∃ v, valV kb (.inl p) = some v ∧ Rp K H v (dI (nbr p))
theorem Nbs.same {H H' : Hp} {b : Addr} {kb : List (Key × V)} {ps : List Int} {nbr : Int → List Int} (N : Nbs K H b kb ps nbr) (s : Same H H') : Nbs K H' b kb ps nbr :=
  ⟨s _ _ N.at_, fun p hp => by obtain ⟨v, h1, h2⟩ := N.val p hp; exact ⟨v, h1, h2.mono s.tups⟩⟩
def spSteps (K : PySem.W.Frag) : Sp := fun vs H Q _ => ∃ (b : Addr) (y : V) (g : Int) (kb : List (Key × V)) (ps S : List Int) (nbr : Int → List Int), vs = [.ref b, y, .int g] ∧ Nbs K H b kb ps nbr ∧ Rp K H y (dI S) ∧ (∀ p ∈ S, p ∈ ps) ∧ g ∈ ps ∧ (∀ p, (nbr p).Nodup) ∧ S.length ≤ 100 ∧
  ∀ D w dd H', Same H H' → H' D = some (.dK (dct w dd)) → Bfs nbr S g w dd w.length → Q (.ref D) H'
theorem ok_steps (F : Fun K "steps_from" "steps_from" s_steps_from f fd) (T : Txt mg) : FnOk P w K mg base CX0 1 f fd ["beside", "some", "start"] (spSteps K) := by
  refine F.ok sc_steps_from (fun vs H Q E h => ?_) (fun cdv A outer s H vs Q E hr h => ?_)
  · obtain ⟨b, y, g, kb, ps, S, nbr, rfl, _⟩ := h; rfl
  obtain ⟨b, y, g, kb, ps, S, nbr, rfl, N, ry, sub, hg, nd, lS, q⟩ := h
  have hu := hr.units
  have hu : (A.deeper (envOfC "steps_from" (defScope s_steps_from) s.heap.objs.size f cdv)).units + 1 < cLine := by omega
  refine ⟨_, (pss_cons (ps_set (i := 3) sc_steps_from.nd rfl (Or.inl rfl) (pe_disp (pps_cons (pv 2) pe_int pps_nil) rfl rfl (List.cons_ne_nil _ _) (by show 1 ≤ 15; decide)))
    (pss_cons (ps_set (i := 4) sc_steps_from.nd rfl (Or.inl rfl) (pe_lst (pa_cons (pv 2) pa_nil)))
    (pss_cons (ps_set (i := 5) sc_steps_from.nd rfl (Or.inl rfl) pe_int)
    (pss_cons (ps_while PassesOwn.never (pt_cmpR op_lt (pv 5) (pe_callB call_len_seq rfl T.z_len (by decide +kernel) (pa_cons (pv 4) pa_nil)) (nomark _)) (pss_cons (ps_set (i := 6) sc_steps_from.nd rfl (Or.inl rfl) (pe_ix ix_list (pv 4) (pv 5) (fun _ _ => rfl)))
    (pss_cons (ps_aug (i := 5) sc_steps_from.nd rfl (Or.inl rfl) pe_int ip_add)
    (pss_one (ps_for PassesOwn.never rfl (pi_tup (pe_dget hu (pv 0) (pv 6) (fun _ _ => rfl))) (pg_name (i := 7) sc_steps_from.nd rfl (Or.inl rfl)) (pss_one (ps_if (PW.pt (pw_and (pt_cmpR op_in_seq (pv 7) (pv 1) rfl) (pw_and1 (pt_cmp (pc_dnotin hu (pv 7) (pv 3)))))) (pss_cons (ps_dput hu (pv 3) (pv 7) (pe_op op_add (pe_dget hu (pv 3) (pv 6) (fun _ _ => rfl)) pe_int) rfl)
    (pss_one (ps_expr (pe_bm PySem.F.plainAttrs_list PySem.F.slot_list_append PySem.F.type_list_append mt_append (pv 4) (pa_cons (pv 7) pa_nil))))) pss_nil)))))))
    (pss_one (ps_ret (pv 3))))))), ?_⟩
  obtain ⟨c, rfl, qc⟩ := ry.toI
  intro D hD
  refine ⟨_, rfl, upd_same, [(.inl g, .int 0)], rfl, by show 1 ≤ 15; decide, ?_⟩
  refine ⟨_, rfl, by show 1 ≤ sizeLine; decide, fun Wt hW => ?_⟩
  have hW' : upd (upd (upd H D (.dK [])) D (.dK [(.inl g, .int 0)])) Wt (.lst [V.int g]) D = some (.dK (dct [g] fun _ => 0)) := by
    rw [upd_ne (ne_of_none upd_same hW), upd_same]; rfl
  have sW : Same H (upd (upd (upd H D (.dK [])) D (.dK [(.inl g, .int 0)])) Wt (.lst [V.int g])) := fun e o z => by
    rw [upd_ne (ne_of_none (by rw [upd_ne (ne_of_none z hD), upd_ne (ne_of_none z hD)]; exact z) hW), upd_ne (ne_of_none z hD), upd_ne (ne_of_none z hD)]; exact z
  have hWt : H Wt = none := by
    cases e : H Wt with
    | none => rfl
    | some o =>
      have ne : Wt ≠ D := ne_of_none e hD
      have hW2 : upd (upd H D (.dK [])) D (.dK [(.inl g, .int 0)]) Wt = none := hW
      rw [upd_ne ne, upd_ne ne, e] at hW2
      exact hW2
  have DW : D ≠ Wt := ne_of_none upd_same hW
  refine ⟨fun m σ H' => Same H H' ∧ ∃ w dd at', H' D = some (.dK (dct w dd)) ∧ H' Wt = some (.lst (w.map V.int)) ∧ Bfs nbr S g w dd at' ∧ at' ≤ w.length ∧ m = S.length + 1 - at' ∧ ∃ v6 v7, σ = [some (.ref b), some (.ref c), some (.int g), some (.ref D), some (.ref Wt), some (.int (at' : Nat)), v6, v7], ⟨_, sW, [g], fun _ => 0, 0, hW', upd_same, Bfs.zero, Nat.zero_le _, rfl, _, _, rfl⟩, ?_⟩
  rintro m σ H1 ⟨s1, w, dd, at', hD1, hW1, B, lat, rfl, v6, v7, rfl⟩
  have lw := B.len
  refine ⟨_, rfl, _, rfl, Wt, _, rfl, .inl (SqL.of hW1), _, _, rfl, rfl, _, rfl, ?_⟩
  refine ite2 (fun c1 => ?_) (fun c1 => ?_)
  · have c1 : decide (((at' : Nat) : Int) < (((w.map V.int).length : Nat) : Int)) = true := c1
    have hlt : at' < w.length := by have := of_decide_eq_true c1; rw [List.length_map] at this; omega
    refine ⟨fun σ' H' => ∃ m', m' < S.length + 1 - at' ∧ (Same H H' ∧ ∃ w dd at', H' D = some (.dK (dct w dd)) ∧ H' Wt = some (.lst (w.map V.int)) ∧ Bfs nbr S g w dd at' ∧ at' ≤ w.length ∧ m' = S.length + 1 - at' ∧ ∃ v6 v7, σ' = [some (.ref b), some (.ref c), some (.int g), some (.ref D), some (.ref Wt), some (.int (at' : Nat)), v6, v7]), fun _ _ h => h, ?_⟩
    have hp : w[at']? = some w[at'] := List.getElem?_eq_getElem hlt
    generalize w[at'] = p at hp
    have pw : p ∈ w := List.mem_of_getElem? hp
    have pps : p ∈ ps := by
      rcases List.mem_cons.mp (B.sub p pw) with rfl | h
      · exact hg
      · exact sub p h
    refine ⟨_, rfl, _, rfl, Wt, _, (at' : Nat), .int p, rfl, rfl, SqL.of hW1, atI_nat (by rw [List.getElem?_map, hp]; rfl), ?_⟩
    refine ⟨_, rfl, _, _, rfl, rfl, ?_⟩
    obtain ⟨v, hv, rv⟩ := (N.same s1).val p pps
    obtain ⟨a', rfl, qa'⟩ := rv.toI
    refine ⟨_, rfl, _, rfl, b, _, rfl, dgI (N.same s1).at_ hv, a', rfl, ⟨_, qa'⟩, ?_⟩
    have old : ∀ x ∈ w, dd x = (if x ∈ w then dd x else dd p + 1) := fun x hx => (if_pos hx).symm
    refine for_tup (xs := (nbr p).map V.int) (fun k σ H' => Same H H' ∧ Tups H1 H' ∧ H' D = some (.dK (dct (w ++ ((nbr p).take k).filter fun o => decide (o ∈ S) && !decide (o ∈ w)) fun x => if x ∈ w then dd x else dd p + 1)) ∧ H' Wt = some (.lst ((w ++ ((nbr p).take k).filter fun o => decide (o ∈ S) && !decide (o ∈ w)).map V.int)) ∧ ∃ v7, σ = [some (.ref b), some (.ref c), some (.int g), some (.ref D), some (.ref Wt), some (.int ((at' : Nat) + 1)), some (.int p), v7])
      ⟨s1, Tups.refl, ?_, ?_, _, rfl⟩ (fun k σ H' _ ⟨_, t', _⟩ => t'.sq qa') ?_ ?_
    · rw [hD1, dct_congr old]; show _ = some (HO.dK (dct (w ++ []) _)); rw [List.append_nil]
    · rw [hW1]; show _ = some (HO.lst ((w ++ []).map V.int)); rw [List.append_nil]
    · rintro k y σ H2 hy ⟨s2, t2, hD2, hW2, v7, rfl⟩
      rw [List.getElem?_map] at hy
      obtain ⟨o, ho, rfl⟩ := Option.map_eq_some_iff.mp hy
      have nk := PySem.take_succ_filter (fun o => decide (o ∈ S) && !decide (o ∈ w)) (nbr p) k o ho
      generalize hnw : ((nbr p).take k).filter (fun o => decide (o ∈ S) && !decide (o ∈ w)) = nw at hD2 hW2 nk
      have onw : o ∉ nw := by
        rw [← hnw]
        intro z
        have z1 := (List.mem_filter.mp z).1
        obtain ⟨j, hj⟩ := List.mem_iff_getElem?.mp z1
        rw [List.getElem?_take] at hj
        split at hj
        · rename_i hjk
          obtain ⟨h1, e1⟩ := List.getElem?_eq_some_iff.mp hj
          obtain ⟨h2, e2⟩ := List.getElem?_eq_some_iff.mp ho
          have := (List.pairwise_iff_getElem.mp (nd p)) j k h1 h2 hjk
          exact this (e1.trans e2.symm)
        · cases hj
      have lnw : (w ++ nw).length ≤ 1000 := by
        have h1 := (B.step hp (nd p)).len
        have h2 : nw.length ≤ (Bf.new nbr S w p).length := by
          rw [← hnw]
          exact (List.Sublist.filter _ (List.take_sublist k (nbr p))).length_le
        rw [List.length_append] at h1 ⊢
        omega
      refine ⟨_, rfl, _, rfl, c, _, rfl, .inr (s2.tups.sq qc), rfl, flat_ints _, _, rfl, ?_⟩
      rw [inV_ints]
      refine ite2 (fun c2 => ?_) (fun c2 => ?_)
      · have c2 : decide (o ∈ S) = true := c2
        refine ⟨_, rfl, _, rfl, D, _, rfl, DGet.k (k := .inl o) hD2, _, rfl, ?_⟩
        rw [dct_val]
        refine ite2 (fun c3 => ?_) (fun c3 => ?_)
        · have oww : o ∉ w ++ nw := by
            intro z
            rw [if_pos z] at c3
            exact Bool.false_ne_true c3
          have ow : o ∉ w := fun z => oww (List.mem_append_left _ z)
          refine ⟨_, rfl, _, rfl, D, V.int (dd p : Nat), rfl, dgI hD2 (by rw [dct_val, if_pos (List.mem_append_left _ pw), if_pos pw]), _, _, rfl, rfl, _, rfl, _, rfl, D, _, rfl, DPut.k (k := .inl o) hD2 (by rw [dct_len]; exact small1000 lnw), ?_⟩
          rw [dct_put oww]
          have hW3 : upd H2 D (.dK (dct (w ++ nw) (fun x => if x ∈ w then dd x else dd p + 1) ++ [(.inl o, V.int ((dd p : Nat) + 1))])) Wt = some (.lst ((w ++ nw).map V.int)) := by rw [upd_ne DW.symm]; exact hW2
          refine ⟨_, rfl, tyL hW3, _, rfl, Wt, _, _, rfl, rfl, hW3, by rw [List.length_map]; exact small1000 lnw, ?_⟩
          rw [nk, if_pos (by rw [c2, decide_eq_false ow]; rfl)]
          refine ⟨fun e x z => ?_, t2.trans ((Tups.dk hD2).trans (Tups.lst hW3)), ?_, ?_, _, rfl⟩
          · rw [upd_ne (ne_of_none z hWt), upd_ne (ne_of_none z hD)]; exact s2 _ _ z
          · rw [upd_ne DW, upd_same, ← List.append_assoc]
            unfold dct
            rw [List.map_append (l₁ := w ++ nw)]
            show some (HO.dK (_ ++ [((.inl o : Key), V.int ((dd p : Nat) + 1))])) = some (HO.dK (_ ++ [((.inl o : Key), V.int (((if o ∈ w then dd o else dd p + 1 : Nat)) : Int))]))
            rw [if_neg ow]
            rfl
          · rw [upd_same, ← List.append_assoc, List.map_append (l₁ := w ++ nw)]; rfl
        · have oww : o ∈ w ++ nw := by
            by_cases z : o ∈ w ++ nw
            · exact z
            · rw [if_neg z] at c3; exact absurd rfl c3
          have ow : o ∈ w := by
            rcases List.mem_append.mp oww with h | h
            · exact h
            · exact absurd h onw
          rw [nk, if_neg (by rw [decide_eq_true ow, Bool.not_true, Bool.and_false]; exact Bool.false_ne_true), List.append_nil]
          exact ⟨s2, t2, hD2, hW2, _, rfl⟩
      · have c2 : ¬ decide (o ∈ S) = true := c2
        rw [Bool.not_eq_true] at c2
        rw [nk, if_neg (by rw [c2, Bool.false_and]; exact Bool.false_ne_true), List.append_nil]
        exact ite_f rfl ⟨s2, t2, hD2, hW2, _, rfl⟩
    · rintro σ H2 ⟨s2, t2, hD2, hW2, v7, rfl⟩
      rw [List.length_map, List.take_length] at hD2 hW2
      have B2 := B.step hp (nd p)
      refine ⟨S.length + 1 - (at' + 1), by omega, s2, _, _, at' + 1, hD2, hW2, B2, ?_, rfl, _, _, rfl⟩
      rw [List.length_append]; omega
  · have c1 : ¬ decide (((at' : Nat) : Int) < (((w.map V.int).length : Nat) : Int)) = true := c1
    have e : at' = w.length := by
      have : ¬ ((at' : Nat) : Int) < (((w.map V.int).length : Nat) : Int) := fun z => c1 (decide_eq_true z)
      rw [List.length_map] at this
      omega
    subst e
    exact ⟨_, rfl, q D w dd H1 s1 hD1 B⟩
end
end K4
end

section
set_option Elab.async false
set_option linter.all false
set_option maxRecDepth 100000
set_option maxHeartbeats 1000000
namespace K4
open PySem L2 PyProof.Rows
open Bf
theorem nb_mem {ps : List Int} {ts : List (Int × Int)} {p o : Int} : o ∈ nb ps ts p ↔ o ∈ ps ∧ ((p, o) ∈ ts ∨ (o, p) ∈ ts) := by
  unfold nb
  rw [List.mem_filter, Bool.or_eq_true, decide_eq_true_eq, decide_eq_true_eq]
theorem nb_iff {ps : List Int} {ts : List (Int × Int)} (W : WebOk ps ts) {p o : Int} : o ∈ nb ps ts p ↔ ((p, o) ∈ ts ∨ (o, p) ∈ ts) := by
  rw [nb_mem]
  refine ⟨fun h => h.2, fun h => ⟨?_, h⟩⟩
  rcases h with h | h
  · exact (W.ends _ h).2
  · exact (W.ends _ h).1
theorem nb_sym {ps : List Int} {ts : List (Int × Int)} (W : WebOk ps ts) (p q : Int) (h : p ∈ nb ps ts q) : q ∈ nb ps ts p := by
  rw [nb_iff W] at h ⊢
  exact h.symm
theorem nb_nodup {ps : List Int} {ts : List (Int × Int)} (W : WebOk ps ts) (p : Int) : (nb ps ts p).Nodup := rise_nodup (W.rise.filter _)
theorem nb_len {ps : List Int} {ts : List (Int × Int)} (p : Int) : (nb ps ts p).length ≤ ps.length := List.length_filter_le _ _
section
variable {P : Program} {w : World} {K : PySem.W.Frag} {mg : Str → Option Value} {base : Heap} {f : Addr} {fd : FuncData}
def Told (K : PySem.W.Frag) (nbr : Int → List Int) (S : List Int) (g one : Int) (v : V) (H : Hp) : Prop := (v = .non ∧ ∀ n, ¬ R nbr S g n one) ∨ ∃ n path, Way nbr S g n one path ∧ Rp K H v (dI path)
def spWay (K : PySem.W.Frag) : Sp := fun vs H Q _ => ∃ (x y : V) (one g : Int) (ps S : List Int) (ts : List (Int × Int)), vs = [x, y, .int one, .int g] ∧ Rp K H x (dW ps ts) ∧ Rp K H y (dI S) ∧ WebOk ps ts ∧ (∀ p ∈ S, p ∈ ps) ∧ S.Nodup ∧ S.length ≤ 24 ∧ one ∈ S ∧ g ∈ S ∧
  ∀ v H', Same H H' → Told K (nb ps ts) S g one v H' → Q v H'
theorem ok_way (F : Fun K "way" "way" s_way f fd) (T : Txt mg) (C_nears : Call1 P w K mg base "nears" ["web"] 1 (spNears K)) (C_steps_from : Call1 P w K mg base "steps_from" ["beside", "some", "start"] 1 (spSteps K)) : FnOk P w K mg base CX0 2 f fd ["web", "some", "one", "other"] (spWay K) := by
  refine F.ok sc_way (fun vs H Q E h => ?_) (fun cdv A outer s H vs Q E hr h => ?_)
  · obtain ⟨x, y, one, g, ps, S, ts, rfl, _⟩ := h; rfl
  obtain ⟨x, y, one, g, ps, S, ts, rfl, rx, ry, W, sub, ndS, lS, hone, hg, q⟩ := h
  have hu := hr.units
  have hu : (A.deeper (envOfC "way" (defScope s_way) s.heap.objs.size f cdv)).units + 1 < cLine := by omega
  refine ⟨_, (pss_cons (ps_set (i := 4) sc_way.nd rfl (Or.inl rfl) (pe_fn C_nears hr rfl (pa_cons (pv 0) pa_nil)))
    (pss_cons (ps_set (i := 5) sc_way.nd rfl (Or.inr rfl) (pe_fn C_steps_from hr rfl (pa_cons (pv 4) (pa_cons (pv 1) (pa_cons (pv 3) pa_nil)))))
    (pss_cons (ps_if (pt_cmp (pc_dnotin hu (pv 2) (pv 5))) (pss_one (ps_ret pe_non)) pss_nil)
    (pss_cons (ps_set (i := 6) sc_way.nd rfl (Or.inl rfl) (pe_lst (pa_cons (pv 2) pa_nil)))
    (pss_cons (ps_while PassesOwn.never (pt_cmpR op_ne (pe_ix ix_list (pv 6) (pe_un un_neg pe_int) (fun _ _ => rfl)) (pv 3) (nomark _)) (pss_cons (ps_set (i := 7) sc_way.nd rfl (Or.inr rfl) (pe_op op_sub (pe_dget hu (pv 5) (pe_ix ix_list (pv 6) (pe_un un_neg pe_int) (fun _ _ => rfl)) (fun _ _ => rfl)) pe_int))
    (pss_one (ps_expr (pe_bm PySem.F.plainAttrs_list PySem.F.slot_list_append PySem.F.type_list_append mt_append (pv 6) (pa_cons (pe_callB (call_min_ints rfl) rfl T.z_min (by decide +kernel) (pa_cons (pe_lc rfl (CompSc.of (sc0 := defScope s_way) (N0 := ["web", "some", "one", "other", "beside", "steps", "told", "left"]) (N := ["place", "steps", "left"]) (fr := [none, some 5, some 7]) rfl rfl (by decide +kernel)) (pi_tup (pe_dget hu (pv 4) (pe_ix ix_list (pv 6) (pe_un un_neg pe_int) (fun _ _ => rfl)) (fun _ _ => rfl))) (fun _ => ⟨(pg_name (i := 0) (show (["place", "steps", "left"] : List Str).Nodup by decide +kernel) rfl (Or.inl rfl)), (pf_one (PW.pt (pw_and (pt_cmp (pc_din hu (pv 0) (pv 1))) (pw_and1 (pt_cmpR op_eq (pe_dget hu (pv 1) (pv 0) (fun _ _ => rfl)) (pv 2) (nomark _)))))), (pv 0)⟩)) pa_nil)) pa_nil))))))
    (pss_one (ps_ret (pe_callTy call_tuple_of rfl T.z_tuple (by decide +kernel) (pa_cons (pv 6) pa_nil))))))))), ?_⟩
  refine ⟨_, rfl, x, ps, ts, rfl, rx, W, fun B kb H1 s1 hB hv => ?_⟩
  refine ⟨_, rfl, _, rfl, _, rfl, B, y, g, kb, ps, S, nb ps ts, rfl, ⟨hB, hv⟩, ry.mono s1.tups, sub, sub g hg, nb_nodup W, by omega, fun D' w' dd H2 s2 hD BB => ?_⟩
  have N2 : Nbs K H2 B kb ps (nb ps ts) := Nbs.same ⟨hB, hv⟩ s2
  have s12 := s1.trans s2
  have done := BB.done (Nat.le_refl _)
  refine ⟨_, rfl, _, rfl, D', _, rfl, DGet.k (k := .inl one) hD, _, rfl, ?_⟩
  rw [dct_val]
  refine ite2 (fun c1 => ?_) (fun c1 => ?_)
  · have no : one ∉ w' := by
      intro z
      rw [if_pos z] at c1
      exact Bool.false_ne_true c1
    exact q _ _ s12 (.inl ⟨rfl, fun n z => no (done n one z)⟩)
  have yes : one ∈ w' := by
    by_cases z : one ∈ w'
    · exact z
    · rw [if_neg z] at c1; exact absurd rfl c1
  refine ⟨_, rfl, by show 1 ≤ sizeLine; decide, fun L hL => ?_⟩
  refine ⟨fun m σ H' => Same H2 H' ∧ ∃ pre p, H' L = some (.lst ((pre ++ [p]).map V.int)) ∧ D (nb ps ts) S g m p ∧ (∀ rest, Way (nb ps ts) S g m p rest → ∃ n, Way (nb ps ts) S g n one (pre ++ rest)) ∧ pre.length + m ≤ 200 ∧ p ∈ ps ∧ ∃ v7, σ = [some x, some y, some (.int one), some (.int g), some (.ref B), some (.ref D'), some (.ref L), v7],
    ⟨dd one, same_new hL _, [], one, upd_same, BB.ex one yes, fun rest h => ⟨_, h⟩, ?_, sub one hone, _, rfl⟩, ?_⟩
  · have := (BB.ex one yes).few hg
    show 0 + _ ≤ 200
    omega
  rintro m σ H3 ⟨s3, pre, p, hL3, dp, build, lpre, hp, v7, rfl⟩
  have atL : atI ((pre ++ [p]).map V.int) (-1) = some (V.int p) := by rw [List.map_append]; exact atI_last _ _
  have hD3 := s3 _ _ hD
  have N3 := N2.same s3
  refine ⟨_, rfl, _, rfl, L, _, _, _, rfl, rfl, SqL.of hL3, atL, _, rfl, rfl, _, rfl, ?_⟩
  refine ite2 (fun c2 => ?_) (fun c2 => ?_)
  · have c2 : (!decide (V.int p = V.int g)) = true := c2
    have pg : p ≠ g := by
      intro e
      rw [e, decide_eq_true rfl] at c2
      exact Bool.false_ne_true c2
    obtain ⟨n, rfl⟩ : ∃ n, m = n + 1 := by
      cases m with
      | zero => exact absurd dp.1 pg
      | succ n => exact ⟨n, rfl⟩
    refine ⟨fun σ' H' => ∃ m', m' < n + 1 ∧ (Same H2 H' ∧ ∃ pre p, H' L = some (.lst ((pre ++ [p]).map V.int)) ∧ D (nb ps ts) S g m' p ∧ (∀ rest, Way (nb ps ts) S g m' p rest → ∃ n, Way (nb ps ts) S g n one (pre ++ rest)) ∧ pre.length + m' ≤ 200 ∧ p ∈ ps ∧ ∃ v7, σ' = [some x, some y, some (.int one), some (.int g), some (.ref B), some (.ref D'), some (.ref L), v7]), fun _ _ h => h, ?_⟩
    have pw : p ∈ w' := done _ _ dp.1
    have ddp : dd p = n + 1 := (BB.ex p pw).uniq dp
    refine ⟨_, rfl, _, rfl, _, rfl, L, _, _, _, rfl, rfl, SqL.of hL3, atL, D', V.int (dd p : Nat), rfl, dgI hD3 (by rw [dct_val, if_pos pw]), _, _, rfl, rfl, ?_⟩
    obtain ⟨vb, hvb, rvb⟩ := N3.val p hp
    obtain ⟨ab, rfl, qab⟩ := rvb.toI
    refine ⟨_, rfl, tyL hL3, ?_⟩
    refine ⟨_, rfl, _, rfl, _, rfl, L, _, _, _, rfl, rfl, SqL.of hL3, atL, B, _, rfl, dgI N3.at_ hvb, ab, rfl, ⟨_, qab⟩, fun C hC z => ?_⟩
    refine loop_tup (xs := (nb ps ts p).map V.int) (fun k τ H' => Same H3 H' ∧ H' C = some (.lst ((((nb ps ts p).take k).filter fun o => decide (o ∈ w') && decide (dd o = n)).map V.int)) ∧ ∃ v0, τ = [v0, some (.ref D'), some (.int ((dd p : Nat) - 1))]) ⟨same_new hC _, upd_same, _, rfl⟩ (fun k τ H' _ ⟨s', _⟩ => s'.tups.sq qab) ?_ ?_
    · rintro k y' τ H4 hy ⟨s4, hC4, v0, rfl⟩
      rw [List.getElem?_map] at hy
      obtain ⟨o, ho, rfl⟩ := Option.map_eq_some_iff.mp hy
      have nk := PySem.take_succ_filter (fun o => decide (o ∈ w') && decide (dd o = n)) (nb ps ts p) k o ho
      have hD4 := s4 _ _ hD3
      have sm : ((((nb ps ts p).take k).filter fun o => decide (o ∈ w') && decide (dd o = n)).map V.int).length < sizeLine := by
        rw [List.length_map]
        have h1 : (((nb ps ts p).take k).filter fun o => decide (o ∈ w') && decide (dd o = n)).length ≤ ((nb ps ts p).take k).length := List.length_filter_le _ _
        have h2 : ((nb ps ts p).take k).length ≤ (nb ps ts p).length := by rw [List.length_take]; omega
        have h3 := nb_len (ps := ps) (ts := ts) p
        have := W.few
        exact small1000 (by omega)
      refine ⟨_, rfl, _, rfl, D', _, rfl, DGet.k (k := .inl o) hD4, _, rfl, ?_⟩
      rw [dct_val]
      by_cases ow : o ∈ w'
      · rw [if_pos ow]
        refine ⟨_, rfl, _, rfl, D', V.int (dd o : Nat), rfl, dgI hD4 (by rw [dct_val, if_pos ow]), _, rfl, rfl, _, rfl, ?_⟩
        refine ite2 (fun c3 => ?_) (fun c3 => ?_)
        · have c3 : decide (V.int (dd o : Nat) = V.int ((dd p : Nat) - 1)) = true := c3
          have e : dd o = n := by
            have := V.int.inj (of_decide_eq_true c3)
            omega
          refine ⟨_, rfl, _, hC4, sm, fun e x z => ?_, ?_, _, rfl⟩
          · rw [upd_ne (ne_of_none z hC)]; exact s4 _ _ z
          · rw [upd_same, nk, if_pos (by rw [decide_eq_true ow, decide_eq_true e]; rfl), List.map_append]; rfl
        · have c3 : ¬ decide (V.int (dd o : Nat) = V.int ((dd p : Nat) - 1)) = true := c3
          have e : ¬ dd o = n := fun z => c3 (decide_eq_true (congrArg V.int (by omega)))
          refine ⟨s4, ?_, _, rfl⟩
          rw [hC4, nk, if_neg (by rw [decide_eq_false e, Bool.and_false]; exact Bool.false_ne_true), List.append_nil]
      · rw [if_neg ow]
        refine ⟨s4, ?_, _, rfl⟩
        rw [hC4, nk, if_neg (by rw [decide_eq_false ow, Bool.false_and]; exact Bool.false_ne_true), List.append_nil]
    · rintro τ H4 ⟨s4, hC4, v0, rfl⟩
      rw [List.length_map, List.take_length] at hC4
      have inl : ∀ o, o ∈ (nb ps ts p).filter (fun o => decide (o ∈ w') && decide (dd o = n)) ↔ o ∈ nb ps ts p ∧ D (nb ps ts) S g n o := fun o => by
        rw [List.mem_filter, Bool.and_eq_true, decide_eq_true_eq, decide_eq_true_eq]
        constructor
        · rintro ⟨h1, h2, h3⟩
          exact ⟨h1, h3 ▸ BB.ex o h2⟩
        · rintro ⟨h1, h2⟩
          have ow := done _ _ h2.1
          exact ⟨h1, ow, (BB.ex o ow).uniq h2⟩
      obtain ⟨_, q0, dq0, pq0⟩ := dp.pred
      have h0 : q0 ∈ (nb ps ts p).filter (fun o => decide (o ∈ w') && decide (dd o = n)) := (inl q0).mpr ⟨nb_sym W _ _ pq0, dq0⟩
      refine ⟨C, _, rfl, SqL.of hC4, fun z => by rw [z] at h0; simp at h0, fun M hM least => ?_⟩
      obtain ⟨M1, M2⟩ := (inl M).mp hM
      have hL4 := s4 _ _ hL3
      refine ⟨L, _, _, rfl, rfl, hL4, ?_, ?_⟩
      · rw [List.length_map, List.length_append, List.length_singleton]; exact small1000 (by omega)
      refine ⟨n, by omega, fun e x z => ?_, pre ++ [p], M, ?_, M2, fun rest h => ?_, ?_, (nb_mem.mp M1).1, _, rfl⟩
      · rw [upd_ne (ne_of_none z hL)]; exact s4 _ _ (s3 _ _ z)
      · rw [upd_same, List.map_append (l₂ := [M])]; rfl
      · obtain ⟨n', h'⟩ := build (p :: rest) (Way.step dp M1 M2 (fun q' h1 h2 => least q' ((inl q').mpr ⟨h1, h2⟩)) h)
        exact ⟨n', by rw [List.append_assoc]; exact h'⟩
      · rw [List.length_append, List.length_singleton]; omega
  · have c2 : ¬ (!decide (V.int p = V.int g)) = true := c2
    have pg : p = g := by
      by_cases e : p = g
      · exact e
      · exfalso; apply c2
        rw [decide_eq_false (fun z => e (V.int.inj z))]; rfl
    subst pg
    have e := dp.uniq D.zero
    subst e
    obtain ⟨n', h'⟩ := build [p] Way.stop
    refine ⟨_, rfl, L, _, rfl, .inl ⟨SqL.of hL3, fun u hu' => ?_⟩⟩
    exact q _ _ (s12.trans (s3.trans (same_new hu' _))) (.inr ⟨n', _, h', Rp.ofI (SqT.of upd_same)⟩)
end
end K4
end

section
set_option Elab.async false
set_option linter.all false
set_option maxRecDepth 100000
set_option maxHeartbeats 1000000
namespace K4
open PySem L2 PyProof.Rows
open Bf
theorem loop_list {K : PySem.W.Frag} {a : Addr} {xs : List V} {g : TG} {tt : TT} {tem : TM} {τ : L2.St} {H : Hp} {Q : Hp → Prop} (Pv : Nat → L2.St → Hp → Prop) (h0 : Pv 0 τ H) (hl : ∀ i τ H, i ≤ xs.length → Pv i τ H → SqL K H a xs)
    (hs : ∀ i x τ H, xs[i]? = some x → Pv i τ H → g x τ H fun τ2 H2 => tt τ2 H2 fun b H3 => if b = true then tem τ2 H3 (Pv (i + 1) τ2) else Pv (i + 1) τ2 H3) (hd : ∀ τ H, Pv xs.length τ H → Q H) :
    tLoop g tt tem (Itl K a) τ H Q := by
  refine ⟨fun i m τ H => m = xs.length - i ∧ i ≤ xs.length ∧ Pv i τ H, ⟨xs.length, by simp, Nat.zero_le _, h0⟩, ?_⟩
  rintro i m τ H ⟨rfl, hi, p⟩
  have q := hl i τ H hi p
  by_cases hlt : i < xs.length
  · refine .inr ⟨⟨xs, xs[i], q, by simp [hlt]⟩, Pv (i + 1), fun τ' H' p' => ⟨xs.length - (i + 1), by omega, rfl, hlt, p'⟩, fun x H' y => ?_⟩
    obtain ⟨e, y⟩ := y
    subst e
    exact hs i x τ _ (y xs q) p
  · have e : i = xs.length := by omega
    subst e
    exact .inl ⟨⟨xs, q, Nat.le_refl _⟩, hd τ H p⟩
theorem tied_small {ts : List (Int × Int)} {k : Nat} {f : Int × Int → Bool} {h : Int × Int → Int} (l : ts.length ≤ 60) : ((((ts.take k).filter f).map h).map V.int).length < sizeLine := by
  rw [List.length_map, List.length_map]
  have h1 : ((ts.take k).filter f).length ≤ (ts.take k).length := List.length_filter_le _ _
  have h2 : (ts.take k).length ≤ ts.length := by rw [List.length_take]; omega
  exact small1000 (by omega)
/-- all tied to p, as the law finds them -/
def tds (ts : List (Int × Int)) (p : Int) : List Int := (ts.filter fun t => decide (t.1 = p)).map (·.2) ++ (ts.filter fun t => decide (t.2 = p)).map (·.1)
theorem tds_mem {ts : List (Int × Int)} {p o : Int} : o ∈ tds ts p ↔ ((p, o) ∈ ts ∨ (o, p) ∈ ts) := by
  unfold tds
  rw [List.mem_append, List.mem_map, List.mem_map]
  constructor
  · rintro (⟨⟨a, b⟩, h, rfl⟩ | ⟨⟨a, b⟩, h, rfl⟩)
    · rw [List.mem_filter, decide_eq_true_eq] at h
      obtain ⟨h1, h2⟩ := h
      dsimp only at h2
      subst h2
      exact .inl h1
    · rw [List.mem_filter, decide_eq_true_eq] at h
      obtain ⟨h1, h2⟩ := h
      dsimp only at h2
      subst h2
      exact .inr h1
  · rintro (h | h)
    · exact .inl ⟨(p, o), List.mem_filter.mpr ⟨h, decide_eq_true rfl⟩, rfl⟩
    · exact .inr ⟨(o, p), List.mem_filter.mpr ⟨h, decide_eq_true rfl⟩, rfl⟩
theorem tds_len {ts : List (Int × Int)} {p : Int} (l : ts.length ≤ 60) : (tds ts p).length ≤ 120 := by
  unfold tds
  rw [List.length_append, List.length_map, List.length_map]
  have h1 : (ts.filter fun t => decide (t.1 = p)).length ≤ ts.length := List.length_filter_le _ _
  have h2 : (ts.filter fun t => decide (t.2 = p)).length ≤ ts.length := List.length_filter_le _ _
  omega
def nV (o : Option Nat) : Option V := o.map fun d => V.int (d : Nat)
theorem isD_of {H : Hp} {a : Addr} {kvs : List (Key × V)} (h : H a = some (.dK kvs)) : IsD H a := .inl ⟨kvs, .inl h⟩
section
variable {P : Program} {w : World} {K : PySem.W.Frag} {mg : Str → Option Value} {base : Heap} {f : Addr} {fd : FuncData}
def spFar (K : PySem.W.Frag) : Sp := fun vs H Q _ => ∃ (x y : V) (g : Int) (ps S : List Int) (ts : List (Int × Int)), vs = [x, y, .int g] ∧ Rp K H x (dW ps ts) ∧ Rp K H y (dI S) ∧ WebOk ps ts ∧ (∀ p ∈ S, p ∈ ps) ∧ S.Nodup ∧ S.length ≤ 24 ∧ g ∈ S ∧
  ∀ D kvs val H', Same H H' → H' D = some (.dK kvs) → (∀ p, valV kvs (.inl p) = nV (val p)) → Far (nb ps ts) S g (S.length - 1) val → Q (.ref D) H'
theorem ok_far (F : Fun K "_law_far" "_law_far" s_law_far f fd) (T : Txt mg) : FnOk P w K mg base CX0 1 f fd ["_law_web_here", "_law_some_here", "_law_goal"] (spFar K) := by
  refine F.ok sc_law_far (fun vs H Q E h => ?_) (fun cdv A outer s H vs Q E hr h => ?_)
  · obtain ⟨x, y, g, ps, S, ts, rfl, _⟩ := h; rfl
  obtain ⟨x, y, g, ps, S, ts, rfl, rx, ry, W, sub, ndS, lS, hg, q⟩ := h
  have hu := hr.units
  have hu : (A.deeper (envOfC "_law_far" (defScope s_law_far) s.heap.objs.size f cdv)).units + 1 < cLine := by omega
  refine ⟨_, (pss_cons (ps_set (i := 3) sc_law_far.nd rfl (Or.inr rfl) (pe_disp (pps_cons (pv 2) pe_int pps_nil) rfl rfl (List.cons_ne_nil _ _) (by show 1 ≤ 15; decide)))
    (pss_cons (ps_for PassesOwn.never rfl (pi_range2 rfl T.z_range (pa_cons pe_int (pa_cons (pe_callB call_len_seq rfl T.z_len (by decide +kernel) (pa_cons (pv 1) pa_nil)) pa_nil))) (pg_name (i := 4) sc_law_far.nd rfl (Or.inr rfl)) (pss_one (ps_for PassesOwn.never rfl (pi_tup (pv 1)) (pg_name (i := 5) sc_law_far.nd rfl (Or.inr rfl)) (pss_cons (ps_set (i := 6) sc_law_far.nd rfl (Or.inl rfl) (pe_op op_cat (pe_lc rfl (CompSc.of (sc0 := defScope s_law_far) (N0 := ["_law_web_here", "_law_some_here", "_law_goal", "_law_far_here", "_law_turn", "_law_place", "_law_tied"]) (N := ["_law_a", "_law_b", "_law_place"]) (fr := [none, none, some 5]) rfl rfl (by decide +kernel)) (pi_tup (pe_ix ix_tup (pv 0) pe_int (fun _ _ => rfl))) (fun _ => ⟨(pg_tup rfl (pgs_cons (pg_name (i := 0) (show (["_law_a", "_law_b", "_law_place"] : List Str).Nodup by decide +kernel) rfl (Or.inl rfl)) (pgs_cons (pg_name (i := 1) (show (["_law_a", "_law_b", "_law_place"] : List Str).Nodup by decide +kernel) rfl (Or.inl rfl)) pgs_nil))), (pf_one (pt_cmpR op_eq (pv 0) (pv 2) (nomark _))), (pv 1)⟩)) (pe_lc rfl (CompSc.of (sc0 := defScope s_law_far) (N0 := ["_law_web_here", "_law_some_here", "_law_goal", "_law_far_here", "_law_turn", "_law_place", "_law_tied"]) (N := ["_law_a", "_law_b", "_law_place"]) (fr := [none, none, some 5]) rfl rfl (by decide +kernel)) (pi_tup (pe_ix ix_tup (pv 0) pe_int (fun _ _ => rfl))) (fun _ => ⟨(pg_tup rfl (pgs_cons (pg_name (i := 0) (show (["_law_a", "_law_b", "_law_place"] : List Str).Nodup by decide +kernel) rfl (Or.inl rfl)) (pgs_cons (pg_name (i := 1) (show (["_law_a", "_law_b", "_law_place"] : List Str).Nodup by decide +kernel) rfl (Or.inl rfl)) pgs_nil))), (pf_one (pt_cmpR op_eq (pv 1) (pv 2) (nomark _))), (pv 0)⟩))))
    (pss_one (ps_if (PW.pt (pw_and (pt_cmp (pc_dnotin hu (pv 5) (pv 3))) (pw_and1 (pt_val (pe_callB (call_any_bools rfl) rfl T.z_any (by decide +kernel) (pa_cons (pe_lc rfl (CompSc.of (sc0 := defScope s_law_far) (N0 := ["_law_web_here", "_law_some_here", "_law_goal", "_law_far_here", "_law_turn", "_law_place", "_law_tied"]) (N := ["_law_other", "_law_turn", "_law_far_here"]) (fr := [none, some 4, some 3]) rfl rfl (by decide +kernel)) (pi_list (pv 6)) (fun _ => ⟨(pg_name (i := 0) (show (["_law_other", "_law_turn", "_law_far_here"] : List Str).Nodup by decide +kernel) rfl (Or.inl rfl)), pf_nil, (pe_cmpR op_eq (pe_dget2 hu (pv 2) (pv 0) (pv 1) ⟨rfl, rfl, rfl, rfl⟩) (pe_op op_sub (pv 1) pe_int) (nomark _))⟩)) pa_nil)))))) (pss_one (ps_dput hu (pv 3) (pv 5) (pv 4) rfl)) pss_nil))))))
    (pss_one (ps_ret (pv 3))))), ?_⟩
  obtain ⟨c, rfl, qc⟩ := ry.toI
  obtain ⟨wa, p, t, ys, rfl, qw, qp, qt, rt⟩ := rx.toW
  have ly : ys.length = ts.length := by rw [rt.length, List.length_map]
  have lSm : (S.map V.int).length = S.length := List.length_map _
  have S0 : 0 < S.length := List.length_pos_of_mem hg
  intro D hD
  refine ⟨_, rfl, upd_same, [(.inl g, .int 0)], rfl, by show 1 ≤ 15; decide, ?_⟩
  have hD0 : upd (upd H D (.dK [])) D (.dK (mergeK [] [((.inl g : Key), V.int 0)])) D = some (.dK [((.inl g : Key), V.int 0)]) := by rw [upd_same]; rfl
  have s0 : Same H (upd (upd H D (.dK [])) D (.dK (mergeK [] [((.inl g : Key), V.int 0)]))) := fun e o z => by rw [upd_ne (ne_of_none z hD), upd_ne (ne_of_none z hD)]; exact z
  refine ⟨_, rfl, c, _, rfl, .inr (s0.tups.sq qc), _, _, rfl, ⟨by decide, by decide, by omega, by omega⟩, ?_⟩
  generalize upd (upd H D (.dK [])) D (.dK (mergeK [] [((.inl g : Key), V.int 0)])) = H0 at hD0 s0 ⊢
  refine for_range (lo := 1) (fun i σ H' => Same H H' ∧ (∃ kvs val, H' D = some (.dK kvs) ∧ kvs.length ≤ 1 + 24 * i ∧ (∀ p, valV kvs (.inl p) = nV (val p)) ∧ Far (nb ps ts) S g i val) ∧ ∃ v4 v5 v6, σ = [some (.ref wa), some (.ref c), some (.int g), some (.ref D), v4, v5, v6])
    ⟨s0, ⟨_, _, hD0, Nat.le_refl _, fun p => ?_, Far.zero⟩, _, _, _, rfl⟩ ?_ ?_
  · show valV [((.inl g : Key), V.int 0)] (.inl p) = nV (if p = g then some 0 else none)
    by_cases e : p = g
    · rw [if_pos e, e]; exact valV_pos rfl
    · rw [if_neg e]; exact valV_neg (fun z => e (Sum.inl.inj z).symm)
  · rintro i σ H1 hi ⟨s1, ⟨kvs, val, hD1, lk, hv, FF⟩, v4, v5, v6, rfl⟩
    rw [lSm] at hi
    refine ⟨_, rfl, c, rfl, ⟨_, s1.tups.sq qc⟩, ?_⟩
    refine for_tup (xs := S.map V.int) (fun k σ H' => Same H H' ∧ (∃ kvs val, H' D = some (.dK kvs) ∧ kvs.length ≤ 1 + 24 * i + k ∧ (∀ p, valV kvs (.inl p) = nV (val p)) ∧ FarIn (nb ps ts) S g i (S.take k) val) ∧ ∃ v5 v6, σ = [some (.ref wa), some (.ref c), some (.int g), some (.ref D), some (.int (1 + (i : Nat))), v5, v6])
      ⟨s1, ⟨kvs, val, hD1, lk, hv, FF.start⟩, _, _, rfl⟩ (fun k σ H' _ ⟨s', _⟩ => s'.tups.sq qc) ?_ ?_
    · clear FF hv lk hD1 s1
      clear val kvs
      rintro k y σ H2 hy ⟨s2, ⟨kvs, val, hD2, lk, hv, FF⟩, v5, v6, rfl⟩
      rw [List.getElem?_map] at hy
      obtain ⟨pl, hpl, rfl⟩ := Option.map_eq_some_iff.mp hy
      have hm : pl ∈ S := List.mem_of_getElem? hpl
      have hk : k < S.length := (List.getElem?_eq_some_iff.mp hpl).1
      have tk : S.take (k + 1) = S.take k ++ [pl] := by rw [List.take_add_one, hpl]; rfl
      refine ⟨_, rfl, wa, _, 1, _, rfl, rfl, s2.tups.sq qw, rfl, t, rfl, ⟨_, s2.tups.sq qt⟩, fun C1 hC1 z => ?_⟩
      refine loop_tup (xs := ys) (fun k τ H' => Same H2 H' ∧ H' C1 = some (.lst ((((ts.take k).filter fun t => decide (t.1 = pl)).map (·.2)).map V.int)) ∧ ∃ v0 v1, τ = [v0, v1, some (.int pl)]) ⟨same_new hC1 _, upd_same, _, _, rfl⟩ (fun k τ H' _ ⟨s', _⟩ => (s2.tups.trans s'.tups).sq qt) ?_ ?_
      · rintro k y' τ H' hy' ⟨s', hC', v0, v1, rfl⟩
        obtain ⟨t', c', ht', rfl, qc'⟩ := rt.pairAt hy'
        have nk := PySem.take_succ_filter (fun t : Int × Int => decide (t.1 = pl)) ts k t' ht'
        have sm : ((((ts.take k).filter fun t => decide (t.1 = pl)).map (·.2)).map V.int).length < sizeLine := tied_small W.len
        refine ⟨c', _, rfl, (s2.tups.trans s'.tups).sq qc', rfl, _, _, rfl, _, _, rfl, rfl, ?_⟩
        refine ⟨_, rfl, _, rfl, rfl, _, rfl, ?_⟩
        refine ite2 (fun c3 => ?_) (fun c3 => ?_)
        · have c3 : decide (V.int t'.1 = V.int pl) = true := c3
          have e3 : t'.1 = pl := V.int.inj (of_decide_eq_true c3)
          refine ⟨_, rfl, _, hC', sm, fun e x z => ?_, ?_, _, _, rfl⟩
          · rw [upd_ne (ne_of_none z hC1)]; exact s' _ _ z
          · rw [upd_same, nk, if_pos (decide_eq_true e3), List.map_append, List.map_append]; rfl
        · have c3 : ¬ decide (V.int t'.1 = V.int pl) = true := c3
          have e3 : ¬ t'.1 = pl := fun z => c3 (decide_eq_true (congrArg V.int z))
          refine ⟨s', ?_, _, _, rfl⟩
          rw [hC', nk, if_neg (by rw [decide_eq_false e3]; exact Bool.false_ne_true), List.append_nil]
      rintro τ H3 ⟨sH3, hH3, v0, v1, rfl⟩
      rw [ly, List.take_length] at hH3
      have s23 := s2.trans sH3
      refine ⟨_, rfl, wa, _, 1, _, rfl, rfl, s23.tups.sq qw, rfl, t, rfl, ⟨_, s23.tups.sq qt⟩, fun C2 hC2 z => ?_⟩
      refine loop_tup (xs := ys) (fun k τ H' => Same H3 H' ∧ H' C2 = some (.lst ((((ts.take k).filter fun t => decide (t.2 = pl)).map (·.1)).map V.int)) ∧ ∃ v0 v1, τ = [v0, v1, some (.int pl)]) ⟨same_new hC2 _, upd_same, _, _, rfl⟩ (fun k τ H' _ ⟨s', _⟩ => (s23.tups.trans s'.tups).sq qt) ?_ ?_
      · rintro k y' τ H' hy' ⟨s', hC', v0, v1, rfl⟩
        obtain ⟨t', c', ht', rfl, qc'⟩ := rt.pairAt hy'
        have nk := PySem.take_succ_filter (fun t : Int × Int => decide (t.2 = pl)) ts k t' ht'
        have sm : ((((ts.take k).filter fun t => decide (t.2 = pl)).map (·.1)).map V.int).length < sizeLine := tied_small W.len
        refine ⟨c', _, rfl, (s23.tups.trans s'.tups).sq qc', rfl, _, _, rfl, _, _, rfl, rfl, ?_⟩
        refine ⟨_, rfl, _, rfl, rfl, _, rfl, ?_⟩
        refine ite2 (fun c3 => ?_) (fun c3 => ?_)
        · have c3 : decide (V.int t'.2 = V.int pl) = true := c3
          have e3 : t'.2 = pl := V.int.inj (of_decide_eq_true c3)
          refine ⟨_, rfl, _, hC', sm, fun e x z => ?_, ?_, _, _, rfl⟩
          · rw [upd_ne (ne_of_none z hC2)]; exact s' _ _ z
          · rw [upd_same, nk, if_pos (decide_eq_true e3), List.map_append, List.map_append]; rfl
        · have c3 : ¬ decide (V.int t'.2 = V.int pl) = true := c3
          have e3 : ¬ t'.2 = pl := fun z => c3 (decide_eq_true (congrArg V.int z))
          refine ⟨s', ?_, _, _, rfl⟩
          rw [hC', nk, if_neg (by rw [decide_eq_false e3]; exact Bool.false_ne_true), List.append_nil]
      rintro τ H4 ⟨sH4, hH4, v0, v1, rfl⟩
      rw [ly, List.take_length] at hH4
      have s24 := s23.trans sH4
      refine ⟨C1, C2, _, _, rfl, rfl, sH4 _ _ hH3, hH4, ?_, fun Tl hTl => ?_⟩
      · rw [List.length_map, List.length_map, List.length_map, List.length_map]
        have h1 : (ts.filter fun t => decide (t.1 = pl)).length ≤ ts.length := List.length_filter_le _ _
        have h2 : (ts.filter fun t => decide (t.2 = pl)).length ≤ ts.length := List.length_filter_le _ _
        have := W.len
        exact Nat.le_of_lt (small1000 (by omega))
      rw [← List.map_append]
      have s5 := same_new hTl (.lst ((tds ts pl).map V.int))
      have hT5 : upd H4 Tl (.lst ((tds ts pl).map V.int)) Tl = some (.lst ((tds ts pl).map V.int)) := upd_same
      have e5 : upd H4 Tl (.lst (((ts.filter fun t => decide (t.1 = pl)).map (·.2) ++ (ts.filter fun t => decide (t.2 = pl)).map (·.1)).map V.int)) = upd H4 Tl (.lst ((tds ts pl).map V.int)) := rfl
      rw [e5]
      clear e5
      generalize upd H4 Tl (.lst ((tds ts pl).map V.int)) = H5 at s5 hT5 ⊢
      have s25 : Same H H5 := s24.trans s5
      have hD5 : H5 D = some (.dK kvs) := s5 _ _ (sH4 _ _ (sH3 _ _ hD2))
      refine ⟨_, rfl, _, rfl, D, _, rfl, DGet.k (k := .inl pl) hD5, _, rfl, ?_⟩
      rw [hv]
      cases vp : val pl with
      | some d =>
        refine ⟨s25, ⟨kvs, val, hD5, by omega, hv, ?_⟩, _, _, rfl⟩
        rw [tk]
        refine FF.skip fun dd => ?_
        rw [vp]
        rw [(FF.no pl d vp).1.uniq dd]
      | none =>
        have td : ∀ o, o ∈ tds ts pl ↔ o ∈ nb ps ts pl := fun o => by rw [tds_mem, nb_iff W]
        have look := FF.look (nb_sym W) hm vp td
        refine ⟨_, rfl, Tl, rfl, ⟨_, SqL.of hT5⟩, fun C hC z => ?_⟩
        refine loop_list (xs := (tds ts pl).map V.int) (fun j τ H' => Same H5 H' ∧ H' C = some (.lst (bls (((tds ts pl).take j).map fun o => decide (val o = some i)))) ∧ ∃ v0, τ = [v0, some (.int (1 + (i : Nat))), some (.ref D)]) ⟨same_new hC _, upd_same, _, rfl⟩ (fun j τ H' _ ⟨s', _⟩ => SqL.of (s' _ _ hT5)) ?_ ?_
        · rintro j y' τ H6 hy' ⟨s6, hC6, v0, rfl⟩
          rw [List.getElem?_map] at hy'
          obtain ⟨o, ho, rfl⟩ := Option.map_eq_some_iff.mp hy'
          have hD6 := s6 _ _ hD5
          have tj : (tds ts pl).take (j + 1) = (tds ts pl).take j ++ [o] := by rw [List.take_add_one, ho]; rfl
          have lt := tds_len (p := pl) W.len
          have key : ∃ a : Int, (nV (val o)).getD (V.int (1 + (i : Nat))) = V.int a ∧ (a = (1 + (i : Nat)) - 1 ↔ val o = some i) := by
            cases vo : val o with
            | none => exact ⟨_, rfl, ⟨fun z => by omega, fun z => by cases z⟩⟩
            | some d => exact ⟨(d : Nat), rfl, ⟨fun z => by rw [show d = i by omega], fun z => by have := Option.some.inj z; omega⟩⟩
          obtain ⟨a, ea, ia⟩ := key
          refine ⟨_, rfl, D, rfl, isD_of hD6, _, rfl, _, rfl, _, DGet.k (k := .inl o) hD6, ?_⟩
          rw [hv, ea]
          refine ⟨_, rfl, _, _, rfl, rfl, rfl, ?_⟩
          refine ⟨_, hC6, ?_, fun e x z => ?_, ?_, _, rfl⟩
          · unfold bls
            rw [List.length_map, List.length_map, List.length_take]
            exact small1000 (by omega)
          · rw [upd_ne (ne_of_none z hC)]; exact s6 _ _ z
          · rw [upd_same, tj, List.map_append]
            unfold bls
            rw [List.map_append (f := V.bl)]
            show some (HO.lst (_ ++ [V.bl (decide (V.int a = V.int ((1 + (i : Nat)) - 1)))])) = some (HO.lst (_ ++ [V.bl (decide (val o = some i))]))
            have : decide (V.int a = V.int ((1 + ((i : Nat) : Int)) - 1)) = decide (val o = some i) := by
              by_cases z : val o = some i
              · rw [decide_eq_true z, decide_eq_true (congrArg V.int (ia.mpr z))]
              · rw [decide_eq_false z, decide_eq_false (fun w => z (ia.mp (V.int.inj w)))]
            rw [this]
        · rintro τ H6 ⟨s6, hC6, v0, rfl⟩
          rw [List.length_map, List.take_length] at hC6
          have hD6 := s6 _ _ hD5
          refine ⟨C, _, rfl, SqL.of hC6, _, rfl, ?_⟩
          have anyi : (((tds ts pl).map fun o => decide (val o = some i)).any id) = true ↔ Bf.D (nb ps ts) S g (i + 1) pl := by
            rw [List.any_eq_true]
            rw [← look]
            constructor
            · rintro ⟨b, hb, hb1⟩
              obtain ⟨o, ho, rfl⟩ := List.mem_map.mp hb
              exact ⟨o, ho, of_decide_eq_true hb1⟩
            · rintro ⟨o, ho, h⟩
              exact ⟨_, List.mem_map.mpr ⟨o, ho, rfl⟩, decide_eq_true h⟩
          refine ite2 (fun c4 => ?_) (fun c4 => ?_)
          · have c4 : (((tds ts pl).map fun o => decide (val o = some i)).any id) = true := c4
            have dd := anyi.mp c4
            refine ⟨_, rfl, _, rfl, _, rfl, D, _, rfl, DPut.k (k := .inl pl) hD6 (small1000 (by omega)), ?_⟩
            refine ⟨fun e x z => ?_, ⟨_, _, upd_same, ?_, fun x => ?_, tk ▸ FF.put dd⟩, _, _, rfl⟩
            · rw [upd_ne (ne_of_none z hD)]; exact s6 _ _ (s25 _ _ z)
            · have := length_putK kvs (.inl pl) (V.int (1 + (i : Nat))); omega
            · rw [valV_put]
              by_cases e : x = pl
              · subst e
                rw [if_pos rfl, if_pos rfl]
                show some (V.int (1 + ((i : Nat) : Int))) = some (V.int ((i + 1 : Nat) : Int))
                rw [show (1 + ((i : Nat) : Int)) = ((i + 1 : Nat) : Int) by omega]
              · rw [if_neg (fun z => e (Sum.inl.inj z)), if_neg e]; exact hv x
          · have c4 : ¬ (((tds ts pl).map fun o => decide (val o = some i)).any id) = true := c4
            refine ⟨s25.trans s6, ⟨kvs, val, hD6, by omega, hv, ?_⟩, _, _, rfl⟩
            rw [tk]
            exact FF.skip fun dd => absurd (anyi.mpr dd) c4
    · rintro σ H2 ⟨s2, ⟨kvs, val, hD2, lk, hv, FF⟩, v5, v6, rfl⟩
      rw [lSm, List.take_length] at FF
      rw [lSm] at lk
      exact ⟨s2, ⟨kvs, val, hD2, by omega, hv, FF.done⟩, _, _, _, rfl⟩
  · rintro σ H2 ⟨s2, ⟨kvs, val, hD2, lk, hv, FF⟩, v4, v5, v6, rfl⟩
    rw [lSm, show (((S.length : Nat) : Int) - 1).toNat = S.length - 1 by omega] at FF
    exact ⟨_, rfl, q D kvs val H2 s2 hD2 hv FF⟩
end
end K4
end

section
set_option Elab.async false
set_option linter.all false
set_option maxRecDepth 100000
set_option maxHeartbeats 1000000
namespace K4
open PySem L2 PyProof.Rows
open Bf
section
variable {P : Program} {w : World} {K : PySem.W.Frag} {mg : Str → Option Value} {base : Heap} {f : Addr} {fd : FuncData}
theorem ok_least (F : Fun K "_law_least" "_law_least" s_law_least f fd) (T : Txt mg) (C_law_far : Call1 P w K mg base "_law_far" ["_law_web_here", "_law_some_here", "_law_goal"] 1 (spFar K)) : FnOk P w K mg base CX0 2 f fd ["_law_web_here", "_law_some_here", "_law_one", "_law_goal"] (spWay K) := by
  refine F.ok sc_law_least (fun vs H Q E h => ?_) (fun cdv A outer s H vs Q E hr h => ?_)
  · obtain ⟨x, y, one, g, ps, S, ts, rfl, _⟩ := h; rfl
  obtain ⟨x, y, one, g, ps, S, ts, rfl, rx, ry, W, sub, ndS, lS, hone, hg, q⟩ := h
  have hu := hr.units
  have hu : (A.deeper (envOfC "_law_least" (defScope s_law_least) s.heap.objs.size f cdv)).units + 1 < cLine := by omega
  refine ⟨_, (pss_cons (ps_set (i := 4) sc_law_least.nd rfl (Or.inr rfl) (pe_fn C_law_far hr rfl (pa_cons (pv 0) (pa_cons (pv 1) (pa_cons (pv 3) pa_nil)))))
    (pss_cons (ps_if (pt_cmp (pc_dnotin hu (pv 2) (pv 4))) (pss_one (ps_ret pe_non)) pss_nil)
    (pss_cons (ps_set (i := 5) sc_law_least.nd rfl (Or.inl rfl) (pe_lst (pa_cons (pv 2) pa_nil)))
    (pss_cons (ps_while PassesOwn.never (pt_cmpR op_ne (pe_ix ix_list (pv 5) (pe_un un_neg pe_int) (fun _ _ => rfl)) (pv 3) (nomark _)) (pss_cons (ps_set (i := 6) sc_law_least.nd rfl (Or.inr rfl) (pe_ix ix_list (pv 5) (pe_un un_neg pe_int) (fun _ _ => rfl)))
    (pss_cons (ps_set (i := 7) sc_law_least.nd rfl (Or.inl rfl) (pe_op op_cat (pe_lc rfl (CompSc.of (sc0 := defScope s_law_least) (N0 := ["_law_web_here", "_law_some_here", "_law_one", "_law_goal", "_law_far_here", "_law_found", "_law_here", "_law_tied"]) (N := ["_law_a", "_law_b", "_law_here"]) (fr := [none, none, some 6]) rfl rfl (by decide +kernel)) (pi_tup (pe_ix ix_tup (pv 0) pe_int (fun _ _ => rfl))) (fun _ => ⟨(pg_tup rfl (pgs_cons (pg_name (i := 0) (show (["_law_a", "_law_b", "_law_here"] : List Str).Nodup by decide +kernel) rfl (Or.inl rfl)) (pgs_cons (pg_name (i := 1) (show (["_law_a", "_law_b", "_law_here"] : List Str).Nodup by decide +kernel) rfl (Or.inl rfl)) pgs_nil))), (pf_one (pt_cmpR op_eq (pv 0) (pv 2) (nomark _))), (pv 1)⟩)) (pe_lc rfl (CompSc.of (sc0 := defScope s_law_least) (N0 := ["_law_web_here", "_law_some_here", "_law_one", "_law_goal", "_law_far_here", "_law_found", "_law_here", "_law_tied"]) (N := ["_law_a", "_law_b", "_law_here"]) (fr := [none, none, some 6]) rfl rfl (by decide +kernel)) (pi_tup (pe_ix ix_tup (pv 0) pe_int (fun _ _ => rfl))) (fun _ => ⟨(pg_tup rfl (pgs_cons (pg_name (i := 0) (show (["_law_a", "_law_b", "_law_here"] : List Str).Nodup by decide +kernel) rfl (Or.inl rfl)) (pgs_cons (pg_name (i := 1) (show (["_law_a", "_law_b", "_law_here"] : List Str).Nodup by decide +kernel) rfl (Or.inl rfl)) pgs_nil))), (pf_one (pt_cmpR op_eq (pv 1) (pv 2) (nomark _))), (pv 0)⟩))))
    (pss_one (ps_expr (pe_bm PySem.F.plainAttrs_list PySem.F.slot_list_append PySem.F.type_list_append mt_append (pv 5) (pa_cons (pe_callB (call_min_ints rfl) rfl T.z_min (by decide +kernel) (pa_cons (pe_lc rfl (CompSc.of (sc0 := defScope s_law_least) (N0 := ["_law_web_here", "_law_some_here", "_law_one", "_law_goal", "_law_far_here", "_law_found", "_law_here", "_law_tied"]) (N := ["_law_place", "_law_far_here", "_law_here"]) (fr := [none, some 4, some 6]) rfl rfl (by decide +kernel)) (pi_list (pv 7)) (fun _ => ⟨(pg_name (i := 0) (show (["_law_place", "_law_far_here", "_law_here"] : List Str).Nodup by decide +kernel) rfl (Or.inl rfl)), (pf_one (pt_cmpR op_eq (pe_dget2 hu (pv 1) (pv 0) (pe_un un_neg pe_int) ⟨rfl, rfl, rfl, rfl⟩) (pe_op op_sub (pe_dget hu (pv 1) (pv 2) (fun _ _ => rfl)) pe_int) (nomark _))), (pv 0)⟩)) pa_nil)) pa_nil)))))))
    (pss_one (ps_ret (pe_callTy call_tuple_of rfl T.z_tuple (by decide +kernel) (pa_cons (pv 5) pa_nil)))))))), ?_⟩
  have S0 : 0 < S.length := List.length_pos_of_mem hg
  refine ⟨_, rfl, _, rfl, _, rfl, x, y, g, ps, S, ts, rfl, rx, ry, W, sub, ndS, lS, hg, fun D' kvs val H2 s12 hD hv FF => ?_⟩
  have fw : ∀ p d, val p = some d ↔ Bf.D (nb ps ts) S g d p := fun p d => ⟨fun h => (FF.no p d h).1, fun h => FF.yes p d h (by have := h.few hg; omega)⟩
  obtain ⟨wa, pa, t, ys, rfl, qw, qp, qt, rt⟩ := rx.toW
  have ly : ys.length = ts.length := by rw [rt.length, List.length_map]
  refine ⟨_, rfl, _, rfl, D', _, rfl, DGet.k (k := .inl one) hD, _, rfl, ?_⟩
  rw [hv]
  cases vone : val one with
  | none =>
    refine q _ _ s12 (.inl ⟨rfl, fun n z => ?_⟩)
    obtain ⟨k, _, dk⟩ := Bf.D.of z
    rw [(fw one k).mpr dk] at vone
    cases vone
  | some d1 =>
  have d1D := (fw one d1).mp vone
  refine ⟨_, rfl, by show 1 ≤ sizeLine; decide, fun L hL => ?_⟩
  refine ⟨fun m σ H' => Same H2 H' ∧ ∃ pre p, H' L = some (.lst ((pre ++ [p]).map V.int)) ∧ Bf.D (nb ps ts) S g m p ∧ (∀ rest, Way (nb ps ts) S g m p rest → ∃ n, Way (nb ps ts) S g n one (pre ++ rest)) ∧ pre.length + m ≤ 200 ∧ ∃ v6 v7, σ = [some (.ref wa), some y, some (.int one), some (.int g), some (.ref D'), some (.ref L), v6, v7],
    ⟨d1, same_new hL _, [], one, upd_same, d1D, fun rest h => ⟨_, h⟩, ?_, _, _, rfl⟩, ?_⟩
  · have := d1D.few hg
    show 0 + _ ≤ 200
    omega
  rintro m σ H3 ⟨s3, pre, p, hL3, dp, build, lpre, v6, v7, rfl⟩
  have atL : atI ((pre ++ [p]).map V.int) (-1) = some (V.int p) := by rw [List.map_append]; exact atI_last _ _
  have hD3 := s3 _ _ hD
  have s13 := s12.trans s3
  refine ⟨_, rfl, _, rfl, L, _, _, _, rfl, rfl, SqL.of hL3, atL, _, rfl, rfl, _, rfl, ?_⟩
  refine ite2 (fun c2 => ?_) (fun c2 => ?_)
  · have c2 : (!decide (V.int p = V.int g)) = true := c2
    have pg : p ≠ g := by
      intro e
      rw [e, decide_eq_true rfl] at c2
      exact Bool.false_ne_true c2
    obtain ⟨n, rfl⟩ : ∃ n, m = n + 1 := by
      cases m with
      | zero => exact absurd dp.1 pg
      | succ n => exact ⟨n, rfl⟩
    refine ⟨fun σ' H' => ∃ m', m' < n + 1 ∧ (Same H2 H' ∧ ∃ pre p, H' L = some (.lst ((pre ++ [p]).map V.int)) ∧ Bf.D (nb ps ts) S g m' p ∧ (∀ rest, Way (nb ps ts) S g m' p rest → ∃ n, Way (nb ps ts) S g n one (pre ++ rest)) ∧ pre.length + m' ≤ 200 ∧ ∃ v6 v7, σ' = [some (.ref wa), some y, some (.int one), some (.int g), some (.ref D'), some (.ref L), v6, v7]), fun _ _ h => h, ?_⟩
    have vp : val p = some (n + 1) := (fw p _).mpr dp
    refine ⟨_, rfl, _, rfl, L, _, _, _, rfl, rfl, SqL.of hL3, atL, ?_⟩
    refine ⟨_, rfl, wa, _, 1, _, rfl, rfl, s13.tups.sq qw, rfl, t, rfl, ⟨_, s13.tups.sq qt⟩, fun C1 hC1 z => ?_⟩
    refine loop_tup (xs := ys) (fun k τ H' => Same H3 H' ∧ H' C1 = some (.lst ((((ts.take k).filter fun t => decide (t.1 = p)).map (·.2)).map V.int)) ∧ ∃ v0 v1, τ = [v0, v1, some (.int p)]) ⟨same_new hC1 _, upd_same, _, _, rfl⟩ (fun k τ H' _ ⟨s', _⟩ => (s13.tups.trans s'.tups).sq qt) ?_ ?_
    · rintro k y' τ H' hy' ⟨s', hC', v0, v1, rfl⟩
      obtain ⟨t', c', ht', rfl, qc'⟩ := rt.pairAt hy'
      have nk := PySem.take_succ_filter (fun t : Int × Int => decide (t.1 = p)) ts k t' ht'
      have sm : ((((ts.take k).filter fun t => decide (t.1 = p)).map (·.2)).map V.int).length < sizeLine := tied_small W.len
      refine ⟨c', _, rfl, (s13.tups.trans s'.tups).sq qc', rfl, _, _, rfl, _, _, rfl, rfl, ?_⟩
      refine ⟨_, rfl, _, rfl, rfl, _, rfl, ?_⟩
      refine ite2 (fun c3 => ?_) (fun c3 => ?_)
      · have c3 : decide (V.int t'.1 = V.int p) = true := c3
        have e3 : t'.1 = p := V.int.inj (of_decide_eq_true c3)
        refine ⟨_, rfl, _, hC', sm, fun e x z => ?_, ?_, _, _, rfl⟩
        · rw [upd_ne (ne_of_none z hC1)]; exact s' _ _ z
        · rw [upd_same, nk, if_pos (decide_eq_true e3), List.map_append, List.map_append]; rfl
      · have c3 : ¬ decide (V.int t'.1 = V.int p) = true := c3
        have e3 : ¬ t'.1 = p := fun z => c3 (decide_eq_true (congrArg V.int z))
        refine ⟨s', ?_, _, _, rfl⟩
        rw [hC', nk, if_neg (by rw [decide_eq_false e3]; exact Bool.false_ne_true), List.append_nil]
    rintro τ H4 ⟨sH4, hH4, v0, v1, rfl⟩
    rw [ly, List.take_length] at hH4
    have s23 := s13.trans sH4
    refine ⟨_, rfl, wa, _, 1, _, rfl, rfl, s23.tups.sq qw, rfl, t, rfl, ⟨_, s23.tups.sq qt⟩, fun C2 hC2 z => ?_⟩
    refine loop_tup (xs := ys) (fun k τ H' => Same H4 H' ∧ H' C2 = some (.lst ((((ts.take k).filter fun t => decide (t.2 = p)).map (·.1)).map V.int)) ∧ ∃ v0 v1, τ = [v0, v1, some (.int p)]) ⟨same_new hC2 _, upd_same, _, _, rfl⟩ (fun k τ H' _ ⟨s', _⟩ => (s23.tups.trans s'.tups).sq qt) ?_ ?_
    · rintro k y' τ H' hy' ⟨s', hC', v0, v1, rfl⟩
      obtain ⟨t', c', ht', rfl, qc'⟩ := rt.pairAt hy'
      have nk := PySem.take_succ_filter (fun t : Int × Int => decide (t.2 = p)) ts k t' ht'
      have sm : ((((ts.take k).filter fun t => decide (t.2 = p)).map (·.1)).map V.int).length < sizeLine := tied_small W.len
      refine ⟨c', _, rfl, (s23.tups.trans s'.tups).sq qc', rfl, _, _, rfl, _, _, rfl, rfl, ?_⟩
      refine ⟨_, rfl, _, rfl, rfl, _, rfl, ?_⟩
      refine ite2 (fun c3 => ?_) (fun c3 => ?_)
      · have c3 : decide (V.int t'.2 = V.int p) = true := c3
        have e3 : t'.2 = p := V.int.inj (of_decide_eq_true c3)
        refine ⟨_, rfl, _, hC', sm, fun e x z => ?_, ?_, _, _, rfl⟩
        · rw [upd_ne (ne_of_none z hC2)]; exact s' _ _ z
        · rw [upd_same, nk, if_pos (decide_eq_true e3), List.map_append, List.map_append]; rfl
      · have c3 : ¬ decide (V.int t'.2 = V.int p) = true := c3
        have e3 : ¬ t'.2 = p := fun z => c3 (decide_eq_true (congrArg V.int z))
        refine ⟨s', ?_, _, _, rfl⟩
        rw [hC', nk, if_neg (by rw [decide_eq_false e3]; exact Bool.false_ne_true), List.append_nil]
    rintro τ H5 ⟨sH5, hH5, v0, v1, rfl⟩
    rw [ly, List.take_length] at hH5
    have s24 := s23.trans sH5
    refine ⟨C1, C2, _, _, rfl, rfl, sH5 _ _ hH4, hH5, ?_, fun Tl hTl => ?_⟩
    · rw [List.length_map, List.length_map, List.length_map, List.length_map]
      have h1 : (ts.filter fun t => decide (t.1 = p)).length ≤ ts.length := List.length_filter_le _ _
      have h2 : (ts.filter fun t => decide (t.2 = p)).length ≤ ts.length := List.length_filter_le _ _
      have := W.len
      exact Nat.le_of_lt (small1000 (by omega))
    rw [← List.map_append]
    have s5 := same_new hTl (.lst ((tds ts p).map V.int))
    have hT5 : upd H5 Tl (.lst ((tds ts p).map V.int)) Tl = some (.lst ((tds ts p).map V.int)) := upd_same
    have e5 : upd H5 Tl (.lst (((ts.filter fun t => decide (t.1 = p)).map (·.2) ++ (ts.filter fun t => decide (t.2 = p)).map (·.1)).map V.int)) = upd H5 Tl (.lst ((tds ts p).map V.int)) := rfl
    rw [e5]
    clear e5
    generalize upd H5 Tl (.lst ((tds ts p).map V.int)) = H6 at s5 hT5 ⊢
    have s36 : Same H3 H6 := sH4.trans (sH5.trans s5)
    have hD6 := s36 _ _ hD3
    have hL6 := s36 _ _ hL3
    have lt := tds_len (p := p) W.len
    refine ⟨_, rfl, tyL hL6, ?_⟩
    refine ⟨_, rfl, Tl, rfl, ⟨_, SqL.of hT5⟩, fun C hC z => ?_⟩
    refine loop_list (xs := (tds ts p).map V.int) (fun j τ H' => Same H6 H' ∧ H' C = some (.lst ((((tds ts p).take j).filter fun o => decide (val o = some n)).map V.int)) ∧ ∃ v0, τ = [v0, some (.ref D'), some (.int p)]) ⟨same_new hC _, upd_same, _, rfl⟩ (fun j τ H' _ ⟨s', _⟩ => SqL.of (s' _ _ hT5)) ?_ ?_
    · rintro j y' τ H7 hy' ⟨s7, hC7, v0, rfl⟩
      rw [List.getElem?_map] at hy'
      obtain ⟨o, ho, rfl⟩ := Option.map_eq_some_iff.mp hy'
      have hD7 := s7 _ _ hD6
      have nk := PySem.take_succ_filter (fun o => decide (val o = some n)) (tds ts p) j o ho
      have sm : ((((tds ts p).take j).filter fun o => decide (val o = some n)).map V.int).length < sizeLine := by
        rw [List.length_map]
        have h1 : (((tds ts p).take j).filter fun o => decide (val o = some n)).length ≤ ((tds ts p).take j).length := List.length_filter_le _ _
        have h2 : ((tds ts p).take j).length ≤ (tds ts p).length := by rw [List.length_take]; omega
        exact small1000 (by omega)
      have key : ∃ a : Int, (nV (val o)).getD (V.int (-1)) = V.int a ∧ (a = ((n + 1 : Nat) : Int) - 1 ↔ val o = some n) := by
        cases vo : val o with
        | none => exact ⟨_, rfl, ⟨fun z => by omega, fun z => by cases z⟩⟩
        | some d => exact ⟨(d : Nat), rfl, ⟨fun z => by rw [show d = n by omega], fun z => by have := Option.some.inj z; omega⟩⟩
      obtain ⟨a, ea, ia⟩ := key
      refine ⟨_, rfl, D', rfl, isD_of hD7, _, rfl, _, rfl, _, DGet.k (k := .inl o) hD7, ?_⟩
      rw [hv]
      have ea' : (nV (val o)).getD (V.int (-1)) = V.int a := ea
      refine ⟨_, rfl, _, rfl, D', V.int ((n + 1 : Nat) : Int), rfl, dgI hD7 (by rw [hv, vp]; rfl), _, _, rfl, rfl, ?_⟩
      rw [ea']
      refine ⟨rfl, _, rfl, ?_⟩
      refine ite2 (fun c3 => ?_) (fun c3 => ?_)
      · have c3 : decide (V.int a = V.int (((n + 1 : Nat) : Int) - 1)) = true := c3
        have e3 : val o = some n := ia.mp (V.int.inj (of_decide_eq_true c3))
        refine ⟨_, rfl, _, hC7, sm, fun e x z => ?_, ?_, _, rfl⟩
        · rw [upd_ne (ne_of_none z hC)]; exact s7 _ _ z
        · rw [upd_same, nk, if_pos (decide_eq_true e3), List.map_append]; rfl
      · have c3 : ¬ decide (V.int a = V.int (((n + 1 : Nat) : Int) - 1)) = true := c3
        have e3 : ¬ val o = some n := fun z => c3 (decide_eq_true (congrArg V.int (ia.mpr z)))
        refine ⟨s7, ?_, _, rfl⟩
        rw [hC7, nk, if_neg (by rw [decide_eq_false e3]; exact Bool.false_ne_true), List.append_nil]
    · rintro τ H7 ⟨s7, hC7, v0, rfl⟩
      rw [List.length_map, List.take_length] at hC7
      have inl : ∀ o, o ∈ (tds ts p).filter (fun o => decide (val o = some n)) ↔ o ∈ nb ps ts p ∧ Bf.D (nb ps ts) S g n o := fun o => by
        rw [List.mem_filter, decide_eq_true_eq, tds_mem, fw, nb_iff W]
      obtain ⟨_, q0, dq0, pq0⟩ := dp.pred
      have h0 : q0 ∈ (tds ts p).filter (fun o => decide (val o = some n)) := (inl q0).mpr ⟨nb_sym W _ _ pq0, dq0⟩
      refine ⟨C, _, rfl, SqL.of hC7, fun z => by rw [z] at h0; simp at h0, fun M hM least => ?_⟩
      obtain ⟨M1, M2⟩ := (inl M).mp hM
      have hL7 := s7 _ _ hL6
      refine ⟨L, _, _, rfl, rfl, hL7, ?_, ?_⟩
      · rw [List.length_map, List.length_append, List.length_singleton]; exact small1000 (by omega)
      refine ⟨n, by omega, fun e x z => ?_, pre ++ [p], M, ?_, M2, fun rest h => ?_, ?_, _, _, rfl⟩
      · rw [upd_ne (ne_of_none z hL)]; exact s7 _ _ (s36 _ _ (s3 _ _ z))
      · rw [upd_same, List.map_append (l₂ := [M])]; rfl
      · obtain ⟨n', h'⟩ := build (p :: rest) (Way.step dp M1 M2 (fun q' h1 h2 => least q' ((inl q').mpr ⟨h1, h2⟩)) h)
        exact ⟨n', by rw [List.append_assoc]; exact h'⟩
      · rw [List.length_append, List.length_singleton]; omega
  · have c2 : ¬ (!decide (V.int p = V.int g)) = true := c2
    have pg : p = g := by
      by_cases e : p = g
      · exact e
      · exfalso; apply c2
        rw [decide_eq_false (fun z => e (V.int.inj z))]; rfl
    subst pg
    have e := dp.uniq Bf.D.zero
    subst e
    obtain ⟨n', h'⟩ := build [p] Way.stop
    refine ⟨_, rfl, L, _, rfl, .inl ⟨SqL.of hL3, fun u hu' => ?_⟩⟩
    exact q _ _ (s13.trans (same_new hu' _)) (.inr ⟨n', _, h', Rp.ofI (SqT.of upd_same)⟩)
end
end K4
end

section
set_option Elab.async false
set_option linter.all false
set_option maxRecDepth 100000
set_option maxHeartbeats 1000000
namespace K4
open PySem L2 PyProof.Rows
open Bf
abbrev steps2 : List Int := [1, 3, 7, 9, 11, 13, 17, 19, 21, 23]
theorem steps2_sub {s : Int} (h : s ∈ steps2) : s ∈ steps := by
  simp only [steps2, steps, List.mem_cons, List.not_mem_nil, or_false] at h ⊢
  omega
def nm (f s : Int) (j : Nat) : Int := (f + s * (0 + (j : Int))) % 100
theorem nm_inj {f s : Int} (hs : s ∈ steps) {i j : Nat} (hi : i < 24) (hj : j < 24) (e : nm f s i = nm f s j) : i = j := by
  rcases Nat.lt_trichotomy i j with h | h | h
  · exact absurd e (step_ne hs (by omega) (by omega) (by omega))
  · exact h
  · exact absurd e.symm (step_ne hs (by omega) (by omega) (by omega))
theorem plc_at {f s : Int} {n j : Nat} (h : j < n) : (plc f s n)[j]? = some (nm f s j) := by
  unfold plc nm
  rw [List.getElem?_map, List.getElem?_range h]; rfl
def mn (a b : Int) : Int := if b < a then b else a
def mx (a b : Int) : Int := if b > a then b else a
def edge (f s : Int) (e : Nat × Nat) : Int × Int := (mn (nm f s e.1) (nm f s e.2), mx (nm f s e.1) (nm f s e.2))
theorem edge_lt {f s : Int} (hs : s ∈ steps) {e : Nat × Nat} (h : e.1 < e.2) (h2 : e.2 < 24) : (edge f s e).1 < (edge f s e).2 := by
  have ne : nm f s e.1 ≠ nm f s e.2 := fun z => by have := nm_inj hs (by omega) h2 z; omega
  unfold edge mn mx
  dsimp only
  split <;> split <;> omega
theorem edge_inj {f s : Int} (hs : s ∈ steps) {e e' : Nat × Nat} (h : e.1 < e.2) (h2 : e.2 < 24) (h' : e'.1 < e'.2) (h2' : e'.2 < 24) (q : edge f s e = edge f s e') : e = e' := by
  have q1 := congrArg Prod.fst q
  have q2 := congrArg Prod.snd q
  have ne : nm f s e.1 ≠ nm f s e.2 := fun z => by have := nm_inj hs (by omega) h2 z; omega
  have ne' : nm f s e'.1 ≠ nm f s e'.2 := fun z => by have := nm_inj hs (by omega) h2' z; omega
  have or2 : (nm f s e.1 = nm f s e'.1 ∧ nm f s e.2 = nm f s e'.2) ∨ (nm f s e.1 = nm f s e'.2 ∧ nm f s e.2 = nm f s e'.1) := by
    unfold edge mn mx at q1 q2
    dsimp only at q1 q2
    split at q1 <;> split at q1 <;> split at q2 <;> split at q2 <;> omega
  rcases or2 with ⟨a, b⟩ | ⟨a, b⟩
  · have a := nm_inj hs (by omega) (by omega) a
    have b := nm_inj hs (by omega) (by omega) b
    exact Prod.ext a b
  · have a := nm_inj hs (by omega) (by omega) a
    have b := nm_inj hs (by omega) (by omega) b
    omega
theorem edge_ends {f s : Int} {e : Nat × Nat} {n : Nat} (h : e.1 < e.2) (h2 : e.2 < n) : (edge f s e).1 ∈ plc f s n ∧ (edge f s e).2 ∈ plc f s n := by
  have m1 : nm f s e.1 ∈ plc f s n := List.mem_of_getElem? (plc_at (by omega))
  have m2 : nm f s e.2 ∈ plc f s n := List.mem_of_getElem? (plc_at h2)
  unfold edge mn mx
  dsimp only
  constructor
  · split
    · exact m2
    · exact m1
  · split
    · exact m2
    · exact m1
structure Ltc (n k j : Nat) (ix : List (Nat × Nat)) : Prop where
  nd : ix.Nodup
  rng : ∀ e ∈ ix, e.1 < e.2 ∧ e.2 < n ∧ (e.1 < k ∨ (e.1 = k ∧ e.2 < j))
  len : ix.length ≤ 2 * k + (if j = 0 then 0 else 1)
theorem Ltc.zero {n : Nat} : Ltc n 0 0 [] := ⟨List.nodup_nil, fun e h => by simp at h, Nat.zero_le _⟩
theorem Ltc.snoc {n k j j' : Nat} {ix : List (Nat × Nat)} (L : Ltc n k j ix) {b : Nat} (h1 : k < b) (h2 : b < n) (h3 : j ≤ b) : (ix ++ [(k, b)]).Nodup ∧ ∀ e ∈ ix ++ [(k, b)], e.1 < e.2 ∧ e.2 < n ∧ (e.1 < k ∨ (e.1 = k ∧ e.2 < b + 1)) := by
  have no : (k, b) ∉ ix := fun z => by have := L.rng _ z; dsimp only at this; omega
  constructor
  · rw [List.nodup_append]
    refine ⟨L.nd, List.nodup_cons.mpr ⟨by simp, List.nodup_nil⟩, fun x hx y hy e => ?_⟩
    rw [List.mem_singleton] at hy
    subst hy e
    exact no hx
  · intro e he
    rcases List.mem_append.mp he with h | h
    · have := L.rng e h
      omega
    · rw [List.mem_singleton] at h
      subst h
      dsimp only
      omega
section
variable {P : Program} {w : World} {K : PySem.W.Frag} {mg : Str → Option Value} {base : Heap} {f : Addr} {fd : FuncData}
def spLat (K : PySem.W.Frag) : Sp := fun vs H Q _ => ∃ (l : Addr), vs = [.ref l] ∧ Pot H l ∧ ∀ v ps ts H', Ex l H H' → Rp K H' v (dW ps ts) → WebOk ps ts → Q v H'
theorem ok_lat (F : Fun K "_law_lattice" "_law_lattice" s_law_lattice f fd) (T : Txt mg) (C_law_pick : Call1 P w K mg base "_law_pick" ["_law_left_here", "_law_many"] 1 spPick) : FnOk P w K mg base CX0 2 f fd ["_law_left_here"] (spLat K) := by
  refine F.ok sc_law_lattice (fun vs H Q E h => ?_) (fun cdv A outer s H vs Q E hr h => ?_)
  · obtain ⟨l, rfl, _⟩ := h; rfl
  obtain ⟨l, rfl, pot, q⟩ := h
  refine ⟨_, (pss_cons (ps_par (i := 1) (j := 2) rfl sc_law_lattice.nd rfl rfl (by decide) rfl rfl (pa_cons (pe_op op_add pe_int (pe_fn C_law_pick hr rfl (pa_cons (pv 0) (pa_cons pe_int pa_nil)))) (pa_cons (pe_op op_add pe_int (pe_fn C_law_pick hr rfl (pa_cons (pv 0) (pa_cons pe_int pa_nil)))) pa_nil)) rfl)
    (pss_cons (ps_asg (pe_tup (pa_consH (pe_fn C_law_pick hr rfl (pa_cons (pv 0) (pa_cons pe_int pa_nil))) (fun _ hR => pa_bigix (ns := [1, 3, 7, 9, 11, 13, 17, 19, 21, 23]) hR (by decide +kernel) (pe_fn C_law_pick hr rfl (pa_cons (pv 0) (pa_cons pe_int pa_nil))) (fun _ _ => rfl)))) (pg_tup rfl (pgs_cons (pg_name (i := 3) sc_law_lattice.nd rfl (Or.inr rfl)) (pgs_cons (pg_name (i := 4) sc_law_lattice.nd rfl (Or.inr rfl)) pgs_nil))))
    (pss_cons (ps_lcs (i := 5) sc_law_lattice.nd rfl rfl rfl (CompSc.of (sc0 := defScope s_law_lattice) (N0 := ["_law_left_here", "_law_wide", "_law_high", "_law_first", "_law_step", "_law_name", "_law_ties", "_law_k"]) (N := ["_law_k", "_law_first", "_law_step"]) (fr := [none, some 3, some 4]) rfl rfl (by decide +kernel)) (pi_range1 rfl T.z_range (pa_cons (pe_op op_mul (pv 1) (pv 2)) pa_nil)) (fun _ => ⟨(pg_name (i := 0) (show (["_law_k", "_law_first", "_law_step"] : List Str).Nodup by decide +kernel) rfl (Or.inl rfl)), pf_nil, (pe_op op_mod (pe_op op_add (pv 1) (pe_op op_mul (pv 2) (pv 0))) pe_int)⟩))
    (pss_cons (ps_set (i := 6) sc_law_lattice.nd rfl (Or.inl rfl) (pe_lst pa_nil))
    (pss_cons (ps_for PassesOwn.never rfl (pi_range1 rfl T.z_range (pa_cons (pe_op op_mul (pv 1) (pv 2)) pa_nil)) (pg_name (i := 7) sc_law_lattice.nd rfl (Or.inl rfl)) (pss_cons (ps_if (pt_cmpR op_ne (pe_op op_mod (pe_op op_add (pv 7) pe_int) (pv 1)) pe_int (nomark _)) (pss_one (ps_expr (pe_bm PySem.F.plainAttrs_list PySem.F.slot_list_append PySem.F.type_list_append mt_append (pv 6) (pa_cons (pe_tup (pa_cons (pe_callB (call_min2 rfl) rfl T.z_min (by decide +kernel) (pa_cons (pe_ix ix_list (pv 5) (pv 7) (fun _ _ => rfl)) (pa_cons (pe_ix ix_list (pv 5) (pe_op op_add (pv 7) pe_int) (fun _ _ => rfl)) pa_nil))) (pa_cons (pe_callB (call_max2 rfl) rfl T.z_max (by decide +kernel) (pa_cons (pe_ix ix_list (pv 5) (pv 7) (fun _ _ => rfl)) (pa_cons (pe_ix ix_list (pv 5) (pe_op op_add (pv 7) pe_int) (fun _ _ => rfl)) pa_nil))) pa_nil))) pa_nil)))) pss_nil)
    (pss_one (ps_if (pt_cmpR op_lt (pe_op op_add (pv 7) (pv 1)) (pe_op op_mul (pv 1) (pv 2)) (nomark _)) (pss_one (ps_expr (pe_bm PySem.F.plainAttrs_list PySem.F.slot_list_append PySem.F.type_list_append mt_append (pv 6) (pa_cons (pe_tup (pa_cons (pe_callB (call_min2 rfl) rfl T.z_min (by decide +kernel) (pa_cons (pe_ix ix_list (pv 5) (pv 7) (fun _ _ => rfl)) (pa_cons (pe_ix ix_list (pv 5) (pe_op op_add (pv 7) (pv 1)) (fun _ _ => rfl)) pa_nil))) (pa_cons (pe_callB (call_max2 rfl) rfl T.z_max (by decide +kernel) (pa_cons (pe_ix ix_list (pv 5) (pv 7) (fun _ _ => rfl)) (pa_cons (pe_ix ix_list (pv 5) (pe_op op_add (pv 7) (pv 1)) (fun _ _ => rfl)) pa_nil))) pa_nil))) pa_nil)))) pss_nil))))
    (pss_one (ps_ret (pe_tup (pa_cons (pe_callTy call_tuple_of rfl T.z_tuple (by decide +kernel) (pa_cons (pe_callB call_sorted_ints rfl T.z_sorted (by decide +kernel) (pa_cons (pv 5) pa_nil)) pa_nil)) (pa_cons (pe_callTy call_tuple_of rfl T.z_tuple (by decide +kernel) (pa_cons (pe_callB call_sorted_tups rfl T.z_sorted (by decide +kernel) (pa_cons (pv 6) pa_nil)) pa_nil)) pa_nil)))))))))), ?_⟩
  refine ⟨_, rfl, l, 5, rfl, pot, by decide, by decide, fun r1 g1 q1 c1 r10 r11 g10 => ?_⟩
  have E1 : Ex l H (upd H l (.lst [.int g1, .int q1, .int c1])) := Ex.pick g10
  generalize upd H l (.lst [.int g1, .int q1, .int c1]) = H1 at E1 ⊢
  refine ⟨_, _, rfl, rfl, _, rfl, l, 3, rfl, E1.pot, by decide, by decide, fun r2 g2 q2 c2 r20 r21 g20 => ?_⟩
  have E2 := E1.trans (Ex.pick (q := q2) (c := c2) g20)
  generalize upd H1 l (.lst [.int g2, .int q2, .int c2]) = H2 at E2 ⊢
  refine ⟨_, _, rfl, rfl, V.int (2 + r1), V.int (2 + r2), rfl, ?_⟩
  obtain ⟨wide, hwide⟩ : ∃ wd : Int, 2 + r1 = wd := ⟨_, rfl⟩
  obtain ⟨high, hhigh⟩ : ∃ wd : Int, 2 + r2 = wd := ⟨_, rfl⟩
  rw [hwide, hhigh]
  have w2 : 2 ≤ wide ∧ wide ≤ 6 := by omega
  obtain ⟨wn, rfl⟩ : ∃ wn : Nat, wide = (wn : Int) := ⟨wide.toNat, by omega⟩
  have h2 : 2 ≤ high ∧ high ≤ 4 := by omega
  refine ⟨_, rfl, l, 100, rfl, E2.pot, by decide, by decide, fun fi g4 q4 c4 fi0 fi1 g40 => ?_⟩
  have E6 := E2.trans (Ex.pick (q := q4) (c := c4) g40)
  generalize upd H2 l (.lst [.int g4, .int q4, .int c4]) = H6 at E6 ⊢
  refine ⟨(by show 10 ≤ sizeLine; decide), fun u3 hu3 => ?_⟩
  have E7 := E6.same (same_new hu3 (.lst (steps2.map V.int)))
  refine ⟨_, rfl, l, 10, rfl, E7.pot, by decide, by decide, fun o5 g5 q5 c5 o50 o51 g50 => ?_⟩
  have lu3 : u3 ≠ l := by obtain ⟨_, _, _, z, _⟩ := E6.pot; exact (ne_of_none z hu3).symm
  obtain ⟨sp, hsp, asp⟩ := atI_mem (ns := steps2) o50 o51
  have hsp := steps2_sub hsp
  have E8 := E7.trans (Ex.pick (q := q5) (c := c5) g50)
  refine ⟨u3, _, _, _, rfl, rfl, SqL.of (by rw [upd_ne lu3]; exact upd_same), asp, ?_⟩
  generalize upd (upd H6 u3 _) l (.lst [.int g5, .int q5, .int c5]) = H8 at E8 ⊢
  refine ⟨(by show 2 ≤ sizeLine; decide), fun u4 hu4 => ?_⟩
  refine ⟨u4, _, rfl, SqT.of upd_same, rfl, _, _, rfl, _, _, rfl, rfl, ?_⟩
  have E9 := E8.same (same_new hu4 (.tup [V.int fi, V.int sp]))
  generalize upd H8 u4 (.tup [V.int fi, V.int sp]) = H9 at E9 ⊢
  have prod : 0 ≤ (wn : Int) * high ∧ (wn : Int) * high ≤ 24 := by
    have a1 : 0 ≤ (wn : Int) * high := Int.mul_nonneg (by omega) (by omega)
    have a2 : (wn : Int) * high ≤ 6 * 4 := Int.mul_le_mul w2.2 h2.2 (by omega) (by omega)
    exact ⟨a1, by omega⟩
  obtain ⟨n, hn⟩ : ∃ n : Nat, (wn : Int) * high = (n : Int) := ⟨((wn : Int) * high).toNat, by omega⟩
  have n24 : n ≤ 24 := by omega
  refine ⟨_, rfl, _, rfl, _, _, rfl, rfl, .inr ⟨by omega, by omega⟩, n, congrArg (fun z => [V.int z]) hn, by omega, by omega, fun D hD z => ?_⟩
  rw [Int.toNat_natCast]
  have nD : D ≠ l := by obtain ⟨_, _, _, z, _⟩ := E9.pot; exact (ne_of_none z hD).symm
  refine loop_range (lo := 0) (n := n) (fun i τ H' => Same H9 H' ∧ H' D = some (.lst ((plc fi sp i).map V.int)) ∧ ∃ v0, τ = [v0, some (.int fi), some (.int sp)]) ⟨same_new hD _, upd_same, _, rfl⟩ ?_ ?_
  · rintro i τ H' hi ⟨s1, hD1, v0, rfl⟩
    refine ⟨_, rfl, _, rfl, _, rfl, _, _, rfl, rfl, .inr ⟨by omega, by omega⟩, _, _, rfl, rfl, _, _, rfl, rfl, (by show (0 : Int) < 100; decide), _, hD1, ?_, ?_⟩
    · rw [List.length_map, plc_len]; exact small1000 (by omega)
    refine ⟨fun e o z => ?_, ?_, _, rfl⟩
    · rw [upd_ne (ne_of_none z hD)]; exact s1 _ _ z
    · rw [upd_same, plc_succ, List.map_append]; rfl
  rintro τ H10 ⟨s10, hD10, _⟩
  have E10 := E9.same s10
  refine ⟨Nat.zero_le _, fun T' hT => ?_⟩
  have nT : T' ≠ l := by obtain ⟨_, _, _, z, _⟩ := E10.pot; exact (ne_of_none z hT).symm
  refine ⟨_, rfl, _, rfl, _, _, rfl, rfl, .inr ⟨by omega, by omega⟩, n, congrArg (fun z => [V.int z]) hn, by omega, by omega, ?_⟩
  rw [Int.toNat_natCast]
  have put : ∀ (j k b : Nat) (ix : List (Nat × Nat)) (Ha : Hp) (zs : List V), k < n → b < n → Same H10 Ha → Ha T' = some (.lst zs) → Rps K Ha zs ((ix.map (edge fi sp)).map dP) → ∀ u, Ha u = none →
      Same H10 (upd (upd Ha u (.tup [V.int (mn (nm fi sp k) (nm fi sp b)), V.int (mx (nm fi sp k) (nm fi sp b))])) T' (.lst (zs ++ [V.ref u]))) ∧ Rps K (upd (upd Ha u (.tup [V.int (mn (nm fi sp k) (nm fi sp b)), V.int (mx (nm fi sp k) (nm fi sp b))])) T' (.lst (zs ++ [V.ref u]))) (zs ++ [V.ref u]) (((ix ++ [(k, b)]).map (edge fi sp)).map dP) := by
    intro j k b ix Ha zs hk hb sa hTa rz u hu
    have hTu : upd Ha u (.tup [V.int (mn (nm fi sp k) (nm fi sp b)), V.int (mx (nm fi sp k) (nm fi sp b))]) T' = some (.lst zs) := by rw [upd_ne (ne_of_none hTa hu)]; exact hTa
    constructor
    · intro e o z
      rw [upd_ne (ne_of_none z hT), upd_ne (ne_of_none (sa _ _ z) hu)]
      exact sa _ _ z
    · rw [List.map_append, List.map_append]
      refine (rz.mono ((Tups.new hu).trans (Tups.lst hTu))).snoc (Rp.ofP (p := edge fi sp (k, b)) (SqT.of ?_))
      rw [upd_ne (ne_of_none hTa hu).symm, upd_same]; rfl
  refine for_range (lo := 0) (n := n) (fun k σ H' => Same H10 H' ∧ (∃ zs ix, H' T' = some (.lst zs) ∧ Rps K H' zs ((ix.map (edge fi sp)).map dP) ∧ Ltc n k 0 ix) ∧ ∃ v7, σ = [some (.ref l), some (.int (wn : Int)), some (.int high), some (.int fi), some (.int sp), some (.ref D), some (.ref T'), v7])
    ⟨same_new hT _, ⟨[], [], upd_same, .nil, Ltc.zero⟩, _, rfl⟩ ?_ ?_
  · rintro k σ Ha hk ⟨sa, ⟨zs, ix, hTa, rz, Lt⟩, v7, rfl⟩
    have lz : zs.length = ix.length := by rw [rz.length, List.length_map, List.length_map]
    have lix : ix.length ≤ 2 * k := by have := Lt.len; rw [if_pos rfl] at this; omega
    have ck : ∀ b : Nat, b < n → atI ((plc fi sp n).map V.int) ((b : Nat) : Int) = some (V.int (nm fi sp b)) := fun b hb => atI_nat (by rw [List.getElem?_map, plc_at hb]; rfl)
    have e0 : ∀ b : Nat, (0 : Int) + (b : Int) = ((b : Nat) : Int) := fun b => by omega
    rw [e0 k]
    have wpos : (0 : Int) < (wn : Int) := by omega
    refine ⟨_, rfl, _, _, rfl, rfl, _, rfl, _, _, rfl, rfl, wpos, rfl, _, rfl, ?_⟩
    refine ite2 (fun c1 => ?_) (fun c1 => ?_)
    · have c1 : (!decide (V.int (((k : Int) + 1) % (wn : Int)) = V.int 0)) = true := c1
      have hb1 : k + 1 < n := by
        by_cases e : k + 1 = n
        · exfalso
          have z : ((k : Int) + 1) % (wn : Int) = 0 := by
            rw [show (k : Int) + 1 = (wn : Int) * high by omega]
            exact Int.mul_emod_right _ _
          rw [z, decide_eq_true rfl] at c1
          exact Bool.false_ne_true c1
        · omega
      have a1 : atI ((plc fi sp n).map V.int) ((k : Int) + 1) = some (V.int (nm fi sp (k + 1))) := by have := ck (k + 1) hb1; rw [Int.natCast_add] at this; exact this
      refine ⟨_, rfl, tyL hTa, ?_⟩
      refine ⟨_, rfl, _, rfl, D, _, _, _, rfl, rfl, SqL.of (sa _ _ hD10), ck k hk, _, rfl, _, rfl, _, _, rfl, rfl, D, _, _, _, rfl, rfl, SqL.of (sa _ _ hD10), a1, _, _, rfl, ?_⟩
      refine ⟨_, rfl, _, rfl, D, _, _, _, rfl, rfl, SqL.of (sa _ _ hD10), ck k hk, _, rfl, _, rfl, _, _, rfl, rfl, D, _, _, _, rfl, rfl, SqL.of (sa _ _ hD10), a1, _, _, rfl, ?_⟩
      refine ⟨(by show 2 ≤ sizeLine; decide), fun u hu => ?_⟩
      obtain ⟨p1, p2⟩ := put 0 k (k + 1) ix Ha zs hk (by omega) sa hTa rz u hu
      refine ⟨T', _, _, rfl, rfl, (by rw [upd_ne (ne_of_none hTa hu)]; exact hTa), small1000 (by omega), ?_⟩
      obtain ⟨n1, n2⟩ := Lt.snoc (j' := 0) (show k < k + 1 by omega) hb1 (by omega)
      have Lt2 : Ltc n k (k + 2) (ix ++ [(k, k + 1)]) := ⟨n1, n2, by rw [List.length_append, List.length_singleton, if_neg (by omega)]; omega⟩
      have hTb : upd (upd Ha u (.tup [V.int (mn (nm fi sp k) (nm fi sp (k + 1))), V.int (mx (nm fi sp k) (nm fi sp (k + 1)))])) T' (.lst (zs ++ [V.ref u])) T' = some (.lst (zs ++ [V.ref u])) := upd_same
      have lz2 : (zs ++ [V.ref u]).length ≤ 2 * k + 1 := by rw [List.length_append, List.length_singleton]; omega
      have lix2 : (ix ++ [(k, k + 1)]).length ≤ 2 * k + 1 := by rw [List.length_append, List.length_singleton]; omega
      clear hu rz hTa sa
      show _
      generalize hHb : upd (upd Ha u (.tup [V.int (mn (nm fi sp k) (nm fi sp (k + 1))), V.int (mx (nm fi sp k) (nm fi sp (k + 1)))])) T' (.lst (zs ++ [V.ref u])) = Hb at p1 p2 hTb
      have hHb' : upd (upd Ha u (.tup [V.int (if nm fi sp (k + 1) < nm fi sp k then nm fi sp (k + 1) else nm fi sp k), V.int (if nm fi sp (k + 1) > nm fi sp k then nm fi sp (k + 1) else nm fi sp k)])) T' (.lst (zs ++ [V.ref u])) = Hb := hHb
      rw [hHb']
      clear hHb hHb'
      generalize zs ++ [V.ref u] = zb at p2 hTb lz2
      generalize ix ++ [(k, k + 1)] = ib at p2 Lt2 lix2
      refine ⟨_, rfl, _, rfl, _, _, rfl, rfl, _, rfl, _, rfl, _, _, rfl, rfl, .inr ⟨by omega, by omega⟩, _, _, rfl, rfl, _, rfl, ?_⟩
      refine ite2 (fun c2 => ?_) (fun c2 => ?_)
      · have c2 : decide ((k : Int) + (wn : Int) < (wn : Int) * high) = true := c2
        have hb : k + wn < n := by have := of_decide_eq_true c2; omega
        have a2 : atI ((plc fi sp n).map V.int) ((k : Int) + (wn : Int)) = some (V.int (nm fi sp (k + wn))) := by have := ck (k + wn) hb; rw [Int.natCast_add] at this; exact this
        refine ⟨_, rfl, tyL hTb, ?_⟩
        refine ⟨_, rfl, _, rfl, D, _, _, _, rfl, rfl, SqL.of (p1 _ _ hD10), ck k hk, _, rfl, _, rfl, _, rfl, _, _, rfl, rfl, D, _, _, _, rfl, rfl, SqL.of (p1 _ _ hD10), a2, _, _, rfl, ?_⟩
        refine ⟨_, rfl, _, rfl, D, _, _, _, rfl, rfl, SqL.of (p1 _ _ hD10), ck k hk, _, rfl, _, rfl, _, rfl, _, _, rfl, rfl, D, _, _, _, rfl, rfl, SqL.of (p1 _ _ hD10), a2, _, _, rfl, ?_⟩
        refine ⟨(by show 2 ≤ sizeLine; decide), fun u hu => ?_⟩
        obtain ⟨p1, p2⟩ := put 0 k (k + wn) ib Hb zb hk (by omega) p1 hTb p2 u hu
        refine ⟨T', _, _, rfl, rfl, (by rw [upd_ne (ne_of_none hTb hu)]; exact hTb), small1000 (by omega), ?_⟩
        obtain ⟨n1, n2⟩ := Lt2.snoc (j' := 0) (show k < k + wn by omega) hb (by omega)
        refine ⟨p1, ⟨_, _, upd_same, p2, ⟨n1, fun e he => ?_, ?_⟩⟩, _, rfl⟩
        · have := n2 e he; omega
        · rw [List.length_append, List.length_singleton, if_pos rfl]; omega
      · refine ⟨p1, ⟨zb, ib, hTb, p2, ⟨Lt2.nd, fun e he => ?_, ?_⟩⟩, _, rfl⟩
        · have := Lt2.rng e he; omega
        · rw [if_pos rfl]; omega
    · refine ⟨_, rfl, _, rfl, _, _, rfl, rfl, _, rfl, _, rfl, _, _, rfl, rfl, .inr ⟨by omega, by omega⟩, _, _, rfl, rfl, _, rfl, ?_⟩
      refine ite2 (fun c2 => ?_) (fun c2 => ?_)
      · have c2 : decide ((k : Int) + (wn : Int) < (wn : Int) * high) = true := c2
        have hb : k + wn < n := by have := of_decide_eq_true c2; omega
        have a2 : atI ((plc fi sp n).map V.int) ((k : Int) + (wn : Int)) = some (V.int (nm fi sp (k + wn))) := by have := ck (k + wn) hb; rw [Int.natCast_add] at this; exact this
        refine ⟨_, rfl, tyL hTa, ?_⟩
        refine ⟨_, rfl, _, rfl, D, _, _, _, rfl, rfl, SqL.of (sa _ _ hD10), ck k hk, _, rfl, _, rfl, _, rfl, _, _, rfl, rfl, D, _, _, _, rfl, rfl, SqL.of (sa _ _ hD10), a2, _, _, rfl, ?_⟩
        refine ⟨_, rfl, _, rfl, D, _, _, _, rfl, rfl, SqL.of (sa _ _ hD10), ck k hk, _, rfl, _, rfl, _, rfl, _, _, rfl, rfl, D, _, _, _, rfl, rfl, SqL.of (sa _ _ hD10), a2, _, _, rfl, ?_⟩
        refine ⟨(by show 2 ≤ sizeLine; decide), fun u hu => ?_⟩
        obtain ⟨p1, p2⟩ := put 0 k (k + wn) ix Ha zs hk (by omega) sa hTa rz u hu
        refine ⟨T', _, _, rfl, rfl, (by rw [upd_ne (ne_of_none hTa hu)]; exact hTa), small1000 (by omega), ?_⟩
        obtain ⟨n1, n2⟩ := Lt.snoc (j' := 0) (show k < k + wn by omega) hb (by omega)
        refine ⟨p1, ⟨_, _, upd_same, p2, ⟨n1, fun e he => ?_, ?_⟩⟩, _, rfl⟩
        · have := n2 e he; omega
        · rw [List.length_append, List.length_singleton, if_pos rfl]; omega
      · refine ⟨sa, ⟨zs, ix, hTa, rz, ⟨Lt.nd, fun e he => ?_, ?_⟩⟩, _, rfl⟩
        · have := Lt.rng e he; omega
        · rw [if_pos rfl]; omega
  · rintro σ Hb ⟨sb, ⟨zs, ix, hTb, rz, Lt⟩, v7, rfl⟩
    have lix : ix.length ≤ 2 * n := by have := Lt.len; rw [if_pos rfl] at this; omega
    have lz : zs.length = ix.length := by rw [rz.length, List.length_map, List.length_map]
    have Eb := E10.same sb
    refine ⟨_, rfl, D, _, rfl, SqL.of (sb _ _ hD10), by rw [plc_len]; omega, fun ps Pl pm srt hPl => ?_⟩
    refine ⟨Pl, _, rfl, .inl ⟨SqL.of upd_same, fun u hu => ?_⟩⟩
    have s1 : Same Hb (upd (upd Hb Pl (.lst (ps.map V.int))) u (.tup (ps.map V.int))) := (same_new hPl _).trans (same_new hu _)
    have hu2 : upd (upd Hb Pl (.lst (ps.map V.int))) u (.tup (ps.map V.int)) u = some (.tup (ps.map V.int)) := upd_same
    generalize upd (upd Hb Pl (.lst (ps.map V.int))) u (.tup (ps.map V.int)) = Hc at s1 hu2 ⊢
    have rz2 := rz.mono s1.tups
    refine ⟨_, rfl, T', zs, (ix.map (edge fi sp)).map enc, rfl, SqL.of (s1 _ _ hTb), rz2.tis, fun t ht => ?_, by omega, fun zs' l' pm' srt' hl' => ?_⟩
    · obtain ⟨x, _, rfl⟩ := List.mem_map.mp ht
      exact List.cons_ne_nil _ _
    obtain ⟨ts, pt, rt, et⟩ := sorted_ties rz2 pm'
    refine ⟨l', _, rfl, .inl ⟨SqL.of upd_same, fun u4 hu4 => ?_⟩⟩
    refine ⟨(by show 2 ≤ sizeLine; decide), fun r hr' => ?_⟩
    have s2 : Same Hc _ := (same_new hl' (.lst (zs'.map (·.1)))).trans (same_new hu4 (.tup (zs'.map (·.1))))
    have hu5 : upd (upd Hc l' (.lst (zs'.map (·.1)))) u4 (.tup (zs'.map (·.1))) u4 = some (.tup (zs'.map (·.1))) := upd_same
    generalize upd (upd Hc l' (.lst (zs'.map (·.1)))) u4 (.tup (zs'.map (·.1))) = Hd at s2 hu5 hr' ⊢
    have s3 : Same Hd (upd Hd r (.tup [V.ref u, V.ref u4])) := same_new hr' _
    refine q _ ps ts _ (Eb.same (s1.trans (s2.trans s3))) (Rp.ofW (SqT.of upd_same) (Rp.ofI (SqT.of (s3 _ _ (s2 _ _ hu2)))) (.tup (SqT.of (s3 _ _ hu5)) (rt.mono (s2.trans s3).tups))) ?_
    have each : ∀ t ∈ ts, ∃ e : Nat × Nat, e ∈ ix ∧ t = edge fi sp e := fun t ht => by
      obtain ⟨e, he, q⟩ := List.mem_map.mp (pt.mem_iff.mp ht)
      exact ⟨e, he, q.symm⟩
    refine ⟨rise_of srt (pm.nodup_iff.mpr (plc_nodup hsp n24)), by rw [pm.length_eq, plc_len]; exact n24, pt.nodup_iff.mpr ?_, fun t ht => ?_, fun t ht => ?_, by rw [pt.length_eq, List.length_map]; omega, fun p hp => plc_rng p (pm.mem_iff.mp hp), ?_⟩
    · unfold List.Nodup
      rw [List.pairwise_map]
      refine List.Pairwise.imp_of_mem ?_ Lt.nd
      intro a b ha hb ne z
      have ra := Lt.rng a ha
      have rb := Lt.rng b hb
      exact ne (edge_inj hsp ra.1 (by omega) rb.1 (by omega) z)
    · obtain ⟨e, he, rfl⟩ := each t ht
      have re := Lt.rng e he
      exact edge_lt hsp re.1 (by omega)
    · obtain ⟨e, he, rfl⟩ := each t ht
      have re := Lt.rng e he
      obtain ⟨m1, m2⟩ := edge_ends (f := fi) (s := sp) re.1 re.2.1
      exact ⟨pm.mem_iff.mpr m1, pm.mem_iff.mpr m2⟩
    · have := srt'
      rw [← et] at this
      exact this
end
end K4
end

section
set_option Elab.async false
set_option linter.all false
set_option maxRecDepth 100000
set_option maxHeartbeats 1000000
set_option pp.maxSteps 60
set_option pp.deepTerms false
set_option pp.deepTerms.threshold 3
namespace K4
open PySem L2 PyProof.Rows
open Bf
theorem it_int (n : Nat) (i : Int) : itN (n + 1) (.int i) := .inl ⟨i, rfl⟩
theorem it_I (n : Nat) (ns : List Int) (h : ns.length ≤ 1000) : itN (n + 2) (dI ns) := .inr ⟨_, rfl, by rw [List.length_map]; exact h, fun e he => by
  obtain ⟨i, _, rfl⟩ := List.mem_map.mp he
  exact it_int n i⟩
theorem Ex.same0 {l : Addr} {H H1 H2 : Hp} (s : Same H H1) (n : H l = none) (e : Ex l H1 H2) : Same H H2 := fun c o z => e.keep _ _ (ne_of_none z n) (s _ _ z)
theorem ite_same {c : Prop} [Decidable c] {A B : Prop} {G : V → Hp → Prop} (M : V → List Int → List (Int × Int) → Hp → Prop) (h1 : (∀ v ps ts H, M v ps ts H → G v H) → A) (h2 : (∀ v ps ts H, M v ps ts H → G v H) → B) (r : ∀ v ps ts H, M v ps ts H → G v H) : if c then A else B := by
  by_cases h : c
  · rw [if_pos h]; exact h1 r
  · rw [if_neg h]; exact h2 r
section
variable {P : Program} {w : World} {K : PySem.W.Frag} {mg : Str → Option Value} {base : Heap} {f : Addr} {fd : FuncData}
theorem Told.mono {nbr : Int → List Int} {S : List Int} {g one : Int} {v : V} {H H' : Hp} (t : Told K nbr S g one v H) (h : Tups H H') : Told K nbr S g one v H' := t.imp id fun ⟨n, p, a, b⟩ => ⟨n, p, a, b.mono h⟩
def spLaw (K : PySem.W.Frag) : Sp := fun vs H Q _ => ∃ (a : Addr) (ns : List Int), vs = [.ref a] ∧ SqL K H a (ns.map V.int) ∧ ns.length ≤ 63 ∧ ∀ H', Q (.bl true) H'
theorem ok_law (F : Fun K "law" "law" s_law f fd) (T : Txt mg) (C_law_some : Call1 P w K mg base "_law_some" ["_law_left_here", "_law_places"] 2 (spSome K)) (C_way : Call1 P w K mg base "way" ["web", "some", "one", "other"] 2 (spWay K)) (C_law_same : Call1 P w K mg base "_law_same" ["_law_found", "_law_due"] 4 (spSame K 4))
    (C_law_least : Call1 P w K mg base "_law_least" ["_law_web_here", "_law_some_here", "_law_one", "_law_goal"] 2 (spWay K)) (C_law_pick : Call1 P w K mg base "_law_pick" ["_law_left_here", "_law_many"] 1 spPick) (C_law_lattice : Call1 P w K mg base "_law_lattice" ["_law_left_here"] 2 (spLat K)) (C_law_web : Call1 P w K mg base "_law_web" ["_law_left_here", "_law_most"] 2 (spWeb K))
    (C_law_left : Call1 P w K mg base "_law_left" ["_law_script", "_law_k"] 2 (spLeft K)) : FnOk P w K mg base CX0 5 f fd ["_law_script"] (spLaw K) := by
  refine F.ok sc_law (fun vs H Q E h => ?_) (fun cdv A outer s H vs Q E hr h => ?_)
  · obtain ⟨a, ns, rfl, _⟩ := h; rfl
  obtain ⟨a, ns, rfl, hS, h63, q⟩ := h
  have hU := hr.units
  refine ⟨_, (pss_cons (ps_for PassesOwn.never rfl (pi_range1 rfl T.z_range (pa_cons (pe_op op_add pe_int (pe_callB (call_min2 rfl) rfl T.z_min (by decide +kernel) (pa_cons pe_int (pa_cons (pe_callB call_len_seq rfl T.z_len (by decide +kernel) (pa_cons (pv 0) pa_nil)) pa_nil)))) pa_nil)) (pg_name (i := 1) sc_law.nd rfl (Or.inl rfl)) (pss_cons (ps_set (i := 2) sc_law.nd rfl (Or.inr rfl) (pe_fn C_law_left hr rfl (pa_cons (pv 0) (pa_cons (pv 1) pa_nil))))
    (pss_cons (ps_set (i := 3) sc_law.nd rfl (Or.inr rfl) (pe_ifExp (pt_cmpR op_eq (pe_fn C_law_pick hr rfl (pa_cons (pv 2) (pa_cons pe_int pa_nil))) pe_int (nomark _)) (pe_fn C_law_lattice hr rfl (pa_cons (pv 2) pa_nil)) (pe_fn C_law_web hr rfl (pa_cons (pv 2) (pa_cons pe_int pa_nil)))))
    (pss_one (ps_for PassesOwn.never rfl (pi_list (pe_op op_cat (pe_lc rfl (CompSc.of (sc0 := defScope s_law) (N0 := ["_law_script", "_law_k", "_law_left_here", "_law_web_here", "_law_some_here", "_law_turn", "_law_one", "_law_goal", "_law_due", "_law_again", "_law_found"]) (N := ["_law_turn", "_law_left_here", "_law_web_here"]) (fr := [none, some 2, some 3]) rfl rfl (by decide +kernel)) (pi_range1 rfl T.z_range (pa_cons pe_int pa_nil)) (fun _ => ⟨(pg_name (i := 0) (show (["_law_turn", "_law_left_here", "_law_web_here"] : List Str).Nodup by decide +kernel) rfl (Or.inl rfl)), pf_nil, (pe_fn C_law_some hr rfl (pa_cons (pv 1) (pa_cons (pe_ix ix_tup (pv 2) pe_int (fun _ _ => rfl)) pa_nil)))⟩)) (pe_lst (pa_cons (pe_ix ix_tup (pv 3) pe_int (fun _ _ => rfl)) pa_nil)))) (pg_name (i := 4) sc_law.nd rfl (Or.inl rfl)) (pss_cons (ps_for PassesOwn.never rfl (pi_range1 rfl T.z_range (pa_cons (pe_op op_mul pe_int (pe_callTy call_int1 rfl T.z_int (by decide +kernel) (pa_cons (pe_cmpR (op_neD hU) (pv 4) (pe_tup pa_nil) (nomark _)) pa_nil))) pa_nil)) (pg_name (i := 5) sc_law.nd rfl (Or.inl rfl)) (pss_cons (ps_par (i := 6) (j := 7) rfl sc_law.nd rfl rfl (by decide) rfl rfl (pa_cons (pe_ix ix_tup (pv 4) (pe_fn C_law_pick hr rfl (pa_cons (pv 2) (pa_cons (pe_callB call_len_seq rfl T.z_len (by decide +kernel) (pa_cons (pv 4) pa_nil)) pa_nil))) (fun _ _ => rfl)) (pa_cons (pe_ix ix_tup (pv 4) (pe_fn C_law_pick hr rfl (pa_cons (pv 2) (pa_cons (pe_callB call_len_seq rfl T.z_len (by decide +kernel) (pa_cons (pv 4) pa_nil)) pa_nil))) (fun _ _ => rfl)) pa_nil)) rfl)
    (pss_cons (ps_set (i := 8) sc_law.nd rfl (Or.inl rfl) (pe_fn C_law_least hr rfl (pa_cons (pv 3) (pa_cons (pv 4) (pa_cons (pv 6) (pa_cons (pv 7) pa_nil))))))
    (pss_one (ps_for PassesOwn.never rfl (pi_range1 rfl T.z_range (pa_cons pe_int pa_nil)) (pg_name (i := 9) sc_law.nd rfl (Or.inl rfl)) (pss_cons (ps_set (i := 10) sc_law.nd rfl (Or.inl rfl) (pe_fn C_way hr rfl (pa_cons (pv 3) (pa_cons (pv 4) (pa_cons (pv 6) (pa_cons (pv 7) pa_nil))))))
    (pss_cons (ps_if (PW.pt (pw_and (pt_cmpR op_isN (pv 8) pe_non (nomark _)) (pw_and1 (pt_cmpR op_notN (pv 10) pe_non (nomark _))))) (pss_one (ps_ret pe_bl)) pss_nil)
    (pss_one (ps_if (PW.pt (pw_and (pt_cmpR op_notN (pv 8) pe_non (nomark _)) (pw_and1 (pt_not (pt_val (pe_fn C_law_same hr rfl (pa_cons (pv 10) (pa_cons (pv 8) pa_nil)))))))) (pss_one (ps_ret pe_bl)) pss_nil)))))))))
    (pss_one (ps_if (PW.pt (pw_and (pt_cmpR (op_neD hU) (pv 4) (pe_tup pa_nil) (nomark _)) (pw_and1 (pt_cmpR (op_neD hU) (pe_fn C_way hr rfl (pa_cons (pv 3) (pa_cons (pv 4) (pa_cons (pe_ix ix_tup (pv 4) pe_int (fun _ _ => rfl)) (pa_cons (pe_ix ix_tup (pv 4) pe_int (fun _ _ => rfl)) pa_nil))))) (pe_slice sl_tupA (pv 4) po_none (po_some pe_int)) (nomark _))))) (pss_one (ps_ret pe_bl)) pss_nil))))))))
    (pss_one (ps_ret pe_bl))), ?_⟩
  refine ⟨_, rfl, a, _, rfl, .inl hS, _, _, rfl, _, _, rfl, rfl, _, rfl, ?_, ?_, ?_⟩
  · show -(2 ^ 62) ≤ (1 : Int) + (if (((ns.map V.int).length : Nat) : Int) < 4 then (((ns.map V.int).length : Nat) : Int) else 4); split <;> omega
  · show (1 : Int) + (if (((ns.map V.int).length : Nat) : Int) < 4 then (((ns.map V.int).length : Nat) : Int) else 4) < 2 ^ 62; split <;> omega
  have n6 : ((1 : Int) + (if (((ns.map V.int).length : Nat) : Int) < 4 then (((ns.map V.int).length : Nat) : Int) else 4)).toNat ≤ 6 := by split <;> omega
  generalize ((1 : Int) + (if (((ns.map V.int).length : Nat) : Int) < 4 then (((ns.map V.int).length : Nat) : Int) else 4)).toNat = n at n6 ⊢
  refine for_range (lo := 0) (n := n) (fun i σ H' => Same H H' ∧ ∃ v1 v2 v3 v4 v5 v6 v7 v8 v9 v10, σ = [some (.ref a), v1, v2, v3, v4, v5, v6, v7, v8, v9, v10]) ⟨Same.refl H, _, _, _, _, _, _, _, _, _, _, rfl⟩ ?_ ?_
  · rintro i σ H1 hi ⟨s1, v1, v2, v3, v4, v5, v6, v7, v8, v9, v10, rfl⟩
    refine ⟨_, rfl, _, rfl, a, ns, _, rfl, s1.seq hS, by omega, by omega, fun l H2 s2 pot2 nl1 => ?_⟩
    have nl : H l = none := s1.free nl1
    have s2 := s1.trans s2
    refine ⟨_, rfl, l, 3, rfl, pot2, by decide, by decide, fun r0 g0 q0 c0 r00 r01 g00 => ?_⟩
    have E0 : Ex l H2 (upd H2 l (.lst [.int g0, .int q0, .int c0])) := Ex.pick g00
    generalize upd H2 l (.lst [.int g0, .int q0, .int c0]) = H0 at E0 ⊢
    refine ⟨rfl, _, rfl, ?_⟩
    refine ite_same (fun v ps ts H3 => Ex l H0 H3 ∧ Rp K H3 v (dW ps ts) ∧ WebOk ps ts) (fun rest => ⟨_, rfl, l, rfl, E0.pot, fun v ps ts H3 e r w => rest v ps ts H3 ⟨e, r, w⟩⟩) (fun rest => ⟨_, rfl, l, 24, rfl, E0.pot, by decide, by decide, fun v ps ts H3 e r w => rest v ps ts H3 ⟨e, r, w⟩⟩) ?_
    rintro vw ps ts H3 ⟨E3, rW, W⟩
    have s3 : Same H H3 := Ex.same0 s2 nl (E0.trans E3)
    obtain ⟨wa, p, t, ys, rfl, qw, qp, qt, rt⟩ := rW.toW
    have few := W.few
    have pot3 := E3.pot
    refine ⟨5, rfl, by decide, by decide, fun C hC z => ?_⟩
    have nC : C ≠ l := by obtain ⟨_, _, _, z, _⟩ := pot3; exact (ne_of_none z hC).symm
    refine loop_range (lo := 0) (n := 5) (fun i τ H' => Ex l H3 H' ∧ (∃ vs, H' C = some (.lst vs) ∧ vs.length ≤ i ∧ ∀ v ∈ vs, ∃ ss, Rp K H' v (dI ss) ∧ ss.Sublist ps) ∧ ∃ v0, τ = [v0, some (.ref l), some (.ref wa)]) ⟨Ex.of pot3 (same_new hC _), ⟨[], upd_same, Nat.le_refl _, fun v h => by simp at h⟩, _, rfl⟩ ?_ ?_
    · rintro j τ H4 hj ⟨E4, ⟨vs, hC4, lvs, hvs⟩, v0, rfl⟩
      have t4 := E4.tups pot3
      refine ⟨_, rfl, _, rfl, wa, _, 0, _, rfl, rfl, t4.sq qw, rfl, l, .ref p, ps, rfl, E4.pot, Rp.ofI (t4.sq qp), few, fun v ss H5 E5 rs sub => ?_⟩
      have hC5 := E5.keep _ _ nC hC4
      have t5 := E5.tups E4.pot
      refine ⟨_, hC5, small1000 (by omega), ⟨fun e o ne z => ?_, ?_⟩, ⟨_, upd_same, ?_, fun x hx => ?_⟩, _, rfl⟩
      · rw [upd_ne (ne_of_none z hC)]; exact E5.keep _ _ ne (E4.keep _ _ ne z)
      · obtain ⟨g', q', c', hp, hg⟩ := E5.pot
        exact ⟨g', q', c', by rw [upd_ne nC.symm]; exact hp, hg⟩
      · rw [List.length_append, List.length_singleton]; omega
      · rcases List.mem_append.mp hx with h | h
        · obtain ⟨s', r', u'⟩ := hvs x h
          exact ⟨s', r'.mono (t5.trans (Tups.lst hC5)), u'⟩
        · rw [List.mem_singleton] at h
          subst h
          exact ⟨ss, rs.mono (Tups.lst hC5), sub⟩
    rintro τ H4 ⟨E4, ⟨vs, hC4, lvs, hvs⟩, v0, rfl⟩
    have t4 := E4.tups pot3
    refine ⟨_, rfl, wa, _, 0, _, rfl, rfl, t4.sq qw, rfl, by show 1 ≤ sizeLine; decide, fun L2 hL2 => ?_⟩
    have s5 := same_new hL2 (.lst [V.ref p])
    refine ⟨C, L2, _, _, rfl, rfl, s5 _ _ hC4, upd_same, ?_, fun LL hLL => ?_⟩
    · rw [List.length_singleton]; exact Nat.le_of_lt (small1000 (by omega))
    have nL : LL ≠ l := by obtain ⟨_, _, _, z, _⟩ := E4.pot.same s5; exact (ne_of_none z hLL).symm
    have s6 := s5.trans (same_new hLL (.lst (vs ++ [V.ref p])))
    have hL6 : upd (upd H4 L2 (.lst [V.ref p])) LL (.lst (vs ++ [V.ref p])) LL = some (.lst (vs ++ [V.ref p])) := upd_same
    generalize upd (upd H4 L2 (.lst [V.ref p])) LL (.lst (vs ++ [V.ref p])) = H6 at s6 hL6 ⊢
    have E6 : Ex l H3 H6 := E4.same s6
    have t6 := E6.tups pot3
    have pot6 := E6.pot
    have each : ∀ v ∈ vs ++ [V.ref p], ∃ ss, Rp K H6 v (dI ss) ∧ ss.Sublist ps := fun v hv => by
      rcases List.mem_append.mp hv with h | h
      · obtain ⟨s', r', u'⟩ := hvs v h
        exact ⟨s', r'.mono s6.tups, u'⟩
      · rw [List.mem_singleton] at h
        subst h
        exact ⟨ps, Rp.ofI (t6.sq qp), List.Sublist.refl _⟩
    have rW6 := rW.mono t6
    refine ⟨LL, rfl, ⟨_, SqL.of hL6⟩, ?_⟩
    refine for_list (xs := vs ++ [V.ref p]) (fun j σ H' => Ex l H6 H' ∧ ∃ v4 v5 v6 v7 v8 v9 v10, σ = [some (.ref a), some (.int (0 + i)), some (.ref l), some (.ref wa), v4, v5, v6, v7, v8, v9, v10]) ⟨Ex.refl pot6, _, _, _, _, _, _, _, rfl⟩ (fun j σ H' _ ⟨e', _⟩ => SqL.of (e'.keep _ _ nL hL6)) ?_ ?_
    · rintro j y σ H7 hy ⟨E7, v4, v5, v6, v7, v8, v9, v10, rfl⟩
      obtain ⟨ss, rs6, sub⟩ := each y (List.mem_of_getElem? hy)
      obtain ⟨b, rfl, qb6⟩ := rs6.toI
      have t7 := E7.tups pot6
      have lss : ss.length ≤ 24 := Nat.le_trans sub.length_le few
      have ndss : ss.Nodup := sub.nodup (rise_nodup W.rise)
      have subm : ∀ x ∈ ss, x ∈ ps := fun x hx => sub.subset hx
      have rW7 : ∀ H', Ex l H6 H' → Rp K H' (.ref wa) (dW ps ts) := fun H' e => rW6.mono (e.tups pot6)
      have rs7 : ∀ H', Ex l H6 H' → Rp K H' (.ref b) (dI ss) := fun H' e => rs6.mono (e.tups pot6)
      refine ⟨_, rfl, Nat.zero_le _, fun u hu => ?_⟩
      have E8 := E7.same (same_new hu (.tup []))
      refine ⟨dI ss, dI [], rs7 _ E8, Rp.ofI (SqT.of upd_same), can_I _, can_I _, by rw [dep_I]; decide, ?_⟩
      generalize upd H7 u (.tup []) = H8 at E8 ⊢
      rw [eqv_I]
      have b4 : ∀ b : Bool, (0 : Int) ≤ 4 * (if b = true then 1 else 0) ∧ 4 * (if b = true then (1 : Int) else 0) ≤ 4 := fun b => by cases b <;> decide
      refine .inr ⟨_, rfl, _, _, rfl, rfl, .inl ⟨by decide, by decide⟩, _, rfl, ?_, ?_, ?_⟩
      · have := (b4 (!decide (ss = []))).1
        show -(2 ^ 62) ≤ (4 : Int) * (if (!decide (ss = [])) = true then 1 else 0)
        omega
      · have := (b4 (!decide (ss = []))).2
        show (4 : Int) * (if (!decide (ss = [])) = true then 1 else 0) < 2 ^ 62
        omega
      have nn : ∀ k, k < ((4 : Int) * (if (!decide (ss = [])) = true then 1 else 0)).toNat → ss ≠ [] := fun k hk z => by
        rw [decide_eq_true z] at hk
        exact absurd hk (by show ¬ k < 0; omega)
      show ∃ W, _
      refine for_range (lo := 0) (n := ((4 : Int) * (if (!decide (ss = [])) = true then 1 else 0)).toNat) (fun k σ H' => Ex l H6 H' ∧ ∃ v5 v6 v7 v8 v9 v10, σ = [some (.ref a), some (.int (0 + i)), some (.ref l), some (.ref wa), some (.ref b), v5, v6, v7, v8, v9, v10]) ⟨E8, _, _, _, _, _, _, rfl⟩ ?_ ?_
      · clear E8
        rintro k σ H8 hk ⟨E8, v5, v6, v7, v8, v9, v10, rfl⟩
        have ne := nn k hk
        have lpos : 0 < ss.length := by
          cases e : ss with
          | nil => exact absurd e ne
          | cons x r => rw [List.length_cons]; omega
        have lm : (ss.map V.int).length = ss.length := List.length_map _
        have q8 := (E8.tups pot6).sq qb6
        refine ⟨_, rfl, _, rfl, _, rfl, b, _, rfl, .inr q8, l, _, rfl, E8.pot, by rw [lm]; omega, by rw [lm]; omega, fun o1 g1 q1 c1 o10 o11 g10 => ?_⟩
        have E9 := E8.trans (Ex.pick (q := q1) (c := c1) g10)
        generalize upd H8 l (.lst [.int g1, .int q1, .int c1]) = H9 at E9 ⊢
        rw [lm] at o11
        obtain ⟨one, hone, aone⟩ := atI_mem (ns := ss) o10 o11
        have q9 := (E9.tups pot6).sq qb6
        refine ⟨b, _, _, _, rfl, rfl, q9, aone, ?_⟩
        refine ⟨_, rfl, _, rfl, _, rfl, b, _, rfl, .inr q9, l, _, rfl, E9.pot, by rw [lm]; omega, by rw [lm]; omega, fun o2 g2 q2 c2 o20 o21 g20 => ?_⟩
        have E10 := E9.trans (Ex.pick (q := q2) (c := c2) g20)
        generalize upd H9 l (.lst [.int g2, .int q2, .int c2]) = H10 at E10 ⊢
        rw [lm] at o21
        obtain ⟨goal, hgoal, agoal⟩ := atI_mem (ns := ss) o20 o21
        refine ⟨b, _, _, _, rfl, rfl, (E10.tups pot6).sq qb6, agoal, _, _, rfl, ?_⟩
        refine ⟨_, rfl, _, rfl, _, rfl, _, rfl, .ref wa, .ref b, one, goal, ps, ss, ts, rfl, rW7 _ E10, rs7 _ E10, W, subm, ndss, lss, hone, hgoal, fun vd H11 s11 told => ?_⟩
        have E11 := E10.same s11
        refine ⟨2, rfl, by decide, by decide, ?_⟩
        refine for_range (lo := 0) (n := 2) (fun m σ H' => Ex l H6 H' ∧ Same H11 H' ∧ ∃ v9 v10, σ = [some (.ref a), some (.int (0 + i)), some (.ref l), some (.ref wa), some (.ref b), some (.int (0 + k)), some (.int one), some (.int goal), some vd, v9, v10]) ⟨E11, Same.refl _, _, _, rfl⟩ ?_ ?_
        · rintro m σ H12 hm ⟨E12, s12, v9, v10, rfl⟩
          refine ⟨_, rfl, _, rfl, _, rfl, _, rfl, .ref wa, .ref b, one, goal, ps, ss, ts, rfl, rW7 _ E12, rs7 _ E12, W, subm, ndss, lss, hone, hgoal, fun vf H13 s13 told' => ?_⟩
          have E13 := E12.same s13
          have s13' := s12.trans s13
          rcases told with ⟨rfl, no⟩ | ⟨n1, path, w1, r1⟩
          · rcases told' with ⟨rfl, _⟩ | ⟨n2, path2, w2, r2⟩
            · refine ⟨_, rfl, rfl, _, rfl, ?_⟩
              refine ⟨_, rfl, rfl, _, rfl, ?_⟩
              refine ⟨_, rfl, rfl, _, rfl, ?_⟩
              exact ⟨E13, s13', _, _, rfl⟩
            · exact absurd w2.dist.1 (no n2)
          · rcases told' with ⟨rfl, no⟩ | ⟨n2, path2, w2, r2⟩
            · exact absurd w1.dist.1 (no n1)
            · have e := w1.uniq' w2
              subst e
              have lw : path.length ≤ 1000 := by
                have h1 := w1.length
                have h2 := w1.dist.few hgoal
                omega
              obtain ⟨ad, rfl, qd⟩ := r1.toI
              refine ⟨_, rfl, rfl, _, rfl, ?_⟩
              refine ⟨_, rfl, rfl, _, rfl, ?_⟩
              refine ⟨_, rfl, _, rfl, vf, .ref ad, dI path, rfl, r2, r1.mono s13'.tups, it_I 2 path lw, fun H14 s14 => ?_⟩
              refine ⟨true, rfl, ?_⟩
              exact ⟨E13.same s14, s13'.trans s14, _, _, rfl⟩
        · rintro σ H12 ⟨E12, s12, v9, v10, rfl⟩
          exact ⟨E12, _, _, _, _, _, _, rfl⟩
      · clear E8
        rintro σ H8 ⟨E8, v5, v6, v7, v8, v9, v10, rfl⟩
        refine ⟨_, rfl, Nat.zero_le _, fun u hu => ?_⟩
        have E9 := E8.same (same_new hu (.tup []))
        refine ⟨dI ss, dI [], rs7 _ E9, Rp.ofI (SqT.of upd_same), can_I _, can_I _, by rw [dep_I]; decide, _, rfl, ?_⟩
        generalize upd H8 u (.tup []) = H9 at E9 ⊢
        rw [eqv_I]
        refine ite2 (fun c1 => ?_) (fun c1 => ?_)
        · have c1 : (!decide (ss = [])) = true := c1
          obtain ⟨g0, r0, rfl⟩ : ∃ g0 r0, ss = g0 :: r0 := by
            cases e : ss with
            | nil => rw [e] at c1; exact absurd c1 Bool.false_ne_true
            | cons x r => exact ⟨x, r, rfl⟩
          have q9 := (E9.tups pot6).sq qb6
          have at0 : atI ((g0 :: r0).map V.int) 0 = some (V.int g0) := atI_nat (j := 0) rfl
          refine ⟨_, rfl, _, rfl, _, rfl, b, _, 0, _, rfl, rfl, q9, at0, _, rfl, b, _, 0, _, rfl, rfl, q9, at0, .ref wa, .ref b, g0, g0, ps, _, ts, rfl, rW7 _ E9, rs7 _ E9, W, subm, ndss, lss, List.mem_cons_self, List.mem_cons_self, fun v H10 s10 told => ?_⟩
          have E10 := E9.same s10
          rcases told with ⟨_, no⟩ | ⟨n1, path, w1, r1⟩
          · exact absurd rfl (no 0)
          have e := w1.uniq' Way.stop
          subst e
          refine ⟨_, rfl, 1, rfl, b, _, rfl, (E10.tups pot6).sq qb6, fun r H11 s11 qr => ?_⟩
          have ec : cutV ((g0 :: r0).map V.int) none (some 1) = [g0].map V.int := cut_lo (g0 :: r0) 1 (by rw [List.length_cons]; omega)
          rw [ec] at qr
          refine ⟨dI [g0], dI [g0], r1.mono s11.tups, Rp.ofI qr, can_I _, can_I _, by rw [dep_I]; decide, _, rfl, ?_⟩
          rw [eqv_I, decide_eq_true rfl]
          exact ⟨E10.same s11, _, _, _, _, _, _, _, rfl⟩
        · exact ite_f rfl ⟨E9, _, _, _, _, _, _, _, rfl⟩
    · rintro σ H7 ⟨E7, v4, v5, v6, v7, v8, v9, v10, rfl⟩
      exact ⟨Ex.same0 s3 nl (E6.trans E7), _, _, _, _, _, _, _, _, _, _, rfl⟩
  · rintro σ H1 ⟨s1, v1, v2, v3, v4, v5, v6, v7, v8, v9, v10, rfl⟩
    exact q H1
end
end K4
end

section
set_option Elab.async false
set_option linter.all false
set_option maxRecDepth 100000
set_option maxHeartbeats 4000000
namespace K4
open PySem L2 PyProof.Rows
theorem all_mk {l : PySem.W.OpenLaw} {w : World} {K : PySem.W.Frag} {h : Heap} {mg : Str → Option Value} {fa f1 f2 f3 f4 f5 f6 f7 f8 f9 f10 f11 f12 f13 : Addr} (X : K.In h) (G : h.Ns mainGlobals mg) (hfa : mg "law" = some (.ref fa))
    {od1 an1 od2 an2 od3 an3 od4 an4 od5 an5 od6 an6 od7 an7 od8 an8 od9 an9 od10 an10 od11 an11 od12 an12 od13 an13 : Option Addr} {sl1 sl2 sl3 sl4 sl5 sl6 sl7 sl8 sl9 sl10 sl11 sl12 sl13 : Array (Option Value)} {oc1 kV1 dc1 pm1 cd1 ct1 oc2 kV2 dc2 pm2 cd2 ct2 oc3 kV3 dc3 pm3 cd3 ct3 oc4 kV4 dc4 pm4 cd4 ct4 oc5 kV5 dc5 pm5 cd5 ct5 oc6 kV6 dc6 pm6 cd6 ct6 oc7 kV7 dc7 pm7 cd7 ct7 oc8 kV8 dc8 pm8 cd8 ct8 oc9 kV9 dc9 pm9 cd9 ct9 oc10 kV10 dc10 pm10 cd10 ct10 oc11 kV11 dc11 pm11 cd11 ct11 oc12 kV12 dc12 pm12 cd12 ct12 oc13 kV13 dc13 pm13 cd13 ct13 : Value}
    (a1 : PySem.W.nsIn K mainGlobals "nears" = some (some (.ref f1))) (l1 : K.lookup f1 = some ⟨oc1, od1, .func (PySem.W.fnOf "nears" "nears" (defArgs s_nears) (defBody s_nears) (defScope s_nears) .none kV1 dc1 pm1 an1 cd1 ct1), sl1⟩) (c1 : PySem.W.codeIn K cd1 "nears" = true) (k1 : PySem.W.keepIn K (.ref f1) = true)
    (a2 : PySem.W.nsIn K mainGlobals "steps_from" = some (some (.ref f2))) (l2 : K.lookup f2 = some ⟨oc2, od2, .func (PySem.W.fnOf "steps_from" "steps_from" (defArgs s_steps_from) (defBody s_steps_from) (defScope s_steps_from) .none kV2 dc2 pm2 an2 cd2 ct2), sl2⟩) (c2 : PySem.W.codeIn K cd2 "steps_from" = true) (k2 : PySem.W.keepIn K (.ref f2) = true)
    (a3 : PySem.W.nsIn K mainGlobals "way" = some (some (.ref f3))) (l3 : K.lookup f3 = some ⟨oc3, od3, .func (PySem.W.fnOf "way" "way" (defArgs s_way) (defBody s_way) (defScope s_way) .none kV3 dc3 pm3 an3 cd3 ct3), sl3⟩) (c3 : PySem.W.codeIn K cd3 "way" = true) (k3 : PySem.W.keepIn K (.ref f3) = true)
    (a4 : PySem.W.nsIn K mainGlobals "_law_cell" = some (some (.ref f4))) (l4 : K.lookup f4 = some ⟨oc4, od4, .func (PySem.W.fnOf "_law_cell" "_law_cell" (defArgs s_law_cell) (defBody s_law_cell) (defScope s_law_cell) .none kV4 dc4 pm4 an4 cd4 ct4), sl4⟩) (c4 : PySem.W.codeIn K cd4 "_law_cell" = true) (k4 : PySem.W.keepIn K (.ref f4) = true)
    (a5 : PySem.W.nsIn K mainGlobals "_law_left" = some (some (.ref f5))) (l5 : K.lookup f5 = some ⟨oc5, od5, .func (PySem.W.fnOf "_law_left" "_law_left" (defArgs s_law_left) (defBody s_law_left) (defScope s_law_left) .none kV5 dc5 pm5 an5 cd5 ct5), sl5⟩) (c5 : PySem.W.codeIn K cd5 "_law_left" = true) (k5 : PySem.W.keepIn K (.ref f5) = true)
    (a6 : PySem.W.nsIn K mainGlobals "_law_pick" = some (some (.ref f6))) (l6 : K.lookup f6 = some ⟨oc6, od6, .func (PySem.W.fnOf "_law_pick" "_law_pick" (defArgs s_law_pick) (defBody s_law_pick) (defScope s_law_pick) .none kV6 dc6 pm6 an6 cd6 ct6), sl6⟩) (c6 : PySem.W.codeIn K cd6 "_law_pick" = true) (k6 : PySem.W.keepIn K (.ref f6) = true)
    (a7 : PySem.W.nsIn K mainGlobals "_law_web" = some (some (.ref f7))) (l7 : K.lookup f7 = some ⟨oc7, od7, .func (PySem.W.fnOf "_law_web" "_law_web" (defArgs s_law_web) (defBody s_law_web) (defScope s_law_web) .none kV7 dc7 pm7 an7 cd7 ct7), sl7⟩) (c7 : PySem.W.codeIn K cd7 "_law_web" = true) (k7 : PySem.W.keepIn K (.ref f7) = true)
    (a8 : PySem.W.nsIn K mainGlobals "_law_some" = some (some (.ref f8))) (l8 : K.lookup f8 = some ⟨oc8, od8, .func (PySem.W.fnOf "_law_some" "_law_some" (defArgs s_law_some) (defBody s_law_some) (defScope s_law_some) .none kV8 dc8 pm8 an8 cd8 ct8), sl8⟩) (c8 : PySem.W.codeIn K cd8 "_law_some" = true) (k8 : PySem.W.keepIn K (.ref f8) = true)
    (a9 : PySem.W.nsIn K mainGlobals "_law_same" = some (some (.ref f9))) (l9 : K.lookup f9 = some ⟨oc9, od9, .func (PySem.W.fnOf "_law_same" "_law_same" (defArgs s_law_same) (defBody s_law_same) (defScope s_law_same) .none kV9 dc9 pm9 an9 cd9 ct9), sl9⟩) (c9 : PySem.W.codeIn K cd9 "_law_same" = true) (k9 : PySem.W.keepIn K (.ref f9) = true)
    (a10 : PySem.W.nsIn K mainGlobals "_law_lattice" = some (some (.ref f10))) (l10 : K.lookup f10 = some ⟨oc10, od10, .func (PySem.W.fnOf "_law_lattice" "_law_lattice" (defArgs s_law_lattice) (defBody s_law_lattice) (defScope s_law_lattice) .none kV10 dc10 pm10 an10 cd10 ct10), sl10⟩) (c10 : PySem.W.codeIn K cd10 "_law_lattice" = true) (k10 : PySem.W.keepIn K (.ref f10) = true)
    (a11 : PySem.W.nsIn K mainGlobals "_law_far" = some (some (.ref f11))) (l11 : K.lookup f11 = some ⟨oc11, od11, .func (PySem.W.fnOf "_law_far" "_law_far" (defArgs s_law_far) (defBody s_law_far) (defScope s_law_far) .none kV11 dc11 pm11 an11 cd11 ct11), sl11⟩) (c11 : PySem.W.codeIn K cd11 "_law_far" = true) (k11 : PySem.W.keepIn K (.ref f11) = true)
    (a12 : PySem.W.nsIn K mainGlobals "_law_least" = some (some (.ref f12))) (l12 : K.lookup f12 = some ⟨oc12, od12, .func (PySem.W.fnOf "_law_least" "_law_least" (defArgs s_law_least) (defBody s_law_least) (defScope s_law_least) .none kV12 dc12 pm12 an12 cd12 ct12), sl12⟩) (c12 : PySem.W.codeIn K cd12 "_law_least" = true) (k12 : PySem.W.keepIn K (.ref f12) = true)
    (a13 : PySem.W.nsIn K mainGlobals "law" = some (some (.ref f13))) (l13 : K.lookup f13 = some ⟨oc13, od13, .func (PySem.W.fnOf "law" "law" (defArgs s_law) (defBody s_law) (defScope s_law) .none kV13 dc13 pm13 an13 cd13 ct13), sl13⟩) (c13 : PySem.W.codeIn K cd13 "law" = true) (k13 : PySem.W.keepIn K (.ref f13) = true)
    (z_tuple : PySem.W.nsIn K mainGlobals "tuple" = some none)
    (z_sorted : PySem.W.nsIn K mainGlobals "sorted" = some none)
    (z_len : PySem.W.nsIn K mainGlobals "len" = some none)
    (z_min : PySem.W.nsIn K mainGlobals "min" = some none)
    (z_abs : PySem.W.nsIn K mainGlobals "abs" = some none)
    (z_int : PySem.W.nsIn K mainGlobals "int" = some none)
    (z_range : PySem.W.nsIn K mainGlobals "range" = some none)
    (z_isinstance : PySem.W.nsIn K mainGlobals "isinstance" = some none)
    (z_bool : PySem.W.nsIn K mainGlobals "bool" = some none)
    (z_all : PySem.W.nsIn K mainGlobals "all" = some none)
    (z_zip : PySem.W.nsIn K mainGlobals "zip" = some none)
    (z_max : PySem.W.nsIn K mainGlobals "max" = some none)
    (z_any : PySem.W.nsIn K mainGlobals "any" = some none)
    : ∃ fd : FuncData, (∀ (s : Shared) (v : Value), BindsTo s fd ⟨[v], []⟩ [("_law_script", v)]) ∧ ∀ base : Heap, K.In base → base.Ns mainGlobals mg → FnOk l.prog w K mg base CX0 5 fa fd ["_law_script"] (spLaw K) := by
  have e := hfa.symm.trans (PySem.W.mg_of X G a13)
  cases e
  have F1 := fun_mk (st := s_nears) l1 c1 k1
  have b1 := F1.binds (ps := ["web"]) fun _ _ _ _ _ _ us hl => match us, hl with | [_], _ => rfl
  have m1 := PySem.W.mg_of X G a1
  have F2 := fun_mk (st := s_steps_from) l2 c2 k2
  have b2 := F2.binds (ps := ["beside", "some", "start"]) fun _ _ _ _ _ _ us hl => match us, hl with | [_, _, _], _ => rfl
  have m2 := PySem.W.mg_of X G a2
  have F3 := fun_mk (st := s_way) l3 c3 k3
  have b3 := F3.binds (ps := ["web", "some", "one", "other"]) fun _ _ _ _ _ _ us hl => match us, hl with | [_, _, _, _], _ => rfl
  have m3 := PySem.W.mg_of X G a3
  have F4 := fun_mk (st := s_law_cell) l4 c4 k4
  have b4 := F4.binds (ps := ["_law_script", "_law_k"]) fun _ _ _ _ _ _ us hl => match us, hl with | [_, _], _ => rfl
  have m4 := PySem.W.mg_of X G a4
  have F5 := fun_mk (st := s_law_left) l5 c5 k5
  have b5 := F5.binds (ps := ["_law_script", "_law_k"]) fun _ _ _ _ _ _ us hl => match us, hl with | [_, _], _ => rfl
  have m5 := PySem.W.mg_of X G a5
  have F6 := fun_mk (st := s_law_pick) l6 c6 k6
  have b6 := F6.binds (ps := ["_law_left_here", "_law_many"]) fun _ _ _ _ _ _ us hl => match us, hl with | [_, _], _ => rfl
  have m6 := PySem.W.mg_of X G a6
  have F7 := fun_mk (st := s_law_web) l7 c7 k7
  have b7 := F7.binds (ps := ["_law_left_here", "_law_most"]) fun _ _ _ _ _ _ us hl => match us, hl with | [_, _], _ => rfl
  have m7 := PySem.W.mg_of X G a7
  have F8 := fun_mk (st := s_law_some) l8 c8 k8
  have b8 := F8.binds (ps := ["_law_left_here", "_law_places"]) fun _ _ _ _ _ _ us hl => match us, hl with | [_, _], _ => rfl
  have m8 := PySem.W.mg_of X G a8
  have F9 := fun_mk (st := s_law_same) l9 c9 k9
  have b9 := F9.binds (ps := ["_law_found", "_law_due"]) fun _ _ _ _ _ _ us hl => match us, hl with | [_, _], _ => rfl
  have m9 := PySem.W.mg_of X G a9
  have F10 := fun_mk (st := s_law_lattice) l10 c10 k10
  have b10 := F10.binds (ps := ["_law_left_here"]) fun _ _ _ _ _ _ us hl => match us, hl with | [_], _ => rfl
  have m10 := PySem.W.mg_of X G a10
  have F11 := fun_mk (st := s_law_far) l11 c11 k11
  have b11 := F11.binds (ps := ["_law_web_here", "_law_some_here", "_law_goal"]) fun _ _ _ _ _ _ us hl => match us, hl with | [_, _, _], _ => rfl
  have m11 := PySem.W.mg_of X G a11
  have F12 := fun_mk (st := s_law_least) l12 c12 k12
  have b12 := F12.binds (ps := ["_law_web_here", "_law_some_here", "_law_one", "_law_goal"]) fun _ _ _ _ _ _ us hl => match us, hl with | [_, _, _, _], _ => rfl
  have m12 := PySem.W.mg_of X G a12
  have F13 := fun_mk (st := s_law) l13 c13 k13
  have b13 := F13.binds (ps := ["_law_script"]) fun _ _ _ _ _ _ us hl => match us, hl with | [_], _ => rfl
  have m13 := PySem.W.mg_of X G a13
  have T : Txt mg := ⟨PySem.W.mg_none_of X G z_tuple, PySem.W.mg_none_of X G z_sorted, PySem.W.mg_none_of X G z_len, PySem.W.mg_none_of X G z_min, PySem.W.mg_none_of X G z_abs, PySem.W.mg_none_of X G z_int, PySem.W.mg_none_of X G z_range, PySem.W.mg_none_of X G z_isinstance, PySem.W.mg_none_of X G z_bool, PySem.W.mg_none_of X G z_all, PySem.W.mg_none_of X G z_zip, PySem.W.mg_none_of X G z_max, PySem.W.mg_none_of X G z_any⟩
  refine ⟨PySem.W.fnOf "law" "law" (defArgs s_law) (defBody s_law) (defScope s_law) .none kV13 dc13 pm13 an13 cd13 ct13, fun s v => .of_eq rfl, fun base _ _ => ?_⟩
  have C_nears : Call1 l.prog w K mg base "nears" ["web"] 1 (spNears K) := ⟨f1, _, ok_nears F1 T, b1, F1.kp, m1⟩
  have C_steps_from : Call1 l.prog w K mg base "steps_from" ["beside", "some", "start"] 1 (spSteps K) := ⟨f2, _, ok_steps F2 T, b2, F2.kp, m2⟩
  have C_way : Call1 l.prog w K mg base "way" ["web", "some", "one", "other"] 2 (spWay K) := ⟨f3, _, ok_way F3 T C_nears C_steps_from, b3, F3.kp, m3⟩
  have C_law_cell : Call1 l.prog w K mg base "_law_cell" ["_law_script", "_law_k"] 1 (spCell K) := ⟨f4, _, ok_cell F4 T, b4, F4.kp, m4⟩
  have C_law_left : Call1 l.prog w K mg base "_law_left" ["_law_script", "_law_k"] 2 (spLeft K) := ⟨f5, _, ok_left F5 T C_law_cell, b5, F5.kp, m5⟩
  have C_law_pick : Call1 l.prog w K mg base "_law_pick" ["_law_left_here", "_law_many"] 1 (spPick) := ⟨f6, _, ok_pick F6, b6, F6.kp, m6⟩
  have C_law_web : Call1 l.prog w K mg base "_law_web" ["_law_left_here", "_law_most"] 2 (spWeb K) := ⟨f7, _, ok_web F7 T C_law_pick, b7, F7.kp, m7⟩
  have C_law_some : Call1 l.prog w K mg base "_law_some" ["_law_left_here", "_law_places"] 2 (spSome K) := ⟨f8, _, ok_some F8 T C_law_pick, b8, F8.kp, m8⟩
  have C_law_same : Call1 l.prog w K mg base "_law_same" ["_law_found", "_law_due"] 4 (spSame K 4) := ⟨f9, _, same_all F9 T b9 m9 4, b9, F9.kp, m9⟩
  have C_law_lattice : Call1 l.prog w K mg base "_law_lattice" ["_law_left_here"] 2 (spLat K) := ⟨f10, _, ok_lat F10 T C_law_pick, b10, F10.kp, m10⟩
  have C_law_far : Call1 l.prog w K mg base "_law_far" ["_law_web_here", "_law_some_here", "_law_goal"] 1 (spFar K) := ⟨f11, _, ok_far F11 T, b11, F11.kp, m11⟩
  have C_law_least : Call1 l.prog w K mg base "_law_least" ["_law_web_here", "_law_some_here", "_law_one", "_law_goal"] 2 (spWay K) := ⟨f12, _, ok_least F12 T C_law_far, b12, F12.kp, m12⟩
  exact ok_law F13 T C_law_some C_way C_law_same C_law_least C_law_pick C_law_lattice C_law_web C_law_left
theorem walk {l : PySem.W.OpenLaw} {q : Program} {loose : List Str} {XP : (Str → Option Value) → Heap → Prop} {YP : World → Heap → Prop} {d : DefRec} {K : Params → PySem.W.Frag} (hn : l.most = some 63) (hdf : d.params.defaults = [])
    (hY : ∀ (w : World) (h : Heap), YP w h → (K w.params).In h)
    (F : ∀ (w : World) (mg : Str → Option Value) (fa : Addr) (h : Heap), (K w.params).In h → h.Ns mainGlobals mg → mg d.name = some (.ref fa) →
      ∃ fd : FuncData, (∀ (s : Shared) (u : Value), BindsTo s fd ⟨[u], []⟩ [("_law_script", u)]) ∧ ∀ base : Heap, (K w.params).In base → base.Ns mainGlobals mg → FnOk l.prog w (K w.params) mg base CX0 5 fa fd ["_law_script"] (spLaw (K w.params))) :
    PySem.W.WalkO q loose XP YP l.row.toRowW d [] (fun f vs => PySem.call f vs) :=
  L2.walk_of (n := 63) (k := 5) (x := "_law_script") (CX := fun _ => CX0) (sp := fun w => spLaw (K w.params)) hn (by decide) hdf ⟨rfl, by decide, by decide⟩ hY F (fun _ _ a ns hl _ hS => ⟨a, ns, rfl, hS, hl, fun _ => rfl⟩) fun _ _ _ _ _ z => z
end K4
open PySem PySem.W PyProof.Rows
set_option maxRecDepth 100000 in
set_option maxHeartbeats 0 in
theorem PySem.Challenge.cw_drawnweb_k04_shortest_ways_holds : PySem.Challenge.rw_drawnweb_k04_shortest_ways.Holds := by
  w_on; o_law; k_head; (case hw => w_witness2)
  k_fill
  refine K4.walk (l := PySem.Challenge.rw_drawnweb_k04_shortest_ways) rfl rfl (fun w h Y => PySem.W.kIn_of Y) ?F
  case F =>
    intro w mg fa h KX G hmg
    refine' K4.all_mk KX G hmg ?a1 ?l1 ?c1 ?k1 ?a2 ?l2 ?c2 ?k2 ?a3 ?l3 ?c3 ?k3 ?a4 ?l4 ?c4 ?k4 ?a5 ?l5 ?c5 ?k5 ?a6 ?l6 ?c6 ?k6 ?a7 ?l7 ?c7 ?k7 ?a8 ?l8 ?c8 ?k8 ?a9 ?l9 ?c9 ?k9 ?a10 ?l10 ?c10 ?k10 ?a11 ?l11 ?c11 ?k11 ?a12 ?l12 ?c12 ?k12 ?a13 ?l13 ?c13 ?k13 ?z_tuple ?z_sorted ?z_len ?z_min ?z_abs ?z_int ?z_range ?z_isinstance ?z_bool ?z_all ?z_zip ?z_max ?z_any
    (case a1 => k_is); (case l1 => k_is); (case c1 => k_is); (case k1 => k_is)
    (case a2 => k_is); (case l2 => k_is); (case c2 => k_is); (case k2 => k_is)
    (case a3 => k_is); (case l3 => k_is); (case c3 => k_is); (case k3 => k_is)
    (case a4 => k_is); (case l4 => k_is); (case c4 => k_is); (case k4 => k_is)
    (case a5 => k_is); (case l5 => k_is); (case c5 => k_is); (case k5 => k_is)
    (case a6 => k_is); (case l6 => k_is); (case c6 => k_is); (case k6 => k_is)
    (case a7 => k_is); (case l7 => k_is); (case c7 => k_is); (case k7 => k_is)
    (case a8 => k_is); (case l8 => k_is); (case c8 => k_is); (case k8 => k_is)
    (case a9 => k_is); (case l9 => k_is); (case c9 => k_is); (case k9 => k_is)
    (case a10 => k_is); (case l10 => k_is); (case c10 => k_is); (case k10 => k_is)
    (case a11 => k_is); (case l11 => k_is); (case c11 => k_is); (case k11 => k_is)
    (case a12 => k_is); (case l12 => k_is); (case c12 => k_is); (case k12 => k_is)
    (case a13 => k_is); (case l13 => k_is); (case c13 => k_is); (case k13 => k_is)
    (case z_tuple => k_is); (case z_sorted => k_is); (case z_len => k_is); (case z_min => k_is); (case z_abs => k_is); (case z_int => k_is); (case z_range => k_is); (case z_isinstance => k_is); (case z_bool => k_is); (case z_all => k_is); (case z_zip => k_is); (case z_max => k_is); (case z_any => k_is)
end
