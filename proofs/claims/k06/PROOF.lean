import PyProof.Rows.All
import Wide.All
import OpenK.AllK
import Wide.FinOn
import Lean
import PyProof.EqAt
import PyProof.EqKinds
import PyProof.TupleCall
import KE.KDictOf
import PyProof.AttrMissHeap
import PyProof.ReprRoads
import PySem.Challenge.RW_drawnweb_k06_deeds_of_a_web
set_option Elab.async false
set_option linter.all false
set_option maxRecDepth 100000
set_option maxHeartbeats 0
theorem oB {α β : Type _} {x : Option α} {f : α → Option β} {b : β} (h : x.bind f = some b) : ∃ a, x = some a ∧ f a = some b := Option.bind_eq_some_iff.mp h
theorem lR {α : Type _} {a : α} (as : List α) {bs : List α} (h : a ∈ bs) : a ∈ as ++ bs := List.mem_append_right as h
theorem lL {α : Type _} {a : α} {as : List α} (bs : List α) (h : a ∈ as) : a ∈ as ++ bs := List.mem_append_left bs h
theorem lM {α : Type _} {a : α} {s t : List α} (h : a ∈ s ++ t) : a ∈ s ∨ a ∈ t := List.mem_append.mp h
theorem lS {α : Type _} {a : α} {l : List α} : a ∈ a :: l := List.mem_cons_self
theorem lO {α : Type _} (y : α) {a : α} {l : List α} (h : a ∈ l) : a ∈ y :: l := List.mem_cons_of_mem y h
theorem lK {α : Type _} {a b : α} {l : List α} (h : a ∈ b :: l) : a = b ∨ a ∈ l := List.mem_cons.mp h
section
namespace L2
open PySem PySem.Spec PyProof.Rows
abbrev Key := Sum Int Str
def zfs : Key → Value → Bool
 | .inl k, v => Value.isInt k v
 | .inr x, v => Value.isStrOf x v
def keyH (w : World) : Key → Int
 | .inl k => hashInt k
 | .inr x => hashStr w x
theorem zaL : ∀ {k : Key} {v : Value}, zfs k v = true → (∃ i t, k = Sum.inl i ∧ v = Value.int i t) ∨ (∃ x t, k = Sum.inr x ∧ v = Value.str x t)
 | .inl i, v, h => by
  obtain ⟨t, e⟩ := Value.isInt_shape (k := i) (v := v) h
  exact .inl ⟨i, t, rfl, e⟩
 | .inr x, v, h => by
  obtain ⟨t, e⟩ := Value.isStrOf_shape (x := x) (v := v) h
  exact .inr ⟨x, t, rfl, e⟩
theorem zg9 (i : Int) (t : Tok) : zfs (.inl i) (.int i t) = true := by simp [zfs, Value.isInt]
theorem zha (x : Str) (t : Tok) : zfs (.inr x) (.str x t) = true := by simp [zfs, Value.isStrOf]
theorem zlf (a b : Int) : decide ((Sum.inl a : Key) = Sum.inl b) = (a == b) := by
 by_cases e : a = b
 ·subst e; simp
 ·have h : ¬ (Sum.inl a : Key) = Sum.inl b := fun q => e (Sum.inl.inj q)
  rw [decide_eq_false h]
  exact (beq_eq_false_iff_ne.mpr e).symm
theorem zlg (a b : Str) : decide ((Sum.inr a : Key) = Sum.inr b) = decide (a = b) := by
 by_cases e : a = b
 ·subst e; simp
 ·have h : ¬ (Sum.inr a : Key) = Sum.inr b := fun q => e (Sum.inr.inj q)
  rw [decide_eq_false h, decide_eq_false e]
theorem zlh (a : Int) (b : Str) : decide ((Sum.inl a : Key) = Sum.inr b) = false := decide_eq_false (fun q => nomatch q)
theorem zli (a : Str) (b : Int) : decide ((Sum.inr a : Key) = Sum.inl b) = false := decide_eq_false (fun q => nomatch q)
def zbf (prog : Program) (w : World) : PySem.KeyKind prog w Key where
 is := zfs
 hash := keyH w
 inj := fun v a b ha hb => by
  rcases zaL ha with ⟨i, t, rfl, rfl⟩ | ⟨x, t, rfl, rfl⟩
  ·rcases zaL hb with ⟨j, u, rfl, e⟩ | ⟨y, u, rfl, e⟩
   ·injection e with e1 _; rw [e1]
   ·exact nomatch e
  ·rcases zaL hb with ⟨j, u, rfl, e⟩ | ⟨y, u, rfl, e⟩
   ·exact nomatch e
   ·injection e with e1 _; rw [e1]
 byValue := fun k v h => by
  rcases zaL h with ⟨i, t, rfl, rfl⟩ | ⟨x, t, rfl, rfl⟩ <;> rfl
 pyHash := fun hv h => by
  rcases zaL hv with ⟨i, t, rfl, rfl⟩ | ⟨x, t, rfl, rfl⟩
  ·exact wpAny_pyHash_int h
  ·exact wpAny_pyHash_str h
 eqBool := fun hu hv h => by
  rcases zaL hu with ⟨i, t, rfl, rfl⟩ | ⟨x, t, rfl, rfl⟩
  ·rcases zaL hv with ⟨j, u, rfl, rfl⟩ | ⟨y, u, rfl, rfl⟩
   ·rw [zlf] at h; exact wpAny_eqBool_int h
   ·rw [zlh] at h; exact SeqAt.EqAt.int_str i t y u _ _ _ _ h
  ·rcases zaL hv with ⟨j, u, rfl, rfl⟩ | ⟨y, u, rfl, rfl⟩
   ·rw [zli] at h; exact SeqAt.EqAt.str_int x t j u _ _ _ _ h
   ·rw [zlg] at h; exact wpAny_eqBool_str h
 «strs» := fun k x t v h => by
  rcases zaL h with ⟨i, u, rfl, e⟩ | ⟨y, u, rfl, e⟩
  ·exact nomatch e
  ·injection e with e1 _
   subst e1
   cases v <;> rfl
theorem zft (prog : Program) (w : World) (i : Int) (t : Tok) : (zbf prog w).is (.inl i) (.int i t) = true := zg9 i t
theorem zfu (prog : Program) (w : World) (x : Str) (t : Tok) : (zbf prog w).is (.inr x) (.str x t) = true := zha x t
end L2
namespace L2
open PySem PySem.Spec PyProof.Rows
inductive V where
 | non | bl (b : Bool) | int (i : Int) | str (x : Str) | byt (b : Array UInt8) | flt (b : UInt64) | ref (a : Addr) | ty (n : String)
 deriving DecidableEq
def RelV : V → Value → Prop
 | .non, u => u = Value.none
 | .bl b, u => u = Value.bool b
 | .int i, u => ∃ t, u = Value.int i t
 | .str x, u => ∃ t, u = Value.str x t
 | .byt b, u => ∃ t, u = Value.bytes b t
 | .flt b, u => ∃ t, u = Value.float b t
 | .ref a, u => u = Value.ref a
 | .ty n, u => u = Value.type n
abbrev za1 : List V → List Value → Prop := Paired RelV
theorem za1.length {xs : List V} {us : List Value} (r : za1 xs us) : xs.length = us.length := Paired.length r
theorem za1.get : ∀ {xs : List V} {us : List Value} {i : Nat} {x : V}, za1 xs us → xs[i]? = some x → ∃ u, us[i]? = some u ∧ RelV x u
 | _, _, _, _, .nil, e => by simp at e
 | _, _, 0, _, .cons r _, e => by simp at e; subst e; exact ⟨_, rfl, r⟩
 | _, _, i + 1, x, .cons _ t, e => by
  obtain ⟨u, h1, h2⟩ := za1.get (i := i) (x := x) t (by simpa using e)
  exact ⟨u, by simpa using h1, h2⟩
theorem za1.set {x : V} {u : Value} (r : RelV x u) : ∀ {xs : List V} {us : List Value} (i : Nat), za1 xs us → za1 (xs.set i x) (us.set i u)
 | _, _, _, .nil => .nil
 | _, _, 0, .cons _ t => .cons r t
 | _, _, i + 1, .cons q t => .cons q (za1.set r i t)
theorem za1.append : ∀ {xs ys : List V} {us ws : List Value}, za1 xs us → za1 ys ws → za1 (xs ++ ys) (us ++ ws)
 | _, _, _, _, .nil, s => s
 | _, _, _, _, .cons r t, s => .cons r (za1.append t s)
theorem za1.take : ∀ {xs : List V} {us : List Value} (n : Nat), za1 xs us → za1 (xs.take n) (us.take n)
 | _, _, 0, _ => .nil
 | _, _, _ + 1, .nil => .nil
 | _, _, n + 1, .cons r t => .cons r (za1.take n t)
theorem za1.drop : ∀ {xs : List V} {us : List Value} (n : Nat), za1 xs us → za1 (xs.drop n) (us.drop n)
 | _, _, 0, r => r
 | _, _, _ + 1, .nil => .nil
 | _, _, n + 1, .cons _ t => za1.drop n t
def zin : Option V → Option Value → Prop
 | some v, some u => RelV v u
 | none, none => True
 | _, _ => False
def KV {κ : Type} : List (κ × V) → List (κ × Value) → Prop := Paired fun (p : κ × V) (q : κ × Value) => p.1 = q.1 ∧ RelV p.2 q.2
def kV : Key → V
 | .inl i => .int i
 | .inr x => .str x
inductive HO where
  | lst (xs : List V)
  | tup (xs : List V)
  | dK (kvs : List (Key × V)) | dT (kvs : List (List Key × V))
  | set (S : Int → Bool) (n : Nat)
  | ins (C dx : Addr) (fs : List (Str × V))
  | own (x : Addr)
  | xd (fs : List (Str × V))
  | met (f x : Addr)
  | rng (lo hi : Int)
  | frz (o : Obj) (u : HO)
  | tbl (ps : Array Value)
  | ext (φ : Heap → Prop)
abbrev Hp := Addr → Option HO
def upd (H : Hp) (a : Addr) (o : HO) : Hp := fun b => if b = a then some o else H b
theorem zaG {H : Hp} {a : Addr} {o : HO} : upd H a o a = some o := by unfold upd; rw [if_pos rfl]
theorem zaB {H : Hp} {a b : Addr} {o : HO} (h : b ≠ a) : upd H a o b = H b := by unfold upd; rw [if_neg h]
theorem zjU {H : Hp} {a b : Addr} {o u : HO} (h : H a = some o) (h' : H b = some u) (d : o ≠ u) : a ≠ b := by
 intro e; subst e; rw [h] at h'; exact d (Option.some.inj h')
theorem zaP {H : Hp} {a b : Addr} {o : HO} (h : H a = some o) (h' : H b = none) : a ≠ b := by
 intro e; subst e; rw [h] at h'; cases h'
section
variable (P : Program) (w : World)
def zbN (H : Hp) (h : Heap) (a : Addr) : HO → Prop
 | .lst xs => xs.length ≤ sizeLine ∧ ∃ (its : List Value) (n : Nat), za1 xs its ∧ h.get? a = some { cls := .type "list", data := .seq its.toArray n }
 | .tup xs => xs.length ≤ sizeLine ∧ ∃ its : List Value, za1 xs its ∧ IsTup h a its.toArray
 | .dK kvs => kvs.length ≤ sizeLine ∧ (a == sysModules) = false ∧ ∃ vs, KV kvs vs ∧ h.DictOf (zbf P w) a vs
 | .dT kvs => kvs.length ≤ sizeLine ∧ (a == sysModules) = false ∧ ∃ xs : List (List Key × Addr × Value),
   Paired (fun (p : List Key × V) (q : List Key × Addr × Value) => p.1 = q.1 ∧ H q.2.1 = some (.tup (p.1.map kV)) ∧ RelV p.2 q.2.2) kvs xs ∧
   ∃ o es ep, h.get? a = some o ∧ o.ExactDict ∧ o.data = .dict es ep ∧ es.toList = xs.map (entryOfKey (tupleKind (zbf P w))) ∧ (xs.map (·.1)).Nodup
 | .set S n => h.SetOf (intKind P w) a S n
 | .ins C dx fs => H dx = some (.own a) ∧ fs.length ≤ 1000 ∧ dx ≠ a ∧ h.get? a = some (PySem.W.instObj C dx) ∧
   ∃ mA, h.Ns1 dx mA ∧ (∀ f, zin (fs.lookup f) (mA f)) ∧ PySem.Within mA (fs.map (·.1))
 | .own _ => ∃ o, h.get? a = some o
 | .xd fs => ∃ mA, h.Ns1 a mA ∧ ∀ f, zin (fs.lookup f) (mA f)
 | .rng lo hi => ∃ t u v, h.get? a = some { cls := .type "range", data := .fields #[.int lo t, .int hi u, .int 1 v] }
 | .frz o u => h.get? a = some o ∧ zbN H h a u
 | .tbl ps => h.get? a = some { cls := .none, data := .fields ps }
 | .met f x => h.get? a = some (PySem.W.methodObj (.ref f) (.ref x))
 | .ext φ => φ h ∧ (∃ o, h.get? a = some o) ∧ ∀ h1 h2 : Heap, φ h1 → (∀ o, h1.get? a = some o → h2.get? a = some o) → φ h2
def HOk (H : Hp) (h : Heap) : Prop := ∀ a o, H a = some o → zbN P w H h a o
end
section
variable {P : Program} {w : World} {H H' : Hp} {h h' : Heap} {a : Addr} {o : HO}
theorem zbN.lt (x : zbN P w H h a o) : a < h.objs.size := by
 cases o with
 | lst xs => obtain ⟨_, _, _, _, e⟩ := x; exact Heap.lt_size e
 | tup xs => obtain ⟨_, _, _, p⟩ := x; exact p.lt
 | dK kvs => obtain ⟨_, _, _, _, o, _, _, e, _⟩ := x; exact Heap.lt_size e
 | dT kvs => obtain ⟨_, _, _, _, o, _, _, e, _⟩ := x; exact Heap.lt_size e
 | set S n => obtain ⟨o, _, _, _, e, _⟩ := x; exact Heap.lt_size e
 | ins C dx fs => obtain ⟨_, _, _, e, _⟩ := x; exact Heap.lt_size e
 | own y => obtain ⟨_, e⟩ := x; exact Heap.lt_size e
 | xd fs => obtain ⟨_, ⟨_, _, _, e, _⟩, _⟩ := x; exact Heap.lt_size e
 | rng lo hi => obtain ⟨_, _, _, e⟩ := x; exact Heap.lt_size e
 | frz ob u => obtain ⟨e, _⟩ := x; exact Heap.lt_size e
 | tbl ps => exact Heap.lt_size (show h.get? a = some _ from x)
 | met f y => exact Heap.lt_size (show h.get? a = some _ from x)
 | ext φ => obtain ⟨_, ⟨_, e⟩, _⟩ := x; exact Heap.lt_size e
theorem Paired.mapP {α β : Type} {F G : α → β → Prop} : ∀ {l₁ : List α} {l₂ : List β}, Paired F l₁ l₂ → (∀ a b, F a b → G a b) → Paired G l₁ l₂
 | _, _, .nil, _ => .nil
 | _, _, .cons r t, f => .cons (f _ _ r) (Paired.mapP t f)
theorem zbN.stay (x : zbN P w H h a o) (k : ∀ b u, (b = a ∨ H b = some (.own a)) → h.get? b = some u → h'.get? b = some u)
  (ho : ∀ b, H b = some (.own a) → H' b = some (.own a)) (ht : ∀ b xs, H b = some (.tup xs) → H' b = some (.tup xs)) : zbN P w H' h' a o := by
 induction o with
 | lst xs => obtain ⟨z, its, n, r, e⟩ := x; exact ⟨z, its, n, r, k _ _ (.inl rfl) e⟩
 | tup xs => obtain ⟨z, its, r, ob, e, c⟩ := x; exact ⟨z, its, r, ob, k _ _ (.inl rfl) e, c⟩
 | dK kvs => obtain ⟨z, y, vs, r, ob, es, ep, e, c⟩ := x; exact ⟨z, y, vs, r, ob, es, ep, k _ _ (.inl rfl) e, c⟩
 | dT kvs =>
  obtain ⟨z, y, xs, r, ob, es, ep, e, c⟩ := x
  exact ⟨z, y, xs, Paired.mapP r fun p q z => ⟨z.1, ht _ _ z.2.1, z.2.2⟩, ob, es, ep, k _ _ (.inl rfl) e, c⟩
 | set S n => obtain ⟨ob, es, ep, t, e, c⟩ := x; exact ⟨ob, es, ep, t, k _ _ (.inl rfl) e, c⟩
 | ins C dx fs =>
  obtain ⟨d, z, ne, e, mA, ⟨od, es, ep, e2, c⟩, r⟩ := x
  exact ⟨ho _ d, z, ne, k _ _ (.inl rfl) e, mA, ⟨od, es, ep, k _ _ (.inr d) e2, c⟩, r⟩
 | own y => obtain ⟨ob, e⟩ := x; exact ⟨ob, k _ _ (.inl rfl) e⟩
 | xd fs => obtain ⟨mA, ⟨od, es, ep, e, c⟩, r⟩ := x; exact ⟨mA, ⟨od, es, ep, k _ _ (.inl rfl) e, c⟩, r⟩
 | rng lo hi => obtain ⟨t, u, v, e⟩ := x; exact ⟨t, u, v, k _ _ (.inl rfl) e⟩
 | frz ob u ih => obtain ⟨e, q⟩ := x; exact ⟨k _ _ (.inl rfl) e, ih q⟩
 | tbl ps =>
  have e : h.get? a = some { cls := .none, data := .fields ps } := x
  show h'.get? a = some { cls := .none, data := .fields ps }
  exact k a _ (.inl rfl) e
 | met f y =>
  have e : h.get? a = some (PySem.W.methodObj (.ref f) (.ref y)) := x
  show h'.get? a = some (PySem.W.methodObj (.ref f) (.ref y))
  exact k a _ (.inl rfl) e
 | ext φ => obtain ⟨p, ⟨o, e⟩, st⟩ := x; exact ⟨st _ _ p fun o q => k _ _ (.inl rfl) q, ⟨o, k _ _ (.inl rfl) e⟩, st⟩
theorem HOk.lt (x : HOk P w H h) (e : H a = some o) : a < h.objs.size := (x a o e).lt
theorem HOk.fresh (x : HOk P w H h) (e : h.objs.size ≤ a) : H a = none := by
 cases q : H a with
 | none => rfl
 | some u => exact absurd (Nat.lt_of_lt_of_le (x.lt q) e) (Nat.lt_irrefl _)
theorem HOk.kept (x : HOk P w H h) (k : ∀ b u, h.get? b = some u → h'.get? b = some u) : HOk P w H h' := fun a o e =>
 (x a o e).stay (fun b u _ q => k b u q) (fun _ q => q) fun _ _ q => q
theorem HOk.laid (x : HOk P w H h) (k : ∀ b u, h.get? b = some u → h'.get? b = some u) (hp : h.objs.size ≤ a) (new : zbN P w (upd H a o) h' a o) : HOk P w (upd H a o) h' := fun b u e => by
 have hn := x.fresh hp
 by_cases hb : b = a
 ·subst hb; rw [zaG] at e; cases e; exact new
 ·rw [zaB hb] at e
  exact (x b u e).stay (fun c v _ q => k c v q) (fun c q => by rw [zaB (zaP q hn)]; exact q) fun c xs q => by rw [zaB (zaP q hn)]; exact q
end
def Rd (H : Hp) (a : Addr) (u : HO) : Prop := H a = some u ∨ ∃ o, H a = some (.frz o u)
theorem Rd.ok {P : Program} {w : World} {H : Hp} {h : Heap} {a : Addr} {u : HO} (r : Rd H a u) (x : HOk P w H h) : zbN P w H h a u := by
 rcases r with r | ⟨o, r⟩
 ·exact x a u r
 ·obtain ⟨_, q⟩ := x a _ r
  exact q
def Mut : Option HO → Prop
 | some (.lst _) => True
 | some (.dK _) => True
 | some (.dT _) => True
 | some (.set _ _) => True
 | some (.ins _ _ _) => True
 | some (.ext _) => True
 | _ => False
section
variable {P : Program} {w : World} {H : Hp} {h h' : Heap} {x e : Addr} {o' : HO}
theorem HOk.write (ok : HOk P w H h) (mu : Mut (H x)) (he : e = x ∨ H e = some (.own x)) (k : ∀ b u, b ≠ e → h.get? b = some u → h'.get? b = some u) (heo : ∃ u, h'.get? e = some u)
  (new : zbN P w (upd H x o') h' x o') : HOk P w (upd H x o') h' := fun b u q => by
 have nown : ∀ c y, H c = some (.own y) → c ≠ x := fun c y r z => by subst z; rw [r] at mu; exact mu
 have ntup : ∀ c xs, H c = some (.tup xs) → c ≠ x := fun c xs r z => by subst z; rw [r] at mu; exact mu
 by_cases hb : b = x
 ·subst hb; rw [zaG] at q; cases q; exact new
 ·rw [zaB hb] at q
  by_cases hbe : b = e
  ·have q' : H b = some (.own x) := by
    rcases he with z | z
    ·exact absurd (hbe.trans z) hb
    ·rw [hbe]; exact z
   rw [q] at q'; cases q'
   obtain ⟨v, hv⟩ := heo
   exact ⟨v, by rw [hbe]; exact hv⟩
  ·refine (ok b u q).stay (fun c v hc r => k c v ?_ r) (fun c r => by rw [zaB (nown c b r)]; exact r) fun c xs r => by rw [zaB (ntup c xs r)]; exact r
   rcases hc with rfl | hc
   ·exact hbe
   ·rintro rfl
    rcases he with z | z
    ·exact nown c b hc z
    ·rw [hc] at z; cases z; exact hb rfl
end
structure Un (fs ex : List Addr) (H H' : Hp) (h h' : Heap) : Prop where
 keep : ∀ b o, h.get? b = some o → H b = none → b ∉ fs → b ∉ ex → h'.get? b = some o
 slot : ∀ b o, h.get? b = some o → H b = none → b ∈ fs → b ∉ ex → ∃ sl, h'.get? b = some { o with slots := sl }
 free : ∀ b o, h.get? b = some o → H b = none → b ∉ ex → H' b = none
 there : ∀ b o, h.get? b = some o → b ∉ ex → ∃ o', h'.get? b = some o'
 zca : ∀ b xs, H b = some (.tup xs) → H' b = some (.tup xs)
 zdp : ∀ b o u, H b = some (.frz o u) → H' b = some (.frz o u)
 tbls : ∀ b ps, H b = some (.tbl ps) → ∃ more, H' b = some (.tbl (ps ++ more))
section
variable {fs fs' ex ex' : List Addr} {H H1 H2 : Hp} {h h1 h2 h' : Heap} {a x e : Addr} {o : HO}
theorem Un.any (u : Un fs ex H H1 h h1) {b : Addr} {ob : Obj} (q : h.get? b = some ob) (n : H b = none) (hx : b ∉ ex) : ∃ sl, h1.get? b = some { ob with slots := sl } := by
 by_cases hb : b ∈ fs
 ·exact u.slot b ob q n hb hx
 ·exact ⟨ob.slots, u.keep b ob q n hb hx⟩
theorem Un.trans (a : Un fs ex H H1 h h1) (b : Un fs ex H1 H2 h1 h2) : Un fs ex H H2 h h2 where
 keep := fun c ob q n hc hx => b.keep c ob (a.keep c ob q n hc hx) (a.free c ob q n hx) hc hx
 slot := fun c ob q n hc hx => by
  obtain ⟨sl, e1⟩ := a.slot c ob q n hc hx
  obtain ⟨sl', e2⟩ := b.slot c _ e1 (a.free c ob q n hx) hc hx
  exact ⟨sl', e2⟩
 free := fun c ob q n hx => by
  obtain ⟨o', e1⟩ := a.there c ob q hx
  exact b.free c o' e1 (a.free c ob q n hx) hx
 there := fun c ob q hx => by
  obtain ⟨o', e1⟩ := a.there c ob q hx
  exact b.there c o' e1 hx
 zca := fun c xs q => b.zca c xs (a.zca c xs q)
 zdp := fun c ob xs q => b.zdp c ob xs (a.zdp c ob xs q)
 tbls := fun c ps q => by
  obtain ⟨m1, e1⟩ := a.tbls c ps q
  obtain ⟨m2, e2⟩ := b.tbls c _ e1
  exact ⟨m1 ++ m2, by rw [e2, Array.append_assoc]⟩
theorem Un.kept (k : ∀ b u, h.get? b = some u → h'.get? b = some u) : Un fs ex H H h h' :=
 ⟨fun b ob q _ _ _ => k b ob q, fun b ob q _ _ _ => ⟨ob.slots, k b ob q⟩, fun _ _ _ n _ => n, fun b ob q _ => ⟨ob, k b ob q⟩, fun _ _ q => q, fun _ _ _ q => q, fun _ ps q => ⟨#[], by rw [q]; simp⟩⟩
theorem Un.refl : Un fs ex H H h h := Un.kept fun _ _ q => q
theorem Un.laid (k : ∀ b u, h.get? b = some u → h'.get? b = some u) (hp : h.objs.size ≤ a) (hn : H a = none) : Un fs ex H (upd H a o) h h' where
 keep := fun b u q _ _ _ => k b u q
 slot := fun b u q _ _ _ => ⟨u.slots, k b u q⟩
 free := fun b u q n _ => by rw [zaB (Nat.ne_of_lt (Nat.lt_of_lt_of_le (Heap.lt_size q) hp))]; exact n
 there := fun b u q _ => ⟨u, k b u q⟩
 zca := fun b xs q => by rw [zaB (zaP q hn)]; exact q
 zdp := fun b u xs q => by rw [zaB (zaP q hn)]; exact q
 tbls := fun b ps q => ⟨#[], by rw [zaB (zaP q hn), q]; simp⟩
theorem Un.write (mu : Mut (H x)) (he : e = x ∨ H e = some (.own x)) (k : ∀ b u, b ≠ e → h.get? b = some u → h'.get? b = some u) (heo : ∃ u, h'.get? e = some u) : Un fs ex H (upd H x o) h h' := by
 have hx : ∀ b, H b = none → b ≠ x := fun b n z => by subst z; rw [n] at mu; exact mu
 have hb : ∀ b, H b = none → b ≠ e := fun b n z => by
  subst z
  rcases he with r | r
  ·exact hx b n r
  ·rw [n] at r; cases r
 have hm : ∀ b u, H b = some u → ¬ Mut (some u) → b ≠ x := fun b u q nm z => by subst z; rw [q] at mu; exact nm mu
 refine ⟨fun b u q n _ _ => k b u (hb b n) q, fun b u q n _ _ => ⟨u.slots, k b u (hb b n) q⟩, fun b u q n _ => by rw [zaB (hx b n)]; exact n, fun b u q _ => ?_,
  fun b xs q => by rw [zaB (hm b _ q fun z => z)]; exact q, fun b u xs q => by rw [zaB (hm b _ q fun z => z)]; exact q, fun b ps q => ⟨#[], by rw [zaB (hm b _ q fun z => z), q]; simp⟩⟩
 by_cases hbe : b = e
 ·subst hbe; exact heo
 ·exact ⟨u, k b u hbe q⟩
theorem Un.mono (u : Un fs ex H H1 h h1) (hs : ∀ b ∈ fs, b ∈ fs') (hx : ∀ b ∈ ex, b ∈ ex') : Un fs' ex' H H1 h h1 :=
 ⟨fun b ob q n hb he => u.keep b ob q n (fun z => hb (hs b z)) fun z => he (hx b z), fun _ _ q n _ he => u.any q n fun z => he (hx _ z), fun b ob q n he => u.free b ob q n fun z => he (hx b z), fun b ob q he => u.there b ob q fun z => he (hx b z), u.zca, u.zdp, u.tbls⟩
end
def trk (h : Heap) (H : Hp) : List Addr := (List.range h.objs.size).filter fun a => (H a).isSome
def zit (h : Heap) (H : Hp) : Heap := PySem.W.hideAll h (trk h H)
theorem zhb (h : Heap) (H : Hp) : (zit h H).objs.size = h.objs.size := PySem.W.hideAll_size _ _
theorem ziu {h : Heap} {H : Hp} {b : Addr} {o : Obj} (e : h.get? b = some o) (n : H b = none) : (zit h H).get? b = some o :=
 PySem.W.hideAll_get _ e fun hm => by
  have q : (H b).isSome = true := (List.mem_filter.mp hm).2
  rw [n] at q; simp at q
theorem zjV {h : Heap} {H : Hp} {b : Addr} {o : Obj} (e : (zit h H).get? b = some o) : h.get? b = some o ∧ H b = none := by
 have e' : h.get? b = some o := PySem.W.of_hideAll (trk h H) e
 refine ⟨e', ?_⟩
 cases q : H b with
 | none => rfl
 | some x =>
  have hm : b ∈ trk h H := List.mem_filter.mpr ⟨List.mem_range.mpr (Heap.lt_size e'), by simp [q]⟩
  have z : (zit h H).get? b = none := PySem.W.hideAll_none (trk h H) hm
  rw [z] at e; cases e
end L2
namespace L2
open PySem PySem.Spec PyProof.Rows
structure Mod (K : PySem.W.Frag) (mg : Str → Option Value) (base : Heap) : Prop where
 kin : K.In base
 glob : base.Ns mainGlobals mg
 blt : ∃ mb, base.Ns builtinsNs mb ∧ ∀ x : Str, x ≠ "__name__" → mb x = bootBuiltins x
 nolimit : base.NoLimit
structure Cx where
 prog : Program
 w : World
 K : PySem.W.Frag
 mg : Str → Option Value
 base : Heap
 A : Around
 N : List Str
 s₀ : Shared
 H₀ : Hp
 env : Env
 outer : List Env
 stack : List Env
 ex : List Addr
 fn : Str → Bool
 calm : Bool
 pn : List (Addr × Obj)
 xe : Value → Shared → Prop
def frs (l : List Env) : List Addr := l.filterMap (·.frame)
abbrev Cx.fs (X : Cx) : List Addr := frs X.outer
def Vis (sc : Scope) (x : Str) : Prop := sc.names.lookup x = some .local ∨ sc.names.lookup x = some .cell ∨ sc.names.lookup x = some .free
def Loc (sc : Scope) (x : Str) : Prop := sc.names.lookup x = some .local ∨ sc.names.lookup x = some .cell
def Look (env : Env) (h : Heap) (m : Str → Option Value) (x : Str) (u : Value) : Prop :=
 (env.kindOf x = some .local ∧ m x = some u) ∨ ((env.kindOf x = some .cell ∨ env.kindOf x = some .free) ∧ ∃ c, env.cells.lookup x = some c ∧ h.IsCell c (some u))
structure Cx.Ok (X : Cx) : Prop where
 mod : Mod X.K X.mg X.base
 kind : X.env.scope.kind = .function
 glob : X.env.globals = mainGlobals
 blt : X.env.builtins = builtinsNs
 above : X.s₀.heap.objs.size ≤ X.env.locals
 inj : ∀ x y c, X.env.cells.lookup x = some c → X.env.cells.lookup y = some c → x = y
 has : ∀ x, (X.env.kindOf x = some .cell ∨ X.env.kindOf x = some .free) → ∃ c, X.env.cells.lookup x = some c
 cab : ∀ x c, X.fn x = true → X.env.cells.lookup x = some c → X.s₀.heap.objs.size ≤ c
 hd : X.calm = true → X.A.handled = none
 frames : X.A.frames = some X.stack
 stk : X.stack = X.outer ∨ (X.stack = X.env :: X.outer ∧ X.env.frame = some X.env.locals)
 exf : ∀ b ∈ X.ex, b ≠ X.env.locals ∧ ∀ x c, X.env.cells.lookup x = some c → c ≠ b
 bs : ∀ b o, X.base.get? b = some o → X.s₀.heap.get? b = some o ∧ X.H₀ b = none
 bsz : X.base.objs.size ≤ X.s₀.heap.objs.size
 noex : ∀ b o, X.base.get? b = some o → b ∉ X.ex
 exfs : ∀ b ∈ X.ex, b ∉ X.fs
 zhc : X.s₀.heap.FunFrames X.base X.outer
 frf : ∀ b ∈ X.fs, X.H₀ b = none
structure Inv (X : Cx) (pins : List (Addr × Obj)) (σ : List (Option V)) (H : Hp) (s : Shared) : Prop where
 ok : X.Ok
 os : s.os = X.s₀.os
 bare : AllBare s.gens
 base : Un X.fs X.ex X.H₀ H X.s₀.heap s.heap
 loc : ∃ m, s.heap.Ns X.env.locals m ∧ ∀ (i : Nat) (x : Str) (v : V), X.N[i]? = some x → σ[i]? = some (some v) → Vis X.env.scope x → ∃ u, RelV v u ∧ Look X.env s.heap m x u
 cell : ∀ x c, X.env.cells.lookup x = some c → ∃ v, s.heap.IsCell c v
 free : H X.env.locals = none
 freeC : ∀ x c, X.env.cells.lookup x = some c → H c = none
 pin : ∀ p ∈ X.pn ++ pins, s.heap.get? p.1 = some p.2 ∧ H p.1 = none ∧ p.1 ≠ X.env.locals ∧ p.1 ∉ X.fs ∧ ∀ v, p.2.data ≠ .cell v
 hok : HOk X.prog X.w H s.heap
 len : σ.length = X.N.length
section
variable {X : Cx} {pins : List (Addr × Obj)} {σ : List (Option V)} {H H' : Hp} {s : Shared} {h' : Heap}
theorem Cx.Ok.nofr (ok : X.Ok) {b : Addr} {o : Obj} (e : X.base.get? b = some o) : b ∉ X.fs := fun hb => by
 have := (ok.zhc.mem hb).1
 rw [e] at this; cases this
theorem Inv.bs (I : Inv X pins σ H s) : ∀ b o, X.base.get? b = some o → s.heap.get? b = some o ∧ H b = none := fun b o e =>
 ⟨I.base.keep b o (I.ok.bs b o e).1 (I.ok.bs b o e).2 (I.ok.nofr e) (I.ok.noex b o e), I.base.free b o (I.ok.bs b o e).1 (I.ok.bs b o e).2 (I.ok.noex b o e)⟩
theorem Inv.bk (I : Inv X pins σ H s) : ∀ b o, X.base.get? b = some o → s.heap.get? b = some o := fun b o e => (I.bs b o e).1
theorem Inv.mod (I : Inv X pins σ H s) : Mod X.K X.mg X.base := I.ok.mod
theorem Inv.kIn (I : Inv X pins σ H s) : X.K.In s.heap := I.ok.mod.kin.keeps I.bk
theorem Inv.lt (I : Inv X pins σ H s) : X.env.locals < s.heap.objs.size := let ⟨_, hn, _⟩ := I.loc; hn.lt
theorem Inv.sz (I : Inv X pins σ H s) : X.s₀.heap.objs.size ≤ s.heap.objs.size := Nat.le_trans I.ok.above (Nat.le_of_lt I.lt)
theorem Inv.nofs (I : Inv X pins σ H s) {a : Addr} (h : s.heap.objs.size ≤ a) : a ∉ X.fs := fun hb => by
 obtain ⟨_, o, ho, _⟩ := I.ok.zhc.mem hb
 exact absurd (Nat.lt_of_lt_of_le (Heap.lt_size ho) (Nat.le_trans I.sz h)) (Nat.lt_irrefl _)
theorem Inv.cne (I : Inv X pins σ H s) : ∀ x c, X.env.cells.lookup x = some c → c ≠ X.env.locals := fun x c e z => by
 obtain ⟨v, o, ho, hd⟩ := I.cell x c e
 obtain ⟨m, ⟨o', es, ep, ho', hd', _⟩, _⟩ := I.loc
 rw [z, ho'] at ho; cases ho; rw [hd'] at hd; cases hd
theorem Inv.zhc (I : Inv X pins σ H s) : s.heap.FunFrames X.base X.outer := by
 have all : ∀ (l : List Env), (∀ b ∈ frs l, b ∈ X.fs) → X.s₀.heap.FunFrames X.base l → s.heap.FunFrames X.base l := by
  intro l
  induction l with
  | nil => intro _ _; trivial
  | cons env r ih =>
   intro hs hl
   obtain ⟨hk, ⟨L, o, hf, hn, ho, hd⟩, hr⟩ := hl
   have hL : L ∈ X.fs := hs L (by unfold frs; rw [List.filterMap_cons, hf]; exact lS)
   obtain ⟨sl, e⟩ := I.base.slot L o ho (I.ok.frf L hL) hL fun z => I.ok.exfs L z hL
   exact ⟨hk, ⟨L, _, hf, hn, e, hd⟩, ih (fun b hb => hs b (by unfold frs; rw [List.filterMap_cons, hf]; exact lO _ hb)) hr⟩
 exact all X.outer (fun _ hb => hb) I.ok.zhc
theorem Inv.stack (I : Inv X pins σ H s) : s.heap.FunFrames X.base X.stack := by
 rcases I.ok.stk with e | ⟨e, hf⟩
 ·rw [e]; exact I.zhc
 ·rw [e]
  obtain ⟨m, hn, _⟩ := I.loc
  refine .cons (by rw [I.ok.kind]; decide) hf hn ?_ I.zhc
  exact Heap.get?_none_of_le (Nat.le_trans I.ok.bsz I.ok.above)
theorem Inv.zeE (I : Inv X pins σ H s) : ∀ b ∈ frs X.stack, b ∈ X.env.locals :: X.fs := fun b hb => by
 rcases I.ok.stk with e | ⟨e, hf⟩
 ·rw [e] at hb; exact lO _ hb
 ·rw [e] at hb
  unfold frs at hb
  rw [List.filterMap_cons, hf] at hb
  exact hb
theorem Inv.zhd (I : Inv X pins σ H s) : ∀ b ∈ frs X.stack, H b = none := fun b hb => by
 rcases lK (I.zeE b hb) with e | hb
 ·rw [e]; exact I.free
 ·obtain ⟨_, o, ho, _⟩ := I.ok.zhc.mem hb
  exact I.base.free b o ho (I.ok.frf b hb) fun z => I.ok.exfs b z hb
theorem Inv.step {g' : Array GenState} {t' : Nat} {d' : Drawn} {ch : List Addr} (I : Inv X pins σ H s)
  (hch : ∀ b ∈ ch, (b ∈ X.ex ∨ X.s₀.heap.objs.size ≤ b) ∧ b ≠ X.env.locals ∧ (∀ x c, X.env.cells.lookup x = some c → c ≠ b) ∧ ∀ p ∈ X.pn ++ pins, p.1 ≠ b)
  (keep : ∀ b o, b ≠ X.env.locals → b ∉ X.fs → b ∉ ch → s.heap.get? b = some o → H b = none → h'.get? b = some o)
  (slot : ∀ b o, b ≠ X.env.locals → b ∈ X.fs → b ∉ ch → s.heap.get? b = some o → H b = none → ∃ sl, h'.get? b = some { o with slots := sl }) (free : ∀ b o, b ∉ ch → s.heap.get? b = some o → H b = none → H' b = none)
  (there : ∀ b o, b ∉ ch → s.heap.get? b = some o → ∃ o', h'.get? b = some o')
  (zca : ∀ b xs, H b = some (.tup xs) → H' b = some (.tup xs)) (zdp : ∀ b o u, H b = some (.frz o u) → H' b = some (.frz o u)) (tbls : ∀ b ps, H b = some (.tbl ps) → ∃ more, H' b = some (.tbl (ps ++ more)))
  (ns : ∀ m, s.heap.Ns X.env.locals m → h'.Ns X.env.locals m) (hok : HOk X.prog X.w H' h') (hg : AllBare g') :
  Inv X pins σ H' { s with heap := h', gens := g', drawn := d', toks := t' } := by
 have neL : ∀ b o, X.s₀.heap.get? b = some o → b ≠ X.env.locals := fun b o e => Nat.ne_of_lt (Nat.lt_of_lt_of_le (Heap.lt_size e) I.ok.above)
 have neC : ∀ b o, X.s₀.heap.get? b = some o → b ∉ X.ex → b ∉ ch := fun b o e hx hb => by
  rcases (hch b hb).1 with z | z
  ·exact hx z
  ·exact absurd (Nat.lt_of_lt_of_le (Heap.lt_size e) z) (Nat.lt_irrefl _)
 have cellK : ∀ x c, X.env.cells.lookup x = some c → ∀ v, s.heap.IsCell c v → h'.IsCell c v := fun x c e v ⟨o, ho, hd⟩ => by
  have nch : c ∉ ch := fun z => (hch c z).2.2.1 x c e rfl
  by_cases hc : c ∈ X.fs
  ·obtain ⟨sl, q⟩ := slot c o (I.cne x c e) hc nch ho (I.freeC x c e)
   exact ⟨_, q, hd⟩
  ·exact ⟨o, keep c o (I.cne x c e) hc nch ho (I.freeC x c e), hd⟩
 refine ⟨I.ok, I.os, hg, ⟨fun b o e n hb hx => ?_, fun b o e n hb hx => ?_, fun b o e n hx => ?_, fun b o e hx => ?_, fun b xs e => zca b xs (I.base.zca b xs e), fun b o xs e => zdp b o xs (I.base.zdp b o xs e), fun b ps e => ?_⟩, ?_, fun x c e => ?_, ?_, fun x c e => ?_, fun p hp => ?_, hok, I.len⟩
 ·exact keep b o (neL b o e) hb (neC b o e hx) (I.base.keep b o e n hb hx) (I.base.free b o e n hx)
 ·obtain ⟨sl, e1⟩ := I.base.slot b o e n hb hx
  obtain ⟨sl', e2⟩ := slot b _ (neL b o e) hb (neC b o e hx) e1 (I.base.free b o e n hx)
  exact ⟨sl', e2⟩
 ·obtain ⟨o', e1⟩ := I.base.there b o e hx
  exact free b o' (neC b o e hx) e1 (I.base.free b o e n hx)
 ·obtain ⟨o', e1⟩ := I.base.there b o e hx
  exact there b o' (neC b o e hx) e1
 ·obtain ⟨m1, e1⟩ := I.base.tbls b ps e
  obtain ⟨m2, e2⟩ := tbls b _ e1
  exact ⟨m1 ++ m2, by rw [e2, Array.append_assoc]⟩
 ·obtain ⟨m, hn, hl⟩ := I.loc
  refine ⟨m, ns m hn, fun i x v e1 e2 e3 => ?_⟩
  obtain ⟨u, r, l⟩ := hl i x v e1 e2 e3
  refine ⟨u, r, ?_⟩
  rcases l with l | ⟨k, c, e, z⟩
  ·exact .inl l
  ·exact .inr ⟨k, c, e, cellK x c e _ z⟩
 ·obtain ⟨v, z⟩ := I.cell x c e
  exact ⟨v, cellK x c e v z⟩
 ·obtain ⟨m, ⟨o, _, _, ho, _⟩, _⟩ := I.loc
  exact free _ o (fun z => (hch _ z).2.1 rfl) ho I.free
 ·obtain ⟨v, o, ho, hd⟩ := I.cell x c e
  exact free c o (fun z => (hch c z).2.2.1 x c e rfl) ho (I.freeC x c e)
 ·obtain ⟨e, n, ne, nf, d⟩ := I.pin p hp
  have nch : p.1 ∉ ch := fun z => (hch p.1 z).2.2.2 p hp rfl
  exact ⟨keep p.1 p.2 ne nf nch e n, free p.1 p.2 nch e n, ne, nf, d⟩
theorem Inv.un {t' : Nat} (I : Inv X pins σ H s) (u : Un X.fs [] H H' s.heap h') (hok : HOk X.prog X.w H' h') : Inv X pins σ H' { s with heap := h', toks := t' } := by
 obtain ⟨m, ⟨o, es, ep, ho, r⟩, _⟩ := id I.loc
 obtain ⟨sl, hL⟩ := u.any ho I.free (by simp)
 exact I.step (g' := s.gens) (d' := s.drawn) (ch := []) (fun _ z => nomatch z) (fun b o _ hb _ e n => u.keep b o e n hb (by simp)) (fun b o _ hb _ e n => u.slot b o e n hb (by simp)) (fun b o _ e n => u.free b o e n (by simp)) (fun b o _ e => u.there b o e (by simp)) u.zca u.zdp u.tbls (fun m' hm => by
  obtain ⟨o', es', ep', ho', r'⟩ := hm
  rw [ho] at ho'; cases ho'
  exact ⟨_, es', ep', hL, r'⟩) hok I.bare
theorem Inv.call {g' : Array GenState} {t' : Nat} {d' : Drawn} {ch : List Addr} (I : Inv X pins σ H s) (u : Un (frs X.stack) ch H H' s.heap h') (hok : HOk X.prog X.w H' h') (hg : AllBare g')
  (hch : ∀ b ∈ ch, (b ∈ X.ex ∨ X.s₀.heap.objs.size ≤ b) ∧ b ≠ X.env.locals ∧ (∀ x c, X.env.cells.lookup x = some c → c ≠ b) ∧ ∀ p ∈ X.pn ++ pins, p.1 ≠ b) :
  Inv X pins σ H' { s with heap := h', gens := g', drawn := d', toks := t' } := by
 obtain ⟨m, ⟨o, es, ep, ho, r⟩, _⟩ := id I.loc
 obtain ⟨sl, hL⟩ := u.any ho I.free fun z => (hch _ z).2.1 rfl
 exact I.step (ch := ch) hch (fun b o hL hb hc e n => u.keep b o e n (fun z => (lK (I.zeE b z)).elim hL hb) hc) (fun b o _ _ hc e n => u.any e n hc) (fun b o hc e n => u.free b o e n hc) (fun b o hc e => u.there b o e hc) u.zca u.zdp u.tbls (fun m' hm => by
  obtain ⟨o', es', ep', ho', r'⟩ := hm
  rw [ho] at ho'; cases ho'
  exact ⟨_, es', ep', hL, r'⟩) hok hg
theorem Inv.turned {t' : Nat} {it : Addr} (I : Inv X pins σ H s) (k : ∀ b o, b ≠ it → s.heap.get? b = some o → h'.get? b = some o) (hn : H it = none) (hL : it ≠ X.env.locals)
  (h1 : it ∈ X.ex ∨ X.s₀.heap.objs.size ≤ it) (h2 : ∀ x c, X.env.cells.lookup x = some c → c ≠ it) (h3 : ∀ p ∈ X.pn ++ pins, p.1 ≠ it) : Inv X pins σ H { s with heap := h', toks := t' } := by
 have nit : ∀ b u, H b = some u → b ≠ it := fun b u e z => by rw [z, hn] at e; cases e
 refine I.step (g' := s.gens) (d' := s.drawn) (ch := [it]) (fun b hb => ?_) (fun b o _ _ hc e _ => k b o (fun z => hc (by simp [z])) e) (fun b o _ _ hc e _ => ⟨o.slots, k b o (fun z => hc (by simp [z])) e⟩) (fun _ _ _ _ n => n)
  (fun b o hc e => ⟨o, k b o (fun z => hc (by simp [z])) e⟩) (fun _ _ e => e) (fun _ _ _ e => e) (fun b ps e => ⟨#[], by rw [e]; simp⟩) (fun m hm => ?_) (fun b u e => ?_) I.bare
 ·have e : b = it := by simpa using hb
  subst e
  exact ⟨h1, hL, h2, h3⟩
 ·obtain ⟨o, es, ep, ho, r⟩ := hm
  exact ⟨o, es, ep, k _ o (Ne.symm hL) ho, r⟩
 ·refine (I.hok b u e).stay (fun c v hc q => k c v ?_ q) (fun _ q => q) fun _ _ q => q
  rcases hc with z | z
  ·rw [z]; exact nit b u e
  ·exact nit c _ z
theorem Inv.tok (I : Inv X pins σ H s) (t : Nat) : Inv X pins σ H { s with toks := t } := I.un (h' := s.heap) (t' := t) Un.refl I.hok
theorem Inv.kept {t' : Nat} (I : Inv X pins σ H s) (k : ∀ b u, s.heap.get? b = some u → h'.get? b = some u) : Inv X pins σ H { s with heap := h', toks := t' } := I.un (Un.kept k) (I.hok.kept k)
theorem Inv.laid {a : Addr} {o : HO} {t' : Nat} (I : Inv X pins σ H s) (k : ∀ b u, s.heap.get? b = some u → h'.get? b = some u) (hp : s.heap.objs.size ≤ a) (new : zbN X.prog X.w (upd H a o) h' a o) :
  Inv X pins σ (upd H a o) { s with heap := h', toks := t' } := I.un (Un.laid k hp (I.hok.fresh hp)) (I.hok.laid k hp new)
theorem Inv.write {x e : Addr} {o : HO} {t' : Nat} (I : Inv X pins σ H s) (mu : Mut (H x)) (he : e = x ∨ H e = some (.own x)) (k : ∀ b u, b ≠ e → s.heap.get? b = some u → h'.get? b = some u) (heo : ∃ u, h'.get? e = some u)
  (new : zbN X.prog X.w (upd H x o) h' x o) : Inv X pins σ (upd H x o) { s with heap := h', toks := t' } := I.un (Un.write mu he k heo) (I.hok.write mu he k heo new)
theorem Inv.zhe {pins' : List (Addr × Obj)} (I : Inv X pins σ H s) (h : ∀ p ∈ pins', s.heap.get? p.1 = some p.2 ∧ H p.1 = none ∧ p.1 ≠ X.env.locals ∧ p.1 ∉ X.fs ∧ ∀ v, p.2.data ≠ .cell v) : Inv X pins' σ H s :=
 ⟨I.ok, I.os, I.bare, I.base, I.loc, I.cell, I.free, I.freeC, fun p hp => (lM hp).elim (fun z => I.pin p (lL _ z)) (h p), I.hok, I.len⟩
theorem zf1 {N : List Str} (hN : N.Nodup) {i j : Nat} {x : Str} (a : N[i]? = some x) (b : N[j]? = some x) : i = j := by
 obtain ⟨h1, e1⟩ := List.getElem?_eq_some_iff.mp a
 obtain ⟨h2, e2⟩ := List.getElem?_eq_some_iff.mp b
 exact (List.getElem_inj hN).mp (e1.trans e2.symm)
theorem zeF {M : Model} {A : Around} {E : Value → Shared → Prop} {i : Nat} {x : Str} {v : V} {u : Value} {Q : Unit → Shared → Prop} (I : Inv X pins σ H s) (hN : X.N.Nodup) (hi : X.N[i]? = some x) (hx : Loc X.env.scope x) (r : RelV v u)
  (h : ∀ s', Inv X pins (σ.set i (some v)) H s' → (∃ a, Heap.SameBut a s.heap s'.heap ∧ (a = X.env.locals ∨ X.env.cells.lookup x = some a)) → Q () s') (hf : X.fn x = true ∨ X.env.scope.names.lookup x = some .local := by first | exact .inl rfl | exact .inr rfl | assumption) : wpAny M A (storeName X.env x u) Q E s := by
 obtain ⟨m, hn, hl⟩ := id I.loc
 have hcls : (X.env.scope.kind == .class || (X.env.scope.kind == .module && X.env.locals != X.env.globals)) = false := by rw [I.ok.kind]; rfl
 have hiσ : i < σ.length := by rw [I.len]; exact (List.getElem?_eq_some_iff.mp hi).1
 have cne := I.cne
 have tracked : ∀ {a : Addr} {h' : Heap}, (∃ o, s.heap.get? a = some o ∧ H a = none) → Heap.SameBut a s.heap h' → HOk X.prog X.w H h' := fun {a h'} ha hs b ob e => by
  obtain ⟨_, _, hfree⟩ := ha
  refine (I.hok b ob e).stay (fun c w' hc q => (hs.2 c ?_).trans q) (fun _ q => q) fun _ _ q => q
  rintro rfl
  rcases hc with rfl | hc
  ·rw [hfree] at e; cases e
  ·rw [hfree] at hc; cases hc
 rcases hx with hk | hk
 ·refine wpAny_storeName_local hk hn (fun h' hn' hs => ?_) hcls
  obtain ⟨oL, _, _, hoL, _⟩ := id hn
  refine h _ ⟨I.ok, I.os, I.bare, ⟨fun b o e n hb hx => ?_, fun b o e n hb hx => ?_, I.base.free, fun b o e hx => ?_, I.base.zca, I.base.zdp, I.base.tbls⟩, ⟨_, hn', fun j y v' e1 e2 e3 => ?_⟩, fun y c e => ?_, I.free, I.freeC, fun p hp => ?_, tracked ⟨oL, hoL, I.free⟩ hs, by simpa using I.len⟩ ⟨_, hs, .inl rfl⟩
  ·exact (hs.2 b (Nat.ne_of_lt (Nat.lt_of_lt_of_le (Heap.lt_size e) I.ok.above))).trans (I.base.keep b o e n hb hx)
  ·obtain ⟨sl, e1⟩ := I.base.slot b o e n hb hx
   exact ⟨sl, (hs.2 b (Nat.ne_of_lt (Nat.lt_of_lt_of_le (Heap.lt_size e) I.ok.above))).trans e1⟩
  ·obtain ⟨o', e1⟩ := I.base.there b o e hx
   exact ⟨o', (hs.2 b (Nat.ne_of_lt (Nat.lt_of_lt_of_le (Heap.lt_size e) I.ok.above))).trans e1⟩
  ·by_cases hj : j = i
   ·subst hj
    rw [hi] at e1; cases e1
    rw [List.getElem?_set_self hiσ] at e2
    cases e2
    exact ⟨u, r, .inl ⟨hk, by simp⟩⟩
   ·rw [List.getElem?_set_ne (Ne.symm hj)] at e2
    obtain ⟨u', r', q⟩ := hl j y v' e1 e2 e3
    refine ⟨u', r', ?_⟩
    rcases q with ⟨k, e⟩ | ⟨k, c, e, z⟩
    ·refine .inl ⟨k, ?_⟩
     have : y ≠ x := fun e => hj (zf1 hN e1 (e ▸ hi))
     simp [this, e]
    ·exact .inr ⟨k, c, e, z.sameBut hs (cne y c e)⟩
  ·obtain ⟨w', z⟩ := I.cell y c e
   exact ⟨w', z.sameBut hs (cne y c e)⟩
  ·obtain ⟨e, n, ne, nf, d⟩ := I.pin p hp
   exact ⟨(hs.2 p.1 ne).trans e, n, ne, nf, d⟩
 ·have hfn : X.fn x = true := by
   rcases hf with z | z
   ·exact z
   ·rw [z] at hk; cases hk
  obtain ⟨c, hc⟩ := I.ok.has x (.inl hk)
  obtain ⟨w', z⟩ := I.cell x c hc
  refine wpAny_storeName_cell I.ok.kind hk hc z (fun h' hc' hs => ?_)
  obtain ⟨oc, hoc, hocd⟩ := id z
  refine h { s with heap := h' } ⟨I.ok, I.os, I.bare, ⟨fun b o e n hb hx => ?_, fun b o e n hb hx => ?_, I.base.free, fun b o e hx => ?_, I.base.zca, I.base.zdp, I.base.tbls⟩, ⟨m, hn.sameBut hs (Ne.symm (cne x c hc)), fun j y v' e1 e2 e3 => ?_⟩, fun y c' e => ?_, I.free, I.freeC, fun p hp => ?_, tracked ⟨oc, hoc, I.freeC x c hc⟩ hs, by simpa using I.len⟩ ⟨c, hs, .inr hc⟩
  ·exact (hs.2 b (Nat.ne_of_lt (Nat.lt_of_lt_of_le (Heap.lt_size e) (I.ok.cab x c hfn hc)))).trans (I.base.keep b o e n hb hx)
  ·obtain ⟨sl, e1⟩ := I.base.slot b o e n hb hx
   exact ⟨sl, (hs.2 b (Nat.ne_of_lt (Nat.lt_of_lt_of_le (Heap.lt_size e) (I.ok.cab x c hfn hc)))).trans e1⟩
  ·obtain ⟨o', e1⟩ := I.base.there b o e hx
   exact ⟨o', (hs.2 b (Nat.ne_of_lt (Nat.lt_of_lt_of_le (Heap.lt_size e) (I.ok.cab x c hfn hc)))).trans e1⟩
  ·by_cases hj : j = i
   ·subst hj
    rw [hi] at e1; cases e1
    rw [List.getElem?_set_self hiσ] at e2
    cases e2
    exact ⟨u, r, .inr ⟨.inl hk, c, hc, hc'⟩⟩
   ·rw [List.getElem?_set_ne (Ne.symm hj)] at e2
    obtain ⟨u', r', q⟩ := hl j y v' e1 e2 e3
    refine ⟨u', r', ?_⟩
    rcases q with q | ⟨k, c', e, z'⟩
    ·exact .inl q
    ·refine .inr ⟨k, c', e, z'.sameBut hs ?_⟩
     rintro rfl
     exact hj (zf1 hN e1 (I.ok.inj _ _ _ e hc ▸ hi))
  ·by_cases hcc : c' = c
   ·subst hcc; exact ⟨_, hc'⟩
   ·obtain ⟨w2, z2⟩ := I.cell y c' e
    exact ⟨w2, z2.sameBut hs hcc⟩
  ·obtain ⟨e, n, ne, nf, d⟩ := I.pin p hp
   refine ⟨(hs.2 p.1 ?_).trans e, n, ne, nf, d⟩
   intro q
   rw [q, hoc] at e
   have q' : oc = p.2 := Option.some.inj e
   exact d w' (by rw [← q']; exact hocd)
theorem zdq {M : Model} {A : Around} {E : Value → Shared → Prop} {i : Nat} {x : Str} {v : V} {u : Value} {Q : Unit → Shared → Prop} (I : Inv X pins σ H s) (hN : X.N.Nodup) (hi : X.N[i]? = some x) (hx : Loc X.env.scope x) (r : RelV v u)
  (h : ∀ s', Inv X pins (σ.set i (some v)) H s' → Q () s') (hf : X.fn x = true ∨ X.env.scope.names.lookup x = some .local := by first | exact .inl rfl | exact .inr rfl | assumption) : wpAny M A (storeName X.env x u) Q E s :=
 zeF I hN hi hx r (fun s' I' _ => h s' I') hf
theorem Inv.call' {s' : Shared} {ch : List Addr} (I : Inv X pins σ H s) (ho : s'.os = s.os) (u : Un (frs X.stack) ch H H' s.heap s'.heap) (hok : HOk X.prog X.w H' s'.heap) (hg : AllBare s'.gens)
  (hch : ∀ b ∈ ch, (b ∈ X.ex ∨ X.s₀.heap.objs.size ≤ b) ∧ b ≠ X.env.locals ∧ (∀ x c, X.env.cells.lookup x = some c → c ≠ b) ∧ ∀ p ∈ X.pn ++ pins, p.1 ≠ b) : Inv X pins σ H' s' := by
 obtain ⟨h', g', d', t', o'⟩ := s'
 have e : o' = s.os := ho
 subst e
 exact I.call (g' := g') (t' := t') (d' := d') u hok hg hch
end
abbrev XK := Value → Option Addr → Hp → Prop
abbrev St := List (Option V)
abbrev VK := V → Hp → Prop
abbrev TE := St → Hp → VK → Prop
abbrev TT := St → Hp → (Bool → Hp → Prop) → Prop
abbrev TA := St → Hp → (List V → Hp → Prop) → Prop
structure Ends where
 nx : St → Hp → Prop
 rt : VK
 bk : St → Hp → Prop := fun _ _ => False
 ct : St → Hp → Prop := fun _ _ => False
abbrev TS := Ends → St → Hp → Prop
def EP (X : Cx) (pins : List (Addr × Obj)) (σ : St) (Q : VK) (u : Value) (s' : Shared) : Prop := ∃ v H', Inv X pins σ H' s' ∧ RelV v u ∧ Q v H'
def TP (X : Cx) (pins : List (Addr × Obj)) (σ : St) (Q : Bool → Hp → Prop) (b : Bool) (s' : Shared) : Prop := ∃ H', Inv X pins σ H' s' ∧ Q b H'
def AP (X : Cx) (pins : List (Addr × Obj)) (σ : St) (Q : List V → Hp → Prop) (us : List Value) (s' : Shared) : Prop := ∃ vs H', Inv X pins σ H' s' ∧ za1 vs us ∧ Q vs H'
def SP (X : Cx) (pins : List (Addr × Obj)) (D : Ends) (f : Flow) (s' : Shared) : Prop :=
 match f with
 | .next => ∃ σ' H', Inv X pins σ' H' s' ∧ D.nx σ' H'
 | .brk => ∃ σ' H', Inv X pins σ' H' s' ∧ D.bk σ' H'
 | .cont => ∃ σ' H', Inv X pins σ' H' s' ∧ D.ct σ' H'
 | .ret u => ∃ v σ' H', Inv X pins σ' H' s' ∧ RelV v u ∧ D.rt v H'
def PE (X : Cx) (e : Expr) (t : TE) : Prop :=
 ∀ (pins : List (Addr × Obj)) (s : Shared) (σ : St) (H : Hp) (Q : VK), Inv X pins σ H s → t σ H Q → wpAny (model X.prog X.w) X.A (eval e X.env) (EP X pins σ Q) X.xe s
def PT (X : Cx) (e : Expr) (t : TT) : Prop :=
 ∀ (pins : List (Addr × Obj)) (s : Shared) (σ : St) (H : Hp) (Q : Bool → Hp → Prop), Inv X pins σ H s → t σ H Q → wpAny (model X.prog X.w) X.A (isTrue e X.env (eval e X.env)) (TP X pins σ Q) X.xe s
def PW (X : Cx) (e : Expr) (t : TT) : Prop :=
 ∀ (whole : Sem Value) (pins : List (Addr × Obj)) (s : Shared) (σ : St) (H : Hp) (Q : Bool → Hp → Prop), Inv X pins σ H s → t σ H Q → wpAny (model X.prog X.w) X.A (isTrue e X.env whole) (TP X pins σ Q) X.xe s
theorem PW.pt {X : Cx} {e : Expr} {t : TT} (h : PW X e t) : PT X e t := h _
def PA (X : Cx) (es : List Expr) (t : TA) : Prop :=
 ∀ (pos : Pos) (pins : List (Addr × Obj)) (s : Shared) (σ : St) (H : Hp) (Q : List V → Hp → Prop), Inv X pins σ H s → t σ H Q → wpAny (model X.prog X.w) X.A (spliced (backTo pos (starEach es X.env))) (AP X pins σ Q) X.xe s
def PS (X : Cx) (st : Stmt) (t : TS) : Prop :=
 ∀ (pins : List (Addr × Obj)) (s : Shared) (σ : St) (H : Hp) (D : Ends), Inv X pins σ H s → t D σ H → wpAny (model X.prog X.w) X.A (exec st X.env) (SP X pins D) X.xe s
def PSs (X : Cx) (st : List Stmt) (t : TS) : Prop :=
 ∀ (pins : List (Addr × Obj)) (s : Shared) (σ : St) (H : Hp) (D : Ends), Inv X pins σ H s → t D σ H → wpAny (model X.prog X.w) X.A (execs st X.env) (SP X pins D) X.xe s
theorem thn {α : Type} {t : Sem α} {Q Q' : α → Shared → Prop} {M : Model} {A : Around} {E : Value → Shared → Prop} {s : Shared} (h : wpAny M A t Q E s) (hQ : ∀ a s, Q a s → Q' a s) : wpAny M A t Q' E s := wpAny_mono h hQ fun _ _ x => x
end L2
namespace L2
open PySem PySem.Spec PyProof.Rows
section
variable {X : Cx}
theorem bin {a b : Expr} {ta tb : TE} (ha : PE X a ta) (hb : PE X b tb) {pins : List (Addr × Obj)} {s : Shared} {σ : St} {H : Hp} {R : V → V → Hp → Prop} (I : Inv X pins σ H s) (h : ta σ H fun x H1 => tb σ H1 fun y H2 => R x y H2)
  {α : Type} {Q : α → Shared → Prop} {f : Value → Value → Sem α}
  (hf : ∀ v u s2 x y H2, Inv X pins σ H2 s2 → RelV x v → RelV y u → R x y H2 → wpAny (model X.prog X.w) X.A (f v u) Q X.xe s2) :
  wpAny (model X.prog X.w) X.A (eval a X.env) (fun v s₁ => wpAny (model X.prog X.w) X.A (eval b X.env) (fun u s₂ => wpAny (model X.prog X.w) X.A (f v u) Q X.xe s₂) X.xe s₁) X.xe s := by
 refine thn (ha pins s σ H _ I h) fun v s1 ⟨x, H1, I1, r1, q1⟩ => ?_
 refine thn (hb pins s1 σ H1 _ I1 q1) fun u s2 ⟨y, H2, I2, r2, q2⟩ => ?_
 exact hf v u s2 x y H2 I2 r1 r2 q2
def zfp (i : Nat) : TE := fun σ H Q => ∃ v, σ[i]? = some (some v) ∧ Q v H
def tC (v : V) : TE := fun _ H Q => Q v H
theorem zjl {i : Nat} {x : Str} {pos : Pos} (hN : X.N[i]? = some x) (hv : Vis X.env.scope x) (hd : (x == ("__debug__" : Str)) = false := by decide) (hcd : (x == ("__classdict__" : Str)) = false := by decide) : PE X (.Name x pos) (zfp i) := by
 intro pins s σ H Q I h
 obtain ⟨v, e, h⟩ := h
 obtain ⟨m, hn, hl⟩ := I.loc
 obtain ⟨u, r, l⟩ := hl i x v hN e hv
 have fin : EP X pins σ Q u s := ⟨v, H, I, r, h⟩
 rcases l with ⟨hk, hm⟩ | ⟨hk, c, hc, hcell⟩
 ·exact wpAny_Name (wpAny_loadName_local I.ok.kind hk hn hm fin) hd
 ·rcases hk with hk | hk
  ·exact wpAny_Name (wpAny_loadName_cell I.ok.kind hk hc hcell fin) hd
  ·exact wpAny_Name (wpAny_loadName_free I.ok.kind hk hc hcell fin hcd) hd
theorem zjm {i j pos} : PE X (.Constant (.int i) j pos) (tC (.int i)) := fun _ _ _ H _ I h => wpAny_Constant_int ⟨.int i, H, I.tok _, ⟨_, rfl⟩, h⟩
theorem pe_bl {b j pos} : PE X (.Constant (.bool b) j pos) (tC (.bl b)) := fun _ _ _ H _ I h => Constant_bool ⟨.bl b, H, I, rfl, h⟩
theorem zlj {j pos} : PE X (.Constant .none j pos) (tC .non) := fun _ _ _ H _ I h => Constant_none ⟨.non, H, I, rfl, h⟩
theorem zlk {x j pos} : PE X (.Constant (.str x) j pos) (tC (.str x)) := fun _ _ _ H _ I h => Calls.Constant_str ⟨.str x, H, I.tok _, ⟨_, rfl⟩, h⟩
def Gl (X : Cx) (x : Str) : Prop := X.env.kindOf x = some .globalImplicit
theorem zhf {E : Value → Shared → Prop} {pins : List (Addr × Obj)} {s : Shared} {σ : St} {H : Hp} {x : Str} {u : Value} {pos : Pos} {Q : Value → Shared → Prop} (I : Inv X pins σ H s) (hg : Gl X x) (hm : X.mg x = some u) (h : Q u s)
  (hd : (x == ("__debug__" : Str)) = false := by decide) : wpAny (model X.prog X.w) X.A (eval (.Name x pos) X.env) Q E s :=
 Calls.Name_function_global I.ok.kind hg (Calls.loadGlobal_global (by rw [I.ok.glob]; exact I.mod.glob.keeps I.bk) hm h) hd
theorem zeG {E : Value → Shared → Prop} {pins : List (Addr × Obj)} {s : Shared} {σ : St} {H : Hp} {x : Str} {u : Value} {pos : Pos} {Q : Value → Shared → Prop} (I : Inv X pins σ H s) (hg : Gl X x) (hm : X.mg x = none) (hv : bootBuiltins x = some u) (h : Q u s)
  (hn : x ≠ "__name__" := by decide) (hd : (x == ("__debug__" : Str)) = false := by decide) : wpAny (model X.prog X.w) X.A (eval (.Name x pos) X.env) Q E s := by
 obtain ⟨mb, h1, h2⟩ := I.mod.blt
 exact Calls.Name_function_global I.ok.kind hg (Calls.loadGlobal_builtin (by rw [I.ok.glob]; exact I.mod.glob.keeps I.bk) hm (by rw [I.ok.blt]; exact h1.keeps I.bk) ((h2 x hn).trans hv) h) hd
theorem zjW {x : Str} {v : V} {u : Value} {pos : Pos} (hg : Gl X x) (hm : X.mg x = some u) (r : RelV v u) (hd : (x == ("__debug__" : Str)) = false := by decide) : PE X (.Name x pos) (tC v) :=
 fun _ _ _ H _ I h => zhf I hg hm ⟨v, H, I, r, h⟩ hd
theorem za8 {x : Str} {v : V} {u : Value} {pos : Pos} (hg : Gl X x) (hm : X.mg x = none) (hv : bootBuiltins x = some u) (r : RelV v u) (hn : x ≠ "__name__" := by decide) (hd : (x == ("__debug__" : Str)) = false := by decide) : PE X (.Name x pos) (tC v) :=
 fun _ _ _ H _ I h => zeG I hg hm hv ⟨v, H, I, r, h⟩ hn hd
variable {a b : Expr} {ta tb : TE} {pos : Pos}
def PC (X : Cx) (op : CmpOp) (a b : Expr) (t : TE) : Prop :=
 ∀ (pins : List (Addr × Obj)) (s : Shared) (σ : St) (H : Hp) (Q : VK), Inv X pins σ H s → t σ H Q →
  wpAny (model X.prog X.w) X.A (eval a X.env) (fun v s₁ => wpAny (model X.prog X.w) X.A (eval b X.env) (fun u s₂ => wpAny (model X.prog X.w) X.A (compareOp op v u) (EP X pins σ Q) X.xe s₂) X.xe s₁) X.xe s
def tB (t : TE) : TT := fun σ H Q => t σ H fun x H1 => ∃ c, x = .bl c ∧ Q c H1
theorem zll {op : CmpOp} {t : TE} (h : PC X op a b t) (h1 : behindInMarks op b = false := by first | exact ziv _ (by decide) (by decide) | rfl) : PE X (.Compare a [op] [b] pos) t := fun pins s σ H Q I hw => wpAny_Compare1 (h pins s σ H Q I hw) h1
theorem zlm {op : CmpOp} {t : TE} (h : PC X op a b t) (h1 : behindInMarks op b = false := by first | exact ziv _ (by decide) (by decide) | rfl) : PT X (.Compare a [op] [b] pos) (tB t) := by
 intro pins s σ H Q I hw
 refine wpAny_isTrue_Compare1 (thn (h pins s σ H _ I hw) fun v s1 h1 => thn h1 fun u s2 h2 => thn h2 fun c s3 ⟨x, H1, I1, r1, q1⟩ => ?_) h1
 obtain ⟨d, rfl, q⟩ := q1
 cases r1
 exact wpAny_truthy_bool ⟨H1, I1, q⟩
variable {tA tB' : TT} {rest : List Expr}
def tAnd (t u : TT) : TT := fun σ H Q => t σ H fun c H1 => if c = true then u σ H1 Q else Q false H1
def tOr (t u : TT) : TT := fun σ H Q => t σ H fun c H1 => if c = true then Q true H1 else u σ H1 Q
def tNot (t : TT) : TT := fun σ H Q => t σ H fun c H1 => Q (!c) H1
theorem zjX (ha : PT X a tA) : PW X (.BoolOp .And [a] pos) tA := by
 intro wh pins s σ H Q I h
 refine isTrue_and (thn (ha pins s σ H Q I h) fun c s1 e => ?_)
 cases c with
 | true => exact isTrue_and_nil e
 | false => exact e
theorem zln (ha : PT X a tA) : PW X (.BoolOp .Or [a] pos) tA := by
 intro wh pins s σ H Q I h
 refine isTrue_or (thn (ha pins s σ H Q I h) fun c s1 e => ?_)
 cases c with
 | false => exact isTrue_or_nil e
 | true => exact e
theorem zlo (ha : PT X a tA) (hb : PW X (.BoolOp .And (b :: rest) pos) tB') : PW X (.BoolOp .And (a :: b :: rest) pos) (tAnd tA tB') := by
 intro wh pins s σ H Q I h
 refine isTrue_and (thn (ha pins s σ H _ I h) fun c s1 ⟨H1, I1, q1⟩ => ?_)
 cases c with
 | true => exact hb wh pins s1 σ H1 Q I1 q1
 | false => exact ⟨H1, I1, q1⟩
theorem pw_or (ha : PT X a tA) (hb : PW X (.BoolOp .Or (b :: rest) pos) tB') : PW X (.BoolOp .Or (a :: b :: rest) pos) (tOr tA tB') := by
 intro wh pins s σ H Q I h
 refine isTrue_or (thn (ha pins s σ H _ I h) fun c s1 ⟨H1, I1, q1⟩ => ?_)
 cases c with
 | true => exact ⟨H1, I1, q1⟩
 | false => exact hb wh pins s1 σ H1 Q I1 q1
theorem zlp (ha : PT X a tA) : PT X (.UnaryOp .Not a pos) (tNot tA) := by
 intro pins s σ H Q I h
 exact isTrue_not (ha pins s σ H (fun c H1 => Q (!c) H1) I h)
def tAndV (ta tb : TE) : TE := fun σ H Q => ta σ H fun x H1 => ∃ c, x = .bl c ∧ if c = true then tb σ H1 Q else Q (.bl false) H1
def tNotV (ta : TE) : TE := fun σ H Q => ta σ H fun x H1 => ∃ c, x = .bl c ∧ Q (.bl (!c)) H1
theorem zlq {op} {t : TE} (h : PE X a t) : PE X (.BoolOp op [a] pos) t := fun pins s σ H Q I hw => BoolOp_one (h pins s σ H Q I hw)
theorem zlr (ha : PE X a ta) (hb : PE X (.BoolOp .And (b :: rest) pos) tb) : PE X (.BoolOp .And (a :: b :: rest) pos) (tAndV ta tb) := by
 intro pins s σ H Q I h
 refine BoolOp_and (thn (ha pins s σ H _ I h) fun v s1 ⟨x, H1, I1, r1, q1⟩ => ?_)
 obtain ⟨c, rfl, q1⟩ := q1
 cases r1
 refine wpAny_truthy_bool ?_
 cases c with
 | true => exact hb pins s1 σ H1 Q I1 q1
 | false => exact ⟨.bl false, H1, I1, rfl, q1⟩
theorem zls (ha : PE X a ta) : PE X (.UnaryOp .Not a pos) (tNotV ta) := by
 intro pins s σ H Q I h
 refine UnaryOp_ (thn (ha pins s σ H _ I h) fun v s1 ⟨x, H1, I1, r1, q1⟩ => ?_)
 obtain ⟨c, rfl, q1⟩ := q1
 cases r1
 exact not_of (wpAny_truthy_bool ⟨.bl (!c), H1, I1, rfl, q1⟩)
end
end L2
namespace L2
open PySem PySem.Spec PyProof.Rows
def SqL (K : PySem.W.Frag) (H : Hp) (a : Addr) (xs : List V) : Prop :=
 Rd H a (.lst xs) ∨
  ∃ (o : Obj) (its : Array Value) (n : Nat), K.lookup a = some o ∧ o.cls = .type "list" ∧ o.dict = none ∧ o.data = .seq its n ∧ its.size ≤ sizeLine ∧ za1 xs its.toList
def SqT (K : PySem.W.Frag) (H : Hp) (a : Addr) (xs : List V) : Prop :=
 Rd H a (.tup xs) ∨
  ∃ (o : Obj) (its : Array Value) (n : Nat), K.lookup a = some o ∧ o.cls = .type "tuple" ∧ o.data = .seq its n ∧ its.size ≤ sizeLine ∧ za1 xs its.toList
def absV : Value → Option V
 | .none => some .non
 | .bool b => some (.bl b)
 | .int i _ => some (.int i)
 | .str x _ => some (.str x)
 | .bytes b _ => some (.byt b)
 | .float b _ => some (.flt b)
 | .ref a => some (.ref a)
 | .type n => some (.ty n)
 | _ => none
theorem RelV.abs {x : V} {u : Value} (r : RelV x u) : absV u = some x := by
 cases x with
 | non => cases r; rfl
 | bl _ => cases r; rfl
 | int _ => obtain ⟨t, rfl⟩ := r; rfl
 | str _ => obtain ⟨t, rfl⟩ := r; rfl
 | byt _ => obtain ⟨t, rfl⟩ := r; rfl
 | flt _ => obtain ⟨t, rfl⟩ := r; rfl
 | ref _ => cases r; rfl
 | ty _ => cases r; rfl
theorem RelV.inj {x y : V} {u : Value} (r : RelV x u) (q : RelV y u) : x = y := Option.some.inj (r.abs.symm.trans q.abs)
theorem za1.inj : ∀ {xs ys : List V} {us : List Value}, za1 xs us → za1 ys us → xs = ys
 | _, _, _, .nil, .nil => rfl
 | _, _, _, .cons r t, .cons r' t' => by rw [r.inj r', za1.inj t t']
section
variable {X : Cx} {pins : List (Addr × Obj)} {σ : St} {H : Hp} {s : Shared} {a : Addr} {xs ys : List V}
theorem SqL.of {K : PySem.W.Frag} (h : H a = some (.lst xs)) : SqL K H a xs := .inl (.inl h)
theorem SqT.of {K : PySem.W.Frag} (h : H a = some (.tup xs)) : SqT K H a xs := .inl (.inl h)
theorem Inv.list (I : Inv X pins σ H s) (h : SqL X.K H a xs) : ∃ its : List Value, za1 xs its ∧ PlainL s.heap a its.toArray ∧ xs.length ≤ sizeLine := by
 rcases h with h | ⟨o, its, n, hk, hc, hd, hs, hz, r⟩
 ·obtain ⟨z, its, n, r, e⟩ := h.ok I.hok
  exact ⟨its, r, ⟨_, n, e, rfl, rfl, rfl⟩, z⟩
 ·refine ⟨its.toList, r, ⟨o, n, I.kIn a o hk, hc, hd, by simpa using hs⟩, ?_⟩
  have e := r.length
  simp only [Array.length_toList] at e
  omega
theorem Inv.tuple (I : Inv X pins σ H s) (h : SqT X.K H a xs) : ∃ its : List Value, za1 xs its ∧ IsTup s.heap a its.toArray ∧ xs.length ≤ sizeLine := by
 rcases h with h | ⟨o, its, n, hk, hc, hs, hz, r⟩
 ·obtain ⟨z, its, r, p⟩ := h.ok I.hok
  exact ⟨its, r, p, z⟩
 ·refine ⟨its.toList, r, ⟨o, I.kIn a o hk, hc, n, by simpa using hs⟩, ?_⟩
  have e := r.length
  simp only [Array.length_toList] at e
  omega
theorem Inv.ziw (I : Inv X pins σ H s) (h : SqL X.K H a xs) (h' : SqL X.K H a ys) : xs = ys := by
 obtain ⟨its, r, ⟨o, n, e, _, _, d⟩, _⟩ := I.list h
 obtain ⟨its', r', ⟨o', n', e', _, _, d'⟩, _⟩ := I.list h'
 rw [e] at e'; cases e'
 rw [d] at d'
 injection d' with d1 _
 have : its = its' := by simpa using congrArg Array.toList d1
 subst this
 exact r.inj r'
theorem Inv.zdy (I : Inv X pins σ H s) (h : SqT X.K H a xs) (h' : SqT X.K H a ys) : xs = ys := by
 obtain ⟨its, r, ⟨o, e, _, n, d⟩, _⟩ := I.tuple h
 obtain ⟨its', r', ⟨o', e', _, n', d'⟩, _⟩ := I.tuple h'
 rw [e] at e'; cases e'
 rw [d] at d'
 injection d' with d1 _
 have : its = its' := by simpa using congrArg Array.toList d1
 subst this
 exact r.inj r'
end
abbrev Cx.zio (X : Cx) (E : Value → Shared → Prop) : Cx := { X with xe := E }
abbrev Cx.nox (X : Cx) : Cx := X.zio fun _ _ => False
theorem Cx.Ok.zio {X : Cx} (ok : X.Ok) (E : Value → Shared → Prop) : (X.zio E).Ok :=
 ⟨ok.mod, ok.kind, ok.glob, ok.blt, ok.above, ok.inj, ok.has, ok.cab, ok.hd, ok.frames, ok.stk, ok.exf, ok.bs, ok.bsz, ok.noex, ok.exfs, ok.zhc, ok.frf⟩
theorem Cx.Ok.zdb {X : Cx} {E : Value → Shared → Prop} (ok : (X.zio E).Ok) : X.Ok :=
 ⟨ok.mod, ok.kind, ok.glob, ok.blt, ok.above, ok.inj, ok.has, ok.cab, ok.hd, ok.frames, ok.stk, ok.exf, ok.bs, ok.bsz, ok.noex, ok.exfs, ok.zhc, ok.frf⟩
section
variable {X : Cx} {pins : List (Addr × Obj)} {σ : St} {H : Hp} {s : Shared} {E : Value → Shared → Prop}
theorem Inv.zio (I : Inv X pins σ H s) (E : Value → Shared → Prop) : Inv (X.zio E) pins σ H s := ⟨I.ok.zio E, I.os, I.bare, I.base, I.loc, I.cell, I.free, I.freeC, I.pin, I.hok, I.len⟩
theorem Inv.zdb (I : Inv (X.zio E) pins σ H s) : Inv X pins σ H s := ⟨I.ok.zdb, I.os, I.bare, I.base, I.loc, I.cell, I.free, I.freeC, I.pin, I.hok, I.len⟩
theorem SP.zdb {D : Ends} {f : Flow} {s' : Shared} (h : SP (X.zio E) pins D f s') : SP X pins D f s' := by
 cases f with
 | next => obtain ⟨σ', H', I, q⟩ := h; exact ⟨σ', H', I.zdb, q⟩
 | brk => obtain ⟨σ', H', I, q⟩ := h; exact ⟨σ', H', I.zdb, q⟩
 | cont => obtain ⟨σ', H', I, q⟩ := h; exact ⟨σ', H', I.zdb, q⟩
 | ret u => obtain ⟨v, σ', H', I, r, q⟩ := h; exact ⟨v, σ', H', I.zdb, r, q⟩
theorem PSs.nox {st : List Stmt} {t : TS} (h : PSs X.nox st t) : PSs X st t := fun pins s σ H D I hw =>
 wpAny_mono (h pins s σ H D (I.zio _) hw) (fun _ _ q => q.zdb) fun _ _ z => False.elim z
end
section
variable {X : Cx} {st : Stmt} {rest : List Stmt} {t u : TS} {e : Expr} {te : TE} {pos : Pos}
def zlu : TS := fun D σ H => D.nx σ H
def tSeq (t u : TS) : TS := fun D σ H => t { D with nx := u D } σ H
theorem zjY : PSs X [] zlu := fun _ _ σ H _ I h => wpAny_execs_nil ⟨σ, H, I, h⟩
theorem zix (h1 : PS X st t) (h2 : PSs X rest u) : PSs X (st :: rest) (tSeq t u) := by
 intro pins s σ H D I h
 refine wpAny_execs_cons (thn (h1 pins s σ H { D with nx := u D } I h) fun f s1 q => ?_)
 cases f with
 | next =>
  obtain ⟨σ', H', I', q⟩ := q
  exact h2 pins s1 σ' H' D I' q
 | ret v => exact q
 | brk => exact q
 | cont => exact q
theorem zjZ (h1 : PS X st t) : PSs X [st] t := by
 intro pins s σ H D I h
 refine wpAny_execs_cons (thn (h1 pins s σ H D I h) fun f s1 q => ?_)
 cases f with
 | next => exact wpAny_execs_nil q
 | ret v => exact q
 | brk => exact q
 | cont => exact q
theorem Inv.quiet {pins : List (Addr × Obj)} {σ : St} {H : Hp} {s : Shared} (I : Inv X pins σ H s) : interactive X.env = false := by simp [interactive, I.ok.kind]
def tDrop (te : TE) : TS := fun D σ H => te σ H fun _ H1 => D.nx σ H1
theorem zj0 (he : PE X e te) (hs : swapsWith e none pos.line X.env = pure false := by rfl) : PS X (.Expr e pos) (tDrop te) := by
 intro pins s σ H D I h
 exact wpAny_Expr_any (thn (he pins s σ H _ I h) fun v s1 ⟨x, H1, I1, r1, q1⟩ => ⟨σ, H1, I1, q1⟩) I.quiet hs
def tRet (te : TE) : TS := fun D σ H => te σ H D.rt
theorem zlv (he : PE X e te) : PS X (.Return (some e) pos) (tRet te) := by
 intro pins s σ H D I h
 exact wpAny_Return_some (thn (he pins s σ H _ I h) fun v s1 ⟨x, H1, I1, r1, q1⟩ => ⟨x, σ, H1, I1, r1, q1⟩)
def tIfS (c : TT) (t u : TS) : TS := fun D σ H => c σ H fun b H1 => if b = true then t D σ H1 else u D σ H1
theorem ps_if {c : Expr} {a b : List Stmt} {tc : TT} (hc : PT X c tc) (ha : PSs X a t) (hb : PSs X b u) : PS X (.If c a b pos) (tIfS tc t u) := by
 intro pins s σ H D I h
 refine wpAny_If (thn (hc pins s σ H _ I h) fun d s1 ⟨H1, I1, q1⟩ => ?_)
 cases d with
 | true => exact ha pins s1 σ H1 D I1 q1
 | false => exact hb pins s1 σ H1 D I1 q1
end
abbrev TG := V → St → Hp → (St → Hp → Prop) → Prop
abbrev TGs := List V → St → Hp → (St → Hp → Prop) → Prop
def PG (X : Cx) (target : Expr) (t : TG) : Prop :=
 ∀ (pins : List (Addr × Obj)) (s : Shared) (σ : St) (H : Hp) (v : V) (u : Value) (Q : St → Hp → Prop), Inv X pins σ H s → RelV v u → t v σ H Q →
  wpAny (model X.prog X.w) X.A (assign target X.env u) (fun _ s' => ∃ σ' H', Inv X pins σ' H' s' ∧ Q σ' H') X.xe s
def PGs (X : Cx) (ts : List Expr) (t : TGs) : Prop :=
 ∀ (pins : List (Addr × Obj)) (s : Shared) (σ : St) (H : Hp) (vs : List V) (us : List Value) (Q : St → Hp → Prop), Inv X pins σ H s → za1 vs us → t vs σ H Q →
  wpAny (model X.prog X.w) X.A (assignInOrder ((assignEach ts X.env).map (·.2)) us) (fun _ s' => ∃ σ' H', Inv X pins σ' H' s' ∧ Q σ' H') X.xe s
abbrev TSet := V → V → V → Hp → (Hp → Prop) → Prop
def PSet (X : Cx) (t : TSet) : Prop :=
 ∀ (pins : List (Addr × Obj)) (s : Shared) (σ : St) (H : Hp) (o i v : V) (ov iv u : Value) (Q : Hp → Prop), Inv X pins σ H s → RelV o ov → RelV i iv → RelV v u → t o i v H Q →
  wpAny (model X.prog X.w) X.A (setItem ov iv u) (fun _ s' => ∃ H', Inv X pins σ H' s' ∧ Q H') X.xe s
section
variable {X : Cx} {pos : Pos}
def zj1 (i : Nat) : TG := fun v σ H Q => Q (σ.set i (some v)) H
theorem zj2 {i : Nat} {x : Str} (hN : X.N.Nodup) (hi : X.N[i]? = some x) (hx : Loc X.env.scope x) (hf : X.fn x = true ∨ X.env.scope.names.lookup x = some .local := by first | exact .inl rfl | exact .inr rfl | assumption) : PG X (.Name x pos) (zj1 i) := by
 intro pins s σ H v u Q I r h
 exact wpAny_assign_Name (zdq I hN hi hx r (fun s' I' => ⟨_, H, I', h⟩) hf)
def gNil : TGs := fun vs σ H Q => vs = [] ∧ Q σ H
def gCons (t : TG) (u : TGs) : TGs := fun vs σ H Q => ∃ v r, vs = v :: r ∧ t v σ H fun σ' H' => u r σ' H' Q
theorem zj3 : PGs X [] gNil := by
 intro pins s σ H vs us Q I r h
 obtain ⟨e, h⟩ := h
 subst e
 cases r
 exact assignInOrder_nil ⟨σ, H, I, h⟩
theorem ziy {e : Expr} {es : List Expr} {t : TG} {u : TGs} (h1 : PG X e t) (h2 : PGs X es u)
  (hs : (assignEach (e :: es) X.env).map (·.2) = assign e X.env :: (assignEach es X.env).map (·.2) := by rfl) : PGs X (e :: es) (gCons t u) := by
 intro pins s σ H vs us Q I r h
 obtain ⟨v, vr, e1, h⟩ := h
 subst e1
 cases r with
 | cons r rr =>
  rw [hs]
  refine assignInOrder_cons (thn (h1 pins s σ H _ _ _ I r h) fun _ s1 ⟨σ1, H1, I1, q1⟩ => ?_)
  exact h2 pins s1 σ1 H1 _ _ Q I1 rr q1
def gTup (K : PySem.W.Frag) (n : Nat) (t : TGs) : TG := fun v σ H Q => ∃ a xs, v = .ref a ∧ SqT K H a xs ∧ xs.length = n ∧ t xs σ H Q
theorem zlw {es : List Expr} {k : Nat} {t : TGs} {n : Nat} (hc : X.calm = true) (h : PGs X es t)
  (hn : (assignEach es X.env).length = n := by rfl) (hst : (assignEach es X.env).findIdx? (·.1) = none := by rfl) : PG X (.Tuple es k pos) (gTup X.K n t) := by
 intro pins s σ H v u Q I r hw
 obtain ⟨a, xs, e1, hq, hl, hw⟩ := hw
 subst e1
 cases r
 obtain ⟨its, rv, ht, hz⟩ := I.tuple hq
 refine assign_Tuple_tuple (I.ok.hd hc) ht (by simp [hn, ← hl, rv.length]) hst fun h' hx => ?_
 have I1 : Inv X pins σ H { s with heap := h' } := I.kept (t' := s.toks) fun b o e => hx b o (Nat.ne_of_lt (Heap.lt_size e)) e
 exact h pins _ σ H xs _ Q I1 (by simpa using rv) hw
def zlx (to ti : TE) (t : TSet) : TG := fun v σ H Q => to σ H fun o H1 => ti σ H1 fun i H2 => t o i v H2 fun H3 => Q σ H3
theorem zhg {o i : Expr} {to ti : TE} {t : TSet} (ho : PE X o to) (hi : PE X i ti) (hs : PSet X t)
  (ha : ∀ v, assign (.Subscript o i pos) X.env v = (do
   let ov ← holding [v] (eval o X.env)
   let iv ← holding [v, ov] (eval i X.env)
   standAt pos
   holding [v, ov, iv] (setItem ov iv v)
   release [v, ov, iv] []) := by intro _; rfl) : PG X (.Subscript o i pos) (zlx to ti t) := by
 intro pins s σ H v u Q I r h
 rw [ha]
 refine wpAny_bind (wpAny_holding (thn (ho pins s σ H _ I h) fun ov s1 ⟨x, H1, I1, r1, q1⟩ => ?_))
 refine wpAny_bind (wpAny_holding (thn (hi pins s1 σ H1 _ I1 q1) fun iv s2 ⟨y, H2, I2, r2, q2⟩ => ?_))
 refine wpAny_bind (wpAny_standAt (wpAny_bind (wpAny_holding (thn (hs pins s2 σ H2 x y v ov iv u _ I2 r1 r2 r q2) fun _ s3 ⟨H3, I3, q3⟩ => ?_))))
 exact wpAny_release ⟨σ, H3, I3, q3⟩
def ziz (te : TE) (g : TG) : TS := fun D σ H => te σ H fun x H1 => g x σ H1 D.nx
theorem zeH {tg e : Expr} {te : TE} {g : TG} (he : PE X e te) (hg : PG X tg g) (hs : swapsWithSole [tg] e pos.line X.env = pure false := by rfl) (hw : swappedStores [tg] e X.env = pure none := by rfl)
  (h1 : (assignEach [tg] X.env).map (·.2) = [assign tg X.env] := by rfl) : PS X (.Assign [tg] e pos) (ziz te g) := by
 intro pins s σ H D I h
 refine wpAny_Assign_stores (thn (he pins s σ H _ I h) fun v s1 ⟨x, H1, I1, r1, q1⟩ => ?_) hs hw
 rw [h1]
 exact thn (hg pins s1 σ H1 x v _ I1 r1 q1) fun _ s2 q => q
theorem zly {i : Nat} {x : Str} {e : Expr} {te : TE} {pos' : Pos} (hN : X.N.Nodup) (hi : X.N[i]? = some x) (hx : Loc X.env.scope x) (he : PE X e te) (hs : swapsWith e (some (.Name x pos')) pos.line X.env = pure false := by rfl) (hf : X.fn x = true ∨ X.env.scope.names.lookup x = some .local := by first | exact .inl rfl | exact .inr rfl | assumption) :
  PS X (.Assign [.Name x pos'] e pos) (ziz te (zj1 i)) := by
 intro pins s σ H D I h
 refine wpAny_Assign_Name (thn (he pins s σ H _ I h) fun v s1 ⟨y, H1, I1, r1, q1⟩ => ?_) hs
 exact zdq I1 hN hi hx r1 (fun s2 I2 => ⟨_, H1, I2, q1⟩) hf
def tPar (i j : Nat) (ta : TA) : TS := fun D σ H => ta σ H fun vs H1 => ∃ v w, vs = [v, w] ∧ D.nx ((σ.set i (some v)).set j (some w)) H1
theorem zjn {i j : Nat} {x y : Str} {a b : Expr} {ta : TA} {px py pt : Pos} {kt k2 pt2} (hc : X.calm = true) (hN : X.N.Nodup) (hi : X.N[i]? = some x) (hj : X.N[j]? = some y) (hij : i ≠ j)
  (hx : X.env.scope.names.lookup x = some .local) (hy : X.env.scope.names.lookup y = some .local) (ha : PA X [a, b] ta)
  (hw : swappedStores [.Tuple [.Name x px, .Name y py] kt pt] (.Tuple [a, b] k2 pt2) X.env = pure (some [x, y]))
  (hs : swapsWithSole [.Tuple [.Name x px, .Name y py] kt pt] (.Tuple [a, b] k2 pt2) pos.line X.env = pure false := by rfl) :
  PS X (.Assign [.Tuple [.Name x px, .Name y py] kt pt] (.Tuple [a, b] k2 pt2) pos) (tPar i j ta) := by
 intro pins s σ H D I h
 rw [exec_Assign_arm]
 refine wpAny_bind (wpAny_standAt ?_)
 rw [hs]
 refine wpAny_bind (wpAny_pure ?_)
 rw [if_neg (by decide)]
 refine wpAny_bind (Tuple_ (thn (ha _ pins s σ H _ I h) fun us s1 ⟨vs, H1, I1, r1, q1⟩ => ?_))
 obtain ⟨v, w, e1, q1⟩ := q1
 subst e1
 obtain ⟨u1, u2, rfl, rv, rw'⟩ : ∃ u1 u2, us = [u1, u2] ∧ RelV v u1 ∧ RelV w u2 := by
  cases r1 with
  | cons p q =>
   cases q with
   | cons p' q' =>
    cases q'
    exact ⟨_, _, rfl, p, p'⟩
 refine wpAny_newObj_type ?_ (by show 2 ≤ sizeLine; decide)
 have I2 : Inv X pins σ H1 { s1 with heap := s1.heap.push { cls := .type "tuple", data := .seq [u1, u2].toArray } } := I1.kept (t' := s1.toks) fun b o e => Heap.get?_push_of_some _ e
 rw [hw]
 refine wpAny_bind (wpAny_pure ?_)
 show wpAny (model X.prog X.w) X.A (do rule "assign.swapped-stores"; let items ← unpackItems (.ref s1.heap.objs.size) 2 none; assignInOrder [fun v => bindName X.env y v, fun v => bindName X.env x v] items.reverse; pure Flow.next) _ _ _
 refine wpAny_bind (wpAny_rule (wpAny_bind (unpackItems_tuple (items := #[u1, u2]) (I.ok.hd hc) (IsTup.new s1.heap _) fun h' hx' => ?_)))
 have I3 := I2.kept (h' := h') (t' := s1.toks) fun b o e => hx' b o (Nat.ne_of_lt (Heap.lt_size e)) e
 show wpAny _ _ (assignInOrder [fun v => bindName X.env y v, fun v => bindName X.env x v] [u2, u1] >>= fun _ => pure Flow.next) _ _ _
 refine wpAny_bind (assignInOrder_cons (wpAny_bindName (zdq I3 hN hj (.inl hy) rw' (fun s2 I4 => ?_) (.inr hy))))
 refine assignInOrder_cons (wpAny_bindName (zdq I4 hN hi (.inl hx) rv (fun s3 I5 => assignInOrder_nil (wpAny_pure ?_)) (.inr hx)))
 rw [List.set_comm _ _ (Ne.symm hij)] at I5
 exact ⟨_, H1, I5, q1⟩
end
structure It where
 go : Nat → Hp → Prop
 yld : Nat → Hp → V → Hp → Prop
 stop : Nat → Hp → Prop
def zgC (X : Cx) (pins : List (Addr × Obj)) (H : Hp) (b : Addr) : Prop :=
 H b = none ∧ b ≠ X.env.locals ∧ b ∉ X.fs ∧ (b ∈ X.ex ∨ X.s₀.heap.objs.size ≤ b) ∧ (∀ x c, X.env.cells.lookup x = some c → c ≠ b) ∧ ∀ p ∈ X.pn ++ pins, p.1 ≠ b
theorem Inv.fpOk {X : Cx} {pins : List (Addr × Obj)} {σ : St} {H H' : Hp} {s : Shared} {b : Addr} (I : Inv X pins σ H s) (hb : s.heap.objs.size ≤ b) (hn : H' b = none) : zgC X pins H' b := by
 refine ⟨hn, Nat.ne_of_gt (Nat.lt_of_lt_of_le I.lt hb), I.nofs hb, .inr (Nat.le_trans I.sz hb), fun x c e z => ?_, fun p hp z => ?_⟩
 ·obtain ⟨v, q⟩ := I.cell x c e
  exact absurd (Nat.lt_of_lt_of_le q.lt (by rw [z]; exact hb)) (Nat.lt_irrefl _)
 ·exact absurd (Nat.lt_of_lt_of_le (Heap.lt_size (I.pin p hp).1) (by rw [z]; exact hb)) (Nat.lt_irrefl _)
structure Turn (P : Program) (w : World) (K : PySem.W.Frag) (tg : Expr) (J : It) (fp : List Addr) (it : Addr) (tn : Nat → Heap → Prop) : Prop where
 mem : it ∈ fp
 obj : ∀ i h, tn i h → ∀ b ∈ fp, ∃ o, h.get? b = some o ∧ ∀ v, o.data ≠ .cell v
 keep : ∀ i h h', tn i h → (∀ b ∈ fp, ∀ o, h.get? b = some o → h'.get? b = some o) → tn i h'
 item : ∀ (X : Cx), X.prog = P → X.w = w → X.K = K → X.calm = true → ∀ (i : Nat) (pins : List (Addr × Obj)) (s : Shared) (σ : St) (H : Hp) (E : Value → Shared → Prop), Inv X pins σ H s → (∀ b ∈ fp, zgC X pins H b) → tn i s.heap → J.go i H →
  wpAny (model P w) X.A (pyNext (.ref it)) (fun r s1 => ∃ u, r = some u ∧
   wpAny (model P w) X.A (letOwnedTupleGo tg (.ref it) u) (fun _ s2 => ∃ x H', Inv X pins σ H' s2 ∧ RelV x u ∧ J.yld i H x H' ∧ tn (i + 1) s2.heap ∧ ∀ b ∈ fp, H' b = none) E s1) E s
 done : ∀ (X : Cx), X.prog = P → X.w = w → X.K = K → X.calm = true → ∀ (i : Nat) (pins : List (Addr × Obj)) (s : Shared) (σ : St) (H : Hp) (E : Value → Shared → Prop), Inv X pins σ H s → (∀ b ∈ fp, zgC X pins H b) → tn i s.heap → J.stop i H →
  wpAny (model P w) X.A (pyNext (.ref it)) (fun r s1 => r = none ∧ Inv X pins σ H s1) E s
 self : ∀ (A : Around) (i : Nat) (s : Shared) (Q : Value → Shared → Prop) (E : Value → Shared → Prop), tn i s.heap → Q (.ref it) s → wpAny (model P w) A (pyIter (.ref it)) Q E s
abbrev TI := St → Hp → (It → Hp → Prop) → Prop
def PIE (X : Cx) (pins : List (Addr × Obj)) (σ : St) (tg : Expr) (R : It → Hp → Prop) (itv : Value) (s2 : Shared) : Prop :=
 ∃ (it : Addr) (fp : List Addr) (tn : Nat → Heap → Prop) (J : It) (H' : Hp), itv = .ref it ∧ Inv X pins σ H' s2 ∧ Turn X.prog X.w X.K tg J fp it tn ∧ tn 0 s2.heap ∧ (∀ b ∈ fp, zgC X pins H' b) ∧ R J H'
def PI (X : Cx) (tg iter : Expr) (wi : TI) : Prop :=
 ∀ (pins : List (Addr × Obj)) (s : Shared) (σ : St) (H : Hp) (R : It → Hp → Prop), Inv X pins σ H s → wi σ H R →
  wpAny (model X.prog X.w) X.A (eval iter X.env) (fun v s1 => wpAny (model X.prog X.w) X.A (pyIter v) (PIE X pins σ tg R) X.xe s1) X.xe s
theorem zj4 {M : Model} {A : Around} {E : Value → Shared → Prop} {s : Shared} {tg : Expr} {it : Addr} {u : Value} {o : Obj} {n : String} {vs : Array Value} {Q : Unit → Shared → Prop} (ho : s.heap.get? it = some o) (hc : o.cls = .type n) (hd : o.data = .fields vs)
    (hn : ["enumerate", "zip", "dict_itemiterator", "dict_reverseitemiterator", "odict_iterator", "itertools.zip_longest", "itertools.pairwise"].contains n = false) (hQ : Q () s) : wpAny M A (letOwnedTupleGo tg (.ref it) u) Q E s := by
  unfold letOwnedTupleGo
  cases tg <;> first
    | exact wpAny_pure hQ
    | (cases u <;> first
        | exact wpAny_pure hQ
        | (refine wpAny_bind (wpAny_load ho ?_)
           rw [hc, hd]
           show wpAny M A (if (["enumerate", "zip", "dict_itemiterator", "dict_reverseitemiterator", "odict_iterator", "itertools.zip_longest", "itertools.pairwise"].contains n && vs[0]? == some (rawInt _)) = true then _ else _) Q E s
           rw [if_neg (by intro h; rw [hn, Bool.false_and] at h; cases h)]
           exact wpAny_pure hQ))
def Itl (K : PySem.W.Frag) (a : Addr) : It :=
 ⟨fun i H => ∃ xs x, SqL K H a xs ∧ xs[i]? = some x, fun i H x H' => H' = H ∧ ∀ xs, SqL K H a xs → xs[i]? = some x, fun i H => ∃ xs, SqL K H a xs ∧ xs.length ≤ i⟩
def Itt (K : PySem.W.Frag) (a : Addr) : It :=
 ⟨fun i H => ∃ xs x, SqT K H a xs ∧ xs[i]? = some x, fun i H x H' => H' = H ∧ ∀ xs, SqT K H a xs → xs[i]? = some x, fun i H => ∃ xs, SqT K H a xs ∧ xs.length ≤ i⟩
def Itr (lo : Int) (n : Nat) : It := ⟨fun i _ => i < n, fun i H x H' => H' = H ∧ x = .int (lo + i), fun i _ => n ≤ i⟩
theorem zhh {P : Program} {w : World} {K : PySem.W.Frag} {tg : Expr} (a it : Addr) : Turn P w K tg (Itl K a) [it] it (fun i h => h.IsListIter it a i) where
 mem := by simp
 obj := fun i h st b hb => by
  have e : b = it := by simpa using hb
  subst e
  obtain ⟨o, e, c, d⟩ := st
  exact ⟨o, e, fun v z => by rw [d] at z; cases z⟩
 keep := fun i h h' st k => st.at fun o e => k it (by simp) o e
 item := by
  intro X hP hw hK hc i pins s σ H E I hf st hg
  subst hP hw hK
  obtain ⟨xs, x, hq, hx⟩ := hg
  obtain ⟨its, rv, p, hz⟩ := I.list hq
  obtain ⟨u, hu, ru⟩ := rv.get hx
  obtain ⟨f0, f1, f2, f3, f4, f5⟩ := hf it (by simp)
  refine wpAny_pyNext_list_item st p.isList (x := u) (by simpa using hu) fun h' st' sb => ?_
  have I1 : Inv X pins σ H { s with heap := h' } := I.turned (t' := s.toks) (fun b o hb e => (sb.2 b hb).trans e) f0 f1 f3 f4 f5
  obtain ⟨o, e, c, d⟩ := id st'
  exact ⟨u, rfl, zj4 (s := { s with heap := h' }) e c d (by decide) ⟨x, H, I1, ru, ⟨rfl, fun ys hy => by rw [I.ziw hy hq]; exact hx⟩, st', fun b hb => (hf b hb).1⟩⟩
 done := by
  intro X hP hw hK hc i pins s σ H E I hf st hg
  subst hP hw hK
  obtain ⟨xs, hq, hx⟩ := hg
  obtain ⟨its, rv, p, hz⟩ := I.list hq
  obtain ⟨f0, f1, f2, f3, f4, f5⟩ := hf it (by simp)
  have hl := rv.length
  exact wpAny_pyNext_list_end (I.ok.hd hc) st p.isList (by simp; omega) fun h' eb => ⟨rfl, I.turned (t' := s.toks) (fun b o hb e => eb b o hb e) f0 f1 f3 f4 f5⟩
 self := fun _ _ _ _ _ st h => wpAny_pyIter_listiter st h
theorem zgD {P : Program} {w : World} {K : PySem.W.Frag} {tg : Expr} (a it : Addr) : Turn P w K tg (Itt K a) [it] it (fun i h => h.IsTupleIter it a i) where
 mem := by simp
 obj := fun i h st b hb => by
  have e : b = it := by simpa using hb
  subst e
  obtain ⟨o, e, c, d⟩ := st
  exact ⟨o, e, fun v z => by rw [d] at z; cases z⟩
 keep := fun i h h' st k => st.at fun o e => k it (by simp) o e
 item := by
  intro X hP hw hK hc i pins s σ H E I hf st hg
  subst hP hw hK
  obtain ⟨xs, x, hq, hx⟩ := hg
  obtain ⟨its, rv, p, hz⟩ := I.tuple hq
  obtain ⟨u, hu, ru⟩ := rv.get hx
  obtain ⟨f0, f1, f2, f3, f4, f5⟩ := hf it (by simp)
  refine wpAny_pyNext_tuple_item st (show s.heap.IsTuple a its.toArray from p) (x := u) (by simpa using hu) fun h' st' sb => ?_
  have I1 : Inv X pins σ H { s with heap := h' } := I.turned (t' := s.toks) (fun b o hb e => (sb.2 b hb).trans e) f0 f1 f3 f4 f5
  obtain ⟨o, e, c, d⟩ := id st'
  exact ⟨u, rfl, zj4 (s := { s with heap := h' }) e c d (by decide) ⟨x, H, I1, ru, ⟨rfl, fun ys hy => by rw [I.zdy hy hq]; exact hx⟩, st', fun b hb => (hf b hb).1⟩⟩
 done := by
  intro X hP hw hK hc i pins s σ H E I hf st hg
  subst hP hw hK
  obtain ⟨xs, hq, hx⟩ := hg
  obtain ⟨its, rv, p, hz⟩ := I.tuple hq
  obtain ⟨f0, f1, f2, f3, f4, f5⟩ := hf it (by simp)
  have hl := rv.length
  exact wpAny_pyNext_tuple_end (I.ok.hd hc) st (show s.heap.IsTuple a its.toArray from p) (by simp; omega) fun h' eb => ⟨rfl, I.turned (t' := s.toks) (fun b o hb e => eb b o hb e) f0 f1 f3 f4 f5⟩
 self := fun _ _ _ _ _ st h => wpAny_pyIter_tupleiter st h
theorem zgE {P : Program} {w : World} {K : PySem.W.Frag} {tg : Expr} (it : Addr) (lo : Int) (n : Nat) : Turn P w K tg (Itr lo n) [it] it (fun i h => IsRangeIter h it (lo + (i : Nat) * 1) ((n : Int) - (i : Nat)) 1) where
 mem := by simp
 obj := fun i h st b hb => by
  have e : b = it := by simpa using hb
  subst e
  exact ⟨_, st, fun v z => by
   have z' : Data.fields _ = Data.cell v := z
   cases z'⟩
 keep := fun i h h' st k => k it (by simp) _ st
 item := by
  intro X hP hw hK hc i pins s σ H E I hf st hg
  subst hP hw hK
  obtain ⟨f0, f1, f2, f3, f4, f5⟩ := hf it (by simp)
  have W := Walks.range (prog := X.prog) (w := X.w) (I.ok.hd hc) it lo 1 n
  refine W.item i s _ _ hg st fun v h' tk hv st' kk => ?_
  obtain ⟨t, rfl⟩ := hv
  have I1 : Inv X pins σ H { s with heap := h', toks := tk } := I.turned (fun b o hb e => kk b o (by simpa using hb) e) f0 f1 f3 f4 f5
  refine ⟨_, rfl, zj4 (s := { s with heap := h', toks := tk }) (n := "range_iterator") st' rfl rfl (by decide) ⟨.int (lo + i), H, I1, ⟨t, ?_⟩, ⟨rfl, rfl⟩, st', fun b hb => (hf b hb).1⟩⟩
  rw [Int.mul_one]
 done := by
  intro X hP hw hK hc i pins s σ H E I hf st hg
  subst hP hw hK
  obtain ⟨f0, f1, f2, f3, f4, f5⟩ := hf it (by simp)
  exact wpAny_pyNext_range_end (I.ok.hd hc) st (by have : n ≤ i := hg; omega) fun h' eb => ⟨rfl, I.turned (t' := s.toks) (fun b o hb e => eb b o hb e) f0 f1 f3 f4 f5⟩
 self := fun _ _ _ _ _ st h => wpAny_pyIter_rangeiter st h
end L2
namespace L2
open PySem PySem.Spec PyProof.Rows
section
variable {X : Cx} {tg : Expr}
def zj5 (K : PySem.W.Frag) (tl : TE) : TI := fun σ H R => tl σ H fun x H1 => ∃ a, x = .ref a ∧ (∃ xs, SqL K H1 a xs) ∧ R (Itl K a) H1
def iTup (K : PySem.W.Frag) (tl : TE) : TI := fun σ H R => tl σ H fun x H1 => ∃ a, x = .ref a ∧ (∃ xs, SqT K H1 a xs) ∧ R (Itt K a) H1
theorem zhi {l : Expr} {tl : TE} (hl : PE X l tl) : PI X tg l (zj5 X.K tl) := by
 intro pins s σ H R I h
 refine thn (hl pins s σ H _ I h) fun v s1 ⟨x, H1, I1, r1, q1⟩ => ?_
 obtain ⟨a, e, ⟨xs, hq⟩, q⟩ := q1
 subst e
 cases r1
 obtain ⟨its, rv, p, hz⟩ := I1.list hq
 refine wpAny_pyIter_list p.isList ?_
 refine ⟨s1.heap.objs.size, [s1.heap.objs.size], _, _, H1, rfl, I1.kept (t' := s1.toks) fun b o e => Heap.get?_push_of_some _ e, zhh a _, ⟨_, Heap.get?_push_size _ rfl, rfl, rfl⟩, fun b hb => ?_, q⟩
 have e : b = s1.heap.objs.size := by simpa using hb
 subst e
 exact I1.fpOk (Nat.le_refl _) (I1.hok.fresh (Nat.le_refl _))
theorem zlz {l : Expr} {tl : TE} (hl : PE X l tl) : PI X tg l (iTup X.K tl) := by
 intro pins s σ H R I h
 refine thn (hl pins s σ H _ I h) fun v s1 ⟨x, H1, I1, r1, q1⟩ => ?_
 obtain ⟨a, e, ⟨xs, hq⟩, q⟩ := q1
 subst e
 cases r1
 obtain ⟨its, rv, p, hz⟩ := I1.tuple hq
 refine wpAny_pyIter_tuple (show s1.heap.IsTuple a its.toArray from p) ?_
 refine ⟨s1.heap.objs.size, [s1.heap.objs.size], _, _, H1, rfl, I1.kept (t' := s1.toks) fun b o e => Heap.get?_push_of_some _ e, zgD a _, ⟨_, Heap.get?_push_size _ rfl, rfl, rfl⟩, fun b hb => ?_, q⟩
 have e : b = s1.heap.objs.size := by simpa using hb
 subst e
 exact I1.fpOk (Nat.le_refl _) (I1.hok.fresh (Nat.le_refl _))
theorem ziA {pins : List (Addr × Obj)} {σ : St} {H : Hp} {s : Shared} {R : It → Hp → Prop} {E : Value → Shared → Prop} {lo hi : Int} {t u v : Tok} {tk : Nat} (I : Inv X pins σ H s) (h1 : -(2 ^ 62) ≤ lo) (h2 : lo < 2 ^ 62) (h3 : -(2 ^ 62) ≤ hi) (h4 : hi < 2 ^ 62)
  (q : R (Itr lo (hi - lo).toNat) H) : wpAny (model X.prog X.w) X.A (pyIter (.ref s.heap.objs.size)) (PIE X pins σ tg R) E { s with heap := s.heap.push { cls := .type "range", data := .fields #[.int lo t, .int hi u, .int 1 v] }, toks := tk } := by
 refine wpAny_pyIter_range (IsRange.new ..) (small_one h1 h2 h3 h4) ?_
 have I1 : Inv X pins σ H { s with heap := s.heap.push { cls := .type "range", data := .fields #[.int lo t, .int hi u, .int 1 v] }, toks := tk } := I.kept fun b o e => Heap.get?_push_of_some _ e
 refine ⟨(s.heap.push { cls := .type "range", data := .fields #[.int lo t, .int hi u, .int 1 v] }).objs.size, [(s.heap.push { cls := .type "range", data := .fields #[.int lo t, .int hi u, .int 1 v] }).objs.size], _, _, H, rfl,
  I1.kept (t' := tk) fun b o e => Heap.get?_push_of_some _ e, zgE _ lo (hi - lo).toNat, ?_, fun b hb => ?_, q⟩
 ·have e1 : lo + ((0 : Nat) : Int) * 1 = lo := by simp
  have e2 : (((hi - lo).toNat : Nat) : Int) - ((0 : Nat) : Int) = Builtin.Range.rangeSize lo hi 1 := by rw [rangeSize_one]; split <;> omega
  show IsRangeIter _ _ (lo + ((0 : Nat) : Int) * 1) ((((hi - lo).toNat : Nat) : Int) - ((0 : Nat) : Int)) 1
  rw [e1, e2]
  exact Heap.get?_push_size _ rfl
 ·have e : b = (s.heap.push { cls := .type "range", data := .fields #[.int lo t, .int hi u, .int 1 v] }).objs.size := by simpa using hb
  subst e
  exact I1.fpOk (Nat.le_refl _) (I1.hok.fresh (Nat.le_refl _))
def iRng1 (ta : TA) : TI := fun σ H R => ta σ H fun vs H1 => ∃ j : Int, vs = [.int j] ∧ -(2 ^ 62) ≤ j ∧ j < 2 ^ 62 ∧ R (Itr 0 j.toNat) H1
theorem zhj {a : Expr} {ta : TA} {p pos : Pos} (hg : Gl X "range") (hm : X.mg "range" = none) (ha : PA X [a] ta) (hs : starEach [a] X.env = [(false, eval a X.env)] := by rfl) : PI X tg (.Call (.Name "range" p) [a] [] pos) (iRng1 ta) := by
 intro pins s σ H R I h
 refine Call_ (zeG I hg hm boot_range (PyProof.Rows.callWith_type1 (thn (ha pos pins s σ H _ I h) fun us s1 ⟨vs, H1, I1, r1, q1⟩ => ?_) hs rfl))
 obtain ⟨j, e, q1, q2, q⟩ := q1
 subst e
 cases r1 with
 | cons r rr =>
  cases rr
  obtain ⟨t, rfl⟩ := r
  exact call_range_1 (ziA I1 (by omega) (by omega) q1 q2 (by simpa using q))
def tFor (wi : TI) (g : TG) (tb : TS) : TS := fun D σ H => wi σ H fun J H1 => ∃ W : Nat → Nat → St → Hp → Prop, (∃ m, W 0 m σ H1) ∧ ∀ i m σ H, W i m σ H →
 (J.stop i H ∧ D.nx σ H) ∨ (J.go i H ∧ ∃ N : St → Hp → Prop, (∀ σ' H', N σ' H' → ∃ m', m' < m ∧ W (i + 1) m' σ' H') ∧ ∀ x H', J.yld i H x H' → g x σ H' fun σ2 H2 => tb { D with nx := N, ct := N, bk := D.nx } σ2 H2)
def zeI (fp : List Addr) (h : Heap) : List (Addr × Obj) := fp.filterMap fun b => (h.get? b).map fun o => (b, o)
theorem zck {fp : List Addr} {h : Heap} {b : Addr} {o : Obj} (hb : b ∈ fp) (e : h.get? b = some o) : (b, o) ∈ zeI fp h := List.mem_filterMap.mpr ⟨b, hb, by rw [e]; rfl⟩
theorem zhk {fp : List Addr} {h : Heap} {p : Addr × Obj} (hp : p ∈ zeI fp h) : p.1 ∈ fp ∧ h.get? p.1 = some p.2 := by
 obtain ⟨b, hb, e⟩ := List.mem_filterMap.mp hp
 cases q : h.get? b with
 | none => rw [q] at e; cases e
 | some o =>
  rw [q] at e
  have e' : (b, o) = p := Option.some.inj e
  subst e'
  exact ⟨hb, q⟩
theorem Inv.pinned {pins : List (Addr × Obj)} {σ : St} {H : Hp} {s : Shared} {fp : List Addr} (I : Inv X pins σ H s) (hf : ∀ b ∈ fp, zgC X pins H b) (ho : ∀ b ∈ fp, ∃ o, s.heap.get? b = some o ∧ ∀ v, o.data ≠ .cell v) : Inv X (pins ++ zeI fp s.heap) σ H s :=
 I.zhe fun p hp => (lM hp).elim (fun z => I.pin p (lR _ z)) fun z => by
  obtain ⟨hb, e⟩ := zhk z
  obtain ⟨f0, f1, f2, _⟩ := hf p.1 hb
  obtain ⟨o, e', d⟩ := ho p.1 hb
  rw [e] at e'; cases e'
  exact ⟨e, f0, f1, f2, d⟩
theorem Inv.zdr {pins pl : List (Addr × Obj)} {σ : St} {H : Hp} {s : Shared} (I : Inv X (pins ++ pl) σ H s) : Inv X pins σ H s := I.zhe fun p hp => I.pin p (lR _ (lL _ hp))
theorem zlA {iter : Expr} {body : List Stmt} {wi : TI} {g : TG} {tb : TS} {pos : Pos} (hp : PassesOwn (model X.prog X.w) X.A X.env X.xe) (hc : X.calm = true) (hi : PI X tg iter wi) (hg : PG X tg g) (hb : PSs X body tb)
  (hs : ∀ x, foldedSetIterable iter X.env x = pure x := by intro _; rfl) : PS X (.For tg iter body [] pos) (tFor wi g tb) := by
 intro pins s σ H D I h
 refine wpAny_For (thn (hi pins s σ H _ I h) fun v s1 h1 => thn h1 fun itv s2 h2 => ?_) hs
 obtain ⟨it, fp, tn, J, H2, e, I2, T, st2, f2, W, ⟨m0, w0⟩, turn⟩ := h2
 subst e
 have stat : ∀ {H' : Hp}, (∀ b ∈ fp, H' b = none) → ∀ b ∈ fp, zgC X pins H' b := fun hn b hb => ⟨hn b hb, (f2 b hb).2⟩
 refine codeAny_forLoop_any (fun n s' => ∃ i σ' H', Inv X pins σ' H' s' ∧ tn i s'.heap ∧ (∀ b ∈ fp, H' b = none) ∧ W i n σ' H') ?_ m0 ⟨0, σ, H2, I2, st2, fun b hb => (f2 b hb).1, w0⟩
 rintro n s3 ⟨i, σ3, H3, I3, st3, fr3, w3⟩
 rcases turn i n σ3 H3 w3 with ⟨stop, qn⟩ | ⟨go, N, hN, step⟩
 ·refine wpAny_passesOwn hp (thn (T.done X rfl rfl rfl hc i pins s3 σ3 H3 X.xe I3 (stat fr3) st3 stop) fun r s4 ⟨hr, I4⟩ => ?_)
  subst hr
  exact wpAny_execs_nil ⟨σ3, H3, I4, qn⟩
 ·refine wpAny_passesOwn hp (thn (T.item X rfl rfl rfl hc i pins s3 σ3 H3 X.xe I3 (stat fr3) st3 go) fun r s4 ⟨u, hr, h4⟩ => ?_)
  subst hr
  refine wpAny_passesOwn hp (thn h4 fun _ s5 ⟨x, H5, I5, r5, y5, st5, fr5⟩ => ?_)
  have I5' := I5.pinned (stat fr5) (T.obj _ _ st5)
  refine wpAny_passesOwn hp (thn (hg _ s5 σ3 H5 x u _ I5' r5 (step x H5 y5)) fun _ s6 ⟨σ6, H6, I6, q6⟩ => ?_)
  refine wpAny_passesOwn hp (thn (hb _ s6 σ6 H6 _ I6 q6) fun f s7 q7 => ?_)
  have again : ∀ {σ7 : St} {H7 : Hp}, Inv X (pins ++ zeI fp s5.heap) σ7 H7 s7 → N σ7 H7 → ∃ m, m < n ∧ ∃ i σ' H', Inv X pins σ' H' s7 ∧ tn i s7.heap ∧ (∀ b ∈ fp, H' b = none) ∧ W i m σ' H' := fun {σ7 H7} I7 n7 => by
   obtain ⟨m', hm, w7⟩ := hN σ7 H7 n7
   refine ⟨m', hm, i + 1, σ7, H7, I7.zdr, T.keep _ _ _ st5 fun b hb o e => (I7.pin (b, o) (lR _ (lR _ (zck hb e)))).1, fun b hb => ?_, w7⟩
   obtain ⟨o, e, d⟩ := T.obj _ _ st5 b hb
   exact (I7.pin (b, o) (lR _ (lR _ (zck hb e)))).2.1
  cases f with
  | next => obtain ⟨σ7, H7, I7, n7⟩ := q7; exact again I7 n7
  | cont => obtain ⟨σ7, H7, I7, n7⟩ := q7; exact again I7 n7
  | brk => obtain ⟨σ7, H7, I7, q7⟩ := q7; exact ⟨σ7, H7, I7.zdr, q7⟩
  | ret v => obtain ⟨x7, σ7, H7, I7, r7, q7⟩ := q7; exact ⟨x7, σ7, H7, I7.zdr, r7, q7⟩
end
end L2
namespace L2
open PySem PySem.Spec PyProof.Rows
abbrev R2 := V → V → Hp → VK → Prop
def OpR (X : Cx) (f : Value → Value → Sem Value) (r : R2) : Prop :=
 ∀ (pins : List (Addr × Obj)) (s : Shared) (σ : St) (H : Hp) (x y : V) (v u : Value) (Q : VK), Inv X pins σ H s → RelV x v → RelV y u → r x y H Q →
  wpAny (model X.prog X.w) X.A (f v u) (EP X pins σ Q) X.xe s
def UnR (X : Cx) (f : Value → Sem Value) (r : V → Hp → VK → Prop) : Prop :=
 ∀ (pins : List (Addr × Obj)) (s : Shared) (σ : St) (H : Hp) (x : V) (v : Value) (Q : VK), Inv X pins σ H s → RelV x v → r x H Q →
  wpAny (model X.prog X.w) X.A (f v) (EP X pins σ Q) X.xe s
def za3 (X : Cx) (f : Value) (r : List V → Hp → VK → Prop) : Prop :=
 ∀ (pins : List (Addr × Obj)) (s : Shared) (σ : St) (H : Hp) (xs : List V) (us : List Value) (Q : VK), Inv X pins σ H s → za1 xs us → r xs H Q →
  wpAny (model X.prog X.w) X.A (call f us) (EP X pins σ Q) X.xe s
def TruR (X : Cx) (r : V → Hp → (Bool → Hp → Prop) → Prop) : Prop :=
 ∀ (pins : List (Addr × Obj)) (s : Shared) (σ : St) (H : Hp) (x : V) (v : Value) (Q : Bool → Hp → Prop), Inv X pins σ H s → RelV x v → r x H Q →
  wpAny (model X.prog X.w) X.A (truthy v) (TP X pins σ Q) X.xe s
def tOp (r : R2) (ta tb : TE) : TE := fun σ H Q => ta σ H fun x H1 => tb σ H1 fun y H2 => r x y H2 Q
def tUn (r : V → Hp → VK → Prop) (ta : TE) : TE := fun σ H Q => ta σ H fun x H1 => r x H1 Q
def rI (C : Int → Int → Prop) (g : Int → Int → V) : R2 := fun x y H Q => ∃ i j, x = .int i ∧ y = .int j ∧ C i j ∧ Q (g i j) H
def rI0 (g : Int → Int → V) : R2 := fun x y H Q => ∃ i j, x = .int i ∧ y = .int j ∧ Q (g i j) H
def rU (g : Int → V) : V → Hp → VK → Prop := fun x H Q => ∃ i, x = .int i ∧ Q (g i) H
section
variable {X : Cx} {a b c : Expr} {ta tb tc : TE} {pos : Pos}
theorem binT (ha : PE X a ta) (hb : PE X b tb) {pins : List (Addr × Obj)} {s : Shared} {σ : St} {H : Hp} {R : V → V → Hp → Prop} (I : Inv X pins σ H s)
  (h : ta σ H fun x H1 => tb σ H1 fun y H2 => R x y H2) {Q : Value → Shared → Prop} {f : Value → Value → Sem Value}
  (hf : ∀ v u s2 x y H2, Inv X pins σ H2 s2 → RelV x v → RelV y u → R x y H2 → wpAny (model X.prog X.w) X.A (f v u) Q X.xe s2) :
  wpAny (model X.prog X.w) X.A (eval a X.env) (fun v s₁ => wpAny (model X.prog X.w) X.A (eval b X.env) (fun u s₂ => wpAny (model X.prog X.w) X.A (f v u) Q X.xe s₂) X.xe s₁) X.xe s := by
 refine thn (ha pins s σ H _ I h) fun v s1 ⟨x, H1, I1, r1, q1⟩ => ?_
 refine thn (hb pins s1 σ H1 _ I1 q1) fun u s2 ⟨y, H2, I2, r2, q2⟩ => ?_
 exact hf v u s2 x y H2 I2 r1 r2 q2
theorem pe_op {op : Operator} {r : R2} (ho : OpR X (binaryOp op) r) (ha : PE X a ta) (hb : PE X b tb) : PE X (.BinOp a op b pos) (tOp r ta tb) := by
 intro pins s σ H Q I h
 exact wpAny_BinOp (binT ha hb I h fun v u s2 x y H2 I2 rx ry q => ho pins s2 σ H2 x y v u Q I2 rx ry q)
theorem pe_un {op : UnaryOp} {r : V → Hp → VK → Prop} (ho : UnR X (unaryOp op) r) (ha : PE X a ta) : PE X (.UnaryOp op a pos) (tUn r ta) := by
 intro pins s σ H Q I h
 exact UnaryOp_ (thn (ha pins s σ H _ I h) fun v s1 ⟨x, H1, I1, r1, q1⟩ => ho pins s1 σ H1 x v Q I1 r1 q1)
theorem opI {f : Value → Value → Sem Value} {C : Int → Int → Prop} {g : Int → Int → Int}
  (rule : ∀ (i j : Int) (t u : Tok) (s : Shared) (Q : Value → Shared → Prop) (E : Value → Shared → Prop), C i j → Q (.int (g i j) s.toks) { s with toks := s.toks + 1 } → wpAny (model X.prog X.w) X.A (f (.int i t) (.int j u)) Q E s) :
  OpR X f (rI C fun i j => .int (g i j)) := by
 intro pins s σ H x y v u Q I rx ry h
 obtain ⟨i, j, rfl, rfl, hc, q⟩ := h
 obtain ⟨t, rfl⟩ := rx
 obtain ⟨t', rfl⟩ := ry
 exact rule i j t t' s _ _ hc ⟨.int (g i j), H, I.tok _, ⟨_, rfl⟩, q⟩
theorem opI0 {f : Value → Value → Sem Value} {g : Int → Int → Int}
  (rule : ∀ (i j : Int) (t u : Tok) (s : Shared) (Q : Value → Shared → Prop) (E : Value → Shared → Prop), Q (.int (g i j) s.toks) { s with toks := s.toks + 1 } → wpAny (model X.prog X.w) X.A (f (.int i t) (.int j u)) Q E s) :
  OpR X f (rI0 fun i j => .int (g i j)) := by
 intro pins s σ H x y v u Q I rx ry h
 obtain ⟨i, j, rfl, rfl, q⟩ := h
 obtain ⟨t, rfl⟩ := rx
 obtain ⟨t', rfl⟩ := ry
 exact rule i j t t' s _ _ ⟨.int (g i j), H, I.tok _, ⟨_, rfl⟩, q⟩
theorem opB0 {f : Value → Value → Sem Value} {g : Int → Int → Bool}
  (rule : ∀ (i j : Int) (t u : Tok) (s : Shared) (Q : Value → Shared → Prop) (E : Value → Shared → Prop), Q (.bool (g i j)) s → wpAny (model X.prog X.w) X.A (f (.int i t) (.int j u)) Q E s) :
  OpR X f (rI0 fun i j => .bl (g i j)) := by
 intro pins s σ H x y v u Q I rx ry h
 obtain ⟨i, j, rfl, rfl, q⟩ := h
 obtain ⟨t, rfl⟩ := rx
 obtain ⟨t', rfl⟩ := ry
 exact rule i j t t' s _ _ ⟨.bl (g i j), H, I, rfl, q⟩
def CDiv (i j : Int) : Prop := 0 < j ∧ j < 1073741824
def CMul (i j : Int) : Prop := (-(2 ^ 64) < i ∧ i < 2 ^ 64) ∨ (-(2 ^ 64) < j ∧ j < 2 ^ 64)
theorem CMul.ok {i j : Int} (h : CMul i j) : IntMulOk i j := by
 rcases h with ⟨h1, h2⟩ | ⟨h1, h2⟩
 ·exact .of_left (intBits_le_64 h1 h2)
 ·exact .of_right (intBits_le_64 h1 h2)
theorem zlB : OpR X (binaryOp .Add) (rI0 fun i j => .int (i + j)) := opI0 fun _ _ _ _ _ _ _ q => add_int q
theorem zlC : OpR X (binaryOp .Sub) (rI0 fun i j => .int (i - j)) := opI0 fun _ _ _ _ _ _ _ q => sub_int q
theorem zlD : OpR X (binaryOp .Mult) (rI CMul fun i j => .int (i * j)) := opI fun _ _ _ _ _ _ _ hc q => mul_int q hc.ok
theorem zj6 : OpR X (binaryOp .FloorDiv) (rI CDiv fun i j => .int (i / j)) := opI fun i j _ _ _ _ _ hc q => by
 have h1 : (0 : Int) < j := hc.1
 have h2 : j < 1073741824 := hc.2
 exact floordiv_int (by omega) (by rw [Int.fdiv_eq_ediv_of_nonneg i (by omega)]; exact q) (.inl (PyProof.noPylong_small (by omega)))
theorem zlE : OpR X (binaryOp .Mod) (rI (fun _ j => 0 < j) fun i j => .int (i % j)) := opI fun i j _ _ _ _ _ hc q => by
 have h1 : (0 : Int) < j := hc
 exact mod_int' (by omega) (by rw [Int.fmod_eq_emod_of_nonneg i (by omega)]; exact q)
theorem unI {f : Value → Sem Value} {g : Int → Int}
  (rule : ∀ (i : Int) (t : Tok) (s : Shared) (Q : Value → Shared → Prop) (E : Value → Shared → Prop), Q (.int (g i) s.toks) { s with toks := s.toks + 1 } → wpAny (model X.prog X.w) X.A (f (.int i t)) Q E s) :
  UnR X f (rU fun i => .int (g i)) := by
 intro pins s σ H x v Q I rx h
 obtain ⟨i, rfl, q⟩ := h
 obtain ⟨t, rfl⟩ := rx
 exact rule i t s _ _ ⟨.int (g i), H, I.tok _, ⟨_, rfl⟩, q⟩
theorem zlF : UnR X (unaryOp .USub) (rU fun i => .int (-i)) := unI fun _ _ _ _ _ q => neg_int q
end
section
variable {X : Cx} {a b c : Expr} {ta tb tc : TE} {pos : Pos}
theorem zjo {pins : List (Addr × Obj)} {σ : St} {H : Hp} {s : Shared} {Q : VK} {k k' : Bool} (I : Inv X pins σ H s) (q : Q (.bl k) H) (e : k = k') : EP X pins σ Q (.bool k') s := by
 subst e
 exact ⟨.bl k, H, I, rfl, q⟩
theorem op_lt : OpR X (compareOp .Lt) (rI0 fun i j => .bl (decide (i < j))) := opB0 fun _ _ _ _ _ _ _ q => lt_int q
theorem op_le : OpR X (compareOp .LtE) (rI0 fun i j => .bl (decide (i ≤ j))) := opB0 fun _ _ _ _ _ _ _ q => le_int q
theorem op_gt : OpR X (compareOp .Gt) (rI0 fun i j => .bl (decide (j < i))) := opB0 fun _ _ _ _ _ _ _ q => gt_int q
theorem op_ge : OpR X (compareOp .GtE) (rI0 fun i j => .bl (decide (j ≤ i))) := opB0 fun _ _ _ _ _ _ _ q => ge_int q
theorem zhl : OpR X (compareOp .In) (fun x y H Q => ∃ i j, x = .str i ∧ y = .str j ∧ Q (.bl (!(Builtin.Str.occurrences j i 0 j.length 1).isEmpty)) H) := by
 intro pins s σ H x y v u Q I rx ry h
 obtain ⟨i, j, rfl, rfl, q⟩ := h
 obtain ⟨t, rfl⟩ := rx
 obtain ⟨t', rfl⟩ := ry
 exact in_str (zjo I q rfl)
theorem zeJ : OpR X (compareOp .NotIn) (fun x y H Q => ∃ i j, x = .str i ∧ y = .str j ∧ Q (.bl (!(!(Builtin.Str.occurrences j i 0 j.length 1).isEmpty))) H) := by
 intro pins s σ H x y v u Q I rx ry h
 obtain ⟨i, j, rfl, rfl, q⟩ := h
 obtain ⟨t, rfl⟩ := rx
 obtain ⟨t', rfl⟩ := ry
 exact notIn_str (zjo I q rfl)
theorem zaN (b : Expr) {op : CmpOp} (h : op ≠ .In := by decide) (h2 : op ≠ .NotIn := by decide) : behindInMarks op b = false := by
 have e1 : (op == CmpOp.In) = false := by cases op <;> first | rfl | exact absurd rfl h
 have e2 : (op == CmpOp.NotIn) = false := by cases op <;> first | rfl | exact absurd rfl h2
 cases b <;> simp [behindInMarks, e1, e2]
theorem zfv {op : CmpOp} {r : R2} (ho : OpR X (compareOp op) r) (ha : PE X a ta) (hb : PE X b tb) (hm : behindInMarks op b = false) : PE X (.Compare a [op] [b] pos) (tOp r ta tb) := by
 intro pins s σ H Q I h
 exact wpAny_Compare1 (binT ha hb I h fun v u s2 x y H2 I2 rx ry q => ho pins s2 σ H2 x y v u Q I2 rx ry q) hm
def tTest (t : TE) : TT := fun σ H Q => t σ H fun x H' => ∃ k, x = .bl k ∧ Q k H'
theorem zfw {op : CmpOp} {r : R2} (ho : OpR X (compareOp op) r) (ha : PE X a ta) (hb : PE X b tb) (hm : behindInMarks op b = false) : PT X (.Compare a [op] [b] pos) (tTest (tOp r ta tb)) := by
 intro pins s σ H Q I h
 refine wpAny_isTrue_Compare1 (thn (ha pins s σ H _ I h) fun v s1 ⟨x, H1, I1, r1, q1⟩ => thn (hb pins s1 σ H1 _ I1 q1) fun u s2 ⟨y, H2, I2, r2, q2⟩ =>
  thn (ho pins s2 σ H2 x y v u _ I2 r1 r2 q2) fun c s3 ⟨z, H3, I3, r3, k, e, q3⟩ => ?_) hm
 subst e
 cases r3
 exact wpAny_truthy_bool ⟨H3, I3, q3⟩
def zjp (r r' : R2) (ta tb tc : TE) : TE := fun σ H Q => ta σ H fun x H1 => tb σ H1 fun y H2 => r x y H2 fun z H3 => ∃ k, z = .bl k ∧
 (if k = true then tc σ H3 fun w' H4 => r' y w' H4 Q else Q (.bl false) H3)
theorem ziB {op op' : CmpOp} {r r' : R2} (ho : OpR X (compareOp op) r) (ho' : OpR X (compareOp op') r') (ha : PE X a ta) (hb : PE X b tb) (hc : PE X c tc)
  (hm : lastMarks [op, op'] [b, c] = false := by with_unfolding_all rfl) : PE X (.Compare a [op, op'] [b, c] pos) (zjp r r' ta tb tc) := by
 intro pins s σ H Q I h
 refine Compare_chain (thn (ha pins s σ H _ I h) fun v s1 ⟨x, H1, I1, r1, q1⟩ => chain_link (thn (hb pins s1 σ H1 _ I1 q1) fun u s2 ⟨y, H2, I2, r2, q2⟩ =>
  thn (ho pins s2 σ H2 x y v u _ I2 r1 r2 q2) fun d s3 ⟨z, H3, I3, r3, k, e, q3⟩ => ?_)) hm
 subst e
 cases r3
 refine wpAny_truthy_bool ?_
 cases k with
 | false => exact ite_ff ⟨.bl false, H3, I3, rfl, q3⟩
 | true => exact ite_tt (chain_last (thn (hc pins s3 σ H3 _ I3 q3) fun w' s4 ⟨z', H4, I4, r4, q4⟩ => ho' pins s4 σ H4 y z' u w' Q I4 r2 r4 q4))
def TruV (K : PySem.W.Frag) (x : V) (H : Hp) (k : Bool) : Prop :=
 match x with
 | .non => k = false
 | .bl b => k = b
 | .int i => k = (i != 0)
 | .str y => y.length ≤ sizeLine ∧ k = ((y.length : Int) != 0)
 | .byt y => y.size ≤ sizeLine ∧ k = ((y.size : Int) != 0)
 | .ref p => (∃ xs, SqL K H p xs ∧ k = !xs.isEmpty) ∨ (∃ xs, SqT K H p xs ∧ k = !xs.isEmpty) ∨ ∃ kvs, H p = some (.dK kvs) ∧ k = !kvs.isEmpty
 | _ => False
theorem zgF {κ : Type} {kvs : List (κ × V)} {vs : List (κ × Value)} (r : KV kvs vs) : (!vs.isEmpty) = !kvs.isEmpty := by
 cases r <;> rfl
theorem zd4 {xs : List V} {its : List Value} (r : za1 xs its) : (!its.toArray.isEmpty) = !xs.isEmpty := by
 cases r <;> simp
theorem zdz : (sizeLine : Nat) < 2 ^ 63 := by rw [sizeLine_eq]; decide
theorem zlG : TruR X (fun x H Q => ∃ k, TruV X.K x H k ∧ Q k H) := by
 intro pins s σ H x v Q I rx h
 obtain ⟨k, e, q⟩ := h
 have hl := zdz
 have hs : sizeLine = 16777216 := sizeLine_eq
 cases x with
 | non =>
  cases rx
  have e' : k = false := e
  subst e'
  exact truthy_none ⟨H, I, q⟩
 | bl b =>
  cases rx
  have e' : k = b := e
  subst e'
  exact wpAny_truthy_bool ⟨H, I, q⟩
 | int i =>
  obtain ⟨t, rfl⟩ := rx
  have e' : k = (i != 0) := e
  subst e'
  exact PySem.P.truthy_int ⟨H, I, q⟩
 | str y =>
  obtain ⟨t, rfl⟩ := rx
  obtain ⟨hy, e'⟩ : y.length ≤ sizeLine ∧ k = ((y.length : Int) != 0) := e
  subst e'
  exact PySem.P.truthy_str (by omega) ⟨H, I.tok _, q⟩
 | byt y =>
  obtain ⟨t, rfl⟩ := rx
  obtain ⟨hy, e'⟩ : y.size ≤ sizeLine ∧ k = ((y.size : Int) != 0) := e
  subst e'
  exact PySem.W.truthy_bytes (by omega) ⟨H, I.tok _, q⟩
 | ref p =>
  cases rx
  have e' : (∃ xs, SqL X.K H p xs ∧ k = !xs.isEmpty) ∨ (∃ xs, SqT X.K H p xs ∧ k = !xs.isEmpty) ∨ ∃ kvs, H p = some (.dK kvs) ∧ k = !kvs.isEmpty := e
  rcases e' with ⟨xs, hx, e'⟩ | ⟨xs, hx, e'⟩ | ⟨kvs, hx, e'⟩
  ·subst e'
   obtain ⟨its, r, pl, hz⟩ := I.list hx
   have hlen := r.length
   exact wpAny_truthy_list pl.isList (by simp only [List.size_toArray]; omega) ⟨H, I.tok _, by rw [zd4 r]; exact q⟩
  ·subst e'
   obtain ⟨its, r, pl, hz⟩ := I.tuple hx
   have hlen := r.length
   exact truthy_tuple pl (by simp only [List.size_toArray]; omega) ⟨H, I.tok _, by rw [zd4 r]; exact q⟩
  ·subst e'
   obtain ⟨hz, hS, vs, r, m⟩ : kvs.length ≤ sizeLine ∧ (p == sysModules) = false ∧ ∃ vs, KV kvs vs ∧ s.heap.DictOf (zbf X.prog X.w) p vs := I.hok p _ hx
   have hlen : kvs.length = vs.length := Paired.length r
   exact wpAny_truthy_dict hS m (by omega) ⟨H, I.tok _, by rw [zgF r]; exact q⟩
 | _ => exact (show False from e).elim
theorem ziC (ha : PE X a ta) (he : ∀ whole, isTrue a X.env whole = (do let v ← whole; standAt a.pos; holding [v] (truthy v))) :
  PT X a (fun σ H Q => ta σ H fun x H' => ∃ k, TruV X.K x H' k ∧ Q k H') := by
 intro pins s σ H Q I h
 exact isTrue_plain (thn (ha pins s σ H _ I h) fun v s1 ⟨x, H1, I1, r1, q1⟩ => zlG pins s1 σ H1 x v Q I1 r1 q1) (he _)
theorem zgG : OpR X (binaryOp .Add) (fun x y H Q => ∃ i j, x = .str i ∧ y = .str j ∧ i.length + j.length ≤ sizeLine ∧ Q (.str (i ++ j)) H) := by
 intro pins s σ H x y v u Q I rx ry h
 obtain ⟨i, j, rfl, rfl, hz, q⟩ := h
 obtain ⟨t, rfl⟩ := rx
 obtain ⟨t', rfl⟩ := ry
 exact add_str (fun t' tk => ⟨.str (i ++ j), H, I.tok _, ⟨_, rfl⟩, q⟩) hz
theorem vals1 {x : V} {us : List Value} (r : za1 [x] us) : ∃ u, us = [u] ∧ RelV x u := by
 cases r with
 | cons r1 r2 => cases r2; exact ⟨_, rfl, r1⟩
theorem vals2 {x y : V} {us : List Value} (r : za1 [x, y] us) : ∃ u w', us = [u, w'] ∧ RelV x u ∧ RelV y w' := by
 cases r with
 | cons r1 r2 =>
  cases r2 with
  | cons r3 r4 => cases r4; exact ⟨_, _, rfl, r1, r3⟩
theorem ziD : za3 X (.builtin "abs") (fun xs H Q => ∃ i, xs = [.int i] ∧ Q (.int (if i < 0 then -i else i)) H) := by
 intro pins s σ H xs us Q I r h
 obtain ⟨i, rfl, q⟩ := h
 obtain ⟨u, rfl, t, rfl⟩ := vals1 r
 exact call_abs_int fun u tk => ⟨.int (if i < 0 then -i else i), H, I.tok _, ⟨_, rfl⟩, q⟩
theorem zhm (hc : X.calm = true) : za3 X (.builtin "min") (fun xs H Q => ∃ i j, xs = [.int i, .int j] ∧ Q (.int (if j < i then j else i)) H) := by
 intro pins s σ H xs us Q I r h
 obtain ⟨i, j, rfl, q⟩ := h
 obtain ⟨u, w', rfl, ⟨t, rfl⟩, ⟨t', rfl⟩⟩ := vals2 r
 refine min_two_ints (I.ok.hd hc) fun h' tk k => ⟨_, H, I.kept k, ?_, q⟩
 by_cases hj : j < i
 ·rw [if_pos hj, if_pos hj]; exact ⟨_, rfl⟩
 ·rw [if_neg hj, if_neg hj]; exact ⟨_, rfl⟩
theorem zeK : za3 X (.type "int") (fun xs H Q => (∃ i, xs = [.int i] ∧ Q (.int i) H) ∨ ∃ k, xs = [.bl k] ∧ Q (.int (if k then 1 else 0)) H) := by
 intro pins s σ H xs us Q I r h
 rcases h with ⟨i, rfl, q⟩ | ⟨k, rfl, q⟩
 ·obtain ⟨u, rfl, t, rfl⟩ := vals1 r
  exact call_int_int ⟨.int i, H, I, ⟨_, rfl⟩, q⟩
 ·obtain ⟨u, rfl, r1⟩ := vals1 r
  cases r1
  exact call_int_bool ⟨.int (if k then 1 else 0), H, I.tok _, ⟨_, rfl⟩, q⟩
end
end L2
namespace L2
open PySem PySem.Spec PyProof.Rows
theorem zin.zhn {v : V} {o : Option Value} (r : zin (some v) o) : ∃ u, o = some u ∧ RelV v u := by
 cases o with
 | none => exact (show False from r).elim
 | some u => exact ⟨u, rfl, r⟩
end L2
namespace L2
open PySem PySem.Spec PyProof.Rows
structure zdR (k : Nat) (A : Around) : Prop where
 hd : A.handled = none
 dp : A.depth + 3 * k + 5 < recursionLimit
 un : A.units + 16 * k + 200 < cLine
 gd : A.guards = some []
theorem zdR.mono {j k : Nat} {A : Around} (r : zdR k A) (h : j ≤ k) : zdR j A := ⟨r.hd, by have := r.dp; omega, by have := r.un; omega, r.gd⟩
theorem zdR.deeper {k : Nat} {A : Around} (r : zdR (k + 1) A) (env : Env) : zdR k (A.deeper env) :=
 ⟨r.hd, by have := r.dp; show A.depth + 1 + 3 * k + 5 < _; omega, by have := r.un; show A.units + 3 + 16 * k + 200 < _; omega, r.gd⟩
theorem zdR.depth {k : Nat} {A : Around} (r : zdR k A) : A.depth < recursionLimit := by have := r.dp; omega
theorem zdR.units {k : Nat} {A : Around} (r : zdR k A) : A.units + 64 < cLine := by have := r.un; omega
def tNil : TA := fun _ H Q => Q [] H
def tCons (ta : TE) (tr : TA) : TA := fun σ H Q => ta σ H fun x H1 => tr σ H1 fun xs H2 => Q (x :: xs) H2
section
variable {X : Cx} {e : Expr} {es : List Expr} {te : TE} {t : TA} {pos : Pos}
theorem zf2 : PA X [] tNil := fun _ _ _ _ H Q I h => Calls.spliced_nil ⟨[], H, I, .nil, h⟩
theorem zdA (ha : PE X e te) (hr : PA X es t) (hs : starEach (e :: es) X.env = (false, eval e X.env) :: starEach es X.env := by rfl) : PA X (e :: es) (tCons te t) := by
 intro pos pins s σ H Q I h
 rw [hs]
 show wpAny _ _ (spliced ((false, eval e X.env) :: backTo pos (starEach es X.env))) _ _ s
 refine Calls.spliced_cons (thn (ha pins s σ H _ I h) fun u s1 ⟨x, H1, I1, r1, q1⟩ => ?_)
 exact thn (hr pos pins s1 σ H1 _ I1 q1) fun us s2 ⟨xs, H2, I2, r2, q2⟩ => ⟨x :: xs, H2, I2, .cons r1 r2, q2⟩
def tTup (t : TA) : TE := fun σ H Q => t σ H fun xs H1 => xs.length ≤ sizeLine ∧ ∀ p, H1 p = none → Q (.ref p) (upd H1 p (.tup xs))
def tLst (t : TA) : TE := fun σ H Q => t σ H fun xs H1 => xs.length ≤ sizeLine ∧ ∀ p, H1 p = none → Q (.ref p) (upd H1 p (.lst xs))
theorem zlH {x1} (h : PA X es t) : PE X (.Tuple es x1 pos) (tTup t) := by
 intro pins s σ H Q I hq
 refine wpAny_Tuple_spliced (thn (h pos pins s σ H _ I hq) fun us s1 ⟨xs, H1, I1, r, z, q⟩ => ⟨by rw [← r.length]; exact z, ?_⟩)
 have hf : H1 s1.heap.objs.size = none := I1.hok.fresh (Nat.le_refl _)
 refine ⟨.ref s1.heap.objs.size, upd H1 s1.heap.objs.size (.tup xs), I1.laid (t' := s1.toks) (fun b u e => Heap.get?_push_of_some _ e) (Nat.le_refl _) ?_, rfl, q _ hf⟩
 exact ⟨z, us, r, ⟨_, Heap.get?_push_size _ rfl, rfl, _, rfl⟩⟩
theorem zlI (h : PA X es t) : PE X (.List es pos) (tLst t) := by
 intro pins s σ H Q I hq
 refine wpAny_List_spliced (thn (h pos pins s σ H _ I hq) fun us s1 ⟨xs, H1, I1, r, z, q⟩ => ⟨by rw [← r.length]; exact z, ?_⟩)
 have hf : H1 s1.heap.objs.size = none := I1.hok.fresh (Nat.le_refl _)
 refine ⟨.ref s1.heap.objs.size, upd H1 s1.heap.objs.size (.lst xs), I1.laid (t' := s1.toks) (fun b u e => Heap.get?_push_of_some _ e) (Nat.le_refl _) ?_, rfl, q _ hf⟩
 exact ⟨z, us, 0, r, Heap.get?_push_size _ rfl⟩
end
abbrev Sp := List V → Hp → VK → XK → Prop
abbrev CXT := List Env → Hp → Shared → XK → Value → Shared → Prop
structure Env0 (P : Program) (w : World) (K : PySem.W.Frag) (mg : Str → Option Value) (base : Heap) (A : Around) (outer : List Env) (s : Shared) (H : Hp) : Prop where
 frames : A.frames = some outer
 mod : Mod K mg base
 bs : ∀ b o, base.get? b = some o → s.heap.get? b = some o ∧ H b = none
 bsz : base.objs.size ≤ s.heap.objs.size
 zhc : s.heap.FunFrames base outer
 frf : ∀ b ∈ frs outer, H b = none
 hok : HOk P w H s.heap
 bare : AllBare s.gens
def CE (outer : List Env) (P : Program) (w : World) (H : Hp) (s : Shared) (Q : VK) (u : Value) (s' : Shared) : Prop :=
 ∃ v H', s'.os = s.os ∧ AllBare s'.gens ∧ Un (frs outer) [] H H' s.heap s'.heap ∧ HOk P w H' s'.heap ∧ RelV v u ∧ Q v H'
def CR (CX : CXT) (outer : List Env) (P : Program) (w : World) (H : Hp) (s : Shared) (Q : VK) (E : XK) (r : Result) (s' : Shared) : Prop :=
 match r with
 | .ok (.ret u) => CE outer P w H s Q u s'
 | .ok _ => False
 | .error e => CX outer H s E e s'
structure zb8 (P : Program) (w : World) (K : PySem.W.Frag) (mg : Str → Option Value) (base : Heap) (CX : CXT) (k : Nat) (f : Addr) (fd : FuncData) (ps : List Str) (sp : Sp) : Prop where
 len : ∀ vs H Q E, sp vs H Q E → vs.length = ps.length
 run : ∀ (A : Around) (outer : List Env) (s : Shared) (H : Hp) (args : Args) (us : List Value) (vs : List V) (Q : VK) (E : XK), zdR k A → Env0 P w K mg base A outer s H → BindsTo s fd args (ps.zip us) → za1 vs us → sp vs H Q E →
  codeAny (model P w) A (.call (.ref f) args) (CR CX outer P w H s Q E) s
theorem zb8.imp {P : Program} {w : World} {K : PySem.W.Frag} {mg : Str → Option Value} {base : Heap} {CX : CXT} {k : Nat} {f : Addr} {fd : FuncData} {ps : List Str} {sp sp' : Sp} (F : zb8 P w K mg base CX k f fd ps sp)
  (h : ∀ vs H Q E, sp' vs H Q E → sp vs H Q E) : zb8 P w K mg base CX k f fd ps sp' :=
 ⟨fun vs H Q E q => F.len vs H Q E (h _ _ _ _ q), fun A outer s H args us vs Q E hr he hb hv hs => F.run A outer s H args us vs Q E hr he hb hv (h _ _ _ _ hs)⟩
section
variable {X : Cx} {pins : List (Addr × Obj)} {σ : St} {H : Hp} {s s' : Shared}
theorem Inv.env0 (I : Inv X pins σ H s) : Env0 X.prog X.w X.K X.mg X.base X.A X.stack s H :=
 ⟨I.ok.frames, I.ok.mod, I.bs, Nat.le_trans I.ok.bsz I.sz, I.stack, I.zhd, I.hok, I.bare⟩
theorem Inv.after {Q : VK} {u : Value} (I : Inv X pins σ H s) (h : CE X.stack X.prog X.w H s Q u s') : EP X pins σ Q u s' := by
 obtain ⟨v, H', os, bare, un, hok, r, q⟩ := h
 obtain ⟨hh, g, d, t, os'⟩ := s'
 obtain rfl : os' = s.os := os
 exact ⟨v, H', I.call (h' := hh) (g' := g) (d' := d) (t' := t) (ch := []) un hok bare (fun b z => absurd z (by simp)), r, q⟩
end
def zj7 (sp : Sp) (dvs : List V) (E : XK) (t : TA) : TE := fun σ H Q => t σ H fun vs H1 => sp (vs ++ dvs) H1 Q E
def Binds (K : PySem.W.Frag) (fd : FuncData) (ps : List Str) (ds : List Value) : Prop :=
 ∀ (s : Shared) (us : List Value), K.In s.heap → (us ++ ds).length = ps.length → BindsTo s fd ⟨us, []⟩ (ps.zip (us ++ ds))
theorem Binds.all {K : PySem.W.Frag} {fd : FuncData} {ps : List Str} (h : ∀ us : List Value, us.length = ps.length → bindArgs fd ⟨us, []⟩ = pure (ps.zip us)) : Binds K fd ps [] := fun s us _ hl => by
 rw [List.append_nil] at hl ⊢
 exact .of_eq (h us hl)
def Passes (CX : CXT) (X : Cx) (E : XK) : Prop := ∀ (pins : List (Addr × Obj)) (σ : St) (H : Hp) (s : Shared) (e : Value) (s' : Shared), Inv X pins σ H s → CX X.stack H s E e s' → X.xe e s'
section
variable {X : Cx} {CX : CXT} {k : Nat} {f C : Addr} {fd : FuncData} {ps : List Str} {sp : Sp} {dvs : List V} {ds : List Value} {E : XK} {x m : Str} {p pos apos : Pos} {e o : Expr} {es : List Expr} {ta : TE} {t : TA}
theorem zlJ {pins : List (Addr × Obj)} {σ : St} {H : Hp} {s : Shared} {Q : VK} {us : List Value} {vs : List V} (F : zb8 X.prog X.w X.K X.mg X.base CX k f fd ps sp) (hr : zdR k X.A) (hb : Binds X.K fd ps ds) (hd : za1 dvs ds) (hx : Passes CX X E)
  (I : Inv X pins σ H s) (r : za1 vs us) (h : sp (vs ++ dvs) H Q E) : wpAny (model X.prog X.w) X.A (call (.ref f) us) (EP X pins σ Q) X.xe s := by
 have r2 : za1 (vs ++ dvs) (us ++ ds) := r.append hd
 have hl : (us ++ ds).length = ps.length := by rw [← r2.length]; exact F.len _ _ _ _ h
 refine wpAny_call (codeAny_mono (F.run X.A X.stack s H ⟨us, []⟩ (us ++ ds) (vs ++ dvs) Q E hr I.env0 (hb s us I.kIn hl) r2 h) fun r s' hq => ?_)
 cases r with
 | error e => exact hx pins σ H s e s' I hq
 | ok fl =>
  cases fl with
  | ret u => exact I.after hq
  | next => exact False.elim hq
  | brk => exact False.elim hq
  | cont => exact False.elim hq
theorem zj8 (F : zb8 X.prog X.w X.K X.mg X.base CX k f fd ps sp) (hr : zdR k X.A) (hg : Gl X x) (hm : X.mg x = some (.ref f)) (hk : PySem.W.keepIn X.K (.ref f) = true) (hb : Binds X.K fd ps ds) (hd : za1 dvs ds) (hx : Passes CX X E)
  (ha : PA X (e :: es) t) (hdb : (x == ("__debug__" : Str)) = false := by decide) (he : starEach (e :: es) X.env = (false, eval e X.env) :: starEach es X.env := by rfl) (hpl : (backTo pos (starEach es X.env)).any (·.1) = false := by rfl) :
  PE X (.Call (.Name x p) (e :: es) [] pos) (zj7 sp dvs E t) := by
 intro pins s σ H Q I h
 refine wpAny_Call_Name_kw (zhf I hg hm ?_ hdb)
 refine PySem.W.callWith_K (h₀ := X.base) I.ok.mod.kin hk (thn (ha pos pins s σ H _ I h) fun us s1 ⟨vs, H1, I1, r, q⟩ => ⟨I1.kIn, ?_⟩) he hpl
 exact zlJ F hr hb hd hx I1 r q
end
structure zaC (N P : List Str) (sc : Scope) : Prop where
 kind : sc.kind = .function
 co : sc.isCoroutine = false
 gen : sc.isGenerator = false
 nd : N.Nodup
 pre : N.take P.length = P
 par : ∀ x ∈ P, sc.names.lookup x = some .local ∨ sc.names.lookup x = some .cell
 nofree : ∀ y ∈ sc.names, y.2 ≠ .free
theorem zeL {kindOf : Str → Option NameKind} {x : Str} : ∀ {binds : List (Str × Value)} {m : Str → Option Value}, (∀ v, (x, v) ∉ binds) → bindL kindOf binds m x = m x
 | [], _, _ => rfl
 | (n, v) :: r, m, h => by
  unfold bindL
  rw [zeL fun w hw => h w (lO _ hw)]
  split
  ·have : x ≠ n := by rintro rfl; exact h v lS
   simp [this]
  ·rfl
theorem zeM {kindOf : Str → Option NameKind} {x : Str} : ∀ {binds : List (Str × Value)} {m : Str → Option Value}, (∀ v, (x, v) ∉ binds) → bindC kindOf binds m x = m x
 | [], _, _ => rfl
 | (n, v) :: r, m, h => by
  unfold bindC
  rw [zeM fun w hw => h w (lO _ hw)]
  split
  ·rfl
  ·have : x ≠ n := by rintro rfl; exact h v lS
   simp [this]
theorem zeN {kindOf : Str → Option NameKind} {x : Str} {v : Value} : ∀ {P : List Str} {vs : List Value} {i : Nat} {m : Str → Option Value}, P.Nodup → P[i]? = some x → vs[i]? = some v → kindOf x = some .local →
  bindL kindOf (P.zip vs) m x = some v
 | [], _, _, _, _, h, _, _ => by simp at h
 | _ :: _, [], _, _, _, _, h, _ => by simp at h
 | p :: P, w :: vs, 0, m, nd, h1, h2, hk => by
  simp at h1 h2; subst h1; subst h2
  show bindL kindOf ((p, w) :: P.zip vs) m p = _
  unfold bindL
  rw [zeL fun v hv => (List.nodup_cons.mp nd).1 (List.of_mem_zip hv).1, if_pos hk]
  simp
 | p :: P, w :: vs, i + 1, m, nd, h1, h2, hk => by
  show bindL kindOf ((p, w) :: P.zip vs) m x = _
  unfold bindL
  exact zeN (i := i) (List.nodup_cons.mp nd).2 (by simpa using h1) (by simpa using h2) hk
theorem zeO {kindOf : Str → Option NameKind} {x : Str} {v : Value} : ∀ {P : List Str} {vs : List Value} {i : Nat} {m : Str → Option Value}, P.Nodup → P[i]? = some x → vs[i]? = some v → kindOf x ≠ some .local →
  bindC kindOf (P.zip vs) m x = some v
 | [], _, _, _, _, h, _, _ => by simp at h
 | _ :: _, [], _, _, _, _, h, _ => by simp at h
 | p :: P, w :: vs, 0, m, nd, h1, h2, hk => by
  simp at h1 h2; subst h1; subst h2
  show bindC kindOf ((p, w) :: P.zip vs) m p = _
  unfold bindC
  rw [zeM fun v hv => (List.nodup_cons.mp nd).1 (List.of_mem_zip hv).1, if_neg hk]
  simp
 | p :: P, w :: vs, i + 1, m, nd, h1, h2, hk => by
  show bindC kindOf ((p, w) :: P.zip vs) m x = _
  unfold bindC
  exact zeO (i := i) (List.nodup_cons.mp nd).2 (by simpa using h1) (by simpa using h2) hk
def start (N : List Str) (vs : List V) : St := vs.map some ++ List.replicate (N.length - vs.length) none
def zjq (CX : CXT) (P : Program) (w : World) (K : PySem.W.Frag) (mg : Str → Option Value) (base : Heap) (N : List Str) (qual : Str) (scope : Scope) (f : Addr) (cd : Value) (A : Around) (outer : List Env) (s : Shared) (H : Hp) (E : XK) : Cx where
 prog := P
 w := w
 K := K
 mg := mg
 base := base
 A := A.deeper (envOfC qual scope s.heap.objs.size f cd)
 N := N
 s₀ := s
 H₀ := H
 env := envOfC qual scope s.heap.objs.size f cd
 outer := outer
 stack := envOfC qual scope s.heap.objs.size f cd :: outer
 ex := []
 calm := true
 fn := fun _ => true
 pn := []
 xe := fun e s' => wpAny (model P w) (A.deeper (envOfC qual scope s.heap.objs.size f cd)) (leaving (envOfC qual scope s.heap.objs.size f cd) e) (fun _ s'' => CX outer H s E e s'') (fun e' s'' => CX outer H s E e' s'') s'
theorem zf3 {sc : Scope} {n : Nat} {x : Str} (h : sc.names.lookup x = some .cell) : ∃ c, (cellsFrom n sc.names []).lookup x = some c := by
 have q := PySem.W.cellsFrom_some sc.names n [] (.inl h)
 exact Option.isSome_iff_exists.mp q
theorem zho {CX : CXT} {P : Program} {w : World} {K : PySem.W.Frag} {mg : Str → Option Value} {base : Heap} {N ps : List Str} {qual : Str} {scope : Scope} {f : Addr} {cd : Value} {A : Around} {outer : List Env} {s s1 : Shared} {H : Hp} {E : XK} {us : List Value} {vs : List V}
  (S : zaC N ps scope) (hd : A.handled = none) (e0 : Env0 P w K mg base A outer s H) (hl : vs.length = ps.length) (r : za1 vs us)
  (x : InCallC s s.heap.objs.size (bindL (envOfC qual scope s.heap.objs.size f cd).kindOf (ps.zip us) fun _ => none) (cellsFrom (s.heap.objs.size + 1) scope.names []) (bindC (envOfC qual scope s.heap.objs.size f cd).kindOf (ps.zip us) fun _ => none) s1) :
  Inv (zjq CX P w K mg base N qual scope f cd A outer s H E) [] (start N vs) H s1 := by
 have hpl : ps.length ≤ N.length := by have := congrArg List.length S.pre; rw [List.length_take] at this; omega
 obtain ⟨h1, tk, rfl, hk⟩ := x.done
 have noA : ∀ b : Addr, b ∉ (zjq CX P w K mg base N qual scope f cd A outer s H E).ex := fun b z => absurd (show b ∈ ([] : List Addr) from z) (by simp)
 refine ⟨⟨e0.mod, S.kind, rfl, rfl, Nat.le_refl _, fun y z c h1 h2 => ?_, fun y hy => ?_, fun y c _ h => ?_, fun _ => hd, Around.frames_deeper e0.frames, .inr ⟨rfl, rfl⟩, fun b z => absurd z (noA b), e0.bs, e0.bsz, fun b _ _ => noA b, fun b z => absurd z (noA b), e0.zhc, e0.frf⟩,
  rfl, e0.bare, Un.kept hk, ⟨_, x.toInCall.ns, fun i y v h1 h2 h3 => ?_⟩, fun y c h => ⟨_, x.cell y c h⟩, e0.hok.fresh (Nat.le_refl _), fun y c h => ?_, fun p hp => absurd (show p ∈ ([] : List (Addr × Obj)) from hp) (by simp), e0.hok.kept hk, ?_⟩
 ·exact name_of_addr x.apart (PySem.mem_of_lookup h1) (PySem.mem_of_lookup h2)
 ·have hy : scope.names.lookup y = some .cell ∨ scope.names.lookup y = some .free := hy
  rcases hy with hy | hy
  ·exact zf3 hy
  ·exact absurd rfl (S.nofree _ (PySem.mem_of_lookup hy))
 ·exact Nat.le_of_lt (x.above y c (PySem.mem_of_lookup h))
 ·have hi : i < vs.length := by
   unfold start at h2
   by_cases hi : i < vs.length
   ·exact hi
   ·rw [List.getElem?_append_right (by simpa using hi)] at h2
    rw [List.getElem?_replicate] at h2
    split at h2 <;> cases h2
  have ha : vs[i]? = some v := by
   unfold start at h2
   rw [List.getElem?_append_left (by simpa using hi), List.getElem?_map] at h2
   cases e : vs[i]? with
   | none => rw [e] at h2; cases h2
   | some a => rw [e] at h2; cases h2; rfl
  obtain ⟨u, hu, rv⟩ := r.get ha
  have hp : ps[i]? = some y := by
   rw [← S.pre, List.getElem?_take_of_lt (by omega)]; exact h1
  have ndP : ps.Nodup := by rw [← S.pre]; exact S.nd.sublist (List.take_sublist _ _)
  refine ⟨u, rv, ?_⟩
  rcases S.par y (List.mem_of_getElem? hp) with k | k
  ·exact .inl ⟨k, zeN ndP hp hu k⟩
  ·obtain ⟨c, e⟩ := zf3 (n := s.heap.objs.size + 1) k
   refine .inr ⟨.inl k, c, e, ?_⟩
   have q := x.cell y c e
   rw [zeO ndP hp hu (by show scope.names.lookup y ≠ _; rw [k]; decide)] at q
   exact q
 ·exact e0.hok.fresh (Nat.le_of_lt (x.above y c (PySem.mem_of_lookup h)))
 ·unfold start
  show _ = N.length
  rw [List.length_append, List.length_map, List.length_replicate]
  omega
theorem fn_of {CX : CXT} {P : Program} {w : World} {K : PySem.W.Frag} {mg : Str → Option Value} {base : Heap} {k : Nat} {f : Addr} {name qual : Str} {params : Arguments} {body : List Stmt} {scope : Scope} {dV kV doc pm cdv ct oc : Value} {an od : Option Addr}
  {osl : Array (Option Value)} {N ps : List Str} {sp : Sp} (lk : K.lookup f = some ⟨oc, od, .func (PySem.W.fnOf name qual params body scope dV kV doc pm an cdv ct), osl⟩) (hcd : PySem.W.codeIn K cdv qual = true) (S : zaC N ps scope)
  (len : ∀ vs H Q E, sp vs H Q E → vs.length = ps.length)
  (hbody : ∀ (A : Around) (outer : List Env) (s : Shared) (H : Hp) (vs : List V) (Q : VK) (E : XK), zdR k (A.deeper (envOfC qual scope s.heap.objs.size f cdv)) → sp vs H Q E →
   ∃ t, PSs (zjq CX P w K mg base N qual scope f cdv A outer s H E) body t ∧ t { nx := fun _ H' => Q .non H', rt := Q } (start N vs) H) :
  zb8 P w K mg base CX (k + 1) f (PySem.W.fnOf name qual params body scope dV kV doc pm an cdv ct) ps sp := by
 refine ⟨len, fun A outer s H args us vs Q E hr e0 hb r hsp => ?_⟩
 have hl := len _ _ _ _ hsp
 have KX : K.In s.heap := e0.mod.kin.keeps fun b o e => (e0.bs b o e).1
 have lim : s.heap.NoLimit := e0.mod.nolimit.keeps fun b o e => (e0.bs b o e).1
 have hkind : ∀ y ∈ ps.zip us, scope.names.lookup y.1 = some .local ∨ (scope.names.lookup y.1 = some .cell ∧ ((cellsFrom (s.heap.objs.size + 1) scope.names []).lookup y.1).isSome = true) := fun ⟨n, v⟩ hy => by
  rcases S.par n (List.of_mem_zip hy).1 with q | q
  ·exact .inl q
  ·exact .inr ⟨q, PySem.W.cellsFrom_some _ _ _ (.inl q)⟩
 refine codeAny_call_function hr.depth (KX _ _ lk) rfl S.co S.gen rfl (PySem.W.codeRec_of KX hcd) (hb _ _ _ _ ?_)
 refine wpAny_newFunctionEnv_cells S.kind hkind fun env he s1 x => ?_
 subst he
 refine ⟨lim.keeps x.toInCall.keep, codeAny_func ?_⟩
 obtain ⟨t, ht, hq⟩ := hbody A outer s H vs Q E (hr.deeper _) hsp
 have I : Inv (zjq CX P w K mg base N qual scope f cdv A outer s H E) [] (start N vs) H s1 := zho S hr.hd e0 hl r x
 refine wpAny_mono (ht [] s1 (start N vs) H _ I hq) (fun fl s' hs => ?_) fun e s' hs => hs
 have fin : ∀ {σ' : St} {H' : Hp} {v : V} {u : Value}, Inv (zjq CX P w K mg base N qual scope f cdv A outer s H E) [] σ' H' s' → RelV v u → Q v H' → CE outer P w H s Q u s' :=
  fun {σ' H' v u} J rv q => ⟨v, H', J.os, J.bare, J.base, J.hok, rv, q⟩
 cases fl with
 | ret u =>
  obtain ⟨v, σ', H', J, rv, q⟩ := hs
  exact fin J rv q
 | next =>
  obtain ⟨σ', H', J, q⟩ := hs
  exact fin (v := V.non) (u := Value.none) J rfl q
 | brk =>
  obtain ⟨_, _, _, q⟩ := hs
  exact False.elim q
 | cont =>
  obtain ⟨_, _, _, q⟩ := hs
  exact False.elim q
end L2
namespace L2
open PySem PySem.Spec PyProof.Rows
section
variable {X : Cx} {x : Str} {p pos : Pos} {e : Expr} {es : List Expr} {t : TA} {id T : String} {r : List V → Hp → VK → Prop}
def tCB (r : List V → Hp → VK → Prop) (t : TA) : TE := fun σ H Q => t σ H fun vs H1 => r vs H1 Q
theorem zf4 (hc : za3 X (.builtin id) r) (hg : Gl X x) (hm : X.mg x = none) (hv : bootBuiltins x = some (.builtin id)) (ha : PA X (e :: es) t) (hn : x ≠ "__name__" := by decide) (hdb : (x == ("__debug__" : Str)) = false := by decide)
  (he : starEach (e :: es) X.env = (false, eval e X.env) :: starEach es X.env := by rfl) (hpl : (backTo pos (starEach es X.env)).any (·.1) = false := by rfl) : PE X (.Call (.Name x p) (e :: es) [] pos) (tCB r t) := by
 intro pins s σ H Q I h
 refine wpAny_Call_Name_kw (zeG I hg hm hv ?_ hn hdb)
 exact PyProof.Rows.callWith_builtin1 (thn (ha pos pins s σ H _ I h) fun us s1 ⟨vs, H1, I1, r1, q1⟩ => hc pins s1 σ H1 vs us Q I1 r1 q1) he hpl
theorem zhp (hc : za3 X (.type T) r) (hg : Gl X x) (hm : X.mg x = none) (hv : bootBuiltins x = some (.type T)) (ha : PA X (e :: es) t) (hn : x ≠ "__name__" := by decide) (hdb : (x == ("__debug__" : Str)) = false := by decide)
  (he : starEach (e :: es) X.env = (false, eval e X.env) :: starEach es X.env := by rfl) (hpl : (backTo pos (starEach es X.env)).any (·.1) = false := by rfl) : PE X (.Call (.Name x p) (e :: es) [] pos) (tCB r t) := by
 intro pins s σ H Q I h
 refine wpAny_Call_Name_kw (zeG I hg hm hv ?_ hn hdb)
 exact PyProof.Rows.callWith_type1 (thn (ha pos pins s σ H _ I h) fun us s1 ⟨vs, H1, I1, r1, q1⟩ => hc pins s1 σ H1 vs us Q I1 r1 q1) he hpl
end
end L2
namespace HT
open PySem PyProof.Rows
def lexLt : List Int → List Int → Bool
 | [], [] => false
 | [], _ :: _ => true
 | _ :: _, [] => false
 | x :: xs, y :: ys => if x = y then lexLt xs ys else decide (x < y)
theorem za4 (x y : Int) (xs ys : List Int) : lexLt (x :: xs) (y :: ys) = if x = y then lexLt xs ys else decide (x < y) := rfl
theorem zcG : lexLt [] [] = false := rfl
theorem zdS (y : Int) (ys : List Int) : lexLt [] (y :: ys) = true := rfl
theorem zdT (x : Int) (xs : List Int) : lexLt (x :: xs) [] = false := rfl
theorem zf5 (A : Around) (s : Shared) (a : Int) (t : Tok) (c : Int) (u : Tok) : ∃ e, SeqAt.EqAt A s (.int a t) (.int c u) e ∧ (e = true ↔ a = c) :=
 ⟨(a == c), SeqAt.EqAt.int_int a t c u, by simp⟩
theorem ziE (A : Around) (s : Shared) (a : Int) (t : Tok) (c : Int) (u : Tok) (prog : Program) (w : World) (E : Value → Shared → Prop) (Q : Value → Shared → Prop) (h : Q (.bool (decide (a < c))) s) :
  wpAny (model prog w) A (richCompare .Lt (.int a t) (.int c u)) Q E s :=
 (PyProof.Rows.lt_int h : wpAny (model prog w) A (compareOp .Lt (.int a t) (.int c u)) Q E s)
section
open PySem.SeqAt
open PySem.AutoSeq1 (wpAny_loadPart')
open PySem.MeetsSeq PySem.MeetsSeq2 PySem.MeetsSeq3
theorem zei (l b : Addr) (items items2 : Array Value) (n n2 : Nat) (dd dd2 : Option Addr) (sl sl2 : Array (Option Value)) (ns ms : List Int) (hi : IntsAre items.toList ns) (hj : IntsAre items2.toList ms) :
  Meets (Builtin.«tuple.__lt__» ⟨[.ref l, .ref b], []⟩)
   (fun _ R s => s.heap.get? l = some { cls := .type "tuple", dict := dd, data := .seq items n, slots := sl } ∧ s.heap.get? b = some { cls := .type "tuple", dict := dd2, data := .seq items2 n2, slots := sl2 } ∧
    R (.ok (.ret (.bool (lexLt ns ms)))) s) :=
 .of_wp fun prog w A R s h => by
  obtain ⟨hp, g, d, tk, os⟩ := s; obtain ⟨hl, hb, h⟩ := h
  have f2 := AutoSeq1.sub_tuple_tuple
  have z1 : items.size = ns.length := by rw [← hi.length]; simp
  have z2 : items2.size = ms.length := by rw [← hj.length]; simp
  wp_walk using wpAny_loadPart' hl, wpAny_loadPart' hb, wpAny_forIn_list _ (fun rest b s' => b.1 = none ∧ s' = ⟨hp, g, d, tk, os⟩ ∧ ∃ (vs ws : List Value) (ns' ms' : List Int), rest = vs.zip ws ∧
   IntsAre vs ns' ∧ IntsAre ws ms' ∧ ns'.length + items2.size = ms'.length + items.size ∧ R (.ok (.ret (.bool (lexLt ns' ms')))) ⟨hp, g, d, tk, os⟩) _
  case turn =>
   rintro ⟨y, x⟩ rest b s' ⟨hb', rfl, vs, ws, ns', ms', hz, hvi, hwi, hlen, hR⟩
   cases hvi with
   | nil => rw [List.zip_nil_left] at hz; cases hz
   | cons a t hvi' =>
    cases hwi with
    | nil => rw [List.zip_nil_right] at hz; cases hz
    | cons c u hwi' =>
     rw [List.zip_cons_cons] at hz
     injection hz with hyx hrest
     injection hyx with hy hx
     subst hy hx
     rw [za4] at hR
     simp only [List.length_cons] at hlen
     obtain ⟨e, he, hiff⟩ := zf5 A.in1 ⟨hp, g, d, tk, os⟩ a t c u
     refine wpAny_bind (he prog w _ _ ?_)
     cases e with
     | true =>
      rw [if_pos (hiff.mp rfl)] at hR
      wp_walk
      exact ⟨rfl, rfl, _, _, _, _, hrest, hvi', hwi', by omega, hR⟩
     | false =>
      rw [if_neg (fun q => absurd (hiff.mpr q) Bool.false_ne_true)] at hR
      have hri := ziE A.in1 ⟨hp, g, d, tk, os⟩ a t c u prog w
      wp_walk using hri
      exact ⟨_, rfl, by simpa using hR⟩
  case fin =>
   rintro ⟨b1, b2⟩ s' ⟨hb', rfl, vs, ws, ns', ms', hz, hvi, hwi, hlen, hR⟩
   simp only at hb'
   subst hb'
   have hv : lexLt ns' ms' = decide (items.size < items2.size) := by
    cases hvi with
    | nil =>
     cases hwi with
     | nil =>
      simp only [List.length_nil] at hlen
      rw [zcG]
      exact (decide_eq_false (by omega)).symm
     | cons c u hw =>
      simp only [List.length_nil, List.length_cons] at hlen
      rw [zdS]
      exact (decide_eq_true (by omega)).symm
    | cons a t hv =>
     cases hwi with
     | nil =>
      simp only [List.length_nil, List.length_cons] at hlen
      rw [zdT]
      exact (decide_eq_false (by omega)).symm
     | cons c u hw =>
      rw [List.zip_cons_cons] at hz
      cases hz
   rw [hv] at hR
   wp_walk
   exact ⟨_, rfl, by simpa [Builtin.Tuple.tupleCompareSizes] using hR⟩
  case h =>
   exact ⟨rfl, rfl, items.toList, items2.toList, ns, ms, rfl, hi, hj, by omega, h⟩
end
section
variable {prog : Program} {w : World} {A : Around} {E : Value → Shared → Prop} {s : Shared}
theorem zgH {l b : Addr} {items items2 : Array Value} {ns ms : List Int} {Q : Value → Shared → Prop} (hl : IsTup s.heap l items) (hb : IsTup s.heap b items2) (hi : IntsAre items.toList ns) (hj : IntsAre items2.toList ms)
  (hu : A.units < cLine) (h : Q (.bool (lexLt ns ms)) s) : wpAny (model prog w) A (compareOp .Lt (.ref l) (.ref b)) Q E s := by
 obtain ⟨⟨cls, dd, data, sl⟩, ho, hc, n, hd⟩ := id hl
 obtain ⟨⟨cls2, dd2, data2, sl2⟩, ho2, hc2, n2, hd2⟩ := id hb
 simp only at hc hd hc2 hd2
 subst hc hd hc2 hd2
 exact richCompare_meets_room (op := .Lt) ⟨_, ho, rfl⟩ ⟨_, ho2, rfl⟩ PySem.F.slot_tuple_lt PySem.F.entry_tuple_lt (PySem.F.args_tuple_lt_2 _ _) (zei l b items items2 n n2 dd dd2 sl sl2 ns ms hi hj)
  ⟨ho, ho2, show Value.bool (lexLt ns ms) ≠ Value.notImplemented ∧ Q (.bool (lexLt ns ms)) s from ⟨(fun x => nomatch x), h⟩⟩ hu
theorem zj9 {t b : Addr} {vs ws : List Value} {Q : Value → Shared → Prop} (ht : IsTup s.heap t vs.toArray) (hb : IsTup s.heap b ws.toArray) (hv : vs ≠ [])
  (h1 : ws = [] → Q (.ref t) s) (h2 : ws ≠ [] → Q (.ref s.heap.objs.size) { s with heap := s.heap.push { cls := .type "tuple", data := .seq (vs ++ ws).toArray } })
  (hsz : vs.length + ws.length ≤ sizeLine) : wpAny (model prog w) A (binaryOp .Add (.ref t) (.ref b)) Q E s := by
 obtain ⟨⟨cls, dd, data, sl⟩, ho, hc, n, hd⟩ := id ht
 obtain ⟨⟨cls2, dd2, data2, sl2⟩, ho2, hc2, n2, hd2⟩ := id hb
 simp only at hc hd hc2 hd2
 subst hc hd hc2 hd2
 have e : vs.toArray ++ ws.toArray = (vs ++ ws).toArray := by simp
 by_cases hw : ws = []
 ·exact concat_meets ⟨_, ho, rfl⟩ ⟨_, ho2, rfl⟩ noFill_tuple_add seq_tuple_add PySem.F.slot_tuple_add PySem.F.entry_tuple_add (PySem.F.args_tuple_add_2 _ _)
   (tuple_addW1 t b vs.toArray ws.toArray n n2 dd dd2 sl sl2 (by simpa using hv) (by simp [hw])) ⟨ho, ho2, h1 hw⟩
 ·refine concat_meets ⟨_, ho, rfl⟩ ⟨_, ho2, rfl⟩ noFill_tuple_add seq_tuple_add PySem.F.slot_tuple_add PySem.F.entry_tuple_add (PySem.F.args_tuple_add_2 _ _)
   (tuple_addW2 t b vs.toArray ws.toArray n n2 dd dd2 sl sl2 (by simpa using hv) (by simpa using hw) (by rw [List.size_toArray, List.size_toArray]; exact hsz)) ⟨ho, ho2, ?_⟩
  rw [e]
  exact h2 hw
def sIx (n d : Nat) : Option Int → Nat
 | none => d
 | some v => if v < 0 then (v + (n : Int)).toNat else min v.toNat n
theorem zej (n d : Nat) : sIx n d none = d := rfl
theorem zfx (n d k : Nat) : sIx n d (some (k : Int)) = min k n := by
 show (if (k : Int) < 0 then ((k : Int) + (n : Int)).toNat else min (k : Int).toNat n) = min k n
 rw [if_neg (by omega), Int.toNat_natCast]
theorem zlK (n d : Nat) (hd : d ≤ n) (o : Option Int) : sIx n d o ≤ n := by
 cases o with
 | none => exact hd
 | some v =>
  show (if v < 0 then (v + (n : Int)).toNat else min v.toNat n) ≤ n
  by_cases hv : v < 0
  ·rw [if_pos hv]; omega
  ·rw [if_neg hv]; exact Nat.min_le_right _ _
theorem zhq (v : Int) (n d : Nat) : (if v < 0 then max (v + (n : Int)) 0 else min v (n : Int)) = ((sIx n d (some v) : Nat) : Int) := by
 show (if v < 0 then max (v + (n : Int)) 0 else min v (n : Int)) = (((if v < 0 then (v + (n : Int)).toNat else min v.toNat n) : Nat) : Int)
 by_cases hv : v < 0
 ·simp only [if_pos hv]; omega
 ·simp only [if_neg hv]; omega
theorem zgI (lo hi : Option Int) (n : Nat) : Builtin.Slice.sliceAdjust lo hi 1 (n : Int) = (((sIx n 0 lo : Nat) : Int), ((sIx n n hi : Nat) : Int)) := by
 have h1 : ¬ ((1 : Int) < 0) := by omega
 unfold Builtin.Slice.sliceAdjust
 simp only [h1, if_false]
 refine Prod.ext ?_ ?_
 ·cases lo with
  | none => rfl
  | some v => exact zhq v n 0
 ·cases hi with
  | none => rfl
  | some v => exact zhq v n n
theorem zgJ (i j : Nat) : Builtin.Slice.slicePlaces (i : Int) (j : Int) 1 = j - i := by
 unfold Builtin.Slice.slicePlaces
 have h1 : (1 : Int) > 0 := by omega
 simp only [h1, if_true, Int.ediv_one]
 split <;> omega
theorem zd5 {v : Value} {o : Option Int} {Q : Option Int → Shared → Prop} (p : IsPart v o) (h : Q o s) : wpAny (model prog w) A (Builtin.Slice.slicePartIndex v) Q E s := by
 cases p with
 | none => exact slicePart_none h
 | int i t => exact slicePart_int h
theorem zb4 {sl : Addr} {vl vu : Value} {lo hi : Option Int} {n : Nat} {Q : Int × Int × Nat → Shared → Prop} (hs : s.heap.IsSliceOf sl vl vu .none) (pl : IsPart vl lo) (pu : IsPart vu hi)
  (h : Q (((sIx n 0 lo : Nat) : Int), 1, sIx n n hi - sIx n 0 lo) s) : wpAny (model prog w) A (Builtin.Slice.sliceApplied (.ref sl) (pure (n : Int))) Q E s := by
 obtain ⟨os, hos, hcs, hds⟩ := id hs
 unfold Builtin.Slice.sliceApplied Builtin.Slice.sliceFields
 refine wpAny_bind (wpAny_bind (wpAny_field hos hds (x := vl) rfl (wpAny_bind (wpAny_field hos hds (x := vu) rfl (wpAny_bind (wpAny_field hos hds (x := .none) rfl (wpAny_pure ?_)))))))
 refine wpAny_bind (slicePart_none ?_)
 show wpAny _ _ (if ((1 : Int) == 0) = true then _ else _) _ _ s
 rw [if_neg (by decide)]
 refine wpAny_bind (zd5 pl (wpAny_bind (zd5 pu (wpAny_bind (wpAny_pure ?_)))))
 show wpAny _ _ (match Builtin.Slice.sliceAdjust lo hi 1 (n : Int) with | (lo, hi) => pure (lo, (1 : Int), Builtin.Slice.slicePlaces lo hi 1)) _ _ s
 rw [zgI lo hi n]
 show wpAny _ _ (pure (((sIx n 0 lo : Nat) : Int), (1 : Int), Builtin.Slice.slicePlaces ((sIx n 0 lo : Nat) : Int) ((sIx n n hi : Nat) : Int) 1)) _ _ s
 rw [zgJ]
 exact wpAny_pure h
theorem ziF (xs : Array Value) (i k : Nat) : ((List.range k).filterMap fun (m : Nat) => xs[((i : Int) + (m : Int) * 1).toNat]?).toArray = ((xs.toList.drop i).take k).toArray := by
 have e : (fun (m : Nat) => xs[((i : Int) + (m : Int) * 1).toNat]?) = fun m => xs[i + m]? := by
  funext m
  have : ((i : Int) + (m : Int) * 1).toNat = i + m := by omega
  rw [this]
 rw [e]
 have := pick_run xs i k
 rw [List.filterMap_map] at this
 have e2 : ((fun x => xs[x]?) ∘ fun x => i + x) = fun m => xs[i + m]? := rfl
 rw [e2] at this
 rw [this]
theorem zc1 {t sl : Addr} {items : Array Value} {vl vu : Value} {lo hi : Option Int} {Q : Value → Shared → Prop} (ht : IsTup s.heap t items) (hs : s.heap.IsSliceOf sl vl vu .none) (pl : IsPart vl lo) (pu : IsPart vu hi)
  (hw : ¬ (sIx items.size 0 lo = 0 ∧ sIx items.size items.size hi = items.size))
  (h : Q (.ref s.heap.objs.size) { s with heap := s.heap.push { cls := .type "tuple", data := .seq ((items.toList.drop (sIx items.size 0 lo)).take (sIx items.size items.size hi - sIx items.size 0 lo)).toArray } })
  (hsz : items.size ≤ sizeLine) : wpAny (model prog w) A (getItem (.ref t) (.ref sl)) Q E s := by
 have htake : sizeOk (.seq ((items.toList.drop (sIx items.size 0 lo)).take (sIx items.size items.size hi - sIx items.size 0 lo)).toArray) := by
  show ((items.toList.drop (sIx items.size 0 lo)).take (sIx items.size items.size hi - sIx items.size 0 lo)).toArray.size ≤ sizeLine
  rw [List.size_toArray, List.length_take, List.length_drop, Array.length_toList]
  omega
 have hj : sIx items.size items.size hi ≤ items.size := zlK _ _ (Nat.le_refl _) hi
 obtain ⟨os, hos, hcs, hds⟩ := id hs
 have hTs : s.TypeIs (.ref sl) "slice" := ⟨os, hos, hcs⟩
 unfold getItem
 try with_reducible refine wpAny_holding ?_
 first | refine wpAny_bind (wpAny_pure ?_) | skip
 refine wpAny_bind (wpAny_sequenceKey ht.typeIs (by decide) ?_)
 refine wpAny_bind (wpAny_callSpecial?_slot (name := Str.ofString "__getitem__") ht.typeIs PyProof.Rows.slot_tuple_getitem
  (wpAny_call_entry PyProof.Rows.slot_tuple_getitem ht.typeIs entry_tuple_getitem ?_ (args_tuple_getitem _ _)))
 show wpAny _ _ (Builtin.Tuple.tupleItemsOf (.ref t) >>= _) _ _ s
 refine wpAny_bind (tupleItemsOf_ ht ?_)
 refine wpAny_bind (wpAny_typeOf hTs ?_)
 rw [if_pos (by decide)]
 refine wpAny_bind (zb4 hs pl pu ?_)
 have hno : ¬ ((((sIx items.size 0 lo : Nat) : Int) == 0 && (1 : Int) == 1 && (sIx items.size items.size hi - sIx items.size 0 lo) == items.size) = true) := by
  intro q
  rw [Bool.and_eq_true, Bool.and_eq_true] at q
  have q1 : ((sIx items.size 0 lo : Nat) : Int) = 0 := eq_of_beq q.1.1
  have q2 : sIx items.size items.size hi - sIx items.size 0 lo = items.size := eq_of_beq q.2
  exact hw ⟨by omega, by omega⟩
 show wpAny _ _ (if (((sIx items.size 0 lo : Nat) : Int) == 0 && (1 : Int) == 1 && (sIx items.size items.size hi - sIx items.size 0 lo) == items.size) = true then _ else _) _ _ s
 rw [if_neg hno, ziF]
 first
  | exact wpAny_bind (m := Builtin.Tuple.tupleExact _) (wpAny_newObj_type (wpAny_pure ⟨_, rfl, wpAny_pure h⟩) htake)
  | exact wpAny_bind (m := Builtin.Tuple.tupleExact _) (wpAny_newObj_type (wpAny_bind (wpAny_pure (wpAny_pure ⟨_, rfl, wpAny_pure h⟩))) htake)
  | exact wpAny_bind (wpAny_bind (m := Builtin.Tuple.tupleExact _) (wpAny_newObj_type (wpAny_pure (wpAny_pure ⟨_, rfl, wpAny_pure h⟩)) htake))
  | exact wpAny_bind (wpAny_bind (m := Builtin.Tuple.tupleExact _) (wpAny_newObj_type (wpAny_pure ⟨_, rfl, wpAny_pure h⟩) htake))
end
end HT
namespace L2
open PySem PySem.Spec PyProof.Rows
abbrev TO := St → Hp → (Option Int → Hp → Prop) → Prop
def PO (X : Cx) (e : Option Expr) (t : TO) : Prop :=
 ∀ (pins : List (Addr × Obj)) (s : Shared) (σ : St) (H : Hp) (Q : Option Int → Hp → Prop), Inv X pins σ H s → t σ H Q →
  wpAny (model X.prog X.w) X.A (evalPart e X.env) (fun u s' => ∃ o H', Inv X pins σ H' s' ∧ IsPart u o ∧ Q o H') X.xe s
def zka : TO := fun _ H Q => Q none H
def tPart (t : TE) : TO := fun σ H Q => t σ H fun x H1 => ∃ i, x = .int i ∧ Q (some i) H1
theorem intsAre_of {ns : List Int} : ∀ {us : List Value}, za1 (ns.map V.int) us → IntsAre us ns := by
 induction ns with
 | nil => intro us r; rw [List.map_nil] at r; cases r; exact .nil
 | cons n ns ih =>
  intro us r
  rw [List.map_cons] at r
  cases r with
  | cons r1 r2 =>
   obtain ⟨t, e⟩ := r1
   subst e
   exact .cons n t (ih r2)
section
variable {X : Cx} {e : Expr} {te : TE} {lo hi : Option Expr} {tl th : TO} {pos p2 : Pos}
theorem zkb : PO X none zka := by
 intro pins s σ H Q I h
 rw [evalPart_none]
 exact wpAny_pure ⟨none, H, I, .none, h⟩
theorem zkc (h : PE X e te) : PO X (some e) (tPart te) := by
 intro pins s σ H Q I hw
 rw [evalPart_some]
 refine thn (h pins s σ H _ I hw) fun u s1 ⟨x, H1, I1, r1, q1⟩ => ?_
 obtain ⟨i, rfl, q⟩ := q1
 obtain ⟨t, rfl⟩ := r1
 exact ⟨some i, H1, I1, .int i t, q⟩
def SlR (X : Cx) (r : V → Option Int → Option Int → Hp → VK → Prop) : Prop :=
 ∀ (pins : List (Addr × Obj)) (s : Shared) (σ : St) (H : Hp) (x : V) (v vl vu : Value) (lo hi : Option Int) (sl : Addr) (Q : VK), Inv X pins σ H s → RelV x v → s.heap.IsSliceOf sl vl vu .none → IsPart vl lo → IsPart vu hi → r x lo hi H Q →
  ∃ T id, typeLookup (.type T) "__getitem__" = pure (some (.builtin id)) ∧ s.TypeIs v T ∧ wpAny (model X.prog X.w) X.A (getItem v (.ref sl)) (EP X pins σ Q) X.xe s
def tSl (r : V → Option Int → Option Int → Hp → VK → Prop) (te : TE) (tl th : TO) : TE := fun σ H Q => te σ H fun x H1 => tl σ H1 fun l H2 => th σ H2 fun u H3 => r x l u H3 Q
theorem ziG {r : V → Option Int → Option Int → Hp → VK → Prop} (hr : SlR X r) (he : PE X e te) (hl : PO X lo tl) (hu : PO X hi th) : PE X (.Subscript e (.Slice lo hi none p2) pos) (tSl r te tl th) := by
 intro pins s σ H Q I h
 refine Subscript_ (thn (he pins s σ H _ I h) fun v s1 ⟨x, H1, I1, r1, q1⟩ => ?_)
 refine wpAny_Slice (thn (hl pins s1 σ H1 _ I1 q1) fun vl s2 ⟨l, H2, I2, pl, q2⟩ => thn (hu pins s2 σ H2 _ I2 q2) fun vu s3 ⟨u, H3, I3, pu, q3⟩ => ?_)
 rw [evalPart_none]
 refine wpAny_pure ?_
 have I4 : Inv X pins σ H3 { s3 with heap := s3.heap.push { cls := .type "slice", data := .fields #[vl, vu, .none] } } := I3.kept (t' := s3.toks) fun b ob q => Heap.get?_push_of_some _ q
 obtain ⟨T, id, hT, ht, hg⟩ := hr pins { s3 with heap := s3.heap.push { cls := .type "slice", data := .fields #[vl, vu, .none] } } σ H3 x v vl vu l u s3.heap.objs.size Q I4 r1 (Heap.IsSliceOf.new ..) pl pu q3
 show wpAny (model X.prog X.w) X.A (subscriptTail e (.Slice lo hi none p2) v (.ref s3.heap.objs.size)) (EP X pins σ Q) X.xe { s3 with heap := s3.heap.push { cls := .type "slice", data := .fields #[vl, vu, .none] } }
 exact tail_any (ops := [.ref s3.heap.objs.size, v]) ht hT hg (by with_unfolding_all rfl)
def zhr (xs : List V) (lo hi : Option Int) : List V := (xs.drop (HT.sIx xs.length 0 lo)).take (HT.sIx xs.length xs.length hi - HT.sIx xs.length 0 lo)
theorem zdB (xs : List V) (lo hi : Option Int) : (zhr xs lo hi).length ≤ xs.length := by
 unfold zhr
 rw [List.length_take, List.length_drop]
 omega
def rSlT (K : PySem.W.Frag) : V → Option Int → Option Int → Hp → VK → Prop := fun x lo hi H Q => ∃ a xs, x = .ref a ∧ SqT K H a xs ∧
 ¬ (HT.sIx xs.length 0 lo = 0 ∧ HT.sIx xs.length xs.length hi = xs.length) ∧ ∀ p, H p = none → Q (.ref p) (upd H p (.tup (zhr xs lo hi)))
theorem zlL : SlR X (rSlT X.K) := by
 intro pins s σ H x v vl vu lo hi sl Q I rx hs pl pu h
 obtain ⟨a, xs, rfl, hx, hw, q⟩ := h
 cases rx
 obtain ⟨its, r, ht, hz⟩ := I.tuple hx
 have hlen : its.toArray.size = xs.length := by rw [List.size_toArray]; exact r.length.symm
 refine ⟨"tuple", _, PyProof.Rows.slot_tuple_getitem.lookup, ht.typeIs, ?_⟩
 refine HT.zc1 ht hs pl pu (by rw [hlen]; exact hw) ?_ (by rw [hlen]; exact hz)
 rw [hlen]
 refine ⟨.ref s.heap.objs.size, _, I.laid (t' := s.toks) (o := .tup (zhr xs lo hi)) (fun b ob q => Heap.get?_push_of_some _ q) (Nat.le_refl _) ?_, rfl, q _ (I.hok.fresh (Nat.le_refl _))⟩
 exact ⟨Nat.le_trans (zdB xs lo hi) hz, _, (r.drop (HT.sIx xs.length 0 lo)).take (HT.sIx xs.length xs.length hi - HT.sIx xs.length 0 lo), IsTup.new _ _⟩
def rLtT (K : PySem.W.Frag) : R2 := fun x y H Q => ∃ a b ns ms, x = .ref a ∧ y = .ref b ∧ SqT K H a (ns.map V.int) ∧ SqT K H b (ms.map V.int) ∧ Q (.bl (HT.lexLt ns ms)) H
theorem zlM (hu : X.A.units < cLine) : OpR X (compareOp .Lt) (rLtT X.K) := by
 intro pins s σ H x y v u Q I rx ry h
 obtain ⟨a, b, ns, ms, rfl, rfl, ha, hb, q⟩ := h
 cases rx
 cases ry
 obtain ⟨its, r1, p1, _⟩ := I.tuple ha
 obtain ⟨its2, r2, p2, _⟩ := I.tuple hb
 have i1 : IntsAre its.toArray.toList ns := intsAre_of r1
 have i2 : IntsAre its2.toArray.toList ms := intsAre_of r2
 exact HT.zgH p1 p2 i1 i2 hu ⟨.bl (HT.lexLt ns ms), H, I, rfl, q⟩
def rCatT (K : PySem.W.Frag) : R2 := fun x y H Q => ∃ a b xs ys, x = .ref a ∧ y = .ref b ∧ SqT K H a xs ∧ SqT K H b ys ∧ xs ≠ [] ∧ xs.length + ys.length ≤ sizeLine ∧
 (ys = [] → Q (.ref a) H) ∧ (ys ≠ [] → ∀ p, H p = none → Q (.ref p) (upd H p (.tup (xs ++ ys))))
theorem za1.zfy {xs : List V} {us : List Value} (r : za1 xs us) : us = [] ↔ xs = [] := by
 cases r with
 | nil => simp
 | cons _ _ => simp
theorem zkd : OpR X (binaryOp .Add) (rCatT X.K) := by
 intro pins s σ H x y v u Q I rx ry h
 obtain ⟨a, b, xs, ys, rfl, rfl, ha, hb, hx, hz, q1, q2⟩ := h
 cases rx
 cases ry
 obtain ⟨its, r1, p1, _⟩ := I.tuple ha
 obtain ⟨its2, r2, p2, _⟩ := I.tuple hb
 refine HT.zj9 p1 p2 (fun z => hx (r1.zfy.mp z)) (fun z => ⟨.ref a, H, I, rfl, q1 (r2.zfy.mp z)⟩) (fun z => ?_) (by rw [← r1.length, ← r2.length]; exact hz)
 refine ⟨.ref s.heap.objs.size, _, I.laid (t' := s.toks) (o := .tup (xs ++ ys)) (fun b ob q => Heap.get?_push_of_some _ q) (Nat.le_refl _) ?_, rfl, q2 (fun w => z (r2.zfy.mpr w)) _ (I.hok.fresh (Nat.le_refl _))⟩
 exact ⟨by rw [List.length_append]; exact hz, _, r1.append r2, IsTup.new _ _⟩
end
end L2
namespace L2
open PySem PySem.Spec PyProof.Rows
def ixN (n : Nat) (i : Int) : Option Nat := if 0 ≤ i then (if i < n then some i.toNat else none) else if -(n : Int) ≤ i then some (i + n).toNat else none
def atI {α : Type} (xs : List α) (i : Int) : Option α := (ixN xs.length i).bind fun j => xs[j]?
theorem zhs {n : Nat} {i : Int} {j : Nat} (h : ixN n i = some j) : seqIndex? i n = some j ∧ j < n ∧ -(n : Int) ≤ i ∧ i < n := by
 unfold ixN at h
 by_cases h0 : 0 ≤ i
 ·rw [if_pos h0] at h
  by_cases h1 : i < n
  ·rw [if_pos h1] at h
   have e : i.toNat = j := Option.some.inj h
   exact ⟨by rw [seqIndex_of h0 h1, e], by omega, by omega, h1⟩
  ·rw [if_neg h1] at h; cases h
 ·rw [if_neg h0] at h
  by_cases h1 : -(n : Int) ≤ i
  ·rw [if_pos h1] at h
   have e : (i + n).toNat = j := Option.some.inj h
   exact ⟨by rw [seqIndex_neg (by omega) h1, e], by omega, h1, by omega⟩
  ·rw [if_neg h1] at h; cases h
theorem zbI {α : Type} {xs : List α} {i : Int} {v : α} (h : atI xs i = some v) : ∃ j, seqIndex? i xs.length = some j ∧ xs[j]? = some v ∧ j < xs.length ∧ -(xs.length : Int) ≤ i ∧ i < xs.length := by
 unfold atI at h
 cases e : ixN xs.length i with
 | none => rw [e] at h; cases h
 | some j =>
  rw [e] at h
  obtain ⟨h1, h2, h3, h4⟩ := zhs e
  exact ⟨j, h1, h, h2, h3, h4⟩
theorem zfz {α : Type} {xs : List α} {j : Nat} {v : α} (h : xs[j]? = some v) : atI xs (j : Int) = some v := by
 have hj : j < xs.length := (List.getElem?_eq_some_iff.mp h).1
 have e : ixN xs.length (j : Int) = some j := by
  unfold ixN
  rw [if_pos (by omega), if_pos (by omega)]; simp
 unfold atI; rw [e]; exact h
def zfA (b : Expr) : Prop := ∀ o i, subscripted b false o i = operate [o, i] (getItem o i)
def IxR (X : Cx) (r : R2) : Prop :=
 ∀ (value slice : Expr) (pins : List (Addr × Obj)) (s : Shared) (σ : St) (H : Hp) (x y : V) (v u : Value) (Q : VK), Inv X pins σ H s → RelV x v → RelV y u → r x y H Q →
  subscripted slice false v u = operate [v, u] (getItem v u) → wpAny (model X.prog X.w) X.A (subscriptTail value slice v u) (EP X pins σ Q) X.xe s
def MtR (X : Cx) (id : String) (r : V → List V → Hp → VK → Prop) : Prop :=
 ∀ (pins : List (Addr × Obj)) (s : Shared) (σ : St) (H : Hp) (x : V) (xs : List V) (v : Value) (us : List Value) (Q : VK), Inv X pins σ H s → RelV x v → za1 xs us → r x xs H Q →
  wpAny (model X.prog X.w) X.A (call (.builtin id) (v :: us)) (EP X pins σ Q) X.xe s
section
variable {X : Cx} {a b : Expr} {ta tb : TE} {pos : Pos}
theorem IxR.or {r r' : R2} (h : IxR X r) (h' : IxR X r') : IxR X (fun x y H Q => r x y H Q ∨ r' x y H Q) := by
 intro value slice pins s σ H x y v u Q I rx ry q hs
 rcases q with q | q
 ·exact h value slice pins s σ H x y v u Q I rx ry q hs
 ·exact h' value slice pins s σ H x y v u Q I rx ry q hs
theorem pe_ix {r : R2} (hr : IxR X r) (ha : PE X a ta) (hb : PE X b tb) (hs : zfA b) : PE X (.Subscript a b pos) (tOp r ta tb) := by
 intro pins s σ H Q I h
 exact Subscript_ (binT ha hb I h fun v u s2 x y H2 I2 rx ry q => hr a b pins s2 σ H2 x y v u Q I2 rx ry q (hs _ _))
def rIxL (K : PySem.W.Frag) : R2 := fun x y H Q => ∃ p xs i v, x = .ref p ∧ y = .int i ∧ SqL K H p xs ∧ atI xs i = some v ∧ Q v H
def rIxT (K : PySem.W.Frag) : R2 := fun x y H Q => ∃ p xs i v, x = .ref p ∧ y = .int i ∧ SqT K H p xs ∧ atI xs i = some v ∧ Q v H
def rIxS : R2 := fun x y H Q => ∃ z i c, x = .str z ∧ y = .int i ∧ z.length ≤ sizeLine ∧ atI z.cps.toList i = some c ∧ Q (.str ⟨#[c]⟩) H
theorem zke : IxR X (rIxL X.K) := by
 intro value slice pins s σ H x y v u Q I rx ry h hs
 obtain ⟨p, xs, i, z, rfl, rfl, hq, he, q⟩ := h
 cases rx
 obtain ⟨t, rfl⟩ := ry
 obtain ⟨its, r, pl, hz⟩ := I.list hq
 obtain ⟨j, h1, h2, h3, h4, h5⟩ := zbI he
 obtain ⟨w, ew, rw'⟩ := r.get h2
 have hl := r.length
 have hn := zdz
 have fin : EP X pins σ Q w s := ⟨z, H, I, rw', q⟩
 by_cases h0 : 0 ≤ i
 ·have hj : i.toNat = j := by
   rw [seqIndex_of h0 h5] at h1
   exact Option.some.inj h1
  exact item_listR pl.isList h0 (by omega) (by rw [hj]; simpa using ew) fin hs
 ·have hj : (i + (its.toArray.size : Int)).toNat = j := by
   rw [seqIndex_neg (by omega) h4] at h1
   rw [List.size_toArray, ← hl]
   exact Option.some.inj h1
  exact subscriptTail_builtinR (x := w) pl.isList.typeIs slot_list_getitem.lookup
   (wpAny_getItem_list_neg (Q := fun r s' => r = w ∧ EP X pins σ Q r s') pl.isList (by omega) (by rw [List.size_toArray] <;> omega) (by omega) (by rw [hj]; simpa using ew) ⟨rfl, fin⟩) hs
theorem zlN : IxR X (rIxT X.K) := by
 intro value slice pins s σ H x y v u Q I rx ry h hs
 obtain ⟨p, xs, i, z, rfl, rfl, hq, he, q⟩ := h
 cases rx
 obtain ⟨t, rfl⟩ := ry
 obtain ⟨its, r, pl, hz⟩ := I.tuple hq
 obtain ⟨j, h1, h2, h3, h4, h5⟩ := zbI he
 obtain ⟨w, ew, rw'⟩ := r.get h2
 have hl := r.length
 have hn := zdz
 have fin : EP X pins σ Q w s := ⟨z, H, I, rw', q⟩
 exact subscriptTail_builtinR (x := w) pl.typeIs slot_tuple_getitem.lookup
  (getItem_tuple (j := j) (Q := fun r s' => r = w ∧ EP X pins σ Q r s') pl (by omega) (by omega) (by rw [List.size_toArray, ← hl]; exact h1) (by simpa using ew) ⟨rfl, fin⟩) hs
theorem zlO : IxR X rIxS := by
 intro value slice pins s σ H x y v u Q I rx ry h hs
 obtain ⟨z, i, c, rfl, rfl, hz, he, q⟩ := h
 obtain ⟨t, rfl⟩ := rx
 obtain ⟨t', rfl⟩ := ry
 obtain ⟨j, h1, h2, h3, h4, h5⟩ := zbI he
 have hl : z.cps.toList.length = z.length := by simp [Str.length]
 rw [hl] at h1 h4 h5
 have hn := zdz
 exact tail_any (typeIs_str s z t) slot_str_getitem.lookup (getItem_str (c := c) (by
  have e1 : decide (i < -(2 ^ 63 : Int)) = false := decide_eq_false (by omega)
  have e2 : decide (i ≥ 2 ^ 63) = false := decide_eq_false (by omega)
  rw [e1, e2, Bool.or_false]) (by rw [h1]; simpa using h2) ⟨.str ⟨#[c]⟩, H, I.tok _, ⟨_, rfl⟩, q⟩) hs
def rIx (K : PySem.W.Frag) : R2 := fun x y H Q => rIxL K x y H Q ∨ rIxT K x y H Q ∨ rIxS x y H Q
theorem zlP : IxR X (rIx X.K) := zke.or (zlN.or zlO)
theorem zgK (its : List Value) (n j : Nat) (u : Value) : Obj.mapSeq (·.setIfInBounds j u) { cls := .type "list", data := .seq its.toArray n } = { cls := .type "list", data := .seq (its.set j u).toArray n } := by
 simp [Obj.mapSeq]
theorem Inv.lst {pins : List (Addr × Obj)} {σ : St} {H : Hp} {s : Shared} {p : Addr} {xs : List V} (I : Inv X pins σ H s) (h : H p = some (.lst xs)) :
  ∃ (its : List Value) (n : Nat), za1 xs its ∧ s.heap.get? p = some { cls := .type "list", data := .seq its.toArray n } ∧ xs.length ≤ sizeLine := by
 obtain ⟨z, its, n, r, e⟩ := I.hok p _ h
 exact ⟨its, n, r, e, z⟩
theorem Inv.zlQ {pins : List (Addr × Obj)} {σ : St} {H : Hp} {s : Shared} {p : Addr} {xs ys : List V} {its its' : List Value} {n n' : Nat} {f : Obj → Obj} (I : Inv X pins σ H s) (h : H p = some (.lst xs))
  (ho : s.heap.get? p = some { cls := .type "list", data := .seq its.toArray n }) (hf : f { cls := .type "list", data := .seq its.toArray n } = { cls := .type "list", data := .seq its'.toArray n' }) (r : za1 ys its') (hz : ys.length ≤ sizeLine) (t : Nat) :
  Inv X pins σ (upd H p (.lst ys)) { s with heap := s.heap.update p f, toks := t } := by
 have e : (s.heap.update p f).get? p = some { cls := .type "list", data := .seq its'.toArray n' } := by
  rw [Heap.get?_update_self f ho (by rw [hf] <;> rfl), hf]
 refine I.write (x := p) (e := p) (by rw [h]; trivial) (.inl rfl) (fun b u hb q => (Heap.get?_update_other _ _ (Ne.symm hb)).trans q) ⟨_, e⟩ ?_
 exact ⟨hz, its', n', r, e⟩
def zht : V → V → V → Hp → (Hp → Prop) → Prop := fun o i v H Q => ∃ p xs k j, o = .ref p ∧ i = .int k ∧ H p = some (.lst xs) ∧ ixN xs.length k = some j ∧ Q (upd H p (.lst (xs.set j v)))
theorem set_list : PSet X zht := by
 intro pins s σ H o i v ov iv u Q I ro ri rv h
 obtain ⟨p, xs, k, j, rfl, rfl, hp, hj, q⟩ := h
 cases ro
 obtain ⟨t, rfl⟩ := ri
 obtain ⟨its, n, r, ho, hz⟩ := I.lst hp
 obtain ⟨h1, h2, h3, h4⟩ := zhs hj
 have hl := r.length
 have hn := zdz
 have I' : Inv X pins σ (upd H p (.lst (xs.set j v))) { s with heap := s.heap.update p (Obj.mapSeq (·.setIfInBounds j u)) } :=
  I.zlQ hp ho (zgK its n j u) (r.set rv j) (by rw [List.length_set]; exact hz) s.toks
 by_cases h0 : 0 ≤ k
 ·have hk : k.toNat = j := by
   rw [seqIndex_of h0 h4] at h1
   exact Option.some.inj h1
  exact PySem.W.ki_setAt ho h0 (by omega) (by rw [List.size_toArray, ← hl]; exact h4) (by rw [hk]; exact ⟨_, I', q⟩)
 ·have hk : (k + (its.toArray.size : Int)).toNat = j := by
   rw [seqIndex_neg (by omega) h3] at h1
   rw [List.size_toArray, ← hl]
   exact Option.some.inj h1
  exact PySem.W.ki_setBack ho (by omega) (by rw [List.size_toArray, ← hl]; exact h3) (by omega) (by rw [hk]; exact ⟨_, I', q⟩)
theorem zeP (lo hi : Option Int) (n : Nat) : (sliceBounds lo hi none n).1 = ((HT.sIx n 0 lo : Nat) : Int) ∧ (sliceBounds lo hi none n).2.1 = ((HT.sIx n n hi : Nat) : Int) ∧ (sliceBounds lo hi none n).2.2 = 1 := by
 refine ⟨?_, ?_, rfl⟩
 ·cases lo with
  | none => simp [sliceBounds, HT.sIx]
  | some i =>
   simp only [sliceBounds, HT.sIx, Option.getD_none, show (1 : Int) > 0 by decide, if_true]
   by_cases h : i < 0
   ·simp only [h, if_true] <;> omega
   ·simp only [h, if_false] <;> omega
 ·cases hi with
  | none => simp [sliceBounds, HT.sIx]
  | some i =>
   simp only [sliceBounds, HT.sIx, Option.getD_none, show (1 : Int) > 0 by decide, if_true]
   by_cases h : i < 0
   ·simp only [h, if_true] <;> omega
   ·simp only [h, if_false] <;> omega
theorem zek (its : List Value) (lo hi : Option Int) : slicePick its.toArray lo hi none = ((its.drop (HT.sIx its.length 0 lo)).take (HT.sIx its.length its.length hi - HT.sIx its.length 0 lo)).toArray := by
 obtain ⟨h1, h2, h3⟩ := zeP lo hi its.toArray.size
 unfold slicePick
 rw [h1, h2, h3]
 simp only [sliceRange_one, pick_run, List.size_toArray] <;> rfl
def rSlL (K : PySem.W.Frag) : V → Option Int → Option Int → Hp → VK → Prop := fun x lo hi H Q => ∃ a xs, x = .ref a ∧ SqL K H a xs ∧ ∀ p, H p = none → Q (.ref p) (upd H p (.lst (zhr xs lo hi)))
theorem zkf : SlR X (rSlL X.K) := by
 intro pins s σ H x v vl vu lo hi sl Q I rx hs pl pu h
 obtain ⟨a, xs, rfl, hx, q⟩ := h
 cases rx
 obtain ⟨its, r, ht, hz⟩ := I.list hx
 have hlen := r.length
 refine ⟨"list", _, slot_list_getitem.lookup, ht.isList.typeIs, ?_⟩
 refine wpAny_getItem_list_slice ht.isList hs pl pu .none (by simp) ?_ (by rw [List.size_toArray] <;> omega)
 rw [zek, ← hlen]
 refine ⟨.ref s.heap.objs.size, _, I.laid (t' := s.toks) (o := .lst (zhr xs lo hi)) (fun b ob q => Heap.get?_push_of_some _ q) (Nat.le_refl _) ?_, rfl, q _ (I.hok.fresh (Nat.le_refl _))⟩
 exact ⟨Nat.le_trans (zdB xs lo hi) hz, _, 0, (r.drop (HT.sIx xs.length 0 lo)).take (HT.sIx xs.length xs.length hi - HT.sIx xs.length 0 lo), Heap.get?_push_size _ rfl⟩
theorem zeQ : za3 X (.builtin "len") (fun xs H Q => ∃ p ys, xs = [.ref p] ∧ (SqL X.K H p ys ∨ SqT X.K H p ys) ∧ Q (.int ys.length) H) := by
 intro pins s σ H xs us Q I r h
 obtain ⟨p, ys, rfl, hq, q⟩ := h
 obtain ⟨u, rfl, rx⟩ := vals1 r
 cases rx
 have hn := zdz
 rcases hq with hq | hq
 ·obtain ⟨its, r', pl, hz⟩ := I.list hq
  have hlen := r'.length
  exact Calls.call_len_list pl.isList (by simp only [List.size_toArray] <;> omega) ⟨.int ys.length, H, I.tok _, ⟨s.toks + 1, by rw [List.size_toArray, hlen]⟩, q⟩
 ·obtain ⟨its, r', pl, hz⟩ := I.tuple hq
  have hlen := r'.length
  exact len_tuple pl (by simp only [List.size_toArray] <;> omega) ⟨.int ys.length, H, I.tok _, ⟨s.toks + 1, by rw [List.size_toArray, hlen]⟩, q⟩
theorem zeR : za3 X (.builtin "len") (fun xs H Q => ∃ z, xs = [.str z] ∧ z.length ≤ sizeLine ∧ Q (.int z.length) H) := by
 intro pins s σ H xs us Q I r h
 obtain ⟨z, rfl, hz, q⟩ := h
 obtain ⟨u, rfl, t, rfl⟩ := vals1 r
 have hn := zdz
 exact len_str (by omega) ⟨.int z.length, H, I.tok _, ⟨_, rfl⟩, q⟩
theorem zeS : za3 X (.type "list") (fun xs H Q => ∃ p ys, xs = [.ref p] ∧ (SqL X.K H p ys ∨ SqT X.K H p ys) ∧ ∀ l, H l = none → Q (.ref l) (upd H l (.lst ys))) := by
 intro pins s σ H xs us Q I r h
 obtain ⟨p, ys, rfl, hq, q⟩ := h
 obtain ⟨u, rfl, rx⟩ := vals1 r
 cases rx
 have fin : ∀ (its : List Value), za1 ys its → ys.length ≤ sizeLine → ∀ (h' : Heap) (c' : Nat), (∀ b o', s.heap.get? b = some o' → h'.get? b = some o') →
   h'.get? s.heap.objs.size = some { cls := .type "list", dict := none, data := .seq its.toArray c', slots := #[] } → EP X pins σ Q (.ref s.heap.objs.size) { s with heap := h' } := fun its r' hz h' c' kp e =>
  ⟨.ref s.heap.objs.size, _, I.laid (t' := s.toks) kp (Nat.le_refl _) (show zbN X.prog X.w _ h' _ (.lst ys) from ⟨hz, its, c', r', e⟩), rfl, q _ (I.hok.fresh (Nat.le_refl _))⟩
 rcases hq with hq | hq
 ·obtain ⟨its, r', pl, hz⟩ := I.list hq
  have hlen := r'.length
  obtain ⟨o, ho, hc, n, hd⟩ := pl.isList
  exact call_list_seq p (.inl rfl) ho hc hd (fun h' c' kp e => fin its r' hz h' c' kp e) (by simp only [List.size_toArray] <;> omega)
 ·obtain ⟨its, r', pl, hz⟩ := I.tuple hq
  have hlen := r'.length
  obtain ⟨o, ho, hc, n, hd⟩ := pl
  exact call_list_seq p (.inr rfl) ho hc hd (fun h' c' kp e => fin its r' hz h' c' kp e) (by simp only [List.size_toArray] <;> omega)
theorem zel : za3 X (.type "tuple") (fun xs H Q => ∃ p ys, xs = [.ref p] ∧ ((SqL X.K H p ys ∧ ∀ l, H l = none → Q (.ref l) (upd H l (.tup ys))) ∨ (SqT X.K H p ys ∧ Q (.ref p) H))) := by
 intro pins s σ H xs us Q I r h
 obtain ⟨p, ys, rfl, h⟩ := h
 obtain ⟨u, rfl, rx⟩ := vals1 r
 cases rx
 rcases h with ⟨hq, q⟩ | ⟨hq, q⟩
 ·obtain ⟨its, r', pl, hz⟩ := I.list hq
  have hlen := r'.length
  refine call_tuple_list pl.isList (fun h' kp => ?_) (by simp only [List.size_toArray] <;> omega)
  have I1 : Inv X pins σ H { s with heap := h' } := I.kept (t' := s.toks) kp
  have I2 : Inv X pins σ (upd H h'.objs.size (.tup ys)) { s with heap := h'.push { cls := .type "tuple", data := .seq its.toArray } } :=
   I1.laid (t' := s.toks) (fun b o e => Heap.get?_push_of_some _ e) (Nat.le_refl _) (show zbN X.prog X.w _ _ _ (.tup ys) from ⟨hz, its, r', IsTup.new _ _⟩)
  exact ⟨.ref h'.objs.size, _, I2, rfl, q _ (I1.hok.fresh (Nat.le_refl _))⟩
 ·obtain ⟨its, r', pl, hz⟩ := I.tuple hq
  exact call_tuple_same pl ⟨.ref p, H, I, rfl, q⟩
def tyV (K : PySem.W.Frag) (T : String) (x : V) (H : Hp) : Prop := match x with
 | .str _ => T = "str"
 | .int _ => T = "int"
 | .ref p => (T = "list" ∧ ∃ xs, SqL K H p xs) ∨ (T = "tuple" ∧ ∃ o, K.lookup p = some o ∧ o.cls = .type "tuple" ∧ o.dict = none) ∨
   (T = "dict" ∧ ((∃ kvs, H p = some (.dK kvs)) ∨ ∃ kvs, H p = some (.dT kvs))) ∨ (T = "set" ∧ ∃ S n, H p = some (.set S n))
 | _ => False
theorem zlR {pins : List (Addr × Obj)} {σ : St} {H : Hp} {s : Shared} {T : String} {x : V} {v : Value} (I : Inv X pins σ H s) (r : RelV x v) (ty : tyV X.K T x H) :
  s.TypeIs v T ∧ ∀ a, v = .ref a → ∃ ob, s.heap.get? a = some ob ∧ ob.dict = none := by
 cases x with
 | str z =>
  obtain ⟨t, rfl⟩ := r
  cases (show T = "str" from ty)
  exact ⟨typeIs_str s z t, fun _ e => nomatch e⟩
 | int i =>
  obtain ⟨t, rfl⟩ := r
  cases (show T = "int" from ty)
  exact ⟨typeIs_int s i t, fun _ e => nomatch e⟩
 | ref p =>
  cases r
  rcases ty with ⟨rfl, xs, hq⟩ | ⟨rfl, o, hk, hc, hd⟩ | ⟨rfl, hk⟩ | ⟨rfl, S, n, hk⟩
  ·obtain ⟨its, _, pl, _⟩ := I.list hq
   refine ⟨pl.isList.typeIs, fun a e => ?_⟩
   cases e
   obtain ⟨o, n, e, c, hd, _⟩ := pl
   exact ⟨o, e, hd⟩
  ·refine ⟨⟨o, I.kIn p o hk, hc⟩, fun a e => ?_⟩
   cases e
   exact ⟨o, I.kIn _ o hk, hd⟩
  ·have z : ∃ o, s.heap.get? p = some o ∧ o.ExactDict := by
    rcases hk with ⟨kvs, hk⟩ | ⟨kvs, hk⟩
    ·obtain ⟨_, _, _, _, o, _, _, e, ex, _⟩ := I.hok p _ hk
     exact ⟨o, e, ex⟩
    ·obtain ⟨_, _, _, _, o, _, _, e, ex, _⟩ := I.hok p _ hk
     exact ⟨o, e, ex⟩
   obtain ⟨o, e, ex⟩ := z
   refine ⟨⟨o, e, ex.1⟩, fun a e2 => ?_⟩
   cases e2
   exact ⟨o, e, ex.2.1⟩
  ·obtain ⟨o, _, _, _, e, ex, _⟩ := I.hok p _ hk
   refine ⟨⟨o, e, ex.1⟩, fun a e2 => ?_⟩
   cases e2
   exact ⟨o, e, ex.2.1⟩
 | _ => exact False.elim ty
def tBM (K : PySem.W.Frag) (T : String) (r : V → List V → Hp → VK → Prop) (to : TE) (t : TA) : TE := fun σ H Q => to σ H fun x H1 => tyV K T x H1 ∧ t σ H1 fun xs H2 => r x xs H2 Q
variable {o e : Expr} {es : List Expr} {to : TE} {t : TA} {name : Str} {apos cpos : Pos} {T id : String} {r : V → List V → Hp → VK → Prop}
theorem zlS (pa : PlainAttrs T) (slot : Slot T name id) (hty : typeOf (.builtin id) = pure (.type "method_descriptor")) (hm : MtR X id r) (ho : PE X o to) (ha : PA X (e :: es) t)
  (hbase : attributeBase o name X.env (eval o X.env) = eval o X.env := by rfl)
  (hfew : ((backTo cpos (starEach (e :: es) X.env)).all (fun x => !x.1) && (backToKw cpos (keywordEach [] X.env)).all (fun x => x.1.isSome)
   && decide ((e :: es).length + ([] : List Keyword).length + (if ([] : List Keyword).isEmpty then 0 else 1) < 30)) = true := by rfl)
  (hline : (apos.endLine == cpos.line) = true := by rfl) (hs : starEach (e :: es) X.env = (false, eval e X.env) :: starEach es X.env := by rfl) (hplain : (backTo cpos (starEach es X.env)).any (·.1) = false := by rfl) :
  PE X (.Call (.Attribute o name apos) (e :: es) [] cpos) (tBM X.K T r to t) := by
 intro pins s σ H Q I h
 refine wpAny_Call_method_late hbase hfew hline rfl (thn (ho pins s σ H _ I h) fun v s1 ⟨x, H1, I1, r1, ty, q1⟩ => ?_)
 obtain ⟨h1, h2⟩ := zlR I1 r1 ty
 refine ⟨T, id, pa, slot, hty, h1, h2, ?_⟩
 have hA := ha cpos pins s1 σ H1 _ I1 q1
 rw [hs] at hA ⊢
 refine Calls.callWith_builtin (by show (false || (backTo cpos (starEach es X.env)).any (·.1)) = false; rw [hplain] <;> rfl) (Calls.evalArgs_plain ?_)
 exact thn hA fun us s2 ⟨vs, H2, I2, r2, q2⟩ => hm pins s2 σ H2 x vs v us Q I2 r1 r2 q2
end
end L2
namespace L2
open PySem PySem.Spec PyProof.Rows
def MtM (X : Cx) (id : String) (r : V → List V → Hp → VK → Prop) : Prop :=
 ∀ (pins : List (Addr × Obj)) (s : Shared) (σ : St) (H : Hp) (x : V) (xs : List V) (v : Value) (us : List Value) (Q : VK), Inv X pins σ H s → RelV x v → za1 xs us → r x xs H Q →
  wpAny (model X.prog X.w) X.A (call (.builtin id) (v :: us)) (EP X pins σ Q) X.xe s
theorem za1.one : ∀ {x : V} {us : List Value}, za1 [x] us → ∃ u, us = [u] ∧ RelV x u
 | _, _, .cons r .nil => ⟨_, rfl, r⟩
section
variable {X : Cx} {pins : List (Addr × Obj)} {σ : St} {H : Hp} {s : Shared} {l b : Addr} {xs ys zs : List V}
theorem Inv.lset {its its' : List Value} {n : Nat} {f : Array Value → Array Value} {t' : Nat} (I : Inv X pins σ H s) (hH : H l = some (.lst xs))
  (e : s.heap.get? l = some { cls := .type "list", data := .seq its.toArray n }) (hf : f its.toArray = its'.toArray) (hv : za1 ys its') (hz : ys.length ≤ sizeLine) :
  Inv X pins σ (upd H l (.lst ys)) { s with heap := s.heap.update l (Obj.mapSeq f), toks := t' } := by
 have q := PySem.IsL.update e f
 rw [hf] at q
 refine I.write (x := l) (e := l) (by rw [hH]; exact trivial) (.inl rfl) (fun b' u hb hu => (Heap.get?_update_other s.heap (Obj.mapSeq f) (Ne.symm hb)).trans hu) ⟨_, q⟩ ?_
 exact ⟨hz, its', _, hv, q⟩
theorem Inv.lnew {its : List Value} {t' : Nat} (I : Inv X pins σ H s) (hv : za1 ys its) (hz : ys.length ≤ sizeLine) :
  Inv X pins σ (upd H s.heap.objs.size (.lst ys)) { s with heap := s.heap.push { cls := .type "list", data := .seq its.toArray }, toks := t' } :=
 I.laid (fun _ _ q => Heap.get?_push_of_some _ q) (Nat.le_refl _) ⟨hz, its, 0, hv, Heap.get?_push_size _ rfl⟩
theorem Inv.fresh (I : Inv X pins σ H s) : H s.heap.objs.size = none := I.hok.fresh (Nat.le_refl _)
theorem Inv.zf6 (I : Inv X pins σ H s) (hH : H l = some (.lst xs)) : xs.length ≤ sizeLine ∧ ∃ (its : List Value) (n : Nat), za1 xs its ∧ xs.length = its.length ∧ s.heap.get? l = some { cls := .type "list", data := .seq its.toArray n } := by
 obtain ⟨z, its, n, r, e⟩ := I.hok l _ hH
 exact ⟨z, its, n, r, r.length, e⟩
theorem ziH {n : Nat} (h : n ≤ sizeLine) : Builtin.List.listTooLong n = false := by
 unfold Builtin.List.listTooLong
 exact decide_eq_false (by omega)
end
section
variable {X : Cx}
def zem : V → List V → Hp → VK → Prop := fun x vs H Q => ∃ l xs y, x = .ref l ∧ vs = [y] ∧ H l = some (.lst xs) ∧ xs.length < sizeLine ∧ Q .non (upd H l (.lst (xs ++ [y])))
theorem zdC : MtM X "list.append" zem := by
 intro pins s σ H x vs v us Q I rx rv h
 obtain ⟨l, xs, y, rfl, rfl, hH, hz, q⟩ := h
 cases rx
 obtain ⟨u, rfl, ru⟩ := rv.one
 obtain ⟨z, its, n, r, hl, e⟩ := I.zf6 hH
 refine call_meets F.slot_list_append ⟨_, e, rfl⟩ F.entry_list_append (F.args_list_append_2 _ _) (PySem.list_append l its.toArray n u (by rw [List.size_toArray]; omega)) ⟨e, ?_⟩
 refine ⟨.non, _, I.lset (its' := its ++ [u]) hH e (by simp) (r.append (.cons ru .nil)) ?_, rfl, q⟩
 rw [List.length_append, List.length_singleton]
 omega
def zkg : V → List V → Hp → VK → Prop := fun x vs H Q => ∃ l b xs zs, x = .ref l ∧ vs = [.ref b] ∧ H l = some (.lst xs) ∧ H b = some (.lst zs) ∧ xs.length + zs.length ≤ sizeLine ∧ Q .non (upd H l (.lst (xs ++ zs)))
theorem zlT : MtM X "list.extend" zkg := by
 intro pins s σ H x vs v us Q I rx rv h
 obtain ⟨l, b, xs, zs, rfl, rfl, hH, hB, hz, q⟩ := h
 cases rx
 obtain ⟨u, rfl, ru⟩ := rv.one
 cases ru
 obtain ⟨z, its, n, r, hl, e⟩ := I.zf6 hH
 obtain ⟨z2, its2, n2, r2, hl2, e2⟩ := I.zf6 hB
 have hsz : its.toArray.size + its2.toArray.size ≤ sizeLine := by rw [List.size_toArray, List.size_toArray]; omega
 have hlong : ¬ (!its.toArray.isEmpty && Builtin.List.listTooLong (its.toArray.size + its2.toArray.size)) = true := by
  rw [ziH hsz, Bool.and_false]
  exact Bool.false_ne_true
 refine call_meets F.slot_list_extend ⟨_, e, rfl⟩ F.entry_list_extend (F.args_list_extend_2 _ _)
  (AutoSeq1.list_extend_list_list_0 l its.toArray n b its2.toArray n2 hlong (by rw [List.size_toArray]; omega) (by omega)) ⟨e, e2, ?_⟩
 refine ⟨.non, _, I.lset (its' := its ++ its2) hH e (by simp) (r.append r2) ?_, rfl, q⟩
 rw [List.length_append]
 omega
def rCat : R2 := fun x y H Q => ∃ l b xs zs, x = .ref l ∧ y = .ref b ∧ H l = some (.lst xs) ∧ H b = some (.lst zs) ∧ xs.length + zs.length ≤ sizeLine ∧ ∀ p, H p = none → Q (.ref p) (upd H p (.lst (xs ++ zs)))
theorem zlU : OpR X (binaryOp .Add) rCat := by
 intro pins s σ H x y v u Q I rx ry h
 obtain ⟨l, b, xs, zs, rfl, rfl, hH, hB, hz, q⟩ := h
 cases rx
 cases ry
 obtain ⟨z, its, n, r, hl, e⟩ := I.zf6 hH
 obtain ⟨z2, its2, n2, r2, hl2, e2⟩ := I.zf6 hB
 refine PySem.P.add_list e e2 ?_ (by rw [List.size_toArray, List.size_toArray]; omega)
 have ea : its.toArray ++ its2.toArray = (its ++ its2).toArray := by simp
 rw [ea]
 exact ⟨.ref _, _, I.lnew (t' := s.toks) (r.append r2) (by rw [List.length_append]; omega), rfl, q _ I.fresh⟩
end
end L2
namespace L2
open PySem PySem.Spec PyProof.Rows
section
variable {κ : Type} [DecidableEq κ]
def zeC (kvs : List (κ × V)) (k : κ) : Option V := (kvs.find? fun kv => decide (kv.1 = k)).map (·.2)
def putK (kvs : List (κ × V)) (k : κ) (v : V) : List (κ × V) :=
 if (kvs.any fun kv => decide (kv.1 = k)) = true then kvs.map (fun kv => if kv.1 = k then (kv.1, v) else kv) else kvs ++ [(k, v)]
theorem zcH {p : κ × V} {r : List (κ × V)} {k : κ} (e : p.1 = k) : zeC (p :: r) k = some p.2 := by simp [zeC, List.find?_cons, e]
theorem zcI {p : κ × V} {r : List (κ × V)} {k : κ} (e : ¬ p.1 = k) : zeC (p :: r) k = zeC r k := by simp [zeC, List.find?_cons, e]
theorem zf7 (k : κ) : ∀ kvs : List (κ × V), (kvs.any fun kv => decide (kv.1 = k)) = (zeC kvs k).isSome
 | [] => rfl
 | p :: r => by
  rw [List.any_cons]
  by_cases e : p.1 = k
  ·simp only [zcH e, decide_eq_true e, Bool.true_or, Option.isSome_some]
  ·rw [zcI e, decide_eq_false e, Bool.false_or]; exact zf7 k r
theorem zdD (kvs : List (κ × V)) (k : κ) (v : V) : (putK kvs k v).length ≤ kvs.length + 1 := by
 unfold putK
 split
 ·rw [List.length_map]; omega
 ·rw [List.length_append, List.length_cons, List.length_nil]; omega
theorem zin.zcb {o : Option V} {u : Option Value} (r : zin o u) : o.isSome = u.isSome := by
 cases o with
 | none => cases u with
  | none => rfl
  | some _ => exact (show False from r).elim
 | some _ => cases u with
  | none => exact (show False from r).elim
  | some _ => rfl
theorem KV.val {kvs : List (κ × V)} {vs : List (κ × Value)} (r : KV kvs vs) (k : κ) : zin (zeC kvs k) (valueAt vs k) := by
 unfold KV at r
 induction r with
 | nil => exact True.intro
 | @cons p q ps qs h t ih =>
  obtain ⟨h1, h2⟩ := h
  by_cases e : p.1 = k
  ·have e' : q.1 = k := h1.symm.trans e
   have b : valueAt (q :: qs) k = some q.2 := by simp [valueAt, List.find?_cons, e']
   rw [zcH e, b]; exact h2
  ·have e' : ¬ q.1 = k := fun z => e (h1.trans z)
   have b : valueAt (q :: qs) k = valueAt qs k := by simp [valueAt, List.find?_cons, e']
   rw [zcI e, b]; exact ih
theorem KV.any {kvs : List (κ × V)} {vs : List (κ × Value)} (r : KV kvs vs) (k : κ) : (kvs.any fun kv => decide (kv.1 = k)) = vs.any fun kv => decide (kv.1 = k) := by
 unfold KV at r
 induction r with
 | nil => rfl
 | cons h t ih => rw [List.any_cons, List.any_cons, ih, h.1]
theorem KV.repl {kvs : List (κ × V)} {vs : List (κ × Value)} (r : KV kvs vs) (k : κ) {y : V} {u : Value} (ry : RelV y u) :
  KV (kvs.map fun kv => if kv.1 = k then (kv.1, y) else kv) (vs.map fun kv => if kv.1 = k then (kv.1, u) else kv) := by
 unfold KV at r ⊢
 induction r with
 | nil => exact .nil
 | @cons p q ps qs h t ih =>
  rw [List.map_cons, List.map_cons]
  refine .cons ?_ ih
  obtain ⟨h1, h2⟩ := h
  by_cases e : p.1 = k
  ·rw [if_pos e, if_pos (h1.symm.trans e)]; exact ⟨h1, ry⟩
  ·rw [if_neg e, if_neg (fun z => e (h1.trans z))]; exact ⟨h1, h2⟩
theorem KV.put {kvs : List (κ × V)} {vs : List (κ × Value)} (r : KV kvs vs) (k : κ) {y : V} {u : Value} (ry : RelV y u) : KV (putK kvs k y) (stored vs k u) := by
 unfold putK stored
 rw [r.any k]
 by_cases e : (vs.any fun kv => decide (kv.1 = k)) = true
 ·rw [if_pos e, if_pos e]; exact r.repl k ry
 ·rw [if_neg e, if_neg e]; exact Paired.snoc r ⟨rfl, ry⟩
theorem KV.length {kvs : List (κ × V)} {vs : List (κ × Value)} (r : KV kvs vs) : kvs.length = vs.length := Paired.length r
end
theorem zhu {P : Program} {w : World} {k : Key} {u : Value} (r : RelV (kV k) u) : (zbf P w).is k u = true := by
 cases k with
 | inl i => obtain ⟨t, e⟩ := (show ∃ t, u = Value.int i t from r); subst e; exact zft P w i t
 | inr x => obtain ⟨t, e⟩ := (show ∃ t, u = Value.str x t from r); subst e; exact zfu P w x t
theorem zeT {P : Program} {w : World} : ∀ {ks : List Key} {us : List Value}, za1 (ks.map kV) us → ItemsAre (zbf P w) ks us
 | [], _, r => by rw [List.map_nil] at r; cases r; exact .nil
 | k :: ks, _, r => by
  rw [List.map_cons] at r
  cases r with
  | cons h t => exact .cons (zhu h) (zeT t)
abbrev KT (H : Hp) : List (List Key × V) → List (List Key × Addr × Value) → Prop := Paired fun p q => p.1 = q.1 ∧ H q.2.1 = some (.tup (p.1.map kV)) ∧ RelV p.2 q.2.2
theorem KT.val {H : Hp} {kvs : List (List Key × V)} {xs : List (List Key × Addr × Value)} (r : KT H kvs xs) (k : List Key) : zin (zeC kvs k) ((atKey xs k).map (·.2)) := by
 induction r with
 | nil => exact True.intro
 | @cons p q ps qs h t ih =>
  obtain ⟨h1, _, h2⟩ := h
  by_cases e : p.1 = k
  ·have e' : q.1 = k := h1.symm.trans e
   have b : atKey (q :: qs) k = some q.2 := by simp [atKey, List.find?_cons, e']
   rw [zcH e, b]; exact h2
  ·have e' : ¬ q.1 = k := fun z => e (h1.trans z)
   have b : atKey (q :: qs) k = atKey qs k := by simp [atKey, List.find?_cons, e']
   rw [zcI e, b]; exact ih
theorem KT.repl {H : Hp} {kvs : List (List Key × V)} {xs : List (List Key × Addr × Value)} (r : KT H kvs xs) (k : List Key) {y : V} {u : Value} (ry : RelV y u) :
  KT H (kvs.map fun kv => if kv.1 = k then (kv.1, y) else kv) (xs.map (putAt k u)) := by
 induction r with
 | nil => exact .nil
 | @cons p q ps qs h t ih =>
  rw [List.map_cons, List.map_cons]
  refine .cons ?_ ih
  obtain ⟨h1, h2, h3⟩ := h
  unfold putAt
  by_cases e : p.1 = k
  ·rw [if_pos e, if_pos (h1.symm.trans e)]; exact ⟨h1, h2, ry⟩
  ·rw [if_neg e, if_neg (fun z => e (h1.trans z))]; exact ⟨h1, h2, h3⟩
theorem KT.put {H : Hp} {kvs : List (List Key × V)} {xs : List (List Key × Addr × Value)} (r : KT H kvs xs) (k : List Key) {b : Addr} {y : V} {u : Value} (hb : H b = some (.tup (k.map kV))) (ry : RelV y u) :
  KT H (putK kvs k y) (storedH xs k b u) := by
 have e : (kvs.any fun kv => decide (kv.1 = k)) = (atKey xs k).isSome := by
  rw [zf7, (r.val k).zcb, Option.isSome_map]
 unfold putK storedH
 rw [e]
 by_cases q : (atKey xs k).isSome = true
 ·rw [if_pos q, if_pos q]; exact r.repl k ry
 ·rw [if_neg q, if_neg q]; exact Paired.snoc r ⟨rfl, hb, ry⟩
theorem KT.keeps {H H' : Hp} {kvs : List (List Key × V)} {xs : List (List Key × Addr × Value)} (r : KT H kvs xs) (ht : ∀ b ys, H b = some (.tup ys) → H' b = some (.tup ys)) : KT H' kvs xs :=
 Paired.mapP r fun _ _ z => ⟨z.1, ht _ _ z.2.1, z.2.2⟩
section
variable {P : Program} {w : World} {H : Hp} {h : Heap} {a : Addr}
theorem zlV {u : HO} (ok : HOk P w H h) (e : Rd H a u) : zbN P w H h a u := e.ok ok
theorem zgL {kvs : List (Key × V)} (ok : HOk P w H h) (e : Rd H a (.dK kvs)) : kvs.length ≤ sizeLine ∧ (a == sysModules) = false ∧ ∃ vs, KV kvs vs ∧ h.DictOf (zbf P w) a vs :=
 show zbN P w H h a (.dK kvs) from zlV ok e
theorem zlW {kvs : List (Key × V)} (ok : HOk P w H h) (e : H a = some (.dK kvs)) : kvs.length ≤ sizeLine ∧ (a == sysModules) = false ∧ ∃ vs, KV kvs vs ∧ h.DictOf (zbf P w) a vs := zgL ok (.inl e)
theorem zeU {ks : List Key} (ok : HOk P w H h) (e : H a = some (.tup (ks.map kV))) : (tupleKind (zbf P w)).is h ks a := by
 obtain ⟨_, its, r, o, h1, h2, n, h3⟩ := (show zbN P w H h a (.tup (ks.map kV)) from ok a _ e)
 exact ⟨o, its.toArray, n, h1, h2, h3, by simpa using zeT r⟩
theorem zhv {kvs : List (List Key × V)} (ok : HOk P w H h) (e : Rd H a (.dT kvs)) : kvs.length ≤ sizeLine ∧ (a == sysModules) = false ∧
  ∃ xs, KT H kvs xs ∧ h.DictOfH (tupleKind (zbf P w)) a xs := by
 obtain ⟨z, y, xs, r, o, es, ep, h1, h2, h3, h4, h5⟩ := (show zbN P w H h a (.dT kvs) from zlV ok e)
 refine ⟨z, y, xs, r, o, es, ep, h1, h2, h3, h4, fun x hx => ?_, h5⟩
 have all : ∀ {l : List (List Key × V)} {m : List (List Key × Addr × Value)}, KT H l m → ∀ x ∈ m, (tupleKind (zbf P w)).is h x.1 x.2.1 := by
  intro l m q
  induction q with
  | nil => intro x hx; exact nomatch hx
  | @cons p q ps qs hq t ih =>
   intro x hx
   rcases lK hx with e | hx
   ·subst e
    exact zeU ok (by rw [← hq.1]; exact hq.2.1)
   ·exact ih x hx
 exact all r x hx
theorem dt_of {kvs : List (List Key × V)} (ok : HOk P w H h) (e : H a = some (.dT kvs)) : kvs.length ≤ sizeLine ∧ (a == sysModules) = false ∧
  ∃ xs, KT H kvs xs ∧ h.DictOfH (tupleKind (zbf P w)) a xs := zhv ok (.inl e)
end
def zf8 (H : Hp) (a : Addr) (y : V) (r : Option V) : Prop :=
 (∃ kvs k, Rd H a (.dK kvs) ∧ y = kV k ∧ r = zeC kvs k) ∨ ∃ kvs k b, Rd H a (.dT kvs) ∧ y = .ref b ∧ H b = some (.tup (k.map kV)) ∧ r = zeC kvs k
def zlX (H : Hp) (a : Addr) (y v : V) (H' : Hp) : Prop :=
 (∃ kvs k, H a = some (.dK kvs) ∧ y = kV k ∧ kvs.length < sizeLine ∧ H' = upd H a (.dK (putK kvs k v))) ∨
 ∃ kvs k b, H a = some (.dT kvs) ∧ y = .ref b ∧ H b = some (.tup (k.map kV)) ∧ kvs.length < sizeLine ∧ H' = upd H a (.dT (putK kvs k v))
theorem zf8.k {H : Hp} {a : Addr} {kvs : List (Key × V)} {k : Key} (e : H a = some (.dK kvs)) : zf8 H a (kV k) (zeC kvs k) := .inl ⟨kvs, k, .inl e, rfl, rfl⟩
theorem zlX.k {H : Hp} {a : Addr} {kvs : List (Key × V)} {k : Key} {v : V} (e : H a = some (.dK kvs)) (hl : kvs.length < sizeLine) : zlX H a (kV k) v (upd H a (.dK (putK kvs k v))) := .inl ⟨kvs, k, e, rfl, hl, rfl⟩
section
variable {X : Cx} {pins : List (Addr × Obj)} {σ : St} {H : Hp} {s : Shared} {a : Addr} {y v : V} {u r : Value} {o : Option V} {A : Around} {E : Value → Shared → Prop}
theorem Inv.big (I : Inv X pins σ H s) : sysModules < s.heap.objs.size := by
 have h : mainGlobals < s.heap.objs.size := (I.mod.glob.keeps I.bk).lt
 exact Nat.lt_trans (by decide) h
theorem zhw {Q : Value → Shared → Prop} (hu : A.units + 1 < cLine) (I : Inv X pins σ H s) (g : zf8 H a y (some v)) (ry : RelV y u) (h : ∀ w' s', Inv X pins σ H s' → RelV v w' → Q w' s') :
  wpAny (model X.prog X.w) A (getItem (.ref a) u) Q E s := by
 rcases g with ⟨kvs, k, e, ey, l⟩ | ⟨kvs, k, b, e, ey, eb, l⟩
 ·subst ey
  obtain ⟨z, hd, vs, rel, dd⟩ := zgL I.hok e
  obtain ⟨w', hw, rw'⟩ := zin.zhn (v := v) (o := valueAt vs k) (by rw [l]; exact rel.val k)
  exact wpAny_getItem_of (zhu ry) dd.mapOf hw (h w' _ (I.tok _) rw')
 ·subst ey
  cases (show u = Value.ref b from ry)
  obtain ⟨z, hd, xs, rel, dd⟩ := zhv I.hok e
  obtain ⟨w', hw, rw'⟩ := zin.zhn (v := v) (o := (atKey xs k).map (·.2)) (by rw [l]; exact rel.val k)
  obtain ⟨p, hp, hp2⟩ := Option.map_eq_some_iff.mp hw
  refine wpAny_getItem_heap (tupleKind_room_in1 hu) (zeU I.hok eb) dd hp ?_
  rw [hp2]
  exact h w' _ (I.tok _) rw'
theorem d_in {Q : Value → Shared → Prop} (hu : A.units + 1 < cLine) (I : Inv X pins σ H s) (g : zf8 H a y o) (ry : RelV y u) (h : ∀ s', Inv X pins σ H s' → Q (.bool o.isSome) s') :
  wpAny (model X.prog X.w) A (compareOp .In u (.ref a)) Q E s := by
 rcases g with ⟨kvs, k, e, ey, l⟩ | ⟨kvs, k, b, e, ey, eb, l⟩
 ·subst ey
  obtain ⟨z, hd, vs, rel, dd⟩ := zgL I.hok e
  refine wpAny_in_of (zhu ry) hd dd.mapOf ?_
  rw [← (rel.val k).zcb, ← l]
  exact h _ (I.tok _)
 ·subst ey
  cases (show u = Value.ref b from ry)
  obtain ⟨z, hd, xs, rel, dd⟩ := zhv I.hok e
  refine wpAny_in_heap (tupleKind_room_in1 hu) (zeU I.hok eb) hd dd ?_
  have q := (rel.val k).zcb
  rw [Option.isSome_map] at q
  rw [← q, ← l]
  exact h _ (I.tok _)
theorem zkh {Q : Value → Shared → Prop} (hu : A.units + 1 < cLine) (I : Inv X pins σ H s) (g : zf8 H a y o) (ry : RelV y u) (h : ∀ s', Inv X pins σ H s' → Q (.bool (!o.isSome)) s') :
  wpAny (model X.prog X.w) A (compareOp .NotIn u (.ref a)) Q E s := by
 rcases g with ⟨kvs, k, e, ey, l⟩ | ⟨kvs, k, b, e, ey, eb, l⟩
 ·subst ey
  obtain ⟨z, hd, vs, rel, dd⟩ := zgL I.hok e
  refine wpAny_notIn_of (zhu ry) hd dd.mapOf ?_
  rw [← (rel.val k).zcb, ← l]
  exact h _ (I.tok _)
 ·subst ey
  cases (show u = Value.ref b from ry)
  obtain ⟨z, hd, xs, rel, dd⟩ := zhv I.hok e
  refine wpAny_notIn_heap (tupleKind_room_in1 hu) (zeU I.hok eb) hd dd ?_
  have q := (rel.val k).zcb
  rw [Option.isSome_map] at q
  rw [← q, ← l]
  exact h _ (I.tok _)
theorem zhx {h' : Heap} {t' : Nat} {ob : HO} (I : Inv X pins σ H s) (mu : Mut (H a)) (hs : Heap.SameBut a s.heap h') (he : ∃ q, h'.get? a = some q) (new : zbN X.prog X.w (upd H a ob) h' a ob) :
  Inv X pins σ (upd H a ob) { s with heap := h', toks := t' } :=
 I.write (x := a) (e := a) mu (.inl rfl) (fun b q hb z => (hs.2 b hb).trans z) he new
theorem zlY {P : Program} {w : World} {H' : Hp} {h' : Heap} {kvs : List (Key × V)} {vs : List (Key × Value)} (z : kvs.length ≤ sizeLine) (hd : (a == sysModules) = false) (rel : KV kvs vs) (dd : h'.DictOf (zbf P w) a vs) :
  zbN P w H' h' a (.dK kvs) := ⟨z, hd, vs, rel, dd⟩
theorem zhy {H' : Hp} {Q : Unit → Shared → Prop} (hu : A.units + 1 < cLine) (I : Inv X pins σ H s) (g : zlX H a y v H') (ry : RelV y u) (rv : RelV v r) (h : ∀ s', Inv X pins σ H' s' → Q () s') :
  wpAny (model X.prog X.w) A (setItem (.ref a) u r) Q E s := by
 rcases g with ⟨kvs, k, e, ey, l, eH⟩ | ⟨kvs, k, b, e, ey, eb, l, eH⟩
 ·subst ey eH
  obtain ⟨z, hd, vs, rel, dd⟩ := zlW I.hok e
  have hz : vs.length ≤ sizeLine := by rw [← rel.length]; exact z
  have hl : (putK kvs k v).length ≤ sizeLine := by have := zdD kvs k v; omega
  refine wpAny_setItem_pairs (hsz := hz) (zhu ry) dd fun h' dd' hs => h _ ?_
  have he : ∃ q, h'.get? a = some q := let ⟨q, _, _, hq, _⟩ := dd'; ⟨q, hq⟩
  exact zhx I (by rw [e]; exact True.intro) hs he (zlY hl hd (rel.put k rv) dd')
 ·subst ey eH
  cases (show u = Value.ref b from ry)
  obtain ⟨z, hd, xs, rel, dd⟩ := dt_of I.hok e
  have hz : xs.length ≤ sizeLine := by rw [← Paired.length rel]; exact z
  have hl : (putK kvs k v).length ≤ sizeLine := by have := zdD kvs k v; omega
  refine wpAny_setItem_heap (hsz := hz) (tupleKind_room_in1 hu) (zeU I.hok eb) dd fun h' dd' hs => h _ ?_
  obtain ⟨q, es, ep, hq, h2, h3, h4, _, h5⟩ := dd'
  refine zhx I (by rw [e]; exact True.intro) hs ⟨q, hq⟩ ⟨hl, hd, _, (rel.put k eb rv).keeps fun c ys ec => ?_, q, es, ep, hq, h2, h3, h4, h5⟩
  rw [zaB (zjU ec e (fun z => nomatch z))]
  exact ec
end
section
variable {X : Cx} {pins : List (Addr × Obj)} {σ : St} {H : Hp} {s : Shared} {a : Addr} {kvs : List (Key × V)} {k : Key} {u : Value} {A : Around} {E : Value → Shared → Prop}
theorem d_len {Q : Value → Shared → Prop} (I : Inv X pins σ H s) (e : Rd H a (.dK kvs)) (h : ∀ t s', Inv X pins σ H s' → Q (.int kvs.length t) s') : wpAny (model X.prog X.w) A (call (.builtin "len") [.ref a]) Q E s := by
 obtain ⟨z, hd, vs, rel, dd⟩ := zgL I.hok e
 refine call_len_dict hd dd (by rw [← rel.length]; rw [sizeLine_eq] at z; omega) ?_
 rw [← rel.length]
 exact h _ _ (I.tok _)
end
def NoSl (i : Expr) : Prop := ∀ ov iv, subscripted i false ov iv = operate [ov, iv] (getItem ov iv)
theorem zki {prog : Program} {w : World} {A : Around} {E : Value → Shared → Prop} {s : Shared} {env : Env} {value slice : Expr} {pos : Pos} {T id : String} {Q : Value → Shared → Prop}
  (hl : typeLookup (.type T) "__getitem__" = pure (some (.builtin id))) (hs : NoSl slice)
  (h : wpAny (model prog w) A (eval value env) (fun o s₁ => wpAny (model prog w) A (eval slice env) (fun i s₂ => s₂.TypeIs o T ∧ wpAny (model prog w) A (getItem o i) Q E s₂) E s₁) E s) :
  wpAny (model prog w) A (eval (.Subscript value slice pos) env) Q E s := by
 refine Subscript_ (wpAny_mono h (fun o s₁ h₁ => wpAny_mono h₁ (fun i s₂ h₂ => ?_) fun _ _ x => x) fun _ _ x => x)
 obtain ⟨hT, h₂⟩ := h₂
 unfold subscriptTail
 refine wpAny_bind ?_
 rw [getitemInPython_of_ne hT.not_modules]
 refine wpAny_bind (wpAny_specialOf hT hl ?_)
 have fin : wpAny (model prog w) A (subscripted slice false o i) (fun r s₃ => wpAny (model prog w) A (letTemporaryGo value o r >>= fun _ => pure r) Q E s₃) E s₂ := by
  rw [hs o i]
  exact wpAny_operating (wpAny_mono h₂ (fun r s₃ h₃ => wpAny_bind (wpAny_letTemporaryGo (wpAny_pure h₃))) fun _ _ x => x)
 first
  | exact wpAny_pure (wpAny_bind fin)
  | exact wpAny_bind (wpAny_pure (wpAny_bind fin))
  | exact wpAny_bind fin
theorem zfB {X : Cx} {pins : List (Addr × Obj)} {σ : St} {H : Hp} {s : Shared} {a : Addr} {y : V} {o : Option V} (I : Inv X pins σ H s) (g : zf8 H a y o) : s.TypeIs (.ref a) "dict" := by
 rcases g with ⟨kvs, k, e, _, _⟩ | ⟨kvs, k, b, e, _, _, _⟩
 ·obtain ⟨_, _, vs, _, dd⟩ := zgL I.hok e
  exact dd.typeIs
 ·obtain ⟨_, _, xs, _, dd⟩ := zhv I.hok e
  exact dd.typeIs
def zlZ (td ty : TE) : TE := fun σ H Q => td σ H fun x H1 => ty σ H1 fun y H2 => ∃ a v, x = .ref a ∧ zf8 H2 a y (some v) ∧ Q v H2
def tDIn (ty td : TE) : TE := fun σ H Q => ty σ H fun y H1 => td σ H1 fun x H2 => ∃ a o, x = .ref a ∧ zf8 H2 a y o ∧ Q (.bl o.isSome) H2
def zkj (ty td : TE) : TE := fun σ H Q => ty σ H fun y H1 => td σ H1 fun x H2 => ∃ a o, x = .ref a ∧ zf8 H2 a y o ∧ Q (.bl (!o.isSome)) H2
def zkk (td ty tv : TE) : TS := fun D σ H => tv σ H fun v H1 => td σ H1 fun x H2 => ty σ H2 fun y H3 => ∃ a H4, x = .ref a ∧ zlX H3 a y v H4 ∧ D.nx σ H4
section
variable {X : Cx} {o i e value : Expr} {pos pos' tpos : Pos} {td ty tv : TE}
theorem zkl (hu : X.A.units + 1 < cLine) (ho : PE X o td) (hi : PE X i ty) (hs : NoSl i) : PE X (.Subscript o i pos) (zlZ td ty) := by
 intro pins s σ H Q I h
 refine zki PySem.F.slot_dict_getitem.lookup hs (thn (ho pins s σ H _ I h) fun u s1 ⟨x, H1, I1, rx, q1⟩ => thn (hi pins s1 σ H1 _ I1 q1) fun iv s2 ⟨y, H2, I2, ry, a, v, ex, g, q2⟩ => ?_)
 subst ex
 obtain rfl : u = Value.ref a := rx
 exact ⟨zfB I2 g, zhw hu I2 g ry fun w' s3 I3 rw' => ⟨v, H2, I3, rw', q2⟩⟩
theorem zl0 (hu : X.A.units + 1 < cLine) (hi : PE X i ty) (ho : PE X o td) : PC X .In i o (tDIn ty td) := by
 intro pins s σ H Q I h
 refine thn (hi pins s σ H _ I h) fun iv s1 ⟨y, H1, I1, ry, q1⟩ => thn (ho pins s1 σ H1 _ I1 q1) fun u s2 ⟨x, H2, I2, rx, a, ov, ex, g, q2⟩ => ?_
 subst ex
 obtain rfl : u = Value.ref a := rx
 exact d_in hu I2 g ry fun s3 I3 => ⟨.bl ov.isSome, H2, I3, rfl, q2⟩
theorem zhz (hu : X.A.units + 1 < cLine) (hi : PE X i ty) (ho : PE X o td) : PC X .NotIn i o (zkj ty td) := by
 intro pins s σ H Q I h
 refine thn (hi pins s σ H _ I h) fun iv s1 ⟨y, H1, I1, ry, q1⟩ => thn (ho pins s1 σ H1 _ I1 q1) fun u s2 ⟨x, H2, I2, rx, a, ov, ex, g, q2⟩ => ?_
 subst ex
 obtain rfl : u = Value.ref a := rx
 exact zkh hu I2 g ry fun s3 I3 => ⟨.bl (!ov.isSome), H2, I3, rfl, q2⟩
theorem zkm (hu : X.A.units + 1 < cLine) (ho : PE X o td) (hi : PE X i ty) (hv : PE X value tv) (hs : swapsWith value (some (.Subscript o i pos')) pos.line X.env = pure false) :
  PS X (.Assign [.Subscript o i pos'] value pos) (zkk td ty tv) := by
 intro pins s σ H D I h
 refine wpAny_Assign_Subscript (thn (hv pins s σ H _ I h) fun r s1 ⟨v, H1, I1, rv, q1⟩ => thn (ho pins s1 σ H1 _ I1 q1) fun u s2 ⟨x, H2, I2, rx, q2⟩ => thn (hi pins s2 σ H2 _ I2 q2) fun iv s3 ⟨y, H3, I3, ry, a, H4, ex, g, q3⟩ => ?_) hs
 subst ex
 obtain rfl : u = Value.ref a := rx
 exact zhy hu I3 g ry rv fun s4 I4 => ⟨σ, H4, I4, q3⟩
end
theorem ziI {P : Program} {w : World} {H : Hp} (h : Heap) (hb : sysModules < h.objs.size) : zbN P w H (h.push { cls := .type "dict", data := .dict #[] }) h.objs.size (.dK []) :=
 ⟨Nat.zero_le _, beq_eq_false_iff_ne.mpr (Ne.symm (Nat.ne_of_lt hb)), [], .nil, Heap.DictOf.new h⟩
def zl1 : TE := fun _ H Q => ∀ p, H p = none → Q (.ref p) (upd H p (.dK []))
section
variable {X : Cx} {pos : Pos}
theorem ziJ : PE X (.Dict [] [] pos) zl1 := fun pins s σ H Q I h =>
 wpAny_Dict_empty ⟨.ref s.heap.objs.size, _, I.laid (a := s.heap.objs.size) (o := .dK []) (t' := s.toks) (fun _ _ q => Heap.get?_push_of_some _ q) (Nat.le_refl _) (ziI s.heap I.big), rfl, h _ (I.hok.fresh (Nat.le_refl _))⟩
end
end L2
namespace Att
open PySem PySem.W PySem.Calls PyProof.Rows
theorem zdE {P : Params} {h : Heap} : ∀ (ns : List Int) (vs : List Value), WellAll P h vs (ns.map WData.int) → IntsAre vs ns := by
 intro ns
 induction ns with
 | nil =>
  intro vs w
  rw [List.map_nil] at w
  cases w
  exact .nil
 | cons n ns ih =>
  intro vs w
  rw [List.map_cons] at w
  cases w with
  | cons a b =>
   cases a
   exact .cons _ _ (ih _ b)
theorem zhA {l : OpenLaw} {n : Nat} (hn : l.most = some n) {P : Params} {h : Heap} {args : List WData} {vals : List Value}
  (hpre : l.row.toRowW.claim.pre args = true) (hwl : WellAll P h vals args) :
  ∃ a vs ns, vals = [Value.ref a] ∧ args = [WData.list (ns.map WData.int)] ∧ h.get? a = some { cls := .type "list", data := .seq vs.toArray } ∧ IntsAre vs ns ∧ ns.length ≤ n := by
 have hsh : WShape.hasAll [] args [.list .int] = true := (pre_splitW hpre).1
 have hc : l.pre.holds [] { args := args } = true := (pre_splitW hpre).2
 obtain ⟨d, r, rfl, h1, h2⟩ := hasAllW_cons hsh
 obtain rfl := hasAllW_nil h2
 obtain ⟨xs, rfl, h3⟩ := hasW_list h1
 obtain ⟨ns, rfl⟩ := items_int h3
 have hlen : ns.length ≤ n := by
  unfold OpenLaw.pre at hc
  have h4 : (WTm.not (.lt (.lit (.int (n : Int))) (.len (.arg 0)))).holds [] { args := [.list (ns.map .int)] } = true := by
   have h4 := (holds_andW hc).1
   rw [hn] at h4
   exact h4
  have h5 := condW_of h4 (w_not (w_lt w_lit (w_len_list (w_arg rfl))))
  rw [List.length_map] at h5
  refine Nat.le_of_not_lt fun q => ?_
  have q' : (n : Int) < ((ns.length : Nat) : Int) := by omega
  first
   | (rw [decide_eq_true q'] at h5; exact absurd h5 (by decide))
   | (simp at h5; omega)
 cases hwl with
 | cons w1 w2 =>
  cases w2
  cases w1 with
  | list ho hall => exact ⟨_, _, ns, rfl, rfl, ho, zdE ns _ hall, hlen⟩
theorem zhB (l : OpenLaw) (args : List WData) : l.row.toRowW.claim.post args (.bool true) args = true :=
 postW_of (r := l.row.toRowW) (X := (true == true))
  (show WShape.has [] (.bool true) .bool = true by first | rfl | decide | simp [WShape.has, WShape.arms, WShape.armsAll])
  (show (WTm.eq .res (.lit (.bool true))).value [] { args := args, res := some (.bool true), after := args } = some (.bool (true == true)) from w_eq_bool (w_res rfl) w_lit) rfl
theorem zfC {l : OpenLaw} {n : Nat} {q : Program} {loose : List Str} {XP : (Str → Option Value) → Heap → Prop} {YP : World → Heap → Prop} {d : DefRec}
  (hn : l.most = some n) (hdf : d.params.defaults = [])
  (call : ∀ (w : World) (s₀ s₁ : Shared) (mg mb : Str → Option Value) (fa : Addr) (o : Obj) (pm cd doc : Value) (a : Addr) (vs : List Value) (ns : List Int),
   Ground q loose [] XP w s₀ mg mb s₁.heap → YP w s₁.heap →
   s₁.heap.get? fa = some o → o.data = .func (docDef d.name d.params d.body d.scope pm cd doc) → s₁.heap.CodeRec cd d.name → mg d.name = some (.ref fa) →
   s₁.heap.get? a = some { cls := .type "list", data := .seq vs.toArray } → IntsAre vs ns → ns.length ≤ n → s₁.gens = #[] →
   codeAny (model l.prog w) callerA (.call (.ref fa) ⟨[.ref a], []⟩) (fun r s' => r = .ok (.ret (.bool true)) ∧ OldK s₁.heap s'.heap ∧ s'.os = s₁.os ∧ AllBare s'.gens) s₁) :
  WalkO q loose XP YP l.row.toRowW d [] (fun f vs => PySem.call f vs) := by
 intro w s₀ s₁ mg mb G Y fa o pm cd doc dV kV ho hd hcd hD hmg hg args vals as hpre hlay hrd hwl hlo
 obtain rfl : dV = .none := Dflts.none hD hdf
 obtain rfl : kV = .none := Dflts.noKw hD
 obtain ⟨a, vs, ns, rfl, rfl, hobj, hints, hlen⟩ := zhA hn hpre hwl
 refine enter_call (codeAny_mono (call w s₀ s₁ mg mb fa o pm cd doc a vs ns G Y ho (fd_plain hd) hcd hmg hobj hints hlen hg) fun r s' hq => ?_)
 obtain ⟨rfl, h2, h3, h4⟩ := hq
 exact ⟨.inl ⟨.bool true, .bool true, [], rfl, fun _ => rfl, .bool true, zhB l _, fun _ => ⟨List.Pairwise.nil, fun _ hm => (nomatch hm)⟩⟩, h2, h3, h4⟩
end Att
namespace L2
open PySem PySem.Spec PyProof.Rows
theorem zeV : ∀ {vs : List Value} {ns : List Int}, IntsAre vs ns → za1 (ns.map V.int) vs
 | _, _, .nil => .nil
 | _, _, .cons n t h => .cons ⟨t, rfl⟩ (zeV h)
def Only (H : Hp) : Prop := ∀ b, H b = none ∨ ∃ o xs, H b = some (.frz o (.lst xs))
theorem ziK {P : Program} {w : World} {K : PySem.W.Frag} {mg mb : Str → Option Value} {CX : CXT} {k : Nat} {fa a : Addr} {fd : FuncData} {x : Str} {sp : Sp} {s₁ : Shared} {vs : List Value} {ns : List Int}
  (KX : K.In s₁.heap) (hns : s₁.heap.Ns mainGlobals mg) (hb : s₁.heap.Ns builtinsNs mb) (hbb : ∀ x : Str, x ≠ "__name__" → mb x = bootBuiltins x) (hlim : s₁.heap.NoLimit) (hg : s₁.gens = #[])
  (ha : s₁.heap.get? a = some { cls := .type "list", data := .seq vs.toArray }) (hi : IntsAre vs ns) (hl : ns.length ≤ sizeLine) (hr : zdR k callerA)
  (F : ∀ base : Heap, K.In base → base.Ns mainGlobals mg → zb8 P w K mg base CX k fa fd [x] sp) (hbind : ∀ (s : Shared) (u : Value), BindsTo s fd ⟨[u], []⟩ [(x, u)])
  (hsp : ∀ H : Hp, Only H → SqL K H a (ns.map V.int) → sp [.ref a] H (fun v _ => v = .bl true) fun _ _ _ => False)
  (hCX : ∀ H e s', CX [] H s₁ (fun _ _ _ => False) e s' → False) :
  codeAny (model P w) callerA (.call (.ref fa) ⟨[.ref a], []⟩) (fun r s' => r = .ok (.ret (.bool true)) ∧ OldK s₁.heap s'.heap ∧ s'.os = s₁.os ∧ AllBare s'.gens) s₁ := by
 have rv := zeV hi
 have lenV := hi.length
 have core : ∀ H : Hp, Only H → SqL K H a (ns.map V.int) → HOk P w H s₁.heap → (∀ b, H b ≠ none → b = a) → (H a ≠ none → K.lookup a = none) →
   codeAny (model P w) callerA (.call (.ref fa) ⟨[.ref a], []⟩) (fun r s' => r = .ok (.ret (.bool true)) ∧ OldK s₁.heap s'.heap ∧ s'.os = s₁.os ∧ AllBare s'.gens) s₁ := by
  intro H hO hS hok hA hK
  have base_of : ∀ {b : Addr} {o : Obj}, s₁.heap.get? b = some o → H b = none → (zit s₁.heap H).get? b = some o := fun e n => ziu e n
  have noA : ∀ {b : Addr} {o : Obj} {es : Array DictEntry} {ep : Nat}, s₁.heap.get? b = some o → o.data = .dict es ep → H b = none := fun {b o es ep} e d => by
   cases q : H b with
   | none => rfl
   | some u =>
    have e' : b = a := hA b (by rw [q]; simp)
    subst e'
    rw [ha] at e; cases e
    have d' : Data.seq vs.toArray _ = Data.dict es ep := d
    cases d'
  have nsK : ∀ {b : Addr} {m : Str → Option Value}, s₁.heap.Ns b m → (zit s₁.heap H).Ns b m := fun {b m} ⟨o, es, ep, e, d, r⟩ => ⟨o, es, ep, base_of e (noA e d), d, r⟩
  have hKb : K.In (zit s₁.heap H) := fun b o e => base_of (KX b o e) (by
   cases q : H b with
   | none => rfl
   | some u =>
    have e' : b = a := hA b (by rw [q]; simp)
    subst e'
    rw [hK (by rw [q]; simp)] at e; cases e)
  have hM : Mod K mg (zit s₁.heap H) := ⟨hKb, nsK hns, ⟨mb, nsK hb, hbb⟩, let ⟨mc, h1, h2⟩ := hlim; ⟨mc, nsK h1, h2⟩⟩
  have e0 : Env0 P w K mg (zit s₁.heap H) callerA [] s₁ H := ⟨rfl, hM, fun b o e => zjV e, Nat.le_of_eq (zhb _ _), trivial, fun b hb => absurd (show b ∈ ([] : List Addr) from hb) (by simp), hok, .of_eq hg⟩
  refine codeAny_mono ((F _ hKb (nsK hns)).run callerA [] s₁ H ⟨[.ref a], []⟩ [.ref a] [.ref a] _ _ hr e0 (hbind s₁ (.ref a)) (.cons rfl .nil) (hsp H hO hS)) fun r s' h => ?_
  cases r with
  | error e => exact (hCX H e s' h).elim
  | ok fl =>
   cases fl with
   | next => exact False.elim h
   | brk => exact False.elim h
   | cont => exact False.elim h
   | ret u =>
    obtain ⟨v, H', os, bare, un, hok', r', q⟩ := h
    have q' : v = .bl true := q
    subst q'
    obtain rfl : u = Value.bool true := r'
    refine ⟨rfl, OldK.of_keep fun b o e => ?_, os, bare⟩
    cases q : H b with
    | none => exact un.keep b o e q (by intro z; exact absurd (show b ∈ ([] : List Addr) from z) (by simp)) (by simp)
    | some u =>
     rcases hO b with z | ⟨ob, xs, z⟩
     ·rw [q] at z; cases z
     ·have z2 := un.zdp b ob _ z
      obtain ⟨e1, _⟩ := hok b _ z
      obtain ⟨e2, _⟩ := hok' b _ z2
      rw [e] at e1; cases e1
      exact e2
 cases hk : K.lookup a with
 | some o =>
  have e := KX a o hk
  rw [ha] at e
  cases e
  refine core (fun _ => none) (fun _ => .inl rfl) (.inr ⟨_, vs.toArray, _, hk, rfl, rfl, rfl, by rw [List.size_toArray, lenV]; exact hl, by simpa using rv⟩) (fun b u z => by have z' : (none : Option HO) = some u := z; cases z') (fun b z => absurd rfl z) fun z => absurd rfl z
 | none =>
  refine core (fun b => if b = a then some (.frz { cls := .type "list", data := .seq vs.toArray } (.lst (ns.map V.int))) else none) (fun b => ?_) (.inl (.inr ⟨{ cls := .type "list", data := .seq vs.toArray }, if_pos rfl⟩)) (fun b u z => ?_) (fun b z => ?_) fun _ => hk
  ·by_cases hb : b = a
   ·exact .inr ⟨_, _, if_pos hb⟩
   ·exact .inl (if_neg hb)
  ·by_cases hb : b = a
   ·have z' := (if_pos hb).symm.trans z
    cases z'
    subst hb
    exact ⟨ha, by rw [List.length_map]; exact hl, vs, _, rv, ha⟩
   ·have z' := (if_neg hb).symm.trans z
    cases z'
  ·by_cases hb : b = a
   ·exact hb
   ·exact absurd (if_neg hb) z
end L2
namespace L2
open PySem PySem.Spec PyProof.Rows
theorem zkn {l : PySem.W.OpenLaw} {n k : Nat} {q : Program} {loose : List Str} {XP : (Str → Option Value) → Heap → Prop} {YP : World → Heap → Prop} {d : DefRec} {K : Params → PySem.W.Frag} {CX : World → CXT} {sp : World → Sp} {x : Str}
  (hn : l.most = some n) (hn2 : n ≤ sizeLine) (hdf : d.params.defaults = []) (hr : zdR k callerA)
  (hY : ∀ (w : World) (h : Heap), YP w h → (K w.params).In h)
  (F : ∀ (w : World) (mg : Str → Option Value) (fa : Addr) (h : Heap), (K w.params).In h → h.Ns mainGlobals mg → mg d.name = some (.ref fa) →
   ∃ fd : FuncData, (∀ (s : Shared) (u : Value), BindsTo s fd ⟨[u], []⟩ [(x, u)]) ∧
    ∀ base : Heap, (K w.params).In base → base.Ns mainGlobals mg → zb8 l.prog w (K w.params) mg base (CX w) k fa fd [x] (sp w))
  (hsp : ∀ (w : World) (H : Hp) (a : Addr) (ns : List Int), ns.length ≤ n → Only H → SqL (K w.params) H a (ns.map V.int) → sp w [.ref a] H (fun v _ => v = .bl true) fun _ _ _ => False)
  (hCX : ∀ (w : World) (H : Hp) (s : Shared) (e : Value) (s' : Shared), CX w [] H s (fun _ _ _ => False) e s' → False) :
  PySem.W.WalkO q loose XP YP l.row.toRowW d [] (fun f vs => PySem.call f vs) := by
 refine Att.zfC hn hdf fun w s₀ s₁ mg mb fa o pm cd doc a vs ns G Y ho hd hcd hmg hobj hints hlen hg => ?_
 have KX := hY w _ Y
 obtain ⟨fd, hb, hF⟩ := F w mg fa _ KX G.T.g hmg
 exact ziK KX G.T.g G.T.b G.T.builtins G.T.nolimit hg hobj hints (Nat.le_trans hlen hn2) hr hF hb (fun H hO hS => hsp w H a ns hlen hO hS) fun H e s' => hCX w H s₁ e s'
end L2
namespace L2
open PySem PySem.Spec PyProof.Rows
def zaD (s : Stmt) : Arguments := match s with
 | .FunctionDef _ a _ _ _ _ _ _ _ _ => a
 | _ => { posonlyargs := [], args := [], vararg := none, kwonlyargs := [], kw_defaults := [], kwarg := none, defaults := [] }
def zau (s : Stmt) : List Stmt := match s with
 | .FunctionDef _ _ b _ _ _ _ _ _ _ => b
 | _ => []
def zaf (s : Stmt) : Scope := match s with
 | .FunctionDef _ _ _ _ _ _ sc _ _ _ => sc
 | _ => { kind := .function, names := [], isGenerator := false, isCoroutine := false }
abbrev CX0 : CXT := fun _ _ _ _ _ _ => False
abbrev E0 : XK := fun _ _ _ => False
theorem pass0 {X : Cx} : Passes CX0 X E0 := fun _ _ _ _ _ _ _ h => h.elim
structure Fun (K : PySem.W.Frag) (x qual : Str) (st : Stmt) (f : Addr) (fd : FuncData) : Prop where
 ex : ∃ (oc : Value) (od : Option Addr) (kV doc pm : Value) (an : Option Addr) (cdv ct : Value) (osl : Array (Option Value)),
  fd = PySem.W.fnOf x qual (zaD st) (zau st) (zaf st) .none kV doc pm an cdv ct ∧ K.lookup f = some ⟨oc, od, .func fd, osl⟩ ∧ PySem.W.codeIn K cdv qual = true
 kp : PySem.W.keepIn K (.ref f) = true
section
variable {P : Program} {w : World} {K : PySem.W.Frag} {mg : Str → Option Value} {base : Heap}
theorem Fun.ok {x qual : Str} {st : Stmt} {f : Addr} {fd : FuncData} {N ps : List Str} {k : Nat} {sp : Sp} (F : Fun K x qual st f fd) (S : zaC N ps (zaf st)) (len : ∀ vs H Q E, sp vs H Q E → vs.length = ps.length)
  (hbody : ∀ (cdv : Value) (A : Around) (outer : List Env) (s : Shared) (H : Hp) (vs : List V) (Q : VK) (E : XK), zdR k (A.deeper (envOfC qual (zaf st) s.heap.objs.size f cdv)) → sp vs H Q E →
   ∃ t, PSs (zjq CX0 P w K mg base N qual (zaf st) f cdv A outer s H E).nox (zau st) t ∧ t { nx := fun _ H' => Q .non H', rt := Q } (start N vs) H) : zb8 P w K mg base CX0 (k + 1) f fd ps sp := by
 obtain ⟨oc, od, kV, doc, pm, an, cdv, ct, osl, rfl, lk, hcd⟩ := F.ex
 refine fn_of lk hcd S len fun A outer s H vs Q E hr hsp => ?_
 obtain ⟨t, h, q⟩ := hbody cdv A outer s H vs Q E hr hsp
 exact ⟨t, h.nox, q⟩
theorem Fun.binds {x qual : Str} {st : Stmt} {f : Addr} {fd : FuncData} {ps : List Str} (F : Fun K x qual st f fd)
  (h : ∀ (kV doc pm : Value) (an : Option Addr) (cdv ct : Value) (us : List Value), us.length = ps.length → bindArgs (PySem.W.fnOf x qual (zaD st) (zau st) (zaf st) .none kV doc pm an cdv ct) ⟨us, []⟩ = pure (ps.zip us)) : Binds K fd ps [] := by
 obtain ⟨oc, od, kV, doc, pm, an, cdv, ct, osl, rfl, lk, hcd⟩ := F.ex
 exact .all (h kV doc pm an cdv ct)
theorem zbn {x qual : Str} {st : Stmt} {f : Addr} {oc : Value} {od an : Option Addr} {osl : Array (Option Value)} {kV doc pm cdv ct : Value} (l : K.lookup f = some ⟨oc, od, .func (PySem.W.fnOf x qual (zaD st) (zau st) (zaf st) .none kV doc pm an cdv ct), osl⟩)
  (c : PySem.W.codeIn K cdv qual = true) (k : PySem.W.keepIn K (.ref f) = true) : Fun K x qual st f (PySem.W.fnOf x qual (zaD st) (zau st) (zaf st) .none kV doc pm an cdv ct) := ⟨⟨oc, od, kV, doc, pm, an, cdv, ct, osl, rfl, l, c⟩, k⟩
end
section
variable {X : Cx}
theorem pv (i : Nat) {x : Str} {pos : Pos} (hN : X.N[i]? = some x := by rfl) (hv : Vis X.env.scope x := by first | exact Or.inl rfl | exact Or.inr (Or.inl rfl) | exact Or.inr (Or.inr rfl)) (hd : (x == ("__debug__" : Str)) = false := by decide)
  (hcd : (x == ("__classdict__" : Str)) = false := by decide) : PE X (.Name x pos) (zfp i) := zjl hN hv hd hcd
theorem zeW : za3 X (.builtin "len") (fun xs H Q => ∃ a kvs, xs = [V.ref a] ∧ H a = some (.dK kvs) ∧ Q (.int kvs.length) H) := by
 intro pins s σ H xs us Q I r h
 obtain ⟨a, kvs, rfl, ha, q⟩ := h
 obtain ⟨u, rfl, ru⟩ := vals1 r
 cases ru
 exact d_len I (.inl ha) fun t s' I' => ⟨.int kvs.length, H, I', ⟨t, rfl⟩, q⟩
end
theorem zl2 {A B : Prop} (h : B) : if false = true then A else B := by
 rw [if_neg Bool.false_ne_true]
 exact h
theorem zl3 {A B : Prop} (h : A) : if true = true then A else B := by
 rw [if_pos rfl]
 exact h
def zdU (H H' : Hp) : Prop := ∀ b o, H b = some o → H' b = some o
theorem zdU.refl (H : Hp) : zdU H H := fun _ _ h => h
theorem zdU.free {H H' : Hp} (e : zdU H H') {l : Addr} (h : H' l = Option.none) : H l = Option.none := by
 cases q : H l with
 | none => rfl
 | some o =>
  rw [e l o q] at h
  cases h

end L2
end
section
namespace L2
open PySem PySem.Spec PyProof.Rows
def zaR (cells : List (Str × Addr)) : List (Str × NameKind) → List (Str × Addr) → List (Str × Addr)
 | [], cs => cs
 | (n, k) :: r, cs => if (k == NameKind.free) = true then (match cells.lookup n with | some a => zaR cells r ((n, a) :: cs) | none => zaR cells r cs) else zaR cells r cs
theorem zfD {env : Env} : ∀ (names : List (Str × NameKind)) (cs : List (Str × Addr)), (∀ x ∈ names, x.2 = .free → ∃ a, env.cells.lookup x.1 = some a) →
  (forIn names cs fun (x : Str × NameKind) (r : List (Str × Addr)) => (if (x.2 == NameKind.free) = true then (do let a ← cellOf env x.1; pure (ForInStep.yield ((x.1, a) :: r))) else pure (ForInStep.yield r) : Sem (ForInStep (List (Str × Addr))))) = (pure (zaR env.cells names cs) : Sem (List (Str × Addr)))
 | [], cs, _ => rfl
 | (n, k) :: r, cs, h => by
  rw [List.forIn_cons]
  by_cases hk : (k == NameKind.free) = true
  ·obtain ⟨a, ha⟩ := h (n, k) lS (by simpa using hk)
   have ha : env.cells.lookup n = some a := ha
   have hcell : cellOf env n = pure a := by unfold cellOf; rw [ha]
   simp only [hk, if_true]
   rw [hcell]
   show (forIn r ((n, a) :: cs) _ : Sem _) = _
   rw [zfD r _ fun x hx => h x (lO _ hx)]
   simp only [zaR, hk, if_true, ha]
  ·simp only [hk, if_false]
   show (forIn r cs _ : Sem _) = _
   rw [zfD r _ fun x hx => h x (lO _ hx)]
   simp only [zaR, hk, if_false]
   rfl
theorem zb5 {scope : Scope} {env : Env} (h : ∀ x ∈ scope.names, x.2 = .free → ∃ a, env.cells.lookup x.1 = some a) : closureFor scope env = pure (zaR env.cells scope.names []) := by
 have e := zfD (env := env) scope.names [] h
 unfold closureFor
 simp only [bind_pure_comp] at e ⊢
 first
  | (rw [← e]; rfl)
  | (simpa using e)
theorem zcl {cells : List (Str × Addr)} {y : Str} {c : Addr} : ∀ (names : List (Str × NameKind)) (cs : List (Str × Addr)), (∀ y c, cs.lookup y = some c → cells.lookup y = some c) → (zaR cells names cs).lookup y = some c → cells.lookup y = some c
 | [], cs, h, e => h y c e
 | (n, k) :: r, cs, h, e => by
  unfold zaR at e
  by_cases hk : (k == NameKind.free) = true
  ·rw [if_pos hk] at e
   cases ha : cells.lookup n with
   | none =>
    rw [ha] at e
    exact zcl r cs h e
   | some a =>
    rw [ha] at e
    refine zcl r _ (fun y c q => ?_) e
    rw [List.lookup_cons] at q
    by_cases hy : (y == n) = true
    ·rw [hy] at q
     cases q
     have : y = n := by simpa using hy
     rw [this]; exact ha
    ·have hy' : (y == n) = false := by simpa using hy
     rw [hy'] at q
     exact h y c q
  ·rw [if_neg hk] at e
   exact zcl r cs h e
theorem zcm {cells : List (Str × Addr)} {y : Str} : ∀ (names : List (Str × NameKind)) (cs : List (Str × Addr)), (cs.lookup y).isSome = true → ((zaR cells names cs).lookup y).isSome = true
 | [], cs, h => h
 | (n, k) :: r, cs, h => by
  unfold zaR
  by_cases hk : (k == NameKind.free) = true
  ·rw [if_pos hk]
   cases ha : cells.lookup n with
   | none => exact zcm r cs h
   | some a =>
    refine zcm r _ ?_
    rw [List.lookup_cons]
    by_cases hy : (y == n) = true
    ·rw [hy]; rfl
    ·have hy' : (y == n) = false := by simpa using hy
     rw [hy']; exact h
  ·rw [if_neg hk]
   exact zcm r cs h
theorem zcJ {cells : List (Str × Addr)} {y : Str} : ∀ (names : List (Str × NameKind)) (cs : List (Str × Addr)), (y, NameKind.free) ∈ names → (cells.lookup y).isSome = true → ((zaR cells names cs).lookup y).isSome = true
 | [], cs, h, _ => by simp at h
 | (n, k) :: r, cs, h, hy => by
  unfold zaR
  rcases lK h with e | h'
  ·cases e
   rw [if_pos (by rfl)]
   cases ha : cells.lookup y with
   | none => rw [ha] at hy; cases hy
   | some a =>
    refine zcm r _ ?_
    rw [List.lookup_cons, show (y == y) = true by simp]
    rfl
  ·by_cases hk : (k == NameKind.free) = true
   ·rw [if_pos hk]
    cases ha : cells.lookup n with
    | none => exact zcJ r cs h' hy
    | some a => exact zcJ r _ h' hy
   ·rw [if_neg hk]
    exact zcJ r cs h' hy
theorem zdc {scope : Scope} {env : Env} {x : Str} {k : NameKind} (hc : ∀ y ∈ scope.names, y.2 ≠ .cell) : (relabel scope env).names.lookup x = some k → (k = .cell ∨ k = .free) → scope.names.lookup x = some .free := by
 unfold relabel
 dsimp only
 generalize hn : scope.names = names at hc ⊢
 clear hn
 induction names with
 | nil => intro h; simp at h
 | cons p r ih =>
  obtain ⟨n, k0⟩ := p
  intro h hk
  rw [List.map_cons, List.lookup_cons] at h
  rw [List.lookup_cons]
  have hc' : ∀ y ∈ r, y.2 ≠ .cell := fun y hy => hc y (lO _ hy)
  by_cases hx : (x == n) = true
  ·rw [hx]
   have hk0 := hc (n, k0) lS
   have hk0 : k0 ≠ .cell := hk0
   by_cases hq : (k0 == NameKind.free && env.scope.kind == .function && env.kindOf n == some .cell) = true
   ·have : (k0 == NameKind.free) = true := by
     rw [Bool.and_eq_true, Bool.and_eq_true] at hq
     exact hq.1.1
    have : k0 = .free := by simpa using this
    rw [this]
   ·rw [if_neg hq] at h
    dsimp only at h
    rw [hx] at h
    injection h with h
    subst h
    rcases hk with z | z
    ·exact absurd z hk0
    ·rw [z]
  ·have hx' : (x == n) = false := by simpa using hx
   rw [hx']
   refine ih hc' ?_ hk
   by_cases hq : (k0 == NameKind.free && env.scope.kind == .function && env.kindOf n == some .cell) = true
   ·rw [if_pos hq] at h
    dsimp only at h
    rw [hx'] at h
    exact h
   ·rw [if_neg hq] at h
    dsimp only at h
    rw [hx'] at h
    exact h
theorem zeX {scope : Scope} {env : Env} {x : Str} : scope.names.lookup x = some .free → (relabel scope env).names.lookup x = some .cell ∨ (relabel scope env).names.lookup x = some .free := by
 unfold relabel
 dsimp only
 generalize hn : scope.names = names
 clear hn
 induction names with
 | nil => intro h; simp at h
 | cons p r ih =>
  obtain ⟨n, k0⟩ := p
  intro h
  rw [List.lookup_cons] at h
  rw [List.map_cons, List.lookup_cons]
  by_cases hx : (x == n) = true
  ·rw [hx] at h
   injection h with h
   subst h
   by_cases hq : (NameKind.free == NameKind.free && env.scope.kind == .function && env.kindOf n == some .cell) = true
   ·rw [if_pos hq]; dsimp only; rw [hx]; exact .inl rfl
   ·rw [if_neg hq]; dsimp only; rw [hx]; exact .inr rfl
  ·have hx' : (x == n) = false := by simpa using hx
   rw [hx'] at h
   by_cases hq : (k0 == NameKind.free && env.scope.kind == .function && env.kindOf n == some .cell) = true
   ·rw [if_pos hq]; dsimp only; rw [hx']; exact ih h
   ·rw [if_neg hq]; dsimp only; rw [hx']; exact ih h
end L2
end
section
namespace L2
open PySem PySem.Spec PyProof.Rows
def zaS (X : Cx) (scope : Scope) (cl : List (Str × Addr)) (N : List Str) (C : Addr) (fp : List Addr) (s : Shared) (H : Hp) : Cx :=
 { X with N := N, s₀ := s, H₀ := H, env := compEnvC scope cl C X.env, outer := X.stack, ex := fp, fn := fun _ => false, pn := [], xe := fun _ _ => False }
structure Bk where
 cl : List (Str × Addr)
 C : Addr
 fp : List Addr
 s : Shared
 H : Hp
def zjr (fr : List (Option Nat)) (σ : St) : St := fr.map fun o => match o with
 | some j => (match σ[j]? with | some v => v | none => none)
 | none => none
structure zaZ (X : Cx) (scope : Scope) (N : List Str) (fr : List (Option Nat)) : Prop where
 kind : scope.kind = .function
 nocell : ∀ y ∈ scope.names, y.2 ≠ .cell
 locs : ∀ y ∈ scope.names, y.2 = .local → scope.names.lookup y.1 = some .local
 free : ∀ y ∈ scope.names, y.2 = .free → X.env.kindOf y.1 = some .cell ∨ X.env.kindOf y.1 = some .free
 len : fr.length = N.length
 fr : ∀ (i j : Nat) (x : Str), N[i]? = some x → fr[i]? = some (some j) → X.N[j]? = some x ∧ scope.names.lookup x = some .free
 nd : N.Nodup
theorem zbU {x : Str} {k : NameKind} : ∀ {l : List (Str × NameKind)}, l.lookup x = some k → (x, k) ∈ l := fun h => PySem.mem_of_lookup h
section
variable {X : Cx} {pins : List (Addr × Obj)} {σ : St} {H : Hp} {s : Shared} {scope : Scope} {N : List Str} {fr : List (Option Nat)} {fp : List Addr}
theorem zaZ.cells (S : zaZ X scope N fr) (I : Inv X pins σ H s) : ∀ x ∈ scope.names, x.2 = .free → ∃ a, X.env.cells.lookup x.1 = some a := fun x hx e => I.ok.has x.1 (S.free x hx e)
theorem zf9 {h1 : Heap} {m : Str → Option Value} {ob : Obj} {tk : Nat} (I : Inv X pins σ H s) (S : zaZ X scope N fr) (hf : ∀ b ∈ fp, zgC X pins H b) (hs : ∀ b ∈ fp, b < s.heap.objs.size)
  (hns : h1.Ns s.heap.objs.size m) (hsb : Heap.SameBut s.heap.objs.size (s.heap.push ob) h1) :
  Inv (zaS X scope (zaR X.env.cells scope.names []) N s.heap.objs.size fp s H) [] (zjr fr σ) H { s with heap := h1, toks := tk } := by
 have sub : ∀ y c, (zaR X.env.cells scope.names []).lookup y = some c → X.env.cells.lookup y = some c := fun y c e => zcl scope.names [] (fun _ _ z => by simp at z) e
 have old : ∀ b o, s.heap.get? b = some o → h1.get? b = some o := fun b o e => (hsb.2 b (Nat.ne_of_lt (Heap.lt_size e))).trans (Heap.get?_push_of_some _ e)
 have cle : ∀ x c, X.env.cells.lookup x = some c → c < s.heap.objs.size := fun x c e => by
  obtain ⟨v, z⟩ := I.cell x c e
  exact z.lt
 have bne : ∀ b ∈ fp, b ∉ X.ex → X.s₀.heap.objs.size ≤ b := fun b hb hx => by
  rcases (hf b hb).2.2.2.1 with z | z
  ·exact absurd z hx
  ·exact z
 have ok : (zaS X scope (zaR X.env.cells scope.names []) N s.heap.objs.size fp s H).Ok := by
  refine ⟨I.ok.mod, ?_, I.ok.glob, I.ok.blt, Nat.le_refl _, fun x y c h1 h2 => I.ok.inj x y c (sub x c h1) (sub y c h2), fun x hx => ?_, fun x c z => (by cases z), I.ok.hd, I.ok.frames, .inl rfl, fun b hb => ⟨?_, fun x c e => ?_⟩, fun b o e => I.bs b o e, ?_, fun b o e hb => ?_, fun b hb hs' => ?_, I.stack, I.zhd⟩
  ·exact S.kind
  ·have hx : (relabel scope X.env).names.lookup x = some .cell ∨ (relabel scope X.env).names.lookup x = some .free := hx
   have hfr : scope.names.lookup x = some .free := by
    rcases hx with z | z
    ·exact zdc S.nocell z (.inl rfl)
    ·exact zdc S.nocell z (.inr rfl)
   have hm := zbU hfr
   obtain ⟨a, ha⟩ := S.cells I _ hm rfl
   exact Option.isSome_iff_exists.mp (zcJ scope.names [] hm (by show (X.env.cells.lookup x).isSome = true; rw [show X.env.cells.lookup x = some a from ha]; rfl))
  ·exact Nat.ne_of_lt (hs b hb)
  ·exact (hf b hb).2.2.2.2.1 x c (sub x c e)
  ·exact Nat.le_trans I.ok.bsz I.sz
  ·have e : X.base.get? b = some o := e
   rcases (hf b hb).2.2.2.1 with z | z
   ·exact I.ok.noex b o e z
   ·exact absurd (Nat.lt_of_lt_of_le (Heap.lt_size e) (Nat.le_trans I.ok.bsz z)) (Nat.lt_irrefl _)
  ·rcases lK (I.zeE b hs') with z | z
   ·exact (hf b hb).2.1 z
   ·exact (hf b hb).2.2.1 z
 refine ⟨ok, rfl, I.bare, Un.kept old, ⟨m, hns, fun i x v h1' h2 h3 => ?_⟩, fun x c e => ?_, I.hok.fresh (Nat.le_refl _), fun x c e => I.freeC x c (sub x c e), fun p hp => absurd (show p ∈ ([] : List (Addr × Obj)) from hp) (by simp), I.hok.kept old, ?_⟩
 ·have h1' : N[i]? = some x := h1'
  have h2 : (zjr fr σ)[i]? = some (some v) := h2
  unfold zjr at h2
  rw [List.getElem?_map] at h2
  cases e : fr[i]? with
  | none => rw [e] at h2; cases h2
  | some o =>
   rw [e] at h2
   cases o with
   | none => cases h2
   | some j =>
    obtain ⟨hj, hx⟩ := S.fr i j x h1' e
    have h2 : some (match σ[j]? with | some v => v | none => none) = some (some v) := h2
    injection h2 with h2
    cases ej : σ[j]? with
    | none => rw [ej] at h2; cases h2
    | some w' =>
     rw [ej] at h2
     have h2 : w' = some v := h2
     subst h2
     have hk := S.free _ (zbU hx) rfl
     obtain ⟨m0, hn0, hl⟩ := I.loc
     have vis : Vis X.env.scope x := by
      rcases hk with z | z
      ·exact .inr (.inl z)
      ·exact .inr (.inr z)
     obtain ⟨u, r, l⟩ := hl j x v hj ej vis
     refine ⟨u, r, ?_⟩
     rcases l with ⟨k, _⟩ | ⟨_, c, ec, z⟩
     ·exfalso
      rcases hk with q | q
      ·have := k.symm.trans q; cases this
      ·have := k.symm.trans q; cases this
     ·have hm := zbU hx
      obtain ⟨c', ec'⟩ := Option.isSome_iff_exists.mp (zcJ (cells := X.env.cells) scope.names [] hm (by rw [ec]; rfl))
      have : c' = c := by
       have q := sub x c' ec'
       rw [ec] at q
       cases q
       rfl
      subst this
      refine .inr ⟨zeX hx, c', ec', ?_⟩
      obtain ⟨o, ho, hd⟩ := z
      exact ⟨o, old _ o ho, hd⟩
 ·obtain ⟨v, o, ho, hd⟩ := I.cell x c (sub x c e)
  exact ⟨v, o, old _ o ho, hd⟩
 ·show (zjr fr σ).length = N.length
  unfold zjr
  rw [List.length_map, S.len]
end
def zl4 (X : Cx) (ifs : List Expr) (t : TT) : Prop :=
 ∀ (pins : List (Addr × Obj)) (s : Shared) (σ : St) (H : Hp) (Q : Bool → Hp → Prop), Inv X pins σ H s → t σ H Q →
  wpAny (model X.prog X.w) X.A (forIn ifs true fun c r => if r = true then do let ok ← isTrue c X.env (eval c X.env); pure (ForInStep.yield ok) else pure (ForInStep.yield r)) (TP X pins σ Q) X.xe s
def tYes : TT := fun _ H Q => Q true H
theorem zl5 {X : Cx} : zl4 X [] tYes := fun _ _ _ H _ I h => wpAny_tests_nil ⟨H, I, h⟩
abbrev TM := St → Hp → (Hp → Prop) → Prop
def PEm (X : Cx) (em : Sem Unit) (t : TM) : Prop :=
 ∀ (pins : List (Addr × Obj)) (s : Shared) (σ : St) (H : Hp) (R : Hp → Prop), Inv X pins σ H s → t σ H R →
  wpAny (model X.prog X.w) X.A em (fun _ s' => ∃ H', Inv X pins σ H' s' ∧ R H') X.xe s
def ziL (g : TG) (tt : TT) (tem : TM) (J : It) (τ : St) (H : Hp) (Q : Hp → Prop) : Prop :=
 ∃ W : Nat → Nat → St → Hp → Prop, (∃ m, W 0 m τ H) ∧ ∀ i m τ H, W i m τ H →
  (J.stop i H ∧ Q H) ∨ (J.go i H ∧ ∃ N : St → Hp → Prop, (∀ τ' H', N τ' H' → ∃ m', m' < m ∧ W (i + 1) m' τ' H') ∧ ∀ x H', J.yld i H x H' → g x τ H' fun τ2 H2 => tt τ2 H2 fun b H3 =>
   if b = true then tem τ2 H3 (N τ2) else N τ2 H3)
def zjs (target iter : Expr) (ifs : List Expr) (em : Sem Unit) (it : Value) (env : Env) (nxt : Sem Fin) : Sem Fin := do
 standAt iter.pos
 match ← pyNext it with
 | none => pure (.done .next)
 | some v =>
  letOwnedTupleGo target it v
  assign target env v
  let mut ok := true
  for c in ifs do
   if ok then ok ← isTrue c env (eval c env)
  if ok then em
  nxt
section
variable {X : Cx} {e target iter : Expr} {ifs : List Expr} {g : TG} {tt : TT} {tem : TM} {acc : Value} {em : Sem Unit}
theorem zeY {it : Addr} {fp : List Addr} {tn : Nat → Heap → Prop} {J : It} {τ : St} {H : Hp} {s : Shared} {Q : Hp → Prop} {R : Result → Shared → Prop}
  (ht : compTurn e 0 (.ref it) acc X.env = zjs target iter ifs em (.ref it) X.env (again (.compLoop e 0 (.ref it) acc X.env)))
  (hd : ∀ (Q : Fin → Shared → Prop) (E : Value → Shared → Prop) (s : Shared), wpAny (model X.prog X.w) X.A ((compTurn e 0 (.ref it) acc X.env).onRaise (fun x => do noteFrame x X.env; theTreesLotGoes x)) Q E s →
   wpAny (model X.prog X.w) (X.A.under (.compLoop e 0 (.ref it) acc X.env)) ((model X.prog X.w).den (.compLoop e 0 (.ref it) acc X.env)) Q E s)
  (hq : (Code.compLoop e 0 (.ref it) acc X.env).quiet = true)
  (hc : X.calm = true) (hx : X.xe = fun _ _ => False) (hg : PG X target g) (hi : zl4 X ifs tt) (he : PEm X em tem) (T : Turn X.prog X.w X.K target J fp it tn)
  (I : Inv X [] τ H s) (st : tn 0 s.heap) (hf : ∀ b ∈ fp, zgC X [] H b) (h : ziL g tt tem J τ H Q) (hR : ∀ τ' H' s', Inv X [] τ' H' s' → Q H' → R (.ok .next) s') :
  codeAny (model X.prog X.w) X.A (.compLoop e 0 (.ref it) acc X.env) R s := by
 obtain ⟨W, ⟨m0, w0⟩, turn⟩ := h
 have stat : ∀ {H' : Hp}, (∀ b ∈ fp, H' b = none) → ∀ b ∈ fp, zgC X [] H' b := fun hn b hb => ⟨hn b hb, (hf b hb).2⟩
 have noX : ∀ {α : Type} {t : Sem α} {Q : α → Shared → Prop} {s' : Shared} {E : Value → Shared → Prop}, wpAny (model X.prog X.w) X.A t Q X.xe s' → wpAny (model X.prog X.w) X.A t Q E s' := fun {α t Q s' E} h' =>
  wpAny_mono h' (fun _ _ q => q) fun _ _ z => by rw [hx] at z; exact z.elim
 refine codeAny_loop hq (fun n s' => ∃ i τ' H', Inv X [] τ' H' s' ∧ tn i s'.heap ∧ (∀ b ∈ fp, H' b = none) ∧ W i n τ' H') ?_ m0 ⟨0, τ, H, I, st, fun b hb => (hf b hb).1, w0⟩
 rintro n s3 ⟨i, σ3, H3, I3, st3, fr3, w3⟩
 refine hd _ _ _ (wpAny_noted ?_)
 rw [ht]
 unfold zjs
 refine wpAny_bind (wpAny_standAt (wpAny_bind ?_))
 rcases turn i n σ3 H3 w3 with ⟨stop, qn⟩ | ⟨go, Nx, hNx, step⟩
 ·refine thn (T.done X rfl rfl rfl hc i [] s3 σ3 H3 _ I3 (stat fr3) st3 stop) fun r s4 ⟨hr, I4⟩ => ?_
  subst hr
  exact wpAny_pure (hR _ _ _ I4 qn)
 ·refine thn (T.item X rfl rfl rfl hc i [] s3 σ3 H3 _ I3 (stat fr3) st3 go) fun r s4 ⟨u, hr, h4⟩ => ?_
  subst hr
  refine wpAny_bind (thn h4 fun _ s5 ⟨x, H5, I5, r5, y5, st5, fr5⟩ => ?_)
  have I5' := I5.pinned (stat fr5) (T.obj _ _ st5)
  refine wpAny_bind (noX (thn (hg _ s5 σ3 H5 x u _ I5' r5 (step x H5 y5)) fun _ s6 ⟨σ6, H6, I6, q6⟩ => ?_))
  have again' : ∀ {σ7 : St} {H7 : Hp} {s7 : Shared}, Inv X ([] ++ zeI fp s5.heap) σ7 H7 s7 → (∃ m', m' < n ∧ W (i + 1) m' σ7 H7) → ∃ m, m < n ∧ ∃ i σ' H', Inv X [] σ' H' s7 ∧ tn i s7.heap ∧ (∀ b ∈ fp, H' b = none) ∧ W i m σ' H' := fun {σ7 H7 s7} I7 n7 => by
   obtain ⟨m', hm, w7⟩ := n7
   refine ⟨m', hm, i + 1, σ7, H7, I7.zdr, T.keep _ _ _ st5 fun b hb o e => (I7.pin (b, o) (lR _ (lR _ (zck hb e)))).1, fun b hb => ?_, w7⟩
   obtain ⟨o, e, d⟩ := T.obj _ _ st5 b hb
   exact (I7.pin (b, o) (lR _ (lR _ (zck hb e)))).2.1
  refine wpAny_bind (noX (thn (hi _ s6 σ6 H6 _ I6 q6) fun ok s7 ⟨H7, I7, q7⟩ => ?_))
  cases ok with
  | false => exact wpAny_pure ⟨rfl, again' I7 (hNx _ _ q7)⟩
  | true =>
   refine wpAny_bind (noX (thn (he _ s7 σ6 H7 _ I7 q7) fun _ s8 ⟨H8, I8, q8⟩ => ?_))
   exact wpAny_pure ⟨rfl, again' I8 (hNx _ _ q8)⟩
end
def eApp (D : Addr) (te : TE) : TM := fun σ H R => te σ H fun y H1 => ∃ xs, H1 D = some (.lst xs) ∧ xs.length < sizeLine ∧ R (upd H1 D (.lst (xs ++ [y])))
theorem zjt {X : Cx} {elt : Expr} {te : TE} {D : Addr} (h : PE X elt te) : PEm X (do let _ ← call (.builtin "list.append") [.ref D, ← eval elt X.env]) (eApp D te) := by
 intro pins s σ H R I hq
 refine wpAny_bind (thn (h pins s σ H _ I hq) fun u s1 ⟨y, H1, I1, r1, xs, hD, hz, q⟩ => ?_)
 refine wpAny_bind (thn (zdC pins s1 σ H1 (.ref D) [y] (.ref D) [u] (fun _ H' => R H') I1 rfl (.cons r1 .nil) ⟨D, xs, y, rfl, rfl, hD, hz, q⟩) fun _ s2 ⟨v, H2, I2, _, q2⟩ => ?_)
 exact wpAny_pure ⟨H2, I2, q2⟩
def tLC (fr : List (Option Nat)) (wi : TI) (g : Bk → TG) (tt : Bk → TT) (te : Bk → TE) : TE := fun σ H Q => wi σ H fun J H1 => ∀ D, H1 D = none → ∀ z, ziL (g z) (tt z) (eApp D (te z)) J (zjr fr σ) (upd H1 D (.lst [])) fun H' => Q (.ref D) H'
section
variable {X : Cx}
theorem zga {pins : List (Addr × Obj)} {σ τ : St} {H1 H3 H' : Hp} {s2 s3 s' : Shared} {fp : List Addr} {scope : Scope} {cl : List (Str × Addr)} {N : List Str} {h' : Heap}
  (I2 : Inv X pins σ H1 s2) (hf : ∀ b ∈ fp, zgC X pins H1 b) (u23 : Un (frs X.stack) [] H1 H3 s2.heap s3.heap) (ho : s3.os = s2.os) (hs : s2.heap.objs.size ≤ s3.heap.objs.size)
  (J : Inv (zaS X scope cl N s3.heap.objs.size fp s3 H3) [] τ H' s') (sb : Heap.SameBut s3.heap.objs.size s'.heap h') : Inv X pins σ H' { s' with heap := h' } := by
 have hC : H' s3.heap.objs.size = none := J.free
 have hbase : Un (frs X.stack) fp H3 H' s3.heap s'.heap := J.base
 have u3 : Un (frs X.stack) fp H1 H' s2.heap s'.heap := (u23.mono (fun _ z => z) (fun _ z => nomatch z)).trans hbase
 have ne : ∀ b o, s2.heap.get? b = some o → b ≠ s3.heap.objs.size := fun b o e => Nat.ne_of_lt (Nat.lt_of_lt_of_le (Heap.lt_size e) hs)
 have u : Un (frs X.stack) fp H1 H' s2.heap h' := ⟨fun b o e n h1 h2 => (sb.2 b (ne b o e)).trans (u3.keep b o e n h1 h2), fun b o e n h1 h2 => by
   obtain ⟨sl, q⟩ := u3.slot b o e n h1 h2
   exact ⟨sl, (sb.2 b (ne b o e)).trans q⟩, u3.free, fun b o e h2 => by
   obtain ⟨o', q⟩ := u3.there b o e h2
   exact ⟨o', (sb.2 b (ne b o e)).trans q⟩, u3.zca, u3.zdp, u3.tbls⟩
 have hok : HOk X.prog X.w H' h' := fun b ob e => by
  have q : zbN X.prog X.w H' s'.heap b ob := J.hok b ob e
  refine q.stay (fun c w' hc q => (sb.2 c ?_).trans q) (fun _ q => q) fun _ _ q => q
  intro z
  rw [z] at hc
  rcases hc with rfl | hc
  ·rw [hC] at e; cases e
  ·rw [hC] at hc; cases hc
 refine I2.call' (s' := { s' with heap := h' }) (H' := H') (ch := fp) (J.os.trans ho) u hok J.bare fun b hb => ?_
 obtain ⟨_, f1, _, f3, f4, f5⟩ := hf b hb
 exact ⟨f3, f1, f4, f5⟩
theorem zko {elt target iter : Expr} {ifs : List Expr} {scope : Scope} {pos : Pos} {N : List Str} {fr : List (Option Nat)} {wi : TI} {g : Bk → TG} {tt : Bk → TT} {te : Bk → TE} (hc : X.calm = true) (S : zaZ X scope N fr) (hi : PI X target iter wi)
  (hin : ∀ z : Bk, PG (zaS X scope z.cl N z.C z.fp z.s z.H) target (g z) ∧ zl4 (zaS X scope z.cl N z.C z.fp z.s z.H) ifs (tt z) ∧ PE (zaS X scope z.cl N z.C z.fp z.s z.H) elt (te z))
  (hs : ∀ x, foldedSetIterable iter X.env x = pure x := by intro _; rfl) : PE X (.ListComp elt [⟨target, iter, ifs, 0⟩] scope pos) (tLC fr wi g tt te) := by
 intro pins s σ H Q I h
 rw [eval_ListComp]
 refine wpAny_comprehension_free (g := ⟨target, iter, ifs, 0⟩) (gs := []) (use := none) rfl hs (zb5 (S.cells I)) S.kind S.locs ?_
 refine thn (hi pins s σ H _ I h) fun v s1 h1 => thn h1 fun itv s2 h2 => ?_
 obtain ⟨it, fp, tn, J, H2, e, I2, T, st2, f2, h2⟩ := h2
 subst e
 refine wpAny_newObj_type ?_
 have hD : H2 s2.heap.objs.size = none := I2.fresh
 have I3 := I2.lnew (t' := s2.toks) (ys := []) (its := []) .nil (Nat.zero_le _)
 have lt2 : ∀ b ∈ fp, b < s2.heap.objs.size := fun b hb => by
  obtain ⟨o, e, _⟩ := T.obj _ _ st2 b hb
  exact Heap.lt_size e
 have f3 : ∀ b ∈ fp, zgC X pins (upd H2 s2.heap.objs.size (.lst [])) b := fun b hb => ⟨by rw [zaB (Nat.ne_of_lt (lt2 b hb))]; exact (f2 b hb).1, (f2 b hb).2⟩
 generalize hs3 : ({ s2 with heap := s2.heap.push { cls := .type "list", data := .seq ([] : List Value).toArray } } : Shared) = s3
 have I3 : Inv X pins σ (upd H2 s2.heap.objs.size (.lst [])) s3 := by rw [← hs3]; exact I3
 have sz3 : s3.heap.objs.size = s2.heap.objs.size + 1 := by rw [← hs3]; exact Heap.size_push ..
 have u23 : Un (frs X.stack) [] H2 (upd H2 s2.heap.objs.size (.lst [])) s2.heap s3.heap := by
  rw [← hs3]
  exact Un.laid (fun b o e => Heap.get?_push_of_some _ e) (Nat.le_refl _) hD
 have ho : s3.os = s2.os := by rw [← hs3]
 have st3 : tn 0 s3.heap := T.keep _ _ _ st2 fun b _ o e => by rw [← hs3]; exact Heap.get?_push_of_some _ e
 refine wpAny_newFunctionEnv S.nocell (by intro y hy; simp at hy) (fun h4 hns hsb => ?_) S.kind
 have lt3 : ∀ b ∈ fp, b < s3.heap.objs.size := fun b hb => Nat.lt_of_lt_of_le (lt2 b hb) (by rw [sz3]; exact Nat.le_succ _)
 have I4 := zf9 (tk := s3.toks + ([] : List (Str × Value)).length) I3 S f3 lt3 hns hsb
 have old4 : ∀ b o, s3.heap.get? b = some o → h4.get? b = some o := fun b o e => (hsb.2 b (Nat.ne_of_lt (Heap.lt_size e))).trans (Heap.get?_push_of_some _ e)
 have st4 : tn 0 h4 := T.keep _ _ _ st3 fun b _ o e => old4 b o e
 have h2 := h2 _ hD ⟨zaR X.env.cells scope.names [], s3.heap.objs.size, fp, s3, upd H2 s2.heap.objs.size (.lst [])⟩
 obtain ⟨hg, hif, hel⟩ := hin ⟨zaR X.env.cells scope.names [], s3.heap.objs.size, fp, s3, upd H2 s2.heap.objs.size (.lst [])⟩
 have loop : codeAny (model X.prog X.w) X.A (.compLoop (.ListComp elt [⟨target, iter, ifs, 0⟩] scope pos) 0 (.ref it) (.ref s2.heap.objs.size) (compEnvC scope (zaR X.env.cells scope.names []) s3.heap.objs.size X.env))
   (compPost (model X.prog X.w) X.A X.xe none (EP X pins σ Q) (.ref s2.heap.objs.size) s3.heap.objs.size) { s3 with heap := h4, toks := s3.toks + ([] : List (Str × Value)).length } := by
  refine zeY (X := zaS X scope (zaR X.env.cells scope.names []) N s3.heap.objs.size fp s3 (upd H2 s2.heap.objs.size (.lst []))) (em := (do let _ ← call (.builtin "list.append") [.ref s2.heap.objs.size, ← eval elt (compEnvC scope (zaR X.env.cells scope.names []) s3.heap.objs.size X.env)]))
   (compTurn_list ..) (fun _ _ _ z => z) rfl hc rfl hg hif (zjt hel) T I4 st4 (fun b hb => ?_) h2 (fun τ' H' s' J' q => ?_)
  ·obtain ⟨f0, f1, fs, fe, fc, fp'⟩ := f3 b hb
   refine ⟨f0, Nat.ne_of_lt (lt3 b hb), fun z => ?_, .inl hb, fun x c e => fc x c (zcl scope.names [] (fun _ _ z => by simp at z) e), fun p hp => absurd (show p ∈ ([] : List (Addr × Obj)) from hp) (by simp)⟩
   rcases lK (I3.zeE b z) with z | z
   ·exact f1 z
   ·exact fs z
  ·obtain ⟨m, hn, _⟩ := J'.loc
   exact ⟨m, hn, fun h' sb => ⟨.ref s2.heap.objs.size, H', zga I2 f2 u23 ho (by rw [sz3]; exact Nat.le_succ _) J' sb, rfl, q⟩⟩
 exact codeAny_compStart_list loop (T.self X.A 0 _ _ _ st4 loop)
end
end L2
end
section
namespace L2
open PySem PySem.Spec PyProof.Rows
end L2
end
section
namespace L2
open PySem PySem.W PyProof.Rows
def zcc {α : Type} (lt : Nat → Nat → Bool) (N : Nat) : KasT α → (α → Prop) → Prop
 | .ret a, R => R a
 | .ask i j k, R => i < N ∧ j < N ∧ zcc lt N (k (lt i j)) R
theorem zbt {α β : Type} {lt : Nat → Nat → Bool} {N : Nat} {f : α → KasT β} {R : β → Prop} : ∀ (t : KasT α), zcc lt N t (fun a => zcc lt N (f a) R) → zcc lt N (t.bind f) R
 | .ret _, h => h
 | .ask i j k, ⟨h1, h2, h3⟩ => ⟨h1, h2, zbt (k (lt i j)) h3⟩
theorem zaz {α : Type} {lt : Nat → Nat → Bool} {N : Nat} {R R' : α → Prop} (hr : ∀ a, R a → R' a) : ∀ (t : KasT α), zcc lt N t R → zcc lt N t R'
 | .ret _, h => hr _ h
 | .ask i j k, ⟨h1, h2, h3⟩ => ⟨h1, h2, zaz hr (k (lt i j)) h3⟩
theorem zen {α : Type} {lt : Nat → Nat → Bool} {N : Nat} {P : Shared → Prop} {cmp : Nat → Nat → (Bool → Shared → Prop) → Shared → Prop} {Q : α → Shared → Prop}
  (hc : ∀ i j C s, i < N → j < N → P s → (∀ s', P s' → C (lt i j) s') → cmp i j C s) : ∀ (t : KasT α) (s : Shared), P s → zcc lt N t (fun a => ∀ s', P s' → Q a s') → t.kasWp cmp Q s
 | .ret _, s, hp, h => h s hp
 | .ask i j k, s, hp, ⟨h1, h2, h3⟩ => hc i j _ s h1 h2 hp fun s' hp' => zen hc (k (lt i j)) s' hp' h3
structure Ord (lt : Nat → Nat → Bool) : Prop where
 asym : ∀ a b, lt a b = true → lt b a = false
 trans : ∀ a b c, lt b a = false → lt c b = false → lt c a = false
section
variable {lt : Nat → Nat → Bool} {N : Nat}
abbrev gD (p : Array Nat) (i : Nat) : Nat := p.getD i 0
theorem zeZ (p : Array Nat) (i : Nat) : gD p i = (p[i]?).getD 0 := by
 unfold gD; simp
def Srt (lt : Nat → Nat → Bool) (p : Array Nat) (m : Nat) : Prop := ∀ i j, i ≤ j → j < m → lt (gD p j) (gD p i) = false
def Dsc (lt : Nat → Nat → Bool) (p : Array Nat) (m : Nat) : Prop := ∀ i j, i ≤ j → j < m → lt (gD p i) (gD p j) = false
def Eqs (lt : Nat → Nat → Bool) (p : Array Nat) (a b : Nat) : Prop := ∀ i j, a ≤ i → i < b → a ≤ j → j < b → lt (gD p i) (gD p j) = false
def Pm (N : Nat) (p : Array Nat) : Prop := p.Perm (List.toArray (List.range N))
theorem Pm.size {p : Array Nat} (h : Pm N p) : p.size = N := by
 have := h.size_eq
 simpa using this
theorem Pm.bd {p : Array Nat} (h : Pm N p) (hN : 0 < N) (i : Nat) : gD p i < N := by
 unfold gD
 by_cases hi : i < p.size
 ·have hm : p[i] ∈ p := Array.getElem_mem hi
  have : p[i] ∈ (List.toArray (List.range N)) := h.mem_iff.mp hm
  have hlt : p[i] < N := by simpa using this
  simpa [Array.getD, hi] using hlt
 ·simpa [Array.getD, hi] using hN
theorem Pm.rev {p : Array Nat} (h : Pm N p) (i j : Nat) : Pm N (kas_rev p i j) := (mirror_perm p i j _).trans h
theorem Pm.bub {p : Array Nat} (h : Pm N p) (i j : Nat) : Pm N (bubble p i j) := (bubble_perm p i j).trans h
theorem zbV {p : Array Nat} {i j : Nat} (hj : j ≤ p.size) (k : Nat) : gD (kas_rev p i j) k = if i ≤ k ∧ k < j then gD p (i + j - 1 - k) else gD p k := by
 rw [zeZ, zeZ, zeZ]
 unfold kas_rev
 rw [getElem?_mirror_all hj]
 split <;> rfl
theorem zeo (O : Ord lt) {p : Array Nat} (hp : Pm N p) (hN : 0 < N) : ∀ (f n : Nat), 1 ≤ n → Srt lt p n → zcc lt N (kas_asc p f n) (fun m => n ≤ m ∧ m ≤ n + f ∧ Srt lt p m ∧ (m < n + f → lt (gD p m) (gD p (m - 1)) = true))
 | 0, n, h1, hs => ⟨Nat.le_refl _, Nat.le_refl _, hs, fun h => absurd h (Nat.lt_irrefl _)⟩
 | f + 1, n, h1, hs => by
  refine ⟨hp.bd hN _, hp.bd hN _, ?_⟩
  cases e : lt (p.getD n 0) (p.getD (n - 1) 0) with
  | true =>
   simp only [if_true]
   exact ⟨Nat.le_refl _, by omega, hs, fun _ => e⟩
  | false =>
   simp only [Bool.false_eq_true, if_false]
   have hs' : Srt lt p (n + 1) := by
    intro i j hij hj
    by_cases hjn : j = n
    ·subst hjn
     by_cases hin : i = j
     ·subst hin
      cases q : lt (gD p i) (gD p i) with
      | false => rfl
      | true => rw [O.asym _ _ q] at q; cases q
     ·exact O.trans _ _ _ (hs i (j - 1) (by omega) (by omega)) e
    ·exact hs i j hij (by omega)
   exact zaz (fun m ⟨a, b, c, d⟩ => ⟨by omega, by omega, c, fun h => d (by omega)⟩) _ (zeo O hp hN f (n + 1) (by omega) hs')
theorem irr (O : Ord lt) (a : Nat) : lt a a = false := by
 cases q : lt a a with
 | false => rfl
 | true => rw [O.asym _ _ q] at q; cases q
theorem eqs_rev (O : Ord lt) {p : Array Nat} {a b : Nat} (hb : b ≤ p.size) (h : Eqs lt p a b) : Eqs lt (kas_rev p a b) a b := by
 intro i j h1 h2 h3 h4
 rw [zbV hb, zbV hb, if_pos ⟨h1, h2⟩, if_pos ⟨h3, h4⟩]
 exact h _ _ (by omega) (by omega) (by omega) (by omega)
theorem zfE (O : Ord lt) {p : Array Nat} {a b : Nat} (hb : b ≤ p.size) (h : Eqs lt p a b) (hd : Dsc lt p b) : Dsc lt (kas_rev p a b) b := by
 intro i j hij hj
 rw [zbV hb, zbV hb]
 by_cases hi : a ≤ i ∧ i < b
 ·rw [if_pos hi, if_pos ⟨by omega, hj⟩]
  exact h _ _ (by omega) (by omega) (by omega) (by omega)
 ·rw [if_neg hi]
  by_cases hj' : a ≤ j ∧ j < b
  ·rw [if_pos hj']
   exact hd _ _ (by omega) (by omega)
  ·rw [if_neg hj']
   exact hd _ _ hij hj
theorem zcK (O : Ord lt) {p : Array Nat} {n : Nat} (h1 : 1 ≤ n) (hd : Dsc lt p n) (e : lt (gD p (n - 1)) (gD p n) = false) : Dsc lt p (n + 1) := by
 intro i j hij hj
 by_cases hjn : j = n
 ·subst hjn
  by_cases hin : i = j
  ·subst hin; exact irr O _
  ·exact O.trans _ _ _ e (hd i (j - 1) (by omega) (by omega))
 ·exact hd i j hij (by omega)
theorem zcL (O : Ord lt) (hN : 0 < N) : ∀ (f : Nat) (p : Array Nat) (n q : Nat), Pm N p → q + 1 ≤ n → n + f ≤ N → Dsc lt p n → Eqs lt p (n - (q + 1)) n →
  zcc lt N (kas_desc f p n q) (fun r => Pm N r.1 ∧ n ≤ r.2.1 ∧ r.2.1 ≤ n + f ∧ r.2.2 + 1 ≤ r.2.1 ∧ Dsc lt r.1 r.2.1 ∧ Eqs lt r.1 (r.2.1 - (r.2.2 + 1)) r.2.1)
 | 0, p, n, q, hp, hq, hn, hd, he => ⟨hp, Nat.le_refl _, Nat.le_refl _, hq, hd, he⟩
 | f + 1, p, n, q, hp, hq, hn, hd, he => by
  have one : ∀ (p : Array Nat) (n : Nat), Eqs lt p (n + 1 - (0 + 1)) (n + 1) := fun p n i j h1 h2 h3 h4 => by
   have e : i = j := by omega
   subst e; exact irr O _
  refine ⟨hp.bd hN _, hp.bd hN _, ?_⟩
  cases e : lt (p.getD n 0) (p.getD (n - 1) 0) with
  | true =>
   simp only [if_true]
   have e' : lt (gD p (n - 1)) (gD p n) = false := O.asym _ _ e
   by_cases hq0 : q > 0
   ·rw [if_pos hq0]
    have hb : n ≤ p.size := by rw [hp.size]; omega
    have hd' := zfE O hb he hd
    refine zaz (fun r ⟨a, b, c, d⟩ => ⟨a, by omega, by omega, d⟩) _ (zcL O hN f _ (n + 1) 0 (hp.rev _ _) (by omega) (by omega) (zcK O (by omega) hd' ?_) (one _ _))
    rw [zbV hb, zbV hb, if_pos ⟨by omega, by omega⟩, if_neg (by omega)]
    exact O.trans _ _ _ e' (he _ _ (by omega) (by omega) (by omega) (by omega))
   ·rw [if_neg hq0]
    exact zaz (fun r ⟨a, b, c, d⟩ => ⟨a, by omega, by omega, d⟩) _ (zcL O hN f _ (n + 1) 0 hp (by omega) (by omega) (zcK O (by omega) hd e') (one _ _))
  | false =>
   simp only [Bool.false_eq_true, if_false]
   refine ⟨hp.bd hN _, hp.bd hN _, ?_⟩
   cases e2 : lt (p.getD (n - 1) 0) (p.getD n 0) with
   | true =>
    simp only [if_true]
    exact ⟨hp, Nat.le_refl _, (show n ≤ n + (f + 1) by omega), hq, hd, he⟩
   | false =>
    simp only [Bool.false_eq_true, if_false]
    refine zaz (fun r ⟨a, b, c, d⟩ => ⟨a, by omega, by omega, d⟩) _ (zcL O hN f _ (n + 1) (q + 1) hp (by omega) (by omega) (zcK O (by omega) hd e2) ?_)
    intro i j h1 h2 h3 h4
    by_cases hi : i = n
    ·by_cases hj : j = n
     ·subst hi; subst hj; exact irr O _
     ·rw [hi]
      exact O.trans _ _ _ (he j (n - 1) (by omega) (by omega) (by omega) (by omega) |> fun z => he (n - 1) j (by omega) (by omega) (by omega) (by omega)) e
    ·by_cases hj : j = n
     ·rw [hj]
      exact O.trans _ _ _ e2 (he i (n - 1) (by omega) (by omega) (by omega) (by omega))
     ·exact he i j (by omega) (by omega) (by omega) (by omega)
theorem zd6 (O : Ord lt) (hN : 0 < N) {p : Array Nat} {n : Nat} (hp : Pm N p) (h1 : 1 ≤ n) (hn : n ≤ N) (hd : Dsc lt p n) : zcc lt N (kas_tail3 n N p) (fun r => Pm N r.2 ∧ 1 ≤ r.1 ∧ r.1 ≤ N ∧ Srt lt r.2 r.1) := by
 unfold kas_tail3
 have hb : n ≤ p.size := by rw [hp.size]; exact hn
 have hs : Srt lt (kas_rev p 0 n) n := by
  intro i j hij hj
  rw [zbV hb, zbV hb, if_pos ⟨by omega, hj⟩, if_pos ⟨by omega, by omega⟩]
  exact hd _ _ (by omega) (by omega)
 refine zbt _ (zaz (fun m ⟨a, b, c, d⟩ => ?_) _ (zeo O (hp.rev 0 n) hN (N - n) n h1 hs))
 exact ⟨hp.rev _ _, by show 1 ≤ m; omega, by show m ≤ N; omega, c⟩
theorem zcM (O : Ord lt) (hN : 0 < N) {p : Array Nat} {n : Nat} (hp : Pm N p) (h1 : 1 ≤ n) (hn : n + 1 ≤ N) (hd : Dsc lt p (n + 1)) : zcc lt N (kas_descPart n N p) (fun r => Pm N r.2 ∧ 1 ≤ r.1 ∧ r.1 ≤ N ∧ Srt lt r.2 r.1) := by
 unfold kas_descPart
 have e1 : Eqs lt p (n + 1 - (0 + 1)) (n + 1) := fun i j h1 h2 h3 h4 => by
  have e : i = j := by omega
  subst e; exact irr O _
 refine zbt _ (zaz (fun r hr => ?_) _ (zcL O hN (N - (n + 1)) p (n + 1) 0 hp (by omega) (by omega) hd e1))
 ·obtain ⟨a, b, c, d, e, g⟩ := hr
  have hb : r.2.1 ≤ r.1.size := by rw [a.size]; omega
  by_cases hq : r.2.2 > 0
  ·rw [if_pos hq]
   exact zd6 O hN (a.rev _ _) (by omega) (by omega) (zfE O hb g e)
  ·rw [if_neg hq]
   exact zd6 O hN a (by omega) (by omega) e
theorem zgM (O : Ord lt) (hN : 0 < N) {p : Array Nat} (hp : Pm N p) : zcc lt N (kas_count N p) (fun r => Pm N r.2 ∧ 1 ≤ r.1 ∧ r.1 ≤ N ∧ Srt lt r.2 r.1) := by
 unfold kas_count
 have s1 : Srt lt p 1 := fun i j hij hj => by
  have e : i = j := by omega
  subst e; exact irr O _
 refine zbt _ (zaz (fun n ⟨a, b, c, d⟩ => ?_) _ (zeo O hp hN (N - 1) 1 (Nat.le_refl _) s1))
 by_cases hn : (n == N) = true
 ·rw [if_pos hn]
  have : n = N := by simpa using hn
  exact ⟨hp, a, by show n ≤ N; omega, c⟩
 ·rw [if_neg hn]
  have hne : n ≠ N := by simpa using hn
  have dl := d (by omega)
  by_cases h1 : n > 1
  ·rw [if_pos h1]
   refine ⟨hp.bd hN _, hp.bd hN _, ?_⟩
   cases e : lt (p.getD 0 0) (p.getD (n - 1) 0) with
   | true =>
    simp only [if_true]
    exact ⟨hp, a, by show n ≤ N; omega, c⟩
   | false =>
    simp only [Bool.false_eq_true, if_false]
    have hb : n ≤ p.size := by rw [hp.size]; omega
    have eqs : Eqs lt p 0 n := fun i j _ h2 _ h4 => by
     refine O.trans _ (gD p (n - 1)) _ (c j (n - 1) (by omega) (by omega)) ?_
     exact O.trans _ (gD p 0) _ e (c 0 i (by omega) h2)
    have hd : Dsc lt p n := fun i j hij hj => eqs i j (by omega) (by omega) (by omega) hj
    refine zcM O hN (hp.rev _ _) a (by omega) (zcK O a (zfE O hb eqs hd) ?_)
    rw [zbV hb, zbV hb, if_pos ⟨by omega, by omega⟩, if_neg (by omega)]
    exact O.trans _ _ _ (O.asym _ _ dl) (eqs _ _ (by omega) (by omega) (by omega) (by omega))
  ·rw [if_neg h1]
   have e1 : n = 1 := by omega
   subst e1
   refine zcM O hN hp (Nat.le_refl _) (by omega) (zcK O (Nat.le_refl _) (fun i j hij hj => ?_) (O.asym _ _ dl))
   have e : i = j := by omega
   subst e; exact irr O _
theorem zc2 (O : Ord lt) (hN : 0 < N) {p : Array Nat} {k : Nat} (hp : Pm N p) (hs : Srt lt p k) : ∀ (f l r : Nat), l ≤ r → r ≤ k → r - l ≤ f → (∀ i, i < l → lt (gD p k) (gD p i) = false) → (∀ i, r ≤ i → i < k → lt (gD p k) (gD p i) = true) →
  zcc lt N (kas_place p k f l r) (fun l' => l' ≤ k ∧ (∀ i, i < l' → lt (gD p k) (gD p i) = false) ∧ ∀ i, l' ≤ i → i < k → lt (gD p k) (gD p i) = true)
 | 0, l, r, h1, h2, h3, a, b => ⟨by omega, a, fun i hi hk => b i (by omega) hk⟩
 | f + 1, l, r, h1, h2, h3, a, b => by
  unfold kas_place
  by_cases h : l ≥ r
  ·rw [if_pos h]
   exact ⟨by omega, a, fun i hi hk => b i (by omega) hk⟩
  ·rw [if_neg h]
   refine ⟨hp.bd hN _, hp.bd hN _, ?_⟩
   cases e : lt (p.getD k 0) (p.getD ((l + r) / 2) 0) with
   | true =>
    simp only [if_true]
    refine zc2 O hN hp hs f l ((l + r) / 2) (by omega) (by omega) (by omega) a fun i hi hk => ?_
    cases q : lt (gD p k) (gD p i) with
    | true => rfl
    | false =>
     have z := O.trans _ _ _ (hs ((l + r) / 2) i hi hk) q
     rw [e] at z; cases z
   | false =>
    simp only [Bool.false_eq_true, if_false]
    refine zc2 O hN hp hs f ((l + r) / 2 + 1) r (by omega) (by omega) (by omega) (fun i hi => ?_) b
    exact O.trans _ _ _ (hs i ((l + r) / 2) (by omega) (by omega)) e
theorem zhC {p : Array Nat} {k l : Nat} (hk : k < p.size) (hl : l ≤ k) (i : Nat) : gD (bubble p k (k - l)) i = if i = l then gD p k else if l < i ∧ i ≤ k then gD p (i - 1) else gD p i := by
 rw [zeZ, zeZ, zeZ, zeZ, getElem?_bubble hk (k - l) (by omega)]
 have e : k - (k - l) = l := by omega
 rw [e]
 split
 ·rfl
 ·split <;> rfl
theorem zgb (O : Ord lt) (hN : 0 < N) : ∀ (f : Nat) (p : Array Nat) (k : Nat), Pm N p → 1 ≤ k → k + f = N → Srt lt p k → zcc lt N (kas_bin f p k) (fun p' => Pm N p' ∧ Srt lt p' N)
  | 0, p, k, hp, h1, hk, hs => ⟨hp, by have : k = N := by omega
                                       rw [← this]; exact hs⟩
  | f + 1, p, k, hp, h1, hk, hs => by
    unfold kas_bin
    refine zbt _ (zaz (fun l ⟨hl, a, b⟩ => ?_) _ (zc2 O hN hp hs k 0 k (Nat.zero_le _) (Nat.le_refl _) (by omega) (fun i hi => absurd hi (Nat.not_lt_zero _)) fun i hi hk => absurd hk (by omega)))
    refine zgb O hN f _ (k + 1) (hp.bub _ _) (by omega) (by omega) ?_
    have hks : k < p.size := by rw [hp.size]; omega
    intro i j hij hj
    rw [zhC hks hl, zhC hks hl]
    by_cases hjl : j = l
    · rw [if_pos hjl]
      by_cases hil : i = l
      · rw [if_pos hil]; exact irr O _
      · rw [if_neg hil, if_neg (by omega)]
        exact a i (by omega)
    · rw [if_neg hjl]
      by_cases hj2 : l < j ∧ j ≤ k
      · rw [if_pos hj2]
        by_cases hil : i = l
        · rw [if_pos hil]
          exact O.asym _ _ (b (j - 1) (by omega) (by omega))
        · rw [if_neg hil]
          by_cases hi2 : l < i ∧ i ≤ k
          · rw [if_pos hi2]
            exact hs _ _ (by omega) (by omega)
          · rw [if_neg hi2]
            exact hs _ _ (by omega) (by omega)
      · rw [if_neg hj2, if_neg (by omega), if_neg (by omega)]
        exact hs _ _ (by omega) (by omega)
theorem zhD (O : Ord lt) (hN : 0 < N) : zcc lt N (kas_sort N) (fun p => Pm N p ∧ Srt lt p N) := by
 unfold kas_sort
 refine zbt _ (zaz (fun r ⟨a, b, c, d⟩ => ?_) _ (zgM O hN (Array.Perm.refl _)))
 by_cases h : r.1 < N
 ·rw [if_pos h]
  have e : max r.1 1 = r.1 := by omega
  rw [e]
  exact zgb O hN _ _ _ a b (by omega) d
 ·rw [if_neg h]
  have e : r.1 = N := by omega
  exact ⟨a, by rw [← e]; exact d⟩
end
end L2
end
section
namespace L2
open PySem PySem.W PyProof.Rows PySem.Calls
section
variable {prog : Program} {w : World} {A : Around} {E : Value → Shared → Prop} {s : Shared}
def zcd (vs : List Value) (p : Array Nat) : List Value := p.toList.map fun i => vs.getD i Value.none
theorem zcN {a : Addr} {vs : List Value} {n : Nat} {lt : Nat → Nat → Bool} {P : PySem.Fin → Shared → Prop} (O : Ord lt) (ho : s.heap.get? a = some (seqObj "list" vs.toArray n)) (h64 : vs.length < 64)
  (hk : 2 ≤ vs.length → ∀ h' : Heap, (∀ b o, b ≠ a → s.heap.get? b = some o → h'.get? b = some o) → ∃ κ, (∀ Q : SortKind → Shared → Prop, Q κ { s with heap := h' } → wpAny (model prog w) A (keyKind' vs.toArray) Q (fun _ _ => False) { s with heap := h' }) ∧
   ∀ i j, i < vs.length → j < vs.length → ∀ C : Bool → Shared → Prop, C (lt i j) { s with heap := h' } → wpAny (model prog w) A (keyLt' κ (vs.getD i Value.none) (vs.getD j Value.none)) C (fun _ _ => False) { s with heap := h' })
  (h : ∀ p : Array Nat, Pm vs.length p → Srt lt p vs.length → P (.done (.ret .none)) { s with heap := sortedHeap s.heap a vs (zcd vs p).toArray }) :
  wpAny (model prog w) A (Builtin.«list.sort» ⟨[.ref a], []⟩) P E s := by
 have ha : a < s.heap.objs.size := Heap.lt_size ho
 obtain ⟨e1, ho1⟩ : ∃ e1, (s.heap.update a (Obj.mapSeq fun _ => (#[] : Array Value))).get? a = some (seqObj "list" #[] e1) := ⟨_, get?_update_seq ho fun _ => #[]⟩
 rw [list_sort_plain]
 refine wpAny_bind (listItems_at ho rfl ?_)
 refine wpAny_bind (listUpdate_at ho rfl ?_ (by rw [List.size_toArray, sizeLine_eq]; omega) (Nat.zero_le _))
 refine wpAny_bind (seqEpoch_at ho1 rfl ?_)
 refine wpAny_bind (wpAny_newTuple ?_ (by show vs.length ≤ _; rw [sizeLine_eq]; omega))
 refine wpAny_bind (wpAny_newList ?_ (Nat.zero_le _))
 refine wpAny_holding ?_
 have ho6 : (((s.heap.update a (Obj.mapSeq fun _ => #[])).push (seqObj "tuple" vs.toArray 0)).push (seqObj "list" #[] 0)).get? a = some (seqObj "list" #[] e1) := by
  rw [Heap.get?_push_ne _ _ _ (by rw [size_push', Heap.size_update]; exact Nat.ne_of_lt (Nat.lt_succ_of_lt ha)), Heap.get?_push_ne _ _ _ (by rw [Heap.size_update]; exact Nat.ne_of_lt ha)]
  exact ho1
 show wpAny (model prog w) A _ P E { s with heap := ((s.heap.update a (Obj.mapSeq fun _ => (#[] : Array Value))).push (seqObj "tuple" vs.toArray 0)).push (seqObj "list" #[] 0) }
 dsimp only
 by_cases h2 : vs.toArray.size < 2
 ·rw [if_pos h2, if_pos h2]
  refine wpAny_bind (wpAny_pure ?_)
  rw [StateT.run_pure]
  refine wpAny_bind (wpAny_pure ?_)
  dsimp only
  refine wpAny_bind (seqEpoch_at ho6 rfl ?_)
  have hsmall : vs.length < 2 := by simpa using h2
  refine wpAny_bind (listUpdate_at ho6 rfl ?_ (hsz2 := by rw [Array.size_map]; show (pairsOf vs).size ≤ _; rw [pairsOf_size, sizeLine_eq]; omega))
  simp only [bne_self_eq_false, Bool.false_eq_true, if_false]
  have hp : Pm vs.length (List.toArray (List.range vs.length)) := Array.Perm.refl _
  have hs : Srt lt (List.toArray (List.range vs.length)) vs.length := fun i j hij hj => by
   have e : i = j := by omega
   subst e; exact irr O _
  have z := h _ hp hs
  have eo : ((arrOf (SortSt.mk' general' (vs.toArray.zip vs.toArray) #[] 7 none)).map (·.2)) = (zcd vs (List.toArray (List.range vs.length))).toArray := by
   have e1 : zcd vs (List.toArray (List.range vs.length)) = vs := by
    unfold zcd
    apply List.ext_getElem?
    intro i
    rw [List.getElem?_map]
    by_cases hi : i < vs.length
    ·simp [List.getElem?_range hi, hi]
    ·simp [List.getElem?_eq_none, hi, Nat.le_of_not_lt hi]
   rw [e1]
   show (vs.toArray.zip vs.toArray).map (·.2) = vs.toArray
   apply Array.toList_inj.mp
   simp [List.map_snd_zip]
  refine wpAny_pure ?_
  rw [← eo] at z
  exact z
 ·rw [if_neg h2, if_neg h2]
  have h2' : 2 ≤ vs.length := by
   have : ¬ vs.length < 2 := by simpa using h2
   omega
  have keep : ∀ b o, b ≠ a → s.heap.get? b = some o → (((s.heap.update a (Obj.mapSeq fun _ => (#[] : Array Value))).push (seqObj "tuple" vs.toArray 0)).push (seqObj "list" #[] 0)).get? b = some o := fun b o hb e =>
   Heap.get?_push_of_some _ (Heap.get?_push_of_some _ ((Heap.get?_update_other s.heap _ (Ne.symm hb)).trans e))
  obtain ⟨κ, hkk, hlt⟩ := hk h2' _ keep
  refine wpAny_bind (wpAny_mono (hkk _ ?_) (fun κ s0 hk => hk) fun _ _ x => x.elim)
  have tree : (kas_sort vs.length).kasWp (kas_ask prog w A κ vs) (fun p s' => s' = { s with heap := ((s.heap.update a (Obj.mapSeq fun _ => (#[] : Array Value))).push (seqObj "tuple" vs.toArray 0)).push (seqObj "list" #[] 0) } ∧ Pm vs.length p ∧ Srt lt p vs.length)
    { s with heap := ((s.heap.update a (Obj.mapSeq fun _ => (#[] : Array Value))).push (seqObj "tuple" vs.toArray 0)).push (seqObj "list" #[] 0) } := by
   refine zen (N := vs.length) (lt := lt) (P := fun s' => s' = { s with heap := ((s.heap.update a (Obj.mapSeq fun _ => (#[] : Array Value))).push (seqObj "tuple" vs.toArray 0)).push (seqObj "list" #[] 0) }) ?_ _ _ rfl (zaz (fun p hp s' hs' => ⟨hs', hp.1, hp.2⟩) _ (zhD O (by omega)))
   intro i j C s' hi hj hs' hC
   subst hs'
   exact hlt i j hi hj C (hC _ rfl)
  refine wpAny_bind (wpAny_mono (kat_run (Q := fun st' s' => ∃ p : Array Nat, p.size = vs.length ∧ arrOf st' = p.map (kas_item (vs.toArray.zip vs.toArray)) ∧ failedOf st' = none ∧
    (s' = { s with heap := ((s.heap.update a (Obj.mapSeq fun _ => (#[] : Array Value))).push (seqObj "tuple" vs.toArray 0)).push (seqObj "list" #[] 0) } ∧ Pm vs.length p ∧ Srt lt p vs.length))
   rfl h2' h64 (fun p' st' s' a1 a2 a3 a4 => ⟨p', a1, a2, a3, a4⟩) tree) ?_ fun _ _ e => e)
  rintro ⟨⟨⟩, st'⟩ s' ⟨p, hp, har, hf, hs', hpm, hsr⟩
  subst hs'
  dsimp only
  have hout := kat_snds rfl har
  rw [hout]
  refine wpAny_bind (seqEpoch_at ho6 rfl ?_)
  refine wpAny_bind (listUpdate_at ho6 rfl ?_ (hsz2 := by rw [List.size_toArray, List.length_map, Array.length_toList, hp, sizeLine_eq]; omega))
  rw [hf]
  simp only [bne_self_eq_false, Bool.false_eq_true, if_false]
  exact wpAny_pure (h p hpm hsr)
theorem zgN {l : Addr} {vs : List Value} {lt : Nat → Nat → Bool} {Q : Value → Shared → Prop} (O : Ord lt) (hl : s.heap.IsList l vs.toArray) (h64 : vs.length < 64)
  (hk : 2 ≤ vs.length → ∀ (A' : Around), A'.units ≤ A.units + 2 → ∀ h' : Heap, (∀ b o, s.heap.get? b = some o → h'.get? b = some o) → ∃ κ, (∀ Q : SortKind → Shared → Prop, Q κ { s with heap := h' } → wpAny (model prog w) A' (keyKind' vs.toArray) Q (fun _ _ => False) { s with heap := h' }) ∧
   ∀ i j, i < vs.length → j < vs.length → ∀ C : Bool → Shared → Prop, C (lt i j) { s with heap := h' } → wpAny (model prog w) A' (keyLt' κ (vs.getD i Value.none) (vs.getD j Value.none)) C (fun _ _ => False) { s with heap := h' })
  (h : ∀ p : Array Nat, Pm vs.length p → Srt lt p vs.length → Q (.ref (s.heap.objs.size + 1)) { s with heap := sortedAll s.heap vs (zcd vs p).toArray }) :
  wpAny (model prog w) A (call (.builtin "sorted") [.ref l]) Q E s := by
 refine Calls.call_function_entry kind_sorted plain_sorted entry_sorted (args_sorted1 _) ?_
 unfold Builtin.«sorted»
 refine wpAny_bind (m := checkCount "sorted" 1 1 _) (wpAny_pure ?_)
 refine wpAny_bind (collect_list hl ?_ (by rw [sizeLine_eq]; omega))
 refine wpAny_bind (wpAny_newList ?_ (by rw [sizeLine_eq]; omega))
 have hsz : ((s.heap.push (seqObj "list" #[] 0)).update s.heap.objs.size (Obj.mapSeq (· ++ vs.toArray))).objs.size = s.heap.objs.size + 1 := by
  rw [Heap.size_update, size_push']
 have hoL : (((s.heap.push (seqObj "list" #[] 0)).update s.heap.objs.size (Obj.mapSeq (· ++ vs.toArray))).push (seqObj "list" vs.toArray 0)).get? (s.heap.objs.size + 1) = some (seqObj "list" vs.toArray 0) := by
  rw [← hsz]; exact Heap.get?_push_size _ rfl
 have keep : ∀ b o, s.heap.get? b = some o → b ≠ s.heap.objs.size + 1 ∧ (((s.heap.push (seqObj "list" #[] 0)).update s.heap.objs.size (Obj.mapSeq (· ++ vs.toArray))).push (seqObj "list" vs.toArray 0)).get? b = some o := fun b o q => by
  have hlt : b < s.heap.objs.size := Heap.lt_size q
  refine ⟨Nat.ne_of_lt (Nat.lt_succ_of_lt hlt), ?_⟩
  rw [Heap.get?_push_ne _ _ _ (by rw [hsz]; exact Nat.ne_of_lt (Nat.lt_succ_of_lt hlt)), Heap.get?_update_ne _ _ _ _ (Nat.ne_of_lt hlt), Heap.get?_push_ne _ _ _ (Nat.ne_of_lt hlt)]
  exact q
 show wpAny _ _ _ _ _ { s with heap := ((s.heap.push (seqObj "list" #[] 0)).update s.heap.objs.size (Obj.mapSeq (· ++ vs.toArray))).push (seqObj "list" vs.toArray 0) }
 rw [hsz]
 refine wpAny_bind (wpAny_holding (wpAny_call_entry slot_list_sort ⟨_, hoL, rfl⟩ entry_list_sort ?body (args_list_sort _)))
 case body =>
  refine zcN O hoL h64 (fun h2 h' kp => hk h2 _ ?_ h' fun b o e => kp b o (keep b o e).1 (keep b o e).2) fun p a1 a2 => ⟨_, rfl, wpAny_pure ⟨_, rfl, h p a1 a2⟩⟩
  show A.units + 1 + 1 ≤ A.units + 2
  omega
end
end L2
end
section
namespace L2
open PySem PySem.W PyProof.Rows PySem.Calls
theorem zcn : ∀ (a b : List Int), HT.lexLt a b = true → HT.lexLt b a = false
 | [], [], h => by cases h
 | [], _ :: _, _ => rfl
 | _ :: _, [], h => by cases h
 | x :: xs, y :: ys, h => by
  rw [HT.za4] at h ⊢
  by_cases e : x = y
  ·subst e
   rw [if_pos rfl] at h ⊢
   exact zcn xs ys h
  ·rw [if_neg e] at h
   rw [if_neg (Ne.symm e)]
   have : x < y := by simpa using h
   exact decide_eq_false (by omega)
theorem zb0 : ∀ (a b c : List Int), HT.lexLt b a = false → HT.lexLt c b = false → HT.lexLt c a = false
 | [], [], [], _, _ => rfl
 | [], [], _ :: _, _, _ => rfl
 | [], _ :: _, [], _, h => by cases h
 | [], _ :: _, _ :: _, _, _ => rfl
 | _ :: _, [], _, h, _ => by cases h
 | _ :: _, _ :: _, [], _, h => by cases h
 | x :: xs, y :: ys, z :: zs, h1, h2 => by
  rw [HT.za4] at h1 h2 ⊢
  by_cases e1 : y = x
  ·subst e1
   rw [if_pos rfl] at h1
   by_cases e2 : z = y
   ·subst e2
    rw [if_pos rfl] at h2 ⊢
    exact zb0 xs ys zs h1 h2
   ·rw [if_neg e2] at h2 ⊢
    exact h2
  ·rw [if_neg e1] at h1
   have l1 : ¬ y < x := by simpa using h1
   by_cases e2 : z = y
   ·subst e2
    rw [if_neg e1]
    exact decide_eq_false l1
   ·rw [if_neg e2] at h2
    have l2 : ¬ z < y := by simpa using h2
    rw [if_neg (by omega)]
    exact decide_eq_false (by omega)
theorem lexOrd (ks : List (List Int)) : Ord (fun i j => HT.lexLt (ks.getD i []) (ks.getD j [])) := ⟨fun a b => zcn _ _, fun a b c => zb0 _ _ _⟩
def TIs (K : PySem.W.Frag) (H : Hp) (ys : List V) (ks : List (List Int)) : Prop := Paired (fun (v : V) (t : List Int) => ∃ a, v = .ref a ∧ SqT K H a (t.map V.int)) ys ks
theorem Paired.getD {α β : Type} {F : α → β → Prop} {d : α} {d' : β} : ∀ {xs : List α} {ys : List β}, Paired F xs ys → ∀ i, i < xs.length → F (xs.getD i d) (ys.getD i d')
 | _, _, .nil, i, h => absurd h (Nat.not_lt_zero _)
 | _, _, .cons r _, 0, _ => r
 | _, _, .cons _ t, i + 1, h => by
  have := Paired.getD (d := d) (d' := d') t i (by simpa using h)
  simpa using this
theorem zb1 {prog : Program} {w : World} {A : Around} {b : Bool} {Q : Bool → Shared → Prop} {s : Shared} : ∀ (xs ys : List Value) (as bs : List Int) (i : Nat), za1 (as.map V.int) xs → za1 (bs.map V.int) ys →
  Q (HT.lexLt as bs) s → ∀ fin, (∀ (n : Nat), fin = decide (n + xs.length < n + ys.length) → True) → (fin = decide (xs.length < ys.length)) → KatLex prog w A b fin Q (xs.zip ys) i s
 | [], ys, as, bs, i, h1, h2, q, fin, _, hf => by
  have e : as = [] := by
   have := h1.length
   simpa using this
  subst e
  show Q fin s
  cases bs with
  | nil =>
   cases h2
   rw [hf]; exact q
  | cons y bs =>
   cases h2 with
   | cons _ t =>
    have q : Q true s := q
    rw [hf]; simpa using q
 | x :: xs, [], as, bs, i, h1, h2, q, fin, _, hf => by
  have e : bs = [] := by
   have := h2.length
   simpa using this
  subst e
  cases as with
  | nil => cases h1
  | cons a as =>
   show Q fin s
   have q : Q false s := q
   rw [hf]
   simpa using q
 | x :: xs, y :: ys, as, bs, i, h1, h2, q, fin, _, hf => by
  cases as with
  | nil => cases h1
  | cons a as =>
   cases bs with
   | nil => cases h2
   | cons c bs =>
    cases h1 with
    | cons r1 t1 =>
     cases h2 with
     | cons r2 t2 =>
      obtain ⟨t, rfl⟩ := r1
      obtain ⟨u, rfl⟩ := r2
      refine kat_cons (wpAny_eqBool_int ?_)
      rw [HT.za4] at q
      by_cases e : a = c
      ·subst e
       rw [show (a == a) = true by simp]
       rw [if_pos rfl] at q
       exact kat_yes (zb1 xs ys as bs (i + 1) t1 t2 q fin (fun _ _ => True.intro) (by rw [hf]; simp))
      ·rw [show (a == c) = false by simpa using e]
       rw [if_neg e] at q
       refine kat_no ?_
       cases hb : (b && i == 0) with
       | true => exact oneLt_int q
       | false => exact kat_one _ _ (lt_int q)
section
variable {X : Cx}
theorem zdj : za3 X (.builtin "sorted") (fun xs H Q => ∃ p ns, xs = [.ref p] ∧ SqL X.K H p (ns.map V.int) ∧ ns.length < 64 ∧ ∀ (ns' : List Int) l, ns'.Perm ns → ns'.Pairwise (· ≤ ·) → H l = none → Q (.ref l) (upd H l (.lst (ns'.map V.int)))) := by
 intro pins s σ H xs us Q I r h
 obtain ⟨p, ns, rfl, hq, h64, q⟩ := h
 obtain ⟨u, rfl, rx⟩ := vals1 r
 cases rx
 obtain ⟨its, rv, pl, hz⟩ := I.list hq
 have hI : IntsAre its ns := by
  clear pl hz h64 q hq
  induction ns generalizing its with
  | nil => cases rv; exact .nil
  | cons n ns ih =>
   cases rv with
   | cons r1 t1 =>
    obtain ⟨t, rfl⟩ := r1
    exact .cons n t (ih _ t1)
 have hl := rv.length
 rw [List.length_map] at hl
 refine sorted_ints pl.isList hI (by omega) fun out ns' ho hp hs => ?_
 obtain ⟨e, he⟩ := sortedAll_at s.heap its out
 have hv : za1 (ns'.map V.int) out.toList := by
  clear he hp hs
  generalize out.toList = os at ho
  induction ho with
  | nil => exact .nil
  | cons n t _ ih => exact .cons ⟨_, rfl⟩ ih
 have hlen : (ns'.map V.int).length ≤ sizeLine := by
  rw [List.length_map, hp.length_eq, sizeLine_eq]; omega
 refine ⟨.ref (s.heap.objs.size + 1), _, I.laid (t' := s.toks) (a := s.heap.objs.size + 1) (o := .lst (ns'.map V.int)) (fun b u e => sortedAll_old e) (Nat.le_succ _) ?_, rfl, q ns' _ hp hs (I.hok.fresh (Nat.le_succ _))⟩
 refine ⟨hlen, out.toList, e, hv, ?_⟩
 rw [he]
 all_goals simp [seqObj]
theorem zcz {pins : List (Addr × Obj)} {σ : St} {H : Hp} {s : Shared} {h' : Heap} (I : Inv X pins σ H s) (kp : ∀ b o, s.heap.get? b = some o → h'.get? b = some o) : ∀ {ys : List V} {ks : List (List Int)} {its : List Value}, TIs X.K H ys ks → za1 ys its → (∀ t ∈ ks, t ≠ []) →
  ∃ fs, KatTups h' its fs ∧ fs.length = its.length ∧ ∀ v ∈ fs, ∃ i t, v = Value.int i t
 | _, _, _, .nil, .nil, _ => ⟨[], .nil, rfl, fun _ h => nomatch h⟩
 | _, _, _, .cons (b := t) ⟨a, e, hq⟩ r, .cons (b := u) ru rr, hne => by
  subst e
  cases ru
  obtain ⟨fs, h1, h2, h3⟩ := zcz I kp r rr fun t ht => hne t (lO _ ht)
  obtain ⟨its', rv, ⟨o, ho, hc, n, hd⟩, _⟩ := I.tuple hq
  cases t with
  | nil => exact absurd rfl (hne [] lS)
  | cons i t =>
   cases rv with
   | cons r1 t1 =>
    obtain ⟨tk, rfl⟩ := r1
    refine ⟨.int i tk :: fs, .cons (kp _ _ ho) hc hd rfl h1, by simp [h2], fun v hv => ?_⟩
    rcases lK hv with e | hv
    ·exact ⟨i, tk, e⟩
    ·exact h3 v hv
theorem zcO {α β : Type} {p : Array Nat} {zs : List α} {d : α} (h : Pm zs.length p) : (p.toList.map fun i => zs.getD i d).Perm zs := by
 have h1 : p.toList.Perm (List.range zs.length) := Array.perm_iff_toList_perm.mp h
 have h2 : (p.toList.map fun i => zs.getD i d).Perm ((List.range zs.length).map fun i => zs.getD i d) := h1.map _
 have h3 : ((List.range zs.length).map fun i => zs.getD i d) = zs := by
  apply List.ext_getElem?
  intro i
  rw [List.getElem?_map]
  by_cases hi : i < zs.length
  ·rw [List.getElem?_range hi]
   simp [hi]
  ·rw [List.getElem?_eq_none (by simpa using hi), List.getElem?_eq_none (by simpa using hi)]
   rfl
 rw [h3] at h2
 exact h2
theorem zcP {α β : Type} {d : α} {d' : β} : ∀ {xs : List α} {ys : List β} (i : Nat), xs.length = ys.length → (xs.zip ys).getD i (d, d') = (xs.getD i d, ys.getD i d')
 | [], [], i, _ => by simp
 | x :: xs, y :: ys, 0, _ => rfl
 | x :: xs, y :: ys, i + 1, h => by
  have := zcP (d := d) (d' := d') (xs := xs) (ys := ys) i (by simpa using h)
  simpa using this
 | [], _ :: _, _, h => by simp at h
 | _ :: _, [], _, h => by simp at h
theorem zdk : za3 X (.builtin "sorted") (fun xs H Q => ∃ p ys ks, xs = [.ref p] ∧ SqL X.K H p ys ∧ TIs X.K H ys ks ∧ (∀ t ∈ ks, t ≠ []) ∧ ys.length < 64 ∧
  ∀ (zs : List (V × List Int)) l, zs.Perm (ys.zip ks) → (zs.map (·.2)).Pairwise (fun a b => HT.lexLt b a = false) → H l = none → Q (.ref l) (upd H l (.lst (zs.map (·.1))))) := by
 intro pins s σ H xs us Q I r h
 obtain ⟨p, ys, ks, rfl, hq, ht, hne, h64, q⟩ := h
 obtain ⟨u, rfl, rx⟩ := vals1 r
 cases rx
 obtain ⟨its, rv, pl, hz⟩ := I.list hq
 have hl := rv.length
 have hk : ys.length = ks.length := Paired.length ht
 refine zgN (lexOrd ks) pl.isList (by omega) (fun h2 A' _ h' kp => ⟨tuples' true, fun Q' hq' => ?_, fun i j hi hj C hC => ?_⟩) fun pm hpm hsr => ?_
 ·obtain ⟨fs, h1, h2', h3⟩ := zcz I kp ht rv hne
  refine kat_kind (s := { s with heap := h' }) (T := .type "int") h1 (by omega) (fun v hv => ?_) rfl hq'
  obtain ⟨i, t, rfl⟩ := h3 v hv
  exact Looks.now
 ·have hiy : i < ys.length := by omega
  have hjy : j < ys.length := by omega
  obtain ⟨a, ea, qa⟩ := Paired.getD (d := V.non) (d' := []) ht i hiy
  obtain ⟨b, eb, qb⟩ := Paired.getD (d := V.non) (d' := []) ht j hjy
  have ra := Paired.getD (d := V.non) (d' := Value.none) rv i hiy
  have rb := Paired.getD (d := V.non) (d' := Value.none) rv j hjy
  rw [ea] at ra
  rw [eb] at rb
  have ra : its.getD i Value.none = .ref a := ra
  have rb : its.getD j Value.none = .ref b := rb
  rw [ra, rb]
  obtain ⟨ia, va, ⟨oa, ha, _, na, da⟩, _⟩ := I.tuple qa
  obtain ⟨ib, vb, ⟨ob, hb, _, nb, db⟩, _⟩ := I.tuple qb
  refine kat_lt (s := { s with heap := h' }) (kp _ _ ha) da (kp _ _ hb) db ?_
  refine zb1 ia ib _ _ 0 va vb hC _ (fun _ _ => True.intro) ?_
  simp
 ·have hlen : its.length = ys.length := hl.symm
  have hzl : (ys.zip ks).length = its.length := by rw [List.length_zip]; omega
  let zs : List (V × List Int) := pm.toList.map fun i => (ys.zip ks).getD i (V.non, [])
  have hzp : zs.Perm (ys.zip ks) := zcO (β := Nat) (by rw [hzl]; exact hpm)
  have e1 : zs.map (·.1) = pm.toList.map fun i => ys.getD i V.non := by
   show List.map _ (List.map _ _) = _
   rw [List.map_map]
   exact List.map_congr_left fun i _ => by show ((ys.zip ks).getD i (V.non, [])).1 = _; rw [zcP i hk]
  have e2 : zs.map (·.2) = pm.toList.map fun i => ks.getD i [] := by
   show List.map _ (List.map _ _) = _
   rw [List.map_map]
   exact List.map_congr_left fun i _ => by show ((ys.zip ks).getD i (V.non, [])).2 = _; rw [zcP i hk]
  have hpw : (zs.map (·.2)).Pairwise (fun a b => HT.lexLt b a = false) := by
   rw [e2, List.pairwise_map, List.pairwise_iff_getElem]
   intro i j hi hj hij
   have sz : pm.toList.length = its.length := by rw [Array.length_toList]; exact hpm.size
   have z := hsr i j (by omega) (by omega)
   have gi : gD pm i = pm.toList[i] := by unfold gD; simp [Array.getD, show i < pm.size by simpa using hi]
   have gj : gD pm j = pm.toList[j] := by unfold gD; simp [Array.getD, show j < pm.size by simpa using hj]
   rw [gi, gj] at z
   exact z
  obtain ⟨e, he⟩ := sortedAll_at s.heap its (zcd its pm).toArray
  have hv : za1 (zs.map (·.1)) (zcd its pm) := by
   rw [e1]
   unfold zcd
   have hb : ∀ i ∈ pm.toList, i < ys.length := fun i hi => by
    have h1 : pm.toList.Perm (List.range its.length) := Array.perm_iff_toList_perm.mp hpm
    have := h1.mem_iff.mp hi
    have : i < its.length := by simpa using this
    omega
   clear he hpw e1 e2 hzp hsr hpm
   generalize pm.toList = ix at hb
   clear zs
   induction ix with
   | nil => exact .nil
   | cons i ix ih => exact .cons (Paired.getD (d := V.non) (d' := Value.none) rv i (hb i lS)) (ih fun j hj => hb j (lO _ hj))
  refine ⟨.ref (s.heap.objs.size + 1), _, I.laid (t' := s.toks) (a := s.heap.objs.size + 1) (o := .lst (zs.map (·.1))) (fun b u e => sortedAll_old e) (Nat.le_succ _) ?_, rfl, q zs _ hzp hpw (I.hok.fresh (Nat.le_succ _))⟩
  refine ⟨?_, zcd its pm, e, hv, he⟩
  rw [List.length_map, hzp.length_eq, hzl, sizeLine_eq]
  omega
end
end L2
end
section
namespace L2
open PySem PySem.Spec PyProof.Rows
section
variable {prog : Program} {w : World} {A : Around} {E : Value → Shared → Prop} {s : Shared}
theorem zfF {j t : Addr} {k : Nat} {its : Array Value} {v : Value} {Q : Value → Shared → Prop} (hj : s.heap.IsTupleIter j t k) (ht : s.heap.IsTuple t its) (hv : its[k]? = some v)
  (h : ∀ g, g.IsTupleIter j t (k + 1) → Heap.SameBut j s.heap g → Q v { s with heap := g }) : wpAny (model prog w) A (Builtin.SmallTypes.nextOf (.ref j)) Q E s := by
 obtain ⟨oj, ej, cj, dj⟩ := id hj
 obtain ⟨ot, et, _, nt, dt⟩ := ht
 unfold Builtin.SmallTypes.nextOf
 refine wpAny_bind (wpAny_callSpecial?_slot (name := Str.ofString "__next__") hj.typeIs F.slot_tuple_iterator_next (wpAny_call_entry F.slot_tuple_iterator_next hj.typeIs F.entry_tuple_iterator_next ?body (F.args_tuple_iterator_next_1 _)))
 case body =>
  show wpAny _ _ (field (.ref j) 0 >>= _) _ _ s
  refine wpAny_bind (wpAny_field ej dj (x := .ref t) rfl ?a)
  case a =>
   show wpAny _ _ (if (Value.ref t == Value.none) = true then _ else _) _ _ s
   rw [if_neg (by intro z; exact Bool.false_ne_true z)]
   show wpAny _ _ (field (.ref j) 1 >>= _) _ _ s
   refine wpAny_bind (wpAny_field ej dj (x := .int k 0) rfl ?b)
   case b =>
    show wpAny _ _ (seqItems? (.ref t) >>= _) _ _ s
    refine wpAny_bind (wpAny_seqItems et dt ?c)
    case c =>
     simp only [Int.toNat_natCast, hv]
     refine wpAny_bind (wpAny_setField ej dj (by simp) (wpAny_pure ⟨v, rfl, wpAny_pure (h _ ⟨_, Heap.get?_update_self _ ej (Obj.isFreed_of_fields (Obj.data_mapFields dj _)), (Obj.cls_mapFields ..).trans cj, ?d⟩ (Heap.SameBut.update ..))⟩))
     rw [Obj.data_mapFields dj]
     simp [rawInt]
theorem zju {j t : Addr} {k : Nat} {its : Array Value} {Q : Value → Shared → Prop} (hh : A.handled = none) (hj : s.heap.IsTupleIter j t k) (ht : s.heap.IsTuple t its) (hv : its[k]? = none)
  (h : ∀ g x, Heap.ExtBut j s.heap g → (∃ o, g.get? x = some o ∧ o.cls = .type "StopIteration") → E (.ref x) { s with heap := g }) : wpAny (model prog w) A (Builtin.SmallTypes.nextOf (.ref j)) Q E s := by
 obtain ⟨oj, ej, cj, dj⟩ := id hj
 obtain ⟨ot, et, _, nt, dt⟩ := ht
 unfold Builtin.SmallTypes.nextOf
 refine wpAny_bind (wpAny_callSpecial?_slot (name := Str.ofString "__next__") hj.typeIs F.slot_tuple_iterator_next (wpAny_call_entry F.slot_tuple_iterator_next hj.typeIs F.entry_tuple_iterator_next ?body (F.args_tuple_iterator_next_1 _)))
 case body =>
  show wpAny _ _ (field (.ref j) 0 >>= _) _ _ s
  refine wpAny_bind (wpAny_field ej dj (x := .ref t) rfl ?a)
  case a =>
   show wpAny _ _ (if (Value.ref t == Value.none) = true then _ else _) _ _ s
   rw [if_neg (by intro z; exact Bool.false_ne_true z)]
   show wpAny _ _ (field (.ref j) 1 >>= _) _ _ s
   refine wpAny_bind (wpAny_field ej dj (x := .int k 0) rfl ?b)
   case b =>
    show wpAny _ _ (seqItems? (.ref t) >>= _) _ _ s
    refine wpAny_bind (wpAny_seqItems et dt ?c)
    case c =>
     simp only [Int.toNat_natCast, hv]
     refine wpAny_bind (wpAny_rule (wpAny_bind (wpAny_setField ej dj (by simp) ?d)))
     case d =>
      show wpAny _ _ (newExc (.type "StopIteration") [] >>= _) _ _ _
      refine wpAny_bind ?f
      simp only [newExc, newTuple]
      refine wpAny_bind (wpAny_newObj_type ?g (by size_fits))
      case g =>
       refine wpAny_bind (m := firstArgMember _ _) (wpAny_of_eq (a := Value.none) (by first | rfl | (simp only [firstArgMember]; rfl)) ?k)
       case k =>
        refine wpAny_newObj_type ?l (by size_fits)
        simp only [raiseNew]
        refine wpAny_bind (wpAny_handled ?m)
        first | rw [show A.in1.handled = none from hh] | rw [hh]
        refine wpAny_bind (wpAny_pure (wpAny_throw (h _ _ (((Heap.SameBut.update ..).extBut.push _).push _) ⟨_, Heap.get?_push_size _ rfl, rfl⟩)))
structure ZS (g : Heap) (z p q i j a b : Addr) (k : Nat) : Prop where
 zr : IsZip g z p q .none
 ins : IsPair g p (.ref i) (.ref j)
 out : ∃ u v, IsPair g q u v
 one : g.IsTupleIter i a k
 two : g.IsTupleIter j b k
theorem ZS.keep {g g' : Heap} {z p q i j a b : Addr} {k : Nat} (x : ZS g z p q i j a b k) (h : ∀ c ∈ [z, p, q, i, j], ∀ o, g.get? c = some o → g'.get? c = some o) : ZS g' z p q i j a b k :=
 ⟨h z (by simp) _ x.zr, h p (by simp) _ x.ins, let ⟨u, v, e⟩ := x.out; ⟨u, v, h q (by simp) _ e⟩, x.one.at fun o e => h i (by simp) o e, x.two.at fun o e => h j (by simp) o e⟩
theorem zl6 {z p q i j a b : Addr} {k : Nat} {xs ys : Array Value} {x y : Value} {Q : Option Value → Shared → Prop} (D : ZipApart z p q i j a b) (Z : ZS s.heap z p q i j a b k) (ha : s.heap.IsTuple a xs) (hb : s.heap.IsTuple b ys) (hx : xs[k]? = some x) (hy : ys[k]? = some y)
  (h : ∀ g, IsZip g z p q (rawInt s.heap.objs.size) → IsPair g p (.ref i) (.ref j) → IsPair g q x y → g.IsTupleIter i a (k + 1) → g.IsTupleIter j b (k + 1) → IsPair g s.heap.objs.size x y → (∀ c o, c ∉ [z, q, i, j] → s.heap.get? c = some o → g.get? c = some o) → Q (some (.ref s.heap.objs.size)) { s with heap := g }) :
  wpAny (model prog w) A (pyNext (.ref z)) Q E s := by
 have hT : s.TypeIs (.ref z) "zip" := ⟨_, Z.zr, rfl⟩
 obtain ⟨u0, v0, eq⟩ := Z.out
 unfold pyNext
 refine wpAny_bind (wpAny_attempt (wpAny_callSpecial?_slot (name := Str.ofString "__next__") hT F.slot_zip_next (wpAny_call_entry F.slot_zip_next hT F.entry_zip_next ?body (F.args_zip_next_1 _))))
 case body =>
  show wpAny _ _ (field (.ref z) 2 >>= _) _ _ _
  refine wpAny_bind (wpAny_field Z.zr rfl (x := .bool false) rfl ?f2)
  show wpAny _ _ (field (.ref z) 3 >>= _) _ _ _
  refine wpAny_bind (wpAny_field Z.zr rfl (x := .ref p) rfl (wpAny_bind (wpAny_seqItems Z.ins rfl ?f3)))
  show wpAny _ _ (Builtin.SmallTypes.ownedTupleIsFree (.ref z) >>= _) _ _ _
  refine wpAny_bind ?f4
  unfold Builtin.SmallTypes.ownedTupleIsFree
  refine wpAny_bind (wpAny_field Z.zr rfl (x := .none) rfl (wpAny_pure ?f5))
  simp only [if_true]
  refine wpAny_bind (wpAny_rule (wpAny_bind (wpAny_field Z.zr rfl (x := .ref q) rfl (wpAny_bind (wpAny_setField_rec Z.zr (by simp) fun g1 z1 s1 => ?f6)))))
  have z1 : IsZip g1 z p q .ellipsis := z1
  refine wpAny_bind ?f7
  simp only [List.zipIdx_cons, List.zipIdx_nil, List.forIn_cons, List.forIn_nil]
  refine wpAny_bind (wpAny_bind (wpAny_onRaise ?f8))
  show wpAny _ _ (Builtin.SmallTypes.nextOf (.ref i) >>= _) _ _ _
  refine wpAny_bind (zfF (Z.one.extBut s1.extBut D.i1z) (ha.extBut s1.extBut D.l1z) hx fun g2 i2 s2 => wpAny_pure ?f9)
  have q2 : IsPair g2 q u0 v0 := s2.extBut _ _ D.TOi1 (s1.extBut _ _ D.TOz eq)
  refine wpAny_bind (wpAny_seqItems q2 rfl (wpAny_bind (wpAny_updateSeq_pair q2 fun g3 q3 s3 => ?f10)))
  have q3 : IsPair g3 q x v0 := q3
  refine wpAny_bind (wpAny_letGo (wpAny_pure ?f11))
  refine wpAny_bind (wpAny_bind (wpAny_onRaise ?f12))
  show wpAny _ _ (Builtin.SmallTypes.nextOf (.ref j) >>= _) _ _ _
  refine wpAny_bind (zfF (((Z.two.extBut s1.extBut D.i2z).extBut s2.extBut D.i12.symm).extBut s3.extBut D.TOi2.symm) (((hb.extBut s1.extBut D.l2z).extBut s2.extBut D.l2i1).extBut s3.extBut D.l2TO) hy fun g4 j4 s4 => wpAny_pure ?f13)
  have q4 : IsPair g4 q x v0 := s4.extBut _ _ D.TOi2 q3
  refine wpAny_bind (wpAny_seqItems q4 rfl (wpAny_bind (wpAny_updateSeq_pair q4 fun g5 q5 s5 => ?f14)))
  have q5 : IsPair g5 q x y := q5
  refine wpAny_bind (wpAny_letGo (wpAny_pure (wpAny_pure ?f15)))
  refine wpAny_bind (wpAny_seqItems q5 rfl (wpAny_bind (wpAny_newTuple ?f16)))
  have sz : g5.objs.size = s.heap.objs.size := by rw [s5.1, s4.1, s3.1, s2.1, s1.1]
  have z5 : IsZip g5 z p q .ellipsis := s5.extBut _ _ D.TOz.symm (s4.extBut _ _ D.i2z.symm (s3.extBut _ _ D.TOz.symm (s2.extBut _ _ D.i1z.symm z1)))
  have k5 : ∀ c o, c ∉ [z, q, i, j] → s.heap.get? c = some o → g5.get? c = some o := fun c o hc e => by
   have c1 : c ≠ z := fun t => hc (by simp [t])
   have c2 : c ≠ q := fun t => hc (by simp [t])
   have c3 : c ≠ i := fun t => hc (by simp [t])
   have c4 : c ≠ j := fun t => hc (by simp [t])
   exact s5.extBut _ _ c2 (s4.extBut _ _ c4 (s3.extBut _ _ c2 (s2.extBut _ _ c3 (s1.extBut _ _ c1 e))))
  have i5 : g5.IsTupleIter i a (k + 1) := ((i2.extBut s3.extBut D.TOi1.symm).extBut s4.extBut D.i12).extBut s5.extBut D.TOi1.symm
  have j5 : g5.IsTupleIter j b (k + 1) := j4.extBut s5.extBut D.TOi2.symm
  have zlt : z < g5.objs.size := Heap.lt_size z5
  show wpAny _ _ (Builtin.SmallTypes.ownedTupleHandOut (.ref z) (.ref g5.objs.size) >>= _) _ _ _
  refine wpAny_bind ?f17
  unfold Builtin.SmallTypes.ownedTupleHandOut
  have z6 : IsZip (g5.push { cls := .type "tuple", data := .seq #[x, y] }) z p q .ellipsis := Heap.get?_push_of_some _ z5
  refine wpAny_bind (wpAny_setField_rec z6 (by simp) fun g7 z7 s7 => ?f18)
  have z7 : IsZip g7 z p q (rawInt g5.objs.size) := z7
  refine wpAny_setField_rec z7 (by simp) fun g8 z8 s8 => ?f19
  have z8 : IsZip g8 z p q (rawInt g5.objs.size) := z8
  have up : ∀ c o, c ≠ z → g5.get? c = some o → g8.get? c = some o := fun c o c1 e => s8.extBut _ _ c1 (s7.extBut _ _ c1 (Heap.get?_push_of_some _ e))
  have t8 : IsPair g8 g5.objs.size x y := s8.extBut _ _ (Nat.ne_of_gt zlt) (s7.extBut _ _ (Nat.ne_of_gt zlt) (Heap.get?_push_size _ rfl))
  rw [sz] at z8 t8
  have pne : p ∉ [z, q, i, j] := by
   intro t
   simp only [List.mem_cons, List.not_mem_nil, or_false] at t
   rcases t with t | t | t | t
   ·exact D.TIz t
   ·exact D.TITO t
   ·exact D.TIi1 t
   ·exact D.TIi2 t
  have fin := h g8 z8 (up _ _ D.TIz (k5 p _ pne Z.ins)) (up _ _ D.TOz q5) (i5.at fun o e => up _ o D.i1z e) (j5.at fun o e => up _ o D.i2z e) t8 fun c o hc e => up c o (fun t => hc (by simp [t])) (k5 c o hc e)
  refine wpAny_pure ⟨_, rfl, wpAny_pure ?_⟩
  show Q (some (.ref g5.objs.size)) _
  rw [sz]
  exact fin
theorem ziM {z p q i j a b : Addr} {k : Nat} {xs ys : Array Value} {Q : Option Value → Shared → Prop} (hh : A.handled = none) (D : ZipApart z p q i j a b) (Z : ZS s.heap z p q i j a b k) (ha : s.heap.IsTuple a xs) (hb : s.heap.IsTuple b ys) (he : xs[k]? = none ∨ ys[k]? = none)
  (h : ∀ g, (∀ c o, c ∉ [z, q, i, j] → s.heap.get? c = some o → g.get? c = some o) → Q none { s with heap := g }) : wpAny (model prog w) A (pyNext (.ref z)) Q E s := by
 have hT : s.TypeIs (.ref z) "zip" := ⟨_, Z.zr, rfl⟩
 obtain ⟨u0, v0, eq⟩ := Z.out
 have apart : ∀ c, c ∉ [z, q, i, j] → c ≠ z ∧ c ≠ q ∧ c ≠ i ∧ c ≠ j := fun c hc => ⟨fun t => hc (by simp [t]), fun t => hc (by simp [t]), fun t => hc (by simp [t]), fun t => hc (by simp [t])⟩
 unfold pyNext
 refine wpAny_bind (wpAny_attempt (wpAny_callSpecial?_slot (name := Str.ofString "__next__") hT F.slot_zip_next (wpAny_call_entry F.slot_zip_next hT F.entry_zip_next ?body (F.args_zip_next_1 _))))
 case body =>
  have fin : ∀ g x, (∀ c o, c ∉ [z, q, i, j] → s.heap.get? c = some o → g.get? c = some o) → (∃ o, g.get? x = some o ∧ o.cls = .type "StopIteration") → wpAny (model prog w) A (isInstance (.ref x) (.type "StopIteration")) (fun r s' => wpAny (model prog w) A (if r = true then pure none else throw (.ref x)) Q E s') E { s with heap := g } := fun g x kp hx => by
   obtain ⟨o, ho, hc⟩ := hx
   exact wpAny_isInstance (T := "StopIteration") (b := true) ⟨o, ho, hc⟩ isSubtype_stop (wpAny_pure (h g kp))
  show wpAny _ _ (field (.ref z) 2 >>= _) _ _ _
  refine wpAny_bind (wpAny_field Z.zr rfl (x := .bool false) rfl ?f2)
  show wpAny _ _ (field (.ref z) 3 >>= _) _ _ _
  refine wpAny_bind (wpAny_field Z.zr rfl (x := .ref p) rfl (wpAny_bind (wpAny_seqItems Z.ins rfl ?f3)))
  show wpAny _ _ (Builtin.SmallTypes.ownedTupleIsFree (.ref z) >>= _) _ _ _
  refine wpAny_bind ?f4
  unfold Builtin.SmallTypes.ownedTupleIsFree
  refine wpAny_bind (wpAny_field Z.zr rfl (x := .none) rfl (wpAny_pure ?f5))
  simp only [if_true]
  refine wpAny_bind (wpAny_rule (wpAny_bind (wpAny_field Z.zr rfl (x := .ref q) rfl (wpAny_bind (wpAny_setField_rec Z.zr (by simp) fun g1 z1 s1 => ?f6)))))
  have z1 : IsZip g1 z p q .ellipsis := z1
  refine wpAny_bind ?f7
  simp only [List.zipIdx_cons, List.zipIdx_nil, List.forIn_cons, List.forIn_nil]
  refine wpAny_bind (wpAny_bind (wpAny_onRaise ?f8))
  show wpAny _ _ (Builtin.SmallTypes.nextOf (.ref i) >>= _) _ _ _
  cases hx : xs[k]? with
  | none =>
   refine wpAny_bind (zju hh (Z.one.extBut s1.extBut D.i1z) (ha.extBut s1.extBut D.l1z) hx fun g2 x s2 hx' => ?g1)
   obtain ⟨ox, eox, cox⟩ := hx'
   have z2 : IsZip g2 z p q .ellipsis := s2 _ _ D.i1z.symm z1
   have xz : x ≠ z := fun t => by subst t; rw [z2] at eox; cases eox; simp at cox
   refine wpAny_setField_rec z2 (by simp) fun g3 _ s3 => wpAny_bind (fin g3 x (fun c o hc e => ?g2) ⟨ox, s3.extBut _ _ xz eox, cox⟩)
   obtain ⟨c1, _, c3, _⟩ := apart c hc
   exact s3.extBut _ _ c1 (s2 _ _ c3 (s1.extBut _ _ c1 e))
  | some x0 =>
   have hy : ys[k]? = none := by
    rcases he with t | t
    ·rw [hx] at t; cases t
    ·exact t
   refine wpAny_bind (zfF (Z.one.extBut s1.extBut D.i1z) (ha.extBut s1.extBut D.l1z) hx fun g2 i2 s2 => wpAny_pure ?g3)
   have q2 : IsPair g2 q u0 v0 := s2.extBut _ _ D.TOi1 (s1.extBut _ _ D.TOz eq)
   refine wpAny_bind (wpAny_seqItems q2 rfl (wpAny_bind (wpAny_updateSeq_pair q2 fun g3 q3 s3 => ?g4)))
   refine wpAny_bind (wpAny_letGo (wpAny_pure ?g5))
   refine wpAny_bind (wpAny_bind (wpAny_onRaise ?g6))
   show wpAny _ _ (Builtin.SmallTypes.nextOf (.ref j) >>= _) _ _ _
   refine wpAny_bind (zju hh (((Z.two.extBut s1.extBut D.i2z).extBut s2.extBut D.i12.symm).extBut s3.extBut D.TOi2.symm) (((hb.extBut s1.extBut D.l2z).extBut s2.extBut D.l2i1).extBut s3.extBut D.l2TO) hy fun g4 x s4 hx' => ?g7)
   obtain ⟨ox, eox, cox⟩ := hx'
   have z4 : IsZip g4 z p q .ellipsis := s4 _ _ D.i2z.symm (s3.extBut _ _ D.TOz.symm (s2.extBut _ _ D.i1z.symm z1))
   have xz : x ≠ z := fun t => by subst t; rw [z4] at eox; cases eox; simp at cox
   refine wpAny_setField_rec z4 (by simp) fun g5 _ s5 => wpAny_bind (fin g5 x (fun c o hc e => ?g8) ⟨ox, s5.extBut _ _ xz eox, cox⟩)
   obtain ⟨c1, c2, c3, c4⟩ := apart c hc
   exact s5.extBut _ _ c1 (s4 _ _ c4 (s3.extBut _ _ c2 (s2.extBut _ _ c3 (s1.extBut _ _ c1 e))))
end
end L2
end
section
namespace L2
open PySem PySem.Spec PyProof.Rows
section
variable {prog : Program} {w : World} {A : Around} {E : Value → Shared → Prop} {s : Shared}
def zhE (h : Heap) (a b : Addr) : Heap :=
 ((((h.push { cls := .type "tuple_iterator", data := .fields #[.ref a, .int 0 0] }).push { cls := .type "tuple_iterator", data := .fields #[.ref b, .int 0 0] }).push { cls := .type "tuple", data := .seq #[.ref h.objs.size, .ref (h.push { cls := .type "tuple_iterator", data := .fields #[.ref a, .int 0 0] }).objs.size] }).push { cls := .type "tuple", data := .seq #[.none, .none] }).push
  { cls := .type "zip", data := .fields #[.none, .bool false, .bool false, .ref ((h.push { cls := .type "tuple_iterator", data := .fields #[.ref a, .int 0 0] }).push { cls := .type "tuple_iterator", data := .fields #[.ref b, .int 0 0] }).objs.size,
   .ref (((h.push { cls := .type "tuple_iterator", data := .fields #[.ref a, .int 0 0] }).push { cls := .type "tuple_iterator", data := .fields #[.ref b, .int 0 0] }).push { cls := .type "tuple", data := .seq #[.ref h.objs.size, .ref (h.push { cls := .type "tuple_iterator", data := .fields #[.ref a, .int 0 0] }).objs.size] }).objs.size] }
theorem ziN (a b : Addr) (xs ys : Array Value) :
  Meets (Builtin.«zip.__new__» ⟨[.type "zip", .ref a, .ref b], []⟩) (fun _ R s => s.heap.IsTuple a xs ∧ s.heap.IsTuple b ys ∧
   R (.ok (.ret (.ref (((((s.heap.push { cls := .type "tuple_iterator", data := .fields #[.ref a, .int 0 0] }).push { cls := .type "tuple_iterator", data := .fields #[.ref b, .int 0 0] }).push { cls := .type "tuple", data := .seq #[.ref s.heap.objs.size, .ref (s.heap.push { cls := .type "tuple_iterator", data := .fields #[.ref a, .int 0 0] }).objs.size] }).push { cls := .type "tuple", data := .seq #[.none, .none] }).objs.size))))
    { s with heap := zhE s.heap a b }) :=
 .of_wp fun prog w A R s h => by
  obtain ⟨hp, g, d, tk, os⟩ := s
  obtain ⟨h1, h2, h⟩ := h
  have hsub := sub_zip
  have k1 : Heap.IsTuple (Shared.heap ⟨hp, g, d, tk, os⟩) a xs := h1
  have k2 : Heap.IsTuple (Shared.heap ⟨hp.push { cls := .type "tuple_iterator", data := .fields #[.ref a, .int 0 0] }, g, d, tk, os⟩) b ys := by
   obtain ⟨o, e, r⟩ := h2
   exact ⟨o, Heap.get?_push_of_some _ e, r⟩
  wp_walk using wpAny_pyIter_tuple k1, wpAny_pyIter_tuple k2
  exact ⟨_, rfl, h⟩
theorem zhF {a b : Addr} {xs ys : Array Value} {Q : Value → Shared → Prop} (ha : s.heap.IsTuple a xs) (hb : s.heap.IsTuple b ys)
  (h : ∀ g, ZS g (s.heap.objs.size + 4) (s.heap.objs.size + 2) (s.heap.objs.size + 3) s.heap.objs.size (s.heap.objs.size + 1) a b 0 → (∀ c o, s.heap.get? c = some o → g.get? c = some o) → Q (.ref (s.heap.objs.size + 4)) { s with heap := g }) :
  wpAny (model prog w) A (call (.type "zip") [.ref a, .ref b]) Q E s := by
 refine callType_new F.called_zip (by decide) (F.typeCall_zip_2 _ _) (F.newCall_zip_2 _ _) (fun obj => F.args_object_init_3 obj _ _) F.entry_zip_new (ziN a b xs ys) ⟨ha, hb, ?_⟩
 unfold zhE
 generalize e1 : s.heap.push { cls := .type "tuple_iterator", data := .fields #[.ref a, .int 0 0] } = g1
 have z1 : g1.objs.size = s.heap.objs.size + 1 := by rw [← e1]; exact Heap.size_push ..
 have i1 : g1.get? s.heap.objs.size = some { cls := .type "tuple_iterator", data := .fields #[.ref a, .int 0 0] } := by rw [← e1]; exact Heap.get?_push_size _ rfl
 have k1 : ∀ c o, s.heap.get? c = some o → g1.get? c = some o := fun c o e => by rw [← e1]; exact Heap.get?_push_of_some _ e
 generalize e2 : g1.push { cls := .type "tuple_iterator", data := .fields #[.ref b, .int 0 0] } = g2
 have z2 : g2.objs.size = s.heap.objs.size + 2 := by rw [← e2, Heap.size_push, z1]
 have i2 : g2.get? (s.heap.objs.size + 1) = some { cls := .type "tuple_iterator", data := .fields #[.ref b, .int 0 0] } := by rw [← e2, ← z1]; exact Heap.get?_push_size _ rfl
 have k2 : ∀ c o, g1.get? c = some o → g2.get? c = some o := fun c o e => by rw [← e2]; exact Heap.get?_push_of_some _ e
 generalize e3 : g2.push { cls := .type "tuple", data := .seq #[.ref s.heap.objs.size, .ref g1.objs.size] } = g3
 have z3 : g3.objs.size = s.heap.objs.size + 3 := by rw [← e3, Heap.size_push, z2]
 have i3 : g3.get? (s.heap.objs.size + 2) = some { cls := .type "tuple", data := .seq #[.ref s.heap.objs.size, .ref g1.objs.size] } := by rw [← e3, ← z2]; exact Heap.get?_push_size _ rfl
 have k3 : ∀ c o, g2.get? c = some o → g3.get? c = some o := fun c o e => by rw [← e3]; exact Heap.get?_push_of_some _ e
 generalize e4 : g3.push { cls := .type "tuple", data := .seq #[.none, .none] } = g4
 have z4 : g4.objs.size = s.heap.objs.size + 4 := by rw [← e4, Heap.size_push, z3]
 have i4 : g4.get? (s.heap.objs.size + 3) = some { cls := .type "tuple", data := .seq #[.none, .none] } := by rw [← e4, ← z3]; exact Heap.get?_push_size _ rfl
 have k4 : ∀ c o, g3.get? c = some o → g4.get? c = some o := fun c o e => by rw [← e4]; exact Heap.get?_push_of_some _ e
 generalize e5 : g4.push { cls := .type "zip", data := .fields #[.none, .bool false, .bool false, .ref g2.objs.size, .ref g3.objs.size] } = g5
 have i5 : g5.get? (s.heap.objs.size + 4) = some { cls := .type "zip", data := .fields #[.none, .bool false, .bool false, .ref g2.objs.size, .ref g3.objs.size] } := by rw [← e5, ← z4]; exact Heap.get?_push_size _ rfl
 have k5 : ∀ c o, g4.get? c = some o → g5.get? c = some o := fun c o e => by rw [← e5]; exact Heap.get?_push_of_some _ e
 rw [z4]
 rw [z2, z3] at i5
 rw [z1] at i3
 exact ⟨⟨_, i5, rfl⟩, h _ ⟨i5, k5 _ _ (k4 _ _ i3), ⟨_, _, k5 _ _ i4⟩, ⟨_, k5 _ _ (k4 _ _ (k3 _ _ (k2 _ _ i1))), rfl, rfl⟩, ⟨_, k5 _ _ (k4 _ _ (k3 _ _ i2)), rfl, rfl⟩⟩ fun c o e => k5 _ _ (k4 _ _ (k3 _ _ (k2 _ _ (k1 _ _ e))))⟩
end
def Itz (K : PySem.W.Frag) (a b : Addr) : It :=
  ⟨fun i H => ∃ xs ys x y, SqT K H a xs ∧ SqT K H b ys ∧ xs[i]? = some x ∧ ys[i]? = some y,
   fun i H v H' => ∃ p x y, H p = none ∧ v = .ref p ∧ H' = upd H p (.tup [x, y]) ∧ (∀ xs, SqT K H a xs → xs[i]? = some x) ∧ ∀ ys, SqT K H b ys → ys[i]? = some y,
   fun i H => ∃ xs ys, SqT K H a xs ∧ SqT K H b ys ∧ (xs.length ≤ i ∨ ys.length ≤ i)⟩
theorem ziO {P : Program} {w : World} {K : PySem.W.Frag} {es : List Expr} {k : Nat} {pos : Pos} {z p q i j a b : Addr} (D : ZipApart z p q i j a b) : Turn P w K (.Tuple es k pos) (Itz K a b) [z, p, q, i, j] z (fun n h => ZS h z p q i j a b n) where
 mem := by simp
 obj := fun n h st c hc => by
  simp only [List.mem_cons, List.not_mem_nil, or_false] at hc
  rcases hc with rfl | rfl | rfl | rfl | rfl
  ·exact ⟨_, st.zr, fun v e => nomatch e⟩
  ·exact ⟨_, st.ins, fun v e => nomatch e⟩
  ·obtain ⟨u, v, e⟩ := st.out; exact ⟨_, e, fun v e => nomatch e⟩
  ·obtain ⟨o, e, _, d⟩ := st.one; exact ⟨o, e, fun v t => by rw [d] at t; cases t⟩
  ·obtain ⟨o, e, _, d⟩ := st.two; exact ⟨o, e, fun v t => by rw [d] at t; cases t⟩
 keep := fun n h h' st kp => st.keep kp
 item := by
  intro X hP hw hK hc n pins s σ H E I hf st hg
  subst hP hw hK
  obtain ⟨xs, ys, x, y, qa, qb, hx, hy⟩ := hg
  obtain ⟨ia, ra, ta, _⟩ := I.tuple qa
  obtain ⟨ib, rb, tb, _⟩ := I.tuple qb
  obtain ⟨u, hu, ru⟩ := ra.get hx
  obtain ⟨v, hv, rv⟩ := rb.get hy
  refine zl6 D st ta tb (x := u) (y := v) (by simpa using hu) (by simpa using hv) fun g gz gp gq gi gj gt kp => ?_
  refine ⟨_, rfl, wpAny_letOwnedTupleGo_zip (s := { s with heap := g }) gz fun g' gz' sb => ?_⟩
  have ne : ∀ c o, s.heap.get? c = some o → c ≠ s.heap.objs.size := fun c o e => Nat.ne_of_lt (Heap.lt_size e)
  have zne : s.heap.objs.size ≠ z := (ne z _ st.zr).symm
  have t' : IsPair g' s.heap.objs.size u v := (sb.2 _ zne).trans gt
  have f := I.hok.fresh (Nat.le_refl s.heap.objs.size)
  have free : ∀ c ∈ [z, p, q, i, j], H c = none := fun c hc => (hf c hc).1
  have kp' : ∀ c o, c ∉ [z, q, i, j] → s.heap.get? c = some o → g'.get? c = some o := fun c o hc e => (sb.2 c (fun t => hc (by simp [t]))).trans (kp c o hc e)
  have sub : ∀ c, c ∈ [z, q, i, j] → c ∈ [z, p, q, i, j] := fun c hc => by
   simp only [List.mem_cons, List.not_mem_nil, or_false] at hc ⊢
   rcases hc with h | h | h | h <;> simp [h]
  have tracked : ∀ c o, H c = some o → c ∉ [z, q, i, j] := fun c o e hc => by rw [free c (sub c hc)] at e; cases e
  have hok : HOk X.prog X.w (upd H s.heap.objs.size (.tup [x, y])) g' := fun c o e => by
   by_cases hc : c = s.heap.objs.size
   ·subst hc
    rw [zaG] at e
    cases e
    exact ⟨by rw [sizeLine_eq]; show 2 ≤ _; omega, [u, v], .cons ru (.cons rv .nil), _, t', rfl, 0, rfl⟩
   ·rw [zaB hc] at e
    refine (I.hok c o e).stay (fun d o' hd e' => kp' d o' ?_ e') (fun d e' => by rw [zaB (zaP e' f)]; exact e') fun d xs e' => by rw [zaB (zaP e' f)]; exact e'
    rcases hd with rfl | hd
    ·exact tracked _ _ e
    ·exact tracked _ _ hd
  have I' : Inv X pins σ (upd H s.heap.objs.size (.tup [x, y])) { s with heap := g' } := by
   refine I.step (g' := s.gens) (t' := s.toks) (d' := s.drawn) (ch := [z, q, i, j]) (fun c hc => ?_) (fun c o _ _ hc e _ => kp' c o hc e) (fun c o _ _ hc e _ => ⟨o.slots, kp' c o hc e⟩) (fun c o hc e n => by rw [zaB (ne c o e)]; exact n)
    (fun c o hc e => ⟨o, kp' c o hc e⟩) (fun c xs e => by rw [zaB (zaP e f)]; exact e) (fun c o u e => by rw [zaB (zaP e f)]; exact e) (fun c ps e => ⟨#[], by rw [zaB (zaP e f), e]; simp⟩) (fun m hm => ?_) hok I.bare
   ·obtain ⟨_, f1, _, f3, f4, f5⟩ := hf c (sub c hc)
    exact ⟨f3, f1, f4, f5⟩
   ·obtain ⟨o, es', ep, ho, r⟩ := hm
    exact ⟨o, es', ep, kp' _ o (fun hc => (hf _ (sub _ hc)).2.1 rfl) ho, r⟩
  refine ⟨.ref s.heap.objs.size, _, I', rfl, ⟨_, x, y, f, rfl, rfl, fun zs hz => by rw [I.zdy hz qa]; exact hx, fun zs hz => by rw [I.zdy hz qb]; exact hy⟩, ?_, fun c hc => ?_⟩
  ·exact ⟨gz', (sb.2 _ D.TIz).trans gp, ⟨_, _, (sb.2 _ D.TOz).trans gq⟩, gi.at fun o e => (sb.2 _ D.i1z).trans e, gj.at fun o e => (sb.2 _ D.i2z).trans e⟩
  ·rw [zaB]
   ·exact free c hc
   ·simp only [List.mem_cons, List.not_mem_nil, or_false] at hc
    rcases hc with rfl | rfl | rfl | rfl | rfl
    ·exact ne _ _ st.zr
    ·exact ne _ _ st.ins
    ·obtain ⟨_, _, e⟩ := st.out; exact ne _ _ e
    ·obtain ⟨_, e, _⟩ := st.one; exact ne _ _ e
    ·obtain ⟨_, e, _⟩ := st.two; exact ne _ _ e
 done := by
  intro X hP hw hK hc n pins s σ H E I hf st hg
  subst hP hw hK
  obtain ⟨xs, ys, qa, qb, hl⟩ := hg
  obtain ⟨ia, ra, ta, _⟩ := I.tuple qa
  obtain ⟨ib, rb, tb, _⟩ := I.tuple qb
  have la := ra.length
  have lb := rb.length
  have sub : ∀ c, c ∈ [z, q, i, j] → c ∈ [z, p, q, i, j] := fun c hc => by
   simp only [List.mem_cons, List.not_mem_nil, or_false] at hc ⊢
   rcases hc with h | h | h | h <;> simp [h]
  refine ziM (I.ok.hd hc) D st ta tb ?_ fun g kp => ⟨rfl, ?_⟩
  ·rcases hl with h | h
   ·exact .inl (by simp; omega)
   ·exact .inr (by simp; omega)
  ·have tracked : ∀ c o, H c = some o → c ∉ [z, q, i, j] := fun c o e hc => by rw [(hf c (sub c hc)).1] at e; cases e
   refine I.step (g' := s.gens) (t' := s.toks) (d' := s.drawn) (ch := [z, q, i, j]) (fun c hc => ?_) (fun c o _ _ hc e _ => kp c o hc e) (fun c o _ _ hc e _ => ⟨o.slots, kp c o hc e⟩) (fun c o hc e n => n)
    (fun c o hc e => ⟨o, kp c o hc e⟩) (fun c xs e => e) (fun c o u e => e) (fun c ps e => ⟨#[], by rw [e]; simp⟩) (fun m hm => ?_) (fun c o e => ?_) I.bare
   ·obtain ⟨_, f1, _, f3, f4, f5⟩ := hf c (sub c hc)
    exact ⟨f3, f1, f4, f5⟩
   ·obtain ⟨o, es', ep, ho, r⟩ := hm
    exact ⟨o, es', ep, kp _ o (fun hc => (hf _ (sub _ hc)).2.1 rfl) ho, r⟩
   ·refine (I.hok c o e).stay (fun d o' hd e' => kp d o' ?_ e') (fun d e' => e') fun d xs e' => e'
    rcases hd with rfl | hd
    ·exact tracked _ _ e
    ·exact tracked _ _ hd
 self := fun _ _ _ _ _ st h => wpAny_pyIter_zip st.zr h
section
variable {X : Cx}
def iZip (K : PySem.W.Frag) (ta : TA) : TI := fun σ H R => ta σ H fun vs H1 => ∃ a b, vs = [.ref a, .ref b] ∧ (∃ xs, SqT K H1 a xs) ∧ (∃ ys, SqT K H1 b ys) ∧ R (Itz K a b) H1
theorem zl7 {a b : Expr} {ta : TA} {p pos tp : Pos} {es : List Expr} {k : Nat} (hg : Gl X "zip") (hm : X.mg "zip" = none) (ha : PA X [a, b] ta) (hs : starEach [a, b] X.env = [(false, eval a X.env), (false, eval b X.env)] := by rfl) (hs2 : starEach [b] X.env = [(false, eval b X.env)] := by rfl) :
  PI X (.Tuple es k tp) (.Call (.Name "zip" p) [a, b] [] pos) (iZip X.K ta) := by
 intro pins s σ H R I h
 refine wpAny_Call_Name_kw (zeG I hg hm PyProof.Rows.boot_zip ?_)
 refine PyProof.Rows.callWith_type1 (thn (ha pos pins s σ H _ I h) fun us s1 ⟨vs, H1, I1, r1, q1⟩ => ?_) (by rw [hs, hs2]) (by rw [hs2]; rfl)
 obtain ⟨a', b', e, ⟨xs, qa⟩, ⟨ys, qb⟩, q⟩ := q1
 subst e
 obtain ⟨u, v, rfl, ru, rv⟩ := vals2 r1
 cases ru
 cases rv
 obtain ⟨ia, ra, ta', _⟩ := I1.tuple qa
 obtain ⟨ib, rb, tb, _⟩ := I1.tuple qb
 refine zhF ta' tb fun g Z kp => ?_
 refine wpAny_pyIter_zip (s := { s1 with heap := g }) Z.zr ?_
 have la : a' < s1.heap.objs.size := by obtain ⟨_, e, _⟩ := ta'; exact Heap.lt_size e
 have lb : b' < s1.heap.objs.size := by obtain ⟨_, e, _⟩ := tb; exact Heap.lt_size e
 have fr : ∀ c, s1.heap.objs.size ≤ c → zgC X pins H1 c := fun c hc => I1.fpOk hc (I1.hok.fresh hc)
 refine ⟨_, _, _, _, H1, rfl, I1.kept (t' := s1.toks) kp, ziO (PyProof.Rows.zipApart_new la lb), Z, fun c hc => ?_, q⟩
 simp only [List.mem_cons, List.not_mem_nil, or_false] at hc
 rcases hc with h | h | h | h | h
 ·exact h ▸ fr _ (Nat.le_add_right _ _)
 ·exact h ▸ fr _ (Nat.le_add_right _ _)
 ·exact h ▸ fr _ (Nat.le_add_right _ _)
 ·exact h ▸ fr _ (Nat.le_refl _)
 ·exact h ▸ fr _ (Nat.le_add_right _ _)
end
end L2
end
section
namespace L2
open PySem PySem.Spec PyProof.Rows
mutual
inductive Rp (K : PySem.W.Frag) (H : Hp) : V → PyData → Prop
 | non : Rp K H .non .none
 | bl (b : Bool) : Rp K H (.bl b) (.bool b)
 | int (i : Int) : Rp K H (.int i) (.int i)
 | str (x : Str) : Rp K H (.str x) (.str x)
 | tup {a : Addr} {xs : List V} {ds : List PyData} : SqT K H a xs → Rps K H xs ds → Rp K H (.ref a) (.tuple ds)
inductive Rps (K : PySem.W.Frag) (H : Hp) : List V → List PyData → Prop
 | nil : Rps K H [] []
 | cons {v : V} {vs : List V} {d : PyData} {ds : List PyData} : Rp K H v d → Rps K H vs ds → Rps K H (v :: vs) (d :: ds)
end
def zdF (H H' : Hp) : Prop := ∀ a u, Rd H a (.tup u) → Rd H' a (.tup u)
theorem zdF.refl {H : Hp} : zdF H H := fun _ _ h => h
theorem zdF.trans {H H1 H2 : Hp} (a : zdF H H1) (b : zdF H1 H2) : zdF H H2 := fun c u h => b c u (a c u h)
theorem zdF.sq {K : PySem.W.Frag} {H H' : Hp} (t : zdF H H') {a : Addr} {xs : List V} (h : SqT K H a xs) : SqT K H' a xs := by
 rcases h with h | h
 ·exact .inl (t a xs h)
 ·exact .inr h
theorem zdF.put {H : Hp} {a : Addr} {o o' : HO} (h : H a = some o) (hn : ∀ u, o ≠ .tup u) (hf : ∀ x u, o ≠ .frz x u) : zdF H (upd H a o') := fun c u r => by
 rcases r with e | ⟨x, e⟩
 ·exact .inl (by rw [zaB (zjU e h fun z => hn u z.symm)]; exact e)
 ·exact .inr ⟨x, by rw [zaB (zjU e h fun z => hf x _ z.symm)]; exact e⟩
theorem zdF.lst {H : Hp} {a : Addr} {xs : List V} {o' : HO} (h : H a = some (.lst xs)) : zdF H (upd H a o') := .put h (fun _ z => nomatch z) fun _ _ z => nomatch z
theorem zdF.dk {H : Hp} {a : Addr} {xs : List (Key × V)} {o' : HO} (h : H a = some (.dK xs)) : zdF H (upd H a o') := .put h (fun _ z => nomatch z) fun _ _ z => nomatch z
theorem zdU.zca {H H' : Hp} (s : zdU H H') : zdF H H' := fun a u r => by
 rcases r with e | ⟨o, e⟩
 ·exact .inl (s _ _ e)
 ·exact .inr ⟨o, s _ _ e⟩
end L2
end
section
namespace L2
open PySem PySem.Spec PyProof.Rows
section
variable {X : Cx}
theorem ze0 {h : Heap} : ∀ {vs : List Value} {ds : List PyData} {as : List Addr}, ReadsAll h vs ds as → ∀ v ∈ vs, ∃ d bs, d ∈ ds ∧ Reads h v d bs
 | _, _, _, .nil, v, hv => nomatch hv
 | _, _, _, .cons r q, v, hv => by
  rcases lK hv with e | hv
  ·subst e; exact ⟨_, _, lS, r⟩
  ·obtain ⟨d, bs, h1, h2⟩ := ze0 q v hv
   exact ⟨d, bs, lO _ h1, h2⟩
theorem zjv {ds : List PyData} (h : PyData.canLayAll0 ds = true) : ∀ d ∈ ds, d.canLay0 = true := by
 induction ds with
 | nil => intro d hd; exact nomatch hd
 | cons x xs ih =>
  unfold PyData.canLayAll0 at h
  rw [Bool.and_eq_true] at h
  intro d hd
  rcases lK hd with e | hd
  ·subst e; exact h.1
  ·exact ih h.2 d hd
noncomputable def eqH (h : Heap) (e : PyData) (u : Value) : Bool := @decide (∃ d as, Reads h u d as ∧ PyData.eqv d e = true) (Classical.propDecidable _)
theorem zjw {h : Heap} {e d : PyData} {u : Value} {as : List Addr} (r : Reads h u d as) (c : d.canLay0 = true) : eqH h e u = PyData.eqv d e := by
 unfold eqH
 cases q : PyData.eqv d e with
 | true => exact @decide_eq_true _ (Classical.propDecidable _) ⟨d, as, r, q⟩
 | false =>
  refine @decide_eq_false _ (Classical.propDecidable _) ?_
  rintro ⟨d', as', r', q'⟩
  rw [← SeqAt.Reads.unique d d' u as as' c r r'] at q'
  rw [q] at q'
  cases q'
theorem zfG {h : Heap} {e : PyData} : ∀ {vs : List Value} {ds : List PyData} {as : List Addr}, ReadsAll h vs ds as → PyData.canLayAll0 ds = true → vs.any (eqH h e) = ds.any fun d => PyData.eqv d e
 | _, _, _, .nil, _ => rfl
 | _, _, _, .cons r q, c => by
  unfold PyData.canLayAll0 at c
  rw [Bool.and_eq_true] at c
  rw [List.any_cons, List.any_cons, zjw r c.1, zfG q c.2]
theorem zjx {pins : List (Addr × Obj)} {σ : St} {H : Hp} {s : Shared} {its : List Value} {ds : List PyData} {as bs : List Addr} {e : PyData} {v : Value} (hu : X.A.units + 64 < cLine) (r : ReadsAll s.heap its ds as) (re : Reads s.heap v e bs) (c : PyData.canLayAll0 ds = true) (ce : e.canLay0 = true) (dp : e.depth ≤ 50) :
  ∀ y, y ∈ its.toArray → SeqAt.EqAt X.A.in1 s y v (eqH s.heap e y) := fun y hy => by
 obtain ⟨d, cs, hd, rd⟩ := ze0 r y (by simpa using hy)
 rw [zjw rd (zjv c d hd)]
 refine SeqAt.eqAt_reads d e X.A.in1 s y v cs bs rd re (zjv c d hd) ce ?_
 show X.A.units + 1 + _ < _
 omega
theorem zkp : OpR X (binaryOp .Pow) (rI (fun i j => 0 ≤ j ∧ (Builtin.Int.intBits i : Int) * j ≤ 2 ^ 27) fun i j => .int (i ^ j.toNat)) := opI fun _ _ _ _ _ _ _ hc q => pow_int hc.1 hc.2 q
inductive zdl (K : PySem.W.Frag) (H : Hp) : V → String → Prop where
 | non : zdl K H .non "NoneType"
 | bl (x : Bool) : zdl K H (.bl x) "bool"
 | int (i : Int) : zdl K H (.int i) "int"
 | str (x : Str) : zdl K H (.str x) "str"
 | lst {a : Addr} {xs : List V} (e : SqL K H a xs) : zdl K H (.ref a) "list"
 | tup {a : Addr} {xs : List V} (e : SqT K H a xs) : zdl K H (.ref a) "tuple"
 | dK {a : Addr} {kvs : List (Key × V)} (e : H a = some (.dK kvs)) : zdl K H (.ref a) "dict"
def subB (t c : String) : Bool := t == c || (t == "bool" && c == "int")
def zbD : List String := ["NoneType", "bool", "int", "str", "list", "tuple", "dict"]
theorem zkq (K : PySem.W.Frag) : ∀ t ∈ zbD, ∀ c ∈ zbD, c ≠ "NoneType" → PySem.W.kitOne K (.type t) (.type c) = some (subB t c) := by
 intro t ht c hc hn
 simp only [zbD, List.mem_cons, List.not_mem_nil, or_false] at ht hc
 rcases hc with rfl | rfl | rfl | rfl | rfl | rfl | rfl
 ·exact absurd rfl hn
 all_goals (rcases ht with rfl | rfl | rfl | rfl | rfl | rfl | rfl <;> first | rfl | decide +kernel)
theorem zdl.mem {K : PySem.W.Frag} {H : Hp} {x : V} {t : String} (h : zdl K H x t) : t ∈ zbD := by
 cases h <;> simp [zbD]
theorem zfH : za3 X (.builtin "isinstance") (fun xs H Q => ∃ x t c, xs = [x, .ty c] ∧ zdl X.K H x t ∧ c ∈ zbD ∧ c ≠ "NoneType" ∧ Q (.bl (subB t c)) H) := by
 intro pins s σ H xs us Q I r h
 obtain ⟨x, t, c, rfl, ty, hc, hn, q⟩ := h
 obtain ⟨u, w', rfl, rx, rw'⟩ := vals2 r
 cases rw'
 have e := zkq X.K t ty.mem c hc hn
 have fin : ∀ tk, EP X pins σ Q (.bool (subB t c)) { s with toks := tk } := fun tk => ⟨.bl _, H, I.tok tk, rfl, q⟩
 cases ty with
 | non => cases rx; exact PySem.W.kia_one PySem.W.kitx_none I.kIn True.intro e (fun z => nomatch z) fin
 | bl y => cases rx; exact PySem.W.kia_one PySem.W.kitx_bool I.kIn True.intro e (fun z => nomatch z) fin
 | int i => obtain ⟨t, rfl⟩ := rx; exact PySem.W.kia_one PySem.W.kitx_int I.kIn True.intro e (fun z => nomatch z) fin
 | str y => obtain ⟨t, rfl⟩ := rx; exact PySem.W.kia_one PySem.W.kitx_str I.kIn True.intro e (fun z => nomatch z) fin
 | lst hq =>
  cases rx
  obtain ⟨its, _, ⟨o, n, h1, h2, _⟩, _⟩ := I.list hq
  exact PySem.W.kia_one PySem.W.kitx_list I.kIn ⟨o, h1, h2⟩ e (fun z => nomatch z) fin
 | tup hq =>
  cases rx
  obtain ⟨its, _, ⟨o, h1, h2, _⟩, _⟩ := I.tuple hq
  exact PySem.W.kia_one PySem.W.kitx_tuple I.kIn ⟨o, h1, h2⟩ e (fun z => nomatch z) fin
 | dK ea =>
  cases rx
  obtain ⟨_, _, vs, _, o, es, ep, h1, h2, _⟩ := I.hok _ _ ea
  exact PySem.W.kia_one PySem.W.kitx_dict I.kIn ⟨o, h1, h2.1⟩ e (fun z => nomatch z) fin
def bls (bs : List Bool) : List V := bs.map V.bl
theorem zkr {bs : List Bool} {its : List Value} (r : za1 (bls bs) its) (i : Nat) (u : Value) (e : its[i]? = some u) : ∃ b, bs[i]? = some b ∧ u = .bool b := by
 have hl := r.length
 unfold bls at hl r
 rw [List.length_map] at hl
 have hi : i < its.length := (List.getElem?_eq_some_iff.mp e).1
 have hb : bs[i]? = some bs[i] := by simp
 obtain ⟨u', e', ru⟩ := r.get (i := i) (x := .bl bs[i]) (by rw [List.getElem?_map, hb]; rfl)
 rw [e] at e'
 cases e'
 exact ⟨bs[i], hb, ru⟩
theorem zhG (bs : List Bool) : (List.range bs.length).all (fun i => (bs[i]?).getD false) = bs.all id := by
 have e : (List.range bs.length).map (fun i => (bs[i]?).getD false) = bs := by
  apply List.ext_getElem?
  intro i
  rw [List.getElem?_map]
  by_cases hi : i < bs.length
  ·simp [List.getElem?_range hi, hi]
  ·simp [List.getElem?_eq_none, hi, Nat.le_of_not_lt hi]
 conv => rhs; rw [← e]
 rw [List.all_map]
 rfl
theorem zl8 (bs : List Bool) : (List.range bs.length).any (fun i => (bs[i]?).getD false) = bs.any id := by
 have e : (List.range bs.length).map (fun i => (bs[i]?).getD false) = bs := by
  apply List.ext_getElem?
  intro i
  rw [List.getElem?_map]
  by_cases hi : i < bs.length
  ·simp [List.getElem?_range hi, hi]
  ·simp [List.getElem?_eq_none, hi, Nat.le_of_not_lt hi]
 conv => rhs; rw [← e]
 rw [List.any_map]
 rfl
theorem zdV (hc : X.calm = true) : za3 X (.builtin "all") (fun xs H Q => ∃ p bs, xs = [.ref p] ∧ SqL X.K H p (bls bs) ∧ Q (.bl (bs.all id)) H) := by
 intro pins s σ H xs us Q I r h
 obtain ⟨p, bs, rfl, hq, q⟩ := h
 obtain ⟨u, rfl, rx⟩ := vals1 r
 cases rx
 obtain ⟨its, rv, pl, hz⟩ := I.list hq
 have hlt : p < s.heap.objs.size := by obtain ⟨o, n, e, _⟩ := pl; exact Heap.lt_size e
 have hl : its.length = bs.length := by have := rv.length; unfold bls at this; rw [List.length_map] at this; omega
 refine call_all_walk (wpAny_pyIter_list pl.isList ?_)
 refine ⟨_, _, _, _, _, _, fun i => (bs[i]?).getD false, rfl, Walks.list (A := X.A.in1) (I.ok.hd hc) s.heap.objs.size p (Nat.ne_of_lt hlt) its.toArray, ⟨⟨_, Heap.get?_push_size _ rfl, rfl, rfl⟩, pl.isList.push _⟩, fun i v s' Q' E' hv hq' => ?_, fun h' tk kp => ?_⟩
 ·obtain ⟨b, hb, rfl⟩ := zkr rv i v (by simpa using hv)
  have hq' : Q' ((bs[i]?).getD false) s' := hq'
  rw [hb] at hq'
  exact wpAny_truthy_bool hq'
 ·refine ⟨.bl _, H, I.kept (t' := tk) fun b o e => kp b o (fun hb => ?_) (Heap.get?_push_of_some _ e), rfl, ?_⟩
  ·have : b = s.heap.objs.size := by simpa using hb
   exact absurd (Heap.lt_size e) (by rw [this]; exact Nat.lt_irrefl _)
  ·rw [List.size_toArray, hl, zhG]
   exact q
end
end L2
end
section
namespace L2
open PySem PySem.Spec PyProof.Rows
section
variable {prog : Program} {w : World} {A : Around} {E : Value → Shared → Prop} {s : Shared}
theorem zdW (t b : Addr) (items items2 : Array Value) (n n2 : Nat) (dd dd2 : Option Addr) (sl sl2 : Array (Option Value)) (h0 : items.isEmpty = true) :
  Meets (Builtin.«tuple.__add__» ⟨[.ref t, .ref b], []⟩) (fun _ R s => s.heap.get? t = some ⟨.type "tuple", dd, .seq items n, sl⟩ ∧ s.heap.get? b = some ⟨.type "tuple", dd2, .seq items2 n2, sl2⟩ ∧ R (.ok (.ret (.ref b))) s) :=
 .of_wp fun prog w A R s h => by
  obtain ⟨hp, g, d, tk, os⟩ := s
  obtain ⟨h1, h2, h⟩ := h
  have hsub := sub_tuple_self
  wp_walk using wpAny_loadPart' h1, wpAny_loadPart' h2
  exact ⟨_, rfl, h⟩
end
section
variable {X : Cx}
theorem zbR {H : Hp} {p : Addr} (h : H p = none) (o : HO) : zdU H (upd H p o) := fun b u q => by rw [zaB (zaP q h)]; exact q
def rCatA (K : PySem.W.Frag) : R2 := fun x y H Q => ∃ a b xs ys, x = .ref a ∧ y = .ref b ∧ SqT K H a xs ∧ SqT K H b ys ∧ xs.length + ys.length ≤ sizeLine ∧ ∀ r H', zdU H H' → SqT K H' r (xs ++ ys) → Q (.ref r) H'
theorem zks : OpR X (binaryOp .Add) (rCatA X.K) := by
 intro pins s σ H x y v u Q I rx ry h
 obtain ⟨a, b, xs, ys, rfl, rfl, ha, hb, hz, q⟩ := h
 by_cases hx : xs = []
 ·subst hx
  cases rx
  cases ry
  obtain ⟨its, r1, ⟨⟨cls, dd, data, sl⟩, ho, hc, n, hd⟩, _⟩ := I.tuple ha
  obtain ⟨its2, r2, ⟨⟨cls2, dd2, data2, sl2⟩, ho2, hc2, n2, hd2⟩, _⟩ := I.tuple hb
  simp only at hc hd hc2 hd2
  subst hc hd hc2 hd2
  cases r1
  exact PySem.concat_meets ⟨_, ho, rfl⟩ ⟨_, ho2, rfl⟩ PySem.noFill_tuple_add PySem.seq_tuple_add PySem.F.slot_tuple_add PySem.F.entry_tuple_add (PySem.F.args_tuple_add_2 _ _)
   (zdW a b _ _ n n2 dd dd2 sl sl2 (by simp)) ⟨ho, ho2, ⟨.ref b, H, I, rfl, q b H (zdU.refl H) (by simpa using hb)⟩⟩
 ·refine zkd pins s σ H _ _ v u Q I rx ry ⟨a, b, xs, ys, rfl, rfl, ha, hb, hx, hz, fun e => q a H (zdU.refl H) (by rw [e, List.append_nil]; exact ha), fun _ p hp => q p _ (zbR hp _) (SqT.of zaG)⟩
def zjy (sc0 : Scope) (N0 : List Str) (scope : Scope) (N : List Str) (fr : List (Option Nat)) : Bool :=
 (scope.kind == .function) && scope.names.all (fun y => y.2 != .cell) && scope.names.all (fun y => y.2 != .local || scope.names.lookup y.1 == some .local) &&
 scope.names.all (fun y => y.2 != .free || (sc0.names.lookup y.1 == some .cell || sc0.names.lookup y.1 == some .free)) && (fr.length == N.length) &&
 (N.zip fr).all (fun p => match p.2 with | none => true | some j => N0[j]? == some p.1 && scope.names.lookup p.1 == some .free) && decide N.Nodup
theorem zaZ.of {sc0 : Scope} {N0 : List Str} {scope : Scope} {N : List Str} {fr : List (Option Nat)} (h1 : X.env.scope = sc0) (h2 : X.N = N0) (h : zjy sc0 N0 scope N fr = true) : zaZ X scope N fr := by
 unfold zjy at h
 simp only [Bool.and_eq_true] at h
 obtain ⟨⟨⟨⟨⟨⟨k1, k2⟩, k3⟩, k4⟩, k5⟩, k6⟩, k7⟩ := h
 rw [List.all_eq_true] at k2 k3 k4 k6
 refine ⟨by simpa using k1, fun y hy => by simpa using k2 y hy, fun y hy e => ?_, fun y hy e => ?_, by simpa using k5, fun i j x hi hj => ?_, of_decide_eq_true k7⟩
 ·have := k3 y hy
  rw [e] at this
  simpa using this
 ·have := k4 y hy
  rw [e] at this
  have t : sc0.names.lookup y.1 = some .cell ∨ sc0.names.lookup y.1 = some .free := by simpa using this
  show X.env.scope.names.lookup y.1 = _ ∨ X.env.scope.names.lookup y.1 = _
  rw [h1]
  exact t
 ·have hm : (x, some j) ∈ N.zip fr := by
   have hz : (N.zip fr)[i]? = some (x, some j) := by rw [List.getElem?_zip_eq_some]; exact ⟨hi, hj⟩
   exact List.mem_of_getElem? hz
  have := k6 _ hm
  simp only [Bool.and_eq_true] at this
  rw [h2]
  exact ⟨by simpa using this.1, by simpa using this.2⟩
structure zaJ (P : Program) (w : World) (K : PySem.W.Frag) (mg : Str → Option Value) (base : Heap) (x : Str) (ps : List Str) (k : Nat) (sp : Sp) : Prop where
 ex : ∃ f fd, zb8 P w K mg base CX0 k f fd ps sp ∧ Binds K fd ps [] ∧ PySem.W.keepIn K (.ref f) = true ∧ mg x = some (.ref f)
theorem pe_fn {x : Str} {ps : List Str} {k k' : Nat} {sp : Sp} {e : Expr} {es : List Expr} {t : TA} {p pos : Pos} (C : zaJ X.prog X.w X.K X.mg X.base x ps k sp) (hr : zdR k' X.A) (hg : Gl X x) (ha : PA X (e :: es) t) (hk : k ≤ k' := by first | decide | exact Nat.le_refl _ | omega) (hdb : (x == ("__debug__" : Str)) = false := by decide)
  (he : starEach (e :: es) X.env = (false, eval e X.env) :: starEach es X.env := by rfl) (hpl : (backTo pos (starEach es X.env)).any (·.1) = false := by rfl) : PE X (.Call (.Name x p) (e :: es) [] pos) (zj7 sp [] E0 t) := by
 obtain ⟨f, fd, F, b, kp, m⟩ := C.ex
 exact zj8 F (hr.mono hk) hg m kp b .nil pass0 ha hdb he hpl
end
section
variable {K : PySem.W.Frag} {H : Hp}
theorem Rps.ints : ∀ (ns : List Int), Rps K H (ns.map V.int) (ns.map .int)
 | [] => .nil
 | n :: ns => .cons (.int n) (Rps.ints ns)
theorem zep : ∀ (ns : List Int), PyData.canLayAll0 (ns.map .int) = true
 | [] => rfl
 | n :: ns => by show (PyData.canLay0 (.int n) && PyData.canLayAll0 (ns.map .int)) = true; rw [zep ns]; rfl
end
end L2
end
section
namespace L2
open PySem PySem.Spec PyProof.Rows
section
variable {X : Cx}
theorem Inv.zl9 {pins : List (Addr × Obj)} {σ : St} {H : Hp} {s : Shared} {C : Addr} {h' : Heap} (I : Inv X pins σ H s) (hn : H C = none) (hL : C ≠ X.env.locals) (h1 : X.s₀.heap.objs.size ≤ C) (h2 : ∀ x c, X.env.cells.lookup x = some c → c ≠ C) (h3 : ∀ p ∈ X.pn ++ pins, p.1 ≠ C)
  (sb : Heap.SameBut C s.heap h') : Inv X pins σ H { s with heap := h' } := I.turned (t' := s.toks) (fun b o hb e => (sb.2 b hb).trans e) hn hL (.inr h1) h2 h3
theorem zma {i : Nat} {x : Str} {elt target iter : Expr} {ifs : List Expr} {scope : Scope} {pos pos' spos : Pos} {N : List Str} {fr : List (Option Nat)} {wi : TI} {g : Bk → TG} {tt : Bk → TT} {te : Bk → TE} (hN : X.N.Nodup) (hi' : X.N[i]? = some x) (hx : X.env.scope.names.lookup x = some .local)
  (hc : X.calm = true) (S : zaZ X scope N fr) (hi : PI X target iter wi)
  (hin : ∀ z : Bk, PG (zaS X scope z.cl N z.C z.fp z.s z.H) target (g z) ∧ zl4 (zaS X scope z.cl N z.C z.fp z.s z.H) ifs (tt z) ∧ PE (zaS X scope z.cl N z.C z.fp z.s z.H) elt (te z))
  (hs : ∀ x, foldedSetIterable iter X.env x = pure x := by intro _; rfl) (hsw : swapsWith (.ListComp elt [⟨target, iter, ifs, 0⟩] scope pos) (some (.Name x pos')) spos.line X.env = pure true := by rfl) :
  PS X (.Assign [.Name x pos'] (.ListComp elt [⟨target, iter, ifs, 0⟩] scope pos) spos) (ziz (tLC fr wi g tt te) (zj1 i)) := by
 intro pins s σ H Dn I h
 rw [exec_Assign_Name_used _ _ _ _ hsw]
 refine wpAny_bind (wpAny_standAt (wpAny_bind ?_))
 show wpAny _ X.A (do let _ ← comprehension (.ListComp elt [⟨target, iter, ifs, 0⟩] scope pos) scope X.env (firstIterPos [⟨target, iter, ifs, 0⟩] pos) (newList []) (firstAsync [⟨target, iter, ifs, 0⟩]) (firstIter [⟨target, iter, ifs, 0⟩] X.env) (some (assign (.Name x pos') X.env))) _ _ s
 refine wpAny_bind (wpAny_mono (wpAny_comprehension_free (g := ⟨target, iter, ifs, 0⟩) (gs := []) (use := some (assign (.Name x pos') X.env)) (Q := fun _ s' => SP X pins Dn .next s') (E := X.xe) rfl hs (zb5 (S.cells I)) S.kind S.locs ?_) (fun _ s' hq => wpAny_pure (wpAny_pure hq)) fun _ _ e => e)
 refine thn (hi pins s σ H _ I h) fun v s1 h1 => thn h1 fun itv s2 h2 => ?_
 obtain ⟨it, fp, tn, J, H2, e, I2, T, st2, f2, h2⟩ := h2
 subst e
 refine wpAny_newObj_type ?_
 have hD : H2 s2.heap.objs.size = none := I2.fresh
 have I3 := I2.lnew (t' := s2.toks) (ys := []) (its := []) .nil (Nat.zero_le _)
 have lt2 : ∀ b ∈ fp, b < s2.heap.objs.size := fun b hb => by
  obtain ⟨o, e, _⟩ := T.obj _ _ st2 b hb
  exact Heap.lt_size e
 have f3 : ∀ b ∈ fp, zgC X pins (upd H2 s2.heap.objs.size (.lst [])) b := fun b hb => ⟨by rw [zaB (Nat.ne_of_lt (lt2 b hb))]; exact (f2 b hb).1, (f2 b hb).2⟩
 generalize hs3 : ({ s2 with heap := s2.heap.push { cls := .type "list", data := .seq ([] : List Value).toArray } } : Shared) = s3
 have I3 : Inv X pins σ (upd H2 s2.heap.objs.size (.lst [])) s3 := by rw [← hs3]; exact I3
 have sz3 : s3.heap.objs.size = s2.heap.objs.size + 1 := by rw [← hs3]; exact Heap.size_push ..
 have u23 : Un (frs X.stack) [] H2 (upd H2 s2.heap.objs.size (.lst [])) s2.heap s3.heap := by
  rw [← hs3]
  exact Un.laid (fun b o e => Heap.get?_push_of_some _ e) (Nat.le_refl _) hD
 have ho : s3.os = s2.os := by rw [← hs3]
 have st3 : tn 0 s3.heap := T.keep _ _ _ st2 fun b _ o e => by rw [← hs3]; exact Heap.get?_push_of_some _ e
 refine wpAny_newFunctionEnv S.nocell (by intro y hy; simp at hy) (fun h4 hns hsb => ?_) S.kind
 have lt3 : ∀ b ∈ fp, b < s3.heap.objs.size := fun b hb => Nat.lt_of_lt_of_le (lt2 b hb) (by rw [sz3]; exact Nat.le_succ _)
 have I4 := zf9 (tk := s3.toks + ([] : List (Str × Value)).length) I3 S f3 lt3 hns hsb
 have old4 : ∀ b o, s3.heap.get? b = some o → h4.get? b = some o := fun b o e => (hsb.2 b (Nat.ne_of_lt (Heap.lt_size e))).trans (Heap.get?_push_of_some _ e)
 have st4 : tn 0 h4 := T.keep _ _ _ st3 fun b _ o e => old4 b o e
 have h2 := h2 _ hD ⟨zaR X.env.cells scope.names [], s3.heap.objs.size, fp, s3, upd H2 s2.heap.objs.size (.lst [])⟩
 obtain ⟨hg, hif, hel⟩ := hin ⟨zaR X.env.cells scope.names [], s3.heap.objs.size, fp, s3, upd H2 s2.heap.objs.size (.lst [])⟩
 have loop : codeAny (model X.prog X.w) X.A (.compLoop (.ListComp elt [⟨target, iter, ifs, 0⟩] scope pos) 0 (.ref it) (.ref s2.heap.objs.size) (compEnvC scope (zaR X.env.cells scope.names []) s3.heap.objs.size X.env))
   (compPost (model X.prog X.w) X.A X.xe (some (assign (.Name x pos') X.env)) (fun _ s' => SP X pins Dn .next s') (.ref s2.heap.objs.size) s3.heap.objs.size) { s3 with heap := h4, toks := s3.toks + ([] : List (Str × Value)).length } := by
  refine zeY (X := zaS X scope (zaR X.env.cells scope.names []) N s3.heap.objs.size fp s3 (upd H2 s2.heap.objs.size (.lst []))) (em := (do let _ ← call (.builtin "list.append") [.ref s2.heap.objs.size, ← eval elt (compEnvC scope (zaR X.env.cells scope.names []) s3.heap.objs.size X.env)]))
   (compTurn_list ..) (fun _ _ _ z => z) rfl hc rfl hg hif (zjt hel) T I4 st4 (fun b hb => ?_) h2 (fun τ' H' s' J' q => ?_)
  ·obtain ⟨f0, f1, fs, fe, fc, fp'⟩ := f3 b hb
   refine ⟨f0, Nat.ne_of_lt (lt3 b hb), fun z => ?_, .inl hb, fun x c e => fc x c (zcl scope.names [] (fun _ _ z => by simp at z) e), fun p hp => absurd (show p ∈ ([] : List (Addr × Obj)) from hp) (by simp)⟩
   rcases lK (I3.zeE b z) with z | z
   ·exact f1 z
   ·exact fs z
  ·obtain ⟨m, hn, _⟩ := J'.loc
   have Io : Inv X pins σ H' s' := zga (h' := s'.heap) I2 f2 u23 ho (by rw [sz3]; exact Nat.le_succ _) J' (Heap.SameBut.refl ..)
   have Lne : X.env.locals ≠ s3.heap.objs.size := Nat.ne_of_lt I3.lt
   have cne : ∀ y c, X.env.cells.lookup y = some c → c ≠ s3.heap.objs.size := fun y c e => by
    obtain ⟨v, z⟩ := I3.cell y c e
    exact Nat.ne_of_lt z.lt
   show wpAny (model X.prog X.w) X.A (assign (.Name x pos') X.env (.ref s2.heap.objs.size)) _ X.xe s'
   refine wpAny_assign_Name (zeF (v := .ref s2.heap.objs.size) Io hN hi' (.inl hx) rfl (fun s5 I5 sb5 => ?_) (.inr hx))
   obtain ⟨b, sb, hb⟩ := sb5
   have hbne : s3.heap.objs.size ≠ b := by
    rcases hb with e | e
    ·rw [e]; exact Lne.symm
    ·exact (cne _ _ e).symm
   refine ⟨m, hn.sameBut sb hbne, fun h' sb' => ⟨_, H', ?_, q⟩⟩
   refine I5.zl9 (C := s3.heap.objs.size) J'.free Lne.symm I3.sz cne (fun p hp => ?_) sb'
   exact Nat.ne_of_lt (Heap.lt_size (I3.pin p hp).1)
 exact codeAny_compStart_list loop (T.self X.A 0 _ _ _ st4 loop)
end
end L2
end
section
namespace L2
open PySem PySem.Spec PyProof.Rows
section
variable {X : Cx}
def zeq : List Expr → Option (List Int)
 | [] => some []
 | .Constant (.int i) _ _ :: es => (zeq es).map (i :: ·)
 | _ => none
def tInts (ns : List Int) : TA := fun _ H Q => Q (ns.map V.int) H
theorem zgc : ∀ (es : List Expr) (ns : List Int), zeq es = some ns → PA X es (tInts ns)
 | [], ns, h => by cases h; exact zf2
 | e :: es, ns, h => by
  unfold zeq at h
  split at h
  ·rename_i e1; cases e1
  ·rename_i i j p es' e1
   cases e1
   obtain ⟨ms, h1, rfl⟩ := Option.map_eq_some_iff.mp h
   exact zdA zjm (zgc es ms h1)
  ·cases h
end
end L2
end
section
namespace L2
open PySem PySem.Spec PyProof.Rows
section
variable {X : Cx}
theorem zer (hc : X.calm = true) : za3 X (.builtin "min") (fun xs H Q => ∃ p ns, xs = [.ref p] ∧ SqL X.K H p (ns.map V.int) ∧ ns ≠ [] ∧ ∀ M : Int, M ∈ ns → (∀ a, a ∈ ns → M ≤ a) → Q (.int M) H) := by
 intro pins s σ H xs us Q I r h
 obtain ⟨p, ns, rfl, hq, hne, q⟩ := h
 obtain ⟨u, rfl, rx⟩ := vals1 r
 cases rx
 obtain ⟨its, rv, pl, hz⟩ := I.list hq
 have hi := intsAre_of rv
 have hn := hi.numsOf
 have hl := hi.length
 obtain ⟨xs, e⟩ := hi.allInts.items
 have hp := pl.isList
 rw [e] at hp
 have en : numsOf its = xs.toList.map (·.1) := by
  have := nums_intItems (xs := xs)
  rw [← e] at this
  exact this
 rw [en] at hn
 have hsz : 0 < xs.size := by
  have h1 : ns.length = xs.size := by rw [← hn, List.length_map, Array.length_toList]
  have : ns.length ≠ 0 := fun z => hne (List.length_eq_zero_iff.mp z)
  omega
 refine min_intList (I.ok.hd hc) hp hsz fun v h' tk hv hk => ?_
 obtain ⟨t, rfl⟩ := intItems_at hv
 obtain ⟨h1, h2⟩ := argBest_lt (numAt xs) (xs.size - 1)
 refine ⟨.int _, H, I.kept (t' := tk) hk, ⟨t, rfl⟩, q _ ?_ fun a ha => ?_⟩
 ·rw [numAt_eq, ← hn]; exact getD_mem (by rw [List.length_map, Array.length_toList]; omega)
 ·rw [← hn] at ha
  obtain ⟨j, hj, rfl⟩ := mem_getD ha
  rw [List.length_map, Array.length_toList] at hj
  rw [← numAt_eq]; exact h2 j (by omega)
end
end L2
end
section
namespace L2
open PySem PySem.Spec PyProof.Rows
section
variable {X : Cx}
theorem zc3 {prog : Program} {w : World} {A : Around} {E : Value → Shared → Prop} {s : Shared} {t sl : Addr} {its : Array Value} {vl vu : Value} {lo hi : Option Int} {Q : Value → Shared → Prop} (ht : IsTup s.heap t its) (hs : s.heap.IsSliceOf sl vl vu .none) (pl : IsPart vl lo) (pu : IsPart vu hi)
  (h0 : HT.sIx its.size 0 lo = 0) (h1 : HT.sIx its.size its.size hi = its.size) (h : Q (.ref t) s) : wpAny (model prog w) A (getItem (.ref t) (.ref sl)) Q E s := by
 have T : s.TypeIs (.ref sl) "slice" := by obtain ⟨o, a, b, _⟩ := id hs; exact ⟨o, a, b⟩
 unfold getItem
 first | with_reducible refine wpAny_holding ?_ | skip
 first | refine wpAny_bind (wpAny_pure ?_) | skip
 refine wpAny_bind (wpAny_sequenceKey ht.typeIs (by decide) ?_)
 refine wpAny_bind (wpAny_callSpecial?_slot (name := "__getitem__") ht.typeIs slot_tuple_getitem (wpAny_call_entry slot_tuple_getitem ht.typeIs entry_tuple_getitem ?_ (args_tuple_getitem _ _)))
 show wpAny _ _ (Builtin.Tuple.tupleItemsOf (.ref t) >>= _) _ _ s
 refine wpAny_bind (tupleItemsOf_ ht (wpAny_bind (wpAny_typeOf T ?_)))
 rw [if_pos (by decide)]
 refine wpAny_bind (HT.zb4 hs pl pu ?_)
 have c : (((HT.sIx its.size 0 lo : Nat) : Int) == 0 && (1 : Int) == 1 && (HT.sIx its.size its.size hi - HT.sIx its.size 0 lo) == its.size) = true := by
  rw [h0, h1, Nat.sub_zero, beq_self_eq_true its.size]; rfl
 show wpAny _ _ (if (((HT.sIx its.size 0 lo : Nat) : Int) == 0 && (1 : Int) == 1 && (HT.sIx its.size its.size hi - HT.sIx its.size 0 lo) == its.size) = true then _ else _) _ _ s
 rw [if_pos c]
 refine wpAny_bind (wpAny_bind (wpAny_typeOf ht.typeIs (wpAny_pure ?_)))
 rw [if_pos (by decide)]
 first
  | exact wpAny_bind (wpAny_pure (wpAny_pure ⟨_, rfl, wpAny_pure h⟩))
  | exact wpAny_bind (wpAny_rule (wpAny_pure ⟨_, rfl, wpAny_pure h⟩))
  | exact wpAny_rule (wpAny_pure ⟨_, rfl, wpAny_pure h⟩)
  | trace_state
def rSlA (K : PySem.W.Frag) : V → Option Int → Option Int → Hp → VK → Prop := fun x lo hi H Q => ∃ a xs, x = .ref a ∧ SqT K H a xs ∧ ∀ r H', zdU H H' → SqT K H' r (zhr xs lo hi) → Q (.ref r) H'
theorem zkt : SlR X (rSlA X.K) := by
 intro pins s σ H x v vl vu lo hi sl Q I rx hs pl pu h
 obtain ⟨a, xs, rfl, hx, q⟩ := h
 by_cases hw : HT.sIx xs.length 0 lo = 0 ∧ HT.sIx xs.length xs.length hi = xs.length
 ·cases rx
  obtain ⟨its, r, ht, hz⟩ := I.tuple hx
  have hlen : its.toArray.size = xs.length := by rw [List.size_toArray]; exact r.length.symm
  refine ⟨"tuple", _, PyProof.Rows.slot_tuple_getitem.lookup, ht.typeIs, ?_⟩
  refine zc3 ht hs pl pu (by rw [hlen]; exact hw.1) (by rw [hlen]; exact hw.2) ⟨.ref a, H, I, rfl, q a H (fun _ _ z => z) ?_⟩
  have e : zhr xs lo hi = xs := by unfold zhr; rw [hw.1, hw.2, List.drop_zero, Nat.sub_zero, List.take_length]
  rw [e]; exact hx
 ·exact zlL pins s σ H _ v vl vu lo hi sl Q I rx hs pl pu ⟨a, xs, rfl, hx, hw, fun p hp => q p _ (zbR hp _) (SqT.of zaG)⟩
end
end L2
end
section
namespace L2
open PySem PySem.Spec PyProof.Rows PySem.W
section
variable {prog : Program} {w : World} {A : Around} {E : Value → Shared → Prop} {s : Shared}
theorem zfI {T : String} {r d : Addr} {n : Nat} {P : Nat → Value → Prop} {OK : Heap → Prop} {Q : List Value → Shared → Prop} (K : KdlSrc prog w T r d n P OK) (hh : A.handled = none) (hok : OK s.heap) (hn : n ≤ sizeLine)
  (hQ : ∀ h' tk acc, (∀ b o, s.heap.get? b = some o → h'.get? b = some o) → s.heap.objs.size < h'.objs.size → ItemsOf P acc n → Q acc.toList { s with heap := h', toks := tk }) : wpAny (model prog w) A (collect (.ref r)) Q E s := by
 unfold collect
 refine wpAny_bind (wpAny_runValue (codeAny_builtin PySem.F.entry_proto_collect ?_))
 rw [Around.under_plainId PySem.F.plain_proto_collect _]
 show wpAny _ A.in1 (newList [] >>= fun l => again (.builtin "list.__iadd__" ⟨[l, .ref r], []⟩)) _ _ s
 refine wpAny_bind (wpAny_newObj_type ?_)
 refine wpAny_pure ⟨plainId_quiet PySem.F.plain_list_iadd _, codeAny_builtin PySem.F.entry_list_iadd ?_⟩
 rw [Around.under_plainId PySem.F.plain_list_iadd _]
 have hlt := K.there _ hok
 have old : ∀ b o, s.heap.get? b = some o → (s.heap.push { cls := .type "list", data := .seq ([] : List Value).toArray }).get? b = some o := fun b o e => Heap.get?_push_of_some _ e
 have hok' : OK (s.heap.push { cls := .type "list", data := .seq ([] : List Value).toArray }) := K.keep _ _ hok fun b _ o e => old b o e
 show wpAny _ A.in1 (Builtin.List.listExtendWith (.ref s.heap.objs.size) (.ref r) (.ref s.heap.objs.size)) _ _ _
 refine kdl_extend (R := fun res s' => match res with
  | .ok (.ret v) => wpAny (model prog w) A (match v with
   | .ref a => do
    let o ← load a
    match o.data with
     | .seq xs _ => pure xs.toList
     | _ => unsupported "internal:collect"
   | _ => unsupported "internal:collect") Q E s'
  | .ok _ => False
  | .error e => E e s') (s := { s with heap := s.heap.push { cls := .type "list", data := .seq ([] : List Value).toArray } }) K hh hok' s.heap.objs.size (Nat.ne_of_gt hlt.1) (Nat.ne_of_gt hlt.2) (.ref s.heap.objs.size) 0 (Heap.get?_push_size _ rfl) (fun h' tk acc c hk hS hacc => ?_) hn
 show wpAny _ A (load s.heap.objs.size >>= _) _ _ _
 refine wpAny_bind (wpAny_load hS ?_)
 exact wpAny_pure (hQ h' tk acc (fun b o e => hk b o (Nat.ne_of_lt (Heap.lt_size e)) (old b o e)) (Heap.lt_size hS) hacc)
theorem zgO {T : String} {r d : Addr} {n : Nat} {P : Nat → Value → Prop} {OK : Heap → Prop} {ns : List Int} {Q : Value → Shared → Prop} (K : KdlSrc prog w T r d n P OK) (hh : A.handled = none) (hok : OK s.heap) (h64 : n < 64)
  (hP : ∀ acc, ItemsOf P acc n → IntsAre acc.toList ns)
  (h : ∀ (l : Addr) (h' : Heap) (tk e : Nat) (out : Array Value) (ns' : List Int), s.heap.objs.size ≤ l → (∀ b o, s.heap.get? b = some o → h'.get? b = some o) → h'.get? l = some (seqObj "list" out e) → IntsAre out.toList ns' → ns'.Perm ns → ns'.Pairwise (· ≤ ·) → Q (.ref l) { s with heap := h', toks := tk }) :
  wpAny (model prog w) A (call (.builtin "sorted") [.ref r]) Q E s := by
 refine Calls.call_function_entry kind_sorted plain_sorted entry_sorted (args_sorted1 _) ?_
 unfold Builtin.«sorted»
 refine wpAny_bind (m := checkCount "sorted" 1 1 _) (wpAny_pure ?_)
 refine wpAny_bind (zfI K hh hok (by rw [sizeLine_eq]; omega) fun h1 tk acc kp lt1 hacc => ?_)
 have hsz : acc.toList.length = n := by rw [Array.length_toList]; exact hacc.1
 refine wpAny_bind (wpAny_newList ?_ (by rw [sizeLine_eq]; omega))
 have hoL : (h1.push (seqObj "list" acc.toList.toArray 0)).get? h1.objs.size = some (seqObj "list" acc.toList.toArray 0) := Heap.get?_push_size _ rfl
 have le : s.heap.objs.size ≤ h1.objs.size := Nat.le_of_lt lt1
 show wpAny _ _ _ _ _ { s with heap := h1.push (seqObj "list" acc.toList.toArray 0), toks := tk }
 refine wpAny_bind (wpAny_holding (wpAny_call_entry slot_list_sort ⟨_, hoL, rfl⟩ entry_list_sort (list_sort_tree hoL (hP acc hacc) (by omega) fun out ns' a1 a2 a3 => ⟨_, rfl, ?_⟩) (args_list_sort _)))
 obtain ⟨e, he⟩ := sortedHeap_at (out := out) hoL
 refine wpAny_pure ⟨_, rfl, h h1.objs.size _ tk e out ns' le (fun b o q => ?_) he a1 a2 a3⟩
 have q1 := kp b o q
 rw [sortedHeap_old (Nat.ne_of_lt (Heap.lt_size q1)) (by rw [Heap.size_push]; exact Nat.lt_succ_of_lt (Heap.lt_size q1)), Heap.get?_push_of_some _ q1]
end
end L2
end
section
namespace L2
open PySem PySem.Spec PyProof.Rows PySem.W
theorem zhH : ∀ {us : List Value} {ns : List Int}, us.length = ns.length → (∀ (j : Nat) (v : Value), us[j]? = some v → ∃ n t, ns[j]? = some n ∧ v = .int n t) → IntsAre us ns
 | [], [], _, _ => .nil
 | [], _ :: _, h, _ => by simp at h
 | _ :: _, [], h, _ => by simp at h
 | u :: us, n :: ns, h, q => by
  obtain ⟨m, t, e, rfl⟩ := q 0 u rfl
  have e : n = m := Option.some.inj e
  subst e
  exact .cons n t (zhH (by simpa using h) fun j v hv => q (j + 1) v hv)
theorem KV.at {κ : Type} {kvs : List (κ × V)} {vs : List (κ × Value)} (r : KV kvs vs) : ∀ {j : Nat} {k : κ} {x : Value}, vs[j]? = some (k, x) → ∃ y, kvs[j]? = some (k, y) ∧ RelV y x := by
 induction r with
 | nil => intro j k x h; simp at h
 | @cons a b as bs r1 t ih =>
  intro j k x h
  cases j with
  | zero =>
   have h : b = (k, x) := Option.some.inj h
   subst h
   obtain ⟨k', y⟩ := a
   obtain ⟨e, r2⟩ := r1
   have e : k' = k := e
   subst e
   exact ⟨y, rfl, r2⟩
  | succ j => exact ih (by simpa using h)
section
variable {X : Cx}
theorem zb6 (hc : X.calm = true) : za3 X (.builtin "sorted") (fun xs H Q => ∃ a kvs ns, xs = [.ref a] ∧ H a = some (.dK kvs) ∧ kvs.map (·.1) = ns.map Sum.inl ∧ ns.length < 64 ∧ ∀ (ns' : List Int) l, ns'.Perm ns → ns'.Pairwise (· ≤ ·) → H l = none → Q (.ref l) (upd H l (.lst (ns'.map V.int)))) := by
 intro pins s σ H xs us Q I r h
 obtain ⟨a, kvs, ns, rfl, hq, ek, h64, q⟩ := h
 obtain ⟨u, rfl, rx⟩ := vals1 r
 cases rx
 obtain ⟨hz, hS, vs, rv, m⟩ := zlW I.hok hq
 obtain ⟨ep, hm⟩ := m.dictAt
 have ln : kvs.length = ns.length := by
  have := congrArg List.length ek
  rw [List.length_map, List.length_map] at this
  exact this
 have lv := rv.length
 refine zgO (ns := ns) (kdl_dict (knd := zbf X.prog X.w) (kvs := vs) (ep := ep) hS) (I.ok.hd hc) hm (by omega) (fun acc hacc => zhH (by rw [Array.length_toList, hacc.1]; omega) fun j v hv => ?_) fun l h' tk e out ns' hl kp he hI pm srt => ?_
 ·obtain ⟨k, x, hkx, hk⟩ := hacc.2 j v (by rw [← Array.getElem?_toList]; exact hv)
  obtain ⟨y, hy, _⟩ := rv.at hkx
  have e1 : (kvs.map (·.1))[j]? = some k := by rw [List.getElem?_map, hy]; rfl
  rw [ek, List.getElem?_map] at e1
  obtain ⟨n, hn, rfl⟩ := Option.map_eq_some_iff.mp e1
  have hk : zfs (Sum.inl n) v = true := hk
  rcases zaL hk with ⟨i, t, e2, rfl⟩ | ⟨z, t, e2, _⟩
  ·cases e2
   exact ⟨n, t, hn, rfl⟩
  ·cases e2
 ·have hv : za1 (ns'.map V.int) out.toList := by
   clear he pm srt
   generalize out.toList = os at hI
   induction hI with
   | nil => exact .nil
   | cons n t _ ih => exact .cons ⟨_, rfl⟩ ih
  have hlen : (ns'.map V.int).length ≤ sizeLine := by
   rw [List.length_map, pm.length_eq, sizeLine_eq]; omega
  refine ⟨.ref l, _, I.laid (t' := tk) (a := l) (o := .lst (ns'.map V.int)) kp hl ?_, rfl, q ns' _ pm srt (I.hok.fresh hl)⟩
  refine ⟨hlen, out.toList, e, hv, ?_⟩
  rw [he]
end
end L2
end
section
namespace L2
open PySem PySem.Spec PyProof.Rows
end L2
end
section
namespace L2
open PySem PySem.Spec PyProof.Rows
end L2
end
section
namespace L2
open PySem PySem.Spec PyProof.Rows
end L2
end
section
namespace L2
open PySem PySem.Spec PyProof.Rows
theorem zjz {α β : Type} {f : α → Option β} {g : α → β} : ∀ {l : List α}, (∀ m ∈ l, f m = some (g m)) → l.filterMap f = l.map g
 | [], _ => rfl
 | x :: l, h => by
  rw [List.filterMap_cons, h x lS, List.map_cons, zjz fun m hm => h m (lO _ hm)]
theorem ziP (xs : Array Value) : ((List.range xs.size).filterMap fun (m : Nat) => xs[(((xs.size : Int) - 1) + (m : Int) * (-1)).toNat]?) = xs.toList.reverse := by
 have h : (List.range xs.size).filterMap (fun (m : Nat) => xs[(((xs.size : Int) - 1) + (m : Int) * (-1)).toNat]?) = (List.range xs.size).map fun m => xs.toList.getD (xs.size - 1 - m) .none := by
  refine zjz fun m hm => ?_
  rw [List.mem_range] at hm
  have e1 : (((xs.size : Int) - 1) + (m : Int) * (-1)).toNat = xs.size - 1 - m := by omega
  rw [e1, List.getD_eq_getElem?_getD, Array.getElem?_toList, Array.getElem?_eq_getElem (by omega)]
  rfl
 rw [h]
 refine List.ext_getElem? fun i => ?_
 by_cases hi : i < xs.size
 ·rw [List.getElem?_map, List.getElem?_range hi, List.getElem?_reverse (by rw [Array.length_toList]; exact hi), Array.length_toList]
  show some (xs.toList.getD (xs.size - 1 - i) .none) = _
  rw [List.getD_eq_getElem?_getD, List.getElem?_eq_getElem (by rw [Array.length_toList]; omega)]
  rfl
 ·rw [List.getElem?_eq_none (by rw [List.length_map, List.length_range]; omega), List.getElem?_eq_none (by rw [List.length_reverse, Array.length_toList]; omega)]
section
variable {prog : Program} {w : World} {A : Around} {E : Value → Shared → Prop} {s : Shared}
theorem zc4 {t sl : Addr} {its : Array Value} {tk : Tok} {Q : Value → Shared → Prop} (ht : IsTup s.heap t its) (hs : s.heap.IsSliceOf sl .none .none (.int (-1) tk)) (hz : its.size ≤ sizeLine)
  (h : Q (.ref s.heap.objs.size) { s with heap := s.heap.push { cls := .type "tuple", data := .seq its.toList.reverse.toArray } }) : wpAny (model prog w) A (getItem (.ref t) (.ref sl)) Q E s := by
 obtain ⟨os, hos, hcs, hds⟩ := id hs
 have T : s.TypeIs (.ref sl) "slice" := ⟨os, hos, hcs⟩
 have htake : sizeOk (.seq its.toList.reverse.toArray) := by
  show its.toList.reverse.toArray.size ≤ sizeLine
  rw [List.size_toArray, List.length_reverse, Array.length_toList]; exact hz
 unfold getItem
 first | with_reducible refine wpAny_holding ?_ | skip
 first | refine wpAny_bind (wpAny_pure ?_) | skip
 refine wpAny_bind (wpAny_sequenceKey ht.typeIs (by decide) ?_)
 refine wpAny_bind (wpAny_callSpecial?_slot (name := "__getitem__") ht.typeIs slot_tuple_getitem (wpAny_call_entry slot_tuple_getitem ht.typeIs entry_tuple_getitem ?_ (args_tuple_getitem _ _)))
 show wpAny _ _ (Builtin.Tuple.tupleItemsOf (.ref t) >>= _) _ _ s
 refine wpAny_bind (tupleItemsOf_ ht (wpAny_bind (wpAny_typeOf T ?_)))
 rw [if_pos (by decide)]
 have ap : ∀ {Q' : Int × Int × Nat → Shared → Prop}, Q' ((its.size : Int) - 1, -1, its.size) s → wpAny (model prog w) A.in1 (Builtin.Slice.sliceApplied (.ref sl) (pure (its.size : Int))) Q' E s := by
  intro Q' hq
  unfold Builtin.Slice.sliceApplied Builtin.Slice.sliceFields
  refine wpAny_bind (wpAny_bind (wpAny_field hos hds (x := .none) rfl (wpAny_bind (wpAny_field hos hds (x := .none) rfl (wpAny_bind (wpAny_field hos hds (x := .int (-1) tk) rfl (wpAny_pure ?_)))))))
  refine wpAny_bind (slicePart_int ?_)
  show wpAny _ _ (if ((-1 : Int) == 0) = true then _ else _) _ _ s
  rw [if_neg (by decide)]
  refine wpAny_bind (slicePart_none (wpAny_bind (slicePart_none (wpAny_bind (wpAny_pure ?_)))))
  have e : Builtin.Slice.slicePlaces ((its.size : Int) - 1) (-1) (-1) = its.size := by
   unfold Builtin.Slice.slicePlaces
   rw [if_neg (by decide), show (-(-1 : Int)) = 1 from rfl, Int.ediv_one]
   split <;> omega
  show wpAny _ _ (pure ((its.size : Int) - 1, (-1 : Int), Builtin.Slice.slicePlaces ((its.size : Int) - 1) (-1) (-1))) _ _ s
  rw [e]
  exact wpAny_pure hq
 refine wpAny_bind (ap ?_)
 have c : ¬ ((((its.size : Int) - 1) == 0 && (-1 : Int) == 1 && its.size == its.size) = true) := by
  rw [show ((-1 : Int) == 1) = false from rfl, Bool.and_false, Bool.false_and]; exact Bool.false_ne_true
 show wpAny _ _ (if (((its.size : Int) - 1) == 0 && (-1 : Int) == 1 && its.size == its.size) = true then _ else _) _ _ s
 rw [if_neg c, ziP]
 first
  | exact wpAny_bind (m := Builtin.Tuple.tupleExact _) (wpAny_newObj_type (wpAny_pure ⟨_, rfl, wpAny_pure h⟩) htake)
  | exact wpAny_bind (m := Builtin.Tuple.tupleExact _) (wpAny_newObj_type (wpAny_bind (wpAny_pure (wpAny_pure ⟨_, rfl, wpAny_pure h⟩))) htake)
  | exact wpAny_bind (wpAny_bind (m := Builtin.Tuple.tupleExact _) (wpAny_newObj_type (wpAny_pure (wpAny_pure ⟨_, rfl, wpAny_pure h⟩)) htake))
end
section
variable {X : Cx}
def tRev (K : PySem.W.Frag) (te ts : TE) : TE := fun σ H Q => te σ H fun x H1 => ts σ H1 fun y H2 => ∃ a xs, x = .ref a ∧ y = .int (-1) ∧ SqT K H2 a xs ∧ ∀ p, H2 p = none → Q (.ref p) (upd H2 p (.tup xs.reverse))
theorem ze1 {xs : List V} {us : List Value} (r : za1 xs us) : za1 xs.reverse us.reverse := by
 induction r with
 | nil => exact .nil
 | cons h t ih =>
  rw [List.reverse_cons, List.reverse_cons]
  exact ih.append (.cons h .nil)
theorem zmb {e st : Expr} {te ts : TE} {pos p2 : Pos} (he : PE X e te) (hs : PE X st ts) : PE X (.Subscript e (.Slice none none (some st) p2) pos) (tRev X.K te ts) := by
 intro pins s σ H Q I h
 refine Subscript_ (thn (he pins s σ H _ I h) fun v s1 ⟨x, H1, I1, r1, q1⟩ => ?_)
 refine wpAny_Slice ?_
 rw [evalPart_none]
 refine wpAny_pure ?_
 refine wpAny_pure ?_
 rw [evalPart_some]
 refine thn (hs pins s1 σ H1 _ I1 q1) fun u s2 ⟨y, H2, I2, r2, a, xs, ex, ey, hx, q⟩ => ?_
 subst ex ey
 obtain ⟨tk, rfl⟩ := r2
 cases r1
 have I4 : Inv X pins σ H2 { s2 with heap := s2.heap.push { cls := .type "slice", data := .fields #[.none, .none, .int (-1) tk] } } := I2.kept (t' := s2.toks) fun b ob q => Heap.get?_push_of_some _ q
 obtain ⟨its, r, ht, hz⟩ := I4.tuple hx
 have hlen : its.toArray.size = xs.length := by rw [List.size_toArray]; exact r.length.symm
 have hg : wpAny (model X.prog X.w) X.A (getItem (.ref a) (.ref s2.heap.objs.size)) (EP X pins σ Q) X.xe { s2 with heap := s2.heap.push { cls := .type "slice", data := .fields #[.none, .none, .int (-1) tk] } } := by
  refine zc4 ht (Heap.IsSliceOf.new ..) (by rw [hlen]; exact hz) ?_
  refine ⟨.ref _, _, I4.laid (t' := s2.toks) (o := .tup xs.reverse) (fun b ob q => Heap.get?_push_of_some _ q) (Nat.le_refl _) ?_, rfl, q _ (I4.hok.fresh (Nat.le_refl _))⟩
  exact ⟨by rw [List.length_reverse]; exact hz, _, ze1 r, IsTup.new _ _⟩
 show wpAny (model X.prog X.w) X.A (subscriptTail e (.Slice none none (some st) p2) (.ref a) (.ref s2.heap.objs.size)) (EP X pins σ Q) X.xe { s2 with heap := s2.heap.push { cls := .type "slice", data := .fields #[.none, .none, .int (-1) tk] } }
 exact tail_any (ops := [.ref a, .ref s2.heap.objs.size]) ht.typeIs PyProof.Rows.slot_tuple_getitem.lookup hg (by with_unfolding_all rfl)
end
end L2
end
section
namespace L2
open PySem PySem.Spec PyProof.Rows
section
variable {prog : Program} {w : World} {A : Around} {E : Value → Shared → Prop} {s : Shared}
theorem zdG {l : Addr} {vs : List Value} {Q : List Value → Shared → Prop} (hl : IsTup s.heap l vs.toArray) (hsz : vs.length ≤ sizeLine)
  (h : Q vs { s with heap := (s.heap.push (seqObj "list" #[] 0)).update s.heap.objs.size (Obj.mapSeq (· ++ vs.toArray)) }) : wpAny (model prog w) A (collect (.ref l)) Q E s := by
 obtain ⟨o, ho, hc, n, hd⟩ := id hl
 unfold collect
 refine wpAny_bind (wpAny_runValue (codeAny_builtin entry_proto_collect' ?_))
 show wpAny _ _ (do again (.builtin "list.__iadd__" ⟨[← newList [], .ref l], []⟩)) _ _ s
 refine wpAny_bind (wpAny_newList (wpAny_pure ⟨Code.quiet_builtin _ (by decide +kernel), codeAny_builtin entry_list_iadd' ?_⟩))
 show wpAny _ _ (Builtin.List.listExtendWith (.ref s.heap.objs.size) (.ref l) (.ref s.heap.objs.size)) _ _ { s with heap := s.heap.push (seqObj "list" #[] 0) }
 unfold Builtin.List.listExtendWith
 have ho' : (s.heap.push (seqObj "list" #[] 0)).get? l = some o := Heap.get?_push_of_some _ ho
 refine wpAny_bind (wpAny_typeOf (T := "tuple") ⟨o, ho', hc⟩ ?_)
 rw [if_pos (by rw [show (Value.type "tuple" == Value.type "tuple") = true from rfl]; simp)]
 refine wpAny_bind (listItems_at ho' hd (wpAny_bind (listItems_at (xs := #[]) (n := 0) (Heap.get?_push_size _ rfl) rfl ?_)))
 rw [if_neg (by simp)]
 refine wpAny_bind (listUpdate_at (xs := #[]) (n := 0) (Heap.get?_push_size _ rfl) rfl ?_ (Nat.zero_le _) (by show (#[] ++ vs.toArray).size ≤ sizeLine + 1; simp only [Array.size_append, List.size_toArray, List.length_nil]; omega))
 refine wpAny_pure ?_
 show wpAny (model prog w) A (do
   let o ← load s.heap.objs.size
   match o.data with
   | .seq xs _ => pure xs.toList
   | _ => unsupported "internal:collect") Q E { s with heap := (s.heap.push (seqObj "list" #[] 0)).update s.heap.objs.size (Obj.mapSeq (· ++ vs.toArray)) }
 refine wpAny_bind (wpAny_load (get?_update_seq (Heap.get?_push_size _ rfl) _) ?_)
 show wpAny _ _ (pure ((#[] : Array Value) ++ vs.toArray).toList) Q E _
 rw [show ((#[] : Array Value) ++ vs.toArray).toList = vs by simp]
 exact wpAny_pure h
theorem zgP {l : Addr} {vs : List Value} {ns : List Int} {Q : Value → Shared → Prop} (hl : IsTup s.heap l vs.toArray) (hI : IntsAre vs ns) (h64 : vs.length < 64)
  (h : ∀ (out : Array Value) (ns' : List Int), IntsAre out.toList ns' → ns'.Perm ns → ns'.Pairwise (· ≤ ·) → Q (.ref (s.heap.objs.size + 1)) { s with heap := sortedAll s.heap vs out }) :
  wpAny (model prog w) A (call (.builtin "sorted") [.ref l]) Q E s := by
 refine Calls.call_function_entry kind_sorted plain_sorted entry_sorted (args_sorted1 _) ?_
 unfold Builtin.«sorted»
 refine wpAny_bind (m := checkCount "sorted" 1 1 _) (wpAny_pure ?_)
 refine wpAny_bind (zdG hl (by rw [sizeLine_eq]; omega) ?_)
 refine wpAny_bind (wpAny_newList ?_ (by rw [sizeLine_eq]; omega))
 have hsz : ((s.heap.push (seqObj "list" #[] 0)).update s.heap.objs.size (Obj.mapSeq (· ++ vs.toArray))).objs.size = s.heap.objs.size + 1 := by rw [Heap.size_update, size_push']
 have hoL : (((s.heap.push (seqObj "list" #[] 0)).update s.heap.objs.size (Obj.mapSeq (· ++ vs.toArray))).push (seqObj "list" vs.toArray 0)).get? (s.heap.objs.size + 1) = some (seqObj "list" vs.toArray 0) := by
  rw [← hsz]; exact Heap.get?_push_size _ rfl
 show wpAny _ _ _ _ _ { s with heap := ((s.heap.push (seqObj "list" #[] 0)).update s.heap.objs.size (Obj.mapSeq (· ++ vs.toArray))).push (seqObj "list" vs.toArray 0) }
 rw [hsz]
 refine wpAny_bind (wpAny_holding (wpAny_call_entry slot_list_sort ⟨_, hoL, rfl⟩ entry_list_sort (list_sort_tree hoL hI h64 fun out ns' a1 a2 a3 => ⟨_, rfl, ?_⟩) (args_list_sort _)))
 exact wpAny_pure ⟨_, rfl, h out ns' a1 a2 a3⟩
end
section
variable {X : Cx}
theorem zdm : za3 X (.builtin "sorted") (fun xs H Q => ∃ p ns, xs = [.ref p] ∧ SqT X.K H p (ns.map V.int) ∧ ns.length < 64 ∧ ∀ (ns' : List Int) l, ns'.Perm ns → ns'.Pairwise (· ≤ ·) → H l = none → Q (.ref l) (upd H l (.lst (ns'.map V.int)))) := by
 intro pins s σ H xs us Q I r h
 obtain ⟨p, ns, rfl, hq, h64, q⟩ := h
 obtain ⟨u, rfl, rx⟩ := vals1 r
 cases rx
 obtain ⟨its, rv, pl, hz⟩ := I.tuple hq
 have hI := intsAre_of rv
 have hl := rv.length
 rw [List.length_map] at hl
 refine zgP pl hI (by omega) fun out ns' ho hp hs => ?_
 obtain ⟨e, he⟩ := sortedAll_at s.heap its out
 have hv : za1 (ns'.map V.int) out.toList := by
  clear he hp hs
  generalize out.toList = os at ho
  induction ho with
  | nil => exact .nil
  | cons n t _ ih => exact .cons ⟨_, rfl⟩ ih
 have hlen : (ns'.map V.int).length ≤ sizeLine := by rw [List.length_map, hp.length_eq, sizeLine_eq]; omega
 refine ⟨.ref (s.heap.objs.size + 1), _, I.laid (t' := s.toks) (a := s.heap.objs.size + 1) (o := .lst (ns'.map V.int)) (fun b u e => sortedAll_old e) (Nat.le_succ _) ?_, rfl, q ns' _ hp hs (I.hok.fresh (Nat.le_succ _))⟩
 refine ⟨hlen, out.toList, e, hv, ?_⟩
 rw [he]
end
end L2
end
section
namespace HT
open PySem PySem.Spec PyProof.Rows
def zcQ : List Int → List Int → Bool
 | [], [] => true
 | [], _ :: _ => false
 | _ :: _, [] => true
 | x :: xs, y :: ys => if x = y then zcQ xs ys else decide (x ≥ y)
theorem zd7 (x y : Int) (xs ys : List Int) : zcQ (x :: xs) (y :: ys) = if x = y then zcQ xs ys else decide (x ≥ y) := rfl
theorem zes : zcQ [] [] = true := rfl
theorem zdX (y : Int) (ys : List Int) : zcQ [] (y :: ys) = false := rfl
theorem zdY (x : Int) (xs : List Int) : zcQ (x :: xs) [] = true := rfl
theorem ze2 : ∀ (xs ys : List Int), zcQ xs ys = !lexLt xs ys
 | [], [] => rfl
 | [], _ :: _ => rfl
 | _ :: _, [] => rfl
 | x :: xs, y :: ys => by
  rw [zd7, za4]
  by_cases e : x = y
  ·rw [if_pos e, if_pos e]; exact ze2 xs ys
  ·rw [if_neg e, if_neg e]
   by_cases h : x < y
   ·rw [decide_eq_true h, decide_eq_false (by omega)]; rfl
   ·rw [decide_eq_false h, decide_eq_true (by omega)]; rfl
theorem ziQ (A : Around) (s : Shared) (a : Int) (t : Tok) (c : Int) (u : Tok) (prog : Program) (w : World) (E : Value → Shared → Prop) (Q : Value → Shared → Prop) (h : Q (.bool (decide (a ≥ c))) s) :
  wpAny (model prog w) A (richCompare .GtE (.int a t) (.int c u)) Q E s := (PyProof.Rows.ge_int h : wpAny (model prog w) A (compareOp .GtE (.int a t) (.int c u)) Q E s)
section
open PySem.SeqAt
open PySem.AutoSeq1 (wpAny_loadPart')
open PySem.MeetsSeq PySem.MeetsSeq2 PySem.MeetsSeq3
theorem zet (l b : Addr) (items items2 : Array Value) (n n2 : Nat) (dd dd2 : Option Addr) (sl sl2 : Array (Option Value)) (ns ms : List Int) (hi : IntsAre items.toList ns) (hj : IntsAre items2.toList ms) :
  Meets (Builtin.«tuple.__ge__» ⟨[.ref l, .ref b], []⟩)
   (fun _ R s => s.heap.get? l = some { cls := .type "tuple", dict := dd, data := .seq items n, slots := sl } ∧ s.heap.get? b = some { cls := .type "tuple", dict := dd2, data := .seq items2 n2, slots := sl2 } ∧
    R (.ok (.ret (.bool (zcQ ns ms)))) s) :=
 .of_wp fun prog w A R s h => by
  obtain ⟨hp, g, d, tk, os⟩ := s; obtain ⟨hl, hb, h⟩ := h
  have f2 := AutoSeq1.sub_tuple_tuple
  have z1 : items.size = ns.length := by rw [← hi.length]; simp
  have z2 : items2.size = ms.length := by rw [← hj.length]; simp
  wp_walk using wpAny_loadPart' hl, wpAny_loadPart' hb, wpAny_forIn_list _ (fun rest b s' => b.1 = none ∧ s' = ⟨hp, g, d, tk, os⟩ ∧ ∃ (vs ws : List Value) (ns' ms' : List Int), rest = vs.zip ws ∧
   IntsAre vs ns' ∧ IntsAre ws ms' ∧ ns'.length + items2.size = ms'.length + items.size ∧ R (.ok (.ret (.bool (zcQ ns' ms')))) ⟨hp, g, d, tk, os⟩) _
  case turn =>
   rintro ⟨y, x⟩ rest b s' ⟨hb', rfl, vs, ws, ns', ms', hz, hvi, hwi, hlen, hR⟩
   cases hvi with
   | nil => rw [List.zip_nil_left] at hz; cases hz
   | cons a t hvi' =>
    cases hwi with
    | nil => rw [List.zip_nil_right] at hz; cases hz
    | cons c u hwi' =>
     rw [List.zip_cons_cons] at hz
     injection hz with hyx hrest
     injection hyx with hy hx
     subst hy hx
     rw [zd7] at hR
     simp only [List.length_cons] at hlen
     obtain ⟨e, he, hiff⟩ := zf5 A.in1 ⟨hp, g, d, tk, os⟩ a t c u
     refine wpAny_bind (he prog w _ _ ?_)
     cases e with
     | true =>
      rw [if_pos (hiff.mp rfl)] at hR
      wp_walk
      exact ⟨rfl, rfl, _, _, _, _, hrest, hvi', hwi', by omega, hR⟩
     | false =>
      rw [if_neg (fun q => absurd (hiff.mpr q) Bool.false_ne_true)] at hR
      have hri := ziQ A.in1 ⟨hp, g, d, tk, os⟩ a t c u prog w
      wp_walk using hri
      exact ⟨_, rfl, by simpa using hR⟩
  case fin =>
   rintro ⟨b1, b2⟩ s' ⟨hb', rfl, vs, ws, ns', ms', hz, hvi, hwi, hlen, hR⟩
   simp only at hb'
   subst hb'
   have hv : zcQ ns' ms' = decide (items.size ≥ items2.size) := by
    cases hvi with
    | nil =>
     cases hwi with
     | nil =>
      simp only [List.length_nil] at hlen
      rw [zes]
      exact (decide_eq_true (by omega)).symm
     | cons c u hw =>
      simp only [List.length_nil, List.length_cons] at hlen
      rw [zdX]
      exact (decide_eq_false (by omega)).symm
    | cons a t hv =>
     cases hwi with
     | nil =>
      simp only [List.length_nil, List.length_cons] at hlen
      rw [zdY]
      exact (decide_eq_true (by omega)).symm
     | cons c u hw =>
      rw [List.zip_cons_cons] at hz
      cases hz
   rw [hv] at hR
   wp_walk
   exact ⟨_, rfl, by simpa [Builtin.Tuple.tupleCompareSizes] using hR⟩
  case h =>
   exact ⟨rfl, rfl, items.toList, items2.toList, ns, ms, rfl, hi, hj, by omega, h⟩
end
section
variable {prog : Program} {w : World} {A : Around} {E : Value → Shared → Prop} {s : Shared}
theorem zgQ {l b : Addr} {items items2 : Array Value} {ns ms : List Int} {Q : Value → Shared → Prop} (hl : IsTup s.heap l items) (hb : IsTup s.heap b items2) (hi : IntsAre items.toList ns) (hj : IntsAre items2.toList ms)
  (hu : A.units < cLine) (h : Q (.bool (zcQ ns ms)) s) : wpAny (model prog w) A (compareOp .GtE (.ref l) (.ref b)) Q E s := by
 obtain ⟨⟨cls, dd, data, sl⟩, ho, hc, n, hd⟩ := id hl
 obtain ⟨⟨cls2, dd2, data2, sl2⟩, ho2, hc2, n2, hd2⟩ := id hb
 simp only at hc hd hc2 hd2
 subst hc hd hc2 hd2
 exact richCompare_meets_room (op := .GtE) ⟨_, ho, rfl⟩ ⟨_, ho2, rfl⟩ PySem.F.slot_tuple_ge PySem.F.entry_tuple_ge (PySem.F.args_tuple_ge_2 _ _) (zet l b items items2 n n2 dd dd2 sl sl2 ns ms hi hj)
  ⟨ho, ho2, show Value.bool (zcQ ns ms) ≠ Value.notImplemented ∧ Q (.bool (zcQ ns ms)) s from ⟨(fun x => nomatch x), h⟩⟩ hu
end
end HT
namespace L2
open PySem PySem.Spec PyProof.Rows
section
variable {X : Cx}
def rGeT (K : PySem.W.Frag) : R2 := fun x y H Q => ∃ a b ns ms, x = .ref a ∧ y = .ref b ∧ SqT K H a (ns.map V.int) ∧ SqT K H b (ms.map V.int) ∧ Q (.bl (!HT.lexLt ns ms)) H
theorem zmc (hu : X.A.units < cLine) : OpR X (compareOp .GtE) (rGeT X.K) := by
 intro pins s σ H x y v u Q I rx ry h
 obtain ⟨a, b, ns, ms, rfl, rfl, ha, hb, q⟩ := h
 cases rx
 cases ry
 obtain ⟨its, r1, p1, _⟩ := I.tuple ha
 obtain ⟨its2, r2, p2, _⟩ := I.tuple hb
 refine HT.zgQ p1 p2 (intsAre_of r1) (intsAre_of r2) hu ⟨.bl (HT.zcQ ns ms), H, I, rfl, ?_⟩
 rw [HT.ze2]; exact q
end
end L2
end
section
namespace VL
open PySem PySem.Spec L2 PyProof.Rows
abbrev Zs := Addr → Prop
def keyP : Key → PyData
 | .inl i => .int i
 | .inr x => .str x
def KL (K : PySem.W.Frag) (a : Addr) (xs : List V) : Prop := ∃ (o : Obj) (its : Array Value) (n : Nat), K.lookup a = some o ∧ o.cls = .type "list" ∧ o.dict = none ∧ o.data = .seq its n ∧ its.size ≤ sizeLine ∧ za1 xs its.toList
mutual
inductive Fz (K : PySem.W.Frag) (H : Hp) (Z : Zs) : V → PyData → Prop
 | non : Fz K H Z .non .none
 | bl (b : Bool) : Fz K H Z (.bl b) (.bool b)
 | int (i : Int) : Fz K H Z (.int i) (.int i)
 | str (x : Str) : Fz K H Z (.str x) (.str x)
 | tup {a : Addr} {xs : List V} {ds : List PyData} : SqT K H a xs → Fzs K H Z xs ds → Fz K H Z (.ref a) (.tuple ds)
 | lst {a : Addr} {xs : List V} {ds : List PyData} : Rd H a (.lst xs) → Z a → Fzs K H Z xs ds → Fz K H Z (.ref a) (.list ds)
 | lsK {a : Addr} {xs : List V} {ds : List PyData} : KL K a xs → Fzs K H Z xs ds → Fz K H Z (.ref a) (.list ds)
 | dic {a : Addr} {kxs : List (Key × V)} {ds : List (Key × PyData)} : H a = some (.dK kxs) → Z a → Fzk K H Z kxs ds → Fz K H Z (.ref a) (.dict (ds.map fun p => (keyP p.1, p.2)))
inductive Fzs (K : PySem.W.Frag) (H : Hp) (Z : Zs) : List V → List PyData → Prop
 | nil : Fzs K H Z [] []
 | cons {x : V} {d : PyData} {xs : List V} {ds : List PyData} : Fz K H Z x d → Fzs K H Z xs ds → Fzs K H Z (x :: xs) (d :: ds)
inductive Fzk (K : PySem.W.Frag) (H : Hp) (Z : Zs) : List (Key × V) → List (Key × PyData) → Prop
 | nil : Fzk K H Z [] []
 | cons {k : Key} {x : V} {d : PyData} {xs : List (Key × V)} {ds : List (Key × PyData)} : Fz K H Z x d → Fzk K H Z xs ds → Fzk K H Z ((k, x) :: xs) ((k, d) :: ds)
end
structure zba (H : Hp) (Z : Zs) (H' : Hp) (Z' : Zs) : Prop where
 zca : zdF H H'
 keep : ∀ a o, Z a → H a = some o → H' a = some o
 zs : ∀ a, Z a → Z' a
theorem zba.refl {H : Hp} {Z : Zs} : zba H Z H Z := ⟨zdF.refl, fun _ _ _ h => h, fun _ h => h⟩
theorem zba.trans {H H1 H2 : Hp} {Z Z1 Z2 : Zs} (g : zba H Z H1 Z1) (h : zba H1 Z1 H2 Z2) : zba H Z H2 Z2 := ⟨g.zca.trans h.zca, fun a o z e => h.keep a o (g.zs a z) (g.keep a o z e), fun a z => h.zs a (g.zs a z)⟩
section
variable {K : PySem.W.Frag} {H H' : Hp} {Z Z' : Zs}
mutual
theorem Fz.mono (g : zba H Z H' Z') : ∀ {x : V} {d : PyData}, Fz K H Z x d → Fz K H' Z' x d
 | _, _, .non => .non
 | _, _, .bl b => .bl b
 | _, _, .int i => .int i
 | _, _, .str x => .str x
 | _, _, .tup h r => .tup (g.zca.sq h) (Fzs.mono g r)
 | _, _, .lst (a := a) h z r => .lst (by
   rcases h with e | ⟨o, e⟩
   ·exact .inl (g.keep a _ z e)
   ·exact .inr ⟨o, g.keep a _ z e⟩) (g.zs _ z) (Fzs.mono g r)
 | _, _, .lsK h r => .lsK h (Fzs.mono g r)
 | _, _, .dic (a := a) h z r => .dic (g.keep a _ z h) (g.zs _ z) (Fzk.mono g r)
theorem Fzs.mono (g : zba H Z H' Z') : ∀ {x : List V} {d : List PyData}, Fzs K H Z x d → Fzs K H' Z' x d
 | _, _, .nil => .nil
 | _, _, .cons h r => .cons (Fz.mono g h) (Fzs.mono g r)
theorem Fzk.mono (g : zba H Z H' Z') : ∀ {x : List (Key × V)} {d : List (Key × PyData)}, Fzk K H Z x d → Fzk K H' Z' x d
 | _, _, .nil => .nil
 | _, _, .cons h r => .cons (Fz.mono g h) (Fzk.mono g r)
end
theorem Fzs.length : ∀ {xs : List V} {ds : List PyData}, Fzs K H Z xs ds → xs.length = ds.length
 | _, _, .nil => rfl
 | _, _, .cons _ r => by rw [List.length_cons, List.length_cons, Fzs.length r]
theorem Fzs.get' : ∀ {xs : List V} {ds : List PyData} {i : Nat} {d : PyData}, Fzs K H Z xs ds → ds[i]? = some d → ∃ x, xs[i]? = some x ∧ Fz K H Z x d
 | _, _, _, _, .nil, e => by simp at e
 | _, _, 0, _, .cons r _, e => by simp at e; subst e; exact ⟨_, rfl, r⟩
 | _, _, i + 1, _, .cons _ t, e => by
  obtain ⟨d, h1, h2⟩ := Fzs.get' (i := i) t (by simpa using e)
  exact ⟨d, by simpa using h1, h2⟩
theorem Fzs.append : ∀ {xs ys : List V} {ds es : List PyData}, Fzs K H Z xs ds → Fzs K H Z ys es → Fzs K H Z (xs ++ ys) (ds ++ es)
 | _, _, _, _, .nil, s => s
 | _, _, _, _, .cons h r, s => .cons h (Fzs.append r s)
theorem Fzs.take : ∀ {xs : List V} {ds : List PyData} (n : Nat), Fzs K H Z xs ds → Fzs K H Z (xs.take n) (ds.take n)
 | _, _, 0, _ => by rw [List.take_zero, List.take_zero]; exact .nil
 | _, _, n + 1, .nil => by rw [List.take_nil, List.take_nil]; exact .nil
 | _, _, n + 1, .cons h r => .cons h (Fzs.take n r)
theorem Fzs.drop : ∀ {xs : List V} {ds : List PyData} (n : Nat), Fzs K H Z xs ds → Fzs K H Z (xs.drop n) (ds.drop n)
 | _, _, 0, h => h
 | _, _, n + 1, .nil => by rw [List.drop_nil, List.drop_nil]; exact .nil
 | _, _, n + 1, .cons h r => Fzs.drop n r
theorem Fzs.reverse : ∀ {xs : List V} {ds : List PyData}, Fzs K H Z xs ds → Fzs K H Z xs.reverse ds.reverse
 | _, _, .nil => .nil
 | _, _, .cons h r => by rw [List.reverse_cons, List.reverse_cons]; exact (Fzs.reverse r).append (.cons h .nil)
theorem Fzs.set : ∀ {xs : List V} {ds : List PyData} {x : V} {d : PyData} (i : Nat), Fzs K H Z xs ds → Fz K H Z x d → Fzs K H Z (xs.set i x) (ds.set i d)
 | _, _, _, _, _, .nil, _ => .nil
 | _, _, _, _, 0, .cons _ r, h => .cons h r
 | _, _, _, _, i + 1, .cons q r, h => .cons q (Fzs.set i r h)
theorem Fzk.length : ∀ {xs : List (Key × V)} {ds : List (Key × PyData)}, Fzk K H Z xs ds → xs.length = ds.length
 | _, _, .nil => rfl
 | _, _, .cons _ r => by rw [List.length_cons, List.length_cons, Fzk.length r]
theorem Fzk.keys : ∀ {xs : List (Key × V)} {ds : List (Key × PyData)}, Fzk K H Z xs ds → xs.map (·.1) = ds.map (·.1)
 | _, _, .nil => rfl
 | _, _, .cons _ r => by rw [List.map_cons, List.map_cons, Fzk.keys r]
theorem Fz.int_inv {x : V} {i : Int} (h : Fz K H Z x (.int i)) : x = .int i := by cases h; rfl
theorem Fz.zgd {x : V} {i : Bool} (h : Fz K H Z x (.bool i)) : x = .bl i := by cases h; rfl
theorem Fz.str_inv {x : V} {i : Str} (h : Fz K H Z x (.str i)) : x = .str i := by cases h; rfl
theorem Fz.zku {x : V} (h : Fz K H Z x .none) : x = .non := by cases h; rfl
theorem Fz.zcA {x : V} {ds : List PyData} (h : Fz K H Z x (.tuple ds)) : ∃ a xs, x = .ref a ∧ SqT K H a xs ∧ Fzs K H Z xs ds := by
 cases h with
 | tup q r => exact ⟨_, _, rfl, q, r⟩
theorem Fz.lst_inv {x : V} {ds : List PyData} (h : Fz K H Z x (.list ds)) : ∃ a xs, x = .ref a ∧ SqL K H a xs ∧ Fzs K H Z xs ds := by
 cases h with
 | lst q z r => exact ⟨_, _, rfl, .inl q, r⟩
 | lsK q r => exact ⟨_, _, rfl, .inr q, r⟩
theorem Fzs.ints : ∀ (ns : List Int), Fzs K H Z (ns.map V.int) (ns.map .int)
 | [] => .nil
 | n :: ns => .cons (.int n) (Fzs.ints ns)
theorem Fzs.zbw : ∀ {ns : List Int} {xs : List V}, Fzs K H Z xs (ns.map .int) → xs = ns.map V.int
 | [], _, .nil => rfl
 | n :: ns, _, .cons (.int _) r => by rw [Fzs.zbw r]; rfl
end
section
variable {X : Cx} {pins : List (Addr × Obj)} {σ : L2.St} {H : Hp} {s : Shared} {Z : Zs}
mutual
theorem Fz.reads (I : Inv X pins σ H s) : ∀ {v : V} {d : PyData} {u : Value}, Fz X.K H Z v d → d.canLay0 = true → RelV v u → ∃ as, Reads s.heap u d as
 | _, _, _, .non, _, r => by cases r; exact ⟨_, .none⟩
 | _, _, _, .bl b, _, r => by cases r; exact ⟨_, .bool b⟩
 | _, _, _, .int i, _, r => by obtain ⟨t, rfl⟩ := r; exact ⟨_, .int i t⟩
 | _, _, _, .str x, _, r => by obtain ⟨t, rfl⟩ := r; exact ⟨_, .str x t⟩
 | _, _, _, .tup q rs, c, r => by
  cases r
  obtain ⟨its, rv, ⟨o, ho, hc, n, hd⟩, _⟩ := I.tuple q
  obtain ⟨as, h⟩ := Fzs.reads I rs c rv
  exact ⟨as, .tuple ho hc hd (by simpa using h)⟩
 | _, _, _, .lst q z rs, c, r => by
  cases r
  obtain ⟨its, rv, ⟨o, n, ho, hc, hdd, hd⟩, _⟩ := I.list (.inl q)
  obtain ⟨as, h⟩ := Fzs.reads I rs c rv
  exact ⟨_, .list ho hc hd (by simpa using h)⟩
 | _, _, _, .lsK q rs, c, r => by
  cases r
  obtain ⟨its, rv, ⟨o, n, ho, hc, hdd, hd⟩, _⟩ := I.list (.inr q)
  obtain ⟨as, h⟩ := Fzs.reads I rs c rv
  exact ⟨_, .list ho hc hd (by simpa using h)⟩
 | _, _, _, .dic _ _ _, c, _ => nomatch c
theorem Fzs.reads (I : Inv X pins σ H s) : ∀ {v : List V} {d : List PyData} {u : List Value}, Fzs X.K H Z v d → PyData.canLayAll0 d = true → za1 v u → ∃ as, ReadsAll s.heap u d as
 | _, _, _, .nil, _, .nil => ⟨_, .nil⟩
 | _, _, _, .cons (d := d) (ds := ds) r q, c, .cons a b => by
  have c' : d.canLay0 = true ∧ PyData.canLayAll0 ds = true := by simpa [PyData.canLayAll0] using c
  obtain ⟨x, h1⟩ := Fz.reads I r c'.1 a
  obtain ⟨y, h2⟩ := Fzs.reads I q c'.2 b
  exact ⟨_, .cons h1 h2⟩
end
end
end VL
end
section
namespace VL
open PySem PySem.Spec L2 PyProof.Rows
inductive M where
 | v (d : PyData)
 | lst (ds : List PyData)
 | dic (kvs : List (Key × PyData))
 | dls (kvs : List (Key × List PyData))
abbrev Ev := List (Option M)
section
variable (K : PySem.W.Frag) (H : Hp) (Z : Zs)
inductive Owl : List (Key × V) → List (Key × List PyData) → List Addr → Prop
 | nil : Owl [] [] []
 | cons {k : Key} {b : Addr} {xs : List V} {ds : List PyData} {kxs : List (Key × V)} {kvs : List (Key × List PyData)} {G : List Addr} : H b = some (.lst xs) → Fzs K H Z xs ds → Owl kxs kvs G → Owl ((k, .ref b) :: kxs) ((k, ds) :: kvs) (b :: G)
inductive Ow : V → M → List Addr → Prop
 | v {x : V} {d : PyData} : Fz K H Z x d → Ow x (.v d) []
 | lst {a : Addr} {xs : List V} {ds : List PyData} : H a = some (.lst xs) → Fzs K H Z xs ds → Ow (.ref a) (.lst ds) [a]
 | dic {a : Addr} {kxs : List (Key × V)} {kvs : List (Key × PyData)} : H a = some (.dK kxs) → Fzk K H Z kxs kvs → Ow (.ref a) (.dic kvs) [a]
 | dls {a : Addr} {kxs : List (Key × V)} {kvs : List (Key × List PyData)} {G : List Addr} : H a = some (.dK kxs) → Owl K H Z kxs kvs G → Ow (.ref a) (.dls kvs) (a :: G)
inductive Owo : L2.St → Ev → List Addr → Prop
 | nil : Owo [] [] []
 | non {x : Option V} {σ : L2.St} {ρ : Ev} {F : List Addr} : Owo σ ρ F → Owo (x :: σ) (none :: ρ) F
 | som {x : V} {m : M} {G : List Addr} {σ : L2.St} {ρ : Ev} {F : List Addr} : Ow K H Z x m G → Owo σ ρ F → Owo (some x :: σ) (some m :: ρ) (G ++ F)
end
def Mu (o : HO) : Prop := (∃ xs, o = .lst xs) ∨ ∃ kvs, o = .dK kvs
structure Wf (H : Hp) (Z : Zs) (F : List Addr) : Prop where
 nd : F.Nodup
 dz : ∀ a ∈ F, ¬ Z a
 za : ∀ a, Z a → H a ≠ none
structure Fut (H : Hp) (Z : Zs) (F : List Addr) (H' : Hp) (Z' : Zs) (F' : List Addr) : Prop where
 keep : ∀ a o, a ∉ F → H a = some o → H' a = some o
 zca : zdF H H'
 zs : ∀ a, Z a → Z' a
 zn : ∀ a, Z' a → Z a ∨ a ∈ F ∨ H a = none
 fr : ∀ a ∈ F', a ∈ F ∨ H a = none
 nd : F'.Nodup
 dz : ∀ a ∈ F', ¬ Z' a
 za : ∀ a, Z' a → H' a ≠ none
section
variable {K : PySem.W.Frag} {H H' H1 H2 : Hp} {Z Z' Z1 Z2 : Zs} {F F' F1 F2 G : List Addr}
theorem Fut.refl (w : Wf H Z F) : Fut H Z F H Z F := ⟨fun _ _ _ h => h, zdF.refl, fun _ h => h, fun _ h => .inl h, fun _ h => .inl h, w.nd, w.dz, w.za⟩
theorem Fut.wf (f : Fut H Z F H' Z' F') : Wf H' Z' F' := ⟨f.nd, f.dz, f.za⟩
theorem Fut.grow (f : Fut H Z F H' Z' F') (w : Wf H Z F) : zba H Z H' Z' := ⟨f.zca, fun a o z e => f.keep a o (fun h => w.dz a h z) e, f.zs⟩
theorem Fut.trans (f : Fut H Z F H1 Z1 F1) (g : Fut H1 Z1 F1 H2 Z2 F2) : Fut H Z F H2 Z2 F2 := by
 have old : ∀ a, H1 a = none → a ∈ F ∨ H a = none := fun a e => by
  by_cases h : a ∈ F
  ·exact .inl h
  ·cases q : H a with
   | none => exact .inr rfl
   | some o => rw [f.keep a o h q] at e; cases e
 refine ⟨fun a o h e => g.keep a o (fun z => ?_) (f.keep a o h e), f.zca.trans g.zca, fun a z => g.zs a (f.zs a z), fun a z => ?_, fun a h => ?_, g.nd, g.dz, g.za⟩
 ·rcases f.fr a z with z | z
  ·exact h z
  ·rw [e] at z; cases z
 ·rcases g.zn a z with z | z | z
  ·exact f.zn a z
  ·exact .inr (f.fr a z)
  ·exact .inr (old a z)
 ·rcases g.fr a h with z | z
  ·exact f.fr a z
  ·exact old a z
theorem Fut.frame (f : Fut H Z F H' Z' F') (w : Wf H Z (F ++ G)) (al : ∀ a ∈ G, H a ≠ none) : Fut H Z (F ++ G) H' Z' (F' ++ G) := by
 have nd := List.nodup_append.mp w.nd
 have sep : ∀ a ∈ G, a ∉ F := fun a h z => nd.2.2 a z a h rfl
 refine ⟨fun a o h e => f.keep a o (fun z => h (lL _ z)) e, f.zca, f.zs, fun a z => ?_, fun a h => ?_, ?_, fun a h z => ?_, f.za⟩
 ·rcases f.zn a z with z | z | z
  ·exact .inl z
  ·exact .inr (.inl (lL _ z))
  ·exact .inr (.inr z)
 ·rcases lM h with h | h
  ·rcases f.fr a h with z | z
   ·exact .inl (lL _ z)
   ·exact .inr z
  ·exact .inl (lR _ h)
 ·refine List.nodup_append.mpr ⟨f.nd, nd.2.1, fun a h b h' e => ?_⟩
  subst e
  rcases f.fr a h with z | z
  ·exact sep a h' z
  ·exact al a h' z
 ·rcases lM h with h | h
  ·exact f.dz a h z
  ·rcases f.zn a z with z | z | z
   ·exact w.dz a (lR _ h) z
   ·exact sep a h z
   ·exact al a h z
theorem Fut.sub (f : Fut H Z F H' Z' F') (hn : F1.Nodup) (hs : ∀ a ∈ F1, a ∈ F') : Fut H Z F H' Z' F1 := ⟨f.keep, f.zca, f.zs, f.zn, fun a h => f.fr a (hs a h), hn, fun a h => f.dz a (hs a h), f.za⟩
theorem Fut.left (f : Fut H Z F H' Z' (F1 ++ G)) : Fut H Z F H' Z' F1 := f.sub (List.nodup_append.mp f.nd).1 fun _ h => lL _ h
theorem Fut.nil (f : Fut H Z F H' Z' F1) : Fut H Z F H' Z' (F1 ++ []) := by rw [List.append_nil]; exact f
theorem Fut.swap (f : Fut H Z F H' Z' (F1 ++ G)) : Fut H Z F H' Z' (G ++ F1) := f.sub (by
  have h := List.nodup_append.mp f.nd
  exact List.nodup_append.mpr ⟨h.2.1, h.1, fun a x b y e => h.2.2 b y a x e.symm⟩) fun a h => by
  rcases lM h with h | h
  ·exact lR _ h
  ·exact lL _ h
theorem Owl.mem : ∀ {kxs : List (Key × V)} {kvs : List (Key × List PyData)} {G : List Addr}, Owl K H Z kxs kvs G → ∀ a ∈ G, ∃ o, H a = some o ∧ Mu o
 | _, _, _, .nil, a, h => by simp at h
 | _, _, _, .cons e _ r, a, h => by
  rcases lK h with h | h
  ·subst h; exact ⟨_, e, .inl ⟨_, rfl⟩⟩
  ·exact Owl.mem r a h
theorem Ow.mem {x : V} {m : M} (h : Ow K H Z x m G) : ∀ a ∈ G, ∃ o, H a = some o ∧ Mu o := fun a ha => by
 cases h with
 | v _ => simp at ha
 | lst e _ => rw [List.mem_singleton] at ha; subst ha; exact ⟨_, e, .inl ⟨_, rfl⟩⟩
 | dic e _ => rw [List.mem_singleton] at ha; subst ha; exact ⟨_, e, .inr ⟨_, rfl⟩⟩
 | dls e r =>
  rcases lK ha with ha | ha
  ·subst ha; exact ⟨_, e, .inr ⟨_, rfl⟩⟩
  ·exact r.mem a ha
theorem Ow.al {x : V} {m : M} (h : Ow K H Z x m G) : ∀ a ∈ G, H a ≠ none := fun a ha e => by obtain ⟨o, q, _⟩ := h.mem a ha; rw [q] at e; cases e
theorem Owo.mem : ∀ {σ : L2.St} {ρ : Ev} {F : List Addr}, Owo K H Z σ ρ F → ∀ a ∈ F, ∃ o, H a = some o ∧ Mu o
 | _, _, _, .nil, a, h => by simp at h
 | _, _, _, .non r, a, h => Owo.mem r a h
 | _, _, _, .som q r, a, h => by
  rcases lM h with h | h
  ·exact q.mem a h
  ·exact Owo.mem r a h
theorem Owo.al {σ : L2.St} {ρ : Ev} (h : Owo K H Z σ ρ F) : ∀ a ∈ F, H a ≠ none := fun a ha e => by obtain ⟨o, q, _⟩ := h.mem a ha; rw [q] at e; cases e
theorem Owl.mono (g : zba H Z H' Z') : ∀ {kxs : List (Key × V)} {kvs : List (Key × List PyData)} {G : List Addr}, Owl K H Z kxs kvs G → (∀ a ∈ G, ∀ o, H a = some o → H' a = some o) → Owl K H' Z' kxs kvs G
 | _, _, _, .nil, _ => .nil
 | _, _, _, .cons e f r, k => .cons (k _ lS _ e) (f.mono g) (Owl.mono g r fun a h => k a (lO _ h))
theorem Ow.mono {x : V} {m : M} (g : zba H Z H' Z') (h : Ow K H Z x m G) (k : ∀ a ∈ G, ∀ o, H a = some o → H' a = some o) : Ow K H' Z' x m G := by
 cases h with
 | v f => exact .v (f.mono g)
 | lst e f => exact .lst (k _ lS _ e) (f.mono g)
 | dic e f => exact .dic (k _ lS _ e) (f.mono g)
 | dls e f => exact .dls (k _ lS _ e) (f.mono g fun a h => k a (lO _ h))
theorem Owo.mono (g : zba H Z H' Z') : ∀ {σ : L2.St} {ρ : Ev} {F : List Addr}, Owo K H Z σ ρ F → (∀ a ∈ F, ∀ o, H a = some o → H' a = some o) → Owo K H' Z' σ ρ F
 | _, _, _, .nil, _ => .nil
 | _, _, _, .non r, k => .non (Owo.mono g r k)
 | _, _, _, .som q r, k => .som (q.mono g fun a h => k a (lL _ h)) (Owo.mono g r fun a h => k a (lR _ h))
theorem Owo.get : ∀ {σ : L2.St} {ρ : Ev} {F : List Addr} {i : Nat} {m : M}, Owo K H Z σ ρ F → ρ[i]? = some (some m) → ∃ x G, σ[i]? = some (some x) ∧ Ow K H Z x m G ∧ ∀ a ∈ G, a ∈ F
 | _, _, _, _, _, .nil, e => by simp at e
 | _, _, _, 0, _, .non r, e => by simp at e
 | _, _, _, i + 1, _, .non r, e => by
  obtain ⟨x, G, h1, h2, h3⟩ := Owo.get (i := i) r (by simpa using e)
  exact ⟨x, G, by simpa using h1, h2, h3⟩
 | _, _, _, 0, _, .som q r, e => by simp at e; subst e; exact ⟨_, _, rfl, q, fun a h => lL _ h⟩
 | _, _, _, i + 1, _, .som q r, e => by
  obtain ⟨x, G, h1, h2, h3⟩ := Owo.get (i := i) r (by simpa using e)
  exact ⟨x, G, by simpa using h1, h2, fun a h => lR _ (h3 a h)⟩
theorem Owo.take : ∀ {σ : L2.St} {ρ : Ev} {F : List Addr} {i : Nat} {m : M}, Owo K H Z σ ρ F → F.Nodup → ρ[i]? = some (some m) →
  ∃ x G F1, σ[i]? = some (some x) ∧ Ow K H Z x m G ∧ Owo K H Z σ (ρ.set i none) F1 ∧ (F1 ++ G).Nodup ∧ ∀ a, a ∈ F1 ++ G → a ∈ F
 | _, _, _, _, _, .nil, _, e => by simp at e
 | _, _, _, 0, _, .non r, _, e => by simp at e
 | _, _, _, i + 1, _, .non r, nd, e => by
  obtain ⟨x, G, F1, h1, h2, h3, h4, h5⟩ := Owo.take (i := i) r nd (by simpa using e)
  exact ⟨x, G, F1, by simpa using h1, h2, .non h3, h4, h5⟩
 | _, _, _, 0, _, .som (G := G) (F := F) q r, nd, e => by
  simp at e; subst e
  have h := List.nodup_append.mp nd
  exact ⟨_, G, F, rfl, q, .non r, List.nodup_append.mpr ⟨h.2.1, h.1, fun a x b y e => h.2.2 b y a x e.symm⟩, fun a h => by
   rcases lM h with h | h
   ·exact lR _ h
   ·exact lL _ h⟩
 | _, _, _, i + 1, _, .som (G := G0) (F := F) q r, nd, e => by
  have h := List.nodup_append.mp nd
  obtain ⟨x, G, F1, h1, h2, h3, h4, h5⟩ := Owo.take (i := i) r h.2.1 (by simpa using e)
  refine ⟨x, G, G0 ++ F1, by simpa using h1, h2, .som q h3, ?_, fun a z => ?_⟩
  ·rw [List.append_assoc]
   exact List.nodup_append.mpr ⟨h.1, h4, fun a x b y e => h.2.2 a x b (h5 b y) e⟩
  ·rw [List.append_assoc] at z
   rcases lM z with z | z
   ·exact lL _ z
   ·exact lR _ (h5 a z)
theorem Owo.drop : ∀ {σ : L2.St} {ρ : Ev} {F : List Addr} (i : Nat), Owo K H Z σ ρ F → F.Nodup → ∃ F1, Owo K H Z σ (ρ.set i none) F1 ∧ F1.Nodup ∧ ∀ a ∈ F1, a ∈ F
 | _, _, _, _, .nil, nd => ⟨_, .nil, nd, fun _ h => h⟩
 | _, _, _, 0, .non r, nd => ⟨_, .non r, nd, fun _ h => h⟩
 | _, _, _, i + 1, .non r, nd => by
  obtain ⟨F1, h1, h2, h3⟩ := Owo.drop i r nd
  exact ⟨F1, .non h1, h2, h3⟩
 | _, _, _, 0, .som q r, nd => ⟨_, .non r, (List.nodup_append.mp nd).2.1, fun _ h => lR _ h⟩
 | _, _, _, i + 1, .som (G := G0) q r, nd => by
  have h := List.nodup_append.mp nd
  obtain ⟨F1, h1, h2, h3⟩ := Owo.drop i r h.2.1
  refine ⟨G0 ++ F1, .som q h1, List.nodup_append.mpr ⟨h.1, h2, fun a x b y e => h.2.2 a x b (h3 b y) e⟩, fun a z => ?_⟩
  rcases lM z with z | z
  ·exact lL _ z
  ·exact lR _ (h3 a z)
theorem Owo.put : ∀ {σ : L2.St} {ρ : Ev} {F : List Addr} {i : Nat} {x : V} {m : M} {G : List Addr}, Owo K H Z σ ρ F → Ow K H Z x m G → (F ++ G).Nodup → ρ[i]? = some none →
  ∃ F1, Owo K H Z (σ.set i (some x)) (ρ.set i (some m)) F1 ∧ F1.Nodup ∧ ∀ a ∈ F1, a ∈ F ++ G
 | _, _, _, _, _, _, _, .nil, _, _, e => by simp at e
 | _, _, _, 0, _, _, G, .non (F := F) r, h, nd, e => by
  have h' := List.nodup_append.mp nd
  exact ⟨G ++ F, .som h r, List.nodup_append.mpr ⟨h'.2.1, h'.1, fun a x b y e => h'.2.2 b y a x e.symm⟩, fun a h => by
   rcases lM h with h | h
   ·exact lR _ h
   ·exact lL _ h⟩
 | _, _, _, i + 1, _, _, G, .non r, h, nd, e => by
  obtain ⟨F1, h1, h2, h3⟩ := Owo.put (i := i) r h nd (by simpa using e)
  exact ⟨F1, .non h1, h2, h3⟩
 | _, _, _, 0, _, _, _, .som q r, _, _, e => by simp at e
 | _, _, _, i + 1, _, _, G, .som (G := G0) (F := F) q r, h, nd, e => by
  rw [List.append_assoc] at nd
  have h' := List.nodup_append.mp nd
  obtain ⟨F1, h1, h2, h3⟩ := Owo.put (i := i) r h h'.2.1 (by simpa using e)
  refine ⟨G0 ++ F1, .som q h1, List.nodup_append.mpr ⟨h'.1, h2, fun a x b y e => h'.2.2 a x b (h3 b y) e⟩, fun a z => ?_⟩
  rw [List.append_assoc]
  rcases lM z with z | z
  ·exact lL _ z
  ·exact lR _ (h3 a z)
end
end VL
end
section
namespace VL
open PySem PySem.Spec L2 PyProof.Rows
inductive Opd where
 | t (m : M)
 | p (i : Nat)
 | q (i : Nat) (k : Key)
def zdZ {α : Type} (kvs : List (Key × α)) (k : Key) : Option α := (kvs.find? fun kv => decide (kv.1 = k)).map (·.2)
def at? (ρ : Ev) (i : Nat) : Option M := match ρ[i]? with
 | some (some m) => some m
 | _ => none
theorem zas {ρ : Ev} {i : Nat} {m : M} : at? ρ i = some m ↔ ρ[i]? = some (some m) := by
 unfold at?
 split
 ·next h => rw [h]; simp
 ·next h =>
  exact ⟨fun e => (nomatch e), fun e => (h m e).elim⟩
def zcB (ρ : Ev) : Opd → Option M
 | .t m => some m
 | .p i => at? ρ i
 | .q _ _ => none
def peek (ρ : Ev) : Opd → Option M
 | .t m => some m
 | .p i => at? ρ i
 | .q i k => match at? ρ i with
  | some (.dls kvs) => (zdZ kvs k).map .lst
  | _ => none
def zd0 (ρ : Ev) : List Opd → Option (List M)
 | [] => some []
 | o :: os => (peek ρ o).bind fun m => (zd0 ρ os).bind fun ms => some (m :: ms)
theorem zaT {ρ : Ev} {o : Opd} {m : M} (h : zcB ρ o = some m) : peek ρ o = some m := by
 cases o with
 | t _ => exact h
 | p _ => exact h
 | q _ _ => cases h
inductive Opv (K : PySem.W.Frag) (H : Hp) (Z : Zs) (σ : L2.St) : V → Opd → List Addr → Prop
 | t {x : V} {m : M} {G : List Addr} : Ow K H Z x m G → Opv K H Z σ x (.t m) G
 | p {x : V} {i : Nat} : σ[i]? = some (some x) → Opv K H Z σ x (.p i) []
 | q {x : V} {i : Nat} {k : Key} {a : Addr} {kxs : List (Key × V)} : σ[i]? = some (some (.ref a)) → H a = some (.dK kxs) → zeC kxs k = some x → Opv K H Z σ x (.q i k) []
inductive zfq (K : PySem.W.Frag) (H : Hp) (Z : Zs) (σ : L2.St) : List V → List Opd → List Addr → Prop
 | nil : zfq K H Z σ [] [] []
 | cons {x : V} {o : Opd} {G : List Addr} {xs : List V} {os : List Opd} {G' : List Addr} : Opv K H Z σ x o G → zfq K H Z σ xs os G' → zfq K H Z σ (x :: xs) (o :: os) (G ++ G')
def Ro (K : PySem.W.Frag) (H : Hp) (Z : Zs) (x : V) (m : M) : Prop := ∃ G, Ow K H Z x m G
def Ros (K : PySem.W.Frag) (H : Hp) (Z : Zs) : List V → List M → Prop := Paired (Ro K H Z)
section
variable {K : PySem.W.Frag} {H H' H1 H2 H3 : Hp} {Z Z' Z1 Z2 Z3 : Zs} {F F' F1 F2 G : List Addr} {σ : L2.St} {ρ : Ev}
theorem Owl.get : ∀ {kxs : List (Key × V)} {kvs : List (Key × List PyData)} {G : List Addr} {k : Key} {ds : List PyData}, Owl K H Z kxs kvs G → zdZ kvs k = some ds → ∃ b xs, zeC kxs k = some (.ref b) ∧ H b = some (.lst xs) ∧ Fzs K H Z xs ds ∧ b ∈ G
 | _, _, _, _, _, .nil, e => by cases e
 | _, _, _, k, ds, .cons (k := k') (b := b) (kxs := kxs) (kvs := kvs) (ds := ds') h f r, e => by
  unfold zdZ at e
  rw [List.find?_cons] at e
  unfold zeC
  rw [List.find?_cons]
  by_cases hk : k' = k
  ·simp only [hk, decide_true, Option.map_some] at e ⊢
   cases e
   exact ⟨b, _, rfl, h, f, lS⟩
  ·simp only [hk, decide_false] at e ⊢
   obtain ⟨b', xs, h1, h2, h3, h4⟩ := Owl.get (k := k) r e
   exact ⟨b', xs, h1, h2, h3, lO _ h4⟩
theorem Opv.peek {x : V} {o : Opd} {m : M} (S : Owo K H Z σ ρ F) (h : Opv K H Z σ x o G) (e : VL.peek ρ o = some m) : Ro K H Z x m := by
 cases h with
 | t q => cases e; exact ⟨_, q⟩
 | p q =>
  obtain ⟨x', G', h1, h2, _⟩ := S.get (zas.mp e)
  rw [q] at h1; cases h1
  exact ⟨_, h2⟩
 | q h1 h2 h3 =>
  rename_i i k a kxs
  have e : (match at? ρ i with
   | some (.dls kvs) => (zdZ kvs k).map M.lst
   | _ => none) = some m := e
  split at e
  ·next kvs hk =>
   obtain ⟨x', G', q1, q2, _⟩ := S.get (zas.mp hk)
   rw [h1] at q1; cases q1
   obtain ⟨ds, e1, e2⟩ := Option.map_eq_some_iff.mp e
   subst e2
   cases q2 with
   | dls q3 q4 =>
    rw [h2] at q3; cases q3
    obtain ⟨b, xs, z1, z2, z3, _⟩ := q4.get e1
    rw [h3] at z1; cases z1
    exact ⟨_, .lst z2 z3⟩
  ·cases e
theorem zfq.peek : ∀ {xs : List V} {os : List Opd} {ms : List M} {G : List Addr}, Owo K H Z σ ρ F → zfq K H Z σ xs os G → zd0 ρ os = some ms → Ros K H Z xs ms
 | _, _, _, _, _, .nil, e => by cases e; exact .nil
 | _, _, _, _, S, .cons h r, e => by
  obtain ⟨m, h1, e⟩ := oB e
  obtain ⟨ms, h2, e⟩ := oB e
  cases e
  exact .cons (h.peek S h1) (zfq.peek S r h2)
theorem Opv.al {x : V} {o : Opd} (h : Opv K H Z σ x o G) : ∀ a ∈ G, H a ≠ none := by
 cases h with
 | t q => exact q.al
 | p _ => intro a h; simp at h
 | q _ _ _ => intro a h; simp at h
def zkv : Opd → Bool
 | .q _ _ => false
 | _ => true
theorem zaU {o : Opd} {m : M} (h : zcB ρ o = some m) : zkv o = true := by
 cases o with
 | t _ => rfl
 | p _ => rfl
 | q _ _ => cases h
theorem Opv.mono {x : V} {o : Opd} (h : Opv K H Z σ x o G) (hs : zkv o = true) (g : zba H Z H' Z') (k : ∀ a ∈ G, ∀ o, H a = some o → H' a = some o) : Opv K H' Z' σ x o G := by
 cases h with
 | t q => exact .t (q.mono g k)
 | p q => exact .p q
 | q _ _ _ => cases hs
theorem Fut.news (n : Fut H Z [] H' Z' G) (w : Wf H Z F) (al : ∀ a ∈ F, H a ≠ none) : Fut H Z F H' Z' (F ++ G) := by
 have h := n.frame (F := []) (G := F) (by rw [List.nil_append]; exact w) al
 rw [List.nil_append] at h
 exact h.swap
theorem Fut.ziR (n : Fut H Z [] H' Z' G) : zba H Z H' Z' := ⟨n.zca, fun a o _ e => n.keep a o List.not_mem_nil e, n.zs⟩
theorem Owo.news (S : Owo K H Z σ ρ F) (n : Fut H Z [] H' Z' G) : Owo K H' Z' σ ρ F := S.mono (n.ziR) fun a _ o e => n.keep a o (List.not_mem_nil) e
theorem Fut.zkw {F2 : List Addr} (f1 : Fut H Z F H1 Z1 (F1 ++ G)) (f2 : Fut H1 Z1 F1 H2 Z2 F2) (al : ∀ a ∈ G, H1 a ≠ none) : Fut H Z F H2 Z2 (F2 ++ G) := f1.trans (f2.frame f1.wf al)
theorem Fut.zfJ {F2 : List Addr} (f1 : Fut H Z F H1 Z1 (F1 ++ G)) (f2 : Fut H1 Z1 F1 H2 Z2 F2) : ∀ a ∈ G, ∀ o, H1 a = some o → H2 a = some o := fun a h o e =>
 f2.keep a o (fun z => (List.nodup_append.mp f1.nd).2.2 a z a h rfl) e
theorem Fut.assoc' {A B C : List Addr} (f : Fut H Z F H' Z' (A ++ (B ++ C))) : Fut H Z F H' Z' ((A ++ B) ++ C) := by rw [List.append_assoc]; exact f
theorem Fut.zmd {A B C : List Addr} (f : Fut H Z F H' Z' ((A ++ B) ++ C)) : Fut H Z F H' Z' (A ++ (C ++ B)) := f.sub (by
  have h := List.nodup_append.mp f.nd
  have h' := List.nodup_append.mp h.1
  refine List.nodup_append.mpr ⟨h'.1, List.nodup_append.mpr ⟨h.2.1, h'.2.1, fun a x b y e => h.2.2 b (lR _ y) a x e.symm⟩, fun a x b y e => ?_⟩
  rcases lM y with y | y
  ·exact h.2.2 a (lL _ x) b y e
  ·exact h'.2.2 a x b y e) fun a h => by
  rcases lM h with h | h
  ·exact lL _ (lL _ h)
  rcases lM h with h | h
  ·exact lR _ h
  ·exact lL _ (lR _ h)
end
abbrev FE := Ev → Option (Opd × Ev)
abbrev FA := Ev → Option (List Opd × Ev)
abbrev FT := Ev → Option (Bool × Ev)
def vE (K : PySem.W.Frag) (f : FE) : TE := fun σ H Q => ∃ Z ρ F o ρ', Owo K H Z σ ρ F ∧ Wf H Z F ∧ f ρ = some (o, ρ') ∧ ∀ x H' Z' F' G, Owo K H' Z' σ ρ' F' → Opv K H' Z' σ x o G → Fut H Z F H' Z' (F' ++ G) → Q x H'
def vA (K : PySem.W.Frag) (f : FA) : TA := fun σ H Q => ∃ Z ρ F os ρ', Owo K H Z σ ρ F ∧ Wf H Z F ∧ f ρ = some (os, ρ') ∧ ∀ xs H' Z' F' G, Owo K H' Z' σ ρ' F' → zfq K H' Z' σ xs os G → Fut H Z F H' Z' (F' ++ G) → Q xs H'
def vT (K : PySem.W.Frag) (f : FT) : TT := fun σ H Q => ∃ Z ρ F b ρ', Owo K H Z σ ρ F ∧ Wf H Z F ∧ f ρ = some (b, ρ') ∧ ∀ H' Z' F', Owo K H' Z' σ ρ' F' → Fut H Z F H' Z' F' → Q b H'
section
variable {X : Cx} {e : Expr}
theorem zbk {t t' : TE} (h : PE X e t) (i : ∀ σ H Q, t' σ H Q → t σ H Q) : PE X e t' := fun pins s σ H Q I q => h pins s σ H Q I (i σ H Q q)
theorem zge {t t' : TT} (h : PT X e t) (i : ∀ σ H Q, t' σ H Q → t σ H Q) : PT X e t' := fun pins s σ H Q I q => h pins s σ H Q I (i σ H Q q)
theorem zjA {t t' : TT} (h : PW X e t) (i : ∀ σ H Q, t' σ H Q → t σ H Q) : PW X e t' := fun wh pins s σ H Q I q => h wh pins s σ H Q I (i σ H Q q)
theorem zgf {es : List Expr} {t t' : TA} (h : PA X es t) (i : ∀ σ H Q, t' σ H Q → t σ H Q) : PA X es t' := fun pos pins s σ H Q I q => h pos pins s σ H Q I (i σ H Q q)
theorem zhI {t u : TE} (h : PE X e t) (h' : PE X e u) : PE X e (fun σ H Q => t σ H Q ∨ u σ H Q) := fun pins s σ H Q I q => q.elim (h pins s σ H Q I) (h' pins s σ H Q I)
theorem zjB {t u : TT} (h : PT X e t) (h' : PT X e u) : PT X e (fun σ H Q => t σ H Q ∨ u σ H Q) := fun pins s σ H Q I q => q.elim (h pins s σ H Q I) (h' pins s σ H Q I)
abbrev VE (X : Cx) (e : Expr) (f : FE) : Prop := PE X e (vE X.K f)
abbrev VA (X : Cx) (es : List Expr) (f : FA) : Prop := PA X es (vA X.K f)
abbrev VT (X : Cx) (e : Expr) (f : FT) : Prop := PT X e (vT X.K f)
abbrev VW (X : Cx) (e : Expr) (f : FT) : Prop := PW X e (vT X.K f)
def zah (i : Nat) : FE := fun ρ => match at? ρ i with
 | some (.v d) => some (.t (.v d), ρ)
 | some _ => some (.p i, ρ)
 | none => none
theorem zkx {i : Nat} (h : PE X e (zfp i)) : VE X e (zah i) := zbk h fun σ H Q hq => by
 obtain ⟨Z, ρ, F, o, ρ', S, w, e, q⟩ := hq
 unfold zah at e
 cases hm : at? ρ i with
 | none => rw [hm] at e; cases e
 | some m =>
  obtain ⟨x, G, h1, h2, h3⟩ := S.get (zas.mp hm)
  refine ⟨x, h1, ?_⟩
  cases m with
  | v d =>
   rw [hm] at e; cases e
   cases h2 with
   | v f => exact q x H Z F [] S (.t (.v f)) (Fut.refl w).nil
  | lst _ => rw [hm] at e; cases e; exact q x H Z F [] S (.p h1) (Fut.refl w).nil
  | dic _ => rw [hm] at e; cases e; exact q x H Z F [] S (.p h1) (Fut.refl w).nil
  | dls _ => rw [hm] at e; cases e; exact q x H Z F [] S (.p h1) (Fut.refl w).nil
theorem vv (i : Nat) {x : Str} {pos : Pos} (hN : X.N[i]? = some x := by rfl) (hv : Vis X.env.scope x := by first | exact Or.inl rfl | exact Or.inr (Or.inl rfl) | exact Or.inr (Or.inr rfl)) (hd : (x == ("__debug__" : Str)) = false := by decide)
  (hcd : (x == ("__classdict__" : Str)) = false := by decide) : VE X (.Name x pos) (zah i) := zkx (zjl hN hv hd hcd)
def vC (d : PyData) : FE := fun ρ => some (.t (.v d), ρ)
theorem zme {v : V} {d : PyData} (h : PE X e (tC v)) (hd : ∀ H Z, Fz X.K H Z v d) : VE X e (vC d) := zbk h fun σ H Q hq => by
 obtain ⟨Z, ρ, F, o, ρ', S, w, e, q⟩ := hq
 cases e
 exact q v H Z F [] S (.t (.v (hd H Z))) (Fut.refl w).nil
theorem zmf {i j pos} : VE X (.Constant (.int i) j pos) (vC (.int i)) := zme zjm fun _ _ => .int i
theorem ve_bl {i j pos} : VE X (.Constant (.bool i) j pos) (vC (.bool i)) := zme pe_bl fun _ _ => .bl i
theorem zmg {j pos} : VE X (.Constant .none j pos) (vC .none) := zme zlj fun _ _ => .non
theorem zmh {x j pos} : VE X (.Constant (.str x) j pos) (vC (.str x)) := zme zlk fun _ _ => .str x
def R2v (K : PySem.W.Frag) (r : R2) (g : M → M → Option M) : Prop := ∀ H Z x y m1 m2 m Q, (∀ a, Z a → H a ≠ none) → Ro K H Z x m1 → Ro K H Z y m2 → g m1 m2 = some m → (∀ z H' Z' G, Ow K H' Z' z m G → Fut H Z [] H' Z' G → Q z H') → r x y H Q
def vB (g : M → M → Option M) (fa fb : FE) : FE := fun ρ => (fa ρ).bind fun p => (fb p.2).bind fun q => (zcB q.2 p.1).bind fun m1 => (peek q.2 q.1).bind fun m2 => (g m1 m2).bind fun m => some (.t m, q.2)
theorem two {fa fb : FE} {g : M → M → Option M} {r : R2} {σ : L2.St} {H : Hp} {Q : VK} (hr : R2v X.K r g) (hq : vE X.K (vB g fa fb) σ H Q) : tOp r (vE X.K fa) (vE X.K fb) σ H Q := by
 obtain ⟨Z, ρ, F, o, ρ', S, w, e, q⟩ := hq
 obtain ⟨⟨o1, ρ1⟩, e1, e⟩ := oB e
 obtain ⟨⟨o2, ρ2⟩, e2, e⟩ := oB e
 obtain ⟨m1, e3, e⟩ := oB e
 obtain ⟨m2, e4, e⟩ := oB e
 obtain ⟨m, e5, e⟩ := oB e
 cases e
 refine ⟨Z, ρ, F, o1, ρ1, S, w, e1, fun x H1 Z1 F1 G1 S1 O1 f1 => ⟨Z1, ρ1, F1, o2, ρ2, S1, f1.left.wf, e2, fun y H2 Z2 F2 G2 S2 O2 f2 => ?_⟩⟩
 have O1' := O1.mono (zaU e3) (f2.grow f1.left.wf) (f1.zfJ f2)
 refine hr H2 Z2 x y m1 m2 m Q f2.za (O1'.peek S2 (zaT e3)) (O2.peek S2 e4) e5 fun z H3 Z3 G h3 n => ?_
 exact q z H3 Z3 F2 G (S2.news n) (.t h3) ((f1.left.trans f2.left).trans (n.news f2.left.wf S2.al))
theorem ve_op {op : Operator} {a b : Expr} {pos : Pos} {r : R2} {g : M → M → Option M} {fa fb : FE} (hr : R2v X.K r g) (ho : OpR X (binaryOp op) r) (ha : VE X a fa) (hb : VE X b fb) : VE X (.BinOp a op b pos) (vB g fa fb) := zbk (pe_op ho ha hb) fun _ _ _ => two hr
theorem zmi {op : CmpOp} {a b : Expr} {pos : Pos} {r : R2} {g : M → M → Option M} {fa fb : FE} (hr : R2v X.K r g) (ho : OpR X (compareOp op) r) (ha : VE X a fa) (hb : VE X b fb) (hm : behindInMarks op b = false) : VE X (.Compare a [op] [b] pos) (vB g fa fb) := zbk (zfv ho ha hb hm) fun _ _ _ => two hr
def R1v (K : PySem.W.Frag) (r : V → Hp → VK → Prop) (g : M → Option M) : Prop := ∀ H Z x m1 m Q, (∀ a, Z a → H a ≠ none) → Ro K H Z x m1 → g m1 = some m → (∀ z H' Z' G, Ow K H' Z' z m G → Fut H Z [] H' Z' G → Q z H') → r x H Q
def vU (g : M → Option M) (fa : FE) : FE := fun ρ => (fa ρ).bind fun p => (peek p.2 p.1).bind fun m1 => (g m1).bind fun m => some (.t m, p.2)
theorem one {fa : FE} {g : M → Option M} {r : V → Hp → VK → Prop} {σ : L2.St} {H : Hp} {Q : VK} (hr : R1v X.K r g) (hq : vE X.K (vU g fa) σ H Q) : vE X.K fa σ H fun x H1 => r x H1 Q := by
 obtain ⟨Z, ρ, F, o, ρ', S, w, e, q⟩ := hq
 obtain ⟨⟨o1, ρ1⟩, e1, e⟩ := oB e
 obtain ⟨m1, e3, e⟩ := oB e
 obtain ⟨m, e5, e⟩ := oB e
 cases e
 refine ⟨Z, ρ, F, o1, ρ1, S, w, e1, fun x H1 Z1 F1 G1 S1 O1 f1 => ?_⟩
 refine hr H1 Z1 x m1 m Q f1.za (O1.peek S1 e3) e5 fun z H3 Z3 G h3 n => ?_
 exact q z H3 Z3 F1 G (S1.news n) (.t h3) (f1.left.trans (n.news f1.left.wf S1.al))
def zd1 : FA := fun ρ => some ([], ρ)
def zae (fa : FE) : FA := fun ρ => (fa ρ).bind fun p => some ([p.1], p.2)
def zaa (fa : FE) (fr : FA) : FA := fun ρ => (fa ρ).bind fun p => (fr p.2).bind fun q => if zkv p.1 = true then some (p.1 :: q.1, q.2) else none
theorem zmj : VA X [] zd1 := zgf zf2 fun σ H Q hq => by
 obtain ⟨Z, ρ, F, o, ρ', S, w, e, q⟩ := hq
 cases e
 exact q [] H Z F [] S .nil (Fut.refl w).nil
theorem zmk {a : Expr} {fa : FE} (ha : VE X a fa) (hs : starEach [a] X.env = [(false, eval a X.env)] := by rfl) : VA X [a] (zae fa) := zgf (zdA ha zf2 hs) fun σ H Q hq => by
 obtain ⟨Z, ρ, F, o, ρ', S, w, e, q⟩ := hq
 obtain ⟨⟨o1, ρ1⟩, e1, e⟩ := oB e
 cases e
 refine ⟨Z, ρ, F, o1, ρ1, S, w, e1, fun x H1 Z1 F1 G1 S1 O1 f1 => ?_⟩
 exact q [x] H1 Z1 F1 (G1 ++ []) S1 (.cons O1 .nil) (by rw [List.append_nil]; exact f1)
theorem zky {a : Expr} {as : List Expr} {fa : FE} {fr : FA} (ha : VE X a fa) (hr : VA X as fr) (hs : starEach (a :: as) X.env = (false, eval a X.env) :: starEach as X.env := by rfl) : VA X (a :: as) (zaa fa fr) := zgf (zdA ha hr hs) fun σ H Q hq => by
 obtain ⟨Z, ρ, F, o, ρ', S, w, e, q⟩ := hq
 obtain ⟨⟨o1, ρ1⟩, e1, e⟩ := oB e
 obtain ⟨⟨os, ρ2⟩, e2, e⟩ := oB e
 by_cases hs : zkv o1 = true
 ·rw [if_pos hs] at e
  cases e
  refine ⟨Z, ρ, F, o1, ρ1, S, w, e1, fun x H1 Z1 F1 G1 S1 O1 f1 => ⟨Z1, ρ1, F1, os, ρ2, S1, f1.left.wf, e2, fun xs H2 Z2 F2 G2 S2 O2 f2 => ?_⟩⟩
  exact q (x :: xs) H2 Z2 F2 (G1 ++ G2) S2 (.cons (O1.mono hs (f2.grow f1.left.wf) (f1.zfJ f2)) O2) (f1.zkw f2 O1.al).zmd
 ·rw [if_neg hs] at e; cases e
def RLv (K : PySem.W.Frag) (r : List V → Hp → VK → Prop) (g : List M → Option M) : Prop := ∀ H Z xs ms m Q, (∀ a, Z a → H a ≠ none) → Ros K H Z xs ms → g ms = some m → (∀ z H' Z' G, Ow K H' Z' z m G → Fut H Z [] H' Z' G → Q z H') → r xs H Q
def vCB (g : List M → Option M) (fa : FA) : FE := fun ρ => (fa ρ).bind fun p => (zd0 p.2 p.1).bind fun ms => (g ms).bind fun m => some (.t m, p.2)
theorem many {fa : FA} {g : List M → Option M} {r : List V → Hp → VK → Prop} {σ : L2.St} {H : Hp} {Q : VK} (hr : RLv X.K r g) (hq : vE X.K (vCB g fa) σ H Q) : tCB r (vA X.K fa) σ H Q := by
 obtain ⟨Z, ρ, F, o, ρ', S, w, e, q⟩ := hq
 obtain ⟨⟨os, ρ1⟩, e1, e⟩ := oB e
 obtain ⟨ms, e3, e⟩ := oB e
 obtain ⟨m, e5, e⟩ := oB e
 cases e
 refine ⟨Z, ρ, F, os, ρ1, S, w, e1, fun xs H1 Z1 F1 G1 S1 O1 f1 => ?_⟩
 refine hr H1 Z1 xs ms m Q f1.za (O1.peek S1 e3) e5 fun z H3 Z3 G h3 n => ?_
 exact q z H3 Z3 F1 G (S1.news n) (.t h3) (f1.left.trans (n.news f1.left.wf S1.al))
def tr? : M → Option Bool
 | .v (.bool b) => some b
 | _ => none
def zbW (f : FE) : FT := fun ρ => (f ρ).bind fun p => (peek p.2 p.1).bind fun m => (tr? m).bind fun b => some (b, p.2)
theorem tst {f : FE} {σ : L2.St} {H : Hp} {Q : Bool → Hp → Prop} (hq : vT X.K (zbW f) σ H Q) : vE X.K f σ H fun x H1 => ∃ c, x = .bl c ∧ Q c H1 := by
 obtain ⟨Z, ρ, F, b, ρ', S, w, e, q⟩ := hq
 obtain ⟨⟨o1, ρ1⟩, e1, e⟩ := oB e
 obtain ⟨m, e2, e⟩ := oB e
 obtain ⟨b', e3, e⟩ := oB e
 cases e
 refine ⟨Z, ρ, F, o1, ρ1, S, w, e1, fun x H1 Z1 F1 G1 S1 O1 f1 => ?_⟩
 obtain ⟨G, h⟩ := O1.peek S1 e2
 cases h with
 | v f =>
  cases f with
  | bl c => cases e3; exact ⟨_, rfl, q H1 Z1 F1 S1 f1.left⟩
  | _ => cases e3
 | _ => cases e3
theorem zml {op : CmpOp} {a b : Expr} {pos : Pos} {r : R2} {g : M → M → Option M} {fa fb : FE} (hr : R2v X.K r g) (ho : OpR X (compareOp op) r) (ha : VE X a fa) (hb : VE X b fb) (hm : behindInMarks op b = false) : VT X (.Compare a [op] [b] pos) (zbW (vB g fa fb)) := by
 refine zge (zfw ho ha hb hm) fun σ H Q hq => ?_
 exact two hr (tst hq)
def zd8 (f : FT) : FT := fun ρ => (f ρ).bind fun p => some (!p.1, p.2)
def zg6 (f g : FT) : FT := fun ρ => (f ρ).bind fun p => if p.1 = true then g p.2 else some (false, p.2)
def vOr (f g : FT) : FT := fun ρ => (f ρ).bind fun p => if p.1 = true then some (true, p.2) else g p.2
theorem not_imp {f : FT} {σ : L2.St} {H : Hp} {Q : Bool → Hp → Prop} (hq : vT X.K (zd8 f) σ H Q) : tNot (vT X.K f) σ H Q := by
 obtain ⟨Z, ρ, F, b, ρ', S, w, e, q⟩ := hq
 obtain ⟨⟨o1, ρ1⟩, e1, e⟩ := oB e
 cases e
 exact ⟨Z, ρ, F, o1, ρ1, S, w, e1, q⟩
theorem and_imp {f g : FT} {σ : L2.St} {H : Hp} {Q : Bool → Hp → Prop} (hq : vT X.K (zg6 f g) σ H Q) : tAnd (vT X.K f) (vT X.K g) σ H Q := by
 obtain ⟨Z, ρ, F, b, ρ', S, w, e, q⟩ := hq
 obtain ⟨⟨o1, ρ1⟩, e1, e⟩ := oB e
 refine ⟨Z, ρ, F, o1, ρ1, S, w, e1, fun H1 Z1 F1 S1 f1 => ?_⟩
 cases o1 with
 | true => exact ⟨Z1, ρ1, F1, b, ρ', S1, f1.wf, e, fun H2 Z2 F2 S2 f2 => q H2 Z2 F2 S2 (f1.trans f2)⟩
 | false => cases e; exact q H1 Z1 F1 S1 f1
theorem or_imp {f g : FT} {σ : L2.St} {H : Hp} {Q : Bool → Hp → Prop} (hq : vT X.K (vOr f g) σ H Q) : tOr (vT X.K f) (vT X.K g) σ H Q := by
 obtain ⟨Z, ρ, F, b, ρ', S, w, e, q⟩ := hq
 obtain ⟨⟨o1, ρ1⟩, e1, e⟩ := oB e
 refine ⟨Z, ρ, F, o1, ρ1, S, w, e1, fun H1 Z1 F1 S1 f1 => ?_⟩
 cases o1 with
 | false => exact ⟨Z1, ρ1, F1, b, ρ', S1, f1.wf, e, fun H2 Z2 F2 S2 f2 => q H2 Z2 F2 S2 (f1.trans f2)⟩
 | true => cases e; exact q H1 Z1 F1 S1 f1
theorem zmm {a : Expr} {pos : Pos} {f : FT} (h : VT X a f) : VT X (.UnaryOp .Not a pos) (zd8 f) := zge (zlp h) fun _ _ _ => not_imp
theorem zkz {a : Expr} {pos : Pos} {f : FT} (h : VT X a f) : VW X (.BoolOp .And [a] pos) f := zjX h
theorem zmn {a : Expr} {pos : Pos} {f : FT} (h : VT X a f) : VW X (.BoolOp .Or [a] pos) f := zln h
theorem zmo {a b : Expr} {rest : List Expr} {pos : Pos} {f g : FT} (h : VT X a f) (h' : VW X (.BoolOp .And (b :: rest) pos) g) : VW X (.BoolOp .And (a :: b :: rest) pos) (zg6 f g) := zjA (zlo h h') fun _ _ _ => and_imp
theorem vw_or {a b : Expr} {rest : List Expr} {pos : Pos} {f g : FT} (h : VT X a f) (h' : VW X (.BoolOp .Or (b :: rest) pos) g) : VW X (.BoolOp .Or (a :: b :: rest) pos) (vOr f g) := zjA (pw_or h h') fun _ _ _ => or_imp
def zbE (fa fb : FE) : FE := fun ρ => (zbW fa ρ).bind fun p => if p.1 = true then fb p.2 else some (.t (.v (.bool false)), p.2)
theorem zmp {a b : Expr} {rest : List Expr} {pos : Pos} {fa fb : FE} (ha : VE X a fa) (hb : VE X (.BoolOp .And (b :: rest) pos) fb) : VE X (.BoolOp .And (a :: b :: rest) pos) (zbE fa fb) := zbk (zlr ha hb) fun σ H Q hq => by
 obtain ⟨Z, ρ, F, o, ρ', S, w, e, q⟩ := hq
 obtain ⟨⟨b1, ρ1⟩, e1, e⟩ := oB e
 refine tst ⟨Z, ρ, F, b1, ρ1, S, w, e1, fun H1 Z1 F1 S1 f1 => ?_⟩
 cases b1 with
 | true => exact zl3 ⟨Z1, ρ1, F1, o, ρ', S1, f1.wf, e, fun x H2 Z2 F2 G S2 O f2 => q x H2 Z2 F2 G S2 O (f1.trans f2)⟩
 | false => cases e; exact zl2 (q (.bl false) H1 Z1 F1 [] S1 (.t (.v (.bl false))) f1.nil)
theorem zmq {op a} {pos : Pos} {f : FE} (h : VE X a f) : VE X (.BoolOp op [a] pos) f := zlq h
def zfK (fa : FE) : FE := fun ρ => (zbW fa ρ).bind fun p => some (.t (.v (.bool (!p.1))), p.2)
theorem zmr {a : Expr} {pos : Pos} {fa : FE} (ha : VE X a fa) : VE X (.UnaryOp .Not a pos) (zfK fa) := zbk (zls ha) fun σ H Q hq => by
 obtain ⟨Z, ρ, F, o, ρ', S, w, e, q⟩ := hq
 obtain ⟨⟨b1, ρ1⟩, e1, e⟩ := oB e
 refine tst ⟨Z, ρ, F, b1, ρ1, S, w, e1, fun H1 Z1 F1 S1 f1 => ?_⟩
 cases e
 exact q (.bl (!b1)) H1 Z1 F1 [] S1 (.t (.v (.bl _))) f1.nil
end
end VL
end
section
namespace VL
open PySem PySem.Spec L2 PyProof.Rows
def lim : Nat := 1000000
theorem zdd {n : Nat} (h : n ≤ lim) : n ≤ sizeLine := Nat.le_trans h (by decide)
theorem zgg {n : Nat} (h : n ≤ lim) : n < sizeLine := Nat.lt_of_le_of_lt h (by decide)
def rM (K : PySem.W.Frag) (g : M → M → Option M) : R2 := fun x y H Q => ∃ Z m1 m2 m, (∀ a, Z a → H a ≠ none) ∧ Ro K H Z x m1 ∧ Ro K H Z y m2 ∧ g m1 m2 = some m ∧ ∀ z H' Z' G, Ow K H' Z' z m G → Fut H Z [] H' Z' G → Q z H'
theorem rM_v {K : PySem.W.Frag} {g : M → M → Option M} : R2v K (rM K g) g := fun H Z x y m1 m2 m Q za h1 h2 e q => ⟨Z, m1, m2, m, za, h1, h2, e, q⟩
def rLM (K : PySem.W.Frag) (g : List M → Option M) : List V → Hp → VK → Prop := fun xs H Q => ∃ Z ms m, (∀ a, Z a → H a ≠ none) ∧ Ros K H Z xs ms ∧ g ms = some m ∧ ∀ z H' Z' G, Ow K H' Z' z m G → Fut H Z [] H' Z' G → Q z H'
theorem zms {K : PySem.W.Frag} {g : List M → Option M} : RLv K (rLM K g) g := fun H Z xs ms m Q za h1 e q => ⟨Z, ms, m, za, h1, e, q⟩
section
variable {K : PySem.W.Frag} {H H' : Hp} {Z : Zs} {x : V} {Q : VK}
theorem Ro.fz {d : PyData} (h : Ro K H Z x (.v d)) : Fz K H Z x d := by
 obtain ⟨G, h⟩ := h
 cases h with
 | v f => exact f
theorem Ro.int {i : Int} (h : Ro K H Z x (.v (.int i))) : x = .int i := h.fz.int_inv
theorem Ro.bl {i : Bool} (h : Ro K H Z x (.v (.bool i))) : x = .bl i := h.fz.zgd
theorem Ro.str {i : Str} (h : Ro K H Z x (.v (.str i))) : x = .str i := h.fz.str_inv
theorem Ro.lst {ds : List PyData} (h : Ro K H Z x (.lst ds)) : ∃ a xs, x = .ref a ∧ H a = some (.lst xs) ∧ Fzs K H Z xs ds := by
 obtain ⟨G, h⟩ := h
 cases h with
 | lst e f => exact ⟨_, _, rfl, e, f⟩
theorem Ro.dic {ds : List (Key × PyData)} (h : Ro K H Z x (.dic ds)) : ∃ a xs, x = .ref a ∧ H a = some (.dK xs) ∧ Fzk K H Z xs ds := by
 obtain ⟨G, h⟩ := h
 cases h with
 | dic e f => exact ⟨_, _, rfl, e, f⟩
theorem Ro.dls {ds : List (Key × List PyData)} (h : Ro K H Z x (.dls ds)) : ∃ a xs G, x = .ref a ∧ H a = some (.dK xs) ∧ Owl K H Z xs ds G := by
 obtain ⟨G, h⟩ := h
 cases h with
 | dls e f => exact ⟨_, _, _, rfl, e, f⟩
theorem Ro.tup {ds : List PyData} (h : Ro K H Z x (.v (.tuple ds))) : ∃ a xs, x = .ref a ∧ SqT K H a xs ∧ Fzs K H Z xs ds := h.fz.zcA
def zgR : M → Option (List PyData)
 | .lst ds => some ds
 | .v (.list ds) => some ds
 | _ => none
def seqT : M → Option (List PyData)
 | .v (.tuple ds) => some ds
 | _ => none
def seq : M → Option (List PyData)
 | .lst ds => some ds
 | .v (.list ds) => some ds
 | .v (.tuple ds) => some ds
 | _ => none
theorem Ro.zgR {m : M} {ds : List PyData} (h : Ro K H Z x m) (e : VL.zgR m = some ds) : ∃ a xs, x = .ref a ∧ SqL K H a xs ∧ Fzs K H Z xs ds := by
 unfold VL.zgR at e
 split at e
 ·cases e
  obtain ⟨a, xs, e1, e2, e3⟩ := h.lst
  exact ⟨a, xs, e1, .of e2, e3⟩
 ·cases e
  obtain ⟨a, xs, e1, e2, e3⟩ := h.fz.lst_inv
  exact ⟨a, xs, e1, e2, e3⟩
 ·cases e
theorem Ro.seq {m : M} {ds : List PyData} (h : Ro K H Z x m) (e : VL.seq m = some ds) : ∃ a xs, x = .ref a ∧ (SqL K H a xs ∨ SqT K H a xs) ∧ Fzs K H Z xs ds := by
 unfold VL.seq at e
 split at e
 ·cases e
  obtain ⟨a, xs, e1, e2, e3⟩ := h.lst
  exact ⟨a, xs, e1, .inl (.of e2), e3⟩
 ·cases e
  obtain ⟨a, xs, e1, e2, e3⟩ := h.fz.lst_inv
  exact ⟨a, xs, e1, .inl e2, e3⟩
 ·cases e
  obtain ⟨a, xs, e1, e2, e3⟩ := h.tup
  exact ⟨a, xs, e1, .inr e2, e3⟩
 ·cases e
theorem Fut.same (s : zdU H H') (za : ∀ a, Z a → H a ≠ none) : Fut H Z [] H' Z [] := ⟨fun a o _ e => s a o e, s.zca, fun _ h => h, fun _ h => .inl h, fun _ h => (nomatch h), List.nodup_nil, fun _ h => (nomatch h), fun a z e => za a z (s.free e)⟩
theorem Fut.zmt {p : Addr} {o : HO} (hp : H p = none) (za : ∀ a, Z a → H a ≠ none) : Fut H Z [] (upd H p o) Z [p] := by
 have s := zbR hp o
 exact ⟨fun a o _ e => s a o e, s.zca, fun _ h => h, fun _ h => .inl h, fun a h => .inr (by rw [List.mem_singleton] at h; subst h; exact hp), List.nodup_cons.mpr ⟨List.not_mem_nil, List.nodup_nil⟩, fun a h z => by rw [List.mem_singleton] at h; subst h; exact za _ z hp, fun a z e => za a z (s.free e)⟩
theorem zba.same (s : zdU H H') : zba H Z H' Z := ⟨s.zca, fun a o _ e => s a o e, fun _ h => h⟩
theorem zco {z : V} {d : PyData} (q : ∀ z H' Z' G, Ow K H' Z' z (.v d) G → Fut H Z [] H' Z' G → Q z H') (za : ∀ a, Z a → H a ≠ none) (h : Fz K H Z z d) : Q z H := q z H Z [] (.v h) (Fut.same (zdU.refl H) za)
theorem endS {z : V} {d : PyData} (q : ∀ z H' Z' G, Ow K H' Z' z (.v d) G → Fut H Z [] H' Z' G → Q z H') (za : ∀ a, Z a → H a ≠ none) (s : zdU H H') (h : Fz K H' Z z d) : Q z H' := q z H' Z [] (.v h) (Fut.same s za)
theorem endT {p : Addr} {xs : List V} {ds : List PyData} (q : ∀ z H' Z' G, Ow K H' Z' z (.v (.tuple ds)) G → Fut H Z [] H' Z' G → Q z H') (za : ∀ a, Z a → H a ≠ none) (hp : H p = none) (h : Fzs K H Z xs ds) : Q (.ref p) (upd H p (.tup xs)) :=
 endS q za (zbR hp _) (.tup (SqT.of zaG) (h.mono (zba.same (zbR hp _))))
theorem zjC {p : Addr} {xs : List V} {ds : List PyData} (q : ∀ z H' Z' G, Ow K H' Z' z (.lst ds) G → Fut H Z [] H' Z' G → Q z H') (za : ∀ a, Z a → H a ≠ none) (hp : H p = none) (h : Fzs K H Z xs ds) : Q (.ref p) (upd H p (.lst xs)) :=
 q (.ref p) (upd H p (.lst xs)) Z [p] (.lst zaG (h.mono (zba.same (zbR hp _)))) (Fut.zmt hp za)
end
def zbO : M → M → Option M
 | .v (.int i), .v (.int j) => some (.v (.int (i + j)))
 | .v (.tuple a), .v (.tuple b) => if a.length + b.length ≤ lim then some (.v (.tuple (a ++ b))) else none
 | .lst a, .lst b => if a.length + b.length ≤ lim then some (.lst (a ++ b)) else none
 | .v (.str a), .v (.str b) => if a.length + b.length ≤ lim then some (.v (.str (a ++ b))) else none
 | _, _ => none
def zg7 (C : Int → Int → Bool) (g : Int → Int → PyData) : M → M → Option M
 | .v (.int i), .v (.int j) => if C i j = true then some (.v (g i j)) else none
 | _, _ => none
section
variable {X : Cx}
theorem zaQ : OpR X (binaryOp .Add) (rM X.K zbO) := by
 intro pins s σ H x y v u Q I rx ry h
 obtain ⟨Z, m1, m2, m, za, h1, h2, e, q⟩ := h
 unfold zbO at e
 split at e
 ·cases e
  obtain rfl := h1.int; obtain rfl := h2.int
  exact zlB pins s σ H _ _ v u Q I rx ry ⟨_, _, rfl, rfl, zco q za (.int _)⟩
 ·split at e
  ·next hl =>
   cases e
   obtain ⟨a, xs, rfl, e2, e3⟩ := h1.tup
   obtain ⟨b, ys, rfl, e5, e6⟩ := h2.tup
   exact zks pins s σ H _ _ v u Q I rx ry ⟨a, b, xs, ys, rfl, rfl, e2, e5, zdd (by rw [e3.length, e6.length]; exact hl), fun r H' s' t => endS q za s' (.tup t ((e3.append e6).mono (zba.same s')))⟩
  ·cases e
 ·split at e
  ·next hl =>
   cases e
   obtain ⟨a, xs, rfl, e2, e3⟩ := h1.lst
   obtain ⟨b, ys, rfl, e5, e6⟩ := h2.lst
   exact zlU pins s σ H _ _ v u Q I rx ry ⟨a, b, xs, ys, rfl, rfl, e2, e5, zdd (by rw [e3.length, e6.length]; exact hl), fun p hp => zjC q za hp (e3.append e6)⟩
  ·cases e
 ·split at e
  ·next hl =>
   cases e
   obtain rfl := h1.str; obtain rfl := h2.str
   exact zgG pins s σ H _ _ v u Q I rx ry ⟨_, _, rfl, rfl, zdd hl, zco q za (.str _)⟩
  ·cases e
 ·cases e
theorem zgh {f : Value → Value → Sem Value} {C : Int → Int → Bool} {P : Int → Int → Prop} {g : Int → Int → PyData} {gv : Int → Int → V} (ho : OpR X f (rI P gv)) (hc : ∀ i j, C i j = true → P i j) (hg : ∀ H Z i j, Fz X.K H Z (gv i j) (g i j)) : OpR X f (rM X.K (zg7 C g)) := by
 intro pins s σ H x y v u Q I rx ry h
 obtain ⟨Z, m1, m2, m, za, h1, h2, e, q⟩ := h
 unfold zg7 at e
 split at e
 ·split at e
  ·next hl =>
   cases e
   obtain rfl := h1.int; obtain rfl := h2.int
   exact ho pins s σ H _ _ v u Q I rx ry ⟨_, _, rfl, rfl, hc _ _ hl, zco q za (hg H Z _ _)⟩
  ·cases e
 ·cases e
theorem zfL {f : Value → Value → Sem Value} {g : Int → Int → PyData} {gv : Int → Int → V} (ho : OpR X f (rI0 gv)) (hg : ∀ H Z i j, Fz X.K H Z (gv i j) (g i j)) : OpR X f (rM X.K (zg7 (fun _ _ => true) g)) := by
 intro pins s σ H x y v u Q I rx ry h
 obtain ⟨Z, m1, m2, m, za, h1, h2, e, q⟩ := h
 unfold zg7 at e
 split at e
 ·split at e
  ·next hl =>
   cases e
   obtain rfl := h1.int; obtain rfl := h2.int
   exact ho pins s σ H _ _ v u Q I rx ry ⟨_, _, rfl, rfl, zco q za (hg H Z _ _)⟩
  ·cases e
 ·cases e
def zkA := zg7 (fun _ _ => true) fun i j => .int (i - j)
def mulM := zg7 (fun i j => decide ((-(2 ^ 64) < i ∧ i < 2 ^ 64) ∨ (-(2 ^ 64) < j ∧ j < 2 ^ 64))) fun i j => .int (i * j)
def ziS := zg7 (fun _ j => decide (0 < j ∧ j < 1073741824)) fun i j => .int (i / j)
def zgS := zg7 (fun _ j => decide (0 < j)) fun i j => .int (i % j)
def zjD := zg7 (fun i j => decide (0 ≤ j ∧ (Builtin.Int.intBits i : Int) * j ≤ 2 ^ 27)) fun i j => .int (i ^ j.toNat)
theorem zgi : OpR X (binaryOp .Sub) (rM X.K zkA) := zfL zlC fun _ _ _ _ => .int _
theorem zcs : OpR X (binaryOp .Mult) (rM X.K mulM) := zgh zlD (fun i j h => by have h := of_decide_eq_true h; exact h) fun _ _ _ _ => .int _
theorem zhJ : OpR X (binaryOp .FloorDiv) (rM X.K ziS) := zgh zj6 (fun i j h => by have h := of_decide_eq_true h; exact h) fun _ _ _ _ => .int _
theorem zct : OpR X (binaryOp .Mod) (rM X.K zgS) := zgh zlE (fun _ _ h => of_decide_eq_true h) fun _ _ _ _ => .int _
theorem zhK : OpR X (binaryOp .Pow) (rM X.K zjD) := zgh zkp (fun _ _ h => of_decide_eq_true h) fun _ _ _ _ => .int _
def asD : M → Option PyData
 | .v d => some d
 | .lst ds => some (.list ds)
 | _ => none
theorem Ro.reads {pins : List (Addr × Obj)} {σ : L2.St} {H : Hp} {s : Shared} {Z : Zs} {x : V} {m : M} {d : PyData} {u : Value} (I : Inv X pins σ H s) (h : Ro X.K H Z x m) (e : asD m = some d) (c : d.canLay0 = true) (r : RelV x u) : ∃ as, Reads s.heap u d as := by
 unfold asD at e
 split at e
 ·cases e; exact h.fz.reads I c r
 ·cases e
  obtain ⟨a, xs, rfl, e2, e3⟩ := h.lst
  cases r
  obtain ⟨its, rv, ⟨o, n, ho, hc, hdd, hd⟩, _⟩ := I.list (SqL.of e2)
  obtain ⟨as, h⟩ := e3.reads I c rv
  exact ⟨_, .list ho hc hd (by simpa using h)⟩
 ·cases e
def ziT (d e : PyData) : Bool := d.canLay0 && e.canLay0 && decide (min d.depth e.depth ≤ 60)
def eqM (neg : Bool) (m1 m2 : M) : Option M := (asD m1).bind fun d => (asD m2).bind fun e => if ziT d e = true then some (.v (.bool (if neg then !PyData.eqv d e else PyData.eqv d e))) else none
theorem zcr (hu : X.A.units + 64 < cLine) : OpR X (compareOp .Eq) (rM X.K (eqM false)) := by
 intro pins s σ H x y v u Q I rx ry h
 obtain ⟨Z, m1, m2, m, za, h1, h2, e, q⟩ := h
 obtain ⟨d, e1, e⟩ := oB e
 obtain ⟨d', e2, e⟩ := oB e
 split at e
 ·next ok =>
  cases e
  unfold ziT at ok
  simp only [Bool.and_eq_true, decide_eq_true_eq] at ok
  obtain ⟨as, r1⟩ := h1.reads I e1 ok.1.1 rx
  obtain ⟨bs, r2⟩ := h2.reads I e2 ok.1.2 ry
  exact SeqAt.compareEq_reads r1 r2 ok.1.1 ok.1.2 (by have := ok.2; omega) ⟨.bl _, H, I, rfl, zco q za (.bl _)⟩
 ·cases e
theorem ziU (hu : X.A.units + 64 < cLine) : OpR X (compareOp .NotEq) (rM X.K (eqM true)) := by
 intro pins s σ H x y v u Q I rx ry h
 obtain ⟨Z, m1, m2, m, za, h1, h2, e, q⟩ := h
 obtain ⟨d, e1, e⟩ := oB e
 obtain ⟨d', e2, e⟩ := oB e
 split at e
 ·next ok =>
  cases e
  unfold ziT at ok
  simp only [Bool.and_eq_true, decide_eq_true_eq] at ok
  obtain ⟨as, r1⟩ := h1.reads I e1 ok.1.1 rx
  obtain ⟨bs, r2⟩ := h2.reads I e2 ok.1.2 ry
  exact SeqAt.compareNe_reads r1 r2 ok.1.1 ok.1.2 (by have := ok.2; omega) ⟨.bl _, H, I, rfl, zco q za (.bl _)⟩
 ·cases e
def asI : PyData → Option Int
 | .int i => some i
 | _ => none
def ze3 : List PyData → Option (List Int)
 | [] => some []
 | d :: ds => (asI d).bind fun i => (ze3 ds).bind fun is => some (i :: is)
theorem zbx : ∀ {ds : List PyData} {is : List Int}, ze3 ds = some is → ds = is.map .int
 | [], _, e => by cases e; rfl
 | d :: ds, _, e => by
  obtain ⟨i, e1, e⟩ := oB e
  obtain ⟨is, e2, e⟩ := oB e
  cases e
  rw [zbx e2]
  cases d <;> cases e1
  rfl
theorem zcR : ∀ (is : List Int), ze3 (is.map .int) = some is
 | [] => rfl
 | i :: is => by show (some i).bind _ = _; rw [Option.bind_some, zcR is]; rfl
def zk9 (gi : Int → Int → Bool) (gt : List Int → List Int → Bool) : M → M → Option M
 | .v (.int i), .v (.int j) => some (.v (.bool (gi i j)))
 | .v (.tuple a), .v (.tuple b) => (ze3 a).bind fun is => (ze3 b).bind fun js => some (.v (.bool (gt is js)))
 | _, _ => none
theorem ziV (hu : X.A.units + 64 < cLine) : OpR X (compareOp .Lt) (rM X.K (zk9 (fun i j => decide (i < j)) HT.lexLt)) := by
 intro pins s σ H x y v u Q I rx ry h
 obtain ⟨Z, m1, m2, m, za, h1, h2, e, q⟩ := h
 unfold zk9 at e
 split at e
 ·cases e
  obtain rfl := h1.int; obtain rfl := h2.int
  exact op_lt pins s σ H _ _ v u Q I rx ry ⟨_, _, rfl, rfl, zco q za (.bl _)⟩
 ·obtain ⟨is, e1, e⟩ := oB e
  obtain ⟨js, e2, e⟩ := oB e
  cases e
  obtain ⟨a, xs, rfl, t1, f1⟩ := h1.tup
  obtain ⟨b, ys, rfl, t2, f2⟩ := h2.tup
  rw [zbx e1] at f1
  rw [zbx e2] at f2
  rw [f1.zbw] at t1
  rw [f2.zbw] at t2
  exact zlM (by omega) pins s σ H _ _ v u Q I rx ry ⟨a, b, is, js, rfl, rfl, t1, t2, zco q za (.bl _)⟩
 ·cases e
theorem ov_ge (hu : X.A.units + 64 < cLine) : OpR X (compareOp .GtE) (rM X.K (zk9 (fun i j => decide (j ≤ i)) fun a b => !HT.lexLt a b)) := by
 intro pins s σ H x y v u Q I rx ry h
 obtain ⟨Z, m1, m2, m, za, h1, h2, e, q⟩ := h
 unfold zk9 at e
 split at e
 ·cases e
  obtain rfl := h1.int; obtain rfl := h2.int
  exact op_ge pins s σ H _ _ v u Q I rx ry ⟨_, _, rfl, rfl, zco q za (.bl _)⟩
 ·obtain ⟨is, e1, e⟩ := oB e
  obtain ⟨js, e2, e⟩ := oB e
  cases e
  obtain ⟨a, xs, rfl, t1, f1⟩ := h1.tup
  obtain ⟨b, ys, rfl, t2, f2⟩ := h2.tup
  rw [zbx e1] at f1
  rw [zbx e2] at f2
  rw [f1.zbw] at t1
  rw [f2.zbw] at t2
  exact zmc (by omega) pins s σ H _ _ v u Q I rx ry ⟨a, b, is, js, rfl, rfl, t1, t2, zco q za (.bl _)⟩
 ·cases e
def leM := zg7 (fun _ _ => true) fun i j => .bool (decide (i ≤ j))
def gtM := zg7 (fun _ _ => true) fun i j => .bool (decide (j < i))
def ltM := zk9 (fun i j => decide (i < j)) HT.lexLt
def geM := zk9 (fun i j => decide (j ≤ i)) fun a b => !HT.lexLt a b
theorem zmu : OpR X (compareOp .LtE) (rM X.K leM) := zfL op_le fun _ _ _ _ => .bl _
theorem zkB : OpR X (compareOp .Gt) (rM X.K gtM) := zfL op_gt fun _ _ _ _ => .bl _
def okIn (ds : List PyData) (e : PyData) : Bool := PyData.canLayAll0 ds && e.canLay0 && decide (e.depth ≤ 50)
def inM (neg : Bool) (m1 m2 : M) : Option M := (asD m1).bind fun e => (seq m2).bind fun ds => if okIn ds e = true then some (.v (.bool (if neg then !(ds.any fun d => PyData.eqv d e) else ds.any fun d => PyData.eqv d e))) else none
theorem ze4 (neg : Bool) (hu : X.A.units + 64 < cLine) {pins : List (Addr × Obj)} {s : Shared} {σ : L2.St} {H : Hp} {x y : V} {v u : Value} {Q : VK} (I : Inv X pins σ H s) (rx : RelV x v) (ry : RelV y u) (h : rM X.K (inM neg) x y H Q) :
  ∃ (p : Addr) (its : List Value) (g : Value → Bool) (b : Bool), u = .ref p ∧ (PlainL s.heap p its.toArray ∨ s.heap.IsTuple p its.toArray) ∧ (∀ y, y ∈ its.toArray → SeqAt.EqAt X.A.in1 s y v (g y)) ∧ its.toArray.any g = b ∧ EP X pins σ Q (.bool (if neg then !b else b)) s := by
 obtain ⟨Z, m1, m2, m, za, h1, h2, e, q⟩ := h
 obtain ⟨d, e1, e⟩ := oB e
 obtain ⟨ds, e2, e⟩ := oB e
 split at e
 ·next ok =>
  cases e
  unfold okIn at ok
  simp only [Bool.and_eq_true, decide_eq_true_eq] at ok
  obtain ⟨bs, re⟩ := h1.reads I e1 ok.1.2 rx
  obtain ⟨a, xs, rfl, hq, f⟩ := h2.seq e2
  cases ry
  have fin : EP X pins σ Q (.bool (if neg then !(ds.any fun d' => PyData.eqv d' d) else ds.any fun d' => PyData.eqv d' d)) s := ⟨.bl _, H, I, rfl, zco q za (.bl _)⟩
  rcases hq with hq | hq
  ·obtain ⟨its, r, pl, hz⟩ := I.list hq
   obtain ⟨as, ra⟩ := f.reads I ok.1.1 r
   refine ⟨a, its, eqH s.heap d, _, rfl, .inl pl, zjx (pins := pins) (σ := σ) (H := H) hu ra re ok.1.1 ok.1.2 ok.2, rfl, ?_⟩
   rw [show its.toArray.any (eqH s.heap d) = its.any (eqH s.heap d) by simp, zfG ra ok.1.1]
   exact fin
  ·obtain ⟨its, r, pl, hz⟩ := I.tuple hq
   obtain ⟨as, ra⟩ := f.reads I ok.1.1 r
   refine ⟨a, its, eqH s.heap d, _, rfl, .inr pl, zjx (pins := pins) (σ := σ) (H := H) hu ra re ok.1.1 ok.1.2 ok.2, rfl, ?_⟩
   rw [show its.toArray.any (eqH s.heap d) = its.any (eqH s.heap d) by simp, zfG ra ok.1.1]
   exact fin
 ·cases e
theorem ov_in (hu : X.A.units + 64 < cLine) : OpR X (compareOp .In) (rM X.K (inM false)) := by
 intro pins s σ H x y v u Q I rx ry h
 obtain ⟨p, its, g, b, rfl, hq, hg, e, fin⟩ := ze4 false hu I rx ry h
 subst e
 rcases hq with hq | hq
 ·exact SeqAt.in_listAt g hq.isList hg fin
 ·exact SeqAt.in_tupleAt g hq hg fin
theorem ziW (hu : X.A.units + 64 < cLine) : OpR X (compareOp .NotIn) (rM X.K (inM true)) := by
 intro pins s σ H x y v u Q I rx ry h
 obtain ⟨p, its, g, b, rfl, hq, hg, e, fin⟩ := ze4 true hu I rx ry h
 subst e
 rcases hq with hq | hq
 ·exact SeqAt.notIn_listAt g hq.isList hg fin
 ·exact SeqAt.notIn_tupleAt g hq hg fin
end
end VL
end
section
namespace VL
open PySem PySem.Spec L2 PyProof.Rows
def toD : M → PyData
 | .v d => d
 | .lst ds => .list ds
 | .dic kvs => .dict (kvs.map fun p => (keyP p.1, p.2))
 | .dls kvs => .dict ((kvs.map fun p => (p.1, PyData.list p.2)).map fun p => (keyP p.1, p.2))
def zdH : Opd → Ev → Option (PyData × Ev)
 | .t m, ρ => some (toD m, ρ)
 | .p i, ρ => (at? ρ i).bind fun m => some (toD m, ρ.set i (some (.v (toD m))))
 | .q i k, ρ => match at? ρ i with
  | some (.dls kvs) => (zdZ kvs k).bind fun ds => some (.list ds, ρ.set i (some (.dic (kvs.map fun p => (p.1, PyData.list p.2)))))
  | _ => none
def zdp : List Opd → Ev → Option (List PyData × Ev)
 | [], ρ => some ([], ρ)
 | o :: os, ρ => (zdH o ρ).bind fun p => (zdp os p.2).bind fun q => some (p.1 :: q.1, q.2)
section
variable {K : PySem.W.Frag} {H H0 : Hp} {Z Z0 : Zs} {F F0 G R : List Addr} {σ : L2.St} {ρ ρ' : Ev} {x : V} {o : Opd} {d : PyData}
theorem zba.more {G : List Addr} : zba H Z H (fun a => Z a ∨ a ∈ G) := ⟨zdF.refl, fun _ _ _ e => e, fun _ z => .inl z⟩
theorem Owl.fz {Z' : Zs} (g : zba H Z H Z') : ∀ {kxs : List (Key × V)} {kvs : List (Key × List PyData)} {G : List Addr}, Owl K H Z kxs kvs G → (∀ a ∈ G, Z' a) → Fzk K H Z' kxs (kvs.map fun p => (p.1, PyData.list p.2))
 | _, _, _, .nil, _ => .nil
 | _, _, _, .cons e f r, h => .cons (.lst (.inl e) (h _ lS) (f.mono g)) (Owl.fz g r fun a z => h a (lO _ z))
theorem Ow.fz {m : M} {Z' : Zs} (g : zba H Z H Z') (h : Ow K H Z x m G) (hz : ∀ a ∈ G, Z' a) : Fz K H Z' x (toD m) := by
 cases h with
 | v f => exact f.mono g
 | lst e f => exact .lst (.inl e) (hz _ lS) (f.mono g)
 | dic e f => exact .dic e (hz _ lS) (f.mono g)
 | dls e f => exact .dic e (hz _ lS) (f.fz g fun a z => hz a (lO _ z))
theorem Fut.give {A : List Addr} (f : Fut H0 Z0 F0 H Z A) (hF : F.Nodup) (hs : ∀ a ∈ F, a ∈ A) (hG : ∀ a ∈ G, a ∈ A) (hd : ∀ a ∈ F, a ∉ G) (al : ∀ a ∈ G, H a ≠ none) : Fut H0 Z0 F0 H (fun a => Z a ∨ a ∈ G) F := by
 refine ⟨f.keep, f.zca, fun a z => .inl (f.zs a z), fun a z => ?_, fun a h => f.fr a (hs a h), hF, fun a h z => ?_, fun a z => ?_⟩
 ·rcases z with z | z
  ·exact f.zn a z
  ·exact .inr (f.fr a (hG a z))
 ·rcases z with z | z
  ·exact f.dz a (hs a h) z
  ·exact hd a h z
 ·rcases z with z | z
  ·exact f.za a z
  ·exact al a z
theorem nd3 {A B C : List Addr} (h : (A ++ B ++ C).Nodup) : A.Nodup ∧ B.Nodup ∧ C.Nodup ∧ (∀ a ∈ A, a ∉ B) ∧ (∀ a ∈ A, a ∉ C) ∧ ∀ a ∈ B, a ∉ C := by
 have h1 := List.nodup_append.mp h
 have h2 := List.nodup_append.mp h1.1
 exact ⟨h2.1, h2.2.1, h1.2.1, fun a x y => h2.2.2 a x a y rfl, fun a x y => h1.2.2 a (lL _ x) a y rfl, fun a x y => h1.2.2 a (lR _ x) a y rfl⟩
theorem zaw {A B : List Addr} (h1 : A.Nodup) (h2 : B.Nodup) (h : ∀ a ∈ A, a ∉ B) : (A ++ B).Nodup := List.nodup_append.mpr ⟨h1, h2, fun a x b y e => h a x (e ▸ y)⟩
theorem freeze (S : Owo K H Z σ ρ F) (h : Opv K H Z σ x o G) (f : Fut H0 Z0 F0 H Z (F ++ G ++ R)) (e : zdH o ρ = some (d, ρ')) : ∃ Z' F', Owo K H Z' σ ρ' F' ∧ Fz K H Z' x d ∧ Fut H0 Z0 F0 H Z' (F' ++ R) ∧ zba H Z H Z' := by
  obtain ⟨n1, n2, n3, s1, s2, s3⟩ := nd3 f.nd
  cases h with
  | t q =>
    cases e
    refine ⟨fun a => Z a ∨ a ∈ G, F, S.mono zba.more fun _ _ _ e => e, q.fz zba.more fun a h => .inr h, f.give (zaw n1 n3 s2) (fun a h => ?_) (fun a h => ?_) (fun a h z => ?_) q.al, zba.more⟩
    · rcases lM h with h | h
      · exact lL _ (lL _ h)
      · exact lR _ h
    · exact lL _ (lR _ h)
    · rcases lM h with h | h
      · exact s1 a h z
      · exact s3 a z h
  | p q =>
    rename_i i
    obtain ⟨m, e1, e⟩ := oB e
    cases e
    obtain ⟨x', G', F1, h1, h2, h3, h4, h5⟩ := S.take n1 (zas.mp e1)
    rw [q] at h1; cases h1
    have hl := (List.getElem?_eq_some_iff.mp (zas.mp e1)).1
    have k4 := List.nodup_append.mp h4
    have fz := h2.fz (zba.more (G := G')) fun a h => .inr h
    obtain ⟨F2, p1, p2, p3⟩ := (h3.mono (zba.more (G := G')) fun _ _ _ e => e).put (i := i) (Ow.v fz) (by rw [List.append_nil]; exact k4.1) (by rw [List.getElem?_set_self hl])
    rw [List.append_nil] at p3
    rw [List.set_set] at p1
    have es : σ.set i (some x) = σ := by
      refine List.ext_getElem? fun j => ?_
      rw [List.getElem?_set]
      split
      · next hj => subst hj; split
                   · exact q.symm
                   · next hh => exact absurd (List.getElem?_eq_some_iff.mp q).1 hh
      · rfl
    rw [es] at p1
    refine ⟨_, F2, p1, fz, f.give (zaw p2 n3 fun a h => s2 a (h5 a (lL _ (p3 a h)))) (fun a h => ?_) (fun a h => ?_) (fun a h z => ?_) h2.al, zba.more⟩
    · rcases lM h with h | h
      · exact lL _ (lL _ (h5 a (lL _ (p3 a h))))
      · exact lR _ h
    · exact lL _ (lL _ (h5 a (lR _ h)))
    · rcases lM h with h | h
      · exact k4.2.2 a (p3 a h) a z rfl
      · exact s2 a (h5 a (lR _ z)) h
  | q q1 q2 q3 =>
    rename_i i k a0 kxs
    have e : (match at? ρ i with
      | some (.dls kvs) => (zdZ kvs k).bind fun ds => some (PyData.list ds, ρ.set i (some (M.dic (kvs.map fun p => (p.1, PyData.list p.2)))))
      | _ => none) = some (d, ρ') := e
    split at e
    · next kvs hk =>
      obtain ⟨ds, e1, e⟩ := oB e
      cases e
      obtain ⟨x', G', F1, h1, h2, h3, h4, h5⟩ := S.take n1 (zas.mp hk)
      rw [q1] at h1; cases h1
      have hl := (List.getElem?_eq_some_iff.mp (zas.mp hk)).1
      cases h2 with
      | dls e2 ol =>
        rename_i kxs' Gl
        rw [q2] at e2; cases e2
        have k4 := List.nodup_append.mp h4
        have k5 := List.nodup_cons.mp k4.2.1
        have ow : Ow K H (fun a => Z a ∨ a ∈ Gl) (.ref a0) (.dic (kvs.map fun p => (p.1, PyData.list p.2))) [a0] := .dic q2 (ol.fz zba.more fun a h => .inr h)
        obtain ⟨b, xs, z1, z2, z3, z4⟩ := ol.get e1
        rw [q3] at z1; cases z1
        obtain ⟨F2, p1, p2, p3⟩ := (h3.mono (zba.more (G := Gl)) fun _ _ _ e => e).put (i := i) ow (zaw k4.1 (List.nodup_cons.mpr ⟨List.not_mem_nil, List.nodup_nil⟩) fun a h z => k4.2.2 a h a0 lS (List.mem_singleton.mp z)) (by rw [List.getElem?_set_self hl])
        rw [List.set_set] at p1
        have es : σ.set i (some (V.ref a0)) = σ := by
          refine List.ext_getElem? fun j => ?_
          rw [List.getElem?_set]
          split
          · next hj => subst hj; split
                       · exact q1.symm
                       · next hh => exact absurd (List.getElem?_eq_some_iff.mp q1).1 hh
          · rfl
        rw [es] at p1
        have inF : ∀ a ∈ F2, a ∈ F := fun a h => by
          rcases lM (p3 a h) with h | h
          · exact h5 a (lL _ h)
          · exact h5 a (lR _ (by rw [List.mem_singleton.mp h]; exact lS))
        refine ⟨_, F2, p1, .lst (.inl z2) (.inr z4) (z3.mono zba.more), f.give (zaw p2 n3 fun a h => s2 a (inF a h)) (fun a h => ?_) (fun a h => ?_) (fun a h z => ?_) (fun a h e => ?_), zba.more⟩
        · rcases lM h with h | h
          · exact lL _ (lL _ (inF a h))
          · exact lR _ h
        · exact lL _ (lL _ (h5 a (lR _ (lO _ h))))
        · rcases lM h with h | h
          · rcases lM (p3 a h) with h | h
            · exact k4.2.2 a h a (lO _ z) rfl
            · rw [List.mem_singleton.mp h] at z; exact k5.1 z
          · exact s2 a (h5 a (lR _ (lO _ z))) h
        · obtain ⟨_, z', _⟩ := ol.mem a h; rw [z'] at e; cases e
    · cases e
theorem Opv.ziX {Z' : Zs} (g : zba H Z H Z') (h : Opv K H Z σ x o G) : Opv K H Z' σ x o G := by
 cases h with
 | t q => exact .t (q.mono g fun _ _ _ e => e)
 | p q => exact .p q
 | q a b c => exact .q a b c
theorem zfq.ziX {Z Z' : Zs} (g : zba H Z H Z') : ∀ {os : List Opd} {xs : List V} {G : List Addr}, zfq K H Z σ xs os G → zfq K H Z' σ xs os G
 | _, _, _, .nil => .nil
 | _, _, _, .cons h r => .cons (h.ziX g) (zfq.ziX g r)
theorem zfM : ∀ {os : List Opd} {xs : List V} {ds : List PyData} {Z : Zs} {ρ ρ' : Ev} {F G : List Addr}, Owo K H Z σ ρ F → zfq K H Z σ xs os G → Fut H0 Z0 F0 H Z (F ++ G) → zdp os ρ = some (ds, ρ') → ∃ Z' F', Owo K H Z' σ ρ' F' ∧ Fzs K H Z' xs ds ∧ Fut H0 Z0 F0 H Z' F' ∧ zba H Z H Z'
 | _, _, _, _, _, _, _, _, S, .nil, f, e => by cases e; exact ⟨_, _, S, .nil, (by rw [List.append_nil] at f; exact f), zba.refl⟩
 | _, _, _, _, _, _, _, _, S, .cons (os := os) h r, f, e => by
  obtain ⟨⟨d, ρ1⟩, e1, e⟩ := oB e
  obtain ⟨⟨ds, ρ2⟩, e2, e⟩ := oB e
  cases e
  obtain ⟨Z1, F1, S1, z1, f1, g1⟩ := freeze S h f.assoc' e1
  obtain ⟨Z2, F2, S2, z2, f2, g2⟩ := zfM S1 (r.ziX g1) f1 e2
  exact ⟨Z2, F2, S2, .cons (z1.mono g2) z2, f2, g1.trans g2⟩
theorem zdI (S : Owo K H Z σ ρ F) (h : Opv K H Z σ x o G) (f : Fut H0 Z0 F0 H Z (F ++ G)) (e : zdH o ρ = some (d, ρ')) : ∃ Z' F', Owo K H Z' σ ρ' F' ∧ Fz K H Z' x d ∧ Fut H0 Z0 F0 H Z' F' ∧ zba H Z H Z' := by
 obtain ⟨Z', F', h1, h2, h3, h4⟩ := freeze (R := []) S h (by rw [List.append_nil]; exact f) e
 rw [List.append_nil] at h3
 exact ⟨Z', F', h1, h2, h3, h4⟩
end
section
variable {X : Cx} {pos : Pos}
def zbF (fa : FA) : FE := fun ρ => (fa ρ).bind fun p => (zdp p.1 p.2).bind fun q => if q.1.length ≤ lim then some (.t (.v (.tuple q.1)), q.2) else none
def zeD (fa : FA) : FE := fun ρ => (fa ρ).bind fun p => (zdp p.1 p.2).bind fun q => if q.1.length ≤ lim then some (.t (.lst q.1), q.2) else none
theorem zmv {es : List Expr} {k : Nat} {fa : FA} (h : VA X es fa) : VE X (.Tuple es k pos) (zbF fa) := zbk (zlH h) fun σ H Q hq => by
 obtain ⟨Z, ρ, F, o, ρ', S, w, e, q⟩ := hq
 obtain ⟨⟨os, ρ1⟩, e1, e⟩ := oB e
 obtain ⟨⟨ds, ρ2⟩, e2, e⟩ := oB e
 split at e
 ·next hl =>
  cases e
  refine ⟨Z, ρ, F, os, ρ1, S, w, e1, fun xs H1 Z1 F1 G1 S1 O1 f1 => ?_⟩
  obtain ⟨Z2, F2, S2, z2, f2, g2⟩ := zfM S1 O1 f1 e2
  refine ⟨zdd (by rw [z2.length]; exact hl), fun p hp => ?_⟩
  have n := Fut.same (zbR hp (.tup xs)) f2.za
  exact q (.ref p) _ Z2 F2 [] (S2.news n) (.t (.v (.tup (SqT.of zaG) (z2.mono n.ziR)))) (f2.trans (n.news f2.wf S2.al))
 ·cases e
theorem zmw {es : List Expr} {fa : FA} (h : VA X es fa) : VE X (.List es pos) (zeD fa) := zbk (zlI h) fun σ H Q hq => by
 obtain ⟨Z, ρ, F, o, ρ', S, w, e, q⟩ := hq
 obtain ⟨⟨os, ρ1⟩, e1, e⟩ := oB e
 obtain ⟨⟨ds, ρ2⟩, e2, e⟩ := oB e
 split at e
 ·next hl =>
  cases e
  refine ⟨Z, ρ, F, os, ρ1, S, w, e1, fun xs H1 Z1 F1 G1 S1 O1 f1 => ?_⟩
  obtain ⟨Z2, F2, S2, z2, f2, g2⟩ := zfM S1 O1 f1 e2
  refine ⟨zdd (by rw [z2.length]; exact hl), fun p hp => ?_⟩
  have n := Fut.zmt (o := .lst xs) hp f2.za
  exact q (.ref p) _ Z2 F2 [p] (S2.news n) (.t (.lst zaG (z2.mono n.ziR))) (f2.trans (n.news f2.wf S2.al))
 ·cases e
def ziY : FE := fun ρ => some (.t (.dic []), ρ)
theorem zkC : VE X (.Dict [] [] pos) ziY := zbk ziJ fun σ H Q hq => by
 obtain ⟨Z, ρ, F, o, ρ', S, w, e, q⟩ := hq
 cases e
 intro p hp
 have n := Fut.zmt (o := .dK []) hp w.za
 exact q (.ref p) _ Z F [p] (S.news n) (.t (.dic zaG .nil)) (n.news w S.al)
def zg8 : PyData → Option Key
 | .int i => some (.inl i)
 | .str s => some (.inr s)
 | _ => none
def getM : M → M → Option M
 | .dic kvs, .v k => (zg8 k).bind fun k => (zdZ kvs k).bind fun d => some (.v d)
 | .v (.str z), .v (.int i) => if z.length ≤ lim then (atI z.cps.toList i).bind fun c => some (.v (.str ⟨#[c]⟩)) else none
 | m, .v (.int i) => (seq m).bind fun ds => (atI ds i).bind fun d => some (.v d)
 | _, _ => none
def ixO : Opd → M → Ev → Option (Opd × Ev)
 | .t m1, m2, ρ => (getM m1 m2).bind fun m => some (.t m, ρ)
 | .p i, m2, ρ => (at? ρ i).bind fun m1 => match m1, m2 with
  | .dls kvs, .v k => (zg8 k).bind fun k => (zdZ kvs k).bind fun _ => some (.q i k, ρ)
  | m1, m2 => (getM m1 m2).bind fun m => some (.t m, ρ)
 | .q _ _, _, _ => none
def vIx (fa fb : FE) : FE := fun ρ => (fa ρ).bind fun p => (fb p.2).bind fun q => (peek q.2 q.1).bind fun m2 => ixO p.1 m2 q.2
theorem zfN {K : PySem.W.Frag} {H : Hp} {Z : Zs} : ∀ {kxs : List (Key × V)} {kvs : List (Key × PyData)} {k : Key}, Fzk K H Z kxs kvs → (zdZ kvs k = none → zeC kxs k = none) ∧ ∀ d, zdZ kvs k = some d → ∃ x, zeC kxs k = some x ∧ Fz K H Z x d
 | _, _, _, .nil => ⟨fun _ => rfl, fun _ e => (nomatch e)⟩
 | _, _, k, .cons (k := k') (xs := kxs) (ds := kvs) h r => by
  have ih := zfN (k := k) r
  unfold zdZ
  rw [List.find?_cons]
  by_cases hk : k' = k
  ·subst hk
   simp only [decide_true, Option.map_some]
   rw [zcH rfl]
   exact ⟨fun e => (nomatch e), fun d e => ⟨_, rfl, by cases e; exact h⟩⟩
  ·simp only [hk, decide_false]
   rw [zcI hk]
   exact ih
theorem zdJ {K : PySem.W.Frag} {H : Hp} {Z : Zs} {x : V} {d : PyData} {k : Key} (h : Fz K H Z x d) (e : zg8 d = some k) : x = kV k := by
 cases h <;> cases e <;> rfl
theorem zmx {K : PySem.W.Frag} {H : Hp} {Z : Zs} {xs : List V} {ds : List PyData} {i : Int} {d : PyData} (r : Fzs K H Z xs ds) (e : atI ds i = some d) : ∃ x, atI xs i = some x ∧ Fz K H Z x d := by
 unfold atI at e ⊢
 rw [r.length]
 obtain ⟨j, e1, e2⟩ := oB e
 obtain ⟨x, h1, h2⟩ := r.get' e2
 exact ⟨x, by rw [e1, Option.bind_some]; exact h1, h2⟩
theorem ve_ix {a b : Expr} {fa fb : FE} (hu : X.A.units + 64 < cLine) (ha : VE X a fa) (hb : VE X b fb) (hs : zfA b) : VE X (.Subscript a b pos) (vIx fa fb) := by
 refine zbk (zhI (pe_ix zlP ha hb hs) (zkl (by omega) ha hb hs)) fun σ H Q hq => ?_
 obtain ⟨Z, ρ, F, o, ρ', S, w, e, q⟩ := hq
 obtain ⟨⟨o1, ρ1⟩, e1, e⟩ := oB e
 obtain ⟨⟨o2, ρ2⟩, e2, e⟩ := oB e
 obtain ⟨m2, e3, e⟩ := oB e
 have gen : ∀ m1 m, zcB ρ2 o1 = some m1 → getM m1 m2 = some m → o = .t m → ρ' = ρ2 → tOp (rIx X.K) (vE X.K fa) (vE X.K fb) σ H Q ∨ zlZ (vE X.K fa) (vE X.K fb) σ H Q := fun m1 m e4 e5 eo er => by
  subst eo; subst er
  have two' : ∀ R : V → V → Hp → Prop, (∀ H2 Z2 x y, (∀ a, Z2 a → H2 a ≠ none) → Ro X.K H2 Z2 x m1 → Ro X.K H2 Z2 y m2 → (∀ z H3 Z3 G, Ow X.K H3 Z3 z m G → Fut H2 Z2 [] H3 Z3 G → Q z H3) → R x y H2) →
    vE X.K fa σ H fun x H1 => vE X.K fb σ H1 fun y H2 => R x y H2 := fun R hR => by
   refine ⟨Z, ρ, F, o1, ρ1, S, w, e1, fun x H1 Z1 F1 G1 S1 O1 f1 => ⟨Z1, ρ1, F1, o2, ρ', S1, f1.left.wf, e2, fun y H2 Z2 F2 G2 S2 O2 f2 => ?_⟩⟩
   have O1' := O1.mono (zaU e4) (f2.grow f1.left.wf) (f1.zfJ f2)
   exact hR H2 Z2 x y f2.za (O1'.peek S2 (zaT e4)) (O2.peek S2 e3) fun z H3 Z3 G h3 n => q z H3 Z3 F2 G (S2.news n) (.t h3) ((f1.left.trans f2.left).trans (n.news f2.left.wf S2.al))
  clear q e e3
  unfold getM at e5
  split at e5
  ·rename_i kvs k
   obtain ⟨k', e6, e5⟩ := oB e5
   obtain ⟨d, e7, e5⟩ := oB e5
   cases e5
   refine .inr (two' _ fun H2 Z2 x y za h1 h2 fin => ?_)
   obtain ⟨a', kxs, rfl, he, fk⟩ := h1.dic
   obtain ⟨v, hv, fv⟩ := (zfN fk).2 d e7
   obtain rfl := zdJ h2.fz e6
   exact ⟨a', v, rfl, hv ▸ zf8.k he, zco fin za fv⟩
  ·rename_i z i
   split at e5
   ·rename_i hl
    obtain ⟨c, e7, e5⟩ := oB e5
    cases e5
    refine .inl (two' _ fun H2 Z2 x y za h1 h2 fin => ?_)
    obtain rfl := h1.str
    obtain rfl := h2.int
    exact .inr (.inr ⟨_, _, c, rfl, rfl, zdd hl, e7, zco fin za (.str _)⟩)
   ·cases e5
  ·obtain ⟨ds, e6, e5⟩ := oB e5
   obtain ⟨d, e7, e5⟩ := oB e5
   cases e5
   refine .inl (two' _ fun H2 Z2 x y za h1 h2 fin => ?_)
   obtain ⟨a', xs, rfl, hq, fs⟩ := h1.seq e6
   obtain rfl := h2.int
   obtain ⟨v, hv, fv⟩ := zmx fs e7
   rcases hq with hq | hq
   ·exact .inl ⟨a', xs, _, v, rfl, rfl, hq, hv, zco fin za fv⟩
   ·exact .inr (.inl ⟨a', xs, _, v, rfl, rfl, hq, hv, zco fin za fv⟩)
  ·cases e5
 cases o1 with
 | t m1 =>
  obtain ⟨m, e5, e⟩ := oB e
  injection e with e
  injection e with ea eb
  exact gen m1 m rfl e5 ea.symm eb.symm
 | q _ _ => cases e
 | p i =>
  obtain ⟨m1, e4, e⟩ := oB e
  split at e
  ·rename_i kvs k
   obtain ⟨k', e6, e⟩ := oB e
   obtain ⟨ds, e7, e⟩ := oB e
   injection e with e
   injection e with ea eb
   subst ea; subst eb
   refine .inr ⟨Z, ρ, F, .p i, ρ1, S, w, e1, fun x H1 Z1 F1 G1 S1 O1 f1 => ⟨Z1, ρ1, F1, o2, _, S1, f1.left.wf, e2, fun y H2 Z2 F2 G2 S2 O2 f2 => ?_⟩⟩
   cases O1 with
   | p hx =>
    obtain ⟨x', G', h1, h2, _⟩ := S2.get (zas.mp e4)
    rw [hx] at h1; cases h1
    cases h2 with
    | dls he ol =>
     obtain ⟨b, xs, z1, z2, z3, z4⟩ := ol.get e7
     have O2' := O2.peek S2 e3
     obtain rfl := zdJ O2'.fz e6
     exact ⟨_, .ref b, rfl, z1 ▸ zf8.k he, q (.ref b) H2 Z2 F2 [] S2 (.q hx he z1) (f1.left.trans f2.left).nil⟩
  ·obtain ⟨m, e5, e⟩ := oB e
   injection e with e
   injection e with ea eb
   exact gen _ m e4 e5 ea.symm eb.symm
end
end VL
end
section
namespace VL
open PySem PySem.Spec L2 PyProof.Rows
section
variable {X : Cx} {pos : Pos}
theorem zhL {fa fb : FE} {g : M → M → Option M} {σ : L2.St} {H : Hp} {Q : VK} (hq : vE X.K (vB g fa fb) σ H Q) :
  ∃ m1 m2 m, g m1 m2 = some m ∧ ∀ R : V → V → Hp → Prop, (∀ H2 Z2 x y, (∀ a, Z2 a → H2 a ≠ none) → Ro X.K H2 Z2 x m1 → Ro X.K H2 Z2 y m2 → (∀ z H3 Z3 G, Ow X.K H3 Z3 z m G → Fut H2 Z2 [] H3 Z3 G → Q z H3) → R x y H2) →
    vE X.K fa σ H fun x H1 => vE X.K fb σ H1 fun y H2 => R x y H2 := by
 obtain ⟨Z, ρ, F, o, ρ', S, w, e, q⟩ := hq
 obtain ⟨⟨o1, ρ1⟩, e1, e⟩ := oB e
 obtain ⟨⟨o2, ρ2⟩, e2, e⟩ := oB e
 obtain ⟨m1, e3, e⟩ := oB e
 obtain ⟨m2, e4, e⟩ := oB e
 obtain ⟨m, e5, e⟩ := oB e
 cases e
 refine ⟨m1, m2, m, e5, fun R hR => ⟨Z, ρ, F, o1, ρ1, S, w, e1, fun x H1 Z1 F1 G1 S1 O1 f1 => ⟨Z1, ρ1, F1, o2, ρ2, S1, f1.left.wf, e2, fun y H2 Z2 F2 G2 S2 O2 f2 => ?_⟩⟩⟩
 have O1' := O1.mono (zaU e3) (f2.grow f1.left.wf) (f1.zfJ f2)
 exact hR H2 Z2 x y f2.za (O1'.peek S2 (zaT e3)) (O2.peek S2 e4) fun z H3 Z3 G h3 n => q z H3 Z3 F2 G (S2.news n) (.t h3) ((f1.left.trans f2.left).trans (n.news f2.left.wf S2.al))
def inA (neg : Bool) : M → M → Option M
 | .v k, .dic kvs => (zg8 k).bind fun k => some (.v (.bool (if neg then !(zdZ kvs k).isSome else (zdZ kvs k).isSome)))
 | .v k, .dls kvs => (zg8 k).bind fun k => some (.v (.bool (if neg then !(zdZ kvs k).isSome else (zdZ kvs k).isSome)))
 | .v (.str i), .v (.str j) => some (.v (.bool (if neg then !(!(Builtin.Str.occurrences j i 0 j.length 1).isEmpty) else !(Builtin.Str.occurrences j i 0 j.length 1).isEmpty)))
 | m1, m2 => inM neg m1 m2
theorem zgj {K : PySem.W.Frag} {H : Hp} {Z : Zs} : ∀ {kxs : List (Key × V)} {kvs : List (Key × List PyData)} {G : List Addr} {k : Key}, Owl K H Z kxs kvs G → (zeC kxs k).isSome = (zdZ kvs k).isSome
 | _, _, _, _, .nil => rfl
 | _, _, _, k, .cons (k := k') h f r => by
  have ih := zgj (k := k) r
  unfold zdZ
  rw [List.find?_cons]
  by_cases hk : k' = k
  ·subst hk
   simp only [decide_true, Option.map_some]
   rw [zcH rfl]
   rfl
  ·simp only [hk, decide_false]
   rw [zcI hk]
   exact ih
theorem zhM {K : PySem.W.Frag} {H : Hp} {Z : Zs} {kxs : List (Key × V)} {kvs : List (Key × PyData)} {k : Key} (h : Fzk K H Z kxs kvs) : (zeC kxs k).isSome = (zdZ kvs k).isSome := by
 obtain ⟨h1, h2⟩ := zfN (k := k) h
 cases e : zdZ kvs k with
 | none => rw [h1 e]; rfl
 | some d => obtain ⟨x, h3, _⟩ := h2 d e; rw [h3]; rfl
theorem zmy {neg : Bool} {fa fb : FE} {σ : L2.St} {H : Hp} {Q : VK} {rs : R2} (hrs : rs = fun x y H Q => ∃ i j, x = .str i ∧ y = .str j ∧ Q (.bl (if neg then !(!(Builtin.Str.occurrences j i 0 j.length 1).isEmpty) else !(Builtin.Str.occurrences j i 0 j.length 1).isEmpty)) H) (hq : vE X.K (vB (inA neg) fa fb) σ H Q) :
  (tOp (rM X.K (inM neg)) (vE X.K fa) (vE X.K fb) σ H Q ∨ tOp rs (vE X.K fa) (vE X.K fb) σ H Q) ∨ (fun σ H Q => vE X.K fa σ H fun y H1 => vE X.K fb σ H1 fun x H2 => ∃ a o, x = .ref a ∧ zf8 H2 a y o ∧ Q (.bl (if neg then !o.isSome else o.isSome)) H2 : TE) σ H Q := by
 obtain ⟨m1, m2, m, e, h⟩ := zhL hq
 unfold inA at e
 split at e
 ·obtain ⟨k, e1, e⟩ := oB e
  cases e
  refine .inr (h _ fun H2 Z2 x y za h1 h2 fin => ?_)
  obtain ⟨a, kxs, rfl, he, fk⟩ := h2.dic
  obtain rfl := zdJ h1.fz e1
  refine ⟨a, _, rfl, zf8.k he, ?_⟩
  rw [zhM fk]
  exact zco fin za (.bl _)
 ·obtain ⟨k, e1, e⟩ := oB e
  cases e
  refine .inr (h _ fun H2 Z2 x y za h1 h2 fin => ?_)
  obtain ⟨a, kxs, G, rfl, he, fk⟩ := h2.dls
  obtain rfl := zdJ h1.fz e1
  refine ⟨a, _, rfl, zf8.k he, ?_⟩
  rw [zgj fk]
  exact zco fin za (.bl _)
 ·cases e
  refine .inl (.inr (h _ fun H2 Z2 x y za h1 h2 fin => ?_))
  obtain rfl := h1.str; obtain rfl := h2.str
  rw [hrs]
  exact ⟨_, _, rfl, rfl, zco fin za (.bl _)⟩
 ·exact .inl (.inl (h _ fun H2 Z2 x y za h1 h2 fin => ⟨Z2, _, _, _, za, h1, h2, e, fin⟩))
theorem ve_in {a b : Expr} {fa fb : FE} (hu : X.A.units + 64 < cLine) (ha : VE X a fa) (hb : VE X b fb) (hm : behindInMarks .In b = false := by rfl) : VE X (.Compare a [.In] [b] pos) (vB (inA false) fa fb) :=
 zbk (zhI (zhI (zfv (ov_in hu) ha hb hm) (zfv zhl ha hb hm)) (zll (zl0 (by omega) ha hb) hm)) fun _ _ _ hq => zmy rfl hq
theorem ziZ {a b : Expr} {fa fb : FE} (hu : X.A.units + 64 < cLine) (ha : VE X a fa) (hb : VE X b fb) (hm : behindInMarks .NotIn b = false := by rfl) : VT X (.Compare a [.NotIn] [b] pos) (zbW (vB (inA true) fa fb)) :=
 zge (zjB (zjB (zfw (ziW hu) ha hb hm) (zfw zeJ ha hb hm)) (zlm (zhz (by omega) ha hb) hm)) fun _ _ _ hq => zmy rfl (tst hq)
def zd9 (g g' : M → M → Option M) (fa fb fc : FE) : FE := fun ρ => (fa ρ).bind fun p => (fb p.2).bind fun q => (zcB q.2 p.1).bind fun m1 => (zcB q.2 q.1).bind fun m2 => (g m1 m2).bind fun m => (tr? m).bind fun b =>
 if b = true then (fc q.2).bind fun r => (zcB r.2 q.1).bind fun m2 => (peek r.2 r.1).bind fun m3 => (g' m2 m3).bind fun m' => some (.t m', r.2) else some (.t (.v (.bool false)), q.2)
theorem zhN {g g' : M → M → Option M} {fa fb fc : FE} {σ : L2.St} {H : Hp} {Q : VK} (hq : vE X.K (zd9 g g' fa fb fc) σ H Q) : zjp (rM X.K g) (rM X.K g') (vE X.K fa) (vE X.K fb) (vE X.K fc) σ H Q := by
 obtain ⟨Z, ρ, F, o, ρ', S, w, e, q⟩ := hq
 obtain ⟨⟨o1, ρ1⟩, e1, e⟩ := oB e
 obtain ⟨⟨o2, ρ2⟩, e2, e⟩ := oB e
 obtain ⟨m1, e3, e⟩ := oB e
 obtain ⟨m2, e4, e⟩ := oB e
 obtain ⟨m, e5, e⟩ := oB e
 obtain ⟨b, e6, E⟩ := oB e
 clear e
 refine ⟨Z, ρ, F, o1, ρ1, S, w, e1, fun x H1 Z1 F1 G1 S1 O1 f1 => ⟨Z1, ρ1, F1, o2, ρ2, S1, f1.left.wf, e2, fun y H2 Z2 F2 G2 S2 O2 f2 => ?_⟩⟩
 have O1' := O1.mono (zaU e3) (f2.grow f1.left.wf) (f1.zfJ f2)
 refine ⟨Z2, m1, m2, m, f2.za, O1'.peek S2 (zaT e3), O2.peek S2 (zaT e4), e5, fun z H3 Z3 G h3 n => ?_⟩
 have hm : m = .v (.bool b) := by
  unfold tr? at e6
  split at e6
  ·cases e6; rfl
  ·cases e6
 subst hm
 cases h3 with
 | v f =>
  obtain rfl := f.zgd
  refine ⟨b, rfl, ?_⟩
  have k2 := n.frame (F := []) (G := F2 ++ G2) (by rw [List.nil_append]; exact f2.wf) (fun a h => by
   rcases lM h with h | h
   ·exact S2.al a h
   ·exact O2.al a h)
  rw [List.nil_append] at k2
  have S3 := S2.news n
  have f3 : Fut H Z F H3 Z3 (F2 ++ G2) := (f1.left.trans f2).trans k2
  have O3 := O2.mono (zaU e4) n.ziR fun a _ o e => n.keep a o List.not_mem_nil e
  cases b with
  | false => cases E; exact zl2 (q (.bl false) H3 Z3 F2 [] S3 (.t (.v (.bl false))) f3.left.nil)
  | true =>
   obtain ⟨⟨o3, ρ3⟩, e7, e⟩ := oB E
   obtain ⟨m2', e8, e⟩ := oB e
   obtain ⟨m3, e9, e⟩ := oB e
   obtain ⟨m', e10, e⟩ := oB e
   cases e
   refine zl3 ⟨Z3, ρ2, F2, o3, ρ3, S3, f3.left.wf, e7, fun w' H4 Z4 F4 G4 S4 O4 f4 => ?_⟩
   have O2' := O3.mono (zaU e8) (f4.grow f3.left.wf) (f3.zfJ f4)
   exact ⟨Z4, m2', m3, m', f4.za, O2'.peek S4 (zaT e8), O4.peek S4 e9, e10, fun z H5 Z5 G5 h5 n5 => q z H5 Z5 F4 G5 (S4.news n5) (.t h5) ((f3.left.trans f4.left).trans (n5.news f4.left.wf S4.al))⟩
theorem zi0 {op op' : CmpOp} {a b c : Expr} {g g' : M → M → Option M} {fa fb fc : FE} (ho : OpR X (compareOp op) (rM X.K g)) (ho' : OpR X (compareOp op') (rM X.K g')) (ha : VE X a fa) (hb : VE X b fb) (hc : VE X c fc)
  (hm : lastMarks [op, op'] [b, c] = false := by with_unfolding_all rfl) : VE X (.Compare a [op, op'] [b, c] pos) (zd9 g g' fa fb fc) := zbk (ziB ho ho' ha hb hc hm) fun _ _ _ hq => zhN hq
def zjE : M → Option Bool
 | .v .none => some false
 | .v (.bool b) => some b
 | .v (.int i) => some (i != 0)
 | .v (.str y) => if y.length ≤ lim then some ((y.length : Int) != 0) else none
 | .v (.tuple ds) => some (!ds.isEmpty)
 | .v (.list ds) => some (!ds.isEmpty)
 | .lst ds => some (!ds.isEmpty)
 | .dic kvs => some (!kvs.isEmpty)
 | .dls kvs => some (!kvs.isEmpty)
 | _ => none
def zea (f : FE) : FT := fun ρ => (f ρ).bind fun p => (peek p.2 p.1).bind fun m => (zjE m).bind fun b => some (b, p.2)
theorem isE {α β : Type} {xs : List α} {ys : List β} (h : xs.length = ys.length) : (!xs.isEmpty) = !ys.isEmpty := by
 cases xs <;> cases ys <;> simp_all
theorem Ro.tru {K : PySem.W.Frag} {H : Hp} {Z : Zs} {x : V} {m : M} {b : Bool} (h : Ro K H Z x m) (e : zjE m = some b) : TruV K x H b := by
 have seqs : ∀ {ds : List PyData}, VL.seq m = some ds → some (!ds.isEmpty) = some b → TruV K x H b := fun {ds} e1 e2 => by
  obtain ⟨a, xs, rfl, hq, f⟩ := h.seq e1
  cases e2
  rcases hq with hq | hq
  ·exact .inl ⟨xs, hq, (isE f.length).symm⟩
  ·exact .inr (.inl ⟨xs, hq, (isE f.length).symm⟩)
 cases m with
 | v d =>
  cases d with
  | none => cases e; obtain rfl := h.fz.zku; exact rfl
  | bool _ => cases e; obtain rfl := h.bl; exact rfl
  | int _ => cases e; obtain rfl := h.int; exact rfl
  | str y =>
   have e : (if y.length ≤ lim then some ((y.length : Int) != 0) else none) = some b := e
   split at e
   ·next hl => cases e; obtain rfl := h.str; exact ⟨zdd hl, rfl⟩
   ·cases e
  | tuple ds => exact seqs rfl e
  | list ds => exact seqs rfl e
  | dict _ => cases e
 | lst ds => exact seqs rfl e
 | dic kvs =>
  cases e
  obtain ⟨a, kxs, rfl, he, fk⟩ := h.dic
  exact .inr (.inr ⟨kxs, he, (isE fk.length).symm⟩)
 | dls kvs =>
  cases e
  obtain ⟨a, kxs, G, rfl, he, fk⟩ := h.dls
  refine .inr (.inr ⟨kxs, he, (isE ?_).symm⟩)
  clear he h seqs
  induction fk with
  | nil => rfl
  | cons _ _ _ ih => rw [List.length_cons, List.length_cons, ih]
theorem zmz {e : Expr} {f : FE} (h : VE X e f) (he : ∀ whole, isTrue e X.env whole = (do let v ← whole; standAt e.pos; holding [v] (truthy v)) := by intro _; rfl) : VT X e (zea f) := zge (ziC h he) fun σ H Q hq => by
 obtain ⟨Z, ρ, F, b, ρ', S, w, e, q⟩ := hq
 obtain ⟨⟨o1, ρ1⟩, e1, e⟩ := oB e
 obtain ⟨m, e2, e⟩ := oB e
 obtain ⟨b', e3, e⟩ := oB e
 cases e
 exact ⟨Z, ρ, F, o1, ρ1, S, w, e1, fun x H1 Z1 F1 G1 S1 O1 f1 => ⟨_, (O1.peek S1 e2).tru e3, q H1 Z1 F1 S1 f1.left⟩⟩
abbrev FO := Ev → Option (Option Int × Ev)
def vO (K : PySem.W.Frag) (f : FO) : TO := fun σ H Q => ∃ Z ρ F o ρ', Owo K H Z σ ρ F ∧ Wf H Z F ∧ f ρ = some (o, ρ') ∧ ∀ H' Z' F', Owo K H' Z' σ ρ' F' → Fut H Z F H' Z' F' → Q o H'
def zbb : FO := fun ρ => some (none, ρ)
def zbc (f : FE) : FO := fun ρ => (f ρ).bind fun p => (peek p.2 p.1).bind fun m => match m with
 | .v (.int i) => some (some i, p.2)
 | _ => none
theorem zkD : PO X none (vO X.K zbb) := fun pins s σ H Q I hq => zkb pins s σ H Q I (by
 obtain ⟨Z, ρ, F, o, ρ', S, w, e, q⟩ := hq
 cases e
 exact q H Z F S (Fut.refl w))
theorem zkE {e : Expr} {f : FE} (h : VE X e f) : PO X (some e) (vO X.K (zbc f)) := fun pins s σ H Q I hq => zkc h pins s σ H Q I (by
 obtain ⟨Z, ρ, F, o, ρ', S, w, e, q⟩ := hq
 obtain ⟨⟨o1, ρ1⟩, e1, e⟩ := oB e
 obtain ⟨m1, e3, e⟩ := oB e
 refine ⟨Z, ρ, F, o1, ρ1, S, w, e1, fun x H1 Z1 F1 G1 S1 O1 f1 => ?_⟩
 split at e
 ·cases e
  obtain rfl := (O1.peek S1 e3).int
  exact ⟨_, rfl, q H1 Z1 F1 S1 f1.left⟩
 ·cases e)
def cutD (ds : List PyData) (lo hi : Option Int) : List PyData := (ds.drop (HT.sIx ds.length 0 lo)).take (HT.sIx ds.length ds.length hi - HT.sIx ds.length 0 lo)
theorem zhO {K : PySem.W.Frag} {H : Hp} {Z : Zs} {xs : List V} {ds : List PyData} (r : Fzs K H Z xs ds) (lo hi : Option Int) : Fzs K H Z (zhr xs lo hi) (cutD ds lo hi) := by
 unfold zhr cutD
 rw [r.length]
 exact (r.drop _).take _
def slM (lo hi : Option Int) : M → Option M
 | .v (.tuple ds) => some (.v (.tuple (cutD ds lo hi)))
 | .lst ds => some (.lst (cutD ds lo hi))
 | .v (.list ds) => some (.lst (cutD ds lo hi))
 | _ => none
def vSl (fa : FE) (fl fh : FO) : FE := fun ρ => (fa ρ).bind fun p => (fl p.2).bind fun l => (fh l.2).bind fun h => (zcB h.2 p.1).bind fun m => (slM l.1 h.1 m).bind fun m' => some (.t m', h.2)
theorem SlR.or {r r' : V → Option Int → Option Int → Hp → VK → Prop} (h : SlR X r) (h' : SlR X r') : SlR X (fun x lo hi H Q => r x lo hi H Q ∨ r' x lo hi H Q) := by
 intro pins s σ H x v vl vu lo hi sl Q I rx hs pl pu q
 rcases q with q | q
 ·exact h pins s σ H x v vl vu lo hi sl Q I rx hs pl pu q
 ·exact h' pins s σ H x v vl vu lo hi sl Q I rx hs pl pu q
theorem ve_sl {e : Expr} {lo hi : Option Expr} {p2 : Pos} {fa : FE} {fl fh : FO} (ha : VE X e fa) (hl : PO X lo (vO X.K fl)) (hh : PO X hi (vO X.K fh)) : VE X (.Subscript e (.Slice lo hi none p2) pos) (vSl fa fl fh) := zbk (ziG (SlR.or zkt zkf) ha hl hh) fun σ H Q hq => by
 obtain ⟨Z, ρ, F, o, ρ', S, w, e, q⟩ := hq
 obtain ⟨⟨o1, ρ1⟩, e1, e⟩ := oB e
 obtain ⟨⟨l, ρ2⟩, e2, e⟩ := oB e
 obtain ⟨⟨h, ρ3⟩, e3, e⟩ := oB e
 obtain ⟨m, e4, e⟩ := oB e
 obtain ⟨m', e5, e⟩ := oB e
 cases e
 refine ⟨Z, ρ, F, o1, ρ1, S, w, e1, fun x H1 Z1 F1 G1 S1 O1 f1 => ⟨Z1, ρ1, F1, l, ρ2, S1, f1.left.wf, e2, fun H2 Z2 F2 S2 f2 => ⟨Z2, ρ2, F2, h, ρ3, S2, f2.wf, e3, fun H3 Z3 F3 S3 f3 => ?_⟩⟩⟩
 have f23 := f2.trans f3
 have O1' := O1.mono (zaU e4) (f23.grow f1.left.wf) (f1.zfJ f23)
 have r := O1'.peek S3 (zaT e4)
 have fin : ∀ z H4 Z4 G, Ow X.K H4 Z4 z m' G → Fut H3 Z3 [] H4 Z4 G → Q z H4 := fun z H4 Z4 G h4 n => q z H4 Z4 F3 G (S3.news n) (.t h4) ((f1.left.trans f23).trans (n.news f3.wf S3.al))
 unfold slM at e5
 split at e5
 ·cases e5
  obtain ⟨a, xs, rfl, hx, fx⟩ := r.tup
  exact .inl ⟨a, xs, rfl, hx, fun r H' s' t => endS fin f3.za s' (.tup t ((zhO fx _ _).mono (zba.same s')))⟩
 ·cases e5
  obtain ⟨a, xs, rfl, hx, fx⟩ := r.zgR rfl
  exact .inr ⟨a, xs, rfl, hx, fun p hp => zjC fin f3.za hp (zhO fx _ _)⟩
 ·cases e5
  obtain ⟨a, xs, rfl, hx, fx⟩ := r.zgR rfl
  exact .inr ⟨a, xs, rfl, hx, fun p hp => zjC fin f3.za hp (zhO fx _ _)⟩
 ·cases e5
def ziq : M → Option M
 | .v (.int i) => some (.v (.int (-i)))
 | _ => none
theorem zmA {a : Expr} {fa : FE} (ha : VE X a fa) : VE X (.UnaryOp .USub a pos) (vU ziq fa) := zbk (pe_un zlF ha) fun σ H Q hq => one (r := rU fun i => .int (-i)) (fun H Z x m1 m Q za h1 e q => by
 unfold ziq at e
 split at e
 ·cases e
  obtain rfl := h1.int
  exact ⟨_, rfl, zco q za (.int _)⟩
 ·cases e) hq
end
end VL
end
section
namespace VL
open PySem PySem.Spec L2 PyProof.Rows
section
variable {α : Type}
def ins (lt : α → α → Bool) (x : α) : List α → List α
 | [] => [x]
 | y :: ys => if lt y x = true then y :: ins lt x ys else x :: y :: ys
def zgT (lt : α → α → Bool) : List α → List α
 | [] => []
 | x :: xs => ins lt x (zgT lt xs)
theorem zeu (lt : α → α → Bool) (x : α) : ∀ ys : List α, (ins lt x ys).Perm (x :: ys)
 | [] => .refl _
 | y :: ys => by
  unfold ins
  split
  ·exact ((zeu lt x ys).cons y).trans (.swap x y ys)
  ·exact .refl _
theorem zbG (lt : α → α → Bool) : ∀ xs : List α, (zgT lt xs).Perm xs
 | [] => .refl _
 | x :: xs => (zeu lt x _).trans ((zbG lt xs).cons x)
theorem zjF {lt : α → α → Bool} (as : ∀ a b, lt a b = true → lt b a = false) (tr : ∀ a b c, lt b a = false → lt c b = false → lt c a = false) (x : α) : ∀ {ys : List α}, ys.Pairwise (fun a b => lt b a = false) → (ins lt x ys).Pairwise (fun a b => lt b a = false)
 | [], _ => List.pairwise_singleton _ _
 | y :: ys, h => by
  obtain ⟨h1, h2⟩ := List.pairwise_cons.mp h
  unfold ins
  split
  ·next e =>
   refine List.pairwise_cons.mpr ⟨fun z hz => ?_, zjF as tr x h2⟩
   rcases lK ((zeu lt x ys).mem_iff.mp hz) with hz | hz
   ·subst hz; exact as _ _ e
   ·exact h1 z hz
  ·next e =>
   have e : lt y x = false := by simpa using e
   refine List.pairwise_cons.mpr ⟨fun z hz => ?_, h⟩
   rcases lK hz with hz | hz
   ·subst hz; exact e
   ·exact tr _ _ _ e (h1 z hz)
theorem zcS {lt : α → α → Bool} (as : ∀ a b, lt a b = true → lt b a = false) (tr : ∀ a b c, lt b a = false → lt c b = false → lt c a = false) : ∀ xs : List α, (zgT lt xs).Pairwise (fun a b => lt b a = false)
 | [] => .nil
 | x :: xs => zjF as tr x (zcS as tr xs)
end
def ltI (a b : Int) : Bool := decide (a < b)
def zdK (ns : List Int) : List Int := zgT ltI ns
def ze5 (ks : List (List Int)) : List (List Int) := zgT HT.lexLt ks
theorem zcT : ∀ (a b : List Int), HT.lexLt a b = false → HT.lexLt b a = false → a = b
 | [], [], _, _ => rfl
 | [], _ :: _, h, _ => by cases h
 | _ :: _, [], _, h => by cases h
 | x :: xs, y :: ys, h, h' => by
  rw [HT.za4] at h h'
  by_cases e : x = y
  ·subst e
   rw [if_pos rfl] at h h'
   rw [zcT xs ys h h']
  ·rw [if_neg e] at h
   rw [if_neg (Ne.symm e)] at h'
   have h := of_decide_eq_false h
   have h' := of_decide_eq_false h'
   omega
theorem zgU {ns ns' : List Int} (p : ns'.Perm ns) (s : ns'.Pairwise (· ≤ ·)) : ns' = zdK ns := by
 refine List.Perm.eq_of_pairwise (le := fun a b => ltI b a = false) (fun a b _ _ h1 h2 => ?_) (s.imp fun h => ?_) (zcS (fun a b h => ?_) (fun a b c h1 h2 => ?_) ns) (p.trans (zbG _ ns).symm)
 ·unfold ltI at h1 h2
  have h1 := of_decide_eq_false h1
  have h2 := of_decide_eq_false h2
  omega
 ·exact decide_eq_false (by omega)
 ·have h := of_decide_eq_true h
  exact decide_eq_false (by omega)
 ·have h1 := of_decide_eq_false h1
  have h2 := of_decide_eq_false h2
  exact decide_eq_false (by omega)
theorem zeb {ns ns' : List (List Int)} (p : ns'.Perm ns) (s : ns'.Pairwise fun a b => HT.lexLt b a = false) : ns' = ze5 ns :=
 List.Perm.eq_of_pairwise (le := fun a b => HT.lexLt b a = false) (fun a b _ _ h1 h2 => zcT a b h2 h1) s (zcS zcn zb0 ns) (p.trans (zbG _ ns).symm)
def tI (ns : List Int) : PyData := .tuple (ns.map .int)
def asT : PyData → Option (List Int)
 | .tuple ds => ze3 ds
 | _ => none
def zla : List PyData → Option (List (List Int))
 | [] => some []
 | d :: ds => (asT d).bind fun i => (zla ds).bind fun is => some (i :: is)
theorem zds : ∀ {ds : List PyData} {ks : List (List Int)}, zla ds = some ks → ds = ks.map tI
 | [], _, e => by cases e; rfl
 | d :: ds, _, e => by
  obtain ⟨i, e1, e⟩ := oB e
  obtain ⟨is, e2, e⟩ := oB e
  cases e
  rw [zds e2]
  cases d with
  | tuple xs => rw [List.map_cons]; unfold tI; rw [zbx e1]
  | _ => cases e1
theorem zhP : ∀ (ks : List (List Int)), zla (ks.map tI) = some ks
 | [] => rfl
 | k :: ks => by show (ze3 (k.map .int)).bind _ = _; rw [zcR, Option.bind_some, zhP ks]; rfl
theorem Fzs.tis {K : PySem.W.Frag} {H : Hp} {Z : Zs} : ∀ {ks : List (List Int)} {xs : List V}, Fzs K H Z xs (ks.map tI) → TIs K H xs ks
 | [], _, .nil => .nil
 | k :: ks, _, .cons h r => .cons (by obtain ⟨a, xs, e1, e2, e3⟩ := h.zcA; rw [e3.zbw] at e2; exact ⟨a, e1, e2⟩) (Fzs.tis r)
theorem Fzs.zhQ {K : PySem.W.Frag} {H : Hp} {Z : Zs} {xs : List V} {ks : List (List Int)} (r : TIs K H xs ks) : ∀ (zs : List (V × List Int)), (∀ z ∈ zs, z ∈ xs.zip ks) → Fzs K H Z (zs.map (·.1)) ((zs.map (·.2)).map tI)
 | [], _ => .nil
 | z :: zs, h => .cons (by
   have hz := h z lS
   have : ∀ {xs : List V} {ks : List (List Int)}, TIs K H xs ks → z ∈ xs.zip ks → ∃ a, z.1 = .ref a ∧ SqT K H a (z.2.map V.int) := fun {xs ks} r hz => by
    induction r with
    | nil => simp at hz
    | cons q _ ih =>
     rw [List.zip_cons_cons] at hz
     rcases lK hz with hz | hz
     ·subst hz; exact q
     ·exact ih hz
   obtain ⟨a, e1, e2⟩ := this r hz
   show Fz K H Z z.1 (tI z.2)
   rw [e1]
   exact .tup e2 (Fzs.ints _)) (Fzs.zhQ r zs fun z' h' => h z' (lO _ h'))
def inlK : Key → Option Int
 | .inl i => some i
 | .inr _ => none
def inls : List Key → Option (List Int)
 | [] => some []
 | k :: ks => (inlK k).bind fun i => (inls ks).bind fun is => some (i :: is)
theorem zev : ∀ {ks : List Key} {is : List Int}, inls ks = some is → ks = is.map Sum.inl
 | [], _, e => by cases e; rfl
 | k :: ks, _, e => by
  obtain ⟨i, e1, e⟩ := oB e
  obtain ⟨is, e2, e⟩ := oB e
  cases e
  rw [zev e2]
  cases k with
  | inl j => cases e1; rfl
  | inr _ => cases e1
def ze6 (ds : List PyData) : Option (List PyData) :=
 if ds.length < 64 then
  match ze3 ds with
  | some ns => some ((zdK ns).map .int)
  | none => (zla ds).bind fun ks => if ks.all (fun k => !k.isEmpty) = true then some ((ze5 ks).map tI) else none
 else none
def ze7 : List M → Option M
 | [.dic kvs] => (inls (kvs.map (·.1))).bind fun ns => if ns.length < 64 then some (.lst ((zdK ns).map .int)) else none
 | [.dls kvs] => (inls (kvs.map (·.1))).bind fun ns => if ns.length < 64 then some (.lst ((zdK ns).map .int)) else none
 | [.v (.tuple ds)] => (ze3 ds).bind fun ns => if ns.length < 64 then some (.lst ((zdK ns).map .int)) else none
 | [m] => (zgR m).bind fun ds => (ze6 ds).bind fun es => some (.lst es)
 | _ => none
theorem Owl.keys {K : PySem.W.Frag} {H : Hp} {Z : Zs} : ∀ {xs : List (Key × V)} {ds : List (Key × List PyData)} {G : List Addr}, Owl K H Z xs ds G → xs.map (·.1) = ds.map (·.1)
 | _, _, _, .nil => rfl
 | _, _, _, .cons _ _ r => by rw [List.map_cons, List.map_cons, Owl.keys r]
section
variable {X : Cx} {pos : Pos}
theorem zd2 {K : PySem.W.Frag} {H : Hp} {Z : Zs} {xs : List V} {m : M} (h : Ros K H Z xs [m]) : ∃ x, xs = [x] ∧ Ro K H Z x m := by
 cases h with
 | cons h r => cases r; exact ⟨_, rfl, h⟩
theorem ros2 {K : PySem.W.Frag} {H : Hp} {Z : Zs} {xs : List V} {m m' : M} (h : Ros K H Z xs [m, m']) : ∃ x y, xs = [x, y] ∧ Ro K H Z x m ∧ Ro K H Z y m' := by
 cases h with
 | cons h r => cases r with
  | cons h' r => cases r; exact ⟨_, _, rfl, h, h'⟩
theorem zdL (hc : X.calm = true) : za3 X (.builtin "sorted") (rLM X.K ze7) := by
 intro pins s σ H xs us Q I rs h
 obtain ⟨Z, ms, m, za, hr, e, q⟩ := h
 have hInt : ∀ {ns ns' : List Int} {l : Addr}, (∀ z H' Z' G, Ow X.K H' Z' z (.lst ((zdK ns).map .int)) G → Fut H Z [] H' Z' G → Q z H') → ns'.Perm ns → ns'.Pairwise (· ≤ ·) → H l = none → Q (.ref l) (upd H l (.lst (ns'.map V.int))) := fun {ns ns' l} q p w hl => by
  rw [zgU p w]
  exact zjC q za hl (Fzs.ints _)
 unfold ze7 at e
 split at e
 ·obtain ⟨ns, e1, e⟩ := oB e
  split at e
  ·next h64 =>
   cases e
   obtain ⟨x, rfl, h1⟩ := zd2 hr
   obtain ⟨a, kxs, rfl, he, fk⟩ := h1.dic
   exact zb6 hc pins s σ H _ us Q I rs ⟨a, kxs, ns, rfl, he, by rw [fk.keys, zev e1], h64, fun ns' l p w hl => hInt q p w hl⟩
  ·cases e
 ·obtain ⟨ns, e1, e⟩ := oB e
  split at e
  ·next h64 =>
   cases e
   obtain ⟨x, rfl, h1⟩ := zd2 hr
   obtain ⟨a, kxs, G, rfl, he, fk⟩ := h1.dls
   exact zb6 hc pins s σ H _ us Q I rs ⟨a, kxs, ns, rfl, he, by rw [fk.keys, zev e1], h64, fun ns' l p w hl => hInt q p w hl⟩
  ·cases e
 ·obtain ⟨ns, e1, e⟩ := oB e
  split at e
  ·next h64 =>
   cases e
   obtain ⟨x, rfl, h1⟩ := zd2 hr
   obtain ⟨a, xs, rfl, hx, fx⟩ := h1.tup
   rw [zbx e1] at fx
   rw [fx.zbw] at hx
   exact zdm pins s σ H _ us Q I rs ⟨a, ns, rfl, hx, h64, fun ns' l p w hl => hInt q p w hl⟩
  ·cases e
 ·next m0 _ _ _ =>
  obtain ⟨ds, e1, e⟩ := oB e
  obtain ⟨es, e2, e⟩ := oB e
  cases e
  obtain ⟨x, rfl, h1⟩ := zd2 hr
  obtain ⟨a, xs, rfl, hx, fx⟩ := h1.zgR e1
  unfold ze6 at e2
  split at e2
  ·next h64 =>
   split at e2
   ·next ns e3 =>
    cases e2
    rw [zbx e3] at fx h64
    rw [fx.zbw] at hx
    exact zdj pins s σ H _ us Q I rs ⟨a, ns, rfl, hx, by simpa using h64, fun ns' l p w hl => hInt q p w hl⟩
   ·obtain ⟨ks, e3, e2⟩ := oB e2
    split at e2
    ·next hne =>
     cases e2
     rw [zds e3] at fx
     have hl : xs.length = ks.length := by rw [fx.length, List.length_map]
     have ht := fx.tis
     refine zdk pins s σ H _ us Q I rs ⟨a, xs, ks, rfl, hx, ht, fun t h z => ?_, ?_, fun zs l p w hl' => ?_⟩
     ·have := List.all_eq_true.mp hne t h
      rw [z] at this
      cases this
     ·have : ds.length = ks.length := by rw [zds e3, List.length_map]
      omega
     ·have e : zs.map (·.2) = ze5 ks := zeb ((p.map (·.2)).trans (by rw [List.map_snd_zip (by omega)])) w
      have := Fzs.zhQ (Z := Z) ht zs fun z h => p.mem_iff.mp h
      rw [e] at this
      exact zjC q za hl' this
    ·cases e2
  ·cases e2
 ·cases e
def zcU : List M → Option M
 | [.dic kvs] => some (.v (.int kvs.length))
 | [.dls kvs] => some (.v (.int kvs.length))
 | [.v (.str z)] => if z.length ≤ lim then some (.v (.int z.length)) else none
 | [m] => (seq m).bind fun ds => some (.v (.int ds.length))
 | _ => none
theorem Owl.length {K : PySem.W.Frag} {H : Hp} {Z : Zs} : ∀ {xs : List (Key × V)} {ds : List (Key × List PyData)} {G : List Addr}, Owl K H Z xs ds G → xs.length = ds.length
 | _, _, _, .nil => rfl
 | _, _, _, .cons _ _ r => by rw [List.length_cons, List.length_cons, Owl.length r]
theorem zbS : za3 X (.builtin "len") (rLM X.K zcU) := by
 intro pins s σ H xs us Q I rs h
 obtain ⟨Z, ms, m, za, hr, e, q⟩ := h
 unfold zcU at e
 split at e
 ·cases e
  obtain ⟨x, rfl, h1⟩ := zd2 hr
  obtain ⟨a, kxs, rfl, he, fk⟩ := h1.dic
  exact zeW pins s σ H _ us Q I rs ⟨a, kxs, rfl, he, by rw [fk.length]; exact zco q za (.int _)⟩
 ·cases e
  obtain ⟨x, rfl, h1⟩ := zd2 hr
  obtain ⟨a, kxs, G, rfl, he, fk⟩ := h1.dls
  exact zeW pins s σ H _ us Q I rs ⟨a, kxs, rfl, he, by rw [fk.length]; exact zco q za (.int _)⟩
 ·split at e
  ·next hl =>
   cases e
   obtain ⟨x, rfl, h1⟩ := zd2 hr
   obtain rfl := h1.str
   exact zeR pins s σ H _ us Q I rs ⟨_, rfl, zdd hl, zco q za (.int _)⟩
  ·cases e
 ·obtain ⟨ds, e1, e⟩ := oB e
  cases e
  obtain ⟨x, rfl, h1⟩ := zd2 hr
  obtain ⟨a, ys, rfl, hx, fx⟩ := h1.seq e1
  exact zeQ pins s σ H _ us Q I rs ⟨a, ys, rfl, hx, by rw [fx.length]; exact zco q za (.int _)⟩
 ·cases e
def zhR : List M → Option M
 | [m] => (seq m).bind fun ds => some (.v (.tuple ds))
 | _ => none
theorem zdu : za3 X (.type "tuple") (rLM X.K zhR) := by
 intro pins s σ H xs us Q I rs h
 obtain ⟨Z, ms, m, za, hr, e, q⟩ := h
 unfold zhR at e
 split at e
 ·obtain ⟨ds, e1, e⟩ := oB e
  cases e
  obtain ⟨x, rfl, h1⟩ := zd2 hr
  obtain ⟨a, ys, rfl, hx, fx⟩ := h1.seq e1
  refine zel pins s σ H _ us Q I rs ⟨a, ys, rfl, ?_⟩
  rcases hx with hx | hx
  ·exact .inl ⟨hx, fun l hl => endT q za hl fx⟩
  ·exact .inr ⟨hx, zco q za (.tup hx fx)⟩
 ·cases e
def zf6 : List M → Option M
 | [m] => (seq m).bind fun ds => some (.lst ds)
 | _ => none
theorem zhS : za3 X (.type "list") (rLM X.K zf6) := by
 intro pins s σ H xs us Q I rs h
 obtain ⟨Z, ms, m, za, hr, e, q⟩ := h
 unfold zf6 at e
 split at e
 ·obtain ⟨ds, e1, e⟩ := oB e
  cases e
  obtain ⟨x, rfl, h1⟩ := zd2 hr
  obtain ⟨a, ys, rfl, hx, fx⟩ := h1.seq e1
  exact zeS pins s σ H _ us Q I rs ⟨a, ys, rfl, hx, fun l hl => zjC q za hl fx⟩
 ·cases e
def zmB : List M → Option M
 | [.v (.int i)] => some (.v (.int (if i < 0 then -i else i)))
 | _ => none
theorem zjG : za3 X (.builtin "abs") (rLM X.K zmB) := by
 intro pins s σ H xs us Q I rs h
 obtain ⟨Z, ms, m, za, hr, e, q⟩ := h
 unfold zmB at e
 split at e
 ·cases e
  obtain ⟨x, rfl, h1⟩ := zd2 hr
  obtain rfl := h1.int
  exact ziD pins s σ H _ us Q I rs ⟨_, rfl, zco q za (.int _)⟩
 ·cases e
def zd3 : List M → Option M
 | [.v (.int i)] => some (.v (.int i))
 | [.v (.bool k)] => some (.v (.int (if k then 1 else 0)))
 | _ => none
theorem zhT : za3 X (.type "int") (rLM X.K zd3) := by
 intro pins s σ H xs us Q I rs h
 obtain ⟨Z, ms, m, za, hr, e, q⟩ := h
 unfold zd3 at e
 split at e
 ·cases e
  obtain ⟨x, rfl, h1⟩ := zd2 hr
  obtain rfl := h1.int
  exact zeK pins s σ H _ us Q I rs (.inl ⟨_, rfl, zco q za (.int _)⟩)
 ·cases e
  obtain ⟨x, rfl, h1⟩ := zd2 hr
  obtain rfl := h1.bl
  exact zeK pins s σ H _ us Q I rs (.inr ⟨_, rfl, zco q za (.int _)⟩)
 ·cases e
def zlb : List Int → Option Int
 | [] => none
 | n :: ns => match zlb ns with
  | none => some n
  | some k => some (if k < n then k else n)
theorem ze8 : ∀ {ns : List Int} {k : Int}, zlb ns = some k → k ∈ ns ∧ ∀ a ∈ ns, k ≤ a
 | [], _, e => by cases e
 | n :: ns, k, e => by
  unfold zlb at e
  cases h : zlb ns with
  | none =>
   rw [h] at e; cases e
   cases ns with
   | nil => exact ⟨lS, fun a ha => by rw [List.mem_singleton.mp ha]; exact Int.le_refl _⟩
   | cons y ys => unfold zlb at h; split at h <;> cases h
  | some j =>
   rw [h] at e
   have e : (if j < n then j else n) = k := Option.some.inj e
   obtain ⟨h1, h2⟩ := ze8 h
   by_cases c : j < n
   ·rw [if_pos c] at e; subst e
    exact ⟨lO _ h1, fun a ha => by
     rcases lK ha with ha | ha
     ·subst ha; omega
     ·exact h2 a ha⟩
   ·rw [if_neg c] at e; subst e
    exact ⟨lS, fun a ha => by
     rcases lK ha with ha | ha
     ·subst ha; omega
     ·have := h2 a ha; omega⟩
def minM : List M → Option M
 | [.v (.int i), .v (.int j)] => some (.v (.int (if j < i then j else i)))
 | [m] => (zgR m).bind fun ds => (ze3 ds).bind fun ns => (zlb ns).bind fun k => some (.v (.int k))
 | _ => none
theorem zmC (hc : X.calm = true) : za3 X (.builtin "min") (rLM X.K minM) := by
 intro pins s σ H xs us Q I rs h
 obtain ⟨Z, ms, m, za, hr, e, q⟩ := h
 unfold minM at e
 split at e
 ·cases e
  obtain ⟨x, y, rfl, h1, h2⟩ := ros2 hr
  obtain rfl := h1.int; obtain rfl := h2.int
  exact zhm hc pins s σ H _ us Q I rs ⟨_, _, rfl, zco q za (.int _)⟩
 ·obtain ⟨ds, e1, e⟩ := oB e
  obtain ⟨ns, e2, e⟩ := oB e
  obtain ⟨k, e3, e⟩ := oB e
  cases e
  obtain ⟨x, rfl, h1⟩ := zd2 hr
  obtain ⟨a, ys, rfl, hx, fx⟩ := h1.zgR e1
  rw [zbx e2] at fx
  rw [fx.zbw] at hx
  obtain ⟨k1, k2⟩ := ze8 e3
  refine zer hc pins s σ H _ us Q I rs ⟨a, ns, rfl, hx, fun z => by rw [z] at k1; simp at k1, fun M h1 h2 => ?_⟩
  have : M = k := Int.le_antisymm (h2 k k1) (k2 M h1)
  subst this
  exact zco q za (.int _)
 ·cases e
def asB : PyData → Option Bool
 | .bool b => some b
 | _ => none
def zir : List PyData → Option (List Bool)
 | [] => some []
 | d :: ds => (asB d).bind fun i => (zir ds).bind fun is => some (i :: is)
theorem zgk : ∀ {ds : List PyData} {is : List Bool}, zir ds = some is → ds = is.map .bool
 | [], _, e => by cases e; rfl
 | d :: ds, _, e => by
  obtain ⟨i, e1, e⟩ := oB e
  obtain ⟨is, e2, e⟩ := oB e
  cases e
  rw [zgk e2]
  cases d <;> cases e1
  rfl
theorem zbu : ∀ (is : List Bool), zir (is.map .bool) = some is
 | [] => rfl
 | i :: is => by show (some i).bind _ = _; rw [Option.bind_some, zbu is]; rfl
theorem Fzs.ze9 {K : PySem.W.Frag} {H : Hp} {Z : Zs} : ∀ {ns : List Bool} {xs : List V}, Fzs K H Z xs (ns.map .bool) → xs = bls ns
 | [], _, .nil => rfl
 | n :: ns, _, .cons (.bl _) r => by rw [Fzs.ze9 r]; rfl
def allM (any : Bool) : List M → Option M
 | [m] => (zgR m).bind fun ds => (zir ds).bind fun bs => some (.v (.bool (if any then bs.any id else bs.all id)))
 | _ => none
theorem zfa (hc : X.calm = true) : za3 X (.builtin "all") (rLM X.K (allM false)) := by
 intro pins s σ H xs us Q I rs h
 obtain ⟨Z, ms, m, za, hr, e, q⟩ := h
 unfold allM at e
 split at e
 ·obtain ⟨ds, e1, e⟩ := oB e
  obtain ⟨bs, e2, e⟩ := oB e
  cases e
  obtain ⟨x, rfl, h1⟩ := zd2 hr
  obtain ⟨a, ys, rfl, hx, fx⟩ := h1.zgR e1
  rw [zgk e2] at fx
  rw [fx.ze9] at hx
  exact zdV hc pins s σ H _ us Q I rs ⟨a, bs, rfl, hx, zco q za (.bl _)⟩
 ·cases e
theorem ve_cb {id : String} {x : Str} {p : Pos} {e : Expr} {es : List Expr} {g : List M → Option M} {fa : FA} (hc : za3 X (.builtin id) (rLM X.K g)) (hg : Gl X x) (hm : X.mg x = none) (hv : bootBuiltins x = some (.builtin id)) (ha : VA X (e :: es) fa) (hn : x ≠ "__name__" := by decide) (hdb : (x == ("__debug__" : Str)) = false := by decide)
  (he : starEach (e :: es) X.env = (false, eval e X.env) :: starEach es X.env := by rfl) (hpl : (backTo pos (starEach es X.env)).any (·.1) = false := by rfl) : VE X (.Call (.Name x p) (e :: es) [] pos) (vCB g fa) := zbk (zf4 hc hg hm hv ha hn hdb he hpl) fun _ _ _ => many zms
theorem ve_ct {T : String} {x : Str} {p : Pos} {e : Expr} {es : List Expr} {g : List M → Option M} {fa : FA} (hc : za3 X (.type T) (rLM X.K g)) (hg : Gl X x) (hm : X.mg x = none) (hv : bootBuiltins x = some (.type T)) (ha : VA X (e :: es) fa) (hn : x ≠ "__name__" := by decide) (hdb : (x == ("__debug__" : Str)) = false := by decide)
  (he : starEach (e :: es) X.env = (false, eval e X.env) :: starEach es X.env := by rfl) (hpl : (backTo pos (starEach es X.env)).any (·.1) = false := by rfl) : VE X (.Call (.Name x p) (e :: es) [] pos) (vCB g fa) := zbk (zhp hc hg hm hv ha hn hdb he hpl) fun _ _ _ => many zms
def clsD : PyData → String
 | .none => "NoneType"
 | .bool _ => "bool"
 | .int _ => "int"
 | .str _ => "str"
 | .tuple _ => "tuple"
 | .list _ => "list"
 | .dict _ => "dict"
def zhU : M → String
 | .v d => clsD d
 | .lst _ => "list"
 | .dic _ => "dict"
 | .dls _ => "dict"
theorem Ro.cls {K : PySem.W.Frag} {H : Hp} {Z : Zs} {x : V} {m : M} (h : Ro K H Z x m) : zdl K H x (zhU m) := by
 obtain ⟨G, h⟩ := h
 cases h with
 | v f =>
  cases f with
  | non => exact .non
  | bl b => exact .bl b
  | int i => exact .int i
  | str x => exact .str x
  | tup q _ => exact .tup q
  | lst q _ _ => exact .lst (.inl q)
  | lsK q _ => exact .lst (.inr q)
  | dic q _ _ => exact .dK q
 | lst e _ => exact .lst (SqL.of e)
 | dic e _ => exact .dK e
 | dls e _ => exact .dK e
def zdv (c : String) (m : M) : Option M := some (.v (.bool (subB (zhU m) c)))
theorem zmD {p p2 : Pos} {e : Expr} {c : String} {y : Str} {fa : FE} (hc : c ∈ zbD) (hn : c ≠ "NoneType") (hg : Gl X "isinstance") (hm : X.mg "isinstance" = none) (hv : bootBuiltins "isinstance" = some (.builtin "isinstance")) (ha : VE X e fa) (hy : PE X (.Name y p2) (tC (.ty c)))
  (he : starEach [e, .Name y p2] X.env = [(false, eval e X.env), (false, eval (.Name y p2) X.env)] := by rfl) (he2 : starEach [.Name y p2] X.env = [(false, eval (.Name y p2) X.env)] := by rfl) (hpl : (backTo pos (starEach [.Name y p2] X.env)).any (·.1) = false := by rfl) : VE X (.Call (.Name "isinstance" p) [e, .Name y p2] [] pos) (vU (zdv c) fa) :=
 zbk (zf4 zfH hg hm hv (zdA ha (zdA hy zf2 he2) he) (by decide) (by decide) he hpl) fun σ H Q hq => one (r := fun x H1 Q => ∃ x' t c', [x, V.ty c] = [x', .ty c'] ∧ zdl X.K H1 x' t ∧ c' ∈ zbD ∧ c' ≠ "NoneType" ∧ Q (.bl (subB t c')) H1) (fun H Z x m1 m Q za h1 e q => by
  cases e
  exact ⟨x, zhU m1, c, rfl, h1.cls, hc, hn, zco q za (.bl _)⟩) hq
end
end VL
end
section
namespace VL
open PySem PySem.Spec L2 PyProof.Rows
inductive Ows (K : PySem.W.Frag) (H : Hp) (Z : Zs) : List V → List M → List Addr → Prop
 | nil : Ows K H Z [] [] []
 | cons {x : V} {m : M} {G : List Addr} {xs : List V} {ms : List M} {G' : List Addr} : Ow K H Z x m G → Ows K H Z xs ms G' → Ows K H Z (x :: xs) (m :: ms) (G ++ G')
def zb2 : List Opd → Ev → Option (List M × Ev)
 | [], ρ => some ([], ρ)
 | .t m :: os, ρ => (zb2 os ρ).bind fun q => some (m :: q.1, q.2)
 | .p i :: os, ρ => (at? ρ i).bind fun m => (zb2 os (ρ.set i none)).bind fun q => some (m :: q.1, q.2)
 | .q _ _ :: _, _ => none
def zgV : List Opd → List M → Ev → Ev
 | .p i :: os, m :: ms, ρ => zgV os ms (ρ.set i (some m))
 | _ :: os, _ :: ms, ρ => zgV os ms ρ
 | _, _, ρ => ρ
def Hol (ρ : Ev) : List Opd → Prop
 | [] => True
 | .p i :: os => ρ[i]? = some none ∧ .p i ∉ os ∧ Hol ρ os
 | _ :: os => Hol ρ os
section
variable {K : PySem.W.Frag} {H H' : Hp} {Z Z' : Zs} {σ : L2.St}
theorem Ows.length : ∀ {xs : List V} {ms : List M} {G : List Addr}, Ows K H Z xs ms G → xs.length = ms.length
 | _, _, _, .nil => rfl
 | _, _, _, .cons _ r => by rw [List.length_cons, List.length_cons, Ows.length r]
theorem zhV {ρ : Ev} {i j : Nat} {m : M} (h : at? (ρ.set j none) i = some m) : i ≠ j ∧ at? ρ i = some m := by
 have h := zas.mp h
 rw [List.getElem?_set] at h
 split at h
 ·next e => split at h <;> cases h
 ·next e => exact ⟨fun z => e z.symm, zas.mpr h⟩
theorem zew : ∀ {os : List Opd} {ρ : Ev} {r : List M × Ev} {i : Nat}, zb2 os ρ = some r → .p i ∈ os → ∃ m, at? ρ i = some m
 | .t m :: os, ρ, r, i, e, h => by
  obtain ⟨q, e1, _⟩ := oB e
  exact zew e1 (by simpa using h)
 | .p j :: os, ρ, r, i, e, h => by
  obtain ⟨m, e1, e⟩ := oB e
  obtain ⟨q, e2, _⟩ := oB e
  rcases lK h with h | h
  ·cases h; exact ⟨m, e1⟩
  ·obtain ⟨m', h'⟩ := zew e2 h
   exact ⟨m', (zhV h').2⟩
 | .q _ _ :: _, _, _, _, e, _ => by cases e
 | [], _, _, _, _, h => by simp at h
theorem zc5 : ∀ {os : List Opd} {ρ : Ev} {ms : List M} {ρ' : Ev} {i : Nat}, zb2 os ρ = some (ms, ρ') → ρ[i]? = some none → ρ'[i]? = some none
 | [], _, _, _, _, e, h => by cases e; exact h
 | .t m :: os, ρ, _, _, i, e, h => by
  obtain ⟨⟨ms, ρ1⟩, e1, e⟩ := oB e
  cases e
  exact zc5 e1 h
 | .p j :: os, ρ, _, _, i, e, h => by
  obtain ⟨m, e1, e⟩ := oB e
  obtain ⟨⟨ms, ρ1⟩, e2, e⟩ := oB e
  cases e
  refine zc5 e2 ?_
  rw [List.getElem?_set]
  split
  ·next z => subst z; rw [if_pos (List.getElem?_eq_some_iff.mp h).1]
  ·exact h
 | .q _ _ :: _, _, _, _, _, e, _ => by cases e
theorem zce : ∀ {os : List Opd} {ρ : Ev} {ms : List M} {ρ' : Ev}, zb2 os ρ = some (ms, ρ') → Hol ρ' os
 | [], _, _, _, _ => True.intro
 | .t m :: os, ρ, _, _, e => by
  obtain ⟨⟨ms, ρ1⟩, e1, e⟩ := oB e
  cases e
  exact show Hol ρ1 os from zce e1
 | .p j :: os, ρ, _, _, e => by
  obtain ⟨m, e1, e⟩ := oB e
  obtain ⟨⟨ms, ρ1⟩, e2, e⟩ := oB e
  cases e
  have hl := (List.getElem?_eq_some_iff.mp (zas.mp e1)).1
  refine ⟨zc5 e2 (by rw [List.getElem?_set_self hl]), fun h => ?_, zce e2⟩
  obtain ⟨m', h'⟩ := zew e2 h
  exact (zhV h').1 rfl
 | .q _ _ :: _, _, _, _, e => by cases e
theorem za5 {A B : List Addr} (h : (A ++ B).Nodup) : A.Nodup ∧ B.Nodup ∧ ∀ a ∈ A, a ∉ B := by
 have h' := List.nodup_append.mp h
 exact ⟨h'.1, h'.2.1, fun a x y => h'.2.2 a x a y rfl⟩
theorem zcV : ∀ {os : List Opd} {xs : List V} {ρ : Ev} {F G : List Addr} {ms : List M} {ρ' : Ev}, Owo K H Z σ ρ F → zfq K H Z σ xs os G → (F ++ G).Nodup → zb2 os ρ = some (ms, ρ') →
  ∃ A F', Ows K H Z xs ms A ∧ Owo K H Z σ ρ' F' ∧ (F' ++ A).Nodup ∧ ∀ a ∈ F' ++ A, a ∈ F ++ G
 | [], _, _, F, _, _, _, S, .nil, nd, e => by cases e; exact ⟨[], F, .nil, S, nd, fun _ h => h⟩
 | .t m :: os, _, ρ, F, _, _, _, S, .cons (G := G1) (G' := G2) (.t q) r, nd, e => by
  obtain ⟨⟨ms, ρ1⟩, e1, e⟩ := oB e
  cases e
  obtain ⟨n1, n2, n3⟩ := za5 nd
  obtain ⟨n4, n5, n6⟩ := za5 n2
  obtain ⟨A, F', h1, h2, h3, h4⟩ := zcV S r (zaw n1 n5 fun a h z => n3 a h (lR _ z)) e1
  obtain ⟨k1, k2, k3⟩ := za5 h3
  have far : ∀ a ∈ G1, a ∉ F ++ G2 := fun a h z => by
   rcases lM z with z | z
   ·exact n3 a z (lL _ h)
   ·exact n6 a h z
  refine ⟨G1 ++ A, F', .cons q h1, h2, zaw k1 (zaw n4 k2 fun a h z => far a h (h4 a (lR _ z))) fun a h z => ?_, fun a h => ?_⟩
  ·rcases lM z with z | z
   ·exact far a z (h4 a (lL _ h))
   ·exact k3 a h z
  ·rcases lM h with h | h
   ·rcases lM (h4 a (lL _ h)) with z | z
    ·exact lL _ z
    ·exact lR _ (lR _ z)
   rcases lM h with h | h
   ·exact lR _ (lL _ h)
   ·rcases lM (h4 a (lR _ h)) with z | z
    ·exact lL _ z
    ·exact lR _ (lR _ z)
 | .p i :: os, _, ρ, F, _, _, _, S, .cons (G' := G2) (.p q) r, nd, e => by
  obtain ⟨m, e1, e⟩ := oB e
  obtain ⟨⟨ms, ρ1⟩, e2, e⟩ := oB e
  cases e
  rw [List.nil_append] at nd ⊢
  obtain ⟨n1, n2, n3⟩ := za5 nd
  obtain ⟨x', G', F1, t1, t2, t3, t4, t5⟩ := S.take n1 (zas.mp e1)
  rw [q] at t1; cases t1
  obtain ⟨u1, u2, u3⟩ := za5 t4
  obtain ⟨A, F', h1, h2, h3, h4⟩ := zcV t3 r (zaw u1 n2 fun a h z => n3 a (t5 a (lL _ h)) z) e2
  obtain ⟨k1, k2, k3⟩ := za5 h3
  have far : ∀ a ∈ G', a ∉ F1 ++ G2 := fun a h z => by
   rcases lM z with z | z
   ·exact u3 a z h
   ·exact n3 a (t5 a (lR _ h)) z
  have wid : ∀ a ∈ F1 ++ G2, a ∈ F ++ G2 := fun a z => by
   rcases lM z with z | z
   ·exact lL _ (t5 a (lL _ z))
   ·exact lR _ z
  refine ⟨G' ++ A, F', .cons t2 h1, h2, zaw k1 (zaw u2 k2 fun a h z => far a h (h4 a (lR _ z))) fun a h z => ?_, fun a h => ?_⟩
  ·rcases lM z with z | z
   ·exact far a z (h4 a (lL _ h))
   ·exact k3 a h z
  ·rcases lM h with h | h
   ·exact wid a (h4 a (lL _ h))
   rcases lM h with h | h
   ·exact lL _ (t5 a (lR _ h))
   ·exact wid a (h4 a (lR _ h))
 | .q _ _ :: _, _, _, _, _, _, _, _, _, _, e => by cases e
theorem zfb {σ : L2.St} {i : Nat} {x : V} (q : σ[i]? = some (some x)) : σ.set i (some x) = σ := by
  refine List.ext_getElem? fun j => ?_
  rw [List.getElem?_set]
  split
  · next hj => subst hj; split
               · exact q.symm
               · next hh => exact absurd (List.getElem?_eq_some_iff.mp q).1 hh
  · rfl
theorem Hol.set {ρ : Ev} {i : Nat} {m : M} : ∀ {os : List Opd}, Hol ρ os → .p i ∉ os → Hol (ρ.set i (some m)) os
 | [], _, _ => True.intro
 | .t _ :: os, h, n => Hol.set (os := os) h fun z => n (lO _ z)
 | .q _ _ :: os, h, n => Hol.set (os := os) h fun z => n (lO _ z)
 | .p j :: os, h, n => by
  obtain ⟨h1, h2, h3⟩ := h
  refine ⟨?_, h2, Hol.set h3 fun z => n (lO _ z)⟩
  rw [List.getElem?_set, if_neg fun z => n (by rw [z]; exact lS)]
  exact h1
theorem zc6 {H0 : Hp} {Z0 : Zs} : ∀ {os : List Opd} {xs : List V} {ρ : Ev} {F G0 A : List Addr} {ms : List M}, Owo K H Z σ ρ F → zfq K H0 Z0 σ xs os G0 → Ows K H Z xs ms A → (F ++ A).Nodup → Hol ρ os →
  ∃ F', Owo K H Z σ (zgV os ms ρ) F' ∧ F'.Nodup ∧ ∀ a ∈ F', a ∈ F ++ A
 | [], _, _, F, _, _, _, S, .nil, .nil, nd, _ => ⟨F, S, (za5 nd).1, fun a h => lL _ h⟩
 | .t m :: os, _, ρ, F, _, _, _, S, .cons (.t q) r, .cons (G := G) (G' := G') h hs, nd, hol => by
  obtain ⟨n1, n2, n3⟩ := za5 nd
  obtain ⟨F', h1, h2, h3⟩ := zc6 S r hs (zaw n1 (za5 n2).2.1 fun a h z => n3 a h (lR _ z)) hol
  refine ⟨F', h1, h2, fun a h => ?_⟩
  rcases lM (h3 a h) with z | z
  ·exact lL _ z
  ·exact lR _ (lR _ z)
 | .q _ _ :: os, _, ρ, F, _, _, _, S, .cons (.q _ _ _) r, .cons (G := G) (G' := G') h hs, nd, hol => by
  obtain ⟨n1, n2, n3⟩ := za5 nd
  obtain ⟨F', h1, h2, h3⟩ := zc6 S r hs (zaw n1 (za5 n2).2.1 fun a h z => n3 a h (lR _ z)) hol
  refine ⟨F', h1, h2, fun a h => ?_⟩
  rcases lM (h3 a h) with z | z
  ·exact lL _ z
  ·exact lR _ (lR _ z)
 | .p i :: os, _, ρ, F, _, _, _, S, .cons (.p q) r, .cons (G := G) (G' := G') h hs, nd, hol => by
  obtain ⟨l1, l2, l3⟩ := hol
  obtain ⟨n1, n2, n3⟩ := za5 nd
  obtain ⟨n4, n5, n6⟩ := za5 n2
  obtain ⟨F1, p1, p2, p3⟩ := S.put h (zaw n1 n4 fun a h z => n3 a h (lL _ z)) l1
  rw [zfb q] at p1
  obtain ⟨F', h1, h2, h3⟩ := zc6 p1 r hs (zaw p2 n5 fun a h z => by
   rcases lM (p3 a h) with y | y
   ·exact n3 a y (lR _ z)
   ·exact n6 a y z) (l3.set l2)
  refine ⟨F', h1, h2, fun a h => ?_⟩
  rcases lM (h3 a h) with z | z
  ·rcases lM (p3 a z) with z | z
   ·exact lL _ z
   ·exact lR _ (lL _ z)
  ·exact lR _ (lR _ z)
end
abbrev FF := List M → Option (M × List M)
def spV (K : PySem.W.Frag) (g : FF) : Sp := fun vs H Q _ => ∃ Z ms A m ms', Ows K H Z vs ms A ∧ Wf H Z A ∧ g ms = some (m, ms') ∧ ∀ x H' Z' A' G, Ows K H' Z' vs ms' A' → Ow K H' Z' x m G → Fut H Z A H' Z' (A' ++ G) → Q x H'
def vFn (g : FF) (fa : FA) : FE := fun ρ => (fa ρ).bind fun p => (zb2 p.1 p.2).bind fun q => (g q.1).bind fun r => some (.t r.1, zgV p.1 r.2 q.2)
section
variable {X : Cx} {pos : Pos}
theorem called {g : FF} {fa : FA} {σ : L2.St} {H : Hp} {Q : VK} {E : XK} (hq : vE X.K (vFn g fa) σ H Q) : zj7 (spV X.K g) [] E (vA X.K fa) σ H Q := by
 obtain ⟨Z, ρ, F, o, ρ', S, w, e, q⟩ := hq
 obtain ⟨⟨os, ρ1⟩, e1, e⟩ := oB e
 obtain ⟨⟨ms, ρ2⟩, e2, e⟩ := oB e
 obtain ⟨⟨m, ms'⟩, e3, e⟩ := oB e
 cases e
 refine ⟨Z, ρ, F, os, ρ1, S, w, e1, fun xs H1 Z1 F1 G1 S1 O1 f1 => ?_⟩
 show spV X.K g (xs ++ []) H1 Q E
 rw [List.append_nil]
 obtain ⟨A, Fh, h1, h2, h3, h4⟩ := zcV S1 O1 f1.nd e2
 obtain ⟨n1, n2, n3⟩ := za5 h3
 refine ⟨Z1, ms, A, m, ms', h1, ⟨n2, fun a h => f1.dz a (h4 a (lR _ h)), f1.za⟩, e3, fun x H2 Z2 A' G k1 k2 f2 => ?_⟩
 have wA : Wf H1 Z1 A := ⟨n2, fun a h => f1.dz a (h4 a (lR _ h)), f1.za⟩
 have n3' : ∀ a ∈ A, a ∉ Fh := fun a h z => n3 a z h
 have S2 : Owo X.K H2 Z2 σ ρ2 Fh := h2.mono (f2.grow wA) fun a h o e => f2.keep a o (n3 a h) e
 have f3 := f2.frame (G := Fh) ⟨zaw n2 n1 n3', fun a h => by
  rcases lM h with h | h
  ·exact f1.dz a (h4 a (lR _ h))
  ·exact f1.dz a (h4 a (lL _ h)), f1.za⟩ h2.al
 obtain ⟨m1, m2, m3, m4, m5, m6⟩ := nd3 f3.nd
 obtain ⟨F', p1, p2, p3⟩ := zc6 S2 O1 k1 (zaw m3 m1 fun a h z => m5 a z h) (zce e2)
 have f4 : Fut H Z F H1 Z1 (A ++ Fh) := f1.sub (zaw n2 n1 n3') fun a h => h4 a (by
  rcases lM h with h | h
  ·exact lR _ h
  ·exact lL _ h)
 refine q x H2 Z2 F' G p1 (.t k2) ((f4.trans f3).sub (zaw p2 m2 fun a h z => ?_) fun a h => ?_)
 ·rcases lM (p3 a h) with y | y
  ·exact m6 a z y
  ·exact m4 a y z
 ·rcases lM h with h | h
  ·rcases lM (p3 a h) with y | y
   ·exact lR _ y
   ·exact lL _ (lL _ y)
  ·exact lL _ (lR _ h)
theorem ve_fn {x : Str} {ps : List Str} {k k' : Nat} {g : FF} {e : Expr} {es : List Expr} {fa : FA} {p : Pos} (C : zaJ X.prog X.w X.K X.mg X.base x ps k (spV X.K g)) (hr : zdR k' X.A) (hg : Gl X x) (ha : VA X (e :: es) fa) (hk : k ≤ k' := by first | decide | exact Nat.le_refl _ | omega) (hdb : (x == ("__debug__" : Str)) = false := by decide)
  (he : starEach (e :: es) X.env = (false, eval e X.env) :: starEach es X.env := by rfl) (hpl : (backTo pos (starEach es X.env)).any (·.1) = false := by rfl) : VE X (.Call (.Name x p) (e :: es) [] pos) (vFn g fa) := zbk (pe_fn C hr hg ha hk hdb he hpl) fun _ _ _ hq => called hq
end
end VL
end
section
namespace VL
open PySem PySem.Spec L2 PyProof.Rows
inductive Out where
 | nx (ρ : Ev)
 | bk (ρ : Ev)
 | ct (ρ : Ev)
 | rt (m : M) (ρ : Ev)
abbrev FS := Ev → Option Out
abbrev Pv := Nat → Option V
def Pin (pv : Pv) (σ : L2.St) : Prop := ∀ i x, pv i = some x → σ[i]? = some (some x)
def zjH (K : PySem.W.Frag) (pv : Pv) (D : Ends) (H : Hp) (Z : Zs) (F : List Addr) : Out → Prop
 | .nx ρ' => ∀ σ' H' Z' F', Owo K H' Z' σ' ρ' F' → Fut H Z F H' Z' F' → Pin pv σ' → D.nx σ' H'
 | .bk ρ' => ∀ σ' H' Z' F', Owo K H' Z' σ' ρ' F' → Fut H Z F H' Z' F' → Pin pv σ' → D.bk σ' H'
 | .ct ρ' => ∀ σ' H' Z' F', Owo K H' Z' σ' ρ' F' → Fut H Z F H' Z' F' → Pin pv σ' → D.ct σ' H'
 | .rt m ρ' => ∀ x σ' H' Z' F' G, Owo K H' Z' σ' ρ' F' → Ow K H' Z' x m G → Fut H Z F H' Z' (F' ++ G) → Pin pv σ' → D.rt x H'
def vS (K : PySem.W.Frag) (pv : Pv) (f : FS) : TS := fun D σ H => ∃ Z ρ F out, Owo K H Z σ ρ F ∧ Wf H Z F ∧ Pin pv σ ∧ f ρ = some out ∧ zjH K pv D H Z F out
theorem zjH.trans {K : PySem.W.Frag} {pv : Pv} {D : Ends} {H H' : Hp} {Z Z' : Zs} {F F' : List Addr} {o : Out} (h : zjH K pv D H Z F o) (f : Fut H Z F H' Z' F') : zjH K pv D H' Z' F' o := by
 cases o with
 | nx ρ => exact fun σ1 H1 Z1 F1 s1 f1 p1 => h σ1 H1 Z1 F1 s1 (f.trans f1) p1
 | bk ρ => exact fun σ1 H1 Z1 F1 s1 f1 p1 => h σ1 H1 Z1 F1 s1 (f.trans f1) p1
 | ct ρ => exact fun σ1 H1 Z1 F1 s1 f1 p1 => h σ1 H1 Z1 F1 s1 (f.trans f1) p1
 | rt m ρ => exact fun x σ1 H1 Z1 F1 G s1 o1 f1 p1 => h x σ1 H1 Z1 F1 G s1 o1 (f.trans f1) p1
abbrev Sup (pv : Pv) (pin : List Nat) : Prop := ∀ j x, pv j = some x → j ∈ pin
def VS (X : Cx) (pin : List Nat) (st : Stmt) (f : FS) : Prop := ∀ pv, Sup pv pin → PS X st (vS X.K pv f)
def VSs (X : Cx) (pin : List Nat) (st : List Stmt) (f : FS) : Prop := ∀ pv, Sup pv pin → PSs X st (vS X.K pv f)
section
variable {X : Cx} {pos : Pos} {pin : List Nat}
theorem zde {st : Stmt} {t t' : TS} (h : PS X st t) (i : ∀ D σ H, t' D σ H → t D σ H) : PS X st t' := fun pins s σ H D I q => h pins s σ H D I (i D σ H q)
theorem zhW {st : List Stmt} {t t' : TS} (h : PSs X st t) (i : ∀ D σ H, t' D σ H → t D σ H) : PSs X st t' := fun pins s σ H D I q => h pins s σ H D I (i D σ H q)
def za9 : FS := fun ρ => some (.nx ρ)
def zbg (f g : FS) : FS := fun ρ => (f ρ).bind fun o => match o with
 | .nx ρ1 => g ρ1
 | o => some o
theorem zi1 {pv : Pv} {D : Ends} {σ : L2.St} {H : Hp} (hq : vS X.K pv za9 D σ H) : zlu D σ H := by
 obtain ⟨Z, ρ, F, o, S, w, P, e, q⟩ := hq
 cases e
 exact q σ H Z F S (Fut.refl w) P
theorem zkF : VSs X pin [] za9 := fun pv hp => zhW zjY fun _ _ _ hq => zi1 (X := X) hq
theorem zkG {pv : Pv} {f g : FS} {D : Ends} {σ : L2.St} {H : Hp} (hq : vS X.K pv (zbg f g) D σ H) : tSeq (vS X.K pv f) (vS X.K pv g) D σ H := by
 obtain ⟨Z, ρ, F, o, S, w, P, e, q⟩ := hq
 obtain ⟨o1, e1, e⟩ := oB e
 refine ⟨Z, ρ, F, o1, S, w, P, e1, ?_⟩
 cases o1 with
 | nx ρ1 => exact fun σ1 H1 Z1 F1 S1 f1 P1 => ⟨Z1, ρ1, F1, o, S1, f1.wf, P1, e, q.trans f1⟩
 | bk ρ1 => cases e; exact q
 | ct ρ1 => cases e; exact q
 | rt m ρ1 => cases e; exact q
theorem zi2 {st : Stmt} {rest : List Stmt} {f g : FS} (h1 : VS X pin st f) (h2 : VSs X pin rest g) : VSs X pin (st :: rest) (zbg f g) := fun pv hp => zhW (zix (h1 pv hp) (h2 pv hp)) fun _ _ _ hq => zkG hq
theorem zkH {st : Stmt} {f : FS} (h1 : VS X pin st f) : VSs X pin [st] f := fun pv hp => zjZ (h1 pv hp)
def zcu (c : FT) (f g : FS) : FS := fun ρ => (c ρ).bind fun p => if p.1 = true then f p.2 else g p.2
theorem vs_if {c : Expr} {a b : List Stmt} {fc : FT} {f g : FS} (hc : VT X c fc) (ha : VSs X pin a f) (hb : VSs X pin b g) : VS X pin (.If c a b pos) (zcu fc f g) := fun pv hp => zde (ps_if hc (ha pv hp) (hb pv hp)) fun D σ H hq => by
 obtain ⟨Z, ρ, F, o, S, w, P, e, q⟩ := hq
 obtain ⟨⟨b1, ρ1⟩, e1, e⟩ := oB e
 refine ⟨Z, ρ, F, b1, ρ1, S, w, e1, fun H1 Z1 F1 S1 f1 => ?_⟩
 cases b1 with
 | true => exact zl3 ⟨Z1, ρ1, F1, o, S1, f1.wf, P, e, q.trans f1⟩
 | false => exact zl2 ⟨Z1, ρ1, F1, o, S1, f1.wf, P, e, q.trans f1⟩
def zex (f : FE) : FS := fun ρ => (f ρ).bind fun p => some (.nx p.2)
theorem zkI {e : Expr} {f : FE} (h : VE X e f) (hs : swapsWith e none pos.line X.env = pure false := by rfl) : VS X pin (.Expr e pos) (zex f) := fun pv hp => zde (zj0 h hs) fun D σ H hq => by
 obtain ⟨Z, ρ, F, o, S, w, P, e, q⟩ := hq
 obtain ⟨⟨o1, ρ1⟩, e1, e⟩ := oB e
 cases e
 exact ⟨Z, ρ, F, o1, ρ1, S, w, e1, fun x H1 Z1 F1 G1 S1 O1 f1 => q σ H1 Z1 F1 S1 f1.left P⟩
def zi3 : Opd → Ev → Option (M × Ev)
 | .t m, ρ => some (m, ρ)
 | .p i, ρ => (at? ρ i).bind fun m => some (m, ρ.set i none)
 | .q i k, ρ => (zdH (.q i k) ρ).bind fun p => some (.v p.1, p.2)
theorem moved {K : PySem.W.Frag} {H H0 : Hp} {Z Z0 : Zs} {F F0 G : List Addr} {σ : L2.St} {ρ ρ' : Ev} {x : V} {o : Opd} {m : M} (S : Owo K H Z σ ρ F) (h : Opv K H Z σ x o G) (f : Fut H0 Z0 F0 H Z (F ++ G)) (e : zi3 o ρ = some (m, ρ')) :
  ∃ Z' F' G', Owo K H Z' σ ρ' F' ∧ Ow K H Z' x m G' ∧ Fut H0 Z0 F0 H Z' (F' ++ G') := by
 cases o with
 | t m1 =>
  cases e
  cases h with
  | t q => exact ⟨Z, F, G, S, q, f⟩
 | p i =>
  obtain ⟨m1, e1, e⟩ := oB e
  cases e
  cases h with
  | p q =>
   rw [List.append_nil] at f
   obtain ⟨x', G', F1, t1, t2, t3, t4, t5⟩ := S.take f.nd (zas.mp e1)
   rw [q] at t1; cases t1
   exact ⟨Z, F1, G', t3, t2, f.sub t4 t5⟩
 | q i k =>
  obtain ⟨⟨d, ρ1⟩, e1, e⟩ := oB e
  cases e
  obtain ⟨Z', F', h1, h2, h3, _⟩ := zdI S h f e1
  exact ⟨Z', F', [], h1, .v h2, h3.nil⟩
def zbJ (f : FE) : FS := fun ρ => (f ρ).bind fun p => (zi3 p.1 p.2).bind fun q => some (.rt q.1 q.2)
theorem zmE {e : Expr} {f : FE} (h : VE X e f) : VS X pin (.Return (some e) pos) (zbJ f) := fun pv hp => zde (zlv h) fun D σ H hq => by
 obtain ⟨Z, ρ, F, o, S, w, P, e, q⟩ := hq
 obtain ⟨⟨o1, ρ1⟩, e1, e⟩ := oB e
 obtain ⟨⟨m, ρ2⟩, e2, e⟩ := oB e
 cases e
 refine ⟨Z, ρ, F, o1, ρ1, S, w, e1, fun x H1 Z1 F1 G1 S1 O1 f1 => ?_⟩
 obtain ⟨Z2, F2, G2, h1, h2, h3⟩ := moved S1 O1 f1 e2
 exact q x σ H1 Z2 F2 G2 h1 h2 h3 P
def zfc (i : Nat) (m : M) (ρ : Ev) : Option Ev := if i < ρ.length then some (ρ.set i (some m)) else none
theorem Pin.set {pv : Pv} {σ : L2.St} {i : Nat} {x : Option V} (P : Pin pv σ) (hp : Sup pv pin) (hi : i ∉ pin) : Pin pv (σ.set i x) := fun j y e => by
 rw [List.getElem?_set, if_neg fun z => hi (by subst z; exact hp _ _ e)]
 exact P j y e
theorem Owo.zfc {K : PySem.W.Frag} {H : Hp} {Z : Zs} {F G : List Addr} {σ : L2.St} {ρ ρ' : Ev} {x : V} {m : M} {i : Nat} (S : Owo K H Z σ ρ F) (h : Ow K H Z x m G) (nd : (F ++ G).Nodup) (e : VL.zfc i m ρ = some ρ') : ∃ F', Owo K H Z (σ.set i (some x)) ρ' F' ∧ F'.Nodup ∧ ∀ a ∈ F', a ∈ F ++ G := by
 unfold VL.zfc at e
 split at e
 ·next hl =>
  cases e
  obtain ⟨n1, n2, n3⟩ := za5 nd
  obtain ⟨F1, h1, h2, h3⟩ := S.drop i n1
  obtain ⟨F2, p1, p2, p3⟩ := h1.put h (zaw h2 n2 fun a z => n3 a (h3 a z)) (by rw [List.getElem?_set_self hl])
  rw [List.set_set] at p1
  refine ⟨F2, p1, p2, fun a z => ?_⟩
  rcases lM (p3 a z) with z | z
  ·exact lL _ (h3 a z)
  ·exact lR _ z
 ·cases e
def zcF (i : Nat) (f : FE) : FS := fun ρ => (f ρ).bind fun p => (zi3 p.1 p.2).bind fun q => (zfc i q.1 q.2).bind fun ρ' => some (.nx ρ')
theorem zmF {i : Nat} {x : Str} {e : Expr} {f : FE} {pos' : Pos} (hp0 : i ∉ pin) (hN : X.N.Nodup) (hi : X.N[i]? = some x) (hx : Loc X.env.scope x) (he : VE X e f) (hs : swapsWith e (some (.Name x pos')) pos.line X.env = pure false := by rfl) (hf : X.fn x = true ∨ X.env.scope.names.lookup x = some .local := by first | exact .inl rfl | exact .inr rfl | assumption) :
  VS X pin (.Assign [.Name x pos'] e pos) (zcF i f) := fun pv hp => zde (zly hN hi hx he hs hf) fun D σ H hq => by
 obtain ⟨Z, ρ, F, o, S, w, P, e, q⟩ := hq
 obtain ⟨⟨o1, ρ1⟩, e1, e⟩ := oB e
 obtain ⟨⟨m, ρ2⟩, e2, e⟩ := oB e
 obtain ⟨ρ3, e3, e⟩ := oB e
 cases e
 refine ⟨Z, ρ, F, o1, ρ1, S, w, e1, fun y H1 Z1 F1 G1 S1 O1 f1 => ?_⟩
 obtain ⟨Z2, F2, G2, h1, h2, h3⟩ := moved S1 O1 f1 e2
 obtain ⟨F3, k1, k2, k3⟩ := h1.zfc h2 h3.nd e3
 exact q _ H1 Z2 F3 k1 (h3.sub k2 k3) (P.set hp hp0)
abbrev FG := PyData → Ev → Option Ev
abbrev FGs := List PyData → Ev → Option Ev
def vG (K : PySem.W.Frag) (pv : Pv) (f : FG) : TG := fun x σ H Q => ∃ Z ρ F d ρ', Owo K H Z σ ρ F ∧ F.Nodup ∧ Pin pv σ ∧ Fz K H Z x d ∧ f d ρ = some ρ' ∧ ∀ σ' F', Owo K H Z σ' ρ' F' → F'.Nodup → (∀ a ∈ F', a ∈ F) → Pin pv σ' → Q σ' H
def vGs (K : PySem.W.Frag) (pv : Pv) (f : FGs) : TGs := fun xs σ H Q => ∃ Z ρ F ds ρ', Owo K H Z σ ρ F ∧ F.Nodup ∧ Pin pv σ ∧ Fzs K H Z xs ds ∧ f ds ρ = some ρ' ∧ ∀ σ' F', Owo K H Z σ' ρ' F' → F'.Nodup → (∀ a ∈ F', a ∈ F) → Pin pv σ' → Q σ' H
def VG (X : Cx) (pin : List Nat) (tg : Expr) (f : FG) : Prop := ∀ pv, Sup pv pin → PG X tg (vG X.K pv f)
def VGs (X : Cx) (pin : List Nat) (tg : List Expr) (f : FGs) : Prop := ∀ pv, Sup pv pin → PGs X tg (vGs X.K pv f)
theorem zjI {tg : Expr} {t t' : TG} (h : PG X tg t) (i : ∀ x σ H Q, t' x σ H Q → t x σ H Q) : PG X tg t' := fun pins s σ H x u Q I r q => h pins s σ H x u Q I r (i x σ H Q q)
theorem zhX {tg : List Expr} {t t' : TGs} (h : PGs X tg t) (i : ∀ x σ H Q, t' x σ H Q → t x σ H Q) : PGs X tg t' := fun pins s σ H x u Q I r q => h pins s σ H x u Q I r (i x σ H Q q)
def zaj (i : Nat) : FG := fun d ρ => zfc i (.v d) ρ
theorem zkJ {i : Nat} {x : Str} (hp0 : i ∉ pin) (hN : X.N.Nodup) (hi : X.N[i]? = some x) (hx : Loc X.env.scope x) (hf : X.fn x = true ∨ X.env.scope.names.lookup x = some .local := by first | exact .inl rfl | exact .inr rfl | assumption) : VG X pin (.Name x pos) (zaj i) := fun pv hp => zjI (zj2 hN hi hx hf) fun x σ H Q hq => by
 obtain ⟨Z, ρ, F, d, ρ', S, w, P, fz, e, q⟩ := hq
 obtain ⟨F3, k1, k2, k3⟩ := S.zfc (.v fz) (by rw [List.append_nil]; exact w) e
 rw [List.append_nil] at k3
 exact q _ F3 k1 k2 k3 (P.set hp hp0)
def zcW : FGs := fun ds ρ => match ds with
 | [] => some ρ
 | _ => none
def za0 (f : FG) (g : FGs) : FGs := fun ds ρ => match ds with
 | d :: ds => (f d ρ).bind fun ρ1 => g ds ρ1
 | [] => none
theorem zkK : VGs X pin [] zcW := fun pv hp => zhX zj3 fun xs σ H Q hq => by
 obtain ⟨Z, ρ, F, ds, ρ', S, w, P, fz, e, q⟩ := hq
 cases fz with
 | nil => cases e; exact ⟨rfl, q σ F S w (fun _ h => h) P⟩
 | cons _ _ => cases e
theorem zi4 {e : Expr} {es : List Expr} {f : FG} {g : FGs} (h1 : VG X pin e f) (h2 : VGs X pin es g) (hs : (assignEach (e :: es) X.env).map (·.2) = assign e X.env :: (assignEach es X.env).map (·.2) := by rfl) : VGs X pin (e :: es) (za0 f g) := fun pv hp => zhX (ziy (h1 pv hp) (h2 pv hp) hs) fun xs σ H Q hq => by
 obtain ⟨Z, ρ, F, ds, ρ', S, w, P, fz, e, q⟩ := hq
 cases fz with
 | nil => cases e
 | cons z1 z2 =>
  obtain ⟨ρ1, e1, e⟩ := oB e
  exact ⟨_, _, rfl, Z, ρ, F, _, ρ1, S, w, P, z1, e1, fun σ1 F1 S1 w1 s1 P1 => ⟨Z, ρ1, F1, _, ρ', S1, w1, P1, z2, e, fun σ2 F2 S2 w2 s2 P2 => q σ2 F2 S2 w2 (fun a h => s1 a (s2 a h)) P2⟩⟩
def zcC (n : Nat) (g : FGs) : FG := fun d ρ => match d with
 | .tuple ds => if ds.length = n then g ds ρ else none
 | _ => none
theorem zmG {es : List Expr} {k n : Nat} {g : FGs} (hc : X.calm = true) (h : VGs X pin es g) (hpg : ∀ t : TGs, PGs X es t → PG X (.Tuple es k pos) (gTup X.K n t)) : VG X pin (.Tuple es k pos) (zcC n g) := fun pv hp => zjI (hpg _ (h pv hp)) fun x σ H Q hq => by
 obtain ⟨Z, ρ, F, d, ρ', S, w, P, fz, e, q⟩ := hq
 unfold zcC at e
 split at e
 ·split at e
  ·next hl =>
   obtain ⟨a, xs, e1, e2, e3⟩ := fz.zcA
   exact ⟨a, xs, e1, e2, by rw [e3.length]; exact hl, Z, ρ, F, _, ρ', S, w, P, e3, e, q⟩
  ·cases e
 ·cases e
def zmH (f : FE) (g : FG) : FS := fun ρ => (f ρ).bind fun p => (zdH p.1 p.2).bind fun q => (g q.1 q.2).bind fun ρ' => some (.nx ρ')
theorem zmI {tg e : Expr} {f : FE} {g : FG} (he : VE X e f) (hg : VG X pin tg g) (hs : swapsWithSole [tg] e pos.line X.env = pure false := by rfl) (hw : swappedStores [tg] e X.env = pure none := by rfl)
  (hps : ∀ (te : TE) (t : TG), PE X e te → PG X tg t → PS X (.Assign [tg] e pos) (ziz te t) := by exact fun _ _ h1 h2 => zeH h1 h2) : VS X pin (.Assign [tg] e pos) (zmH f g) := fun pv hp => zde (hps _ _ he (hg pv hp)) fun D σ H hq => by
 obtain ⟨Z, ρ, F, o, S, w, P, e, q⟩ := hq
 obtain ⟨⟨o1, ρ1⟩, e1, e⟩ := oB e
 obtain ⟨⟨d, ρ2⟩, e2, e⟩ := oB e
 obtain ⟨ρ3, e3, e⟩ := oB e
 cases e
 refine ⟨Z, ρ, F, o1, ρ1, S, w, e1, fun y H1 Z1 F1 G1 S1 O1 f1 => ?_⟩
 obtain ⟨Z2, F2, h1, h2, h3, _⟩ := zdI S1 O1 f1 e2
 exact ⟨Z2, ρ2, F2, d, ρ3, h1, h3.nd, P, h2, e3, fun σ' F' S' w' s' P' => q σ' H1 Z2 F' S' (h3.sub w' s') P'⟩
def parO (i j : Nat) : List Opd → Ev → Option Out
 | [o1, .t m2], ρ => (zi3 o1 ρ).bind fun q1 => (zfc i q1.1 q1.2).bind fun ρ1 => (zfc j m2 ρ1).bind fun ρ2 => some (.nx ρ2)
 | _, _ => none
def zlc (i j : Nat) (fa : FA) : FS := fun ρ => (fa ρ).bind fun p => parO i j p.1 p.2
theorem zmJ {i j : Nat} {a b : Expr} {fa : FA} {st : Stmt} (hpi : i ∉ pin) (hpj : j ∉ pin) (ha : VA X [a, b] fa) (hps : ∀ t : TA, PA X [a, b] t → PS X st (tPar i j t)) : VS X pin st (zlc i j fa) := fun pv hp => zde (hps _ ha) fun D σ H hq => by
  obtain ⟨Z, ρ, F, o, S, w, P, e, q⟩ := hq
  obtain ⟨⟨os, ρ1⟩, e1, e⟩ := oB e
  refine ⟨Z, ρ, F, os, ρ1, S, w, e1, fun xs H1 Z1 F1 G1 S1 O1 f1 => ?_⟩
  have e : parO i j os ρ1 = some o := e
  clear e1
  rcases os with _ | ⟨o1, _ | ⟨o2, _ | ⟨o3, os⟩⟩⟩
  · cases e
  · cases e
  · cases o2 with
   | p _ => cases e
   | q _ _ => cases e
   | t m2 =>
    obtain ⟨⟨m1, ρ2⟩, e2, e⟩ := oB e
    cases O1 with
    | @cons x1 _ Ga _ _ _ p1 r1 =>
      cases r1 with
      | @cons x2 _ Gb _ _ _ p2 r2 =>
          cases r2
          obtain ⟨ρ3, e3, e⟩ := oB e
          obtain ⟨ρ4, e4, e⟩ := oB e
          cases e
          rw [List.append_nil] at f1
          have f1' : Fut H Z F H1 Z1 (F1 ++ Ga ++ Gb) := f1.assoc'
          cases p2 with
          | t w2 =>
            have al := w2.al
            have key : ∃ Z' F' G', Owo X.K H1 Z' σ ρ2 F' ∧ Ow X.K H1 Z' x1 m1 G' ∧ Fut H Z F H1 Z' (F' ++ G' ++ Gb) ∧ zba H1 Z1 H1 Z' := by
              cases o1 with
              | t m =>
                cases e2
                cases p1 with
                | t w1 => exact ⟨Z1, F1, Ga, S1, w1, f1', zba.refl⟩
              | p k =>
                obtain ⟨m, e5, e2⟩ := oB e2
                cases e2
                cases p1 with
                | p q1 =>
                  rw [List.append_nil] at f1'
                  obtain ⟨n1, n2, n3⟩ := za5 f1'.nd
                  obtain ⟨x', G', F1', t1, t2, t3, t4, t5⟩ := S1.take n1 (zas.mp e5)
                  rw [q1] at t1; cases t1
                  refine ⟨Z1, F1', G', t3, t2, f1'.sub (zaw t4 n2 fun a h z => n3 a (t5 a h) z) (fun a h => ?_), zba.refl⟩
                  rcases lM h with h | h
                  · exact lL _ (t5 a h)
                  · exact lR _ h
              | q k1 k2 =>
                obtain ⟨⟨d, ρ'⟩, e5, e2⟩ := oB e2
                cases e2
                obtain ⟨Z', F', z1, z2, z3, z4⟩ := freeze S1 p1 f1' e5
                exact ⟨Z', F', [], z1, .v z2, by rw [List.append_nil]; exact z3, z4⟩
            obtain ⟨Z2, F2, G2, h1, h2, h3, h4⟩ := key
            obtain ⟨n1, n2, n3, n4, n5, n6⟩ := nd3 h3.nd
            obtain ⟨F3, k1, k2, k3⟩ := h1.zfc h2 (zaw n1 n2 n4) e3
            obtain ⟨F4, l1, l2, l3⟩ := k1.zfc (w2.mono h4 fun _ _ _ e => e) (zaw k2 n3 fun a h z => by
              rcases lM (k3 a h) with y | y
              · exact n5 a y z
              · exact n6 a y z) e4
            refine ⟨x1, x2, rfl, q _ H1 Z2 F4 l1 (h3.sub l2 fun a h => ?_) ((P.set hp hpi).set hp hpj)⟩
            rcases lM (l3 a h) with y | y
            · exact lL _ (k3 a y)
            · exact lR _ y
  · cases o2 <;> cases e
end
end VL
end
section
namespace VL
open PySem PySem.Spec L2 PyProof.Rows
structure zjJ (K : PySem.W.Frag) (J : It) (H : Hp) (Z : Zs) (ds : List PyData) : Prop where
 go : ∀ H2 Z2, zba H Z H2 Z2 → ∀ k d, ds[k]? = some d → J.go k H2 ∧ ∀ x H', J.yld k H2 x H' → zdU H2 H' ∧ Fz K H' Z2 x d
 stop : ∀ H2 Z2, zba H Z H2 Z2 → ∀ k, ds.length ≤ k → J.stop k H2
abbrev FI := Ev → Option (List PyData × Ev)
def vI (K : PySem.W.Frag) (f : FI) : TI := fun σ H R => ∃ Z ρ F ds ρ', Owo K H Z σ ρ F ∧ Wf H Z F ∧ f ρ = some (ds, ρ') ∧ ∀ J H' Z' F', Owo K H' Z' σ ρ' F' → zjJ K J H' Z' ds → Fut H Z F H' Z' F' → R J H'
abbrev VI (X : Cx) (tg iter : Expr) (f : FI) : Prop := PI X tg iter (vI X.K f)
section
variable {X : Cx} {pos : Pos} {pin : List Nat} {tg : Expr}
theorem zhY {it : Expr} {t t' : TI} (h : PI X tg it t) (i : ∀ σ H R, t' σ H R → t σ H R) : PI X tg it t' := fun pins s σ H R I q => h pins s σ H R I (i σ H R q)
theorem zmK {it : Expr} {t u : TI} (h : PI X tg it t) (h' : PI X tg it u) : PI X tg it (fun σ H R => t σ H R ∨ u σ H R) := fun pins s σ H R I q => q.elim (h pins s σ H R I) (h' pins s σ H R I)
def itD : PyData → Option (List PyData)
 | .tuple ds => some ds
 | .list ds => some ds
 | _ => none
def zbA (f : FE) : FI := fun ρ => (f ρ).bind fun p => (zdH p.1 p.2).bind fun q => (itD q.1).bind fun ds => some (ds, q.2)
theorem zkL {K : PySem.W.Frag} {H : Hp} {Z : Zs} {a : Addr} {ds : List PyData} (h : Fz K H Z (.ref a) (.list ds)) : zjJ K (Itl K a) H Z ds := by
 refine ⟨fun H2 Z2 g k d hd => ?_, fun H2 Z2 g k hk => ?_⟩
 ·obtain ⟨a', xs, e, r, fs⟩ := (h.mono g).lst_inv
  cases e
  obtain ⟨x, h1, h2⟩ := fs.get' hd
  refine ⟨⟨xs, x, r, h1⟩, fun y H' hy => ?_⟩
  obtain ⟨rfl, hy⟩ := hy
  have := hy xs r
  rw [h1] at this; cases this
  exact ⟨zdU.refl _, h2⟩
 ·obtain ⟨a', xs, e, r, fs⟩ := (h.mono g).lst_inv
  cases e
  exact ⟨xs, r, by rw [fs.length]; exact hk⟩
theorem zfO {K : PySem.W.Frag} {H : Hp} {Z : Zs} {a : Addr} {xs : List V} {ds : List PyData} {k : Nat} {d : PyData} {y : V} (r : SqT K H a xs) (fs : Fzs K H Z xs ds) (hd : ds[k]? = some d) (hy : ∀ xs, SqT K H a xs → xs[k]? = some y) : Fz K H Z y d := by
 obtain ⟨x, h1, h2⟩ := fs.get' hd
 have := hy xs r
 rw [h1] at this; cases this
 exact h2
theorem zmL {K : PySem.W.Frag} {H : Hp} {Z : Zs} {a : Addr} {ds : List PyData} (h : Fz K H Z (.ref a) (.tuple ds)) : zjJ K (Itt K a) H Z ds := by
 refine ⟨fun H2 Z2 g k d hd => ?_, fun H2 Z2 g k hk => ?_⟩
 ·obtain ⟨a', xs, e, r, fs⟩ := (h.mono g).zcA
  cases e
  obtain ⟨x, h1, h2⟩ := fs.get' hd
  refine ⟨⟨xs, x, r, h1⟩, fun y H' hy => ?_⟩
  obtain ⟨rfl, hy⟩ := hy
  exact ⟨zdU.refl _, zfO r fs hd hy⟩
 ·obtain ⟨a', xs, e, r, fs⟩ := (h.mono g).zcA
  cases e
  exact ⟨xs, r, by rw [fs.length]; exact hk⟩
theorem zmM {l : Expr} {f : FE} (h : VE X l f) : VI X tg l (zbA f) := zhY (zmK (zhi h) (zlz h)) fun σ H R hq => by
 obtain ⟨Z, ρ, F, ds, ρ', S, w, e, q⟩ := hq
 obtain ⟨⟨o1, ρ1⟩, e1, e⟩ := oB e
 obtain ⟨⟨d, ρ2⟩, e2, e⟩ := oB e
 obtain ⟨ds', e3, e⟩ := oB e
 cases e
 have key : ∀ x H1 Z1 F1 G1, Owo X.K H1 Z1 σ ρ1 F1 → Opv X.K H1 Z1 σ x o1 G1 → Fut H Z F H1 Z1 (F1 ++ G1) → ∃ Z2, Fz X.K H1 Z2 x d ∧ ∀ J, zjJ X.K J H1 Z2 ds → R J H1 := fun x H1 Z1 F1 G1 S1 O1 f1 => by
  obtain ⟨Z2, F2, h1, h2, h3, _⟩ := zdI S1 O1 f1 e2
  exact ⟨Z2, h2, fun J hJ => q J H1 Z2 F2 h1 hJ h3⟩
 cases d with
 | tuple ds0 =>
  cases e3
  refine .inr ⟨Z, ρ, F, o1, ρ1, S, w, e1, fun x H1 Z1 F1 G1 S1 O1 f1 => ?_⟩
  obtain ⟨Z2, h2, h3⟩ := key x H1 Z1 F1 G1 S1 O1 f1
  obtain ⟨a, xs, rfl, r, fs⟩ := h2.zcA
  exact ⟨a, rfl, ⟨xs, r⟩, h3 _ (zmL h2)⟩
 | list ds0 =>
  cases e3
  refine .inl ⟨Z, ρ, F, o1, ρ1, S, w, e1, fun x H1 Z1 F1 G1 S1 O1 f1 => ?_⟩
  obtain ⟨Z2, h2, h3⟩ := key x H1 Z1 F1 G1 S1 O1 f1
  obtain ⟨a, xs, rfl, r, fs⟩ := h2.lst_inv
  exact ⟨a, rfl, ⟨xs, r⟩, h3 _ (zkL h2)⟩
 | _ => cases e3
def za7 (lo hi : Int) : List PyData := (List.range (hi - lo).toNat).map fun k : Nat => PyData.int (lo + k)
def zkM : Int := 1000000000
def zdf (i : Int) : Bool := decide (-zkM ≤ i ∧ i ≤ zkM)
theorem zhZ {i : Int} (h : zdf i = true) : -(2 ^ 62) ≤ i ∧ i < 2 ^ 62 := by
 have h := of_decide_eq_true h
 unfold zkM at h
 omega
def zfP : List M → Option (List PyData)
 | [.v (.int j)] => if zdf j = true then some (za7 0 j) else none
 | _ => none
def zcf (g : List M → Option (List PyData)) (fa : FA) : FI := fun ρ => (fa ρ).bind fun p => (zd0 p.2 p.1).bind fun ms => (g ms).bind fun ds => some (ds, p.2)
theorem zmN {K : PySem.W.Frag} {H : Hp} {Z : Zs} (lo hi : Int) : zjJ K (Itr lo (hi - lo).toNat) H Z (za7 lo hi) := by
 refine ⟨fun H2 Z2 g k d hd => ?_, fun H2 Z2 g k hk => ?_⟩
 ·unfold za7 at hd
  rw [List.getElem?_map] at hd
  obtain ⟨j, h1, h2⟩ := Option.map_eq_some_iff.mp hd
  obtain ⟨h3, h4⟩ := List.getElem?_eq_some_iff.mp h1
  rw [List.length_range] at h3
  rw [List.getElem_range] at h4
  subst h4; subst h2
  refine ⟨h3, fun x H' hx => ?_⟩
  obtain ⟨rfl, rfl⟩ := hx
  exact ⟨zdU.refl _, .int _⟩
 ·unfold za7 at hk
  rw [List.length_map, List.length_range] at hk
  exact hk
theorem zh0 {fa : FA} {σ : L2.St} {H : Hp} {R : It → Hp → Prop} {ms : List M} {ds : List PyData} {Z : Zs} {ρ ρ1 : Ev} {F : List Addr} {os : List Opd} (S : Owo X.K H Z σ ρ F) (w : Wf H Z F) (e1 : fa ρ = some (os, ρ1)) (e2 : zd0 ρ1 os = some ms)
  (q : ∀ J H' Z' F', Owo X.K H' Z' σ ρ1 F' → zjJ X.K J H' Z' ds → Fut H Z F H' Z' F' → R J H') {T : List V → Hp → Prop} (hT : ∀ xs H1 Z1, Ros X.K H1 Z1 xs ms → (∀ J, zjJ X.K J H1 Z1 ds → R J H1) → T xs H1) : vA X.K fa σ H T :=
 ⟨Z, ρ, F, os, ρ1, S, w, e1, fun xs H1 Z1 F1 G1 S1 O1 f1 => hT xs H1 Z1 (O1.peek S1 e2) fun J hJ => q J H1 Z1 F1 S1 hJ f1.left⟩
theorem zkN {a : Expr} {fa : FA} {p : Pos} (hg : Gl X "range") (hm : X.mg "range" = none) (ha : VA X [a] fa) (hs : starEach [a] X.env = [(false, eval a X.env)] := by rfl) : VI X tg (.Call (.Name "range" p) [a] [] pos) (zcf zfP fa) := zhY (zhj hg hm ha hs) fun σ H R hq => by
 obtain ⟨Z, ρ, F, ds, ρ', S, w, e, q⟩ := hq
 obtain ⟨⟨os, ρ1⟩, e1, e⟩ := oB e
 obtain ⟨ms, e2, e⟩ := oB e
 obtain ⟨ds', e3, e⟩ := oB e
 cases e
 refine zh0 S w e1 e2 q fun xs H1 Z1 r h => ?_
 unfold zfP at e3
 split at e3
 ·rename_i j
  split at e3
  ·next hl =>
   cases e3
   obtain ⟨x, rfl, h1⟩ := zd2 r
   obtain rfl := h1.int
   have hj := zhZ hl
   refine ⟨_, rfl, hj.1, hj.2, h _ ?_⟩
   have k := zmN (K := X.K) (H := H1) (Z := Z1) 0 j
   rw [Int.sub_zero] at k
   exact k
  ·cases e3
 ·cases e3
def zmO : List M → Option (List PyData)
 | [.v (.tuple a), .v (.tuple b)] => some (List.zipWith (fun x y => PyData.tuple [x, y]) a b)
 | _ => none
theorem zmP {a b : Expr} {fa : FA} {p tp : Pos} {es : List Expr} {k : Nat} (hg : Gl X "zip") (hm : X.mg "zip" = none) (ha : VA X [a, b] fa) (hs : starEach [a, b] X.env = [(false, eval a X.env), (false, eval b X.env)] := by rfl) (hs2 : starEach [b] X.env = [(false, eval b X.env)] := by rfl) : VI X (.Tuple es k tp) (.Call (.Name "zip" p) [a, b] [] pos) (zcf zmO fa) := zhY (zl7 hg hm ha hs hs2) fun σ H R hq => by
 obtain ⟨Z, ρ, F, ds, ρ', S, w, e, q⟩ := hq
 obtain ⟨⟨os, ρ1⟩, e1, e⟩ := oB e
 obtain ⟨ms, e2, e⟩ := oB e
 obtain ⟨ds', e3, e⟩ := oB e
 cases e
 refine zh0 S w e1 e2 q fun xs H1 Z1 r h => ?_
 unfold zmO at e3
 split at e3
 ·rename_i A B
  cases e3
  obtain ⟨x, y, rfl, h1, h2⟩ := ros2 r
  obtain ⟨a, xs, rfl, t1, g1⟩ := h1.tup
  obtain ⟨b, ys, rfl, t2, g2⟩ := h2.tup
  refine ⟨a, b, rfl, ⟨xs, t1⟩, ⟨ys, t2⟩, h _ ⟨fun H2 Z2 g k d hd => ?_, fun H2 Z2 g k hk => ?_⟩⟩
  ·rw [List.getElem?_zipWith] at hd
   have u1 := g.zca.sq t1
   have u2 := g.zca.sq t2
   have v1 := g1.mono g
   have v2 := g2.mono g
   cases ea : A[k]? with
   | none => rw [ea] at hd; cases hd
   | some da =>
    cases eb : B[k]? with
    | none => rw [ea, eb] at hd; cases hd
    | some db =>
     rw [ea, eb] at hd
     cases hd
     obtain ⟨x, x1, x2⟩ := v1.get' ea
     obtain ⟨y, y1, y2⟩ := v2.get' eb
     refine ⟨⟨xs, ys, x, y, u1, u2, x1, y1⟩, fun z H' hz => ?_⟩
     obtain ⟨p, x', y', hp, rfl, rfl, zx, zy⟩ := hz
     have s := zbR hp (.tup [x', y'])
     exact ⟨s, .tup (SqT.of zaG) (.cons ((zfO u1 v1 ea zx).mono (zba.same s)) (.cons ((zfO u2 v2 eb zy).mono (zba.same s)) .nil))⟩
  ·rw [List.length_zipWith] at hk
   refine ⟨xs, ys, g.zca.sq t1, g.zca.sq t2, ?_⟩
   rw [g1.length, g2.length]
   omega
 ·cases e3
def zgW (fg : FG) (fb : FS) : List PyData → Ev → Option Out
 | [], ρ => some (.nx ρ)
 | d :: ds, ρ => (fg d ρ).bind fun ρ1 => (fb ρ1).bind fun o => match o with
  | .nx ρ2 => zgW fg fb ds ρ2
  | .ct ρ2 => zgW fg fb ds ρ2
  | .bk ρ2 => some (.nx ρ2)
  | .rt m ρ2 => some (.rt m ρ2)
def zgl (fi : FI) (fg : FG) (fb : FS) : FS := fun ρ => (fi ρ).bind fun p => zgW fg fb p.1 p.2
theorem zkO {fi : FI} {fg : FG} {fb : FS} {pv : Pv} {D : Ends} {σ : L2.St} {H : Hp} (hq : vS X.K pv (zgl fi fg fb) D σ H) : tFor (vI X.K fi) (vG X.K pv fg) (vS X.K pv fb) D σ H := by
 obtain ⟨Z, ρ, F, o, S, w, P, e, q⟩ := hq
 obtain ⟨⟨ds, ρ1⟩, e1, e⟩ := oB e
 refine ⟨Z, ρ, F, ds, ρ1, S, w, e1, fun J H1 Z1 F1 S1 hJ f1 => ?_⟩
 refine ⟨fun i m σ' H' => m = ds.length - i ∧ i ≤ ds.length ∧ ∃ Z' ρ' F', Owo X.K H' Z' σ' ρ' F' ∧ Wf H' Z' F' ∧ Pin pv σ' ∧ zba H1 Z1 H' Z' ∧ ∃ out, zgW fg fb (ds.drop i) ρ' = some out ∧ zjH X.K pv D H' Z' F' out, ⟨_, rfl, Nat.zero_le _, Z1, ρ1, F1, S1, f1.wf, P, zba.refl, o, e, q.trans f1⟩, fun i m σ2 H2 hW => ?_⟩
 obtain ⟨rfl, hi, Z2, ρ2, F2, S2, w2, P2, g2, out, e2, q2⟩ := hW
 rcases Nat.lt_or_eq_of_le hi with hi | rfl
 ·right
  rw [List.drop_eq_getElem_cons hi] at e2
  have hd : ds[i]? = some ds[i] := List.getElem?_eq_getElem hi
  obtain ⟨go, yl⟩ := hJ.go H2 Z2 g2 i _ hd
  obtain ⟨ρ3, e3, e2⟩ := oB e2
  obtain ⟨o3, e4, e2⟩ := oB e2
  refine ⟨go, fun σ' H' => ∃ m', m' < ds.length - i ∧ m' = ds.length - (i + 1) ∧ i + 1 ≤ ds.length ∧ ∃ Z' ρ' F', Owo X.K H' Z' σ' ρ' F' ∧ Wf H' Z' F' ∧ Pin pv σ' ∧ zba H1 Z1 H' Z' ∧ ∃ out, zgW fg fb (ds.drop (i + 1)) ρ' = some out ∧ zjH X.K pv D H' Z' F' out, fun σ' H' h => h, fun x H' hx => ?_⟩
  obtain ⟨s, fz⟩ := yl x H' hx
  have gs : zba H2 Z2 H' Z2 := zba.same s
  have S2' := S2.mono gs fun a _ o e => s a o e
  have fs : Fut H2 Z2 F2 H' Z2 F2 := by
   have := (Fut.same s w2.za).news w2 S2.al
   rw [List.append_nil] at this
   exact this
  refine ⟨Z2, ρ2, F2, _, ρ3, S2', w2.nd, P2, fz, e3, fun σ3 F3 S3 n3 s3 P3 => ?_⟩
  have f3 : Fut H2 Z2 F2 H' Z2 F3 := fs.sub n3 s3
  refine ⟨Z2, ρ3, F3, o3, S3, f3.wf, P3, e4, ?_⟩
  have again : ∀ ρ4, zgW fg fb (ds.drop (i + 1)) ρ4 = some out → ∀ σ' H4 Z4 F4, Owo X.K H4 Z4 σ' ρ4 F4 → Fut H' Z2 F3 H4 Z4 F4 → Pin pv σ' → ∃ m', m' < ds.length - i ∧ m' = ds.length - (i + 1) ∧ i + 1 ≤ ds.length ∧ ∃ Z' ρ' F', Owo X.K H4 Z' σ' ρ' F' ∧ Wf H4 Z' F' ∧ Pin pv σ' ∧ zba H1 Z1 H4 Z' ∧ ∃ out, zgW fg fb (ds.drop (i + 1)) ρ' = some out ∧ zjH X.K pv D H4 Z' F' out := fun ρ4 e5 σ' H4 Z4 F4 S4 f4 P4 =>
   ⟨_, by omega, rfl, hi, Z4, ρ4, F4, S4, f4.wf, P4, (g2.trans gs).trans (f4.grow f3.wf), out, e5, q2.trans (f3.trans f4)⟩
  cases o3 with
  | nx ρ4 => exact again ρ4 e2
  | ct ρ4 => exact again ρ4 e2
  | bk ρ4 => cases e2; exact fun σ' H4 Z4 F4 S4 f4 P4 => q2 σ' H4 Z4 F4 S4 (f3.trans f4) P4
  | rt m ρ4 => cases e2; exact fun x σ' H4 Z4 F4 G S4 O4 f4 P4 => q2 x σ' H4 Z4 F4 G S4 O4 (f3.trans f4) P4
 ·left
  rw [List.drop_length] at e2
  cases e2
  exact ⟨hJ.stop H2 Z2 g2 _ (Nat.le_refl _), q2 σ2 H2 Z2 F2 S2 (Fut.refl w2) P2⟩
theorem zmQ {iter : Expr} {body : List Stmt} {fi : FI} {fg : FG} {fb : FS} (hp0 : PassesOwn (model X.prog X.w) X.A X.env X.xe) (hc : X.calm = true) (hi : VI X tg iter fi) (hg : VG X pin tg fg) (hb : VSs X pin body fb)
  (hs : ∀ x, foldedSetIterable iter X.env x = pure x := by intro _; rfl) : VS X pin (.For tg iter body [] pos) (zgl fi fg fb) := fun pv hp => zde (zlA hp0 hc hi (hg pv hp) (hb pv hp) hs) fun _ _ _ hq => zkO hq
end
end VL
end
section
namespace VL
open PySem PySem.Spec L2 PyProof.Rows
def fin : List Bool → List M → Ev → Option (List M)
 | [], [], _ => some []
 | true :: ps, _ :: ms, some m' :: ρ => (fin ps ms ρ).bind fun ms' => some (m' :: ms')
 | false :: ps, .v d :: ms, _ :: ρ => (fin ps ms ρ).bind fun ms' => some (.v d :: ms')
 | _, _, _ => none
section
variable {K : PySem.W.Frag} {H : Hp} {Z : Zs}
theorem zec : ∀ {ps : List Bool} {ms : List M} {ρ : Ev} {ms' : List M} {σ : L2.St} {F : List Addr} {vs : List V}, Owo K H Z σ ρ F → F.Nodup → (∀ (i : Nat) x, ps[i]? = some true → vs[i]? = some x → σ[i]? = some (some x)) →
  (∀ (i : Nat) x d, ps[i]? = some false → vs[i]? = some x → ms[i]? = some (.v d) → Fz K H Z x d) → vs.length = ms.length → fin ps ms ρ = some ms' → ∃ A, Ows K H Z vs ms' A ∧ A.Nodup ∧ ∀ a ∈ A, a ∈ F
 | [], [], ρ, _, σ, F, vs, S, nd, _, _, hl, e => by
  have e : some [] = some _ := e
  cases e
  have : vs = [] := List.length_eq_zero_iff.mp (by simpa using hl)
  subst this
  exact ⟨[], .nil, List.nodup_nil, fun a h => by simp at h⟩
 | true :: ps, _ :: ms, some m' :: ρ, _, _, _, v :: vs, .som (x := x) (G := G) (F := F) q r, nd, h1, h2, hl, e => by
  obtain ⟨ms', e1, e⟩ := oB e
  cases e
  obtain ⟨n1, n2, n3⟩ := za5 nd
  have hx := h1 0 v rfl rfl
  cases hx
  obtain ⟨A, a1, a2, a3⟩ := zec r n2 (fun i x p q => by simpa using h1 (i + 1) x (by simpa using p) (by simpa using q)) (fun i x d p q z => h2 (i + 1) x d (by simpa using p) (by simpa using q) (by simpa using z)) (by simpa using hl) e1
  refine ⟨G ++ A, .cons q a1, zaw n1 a2 fun a h z => n3 a h (a3 a z), fun a h => ?_⟩
  rcases lM h with h | h
  ·exact lL _ h
  ·exact lR _ (a3 a h)
 | false :: ps, .v d :: ms, c :: ρ, _, σ, F, v :: vs, S, nd, h1, h2, hl, e => by
  obtain ⟨ms', e1, e⟩ := oB e
  cases e
  have key : ∀ {σ' : L2.St} {F' : List Addr}, Owo K H Z σ' ρ F' → F'.Nodup → (∀ a ∈ F', a ∈ F) → (∀ (i : Nat) x, ps[i]? = some true → vs[i]? = some x → σ'[i]? = some (some x)) → ∃ A, Ows K H Z (v :: vs) (.v d :: ms') A ∧ A.Nodup ∧ ∀ a ∈ A, a ∈ F := fun {σ' F'} S' nd' sub h1' => by
   obtain ⟨A, a1, a2, a3⟩ := zec S' nd' h1' (fun i x d p q z => h2 (i + 1) x d (by simpa using p) (by simpa using q) (by simpa using z)) (by simpa using hl) e1
   exact ⟨[] ++ A, .cons (.v (h2 0 v d rfl rfl rfl)) a1, by rw [List.nil_append]; exact a2, fun a h => by rw [List.nil_append] at h; exact sub a (a3 a h)⟩
  have hσ : ∀ {x : Option V} {σ' : L2.St}, σ = x :: σ' → (∀ (i : Nat) x, ps[i]? = some true → vs[i]? = some x → σ'[i]? = some (some x)) := fun {x σ'} eσ i y p q => by
   have := h1 (i + 1) y (by simpa using p) (by simpa using q)
   rw [eσ] at this
   simpa using this
  cases S with
  | non r => exact key r nd (fun _ h => h) (hσ rfl)
  | som q r => exact key r (za5 nd).2.1 (fun a h => lR _ h) (hσ rfl)
 | true :: _, _ :: _, some _ :: _, _, _, _, [], _, _, _, _, hl, _ => by simp at hl
 | false :: _, .v _ :: _, _ :: _, _, _, _, [], _, _, _, _, hl, _ => by simp at hl
 | false :: _, .lst _ :: _, _ :: _, _, _, _, _, _, _, _, _, _, e => by cases e
 | false :: _, .dic _ :: _, _ :: _, _, _, _, _, _, _, _, _, _, e => by cases e
 | false :: _, .dls _ :: _, _ :: _, _, _, _, _, _, _, _, _, _, e => by cases e
 | true :: _, _ :: _, none :: _, _, _, _, _, _, _, _, _, _, e => by cases e
 | true :: _, _ :: _, [], _, _, _, _, _, _, _, _, _, e => by cases e
 | false :: _, .v _ :: _, [], _, _, _, _, _, _, _, _, _, e => by cases e
 | false :: _, .lst _ :: _, [], _, _, _, _, _, _, _, _, _, e => by cases e
 | false :: _, .dic _ :: _, [], _, _, _, _, _, _, _, _, _, e => by cases e
 | false :: _, .dls _ :: _, [], _, _, _, _, _, _, _, _, _, e => by cases e
 | [], _ :: _, _, _, _, _, _, _, _, _, _, _, e => by cases e
 | true :: _, [], _, _, _, _, _, _, _, _, _, _, e => by cases e
 | false :: _, [], _, _, _, _, _, _, _, _, _, _, e => by cases e
theorem Owo.zgm : ∀ {xs : List V} {ms : List M} {A : List Addr} (n : Nat), Ows K H Z xs ms A → Owo K H Z (xs.map some ++ List.replicate n none) (ms.map some ++ List.replicate n none) A
 | _, _, _, 0, .nil => .nil
 | _, _, _, n + 1, .nil => .non (Owo.zgm n .nil)
 | _, _, _, n, .cons h r => .som h (Owo.zgm n r)
theorem Owo.zfQ {xs : List V} {ms : List M} {A : List Addr} (h : Ows K H Z xs ms A) : ∀ n : Nat, Owo K H Z (List.replicate n none ++ xs.map some) (List.replicate n none ++ ms.map some) A
 | 0 => by have := Owo.zgm 0 h; simpa using this
 | n + 1 => .non (Owo.zfQ h n)
end
def zdn (ps : List Bool) (n : Nat) (fb : FS) : FF := fun ms => if ms.length = ps.length then (fb (ms.map some ++ List.replicate (n - ms.length) none)).bind fun o => match o with
 | .rt m ρ => (fin ps ms ρ).bind fun ms' => some (m, ms')
 | .nx ρ => (fin ps ms ρ).bind fun ms' => some (.v .none, ms')
 | _ => none
 else none
def pins : List Bool → Nat → List Nat
 | [], _ => []
 | true :: ps, k => k :: pins ps (k + 1)
 | false :: ps, k => pins ps (k + 1)
theorem zey : ∀ {ps : List Bool} {k i : Nat}, ps[i]? = some true → k + i ∈ pins ps k
 | [], _, _, h => by simp at h
 | true :: ps, k, 0, _ => lS
 | true :: ps, k, i + 1, h => lO _ (by have := zey (k := k + 1) (i := i) (ps := ps) (by simpa using h); rw [show k + (i + 1) = k + 1 + i by omega]; exact this)
 | false :: ps, k, 0, h => by simp at h
 | false :: ps, k, i + 1, h => by have := zey (k := k + 1) (i := i) (ps := ps) (by simpa using h); rw [show k + (i + 1) = k + 1 + i by omega]; exact this
theorem Ows.get {K : PySem.W.Frag} {H : Hp} {Z : Zs} : ∀ {xs : List V} {ms : List M} {A : List Addr} {i : Nat} {x : V} {m : M}, Ows K H Z xs ms A → xs[i]? = some x → ms[i]? = some m → ∃ G, Ow K H Z x m G
 | _, _, _, _, _, _, .nil, e, _ => by simp at e
 | _, _, _, 0, _, _, .cons h r, e, e' => by cases e; cases e'; exact ⟨_, h⟩
 | _, _, _, i + 1, _, _, .cons h r, e, e' => Ows.get (i := i) r (by simpa using e) (by simpa using e')
section
variable {P : Program} {w : World} {K : PySem.W.Frag} {mg : Str → Option Value} {base : Heap}
theorem zmR {x qual : Str} {st : Stmt} {f : Addr} {fd : FuncData} {N prs : List Str} {k : Nat} (ps : List Bool) {fb : FS} (Fn : Fun K x qual st f fd) (S : zaC N prs (zaf st)) (hl : prs.length = ps.length)
  (hb : ∀ (cdv : Value) (A : Around) (outer : List Env) (s : Shared) (H : Hp) (E : XK), zdR k (A.deeper (envOfC qual (zaf st) s.heap.objs.size f cdv)) → VSs (zjq CX0 P w K mg base N qual (zaf st) f cdv A outer s H E).nox (pins ps 0) (zau st) fb) :
  zb8 P w K mg base CX0 (k + 1) f fd prs (spV K (zdn ps N.length fb)) := by
 refine Fn.ok S (fun vs H Q E h => ?_) fun cdv A outer s H vs Q E hr h => ?_
 ·obtain ⟨Z, ms, A, m, ms', h1, _, e, _⟩ := h
  unfold zdn at e
  split at e
  ·next he => rw [hl, ← he, h1.length]
  ·cases e
 ·obtain ⟨Z, ms, A', m, ms', h1, h2, e, q⟩ := h
  unfold zdn at e
  split at e
  ·next he =>
   let pv : Pv := fun i => if ps[i]? = some true then vs[i]? else none
   have sup : Sup pv (pins ps 0) := fun j y e => by
    have e : (if ps[j]? = some true then vs[j]? else none) = some y := e
    split at e
    ·next hj => have := zey (k := 0) hj; rwa [Nat.zero_add] at this
    ·cases e
   refine ⟨_, hb cdv A outer s H E hr pv sup, ?_⟩
   obtain ⟨o, e1, e⟩ := oB e
   have hlen := h1.length
   have pin0 : Pin pv (L2.start N vs) := fun i y e => by
    have e : (if ps[i]? = some true then vs[i]? else none) = some y := e
    split at e
    ·unfold L2.start
     rw [List.getElem?_append_left (by rw [List.length_map]; exact (List.getElem?_eq_some_iff.mp e).1), List.getElem?_map, e]
     rfl
    ·cases e
   have S0 : Owo K H Z (L2.start N vs) (ms.map some ++ List.replicate (N.length - ms.length) none) A' := by
    have := Owo.zgm (N.length - ms.length) h1
    rw [← hlen] at this
    unfold L2.start
    rw [← hlen]
    exact this
   have fz0 : ∀ (i : Nat) x d, ps[i]? = some false → vs[i]? = some x → ms[i]? = some (.v d) → Fz K H Z x d := fun i x d _ h h' => by
    obtain ⟨G, z⟩ := h1.get h h'
    cases z with
    | v f => exact f
   have pinR : ∀ {σ' : L2.St}, Pin pv σ' → ∀ (i : Nat) x, ps[i]? = some true → vs[i]? = some x → σ'[i]? = some (some x) := fun {σ'} P' i x h h' => P' i x (by show (if ps[i]? = some true then vs[i]? else none) = some x; rw [if_pos h]; exact h')
   refine ⟨Z, _, A', o, S0, h2, pin0, e1, ?_⟩
   cases o with
   | nx ρ =>
    obtain ⟨ms2, e2, e⟩ := oB e
    cases e
    intro σ' H' Z' F' S' f' P'
    obtain ⟨A2, a1, a2, a3⟩ := zec S' f'.nd (pinR P') (fun i x d h h' h'' => (fz0 i x d h h' h'').mono (f'.grow h2)) hlen e2
    exact q .non H' Z' A2 [] a1 (.v .non) (f'.sub a2 a3).nil
   | rt m2 ρ =>
    obtain ⟨ms2, e2, e⟩ := oB e
    cases e
    intro x σ' H' Z' F' G S' O' f' P'
    obtain ⟨n1, n2, n3⟩ := za5 f'.nd
    obtain ⟨A2, a1, a2, a3⟩ := zec S' n1 (pinR P') (fun i x d h h' h'' => (fz0 i x d h h' h'').mono (f'.grow h2)) hlen e2
    refine q x H' Z' A2 G a1 O' (f'.sub (zaw a2 n2 fun a h z => n3 a (a3 a h) z) fun a h => ?_)
    rcases lM h with h | h
    ·exact lL _ (a3 a h)
    ·exact lR _ h
   | bk ρ => cases e
   | ct ρ => cases e
  ·cases e
end
end VL
end
section
namespace VL
open PySem PySem.Spec L2 PyProof.Rows
def zb9 : FT := fun ρ => some (true, ρ)
abbrev VF (X : Cx) (ifs : List Expr) (f : FT) : Prop := zl4 X ifs (vT X.K f)
section
variable {X : Cx} {pos : Pos}
theorem zmS : VF X [] zb9 := fun pins s σ H Q I hq => zl5 pins s σ H Q I (by
 obtain ⟨Z, ρ, F, b, ρ', S, w, e, q⟩ := hq
 cases e
 exact q H Z F S (Fut.refl w))
end
def cap (ρ : Ev) (j : Nat) : Option Opd := match at? ρ j with
 | some (.v d) => some (.t (.v d))
 | some _ => some (.p j)
 | none => none
def caps (ρ : Ev) : List Nat → Option (List Opd)
 | [] => some []
 | j :: js => (cap ρ j).bind fun o => (caps ρ js).bind fun os => some (o :: os)
def zbP (fg : FG) (ft : FT) (fe : FE) : List PyData → Ev → List PyData → Option (List PyData × Ev)
 | [], ρ, acc => some (acc, ρ)
 | d :: ds, ρ, acc => (fg d ρ).bind fun ρ1 => (ft ρ1).bind fun t => if t.1 = true then
   (fe t.2).bind fun p => (zdH p.1 p.2).bind fun q => if acc.length < lim then zbP fg ft fe ds q.2 (acc ++ [q.1]) else none
  else zbP fg ft fe ds t.2 acc
def vLC (n : Nat) (js : List Nat) (fi : FI) (fg : FG) (ft : FT) (fe : FE) : FE := fun ρ => (fi ρ).bind fun p => (caps p.2 js).bind fun os => (zb2 os p.2).bind fun q =>
 (zbP fg ft fe p.1 (List.replicate n none ++ q.1.map some) []).bind fun r => (fin (List.replicate js.length true) q.1 (r.2.drop n)).bind fun ms' => some (.t (.lst r.1), zgV os ms' q.2)
def slot (σ : L2.St) (j : Nat) : Option V := match σ[j]? with
 | some v => v
 | none => none
def zgn (n : Nat) (js : List Nat) (σ : L2.St) : Pv := fun k => if k < n then none else match js[k - n]? with
 | some j => slot σ j
 | none => none
section
variable {K : PySem.W.Frag} {H : Hp} {Z : Zs} {σ : L2.St} {ρ : Ev} {F : List Addr}
theorem zfR (S : Owo K H Z σ ρ F) : ∀ {js : List Nat} {os : List Opd}, caps ρ js = some os → ∃ xs, zfq K H Z σ xs os [] ∧ xs.map some = js.map (slot σ) ∧ xs.length = js.length
 | [], _, e => by cases e; exact ⟨[], .nil, rfl, rfl⟩
 | j :: js, _, e => by
  obtain ⟨o, e1, e⟩ := oB e
  obtain ⟨os, e2, e⟩ := oB e
  cases e
  obtain ⟨xs, h1, h2, h3⟩ := zfR S e2
  unfold cap at e1
  cases hm : at? ρ j with
  | none => rw [hm] at e1; cases e1
  | some m =>
   obtain ⟨x, G, k1, k2, k3⟩ := S.get (zas.mp hm)
   have ho : Opv K H Z σ x o [] := by
    rw [hm] at e1
    cases m with
    | v d => cases e1; cases k2 with
     | v f => exact .t (.v f)
    | lst _ => cases e1; exact .p k1
    | dic _ => cases e1; exact .p k1
    | dls _ => cases e1; exact .p k1
   refine ⟨x :: xs, .cons (G := []) ho h1, ?_, by rw [List.length_cons, List.length_cons, h3]⟩
   rw [List.map_cons, List.map_cons, h2]
   unfold slot
   rw [k1]
theorem zh1 (n : Nat) (js : List Nat) (σ : L2.St) : zjr (List.replicate n none ++ js.map some) σ = List.replicate n none ++ js.map (slot σ) := by
 unfold zjr
 rw [List.map_append, List.map_replicate, List.map_map]
 rfl
theorem zjK (n : Nat) (js : List Nat) (σ : L2.St) : Pin (zgn n js σ) (List.replicate n none ++ js.map (slot σ)) := fun k x e => by
 unfold zgn at e
 split at e
 ·cases e
 ·next hk =>
  rw [List.getElem?_append_right (by rw [List.length_replicate]; omega), List.length_replicate, List.getElem?_map]
  cases hj : js[k - n]? with
  | none => rw [hj] at e; cases e
  | some j => rw [hj] at e; rw [Option.map_some]; exact congrArg some e
theorem zgo (n : Nat) (js : List Nat) (σ : L2.St) {pin : List Nat} (hp : pin = (List.range js.length).map (n + ·)) : Sup (zgn n js σ) pin := fun k x e => by
 unfold zgn at e
 split at e
 ·cases e
 ·next hk =>
  cases hj : js[k - n]? with
  | none => rw [hj] at e; cases e
  | some j =>
   subst hp
   have := (List.getElem?_eq_some_iff.mp hj).1
   exact List.mem_map.mpr ⟨k - n, List.mem_range.mpr this, by omega⟩
end
section
variable {X : Cx} {pos : Pos}
theorem Owo.zi5 {K : PySem.W.Frag} {H : Hp} {Z : Zs} : ∀ {σ : L2.St} {ρ : Ev} {F : List Addr} (n : Nat), Owo K H Z σ ρ F → F.Nodup → ∃ F', Owo K H Z (σ.drop n) (ρ.drop n) F' ∧ F'.Nodup ∧ ∀ a ∈ F', a ∈ F
 | _, _, F, 0, h, nd => ⟨F, h, nd, fun _ h => h⟩
 | _, _, _, n + 1, .nil, nd => ⟨[], .nil, nd, fun _ h => h⟩
 | _, _, _, n + 1, .non r, nd => Owo.zi5 n r nd
 | _, _, _, n + 1, .som q r, nd => by
  obtain ⟨F', h1, h2, h3⟩ := Owo.zi5 n r (za5 nd).2.1
  exact ⟨F', h1, h2, fun a h => lR _ (h3 a h)⟩
theorem Fut.put {H0 H : Hp} {Z0 Z : Zs} {F0 F : List Addr} {D : Addr} {o o' : HO} (f : Fut H0 Z0 F0 H Z (F ++ [D])) (e : H D = some o) (hn : ∀ u, o ≠ .tup u) (hf : ∀ x u, o ≠ .frz x u) : Fut H0 Z0 F0 (upd H D o') Z (F ++ [D]) ∧ zba H Z (upd H D o') Z := by
 have hD : D ∈ F ++ [D] := lR _ lS
 have nz : ¬ Z D := f.dz D hD
 have keep : ∀ a o2, a ≠ D → H a = some o2 → upd H D o' a = some o2 := fun a o2 n h => by rw [zaB n]; exact h
 have za : ∀ a, Z a → upd H D o' a ≠ none := fun a z => by
  have hne : a ≠ D := fun h => nz (h ▸ z)
  rw [zaB hne]
  exact f.za a z
 have g : zba H Z (upd H D o') Z := ⟨zdF.put e hn hf, fun a o2 z h => keep a o2 (fun w => nz (w ▸ z)) h, fun _ z => z⟩
 refine ⟨f.trans ⟨fun a o2 n h => keep a o2 (fun w => n (w ▸ hD)) h, g.zca, fun _ z => z, fun a z => .inl z, fun a h => .inl h, f.nd, f.dz, za⟩, g⟩
theorem zkP {n : Nat} {pv : Pv} {fg : FG} {ft : FT} {fe : FE} {J : It} {ds : List PyData} {D : Addr} {τ : L2.St} {H1 : Hp} {Z1 : Zs} {A : List Addr} {ρ0 : Ev} {r : List PyData × Ev} {Q : Hp → Prop} (hD : H1 D = none) (S : Owo X.K H1 Z1 τ ρ0 A) (w : Wf H1 Z1 A) (P : Pin pv τ) (hJ : zjJ X.K J H1 Z1 ds) (e : zbP fg ft fe ds ρ0 [] = some r)
  (q : ∀ τ' H' Z' F' xs, Owo X.K H' Z' τ' r.2 F' → Pin pv τ' → H' D = some (.lst xs) → Fzs X.K H' Z' xs r.1 → Fut H1 Z1 A H' Z' (F' ++ [D]) → Q H') : ziL (vG X.K pv fg) (vT X.K ft) (eApp D (vE X.K fe)) J τ (upd H1 D (.lst [])) Q := by
 have n0 := Fut.zmt (o := .lst []) hD w.za
 have f0 : Fut H1 Z1 A (upd H1 D (.lst [])) Z1 (A ++ [D]) := n0.news w S.al
 refine ⟨fun i m τ' H' => m = ds.length - i ∧ i ≤ ds.length ∧ ∃ Z' ρ' F' acc xs, Owo X.K H' Z' τ' ρ' F' ∧ Pin pv τ' ∧ H' D = some (.lst xs) ∧ Fzs X.K H' Z' xs acc ∧ Fut H1 Z1 A H' Z' (F' ++ [D]) ∧ zbP fg ft fe (ds.drop i) ρ' acc = some r, ⟨_, rfl, Nat.zero_le _, Z1, ρ0, A, [], [], S.news n0, P, zaG, .nil, f0, e⟩, fun i m τ2 H2 hW => ?_⟩
 obtain ⟨rfl, hi, Z2, ρ2, F2, acc, xs, S2, P2, d2, z2, f2, e2⟩ := hW
 rcases Nat.lt_or_eq_of_le hi with hi | rfl
 ·right
  rw [List.drop_eq_getElem_cons hi] at e2
  have hd : ds[i]? = some ds[i] := List.getElem?_eq_getElem hi
  obtain ⟨go, yl⟩ := hJ.go H2 Z2 (f2.grow w) i _ hd
  obtain ⟨ρ3, e3, e2⟩ := oB e2
  obtain ⟨⟨b, ρ4⟩, e4, e2⟩ := oB e2
  refine ⟨go, fun τ' H' => ∃ m', m' < ds.length - i ∧ m' = ds.length - (i + 1) ∧ i + 1 ≤ ds.length ∧ ∃ Z' ρ' F' acc xs, Owo X.K H' Z' τ' ρ' F' ∧ Pin pv τ' ∧ H' D = some (.lst xs) ∧ Fzs X.K H' Z' xs acc ∧ Fut H1 Z1 A H' Z' (F' ++ [D]) ∧ zbP fg ft fe (ds.drop (i + 1)) ρ' acc = some r, fun τ' H' h => h, fun x H' hx => ?_⟩
  obtain ⟨s, fz⟩ := yl x H' hx
  have gs : zba H2 Z2 H' Z2 := zba.same s
  have S2' := S2.mono gs fun a _ o e => s a o e
  obtain ⟨m1, m2, m3⟩ := za5 f2.nd
  have alD : ∀ a ∈ F2 ++ [D], H2 a ≠ none := fun a h e => by
   rcases lM h with h | h
   ·exact S2.al a h e
   ·rw [List.mem_singleton.mp h, d2] at e; cases e
  have fs : Fut H2 Z2 (F2 ++ [D]) H' Z2 (F2 ++ [D]) := by
   have := (Fut.same s f2.za).news f2.wf alD
   rw [List.append_nil] at this
   exact this
  refine ⟨Z2, ρ2, F2, _, ρ3, S2', m1, P2, fz, e3, fun τ3 F3 S3 n3 s3 P3 => ?_⟩
  have f3 : Fut H1 Z1 A H' Z2 (F3 ++ [D]) := (f2.trans fs).sub (zaw n3 m2 fun a h z => m3 a (s3 a h) z) fun a h => by
   rcases lM h with h | h
   ·exact lL _ (s3 a h)
   ·exact lR _ h
  have d3 : H' D = some (.lst xs) := s D _ d2
  have alD3 : ∀ {Hx : Hp} {u : List V}, Hx D = some (.lst u) → ∀ a ∈ [D], Hx a ≠ none := fun {Hx u} h a ha e => by rw [List.mem_singleton.mp ha, h] at e; cases e
  refine ⟨Z2, ρ3, F3, b, ρ4, S3, f3.left.wf, e4, fun H4 Z4 F4 S4 g4 => ?_⟩
  have f4 : Fut H1 Z1 A H4 Z4 (F4 ++ [D]) := f3.trans (g4.frame f3.wf (alD3 d3))
  have d4 : H4 D = some (.lst xs) := g4.keep D _ (fun z => (za5 f3.nd).2.2 D z lS) d3
  have z4 := (z2.mono gs).mono (g4.grow f3.left.wf)
  cases b with
  | false => exact zl2 ⟨_, by omega, rfl, hi, Z4, ρ4, F4, acc, xs, S4, P3, d4, z4, f4, e2⟩
  | true =>
   obtain ⟨⟨o5, ρ5⟩, e5, e2⟩ := oB e2
   obtain ⟨⟨d, ρ6⟩, e6, e2⟩ := oB e2
   split at e2
   ·next hl =>
    refine zl3 ⟨Z4, ρ4, F4, o5, ρ5, S4, f4.left.wf, e5, fun y H5 Z5 F5 G5 S5 O5 g5 => ?_⟩
    have d5 : H5 D = some (.lst xs) := g5.keep D _ (fun z => (za5 f4.nd).2.2 D z lS) d4
    have f5 : Fut H1 Z1 A H5 Z5 (F5 ++ G5 ++ [D]) := f4.trans (g5.frame f4.wf (alD3 d4))
    obtain ⟨Z6, F6, S6, y6, f6, g6⟩ := freeze S5 O5 f5 e6
    have z6 := (z4.mono (g5.grow f4.left.wf)).mono g6
    obtain ⟨f7, g7⟩ := f6.put (o' := .lst (xs ++ [y])) d5 (fun _ z => nomatch z) (fun _ _ z => nomatch z)
    refine ⟨xs, d5, zgg (Nat.le_of_lt (by rw [z6.length]; exact hl)), _, by omega, rfl, hi, Z6, ρ6, F6, acc ++ [d], xs ++ [y], S6.mono g7 fun a h o e => ?_, P3, zaG, (z6.mono g7).append (.cons (y6.mono g7) .nil), f7, e2⟩
    have hne : a ≠ D := fun z => (za5 f6.nd).2.2 a h (by rw [z]; exact lS)
    rw [zaB hne]
    exact e
   ·cases e2
 ·left
  rw [List.drop_length] at e2
  cases e2
  exact ⟨hJ.stop H2 Z2 (f2.grow w) _ (Nat.le_refl _), q τ2 H2 Z2 F2 xs S2 P2 d2 z2 f2⟩
theorem zed {n : Nat} {js : List Nat} {fi : FI} {fg : FG} {ft : FT} {fe : FE} {σ : L2.St} {H : Hp} {Q : VK} {fr : List (Option Nat)} (hfr : fr = List.replicate n none ++ js.map some) (hq : vE X.K (vLC n js fi fg ft fe) σ H Q) :
  tLC fr (vI X.K fi) (fun _ => vG X.K (zgn n js σ) fg) (fun _ => vT X.K ft) (fun _ => vE X.K fe) σ H Q := by
 subst hfr
 obtain ⟨Z, ρ, F, o, ρ', S, w, e, q⟩ := hq
 obtain ⟨⟨ds, ρ1⟩, e1, e⟩ := oB e
 obtain ⟨os, e2, e⟩ := oB e
 obtain ⟨⟨ms, ρh⟩, e3, e⟩ := oB e
 obtain ⟨⟨acc, ρi⟩, e4, e⟩ := oB e
 obtain ⟨ms', e5, e⟩ := oB e
 cases e
 refine ⟨Z, ρ, F, ds, ρ1, S, w, e1, fun J H1 Z1 F1 S1 hJ f1 D hD z => ?_⟩
 obtain ⟨xs, O1, hxs, hxl⟩ := zfR S1 e2
 obtain ⟨A, Fh, h1, h2, h3, h4⟩ := zcV S1 O1 (by rw [List.append_nil]; exact f1.nd) e3
 rw [List.append_nil] at h4
 obtain ⟨n1, n2, n3⟩ := za5 h3
 have wA : Wf H1 Z1 A := ⟨n2, fun a h => f1.dz a (h4 a (lR _ h)), f1.za⟩
 have S0 := Owo.zfQ h1 n
 rw [zh1, ← hxs]
 have P0 := zjK n js σ
 rw [← hxs] at P0
 refine zkP (n := n) hD S0 wA P0 hJ e4 fun τ' H2 Z2 F2 ys S2 P2 d2 z2 f2 => ?_
 obtain ⟨m1, m2, m3⟩ := za5 f2.nd
 obtain ⟨F3, k1, k2, k3⟩ := S2.zi5 n m1
 have hml : ms.length = js.length := by rw [← h1.length, hxl]
 obtain ⟨A', a1, a2, a3⟩ := zec (vs := xs) k1 k2 (fun i x _ hx => by
  rw [List.getElem?_drop]
  refine P2 (n + i) x ?_
  unfold zgn
  rw [if_neg (by omega), show n + i - n = i by omega]
  have hmap : (js.map (slot σ))[i]? = some (some x) := by rw [← hxs, List.getElem?_map, hx]; rfl
  rw [List.getElem?_map] at hmap
  obtain ⟨j, hj, hj'⟩ := Option.map_eq_some_iff.mp hmap
  rw [hj]
  exact hj') (fun i x d h => by
   have := List.mem_of_getElem? h
   rw [List.mem_replicate] at this
   cases this.2) h1.length e5
 have n3' : ∀ a ∈ A, a ∉ Fh := fun a h z => n3 a z h
 have Sh : Owo X.K H2 Z2 σ ρh Fh := h2.mono (f2.grow wA) fun a h o e => f2.keep a o (n3 a h) e
 have fF := f2.frame (G := Fh) ⟨zaw n2 n1 n3', fun a h => by
  rcases lM h with h | h
  ·exact f1.dz a (h4 a (lR _ h))
  ·exact f1.dz a (h4 a (lL _ h)), f1.za⟩ h2.al
 obtain ⟨u1, u2, u3, u4, u5, u6⟩ := nd3 fF.nd
 obtain ⟨F4, p1, p2, p3⟩ := zc6 Sh O1 a1 (zaw u3 a2 fun a h z => u5 a (k3 a (a3 a z)) h) (zce e3)
 have f4 : Fut H Z F H1 Z1 (A ++ Fh) := f1.sub (zaw n2 n1 n3') fun a h => h4 a (by
  rcases lM h with h | h
  ·exact lR _ h
  ·exact lL _ h)
 refine q (.ref D) H2 Z2 F4 [D] p1 (.t (.lst d2 z2)) ((f4.trans fF).sub (zaw p2 u2 fun a h z => ?_) fun a h => ?_)
 ·rcases lM (p3 a h) with y | y
  ·exact u6 a z y
  ·exact u4 a (k3 a (a3 a y)) z
 ·rcases lM h with h | h
  ·rcases lM (p3 a h) with y | y
   ·exact lR _ y
   ·exact lL _ (lL _ (k3 a (a3 a y)))
  ·exact lL _ (lR _ h)
theorem ve_lc (n : Nat) (js : List Nat) {elt target iter : Expr} {ifs : List Expr} {scope : Scope} {N : List Str} {fr : List (Option Nat)} {pin : List Nat} {fi : FI} {fg : FG} {ft : FT} {fe : FE} (hfr : fr = List.replicate n none ++ js.map some) (hpin : pin = (List.range js.length).map (n + ·)) (hc : X.calm = true) (S : zaZ X scope N fr) (hi : VI X target iter fi)
  (hin : ∀ z : Bk, VG (zaS X scope z.cl N z.C z.fp z.s z.H) pin target fg ∧ VF (zaS X scope z.cl N z.C z.fp z.s z.H) ifs ft ∧ VE (zaS X scope z.cl N z.C z.fp z.s z.H) elt fe)
  (hs : ∀ x, foldedSetIterable iter X.env x = pure x := by intro _; rfl) : VE X (.ListComp elt [⟨target, iter, ifs, 0⟩] scope pos) (vLC n js fi fg ft fe) := fun pins s σ H Q I hq =>
 zko (g := fun _ => vG X.K (zgn n js σ) fg) (tt := fun _ => vT X.K ft) (te := fun _ => vE X.K fe) hc S hi (fun z => ⟨(hin z).1 _ (zgo n js σ hpin), (hin z).2.1, (hin z).2.2⟩) hs pins s σ H Q I (zed hfr hq)
end
end VL
end
section
namespace VL
open PySem PySem.Spec L2 PyProof.Rows
section
variable {K : PySem.W.Frag} {H H0 : Hp} {Z Z0 : Zs} {F F0 : List Addr} {σ : L2.St} {ρ : Ev}
theorem mut1 {i : Nat} {m : M} (S : Owo K H Z σ ρ F) (f : Fut H0 Z0 F0 H Z F) (e : at? ρ i = some m) : ∃ x G, σ[i]? = some (some x) ∧ Ow K H Z x m G ∧ ∀ a o', a ∈ G → zba H Z (upd H a o') Z ∧ (∀ b ∈ G, b ≠ a → ∀ o, H b = some o → upd H a o' b = some o) ∧
  ∀ m' G', (∀ b ∈ G', b ∈ G) → G'.Nodup → Ow K (upd H a o') Z x m' G' → ∃ F', Owo K (upd H a o') Z σ (ρ.set i (some m')) F' ∧ Fut H0 Z0 F0 (upd H a o') Z F' := by
 obtain ⟨x, G, F1, t1, t2, t3, t4, t5⟩ := S.take f.nd (zas.mp e)
 have hl := (List.getElem?_eq_some_iff.mp (zas.mp e)).1
 obtain ⟨n1, n2, n3⟩ := za5 t4
 refine ⟨x, G, t1, t2, fun a o' ha => ?_⟩
 obtain ⟨o, ho, hmu⟩ := t2.mem a ha
 have haF : a ∈ F := t5 a (lR _ ha)
 have nz : ¬ Z a := f.dz a haF
 have ne : ∀ b, b ≠ a → upd H a o' b = H b := fun b h => zaB h
 have g : zba H Z (upd H a o') Z := ⟨by
  rcases hmu with ⟨xs, rfl⟩ | ⟨kvs, rfl⟩
  ·exact zdF.lst ho
  ·exact zdF.dk ho, fun b o2 z h => by rw [ne b fun w => nz (w ▸ z)]; exact h, fun _ z => z⟩
 refine ⟨g, fun b _ h o2 e2 => by rw [ne b h]; exact e2, fun m' G' hs nd' h' => ?_⟩
 have S1 : Owo K (upd H a o') Z σ (ρ.set i none) F1 := t3.mono g fun b hb o2 e2 => by
  rw [ne b fun w => n3 b hb (w ▸ ha)]
  exact e2
 obtain ⟨F2, p1, p2, p3⟩ := S1.put h' (zaw n1 nd' fun b hb z => n3 b hb (hs b z)) (by rw [List.getElem?_set_self hl])
 rw [List.set_set, zfb t1] at p1
 have za : ∀ b, Z b → upd H a o' b ≠ none := fun b z => by
  rw [ne b fun w => nz (w ▸ z)]
  exact f.za b z
 have f1 : Fut H Z F (upd H a o') Z F := ⟨fun b o2 n h => by rw [ne b fun w => n (w ▸ haF)]; exact h, g.zca, fun _ z => z, fun b z => .inl z, fun b h => .inl h, f.nd, f.dz, za⟩
 refine ⟨F2, p1, (f.trans f1).sub p2 fun b hb => ?_⟩
 rcases lM (p3 b hb) with y | y
 ·exact t5 b (lL _ y)
 ·exact t5 b (lR _ (hs b y))
end
section
variable {X : Cx} {pos : Pos} {pin : List Nat}
def zis (i : Nat) (fa : FA) : FE := fun ρ => (at? ρ i).bind fun m0 => match m0 with
 | .lst _ => (fa ρ).bind fun p => match p.1 with
  | [o] => (zdH o p.2).bind fun q => (at? q.2 i).bind fun m => match m with
   | .lst ds => if ds.length < lim then some (.t (.v .none), q.2.set i (some (.lst (ds ++ [q.1])))) else none
   | _ => none
  | _ => none
 | _ => none
theorem zkQ {i : Nat} {fa : FA} {σ : L2.St} {H : Hp} {Q : VK} (hq : vE X.K (zis i fa) σ H Q) : tBM X.K "list" zem (zfp i) (vA X.K fa) σ H Q := by
 obtain ⟨Z, ρ, F, o, ρ', S, w, e, q⟩ := hq
 obtain ⟨m0, e0, e⟩ := oB e
 split at e
 ·rename_i ds0
  obtain ⟨x, G, h1, h2, _⟩ := S.get (zas.mp e0)
  obtain ⟨a, xs0, rfl, ha, _⟩ := (show Ro X.K H Z x (.lst ds0) from ⟨G, h2⟩).lst
  refine ⟨.ref a, h1, .inl ⟨rfl, _, SqL.of ha⟩, ?_⟩
  obtain ⟨⟨os, ρ1⟩, e1, e⟩ := oB e
  refine ⟨Z, ρ, F, os, ρ1, S, w, e1, fun xs H1 Z1 F1 G1 S1 O1 f1 => ?_⟩
  rcases os with _ | ⟨o1, _ | ⟨o2, os⟩⟩
  ·cases e
  ·obtain ⟨⟨d, ρ2⟩, e2, e⟩ := oB e
   obtain ⟨m, e3, e⟩ := oB e
   split at e
   ·rename_i ds
    split at e
    ·rename_i hl
     cases e
     cases O1 with
     | cons p1 r1 =>
      cases r1
      rw [List.append_nil] at f1
      obtain ⟨Z2, F2, S2, z2, f2, _⟩ := zdI S1 p1 f1 e2
      obtain ⟨x', G', k1, k2, k3⟩ := mut1 S2 f2 e3
      rw [h1] at k1; cases k1
      cases k2 with
      | lst hb fb =>
       obtain ⟨g, _, k4⟩ := k3 a (.lst (_ ++ [_])) lS
       obtain ⟨F3, S3, f3⟩ := k4 (.lst (ds ++ [d])) [a] (fun _ h => h) (List.nodup_cons.mpr ⟨List.not_mem_nil, List.nodup_nil⟩) (.lst zaG ((fb.append (.cons z2 .nil)).mono g))
       exact ⟨a, _, _, rfl, rfl, hb, zgg (Nat.le_of_lt (by rw [fb.length]; exact hl)), q .non _ Z2 F3 [] S3 (.t (.v .non)) f3.nil⟩
    ·cases e
   ·cases e
  ·cases e
 ·cases e
theorem zmT (i : Nat) {e : Expr} {es : List Expr} {fa : FA} {x : Str} {p1 p2 : Pos} (ha : VA X (e :: es) fa) (hpe : ∀ (to : TE) (t : TA), PE X (.Name x p1) to → PA X (e :: es) t → PE X (.Call (.Attribute (.Name x p1) "append" p2) (e :: es) [] pos) (tBM X.K "list" zem to t)) (hv : PE X (.Name x p1) (zfp i)) : VE X (.Call (.Attribute (.Name x p1) "append" p2) (e :: es) [] pos) (zis i fa) := zbk (hpe _ _ hv ha) fun _ _ _ hq => zkQ hq
def vpVar (i : Nat) : Ev → Option PyData := fun ρ => (at? ρ i).bind fun m => match m with
 | .v d => some d
 | _ => none
def putD (kvs : List (Key × PyData)) (k : Key) (d : PyData) : List (Key × PyData) := if (kvs.any fun kv => decide (kv.1 = k)) = true then kvs.map (fun kv => if kv.1 = k then (kv.1, d) else kv) else kvs ++ [(k, d)]
def zkR (i : Nat) (fk fe : FE) : FS := fun ρ => (fe ρ).bind fun p => (zdH p.1 p.2).bind fun q => (at? q.2 i).bind fun m0 => match m0 with
 | .v _ => none
 | _ => (fk q.2).bind fun r => (peek r.2 r.1).bind fun mk => (at? r.2 i).bind fun m => match m, mk with
  | .dic kvs, .v kd => (zg8 kd).bind fun k => if kvs.length < lim then some (.nx (r.2.set i (some (.dic (putD kvs k q.1))))) else none
  | .lst ds, .v (.int k) => (ixN ds.length k).bind fun j => some (.nx (r.2.set i (some (.lst (ds.set j q.1)))))
  | _, _ => none
theorem zh2 {K : PySem.W.Frag} {H : Hp} {Z : Zs} (k : Key) : ∀ {kxs : List (Key × V)} {kvs : List (Key × PyData)}, Fzk K H Z kxs kvs → (kxs.any fun kv => decide (kv.1 = k)) = (kvs.any fun kv => decide (kv.1 = k))
 | _, _, .nil => rfl
 | _, _, .cons _ r => by rw [List.any_cons, List.any_cons, zh2 k r]
theorem zfS {K : PySem.W.Frag} {H : Hp} {Z : Zs} {y : V} {d : PyData} {k : Key} (fy : Fz K H Z y d) : ∀ {kxs : List (Key × V)} {kvs : List (Key × PyData)}, Fzk K H Z kxs kvs → Fzk K H Z (kxs.map fun kv => if kv.1 = k then (kv.1, y) else kv) (kvs.map fun kv => if kv.1 = k then (kv.1, d) else kv)
 | _, _, .nil => .nil
 | _, _, .cons (k := k') h r => by
  rw [List.map_cons, List.map_cons]
  by_cases hk : k' = k
  ·simp only [hk, if_true]; exact .cons fy (zfS fy r)
  ·simp only [hk, if_false]; exact .cons h (zfS fy r)
theorem zgp {K : PySem.W.Frag} {H : Hp} {Z : Zs} {y : V} {d : PyData} {k : Key} (fy : Fz K H Z y d) : ∀ {kxs : List (Key × V)} {kvs : List (Key × PyData)}, Fzk K H Z kxs kvs → Fzk K H Z (kxs ++ [(k, y)]) (kvs ++ [(k, d)])
 | _, _, .nil => .cons fy .nil
 | _, _, .cons h r => .cons h (zgp fy r)
theorem Fzk.put {K : PySem.W.Frag} {H : Hp} {Z : Zs} {y : V} {d : PyData} {k : Key} (fy : Fz K H Z y d) {kxs : List (Key × V)} {kvs : List (Key × PyData)} (r : Fzk K H Z kxs kvs) : Fzk K H Z (putK kxs k y) (putD kvs k d) := by
 unfold putK putD
 rw [zh2 k r]
 split
 ·exact zfS fy r
 ·exact zgp fy r
theorem zmU {st : Stmt} {t u : TS} (h : PS X st t) (h' : PS X st u) : PS X st (fun D σ H => t D σ H ∨ u D σ H) := fun pins s σ H D I q => q.elim (h pins s σ H D I) (h' pins s σ H D I)
theorem zh3 {i : Nat} {fk fe : FE} {pv : Pv} {D : Ends} {σ : L2.St} {H : Hp} {Z : Zs} {ρ : Ev} {F : List Addr} {o1 o2 : Opd} {d : PyData} {ρ1 ρ2 ρ3 : Ev} {mk m m' : M} (S : Owo X.K H Z σ ρ F) (w : Wf H Z F) (P : Pin pv σ) (e1 : fe ρ = some (o1, ρ1)) (e2 : zdH o1 ρ1 = some (d, ρ2)) (e4 : fk ρ2 = some (o2, ρ3)) (e5 : peek ρ3 o2 = some mk) (e6 : at? ρ3 i = some m)
  (q : zjH X.K pv D H Z F (.nx (ρ3.set i (some m')))) {a : Addr} {m0 : M} (e3 : at? ρ2 i = some m0) (hm0 : ∀ d, m0 ≠ .v d)
  (R : V → V → V → Hp → Prop) (hR : ∀ H3 Z3 x v k, Ro X.K H3 Z3 x m → Fz X.K H3 Z3 v d → Ro X.K H3 Z3 k mk → (∀ G, Ow X.K H3 Z3 x m G → ∀ a o', a ∈ G → (zba H3 Z3 (upd H3 a o') Z3 → Ow X.K (upd H3 a o') Z3 x m' G) → D.nx σ (upd H3 a o')) → R x v k H3) :
  vE X.K fe σ H fun v H1 => zfp i σ H1 fun x H2 => vE X.K fk σ H2 fun k H3 => R x v k H3 := by
 refine ⟨Z, ρ, F, o1, ρ1, S, w, e1, fun v H1 Z1 F1 G1 S1 O1 f1 => ?_⟩
 obtain ⟨Z2, F2, S2, z2, f2, _⟩ := zdI S1 O1 f1 e2
 obtain ⟨x, G, h1, h2, _⟩ := S2.get (zas.mp e3)
 refine ⟨x, h1, Z2, ρ2, F2, o2, ρ3, S2, f2.wf, e4, fun k H3 Z3 F3 G3 S3 O3 f3 => ?_⟩
 have f4 := f2.trans f3.left
 obtain ⟨x', G', k1, k2, k3⟩ := mut1 S3 f4 e6
 rw [h1] at k1; cases k1
 refine hR H3 Z3 x v k ⟨G', k2⟩ (z2.mono (f3.grow f2.wf)) (O3.peek S3 e5) fun G2 hG a o' ha hk => ?_
 have eG : G2 = G' := by
  have : ∀ {x : V} {m : M} {A B : List Addr}, Ow X.K H3 Z3 x m A → Ow X.K H3 Z3 x m B → A = B := fun {x m A B} r r' => by
   cases r with
   | v _ => cases r'; rfl
   | lst _ _ => cases r'; rfl
   | dic _ _ => cases r'; rfl
   | dls e r =>
    cases r' with
    | dls e' r' =>
     rw [e] at e'; cases e'
     have : ∀ {kxs : List (Key × V)} {kvs : List (Key × List PyData)} {G G' : List Addr}, Owl X.K H3 Z3 kxs kvs G → Owl X.K H3 Z3 kxs kvs G' → G = G' := fun {kxs kvs G G'} r r' => by
      induction r generalizing G' with
      | nil => cases r'; rfl
      | cons _ _ _ ih => cases r' with
       | cons _ _ r2 => rw [ih r2]
     rw [this r r']
  exact this hG k2
 subst eG
 obtain ⟨g, _, k4⟩ := k3 a o' ha
 have ndG : G2.Nodup := by
  obtain ⟨x2, G3', F1', t1, t2, t3, t4, t5⟩ := S3.take f4.nd (zas.mp e6)
  rw [h1] at t1; cases t1
  have : ∀ {x : V} {m : M} {A B : List Addr}, Ow X.K H3 Z3 x m A → Ow X.K H3 Z3 x m B → A = B := fun {x m A B} r r' => by
   cases r with
   | v _ => cases r'; rfl
   | lst _ _ => cases r'; rfl
   | dic _ _ => cases r'; rfl
   | dls e r =>
    cases r' with
    | dls e' r' =>
     rw [e] at e'; cases e'
     have : ∀ {kxs : List (Key × V)} {kvs : List (Key × List PyData)} {G G' : List Addr}, Owl X.K H3 Z3 kxs kvs G → Owl X.K H3 Z3 kxs kvs G' → G = G' := fun {kxs kvs G G'} r r' => by
      induction r generalizing G' with
      | nil => cases r'; rfl
      | cons _ _ _ ih => cases r' with
       | cons _ _ r2 => rw [ih r2]
     rw [this r r']
  rw [this k2 t2]
  exact (za5 t4).2.1
 obtain ⟨F5, S5, f5⟩ := k4 m' G2 (fun _ h => h) ndG (hk g)
 exact q σ _ Z3 F5 S5 f5 P
theorem zkS {i : Nat} {fk fe : FE} {pv : Pv} {D : Ends} {σ : L2.St} {H : Hp} (hq : vS X.K pv (zkR i fk fe) D σ H) : zkk (zfp i) (vE X.K fk) (vE X.K fe) D σ H ∨ ziz (vE X.K fe) (zlx (zfp i) (vE X.K fk) zht) D σ H := by
 obtain ⟨Z, ρ, F, o, S, w, P, e, q⟩ := hq
 obtain ⟨⟨o1, ρ1⟩, e1, e⟩ := oB e
 obtain ⟨⟨d, ρ2⟩, e2, e⟩ := oB e
 obtain ⟨m0, e3, e⟩ := oB e
 have main : (∀ d, m0 ≠ .v d) → ((fk ρ2).bind fun r => (peek r.2 r.1).bind fun mk => (at? r.2 i).bind fun m => match m, mk with
  | .dic kvs, .v kd => (zg8 kd).bind fun k => if kvs.length < lim then some (Out.nx (r.2.set i (some (.dic (putD kvs k d))))) else none
  | .lst ds, .v (.int k) => (ixN ds.length k).bind fun j => some (.nx (r.2.set i (some (.lst (ds.set j d)))))
  | _, _ => none) = some o → zkk (zfp i) (vE X.K fk) (vE X.K fe) D σ H ∨ ziz (vE X.K fe) (zlx (zfp i) (vE X.K fk) zht) D σ H := fun hm0 e => by
  obtain ⟨⟨o2, ρ3⟩, e4, e⟩ := oB e
  obtain ⟨mk, e5, e⟩ := oB e
  obtain ⟨m, e6, e⟩ := oB e
  split at e
  ·rename_i kvs kd
   obtain ⟨k, e7, e⟩ := oB e
   split at e
   ·rename_i hl
    injection e with e
    subst e
    refine .inl (zh3 (a := 0) S w P e1 e2 e4 e5 e6 q e3 hm0 _ fun H3 Z3 x v y hx hv hy fin => ?_)
    obtain ⟨G, hG⟩ := hx
    cases hG with
    | dic ha fk' =>
     obtain rfl := zdJ hy.fz e7
     exact ⟨_, _, rfl, zlX.k ha (zgg (Nat.le_of_lt (by rw [fk'.length]; exact hl))), fin _ (.dic ha fk') _ _ lS fun g => .dic zaG (Fzk.put (hv.mono g) (fk'.mono g))⟩
   ·cases e
  ·rename_i ds k
   obtain ⟨j, e7, e⟩ := oB e
   injection e with e
   subst e
   refine .inr (zh3 (a := 0) S w P e1 e2 e4 e5 e6 q e3 hm0 _ fun H3 Z3 x v y hx hv hy fin => ?_)
   obtain ⟨G, hG⟩ := hx
   cases hG with
   | lst ha fs =>
    obtain rfl := hy.int
    exact ⟨_, _, _, j, rfl, rfl, ha, by rw [fs.length]; exact e7, fin _ (.lst ha fs) _ _ lS fun g => .lst zaG ((fs.mono g).set j (hv.mono g))⟩
  ·cases e
 cases m0 with
 | v d => cases e
 | lst _ => exact main (fun _ z => nomatch z) e
 | dic _ => exact main (fun _ z => nomatch z) e
 | dls _ => exact main (fun _ z => nomatch z) e
theorem zmV (i : Nat) {o k e : Expr} {fk fe : FE} {pos' : Pos} (hu : X.A.units + 64 < cLine) (ho : PE X o (zfp i)) (hk : VE X k fk) (he : VE X e fe) (hs : swapsWith e (some (.Subscript o k pos')) pos.line X.env = pure false)
  (hps : ∀ (te : TE) (t : TG), PE X e te → PG X (.Subscript o k pos') t → PS X (.Assign [.Subscript o k pos'] e pos) (ziz te t)) (hpg : ∀ to ti : TE, PE X o to → PE X k ti → PG X (.Subscript o k pos') (zlx to ti zht)) : VS X pin (.Assign [.Subscript o k pos'] e pos) (zkR i fk fe) := fun pv hp =>
 zde (zmU (zkm (by omega) ho hk he hs) (hps _ _ he (hpg _ _ ho hk))) fun _ _ _ hq => zkS hq
end
end VL
end
section
namespace VL
open PySem PySem.Spec L2 PyProof.Rows
section
variable {X : Cx} {pos : Pos} {pin : List Nat}
theorem zkT {i : Nat} {f : FE} {pv : Pv} {D : Ends} {σ : L2.St} {H : Hp} (hp : Sup pv pin) (hp0 : i ∉ pin) (hq : vS X.K pv (zcF i f) D σ H) : vE X.K f σ H fun x H1 => D.nx (σ.set i (some x)) H1 := by
 obtain ⟨Z, ρ, F, o, S, w, P, e, q⟩ := hq
 obtain ⟨⟨o1, ρ1⟩, e1, e⟩ := oB e
 obtain ⟨⟨m, ρ2⟩, e2, e⟩ := oB e
 obtain ⟨ρ3, e3, e⟩ := oB e
 cases e
 refine ⟨Z, ρ, F, o1, ρ1, S, w, e1, fun y H1 Z1 F1 G1 S1 O1 f1 => ?_⟩
 obtain ⟨Z2, F2, G2, h1, h2, h3⟩ := moved S1 O1 f1 e2
 obtain ⟨F3, k1, k2, k3⟩ := h1.zfc h2 h3.nd e3
 exact q _ H1 Z2 F3 k1 (h3.sub k2 k3) (P.set hp hp0)
theorem zmW {i : Nat} {x : Str} (n : Nat) (js : List Nat) {elt target iter : Expr} {ifs : List Expr} {scope : Scope} {N : List Str} {fr : List (Option Nat)} {pinI : List Nat} {fi : FI} {fg : FG} {ft : FT} {fe : FE} {pos' spos : Pos} (hp0 : i ∉ pin) (hN : X.N.Nodup) (hi' : X.N[i]? = some x) (hx : X.env.scope.names.lookup x = some .local)
  (hfr : fr = List.replicate n none ++ js.map some) (hpin : pinI = (List.range js.length).map (n + ·)) (hc : X.calm = true) (S : zaZ X scope N fr) (hi : VI X target iter fi)
  (hin : ∀ z : Bk, VG (zaS X scope z.cl N z.C z.fp z.s z.H) pinI target fg ∧ VF (zaS X scope z.cl N z.C z.fp z.s z.H) ifs ft ∧ VE (zaS X scope z.cl N z.C z.fp z.s z.H) elt fe)
  (hs : ∀ x, foldedSetIterable iter X.env x = pure x := by intro _; rfl) (hsw : swapsWith (.ListComp elt [⟨target, iter, ifs, 0⟩] scope pos) (some (.Name x pos')) spos.line X.env = pure true := by rfl) :
  VS X pin (.Assign [.Name x pos'] (.ListComp elt [⟨target, iter, ifs, 0⟩] scope pos) spos) (zcF i (vLC n js fi fg ft fe)) := fun pv hp pins s σ H D I hq =>
 zma (g := fun _ => vG X.K (zgn n js σ) fg) (tt := fun _ => vT X.K ft) (te := fun _ => vE X.K fe) hN hi' hx hc S hi (fun z => ⟨(hin z).1 _ (zgo n js σ hpin), (hin z).2.1, (hin z).2.2⟩) hs hsw pins s σ H D I (zed hfr (zkT hp hp0 hq))
end
end VL
end
section
namespace VL
open PySem PySem.Spec L2 PyProof.Rows
end VL
end
section
namespace VL
open PySem PySem.Spec L2 PyProof.Rows
structure WE (X : Cx) (e : Expr) (f : FE) : Prop where
 h : VE X e f
structure WA (X : Cx) (e : List Expr) (f : FA) : Prop where
 h : VA X e f
structure WT (X : Cx) (e : Expr) (f : FT) : Prop where
 h : VT X e f
structure WW (X : Cx) (e : Expr) (f : FT) : Prop where
 h : VW X e f
structure WO (X : Cx) (e : Option Expr) (f : FO) : Prop where
 h : PO X e (vO X.K f)
structure WI (X : Cx) (tg e : Expr) (f : FI) : Prop where
 h : VI X tg e f
structure WG (X : Cx) (pin : List Nat) (tg : Expr) (f : FG) : Prop where
 h : VG X pin tg f
structure WGs (X : Cx) (pin : List Nat) (tg : List Expr) (f : FGs) : Prop where
 h : VGs X pin tg f
structure WF (X : Cx) (e : List Expr) (f : FT) : Prop where
 h : VF X e f
structure WS (X : Cx) (pin : List Nat) (st : Stmt) (f : FS) : Prop where
 h : VS X pin st f
structure WSs (X : Cx) (pin : List Nat) (st : List Stmt) (f : FS) : Prop where
 h : VSs X pin st f
section
variable {X : Cx} {pos : Pos} {pin : List Nat}
theorem wv (i : Nat) {x : Str} {pos : Pos} (hN : X.N[i]? = some x := by rfl) (hv : Vis X.env.scope x := by first | exact Or.inl rfl | exact Or.inr (Or.inl rfl) | exact Or.inr (Or.inr rfl)) (hd : (x == ("__debug__" : Str)) = false := by decide)
  (hcd : (x == ("__classdict__" : Str)) = false := by decide) : WE X (.Name x pos) (zah i) := ⟨vv i hN hv hd hcd⟩
theorem zac {i j pos} : WE X (.Constant (.int i) j pos) (vC (.int i)) := ⟨zmf⟩
theorem zdo {i j pos} : WE X (.Constant (.bool i) j pos) (vC (.bool i)) := ⟨ve_bl⟩
theorem zjL {j pos} : WE X (.Constant .none j pos) (vC .none) := ⟨zmg⟩
theorem zaH {x j pos} : WE X (.Constant (.str x) j pos) (vC (.str x)) := ⟨zmh⟩
theorem zkU {x : Str} {i : Int} {pos : Pos} (hg : Gl X x) (hm : ∃ t, X.mg x = some (.int i t)) (hd : (x == ("__debug__" : Str)) = false := by decide) : WE X (.Name x pos) (vC (.int i)) := by
 obtain ⟨t, hm⟩ := hm
 exact ⟨zme (zjW hg hm (v := .int i) ⟨t, rfl⟩ hd) fun _ _ => .int i⟩
theorem zat {op : Operator} {a b : Expr} {g : M → M → Option M} {fa fb : FE} (ho : OpR X (binaryOp op) (rM X.K g)) (ha : WE X a fa) (hb : WE X b fb) : WE X (.BinOp a op b pos) (vB g fa fb) := ⟨ve_op rM_v ho ha.h hb.h⟩
theorem zcv {op : CmpOp} {a b : Expr} {g : M → M → Option M} {fa fb : FE} (ho : OpR X (compareOp op) (rM X.K g)) (ha : WE X a fa) (hb : WE X b fb) (hm : behindInMarks op b = false) : WE X (.Compare a [op] [b] pos) (vB g fa fb) := ⟨zmi rM_v ho ha.h hb.h hm⟩
theorem zbs {op : CmpOp} {a b : Expr} {g : M → M → Option M} {fa fb : FE} (ho : OpR X (compareOp op) (rM X.K g)) (ha : WE X a fa) (hb : WE X b fb) (hm : behindInMarks op b = false) : WT X (.Compare a [op] [b] pos) (zbW (vB g fa fb)) := ⟨zml rM_v ho ha.h hb.h hm⟩
theorem zfd {a b : Expr} {fa fb : FE} (hu : X.A.units + 64 < cLine) (ha : WE X a fa) (hb : WE X b fb) (hm : behindInMarks .In b = false := by rfl) : WE X (.Compare a [.In] [b] pos) (vB (inA false) fa fb) := ⟨ve_in hu ha.h hb.h hm⟩
theorem zi6 {a b : Expr} {fa fb : FE} (hu : X.A.units + 64 < cLine) (ha : WE X a fa) (hb : WE X b fb) (hm : behindInMarks .NotIn b = false := by rfl) : WT X (.Compare a [.NotIn] [b] pos) (zbW (vB (inA true) fa fb)) := ⟨ziZ hu ha.h hb.h hm⟩
theorem zi7 {op op' : CmpOp} {a b c : Expr} {g g' : M → M → Option M} {fa fb fc : FE} (ho : OpR X (compareOp op) (rM X.K g)) (ho' : OpR X (compareOp op') (rM X.K g')) (ha : WE X a fa) (hb : WE X b fb) (hc : WE X c fc) (hm : lastMarks [op, op'] [b, c] = false := by with_unfolding_all rfl) : WE X (.Compare a [op, op'] [b, c] pos) (zd9 g g' fa fb fc) := ⟨zi0 ho ho' ha.h hb.h hc.h hm⟩
theorem zcw {e : Expr} {f : FE} (h : WE X e f) (he : ∀ whole, isTrue e X.env whole = (do let v ← whole; standAt e.pos; holding [v] (truthy v)) := by intro _; rfl) : WT X e (zea f) := ⟨zmz h.h he⟩
theorem zcX {a : Expr} {f : FT} (h : WT X a f) : WT X (.UnaryOp .Not a pos) (zd8 f) := ⟨zmm h.h⟩
theorem zh4 {e : Expr} {f : FT} (h : WW X e f) : WT X e f := ⟨PW.pt h.h⟩
theorem zkV {a : Expr} {f : FT} (h : WT X a f) : WW X (.BoolOp .And [a] pos) f := ⟨zkz h.h⟩
theorem zgq {a : Expr} {f : FT} (h : WT X a f) : WW X (.BoolOp .Or [a] pos) f := ⟨zmn h.h⟩
theorem zjM {a b : Expr} {rest : List Expr} {f g : FT} (h : WT X a f) (h' : WW X (.BoolOp .And (b :: rest) pos) g) : WW X (.BoolOp .And (a :: b :: rest) pos) (zg6 f g) := ⟨zmo h.h h'.h⟩
theorem zh5 {a b : Expr} {rest : List Expr} {f g : FT} (h : WT X a f) (h' : WW X (.BoolOp .Or (b :: rest) pos) g) : WW X (.BoolOp .Or (a :: b :: rest) pos) (vOr f g) := ⟨vw_or h.h h'.h⟩
theorem zbo {a b : Expr} {rest : List Expr} {fa fb : FE} (ha : WE X a fa) (hb : WE X (.BoolOp .And (b :: rest) pos) fb) : WE X (.BoolOp .And (a :: b :: rest) pos) (zbE fa fb) := ⟨zmp ha.h hb.h⟩
theorem zbT {op a} {f : FE} (h : WE X a f) : WE X (.BoolOp op [a] pos) f := ⟨zmq h.h⟩
theorem zh6 {a : Expr} {fa : FE} (ha : WE X a fa) : WE X (.UnaryOp .Not a pos) (zfK fa) := ⟨zmr ha.h⟩
theorem zfe {a : Expr} {fa : FE} (ha : WE X a fa) : WE X (.UnaryOp .USub a pos) (vU ziq fa) := ⟨zmA ha.h⟩
theorem zff : WA X [] zd1 := ⟨zmj⟩
theorem zad {a : Expr} {fa : FE} (ha : WE X a fa) (hs : starEach [a] X.env = [(false, eval a X.env)] := by rfl) : WA X [a] (zae fa) := ⟨zmk ha.h hs⟩
theorem zab {a : Expr} {as : List Expr} {fa : FE} {fr : FA} (ha : WE X a fa) (hr : WA X as fr) (hs : starEach (a :: as) X.env = (false, eval a X.env) :: starEach as X.env := by rfl) : WA X (a :: as) (zaa fa fr) := ⟨zky ha.h hr.h hs⟩
def zh7 (ns : List Int) : FA := fun ρ => some (ns.map fun n => .t (.v (.int n)), ρ)
theorem zfg {K : PySem.W.Frag} {H : Hp} {Z : Zs} {σ : L2.St} : ∀ ns : List Int, zfq K H Z σ (ns.map V.int) (ns.map fun n => .t (.v (.int n))) []
 | [] => .nil
 | n :: ns => .cons (G := []) (.t (.v (.int n))) (zfg ns)
theorem zkW {es : List Expr} {ns : List Int} (h : zeq es = some ns) : WA X es (zh7 ns) := ⟨zgf (zgc es ns h) fun σ H Q hq => by
 obtain ⟨Z, ρ, F, o, ρ', S, w, e, q⟩ := hq
 cases e
 exact q _ H Z F [] S (zfg ns) (Fut.refl w).nil⟩
theorem zaO {es : List Expr} {k : Nat} {fa : FA} (h : WA X es fa) : WE X (.Tuple es k pos) (zbF fa) := ⟨zmv h.h⟩
theorem zbX {es : List Expr} {fa : FA} (h : WA X es fa) : WE X (.List es pos) (zeD fa) := ⟨zmw h.h⟩
theorem zkX : WE X (.Dict [] [] pos) ziY := ⟨zkC⟩
theorem za2 {a b : Expr} {fa fb : FE} (hu : X.A.units + 64 < cLine) (ha : WE X a fa) (hb : WE X b fb) (hs : zfA b) : WE X (.Subscript a b pos) (vIx fa fb) := ⟨ve_ix hu ha.h hb.h hs⟩
theorem zbh : WO X none zbb := ⟨zkD⟩
theorem zbi {e : Expr} {f : FE} (h : WE X e f) : WO X (some e) (zbc f) := ⟨zkE h.h⟩
theorem zcD {e : Expr} {lo hi : Option Expr} {p2 : Pos} {fa : FE} {fl fh : FO} (ha : WE X e fa) (hl : WO X lo fl) (hh : WO X hi fh) : WE X (.Subscript e (.Slice lo hi none p2) pos) (vSl fa fl fh) := ⟨ve_sl ha.h hl.h hh.h⟩
theorem zbz {id : String} {x : Str} {p : Pos} {e : Expr} {es : List Expr} {g : List M → Option M} {fa : FA} (hc : za3 X (.builtin id) (rLM X.K g)) (hg : Gl X x) (hm : X.mg x = none) (hv : bootBuiltins x = some (.builtin id)) (ha : WA X (e :: es) fa) (hn : x ≠ "__name__" := by decide) (hdb : (x == ("__debug__" : Str)) = false := by decide)
  (he : starEach (e :: es) X.env = (false, eval e X.env) :: starEach es X.env := by rfl) (hpl : (backTo pos (starEach es X.env)).any (·.1) = false := by rfl) : WE X (.Call (.Name x p) (e :: es) [] pos) (vCB g fa) := ⟨ve_cb hc hg hm hv ha.h hn hdb he hpl⟩
theorem zdM {T : String} {x : Str} {p : Pos} {e : Expr} {es : List Expr} {g : List M → Option M} {fa : FA} (hc : za3 X (.type T) (rLM X.K g)) (hg : Gl X x) (hm : X.mg x = none) (hv : bootBuiltins x = some (.type T)) (ha : WA X (e :: es) fa) (hn : x ≠ "__name__" := by decide) (hdb : (x == ("__debug__" : Str)) = false := by decide)
  (he : starEach (e :: es) X.env = (false, eval e X.env) :: starEach es X.env := by rfl) (hpl : (backTo pos (starEach es X.env)).any (·.1) = false := by rfl) : WE X (.Call (.Name x p) (e :: es) [] pos) (vCB g fa) := ⟨ve_ct hc hg hm hv ha.h hn hdb he hpl⟩
theorem zbB {p p2 : Pos} {e : Expr} (c : String) {y : Str} {fa : FE} (hc : c ∈ zbD) (hn : c ≠ "NoneType") (hg : Gl X "isinstance") (hm : X.mg "isinstance" = none) (hv : bootBuiltins "isinstance" = some (.builtin "isinstance")) (ha : WE X e fa) (hy : PE X (.Name y p2) (tC (.ty c)))
  (he : starEach [e, .Name y p2] X.env = [(false, eval e X.env), (false, eval (.Name y p2) X.env)] := by rfl) (he2 : starEach [.Name y p2] X.env = [(false, eval (.Name y p2) X.env)] := by rfl) (hpl : (backTo pos (starEach [.Name y p2] X.env)).any (·.1) = false := by rfl) : WE X (.Call (.Name "isinstance" p) [e, .Name y p2] [] pos) (vU (zdv c) fa) := ⟨zmD hc hn hg hm hv ha.h hy he he2 hpl⟩
theorem zaV {x : Str} {ps : List Str} {k k' : Nat} {g : FF} {e : Expr} {es : List Expr} {fa : FA} {p : Pos} (C : zaJ X.prog X.w X.K X.mg X.base x ps k (spV X.K g)) (hr : zdR k' X.A) (hg : Gl X x) (ha : WA X (e :: es) fa) (hk : k ≤ k' := by first | decide | exact Nat.le_refl _ | omega) (hdb : (x == ("__debug__" : Str)) = false := by decide)
  (he : starEach (e :: es) X.env = (false, eval e X.env) :: starEach es X.env := by rfl) (hpl : (backTo pos (starEach es X.env)).any (·.1) = false := by rfl) : WE X (.Call (.Name x p) (e :: es) [] pos) (vFn g fa) := ⟨ve_fn C hr hg ha.h hk hdb he hpl⟩
theorem zjN (i : Nat) {e : Expr} {es : List Expr} {fa : FA} {x : Str} {p1 p2 : Pos} (ha : WA X (e :: es) fa) (hpe : ∀ (to : TE) (t : TA), PE X (.Name x p1) to → PA X (e :: es) t → PE X (.Call (.Attribute (.Name x p1) "append" p2) (e :: es) [] pos) (tBM X.K "list" zem to t)) (hv : PE X (.Name x p1) (zfp i)) : WE X (.Call (.Attribute (.Name x p1) "append" p2) (e :: es) [] pos) (zis i fa) := ⟨zmT i ha.h hpe hv⟩
theorem zfT (n : Nat) (js : List Nat) {elt target iter : Expr} {ifs : List Expr} {scope : Scope} {N : List Str} {fr : List (Option Nat)} {pin : List Nat} {fi : FI} {fg : FG} {ft : FT} {fe : FE} (hfr : fr = List.replicate n none ++ js.map some) (hpin : pin = (List.range js.length).map (n + ·)) (hc : X.calm = true) (S : zaZ X scope N fr) (hi : WI X target iter fi)
  (hin : ∀ z : Bk, WG (zaS X scope z.cl N z.C z.fp z.s z.H) pin target fg ∧ WF (zaS X scope z.cl N z.C z.fp z.s z.H) ifs ft ∧ WE (zaS X scope z.cl N z.C z.fp z.s z.H) elt fe)
  (hs : ∀ x, foldedSetIterable iter X.env x = pure x := by intro _; rfl) : WE X (.ListComp elt [⟨target, iter, ifs, 0⟩] scope pos) (vLC n js fi fg ft fe) := ⟨ve_lc n js hfr hpin hc S hi.h (fun z => ⟨(hin z).1.h, (hin z).2.1.h, (hin z).2.2.h⟩) hs⟩
theorem zbY : WF X [] zb9 := ⟨zmS⟩
theorem zb7 {tg l : Expr} {f : FE} (h : WE X l f) : WI X tg l (zbA f) := ⟨zmM h.h⟩
theorem zc7 {tg a : Expr} {fa : FA} {p : Pos} (hg : Gl X "range") (hm : X.mg "range" = none) (ha : WA X [a] fa) (hs : starEach [a] X.env = [(false, eval a X.env)] := by rfl) : WI X tg (.Call (.Name "range" p) [a] [] pos) (zcf zfP fa) := ⟨zkN hg hm ha.h hs⟩
theorem zmX {a b : Expr} {fa : FA} {p tp : Pos} {es : List Expr} {k : Nat} (hg : Gl X "zip") (hm : X.mg "zip" = none) (ha : WA X [a, b] fa) (hs : starEach [a, b] X.env = [(false, eval a X.env), (false, eval b X.env)] := by rfl) (hs2 : starEach [b] X.env = [(false, eval b X.env)] := by rfl) : WI X (.Tuple es k tp) (.Call (.Name "zip" p) [a, b] [] pos) (zcf zmO fa) := ⟨zmP hg hm ha.h hs hs2⟩
theorem zax {i : Nat} {x : Str} (hp0 : i ∉ pin) (hN : X.N.Nodup) (hi : X.N[i]? = some x) (hx : Loc X.env.scope x) (hf : X.fn x = true ∨ X.env.scope.names.lookup x = some .local := by first | exact .inl rfl | exact .inr rfl | assumption) : WG X pin (.Name x pos) (zaj i) := ⟨zkJ hp0 hN hi hx hf⟩
theorem zdN : WGs X pin [] zcW := ⟨zkK⟩
theorem zby {e : Expr} {es : List Expr} {f : FG} {g : FGs} (h1 : WG X pin e f) (h2 : WGs X pin es g) (hs : (assignEach (e :: es) X.env).map (·.2) = assign e X.env :: (assignEach es X.env).map (·.2) := by rfl) : WGs X pin (e :: es) (za0 f g) := ⟨zi4 h1.h h2.h hs⟩
theorem zfh {es : List Expr} {k : Nat} (n : Nat) {g : FGs} (hc : X.calm = true) (h : WGs X pin es g) (hn : (assignEach es X.env).length = n := by rfl) (hst : (assignEach es X.env).findIdx? (·.1) = none := by rfl) : WG X pin (.Tuple es k pos) (zcC n g) := ⟨zmG hc h.h fun _ h => zlw hc h hn hst⟩
theorem zaI : WSs X pin [] za9 := ⟨zkF⟩
theorem zak {st : Stmt} {f : FS} (h : WS X pin st f) : WSs X pin [st] f := ⟨zkH h.h⟩
theorem zai {st : Stmt} {rest : List Stmt} {f g : FS} (h1 : WS X pin st f) (h2 : WSs X pin rest g) : WSs X pin (st :: rest) (zbg f g) := ⟨zi2 h1.h h2.h⟩
theorem zbQ {c : Expr} {a b : List Stmt} {fc : FT} {f g : FS} (hc : WT X c fc) (ha : WSs X pin a f) (hb : WSs X pin b g) : WS X pin (.If c a b pos) (zcu fc f g) := ⟨vs_if hc.h ha.h hb.h⟩
theorem zh8 {e : Expr} {f : FE} (h : WE X e f) (hs : swapsWith e none pos.line X.env = pure false := by rfl) : WS X pin (.Expr e pos) (zex f) := ⟨zkI h.h hs⟩
theorem zaq {e : Expr} {f : FE} (h : WE X e f) : WS X pin (.Return (some e) pos) (zbJ f) := ⟨zmE h.h⟩
theorem zbC {i : Nat} {x : Str} {e : Expr} {f : FE} {pos' : Pos} (hp0 : i ∉ pin) (hN : X.N.Nodup) (hi : X.N[i]? = some x) (hx : Loc X.env.scope x) (he : WE X e f) (hs : swapsWith e (some (.Name x pos')) pos.line X.env = pure false := by rfl) (hf : X.fn x = true ∨ X.env.scope.names.lookup x = some .local := by first | exact .inl rfl | exact .inr rfl | assumption) :
  WS X pin (.Assign [.Name x pos'] e pos) (zcF i f) := ⟨zmF hp0 hN hi hx he.h hs hf⟩
theorem zjO {i : Nat} {x : Str} (n : Nat) (js : List Nat) {elt target iter : Expr} {ifs : List Expr} {scope : Scope} {N : List Str} {fr : List (Option Nat)} {pinI : List Nat} {fi : FI} {fg : FG} {ft : FT} {fe : FE} {pos' spos : Pos} (hp0 : i ∉ pin) (hN : X.N.Nodup) (hi' : X.N[i]? = some x) (hx : X.env.scope.names.lookup x = some .local)
  (hfr : fr = List.replicate n none ++ js.map some) (hpin : pinI = (List.range js.length).map (n + ·)) (hc : X.calm = true) (S : zaZ X scope N fr) (hi : WI X target iter fi)
  (hin : ∀ z : Bk, WG (zaS X scope z.cl N z.C z.fp z.s z.H) pinI target fg ∧ WF (zaS X scope z.cl N z.C z.fp z.s z.H) ifs ft ∧ WE (zaS X scope z.cl N z.C z.fp z.s z.H) elt fe)
  (hs : ∀ x, foldedSetIterable iter X.env x = pure x := by intro _; rfl) (hsw : swapsWith (.ListComp elt [⟨target, iter, ifs, 0⟩] scope pos) (some (.Name x pos')) spos.line X.env = pure true := by rfl) :
  WS X pin (.Assign [.Name x pos'] (.ListComp elt [⟨target, iter, ifs, 0⟩] scope pos) spos) (zcF i (vLC n js fi fg ft fe)) := ⟨zmW n js hp0 hN hi' hx hfr hpin hc S hi.h (fun z => ⟨(hin z).1.h, (hin z).2.1.h, (hin z).2.2.h⟩) hs hsw⟩
theorem zjP {tg e : Expr} {f : FE} {g : FG} (he : WE X e f) (hg : WG X pin tg g) (hs : swapsWithSole [tg] e pos.line X.env = pure false := by rfl) (hw : swappedStores [tg] e X.env = pure none := by rfl)
  (hps : ∀ (te : TE) (t : TG), PE X e te → PG X tg t → PS X (.Assign [tg] e pos) (ziz te t) := by exact fun _ _ h1 h2 => zeH h1 h2) : WS X pin (.Assign [tg] e pos) (zmH f g) := ⟨zmI he.h hg.h hs hw hps⟩
theorem zjQ {i j : Nat} {a b : Expr} {fa : FA} {x y : Str} {px py pt : Pos} {kt k2 pt2} (hpi : i ∉ pin) (hpj : j ∉ pin) (ha : WA X [a, b] fa) (hps : ∀ t : TA, PA X [a, b] t → PS X (.Assign [.Tuple [.Name x px, .Name y py] kt pt] (.Tuple [a, b] k2 pt2) pos) (tPar i j t)) : WS X pin (.Assign [.Tuple [.Name x px, .Name y py] kt pt] (.Tuple [a, b] k2 pt2) pos) (zlc i j fa) := ⟨zmJ hpi hpj ha.h hps⟩
theorem zh9 (i : Nat) {o k e : Expr} {fk fe : FE} {pos' : Pos} (hu : X.A.units + 64 < cLine) (ho : PE X o (zfp i)) (hk : WE X k fk) (he : WE X e fe) (hs : swapsWith e (some (.Subscript o k pos')) pos.line X.env = pure false)
  (hps : ∀ (te : TE) (t : TG), PE X e te → PG X (.Subscript o k pos') t → PS X (.Assign [.Subscript o k pos'] e pos) (ziz te t)) (hpg : ∀ to ti : TE, PE X o to → PE X k ti → PG X (.Subscript o k pos') (zlx to ti zht)) : WS X pin (.Assign [.Subscript o k pos'] e pos) (zkR i fk fe) := ⟨zmV i hu ho hk.h he.h hs hps hpg⟩
theorem zee {tg iter : Expr} {body : List Stmt} {fi : FI} {fg : FG} {fb : FS} (hp0 : PassesOwn (model X.prog X.w) X.A X.env X.xe) (hc : X.calm = true) (hi : WI X tg iter fi) (hg : WG X pin tg fg) (hb : WSs X pin body fb)
  (hs : ∀ x, foldedSetIterable iter X.env x = pure x := by intro _; rfl) : WS X pin (.For tg iter body [] pos) (zgl fi fg fb) := ⟨zmQ hp0 hc hi.h hg.h hb.h hs⟩
end
section
variable {P : Program} {w : World} {K : PySem.W.Frag} {mg : Str → Option Value} {base : Heap}
theorem zaW {x qual : Str} {st : Stmt} {f : Addr} {fd : FuncData} {N prs : List Str} {k : Nat} (ps : List Bool) {fb : FS} (Fn : Fun K x qual st f fd) (S : zaC N prs (zaf st)) (hl : prs.length = ps.length)
  (hb : ∀ (cdv : Value) (A : Around) (outer : List Env) (s : Shared) (H : Hp) (E : XK), zdR k (A.deeper (envOfC qual (zaf st) s.heap.objs.size f cdv)) → WSs (zjq CX0 P w K mg base N qual (zaf st) f cdv A outer s H E).nox (pins ps 0) (zau st) fb) :
  zb8 P w K mg base CX0 (k + 1) f fd prs (spV K (zdn ps N.length fb)) := zmR ps Fn S hl fun cdv A outer s H E hr => (hb cdv A outer s H E hr).h
def zgr (K : PySem.W.Frag) : Sp := fun vs H Q _ => ∃ (a : Addr) (ns : List Int), vs = [.ref a] ∧ SqL K H a (ns.map V.int) ∧ ns.length ≤ 63 ∧ ∀ H', Q (.bl true) H'
theorem zmY {k : Nat} {f : Addr} {fd : FuncData} {x : Str} {g : FF} (F : zb8 P w K mg base CX0 k f fd [x] (spV K g)) (h : ∀ ns : List Int, ns.length ≤ 63 → ∃ ms, g [.v (.list (ns.map .int))] = some (.v (.bool true), ms)) : zb8 P w K mg base CX0 k f fd [x] (zgr K) := by
 refine F.imp fun vs H Q E hs => ?_
 obtain ⟨a, ns, rfl, hq, hl, q⟩ := hs
 obtain ⟨ms, e⟩ := h ns hl
 rcases hq with hq | hq
 ·have hz : ∀ b, (fun b => b = a) b → H b ≠ none := fun b hb e => by
   have hb : b = a := hb
   subst hb
   rcases hq with hq | ⟨o, hq⟩ <;> rw [hq] at e <;> cases e
  refine ⟨fun b => b = a, _, [], _, ms, .cons (G := []) (.v (.lst hq rfl (Fzs.ints ns))) .nil, ⟨List.nodup_nil, fun _ h => (nomatch h), hz⟩, e, fun x H' Z' A' G _ h _ => ?_⟩
  cases h with
  | v f => obtain rfl := f.zgd; exact q H'
 ·refine ⟨fun _ => False, _, [], _, ms, .cons (G := []) (.v (.lsK hq (Fzs.ints ns))) .nil, ⟨List.nodup_nil, fun _ h => (nomatch h), fun _ h => h.elim⟩, e, fun x H' Z' A' G _ h _ => ?_⟩
  cases h with
  | v f => obtain rfl := f.zgd; exact q H'
end
end VL
end
section
namespace VL
open PySem PySem.Spec L2 PyProof.Rows
section
variable {X : Cx} {pos : Pos} {pin : List Nat}
def zmZ : M → M → Option M
 | .v (.tuple ds), .v (.int i) => if i = -1 then some (.v (.tuple ds.reverse)) else none
 | _, _ => none
theorem zm0 {e st : Expr} {fa fb : FE} {p2 : Pos} (he : WE X e fa) (hs : WE X st fb) : WE X (.Subscript e (.Slice none none (some st) p2) pos) (vB zmZ fa fb) := ⟨zbk (zmb he.h hs.h) fun σ H Q hq => by
 obtain ⟨m1, m2, m, e, h⟩ := zhL hq
 refine h _ fun H2 Z2 x y za h1 h2 fin => ?_
 unfold zmZ at e
 split at e
 ·split at e
  ·next hi =>
   cases e
   subst hi
   obtain ⟨a, xs, rfl, t, f⟩ := h1.tup
   obtain rfl := h2.int
   exact ⟨a, xs, rfl, rfl, t, fun p hp => endT fin za hp f.reverse⟩
  ·cases e
 ·cases e⟩
end
theorem zkY {P : Program} {w : World} {K : PySem.W.Frag} {mg : Str → Option Value} {base : Heap} {CX : CXT} {k : Nat} {f : Addr} {fd : FuncData} {ps : List Str} : zb8 P w K mg base CX k f fd ps (spV K fun _ => none) :=
 ⟨fun vs H Q E h => (by obtain ⟨_, _, _, _, _, _, _, e, _⟩ := h; cases e), fun A outer s H args us vs Q E _ _ _ _ h => (by obtain ⟨_, _, _, _, _, _, _, e, _⟩ := h; cases e)⟩
end VL
end
section
namespace VL
open PySem L2
section
variable {ρ : Ev} {m : M} {x : Option M} {i j : Nat}
@[simp] theorem at?_0 : at? (some m :: ρ) 0 = some m := rfl
@[simp] theorem at?_n : at? (none :: ρ) 0 = none := rfl
@[simp] theorem at?_s : at? (x :: ρ) (i + 1) = at? ρ i := rfl
@[simp] theorem peek_t : peek ρ (.t m) = some m := rfl
@[simp] theorem peek_p : peek ρ (.p i) = at? ρ i := rfl
@[simp] theorem peekS_t : zcB ρ (.t m) = some m := rfl
@[simp] theorem peekS_p : zcB ρ (.p i) = at? ρ i := rfl
@[simp] theorem zm1 : zd0 ρ [] = some [] := rfl
@[simp] theorem zld {o : Opd} {os : List Opd} : zd0 ρ (o :: os) = (peek ρ o).bind fun m => (zd0 ρ os).bind fun ms => some (m :: ms) := rfl
@[simp] theorem vVar_eq : zah i ρ = match at? ρ i with
 | some (.v d) => some (.t (.v d), ρ)
 | some _ => some (.p i, ρ)
 | none => none := rfl
@[simp] theorem vC_eq {d : PyData} : vC d ρ = some (.t (.v d), ρ) := rfl
@[simp] theorem zi8 {g : M → M → Option M} {fa fb : FE} : vB g fa fb ρ = (fa ρ).bind fun p => (fb p.2).bind fun q => (zcB q.2 p.1).bind fun m1 => (peek q.2 q.1).bind fun m2 => (g m1 m2).bind fun m => some (.t m, q.2) := rfl
@[simp] theorem vU_eq {g : M → Option M} {fa : FE} : vU g fa ρ = (fa ρ).bind fun p => (peek p.2 p.1).bind fun m1 => (g m1).bind fun m => some (.t m, p.2) := rfl
@[simp] theorem vaNil_eq : zd1 ρ = some ([], ρ) := rfl
@[simp] theorem zi9 {fa : FE} : zae fa ρ = (fa ρ).bind fun p => some ([p.1], p.2) := rfl
@[simp] theorem stab_t : zkv (.t m) = true := rfl
@[simp] theorem stab_p : zkv (.p i) = true := rfl
@[simp] theorem zm2 {fa : FE} {fr : FA} : zaa fa fr ρ = (fa ρ).bind fun p => (fr p.2).bind fun q => if zkv p.1 = true then some (p.1 :: q.1, q.2) else none := rfl
@[simp] theorem zm3 {ns : List Int} : zh7 ns ρ = some (ns.map fun n => .t (.v (.int n)), ρ) := rfl
@[simp] theorem zm4 {g : List M → Option M} {fa : FA} : vCB g fa ρ = (fa ρ).bind fun p => (zd0 p.2 p.1).bind fun ms => (g ms).bind fun m => some (.t m, p.2) := rfl
@[simp] theorem tr_bool {b : Bool} : tr? (.v (.bool b)) = some b := rfl
@[simp] theorem vTst_eq {f : FE} : zbW f ρ = (f ρ).bind fun p => (peek p.2 p.1).bind fun m => (tr? m).bind fun b => some (b, p.2) := rfl
@[simp] theorem zia {f : FE} : zea f ρ = (f ρ).bind fun p => (peek p.2 p.1).bind fun m => (zjE m).bind fun b => some (b, p.2) := rfl
@[simp] theorem tru_bool {b : Bool} : zjE (.v (.bool b)) = some b := rfl
@[simp] theorem tru_tup {ds : List PyData} : zjE (.v (.tuple ds)) = some (!ds.isEmpty) := rfl
@[simp] theorem tru_list {ds : List PyData} : zjE (.v (.list ds)) = some (!ds.isEmpty) := rfl
@[simp] theorem tru_lst {ds : List PyData} : zjE (.lst ds) = some (!ds.isEmpty) := rfl
@[simp] theorem tru_dic {ds : List (Key × PyData)} : zjE (.dic ds) = some (!ds.isEmpty) := rfl
@[simp] theorem zib {f : FT} : zd8 f ρ = (f ρ).bind fun p => some (!p.1, p.2) := rfl
@[simp] theorem vAnd_eq {f g : FT} : zg6 f g ρ = (f ρ).bind fun p => if p.1 = true then g p.2 else some (false, p.2) := rfl
@[simp] theorem vOr_eq {f g : FT} : vOr f g ρ = (f ρ).bind fun p => if p.1 = true then some (true, p.2) else g p.2 := rfl
@[simp] theorem vYes_eq : zb9 ρ = some (true, ρ) := rfl
@[simp] theorem vAndV_eq {fa fb : FE} : zbE fa fb ρ = (zbW fa ρ).bind fun p => if p.1 = true then fb p.2 else some (.t (.v (.bool false)), p.2) := rfl
@[simp] theorem vNotV_eq {fa : FE} : zfK fa ρ = (zbW fa ρ).bind fun p => some (.t (.v (.bool (!p.1))), p.2) := rfl
@[simp] theorem zm5 {g g' : M → M → Option M} {fa fb fc : FE} : zd9 g g' fa fb fc ρ = (fa ρ).bind fun p => (fb p.2).bind fun q => (zcB q.2 p.1).bind fun m1 => (zcB q.2 q.1).bind fun m2 => (g m1 m2).bind fun m => (tr? m).bind fun b =>
 if b = true then (fc q.2).bind fun r => (zcB r.2 q.1).bind fun m2 => (peek r.2 r.1).bind fun m3 => (g' m2 m3).bind fun m' => some (.t m', r.2) else some (.t (.v (.bool false)), q.2) := rfl
@[simp] theorem toD_v {d : PyData} : toD (.v d) = d := rfl
@[simp] theorem toD_lst {d : List PyData} : toD (.lst d) = .list d := rfl
@[simp] theorem frz1_t : zdH (.t m) ρ = some (toD m, ρ) := rfl
@[simp] theorem frz1_p : zdH (.p i) ρ = (at? ρ i).bind fun m => some (toD m, ρ.set i (some (.v (toD m)))) := rfl
@[simp] theorem frzs_nil : zdp [] ρ = some ([], ρ) := rfl
@[simp] theorem zm6 {o : Opd} {os : List Opd} : zdp (o :: os) ρ = (zdH o ρ).bind fun p => (zdp os p.2).bind fun q => some (p.1 :: q.1, q.2) := rfl
@[simp] theorem vTup_eq {fa : FA} : zbF fa ρ = (fa ρ).bind fun p => (zdp p.1 p.2).bind fun q => if q.1.length ≤ lim then some (.t (.v (.tuple q.1)), q.2) else none := rfl
@[simp] theorem vLst_eq {fa : FA} : zeD fa ρ = (fa ρ).bind fun p => (zdp p.1 p.2).bind fun q => if q.1.length ≤ lim then some (.t (.lst q.1), q.2) else none := rfl
@[simp] theorem vDnew_eq : ziY ρ = some (.t (.dic []), ρ) := rfl
@[simp] theorem ixO_t {m1 m2 : M} : ixO (.t m1) m2 ρ = (getM m1 m2).bind fun m => some (.t m, ρ) := rfl
@[simp] theorem vIx_eq {fa fb : FE} : vIx fa fb ρ = (fa ρ).bind fun p => (fb p.2).bind fun q => (peek q.2 q.1).bind fun m2 => ixO p.1 m2 q.2 := rfl
@[simp] theorem ixO_p {m2 : M} : ixO (.p i) m2 ρ = (at? ρ i).bind fun m1 => match m1, m2 with
  | .dls kvs, .v k => (zg8 k).bind fun k => (zdZ kvs k).bind fun _ => some (.q i k, ρ)
  | m1, m2 => (getM m1 m2).bind fun m => some (.t m, ρ) := rfl
@[simp] theorem getM_tup {ds : List PyData} {k : Int} : getM (.v (.tuple ds)) (.v (.int k)) = (atI ds k).bind fun d => some (.v d) := rfl
@[simp] theorem zm7 {ds : List PyData} {k : Int} : getM (.v (.list ds)) (.v (.int k)) = (atI ds k).bind fun d => some (.v d) := rfl
@[simp] theorem getM_lst {ds : List PyData} {k : Int} : getM (.lst ds) (.v (.int k)) = (atI ds k).bind fun d => some (.v d) := rfl
@[simp] theorem getM_dic {kvs : List (Key × PyData)} {k : PyData} : getM (.dic kvs) (.v k) = (zg8 k).bind fun k => (zdZ kvs k).bind fun d => some (.v d) := rfl
@[simp] theorem keyD_int {k : Int} : zg8 (.int k) = some (.inl k) := rfl
@[simp] theorem keyD_str {k : Str} : zg8 (.str k) = some (.inr k) := rfl
@[simp] theorem zm8 : zbb ρ = some (none, ρ) := rfl
@[simp] theorem zm9 {f : FE} : zbc f ρ = (f ρ).bind fun p => (peek p.2 p.1).bind fun m => match m with
 | .v (.int i) => some (some i, p.2)
 | _ => none := rfl
@[simp] theorem vSl_eq {fa : FE} {fl fh : FO} : vSl fa fl fh ρ = (fa ρ).bind fun p => (fl p.2).bind fun l => (fh l.2).bind fun h => (zcB h.2 p.1).bind fun m => (slM l.1 h.1 m).bind fun m' => some (.t m', h.2) := rfl
@[simp] theorem slM_tup {lo hi : Option Int} {ds : List PyData} : slM lo hi (.v (.tuple ds)) = some (.v (.tuple (cutD ds lo hi))) := rfl
@[simp] theorem slM_lst {lo hi : Option Int} {ds : List PyData} : slM lo hi (.lst ds) = some (.lst (cutD ds lo hi)) := rfl
@[simp] theorem slM_list {lo hi : Option Int} {ds : List PyData} : slM lo hi (.v (.list ds)) = some (.lst (cutD ds lo hi)) := rfl
@[simp] theorem zna : zb2 [] ρ = some ([], ρ) := rfl
@[simp] theorem takeA_t {os : List Opd} : zb2 (.t m :: os) ρ = (zb2 os ρ).bind fun q => some (m :: q.1, q.2) := rfl
@[simp] theorem takeA_p {os : List Opd} : zb2 (.p i :: os) ρ = (at? ρ i).bind fun m => (zb2 os (ρ.set i none)).bind fun q => some (m :: q.1, q.2) := rfl
@[simp] theorem putA_nil {ms : List M} : zgV [] ms ρ = ρ := by cases ms <;> rfl
@[simp] theorem putA_t {os : List Opd} {m' : M} {ms : List M} : zgV (.t m :: os) (m' :: ms) ρ = zgV os ms ρ := rfl
@[simp] theorem putA_p {os : List Opd} {m' : M} {ms : List M} : zgV (.p i :: os) (m' :: ms) ρ = zgV os ms (ρ.set i (some m')) := rfl
@[simp] theorem vFn_eq {g : FF} {fa : FA} : vFn g fa ρ = (fa ρ).bind fun p => (zb2 p.1 p.2).bind fun q => (g q.1).bind fun r => some (.t r.1, zgV p.1 r.2 q.2) := rfl
@[simp] theorem vNext_eq : za9 ρ = some (.nx ρ) := rfl
@[simp] theorem zic {f g : FS} : zbg f g ρ = (f ρ).bind fun o => match o with
 | .nx ρ1 => g ρ1
 | o => some o := rfl
@[simp] theorem vIfS_eq {c : FT} {f g : FS} : zcu c f g ρ = (c ρ).bind fun p => if p.1 = true then f p.2 else g p.2 := rfl
@[simp] theorem vExpr_eq {f : FE} : zex f ρ = (f ρ).bind fun p => some (.nx p.2) := rfl
@[simp] theorem movO_t : zi3 (.t m) ρ = some (m, ρ) := rfl
@[simp] theorem movO_p : zi3 (.p i) ρ = (at? ρ i).bind fun m => some (m, ρ.set i none) := rfl
@[simp] theorem zkZ {f : FE} : zbJ f ρ = (f ρ).bind fun p => (zi3 p.1 p.2).bind fun q => some (.rt q.1 q.2) := rfl
@[simp] theorem setN_eq : zfc i m ρ = if i < ρ.length then some (ρ.set i (some m)) else none := rfl
@[simp] theorem zid {f : FE} : zcF i f ρ = (f ρ).bind fun p => (zi3 p.1 p.2).bind fun q => (zfc i q.1 q.2).bind fun ρ' => some (.nx ρ') := rfl
@[simp] theorem znb {d : PyData} : zaj i d ρ = zfc i (.v d) ρ := rfl
@[simp] theorem vgNil_eq : zcW [] ρ = some ρ := rfl
@[simp] theorem znc {f : FG} {g : FGs} {d : PyData} {ds : List PyData} : za0 f g (d :: ds) ρ = (f d ρ).bind fun ρ1 => g ds ρ1 := rfl
@[simp] theorem vgTup_eq {n : Nat} {g : FGs} {ds : List PyData} : zcC n g (.tuple ds) ρ = if ds.length = n then g ds ρ else none := rfl
@[simp] theorem vAsg_eq {f : FE} {g : FG} : zmH f g ρ = (f ρ).bind fun p => (zdH p.1 p.2).bind fun q => (g q.1 q.2).bind fun ρ' => some (.nx ρ') := rfl
@[simp] theorem parO_eq {o1 : Opd} {m2 : M} : parO i j [o1, .t m2] ρ = (zi3 o1 ρ).bind fun q1 => (zfc i q1.1 q1.2).bind fun ρ1 => (zfc j m2 ρ1).bind fun ρ2 => some (.nx ρ2) := rfl
@[simp] theorem vPar_eq {fa : FA} : zlc i j fa ρ = (fa ρ).bind fun p => parO i j p.1 p.2 := rfl
@[simp] theorem itD_tup {ds : List PyData} : itD (.tuple ds) = some ds := rfl
@[simp] theorem itD_list {ds : List PyData} : itD (.list ds) = some ds := rfl
@[simp] theorem zja {f : FE} : zbA f ρ = (f ρ).bind fun p => (zdH p.1 p.2).bind fun q => (itD q.1).bind fun ds => some (ds, q.2) := rfl
@[simp] theorem viArg_eq {g : List M → Option (List PyData)} {fa : FA} : zcf g fa ρ = (fa ρ).bind fun p => (zd0 p.2 p.1).bind fun ms => (g ms).bind fun ds => some (ds, p.2) := rfl
@[simp] theorem rng1_eq {k : Int} : zfP [.v (.int k)] = if zdf k = true then some (za7 0 k) else none := rfl
@[simp] theorem zie {fi : FI} {fg : FG} {fb : FS} : zgl fi fg fb ρ = (fi ρ).bind fun p => zgW fg fb p.1 p.2 := rfl
@[simp] theorem forL_nil {fg : FG} {fb : FS} : zgW fg fb [] ρ = some (.nx ρ) := rfl
@[simp] theorem cap_eq : cap ρ j = match at? ρ j with
 | some (.v d) => some (.t (.v d))
 | some _ => some (.p j)
 | none => none := rfl
@[simp] theorem caps_nil : caps ρ [] = some [] := rfl
@[simp] theorem znd {js : List Nat} : caps ρ (j :: js) = (cap ρ j).bind fun o => (caps ρ js).bind fun os => some (o :: os) := rfl
@[simp] theorem zjR {n : Nat} {js : List Nat} {fi : FI} {fg : FG} {ft : FT} {fe : FE} : vLC n js fi fg ft fe ρ = (fi ρ).bind fun p => (caps p.2 js).bind fun os => (zb2 os p.2).bind fun q =>
 (zbP fg ft fe p.1 (List.replicate n none ++ q.1.map some) []).bind fun r => (fin (List.replicate js.length true) q.1 (r.2.drop n)).bind fun ms' => some (.t (.lst r.1), zgV os ms' q.2) := rfl
@[simp] theorem fin_nil : fin [] [] ρ = some [] := by cases ρ <;> rfl
@[simp] theorem fin_t {ps : List Bool} {ms : List M} {m' : M} : fin (true :: ps) (m :: ms) (some m' :: ρ) = (fin ps ms ρ).bind fun ms' => some (m' :: ms') := rfl
@[simp] theorem fin_f {ps : List Bool} {ms : List M} {d : PyData} : fin (false :: ps) (.v d :: ms) (x :: ρ) = (fin ps ms ρ).bind fun ms' => some (.v d :: ms') := rfl
@[simp] theorem vApp_eq {fa : FA} : zis i fa ρ = (at? ρ i).bind fun m0 => match m0 with
 | .lst _ => (fa ρ).bind fun p => match p.1 with
  | [o] => (zdH o p.2).bind fun q => (at? q.2 i).bind fun m => match m with
   | .lst ds => if ds.length < lim then some (.t (.v .none), q.2.set i (some (.lst (ds ++ [q.1])))) else none
   | _ => none
  | _ => none
 | _ => none := rfl
@[simp] theorem vPut_eq {fk fe : FE} : zkR i fk fe ρ = (fe ρ).bind fun p => (zdH p.1 p.2).bind fun q => (at? q.2 i).bind fun m0 => match m0 with
 | .v _ => none
 | _ => (fk q.2).bind fun r => (peek r.2 r.1).bind fun mk => (at? r.2 i).bind fun m => match m, mk with
  | .dic kvs, .v kd => (zg8 kd).bind fun k => if kvs.length < lim then some (.nx (r.2.set i (some (.dic (putD kvs k q.1))))) else none
  | .lst ds, .v (.int k) => (ixN ds.length k).bind fun j => some (.nx (r.2.set i (some (.lst (ds.set j q.1)))))
  | _, _ => none := rfl
theorem zao {ps : List Bool} {n : Nat} {fb : FS} {ms : List M} : zdn ps n fb ms = if ms.length = ps.length then (fb (ms.map some ++ List.replicate (n - ms.length) none)).bind fun o => match o with
 | .rt m ρ => (fin ps ms ρ).bind fun ms' => some (m, ms')
 | .nx ρ => (fin ps ms ρ).bind fun ms' => some (.v .none, ms')
 | _ => none
 else none := rfl
@[simp] theorem int_eq {C : Int → Int → Bool} {g : Int → Int → PyData} {a b : Int} : zg7 C g (.v (.int a)) (.v (.int b)) = if C a b = true then some (.v (g a b)) else none := rfl
@[simp] theorem sub_eq {a b : Int} : zkA (.v (.int a)) (.v (.int b)) = some (.v (.int (a - b))) := rfl
@[simp] theorem add_int {a b : Int} : zbO (.v (.int a)) (.v (.int b)) = some (.v (.int (a + b))) := rfl
@[simp] theorem zcE {a b : List PyData} : zbO (.v (.tuple a)) (.v (.tuple b)) = if a.length + b.length ≤ lim then some (.v (.tuple (a ++ b))) else none := rfl
@[simp] theorem zk0 {a b : List PyData} : zbO (.lst a) (.lst b) = if a.length + b.length ≤ lim then some (.lst (a ++ b)) else none := rfl
@[simp] theorem mul_eq {a b : Int} : mulM (.v (.int a)) (.v (.int b)) = if decide ((-(2 ^ 64) < a ∧ a < 2 ^ 64) ∨ (-(2 ^ 64) < b ∧ b < 2 ^ 64)) = true then some (.v (.int (a * b))) else none := rfl
@[simp] theorem mod_eq {a b : Int} : zgS (.v (.int a)) (.v (.int b)) = if decide (0 < b) = true then some (.v (.int (a % b))) else none := rfl
@[simp] theorem fdiv_eq {a b : Int} : ziS (.v (.int a)) (.v (.int b)) = if decide (0 < b ∧ b < 1073741824) = true then some (.v (.int (a / b))) else none := rfl
@[simp] theorem gt_eq {a b : Int} : gtM (.v (.int a)) (.v (.int b)) = some (.v (.bool (decide (b < a)))) := rfl
@[simp] theorem le_eq {a b : Int} : leM (.v (.int a)) (.v (.int b)) = some (.v (.bool (decide (a ≤ b)))) := rfl
@[simp] theorem lt_eq {a b : Int} : ltM (.v (.int a)) (.v (.int b)) = some (.v (.bool (decide (a < b)))) := rfl
@[simp] theorem ge_eq {a b : Int} : geM (.v (.int a)) (.v (.int b)) = some (.v (.bool (decide (b ≤ a)))) := rfl
@[simp] theorem lt_tup {a b : List PyData} : ltM (.v (.tuple a)) (.v (.tuple b)) = (ze3 a).bind fun is => (ze3 b).bind fun js => some (.v (.bool (HT.lexLt is js))) := rfl
@[simp] theorem ge_tup {a b : List PyData} : geM (.v (.tuple a)) (.v (.tuple b)) = (ze3 a).bind fun is => (ze3 b).bind fun js => some (.v (.bool (!HT.lexLt is js))) := rfl
@[simp] theorem znf {d : PyData} : asD (.v d) = some d := rfl
@[simp] theorem zk1 {d : List PyData} : asD (.lst d) = some (.list d) := rfl
theorem zgs {neg : Bool} {m1 m2 : M} : eqM neg m1 m2 = (asD m1).bind fun d => (asD m2).bind fun e => if ziT d e = true then some (.v (.bool (if neg then !PyData.eqv d e else PyData.eqv d e))) else none := rfl
@[simp] theorem eq_int {a b : Int} : eqM false (.v (.int a)) (.v (.int b)) = some (.v (.bool (decide (a = b)))) := by
 have h : eqM false (.v (.int a)) (.v (.int b)) = some (.v (.bool (a == b))) := rfl
 rw [h, Bool.beq_eq_decide_eq]
@[simp] theorem ne_int {a b : Int} : eqM true (.v (.int a)) (.v (.int b)) = some (.v (.bool (!decide (a = b)))) := by
 have h : eqM true (.v (.int a)) (.v (.int b)) = some (.v (.bool (!(a == b)))) := rfl
 rw [h, Bool.beq_eq_decide_eq]
@[simp] theorem eq_bool {a b : Bool} : eqM false (.v (.bool a)) (.v (.bool b)) = some (.v (.bool (a == b))) := rfl
@[simp] theorem ne_bool {a b : Bool} : eqM true (.v (.bool a)) (.v (.bool b)) = some (.v (.bool (!(a == b)))) := rfl
@[simp] theorem zif {ds : List PyData} : zcU [.v (.tuple ds)] = some (.v (.int ds.length)) := rfl
@[simp] theorem len_list {ds : List PyData} : zcU [.v (.list ds)] = some (.v (.int ds.length)) := rfl
@[simp] theorem zig {ds : List PyData} : zcU [.lst ds] = some (.v (.int ds.length)) := rfl
@[simp] theorem len_dic {ds : List (Key × PyData)} : zcU [.dic ds] = some (.v (.int ds.length)) := rfl
@[simp] theorem tupM_lst {ds : List PyData} : zhR [.lst ds] = some (.v (.tuple ds)) := rfl
@[simp] theorem zng {ds : List PyData} : zhR [.v (.list ds)] = some (.v (.tuple ds)) := rfl
@[simp] theorem tupM_tup {ds : List PyData} : zhR [.v (.tuple ds)] = some (.v (.tuple ds)) := rfl
@[simp] theorem lstM_tup {ds : List PyData} : zf6 [.v (.tuple ds)] = some (.lst ds) := rfl
@[simp] theorem isi_eq {c : String} : zdv c m = some (.v (.bool (subB (zhU m) c))) := rfl
@[simp] theorem abs_eq {a : Int} : zmB [.v (.int a)] = some (.v (.int (if a < 0 then -a else a))) := rfl
@[simp] theorem int1_int {a : Int} : zd3 [.v (.int a)] = some (.v (.int a)) := rfl
@[simp] theorem znh {a : Bool} : zd3 [.v (.bool a)] = some (.v (.int (if a then 1 else 0))) := rfl
@[simp] theorem min2_eq {a b : Int} : minM [.v (.int a), .v (.int b)] = some (.v (.int (if b < a then b else a))) := rfl
@[simp] theorem zih {any : Bool} {ds : List PyData} : allM any [.lst ds] = (zir ds).bind fun bs => some (.v (.bool (if any then bs.any id else bs.all id))) := rfl
end
theorem zam {f g : FS} {ρ ρ1 : Ev} (h : f ρ = some (.nx ρ1)) : zbg f g ρ = g ρ1 := by rw [zic, h]; rfl
theorem zcg {f g : FS} {ρ ρ1 : Ev} {m : M} (h : f ρ = some (.rt m ρ1)) : zbg f g ρ = some (.rt m ρ1) := by rw [zic, h]; rfl
theorem zef {ps : List Bool} {n : Nat} {fb : FS} {ms : List M} {m : M} {ρ : Ev} {ms' : List M} (hl : ms.length = ps.length) (h : fb (ms.map some ++ List.replicate (n - ms.length) none) = some (.rt m ρ)) (hf : fin ps ms ρ = some ms') : zdn ps n fb ms = some (m, ms') := by
 rw [zao, if_pos hl, h]
 show (fin ps ms ρ).bind _ = _
 rw [hf]; rfl
theorem zc8 {fg : FG} {fb : FS} {P : List PyData → Ev → Prop} : ∀ (ds : List PyData) (ρ : Ev), P ds ρ → (∀ d ds ρ, P (d :: ds) ρ → ∃ ρ1 ρ2, fg d ρ = some ρ1 ∧ fb ρ1 = some (.nx ρ2) ∧ P ds ρ2) → ∃ ρ', zgW fg fb ds ρ = some (.nx ρ') ∧ P [] ρ'
 | [], ρ, h, _ => ⟨ρ, rfl, h⟩
 | d :: ds, ρ, h, step => by
  obtain ⟨ρ1, ρ2, e1, e2, h2⟩ := step d ds ρ h
  obtain ⟨ρ', e3, h3⟩ := zc8 ds ρ2 h2 step
  refine ⟨ρ', ?_, h3⟩
  show (fg d ρ).bind _ = _
  rw [e1]
  show (fb ρ1).bind _ = _
  rw [e2]
  exact e3
theorem zez {fg : FG} {ft : FT} {fe : FE} {P : List PyData → List PyData → Ev → Prop} : ∀ (ds : List PyData) (ρ : Ev) (acc : List PyData), P ds acc ρ →
  (∀ d ds acc ρ, P (d :: ds) acc ρ → acc.length < lim ∧ ∃ ρ1 b ρ2, fg d ρ = some ρ1 ∧ ft ρ1 = some (b, ρ2) ∧ ((b = false ∧ P ds acc ρ2) ∨ (b = true ∧ ∃ o ρ3 e ρ4, fe ρ2 = some (o, ρ3) ∧ zdH o ρ3 = some (e, ρ4) ∧ P ds (acc ++ [e]) ρ4))) → ∃ acc' ρ', zbP fg ft fe ds ρ acc = some (acc', ρ') ∧ P [] acc' ρ'
 | [], ρ, acc, h, _ => ⟨acc, ρ, rfl, h⟩
 | d :: ds, ρ, acc, h, step => by
  obtain ⟨hl, ρ1, b, ρ2, e1, e2, h2⟩ := step d ds acc ρ h
  rcases h2 with ⟨rfl, h2⟩ | ⟨rfl, o, ρ3, e, ρ4, e3, e4, h2⟩
  ·obtain ⟨acc', ρ', e5, h5⟩ := zez ds ρ2 acc h2 step
   refine ⟨acc', ρ', ?_, h5⟩
   show (fg d ρ).bind _ = _
   rw [e1]
   show (ft ρ1).bind _ = _
   rw [e2]
   exact e5
  ·obtain ⟨acc', ρ', e5, h5⟩ := zez ds ρ4 (acc ++ [e]) h2 step
   refine ⟨acc', ρ', ?_, h5⟩
   show (fg d ρ).bind _ = _
   rw [e1]
   show (ft ρ1).bind _ = _
   rw [e2]
   show (fe ρ2).bind _ = _
   rw [e3]
   show (zdH o ρ3).bind _ = _
   rw [e4]
   show (if acc.length < lim then _ else _) = _
   rw [if_pos hl]
   exact e5
end VL
end
section
namespace VL
open PySem PySem.Spec L2 PyProof.Rows
end VL
end
section
namespace VL
open PySem PySem.Spec L2 PyProof.Rows
end VL
end
section
namespace VL
open PySem PySem.Spec L2 PyProof.Rows
end VL
end
section
namespace VL
open PySem PySem.Spec L2 PyProof.Rows
end VL
end
section
namespace VL
open PySem PySem.Spec L2 PyProof.Rows
end VL
end
section
namespace L2
open PySem PySem.Spec PyProof.Rows
end L2
end
section
namespace L2
open PySem PySem.Spec PyProof.Rows
end L2
end
section
namespace L2
open PySem PySem.Spec PyProof.Rows
end L2
end
section
namespace L2
open PySem PySem.Spec PyProof.Rows
end L2
end
section
namespace L2
open PySem PySem.Spec PyProof.Rows
end L2
end
section
namespace L2
open PySem PySem.Spec PyProof.Rows
end L2
end
section
namespace L2
open PySem PySem.Spec PyProof.Rows
end L2
end
section
namespace VL
open PySem PySem.Spec L2 PyProof.Rows
section
variable {X : Cx} {pos : Pos}
def isSq : PyData → Bool
 | .tuple _ => true
 | .list _ => true
 | _ => false
def zgt (d : PyData) : Bool := isSq d && d.canLay0 && d.showable && decide (d.depth ≤ 50) && decide (d.shown.length ≤ sizeLine)
end
end VL
end
section
namespace L2
open PySem PySem.Spec PyProof.Rows
end L2
end
section
namespace VL
open PySem PySem.Spec L2 PyProof.Rows
end VL
end
section
namespace VL
open PySem PySem.Spec L2 PyProof.Rows
end VL
end
section
namespace L2
open PySem PySem.Spec PyProof.Rows
end L2
end
section
namespace VL
open PySem PySem.Spec L2 PyProof.Rows
end VL
end
section
namespace L2
open PySem PySem.W PyProof.Rows PySem.Calls
section
variable {prog : Program} {w : World} {A : Around} {E : Value → Shared → Prop} {s : Shared}
theorem zfU {l : Addr} {vs : List Value} {lt : Nat → Nat → Bool} {Q : Value → Shared → Prop} (O : Ord lt) (hl : IsTup s.heap l vs.toArray) (h64 : vs.length < 64)
  (hk : 2 ≤ vs.length → ∀ (A' : Around), A'.units ≤ A.units + 2 → ∀ h' : Heap, (∀ b o, s.heap.get? b = some o → h'.get? b = some o) → ∃ κ, (∀ Q : SortKind → Shared → Prop, Q κ { s with heap := h' } → wpAny (model prog w) A' (keyKind' vs.toArray) Q (fun _ _ => False) { s with heap := h' }) ∧
   ∀ i j, i < vs.length → j < vs.length → ∀ C : Bool → Shared → Prop, C (lt i j) { s with heap := h' } → wpAny (model prog w) A' (keyLt' κ (vs.getD i Value.none) (vs.getD j Value.none)) C (fun _ _ => False) { s with heap := h' })
  (h : ∀ p : Array Nat, Pm vs.length p → Srt lt p vs.length → Q (.ref (s.heap.objs.size + 1)) { s with heap := sortedAll s.heap vs (zcd vs p).toArray }) :
  wpAny (model prog w) A (call (.builtin "sorted") [.ref l]) Q E s := by
 refine Calls.call_function_entry kind_sorted plain_sorted entry_sorted (args_sorted1 _) ?_
 unfold Builtin.«sorted»
 refine wpAny_bind (m := checkCount "sorted" 1 1 _) (wpAny_pure ?_)
 refine wpAny_bind (zdG hl (by rw [sizeLine_eq]; omega) ?_)
 refine wpAny_bind (wpAny_newList ?_ (by rw [sizeLine_eq]; omega))
 have hsz : ((s.heap.push (seqObj "list" #[] 0)).update s.heap.objs.size (Obj.mapSeq (· ++ vs.toArray))).objs.size = s.heap.objs.size + 1 := by
  rw [Heap.size_update, size_push']
 have hoL : (((s.heap.push (seqObj "list" #[] 0)).update s.heap.objs.size (Obj.mapSeq (· ++ vs.toArray))).push (seqObj "list" vs.toArray 0)).get? (s.heap.objs.size + 1) = some (seqObj "list" vs.toArray 0) := by
  rw [← hsz]; exact Heap.get?_push_size _ rfl
 have keep : ∀ b o, s.heap.get? b = some o → b ≠ s.heap.objs.size + 1 ∧ (((s.heap.push (seqObj "list" #[] 0)).update s.heap.objs.size (Obj.mapSeq (· ++ vs.toArray))).push (seqObj "list" vs.toArray 0)).get? b = some o := fun b o q => by
  have hlt : b < s.heap.objs.size := Heap.lt_size q
  refine ⟨Nat.ne_of_lt (Nat.lt_succ_of_lt hlt), ?_⟩
  rw [Heap.get?_push_ne _ _ _ (by rw [hsz]; exact Nat.ne_of_lt (Nat.lt_succ_of_lt hlt)), Heap.get?_update_ne _ _ _ _ (Nat.ne_of_lt hlt), Heap.get?_push_ne _ _ _ (Nat.ne_of_lt hlt)]
  exact q
 show wpAny _ _ _ _ _ { s with heap := ((s.heap.push (seqObj "list" #[] 0)).update s.heap.objs.size (Obj.mapSeq (· ++ vs.toArray))).push (seqObj "list" vs.toArray 0) }
 rw [hsz]
 refine wpAny_bind (wpAny_holding (wpAny_call_entry slot_list_sort ⟨_, hoL, rfl⟩ entry_list_sort ?body (args_list_sort _)))
 case body =>
  refine zcN O hoL h64 (fun h2 h' kp => hk h2 _ ?_ h' fun b o e => kp b o (keep b o e).1 (keep b o e).2) fun p a1 a2 => ⟨_, rfl, wpAny_pure ⟨_, rfl, h p a1 a2⟩⟩
  show A.units + 1 + 1 ≤ A.units + 2
  omega
end
section
variable {X : Cx}
theorem zc9 : za3 X (.builtin "sorted") (fun xs H Q => ∃ p ys ks, xs = [.ref p] ∧ SqT X.K H p ys ∧ TIs X.K H ys ks ∧ (∀ t ∈ ks, t ≠ []) ∧ ys.length < 64 ∧
  ∀ (zs : List (V × List Int)) l, zs.Perm (ys.zip ks) → (zs.map (·.2)).Pairwise (fun a b => HT.lexLt b a = false) → H l = none → Q (.ref l) (upd H l (.lst (zs.map (·.1))))) := by
 intro pins s σ H xs us Q I r h
 obtain ⟨p, ys, ks, rfl, hq, ht, hne, h64, q⟩ := h
 obtain ⟨u, rfl, rx⟩ := vals1 r
 cases rx
 obtain ⟨its, rv, pl, hz⟩ := I.tuple hq
 have hl := rv.length
 have hk : ys.length = ks.length := Paired.length ht
 refine zfU (lexOrd ks) pl (by omega) (fun h2 A' _ h' kp => ⟨tuples' true, fun Q' hq' => ?_, fun i j hi hj C hC => ?_⟩) fun pm hpm hsr => ?_
 ·obtain ⟨fs, h1, h2', h3⟩ := zcz I kp ht rv hne
  refine kat_kind (s := { s with heap := h' }) (T := .type "int") h1 (by omega) (fun v hv => ?_) rfl hq'
  obtain ⟨i, t, rfl⟩ := h3 v hv
  exact Looks.now
 ·have hiy : i < ys.length := by omega
  have hjy : j < ys.length := by omega
  obtain ⟨a, ea, qa⟩ := Paired.getD (d := V.non) (d' := []) ht i hiy
  obtain ⟨b, eb, qb⟩ := Paired.getD (d := V.non) (d' := []) ht j hjy
  have ra := Paired.getD (d := V.non) (d' := Value.none) rv i hiy
  have rb := Paired.getD (d := V.non) (d' := Value.none) rv j hjy
  rw [ea] at ra
  rw [eb] at rb
  have ra : its.getD i Value.none = .ref a := ra
  have rb : its.getD j Value.none = .ref b := rb
  rw [ra, rb]
  obtain ⟨ia, va, ⟨oa, ha, _, na, da⟩, _⟩ := I.tuple qa
  obtain ⟨ib, vb, ⟨ob, hb, _, nb, db⟩, _⟩ := I.tuple qb
  refine kat_lt (s := { s with heap := h' }) (kp _ _ ha) da (kp _ _ hb) db ?_
  refine zb1 ia ib _ _ 0 va vb hC _ (fun _ _ => True.intro) ?_
  simp
 ·have hlen : its.length = ys.length := hl.symm
  have hzl : (ys.zip ks).length = its.length := by rw [List.length_zip]; omega
  let zs : List (V × List Int) := pm.toList.map fun i => (ys.zip ks).getD i (V.non, [])
  have hzp : zs.Perm (ys.zip ks) := zcO (β := Nat) (by rw [hzl]; exact hpm)
  have e1 : zs.map (·.1) = pm.toList.map fun i => ys.getD i V.non := by
   show List.map _ (List.map _ _) = _
   rw [List.map_map]
   exact List.map_congr_left fun i _ => by show ((ys.zip ks).getD i (V.non, [])).1 = _; rw [zcP i hk]
  have e2 : zs.map (·.2) = pm.toList.map fun i => ks.getD i [] := by
   show List.map _ (List.map _ _) = _
   rw [List.map_map]
   exact List.map_congr_left fun i _ => by show ((ys.zip ks).getD i (V.non, [])).2 = _; rw [zcP i hk]
  have hpw : (zs.map (·.2)).Pairwise (fun a b => HT.lexLt b a = false) := by
   rw [e2, List.pairwise_map, List.pairwise_iff_getElem]
   intro i j hi hj hij
   have sz : pm.toList.length = its.length := by rw [Array.length_toList]; exact hpm.size
   have z := hsr i j (by omega) (by omega)
   have gi : gD pm i = pm.toList[i] := by unfold gD; simp [Array.getD, show i < pm.size by simpa using hi]
   have gj : gD pm j = pm.toList[j] := by unfold gD; simp [Array.getD, show j < pm.size by simpa using hj]
   rw [gi, gj] at z
   exact z
  obtain ⟨e, he⟩ := sortedAll_at s.heap its (zcd its pm).toArray
  have hv : za1 (zs.map (·.1)) (zcd its pm) := by
   rw [e1]
   unfold zcd
   have hb : ∀ i ∈ pm.toList, i < ys.length := fun i hi => by
    have h1 : pm.toList.Perm (List.range its.length) := Array.perm_iff_toList_perm.mp hpm
    have := h1.mem_iff.mp hi
    have : i < its.length := by simpa using this
    omega
   clear he hpw e1 e2 hzp hsr hpm
   generalize pm.toList = ix at hb
   clear zs
   induction ix with
   | nil => exact .nil
   | cons i ix ih => exact .cons (Paired.getD (d := V.non) (d' := Value.none) rv i (hb i lS)) (ih fun j hj => hb j (lO _ hj))
  refine ⟨.ref (s.heap.objs.size + 1), _, I.laid (t' := s.toks) (a := s.heap.objs.size + 1) (o := .lst (zs.map (·.1))) (fun b u e => sortedAll_old e) (Nat.le_succ _) ?_, rfl, q zs _ hzp hpw (I.hok.fresh (Nat.le_succ _))⟩
  refine ⟨?_, zcd its pm, e, hv, he⟩
  rw [List.length_map, hzp.length_eq, hzl, sizeLine_eq]
  omega
end
end L2
end
section
namespace VL
open PySem PySem.Spec L2 PyProof.Rows
section
variable {X : Cx} {pos : Pos} {pin : List Nat}
def zk2 : List M → Option M
 | [.v (.tuple ds)] => if ds.length < 64 then (zla ds).bind fun ks => if ks.all (fun k => !k.isEmpty) = true then some (.lst ((ze5 ks).map tI)) else none else none
 | _ => none
theorem zjb : za3 X (.builtin "sorted") (rLM X.K zk2) := by
 intro pins s σ H xs us Q I rs h
 obtain ⟨Z, ms, m, za, hr, e, q⟩ := h
 unfold zk2 at e
 split at e
 ·split at e
  ·next h64 =>
   obtain ⟨ks, e3, e⟩ := oB e
   split at e
   ·next hne =>
    cases e
    obtain ⟨x, rfl, h1⟩ := zd2 hr
    obtain ⟨a, xs, rfl, hx, fx⟩ := h1.tup
    rw [zds e3] at fx h64
    have hl : xs.length = ks.length := by rw [fx.length, List.length_map]
    have ht := fx.tis
    refine zc9 pins s σ H _ us Q I rs ⟨a, xs, ks, rfl, hx, ht, fun t h z => ?_, ?_, fun zs l p w hl' => ?_⟩
    ·have := List.all_eq_true.mp hne t h
     rw [z] at this
     cases this
    ·rw [List.length_map] at h64
     omega
    ·have e : zs.map (·.2) = ze5 ks := zeb ((p.map (·.2)).trans (by rw [List.map_snd_zip (by omega)])) w
     have := Fzs.zhQ (Z := Z) ht zs fun z h => p.mem_iff.mp h
     rw [e] at this
     exact zjC q za hl' this
   ·cases e
  ·cases e
 ·cases e
def zii (ms : List M) : Option M := match ze7 ms with
 | some m => some m
 | none => zk2 ms
theorem zjc (hc : X.calm = true) : za3 X (.builtin "sorted") (rLM X.K zii) := by
 intro pins s σ H xs us Q I rs h
 obtain ⟨Z, ms, m, za, hr, e, q⟩ := h
 unfold zii at e
 split at e
 ·next m' em => cases e; exact zdL hc pins s σ H xs us Q I rs ⟨Z, ms, m, za, hr, em, q⟩
 ·exact zjb pins s σ H xs us Q I rs ⟨Z, ms, m, za, hr, e, q⟩
def zfr (n : Nat) (js : List Nat) (i : Nat) (fg : FG) (ft : FT) (fe : FE) : FE := fun ρ => match at? ρ i with
 | some (.lst ds) => if i ∈ js then none else (caps ρ js).bind fun os => (zb2 os ρ).bind fun q =>
   (zbP fg ft fe ds (List.replicate n none ++ q.1.map some) []).bind fun r => (fin (List.replicate js.length true) q.1 (r.2.drop n)).bind fun ms' => some (.t (.lst r.1), zgV os ms' q.2)
 | _ => vLC n js (zbA (zah i)) fg ft fe ρ
structure ItAt (K : PySem.W.Frag) (J : It) (H : Hp) (Z : Zs) (a : Addr) (xs : List V) (ds : List PyData) : Prop where
 go : ∀ H2 Z2, zba H Z H2 Z2 → H2 a = some (.lst xs) → ∀ k d, ds[k]? = some d → J.go k H2 ∧ ∀ x H', J.yld k H2 x H' → zdU H2 H' ∧ Fz K H' Z2 x d
 stop : ∀ H2 Z2, zba H Z H2 Z2 → H2 a = some (.lst xs) → ∀ k, ds.length ≤ k → J.stop k H2
theorem it_at {K : PySem.W.Frag} {H : Hp} {Z : Zs} {a : Addr} {xs : List V} {ds : List PyData} (r : Fzs K H Z xs ds) : ItAt K (Itl K a) H Z a xs ds := by
 refine ⟨fun H2 Z2 g e k d hd => ?_, fun H2 Z2 g e k hk => ⟨xs, SqL.of e, by rw [r.length]; exact hk⟩⟩
 obtain ⟨x, hx, fx⟩ := (r.mono g).get' hd
 exact ⟨⟨xs, x, SqL.of e, hx⟩, fun y H' ⟨hH, hy⟩ => by
  subst hH
  have := hy xs (SqL.of e)
  rw [hx] at this
  cases this
  exact ⟨zdU.refl _, fx⟩⟩
theorem zgu {ρ : Ev} : ∀ {js : List Nat} {os : List Opd}, caps ρ js = some os → ∀ j, Opd.p j ∈ os → j ∈ js
 | [], _, e, j, h => by cases e; cases h
 | k :: js, _, e, j, h => by
  obtain ⟨o, e1, e⟩ := oB e
  obtain ⟨os, e2, e⟩ := oB e
  cases e
  rcases lK h with z | z
  ·subst z
   unfold cap at e1
   split at e1
   ·cases e1
   ·cases e1; exact lS
   ·cases e1
  ·exact lO _ (zgu e2 j z)
theorem zgv {ρ : Ev} : ∀ {js : List Nat} {os : List Opd}, caps ρ js = some os → ∀ j k, Opd.q j k ∉ os
 | [], _, e, j, k, h => by cases e; cases h
 | k' :: js, _, e, j, k, h => by
  obtain ⟨o, e1, e⟩ := oB e
  obtain ⟨os, e2, e⟩ := oB e
  cases e
  rcases lK h with z | z
  ·subst z
   unfold cap at e1
   split at e1 <;> cases e1
  ·exact zgv e2 j k z
theorem zjd {ρ : Ev} {i j : Nat} (h : i ≠ j) : at? (ρ.set j none) i = at? ρ i := by
 unfold at?
 rw [List.getElem?_set_ne (Ne.symm h)]
theorem zda {i : Nat} : ∀ {os : List Opd} {ρ ρ' : Ev} {ms : List M}, (∀ j, Opd.p j ∈ os → i ≠ j) → (∀ j k, Opd.q j k ∉ os) → zb2 os ρ = some (ms, ρ') → at? ρ' i = at? ρ i
 | [], _, _, _, _, _, e => by cases e; rfl
 | .t m :: os, ρ, _, _, h, hq, e => by
  have e : (zb2 os ρ).bind _ = _ := e
  obtain ⟨⟨ms, ρ1⟩, e1, e⟩ := oB e
  cases e
  exact zda (fun j hj => h j (lO _ hj)) (fun j k hj => hq j k (lO _ hj)) e1
 | .p k :: os, ρ, _, _, h, hq, e => by
  obtain ⟨m, e0, e⟩ := oB e
  obtain ⟨⟨ms, ρ1⟩, e1, e⟩ := oB e
  cases e
  rw [zda (fun j hj => h j (lO _ hj)) (fun j k hj => hq j k (lO _ hj)) e1, zjd (h k lS)]
 | .q j k :: os, _, _, _, _, hq, _ => absurd lS (hq j k)
theorem zfV {i : Nat} {js : List Nat} {os : List Opd} {ρ ρ' : Ev} {ms : List M} (hi : i ∉ js) (h1 : caps ρ js = some os) (h2 : zb2 os ρ = some (ms, ρ')) : at? ρ' i = at? ρ i :=
 zda (fun j hj e => hi (e ▸ zgu h1 j hj)) (zgv h1) h2
theorem zje {a0 : Addr} {xs0 : List V} {n : Nat} {pv : Pv} {fg : FG} {ft : FT} {fe : FE} {J : It} {ds : List PyData} {D : Addr} {τ : L2.St} {H1 : Hp} {Z1 : Zs} {A : List Addr} {ρ0 : Ev} {r : List PyData × Ev} {Q : Hp → Prop} (hD : H1 D = none) (S : Owo X.K H1 Z1 τ ρ0 A) (w : Wf H1 Z1 A) (P : Pin pv τ) (hJ : ItAt X.K J H1 Z1 a0 xs0 ds) (ha0 : H1 a0 = some (.lst xs0)) (haA : a0 ∉ A) (e : zbP fg ft fe ds ρ0 [] = some r)
  (q : ∀ τ' H' Z' F' xs, Owo X.K H' Z' τ' r.2 F' → Pin pv τ' → H' D = some (.lst xs) → Fzs X.K H' Z' xs r.1 → Fut H1 Z1 A H' Z' (F' ++ [D]) → Q H') : ziL (vG X.K pv fg) (vT X.K ft) (eApp D (vE X.K fe)) J τ (upd H1 D (.lst [])) Q := by
 have n0 := Fut.zmt (o := .lst []) hD w.za
 have f0 : Fut H1 Z1 A (upd H1 D (.lst [])) Z1 (A ++ [D]) := n0.news w S.al
 refine ⟨fun i m τ' H' => m = ds.length - i ∧ i ≤ ds.length ∧ ∃ Z' ρ' F' acc xs, Owo X.K H' Z' τ' ρ' F' ∧ Pin pv τ' ∧ H' D = some (.lst xs) ∧ Fzs X.K H' Z' xs acc ∧ Fut H1 Z1 A H' Z' (F' ++ [D]) ∧ zbP fg ft fe (ds.drop i) ρ' acc = some r, ⟨_, rfl, Nat.zero_le _, Z1, ρ0, A, [], [], S.news n0, P, zaG, .nil, f0, e⟩, fun i m τ2 H2 hW => ?_⟩
 obtain ⟨rfl, hi, Z2, ρ2, F2, acc, xs, S2, P2, d2, z2, f2, e2⟩ := hW
 rcases Nat.lt_or_eq_of_le hi with hi | rfl
 ·right
  rw [List.drop_eq_getElem_cons hi] at e2
  have hd : ds[i]? = some ds[i] := List.getElem?_eq_getElem hi
  obtain ⟨go, yl⟩ := hJ.go H2 Z2 (f2.grow w) (f2.keep a0 _ haA ha0) i _ hd
  obtain ⟨ρ3, e3, e2⟩ := oB e2
  obtain ⟨⟨b, ρ4⟩, e4, e2⟩ := oB e2
  refine ⟨go, fun τ' H' => ∃ m', m' < ds.length - i ∧ m' = ds.length - (i + 1) ∧ i + 1 ≤ ds.length ∧ ∃ Z' ρ' F' acc xs, Owo X.K H' Z' τ' ρ' F' ∧ Pin pv τ' ∧ H' D = some (.lst xs) ∧ Fzs X.K H' Z' xs acc ∧ Fut H1 Z1 A H' Z' (F' ++ [D]) ∧ zbP fg ft fe (ds.drop (i + 1)) ρ' acc = some r, fun τ' H' h => h, fun x H' hx => ?_⟩
  obtain ⟨s, fz⟩ := yl x H' hx
  have gs : zba H2 Z2 H' Z2 := zba.same s
  have S2' := S2.mono gs fun a _ o e => s a o e
  obtain ⟨m1, m2, m3⟩ := za5 f2.nd
  have alD : ∀ a ∈ F2 ++ [D], H2 a ≠ none := fun a h e => by
   rcases lM h with h | h
   ·exact S2.al a h e
   ·rw [List.mem_singleton.mp h, d2] at e; cases e
  have fs : Fut H2 Z2 (F2 ++ [D]) H' Z2 (F2 ++ [D]) := by
   have := (Fut.same s f2.za).news f2.wf alD
   rw [List.append_nil] at this
   exact this
  refine ⟨Z2, ρ2, F2, _, ρ3, S2', m1, P2, fz, e3, fun τ3 F3 S3 n3 s3 P3 => ?_⟩
  have f3 : Fut H1 Z1 A H' Z2 (F3 ++ [D]) := (f2.trans fs).sub (zaw n3 m2 fun a h z => m3 a (s3 a h) z) fun a h => by
   rcases lM h with h | h
   ·exact lL _ (s3 a h)
   ·exact lR _ h
  have d3 : H' D = some (.lst xs) := s D _ d2
  have alD3 : ∀ {Hx : Hp} {u : List V}, Hx D = some (.lst u) → ∀ a ∈ [D], Hx a ≠ none := fun {Hx u} h a ha e => by rw [List.mem_singleton.mp ha, h] at e; cases e
  refine ⟨Z2, ρ3, F3, b, ρ4, S3, f3.left.wf, e4, fun H4 Z4 F4 S4 g4 => ?_⟩
  have f4 : Fut H1 Z1 A H4 Z4 (F4 ++ [D]) := f3.trans (g4.frame f3.wf (alD3 d3))
  have d4 : H4 D = some (.lst xs) := g4.keep D _ (fun z => (za5 f3.nd).2.2 D z lS) d3
  have z4 := (z2.mono gs).mono (g4.grow f3.left.wf)
  cases b with
  | false => exact zl2 ⟨_, by omega, rfl, hi, Z4, ρ4, F4, acc, xs, S4, P3, d4, z4, f4, e2⟩
  | true =>
   obtain ⟨⟨o5, ρ5⟩, e5, e2⟩ := oB e2
   obtain ⟨⟨d, ρ6⟩, e6, e2⟩ := oB e2
   split at e2
   ·next hl =>
    refine zl3 ⟨Z4, ρ4, F4, o5, ρ5, S4, f4.left.wf, e5, fun y H5 Z5 F5 G5 S5 O5 g5 => ?_⟩
    have d5 : H5 D = some (.lst xs) := g5.keep D _ (fun z => (za5 f4.nd).2.2 D z lS) d4
    have f5 : Fut H1 Z1 A H5 Z5 (F5 ++ G5 ++ [D]) := f4.trans (g5.frame f4.wf (alD3 d4))
    obtain ⟨Z6, F6, S6, y6, f6, g6⟩ := freeze S5 O5 f5 e6
    have z6 := (z4.mono (g5.grow f4.left.wf)).mono g6
    obtain ⟨f7, g7⟩ := f6.put (o' := .lst (xs ++ [y])) d5 (fun _ z => nomatch z) (fun _ _ z => nomatch z)
    refine ⟨xs, d5, zgg (Nat.le_of_lt (by rw [z6.length]; exact hl)), _, by omega, rfl, hi, Z6, ρ6, F6, acc ++ [d], xs ++ [y], S6.mono g7 fun a h o e => ?_, P3, zaG, (z6.mono g7).append (.cons (y6.mono g7) .nil), f7, e2⟩
    have hne : a ≠ D := fun z => (za5 f6.nd).2.2 a h (by rw [z]; exact lS)
    rw [zaB hne]
    exact e
   ·cases e2
 ·left
  rw [List.drop_length] at e2
  cases e2
  exact ⟨hJ.stop H2 Z2 (f2.grow w) (f2.keep a0 _ haA ha0) _ (Nat.le_refl _), q τ2 H2 Z2 F2 xs S2 P2 d2 z2 f2⟩
theorem zk3 {n : Nat} {js : List Nat} {i : Nat} {fg : FG} {ft : FT} {fe : FE} {σ : L2.St} {H : Hp} {Q : VK} {fr : List (Option Nat)} {Z : Zs} {ρ : Ev} {F : List Addr} {o : Opd} {ρ' : Ev} {ds : List PyData} (hfr : fr = List.replicate n none ++ js.map some) (S : Owo X.K H Z σ ρ F) (w : Wf H Z F) (e0 : at? ρ i = some (.lst ds)) (e : zfr n js i fg ft fe ρ = some (o, ρ'))
  (q : ∀ x H' Z' F' G, Owo X.K H' Z' σ ρ' F' → Opv X.K H' Z' σ x o G → Fut H Z F H' Z' (F' ++ G) → Q x H') :
  tLC fr (zj5 X.K (zfp i)) (fun _ => vG X.K (zgn n js σ) fg) (fun _ => vT X.K ft) (fun _ => vE X.K fe) σ H Q := by
 subst hfr
 unfold zfr at e
 rw [e0] at e
 dsimp only at e
 split at e
 ·cases e
 next hij =>
 obtain ⟨os, e2, e⟩ := oB e
 obtain ⟨⟨ms, ρh⟩, e3, e⟩ := oB e
 obtain ⟨⟨acc, ρi⟩, e4, e⟩ := oB e
 obtain ⟨ms', e5, e⟩ := oB e
 cases e
 obtain ⟨x, G, hx, hG, _⟩ := S.get (zas.mp e0)
 obtain ⟨a, xsa, rfl, hxa, fzx⟩ := (show Ro X.K H Z x (.lst ds) from ⟨G, hG⟩).lst
 refine ⟨.ref a, hx, a, rfl, ⟨xsa, SqL.of hxa⟩, fun D hD z => ?_⟩
 obtain ⟨xs, O1, hxs, hxl⟩ := zfR S e2
 obtain ⟨A, Fh, h1, h2, h3, h4⟩ := zcV S O1 (by rw [List.append_nil]; exact w.nd) e3
 rw [List.append_nil] at h4
 obtain ⟨n1, n2, n3⟩ := za5 h3
 have wA : Wf H Z A := ⟨n2, fun a h => w.dz a (h4 a (lR _ h)), w.za⟩
 have S0 := Owo.zfQ h1 n
 rw [zh1, ← hxs]
 have P0 := zjK n js σ
 rw [← hxs] at P0
 obtain ⟨x', G', g1, g2, g3⟩ := h2.get (zas.mp ((zfV hij e2 e3).trans e0))
 rw [hx] at g1
 cases g1
 have haA : a ∉ A := fun z => by
  cases g2 with
  | lst _ _ => exact n3 a (g3 a lS) z
 refine zje (n := n) hD S0 wA P0 (it_at fzx) hxa haA e4 fun τ' H2 Z2 F2 ys S2 P2 d2 z2 f2 => ?_
 obtain ⟨m1, m2, m3⟩ := za5 f2.nd
 obtain ⟨F3, k1, k2, k3⟩ := S2.zi5 n m1
 have hml : ms.length = js.length := by rw [← h1.length, hxl]
 obtain ⟨A', a1, a2, a3⟩ := zec (vs := xs) k1 k2 (fun i x _ hx => by
  rw [List.getElem?_drop]
  refine P2 (n + i) x ?_
  unfold zgn
  rw [if_neg (by omega), show n + i - n = i by omega]
  have hmap : (js.map (slot σ))[i]? = some (some x) := by rw [← hxs, List.getElem?_map, hx]; rfl
  rw [List.getElem?_map] at hmap
  obtain ⟨j, hj, hj'⟩ := Option.map_eq_some_iff.mp hmap
  rw [hj]
  exact hj') (fun i x d h => by
   have := List.mem_of_getElem? h
   rw [List.mem_replicate] at this
   cases this.2) h1.length e5
 have n3' : ∀ a ∈ A, a ∉ Fh := fun a h z => n3 a z h
 have Sh : Owo X.K H2 Z2 σ ρh Fh := h2.mono (f2.grow wA) fun a h o e => f2.keep a o (n3 a h) e
 have fF := f2.frame (G := Fh) ⟨zaw n2 n1 n3', fun a h => by
  rcases lM h with h | h
  ·exact w.dz a (h4 a (lR _ h))
  ·exact w.dz a (h4 a (lL _ h)), w.za⟩ h2.al
 obtain ⟨u1, u2, u3, u4, u5, u6⟩ := nd3 fF.nd
 obtain ⟨F4, p1, p2, p3⟩ := zc6 Sh O1 a1 (zaw u3 a2 fun a h z => u5 a (k3 a (a3 a z)) h) (zce e3)
 have f4 : Fut H Z F H Z (A ++ Fh) := (Fut.refl w).sub (zaw n2 n1 n3') fun a h => h4 a (by
  rcases lM h with h | h
  ·exact lR _ h
  ·exact lL _ h)
 refine q (.ref D) H2 Z2 F4 [D] p1 (.t (.lst d2 z2)) ((f4.trans fF).sub (zaw p2 u2 fun a h z => ?_) fun a h => ?_)
 ·rcases lM (p3 a h) with y | y
  ·exact u6 a z y
  ·exact u4 a (k3 a (a3 a y)) z
 ·rcases lM h with h | h
  ·rcases lM (p3 a h) with y | y
   ·exact lR _ y
   ·exact lL _ (lL _ (k3 a (a3 a y)))
  ·exact lL _ (lR _ h)
theorem zni {n : Nat} {js : List Nat} {i : Nat} {fg : FG} {ft : FT} {fe : FE} {σ : L2.St} {H : Hp} {Q : VK} {fr : List (Option Nat)} (hfr : fr = List.replicate n none ++ js.map some) (hq : vE X.K (zfr n js i fg ft fe) σ H Q) :
  tLC fr (zj5 X.K (zfp i)) (fun _ => vG X.K (zgn n js σ) fg) (fun _ => vT X.K ft) (fun _ => vE X.K fe) σ H Q ∨ tLC fr (vI X.K (zbA (zah i))) (fun _ => vG X.K (zgn n js σ) fg) (fun _ => vT X.K ft) (fun _ => vE X.K fe) σ H Q := by
 obtain ⟨Z, ρ, F, o, ρ', S, w, e, q⟩ := hq
 cases e0 : at? ρ i with
 | none =>
  right
  refine zed hfr ⟨Z, ρ, F, o, ρ', S, w, ?_, q⟩
  unfold zfr at e
  rw [e0] at e
  exact e
 | some m =>
  cases m with
  | lst ds => exact .inl (zk3 hfr S w e0 e q)
  | v d =>
   right
   refine zed hfr ⟨Z, ρ, F, o, ρ', S, w, ?_, q⟩
   unfold zfr at e
   rw [e0] at e
   exact e
  | dic d =>
   right
   refine zed hfr ⟨Z, ρ, F, o, ρ', S, w, ?_, q⟩
   unfold zfr at e
   rw [e0] at e
   exact e
  | dls d =>
   right
   refine zed hfr ⟨Z, ρ, F, o, ρ', S, w, ?_, q⟩
   unfold zfr at e
   rw [e0] at e
   exact e
theorem zgw (i : Nat) (n : Nat) (js : List Nat) {elt target : Expr} {ifs : List Expr} {scope : Scope} {N : List Str} {fr : List (Option Nat)} {pinI : List Nat} {fg : FG} {ft : FT} {fe : FE} {x : Str} {px : Pos} (hv : PE X (.Name x px) (zfp i)) (hfr : fr = List.replicate n none ++ js.map some) (hpin : pinI = (List.range js.length).map (n + ·)) (hc : X.calm = true) (S : zaZ X scope N fr) (hi : WI X target (.Name x px) (zbA (zah i)))
  (hin : ∀ z : Bk, WG (zaS X scope z.cl N z.C z.fp z.s z.H) pinI target fg ∧ WF (zaS X scope z.cl N z.C z.fp z.s z.H) ifs ft ∧ WE (zaS X scope z.cl N z.C z.fp z.s z.H) elt fe)
  (hs : ∀ y, foldedSetIterable (.Name x px) X.env y = pure y := by intro _; rfl) : WE X (.ListComp elt [⟨target, .Name x px, ifs, 0⟩] scope pos) (zfr n js i fg ft fe) := ⟨fun pins s σ H Q I hq => by
 rcases zni hfr hq with h | h
 ·exact zko (g := fun _ => vG X.K (zgn n js σ) fg) (tt := fun _ => vT X.K ft) (te := fun _ => vE X.K fe) hc S (zhi hv) (fun z => ⟨(hin z).1.h _ (zgo n js σ hpin), (hin z).2.1.h, (hin z).2.2.h⟩) hs pins s σ H Q I h
 ·exact zko (g := fun _ => vG X.K (zgn n js σ) fg) (tt := fun _ => vT X.K ft) (te := fun _ => vE X.K fe) hc S hi.h (fun z => ⟨(hin z).1.h _ (zgo n js σ hpin), (hin z).2.1.h, (hin z).2.2.h⟩) hs pins s σ H Q I h⟩
end
end VL
end
section
namespace L2
open PySem PySem.Spec PyProof.Rows
end L2
end
section
namespace VL
open PySem PySem.Spec L2 PyProof.Rows
end VL
end
section
namespace VL
open PySem PySem.Spec L2 PyProof.Rows
section
variable {X : Cx} {pos : Pos}
def zjS : List M → Option M
 | [.v (.int i)] => if i.natAbs.log2 < 1920 then some (.v (.str (toString i))) else none
 | [.v (.str x)] => some (.v (.str x))
 | [m] => (asD m).bind fun d => if zgt d = true then some (.v (.str d.shown)) else none
 | _ => none
theorem zjT (hu : X.A.units + 64 < cLine) (hg : X.A.guards = some []) : za3 X (.type "str") (rLM X.K zjS) := by
 intro pins s σ H xs us Q I rs h
 obtain ⟨Z, ms, m, za, hr, e, q⟩ := h
 unfold zjS at e
 split at e
 ·split at e
  ·next hi =>
   cases e
   obtain ⟨x, rfl, h1⟩ := zd2 hr
   obtain rfl := h1.int
   obtain ⟨u, rfl, rx⟩ := vals1 rs
   obtain ⟨t, rfl⟩ := rx
   exact P.str_of_int hi ⟨.str _, H, I.kept (t' := _) (fun _ _ e => e), ⟨_, rfl⟩, zco q za (.str _)⟩
  ·cases e
 ·cases e
  obtain ⟨x, rfl, h1⟩ := zd2 hr
  obtain rfl := h1.str
  obtain ⟨u, rfl, rx⟩ := vals1 rs
  obtain ⟨t, rfl⟩ := rx
  exact P.str_of_str ⟨.str _, H, I, ⟨_, rfl⟩, zco q za (.str _)⟩
 ·obtain ⟨d, e1, e⟩ := oB e
  split at e
  ·next ok =>
   cases e
   unfold zgt at ok
   simp only [Bool.and_eq_true, decide_eq_true_eq] at ok
   obtain ⟨x, rfl, h1⟩ := zd2 hr
   cases rs with
   | cons rx rr =>
    cases rr
    obtain ⟨as, rd⟩ := h1.reads I e1 ok.1.1.1.2 rx
    have hsm : d.hasDict = true → sysModules ∉ as := PyData.noDict_hsm (PyData.hasDict_of_canLay d ok.1.1.1.2)
    have key : ∀ {a : Addr}, Reads s.heap (.ref a) d as → wpAny (model X.prog X.w) X.A (call (.type "str") [.ref a]) (EP X pins σ Q) X.xe s := fun {a} rd => by
     refine str_of_reads rd ok.1.1.2 hsm hg (by have := ok.1.2; omega) (fun _ _ e => e) (fun h' u tk k => ⟨.str _, H, I.kept (t' := tk) k, ⟨u, rfl⟩, zco q za (.str _)⟩) ok.2
    cases d with
    | tuple ds => cases rd with
     | tuple a b c d => exact key (.tuple a b c d)
    | list ds => cases rd with
     | list a b c d => exact key (.list a b c d)
    | _ => exact absurd ok.1.1.1.1 (by simp [isSq])
  ·cases e
 ·cases e
end
end VL
end
section
namespace L2
open PySem PySem.W PyProof.Rows PySem.Calls
theorem zfi : ∀ (f n r : Nat), r ≤ 1 → minRun' f n r ≤ n + 1
 | 0, n, r, h => by show n + r ≤ n + 1; omega
 | f + 1, n, r, h => by
  rw [minRun'_succ]
  split
  ·omega
  ·have := zfi f (n / 2) (max r (n % 2)) (by omega)
   omega
theorem zgX {n : Nat} (h : 2 ≤ n) : minRun' n n 0 ≤ n := by
 obtain ⟨f, rfl⟩ : ∃ f, n = f + 1 := ⟨n - 1, by omega⟩
 rw [minRun'_succ]
 split
 ·omega
 ·have := zfi f ((f + 1) / 2) (max 0 ((f + 1) % 2)) (by omega)
  omega
section
variable {prog : Program} {w : World} {A : Around} {E : Value → Shared → Prop} {κ : SortKind} {it : Array Keyed}
theorem zjf {n : Nat} {Q : Unit → SortSt → Shared → Prop} {G : Array Nat → Shared → Prop} {s : Shared} (h2 : 2 ≤ n)
  (hG : ∀ p' st' s', p'.size = n → arrOf st' = p'.map (kas_item it) → failedOf st' = none → G p' s' → Q () st' s') (h : (kas_count n (List.toArray (List.range n))).kasWp (kas_cmp prog w A κ it) (fun r s' => r.1 = n ∧ G r.2 s') s) :
  kasC (model prog w) A E sortRuns' Q (kas_st κ it (List.toArray (List.range n))) s := by
 obtain ⟨r, rfl⟩ : ∃ r, n = r + 2 := ⟨n - 2, by omega⟩
 have hrs : (List.toArray (List.range (r + 2))).size = r + 2 := by simp
 have hsz : (arrOf (kas_st κ it (List.toArray (List.range (r + 2))))).size = r + 2 := by show ((List.toArray (List.range (r + 2))).map (kas_item it)).size = _; rw [Array.size_map, hrs]
 have hmr := zgX h2
 rw [sortRuns'_eq]; refine kasC_bind (kasC_get ?_); dsimp only
 simp only [hsz]; generalize minRun' (r + 2) (r + 2) 0 = mr at hmr
 refine kasC_bind (kasC_range ?_); show kasC _ _ _ (forIn (0 :: 1 :: List.range' 2 r) _ _) _ _ _
 refine kasC_cons ?_; dsimp only; rw [if_neg (by omega)]
 simp only [Nat.sub_zero, Nat.zero_add]
 refine kasC_bind (kas_count_ (G := fun r' s' => r'.1 = r + 2 ∧ G r'.2 s') (by omega) (by rw [hrs]; exact Nat.le_refl _) (fun m p' s' hm1 hm2 hp hg => ?_) h)
 obtain ⟨hm, hg⟩ := hg
 have hm : m = r + 2 := hm
 subst hm
 have hps : p'.size = r + 2 := hp.trans hrs
 dsimp only; rw [if_neg (show ¬ r + 2 < mr by omega)]
 refine kasC_bind (kasC_get ?_); rw [show (pendingOf (kas_st κ it p')).back? = none from rfl]; dsimp only
 refine kasC_bind (kasC_modify (kasC_pure ?_)); show kasC _ _ _ (forIn (1 :: List.range' 2 r) _ _) _ _ _
 refine kasC_cons ?_; dsimp only; rw [if_pos (Nat.le_refl _)]; refine kasC_pure ?_; dsimp only
 refine kasC_bind (kasC_range ?_); show kasC _ _ _ (forIn (0 :: 1 :: List.range' 2 r) _ _) _ _ _
 refine kasC_cons ?_; refine kasC_bind (kasC_get ?_); rw [if_pos (show (pendingOf (setPending (kas_st κ it p') ((pendingOf (kas_st κ it p')).push (0, r + 2, 0)))).size ≤ 1 from Nat.le_refl 1)]
 refine kasC_pure ?_; dsimp only; exact kasC_pure (hG p' _ _ hps rfl rfl hg)
end
section
variable {lt : Nat → Nat → Bool} {N : Nat}
theorem zij {p : Array Nat} (hp : Pm N p) (hN : 0 < N) : ∀ (f n : Nat), 1 ≤ n → (∀ i, n ≤ i → i < n + f → lt (gD p i) (gD p (i - 1)) = false) → zcc lt N (kas_asc p f n) (fun m => m = n + f)
 | 0, n, _, _ => rfl
 | f + 1, n, h1, hs => by
  refine ⟨hp.bd hN _, hp.bd hN _, ?_⟩
  have e : lt (p.getD n 0) (p.getD (n - 1) 0) = false := hs n (Nat.le_refl _) (by omega)
  rw [e]
  simp only [Bool.false_eq_true, if_false]
  exact zaz (fun m h => by omega) _ (zij hp hN f (n + 1) (by omega) fun i hi hi' => hs i (by omega) (by omega))
theorem zik (hN : 1 ≤ N) (hs : ∀ i, 1 ≤ i → i < N → lt i (i - 1) = false) : zcc lt N (kas_count N (List.toArray (List.range N))) (fun r => r.1 = N ∧ r.2 = List.toArray (List.range N)) := by
 have hp : Pm N (List.toArray (List.range N)) := Array.Perm.refl _
 have g : ∀ i, i < N → gD (List.toArray (List.range N)) i = i := fun i hi => by rw [zeZ]; simp [hi]
 unfold kas_count
 refine zbt _ (zaz (fun m hm => ?_) _ (zij hp (by omega) (N - 1) 1 (Nat.le_refl _) fun i hi hi' => by rw [g i (by omega), g (i - 1) (by omega)]; exact hs i hi (by omega)))
 have hm : m = N := by omega
 subst hm
 rw [if_pos (beq_self_eq_true _)]
 exact ⟨rfl, rfl⟩
end
section
variable {prog : Program} {w : World} {A : Around} {E : Value → Shared → Prop} {s : Shared} {κ : SortKind} {ks vs : List Value}
theorem zk4 {Q : SortSt → Shared → Prop} {G : Array Nat → Shared → Prop} (hl : ks.length = vs.length) (h2 : 2 ≤ vs.length)
  (hG : ∀ p st' s', p.size = vs.length → arrOf st' = p.map (kas_item (ks.toArray.zip vs.toArray)) → failedOf st' = none → G p s' → Q st' s') (h : (kas_count vs.length (List.toArray (List.range vs.length))).kasWp (kas_ask prog w A κ ks) (fun r s' => r.1 = vs.length ∧ G r.2 s') s) :
  wpAny (model prog w) A ((sortRuns').run (SortSt.mk' κ (ks.toArray.zip vs.toArray) #[] 7 none)) (fun r s' => Q r.2 s') E s := by
 rw [kat_ask_eq hl] at h
 have run := zjf (E := E) (Q := fun _ st' s' => Q st' s') h2 hG h
 have e := kas_range (ks.toArray.zip vs.toArray); rw [show (ks.toArray.zip vs.toArray).size = vs.length by simp [hl]] at e
 have est : SortSt.mk' κ (ks.toArray.zip vs.toArray) #[] 7 none = kas_st κ (ks.toArray.zip vs.toArray) (List.toArray (List.range vs.length)) := (congrArg (fun a => SortSt.mk' κ a #[] 7 none) e).symm
 rw [est]; exact run
end
end L2
end
section
namespace L2
open PySem PySem.W PyProof.Rows PySem.Calls
section
variable {prog : Program} {w : World} {A : Around} {E : Value → Shared → Prop} {s : Shared}
theorem zfj (vs : List Value) : zcd vs (List.toArray (List.range vs.length)) = vs := by
 unfold zcd
 apply List.ext_getElem?
 intro i
 rw [List.getElem?_map]
 by_cases hi : i < vs.length
 ·simp [List.getElem?_range hi, hi]
 ·simp [List.getElem?_eq_none, hi, Nat.le_of_not_lt hi]
theorem zcp {n : Nat} (h : n ≤ 1000000) : n ≤ sizeLine := by rw [sizeLine_eq]; omega
theorem zeA {a : Addr} {vs : List Value} {n : Nat} {lt : Nat → Nat → Bool} {P : PySem.Fin → Shared → Prop} (hasc : ∀ i, 1 ≤ i → i < vs.length → lt i (i - 1) = false) (ho : s.heap.get? a = some (seqObj "list" vs.toArray n)) (hbig : vs.length ≤ 1000000)
  (hk : 2 ≤ vs.length → ∀ h' : Heap, (∀ b o, b ≠ a → s.heap.get? b = some o → h'.get? b = some o) → ∃ κ, (∀ Q : SortKind → Shared → Prop, Q κ { s with heap := h' } → wpAny (model prog w) A (keyKind' vs.toArray) Q (fun _ _ => False) { s with heap := h' }) ∧
   ∀ i j, i < vs.length → j < vs.length → ∀ C : Bool → Shared → Prop, C (lt i j) { s with heap := h' } → wpAny (model prog w) A (keyLt' κ (vs.getD i Value.none) (vs.getD j Value.none)) C (fun _ _ => False) { s with heap := h' })
  (h : P (.done (.ret .none)) { s with heap := sortedHeap s.heap a vs vs.toArray }) :
  wpAny (model prog w) A (Builtin.«list.sort» ⟨[.ref a], []⟩) P E s := by
 have ha : a < s.heap.objs.size := Heap.lt_size ho
 obtain ⟨e1, ho1⟩ : ∃ e1, (s.heap.update a (Obj.mapSeq fun _ => (#[] : Array Value))).get? a = some (seqObj "list" #[] e1) := ⟨_, get?_update_seq ho fun _ => #[]⟩
 rw [list_sort_plain]
 refine wpAny_bind (listItems_at ho rfl ?_)
 refine wpAny_bind (listUpdate_at ho rfl ?_ (by rw [List.size_toArray]; exact zcp hbig) (Nat.zero_le _))
 refine wpAny_bind (seqEpoch_at ho1 rfl ?_)
 refine wpAny_bind (wpAny_newTuple ?_ (by show vs.length ≤ _; exact zcp hbig))
 refine wpAny_bind (wpAny_newList ?_ (Nat.zero_le _))
 refine wpAny_holding ?_
 have ho6 : (((s.heap.update a (Obj.mapSeq fun _ => #[])).push (seqObj "tuple" vs.toArray 0)).push (seqObj "list" #[] 0)).get? a = some (seqObj "list" #[] e1) := by
  rw [Heap.get?_push_ne _ _ _ (by rw [size_push', Heap.size_update]; exact Nat.ne_of_lt (Nat.lt_succ_of_lt ha)), Heap.get?_push_ne _ _ _ (by rw [Heap.size_update]; exact Nat.ne_of_lt ha)]
  exact ho1
 show wpAny (model prog w) A _ P E { s with heap := ((s.heap.update a (Obj.mapSeq fun _ => (#[] : Array Value))).push (seqObj "tuple" vs.toArray 0)).push (seqObj "list" #[] 0) }
 dsimp only
 by_cases h2 : vs.toArray.size < 2
 ·rw [if_pos h2, if_pos h2]
  refine wpAny_bind (wpAny_pure ?_)
  rw [StateT.run_pure]
  refine wpAny_bind (wpAny_pure ?_)
  dsimp only
  refine wpAny_bind (seqEpoch_at ho6 rfl ?_)
  refine wpAny_bind (listUpdate_at ho6 rfl ?_ (hsz2 := by rw [Array.size_map]; show (pairsOf vs).size ≤ _; rw [pairsOf_size]; exact Nat.le_succ_of_le (zcp hbig)))
  simp only [bne_self_eq_false, Bool.false_eq_true, if_false]
  have eo : ((arrOf (SortSt.mk' general' (vs.toArray.zip vs.toArray) #[] 7 none)).map (·.2)) = vs.toArray := by
   show (vs.toArray.zip vs.toArray).map (·.2) = vs.toArray
   apply Array.toList_inj.mp
   simp [List.map_snd_zip]
  refine wpAny_pure ?_
  rw [← eo] at h
  exact h
 ·rw [if_neg h2, if_neg h2]
  have h2' : 2 ≤ vs.length := by
   have : ¬ vs.length < 2 := by simpa using h2
   omega
  have keep : ∀ b o, b ≠ a → s.heap.get? b = some o → (((s.heap.update a (Obj.mapSeq fun _ => (#[] : Array Value))).push (seqObj "tuple" vs.toArray 0)).push (seqObj "list" #[] 0)).get? b = some o := fun b o hb e =>
   Heap.get?_push_of_some _ (Heap.get?_push_of_some _ ((Heap.get?_update_other s.heap _ (Ne.symm hb)).trans e))
  obtain ⟨κ, hkk, hlt⟩ := hk h2' _ keep
  refine wpAny_bind (wpAny_mono (hkk _ ?_) (fun κ s0 hk => hk) fun _ _ x => x.elim)
  generalize eS : ({ s with heap := ((s.heap.update a (Obj.mapSeq fun _ => (#[] : Array Value))).push (seqObj "tuple" vs.toArray 0)).push (seqObj "list" #[] 0) } : Shared) = S at hlt ⊢
  have tree : (kas_count vs.length (List.toArray (List.range vs.length))).kasWp (kas_ask prog w A κ vs) (fun r s' => r.1 = vs.length ∧ (s' = S ∧ r.2 = List.toArray (List.range vs.length))) S := by
   refine zen (N := vs.length) (lt := lt) (P := fun s' => s' = S) ?_ _ _ rfl (zaz (fun p hp s' hs' => ⟨hp.1, hs', hp.2⟩) _ (zik (by omega) hasc))
   intro i j C s' hi hj hs' hC
   subst hs'
   exact hlt i j hi hj C (hC _ rfl)
  refine wpAny_bind (wpAny_mono (zk4 (Q := fun st' s' => ∃ p : Array Nat, p.size = vs.length ∧ arrOf st' = p.map (kas_item (vs.toArray.zip vs.toArray)) ∧ failedOf st' = none ∧ (s' = S ∧ p = List.toArray (List.range vs.length)))
   rfl h2' (fun p' st' s' a1 a2 a3 a4 => ⟨p', a1, a2, a3, a4⟩) tree) ?_ fun _ _ e => e)
  rintro ⟨⟨⟩, st'⟩ s' ⟨p, hp, har, hf, hs', rfl⟩
  subst hs'
  subst eS
  dsimp only
  have hout := kat_snds rfl har
  rw [hout]
  refine wpAny_bind (seqEpoch_at ho6 rfl ?_)
  refine wpAny_bind (listUpdate_at ho6 rfl ?_ (hsz2 := by rw [List.size_toArray, List.length_map, Array.length_toList, hp]; exact Nat.le_succ_of_le (zcp hbig)))
  rw [hf]
  simp only [bne_self_eq_false, Bool.false_eq_true, if_false]
  rw [← zfj vs] at h
  have hh : P (.done (.ret .none)) { s with heap := sortedHeap s.heap a vs (zcd vs (List.toArray (List.range vs.length))).toArray } := by rw [zfj] at h ⊢; exact h
  exact wpAny_pure hh
theorem zgY {l : Addr} {vs : List Value} {lt : Nat → Nat → Bool} {Q : Value → Shared → Prop} (hasc : ∀ i, 1 ≤ i → i < vs.length → lt i (i - 1) = false) (hl : s.heap.IsList l vs.toArray) (hbig : vs.length ≤ 1000000)
  (hk : 2 ≤ vs.length → ∀ (A' : Around), A'.units ≤ A.units + 2 → ∀ h' : Heap, (∀ b o, s.heap.get? b = some o → h'.get? b = some o) → ∃ κ, (∀ Q : SortKind → Shared → Prop, Q κ { s with heap := h' } → wpAny (model prog w) A' (keyKind' vs.toArray) Q (fun _ _ => False) { s with heap := h' }) ∧
   ∀ i j, i < vs.length → j < vs.length → ∀ C : Bool → Shared → Prop, C (lt i j) { s with heap := h' } → wpAny (model prog w) A' (keyLt' κ (vs.getD i Value.none) (vs.getD j Value.none)) C (fun _ _ => False) { s with heap := h' })
  (h : Q (.ref (s.heap.objs.size + 1)) { s with heap := sortedAll s.heap vs vs.toArray }) :
  wpAny (model prog w) A (call (.builtin "sorted") [.ref l]) Q E s := by
 refine Calls.call_function_entry kind_sorted plain_sorted entry_sorted (args_sorted1 _) ?_
 unfold Builtin.«sorted»
 refine wpAny_bind (m := checkCount "sorted" 1 1 _) (wpAny_pure ?_)
 refine wpAny_bind (collect_list hl ?_ (zcp hbig))
 refine wpAny_bind (wpAny_newList ?_ (zcp hbig))
 have hsz : ((s.heap.push (seqObj "list" #[] 0)).update s.heap.objs.size (Obj.mapSeq (· ++ vs.toArray))).objs.size = s.heap.objs.size + 1 := by
  rw [Heap.size_update, size_push']
 have hoL : (((s.heap.push (seqObj "list" #[] 0)).update s.heap.objs.size (Obj.mapSeq (· ++ vs.toArray))).push (seqObj "list" vs.toArray 0)).get? (s.heap.objs.size + 1) = some (seqObj "list" vs.toArray 0) := by
  rw [← hsz]; exact Heap.get?_push_size _ rfl
 have keep : ∀ b o, s.heap.get? b = some o → b ≠ s.heap.objs.size + 1 ∧ (((s.heap.push (seqObj "list" #[] 0)).update s.heap.objs.size (Obj.mapSeq (· ++ vs.toArray))).push (seqObj "list" vs.toArray 0)).get? b = some o := fun b o q => by
  have hlt : b < s.heap.objs.size := Heap.lt_size q
  refine ⟨Nat.ne_of_lt (Nat.lt_succ_of_lt hlt), ?_⟩
  rw [Heap.get?_push_ne _ _ _ (by rw [hsz]; exact Nat.ne_of_lt (Nat.lt_succ_of_lt hlt)), Heap.get?_update_ne _ _ _ _ (Nat.ne_of_lt hlt), Heap.get?_push_ne _ _ _ (Nat.ne_of_lt hlt)]
  exact q
 show wpAny _ _ _ _ _ { s with heap := ((s.heap.push (seqObj "list" #[] 0)).update s.heap.objs.size (Obj.mapSeq (· ++ vs.toArray))).push (seqObj "list" vs.toArray 0) }
 rw [hsz]
 refine wpAny_bind (wpAny_holding (wpAny_call_entry slot_list_sort ⟨_, hoL, rfl⟩ entry_list_sort ?body (args_list_sort _)))
 case body =>
  refine zeA hasc hoL hbig (fun h2 h' kp => hk h2 _ ?_ h' fun b o e => kp b o (keep b o e).1 (keep b o e).2) ⟨_, rfl, wpAny_pure ⟨_, rfl, h⟩⟩
  show A.units + 1 + 1 ≤ A.units + 2
  omega
end
end L2
end
section
namespace L2
open PySem PySem.Spec PySem.W PyProof.Rows
abbrev WdT := Str × List Int
def wLt (a b : WdT) : Bool := if a.1 = b.1 then HT.lexLt a.2 b.2 else decide (a.1.cps.toList < b.1.cps.toList)
theorem zfW {prog : Program} {w : World} {A : Around} {Q : Bool → Shared → Prop} {s : Shared} {x y : Str} {t u : Tok} {xs ys : List Value} {as bs : List Int} (h1 : za1 (as.map V.int) xs) (h2 : za1 (bs.map V.int) ys)
  (q : Q (wLt (x, as) (y, bs)) s) : KatLex prog w A true (decide ((Value.str x t :: xs).length < (Value.str y u :: ys).length)) Q ((Value.str x t :: xs).zip (Value.str y u :: ys)) 0 s := by
 refine kat_cons (wpAny_eqBool_str ?_)
 unfold wLt at q
 dsimp only at q
 by_cases e : x = y
 ·rw [if_pos e] at q
  rw [decide_eq_true e]
  refine kat_yes (zb1 xs ys as bs 1 h1 h2 q _ (fun _ _ => True.intro) ?_)
  simp
 ·rw [if_neg e] at q
  rw [decide_eq_false e]
  exact kat_no (oneLt_str q)
section
variable {X : Cx}
def TWs (K : PySem.W.Frag) (H : Hp) (ys : List V) (ks : List WdT) : Prop := Paired (fun (v : V) (t : WdT) => ∃ a, v = .ref a ∧ SqT K H a (V.str t.1 :: t.2.map V.int)) ys ks
theorem zdg {pins : List (Addr × Obj)} {σ : St} {H : Hp} {s : Shared} {h' : Heap} (I : Inv X pins σ H s) (kp : ∀ b o, s.heap.get? b = some o → h'.get? b = some o) : ∀ {ys : List V} {ks : List WdT} {its : List Value}, TWs X.K H ys ks → za1 ys its →
  ∃ fs, KatTups h' its fs ∧ fs.length = its.length ∧ ∀ v ∈ fs, ∃ i t, v = Value.str i t
 | _, _, _, .nil, .nil => ⟨[], .nil, rfl, fun _ h => nomatch h⟩
 | _, _, _, .cons (b := t) ⟨a, e, hq⟩ r, .cons (b := u) ru rr => by
  subst e
  cases ru
  obtain ⟨fs, h1, h2, h3⟩ := zdg I kp r rr
  obtain ⟨its', rv, ⟨o, ho, hc, n, hd⟩, _⟩ := I.tuple hq
  cases rv with
  | cons r1 t1 =>
   obtain ⟨tk, rfl⟩ := r1
   refine ⟨.str t.1 tk :: fs, .cons (kp _ _ ho) hc hd rfl h1, by simp [h2], fun v hv => ?_⟩
   rcases lK hv with e | hv
   ·exact ⟨_, tk, e⟩
   ·exact h3 v hv
theorem zcY : za3 X (.builtin "sorted") (fun xs H Q => ∃ p ys ks, xs = [.ref p] ∧ SqL X.K H p ys ∧ TWs X.K H ys ks ∧ ys.length ≤ 1000000 ∧ (∀ i, 1 ≤ i → i < ks.length → wLt (ks.getD i ("", [])) (ks.getD (i - 1) ("", [])) = false) ∧ ∀ l, H l = none → Q (.ref l) (upd H l (.lst ys))) := by
 intro pins s σ H xs us Q I r h
 obtain ⟨p, ys, ks, rfl, hq, ht, hbig, hasc, q⟩ := h
 obtain ⟨u, rfl, rx⟩ := vals1 r
 cases rx
 obtain ⟨its, rv, pl, hz⟩ := I.list hq
 have hl := rv.length
 have hk : ys.length = ks.length := Paired.length ht
 refine zgY (lt := fun i j => wLt (ks.getD i ("", [])) (ks.getD j ("", []))) (fun i h1 h2 => hasc i h1 (by omega)) pl.isList (by omega) (fun h2 A' _ h' kp => ⟨tuples' true, fun Q' hq' => ?_, fun i j hi hj C hC => ?_⟩) ?_
 ·obtain ⟨fs, h1, h2', h3⟩ := zdg I kp ht rv
  refine kat_kind (s := { s with heap := h' }) (T := .type "str") h1 (by omega) (fun v hv => ?_) rfl hq'
  obtain ⟨i, t, rfl⟩ := h3 v hv
  exact Looks.now
 ·have hiy : i < ys.length := by omega
  have hjy : j < ys.length := by omega
  obtain ⟨a, ea, qa⟩ := Paired.getD (d := V.non) (d' := (("", []) : WdT)) ht i hiy
  obtain ⟨b, eb, qb⟩ := Paired.getD (d := V.non) (d' := (("", []) : WdT)) ht j hjy
  have ra := Paired.getD (d := V.non) (d' := Value.none) rv i hiy
  have rb := Paired.getD (d := V.non) (d' := Value.none) rv j hjy
  rw [ea] at ra
  rw [eb] at rb
  have ra : its.getD i Value.none = .ref a := ra
  have rb : its.getD j Value.none = .ref b := rb
  rw [ra, rb]
  obtain ⟨ia, va, ⟨oa, ha, _, na, da⟩, _⟩ := I.tuple qa
  obtain ⟨ib, vb, ⟨ob, hb, _, nb, db⟩, _⟩ := I.tuple qb
  refine kat_lt (s := { s with heap := h' }) (kp _ _ ha) da (kp _ _ hb) db ?_
  cases va with
  | cons r1 t1 =>
   cases vb with
   | cons r2 t2 =>
    obtain ⟨tk, rfl⟩ := r1
    obtain ⟨tk2, rfl⟩ := r2
    generalize ks.getD i ("", []) = k1 at *
    generalize ks.getD j ("", []) = k2 at *
    have := zfW (prog := X.prog) (w := X.w) (A := A') (x := k1.1) (y := k2.1) (t := tk) (u := tk2) t1 t2 hC
    simpa using this
 ·obtain ⟨e, he⟩ := sortedAll_at s.heap its its.toArray
  refine ⟨.ref (s.heap.objs.size + 1), _, I.laid (t' := s.toks) (a := s.heap.objs.size + 1) (o := .lst ys) (fun b u e => sortedAll_old e) (Nat.le_succ _) ?_, rfl, q _ (I.hok.fresh (Nat.le_succ _))⟩
  exact ⟨by rw [sizeLine_eq]; omega, its, e, rv, he⟩
end
end L2
end
section
namespace VL
open PySem PySem.Spec L2 PyProof.Rows
section
variable {X : Cx} {pos : Pos}
def wI (t : WdT) : PyData := .tuple (.str t.1 :: t.2.map .int)
def asW : PyData → Option WdT
 | .tuple (.str x :: ds) => (ze3 ds).bind fun ns => some (x, ns)
 | _ => none
def znj : List PyData → Option (List WdT)
 | [] => some []
 | d :: ds => (asW d).bind fun i => (znj ds).bind fun is => some (i :: is)
theorem zgx : ∀ {ds : List PyData} {ks : List WdT}, znj ds = some ks → ds = ks.map wI
 | [], _, e => by cases e; rfl
 | d :: ds, _, e => by
  obtain ⟨i, e1, e⟩ := oB e
  obtain ⟨is, e2, e⟩ := oB e
  cases e
  rw [zgx e2]
  unfold asW at e1
  split at e1
  ·obtain ⟨ns, e3, e1⟩ := oB e1
   cases e1
   rw [zbx e3]
   rfl
  ·cases e1
theorem Fzs.tws {K : PySem.W.Frag} {H : Hp} {Z : Zs} : ∀ {ks : List WdT} {xs : List V}, Fzs K H Z xs (ks.map wI) → TWs K H xs ks
 | [], _, .nil => .nil
 | k :: ks, _, .cons h r => .cons (by
   obtain ⟨a, xs, e1, e2, e3⟩ := h.zcA
   cases e3 with
   | cons h1 h2 =>
    rw [h2.zbw] at e2
    obtain rfl := h1.str_inv
    exact ⟨a, e1, e2⟩) (Fzs.tws r)
def rising (ks : List WdT) : Bool := (List.range (ks.length - 1)).all fun i => !wLt (ks.getD (i + 1) ("", [])) (ks.getD i ("", []))
def zk5 : List M → Option M
 | [m] => (zgR m).bind fun ds => (znj ds).bind fun ks => if rising ks = true ∧ ds.length ≤ 1000000 then some (.lst ds) else none
 | _ => none
theorem zjg : za3 X (.builtin "sorted") (rLM X.K zk5) := by
 intro pins s σ H xs us Q I rs h
 obtain ⟨Z, ms, m, za, hr, e, q⟩ := h
 unfold zk5 at e
 split at e
 ·obtain ⟨ds, e1, e⟩ := oB e
  obtain ⟨ks, e2, e⟩ := oB e
  split at e
  ·next hc =>
   cases e
   obtain ⟨x, rfl, h1⟩ := zd2 hr
   obtain ⟨a, xs, rfl, hx, fx⟩ := h1.zgR e1
   have hl := fx.length
   have fx' := fx
   rw [zgx e2] at fx'
   refine zcY pins s σ H _ us Q I rs ⟨a, xs, ks, rfl, hx, fx'.tws, by omega, fun i h1 h2 => ?_, fun l hl => zjC q za hl fx⟩
   have := List.all_eq_true.mp hc.1 (i - 1) (List.mem_range.mpr (by omega))
   rw [show i - 1 + 1 = i by omega] at this
   simpa using this
  ·cases e
 ·cases e
def zeB (ms : List M) : Option M := match zii ms with
 | some m => some m
 | none => zk5 ms
theorem zgy (hc : X.calm = true) : za3 X (.builtin "sorted") (rLM X.K zeB) := by
 intro pins s σ H xs us Q I rs h
 obtain ⟨Z, ms, m, za, hr, e, q⟩ := h
 unfold zeB at e
 split at e
 ·next m' em => cases e; exact zjc hc pins s σ H xs us Q I rs ⟨Z, ms, m, za, hr, em, q⟩
 ·exact zjg pins s σ H xs us Q I rs ⟨Z, ms, m, za, hr, e, q⟩
end
end VL
end
section
open PySem L2 VL
def FF.zch : FS := (zbJ (zbE (vU (zdv "int") (zah 0)) (zfK (vU (zdv "bool") (zah 0)))))
def FF.zav : FF := zdn [true] 1 FF.zch
def FF.zbp : FS := (zbJ (zbE (vU (zdv "tuple") (zah 0)) (vB (eqM false) (vCB zcU (zae (zah 0))) (zah 1))))
def FF.zal : FF := zdn [true, true] 2 FF.zbp
def FF.zdh : FS := (zbJ (vCB (allM false) (zae (vLC 1 [0] (zcf zfP (zae (vB zkA (vCB zcU (zae (zah 0))) (vC (.int 1))))) (zaj 0) zb9 (vB ltM (vIx (zah 1) (zah 0)) (vIx (zah 1) (vB zbO (zah 0) (vC (.int 1)))))))))
def FF.zbv : FF := zdn [true] 1 FF.zdh
def FF.za6 : FS := (zbg (zcu (zd8 (zea (vU (zdv "tuple") (zah 0)))) (zbJ (vC (.bool false))) za9)
 (zbJ (zbE (vCB (allM false) (zae (vLC 1 [] (zbA (zah 0)) (zaj 0) zb9 (zbE (vFn FF.zav (zae (zah 0))) (zd9 leM leM (vC (.int 0)) (zah 0) (vC (.int 99))))))) (vFn FF.zbv (zae (zah 0))))))
def FF.zay : FF := zdn [true] 1 FF.za6
def FF.zbd : FS := (zbg (zcu (zd8 (zea (vFn FF.zal (zaa (zah 1) (zae (vC (.int 2))))))) (zbJ (vC (.bool false))) za9)
 (zbg (zmH (zah 1) (zcC 2 (za0 (zaj 2) (za0 (zaj 3) zcW))))
 (zbJ (zbE (vFn FF.zav (zae (zah 2))) (zbE (vFn FF.zav (zae (zah 3))) (zbE (vB ltM (zah 2) (zah 3)) (zbE (vB (inA false) (zah 2) (zah 0)) (vB (inA false) (zah 3) (zah 0)))))))))
def FF.zaE : FF := zdn [true, true] 4 FF.zbd
def FF.zbK : FS := (zbg (zcu (zbW (vB (eqM false) (vCB zcU (zae (zah 0))) (vC (.int 0)))) (zbJ (vC (.int 0))) za9)
 (zbJ (vIx (zah 0) (vB zgS (zah 1) (vCB zcU (zae (zah 0)))))))
def FF.zaX : FF := zdn [true, true] 2 FF.zbK
def FF.zci : FS := (zbg (zcF 2 (vFn FF.zaX (zaa (zah 0) (zae (zah 1)))))
 (zbg (zcF 3 (vB mulM (vB zgS (vCB zmB (zae (zah 2))) (vB zjD (vB zjD (vC (.int 10)) (vC (.int 50))) (vC (.int 8)))) (vCB zd3 (zae (vB geM (vCB zmB (zae (zah 2))) (vB zjD (vC (.int 10)) (vC (.int 18))))))))
 (zbJ (zeD (zaa (zah 3) (zaa (vB zgS (vB mulM (vB zbO (vB zbO (vB zgS (zah 2) (vC (.int 2147483629))) (vB mulM (vB mulM (vC (.int 7919)) (zah 1)) (zah 1))) (vC (.int 17))) (vC (.int 48271))) (vC (.int 2147483647))) (zae (vC (.int 0)))))))))
def FF.zaY : FF := zdn [true, true] 4 FF.zci
def FF.zbL : FS := (zbg (zcu (zbW (vB gtM (vIx (zah 0) (vC (.int 0))) (vC (.int 0)))) (zbg (zcF 2 (vB zgS (vIx (zah 0) (vC (.int 0))) (zah 1)))
 (zbg (zkR 0 (vC (.int 0)) (vB ziS (vIx (zah 0) (vC (.int 0))) (zah 1)))
 (zbJ (zah 2)))) za9)
 (zbg (zkR 0 (vC (.int 2)) (vB zbO (vIx (zah 0) (vC (.int 2))) (vC (.int 1))))
 (zbg (zkR 0 (vC (.int 1)) (vB zgS (vB zbO (vB zbO (vB mulM (vIx (zah 0) (vC (.int 1))) (vC (.int 69621))) (vC (.int 12345))) (vB mulM (vC (.int 101)) (vIx (zah 0) (vC (.int 2))))) (vC (.int 2147483647))))
 (zbJ (vB zgS (vB ziS (vB zgS (vB mulM (vIx (zah 0) (vC (.int 1))) (vB zbO (vB zgS (vIx (zah 0) (vC (.int 1))) (vC (.int 40009))) (vC (.int 7)))) (vC (.int 2147483629))) (vC (.int 64))) (zah 1))))))
def FF.zag : FF := zdn [true, true] 3 FF.zbL
def FF.zcx : FS := (zbg (zlc 2 3 (zaa (vFn FF.zag (zaa (zah 0) (zae (vC (.int 5))))) (zae (vIx (zeD (zaa (vC (.int 1)) (zaa (vC (.int 2)) (zaa (vC (.int 3)) (zae (vC (.int 7))))))) (vFn FF.zag (zaa (zah 0) (zae (vC (.int 4)))))))))
 (zbg (zcF 4 (vIx (zeD (zaa (vC (.int 0)) (zaa (vC (.int 1)) (zaa (vC (.int 2)) (zaa (zah 1) (zae (vB zbO (vC (.int 3)) (vFn FF.zag (zaa (zah 0) (zae (vB zkA (zah 1) (vC (.int 2))))))))))))) (zah 2)))
 (zbg (zcF 5 (vFn FF.zag (zaa (zah 0) (zae (vC (.int 100))))))
 (zbg (zcF 6 (vIx (zeD (zh7 [1, 3, 7, 9, 11, 13, 17, 19, 21, 23, 27, 29, 31, 33])) (vFn FF.zag (zaa (zah 0) (zae (vC (.int 14)))))))
 (zbg (zcF 7 (vCB ze7 (zae (vLC 1 [5, 6] (zcf zfP (zae (zah 4))) (zaj 0) zb9 (vB zgS (vB zbO (zah 1) (vB mulM (zah 2) (zah 0))) (vC (.int 100)))))))
 (zbg (zcF 8 (zeD zd1))
 (zbg (zgl (zbA (zah 7)) (zaj 9) (zgl (zbA (zah 7)) (zaj 10) (zcu (zg6 (zbW (vB ltM (zah 10) (zah 9))) (zg6 (zbW (vB ltM (vCB zcU (zae (zah 8))) (vC (.int 60)))) (zbW (vB (eqM false) (vFn FF.zag (zaa (zah 0) (zae (zah 3)))) (vC (.int 0)))))) (zex (zis 8 (zae (zbF (zaa (zah 10) (zae (zah 9))))))) za9)))
 (zbJ (zbF (zaa (vCB zhR (zae (zah 7))) (zae (vCB zhR (zae (vCB ze7 (zae (zah 8))))))))))))))))
def FF.zbl : FF := zdn [true, true] 11 FF.zcx
end
section
open PySem L2 VL
def FF.zbe : FS := (zbJ (zbE (vU (zdv "tuple") (zah 0)) (zbE (vB gtM (vCB zcU (zae (zah 0))) (vC (.int 0))) (vU (zdv "str") (vIx (zah 0) (vC (.int 0)))))))
def FF.zaF : FF := zdn [true] 1 FF.zbe
def FF.zbq : FS := (zbJ (zbE (vFn FF.zay (zae (zah 1))) (vCB (allM false) (zae (zfr 1 [0] 1 (zaj 0) zb9 (vB (inA false) (zah 0) (vIx (zah 1) (vC (.int 0)))))))))
def FF.zaK : FF := zdn [true, true] 2 FF.zbq
def FF.zb3 : FS := (zbJ (zbE (vFn FF.zaE (zaa (vIx (zah 0) (vC (.int 0))) (zae (zah 1)))) (vB (inA false) (zah 1) (vIx (zah 0) (vC (.int 1))))))
def FF.zbj : FF := zdn [true, true] 2 FF.zb3
def FF.zaM : FS := (zbg (zcu (zd8 (zea (vFn FF.zaF (zae (zah 1))))) (zbJ (vC (.bool false))) za9)
 (zbg (zcu (zbW (vB (eqM false) (vIx (zah 1) (vC (.int 0))) (vC (.str "drop")))) (zbJ (zbE (vFn FF.zal (zaa (zah 1) (zae (vC (.int 2))))) (vFn FF.zaK (zaa (zah 0) (zae (vSl (zah 1) (zbc (vC (.int 1))) zbb)))))) za9)
 (zbJ (zbE (vB (inA false) (vIx (zah 1) (vC (.int 0))) (zbF (zaa (vC (.str "cut")) (zae (vC (.str "draw")))))) (vFn FF.zbj (zaa (zah 0) (zae (vSl (zah 1) (zbc (vC (.int 1))) zbb))))))))
def FF.zar : FF := zdn [true, true] 2 FF.zaM
def FF.zdi : FS := (zbg (zmH (zah 0) (zcC 2 (za0 (zaj 1) (za0 (zaj 2) zcW))))
 (zbg (zcF 3 (vB zbO (vB zbO (zfr 2 [] 2 (zcC 2 (za0 (zaj 0) (za0 (zaj 1) zcW))) zb9 (zbF (zaa (vC (.str "cut")) (zaa (zah 0) (zae (zah 1)))))) (zfr 2 [] 2 (zcC 2 (za0 (zaj 0) (za0 (zaj 1) zcW))) zb9 (zbF (zaa (vC (.str "draw")) (zaa (zah 0) (zae (zah 1))))))) (zfr 1 [] 1 (zaj 0) zb9 (zbF (zaa (vC (.str "drop")) (zae (zah 0)))))))
 (zbJ (vCB zhR (zae (vCB zeB (zae (zah 3))))))))
def FF.zbH : FF := zdn [true] 4 FF.zdi
def FF.zcy : FS := (zbg (zcF 1 (vLC 1 [] (zbA (vIx (zah 0) (vC (.int 1)))) (zaj 0) zb9 (vB zbO (zbF (zae (vC (.str "cut")))) (zah 0))))
 (zbJ (vB zbO (vB zbO (zah 1) (vLC 1 [] (zbA (vIx (zah 0) (vC (.int 1)))) (zaj 0) zb9 (vB zbO (zbF (zae (vC (.str "draw")))) (zah 0)))) (vLC 1 [] (zbA (vIx (zah 0) (vC (.int 0)))) (zaj 0) zb9 (zbF (zaa (vC (.str "drop")) (zae (zah 0))))))))
def FF.zbm : FF := zdn [true] 2 FF.zcy
def FF.zbZ : FS := (zbg (zlc 3 4 (zaa (vFn FF.zag (zaa (zah 0) (zae (vC (.int 9))))) (zae (vFn FF.zag (zaa (zah 0) (zae (vCB zcU (zae (zah 2)))))))))
 (zbg (zcF 5 (vB zkA (vFn FF.zag (zaa (zah 0) (zae (vC (.int 102))))) (vC (.int 1))))
 (zbg (zcu (zbW (vB (eqM false) (zah 3) (vC (.int 0)))) (zbJ (vB zbO (vB zbO (vSl (zah 2) zbb (zbc (zah 4))) (zbF (zae (vB mulM (zah 5) (vCB zd3 (zae (vB gtM (zah 4) (vC (.int 0))))))))) (vSl (zah 2) (zbc (vB zbO (zah 4) (vC (.int 1)))) zbb))) za9)
 (zbg (zcu (zbW (vB (eqM false) (zah 3) (vC (.int 1)))) (zbJ (vB zbO (vSl (zah 2) zbb (zbc (vC (.int 1)))) (vB zmZ (vSl (zah 2) (zbc (vC (.int 1))) zbb) (vU ziq (vC (.int 1)))))) za9)
 (zbg (zcu (zbW (vB (eqM false) (zah 3) (vC (.int 2)))) (zbJ (vB zbO (zbF (zae (vIx (zeD (zaa (vC (.str "cut")) (zaa (vC (.str "draw")) (zaa (vC (.str "drop")) (zaa (vC (.str "Cut")) (zaa (vC (.str "cuts")) (zaa (vC (.str "")) (zaa (vC (.str "done")) (zae (vC (.str "tie"))))))))))) (vFn FF.zag (zaa (zah 0) (zae (vC (.int 8)))))))) (vSl (zah 2) (zbc (vC (.int 1))) zbb))) za9)
 (zbg (zcu (zbW (vB (eqM false) (zah 3) (vC (.int 3)))) (zbJ (vB zbO (vSl (zah 2) zbb (zbc (zah 4))) (vSl (zah 2) (zbc (vB zbO (zah 4) (vC (.int 1)))) zbb))) za9)
 (zbg (zcu (zbW (vB (eqM false) (zah 3) (vC (.int 4)))) (zbJ (vB zbO (zah 2) (zbF (zae (zah 5))))) za9)
 (zbg (zcu (zbW (vB (eqM false) (zah 3) (vC (.int 5)))) (zbJ (vIx (zeD (zaa (vCB zf6 (zae (zah 2))) (zaa (zbF (zae (zah 2))) (zaa (vSl (zah 2) (zbc (vC (.int 1))) zbb) (zaa (vCB zjS (zae (zah 2))) (zae (vB zbO (vSl (zah 2) zbb (zbc (vC (.int 1)))) (zbF (zae (vSl (zah 2) (zbc (vC (.int 1))) zbb)))))))))) (vFn FF.zag (zaa (zah 0) (zae (vC (.int 5))))))) za9)
 (zbg (zcu (zbW (vB (eqM false) (zah 3) (vC (.int 6)))) (zbg (zcF 6 (zeD (zaa (vC (.bool true)) (zaa (vC (.bool false)) (zaa (vC .none) (zaa (vC (.str "0")) (zaa (zeD (zae (vC (.int 0)))) (zaa (zbF (zae (vC (.int 0)))) (zaa (vCB zjS (zae (vIx (zah 2) (vU ziq (vC (.int 1)))))) (zae (vB zkA (vU ziq (vIx (zah 2) (vU ziq (vC (.int 1))))) (vC (.int 1)))))))))))))
 (zbJ (vB zbO (vSl (zah 2) zbb (zbc (vU ziq (vC (.int 1))))) (zbF (zae (vIx (zah 6) (vFn FF.zag (zaa (zah 0) (zae (vC (.int 8))))))))))) za9)
 (zbg (zcu (zbW (vB (eqM false) (zah 3) (vC (.int 7)))) (zbJ (zbF (zaa (vIx (zeD (zaa (vC (.str "cut")) (zae (vC (.str "draw"))))) (vFn FF.zag (zaa (zah 0) (zae (vC (.int 2)))))) (zaa (vFn FF.zag (zaa (zah 0) (zae (vC (.int 100))))) (zae (vFn FF.zag (zaa (zah 0) (zae (vC (.int 100)))))))))) za9)
 (zbg (zcF 6 (zeD (zaa (vC .none) (zaa (vC (.bool true)) (zaa (vC (.int 0)) (zaa (vC (.str "")) (zaa (vC (.str "cut")) (zaa (zbF zd1) (zaa (zeD zd1) (zaa ziY (zaa (zbF (zae (vC (.str "cut")))) (zaa (zbF (zae (vC (.str "drop")))) (zaa (zbF (zaa (vC (.int 0)) (zae (vC (.int 1))))) (zaa (zbF (zaa (vC (.str "drop")) (zae (zbF zd1)))) (zaa (zbF (zae (zbF (zaa (vC (.str "cut")) (zaa (vC (.int 0)) (zae (vC (.int 1)))))))) (zae (zah 1)))))))))))))))))
 (zbJ (vIx (zah 6) (vFn FF.zag (zaa (zah 0) (zae (vCB zcU (zae (zah 6)))))))))))))))))))
def FF.zap : FF := zdn [true, true, true] 7 FF.zbZ
def FF.zbr : FS := (zbg (zcu (vOr (zd8 (zea (vU (zdv "tuple") (zah 1)))) (vOr (zbW (vB (inA true) (vCB zcU (zae (zah 1))) (zbF (zaa (vC (.int 2)) (zae (vC (.int 3))))))) (zd8 (zea (vU (zdv "str") (vIx (zah 1) (vC (.int 0)))))))) (zbJ (vC (.bool false))) za9)
 (zbg (zcu (zd8 (zea (vCB (allM false) (zae (vLC 1 [] (zbA (vSl (zah 1) (zbc (vC (.int 1))) zbb)) (zaj 0) zb9 (zbE (vU (zdv "int") (zah 0)) (zfK (vU (zdv "bool") (zah 0))))))))) (zbJ (vC (.bool false))) za9)
 (zbg (zcu (zbW (vB (eqM false) (vCB zcU (zae (zah 1))) (vC (.int 2)))) (zbJ (zbE (vB (eqM false) (vIx (zah 1) (vC (.int 0))) (vC (.str "drop"))) (vB (inA false) (vIx (zah 1) (vC (.int 1))) (vIx (zah 0) (vC (.int 0)))))) za9)
 (zbJ (zbE (vB (inA false) (vIx (zah 1) (vC (.int 0))) (zbF (zaa (vC (.str "cut")) (zae (vC (.str "draw")))))) (vB (inA false) (vSl (zah 1) (zbc (vC (.int 1))) zbb) (vIx (zah 0) (vC (.int 1)))))))))
def FF.zaA : FF := zdn [true, true] 2 FF.zbr
def FF.zan : Nat → FF
 | 0 => fun _ => none
 | n + 1 => zdn [true, true] 2 (zbg (zcu (zea (vU (zdv "tuple") (zah 1))) (zbg (zcu (vOr (zd8 (zea (vU (zdv "tuple") (zah 0)))) (zbW (vB (eqM true) (vCB zcU (zae (zah 0))) (vCB zcU (zae (zah 1)))))) (zbJ (vC (.bool false))) za9)
 (zbJ (vCB (allM false) (zae (vLC 2 [] (zcf zmO (zaa (zah 0) (zae (zah 1)))) (zcC 2 (za0 (zaj 0) (za0 (zaj 1) zcW))) zb9 (vFn (FF.zan n) (zaa (zah 0) (zae (zah 1))))))))) za9)
 (zbJ (zbE (vB (eqM false) (vU (zdv "str") (zah 0)) (vU (zdv "str") (zah 1))) (zbE (zfK (vU (zdv "bool") (zah 0))) (vB (eqM false) (zah 0) (zah 1))))))
def FF.zeg : FS := (zbg (zgl (zcf zfP (zae (vB zbO (vC (.int 1)) (vCB minM (zaa (vC (.int 5)) (zae (vCB zcU (zae (zah 0))))))))) (zaj 1) (zbg (zcF 2 (vFn FF.zaY (zaa (zah 0) (zae (zah 1)))))
 (zbg (zcF 3 (vFn FF.zbl (zaa (zah 2) (zae (vC (.int 24))))))
 (zbg (zcF 4 (vFn FF.zbm (zae (zah 3))))
 (zbg (zcF 5 (vLC 1 [2, 3] (zcf zfP (zae (vC (.int 6)))) (zaj 0) zb9 (vFn FF.zap (zaa (zah 1) (zaa (zah 2) (zae (zbF (zaa (vC (.str "cut")) (zaa (vC (.int 0)) (zae (vC (.int 1))))))))))))
 (zbg (zgl (zcf zfP (zae (vB mulM (vC (.int 24)) (vCB zd3 (zae (vB (eqM true) (zah 4) (zeD zd1))))))) (zaj 6) (zex (zis 5 (zae (vFn FF.zap (zaa (zah 2) (zaa (zah 3) (zae (vIx (zah 4) (vFn FF.zag (zaa (zah 2) (zae (vCB zcU (zae (zah 4)))))))))))))))
 (zgl (zcf zfP (zae (vC (.int 2)))) (zaj 7) (zbg (zcu (vOr (zd8 (zea (vFn (FF.zan 4) (zaa (vFn FF.zbH (zae (zah 3))) (zae (vCB zhR (zae (zah 4)))))))) (zbW (vB (eqM true) (vCB zf6 (zae (zah 4))) (vCB zeB (zae (zah 4)))))) (zbJ (vC (.bool false))) za9)
 (zgl (zbA (vB zbO (zah 4) (zah 5))) (zaj 8) (zbg (zcF 9 (vFn FF.zar (zaa (zah 3) (zae (zah 8)))))
 (zcu (vOr (zd8 (zea (vU (zdv "bool") (zah 9)))) (zbW (vB (eqM true) (zah 9) (vFn FF.zaA (zaa (zah 3) (zae (zah 8))))))) (zbJ (vC (.bool false))) za9)))))))))))
 (zbJ (vC (.bool true))))
def FF.zgz : FF := zdn [true] 10 FF.zeg
end
section
namespace Lk06
open PySem L2 VL PyProof.Rows
def top (i : Nat) : Stmt := PySem.Challenge.pw_drawnweb_k06_deeds_of_a_web.main.body.getD i (.Pass ⟨0, 0, 0, 0⟩)
structure Txt (mg : Str → Option Value) : Prop where
 z_isinstance : mg "isinstance" = none
 z_bool : mg "bool" = none
 z_int : mg "int" = none
 z_len : mg "len" = none
 z_tuple : mg "tuple" = none
 z_range : mg "range" = none
 z_all : mg "all" = none
 z_str : mg "str" = none
 z_sorted : mg "sorted" = none
 z_abs : mg "abs" = none
 z_list : mg "list" = none
 z_zip : mg "zip" = none
 z_min : mg "min" = none
 g_GREATEST_PLACE : ∃ t, mg "GREATEST_PLACE" = some (.int 99 t)
section
variable {P : Program} {w : World} {K : PySem.W.Frag} {mg : Str → Option Value} {base : Heap} {f : Addr} {fd : FuncData}
abbrev s_is_whole : Stmt := top 1
theorem sc_is_whole : zaC ["thing"] ["thing"] (zaf s_is_whole) := ⟨rfl, rfl, rfl, by decide +kernel, rfl, by decide +kernel, by decide +kernel⟩
theorem ok_is_whole (Fn : Fun K "is_whole" "is_whole" s_is_whole f fd) (T : Txt mg) : zb8 P w K mg base CX0 1 f fd ["thing"] (spV K FF.zav) :=
 zaW [true] Fn sc_is_whole rfl fun cdv A outer s H E hr => (by
  have hU := hr.units
  have hG := hr.gd
  exact (zak (zaq (zbo (zbB "int" (by decide) (by decide) rfl T.z_isinstance (by decide +kernel) (wv 0) (za8 (v := .ty "int") rfl T.z_int (by decide +kernel) rfl)) (zbT (zh6 (zbB "bool" (by decide) (by decide) rfl T.z_isinstance (by decide +kernel) (wv 0) (za8 (v := .ty "bool") rfl T.z_bool (by decide +kernel) rfl))))))))
abbrev s_is_tuple_of : Stmt := top 2
theorem sc_is_tuple_of : zaC ["thing", "many"] ["thing", "many"] (zaf s_is_tuple_of) := ⟨rfl, rfl, rfl, by decide +kernel, rfl, by decide +kernel, by decide +kernel⟩
theorem ok_is_tuple_of (Fn : Fun K "is_tuple_of" "is_tuple_of" s_is_tuple_of f fd) (T : Txt mg) : zb8 P w K mg base CX0 1 f fd ["thing", "many"] (spV K FF.zal) :=
 zaW [true, true] Fn sc_is_tuple_of rfl fun cdv A outer s H E hr => (by
  have hU := hr.units
  have hG := hr.gd
  exact (zak (zaq (zbo (zbB "tuple" (by decide) (by decide) rfl T.z_isinstance (by decide +kernel) (wv 0) (za8 (v := .ty "tuple") rfl T.z_tuple (by decide +kernel) rfl)) (zbT (zcv (zcr hU) (zbz zbS rfl T.z_len (by decide +kernel) (zad (wv 0))) (wv 1) (zaN _)))))))
abbrev s_rises : Stmt := top 3
theorem sc_rises : zaC ["items"] ["items"] (zaf s_rises) := ⟨rfl, rfl, rfl, by decide +kernel, rfl, by decide +kernel, by decide +kernel⟩
theorem ok_rises (Fn : Fun K "rises" "rises" s_rises f fd) (T : Txt mg) : zb8 P w K mg base CX0 1 f fd ["items"] (spV K FF.zbv) :=
 zaW [true] Fn sc_rises rfl fun cdv A outer s H E hr => (by
  have hU := hr.units
  have hG := hr.gd
  exact (zak (zaq (zbz (zfa rfl) rfl T.z_all (by decide +kernel) (zad (zfT 1 [0] rfl rfl rfl (zaZ.of (sc0 := zaf s_rises) (N0 := ["items"]) (N := ["k", "items"]) (fr := [none, some 0]) rfl rfl (by decide +kernel)) (zc7 rfl T.z_range (zad (zat zgi (zbz zbS rfl T.z_len (by decide +kernel) (zad (wv 0))) zac))) (fun _ => ⟨(zax (i := 0) (by decide) (show (["k", "items"] : List Str).Nodup by decide +kernel) rfl (Or.inl rfl)), zbY, (zcv (ziV hU) (za2 hU (wv 1) (wv 0) (fun _ _ => rfl)) (za2 hU (wv 1) (zat zaQ (wv 0) zac) (fun _ _ => rfl)) (zaN _))⟩)))))))
abbrev s_is_worded : Stmt := top 4
theorem sc_is_worded : zaC ["thing"] ["thing"] (zaf s_is_worded) := ⟨rfl, rfl, rfl, by decide +kernel, rfl, by decide +kernel, by decide +kernel⟩
theorem ok_is_worded (Fn : Fun K "is_worded" "is_worded" s_is_worded f fd) (T : Txt mg) : zb8 P w K mg base CX0 1 f fd ["thing"] (spV K FF.zaF) :=
 zaW [true] Fn sc_is_worded rfl fun cdv A outer s H E hr => (by
  have hU := hr.units
  have hG := hr.gd
  exact (zak (zaq (zbo (zbB "tuple" (by decide) (by decide) rfl T.z_isinstance (by decide +kernel) (wv 0) (za8 (v := .ty "tuple") rfl T.z_tuple (by decide +kernel) rfl)) (zbo (zcv zkB (zbz zbS rfl T.z_len (by decide +kernel) (zad (wv 0))) zac (zaN _)) (zbT (zbB "str" (by decide) (by decide) rfl T.z_isinstance (by decide +kernel) (za2 hU (wv 0) zac (fun _ _ => rfl)) (za8 (v := .ty "str") rfl T.z_str (by decide +kernel) rfl))))))))
abbrev s_are_places : Stmt := top 7
theorem sc_are_places : zaC ["thing"] ["thing"] (zaf s_are_places) := ⟨rfl, rfl, rfl, by decide +kernel, rfl, by decide +kernel, by decide +kernel⟩
theorem ok_are_places (Fn : Fun K "are_places" "are_places" s_are_places f fd) (T : Txt mg) (C_rises : zaJ P w K mg base "rises" ["items"] 1 (spV K FF.zbv)) (C_is_whole : zaJ P w K mg base "is_whole" ["thing"] 1 (spV K FF.zav)) : zb8 P w K mg base CX0 2 f fd ["thing"] (spV K FF.zay) :=
 zaW [true] Fn sc_are_places rfl fun cdv A outer s H E hr => (by
  have hU := hr.units
  have hG := hr.gd
  exact (zai (zbQ (zcX (zcw (zbB "tuple" (by decide) (by decide) rfl T.z_isinstance (by decide +kernel) (wv 0) (za8 (v := .ty "tuple") rfl T.z_tuple (by decide +kernel) rfl)))) (zak (zaq zdo)) zaI)
  (zak (zaq (zbo (zbz (zfa rfl) rfl T.z_all (by decide +kernel) (zad (zfT 1 [] rfl rfl rfl (zaZ.of (sc0 := zaf s_are_places) (N0 := ["thing"]) (N := ["place"]) (fr := [none]) rfl rfl (by decide +kernel)) (zb7 (wv 0)) (fun _ => ⟨(zax (i := 0) (by decide) (show (["place"] : List Str).Nodup by decide +kernel) rfl (Or.inl rfl)), zbY, (zbo (zaV C_is_whole hr rfl (zad (wv 0))) (zbT (zi7 zmu zmu zac (wv 0) (zkU rfl T.g_GREATEST_PLACE))))⟩)))) (zbT (zaV C_rises hr rfl (zad (wv 0)))))))))
abbrev s_is_pair : Stmt := top 8
theorem sc_is_pair : zaC ["places", "thing", "a", "b"] ["places", "thing"] (zaf s_is_pair) := ⟨rfl, rfl, rfl, by decide +kernel, rfl, by decide +kernel, by decide +kernel⟩
theorem ok_is_pair (Fn : Fun K "is_pair" "is_pair" s_is_pair f fd) (T : Txt mg) (C_is_whole : zaJ P w K mg base "is_whole" ["thing"] 1 (spV K FF.zav)) (C_is_tuple_of : zaJ P w K mg base "is_tuple_of" ["thing", "many"] 1 (spV K FF.zal)) : zb8 P w K mg base CX0 2 f fd ["places", "thing"] (spV K FF.zaE) :=
 zaW [true, true] Fn sc_is_pair rfl fun cdv A outer s H E hr => (by
  have hU := hr.units
  have hG := hr.gd
  exact (zai (zbQ (zcX (zcw (zaV C_is_tuple_of hr rfl (zab (wv 1) (zad zac))))) (zak (zaq zdo)) zaI)
  (zai (zjP (wv 1) (zfh 2 rfl (zby (zax (i := 2) (by decide) sc_is_pair.nd rfl (Or.inl rfl)) (zby (zax (i := 3) (by decide) sc_is_pair.nd rfl (Or.inl rfl)) zdN))))
  (zak (zaq (zbo (zaV C_is_whole hr rfl (zad (wv 2))) (zbo (zaV C_is_whole hr rfl (zad (wv 3))) (zbo (zcv (ziV hU) (wv 2) (wv 3) (zaN _)) (zbo (zfd hU (wv 2) (wv 0)) (zbT (zfd hU (wv 3) (wv 0))))))))))))
abbrev s_are_some : Stmt := top 9
theorem sc_are_some : zaC ["web", "thing"] ["web", "thing"] (zaf s_are_some) := ⟨rfl, rfl, rfl, by decide +kernel, rfl, by decide +kernel, by decide +kernel⟩
theorem ok_are_some (Fn : Fun K "are_some" "are_some" s_are_some f fd) (T : Txt mg) (C_are_places : zaJ P w K mg base "are_places" ["thing"] 2 (spV K FF.zay)) : zb8 P w K mg base CX0 3 f fd ["web", "thing"] (spV K FF.zaK) :=
 zaW [true, true] Fn sc_are_some rfl fun cdv A outer s H E hr => (by
  have hU := hr.units
  have hG := hr.gd
  exact (zak (zaq (zbo (zaV C_are_places hr rfl (zad (wv 1))) (zbT (zbz (zfa rfl) rfl T.z_all (by decide +kernel) (zad (zgw 1 1 [0] (pv 1) rfl rfl rfl (zaZ.of (sc0 := zaf s_are_some) (N0 := ["web", "thing"]) (N := ["place", "web"]) (fr := [none, some 0]) rfl rfl (by decide +kernel)) (zb7 (wv 1)) (fun _ => ⟨(zax (i := 0) (by decide) (show (["place", "web"] : List Str).Nodup by decide +kernel) rfl (Or.inl rfl)), zbY, (zfd hU (wv 0) (za2 hU (wv 1) zac (fun _ _ => rfl)))⟩)))))))))
abbrev s_is_tie : Stmt := top 10
theorem sc_is_tie : zaC ["web", "thing"] ["web", "thing"] (zaf s_is_tie) := ⟨rfl, rfl, rfl, by decide +kernel, rfl, by decide +kernel, by decide +kernel⟩
theorem ok_is_tie (Fn : Fun K "is_tie" "is_tie" s_is_tie f fd) (T : Txt mg) (C_is_pair : zaJ P w K mg base "is_pair" ["places", "thing"] 2 (spV K FF.zaE)) : zb8 P w K mg base CX0 3 f fd ["web", "thing"] (spV K FF.zbj) :=
 zaW [true, true] Fn sc_is_tie rfl fun cdv A outer s H E hr => (by
  have hU := hr.units
  have hG := hr.gd
  exact (zak (zaq (zbo (zaV C_is_pair hr rfl (zab (za2 hU (wv 0) zac (fun _ _ => rfl)) (zad (wv 1)))) (zbT (zfd hU (wv 1) (za2 hU (wv 0) zac (fun _ _ => rfl))))))))
abbrev s_is_deed : Stmt := top 12
theorem sc_is_deed : zaC ["web", "thing"] ["web", "thing"] (zaf s_is_deed) := ⟨rfl, rfl, rfl, by decide +kernel, rfl, by decide +kernel, by decide +kernel⟩
theorem ok_is_deed (Fn : Fun K "is_deed" "is_deed" s_is_deed f fd) (T : Txt mg) (C_is_tie : zaJ P w K mg base "is_tie" ["web", "thing"] 3 (spV K FF.zbj)) (C_are_some : zaJ P w K mg base "are_some" ["web", "thing"] 3 (spV K FF.zaK)) (C_is_tuple_of : zaJ P w K mg base "is_tuple_of" ["thing", "many"] 1 (spV K FF.zal)) (C_is_worded : zaJ P w K mg base "is_worded" ["thing"] 1 (spV K FF.zaF)) : zb8 P w K mg base CX0 4 f fd ["web", "thing"] (spV K FF.zar) :=
 zaW [true, true] Fn sc_is_deed rfl fun cdv A outer s H E hr => (by
  have hU := hr.units
  have hG := hr.gd
  exact (zai (zbQ (zcX (zcw (zaV C_is_worded hr rfl (zad (wv 1))))) (zak (zaq zdo)) zaI)
  (zai (zbQ (zbs (zcr hU) (za2 hU (wv 1) zac (fun _ _ => rfl)) zaH (zaN _)) (zak (zaq (zbo (zaV C_is_tuple_of hr rfl (zab (wv 1) (zad zac))) (zbT (zaV C_are_some hr rfl (zab (wv 0) (zad (zcD (wv 1) (zbi zac) zbh)))))))) zaI)
  (zak (zaq (zbo (zfd hU (za2 hU (wv 1) zac (fun _ _ => rfl)) (zaO (zab zaH (zad zaH)))) (zbT (zaV C_is_tie hr rfl (zab (wv 0) (zad (zcD (wv 1) (zbi zac) zbh)))))))))))
abbrev s_deeds : Stmt := top 13
theorem sc_deeds : zaC ["web", "places", "ties", "every"] ["web"] (zaf s_deeds) := ⟨rfl, rfl, rfl, by decide +kernel, rfl, by decide +kernel, by decide +kernel⟩
theorem ok_deeds (Fn : Fun K "deeds" "deeds" s_deeds f fd) (T : Txt mg) : zb8 P w K mg base CX0 1 f fd ["web"] (spV K FF.zbH) :=
 zaW [true] Fn sc_deeds rfl fun cdv A outer s H E hr => (by
  have hU := hr.units
  have hG := hr.gd
  exact (zai (zjP (wv 0) (zfh 2 rfl (zby (zax (i := 1) (by decide) sc_deeds.nd rfl (Or.inl rfl)) (zby (zax (i := 2) (by decide) sc_deeds.nd rfl (Or.inl rfl)) zdN))))
  (zai (zbC (i := 3) (by decide) sc_deeds.nd rfl (Or.inl rfl) (zat zaQ (zat zaQ (zgw 2 2 [] (pv 2) rfl rfl rfl (zaZ.of (sc0 := zaf s_deeds) (N0 := ["web", "places", "ties", "every"]) (N := ["a", "b"]) (fr := [none, none]) rfl rfl (by decide +kernel)) (zb7 (wv 2)) (fun _ => ⟨(zfh 2 rfl (zby (zax (i := 0) (by decide) (show (["a", "b"] : List Str).Nodup by decide +kernel) rfl (Or.inl rfl)) (zby (zax (i := 1) (by decide) (show (["a", "b"] : List Str).Nodup by decide +kernel) rfl (Or.inl rfl)) zdN))), zbY, (zaO (zab zaH (zab (wv 0) (zad (wv 1)))))⟩)) (zgw 2 2 [] (pv 2) rfl rfl rfl (zaZ.of (sc0 := zaf s_deeds) (N0 := ["web", "places", "ties", "every"]) (N := ["a", "b"]) (fr := [none, none]) rfl rfl (by decide +kernel)) (zb7 (wv 2)) (fun _ => ⟨(zfh 2 rfl (zby (zax (i := 0) (by decide) (show (["a", "b"] : List Str).Nodup by decide +kernel) rfl (Or.inl rfl)) (zby (zax (i := 1) (by decide) (show (["a", "b"] : List Str).Nodup by decide +kernel) rfl (Or.inl rfl)) zdN))), zbY, (zaO (zab zaH (zab (wv 0) (zad (wv 1)))))⟩))) (zgw 1 1 [] (pv 1) rfl rfl rfl (zaZ.of (sc0 := zaf s_deeds) (N0 := ["web", "places", "ties", "every"]) (N := ["a"]) (fr := [none]) rfl rfl (by decide +kernel)) (zb7 (wv 1)) (fun _ => ⟨(zax (i := 0) (by decide) (show (["a"] : List Str).Nodup by decide +kernel) rfl (Or.inl rfl)), zbY, (zaO (zab zaH (zad (wv 0))))⟩))))
  (zak (zaq (zdM zdu rfl T.z_tuple (by decide +kernel) (zad (zbz (zgy rfl) rfl T.z_sorted (by decide +kernel) (zad (wv 3))))))))))
abbrev s_law_cell : Stmt := top 15
theorem sc_law_cell : zaC ["_law_script", "_law_k"] ["_law_script", "_law_k"] (zaf s_law_cell) := ⟨rfl, rfl, rfl, by decide +kernel, rfl, by decide +kernel, by decide +kernel⟩
theorem ok_law_cell (Fn : Fun K "_law_cell" "_law_cell" s_law_cell f fd) (T : Txt mg) : zb8 P w K mg base CX0 1 f fd ["_law_script", "_law_k"] (spV K FF.zaX) :=
 zaW [true, true] Fn sc_law_cell rfl fun cdv A outer s H E hr => (by
  have hU := hr.units
  have hG := hr.gd
  exact (zai (zbQ (zbs (zcr hU) (zbz zbS rfl T.z_len (by decide +kernel) (zad (wv 0))) zac (zaN _)) (zak (zaq zac)) zaI)
  (zak (zaq (za2 hU (wv 0) (zat zct (wv 1) (zbz zbS rfl T.z_len (by decide +kernel) (zad (wv 0)))) (fun _ _ => rfl))))))
abbrev s_law_left : Stmt := top 16
theorem sc_law_left : zaC ["_law_script", "_law_k", "_law_cell_here", "_law_great"] ["_law_script", "_law_k"] (zaf s_law_left) := ⟨rfl, rfl, rfl, by decide +kernel, rfl, by decide +kernel, by decide +kernel⟩
theorem ok_law_left (Fn : Fun K "_law_left" "_law_left" s_law_left f fd) (T : Txt mg) (C_law_cell : zaJ P w K mg base "_law_cell" ["_law_script", "_law_k"] 1 (spV K FF.zaX)) : zb8 P w K mg base CX0 2 f fd ["_law_script", "_law_k"] (spV K FF.zaY) :=
 zaW [true, true] Fn sc_law_left rfl fun cdv A outer s H E hr => (by
  have hU := hr.units
  have hG := hr.gd
  exact (zai (zbC (i := 2) (by decide) sc_law_left.nd rfl (Or.inl rfl) (zaV C_law_cell hr rfl (zab (wv 0) (zad (wv 1)))))
  (zai (zbC (i := 3) (by decide) sc_law_left.nd rfl (Or.inl rfl) (zat zcs (zat zct (zbz zjG rfl T.z_abs (by decide +kernel) (zad (wv 2))) (zat zhK (zat zhK zac zac) zac)) (zdM zhT rfl T.z_int (by decide +kernel) (zad (zcv (ov_ge hU) (zbz zjG rfl T.z_abs (by decide +kernel) (zad (wv 2))) (zat zhK zac zac) (zaN _))))))
  (zak (zaq (zbX (zab (wv 3) (zab (zat zct (zat zcs (zat zaQ (zat zaQ (zat zct (wv 2) zac) (zat zcs (zat zcs zac (wv 1)) (wv 1))) zac) zac) zac) (zad zac)))))))))
abbrev s_law_pick : Stmt := top 17
theorem sc_law_pick : zaC ["_law_left_here", "_law_many", "_law_digit"] ["_law_left_here", "_law_many"] (zaf s_law_pick) := ⟨rfl, rfl, rfl, by decide +kernel, rfl, by decide +kernel, by decide +kernel⟩
theorem ok_law_pick (Fn : Fun K "_law_pick" "_law_pick" s_law_pick f fd) (T : Txt mg) : zb8 P w K mg base CX0 1 f fd ["_law_left_here", "_law_many"] (spV K FF.zag) :=
 zaW [true, true] Fn sc_law_pick rfl fun cdv A outer s H E hr => (by
  have hU := hr.units
  have hG := hr.gd
  exact (zai (zbQ (zbs zkB (za2 hU (wv 0) zac (fun _ _ => rfl)) zac (zaN _)) (zai (zbC (i := 2) (by decide) sc_law_pick.nd rfl (Or.inl rfl) (zat zct (za2 hU (wv 0) zac (fun _ _ => rfl)) (wv 1)))
  (zai (zh9 0 hU (pv 0) zac (zat zhJ (za2 hU (wv 0) zac (fun _ _ => rfl)) (wv 1)) rfl (fun _ _ h1 h2 => zeH h1 h2) (fun _ _ h1 h2 => zhg h1 h2 set_list))
  (zak (zaq (wv 2))))) zaI)
  (zai (zh9 0 hU (pv 0) zac (zat zaQ (za2 hU (wv 0) zac (fun _ _ => rfl)) zac) rfl (fun _ _ h1 h2 => zeH h1 h2) (fun _ _ h1 h2 => zhg h1 h2 set_list))
  (zai (zh9 0 hU (pv 0) zac (zat zct (zat zaQ (zat zaQ (zat zcs (za2 hU (wv 0) zac (fun _ _ => rfl)) zac) zac) (zat zcs zac (za2 hU (wv 0) zac (fun _ _ => rfl)))) zac) rfl (fun _ _ h1 h2 => zeH h1 h2) (fun _ _ h1 h2 => zhg h1 h2 set_list))
  (zak (zaq (zat zct (zat zhJ (zat zct (zat zcs (za2 hU (wv 0) zac (fun _ _ => rfl)) (zat zaQ (zat zct (za2 hU (wv 0) zac (fun _ _ => rfl)) zac) zac)) zac) zac) (wv 1))))))))
abbrev s_law_web : Stmt := top 18
theorem sc_law_web : zaC ["_law_left_here", "_law_most", "_law_choice", "_law_often", "_law_many", "_law_first", "_law_step", "_law_places", "_law_ties", "_law_b", "_law_a"] ["_law_left_here", "_law_most"] (zaf s_law_web) := ⟨rfl, rfl, rfl, by decide +kernel, rfl, by decide +kernel, by decide +kernel⟩
theorem ok_law_web (Fn : Fun K "_law_web" "_law_web" s_law_web f fd) (T : Txt mg) (C_law_pick : zaJ P w K mg base "_law_pick" ["_law_left_here", "_law_many"] 1 (spV K FF.zag)) : zb8 P w K mg base CX0 2 f fd ["_law_left_here", "_law_most"] (spV K FF.zbl) :=
 zaW [true, true] Fn sc_law_web rfl fun cdv A outer s H E hr => (by
  have hU := hr.units
  have hG := hr.gd
  exact (zai (zjQ (i := 2) (j := 3) (by decide) (by decide) (zab (zaV C_law_pick hr rfl (zab (wv 0) (zad zac))) (zad (za2 hU (zbX (zab zac (zab zac (zab zac (zad zac))))) (zaV C_law_pick hr rfl (zab (wv 0) (zad zac))) (fun _ _ => rfl)))) (fun _ h => zjn (i := 2) (j := 3) rfl sc_law_web.nd rfl rfl (by decide) rfl rfl h rfl))
  (zai (zbC (i := 4) (by decide) sc_law_web.nd rfl (Or.inl rfl) (za2 hU (zbX (zab zac (zab zac (zab zac (zab (wv 1) (zad (zat zaQ zac (zaV C_law_pick hr rfl (zab (wv 0) (zad (zat zgi (wv 1) zac))))))))))) (wv 2) (fun _ _ => rfl)))
  (zai (zbC (i := 5) (by decide) sc_law_web.nd rfl (Or.inr rfl) (zaV C_law_pick hr rfl (zab (wv 0) (zad zac))))
  (zai (zbC (i := 6) (by decide) sc_law_web.nd rfl (Or.inr rfl) (za2 hU (zbX (zkW (ns := [1, 3, 7, 9, 11, 13, 17, 19, 21, 23, 27, 29, 31, 33]) (by decide +kernel))) (zaV C_law_pick hr rfl (zab (wv 0) (zad zac))) (fun _ _ => rfl)))
  (zai (zbC (i := 7) (by decide) sc_law_web.nd rfl (Or.inl rfl) (zbz (zdL rfl) rfl T.z_sorted (by decide +kernel) (zad (zfT 1 [5, 6] rfl rfl rfl (zaZ.of (sc0 := zaf s_law_web) (N0 := ["_law_left_here", "_law_most", "_law_choice", "_law_often", "_law_many", "_law_first", "_law_step", "_law_places", "_law_ties", "_law_b", "_law_a"]) (N := ["_law_k", "_law_first", "_law_step"]) (fr := [none, some 5, some 6]) rfl rfl (by decide +kernel)) (zc7 rfl T.z_range (zad (wv 4))) (fun _ => ⟨(zax (i := 0) (by decide) (show (["_law_k", "_law_first", "_law_step"] : List Str).Nodup by decide +kernel) rfl (Or.inl rfl)), zbY, (zat zct (zat zaQ (wv 1) (zat zcs (wv 2) (wv 0))) zac)⟩)))))
  (zai (zbC (i := 8) (by decide) sc_law_web.nd rfl (Or.inl rfl) (zbX zff))
  (zai (zee PassesOwn.never rfl (zb7 (wv 7)) (zax (i := 9) (by decide) sc_law_web.nd rfl (Or.inl rfl)) (zak (zee PassesOwn.never rfl (zb7 (wv 7)) (zax (i := 10) (by decide) sc_law_web.nd rfl (Or.inl rfl)) (zak (zbQ (zh4 (zjM (zbs (ziV hU) (wv 10) (wv 9) (zaN _)) (zjM (zbs (ziV hU) (zbz zbS rfl T.z_len (by decide +kernel) (zad (wv 8))) zac (zaN _)) (zkV (zbs (zcr hU) (zaV C_law_pick hr rfl (zab (wv 0) (zad (wv 3)))) zac (zaN _)))))) (zak (zh8 (zjN 8 (zad (zaO (zab (wv 10) (zad (wv 9))))) (fun _ _ h1 h2 => zlS PySem.F.plainAttrs_list PySem.F.slot_list_append PySem.F.type_list_append zdC h1 h2) (pv 8)))) zaI)))))
  (zak (zaq (zaO (zab (zdM zdu rfl T.z_tuple (by decide +kernel) (zad (wv 7))) (zad (zdM zdu rfl T.z_tuple (by decide +kernel) (zad (zbz (zdL rfl) rfl T.z_sorted (by decide +kernel) (zad (wv 8))))))))))))))))))
abbrev s_law_all : Stmt := top 19
theorem sc_law_all : zaC ["_law_web_here", "_law_cuts"] ["_law_web_here"] (zaf s_law_all) := ⟨rfl, rfl, rfl, by decide +kernel, rfl, by decide +kernel, by decide +kernel⟩
theorem ok_law_all (Fn : Fun K "_law_all" "_law_all" s_law_all f fd) (T : Txt mg) : zb8 P w K mg base CX0 1 f fd ["_law_web_here"] (spV K FF.zbm) :=
 zaW [true] Fn sc_law_all rfl fun cdv A outer s H E hr => (by
  have hU := hr.units
  have hG := hr.gd
  exact (zai (zjO (i := 1) 1 [] (by decide) sc_law_all.nd rfl rfl rfl rfl rfl (zaZ.of (sc0 := zaf s_law_all) (N0 := ["_law_web_here", "_law_cuts"]) (N := ["_law_tie"]) (fr := [none]) rfl rfl (by decide +kernel)) (zb7 (za2 hU (wv 0) zac (fun _ _ => rfl))) (fun _ => ⟨(zax (i := 0) (by decide) (show (["_law_tie"] : List Str).Nodup by decide +kernel) rfl (Or.inl rfl)), zbY, (zat zaQ (zaO (zad zaH)) (wv 0))⟩))
  (zak (zaq (zat zaQ (zat zaQ (wv 1) (zfT 1 [] rfl rfl rfl (zaZ.of (sc0 := zaf s_law_all) (N0 := ["_law_web_here", "_law_cuts"]) (N := ["_law_tie"]) (fr := [none]) rfl rfl (by decide +kernel)) (zb7 (za2 hU (wv 0) zac (fun _ _ => rfl))) (fun _ => ⟨(zax (i := 0) (by decide) (show (["_law_tie"] : List Str).Nodup by decide +kernel) rfl (Or.inl rfl)), zbY, (zat zaQ (zaO (zad zaH)) (wv 0))⟩))) (zfT 1 [] rfl rfl rfl (zaZ.of (sc0 := zaf s_law_all) (N0 := ["_law_web_here", "_law_cuts"]) (N := ["_law_place"]) (fr := [none]) rfl rfl (by decide +kernel)) (zb7 (za2 hU (wv 0) zac (fun _ _ => rfl))) (fun _ => ⟨(zax (i := 0) (by decide) (show (["_law_place"] : List Str).Nodup by decide +kernel) rfl (Or.inl rfl)), zbY, (zaO (zab zaH (zad (wv 0))))⟩)))))))
abbrev s_law_spoilt : Stmt := top 20
theorem sc_law_spoilt : zaC ["_law_left_here", "_law_web_here", "_law_deed", "_law_choice", "_law_at", "_law_number", "_law_some"] ["_law_left_here", "_law_web_here", "_law_deed"] (zaf s_law_spoilt) := ⟨rfl, rfl, rfl, by decide +kernel, rfl, by decide +kernel, by decide +kernel⟩
theorem ok_law_spoilt (Fn : Fun K "_law_spoilt" "_law_spoilt" s_law_spoilt f fd) (T : Txt mg) (C_law_pick : zaJ P w K mg base "_law_pick" ["_law_left_here", "_law_many"] 1 (spV K FF.zag)) : zb8 P w K mg base CX0 2 f fd ["_law_left_here", "_law_web_here", "_law_deed"] (spV K FF.zap) :=
 zaW [true, true, true] Fn sc_law_spoilt rfl fun cdv A outer s H E hr => (by
  have hU := hr.units
  have hG := hr.gd
  exact (zai (zjQ (i := 3) (j := 4) (by decide) (by decide) (zab (zaV C_law_pick hr rfl (zab (wv 0) (zad zac))) (zad (zaV C_law_pick hr rfl (zab (wv 0) (zad (zbz zbS rfl T.z_len (by decide +kernel) (zad (wv 2)))))))) (fun _ h => zjn (i := 3) (j := 4) rfl sc_law_spoilt.nd rfl rfl (by decide) rfl rfl h rfl))
  (zai (zbC (i := 5) (by decide) sc_law_spoilt.nd rfl (Or.inl rfl) (zat zgi (zaV C_law_pick hr rfl (zab (wv 0) (zad zac))) zac))
  (zai (zbQ (zbs (zcr hU) (wv 3) zac (zaN _)) (zak (zaq (zat zaQ (zat zaQ (zcD (wv 2) zbh (zbi (wv 4))) (zaO (zad (zat zcs (wv 5) (zdM zhT rfl T.z_int (by decide +kernel) (zad (zcv zkB (wv 4) zac (zaN _)))))))) (zcD (wv 2) (zbi (zat zaQ (wv 4) zac)) zbh)))) zaI)
  (zai (zbQ (zbs (zcr hU) (wv 3) zac (zaN _)) (zak (zaq (zat zaQ (zcD (wv 2) zbh (zbi zac)) (zm0 (zcD (wv 2) (zbi zac) zbh) (zfe zac))))) zaI)
  (zai (zbQ (zbs (zcr hU) (wv 3) zac (zaN _)) (zak (zaq (zat zaQ (zaO (zad (za2 hU (zbX (zab zaH (zab zaH (zab zaH (zab zaH (zab zaH (zab zaH (zab zaH (zad zaH))))))))) (zaV C_law_pick hr rfl (zab (wv 0) (zad zac))) (fun _ _ => rfl)))) (zcD (wv 2) (zbi zac) zbh)))) zaI)
  (zai (zbQ (zbs (zcr hU) (wv 3) zac (zaN _)) (zak (zaq (zat zaQ (zcD (wv 2) zbh (zbi (wv 4))) (zcD (wv 2) (zbi (zat zaQ (wv 4) zac)) zbh)))) zaI)
  (zai (zbQ (zbs (zcr hU) (wv 3) zac (zaN _)) (zak (zaq (zat zaQ (wv 2) (zaO (zad (wv 5)))))) zaI)
  (zai (zbQ (zbs (zcr hU) (wv 3) zac (zaN _)) (zak (zaq (za2 hU (zbX (zab (zdM zhS rfl T.z_list (by decide +kernel) (zad (wv 2))) (zab (zaO (zad (wv 2))) (zab (zcD (wv 2) (zbi zac) zbh) (zab (zdM (zjT hU hG) rfl T.z_str (by decide +kernel) (zad (wv 2))) (zad (zat zaQ (zcD (wv 2) zbh (zbi zac)) (zaO (zad (zcD (wv 2) (zbi zac) zbh)))))))))) (zaV C_law_pick hr rfl (zab (wv 0) (zad zac))) (fun _ _ => rfl)))) zaI)
  (zai (zbQ (zbs (zcr hU) (wv 3) zac (zaN _)) (zai (zbC (i := 6) (by decide) sc_law_spoilt.nd rfl (Or.inl rfl) (zbX (zab zdo (zab zdo (zab zjL (zab zaH (zab (zbX (zad zac)) (zab (zaO (zad zac)) (zab (zdM (zjT hU hG) rfl T.z_str (by decide +kernel) (zad (za2 hU (wv 2) (zfe zac) (fun _ _ => rfl)))) (zad (zat zgi (zfe (za2 hU (wv 2) (zfe zac) (fun _ _ => rfl))) zac)))))))))))
  (zak (zaq (zat zaQ (zcD (wv 2) zbh (zbi (zfe zac))) (zaO (zad (za2 hU (wv 6) (zaV C_law_pick hr rfl (zab (wv 0) (zad zac))) (fun _ _ => rfl)))))))) zaI)
  (zai (zbQ (zbs (zcr hU) (wv 3) zac (zaN _)) (zak (zaq (zaO (zab (za2 hU (zbX (zab zaH (zad zaH))) (zaV C_law_pick hr rfl (zab (wv 0) (zad zac))) (fun _ _ => rfl)) (zab (zaV C_law_pick hr rfl (zab (wv 0) (zad zac))) (zad (zaV C_law_pick hr rfl (zab (wv 0) (zad zac))))))))) zaI)
  (zai (zbC (i := 6) (by decide) sc_law_spoilt.nd rfl (Or.inl rfl) (zbX (zab zjL (zab zdo (zab zac (zab zaH (zab zaH (zab (zaO zff) (zab (zbX zff) (zab zkX (zab (zaO (zad zaH)) (zab (zaO (zad zaH)) (zab (zaO (zab zac (zad zac))) (zab (zaO (zab zaH (zad (zaO zff)))) (zab (zaO (zad (zaO (zab zaH (zab zac (zad zac)))))) (zad (wv 1)))))))))))))))))
  (zak (zaq (za2 hU (wv 6) (zaV C_law_pick hr rfl (zab (wv 0) (zad (zbz zbS rfl T.z_len (by decide +kernel) (zad (wv 6)))))) (fun _ _ => rfl))))))))))))))))
abbrev s_law_is_deed : Stmt := top 21
theorem sc_law_is_deed : zaC ["_law_web_here", "_law_thing"] ["_law_web_here", "_law_thing"] (zaf s_law_is_deed) := ⟨rfl, rfl, rfl, by decide +kernel, rfl, by decide +kernel, by decide +kernel⟩
theorem ok_law_is_deed (Fn : Fun K "_law_is_deed" "_law_is_deed" s_law_is_deed f fd) (T : Txt mg) : zb8 P w K mg base CX0 1 f fd ["_law_web_here", "_law_thing"] (spV K FF.zaA) :=
 zaW [true, true] Fn sc_law_is_deed rfl fun cdv A outer s H E hr => (by
  have hU := hr.units
  have hG := hr.gd
  exact (zai (zbQ (zh4 (zh5 (zcX (zcw (zbB "tuple" (by decide) (by decide) rfl T.z_isinstance (by decide +kernel) (wv 1) (za8 (v := .ty "tuple") rfl T.z_tuple (by decide +kernel) rfl)))) (zh5 (zi6 hU (zbz zbS rfl T.z_len (by decide +kernel) (zad (wv 1))) (zaO (zab zac (zad zac)))) (zgq (zcX (zcw (zbB "str" (by decide) (by decide) rfl T.z_isinstance (by decide +kernel) (za2 hU (wv 1) zac (fun _ _ => rfl)) (za8 (v := .ty "str") rfl T.z_str (by decide +kernel) rfl)))))))) (zak (zaq zdo)) zaI)
  (zai (zbQ (zcX (zcw (zbz (zfa rfl) rfl T.z_all (by decide +kernel) (zad (zfT 1 [] rfl rfl rfl (zaZ.of (sc0 := zaf s_law_is_deed) (N0 := ["_law_web_here", "_law_thing"]) (N := ["_law_one"]) (fr := [none]) rfl rfl (by decide +kernel)) (zb7 (zcD (wv 1) (zbi zac) zbh)) (fun _ => ⟨(zax (i := 0) (by decide) (show (["_law_one"] : List Str).Nodup by decide +kernel) rfl (Or.inl rfl)), zbY, (zbo (zbB "int" (by decide) (by decide) rfl T.z_isinstance (by decide +kernel) (wv 0) (za8 (v := .ty "int") rfl T.z_int (by decide +kernel) rfl)) (zbT (zh6 (zbB "bool" (by decide) (by decide) rfl T.z_isinstance (by decide +kernel) (wv 0) (za8 (v := .ty "bool") rfl T.z_bool (by decide +kernel) rfl)))))⟩)))))) (zak (zaq zdo)) zaI)
  (zai (zbQ (zbs (zcr hU) (zbz zbS rfl T.z_len (by decide +kernel) (zad (wv 1))) zac (zaN _)) (zak (zaq (zbo (zcv (zcr hU) (za2 hU (wv 1) zac (fun _ _ => rfl)) zaH (zaN _)) (zbT (zfd hU (za2 hU (wv 1) zac (fun _ _ => rfl)) (za2 hU (wv 0) zac (fun _ _ => rfl))))))) zaI)
  (zak (zaq (zbo (zfd hU (za2 hU (wv 1) zac (fun _ _ => rfl)) (zaO (zab zaH (zad zaH)))) (zbT (zfd hU (zcD (wv 1) (zbi zac) zbh) (za2 hU (wv 0) zac (fun _ _ => rfl)))))))))))
abbrev s_law_same : Stmt := top 22
theorem sc_law_same : zaC ["_law_found", "_law_due"] ["_law_found", "_law_due"] (zaf s_law_same) := ⟨rfl, rfl, rfl, by decide +kernel, rfl, by decide +kernel, by decide +kernel⟩
theorem ok_law_same (Fn : Fun K "_law_same" "_law_same" s_law_same f fd) (T : Txt mg) (bd : Binds K fd ["_law_found", "_law_due"] []) (hm : mg "_law_same" = some (.ref f)) : ∀ n, zb8 P w K mg base CX0 (n + 1) f fd ["_law_found", "_law_due"] (spV K (FF.zan n))
 | 0 => zkY
 | n + 1 => by
  have C_law_same : zaJ P w K mg base "_law_same" ["_law_found", "_law_due"] (n + 1) (spV K (FF.zan n)) := ⟨f, fd, ok_law_same Fn T bd hm n, bd, Fn.kp, hm⟩
  exact zaW [true, true] Fn sc_law_same rfl fun cdv A outer s H E hr => (by
  have hU := hr.units
  have hG := hr.gd
  exact (zai (zbQ (zcw (zbB "tuple" (by decide) (by decide) rfl T.z_isinstance (by decide +kernel) (wv 1) (za8 (v := .ty "tuple") rfl T.z_tuple (by decide +kernel) rfl))) (zai (zbQ (zh4 (zh5 (zcX (zcw (zbB "tuple" (by decide) (by decide) rfl T.z_isinstance (by decide +kernel) (wv 0) (za8 (v := .ty "tuple") rfl T.z_tuple (by decide +kernel) rfl)))) (zgq (zbs (ziU hU) (zbz zbS rfl T.z_len (by decide +kernel) (zad (wv 0))) (zbz zbS rfl T.z_len (by decide +kernel) (zad (wv 1))) (zaN _))))) (zak (zaq zdo)) zaI)
  (zak (zaq (zbz (zfa rfl) rfl T.z_all (by decide +kernel) (zad (zfT 2 [] rfl rfl rfl (zaZ.of (sc0 := zaf s_law_same) (N0 := ["_law_found", "_law_due"]) (N := ["_law_one", "_law_other"]) (fr := [none, none]) rfl rfl (by decide +kernel)) (zmX rfl T.z_zip (zab (wv 0) (zad (wv 1)))) (fun _ => ⟨(zfh 2 rfl (zby (zax (i := 0) (by decide) (show (["_law_one", "_law_other"] : List Str).Nodup by decide +kernel) rfl (Or.inl rfl)) (zby (zax (i := 1) (by decide) (show (["_law_one", "_law_other"] : List Str).Nodup by decide +kernel) rfl (Or.inl rfl)) zdN))), zbY, (zaV C_law_same hr rfl (zab (wv 0) (zad (wv 1))))⟩))))))) zaI)
  (zak (zaq (zbo (zcv (zcr hU) (zbB "str" (by decide) (by decide) rfl T.z_isinstance (by decide +kernel) (wv 0) (za8 (v := .ty "str") rfl T.z_str (by decide +kernel) rfl)) (zbB "str" (by decide) (by decide) rfl T.z_isinstance (by decide +kernel) (wv 1) (za8 (v := .ty "str") rfl T.z_str (by decide +kernel) rfl)) (zaN _)) (zbo (zh6 (zbB "bool" (by decide) (by decide) rfl T.z_isinstance (by decide +kernel) (wv 0) (za8 (v := .ty "bool") rfl T.z_bool (by decide +kernel) rfl))) (zbT (zcv (zcr hU) (wv 0) (wv 1) (zaN _)))))))))
abbrev s_law : Stmt := top 23
theorem sc_law : zaC ["_law_script", "_law_k", "_law_left_here", "_law_web_here", "_law_every", "_law_things", "_law_turn", "_law_again", "_law_thing", "_law_found"] ["_law_script"] (zaf s_law) := ⟨rfl, rfl, rfl, by decide +kernel, rfl, by decide +kernel, by decide +kernel⟩
theorem ok_law (Fn : Fun K "law" "law" s_law f fd) (T : Txt mg) (C_law_is_deed : zaJ P w K mg base "_law_is_deed" ["_law_web_here", "_law_thing"] 1 (spV K FF.zaA)) (C_is_deed : zaJ P w K mg base "is_deed" ["web", "thing"] 4 (spV K FF.zar)) (C_law_same : zaJ P w K mg base "_law_same" ["_law_found", "_law_due"] 5 (spV K (FF.zan 4))) (C_deeds : zaJ P w K mg base "deeds" ["web"] 1 (spV K FF.zbH)) (C_law_spoilt : zaJ P w K mg base "_law_spoilt" ["_law_left_here", "_law_web_here", "_law_deed"] 2 (spV K FF.zap)) (C_law_pick : zaJ P w K mg base "_law_pick" ["_law_left_here", "_law_many"] 1 (spV K FF.zag)) (C_law_all : zaJ P w K mg base "_law_all" ["_law_web_here"] 1 (spV K FF.zbm)) (C_law_web : zaJ P w K mg base "_law_web" ["_law_left_here", "_law_most"] 2 (spV K FF.zbl)) (C_law_left : zaJ P w K mg base "_law_left" ["_law_script", "_law_k"] 2 (spV K FF.zaY)) : zb8 P w K mg base CX0 6 f fd ["_law_script"] (spV K FF.zgz) :=
 zaW [true] Fn sc_law rfl fun cdv A outer s H E hr => (by
  have hU := hr.units
  have hG := hr.gd
  exact (zai (zee PassesOwn.never rfl (zc7 rfl T.z_range (zad (zat zaQ zac (zbz (zmC rfl) rfl T.z_min (by decide +kernel) (zab zac (zad (zbz zbS rfl T.z_len (by decide +kernel) (zad (wv 0))))))))) (zax (i := 1) (by decide) sc_law.nd rfl (Or.inl rfl)) (zai (zbC (i := 2) (by decide) sc_law.nd rfl (Or.inr rfl) (zaV C_law_left hr rfl (zab (wv 0) (zad (wv 1)))))
  (zai (zbC (i := 3) (by decide) sc_law.nd rfl (Or.inr rfl) (zaV C_law_web hr rfl (zab (wv 2) (zad zac))))
  (zai (zbC (i := 4) (by decide) sc_law.nd rfl (Or.inl rfl) (zaV C_law_all hr rfl (zad (wv 3))))
  (zai (zjO (i := 5) 1 [2, 3] (by decide) sc_law.nd rfl rfl rfl rfl rfl (zaZ.of (sc0 := zaf s_law) (N0 := ["_law_script", "_law_k", "_law_left_here", "_law_web_here", "_law_every", "_law_things", "_law_turn", "_law_again", "_law_thing", "_law_found"]) (N := ["_law_turn", "_law_left_here", "_law_web_here"]) (fr := [none, some 2, some 3]) rfl rfl (by decide +kernel)) (zc7 rfl T.z_range (zad zac)) (fun _ => ⟨(zax (i := 0) (by decide) (show (["_law_turn", "_law_left_here", "_law_web_here"] : List Str).Nodup by decide +kernel) rfl (Or.inl rfl)), zbY, (zaV C_law_spoilt hr rfl (zab (wv 1) (zab (wv 2) (zad (zaO (zab zaH (zab zac (zad zac))))))))⟩))
  (zai (zee PassesOwn.never rfl (zc7 rfl T.z_range (zad (zat zcs zac (zdM zhT rfl T.z_int (by decide +kernel) (zad (zcv (ziU hU) (wv 4) (zbX zff) (zaN _))))))) (zax (i := 6) (by decide) sc_law.nd rfl (Or.inl rfl)) (zak (zh8 (zjN 5 (zad (zaV C_law_spoilt hr rfl (zab (wv 2) (zab (wv 3) (zad (za2 hU (wv 4) (zaV C_law_pick hr rfl (zab (wv 2) (zad (zbz zbS rfl T.z_len (by decide +kernel) (zad (wv 4)))))) (fun _ _ => rfl))))))) (fun _ _ h1 h2 => zlS PySem.F.plainAttrs_list PySem.F.slot_list_append PySem.F.type_list_append zdC h1 h2) (pv 5)))))
  (zak (zee PassesOwn.never rfl (zc7 rfl T.z_range (zad zac)) (zax (i := 7) (by decide) sc_law.nd rfl (Or.inl rfl)) (zai (zbQ (zh4 (zh5 (zcX (zcw (zaV C_law_same hr rfl (zab (zaV C_deeds hr rfl (zad (wv 3))) (zad (zdM zdu rfl T.z_tuple (by decide +kernel) (zad (wv 4)))))))) (zgq (zbs (ziU hU) (zdM zhS rfl T.z_list (by decide +kernel) (zad (wv 4))) (zbz (zgy rfl) rfl T.z_sorted (by decide +kernel) (zad (wv 4))) (zaN _))))) (zak (zaq zdo)) zaI)
  (zak (zee PassesOwn.never rfl (zb7 (zat zaQ (wv 4) (wv 5))) (zax (i := 8) (by decide) sc_law.nd rfl (Or.inl rfl)) (zai (zbC (i := 9) (by decide) sc_law.nd rfl (Or.inl rfl) (zaV C_is_deed hr rfl (zab (wv 3) (zad (wv 8)))))
  (zak (zbQ (zh4 (zh5 (zcX (zcw (zbB "bool" (by decide) (by decide) rfl T.z_isinstance (by decide +kernel) (wv 9) (za8 (v := .ty "bool") rfl T.z_bool (by decide +kernel) rfl)))) (zgq (zbs (ziU hU) (wv 9) (zaV C_law_is_deed hr rfl (zab (wv 3) (zad (wv 8)))) (zaN _))))) (zak (zaq zdo)) zaI))))))))))))))
  (zak (zaq zdo))))
end
end Lk06
end
section
namespace PA
open PySem L2 VL
abbrev pot (g q c : Int) : M := .lst [.int g, .int q, .int c]
theorem pick (g q c m : Int) (hg : 0 ≤ g) (hm : 0 < m) (hm2 : m < 1073741824) : ∃ r g' q' c' : Int, 0 ≤ r ∧ r < m ∧ 0 ≤ g' ∧ FF.zag [pot g q c, .v (.int m)] = some (.v (.int r), [pot g' q' c', .v (.int m)]) := by
 by_cases h : 0 < g
 ·refine ⟨g % m, g / m, q, c, Int.emod_nonneg _ (by omega), Int.emod_lt_of_pos _ hm, Int.ediv_nonneg hg (Int.le_of_lt hm), ?_⟩
  simp [FF.zag, FF.zbL, zao, atI, ixN, h, hm, hm2]
 ·have hb : ∀ x : Int, (-18446744073709551616 < x % 2147483647 ∧ x % 2147483647 < 18446744073709551616) := fun x => by omega
  generalize hx : (q * 69621 + 12345 + 101 * (c + 1)) % 2147483647 = x
  have hx' : -18446744073709551616 < x ∧ x < 18446744073709551616 := hx ▸ hb _
  refine ⟨x * (x % 40009 + 7) % 2147483629 / 64 % m, g, x, c + 1, Int.emod_nonneg _ (by omega), Int.emod_lt_of_pos _ hm, hg, ?_⟩
  simp [FF.zag, FF.zbL, zao, atI, ixN, h, hm, hm2, hx, hx']
theorem zbI {α : Type} {xs : List α} {i : Int} (h0 : 0 ≤ i) (h1 : i < (xs.length : Int)) : ∃ x, x ∈ xs ∧ atI xs i = some x := by
 obtain ⟨k, rfl⟩ := Int.eq_ofNat_of_zero_le h0
 have hk : k < xs.length := by omega
 exact ⟨xs[k], List.getElem_mem hk, zfz (List.getElem?_eq_getElem hk)⟩
theorem zdw {ns : List Int} {i : Int} (h0 : 0 ≤ i) (h1 : i < (ns.length : Int)) : ∃ n, n ∈ ns ∧ atI (ns.map PyData.int) i = some (.int n) := by
 obtain ⟨d, h, e⟩ := zbI (xs := ns.map PyData.int) h0 (by rw [List.length_map]; exact h1)
 obtain ⟨n, hn, rfl⟩ := List.mem_map.mp h
 exact ⟨n, hn, e⟩
theorem cell (ns : List Int) (k : Int) (hl : ns.length ≤ 63) : ∃ n : Int, FF.zaX [.v (.list (ns.map .int)), .v (.int k)] = some (.v (.int n), [.v (.list (ns.map .int)), .v (.int k)]) := by
 by_cases h : ns.length = 0
 ·refine ⟨0, ?_⟩
  simp [FF.zaX, FF.zbK, zao, h]
 ·have h0 : (0 : Int) < ns.length := by omega
  obtain ⟨n, hn, e⟩ := zdw (ns := ns) (Int.emod_nonneg k (by omega)) (Int.emod_lt_of_pos k h0)
  refine ⟨n, ?_⟩
  have hn' : 0 < ns.length := by omega
  simp [FF.zaX, FF.zbK, zao, h, hn', e]
theorem zfX {a b : Int} (h : 0 ≤ b ∧ (Builtin.Int.intBits a : Int) * b ≤ 2 ^ 27) : zjD (.v (.int a)) (.v (.int b)) = some (.v (.int (a ^ b.toNat))) := if_pos (decide_eq_true h)
theorem pows : ∃ A B C : Int, 0 < B ∧ zjD (.v (.int 10)) (.v (.int 50)) = some (.v (.int A)) ∧ zjD (.v (.int A)) (.v (.int 8)) = some (.v (.int B)) ∧ zjD (.v (.int 10)) (.v (.int 18)) = some (.v (.int C)) :=
 ⟨_, _, _, by decide +kernel, zfX ⟨by decide, by decide +kernel⟩, zfX ⟨by decide, by decide +kernel⟩, zfX ⟨by decide, by decide +kernel⟩⟩
theorem left (ns : List Int) (k : Int) (hl : ns.length ≤ 63) (hk0 : 0 ≤ k) (hk : k ≤ 100) : ∃ g q c : Int, 0 ≤ g ∧ FF.zaY [.v (.list (ns.map .int)), .v (.int k)] = some (pot g q c, [.v (.list (ns.map .int)), .v (.int k)]) := by
 obtain ⟨n, e⟩ := cell ns k hl
 obtain ⟨A, B, C, hB, e1, e2, e3⟩ := pows
 have hk' : -18446744073709551616 < k ∧ k < 18446744073709551616 := by omega
 generalize hx : (if n < 0 then -n else n) = x
 have hb : -18446744073709551616 < (if C ≤ x then (1 : Int) else 0) ∧ (if C ≤ x then (1 : Int) else 0) < 18446744073709551616 ∧ 0 ≤ (if C ≤ x then (1 : Int) else 0) := by split <;> omega
 refine ⟨x % B * (if C ≤ x then 1 else 0), (n % 2147483629 + 7919 * k * k + 17) * 48271 % 2147483647, 0, Int.mul_nonneg (Int.emod_nonneg _ (by omega)) hb.2.2, ?_⟩
 simp [FF.zaY, FF.zci, zao, e, e1, e2, e3, hB, hx, lim, hb.1, hb.2.1, hk']
end PA
end
section
namespace PA
open PySem L2 VL
abbrev pD (p : Int × Int) : PyData := .tuple [.int p.1, .int p.2]
abbrev tD (ts : List (Int × Int)) : PyData := .tuple (ts.map pD)
abbrev wD (ps : List Int) (ts : List (Int × Int)) : PyData := .tuple [tI ps, tD ts]
abbrev enc (t : Int × Int) : List Int := [t.1, t.2]
def dec (k : List Int) : Int × Int := (k.getD 0 0, k.getD 1 0)
def zfk (ts : List (Int × Int)) : List (Int × Int) := (ze5 (ts.map enc)).map dec
theorem zfY (ts : List (Int × Int)) : (ts.map enc).map dec = ts := by rw [List.map_map]; exact List.map_id ts
theorem zfl (ts : List (Int × Int)) : ze5 (ts.map enc) = (zfk ts).map enc := by
 unfold zfk
 rw [List.map_map]
 refine (List.map_id _).symm.trans (List.map_congr_left fun k hk => ?_)
 have hk := (zbG HT.lexLt (ts.map enc)).mem_iff.mp hk
 obtain ⟨t, _, rfl⟩ := List.mem_map.mp hk
 rfl
theorem zcq (ts : List (Int × Int)) : (zfk ts).Perm ts := by
 have h := (zbG HT.lexLt (ts.map enc)).map dec
 rw [zfY] at h
 exact h
def ltP (a b : Int × Int) : Prop := a.1 < b.1 ∨ (a.1 = b.1 ∧ a.2 < b.2)
instance (a b : Int × Int) : Decidable (ltP a b) := by unfold ltP; infer_instance
theorem zfm (a b : Int × Int) : HT.lexLt (enc a) (enc b) = decide (ltP a b) := by
 obtain ⟨x, y⟩ := a
 obtain ⟨z, t⟩ := b
 unfold enc ltP
 rw [HT.za4, HT.za4, HT.zcG]
 by_cases h1 : x = z <;> by_cases h2 : y = t <;> by_cases h3 : x < z <;> by_cases h4 : y < t <;> simp [h1, h2, h3, h4] <;> omega
theorem zgZ {ts : List (Int × Int)} (nd : ts.Nodup) : (zfk ts).Pairwise ltP := by
 have h := zcS (lt := HT.lexLt) zcn zb0 (ts.map enc)
 rw [show zgT HT.lexLt (ts.map enc) = (zfk ts).map enc from zfl ts, List.pairwise_map] at h
 have nd' : (zfk ts).Nodup := (zcq ts).nodup_iff.mpr nd
 refine List.Pairwise.imp₂ (fun a b h1 h2 => ?_) h nd'
 rw [zfm] at h1
 have h1 := of_decide_eq_false h1
 unfold ltP at h1 ⊢
 obtain ⟨x, y⟩ := a
 obtain ⟨z, t⟩ := b
 by_cases e : x = z
 ·by_cases e2 : y = t
  ·exact absurd (by rw [e, e2]) h2
  ·simp only at h1 ⊢; omega
 ·simp only at h1 ⊢; omega
theorem zg0 (ts : List (Int × Int)) : zla (ts.map pD) = some (ts.map enc) := by
 have h := zhP (ts.map enc)
 rw [List.map_map] at h
 exact h
theorem zg1 : ∀ {ts : List (Int × Int)}, ts ≠ [] → ze3 (ts.map pD) = none
 | [], h => absurd rfl h
 | t :: ts, _ => rfl
theorem zfZ {ts : List (Int × Int)} (h : ts.length < 64) : ze7 [.lst (ts.map pD)] = some (.lst ((zfk ts).map pD)) := by
 show (ze6 (ts.map pD)).bind _ = _
 unfold ze6
 rw [if_pos (by rw [List.length_map]; exact h)]
 by_cases e : ts = []
 ·subst e; rfl
 ·rw [zg1 e, zg0]
  show (if ((ts.map enc).all fun k => !k.isEmpty) = true then some ((ze5 (ts.map enc)).map tI) else none).bind _ = _
  rw [if_pos (by rw [List.all_map]; simp), zfl, List.map_map]
  rfl
theorem zg2 {ns : List Int} (h : ns.length < 64) : ze7 [.lst (ns.map .int)] = some (.lst ((zdK ns).map .int)) := by
 show (ze6 (ns.map .int)).bind _ = _
 unfold ze6
 rw [if_pos (by rw [List.length_map]; exact h), zcR]
 rfl
theorem zeh (ns : List Int) : (zdK ns).Perm ns := zbG _ _
theorem zjh (ns : List Int) : (zdK ns).Pairwise (· ≤ ·) := by
 refine (zcS (lt := ltI) (fun a b h => ?_) (fun a b c h1 h2 => ?_) ns).imp fun h => ?_
 ·have h := of_decide_eq_true h; exact decide_eq_false (by omega)
 ·have h1 := of_decide_eq_false h1
  have h2 := of_decide_eq_false h2
  exact decide_eq_false (by omega)
 ·have h := of_decide_eq_false h; omega
theorem zg3 {ns : List Int} (nd : ns.Nodup) : (zdK ns).Pairwise (· < ·) := by
 refine List.Pairwise.imp₂ (fun a b h1 h2 => ?_) (zjh ns) ((zeh ns).nodup_iff.mpr nd)
 omega
structure zcZ (ps : List Int) (ts : List (Int × Int)) : Prop where
 rise : ps.Pairwise (· < ·)
 rng : ∀ p ∈ ps, 0 ≤ p ∧ p ≤ 99
 few : ps.length ≤ 24
 up : ts.Pairwise ltP
 lt : ∀ t ∈ ts, t.1 < t.2
 ends : ∀ t ∈ ts, t.1 ∈ ps ∧ t.2 ∈ ps
 len : ts.length ≤ 60
abbrev steps : List Int := [1, 3, 7, 9, 11, 13, 17, 19, 21, 23, 27, 29, 31, 33]
theorem zk6 {s : Int} (hs : s ∈ steps) {f i j : Int} (h0 : 0 ≤ i) (h1 : i < j) (h2 : j < 24) : (f + s * (0 + i)) % 100 ≠ (f + s * (0 + j)) % 100 := by
 simp only [steps, List.mem_cons, List.not_mem_nil, or_false] at hs
 rcases hs with rfl | rfl | rfl | rfl | rfl | rfl | rfl | rfl | rfl | rfl | rfl | rfl | rfl | rfl <;> omega
def plc (f s : Int) (n : Nat) : List Int := (List.range n).map fun k : Nat => (f + s * (0 + (k : Int))) % 100
theorem zil (f s : Int) (n : Nat) : (plc f s n).length = n := by unfold plc; rw [List.length_map, List.length_range]
theorem zim {f s : Int} {n : Nat} (hs : s ∈ steps) (hn : n ≤ 24) : (plc f s n).Nodup := by
 unfold plc List.Nodup
 rw [List.pairwise_map]
 refine List.Pairwise.imp_of_mem ?_ List.pairwise_lt_range
 intro a b ha hb hab
 rw [List.mem_range] at ha hb
 exact zk6 hs (by omega) (by omega) (by omega)
theorem zk7 {f s : Int} {n : Nat} : ∀ p ∈ plc f s n, 0 ≤ p ∧ p ≤ 99 := by
 intro p hp
 unfold plc at hp
 obtain ⟨k, _, rfl⟩ := List.mem_map.mp hp
 omega
theorem zgA {ps : List Int} (rise : ps.Pairwise (· < ·)) {i : Nat} {pl : Int} (hpl : ps[i]? = some pl) : pl ∉ ps.take i := fun z => by
 obtain ⟨hi, e2⟩ := List.getElem?_eq_some_iff.mp hpl
 obtain ⟨j, hj⟩ := List.mem_iff_getElem?.mp z
 rw [List.getElem?_take] at hj
 split at hj
 ·rename_i hji
  have := (List.pairwise_iff_getElem.mp rise) j i (by omega) hi hji
  obtain ⟨_, e1⟩ := List.getElem?_eq_some_iff.mp hj
  omega
 ·cases hj
theorem take_snoc {ps : List Int} {i : Nat} {pl : Int} (hpl : ps[i]? = some pl) : ps.take (i + 1) = ps.take i ++ [pl] := by rw [List.take_add_one, hpl]; rfl
structure Tys (ps : List Int) (i j : Nat) (tys : List (Int × Int)) : Prop where
 nd : tys.Nodup
 lt : ∀ t ∈ tys, t.1 < t.2
 ends : ∀ t ∈ tys, t.1 ∈ ps ∧ t.2 ∈ ps
 len : tys.length ≤ 60
 seen : ∀ t ∈ tys, t.2 ∈ ps.take i ∨ (ps[i]? = some t.2 ∧ t.1 ∈ ps.take j)
theorem Tys.zero {ps : List Int} : Tys ps 0 0 [] := ⟨List.nodup_nil, fun t h => by simp at h, fun t h => by simp at h, Nat.zero_le _, fun t h => by simp at h⟩
theorem Tys.skip {ps : List Int} {i j : Nat} {tys : List (Int × Int)} (S : Tys ps i j tys) {a : Int} (ha : ps[j]? = some a) : Tys ps i (j + 1) tys :=
 ⟨S.nd, S.lt, S.ends, S.len, fun t ht => (S.seen t ht).imp id fun ⟨h1, h2⟩ => ⟨h1, by rw [take_snoc ha]; exact lL _ h2⟩⟩
theorem Tys.row {ps : List Int} {i : Nat} {tys : List (Int × Int)} (S : Tys ps i ps.length tys) {b : Int} (hb : ps[i]? = some b) : Tys ps (i + 1) 0 tys := by
 refine ⟨S.nd, S.lt, S.ends, S.len, fun t ht => .inl ?_⟩
 rw [take_snoc hb]
 rcases S.seen t ht with h | ⟨h, _⟩
 ·exact lL _ h
 ·rw [hb] at h
  cases h
  exact lR _ (List.mem_singleton.mpr rfl)
theorem Tys.add {ps : List Int} {i j : Nat} {tys : List (Int × Int)} (S : Tys ps i j tys) (rise : ps.Pairwise (· < ·)) {a b : Int} (ha : ps[j]? = some a) (hb : ps[i]? = some b) (h : a < b) (hl : tys.length < 60) : Tys ps i (j + 1) (tys ++ [(a, b)]) := by
 have no : (a, b) ∉ tys := fun z => by
  rcases S.seen _ z with h | ⟨_, h⟩
  ·exact zgA rise hb h
  ·exact zgA rise ha h
 refine ⟨?_, fun t ht => ?_, fun t ht => ?_, ?_, fun t ht => ?_⟩
 ·rw [List.nodup_append]
  refine ⟨S.nd, List.nodup_cons.mpr ⟨by simp, List.nodup_nil⟩, fun x hx y hy e => ?_⟩
  rw [List.mem_singleton] at hy
  subst hy e
  exact no hx
 ·rcases lM ht with h' | h'
  ·exact S.lt t h'
  ·rw [List.mem_singleton] at h'; subst h'; exact h
 ·rcases lM ht with h' | h'
  ·exact S.ends t h'
  ·rw [List.mem_singleton] at h'; subst h'; exact ⟨List.mem_of_getElem? ha, List.mem_of_getElem? hb⟩
 ·rw [List.length_append, List.length_singleton]; omega
 ·rw [take_snoc ha]
  rcases lM ht with h' | h'
  ·exact (S.seen t h').imp id fun ⟨h1, h2⟩ => ⟨h1, lL _ h2⟩
  ·rw [List.mem_singleton] at h'; subst h'; exact .inr ⟨hb, lR _ (List.mem_singleton.mpr rfl)⟩
theorem zcj (n : Nat) : za7 0 (n : Int) = (List.range n).map fun k : Nat => PyData.int (0 + (k : Int)) := by
 unfold za7
 rw [Int.sub_zero, Int.toNat_natCast]
theorem zbM {fe : FE} {cs : Ev} {f : PyData → PyData} : ∀ (ds acc : List PyData) (x : Option M), (∀ d ∈ ds, ∃ o, fe (some (.v d) :: cs) = some (o, some (.v d) :: cs) ∧ zdH o (some (.v d) :: cs) = some (f d, some (.v d) :: cs)) → acc.length + ds.length ≤ lim →
  ∃ y, zbP (zaj 0) zb9 fe ds (x :: cs) acc = some (acc ++ ds.map f, y :: cs)
 | [], acc, x, _, _ => ⟨x, by rw [List.map_nil, List.append_nil]; rfl⟩
 | d :: ds, acc, x, h, hl => by
  obtain ⟨o, e1, e2⟩ := h d lS
  rw [List.length_cons] at hl
  obtain ⟨y, e3⟩ := zbM (fe := fe) (cs := cs) (f := f) ds (acc ++ [f d]) (some (.v d)) (fun d' hd => h d' (lO _ hd)) (by rw [List.length_append, List.length_singleton]; omega)
  refine ⟨y, ?_⟩
  show (zaj 0 d (x :: cs)).bind _ = _
  rw [show zaj 0 d (x :: cs) = some (some (.v d) :: cs) by simp]
  show (fe (some (.v d) :: cs)).bind _ = _
  rw [e1]
  show (zdH o (some (.v d) :: cs)).bind _ = _
  rw [e2]
  show (if acc.length < lim then _ else _) = _
  rw [if_pos (by omega)]
  rw [show zbP (zaj 0) zb9 fe ds (some (.v d) :: cs) (acc ++ [f d]) = _ from e3, List.map_cons, List.append_assoc]
  rfl
theorem zc0 {α β : Type} {f : α → β} {xs : List α} {i : Nat} {d : β} {ds : List β} (h : d :: ds = (xs.drop i).map f) : ∃ x, xs[i]? = some x ∧ d = f x ∧ ds = (xs.drop (i + 1)).map f := by
 have hi : i < xs.length := by
  rcases Nat.lt_or_ge i xs.length with h1 | h1
  ·exact h1
  ·rw [List.drop_eq_nil_of_le h1] at h; cases h
 rw [List.drop_eq_getElem_cons hi, List.map_cons] at h
 injection h with h1 h2
 exact ⟨xs[i], List.getElem?_eq_getElem hi, h1, h2⟩
theorem web (g q c most : Int) (hg : 0 ≤ g) (h3 : 3 ≤ most) (h24 : most ≤ 24) : ∃ ps ts g' q' c', 0 ≤ g' ∧ zcZ ps ts ∧ FF.zbl [pot g q c, .v (.int most)] = some (.v (wD ps ts), [pot g' q' c', .v (.int most)]) := by
 obtain ⟨r1, g1, q1, c1, a1, b1, k1, e1⟩ := pick g q c 5 hg (by decide) (by decide)
 obtain ⟨r2, g2, q2, c2, a2, b2, k2, e2⟩ := pick g1 q1 c1 4 k1 (by decide) (by decide)
 obtain ⟨r3, g3, q3, c3, a3, b3, k3, e3⟩ := pick g2 q2 c2 (most - 2) k2 (by omega) (by omega)
 obtain ⟨r4, g4, q4, c4, a4, b4, k4, e4⟩ := pick g3 q3 c3 100 k3 (by decide) (by decide)
 obtain ⟨r5, g5, q5, c5, a5, b5, k5, e5⟩ := pick g4 q4 c4 14 k4 (by decide) (by decide)
 obtain ⟨often, of1, of2⟩ := zdw (ns := [1, 2, 3, 7]) a2 b2
 obtain ⟨many, ma1, ma2⟩ := zdw (ns := [0, 1, 2, most, 3 + r3]) a1 b1
 obtain ⟨st, st1, st2⟩ := zdw (ns := steps) a5 b5
 have hof : 0 < often ∧ often < 1073741824 := by
  simp only [List.mem_cons, List.not_mem_nil, or_false] at of1
  omega
 have hma : 0 ≤ many ∧ many ≤ 24 := by
  simp only [List.mem_cons, List.not_mem_nil, or_false] at ma1
  omega
 obtain ⟨n, rfl⟩ := Int.eq_ofNat_of_zero_le hma.1
 have hst : -18446744073709551616 < st ∧ st < 18446744073709551616 := by
  simp only [steps, List.mem_cons, List.not_mem_nil, or_false] at st1
  omega
 have of2 : atI [PyData.int 1, .int 2, .int 3, .int 7] r2 = some (.int often) := of2
 have ma2 : atI [PyData.int 0, .int 1, .int 2, .int most, .int (3 + r3)] r1 = some (.int (n : Int)) := ma2
 have st2 : atI [PyData.int 1, .int 3, .int 7, .int 9, .int 11, .int 13, .int 17, .int 19, .int 21, .int 23, .int 27, .int 29, .int 31, .int 33] r5 = some (.int st) := st2
 have hsm : zdf (n : Int) = true := decide_eq_true (by unfold zkM; omega)
 obtain ⟨y, ec⟩ := zbM (fe := vB zgS (vB zbO (zah 1) (vB mulM (zah 2) (zah 0))) (vC (.int 100))) (cs := [some (.v (.int r4)), some (.v (.int st))]) (f := fun d => match d with | .int k => .int ((r4 + st * k) % 100) | _ => .none) (za7 0 (n : Int)) [] none (fun d hd => by
  rw [zcj] at hd
  obtain ⟨k, hk, rfl⟩ := List.mem_map.mp hd
  refine ⟨.t (.v (.int ((r4 + st * (0 + (k : Int))) % 100))), ?_, rfl⟩
  simp [hst]) (by rw [zcj, List.length_map, List.length_range, List.length_nil]; unfold lim; omega)
 have emap : (za7 0 (n : Int)).map (fun d => match d with | .int k => PyData.int ((r4 + st * k) % 100) | _ => .none) = (plc r4 st n).map .int := by
  rw [zcj, List.map_map]
  unfold plc
  rw [List.map_map]
  rfl
 rw [emap, List.nil_append] at ec
 have hn24 : n ≤ 24 := by omega
 have nd := zim (f := r4) st1 hn24
 generalize hps : zdK (plc r4 st n) = ps
 have pm : ps.Perm (plc r4 st n) := hps ▸ zeh _
 have rise : ps.Pairwise (· < ·) := hps ▸ zg3 nd
 have hlen : ps.length = n := by rw [pm.length_eq, zil]
 have es := zg2 (ns := plc r4 st n) (by rw [zil]; omega)
 rw [hps] at es
 have inner : ∀ (i : Nat) (b : Int) (g q c : Int) (tys : List (Int × Int)) (x : Option M), 0 ≤ g → ps[i]? = some b → Tys ps i 0 tys → ∃ g' q' c' tys' x', 0 ≤ g' ∧ Tys ps (i + 1) 0 tys' ∧
   zgW (zaj 10) (zcu (zg6 (zbW (vB ltM (zah 10) (zah 9))) (zg6 (zbW (vB ltM (vCB zcU (zae (zah 8))) (vC (.int 60)))) (zbW (vB (eqM false) (vFn FF.zag (zaa (zah 0) (zae (zah 3)))) (vC (.int 0)))))) (zex (zis 8 (zae (zbF (zaa (zah 10) (zae (zah 9))))))) za9) (ps.map .int)
    [some (pot g q c), some (.v (.int most)), some (.v (.int r1)), some (.v (.int often)), some (.v (.int (n : Int))), some (.v (.int r4)), some (.v (.int st)), some (.v (.list (ps.map .int))), some (.lst (tys.map pD)), some (.v (.int b)), x]
   = some (.nx [some (pot g' q' c'), some (.v (.int most)), some (.v (.int r1)), some (.v (.int often)), some (.v (.int (n : Int))), some (.v (.int r4)), some (.v (.int st)), some (.v (.list (ps.map .int))), some (.lst (tys'.map pD)), some (.v (.int b)), x']) := fun i b g q c tys x hg hb hT => by
  obtain ⟨ρ', e, h⟩ := zc8 (fg := zaj 10) (fb := zcu (zg6 (zbW (vB ltM (zah 10) (zah 9))) (zg6 (zbW (vB ltM (vCB zcU (zae (zah 8))) (vC (.int 60)))) (zbW (vB (eqM false) (vFn FF.zag (zaa (zah 0) (zae (zah 3)))) (vC (.int 0)))))) (zex (zis 8 (zae (zbF (zaa (zah 10) (zae (zah 9))))))) za9)
   (P := fun ds ρ => ∃ j g q c tys x, ds = (ps.drop j).map PyData.int ∧ j ≤ ps.length ∧ 0 ≤ g ∧ Tys ps i j tys ∧ ρ = [some (pot g q c), some (.v (.int most)), some (.v (.int r1)), some (.v (.int often)), some (.v (.int (n : Int))), some (.v (.int r4)), some (.v (.int st)), some (.v (.list (ps.map .int))), some (.lst (tys.map pD)), some (.v (.int b)), x]) (ps.map .int) _ ⟨0, g, q, c, tys, x, rfl, Nat.zero_le _, hg, hT, rfl⟩ (fun d ds ρ hP => by
    obtain ⟨j, g, q, c, tys, x, hds, hj, hg, hT, rfl⟩ := hP
    obtain ⟨a, ha, rfl, hds'⟩ := zc0 hds
    have hj' : j + 1 ≤ ps.length := (List.getElem?_eq_some_iff.mp ha).1
    obtain ⟨r, g', q', c', ra, rb, rg, re⟩ := pick g q c often hg hof.1 hof.2
    have hlim : tys.length < 1000000 := by have := hT.len; omega
    by_cases h1 : a < b
    ·by_cases h2 : tys.length < 60
     ·by_cases h3 : r = 0
      ·refine ⟨_, [some (pot g' q' c'), some (.v (.int most)), some (.v (.int r1)), some (.v (.int often)), some (.v (.int (n : Int))), some (.v (.int r4)), some (.v (.int st)), some (.v (.list (ps.map .int))), some (.lst ((tys ++ [(a, b)]).map pD)), some (.v (.int b)), some (.v (.int a))], rfl, ?_, j + 1, g', q', c', tys ++ [(a, b)], some (.v (.int a)), hds', hj', rg, hT.add rise ha hb h1 h2, rfl⟩
       subst h3
       have h2' : (tys.length : Int) < 60 := by omega
       simp [h1, h2', re, hlim, lim]
      ·refine ⟨_, [some (pot g' q' c'), some (.v (.int most)), some (.v (.int r1)), some (.v (.int often)), some (.v (.int (n : Int))), some (.v (.int r4)), some (.v (.int st)), some (.v (.list (ps.map .int))), some (.lst (tys.map pD)), some (.v (.int b)), some (.v (.int a))], rfl, ?_, j + 1, g', q', c', tys, some (.v (.int a)), hds', hj', rg, hT.skip ha, rfl⟩
       have h2' : (tys.length : Int) < 60 := by omega
       simp [h1, h2', re, h3]
     ·refine ⟨_, [some (pot g q c), some (.v (.int most)), some (.v (.int r1)), some (.v (.int often)), some (.v (.int (n : Int))), some (.v (.int r4)), some (.v (.int st)), some (.v (.list (ps.map .int))), some (.lst (tys.map pD)), some (.v (.int b)), some (.v (.int a))], rfl, ?_, j + 1, g, q, c, tys, some (.v (.int a)), hds', hj', hg, hT.skip ha, rfl⟩
      have h2' : ¬ (tys.length : Int) < 60 := by omega
      simp [h1, h2']
    ·refine ⟨_, [some (pot g q c), some (.v (.int most)), some (.v (.int r1)), some (.v (.int often)), some (.v (.int (n : Int))), some (.v (.int r4)), some (.v (.int st)), some (.v (.list (ps.map .int))), some (.lst (tys.map pD)), some (.v (.int b)), some (.v (.int a))], rfl, ?_, j + 1, g, q, c, tys, some (.v (.int a)), hds', hj', hg, hT.skip ha, rfl⟩
     simp [h1])
  obtain ⟨j, g', q', c', tys', x', hds, hj, hg', hT', rfl⟩ := h
  have hj : j = ps.length := by
   have := congrArg List.length hds
   rw [List.length_nil, List.length_map, List.length_drop] at this
   omega
  subst hj
  exact ⟨g', q', c', tys', x', hg', hT'.row hb, e⟩
 obtain ⟨ρ', eo, ho⟩ := zc8 (fg := zaj 9) (fb := zgl (zbA (zah 7)) (zaj 10) (zcu (zg6 (zbW (vB ltM (zah 10) (zah 9))) (zg6 (zbW (vB ltM (vCB zcU (zae (zah 8))) (vC (.int 60)))) (zbW (vB (eqM false) (vFn FF.zag (zaa (zah 0) (zae (zah 3)))) (vC (.int 0)))))) (zex (zis 8 (zae (zbF (zaa (zah 10) (zae (zah 9))))))) za9))
  (P := fun ds ρ => ∃ i g q c tys x9 x10, ds = (ps.drop i).map PyData.int ∧ i ≤ ps.length ∧ 0 ≤ g ∧ Tys ps i 0 tys ∧ ρ = [some (pot g q c), some (.v (.int most)), some (.v (.int r1)), some (.v (.int often)), some (.v (.int (n : Int))), some (.v (.int r4)), some (.v (.int st)), some (.v (.list (ps.map .int))), some (.lst (tys.map pD)), x9, x10]) (ps.map .int) _ ⟨0, g5, q5, c5, [], none, none, rfl, Nat.zero_le _, k5, Tys.zero, rfl⟩ (fun d ds ρ hP => by
   obtain ⟨i, g, q, c, tys, x9, x10, hds, hi, hg, hT, rfl⟩ := hP
   obtain ⟨b, hb, rfl, hds'⟩ := zc0 hds
   obtain ⟨g', q', c', tys', x', hg', hT', e⟩ := inner i b g q c tys x10 hg hb hT
   exact ⟨_, _, rfl, e, i + 1, g', q', c', tys', _, x', hds', (List.getElem?_eq_some_iff.mp hb).1, hg', hT', rfl⟩)
 obtain ⟨i, g', q', c', tys, x9, x10, hds, hi, hg', hT, rfl⟩ := ho
 refine ⟨ps, zfk tys, g', q', c', hg', ⟨rise, fun p hp => zk7 p (pm.mem_iff.mp hp), by omega, zgZ hT.nd, fun t ht => hT.lt t ((zcq tys).mem_iff.mp ht), fun t ht => hT.ends t ((zcq tys).mem_iff.mp ht), by rw [(zcq tys).length_eq]; exact hT.len⟩, ?_⟩
 have et := zfZ (ts := tys) (by have := hT.len; omega)
 refine zef (ρ := [some (pot g' q' c'), some (.v (.int most)), some (.v (.int r1)), some (.v (.int often)), some (.v (.int (n : Int))), some (.v (.int r4)), some (.v (.int st)), some (.v (.list (ps.map .int))), some (.lst (tys.map pD)), x9, x10]) rfl ?_ rfl
 show FF.zcx [some (pot g q c), some (.v (.int most)), none, none, none, none, none, none, none, none, none] = _
 refine (zam (ρ1 := [some (pot g2 q2 c2), some (.v (.int most)), some (.v (.int r1)), some (.v (.int often)), none, none, none, none, none, none, none]) (by simp [e1, e2, lim, of2])).trans ?_
 refine (zam (ρ1 := [some (pot g3 q3 c3), some (.v (.int most)), some (.v (.int r1)), some (.v (.int often)), some (.v (.int (n : Int))), none, none, none, none, none, none]) (by simp [e3, lim, ma2])).trans ?_
 refine (zam (ρ1 := [some (pot g4 q4 c4), some (.v (.int most)), some (.v (.int r1)), some (.v (.int often)), some (.v (.int (n : Int))), some (.v (.int r4)), none, none, none, none, none]) (by simp [e4])).trans ?_
 refine (zam (ρ1 := [some (pot g5 q5 c5), some (.v (.int most)), some (.v (.int r1)), some (.v (.int often)), some (.v (.int (n : Int))), some (.v (.int r4)), some (.v (.int st)), none, none, none, none]) (by simp [e5, lim, st2])).trans ?_
 refine (zam (ρ1 := [some (pot g5 q5 c5), some (.v (.int most)), some (.v (.int r1)), some (.v (.int often)), some (.v (.int (n : Int))), some (.v (.int r4)), some (.v (.int st)), some (.lst (ps.map .int)), none, none, none]) (by simp [hsm, ec, es])).trans ?_
 refine (zam (ρ1 := [some (pot g5 q5 c5), some (.v (.int most)), some (.v (.int r1)), some (.v (.int often)), some (.v (.int (n : Int))), some (.v (.int r4)), some (.v (.int st)), some (.lst (ps.map .int)), some (.lst []), none, none]) (by simp [lim])).trans ?_
 refine (zam (ρ1 := _) (show _ = _ from eo)).trans ?_
 simp [et, lim, tI]
end PA
end
section
namespace PA
open PySem L2 VL
def zdO {α : Type} (lt : α → α → Bool) : List α → Bool
 | x :: y :: r => lt x y && zdO lt (y :: r)
 | _ => true
def inR : PyData → Bool
 | .int i => decide (0 ≤ i ∧ i ≤ 99)
 | _ => false
def asP : PyData → Option (Int × Int)
 | .tuple [.int a, .int b] => some (a, b)
 | _ => none
def prB (ns : List Int) (d : PyData) : Bool := match asP d with
 | some (a, b) => decide (a < b) && (decide (a ∈ ns) && decide (b ∈ ns))
 | none => false
def znk : PyData → Int
 | .int i => i
 | _ => 0
def zle (d : PyData) : Int × Int := (asP d).getD (0, 0)
def plB : PyData → Bool
 | .tuple ds => ds.all inR && zdO (fun a b => ltI a b) (ds.map znk)
 | _ => false
def small (d : PyData) : Prop := ∀ ds, d = .tuple ds → ds.length ≤ 1000
@[simp] theorem cls_none : zhU (.v .none) = "NoneType" := rfl
@[simp] theorem cls_bool {b : Bool} : zhU (.v (.bool b)) = "bool" := rfl
@[simp] theorem cls_int {b : Int} : zhU (.v (.int b)) = "int" := rfl
@[simp] theorem cls_str {b : Str} : zhU (.v (.str b)) = "str" := rfl
@[simp] theorem cls_tup {b : List PyData} : zhU (.v (.tuple b)) = "tuple" := rfl
@[simp] theorem cls_list {b : List PyData} : zhU (.v (.list b)) = "list" := rfl
@[simp] theorem cls_dict {b : List (PyData × PyData)} : zhU (.v (.dict b)) = "dict" := rfl
theorem zdx (d : PyData) : FF.zav [.v d] = some (.v (.bool (match d with | .int _ => true | _ => false)), [.v d]) := by
 cases d <;> simp [FF.zav, FF.zch, zao, subB]
def is2 : PyData → Bool
 | .tuple [_, _] => true
 | _ => false
theorem zdP (d : PyData) : FF.zal [.v d, .v (.int 2)] = some (.v (.bool (is2 d)), [.v d, .v (.int 2)]) := by
 cases d with
 | tuple ds =>
  rcases ds with _ | ⟨a, _ | ⟨b, _ | ⟨c, ds⟩⟩⟩ <;> simp [FF.zal, FF.zbp, zao, subB, is2]
  omega
 | _ => simp [FF.zal, FF.zbp, zao, subB, is2]
theorem zfn {α : Type} (lt : α → α → Bool) (d : α) : ∀ xs : List α, ((List.range (xs.length - 1)).all fun k => lt (xs.getD k d) (xs.getD (k + 1) d)) = zdO lt xs
 | [] => rfl
 | [_] => rfl
 | x :: y :: r => by
  have ih := zfn lt d (y :: r)
  show ((List.range (r.length + 1)).all _) = (lt x y && zdO lt (y :: r))
  rw [← ih, List.range_succ_eq_map, List.all_cons, List.all_map]
  rfl
theorem zji (ds : List PyData) (lt : Nat → Bool) (hl : ds.length ≤ 1000) (h : ∀ k, k + 1 < ds.length → ltM (.v (ds.getD k .none)) (.v (ds.getD (k + 1) .none)) = some (.v (.bool (lt k)))) :
  FF.zbv [.v (.tuple ds)] = some (.v (.bool ((List.range (ds.length - 1)).all lt)), [.v (.tuple ds)]) := by
 have hsm : zdf ((ds.length : Int) - 1) = true := decide_eq_true (by unfold zkM; omega)
 have hr : za7 0 ((ds.length : Int) - 1) = (List.range (ds.length - 1)).map fun k : Nat => PyData.int (0 + (k : Int)) := by
  unfold za7
  rw [Int.sub_zero, show ((ds.length : Int) - 1).toNat = ds.length - 1 by omega]
 obtain ⟨y, ec⟩ := zbM (fe := vB ltM (vIx (zah 1) (zah 0)) (vIx (zah 1) (vB zbO (zah 0) (vC (.int 1))))) (cs := [some (.v (.tuple ds))]) (f := fun d => match d with | .int k => .bool (lt k.toNat) | _ => .none) (za7 0 ((ds.length : Int) - 1)) [] none (fun d hd => by
  rw [hr] at hd
  obtain ⟨k, hk, rfl⟩ := List.mem_map.mp hd
  have hk := List.mem_range.mp hk
  have h1 : atI ds ((k : Nat) : Int) = some (ds.getD k .none) := zfz (by rw [List.getD_eq_getElem?_getD, List.getElem?_eq_getElem (by omega)]; rfl)
  have h2 : atI ds (((k + 1 : Nat) : Int)) = some (ds.getD (k + 1) .none) := zfz (by rw [List.getD_eq_getElem?_getD, List.getElem?_eq_getElem (by omega)]; rfl)
  rw [show ((k + 1 : Nat) : Int) = (k : Int) + 1 by omega] at h2
  refine ⟨.t (.v (.bool (lt k))), ?_, by simp⟩
  have h3 := h k (by omega)
  generalize ds.getD k .none = x at h1 h3
  generalize ds.getD (k + 1) .none = y at h2 h3
  simp [h1, h2, h3]) (by rw [hr, List.length_map, List.length_range, List.length_nil]; unfold lim; omega)
 have em : (za7 0 ((ds.length : Int) - 1)).map (fun d => match d with | .int k => PyData.bool (lt k.toNat) | _ => .none) = ((List.range (ds.length - 1)).map lt).map .bool := by
  rw [hr, List.map_map, List.map_map]
  refine List.map_congr_left fun k _ => ?_
  show PyData.bool (lt (0 + (k : Int)).toNat) = .bool (lt k)
  rw [Int.zero_add, Int.toNat_natCast]
 rw [em, List.nil_append] at ec
 have ea := zbu ((List.range (ds.length - 1)).map lt)
 have er : (List.range (ds.length - 1)).all lt = ((List.range (ds.length - 1)).map lt).all id := by rw [List.all_map]; rfl
 rw [er]
 generalize (List.range (ds.length - 1)).map lt = bs at ec ea
 clear em hr er
 simp [FF.zbv, FF.zdh, zao, hsm, ec, ea]
end PA
end
section
namespace PA
open PySem L2 VL
theorem zjj {ds : List PyData} (h : ds.all inR = true) : ds = (ds.map znk).map .int ∧ ∀ p ∈ ds.map znk, 0 ≤ p ∧ p ≤ 99 := by
 have h' : ∀ d ∈ ds, ∃ i : Int, d = .int i ∧ 0 ≤ i ∧ i ≤ 99 := fun d hd => by
  have := List.all_eq_true.mp h d hd
  cases d with
  | int i => exact ⟨i, rfl, of_decide_eq_true this⟩
  | _ => cases this
 refine ⟨?_, fun p hp => ?_⟩
 ·rw [List.map_map]
  refine (List.map_id ds).symm.trans (List.map_congr_left fun d hd => ?_)
  obtain ⟨i, rfl, _⟩ := h' d hd
  rfl
 ·obtain ⟨d, hd, rfl⟩ := List.mem_map.mp hp
  obtain ⟨i, rfl, h1⟩ := h' d hd
  exact h1
theorem getD_map {α β : Type} (f : α → β) (xs : List α) (k : Nat) (a : α) : (xs.map f).getD k (f a) = f (xs.getD k a) := by
 rw [List.getD_eq_getElem?_getD, List.getD_eq_getElem?_getD, List.getElem?_map]
 cases xs[k]? <;> rfl
theorem zgB {α : Type} (xs : List α) {k : Nat} (a b : α) (h : k < xs.length) : xs.getD k a = xs.getD k b := by
 rw [List.getD_eq_getElem?_getD, List.getD_eq_getElem?_getD, List.getElem?_eq_getElem h]
 rfl
theorem zg4 (ns : List Int) (hl : ns.length ≤ 1000) : FF.zbv [.v (tI ns)] = some (.v (.bool (zdO (fun a b => ltI a b) ns)), [.v (tI ns)]) := by
 have h := zji (ns.map .int) (fun k => ltI (ns.getD k 0) (ns.getD (k + 1) 0)) (by rw [List.length_map]; exact hl) (fun k hk => by
  rw [List.length_map] at hk
  rw [zgB (ns.map PyData.int) (k := k) .none (.int 0) (by rw [List.length_map]; omega), zgB (ns.map PyData.int) (k := k + 1) .none (.int 0) (by rw [List.length_map]; omega), getD_map, getD_map]
  rfl)
 rw [List.length_map, zfn (fun a b => ltI a b) 0 ns] at h
 exact h
theorem zfo (ds : List PyData) (f : PyData → Bool) : allM false [.lst (ds.map fun d => .bool (f d))] = some (.v (.bool (ds.all f))) := by
 have : (ds.map fun d => PyData.bool (f d)) = (ds.map f).map .bool := by rw [List.map_map]; rfl
 rw [this, zih, zbu]
 show some (M.v (.bool ((ds.map f).all id))) = _
 rw [List.all_map]
 rfl
theorem zg5 (d : PyData) (hd : small d) : FF.zay [.v d] = some (.v (.bool (plB d)), [.v d]) := by
 cases d with
 | tuple ds =>
  have hl := hd ds rfl
  obtain ⟨y, ec⟩ := zbM (fe := zbE (vFn FF.zav (zae (zah 0))) (zd9 leM leM (vC (.int 0)) (zah 0) (vC (.int 99)))) (cs := []) (f := fun d => .bool (inR d)) ds [] none (fun d hd => by
   refine ⟨.t (.v (.bool (inR d))), ?_, by simp⟩
   cases d with
   | int i => by_cases h : 0 ≤ i <;> simp [zdx, inR, h]
   | _ => simp [zdx, inR]) (by rw [List.length_nil]; unfold lim; omega)
  have ea := zfo ds inR
  rw [List.nil_append] at ec
  generalize hL : (ds.map fun d => PyData.bool (inR d)) = L at ec ea
  by_cases h : ds.all inR = true
  ·have er := zg4 (ds.map znk) (by rw [List.length_map]; exact hl)
   unfold tI at er
   rw [← (zjj h).1] at er
   rw [h] at ea
   have hp : plB (.tuple ds) = zdO (fun a b => ltI a b) (ds.map znk) := by show (ds.all inR && _) = _; rw [h]; rfl
   rw [hp]
   simp [FF.zay, FF.za6, zao, subB, ec, ea, er]
  ·have h : ds.all inR = false := by simpa using h
   rw [h] at ea
   have hp : plB (.tuple ds) = false := by show (ds.all inR && _) = _; rw [h]; rfl
   rw [hp]
   simp [FF.zay, FF.za6, zao, subB, ec, ea]
 | _ => simp [FF.zay, FF.za6, zao, subB, plB]
theorem zf0 (ns : List Int) (a : Int) : ((ns.map PyData.int).any fun d => PyData.eqv d (.int a)) = decide (a ∈ ns) := by
 rw [List.any_map]
 induction ns with
 | nil => simp
 | cons m ns ih =>
  rw [List.any_cons, ih]
  show ((m == a) || _) = _
  by_cases h : m = a
  ·simp [h]
  ·simp [h, Ne.symm h]
theorem zdQ (neg : Bool) (ns : List Int) (a : Int) : inA neg (.v (.int a)) (.v (.tuple (ns.map .int))) = some (.v (.bool (if neg then !decide (a ∈ ns) else decide (a ∈ ns)))) := by
 show inM neg (.v (.int a)) (.v (.tuple (ns.map .int))) = _
 show (if okIn (ns.map .int) (.int a) = true then some (M.v (.bool (if neg then !((ns.map PyData.int).any fun d => PyData.eqv d (.int a)) else (ns.map PyData.int).any fun d => PyData.eqv d (.int a)))) else none) = _
 rw [zf0, if_pos]
 unfold okIn
 rw [zep]
 rfl
theorem zk8 (ns : List Int) (d : PyData) : FF.zaE [.v (tI ns), .v d] = some (.v (.bool (prB ns d)), [.v (tI ns), .v d]) := by
 have no : is2 d = false → prB ns d = false → FF.zaE [.v (tI ns), .v d] = some (.v (.bool (prB ns d)), [.v (tI ns), .v d]) := fun h1 h2 => by
  have e := zdP d
  rw [h1] at e
  rw [h2]
  simp [FF.zaE, FF.zbd, zao, e]
 cases d with
 | tuple ds =>
  rcases ds with _ | ⟨a, _ | ⟨b, _ | ⟨c, ds⟩⟩⟩
  ·exact no rfl rfl
  ·exact no rfl (by cases a <;> rfl)
  ·have e : FF.zal [.v (.tuple [a, b]), .v (.int 2)] = some (.v (.bool true), [.v (.tuple [a, b]), .v (.int 2)]) := zdP (.tuple [a, b])
   have ea := zdx a
   have eb := zdx b
   cases a with
   | int a =>
    cases b with
    | int b =>
     have i1 := zdQ false ns a
     have i2 := zdQ false ns b
     unfold tI
     generalize hL : ns.map PyData.int = L at i1 i2
     by_cases h1 : a < b <;> by_cases h2 : a ∈ ns <;> simp [FF.zaE, FF.zbd, zao, e, ea, eb, i1, i2, h1, h2, prB, asP, hL]
    | _ => simp [FF.zaE, FF.zbd, zao, e, ea, eb, prB, asP]
   | _ => simp [FF.zaE, FF.zbd, zao, e, ea, eb, prB, asP]
  ·exact no rfl (by cases a <;> cases b <;> rfl)
 | _ => exact no rfl rfl
end PA
end
section
namespace PA
open PySem L2 VL
theorem cut1 (x : PyData) (ds : List PyData) : cutD (x :: ds) (some 1) none = ds := by
 show cutD (x :: ds) (some ((1 : Nat) : Int)) none = ds
 unfold cutD
 rw [HT.zej, HT.zfx]
 simp
theorem eqv_pD (a b : Int × Int) : PyData.eqv (pD a) (pD b) = decide (a = b) := by
 obtain ⟨x, y⟩ := a
 obtain ⟨z, t⟩ := b
 by_cases h1 : x = z <;> by_cases h2 : y = t <;> simp [pD, PyData.eqv, PyData.eqvAll, h1, h2]
theorem zjk (ts : List (Int × Int)) (p : Int × Int) : ((ts.map pD).any fun d => PyData.eqv d (pD p)) = decide (p ∈ ts) := by
 rw [List.any_map]
 induction ts with
 | nil => simp
 | cons t ts ih =>
  rw [List.any_cons, ih]
  show (PyData.eqv (pD t) (pD p) || _) = _
  rw [eqv_pD]
  by_cases h : t = p
  ·simp [h]
  ·simp [h, Ne.symm h]
theorem can_prs : ∀ ts : List (Int × Int), PyData.canLayAll0 (ts.map pD) = true
 | [] => rfl
 | t :: ts => by
  show (PyData.canLay0 (pD t) && PyData.canLayAll0 (ts.map pD)) = true
  rw [can_prs ts]
  rfl
theorem in_tD (neg : Bool) (ts : List (Int × Int)) (p : Int × Int) : inA neg (.v (pD p)) (.v (tD ts)) = some (.v (.bool (if neg then !decide (p ∈ ts) else decide (p ∈ ts)))) := by
 show (if okIn (ts.map pD) (pD p) = true then some (M.v (.bool (if neg then !((ts.map pD).any fun d => PyData.eqv d (pD p)) else (ts.map pD).any fun d => PyData.eqv d (pD p)))) else none) = _
 rw [zjk, if_pos]
 unfold okIn
 rw [can_prs]
 rfl
/-- a deed -/
def dB (ps : List Int) (ts : List (Int × Int)) : PyData → Bool
 | .tuple [.str x, .int n] => decide (x = "drop") && decide (n ∈ ps)
 | .tuple [.str x, .int a, .int b] => (decide (x = "cut") || decide (x = "draw")) && decide ((a, b) ∈ ts)
 | _ => false
def isW : PyData → Bool
 | .tuple (.str _ :: _) => true
 | _ => false
theorem is_worded (d : PyData) : FF.zaF [.v d] = some (.v (.bool (isW d)), [.v d]) := by
 cases d with
 | tuple ds =>
  cases ds with
  | nil => simp [FF.zaF, FF.zbe, zao, subB, isW]
  | cons x ds =>
   have h : (0 : Int) < (ds.length : Int) + 1 := by omega
   cases x <;> simp [FF.zaF, FF.zbe, zao, subB, isW, atI, ixN, h]
 | _ => simp [FF.zaF, FF.zbe, zao, subB, isW]
def someB (ps : List Int) : PyData → Bool
 | .int n => decide (0 ≤ n ∧ n ≤ 99) && decide (n ∈ ps)
 | _ => false
theorem are_some1 (ps : List Int) (ts : List (Int × Int)) (e : PyData) : FF.zaK [.v (wD ps ts), .v (.tuple [e])] = some (.v (.bool (someB ps e)), [.v (wD ps ts), .v (.tuple [e])]) := by
 have hp := zg5 (.tuple [e]) (fun ds h => by cases h; simp)
 have g0 : getM (.v (wD ps ts)) (.v (.int 0)) = some (.v (tI ps)) := rfl
 generalize wD ps ts = W at *
 cases e with
 | int n =>
  have hi := zdQ false ps n
  have hi : inA false (.v (.int n)) (.v (tI ps)) = some (.v (.bool (decide (n ∈ ps)))) := hi
  generalize tI ps = P at *
  have hpl : plB (.tuple [.int n]) = decide (0 ≤ n ∧ n ≤ 99) := by simp [plB, inR, zdO]
  rw [hpl] at hp
  have ho : zfr 1 [0] 1 (zaj 0) zb9 (vB (inA false) (zah 0) (vIx (zah 1) (vC (.int 0)))) [some (.v W), some (.v (.tuple [.int n]))] = some (.t (.lst [.bool (decide (n ∈ ps))]), [some (.v W), some (.v (.tuple [.int n]))]) := by
   show vLC 1 [0] (zbA (zah 1)) (zaj 0) zb9 (vB (inA false) (zah 0) (vIx (zah 1) (vC (.int 0)))) _ = _
   simp [zbP, g0, hi, lim]
  by_cases h : 0 ≤ n ∧ n ≤ 99
  ·rw [decide_eq_true h] at hp
   simp [FF.zaK, FF.zbq, zao, hp, ho, someB, h, zir, asB]
  ·rw [decide_eq_false h] at hp
   simp [FF.zaK, FF.zbq, zao, hp, someB, h]
 | _ =>
  have hp := hp
  simp [plB, inR] at hp
  simp [FF.zaK, FF.zbq, zao, hp, someB]
theorem is_tie (ps : List Int) (ts : List (Int × Int)) (d : PyData) : FF.zbj [.v (wD ps ts), .v d] = some (.v (.bool (prB ps d && decide (zle d ∈ ts))), [.v (wD ps ts), .v d]) := by
 have hp := zk8 ps d
 have g0 : getM (.v (wD ps ts)) (.v (.int 0)) = some (.v (tI ps)) := rfl
 have g1 : getM (.v (wD ps ts)) (.v (.int 1)) = some (.v (tD ts)) := rfl
 by_cases h : prB ps d = true
 ·have hd : d = pD (zle d) := by
   unfold prB at h
   unfold zle
   cases e : asP d with
   | none => rw [e] at h; cases h
   | some p =>
    unfold asP at e
    split at e
    ·cases e; rfl
    ·cases e
  have hi := in_tD false ts (zle d)
  rw [← hd] at hi
  rw [h] at hp ⊢
  generalize wD ps ts = W at *
  generalize tI ps = P at *
  generalize tD ts = T at *
  generalize zle d = v at *
  clear hd
  simp [FF.zbj, FF.zb3, zao, g0, g1, hp, hi]
 ·have h' : prB ps d = false := by simpa using h
  rw [h'] at hp ⊢
  generalize wD ps ts = W at *
  generalize tI ps = P at *
  generalize tD ts = T at *
  simp [FF.zbj, FF.zb3, zao, g0, hp]
end PA
end
section
namespace PA
open PySem L2 VL
theorem at0 {α : Type} (x : α) (ds : List α) : atI (x :: ds) 0 = some x := by
 unfold atI ixN
 have h : (0 : Int) < ((ds.length : Int) + 1) := by omega
 simp [h]
def headOk : PyData → Bool
 | .tuple (.str x :: _) => PyData.strOk x
 | _ => true
theorem eq_word (x y : Str) (hx : PyData.strOk x = true) (hy : PyData.strOk y = true) : eqM false (.v (.str x)) (.v (.str y)) = some (.v (.bool (decide (x = y)))) := by
 rw [zgs]
 simp only [znf, Option.bind_some]
 rw [if_pos (show ziT (.str x) (.str y) = true by show (PyData.strOk x && PyData.strOk y && true) = true; rw [hx, hy]; rfl)]
 show some (M.v (.bool (PyData.eqv (.str x) (.str y)))) = _
 congr 3
theorem in_two (x : Str) (hx : PyData.strOk x = true) : inA false (.v (.str x)) (.v (.tuple [.str "cut", .str "draw"])) = some (.v (.bool (decide (x = "cut") || decide (x = "draw")))) := by
 show (if okIn [.str "cut", .str "draw"] (.str x) = true then some (M.v (.bool ([PyData.str "cut", .str "draw"].any fun d => PyData.eqv d (.str x)))) else none) = _
 rw [if_pos (show okIn [.str "cut", .str "draw"] (.str x) = true by unfold okIn; rw [show PyData.canLayAll0 [.str "cut", .str "draw"] = true by decide +kernel]; show (true && PyData.strOk x && true) = true; rw [hx]; rfl)]
 congr 3
 show ((("cut" : Str) == x) || ((("draw" : Str) == x) || false)) = _
 rw [Bool.or_false]
 have b : ∀ y : Str, (y == x) = decide (x = y) := fun y => by by_cases h : x = y <;> simp [h, Ne.symm]
 rw [b, b]
theorem in_rng {ps : List Int} {ts : List (Int × Int)} (w : zcZ ps ts) (n : Int) : (decide (0 ≤ n ∧ n ≤ 99) && decide (n ∈ ps)) = decide (n ∈ ps) := by
 by_cases h : n ∈ ps
 ·have := w.rng n h
  simp [h, this]
 ·simp [h]
theorem prB_ts {ps : List Int} {ts : List (Int × Int)} (w : zcZ ps ts) (a b : Int) : (prB ps (pD (a, b)) && decide ((a, b) ∈ ts)) = decide ((a, b) ∈ ts) := by
 by_cases h : (a, b) ∈ ts
 ·have h1 := w.lt _ h
  have h2 := w.ends _ h
  simp only at h1 h2
  simp [prB, asP, h, h1, h2]
 ·simp [h]
theorem is_deed {ps : List Int} {ts : List (Int × Int)} (w : zcZ ps ts) (d : PyData) (hok : headOk d = true) : FF.zar [.v (wD ps ts), .v d] = some (.v (.bool (dB ps ts d)), [.v (wD ps ts), .v d]) := by
 have hw := is_worded d
 by_cases hW : isW d = true
 ·rw [hW] at hw
  obtain ⟨x, rest, rfl⟩ : ∃ x rest, d = .tuple (.str x :: rest) := by
   unfold isW at hW
   split at hW
   ·exact ⟨_, _, rfl⟩
   ·cases hW
  have h2 := zdP (.tuple (.str x :: rest))
  have ht := is_tie ps ts (.tuple rest)
  have hc := cut1 (.str x) rest
  have hok : PyData.strOk x = true := hok
  have e1 := eq_word x "drop" hok (by decide +kernel)
  have e2 := in_two x hok
  by_cases hx : x = "drop"
  ·rw [decide_eq_true hx] at e1
   rcases rest with _ | ⟨e, _ | ⟨f, rest⟩⟩
   ·have h2 : FF.zal [.v (.tuple [.str x]), .v (.int 2)] = some (.v (.bool false), [.v (.tuple [.str x]), .v (.int 2)]) := h2
    have hd : dB ps ts (.tuple [.str x]) = false := rfl
    rw [hd]
    generalize wD ps ts = W at *
    simp [FF.zar, FF.zaM, zao, hw, e1, h2, at0]
   ·have h2 : FF.zal [.v (.tuple [.str x, e]), .v (.int 2)] = some (.v (.bool true), [.v (.tuple [.str x, e]), .v (.int 2)]) := h2
    have hs := are_some1 ps ts e
    have hd : dB ps ts (.tuple [.str x, e]) = someB ps e := by
     cases e with
     | int n =>
      show (decide (x = "drop") && decide (n ∈ ps)) = (decide (0 ≤ n ∧ n ≤ 99) && decide (n ∈ ps))
      rw [in_rng w, decide_eq_true hx, Bool.true_and]
     | _ => rfl
    rw [hd]
    generalize wD ps ts = W at *
    simp [FF.zar, FF.zaM, zao, hw, e1, h2, hc, hs, at0]
   ·have h2 : FF.zal [.v (.tuple (.str x :: e :: f :: rest)), .v (.int 2)] = some (.v (.bool false), [.v (.tuple (.str x :: e :: f :: rest)), .v (.int 2)]) := h2
    have hd : dB ps ts (.tuple (.str x :: e :: f :: rest)) = false := by
     unfold dB
     split
     ·next h => simp at h
     ·next h =>
      simp at h
      rw [← h.1, hx]
      rfl
     ·rfl
    rw [hd]
    generalize wD ps ts = W at *
    simp [FF.zar, FF.zaM, zao, hw, e1, h2, at0]
  ·rw [decide_eq_false hx] at e1
   have hd : dB ps ts (.tuple (.str x :: rest)) = ((decide (x = "cut") || decide (x = "draw")) && (prB ps (.tuple rest) && decide (zle (.tuple rest) ∈ ts))) := by
    unfold dB
    split
    ·next h =>
     simp at h
     rw [← h.1, decide_eq_false hx, h.2]
     simp [prB, asP]
    ·next a b h =>
     simp at h
     obtain ⟨h1, rfl⟩ := h
     rw [← h1]
     congr 1
     exact (prB_ts w a b).symm
    ·next h1 h2 =>
     have : prB ps (.tuple rest) = false := by
      unfold prB
      cases e : asP (.tuple rest) with
      | none => rfl
      | some p =>
       unfold asP at e
       split at e
       ·next a b hr => injection hr with hr; subst hr; exact absurd rfl (h2 x a b)
       ·cases e
     rw [this]
     simp
   rw [hd]
   generalize wD ps ts = W at *
   by_cases h3 : (decide (x = "cut") || decide (x = "draw")) = true
   ·rw [h3] at e2 ⊢
    simp [FF.zar, FF.zaM, zao, hw, e1, e2, hc, ht, at0, lim]
   ·have h3 : (decide (x = "cut") || decide (x = "draw")) = false := by simpa using h3
    rw [h3] at e2 ⊢
    simp [FF.zar, FF.zaM, zao, hw, e1, e2, at0, lim]
 ·have hW : isW d = false := by simpa using hW
  rw [hW] at hw
  have hd : dB ps ts d = false := by
   unfold dB
   split
   ·simp [isW] at hW
   ·simp [isW] at hW
   ·rfl
  rw [hd]
  generalize wD ps ts = W at *
  simp [FF.zar, FF.zaM, zao, hw]
end PA
end
section
namespace PA
open PySem L2 VL
theorem in_23 (n : Int) : inA true (.v (.int n)) (.v (.tuple [.int 2, .int 3])) = some (.v (.bool (!(decide (n = 2) || decide (n = 3))))) := by
 have := zdQ true [2, 3] n
 have e : decide (n ∈ [(2 : Int), 3]) = (decide (n = 2) || decide (n = 3)) := by
  by_cases h1 : n = 2 <;> by_cases h2 : n = 3 <;> simp [h1, h2]
 rw [e] at this
 exact this
def whB : PyData → Bool
 | .int _ => true
 | _ => false
abbrev whE : FE := zbE (vU (zdv "int") (zah 0)) (zfK (vU (zdv "bool") (zah 0)))
theorem wh_one (e : PyData) : whE [some (.v e)] = some (.t (.v (.bool (whB e))), [some (.v e)]) := by
 cases e <;> simp [whE, subB, whB]
theorem wh_comp : ∀ (es acc : List PyData) (x : Option M), acc.length + es.length ≤ lim → ∃ y, zbP (zaj 0) zb9 whE es [x] acc = some (acc ++ es.map (fun e => .bool (whB e)), [y])
 | [], acc, x, _ => ⟨x, by simp [zbP]⟩
 | e :: es, acc, x, hl => by
  rw [List.length_cons] at hl
  obtain ⟨y, h⟩ := wh_comp es (acc ++ [.bool (whB e)]) (some (.v e)) (by rw [List.length_append, List.length_singleton]; omega)
  refine ⟨y, ?_⟩
  show (zaj 0 e [x]).bind _ = _
  rw [show zaj 0 e [x] = some [some (.v e)] by simp, Option.bind_some, show zb9 [some (.v e)] = some (true, [some (.v e)]) from rfl, Option.bind_some]
  dsimp only
  rw [if_pos rfl, wh_one]
  show (if acc.length < lim then _ else _) = _
  rw [if_pos (by omega)]
  refine Eq.trans h ?_
  rw [List.map_cons, List.append_assoc]
  rfl
theorem zbu : ∀ bs : List Bool, zir (bs.map .bool) = some bs
 | [] => rfl
 | b :: bs => by show (some b).bind _ = _; rw [Option.bind_some, zbu bs]; rfl
theorem wh_all (es : List PyData) (hl : es.length ≤ 1000) (ρ : Ev) (h1 : vSl (zah 1) (zbc (vC (.int 1))) zbb ρ = some (.t (.v (.tuple es)), ρ)) : vCB (allM false) (zae (vLC 1 [] (zbA (vSl (zah 1) (zbc (vC (.int 1))) zbb)) (zaj 0) zb9 whE)) ρ = some (.t (.v (.bool (es.all whB))), ρ) := by
 obtain ⟨y, e⟩ := wh_comp es [] none (by rw [List.length_nil]; unfold lim; omega)
 rw [List.nil_append] at e
 have hb := zbu (es.map whB)
 rw [List.map_map] at hb
 have hb : zir (es.map fun e => .bool (whB e)) = some (es.map whB) := hb
 have hall : (es.map whB).all id = es.all whB := by rw [List.all_map]; rfl
 rw [zm4, zi9, zjR, zja, h1]
 simp [itD, e, hb, hall]
abbrev ldA : FE := vCB (allM false) (zae (vLC 1 [] (zbA (vSl (zah 1) (zbc (vC (.int 1))) zbb)) (zaj 0) zb9 whE))
abbrev ld1 : FS := zcu (vOr (zd8 (zea (vU (zdv "tuple") (zah 1)))) (vOr (zbW (vB (inA true) (vCB zcU (zae (zah 1))) (zbF (zaa (vC (.int 2)) (zae (vC (.int 3))))))) (zd8 (zea (vU (zdv "str") (vIx (zah 1) (vC (.int 0)))))))) (zbJ (vC (.bool false))) za9
abbrev ld2 : FS := zcu (zd8 (zea ldA)) (zbJ (vC (.bool false))) za9
theorem ld2_t {ρ : Ev} (h : ldA ρ = some (.t (.v (.bool true)), ρ)) : ld2 ρ = some (.nx ρ) := by
 show (zd8 (zea ldA) ρ).bind _ = _
 rw [zib, zia, h]
 rfl
theorem ld2_f {ρ : Ev} (h : ldA ρ = some (.t (.v (.bool false)), ρ)) : ld2 ρ = some (.rt (.v (.bool false)) ρ) := by
 show (zd8 (zea ldA) ρ).bind _ = _
 rw [zib, zia, h]
 rfl
theorem dB_wh {ps : List Int} {ts : List (Int × Int)} {x : PyData} {es : List PyData} (h : es.all whB = false) : dB ps ts (.tuple (x :: es)) = false := by
 unfold dB
 split
 ·next h' => simp at h'; rw [h'.2] at h; cases h
 ·next h' => simp at h'; rw [h'.2] at h; cases h
 ·rfl
theorem dB_str {ps : List Int} {ts : List (Int × Int)} {x : PyData} {es : List PyData} (h : ∀ y, x ≠ .str y) : dB ps ts (.tuple (x :: es)) = false := by
 unfold dB
 split
 ·next h' => simp at h'; exact absurd h'.1 (h _)
 ·next h' => simp at h'; exact absurd h'.1 (h _)
 ·rfl
theorem dB_len {ps : List Int} {ts : List (Int × Int)} {ds : List PyData} (h : ¬ (ds.length = 2 ∨ ds.length = 3)) : dB ps ts (.tuple ds) = false := by
 unfold dB
 split
 ·next h' => injection h' with h'; rw [h'] at h; exact absurd (.inl rfl) h
 ·next h' => injection h' with h'; rw [h'] at h; exact absurd (.inr rfl) h
 ·rfl
theorem law_is_deed {ps : List Int} {ts : List (Int × Int)} (w : zcZ ps ts) (d : PyData) (hok : headOk d = true) : FF.zaA [.v (wD ps ts), .v d] = some (.v (.bool (dB ps ts d)), [.v (wD ps ts), .v d]) := by
 cases d with
 | tuple ds =>
  refine zef (ρ := [some (.v (wD ps ts)), some (.v (.tuple ds))]) rfl ?_ rfl
  show FF.zbr [some (.v (wD ps ts)), some (.v (.tuple ds))] = _
  have hlen : zcU [.v (.tuple ds)] = some (.v (.int (ds.length : Int))) := zif
  have h23 := in_23 (ds.length : Int)
  by_cases hl : ds.length = 2 ∨ ds.length = 3
  ·have hn : (!(decide ((ds.length : Int) = 2) || decide ((ds.length : Int) = 3))) = false := by
    rcases hl with h | h <;> rw [h] <;> rfl
   rw [hn] at h23
   obtain ⟨x, e, rest, rfl⟩ : ∃ x e rest, ds = x :: e :: rest := by
    match ds, hl with
    | x :: e :: rest, _ => exact ⟨x, e, rest, rfl⟩
   have h23' : inA true (.v (.int ((rest.length : Int) + 1 + 1))) (.v (.tuple [.int 2, .int 3])) = some (.v (.bool false)) := by rw [show ((rest.length : Int) + 1 + 1) = ((x :: e :: rest).length : Int) by simp]; exact h23
   by_cases hx : ∃ y, x = .str y
   ·obtain ⟨y, rfl⟩ := hx
    have hok : PyData.strOk y = true := hok
    have hc := cut1 (.str y) (e :: rest)
    have hr : (e :: rest).length ≤ 1000 := by rcases hl with h | h <;> rw [List.length_cons] at h <;> omega
    have e1 := eq_word y "drop" hok (by decide +kernel)
    have e2 := in_two y hok
    have g0 : getM (.v (wD ps ts)) (.v (.int 0)) = some (.v (tI ps)) := rfl
    have g1 : getM (.v (wD ps ts)) (.v (.int 1)) = some (.v (tD ts)) := rfl
    have ha := wh_all (e :: rest) hr [some (.v (wD ps ts)), some (.v (.tuple (.str y :: e :: rest)))] (by
     generalize wD ps ts = W
     simp [hc])
    have s1 : ld1 [some (.v (wD ps ts)), some (.v (.tuple (.str y :: e :: rest)))] = some (.nx [some (.v (wD ps ts)), some (.v (.tuple (.str y :: e :: rest)))]) := by
     generalize wD ps ts = W
     simp [subB, h23', at0, lim]
    by_cases hw : (e :: rest).all whB = true
    ·rw [hw] at ha
     refine (zam s1).trans ((zam (ld2_t ha)).trans ?_)
     rcases rest with _ | ⟨f, _ | ⟨g, rest⟩⟩
     ·obtain ⟨n, rfl⟩ : ∃ n, e = .int n := by cases e <;> simp [whB] at hw; exact ⟨_, rfl⟩
      have hi : inA false (.v (.int n)) (.v (tI ps)) = some (.v (.bool (decide (n ∈ ps)))) := zdQ false ps n
      have hd : dB ps ts (.tuple [.str y, .int n]) = (decide (y = "drop") && decide (n ∈ ps)) := rfl
      rw [hd]
      generalize wD ps ts = W at *
      generalize tI ps = P at *
      by_cases hy : y = "drop"
      ·rw [decide_eq_true hy] at e1 ⊢
       simp [at0, e1, g0, hi, atI, ixN]
      ·rw [decide_eq_false hy] at e1 ⊢
       simp [at0, e1, atI, ixN]
     ·obtain ⟨n, rfl⟩ : ∃ n, e = .int n := by cases e <;> simp [whB] at hw; exact ⟨_, rfl⟩
      obtain ⟨k, rfl⟩ : ∃ n, f = .int n := by cases f <;> simp [whB] at hw; exact ⟨_, rfl⟩
      have hi := in_tD false ts (n, k)
      have hi : inA false (.v (.tuple [.int n, .int k])) (.v (tD ts)) = some (.v (.bool (decide ((n, k) ∈ ts)))) := hi
      have hd : dB ps ts (.tuple [.str y, .int n, .int k]) = ((decide (y = "cut") || decide (y = "draw")) && decide ((n, k) ∈ ts)) := rfl
      rw [hd]
      generalize wD ps ts = W at *
      generalize tD ts = T at *
      by_cases h3 : (decide (y = "cut") || decide (y = "draw")) = true
      ·rw [h3] at e2 ⊢
       simp [at0, e2, g1, hi, hc, lim]
      ·have h3 : (decide (y = "cut") || decide (y = "draw")) = false := by simpa using h3
       rw [h3] at e2 ⊢
       simp [at0, e2, lim]
     ·exfalso; rcases hl with h | h <;> simp at h <;> omega
    ·have hw : (e :: rest).all whB = false := by simpa using hw
     rw [hw] at ha
     rw [dB_wh hw]
     exact (zam s1).trans (zcg (ld2_f ha))
   ·have hno : ∀ y, x ≠ .str y := fun y h => hx ⟨y, h⟩
    rw [dB_str hno]
    generalize wD ps ts = W at *
    refine zcg ?_
    cases x with
    | str y => exact absurd rfl (hno y)
    | _ => simp [subB, h23', at0, lim]
  ·have hn : (!(decide ((ds.length : Int) = 2) || decide ((ds.length : Int) = 3))) = true := by
    have h1 : ¬ (ds.length : Int) = 2 := by omega
    have h2 : ¬ (ds.length : Int) = 3 := by omega
    rw [decide_eq_false h1, decide_eq_false h2]; rfl
   rw [hn] at h23
   rw [dB_len hl]
   generalize wD ps ts = W at *
   refine zcg ?_
   simp [subB, hlen, h23, lim, -zif]
 | _ => simp [FF.zaA, FF.zbr, zao, subB, dB]
end PA
end
section
namespace PA
open PySem L2 VL
theorem comp_mapD {α : Type} {u v : α → PyData} {fe : FE} {cs : Ev} {f : α → PyData} : ∀ (ts : List α) (acc : List PyData) (x y : Option M), (∀ t ∈ ts, ∃ o, fe (some (.v (u t)) :: some (.v (v t)) :: cs) = some (o, some (.v (u t)) :: some (.v (v t)) :: cs) ∧ zdH o (some (.v (u t)) :: some (.v (v t)) :: cs) = some (f t, some (.v (u t)) :: some (.v (v t)) :: cs)) → acc.length + ts.length ≤ lim →
  ∃ x' y', zbP (zcC 2 (za0 (zaj 0) (za0 (zaj 1) zcW))) zb9 fe (ts.map fun t => .tuple [u t, v t]) (x :: y :: cs) acc = some (acc ++ ts.map f, x' :: y' :: cs)
 | [], acc, x, y, _, _ => ⟨x, y, by simp [zbP]⟩
 | t :: ts, acc, x, y, h, hl => by
  obtain ⟨o, e1, e2⟩ := h t lS
  rw [List.length_cons] at hl
  obtain ⟨x', y', e3⟩ := comp_mapD (u := u) (v := v) (fe := fe) (cs := cs) (f := f) ts (acc ++ [f t]) (some (.v (u t))) (some (.v (v t))) (fun d hd => h d (lO _ hd)) (by rw [List.length_append, List.length_singleton]; omega)
  refine ⟨x', y', ?_⟩
  have hg : zcC 2 (za0 (zaj 0) (za0 (zaj 1) zcW)) (.tuple [u t, v t]) (x :: y :: cs) = some (some (.v (u t)) :: some (.v (v t)) :: cs) := by simp
  show (zcC 2 (za0 (zaj 0) (za0 (zaj 1) zcW)) (.tuple [u t, v t]) (x :: y :: cs)).bind _ = _
  rw [hg]
  show (fe _).bind _ = _
  rw [e1]
  show (zdH o _).bind _ = _
  rw [e2]
  show (if acc.length < lim then _ else _) = _
  rw [if_pos (by omega)]
  refine Eq.trans e3 ?_
  rw [List.map_cons, List.append_assoc]
  rfl
def EW (ps : List Int) (ts : List (Int × Int)) : List WdT := ts.map (fun t => (("cut" : Str), enc t)) ++ ts.map (fun t => (("draw" : Str), enc t)) ++ ps.map (fun p => (("drop" : Str), [p]))
abbrev EE (ps : List Int) (ts : List (Int × Int)) : List PyData := (EW ps ts).map wI
theorem asWs_wI : ∀ ks : List WdT, znj (ks.map wI) = some ks
 | [] => rfl
 | k :: ks => by
  show (asW (wI k)).bind _ = _
  have h : asW (wI k) = some k := by
   show (ze3 (k.2.map .int)).bind _ = _
   rw [zcR]
   rfl
  rw [h, Option.bind_some, asWs_wI ks]
  rfl
theorem sortY_w {ks : List WdT} (hr : ks.Pairwise fun a b => wLt b a = false) (hl : ks.length ≤ 1000000) : zeB [.lst (ks.map wI)] = some (.lst (ks.map wI)) := by
 cases ks with
 | nil => rfl
 | cons k ks =>
  have h1 : zii [.lst ((k :: ks).map wI)] = none := by
   have h2 : ze7 [.lst ((k :: ks).map wI)] = none := by
    show (ze6 ((k :: ks).map wI)).bind _ = _
    unfold ze6
    split
    ·rfl
    ·rfl
   unfold zii
   rw [h2]
   rfl
  unfold zeB
  rw [h1]
  show (znj ((k :: ks).map wI)).bind _ = _
  rw [asWs_wI, Option.bind_some, if_pos]
  refine ⟨?_, by rw [List.length_map]; exact hl⟩
  unfold rising
  rw [List.all_eq_true]
  intro i hi
  have hi := List.mem_range.mp hi
  have h3 := List.pairwise_iff_getElem.mp hr i (i + 1) (by omega) (by omega) (by omega)
  rw [List.getD_eq_getElem?_getD, List.getD_eq_getElem?_getD, List.getElem?_eq_getElem (show i + 1 < (k :: ks).length by omega), List.getElem?_eq_getElem (show i < (k :: ks).length by omega)]
  show (!wLt (k :: ks)[i + 1] (k :: ks)[i]) = true
  rw [h3]
  rfl
theorem wLt_same (x : Str) (a b : List Int) : wLt (x, a) (x, b) = HT.lexLt a b := if_pos rfl
theorem EW_rise {ps : List Int} {ts : List (Int × Int)} (w : zcZ ps ts) : (EW ps ts).Pairwise fun a b => wLt b a = false := by
 have c1 : ∀ a b : List Int, wLt ("draw", a) ("cut", b) = false := fun a b => (if_neg (show ¬ ("draw" : Str) = "cut" by decide +kernel)).trans (show decide (("draw" : Str).cps.toList < ("cut" : Str).cps.toList) = false by decide +kernel)
 have c2 : ∀ a b : List Int, wLt ("drop", a) ("cut", b) = false := fun a b => (if_neg (show ¬ ("drop" : Str) = "cut" by decide +kernel)).trans (show decide (("drop" : Str).cps.toList < ("cut" : Str).cps.toList) = false by decide +kernel)
 have c3 : ∀ a b : List Int, wLt ("drop", a) ("draw", b) = false := fun a b => (if_neg (show ¬ ("drop" : Str) = "draw" by decide +kernel)).trans (show decide (("drop" : Str).cps.toList < ("draw" : Str).cps.toList) = false by decide +kernel)
 have one : ∀ x : Str, (ts.map fun t => ((x, enc t) : WdT)).Pairwise fun a b => wLt b a = false := fun x => by
  rw [List.pairwise_map]
  refine w.up.imp fun {a b} h => ?_
  rw [wLt_same, zfm]
  refine decide_eq_false fun z => ?_
  unfold ltP at h z
  omega
 unfold EW
 rw [List.pairwise_append, List.pairwise_append]
 refine ⟨⟨one _, one _, fun a ha b hb => ?_⟩, ?_, fun a ha b hb => ?_⟩
 ·obtain ⟨t, _, rfl⟩ := List.mem_map.mp ha
  obtain ⟨u, _, rfl⟩ := List.mem_map.mp hb
  exact c1 _ _
 ·rw [List.pairwise_map]
  refine w.rise.imp fun {a b} h => ?_
  rw [wLt_same, HT.za4, if_neg (by omega)]
  exact decide_eq_false (by omega)
 ·obtain ⟨p, _, rfl⟩ := List.mem_map.mp hb
  rcases lM ha with q | q
  ·obtain ⟨u, _, rfl⟩ := List.mem_map.mp q
   exact c2 _ _
  ·obtain ⟨u, _, rfl⟩ := List.mem_map.mp q
   exact c3 _ _
theorem EW_len {ps : List Int} {ts : List (Int × Int)} (w : zcZ ps ts) : (EW ps ts).length ≤ 144 := by
 unfold EW
 rw [List.length_append, List.length_append, List.length_map, List.length_map, List.length_map]
 have := w.few
 have := w.len
 omega
theorem EE_eq (ps : List Int) (ts : List (Int × Int)) : EE ps ts = ts.map (fun t => .tuple [.str "cut", .int t.1, .int t.2]) ++ ts.map (fun t => .tuple [.str "draw", .int t.1, .int t.2]) ++ ps.map (fun p => .tuple [.str "drop", .int p]) := by
 unfold EE EW
 rw [List.map_append, List.map_append, List.map_map, List.map_map, List.map_map]
 rfl
theorem deeds {ps : List Int} {ts : List (Int × Int)} (w : zcZ ps ts) : FF.zbH [.v (wD ps ts)] = some (.v (.tuple (EE ps ts)), [.v (wD ps ts)]) := by
 have hw := w.len
 have hf := w.few
 have cm : ∀ word : Str, ∃ x' y', zbP (zcC 2 (za0 (zaj 0) (za0 (zaj 1) zcW))) zb9 (zbF (zaa (vC (.str word)) (zaa (zah 0) (zae (zah 1))))) (ts.map pD) [none, none] [] = some (ts.map (fun t => .tuple [.str word, .int t.1, .int t.2]), [x', y']) := fun word => by
  obtain ⟨x', y', e⟩ := comp_mapD (u := fun t : Int × Int => .int t.1) (v := fun t => .int t.2) (fe := zbF (zaa (vC (.str word)) (zaa (zah 0) (zae (zah 1))))) (cs := []) (f := fun t => .tuple [.str word, .int t.1, .int t.2]) ts [] none none (fun t _ => ⟨.t (.v (.tuple [.str word, .int t.1, .int t.2])), by simp [lim], rfl⟩) (by rw [List.length_nil]; unfold lim; omega)
  exact ⟨x', y', by rw [List.nil_append] at e; exact e⟩
 obtain ⟨a1, b1, e1⟩ := cm "cut"
 obtain ⟨a2, b2, e2⟩ := cm "draw"
 obtain ⟨a3, e3⟩ := zbM (fe := zbF (zaa (vC (.str "drop")) (zae (zah 0)))) (cs := []) (f := fun d => .tuple [.str "drop", d]) (ps.map .int) [] none (fun d hd => ⟨.t (.v (.tuple [.str "drop", d])), by simp [lim], rfl⟩) (by rw [List.length_nil, List.length_map]; unfold lim; omega)
 rw [List.nil_append, List.map_map] at e3
 have es := sortY_w (EW_rise w) (by have := EW_len w; omega)
 have eq := EE_eq ps ts
 have hl1 : (ts.map (fun t => PyData.tuple [.str "cut", .int t.1, .int t.2])).length = ts.length := List.length_map _
 have hl2 : (ts.map (fun t => PyData.tuple [.str "draw", .int t.1, .int t.2])).length = ts.length := List.length_map _
 have hl3 : (ps.map ((fun d => PyData.tuple [.str "drop", d]) ∘ PyData.int)).length = ps.length := List.length_map _
 have eq : EE ps ts = ts.map (fun t => PyData.tuple [.str "cut", .int t.1, .int t.2]) ++ ts.map (fun t => PyData.tuple [.str "draw", .int t.1, .int t.2]) ++ ps.map ((fun d => PyData.tuple [.str "drop", d]) ∘ PyData.int) := eq
 have it1 : itD (tD ts) = some (ts.map pD) := rfl
 have it2 : itD (tI ps) = some (ps.map .int) := rfl
 have es : zeB [.lst (EE ps ts)] = some (.lst (EE ps ts)) := es
 rw [eq] at es ⊢
 refine zef (ρ := [some (.v (wD ps ts)), some (.v (tI ps)), some (.v (tD ts)), some (.lst (ts.map (fun t => PyData.tuple [.str "cut", .int t.1, .int t.2]) ++ ts.map (fun t => PyData.tuple [.str "draw", .int t.1, .int t.2]) ++ ps.map ((fun d => PyData.tuple [.str "drop", d]) ∘ PyData.int)))]) rfl ?_ rfl
 show FF.zdi [some (.v (wD ps ts)), none, none, none] = _
 refine (zam (ρ1 := [some (.v (wD ps ts)), some (.v (tI ps)), some (.v (tD ts)), none]) (by simp)).trans ?_
 generalize ts.map (fun t => PyData.tuple [.str "cut", .int t.1, .int t.2]) = C1 at *
 generalize ts.map (fun t => PyData.tuple [.str "draw", .int t.1, .int t.2]) = C2 at *
 generalize ps.map ((fun d => PyData.tuple [.str "drop", d]) ∘ PyData.int) = C3 at *
 generalize wD ps ts = W at *
 generalize tI ps = P at *
 generalize tD ts = T at *
 generalize ts.map pD = TL at *
 generalize ps.map PyData.int = PL at *
 have o1 : ∀ X, zfr 2 [] 2 (zcC 2 (za0 (zaj 0) (za0 (zaj 1) zcW))) zb9 (zbF (zaa (vC (.str "cut")) (zaa (zah 0) (zae (zah 1))))) [some (.v W), some (.v P), some (.v T), X] = some (.t (.lst C1), [some (.v W), some (.v P), some (.v T), X]) := fun X => by
  show vLC 2 [] (zbA (zah 2)) _ _ _ _ = _
  simp [it1, e1]
 have o2 : ∀ X, zfr 2 [] 2 (zcC 2 (za0 (zaj 0) (za0 (zaj 1) zcW))) zb9 (zbF (zaa (vC (.str "draw")) (zaa (zah 0) (zae (zah 1))))) [some (.v W), some (.v P), some (.v T), X] = some (.t (.lst C2), [some (.v W), some (.v P), some (.v T), X]) := fun X => by
  show vLC 2 [] (zbA (zah 2)) _ _ _ _ = _
  simp [it1, e2]
 have o3 : ∀ X, zfr 1 [] 1 (zaj 0) zb9 (zbF (zaa (vC (.str "drop")) (zae (zah 0)))) [some (.v W), some (.v P), some (.v T), X] = some (.t (.lst C3), [some (.v W), some (.v P), some (.v T), X]) := fun X => by
  show vLC 1 [] (zbA (zah 1)) _ _ _ _ = _
  simp [it2, e3]
 have k1 : C1.length + C2.length ≤ lim := by unfold lim; omega
 have k2 : (C1 ++ C2).length + C3.length ≤ lim := by rw [List.length_append]; unfold lim; omega
 have ad1 : zbO (.lst C1) (.lst C2) = some (.lst (C1 ++ C2)) := if_pos k1
 have ad2 : zbO (.lst (C1 ++ C2)) (.lst C3) = some (.lst (C1 ++ C2 ++ C3)) := if_pos k2
 refine (zam (ρ1 := [some (.v W), some (.v P), some (.v T), some (.lst (C1 ++ C2 ++ C3))]) ?_).trans ?_
 ·rw [zid, zi8, zi8, o1]
  simp only [Option.bind_some, o2]
  simp [ad1, ad2, o3, -List.append_assoc]
 ·generalize C1 ++ C2 ++ C3 = E at *
  simp [es]
end PA
end
section
namespace PA
open PySem L2 VL
def pre (x : Str) : PyData → PyData
 | .tuple ds => .tuple (.str x :: ds)
 | d => d
theorem law_all {ps : List Int} {ts : List (Int × Int)} (w : zcZ ps ts) : FF.zbm [.v (wD ps ts)] = some (.lst (EE ps ts), [.v (wD ps ts)]) := by
 have hw := w.len
 have hf := w.few
 have cm : ∀ word : Str, ∃ x', zbP (zaj 0) zb9 (vB zbO (zbF (zae (vC (.str word)))) (zah 0)) (ts.map pD) [none] [] = some (ts.map (fun t => .tuple [.str word, .int t.1, .int t.2]), [x']) := fun word => by
  obtain ⟨x', e⟩ := zbM (fe := vB zbO (zbF (zae (vC (.str word)))) (zah 0)) (cs := []) (f := pre word) (ts.map pD) [] none (fun d hd => by
   obtain ⟨t, _, rfl⟩ := List.mem_map.mp hd
   exact ⟨.t (.v (.tuple [.str word, .int t.1, .int t.2])), by simp [lim], rfl⟩) (by rw [List.length_nil, List.length_map]; unfold lim; omega)
  rw [List.nil_append, List.map_map] at e
  exact ⟨x', e⟩
 obtain ⟨a1, e1⟩ := cm "cut"
 obtain ⟨a2, e2⟩ := cm "draw"
 obtain ⟨a3, e3⟩ := zbM (fe := zbF (zaa (vC (.str "drop")) (zae (zah 0)))) (cs := []) (f := fun d => .tuple [.str "drop", d]) (ps.map .int) [] none (fun d hd => ⟨.t (.v (.tuple [.str "drop", d])), by simp [lim], rfl⟩) (by rw [List.length_nil, List.length_map]; unfold lim; omega)
 rw [List.nil_append, List.map_map] at e3
 have eq := EE_eq ps ts
 have hl1 : (ts.map (fun t => PyData.tuple [.str "cut", .int t.1, .int t.2])).length = ts.length := List.length_map _
 have hl2 : (ts.map (fun t => PyData.tuple [.str "draw", .int t.1, .int t.2])).length = ts.length := List.length_map _
 have hl3 : (ps.map ((fun d => PyData.tuple [.str "drop", d]) ∘ PyData.int)).length = ps.length := List.length_map _
 have eq : EE ps ts = ts.map (fun t => PyData.tuple [.str "cut", .int t.1, .int t.2]) ++ ts.map (fun t => PyData.tuple [.str "draw", .int t.1, .int t.2]) ++ ps.map ((fun d => PyData.tuple [.str "drop", d]) ∘ PyData.int) := eq
 have g0 : getM (.v (wD ps ts)) (.v (.int 0)) = some (.v (tI ps)) := rfl
 have g1 : getM (.v (wD ps ts)) (.v (.int 1)) = some (.v (tD ts)) := rfl
 have it1 : itD (tD ts) = some (ts.map pD) := rfl
 have it2 : itD (tI ps) = some (ps.map .int) := rfl
 rw [eq]
 refine zef (ρ := [some (.v (wD ps ts)), some (.lst (ts.map (fun t => PyData.tuple [.str "cut", .int t.1, .int t.2])))]) rfl ?_ rfl
 show FF.zcy [some (.v (wD ps ts)), none] = _
 generalize ts.map (fun t => PyData.tuple [.str "cut", .int t.1, .int t.2]) = C1 at *
 generalize ts.map (fun t => PyData.tuple [.str "draw", .int t.1, .int t.2]) = C2 at *
 generalize ps.map ((fun d => PyData.tuple [.str "drop", d]) ∘ PyData.int) = C3 at *
 generalize wD ps ts = W at *
 generalize tI ps = P at *
 generalize tD ts = T at *
 generalize ts.map pD = TL at *
 generalize ps.map PyData.int = PL at *
 have k1 : C1.length + C2.length ≤ lim := by unfold lim; omega
 have k2 : (C1 ++ C2).length + C3.length ≤ lim := by rw [List.length_append]; unfold lim; omega
 have ad1 : zbO (.lst C1) (.lst C2) = some (.lst (C1 ++ C2)) := if_pos k1
 have ad2 : zbO (.lst (C1 ++ C2)) (.lst C3) = some (.lst (C1 ++ C2 ++ C3)) := if_pos k2
 have o1 : ∀ X, vLC 1 [] (zbA (vIx (zah 0) (vC (.int 1)))) (zaj 0) zb9 (vB zbO (zbF (zae (vC (.str "cut")))) (zah 0)) [some (.v W), X] = some (.t (.lst C1), [some (.v W), X]) := fun X => by simp [g1, it1, e1]
 have o2 : ∀ X, vLC 1 [] (zbA (vIx (zah 0) (vC (.int 1)))) (zaj 0) zb9 (vB zbO (zbF (zae (vC (.str "draw")))) (zah 0)) [some (.v W), X] = some (.t (.lst C2), [some (.v W), X]) := fun X => by simp [g1, it1, e2]
 have o3 : ∀ X, vLC 1 [] (zbA (vIx (zah 0) (vC (.int 0)))) (zaj 0) zb9 (zbF (zaa (vC (.str "drop")) (zae (zah 0)))) [some (.v W), X] = some (.t (.lst C3), [some (.v W), X]) := fun X => by simp [g0, it2, e3]
 refine (zam (ρ1 := [some (.v W), some (.lst C1)]) ?_).trans ?_
 ·rw [zid, o1]
  simp
 ·rw [zkZ, zi8, zi8]
  simp [o2, o3, ad1, ad2, -List.append_assoc, -zjR]
theorem eq_self {d : PyData} (h : PyData.canLay0 d = true) (hd : PyData.depth d ≤ 60) (neg : Bool) : eqM neg (.v d) (.v d) = some (.v (.bool (!neg))) := by
 rw [zgs]
 simp only [znf, Option.bind_some]
 rw [if_pos (show ziT d d = true by unfold ziT; rw [h, decide_eq_true (show min (PyData.depth d) (PyData.depth d) ≤ 60 by omega)]; rfl), PySem.SeqAt.eqv_refl d h]
 cases neg <;> rfl
def atom : PyData → Bool
 | .int _ => true
 | .str x => PyData.strOk x
 | _ => false
theorem same_atom (n : Nat) {d : PyData} (h : atom d = true) : FF.zan (n + 1) [.v d, .v d] = some (.v (.bool true), [.v d, .v d]) := by
 have eb : ∀ b : Bool, eqM false (.v (.bool b)) (.v (.bool b)) = some (.v (.bool true)) := fun b => eq_self (d := .bool b) rfl (Nat.zero_le 60) false
 cases d with
 | int i =>
  have := eq_self (d := .int i) rfl (Nat.zero_le 60) false
  simp [FF.zan, zao, subB, eb, this]
 | str x =>
  have := eq_self (d := .str x) h (Nat.zero_le 60) false
  simp [FF.zan, zao, subB, eb, this]
 | _ => cases h
theorem zip_self (ds : List PyData) : zmO [.v (.tuple ds), .v (.tuple ds)] = some (ds.map fun d => .tuple [d, d]) := by
 show some (List.zipWith _ ds ds) = _
 congr 1
 induction ds with
 | nil => rfl
 | cons d ds ih => rw [List.zipWith_cons_cons, ih, List.map_cons]
theorem all_true (ds : List PyData) : allM false [.lst (ds.map fun _ => .bool true)] = some (.v (.bool true)) := by
 have h := zbu (ds.map fun _ => true)
 rw [List.map_map] at h
 show (zir _).bind _ = _
 rw [show zir (ds.map fun _ => PyData.bool true) = _ from h, Option.bind_some]
 congr 3
 show (ds.map fun _ => true).all id = true
 rw [List.all_map]
 exact List.all_eq_true.mpr fun _ _ => rfl
theorem same_tup (n : Nat) {ds : List PyData} (hl : ds.length ≤ 1000) (h : ∀ d ∈ ds, FF.zan n [.v d, .v d] = some (.v (.bool true), [.v d, .v d])) : FF.zan (n + 1) [.v (.tuple ds), .v (.tuple ds)] = some (.v (.bool true), [.v (.tuple ds), .v (.tuple ds)]) := by
 obtain ⟨x, y, e⟩ := comp_mapD (u := fun d : PyData => d) (v := fun d => d) (fe := vFn (FF.zan n) (zaa (zah 0) (zae (zah 1)))) (cs := []) (f := fun _ => .bool true) ds [] none none (fun d hd => ⟨.t (.v (.bool true)), by simp [h d hd], rfl⟩) (by rw [List.length_nil]; unfold lim; omega)
 rw [List.nil_append] at e
 have hz := zip_self ds
 have ha := all_true ds
 have he : eqM true (.v (.int (ds.length : Int))) (.v (.int (ds.length : Int))) = some (.v (.bool false)) := eq_self rfl (by show (0 : Nat) ≤ 60; omega) true
 generalize ds.map (fun d => PyData.tuple [d, d]) = Z at *
 generalize ds.map (fun _ => PyData.bool true) = B at *
 simp [FF.zan, zao, subB, he, hz, e, ha, -zih]
theorem EW_ok {ps : List Int} {ts : List (Int × Int)} : ∀ t ∈ EW ps ts, t.1 = "cut" ∨ t.1 = "draw" ∨ t.1 = "drop" := fun t ht => by
 unfold EW at ht
 rcases lM ht with q | q
 ·rcases lM q with q | q
  ·obtain ⟨u, _, rfl⟩ := List.mem_map.mp q; exact .inl rfl
  ·obtain ⟨u, _, rfl⟩ := List.mem_map.mp q; exact .inr (.inl rfl)
 ·obtain ⟨u, _, rfl⟩ := List.mem_map.mp q; exact .inr (.inr rfl)
theorem word_ok {x : Str} (h : x = "cut" ∨ x = "draw" ∨ x = "drop") : PyData.strOk x = true := by
 rcases h with rfl | rfl | rfl <;> decide +kernel
theorem EW_few {ps : List Int} {ts : List (Int × Int)} : ∀ t ∈ EW ps ts, t.2.length = 1 ∨ t.2.length = 2 := fun t ht => by
 unfold EW at ht
 rcases lM ht with q | q
 ·rcases lM q with q | q
  ·obtain ⟨u, _, rfl⟩ := List.mem_map.mp q; exact .inr rfl
  ·obtain ⟨u, _, rfl⟩ := List.mem_map.mp q; exact .inr rfl
 ·obtain ⟨u, _, rfl⟩ := List.mem_map.mp q; exact .inl rfl
theorem EW_rng {ps : List Int} {ts : List (Int × Int)} (w : zcZ ps ts) : ∀ t ∈ EW ps ts, ∀ n ∈ t.2, 0 ≤ n ∧ n ≤ 99 := fun t ht => by
 have two : ∀ u ∈ ts, ∀ n ∈ enc u, 0 ≤ n ∧ n ≤ 99 := fun u hu n hn => by
  simp only [enc, List.mem_cons, List.not_mem_nil, or_false] at hn
  rcases hn with rfl | rfl
  ·exact w.rng _ (w.ends u hu).1
  ·exact w.rng _ (w.ends u hu).2
 unfold EW at ht
 rcases lM ht with q | q
 ·rcases lM q with q | q
  ·obtain ⟨u, hu, rfl⟩ := List.mem_map.mp q; exact two u hu
  ·obtain ⟨u, hu, rfl⟩ := List.mem_map.mp q; exact two u hu
 ·obtain ⟨u, hu, rfl⟩ := List.mem_map.mp q
  intro n hn
  rw [List.mem_singleton.mp hn]
  exact w.rng u hu
theorem same_all {ps : List Int} {ts : List (Int × Int)} (w : zcZ ps ts) : FF.zan 4 [.v (.tuple (EE ps ts)), .v (.tuple (EE ps ts))] = some (.v (.bool true), [.v (.tuple (EE ps ts)), .v (.tuple (EE ps ts))]) := by
 refine same_tup 3 (by rw [List.length_map]; have := EW_len w; omega) fun d hd => ?_
 obtain ⟨t, ht, rfl⟩ := List.mem_map.mp hd
 have hf := EW_few t ht
 refine same_tup 2 (ds := .str t.1 :: t.2.map .int) (by rw [List.length_cons, List.length_map]; omega) fun d hd => ?_
 rcases lK hd with rfl | q
 ·exact same_atom 1 (word_ok (EW_ok t ht))
 ·obtain ⟨n, _, rfl⟩ := List.mem_map.mp q
  exact same_atom 1 rfl
theorem can_w {t : WdT} (h : PyData.strOk t.1 = true) : PyData.canLay0 (wI t) = true := by
 show (PyData.strOk t.1 && PyData.canLayAll0 (t.2.map .int)) = true
 rw [h, zep]
 rfl
theorem can_ws : ∀ {ks : List WdT}, (∀ t ∈ ks, PyData.strOk t.1 = true) → PyData.canLayAll0 (ks.map wI) = true
 | [], _ => rfl
 | k :: ks, h => by
  show (PyData.canLay0 (wI k) && PyData.canLayAll0 (ks.map wI)) = true
  rw [can_w (h k lS), can_ws fun t ht => h t (lO _ ht)]
  rfl
theorem dp_ints : ∀ ns : List Int, PyData.depthAll (ns.map .int) = 0
 | [] => rfl
 | n :: ns => by show max (PyData.depth (.int n)) (PyData.depthAll (ns.map .int)) = 0; rw [dp_ints ns]; rfl
theorem dp_w (t : WdT) : PyData.depth (wI t) = 1 := by
 show max (PyData.depth (.str t.1)) (PyData.depthAll (t.2.map .int)) + 1 = 1
 rw [dp_ints]
 rfl
theorem dp_ws : ∀ ks : List WdT, PyData.depthAll (ks.map wI) ≤ 1
 | [] => Nat.zero_le _
 | k :: ks => by
  show max (PyData.depth (wI k)) (PyData.depthAll (ks.map wI)) ≤ 1
  have := dp_ws ks
  have := dp_w k
  omega
theorem ne_self {ps : List Int} {ts : List (Int × Int)} : eqM true (.lst (EE ps ts)) (.lst (EE ps ts)) = some (.v (.bool false)) := by
 have h := eq_self (d := .list (EE ps ts)) (can_ws fun t ht => word_ok (EW_ok t ht)) (by show PyData.depthAll ((EW ps ts).map wI) + 1 ≤ 60; have := dp_ws (EW ps ts); omega) true
 rw [zgs] at h ⊢
 exact h
end PA
end
section
namespace PA
open PySem L2 VL
/-- what is to be known of a deed's tuple -/
structure Dd (ds rest : List PyData) (x : Str) (z : Int) : Prop where
 eq : ds = .str x :: rest
 ok : PyData.strOk x = true
 rs : ∃ n r, rest = .int n :: r
 ln : rest.length = 1 ∨ rest.length = 2
 hi1 : cutD ds (some 1) none = rest
 lo1 : cutD ds none (some 1) = [.str x]
 lom : ∃ r, r.length ≤ 2 ∧ cutD ds none (some (-1)) = .str x :: r
 lo : ∀ k : Nat, k < ds.length → cutD ds none (some (k : Int)) = ds.take k
 hi : ∀ k : Nat, k < ds.length → cutD ds (some ((k : Int) + 1)) none = ds.drop (k + 1)
 last : atI ds (-1) = some (.int z)
 st : ∃ s, zjS [.v (.tuple ds)] = some (.v (.str s))
 sz : ∃ s, zjS [.v (.int z)] = some (.v (.str s))
theorem neg1 : ziq (.v (.int 1)) = some (.v (.int (-1))) := rfl
theorem headOk_cons {x : Str} {r : List PyData} (h : PyData.strOk x = true) : headOk (.tuple (.str x :: r)) = true := h
theorem spoilt (g q c : Int) (hg : 0 ≤ g) (W : PyData) (hW : headOk W = true) {ds rest : List PyData} {x : Str} {z : Int} (D : Dd ds rest x z) : ∃ d g' q' c', 0 ≤ g' ∧ headOk d = true ∧ FF.zap [pot g q c, .v W, .v (.tuple ds)] = some (.v d, [pot g' q' c', .v W, .v (.tuple ds)]) := by
 have hlen : 2 ≤ ds.length ∧ ds.length ≤ 3 := by rw [D.eq, List.length_cons]; have := D.ln; omega
 obtain ⟨ch, g1, q1, c1, a1, b1, k1, e1⟩ := pick g q c 9 hg (by decide) (by decide)
 obtain ⟨at', g2, q2, c2, a2, b2, k2, e2⟩ := pick g1 q1 c1 (ds.length : Int) k1 (by omega) (by omega)
 obtain ⟨k, rfl⟩ := Int.eq_ofNat_of_zero_le a2
 have hk : k < ds.length := by omega
 obtain ⟨nb, g3, q3, c3, a3, b3, k3, e3⟩ := pick g2 q2 c2 102 k2 (by decide) (by decide)
 have fin0 : ∀ (d : PyData) (g' q' c' : Int) (x6 : Option M), headOk d = true → 0 ≤ g' → FF.zbZ [some (pot g q c), some (.v W), some (.v (.tuple ds)), none, none, none, none] = some (.rt (.v d) [some (pot g' q' c'), some (.v W), some (.v (.tuple ds)), some (.v (.int ch)), some (.v (.int (k : Int))), some (.v (.int (nb - 1))), x6]) →
   ∃ d g' q' c', 0 ≤ g' ∧ headOk d = true ∧ FF.zap [pot g q c, .v W, .v (.tuple ds)] = some (.v d, [pot g' q' c', .v W, .v (.tuple ds)]) := fun d g' q' c' x6 h1 h2 e => ⟨d, g', q', c', h2, h1, zef rfl e rfl⟩
 have s12 : ∀ {rest : FS} {o : Option Out}, rest [some (pot g3 q3 c3), some (.v W), some (.v (.tuple ds)), some (.v (.int ch)), some (.v (.int (k : Int))), some (.v (.int (nb - 1))), none] = o → zbg (zlc 3 4 (zaa (vFn FF.zag (zaa (zah 0) (zae (vC (.int 9))))) (zae (vFn FF.zag (zaa (zah 0) (zae (vCB zcU (zae (zah 2))))))))) (zbg (zcF 5 (vB zkA (vFn FF.zag (zaa (zah 0) (zae (vC (.int 102))))) (vC (.int 1)))) rest) [some (pot g q c), some (.v W), some (.v (.tuple ds)), none, none, none, none] = o := fun {rest o} h => by
  refine (zam (ρ1 := [some (pot g2 q2 c2), some (.v W), some (.v (.tuple ds)), some (.v (.int ch)), some (.v (.int (k : Int))), none, none]) (by simp [e1, e2])).trans ?_
  exact (zam (ρ1 := [some (pot g3 q3 c3), some (.v W), some (.v (.tuple ds)), some (.v (.int ch)), some (.v (.int (k : Int))), some (.v (.int (nb - 1))), none]) (by simp [e3])).trans h
 have hlo := D.lo k hk
 have hhi := D.hi k hk
 have l1 : (ds.take k).length ≤ 3 := by rw [List.length_take]; omega
 have l2 : (ds.drop (k + 1)).length ≤ 3 := by rw [List.length_drop]; omega
 have rl : rest.length ≤ 2 := by have := D.ln; omega
 have addT : ∀ {a b : List PyData}, a.length + b.length ≤ 1000000 → zbO (.v (.tuple a)) (.v (.tuple b)) = some (.v (.tuple (a ++ b))) := fun {a b} h => if_pos h
 have hch : ch = 0 ∨ ch = 1 ∨ ch = 2 ∨ ch = 3 ∨ ch = 4 ∨ ch = 5 ∨ ch = 6 ∨ ch = 7 ∨ ch = 8 := by omega
 have hd0 : ∀ r : List PyData, headOk (.tuple (ds.take k ++ ([.int ((nb - 1) * (if 0 < k then 1 else 0))] ++ r))) = true := fun r => by
  rw [D.eq]
  cases k with
  | zero => rfl
  | succ k => exact D.ok
 have hd3 : headOk (.tuple (ds.take k ++ ds.drop (k + 1))) = true := by
  rw [D.eq]
  cases k with
  | zero =>
   obtain ⟨n, r, e⟩ := D.rs
   show headOk (.tuple rest) = true
   rw [e]; rfl
  | succ k => exact D.ok
 have k0 := k3
 rcases hch with rfl | rfl | rfl | rfl | rfl | rfl | rfl | rfl | rfl
 ·refine fin0 _ g3 q3 c3 none (hd0 (ds.drop (k + 1))) k0 (s12 ?_)
  have hb : -18446744073709551616 < (if 0 < k then (1 : Int) else 0) ∧ (if 0 < k then (1 : Int) else 0) < 18446744073709551616 := by split <;> omega
  have m1 : mulM (.v (.int (nb - 1))) (.v (.int (if 0 < k then 1 else 0))) = some (.v (.int ((nb - 1) * (if 0 < k then 1 else 0)))) := by rw [mul_eq, if_pos (decide_eq_true (.inr ⟨by have := hb.1; omega, by have := hb.2; omega⟩))]
  have ad1 := addT (a := ds.take k) (b := [.int ((nb - 1) * (if 0 < k then 1 else 0))]) (by rw [List.length_singleton]; omega)
  have ad2 := addT (a := ds.take k ++ [.int ((nb - 1) * (if 0 < k then 1 else 0))]) (b := ds.drop (k + 1)) (by rw [List.length_append, List.length_singleton]; omega)
  rw [List.append_assoc] at ad2
  generalize hbb : (if 0 < k then (1 : Int) else 0) = bb at *
  generalize ds.take k = TK at *
  generalize ds.drop (k + 1) = DK at *
  refine zcg ?_
  simp only [List.singleton_append] at ad2 ⊢
  simp [hlo, hhi, hbb, m1, ad1, ad2, lim, -mul_eq, -zcE]
 ·refine fin0 (.tuple ([.str x] ++ rest.reverse)) g3 q3 c3 none (headOk_cons D.ok) k0 (s12 ?_)
  have ad := addT (a := [.str x]) (b := rest.reverse) (by rw [List.length_reverse, List.length_singleton]; omega)
  have rv : zmZ (.v (.tuple rest)) (.v (.int (-1))) = some (.v (.tuple rest.reverse)) := by simp [zmZ]
  have h1 := D.hi1
  have h2 := D.lo1
  refine (zam (ρ1 := _) (by simp; rfl)).trans ?_
  refine zcg ?_
  simp [h1, h2, rv, neg1, ad, -zcE]
 ·obtain ⟨r, g4, q4, c4, a4, b4, k4, e4⟩ := pick g3 q3 c3 8 k3 (by decide) (by decide)
  obtain ⟨wd, hwd, ew⟩ := zbI (xs := [PyData.str "cut", .str "draw", .str "drop", .str "Cut", .str "cuts", .str "", .str "done", .str "tie"]) a4 b4
  have hok : headOk (.tuple (wd :: rest)) = true := by
   simp only [List.mem_cons, List.not_mem_nil, or_false] at hwd
   rcases hwd with rfl | rfl | rfl | rfl | rfl | rfl | rfl | rfl <;> exact (show PyData.strOk _ = true by decide +kernel)
  refine fin0 (.tuple ([wd] ++ rest)) g4 q4 c4 none hok k4 (s12 ?_)
  have ad := addT (a := [wd]) (b := rest) (by rw [List.length_singleton]; omega)
  have h1 := D.hi1
  refine (zam (ρ1 := _) (by simp; rfl)).trans ?_
  refine (zam (ρ1 := _) (by simp; rfl)).trans ?_
  refine zcg ?_
  simp [e4, ew, h1, ad, lim, -zcE]
 ·refine fin0 (.tuple (ds.take k ++ ds.drop (k + 1))) g3 q3 c3 none hd3 k0 (s12 ?_)
  have ad := addT (a := ds.take k) (b := ds.drop (k + 1)) (by omega)
  generalize ds.take k = TK at *
  generalize ds.drop (k + 1) = DK at *
  refine (zam (ρ1 := _) (by simp; rfl)).trans ?_
  refine (zam (ρ1 := _) (by simp; rfl)).trans ?_
  refine (zam (ρ1 := _) (by simp; rfl)).trans ?_
  refine zcg ?_
  simp [hlo, hhi, ad, -zcE]
 ·refine fin0 (.tuple (ds ++ [.int (nb - 1)])) g3 q3 c3 none (by rw [D.eq]; exact D.ok) k0 (s12 ?_)
  have ad := addT (a := ds) (b := [.int (nb - 1)]) (by rw [List.length_singleton]; omega)
  refine (zam (ρ1 := _) (by simp; rfl)).trans ?_
  refine (zam (ρ1 := _) (by simp; rfl)).trans ?_
  refine (zam (ρ1 := _) (by simp; rfl)).trans ?_
  refine (zam (ρ1 := _) (by simp; rfl)).trans ?_
  refine zcg ?_
  simp [ad, lim, -zcE]
 ·obtain ⟨r, g4, q4, c4, a4, b4, k4, e4⟩ := pick g3 q3 c3 5 k3 (by decide) (by decide)
  obtain ⟨st, hst⟩ := D.st
  obtain ⟨d, hd, ed⟩ := zbI (xs := [PyData.list ds, .tuple [.tuple ds], .tuple rest, .str st, .tuple [.str x, .tuple rest]]) a4 b4
  have hok : headOk d = true := by
   simp only [List.mem_cons, List.not_mem_nil, or_false] at hd
   rcases hd with rfl | rfl | rfl | rfl | rfl
   ·rfl
   ·rfl
   ·obtain ⟨n, r, e⟩ := D.rs
    rw [e]; rfl
   ·rfl
   ·exact D.ok
  refine fin0 d g4 q4 c4 none hok k4 (s12 ?_)
  have h1 := D.hi1
  have h2 := D.lo1
  have ad := addT (a := [.str x]) (b := [.tuple rest]) (by simp)
  have hls : zf6 [.v (.tuple ds)] = some (.lst ds) := rfl
  refine (zam (ρ1 := _) (by simp; rfl)).trans ?_
  refine (zam (ρ1 := _) (by simp; rfl)).trans ?_
  refine (zam (ρ1 := _) (by simp; rfl)).trans ?_
  refine (zam (ρ1 := _) (by simp; rfl)).trans ?_
  refine (zam (ρ1 := _) (by simp; rfl)).trans ?_
  refine zcg ?_
  simp [hls, h1, h2, hst, ad, e4, ed, lim, -zcE]
 ·obtain ⟨r, g4, q4, c4, a4, b4, k4, e4⟩ := pick g3 q3 c3 8 k3 (by decide) (by decide)
  obtain ⟨sz, hsz⟩ := D.sz
  obtain ⟨r', hr', hlm⟩ := D.lom
  have hla := D.last
  have negz : ziq (.v (.int z)) = some (.v (.int (-z))) := rfl
  obtain ⟨d, hd, ed⟩ := zbI (xs := [PyData.bool true, .bool false, .none, .str "0", .list [.int 0], .tuple [.int 0], .str sz, .int (-z - 1)]) a4 b4
  refine fin0 (.tuple (.str x :: r' ++ [d])) g4 q4 c4 (some (.lst [PyData.bool true, .bool false, .none, .str "0", .list [.int 0], .tuple [.int 0], .str sz, .int (-z - 1)])) (headOk_cons D.ok) k4 (s12 ?_)
  have ad := addT (a := .str x :: r') (b := [d]) (by rw [List.length_cons, List.length_singleton]; omega)
  refine (zam (ρ1 := _) (by simp; rfl)).trans ?_
  refine (zam (ρ1 := _) (by simp; rfl)).trans ?_
  refine (zam (ρ1 := _) (by simp; rfl)).trans ?_
  refine (zam (ρ1 := _) (by simp; rfl)).trans ?_
  refine (zam (ρ1 := _) (by simp; rfl)).trans ?_
  refine (zam (ρ1 := _) (by simp; rfl)).trans ?_
  refine zcg ?_
  simp [hla, neg1, negz, hsz, hlm, e4, ed, ad, lim, -zcE]
 ·obtain ⟨r, g4, q4, c4, a4, b4, k4, e4⟩ := pick g3 q3 c3 2 k3 (by decide) (by decide)
  obtain ⟨r2, g5, q5, c5, a5, b5, k5, e5⟩ := pick g4 q4 c4 100 k4 (by decide) (by decide)
  obtain ⟨r3, g6, q6, c6, a6, b6, k6, e6⟩ := pick g5 q5 c5 100 k5 (by decide) (by decide)
  obtain ⟨wd, hwd, ew⟩ := zbI (xs := [PyData.str "cut", .str "draw"]) a4 b4
  have hok : headOk (.tuple [wd, .int r2, .int r3]) = true := by
   simp only [List.mem_cons, List.not_mem_nil, or_false] at hwd
   rcases hwd with rfl | rfl <;> exact (show PyData.strOk _ = true by decide +kernel)
  refine fin0 (.tuple [wd, .int r2, .int r3]) g6 q6 c6 none hok k6 (s12 ?_)
  refine (zam (ρ1 := _) (by simp; rfl)).trans ?_
  refine (zam (ρ1 := _) (by simp; rfl)).trans ?_
  refine (zam (ρ1 := _) (by simp; rfl)).trans ?_
  refine (zam (ρ1 := _) (by simp; rfl)).trans ?_
  refine (zam (ρ1 := _) (by simp; rfl)).trans ?_
  refine (zam (ρ1 := _) (by simp; rfl)).trans ?_
  refine (zam (ρ1 := _) (by simp; rfl)).trans ?_
  refine zcg ?_
  simp [e4, ew, e5, e6, lim]
 ·generalize hL : [PyData.none, .bool true, .int 0, .str "", .str "cut", .tuple [], .list [], .dict [], .tuple [.str "cut"], .tuple [.str "drop"], .tuple [.int 0, .int 1], .tuple [.str "drop", .tuple []], .tuple [.tuple [.str "cut", .int 0, .int 1]], W] = L
  have hLl : L.length = 14 := by rw [← hL]; rfl
  obtain ⟨r, g4, q4, c4, a4, b4, k4, e4⟩ := pick g3 q3 c3 14 k3 (by decide) (by decide)
  obtain ⟨d, hd, ed⟩ := zbI (xs := L) a4 (by rw [hLl]; exact b4)
  have hok : headOk d = true := by
   rw [← hL] at hd
   simp only [List.mem_cons, List.not_mem_nil, or_false] at hd
   rcases hd with rfl | rfl | rfl | rfl | rfl | rfl | rfl | rfl | rfl | rfl | rfl | rfl | rfl | rfl
   case inr.inr.inr.inr.inr.inr.inr.inr.inr.inr.inr.inr.inr => exact hW
   all_goals first | rfl | exact (show PyData.strOk _ = true by decide +kernel)
  refine fin0 d g4 q4 c4 (some (.lst L)) hok k4 (s12 ?_)
  refine (zam (ρ1 := _) (by simp; rfl)).trans ?_
  refine (zam (ρ1 := _) (by simp; rfl)).trans ?_
  refine (zam (ρ1 := _) (by simp; rfl)).trans ?_
  refine (zam (ρ1 := _) (by simp; rfl)).trans ?_
  refine (zam (ρ1 := _) (by simp; rfl)).trans ?_
  refine (zam (ρ1 := _) (by simp; rfl)).trans ?_
  refine (zam (ρ1 := _) (by simp; rfl)).trans ?_
  refine (zam (ρ1 := _) (by simp; rfl)).trans ?_
  refine (zam (ρ1 := [some (pot g3 q3 c3), some (.v W), some (.v (.tuple ds)), some (.v (.int 8)), some (.v (.int (k : Int))), some (.v (.int (nb - 1))), some (.lst L)]) (by rw [← hL]; simp [lim, keyP]; rfl)).trans ?_
  simp [hLl, e4, ed]
end PA
end
section
namespace PA
open PySem L2 VL
theorem cut_lo' (ds : List PyData) (k : Nat) (h : k ≤ ds.length) : cutD ds none (some (k : Int)) = ds.take k := by
 unfold cutD
 rw [HT.zej, HT.zfx, List.drop_zero, Nat.min_eq_left h, Nat.sub_zero]
theorem cut_hi' (ds : List PyData) (k : Nat) (h : k ≤ ds.length) : cutD ds (some (k : Int)) none = ds.drop k := by
 unfold cutD
 rw [HT.zej, HT.zfx, Nat.min_eq_left h, List.take_of_length_le]
 rw [List.length_drop]; omega
theorem log_sm {n : Int} (h : 0 ≤ n ∧ n ≤ 99) : n.natAbs.log2 < 7 := by
 by_cases h0 : n.natAbs = 0
 ·rw [h0]; decide
 ·exact (Nat.log2_lt h0).mpr (by omega)
theorem wt_sm {n : Int} (h : 0 ≤ n ∧ n ≤ 99) : PyData.weight (.int n) ≤ 7 := by
 unfold PyData.weight
 have := log_sm h
 split <;> omega
theorem wts_sm : ∀ (ns : List Int), (∀ n ∈ ns, 0 ≤ n ∧ n ≤ 99) → PyData.weightAll (ns.map .int) ≤ 8 * ns.length
 | [], _ => Nat.le_refl _
 | n :: ns, h => by
  show PyData.weight (.int n) + 1 + PyData.weightAll (ns.map .int) ≤ _
  have h1 := wt_sm (h n lS)
  have h2 := wts_sm ns fun m hm => h m (lO _ hm)
  rw [List.length_cons]
  omega
theorem show_sm : ∀ (ns : List Int), (∀ n ∈ ns, 0 ≤ n ∧ n ≤ 99) → PyData.showableAll (ns.map .int) = true
 | [], _ => rfl
 | n :: ns, h => by
  show (PyData.showable (.int n) && PyData.showableAll (ns.map .int)) = true
  rw [show_sm ns fun m hm => h m (lO _ hm), Bool.and_true]
  have := log_sm (h n lS)
  exact decide_eq_true (by omega)
theorem wt_word {x : Str} (h : x = "cut" ∨ x = "draw" ∨ x = "drop") : PyData.weight (.str x) ≤ 1000 := by
 rcases h with rfl | rfl | rfl <;> decide +kernel
theorem ok_deed {x : Str} {ns : List Int} (hx : x = "cut" ∨ x = "draw" ∨ x = "drop") (hl : ns.length ≤ 2) (hr : ∀ n ∈ ns, 0 ≤ n ∧ n ≤ 99) : zgt (wI (x, ns)) = true := by
 have hc : PyData.canLay0 (wI (x, ns)) = true := can_w (word_ok hx)
 have hs : PyData.showable (wI (x, ns)) = true := by
  show (true && PyData.showableAll (ns.map .int)) = true
  rw [show_sm ns hr]; rfl
 have hd : PyData.depth (wI (x, ns)) = 1 := dp_w _
 have hw : PyData.weight (wI (x, ns)) ≤ 2 ^ 20 := by
  show PyData.weight (.str x) + 1 + PyData.weightAll (ns.map .int) ≤ 2 ^ 20
  have := wts_sm ns hr
  have := wt_word hx
  have : (2 : Nat) ^ 20 = 1048576 := rfl
  omega
 have hi : PyData.intsShort 13 (wI (x, ns)) = true := by
  show (true && PyData.intsShortAll 13 (ns.map .int)) = true
  rw [PyData.intsShortAll_ints ns fun n hn => by have := hr n hn; omega]
  rfl
 have hz := PyData.shown_fits_of_layable0 (B := 13) (by decide) (by decide) (d := wI (x, ns)) (by
  unfold PyData.layable0
  rw [hc, decide_eq_true (show PyData.depth (wI (x, ns)) ≤ 64 by omega), decide_eq_true hw]; rfl) hi
 unfold zgt
 rw [hc, hs, decide_eq_true (show PyData.depth (wI (x, ns)) ≤ 50 by omega), decide_eq_true hz]
 rfl
theorem dd {x : Str} {ns : List Int} (hx : x = "cut" ∨ x = "draw" ∨ x = "drop") (hl : ns.length = 1 ∨ ns.length = 2) (hr : ∀ n ∈ ns, 0 ≤ n ∧ n ≤ 99) : ∃ z, Dd (.str x :: ns.map .int) (ns.map .int) x z := by
 have ok := ok_deed (ns := ns) hx (by omega) hr
 have st : ∃ s, zjS [.v (.tuple (.str x :: ns.map .int))] = some (.v (.str s)) := ⟨_, if_pos ok⟩
 have sz : ∀ z, 0 ≤ z ∧ z ≤ 99 → ∃ s, zjS [.v (.int z)] = some (.v (.str s)) := fun z h => ⟨_, if_pos (by have := log_sm h; omega)⟩
 have lo : ∀ (ds : List PyData) (k : Nat), k < ds.length → cutD ds none (some (k : Int)) = ds.take k := fun ds k h => cut_lo' ds k (by omega)
 have hi : ∀ (ds : List PyData) (k : Nat), k < ds.length → cutD ds (some ((k : Int) + 1)) none = ds.drop (k + 1) := fun ds k h => cut_hi' ds (k + 1) (by omega)
 have lo1 : ∀ r : List PyData, cutD (.str x :: r) none (some 1) = [.str x] := fun r => by
  have := cut_lo' (.str x :: r) 1 (by simp)
  exact this
 rcases ns with _ | ⟨a, _ | ⟨b, _ | ⟨c, ns⟩⟩⟩
 ·simp at hl
 ·exact ⟨a, rfl, word_ok hx, ⟨a, [], rfl⟩, .inl rfl, cut1 _ _, lo1 _, ⟨[], by simp, rfl⟩, lo _, hi _, rfl, st, sz a (hr a (by simp))⟩
 ·exact ⟨b, rfl, word_ok hx, ⟨a, _, rfl⟩, .inr rfl, cut1 _ _, lo1 _, ⟨[.int a], by simp, rfl⟩, lo _, hi _, rfl, st, sz b (hr b (by simp))⟩
 ·simp at hl
end PA
end
section
namespace PA
open PySem L2 VL
abbrev spE : FE := vFn FF.zap (zaa (zah 1) (zaa (zah 2) (zae (zbF (zaa (vC (.str "cut")) (zaa (vC (.int 0)) (zae (vC (.int 1)))))))))
theorem rngL (n : Nat) : (za7 0 (n : Int)).length = n := by rw [zcj, List.length_map, List.length_range]
theorem things1 (g q c : Int) (hg : 0 ≤ g) (W : PyData) (hW : headOk W = true) : ∃ acc x0 g' q' c', 0 ≤ g' ∧ acc.length ≤ 6 ∧ (∀ e ∈ acc, headOk e = true) ∧ zbP (zaj 0) zb9 spE (za7 0 6) [none, some (pot g q c), some (.v W)] [] = some (acc, [x0, some (pot g' q' c'), some (.v W)]) := by
 obtain ⟨z, D⟩ := dd (x := "cut") (ns := [0, 1]) (.inl rfl) (.inr rfl) (fun n hn => by simp only [List.mem_cons, List.not_mem_nil, or_false] at hn; omega)
 obtain ⟨acc, ρ', e, x0, g', q', c', h1, h2, h3, rfl⟩ := zez (fg := zaj 0) (ft := zb9) (fe := spE) (P := fun ds acc ρ => ∃ x0 g q c, 0 ≤ g ∧ acc.length + ds.length ≤ 6 ∧ (∀ e ∈ acc, headOk e = true) ∧ ρ = [x0, some (pot g q c), some (.v W)]) (za7 0 6) [none, some (pot g q c), some (.v W)] [] ⟨none, g, q, c, hg, by rw [show za7 0 6 = za7 0 ((6 : Nat) : Int) from rfl, rngL]; simp, fun e he => by simp at he, rfl⟩ (fun d ds acc ρ hP => by
  obtain ⟨x0, g, q, c, hg, hl, ha, rfl⟩ := hP
  rw [List.length_cons] at hl
  obtain ⟨r, g', q', c', hg', hr, er⟩ := spoilt g q c hg W hW D
  have er : FF.zap [pot g q c, .v W, .v (.tuple [.str "cut", .int 0, .int 1])] = some (.v r, [pot g' q' c', .v W, .v (.tuple [.str "cut", .int 0, .int 1])]) := er
  refine ⟨by unfold lim; omega, [some (.v d), some (pot g q c), some (.v W)], true, _, by simp, rfl, .inr ⟨rfl, .t (.v r), [some (.v d), some (pot g' q' c'), some (.v W)], r, _, by simp [er, lim], rfl, some (.v d), g', q', c', hg', by rw [List.length_append, List.length_singleton]; omega, fun e he => ?_, rfl⟩⟩
  rcases lM he with m | m
  ·exact ha e m
  ·rw [List.mem_singleton.mp m]; exact hr)
 exact ⟨acc, x0, g', q', c', h1, by simpa using h2, h3, e⟩
abbrev mrB : FS := zex (zis 5 (zae (vFn FF.zap (zaa (zah 2) (zaa (zah 3) (zae (vIx (zah 4) (vFn FF.zag (zaa (zah 2) (zae (vCB zcU (zae (zah 4)))))))))))))
theorem more (g q c : Int) (hg : 0 ≤ g) (W : PyData) (hW : headOk W = true) {ps : List Int} {ts : List (Int × Int)} (w : zcZ ps ts) (n : Nat) (hn : n = 0 ∨ n = 24 ∧ EE ps ts ≠ []) (S K x6 x7 x8 x9 : Option M) (acc : List PyData) (hl : acc.length ≤ 6) (ha : ∀ e ∈ acc, headOk e = true) :
  ∃ acc' g' q' c' y6, 0 ≤ g' ∧ acc'.length ≤ 30 ∧ (∀ e ∈ acc', headOk e = true) ∧ zgW (zaj 6) mrB (za7 0 (n : Int)) [S, K, some (pot g q c), some (.v W), some (.lst (EE ps ts)), some (.lst acc), x6, x7, x8, x9] = some (.nx [S, K, some (pot g' q' c'), some (.v W), some (.lst (EE ps ts)), some (.lst acc'), y6, x7, x8, x9]) := by
 have hlen : (EE ps ts).length ≤ 144 := by rw [List.length_map]; exact EW_len w
 obtain ⟨ρ', e, acc', g', q', c', y6, h1, h2, h3, rfl⟩ := zc8 (fg := zaj 6) (fb := mrB) (P := fun ds ρ => ∃ acc g q c y6, 0 ≤ g ∧ (acc.length + ds.length ≤ 30 ∧ (ds ≠ [] → EE ps ts ≠ [])) ∧ (∀ e ∈ acc, headOk e = true) ∧ ρ = [S, K, some (pot g q c), some (.v W), some (.lst (EE ps ts)), some (.lst acc), y6, x7, x8, x9]) (za7 0 (n : Int)) [S, K, some (pot g q c), some (.v W), some (.lst (EE ps ts)), some (.lst acc), x6, x7, x8, x9] ⟨acc, g, q, c, x6, hg, ⟨by rw [rngL]; omega, fun h => by
   rcases hn with rfl | h'
   ·exact absurd rfl h
   ·exact h'.2⟩, ha, rfl⟩ (fun d ds ρ hP => by
  obtain ⟨acc, g, q, c, y6, hg, ⟨hl, hne⟩, ha, rfl⟩ := hP
  rw [List.length_cons] at hl
  have hne := hne (by simp)
  have hpos : 0 < (EE ps ts).length := List.length_pos_iff.mpr hne
  obtain ⟨r, g1, q1, c1, a1, b1, k1, e1⟩ := pick g q c ((EE ps ts).length : Int) hg (by omega) (by omega)
  obtain ⟨dd0, hdd, ed⟩ := zbI (xs := EE ps ts) a1 b1
  obtain ⟨t, ht, rfl⟩ := List.mem_map.mp hdd
  obtain ⟨z, D⟩ := dd (EW_ok t ht) (EW_few t ht) (EW_rng w t ht)
  obtain ⟨r2, g2, q2, c2, k2, hr2, e2⟩ := spoilt g1 q1 c1 k1 W hW D
  have e2 : FF.zap [pot g1 q1 c1, .v W, .v (wI t)] = some (.v r2, [pot g2 q2 c2, .v W, .v (wI t)]) := e2
  have hac : acc.length < 1000000 := by omega
  refine ⟨[S, K, some (pot g q c), some (.v W), some (.lst (EE ps ts)), some (.lst acc), some (.v d), x7, x8, x9], [S, K, some (pot g2 q2 c2), some (.v W), some (.lst (EE ps ts)), some (.lst (acc ++ [r2])), some (.v d), x7, x8, x9], by simp, ?_, acc ++ [r2], g2, q2, c2, some (.v d), k2, ⟨by rw [List.length_append, List.length_singleton]; omega, fun _ => hne⟩, fun e he => ?_, rfl⟩
  ·have hln : zcU [.lst (EE ps ts)] = some (.v (.int ((EE ps ts).length : Int))) := zig
   generalize hnn : ((EE ps ts).length : Int) = nn at *
   generalize EE ps ts = E at *
   generalize wI t = DT at *
   simp [mrB, hln, e1, ed, e2, hac, lim, -zig]
  ·rcases lM he with m | m
   ·exact ha e m
   ·rw [List.mem_singleton.mp m]; exact hr2)
 exact ⟨acc', g', q', c', y6, h1, by simpa using h2.1, h3, e⟩
abbrev tstB : FS := zbg (zcF 9 (vFn FF.zar (zaa (zah 3) (zae (zah 8)))))
 (zcu (vOr (zd8 (zea (vU (zdv "bool") (zah 9)))) (zbW (vB (eqM true) (zah 9) (vFn FF.zaA (zaa (zah 3) (zae (zah 8))))))) (zbJ (vC (.bool false))) za9)
theorem tests {ps : List Int} {ts : List (Int × Int)} (w : zcZ ps ts) (S K P E T x6 x7 x8 x9 : Option M) (ds : List PyData) (h : ∀ d ∈ ds, headOk d = true) : ∃ y8 y9, zgW (zaj 8) tstB ds [S, K, P, some (.v (wD ps ts)), E, T, x6, x7, x8, x9] = some (.nx [S, K, P, some (.v (wD ps ts)), E, T, x6, x7, y8, y9]) := by
 obtain ⟨ρ', e, _, y8, y9, rfl⟩ := zc8 (fg := zaj 8) (fb := tstB) (P := fun ds ρ => (∀ d ∈ ds, headOk d = true) ∧ ∃ y8 y9, ρ = [S, K, P, some (.v (wD ps ts)), E, T, x6, x7, y8, y9]) ds [S, K, P, some (.v (wD ps ts)), E, T, x6, x7, x8, x9] ⟨h, x8, x9, rfl⟩ (fun d ds ρ hP => by
  obtain ⟨hd, y8, y9, rfl⟩ := hP
  have e1 := is_deed w d (hd d lS)
  have e2 := law_is_deed w d (hd d lS)
  have e3 : eqM true (.v (.bool (dB ps ts d))) (.v (.bool (dB ps ts d))) = some (.v (.bool false)) := eq_self (d := .bool (dB ps ts d)) rfl (Nat.zero_le 60) true
  refine ⟨[S, K, P, some (.v (wD ps ts)), E, T, x6, x7, some (.v d), y9], [S, K, P, some (.v (wD ps ts)), E, T, x6, x7, some (.v d), some (.v (.bool (dB ps ts d)))], by simp, ?_, fun d' h' => hd d' (lO _ h'), _, _, rfl⟩
  generalize dB ps ts d = b at *
  generalize wD ps ts = W at *
  simp [tstB, e1, e2, e3, subB])
 exact ⟨y8, y9, e⟩
abbrev agB : FS := zbg (zcu (vOr (zd8 (zea (vFn (FF.zan 4) (zaa (vFn FF.zbH (zae (zah 3))) (zae (vCB zhR (zae (zah 4)))))))) (zbW (vB (eqM true) (vCB zf6 (zae (zah 4))) (vCB zeB (zae (zah 4)))))) (zbJ (vC (.bool false))) za9)
 (zgl (zbA (vB zbO (zah 4) (zah 5))) (zaj 8) tstB)
theorem again {ps : List Int} {ts : List (Int × Int)} (w : zcZ ps ts) (S K P x6 x7 x8 x9 : Option M) (acc : List PyData) (hl : acc.length ≤ 30) (ha : ∀ e ∈ acc, headOk e = true) : ∃ y8 y9, agB [S, K, P, some (.v (wD ps ts)), some (.lst (EE ps ts)), some (.lst acc), x6, x7, x8, x9] = some (.nx [S, K, P, some (.v (wD ps ts)), some (.lst (EE ps ts)), some (.lst acc), x6, x7, y8, y9]) := by
 have hlen : (EE ps ts).length ≤ 144 := by rw [List.length_map]; exact EW_len w
 have hE : ∀ e ∈ EE ps ts, headOk e = true := fun e he => by
  obtain ⟨t, ht, rfl⟩ := List.mem_map.mp he
  exact word_ok (EW_ok t ht)
 obtain ⟨y8, y9, e⟩ := tests w S K P (some (.lst (EE ps ts))) (some (.lst acc)) x6 x7 x8 x9 (EE ps ts ++ acc) (fun d hd => (lM hd).elim (hE d) (ha d))
 refine ⟨y8, y9, ?_⟩
 have s1 := same_all w
 have s2 := deeds w
 have s3 : zeB [.lst (EE ps ts)] = some (.lst (EE ps ts)) := sortY_w (EW_rise w) (by have := EW_len w; omega)
 have s4 := ne_self (ps := ps) (ts := ts)
 have s5 : zhR [.lst (EE ps ts)] = some (.v (.tuple (EE ps ts))) := rfl
 have s6 : zf6 [.lst (EE ps ts)] = some (.lst (EE ps ts)) := rfl
 have s7 : zbO (.lst (EE ps ts)) (.lst acc) = some (.lst (EE ps ts ++ acc)) := if_pos (by unfold lim; omega)
 generalize EE ps ts = EV at *
 generalize wD ps ts = W at *
 refine (zam (ρ1 := [S, K, P, some (.v W), some (.lst EV), some (.lst acc), x6, x7, x8, x9]) (by simp [s1, s2, s3, s4, s5, s6])).trans ?_
 simp [s7, e, -zk0]
abbrev turnB : FS := (zbg (zcF 2 (vFn FF.zaY (zaa (zah 0) (zae (zah 1)))))
 (zbg (zcF 3 (vFn FF.zbl (zaa (zah 2) (zae (vC (.int 24))))))
 (zbg (zcF 4 (vFn FF.zbm (zae (zah 3))))
 (zbg (zcF 5 (vLC 1 [2, 3] (zcf zfP (zae (vC (.int 6)))) (zaj 0) zb9 spE))
 (zbg (zgl (zcf zfP (zae (vB mulM (vC (.int 24)) (vCB zd3 (zae (vB (eqM true) (zah 4) (zeD zd1))))))) (zaj 6) mrB)
 (zgl (zcf zfP (zae (vC (.int 2)))) (zaj 7) agB))))))
theorem ne_nil (ps : List Int) (ts : List (Int × Int)) : ∃ b : Bool, eqM true (.lst (EE ps ts)) (.lst []) = some (.v (.bool b)) ∧ (b = true → EE ps ts ≠ []) := by
 have hc : PyData.canLay0 (.list (EE ps ts)) = true := can_ws fun t ht => word_ok (EW_ok t ht)
 refine ⟨!PyData.eqv (.list (EE ps ts)) (.list []), ?_, fun h z => by rw [z] at h; cases h⟩
 rw [zgs]
 simp only [zk1, Option.bind_some]
 rw [if_pos (show ziT (.list (EE ps ts)) (.list []) = true by
  unfold ziT
  rw [hc, show PyData.canLay0 (.list []) = true from rfl, decide_eq_true (show min (PyData.depth (.list (EE ps ts))) (PyData.depth (.list [])) ≤ 60 from Nat.le_trans (Nat.min_le_right _ _) (by decide))]
  rfl)]
 rfl
theorem turn (ns : List Int) (hl : ns.length ≤ 63) (k : Int) (hk0 : 0 ≤ k) (hk : k ≤ 100) (x2 x3 x4 x5 x6 x7 x8 x9 : Option M) : ∃ y2 y3 y4 y5 y6 y7 y8 y9, turnB [some (.v (.list (ns.map .int))), some (.v (.int k)), x2, x3, x4, x5, x6, x7, x8, x9] = some (.nx [some (.v (.list (ns.map .int))), some (.v (.int k)), y2, y3, y4, y5, y6, y7, y8, y9]) := by
 obtain ⟨g, q, c, hg, e1⟩ := left ns k hl hk0 hk
 obtain ⟨ps, ts, g1, q1, c1, hg1, w, e2⟩ := web g q c 24 hg (by decide) (by decide)
 have e3 := law_all w
 obtain ⟨acc1, z1, g2, q2, c2, hg2, l1, s1, e4⟩ := things1 g1 q1 c1 hg1 (wD ps ts) rfl
 obtain ⟨b, e5, hb⟩ := ne_nil ps ts
 obtain ⟨n, hn, en⟩ : ∃ n : Nat, (n = 0 ∨ n = 24 ∧ EE ps ts ≠ []) ∧ mulM (.v (.int 24)) (.v (.int (if b = true then 1 else 0))) = some (.v (.int (n : Int))) := by
  cases b with
  | true => exact ⟨24, .inr ⟨rfl, hb rfl⟩, rfl⟩
  | false => exact ⟨0, .inl rfl, rfl⟩
 have hsm : zdf (n : Int) = true := decide_eq_true (by unfold zkM; omega)
 have hi : zd3 [.v (.bool b)] = some (.v (.int (if b = true then 1 else 0))) := by cases b <;> rfl
 obtain ⟨acc2, g3, q3, c3, y6, hg3, l2, s2, e6⟩ := more g2 q2 c2 hg2 (wD ps ts) rfl w n hn (some (.v (.list (ns.map .int)))) (some (.v (.int k))) x6 x7 x8 x9 acc1 l1 s1
 obtain ⟨y8, y9, e7⟩ := again w (some (.v (.list (ns.map .int)))) (some (.v (.int k))) (some (pot g3 q3 c3)) y6 (some (.v (.int 0))) x8 x9 acc2 l2 s2
 obtain ⟨z8, z9, e8⟩ := again w (some (.v (.list (ns.map .int)))) (some (.v (.int k))) (some (pot g3 q3 c3)) y6 (some (.v (.int 1))) y8 y9 acc2 l2 s2
 have m6 : zdf 6 = true := rfl
 generalize EE ps ts = EV at *
 generalize wD ps ts = W at *
 generalize hS : (M.v (.list (ns.map .int))) = S at *
 have hSv : ∃ d, S = .v d := ⟨_, hS.symm⟩
 obtain ⟨sd, rfl⟩ := hSv
 refine ⟨some (pot g3 q3 c3), some (.v W), some (.lst EV), some (.lst acc2), y6, some (.v (.int 1)), z8, z9, ?_⟩
 refine (zam (ρ1 := [some (.v sd), some (.v (.int k)), some (pot g q c), x3, x4, x5, x6, x7, x8, x9]) (by simp [e1])).trans ?_
 refine (zam (ρ1 := [some (.v sd), some (.v (.int k)), some (pot g1 q1 c1), some (.v W), x4, x5, x6, x7, x8, x9]) (by simp [e2])).trans ?_
 refine (zam (ρ1 := [some (.v sd), some (.v (.int k)), some (pot g1 q1 c1), some (.v W), some (.lst EV), x5, x6, x7, x8, x9]) (by simp [e3])).trans ?_
 refine (zam (ρ1 := [some (.v sd), some (.v (.int k)), some (pot g2 q2 c2), some (.v W), some (.lst EV), some (.lst acc1), x6, x7, x8, x9]) (by simp [e4, m6])).trans ?_
 refine (zam (ρ1 := [some (.v sd), some (.v (.int k)), some (pot g3 q3 c3), some (.v W), some (.lst EV), some (.lst acc2), y6, x7, x8, x9]) ?_).trans ?_
 ·rw [zie]
  have ei : zcf zfP (zae (vB mulM (vC (.int 24)) (vCB zd3 (zae (vB (eqM true) (zah 4) (zeD zd1)))))) [some (.v sd), some (.v (.int k)), some (pot g2 q2 c2), some (.v W), some (.lst EV), some (.lst acc1), x6, x7, x8, x9] = some (za7 0 (n : Int), [some (.v sd), some (.v (.int k)), some (pot g2 q2 c2), some (.v W), some (.lst EV), some (.lst acc1), x6, x7, x8, x9]) := by
   generalize (if b = true then (1 : Int) else 0) = bb at *
   simp [e5, hi, en, hsm, lim, -mul_eq]
  rw [ei]
  exact e6
 ·rw [zie]
  rw [show zcf zfP (zae (vC (.int 2))) [some (.v sd), some (.v (.int k)), some (pot g3 q3 c3), some (.v W), some (.lst EV), some (.lst acc2), y6, x7, x8, x9] = some ([.int 0, .int 1], [some (.v sd), some (.v (.int k)), some (pot g3 q3 c3), some (.v W), some (.lst EV), some (.lst acc2), y6, x7, x8, x9]) from rfl]
  show (agB [some (.v sd), some (.v (.int k)), some (pot g3 q3 c3), some (.v W), some (.lst EV), some (.lst acc2), y6, some (.v (.int 0)), x8, x9]).bind _ = _
  rw [e7]
  show (agB [some (.v sd), some (.v (.int k)), some (pot g3 q3 c3), some (.v W), some (.lst EV), some (.lst acc2), y6, some (.v (.int 1)), y8, y9]).bind _ = _
  rw [e8]
  rfl
theorem law_k06 (ns : List Int) (hl : ns.length ≤ 63) : ∃ ms, FF.zgz [.v (.list (ns.map .int))] = some (.v (.bool true), ms) := by
 have hmin : ∃ n : Nat, n ≤ 6 ∧ (1 + (if (ns.length : Int) < 5 then (ns.length : Int) else 5)) = (n : Int) := by
  split
  ·exact ⟨1 + ns.length, by omega, by omega⟩
  ·exact ⟨6, by omega, by omega⟩
 obtain ⟨n, hn, en⟩ := hmin
 have hsm : zdf (n : Int) = true := decide_eq_true (by unfold zkM; omega)
 obtain ⟨ρ', e, _, y1, y2, y3, y4, y5, y6, y7, y8, y9, rfl⟩ := zc8 (fg := zaj 1) (fb := turnB) (P := fun ds ρ => (∀ d ∈ ds, ∃ k : Int, d = .int k ∧ 0 ≤ k ∧ k ≤ 100) ∧ ∃ y1 y2 y3 y4 y5 y6 y7 y8 y9, ρ = [some (.v (.list (ns.map .int))), y1, y2, y3, y4, y5, y6, y7, y8, y9]) (za7 0 (n : Int)) [some (.v (.list (ns.map .int))), none, none, none, none, none, none, none, none, none] ⟨fun d hd => by
   rw [zcj] at hd
   obtain ⟨k, hk, rfl⟩ := List.mem_map.mp hd
   have := List.mem_range.mp hk
   exact ⟨_, rfl, by omega, by omega⟩, none, none, none, none, none, none, none, none, none, rfl⟩ (fun d ds ρ hP => by
  obtain ⟨hd, y1, y2, y3, y4, y5, y6, y7, y8, y9, rfl⟩ := hP
  obtain ⟨k, rfl, h0, h1⟩ := hd d lS
  obtain ⟨z2, z3, z4, z5, z6, z7, z8, z9, e⟩ := turn ns hl k h0 h1 y2 y3 y4 y5 y6 y7 y8 y9
  exact ⟨_, _, rfl, e, fun d' h' => hd d' (lO _ h'), _, _, _, _, _, _, _, _, _, rfl⟩)
 refine ⟨_, zef (ρ := [some (.v (.list (ns.map .int))), y1, y2, y3, y4, y5, y6, y7, y8, y9]) rfl ?_ rfl⟩
 show FF.zeg [some (.v (.list (ns.map .int))), none, none, none, none, none, none, none, none, none] = _
 refine (zam (ρ1 := [some (.v (.list (ns.map .int))), y1, y2, y3, y4, y5, y6, y7, y8, y9]) ?_).trans ?_
 ·have e' := e
  generalize hS : (PyData.list (ns.map .int)) = S at e'
  have hlS : zcU [.v S] = some (.v (.int (ns.length : Int))) := by rw [← hS, len_list, List.length_map]
  simp [hlS, en, hsm, e']
 ·simp
end PA
end
section
namespace Lk06
open PySem L2 VL PyProof.Rows
theorem all_mk {l : PySem.W.OpenLaw} {w : World} {K : PySem.W.Frag} {h : Heap} {mg : Str → Option Value} {fa f1 f2 f3 f4 f5 f6 f7 f8 f9 f10 f11 f12 f13 f14 f15 f16 f17 f18 f19 : Addr} (X : K.In h) (G : h.Ns mainGlobals mg) (hfa : mg "law" = some (.ref fa))
  {od1 an1 od2 an2 od3 an3 od4 an4 od5 an5 od6 an6 od7 an7 od8 an8 od9 an9 od10 an10 od11 an11 od12 an12 od13 an13 od14 an14 od15 an15 od16 an16 od17 an17 od18 an18 od19 an19 : Option Addr} {sl1 sl2 sl3 sl4 sl5 sl6 sl7 sl8 sl9 sl10 sl11 sl12 sl13 sl14 sl15 sl16 sl17 sl18 sl19 : Array (Option Value)} {oc1 kV1 dc1 pm1 cd1 ct1 oc2 kV2 dc2 pm2 cd2 ct2 oc3 kV3 dc3 pm3 cd3 ct3 oc4 kV4 dc4 pm4 cd4 ct4 oc5 kV5 dc5 pm5 cd5 ct5 oc6 kV6 dc6 pm6 cd6 ct6 oc7 kV7 dc7 pm7 cd7 ct7 oc8 kV8 dc8 pm8 cd8 ct8 oc9 kV9 dc9 pm9 cd9 ct9 oc10 kV10 dc10 pm10 cd10 ct10 oc11 kV11 dc11 pm11 cd11 ct11 oc12 kV12 dc12 pm12 cd12 ct12 oc13 kV13 dc13 pm13 cd13 ct13 oc14 kV14 dc14 pm14 cd14 ct14 oc15 kV15 dc15 pm15 cd15 ct15 oc16 kV16 dc16 pm16 cd16 ct16 oc17 kV17 dc17 pm17 cd17 ct17 oc18 kV18 dc18 pm18 cd18 ct18 oc19 kV19 dc19 pm19 cd19 ct19 : Value} {tk_GREATEST_PLACE : Tok}
  (a1 : PySem.W.nsIn K mainGlobals "is_whole" = some (some (.ref f1))) (l1 : K.lookup f1 = some ⟨oc1, od1, .func (PySem.W.fnOf "is_whole" "is_whole" (zaD s_is_whole) (zau s_is_whole) (zaf s_is_whole) .none kV1 dc1 pm1 an1 cd1 ct1), sl1⟩) (c1 : PySem.W.codeIn K cd1 "is_whole" = true) (k1 : PySem.W.keepIn K (.ref f1) = true)
  (a2 : PySem.W.nsIn K mainGlobals "is_tuple_of" = some (some (.ref f2))) (l2 : K.lookup f2 = some ⟨oc2, od2, .func (PySem.W.fnOf "is_tuple_of" "is_tuple_of" (zaD s_is_tuple_of) (zau s_is_tuple_of) (zaf s_is_tuple_of) .none kV2 dc2 pm2 an2 cd2 ct2), sl2⟩) (c2 : PySem.W.codeIn K cd2 "is_tuple_of" = true) (k2 : PySem.W.keepIn K (.ref f2) = true)
  (a3 : PySem.W.nsIn K mainGlobals "rises" = some (some (.ref f3))) (l3 : K.lookup f3 = some ⟨oc3, od3, .func (PySem.W.fnOf "rises" "rises" (zaD s_rises) (zau s_rises) (zaf s_rises) .none kV3 dc3 pm3 an3 cd3 ct3), sl3⟩) (c3 : PySem.W.codeIn K cd3 "rises" = true) (k3 : PySem.W.keepIn K (.ref f3) = true)
  (a4 : PySem.W.nsIn K mainGlobals "is_worded" = some (some (.ref f4))) (l4 : K.lookup f4 = some ⟨oc4, od4, .func (PySem.W.fnOf "is_worded" "is_worded" (zaD s_is_worded) (zau s_is_worded) (zaf s_is_worded) .none kV4 dc4 pm4 an4 cd4 ct4), sl4⟩) (c4 : PySem.W.codeIn K cd4 "is_worded" = true) (k4 : PySem.W.keepIn K (.ref f4) = true)
  (a5 : PySem.W.nsIn K mainGlobals "are_places" = some (some (.ref f5))) (l5 : K.lookup f5 = some ⟨oc5, od5, .func (PySem.W.fnOf "are_places" "are_places" (zaD s_are_places) (zau s_are_places) (zaf s_are_places) .none kV5 dc5 pm5 an5 cd5 ct5), sl5⟩) (c5 : PySem.W.codeIn K cd5 "are_places" = true) (k5 : PySem.W.keepIn K (.ref f5) = true)
  (a6 : PySem.W.nsIn K mainGlobals "is_pair" = some (some (.ref f6))) (l6 : K.lookup f6 = some ⟨oc6, od6, .func (PySem.W.fnOf "is_pair" "is_pair" (zaD s_is_pair) (zau s_is_pair) (zaf s_is_pair) .none kV6 dc6 pm6 an6 cd6 ct6), sl6⟩) (c6 : PySem.W.codeIn K cd6 "is_pair" = true) (k6 : PySem.W.keepIn K (.ref f6) = true)
  (a7 : PySem.W.nsIn K mainGlobals "are_some" = some (some (.ref f7))) (l7 : K.lookup f7 = some ⟨oc7, od7, .func (PySem.W.fnOf "are_some" "are_some" (zaD s_are_some) (zau s_are_some) (zaf s_are_some) .none kV7 dc7 pm7 an7 cd7 ct7), sl7⟩) (c7 : PySem.W.codeIn K cd7 "are_some" = true) (k7 : PySem.W.keepIn K (.ref f7) = true)
  (a8 : PySem.W.nsIn K mainGlobals "is_tie" = some (some (.ref f8))) (l8 : K.lookup f8 = some ⟨oc8, od8, .func (PySem.W.fnOf "is_tie" "is_tie" (zaD s_is_tie) (zau s_is_tie) (zaf s_is_tie) .none kV8 dc8 pm8 an8 cd8 ct8), sl8⟩) (c8 : PySem.W.codeIn K cd8 "is_tie" = true) (k8 : PySem.W.keepIn K (.ref f8) = true)
  (a9 : PySem.W.nsIn K mainGlobals "is_deed" = some (some (.ref f9))) (l9 : K.lookup f9 = some ⟨oc9, od9, .func (PySem.W.fnOf "is_deed" "is_deed" (zaD s_is_deed) (zau s_is_deed) (zaf s_is_deed) .none kV9 dc9 pm9 an9 cd9 ct9), sl9⟩) (c9 : PySem.W.codeIn K cd9 "is_deed" = true) (k9 : PySem.W.keepIn K (.ref f9) = true)
  (a10 : PySem.W.nsIn K mainGlobals "deeds" = some (some (.ref f10))) (l10 : K.lookup f10 = some ⟨oc10, od10, .func (PySem.W.fnOf "deeds" "deeds" (zaD s_deeds) (zau s_deeds) (zaf s_deeds) .none kV10 dc10 pm10 an10 cd10 ct10), sl10⟩) (c10 : PySem.W.codeIn K cd10 "deeds" = true) (k10 : PySem.W.keepIn K (.ref f10) = true)
  (a11 : PySem.W.nsIn K mainGlobals "_law_cell" = some (some (.ref f11))) (l11 : K.lookup f11 = some ⟨oc11, od11, .func (PySem.W.fnOf "_law_cell" "_law_cell" (zaD s_law_cell) (zau s_law_cell) (zaf s_law_cell) .none kV11 dc11 pm11 an11 cd11 ct11), sl11⟩) (c11 : PySem.W.codeIn K cd11 "_law_cell" = true) (k11 : PySem.W.keepIn K (.ref f11) = true)
  (a12 : PySem.W.nsIn K mainGlobals "_law_left" = some (some (.ref f12))) (l12 : K.lookup f12 = some ⟨oc12, od12, .func (PySem.W.fnOf "_law_left" "_law_left" (zaD s_law_left) (zau s_law_left) (zaf s_law_left) .none kV12 dc12 pm12 an12 cd12 ct12), sl12⟩) (c12 : PySem.W.codeIn K cd12 "_law_left" = true) (k12 : PySem.W.keepIn K (.ref f12) = true)
  (a13 : PySem.W.nsIn K mainGlobals "_law_pick" = some (some (.ref f13))) (l13 : K.lookup f13 = some ⟨oc13, od13, .func (PySem.W.fnOf "_law_pick" "_law_pick" (zaD s_law_pick) (zau s_law_pick) (zaf s_law_pick) .none kV13 dc13 pm13 an13 cd13 ct13), sl13⟩) (c13 : PySem.W.codeIn K cd13 "_law_pick" = true) (k13 : PySem.W.keepIn K (.ref f13) = true)
  (a14 : PySem.W.nsIn K mainGlobals "_law_web" = some (some (.ref f14))) (l14 : K.lookup f14 = some ⟨oc14, od14, .func (PySem.W.fnOf "_law_web" "_law_web" (zaD s_law_web) (zau s_law_web) (zaf s_law_web) .none kV14 dc14 pm14 an14 cd14 ct14), sl14⟩) (c14 : PySem.W.codeIn K cd14 "_law_web" = true) (k14 : PySem.W.keepIn K (.ref f14) = true)
  (a15 : PySem.W.nsIn K mainGlobals "_law_all" = some (some (.ref f15))) (l15 : K.lookup f15 = some ⟨oc15, od15, .func (PySem.W.fnOf "_law_all" "_law_all" (zaD s_law_all) (zau s_law_all) (zaf s_law_all) .none kV15 dc15 pm15 an15 cd15 ct15), sl15⟩) (c15 : PySem.W.codeIn K cd15 "_law_all" = true) (k15 : PySem.W.keepIn K (.ref f15) = true)
  (a16 : PySem.W.nsIn K mainGlobals "_law_spoilt" = some (some (.ref f16))) (l16 : K.lookup f16 = some ⟨oc16, od16, .func (PySem.W.fnOf "_law_spoilt" "_law_spoilt" (zaD s_law_spoilt) (zau s_law_spoilt) (zaf s_law_spoilt) .none kV16 dc16 pm16 an16 cd16 ct16), sl16⟩) (c16 : PySem.W.codeIn K cd16 "_law_spoilt" = true) (k16 : PySem.W.keepIn K (.ref f16) = true)
  (a17 : PySem.W.nsIn K mainGlobals "_law_is_deed" = some (some (.ref f17))) (l17 : K.lookup f17 = some ⟨oc17, od17, .func (PySem.W.fnOf "_law_is_deed" "_law_is_deed" (zaD s_law_is_deed) (zau s_law_is_deed) (zaf s_law_is_deed) .none kV17 dc17 pm17 an17 cd17 ct17), sl17⟩) (c17 : PySem.W.codeIn K cd17 "_law_is_deed" = true) (k17 : PySem.W.keepIn K (.ref f17) = true)
  (a18 : PySem.W.nsIn K mainGlobals "_law_same" = some (some (.ref f18))) (l18 : K.lookup f18 = some ⟨oc18, od18, .func (PySem.W.fnOf "_law_same" "_law_same" (zaD s_law_same) (zau s_law_same) (zaf s_law_same) .none kV18 dc18 pm18 an18 cd18 ct18), sl18⟩) (c18 : PySem.W.codeIn K cd18 "_law_same" = true) (k18 : PySem.W.keepIn K (.ref f18) = true)
  (a19 : PySem.W.nsIn K mainGlobals "law" = some (some (.ref f19))) (l19 : K.lookup f19 = some ⟨oc19, od19, .func (PySem.W.fnOf "law" "law" (zaD s_law) (zau s_law) (zaf s_law) .none kV19 dc19 pm19 an19 cd19 ct19), sl19⟩) (c19 : PySem.W.codeIn K cd19 "law" = true) (k19 : PySem.W.keepIn K (.ref f19) = true)
  (z_isinstance : PySem.W.nsIn K mainGlobals "isinstance" = some none)
  (z_bool : PySem.W.nsIn K mainGlobals "bool" = some none)
  (z_int : PySem.W.nsIn K mainGlobals "int" = some none)
  (z_len : PySem.W.nsIn K mainGlobals "len" = some none)
  (z_tuple : PySem.W.nsIn K mainGlobals "tuple" = some none)
  (z_range : PySem.W.nsIn K mainGlobals "range" = some none)
  (z_all : PySem.W.nsIn K mainGlobals "all" = some none)
  (z_str : PySem.W.nsIn K mainGlobals "str" = some none)
  (z_sorted : PySem.W.nsIn K mainGlobals "sorted" = some none)
  (z_abs : PySem.W.nsIn K mainGlobals "abs" = some none)
  (z_list : PySem.W.nsIn K mainGlobals "list" = some none)
  (z_zip : PySem.W.nsIn K mainGlobals "zip" = some none)
  (z_min : PySem.W.nsIn K mainGlobals "min" = some none)
  (g_GREATEST_PLACE : PySem.W.nsIn K mainGlobals "GREATEST_PLACE" = some (some (.int 99 tk_GREATEST_PLACE)))
  : ∃ fd : FuncData, (∀ (s : Shared) (v : Value), BindsTo s fd ⟨[v], []⟩ [("_law_script", v)]) ∧ ∀ base : Heap, K.In base → base.Ns mainGlobals mg → zb8 l.prog w K mg base CX0 6 fa fd ["_law_script"] (zgr K) := by
 have e := hfa.symm.trans (PySem.W.mg_of X G a19)
 cases e
 have F1 := zbn (st := s_is_whole) l1 c1 k1
 have b1 := F1.binds (ps := ["thing"]) fun _ _ _ _ _ _ us hl => match us, hl with | [_], _ => rfl
 have m1 := PySem.W.mg_of X G a1
 have F2 := zbn (st := s_is_tuple_of) l2 c2 k2
 have b2 := F2.binds (ps := ["thing", "many"]) fun _ _ _ _ _ _ us hl => match us, hl with | [_, _], _ => rfl
 have m2 := PySem.W.mg_of X G a2
 have F3 := zbn (st := s_rises) l3 c3 k3
 have b3 := F3.binds (ps := ["items"]) fun _ _ _ _ _ _ us hl => match us, hl with | [_], _ => rfl
 have m3 := PySem.W.mg_of X G a3
 have F4 := zbn (st := s_is_worded) l4 c4 k4
 have b4 := F4.binds (ps := ["thing"]) fun _ _ _ _ _ _ us hl => match us, hl with | [_], _ => rfl
 have m4 := PySem.W.mg_of X G a4
 have F5 := zbn (st := s_are_places) l5 c5 k5
 have b5 := F5.binds (ps := ["thing"]) fun _ _ _ _ _ _ us hl => match us, hl with | [_], _ => rfl
 have m5 := PySem.W.mg_of X G a5
 have F6 := zbn (st := s_is_pair) l6 c6 k6
 have b6 := F6.binds (ps := ["places", "thing"]) fun _ _ _ _ _ _ us hl => match us, hl with | [_, _], _ => rfl
 have m6 := PySem.W.mg_of X G a6
 have F7 := zbn (st := s_are_some) l7 c7 k7
 have b7 := F7.binds (ps := ["web", "thing"]) fun _ _ _ _ _ _ us hl => match us, hl with | [_, _], _ => rfl
 have m7 := PySem.W.mg_of X G a7
 have F8 := zbn (st := s_is_tie) l8 c8 k8
 have b8 := F8.binds (ps := ["web", "thing"]) fun _ _ _ _ _ _ us hl => match us, hl with | [_, _], _ => rfl
 have m8 := PySem.W.mg_of X G a8
 have F9 := zbn (st := s_is_deed) l9 c9 k9
 have b9 := F9.binds (ps := ["web", "thing"]) fun _ _ _ _ _ _ us hl => match us, hl with | [_, _], _ => rfl
 have m9 := PySem.W.mg_of X G a9
 have F10 := zbn (st := s_deeds) l10 c10 k10
 have b10 := F10.binds (ps := ["web"]) fun _ _ _ _ _ _ us hl => match us, hl with | [_], _ => rfl
 have m10 := PySem.W.mg_of X G a10
 have F11 := zbn (st := s_law_cell) l11 c11 k11
 have b11 := F11.binds (ps := ["_law_script", "_law_k"]) fun _ _ _ _ _ _ us hl => match us, hl with | [_, _], _ => rfl
 have m11 := PySem.W.mg_of X G a11
 have F12 := zbn (st := s_law_left) l12 c12 k12
 have b12 := F12.binds (ps := ["_law_script", "_law_k"]) fun _ _ _ _ _ _ us hl => match us, hl with | [_, _], _ => rfl
 have m12 := PySem.W.mg_of X G a12
 have F13 := zbn (st := s_law_pick) l13 c13 k13
 have b13 := F13.binds (ps := ["_law_left_here", "_law_many"]) fun _ _ _ _ _ _ us hl => match us, hl with | [_, _], _ => rfl
 have m13 := PySem.W.mg_of X G a13
 have F14 := zbn (st := s_law_web) l14 c14 k14
 have b14 := F14.binds (ps := ["_law_left_here", "_law_most"]) fun _ _ _ _ _ _ us hl => match us, hl with | [_, _], _ => rfl
 have m14 := PySem.W.mg_of X G a14
 have F15 := zbn (st := s_law_all) l15 c15 k15
 have b15 := F15.binds (ps := ["_law_web_here"]) fun _ _ _ _ _ _ us hl => match us, hl with | [_], _ => rfl
 have m15 := PySem.W.mg_of X G a15
 have F16 := zbn (st := s_law_spoilt) l16 c16 k16
 have b16 := F16.binds (ps := ["_law_left_here", "_law_web_here", "_law_deed"]) fun _ _ _ _ _ _ us hl => match us, hl with | [_, _, _], _ => rfl
 have m16 := PySem.W.mg_of X G a16
 have F17 := zbn (st := s_law_is_deed) l17 c17 k17
 have b17 := F17.binds (ps := ["_law_web_here", "_law_thing"]) fun _ _ _ _ _ _ us hl => match us, hl with | [_, _], _ => rfl
 have m17 := PySem.W.mg_of X G a17
 have F18 := zbn (st := s_law_same) l18 c18 k18
 have b18 := F18.binds (ps := ["_law_found", "_law_due"]) fun _ _ _ _ _ _ us hl => match us, hl with | [_, _], _ => rfl
 have m18 := PySem.W.mg_of X G a18
 have F19 := zbn (st := s_law) l19 c19 k19
 have b19 := F19.binds (ps := ["_law_script"]) fun _ _ _ _ _ _ us hl => match us, hl with | [_], _ => rfl
 have m19 := PySem.W.mg_of X G a19
 have T : Txt mg := ⟨PySem.W.mg_none_of X G z_isinstance, PySem.W.mg_none_of X G z_bool, PySem.W.mg_none_of X G z_int, PySem.W.mg_none_of X G z_len, PySem.W.mg_none_of X G z_tuple, PySem.W.mg_none_of X G z_range, PySem.W.mg_none_of X G z_all, PySem.W.mg_none_of X G z_str, PySem.W.mg_none_of X G z_sorted, PySem.W.mg_none_of X G z_abs, PySem.W.mg_none_of X G z_list, PySem.W.mg_none_of X G z_zip, PySem.W.mg_none_of X G z_min, ⟨_, PySem.W.mg_of X G g_GREATEST_PLACE⟩⟩
 refine ⟨PySem.W.fnOf "law" "law" (zaD s_law) (zau s_law) (zaf s_law) .none kV19 dc19 pm19 an19 cd19 ct19, fun s v => .of_eq rfl, fun base _ _ => ?_⟩
 have C_is_whole : zaJ l.prog w K mg base "is_whole" ["thing"] 1 (spV K FF.zav) := ⟨f1, _, ok_is_whole F1 T, b1, F1.kp, m1⟩
 have C_is_tuple_of : zaJ l.prog w K mg base "is_tuple_of" ["thing", "many"] 1 (spV K FF.zal) := ⟨f2, _, ok_is_tuple_of F2 T, b2, F2.kp, m2⟩
 have C_rises : zaJ l.prog w K mg base "rises" ["items"] 1 (spV K FF.zbv) := ⟨f3, _, ok_rises F3 T, b3, F3.kp, m3⟩
 have C_is_worded : zaJ l.prog w K mg base "is_worded" ["thing"] 1 (spV K FF.zaF) := ⟨f4, _, ok_is_worded F4 T, b4, F4.kp, m4⟩
 have C_are_places : zaJ l.prog w K mg base "are_places" ["thing"] 2 (spV K FF.zay) := ⟨f5, _, ok_are_places F5 T C_rises C_is_whole, b5, F5.kp, m5⟩
 have C_is_pair : zaJ l.prog w K mg base "is_pair" ["places", "thing"] 2 (spV K FF.zaE) := ⟨f6, _, ok_is_pair F6 T C_is_whole C_is_tuple_of, b6, F6.kp, m6⟩
 have C_are_some : zaJ l.prog w K mg base "are_some" ["web", "thing"] 3 (spV K FF.zaK) := ⟨f7, _, ok_are_some F7 T C_are_places, b7, F7.kp, m7⟩
 have C_is_tie : zaJ l.prog w K mg base "is_tie" ["web", "thing"] 3 (spV K FF.zbj) := ⟨f8, _, ok_is_tie F8 T C_is_pair, b8, F8.kp, m8⟩
 have C_is_deed : zaJ l.prog w K mg base "is_deed" ["web", "thing"] 4 (spV K FF.zar) := ⟨f9, _, ok_is_deed F9 T C_is_tie C_are_some C_is_tuple_of C_is_worded, b9, F9.kp, m9⟩
 have C_deeds : zaJ l.prog w K mg base "deeds" ["web"] 1 (spV K FF.zbH) := ⟨f10, _, ok_deeds F10 T, b10, F10.kp, m10⟩
 have C_law_cell : zaJ l.prog w K mg base "_law_cell" ["_law_script", "_law_k"] 1 (spV K FF.zaX) := ⟨f11, _, ok_law_cell F11 T, b11, F11.kp, m11⟩
 have C_law_left : zaJ l.prog w K mg base "_law_left" ["_law_script", "_law_k"] 2 (spV K FF.zaY) := ⟨f12, _, ok_law_left F12 T C_law_cell, b12, F12.kp, m12⟩
 have C_law_pick : zaJ l.prog w K mg base "_law_pick" ["_law_left_here", "_law_many"] 1 (spV K FF.zag) := ⟨f13, _, ok_law_pick F13 T, b13, F13.kp, m13⟩
 have C_law_web : zaJ l.prog w K mg base "_law_web" ["_law_left_here", "_law_most"] 2 (spV K FF.zbl) := ⟨f14, _, ok_law_web F14 T C_law_pick, b14, F14.kp, m14⟩
 have C_law_all : zaJ l.prog w K mg base "_law_all" ["_law_web_here"] 1 (spV K FF.zbm) := ⟨f15, _, ok_law_all F15 T, b15, F15.kp, m15⟩
 have C_law_spoilt : zaJ l.prog w K mg base "_law_spoilt" ["_law_left_here", "_law_web_here", "_law_deed"] 2 (spV K FF.zap) := ⟨f16, _, ok_law_spoilt F16 T C_law_pick, b16, F16.kp, m16⟩
 have C_law_is_deed : zaJ l.prog w K mg base "_law_is_deed" ["_law_web_here", "_law_thing"] 1 (spV K FF.zaA) := ⟨f17, _, ok_law_is_deed F17 T, b17, F17.kp, m17⟩
 have C_law_same : zaJ l.prog w K mg base "_law_same" ["_law_found", "_law_due"] 5 (spV K (FF.zan 4)) := ⟨f18, _, ok_law_same F18 T b18 m18 4, b18, F18.kp, m18⟩
 exact zmY (ok_law F19 T C_law_is_deed C_is_deed C_law_same C_deeds C_law_spoilt C_law_pick C_law_all C_law_web C_law_left) PA.law_k06
theorem walk {l : PySem.W.OpenLaw} {q : Program} {loose : List Str} {XP : (Str → Option Value) → Heap → Prop} {YP : World → Heap → Prop} {d : DefRec} {K : Params → PySem.W.Frag} (hn : l.most = some 63) (hdf : d.params.defaults = [])
  (hY : ∀ (w : World) (h : Heap), YP w h → (K w.params).In h)
  (F : ∀ (w : World) (mg : Str → Option Value) (fa : Addr) (h : Heap), (K w.params).In h → h.Ns mainGlobals mg → mg d.name = some (.ref fa) →
   ∃ fd : FuncData, (∀ (s : Shared) (u : Value), BindsTo s fd ⟨[u], []⟩ [("_law_script", u)]) ∧ ∀ base : Heap, (K w.params).In base → base.Ns mainGlobals mg → zb8 l.prog w (K w.params) mg base CX0 6 fa fd ["_law_script"] (zgr (K w.params))) :
  PySem.W.WalkO q loose XP YP l.row.toRowW d [] (fun f vs => PySem.call f vs) :=
 L2.zkn (n := 63) (k := 6) (x := "_law_script") (CX := fun _ => CX0) (sp := fun w => zgr (K w.params)) hn (by decide) hdf ⟨rfl, by decide, by decide, rfl⟩ hY F (fun _ _ a ns hl _ hS => ⟨a, ns, rfl, hS, hl, fun _ => rfl⟩) fun _ _ _ _ _ z => z
end Lk06
open PySem PySem.W PyProof.Rows
theorem PySem.Challenge.cw_drawnweb_k06_deeds_of_a_web_holds : PySem.Challenge.rw_drawnweb_k06_deeds_of_a_web.Holds := by
 w_on; o_law; k_head; (case hw => w_witness2)
 k_fill
 refine Lk06.walk (l := PySem.Challenge.rw_drawnweb_k06_deeds_of_a_web) rfl rfl (fun w h Y => PySem.W.kIn_of Y) ?F
 case F =>
  intro w mg fa h KX G hmg
  refine' Lk06.all_mk KX G hmg ?a1 ?l1 ?c1 ?k1 ?a2 ?l2 ?c2 ?k2 ?a3 ?l3 ?c3 ?k3 ?a4 ?l4 ?c4 ?k4 ?a5 ?l5 ?c5 ?k5 ?a6 ?l6 ?c6 ?k6 ?a7 ?l7 ?c7 ?k7 ?a8 ?l8 ?c8 ?k8 ?a9 ?l9 ?c9 ?k9 ?a10 ?l10 ?c10 ?k10 ?a11 ?l11 ?c11 ?k11 ?a12 ?l12 ?c12 ?k12 ?a13 ?l13 ?c13 ?k13 ?a14 ?l14 ?c14 ?k14 ?a15 ?l15 ?c15 ?k15 ?a16 ?l16 ?c16 ?k16 ?a17 ?l17 ?c17 ?k17 ?a18 ?l18 ?c18 ?k18 ?a19 ?l19 ?c19 ?k19 ?z_isinstance ?z_bool ?z_int ?z_len ?z_tuple ?z_range ?z_all ?z_str ?z_sorted ?z_abs ?z_list ?z_zip ?z_min ?g_GREATEST_PLACE
  (case a1 => k_is); (case l1 => k_is); (case c1 => k_is); (case k1 => k_is)
  (case a2 => k_is); (case l2 => k_is); (case c2 => k_is); (case k2 => k_is)
  (case a3 => k_is); (case l3 => k_is); (case c3 => k_is); (case k3 => k_is)
  (case a4 => k_is); (case l4 => k_is); (case c4 => k_is); (case k4 => k_is)
  (case a5 => k_is); (case l5 => k_is); (case c5 => k_is); (case k5 => k_is)
  (case a6 => k_is); (case l6 => k_is); (case c6 => k_is); (case k6 => k_is)
  (case a7 => k_is); (case l7 => k_is); (case c7 => k_is); (case k7 => k_is)
  (case a8 => k_is); (case l8 => k_is); (case c8 => k_is); (case k8 => k_is)
  (case a9 => k_is); (case l9 => k_is); (case c9 => k_is); (case k9 => k_is)
  (case a10 => k_is); (case l10 => k_is); (case c10 => k_is); (case k10 => k_is)
  (case a11 => k_is); (case l11 => k_is); (case c11 => k_is); (case k11 => k_is)
  (case a12 => k_is); (case l12 => k_is); (case c12 => k_is); (case k12 => k_is)
  (case a13 => k_is); (case l13 => k_is); (case c13 => k_is); (case k13 => k_is)
  (case a14 => k_is); (case l14 => k_is); (case c14 => k_is); (case k14 => k_is)
  (case a15 => k_is); (case l15 => k_is); (case c15 => k_is); (case k15 => k_is)
  (case a16 => k_is); (case l16 => k_is); (case c16 => k_is); (case k16 => k_is)
  (case a17 => k_is); (case l17 => k_is); (case c17 => k_is); (case k17 => k_is)
  (case a18 => k_is); (case l18 => k_is); (case c18 => k_is); (case k18 => k_is)
  (case a19 => k_is); (case l19 => k_is); (case c19 => k_is); (case k19 => k_is)
  (case z_isinstance => k_is); (case z_bool => k_is); (case z_int => k_is); (case z_len => k_is); (case z_tuple => k_is); (case z_range => k_is); (case z_all => k_is); (case z_str => k_is); (case z_sorted => k_is); (case z_abs => k_is); (case z_list => k_is); (case z_zip => k_is); (case z_min => k_is); (case g_GREATEST_PLACE => k_is)
end
