import PyProof.Rows.All
import Wide.All
import OpenK.AllK
import Wide.FinOn
import Lean
import PyProof.EqAt
import PyProof.EqKinds
import PyProof.TupleCall
import KE.KDictOf
import PyProof.AttrMissHeap
import PyProof.ReprRoads
import PySem.Challenge.RW_drawnweb_k19_ties_besides
set_option Elab.async false
set_option linter.all false
set_option maxRecDepth 100000
set_option maxHeartbeats 0
theorem oB {α β : Type _} {x : Option α} {f : α → Option β} {b : β} (h : x.bind f = some b) : ∃ a, x = some a ∧ f a = some b := Option.bind_eq_some_iff.mp h
theorem lR {α : Type _} {a : α} (as : List α) {bs : List α} (h : a ∈ bs) : a ∈ as ++ bs := List.mem_append_right as h
theorem lL {α : Type _} {a : α} {as : List α} (bs : List α) (h : a ∈ as) : a ∈ as ++ bs := List.mem_append_left bs h
theorem lM {α : Type _} {a : α} {s t : List α} (h : a ∈ s ++ t) : a ∈ s ∨ a ∈ t := List.mem_append.mp h
theorem lS {α : Type _} {a : α} {l : List α} : a ∈ a :: l := List.mem_cons_self
theorem lO {α : Type _} (y : α) {a : α} {l : List α} (h : a ∈ l) : a ∈ y :: l := List.mem_cons_of_mem y h
theorem lK {α : Type _} {a b : α} {l : List α} (h : a ∈ b :: l) : a = b ∨ a ∈ l := List.mem_cons.mp h
section
namespace L2
open PySem PySem.Spec PyProof.Rows
abbrev Key := Sum Int Str
def zf1 : Key → Value → Bool
 | .inl k, v => Value.isInt k v
 | .inr x, v => Value.isStrOf x v
def keyH (w : World) : Key → Int
 | .inl k => hashInt k
 | .inr x => hashStr w x
theorem zaM : ∀ {k : Key} {v : Value}, zf1 k v = true → (∃ i t, k = Sum.inl i ∧ v = Value.int i t) ∨ (∃ x t, k = Sum.inr x ∧ v = Value.str x t)
 | .inl i, v, h => by
  obtain ⟨t, e⟩ := Value.isInt_shape (k := i) (v := v) h
  exact .inl ⟨i, t, rfl, e⟩
 | .inr x, v, h => by
  obtain ⟨t, e⟩ := Value.isStrOf_shape (x := x) (v := v) h
  exact .inr ⟨x, t, rfl, e⟩
theorem zhN (i : Int) (t : Tok) : zf1 (.inl i) (.int i t) = true := by simp [zf1, Value.isInt]
theorem zhO (x : Str) (t : Tok) : zf1 (.inr x) (.str x t) = true := by simp [zf1, Value.isStrOf]
theorem zmy (a b : Int) : decide ((Sum.inl a : Key) = Sum.inl b) = (a == b) := by
 by_cases e : a = b
 ·subst e; simp
 ·have h : ¬ (Sum.inl a : Key) = Sum.inl b := fun q => e (Sum.inl.inj q)
  rw [decide_eq_false h]
  exact (beq_eq_false_iff_ne.mpr e).symm
theorem zmz (a b : Str) : decide ((Sum.inr a : Key) = Sum.inr b) = decide (a = b) := by
 by_cases e : a = b
 ·subst e; simp
 ·have h : ¬ (Sum.inr a : Key) = Sum.inr b := fun q => e (Sum.inr.inj q)
  rw [decide_eq_false h, decide_eq_false e]
theorem zmA (a : Int) (b : Str) : decide ((Sum.inl a : Key) = Sum.inr b) = false := decide_eq_false (fun q => nomatch q)
theorem zmB (a : Str) (b : Int) : decide ((Sum.inr a : Key) = Sum.inl b) = false := decide_eq_false (fun q => nomatch q)
def zaE (prog : Program) (w : World) : PySem.KeyKind prog w Key where
 is := zf1
 hash := keyH w
 inj := fun v a b ha hb => by
  rcases zaM ha with ⟨i, t, rfl, rfl⟩ | ⟨x, t, rfl, rfl⟩
  ·rcases zaM hb with ⟨j, u, rfl, e⟩ | ⟨y, u, rfl, e⟩
   ·injection e with e1 _; rw [e1]
   ·exact nomatch e
  ·rcases zaM hb with ⟨j, u, rfl, e⟩ | ⟨y, u, rfl, e⟩
   ·exact nomatch e
   ·injection e with e1 _; rw [e1]
 byValue := fun k v h => by
  rcases zaM h with ⟨i, t, rfl, rfl⟩ | ⟨x, t, rfl, rfl⟩ <;> rfl
 pyHash := fun hv h => by
  rcases zaM hv with ⟨i, t, rfl, rfl⟩ | ⟨x, t, rfl, rfl⟩
  ·exact wpAny_pyHash_int h
  ·exact wpAny_pyHash_str h
 eqBool := fun hu hv h => by
  rcases zaM hu with ⟨i, t, rfl, rfl⟩ | ⟨x, t, rfl, rfl⟩
  ·rcases zaM hv with ⟨j, u, rfl, rfl⟩ | ⟨y, u, rfl, rfl⟩
   ·rw [zmy] at h; exact wpAny_eqBool_int h
   ·rw [zmA] at h; exact SeqAt.EqAt.int_str i t y u _ _ _ _ h
  ·rcases zaM hv with ⟨j, u, rfl, rfl⟩ | ⟨y, u, rfl, rfl⟩
   ·rw [zmB] at h; exact SeqAt.EqAt.str_int x t j u _ _ _ _ h
   ·rw [zmz] at h; exact wpAny_eqBool_str h
 «strs» := fun k x t v h => by
  rcases zaM h with ⟨i, u, rfl, e⟩ | ⟨y, u, rfl, e⟩
  ·exact nomatch e
  ·injection e with e1 _
   subst e1
   cases v <;> rfl
theorem zf2 (prog : Program) (w : World) (i : Int) (t : Tok) : (zaE prog w).is (.inl i) (.int i t) = true := zhN i t
theorem zf3 (prog : Program) (w : World) (x : Str) (t : Tok) : (zaE prog w).is (.inr x) (.str x t) = true := zhO x t
end L2
namespace L2
open PySem PySem.Spec PyProof.Rows
inductive V where
 | non | bl (b : Bool) | int (i : Int) | str (x : Str) | byt (b : Array UInt8) | flt (b : UInt64) | ref (a : Addr) | ty (n : String)
 deriving DecidableEq
def RelV : V → Value → Prop
 | .non, u => u = Value.none
 | .bl b, u => u = Value.bool b
 | .int i, u => ∃ t, u = Value.int i t
 | .str x, u => ∃ t, u = Value.str x t
 | .byt b, u => ∃ t, u = Value.bytes b t
 | .flt b, u => ∃ t, u = Value.float b t
 | .ref a, u => u = Value.ref a
 | .ty n, u => u = Value.type n
abbrev zaW : List V → List Value → Prop := Paired RelV
theorem zaW.length {xs : List V} {us : List Value} (r : zaW xs us) : xs.length = us.length := Paired.length r
theorem zaW.get : ∀ {xs : List V} {us : List Value} {i : Nat} {x : V}, zaW xs us → xs[i]? = some x → ∃ u, us[i]? = some u ∧ RelV x u
 | _, _, _, _, .nil, e => by simp at e
 | _, _, 0, _, .cons r _, e => by simp at e; subst e; exact ⟨_, rfl, r⟩
 | _, _, i + 1, x, .cons _ t, e => by
  obtain ⟨u, h1, h2⟩ := zaW.get (i := i) (x := x) t (by simpa using e)
  exact ⟨u, by simpa using h1, h2⟩
theorem zaW.set {x : V} {u : Value} (r : RelV x u) : ∀ {xs : List V} {us : List Value} (i : Nat), zaW xs us → zaW (xs.set i x) (us.set i u)
 | _, _, _, .nil => .nil
 | _, _, 0, .cons _ t => .cons r t
 | _, _, i + 1, .cons q t => .cons q (zaW.set r i t)
theorem zaW.append : ∀ {xs ys : List V} {us ws : List Value}, zaW xs us → zaW ys ws → zaW (xs ++ ys) (us ++ ws)
 | _, _, _, _, .nil, s => s
 | _, _, _, _, .cons r t, s => .cons r (zaW.append t s)
theorem zaW.take : ∀ {xs : List V} {us : List Value} (n : Nat), zaW xs us → zaW (xs.take n) (us.take n)
 | _, _, 0, _ => .nil
 | _, _, _ + 1, .nil => .nil
 | _, _, n + 1, .cons r t => .cons r (zaW.take n t)
theorem zaW.drop : ∀ {xs : List V} {us : List Value} (n : Nat), zaW xs us → zaW (xs.drop n) (us.drop n)
 | _, _, 0, r => r
 | _, _, _ + 1, .nil => .nil
 | _, _, n + 1, .cons _ t => zaW.drop n t
def zjp : Option V → Option Value → Prop
 | some v, some u => RelV v u
 | none, none => True
 | _, _ => False
def KV {κ : Type} : List (κ × V) → List (κ × Value) → Prop := Paired fun (p : κ × V) (q : κ × Value) => p.1 = q.1 ∧ RelV p.2 q.2
def kV : Key → V
 | .inl i => .int i
 | .inr x => .str x
inductive HO where
  | lst (xs : List V)
  | tup (xs : List V)
  | dK (kvs : List (Key × V)) | dT (kvs : List (List Key × V))
  | set (S : Int → Bool) (n : Nat)
  | ins (C dx : Addr) (fs : List (Str × V))
  | own (x : Addr)
  | xd (fs : List (Str × V))
  | met (f x : Addr)
  | rng (lo hi : Int)
  | frz (o : Obj) (u : HO)
  | tbl (ps : Array Value)
  | ext (φ : Heap → Prop)
abbrev Hp := Addr → Option HO
def upd (H : Hp) (a : Addr) (o : HO) : Hp := fun b => if b = a then some o else H b
theorem zay {H : Hp} {a : Addr} {o : HO} : upd H a o a = some o := by unfold upd; rw [if_pos rfl]
theorem zaz {H : Hp} {a b : Addr} {o : HO} (h : b ≠ a) : upd H a o b = H b := by unfold upd; rw [if_neg h]
theorem zkP {H : Hp} {a b : Addr} {o u : HO} (h : H a = some o) (h' : H b = some u) (d : o ≠ u) : a ≠ b := by
 intro e; subst e; rw [h] at h'; exact d (Option.some.inj h')
theorem zaO {H : Hp} {a b : Addr} {o : HO} (h : H a = some o) (h' : H b = none) : a ≠ b := by
 intro e; subst e; rw [h] at h'; cases h'
section
variable (P : Program) (w : World)
def zbK (H : Hp) (h : Heap) (a : Addr) : HO → Prop
 | .lst xs => xs.length ≤ sizeLine ∧ ∃ (its : List Value) (n : Nat), zaW xs its ∧ h.get? a = some { cls := .type "list", data := .seq its.toArray n }
 | .tup xs => xs.length ≤ sizeLine ∧ ∃ its : List Value, zaW xs its ∧ IsTup h a its.toArray
 | .dK kvs => kvs.length ≤ sizeLine ∧ (a == sysModules) = false ∧ ∃ vs, KV kvs vs ∧ h.DictOf (zaE P w) a vs
 | .dT kvs => kvs.length ≤ sizeLine ∧ (a == sysModules) = false ∧ ∃ xs : List (List Key × Addr × Value),
   Paired (fun (p : List Key × V) (q : List Key × Addr × Value) => p.1 = q.1 ∧ H q.2.1 = some (.tup (p.1.map kV)) ∧ RelV p.2 q.2.2) kvs xs ∧
   ∃ o es ep, h.get? a = some o ∧ o.ExactDict ∧ o.data = .dict es ep ∧ es.toList = xs.map (entryOfKey (tupleKind (zaE P w))) ∧ (xs.map (·.1)).Nodup
 | .set S n => h.SetOf (intKind P w) a S n
 | .ins C dx fs => H dx = some (.own a) ∧ fs.length ≤ 1000 ∧ dx ≠ a ∧ h.get? a = some (PySem.W.instObj C dx) ∧
   ∃ mA, h.Ns1 dx mA ∧ (∀ f, zjp (fs.lookup f) (mA f)) ∧ PySem.Within mA (fs.map (·.1))
 | .own _ => ∃ o, h.get? a = some o
 | .xd fs => ∃ mA, h.Ns1 a mA ∧ ∀ f, zjp (fs.lookup f) (mA f)
 | .rng lo hi => ∃ t u v, h.get? a = some { cls := .type "range", data := .fields #[.int lo t, .int hi u, .int 1 v] }
 | .frz o u => h.get? a = some o ∧ zbK H h a u
 | .tbl ps => h.get? a = some { cls := .none, data := .fields ps }
 | .met f x => h.get? a = some (PySem.W.methodObj (.ref f) (.ref x))
 | .ext φ => φ h ∧ (∃ o, h.get? a = some o) ∧ ∀ h1 h2 : Heap, φ h1 → (∀ o, h1.get? a = some o → h2.get? a = some o) → φ h2
def HOk (H : Hp) (h : Heap) : Prop := ∀ a o, H a = some o → zbK P w H h a o
end
section
variable {P : Program} {w : World} {H H' : Hp} {h h' : Heap} {a : Addr} {o : HO}
theorem zbK.lt (x : zbK P w H h a o) : a < h.objs.size := by
 cases o with
 | lst xs => obtain ⟨_, _, _, _, e⟩ := x; exact Heap.lt_size e
 | tup xs => obtain ⟨_, _, _, p⟩ := x; exact p.lt
 | dK kvs => obtain ⟨_, _, _, _, o, _, _, e, _⟩ := x; exact Heap.lt_size e
 | dT kvs => obtain ⟨_, _, _, _, o, _, _, e, _⟩ := x; exact Heap.lt_size e
 | set S n => obtain ⟨o, _, _, _, e, _⟩ := x; exact Heap.lt_size e
 | ins C dx fs => obtain ⟨_, _, _, e, _⟩ := x; exact Heap.lt_size e
 | own y => obtain ⟨_, e⟩ := x; exact Heap.lt_size e
 | xd fs => obtain ⟨_, ⟨_, _, _, e, _⟩, _⟩ := x; exact Heap.lt_size e
 | rng lo hi => obtain ⟨_, _, _, e⟩ := x; exact Heap.lt_size e
 | frz ob u => obtain ⟨e, _⟩ := x; exact Heap.lt_size e
 | tbl ps => exact Heap.lt_size (show h.get? a = some _ from x)
 | met f y => exact Heap.lt_size (show h.get? a = some _ from x)
 | ext φ => obtain ⟨_, ⟨_, e⟩, _⟩ := x; exact Heap.lt_size e
theorem Paired.mapP {α β : Type} {F G : α → β → Prop} : ∀ {l₁ : List α} {l₂ : List β}, Paired F l₁ l₂ → (∀ a b, F a b → G a b) → Paired G l₁ l₂
 | _, _, .nil, _ => .nil
 | _, _, .cons r t, f => .cons (f _ _ r) (Paired.mapP t f)
theorem zbK.stay (x : zbK P w H h a o) (k : ∀ b u, (b = a ∨ H b = some (.own a)) → h.get? b = some u → h'.get? b = some u)
  (ho : ∀ b, H b = some (.own a) → H' b = some (.own a)) (ht : ∀ b xs, H b = some (.tup xs) → H' b = some (.tup xs)) : zbK P w H' h' a o := by
 induction o with
 | lst xs => obtain ⟨z, its, n, r, e⟩ := x; exact ⟨z, its, n, r, k _ _ (.inl rfl) e⟩
 | tup xs => obtain ⟨z, its, r, ob, e, c⟩ := x; exact ⟨z, its, r, ob, k _ _ (.inl rfl) e, c⟩
 | dK kvs => obtain ⟨z, y, vs, r, ob, es, ep, e, c⟩ := x; exact ⟨z, y, vs, r, ob, es, ep, k _ _ (.inl rfl) e, c⟩
 | dT kvs =>
  obtain ⟨z, y, xs, r, ob, es, ep, e, c⟩ := x
  exact ⟨z, y, xs, Paired.mapP r fun p q z => ⟨z.1, ht _ _ z.2.1, z.2.2⟩, ob, es, ep, k _ _ (.inl rfl) e, c⟩
 | set S n => obtain ⟨ob, es, ep, t, e, c⟩ := x; exact ⟨ob, es, ep, t, k _ _ (.inl rfl) e, c⟩
 | ins C dx fs =>
  obtain ⟨d, z, ne, e, mA, ⟨od, es, ep, e2, c⟩, r⟩ := x
  exact ⟨ho _ d, z, ne, k _ _ (.inl rfl) e, mA, ⟨od, es, ep, k _ _ (.inr d) e2, c⟩, r⟩
 | own y => obtain ⟨ob, e⟩ := x; exact ⟨ob, k _ _ (.inl rfl) e⟩
 | xd fs => obtain ⟨mA, ⟨od, es, ep, e, c⟩, r⟩ := x; exact ⟨mA, ⟨od, es, ep, k _ _ (.inl rfl) e, c⟩, r⟩
 | rng lo hi => obtain ⟨t, u, v, e⟩ := x; exact ⟨t, u, v, k _ _ (.inl rfl) e⟩
 | frz ob u ih => obtain ⟨e, q⟩ := x; exact ⟨k _ _ (.inl rfl) e, ih q⟩
 | tbl ps =>
  have e : h.get? a = some { cls := .none, data := .fields ps } := x
  show h'.get? a = some { cls := .none, data := .fields ps }
  exact k a _ (.inl rfl) e
 | met f y =>
  have e : h.get? a = some (PySem.W.methodObj (.ref f) (.ref y)) := x
  show h'.get? a = some (PySem.W.methodObj (.ref f) (.ref y))
  exact k a _ (.inl rfl) e
 | ext φ => obtain ⟨p, ⟨o, e⟩, st⟩ := x; exact ⟨st _ _ p fun o q => k _ _ (.inl rfl) q, ⟨o, k _ _ (.inl rfl) e⟩, st⟩
theorem HOk.lt (x : HOk P w H h) (e : H a = some o) : a < h.objs.size := (x a o e).lt
theorem HOk.fresh (x : HOk P w H h) (e : h.objs.size ≤ a) : H a = none := by
 cases q : H a with
 | none => rfl
 | some u => exact absurd (Nat.lt_of_lt_of_le (x.lt q) e) (Nat.lt_irrefl _)
theorem HOk.kept (x : HOk P w H h) (k : ∀ b u, h.get? b = some u → h'.get? b = some u) : HOk P w H h' := fun a o e =>
 (x a o e).stay (fun b u _ q => k b u q) (fun _ q => q) fun _ _ q => q
theorem HOk.laid (x : HOk P w H h) (k : ∀ b u, h.get? b = some u → h'.get? b = some u) (hp : h.objs.size ≤ a) (new : zbK P w (upd H a o) h' a o) : HOk P w (upd H a o) h' := fun b u e => by
 have hn := x.fresh hp
 by_cases hb : b = a
 ·subst hb; rw [zay] at e; cases e; exact new
 ·rw [zaz hb] at e
  exact (x b u e).stay (fun c v _ q => k c v q) (fun c q => by rw [zaz (zaO q hn)]; exact q) fun c xs q => by rw [zaz (zaO q hn)]; exact q
end
def Rd (H : Hp) (a : Addr) (u : HO) : Prop := H a = some u ∨ ∃ o, H a = some (.frz o u)
theorem Rd.ok {P : Program} {w : World} {H : Hp} {h : Heap} {a : Addr} {u : HO} (r : Rd H a u) (x : HOk P w H h) : zbK P w H h a u := by
 rcases r with r | ⟨o, r⟩
 ·exact x a u r
 ·obtain ⟨_, q⟩ := x a _ r
  exact q
def Mut : Option HO → Prop
 | some (.lst _) => True
 | some (.dK _) => True
 | some (.dT _) => True
 | some (.set _ _) => True
 | some (.ins _ _ _) => True
 | some (.ext _) => True
 | _ => False
section
variable {P : Program} {w : World} {H : Hp} {h h' : Heap} {x e : Addr} {o' : HO}
theorem HOk.write (ok : HOk P w H h) (mu : Mut (H x)) (he : e = x ∨ H e = some (.own x)) (k : ∀ b u, b ≠ e → h.get? b = some u → h'.get? b = some u) (heo : ∃ u, h'.get? e = some u)
  (new : zbK P w (upd H x o') h' x o') : HOk P w (upd H x o') h' := fun b u q => by
 have nown : ∀ c y, H c = some (.own y) → c ≠ x := fun c y r z => by subst z; rw [r] at mu; exact mu
 have ntup : ∀ c xs, H c = some (.tup xs) → c ≠ x := fun c xs r z => by subst z; rw [r] at mu; exact mu
 by_cases hb : b = x
 ·subst hb; rw [zay] at q; cases q; exact new
 ·rw [zaz hb] at q
  by_cases hbe : b = e
  ·have q' : H b = some (.own x) := by
    rcases he with z | z
    ·exact absurd (hbe.trans z) hb
    ·rw [hbe]; exact z
   rw [q] at q'; cases q'
   obtain ⟨v, hv⟩ := heo
   exact ⟨v, by rw [hbe]; exact hv⟩
  ·refine (ok b u q).stay (fun c v hc r => k c v ?_ r) (fun c r => by rw [zaz (nown c b r)]; exact r) fun c xs r => by rw [zaz (ntup c xs r)]; exact r
   rcases hc with rfl | hc
   ·exact hbe
   ·rintro rfl
    rcases he with z | z
    ·exact nown c b hc z
    ·rw [hc] at z; cases z; exact hb rfl
end
structure Un (fs ex : List Addr) (H H' : Hp) (h h' : Heap) : Prop where
 keep : ∀ b o, h.get? b = some o → H b = none → b ∉ fs → b ∉ ex → h'.get? b = some o
 slot : ∀ b o, h.get? b = some o → H b = none → b ∈ fs → b ∉ ex → ∃ sl, h'.get? b = some { o with slots := sl }
 free : ∀ b o, h.get? b = some o → H b = none → b ∉ ex → H' b = none
 there : ∀ b o, h.get? b = some o → b ∉ ex → ∃ o', h'.get? b = some o'
 zb8 : ∀ b xs, H b = some (.tup xs) → H' b = some (.tup xs)
 zdB : ∀ b o u, H b = some (.frz o u) → H' b = some (.frz o u)
 tbls : ∀ b ps, H b = some (.tbl ps) → ∃ more, H' b = some (.tbl (ps ++ more))
section
variable {fs fs' ex ex' : List Addr} {H H1 H2 : Hp} {h h1 h2 h' : Heap} {a x e : Addr} {o : HO}
theorem Un.any (u : Un fs ex H H1 h h1) {b : Addr} {ob : Obj} (q : h.get? b = some ob) (n : H b = none) (hx : b ∉ ex) : ∃ sl, h1.get? b = some { ob with slots := sl } := by
 by_cases hb : b ∈ fs
 ·exact u.slot b ob q n hb hx
 ·exact ⟨ob.slots, u.keep b ob q n hb hx⟩
theorem Un.trans (a : Un fs ex H H1 h h1) (b : Un fs ex H1 H2 h1 h2) : Un fs ex H H2 h h2 where
 keep := fun c ob q n hc hx => b.keep c ob (a.keep c ob q n hc hx) (a.free c ob q n hx) hc hx
 slot := fun c ob q n hc hx => by
  obtain ⟨sl, e1⟩ := a.slot c ob q n hc hx
  obtain ⟨sl', e2⟩ := b.slot c _ e1 (a.free c ob q n hx) hc hx
  exact ⟨sl', e2⟩
 free := fun c ob q n hx => by
  obtain ⟨o', e1⟩ := a.there c ob q hx
  exact b.free c o' e1 (a.free c ob q n hx) hx
 there := fun c ob q hx => by
  obtain ⟨o', e1⟩ := a.there c ob q hx
  exact b.there c o' e1 hx
 zb8 := fun c xs q => b.zb8 c xs (a.zb8 c xs q)
 zdB := fun c ob xs q => b.zdB c ob xs (a.zdB c ob xs q)
 tbls := fun c ps q => by
  obtain ⟨m1, e1⟩ := a.tbls c ps q
  obtain ⟨m2, e2⟩ := b.tbls c _ e1
  exact ⟨m1 ++ m2, by rw [e2, Array.append_assoc]⟩
theorem Un.kept (k : ∀ b u, h.get? b = some u → h'.get? b = some u) : Un fs ex H H h h' :=
 ⟨fun b ob q _ _ _ => k b ob q, fun b ob q _ _ _ => ⟨ob.slots, k b ob q⟩, fun _ _ _ n _ => n, fun b ob q _ => ⟨ob, k b ob q⟩, fun _ _ q => q, fun _ _ _ q => q, fun _ ps q => ⟨#[], by rw [q]; simp⟩⟩
theorem Un.refl : Un fs ex H H h h := Un.kept fun _ _ q => q
theorem Un.laid (k : ∀ b u, h.get? b = some u → h'.get? b = some u) (hp : h.objs.size ≤ a) (hn : H a = none) : Un fs ex H (upd H a o) h h' where
 keep := fun b u q _ _ _ => k b u q
 slot := fun b u q _ _ _ => ⟨u.slots, k b u q⟩
 free := fun b u q n _ => by rw [zaz (Nat.ne_of_lt (Nat.lt_of_lt_of_le (Heap.lt_size q) hp))]; exact n
 there := fun b u q _ => ⟨u, k b u q⟩
 zb8 := fun b xs q => by rw [zaz (zaO q hn)]; exact q
 zdB := fun b u xs q => by rw [zaz (zaO q hn)]; exact q
 tbls := fun b ps q => ⟨#[], by rw [zaz (zaO q hn), q]; simp⟩
theorem Un.write (mu : Mut (H x)) (he : e = x ∨ H e = some (.own x)) (k : ∀ b u, b ≠ e → h.get? b = some u → h'.get? b = some u) (heo : ∃ u, h'.get? e = some u) : Un fs ex H (upd H x o) h h' := by
 have hx : ∀ b, H b = none → b ≠ x := fun b n z => by subst z; rw [n] at mu; exact mu
 have hb : ∀ b, H b = none → b ≠ e := fun b n z => by
  subst z
  rcases he with r | r
  ·exact hx b n r
  ·rw [n] at r; cases r
 have hm : ∀ b u, H b = some u → ¬ Mut (some u) → b ≠ x := fun b u q nm z => by subst z; rw [q] at mu; exact nm mu
 refine ⟨fun b u q n _ _ => k b u (hb b n) q, fun b u q n _ _ => ⟨u.slots, k b u (hb b n) q⟩, fun b u q n _ => by rw [zaz (hx b n)]; exact n, fun b u q _ => ?_,
  fun b xs q => by rw [zaz (hm b _ q fun z => z)]; exact q, fun b u xs q => by rw [zaz (hm b _ q fun z => z)]; exact q, fun b ps q => ⟨#[], by rw [zaz (hm b _ q fun z => z), q]; simp⟩⟩
 by_cases hbe : b = e
 ·subst hbe; exact heo
 ·exact ⟨u, k b u hbe q⟩
theorem Un.mono (u : Un fs ex H H1 h h1) (hs : ∀ b ∈ fs, b ∈ fs') (hx : ∀ b ∈ ex, b ∈ ex') : Un fs' ex' H H1 h h1 :=
 ⟨fun b ob q n hb he => u.keep b ob q n (fun z => hb (hs b z)) fun z => he (hx b z), fun _ _ q n _ he => u.any q n fun z => he (hx _ z), fun b ob q n he => u.free b ob q n fun z => he (hx b z), fun b ob q he => u.there b ob q fun z => he (hx b z), u.zb8, u.zdB, u.tbls⟩
end
def trk (h : Heap) (H : Hp) : List Addr := (List.range h.objs.size).filter fun a => (H a).isSome
def zju (h : Heap) (H : Hp) : Heap := PySem.W.hideAll h (trk h H)
theorem zhP (h : Heap) (H : Hp) : (zju h H).objs.size = h.objs.size := PySem.W.hideAll_size _ _
theorem zjv {h : Heap} {H : Hp} {b : Addr} {o : Obj} (e : h.get? b = some o) (n : H b = none) : (zju h H).get? b = some o :=
 PySem.W.hideAll_get _ e fun hm => by
  have q : (H b).isSome = true := (List.mem_filter.mp hm).2
  rw [n] at q; simp at q
theorem zkQ {h : Heap} {H : Hp} {b : Addr} {o : Obj} (e : (zju h H).get? b = some o) : h.get? b = some o ∧ H b = none := by
 have e' : h.get? b = some o := PySem.W.of_hideAll (trk h H) e
 refine ⟨e', ?_⟩
 cases q : H b with
 | none => rfl
 | some x =>
  have hm : b ∈ trk h H := List.mem_filter.mpr ⟨List.mem_range.mpr (Heap.lt_size e'), by simp [q]⟩
  have z : (zju h H).get? b = none := PySem.W.hideAll_none (trk h H) hm
  rw [z] at e; cases e
end L2
namespace L2
open PySem PySem.Spec PyProof.Rows
structure Mod (K : PySem.W.Frag) (mg : Str → Option Value) (base : Heap) : Prop where
 kin : K.In base
 glob : base.Ns mainGlobals mg
 blt : ∃ mb, base.Ns builtinsNs mb ∧ ∀ x : Str, x ≠ "__name__" → mb x = bootBuiltins x
 nolimit : base.NoLimit
structure Cx where
 prog : Program
 w : World
 K : PySem.W.Frag
 mg : Str → Option Value
 base : Heap
 A : Around
 N : List Str
 s₀ : Shared
 H₀ : Hp
 env : Env
 outer : List Env
 stack : List Env
 ex : List Addr
 fn : Str → Bool
 calm : Bool
 pn : List (Addr × Obj)
 xe : Value → Shared → Prop
def frs (l : List Env) : List Addr := l.filterMap (·.frame)
abbrev Cx.fs (X : Cx) : List Addr := frs X.outer
def Vis (sc : Scope) (x : Str) : Prop := sc.names.lookup x = some .local ∨ sc.names.lookup x = some .cell ∨ sc.names.lookup x = some .free
def Loc (sc : Scope) (x : Str) : Prop := sc.names.lookup x = some .local ∨ sc.names.lookup x = some .cell
def Look (env : Env) (h : Heap) (m : Str → Option Value) (x : Str) (u : Value) : Prop :=
 (env.kindOf x = some .local ∧ m x = some u) ∨ ((env.kindOf x = some .cell ∨ env.kindOf x = some .free) ∧ ∃ c, env.cells.lookup x = some c ∧ h.IsCell c (some u))
structure Cx.Ok (X : Cx) : Prop where
 mod : Mod X.K X.mg X.base
 kind : X.env.scope.kind = .function
 glob : X.env.globals = mainGlobals
 blt : X.env.builtins = builtinsNs
 above : X.s₀.heap.objs.size ≤ X.env.locals
 inj : ∀ x y c, X.env.cells.lookup x = some c → X.env.cells.lookup y = some c → x = y
 has : ∀ x, (X.env.kindOf x = some .cell ∨ X.env.kindOf x = some .free) → ∃ c, X.env.cells.lookup x = some c
 cab : ∀ x c, X.fn x = true → X.env.cells.lookup x = some c → X.s₀.heap.objs.size ≤ c
 hd : X.calm = true → X.A.handled = none
 frames : X.A.frames = some X.stack
 stk : X.stack = X.outer ∨ (X.stack = X.env :: X.outer ∧ X.env.frame = some X.env.locals)
 exf : ∀ b ∈ X.ex, b ≠ X.env.locals ∧ ∀ x c, X.env.cells.lookup x = some c → c ≠ b
 bs : ∀ b o, X.base.get? b = some o → X.s₀.heap.get? b = some o ∧ X.H₀ b = none
 bsz : X.base.objs.size ≤ X.s₀.heap.objs.size
 noex : ∀ b o, X.base.get? b = some o → b ∉ X.ex
 exfs : ∀ b ∈ X.ex, b ∉ X.fs
 zhQ : X.s₀.heap.FunFrames X.base X.outer
 frf : ∀ b ∈ X.fs, X.H₀ b = none
structure Inv (X : Cx) (pins : List (Addr × Obj)) (σ : List (Option V)) (H : Hp) (s : Shared) : Prop where
 ok : X.Ok
 os : s.os = X.s₀.os
 bare : AllBare s.gens
 base : Un X.fs X.ex X.H₀ H X.s₀.heap s.heap
 loc : ∃ m, s.heap.Ns X.env.locals m ∧ ∀ (i : Nat) (x : Str) (v : V), X.N[i]? = some x → σ[i]? = some (some v) → Vis X.env.scope x → ∃ u, RelV v u ∧ Look X.env s.heap m x u
 cell : ∀ x c, X.env.cells.lookup x = some c → ∃ v, s.heap.IsCell c v
 free : H X.env.locals = none
 freeC : ∀ x c, X.env.cells.lookup x = some c → H c = none
 pin : ∀ p ∈ X.pn ++ pins, s.heap.get? p.1 = some p.2 ∧ H p.1 = none ∧ p.1 ≠ X.env.locals ∧ p.1 ∉ X.fs ∧ ∀ v, p.2.data ≠ .cell v
 hok : HOk X.prog X.w H s.heap
 len : σ.length = X.N.length
section
variable {X : Cx} {pins : List (Addr × Obj)} {σ : List (Option V)} {H H' : Hp} {s : Shared} {h' : Heap}
theorem Cx.Ok.nofr (ok : X.Ok) {b : Addr} {o : Obj} (e : X.base.get? b = some o) : b ∉ X.fs := fun hb => by
 have := (ok.zhQ.mem hb).1
 rw [e] at this; cases this
theorem Inv.bs (I : Inv X pins σ H s) : ∀ b o, X.base.get? b = some o → s.heap.get? b = some o ∧ H b = none := fun b o e =>
 ⟨I.base.keep b o (I.ok.bs b o e).1 (I.ok.bs b o e).2 (I.ok.nofr e) (I.ok.noex b o e), I.base.free b o (I.ok.bs b o e).1 (I.ok.bs b o e).2 (I.ok.noex b o e)⟩
theorem Inv.bk (I : Inv X pins σ H s) : ∀ b o, X.base.get? b = some o → s.heap.get? b = some o := fun b o e => (I.bs b o e).1
theorem Inv.mod (I : Inv X pins σ H s) : Mod X.K X.mg X.base := I.ok.mod
theorem Inv.kIn (I : Inv X pins σ H s) : X.K.In s.heap := I.ok.mod.kin.keeps I.bk
theorem Inv.lt (I : Inv X pins σ H s) : X.env.locals < s.heap.objs.size := let ⟨_, hn, _⟩ := I.loc; hn.lt
theorem Inv.sz (I : Inv X pins σ H s) : X.s₀.heap.objs.size ≤ s.heap.objs.size := Nat.le_trans I.ok.above (Nat.le_of_lt I.lt)
theorem Inv.nofs (I : Inv X pins σ H s) {a : Addr} (h : s.heap.objs.size ≤ a) : a ∉ X.fs := fun hb => by
 obtain ⟨_, o, ho, _⟩ := I.ok.zhQ.mem hb
 exact absurd (Nat.lt_of_lt_of_le (Heap.lt_size ho) (Nat.le_trans I.sz h)) (Nat.lt_irrefl _)
theorem Inv.cne (I : Inv X pins σ H s) : ∀ x c, X.env.cells.lookup x = some c → c ≠ X.env.locals := fun x c e z => by
 obtain ⟨v, o, ho, hd⟩ := I.cell x c e
 obtain ⟨m, ⟨o', es, ep, ho', hd', _⟩, _⟩ := I.loc
 rw [z, ho'] at ho; cases ho; rw [hd'] at hd; cases hd
theorem Inv.zhQ (I : Inv X pins σ H s) : s.heap.FunFrames X.base X.outer := by
 have all : ∀ (l : List Env), (∀ b ∈ frs l, b ∈ X.fs) → X.s₀.heap.FunFrames X.base l → s.heap.FunFrames X.base l := by
  intro l
  induction l with
  | nil => intro _ _; trivial
  | cons env r ih =>
   intro hs hl
   obtain ⟨hk, ⟨L, o, hf, hn, ho, hd⟩, hr⟩ := hl
   have hL : L ∈ X.fs := hs L (by unfold frs; rw [List.filterMap_cons, hf]; exact lS)
   obtain ⟨sl, e⟩ := I.base.slot L o ho (I.ok.frf L hL) hL fun z => I.ok.exfs L z hL
   exact ⟨hk, ⟨L, _, hf, hn, e, hd⟩, ih (fun b hb => hs b (by unfold frs; rw [List.filterMap_cons, hf]; exact lO _ hb)) hr⟩
 exact all X.outer (fun _ hb => hb) I.ok.zhQ
theorem Inv.stack (I : Inv X pins σ H s) : s.heap.FunFrames X.base X.stack := by
 rcases I.ok.stk with e | ⟨e, hf⟩
 ·rw [e]; exact I.zhQ
 ·rw [e]
  obtain ⟨m, hn, _⟩ := I.loc
  refine .cons (by rw [I.ok.kind]; decide) hf hn ?_ I.zhQ
  exact Heap.get?_none_of_le (Nat.le_trans I.ok.bsz I.ok.above)
theorem Inv.zcr (I : Inv X pins σ H s) : ∀ b ∈ frs X.stack, b ∈ X.env.locals :: X.fs := fun b hb => by
 rcases I.ok.stk with e | ⟨e, hf⟩
 ·rw [e] at hb; exact lO _ hb
 ·rw [e] at hb
  unfold frs at hb
  rw [List.filterMap_cons, hf] at hb
  exact hb
theorem Inv.zf4 (I : Inv X pins σ H s) : ∀ b ∈ frs X.stack, H b = none := fun b hb => by
 rcases lK (I.zcr b hb) with e | hb
 ·rw [e]; exact I.free
 ·obtain ⟨_, o, ho, _⟩ := I.ok.zhQ.mem hb
  exact I.base.free b o ho (I.ok.frf b hb) fun z => I.ok.exfs b z hb
theorem Inv.step {g' : Array GenState} {t' : Nat} {d' : Drawn} {ch : List Addr} (I : Inv X pins σ H s)
  (hch : ∀ b ∈ ch, (b ∈ X.ex ∨ X.s₀.heap.objs.size ≤ b) ∧ b ≠ X.env.locals ∧ (∀ x c, X.env.cells.lookup x = some c → c ≠ b) ∧ ∀ p ∈ X.pn ++ pins, p.1 ≠ b)
  (keep : ∀ b o, b ≠ X.env.locals → b ∉ X.fs → b ∉ ch → s.heap.get? b = some o → H b = none → h'.get? b = some o)
  (slot : ∀ b o, b ≠ X.env.locals → b ∈ X.fs → b ∉ ch → s.heap.get? b = some o → H b = none → ∃ sl, h'.get? b = some { o with slots := sl }) (free : ∀ b o, b ∉ ch → s.heap.get? b = some o → H b = none → H' b = none)
  (there : ∀ b o, b ∉ ch → s.heap.get? b = some o → ∃ o', h'.get? b = some o')
  (zb8 : ∀ b xs, H b = some (.tup xs) → H' b = some (.tup xs)) (zdB : ∀ b o u, H b = some (.frz o u) → H' b = some (.frz o u)) (tbls : ∀ b ps, H b = some (.tbl ps) → ∃ more, H' b = some (.tbl (ps ++ more)))
  (ns : ∀ m, s.heap.Ns X.env.locals m → h'.Ns X.env.locals m) (hok : HOk X.prog X.w H' h') (hg : AllBare g') :
  Inv X pins σ H' { s with heap := h', gens := g', drawn := d', toks := t' } := by
 have neL : ∀ b o, X.s₀.heap.get? b = some o → b ≠ X.env.locals := fun b o e => Nat.ne_of_lt (Nat.lt_of_lt_of_le (Heap.lt_size e) I.ok.above)
 have neC : ∀ b o, X.s₀.heap.get? b = some o → b ∉ X.ex → b ∉ ch := fun b o e hx hb => by
  rcases (hch b hb).1 with z | z
  ·exact hx z
  ·exact absurd (Nat.lt_of_lt_of_le (Heap.lt_size e) z) (Nat.lt_irrefl _)
 have cellK : ∀ x c, X.env.cells.lookup x = some c → ∀ v, s.heap.IsCell c v → h'.IsCell c v := fun x c e v ⟨o, ho, hd⟩ => by
  have nch : c ∉ ch := fun z => (hch c z).2.2.1 x c e rfl
  by_cases hc : c ∈ X.fs
  ·obtain ⟨sl, q⟩ := slot c o (I.cne x c e) hc nch ho (I.freeC x c e)
   exact ⟨_, q, hd⟩
  ·exact ⟨o, keep c o (I.cne x c e) hc nch ho (I.freeC x c e), hd⟩
 refine ⟨I.ok, I.os, hg, ⟨fun b o e n hb hx => ?_, fun b o e n hb hx => ?_, fun b o e n hx => ?_, fun b o e hx => ?_, fun b xs e => zb8 b xs (I.base.zb8 b xs e), fun b o xs e => zdB b o xs (I.base.zdB b o xs e), fun b ps e => ?_⟩, ?_, fun x c e => ?_, ?_, fun x c e => ?_, fun p hp => ?_, hok, I.len⟩
 ·exact keep b o (neL b o e) hb (neC b o e hx) (I.base.keep b o e n hb hx) (I.base.free b o e n hx)
 ·obtain ⟨sl, e1⟩ := I.base.slot b o e n hb hx
  obtain ⟨sl', e2⟩ := slot b _ (neL b o e) hb (neC b o e hx) e1 (I.base.free b o e n hx)
  exact ⟨sl', e2⟩
 ·obtain ⟨o', e1⟩ := I.base.there b o e hx
  exact free b o' (neC b o e hx) e1 (I.base.free b o e n hx)
 ·obtain ⟨o', e1⟩ := I.base.there b o e hx
  exact there b o' (neC b o e hx) e1
 ·obtain ⟨m1, e1⟩ := I.base.tbls b ps e
  obtain ⟨m2, e2⟩ := tbls b _ e1
  exact ⟨m1 ++ m2, by rw [e2, Array.append_assoc]⟩
 ·obtain ⟨m, hn, hl⟩ := I.loc
  refine ⟨m, ns m hn, fun i x v e1 e2 e3 => ?_⟩
  obtain ⟨u, r, l⟩ := hl i x v e1 e2 e3
  refine ⟨u, r, ?_⟩
  rcases l with l | ⟨k, c, e, z⟩
  ·exact .inl l
  ·exact .inr ⟨k, c, e, cellK x c e _ z⟩
 ·obtain ⟨v, z⟩ := I.cell x c e
  exact ⟨v, cellK x c e v z⟩
 ·obtain ⟨m, ⟨o, _, _, ho, _⟩, _⟩ := I.loc
  exact free _ o (fun z => (hch _ z).2.1 rfl) ho I.free
 ·obtain ⟨v, o, ho, hd⟩ := I.cell x c e
  exact free c o (fun z => (hch c z).2.2.1 x c e rfl) ho (I.freeC x c e)
 ·obtain ⟨e, n, ne, nf, d⟩ := I.pin p hp
  have nch : p.1 ∉ ch := fun z => (hch p.1 z).2.2.2 p hp rfl
  exact ⟨keep p.1 p.2 ne nf nch e n, free p.1 p.2 nch e n, ne, nf, d⟩
theorem Inv.un {t' : Nat} (I : Inv X pins σ H s) (u : Un X.fs [] H H' s.heap h') (hok : HOk X.prog X.w H' h') : Inv X pins σ H' { s with heap := h', toks := t' } := by
 obtain ⟨m, ⟨o, es, ep, ho, r⟩, _⟩ := id I.loc
 obtain ⟨sl, hL⟩ := u.any ho I.free (by simp)
 exact I.step (g' := s.gens) (d' := s.drawn) (ch := []) (fun _ z => nomatch z) (fun b o _ hb _ e n => u.keep b o e n hb (by simp)) (fun b o _ hb _ e n => u.slot b o e n hb (by simp)) (fun b o _ e n => u.free b o e n (by simp)) (fun b o _ e => u.there b o e (by simp)) u.zb8 u.zdB u.tbls (fun m' hm => by
  obtain ⟨o', es', ep', ho', r'⟩ := hm
  rw [ho] at ho'; cases ho'
  exact ⟨_, es', ep', hL, r'⟩) hok I.bare
theorem Inv.call {g' : Array GenState} {t' : Nat} {d' : Drawn} {ch : List Addr} (I : Inv X pins σ H s) (u : Un (frs X.stack) ch H H' s.heap h') (hok : HOk X.prog X.w H' h') (hg : AllBare g')
  (hch : ∀ b ∈ ch, (b ∈ X.ex ∨ X.s₀.heap.objs.size ≤ b) ∧ b ≠ X.env.locals ∧ (∀ x c, X.env.cells.lookup x = some c → c ≠ b) ∧ ∀ p ∈ X.pn ++ pins, p.1 ≠ b) :
  Inv X pins σ H' { s with heap := h', gens := g', drawn := d', toks := t' } := by
 obtain ⟨m, ⟨o, es, ep, ho, r⟩, _⟩ := id I.loc
 obtain ⟨sl, hL⟩ := u.any ho I.free fun z => (hch _ z).2.1 rfl
 exact I.step (ch := ch) hch (fun b o hL hb hc e n => u.keep b o e n (fun z => (lK (I.zcr b z)).elim hL hb) hc) (fun b o _ _ hc e n => u.any e n hc) (fun b o hc e n => u.free b o e n hc) (fun b o hc e => u.there b o e hc) u.zb8 u.zdB u.tbls (fun m' hm => by
  obtain ⟨o', es', ep', ho', r'⟩ := hm
  rw [ho] at ho'; cases ho'
  exact ⟨_, es', ep', hL, r'⟩) hok hg
theorem Inv.turned {t' : Nat} {it : Addr} (I : Inv X pins σ H s) (k : ∀ b o, b ≠ it → s.heap.get? b = some o → h'.get? b = some o) (hn : H it = none) (hL : it ≠ X.env.locals)
  (h1 : it ∈ X.ex ∨ X.s₀.heap.objs.size ≤ it) (h2 : ∀ x c, X.env.cells.lookup x = some c → c ≠ it) (h3 : ∀ p ∈ X.pn ++ pins, p.1 ≠ it) : Inv X pins σ H { s with heap := h', toks := t' } := by
 have nit : ∀ b u, H b = some u → b ≠ it := fun b u e z => by rw [z, hn] at e; cases e
 refine I.step (g' := s.gens) (d' := s.drawn) (ch := [it]) (fun b hb => ?_) (fun b o _ _ hc e _ => k b o (fun z => hc (by simp [z])) e) (fun b o _ _ hc e _ => ⟨o.slots, k b o (fun z => hc (by simp [z])) e⟩) (fun _ _ _ _ n => n)
  (fun b o hc e => ⟨o, k b o (fun z => hc (by simp [z])) e⟩) (fun _ _ e => e) (fun _ _ _ e => e) (fun b ps e => ⟨#[], by rw [e]; simp⟩) (fun m hm => ?_) (fun b u e => ?_) I.bare
 ·have e : b = it := by simpa using hb
  subst e
  exact ⟨h1, hL, h2, h3⟩
 ·obtain ⟨o, es, ep, ho, r⟩ := hm
  exact ⟨o, es, ep, k _ o (Ne.symm hL) ho, r⟩
 ·refine (I.hok b u e).stay (fun c v hc q => k c v ?_ q) (fun _ q => q) fun _ _ q => q
  rcases hc with z | z
  ·rw [z]; exact nit b u e
  ·exact nit c _ z
theorem Inv.tok (I : Inv X pins σ H s) (t : Nat) : Inv X pins σ H { s with toks := t } := I.un (h' := s.heap) (t' := t) Un.refl I.hok
theorem Inv.kept {t' : Nat} (I : Inv X pins σ H s) (k : ∀ b u, s.heap.get? b = some u → h'.get? b = some u) : Inv X pins σ H { s with heap := h', toks := t' } := I.un (Un.kept k) (I.hok.kept k)
theorem Inv.laid {a : Addr} {o : HO} {t' : Nat} (I : Inv X pins σ H s) (k : ∀ b u, s.heap.get? b = some u → h'.get? b = some u) (hp : s.heap.objs.size ≤ a) (new : zbK X.prog X.w (upd H a o) h' a o) :
  Inv X pins σ (upd H a o) { s with heap := h', toks := t' } := I.un (Un.laid k hp (I.hok.fresh hp)) (I.hok.laid k hp new)
theorem Inv.write {x e : Addr} {o : HO} {t' : Nat} (I : Inv X pins σ H s) (mu : Mut (H x)) (he : e = x ∨ H e = some (.own x)) (k : ∀ b u, b ≠ e → s.heap.get? b = some u → h'.get? b = some u) (heo : ∃ u, h'.get? e = some u)
  (new : zbK X.prog X.w (upd H x o) h' x o) : Inv X pins σ (upd H x o) { s with heap := h', toks := t' } := I.un (Un.write mu he k heo) (I.hok.write mu he k heo new)
theorem Inv.zhR {pins' : List (Addr × Obj)} (I : Inv X pins σ H s) (h : ∀ p ∈ pins', s.heap.get? p.1 = some p.2 ∧ H p.1 = none ∧ p.1 ≠ X.env.locals ∧ p.1 ∉ X.fs ∧ ∀ v, p.2.data ≠ .cell v) : Inv X pins' σ H s :=
 ⟨I.ok, I.os, I.bare, I.base, I.loc, I.cell, I.free, I.freeC, fun p hp => (lM hp).elim (fun z => I.pin p (lL _ z)) (h p), I.hok, I.len⟩
theorem zgJ {N : List Str} (hN : N.Nodup) {i j : Nat} {x : Str} (a : N[i]? = some x) (b : N[j]? = some x) : i = j := by
 obtain ⟨h1, e1⟩ := List.getElem?_eq_some_iff.mp a
 obtain ⟨h2, e2⟩ := List.getElem?_eq_some_iff.mp b
 exact (List.getElem_inj hN).mp (e1.trans e2.symm)
theorem zcG {M : Model} {A : Around} {E : Value → Shared → Prop} {i : Nat} {x : Str} {v : V} {u : Value} {Q : Unit → Shared → Prop} (I : Inv X pins σ H s) (hN : X.N.Nodup) (hi : X.N[i]? = some x) (hx : Loc X.env.scope x) (r : RelV v u)
  (h : ∀ s', Inv X pins (σ.set i (some v)) H s' → (∃ a, Heap.SameBut a s.heap s'.heap ∧ (a = X.env.locals ∨ X.env.cells.lookup x = some a)) → Q () s') (hf : X.fn x = true ∨ X.env.scope.names.lookup x = some .local := by first | exact .inl rfl | exact .inr rfl | assumption) : wpAny M A (storeName X.env x u) Q E s := by
 obtain ⟨m, hn, hl⟩ := id I.loc
 have hcls : (X.env.scope.kind == .class || (X.env.scope.kind == .module && X.env.locals != X.env.globals)) = false := by rw [I.ok.kind]; rfl
 have hiσ : i < σ.length := by rw [I.len]; exact (List.getElem?_eq_some_iff.mp hi).1
 have cne := I.cne
 have tracked : ∀ {a : Addr} {h' : Heap}, (∃ o, s.heap.get? a = some o ∧ H a = none) → Heap.SameBut a s.heap h' → HOk X.prog X.w H h' := fun {a h'} ha hs b ob e => by
  obtain ⟨_, _, hfree⟩ := ha
  refine (I.hok b ob e).stay (fun c w' hc q => (hs.2 c ?_).trans q) (fun _ q => q) fun _ _ q => q
  rintro rfl
  rcases hc with rfl | hc
  ·rw [hfree] at e; cases e
  ·rw [hfree] at hc; cases hc
 rcases hx with hk | hk
 ·refine wpAny_storeName_local hk hn (fun h' hn' hs => ?_) hcls
  obtain ⟨oL, _, _, hoL, _⟩ := id hn
  refine h _ ⟨I.ok, I.os, I.bare, ⟨fun b o e n hb hx => ?_, fun b o e n hb hx => ?_, I.base.free, fun b o e hx => ?_, I.base.zb8, I.base.zdB, I.base.tbls⟩, ⟨_, hn', fun j y v' e1 e2 e3 => ?_⟩, fun y c e => ?_, I.free, I.freeC, fun p hp => ?_, tracked ⟨oL, hoL, I.free⟩ hs, by simpa using I.len⟩ ⟨_, hs, .inl rfl⟩
  ·exact (hs.2 b (Nat.ne_of_lt (Nat.lt_of_lt_of_le (Heap.lt_size e) I.ok.above))).trans (I.base.keep b o e n hb hx)
  ·obtain ⟨sl, e1⟩ := I.base.slot b o e n hb hx
   exact ⟨sl, (hs.2 b (Nat.ne_of_lt (Nat.lt_of_lt_of_le (Heap.lt_size e) I.ok.above))).trans e1⟩
  ·obtain ⟨o', e1⟩ := I.base.there b o e hx
   exact ⟨o', (hs.2 b (Nat.ne_of_lt (Nat.lt_of_lt_of_le (Heap.lt_size e) I.ok.above))).trans e1⟩
  ·by_cases hj : j = i
   ·subst hj
    rw [hi] at e1; cases e1
    rw [List.getElem?_set_self hiσ] at e2
    cases e2
    exact ⟨u, r, .inl ⟨hk, by simp⟩⟩
   ·rw [List.getElem?_set_ne (Ne.symm hj)] at e2
    obtain ⟨u', r', q⟩ := hl j y v' e1 e2 e3
    refine ⟨u', r', ?_⟩
    rcases q with ⟨k, e⟩ | ⟨k, c, e, z⟩
    ·refine .inl ⟨k, ?_⟩
     have : y ≠ x := fun e => hj (zgJ hN e1 (e ▸ hi))
     simp [this, e]
    ·exact .inr ⟨k, c, e, z.sameBut hs (cne y c e)⟩
  ·obtain ⟨w', z⟩ := I.cell y c e
   exact ⟨w', z.sameBut hs (cne y c e)⟩
  ·obtain ⟨e, n, ne, nf, d⟩ := I.pin p hp
   exact ⟨(hs.2 p.1 ne).trans e, n, ne, nf, d⟩
 ·have hfn : X.fn x = true := by
   rcases hf with z | z
   ·exact z
   ·rw [z] at hk; cases hk
  obtain ⟨c, hc⟩ := I.ok.has x (.inl hk)
  obtain ⟨w', z⟩ := I.cell x c hc
  refine wpAny_storeName_cell I.ok.kind hk hc z (fun h' hc' hs => ?_)
  obtain ⟨oc, hoc, hocd⟩ := id z
  refine h { s with heap := h' } ⟨I.ok, I.os, I.bare, ⟨fun b o e n hb hx => ?_, fun b o e n hb hx => ?_, I.base.free, fun b o e hx => ?_, I.base.zb8, I.base.zdB, I.base.tbls⟩, ⟨m, hn.sameBut hs (Ne.symm (cne x c hc)), fun j y v' e1 e2 e3 => ?_⟩, fun y c' e => ?_, I.free, I.freeC, fun p hp => ?_, tracked ⟨oc, hoc, I.freeC x c hc⟩ hs, by simpa using I.len⟩ ⟨c, hs, .inr hc⟩
  ·exact (hs.2 b (Nat.ne_of_lt (Nat.lt_of_lt_of_le (Heap.lt_size e) (I.ok.cab x c hfn hc)))).trans (I.base.keep b o e n hb hx)
  ·obtain ⟨sl, e1⟩ := I.base.slot b o e n hb hx
   exact ⟨sl, (hs.2 b (Nat.ne_of_lt (Nat.lt_of_lt_of_le (Heap.lt_size e) (I.ok.cab x c hfn hc)))).trans e1⟩
  ·obtain ⟨o', e1⟩ := I.base.there b o e hx
   exact ⟨o', (hs.2 b (Nat.ne_of_lt (Nat.lt_of_lt_of_le (Heap.lt_size e) (I.ok.cab x c hfn hc)))).trans e1⟩
  ·by_cases hj : j = i
   ·subst hj
    rw [hi] at e1; cases e1
    rw [List.getElem?_set_self hiσ] at e2
    cases e2
    exact ⟨u, r, .inr ⟨.inl hk, c, hc, hc'⟩⟩
   ·rw [List.getElem?_set_ne (Ne.symm hj)] at e2
    obtain ⟨u', r', q⟩ := hl j y v' e1 e2 e3
    refine ⟨u', r', ?_⟩
    rcases q with q | ⟨k, c', e, z'⟩
    ·exact .inl q
    ·refine .inr ⟨k, c', e, z'.sameBut hs ?_⟩
     rintro rfl
     exact hj (zgJ hN e1 (I.ok.inj _ _ _ e hc ▸ hi))
  ·by_cases hcc : c' = c
   ·subst hcc; exact ⟨_, hc'⟩
   ·obtain ⟨w2, z2⟩ := I.cell y c' e
    exact ⟨w2, z2.sameBut hs hcc⟩
  ·obtain ⟨e, n, ne, nf, d⟩ := I.pin p hp
   refine ⟨(hs.2 p.1 ?_).trans e, n, ne, nf, d⟩
   intro q
   rw [q, hoc] at e
   have q' : oc = p.2 := Option.some.inj e
   exact d w' (by rw [← q']; exact hocd)
theorem zcl {M : Model} {A : Around} {E : Value → Shared → Prop} {i : Nat} {x : Str} {v : V} {u : Value} {Q : Unit → Shared → Prop} (I : Inv X pins σ H s) (hN : X.N.Nodup) (hi : X.N[i]? = some x) (hx : Loc X.env.scope x) (r : RelV v u)
  (h : ∀ s', Inv X pins (σ.set i (some v)) H s' → Q () s') (hf : X.fn x = true ∨ X.env.scope.names.lookup x = some .local := by first | exact .inl rfl | exact .inr rfl | assumption) : wpAny M A (storeName X.env x u) Q E s :=
 zcG I hN hi hx r (fun s' I' _ => h s' I') hf
theorem Inv.zmC {s' : Shared} {ch : List Addr} (I : Inv X pins σ H s) (ho : s'.os = s.os) (u : Un (frs X.stack) ch H H' s.heap s'.heap) (hok : HOk X.prog X.w H' s'.heap) (hg : AllBare s'.gens)
  (hch : ∀ b ∈ ch, (b ∈ X.ex ∨ X.s₀.heap.objs.size ≤ b) ∧ b ≠ X.env.locals ∧ (∀ x c, X.env.cells.lookup x = some c → c ≠ b) ∧ ∀ p ∈ X.pn ++ pins, p.1 ≠ b) : Inv X pins σ H' s' := by
 obtain ⟨h', g', d', t', o'⟩ := s'
 have e : o' = s.os := ho
 subst e
 exact I.call (g' := g') (t' := t') (d' := d') u hok hg hch
end
abbrev XK := Value → Option Addr → Hp → Prop
abbrev St := List (Option V)
abbrev VK := V → Hp → Prop
abbrev TE := St → Hp → VK → Prop
abbrev TT := St → Hp → (Bool → Hp → Prop) → Prop
abbrev TA := St → Hp → (List V → Hp → Prop) → Prop
structure Ends where
 nx : St → Hp → Prop
 rt : VK
 bk : St → Hp → Prop := fun _ _ => False
 ct : St → Hp → Prop := fun _ _ => False
abbrev TS := Ends → St → Hp → Prop
def EP (X : Cx) (pins : List (Addr × Obj)) (σ : St) (Q : VK) (u : Value) (s' : Shared) : Prop := ∃ v H', Inv X pins σ H' s' ∧ RelV v u ∧ Q v H'
def TP (X : Cx) (pins : List (Addr × Obj)) (σ : St) (Q : Bool → Hp → Prop) (b : Bool) (s' : Shared) : Prop := ∃ H', Inv X pins σ H' s' ∧ Q b H'
def AP (X : Cx) (pins : List (Addr × Obj)) (σ : St) (Q : List V → Hp → Prop) (us : List Value) (s' : Shared) : Prop := ∃ vs H', Inv X pins σ H' s' ∧ zaW vs us ∧ Q vs H'
def SP (X : Cx) (pins : List (Addr × Obj)) (D : Ends) (f : Flow) (s' : Shared) : Prop :=
 match f with
 | .next => ∃ σ' H', Inv X pins σ' H' s' ∧ D.nx σ' H'
 | .brk => ∃ σ' H', Inv X pins σ' H' s' ∧ D.bk σ' H'
 | .cont => ∃ σ' H', Inv X pins σ' H' s' ∧ D.ct σ' H'
 | .ret u => ∃ v σ' H', Inv X pins σ' H' s' ∧ RelV v u ∧ D.rt v H'
def PE (X : Cx) (e : Expr) (t : TE) : Prop :=
 ∀ (pins : List (Addr × Obj)) (s : Shared) (σ : St) (H : Hp) (Q : VK), Inv X pins σ H s → t σ H Q → wpAny (model X.prog X.w) X.A (eval e X.env) (EP X pins σ Q) X.xe s
def PT (X : Cx) (e : Expr) (t : TT) : Prop :=
 ∀ (pins : List (Addr × Obj)) (s : Shared) (σ : St) (H : Hp) (Q : Bool → Hp → Prop), Inv X pins σ H s → t σ H Q → wpAny (model X.prog X.w) X.A (isTrue e X.env (eval e X.env)) (TP X pins σ Q) X.xe s
def PW (X : Cx) (e : Expr) (t : TT) : Prop :=
 ∀ (whole : Sem Value) (pins : List (Addr × Obj)) (s : Shared) (σ : St) (H : Hp) (Q : Bool → Hp → Prop), Inv X pins σ H s → t σ H Q → wpAny (model X.prog X.w) X.A (isTrue e X.env whole) (TP X pins σ Q) X.xe s
theorem PW.pt {X : Cx} {e : Expr} {t : TT} (h : PW X e t) : PT X e t := h _
def PA (X : Cx) (es : List Expr) (t : TA) : Prop :=
 ∀ (pos : Pos) (pins : List (Addr × Obj)) (s : Shared) (σ : St) (H : Hp) (Q : List V → Hp → Prop), Inv X pins σ H s → t σ H Q → wpAny (model X.prog X.w) X.A (spliced (backTo pos (starEach es X.env))) (AP X pins σ Q) X.xe s
def PS (X : Cx) (st : Stmt) (t : TS) : Prop :=
 ∀ (pins : List (Addr × Obj)) (s : Shared) (σ : St) (H : Hp) (D : Ends), Inv X pins σ H s → t D σ H → wpAny (model X.prog X.w) X.A (exec st X.env) (SP X pins D) X.xe s
def PSs (X : Cx) (st : List Stmt) (t : TS) : Prop :=
 ∀ (pins : List (Addr × Obj)) (s : Shared) (σ : St) (H : Hp) (D : Ends), Inv X pins σ H s → t D σ H → wpAny (model X.prog X.w) X.A (execs st X.env) (SP X pins D) X.xe s
theorem thn {α : Type} {t : Sem α} {Q Q' : α → Shared → Prop} {M : Model} {A : Around} {E : Value → Shared → Prop} {s : Shared} (h : wpAny M A t Q E s) (hQ : ∀ a s, Q a s → Q' a s) : wpAny M A t Q' E s := wpAny_mono h hQ fun _ _ x => x
end L2
namespace L2
open PySem PySem.Spec PyProof.Rows
section
variable {X : Cx}
theorem bin {a b : Expr} {ta tb : TE} (ha : PE X a ta) (hb : PE X b tb) {pins : List (Addr × Obj)} {s : Shared} {σ : St} {H : Hp} {R : V → V → Hp → Prop} (I : Inv X pins σ H s) (h : ta σ H fun x H1 => tb σ H1 fun y H2 => R x y H2)
  {α : Type} {Q : α → Shared → Prop} {f : Value → Value → Sem α}
  (hf : ∀ v u s2 x y H2, Inv X pins σ H2 s2 → RelV x v → RelV y u → R x y H2 → wpAny (model X.prog X.w) X.A (f v u) Q X.xe s2) :
  wpAny (model X.prog X.w) X.A (eval a X.env) (fun v s₁ => wpAny (model X.prog X.w) X.A (eval b X.env) (fun u s₂ => wpAny (model X.prog X.w) X.A (f v u) Q X.xe s₂) X.xe s₁) X.xe s := by
 refine thn (ha pins s σ H _ I h) fun v s1 ⟨x, H1, I1, r1, q1⟩ => ?_
 refine thn (hb pins s1 σ H1 _ I1 q1) fun u s2 ⟨y, H2, I2, r2, q2⟩ => ?_
 exact hf v u s2 x y H2 I2 r1 r2 q2
def zdC (i : Nat) : TE := fun σ H Q => ∃ v, σ[i]? = some (some v) ∧ Q v H
def tC (v : V) : TE := fun _ H Q => Q v H
theorem zkh {i : Nat} {x : Str} {pos : Pos} (hN : X.N[i]? = some x) (hv : Vis X.env.scope x) (hd : (x == ("__debug__" : Str)) = false := by decide) (hcd : (x == ("__classdict__" : Str)) = false := by decide) : PE X (.Name x pos) (zdC i) := by
 intro pins s σ H Q I h
 obtain ⟨v, e, h⟩ := h
 obtain ⟨m, hn, hl⟩ := I.loc
 obtain ⟨u, r, l⟩ := hl i x v hN e hv
 have fin : EP X pins σ Q u s := ⟨v, H, I, r, h⟩
 rcases l with ⟨hk, hm⟩ | ⟨hk, c, hc, hcell⟩
 ·exact wpAny_Name (wpAny_loadName_local I.ok.kind hk hn hm fin) hd
 ·rcases hk with hk | hk
  ·exact wpAny_Name (wpAny_loadName_cell I.ok.kind hk hc hcell fin) hd
  ·exact wpAny_Name (wpAny_loadName_free I.ok.kind hk hc hcell fin hcd) hd
theorem zki {i j pos} : PE X (.Constant (.int i) j pos) (tC (.int i)) := fun _ _ _ H _ I h => wpAny_Constant_int ⟨.int i, H, I.tok _, ⟨_, rfl⟩, h⟩
theorem pe_bl {b j pos} : PE X (.Constant (.bool b) j pos) (tC (.bl b)) := fun _ _ _ H _ I h => Constant_bool ⟨.bl b, H, I, rfl, h⟩
theorem zmD {x j pos} : PE X (.Constant (.str x) j pos) (tC (.str x)) := fun _ _ _ H _ I h => Calls.Constant_str ⟨.str x, H, I.tok _, ⟨_, rfl⟩, h⟩
def Gl (X : Cx) (x : Str) : Prop := X.env.kindOf x = some .globalImplicit
theorem zkR {E : Value → Shared → Prop} {pins : List (Addr × Obj)} {s : Shared} {σ : St} {H : Hp} {x : Str} {u : Value} {pos : Pos} {Q : Value → Shared → Prop} (I : Inv X pins σ H s) (hg : Gl X x) (hm : X.mg x = some u) (h : Q u s)
  (hd : (x == ("__debug__" : Str)) = false := by decide) : wpAny (model X.prog X.w) X.A (eval (.Name x pos) X.env) Q E s :=
 Calls.Name_function_global I.ok.kind hg (Calls.loadGlobal_global (by rw [I.ok.glob]; exact I.mod.glob.keeps I.bk) hm h) hd
theorem zdO {E : Value → Shared → Prop} {pins : List (Addr × Obj)} {s : Shared} {σ : St} {H : Hp} {x : Str} {u : Value} {pos : Pos} {Q : Value → Shared → Prop} (I : Inv X pins σ H s) (hg : Gl X x) (hm : X.mg x = none) (hv : bootBuiltins x = some u) (h : Q u s)
  (hn : x ≠ "__name__" := by decide) (hd : (x == ("__debug__" : Str)) = false := by decide) : wpAny (model X.prog X.w) X.A (eval (.Name x pos) X.env) Q E s := by
 obtain ⟨mb, h1, h2⟩ := I.mod.blt
 exact Calls.Name_function_global I.ok.kind hg (Calls.loadGlobal_builtin (by rw [I.ok.glob]; exact I.mod.glob.keeps I.bk) hm (by rw [I.ok.blt]; exact h1.keeps I.bk) ((h2 x hn).trans hv) h) hd
variable {a b : Expr} {ta tb : TE} {pos : Pos}
def PC (X : Cx) (op : CmpOp) (a b : Expr) (t : TE) : Prop :=
 ∀ (pins : List (Addr × Obj)) (s : Shared) (σ : St) (H : Hp) (Q : VK), Inv X pins σ H s → t σ H Q →
  wpAny (model X.prog X.w) X.A (eval a X.env) (fun v s₁ => wpAny (model X.prog X.w) X.A (eval b X.env) (fun u s₂ => wpAny (model X.prog X.w) X.A (compareOp op v u) (EP X pins σ Q) X.xe s₂) X.xe s₁) X.xe s
def tB (t : TE) : TT := fun σ H Q => t σ H fun x H1 => ∃ c, x = .bl c ∧ Q c H1
theorem zmE {op : CmpOp} {t : TE} (h : PC X op a b t) (h1 : behindInMarks op b = false := by first | exact zjw _ (by decide) (by decide) | rfl) : PE X (.Compare a [op] [b] pos) t := fun pins s σ H Q I hw => wpAny_Compare1 (h pins s σ H Q I hw) h1
theorem zkj {op : CmpOp} {t : TE} (h : PC X op a b t) (h1 : behindInMarks op b = false := by first | exact zjw _ (by decide) (by decide) | rfl) : PT X (.Compare a [op] [b] pos) (tB t) := by
 intro pins s σ H Q I hw
 refine wpAny_isTrue_Compare1 (thn (h pins s σ H _ I hw) fun v s1 h1 => thn h1 fun u s2 h2 => thn h2 fun c s3 ⟨x, H1, I1, r1, q1⟩ => ?_) h1
 obtain ⟨d, rfl, q⟩ := q1
 cases r1
 exact wpAny_truthy_bool ⟨H1, I1, q⟩
variable {tA tB' : TT} {rest : List Expr}
def tAnd (t u : TT) : TT := fun σ H Q => t σ H fun c H1 => if c = true then u σ H1 Q else Q false H1
def tOr (t u : TT) : TT := fun σ H Q => t σ H fun c H1 => if c = true then Q true H1 else u σ H1 Q
theorem zkS (ha : PT X a tA) : PW X (.BoolOp .And [a] pos) tA := by
 intro wh pins s σ H Q I h
 refine isTrue_and (thn (ha pins s σ H Q I h) fun c s1 e => ?_)
 cases c with
 | true => exact isTrue_and_nil e
 | false => exact e
theorem zmF (ha : PT X a tA) : PW X (.BoolOp .Or [a] pos) tA := by
 intro wh pins s σ H Q I h
 refine isTrue_or (thn (ha pins s σ H Q I h) fun c s1 e => ?_)
 cases c with
 | false => exact isTrue_or_nil e
 | true => exact e
theorem zmG (ha : PT X a tA) (hb : PW X (.BoolOp .And (b :: rest) pos) tB') : PW X (.BoolOp .And (a :: b :: rest) pos) (tAnd tA tB') := by
 intro wh pins s σ H Q I h
 refine isTrue_and (thn (ha pins s σ H _ I h) fun c s1 ⟨H1, I1, q1⟩ => ?_)
 cases c with
 | true => exact hb wh pins s1 σ H1 Q I1 q1
 | false => exact ⟨H1, I1, q1⟩
theorem pw_or (ha : PT X a tA) (hb : PW X (.BoolOp .Or (b :: rest) pos) tB') : PW X (.BoolOp .Or (a :: b :: rest) pos) (tOr tA tB') := by
 intro wh pins s σ H Q I h
 refine isTrue_or (thn (ha pins s σ H _ I h) fun c s1 ⟨H1, I1, q1⟩ => ?_)
 cases c with
 | true => exact ⟨H1, I1, q1⟩
 | false => exact hb wh pins s1 σ H1 Q I1 q1
def tAndV (ta tb : TE) : TE := fun σ H Q => ta σ H fun x H1 => ∃ c, x = .bl c ∧ if c = true then tb σ H1 Q else Q (.bl false) H1
def tOrV (ta tb : TE) : TE := fun σ H Q => ta σ H fun x H1 => ∃ c, x = .bl c ∧ if c = true then Q (.bl true) H1 else tb σ H1 Q
theorem zmH {op} {t : TE} (h : PE X a t) : PE X (.BoolOp op [a] pos) t := fun pins s σ H Q I hw => BoolOp_one (h pins s σ H Q I hw)
theorem zmI (ha : PE X a ta) (hb : PE X (.BoolOp .And (b :: rest) pos) tb) : PE X (.BoolOp .And (a :: b :: rest) pos) (tAndV ta tb) := by
 intro pins s σ H Q I h
 refine BoolOp_and (thn (ha pins s σ H _ I h) fun v s1 ⟨x, H1, I1, r1, q1⟩ => ?_)
 obtain ⟨c, rfl, q1⟩ := q1
 cases r1
 refine wpAny_truthy_bool ?_
 cases c with
 | true => exact hb pins s1 σ H1 Q I1 q1
 | false => exact ⟨.bl false, H1, I1, rfl, q1⟩
theorem pe_or (ha : PE X a ta) (hb : PE X (.BoolOp .Or (b :: rest) pos) tb) : PE X (.BoolOp .Or (a :: b :: rest) pos) (tOrV ta tb) := by
 intro pins s σ H Q I h
 refine BoolOp_or (thn (ha pins s σ H _ I h) fun v s1 ⟨x, H1, I1, r1, q1⟩ => ?_)
 obtain ⟨c, rfl, q1⟩ := q1
 cases r1
 refine wpAny_truthy_bool ?_
 cases c with
 | false => exact hb pins s1 σ H1 Q I1 q1
 | true => exact ⟨.bl true, H1, I1, rfl, q1⟩
end
end L2
namespace L2
open PySem PySem.Spec PyProof.Rows
def SqL (K : PySem.W.Frag) (H : Hp) (a : Addr) (xs : List V) : Prop :=
 Rd H a (.lst xs) ∨
  ∃ (o : Obj) (its : Array Value) (n : Nat), K.lookup a = some o ∧ o.cls = .type "list" ∧ o.dict = none ∧ o.data = .seq its n ∧ its.size ≤ sizeLine ∧ zaW xs its.toList
def SqT (K : PySem.W.Frag) (H : Hp) (a : Addr) (xs : List V) : Prop :=
 Rd H a (.tup xs) ∨
  ∃ (o : Obj) (its : Array Value) (n : Nat), K.lookup a = some o ∧ o.cls = .type "tuple" ∧ o.data = .seq its n ∧ its.size ≤ sizeLine ∧ zaW xs its.toList
def absV : Value → Option V
 | .none => some .non
 | .bool b => some (.bl b)
 | .int i _ => some (.int i)
 | .str x _ => some (.str x)
 | .bytes b _ => some (.byt b)
 | .float b _ => some (.flt b)
 | .ref a => some (.ref a)
 | .type n => some (.ty n)
 | _ => none
theorem RelV.abs {x : V} {u : Value} (r : RelV x u) : absV u = some x := by
 cases x with
 | non => cases r; rfl
 | bl _ => cases r; rfl
 | int _ => obtain ⟨t, rfl⟩ := r; rfl
 | str _ => obtain ⟨t, rfl⟩ := r; rfl
 | byt _ => obtain ⟨t, rfl⟩ := r; rfl
 | flt _ => obtain ⟨t, rfl⟩ := r; rfl
 | ref _ => cases r; rfl
 | ty _ => cases r; rfl
theorem RelV.inj {x y : V} {u : Value} (r : RelV x u) (q : RelV y u) : x = y := Option.some.inj (r.abs.symm.trans q.abs)
theorem zaW.inj : ∀ {xs ys : List V} {us : List Value}, zaW xs us → zaW ys us → xs = ys
 | _, _, _, .nil, .nil => rfl
 | _, _, _, .cons r t, .cons r' t' => by rw [r.inj r', zaW.inj t t']
section
variable {X : Cx} {pins : List (Addr × Obj)} {σ : St} {H : Hp} {s : Shared} {a : Addr} {xs ys : List V}
theorem SqL.of {K : PySem.W.Frag} (h : H a = some (.lst xs)) : SqL K H a xs := .inl (.inl h)
theorem SqT.of {K : PySem.W.Frag} (h : H a = some (.tup xs)) : SqT K H a xs := .inl (.inl h)
theorem Inv.list (I : Inv X pins σ H s) (h : SqL X.K H a xs) : ∃ its : List Value, zaW xs its ∧ PlainL s.heap a its.toArray ∧ xs.length ≤ sizeLine := by
 rcases h with h | ⟨o, its, n, hk, hc, hd, hs, hz, r⟩
 ·obtain ⟨z, its, n, r, e⟩ := h.ok I.hok
  exact ⟨its, r, ⟨_, n, e, rfl, rfl, rfl⟩, z⟩
 ·refine ⟨its.toList, r, ⟨o, n, I.kIn a o hk, hc, hd, by simpa using hs⟩, ?_⟩
  have e := r.length
  simp only [Array.length_toList] at e
  omega
theorem Inv.tuple (I : Inv X pins σ H s) (h : SqT X.K H a xs) : ∃ its : List Value, zaW xs its ∧ IsTup s.heap a its.toArray ∧ xs.length ≤ sizeLine := by
 rcases h with h | ⟨o, its, n, hk, hc, hs, hz, r⟩
 ·obtain ⟨z, its, r, p⟩ := h.ok I.hok
  exact ⟨its, r, p, z⟩
 ·refine ⟨its.toList, r, ⟨o, I.kIn a o hk, hc, n, by simpa using hs⟩, ?_⟩
  have e := r.length
  simp only [Array.length_toList] at e
  omega
theorem Inv.zjx (I : Inv X pins σ H s) (h : SqL X.K H a xs) (h' : SqL X.K H a ys) : xs = ys := by
 obtain ⟨its, r, ⟨o, n, e, _, _, d⟩, _⟩ := I.list h
 obtain ⟨its', r', ⟨o', n', e', _, _, d'⟩, _⟩ := I.list h'
 rw [e] at e'; cases e'
 rw [d] at d'
 injection d' with d1 _
 have : its = its' := by simpa using congrArg Array.toList d1
 subst this
 exact r.inj r'
theorem Inv.zdP (I : Inv X pins σ H s) (h : SqT X.K H a xs) (h' : SqT X.K H a ys) : xs = ys := by
 obtain ⟨its, r, ⟨o, e, _, n, d⟩, _⟩ := I.tuple h
 obtain ⟨its', r', ⟨o', e', _, n', d'⟩, _⟩ := I.tuple h'
 rw [e] at e'; cases e'
 rw [d] at d'
 injection d' with d1 _
 have : its = its' := by simpa using congrArg Array.toList d1
 subst this
 exact r.inj r'
end
abbrev Cx.zjq (X : Cx) (E : Value → Shared → Prop) : Cx := { X with xe := E }
abbrev Cx.nox (X : Cx) : Cx := X.zjq fun _ _ => False
theorem Cx.Ok.zjq {X : Cx} (ok : X.Ok) (E : Value → Shared → Prop) : (X.zjq E).Ok :=
 ⟨ok.mod, ok.kind, ok.glob, ok.blt, ok.above, ok.inj, ok.has, ok.cab, ok.hd, ok.frames, ok.stk, ok.exf, ok.bs, ok.bsz, ok.noex, ok.exfs, ok.zhQ, ok.frf⟩
theorem Cx.Ok.zdn {X : Cx} {E : Value → Shared → Prop} (ok : (X.zjq E).Ok) : X.Ok :=
 ⟨ok.mod, ok.kind, ok.glob, ok.blt, ok.above, ok.inj, ok.has, ok.cab, ok.hd, ok.frames, ok.stk, ok.exf, ok.bs, ok.bsz, ok.noex, ok.exfs, ok.zhQ, ok.frf⟩
section
variable {X : Cx} {pins : List (Addr × Obj)} {σ : St} {H : Hp} {s : Shared} {E : Value → Shared → Prop}
theorem Inv.zjq (I : Inv X pins σ H s) (E : Value → Shared → Prop) : Inv (X.zjq E) pins σ H s := ⟨I.ok.zjq E, I.os, I.bare, I.base, I.loc, I.cell, I.free, I.freeC, I.pin, I.hok, I.len⟩
theorem Inv.zdn (I : Inv (X.zjq E) pins σ H s) : Inv X pins σ H s := ⟨I.ok.zdn, I.os, I.bare, I.base, I.loc, I.cell, I.free, I.freeC, I.pin, I.hok, I.len⟩
theorem SP.zdn {D : Ends} {f : Flow} {s' : Shared} (h : SP (X.zjq E) pins D f s') : SP X pins D f s' := by
 cases f with
 | next => obtain ⟨σ', H', I, q⟩ := h; exact ⟨σ', H', I.zdn, q⟩
 | brk => obtain ⟨σ', H', I, q⟩ := h; exact ⟨σ', H', I.zdn, q⟩
 | cont => obtain ⟨σ', H', I, q⟩ := h; exact ⟨σ', H', I.zdn, q⟩
 | ret u => obtain ⟨v, σ', H', I, r, q⟩ := h; exact ⟨v, σ', H', I.zdn, r, q⟩
theorem PSs.nox {st : List Stmt} {t : TS} (h : PSs X.nox st t) : PSs X st t := fun pins s σ H D I hw =>
 wpAny_mono (h pins s σ H D (I.zjq _) hw) (fun _ _ q => q.zdn) fun _ _ z => False.elim z
end
section
variable {X : Cx} {st : Stmt} {rest : List Stmt} {t u : TS} {e : Expr} {te : TE} {pos : Pos}
def zmJ : TS := fun D σ H => D.nx σ H
def tSeq (t u : TS) : TS := fun D σ H => t { D with nx := u D } σ H
theorem zkT : PSs X [] zmJ := fun _ _ σ H _ I h => wpAny_execs_nil ⟨σ, H, I, h⟩
theorem zjy (h1 : PS X st t) (h2 : PSs X rest u) : PSs X (st :: rest) (tSeq t u) := by
 intro pins s σ H D I h
 refine wpAny_execs_cons (thn (h1 pins s σ H { D with nx := u D } I h) fun f s1 q => ?_)
 cases f with
 | next =>
  obtain ⟨σ', H', I', q⟩ := q
  exact h2 pins s1 σ' H' D I' q
 | ret v => exact q
 | brk => exact q
 | cont => exact q
theorem zkU (h1 : PS X st t) : PSs X [st] t := by
 intro pins s σ H D I h
 refine wpAny_execs_cons (thn (h1 pins s σ H D I h) fun f s1 q => ?_)
 cases f with
 | next => exact wpAny_execs_nil q
 | ret v => exact q
 | brk => exact q
 | cont => exact q
theorem Inv.quiet {pins : List (Addr × Obj)} {σ : St} {H : Hp} {s : Shared} (I : Inv X pins σ H s) : interactive X.env = false := by simp [interactive, I.ok.kind]
def tDrop (te : TE) : TS := fun D σ H => te σ H fun _ H1 => D.nx σ H1
theorem zkV (he : PE X e te) (hs : swapsWith e none pos.line X.env = pure false := by rfl) : PS X (.Expr e pos) (tDrop te) := by
 intro pins s σ H D I h
 exact wpAny_Expr_any (thn (he pins s σ H _ I h) fun v s1 ⟨x, H1, I1, r1, q1⟩ => ⟨σ, H1, I1, q1⟩) I.quiet hs
def tRet (te : TE) : TS := fun D σ H => te σ H D.rt
theorem zmK (he : PE X e te) : PS X (.Return (some e) pos) (tRet te) := by
 intro pins s σ H D I h
 exact wpAny_Return_some (thn (he pins s σ H _ I h) fun v s1 ⟨x, H1, I1, r1, q1⟩ => ⟨x, σ, H1, I1, r1, q1⟩)
def tIfS (c : TT) (t u : TS) : TS := fun D σ H => c σ H fun b H1 => if b = true then t D σ H1 else u D σ H1
theorem ps_if {c : Expr} {a b : List Stmt} {tc : TT} (hc : PT X c tc) (ha : PSs X a t) (hb : PSs X b u) : PS X (.If c a b pos) (tIfS tc t u) := by
 intro pins s σ H D I h
 refine wpAny_If (thn (hc pins s σ H _ I h) fun d s1 ⟨H1, I1, q1⟩ => ?_)
 cases d with
 | true => exact ha pins s1 σ H1 D I1 q1
 | false => exact hb pins s1 σ H1 D I1 q1
end
abbrev TG := V → St → Hp → (St → Hp → Prop) → Prop
abbrev TGs := List V → St → Hp → (St → Hp → Prop) → Prop
def PG (X : Cx) (target : Expr) (t : TG) : Prop :=
 ∀ (pins : List (Addr × Obj)) (s : Shared) (σ : St) (H : Hp) (v : V) (u : Value) (Q : St → Hp → Prop), Inv X pins σ H s → RelV v u → t v σ H Q →
  wpAny (model X.prog X.w) X.A (assign target X.env u) (fun _ s' => ∃ σ' H', Inv X pins σ' H' s' ∧ Q σ' H') X.xe s
def PGs (X : Cx) (ts : List Expr) (t : TGs) : Prop :=
 ∀ (pins : List (Addr × Obj)) (s : Shared) (σ : St) (H : Hp) (vs : List V) (us : List Value) (Q : St → Hp → Prop), Inv X pins σ H s → zaW vs us → t vs σ H Q →
  wpAny (model X.prog X.w) X.A (assignInOrder ((assignEach ts X.env).map (·.2)) us) (fun _ s' => ∃ σ' H', Inv X pins σ' H' s' ∧ Q σ' H') X.xe s
abbrev TSet := V → V → V → Hp → (Hp → Prop) → Prop
def PSet (X : Cx) (t : TSet) : Prop :=
 ∀ (pins : List (Addr × Obj)) (s : Shared) (σ : St) (H : Hp) (o i v : V) (ov iv u : Value) (Q : Hp → Prop), Inv X pins σ H s → RelV o ov → RelV i iv → RelV v u → t o i v H Q →
  wpAny (model X.prog X.w) X.A (setItem ov iv u) (fun _ s' => ∃ H', Inv X pins σ H' s' ∧ Q H') X.xe s
section
variable {X : Cx} {pos : Pos}
def zhS (i : Nat) : TG := fun v σ H Q => Q (σ.set i (some v)) H
theorem zkW {i : Nat} {x : Str} (hN : X.N.Nodup) (hi : X.N[i]? = some x) (hx : Loc X.env.scope x) (hf : X.fn x = true ∨ X.env.scope.names.lookup x = some .local := by first | exact .inl rfl | exact .inr rfl | assumption) : PG X (.Name x pos) (zhS i) := by
 intro pins s σ H v u Q I r h
 exact wpAny_assign_Name (zcl I hN hi hx r (fun s' I' => ⟨_, H, I', h⟩) hf)
def gNil : TGs := fun vs σ H Q => vs = [] ∧ Q σ H
def gCons (t : TG) (u : TGs) : TGs := fun vs σ H Q => ∃ v r, vs = v :: r ∧ t v σ H fun σ' H' => u r σ' H' Q
theorem zkX : PGs X [] gNil := by
 intro pins s σ H vs us Q I r h
 obtain ⟨e, h⟩ := h
 subst e
 cases r
 exact assignInOrder_nil ⟨σ, H, I, h⟩
theorem zjz {e : Expr} {es : List Expr} {t : TG} {u : TGs} (h1 : PG X e t) (h2 : PGs X es u)
  (hs : (assignEach (e :: es) X.env).map (·.2) = assign e X.env :: (assignEach es X.env).map (·.2) := by rfl) : PGs X (e :: es) (gCons t u) := by
 intro pins s σ H vs us Q I r h
 obtain ⟨v, vr, e1, h⟩ := h
 subst e1
 cases r with
 | cons r rr =>
  rw [hs]
  refine assignInOrder_cons (thn (h1 pins s σ H _ _ _ I r h) fun _ s1 ⟨σ1, H1, I1, q1⟩ => ?_)
  exact h2 pins s1 σ1 H1 _ _ Q I1 rr q1
def gTup (K : PySem.W.Frag) (n : Nat) (t : TGs) : TG := fun v σ H Q => ∃ a xs, v = .ref a ∧ SqT K H a xs ∧ xs.length = n ∧ t xs σ H Q
theorem zmL {es : List Expr} {k : Nat} {t : TGs} {n : Nat} (hc : X.calm = true) (h : PGs X es t)
  (hn : (assignEach es X.env).length = n := by rfl) (hst : (assignEach es X.env).findIdx? (·.1) = none := by rfl) : PG X (.Tuple es k pos) (gTup X.K n t) := by
 intro pins s σ H v u Q I r hw
 obtain ⟨a, xs, e1, hq, hl, hw⟩ := hw
 subst e1
 cases r
 obtain ⟨its, rv, ht, hz⟩ := I.tuple hq
 refine assign_Tuple_tuple (I.ok.hd hc) ht (by simp [hn, ← hl, rv.length]) hst fun h' hx => ?_
 have I1 : Inv X pins σ H { s with heap := h' } := I.kept (t' := s.toks) fun b o e => hx b o (Nat.ne_of_lt (Heap.lt_size e)) e
 exact h pins _ σ H xs _ Q I1 (by simpa using rv) hw
def zmM (to ti : TE) (t : TSet) : TG := fun v σ H Q => to σ H fun o H1 => ti σ H1 fun i H2 => t o i v H2 fun H3 => Q σ H3
theorem zkk {o i : Expr} {to ti : TE} {t : TSet} (ho : PE X o to) (hi : PE X i ti) (hs : PSet X t)
  (ha : ∀ v, assign (.Subscript o i pos) X.env v = (do
   let ov ← holding [v] (eval o X.env)
   let iv ← holding [v, ov] (eval i X.env)
   standAt pos
   holding [v, ov, iv] (setItem ov iv v)
   release [v, ov, iv] []) := by intro _; rfl) : PG X (.Subscript o i pos) (zmM to ti t) := by
 intro pins s σ H v u Q I r h
 rw [ha]
 refine wpAny_bind (wpAny_holding (thn (ho pins s σ H _ I h) fun ov s1 ⟨x, H1, I1, r1, q1⟩ => ?_))
 refine wpAny_bind (wpAny_holding (thn (hi pins s1 σ H1 _ I1 q1) fun iv s2 ⟨y, H2, I2, r2, q2⟩ => ?_))
 refine wpAny_bind (wpAny_standAt (wpAny_bind (wpAny_holding (thn (hs pins s2 σ H2 x y v ov iv u _ I2 r1 r2 r q2) fun _ s3 ⟨H3, I3, q3⟩ => ?_))))
 exact wpAny_release ⟨σ, H3, I3, q3⟩
def zhT (te : TE) (g : TG) : TS := fun D σ H => te σ H fun x H1 => g x σ H1 D.nx
theorem zgK {tg e : Expr} {te : TE} {g : TG} (he : PE X e te) (hg : PG X tg g) (hs : swapsWithSole [tg] e pos.line X.env = pure false := by rfl) (hw : swappedStores [tg] e X.env = pure none := by rfl)
  (h1 : (assignEach [tg] X.env).map (·.2) = [assign tg X.env] := by rfl) : PS X (.Assign [tg] e pos) (zhT te g) := by
 intro pins s σ H D I h
 refine wpAny_Assign_stores (thn (he pins s σ H _ I h) fun v s1 ⟨x, H1, I1, r1, q1⟩ => ?_) hs hw
 rw [h1]
 exact thn (hg pins s1 σ H1 x v _ I1 r1 q1) fun _ s2 q => q
theorem zmN {i : Nat} {x : Str} {e : Expr} {te : TE} {pos' : Pos} (hN : X.N.Nodup) (hi : X.N[i]? = some x) (hx : Loc X.env.scope x) (he : PE X e te) (hs : swapsWith e (some (.Name x pos')) pos.line X.env = pure false := by rfl) (hf : X.fn x = true ∨ X.env.scope.names.lookup x = some .local := by first | exact .inl rfl | exact .inr rfl | assumption) :
  PS X (.Assign [.Name x pos'] e pos) (zhT te (zhS i)) := by
 intro pins s σ H D I h
 refine wpAny_Assign_Name (thn (he pins s σ H _ I h) fun v s1 ⟨y, H1, I1, r1, q1⟩ => ?_) hs
 exact zcl I1 hN hi hx r1 (fun s2 I2 => ⟨_, H1, I2, q1⟩) hf
def tPar (i j : Nat) (ta : TA) : TS := fun D σ H => ta σ H fun vs H1 => ∃ v w, vs = [v, w] ∧ D.nx ((σ.set i (some v)).set j (some w)) H1
theorem zmO {i j : Nat} {x y : Str} {a b : Expr} {ta : TA} {px py pt : Pos} {kt k2 pt2} (hc : X.calm = true) (hN : X.N.Nodup) (hi : X.N[i]? = some x) (hj : X.N[j]? = some y) (hij : i ≠ j)
  (hx : X.env.scope.names.lookup x = some .local) (hy : X.env.scope.names.lookup y = some .local) (ha : PA X [a, b] ta)
  (hw : swappedStores [.Tuple [.Name x px, .Name y py] kt pt] (.Tuple [a, b] k2 pt2) X.env = pure (some [x, y]))
  (hs : swapsWithSole [.Tuple [.Name x px, .Name y py] kt pt] (.Tuple [a, b] k2 pt2) pos.line X.env = pure false := by rfl) :
  PS X (.Assign [.Tuple [.Name x px, .Name y py] kt pt] (.Tuple [a, b] k2 pt2) pos) (tPar i j ta) := by
 intro pins s σ H D I h
 rw [exec_Assign_arm]
 refine wpAny_bind (wpAny_standAt ?_)
 rw [hs]
 refine wpAny_bind (wpAny_pure ?_)
 rw [if_neg (by decide)]
 refine wpAny_bind (Tuple_ (thn (ha _ pins s σ H _ I h) fun us s1 ⟨vs, H1, I1, r1, q1⟩ => ?_))
 obtain ⟨v, w, e1, q1⟩ := q1
 subst e1
 obtain ⟨u1, u2, rfl, rv, rw'⟩ : ∃ u1 u2, us = [u1, u2] ∧ RelV v u1 ∧ RelV w u2 := by
  cases r1 with
  | cons p q =>
   cases q with
   | cons p' q' =>
    cases q'
    exact ⟨_, _, rfl, p, p'⟩
 refine wpAny_newObj_type ?_ (by show 2 ≤ sizeLine; decide)
 have I2 : Inv X pins σ H1 { s1 with heap := s1.heap.push { cls := .type "tuple", data := .seq [u1, u2].toArray } } := I1.kept (t' := s1.toks) fun b o e => Heap.get?_push_of_some _ e
 rw [hw]
 refine wpAny_bind (wpAny_pure ?_)
 show wpAny (model X.prog X.w) X.A (do rule "assign.swapped-stores"; let items ← unpackItems (.ref s1.heap.objs.size) 2 none; assignInOrder [fun v => bindName X.env y v, fun v => bindName X.env x v] items.reverse; pure Flow.next) _ _ _
 refine wpAny_bind (wpAny_rule (wpAny_bind (unpackItems_tuple (items := #[u1, u2]) (I.ok.hd hc) (IsTup.new s1.heap _) fun h' hx' => ?_)))
 have I3 := I2.kept (h' := h') (t' := s1.toks) fun b o e => hx' b o (Nat.ne_of_lt (Heap.lt_size e)) e
 show wpAny _ _ (assignInOrder [fun v => bindName X.env y v, fun v => bindName X.env x v] [u2, u1] >>= fun _ => pure Flow.next) _ _ _
 refine wpAny_bind (assignInOrder_cons (wpAny_bindName (zcl I3 hN hj (.inl hy) rw' (fun s2 I4 => ?_) (.inr hy))))
 refine assignInOrder_cons (wpAny_bindName (zcl I4 hN hi (.inl hx) rv (fun s3 I5 => assignInOrder_nil (wpAny_pure ?_)) (.inr hx)))
 rw [List.set_comm _ _ (Ne.symm hij)] at I5
 exact ⟨_, H1, I5, q1⟩
end
structure It where
 go : Nat → Hp → Prop
 yld : Nat → Hp → V → Hp → Prop
 stop : Nat → Hp → Prop
def zek (X : Cx) (pins : List (Addr × Obj)) (H : Hp) (b : Addr) : Prop :=
 H b = none ∧ b ≠ X.env.locals ∧ b ∉ X.fs ∧ (b ∈ X.ex ∨ X.s₀.heap.objs.size ≤ b) ∧ (∀ x c, X.env.cells.lookup x = some c → c ≠ b) ∧ ∀ p ∈ X.pn ++ pins, p.1 ≠ b
theorem Inv.fpOk {X : Cx} {pins : List (Addr × Obj)} {σ : St} {H H' : Hp} {s : Shared} {b : Addr} (I : Inv X pins σ H s) (hb : s.heap.objs.size ≤ b) (hn : H' b = none) : zek X pins H' b := by
 refine ⟨hn, Nat.ne_of_gt (Nat.lt_of_lt_of_le I.lt hb), I.nofs hb, .inr (Nat.le_trans I.sz hb), fun x c e z => ?_, fun p hp z => ?_⟩
 ·obtain ⟨v, q⟩ := I.cell x c e
  exact absurd (Nat.lt_of_lt_of_le q.lt (by rw [z]; exact hb)) (Nat.lt_irrefl _)
 ·exact absurd (Nat.lt_of_lt_of_le (Heap.lt_size (I.pin p hp).1) (by rw [z]; exact hb)) (Nat.lt_irrefl _)
structure Turn (P : Program) (w : World) (K : PySem.W.Frag) (tg : Expr) (J : It) (fp : List Addr) (it : Addr) (tn : Nat → Heap → Prop) : Prop where
 mem : it ∈ fp
 obj : ∀ i h, tn i h → ∀ b ∈ fp, ∃ o, h.get? b = some o ∧ ∀ v, o.data ≠ .cell v
 keep : ∀ i h h', tn i h → (∀ b ∈ fp, ∀ o, h.get? b = some o → h'.get? b = some o) → tn i h'
 item : ∀ (X : Cx), X.prog = P → X.w = w → X.K = K → X.calm = true → ∀ (i : Nat) (pins : List (Addr × Obj)) (s : Shared) (σ : St) (H : Hp) (E : Value → Shared → Prop), Inv X pins σ H s → (∀ b ∈ fp, zek X pins H b) → tn i s.heap → J.go i H →
  wpAny (model P w) X.A (pyNext (.ref it)) (fun r s1 => ∃ u, r = some u ∧
   wpAny (model P w) X.A (letOwnedTupleGo tg (.ref it) u) (fun _ s2 => ∃ x H', Inv X pins σ H' s2 ∧ RelV x u ∧ J.yld i H x H' ∧ tn (i + 1) s2.heap ∧ ∀ b ∈ fp, H' b = none) E s1) E s
 done : ∀ (X : Cx), X.prog = P → X.w = w → X.K = K → X.calm = true → ∀ (i : Nat) (pins : List (Addr × Obj)) (s : Shared) (σ : St) (H : Hp) (E : Value → Shared → Prop), Inv X pins σ H s → (∀ b ∈ fp, zek X pins H b) → tn i s.heap → J.stop i H →
  wpAny (model P w) X.A (pyNext (.ref it)) (fun r s1 => r = none ∧ Inv X pins σ H s1) E s
 self : ∀ (A : Around) (i : Nat) (s : Shared) (Q : Value → Shared → Prop) (E : Value → Shared → Prop), tn i s.heap → Q (.ref it) s → wpAny (model P w) A (pyIter (.ref it)) Q E s
abbrev TI := St → Hp → (It → Hp → Prop) → Prop
def PIE (X : Cx) (pins : List (Addr × Obj)) (σ : St) (tg : Expr) (R : It → Hp → Prop) (itv : Value) (s2 : Shared) : Prop :=
 ∃ (it : Addr) (fp : List Addr) (tn : Nat → Heap → Prop) (J : It) (H' : Hp), itv = .ref it ∧ Inv X pins σ H' s2 ∧ Turn X.prog X.w X.K tg J fp it tn ∧ tn 0 s2.heap ∧ (∀ b ∈ fp, zek X pins H' b) ∧ R J H'
def PI (X : Cx) (tg iter : Expr) (wi : TI) : Prop :=
 ∀ (pins : List (Addr × Obj)) (s : Shared) (σ : St) (H : Hp) (R : It → Hp → Prop), Inv X pins σ H s → wi σ H R →
  wpAny (model X.prog X.w) X.A (eval iter X.env) (fun v s1 => wpAny (model X.prog X.w) X.A (pyIter v) (PIE X pins σ tg R) X.xe s1) X.xe s
theorem zkY {M : Model} {A : Around} {E : Value → Shared → Prop} {s : Shared} {tg : Expr} {it : Addr} {u : Value} {o : Obj} {n : String} {vs : Array Value} {Q : Unit → Shared → Prop} (ho : s.heap.get? it = some o) (hc : o.cls = .type n) (hd : o.data = .fields vs)
    (hn : ["enumerate", "zip", "dict_itemiterator", "dict_reverseitemiterator", "odict_iterator", "itertools.zip_longest", "itertools.pairwise"].contains n = false) (hQ : Q () s) : wpAny M A (letOwnedTupleGo tg (.ref it) u) Q E s := by
  unfold letOwnedTupleGo
  cases tg <;> first
    | exact wpAny_pure hQ
    | (cases u <;> first
        | exact wpAny_pure hQ
        | (refine wpAny_bind (wpAny_load ho ?_)
           rw [hc, hd]
           show wpAny M A (if (["enumerate", "zip", "dict_itemiterator", "dict_reverseitemiterator", "odict_iterator", "itertools.zip_longest", "itertools.pairwise"].contains n && vs[0]? == some (rawInt _)) = true then _ else _) Q E s
           rw [if_neg (by intro h; rw [hn, Bool.false_and] at h; cases h)]
           exact wpAny_pure hQ))
def Itl (K : PySem.W.Frag) (a : Addr) : It :=
 ⟨fun i H => ∃ xs x, SqL K H a xs ∧ xs[i]? = some x, fun i H x H' => H' = H ∧ ∀ xs, SqL K H a xs → xs[i]? = some x, fun i H => ∃ xs, SqL K H a xs ∧ xs.length ≤ i⟩
def Itt (K : PySem.W.Frag) (a : Addr) : It :=
 ⟨fun i H => ∃ xs x, SqT K H a xs ∧ xs[i]? = some x, fun i H x H' => H' = H ∧ ∀ xs, SqT K H a xs → xs[i]? = some x, fun i H => ∃ xs, SqT K H a xs ∧ xs.length ≤ i⟩
def Itr (lo : Int) (n : Nat) : It := ⟨fun i _ => i < n, fun i H x H' => H' = H ∧ x = .int (lo + i), fun i _ => n ≤ i⟩
theorem zhU {P : Program} {w : World} {K : PySem.W.Frag} {tg : Expr} (a it : Addr) : Turn P w K tg (Itl K a) [it] it (fun i h => h.IsListIter it a i) where
 mem := by simp
 obj := fun i h st b hb => by
  have e : b = it := by simpa using hb
  subst e
  obtain ⟨o, e, c, d⟩ := st
  exact ⟨o, e, fun v z => by rw [d] at z; cases z⟩
 keep := fun i h h' st k => st.at fun o e => k it (by simp) o e
 item := by
  intro X hP hw hK hc i pins s σ H E I hf st hg
  subst hP hw hK
  obtain ⟨xs, x, hq, hx⟩ := hg
  obtain ⟨its, rv, p, hz⟩ := I.list hq
  obtain ⟨u, hu, ru⟩ := rv.get hx
  obtain ⟨f0, f1, f2, f3, f4, f5⟩ := hf it (by simp)
  refine wpAny_pyNext_list_item st p.isList (x := u) (by simpa using hu) fun h' st' sb => ?_
  have I1 : Inv X pins σ H { s with heap := h' } := I.turned (t' := s.toks) (fun b o hb e => (sb.2 b hb).trans e) f0 f1 f3 f4 f5
  obtain ⟨o, e, c, d⟩ := id st'
  exact ⟨u, rfl, zkY (s := { s with heap := h' }) e c d (by decide) ⟨x, H, I1, ru, ⟨rfl, fun ys hy => by rw [I.zjx hy hq]; exact hx⟩, st', fun b hb => (hf b hb).1⟩⟩
 done := by
  intro X hP hw hK hc i pins s σ H E I hf st hg
  subst hP hw hK
  obtain ⟨xs, hq, hx⟩ := hg
  obtain ⟨its, rv, p, hz⟩ := I.list hq
  obtain ⟨f0, f1, f2, f3, f4, f5⟩ := hf it (by simp)
  have hl := rv.length
  exact wpAny_pyNext_list_end (I.ok.hd hc) st p.isList (by simp; omega) fun h' eb => ⟨rfl, I.turned (t' := s.toks) (fun b o hb e => eb b o hb e) f0 f1 f3 f4 f5⟩
 self := fun _ _ _ _ _ st h => wpAny_pyIter_listiter st h
theorem zhk {P : Program} {w : World} {K : PySem.W.Frag} {tg : Expr} (a it : Addr) : Turn P w K tg (Itt K a) [it] it (fun i h => h.IsTupleIter it a i) where
 mem := by simp
 obj := fun i h st b hb => by
  have e : b = it := by simpa using hb
  subst e
  obtain ⟨o, e, c, d⟩ := st
  exact ⟨o, e, fun v z => by rw [d] at z; cases z⟩
 keep := fun i h h' st k => st.at fun o e => k it (by simp) o e
 item := by
  intro X hP hw hK hc i pins s σ H E I hf st hg
  subst hP hw hK
  obtain ⟨xs, x, hq, hx⟩ := hg
  obtain ⟨its, rv, p, hz⟩ := I.tuple hq
  obtain ⟨u, hu, ru⟩ := rv.get hx
  obtain ⟨f0, f1, f2, f3, f4, f5⟩ := hf it (by simp)
  refine wpAny_pyNext_tuple_item st (show s.heap.IsTuple a its.toArray from p) (x := u) (by simpa using hu) fun h' st' sb => ?_
  have I1 : Inv X pins σ H { s with heap := h' } := I.turned (t' := s.toks) (fun b o hb e => (sb.2 b hb).trans e) f0 f1 f3 f4 f5
  obtain ⟨o, e, c, d⟩ := id st'
  exact ⟨u, rfl, zkY (s := { s with heap := h' }) e c d (by decide) ⟨x, H, I1, ru, ⟨rfl, fun ys hy => by rw [I.zdP hy hq]; exact hx⟩, st', fun b hb => (hf b hb).1⟩⟩
 done := by
  intro X hP hw hK hc i pins s σ H E I hf st hg
  subst hP hw hK
  obtain ⟨xs, hq, hx⟩ := hg
  obtain ⟨its, rv, p, hz⟩ := I.tuple hq
  obtain ⟨f0, f1, f2, f3, f4, f5⟩ := hf it (by simp)
  have hl := rv.length
  exact wpAny_pyNext_tuple_end (I.ok.hd hc) st (show s.heap.IsTuple a its.toArray from p) (by simp; omega) fun h' eb => ⟨rfl, I.turned (t' := s.toks) (fun b o hb e => eb b o hb e) f0 f1 f3 f4 f5⟩
 self := fun _ _ _ _ _ st h => wpAny_pyIter_tupleiter st h
theorem zhl {P : Program} {w : World} {K : PySem.W.Frag} {tg : Expr} (it : Addr) (lo : Int) (n : Nat) : Turn P w K tg (Itr lo n) [it] it (fun i h => IsRangeIter h it (lo + (i : Nat) * 1) ((n : Int) - (i : Nat)) 1) where
 mem := by simp
 obj := fun i h st b hb => by
  have e : b = it := by simpa using hb
  subst e
  exact ⟨_, st, fun v z => by
   have z' : Data.fields _ = Data.cell v := z
   cases z'⟩
 keep := fun i h h' st k => k it (by simp) _ st
 item := by
  intro X hP hw hK hc i pins s σ H E I hf st hg
  subst hP hw hK
  obtain ⟨f0, f1, f2, f3, f4, f5⟩ := hf it (by simp)
  have W := Walks.range (prog := X.prog) (w := X.w) (I.ok.hd hc) it lo 1 n
  refine W.item i s _ _ hg st fun v h' tk hv st' kk => ?_
  obtain ⟨t, rfl⟩ := hv
  have I1 : Inv X pins σ H { s with heap := h', toks := tk } := I.turned (fun b o hb e => kk b o (by simpa using hb) e) f0 f1 f3 f4 f5
  refine ⟨_, rfl, zkY (s := { s with heap := h', toks := tk }) (n := "range_iterator") st' rfl rfl (by decide) ⟨.int (lo + i), H, I1, ⟨t, ?_⟩, ⟨rfl, rfl⟩, st', fun b hb => (hf b hb).1⟩⟩
  rw [Int.mul_one]
 done := by
  intro X hP hw hK hc i pins s σ H E I hf st hg
  subst hP hw hK
  obtain ⟨f0, f1, f2, f3, f4, f5⟩ := hf it (by simp)
  exact wpAny_pyNext_range_end (I.ok.hd hc) st (by have : n ≤ i := hg; omega) fun h' eb => ⟨rfl, I.turned (t' := s.toks) (fun b o hb e => eb b o hb e) f0 f1 f3 f4 f5⟩
 self := fun _ _ _ _ _ st h => wpAny_pyIter_rangeiter st h
end L2
namespace L2
open PySem PySem.Spec PyProof.Rows
section
variable {X : Cx} {tg : Expr}
def zkZ (K : PySem.W.Frag) (tl : TE) : TI := fun σ H R => tl σ H fun x H1 => ∃ a, x = .ref a ∧ (∃ xs, SqL K H1 a xs) ∧ R (Itl K a) H1
def iTup (K : PySem.W.Frag) (tl : TE) : TI := fun σ H R => tl σ H fun x H1 => ∃ a, x = .ref a ∧ (∃ xs, SqT K H1 a xs) ∧ R (Itt K a) H1
theorem zf5 {l : Expr} {tl : TE} (hl : PE X l tl) : PI X tg l (zkZ X.K tl) := by
 intro pins s σ H R I h
 refine thn (hl pins s σ H _ I h) fun v s1 ⟨x, H1, I1, r1, q1⟩ => ?_
 obtain ⟨a, e, ⟨xs, hq⟩, q⟩ := q1
 subst e
 cases r1
 obtain ⟨its, rv, p, hz⟩ := I1.list hq
 refine wpAny_pyIter_list p.isList ?_
 refine ⟨s1.heap.objs.size, [s1.heap.objs.size], _, _, H1, rfl, I1.kept (t' := s1.toks) fun b o e => Heap.get?_push_of_some _ e, zhU a _, ⟨_, Heap.get?_push_size _ rfl, rfl, rfl⟩, fun b hb => ?_, q⟩
 have e : b = s1.heap.objs.size := by simpa using hb
 subst e
 exact I1.fpOk (Nat.le_refl _) (I1.hok.fresh (Nat.le_refl _))
theorem zmP {l : Expr} {tl : TE} (hl : PE X l tl) : PI X tg l (iTup X.K tl) := by
 intro pins s σ H R I h
 refine thn (hl pins s σ H _ I h) fun v s1 ⟨x, H1, I1, r1, q1⟩ => ?_
 obtain ⟨a, e, ⟨xs, hq⟩, q⟩ := q1
 subst e
 cases r1
 obtain ⟨its, rv, p, hz⟩ := I1.tuple hq
 refine wpAny_pyIter_tuple (show s1.heap.IsTuple a its.toArray from p) ?_
 refine ⟨s1.heap.objs.size, [s1.heap.objs.size], _, _, H1, rfl, I1.kept (t' := s1.toks) fun b o e => Heap.get?_push_of_some _ e, zhk a _, ⟨_, Heap.get?_push_size _ rfl, rfl, rfl⟩, fun b hb => ?_, q⟩
 have e : b = s1.heap.objs.size := by simpa using hb
 subst e
 exact I1.fpOk (Nat.le_refl _) (I1.hok.fresh (Nat.le_refl _))
theorem zgL {pins : List (Addr × Obj)} {σ : St} {H : Hp} {s : Shared} {R : It → Hp → Prop} {E : Value → Shared → Prop} {lo hi : Int} {t u v : Tok} {tk : Nat} (I : Inv X pins σ H s) (h1 : -(2 ^ 62) ≤ lo) (h2 : lo < 2 ^ 62) (h3 : -(2 ^ 62) ≤ hi) (h4 : hi < 2 ^ 62)
  (q : R (Itr lo (hi - lo).toNat) H) : wpAny (model X.prog X.w) X.A (pyIter (.ref s.heap.objs.size)) (PIE X pins σ tg R) E { s with heap := s.heap.push { cls := .type "range", data := .fields #[.int lo t, .int hi u, .int 1 v] }, toks := tk } := by
 refine wpAny_pyIter_range (IsRange.new ..) (small_one h1 h2 h3 h4) ?_
 have I1 : Inv X pins σ H { s with heap := s.heap.push { cls := .type "range", data := .fields #[.int lo t, .int hi u, .int 1 v] }, toks := tk } := I.kept fun b o e => Heap.get?_push_of_some _ e
 refine ⟨(s.heap.push { cls := .type "range", data := .fields #[.int lo t, .int hi u, .int 1 v] }).objs.size, [(s.heap.push { cls := .type "range", data := .fields #[.int lo t, .int hi u, .int 1 v] }).objs.size], _, _, H, rfl,
  I1.kept (t' := tk) fun b o e => Heap.get?_push_of_some _ e, zhl _ lo (hi - lo).toNat, ?_, fun b hb => ?_, q⟩
 ·have e1 : lo + ((0 : Nat) : Int) * 1 = lo := by simp
  have e2 : (((hi - lo).toNat : Nat) : Int) - ((0 : Nat) : Int) = Builtin.Range.rangeSize lo hi 1 := by rw [rangeSize_one]; split <;> omega
  show IsRangeIter _ _ (lo + ((0 : Nat) : Int) * 1) ((((hi - lo).toNat : Nat) : Int) - ((0 : Nat) : Int)) 1
  rw [e1, e2]
  exact Heap.get?_push_size _ rfl
 ·have e : b = (s.heap.push { cls := .type "range", data := .fields #[.int lo t, .int hi u, .int 1 v] }).objs.size := by simpa using hb
  subst e
  exact I1.fpOk (Nat.le_refl _) (I1.hok.fresh (Nat.le_refl _))
def iRng1 (ta : TA) : TI := fun σ H R => ta σ H fun vs H1 => ∃ j : Int, vs = [.int j] ∧ -(2 ^ 62) ≤ j ∧ j < 2 ^ 62 ∧ R (Itr 0 j.toNat) H1
def iRng2 (ta : TA) : TI := fun σ H R => ta σ H fun vs H1 => ∃ i j : Int, vs = [.int i, .int j] ∧ (-(2 ^ 62) ≤ i ∧ i < 2 ^ 62 ∧ -(2 ^ 62) ≤ j ∧ j < 2 ^ 62) ∧ R (Itr i (j - i).toNat) H1
theorem zhV {a : Expr} {ta : TA} {p pos : Pos} (hg : Gl X "range") (hm : X.mg "range" = none) (ha : PA X [a] ta) (hs : starEach [a] X.env = [(false, eval a X.env)] := by rfl) : PI X tg (.Call (.Name "range" p) [a] [] pos) (iRng1 ta) := by
 intro pins s σ H R I h
 refine Call_ (zdO I hg hm boot_range (PyProof.Rows.callWith_type1 (thn (ha pos pins s σ H _ I h) fun us s1 ⟨vs, H1, I1, r1, q1⟩ => ?_) hs rfl))
 obtain ⟨j, e, q1, q2, q⟩ := q1
 subst e
 cases r1 with
 | cons r rr =>
  cases rr
  obtain ⟨t, rfl⟩ := r
  exact call_range_1 (zgL I1 (by omega) (by omega) q1 q2 (by simpa using q))
theorem zhW {a b : Expr} {ta : TA} {p pos : Pos} (hg : Gl X "range") (hm : X.mg "range" = none) (ha : PA X [a, b] ta) (hs : starEach [a, b] X.env = [(false, eval a X.env), (false, eval b X.env)] := by rfl) (hs2 : starEach [b] X.env = [(false, eval b X.env)] := by rfl) :
  PI X tg (.Call (.Name "range" p) [a, b] [] pos) (iRng2 ta) := by
 intro pins s σ H R I h
 refine Call_ (zdO I hg hm boot_range (PyProof.Rows.callWith_type1 (thn (ha pos pins s σ H _ I h) fun us s1 ⟨vs, H1, I1, r1, q1⟩ => ?_) (by rw [hs, hs2]) (by rw [hs2]; rfl)))
 obtain ⟨i, j, e, ⟨q1, q2, q3, q4⟩, q⟩ := q1
 subst e
 cases r1 with
 | cons r rr =>
  cases rr with
  | cons r' rr =>
   cases rr
   obtain ⟨t, rfl⟩ := r
   obtain ⟨t', rfl⟩ := r'
   exact call_range_2 (zgL I1 q1 q2 q3 q4 q)
def tFor (wi : TI) (g : TG) (tb : TS) : TS := fun D σ H => wi σ H fun J H1 => ∃ W : Nat → Nat → St → Hp → Prop, (∃ m, W 0 m σ H1) ∧ ∀ i m σ H, W i m σ H →
 (J.stop i H ∧ D.nx σ H) ∨ (J.go i H ∧ ∃ N : St → Hp → Prop, (∀ σ' H', N σ' H' → ∃ m', m' < m ∧ W (i + 1) m' σ' H') ∧ ∀ x H', J.yld i H x H' → g x σ H' fun σ2 H2 => tb { D with nx := N, ct := N, bk := D.nx } σ2 H2)
def zey (fp : List Addr) (h : Heap) : List (Addr × Obj) := fp.filterMap fun b => (h.get? b).map fun o => (b, o)
theorem zbz {fp : List Addr} {h : Heap} {b : Addr} {o : Obj} (hb : b ∈ fp) (e : h.get? b = some o) : (b, o) ∈ zey fp h := List.mem_filterMap.mpr ⟨b, hb, by rw [e]; rfl⟩
theorem zhX {fp : List Addr} {h : Heap} {p : Addr × Obj} (hp : p ∈ zey fp h) : p.1 ∈ fp ∧ h.get? p.1 = some p.2 := by
 obtain ⟨b, hb, e⟩ := List.mem_filterMap.mp hp
 cases q : h.get? b with
 | none => rw [q] at e; cases e
 | some o =>
  rw [q] at e
  have e' : (b, o) = p := Option.some.inj e
  subst e'
  exact ⟨hb, q⟩
theorem Inv.pinned {pins : List (Addr × Obj)} {σ : St} {H : Hp} {s : Shared} {fp : List Addr} (I : Inv X pins σ H s) (hf : ∀ b ∈ fp, zek X pins H b) (ho : ∀ b ∈ fp, ∃ o, s.heap.get? b = some o ∧ ∀ v, o.data ≠ .cell v) : Inv X (pins ++ zey fp s.heap) σ H s :=
 I.zhR fun p hp => (lM hp).elim (fun z => I.pin p (lR _ z)) fun z => by
  obtain ⟨hb, e⟩ := zhX z
  obtain ⟨f0, f1, f2, _⟩ := hf p.1 hb
  obtain ⟨o, e', d⟩ := ho p.1 hb
  rw [e] at e'; cases e'
  exact ⟨e, f0, f1, f2, d⟩
theorem Inv.zcH {pins pl : List (Addr × Obj)} {σ : St} {H : Hp} {s : Shared} (I : Inv X (pins ++ pl) σ H s) : Inv X pins σ H s := I.zhR fun p hp => I.pin p (lR _ (lL _ hp))
theorem zmQ {iter : Expr} {body : List Stmt} {wi : TI} {g : TG} {tb : TS} {pos : Pos} (hp : PassesOwn (model X.prog X.w) X.A X.env X.xe) (hc : X.calm = true) (hi : PI X tg iter wi) (hg : PG X tg g) (hb : PSs X body tb)
  (hs : ∀ x, foldedSetIterable iter X.env x = pure x := by intro _; rfl) : PS X (.For tg iter body [] pos) (tFor wi g tb) := by
 intro pins s σ H D I h
 refine wpAny_For (thn (hi pins s σ H _ I h) fun v s1 h1 => thn h1 fun itv s2 h2 => ?_) hs
 obtain ⟨it, fp, tn, J, H2, e, I2, T, st2, f2, W, ⟨m0, w0⟩, turn⟩ := h2
 subst e
 have stat : ∀ {H' : Hp}, (∀ b ∈ fp, H' b = none) → ∀ b ∈ fp, zek X pins H' b := fun hn b hb => ⟨hn b hb, (f2 b hb).2⟩
 refine codeAny_forLoop_any (fun n s' => ∃ i σ' H', Inv X pins σ' H' s' ∧ tn i s'.heap ∧ (∀ b ∈ fp, H' b = none) ∧ W i n σ' H') ?_ m0 ⟨0, σ, H2, I2, st2, fun b hb => (f2 b hb).1, w0⟩
 rintro n s3 ⟨i, σ3, H3, I3, st3, fr3, w3⟩
 rcases turn i n σ3 H3 w3 with ⟨stop, qn⟩ | ⟨go, N, hN, step⟩
 ·refine wpAny_passesOwn hp (thn (T.done X rfl rfl rfl hc i pins s3 σ3 H3 X.xe I3 (stat fr3) st3 stop) fun r s4 ⟨hr, I4⟩ => ?_)
  subst hr
  exact wpAny_execs_nil ⟨σ3, H3, I4, qn⟩
 ·refine wpAny_passesOwn hp (thn (T.item X rfl rfl rfl hc i pins s3 σ3 H3 X.xe I3 (stat fr3) st3 go) fun r s4 ⟨u, hr, h4⟩ => ?_)
  subst hr
  refine wpAny_passesOwn hp (thn h4 fun _ s5 ⟨x, H5, I5, r5, y5, st5, fr5⟩ => ?_)
  have I5' := I5.pinned (stat fr5) (T.obj _ _ st5)
  refine wpAny_passesOwn hp (thn (hg _ s5 σ3 H5 x u _ I5' r5 (step x H5 y5)) fun _ s6 ⟨σ6, H6, I6, q6⟩ => ?_)
  refine wpAny_passesOwn hp (thn (hb _ s6 σ6 H6 _ I6 q6) fun f s7 q7 => ?_)
  have again : ∀ {σ7 : St} {H7 : Hp}, Inv X (pins ++ zey fp s5.heap) σ7 H7 s7 → N σ7 H7 → ∃ m, m < n ∧ ∃ i σ' H', Inv X pins σ' H' s7 ∧ tn i s7.heap ∧ (∀ b ∈ fp, H' b = none) ∧ W i m σ' H' := fun {σ7 H7} I7 n7 => by
   obtain ⟨m', hm, w7⟩ := hN σ7 H7 n7
   refine ⟨m', hm, i + 1, σ7, H7, I7.zcH, T.keep _ _ _ st5 fun b hb o e => (I7.pin (b, o) (lR _ (lR _ (zbz hb e)))).1, fun b hb => ?_, w7⟩
   obtain ⟨o, e, d⟩ := T.obj _ _ st5 b hb
   exact (I7.pin (b, o) (lR _ (lR _ (zbz hb e)))).2.1
  cases f with
  | next => obtain ⟨σ7, H7, I7, n7⟩ := q7; exact again I7 n7
  | cont => obtain ⟨σ7, H7, I7, n7⟩ := q7; exact again I7 n7
  | brk => obtain ⟨σ7, H7, I7, q7⟩ := q7; exact ⟨σ7, H7, I7.zcH, q7⟩
  | ret v => obtain ⟨x7, σ7, H7, I7, r7, q7⟩ := q7; exact ⟨x7, σ7, H7, I7.zcH, r7, q7⟩
end
end L2
namespace L2
open PySem PySem.Spec PyProof.Rows
abbrev R2 := V → V → Hp → VK → Prop
def OpR (X : Cx) (f : Value → Value → Sem Value) (r : R2) : Prop :=
 ∀ (pins : List (Addr × Obj)) (s : Shared) (σ : St) (H : Hp) (x y : V) (v u : Value) (Q : VK), Inv X pins σ H s → RelV x v → RelV y u → r x y H Q →
  wpAny (model X.prog X.w) X.A (f v u) (EP X pins σ Q) X.xe s
def UnR (X : Cx) (f : Value → Sem Value) (r : V → Hp → VK → Prop) : Prop :=
 ∀ (pins : List (Addr × Obj)) (s : Shared) (σ : St) (H : Hp) (x : V) (v : Value) (Q : VK), Inv X pins σ H s → RelV x v → r x H Q →
  wpAny (model X.prog X.w) X.A (f v) (EP X pins σ Q) X.xe s
def za3 (X : Cx) (f : Value) (r : List V → Hp → VK → Prop) : Prop :=
 ∀ (pins : List (Addr × Obj)) (s : Shared) (σ : St) (H : Hp) (xs : List V) (us : List Value) (Q : VK), Inv X pins σ H s → zaW xs us → r xs H Q →
  wpAny (model X.prog X.w) X.A (call f us) (EP X pins σ Q) X.xe s
def TruR (X : Cx) (r : V → Hp → (Bool → Hp → Prop) → Prop) : Prop :=
 ∀ (pins : List (Addr × Obj)) (s : Shared) (σ : St) (H : Hp) (x : V) (v : Value) (Q : Bool → Hp → Prop), Inv X pins σ H s → RelV x v → r x H Q →
  wpAny (model X.prog X.w) X.A (truthy v) (TP X pins σ Q) X.xe s
def tOp (r : R2) (ta tb : TE) : TE := fun σ H Q => ta σ H fun x H1 => tb σ H1 fun y H2 => r x y H2 Q
def tUn (r : V → Hp → VK → Prop) (ta : TE) : TE := fun σ H Q => ta σ H fun x H1 => r x H1 Q
def rI (C : Int → Int → Prop) (g : Int → Int → V) : R2 := fun x y H Q => ∃ i j, x = .int i ∧ y = .int j ∧ C i j ∧ Q (g i j) H
def rI0 (g : Int → Int → V) : R2 := fun x y H Q => ∃ i j, x = .int i ∧ y = .int j ∧ Q (g i j) H
def rU (g : Int → V) : V → Hp → VK → Prop := fun x H Q => ∃ i, x = .int i ∧ Q (g i) H
section
variable {X : Cx} {a b c : Expr} {ta tb tc : TE} {pos : Pos}
theorem binT (ha : PE X a ta) (hb : PE X b tb) {pins : List (Addr × Obj)} {s : Shared} {σ : St} {H : Hp} {R : V → V → Hp → Prop} (I : Inv X pins σ H s)
  (h : ta σ H fun x H1 => tb σ H1 fun y H2 => R x y H2) {Q : Value → Shared → Prop} {f : Value → Value → Sem Value}
  (hf : ∀ v u s2 x y H2, Inv X pins σ H2 s2 → RelV x v → RelV y u → R x y H2 → wpAny (model X.prog X.w) X.A (f v u) Q X.xe s2) :
  wpAny (model X.prog X.w) X.A (eval a X.env) (fun v s₁ => wpAny (model X.prog X.w) X.A (eval b X.env) (fun u s₂ => wpAny (model X.prog X.w) X.A (f v u) Q X.xe s₂) X.xe s₁) X.xe s := by
 refine thn (ha pins s σ H _ I h) fun v s1 ⟨x, H1, I1, r1, q1⟩ => ?_
 refine thn (hb pins s1 σ H1 _ I1 q1) fun u s2 ⟨y, H2, I2, r2, q2⟩ => ?_
 exact hf v u s2 x y H2 I2 r1 r2 q2
theorem pe_op {op : Operator} {r : R2} (ho : OpR X (binaryOp op) r) (ha : PE X a ta) (hb : PE X b tb) : PE X (.BinOp a op b pos) (tOp r ta tb) := by
 intro pins s σ H Q I h
 exact wpAny_BinOp (binT ha hb I h fun v u s2 x y H2 I2 rx ry q => ho pins s2 σ H2 x y v u Q I2 rx ry q)
theorem pe_un {op : UnaryOp} {r : V → Hp → VK → Prop} (ho : UnR X (unaryOp op) r) (ha : PE X a ta) : PE X (.UnaryOp op a pos) (tUn r ta) := by
 intro pins s σ H Q I h
 exact UnaryOp_ (thn (ha pins s σ H _ I h) fun v s1 ⟨x, H1, I1, r1, q1⟩ => ho pins s1 σ H1 x v Q I1 r1 q1)
theorem opI {f : Value → Value → Sem Value} {C : Int → Int → Prop} {g : Int → Int → Int}
  (rule : ∀ (i j : Int) (t u : Tok) (s : Shared) (Q : Value → Shared → Prop) (E : Value → Shared → Prop), C i j → Q (.int (g i j) s.toks) { s with toks := s.toks + 1 } → wpAny (model X.prog X.w) X.A (f (.int i t) (.int j u)) Q E s) :
  OpR X f (rI C fun i j => .int (g i j)) := by
 intro pins s σ H x y v u Q I rx ry h
 obtain ⟨i, j, rfl, rfl, hc, q⟩ := h
 obtain ⟨t, rfl⟩ := rx
 obtain ⟨t', rfl⟩ := ry
 exact rule i j t t' s _ _ hc ⟨.int (g i j), H, I.tok _, ⟨_, rfl⟩, q⟩
theorem opI0 {f : Value → Value → Sem Value} {g : Int → Int → Int}
  (rule : ∀ (i j : Int) (t u : Tok) (s : Shared) (Q : Value → Shared → Prop) (E : Value → Shared → Prop), Q (.int (g i j) s.toks) { s with toks := s.toks + 1 } → wpAny (model X.prog X.w) X.A (f (.int i t) (.int j u)) Q E s) :
  OpR X f (rI0 fun i j => .int (g i j)) := by
 intro pins s σ H x y v u Q I rx ry h
 obtain ⟨i, j, rfl, rfl, q⟩ := h
 obtain ⟨t, rfl⟩ := rx
 obtain ⟨t', rfl⟩ := ry
 exact rule i j t t' s _ _ ⟨.int (g i j), H, I.tok _, ⟨_, rfl⟩, q⟩
theorem opB0 {f : Value → Value → Sem Value} {g : Int → Int → Bool}
  (rule : ∀ (i j : Int) (t u : Tok) (s : Shared) (Q : Value → Shared → Prop) (E : Value → Shared → Prop), Q (.bool (g i j)) s → wpAny (model X.prog X.w) X.A (f (.int i t) (.int j u)) Q E s) :
  OpR X f (rI0 fun i j => .bl (g i j)) := by
 intro pins s σ H x y v u Q I rx ry h
 obtain ⟨i, j, rfl, rfl, q⟩ := h
 obtain ⟨t, rfl⟩ := rx
 obtain ⟨t', rfl⟩ := ry
 exact rule i j t t' s _ _ ⟨.bl (g i j), H, I, rfl, q⟩
def CDiv (i j : Int) : Prop := 0 < j ∧ j < 1073741824
def CMul (i j : Int) : Prop := (-(2 ^ 64) < i ∧ i < 2 ^ 64) ∨ (-(2 ^ 64) < j ∧ j < 2 ^ 64)
theorem CMul.ok {i j : Int} (h : CMul i j) : IntMulOk i j := by
 rcases h with ⟨h1, h2⟩ | ⟨h1, h2⟩
 ·exact .of_left (intBits_le_64 h1 h2)
 ·exact .of_right (intBits_le_64 h1 h2)
theorem zmR : OpR X (binaryOp .Add) (rI0 fun i j => .int (i + j)) := opI0 fun _ _ _ _ _ _ _ q => add_int q
theorem zmS : OpR X (binaryOp .Sub) (rI0 fun i j => .int (i - j)) := opI0 fun _ _ _ _ _ _ _ q => sub_int q
theorem zmT : OpR X (binaryOp .Mult) (rI CMul fun i j => .int (i * j)) := opI fun _ _ _ _ _ _ _ hc q => mul_int q hc.ok
theorem zk0 : OpR X (binaryOp .FloorDiv) (rI CDiv fun i j => .int (i / j)) := opI fun i j _ _ _ _ _ hc q => by
 have h1 : (0 : Int) < j := hc.1
 have h2 : j < 1073741824 := hc.2
 exact floordiv_int (by omega) (by rw [Int.fdiv_eq_ediv_of_nonneg i (by omega)]; exact q) (.inl (PyProof.noPylong_small (by omega)))
theorem zmU : OpR X (binaryOp .Mod) (rI (fun _ j => 0 < j) fun i j => .int (i % j)) := opI fun i j _ _ _ _ _ hc q => by
 have h1 : (0 : Int) < j := hc
 exact mod_int' (by omega) (by rw [Int.fmod_eq_emod_of_nonneg i (by omega)]; exact q)
theorem unI {f : Value → Sem Value} {g : Int → Int}
  (rule : ∀ (i : Int) (t : Tok) (s : Shared) (Q : Value → Shared → Prop) (E : Value → Shared → Prop), Q (.int (g i) s.toks) { s with toks := s.toks + 1 } → wpAny (model X.prog X.w) X.A (f (.int i t)) Q E s) :
  UnR X f (rU fun i => .int (g i)) := by
 intro pins s σ H x v Q I rx h
 obtain ⟨i, rfl, q⟩ := h
 obtain ⟨t, rfl⟩ := rx
 exact rule i t s _ _ ⟨.int (g i), H, I.tok _, ⟨_, rfl⟩, q⟩
theorem zmV : UnR X (unaryOp .USub) (rU fun i => .int (-i)) := unI fun _ _ _ _ _ q => neg_int q
end
section
variable {X : Cx} {a b c : Expr} {ta tb tc : TE} {pos : Pos}
theorem zkl {pins : List (Addr × Obj)} {σ : St} {H : Hp} {s : Shared} {Q : VK} {k k' : Bool} (I : Inv X pins σ H s) (q : Q (.bl k) H) (e : k = k') : EP X pins σ Q (.bool k') s := by
 subst e
 exact ⟨.bl k, H, I, rfl, q⟩
theorem op_lt : OpR X (compareOp .Lt) (rI0 fun i j => .bl (decide (i < j))) := opB0 fun _ _ _ _ _ _ _ q => lt_int q
theorem op_gt : OpR X (compareOp .Gt) (rI0 fun i j => .bl (decide (j < i))) := opB0 fun _ _ _ _ _ _ _ q => gt_int q
theorem op_ge : OpR X (compareOp .GtE) (rI0 fun i j => .bl (decide (j ≤ i))) := opB0 fun _ _ _ _ _ _ _ q => ge_int q
theorem zfj : OpR X (compareOp .In) (fun x y H Q => ∃ i j, x = .str i ∧ y = .str j ∧ Q (.bl (!(Builtin.Str.occurrences j i 0 j.length 1).isEmpty)) H) := by
 intro pins s σ H x y v u Q I rx ry h
 obtain ⟨i, j, rfl, rfl, q⟩ := h
 obtain ⟨t, rfl⟩ := rx
 obtain ⟨t', rfl⟩ := ry
 exact in_str (zkl I q rfl)
theorem zfk : OpR X (compareOp .NotIn) (fun x y H Q => ∃ i j, x = .str i ∧ y = .str j ∧ Q (.bl (!(!(Builtin.Str.occurrences j i 0 j.length 1).isEmpty))) H) := by
 intro pins s σ H x y v u Q I rx ry h
 obtain ⟨i, j, rfl, rfl, q⟩ := h
 obtain ⟨t, rfl⟩ := rx
 obtain ⟨t', rfl⟩ := ry
 exact notIn_str (zkl I q rfl)
theorem zbN (b : Expr) {op : CmpOp} (h : op ≠ .In := by decide) (h2 : op ≠ .NotIn := by decide) : behindInMarks op b = false := by
 have e1 : (op == CmpOp.In) = false := by cases op <;> first | rfl | exact absurd rfl h
 have e2 : (op == CmpOp.NotIn) = false := by cases op <;> first | rfl | exact absurd rfl h2
 cases b <;> simp [behindInMarks, e1, e2]
theorem zf6 {op : CmpOp} {r : R2} (ho : OpR X (compareOp op) r) (ha : PE X a ta) (hb : PE X b tb) (hm : behindInMarks op b = false) : PE X (.Compare a [op] [b] pos) (tOp r ta tb) := by
 intro pins s σ H Q I h
 exact wpAny_Compare1 (binT ha hb I h fun v u s2 x y H2 I2 rx ry q => ho pins s2 σ H2 x y v u Q I2 rx ry q) hm
def tTest (t : TE) : TT := fun σ H Q => t σ H fun x H' => ∃ k, x = .bl k ∧ Q k H'
theorem zdQ {op : CmpOp} {r : R2} (ho : OpR X (compareOp op) r) (ha : PE X a ta) (hb : PE X b tb) (hm : behindInMarks op b = false) : PT X (.Compare a [op] [b] pos) (tTest (tOp r ta tb)) := by
 intro pins s σ H Q I h
 refine wpAny_isTrue_Compare1 (thn (ha pins s σ H _ I h) fun v s1 ⟨x, H1, I1, r1, q1⟩ => thn (hb pins s1 σ H1 _ I1 q1) fun u s2 ⟨y, H2, I2, r2, q2⟩ =>
  thn (ho pins s2 σ H2 x y v u _ I2 r1 r2 q2) fun c s3 ⟨z, H3, I3, r3, k, e, q3⟩ => ?_) hm
 subst e
 cases r3
 exact wpAny_truthy_bool ⟨H3, I3, q3⟩
def TruV (K : PySem.W.Frag) (x : V) (H : Hp) (k : Bool) : Prop :=
 match x with
 | .non => k = false
 | .bl b => k = b
 | .int i => k = (i != 0)
 | .str y => y.length ≤ sizeLine ∧ k = ((y.length : Int) != 0)
 | .byt y => y.size ≤ sizeLine ∧ k = ((y.size : Int) != 0)
 | .ref p => (∃ xs, SqL K H p xs ∧ k = !xs.isEmpty) ∨ (∃ xs, SqT K H p xs ∧ k = !xs.isEmpty) ∨ ∃ kvs, H p = some (.dK kvs) ∧ k = !kvs.isEmpty
 | _ => False
theorem zhm {κ : Type} {kvs : List (κ × V)} {vs : List (κ × Value)} (r : KV kvs vs) : (!vs.isEmpty) = !kvs.isEmpty := by
 cases r <;> rfl
theorem zez {xs : List V} {its : List Value} (r : zaW xs its) : (!its.toArray.isEmpty) = !xs.isEmpty := by
 cases r <;> simp
theorem zdR : (sizeLine : Nat) < 2 ^ 63 := by rw [sizeLine_eq]; decide
theorem zmW : TruR X (fun x H Q => ∃ k, TruV X.K x H k ∧ Q k H) := by
 intro pins s σ H x v Q I rx h
 obtain ⟨k, e, q⟩ := h
 have hl := zdR
 have hs : sizeLine = 16777216 := sizeLine_eq
 cases x with
 | non =>
  cases rx
  have e' : k = false := e
  subst e'
  exact truthy_none ⟨H, I, q⟩
 | bl b =>
  cases rx
  have e' : k = b := e
  subst e'
  exact wpAny_truthy_bool ⟨H, I, q⟩
 | int i =>
  obtain ⟨t, rfl⟩ := rx
  have e' : k = (i != 0) := e
  subst e'
  exact PySem.P.truthy_int ⟨H, I, q⟩
 | str y =>
  obtain ⟨t, rfl⟩ := rx
  obtain ⟨hy, e'⟩ : y.length ≤ sizeLine ∧ k = ((y.length : Int) != 0) := e
  subst e'
  exact PySem.P.truthy_str (by omega) ⟨H, I.tok _, q⟩
 | byt y =>
  obtain ⟨t, rfl⟩ := rx
  obtain ⟨hy, e'⟩ : y.size ≤ sizeLine ∧ k = ((y.size : Int) != 0) := e
  subst e'
  exact PySem.W.truthy_bytes (by omega) ⟨H, I.tok _, q⟩
 | ref p =>
  cases rx
  have e' : (∃ xs, SqL X.K H p xs ∧ k = !xs.isEmpty) ∨ (∃ xs, SqT X.K H p xs ∧ k = !xs.isEmpty) ∨ ∃ kvs, H p = some (.dK kvs) ∧ k = !kvs.isEmpty := e
  rcases e' with ⟨xs, hx, e'⟩ | ⟨xs, hx, e'⟩ | ⟨kvs, hx, e'⟩
  ·subst e'
   obtain ⟨its, r, pl, hz⟩ := I.list hx
   have hlen := r.length
   exact wpAny_truthy_list pl.isList (by simp only [List.size_toArray]; omega) ⟨H, I.tok _, by rw [zez r]; exact q⟩
  ·subst e'
   obtain ⟨its, r, pl, hz⟩ := I.tuple hx
   have hlen := r.length
   exact truthy_tuple pl (by simp only [List.size_toArray]; omega) ⟨H, I.tok _, by rw [zez r]; exact q⟩
  ·subst e'
   obtain ⟨hz, hS, vs, r, m⟩ : kvs.length ≤ sizeLine ∧ (p == sysModules) = false ∧ ∃ vs, KV kvs vs ∧ s.heap.DictOf (zaE X.prog X.w) p vs := I.hok p _ hx
   have hlen : kvs.length = vs.length := Paired.length r
   exact wpAny_truthy_dict hS m (by omega) ⟨H, I.tok _, by rw [zhm r]; exact q⟩
 | _ => exact (show False from e).elim
theorem zjA (ha : PE X a ta) (he : ∀ whole, isTrue a X.env whole = (do let v ← whole; standAt a.pos; holding [v] (truthy v))) :
  PT X a (fun σ H Q => ta σ H fun x H' => ∃ k, TruV X.K x H' k ∧ Q k H') := by
 intro pins s σ H Q I h
 exact isTrue_plain (thn (ha pins s σ H _ I h) fun v s1 ⟨x, H1, I1, r1, q1⟩ => zmW pins s1 σ H1 x v Q I1 r1 q1) (he _)
theorem zhn : OpR X (binaryOp .Add) (fun x y H Q => ∃ i j, x = .str i ∧ y = .str j ∧ i.length + j.length ≤ sizeLine ∧ Q (.str (i ++ j)) H) := by
 intro pins s σ H x y v u Q I rx ry h
 obtain ⟨i, j, rfl, rfl, hz, q⟩ := h
 obtain ⟨t, rfl⟩ := rx
 obtain ⟨t', rfl⟩ := ry
 exact add_str (fun t' tk => ⟨.str (i ++ j), H, I.tok _, ⟨_, rfl⟩, q⟩) hz
theorem vals1 {x : V} {us : List Value} (r : zaW [x] us) : ∃ u, us = [u] ∧ RelV x u := by
 cases r with
 | cons r1 r2 => cases r2; exact ⟨_, rfl, r1⟩
theorem vals2 {x y : V} {us : List Value} (r : zaW [x, y] us) : ∃ u w', us = [u, w'] ∧ RelV x u ∧ RelV y w' := by
 cases r with
 | cons r1 r2 =>
  cases r2 with
  | cons r3 r4 => cases r4; exact ⟨_, _, rfl, r1, r3⟩
theorem zhY (hc : X.calm = true) : za3 X (.builtin "max") (fun xs H Q => ∃ i j, xs = [.int i, .int j] ∧ Q (.int (if j > i then j else i)) H) := by
 intro pins s σ H xs us Q I r h
 obtain ⟨i, j, rfl, q⟩ := h
 obtain ⟨u, w', rfl, ⟨t, rfl⟩, ⟨t', rfl⟩⟩ := vals2 r
 refine max_two_ints (I.ok.hd hc) fun h' tk k => ⟨_, H, I.kept k, ?_, q⟩
 by_cases hj : j > i
 ·rw [if_pos hj, if_pos hj]; exact ⟨_, rfl⟩
 ·rw [if_neg hj, if_neg hj]; exact ⟨_, rfl⟩
theorem zhZ (hc : X.calm = true) : za3 X (.builtin "min") (fun xs H Q => ∃ i j, xs = [.int i, .int j] ∧ Q (.int (if j < i then j else i)) H) := by
 intro pins s σ H xs us Q I r h
 obtain ⟨i, j, rfl, q⟩ := h
 obtain ⟨u, w', rfl, ⟨t, rfl⟩, ⟨t', rfl⟩⟩ := vals2 r
 refine min_two_ints (I.ok.hd hc) fun h' tk k => ⟨_, H, I.kept k, ?_, q⟩
 by_cases hj : j < i
 ·rw [if_pos hj, if_pos hj]; exact ⟨_, rfl⟩
 ·rw [if_neg hj, if_neg hj]; exact ⟨_, rfl⟩
theorem zfl : za3 X (.type "int") (fun xs H Q => (∃ i, xs = [.int i] ∧ Q (.int i) H) ∨ ∃ k, xs = [.bl k] ∧ Q (.int (if k then 1 else 0)) H) := by
 intro pins s σ H xs us Q I r h
 rcases h with ⟨i, rfl, q⟩ | ⟨k, rfl, q⟩
 ·obtain ⟨u, rfl, t, rfl⟩ := vals1 r
  exact call_int_int ⟨.int i, H, I, ⟨_, rfl⟩, q⟩
 ·obtain ⟨u, rfl, r1⟩ := vals1 r
  cases r1
  exact call_int_bool ⟨.int (if k then 1 else 0), H, I.tok _, ⟨_, rfl⟩, q⟩
end
end L2
namespace L2
open PySem PySem.Spec PyProof.Rows
theorem zjp.zeN {v : V} {o : Option Value} (r : zjp (some v) o) : ∃ u, o = some u ∧ RelV v u := by
 cases o with
 | none => exact (show False from r).elim
 | some u => exact ⟨u, rfl, r⟩
end L2
namespace L2
open PySem PySem.Spec PyProof.Rows
structure zeh (k : Nat) (A : Around) : Prop where
 hd : A.handled = none
 dp : A.depth + 3 * k + 5 < recursionLimit
 un : A.units + 16 * k + 200 < cLine
 gd : A.guards = some []
theorem zeh.mono {j k : Nat} {A : Around} (r : zeh k A) (h : j ≤ k) : zeh j A := ⟨r.hd, by have := r.dp; omega, by have := r.un; omega, r.gd⟩
theorem zeh.deeper {k : Nat} {A : Around} (r : zeh (k + 1) A) (env : Env) : zeh k (A.deeper env) :=
 ⟨r.hd, by have := r.dp; show A.depth + 1 + 3 * k + 5 < _; omega, by have := r.un; show A.units + 3 + 16 * k + 200 < _; omega, r.gd⟩
theorem zeh.depth {k : Nat} {A : Around} (r : zeh k A) : A.depth < recursionLimit := by have := r.dp; omega
theorem zeh.units {k : Nat} {A : Around} (r : zeh k A) : A.units + 64 < cLine := by have := r.un; omega
def tNil : TA := fun _ H Q => Q [] H
def tCons (ta : TE) (tr : TA) : TA := fun σ H Q => ta σ H fun x H1 => tr σ H1 fun xs H2 => Q (x :: xs) H2
section
variable {X : Cx} {e : Expr} {es : List Expr} {te : TE} {t : TA} {pos : Pos}
theorem zh0 : PA X [] tNil := fun _ _ _ _ H Q I h => Calls.spliced_nil ⟨[], H, I, .nil, h⟩
theorem zf7 (ha : PE X e te) (hr : PA X es t) (hs : starEach (e :: es) X.env = (false, eval e X.env) :: starEach es X.env := by rfl) : PA X (e :: es) (tCons te t) := by
 intro pos pins s σ H Q I h
 rw [hs]
 show wpAny _ _ (spliced ((false, eval e X.env) :: backTo pos (starEach es X.env))) _ _ s
 refine Calls.spliced_cons (thn (ha pins s σ H _ I h) fun u s1 ⟨x, H1, I1, r1, q1⟩ => ?_)
 exact thn (hr pos pins s1 σ H1 _ I1 q1) fun us s2 ⟨xs, H2, I2, r2, q2⟩ => ⟨x :: xs, H2, I2, .cons r1 r2, q2⟩
def tTup (t : TA) : TE := fun σ H Q => t σ H fun xs H1 => xs.length ≤ sizeLine ∧ ∀ p, H1 p = none → Q (.ref p) (upd H1 p (.tup xs))
def tLst (t : TA) : TE := fun σ H Q => t σ H fun xs H1 => xs.length ≤ sizeLine ∧ ∀ p, H1 p = none → Q (.ref p) (upd H1 p (.lst xs))
theorem zmX {x1} (h : PA X es t) : PE X (.Tuple es x1 pos) (tTup t) := by
 intro pins s σ H Q I hq
 refine wpAny_Tuple_spliced (thn (h pos pins s σ H _ I hq) fun us s1 ⟨xs, H1, I1, r, z, q⟩ => ⟨by rw [← r.length]; exact z, ?_⟩)
 have hf : H1 s1.heap.objs.size = none := I1.hok.fresh (Nat.le_refl _)
 refine ⟨.ref s1.heap.objs.size, upd H1 s1.heap.objs.size (.tup xs), I1.laid (t' := s1.toks) (fun b u e => Heap.get?_push_of_some _ e) (Nat.le_refl _) ?_, rfl, q _ hf⟩
 exact ⟨z, us, r, ⟨_, Heap.get?_push_size _ rfl, rfl, _, rfl⟩⟩
theorem zmY (h : PA X es t) : PE X (.List es pos) (tLst t) := by
 intro pins s σ H Q I hq
 refine wpAny_List_spliced (thn (h pos pins s σ H _ I hq) fun us s1 ⟨xs, H1, I1, r, z, q⟩ => ⟨by rw [← r.length]; exact z, ?_⟩)
 have hf : H1 s1.heap.objs.size = none := I1.hok.fresh (Nat.le_refl _)
 refine ⟨.ref s1.heap.objs.size, upd H1 s1.heap.objs.size (.lst xs), I1.laid (t' := s1.toks) (fun b u e => Heap.get?_push_of_some _ e) (Nat.le_refl _) ?_, rfl, q _ hf⟩
 exact ⟨z, us, 0, r, Heap.get?_push_size _ rfl⟩
end
abbrev Sp := List V → Hp → VK → XK → Prop
abbrev CXT := List Env → Hp → Shared → XK → Value → Shared → Prop
structure Env0 (P : Program) (w : World) (K : PySem.W.Frag) (mg : Str → Option Value) (base : Heap) (A : Around) (outer : List Env) (s : Shared) (H : Hp) : Prop where
 frames : A.frames = some outer
 mod : Mod K mg base
 bs : ∀ b o, base.get? b = some o → s.heap.get? b = some o ∧ H b = none
 bsz : base.objs.size ≤ s.heap.objs.size
 zhQ : s.heap.FunFrames base outer
 frf : ∀ b ∈ frs outer, H b = none
 hok : HOk P w H s.heap
 bare : AllBare s.gens
def CE (outer : List Env) (P : Program) (w : World) (H : Hp) (s : Shared) (Q : VK) (u : Value) (s' : Shared) : Prop :=
 ∃ v H', s'.os = s.os ∧ AllBare s'.gens ∧ Un (frs outer) [] H H' s.heap s'.heap ∧ HOk P w H' s'.heap ∧ RelV v u ∧ Q v H'
def CR (CX : CXT) (outer : List Env) (P : Program) (w : World) (H : Hp) (s : Shared) (Q : VK) (E : XK) (r : Result) (s' : Shared) : Prop :=
 match r with
 | .ok (.ret u) => CE outer P w H s Q u s'
 | .ok _ => False
 | .error e => CX outer H s E e s'
structure zcv (P : Program) (w : World) (K : PySem.W.Frag) (mg : Str → Option Value) (base : Heap) (CX : CXT) (k : Nat) (f : Addr) (fd : FuncData) (ps : List Str) (sp : Sp) : Prop where
 len : ∀ vs H Q E, sp vs H Q E → vs.length = ps.length
 run : ∀ (A : Around) (outer : List Env) (s : Shared) (H : Hp) (args : Args) (us : List Value) (vs : List V) (Q : VK) (E : XK), zeh k A → Env0 P w K mg base A outer s H → BindsTo s fd args (ps.zip us) → zaW vs us → sp vs H Q E →
  codeAny (model P w) A (.call (.ref f) args) (CR CX outer P w H s Q E) s
theorem zcv.imp {P : Program} {w : World} {K : PySem.W.Frag} {mg : Str → Option Value} {base : Heap} {CX : CXT} {k : Nat} {f : Addr} {fd : FuncData} {ps : List Str} {sp sp' : Sp} (F : zcv P w K mg base CX k f fd ps sp)
  (h : ∀ vs H Q E, sp' vs H Q E → sp vs H Q E) : zcv P w K mg base CX k f fd ps sp' :=
 ⟨fun vs H Q E q => F.len vs H Q E (h _ _ _ _ q), fun A outer s H args us vs Q E hr he hb hv hs => F.run A outer s H args us vs Q E hr he hb hv (h _ _ _ _ hs)⟩
section
variable {X : Cx} {pins : List (Addr × Obj)} {σ : St} {H : Hp} {s s' : Shared}
theorem Inv.env0 (I : Inv X pins σ H s) : Env0 X.prog X.w X.K X.mg X.base X.A X.stack s H :=
 ⟨I.ok.frames, I.ok.mod, I.bs, Nat.le_trans I.ok.bsz I.sz, I.stack, I.zf4, I.hok, I.bare⟩
theorem Inv.after {Q : VK} {u : Value} (I : Inv X pins σ H s) (h : CE X.stack X.prog X.w H s Q u s') : EP X pins σ Q u s' := by
 obtain ⟨v, H', os, bare, un, hok, r, q⟩ := h
 obtain ⟨hh, g, d, t, os'⟩ := s'
 obtain rfl : os' = s.os := os
 exact ⟨v, H', I.call (h' := hh) (g' := g) (d' := d) (t' := t) (ch := []) un hok bare (fun b z => absurd z (by simp)), r, q⟩
end
def zk1 (sp : Sp) (dvs : List V) (E : XK) (t : TA) : TE := fun σ H Q => t σ H fun vs H1 => sp (vs ++ dvs) H1 Q E
def Binds (K : PySem.W.Frag) (fd : FuncData) (ps : List Str) (ds : List Value) : Prop :=
 ∀ (s : Shared) (us : List Value), K.In s.heap → (us ++ ds).length = ps.length → BindsTo s fd ⟨us, []⟩ (ps.zip (us ++ ds))
theorem Binds.all {K : PySem.W.Frag} {fd : FuncData} {ps : List Str} (h : ∀ us : List Value, us.length = ps.length → bindArgs fd ⟨us, []⟩ = pure (ps.zip us)) : Binds K fd ps [] := fun s us _ hl => by
 rw [List.append_nil] at hl ⊢
 exact .of_eq (h us hl)
def Passes (CX : CXT) (X : Cx) (E : XK) : Prop := ∀ (pins : List (Addr × Obj)) (σ : St) (H : Hp) (s : Shared) (e : Value) (s' : Shared), Inv X pins σ H s → CX X.stack H s E e s' → X.xe e s'
section
variable {X : Cx} {CX : CXT} {k : Nat} {f C : Addr} {fd : FuncData} {ps : List Str} {sp : Sp} {dvs : List V} {ds : List Value} {E : XK} {x m : Str} {p pos apos : Pos} {e o : Expr} {es : List Expr} {ta : TE} {t : TA}
theorem zmZ {pins : List (Addr × Obj)} {σ : St} {H : Hp} {s : Shared} {Q : VK} {us : List Value} {vs : List V} (F : zcv X.prog X.w X.K X.mg X.base CX k f fd ps sp) (hr : zeh k X.A) (hb : Binds X.K fd ps ds) (hd : zaW dvs ds) (hx : Passes CX X E)
  (I : Inv X pins σ H s) (r : zaW vs us) (h : sp (vs ++ dvs) H Q E) : wpAny (model X.prog X.w) X.A (call (.ref f) us) (EP X pins σ Q) X.xe s := by
 have r2 : zaW (vs ++ dvs) (us ++ ds) := r.append hd
 have hl : (us ++ ds).length = ps.length := by rw [← r2.length]; exact F.len _ _ _ _ h
 refine wpAny_call (codeAny_mono (F.run X.A X.stack s H ⟨us, []⟩ (us ++ ds) (vs ++ dvs) Q E hr I.env0 (hb s us I.kIn hl) r2 h) fun r s' hq => ?_)
 cases r with
 | error e => exact hx pins σ H s e s' I hq
 | ok fl =>
  cases fl with
  | ret u => exact I.after hq
  | next => exact False.elim hq
  | brk => exact False.elim hq
  | cont => exact False.elim hq
theorem zk2 (F : zcv X.prog X.w X.K X.mg X.base CX k f fd ps sp) (hr : zeh k X.A) (hg : Gl X x) (hm : X.mg x = some (.ref f)) (hk : PySem.W.keepIn X.K (.ref f) = true) (hb : Binds X.K fd ps ds) (hd : zaW dvs ds) (hx : Passes CX X E)
  (ha : PA X (e :: es) t) (hdb : (x == ("__debug__" : Str)) = false := by decide) (he : starEach (e :: es) X.env = (false, eval e X.env) :: starEach es X.env := by rfl) (hpl : (backTo pos (starEach es X.env)).any (·.1) = false := by rfl) :
  PE X (.Call (.Name x p) (e :: es) [] pos) (zk1 sp dvs E t) := by
 intro pins s σ H Q I h
 refine wpAny_Call_Name_kw (zkR I hg hm ?_ hdb)
 refine PySem.W.callWith_K (h₀ := X.base) I.ok.mod.kin hk (thn (ha pos pins s σ H _ I h) fun us s1 ⟨vs, H1, I1, r, q⟩ => ⟨I1.kIn, ?_⟩) he hpl
 exact zmZ F hr hb hd hx I1 r q
end
structure zaP (N P : List Str) (sc : Scope) : Prop where
 kind : sc.kind = .function
 co : sc.isCoroutine = false
 gen : sc.isGenerator = false
 nd : N.Nodup
 pre : N.take P.length = P
 par : ∀ x ∈ P, sc.names.lookup x = some .local ∨ sc.names.lookup x = some .cell
 nofree : ∀ y ∈ sc.names, y.2 ≠ .free
theorem zfm {kindOf : Str → Option NameKind} {x : Str} : ∀ {binds : List (Str × Value)} {m : Str → Option Value}, (∀ v, (x, v) ∉ binds) → bindL kindOf binds m x = m x
 | [], _, _ => rfl
 | (n, v) :: r, m, h => by
  unfold bindL
  rw [zfm fun w hw => h w (lO _ hw)]
  split
  ·have : x ≠ n := by rintro rfl; exact h v lS
   simp [this]
  ·rfl
theorem zfn {kindOf : Str → Option NameKind} {x : Str} : ∀ {binds : List (Str × Value)} {m : Str → Option Value}, (∀ v, (x, v) ∉ binds) → bindC kindOf binds m x = m x
 | [], _, _ => rfl
 | (n, v) :: r, m, h => by
  unfold bindC
  rw [zfn fun w hw => h w (lO _ hw)]
  split
  ·rfl
  ·have : x ≠ n := by rintro rfl; exact h v lS
   simp [this]
theorem zfo {kindOf : Str → Option NameKind} {x : Str} {v : Value} : ∀ {P : List Str} {vs : List Value} {i : Nat} {m : Str → Option Value}, P.Nodup → P[i]? = some x → vs[i]? = some v → kindOf x = some .local →
  bindL kindOf (P.zip vs) m x = some v
 | [], _, _, _, _, h, _, _ => by simp at h
 | _ :: _, [], _, _, _, _, h, _ => by simp at h
 | p :: P, w :: vs, 0, m, nd, h1, h2, hk => by
  simp at h1 h2; subst h1; subst h2
  show bindL kindOf ((p, w) :: P.zip vs) m p = _
  unfold bindL
  rw [zfm fun v hv => (List.nodup_cons.mp nd).1 (List.of_mem_zip hv).1, if_pos hk]
  simp
 | p :: P, w :: vs, i + 1, m, nd, h1, h2, hk => by
  show bindL kindOf ((p, w) :: P.zip vs) m x = _
  unfold bindL
  exact zfo (i := i) (List.nodup_cons.mp nd).2 (by simpa using h1) (by simpa using h2) hk
theorem zfp {kindOf : Str → Option NameKind} {x : Str} {v : Value} : ∀ {P : List Str} {vs : List Value} {i : Nat} {m : Str → Option Value}, P.Nodup → P[i]? = some x → vs[i]? = some v → kindOf x ≠ some .local →
  bindC kindOf (P.zip vs) m x = some v
 | [], _, _, _, _, h, _, _ => by simp at h
 | _ :: _, [], _, _, _, _, h, _ => by simp at h
 | p :: P, w :: vs, 0, m, nd, h1, h2, hk => by
  simp at h1 h2; subst h1; subst h2
  show bindC kindOf ((p, w) :: P.zip vs) m p = _
  unfold bindC
  rw [zfn fun v hv => (List.nodup_cons.mp nd).1 (List.of_mem_zip hv).1, if_neg hk]
  simp
 | p :: P, w :: vs, i + 1, m, nd, h1, h2, hk => by
  show bindC kindOf ((p, w) :: P.zip vs) m x = _
  unfold bindC
  exact zfp (i := i) (List.nodup_cons.mp nd).2 (by simpa using h1) (by simpa using h2) hk
def start (N : List Str) (vs : List V) : St := vs.map some ++ List.replicate (N.length - vs.length) none
def zkm (CX : CXT) (P : Program) (w : World) (K : PySem.W.Frag) (mg : Str → Option Value) (base : Heap) (N : List Str) (qual : Str) (scope : Scope) (f : Addr) (cd : Value) (A : Around) (outer : List Env) (s : Shared) (H : Hp) (E : XK) : Cx where
 prog := P
 w := w
 K := K
 mg := mg
 base := base
 A := A.deeper (envOfC qual scope s.heap.objs.size f cd)
 N := N
 s₀ := s
 H₀ := H
 env := envOfC qual scope s.heap.objs.size f cd
 outer := outer
 stack := envOfC qual scope s.heap.objs.size f cd :: outer
 ex := []
 calm := true
 fn := fun _ => true
 pn := []
 xe := fun e s' => wpAny (model P w) (A.deeper (envOfC qual scope s.heap.objs.size f cd)) (leaving (envOfC qual scope s.heap.objs.size f cd) e) (fun _ s'' => CX outer H s E e s'') (fun e' s'' => CX outer H s E e' s'') s'
theorem zgM {sc : Scope} {n : Nat} {x : Str} (h : sc.names.lookup x = some .cell) : ∃ c, (cellsFrom n sc.names []).lookup x = some c := by
 have q := PySem.W.cellsFrom_some sc.names n [] (.inl h)
 exact Option.isSome_iff_exists.mp q
theorem zh1 {CX : CXT} {P : Program} {w : World} {K : PySem.W.Frag} {mg : Str → Option Value} {base : Heap} {N ps : List Str} {qual : Str} {scope : Scope} {f : Addr} {cd : Value} {A : Around} {outer : List Env} {s s1 : Shared} {H : Hp} {E : XK} {us : List Value} {vs : List V}
  (S : zaP N ps scope) (hd : A.handled = none) (e0 : Env0 P w K mg base A outer s H) (hl : vs.length = ps.length) (r : zaW vs us)
  (x : InCallC s s.heap.objs.size (bindL (envOfC qual scope s.heap.objs.size f cd).kindOf (ps.zip us) fun _ => none) (cellsFrom (s.heap.objs.size + 1) scope.names []) (bindC (envOfC qual scope s.heap.objs.size f cd).kindOf (ps.zip us) fun _ => none) s1) :
  Inv (zkm CX P w K mg base N qual scope f cd A outer s H E) [] (start N vs) H s1 := by
 have hpl : ps.length ≤ N.length := by have := congrArg List.length S.pre; rw [List.length_take] at this; omega
 obtain ⟨h1, tk, rfl, hk⟩ := x.done
 have noA : ∀ b : Addr, b ∉ (zkm CX P w K mg base N qual scope f cd A outer s H E).ex := fun b z => absurd (show b ∈ ([] : List Addr) from z) (by simp)
 refine ⟨⟨e0.mod, S.kind, rfl, rfl, Nat.le_refl _, fun y z c h1 h2 => ?_, fun y hy => ?_, fun y c _ h => ?_, fun _ => hd, Around.frames_deeper e0.frames, .inr ⟨rfl, rfl⟩, fun b z => absurd z (noA b), e0.bs, e0.bsz, fun b _ _ => noA b, fun b z => absurd z (noA b), e0.zhQ, e0.frf⟩,
  rfl, e0.bare, Un.kept hk, ⟨_, x.toInCall.ns, fun i y v h1 h2 h3 => ?_⟩, fun y c h => ⟨_, x.cell y c h⟩, e0.hok.fresh (Nat.le_refl _), fun y c h => ?_, fun p hp => absurd (show p ∈ ([] : List (Addr × Obj)) from hp) (by simp), e0.hok.kept hk, ?_⟩
 ·exact name_of_addr x.apart (PySem.mem_of_lookup h1) (PySem.mem_of_lookup h2)
 ·have hy : scope.names.lookup y = some .cell ∨ scope.names.lookup y = some .free := hy
  rcases hy with hy | hy
  ·exact zgM hy
  ·exact absurd rfl (S.nofree _ (PySem.mem_of_lookup hy))
 ·exact Nat.le_of_lt (x.above y c (PySem.mem_of_lookup h))
 ·have hi : i < vs.length := by
   unfold start at h2
   by_cases hi : i < vs.length
   ·exact hi
   ·rw [List.getElem?_append_right (by simpa using hi)] at h2
    rw [List.getElem?_replicate] at h2
    split at h2 <;> cases h2
  have ha : vs[i]? = some v := by
   unfold start at h2
   rw [List.getElem?_append_left (by simpa using hi), List.getElem?_map] at h2
   cases e : vs[i]? with
   | none => rw [e] at h2; cases h2
   | some a => rw [e] at h2; cases h2; rfl
  obtain ⟨u, hu, rv⟩ := r.get ha
  have hp : ps[i]? = some y := by
   rw [← S.pre, List.getElem?_take_of_lt (by omega)]; exact h1
  have ndP : ps.Nodup := by rw [← S.pre]; exact S.nd.sublist (List.take_sublist _ _)
  refine ⟨u, rv, ?_⟩
  rcases S.par y (List.mem_of_getElem? hp) with k | k
  ·exact .inl ⟨k, zfo ndP hp hu k⟩
  ·obtain ⟨c, e⟩ := zgM (n := s.heap.objs.size + 1) k
   refine .inr ⟨.inl k, c, e, ?_⟩
   have q := x.cell y c e
   rw [zfp ndP hp hu (by show scope.names.lookup y ≠ _; rw [k]; decide)] at q
   exact q
 ·exact e0.hok.fresh (Nat.le_of_lt (x.above y c (PySem.mem_of_lookup h)))
 ·unfold start
  show _ = N.length
  rw [List.length_append, List.length_map, List.length_replicate]
  omega
theorem fn_of {CX : CXT} {P : Program} {w : World} {K : PySem.W.Frag} {mg : Str → Option Value} {base : Heap} {k : Nat} {f : Addr} {name qual : Str} {params : Arguments} {body : List Stmt} {scope : Scope} {dV kV doc pm cdv ct oc : Value} {an od : Option Addr}
  {osl : Array (Option Value)} {N ps : List Str} {sp : Sp} (lk : K.lookup f = some ⟨oc, od, .func (PySem.W.fnOf name qual params body scope dV kV doc pm an cdv ct), osl⟩) (hcd : PySem.W.codeIn K cdv qual = true) (S : zaP N ps scope)
  (len : ∀ vs H Q E, sp vs H Q E → vs.length = ps.length)
  (hbody : ∀ (A : Around) (outer : List Env) (s : Shared) (H : Hp) (vs : List V) (Q : VK) (E : XK), zeh k (A.deeper (envOfC qual scope s.heap.objs.size f cdv)) → sp vs H Q E →
   ∃ t, PSs (zkm CX P w K mg base N qual scope f cdv A outer s H E) body t ∧ t { nx := fun _ H' => Q .non H', rt := Q } (start N vs) H) :
  zcv P w K mg base CX (k + 1) f (PySem.W.fnOf name qual params body scope dV kV doc pm an cdv ct) ps sp := by
 refine ⟨len, fun A outer s H args us vs Q E hr e0 hb r hsp => ?_⟩
 have hl := len _ _ _ _ hsp
 have KX : K.In s.heap := e0.mod.kin.keeps fun b o e => (e0.bs b o e).1
 have lim : s.heap.NoLimit := e0.mod.nolimit.keeps fun b o e => (e0.bs b o e).1
 have hkind : ∀ y ∈ ps.zip us, scope.names.lookup y.1 = some .local ∨ (scope.names.lookup y.1 = some .cell ∧ ((cellsFrom (s.heap.objs.size + 1) scope.names []).lookup y.1).isSome = true) := fun ⟨n, v⟩ hy => by
  rcases S.par n (List.of_mem_zip hy).1 with q | q
  ·exact .inl q
  ·exact .inr ⟨q, PySem.W.cellsFrom_some _ _ _ (.inl q)⟩
 refine codeAny_call_function hr.depth (KX _ _ lk) rfl S.co S.gen rfl (PySem.W.codeRec_of KX hcd) (hb _ _ _ _ ?_)
 refine wpAny_newFunctionEnv_cells S.kind hkind fun env he s1 x => ?_
 subst he
 refine ⟨lim.keeps x.toInCall.keep, codeAny_func ?_⟩
 obtain ⟨t, ht, hq⟩ := hbody A outer s H vs Q E (hr.deeper _) hsp
 have I : Inv (zkm CX P w K mg base N qual scope f cdv A outer s H E) [] (start N vs) H s1 := zh1 S hr.hd e0 hl r x
 refine wpAny_mono (ht [] s1 (start N vs) H _ I hq) (fun fl s' hs => ?_) fun e s' hs => hs
 have fin : ∀ {σ' : St} {H' : Hp} {v : V} {u : Value}, Inv (zkm CX P w K mg base N qual scope f cdv A outer s H E) [] σ' H' s' → RelV v u → Q v H' → CE outer P w H s Q u s' :=
  fun {σ' H' v u} J rv q => ⟨v, H', J.os, J.bare, J.base, J.hok, rv, q⟩
 cases fl with
 | ret u =>
  obtain ⟨v, σ', H', J, rv, q⟩ := hs
  exact fin J rv q
 | next =>
  obtain ⟨σ', H', J, q⟩ := hs
  exact fin (v := V.non) (u := Value.none) J rfl q
 | brk =>
  obtain ⟨_, _, _, q⟩ := hs
  exact False.elim q
 | cont =>
  obtain ⟨_, _, _, q⟩ := hs
  exact False.elim q
end L2
namespace L2
open PySem PySem.Spec PyProof.Rows
section
variable {X : Cx} {x : Str} {p pos : Pos} {e : Expr} {es : List Expr} {t : TA} {id T : String} {r : List V → Hp → VK → Prop}
def tCB (r : List V → Hp → VK → Prop) (t : TA) : TE := fun σ H Q => t σ H fun vs H1 => r vs H1 Q
theorem zjB (hc : za3 X (.builtin id) r) (hg : Gl X x) (hm : X.mg x = none) (hv : bootBuiltins x = some (.builtin id)) (ha : PA X (e :: es) t) (hn : x ≠ "__name__" := by decide) (hdb : (x == ("__debug__" : Str)) = false := by decide)
  (he : starEach (e :: es) X.env = (false, eval e X.env) :: starEach es X.env := by rfl) (hpl : (backTo pos (starEach es X.env)).any (·.1) = false := by rfl) : PE X (.Call (.Name x p) (e :: es) [] pos) (tCB r t) := by
 intro pins s σ H Q I h
 refine wpAny_Call_Name_kw (zdO I hg hm hv ?_ hn hdb)
 exact PyProof.Rows.callWith_builtin1 (thn (ha pos pins s σ H _ I h) fun us s1 ⟨vs, H1, I1, r1, q1⟩ => hc pins s1 σ H1 vs us Q I1 r1 q1) he hpl
theorem zh2 (hc : za3 X (.type T) r) (hg : Gl X x) (hm : X.mg x = none) (hv : bootBuiltins x = some (.type T)) (ha : PA X (e :: es) t) (hn : x ≠ "__name__" := by decide) (hdb : (x == ("__debug__" : Str)) = false := by decide)
  (he : starEach (e :: es) X.env = (false, eval e X.env) :: starEach es X.env := by rfl) (hpl : (backTo pos (starEach es X.env)).any (·.1) = false := by rfl) : PE X (.Call (.Name x p) (e :: es) [] pos) (tCB r t) := by
 intro pins s σ H Q I h
 refine wpAny_Call_Name_kw (zdO I hg hm hv ?_ hn hdb)
 exact PyProof.Rows.callWith_type1 (thn (ha pos pins s σ H _ I h) fun us s1 ⟨vs, H1, I1, r1, q1⟩ => hc pins s1 σ H1 vs us Q I1 r1 q1) he hpl
end
end L2
namespace HT
open PySem PyProof.Rows
def lexLt : List Int → List Int → Bool
 | [], [] => false
 | [], _ :: _ => true
 | _ :: _, [] => false
 | x :: xs, y :: ys => if x = y then lexLt xs ys else decide (x < y)
theorem za8 (x y : Int) (xs ys : List Int) : lexLt (x :: xs) (y :: ys) = if x = y then lexLt xs ys else decide (x < y) := rfl
theorem zcI : lexLt [] [] = false := rfl
theorem zel (y : Int) (ys : List Int) : lexLt [] (y :: ys) = true := rfl
theorem zem (x : Int) (xs : List Int) : lexLt (x :: xs) [] = false := rfl
theorem zgN (A : Around) (s : Shared) (a : Int) (t : Tok) (c : Int) (u : Tok) : ∃ e, SeqAt.EqAt A s (.int a t) (.int c u) e ∧ (e = true ↔ a = c) :=
 ⟨(a == c), SeqAt.EqAt.int_int a t c u, by simp⟩
theorem zjC (A : Around) (s : Shared) (a : Int) (t : Tok) (c : Int) (u : Tok) (prog : Program) (w : World) (E : Value → Shared → Prop) (Q : Value → Shared → Prop) (h : Q (.bool (decide (a < c))) s) :
  wpAny (model prog w) A (richCompare .Lt (.int a t) (.int c u)) Q E s :=
 (PyProof.Rows.lt_int h : wpAny (model prog w) A (compareOp .Lt (.int a t) (.int c u)) Q E s)
section
open PySem.SeqAt
open PySem.AutoSeq1 (wpAny_loadPart')
open PySem.MeetsSeq PySem.MeetsSeq2 PySem.MeetsSeq3
theorem zeO (l b : Addr) (items items2 : Array Value) (n n2 : Nat) (dd dd2 : Option Addr) (sl sl2 : Array (Option Value)) (ns ms : List Int) (hi : IntsAre items.toList ns) (hj : IntsAre items2.toList ms) :
  Meets (Builtin.«tuple.__lt__» ⟨[.ref l, .ref b], []⟩)
   (fun _ R s => s.heap.get? l = some { cls := .type "tuple", dict := dd, data := .seq items n, slots := sl } ∧ s.heap.get? b = some { cls := .type "tuple", dict := dd2, data := .seq items2 n2, slots := sl2 } ∧
    R (.ok (.ret (.bool (lexLt ns ms)))) s) :=
 .of_wp fun prog w A R s h => by
  obtain ⟨hp, g, d, tk, os⟩ := s; obtain ⟨hl, hb, h⟩ := h
  have f2 := AutoSeq1.sub_tuple_tuple
  have z1 : items.size = ns.length := by rw [← hi.length]; simp
  have z2 : items2.size = ms.length := by rw [← hj.length]; simp
  wp_walk using wpAny_loadPart' hl, wpAny_loadPart' hb, wpAny_forIn_list _ (fun rest b s' => b.1 = none ∧ s' = ⟨hp, g, d, tk, os⟩ ∧ ∃ (vs ws : List Value) (ns' ms' : List Int), rest = vs.zip ws ∧
   IntsAre vs ns' ∧ IntsAre ws ms' ∧ ns'.length + items2.size = ms'.length + items.size ∧ R (.ok (.ret (.bool (lexLt ns' ms')))) ⟨hp, g, d, tk, os⟩) _
  case turn =>
   rintro ⟨y, x⟩ rest b s' ⟨hb', rfl, vs, ws, ns', ms', hz, hvi, hwi, hlen, hR⟩
   cases hvi with
   | nil => rw [List.zip_nil_left] at hz; cases hz
   | cons a t hvi' =>
    cases hwi with
    | nil => rw [List.zip_nil_right] at hz; cases hz
    | cons c u hwi' =>
     rw [List.zip_cons_cons] at hz
     injection hz with hyx hrest
     injection hyx with hy hx
     subst hy hx
     rw [za8] at hR
     simp only [List.length_cons] at hlen
     obtain ⟨e, he, hiff⟩ := zgN A.in1 ⟨hp, g, d, tk, os⟩ a t c u
     refine wpAny_bind (he prog w _ _ ?_)
     cases e with
     | true =>
      rw [if_pos (hiff.mp rfl)] at hR
      wp_walk
      exact ⟨rfl, rfl, _, _, _, _, hrest, hvi', hwi', by omega, hR⟩
     | false =>
      rw [if_neg (fun q => absurd (hiff.mpr q) Bool.false_ne_true)] at hR
      have hri := zjC A.in1 ⟨hp, g, d, tk, os⟩ a t c u prog w
      wp_walk using hri
      exact ⟨_, rfl, by simpa using hR⟩
  case fin =>
   rintro ⟨b1, b2⟩ s' ⟨hb', rfl, vs, ws, ns', ms', hz, hvi, hwi, hlen, hR⟩
   simp only at hb'
   subst hb'
   have hv : lexLt ns' ms' = decide (items.size < items2.size) := by
    cases hvi with
    | nil =>
     cases hwi with
     | nil =>
      simp only [List.length_nil] at hlen
      rw [zcI]
      exact (decide_eq_false (by omega)).symm
     | cons c u hw =>
      simp only [List.length_nil, List.length_cons] at hlen
      rw [zel]
      exact (decide_eq_true (by omega)).symm
    | cons a t hv =>
     cases hwi with
     | nil =>
      simp only [List.length_nil, List.length_cons] at hlen
      rw [zem]
      exact (decide_eq_false (by omega)).symm
     | cons c u hw =>
      rw [List.zip_cons_cons] at hz
      cases hz
   rw [hv] at hR
   wp_walk
   exact ⟨_, rfl, by simpa [Builtin.Tuple.tupleCompareSizes] using hR⟩
  case h =>
   exact ⟨rfl, rfl, items.toList, items2.toList, ns, ms, rfl, hi, hj, by omega, h⟩
end
section
variable {prog : Program} {w : World} {A : Around} {E : Value → Shared → Prop} {s : Shared}
theorem zho {l b : Addr} {items items2 : Array Value} {ns ms : List Int} {Q : Value → Shared → Prop} (hl : IsTup s.heap l items) (hb : IsTup s.heap b items2) (hi : IntsAre items.toList ns) (hj : IntsAre items2.toList ms)
  (hu : A.units < cLine) (h : Q (.bool (lexLt ns ms)) s) : wpAny (model prog w) A (compareOp .Lt (.ref l) (.ref b)) Q E s := by
 obtain ⟨⟨cls, dd, data, sl⟩, ho, hc, n, hd⟩ := id hl
 obtain ⟨⟨cls2, dd2, data2, sl2⟩, ho2, hc2, n2, hd2⟩ := id hb
 simp only at hc hd hc2 hd2
 subst hc hd hc2 hd2
 exact richCompare_meets_room (op := .Lt) ⟨_, ho, rfl⟩ ⟨_, ho2, rfl⟩ PySem.F.slot_tuple_lt PySem.F.entry_tuple_lt (PySem.F.args_tuple_lt_2 _ _) (zeO l b items items2 n n2 dd dd2 sl sl2 ns ms hi hj)
  ⟨ho, ho2, show Value.bool (lexLt ns ms) ≠ Value.notImplemented ∧ Q (.bool (lexLt ns ms)) s from ⟨(fun x => nomatch x), h⟩⟩ hu
theorem zk3 {t b : Addr} {vs ws : List Value} {Q : Value → Shared → Prop} (ht : IsTup s.heap t vs.toArray) (hb : IsTup s.heap b ws.toArray) (hv : vs ≠ [])
  (h1 : ws = [] → Q (.ref t) s) (h2 : ws ≠ [] → Q (.ref s.heap.objs.size) { s with heap := s.heap.push { cls := .type "tuple", data := .seq (vs ++ ws).toArray } })
  (hsz : vs.length + ws.length ≤ sizeLine) : wpAny (model prog w) A (binaryOp .Add (.ref t) (.ref b)) Q E s := by
 obtain ⟨⟨cls, dd, data, sl⟩, ho, hc, n, hd⟩ := id ht
 obtain ⟨⟨cls2, dd2, data2, sl2⟩, ho2, hc2, n2, hd2⟩ := id hb
 simp only at hc hd hc2 hd2
 subst hc hd hc2 hd2
 have e : vs.toArray ++ ws.toArray = (vs ++ ws).toArray := by simp
 by_cases hw : ws = []
 ·exact concat_meets ⟨_, ho, rfl⟩ ⟨_, ho2, rfl⟩ noFill_tuple_add seq_tuple_add PySem.F.slot_tuple_add PySem.F.entry_tuple_add (PySem.F.args_tuple_add_2 _ _)
   (tuple_addW1 t b vs.toArray ws.toArray n n2 dd dd2 sl sl2 (by simpa using hv) (by simp [hw])) ⟨ho, ho2, h1 hw⟩
 ·refine concat_meets ⟨_, ho, rfl⟩ ⟨_, ho2, rfl⟩ noFill_tuple_add seq_tuple_add PySem.F.slot_tuple_add PySem.F.entry_tuple_add (PySem.F.args_tuple_add_2 _ _)
   (tuple_addW2 t b vs.toArray ws.toArray n n2 dd dd2 sl sl2 (by simpa using hv) (by simpa using hw) (by rw [List.size_toArray, List.size_toArray]; exact hsz)) ⟨ho, ho2, ?_⟩
  rw [e]
  exact h2 hw
def sIx (n d : Nat) : Option Int → Nat
 | none => d
 | some v => if v < 0 then (v + (n : Int)).toNat else min v.toNat n
theorem zjD (n d : Nat) : sIx n d none = d := rfl
theorem zk4 (n d k : Nat) : sIx n d (some (k : Int)) = min k n := by
 show (if (k : Int) < 0 then ((k : Int) + (n : Int)).toNat else min (k : Int).toNat n) = min k n
 rw [if_neg (by omega), Int.toNat_natCast]
theorem zm0 (n d : Nat) (hd : d ≤ n) (o : Option Int) : sIx n d o ≤ n := by
 cases o with
 | none => exact hd
 | some v =>
  show (if v < 0 then (v + (n : Int)).toNat else min v.toNat n) ≤ n
  by_cases hv : v < 0
  ·rw [if_pos hv]; omega
  ·rw [if_neg hv]; exact Nat.min_le_right _ _
theorem zh3 (v : Int) (n d : Nat) : (if v < 0 then max (v + (n : Int)) 0 else min v (n : Int)) = ((sIx n d (some v) : Nat) : Int) := by
 show (if v < 0 then max (v + (n : Int)) 0 else min v (n : Int)) = (((if v < 0 then (v + (n : Int)).toNat else min v.toNat n) : Nat) : Int)
 by_cases hv : v < 0
 ·simp only [if_pos hv]; omega
 ·simp only [if_neg hv]; omega
theorem zhp (lo hi : Option Int) (n : Nat) : Builtin.Slice.sliceAdjust lo hi 1 (n : Int) = (((sIx n 0 lo : Nat) : Int), ((sIx n n hi : Nat) : Int)) := by
 have h1 : ¬ ((1 : Int) < 0) := by omega
 unfold Builtin.Slice.sliceAdjust
 simp only [h1, if_false]
 refine Prod.ext ?_ ?_
 ·cases lo with
  | none => rfl
  | some v => exact zh3 v n 0
 ·cases hi with
  | none => rfl
  | some v => exact zh3 v n n
theorem zhq (i j : Nat) : Builtin.Slice.slicePlaces (i : Int) (j : Int) 1 = j - i := by
 unfold Builtin.Slice.slicePlaces
 have h1 : (1 : Int) > 0 := by omega
 simp only [h1, if_true, Int.ediv_one]
 split <;> omega
theorem zeA {v : Value} {o : Option Int} {Q : Option Int → Shared → Prop} (p : IsPart v o) (h : Q o s) : wpAny (model prog w) A (Builtin.Slice.slicePartIndex v) Q E s := by
 cases p with
 | none => exact slicePart_none h
 | int i t => exact slicePart_int h
theorem zb4 {sl : Addr} {vl vu : Value} {lo hi : Option Int} {n : Nat} {Q : Int × Int × Nat → Shared → Prop} (hs : s.heap.IsSliceOf sl vl vu .none) (pl : IsPart vl lo) (pu : IsPart vu hi)
  (h : Q (((sIx n 0 lo : Nat) : Int), 1, sIx n n hi - sIx n 0 lo) s) : wpAny (model prog w) A (Builtin.Slice.sliceApplied (.ref sl) (pure (n : Int))) Q E s := by
 obtain ⟨os, hos, hcs, hds⟩ := id hs
 unfold Builtin.Slice.sliceApplied Builtin.Slice.sliceFields
 refine wpAny_bind (wpAny_bind (wpAny_field hos hds (x := vl) rfl (wpAny_bind (wpAny_field hos hds (x := vu) rfl (wpAny_bind (wpAny_field hos hds (x := .none) rfl (wpAny_pure ?_)))))))
 refine wpAny_bind (slicePart_none ?_)
 show wpAny _ _ (if ((1 : Int) == 0) = true then _ else _) _ _ s
 rw [if_neg (by decide)]
 refine wpAny_bind (zeA pl (wpAny_bind (zeA pu (wpAny_bind (wpAny_pure ?_)))))
 show wpAny _ _ (match Builtin.Slice.sliceAdjust lo hi 1 (n : Int) with | (lo, hi) => pure (lo, (1 : Int), Builtin.Slice.slicePlaces lo hi 1)) _ _ s
 rw [zhp lo hi n]
 show wpAny _ _ (pure (((sIx n 0 lo : Nat) : Int), (1 : Int), Builtin.Slice.slicePlaces ((sIx n 0 lo : Nat) : Int) ((sIx n n hi : Nat) : Int) 1)) _ _ s
 rw [zhq]
 exact wpAny_pure h
theorem zjE (xs : Array Value) (i k : Nat) : ((List.range k).filterMap fun (m : Nat) => xs[((i : Int) + (m : Int) * 1).toNat]?).toArray = ((xs.toList.drop i).take k).toArray := by
 have e : (fun (m : Nat) => xs[((i : Int) + (m : Int) * 1).toNat]?) = fun m => xs[i + m]? := by
  funext m
  have : ((i : Int) + (m : Int) * 1).toNat = i + m := by omega
  rw [this]
 rw [e]
 have := pick_run xs i k
 rw [List.filterMap_map] at this
 have e2 : ((fun x => xs[x]?) ∘ fun x => i + x) = fun m => xs[i + m]? := rfl
 rw [e2] at this
 rw [this]
theorem zc5 {t sl : Addr} {items : Array Value} {vl vu : Value} {lo hi : Option Int} {Q : Value → Shared → Prop} (ht : IsTup s.heap t items) (hs : s.heap.IsSliceOf sl vl vu .none) (pl : IsPart vl lo) (pu : IsPart vu hi)
  (hw : ¬ (sIx items.size 0 lo = 0 ∧ sIx items.size items.size hi = items.size))
  (h : Q (.ref s.heap.objs.size) { s with heap := s.heap.push { cls := .type "tuple", data := .seq ((items.toList.drop (sIx items.size 0 lo)).take (sIx items.size items.size hi - sIx items.size 0 lo)).toArray } })
  (hsz : items.size ≤ sizeLine) : wpAny (model prog w) A (getItem (.ref t) (.ref sl)) Q E s := by
 have htake : sizeOk (.seq ((items.toList.drop (sIx items.size 0 lo)).take (sIx items.size items.size hi - sIx items.size 0 lo)).toArray) := by
  show ((items.toList.drop (sIx items.size 0 lo)).take (sIx items.size items.size hi - sIx items.size 0 lo)).toArray.size ≤ sizeLine
  rw [List.size_toArray, List.length_take, List.length_drop, Array.length_toList]
  omega
 have hj : sIx items.size items.size hi ≤ items.size := zm0 _ _ (Nat.le_refl _) hi
 obtain ⟨os, hos, hcs, hds⟩ := id hs
 have hTs : s.TypeIs (.ref sl) "slice" := ⟨os, hos, hcs⟩
 unfold getItem
 try with_reducible refine wpAny_holding ?_
 first | refine wpAny_bind (wpAny_pure ?_) | skip
 refine wpAny_bind (wpAny_sequenceKey ht.typeIs (by decide) ?_)
 refine wpAny_bind (wpAny_callSpecial?_slot (name := Str.ofString "__getitem__") ht.typeIs PyProof.Rows.slot_tuple_getitem
  (wpAny_call_entry PyProof.Rows.slot_tuple_getitem ht.typeIs entry_tuple_getitem ?_ (args_tuple_getitem _ _)))
 show wpAny _ _ (Builtin.Tuple.tupleItemsOf (.ref t) >>= _) _ _ s
 refine wpAny_bind (tupleItemsOf_ ht ?_)
 refine wpAny_bind (wpAny_typeOf hTs ?_)
 rw [if_pos (by decide)]
 refine wpAny_bind (zb4 hs pl pu ?_)
 have hno : ¬ ((((sIx items.size 0 lo : Nat) : Int) == 0 && (1 : Int) == 1 && (sIx items.size items.size hi - sIx items.size 0 lo) == items.size) = true) := by
  intro q
  rw [Bool.and_eq_true, Bool.and_eq_true] at q
  have q1 : ((sIx items.size 0 lo : Nat) : Int) = 0 := eq_of_beq q.1.1
  have q2 : sIx items.size items.size hi - sIx items.size 0 lo = items.size := eq_of_beq q.2
  exact hw ⟨by omega, by omega⟩
 show wpAny _ _ (if (((sIx items.size 0 lo : Nat) : Int) == 0 && (1 : Int) == 1 && (sIx items.size items.size hi - sIx items.size 0 lo) == items.size) = true then _ else _) _ _ s
 rw [if_neg hno, zjE]
 first
  | exact wpAny_bind (m := Builtin.Tuple.tupleExact _) (wpAny_newObj_type (wpAny_pure ⟨_, rfl, wpAny_pure h⟩) htake)
  | exact wpAny_bind (m := Builtin.Tuple.tupleExact _) (wpAny_newObj_type (wpAny_bind (wpAny_pure (wpAny_pure ⟨_, rfl, wpAny_pure h⟩))) htake)
  | exact wpAny_bind (wpAny_bind (m := Builtin.Tuple.tupleExact _) (wpAny_newObj_type (wpAny_pure (wpAny_pure ⟨_, rfl, wpAny_pure h⟩)) htake))
  | exact wpAny_bind (wpAny_bind (m := Builtin.Tuple.tupleExact _) (wpAny_newObj_type (wpAny_pure ⟨_, rfl, wpAny_pure h⟩) htake))
end
end HT
namespace L2
open PySem PySem.Spec PyProof.Rows
abbrev TO := St → Hp → (Option Int → Hp → Prop) → Prop
def PO (X : Cx) (e : Option Expr) (t : TO) : Prop :=
 ∀ (pins : List (Addr × Obj)) (s : Shared) (σ : St) (H : Hp) (Q : Option Int → Hp → Prop), Inv X pins σ H s → t σ H Q →
  wpAny (model X.prog X.w) X.A (evalPart e X.env) (fun u s' => ∃ o H', Inv X pins σ H' s' ∧ IsPart u o ∧ Q o H') X.xe s
def zk5 : TO := fun _ H Q => Q none H
def tPart (t : TE) : TO := fun σ H Q => t σ H fun x H1 => ∃ i, x = .int i ∧ Q (some i) H1
theorem intsAre_of {ns : List Int} : ∀ {us : List Value}, zaW (ns.map V.int) us → IntsAre us ns := by
 induction ns with
 | nil => intro us r; rw [List.map_nil] at r; cases r; exact .nil
 | cons n ns ih =>
  intro us r
  rw [List.map_cons] at r
  cases r with
  | cons r1 r2 =>
   obtain ⟨t, e⟩ := r1
   subst e
   exact .cons n t (ih r2)
section
variable {X : Cx} {e : Expr} {te : TE} {lo hi : Option Expr} {tl th : TO} {pos p2 : Pos}
theorem zk6 : PO X none zk5 := by
 intro pins s σ H Q I h
 rw [evalPart_none]
 exact wpAny_pure ⟨none, H, I, .none, h⟩
theorem zk7 (h : PE X e te) : PO X (some e) (tPart te) := by
 intro pins s σ H Q I hw
 rw [evalPart_some]
 refine thn (h pins s σ H _ I hw) fun u s1 ⟨x, H1, I1, r1, q1⟩ => ?_
 obtain ⟨i, rfl, q⟩ := q1
 obtain ⟨t, rfl⟩ := r1
 exact ⟨some i, H1, I1, .int i t, q⟩
def SlR (X : Cx) (r : V → Option Int → Option Int → Hp → VK → Prop) : Prop :=
 ∀ (pins : List (Addr × Obj)) (s : Shared) (σ : St) (H : Hp) (x : V) (v vl vu : Value) (lo hi : Option Int) (sl : Addr) (Q : VK), Inv X pins σ H s → RelV x v → s.heap.IsSliceOf sl vl vu .none → IsPart vl lo → IsPart vu hi → r x lo hi H Q →
  ∃ T id, typeLookup (.type T) "__getitem__" = pure (some (.builtin id)) ∧ s.TypeIs v T ∧ wpAny (model X.prog X.w) X.A (getItem v (.ref sl)) (EP X pins σ Q) X.xe s
def tSl (r : V → Option Int → Option Int → Hp → VK → Prop) (te : TE) (tl th : TO) : TE := fun σ H Q => te σ H fun x H1 => tl σ H1 fun l H2 => th σ H2 fun u H3 => r x l u H3 Q
theorem zjF {r : V → Option Int → Option Int → Hp → VK → Prop} (hr : SlR X r) (he : PE X e te) (hl : PO X lo tl) (hu : PO X hi th) : PE X (.Subscript e (.Slice lo hi none p2) pos) (tSl r te tl th) := by
 intro pins s σ H Q I h
 refine Subscript_ (thn (he pins s σ H _ I h) fun v s1 ⟨x, H1, I1, r1, q1⟩ => ?_)
 refine wpAny_Slice (thn (hl pins s1 σ H1 _ I1 q1) fun vl s2 ⟨l, H2, I2, pl, q2⟩ => thn (hu pins s2 σ H2 _ I2 q2) fun vu s3 ⟨u, H3, I3, pu, q3⟩ => ?_)
 rw [evalPart_none]
 refine wpAny_pure ?_
 have I4 : Inv X pins σ H3 { s3 with heap := s3.heap.push { cls := .type "slice", data := .fields #[vl, vu, .none] } } := I3.kept (t' := s3.toks) fun b ob q => Heap.get?_push_of_some _ q
 obtain ⟨T, id, hT, ht, hg⟩ := hr pins { s3 with heap := s3.heap.push { cls := .type "slice", data := .fields #[vl, vu, .none] } } σ H3 x v vl vu l u s3.heap.objs.size Q I4 r1 (Heap.IsSliceOf.new ..) pl pu q3
 show wpAny (model X.prog X.w) X.A (subscriptTail e (.Slice lo hi none p2) v (.ref s3.heap.objs.size)) (EP X pins σ Q) X.xe { s3 with heap := s3.heap.push { cls := .type "slice", data := .fields #[vl, vu, .none] } }
 exact tail_any (ops := [.ref s3.heap.objs.size, v]) ht hT hg (by with_unfolding_all rfl)
def zh4 (xs : List V) (lo hi : Option Int) : List V := (xs.drop (HT.sIx xs.length 0 lo)).take (HT.sIx xs.length xs.length hi - HT.sIx xs.length 0 lo)
theorem zdS (xs : List V) (lo hi : Option Int) : (zh4 xs lo hi).length ≤ xs.length := by
 unfold zh4
 rw [List.length_take, List.length_drop]
 omega
def rSlT (K : PySem.W.Frag) : V → Option Int → Option Int → Hp → VK → Prop := fun x lo hi H Q => ∃ a xs, x = .ref a ∧ SqT K H a xs ∧
 ¬ (HT.sIx xs.length 0 lo = 0 ∧ HT.sIx xs.length xs.length hi = xs.length) ∧ ∀ p, H p = none → Q (.ref p) (upd H p (.tup (zh4 xs lo hi)))
theorem zm1 : SlR X (rSlT X.K) := by
 intro pins s σ H x v vl vu lo hi sl Q I rx hs pl pu h
 obtain ⟨a, xs, rfl, hx, hw, q⟩ := h
 cases rx
 obtain ⟨its, r, ht, hz⟩ := I.tuple hx
 have hlen : its.toArray.size = xs.length := by rw [List.size_toArray]; exact r.length.symm
 refine ⟨"tuple", _, PyProof.Rows.slot_tuple_getitem.lookup, ht.typeIs, ?_⟩
 refine HT.zc5 ht hs pl pu (by rw [hlen]; exact hw) ?_ (by rw [hlen]; exact hz)
 rw [hlen]
 refine ⟨.ref s.heap.objs.size, _, I.laid (t' := s.toks) (o := .tup (zh4 xs lo hi)) (fun b ob q => Heap.get?_push_of_some _ q) (Nat.le_refl _) ?_, rfl, q _ (I.hok.fresh (Nat.le_refl _))⟩
 exact ⟨Nat.le_trans (zdS xs lo hi) hz, _, (r.drop (HT.sIx xs.length 0 lo)).take (HT.sIx xs.length xs.length hi - HT.sIx xs.length 0 lo), IsTup.new _ _⟩
def rLtT (K : PySem.W.Frag) : R2 := fun x y H Q => ∃ a b ns ms, x = .ref a ∧ y = .ref b ∧ SqT K H a (ns.map V.int) ∧ SqT K H b (ms.map V.int) ∧ Q (.bl (HT.lexLt ns ms)) H
theorem zm2 (hu : X.A.units < cLine) : OpR X (compareOp .Lt) (rLtT X.K) := by
 intro pins s σ H x y v u Q I rx ry h
 obtain ⟨a, b, ns, ms, rfl, rfl, ha, hb, q⟩ := h
 cases rx
 cases ry
 obtain ⟨its, r1, p1, _⟩ := I.tuple ha
 obtain ⟨its2, r2, p2, _⟩ := I.tuple hb
 have i1 : IntsAre its.toArray.toList ns := intsAre_of r1
 have i2 : IntsAre its2.toArray.toList ms := intsAre_of r2
 exact HT.zho p1 p2 i1 i2 hu ⟨.bl (HT.lexLt ns ms), H, I, rfl, q⟩
def rCatT (K : PySem.W.Frag) : R2 := fun x y H Q => ∃ a b xs ys, x = .ref a ∧ y = .ref b ∧ SqT K H a xs ∧ SqT K H b ys ∧ xs ≠ [] ∧ xs.length + ys.length ≤ sizeLine ∧
 (ys = [] → Q (.ref a) H) ∧ (ys ≠ [] → ∀ p, H p = none → Q (.ref p) (upd H p (.tup (xs ++ ys))))
theorem zaW.zf8 {xs : List V} {us : List Value} (r : zaW xs us) : us = [] ↔ xs = [] := by
 cases r with
 | nil => simp
 | cons _ _ => simp
theorem zk8 : OpR X (binaryOp .Add) (rCatT X.K) := by
 intro pins s σ H x y v u Q I rx ry h
 obtain ⟨a, b, xs, ys, rfl, rfl, ha, hb, hx, hz, q1, q2⟩ := h
 cases rx
 cases ry
 obtain ⟨its, r1, p1, _⟩ := I.tuple ha
 obtain ⟨its2, r2, p2, _⟩ := I.tuple hb
 refine HT.zk3 p1 p2 (fun z => hx (r1.zf8.mp z)) (fun z => ⟨.ref a, H, I, rfl, q1 (r2.zf8.mp z)⟩) (fun z => ?_) (by rw [← r1.length, ← r2.length]; exact hz)
 refine ⟨.ref s.heap.objs.size, _, I.laid (t' := s.toks) (o := .tup (xs ++ ys)) (fun b ob q => Heap.get?_push_of_some _ q) (Nat.le_refl _) ?_, rfl, q2 (fun w => z (r2.zf8.mpr w)) _ (I.hok.fresh (Nat.le_refl _))⟩
 exact ⟨by rw [List.length_append]; exact hz, _, r1.append r2, IsTup.new _ _⟩
end
end L2
namespace L2
open PySem PySem.Spec PyProof.Rows
def ixN (n : Nat) (i : Int) : Option Nat := if 0 ≤ i then (if i < n then some i.toNat else none) else if -(n : Int) ≤ i then some (i + n).toNat else none
def atI {α : Type} (xs : List α) (i : Int) : Option α := (ixN xs.length i).bind fun j => xs[j]?
theorem zh5 {n : Nat} {i : Int} {j : Nat} (h : ixN n i = some j) : seqIndex? i n = some j ∧ j < n ∧ -(n : Int) ≤ i ∧ i < n := by
 unfold ixN at h
 by_cases h0 : 0 ≤ i
 ·rw [if_pos h0] at h
  by_cases h1 : i < n
  ·rw [if_pos h1] at h
   have e : i.toNat = j := Option.some.inj h
   exact ⟨by rw [seqIndex_of h0 h1, e], by omega, by omega, h1⟩
  ·rw [if_neg h1] at h; cases h
 ·rw [if_neg h0] at h
  by_cases h1 : -(n : Int) ≤ i
  ·rw [if_pos h1] at h
   have e : (i + n).toNat = j := Option.some.inj h
   exact ⟨by rw [seqIndex_neg (by omega) h1, e], by omega, h1, by omega⟩
  ·rw [if_neg h1] at h; cases h
theorem zc6 {α : Type} {xs : List α} {i : Int} {v : α} (h : atI xs i = some v) : ∃ j, seqIndex? i xs.length = some j ∧ xs[j]? = some v ∧ j < xs.length ∧ -(xs.length : Int) ≤ i ∧ i < xs.length := by
 unfold atI at h
 cases e : ixN xs.length i with
 | none => rw [e] at h; cases h
 | some j =>
  rw [e] at h
  obtain ⟨h1, h2, h3, h4⟩ := zh5 e
  exact ⟨j, h1, h, h2, h3, h4⟩
theorem zf9 {α : Type} {xs : List α} {j : Nat} {v : α} (h : xs[j]? = some v) : atI xs (j : Int) = some v := by
 have hj : j < xs.length := (List.getElem?_eq_some_iff.mp h).1
 have e : ixN xs.length (j : Int) = some j := by
  unfold ixN
  rw [if_pos (by omega), if_pos (by omega)]; simp
 unfold atI; rw [e]; exact h
def zga (b : Expr) : Prop := ∀ o i, subscripted b false o i = operate [o, i] (getItem o i)
def IxR (X : Cx) (r : R2) : Prop :=
 ∀ (value slice : Expr) (pins : List (Addr × Obj)) (s : Shared) (σ : St) (H : Hp) (x y : V) (v u : Value) (Q : VK), Inv X pins σ H s → RelV x v → RelV y u → r x y H Q →
  subscripted slice false v u = operate [v, u] (getItem v u) → wpAny (model X.prog X.w) X.A (subscriptTail value slice v u) (EP X pins σ Q) X.xe s
def MtR (X : Cx) (id : String) (r : V → List V → Hp → VK → Prop) : Prop :=
 ∀ (pins : List (Addr × Obj)) (s : Shared) (σ : St) (H : Hp) (x : V) (xs : List V) (v : Value) (us : List Value) (Q : VK), Inv X pins σ H s → RelV x v → zaW xs us → r x xs H Q →
  wpAny (model X.prog X.w) X.A (call (.builtin id) (v :: us)) (EP X pins σ Q) X.xe s
section
variable {X : Cx} {a b : Expr} {ta tb : TE} {pos : Pos}
theorem IxR.or {r r' : R2} (h : IxR X r) (h' : IxR X r') : IxR X (fun x y H Q => r x y H Q ∨ r' x y H Q) := by
 intro value slice pins s σ H x y v u Q I rx ry q hs
 rcases q with q | q
 ·exact h value slice pins s σ H x y v u Q I rx ry q hs
 ·exact h' value slice pins s σ H x y v u Q I rx ry q hs
theorem pe_ix {r : R2} (hr : IxR X r) (ha : PE X a ta) (hb : PE X b tb) (hs : zga b) : PE X (.Subscript a b pos) (tOp r ta tb) := by
 intro pins s σ H Q I h
 exact Subscript_ (binT ha hb I h fun v u s2 x y H2 I2 rx ry q => hr a b pins s2 σ H2 x y v u Q I2 rx ry q (hs _ _))
def rIxL (K : PySem.W.Frag) : R2 := fun x y H Q => ∃ p xs i v, x = .ref p ∧ y = .int i ∧ SqL K H p xs ∧ atI xs i = some v ∧ Q v H
def rIxT (K : PySem.W.Frag) : R2 := fun x y H Q => ∃ p xs i v, x = .ref p ∧ y = .int i ∧ SqT K H p xs ∧ atI xs i = some v ∧ Q v H
def rIxS : R2 := fun x y H Q => ∃ z i c, x = .str z ∧ y = .int i ∧ z.length ≤ sizeLine ∧ atI z.cps.toList i = some c ∧ Q (.str ⟨#[c]⟩) H
theorem zk9 : IxR X (rIxL X.K) := by
 intro value slice pins s σ H x y v u Q I rx ry h hs
 obtain ⟨p, xs, i, z, rfl, rfl, hq, he, q⟩ := h
 cases rx
 obtain ⟨t, rfl⟩ := ry
 obtain ⟨its, r, pl, hz⟩ := I.list hq
 obtain ⟨j, h1, h2, h3, h4, h5⟩ := zc6 he
 obtain ⟨w, ew, rw'⟩ := r.get h2
 have hl := r.length
 have hn := zdR
 have fin : EP X pins σ Q w s := ⟨z, H, I, rw', q⟩
 by_cases h0 : 0 ≤ i
 ·have hj : i.toNat = j := by
   rw [seqIndex_of h0 h5] at h1
   exact Option.some.inj h1
  exact item_listR pl.isList h0 (by omega) (by rw [hj]; simpa using ew) fin hs
 ·have hj : (i + (its.toArray.size : Int)).toNat = j := by
   rw [seqIndex_neg (by omega) h4] at h1
   rw [List.size_toArray, ← hl]
   exact Option.some.inj h1
  exact subscriptTail_builtinR (x := w) pl.isList.typeIs slot_list_getitem.lookup
   (wpAny_getItem_list_neg (Q := fun r s' => r = w ∧ EP X pins σ Q r s') pl.isList (by omega) (by rw [List.size_toArray] <;> omega) (by omega) (by rw [hj]; simpa using ew) ⟨rfl, fin⟩) hs
theorem zm3 : IxR X (rIxT X.K) := by
 intro value slice pins s σ H x y v u Q I rx ry h hs
 obtain ⟨p, xs, i, z, rfl, rfl, hq, he, q⟩ := h
 cases rx
 obtain ⟨t, rfl⟩ := ry
 obtain ⟨its, r, pl, hz⟩ := I.tuple hq
 obtain ⟨j, h1, h2, h3, h4, h5⟩ := zc6 he
 obtain ⟨w, ew, rw'⟩ := r.get h2
 have hl := r.length
 have hn := zdR
 have fin : EP X pins σ Q w s := ⟨z, H, I, rw', q⟩
 exact subscriptTail_builtinR (x := w) pl.typeIs slot_tuple_getitem.lookup
  (getItem_tuple (j := j) (Q := fun r s' => r = w ∧ EP X pins σ Q r s') pl (by omega) (by omega) (by rw [List.size_toArray, ← hl]; exact h1) (by simpa using ew) ⟨rfl, fin⟩) hs
theorem zm4 : IxR X rIxS := by
 intro value slice pins s σ H x y v u Q I rx ry h hs
 obtain ⟨z, i, c, rfl, rfl, hz, he, q⟩ := h
 obtain ⟨t, rfl⟩ := rx
 obtain ⟨t', rfl⟩ := ry
 obtain ⟨j, h1, h2, h3, h4, h5⟩ := zc6 he
 have hl : z.cps.toList.length = z.length := by simp [Str.length]
 rw [hl] at h1 h4 h5
 have hn := zdR
 exact tail_any (typeIs_str s z t) slot_str_getitem.lookup (getItem_str (c := c) (by
  have e1 : decide (i < -(2 ^ 63 : Int)) = false := decide_eq_false (by omega)
  have e2 : decide (i ≥ 2 ^ 63) = false := decide_eq_false (by omega)
  rw [e1, e2, Bool.or_false]) (by rw [h1]; simpa using h2) ⟨.str ⟨#[c]⟩, H, I.tok _, ⟨_, rfl⟩, q⟩) hs
def rIx (K : PySem.W.Frag) : R2 := fun x y H Q => rIxL K x y H Q ∨ rIxT K x y H Q ∨ rIxS x y H Q
theorem zm5 : IxR X (rIx X.K) := zk9.or (zm3.or zm4)
theorem zhr (its : List Value) (n j : Nat) (u : Value) : Obj.mapSeq (·.setIfInBounds j u) { cls := .type "list", data := .seq its.toArray n } = { cls := .type "list", data := .seq (its.set j u).toArray n } := by
 simp [Obj.mapSeq]
theorem Inv.lst {pins : List (Addr × Obj)} {σ : St} {H : Hp} {s : Shared} {p : Addr} {xs : List V} (I : Inv X pins σ H s) (h : H p = some (.lst xs)) :
  ∃ (its : List Value) (n : Nat), zaW xs its ∧ s.heap.get? p = some { cls := .type "list", data := .seq its.toArray n } ∧ xs.length ≤ sizeLine := by
 obtain ⟨z, its, n, r, e⟩ := I.hok p _ h
 exact ⟨its, n, r, e, z⟩
theorem Inv.zm6 {pins : List (Addr × Obj)} {σ : St} {H : Hp} {s : Shared} {p : Addr} {xs ys : List V} {its its' : List Value} {n n' : Nat} {f : Obj → Obj} (I : Inv X pins σ H s) (h : H p = some (.lst xs))
  (ho : s.heap.get? p = some { cls := .type "list", data := .seq its.toArray n }) (hf : f { cls := .type "list", data := .seq its.toArray n } = { cls := .type "list", data := .seq its'.toArray n' }) (r : zaW ys its') (hz : ys.length ≤ sizeLine) (t : Nat) :
  Inv X pins σ (upd H p (.lst ys)) { s with heap := s.heap.update p f, toks := t } := by
 have e : (s.heap.update p f).get? p = some { cls := .type "list", data := .seq its'.toArray n' } := by
  rw [Heap.get?_update_self f ho (by rw [hf] <;> rfl), hf]
 refine I.write (x := p) (e := p) (by rw [h]; trivial) (.inl rfl) (fun b u hb q => (Heap.get?_update_other _ _ (Ne.symm hb)).trans q) ⟨_, e⟩ ?_
 exact ⟨hz, its', n', r, e⟩
def zh6 : V → V → V → Hp → (Hp → Prop) → Prop := fun o i v H Q => ∃ p xs k j, o = .ref p ∧ i = .int k ∧ H p = some (.lst xs) ∧ ixN xs.length k = some j ∧ Q (upd H p (.lst (xs.set j v)))
theorem set_list : PSet X zh6 := by
 intro pins s σ H o i v ov iv u Q I ro ri rv h
 obtain ⟨p, xs, k, j, rfl, rfl, hp, hj, q⟩ := h
 cases ro
 obtain ⟨t, rfl⟩ := ri
 obtain ⟨its, n, r, ho, hz⟩ := I.lst hp
 obtain ⟨h1, h2, h3, h4⟩ := zh5 hj
 have hl := r.length
 have hn := zdR
 have I' : Inv X pins σ (upd H p (.lst (xs.set j v))) { s with heap := s.heap.update p (Obj.mapSeq (·.setIfInBounds j u)) } :=
  I.zm6 hp ho (zhr its n j u) (r.set rv j) (by rw [List.length_set]; exact hz) s.toks
 by_cases h0 : 0 ≤ k
 ·have hk : k.toNat = j := by
   rw [seqIndex_of h0 h4] at h1
   exact Option.some.inj h1
  exact PySem.W.ki_setAt ho h0 (by omega) (by rw [List.size_toArray, ← hl]; exact h4) (by rw [hk]; exact ⟨_, I', q⟩)
 ·have hk : (k + (its.toArray.size : Int)).toNat = j := by
   rw [seqIndex_neg (by omega) h3] at h1
   rw [List.size_toArray, ← hl]
   exact Option.some.inj h1
  exact PySem.W.ki_setBack ho (by omega) (by rw [List.size_toArray, ← hl]; exact h3) (by omega) (by rw [hk]; exact ⟨_, I', q⟩)
theorem zfq (lo hi : Option Int) (n : Nat) : (sliceBounds lo hi none n).1 = ((HT.sIx n 0 lo : Nat) : Int) ∧ (sliceBounds lo hi none n).2.1 = ((HT.sIx n n hi : Nat) : Int) ∧ (sliceBounds lo hi none n).2.2 = 1 := by
 refine ⟨?_, ?_, rfl⟩
 ·cases lo with
  | none => simp [sliceBounds, HT.sIx]
  | some i =>
   simp only [sliceBounds, HT.sIx, Option.getD_none, show (1 : Int) > 0 by decide, if_true]
   by_cases h : i < 0
   ·simp only [h, if_true] <;> omega
   ·simp only [h, if_false] <;> omega
 ·cases hi with
  | none => simp [sliceBounds, HT.sIx]
  | some i =>
   simp only [sliceBounds, HT.sIx, Option.getD_none, show (1 : Int) > 0 by decide, if_true]
   by_cases h : i < 0
   ·simp only [h, if_true] <;> omega
   ·simp only [h, if_false] <;> omega
theorem zeP (its : List Value) (lo hi : Option Int) : slicePick its.toArray lo hi none = ((its.drop (HT.sIx its.length 0 lo)).take (HT.sIx its.length its.length hi - HT.sIx its.length 0 lo)).toArray := by
 obtain ⟨h1, h2, h3⟩ := zfq lo hi its.toArray.size
 unfold slicePick
 rw [h1, h2, h3]
 simp only [sliceRange_one, pick_run, List.size_toArray] <;> rfl
def rSlL (K : PySem.W.Frag) : V → Option Int → Option Int → Hp → VK → Prop := fun x lo hi H Q => ∃ a xs, x = .ref a ∧ SqL K H a xs ∧ ∀ p, H p = none → Q (.ref p) (upd H p (.lst (zh4 xs lo hi)))
theorem zla : SlR X (rSlL X.K) := by
 intro pins s σ H x v vl vu lo hi sl Q I rx hs pl pu h
 obtain ⟨a, xs, rfl, hx, q⟩ := h
 cases rx
 obtain ⟨its, r, ht, hz⟩ := I.list hx
 have hlen := r.length
 refine ⟨"list", _, slot_list_getitem.lookup, ht.isList.typeIs, ?_⟩
 refine wpAny_getItem_list_slice ht.isList hs pl pu .none (by simp) ?_ (by rw [List.size_toArray] <;> omega)
 rw [zeP, ← hlen]
 refine ⟨.ref s.heap.objs.size, _, I.laid (t' := s.toks) (o := .lst (zh4 xs lo hi)) (fun b ob q => Heap.get?_push_of_some _ q) (Nat.le_refl _) ?_, rfl, q _ (I.hok.fresh (Nat.le_refl _))⟩
 exact ⟨Nat.le_trans (zdS xs lo hi) hz, _, 0, (r.drop (HT.sIx xs.length 0 lo)).take (HT.sIx xs.length xs.length hi - HT.sIx xs.length 0 lo), Heap.get?_push_size _ rfl⟩
theorem zfr : za3 X (.builtin "len") (fun xs H Q => ∃ p ys, xs = [.ref p] ∧ (SqL X.K H p ys ∨ SqT X.K H p ys) ∧ Q (.int ys.length) H) := by
 intro pins s σ H xs us Q I r h
 obtain ⟨p, ys, rfl, hq, q⟩ := h
 obtain ⟨u, rfl, rx⟩ := vals1 r
 cases rx
 have hn := zdR
 rcases hq with hq | hq
 ·obtain ⟨its, r', pl, hz⟩ := I.list hq
  have hlen := r'.length
  exact Calls.call_len_list pl.isList (by simp only [List.size_toArray] <;> omega) ⟨.int ys.length, H, I.tok _, ⟨s.toks + 1, by rw [List.size_toArray, hlen]⟩, q⟩
 ·obtain ⟨its, r', pl, hz⟩ := I.tuple hq
  have hlen := r'.length
  exact len_tuple pl (by simp only [List.size_toArray] <;> omega) ⟨.int ys.length, H, I.tok _, ⟨s.toks + 1, by rw [List.size_toArray, hlen]⟩, q⟩
theorem zfs : za3 X (.builtin "len") (fun xs H Q => ∃ z, xs = [.str z] ∧ z.length ≤ sizeLine ∧ Q (.int z.length) H) := by
 intro pins s σ H xs us Q I r h
 obtain ⟨z, rfl, hz, q⟩ := h
 obtain ⟨u, rfl, t, rfl⟩ := vals1 r
 have hn := zdR
 exact len_str (by omega) ⟨.int z.length, H, I.tok _, ⟨_, rfl⟩, q⟩
theorem zft : za3 X (.type "list") (fun xs H Q => ∃ p ys, xs = [.ref p] ∧ (SqL X.K H p ys ∨ SqT X.K H p ys) ∧ ∀ l, H l = none → Q (.ref l) (upd H l (.lst ys))) := by
 intro pins s σ H xs us Q I r h
 obtain ⟨p, ys, rfl, hq, q⟩ := h
 obtain ⟨u, rfl, rx⟩ := vals1 r
 cases rx
 have fin : ∀ (its : List Value), zaW ys its → ys.length ≤ sizeLine → ∀ (h' : Heap) (c' : Nat), (∀ b o', s.heap.get? b = some o' → h'.get? b = some o') →
   h'.get? s.heap.objs.size = some { cls := .type "list", dict := none, data := .seq its.toArray c', slots := #[] } → EP X pins σ Q (.ref s.heap.objs.size) { s with heap := h' } := fun its r' hz h' c' kp e =>
  ⟨.ref s.heap.objs.size, _, I.laid (t' := s.toks) kp (Nat.le_refl _) (show zbK X.prog X.w _ h' _ (.lst ys) from ⟨hz, its, c', r', e⟩), rfl, q _ (I.hok.fresh (Nat.le_refl _))⟩
 rcases hq with hq | hq
 ·obtain ⟨its, r', pl, hz⟩ := I.list hq
  have hlen := r'.length
  obtain ⟨o, ho, hc, n, hd⟩ := pl.isList
  exact call_list_seq p (.inl rfl) ho hc hd (fun h' c' kp e => fin its r' hz h' c' kp e) (by simp only [List.size_toArray] <;> omega)
 ·obtain ⟨its, r', pl, hz⟩ := I.tuple hq
  have hlen := r'.length
  obtain ⟨o, ho, hc, n, hd⟩ := pl
  exact call_list_seq p (.inr rfl) ho hc hd (fun h' c' kp e => fin its r' hz h' c' kp e) (by simp only [List.size_toArray] <;> omega)
theorem zeQ : za3 X (.type "tuple") (fun xs H Q => ∃ p ys, xs = [.ref p] ∧ ((SqL X.K H p ys ∧ ∀ l, H l = none → Q (.ref l) (upd H l (.tup ys))) ∨ (SqT X.K H p ys ∧ Q (.ref p) H))) := by
 intro pins s σ H xs us Q I r h
 obtain ⟨p, ys, rfl, h⟩ := h
 obtain ⟨u, rfl, rx⟩ := vals1 r
 cases rx
 rcases h with ⟨hq, q⟩ | ⟨hq, q⟩
 ·obtain ⟨its, r', pl, hz⟩ := I.list hq
  have hlen := r'.length
  refine call_tuple_list pl.isList (fun h' kp => ?_) (by simp only [List.size_toArray] <;> omega)
  have I1 : Inv X pins σ H { s with heap := h' } := I.kept (t' := s.toks) kp
  have I2 : Inv X pins σ (upd H h'.objs.size (.tup ys)) { s with heap := h'.push { cls := .type "tuple", data := .seq its.toArray } } :=
   I1.laid (t' := s.toks) (fun b o e => Heap.get?_push_of_some _ e) (Nat.le_refl _) (show zbK X.prog X.w _ _ _ (.tup ys) from ⟨hz, its, r', IsTup.new _ _⟩)
  exact ⟨.ref h'.objs.size, _, I2, rfl, q _ (I1.hok.fresh (Nat.le_refl _))⟩
 ·obtain ⟨its, r', pl, hz⟩ := I.tuple hq
  exact call_tuple_same pl ⟨.ref p, H, I, rfl, q⟩
def tyV (K : PySem.W.Frag) (T : String) (x : V) (H : Hp) : Prop := match x with
 | .str _ => T = "str"
 | .int _ => T = "int"
 | .ref p => (T = "list" ∧ ∃ xs, SqL K H p xs) ∨ (T = "tuple" ∧ ∃ o, K.lookup p = some o ∧ o.cls = .type "tuple" ∧ o.dict = none) ∨
   (T = "dict" ∧ ((∃ kvs, H p = some (.dK kvs)) ∨ ∃ kvs, H p = some (.dT kvs))) ∨ (T = "set" ∧ ∃ S n, H p = some (.set S n))
 | _ => False
theorem zm7 {pins : List (Addr × Obj)} {σ : St} {H : Hp} {s : Shared} {T : String} {x : V} {v : Value} (I : Inv X pins σ H s) (r : RelV x v) (ty : tyV X.K T x H) :
  s.TypeIs v T ∧ ∀ a, v = .ref a → ∃ ob, s.heap.get? a = some ob ∧ ob.dict = none := by
 cases x with
 | str z =>
  obtain ⟨t, rfl⟩ := r
  cases (show T = "str" from ty)
  exact ⟨typeIs_str s z t, fun _ e => nomatch e⟩
 | int i =>
  obtain ⟨t, rfl⟩ := r
  cases (show T = "int" from ty)
  exact ⟨typeIs_int s i t, fun _ e => nomatch e⟩
 | ref p =>
  cases r
  rcases ty with ⟨rfl, xs, hq⟩ | ⟨rfl, o, hk, hc, hd⟩ | ⟨rfl, hk⟩ | ⟨rfl, S, n, hk⟩
  ·obtain ⟨its, _, pl, _⟩ := I.list hq
   refine ⟨pl.isList.typeIs, fun a e => ?_⟩
   cases e
   obtain ⟨o, n, e, c, hd, _⟩ := pl
   exact ⟨o, e, hd⟩
  ·refine ⟨⟨o, I.kIn p o hk, hc⟩, fun a e => ?_⟩
   cases e
   exact ⟨o, I.kIn _ o hk, hd⟩
  ·have z : ∃ o, s.heap.get? p = some o ∧ o.ExactDict := by
    rcases hk with ⟨kvs, hk⟩ | ⟨kvs, hk⟩
    ·obtain ⟨_, _, _, _, o, _, _, e, ex, _⟩ := I.hok p _ hk
     exact ⟨o, e, ex⟩
    ·obtain ⟨_, _, _, _, o, _, _, e, ex, _⟩ := I.hok p _ hk
     exact ⟨o, e, ex⟩
   obtain ⟨o, e, ex⟩ := z
   refine ⟨⟨o, e, ex.1⟩, fun a e2 => ?_⟩
   cases e2
   exact ⟨o, e, ex.2.1⟩
  ·obtain ⟨o, _, _, _, e, ex, _⟩ := I.hok p _ hk
   refine ⟨⟨o, e, ex.1⟩, fun a e2 => ?_⟩
   cases e2
   exact ⟨o, e, ex.2.1⟩
 | _ => exact False.elim ty
def tBM (K : PySem.W.Frag) (T : String) (r : V → List V → Hp → VK → Prop) (to : TE) (t : TA) : TE := fun σ H Q => to σ H fun x H1 => tyV K T x H1 ∧ t σ H1 fun xs H2 => r x xs H2 Q
variable {o e : Expr} {es : List Expr} {to : TE} {t : TA} {name : Str} {apos cpos : Pos} {T id : String} {r : V → List V → Hp → VK → Prop}
theorem zeR (pa : PlainAttrs T) (slot : Slot T name id) (hty : typeOf (.builtin id) = pure (.type "method_descriptor")) (hm : MtR X id r) (ho : PE X o to) (ha : PA X (e :: es) t)
  (hbase : attributeBase o name X.env (eval o X.env) = eval o X.env := by rfl)
  (hfew : ((backTo cpos (starEach (e :: es) X.env)).all (fun x => !x.1) && (backToKw cpos (keywordEach [] X.env)).all (fun x => x.1.isSome)
   && decide ((e :: es).length + ([] : List Keyword).length + (if ([] : List Keyword).isEmpty then 0 else 1) < 30)) = true := by rfl)
  (hline : (apos.endLine == cpos.line) = true := by rfl) (hs : starEach (e :: es) X.env = (false, eval e X.env) :: starEach es X.env := by rfl) (hplain : (backTo cpos (starEach es X.env)).any (·.1) = false := by rfl) :
  PE X (.Call (.Attribute o name apos) (e :: es) [] cpos) (tBM X.K T r to t) := by
 intro pins s σ H Q I h
 refine wpAny_Call_method_late hbase hfew hline rfl (thn (ho pins s σ H _ I h) fun v s1 ⟨x, H1, I1, r1, ty, q1⟩ => ?_)
 obtain ⟨h1, h2⟩ := zm7 I1 r1 ty
 refine ⟨T, id, pa, slot, hty, h1, h2, ?_⟩
 have hA := ha cpos pins s1 σ H1 _ I1 q1
 rw [hs] at hA ⊢
 refine Calls.callWith_builtin (by show (false || (backTo cpos (starEach es X.env)).any (·.1)) = false; rw [hplain] <;> rfl) (Calls.evalArgs_plain ?_)
 exact thn hA fun us s2 ⟨vs, H2, I2, r2, q2⟩ => hm pins s2 σ H2 x vs v us Q I2 r1 r2 q2
end
end L2
namespace L2
open PySem PySem.Spec PyProof.Rows
def MtM (X : Cx) (id : String) (r : V → List V → Hp → VK → Prop) : Prop :=
 ∀ (pins : List (Addr × Obj)) (s : Shared) (σ : St) (H : Hp) (x : V) (xs : List V) (v : Value) (us : List Value) (Q : VK), Inv X pins σ H s → RelV x v → zaW xs us → r x xs H Q →
  wpAny (model X.prog X.w) X.A (call (.builtin id) (v :: us)) (EP X pins σ Q) X.xe s
theorem zaW.one : ∀ {x : V} {us : List Value}, zaW [x] us → ∃ u, us = [u] ∧ RelV x u
 | _, _, .cons r .nil => ⟨_, rfl, r⟩
theorem zaW.two : ∀ {x y : V} {us : List Value}, zaW [x, y] us → ∃ u v, us = [u, v] ∧ RelV x u ∧ RelV y v
 | _, _, _, .cons r (.cons q .nil) => ⟨_, _, rfl, r, q⟩
theorem zaW.eraseIdx : ∀ {xs : List V} {us : List Value} (i : Nat), zaW xs us → zaW (xs.eraseIdx i) (us.eraseIdx i)
 | _, _, _, .nil => .nil
 | _, _, 0, .cons _ t => t
 | _, _, i + 1, .cons r t => .cons r (zaW.eraseIdx i t)
theorem zdT {α : Type} : ∀ (l : List α) (i : Nat), (l.eraseIdx i).length ≤ l.length
 | [], _ => Nat.le_refl _
 | _ :: _, 0 => Nat.le_succ _
 | _ :: r, i + 1 => Nat.succ_le_succ (zdT r i)
section
variable {X : Cx} {pins : List (Addr × Obj)} {σ : St} {H : Hp} {s : Shared} {l b : Addr} {xs ys zs : List V}
theorem Inv.zm8 {its its' : List Value} {n : Nat} {f : Array Value → Array Value} {t' : Nat} (I : Inv X pins σ H s) (hH : H l = some (.lst xs))
  (e : s.heap.get? l = some { cls := .type "list", data := .seq its.toArray n }) (hf : f its.toArray = its'.toArray) (hv : zaW ys its') (hz : ys.length ≤ sizeLine) :
  Inv X pins σ (upd H l (.lst ys)) { s with heap := s.heap.update l (Obj.mapSeq f), toks := t' } := by
 have q := PySem.IsL.update e f
 rw [hf] at q
 refine I.write (x := l) (e := l) (by rw [hH]; exact trivial) (.inl rfl) (fun b' u hb hu => (Heap.get?_update_other s.heap (Obj.mapSeq f) (Ne.symm hb)).trans hu) ⟨_, q⟩ ?_
 exact ⟨hz, its', _, hv, q⟩
theorem Inv.zlb {its : List Value} {t' : Nat} (I : Inv X pins σ H s) (hv : zaW ys its) (hz : ys.length ≤ sizeLine) :
  Inv X pins σ (upd H s.heap.objs.size (.lst ys)) { s with heap := s.heap.push { cls := .type "list", data := .seq its.toArray }, toks := t' } :=
 I.laid (fun _ _ q => Heap.get?_push_of_some _ q) (Nat.le_refl _) ⟨hz, its, 0, hv, Heap.get?_push_size _ rfl⟩
theorem Inv.fresh (I : Inv X pins σ H s) : H s.heap.objs.size = none := I.hok.fresh (Nat.le_refl _)
theorem Inv.zgb (I : Inv X pins σ H s) (hH : H l = some (.lst xs)) : xs.length ≤ sizeLine ∧ ∃ (its : List Value) (n : Nat), zaW xs its ∧ xs.length = its.length ∧ s.heap.get? l = some { cls := .type "list", data := .seq its.toArray n } := by
 obtain ⟨z, its, n, r, e⟩ := I.hok l _ hH
 exact ⟨z, its, n, r, r.length, e⟩
theorem zjG {n : Nat} (h : n ≤ sizeLine) : Builtin.List.listTooLong n = false := by
 unfold Builtin.List.listTooLong
 exact decide_eq_false (by omega)
end
section
variable {X : Cx}
def zeS : V → List V → Hp → VK → Prop := fun x vs H Q => ∃ l xs y, x = .ref l ∧ vs = [y] ∧ H l = some (.lst xs) ∧ xs.length < sizeLine ∧ Q .non (upd H l (.lst (xs ++ [y])))
theorem zbU : MtM X "list.append" zeS := by
 intro pins s σ H x vs v us Q I rx rv h
 obtain ⟨l, xs, y, rfl, rfl, hH, hz, q⟩ := h
 cases rx
 obtain ⟨u, rfl, ru⟩ := rv.one
 obtain ⟨z, its, n, r, hl, e⟩ := I.zgb hH
 refine call_meets F.slot_list_append ⟨_, e, rfl⟩ F.entry_list_append (F.args_list_append_2 _ _) (PySem.list_append l its.toArray n u (by rw [List.size_toArray]; omega)) ⟨e, ?_⟩
 refine ⟨.non, _, I.zm8 (its' := its ++ [u]) hH e (by simp) (r.append (.cons ru .nil)) ?_, rfl, q⟩
 rw [List.length_append, List.length_singleton]
 omega
def zgc : V → List V → Hp → VK → Prop := fun x vs H Q => ∃ l b xs zs, x = .ref l ∧ vs = [.ref b] ∧ H l = some (.lst xs) ∧ H b = some (.lst zs) ∧ xs.length + zs.length ≤ sizeLine ∧ Q .non (upd H l (.lst (xs ++ zs)))
theorem zfu : MtM X "list.extend" zgc := by
 intro pins s σ H x vs v us Q I rx rv h
 obtain ⟨l, b, xs, zs, rfl, rfl, hH, hB, hz, q⟩ := h
 cases rx
 obtain ⟨u, rfl, ru⟩ := rv.one
 cases ru
 obtain ⟨z, its, n, r, hl, e⟩ := I.zgb hH
 obtain ⟨z2, its2, n2, r2, hl2, e2⟩ := I.zgb hB
 have hsz : its.toArray.size + its2.toArray.size ≤ sizeLine := by rw [List.size_toArray, List.size_toArray]; omega
 have hlong : ¬ (!its.toArray.isEmpty && Builtin.List.listTooLong (its.toArray.size + its2.toArray.size)) = true := by
  rw [zjG hsz, Bool.and_false]
  exact Bool.false_ne_true
 refine call_meets F.slot_list_extend ⟨_, e, rfl⟩ F.entry_list_extend (F.args_list_extend_2 _ _)
  (AutoSeq1.list_extend_list_list_0 l its.toArray n b its2.toArray n2 hlong (by rw [List.size_toArray]; omega) (by omega)) ⟨e, e2, ?_⟩
 refine ⟨.non, _, I.zm8 (its' := its ++ its2) hH e (by simp) (r.append r2) ?_, rfl, q⟩
 rw [List.length_append]
 omega
def zh7 : V → List V → Hp → VK → Prop := fun x vs H Q => ∃ l xs i k y, x = .ref l ∧ vs = [.int i] ∧ H l = some (.lst xs) ∧ -(2 ^ 63) ≤ i ∧ i < 2 ^ 63 ∧ seqIndex? i xs.length = some k ∧ xs[k]? = some y ∧ Q y (upd H l (.lst (xs.eraseIdx k)))
theorem zjH : MtM X "list.pop" zh7 := by
 intro pins s σ H x vs v us Q I rx rv h
 obtain ⟨l, xs, i, k, y, rfl, rfl, hH, h1, h2, hk, hy, q⟩ := h
 cases rx
 obtain ⟨u, rfl, ru⟩ := rv.one
 obtain ⟨t, rfl⟩ := ru
 obtain ⟨z, its, n, r, hl, e⟩ := I.zgb hH
 obtain ⟨w, hw, rw'⟩ := r.get hy
 refine call_meets F.slot_list_pop ⟨_, e, rfl⟩ F.entry_list_pop (F.args_list_pop_2 _ _)
  (MeetsSeq.list_pop_at l its.toArray n i t k w (fitsIndex_both h1 h2) (by rw [List.size_toArray, ← hl]; exact hk) (by rw [← Array.getElem?_toList]; exact hw) (by rw [List.size_toArray]; omega)) ⟨e, ?_⟩
 refine ⟨y, _, I.zm8 (its' := its.eraseIdx k) hH e ?_ (r.eraseIdx k) ?_, rw', q⟩
 ·show its.toArray.eraseIdxIfInBounds k = (its.eraseIdx k).toArray
  rw [List.eraseIdxIfInBounds_toArray]
 ·have := zdT xs k
  omega
def rCat : R2 := fun x y H Q => ∃ l b xs zs, x = .ref l ∧ y = .ref b ∧ H l = some (.lst xs) ∧ H b = some (.lst zs) ∧ xs.length + zs.length ≤ sizeLine ∧ ∀ p, H p = none → Q (.ref p) (upd H p (.lst (xs ++ zs)))
theorem zm9 : OpR X (binaryOp .Add) rCat := by
 intro pins s σ H x y v u Q I rx ry h
 obtain ⟨l, b, xs, zs, rfl, rfl, hH, hB, hz, q⟩ := h
 cases rx
 cases ry
 obtain ⟨z, its, n, r, hl, e⟩ := I.zgb hH
 obtain ⟨z2, its2, n2, r2, hl2, e2⟩ := I.zgb hB
 refine PySem.P.add_list e e2 ?_ (by rw [List.size_toArray, List.size_toArray]; omega)
 have ea : its.toArray ++ its2.toArray = (its ++ its2).toArray := by simp
 rw [ea]
 exact ⟨.ref _, _, I.zlb (t' := s.toks) (r.append r2) (by rw [List.length_append]; omega), rfl, q _ I.fresh⟩
end
end L2
namespace L2
open PySem PySem.Spec PyProof.Rows
section
variable {κ : Type} [DecidableEq κ]
def zfg (kvs : List (κ × V)) (k : κ) : Option V := (kvs.find? fun kv => decide (kv.1 = k)).map (·.2)
def putK (kvs : List (κ × V)) (k : κ) (v : V) : List (κ × V) :=
 if (kvs.any fun kv => decide (kv.1 = k)) = true then kvs.map (fun kv => if kv.1 = k then (kv.1, v) else kv) else kvs ++ [(k, v)]
theorem zcJ {p : κ × V} {r : List (κ × V)} {k : κ} (e : p.1 = k) : zfg (p :: r) k = some p.2 := by simp [zfg, List.find?_cons, e]
theorem zcK {p : κ × V} {r : List (κ × V)} {k : κ} (e : ¬ p.1 = k) : zfg (p :: r) k = zfg r k := by simp [zfg, List.find?_cons, e]
theorem zgO (k : κ) : ∀ kvs : List (κ × V), (kvs.any fun kv => decide (kv.1 = k)) = (zfg kvs k).isSome
 | [] => rfl
 | p :: r => by
  rw [List.any_cons]
  by_cases e : p.1 = k
  ·simp only [zcJ e, decide_eq_true e, Bool.true_or, Option.isSome_some]
  ·rw [zcK e, decide_eq_false e, Bool.false_or]; exact zgO k r
theorem zcw (kvs : List (κ × V)) (k : κ) (v : V) : (putK kvs k v).length ≤ kvs.length + 1 := by
 unfold putK
 split
 ·rw [List.length_map]; omega
 ·rw [List.length_append, List.length_cons, List.length_nil]; omega
theorem zjp.zb9 {o : Option V} {u : Option Value} (r : zjp o u) : o.isSome = u.isSome := by
 cases o with
 | none => cases u with
  | none => rfl
  | some _ => exact (show False from r).elim
 | some _ => cases u with
  | none => exact (show False from r).elim
  | some _ => rfl
theorem KV.val {kvs : List (κ × V)} {vs : List (κ × Value)} (r : KV kvs vs) (k : κ) : zjp (zfg kvs k) (valueAt vs k) := by
 unfold KV at r
 induction r with
 | nil => exact True.intro
 | @cons p q ps qs h t ih =>
  obtain ⟨h1, h2⟩ := h
  by_cases e : p.1 = k
  ·have e' : q.1 = k := h1.symm.trans e
   have b : valueAt (q :: qs) k = some q.2 := by simp [valueAt, List.find?_cons, e']
   rw [zcJ e, b]; exact h2
  ·have e' : ¬ q.1 = k := fun z => e (h1.trans z)
   have b : valueAt (q :: qs) k = valueAt qs k := by simp [valueAt, List.find?_cons, e']
   rw [zcK e, b]; exact ih
theorem KV.any {kvs : List (κ × V)} {vs : List (κ × Value)} (r : KV kvs vs) (k : κ) : (kvs.any fun kv => decide (kv.1 = k)) = vs.any fun kv => decide (kv.1 = k) := by
 unfold KV at r
 induction r with
 | nil => rfl
 | cons h t ih => rw [List.any_cons, List.any_cons, ih, h.1]
theorem KV.repl {kvs : List (κ × V)} {vs : List (κ × Value)} (r : KV kvs vs) (k : κ) {y : V} {u : Value} (ry : RelV y u) :
  KV (kvs.map fun kv => if kv.1 = k then (kv.1, y) else kv) (vs.map fun kv => if kv.1 = k then (kv.1, u) else kv) := by
 unfold KV at r ⊢
 induction r with
 | nil => exact .nil
 | @cons p q ps qs h t ih =>
  rw [List.map_cons, List.map_cons]
  refine .cons ?_ ih
  obtain ⟨h1, h2⟩ := h
  by_cases e : p.1 = k
  ·rw [if_pos e, if_pos (h1.symm.trans e)]; exact ⟨h1, ry⟩
  ·rw [if_neg e, if_neg (fun z => e (h1.trans z))]; exact ⟨h1, h2⟩
theorem KV.put {kvs : List (κ × V)} {vs : List (κ × Value)} (r : KV kvs vs) (k : κ) {y : V} {u : Value} (ry : RelV y u) : KV (putK kvs k y) (stored vs k u) := by
 unfold putK stored
 rw [r.any k]
 by_cases e : (vs.any fun kv => decide (kv.1 = k)) = true
 ·rw [if_pos e, if_pos e]; exact r.repl k ry
 ·rw [if_neg e, if_neg e]; exact Paired.snoc r ⟨rfl, ry⟩
theorem KV.length {kvs : List (κ × V)} {vs : List (κ × Value)} (r : KV kvs vs) : kvs.length = vs.length := Paired.length r
end
theorem zhs {P : Program} {w : World} {k : Key} {u : Value} (r : RelV (kV k) u) : (zaE P w).is k u = true := by
 cases k with
 | inl i => obtain ⟨t, e⟩ := (show ∃ t, u = Value.int i t from r); subst e; exact zf2 P w i t
 | inr x => obtain ⟨t, e⟩ := (show ∃ t, u = Value.str x t from r); subst e; exact zf3 P w x t
theorem zfv {P : Program} {w : World} : ∀ {ks : List Key} {us : List Value}, zaW (ks.map kV) us → ItemsAre (zaE P w) ks us
 | [], _, r => by rw [List.map_nil] at r; cases r; exact .nil
 | k :: ks, _, r => by
  rw [List.map_cons] at r
  cases r with
  | cons h t => exact .cons (zhs h) (zfv t)
abbrev KT (H : Hp) : List (List Key × V) → List (List Key × Addr × Value) → Prop := Paired fun p q => p.1 = q.1 ∧ H q.2.1 = some (.tup (p.1.map kV)) ∧ RelV p.2 q.2.2
theorem KT.val {H : Hp} {kvs : List (List Key × V)} {xs : List (List Key × Addr × Value)} (r : KT H kvs xs) (k : List Key) : zjp (zfg kvs k) ((atKey xs k).map (·.2)) := by
 induction r with
 | nil => exact True.intro
 | @cons p q ps qs h t ih =>
  obtain ⟨h1, _, h2⟩ := h
  by_cases e : p.1 = k
  ·have e' : q.1 = k := h1.symm.trans e
   have b : atKey (q :: qs) k = some q.2 := by simp [atKey, List.find?_cons, e']
   rw [zcJ e, b]; exact h2
  ·have e' : ¬ q.1 = k := fun z => e (h1.trans z)
   have b : atKey (q :: qs) k = atKey qs k := by simp [atKey, List.find?_cons, e']
   rw [zcK e, b]; exact ih
theorem KT.repl {H : Hp} {kvs : List (List Key × V)} {xs : List (List Key × Addr × Value)} (r : KT H kvs xs) (k : List Key) {y : V} {u : Value} (ry : RelV y u) :
  KT H (kvs.map fun kv => if kv.1 = k then (kv.1, y) else kv) (xs.map (putAt k u)) := by
 induction r with
 | nil => exact .nil
 | @cons p q ps qs h t ih =>
  rw [List.map_cons, List.map_cons]
  refine .cons ?_ ih
  obtain ⟨h1, h2, h3⟩ := h
  unfold putAt
  by_cases e : p.1 = k
  ·rw [if_pos e, if_pos (h1.symm.trans e)]; exact ⟨h1, h2, ry⟩
  ·rw [if_neg e, if_neg (fun z => e (h1.trans z))]; exact ⟨h1, h2, h3⟩
theorem KT.put {H : Hp} {kvs : List (List Key × V)} {xs : List (List Key × Addr × Value)} (r : KT H kvs xs) (k : List Key) {b : Addr} {y : V} {u : Value} (hb : H b = some (.tup (k.map kV))) (ry : RelV y u) :
  KT H (putK kvs k y) (storedH xs k b u) := by
 have e : (kvs.any fun kv => decide (kv.1 = k)) = (atKey xs k).isSome := by
  rw [zgO, (r.val k).zb9, Option.isSome_map]
 unfold putK storedH
 rw [e]
 by_cases q : (atKey xs k).isSome = true
 ·rw [if_pos q, if_pos q]; exact r.repl k ry
 ·rw [if_neg q, if_neg q]; exact Paired.snoc r ⟨rfl, hb, ry⟩
theorem KT.keeps {H H' : Hp} {kvs : List (List Key × V)} {xs : List (List Key × Addr × Value)} (r : KT H kvs xs) (ht : ∀ b ys, H b = some (.tup ys) → H' b = some (.tup ys)) : KT H' kvs xs :=
 Paired.mapP r fun _ _ z => ⟨z.1, ht _ _ z.2.1, z.2.2⟩
section
variable {P : Program} {w : World} {H : Hp} {h : Heap} {a : Addr}
theorem zna {u : HO} (ok : HOk P w H h) (e : Rd H a u) : zbK P w H h a u := e.ok ok
theorem zht {kvs : List (Key × V)} (ok : HOk P w H h) (e : Rd H a (.dK kvs)) : kvs.length ≤ sizeLine ∧ (a == sysModules) = false ∧ ∃ vs, KV kvs vs ∧ h.DictOf (zaE P w) a vs :=
 show zbK P w H h a (.dK kvs) from zna ok e
theorem znb {kvs : List (Key × V)} (ok : HOk P w H h) (e : H a = some (.dK kvs)) : kvs.length ≤ sizeLine ∧ (a == sysModules) = false ∧ ∃ vs, KV kvs vs ∧ h.DictOf (zaE P w) a vs := zht ok (.inl e)
theorem zfw {ks : List Key} (ok : HOk P w H h) (e : H a = some (.tup (ks.map kV))) : (tupleKind (zaE P w)).is h ks a := by
 obtain ⟨_, its, r, o, h1, h2, n, h3⟩ := (show zbK P w H h a (.tup (ks.map kV)) from ok a _ e)
 exact ⟨o, its.toArray, n, h1, h2, h3, by simpa using zfv r⟩
theorem zh8 {kvs : List (List Key × V)} (ok : HOk P w H h) (e : Rd H a (.dT kvs)) : kvs.length ≤ sizeLine ∧ (a == sysModules) = false ∧
  ∃ xs, KT H kvs xs ∧ h.DictOfH (tupleKind (zaE P w)) a xs := by
 obtain ⟨z, y, xs, r, o, es, ep, h1, h2, h3, h4, h5⟩ := (show zbK P w H h a (.dT kvs) from zna ok e)
 refine ⟨z, y, xs, r, o, es, ep, h1, h2, h3, h4, fun x hx => ?_, h5⟩
 have all : ∀ {l : List (List Key × V)} {m : List (List Key × Addr × Value)}, KT H l m → ∀ x ∈ m, (tupleKind (zaE P w)).is h x.1 x.2.1 := by
  intro l m q
  induction q with
  | nil => intro x hx; exact nomatch hx
  | @cons p q ps qs hq t ih =>
   intro x hx
   rcases lK hx with e | hx
   ·subst e
    exact zfw ok (by rw [← hq.1]; exact hq.2.1)
   ·exact ih x hx
 exact all r x hx
theorem dt_of {kvs : List (List Key × V)} (ok : HOk P w H h) (e : H a = some (.dT kvs)) : kvs.length ≤ sizeLine ∧ (a == sysModules) = false ∧
  ∃ xs, KT H kvs xs ∧ h.DictOfH (tupleKind (zaE P w)) a xs := zh8 ok (.inl e)
end
def zgP (H : Hp) (a : Addr) (y : V) (r : Option V) : Prop :=
 (∃ kvs k, Rd H a (.dK kvs) ∧ y = kV k ∧ r = zfg kvs k) ∨ ∃ kvs k b, Rd H a (.dT kvs) ∧ y = .ref b ∧ H b = some (.tup (k.map kV)) ∧ r = zfg kvs k
def znc (H : Hp) (a : Addr) (y v : V) (H' : Hp) : Prop :=
 (∃ kvs k, H a = some (.dK kvs) ∧ y = kV k ∧ kvs.length < sizeLine ∧ H' = upd H a (.dK (putK kvs k v))) ∨
 ∃ kvs k b, H a = some (.dT kvs) ∧ y = .ref b ∧ H b = some (.tup (k.map kV)) ∧ kvs.length < sizeLine ∧ H' = upd H a (.dT (putK kvs k v))
theorem zgP.k {H : Hp} {a : Addr} {kvs : List (Key × V)} {k : Key} (e : H a = some (.dK kvs)) : zgP H a (kV k) (zfg kvs k) := .inl ⟨kvs, k, .inl e, rfl, rfl⟩
theorem znc.k {H : Hp} {a : Addr} {kvs : List (Key × V)} {k : Key} {v : V} (e : H a = some (.dK kvs)) (hl : kvs.length < sizeLine) : znc H a (kV k) v (upd H a (.dK (putK kvs k v))) := .inl ⟨kvs, k, e, rfl, hl, rfl⟩
section
variable {X : Cx} {pins : List (Addr × Obj)} {σ : St} {H : Hp} {s : Shared} {a : Addr} {y v : V} {u r : Value} {o : Option V} {A : Around} {E : Value → Shared → Prop}
theorem Inv.big (I : Inv X pins σ H s) : sysModules < s.heap.objs.size := by
 have h : mainGlobals < s.heap.objs.size := (I.mod.glob.keeps I.bk).lt
 exact Nat.lt_trans (by decide) h
theorem zh9 {Q : Value → Shared → Prop} (hu : A.units + 1 < cLine) (I : Inv X pins σ H s) (g : zgP H a y (some v)) (ry : RelV y u) (h : ∀ w' s', Inv X pins σ H s' → RelV v w' → Q w' s') :
  wpAny (model X.prog X.w) A (getItem (.ref a) u) Q E s := by
 rcases g with ⟨kvs, k, e, ey, l⟩ | ⟨kvs, k, b, e, ey, eb, l⟩
 ·subst ey
  obtain ⟨z, hd, vs, rel, dd⟩ := zht I.hok e
  obtain ⟨w', hw, rw'⟩ := zjp.zeN (v := v) (o := valueAt vs k) (by rw [l]; exact rel.val k)
  exact wpAny_getItem_of (zhs ry) dd.mapOf hw (h w' _ (I.tok _) rw')
 ·subst ey
  cases (show u = Value.ref b from ry)
  obtain ⟨z, hd, xs, rel, dd⟩ := zh8 I.hok e
  obtain ⟨w', hw, rw'⟩ := zjp.zeN (v := v) (o := (atKey xs k).map (·.2)) (by rw [l]; exact rel.val k)
  obtain ⟨p, hp, hp2⟩ := Option.map_eq_some_iff.mp hw
  refine wpAny_getItem_heap (tupleKind_room_in1 hu) (zfw I.hok eb) dd hp ?_
  rw [hp2]
  exact h w' _ (I.tok _) rw'
theorem d_in {Q : Value → Shared → Prop} (hu : A.units + 1 < cLine) (I : Inv X pins σ H s) (g : zgP H a y o) (ry : RelV y u) (h : ∀ s', Inv X pins σ H s' → Q (.bool o.isSome) s') :
  wpAny (model X.prog X.w) A (compareOp .In u (.ref a)) Q E s := by
 rcases g with ⟨kvs, k, e, ey, l⟩ | ⟨kvs, k, b, e, ey, eb, l⟩
 ·subst ey
  obtain ⟨z, hd, vs, rel, dd⟩ := zht I.hok e
  refine wpAny_in_of (zhs ry) hd dd.mapOf ?_
  rw [← (rel.val k).zb9, ← l]
  exact h _ (I.tok _)
 ·subst ey
  cases (show u = Value.ref b from ry)
  obtain ⟨z, hd, xs, rel, dd⟩ := zh8 I.hok e
  refine wpAny_in_heap (tupleKind_room_in1 hu) (zfw I.hok eb) hd dd ?_
  have q := (rel.val k).zb9
  rw [Option.isSome_map] at q
  rw [← q, ← l]
  exact h _ (I.tok _)
theorem zlc {Q : Value → Shared → Prop} (hu : A.units + 1 < cLine) (I : Inv X pins σ H s) (g : zgP H a y o) (ry : RelV y u) (h : ∀ s', Inv X pins σ H s' → Q (.bool (!o.isSome)) s') :
  wpAny (model X.prog X.w) A (compareOp .NotIn u (.ref a)) Q E s := by
 rcases g with ⟨kvs, k, e, ey, l⟩ | ⟨kvs, k, b, e, ey, eb, l⟩
 ·subst ey
  obtain ⟨z, hd, vs, rel, dd⟩ := zht I.hok e
  refine wpAny_notIn_of (zhs ry) hd dd.mapOf ?_
  rw [← (rel.val k).zb9, ← l]
  exact h _ (I.tok _)
 ·subst ey
  cases (show u = Value.ref b from ry)
  obtain ⟨z, hd, xs, rel, dd⟩ := zh8 I.hok e
  refine wpAny_notIn_heap (tupleKind_room_in1 hu) (zfw I.hok eb) hd dd ?_
  have q := (rel.val k).zb9
  rw [Option.isSome_map] at q
  rw [← q, ← l]
  exact h _ (I.tok _)
theorem zia {h' : Heap} {t' : Nat} {ob : HO} (I : Inv X pins σ H s) (mu : Mut (H a)) (hs : Heap.SameBut a s.heap h') (he : ∃ q, h'.get? a = some q) (new : zbK X.prog X.w (upd H a ob) h' a ob) :
  Inv X pins σ (upd H a ob) { s with heap := h', toks := t' } :=
 I.write (x := a) (e := a) mu (.inl rfl) (fun b q hb z => (hs.2 b hb).trans z) he new
theorem znd {P : Program} {w : World} {H' : Hp} {h' : Heap} {kvs : List (Key × V)} {vs : List (Key × Value)} (z : kvs.length ≤ sizeLine) (hd : (a == sysModules) = false) (rel : KV kvs vs) (dd : h'.DictOf (zaE P w) a vs) :
  zbK P w H' h' a (.dK kvs) := ⟨z, hd, vs, rel, dd⟩
theorem zib {H' : Hp} {Q : Unit → Shared → Prop} (hu : A.units + 1 < cLine) (I : Inv X pins σ H s) (g : znc H a y v H') (ry : RelV y u) (rv : RelV v r) (h : ∀ s', Inv X pins σ H' s' → Q () s') :
  wpAny (model X.prog X.w) A (setItem (.ref a) u r) Q E s := by
 rcases g with ⟨kvs, k, e, ey, l, eH⟩ | ⟨kvs, k, b, e, ey, eb, l, eH⟩
 ·subst ey eH
  obtain ⟨z, hd, vs, rel, dd⟩ := znb I.hok e
  have hz : vs.length ≤ sizeLine := by rw [← rel.length]; exact z
  have hl : (putK kvs k v).length ≤ sizeLine := by have := zcw kvs k v; omega
  refine wpAny_setItem_pairs (hsz := hz) (zhs ry) dd fun h' dd' hs => h _ ?_
  have he : ∃ q, h'.get? a = some q := let ⟨q, _, _, hq, _⟩ := dd'; ⟨q, hq⟩
  exact zia I (by rw [e]; exact True.intro) hs he (znd hl hd (rel.put k rv) dd')
 ·subst ey eH
  cases (show u = Value.ref b from ry)
  obtain ⟨z, hd, xs, rel, dd⟩ := dt_of I.hok e
  have hz : xs.length ≤ sizeLine := by rw [← Paired.length rel]; exact z
  have hl : (putK kvs k v).length ≤ sizeLine := by have := zcw kvs k v; omega
  refine wpAny_setItem_heap (hsz := hz) (tupleKind_room_in1 hu) (zfw I.hok eb) dd fun h' dd' hs => h _ ?_
  obtain ⟨q, es, ep, hq, h2, h3, h4, _, h5⟩ := dd'
  refine zia I (by rw [e]; exact True.intro) hs ⟨q, hq⟩ ⟨hl, hd, _, (rel.put k eb rv).keeps fun c ys ec => ?_, q, es, ep, hq, h2, h3, h4, h5⟩
  rw [zaz (zkP ec e (fun z => nomatch z))]
  exact ec
end
section
variable {X : Cx} {pins : List (Addr × Obj)} {σ : St} {H : Hp} {s : Shared} {a : Addr} {kvs : List (Key × V)} {k : Key} {u : Value} {A : Around} {E : Value → Shared → Prop}
theorem d_len {Q : Value → Shared → Prop} (I : Inv X pins σ H s) (e : Rd H a (.dK kvs)) (h : ∀ t s', Inv X pins σ H s' → Q (.int kvs.length t) s') : wpAny (model X.prog X.w) A (call (.builtin "len") [.ref a]) Q E s := by
 obtain ⟨z, hd, vs, rel, dd⟩ := zht I.hok e
 refine call_len_dict hd dd (by rw [← rel.length]; rw [sizeLine_eq] at z; omega) ?_
 rw [← rel.length]
 exact h _ _ (I.tok _)
end
def NoSl (i : Expr) : Prop := ∀ ov iv, subscripted i false ov iv = operate [ov, iv] (getItem ov iv)
theorem zld {prog : Program} {w : World} {A : Around} {E : Value → Shared → Prop} {s : Shared} {env : Env} {value slice : Expr} {pos : Pos} {T id : String} {Q : Value → Shared → Prop}
  (hl : typeLookup (.type T) "__getitem__" = pure (some (.builtin id))) (hs : NoSl slice)
  (h : wpAny (model prog w) A (eval value env) (fun o s₁ => wpAny (model prog w) A (eval slice env) (fun i s₂ => s₂.TypeIs o T ∧ wpAny (model prog w) A (getItem o i) Q E s₂) E s₁) E s) :
  wpAny (model prog w) A (eval (.Subscript value slice pos) env) Q E s := by
 refine Subscript_ (wpAny_mono h (fun o s₁ h₁ => wpAny_mono h₁ (fun i s₂ h₂ => ?_) fun _ _ x => x) fun _ _ x => x)
 obtain ⟨hT, h₂⟩ := h₂
 unfold subscriptTail
 refine wpAny_bind ?_
 rw [getitemInPython_of_ne hT.not_modules]
 refine wpAny_bind (wpAny_specialOf hT hl ?_)
 have fin : wpAny (model prog w) A (subscripted slice false o i) (fun r s₃ => wpAny (model prog w) A (letTemporaryGo value o r >>= fun _ => pure r) Q E s₃) E s₂ := by
  rw [hs o i]
  exact wpAny_operating (wpAny_mono h₂ (fun r s₃ h₃ => wpAny_bind (wpAny_letTemporaryGo (wpAny_pure h₃))) fun _ _ x => x)
 first
  | exact wpAny_pure (wpAny_bind fin)
  | exact wpAny_bind (wpAny_pure (wpAny_bind fin))
  | exact wpAny_bind fin
theorem zgd {X : Cx} {pins : List (Addr × Obj)} {σ : St} {H : Hp} {s : Shared} {a : Addr} {y : V} {o : Option V} (I : Inv X pins σ H s) (g : zgP H a y o) : s.TypeIs (.ref a) "dict" := by
 rcases g with ⟨kvs, k, e, _, _⟩ | ⟨kvs, k, b, e, _, _, _⟩
 ·obtain ⟨_, _, vs, _, dd⟩ := zht I.hok e
  exact dd.typeIs
 ·obtain ⟨_, _, xs, _, dd⟩ := zh8 I.hok e
  exact dd.typeIs
def znf (td ty : TE) : TE := fun σ H Q => td σ H fun x H1 => ty σ H1 fun y H2 => ∃ a v, x = .ref a ∧ zgP H2 a y (some v) ∧ Q v H2
def tDIn (ty td : TE) : TE := fun σ H Q => ty σ H fun y H1 => td σ H1 fun x H2 => ∃ a o, x = .ref a ∧ zgP H2 a y o ∧ Q (.bl o.isSome) H2
def zle (ty td : TE) : TE := fun σ H Q => ty σ H fun y H1 => td σ H1 fun x H2 => ∃ a o, x = .ref a ∧ zgP H2 a y o ∧ Q (.bl (!o.isSome)) H2
def zlf (td ty tv : TE) : TS := fun D σ H => tv σ H fun v H1 => td σ H1 fun x H2 => ty σ H2 fun y H3 => ∃ a H4, x = .ref a ∧ znc H3 a y v H4 ∧ D.nx σ H4
section
variable {X : Cx} {o i e value : Expr} {pos pos' tpos : Pos} {td ty tv : TE}
theorem zlg (hu : X.A.units + 1 < cLine) (ho : PE X o td) (hi : PE X i ty) (hs : NoSl i) : PE X (.Subscript o i pos) (znf td ty) := by
 intro pins s σ H Q I h
 refine zld PySem.F.slot_dict_getitem.lookup hs (thn (ho pins s σ H _ I h) fun u s1 ⟨x, H1, I1, rx, q1⟩ => thn (hi pins s1 σ H1 _ I1 q1) fun iv s2 ⟨y, H2, I2, ry, a, v, ex, g, q2⟩ => ?_)
 subst ex
 obtain rfl : u = Value.ref a := rx
 exact ⟨zgd I2 g, zh9 hu I2 g ry fun w' s3 I3 rw' => ⟨v, H2, I3, rw', q2⟩⟩
theorem zkn (hu : X.A.units + 1 < cLine) (hi : PE X i ty) (ho : PE X o td) : PC X .In i o (tDIn ty td) := by
 intro pins s σ H Q I h
 refine thn (hi pins s σ H _ I h) fun iv s1 ⟨y, H1, I1, ry, q1⟩ => thn (ho pins s1 σ H1 _ I1 q1) fun u s2 ⟨x, H2, I2, rx, a, ov, ex, g, q2⟩ => ?_
 subst ex
 obtain rfl : u = Value.ref a := rx
 exact d_in hu I2 g ry fun s3 I3 => ⟨.bl ov.isSome, H2, I3, rfl, q2⟩
theorem zic (hu : X.A.units + 1 < cLine) (hi : PE X i ty) (ho : PE X o td) : PC X .NotIn i o (zle ty td) := by
 intro pins s σ H Q I h
 refine thn (hi pins s σ H _ I h) fun iv s1 ⟨y, H1, I1, ry, q1⟩ => thn (ho pins s1 σ H1 _ I1 q1) fun u s2 ⟨x, H2, I2, rx, a, ov, ex, g, q2⟩ => ?_
 subst ex
 obtain rfl : u = Value.ref a := rx
 exact zlc hu I2 g ry fun s3 I3 => ⟨.bl (!ov.isSome), H2, I3, rfl, q2⟩
theorem zlh (hu : X.A.units + 1 < cLine) (ho : PE X o td) (hi : PE X i ty) (hv : PE X value tv) (hs : swapsWith value (some (.Subscript o i pos')) pos.line X.env = pure false) :
  PS X (.Assign [.Subscript o i pos'] value pos) (zlf td ty tv) := by
 intro pins s σ H D I h
 refine wpAny_Assign_Subscript (thn (hv pins s σ H _ I h) fun r s1 ⟨v, H1, I1, rv, q1⟩ => thn (ho pins s1 σ H1 _ I1 q1) fun u s2 ⟨x, H2, I2, rx, q2⟩ => thn (hi pins s2 σ H2 _ I2 q2) fun iv s3 ⟨y, H3, I3, ry, a, H4, ex, g, q3⟩ => ?_) hs
 subst ex
 obtain rfl : u = Value.ref a := rx
 exact zib hu I3 g ry rv fun s4 I4 => ⟨σ, H4, I4, q3⟩
end
end L2
namespace Att
open PySem PySem.W PySem.Calls PyProof.Rows
theorem zdU {P : Params} {h : Heap} : ∀ (ns : List Int) (vs : List Value), WellAll P h vs (ns.map WData.int) → IntsAre vs ns := by
 intro ns
 induction ns with
 | nil =>
  intro vs w
  rw [List.map_nil] at w
  cases w
  exact .nil
 | cons n ns ih =>
  intro vs w
  rw [List.map_cons] at w
  cases w with
  | cons a b =>
   cases a
   exact .cons _ _ (ih _ b)
theorem zid {l : OpenLaw} {n : Nat} (hn : l.most = some n) {P : Params} {h : Heap} {args : List WData} {vals : List Value}
  (hpre : l.row.toRowW.claim.pre args = true) (hwl : WellAll P h vals args) :
  ∃ a vs ns, vals = [Value.ref a] ∧ args = [WData.list (ns.map WData.int)] ∧ h.get? a = some { cls := .type "list", data := .seq vs.toArray } ∧ IntsAre vs ns ∧ ns.length ≤ n := by
 have hsh : WShape.hasAll [] args [.list .int] = true := (pre_splitW hpre).1
 have hc : l.pre.holds [] { args := args } = true := (pre_splitW hpre).2
 obtain ⟨d, r, rfl, h1, h2⟩ := hasAllW_cons hsh
 obtain rfl := hasAllW_nil h2
 obtain ⟨xs, rfl, h3⟩ := hasW_list h1
 obtain ⟨ns, rfl⟩ := items_int h3
 have hlen : ns.length ≤ n := by
  unfold OpenLaw.pre at hc
  have h4 : (WTm.not (.lt (.lit (.int (n : Int))) (.len (.arg 0)))).holds [] { args := [.list (ns.map .int)] } = true := by
   have h4 := (holds_andW hc).1
   rw [hn] at h4
   exact h4
  have h5 := condW_of h4 (w_not (w_lt w_lit (w_len_list (w_arg rfl))))
  rw [List.length_map] at h5
  refine Nat.le_of_not_lt fun q => ?_
  have q' : (n : Int) < ((ns.length : Nat) : Int) := by omega
  first
   | (rw [decide_eq_true q'] at h5; exact absurd h5 (by decide))
   | (simp at h5; omega)
 cases hwl with
 | cons w1 w2 =>
  cases w2
  cases w1 with
  | list ho hall => exact ⟨_, _, ns, rfl, rfl, ho, zdU ns _ hall, hlen⟩
theorem zie (l : OpenLaw) (args : List WData) : l.row.toRowW.claim.post args (.bool true) args = true :=
 postW_of (r := l.row.toRowW) (X := (true == true))
  (show WShape.has [] (.bool true) .bool = true by first | rfl | decide | simp [WShape.has, WShape.arms, WShape.armsAll])
  (show (WTm.eq .res (.lit (.bool true))).value [] { args := args, res := some (.bool true), after := args } = some (.bool (true == true)) from w_eq_bool (w_res rfl) w_lit) rfl
theorem zge {l : OpenLaw} {n : Nat} {q : Program} {loose : List Str} {XP : (Str → Option Value) → Heap → Prop} {YP : World → Heap → Prop} {d : DefRec}
  (hn : l.most = some n) (hdf : d.params.defaults = [])
  (call : ∀ (w : World) (s₀ s₁ : Shared) (mg mb : Str → Option Value) (fa : Addr) (o : Obj) (pm cd doc : Value) (a : Addr) (vs : List Value) (ns : List Int),
   Ground q loose [] XP w s₀ mg mb s₁.heap → YP w s₁.heap →
   s₁.heap.get? fa = some o → o.data = .func (docDef d.name d.params d.body d.scope pm cd doc) → s₁.heap.CodeRec cd d.name → mg d.name = some (.ref fa) →
   s₁.heap.get? a = some { cls := .type "list", data := .seq vs.toArray } → IntsAre vs ns → ns.length ≤ n → s₁.gens = #[] →
   codeAny (model l.prog w) callerA (.call (.ref fa) ⟨[.ref a], []⟩) (fun r s' => r = .ok (.ret (.bool true)) ∧ OldK s₁.heap s'.heap ∧ s'.os = s₁.os ∧ AllBare s'.gens) s₁) :
  WalkO q loose XP YP l.row.toRowW d [] (fun f vs => PySem.call f vs) := by
 intro w s₀ s₁ mg mb G Y fa o pm cd doc dV kV ho hd hcd hD hmg hg args vals as hpre hlay hrd hwl hlo
 obtain rfl : dV = .none := Dflts.none hD hdf
 obtain rfl : kV = .none := Dflts.noKw hD
 obtain ⟨a, vs, ns, rfl, rfl, hobj, hints, hlen⟩ := zid hn hpre hwl
 refine enter_call (codeAny_mono (call w s₀ s₁ mg mb fa o pm cd doc a vs ns G Y ho (fd_plain hd) hcd hmg hobj hints hlen hg) fun r s' hq => ?_)
 obtain ⟨rfl, h2, h3, h4⟩ := hq
 exact ⟨.inl ⟨.bool true, .bool true, [], rfl, fun _ => rfl, .bool true, zie l _, fun _ => ⟨List.Pairwise.nil, fun _ hm => (nomatch hm)⟩⟩, h2, h3, h4⟩
end Att
namespace L2
open PySem PySem.Spec PyProof.Rows
theorem zfx : ∀ {vs : List Value} {ns : List Int}, IntsAre vs ns → zaW (ns.map V.int) vs
 | _, _, .nil => .nil
 | _, _, .cons n t h => .cons ⟨t, rfl⟩ (zfx h)
def Only (H : Hp) : Prop := ∀ b, H b = none ∨ ∃ o xs, H b = some (.frz o (.lst xs))
theorem zjI {P : Program} {w : World} {K : PySem.W.Frag} {mg mb : Str → Option Value} {CX : CXT} {k : Nat} {fa a : Addr} {fd : FuncData} {x : Str} {sp : Sp} {s₁ : Shared} {vs : List Value} {ns : List Int}
  (KX : K.In s₁.heap) (hns : s₁.heap.Ns mainGlobals mg) (hb : s₁.heap.Ns builtinsNs mb) (hbb : ∀ x : Str, x ≠ "__name__" → mb x = bootBuiltins x) (hlim : s₁.heap.NoLimit) (hg : s₁.gens = #[])
  (ha : s₁.heap.get? a = some { cls := .type "list", data := .seq vs.toArray }) (hi : IntsAre vs ns) (hl : ns.length ≤ sizeLine) (hr : zeh k callerA)
  (F : ∀ base : Heap, K.In base → base.Ns mainGlobals mg → zcv P w K mg base CX k fa fd [x] sp) (hbind : ∀ (s : Shared) (u : Value), BindsTo s fd ⟨[u], []⟩ [(x, u)])
  (hsp : ∀ H : Hp, Only H → SqL K H a (ns.map V.int) → sp [.ref a] H (fun v _ => v = .bl true) fun _ _ _ => False)
  (hCX : ∀ H e s', CX [] H s₁ (fun _ _ _ => False) e s' → False) :
  codeAny (model P w) callerA (.call (.ref fa) ⟨[.ref a], []⟩) (fun r s' => r = .ok (.ret (.bool true)) ∧ OldK s₁.heap s'.heap ∧ s'.os = s₁.os ∧ AllBare s'.gens) s₁ := by
 have rv := zfx hi
 have lenV := hi.length
 have core : ∀ H : Hp, Only H → SqL K H a (ns.map V.int) → HOk P w H s₁.heap → (∀ b, H b ≠ none → b = a) → (H a ≠ none → K.lookup a = none) →
   codeAny (model P w) callerA (.call (.ref fa) ⟨[.ref a], []⟩) (fun r s' => r = .ok (.ret (.bool true)) ∧ OldK s₁.heap s'.heap ∧ s'.os = s₁.os ∧ AllBare s'.gens) s₁ := by
  intro H hO hS hok hA hK
  have base_of : ∀ {b : Addr} {o : Obj}, s₁.heap.get? b = some o → H b = none → (zju s₁.heap H).get? b = some o := fun e n => zjv e n
  have noA : ∀ {b : Addr} {o : Obj} {es : Array DictEntry} {ep : Nat}, s₁.heap.get? b = some o → o.data = .dict es ep → H b = none := fun {b o es ep} e d => by
   cases q : H b with
   | none => rfl
   | some u =>
    have e' : b = a := hA b (by rw [q]; simp)
    subst e'
    rw [ha] at e; cases e
    have d' : Data.seq vs.toArray _ = Data.dict es ep := d
    cases d'
  have nsK : ∀ {b : Addr} {m : Str → Option Value}, s₁.heap.Ns b m → (zju s₁.heap H).Ns b m := fun {b m} ⟨o, es, ep, e, d, r⟩ => ⟨o, es, ep, base_of e (noA e d), d, r⟩
  have hKb : K.In (zju s₁.heap H) := fun b o e => base_of (KX b o e) (by
   cases q : H b with
   | none => rfl
   | some u =>
    have e' : b = a := hA b (by rw [q]; simp)
    subst e'
    rw [hK (by rw [q]; simp)] at e; cases e)
  have hM : Mod K mg (zju s₁.heap H) := ⟨hKb, nsK hns, ⟨mb, nsK hb, hbb⟩, let ⟨mc, h1, h2⟩ := hlim; ⟨mc, nsK h1, h2⟩⟩
  have e0 : Env0 P w K mg (zju s₁.heap H) callerA [] s₁ H := ⟨rfl, hM, fun b o e => zkQ e, Nat.le_of_eq (zhP _ _), trivial, fun b hb => absurd (show b ∈ ([] : List Addr) from hb) (by simp), hok, .of_eq hg⟩
  refine codeAny_mono ((F _ hKb (nsK hns)).run callerA [] s₁ H ⟨[.ref a], []⟩ [.ref a] [.ref a] _ _ hr e0 (hbind s₁ (.ref a)) (.cons rfl .nil) (hsp H hO hS)) fun r s' h => ?_
  cases r with
  | error e => exact (hCX H e s' h).elim
  | ok fl =>
   cases fl with
   | next => exact False.elim h
   | brk => exact False.elim h
   | cont => exact False.elim h
   | ret u =>
    obtain ⟨v, H', os, bare, un, hok', r', q⟩ := h
    have q' : v = .bl true := q
    subst q'
    obtain rfl : u = Value.bool true := r'
    refine ⟨rfl, OldK.of_keep fun b o e => ?_, os, bare⟩
    cases q : H b with
    | none => exact un.keep b o e q (by intro z; exact absurd (show b ∈ ([] : List Addr) from z) (by simp)) (by simp)
    | some u =>
     rcases hO b with z | ⟨ob, xs, z⟩
     ·rw [q] at z; cases z
     ·have z2 := un.zdB b ob _ z
      obtain ⟨e1, _⟩ := hok b _ z
      obtain ⟨e2, _⟩ := hok' b _ z2
      rw [e] at e1; cases e1
      exact e2
 cases hk : K.lookup a with
 | some o =>
  have e := KX a o hk
  rw [ha] at e
  cases e
  refine core (fun _ => none) (fun _ => .inl rfl) (.inr ⟨_, vs.toArray, _, hk, rfl, rfl, rfl, by rw [List.size_toArray, lenV]; exact hl, by simpa using rv⟩) (fun b u z => by have z' : (none : Option HO) = some u := z; cases z') (fun b z => absurd rfl z) fun z => absurd rfl z
 | none =>
  refine core (fun b => if b = a then some (.frz { cls := .type "list", data := .seq vs.toArray } (.lst (ns.map V.int))) else none) (fun b => ?_) (.inl (.inr ⟨{ cls := .type "list", data := .seq vs.toArray }, if_pos rfl⟩)) (fun b u z => ?_) (fun b z => ?_) fun _ => hk
  ·by_cases hb : b = a
   ·exact .inr ⟨_, _, if_pos hb⟩
   ·exact .inl (if_neg hb)
  ·by_cases hb : b = a
   ·have z' := (if_pos hb).symm.trans z
    cases z'
    subst hb
    exact ⟨ha, by rw [List.length_map]; exact hl, vs, _, rv, ha⟩
   ·have z' := (if_neg hb).symm.trans z
    cases z'
  ·by_cases hb : b = a
   ·exact hb
   ·exact absurd (if_neg hb) z
end L2
namespace L2
open PySem PySem.Spec PyProof.Rows
theorem zli {l : PySem.W.OpenLaw} {n k : Nat} {q : Program} {loose : List Str} {XP : (Str → Option Value) → Heap → Prop} {YP : World → Heap → Prop} {d : DefRec} {K : Params → PySem.W.Frag} {CX : World → CXT} {sp : World → Sp} {x : Str}
  (hn : l.most = some n) (hn2 : n ≤ sizeLine) (hdf : d.params.defaults = []) (hr : zeh k callerA)
  (hY : ∀ (w : World) (h : Heap), YP w h → (K w.params).In h)
  (F : ∀ (w : World) (mg : Str → Option Value) (fa : Addr) (h : Heap), (K w.params).In h → h.Ns mainGlobals mg → mg d.name = some (.ref fa) →
   ∃ fd : FuncData, (∀ (s : Shared) (u : Value), BindsTo s fd ⟨[u], []⟩ [(x, u)]) ∧
    ∀ base : Heap, (K w.params).In base → base.Ns mainGlobals mg → zcv l.prog w (K w.params) mg base (CX w) k fa fd [x] (sp w))
  (hsp : ∀ (w : World) (H : Hp) (a : Addr) (ns : List Int), ns.length ≤ n → Only H → SqL (K w.params) H a (ns.map V.int) → sp w [.ref a] H (fun v _ => v = .bl true) fun _ _ _ => False)
  (hCX : ∀ (w : World) (H : Hp) (s : Shared) (e : Value) (s' : Shared), CX w [] H s (fun _ _ _ => False) e s' → False) :
  PySem.W.WalkO q loose XP YP l.row.toRowW d [] (fun f vs => PySem.call f vs) := by
 refine Att.zge hn hdf fun w s₀ s₁ mg mb fa o pm cd doc a vs ns G Y ho hd hcd hmg hobj hints hlen hg => ?_
 have KX := hY w _ Y
 obtain ⟨fd, hb, hF⟩ := F w mg fa _ KX G.T.g hmg
 exact zjI KX G.T.g G.T.b G.T.builtins G.T.nolimit hg hobj hints (Nat.le_trans hlen hn2) hr hF hb (fun H hO hS => hsp w H a ns hlen hO hS) fun H e s' => hCX w H s₁ e s'
end L2
namespace L2
open PySem PySem.Spec PyProof.Rows
def zaQ (s : Stmt) : Arguments := match s with
 | .FunctionDef _ a _ _ _ _ _ _ _ _ => a
 | _ => { posonlyargs := [], args := [], vararg := none, kwonlyargs := [], kw_defaults := [], kwarg := none, defaults := [] }
def zaF (s : Stmt) : List Stmt := match s with
 | .FunctionDef _ _ b _ _ _ _ _ _ _ => b
 | _ => []
def zah (s : Stmt) : Scope := match s with
 | .FunctionDef _ _ _ _ _ _ sc _ _ _ => sc
 | _ => { kind := .function, names := [], isGenerator := false, isCoroutine := false }
abbrev CX0 : CXT := fun _ _ _ _ _ _ => False
abbrev E0 : XK := fun _ _ _ => False
theorem pass0 {X : Cx} : Passes CX0 X E0 := fun _ _ _ _ _ _ _ h => h.elim
structure Fun (K : PySem.W.Frag) (x qual : Str) (st : Stmt) (f : Addr) (fd : FuncData) : Prop where
 ex : ∃ (oc : Value) (od : Option Addr) (kV doc pm : Value) (an : Option Addr) (cdv ct : Value) (osl : Array (Option Value)),
  fd = PySem.W.fnOf x qual (zaQ st) (zaF st) (zah st) .none kV doc pm an cdv ct ∧ K.lookup f = some ⟨oc, od, .func fd, osl⟩ ∧ PySem.W.codeIn K cdv qual = true
 kp : PySem.W.keepIn K (.ref f) = true
section
variable {P : Program} {w : World} {K : PySem.W.Frag} {mg : Str → Option Value} {base : Heap}
theorem Fun.ok {x qual : Str} {st : Stmt} {f : Addr} {fd : FuncData} {N ps : List Str} {k : Nat} {sp : Sp} (F : Fun K x qual st f fd) (S : zaP N ps (zah st)) (len : ∀ vs H Q E, sp vs H Q E → vs.length = ps.length)
  (hbody : ∀ (cdv : Value) (A : Around) (outer : List Env) (s : Shared) (H : Hp) (vs : List V) (Q : VK) (E : XK), zeh k (A.deeper (envOfC qual (zah st) s.heap.objs.size f cdv)) → sp vs H Q E →
   ∃ t, PSs (zkm CX0 P w K mg base N qual (zah st) f cdv A outer s H E).nox (zaF st) t ∧ t { nx := fun _ H' => Q .non H', rt := Q } (start N vs) H) : zcv P w K mg base CX0 (k + 1) f fd ps sp := by
 obtain ⟨oc, od, kV, doc, pm, an, cdv, ct, osl, rfl, lk, hcd⟩ := F.ex
 refine fn_of lk hcd S len fun A outer s H vs Q E hr hsp => ?_
 obtain ⟨t, h, q⟩ := hbody cdv A outer s H vs Q E hr hsp
 exact ⟨t, h.nox, q⟩
theorem Fun.binds {x qual : Str} {st : Stmt} {f : Addr} {fd : FuncData} {ps : List Str} (F : Fun K x qual st f fd)
  (h : ∀ (kV doc pm : Value) (an : Option Addr) (cdv ct : Value) (us : List Value), us.length = ps.length → bindArgs (PySem.W.fnOf x qual (zaQ st) (zaF st) (zah st) .none kV doc pm an cdv ct) ⟨us, []⟩ = pure (ps.zip us)) : Binds K fd ps [] := by
 obtain ⟨oc, od, kV, doc, pm, an, cdv, ct, osl, rfl, lk, hcd⟩ := F.ex
 exact .all (h kV doc pm an cdv ct)
theorem zbD {x qual : Str} {st : Stmt} {f : Addr} {oc : Value} {od an : Option Addr} {osl : Array (Option Value)} {kV doc pm cdv ct : Value} (l : K.lookup f = some ⟨oc, od, .func (PySem.W.fnOf x qual (zaQ st) (zaF st) (zah st) .none kV doc pm an cdv ct), osl⟩)
  (c : PySem.W.codeIn K cdv qual = true) (k : PySem.W.keepIn K (.ref f) = true) : Fun K x qual st f (PySem.W.fnOf x qual (zaQ st) (zaF st) (zah st) .none kV doc pm an cdv ct) := ⟨⟨oc, od, kV, doc, pm, an, cdv, ct, osl, rfl, l, c⟩, k⟩
end
section
variable {X : Cx}
theorem pv (i : Nat) {x : Str} {pos : Pos} (hN : X.N[i]? = some x := by rfl) (hv : Vis X.env.scope x := by first | exact Or.inl rfl | exact Or.inr (Or.inl rfl) | exact Or.inr (Or.inr rfl)) (hd : (x == ("__debug__" : Str)) = false := by decide)
  (hcd : (x == ("__classdict__" : Str)) = false := by decide) : PE X (.Name x pos) (zdC i) := zkh hN hv hd hcd
theorem zfy : za3 X (.builtin "len") (fun xs H Q => ∃ a kvs, xs = [V.ref a] ∧ H a = some (.dK kvs) ∧ Q (.int kvs.length) H) := by
 intro pins s σ H xs us Q I r h
 obtain ⟨a, kvs, rfl, ha, q⟩ := h
 obtain ⟨u, rfl, ru⟩ := vals1 r
 cases ru
 exact d_len I (.inl ha) fun t s' I' => ⟨.int kvs.length, H, I', ⟨t, rfl⟩, q⟩
end
theorem zlj {A B : Prop} (h : B) : if false = true then A else B := by
 rw [if_neg Bool.false_ne_true]
 exact h
theorem zlk {A B : Prop} (h : A) : if true = true then A else B := by
 rw [if_pos rfl]
 exact h
def zen (H H' : Hp) : Prop := ∀ b o, H b = some o → H' b = some o
theorem zen.refl (H : Hp) : zen H H := fun _ _ h => h
theorem zen.free {H H' : Hp} (e : zen H H') {l : Addr} (h : H' l = Option.none) : H l = Option.none := by
 cases q : H l with
 | none => rfl
 | some o =>
  rw [e l o q] at h
  cases h

end L2
end
section
namespace L2
open PySem PySem.Spec PyProof.Rows
def zal (cells : List (Str × Addr)) : List (Str × NameKind) → List (Str × Addr) → List (Str × Addr)
 | [], cs => cs
 | (n, k) :: r, cs => if (k == NameKind.free) = true then (match cells.lookup n with | some a => zal cells r ((n, a) :: cs) | none => zal cells r cs) else zal cells r cs
theorem zgf {env : Env} : ∀ (names : List (Str × NameKind)) (cs : List (Str × Addr)), (∀ x ∈ names, x.2 = .free → ∃ a, env.cells.lookup x.1 = some a) →
  (forIn names cs fun (x : Str × NameKind) (r : List (Str × Addr)) => (if (x.2 == NameKind.free) = true then (do let a ← cellOf env x.1; pure (ForInStep.yield ((x.1, a) :: r))) else pure (ForInStep.yield r) : Sem (ForInStep (List (Str × Addr))))) = (pure (zal env.cells names cs) : Sem (List (Str × Addr)))
 | [], cs, _ => rfl
 | (n, k) :: r, cs, h => by
  rw [List.forIn_cons]
  by_cases hk : (k == NameKind.free) = true
  ·obtain ⟨a, ha⟩ := h (n, k) lS (by simpa using hk)
   have ha : env.cells.lookup n = some a := ha
   have hcell : cellOf env n = pure a := by unfold cellOf; rw [ha]
   simp only [hk, if_true]
   rw [hcell]
   show (forIn r ((n, a) :: cs) _ : Sem _) = _
   rw [zgf r _ fun x hx => h x (lO _ hx)]
   simp only [zal, hk, if_true, ha]
  ·simp only [hk, if_false]
   show (forIn r cs _ : Sem _) = _
   rw [zgf r _ fun x hx => h x (lO _ hx)]
   simp only [zal, hk, if_false]
   rfl
theorem zaG {scope : Scope} {env : Env} (h : ∀ x ∈ scope.names, x.2 = .free → ∃ a, env.cells.lookup x.1 = some a) : closureFor scope env = pure (zal env.cells scope.names []) := by
 have e := zgf (env := env) scope.names [] h
 unfold closureFor
 simp only [bind_pure_comp] at e ⊢
 first
  | (rw [← e]; rfl)
  | (simpa using e)
theorem zaJ {cells : List (Str × Addr)} {y : Str} {c : Addr} : ∀ (names : List (Str × NameKind)) (cs : List (Str × Addr)), (∀ y c, cs.lookup y = some c → cells.lookup y = some c) → (zal cells names cs).lookup y = some c → cells.lookup y = some c
 | [], cs, h, e => h y c e
 | (n, k) :: r, cs, h, e => by
  unfold zal at e
  by_cases hk : (k == NameKind.free) = true
  ·rw [if_pos hk] at e
   cases ha : cells.lookup n with
   | none =>
    rw [ha] at e
    exact zaJ r cs h e
   | some a =>
    rw [ha] at e
    refine zaJ r _ (fun y c q => ?_) e
    rw [List.lookup_cons] at q
    by_cases hy : (y == n) = true
    ·rw [hy] at q
     cases q
     have : y = n := by simpa using hy
     rw [this]; exact ha
    ·have hy' : (y == n) = false := by simpa using hy
     rw [hy'] at q
     exact h y c q
  ·rw [if_neg hk] at e
   exact zaJ r cs h e
theorem zcm {cells : List (Str × Addr)} {y : Str} : ∀ (names : List (Str × NameKind)) (cs : List (Str × Addr)), (cs.lookup y).isSome = true → ((zal cells names cs).lookup y).isSome = true
 | [], cs, h => h
 | (n, k) :: r, cs, h => by
  unfold zal
  by_cases hk : (k == NameKind.free) = true
  ·rw [if_pos hk]
   cases ha : cells.lookup n with
   | none => exact zcm r cs h
   | some a =>
    refine zcm r _ ?_
    rw [List.lookup_cons]
    by_cases hy : (y == n) = true
    ·rw [hy]; rfl
    ·have hy' : (y == n) = false := by simpa using hy
     rw [hy']; exact h
  ·rw [if_neg hk]
   exact zcm r cs h
theorem zbO {cells : List (Str × Addr)} {y : Str} : ∀ (names : List (Str × NameKind)) (cs : List (Str × Addr)), (y, NameKind.free) ∈ names → (cells.lookup y).isSome = true → ((zal cells names cs).lookup y).isSome = true
 | [], cs, h, _ => by simp at h
 | (n, k) :: r, cs, h, hy => by
  unfold zal
  rcases lK h with e | h'
  ·cases e
   rw [if_pos (by rfl)]
   cases ha : cells.lookup y with
   | none => rw [ha] at hy; cases hy
   | some a =>
    refine zcm r _ ?_
    rw [List.lookup_cons, show (y == y) = true by simp]
    rfl
  ·by_cases hk : (k == NameKind.free) = true
   ·rw [if_pos hk]
    cases ha : cells.lookup n with
    | none => exact zbO r cs h' hy
    | some a => exact zbO r _ h' hy
   ·rw [if_neg hk]
    exact zbO r cs h' hy
theorem zdo {scope : Scope} {env : Env} {x : Str} {k : NameKind} (hc : ∀ y ∈ scope.names, y.2 ≠ .cell) : (relabel scope env).names.lookup x = some k → (k = .cell ∨ k = .free) → scope.names.lookup x = some .free := by
 unfold relabel
 dsimp only
 generalize hn : scope.names = names at hc ⊢
 clear hn
 induction names with
 | nil => intro h; simp at h
 | cons p r ih =>
  obtain ⟨n, k0⟩ := p
  intro h hk
  rw [List.map_cons, List.lookup_cons] at h
  rw [List.lookup_cons]
  have hc' : ∀ y ∈ r, y.2 ≠ .cell := fun y hy => hc y (lO _ hy)
  by_cases hx : (x == n) = true
  ·rw [hx]
   have hk0 := hc (n, k0) lS
   have hk0 : k0 ≠ .cell := hk0
   by_cases hq : (k0 == NameKind.free && env.scope.kind == .function && env.kindOf n == some .cell) = true
   ·have : (k0 == NameKind.free) = true := by
     rw [Bool.and_eq_true, Bool.and_eq_true] at hq
     exact hq.1.1
    have : k0 = .free := by simpa using this
    rw [this]
   ·rw [if_neg hq] at h
    dsimp only at h
    rw [hx] at h
    injection h with h
    subst h
    rcases hk with z | z
    ·exact absurd z hk0
    ·rw [z]
  ·have hx' : (x == n) = false := by simpa using hx
   rw [hx']
   refine ih hc' ?_ hk
   by_cases hq : (k0 == NameKind.free && env.scope.kind == .function && env.kindOf n == some .cell) = true
   ·rw [if_pos hq] at h
    dsimp only at h
    rw [hx'] at h
    exact h
   ·rw [if_neg hq] at h
    dsimp only at h
    rw [hx'] at h
    exact h
theorem zdp {scope : Scope} {env : Env} {x : Str} : scope.names.lookup x = some .free → (relabel scope env).names.lookup x = some .cell ∨ (relabel scope env).names.lookup x = some .free := by
 unfold relabel
 dsimp only
 generalize hn : scope.names = names
 clear hn
 induction names with
 | nil => intro h; simp at h
 | cons p r ih =>
  obtain ⟨n, k0⟩ := p
  intro h
  rw [List.lookup_cons] at h
  rw [List.map_cons, List.lookup_cons]
  by_cases hx : (x == n) = true
  ·rw [hx] at h
   injection h with h
   subst h
   by_cases hq : (NameKind.free == NameKind.free && env.scope.kind == .function && env.kindOf n == some .cell) = true
   ·rw [if_pos hq]; dsimp only; rw [hx]; exact .inl rfl
   ·rw [if_neg hq]; dsimp only; rw [hx]; exact .inr rfl
  ·have hx' : (x == n) = false := by simpa using hx
   rw [hx'] at h
   by_cases hq : (k0 == NameKind.free && env.scope.kind == .function && env.kindOf n == some .cell) = true
   ·rw [if_pos hq]; dsimp only; rw [hx']; exact ih h
   ·rw [if_neg hq]; dsimp only; rw [hx']; exact ih h
end L2
end
section
namespace L2
open PySem PySem.Spec PyProof.Rows
def zao (X : Cx) (scope : Scope) (cl : List (Str × Addr)) (N : List Str) (C : Addr) (fp : List Addr) (s : Shared) (H : Hp) : Cx :=
 { X with N := N, s₀ := s, H₀ := H, env := compEnvC scope cl C X.env, outer := X.stack, ex := fp, fn := fun _ => false, pn := [], xe := fun _ _ => False }
structure Bk where
 cl : List (Str × Addr)
 C : Addr
 fp : List Addr
 s : Shared
 H : Hp
def zgQ (fr : List (Option Nat)) (σ : St) : St := fr.map fun o => match o with
 | some j => (match σ[j]? with | some v => v | none => none)
 | none => none
structure zaX (X : Cx) (scope : Scope) (N : List Str) (fr : List (Option Nat)) : Prop where
 kind : scope.kind = .function
 nocell : ∀ y ∈ scope.names, y.2 ≠ .cell
 locs : ∀ y ∈ scope.names, y.2 = .local → scope.names.lookup y.1 = some .local
 free : ∀ y ∈ scope.names, y.2 = .free → X.env.kindOf y.1 = some .cell ∨ X.env.kindOf y.1 = some .free
 len : fr.length = N.length
 fr : ∀ (i j : Nat) (x : Str), N[i]? = some x → fr[i]? = some (some j) → X.N[j]? = some x ∧ scope.names.lookup x = some .free
 nd : N.Nodup
theorem zat {x : Str} {k : NameKind} : ∀ {l : List (Str × NameKind)}, l.lookup x = some k → (x, k) ∈ l := fun h => PySem.mem_of_lookup h
section
variable {X : Cx} {pins : List (Addr × Obj)} {σ : St} {H : Hp} {s : Shared} {scope : Scope} {N : List Str} {fr : List (Option Nat)} {fp : List Addr}
theorem zaX.cells (S : zaX X scope N fr) (I : Inv X pins σ H s) : ∀ x ∈ scope.names, x.2 = .free → ∃ a, X.env.cells.lookup x.1 = some a := fun x hx e => I.ok.has x.1 (S.free x hx e)
theorem zdH {h1 : Heap} {m : Str → Option Value} {ob : Obj} {tk : Nat} (I : Inv X pins σ H s) (S : zaX X scope N fr) (hf : ∀ b ∈ fp, zek X pins H b) (hs : ∀ b ∈ fp, b < s.heap.objs.size)
  (hns : h1.Ns s.heap.objs.size m) (hsb : Heap.SameBut s.heap.objs.size (s.heap.push ob) h1) :
  Inv (zao X scope (zal X.env.cells scope.names []) N s.heap.objs.size fp s H) [] (zgQ fr σ) H { s with heap := h1, toks := tk } := by
 have sub : ∀ y c, (zal X.env.cells scope.names []).lookup y = some c → X.env.cells.lookup y = some c := fun y c e => zaJ scope.names [] (fun _ _ z => by simp at z) e
 have old : ∀ b o, s.heap.get? b = some o → h1.get? b = some o := fun b o e => (hsb.2 b (Nat.ne_of_lt (Heap.lt_size e))).trans (Heap.get?_push_of_some _ e)
 have cle : ∀ x c, X.env.cells.lookup x = some c → c < s.heap.objs.size := fun x c e => by
  obtain ⟨v, z⟩ := I.cell x c e
  exact z.lt
 have bne : ∀ b ∈ fp, b ∉ X.ex → X.s₀.heap.objs.size ≤ b := fun b hb hx => by
  rcases (hf b hb).2.2.2.1 with z | z
  ·exact absurd z hx
  ·exact z
 have ok : (zao X scope (zal X.env.cells scope.names []) N s.heap.objs.size fp s H).Ok := by
  refine ⟨I.ok.mod, ?_, I.ok.glob, I.ok.blt, Nat.le_refl _, fun x y c h1 h2 => I.ok.inj x y c (sub x c h1) (sub y c h2), fun x hx => ?_, fun x c z => (by cases z), I.ok.hd, I.ok.frames, .inl rfl, fun b hb => ⟨?_, fun x c e => ?_⟩, fun b o e => I.bs b o e, ?_, fun b o e hb => ?_, fun b hb hs' => ?_, I.stack, I.zf4⟩
  ·exact S.kind
  ·have hx : (relabel scope X.env).names.lookup x = some .cell ∨ (relabel scope X.env).names.lookup x = some .free := hx
   have hfr : scope.names.lookup x = some .free := by
    rcases hx with z | z
    ·exact zdo S.nocell z (.inl rfl)
    ·exact zdo S.nocell z (.inr rfl)
   have hm := zat hfr
   obtain ⟨a, ha⟩ := S.cells I _ hm rfl
   exact Option.isSome_iff_exists.mp (zbO scope.names [] hm (by show (X.env.cells.lookup x).isSome = true; rw [show X.env.cells.lookup x = some a from ha]; rfl))
  ·exact Nat.ne_of_lt (hs b hb)
  ·exact (hf b hb).2.2.2.2.1 x c (sub x c e)
  ·exact Nat.le_trans I.ok.bsz I.sz
  ·have e : X.base.get? b = some o := e
   rcases (hf b hb).2.2.2.1 with z | z
   ·exact I.ok.noex b o e z
   ·exact absurd (Nat.lt_of_lt_of_le (Heap.lt_size e) (Nat.le_trans I.ok.bsz z)) (Nat.lt_irrefl _)
  ·rcases lK (I.zcr b hs') with z | z
   ·exact (hf b hb).2.1 z
   ·exact (hf b hb).2.2.1 z
 refine ⟨ok, rfl, I.bare, Un.kept old, ⟨m, hns, fun i x v h1' h2 h3 => ?_⟩, fun x c e => ?_, I.hok.fresh (Nat.le_refl _), fun x c e => I.freeC x c (sub x c e), fun p hp => absurd (show p ∈ ([] : List (Addr × Obj)) from hp) (by simp), I.hok.kept old, ?_⟩
 ·have h1' : N[i]? = some x := h1'
  have h2 : (zgQ fr σ)[i]? = some (some v) := h2
  unfold zgQ at h2
  rw [List.getElem?_map] at h2
  cases e : fr[i]? with
  | none => rw [e] at h2; cases h2
  | some o =>
   rw [e] at h2
   cases o with
   | none => cases h2
   | some j =>
    obtain ⟨hj, hx⟩ := S.fr i j x h1' e
    have h2 : some (match σ[j]? with | some v => v | none => none) = some (some v) := h2
    injection h2 with h2
    cases ej : σ[j]? with
    | none => rw [ej] at h2; cases h2
    | some w' =>
     rw [ej] at h2
     have h2 : w' = some v := h2
     subst h2
     have hk := S.free _ (zat hx) rfl
     obtain ⟨m0, hn0, hl⟩ := I.loc
     have vis : Vis X.env.scope x := by
      rcases hk with z | z
      ·exact .inr (.inl z)
      ·exact .inr (.inr z)
     obtain ⟨u, r, l⟩ := hl j x v hj ej vis
     refine ⟨u, r, ?_⟩
     rcases l with ⟨k, _⟩ | ⟨_, c, ec, z⟩
     ·exfalso
      rcases hk with q | q
      ·have := k.symm.trans q; cases this
      ·have := k.symm.trans q; cases this
     ·have hm := zat hx
      obtain ⟨c', ec'⟩ := Option.isSome_iff_exists.mp (zbO (cells := X.env.cells) scope.names [] hm (by rw [ec]; rfl))
      have : c' = c := by
       have q := sub x c' ec'
       rw [ec] at q
       cases q
       rfl
      subst this
      refine .inr ⟨zdp hx, c', ec', ?_⟩
      obtain ⟨o, ho, hd⟩ := z
      exact ⟨o, old _ o ho, hd⟩
 ·obtain ⟨v, o, ho, hd⟩ := I.cell x c (sub x c e)
  exact ⟨v, o, old _ o ho, hd⟩
 ·show (zgQ fr σ).length = N.length
  unfold zgQ
  rw [List.length_map, S.len]
end
def zgR (X : Cx) (ifs : List Expr) (t : TT) : Prop :=
 ∀ (pins : List (Addr × Obj)) (s : Shared) (σ : St) (H : Hp) (Q : Bool → Hp → Prop), Inv X pins σ H s → t σ H Q →
  wpAny (model X.prog X.w) X.A (forIn ifs true fun c r => if r = true then do let ok ← isTrue c X.env (eval c X.env); pure (ForInStep.yield ok) else pure (ForInStep.yield r)) (TP X pins σ Q) X.xe s
def tYes : TT := fun _ H Q => Q true H
theorem zng {X : Cx} : zgR X [] tYes := fun _ _ _ H _ I h => wpAny_tests_nil ⟨H, I, h⟩
theorem znh {X : Cx} {c : Expr} {t : TT} (h : PT X c t) : zgR X [c] t := fun pins s σ H Q I hq => wpAny_tests_one (h pins s σ H Q I hq)
abbrev TM := St → Hp → (Hp → Prop) → Prop
def PEm (X : Cx) (em : Sem Unit) (t : TM) : Prop :=
 ∀ (pins : List (Addr × Obj)) (s : Shared) (σ : St) (H : Hp) (R : Hp → Prop), Inv X pins σ H s → t σ H R →
  wpAny (model X.prog X.w) X.A em (fun _ s' => ∃ H', Inv X pins σ H' s' ∧ R H') X.xe s
def zjJ (g : TG) (tt : TT) (tem : TM) (J : It) (τ : St) (H : Hp) (Q : Hp → Prop) : Prop :=
 ∃ W : Nat → Nat → St → Hp → Prop, (∃ m, W 0 m τ H) ∧ ∀ i m τ H, W i m τ H →
  (J.stop i H ∧ Q H) ∨ (J.go i H ∧ ∃ N : St → Hp → Prop, (∀ τ' H', N τ' H' → ∃ m', m' < m ∧ W (i + 1) m' τ' H') ∧ ∀ x H', J.yld i H x H' → g x τ H' fun τ2 H2 => tt τ2 H2 fun b H3 =>
   if b = true then tem τ2 H3 (N τ2) else N τ2 H3)
def zdV (target iter : Expr) (ifs : List Expr) (em : Sem Unit) (it : Value) (env : Env) (nxt : Sem Fin) : Sem Fin := do
 standAt iter.pos
 match ← pyNext it with
 | none => pure (.done .next)
 | some v =>
  letOwnedTupleGo target it v
  assign target env v
  let mut ok := true
  for c in ifs do
   if ok then ok ← isTrue c env (eval c env)
  if ok then em
  nxt
section
variable {X : Cx} {e target iter : Expr} {ifs : List Expr} {g : TG} {tt : TT} {tem : TM} {acc : Value} {em : Sem Unit}
theorem zcL {it : Addr} {fp : List Addr} {tn : Nat → Heap → Prop} {J : It} {τ : St} {H : Hp} {s : Shared} {Q : Hp → Prop} {R : Result → Shared → Prop}
  (ht : compTurn e 0 (.ref it) acc X.env = zdV target iter ifs em (.ref it) X.env (again (.compLoop e 0 (.ref it) acc X.env)))
  (hd : ∀ (Q : Fin → Shared → Prop) (E : Value → Shared → Prop) (s : Shared), wpAny (model X.prog X.w) X.A ((compTurn e 0 (.ref it) acc X.env).onRaise (fun x => do noteFrame x X.env; theTreesLotGoes x)) Q E s →
   wpAny (model X.prog X.w) (X.A.under (.compLoop e 0 (.ref it) acc X.env)) ((model X.prog X.w).den (.compLoop e 0 (.ref it) acc X.env)) Q E s)
  (hq : (Code.compLoop e 0 (.ref it) acc X.env).quiet = true)
  (hc : X.calm = true) (hx : X.xe = fun _ _ => False) (hg : PG X target g) (hi : zgR X ifs tt) (he : PEm X em tem) (T : Turn X.prog X.w X.K target J fp it tn)
  (I : Inv X [] τ H s) (st : tn 0 s.heap) (hf : ∀ b ∈ fp, zek X [] H b) (h : zjJ g tt tem J τ H Q) (hR : ∀ τ' H' s', Inv X [] τ' H' s' → Q H' → R (.ok .next) s') :
  codeAny (model X.prog X.w) X.A (.compLoop e 0 (.ref it) acc X.env) R s := by
 obtain ⟨W, ⟨m0, w0⟩, turn⟩ := h
 have stat : ∀ {H' : Hp}, (∀ b ∈ fp, H' b = none) → ∀ b ∈ fp, zek X [] H' b := fun hn b hb => ⟨hn b hb, (hf b hb).2⟩
 have noX : ∀ {α : Type} {t : Sem α} {Q : α → Shared → Prop} {s' : Shared} {E : Value → Shared → Prop}, wpAny (model X.prog X.w) X.A t Q X.xe s' → wpAny (model X.prog X.w) X.A t Q E s' := fun {α t Q s' E} h' =>
  wpAny_mono h' (fun _ _ q => q) fun _ _ z => by rw [hx] at z; exact z.elim
 refine codeAny_loop hq (fun n s' => ∃ i τ' H', Inv X [] τ' H' s' ∧ tn i s'.heap ∧ (∀ b ∈ fp, H' b = none) ∧ W i n τ' H') ?_ m0 ⟨0, τ, H, I, st, fun b hb => (hf b hb).1, w0⟩
 rintro n s3 ⟨i, σ3, H3, I3, st3, fr3, w3⟩
 refine hd _ _ _ (wpAny_noted ?_)
 rw [ht]
 unfold zdV
 refine wpAny_bind (wpAny_standAt (wpAny_bind ?_))
 rcases turn i n σ3 H3 w3 with ⟨stop, qn⟩ | ⟨go, Nx, hNx, step⟩
 ·refine thn (T.done X rfl rfl rfl hc i [] s3 σ3 H3 _ I3 (stat fr3) st3 stop) fun r s4 ⟨hr, I4⟩ => ?_
  subst hr
  exact wpAny_pure (hR _ _ _ I4 qn)
 ·refine thn (T.item X rfl rfl rfl hc i [] s3 σ3 H3 _ I3 (stat fr3) st3 go) fun r s4 ⟨u, hr, h4⟩ => ?_
  subst hr
  refine wpAny_bind (thn h4 fun _ s5 ⟨x, H5, I5, r5, y5, st5, fr5⟩ => ?_)
  have I5' := I5.pinned (stat fr5) (T.obj _ _ st5)
  refine wpAny_bind (noX (thn (hg _ s5 σ3 H5 x u _ I5' r5 (step x H5 y5)) fun _ s6 ⟨σ6, H6, I6, q6⟩ => ?_))
  have again' : ∀ {σ7 : St} {H7 : Hp} {s7 : Shared}, Inv X ([] ++ zey fp s5.heap) σ7 H7 s7 → (∃ m', m' < n ∧ W (i + 1) m' σ7 H7) → ∃ m, m < n ∧ ∃ i σ' H', Inv X [] σ' H' s7 ∧ tn i s7.heap ∧ (∀ b ∈ fp, H' b = none) ∧ W i m σ' H' := fun {σ7 H7 s7} I7 n7 => by
   obtain ⟨m', hm, w7⟩ := n7
   refine ⟨m', hm, i + 1, σ7, H7, I7.zcH, T.keep _ _ _ st5 fun b hb o e => (I7.pin (b, o) (lR _ (lR _ (zbz hb e)))).1, fun b hb => ?_, w7⟩
   obtain ⟨o, e, d⟩ := T.obj _ _ st5 b hb
   exact (I7.pin (b, o) (lR _ (lR _ (zbz hb e)))).2.1
  refine wpAny_bind (noX (thn (hi _ s6 σ6 H6 _ I6 q6) fun ok s7 ⟨H7, I7, q7⟩ => ?_))
  cases ok with
  | false => exact wpAny_pure ⟨rfl, again' I7 (hNx _ _ q7)⟩
  | true =>
   refine wpAny_bind (noX (thn (he _ s7 σ6 H7 _ I7 q7) fun _ s8 ⟨H8, I8, q8⟩ => ?_))
   exact wpAny_pure ⟨rfl, again' I8 (hNx _ _ q8)⟩
end
def eApp (D : Addr) (te : TE) : TM := fun σ H R => te σ H fun y H1 => ∃ xs, H1 D = some (.lst xs) ∧ xs.length < sizeLine ∧ R (upd H1 D (.lst (xs ++ [y])))
theorem zgS {X : Cx} {elt : Expr} {te : TE} {D : Addr} (h : PE X elt te) : PEm X (do let _ ← call (.builtin "list.append") [.ref D, ← eval elt X.env]) (eApp D te) := by
 intro pins s σ H R I hq
 refine wpAny_bind (thn (h pins s σ H _ I hq) fun u s1 ⟨y, H1, I1, r1, xs, hD, hz, q⟩ => ?_)
 refine wpAny_bind (thn (zbU pins s1 σ H1 (.ref D) [y] (.ref D) [u] (fun _ H' => R H') I1 rfl (.cons r1 .nil) ⟨D, xs, y, rfl, rfl, hD, hz, q⟩) fun _ s2 ⟨v, H2, I2, _, q2⟩ => ?_)
 exact wpAny_pure ⟨H2, I2, q2⟩
def tLC (fr : List (Option Nat)) (wi : TI) (g : Bk → TG) (tt : Bk → TT) (te : Bk → TE) : TE := fun σ H Q => wi σ H fun J H1 => ∀ D, H1 D = none → ∀ z, zjJ (g z) (tt z) (eApp D (te z)) J (zgQ fr σ) (upd H1 D (.lst [])) fun H' => Q (.ref D) H'
section
variable {X : Cx}
theorem zbZ {pins : List (Addr × Obj)} {σ τ : St} {H1 H3 H' : Hp} {s2 s3 s' : Shared} {fp : List Addr} {scope : Scope} {cl : List (Str × Addr)} {N : List Str} {h' : Heap}
  (I2 : Inv X pins σ H1 s2) (hf : ∀ b ∈ fp, zek X pins H1 b) (u23 : Un (frs X.stack) [] H1 H3 s2.heap s3.heap) (ho : s3.os = s2.os) (hs : s2.heap.objs.size ≤ s3.heap.objs.size)
  (J : Inv (zao X scope cl N s3.heap.objs.size fp s3 H3) [] τ H' s') (sb : Heap.SameBut s3.heap.objs.size s'.heap h') : Inv X pins σ H' { s' with heap := h' } := by
 have hC : H' s3.heap.objs.size = none := J.free
 have hbase : Un (frs X.stack) fp H3 H' s3.heap s'.heap := J.base
 have u3 : Un (frs X.stack) fp H1 H' s2.heap s'.heap := (u23.mono (fun _ z => z) (fun _ z => nomatch z)).trans hbase
 have ne : ∀ b o, s2.heap.get? b = some o → b ≠ s3.heap.objs.size := fun b o e => Nat.ne_of_lt (Nat.lt_of_lt_of_le (Heap.lt_size e) hs)
 have u : Un (frs X.stack) fp H1 H' s2.heap h' := ⟨fun b o e n h1 h2 => (sb.2 b (ne b o e)).trans (u3.keep b o e n h1 h2), fun b o e n h1 h2 => by
   obtain ⟨sl, q⟩ := u3.slot b o e n h1 h2
   exact ⟨sl, (sb.2 b (ne b o e)).trans q⟩, u3.free, fun b o e h2 => by
   obtain ⟨o', q⟩ := u3.there b o e h2
   exact ⟨o', (sb.2 b (ne b o e)).trans q⟩, u3.zb8, u3.zdB, u3.tbls⟩
 have hok : HOk X.prog X.w H' h' := fun b ob e => by
  have q : zbK X.prog X.w H' s'.heap b ob := J.hok b ob e
  refine q.stay (fun c w' hc q => (sb.2 c ?_).trans q) (fun _ q => q) fun _ _ q => q
  intro z
  rw [z] at hc
  rcases hc with rfl | hc
  ·rw [hC] at e; cases e
  ·rw [hC] at hc; cases hc
 refine I2.zmC (s' := { s' with heap := h' }) (H' := H') (ch := fp) (J.os.trans ho) u hok J.bare fun b hb => ?_
 obtain ⟨_, f1, _, f3, f4, f5⟩ := hf b hb
 exact ⟨f3, f1, f4, f5⟩
theorem zll {elt target iter : Expr} {ifs : List Expr} {scope : Scope} {pos : Pos} {N : List Str} {fr : List (Option Nat)} {wi : TI} {g : Bk → TG} {tt : Bk → TT} {te : Bk → TE} (hc : X.calm = true) (S : zaX X scope N fr) (hi : PI X target iter wi)
  (hin : ∀ z : Bk, PG (zao X scope z.cl N z.C z.fp z.s z.H) target (g z) ∧ zgR (zao X scope z.cl N z.C z.fp z.s z.H) ifs (tt z) ∧ PE (zao X scope z.cl N z.C z.fp z.s z.H) elt (te z))
  (hs : ∀ x, foldedSetIterable iter X.env x = pure x := by intro _; rfl) : PE X (.ListComp elt [⟨target, iter, ifs, 0⟩] scope pos) (tLC fr wi g tt te) := by
 intro pins s σ H Q I h
 rw [eval_ListComp]
 refine wpAny_comprehension_free (g := ⟨target, iter, ifs, 0⟩) (gs := []) (use := none) rfl hs (zaG (S.cells I)) S.kind S.locs ?_
 refine thn (hi pins s σ H _ I h) fun v s1 h1 => thn h1 fun itv s2 h2 => ?_
 obtain ⟨it, fp, tn, J, H2, e, I2, T, st2, f2, h2⟩ := h2
 subst e
 refine wpAny_newObj_type ?_
 have hD : H2 s2.heap.objs.size = none := I2.fresh
 have I3 := I2.zlb (t' := s2.toks) (ys := []) (its := []) .nil (Nat.zero_le _)
 have lt2 : ∀ b ∈ fp, b < s2.heap.objs.size := fun b hb => by
  obtain ⟨o, e, _⟩ := T.obj _ _ st2 b hb
  exact Heap.lt_size e
 have f3 : ∀ b ∈ fp, zek X pins (upd H2 s2.heap.objs.size (.lst [])) b := fun b hb => ⟨by rw [zaz (Nat.ne_of_lt (lt2 b hb))]; exact (f2 b hb).1, (f2 b hb).2⟩
 generalize hs3 : ({ s2 with heap := s2.heap.push { cls := .type "list", data := .seq ([] : List Value).toArray } } : Shared) = s3
 have I3 : Inv X pins σ (upd H2 s2.heap.objs.size (.lst [])) s3 := by rw [← hs3]; exact I3
 have sz3 : s3.heap.objs.size = s2.heap.objs.size + 1 := by rw [← hs3]; exact Heap.size_push ..
 have u23 : Un (frs X.stack) [] H2 (upd H2 s2.heap.objs.size (.lst [])) s2.heap s3.heap := by
  rw [← hs3]
  exact Un.laid (fun b o e => Heap.get?_push_of_some _ e) (Nat.le_refl _) hD
 have ho : s3.os = s2.os := by rw [← hs3]
 have st3 : tn 0 s3.heap := T.keep _ _ _ st2 fun b _ o e => by rw [← hs3]; exact Heap.get?_push_of_some _ e
 refine wpAny_newFunctionEnv S.nocell (by intro y hy; simp at hy) (fun h4 hns hsb => ?_) S.kind
 have lt3 : ∀ b ∈ fp, b < s3.heap.objs.size := fun b hb => Nat.lt_of_lt_of_le (lt2 b hb) (by rw [sz3]; exact Nat.le_succ _)
 have I4 := zdH (tk := s3.toks + ([] : List (Str × Value)).length) I3 S f3 lt3 hns hsb
 have old4 : ∀ b o, s3.heap.get? b = some o → h4.get? b = some o := fun b o e => (hsb.2 b (Nat.ne_of_lt (Heap.lt_size e))).trans (Heap.get?_push_of_some _ e)
 have st4 : tn 0 h4 := T.keep _ _ _ st3 fun b _ o e => old4 b o e
 have h2 := h2 _ hD ⟨zal X.env.cells scope.names [], s3.heap.objs.size, fp, s3, upd H2 s2.heap.objs.size (.lst [])⟩
 obtain ⟨hg, hif, hel⟩ := hin ⟨zal X.env.cells scope.names [], s3.heap.objs.size, fp, s3, upd H2 s2.heap.objs.size (.lst [])⟩
 have loop : codeAny (model X.prog X.w) X.A (.compLoop (.ListComp elt [⟨target, iter, ifs, 0⟩] scope pos) 0 (.ref it) (.ref s2.heap.objs.size) (compEnvC scope (zal X.env.cells scope.names []) s3.heap.objs.size X.env))
   (compPost (model X.prog X.w) X.A X.xe none (EP X pins σ Q) (.ref s2.heap.objs.size) s3.heap.objs.size) { s3 with heap := h4, toks := s3.toks + ([] : List (Str × Value)).length } := by
  refine zcL (X := zao X scope (zal X.env.cells scope.names []) N s3.heap.objs.size fp s3 (upd H2 s2.heap.objs.size (.lst []))) (em := (do let _ ← call (.builtin "list.append") [.ref s2.heap.objs.size, ← eval elt (compEnvC scope (zal X.env.cells scope.names []) s3.heap.objs.size X.env)]))
   (compTurn_list ..) (fun _ _ _ z => z) rfl hc rfl hg hif (zgS hel) T I4 st4 (fun b hb => ?_) h2 (fun τ' H' s' J' q => ?_)
  ·obtain ⟨f0, f1, fs, fe, fc, fp'⟩ := f3 b hb
   refine ⟨f0, Nat.ne_of_lt (lt3 b hb), fun z => ?_, .inl hb, fun x c e => fc x c (zaJ scope.names [] (fun _ _ z => by simp at z) e), fun p hp => absurd (show p ∈ ([] : List (Addr × Obj)) from hp) (by simp)⟩
   rcases lK (I3.zcr b z) with z | z
   ·exact f1 z
   ·exact fs z
  ·obtain ⟨m, hn, _⟩ := J'.loc
   exact ⟨m, hn, fun h' sb => ⟨.ref s2.heap.objs.size, H', zbZ I2 f2 u23 ho (by rw [sz3]; exact Nat.le_succ _) J' sb, rfl, q⟩⟩
 exact codeAny_compStart_list loop (T.self X.A 0 _ _ _ st4 loop)
end
end L2
end
section
namespace L2
open PySem PySem.Spec PyProof.Rows
end L2
end
section
namespace L2
open PySem PySem.W PyProof.Rows
def zcx {α : Type} (lt : Nat → Nat → Bool) (N : Nat) : KasT α → (α → Prop) → Prop
 | .ret a, R => R a
 | .ask i j k, R => i < N ∧ j < N ∧ zcx lt N (k (lt i j)) R
theorem zbA {α β : Type} {lt : Nat → Nat → Bool} {N : Nat} {f : α → KasT β} {R : β → Prop} : ∀ (t : KasT α), zcx lt N t (fun a => zcx lt N (f a) R) → zcx lt N (t.bind f) R
 | .ret _, h => h
 | .ask i j k, ⟨h1, h2, h3⟩ => ⟨h1, h2, zbA (k (lt i j)) h3⟩
theorem zaR {α : Type} {lt : Nat → Nat → Bool} {N : Nat} {R R' : α → Prop} (hr : ∀ a, R a → R' a) : ∀ (t : KasT α), zcx lt N t R → zcx lt N t R'
 | .ret _, h => hr _ h
 | .ask i j k, ⟨h1, h2, h3⟩ => ⟨h1, h2, zaR hr (k (lt i j)) h3⟩
theorem zgT {α : Type} {lt : Nat → Nat → Bool} {N : Nat} {P : Shared → Prop} {cmp : Nat → Nat → (Bool → Shared → Prop) → Shared → Prop} {Q : α → Shared → Prop}
  (hc : ∀ i j C s, i < N → j < N → P s → (∀ s', P s' → C (lt i j) s') → cmp i j C s) : ∀ (t : KasT α) (s : Shared), P s → zcx lt N t (fun a => ∀ s', P s' → Q a s') → t.kasWp cmp Q s
 | .ret _, s, hp, h => h s hp
 | .ask i j k, s, hp, ⟨h1, h2, h3⟩ => hc i j _ s h1 h2 hp fun s' hp' => zgT hc (k (lt i j)) s' hp' h3
structure Ord (lt : Nat → Nat → Bool) : Prop where
 asym : ∀ a b, lt a b = true → lt b a = false
 trans : ∀ a b c, lt b a = false → lt c b = false → lt c a = false
section
variable {lt : Nat → Nat → Bool} {N : Nat}
abbrev gD (p : Array Nat) (i : Nat) : Nat := p.getD i 0
theorem zgg (p : Array Nat) (i : Nat) : gD p i = (p[i]?).getD 0 := by
 unfold gD; simp
def Srt (lt : Nat → Nat → Bool) (p : Array Nat) (m : Nat) : Prop := ∀ i j, i ≤ j → j < m → lt (gD p j) (gD p i) = false
def Dsc (lt : Nat → Nat → Bool) (p : Array Nat) (m : Nat) : Prop := ∀ i j, i ≤ j → j < m → lt (gD p i) (gD p j) = false
def Eqs (lt : Nat → Nat → Bool) (p : Array Nat) (a b : Nat) : Prop := ∀ i j, a ≤ i → i < b → a ≤ j → j < b → lt (gD p i) (gD p j) = false
def Pm (N : Nat) (p : Array Nat) : Prop := p.Perm (List.toArray (List.range N))
theorem Pm.size {p : Array Nat} (h : Pm N p) : p.size = N := by
 have := h.size_eq
 simpa using this
theorem Pm.bd {p : Array Nat} (h : Pm N p) (hN : 0 < N) (i : Nat) : gD p i < N := by
 unfold gD
 by_cases hi : i < p.size
 ·have hm : p[i] ∈ p := Array.getElem_mem hi
  have : p[i] ∈ (List.toArray (List.range N)) := h.mem_iff.mp hm
  have hlt : p[i] < N := by simpa using this
  simpa [Array.getD, hi] using hlt
 ·simpa [Array.getD, hi] using hN
theorem Pm.rev {p : Array Nat} (h : Pm N p) (i j : Nat) : Pm N (kas_rev p i j) := (mirror_perm p i j _).trans h
theorem Pm.bub {p : Array Nat} (h : Pm N p) (i j : Nat) : Pm N (bubble p i j) := (bubble_perm p i j).trans h
theorem zbR {p : Array Nat} {i j : Nat} (hj : j ≤ p.size) (k : Nat) : gD (kas_rev p i j) k = if i ≤ k ∧ k < j then gD p (i + j - 1 - k) else gD p k := by
 rw [zgg, zgg, zgg]
 unfold kas_rev
 rw [getElem?_mirror_all hj]
 split <;> rfl
theorem zeT (O : Ord lt) {p : Array Nat} (hp : Pm N p) (hN : 0 < N) : ∀ (f n : Nat), 1 ≤ n → Srt lt p n → zcx lt N (kas_asc p f n) (fun m => n ≤ m ∧ m ≤ n + f ∧ Srt lt p m ∧ (m < n + f → lt (gD p m) (gD p (m - 1)) = true))
 | 0, n, h1, hs => ⟨Nat.le_refl _, Nat.le_refl _, hs, fun h => absurd h (Nat.lt_irrefl _)⟩
 | f + 1, n, h1, hs => by
  refine ⟨hp.bd hN _, hp.bd hN _, ?_⟩
  cases e : lt (p.getD n 0) (p.getD (n - 1) 0) with
  | true =>
   simp only [if_true]
   exact ⟨Nat.le_refl _, by omega, hs, fun _ => e⟩
  | false =>
   simp only [Bool.false_eq_true, if_false]
   have hs' : Srt lt p (n + 1) := by
    intro i j hij hj
    by_cases hjn : j = n
    ·subst hjn
     by_cases hin : i = j
     ·subst hin
      cases q : lt (gD p i) (gD p i) with
      | false => rfl
      | true => rw [O.asym _ _ q] at q; cases q
     ·exact O.trans _ _ _ (hs i (j - 1) (by omega) (by omega)) e
    ·exact hs i j hij (by omega)
   exact zaR (fun m ⟨a, b, c, d⟩ => ⟨by omega, by omega, c, fun h => d (by omega)⟩) _ (zeT O hp hN f (n + 1) (by omega) hs')
theorem irr (O : Ord lt) (a : Nat) : lt a a = false := by
 cases q : lt a a with
 | false => rfl
 | true => rw [O.asym _ _ q] at q; cases q
theorem eqs_rev (O : Ord lt) {p : Array Nat} {a b : Nat} (hb : b ≤ p.size) (h : Eqs lt p a b) : Eqs lt (kas_rev p a b) a b := by
 intro i j h1 h2 h3 h4
 rw [zbR hb, zbR hb, if_pos ⟨h1, h2⟩, if_pos ⟨h3, h4⟩]
 exact h _ _ (by omega) (by omega) (by omega) (by omega)
theorem zgh (O : Ord lt) {p : Array Nat} {a b : Nat} (hb : b ≤ p.size) (h : Eqs lt p a b) (hd : Dsc lt p b) : Dsc lt (kas_rev p a b) b := by
 intro i j hij hj
 rw [zbR hb, zbR hb]
 by_cases hi : a ≤ i ∧ i < b
 ·rw [if_pos hi, if_pos ⟨by omega, hj⟩]
  exact h _ _ (by omega) (by omega) (by omega) (by omega)
 ·rw [if_neg hi]
  by_cases hj' : a ≤ j ∧ j < b
  ·rw [if_pos hj']
   exact hd _ _ (by omega) (by omega)
  ·rw [if_neg hj']
   exact hd _ _ hij hj
theorem zcM (O : Ord lt) {p : Array Nat} {n : Nat} (h1 : 1 ≤ n) (hd : Dsc lt p n) (e : lt (gD p (n - 1)) (gD p n) = false) : Dsc lt p (n + 1) := by
 intro i j hij hj
 by_cases hjn : j = n
 ·subst hjn
  by_cases hin : i = j
  ·subst hin; exact irr O _
  ·exact O.trans _ _ _ e (hd i (j - 1) (by omega) (by omega))
 ·exact hd i j hij (by omega)
theorem zcN (O : Ord lt) (hN : 0 < N) : ∀ (f : Nat) (p : Array Nat) (n q : Nat), Pm N p → q + 1 ≤ n → n + f ≤ N → Dsc lt p n → Eqs lt p (n - (q + 1)) n →
  zcx lt N (kas_desc f p n q) (fun r => Pm N r.1 ∧ n ≤ r.2.1 ∧ r.2.1 ≤ n + f ∧ r.2.2 + 1 ≤ r.2.1 ∧ Dsc lt r.1 r.2.1 ∧ Eqs lt r.1 (r.2.1 - (r.2.2 + 1)) r.2.1)
 | 0, p, n, q, hp, hq, hn, hd, he => ⟨hp, Nat.le_refl _, Nat.le_refl _, hq, hd, he⟩
 | f + 1, p, n, q, hp, hq, hn, hd, he => by
  have one : ∀ (p : Array Nat) (n : Nat), Eqs lt p (n + 1 - (0 + 1)) (n + 1) := fun p n i j h1 h2 h3 h4 => by
   have e : i = j := by omega
   subst e; exact irr O _
  refine ⟨hp.bd hN _, hp.bd hN _, ?_⟩
  cases e : lt (p.getD n 0) (p.getD (n - 1) 0) with
  | true =>
   simp only [if_true]
   have e' : lt (gD p (n - 1)) (gD p n) = false := O.asym _ _ e
   by_cases hq0 : q > 0
   ·rw [if_pos hq0]
    have hb : n ≤ p.size := by rw [hp.size]; omega
    have hd' := zgh O hb he hd
    refine zaR (fun r ⟨a, b, c, d⟩ => ⟨a, by omega, by omega, d⟩) _ (zcN O hN f _ (n + 1) 0 (hp.rev _ _) (by omega) (by omega) (zcM O (by omega) hd' ?_) (one _ _))
    rw [zbR hb, zbR hb, if_pos ⟨by omega, by omega⟩, if_neg (by omega)]
    exact O.trans _ _ _ e' (he _ _ (by omega) (by omega) (by omega) (by omega))
   ·rw [if_neg hq0]
    exact zaR (fun r ⟨a, b, c, d⟩ => ⟨a, by omega, by omega, d⟩) _ (zcN O hN f _ (n + 1) 0 hp (by omega) (by omega) (zcM O (by omega) hd e') (one _ _))
  | false =>
   simp only [Bool.false_eq_true, if_false]
   refine ⟨hp.bd hN _, hp.bd hN _, ?_⟩
   cases e2 : lt (p.getD (n - 1) 0) (p.getD n 0) with
   | true =>
    simp only [if_true]
    exact ⟨hp, Nat.le_refl _, (show n ≤ n + (f + 1) by omega), hq, hd, he⟩
   | false =>
    simp only [Bool.false_eq_true, if_false]
    refine zaR (fun r ⟨a, b, c, d⟩ => ⟨a, by omega, by omega, d⟩) _ (zcN O hN f _ (n + 1) (q + 1) hp (by omega) (by omega) (zcM O (by omega) hd e2) ?_)
    intro i j h1 h2 h3 h4
    by_cases hi : i = n
    ·by_cases hj : j = n
     ·subst hi; subst hj; exact irr O _
     ·rw [hi]
      exact O.trans _ _ _ (he j (n - 1) (by omega) (by omega) (by omega) (by omega) |> fun z => he (n - 1) j (by omega) (by omega) (by omega) (by omega)) e
    ·by_cases hj : j = n
     ·rw [hj]
      exact O.trans _ _ _ e2 (he i (n - 1) (by omega) (by omega) (by omega) (by omega))
     ·exact he i j (by omega) (by omega) (by omega) (by omega)
theorem zeB (O : Ord lt) (hN : 0 < N) {p : Array Nat} {n : Nat} (hp : Pm N p) (h1 : 1 ≤ n) (hn : n ≤ N) (hd : Dsc lt p n) : zcx lt N (kas_tail3 n N p) (fun r => Pm N r.2 ∧ 1 ≤ r.1 ∧ r.1 ≤ N ∧ Srt lt r.2 r.1) := by
 unfold kas_tail3
 have hb : n ≤ p.size := by rw [hp.size]; exact hn
 have hs : Srt lt (kas_rev p 0 n) n := by
  intro i j hij hj
  rw [zbR hb, zbR hb, if_pos ⟨by omega, hj⟩, if_pos ⟨by omega, by omega⟩]
  exact hd _ _ (by omega) (by omega)
 refine zbA _ (zaR (fun m ⟨a, b, c, d⟩ => ?_) _ (zeT O (hp.rev 0 n) hN (N - n) n h1 hs))
 exact ⟨hp.rev _ _, by show 1 ≤ m; omega, by show m ≤ N; omega, c⟩
theorem zcO (O : Ord lt) (hN : 0 < N) {p : Array Nat} {n : Nat} (hp : Pm N p) (h1 : 1 ≤ n) (hn : n + 1 ≤ N) (hd : Dsc lt p (n + 1)) : zcx lt N (kas_descPart n N p) (fun r => Pm N r.2 ∧ 1 ≤ r.1 ∧ r.1 ≤ N ∧ Srt lt r.2 r.1) := by
 unfold kas_descPart
 have e1 : Eqs lt p (n + 1 - (0 + 1)) (n + 1) := fun i j h1 h2 h3 h4 => by
  have e : i = j := by omega
  subst e; exact irr O _
 refine zbA _ (zaR (fun r hr => ?_) _ (zcN O hN (N - (n + 1)) p (n + 1) 0 hp (by omega) (by omega) hd e1))
 ·obtain ⟨a, b, c, d, e, g⟩ := hr
  have hb : r.2.1 ≤ r.1.size := by rw [a.size]; omega
  by_cases hq : r.2.2 > 0
  ·rw [if_pos hq]
   exact zeB O hN (a.rev _ _) (by omega) (by omega) (zgh O hb g e)
  ·rw [if_neg hq]
   exact zeB O hN a (by omega) (by omega) e
theorem zhu (O : Ord lt) (hN : 0 < N) {p : Array Nat} (hp : Pm N p) : zcx lt N (kas_count N p) (fun r => Pm N r.2 ∧ 1 ≤ r.1 ∧ r.1 ≤ N ∧ Srt lt r.2 r.1) := by
 unfold kas_count
 have s1 : Srt lt p 1 := fun i j hij hj => by
  have e : i = j := by omega
  subst e; exact irr O _
 refine zbA _ (zaR (fun n ⟨a, b, c, d⟩ => ?_) _ (zeT O hp hN (N - 1) 1 (Nat.le_refl _) s1))
 by_cases hn : (n == N) = true
 ·rw [if_pos hn]
  have : n = N := by simpa using hn
  exact ⟨hp, a, by show n ≤ N; omega, c⟩
 ·rw [if_neg hn]
  have hne : n ≠ N := by simpa using hn
  have dl := d (by omega)
  by_cases h1 : n > 1
  ·rw [if_pos h1]
   refine ⟨hp.bd hN _, hp.bd hN _, ?_⟩
   cases e : lt (p.getD 0 0) (p.getD (n - 1) 0) with
   | true =>
    simp only [if_true]
    exact ⟨hp, a, by show n ≤ N; omega, c⟩
   | false =>
    simp only [Bool.false_eq_true, if_false]
    have hb : n ≤ p.size := by rw [hp.size]; omega
    have eqs : Eqs lt p 0 n := fun i j _ h2 _ h4 => by
     refine O.trans _ (gD p (n - 1)) _ (c j (n - 1) (by omega) (by omega)) ?_
     exact O.trans _ (gD p 0) _ e (c 0 i (by omega) h2)
    have hd : Dsc lt p n := fun i j hij hj => eqs i j (by omega) (by omega) (by omega) hj
    refine zcO O hN (hp.rev _ _) a (by omega) (zcM O a (zgh O hb eqs hd) ?_)
    rw [zbR hb, zbR hb, if_pos ⟨by omega, by omega⟩, if_neg (by omega)]
    exact O.trans _ _ _ (O.asym _ _ dl) (eqs _ _ (by omega) (by omega) (by omega) (by omega))
  ·rw [if_neg h1]
   have e1 : n = 1 := by omega
   subst e1
   refine zcO O hN hp (Nat.le_refl _) (by omega) (zcM O (Nat.le_refl _) (fun i j hij hj => ?_) (O.asym _ _ dl))
   have e : i = j := by omega
   subst e; exact irr O _
theorem zc7 (O : Ord lt) (hN : 0 < N) {p : Array Nat} {k : Nat} (hp : Pm N p) (hs : Srt lt p k) : ∀ (f l r : Nat), l ≤ r → r ≤ k → r - l ≤ f → (∀ i, i < l → lt (gD p k) (gD p i) = false) → (∀ i, r ≤ i → i < k → lt (gD p k) (gD p i) = true) →
  zcx lt N (kas_place p k f l r) (fun l' => l' ≤ k ∧ (∀ i, i < l' → lt (gD p k) (gD p i) = false) ∧ ∀ i, l' ≤ i → i < k → lt (gD p k) (gD p i) = true)
 | 0, l, r, h1, h2, h3, a, b => ⟨by omega, a, fun i hi hk => b i (by omega) hk⟩
 | f + 1, l, r, h1, h2, h3, a, b => by
  unfold kas_place
  by_cases h : l ≥ r
  ·rw [if_pos h]
   exact ⟨by omega, a, fun i hi hk => b i (by omega) hk⟩
  ·rw [if_neg h]
   refine ⟨hp.bd hN _, hp.bd hN _, ?_⟩
   cases e : lt (p.getD k 0) (p.getD ((l + r) / 2) 0) with
   | true =>
    simp only [if_true]
    refine zc7 O hN hp hs f l ((l + r) / 2) (by omega) (by omega) (by omega) a fun i hi hk => ?_
    cases q : lt (gD p k) (gD p i) with
    | true => rfl
    | false =>
     have z := O.trans _ _ _ (hs ((l + r) / 2) i hi hk) q
     rw [e] at z; cases z
   | false =>
    simp only [Bool.false_eq_true, if_false]
    refine zc7 O hN hp hs f ((l + r) / 2 + 1) r (by omega) (by omega) (by omega) (fun i hi => ?_) b
    exact O.trans _ _ _ (hs i ((l + r) / 2) (by omega) (by omega)) e
theorem zif {p : Array Nat} {k l : Nat} (hk : k < p.size) (hl : l ≤ k) (i : Nat) : gD (bubble p k (k - l)) i = if i = l then gD p k else if l < i ∧ i ≤ k then gD p (i - 1) else gD p i := by
 rw [zgg, zgg, zgg, zgg, getElem?_bubble hk (k - l) (by omega)]
 have e : k - (k - l) = l := by omega
 rw [e]
 split
 ·rfl
 ·split <;> rfl
theorem zgU (O : Ord lt) (hN : 0 < N) : ∀ (f : Nat) (p : Array Nat) (k : Nat), Pm N p → 1 ≤ k → k + f = N → Srt lt p k → zcx lt N (kas_bin f p k) (fun p' => Pm N p' ∧ Srt lt p' N)
  | 0, p, k, hp, h1, hk, hs => ⟨hp, by have : k = N := by omega
                                       rw [← this]; exact hs⟩
  | f + 1, p, k, hp, h1, hk, hs => by
    unfold kas_bin
    refine zbA _ (zaR (fun l ⟨hl, a, b⟩ => ?_) _ (zc7 O hN hp hs k 0 k (Nat.zero_le _) (Nat.le_refl _) (by omega) (fun i hi => absurd hi (Nat.not_lt_zero _)) fun i hi hk => absurd hk (by omega)))
    refine zgU O hN f _ (k + 1) (hp.bub _ _) (by omega) (by omega) ?_
    have hks : k < p.size := by rw [hp.size]; omega
    intro i j hij hj
    rw [zif hks hl, zif hks hl]
    by_cases hjl : j = l
    · rw [if_pos hjl]
      by_cases hil : i = l
      · rw [if_pos hil]; exact irr O _
      · rw [if_neg hil, if_neg (by omega)]
        exact a i (by omega)
    · rw [if_neg hjl]
      by_cases hj2 : l < j ∧ j ≤ k
      · rw [if_pos hj2]
        by_cases hil : i = l
        · rw [if_pos hil]
          exact O.asym _ _ (b (j - 1) (by omega) (by omega))
        · rw [if_neg hil]
          by_cases hi2 : l < i ∧ i ≤ k
          · rw [if_pos hi2]
            exact hs _ _ (by omega) (by omega)
          · rw [if_neg hi2]
            exact hs _ _ (by omega) (by omega)
      · rw [if_neg hj2, if_neg (by omega), if_neg (by omega)]
        exact hs _ _ (by omega) (by omega)
theorem zig (O : Ord lt) (hN : 0 < N) : zcx lt N (kas_sort N) (fun p => Pm N p ∧ Srt lt p N) := by
 unfold kas_sort
 refine zbA _ (zaR (fun r ⟨a, b, c, d⟩ => ?_) _ (zhu O hN (Array.Perm.refl _)))
 by_cases h : r.1 < N
 ·rw [if_pos h]
  have e : max r.1 1 = r.1 := by omega
  rw [e]
  exact zgU O hN _ _ _ a b (by omega) d
 ·rw [if_neg h]
  have e : r.1 = N := by omega
  exact ⟨a, by rw [← e]; exact d⟩
end
end L2
end
section
namespace L2
open PySem PySem.W PyProof.Rows PySem.Calls
section
variable {prog : Program} {w : World} {A : Around} {E : Value → Shared → Prop} {s : Shared}
def zcP (vs : List Value) (p : Array Nat) : List Value := p.toList.map fun i => vs.getD i Value.none
theorem zcQ {a : Addr} {vs : List Value} {n : Nat} {lt : Nat → Nat → Bool} {P : PySem.Fin → Shared → Prop} (O : Ord lt) (ho : s.heap.get? a = some (seqObj "list" vs.toArray n)) (h64 : vs.length < 64)
  (hk : 2 ≤ vs.length → ∀ h' : Heap, (∀ b o, b ≠ a → s.heap.get? b = some o → h'.get? b = some o) → ∃ κ, (∀ Q : SortKind → Shared → Prop, Q κ { s with heap := h' } → wpAny (model prog w) A (keyKind' vs.toArray) Q (fun _ _ => False) { s with heap := h' }) ∧
   ∀ i j, i < vs.length → j < vs.length → ∀ C : Bool → Shared → Prop, C (lt i j) { s with heap := h' } → wpAny (model prog w) A (keyLt' κ (vs.getD i Value.none) (vs.getD j Value.none)) C (fun _ _ => False) { s with heap := h' })
  (h : ∀ p : Array Nat, Pm vs.length p → Srt lt p vs.length → P (.done (.ret .none)) { s with heap := sortedHeap s.heap a vs (zcP vs p).toArray }) :
  wpAny (model prog w) A (Builtin.«list.sort» ⟨[.ref a], []⟩) P E s := by
 have ha : a < s.heap.objs.size := Heap.lt_size ho
 obtain ⟨e1, ho1⟩ : ∃ e1, (s.heap.update a (Obj.mapSeq fun _ => (#[] : Array Value))).get? a = some (seqObj "list" #[] e1) := ⟨_, get?_update_seq ho fun _ => #[]⟩
 rw [list_sort_plain]
 refine wpAny_bind (listItems_at ho rfl ?_)
 refine wpAny_bind (listUpdate_at ho rfl ?_ (by rw [List.size_toArray, sizeLine_eq]; omega) (Nat.zero_le _))
 refine wpAny_bind (seqEpoch_at ho1 rfl ?_)
 refine wpAny_bind (wpAny_newTuple ?_ (by show vs.length ≤ _; rw [sizeLine_eq]; omega))
 refine wpAny_bind (wpAny_newList ?_ (Nat.zero_le _))
 refine wpAny_holding ?_
 have ho6 : (((s.heap.update a (Obj.mapSeq fun _ => #[])).push (seqObj "tuple" vs.toArray 0)).push (seqObj "list" #[] 0)).get? a = some (seqObj "list" #[] e1) := by
  rw [Heap.get?_push_ne _ _ _ (by rw [size_push', Heap.size_update]; exact Nat.ne_of_lt (Nat.lt_succ_of_lt ha)), Heap.get?_push_ne _ _ _ (by rw [Heap.size_update]; exact Nat.ne_of_lt ha)]
  exact ho1
 show wpAny (model prog w) A _ P E { s with heap := ((s.heap.update a (Obj.mapSeq fun _ => (#[] : Array Value))).push (seqObj "tuple" vs.toArray 0)).push (seqObj "list" #[] 0) }
 dsimp only
 by_cases h2 : vs.toArray.size < 2
 ·rw [if_pos h2, if_pos h2]
  refine wpAny_bind (wpAny_pure ?_)
  rw [StateT.run_pure]
  refine wpAny_bind (wpAny_pure ?_)
  dsimp only
  refine wpAny_bind (seqEpoch_at ho6 rfl ?_)
  have hsmall : vs.length < 2 := by simpa using h2
  refine wpAny_bind (listUpdate_at ho6 rfl ?_ (hsz2 := by rw [Array.size_map]; show (pairsOf vs).size ≤ _; rw [pairsOf_size, sizeLine_eq]; omega))
  simp only [bne_self_eq_false, Bool.false_eq_true, if_false]
  have hp : Pm vs.length (List.toArray (List.range vs.length)) := Array.Perm.refl _
  have hs : Srt lt (List.toArray (List.range vs.length)) vs.length := fun i j hij hj => by
   have e : i = j := by omega
   subst e; exact irr O _
  have z := h _ hp hs
  have eo : ((arrOf (SortSt.mk' general' (vs.toArray.zip vs.toArray) #[] 7 none)).map (·.2)) = (zcP vs (List.toArray (List.range vs.length))).toArray := by
   have e1 : zcP vs (List.toArray (List.range vs.length)) = vs := by
    unfold zcP
    apply List.ext_getElem?
    intro i
    rw [List.getElem?_map]
    by_cases hi : i < vs.length
    ·simp [List.getElem?_range hi, hi]
    ·simp [List.getElem?_eq_none, hi, Nat.le_of_not_lt hi]
   rw [e1]
   show (vs.toArray.zip vs.toArray).map (·.2) = vs.toArray
   apply Array.toList_inj.mp
   simp [List.map_snd_zip]
  refine wpAny_pure ?_
  rw [← eo] at z
  exact z
 ·rw [if_neg h2, if_neg h2]
  have h2' : 2 ≤ vs.length := by
   have : ¬ vs.length < 2 := by simpa using h2
   omega
  have keep : ∀ b o, b ≠ a → s.heap.get? b = some o → (((s.heap.update a (Obj.mapSeq fun _ => (#[] : Array Value))).push (seqObj "tuple" vs.toArray 0)).push (seqObj "list" #[] 0)).get? b = some o := fun b o hb e =>
   Heap.get?_push_of_some _ (Heap.get?_push_of_some _ ((Heap.get?_update_other s.heap _ (Ne.symm hb)).trans e))
  obtain ⟨κ, hkk, hlt⟩ := hk h2' _ keep
  refine wpAny_bind (wpAny_mono (hkk _ ?_) (fun κ s0 hk => hk) fun _ _ x => x.elim)
  have tree : (kas_sort vs.length).kasWp (kas_ask prog w A κ vs) (fun p s' => s' = { s with heap := ((s.heap.update a (Obj.mapSeq fun _ => (#[] : Array Value))).push (seqObj "tuple" vs.toArray 0)).push (seqObj "list" #[] 0) } ∧ Pm vs.length p ∧ Srt lt p vs.length)
    { s with heap := ((s.heap.update a (Obj.mapSeq fun _ => (#[] : Array Value))).push (seqObj "tuple" vs.toArray 0)).push (seqObj "list" #[] 0) } := by
   refine zgT (N := vs.length) (lt := lt) (P := fun s' => s' = { s with heap := ((s.heap.update a (Obj.mapSeq fun _ => (#[] : Array Value))).push (seqObj "tuple" vs.toArray 0)).push (seqObj "list" #[] 0) }) ?_ _ _ rfl (zaR (fun p hp s' hs' => ⟨hs', hp.1, hp.2⟩) _ (zig O (by omega)))
   intro i j C s' hi hj hs' hC
   subst hs'
   exact hlt i j hi hj C (hC _ rfl)
  refine wpAny_bind (wpAny_mono (kat_run (Q := fun st' s' => ∃ p : Array Nat, p.size = vs.length ∧ arrOf st' = p.map (kas_item (vs.toArray.zip vs.toArray)) ∧ failedOf st' = none ∧
    (s' = { s with heap := ((s.heap.update a (Obj.mapSeq fun _ => (#[] : Array Value))).push (seqObj "tuple" vs.toArray 0)).push (seqObj "list" #[] 0) } ∧ Pm vs.length p ∧ Srt lt p vs.length))
   rfl h2' h64 (fun p' st' s' a1 a2 a3 a4 => ⟨p', a1, a2, a3, a4⟩) tree) ?_ fun _ _ e => e)
  rintro ⟨⟨⟩, st'⟩ s' ⟨p, hp, har, hf, hs', hpm, hsr⟩
  subst hs'
  dsimp only
  have hout := kat_snds rfl har
  rw [hout]
  refine wpAny_bind (seqEpoch_at ho6 rfl ?_)
  refine wpAny_bind (listUpdate_at ho6 rfl ?_ (hsz2 := by rw [List.size_toArray, List.length_map, Array.length_toList, hp, sizeLine_eq]; omega))
  rw [hf]
  simp only [bne_self_eq_false, Bool.false_eq_true, if_false]
  exact wpAny_pure (h p hpm hsr)
theorem zhv {l : Addr} {vs : List Value} {lt : Nat → Nat → Bool} {Q : Value → Shared → Prop} (O : Ord lt) (hl : s.heap.IsList l vs.toArray) (h64 : vs.length < 64)
  (hk : 2 ≤ vs.length → ∀ (A' : Around), A'.units ≤ A.units + 2 → ∀ h' : Heap, (∀ b o, s.heap.get? b = some o → h'.get? b = some o) → ∃ κ, (∀ Q : SortKind → Shared → Prop, Q κ { s with heap := h' } → wpAny (model prog w) A' (keyKind' vs.toArray) Q (fun _ _ => False) { s with heap := h' }) ∧
   ∀ i j, i < vs.length → j < vs.length → ∀ C : Bool → Shared → Prop, C (lt i j) { s with heap := h' } → wpAny (model prog w) A' (keyLt' κ (vs.getD i Value.none) (vs.getD j Value.none)) C (fun _ _ => False) { s with heap := h' })
  (h : ∀ p : Array Nat, Pm vs.length p → Srt lt p vs.length → Q (.ref (s.heap.objs.size + 1)) { s with heap := sortedAll s.heap vs (zcP vs p).toArray }) :
  wpAny (model prog w) A (call (.builtin "sorted") [.ref l]) Q E s := by
 refine Calls.call_function_entry kind_sorted plain_sorted entry_sorted (args_sorted1 _) ?_
 unfold Builtin.«sorted»
 refine wpAny_bind (m := checkCount "sorted" 1 1 _) (wpAny_pure ?_)
 refine wpAny_bind (collect_list hl ?_ (by rw [sizeLine_eq]; omega))
 refine wpAny_bind (wpAny_newList ?_ (by rw [sizeLine_eq]; omega))
 have hsz : ((s.heap.push (seqObj "list" #[] 0)).update s.heap.objs.size (Obj.mapSeq (· ++ vs.toArray))).objs.size = s.heap.objs.size + 1 := by
  rw [Heap.size_update, size_push']
 have hoL : (((s.heap.push (seqObj "list" #[] 0)).update s.heap.objs.size (Obj.mapSeq (· ++ vs.toArray))).push (seqObj "list" vs.toArray 0)).get? (s.heap.objs.size + 1) = some (seqObj "list" vs.toArray 0) := by
  rw [← hsz]; exact Heap.get?_push_size _ rfl
 have keep : ∀ b o, s.heap.get? b = some o → b ≠ s.heap.objs.size + 1 ∧ (((s.heap.push (seqObj "list" #[] 0)).update s.heap.objs.size (Obj.mapSeq (· ++ vs.toArray))).push (seqObj "list" vs.toArray 0)).get? b = some o := fun b o q => by
  have hlt : b < s.heap.objs.size := Heap.lt_size q
  refine ⟨Nat.ne_of_lt (Nat.lt_succ_of_lt hlt), ?_⟩
  rw [Heap.get?_push_ne _ _ _ (by rw [hsz]; exact Nat.ne_of_lt (Nat.lt_succ_of_lt hlt)), Heap.get?_update_ne _ _ _ _ (Nat.ne_of_lt hlt), Heap.get?_push_ne _ _ _ (Nat.ne_of_lt hlt)]
  exact q
 show wpAny _ _ _ _ _ { s with heap := ((s.heap.push (seqObj "list" #[] 0)).update s.heap.objs.size (Obj.mapSeq (· ++ vs.toArray))).push (seqObj "list" vs.toArray 0) }
 rw [hsz]
 refine wpAny_bind (wpAny_holding (wpAny_call_entry slot_list_sort ⟨_, hoL, rfl⟩ entry_list_sort ?body (args_list_sort _)))
 case body =>
  refine zcQ O hoL h64 (fun h2 h' kp => hk h2 _ ?_ h' fun b o e => kp b o (keep b o e).1 (keep b o e).2) fun p a1 a2 => ⟨_, rfl, wpAny_pure ⟨_, rfl, h p a1 a2⟩⟩
  show A.units + 1 + 1 ≤ A.units + 2
  omega
end
end L2
end
section
namespace L2
open PySem PySem.W PyProof.Rows PySem.Calls
theorem zcn : ∀ (a b : List Int), HT.lexLt a b = true → HT.lexLt b a = false
 | [], [], h => by cases h
 | [], _ :: _, _ => rfl
 | _ :: _, [], h => by cases h
 | x :: xs, y :: ys, h => by
  rw [HT.za8] at h ⊢
  by_cases e : x = y
  ·subst e
   rw [if_pos rfl] at h ⊢
   exact zcn xs ys h
  ·rw [if_neg e] at h
   rw [if_neg (Ne.symm e)]
   have : x < y := by simpa using h
   exact decide_eq_false (by omega)
theorem zb0 : ∀ (a b c : List Int), HT.lexLt b a = false → HT.lexLt c b = false → HT.lexLt c a = false
 | [], [], [], _, _ => rfl
 | [], [], _ :: _, _, _ => rfl
 | [], _ :: _, [], _, h => by cases h
 | [], _ :: _, _ :: _, _, _ => rfl
 | _ :: _, [], _, h, _ => by cases h
 | _ :: _, _ :: _, [], _, h => by cases h
 | x :: xs, y :: ys, z :: zs, h1, h2 => by
  rw [HT.za8] at h1 h2 ⊢
  by_cases e1 : y = x
  ·subst e1
   rw [if_pos rfl] at h1
   by_cases e2 : z = y
   ·subst e2
    rw [if_pos rfl] at h2 ⊢
    exact zb0 xs ys zs h1 h2
   ·rw [if_neg e2] at h2 ⊢
    exact h2
  ·rw [if_neg e1] at h1
   have l1 : ¬ y < x := by simpa using h1
   by_cases e2 : z = y
   ·subst e2
    rw [if_neg e1]
    exact decide_eq_false l1
   ·rw [if_neg e2] at h2
    have l2 : ¬ z < y := by simpa using h2
    rw [if_neg (by omega)]
    exact decide_eq_false (by omega)
theorem lexOrd (ks : List (List Int)) : Ord (fun i j => HT.lexLt (ks.getD i []) (ks.getD j [])) := ⟨fun a b => zcn _ _, fun a b c => zb0 _ _ _⟩
def TIs (K : PySem.W.Frag) (H : Hp) (ys : List V) (ks : List (List Int)) : Prop := Paired (fun (v : V) (t : List Int) => ∃ a, v = .ref a ∧ SqT K H a (t.map V.int)) ys ks
theorem Paired.getD {α β : Type} {F : α → β → Prop} {d : α} {d' : β} : ∀ {xs : List α} {ys : List β}, Paired F xs ys → ∀ i, i < xs.length → F (xs.getD i d) (ys.getD i d')
 | _, _, .nil, i, h => absurd h (Nat.not_lt_zero _)
 | _, _, .cons r _, 0, _ => r
 | _, _, .cons _ t, i + 1, h => by
  have := Paired.getD (d := d) (d' := d') t i (by simpa using h)
  simpa using this
theorem zcy {prog : Program} {w : World} {A : Around} {b : Bool} {Q : Bool → Shared → Prop} {s : Shared} : ∀ (xs ys : List Value) (as bs : List Int) (i : Nat), zaW (as.map V.int) xs → zaW (bs.map V.int) ys →
  Q (HT.lexLt as bs) s → ∀ fin, (∀ (n : Nat), fin = decide (n + xs.length < n + ys.length) → True) → (fin = decide (xs.length < ys.length)) → KatLex prog w A b fin Q (xs.zip ys) i s
 | [], ys, as, bs, i, h1, h2, q, fin, _, hf => by
  have e : as = [] := by
   have := h1.length
   simpa using this
  subst e
  show Q fin s
  cases bs with
  | nil =>
   cases h2
   rw [hf]; exact q
  | cons y bs =>
   cases h2 with
   | cons _ t =>
    have q : Q true s := q
    rw [hf]; simpa using q
 | x :: xs, [], as, bs, i, h1, h2, q, fin, _, hf => by
  have e : bs = [] := by
   have := h2.length
   simpa using this
  subst e
  cases as with
  | nil => cases h1
  | cons a as =>
   show Q fin s
   have q : Q false s := q
   rw [hf]
   simpa using q
 | x :: xs, y :: ys, as, bs, i, h1, h2, q, fin, _, hf => by
  cases as with
  | nil => cases h1
  | cons a as =>
   cases bs with
   | nil => cases h2
   | cons c bs =>
    cases h1 with
    | cons r1 t1 =>
     cases h2 with
     | cons r2 t2 =>
      obtain ⟨t, rfl⟩ := r1
      obtain ⟨u, rfl⟩ := r2
      refine kat_cons (wpAny_eqBool_int ?_)
      rw [HT.za8] at q
      by_cases e : a = c
      ·subst e
       rw [show (a == a) = true by simp]
       rw [if_pos rfl] at q
       exact kat_yes (zcy xs ys as bs (i + 1) t1 t2 q fin (fun _ _ => True.intro) (by rw [hf]; simp))
      ·rw [show (a == c) = false by simpa using e]
       rw [if_neg e] at q
       refine kat_no ?_
       cases hb : (b && i == 0) with
       | true => exact oneLt_int q
       | false => exact kat_one _ _ (lt_int q)
section
variable {X : Cx}
theorem zdD : za3 X (.builtin "sorted") (fun xs H Q => ∃ p ns, xs = [.ref p] ∧ SqL X.K H p (ns.map V.int) ∧ ns.length < 64 ∧ ∀ (ns' : List Int) l, ns'.Perm ns → ns'.Pairwise (· ≤ ·) → H l = none → Q (.ref l) (upd H l (.lst (ns'.map V.int)))) := by
 intro pins s σ H xs us Q I r h
 obtain ⟨p, ns, rfl, hq, h64, q⟩ := h
 obtain ⟨u, rfl, rx⟩ := vals1 r
 cases rx
 obtain ⟨its, rv, pl, hz⟩ := I.list hq
 have hI : IntsAre its ns := by
  clear pl hz h64 q hq
  induction ns generalizing its with
  | nil => cases rv; exact .nil
  | cons n ns ih =>
   cases rv with
   | cons r1 t1 =>
    obtain ⟨t, rfl⟩ := r1
    exact .cons n t (ih _ t1)
 have hl := rv.length
 rw [List.length_map] at hl
 refine sorted_ints pl.isList hI (by omega) fun out ns' ho hp hs => ?_
 obtain ⟨e, he⟩ := sortedAll_at s.heap its out
 have hv : zaW (ns'.map V.int) out.toList := by
  clear he hp hs
  generalize out.toList = os at ho
  induction ho with
  | nil => exact .nil
  | cons n t _ ih => exact .cons ⟨_, rfl⟩ ih
 have hlen : (ns'.map V.int).length ≤ sizeLine := by
  rw [List.length_map, hp.length_eq, sizeLine_eq]; omega
 refine ⟨.ref (s.heap.objs.size + 1), _, I.laid (t' := s.toks) (a := s.heap.objs.size + 1) (o := .lst (ns'.map V.int)) (fun b u e => sortedAll_old e) (Nat.le_succ _) ?_, rfl, q ns' _ hp hs (I.hok.fresh (Nat.le_succ _))⟩
 refine ⟨hlen, out.toList, e, hv, ?_⟩
 rw [he]
 all_goals simp [seqObj]
theorem zcz {pins : List (Addr × Obj)} {σ : St} {H : Hp} {s : Shared} {h' : Heap} (I : Inv X pins σ H s) (kp : ∀ b o, s.heap.get? b = some o → h'.get? b = some o) : ∀ {ys : List V} {ks : List (List Int)} {its : List Value}, TIs X.K H ys ks → zaW ys its → (∀ t ∈ ks, t ≠ []) →
  ∃ fs, KatTups h' its fs ∧ fs.length = its.length ∧ ∀ v ∈ fs, ∃ i t, v = Value.int i t
 | _, _, _, .nil, .nil, _ => ⟨[], .nil, rfl, fun _ h => nomatch h⟩
 | _, _, _, .cons (b := t) ⟨a, e, hq⟩ r, .cons (b := u) ru rr, hne => by
  subst e
  cases ru
  obtain ⟨fs, h1, h2, h3⟩ := zcz I kp r rr fun t ht => hne t (lO _ ht)
  obtain ⟨its', rv, ⟨o, ho, hc, n, hd⟩, _⟩ := I.tuple hq
  cases t with
  | nil => exact absurd rfl (hne [] lS)
  | cons i t =>
   cases rv with
   | cons r1 t1 =>
    obtain ⟨tk, rfl⟩ := r1
    refine ⟨.int i tk :: fs, .cons (kp _ _ ho) hc hd rfl h1, by simp [h2], fun v hv => ?_⟩
    rcases lK hv with e | hv
    ·exact ⟨i, tk, e⟩
    ·exact h3 v hv
theorem zcR {α β : Type} {p : Array Nat} {zs : List α} {d : α} (h : Pm zs.length p) : (p.toList.map fun i => zs.getD i d).Perm zs := by
 have h1 : p.toList.Perm (List.range zs.length) := Array.perm_iff_toList_perm.mp h
 have h2 : (p.toList.map fun i => zs.getD i d).Perm ((List.range zs.length).map fun i => zs.getD i d) := h1.map _
 have h3 : ((List.range zs.length).map fun i => zs.getD i d) = zs := by
  apply List.ext_getElem?
  intro i
  rw [List.getElem?_map]
  by_cases hi : i < zs.length
  ·rw [List.getElem?_range hi]
   simp [hi]
  ·rw [List.getElem?_eq_none (by simpa using hi), List.getElem?_eq_none (by simpa using hi)]
   rfl
 rw [h3] at h2
 exact h2
theorem zcS {α β : Type} {d : α} {d' : β} : ∀ {xs : List α} {ys : List β} (i : Nat), xs.length = ys.length → (xs.zip ys).getD i (d, d') = (xs.getD i d, ys.getD i d')
 | [], [], i, _ => by simp
 | x :: xs, y :: ys, 0, _ => rfl
 | x :: xs, y :: ys, i + 1, h => by
  have := zcS (d := d) (d' := d') (xs := xs) (ys := ys) i (by simpa using h)
  simpa using this
 | [], _ :: _, _, h => by simp at h
 | _ :: _, [], _, h => by simp at h
theorem zdE : za3 X (.builtin "sorted") (fun xs H Q => ∃ p ys ks, xs = [.ref p] ∧ SqL X.K H p ys ∧ TIs X.K H ys ks ∧ (∀ t ∈ ks, t ≠ []) ∧ ys.length < 64 ∧
  ∀ (zs : List (V × List Int)) l, zs.Perm (ys.zip ks) → (zs.map (·.2)).Pairwise (fun a b => HT.lexLt b a = false) → H l = none → Q (.ref l) (upd H l (.lst (zs.map (·.1))))) := by
 intro pins s σ H xs us Q I r h
 obtain ⟨p, ys, ks, rfl, hq, ht, hne, h64, q⟩ := h
 obtain ⟨u, rfl, rx⟩ := vals1 r
 cases rx
 obtain ⟨its, rv, pl, hz⟩ := I.list hq
 have hl := rv.length
 have hk : ys.length = ks.length := Paired.length ht
 refine zhv (lexOrd ks) pl.isList (by omega) (fun h2 A' _ h' kp => ⟨tuples' true, fun Q' hq' => ?_, fun i j hi hj C hC => ?_⟩) fun pm hpm hsr => ?_
 ·obtain ⟨fs, h1, h2', h3⟩ := zcz I kp ht rv hne
  refine kat_kind (s := { s with heap := h' }) (T := .type "int") h1 (by omega) (fun v hv => ?_) rfl hq'
  obtain ⟨i, t, rfl⟩ := h3 v hv
  exact Looks.now
 ·have hiy : i < ys.length := by omega
  have hjy : j < ys.length := by omega
  obtain ⟨a, ea, qa⟩ := Paired.getD (d := V.non) (d' := []) ht i hiy
  obtain ⟨b, eb, qb⟩ := Paired.getD (d := V.non) (d' := []) ht j hjy
  have ra := Paired.getD (d := V.non) (d' := Value.none) rv i hiy
  have rb := Paired.getD (d := V.non) (d' := Value.none) rv j hjy
  rw [ea] at ra
  rw [eb] at rb
  have ra : its.getD i Value.none = .ref a := ra
  have rb : its.getD j Value.none = .ref b := rb
  rw [ra, rb]
  obtain ⟨ia, va, ⟨oa, ha, _, na, da⟩, _⟩ := I.tuple qa
  obtain ⟨ib, vb, ⟨ob, hb, _, nb, db⟩, _⟩ := I.tuple qb
  refine kat_lt (s := { s with heap := h' }) (kp _ _ ha) da (kp _ _ hb) db ?_
  refine zcy ia ib _ _ 0 va vb hC _ (fun _ _ => True.intro) ?_
  simp
 ·have hlen : its.length = ys.length := hl.symm
  have hzl : (ys.zip ks).length = its.length := by rw [List.length_zip]; omega
  let zs : List (V × List Int) := pm.toList.map fun i => (ys.zip ks).getD i (V.non, [])
  have hzp : zs.Perm (ys.zip ks) := zcR (β := Nat) (by rw [hzl]; exact hpm)
  have e1 : zs.map (·.1) = pm.toList.map fun i => ys.getD i V.non := by
   show List.map _ (List.map _ _) = _
   rw [List.map_map]
   exact List.map_congr_left fun i _ => by show ((ys.zip ks).getD i (V.non, [])).1 = _; rw [zcS i hk]
  have e2 : zs.map (·.2) = pm.toList.map fun i => ks.getD i [] := by
   show List.map _ (List.map _ _) = _
   rw [List.map_map]
   exact List.map_congr_left fun i _ => by show ((ys.zip ks).getD i (V.non, [])).2 = _; rw [zcS i hk]
  have hpw : (zs.map (·.2)).Pairwise (fun a b => HT.lexLt b a = false) := by
   rw [e2, List.pairwise_map, List.pairwise_iff_getElem]
   intro i j hi hj hij
   have sz : pm.toList.length = its.length := by rw [Array.length_toList]; exact hpm.size
   have z := hsr i j (by omega) (by omega)
   have gi : gD pm i = pm.toList[i] := by unfold gD; simp [Array.getD, show i < pm.size by simpa using hi]
   have gj : gD pm j = pm.toList[j] := by unfold gD; simp [Array.getD, show j < pm.size by simpa using hj]
   rw [gi, gj] at z
   exact z
  obtain ⟨e, he⟩ := sortedAll_at s.heap its (zcP its pm).toArray
  have hv : zaW (zs.map (·.1)) (zcP its pm) := by
   rw [e1]
   unfold zcP
   have hb : ∀ i ∈ pm.toList, i < ys.length := fun i hi => by
    have h1 : pm.toList.Perm (List.range its.length) := Array.perm_iff_toList_perm.mp hpm
    have := h1.mem_iff.mp hi
    have : i < its.length := by simpa using this
    omega
   clear he hpw e1 e2 hzp hsr hpm
   generalize pm.toList = ix at hb
   clear zs
   induction ix with
   | nil => exact .nil
   | cons i ix ih => exact .cons (Paired.getD (d := V.non) (d' := Value.none) rv i (hb i lS)) (ih fun j hj => hb j (lO _ hj))
  refine ⟨.ref (s.heap.objs.size + 1), _, I.laid (t' := s.toks) (a := s.heap.objs.size + 1) (o := .lst (zs.map (·.1))) (fun b u e => sortedAll_old e) (Nat.le_succ _) ?_, rfl, q zs _ hzp hpw (I.hok.fresh (Nat.le_succ _))⟩
  refine ⟨?_, zcP its pm, e, hv, he⟩
  rw [List.length_map, hzp.length_eq, hzl, sizeLine_eq]
  omega
end
end L2
end
section
namespace L2
open PySem PySem.Spec PyProof.Rows
section
variable {prog : Program} {w : World} {A : Around} {E : Value → Shared → Prop} {s : Shared}
theorem zc8 {j t : Addr} {k : Nat} {its : Array Value} {v : Value} {Q : Value → Shared → Prop} (hj : s.heap.IsTupleIter j t k) (ht : s.heap.IsTuple t its) (hv : its[k]? = some v)
  (h : ∀ g, g.IsTupleIter j t (k + 1) → Heap.SameBut j s.heap g → Q v { s with heap := g }) : wpAny (model prog w) A (Builtin.SmallTypes.nextOf (.ref j)) Q E s := by
 obtain ⟨oj, ej, cj, dj⟩ := id hj
 obtain ⟨ot, et, _, nt, dt⟩ := ht
 unfold Builtin.SmallTypes.nextOf
 refine wpAny_bind (wpAny_callSpecial?_slot (name := Str.ofString "__next__") hj.typeIs F.slot_tuple_iterator_next (wpAny_call_entry F.slot_tuple_iterator_next hj.typeIs F.entry_tuple_iterator_next ?body (F.args_tuple_iterator_next_1 _)))
 case body =>
  show wpAny _ _ (field (.ref j) 0 >>= _) _ _ s
  refine wpAny_bind (wpAny_field ej dj (x := .ref t) rfl ?a)
  case a =>
   show wpAny _ _ (if (Value.ref t == Value.none) = true then _ else _) _ _ s
   rw [if_neg (by intro z; exact Bool.false_ne_true z)]
   show wpAny _ _ (field (.ref j) 1 >>= _) _ _ s
   refine wpAny_bind (wpAny_field ej dj (x := .int k 0) rfl ?b)
   case b =>
    show wpAny _ _ (seqItems? (.ref t) >>= _) _ _ s
    refine wpAny_bind (wpAny_seqItems et dt ?c)
    case c =>
     simp only [Int.toNat_natCast, hv]
     refine wpAny_bind (wpAny_setField ej dj (by simp) (wpAny_pure ⟨v, rfl, wpAny_pure (h _ ⟨_, Heap.get?_update_self _ ej (Obj.isFreed_of_fields (Obj.data_mapFields dj _)), (Obj.cls_mapFields ..).trans cj, ?d⟩ (Heap.SameBut.update ..))⟩))
     rw [Obj.data_mapFields dj]
     simp [rawInt]
theorem zgV {j t : Addr} {k : Nat} {its : Array Value} {Q : Value → Shared → Prop} (hh : A.handled = none) (hj : s.heap.IsTupleIter j t k) (ht : s.heap.IsTuple t its) (hv : its[k]? = none)
  (h : ∀ g x, Heap.ExtBut j s.heap g → (∃ o, g.get? x = some o ∧ o.cls = .type "StopIteration") → E (.ref x) { s with heap := g }) : wpAny (model prog w) A (Builtin.SmallTypes.nextOf (.ref j)) Q E s := by
 obtain ⟨oj, ej, cj, dj⟩ := id hj
 obtain ⟨ot, et, _, nt, dt⟩ := ht
 unfold Builtin.SmallTypes.nextOf
 refine wpAny_bind (wpAny_callSpecial?_slot (name := Str.ofString "__next__") hj.typeIs F.slot_tuple_iterator_next (wpAny_call_entry F.slot_tuple_iterator_next hj.typeIs F.entry_tuple_iterator_next ?body (F.args_tuple_iterator_next_1 _)))
 case body =>
  show wpAny _ _ (field (.ref j) 0 >>= _) _ _ s
  refine wpAny_bind (wpAny_field ej dj (x := .ref t) rfl ?a)
  case a =>
   show wpAny _ _ (if (Value.ref t == Value.none) = true then _ else _) _ _ s
   rw [if_neg (by intro z; exact Bool.false_ne_true z)]
   show wpAny _ _ (field (.ref j) 1 >>= _) _ _ s
   refine wpAny_bind (wpAny_field ej dj (x := .int k 0) rfl ?b)
   case b =>
    show wpAny _ _ (seqItems? (.ref t) >>= _) _ _ s
    refine wpAny_bind (wpAny_seqItems et dt ?c)
    case c =>
     simp only [Int.toNat_natCast, hv]
     refine wpAny_bind (wpAny_rule (wpAny_bind (wpAny_setField ej dj (by simp) ?d)))
     case d =>
      show wpAny _ _ (newExc (.type "StopIteration") [] >>= _) _ _ _
      refine wpAny_bind ?f
      simp only [newExc, newTuple]
      refine wpAny_bind (wpAny_newObj_type ?g (by size_fits))
      case g =>
       refine wpAny_bind (m := firstArgMember _ _) (wpAny_of_eq (a := Value.none) (by first | rfl | (simp only [firstArgMember]; rfl)) ?k)
       case k =>
        refine wpAny_newObj_type ?l (by size_fits)
        simp only [raiseNew]
        refine wpAny_bind (wpAny_handled ?m)
        first | rw [show A.in1.handled = none from hh] | rw [hh]
        refine wpAny_bind (wpAny_pure (wpAny_throw (h _ _ (((Heap.SameBut.update ..).extBut.push _).push _) ⟨_, Heap.get?_push_size _ rfl, rfl⟩)))
structure ZS (g : Heap) (z p q i j a b : Addr) (k : Nat) : Prop where
 zr : IsZip g z p q .none
 ins : IsPair g p (.ref i) (.ref j)
 out : ∃ u v, IsPair g q u v
 one : g.IsTupleIter i a k
 two : g.IsTupleIter j b k
theorem ZS.keep {g g' : Heap} {z p q i j a b : Addr} {k : Nat} (x : ZS g z p q i j a b k) (h : ∀ c ∈ [z, p, q, i, j], ∀ o, g.get? c = some o → g'.get? c = some o) : ZS g' z p q i j a b k :=
 ⟨h z (by simp) _ x.zr, h p (by simp) _ x.ins, let ⟨u, v, e⟩ := x.out; ⟨u, v, h q (by simp) _ e⟩, x.one.at fun o e => h i (by simp) o e, x.two.at fun o e => h j (by simp) o e⟩
theorem zko {z p q i j a b : Addr} {k : Nat} {xs ys : Array Value} {x y : Value} {Q : Option Value → Shared → Prop} (D : ZipApart z p q i j a b) (Z : ZS s.heap z p q i j a b k) (ha : s.heap.IsTuple a xs) (hb : s.heap.IsTuple b ys) (hx : xs[k]? = some x) (hy : ys[k]? = some y)
  (h : ∀ g, IsZip g z p q (rawInt s.heap.objs.size) → IsPair g p (.ref i) (.ref j) → IsPair g q x y → g.IsTupleIter i a (k + 1) → g.IsTupleIter j b (k + 1) → IsPair g s.heap.objs.size x y → (∀ c o, c ∉ [z, q, i, j] → s.heap.get? c = some o → g.get? c = some o) → Q (some (.ref s.heap.objs.size)) { s with heap := g }) :
  wpAny (model prog w) A (pyNext (.ref z)) Q E s := by
 have hT : s.TypeIs (.ref z) "zip" := ⟨_, Z.zr, rfl⟩
 obtain ⟨u0, v0, eq⟩ := Z.out
 unfold pyNext
 refine wpAny_bind (wpAny_attempt (wpAny_callSpecial?_slot (name := Str.ofString "__next__") hT F.slot_zip_next (wpAny_call_entry F.slot_zip_next hT F.entry_zip_next ?body (F.args_zip_next_1 _))))
 case body =>
  show wpAny _ _ (field (.ref z) 2 >>= _) _ _ _
  refine wpAny_bind (wpAny_field Z.zr rfl (x := .bool false) rfl ?f2)
  show wpAny _ _ (field (.ref z) 3 >>= _) _ _ _
  refine wpAny_bind (wpAny_field Z.zr rfl (x := .ref p) rfl (wpAny_bind (wpAny_seqItems Z.ins rfl ?f3)))
  show wpAny _ _ (Builtin.SmallTypes.ownedTupleIsFree (.ref z) >>= _) _ _ _
  refine wpAny_bind ?f4
  unfold Builtin.SmallTypes.ownedTupleIsFree
  refine wpAny_bind (wpAny_field Z.zr rfl (x := .none) rfl (wpAny_pure ?f5))
  simp only [if_true]
  refine wpAny_bind (wpAny_rule (wpAny_bind (wpAny_field Z.zr rfl (x := .ref q) rfl (wpAny_bind (wpAny_setField_rec Z.zr (by simp) fun g1 z1 s1 => ?f6)))))
  have z1 : IsZip g1 z p q .ellipsis := z1
  refine wpAny_bind ?f7
  simp only [List.zipIdx_cons, List.zipIdx_nil, List.forIn_cons, List.forIn_nil]
  refine wpAny_bind (wpAny_bind (wpAny_onRaise ?f8))
  show wpAny _ _ (Builtin.SmallTypes.nextOf (.ref i) >>= _) _ _ _
  refine wpAny_bind (zc8 (Z.one.extBut s1.extBut D.i1z) (ha.extBut s1.extBut D.l1z) hx fun g2 i2 s2 => wpAny_pure ?f9)
  have q2 : IsPair g2 q u0 v0 := s2.extBut _ _ D.TOi1 (s1.extBut _ _ D.TOz eq)
  refine wpAny_bind (wpAny_seqItems q2 rfl (wpAny_bind (wpAny_updateSeq_pair q2 fun g3 q3 s3 => ?f10)))
  have q3 : IsPair g3 q x v0 := q3
  refine wpAny_bind (wpAny_letGo (wpAny_pure ?f11))
  refine wpAny_bind (wpAny_bind (wpAny_onRaise ?f12))
  show wpAny _ _ (Builtin.SmallTypes.nextOf (.ref j) >>= _) _ _ _
  refine wpAny_bind (zc8 (((Z.two.extBut s1.extBut D.i2z).extBut s2.extBut D.i12.symm).extBut s3.extBut D.TOi2.symm) (((hb.extBut s1.extBut D.l2z).extBut s2.extBut D.l2i1).extBut s3.extBut D.l2TO) hy fun g4 j4 s4 => wpAny_pure ?f13)
  have q4 : IsPair g4 q x v0 := s4.extBut _ _ D.TOi2 q3
  refine wpAny_bind (wpAny_seqItems q4 rfl (wpAny_bind (wpAny_updateSeq_pair q4 fun g5 q5 s5 => ?f14)))
  have q5 : IsPair g5 q x y := q5
  refine wpAny_bind (wpAny_letGo (wpAny_pure (wpAny_pure ?f15)))
  refine wpAny_bind (wpAny_seqItems q5 rfl (wpAny_bind (wpAny_newTuple ?f16)))
  have sz : g5.objs.size = s.heap.objs.size := by rw [s5.1, s4.1, s3.1, s2.1, s1.1]
  have z5 : IsZip g5 z p q .ellipsis := s5.extBut _ _ D.TOz.symm (s4.extBut _ _ D.i2z.symm (s3.extBut _ _ D.TOz.symm (s2.extBut _ _ D.i1z.symm z1)))
  have k5 : ∀ c o, c ∉ [z, q, i, j] → s.heap.get? c = some o → g5.get? c = some o := fun c o hc e => by
   have c1 : c ≠ z := fun t => hc (by simp [t])
   have c2 : c ≠ q := fun t => hc (by simp [t])
   have c3 : c ≠ i := fun t => hc (by simp [t])
   have c4 : c ≠ j := fun t => hc (by simp [t])
   exact s5.extBut _ _ c2 (s4.extBut _ _ c4 (s3.extBut _ _ c2 (s2.extBut _ _ c3 (s1.extBut _ _ c1 e))))
  have i5 : g5.IsTupleIter i a (k + 1) := ((i2.extBut s3.extBut D.TOi1.symm).extBut s4.extBut D.i12).extBut s5.extBut D.TOi1.symm
  have j5 : g5.IsTupleIter j b (k + 1) := j4.extBut s5.extBut D.TOi2.symm
  have zlt : z < g5.objs.size := Heap.lt_size z5
  show wpAny _ _ (Builtin.SmallTypes.ownedTupleHandOut (.ref z) (.ref g5.objs.size) >>= _) _ _ _
  refine wpAny_bind ?f17
  unfold Builtin.SmallTypes.ownedTupleHandOut
  have z6 : IsZip (g5.push { cls := .type "tuple", data := .seq #[x, y] }) z p q .ellipsis := Heap.get?_push_of_some _ z5
  refine wpAny_bind (wpAny_setField_rec z6 (by simp) fun g7 z7 s7 => ?f18)
  have z7 : IsZip g7 z p q (rawInt g5.objs.size) := z7
  refine wpAny_setField_rec z7 (by simp) fun g8 z8 s8 => ?f19
  have z8 : IsZip g8 z p q (rawInt g5.objs.size) := z8
  have up : ∀ c o, c ≠ z → g5.get? c = some o → g8.get? c = some o := fun c o c1 e => s8.extBut _ _ c1 (s7.extBut _ _ c1 (Heap.get?_push_of_some _ e))
  have t8 : IsPair g8 g5.objs.size x y := s8.extBut _ _ (Nat.ne_of_gt zlt) (s7.extBut _ _ (Nat.ne_of_gt zlt) (Heap.get?_push_size _ rfl))
  rw [sz] at z8 t8
  have pne : p ∉ [z, q, i, j] := by
   intro t
   simp only [List.mem_cons, List.not_mem_nil, or_false] at t
   rcases t with t | t | t | t
   ·exact D.TIz t
   ·exact D.TITO t
   ·exact D.TIi1 t
   ·exact D.TIi2 t
  have fin := h g8 z8 (up _ _ D.TIz (k5 p _ pne Z.ins)) (up _ _ D.TOz q5) (i5.at fun o e => up _ o D.i1z e) (j5.at fun o e => up _ o D.i2z e) t8 fun c o hc e => up c o (fun t => hc (by simp [t])) (k5 c o hc e)
  refine wpAny_pure ⟨_, rfl, wpAny_pure ?_⟩
  show Q (some (.ref g5.objs.size)) _
  rw [sz]
  exact fin
theorem zgW {z p q i j a b : Addr} {k : Nat} {xs ys : Array Value} {Q : Option Value → Shared → Prop} (hh : A.handled = none) (D : ZipApart z p q i j a b) (Z : ZS s.heap z p q i j a b k) (ha : s.heap.IsTuple a xs) (hb : s.heap.IsTuple b ys) (he : xs[k]? = none ∨ ys[k]? = none)
  (h : ∀ g, (∀ c o, c ∉ [z, q, i, j] → s.heap.get? c = some o → g.get? c = some o) → Q none { s with heap := g }) : wpAny (model prog w) A (pyNext (.ref z)) Q E s := by
 have hT : s.TypeIs (.ref z) "zip" := ⟨_, Z.zr, rfl⟩
 obtain ⟨u0, v0, eq⟩ := Z.out
 have apart : ∀ c, c ∉ [z, q, i, j] → c ≠ z ∧ c ≠ q ∧ c ≠ i ∧ c ≠ j := fun c hc => ⟨fun t => hc (by simp [t]), fun t => hc (by simp [t]), fun t => hc (by simp [t]), fun t => hc (by simp [t])⟩
 unfold pyNext
 refine wpAny_bind (wpAny_attempt (wpAny_callSpecial?_slot (name := Str.ofString "__next__") hT F.slot_zip_next (wpAny_call_entry F.slot_zip_next hT F.entry_zip_next ?body (F.args_zip_next_1 _))))
 case body =>
  have fin : ∀ g x, (∀ c o, c ∉ [z, q, i, j] → s.heap.get? c = some o → g.get? c = some o) → (∃ o, g.get? x = some o ∧ o.cls = .type "StopIteration") → wpAny (model prog w) A (isInstance (.ref x) (.type "StopIteration")) (fun r s' => wpAny (model prog w) A (if r = true then pure none else throw (.ref x)) Q E s') E { s with heap := g } := fun g x kp hx => by
   obtain ⟨o, ho, hc⟩ := hx
   exact wpAny_isInstance (T := "StopIteration") (b := true) ⟨o, ho, hc⟩ isSubtype_stop (wpAny_pure (h g kp))
  show wpAny _ _ (field (.ref z) 2 >>= _) _ _ _
  refine wpAny_bind (wpAny_field Z.zr rfl (x := .bool false) rfl ?f2)
  show wpAny _ _ (field (.ref z) 3 >>= _) _ _ _
  refine wpAny_bind (wpAny_field Z.zr rfl (x := .ref p) rfl (wpAny_bind (wpAny_seqItems Z.ins rfl ?f3)))
  show wpAny _ _ (Builtin.SmallTypes.ownedTupleIsFree (.ref z) >>= _) _ _ _
  refine wpAny_bind ?f4
  unfold Builtin.SmallTypes.ownedTupleIsFree
  refine wpAny_bind (wpAny_field Z.zr rfl (x := .none) rfl (wpAny_pure ?f5))
  simp only [if_true]
  refine wpAny_bind (wpAny_rule (wpAny_bind (wpAny_field Z.zr rfl (x := .ref q) rfl (wpAny_bind (wpAny_setField_rec Z.zr (by simp) fun g1 z1 s1 => ?f6)))))
  have z1 : IsZip g1 z p q .ellipsis := z1
  refine wpAny_bind ?f7
  simp only [List.zipIdx_cons, List.zipIdx_nil, List.forIn_cons, List.forIn_nil]
  refine wpAny_bind (wpAny_bind (wpAny_onRaise ?f8))
  show wpAny _ _ (Builtin.SmallTypes.nextOf (.ref i) >>= _) _ _ _
  cases hx : xs[k]? with
  | none =>
   refine wpAny_bind (zgV hh (Z.one.extBut s1.extBut D.i1z) (ha.extBut s1.extBut D.l1z) hx fun g2 x s2 hx' => ?g1)
   obtain ⟨ox, eox, cox⟩ := hx'
   have z2 : IsZip g2 z p q .ellipsis := s2 _ _ D.i1z.symm z1
   have xz : x ≠ z := fun t => by subst t; rw [z2] at eox; cases eox; simp at cox
   refine wpAny_setField_rec z2 (by simp) fun g3 _ s3 => wpAny_bind (fin g3 x (fun c o hc e => ?g2) ⟨ox, s3.extBut _ _ xz eox, cox⟩)
   obtain ⟨c1, _, c3, _⟩ := apart c hc
   exact s3.extBut _ _ c1 (s2 _ _ c3 (s1.extBut _ _ c1 e))
  | some x0 =>
   have hy : ys[k]? = none := by
    rcases he with t | t
    ·rw [hx] at t; cases t
    ·exact t
   refine wpAny_bind (zc8 (Z.one.extBut s1.extBut D.i1z) (ha.extBut s1.extBut D.l1z) hx fun g2 i2 s2 => wpAny_pure ?g3)
   have q2 : IsPair g2 q u0 v0 := s2.extBut _ _ D.TOi1 (s1.extBut _ _ D.TOz eq)
   refine wpAny_bind (wpAny_seqItems q2 rfl (wpAny_bind (wpAny_updateSeq_pair q2 fun g3 q3 s3 => ?g4)))
   refine wpAny_bind (wpAny_letGo (wpAny_pure ?g5))
   refine wpAny_bind (wpAny_bind (wpAny_onRaise ?g6))
   show wpAny _ _ (Builtin.SmallTypes.nextOf (.ref j) >>= _) _ _ _
   refine wpAny_bind (zgV hh (((Z.two.extBut s1.extBut D.i2z).extBut s2.extBut D.i12.symm).extBut s3.extBut D.TOi2.symm) (((hb.extBut s1.extBut D.l2z).extBut s2.extBut D.l2i1).extBut s3.extBut D.l2TO) hy fun g4 x s4 hx' => ?g7)
   obtain ⟨ox, eox, cox⟩ := hx'
   have z4 : IsZip g4 z p q .ellipsis := s4 _ _ D.i2z.symm (s3.extBut _ _ D.TOz.symm (s2.extBut _ _ D.i1z.symm z1))
   have xz : x ≠ z := fun t => by subst t; rw [z4] at eox; cases eox; simp at cox
   refine wpAny_setField_rec z4 (by simp) fun g5 _ s5 => wpAny_bind (fin g5 x (fun c o hc e => ?g8) ⟨ox, s5.extBut _ _ xz eox, cox⟩)
   obtain ⟨c1, c2, c3, c4⟩ := apart c hc
   exact s5.extBut _ _ c1 (s4 _ _ c4 (s3.extBut _ _ c2 (s2.extBut _ _ c3 (s1.extBut _ _ c1 e))))
end
end L2
end
section
namespace L2
open PySem PySem.Spec PyProof.Rows
section
variable {prog : Program} {w : World} {A : Around} {E : Value → Shared → Prop} {s : Shared}
def zih (h : Heap) (a b : Addr) : Heap :=
 ((((h.push { cls := .type "tuple_iterator", data := .fields #[.ref a, .int 0 0] }).push { cls := .type "tuple_iterator", data := .fields #[.ref b, .int 0 0] }).push { cls := .type "tuple", data := .seq #[.ref h.objs.size, .ref (h.push { cls := .type "tuple_iterator", data := .fields #[.ref a, .int 0 0] }).objs.size] }).push { cls := .type "tuple", data := .seq #[.none, .none] }).push
  { cls := .type "zip", data := .fields #[.none, .bool false, .bool false, .ref ((h.push { cls := .type "tuple_iterator", data := .fields #[.ref a, .int 0 0] }).push { cls := .type "tuple_iterator", data := .fields #[.ref b, .int 0 0] }).objs.size,
   .ref (((h.push { cls := .type "tuple_iterator", data := .fields #[.ref a, .int 0 0] }).push { cls := .type "tuple_iterator", data := .fields #[.ref b, .int 0 0] }).push { cls := .type "tuple", data := .seq #[.ref h.objs.size, .ref (h.push { cls := .type "tuple_iterator", data := .fields #[.ref a, .int 0 0] }).objs.size] }).objs.size] }
theorem zjK (a b : Addr) (xs ys : Array Value) :
  Meets (Builtin.«zip.__new__» ⟨[.type "zip", .ref a, .ref b], []⟩) (fun _ R s => s.heap.IsTuple a xs ∧ s.heap.IsTuple b ys ∧
   R (.ok (.ret (.ref (((((s.heap.push { cls := .type "tuple_iterator", data := .fields #[.ref a, .int 0 0] }).push { cls := .type "tuple_iterator", data := .fields #[.ref b, .int 0 0] }).push { cls := .type "tuple", data := .seq #[.ref s.heap.objs.size, .ref (s.heap.push { cls := .type "tuple_iterator", data := .fields #[.ref a, .int 0 0] }).objs.size] }).push { cls := .type "tuple", data := .seq #[.none, .none] }).objs.size))))
    { s with heap := zih s.heap a b }) :=
 .of_wp fun prog w A R s h => by
  obtain ⟨hp, g, d, tk, os⟩ := s
  obtain ⟨h1, h2, h⟩ := h
  have hsub := sub_zip
  have k1 : Heap.IsTuple (Shared.heap ⟨hp, g, d, tk, os⟩) a xs := h1
  have k2 : Heap.IsTuple (Shared.heap ⟨hp.push { cls := .type "tuple_iterator", data := .fields #[.ref a, .int 0 0] }, g, d, tk, os⟩) b ys := by
   obtain ⟨o, e, r⟩ := h2
   exact ⟨o, Heap.get?_push_of_some _ e, r⟩
  wp_walk using wpAny_pyIter_tuple k1, wpAny_pyIter_tuple k2
  exact ⟨_, rfl, h⟩
theorem zfz {a b : Addr} {xs ys : Array Value} {Q : Value → Shared → Prop} (ha : s.heap.IsTuple a xs) (hb : s.heap.IsTuple b ys)
  (h : ∀ g, ZS g (s.heap.objs.size + 4) (s.heap.objs.size + 2) (s.heap.objs.size + 3) s.heap.objs.size (s.heap.objs.size + 1) a b 0 → (∀ c o, s.heap.get? c = some o → g.get? c = some o) → Q (.ref (s.heap.objs.size + 4)) { s with heap := g }) :
  wpAny (model prog w) A (call (.type "zip") [.ref a, .ref b]) Q E s := by
 refine callType_new F.called_zip (by decide) (F.typeCall_zip_2 _ _) (F.newCall_zip_2 _ _) (fun obj => F.args_object_init_3 obj _ _) F.entry_zip_new (zjK a b xs ys) ⟨ha, hb, ?_⟩
 unfold zih
 generalize e1 : s.heap.push { cls := .type "tuple_iterator", data := .fields #[.ref a, .int 0 0] } = g1
 have z1 : g1.objs.size = s.heap.objs.size + 1 := by rw [← e1]; exact Heap.size_push ..
 have i1 : g1.get? s.heap.objs.size = some { cls := .type "tuple_iterator", data := .fields #[.ref a, .int 0 0] } := by rw [← e1]; exact Heap.get?_push_size _ rfl
 have k1 : ∀ c o, s.heap.get? c = some o → g1.get? c = some o := fun c o e => by rw [← e1]; exact Heap.get?_push_of_some _ e
 generalize e2 : g1.push { cls := .type "tuple_iterator", data := .fields #[.ref b, .int 0 0] } = g2
 have z2 : g2.objs.size = s.heap.objs.size + 2 := by rw [← e2, Heap.size_push, z1]
 have i2 : g2.get? (s.heap.objs.size + 1) = some { cls := .type "tuple_iterator", data := .fields #[.ref b, .int 0 0] } := by rw [← e2, ← z1]; exact Heap.get?_push_size _ rfl
 have k2 : ∀ c o, g1.get? c = some o → g2.get? c = some o := fun c o e => by rw [← e2]; exact Heap.get?_push_of_some _ e
 generalize e3 : g2.push { cls := .type "tuple", data := .seq #[.ref s.heap.objs.size, .ref g1.objs.size] } = g3
 have z3 : g3.objs.size = s.heap.objs.size + 3 := by rw [← e3, Heap.size_push, z2]
 have i3 : g3.get? (s.heap.objs.size + 2) = some { cls := .type "tuple", data := .seq #[.ref s.heap.objs.size, .ref g1.objs.size] } := by rw [← e3, ← z2]; exact Heap.get?_push_size _ rfl
 have k3 : ∀ c o, g2.get? c = some o → g3.get? c = some o := fun c o e => by rw [← e3]; exact Heap.get?_push_of_some _ e
 generalize e4 : g3.push { cls := .type "tuple", data := .seq #[.none, .none] } = g4
 have z4 : g4.objs.size = s.heap.objs.size + 4 := by rw [← e4, Heap.size_push, z3]
 have i4 : g4.get? (s.heap.objs.size + 3) = some { cls := .type "tuple", data := .seq #[.none, .none] } := by rw [← e4, ← z3]; exact Heap.get?_push_size _ rfl
 have k4 : ∀ c o, g3.get? c = some o → g4.get? c = some o := fun c o e => by rw [← e4]; exact Heap.get?_push_of_some _ e
 generalize e5 : g4.push { cls := .type "zip", data := .fields #[.none, .bool false, .bool false, .ref g2.objs.size, .ref g3.objs.size] } = g5
 have i5 : g5.get? (s.heap.objs.size + 4) = some { cls := .type "zip", data := .fields #[.none, .bool false, .bool false, .ref g2.objs.size, .ref g3.objs.size] } := by rw [← e5, ← z4]; exact Heap.get?_push_size _ rfl
 have k5 : ∀ c o, g4.get? c = some o → g5.get? c = some o := fun c o e => by rw [← e5]; exact Heap.get?_push_of_some _ e
 rw [z4]
 rw [z2, z3] at i5
 rw [z1] at i3
 exact ⟨⟨_, i5, rfl⟩, h _ ⟨i5, k5 _ _ (k4 _ _ i3), ⟨_, _, k5 _ _ i4⟩, ⟨_, k5 _ _ (k4 _ _ (k3 _ _ (k2 _ _ i1))), rfl, rfl⟩, ⟨_, k5 _ _ (k4 _ _ (k3 _ _ i2)), rfl, rfl⟩⟩ fun c o e => k5 _ _ (k4 _ _ (k3 _ _ (k2 _ _ (k1 _ _ e))))⟩
end
def Itz (K : PySem.W.Frag) (a b : Addr) : It :=
  ⟨fun i H => ∃ xs ys x y, SqT K H a xs ∧ SqT K H b ys ∧ xs[i]? = some x ∧ ys[i]? = some y,
   fun i H v H' => ∃ p x y, H p = none ∧ v = .ref p ∧ H' = upd H p (.tup [x, y]) ∧ (∀ xs, SqT K H a xs → xs[i]? = some x) ∧ ∀ ys, SqT K H b ys → ys[i]? = some y,
   fun i H => ∃ xs ys, SqT K H a xs ∧ SqT K H b ys ∧ (xs.length ≤ i ∨ ys.length ≤ i)⟩
theorem zjL {P : Program} {w : World} {K : PySem.W.Frag} {es : List Expr} {k : Nat} {pos : Pos} {z p q i j a b : Addr} (D : ZipApart z p q i j a b) : Turn P w K (.Tuple es k pos) (Itz K a b) [z, p, q, i, j] z (fun n h => ZS h z p q i j a b n) where
 mem := by simp
 obj := fun n h st c hc => by
  simp only [List.mem_cons, List.not_mem_nil, or_false] at hc
  rcases hc with rfl | rfl | rfl | rfl | rfl
  ·exact ⟨_, st.zr, fun v e => nomatch e⟩
  ·exact ⟨_, st.ins, fun v e => nomatch e⟩
  ·obtain ⟨u, v, e⟩ := st.out; exact ⟨_, e, fun v e => nomatch e⟩
  ·obtain ⟨o, e, _, d⟩ := st.one; exact ⟨o, e, fun v t => by rw [d] at t; cases t⟩
  ·obtain ⟨o, e, _, d⟩ := st.two; exact ⟨o, e, fun v t => by rw [d] at t; cases t⟩
 keep := fun n h h' st kp => st.keep kp
 item := by
  intro X hP hw hK hc n pins s σ H E I hf st hg
  subst hP hw hK
  obtain ⟨xs, ys, x, y, qa, qb, hx, hy⟩ := hg
  obtain ⟨ia, ra, ta, _⟩ := I.tuple qa
  obtain ⟨ib, rb, tb, _⟩ := I.tuple qb
  obtain ⟨u, hu, ru⟩ := ra.get hx
  obtain ⟨v, hv, rv⟩ := rb.get hy
  refine zko D st ta tb (x := u) (y := v) (by simpa using hu) (by simpa using hv) fun g gz gp gq gi gj gt kp => ?_
  refine ⟨_, rfl, wpAny_letOwnedTupleGo_zip (s := { s with heap := g }) gz fun g' gz' sb => ?_⟩
  have ne : ∀ c o, s.heap.get? c = some o → c ≠ s.heap.objs.size := fun c o e => Nat.ne_of_lt (Heap.lt_size e)
  have zne : s.heap.objs.size ≠ z := (ne z _ st.zr).symm
  have t' : IsPair g' s.heap.objs.size u v := (sb.2 _ zne).trans gt
  have f := I.hok.fresh (Nat.le_refl s.heap.objs.size)
  have free : ∀ c ∈ [z, p, q, i, j], H c = none := fun c hc => (hf c hc).1
  have kp' : ∀ c o, c ∉ [z, q, i, j] → s.heap.get? c = some o → g'.get? c = some o := fun c o hc e => (sb.2 c (fun t => hc (by simp [t]))).trans (kp c o hc e)
  have sub : ∀ c, c ∈ [z, q, i, j] → c ∈ [z, p, q, i, j] := fun c hc => by
   simp only [List.mem_cons, List.not_mem_nil, or_false] at hc ⊢
   rcases hc with h | h | h | h <;> simp [h]
  have tracked : ∀ c o, H c = some o → c ∉ [z, q, i, j] := fun c o e hc => by rw [free c (sub c hc)] at e; cases e
  have hok : HOk X.prog X.w (upd H s.heap.objs.size (.tup [x, y])) g' := fun c o e => by
   by_cases hc : c = s.heap.objs.size
   ·subst hc
    rw [zay] at e
    cases e
    exact ⟨by rw [sizeLine_eq]; show 2 ≤ _; omega, [u, v], .cons ru (.cons rv .nil), _, t', rfl, 0, rfl⟩
   ·rw [zaz hc] at e
    refine (I.hok c o e).stay (fun d o' hd e' => kp' d o' ?_ e') (fun d e' => by rw [zaz (zaO e' f)]; exact e') fun d xs e' => by rw [zaz (zaO e' f)]; exact e'
    rcases hd with rfl | hd
    ·exact tracked _ _ e
    ·exact tracked _ _ hd
  have I' : Inv X pins σ (upd H s.heap.objs.size (.tup [x, y])) { s with heap := g' } := by
   refine I.step (g' := s.gens) (t' := s.toks) (d' := s.drawn) (ch := [z, q, i, j]) (fun c hc => ?_) (fun c o _ _ hc e _ => kp' c o hc e) (fun c o _ _ hc e _ => ⟨o.slots, kp' c o hc e⟩) (fun c o hc e n => by rw [zaz (ne c o e)]; exact n)
    (fun c o hc e => ⟨o, kp' c o hc e⟩) (fun c xs e => by rw [zaz (zaO e f)]; exact e) (fun c o u e => by rw [zaz (zaO e f)]; exact e) (fun c ps e => ⟨#[], by rw [zaz (zaO e f), e]; simp⟩) (fun m hm => ?_) hok I.bare
   ·obtain ⟨_, f1, _, f3, f4, f5⟩ := hf c (sub c hc)
    exact ⟨f3, f1, f4, f5⟩
   ·obtain ⟨o, es', ep, ho, r⟩ := hm
    exact ⟨o, es', ep, kp' _ o (fun hc => (hf _ (sub _ hc)).2.1 rfl) ho, r⟩
  refine ⟨.ref s.heap.objs.size, _, I', rfl, ⟨_, x, y, f, rfl, rfl, fun zs hz => by rw [I.zdP hz qa]; exact hx, fun zs hz => by rw [I.zdP hz qb]; exact hy⟩, ?_, fun c hc => ?_⟩
  ·exact ⟨gz', (sb.2 _ D.TIz).trans gp, ⟨_, _, (sb.2 _ D.TOz).trans gq⟩, gi.at fun o e => (sb.2 _ D.i1z).trans e, gj.at fun o e => (sb.2 _ D.i2z).trans e⟩
  ·rw [zaz]
   ·exact free c hc
   ·simp only [List.mem_cons, List.not_mem_nil, or_false] at hc
    rcases hc with rfl | rfl | rfl | rfl | rfl
    ·exact ne _ _ st.zr
    ·exact ne _ _ st.ins
    ·obtain ⟨_, _, e⟩ := st.out; exact ne _ _ e
    ·obtain ⟨_, e, _⟩ := st.one; exact ne _ _ e
    ·obtain ⟨_, e, _⟩ := st.two; exact ne _ _ e
 done := by
  intro X hP hw hK hc n pins s σ H E I hf st hg
  subst hP hw hK
  obtain ⟨xs, ys, qa, qb, hl⟩ := hg
  obtain ⟨ia, ra, ta, _⟩ := I.tuple qa
  obtain ⟨ib, rb, tb, _⟩ := I.tuple qb
  have la := ra.length
  have lb := rb.length
  have sub : ∀ c, c ∈ [z, q, i, j] → c ∈ [z, p, q, i, j] := fun c hc => by
   simp only [List.mem_cons, List.not_mem_nil, or_false] at hc ⊢
   rcases hc with h | h | h | h <;> simp [h]
  refine zgW (I.ok.hd hc) D st ta tb ?_ fun g kp => ⟨rfl, ?_⟩
  ·rcases hl with h | h
   ·exact .inl (by simp; omega)
   ·exact .inr (by simp; omega)
  ·have tracked : ∀ c o, H c = some o → c ∉ [z, q, i, j] := fun c o e hc => by rw [(hf c (sub c hc)).1] at e; cases e
   refine I.step (g' := s.gens) (t' := s.toks) (d' := s.drawn) (ch := [z, q, i, j]) (fun c hc => ?_) (fun c o _ _ hc e _ => kp c o hc e) (fun c o _ _ hc e _ => ⟨o.slots, kp c o hc e⟩) (fun c o hc e n => n)
    (fun c o hc e => ⟨o, kp c o hc e⟩) (fun c xs e => e) (fun c o u e => e) (fun c ps e => ⟨#[], by rw [e]; simp⟩) (fun m hm => ?_) (fun c o e => ?_) I.bare
   ·obtain ⟨_, f1, _, f3, f4, f5⟩ := hf c (sub c hc)
    exact ⟨f3, f1, f4, f5⟩
   ·obtain ⟨o, es', ep, ho, r⟩ := hm
    exact ⟨o, es', ep, kp _ o (fun hc => (hf _ (sub _ hc)).2.1 rfl) ho, r⟩
   ·refine (I.hok c o e).stay (fun d o' hd e' => kp d o' ?_ e') (fun d e' => e') fun d xs e' => e'
    rcases hd with rfl | hd
    ·exact tracked _ _ e
    ·exact tracked _ _ hd
 self := fun _ _ _ _ _ st h => wpAny_pyIter_zip st.zr h
section
variable {X : Cx}
def iZip (K : PySem.W.Frag) (ta : TA) : TI := fun σ H R => ta σ H fun vs H1 => ∃ a b, vs = [.ref a, .ref b] ∧ (∃ xs, SqT K H1 a xs) ∧ (∃ ys, SqT K H1 b ys) ∧ R (Itz K a b) H1
theorem zni {a b : Expr} {ta : TA} {p pos tp : Pos} {es : List Expr} {k : Nat} (hg : Gl X "zip") (hm : X.mg "zip" = none) (ha : PA X [a, b] ta) (hs : starEach [a, b] X.env = [(false, eval a X.env), (false, eval b X.env)] := by rfl) (hs2 : starEach [b] X.env = [(false, eval b X.env)] := by rfl) :
  PI X (.Tuple es k tp) (.Call (.Name "zip" p) [a, b] [] pos) (iZip X.K ta) := by
 intro pins s σ H R I h
 refine wpAny_Call_Name_kw (zdO I hg hm PyProof.Rows.boot_zip ?_)
 refine PyProof.Rows.callWith_type1 (thn (ha pos pins s σ H _ I h) fun us s1 ⟨vs, H1, I1, r1, q1⟩ => ?_) (by rw [hs, hs2]) (by rw [hs2]; rfl)
 obtain ⟨a', b', e, ⟨xs, qa⟩, ⟨ys, qb⟩, q⟩ := q1
 subst e
 obtain ⟨u, v, rfl, ru, rv⟩ := vals2 r1
 cases ru
 cases rv
 obtain ⟨ia, ra, ta', _⟩ := I1.tuple qa
 obtain ⟨ib, rb, tb, _⟩ := I1.tuple qb
 refine zfz ta' tb fun g Z kp => ?_
 refine wpAny_pyIter_zip (s := { s1 with heap := g }) Z.zr ?_
 have la : a' < s1.heap.objs.size := by obtain ⟨_, e, _⟩ := ta'; exact Heap.lt_size e
 have lb : b' < s1.heap.objs.size := by obtain ⟨_, e, _⟩ := tb; exact Heap.lt_size e
 have fr : ∀ c, s1.heap.objs.size ≤ c → zek X pins H1 c := fun c hc => I1.fpOk hc (I1.hok.fresh hc)
 refine ⟨_, _, _, _, H1, rfl, I1.kept (t' := s1.toks) kp, zjL (PyProof.Rows.zipApart_new la lb), Z, fun c hc => ?_, q⟩
 simp only [List.mem_cons, List.not_mem_nil, or_false] at hc
 rcases hc with h | h | h | h | h
 ·exact h ▸ fr _ (Nat.le_add_right _ _)
 ·exact h ▸ fr _ (Nat.le_add_right _ _)
 ·exact h ▸ fr _ (Nat.le_add_right _ _)
 ·exact h ▸ fr _ (Nat.le_refl _)
 ·exact h ▸ fr _ (Nat.le_add_right _ _)
end
end L2
end
section
namespace L2
open PySem PySem.Spec PyProof.Rows
def zdW (H H' : Hp) : Prop := ∀ a u, Rd H a (.tup u) → Rd H' a (.tup u)
theorem zdW.refl {H : Hp} : zdW H H := fun _ _ h => h
theorem zdW.trans {H H1 H2 : Hp} (a : zdW H H1) (b : zdW H1 H2) : zdW H H2 := fun c u h => b c u (a c u h)
theorem zdW.sq {K : PySem.W.Frag} {H H' : Hp} (t : zdW H H') {a : Addr} {xs : List V} (h : SqT K H a xs) : SqT K H' a xs := by
 rcases h with h | h
 ·exact .inl (t a xs h)
 ·exact .inr h
theorem zdW.put {H : Hp} {a : Addr} {o o' : HO} (h : H a = some o) (hn : ∀ u, o ≠ .tup u) (hf : ∀ x u, o ≠ .frz x u) : zdW H (upd H a o') := fun c u r => by
 rcases r with e | ⟨x, e⟩
 ·exact .inl (by rw [zaz (zkP e h fun z => hn u z.symm)]; exact e)
 ·exact .inr ⟨x, by rw [zaz (zkP e h fun z => hf x _ z.symm)]; exact e⟩
theorem zdW.lst {H : Hp} {a : Addr} {xs : List V} {o' : HO} (h : H a = some (.lst xs)) : zdW H (upd H a o') := .put h (fun _ z => nomatch z) fun _ _ z => nomatch z
theorem zdW.dk {H : Hp} {a : Addr} {xs : List (Key × V)} {o' : HO} (h : H a = some (.dK xs)) : zdW H (upd H a o') := .put h (fun _ z => nomatch z) fun _ _ z => nomatch z
theorem zen.zb8 {H H' : Hp} (s : zen H H') : zdW H H' := fun a u r => by
 rcases r with e | ⟨o, e⟩
 ·exact .inl (s _ _ e)
 ·exact .inr ⟨o, s _ _ e⟩
end L2
end
section
namespace L2
open PySem PySem.Spec PyProof.Rows
section
variable {X : Cx}
theorem zfA {h : Heap} : ∀ {vs : List Value} {ds : List PyData} {as : List Addr}, ReadsAll h vs ds as → ∀ v ∈ vs, ∃ d bs, d ∈ ds ∧ Reads h v d bs
 | _, _, _, .nil, v, hv => nomatch hv
 | _, _, _, .cons r q, v, hv => by
  rcases lK hv with e | hv
  ·subst e; exact ⟨_, _, lS, r⟩
  ·obtain ⟨d, bs, h1, h2⟩ := zfA q v hv
   exact ⟨d, bs, lO _ h1, h2⟩
theorem zkp {ds : List PyData} (h : PyData.canLayAll0 ds = true) : ∀ d ∈ ds, d.canLay0 = true := by
 induction ds with
 | nil => intro d hd; exact nomatch hd
 | cons x xs ih =>
  unfold PyData.canLayAll0 at h
  rw [Bool.and_eq_true] at h
  intro d hd
  rcases lK hd with e | hd
  ·subst e; exact h.1
  ·exact ih h.2 d hd
noncomputable def eqH (h : Heap) (e : PyData) (u : Value) : Bool := @decide (∃ d as, Reads h u d as ∧ PyData.eqv d e = true) (Classical.propDecidable _)
theorem zkq {h : Heap} {e d : PyData} {u : Value} {as : List Addr} (r : Reads h u d as) (c : d.canLay0 = true) : eqH h e u = PyData.eqv d e := by
 unfold eqH
 cases q : PyData.eqv d e with
 | true => exact @decide_eq_true _ (Classical.propDecidable _) ⟨d, as, r, q⟩
 | false =>
  refine @decide_eq_false _ (Classical.propDecidable _) ?_
  rintro ⟨d', as', r', q'⟩
  rw [← SeqAt.Reads.unique d d' u as as' c r r'] at q'
  rw [q] at q'
  cases q'
theorem zgi {h : Heap} {e : PyData} : ∀ {vs : List Value} {ds : List PyData} {as : List Addr}, ReadsAll h vs ds as → PyData.canLayAll0 ds = true → vs.any (eqH h e) = ds.any fun d => PyData.eqv d e
 | _, _, _, .nil, _ => rfl
 | _, _, _, .cons r q, c => by
  unfold PyData.canLayAll0 at c
  rw [Bool.and_eq_true] at c
  rw [List.any_cons, List.any_cons, zkq r c.1, zgi q c.2]
theorem zkr {pins : List (Addr × Obj)} {σ : St} {H : Hp} {s : Shared} {its : List Value} {ds : List PyData} {as bs : List Addr} {e : PyData} {v : Value} (hu : X.A.units + 64 < cLine) (r : ReadsAll s.heap its ds as) (re : Reads s.heap v e bs) (c : PyData.canLayAll0 ds = true) (ce : e.canLay0 = true) (dp : e.depth ≤ 50) :
  ∀ y, y ∈ its.toArray → SeqAt.EqAt X.A.in1 s y v (eqH s.heap e y) := fun y hy => by
 obtain ⟨d, cs, hd, rd⟩ := zfA r y (by simpa using hy)
 rw [zkq rd (zkp c d hd)]
 refine SeqAt.eqAt_reads d e X.A.in1 s y v cs bs rd re (zkp c d hd) ce ?_
 show X.A.units + 1 + _ < _
 omega
theorem zlm : OpR X (binaryOp .Pow) (rI (fun i j => 0 ≤ j ∧ (Builtin.Int.intBits i : Int) * j ≤ 2 ^ 27) fun i j => .int (i ^ j.toNat)) := opI fun _ _ _ _ _ _ _ hc q => pow_int hc.1 hc.2 q
def bls (bs : List Bool) : List V := bs.map V.bl
theorem zii {bs : List Bool} {its : List Value} (r : zaW (bls bs) its) (i : Nat) (u : Value) (e : its[i]? = some u) : ∃ b, bs[i]? = some b ∧ u = .bool b := by
 have hl := r.length
 unfold bls at hl r
 rw [List.length_map] at hl
 have hi : i < its.length := (List.getElem?_eq_some_iff.mp e).1
 have hb : bs[i]? = some bs[i] := by simp
 obtain ⟨u', e', ru⟩ := r.get (i := i) (x := .bl bs[i]) (by rw [List.getElem?_map, hb]; rfl)
 rw [e] at e'
 cases e'
 exact ⟨bs[i], hb, ru⟩
theorem zij (bs : List Bool) : (List.range bs.length).all (fun i => (bs[i]?).getD false) = bs.all id := by
 have e : (List.range bs.length).map (fun i => (bs[i]?).getD false) = bs := by
  apply List.ext_getElem?
  intro i
  rw [List.getElem?_map]
  by_cases hi : i < bs.length
  ·simp [List.getElem?_range hi, hi]
  ·simp [List.getElem?_eq_none, hi, Nat.le_of_not_lt hi]
 conv => rhs; rw [← e]
 rw [List.all_map]
 rfl
theorem zik (bs : List Bool) : (List.range bs.length).any (fun i => (bs[i]?).getD false) = bs.any id := by
 have e : (List.range bs.length).map (fun i => (bs[i]?).getD false) = bs := by
  apply List.ext_getElem?
  intro i
  rw [List.getElem?_map]
  by_cases hi : i < bs.length
  ·simp [List.getElem?_range hi, hi]
  ·simp [List.getElem?_eq_none, hi, Nat.le_of_not_lt hi]
 conv => rhs; rw [← e]
 rw [List.any_map]
 rfl
theorem zjr (hc : X.calm = true) : za3 X (.builtin "all") (fun xs H Q => ∃ p bs, xs = [.ref p] ∧ SqL X.K H p (bls bs) ∧ Q (.bl (bs.all id)) H) := by
 intro pins s σ H xs us Q I r h
 obtain ⟨p, bs, rfl, hq, q⟩ := h
 obtain ⟨u, rfl, rx⟩ := vals1 r
 cases rx
 obtain ⟨its, rv, pl, hz⟩ := I.list hq
 have hlt : p < s.heap.objs.size := by obtain ⟨o, n, e, _⟩ := pl; exact Heap.lt_size e
 have hl : its.length = bs.length := by have := rv.length; unfold bls at this; rw [List.length_map] at this; omega
 refine call_all_walk (wpAny_pyIter_list pl.isList ?_)
 refine ⟨_, _, _, _, _, _, fun i => (bs[i]?).getD false, rfl, Walks.list (A := X.A.in1) (I.ok.hd hc) s.heap.objs.size p (Nat.ne_of_lt hlt) its.toArray, ⟨⟨_, Heap.get?_push_size _ rfl, rfl, rfl⟩, pl.isList.push _⟩, fun i v s' Q' E' hv hq' => ?_, fun h' tk kp => ?_⟩
 ·obtain ⟨b, hb, rfl⟩ := zii rv i v (by simpa using hv)
  have hq' : Q' ((bs[i]?).getD false) s' := hq'
  rw [hb] at hq'
  exact wpAny_truthy_bool hq'
 ·refine ⟨.bl _, H, I.kept (t' := tk) fun b o e => kp b o (fun hb => ?_) (Heap.get?_push_of_some _ e), rfl, ?_⟩
  ·have : b = s.heap.objs.size := by simpa using hb
   exact absurd (Heap.lt_size e) (by rw [this]; exact Nat.lt_irrefl _)
  ·rw [List.size_toArray, hl, zij]
   exact q
theorem zeo (hc : X.calm = true) : za3 X (.builtin "any") (fun xs H Q => ∃ p bs, xs = [.ref p] ∧ SqL X.K H p (bls bs) ∧ Q (.bl (bs.any id)) H) := by
 intro pins s σ H xs us Q I r h
 obtain ⟨p, bs, rfl, hq, q⟩ := h
 obtain ⟨u, rfl, rx⟩ := vals1 r
 cases rx
 obtain ⟨its, rv, pl, hz⟩ := I.list hq
 have hlt : p < s.heap.objs.size := by obtain ⟨o, n, e, _⟩ := pl; exact Heap.lt_size e
 have hl : its.length = bs.length := by have := rv.length; unfold bls at this; rw [List.length_map] at this; omega
 refine call_any_walk (wpAny_pyIter_list pl.isList ?_)
 refine ⟨_, _, _, _, _, _, fun i => (bs[i]?).getD false, rfl, Walks.list (A := X.A.in1) (I.ok.hd hc) s.heap.objs.size p (Nat.ne_of_lt hlt) its.toArray, ⟨⟨_, Heap.get?_push_size _ rfl, rfl, rfl⟩, pl.isList.push _⟩, fun i v s' Q' E' hv hq' => ?_, fun h' tk kp => ?_⟩
 ·obtain ⟨b, hb, rfl⟩ := zii rv i v (by simpa using hv)
  have hq' : Q' ((bs[i]?).getD false) s' := hq'
  rw [hb] at hq'
  exact wpAny_truthy_bool hq'
 ·refine ⟨.bl _, H, I.kept (t' := tk) fun b o e => kp b o (fun hb => ?_) (Heap.get?_push_of_some _ e), rfl, ?_⟩
  ·have : b = s.heap.objs.size := by simpa using hb
   exact absurd (Heap.lt_size e) (by rw [this]; exact Nat.lt_irrefl _)
  ·rw [List.size_toArray, hl, zik]
   exact q
end
end L2
end
section
namespace L2
open PySem PySem.Spec PyProof.Rows
section
variable {prog : Program} {w : World} {A : Around} {E : Value → Shared → Prop} {s : Shared}
theorem zep (t b : Addr) (items items2 : Array Value) (n n2 : Nat) (dd dd2 : Option Addr) (sl sl2 : Array (Option Value)) (h0 : items.isEmpty = true) :
  Meets (Builtin.«tuple.__add__» ⟨[.ref t, .ref b], []⟩) (fun _ R s => s.heap.get? t = some ⟨.type "tuple", dd, .seq items n, sl⟩ ∧ s.heap.get? b = some ⟨.type "tuple", dd2, .seq items2 n2, sl2⟩ ∧ R (.ok (.ret (.ref b))) s) :=
 .of_wp fun prog w A R s h => by
  obtain ⟨hp, g, d, tk, os⟩ := s
  obtain ⟨h1, h2, h⟩ := h
  have hsub := sub_tuple_self
  wp_walk using wpAny_loadPart' h1, wpAny_loadPart' h2
  exact ⟨_, rfl, h⟩
end
section
variable {X : Cx}
theorem zbw {H : Hp} {p : Addr} (h : H p = none) (o : HO) : zen H (upd H p o) := fun b u q => by rw [zaz (zaO q h)]; exact q
def rCatA (K : PySem.W.Frag) : R2 := fun x y H Q => ∃ a b xs ys, x = .ref a ∧ y = .ref b ∧ SqT K H a xs ∧ SqT K H b ys ∧ xs.length + ys.length ≤ sizeLine ∧ ∀ r H', zen H H' → SqT K H' r (xs ++ ys) → Q (.ref r) H'
theorem zln : OpR X (binaryOp .Add) (rCatA X.K) := by
 intro pins s σ H x y v u Q I rx ry h
 obtain ⟨a, b, xs, ys, rfl, rfl, ha, hb, hz, q⟩ := h
 by_cases hx : xs = []
 ·subst hx
  cases rx
  cases ry
  obtain ⟨its, r1, ⟨⟨cls, dd, data, sl⟩, ho, hc, n, hd⟩, _⟩ := I.tuple ha
  obtain ⟨its2, r2, ⟨⟨cls2, dd2, data2, sl2⟩, ho2, hc2, n2, hd2⟩, _⟩ := I.tuple hb
  simp only at hc hd hc2 hd2
  subst hc hd hc2 hd2
  cases r1
  exact PySem.concat_meets ⟨_, ho, rfl⟩ ⟨_, ho2, rfl⟩ PySem.noFill_tuple_add PySem.seq_tuple_add PySem.F.slot_tuple_add PySem.F.entry_tuple_add (PySem.F.args_tuple_add_2 _ _)
   (zep a b _ _ n n2 dd dd2 sl sl2 (by simp)) ⟨ho, ho2, ⟨.ref b, H, I, rfl, q b H (zen.refl H) (by simpa using hb)⟩⟩
 ·refine zk8 pins s σ H _ _ v u Q I rx ry ⟨a, b, xs, ys, rfl, rfl, ha, hb, hx, hz, fun e => q a H (zen.refl H) (by rw [e, List.append_nil]; exact ha), fun _ p hp => q p _ (zbw hp _) (SqT.of zay)⟩
def zks (sc0 : Scope) (N0 : List Str) (scope : Scope) (N : List Str) (fr : List (Option Nat)) : Bool :=
 (scope.kind == .function) && scope.names.all (fun y => y.2 != .cell) && scope.names.all (fun y => y.2 != .local || scope.names.lookup y.1 == some .local) &&
 scope.names.all (fun y => y.2 != .free || (sc0.names.lookup y.1 == some .cell || sc0.names.lookup y.1 == some .free)) && (fr.length == N.length) &&
 (N.zip fr).all (fun p => match p.2 with | none => true | some j => N0[j]? == some p.1 && scope.names.lookup p.1 == some .free) && decide N.Nodup
theorem zaX.of {sc0 : Scope} {N0 : List Str} {scope : Scope} {N : List Str} {fr : List (Option Nat)} (h1 : X.env.scope = sc0) (h2 : X.N = N0) (h : zks sc0 N0 scope N fr = true) : zaX X scope N fr := by
 unfold zks at h
 simp only [Bool.and_eq_true] at h
 obtain ⟨⟨⟨⟨⟨⟨k1, k2⟩, k3⟩, k4⟩, k5⟩, k6⟩, k7⟩ := h
 rw [List.all_eq_true] at k2 k3 k4 k6
 refine ⟨by simpa using k1, fun y hy => by simpa using k2 y hy, fun y hy e => ?_, fun y hy e => ?_, by simpa using k5, fun i j x hi hj => ?_, of_decide_eq_true k7⟩
 ·have := k3 y hy
  rw [e] at this
  simpa using this
 ·have := k4 y hy
  rw [e] at this
  have t : sc0.names.lookup y.1 = some .cell ∨ sc0.names.lookup y.1 = some .free := by simpa using this
  show X.env.scope.names.lookup y.1 = _ ∨ X.env.scope.names.lookup y.1 = _
  rw [h1]
  exact t
 ·have hm : (x, some j) ∈ N.zip fr := by
   have hz : (N.zip fr)[i]? = some (x, some j) := by rw [List.getElem?_zip_eq_some]; exact ⟨hi, hj⟩
   exact List.mem_of_getElem? hz
  have := k6 _ hm
  simp only [Bool.and_eq_true] at this
  rw [h2]
  exact ⟨by simpa using this.1, by simpa using this.2⟩
structure zaS (P : Program) (w : World) (K : PySem.W.Frag) (mg : Str → Option Value) (base : Heap) (x : Str) (ps : List Str) (k : Nat) (sp : Sp) : Prop where
 ex : ∃ f fd, zcv P w K mg base CX0 k f fd ps sp ∧ Binds K fd ps [] ∧ PySem.W.keepIn K (.ref f) = true ∧ mg x = some (.ref f)
theorem pe_fn {x : Str} {ps : List Str} {k k' : Nat} {sp : Sp} {e : Expr} {es : List Expr} {t : TA} {p pos : Pos} (C : zaS X.prog X.w X.K X.mg X.base x ps k sp) (hr : zeh k' X.A) (hg : Gl X x) (ha : PA X (e :: es) t) (hk : k ≤ k' := by first | decide | exact Nat.le_refl _ | omega) (hdb : (x == ("__debug__" : Str)) = false := by decide)
  (he : starEach (e :: es) X.env = (false, eval e X.env) :: starEach es X.env := by rfl) (hpl : (backTo pos (starEach es X.env)).any (·.1) = false := by rfl) : PE X (.Call (.Name x p) (e :: es) [] pos) (zk1 sp [] E0 t) := by
 obtain ⟨f, fd, F, b, kp, m⟩ := C.ex
 exact zk2 F (hr.mono hk) hg m kp b .nil pass0 ha hdb he hpl
end
end L2
end
section
namespace L2
open PySem PySem.Spec PyProof.Rows
section
variable {X : Cx}
theorem Inv.zil {pins : List (Addr × Obj)} {σ : St} {H : Hp} {s : Shared} {C : Addr} {h' : Heap} (I : Inv X pins σ H s) (hn : H C = none) (hL : C ≠ X.env.locals) (h1 : X.s₀.heap.objs.size ≤ C) (h2 : ∀ x c, X.env.cells.lookup x = some c → c ≠ C) (h3 : ∀ p ∈ X.pn ++ pins, p.1 ≠ C)
  (sb : Heap.SameBut C s.heap h') : Inv X pins σ H { s with heap := h' } := I.turned (t' := s.toks) (fun b o hb e => (sb.2 b hb).trans e) hn hL (.inr h1) h2 h3
theorem znj {i : Nat} {x : Str} {elt target iter : Expr} {ifs : List Expr} {scope : Scope} {pos pos' spos : Pos} {N : List Str} {fr : List (Option Nat)} {wi : TI} {g : Bk → TG} {tt : Bk → TT} {te : Bk → TE} (hN : X.N.Nodup) (hi' : X.N[i]? = some x) (hx : X.env.scope.names.lookup x = some .local)
  (hc : X.calm = true) (S : zaX X scope N fr) (hi : PI X target iter wi)
  (hin : ∀ z : Bk, PG (zao X scope z.cl N z.C z.fp z.s z.H) target (g z) ∧ zgR (zao X scope z.cl N z.C z.fp z.s z.H) ifs (tt z) ∧ PE (zao X scope z.cl N z.C z.fp z.s z.H) elt (te z))
  (hs : ∀ x, foldedSetIterable iter X.env x = pure x := by intro _; rfl) (hsw : swapsWith (.ListComp elt [⟨target, iter, ifs, 0⟩] scope pos) (some (.Name x pos')) spos.line X.env = pure true := by rfl) :
  PS X (.Assign [.Name x pos'] (.ListComp elt [⟨target, iter, ifs, 0⟩] scope pos) spos) (zhT (tLC fr wi g tt te) (zhS i)) := by
 intro pins s σ H Dn I h
 rw [exec_Assign_Name_used _ _ _ _ hsw]
 refine wpAny_bind (wpAny_standAt (wpAny_bind ?_))
 show wpAny _ X.A (do let _ ← comprehension (.ListComp elt [⟨target, iter, ifs, 0⟩] scope pos) scope X.env (firstIterPos [⟨target, iter, ifs, 0⟩] pos) (newList []) (firstAsync [⟨target, iter, ifs, 0⟩]) (firstIter [⟨target, iter, ifs, 0⟩] X.env) (some (assign (.Name x pos') X.env))) _ _ s
 refine wpAny_bind (wpAny_mono (wpAny_comprehension_free (g := ⟨target, iter, ifs, 0⟩) (gs := []) (use := some (assign (.Name x pos') X.env)) (Q := fun _ s' => SP X pins Dn .next s') (E := X.xe) rfl hs (zaG (S.cells I)) S.kind S.locs ?_) (fun _ s' hq => wpAny_pure (wpAny_pure hq)) fun _ _ e => e)
 refine thn (hi pins s σ H _ I h) fun v s1 h1 => thn h1 fun itv s2 h2 => ?_
 obtain ⟨it, fp, tn, J, H2, e, I2, T, st2, f2, h2⟩ := h2
 subst e
 refine wpAny_newObj_type ?_
 have hD : H2 s2.heap.objs.size = none := I2.fresh
 have I3 := I2.zlb (t' := s2.toks) (ys := []) (its := []) .nil (Nat.zero_le _)
 have lt2 : ∀ b ∈ fp, b < s2.heap.objs.size := fun b hb => by
  obtain ⟨o, e, _⟩ := T.obj _ _ st2 b hb
  exact Heap.lt_size e
 have f3 : ∀ b ∈ fp, zek X pins (upd H2 s2.heap.objs.size (.lst [])) b := fun b hb => ⟨by rw [zaz (Nat.ne_of_lt (lt2 b hb))]; exact (f2 b hb).1, (f2 b hb).2⟩
 generalize hs3 : ({ s2 with heap := s2.heap.push { cls := .type "list", data := .seq ([] : List Value).toArray } } : Shared) = s3
 have I3 : Inv X pins σ (upd H2 s2.heap.objs.size (.lst [])) s3 := by rw [← hs3]; exact I3
 have sz3 : s3.heap.objs.size = s2.heap.objs.size + 1 := by rw [← hs3]; exact Heap.size_push ..
 have u23 : Un (frs X.stack) [] H2 (upd H2 s2.heap.objs.size (.lst [])) s2.heap s3.heap := by
  rw [← hs3]
  exact Un.laid (fun b o e => Heap.get?_push_of_some _ e) (Nat.le_refl _) hD
 have ho : s3.os = s2.os := by rw [← hs3]
 have st3 : tn 0 s3.heap := T.keep _ _ _ st2 fun b _ o e => by rw [← hs3]; exact Heap.get?_push_of_some _ e
 refine wpAny_newFunctionEnv S.nocell (by intro y hy; simp at hy) (fun h4 hns hsb => ?_) S.kind
 have lt3 : ∀ b ∈ fp, b < s3.heap.objs.size := fun b hb => Nat.lt_of_lt_of_le (lt2 b hb) (by rw [sz3]; exact Nat.le_succ _)
 have I4 := zdH (tk := s3.toks + ([] : List (Str × Value)).length) I3 S f3 lt3 hns hsb
 have old4 : ∀ b o, s3.heap.get? b = some o → h4.get? b = some o := fun b o e => (hsb.2 b (Nat.ne_of_lt (Heap.lt_size e))).trans (Heap.get?_push_of_some _ e)
 have st4 : tn 0 h4 := T.keep _ _ _ st3 fun b _ o e => old4 b o e
 have h2 := h2 _ hD ⟨zal X.env.cells scope.names [], s3.heap.objs.size, fp, s3, upd H2 s2.heap.objs.size (.lst [])⟩
 obtain ⟨hg, hif, hel⟩ := hin ⟨zal X.env.cells scope.names [], s3.heap.objs.size, fp, s3, upd H2 s2.heap.objs.size (.lst [])⟩
 have loop : codeAny (model X.prog X.w) X.A (.compLoop (.ListComp elt [⟨target, iter, ifs, 0⟩] scope pos) 0 (.ref it) (.ref s2.heap.objs.size) (compEnvC scope (zal X.env.cells scope.names []) s3.heap.objs.size X.env))
   (compPost (model X.prog X.w) X.A X.xe (some (assign (.Name x pos') X.env)) (fun _ s' => SP X pins Dn .next s') (.ref s2.heap.objs.size) s3.heap.objs.size) { s3 with heap := h4, toks := s3.toks + ([] : List (Str × Value)).length } := by
  refine zcL (X := zao X scope (zal X.env.cells scope.names []) N s3.heap.objs.size fp s3 (upd H2 s2.heap.objs.size (.lst []))) (em := (do let _ ← call (.builtin "list.append") [.ref s2.heap.objs.size, ← eval elt (compEnvC scope (zal X.env.cells scope.names []) s3.heap.objs.size X.env)]))
   (compTurn_list ..) (fun _ _ _ z => z) rfl hc rfl hg hif (zgS hel) T I4 st4 (fun b hb => ?_) h2 (fun τ' H' s' J' q => ?_)
  ·obtain ⟨f0, f1, fs, fe, fc, fp'⟩ := f3 b hb
   refine ⟨f0, Nat.ne_of_lt (lt3 b hb), fun z => ?_, .inl hb, fun x c e => fc x c (zaJ scope.names [] (fun _ _ z => by simp at z) e), fun p hp => absurd (show p ∈ ([] : List (Addr × Obj)) from hp) (by simp)⟩
   rcases lK (I3.zcr b z) with z | z
   ·exact f1 z
   ·exact fs z
  ·obtain ⟨m, hn, _⟩ := J'.loc
   have Io : Inv X pins σ H' s' := zbZ (h' := s'.heap) I2 f2 u23 ho (by rw [sz3]; exact Nat.le_succ _) J' (Heap.SameBut.refl ..)
   have Lne : X.env.locals ≠ s3.heap.objs.size := Nat.ne_of_lt I3.lt
   have cne : ∀ y c, X.env.cells.lookup y = some c → c ≠ s3.heap.objs.size := fun y c e => by
    obtain ⟨v, z⟩ := I3.cell y c e
    exact Nat.ne_of_lt z.lt
   show wpAny (model X.prog X.w) X.A (assign (.Name x pos') X.env (.ref s2.heap.objs.size)) _ X.xe s'
   refine wpAny_assign_Name (zcG (v := .ref s2.heap.objs.size) Io hN hi' (.inl hx) rfl (fun s5 I5 sb5 => ?_) (.inr hx))
   obtain ⟨b, sb, hb⟩ := sb5
   have hbne : s3.heap.objs.size ≠ b := by
    rcases hb with e | e
    ·rw [e]; exact Lne.symm
    ·exact (cne _ _ e).symm
   refine ⟨m, hn.sameBut sb hbne, fun h' sb' => ⟨_, H', ?_, q⟩⟩
   refine I5.zil (C := s3.heap.objs.size) J'.free Lne.symm I3.sz cne (fun p hp => ?_) sb'
   exact Nat.ne_of_lt (Heap.lt_size (I3.pin p hp).1)
 exact codeAny_compStart_list loop (T.self X.A 0 _ _ _ st4 loop)
end
end L2
end
section
namespace L2
open PySem PySem.Spec PyProof.Rows
section
variable {X : Cx}
def zeU : List Expr → Option (List Int)
 | [] => some []
 | .Constant (.int i) _ _ :: es => (zeU es).map (i :: ·)
 | _ => none
def tInts (ns : List Int) : TA := fun _ H Q => Q (ns.map V.int) H
theorem zgX : ∀ (es : List Expr) (ns : List Int), zeU es = some ns → PA X es (tInts ns)
 | [], ns, h => by cases h; exact zh0
 | e :: es, ns, h => by
  unfold zeU at h
  split at h
  ·rename_i e1; cases e1
  ·rename_i i j p es' e1
   cases e1
   obtain ⟨ms, h1, rfl⟩ := Option.map_eq_some_iff.mp h
   exact zf7 zki (zgX es ms h1)
  ·cases h
end
end L2
end
section
namespace L2
open PySem PySem.Spec PyProof.Rows
section
variable {X : Cx}
theorem zeV (hc : X.calm = true) : za3 X (.builtin "min") (fun xs H Q => ∃ p ns, xs = [.ref p] ∧ SqL X.K H p (ns.map V.int) ∧ ns ≠ [] ∧ ∀ M : Int, M ∈ ns → (∀ a, a ∈ ns → M ≤ a) → Q (.int M) H) := by
 intro pins s σ H xs us Q I r h
 obtain ⟨p, ns, rfl, hq, hne, q⟩ := h
 obtain ⟨u, rfl, rx⟩ := vals1 r
 cases rx
 obtain ⟨its, rv, pl, hz⟩ := I.list hq
 have hi := intsAre_of rv
 have hn := hi.numsOf
 have hl := hi.length
 obtain ⟨xs, e⟩ := hi.allInts.items
 have hp := pl.isList
 rw [e] at hp
 have en : numsOf its = xs.toList.map (·.1) := by
  have := nums_intItems (xs := xs)
  rw [← e] at this
  exact this
 rw [en] at hn
 have hsz : 0 < xs.size := by
  have h1 : ns.length = xs.size := by rw [← hn, List.length_map, Array.length_toList]
  have : ns.length ≠ 0 := fun z => hne (List.length_eq_zero_iff.mp z)
  omega
 refine min_intList (I.ok.hd hc) hp hsz fun v h' tk hv hk => ?_
 obtain ⟨t, rfl⟩ := intItems_at hv
 obtain ⟨h1, h2⟩ := argBest_lt (numAt xs) (xs.size - 1)
 refine ⟨.int _, H, I.kept (t' := tk) hk, ⟨t, rfl⟩, q _ ?_ fun a ha => ?_⟩
 ·rw [numAt_eq, ← hn]; exact getD_mem (by rw [List.length_map, Array.length_toList]; omega)
 ·rw [← hn] at ha
  obtain ⟨j, hj, rfl⟩ := mem_getD ha
  rw [List.length_map, Array.length_toList] at hj
  rw [← numAt_eq]; exact h2 j (by omega)
end
end L2
end
section
namespace L2
open PySem PySem.Spec PyProof.Rows
section
variable {X : Cx}
theorem zc9 {prog : Program} {w : World} {A : Around} {E : Value → Shared → Prop} {s : Shared} {t sl : Addr} {its : Array Value} {vl vu : Value} {lo hi : Option Int} {Q : Value → Shared → Prop} (ht : IsTup s.heap t its) (hs : s.heap.IsSliceOf sl vl vu .none) (pl : IsPart vl lo) (pu : IsPart vu hi)
  (h0 : HT.sIx its.size 0 lo = 0) (h1 : HT.sIx its.size its.size hi = its.size) (h : Q (.ref t) s) : wpAny (model prog w) A (getItem (.ref t) (.ref sl)) Q E s := by
 have T : s.TypeIs (.ref sl) "slice" := by obtain ⟨o, a, b, _⟩ := id hs; exact ⟨o, a, b⟩
 unfold getItem
 first | with_reducible refine wpAny_holding ?_ | skip
 first | refine wpAny_bind (wpAny_pure ?_) | skip
 refine wpAny_bind (wpAny_sequenceKey ht.typeIs (by decide) ?_)
 refine wpAny_bind (wpAny_callSpecial?_slot (name := "__getitem__") ht.typeIs slot_tuple_getitem (wpAny_call_entry slot_tuple_getitem ht.typeIs entry_tuple_getitem ?_ (args_tuple_getitem _ _)))
 show wpAny _ _ (Builtin.Tuple.tupleItemsOf (.ref t) >>= _) _ _ s
 refine wpAny_bind (tupleItemsOf_ ht (wpAny_bind (wpAny_typeOf T ?_)))
 rw [if_pos (by decide)]
 refine wpAny_bind (HT.zb4 hs pl pu ?_)
 have c : (((HT.sIx its.size 0 lo : Nat) : Int) == 0 && (1 : Int) == 1 && (HT.sIx its.size its.size hi - HT.sIx its.size 0 lo) == its.size) = true := by
  rw [h0, h1, Nat.sub_zero, beq_self_eq_true its.size]; rfl
 show wpAny _ _ (if (((HT.sIx its.size 0 lo : Nat) : Int) == 0 && (1 : Int) == 1 && (HT.sIx its.size its.size hi - HT.sIx its.size 0 lo) == its.size) = true then _ else _) _ _ s
 rw [if_pos c]
 refine wpAny_bind (wpAny_bind (wpAny_typeOf ht.typeIs (wpAny_pure ?_)))
 rw [if_pos (by decide)]
 first
  | exact wpAny_bind (wpAny_pure (wpAny_pure ⟨_, rfl, wpAny_pure h⟩))
  | exact wpAny_bind (wpAny_rule (wpAny_pure ⟨_, rfl, wpAny_pure h⟩))
  | exact wpAny_rule (wpAny_pure ⟨_, rfl, wpAny_pure h⟩)
  | trace_state
def rSlA (K : PySem.W.Frag) : V → Option Int → Option Int → Hp → VK → Prop := fun x lo hi H Q => ∃ a xs, x = .ref a ∧ SqT K H a xs ∧ ∀ r H', zen H H' → SqT K H' r (zh4 xs lo hi) → Q (.ref r) H'
theorem zlo : SlR X (rSlA X.K) := by
 intro pins s σ H x v vl vu lo hi sl Q I rx hs pl pu h
 obtain ⟨a, xs, rfl, hx, q⟩ := h
 by_cases hw : HT.sIx xs.length 0 lo = 0 ∧ HT.sIx xs.length xs.length hi = xs.length
 ·cases rx
  obtain ⟨its, r, ht, hz⟩ := I.tuple hx
  have hlen : its.toArray.size = xs.length := by rw [List.size_toArray]; exact r.length.symm
  refine ⟨"tuple", _, PyProof.Rows.slot_tuple_getitem.lookup, ht.typeIs, ?_⟩
  refine zc9 ht hs pl pu (by rw [hlen]; exact hw.1) (by rw [hlen]; exact hw.2) ⟨.ref a, H, I, rfl, q a H (fun _ _ z => z) ?_⟩
  have e : zh4 xs lo hi = xs := by unfold zh4; rw [hw.1, hw.2, List.drop_zero, Nat.sub_zero, List.take_length]
  rw [e]; exact hx
 ·exact zm1 pins s σ H _ v vl vu lo hi sl Q I rx hs pl pu ⟨a, xs, rfl, hx, hw, fun p hp => q p _ (zbw hp _) (SqT.of zay)⟩
end
end L2
end
section
namespace L2
open PySem PySem.Spec PyProof.Rows PySem.W
section
variable {prog : Program} {w : World} {A : Around} {E : Value → Shared → Prop} {s : Shared}
theorem zgj {T : String} {r d : Addr} {n : Nat} {P : Nat → Value → Prop} {OK : Heap → Prop} {Q : List Value → Shared → Prop} (K : KdlSrc prog w T r d n P OK) (hh : A.handled = none) (hok : OK s.heap) (hn : n ≤ sizeLine)
  (hQ : ∀ h' tk acc, (∀ b o, s.heap.get? b = some o → h'.get? b = some o) → s.heap.objs.size < h'.objs.size → ItemsOf P acc n → Q acc.toList { s with heap := h', toks := tk }) : wpAny (model prog w) A (collect (.ref r)) Q E s := by
 unfold collect
 refine wpAny_bind (wpAny_runValue (codeAny_builtin PySem.F.entry_proto_collect ?_))
 rw [Around.under_plainId PySem.F.plain_proto_collect _]
 show wpAny _ A.in1 (newList [] >>= fun l => again (.builtin "list.__iadd__" ⟨[l, .ref r], []⟩)) _ _ s
 refine wpAny_bind (wpAny_newObj_type ?_)
 refine wpAny_pure ⟨plainId_quiet PySem.F.plain_list_iadd _, codeAny_builtin PySem.F.entry_list_iadd ?_⟩
 rw [Around.under_plainId PySem.F.plain_list_iadd _]
 have hlt := K.there _ hok
 have old : ∀ b o, s.heap.get? b = some o → (s.heap.push { cls := .type "list", data := .seq ([] : List Value).toArray }).get? b = some o := fun b o e => Heap.get?_push_of_some _ e
 have hok' : OK (s.heap.push { cls := .type "list", data := .seq ([] : List Value).toArray }) := K.keep _ _ hok fun b _ o e => old b o e
 show wpAny _ A.in1 (Builtin.List.listExtendWith (.ref s.heap.objs.size) (.ref r) (.ref s.heap.objs.size)) _ _ _
 refine kdl_extend (R := fun res s' => match res with
  | .ok (.ret v) => wpAny (model prog w) A (match v with
   | .ref a => do
    let o ← load a
    match o.data with
     | .seq xs _ => pure xs.toList
     | _ => unsupported "internal:collect"
   | _ => unsupported "internal:collect") Q E s'
  | .ok _ => False
  | .error e => E e s') (s := { s with heap := s.heap.push { cls := .type "list", data := .seq ([] : List Value).toArray } }) K hh hok' s.heap.objs.size (Nat.ne_of_gt hlt.1) (Nat.ne_of_gt hlt.2) (.ref s.heap.objs.size) 0 (Heap.get?_push_size _ rfl) (fun h' tk acc c hk hS hacc => ?_) hn
 show wpAny _ A (load s.heap.objs.size >>= _) _ _ _
 refine wpAny_bind (wpAny_load hS ?_)
 exact wpAny_pure (hQ h' tk acc (fun b o e => hk b o (Nat.ne_of_lt (Heap.lt_size e)) (old b o e)) (Heap.lt_size hS) hacc)
theorem zhw {T : String} {r d : Addr} {n : Nat} {P : Nat → Value → Prop} {OK : Heap → Prop} {ns : List Int} {Q : Value → Shared → Prop} (K : KdlSrc prog w T r d n P OK) (hh : A.handled = none) (hok : OK s.heap) (h64 : n < 64)
  (hP : ∀ acc, ItemsOf P acc n → IntsAre acc.toList ns)
  (h : ∀ (l : Addr) (h' : Heap) (tk e : Nat) (out : Array Value) (ns' : List Int), s.heap.objs.size ≤ l → (∀ b o, s.heap.get? b = some o → h'.get? b = some o) → h'.get? l = some (seqObj "list" out e) → IntsAre out.toList ns' → ns'.Perm ns → ns'.Pairwise (· ≤ ·) → Q (.ref l) { s with heap := h', toks := tk }) :
  wpAny (model prog w) A (call (.builtin "sorted") [.ref r]) Q E s := by
 refine Calls.call_function_entry kind_sorted plain_sorted entry_sorted (args_sorted1 _) ?_
 unfold Builtin.«sorted»
 refine wpAny_bind (m := checkCount "sorted" 1 1 _) (wpAny_pure ?_)
 refine wpAny_bind (zgj K hh hok (by rw [sizeLine_eq]; omega) fun h1 tk acc kp lt1 hacc => ?_)
 have hsz : acc.toList.length = n := by rw [Array.length_toList]; exact hacc.1
 refine wpAny_bind (wpAny_newList ?_ (by rw [sizeLine_eq]; omega))
 have hoL : (h1.push (seqObj "list" acc.toList.toArray 0)).get? h1.objs.size = some (seqObj "list" acc.toList.toArray 0) := Heap.get?_push_size _ rfl
 have le : s.heap.objs.size ≤ h1.objs.size := Nat.le_of_lt lt1
 show wpAny _ _ _ _ _ { s with heap := h1.push (seqObj "list" acc.toList.toArray 0), toks := tk }
 refine wpAny_bind (wpAny_holding (wpAny_call_entry slot_list_sort ⟨_, hoL, rfl⟩ entry_list_sort (list_sort_tree hoL (hP acc hacc) (by omega) fun out ns' a1 a2 a3 => ⟨_, rfl, ?_⟩) (args_list_sort _)))
 obtain ⟨e, he⟩ := sortedHeap_at (out := out) hoL
 refine wpAny_pure ⟨_, rfl, h h1.objs.size _ tk e out ns' le (fun b o q => ?_) he a1 a2 a3⟩
 have q1 := kp b o q
 rw [sortedHeap_old (Nat.ne_of_lt (Heap.lt_size q1)) (by rw [Heap.size_push]; exact Nat.lt_succ_of_lt (Heap.lt_size q1)), Heap.get?_push_of_some _ q1]
end
end L2
end
section
namespace L2
open PySem PySem.Spec PyProof.Rows PySem.W
theorem zim : ∀ {us : List Value} {ns : List Int}, us.length = ns.length → (∀ (j : Nat) (v : Value), us[j]? = some v → ∃ n t, ns[j]? = some n ∧ v = .int n t) → IntsAre us ns
 | [], [], _, _ => .nil
 | [], _ :: _, h, _ => by simp at h
 | _ :: _, [], h, _ => by simp at h
 | u :: us, n :: ns, h, q => by
  obtain ⟨m, t, e, rfl⟩ := q 0 u rfl
  have e : n = m := Option.some.inj e
  subst e
  exact .cons n t (zim (by simpa using h) fun j v hv => q (j + 1) v hv)
theorem KV.at {κ : Type} {kvs : List (κ × V)} {vs : List (κ × Value)} (r : KV kvs vs) : ∀ {j : Nat} {k : κ} {x : Value}, vs[j]? = some (k, x) → ∃ y, kvs[j]? = some (k, y) ∧ RelV y x := by
 induction r with
 | nil => intro j k x h; simp at h
 | @cons a b as bs r1 t ih =>
  intro j k x h
  cases j with
  | zero =>
   have h : b = (k, x) := Option.some.inj h
   subst h
   obtain ⟨k', y⟩ := a
   obtain ⟨e, r2⟩ := r1
   have e : k' = k := e
   subst e
   exact ⟨y, rfl, r2⟩
  | succ j => exact ih (by simpa using h)
section
variable {X : Cx}
theorem zb5 (hc : X.calm = true) : za3 X (.builtin "sorted") (fun xs H Q => ∃ a kvs ns, xs = [.ref a] ∧ H a = some (.dK kvs) ∧ kvs.map (·.1) = ns.map Sum.inl ∧ ns.length < 64 ∧ ∀ (ns' : List Int) l, ns'.Perm ns → ns'.Pairwise (· ≤ ·) → H l = none → Q (.ref l) (upd H l (.lst (ns'.map V.int)))) := by
 intro pins s σ H xs us Q I r h
 obtain ⟨a, kvs, ns, rfl, hq, ek, h64, q⟩ := h
 obtain ⟨u, rfl, rx⟩ := vals1 r
 cases rx
 obtain ⟨hz, hS, vs, rv, m⟩ := znb I.hok hq
 obtain ⟨ep, hm⟩ := m.dictAt
 have ln : kvs.length = ns.length := by
  have := congrArg List.length ek
  rw [List.length_map, List.length_map] at this
  exact this
 have lv := rv.length
 refine zhw (ns := ns) (kdl_dict (knd := zaE X.prog X.w) (kvs := vs) (ep := ep) hS) (I.ok.hd hc) hm (by omega) (fun acc hacc => zim (by rw [Array.length_toList, hacc.1]; omega) fun j v hv => ?_) fun l h' tk e out ns' hl kp he hI pm srt => ?_
 ·obtain ⟨k, x, hkx, hk⟩ := hacc.2 j v (by rw [← Array.getElem?_toList]; exact hv)
  obtain ⟨y, hy, _⟩ := rv.at hkx
  have e1 : (kvs.map (·.1))[j]? = some k := by rw [List.getElem?_map, hy]; rfl
  rw [ek, List.getElem?_map] at e1
  obtain ⟨n, hn, rfl⟩ := Option.map_eq_some_iff.mp e1
  have hk : zf1 (Sum.inl n) v = true := hk
  rcases zaM hk with ⟨i, t, e2, rfl⟩ | ⟨z, t, e2, _⟩
  ·cases e2
   exact ⟨n, t, hn, rfl⟩
  ·cases e2
 ·have hv : zaW (ns'.map V.int) out.toList := by
   clear he pm srt
   generalize out.toList = os at hI
   induction hI with
   | nil => exact .nil
   | cons n t _ ih => exact .cons ⟨_, rfl⟩ ih
  have hlen : (ns'.map V.int).length ≤ sizeLine := by
   rw [List.length_map, pm.length_eq, sizeLine_eq]; omega
  refine ⟨.ref l, _, I.laid (t' := tk) (a := l) (o := .lst (ns'.map V.int)) kp hl ?_, rfl, q ns' _ pm srt (I.hok.fresh hl)⟩
  refine ⟨hlen, out.toList, e, hv, ?_⟩
  rw [he]
end
end L2
end
section
namespace L2
open PySem PySem.Spec PyProof.Rows
end L2
end
section
namespace L2
open PySem PySem.Spec PyProof.Rows
end L2
end
section
namespace L2
open PySem PySem.Spec PyProof.Rows
end L2
end
section
namespace L2
open PySem PySem.Spec PyProof.Rows
end L2
end
section
namespace L2
open PySem PySem.Spec PyProof.Rows
section
variable {prog : Program} {w : World} {A : Around} {E : Value → Shared → Prop} {s : Shared}
theorem zdX {l : Addr} {vs : List Value} {Q : List Value → Shared → Prop} (hl : IsTup s.heap l vs.toArray) (hsz : vs.length ≤ sizeLine)
  (h : Q vs { s with heap := (s.heap.push (seqObj "list" #[] 0)).update s.heap.objs.size (Obj.mapSeq (· ++ vs.toArray)) }) : wpAny (model prog w) A (collect (.ref l)) Q E s := by
 obtain ⟨o, ho, hc, n, hd⟩ := id hl
 unfold collect
 refine wpAny_bind (wpAny_runValue (codeAny_builtin entry_proto_collect' ?_))
 show wpAny _ _ (do again (.builtin "list.__iadd__" ⟨[← newList [], .ref l], []⟩)) _ _ s
 refine wpAny_bind (wpAny_newList (wpAny_pure ⟨Code.quiet_builtin _ (by decide +kernel), codeAny_builtin entry_list_iadd' ?_⟩))
 show wpAny _ _ (Builtin.List.listExtendWith (.ref s.heap.objs.size) (.ref l) (.ref s.heap.objs.size)) _ _ { s with heap := s.heap.push (seqObj "list" #[] 0) }
 unfold Builtin.List.listExtendWith
 have ho' : (s.heap.push (seqObj "list" #[] 0)).get? l = some o := Heap.get?_push_of_some _ ho
 refine wpAny_bind (wpAny_typeOf (T := "tuple") ⟨o, ho', hc⟩ ?_)
 rw [if_pos (by rw [show (Value.type "tuple" == Value.type "tuple") = true from rfl]; simp)]
 refine wpAny_bind (listItems_at ho' hd (wpAny_bind (listItems_at (xs := #[]) (n := 0) (Heap.get?_push_size _ rfl) rfl ?_)))
 rw [if_neg (by simp)]
 refine wpAny_bind (listUpdate_at (xs := #[]) (n := 0) (Heap.get?_push_size _ rfl) rfl ?_ (Nat.zero_le _) (by show (#[] ++ vs.toArray).size ≤ sizeLine + 1; simp only [Array.size_append, List.size_toArray, List.length_nil]; omega))
 refine wpAny_pure ?_
 show wpAny (model prog w) A (do
   let o ← load s.heap.objs.size
   match o.data with
   | .seq xs _ => pure xs.toList
   | _ => unsupported "internal:collect") Q E { s with heap := (s.heap.push (seqObj "list" #[] 0)).update s.heap.objs.size (Obj.mapSeq (· ++ vs.toArray)) }
 refine wpAny_bind (wpAny_load (get?_update_seq (Heap.get?_push_size _ rfl) _) ?_)
 show wpAny _ _ (pure ((#[] : Array Value) ++ vs.toArray).toList) Q E _
 rw [show ((#[] : Array Value) ++ vs.toArray).toList = vs by simp]
 exact wpAny_pure h
theorem zhx {l : Addr} {vs : List Value} {ns : List Int} {Q : Value → Shared → Prop} (hl : IsTup s.heap l vs.toArray) (hI : IntsAre vs ns) (h64 : vs.length < 64)
  (h : ∀ (out : Array Value) (ns' : List Int), IntsAre out.toList ns' → ns'.Perm ns → ns'.Pairwise (· ≤ ·) → Q (.ref (s.heap.objs.size + 1)) { s with heap := sortedAll s.heap vs out }) :
  wpAny (model prog w) A (call (.builtin "sorted") [.ref l]) Q E s := by
 refine Calls.call_function_entry kind_sorted plain_sorted entry_sorted (args_sorted1 _) ?_
 unfold Builtin.«sorted»
 refine wpAny_bind (m := checkCount "sorted" 1 1 _) (wpAny_pure ?_)
 refine wpAny_bind (zdX hl (by rw [sizeLine_eq]; omega) ?_)
 refine wpAny_bind (wpAny_newList ?_ (by rw [sizeLine_eq]; omega))
 have hsz : ((s.heap.push (seqObj "list" #[] 0)).update s.heap.objs.size (Obj.mapSeq (· ++ vs.toArray))).objs.size = s.heap.objs.size + 1 := by rw [Heap.size_update, size_push']
 have hoL : (((s.heap.push (seqObj "list" #[] 0)).update s.heap.objs.size (Obj.mapSeq (· ++ vs.toArray))).push (seqObj "list" vs.toArray 0)).get? (s.heap.objs.size + 1) = some (seqObj "list" vs.toArray 0) := by
  rw [← hsz]; exact Heap.get?_push_size _ rfl
 show wpAny _ _ _ _ _ { s with heap := ((s.heap.push (seqObj "list" #[] 0)).update s.heap.objs.size (Obj.mapSeq (· ++ vs.toArray))).push (seqObj "list" vs.toArray 0) }
 rw [hsz]
 refine wpAny_bind (wpAny_holding (wpAny_call_entry slot_list_sort ⟨_, hoL, rfl⟩ entry_list_sort (list_sort_tree hoL hI h64 fun out ns' a1 a2 a3 => ⟨_, rfl, ?_⟩) (args_list_sort _)))
 exact wpAny_pure ⟨_, rfl, h out ns' a1 a2 a3⟩
end
section
variable {X : Cx}
theorem zdF : za3 X (.builtin "sorted") (fun xs H Q => ∃ p ns, xs = [.ref p] ∧ SqT X.K H p (ns.map V.int) ∧ ns.length < 64 ∧ ∀ (ns' : List Int) l, ns'.Perm ns → ns'.Pairwise (· ≤ ·) → H l = none → Q (.ref l) (upd H l (.lst (ns'.map V.int)))) := by
 intro pins s σ H xs us Q I r h
 obtain ⟨p, ns, rfl, hq, h64, q⟩ := h
 obtain ⟨u, rfl, rx⟩ := vals1 r
 cases rx
 obtain ⟨its, rv, pl, hz⟩ := I.tuple hq
 have hI := intsAre_of rv
 have hl := rv.length
 rw [List.length_map] at hl
 refine zhx pl hI (by omega) fun out ns' ho hp hs => ?_
 obtain ⟨e, he⟩ := sortedAll_at s.heap its out
 have hv : zaW (ns'.map V.int) out.toList := by
  clear he hp hs
  generalize out.toList = os at ho
  induction ho with
  | nil => exact .nil
  | cons n t _ ih => exact .cons ⟨_, rfl⟩ ih
 have hlen : (ns'.map V.int).length ≤ sizeLine := by rw [List.length_map, hp.length_eq, sizeLine_eq]; omega
 refine ⟨.ref (s.heap.objs.size + 1), _, I.laid (t' := s.toks) (a := s.heap.objs.size + 1) (o := .lst (ns'.map V.int)) (fun b u e => sortedAll_old e) (Nat.le_succ _) ?_, rfl, q ns' _ hp hs (I.hok.fresh (Nat.le_succ _))⟩
 refine ⟨hlen, out.toList, e, hv, ?_⟩
 rw [he]
end
end L2
end
section
namespace HT
open PySem PySem.Spec PyProof.Rows
def zcT : List Int → List Int → Bool
 | [], [] => true
 | [], _ :: _ => false
 | _ :: _, [] => true
 | x :: xs, y :: ys => if x = y then zcT xs ys else decide (x ≥ y)
theorem zeC (x y : Int) (xs ys : List Int) : zcT (x :: xs) (y :: ys) = if x = y then zcT xs ys else decide (x ≥ y) := rfl
theorem zeW : zcT [] [] = true := rfl
theorem zeq (y : Int) (ys : List Int) : zcT [] (y :: ys) = false := rfl
theorem zer (x : Int) (xs : List Int) : zcT (x :: xs) [] = true := rfl
theorem zfB : ∀ (xs ys : List Int), zcT xs ys = !lexLt xs ys
 | [], [] => rfl
 | [], _ :: _ => rfl
 | _ :: _, [] => rfl
 | x :: xs, y :: ys => by
  rw [zeC, za8]
  by_cases e : x = y
  ·rw [if_pos e, if_pos e]; exact zfB xs ys
  ·rw [if_neg e, if_neg e]
   by_cases h : x < y
   ·rw [decide_eq_true h, decide_eq_false (by omega)]; rfl
   ·rw [decide_eq_false h, decide_eq_true (by omega)]; rfl
theorem zjM (A : Around) (s : Shared) (a : Int) (t : Tok) (c : Int) (u : Tok) (prog : Program) (w : World) (E : Value → Shared → Prop) (Q : Value → Shared → Prop) (h : Q (.bool (decide (a ≥ c))) s) :
  wpAny (model prog w) A (richCompare .GtE (.int a t) (.int c u)) Q E s := (PyProof.Rows.ge_int h : wpAny (model prog w) A (compareOp .GtE (.int a t) (.int c u)) Q E s)
section
open PySem.SeqAt
open PySem.AutoSeq1 (wpAny_loadPart')
open PySem.MeetsSeq PySem.MeetsSeq2 PySem.MeetsSeq3
theorem zeX (l b : Addr) (items items2 : Array Value) (n n2 : Nat) (dd dd2 : Option Addr) (sl sl2 : Array (Option Value)) (ns ms : List Int) (hi : IntsAre items.toList ns) (hj : IntsAre items2.toList ms) :
  Meets (Builtin.«tuple.__ge__» ⟨[.ref l, .ref b], []⟩)
   (fun _ R s => s.heap.get? l = some { cls := .type "tuple", dict := dd, data := .seq items n, slots := sl } ∧ s.heap.get? b = some { cls := .type "tuple", dict := dd2, data := .seq items2 n2, slots := sl2 } ∧
    R (.ok (.ret (.bool (zcT ns ms)))) s) :=
 .of_wp fun prog w A R s h => by
  obtain ⟨hp, g, d, tk, os⟩ := s; obtain ⟨hl, hb, h⟩ := h
  have f2 := AutoSeq1.sub_tuple_tuple
  have z1 : items.size = ns.length := by rw [← hi.length]; simp
  have z2 : items2.size = ms.length := by rw [← hj.length]; simp
  wp_walk using wpAny_loadPart' hl, wpAny_loadPart' hb, wpAny_forIn_list _ (fun rest b s' => b.1 = none ∧ s' = ⟨hp, g, d, tk, os⟩ ∧ ∃ (vs ws : List Value) (ns' ms' : List Int), rest = vs.zip ws ∧
   IntsAre vs ns' ∧ IntsAre ws ms' ∧ ns'.length + items2.size = ms'.length + items.size ∧ R (.ok (.ret (.bool (zcT ns' ms')))) ⟨hp, g, d, tk, os⟩) _
  case turn =>
   rintro ⟨y, x⟩ rest b s' ⟨hb', rfl, vs, ws, ns', ms', hz, hvi, hwi, hlen, hR⟩
   cases hvi with
   | nil => rw [List.zip_nil_left] at hz; cases hz
   | cons a t hvi' =>
    cases hwi with
    | nil => rw [List.zip_nil_right] at hz; cases hz
    | cons c u hwi' =>
     rw [List.zip_cons_cons] at hz
     injection hz with hyx hrest
     injection hyx with hy hx
     subst hy hx
     rw [zeC] at hR
     simp only [List.length_cons] at hlen
     obtain ⟨e, he, hiff⟩ := zgN A.in1 ⟨hp, g, d, tk, os⟩ a t c u
     refine wpAny_bind (he prog w _ _ ?_)
     cases e with
     | true =>
      rw [if_pos (hiff.mp rfl)] at hR
      wp_walk
      exact ⟨rfl, rfl, _, _, _, _, hrest, hvi', hwi', by omega, hR⟩
     | false =>
      rw [if_neg (fun q => absurd (hiff.mpr q) Bool.false_ne_true)] at hR
      have hri := zjM A.in1 ⟨hp, g, d, tk, os⟩ a t c u prog w
      wp_walk using hri
      exact ⟨_, rfl, by simpa using hR⟩
  case fin =>
   rintro ⟨b1, b2⟩ s' ⟨hb', rfl, vs, ws, ns', ms', hz, hvi, hwi, hlen, hR⟩
   simp only at hb'
   subst hb'
   have hv : zcT ns' ms' = decide (items.size ≥ items2.size) := by
    cases hvi with
    | nil =>
     cases hwi with
     | nil =>
      simp only [List.length_nil] at hlen
      rw [zeW]
      exact (decide_eq_true (by omega)).symm
     | cons c u hw =>
      simp only [List.length_nil, List.length_cons] at hlen
      rw [zeq]
      exact (decide_eq_false (by omega)).symm
    | cons a t hv =>
     cases hwi with
     | nil =>
      simp only [List.length_nil, List.length_cons] at hlen
      rw [zer]
      exact (decide_eq_true (by omega)).symm
     | cons c u hw =>
      rw [List.zip_cons_cons] at hz
      cases hz
   rw [hv] at hR
   wp_walk
   exact ⟨_, rfl, by simpa [Builtin.Tuple.tupleCompareSizes] using hR⟩
  case h =>
   exact ⟨rfl, rfl, items.toList, items2.toList, ns, ms, rfl, hi, hj, by omega, h⟩
end
section
variable {prog : Program} {w : World} {A : Around} {E : Value → Shared → Prop} {s : Shared}
theorem zhy {l b : Addr} {items items2 : Array Value} {ns ms : List Int} {Q : Value → Shared → Prop} (hl : IsTup s.heap l items) (hb : IsTup s.heap b items2) (hi : IntsAre items.toList ns) (hj : IntsAre items2.toList ms)
  (hu : A.units < cLine) (h : Q (.bool (zcT ns ms)) s) : wpAny (model prog w) A (compareOp .GtE (.ref l) (.ref b)) Q E s := by
 obtain ⟨⟨cls, dd, data, sl⟩, ho, hc, n, hd⟩ := id hl
 obtain ⟨⟨cls2, dd2, data2, sl2⟩, ho2, hc2, n2, hd2⟩ := id hb
 simp only at hc hd hc2 hd2
 subst hc hd hc2 hd2
 exact richCompare_meets_room (op := .GtE) ⟨_, ho, rfl⟩ ⟨_, ho2, rfl⟩ PySem.F.slot_tuple_ge PySem.F.entry_tuple_ge (PySem.F.args_tuple_ge_2 _ _) (zeX l b items items2 n n2 dd dd2 sl sl2 ns ms hi hj)
  ⟨ho, ho2, show Value.bool (zcT ns ms) ≠ Value.notImplemented ∧ Q (.bool (zcT ns ms)) s from ⟨(fun x => nomatch x), h⟩⟩ hu
end
end HT
namespace L2
open PySem PySem.Spec PyProof.Rows
section
variable {X : Cx}
def rGeT (K : PySem.W.Frag) : R2 := fun x y H Q => ∃ a b ns ms, x = .ref a ∧ y = .ref b ∧ SqT K H a (ns.map V.int) ∧ SqT K H b (ms.map V.int) ∧ Q (.bl (!HT.lexLt ns ms)) H
theorem znk (hu : X.A.units < cLine) : OpR X (compareOp .GtE) (rGeT X.K) := by
 intro pins s σ H x y v u Q I rx ry h
 obtain ⟨a, b, ns, ms, rfl, rfl, ha, hb, q⟩ := h
 cases rx
 cases ry
 obtain ⟨its, r1, p1, _⟩ := I.tuple ha
 obtain ⟨its2, r2, p2, _⟩ := I.tuple hb
 refine HT.zhy p1 p2 (intsAre_of r1) (intsAre_of r2) hu ⟨.bl (HT.zcT ns ms), H, I, rfl, ?_⟩
 rw [HT.zfB]; exact q
end
end L2
end
section
namespace VL
open PySem PySem.Spec L2 PyProof.Rows
abbrev Zs := Addr → Prop
def keyP : Key → PyData
 | .inl i => .int i
 | .inr x => .str x
def KL (K : PySem.W.Frag) (a : Addr) (xs : List V) : Prop := ∃ (o : Obj) (its : Array Value) (n : Nat), K.lookup a = some o ∧ o.cls = .type "list" ∧ o.dict = none ∧ o.data = .seq its n ∧ its.size ≤ sizeLine ∧ zaW xs its.toList
mutual
inductive Fz (K : PySem.W.Frag) (H : Hp) (Z : Zs) : V → PyData → Prop
 | non : Fz K H Z .non .none
 | bl (b : Bool) : Fz K H Z (.bl b) (.bool b)
 | int (i : Int) : Fz K H Z (.int i) (.int i)
 | str (x : Str) : Fz K H Z (.str x) (.str x)
 | tup {a : Addr} {xs : List V} {ds : List PyData} : SqT K H a xs → Fzs K H Z xs ds → Fz K H Z (.ref a) (.tuple ds)
 | lst {a : Addr} {xs : List V} {ds : List PyData} : Rd H a (.lst xs) → Z a → Fzs K H Z xs ds → Fz K H Z (.ref a) (.list ds)
 | lsK {a : Addr} {xs : List V} {ds : List PyData} : KL K a xs → Fzs K H Z xs ds → Fz K H Z (.ref a) (.list ds)
 | dic {a : Addr} {kxs : List (Key × V)} {ds : List (Key × PyData)} : H a = some (.dK kxs) → Z a → Fzk K H Z kxs ds → Fz K H Z (.ref a) (.dict (ds.map fun p => (keyP p.1, p.2)))
inductive Fzs (K : PySem.W.Frag) (H : Hp) (Z : Zs) : List V → List PyData → Prop
 | nil : Fzs K H Z [] []
 | cons {x : V} {d : PyData} {xs : List V} {ds : List PyData} : Fz K H Z x d → Fzs K H Z xs ds → Fzs K H Z (x :: xs) (d :: ds)
inductive Fzk (K : PySem.W.Frag) (H : Hp) (Z : Zs) : List (Key × V) → List (Key × PyData) → Prop
 | nil : Fzk K H Z [] []
 | cons {k : Key} {x : V} {d : PyData} {xs : List (Key × V)} {ds : List (Key × PyData)} : Fz K H Z x d → Fzk K H Z xs ds → Fzk K H Z ((k, x) :: xs) ((k, d) :: ds)
end
structure za0 (H : Hp) (Z : Zs) (H' : Hp) (Z' : Zs) : Prop where
 zb8 : zdW H H'
 keep : ∀ a o, Z a → H a = some o → H' a = some o
 zs : ∀ a, Z a → Z' a
theorem za0.refl {H : Hp} {Z : Zs} : za0 H Z H Z := ⟨zdW.refl, fun _ _ _ h => h, fun _ h => h⟩
theorem za0.trans {H H1 H2 : Hp} {Z Z1 Z2 : Zs} (g : za0 H Z H1 Z1) (h : za0 H1 Z1 H2 Z2) : za0 H Z H2 Z2 := ⟨g.zb8.trans h.zb8, fun a o z e => h.keep a o (g.zs a z) (g.keep a o z e), fun a z => h.zs a (g.zs a z)⟩
section
variable {K : PySem.W.Frag} {H H' : Hp} {Z Z' : Zs}
mutual
theorem Fz.mono (g : za0 H Z H' Z') : ∀ {x : V} {d : PyData}, Fz K H Z x d → Fz K H' Z' x d
 | _, _, .non => .non
 | _, _, .bl b => .bl b
 | _, _, .int i => .int i
 | _, _, .str x => .str x
 | _, _, .tup h r => .tup (g.zb8.sq h) (Fzs.mono g r)
 | _, _, .lst (a := a) h z r => .lst (by
   rcases h with e | ⟨o, e⟩
   ·exact .inl (g.keep a _ z e)
   ·exact .inr ⟨o, g.keep a _ z e⟩) (g.zs _ z) (Fzs.mono g r)
 | _, _, .lsK h r => .lsK h (Fzs.mono g r)
 | _, _, .dic (a := a) h z r => .dic (g.keep a _ z h) (g.zs _ z) (Fzk.mono g r)
theorem Fzs.mono (g : za0 H Z H' Z') : ∀ {x : List V} {d : List PyData}, Fzs K H Z x d → Fzs K H' Z' x d
 | _, _, .nil => .nil
 | _, _, .cons h r => .cons (Fz.mono g h) (Fzs.mono g r)
theorem Fzk.mono (g : za0 H Z H' Z') : ∀ {x : List (Key × V)} {d : List (Key × PyData)}, Fzk K H Z x d → Fzk K H' Z' x d
 | _, _, .nil => .nil
 | _, _, .cons h r => .cons (Fz.mono g h) (Fzk.mono g r)
end
theorem Fzs.length : ∀ {xs : List V} {ds : List PyData}, Fzs K H Z xs ds → xs.length = ds.length
 | _, _, .nil => rfl
 | _, _, .cons _ r => by rw [List.length_cons, List.length_cons, Fzs.length r]
theorem Fzs.get' : ∀ {xs : List V} {ds : List PyData} {i : Nat} {d : PyData}, Fzs K H Z xs ds → ds[i]? = some d → ∃ x, xs[i]? = some x ∧ Fz K H Z x d
 | _, _, _, _, .nil, e => by simp at e
 | _, _, 0, _, .cons r _, e => by simp at e; subst e; exact ⟨_, rfl, r⟩
 | _, _, i + 1, _, .cons _ t, e => by
  obtain ⟨d, h1, h2⟩ := Fzs.get' (i := i) t (by simpa using e)
  exact ⟨d, by simpa using h1, h2⟩
theorem Fzs.append : ∀ {xs ys : List V} {ds es : List PyData}, Fzs K H Z xs ds → Fzs K H Z ys es → Fzs K H Z (xs ++ ys) (ds ++ es)
 | _, _, _, _, .nil, s => s
 | _, _, _, _, .cons h r, s => .cons h (Fzs.append r s)
theorem Fzs.take : ∀ {xs : List V} {ds : List PyData} (n : Nat), Fzs K H Z xs ds → Fzs K H Z (xs.take n) (ds.take n)
 | _, _, 0, _ => by rw [List.take_zero, List.take_zero]; exact .nil
 | _, _, n + 1, .nil => by rw [List.take_nil, List.take_nil]; exact .nil
 | _, _, n + 1, .cons h r => .cons h (Fzs.take n r)
theorem Fzs.drop : ∀ {xs : List V} {ds : List PyData} (n : Nat), Fzs K H Z xs ds → Fzs K H Z (xs.drop n) (ds.drop n)
 | _, _, 0, h => h
 | _, _, n + 1, .nil => by rw [List.drop_nil, List.drop_nil]; exact .nil
 | _, _, n + 1, .cons h r => Fzs.drop n r
theorem Fzs.set : ∀ {xs : List V} {ds : List PyData} {x : V} {d : PyData} (i : Nat), Fzs K H Z xs ds → Fz K H Z x d → Fzs K H Z (xs.set i x) (ds.set i d)
 | _, _, _, _, _, .nil, _ => .nil
 | _, _, _, _, 0, .cons _ r, h => .cons h r
 | _, _, _, _, i + 1, .cons q r, h => .cons q (Fzs.set i r h)
theorem Fzk.length : ∀ {xs : List (Key × V)} {ds : List (Key × PyData)}, Fzk K H Z xs ds → xs.length = ds.length
 | _, _, .nil => rfl
 | _, _, .cons _ r => by rw [List.length_cons, List.length_cons, Fzk.length r]
theorem Fzk.keys : ∀ {xs : List (Key × V)} {ds : List (Key × PyData)}, Fzk K H Z xs ds → xs.map (·.1) = ds.map (·.1)
 | _, _, .nil => rfl
 | _, _, .cons _ r => by rw [List.map_cons, List.map_cons, Fzk.keys r]
theorem Fz.int_inv {x : V} {i : Int} (h : Fz K H Z x (.int i)) : x = .int i := by cases h; rfl
theorem Fz.zin {x : V} {i : Bool} (h : Fz K H Z x (.bool i)) : x = .bl i := by cases h; rfl
theorem Fz.str_inv {x : V} {i : Str} (h : Fz K H Z x (.str i)) : x = .str i := by cases h; rfl
theorem Fz.zlp {x : V} (h : Fz K H Z x .none) : x = .non := by cases h; rfl
theorem Fz.zda {x : V} {ds : List PyData} (h : Fz K H Z x (.tuple ds)) : ∃ a xs, x = .ref a ∧ SqT K H a xs ∧ Fzs K H Z xs ds := by
 cases h with
 | tup q r => exact ⟨_, _, rfl, q, r⟩
theorem Fz.lst_inv {x : V} {ds : List PyData} (h : Fz K H Z x (.list ds)) : ∃ a xs, x = .ref a ∧ SqL K H a xs ∧ Fzs K H Z xs ds := by
 cases h with
 | lst q z r => exact ⟨_, _, rfl, .inl q, r⟩
 | lsK q r => exact ⟨_, _, rfl, .inr q, r⟩
theorem Fzs.ints : ∀ (ns : List Int), Fzs K H Z (ns.map V.int) (ns.map .int)
 | [] => .nil
 | n :: ns => .cons (.int n) (Fzs.ints ns)
theorem Fzs.zbm : ∀ {ns : List Int} {xs : List V}, Fzs K H Z xs (ns.map .int) → xs = ns.map V.int
 | [], _, .nil => rfl
 | n :: ns, _, .cons (.int _) r => by rw [Fzs.zbm r]; rfl
end
section
variable {X : Cx} {pins : List (Addr × Obj)} {σ : L2.St} {H : Hp} {s : Shared} {Z : Zs}
mutual
theorem Fz.reads (I : Inv X pins σ H s) : ∀ {v : V} {d : PyData} {u : Value}, Fz X.K H Z v d → d.canLay0 = true → RelV v u → ∃ as, Reads s.heap u d as
 | _, _, _, .non, _, r => by cases r; exact ⟨_, .none⟩
 | _, _, _, .bl b, _, r => by cases r; exact ⟨_, .bool b⟩
 | _, _, _, .int i, _, r => by obtain ⟨t, rfl⟩ := r; exact ⟨_, .int i t⟩
 | _, _, _, .str x, _, r => by obtain ⟨t, rfl⟩ := r; exact ⟨_, .str x t⟩
 | _, _, _, .tup q rs, c, r => by
  cases r
  obtain ⟨its, rv, ⟨o, ho, hc, n, hd⟩, _⟩ := I.tuple q
  obtain ⟨as, h⟩ := Fzs.reads I rs c rv
  exact ⟨as, .tuple ho hc hd (by simpa using h)⟩
 | _, _, _, .lst q z rs, c, r => by
  cases r
  obtain ⟨its, rv, ⟨o, n, ho, hc, hdd, hd⟩, _⟩ := I.list (.inl q)
  obtain ⟨as, h⟩ := Fzs.reads I rs c rv
  exact ⟨_, .list ho hc hd (by simpa using h)⟩
 | _, _, _, .lsK q rs, c, r => by
  cases r
  obtain ⟨its, rv, ⟨o, n, ho, hc, hdd, hd⟩, _⟩ := I.list (.inr q)
  obtain ⟨as, h⟩ := Fzs.reads I rs c rv
  exact ⟨_, .list ho hc hd (by simpa using h)⟩
 | _, _, _, .dic _ _ _, c, _ => nomatch c
theorem Fzs.reads (I : Inv X pins σ H s) : ∀ {v : List V} {d : List PyData} {u : List Value}, Fzs X.K H Z v d → PyData.canLayAll0 d = true → zaW v u → ∃ as, ReadsAll s.heap u d as
 | _, _, _, .nil, _, .nil => ⟨_, .nil⟩
 | _, _, _, .cons (d := d) (ds := ds) r q, c, .cons a b => by
  have c' : d.canLay0 = true ∧ PyData.canLayAll0 ds = true := by simpa [PyData.canLayAll0] using c
  obtain ⟨x, h1⟩ := Fz.reads I r c'.1 a
  obtain ⟨y, h2⟩ := Fzs.reads I q c'.2 b
  exact ⟨_, .cons h1 h2⟩
end
end
end VL
end
section
namespace VL
open PySem PySem.Spec L2 PyProof.Rows
inductive M where
 | v (d : PyData)
 | lst (ds : List PyData)
 | dic (kvs : List (Key × PyData))
 | dls (kvs : List (Key × List PyData))
abbrev Ev := List (Option M)
section
variable (K : PySem.W.Frag) (H : Hp) (Z : Zs)
inductive Owl : List (Key × V) → List (Key × List PyData) → List Addr → Prop
 | nil : Owl [] [] []
 | cons {k : Key} {b : Addr} {xs : List V} {ds : List PyData} {kxs : List (Key × V)} {kvs : List (Key × List PyData)} {G : List Addr} : H b = some (.lst xs) → Fzs K H Z xs ds → Owl kxs kvs G → Owl ((k, .ref b) :: kxs) ((k, ds) :: kvs) (b :: G)
inductive Ow : V → M → List Addr → Prop
 | v {x : V} {d : PyData} : Fz K H Z x d → Ow x (.v d) []
 | lst {a : Addr} {xs : List V} {ds : List PyData} : H a = some (.lst xs) → Fzs K H Z xs ds → Ow (.ref a) (.lst ds) [a]
 | dic {a : Addr} {kxs : List (Key × V)} {kvs : List (Key × PyData)} : H a = some (.dK kxs) → Fzk K H Z kxs kvs → Ow (.ref a) (.dic kvs) [a]
 | dls {a : Addr} {kxs : List (Key × V)} {kvs : List (Key × List PyData)} {G : List Addr} : H a = some (.dK kxs) → Owl K H Z kxs kvs G → Ow (.ref a) (.dls kvs) (a :: G)
inductive Owo : L2.St → Ev → List Addr → Prop
 | nil : Owo [] [] []
 | non {x : Option V} {σ : L2.St} {ρ : Ev} {F : List Addr} : Owo σ ρ F → Owo (x :: σ) (none :: ρ) F
 | som {x : V} {m : M} {G : List Addr} {σ : L2.St} {ρ : Ev} {F : List Addr} : Ow K H Z x m G → Owo σ ρ F → Owo (some x :: σ) (some m :: ρ) (G ++ F)
end
def Mu (o : HO) : Prop := (∃ xs, o = .lst xs) ∨ ∃ kvs, o = .dK kvs
structure Wf (H : Hp) (Z : Zs) (F : List Addr) : Prop where
 nd : F.Nodup
 dz : ∀ a ∈ F, ¬ Z a
 za : ∀ a, Z a → H a ≠ none
structure Fut (H : Hp) (Z : Zs) (F : List Addr) (H' : Hp) (Z' : Zs) (F' : List Addr) : Prop where
 keep : ∀ a o, a ∉ F → H a = some o → H' a = some o
 zb8 : zdW H H'
 zs : ∀ a, Z a → Z' a
 zn : ∀ a, Z' a → Z a ∨ a ∈ F ∨ H a = none
 fr : ∀ a ∈ F', a ∈ F ∨ H a = none
 nd : F'.Nodup
 dz : ∀ a ∈ F', ¬ Z' a
 za : ∀ a, Z' a → H' a ≠ none
section
variable {K : PySem.W.Frag} {H H' H1 H2 : Hp} {Z Z' Z1 Z2 : Zs} {F F' F1 F2 G : List Addr}
theorem Fut.refl (w : Wf H Z F) : Fut H Z F H Z F := ⟨fun _ _ _ h => h, zdW.refl, fun _ h => h, fun _ h => .inl h, fun _ h => .inl h, w.nd, w.dz, w.za⟩
theorem Fut.wf (f : Fut H Z F H' Z' F') : Wf H' Z' F' := ⟨f.nd, f.dz, f.za⟩
theorem Fut.grow (f : Fut H Z F H' Z' F') (w : Wf H Z F) : za0 H Z H' Z' := ⟨f.zb8, fun a o z e => f.keep a o (fun h => w.dz a h z) e, f.zs⟩
theorem Fut.trans (f : Fut H Z F H1 Z1 F1) (g : Fut H1 Z1 F1 H2 Z2 F2) : Fut H Z F H2 Z2 F2 := by
 have old : ∀ a, H1 a = none → a ∈ F ∨ H a = none := fun a e => by
  by_cases h : a ∈ F
  ·exact .inl h
  ·cases q : H a with
   | none => exact .inr rfl
   | some o => rw [f.keep a o h q] at e; cases e
 refine ⟨fun a o h e => g.keep a o (fun z => ?_) (f.keep a o h e), f.zb8.trans g.zb8, fun a z => g.zs a (f.zs a z), fun a z => ?_, fun a h => ?_, g.nd, g.dz, g.za⟩
 ·rcases f.fr a z with z | z
  ·exact h z
  ·rw [e] at z; cases z
 ·rcases g.zn a z with z | z | z
  ·exact f.zn a z
  ·exact .inr (f.fr a z)
  ·exact .inr (old a z)
 ·rcases g.fr a h with z | z
  ·exact f.fr a z
  ·exact old a z
theorem Fut.frame (f : Fut H Z F H' Z' F') (w : Wf H Z (F ++ G)) (al : ∀ a ∈ G, H a ≠ none) : Fut H Z (F ++ G) H' Z' (F' ++ G) := by
 have nd := List.nodup_append.mp w.nd
 have sep : ∀ a ∈ G, a ∉ F := fun a h z => nd.2.2 a z a h rfl
 refine ⟨fun a o h e => f.keep a o (fun z => h (lL _ z)) e, f.zb8, f.zs, fun a z => ?_, fun a h => ?_, ?_, fun a h z => ?_, f.za⟩
 ·rcases f.zn a z with z | z | z
  ·exact .inl z
  ·exact .inr (.inl (lL _ z))
  ·exact .inr (.inr z)
 ·rcases lM h with h | h
  ·rcases f.fr a h with z | z
   ·exact .inl (lL _ z)
   ·exact .inr z
  ·exact .inl (lR _ h)
 ·refine List.nodup_append.mpr ⟨f.nd, nd.2.1, fun a h b h' e => ?_⟩
  subst e
  rcases f.fr a h with z | z
  ·exact sep a h' z
  ·exact al a h' z
 ·rcases lM h with h | h
  ·exact f.dz a h z
  ·rcases f.zn a z with z | z | z
   ·exact w.dz a (lR _ h) z
   ·exact sep a h z
   ·exact al a h z
theorem Fut.sub (f : Fut H Z F H' Z' F') (hn : F1.Nodup) (hs : ∀ a ∈ F1, a ∈ F') : Fut H Z F H' Z' F1 := ⟨f.keep, f.zb8, f.zs, f.zn, fun a h => f.fr a (hs a h), hn, fun a h => f.dz a (hs a h), f.za⟩
theorem Fut.left (f : Fut H Z F H' Z' (F1 ++ G)) : Fut H Z F H' Z' F1 := f.sub (List.nodup_append.mp f.nd).1 fun _ h => lL _ h
theorem Fut.nil (f : Fut H Z F H' Z' F1) : Fut H Z F H' Z' (F1 ++ []) := by rw [List.append_nil]; exact f
theorem Fut.swap (f : Fut H Z F H' Z' (F1 ++ G)) : Fut H Z F H' Z' (G ++ F1) := f.sub (by
  have h := List.nodup_append.mp f.nd
  exact List.nodup_append.mpr ⟨h.2.1, h.1, fun a x b y e => h.2.2 b y a x e.symm⟩) fun a h => by
  rcases lM h with h | h
  ·exact lR _ h
  ·exact lL _ h
theorem Owl.mem : ∀ {kxs : List (Key × V)} {kvs : List (Key × List PyData)} {G : List Addr}, Owl K H Z kxs kvs G → ∀ a ∈ G, ∃ o, H a = some o ∧ Mu o
 | _, _, _, .nil, a, h => by simp at h
 | _, _, _, .cons e _ r, a, h => by
  rcases lK h with h | h
  ·subst h; exact ⟨_, e, .inl ⟨_, rfl⟩⟩
  ·exact Owl.mem r a h
theorem Ow.mem {x : V} {m : M} (h : Ow K H Z x m G) : ∀ a ∈ G, ∃ o, H a = some o ∧ Mu o := fun a ha => by
 cases h with
 | v _ => simp at ha
 | lst e _ => rw [List.mem_singleton] at ha; subst ha; exact ⟨_, e, .inl ⟨_, rfl⟩⟩
 | dic e _ => rw [List.mem_singleton] at ha; subst ha; exact ⟨_, e, .inr ⟨_, rfl⟩⟩
 | dls e r =>
  rcases lK ha with ha | ha
  ·subst ha; exact ⟨_, e, .inr ⟨_, rfl⟩⟩
  ·exact r.mem a ha
theorem Ow.al {x : V} {m : M} (h : Ow K H Z x m G) : ∀ a ∈ G, H a ≠ none := fun a ha e => by obtain ⟨o, q, _⟩ := h.mem a ha; rw [q] at e; cases e
theorem Owo.mem : ∀ {σ : L2.St} {ρ : Ev} {F : List Addr}, Owo K H Z σ ρ F → ∀ a ∈ F, ∃ o, H a = some o ∧ Mu o
 | _, _, _, .nil, a, h => by simp at h
 | _, _, _, .non r, a, h => Owo.mem r a h
 | _, _, _, .som q r, a, h => by
  rcases lM h with h | h
  ·exact q.mem a h
  ·exact Owo.mem r a h
theorem Owo.al {σ : L2.St} {ρ : Ev} (h : Owo K H Z σ ρ F) : ∀ a ∈ F, H a ≠ none := fun a ha e => by obtain ⟨o, q, _⟩ := h.mem a ha; rw [q] at e; cases e
theorem Owl.mono (g : za0 H Z H' Z') : ∀ {kxs : List (Key × V)} {kvs : List (Key × List PyData)} {G : List Addr}, Owl K H Z kxs kvs G → (∀ a ∈ G, ∀ o, H a = some o → H' a = some o) → Owl K H' Z' kxs kvs G
 | _, _, _, .nil, _ => .nil
 | _, _, _, .cons e f r, k => .cons (k _ lS _ e) (f.mono g) (Owl.mono g r fun a h => k a (lO _ h))
theorem Ow.mono {x : V} {m : M} (g : za0 H Z H' Z') (h : Ow K H Z x m G) (k : ∀ a ∈ G, ∀ o, H a = some o → H' a = some o) : Ow K H' Z' x m G := by
 cases h with
 | v f => exact .v (f.mono g)
 | lst e f => exact .lst (k _ lS _ e) (f.mono g)
 | dic e f => exact .dic (k _ lS _ e) (f.mono g)
 | dls e f => exact .dls (k _ lS _ e) (f.mono g fun a h => k a (lO _ h))
theorem Owo.mono (g : za0 H Z H' Z') : ∀ {σ : L2.St} {ρ : Ev} {F : List Addr}, Owo K H Z σ ρ F → (∀ a ∈ F, ∀ o, H a = some o → H' a = some o) → Owo K H' Z' σ ρ F
 | _, _, _, .nil, _ => .nil
 | _, _, _, .non r, k => .non (Owo.mono g r k)
 | _, _, _, .som q r, k => .som (q.mono g fun a h => k a (lL _ h)) (Owo.mono g r fun a h => k a (lR _ h))
theorem Owo.get : ∀ {σ : L2.St} {ρ : Ev} {F : List Addr} {i : Nat} {m : M}, Owo K H Z σ ρ F → ρ[i]? = some (some m) → ∃ x G, σ[i]? = some (some x) ∧ Ow K H Z x m G ∧ ∀ a ∈ G, a ∈ F
 | _, _, _, _, _, .nil, e => by simp at e
 | _, _, _, 0, _, .non r, e => by simp at e
 | _, _, _, i + 1, _, .non r, e => by
  obtain ⟨x, G, h1, h2, h3⟩ := Owo.get (i := i) r (by simpa using e)
  exact ⟨x, G, by simpa using h1, h2, h3⟩
 | _, _, _, 0, _, .som q r, e => by simp at e; subst e; exact ⟨_, _, rfl, q, fun a h => lL _ h⟩
 | _, _, _, i + 1, _, .som q r, e => by
  obtain ⟨x, G, h1, h2, h3⟩ := Owo.get (i := i) r (by simpa using e)
  exact ⟨x, G, by simpa using h1, h2, fun a h => lR _ (h3 a h)⟩
theorem Owo.take : ∀ {σ : L2.St} {ρ : Ev} {F : List Addr} {i : Nat} {m : M}, Owo K H Z σ ρ F → F.Nodup → ρ[i]? = some (some m) →
  ∃ x G F1, σ[i]? = some (some x) ∧ Ow K H Z x m G ∧ Owo K H Z σ (ρ.set i none) F1 ∧ (F1 ++ G).Nodup ∧ ∀ a, a ∈ F1 ++ G → a ∈ F
 | _, _, _, _, _, .nil, _, e => by simp at e
 | _, _, _, 0, _, .non r, _, e => by simp at e
 | _, _, _, i + 1, _, .non r, nd, e => by
  obtain ⟨x, G, F1, h1, h2, h3, h4, h5⟩ := Owo.take (i := i) r nd (by simpa using e)
  exact ⟨x, G, F1, by simpa using h1, h2, .non h3, h4, h5⟩
 | _, _, _, 0, _, .som (G := G) (F := F) q r, nd, e => by
  simp at e; subst e
  have h := List.nodup_append.mp nd
  exact ⟨_, G, F, rfl, q, .non r, List.nodup_append.mpr ⟨h.2.1, h.1, fun a x b y e => h.2.2 b y a x e.symm⟩, fun a h => by
   rcases lM h with h | h
   ·exact lR _ h
   ·exact lL _ h⟩
 | _, _, _, i + 1, _, .som (G := G0) (F := F) q r, nd, e => by
  have h := List.nodup_append.mp nd
  obtain ⟨x, G, F1, h1, h2, h3, h4, h5⟩ := Owo.take (i := i) r h.2.1 (by simpa using e)
  refine ⟨x, G, G0 ++ F1, by simpa using h1, h2, .som q h3, ?_, fun a z => ?_⟩
  ·rw [List.append_assoc]
   exact List.nodup_append.mpr ⟨h.1, h4, fun a x b y e => h.2.2 a x b (h5 b y) e⟩
  ·rw [List.append_assoc] at z
   rcases lM z with z | z
   ·exact lL _ z
   ·exact lR _ (h5 a z)
theorem Owo.drop : ∀ {σ : L2.St} {ρ : Ev} {F : List Addr} (i : Nat), Owo K H Z σ ρ F → F.Nodup → ∃ F1, Owo K H Z σ (ρ.set i none) F1 ∧ F1.Nodup ∧ ∀ a ∈ F1, a ∈ F
 | _, _, _, _, .nil, nd => ⟨_, .nil, nd, fun _ h => h⟩
 | _, _, _, 0, .non r, nd => ⟨_, .non r, nd, fun _ h => h⟩
 | _, _, _, i + 1, .non r, nd => by
  obtain ⟨F1, h1, h2, h3⟩ := Owo.drop i r nd
  exact ⟨F1, .non h1, h2, h3⟩
 | _, _, _, 0, .som q r, nd => ⟨_, .non r, (List.nodup_append.mp nd).2.1, fun _ h => lR _ h⟩
 | _, _, _, i + 1, .som (G := G0) q r, nd => by
  have h := List.nodup_append.mp nd
  obtain ⟨F1, h1, h2, h3⟩ := Owo.drop i r h.2.1
  refine ⟨G0 ++ F1, .som q h1, List.nodup_append.mpr ⟨h.1, h2, fun a x b y e => h.2.2 a x b (h3 b y) e⟩, fun a z => ?_⟩
  rcases lM z with z | z
  ·exact lL _ z
  ·exact lR _ (h3 a z)
theorem Owo.put : ∀ {σ : L2.St} {ρ : Ev} {F : List Addr} {i : Nat} {x : V} {m : M} {G : List Addr}, Owo K H Z σ ρ F → Ow K H Z x m G → (F ++ G).Nodup → ρ[i]? = some none →
  ∃ F1, Owo K H Z (σ.set i (some x)) (ρ.set i (some m)) F1 ∧ F1.Nodup ∧ ∀ a ∈ F1, a ∈ F ++ G
 | _, _, _, _, _, _, _, .nil, _, _, e => by simp at e
 | _, _, _, 0, _, _, G, .non (F := F) r, h, nd, e => by
  have h' := List.nodup_append.mp nd
  exact ⟨G ++ F, .som h r, List.nodup_append.mpr ⟨h'.2.1, h'.1, fun a x b y e => h'.2.2 b y a x e.symm⟩, fun a h => by
   rcases lM h with h | h
   ·exact lR _ h
   ·exact lL _ h⟩
 | _, _, _, i + 1, _, _, G, .non r, h, nd, e => by
  obtain ⟨F1, h1, h2, h3⟩ := Owo.put (i := i) r h nd (by simpa using e)
  exact ⟨F1, .non h1, h2, h3⟩
 | _, _, _, 0, _, _, _, .som q r, _, _, e => by simp at e
 | _, _, _, i + 1, _, _, G, .som (G := G0) (F := F) q r, h, nd, e => by
  rw [List.append_assoc] at nd
  have h' := List.nodup_append.mp nd
  obtain ⟨F1, h1, h2, h3⟩ := Owo.put (i := i) r h h'.2.1 (by simpa using e)
  refine ⟨G0 ++ F1, .som q h1, List.nodup_append.mpr ⟨h'.1, h2, fun a x b y e => h'.2.2 a x b (h3 b y) e⟩, fun a z => ?_⟩
  rw [List.append_assoc]
  rcases lM z with z | z
  ·exact lL _ z
  ·exact lR _ (h3 a z)
end
end VL
end
section
namespace VL
open PySem PySem.Spec L2 PyProof.Rows
inductive Opd where
 | t (m : M)
 | p (i : Nat)
 | q (i : Nat) (k : Key)
def zdY {α : Type} (kvs : List (Key × α)) (k : Key) : Option α := (kvs.find? fun kv => decide (kv.1 = k)).map (·.2)
def at? (ρ : Ev) (i : Nat) : Option M := match ρ[i]? with
 | some (some m) => some m
 | _ => none
theorem zas {ρ : Ev} {i : Nat} {m : M} : at? ρ i = some m ↔ ρ[i]? = some (some m) := by
 unfold at?
 split
 ·next h => rw [h]; simp
 ·next h =>
  exact ⟨fun e => (nomatch e), fun e => (h m e).elim⟩
def zeY (ρ : Ev) : Opd → Option M
 | .t m => some m
 | .p i => at? ρ i
 | .q _ _ => none
def peek (ρ : Ev) : Opd → Option M
 | .t m => some m
 | .p i => at? ρ i
 | .q i k => match at? ρ i with
  | some (.dls kvs) => (zdY kvs k).map .lst
  | _ => none
def zes (ρ : Ev) : List Opd → Option (List M)
 | [] => some []
 | o :: os => (peek ρ o).bind fun m => (zes ρ os).bind fun ms => some (m :: ms)
theorem zbx {ρ : Ev} {o : Opd} {m : M} (h : zeY ρ o = some m) : peek ρ o = some m := by
 cases o with
 | t _ => exact h
 | p _ => exact h
 | q _ _ => cases h
inductive Opv (K : PySem.W.Frag) (H : Hp) (Z : Zs) (σ : L2.St) : V → Opd → List Addr → Prop
 | t {x : V} {m : M} {G : List Addr} : Ow K H Z x m G → Opv K H Z σ x (.t m) G
 | p {x : V} {i : Nat} : σ[i]? = some (some x) → Opv K H Z σ x (.p i) []
 | q {x : V} {i : Nat} {k : Key} {a : Addr} {kxs : List (Key × V)} : σ[i]? = some (some (.ref a)) → H a = some (.dK kxs) → zfg kxs k = some x → Opv K H Z σ x (.q i k) []
inductive zfY (K : PySem.W.Frag) (H : Hp) (Z : Zs) (σ : L2.St) : List V → List Opd → List Addr → Prop
 | nil : zfY K H Z σ [] [] []
 | cons {x : V} {o : Opd} {G : List Addr} {xs : List V} {os : List Opd} {G' : List Addr} : Opv K H Z σ x o G → zfY K H Z σ xs os G' → zfY K H Z σ (x :: xs) (o :: os) (G ++ G')
def Ro (K : PySem.W.Frag) (H : Hp) (Z : Zs) (x : V) (m : M) : Prop := ∃ G, Ow K H Z x m G
def Ros (K : PySem.W.Frag) (H : Hp) (Z : Zs) : List V → List M → Prop := Paired (Ro K H Z)
section
variable {K : PySem.W.Frag} {H H' H1 H2 H3 : Hp} {Z Z' Z1 Z2 Z3 : Zs} {F F' F1 F2 G : List Addr} {σ : L2.St} {ρ : Ev}
theorem Owl.get : ∀ {kxs : List (Key × V)} {kvs : List (Key × List PyData)} {G : List Addr} {k : Key} {ds : List PyData}, Owl K H Z kxs kvs G → zdY kvs k = some ds → ∃ b xs, zfg kxs k = some (.ref b) ∧ H b = some (.lst xs) ∧ Fzs K H Z xs ds ∧ b ∈ G
 | _, _, _, _, _, .nil, e => by cases e
 | _, _, _, k, ds, .cons (k := k') (b := b) (kxs := kxs) (kvs := kvs) (ds := ds') h f r, e => by
  unfold zdY at e
  rw [List.find?_cons] at e
  unfold zfg
  rw [List.find?_cons]
  by_cases hk : k' = k
  ·simp only [hk, decide_true, Option.map_some] at e ⊢
   cases e
   exact ⟨b, _, rfl, h, f, lS⟩
  ·simp only [hk, decide_false] at e ⊢
   obtain ⟨b', xs, h1, h2, h3, h4⟩ := Owl.get (k := k) r e
   exact ⟨b', xs, h1, h2, h3, lO _ h4⟩
theorem Opv.peek {x : V} {o : Opd} {m : M} (S : Owo K H Z σ ρ F) (h : Opv K H Z σ x o G) (e : VL.peek ρ o = some m) : Ro K H Z x m := by
 cases h with
 | t q => cases e; exact ⟨_, q⟩
 | p q =>
  obtain ⟨x', G', h1, h2, _⟩ := S.get (zas.mp e)
  rw [q] at h1; cases h1
  exact ⟨_, h2⟩
 | q h1 h2 h3 =>
  rename_i i k a kxs
  have e : (match at? ρ i with
   | some (.dls kvs) => (zdY kvs k).map M.lst
   | _ => none) = some m := e
  split at e
  ·next kvs hk =>
   obtain ⟨x', G', q1, q2, _⟩ := S.get (zas.mp hk)
   rw [h1] at q1; cases q1
   obtain ⟨ds, e1, e2⟩ := Option.map_eq_some_iff.mp e
   subst e2
   cases q2 with
   | dls q3 q4 =>
    rw [h2] at q3; cases q3
    obtain ⟨b, xs, z1, z2, z3, _⟩ := q4.get e1
    rw [h3] at z1; cases z1
    exact ⟨_, .lst z2 z3⟩
  ·cases e
theorem zfY.peek : ∀ {xs : List V} {os : List Opd} {ms : List M} {G : List Addr}, Owo K H Z σ ρ F → zfY K H Z σ xs os G → zes ρ os = some ms → Ros K H Z xs ms
 | _, _, _, _, _, .nil, e => by cases e; exact .nil
 | _, _, _, _, S, .cons h r, e => by
  obtain ⟨m, h1, e⟩ := oB e
  obtain ⟨ms, h2, e⟩ := oB e
  cases e
  exact .cons (h.peek S h1) (zfY.peek S r h2)
theorem Opv.al {x : V} {o : Opd} (h : Opv K H Z σ x o G) : ∀ a ∈ G, H a ≠ none := by
 cases h with
 | t q => exact q.al
 | p _ => intro a h; simp at h
 | q _ _ _ => intro a h; simp at h
def zlq : Opd → Bool
 | .q _ _ => false
 | _ => true
theorem zby {o : Opd} {m : M} (h : zeY ρ o = some m) : zlq o = true := by
 cases o with
 | t _ => rfl
 | p _ => rfl
 | q _ _ => cases h
theorem Opv.mono {x : V} {o : Opd} (h : Opv K H Z σ x o G) (hs : zlq o = true) (g : za0 H Z H' Z') (k : ∀ a ∈ G, ∀ o, H a = some o → H' a = some o) : Opv K H' Z' σ x o G := by
 cases h with
 | t q => exact .t (q.mono g k)
 | p q => exact .p q
 | q _ _ _ => cases hs
theorem Fut.news (n : Fut H Z [] H' Z' G) (w : Wf H Z F) (al : ∀ a ∈ F, H a ≠ none) : Fut H Z F H' Z' (F ++ G) := by
 have h := n.frame (F := []) (G := F) (by rw [List.nil_append]; exact w) al
 rw [List.nil_append] at h
 exact h.swap
theorem Fut.zjN (n : Fut H Z [] H' Z' G) : za0 H Z H' Z' := ⟨n.zb8, fun a o _ e => n.keep a o List.not_mem_nil e, n.zs⟩
theorem Owo.news (S : Owo K H Z σ ρ F) (n : Fut H Z [] H' Z' G) : Owo K H' Z' σ ρ F := S.mono (n.zjN) fun a _ o e => n.keep a o (List.not_mem_nil) e
theorem Fut.zlr {F2 : List Addr} (f1 : Fut H Z F H1 Z1 (F1 ++ G)) (f2 : Fut H1 Z1 F1 H2 Z2 F2) (al : ∀ a ∈ G, H1 a ≠ none) : Fut H Z F H2 Z2 (F2 ++ G) := f1.trans (f2.frame f1.wf al)
theorem Fut.zio {F2 : List Addr} (f1 : Fut H Z F H1 Z1 (F1 ++ G)) (f2 : Fut H1 Z1 F1 H2 Z2 F2) : ∀ a ∈ G, ∀ o, H1 a = some o → H2 a = some o := fun a h o e =>
 f2.keep a o (fun z => (List.nodup_append.mp f1.nd).2.2 a z a h rfl) e
theorem Fut.assoc' {A B C : List Addr} (f : Fut H Z F H' Z' (A ++ (B ++ C))) : Fut H Z F H' Z' ((A ++ B) ++ C) := by rw [List.append_assoc]; exact f
theorem Fut.znl {A B C : List Addr} (f : Fut H Z F H' Z' ((A ++ B) ++ C)) : Fut H Z F H' Z' (A ++ (C ++ B)) := f.sub (by
  have h := List.nodup_append.mp f.nd
  have h' := List.nodup_append.mp h.1
  refine List.nodup_append.mpr ⟨h'.1, List.nodup_append.mpr ⟨h.2.1, h'.2.1, fun a x b y e => h.2.2 b (lR _ y) a x e.symm⟩, fun a x b y e => ?_⟩
  rcases lM y with y | y
  ·exact h.2.2 a (lL _ x) b y e
  ·exact h'.2.2 a x b y e) fun a h => by
  rcases lM h with h | h
  ·exact lL _ (lL _ h)
  rcases lM h with h | h
  ·exact lR _ h
  ·exact lL _ (lR _ h)
end
abbrev FE := Ev → Option (Opd × Ev)
abbrev FA := Ev → Option (List Opd × Ev)
abbrev FT := Ev → Option (Bool × Ev)
def vE (K : PySem.W.Frag) (f : FE) : TE := fun σ H Q => ∃ Z ρ F o ρ', Owo K H Z σ ρ F ∧ Wf H Z F ∧ f ρ = some (o, ρ') ∧ ∀ x H' Z' F' G, Owo K H' Z' σ ρ' F' → Opv K H' Z' σ x o G → Fut H Z F H' Z' (F' ++ G) → Q x H'
def vA (K : PySem.W.Frag) (f : FA) : TA := fun σ H Q => ∃ Z ρ F os ρ', Owo K H Z σ ρ F ∧ Wf H Z F ∧ f ρ = some (os, ρ') ∧ ∀ xs H' Z' F' G, Owo K H' Z' σ ρ' F' → zfY K H' Z' σ xs os G → Fut H Z F H' Z' (F' ++ G) → Q xs H'
def vT (K : PySem.W.Frag) (f : FT) : TT := fun σ H Q => ∃ Z ρ F b ρ', Owo K H Z σ ρ F ∧ Wf H Z F ∧ f ρ = some (b, ρ') ∧ ∀ H' Z' F', Owo K H' Z' σ ρ' F' → Fut H Z F H' Z' F' → Q b H'
section
variable {X : Cx} {e : Expr}
theorem za4 {t t' : TE} (h : PE X e t) (i : ∀ σ H Q, t' σ H Q → t σ H Q) : PE X e t' := fun pins s σ H Q I q => h pins s σ H Q I (i σ H Q q)
theorem zgY {t t' : TT} (h : PT X e t) (i : ∀ σ H Q, t' σ H Q → t σ H Q) : PT X e t' := fun pins s σ H Q I q => h pins s σ H Q I (i σ H Q q)
theorem zkt {t t' : TT} (h : PW X e t) (i : ∀ σ H Q, t' σ H Q → t σ H Q) : PW X e t' := fun wh pins s σ H Q I q => h wh pins s σ H Q I (i σ H Q q)
theorem zgZ {es : List Expr} {t t' : TA} (h : PA X es t) (i : ∀ σ H Q, t' σ H Q → t σ H Q) : PA X es t' := fun pos pins s σ H Q I q => h pos pins s σ H Q I (i σ H Q q)
theorem ziq {t u : TE} (h : PE X e t) (h' : PE X e u) : PE X e (fun σ H Q => t σ H Q ∨ u σ H Q) := fun pins s σ H Q I q => q.elim (h pins s σ H Q I) (h' pins s σ H Q I)
theorem zg0 {t u : TT} (h : PT X e t) (h' : PT X e u) : PT X e (fun σ H Q => t σ H Q ∨ u σ H Q) := fun pins s σ H Q I q => q.elim (h pins s σ H Q I) (h' pins s σ H Q I)
abbrev VE (X : Cx) (e : Expr) (f : FE) : Prop := PE X e (vE X.K f)
abbrev VA (X : Cx) (es : List Expr) (f : FA) : Prop := PA X es (vA X.K f)
abbrev VT (X : Cx) (e : Expr) (f : FT) : Prop := PT X e (vT X.K f)
abbrev VW (X : Cx) (e : Expr) (f : FT) : Prop := PW X e (vT X.K f)
def zac (i : Nat) : FE := fun ρ => match at? ρ i with
 | some (.v d) => some (.t (.v d), ρ)
 | some _ => some (.p i, ρ)
 | none => none
theorem zls {i : Nat} (h : PE X e (zdC i)) : VE X e (zac i) := za4 h fun σ H Q hq => by
 obtain ⟨Z, ρ, F, o, ρ', S, w, e, q⟩ := hq
 unfold zac at e
 cases hm : at? ρ i with
 | none => rw [hm] at e; cases e
 | some m =>
  obtain ⟨x, G, h1, h2, h3⟩ := S.get (zas.mp hm)
  refine ⟨x, h1, ?_⟩
  cases m with
  | v d =>
   rw [hm] at e; cases e
   cases h2 with
   | v f => exact q x H Z F [] S (.t (.v f)) (Fut.refl w).nil
  | lst _ => rw [hm] at e; cases e; exact q x H Z F [] S (.p h1) (Fut.refl w).nil
  | dic _ => rw [hm] at e; cases e; exact q x H Z F [] S (.p h1) (Fut.refl w).nil
  | dls _ => rw [hm] at e; cases e; exact q x H Z F [] S (.p h1) (Fut.refl w).nil
theorem vv (i : Nat) {x : Str} {pos : Pos} (hN : X.N[i]? = some x := by rfl) (hv : Vis X.env.scope x := by first | exact Or.inl rfl | exact Or.inr (Or.inl rfl) | exact Or.inr (Or.inr rfl)) (hd : (x == ("__debug__" : Str)) = false := by decide)
  (hcd : (x == ("__classdict__" : Str)) = false := by decide) : VE X (.Name x pos) (zac i) := zls (zkh hN hv hd hcd)
def vC (d : PyData) : FE := fun ρ => some (.t (.v d), ρ)
theorem ve_c {v : V} {d : PyData} (h : PE X e (tC v)) (hd : ∀ H Z, Fz X.K H Z v d) : VE X e (vC d) := za4 h fun σ H Q hq => by
 obtain ⟨Z, ρ, F, o, ρ', S, w, e, q⟩ := hq
 cases e
 exact q v H Z F [] S (.t (.v (hd H Z))) (Fut.refl w).nil
theorem znm {i j pos} : VE X (.Constant (.int i) j pos) (vC (.int i)) := ve_c zki fun _ _ => .int i
theorem ve_bl {i j pos} : VE X (.Constant (.bool i) j pos) (vC (.bool i)) := ve_c pe_bl fun _ _ => .bl i
theorem znn {x j pos} : VE X (.Constant (.str x) j pos) (vC (.str x)) := ve_c zmD fun _ _ => .str x
def R2v (K : PySem.W.Frag) (r : R2) (g : M → M → Option M) : Prop := ∀ H Z x y m1 m2 m Q, (∀ a, Z a → H a ≠ none) → Ro K H Z x m1 → Ro K H Z y m2 → g m1 m2 = some m → (∀ z H' Z' G, Ow K H' Z' z m G → Fut H Z [] H' Z' G → Q z H') → r x y H Q
def vB (g : M → M → Option M) (fa fb : FE) : FE := fun ρ => (fa ρ).bind fun p => (fb p.2).bind fun q => (zeY q.2 p.1).bind fun m1 => (peek q.2 q.1).bind fun m2 => (g m1 m2).bind fun m => some (.t m, q.2)
theorem two {fa fb : FE} {g : M → M → Option M} {r : R2} {σ : L2.St} {H : Hp} {Q : VK} (hr : R2v X.K r g) (hq : vE X.K (vB g fa fb) σ H Q) : tOp r (vE X.K fa) (vE X.K fb) σ H Q := by
 obtain ⟨Z, ρ, F, o, ρ', S, w, e, q⟩ := hq
 obtain ⟨⟨o1, ρ1⟩, e1, e⟩ := oB e
 obtain ⟨⟨o2, ρ2⟩, e2, e⟩ := oB e
 obtain ⟨m1, e3, e⟩ := oB e
 obtain ⟨m2, e4, e⟩ := oB e
 obtain ⟨m, e5, e⟩ := oB e
 cases e
 refine ⟨Z, ρ, F, o1, ρ1, S, w, e1, fun x H1 Z1 F1 G1 S1 O1 f1 => ⟨Z1, ρ1, F1, o2, ρ2, S1, f1.left.wf, e2, fun y H2 Z2 F2 G2 S2 O2 f2 => ?_⟩⟩
 have O1' := O1.mono (zby e3) (f2.grow f1.left.wf) (f1.zio f2)
 refine hr H2 Z2 x y m1 m2 m Q f2.za (O1'.peek S2 (zbx e3)) (O2.peek S2 e4) e5 fun z H3 Z3 G h3 n => ?_
 exact q z H3 Z3 F2 G (S2.news n) (.t h3) ((f1.left.trans f2.left).trans (n.news f2.left.wf S2.al))
theorem ve_op {op : Operator} {a b : Expr} {pos : Pos} {r : R2} {g : M → M → Option M} {fa fb : FE} (hr : R2v X.K r g) (ho : OpR X (binaryOp op) r) (ha : VE X a fa) (hb : VE X b fb) : VE X (.BinOp a op b pos) (vB g fa fb) := za4 (pe_op ho ha hb) fun _ _ _ => two hr
theorem zno {op : CmpOp} {a b : Expr} {pos : Pos} {r : R2} {g : M → M → Option M} {fa fb : FE} (hr : R2v X.K r g) (ho : OpR X (compareOp op) r) (ha : VE X a fa) (hb : VE X b fb) (hm : behindInMarks op b = false) : VE X (.Compare a [op] [b] pos) (vB g fa fb) := za4 (zf6 ho ha hb hm) fun _ _ _ => two hr
def R1v (K : PySem.W.Frag) (r : V → Hp → VK → Prop) (g : M → Option M) : Prop := ∀ H Z x m1 m Q, (∀ a, Z a → H a ≠ none) → Ro K H Z x m1 → g m1 = some m → (∀ z H' Z' G, Ow K H' Z' z m G → Fut H Z [] H' Z' G → Q z H') → r x H Q
def vU (g : M → Option M) (fa : FE) : FE := fun ρ => (fa ρ).bind fun p => (peek p.2 p.1).bind fun m1 => (g m1).bind fun m => some (.t m, p.2)
theorem one {fa : FE} {g : M → Option M} {r : V → Hp → VK → Prop} {σ : L2.St} {H : Hp} {Q : VK} (hr : R1v X.K r g) (hq : vE X.K (vU g fa) σ H Q) : vE X.K fa σ H fun x H1 => r x H1 Q := by
 obtain ⟨Z, ρ, F, o, ρ', S, w, e, q⟩ := hq
 obtain ⟨⟨o1, ρ1⟩, e1, e⟩ := oB e
 obtain ⟨m1, e3, e⟩ := oB e
 obtain ⟨m, e5, e⟩ := oB e
 cases e
 refine ⟨Z, ρ, F, o1, ρ1, S, w, e1, fun x H1 Z1 F1 G1 S1 O1 f1 => ?_⟩
 refine hr H1 Z1 x m1 m Q f1.za (O1.peek S1 e3) e5 fun z H3 Z3 G h3 n => ?_
 exact q z H3 Z3 F1 G (S1.news n) (.t h3) (f1.left.trans (n.news f1.left.wf S1.al))
def zbS : FA := fun ρ => some ([], ρ)
def zab (fa : FE) : FA := fun ρ => (fa ρ).bind fun p => some ([p.1], p.2)
def zaa (fa : FE) (fr : FA) : FA := fun ρ => (fa ρ).bind fun p => (fr p.2).bind fun q => if zlq p.1 = true then some (p.1 :: q.1, q.2) else none
theorem znp : VA X [] zbS := zgZ zh0 fun σ H Q hq => by
 obtain ⟨Z, ρ, F, o, ρ', S, w, e, q⟩ := hq
 cases e
 exact q [] H Z F [] S .nil (Fut.refl w).nil
theorem znq {a : Expr} {fa : FE} (ha : VE X a fa) (hs : starEach [a] X.env = [(false, eval a X.env)] := by rfl) : VA X [a] (zab fa) := zgZ (zf7 ha zh0 hs) fun σ H Q hq => by
 obtain ⟨Z, ρ, F, o, ρ', S, w, e, q⟩ := hq
 obtain ⟨⟨o1, ρ1⟩, e1, e⟩ := oB e
 cases e
 refine ⟨Z, ρ, F, o1, ρ1, S, w, e1, fun x H1 Z1 F1 G1 S1 O1 f1 => ?_⟩
 exact q [x] H1 Z1 F1 (G1 ++ []) S1 (.cons O1 .nil) (by rw [List.append_nil]; exact f1)
theorem zlu {a : Expr} {as : List Expr} {fa : FE} {fr : FA} (ha : VE X a fa) (hr : VA X as fr) (hs : starEach (a :: as) X.env = (false, eval a X.env) :: starEach as X.env := by rfl) : VA X (a :: as) (zaa fa fr) := zgZ (zf7 ha hr hs) fun σ H Q hq => by
 obtain ⟨Z, ρ, F, o, ρ', S, w, e, q⟩ := hq
 obtain ⟨⟨o1, ρ1⟩, e1, e⟩ := oB e
 obtain ⟨⟨os, ρ2⟩, e2, e⟩ := oB e
 by_cases hs : zlq o1 = true
 ·rw [if_pos hs] at e
  cases e
  refine ⟨Z, ρ, F, o1, ρ1, S, w, e1, fun x H1 Z1 F1 G1 S1 O1 f1 => ⟨Z1, ρ1, F1, os, ρ2, S1, f1.left.wf, e2, fun xs H2 Z2 F2 G2 S2 O2 f2 => ?_⟩⟩
  exact q (x :: xs) H2 Z2 F2 (G1 ++ G2) S2 (.cons (O1.mono hs (f2.grow f1.left.wf) (f1.zio f2)) O2) (f1.zlr f2 O1.al).znl
 ·rw [if_neg hs] at e; cases e
def RLv (K : PySem.W.Frag) (r : List V → Hp → VK → Prop) (g : List M → Option M) : Prop := ∀ H Z xs ms m Q, (∀ a, Z a → H a ≠ none) → Ros K H Z xs ms → g ms = some m → (∀ z H' Z' G, Ow K H' Z' z m G → Fut H Z [] H' Z' G → Q z H') → r xs H Q
def vCB (g : List M → Option M) (fa : FA) : FE := fun ρ => (fa ρ).bind fun p => (zes p.2 p.1).bind fun ms => (g ms).bind fun m => some (.t m, p.2)
theorem many {fa : FA} {g : List M → Option M} {r : List V → Hp → VK → Prop} {σ : L2.St} {H : Hp} {Q : VK} (hr : RLv X.K r g) (hq : vE X.K (vCB g fa) σ H Q) : tCB r (vA X.K fa) σ H Q := by
 obtain ⟨Z, ρ, F, o, ρ', S, w, e, q⟩ := hq
 obtain ⟨⟨os, ρ1⟩, e1, e⟩ := oB e
 obtain ⟨ms, e3, e⟩ := oB e
 obtain ⟨m, e5, e⟩ := oB e
 cases e
 refine ⟨Z, ρ, F, os, ρ1, S, w, e1, fun xs H1 Z1 F1 G1 S1 O1 f1 => ?_⟩
 refine hr H1 Z1 xs ms m Q f1.za (O1.peek S1 e3) e5 fun z H3 Z3 G h3 n => ?_
 exact q z H3 Z3 F1 G (S1.news n) (.t h3) (f1.left.trans (n.news f1.left.wf S1.al))
def tr? : M → Option Bool
 | .v (.bool b) => some b
 | _ => none
def zbk (f : FE) : FT := fun ρ => (f ρ).bind fun p => (peek p.2 p.1).bind fun m => (tr? m).bind fun b => some (b, p.2)
theorem tst {f : FE} {σ : L2.St} {H : Hp} {Q : Bool → Hp → Prop} (hq : vT X.K (zbk f) σ H Q) : vE X.K f σ H fun x H1 => ∃ c, x = .bl c ∧ Q c H1 := by
 obtain ⟨Z, ρ, F, b, ρ', S, w, e, q⟩ := hq
 obtain ⟨⟨o1, ρ1⟩, e1, e⟩ := oB e
 obtain ⟨m, e2, e⟩ := oB e
 obtain ⟨b', e3, e⟩ := oB e
 cases e
 refine ⟨Z, ρ, F, o1, ρ1, S, w, e1, fun x H1 Z1 F1 G1 S1 O1 f1 => ?_⟩
 obtain ⟨G, h⟩ := O1.peek S1 e2
 cases h with
 | v f =>
  cases f with
  | bl c => cases e3; exact ⟨_, rfl, q H1 Z1 F1 S1 f1.left⟩
  | _ => cases e3
 | _ => cases e3
theorem znr {op : CmpOp} {a b : Expr} {pos : Pos} {r : R2} {g : M → M → Option M} {fa fb : FE} (hr : R2v X.K r g) (ho : OpR X (compareOp op) r) (ha : VE X a fa) (hb : VE X b fb) (hm : behindInMarks op b = false) : VT X (.Compare a [op] [b] pos) (zbk (vB g fa fb)) := by
 refine zgY (zdQ ho ha hb hm) fun σ H Q hq => ?_
 exact two hr (tst hq)
def zfZ (f g : FT) : FT := fun ρ => (f ρ).bind fun p => if p.1 = true then g p.2 else some (false, p.2)
def vOr (f g : FT) : FT := fun ρ => (f ρ).bind fun p => if p.1 = true then some (true, p.2) else g p.2
theorem and_imp {f g : FT} {σ : L2.St} {H : Hp} {Q : Bool → Hp → Prop} (hq : vT X.K (zfZ f g) σ H Q) : tAnd (vT X.K f) (vT X.K g) σ H Q := by
 obtain ⟨Z, ρ, F, b, ρ', S, w, e, q⟩ := hq
 obtain ⟨⟨o1, ρ1⟩, e1, e⟩ := oB e
 refine ⟨Z, ρ, F, o1, ρ1, S, w, e1, fun H1 Z1 F1 S1 f1 => ?_⟩
 cases o1 with
 | true => exact ⟨Z1, ρ1, F1, b, ρ', S1, f1.wf, e, fun H2 Z2 F2 S2 f2 => q H2 Z2 F2 S2 (f1.trans f2)⟩
 | false => cases e; exact q H1 Z1 F1 S1 f1
theorem or_imp {f g : FT} {σ : L2.St} {H : Hp} {Q : Bool → Hp → Prop} (hq : vT X.K (vOr f g) σ H Q) : tOr (vT X.K f) (vT X.K g) σ H Q := by
 obtain ⟨Z, ρ, F, b, ρ', S, w, e, q⟩ := hq
 obtain ⟨⟨o1, ρ1⟩, e1, e⟩ := oB e
 refine ⟨Z, ρ, F, o1, ρ1, S, w, e1, fun H1 Z1 F1 S1 f1 => ?_⟩
 cases o1 with
 | false => exact ⟨Z1, ρ1, F1, b, ρ', S1, f1.wf, e, fun H2 Z2 F2 S2 f2 => q H2 Z2 F2 S2 (f1.trans f2)⟩
 | true => cases e; exact q H1 Z1 F1 S1 f1
theorem zlv {a : Expr} {pos : Pos} {f : FT} (h : VT X a f) : VW X (.BoolOp .And [a] pos) f := zkS h
theorem zns {a : Expr} {pos : Pos} {f : FT} (h : VT X a f) : VW X (.BoolOp .Or [a] pos) f := zmF h
theorem znt {a b : Expr} {rest : List Expr} {pos : Pos} {f g : FT} (h : VT X a f) (h' : VW X (.BoolOp .And (b :: rest) pos) g) : VW X (.BoolOp .And (a :: b :: rest) pos) (zfZ f g) := zkt (zmG h h') fun _ _ _ => and_imp
theorem vw_or {a b : Expr} {rest : List Expr} {pos : Pos} {f g : FT} (h : VT X a f) (h' : VW X (.BoolOp .Or (b :: rest) pos) g) : VW X (.BoolOp .Or (a :: b :: rest) pos) (vOr f g) := zkt (pw_or h h') fun _ _ _ => or_imp
def zir (fa fb : FE) : FE := fun ρ => (zbk fa ρ).bind fun p => if p.1 = true then fb p.2 else some (.t (.v (.bool false)), p.2)
def vOrV (fa fb : FE) : FE := fun ρ => (zbk fa ρ).bind fun p => if p.1 = true then some (.t (.v (.bool true)), p.2) else fb p.2
theorem znu {a b : Expr} {rest : List Expr} {pos : Pos} {fa fb : FE} (ha : VE X a fa) (hb : VE X (.BoolOp .And (b :: rest) pos) fb) : VE X (.BoolOp .And (a :: b :: rest) pos) (zir fa fb) := za4 (zmI ha hb) fun σ H Q hq => by
 obtain ⟨Z, ρ, F, o, ρ', S, w, e, q⟩ := hq
 obtain ⟨⟨b1, ρ1⟩, e1, e⟩ := oB e
 refine tst ⟨Z, ρ, F, b1, ρ1, S, w, e1, fun H1 Z1 F1 S1 f1 => ?_⟩
 cases b1 with
 | true => exact zlk ⟨Z1, ρ1, F1, o, ρ', S1, f1.wf, e, fun x H2 Z2 F2 G S2 O f2 => q x H2 Z2 F2 G S2 O (f1.trans f2)⟩
 | false => cases e; exact zlj (q (.bl false) H1 Z1 F1 [] S1 (.t (.v (.bl false))) f1.nil)
theorem ve_or {a b : Expr} {rest : List Expr} {pos : Pos} {fa fb : FE} (ha : VE X a fa) (hb : VE X (.BoolOp .Or (b :: rest) pos) fb) : VE X (.BoolOp .Or (a :: b :: rest) pos) (vOrV fa fb) := za4 (pe_or ha hb) fun σ H Q hq => by
 obtain ⟨Z, ρ, F, o, ρ', S, w, e, q⟩ := hq
 obtain ⟨⟨b1, ρ1⟩, e1, e⟩ := oB e
 refine tst ⟨Z, ρ, F, b1, ρ1, S, w, e1, fun H1 Z1 F1 S1 f1 => ?_⟩
 cases b1 with
 | true => cases e; exact zlk (q (.bl true) H1 Z1 F1 [] S1 (.t (.v (.bl true))) f1.nil)
 | false => exact zlj ⟨Z1, ρ1, F1, o, ρ', S1, f1.wf, e, fun x H2 Z2 F2 G S2 O f2 => q x H2 Z2 F2 G S2 O (f1.trans f2)⟩
theorem znv {op a} {pos : Pos} {f : FE} (h : VE X a f) : VE X (.BoolOp op [a] pos) f := zmH h
end
end VL
end
section
namespace VL
open PySem PySem.Spec L2 PyProof.Rows
def lim : Nat := 1000000
theorem zdq {n : Nat} (h : n ≤ lim) : n ≤ sizeLine := Nat.le_trans h (by decide)
theorem zdZ {n : Nat} (h : n ≤ lim) : n < sizeLine := Nat.lt_of_le_of_lt h (by decide)
def rM (K : PySem.W.Frag) (g : M → M → Option M) : R2 := fun x y H Q => ∃ Z m1 m2 m, (∀ a, Z a → H a ≠ none) ∧ Ro K H Z x m1 ∧ Ro K H Z y m2 ∧ g m1 m2 = some m ∧ ∀ z H' Z' G, Ow K H' Z' z m G → Fut H Z [] H' Z' G → Q z H'
theorem rM_v {K : PySem.W.Frag} {g : M → M → Option M} : R2v K (rM K g) g := fun H Z x y m1 m2 m Q za h1 h2 e q => ⟨Z, m1, m2, m, za, h1, h2, e, q⟩
def rLM (K : PySem.W.Frag) (g : List M → Option M) : List V → Hp → VK → Prop := fun xs H Q => ∃ Z ms m, (∀ a, Z a → H a ≠ none) ∧ Ros K H Z xs ms ∧ g ms = some m ∧ ∀ z H' Z' G, Ow K H' Z' z m G → Fut H Z [] H' Z' G → Q z H'
theorem znw {K : PySem.W.Frag} {g : List M → Option M} : RLv K (rLM K g) g := fun H Z xs ms m Q za h1 e q => ⟨Z, ms, m, za, h1, e, q⟩
section
variable {K : PySem.W.Frag} {H H' : Hp} {Z : Zs} {x : V} {Q : VK}
theorem Ro.fz {d : PyData} (h : Ro K H Z x (.v d)) : Fz K H Z x d := by
 obtain ⟨G, h⟩ := h
 cases h with
 | v f => exact f
theorem Ro.int {i : Int} (h : Ro K H Z x (.v (.int i))) : x = .int i := h.fz.int_inv
theorem Ro.bl {i : Bool} (h : Ro K H Z x (.v (.bool i))) : x = .bl i := h.fz.zin
theorem Ro.str {i : Str} (h : Ro K H Z x (.v (.str i))) : x = .str i := h.fz.str_inv
theorem Ro.lst {ds : List PyData} (h : Ro K H Z x (.lst ds)) : ∃ a xs, x = .ref a ∧ H a = some (.lst xs) ∧ Fzs K H Z xs ds := by
 obtain ⟨G, h⟩ := h
 cases h with
 | lst e f => exact ⟨_, _, rfl, e, f⟩
theorem Ro.dic {ds : List (Key × PyData)} (h : Ro K H Z x (.dic ds)) : ∃ a xs, x = .ref a ∧ H a = some (.dK xs) ∧ Fzk K H Z xs ds := by
 obtain ⟨G, h⟩ := h
 cases h with
 | dic e f => exact ⟨_, _, rfl, e, f⟩
theorem Ro.dls {ds : List (Key × List PyData)} (h : Ro K H Z x (.dls ds)) : ∃ a xs G, x = .ref a ∧ H a = some (.dK xs) ∧ Owl K H Z xs ds G := by
 obtain ⟨G, h⟩ := h
 cases h with
 | dls e f => exact ⟨_, _, _, rfl, e, f⟩
theorem Ro.tup {ds : List PyData} (h : Ro K H Z x (.v (.tuple ds))) : ∃ a xs, x = .ref a ∧ SqT K H a xs ∧ Fzs K H Z xs ds := h.fz.zda
def zis : M → Option (List PyData)
 | .lst ds => some ds
 | .v (.list ds) => some ds
 | _ => none
def seqT : M → Option (List PyData)
 | .v (.tuple ds) => some ds
 | _ => none
def seq : M → Option (List PyData)
 | .lst ds => some ds
 | .v (.list ds) => some ds
 | .v (.tuple ds) => some ds
 | _ => none
theorem Ro.zis {m : M} {ds : List PyData} (h : Ro K H Z x m) (e : VL.zis m = some ds) : ∃ a xs, x = .ref a ∧ SqL K H a xs ∧ Fzs K H Z xs ds := by
 unfold VL.zis at e
 split at e
 ·cases e
  obtain ⟨a, xs, e1, e2, e3⟩ := h.lst
  exact ⟨a, xs, e1, .of e2, e3⟩
 ·cases e
  obtain ⟨a, xs, e1, e2, e3⟩ := h.fz.lst_inv
  exact ⟨a, xs, e1, e2, e3⟩
 ·cases e
theorem Ro.seq {m : M} {ds : List PyData} (h : Ro K H Z x m) (e : VL.seq m = some ds) : ∃ a xs, x = .ref a ∧ (SqL K H a xs ∨ SqT K H a xs) ∧ Fzs K H Z xs ds := by
 unfold VL.seq at e
 split at e
 ·cases e
  obtain ⟨a, xs, e1, e2, e3⟩ := h.lst
  exact ⟨a, xs, e1, .inl (.of e2), e3⟩
 ·cases e
  obtain ⟨a, xs, e1, e2, e3⟩ := h.fz.lst_inv
  exact ⟨a, xs, e1, .inl e2, e3⟩
 ·cases e
  obtain ⟨a, xs, e1, e2, e3⟩ := h.tup
  exact ⟨a, xs, e1, .inr e2, e3⟩
 ·cases e
theorem Fut.same (s : zen H H') (za : ∀ a, Z a → H a ≠ none) : Fut H Z [] H' Z [] := ⟨fun a o _ e => s a o e, s.zb8, fun _ h => h, fun _ h => .inl h, fun _ h => (nomatch h), List.nodup_nil, fun _ h => (nomatch h), fun a z e => za a z (s.free e)⟩
theorem Fut.zmn {p : Addr} {o : HO} (hp : H p = none) (za : ∀ a, Z a → H a ≠ none) : Fut H Z [] (upd H p o) Z [p] := by
 have s := zbw hp o
 exact ⟨fun a o _ e => s a o e, s.zb8, fun _ h => h, fun _ h => .inl h, fun a h => .inr (by rw [List.mem_singleton] at h; subst h; exact hp), List.nodup_cons.mpr ⟨List.not_mem_nil, List.nodup_nil⟩, fun a h z => by rw [List.mem_singleton] at h; subst h; exact za _ z hp, fun a z e => za a z (s.free e)⟩
theorem za0.same (s : zen H H') : za0 H Z H' Z := ⟨s.zb8, fun a o _ e => s a o e, fun _ h => h⟩
theorem zcs {z : V} {d : PyData} (q : ∀ z H' Z' G, Ow K H' Z' z (.v d) G → Fut H Z [] H' Z' G → Q z H') (za : ∀ a, Z a → H a ≠ none) (h : Fz K H Z z d) : Q z H := q z H Z [] (.v h) (Fut.same (zen.refl H) za)
theorem endS {z : V} {d : PyData} (q : ∀ z H' Z' G, Ow K H' Z' z (.v d) G → Fut H Z [] H' Z' G → Q z H') (za : ∀ a, Z a → H a ≠ none) (s : zen H H') (h : Fz K H' Z z d) : Q z H' := q z H' Z [] (.v h) (Fut.same s za)
theorem endT {p : Addr} {xs : List V} {ds : List PyData} (q : ∀ z H' Z' G, Ow K H' Z' z (.v (.tuple ds)) G → Fut H Z [] H' Z' G → Q z H') (za : ∀ a, Z a → H a ≠ none) (hp : H p = none) (h : Fzs K H Z xs ds) : Q (.ref p) (upd H p (.tup xs)) :=
 endS q za (zbw hp _) (.tup (SqT.of zay) (h.mono (za0.same (zbw hp _))))
theorem zlw {p : Addr} {xs : List V} {ds : List PyData} (q : ∀ z H' Z' G, Ow K H' Z' z (.lst ds) G → Fut H Z [] H' Z' G → Q z H') (za : ∀ a, Z a → H a ≠ none) (hp : H p = none) (h : Fzs K H Z xs ds) : Q (.ref p) (upd H p (.lst xs)) :=
 q (.ref p) (upd H p (.lst xs)) Z [p] (.lst zay (h.mono (za0.same (zbw hp _)))) (Fut.zmn hp za)
theorem endD {p : Addr} {xs : List (Key × V)} {ds : List (Key × PyData)} (q : ∀ z H' Z' G, Ow K H' Z' z (.dic ds) G → Fut H Z [] H' Z' G → Q z H') (za : ∀ a, Z a → H a ≠ none) (hp : H p = none) (h : Fzk K H Z xs ds) : Q (.ref p) (upd H p (.dK xs)) :=
 q (.ref p) (upd H p (.dK xs)) Z [p] (.dic zay (h.mono (za0.same (zbw hp _)))) (Fut.zmn hp za)
end
def zet : M → M → Option M
 | .v (.int i), .v (.int j) => some (.v (.int (i + j)))
 | .v (.tuple a), .v (.tuple b) => if a.length + b.length ≤ lim then some (.v (.tuple (a ++ b))) else none
 | .lst a, .lst b => if a.length + b.length ≤ lim then some (.lst (a ++ b)) else none
 | .v (.str a), .v (.str b) => if a.length + b.length ≤ lim then some (.v (.str (a ++ b))) else none
 | _, _ => none
def zhL (C : Int → Int → Bool) (g : Int → Int → PyData) : M → M → Option M
 | .v (.int i), .v (.int j) => if C i j = true then some (.v (g i j)) else none
 | _, _ => none
section
variable {X : Cx}
theorem zct : OpR X (binaryOp .Add) (rM X.K zet) := by
 intro pins s σ H x y v u Q I rx ry h
 obtain ⟨Z, m1, m2, m, za, h1, h2, e, q⟩ := h
 unfold zet at e
 split at e
 ·cases e
  obtain rfl := h1.int; obtain rfl := h2.int
  exact zmR pins s σ H _ _ v u Q I rx ry ⟨_, _, rfl, rfl, zcs q za (.int _)⟩
 ·split at e
  ·next hl =>
   cases e
   obtain ⟨a, xs, rfl, e2, e3⟩ := h1.tup
   obtain ⟨b, ys, rfl, e5, e6⟩ := h2.tup
   exact zln pins s σ H _ _ v u Q I rx ry ⟨a, b, xs, ys, rfl, rfl, e2, e5, zdq (by rw [e3.length, e6.length]; exact hl), fun r H' s' t => endS q za s' (.tup t ((e3.append e6).mono (za0.same s')))⟩
  ·cases e
 ·split at e
  ·next hl =>
   cases e
   obtain ⟨a, xs, rfl, e2, e3⟩ := h1.lst
   obtain ⟨b, ys, rfl, e5, e6⟩ := h2.lst
   exact zm9 pins s σ H _ _ v u Q I rx ry ⟨a, b, xs, ys, rfl, rfl, e2, e5, zdq (by rw [e3.length, e6.length]; exact hl), fun p hp => zlw q za hp (e3.append e6)⟩
  ·cases e
 ·split at e
  ·next hl =>
   cases e
   obtain rfl := h1.str; obtain rfl := h2.str
   exact zhn pins s σ H _ _ v u Q I rx ry ⟨_, _, rfl, rfl, zdq hl, zcs q za (.str _)⟩
  ·cases e
 ·cases e
theorem zfC {f : Value → Value → Sem Value} {C : Int → Int → Bool} {P : Int → Int → Prop} {g : Int → Int → PyData} {gv : Int → Int → V} (ho : OpR X f (rI P gv)) (hc : ∀ i j, C i j = true → P i j) (hg : ∀ H Z i j, Fz X.K H Z (gv i j) (g i j)) : OpR X f (rM X.K (zhL C g)) := by
 intro pins s σ H x y v u Q I rx ry h
 obtain ⟨Z, m1, m2, m, za, h1, h2, e, q⟩ := h
 unfold zhL at e
 split at e
 ·split at e
  ·next hl =>
   cases e
   obtain rfl := h1.int; obtain rfl := h2.int
   exact ho pins s σ H _ _ v u Q I rx ry ⟨_, _, rfl, rfl, hc _ _ hl, zcs q za (hg H Z _ _)⟩
  ·cases e
 ·cases e
theorem zit {f : Value → Value → Sem Value} {g : Int → Int → PyData} {gv : Int → Int → V} (ho : OpR X f (rI0 gv)) (hg : ∀ H Z i j, Fz X.K H Z (gv i j) (g i j)) : OpR X f (rM X.K (zhL (fun _ _ => true) g)) := by
 intro pins s σ H x y v u Q I rx ry h
 obtain ⟨Z, m1, m2, m, za, h1, h2, e, q⟩ := h
 unfold zhL at e
 split at e
 ·split at e
  ·next hl =>
   cases e
   obtain rfl := h1.int; obtain rfl := h2.int
   exact ho pins s σ H _ _ v u Q I rx ry ⟨_, _, rfl, rfl, zcs q za (hg H Z _ _)⟩
  ·cases e
 ·cases e
def subM := zhL (fun _ _ => true) fun i j => .int (i - j)
def mulM := zhL (fun i j => decide ((-(2 ^ 64) < i ∧ i < 2 ^ 64) ∨ (-(2 ^ 64) < j ∧ j < 2 ^ 64))) fun i j => .int (i * j)
def ziu := zhL (fun _ j => decide (0 < j ∧ j < 1073741824)) fun i j => .int (i / j)
def zhz := zhL (fun _ j => decide (0 < j)) fun i j => .int (i % j)
def zg1 := zhL (fun i j => decide (0 ≤ j ∧ (Builtin.Int.intBits i : Int) * j ≤ 2 ^ 27)) fun i j => .int (i ^ j.toNat)
theorem zku : OpR X (binaryOp .Sub) (rM X.K subM) := zit zmS fun _ _ _ _ => .int _
theorem zcU : OpR X (binaryOp .Mult) (rM X.K mulM) := zfC zmT (fun i j h => by have h := of_decide_eq_true h; exact h) fun _ _ _ _ => .int _
theorem zgk : OpR X (binaryOp .FloorDiv) (rM X.K ziu) := zfC zk0 (fun i j h => by have h := of_decide_eq_true h; exact h) fun _ _ _ _ => .int _
theorem zdr : OpR X (binaryOp .Mod) (rM X.K zhz) := zfC zmU (fun _ _ h => of_decide_eq_true h) fun _ _ _ _ => .int _
theorem zfD : OpR X (binaryOp .Pow) (rM X.K zg1) := zfC zlm (fun _ _ h => of_decide_eq_true h) fun _ _ _ _ => .int _
def asD : M → Option PyData
 | .v d => some d
 | .lst ds => some (.list ds)
 | _ => none
theorem Ro.reads {pins : List (Addr × Obj)} {σ : L2.St} {H : Hp} {s : Shared} {Z : Zs} {x : V} {m : M} {d : PyData} {u : Value} (I : Inv X pins σ H s) (h : Ro X.K H Z x m) (e : asD m = some d) (c : d.canLay0 = true) (r : RelV x u) : ∃ as, Reads s.heap u d as := by
 unfold asD at e
 split at e
 ·cases e; exact h.fz.reads I c r
 ·cases e
  obtain ⟨a, xs, rfl, e2, e3⟩ := h.lst
  cases r
  obtain ⟨its, rv, ⟨o, n, ho, hc, hdd, hd⟩, _⟩ := I.list (SqL.of e2)
  obtain ⟨as, h⟩ := e3.reads I c rv
  exact ⟨_, .list ho hc hd (by simpa using h)⟩
 ·cases e
def zkv (d e : PyData) : Bool := d.canLay0 && e.canLay0 && decide (min d.depth e.depth ≤ 60)
def eqM (neg : Bool) (m1 m2 : M) : Option M := (asD m1).bind fun d => (asD m2).bind fun e => if zkv d e = true then some (.v (.bool (if neg then !PyData.eqv d e else PyData.eqv d e))) else none
theorem ziv (hu : X.A.units + 64 < cLine) : OpR X (compareOp .Eq) (rM X.K (eqM false)) := by
 intro pins s σ H x y v u Q I rx ry h
 obtain ⟨Z, m1, m2, m, za, h1, h2, e, q⟩ := h
 obtain ⟨d, e1, e⟩ := oB e
 obtain ⟨d', e2, e⟩ := oB e
 split at e
 ·next ok =>
  cases e
  unfold zkv at ok
  simp only [Bool.and_eq_true, decide_eq_true_eq] at ok
  obtain ⟨as, r1⟩ := h1.reads I e1 ok.1.1 rx
  obtain ⟨bs, r2⟩ := h2.reads I e2 ok.1.2 ry
  exact SeqAt.compareEq_reads r1 r2 ok.1.1 ok.1.2 (by have := ok.2; omega) ⟨.bl _, H, I, rfl, zcs q za (.bl _)⟩
 ·cases e
theorem znx (hu : X.A.units + 64 < cLine) : OpR X (compareOp .NotEq) (rM X.K (eqM true)) := by
 intro pins s σ H x y v u Q I rx ry h
 obtain ⟨Z, m1, m2, m, za, h1, h2, e, q⟩ := h
 obtain ⟨d, e1, e⟩ := oB e
 obtain ⟨d', e2, e⟩ := oB e
 split at e
 ·next ok =>
  cases e
  unfold zkv at ok
  simp only [Bool.and_eq_true, decide_eq_true_eq] at ok
  obtain ⟨as, r1⟩ := h1.reads I e1 ok.1.1 rx
  obtain ⟨bs, r2⟩ := h2.reads I e2 ok.1.2 ry
  exact SeqAt.compareNe_reads r1 r2 ok.1.1 ok.1.2 (by have := ok.2; omega) ⟨.bl _, H, I, rfl, zcs q za (.bl _)⟩
 ·cases e
def asI : PyData → Option Int
 | .int i => some i
 | _ => none
def zfh : List PyData → Option (List Int)
 | [] => some []
 | d :: ds => (asI d).bind fun i => (zfh ds).bind fun is => some (i :: is)
theorem zbn : ∀ {ds : List PyData} {is : List Int}, zfh ds = some is → ds = is.map .int
 | [], _, e => by cases e; rfl
 | d :: ds, _, e => by
  obtain ⟨i, e1, e⟩ := oB e
  obtain ⟨is, e2, e⟩ := oB e
  cases e
  rw [zbn e2]
  cases d <;> cases e1
  rfl
theorem zcV : ∀ (is : List Int), zfh (is.map .int) = some is
 | [] => rfl
 | i :: is => by show (some i).bind _ = _; rw [Option.bind_some, zcV is]; rfl
def zmo (gi : Int → Int → Bool) (gt : List Int → List Int → Bool) : M → M → Option M
 | .v (.int i), .v (.int j) => some (.v (.bool (gi i j)))
 | .v (.tuple a), .v (.tuple b) => (zfh a).bind fun is => (zfh b).bind fun js => some (.v (.bool (gt is js)))
 | _, _ => none
theorem zny (hu : X.A.units + 64 < cLine) : OpR X (compareOp .Lt) (rM X.K (zmo (fun i j => decide (i < j)) HT.lexLt)) := by
 intro pins s σ H x y v u Q I rx ry h
 obtain ⟨Z, m1, m2, m, za, h1, h2, e, q⟩ := h
 unfold zmo at e
 split at e
 ·cases e
  obtain rfl := h1.int; obtain rfl := h2.int
  exact op_lt pins s σ H _ _ v u Q I rx ry ⟨_, _, rfl, rfl, zcs q za (.bl _)⟩
 ·obtain ⟨is, e1, e⟩ := oB e
  obtain ⟨js, e2, e⟩ := oB e
  cases e
  obtain ⟨a, xs, rfl, t1, f1⟩ := h1.tup
  obtain ⟨b, ys, rfl, t2, f2⟩ := h2.tup
  rw [zbn e1] at f1
  rw [zbn e2] at f2
  rw [f1.zbm] at t1
  rw [f2.zbm] at t2
  exact zm2 (by omega) pins s σ H _ _ v u Q I rx ry ⟨a, b, is, js, rfl, rfl, t1, t2, zcs q za (.bl _)⟩
 ·cases e
theorem ov_ge (hu : X.A.units + 64 < cLine) : OpR X (compareOp .GtE) (rM X.K (zmo (fun i j => decide (j ≤ i)) fun a b => !HT.lexLt a b)) := by
 intro pins s σ H x y v u Q I rx ry h
 obtain ⟨Z, m1, m2, m, za, h1, h2, e, q⟩ := h
 unfold zmo at e
 split at e
 ·cases e
  obtain rfl := h1.int; obtain rfl := h2.int
  exact op_ge pins s σ H _ _ v u Q I rx ry ⟨_, _, rfl, rfl, zcs q za (.bl _)⟩
 ·obtain ⟨is, e1, e⟩ := oB e
  obtain ⟨js, e2, e⟩ := oB e
  cases e
  obtain ⟨a, xs, rfl, t1, f1⟩ := h1.tup
  obtain ⟨b, ys, rfl, t2, f2⟩ := h2.tup
  rw [zbn e1] at f1
  rw [zbn e2] at f2
  rw [f1.zbm] at t1
  rw [f2.zbm] at t2
  exact znk (by omega) pins s σ H _ _ v u Q I rx ry ⟨a, b, is, js, rfl, rfl, t1, t2, zcs q za (.bl _)⟩
 ·cases e
def gtM := zhL (fun _ _ => true) fun i j => .bool (decide (j < i))
def ltM := zmo (fun i j => decide (i < j)) HT.lexLt
def geM := zmo (fun i j => decide (j ≤ i)) fun a b => !HT.lexLt a b
theorem ov_gt : OpR X (compareOp .Gt) (rM X.K gtM) := zit op_gt fun _ _ _ _ => .bl _
def okIn (ds : List PyData) (e : PyData) : Bool := PyData.canLayAll0 ds && e.canLay0 && decide (e.depth ≤ 50)
def inM (neg : Bool) (m1 m2 : M) : Option M := (asD m1).bind fun e => (seq m2).bind fun ds => if okIn ds e = true then some (.v (.bool (if neg then !(ds.any fun d => PyData.eqv d e) else ds.any fun d => PyData.eqv d e))) else none
theorem zfE (neg : Bool) (hu : X.A.units + 64 < cLine) {pins : List (Addr × Obj)} {s : Shared} {σ : L2.St} {H : Hp} {x y : V} {v u : Value} {Q : VK} (I : Inv X pins σ H s) (rx : RelV x v) (ry : RelV y u) (h : rM X.K (inM neg) x y H Q) :
  ∃ (p : Addr) (its : List Value) (g : Value → Bool) (b : Bool), u = .ref p ∧ (PlainL s.heap p its.toArray ∨ s.heap.IsTuple p its.toArray) ∧ (∀ y, y ∈ its.toArray → SeqAt.EqAt X.A.in1 s y v (g y)) ∧ its.toArray.any g = b ∧ EP X pins σ Q (.bool (if neg then !b else b)) s := by
 obtain ⟨Z, m1, m2, m, za, h1, h2, e, q⟩ := h
 obtain ⟨d, e1, e⟩ := oB e
 obtain ⟨ds, e2, e⟩ := oB e
 split at e
 ·next ok =>
  cases e
  unfold okIn at ok
  simp only [Bool.and_eq_true, decide_eq_true_eq] at ok
  obtain ⟨bs, re⟩ := h1.reads I e1 ok.1.2 rx
  obtain ⟨a, xs, rfl, hq, f⟩ := h2.seq e2
  cases ry
  have fin : EP X pins σ Q (.bool (if neg then !(ds.any fun d' => PyData.eqv d' d) else ds.any fun d' => PyData.eqv d' d)) s := ⟨.bl _, H, I, rfl, zcs q za (.bl _)⟩
  rcases hq with hq | hq
  ·obtain ⟨its, r, pl, hz⟩ := I.list hq
   obtain ⟨as, ra⟩ := f.reads I ok.1.1 r
   refine ⟨a, its, eqH s.heap d, _, rfl, .inl pl, zkr (pins := pins) (σ := σ) (H := H) hu ra re ok.1.1 ok.1.2 ok.2, rfl, ?_⟩
   rw [show its.toArray.any (eqH s.heap d) = its.any (eqH s.heap d) by simp, zgi ra ok.1.1]
   exact fin
  ·obtain ⟨its, r, pl, hz⟩ := I.tuple hq
   obtain ⟨as, ra⟩ := f.reads I ok.1.1 r
   refine ⟨a, its, eqH s.heap d, _, rfl, .inr pl, zkr (pins := pins) (σ := σ) (H := H) hu ra re ok.1.1 ok.1.2 ok.2, rfl, ?_⟩
   rw [show its.toArray.any (eqH s.heap d) = its.any (eqH s.heap d) by simp, zgi ra ok.1.1]
   exact fin
 ·cases e
theorem znz (hu : X.A.units + 64 < cLine) : OpR X (compareOp .In) (rM X.K (inM false)) := by
 intro pins s σ H x y v u Q I rx ry h
 obtain ⟨p, its, g, b, rfl, hq, hg, e, fin⟩ := zfE false hu I rx ry h
 subst e
 rcases hq with hq | hq
 ·exact SeqAt.in_listAt g hq.isList hg fin
 ·exact SeqAt.in_tupleAt g hq hg fin
theorem zjO (hu : X.A.units + 64 < cLine) : OpR X (compareOp .NotIn) (rM X.K (inM true)) := by
 intro pins s σ H x y v u Q I rx ry h
 obtain ⟨p, its, g, b, rfl, hq, hg, e, fin⟩ := zfE true hu I rx ry h
 subst e
 rcases hq with hq | hq
 ·exact SeqAt.notIn_listAt g hq.isList hg fin
 ·exact SeqAt.notIn_tupleAt g hq hg fin
end
end VL
end
section
namespace VL
open PySem PySem.Spec L2 PyProof.Rows
def toD : M → PyData
 | .v d => d
 | .lst ds => .list ds
 | .dic kvs => .dict (kvs.map fun p => (keyP p.1, p.2))
 | .dls kvs => .dict ((kvs.map fun p => (p.1, PyData.list p.2)).map fun p => (keyP p.1, p.2))
def zcA : Opd → Ev → Option (PyData × Ev)
 | .t m, ρ => some (toD m, ρ)
 | .p i, ρ => (at? ρ i).bind fun m => some (toD m, ρ.set i (some (.v (toD m))))
 | .q i k, ρ => match at? ρ i with
  | some (.dls kvs) => (zdY kvs k).bind fun ds => some (.list ds, ρ.set i (some (.dic (kvs.map fun p => (p.1, PyData.list p.2)))))
  | _ => none
def zdB : List Opd → Ev → Option (List PyData × Ev)
 | [], ρ => some ([], ρ)
 | o :: os, ρ => (zcA o ρ).bind fun p => (zdB os p.2).bind fun q => some (p.1 :: q.1, q.2)
section
variable {K : PySem.W.Frag} {H H0 : Hp} {Z Z0 : Zs} {F F0 G R : List Addr} {σ : L2.St} {ρ ρ' : Ev} {x : V} {o : Opd} {d : PyData}
theorem za0.more {G : List Addr} : za0 H Z H (fun a => Z a ∨ a ∈ G) := ⟨zdW.refl, fun _ _ _ e => e, fun _ z => .inl z⟩
theorem Owl.fz {Z' : Zs} (g : za0 H Z H Z') : ∀ {kxs : List (Key × V)} {kvs : List (Key × List PyData)} {G : List Addr}, Owl K H Z kxs kvs G → (∀ a ∈ G, Z' a) → Fzk K H Z' kxs (kvs.map fun p => (p.1, PyData.list p.2))
 | _, _, _, .nil, _ => .nil
 | _, _, _, .cons e f r, h => .cons (.lst (.inl e) (h _ lS) (f.mono g)) (Owl.fz g r fun a z => h a (lO _ z))
theorem Ow.fz {m : M} {Z' : Zs} (g : za0 H Z H Z') (h : Ow K H Z x m G) (hz : ∀ a ∈ G, Z' a) : Fz K H Z' x (toD m) := by
 cases h with
 | v f => exact f.mono g
 | lst e f => exact .lst (.inl e) (hz _ lS) (f.mono g)
 | dic e f => exact .dic e (hz _ lS) (f.mono g)
 | dls e f => exact .dic e (hz _ lS) (f.fz g fun a z => hz a (lO _ z))
theorem Fut.give {A : List Addr} (f : Fut H0 Z0 F0 H Z A) (hF : F.Nodup) (hs : ∀ a ∈ F, a ∈ A) (hG : ∀ a ∈ G, a ∈ A) (hd : ∀ a ∈ F, a ∉ G) (al : ∀ a ∈ G, H a ≠ none) : Fut H0 Z0 F0 H (fun a => Z a ∨ a ∈ G) F := by
 refine ⟨f.keep, f.zb8, fun a z => .inl (f.zs a z), fun a z => ?_, fun a h => f.fr a (hs a h), hF, fun a h z => ?_, fun a z => ?_⟩
 ·rcases z with z | z
  ·exact f.zn a z
  ·exact .inr (f.fr a (hG a z))
 ·rcases z with z | z
  ·exact f.dz a (hs a h) z
  ·exact hd a h z
 ·rcases z with z | z
  ·exact f.za a z
  ·exact al a z
theorem nd3 {A B C : List Addr} (h : (A ++ B ++ C).Nodup) : A.Nodup ∧ B.Nodup ∧ C.Nodup ∧ (∀ a ∈ A, a ∉ B) ∧ (∀ a ∈ A, a ∉ C) ∧ ∀ a ∈ B, a ∉ C := by
 have h1 := List.nodup_append.mp h
 have h2 := List.nodup_append.mp h1.1
 exact ⟨h2.1, h2.2.1, h1.2.1, fun a x y => h2.2.2 a x a y rfl, fun a x y => h1.2.2 a (lL _ x) a y rfl, fun a x y => h1.2.2 a (lR _ x) a y rfl⟩
theorem zav {A B : List Addr} (h1 : A.Nodup) (h2 : B.Nodup) (h : ∀ a ∈ A, a ∉ B) : (A ++ B).Nodup := List.nodup_append.mpr ⟨h1, h2, fun a x b y e => h a x (e ▸ y)⟩
theorem freeze (S : Owo K H Z σ ρ F) (h : Opv K H Z σ x o G) (f : Fut H0 Z0 F0 H Z (F ++ G ++ R)) (e : zcA o ρ = some (d, ρ')) : ∃ Z' F', Owo K H Z' σ ρ' F' ∧ Fz K H Z' x d ∧ Fut H0 Z0 F0 H Z' (F' ++ R) ∧ za0 H Z H Z' := by
  obtain ⟨n1, n2, n3, s1, s2, s3⟩ := nd3 f.nd
  cases h with
  | t q =>
    cases e
    refine ⟨fun a => Z a ∨ a ∈ G, F, S.mono za0.more fun _ _ _ e => e, q.fz za0.more fun a h => .inr h, f.give (zav n1 n3 s2) (fun a h => ?_) (fun a h => ?_) (fun a h z => ?_) q.al, za0.more⟩
    · rcases lM h with h | h
      · exact lL _ (lL _ h)
      · exact lR _ h
    · exact lL _ (lR _ h)
    · rcases lM h with h | h
      · exact s1 a h z
      · exact s3 a z h
  | p q =>
    rename_i i
    obtain ⟨m, e1, e⟩ := oB e
    cases e
    obtain ⟨x', G', F1, h1, h2, h3, h4, h5⟩ := S.take n1 (zas.mp e1)
    rw [q] at h1; cases h1
    have hl := (List.getElem?_eq_some_iff.mp (zas.mp e1)).1
    have k4 := List.nodup_append.mp h4
    have fz := h2.fz (za0.more (G := G')) fun a h => .inr h
    obtain ⟨F2, p1, p2, p3⟩ := (h3.mono (za0.more (G := G')) fun _ _ _ e => e).put (i := i) (Ow.v fz) (by rw [List.append_nil]; exact k4.1) (by rw [List.getElem?_set_self hl])
    rw [List.append_nil] at p3
    rw [List.set_set] at p1
    have es : σ.set i (some x) = σ := by
      refine List.ext_getElem? fun j => ?_
      rw [List.getElem?_set]
      split
      · next hj => subst hj; split
                   · exact q.symm
                   · next hh => exact absurd (List.getElem?_eq_some_iff.mp q).1 hh
      · rfl
    rw [es] at p1
    refine ⟨_, F2, p1, fz, f.give (zav p2 n3 fun a h => s2 a (h5 a (lL _ (p3 a h)))) (fun a h => ?_) (fun a h => ?_) (fun a h z => ?_) h2.al, za0.more⟩
    · rcases lM h with h | h
      · exact lL _ (lL _ (h5 a (lL _ (p3 a h))))
      · exact lR _ h
    · exact lL _ (lL _ (h5 a (lR _ h)))
    · rcases lM h with h | h
      · exact k4.2.2 a (p3 a h) a z rfl
      · exact s2 a (h5 a (lR _ z)) h
  | q q1 q2 q3 =>
    rename_i i k a0 kxs
    have e : (match at? ρ i with
      | some (.dls kvs) => (zdY kvs k).bind fun ds => some (PyData.list ds, ρ.set i (some (M.dic (kvs.map fun p => (p.1, PyData.list p.2)))))
      | _ => none) = some (d, ρ') := e
    split at e
    · next kvs hk =>
      obtain ⟨ds, e1, e⟩ := oB e
      cases e
      obtain ⟨x', G', F1, h1, h2, h3, h4, h5⟩ := S.take n1 (zas.mp hk)
      rw [q1] at h1; cases h1
      have hl := (List.getElem?_eq_some_iff.mp (zas.mp hk)).1
      cases h2 with
      | dls e2 ol =>
        rename_i kxs' Gl
        rw [q2] at e2; cases e2
        have k4 := List.nodup_append.mp h4
        have k5 := List.nodup_cons.mp k4.2.1
        have ow : Ow K H (fun a => Z a ∨ a ∈ Gl) (.ref a0) (.dic (kvs.map fun p => (p.1, PyData.list p.2))) [a0] := .dic q2 (ol.fz za0.more fun a h => .inr h)
        obtain ⟨b, xs, z1, z2, z3, z4⟩ := ol.get e1
        rw [q3] at z1; cases z1
        obtain ⟨F2, p1, p2, p3⟩ := (h3.mono (za0.more (G := Gl)) fun _ _ _ e => e).put (i := i) ow (zav k4.1 (List.nodup_cons.mpr ⟨List.not_mem_nil, List.nodup_nil⟩) fun a h z => k4.2.2 a h a0 lS (List.mem_singleton.mp z)) (by rw [List.getElem?_set_self hl])
        rw [List.set_set] at p1
        have es : σ.set i (some (V.ref a0)) = σ := by
          refine List.ext_getElem? fun j => ?_
          rw [List.getElem?_set]
          split
          · next hj => subst hj; split
                       · exact q1.symm
                       · next hh => exact absurd (List.getElem?_eq_some_iff.mp q1).1 hh
          · rfl
        rw [es] at p1
        have inF : ∀ a ∈ F2, a ∈ F := fun a h => by
          rcases lM (p3 a h) with h | h
          · exact h5 a (lL _ h)
          · exact h5 a (lR _ (by rw [List.mem_singleton.mp h]; exact lS))
        refine ⟨_, F2, p1, .lst (.inl z2) (.inr z4) (z3.mono za0.more), f.give (zav p2 n3 fun a h => s2 a (inF a h)) (fun a h => ?_) (fun a h => ?_) (fun a h z => ?_) (fun a h e => ?_), za0.more⟩
        · rcases lM h with h | h
          · exact lL _ (lL _ (inF a h))
          · exact lR _ h
        · exact lL _ (lL _ (h5 a (lR _ (lO _ h))))
        · rcases lM h with h | h
          · rcases lM (p3 a h) with h | h
            · exact k4.2.2 a h a (lO _ z) rfl
            · rw [List.mem_singleton.mp h] at z; exact k5.1 z
          · exact s2 a (h5 a (lR _ (lO _ z))) h
        · obtain ⟨_, z', _⟩ := ol.mem a h; rw [z'] at e; cases e
    · cases e
theorem Opv.zjP {Z' : Zs} (g : za0 H Z H Z') (h : Opv K H Z σ x o G) : Opv K H Z' σ x o G := by
 cases h with
 | t q => exact .t (q.mono g fun _ _ _ e => e)
 | p q => exact .p q
 | q a b c => exact .q a b c
theorem zfY.zjP {Z Z' : Zs} (g : za0 H Z H Z') : ∀ {os : List Opd} {xs : List V} {G : List Addr}, zfY K H Z σ xs os G → zfY K H Z' σ xs os G
 | _, _, _, .nil => .nil
 | _, _, _, .cons h r => .cons (h.zjP g) (zfY.zjP g r)
theorem zgl : ∀ {os : List Opd} {xs : List V} {ds : List PyData} {Z : Zs} {ρ ρ' : Ev} {F G : List Addr}, Owo K H Z σ ρ F → zfY K H Z σ xs os G → Fut H0 Z0 F0 H Z (F ++ G) → zdB os ρ = some (ds, ρ') → ∃ Z' F', Owo K H Z' σ ρ' F' ∧ Fzs K H Z' xs ds ∧ Fut H0 Z0 F0 H Z' F' ∧ za0 H Z H Z'
 | _, _, _, _, _, _, _, _, S, .nil, f, e => by cases e; exact ⟨_, _, S, .nil, (by rw [List.append_nil] at f; exact f), za0.refl⟩
 | _, _, _, _, _, _, _, _, S, .cons (os := os) h r, f, e => by
  obtain ⟨⟨d, ρ1⟩, e1, e⟩ := oB e
  obtain ⟨⟨ds, ρ2⟩, e2, e⟩ := oB e
  cases e
  obtain ⟨Z1, F1, S1, z1, f1, g1⟩ := freeze S h f.assoc' e1
  obtain ⟨Z2, F2, S2, z2, f2, g2⟩ := zgl S1 (r.zjP g1) f1 e2
  exact ⟨Z2, F2, S2, .cons (z1.mono g2) z2, f2, g1.trans g2⟩
theorem zdb (S : Owo K H Z σ ρ F) (h : Opv K H Z σ x o G) (f : Fut H0 Z0 F0 H Z (F ++ G)) (e : zcA o ρ = some (d, ρ')) : ∃ Z' F', Owo K H Z' σ ρ' F' ∧ Fz K H Z' x d ∧ Fut H0 Z0 F0 H Z' F' ∧ za0 H Z H Z' := by
 obtain ⟨Z', F', h1, h2, h3, h4⟩ := freeze (R := []) S h (by rw [List.append_nil]; exact f) e
 rw [List.append_nil] at h3
 exact ⟨Z', F', h1, h2, h3, h4⟩
end
section
variable {X : Cx} {pos : Pos}
def zco (fa : FA) : FE := fun ρ => (fa ρ).bind fun p => (zdB p.1 p.2).bind fun q => if q.1.length ≤ lim then some (.t (.v (.tuple q.1)), q.2) else none
def zcF (fa : FA) : FE := fun ρ => (fa ρ).bind fun p => (zdB p.1 p.2).bind fun q => if q.1.length ≤ lim then some (.t (.lst q.1), q.2) else none
theorem znA {es : List Expr} {k : Nat} {fa : FA} (h : VA X es fa) : VE X (.Tuple es k pos) (zco fa) := za4 (zmX h) fun σ H Q hq => by
 obtain ⟨Z, ρ, F, o, ρ', S, w, e, q⟩ := hq
 obtain ⟨⟨os, ρ1⟩, e1, e⟩ := oB e
 obtain ⟨⟨ds, ρ2⟩, e2, e⟩ := oB e
 split at e
 ·next hl =>
  cases e
  refine ⟨Z, ρ, F, os, ρ1, S, w, e1, fun xs H1 Z1 F1 G1 S1 O1 f1 => ?_⟩
  obtain ⟨Z2, F2, S2, z2, f2, g2⟩ := zgl S1 O1 f1 e2
  refine ⟨zdq (by rw [z2.length]; exact hl), fun p hp => ?_⟩
  have n := Fut.same (zbw hp (.tup xs)) f2.za
  exact q (.ref p) _ Z2 F2 [] (S2.news n) (.t (.v (.tup (SqT.of zay) (z2.mono n.zjN)))) (f2.trans (n.news f2.wf S2.al))
 ·cases e
theorem znB {es : List Expr} {fa : FA} (h : VA X es fa) : VE X (.List es pos) (zcF fa) := za4 (zmY h) fun σ H Q hq => by
 obtain ⟨Z, ρ, F, o, ρ', S, w, e, q⟩ := hq
 obtain ⟨⟨os, ρ1⟩, e1, e⟩ := oB e
 obtain ⟨⟨ds, ρ2⟩, e2, e⟩ := oB e
 split at e
 ·next hl =>
  cases e
  refine ⟨Z, ρ, F, os, ρ1, S, w, e1, fun xs H1 Z1 F1 G1 S1 O1 f1 => ?_⟩
  obtain ⟨Z2, F2, S2, z2, f2, g2⟩ := zgl S1 O1 f1 e2
  refine ⟨zdq (by rw [z2.length]; exact hl), fun p hp => ?_⟩
  have n := Fut.zmn (o := .lst xs) hp f2.za
  exact q (.ref p) _ Z2 F2 [p] (S2.news n) (.t (.lst zay (z2.mono n.zjN))) (f2.trans (n.news f2.wf S2.al))
 ·cases e
def zgm : PyData → Option Key
 | .int i => some (.inl i)
 | .str s => some (.inr s)
 | _ => none
def getM : M → M → Option M
 | .dic kvs, .v k => (zgm k).bind fun k => (zdY kvs k).bind fun d => some (.v d)
 | .v (.str z), .v (.int i) => if z.length ≤ lim then (atI z.cps.toList i).bind fun c => some (.v (.str ⟨#[c]⟩)) else none
 | m, .v (.int i) => (seq m).bind fun ds => (atI ds i).bind fun d => some (.v d)
 | _, _ => none
def ixO : Opd → M → Ev → Option (Opd × Ev)
 | .t m1, m2, ρ => (getM m1 m2).bind fun m => some (.t m, ρ)
 | .p i, m2, ρ => (at? ρ i).bind fun m1 => match m1, m2 with
  | .dls kvs, .v k => (zgm k).bind fun k => (zdY kvs k).bind fun _ => some (.q i k, ρ)
  | m1, m2 => (getM m1 m2).bind fun m => some (.t m, ρ)
 | .q _ _, _, _ => none
def vIx (fa fb : FE) : FE := fun ρ => (fa ρ).bind fun p => (fb p.2).bind fun q => (peek q.2 q.1).bind fun m2 => ixO p.1 m2 q.2
theorem zgn {K : PySem.W.Frag} {H : Hp} {Z : Zs} : ∀ {kxs : List (Key × V)} {kvs : List (Key × PyData)} {k : Key}, Fzk K H Z kxs kvs → (zdY kvs k = none → zfg kxs k = none) ∧ ∀ d, zdY kvs k = some d → ∃ x, zfg kxs k = some x ∧ Fz K H Z x d
 | _, _, _, .nil => ⟨fun _ => rfl, fun _ e => (nomatch e)⟩
 | _, _, k, .cons (k := k') (xs := kxs) (ds := kvs) h r => by
  have ih := zgn (k := k) r
  unfold zdY
  rw [List.find?_cons]
  by_cases hk : k' = k
  ·subst hk
   simp only [decide_true, Option.map_some]
   rw [zcJ rfl]
   exact ⟨fun e => (nomatch e), fun d e => ⟨_, rfl, by cases e; exact h⟩⟩
  ·simp only [hk, decide_false]
   rw [zcK hk]
   exact ih
theorem zdc {K : PySem.W.Frag} {H : Hp} {Z : Zs} {x : V} {d : PyData} {k : Key} (h : Fz K H Z x d) (e : zgm d = some k) : x = kV k := by
 cases h <;> cases e <;> rfl
theorem znC {K : PySem.W.Frag} {H : Hp} {Z : Zs} {xs : List V} {ds : List PyData} {i : Int} {d : PyData} (r : Fzs K H Z xs ds) (e : atI ds i = some d) : ∃ x, atI xs i = some x ∧ Fz K H Z x d := by
 unfold atI at e ⊢
 rw [r.length]
 obtain ⟨j, e1, e2⟩ := oB e
 obtain ⟨x, h1, h2⟩ := r.get' e2
 exact ⟨x, by rw [e1, Option.bind_some]; exact h1, h2⟩
theorem ve_ix {a b : Expr} {fa fb : FE} (hu : X.A.units + 64 < cLine) (ha : VE X a fa) (hb : VE X b fb) (hs : zga b) : VE X (.Subscript a b pos) (vIx fa fb) := by
 refine za4 (ziq (pe_ix zm5 ha hb hs) (zlg (by omega) ha hb hs)) fun σ H Q hq => ?_
 obtain ⟨Z, ρ, F, o, ρ', S, w, e, q⟩ := hq
 obtain ⟨⟨o1, ρ1⟩, e1, e⟩ := oB e
 obtain ⟨⟨o2, ρ2⟩, e2, e⟩ := oB e
 obtain ⟨m2, e3, e⟩ := oB e
 have gen : ∀ m1 m, zeY ρ2 o1 = some m1 → getM m1 m2 = some m → o = .t m → ρ' = ρ2 → tOp (rIx X.K) (vE X.K fa) (vE X.K fb) σ H Q ∨ znf (vE X.K fa) (vE X.K fb) σ H Q := fun m1 m e4 e5 eo er => by
  subst eo; subst er
  have two' : ∀ R : V → V → Hp → Prop, (∀ H2 Z2 x y, (∀ a, Z2 a → H2 a ≠ none) → Ro X.K H2 Z2 x m1 → Ro X.K H2 Z2 y m2 → (∀ z H3 Z3 G, Ow X.K H3 Z3 z m G → Fut H2 Z2 [] H3 Z3 G → Q z H3) → R x y H2) →
    vE X.K fa σ H fun x H1 => vE X.K fb σ H1 fun y H2 => R x y H2 := fun R hR => by
   refine ⟨Z, ρ, F, o1, ρ1, S, w, e1, fun x H1 Z1 F1 G1 S1 O1 f1 => ⟨Z1, ρ1, F1, o2, ρ', S1, f1.left.wf, e2, fun y H2 Z2 F2 G2 S2 O2 f2 => ?_⟩⟩
   have O1' := O1.mono (zby e4) (f2.grow f1.left.wf) (f1.zio f2)
   exact hR H2 Z2 x y f2.za (O1'.peek S2 (zbx e4)) (O2.peek S2 e3) fun z H3 Z3 G h3 n => q z H3 Z3 F2 G (S2.news n) (.t h3) ((f1.left.trans f2.left).trans (n.news f2.left.wf S2.al))
  clear q e e3
  unfold getM at e5
  split at e5
  ·rename_i kvs k
   obtain ⟨k', e6, e5⟩ := oB e5
   obtain ⟨d, e7, e5⟩ := oB e5
   cases e5
   refine .inr (two' _ fun H2 Z2 x y za h1 h2 fin => ?_)
   obtain ⟨a', kxs, rfl, he, fk⟩ := h1.dic
   obtain ⟨v, hv, fv⟩ := (zgn fk).2 d e7
   obtain rfl := zdc h2.fz e6
   exact ⟨a', v, rfl, hv ▸ zgP.k he, zcs fin za fv⟩
  ·rename_i z i
   split at e5
   ·rename_i hl
    obtain ⟨c, e7, e5⟩ := oB e5
    cases e5
    refine .inl (two' _ fun H2 Z2 x y za h1 h2 fin => ?_)
    obtain rfl := h1.str
    obtain rfl := h2.int
    exact .inr (.inr ⟨_, _, c, rfl, rfl, zdq hl, e7, zcs fin za (.str _)⟩)
   ·cases e5
  ·obtain ⟨ds, e6, e5⟩ := oB e5
   obtain ⟨d, e7, e5⟩ := oB e5
   cases e5
   refine .inl (two' _ fun H2 Z2 x y za h1 h2 fin => ?_)
   obtain ⟨a', xs, rfl, hq, fs⟩ := h1.seq e6
   obtain rfl := h2.int
   obtain ⟨v, hv, fv⟩ := znC fs e7
   rcases hq with hq | hq
   ·exact .inl ⟨a', xs, _, v, rfl, rfl, hq, hv, zcs fin za fv⟩
   ·exact .inr (.inl ⟨a', xs, _, v, rfl, rfl, hq, hv, zcs fin za fv⟩)
  ·cases e5
 cases o1 with
 | t m1 =>
  obtain ⟨m, e5, e⟩ := oB e
  injection e with e
  injection e with ea eb
  exact gen m1 m rfl e5 ea.symm eb.symm
 | q _ _ => cases e
 | p i =>
  obtain ⟨m1, e4, e⟩ := oB e
  split at e
  ·rename_i kvs k
   obtain ⟨k', e6, e⟩ := oB e
   obtain ⟨ds, e7, e⟩ := oB e
   injection e with e
   injection e with ea eb
   subst ea; subst eb
   refine .inr ⟨Z, ρ, F, .p i, ρ1, S, w, e1, fun x H1 Z1 F1 G1 S1 O1 f1 => ⟨Z1, ρ1, F1, o2, _, S1, f1.left.wf, e2, fun y H2 Z2 F2 G2 S2 O2 f2 => ?_⟩⟩
   cases O1 with
   | p hx =>
    obtain ⟨x', G', h1, h2, _⟩ := S2.get (zas.mp e4)
    rw [hx] at h1; cases h1
    cases h2 with
    | dls he ol =>
     obtain ⟨b, xs, z1, z2, z3, z4⟩ := ol.get e7
     have O2' := O2.peek S2 e3
     obtain rfl := zdc O2'.fz e6
     exact ⟨_, .ref b, rfl, z1 ▸ zgP.k he, q (.ref b) H2 Z2 F2 [] S2 (.q hx he z1) (f1.left.trans f2.left).nil⟩
  ·obtain ⟨m, e5, e⟩ := oB e
   injection e with e
   injection e with ea eb
   exact gen _ m e4 e5 ea.symm eb.symm
end
end VL
end
section
namespace VL
open PySem PySem.Spec L2 PyProof.Rows
section
variable {X : Cx} {pos : Pos}
theorem zlx {fa fb : FE} {g : M → M → Option M} {σ : L2.St} {H : Hp} {Q : VK} (hq : vE X.K (vB g fa fb) σ H Q) :
  ∃ m1 m2 m, g m1 m2 = some m ∧ ∀ R : V → V → Hp → Prop, (∀ H2 Z2 x y, (∀ a, Z2 a → H2 a ≠ none) → Ro X.K H2 Z2 x m1 → Ro X.K H2 Z2 y m2 → (∀ z H3 Z3 G, Ow X.K H3 Z3 z m G → Fut H2 Z2 [] H3 Z3 G → Q z H3) → R x y H2) →
    vE X.K fa σ H fun x H1 => vE X.K fb σ H1 fun y H2 => R x y H2 := by
 obtain ⟨Z, ρ, F, o, ρ', S, w, e, q⟩ := hq
 obtain ⟨⟨o1, ρ1⟩, e1, e⟩ := oB e
 obtain ⟨⟨o2, ρ2⟩, e2, e⟩ := oB e
 obtain ⟨m1, e3, e⟩ := oB e
 obtain ⟨m2, e4, e⟩ := oB e
 obtain ⟨m, e5, e⟩ := oB e
 cases e
 refine ⟨m1, m2, m, e5, fun R hR => ⟨Z, ρ, F, o1, ρ1, S, w, e1, fun x H1 Z1 F1 G1 S1 O1 f1 => ⟨Z1, ρ1, F1, o2, ρ2, S1, f1.left.wf, e2, fun y H2 Z2 F2 G2 S2 O2 f2 => ?_⟩⟩⟩
 have O1' := O1.mono (zby e3) (f2.grow f1.left.wf) (f1.zio f2)
 exact hR H2 Z2 x y f2.za (O1'.peek S2 (zbx e3)) (O2.peek S2 e4) fun z H3 Z3 G h3 n => q z H3 Z3 F2 G (S2.news n) (.t h3) ((f1.left.trans f2.left).trans (n.news f2.left.wf S2.al))
def inA (neg : Bool) : M → M → Option M
 | .v k, .dic kvs => (zgm k).bind fun k => some (.v (.bool (if neg then !(zdY kvs k).isSome else (zdY kvs k).isSome)))
 | .v k, .dls kvs => (zgm k).bind fun k => some (.v (.bool (if neg then !(zdY kvs k).isSome else (zdY kvs k).isSome)))
 | .v (.str i), .v (.str j) => some (.v (.bool (if neg then !(!(Builtin.Str.occurrences j i 0 j.length 1).isEmpty) else !(Builtin.Str.occurrences j i 0 j.length 1).isEmpty)))
 | m1, m2 => inM neg m1 m2
theorem zg2 {K : PySem.W.Frag} {H : Hp} {Z : Zs} : ∀ {kxs : List (Key × V)} {kvs : List (Key × List PyData)} {G : List Addr} {k : Key}, Owl K H Z kxs kvs G → (zfg kxs k).isSome = (zdY kvs k).isSome
 | _, _, _, _, .nil => rfl
 | _, _, _, k, .cons (k := k') h f r => by
  have ih := zg2 (k := k) r
  unfold zdY
  rw [List.find?_cons]
  by_cases hk : k' = k
  ·subst hk
   simp only [decide_true, Option.map_some]
   rw [zcJ rfl]
   rfl
  ·simp only [hk, decide_false]
   rw [zcK hk]
   exact ih
theorem ziw {K : PySem.W.Frag} {H : Hp} {Z : Zs} {kxs : List (Key × V)} {kvs : List (Key × PyData)} {k : Key} (h : Fzk K H Z kxs kvs) : (zfg kxs k).isSome = (zdY kvs k).isSome := by
 obtain ⟨h1, h2⟩ := zgn (k := k) h
 cases e : zdY kvs k with
 | none => rw [h1 e]; rfl
 | some d => obtain ⟨x, h3, _⟩ := h2 d e; rw [h3]; rfl
theorem zly {neg : Bool} {fa fb : FE} {σ : L2.St} {H : Hp} {Q : VK} {rs : R2} (hrs : rs = fun x y H Q => ∃ i j, x = .str i ∧ y = .str j ∧ Q (.bl (if neg then !(!(Builtin.Str.occurrences j i 0 j.length 1).isEmpty) else !(Builtin.Str.occurrences j i 0 j.length 1).isEmpty)) H) (hq : vE X.K (vB (inA neg) fa fb) σ H Q) :
  (tOp (rM X.K (inM neg)) (vE X.K fa) (vE X.K fb) σ H Q ∨ tOp rs (vE X.K fa) (vE X.K fb) σ H Q) ∨ (fun σ H Q => vE X.K fa σ H fun y H1 => vE X.K fb σ H1 fun x H2 => ∃ a o, x = .ref a ∧ zgP H2 a y o ∧ Q (.bl (if neg then !o.isSome else o.isSome)) H2 : TE) σ H Q := by
 obtain ⟨m1, m2, m, e, h⟩ := zlx hq
 unfold inA at e
 split at e
 ·obtain ⟨k, e1, e⟩ := oB e
  cases e
  refine .inr (h _ fun H2 Z2 x y za h1 h2 fin => ?_)
  obtain ⟨a, kxs, rfl, he, fk⟩ := h2.dic
  obtain rfl := zdc h1.fz e1
  refine ⟨a, _, rfl, zgP.k he, ?_⟩
  rw [ziw fk]
  exact zcs fin za (.bl _)
 ·obtain ⟨k, e1, e⟩ := oB e
  cases e
  refine .inr (h _ fun H2 Z2 x y za h1 h2 fin => ?_)
  obtain ⟨a, kxs, G, rfl, he, fk⟩ := h2.dls
  obtain rfl := zdc h1.fz e1
  refine ⟨a, _, rfl, zgP.k he, ?_⟩
  rw [zg2 fk]
  exact zcs fin za (.bl _)
 ·cases e
  refine .inl (.inr (h _ fun H2 Z2 x y za h1 h2 fin => ?_))
  obtain rfl := h1.str; obtain rfl := h2.str
  rw [hrs]
  exact ⟨_, _, rfl, rfl, zcs fin za (.bl _)⟩
 ·exact .inl (.inl (h _ fun H2 Z2 x y za h1 h2 fin => ⟨Z2, _, _, _, za, h1, h2, e, fin⟩))
theorem ve_in {a b : Expr} {fa fb : FE} (hu : X.A.units + 64 < cLine) (ha : VE X a fa) (hb : VE X b fb) (hm : behindInMarks .In b = false := by rfl) : VE X (.Compare a [.In] [b] pos) (vB (inA false) fa fb) :=
 za4 (ziq (ziq (zf6 (znz hu) ha hb hm) (zf6 zfj ha hb hm)) (zmE (zkn (by omega) ha hb) hm)) fun _ _ _ hq => zly rfl hq
theorem vt_in {a b : Expr} {fa fb : FE} (hu : X.A.units + 64 < cLine) (ha : VE X a fa) (hb : VE X b fb) (hm : behindInMarks .In b = false := by rfl) : VT X (.Compare a [.In] [b] pos) (zbk (vB (inA false) fa fb)) :=
 zgY (zg0 (zg0 (zdQ (znz hu) ha hb hm) (zdQ zfj ha hb hm)) (zkj (zkn (by omega) ha hb) hm)) fun _ _ _ hq => zly rfl (tst hq)
theorem zjQ {a b : Expr} {fa fb : FE} (hu : X.A.units + 64 < cLine) (ha : VE X a fa) (hb : VE X b fb) (hm : behindInMarks .NotIn b = false := by rfl) : VT X (.Compare a [.NotIn] [b] pos) (zbk (vB (inA true) fa fb)) :=
 zgY (zg0 (zg0 (zdQ (zjO hu) ha hb hm) (zdQ zfk ha hb hm)) (zkj (zic (by omega) ha hb) hm)) fun _ _ _ hq => zly rfl (tst hq)
def zkw : M → Option Bool
 | .v .none => some false
 | .v (.bool b) => some b
 | .v (.int i) => some (i != 0)
 | .v (.str y) => if y.length ≤ lim then some ((y.length : Int) != 0) else none
 | .v (.tuple ds) => some (!ds.isEmpty)
 | .v (.list ds) => some (!ds.isEmpty)
 | .lst ds => some (!ds.isEmpty)
 | .dic kvs => some (!kvs.isEmpty)
 | .dls kvs => some (!kvs.isEmpty)
 | _ => none
def zf0 (f : FE) : FT := fun ρ => (f ρ).bind fun p => (peek p.2 p.1).bind fun m => (zkw m).bind fun b => some (b, p.2)
theorem isE {α β : Type} {xs : List α} {ys : List β} (h : xs.length = ys.length) : (!xs.isEmpty) = !ys.isEmpty := by
 cases xs <;> cases ys <;> simp_all
theorem Ro.tru {K : PySem.W.Frag} {H : Hp} {Z : Zs} {x : V} {m : M} {b : Bool} (h : Ro K H Z x m) (e : zkw m = some b) : TruV K x H b := by
 have seqs : ∀ {ds : List PyData}, VL.seq m = some ds → some (!ds.isEmpty) = some b → TruV K x H b := fun {ds} e1 e2 => by
  obtain ⟨a, xs, rfl, hq, f⟩ := h.seq e1
  cases e2
  rcases hq with hq | hq
  ·exact .inl ⟨xs, hq, (isE f.length).symm⟩
  ·exact .inr (.inl ⟨xs, hq, (isE f.length).symm⟩)
 cases m with
 | v d =>
  cases d with
  | none => cases e; obtain rfl := h.fz.zlp; exact rfl
  | bool _ => cases e; obtain rfl := h.bl; exact rfl
  | int _ => cases e; obtain rfl := h.int; exact rfl
  | str y =>
   have e : (if y.length ≤ lim then some ((y.length : Int) != 0) else none) = some b := e
   split at e
   ·next hl => cases e; obtain rfl := h.str; exact ⟨zdq hl, rfl⟩
   ·cases e
  | tuple ds => exact seqs rfl e
  | list ds => exact seqs rfl e
  | dict _ => cases e
 | lst ds => exact seqs rfl e
 | dic kvs =>
  cases e
  obtain ⟨a, kxs, rfl, he, fk⟩ := h.dic
  exact .inr (.inr ⟨kxs, he, (isE fk.length).symm⟩)
 | dls kvs =>
  cases e
  obtain ⟨a, kxs, G, rfl, he, fk⟩ := h.dls
  refine .inr (.inr ⟨kxs, he, (isE ?_).symm⟩)
  clear he h seqs
  induction fk with
  | nil => rfl
  | cons _ _ _ ih => rw [List.length_cons, List.length_cons, ih]
theorem znD {e : Expr} {f : FE} (h : VE X e f) (he : ∀ whole, isTrue e X.env whole = (do let v ← whole; standAt e.pos; holding [v] (truthy v)) := by intro _; rfl) : VT X e (zf0 f) := zgY (zjA h he) fun σ H Q hq => by
 obtain ⟨Z, ρ, F, b, ρ', S, w, e, q⟩ := hq
 obtain ⟨⟨o1, ρ1⟩, e1, e⟩ := oB e
 obtain ⟨m, e2, e⟩ := oB e
 obtain ⟨b', e3, e⟩ := oB e
 cases e
 exact ⟨Z, ρ, F, o1, ρ1, S, w, e1, fun x H1 Z1 F1 G1 S1 O1 f1 => ⟨_, (O1.peek S1 e2).tru e3, q H1 Z1 F1 S1 f1.left⟩⟩
abbrev FO := Ev → Option (Option Int × Ev)
def vO (K : PySem.W.Frag) (f : FO) : TO := fun σ H Q => ∃ Z ρ F o ρ', Owo K H Z σ ρ F ∧ Wf H Z F ∧ f ρ = some (o, ρ') ∧ ∀ H' Z' F', Owo K H' Z' σ ρ' F' → Fut H Z F H' Z' F' → Q o H'
def zg3 : FO := fun ρ => some (none, ρ)
def zg4 (f : FE) : FO := fun ρ => (f ρ).bind fun p => (peek p.2 p.1).bind fun m => match m with
 | .v (.int i) => some (some i, p.2)
 | _ => none
theorem zlz : PO X none (vO X.K zg3) := fun pins s σ H Q I hq => zk6 pins s σ H Q I (by
 obtain ⟨Z, ρ, F, o, ρ', S, w, e, q⟩ := hq
 cases e
 exact q H Z F S (Fut.refl w))
theorem zlA {e : Expr} {f : FE} (h : VE X e f) : PO X (some e) (vO X.K (zg4 f)) := fun pins s σ H Q I hq => zk7 h pins s σ H Q I (by
 obtain ⟨Z, ρ, F, o, ρ', S, w, e, q⟩ := hq
 obtain ⟨⟨o1, ρ1⟩, e1, e⟩ := oB e
 obtain ⟨m1, e3, e⟩ := oB e
 refine ⟨Z, ρ, F, o1, ρ1, S, w, e1, fun x H1 Z1 F1 G1 S1 O1 f1 => ?_⟩
 split at e
 ·cases e
  obtain rfl := (O1.peek S1 e3).int
  exact ⟨_, rfl, q H1 Z1 F1 S1 f1.left⟩
 ·cases e)
def cutD (ds : List PyData) (lo hi : Option Int) : List PyData := (ds.drop (HT.sIx ds.length 0 lo)).take (HT.sIx ds.length ds.length hi - HT.sIx ds.length 0 lo)
theorem zix {K : PySem.W.Frag} {H : Hp} {Z : Zs} {xs : List V} {ds : List PyData} (r : Fzs K H Z xs ds) (lo hi : Option Int) : Fzs K H Z (zh4 xs lo hi) (cutD ds lo hi) := by
 unfold zh4 cutD
 rw [r.length]
 exact (r.drop _).take _
def slM (lo hi : Option Int) : M → Option M
 | .v (.tuple ds) => some (.v (.tuple (cutD ds lo hi)))
 | .lst ds => some (.lst (cutD ds lo hi))
 | .v (.list ds) => some (.lst (cutD ds lo hi))
 | _ => none
def vSl (fa : FE) (fl fh : FO) : FE := fun ρ => (fa ρ).bind fun p => (fl p.2).bind fun l => (fh l.2).bind fun h => (zeY h.2 p.1).bind fun m => (slM l.1 h.1 m).bind fun m' => some (.t m', h.2)
theorem SlR.or {r r' : V → Option Int → Option Int → Hp → VK → Prop} (h : SlR X r) (h' : SlR X r') : SlR X (fun x lo hi H Q => r x lo hi H Q ∨ r' x lo hi H Q) := by
 intro pins s σ H x v vl vu lo hi sl Q I rx hs pl pu q
 rcases q with q | q
 ·exact h pins s σ H x v vl vu lo hi sl Q I rx hs pl pu q
 ·exact h' pins s σ H x v vl vu lo hi sl Q I rx hs pl pu q
theorem ve_sl {e : Expr} {lo hi : Option Expr} {p2 : Pos} {fa : FE} {fl fh : FO} (ha : VE X e fa) (hl : PO X lo (vO X.K fl)) (hh : PO X hi (vO X.K fh)) : VE X (.Subscript e (.Slice lo hi none p2) pos) (vSl fa fl fh) := za4 (zjF (SlR.or zlo zla) ha hl hh) fun σ H Q hq => by
 obtain ⟨Z, ρ, F, o, ρ', S, w, e, q⟩ := hq
 obtain ⟨⟨o1, ρ1⟩, e1, e⟩ := oB e
 obtain ⟨⟨l, ρ2⟩, e2, e⟩ := oB e
 obtain ⟨⟨h, ρ3⟩, e3, e⟩ := oB e
 obtain ⟨m, e4, e⟩ := oB e
 obtain ⟨m', e5, e⟩ := oB e
 cases e
 refine ⟨Z, ρ, F, o1, ρ1, S, w, e1, fun x H1 Z1 F1 G1 S1 O1 f1 => ⟨Z1, ρ1, F1, l, ρ2, S1, f1.left.wf, e2, fun H2 Z2 F2 S2 f2 => ⟨Z2, ρ2, F2, h, ρ3, S2, f2.wf, e3, fun H3 Z3 F3 S3 f3 => ?_⟩⟩⟩
 have f23 := f2.trans f3
 have O1' := O1.mono (zby e4) (f23.grow f1.left.wf) (f1.zio f23)
 have r := O1'.peek S3 (zbx e4)
 have fin : ∀ z H4 Z4 G, Ow X.K H4 Z4 z m' G → Fut H3 Z3 [] H4 Z4 G → Q z H4 := fun z H4 Z4 G h4 n => q z H4 Z4 F3 G (S3.news n) (.t h4) ((f1.left.trans f23).trans (n.news f3.wf S3.al))
 unfold slM at e5
 split at e5
 ·cases e5
  obtain ⟨a, xs, rfl, hx, fx⟩ := r.tup
  exact .inl ⟨a, xs, rfl, hx, fun r H' s' t => endS fin f3.za s' (.tup t ((zix fx _ _).mono (za0.same s')))⟩
 ·cases e5
  obtain ⟨a, xs, rfl, hx, fx⟩ := r.zis rfl
  exact .inr ⟨a, xs, rfl, hx, fun p hp => zlw fin f3.za hp (zix fx _ _)⟩
 ·cases e5
  obtain ⟨a, xs, rfl, hx, fx⟩ := r.zis rfl
  exact .inr ⟨a, xs, rfl, hx, fun p hp => zlw fin f3.za hp (zix fx _ _)⟩
 ·cases e5
def zmp : M → Option M
 | .v (.int i) => some (.v (.int (-i)))
 | _ => none
theorem znE {a : Expr} {fa : FE} (ha : VE X a fa) : VE X (.UnaryOp .USub a pos) (vU zmp fa) := za4 (pe_un zmV ha) fun σ H Q hq => one (r := rU fun i => .int (-i)) (fun H Z x m1 m Q za h1 e q => by
 unfold zmp at e
 split at e
 ·cases e
  obtain rfl := h1.int
  exact ⟨_, rfl, zcs q za (.int _)⟩
 ·cases e) hq
end
end VL
end
section
namespace VL
open PySem PySem.Spec L2 PyProof.Rows
section
variable {α : Type}
def ins (lt : α → α → Bool) (x : α) : List α → List α
 | [] => [x]
 | y :: ys => if lt y x = true then y :: ins lt x ys else x :: y :: ys
def zhA (lt : α → α → Bool) : List α → List α
 | [] => []
 | x :: xs => ins lt x (zhA lt xs)
theorem zeZ (lt : α → α → Bool) (x : α) : ∀ ys : List α, (ins lt x ys).Perm (x :: ys)
 | [] => .refl _
 | y :: ys => by
  unfold ins
  split
  ·exact ((zeZ lt x ys).cons y).trans (.swap x y ys)
  ·exact .refl _
theorem zbB (lt : α → α → Bool) : ∀ xs : List α, (zhA lt xs).Perm xs
 | [] => .refl _
 | x :: xs => (zeZ lt x _).trans ((zbB lt xs).cons x)
theorem zkx {lt : α → α → Bool} (as : ∀ a b, lt a b = true → lt b a = false) (tr : ∀ a b c, lt b a = false → lt c b = false → lt c a = false) (x : α) : ∀ {ys : List α}, ys.Pairwise (fun a b => lt b a = false) → (ins lt x ys).Pairwise (fun a b => lt b a = false)
 | [], _ => List.pairwise_singleton _ _
 | y :: ys, h => by
  obtain ⟨h1, h2⟩ := List.pairwise_cons.mp h
  unfold ins
  split
  ·next e =>
   refine List.pairwise_cons.mpr ⟨fun z hz => ?_, zkx as tr x h2⟩
   rcases lK ((zeZ lt x ys).mem_iff.mp hz) with hz | hz
   ·subst hz; exact as _ _ e
   ·exact h1 z hz
  ·next e =>
   have e : lt y x = false := by simpa using e
   refine List.pairwise_cons.mpr ⟨fun z hz => ?_, h⟩
   rcases lK hz with hz | hz
   ·subst hz; exact e
   ·exact tr _ _ _ e (h1 z hz)
theorem zdI {lt : α → α → Bool} (as : ∀ a b, lt a b = true → lt b a = false) (tr : ∀ a b c, lt b a = false → lt c b = false → lt c a = false) : ∀ xs : List α, (zhA lt xs).Pairwise (fun a b => lt b a = false)
 | [] => .nil
 | x :: xs => zkx as tr x (zdI as tr xs)
end
def ltI (a b : Int) : Bool := decide (a < b)
def zeu (ns : List Int) : List Int := zhA ltI ns
def ze0 (ks : List (List Int)) : List (List Int) := zhA HT.lexLt ks
theorem zcW : ∀ (a b : List Int), HT.lexLt a b = false → HT.lexLt b a = false → a = b
 | [], [], _, _ => rfl
 | [], _ :: _, h, _ => by cases h
 | _ :: _, [], _, h => by cases h
 | x :: xs, y :: ys, h, h' => by
  rw [HT.za8] at h h'
  by_cases e : x = y
  ·subst e
   rw [if_pos rfl] at h h'
   rw [zcW xs ys h h']
  ·rw [if_neg e] at h
   rw [if_neg (Ne.symm e)] at h'
   have h := of_decide_eq_false h
   have h' := of_decide_eq_false h'
   omega
theorem zhB {ns ns' : List Int} (p : ns'.Perm ns) (s : ns'.Pairwise (· ≤ ·)) : ns' = zeu ns := by
 refine List.Perm.eq_of_pairwise (le := fun a b => ltI b a = false) (fun a b _ _ h1 h2 => ?_) (s.imp fun h => ?_) (zdI (fun a b h => ?_) (fun a b c h1 h2 => ?_) ns) (p.trans (zbB _ ns).symm)
 ·unfold ltI at h1 h2
  have h1 := of_decide_eq_false h1
  have h2 := of_decide_eq_false h2
  omega
 ·exact decide_eq_false (by omega)
 ·have h := of_decide_eq_true h
  exact decide_eq_false (by omega)
 ·have h1 := of_decide_eq_false h1
  have h2 := of_decide_eq_false h2
  exact decide_eq_false (by omega)
theorem zeD {ns ns' : List (List Int)} (p : ns'.Perm ns) (s : ns'.Pairwise fun a b => HT.lexLt b a = false) : ns' = ze0 ns :=
 List.Perm.eq_of_pairwise (le := fun a b => HT.lexLt b a = false) (fun a b _ _ h1 h2 => zcW a b h2 h1) s (zdI zcn zb0 ns) (p.trans (zbB _ ns).symm)
def tI (ns : List Int) : PyData := .tuple (ns.map .int)
def asT : PyData → Option (List Int)
 | .tuple ds => zfh ds
 | _ => none
def zlB : List PyData → Option (List (List Int))
 | [] => some []
 | d :: ds => (asT d).bind fun i => (zlB ds).bind fun is => some (i :: is)
theorem zdJ : ∀ {ds : List PyData} {ks : List (List Int)}, zlB ds = some ks → ds = ks.map tI
 | [], _, e => by cases e; rfl
 | d :: ds, _, e => by
  obtain ⟨i, e1, e⟩ := oB e
  obtain ⟨is, e2, e⟩ := oB e
  cases e
  rw [zdJ e2]
  cases d with
  | tuple xs => rw [List.map_cons]; unfold tI; rw [zbn e1]
  | _ => cases e1
theorem ziy : ∀ (ks : List (List Int)), zlB (ks.map tI) = some ks
 | [] => rfl
 | k :: ks => by show (zfh (k.map .int)).bind _ = _; rw [zcV, Option.bind_some, ziy ks]; rfl
theorem Fzs.tis {K : PySem.W.Frag} {H : Hp} {Z : Zs} : ∀ {ks : List (List Int)} {xs : List V}, Fzs K H Z xs (ks.map tI) → TIs K H xs ks
 | [], _, .nil => .nil
 | k :: ks, _, .cons h r => .cons (by obtain ⟨a, xs, e1, e2, e3⟩ := h.zda; rw [e3.zbm] at e2; exact ⟨a, e1, e2⟩) (Fzs.tis r)
theorem Fzs.ziz {K : PySem.W.Frag} {H : Hp} {Z : Zs} {xs : List V} {ks : List (List Int)} (r : TIs K H xs ks) : ∀ (zs : List (V × List Int)), (∀ z ∈ zs, z ∈ xs.zip ks) → Fzs K H Z (zs.map (·.1)) ((zs.map (·.2)).map tI)
 | [], _ => .nil
 | z :: zs, h => .cons (by
   have hz := h z lS
   have : ∀ {xs : List V} {ks : List (List Int)}, TIs K H xs ks → z ∈ xs.zip ks → ∃ a, z.1 = .ref a ∧ SqT K H a (z.2.map V.int) := fun {xs ks} r hz => by
    induction r with
    | nil => simp at hz
    | cons q _ ih =>
     rw [List.zip_cons_cons] at hz
     rcases lK hz with hz | hz
     ·subst hz; exact q
     ·exact ih hz
   obtain ⟨a, e1, e2⟩ := this r hz
   show Fz K H Z z.1 (tI z.2)
   rw [e1]
   exact .tup e2 (Fzs.ints _)) (Fzs.ziz r zs fun z' h' => h z' (lO _ h'))
def inlK : Key → Option Int
 | .inl i => some i
 | .inr _ => none
def inls : List Key → Option (List Int)
 | [] => some []
 | k :: ks => (inlK k).bind fun i => (inls ks).bind fun is => some (i :: is)
theorem ze1 : ∀ {ks : List Key} {is : List Int}, inls ks = some is → ks = is.map Sum.inl
 | [], _, e => by cases e; rfl
 | k :: ks, _, e => by
  obtain ⟨i, e1, e⟩ := oB e
  obtain ⟨is, e2, e⟩ := oB e
  cases e
  rw [ze1 e2]
  cases k with
  | inl j => cases e1; rfl
  | inr _ => cases e1
def zhC (ds : List PyData) : Option (List PyData) :=
 if ds.length < 64 then
  match zfh ds with
  | some ns => some ((zeu ns).map .int)
  | none => (zlB ds).bind fun ks => if ks.all (fun k => !k.isEmpty) = true then some ((ze0 ks).map tI) else none
 else none
def zd0 : List M → Option M
 | [.dic kvs] => (inls (kvs.map (·.1))).bind fun ns => if ns.length < 64 then some (.lst ((zeu ns).map .int)) else none
 | [.dls kvs] => (inls (kvs.map (·.1))).bind fun ns => if ns.length < 64 then some (.lst ((zeu ns).map .int)) else none
 | [.v (.tuple ds)] => (zfh ds).bind fun ns => if ns.length < 64 then some (.lst ((zeu ns).map .int)) else none
 | [m] => (zis m).bind fun ds => (zhC ds).bind fun es => some (.lst es)
 | _ => none
theorem Owl.keys {K : PySem.W.Frag} {H : Hp} {Z : Zs} : ∀ {xs : List (Key × V)} {ds : List (Key × List PyData)} {G : List Addr}, Owl K H Z xs ds G → xs.map (·.1) = ds.map (·.1)
 | _, _, _, .nil => rfl
 | _, _, _, .cons _ _ r => by rw [List.map_cons, List.map_cons, Owl.keys r]
section
variable {X : Cx} {pos : Pos}
theorem zfF {K : PySem.W.Frag} {H : Hp} {Z : Zs} {xs : List V} {m : M} (h : Ros K H Z xs [m]) : ∃ x, xs = [x] ∧ Ro K H Z x m := by
 cases h with
 | cons h r => cases r; exact ⟨_, rfl, h⟩
theorem znF {K : PySem.W.Frag} {H : Hp} {Z : Zs} {xs : List V} {m m' : M} (h : Ros K H Z xs [m, m']) : ∃ x y, xs = [x, y] ∧ Ro K H Z x m ∧ Ro K H Z y m' := by
 cases h with
 | cons h r => cases r with
  | cons h' r => cases r; exact ⟨_, _, rfl, h, h'⟩
theorem zca (hc : X.calm = true) : za3 X (.builtin "sorted") (rLM X.K zd0) := by
 intro pins s σ H xs us Q I rs h
 obtain ⟨Z, ms, m, za, hr, e, q⟩ := h
 have hInt : ∀ {ns ns' : List Int} {l : Addr}, (∀ z H' Z' G, Ow X.K H' Z' z (.lst ((zeu ns).map .int)) G → Fut H Z [] H' Z' G → Q z H') → ns'.Perm ns → ns'.Pairwise (· ≤ ·) → H l = none → Q (.ref l) (upd H l (.lst (ns'.map V.int))) := fun {ns ns' l} q p w hl => by
  rw [zhB p w]
  exact zlw q za hl (Fzs.ints _)
 unfold zd0 at e
 split at e
 ·obtain ⟨ns, e1, e⟩ := oB e
  split at e
  ·next h64 =>
   cases e
   obtain ⟨x, rfl, h1⟩ := zfF hr
   obtain ⟨a, kxs, rfl, he, fk⟩ := h1.dic
   exact zb5 hc pins s σ H _ us Q I rs ⟨a, kxs, ns, rfl, he, by rw [fk.keys, ze1 e1], h64, fun ns' l p w hl => hInt q p w hl⟩
  ·cases e
 ·obtain ⟨ns, e1, e⟩ := oB e
  split at e
  ·next h64 =>
   cases e
   obtain ⟨x, rfl, h1⟩ := zfF hr
   obtain ⟨a, kxs, G, rfl, he, fk⟩ := h1.dls
   exact zb5 hc pins s σ H _ us Q I rs ⟨a, kxs, ns, rfl, he, by rw [fk.keys, ze1 e1], h64, fun ns' l p w hl => hInt q p w hl⟩
  ·cases e
 ·obtain ⟨ns, e1, e⟩ := oB e
  split at e
  ·next h64 =>
   cases e
   obtain ⟨x, rfl, h1⟩ := zfF hr
   obtain ⟨a, xs, rfl, hx, fx⟩ := h1.tup
   rw [zbn e1] at fx
   rw [fx.zbm] at hx
   exact zdF pins s σ H _ us Q I rs ⟨a, ns, rfl, hx, h64, fun ns' l p w hl => hInt q p w hl⟩
  ·cases e
 ·next m0 _ _ _ =>
  obtain ⟨ds, e1, e⟩ := oB e
  obtain ⟨es, e2, e⟩ := oB e
  cases e
  obtain ⟨x, rfl, h1⟩ := zfF hr
  obtain ⟨a, xs, rfl, hx, fx⟩ := h1.zis e1
  unfold zhC at e2
  split at e2
  ·next h64 =>
   split at e2
   ·next ns e3 =>
    cases e2
    rw [zbn e3] at fx h64
    rw [fx.zbm] at hx
    exact zdD pins s σ H _ us Q I rs ⟨a, ns, rfl, hx, by simpa using h64, fun ns' l p w hl => hInt q p w hl⟩
   ·obtain ⟨ks, e3, e2⟩ := oB e2
    split at e2
    ·next hne =>
     cases e2
     rw [zdJ e3] at fx
     have hl : xs.length = ks.length := by rw [fx.length, List.length_map]
     have ht := fx.tis
     refine zdE pins s σ H _ us Q I rs ⟨a, xs, ks, rfl, hx, ht, fun t h z => ?_, ?_, fun zs l p w hl' => ?_⟩
     ·have := List.all_eq_true.mp hne t h
      rw [z] at this
      cases this
     ·have : ds.length = ks.length := by rw [zdJ e3, List.length_map]
      omega
     ·have e : zs.map (·.2) = ze0 ks := zeD ((p.map (·.2)).trans (by rw [List.map_snd_zip (by omega)])) w
      have := Fzs.ziz (Z := Z) ht zs fun z h => p.mem_iff.mp h
      rw [e] at this
      exact zlw q za hl' this
    ·cases e2
  ·cases e2
 ·cases e
def zd1 : List M → Option M
 | [.dic kvs] => some (.v (.int kvs.length))
 | [.dls kvs] => some (.v (.int kvs.length))
 | [.v (.str z)] => if z.length ≤ lim then some (.v (.int z.length)) else none
 | [m] => (seq m).bind fun ds => some (.v (.int ds.length))
 | _ => none
theorem Owl.length {K : PySem.W.Frag} {H : Hp} {Z : Zs} : ∀ {xs : List (Key × V)} {ds : List (Key × List PyData)} {G : List Addr}, Owl K H Z xs ds G → xs.length = ds.length
 | _, _, _, .nil => rfl
 | _, _, _, .cons _ _ r => by rw [List.length_cons, List.length_cons, Owl.length r]
theorem zcX : za3 X (.builtin "len") (rLM X.K zd1) := by
 intro pins s σ H xs us Q I rs h
 obtain ⟨Z, ms, m, za, hr, e, q⟩ := h
 unfold zd1 at e
 split at e
 ·cases e
  obtain ⟨x, rfl, h1⟩ := zfF hr
  obtain ⟨a, kxs, rfl, he, fk⟩ := h1.dic
  exact zfy pins s σ H _ us Q I rs ⟨a, kxs, rfl, he, by rw [fk.length]; exact zcs q za (.int _)⟩
 ·cases e
  obtain ⟨x, rfl, h1⟩ := zfF hr
  obtain ⟨a, kxs, G, rfl, he, fk⟩ := h1.dls
  exact zfy pins s σ H _ us Q I rs ⟨a, kxs, rfl, he, by rw [fk.length]; exact zcs q za (.int _)⟩
 ·split at e
  ·next hl =>
   cases e
   obtain ⟨x, rfl, h1⟩ := zfF hr
   obtain rfl := h1.str
   exact zfs pins s σ H _ us Q I rs ⟨_, rfl, zdq hl, zcs q za (.int _)⟩
  ·cases e
 ·obtain ⟨ds, e1, e⟩ := oB e
  cases e
  obtain ⟨x, rfl, h1⟩ := zfF hr
  obtain ⟨a, ys, rfl, hx, fx⟩ := h1.seq e1
  exact zfr pins s σ H _ us Q I rs ⟨a, ys, rfl, hx, by rw [fx.length]; exact zcs q za (.int _)⟩
 ·cases e
def zd2 : List M → Option M
 | [m] => (seq m).bind fun ds => some (.v (.tuple ds))
 | _ => none
theorem zbd : za3 X (.type "tuple") (rLM X.K zd2) := by
 intro pins s σ H xs us Q I rs h
 obtain ⟨Z, ms, m, za, hr, e, q⟩ := h
 unfold zd2 at e
 split at e
 ·obtain ⟨ds, e1, e⟩ := oB e
  cases e
  obtain ⟨x, rfl, h1⟩ := zfF hr
  obtain ⟨a, ys, rfl, hx, fx⟩ := h1.seq e1
  refine zeQ pins s σ H _ us Q I rs ⟨a, ys, rfl, ?_⟩
  rcases hx with hx | hx
  ·exact .inl ⟨hx, fun l hl => endT q za hl fx⟩
  ·exact .inr ⟨hx, zcs q za (.tup hx fx)⟩
 ·cases e
def zgb : List M → Option M
 | [m] => (seq m).bind fun ds => some (.lst ds)
 | _ => none
theorem zlC : za3 X (.type "list") (rLM X.K zgb) := by
 intro pins s σ H xs us Q I rs h
 obtain ⟨Z, ms, m, za, hr, e, q⟩ := h
 unfold zgb at e
 split at e
 ·obtain ⟨ds, e1, e⟩ := oB e
  cases e
  obtain ⟨x, rfl, h1⟩ := zfF hr
  obtain ⟨a, ys, rfl, hx, fx⟩ := h1.seq e1
  exact zft pins s σ H _ us Q I rs ⟨a, ys, rfl, hx, fun l hl => zlw q za hl fx⟩
 ·cases e
def absM : List M → Option M
 | [.v (.int i)] => some (.v (.int (if i < 0 then -i else i)))
 | _ => none
def zhD : List M → Option M
 | [.v (.int i)] => some (.v (.int i))
 | [.v (.bool k)] => some (.v (.int (if k then 1 else 0)))
 | _ => none
theorem znG : za3 X (.type "int") (rLM X.K zhD) := by
 intro pins s σ H xs us Q I rs h
 obtain ⟨Z, ms, m, za, hr, e, q⟩ := h
 unfold zhD at e
 split at e
 ·cases e
  obtain ⟨x, rfl, h1⟩ := zfF hr
  obtain rfl := h1.int
  exact zfl pins s σ H _ us Q I rs (.inl ⟨_, rfl, zcs q za (.int _)⟩)
 ·cases e
  obtain ⟨x, rfl, h1⟩ := zfF hr
  obtain rfl := h1.bl
  exact zfl pins s σ H _ us Q I rs (.inr ⟨_, rfl, zcs q za (.int _)⟩)
 ·cases e
def zmq : List Int → Option Int
 | [] => none
 | n :: ns => match zmq ns with
  | none => some n
  | some k => some (if k < n then k else n)
theorem zfG : ∀ {ns : List Int} {k : Int}, zmq ns = some k → k ∈ ns ∧ ∀ a ∈ ns, k ≤ a
 | [], _, e => by cases e
 | n :: ns, k, e => by
  unfold zmq at e
  cases h : zmq ns with
  | none =>
   rw [h] at e; cases e
   cases ns with
   | nil => exact ⟨lS, fun a ha => by rw [List.mem_singleton.mp ha]; exact Int.le_refl _⟩
   | cons y ys => unfold zmq at h; split at h <;> cases h
  | some j =>
   rw [h] at e
   have e : (if j < n then j else n) = k := Option.some.inj e
   obtain ⟨h1, h2⟩ := zfG h
   by_cases c : j < n
   ·rw [if_pos c] at e; subst e
    exact ⟨lO _ h1, fun a ha => by
     rcases lK ha with ha | ha
     ·subst ha; omega
     ·exact h2 a ha⟩
   ·rw [if_neg c] at e; subst e
    exact ⟨lS, fun a ha => by
     rcases lK ha with ha | ha
     ·subst ha; omega
     ·have := h2 a ha; omega⟩
def zky : List M → Option M
 | [.v (.int i), .v (.int j)] => some (.v (.int (if j < i then j else i)))
 | [m] => (zis m).bind fun ds => (zfh ds).bind fun ns => (zmq ns).bind fun k => some (.v (.int k))
 | _ => none
theorem ziA (hc : X.calm = true) : za3 X (.builtin "min") (rLM X.K zky) := by
 intro pins s σ H xs us Q I rs h
 obtain ⟨Z, ms, m, za, hr, e, q⟩ := h
 unfold zky at e
 split at e
 ·cases e
  obtain ⟨x, y, rfl, h1, h2⟩ := znF hr
  obtain rfl := h1.int; obtain rfl := h2.int
  exact zhZ hc pins s σ H _ us Q I rs ⟨_, _, rfl, zcs q za (.int _)⟩
 ·obtain ⟨ds, e1, e⟩ := oB e
  obtain ⟨ns, e2, e⟩ := oB e
  obtain ⟨k, e3, e⟩ := oB e
  cases e
  obtain ⟨x, rfl, h1⟩ := zfF hr
  obtain ⟨a, ys, rfl, hx, fx⟩ := h1.zis e1
  rw [zbn e2] at fx
  rw [fx.zbm] at hx
  obtain ⟨k1, k2⟩ := zfG e3
  refine zeV hc pins s σ H _ us Q I rs ⟨a, ns, rfl, hx, fun z => by rw [z] at k1; simp at k1, fun M h1 h2 => ?_⟩
  have : M = k := Int.le_antisymm (h2 k k1) (k2 M h1)
  subst this
  exact zcs q za (.int _)
 ·cases e
def zgo : List M → Option M
 | [.v (.int i), .v (.int j)] => some (.v (.int (if j > i then j else i)))
 | _ => none
theorem zgp (hc : X.calm = true) : za3 X (.builtin "max") (rLM X.K zgo) := by
 intro pins s σ H xs us Q I rs h
 obtain ⟨Z, ms, m, za, hr, e, q⟩ := h
 unfold zgo at e
 split at e
 ·cases e
  obtain ⟨x, y, rfl, h1, h2⟩ := znF hr
  obtain rfl := h1.int; obtain rfl := h2.int
  exact zhY hc pins s σ H _ us Q I rs ⟨_, _, rfl, zcs q za (.int _)⟩
 ·cases e
def asB : PyData → Option Bool
 | .bool b => some b
 | _ => none
def znH : List PyData → Option (List Bool)
 | [] => some []
 | d :: ds => (asB d).bind fun i => (znH ds).bind fun is => some (i :: is)
theorem zg5 : ∀ {ds : List PyData} {is : List Bool}, znH ds = some is → ds = is.map .bool
 | [], _, e => by cases e; rfl
 | d :: ds, _, e => by
  obtain ⟨i, e1, e⟩ := oB e
  obtain ⟨is, e2, e⟩ := oB e
  cases e
  rw [zg5 e2]
  cases d <;> cases e1
  rfl
theorem Fzs.zfH {K : PySem.W.Frag} {H : Hp} {Z : Zs} : ∀ {ns : List Bool} {xs : List V}, Fzs K H Z xs (ns.map .bool) → xs = bls ns
 | [], _, .nil => rfl
 | n :: ns, _, .cons (.bl _) r => by rw [Fzs.zfH r]; rfl
def allM (any : Bool) : List M → Option M
 | [m] => (zis m).bind fun ds => (znH ds).bind fun bs => some (.v (.bool (if any then bs.any id else bs.all id)))
 | _ => none
theorem znI (hc : X.calm = true) : za3 X (.builtin "any") (rLM X.K (allM true)) := by
 intro pins s σ H xs us Q I rs h
 obtain ⟨Z, ms, m, za, hr, e, q⟩ := h
 unfold allM at e
 split at e
 ·obtain ⟨ds, e1, e⟩ := oB e
  obtain ⟨bs, e2, e⟩ := oB e
  cases e
  obtain ⟨x, rfl, h1⟩ := zfF hr
  obtain ⟨a, ys, rfl, hx, fx⟩ := h1.zis e1
  rw [zg5 e2] at fx
  rw [fx.zfH] at hx
  exact zeo hc pins s σ H _ us Q I rs ⟨a, bs, rfl, hx, zcs q za (.bl _)⟩
 ·cases e
theorem ve_cb {id : String} {x : Str} {p : Pos} {e : Expr} {es : List Expr} {g : List M → Option M} {fa : FA} (hc : za3 X (.builtin id) (rLM X.K g)) (hg : Gl X x) (hm : X.mg x = none) (hv : bootBuiltins x = some (.builtin id)) (ha : VA X (e :: es) fa) (hn : x ≠ "__name__" := by decide) (hdb : (x == ("__debug__" : Str)) = false := by decide)
  (he : starEach (e :: es) X.env = (false, eval e X.env) :: starEach es X.env := by rfl) (hpl : (backTo pos (starEach es X.env)).any (·.1) = false := by rfl) : VE X (.Call (.Name x p) (e :: es) [] pos) (vCB g fa) := za4 (zjB hc hg hm hv ha hn hdb he hpl) fun _ _ _ => many znw
theorem ve_ct {T : String} {x : Str} {p : Pos} {e : Expr} {es : List Expr} {g : List M → Option M} {fa : FA} (hc : za3 X (.type T) (rLM X.K g)) (hg : Gl X x) (hm : X.mg x = none) (hv : bootBuiltins x = some (.type T)) (ha : VA X (e :: es) fa) (hn : x ≠ "__name__" := by decide) (hdb : (x == ("__debug__" : Str)) = false := by decide)
  (he : starEach (e :: es) X.env = (false, eval e X.env) :: starEach es X.env := by rfl) (hpl : (backTo pos (starEach es X.env)).any (·.1) = false := by rfl) : VE X (.Call (.Name x p) (e :: es) [] pos) (vCB g fa) := za4 (zh2 hc hg hm hv ha hn hdb he hpl) fun _ _ _ => many znw
end
end VL
end
section
namespace VL
open PySem PySem.Spec L2 PyProof.Rows
inductive Ows (K : PySem.W.Frag) (H : Hp) (Z : Zs) : List V → List M → List Addr → Prop
 | nil : Ows K H Z [] [] []
 | cons {x : V} {m : M} {G : List Addr} {xs : List V} {ms : List M} {G' : List Addr} : Ow K H Z x m G → Ows K H Z xs ms G' → Ows K H Z (x :: xs) (m :: ms) (G ++ G')
def zbT : List Opd → Ev → Option (List M × Ev)
 | [], ρ => some ([], ρ)
 | .t m :: os, ρ => (zbT os ρ).bind fun q => some (m :: q.1, q.2)
 | .p i :: os, ρ => (at? ρ i).bind fun m => (zbT os (ρ.set i none)).bind fun q => some (m :: q.1, q.2)
 | .q _ _ :: _, _ => none
def zgq : List Opd → List M → Ev → Ev
 | .p i :: os, m :: ms, ρ => zgq os ms (ρ.set i (some m))
 | _ :: os, _ :: ms, ρ => zgq os ms ρ
 | _, _, ρ => ρ
def Hol (ρ : Ev) : List Opd → Prop
 | [] => True
 | .p i :: os => ρ[i]? = some none ∧ .p i ∉ os ∧ Hol ρ os
 | _ :: os => Hol ρ os
section
variable {K : PySem.W.Frag} {H H' : Hp} {Z Z' : Zs} {σ : L2.St}
theorem Ows.length : ∀ {xs : List V} {ms : List M} {G : List Addr}, Ows K H Z xs ms G → xs.length = ms.length
 | _, _, _, .nil => rfl
 | _, _, _, .cons _ r => by rw [List.length_cons, List.length_cons, Ows.length r]
theorem ziB {ρ : Ev} {i j : Nat} {m : M} (h : at? (ρ.set j none) i = some m) : i ≠ j ∧ at? ρ i = some m := by
 have h := zas.mp h
 rw [List.getElem?_set] at h
 split at h
 ·next e => split at h <;> cases h
 ·next e => exact ⟨fun z => e z.symm, zas.mpr h⟩
theorem ze2 : ∀ {os : List Opd} {ρ : Ev} {r : List M × Ev} {i : Nat}, zbT os ρ = some r → .p i ∈ os → ∃ m, at? ρ i = some m
 | .t m :: os, ρ, r, i, e, h => by
  obtain ⟨q, e1, _⟩ := oB e
  exact ze2 e1 (by simpa using h)
 | .p j :: os, ρ, r, i, e, h => by
  obtain ⟨m, e1, e⟩ := oB e
  obtain ⟨q, e2, _⟩ := oB e
  rcases lK h with h | h
  ·cases h; exact ⟨m, e1⟩
  ·obtain ⟨m', h'⟩ := ze2 e2 h
   exact ⟨m', (ziB h').2⟩
 | .q _ _ :: _, _, _, _, e, _ => by cases e
 | [], _, _, _, _, h => by simp at h
theorem zdd : ∀ {os : List Opd} {ρ : Ev} {ms : List M} {ρ' : Ev} {i : Nat}, zbT os ρ = some (ms, ρ') → ρ[i]? = some none → ρ'[i]? = some none
 | [], _, _, _, _, e, h => by cases e; exact h
 | .t m :: os, ρ, _, _, i, e, h => by
  obtain ⟨⟨ms, ρ1⟩, e1, e⟩ := oB e
  cases e
  exact zdd e1 h
 | .p j :: os, ρ, _, _, i, e, h => by
  obtain ⟨m, e1, e⟩ := oB e
  obtain ⟨⟨ms, ρ1⟩, e2, e⟩ := oB e
  cases e
  refine zdd e2 ?_
  rw [List.getElem?_set]
  split
  ·next z => subst z; rw [if_pos (List.getElem?_eq_some_iff.mp h).1]
  ·exact h
 | .q _ _ :: _, _, _, _, _, e, _ => by cases e
theorem zbV : ∀ {os : List Opd} {ρ : Ev} {ms : List M} {ρ' : Ev}, zbT os ρ = some (ms, ρ') → Hol ρ' os
 | [], _, _, _, _ => True.intro
 | .t m :: os, ρ, _, _, e => by
  obtain ⟨⟨ms, ρ1⟩, e1, e⟩ := oB e
  cases e
  exact show Hol ρ1 os from zbV e1
 | .p j :: os, ρ, _, _, e => by
  obtain ⟨m, e1, e⟩ := oB e
  obtain ⟨⟨ms, ρ1⟩, e2, e⟩ := oB e
  cases e
  have hl := (List.getElem?_eq_some_iff.mp (zas.mp e1)).1
  refine ⟨zdd e2 (by rw [List.getElem?_set_self hl]), fun h => ?_, zbV e2⟩
  obtain ⟨m', h'⟩ := ze2 e2 h
  exact (ziB h').1 rfl
 | .q _ _ :: _, _, _, _, e => by cases e
theorem zaC {A B : List Addr} (h : (A ++ B).Nodup) : A.Nodup ∧ B.Nodup ∧ ∀ a ∈ A, a ∉ B := by
 have h' := List.nodup_append.mp h
 exact ⟨h'.1, h'.2.1, fun a x y => h'.2.2 a x a y rfl⟩
theorem zcp : ∀ {os : List Opd} {xs : List V} {ρ : Ev} {F G : List Addr} {ms : List M} {ρ' : Ev}, Owo K H Z σ ρ F → zfY K H Z σ xs os G → (F ++ G).Nodup → zbT os ρ = some (ms, ρ') →
  ∃ A F', Ows K H Z xs ms A ∧ Owo K H Z σ ρ' F' ∧ (F' ++ A).Nodup ∧ ∀ a ∈ F' ++ A, a ∈ F ++ G
 | [], _, _, F, _, _, _, S, .nil, nd, e => by cases e; exact ⟨[], F, .nil, S, nd, fun _ h => h⟩
 | .t m :: os, _, ρ, F, _, _, _, S, .cons (G := G1) (G' := G2) (.t q) r, nd, e => by
  obtain ⟨⟨ms, ρ1⟩, e1, e⟩ := oB e
  cases e
  obtain ⟨n1, n2, n3⟩ := zaC nd
  obtain ⟨n4, n5, n6⟩ := zaC n2
  obtain ⟨A, F', h1, h2, h3, h4⟩ := zcp S r (zav n1 n5 fun a h z => n3 a h (lR _ z)) e1
  obtain ⟨k1, k2, k3⟩ := zaC h3
  have far : ∀ a ∈ G1, a ∉ F ++ G2 := fun a h z => by
   rcases lM z with z | z
   ·exact n3 a z (lL _ h)
   ·exact n6 a h z
  refine ⟨G1 ++ A, F', .cons q h1, h2, zav k1 (zav n4 k2 fun a h z => far a h (h4 a (lR _ z))) fun a h z => ?_, fun a h => ?_⟩
  ·rcases lM z with z | z
   ·exact far a z (h4 a (lL _ h))
   ·exact k3 a h z
  ·rcases lM h with h | h
   ·rcases lM (h4 a (lL _ h)) with z | z
    ·exact lL _ z
    ·exact lR _ (lR _ z)
   rcases lM h with h | h
   ·exact lR _ (lL _ h)
   ·rcases lM (h4 a (lR _ h)) with z | z
    ·exact lL _ z
    ·exact lR _ (lR _ z)
 | .p i :: os, _, ρ, F, _, _, _, S, .cons (G' := G2) (.p q) r, nd, e => by
  obtain ⟨m, e1, e⟩ := oB e
  obtain ⟨⟨ms, ρ1⟩, e2, e⟩ := oB e
  cases e
  rw [List.nil_append] at nd ⊢
  obtain ⟨n1, n2, n3⟩ := zaC nd
  obtain ⟨x', G', F1, t1, t2, t3, t4, t5⟩ := S.take n1 (zas.mp e1)
  rw [q] at t1; cases t1
  obtain ⟨u1, u2, u3⟩ := zaC t4
  obtain ⟨A, F', h1, h2, h3, h4⟩ := zcp t3 r (zav u1 n2 fun a h z => n3 a (t5 a (lL _ h)) z) e2
  obtain ⟨k1, k2, k3⟩ := zaC h3
  have far : ∀ a ∈ G', a ∉ F1 ++ G2 := fun a h z => by
   rcases lM z with z | z
   ·exact u3 a z h
   ·exact n3 a (t5 a (lR _ h)) z
  have wid : ∀ a ∈ F1 ++ G2, a ∈ F ++ G2 := fun a z => by
   rcases lM z with z | z
   ·exact lL _ (t5 a (lL _ z))
   ·exact lR _ z
  refine ⟨G' ++ A, F', .cons t2 h1, h2, zav k1 (zav u2 k2 fun a h z => far a h (h4 a (lR _ z))) fun a h z => ?_, fun a h => ?_⟩
  ·rcases lM z with z | z
   ·exact far a z (h4 a (lL _ h))
   ·exact k3 a h z
  ·rcases lM h with h | h
   ·exact wid a (h4 a (lL _ h))
   rcases lM h with h | h
   ·exact lL _ (t5 a (lR _ h))
   ·exact wid a (h4 a (lR _ h))
 | .q _ _ :: _, _, _, _, _, _, _, _, _, _, e => by cases e
theorem zfI {σ : L2.St} {i : Nat} {x : V} (q : σ[i]? = some (some x)) : σ.set i (some x) = σ := by
  refine List.ext_getElem? fun j => ?_
  rw [List.getElem?_set]
  split
  · next hj => subst hj; split
               · exact q.symm
               · next hh => exact absurd (List.getElem?_eq_some_iff.mp q).1 hh
  · rfl
theorem Hol.set {ρ : Ev} {i : Nat} {m : M} : ∀ {os : List Opd}, Hol ρ os → .p i ∉ os → Hol (ρ.set i (some m)) os
 | [], _, _ => True.intro
 | .t _ :: os, h, n => Hol.set (os := os) h fun z => n (lO _ z)
 | .q _ _ :: os, h, n => Hol.set (os := os) h fun z => n (lO _ z)
 | .p j :: os, h, n => by
  obtain ⟨h1, h2, h3⟩ := h
  refine ⟨?_, h2, Hol.set h3 fun z => n (lO _ z)⟩
  rw [List.getElem?_set, if_neg fun z => n (by rw [z]; exact lS)]
  exact h1
theorem zcB {H0 : Hp} {Z0 : Zs} : ∀ {os : List Opd} {xs : List V} {ρ : Ev} {F G0 A : List Addr} {ms : List M}, Owo K H Z σ ρ F → zfY K H0 Z0 σ xs os G0 → Ows K H Z xs ms A → (F ++ A).Nodup → Hol ρ os →
  ∃ F', Owo K H Z σ (zgq os ms ρ) F' ∧ F'.Nodup ∧ ∀ a ∈ F', a ∈ F ++ A
 | [], _, _, F, _, _, _, S, .nil, .nil, nd, _ => ⟨F, S, (zaC nd).1, fun a h => lL _ h⟩
 | .t m :: os, _, ρ, F, _, _, _, S, .cons (.t q) r, .cons (G := G) (G' := G') h hs, nd, hol => by
  obtain ⟨n1, n2, n3⟩ := zaC nd
  obtain ⟨F', h1, h2, h3⟩ := zcB S r hs (zav n1 (zaC n2).2.1 fun a h z => n3 a h (lR _ z)) hol
  refine ⟨F', h1, h2, fun a h => ?_⟩
  rcases lM (h3 a h) with z | z
  ·exact lL _ z
  ·exact lR _ (lR _ z)
 | .q _ _ :: os, _, ρ, F, _, _, _, S, .cons (.q _ _ _) r, .cons (G := G) (G' := G') h hs, nd, hol => by
  obtain ⟨n1, n2, n3⟩ := zaC nd
  obtain ⟨F', h1, h2, h3⟩ := zcB S r hs (zav n1 (zaC n2).2.1 fun a h z => n3 a h (lR _ z)) hol
  refine ⟨F', h1, h2, fun a h => ?_⟩
  rcases lM (h3 a h) with z | z
  ·exact lL _ z
  ·exact lR _ (lR _ z)
 | .p i :: os, _, ρ, F, _, _, _, S, .cons (.p q) r, .cons (G := G) (G' := G') h hs, nd, hol => by
  obtain ⟨l1, l2, l3⟩ := hol
  obtain ⟨n1, n2, n3⟩ := zaC nd
  obtain ⟨n4, n5, n6⟩ := zaC n2
  obtain ⟨F1, p1, p2, p3⟩ := S.put h (zav n1 n4 fun a h z => n3 a h (lL _ z)) l1
  rw [zfI q] at p1
  obtain ⟨F', h1, h2, h3⟩ := zcB p1 r hs (zav p2 n5 fun a h z => by
   rcases lM (p3 a h) with y | y
   ·exact n3 a y (lR _ z)
   ·exact n6 a y z) (l3.set l2)
  refine ⟨F', h1, h2, fun a h => ?_⟩
  rcases lM (h3 a h) with z | z
  ·rcases lM (p3 a z) with z | z
   ·exact lL _ z
   ·exact lR _ (lL _ z)
  ·exact lR _ (lR _ z)
end
abbrev FF := List M → Option (M × List M)
def spV (K : PySem.W.Frag) (g : FF) : Sp := fun vs H Q _ => ∃ Z ms A m ms', Ows K H Z vs ms A ∧ Wf H Z A ∧ g ms = some (m, ms') ∧ ∀ x H' Z' A' G, Ows K H' Z' vs ms' A' → Ow K H' Z' x m G → Fut H Z A H' Z' (A' ++ G) → Q x H'
def vFn (g : FF) (fa : FA) : FE := fun ρ => (fa ρ).bind fun p => (zbT p.1 p.2).bind fun q => (g q.1).bind fun r => some (.t r.1, zgq p.1 r.2 q.2)
section
variable {X : Cx} {pos : Pos}
theorem called {g : FF} {fa : FA} {σ : L2.St} {H : Hp} {Q : VK} {E : XK} (hq : vE X.K (vFn g fa) σ H Q) : zk1 (spV X.K g) [] E (vA X.K fa) σ H Q := by
 obtain ⟨Z, ρ, F, o, ρ', S, w, e, q⟩ := hq
 obtain ⟨⟨os, ρ1⟩, e1, e⟩ := oB e
 obtain ⟨⟨ms, ρ2⟩, e2, e⟩ := oB e
 obtain ⟨⟨m, ms'⟩, e3, e⟩ := oB e
 cases e
 refine ⟨Z, ρ, F, os, ρ1, S, w, e1, fun xs H1 Z1 F1 G1 S1 O1 f1 => ?_⟩
 show spV X.K g (xs ++ []) H1 Q E
 rw [List.append_nil]
 obtain ⟨A, Fh, h1, h2, h3, h4⟩ := zcp S1 O1 f1.nd e2
 obtain ⟨n1, n2, n3⟩ := zaC h3
 refine ⟨Z1, ms, A, m, ms', h1, ⟨n2, fun a h => f1.dz a (h4 a (lR _ h)), f1.za⟩, e3, fun x H2 Z2 A' G k1 k2 f2 => ?_⟩
 have wA : Wf H1 Z1 A := ⟨n2, fun a h => f1.dz a (h4 a (lR _ h)), f1.za⟩
 have n3' : ∀ a ∈ A, a ∉ Fh := fun a h z => n3 a z h
 have S2 : Owo X.K H2 Z2 σ ρ2 Fh := h2.mono (f2.grow wA) fun a h o e => f2.keep a o (n3 a h) e
 have f3 := f2.frame (G := Fh) ⟨zav n2 n1 n3', fun a h => by
  rcases lM h with h | h
  ·exact f1.dz a (h4 a (lR _ h))
  ·exact f1.dz a (h4 a (lL _ h)), f1.za⟩ h2.al
 obtain ⟨m1, m2, m3, m4, m5, m6⟩ := nd3 f3.nd
 obtain ⟨F', p1, p2, p3⟩ := zcB S2 O1 k1 (zav m3 m1 fun a h z => m5 a z h) (zbV e2)
 have f4 : Fut H Z F H1 Z1 (A ++ Fh) := f1.sub (zav n2 n1 n3') fun a h => h4 a (by
  rcases lM h with h | h
  ·exact lR _ h
  ·exact lL _ h)
 refine q x H2 Z2 F' G p1 (.t k2) ((f4.trans f3).sub (zav p2 m2 fun a h z => ?_) fun a h => ?_)
 ·rcases lM (p3 a h) with y | y
  ·exact m6 a z y
  ·exact m4 a y z
 ·rcases lM h with h | h
  ·rcases lM (p3 a h) with y | y
   ·exact lR _ y
   ·exact lL _ (lL _ y)
  ·exact lL _ (lR _ h)
theorem ve_fn {x : Str} {ps : List Str} {k k' : Nat} {g : FF} {e : Expr} {es : List Expr} {fa : FA} {p : Pos} (C : zaS X.prog X.w X.K X.mg X.base x ps k (spV X.K g)) (hr : zeh k' X.A) (hg : Gl X x) (ha : VA X (e :: es) fa) (hk : k ≤ k' := by first | decide | exact Nat.le_refl _ | omega) (hdb : (x == ("__debug__" : Str)) = false := by decide)
  (he : starEach (e :: es) X.env = (false, eval e X.env) :: starEach es X.env := by rfl) (hpl : (backTo pos (starEach es X.env)).any (·.1) = false := by rfl) : VE X (.Call (.Name x p) (e :: es) [] pos) (vFn g fa) := za4 (pe_fn C hr hg ha hk hdb he hpl) fun _ _ _ hq => called hq
end
end VL
end
section
namespace VL
open PySem PySem.Spec L2 PyProof.Rows
inductive Out where
 | nx (ρ : Ev)
 | bk (ρ : Ev)
 | ct (ρ : Ev)
 | rt (m : M) (ρ : Ev)
abbrev FS := Ev → Option Out
abbrev Pv := Nat → Option V
def Pin (pv : Pv) (σ : L2.St) : Prop := ∀ i x, pv i = some x → σ[i]? = some (some x)
def zkz (K : PySem.W.Frag) (pv : Pv) (D : Ends) (H : Hp) (Z : Zs) (F : List Addr) : Out → Prop
 | .nx ρ' => ∀ σ' H' Z' F', Owo K H' Z' σ' ρ' F' → Fut H Z F H' Z' F' → Pin pv σ' → D.nx σ' H'
 | .bk ρ' => ∀ σ' H' Z' F', Owo K H' Z' σ' ρ' F' → Fut H Z F H' Z' F' → Pin pv σ' → D.bk σ' H'
 | .ct ρ' => ∀ σ' H' Z' F', Owo K H' Z' σ' ρ' F' → Fut H Z F H' Z' F' → Pin pv σ' → D.ct σ' H'
 | .rt m ρ' => ∀ x σ' H' Z' F' G, Owo K H' Z' σ' ρ' F' → Ow K H' Z' x m G → Fut H Z F H' Z' (F' ++ G) → Pin pv σ' → D.rt x H'
def vS (K : PySem.W.Frag) (pv : Pv) (f : FS) : TS := fun D σ H => ∃ Z ρ F out, Owo K H Z σ ρ F ∧ Wf H Z F ∧ Pin pv σ ∧ f ρ = some out ∧ zkz K pv D H Z F out
theorem zkz.trans {K : PySem.W.Frag} {pv : Pv} {D : Ends} {H H' : Hp} {Z Z' : Zs} {F F' : List Addr} {o : Out} (h : zkz K pv D H Z F o) (f : Fut H Z F H' Z' F') : zkz K pv D H' Z' F' o := by
 cases o with
 | nx ρ => exact fun σ1 H1 Z1 F1 s1 f1 p1 => h σ1 H1 Z1 F1 s1 (f.trans f1) p1
 | bk ρ => exact fun σ1 H1 Z1 F1 s1 f1 p1 => h σ1 H1 Z1 F1 s1 (f.trans f1) p1
 | ct ρ => exact fun σ1 H1 Z1 F1 s1 f1 p1 => h σ1 H1 Z1 F1 s1 (f.trans f1) p1
 | rt m ρ => exact fun x σ1 H1 Z1 F1 G s1 o1 f1 p1 => h x σ1 H1 Z1 F1 G s1 o1 (f.trans f1) p1
abbrev Sup (pv : Pv) (pin : List Nat) : Prop := ∀ j x, pv j = some x → j ∈ pin
def VS (X : Cx) (pin : List Nat) (st : Stmt) (f : FS) : Prop := ∀ pv, Sup pv pin → PS X st (vS X.K pv f)
def VSs (X : Cx) (pin : List Nat) (st : List Stmt) (f : FS) : Prop := ∀ pv, Sup pv pin → PSs X st (vS X.K pv f)
section
variable {X : Cx} {pos : Pos} {pin : List Nat}
theorem zds {st : Stmt} {t t' : TS} (h : PS X st t) (i : ∀ D σ H, t' D σ H → t D σ H) : PS X st t' := fun pins s σ H D I q => h pins s σ H D I (i D σ H q)
theorem ziC {st : List Stmt} {t t' : TS} (h : PSs X st t) (i : ∀ D σ H, t' D σ H → t D σ H) : PSs X st t' := fun pins s σ H D I q => h pins s σ H D I (i D σ H q)
def zbW : FS := fun ρ => some (.nx ρ)
def za2 (f g : FS) : FS := fun ρ => (f ρ).bind fun o => match o with
 | .nx ρ1 => g ρ1
 | o => some o
theorem zjR {pv : Pv} {D : Ends} {σ : L2.St} {H : Hp} (hq : vS X.K pv zbW D σ H) : zmJ D σ H := by
 obtain ⟨Z, ρ, F, o, S, w, P, e, q⟩ := hq
 cases e
 exact q σ H Z F S (Fut.refl w) P
theorem zlD : VSs X pin [] zbW := fun pv hp => ziC zkT fun _ _ _ hq => zjR (X := X) hq
theorem zlE {pv : Pv} {f g : FS} {D : Ends} {σ : L2.St} {H : Hp} (hq : vS X.K pv (za2 f g) D σ H) : tSeq (vS X.K pv f) (vS X.K pv g) D σ H := by
 obtain ⟨Z, ρ, F, o, S, w, P, e, q⟩ := hq
 obtain ⟨o1, e1, e⟩ := oB e
 refine ⟨Z, ρ, F, o1, S, w, P, e1, ?_⟩
 cases o1 with
 | nx ρ1 => exact fun σ1 H1 Z1 F1 S1 f1 P1 => ⟨Z1, ρ1, F1, o, S1, f1.wf, P1, e, q.trans f1⟩
 | bk ρ1 => cases e; exact q
 | ct ρ1 => cases e; exact q
 | rt m ρ1 => cases e; exact q
theorem zjS {st : Stmt} {rest : List Stmt} {f g : FS} (h1 : VS X pin st f) (h2 : VSs X pin rest g) : VSs X pin (st :: rest) (za2 f g) := fun pv hp => ziC (zjy (h1 pv hp) (h2 pv hp)) fun _ _ _ hq => zlE hq
theorem zlF {st : Stmt} {f : FS} (h1 : VS X pin st f) : VSs X pin [st] f := fun pv hp => zkU (h1 pv hp)
def ze3 (c : FT) (f g : FS) : FS := fun ρ => (c ρ).bind fun p => if p.1 = true then f p.2 else g p.2
theorem vs_if {c : Expr} {a b : List Stmt} {fc : FT} {f g : FS} (hc : VT X c fc) (ha : VSs X pin a f) (hb : VSs X pin b g) : VS X pin (.If c a b pos) (ze3 fc f g) := fun pv hp => zds (ps_if hc (ha pv hp) (hb pv hp)) fun D σ H hq => by
 obtain ⟨Z, ρ, F, o, S, w, P, e, q⟩ := hq
 obtain ⟨⟨b1, ρ1⟩, e1, e⟩ := oB e
 refine ⟨Z, ρ, F, b1, ρ1, S, w, e1, fun H1 Z1 F1 S1 f1 => ?_⟩
 cases b1 with
 | true => exact zlk ⟨Z1, ρ1, F1, o, S1, f1.wf, P, e, q.trans f1⟩
 | false => exact zlj ⟨Z1, ρ1, F1, o, S1, f1.wf, P, e, q.trans f1⟩
def zbX (f : FE) : FS := fun ρ => (f ρ).bind fun p => some (.nx p.2)
theorem zlG {e : Expr} {f : FE} (h : VE X e f) (hs : swapsWith e none pos.line X.env = pure false := by rfl) : VS X pin (.Expr e pos) (zbX f) := fun pv hp => zds (zkV h hs) fun D σ H hq => by
 obtain ⟨Z, ρ, F, o, S, w, P, e, q⟩ := hq
 obtain ⟨⟨o1, ρ1⟩, e1, e⟩ := oB e
 cases e
 exact ⟨Z, ρ, F, o1, ρ1, S, w, e1, fun x H1 Z1 F1 G1 S1 O1 f1 => q σ H1 Z1 F1 S1 f1.left P⟩
def zjT : Opd → Ev → Option (M × Ev)
 | .t m, ρ => some (m, ρ)
 | .p i, ρ => (at? ρ i).bind fun m => some (m, ρ.set i none)
 | .q i k, ρ => (zcA (.q i k) ρ).bind fun p => some (.v p.1, p.2)
theorem moved {K : PySem.W.Frag} {H H0 : Hp} {Z Z0 : Zs} {F F0 G : List Addr} {σ : L2.St} {ρ ρ' : Ev} {x : V} {o : Opd} {m : M} (S : Owo K H Z σ ρ F) (h : Opv K H Z σ x o G) (f : Fut H0 Z0 F0 H Z (F ++ G)) (e : zjT o ρ = some (m, ρ')) :
  ∃ Z' F' G', Owo K H Z' σ ρ' F' ∧ Ow K H Z' x m G' ∧ Fut H0 Z0 F0 H Z' (F' ++ G') := by
 cases o with
 | t m1 =>
  cases e
  cases h with
  | t q => exact ⟨Z, F, G, S, q, f⟩
 | p i =>
  obtain ⟨m1, e1, e⟩ := oB e
  cases e
  cases h with
  | p q =>
   rw [List.append_nil] at f
   obtain ⟨x', G', F1, t1, t2, t3, t4, t5⟩ := S.take f.nd (zas.mp e1)
   rw [q] at t1; cases t1
   exact ⟨Z, F1, G', t3, t2, f.sub t4 t5⟩
 | q i k =>
  obtain ⟨⟨d, ρ1⟩, e1, e⟩ := oB e
  cases e
  obtain ⟨Z', F', h1, h2, h3, _⟩ := zdb S h f e1
  exact ⟨Z', F', [], h1, .v h2, h3.nil⟩
def zc4 (f : FE) : FS := fun ρ => (f ρ).bind fun p => (zjT p.1 p.2).bind fun q => some (.rt q.1 q.2)
theorem znJ {e : Expr} {f : FE} (h : VE X e f) : VS X pin (.Return (some e) pos) (zc4 f) := fun pv hp => zds (zmK h) fun D σ H hq => by
 obtain ⟨Z, ρ, F, o, S, w, P, e, q⟩ := hq
 obtain ⟨⟨o1, ρ1⟩, e1, e⟩ := oB e
 obtain ⟨⟨m, ρ2⟩, e2, e⟩ := oB e
 cases e
 refine ⟨Z, ρ, F, o1, ρ1, S, w, e1, fun x H1 Z1 F1 G1 S1 O1 f1 => ?_⟩
 obtain ⟨Z2, F2, G2, h1, h2, h3⟩ := moved S1 O1 f1 e2
 exact q x σ H1 Z2 F2 G2 h1 h2 h3 P
def zfJ (i : Nat) (m : M) (ρ : Ev) : Option Ev := if i < ρ.length then some (ρ.set i (some m)) else none
theorem Pin.set {pv : Pv} {σ : L2.St} {i : Nat} {x : Option V} (P : Pin pv σ) (hp : Sup pv pin) (hi : i ∉ pin) : Pin pv (σ.set i x) := fun j y e => by
 rw [List.getElem?_set, if_neg fun z => hi (by subst z; exact hp _ _ e)]
 exact P j y e
theorem Owo.zfJ {K : PySem.W.Frag} {H : Hp} {Z : Zs} {F G : List Addr} {σ : L2.St} {ρ ρ' : Ev} {x : V} {m : M} {i : Nat} (S : Owo K H Z σ ρ F) (h : Ow K H Z x m G) (nd : (F ++ G).Nodup) (e : VL.zfJ i m ρ = some ρ') : ∃ F', Owo K H Z (σ.set i (some x)) ρ' F' ∧ F'.Nodup ∧ ∀ a ∈ F', a ∈ F ++ G := by
 unfold VL.zfJ at e
 split at e
 ·next hl =>
  cases e
  obtain ⟨n1, n2, n3⟩ := zaC nd
  obtain ⟨F1, h1, h2, h3⟩ := S.drop i n1
  obtain ⟨F2, p1, p2, p3⟩ := h1.put h (zav h2 n2 fun a z => n3 a (h3 a z)) (by rw [List.getElem?_set_self hl])
  rw [List.set_set] at p1
  refine ⟨F2, p1, p2, fun a z => ?_⟩
  rcases lM (p3 a z) with z | z
  ·exact lL _ (h3 a z)
  ·exact lR _ z
 ·cases e
def zbL (i : Nat) (f : FE) : FS := fun ρ => (f ρ).bind fun p => (zjT p.1 p.2).bind fun q => (zfJ i q.1 q.2).bind fun ρ' => some (.nx ρ')
theorem znK {i : Nat} {x : Str} {e : Expr} {f : FE} {pos' : Pos} (hp0 : i ∉ pin) (hN : X.N.Nodup) (hi : X.N[i]? = some x) (hx : Loc X.env.scope x) (he : VE X e f) (hs : swapsWith e (some (.Name x pos')) pos.line X.env = pure false := by rfl) (hf : X.fn x = true ∨ X.env.scope.names.lookup x = some .local := by first | exact .inl rfl | exact .inr rfl | assumption) :
  VS X pin (.Assign [.Name x pos'] e pos) (zbL i f) := fun pv hp => zds (zmN hN hi hx he hs hf) fun D σ H hq => by
 obtain ⟨Z, ρ, F, o, S, w, P, e, q⟩ := hq
 obtain ⟨⟨o1, ρ1⟩, e1, e⟩ := oB e
 obtain ⟨⟨m, ρ2⟩, e2, e⟩ := oB e
 obtain ⟨ρ3, e3, e⟩ := oB e
 cases e
 refine ⟨Z, ρ, F, o1, ρ1, S, w, e1, fun y H1 Z1 F1 G1 S1 O1 f1 => ?_⟩
 obtain ⟨Z2, F2, G2, h1, h2, h3⟩ := moved S1 O1 f1 e2
 obtain ⟨F3, k1, k2, k3⟩ := h1.zfJ h2 h3.nd e3
 exact q _ H1 Z2 F3 k1 (h3.sub k2 k3) (P.set hp hp0)
abbrev FG := PyData → Ev → Option Ev
abbrev FGs := List PyData → Ev → Option Ev
def vG (K : PySem.W.Frag) (pv : Pv) (f : FG) : TG := fun x σ H Q => ∃ Z ρ F d ρ', Owo K H Z σ ρ F ∧ F.Nodup ∧ Pin pv σ ∧ Fz K H Z x d ∧ f d ρ = some ρ' ∧ ∀ σ' F', Owo K H Z σ' ρ' F' → F'.Nodup → (∀ a ∈ F', a ∈ F) → Pin pv σ' → Q σ' H
def vGs (K : PySem.W.Frag) (pv : Pv) (f : FGs) : TGs := fun xs σ H Q => ∃ Z ρ F ds ρ', Owo K H Z σ ρ F ∧ F.Nodup ∧ Pin pv σ ∧ Fzs K H Z xs ds ∧ f ds ρ = some ρ' ∧ ∀ σ' F', Owo K H Z σ' ρ' F' → F'.Nodup → (∀ a ∈ F', a ∈ F) → Pin pv σ' → Q σ' H
def VG (X : Cx) (pin : List Nat) (tg : Expr) (f : FG) : Prop := ∀ pv, Sup pv pin → PG X tg (vG X.K pv f)
def VGs (X : Cx) (pin : List Nat) (tg : List Expr) (f : FGs) : Prop := ∀ pv, Sup pv pin → PGs X tg (vGs X.K pv f)
theorem zkA {tg : Expr} {t t' : TG} (h : PG X tg t) (i : ∀ x σ H Q, t' x σ H Q → t x σ H Q) : PG X tg t' := fun pins s σ H x u Q I r q => h pins s σ H x u Q I r (i x σ H Q q)
theorem ziD {tg : List Expr} {t t' : TGs} (h : PGs X tg t) (i : ∀ x σ H Q, t' x σ H Q → t x σ H Q) : PGs X tg t' := fun pins s σ H x u Q I r q => h pins s σ H x u Q I r (i x σ H Q q)
def zad (i : Nat) : FG := fun d ρ => zfJ i (.v d) ρ
theorem zlH {i : Nat} {x : Str} (hp0 : i ∉ pin) (hN : X.N.Nodup) (hi : X.N[i]? = some x) (hx : Loc X.env.scope x) (hf : X.fn x = true ∨ X.env.scope.names.lookup x = some .local := by first | exact .inl rfl | exact .inr rfl | assumption) : VG X pin (.Name x pos) (zad i) := fun pv hp => zkA (zkW hN hi hx hf) fun x σ H Q hq => by
 obtain ⟨Z, ρ, F, d, ρ', S, w, P, fz, e, q⟩ := hq
 obtain ⟨F3, k1, k2, k3⟩ := S.zfJ (.v fz) (by rw [List.append_nil]; exact w) e
 rw [List.append_nil] at k3
 exact q _ F3 k1 k2 k3 (P.set hp hp0)
def zbe : FGs := fun ds ρ => match ds with
 | [] => some ρ
 | _ => none
def zam (f : FG) (g : FGs) : FGs := fun ds ρ => match ds with
 | d :: ds => (f d ρ).bind fun ρ1 => g ds ρ1
 | [] => none
theorem zlI : VGs X pin [] zbe := fun pv hp => ziD zkX fun xs σ H Q hq => by
 obtain ⟨Z, ρ, F, ds, ρ', S, w, P, fz, e, q⟩ := hq
 cases fz with
 | nil => cases e; exact ⟨rfl, q σ F S w (fun _ h => h) P⟩
 | cons _ _ => cases e
theorem zjU {e : Expr} {es : List Expr} {f : FG} {g : FGs} (h1 : VG X pin e f) (h2 : VGs X pin es g) (hs : (assignEach (e :: es) X.env).map (·.2) = assign e X.env :: (assignEach es X.env).map (·.2) := by rfl) : VGs X pin (e :: es) (zam f g) := fun pv hp => ziD (zjz (h1 pv hp) (h2 pv hp) hs) fun xs σ H Q hq => by
 obtain ⟨Z, ρ, F, ds, ρ', S, w, P, fz, e, q⟩ := hq
 cases fz with
 | nil => cases e
 | cons z1 z2 =>
  obtain ⟨ρ1, e1, e⟩ := oB e
  exact ⟨_, _, rfl, Z, ρ, F, _, ρ1, S, w, P, z1, e1, fun σ1 F1 S1 w1 s1 P1 => ⟨Z, ρ1, F1, _, ρ', S1, w1, P1, z2, e, fun σ2 F2 S2 w2 s2 P2 => q σ2 F2 S2 w2 (fun a h => s1 a (s2 a h)) P2⟩⟩
def zbb (n : Nat) (g : FGs) : FG := fun d ρ => match d with
 | .tuple ds => if ds.length = n then g ds ρ else none
 | _ => none
theorem znL {es : List Expr} {k n : Nat} {g : FGs} (hc : X.calm = true) (h : VGs X pin es g) (hpg : ∀ t : TGs, PGs X es t → PG X (.Tuple es k pos) (gTup X.K n t)) : VG X pin (.Tuple es k pos) (zbb n g) := fun pv hp => zkA (hpg _ (h pv hp)) fun x σ H Q hq => by
 obtain ⟨Z, ρ, F, d, ρ', S, w, P, fz, e, q⟩ := hq
 unfold zbb at e
 split at e
 ·split at e
  ·next hl =>
   obtain ⟨a, xs, e1, e2, e3⟩ := fz.zda
   exact ⟨a, xs, e1, e2, by rw [e3.length]; exact hl, Z, ρ, F, _, ρ', S, w, P, e3, e, q⟩
  ·cases e
 ·cases e
def zmr (f : FE) (g : FG) : FS := fun ρ => (f ρ).bind fun p => (zcA p.1 p.2).bind fun q => (g q.1 q.2).bind fun ρ' => some (.nx ρ')
theorem znM {tg e : Expr} {f : FE} {g : FG} (he : VE X e f) (hg : VG X pin tg g) (hs : swapsWithSole [tg] e pos.line X.env = pure false := by rfl) (hw : swappedStores [tg] e X.env = pure none := by rfl)
  (hps : ∀ (te : TE) (t : TG), PE X e te → PG X tg t → PS X (.Assign [tg] e pos) (zhT te t) := by exact fun _ _ h1 h2 => zgK h1 h2) : VS X pin (.Assign [tg] e pos) (zmr f g) := fun pv hp => zds (hps _ _ he (hg pv hp)) fun D σ H hq => by
 obtain ⟨Z, ρ, F, o, S, w, P, e, q⟩ := hq
 obtain ⟨⟨o1, ρ1⟩, e1, e⟩ := oB e
 obtain ⟨⟨d, ρ2⟩, e2, e⟩ := oB e
 obtain ⟨ρ3, e3, e⟩ := oB e
 cases e
 refine ⟨Z, ρ, F, o1, ρ1, S, w, e1, fun y H1 Z1 F1 G1 S1 O1 f1 => ?_⟩
 obtain ⟨Z2, F2, h1, h2, h3, _⟩ := zdb S1 O1 f1 e2
 exact ⟨Z2, ρ2, F2, d, ρ3, h1, h3.nd, P, h2, e3, fun σ' F' S' w' s' P' => q σ' H1 Z2 F' S' (h3.sub w' s') P'⟩
def parO (i j : Nat) : List Opd → Ev → Option Out
 | [o1, .t m2], ρ => (zjT o1 ρ).bind fun q1 => (zfJ i q1.1 q1.2).bind fun ρ1 => (zfJ j m2 ρ1).bind fun ρ2 => some (.nx ρ2)
 | _, _ => none
def zlJ (i j : Nat) (fa : FA) : FS := fun ρ => (fa ρ).bind fun p => parO i j p.1 p.2
theorem znN {i j : Nat} {a b : Expr} {fa : FA} {st : Stmt} (hpi : i ∉ pin) (hpj : j ∉ pin) (ha : VA X [a, b] fa) (hps : ∀ t : TA, PA X [a, b] t → PS X st (tPar i j t)) : VS X pin st (zlJ i j fa) := fun pv hp => zds (hps _ ha) fun D σ H hq => by
  obtain ⟨Z, ρ, F, o, S, w, P, e, q⟩ := hq
  obtain ⟨⟨os, ρ1⟩, e1, e⟩ := oB e
  refine ⟨Z, ρ, F, os, ρ1, S, w, e1, fun xs H1 Z1 F1 G1 S1 O1 f1 => ?_⟩
  have e : parO i j os ρ1 = some o := e
  clear e1
  rcases os with _ | ⟨o1, _ | ⟨o2, _ | ⟨o3, os⟩⟩⟩
  · cases e
  · cases e
  · cases o2 with
   | p _ => cases e
   | q _ _ => cases e
   | t m2 =>
    obtain ⟨⟨m1, ρ2⟩, e2, e⟩ := oB e
    cases O1 with
    | @cons x1 _ Ga _ _ _ p1 r1 =>
      cases r1 with
      | @cons x2 _ Gb _ _ _ p2 r2 =>
          cases r2
          obtain ⟨ρ3, e3, e⟩ := oB e
          obtain ⟨ρ4, e4, e⟩ := oB e
          cases e
          rw [List.append_nil] at f1
          have f1' : Fut H Z F H1 Z1 (F1 ++ Ga ++ Gb) := f1.assoc'
          cases p2 with
          | t w2 =>
            have al := w2.al
            have key : ∃ Z' F' G', Owo X.K H1 Z' σ ρ2 F' ∧ Ow X.K H1 Z' x1 m1 G' ∧ Fut H Z F H1 Z' (F' ++ G' ++ Gb) ∧ za0 H1 Z1 H1 Z' := by
              cases o1 with
              | t m =>
                cases e2
                cases p1 with
                | t w1 => exact ⟨Z1, F1, Ga, S1, w1, f1', za0.refl⟩
              | p k =>
                obtain ⟨m, e5, e2⟩ := oB e2
                cases e2
                cases p1 with
                | p q1 =>
                  rw [List.append_nil] at f1'
                  obtain ⟨n1, n2, n3⟩ := zaC f1'.nd
                  obtain ⟨x', G', F1', t1, t2, t3, t4, t5⟩ := S1.take n1 (zas.mp e5)
                  rw [q1] at t1; cases t1
                  refine ⟨Z1, F1', G', t3, t2, f1'.sub (zav t4 n2 fun a h z => n3 a (t5 a h) z) (fun a h => ?_), za0.refl⟩
                  rcases lM h with h | h
                  · exact lL _ (t5 a h)
                  · exact lR _ h
              | q k1 k2 =>
                obtain ⟨⟨d, ρ'⟩, e5, e2⟩ := oB e2
                cases e2
                obtain ⟨Z', F', z1, z2, z3, z4⟩ := freeze S1 p1 f1' e5
                exact ⟨Z', F', [], z1, .v z2, by rw [List.append_nil]; exact z3, z4⟩
            obtain ⟨Z2, F2, G2, h1, h2, h3, h4⟩ := key
            obtain ⟨n1, n2, n3, n4, n5, n6⟩ := nd3 h3.nd
            obtain ⟨F3, k1, k2, k3⟩ := h1.zfJ h2 (zav n1 n2 n4) e3
            obtain ⟨F4, l1, l2, l3⟩ := k1.zfJ (w2.mono h4 fun _ _ _ e => e) (zav k2 n3 fun a h z => by
              rcases lM (k3 a h) with y | y
              · exact n5 a y z
              · exact n6 a y z) e4
            refine ⟨x1, x2, rfl, q _ H1 Z2 F4 l1 (h3.sub l2 fun a h => ?_) ((P.set hp hpi).set hp hpj)⟩
            rcases lM (l3 a h) with y | y
            · exact lL _ (k3 a y)
            · exact lR _ y
  · cases o2 <;> cases e
end
end VL
end
section
namespace VL
open PySem PySem.Spec L2 PyProof.Rows
structure zhE (K : PySem.W.Frag) (J : It) (H : Hp) (Z : Zs) (ds : List PyData) : Prop where
 go : ∀ H2 Z2, za0 H Z H2 Z2 → ∀ k d, ds[k]? = some d → J.go k H2 ∧ ∀ x H', J.yld k H2 x H' → zen H2 H' ∧ Fz K H' Z2 x d
 stop : ∀ H2 Z2, za0 H Z H2 Z2 → ∀ k, ds.length ≤ k → J.stop k H2
abbrev FI := Ev → Option (List PyData × Ev)
def vI (K : PySem.W.Frag) (f : FI) : TI := fun σ H R => ∃ Z ρ F ds ρ', Owo K H Z σ ρ F ∧ Wf H Z F ∧ f ρ = some (ds, ρ') ∧ ∀ J H' Z' F', Owo K H' Z' σ ρ' F' → zhE K J H' Z' ds → Fut H Z F H' Z' F' → R J H'
abbrev VI (X : Cx) (tg iter : Expr) (f : FI) : Prop := PI X tg iter (vI X.K f)
theorem zhE.mono {K : PySem.W.Frag} {J : It} {H H1 : Hp} {Z Z1 : Zs} {ds : List PyData} (h : zhE K J H Z ds) (g : za0 H Z H1 Z1) : zhE K J H1 Z1 ds := ⟨fun H2 Z2 g2 => h.go H2 Z2 (g.trans g2), fun H2 Z2 g2 => h.stop H2 Z2 (g.trans g2)⟩
section
variable {X : Cx} {pos : Pos} {pin : List Nat} {tg : Expr}
theorem zg6 {it : Expr} {t t' : TI} (h : PI X tg it t) (i : ∀ σ H R, t' σ H R → t σ H R) : PI X tg it t' := fun pins s σ H R I q => h pins s σ H R I (i σ H R q)
theorem znO {it : Expr} {t u : TI} (h : PI X tg it t) (h' : PI X tg it u) : PI X tg it (fun σ H R => t σ H R ∨ u σ H R) := fun pins s σ H R I q => q.elim (h pins s σ H R I) (h' pins s σ H R I)
def itD : PyData → Option (List PyData)
 | .tuple ds => some ds
 | .list ds => some ds
 | _ => none
def zbE (f : FE) : FI := fun ρ => (f ρ).bind fun p => (zcA p.1 p.2).bind fun q => (itD q.1).bind fun ds => some (ds, q.2)
theorem zlK {K : PySem.W.Frag} {H : Hp} {Z : Zs} {a : Addr} {ds : List PyData} (h : Fz K H Z (.ref a) (.list ds)) : zhE K (Itl K a) H Z ds := by
 refine ⟨fun H2 Z2 g k d hd => ?_, fun H2 Z2 g k hk => ?_⟩
 ·obtain ⟨a', xs, e, r, fs⟩ := (h.mono g).lst_inv
  cases e
  obtain ⟨x, h1, h2⟩ := fs.get' hd
  refine ⟨⟨xs, x, r, h1⟩, fun y H' hy => ?_⟩
  obtain ⟨rfl, hy⟩ := hy
  have := hy xs r
  rw [h1] at this; cases this
  exact ⟨zen.refl _, h2⟩
 ·obtain ⟨a', xs, e, r, fs⟩ := (h.mono g).lst_inv
  cases e
  exact ⟨xs, r, by rw [fs.length]; exact hk⟩
theorem zgr {K : PySem.W.Frag} {H : Hp} {Z : Zs} {a : Addr} {xs : List V} {ds : List PyData} {k : Nat} {d : PyData} {y : V} (r : SqT K H a xs) (fs : Fzs K H Z xs ds) (hd : ds[k]? = some d) (hy : ∀ xs, SqT K H a xs → xs[k]? = some y) : Fz K H Z y d := by
 obtain ⟨x, h1, h2⟩ := fs.get' hd
 have := hy xs r
 rw [h1] at this; cases this
 exact h2
theorem znP {K : PySem.W.Frag} {H : Hp} {Z : Zs} {a : Addr} {ds : List PyData} (h : Fz K H Z (.ref a) (.tuple ds)) : zhE K (Itt K a) H Z ds := by
 refine ⟨fun H2 Z2 g k d hd => ?_, fun H2 Z2 g k hk => ?_⟩
 ·obtain ⟨a', xs, e, r, fs⟩ := (h.mono g).zda
  cases e
  obtain ⟨x, h1, h2⟩ := fs.get' hd
  refine ⟨⟨xs, x, r, h1⟩, fun y H' hy => ?_⟩
  obtain ⟨rfl, hy⟩ := hy
  exact ⟨zen.refl _, zgr r fs hd hy⟩
 ·obtain ⟨a', xs, e, r, fs⟩ := (h.mono g).zda
  cases e
  exact ⟨xs, r, by rw [fs.length]; exact hk⟩
theorem znQ {l : Expr} {f : FE} (h : VE X l f) : VI X tg l (zbE f) := zg6 (znO (zf5 h) (zmP h)) fun σ H R hq => by
 obtain ⟨Z, ρ, F, ds, ρ', S, w, e, q⟩ := hq
 obtain ⟨⟨o1, ρ1⟩, e1, e⟩ := oB e
 obtain ⟨⟨d, ρ2⟩, e2, e⟩ := oB e
 obtain ⟨ds', e3, e⟩ := oB e
 cases e
 have key : ∀ x H1 Z1 F1 G1, Owo X.K H1 Z1 σ ρ1 F1 → Opv X.K H1 Z1 σ x o1 G1 → Fut H Z F H1 Z1 (F1 ++ G1) → ∃ Z2, Fz X.K H1 Z2 x d ∧ ∀ J, zhE X.K J H1 Z2 ds → R J H1 := fun x H1 Z1 F1 G1 S1 O1 f1 => by
  obtain ⟨Z2, F2, h1, h2, h3, _⟩ := zdb S1 O1 f1 e2
  exact ⟨Z2, h2, fun J hJ => q J H1 Z2 F2 h1 hJ h3⟩
 cases d with
 | tuple ds0 =>
  cases e3
  refine .inr ⟨Z, ρ, F, o1, ρ1, S, w, e1, fun x H1 Z1 F1 G1 S1 O1 f1 => ?_⟩
  obtain ⟨Z2, h2, h3⟩ := key x H1 Z1 F1 G1 S1 O1 f1
  obtain ⟨a, xs, rfl, r, fs⟩ := h2.zda
  exact ⟨a, rfl, ⟨xs, r⟩, h3 _ (znP h2)⟩
 | list ds0 =>
  cases e3
  refine .inl ⟨Z, ρ, F, o1, ρ1, S, w, e1, fun x H1 Z1 F1 G1 S1 O1 f1 => ?_⟩
  obtain ⟨Z2, h2, h3⟩ := key x H1 Z1 F1 G1 S1 O1 f1
  obtain ⟨a, xs, rfl, r, fs⟩ := h2.lst_inv
  exact ⟨a, rfl, ⟨xs, r⟩, h3 _ (zlK h2)⟩
 | _ => cases e3
def zaK (lo hi : Int) : List PyData := (List.range (hi - lo).toNat).map fun k : Nat => PyData.int (lo + k)
def ziE : Int := 1000000000
def zbq (i : Int) : Bool := decide (-ziE ≤ i ∧ i ≤ ziE)
theorem zd3 {i : Int} (h : zbq i = true) : -(2 ^ 62) ≤ i ∧ i < 2 ^ 62 := by
 have h := of_decide_eq_true h
 unfold ziE at h
 omega
def zd4 : List M → Option (List PyData)
 | [.v (.int j)] => if zbq j = true then some (zaK 0 j) else none
 | _ => none
def znR : List M → Option (List PyData)
 | [.v (.int i), .v (.int j)] => if zbq i = true ∧ zbq j = true then some (zaK i j) else none
 | _ => none
def zbf (g : List M → Option (List PyData)) (fa : FA) : FI := fun ρ => (fa ρ).bind fun p => (zes p.2 p.1).bind fun ms => (g ms).bind fun ds => some (ds, p.2)
theorem zkB {K : PySem.W.Frag} {H : Hp} {Z : Zs} (lo hi : Int) : zhE K (Itr lo (hi - lo).toNat) H Z (zaK lo hi) := by
 refine ⟨fun H2 Z2 g k d hd => ?_, fun H2 Z2 g k hk => ?_⟩
 ·unfold zaK at hd
  rw [List.getElem?_map] at hd
  obtain ⟨j, h1, h2⟩ := Option.map_eq_some_iff.mp hd
  obtain ⟨h3, h4⟩ := List.getElem?_eq_some_iff.mp h1
  rw [List.length_range] at h3
  rw [List.getElem_range] at h4
  subst h4; subst h2
  refine ⟨h3, fun x H' hx => ?_⟩
  obtain ⟨rfl, rfl⟩ := hx
  exact ⟨zen.refl _, .int _⟩
 ·unfold zaK at hk
  rw [List.length_map, List.length_range] at hk
  exact hk
theorem zgs {fa : FA} {σ : L2.St} {H : Hp} {R : It → Hp → Prop} {ms : List M} {ds : List PyData} {Z : Zs} {ρ ρ1 : Ev} {F : List Addr} {os : List Opd} (S : Owo X.K H Z σ ρ F) (w : Wf H Z F) (e1 : fa ρ = some (os, ρ1)) (e2 : zes ρ1 os = some ms)
  (q : ∀ J H' Z' F', Owo X.K H' Z' σ ρ1 F' → zhE X.K J H' Z' ds → Fut H Z F H' Z' F' → R J H') {T : List V → Hp → Prop} (hT : ∀ xs H1 Z1, Ros X.K H1 Z1 xs ms → (∀ J, zhE X.K J H1 Z1 ds → R J H1) → T xs H1) : vA X.K fa σ H T :=
 ⟨Z, ρ, F, os, ρ1, S, w, e1, fun xs H1 Z1 F1 G1 S1 O1 f1 => hT xs H1 Z1 (O1.peek S1 e2) fun J hJ => q J H1 Z1 F1 S1 hJ f1.left⟩
theorem zlL {a : Expr} {fa : FA} {p : Pos} (hg : Gl X "range") (hm : X.mg "range" = none) (ha : VA X [a] fa) (hs : starEach [a] X.env = [(false, eval a X.env)] := by rfl) : VI X tg (.Call (.Name "range" p) [a] [] pos) (zbf zd4 fa) := zg6 (zhV hg hm ha hs) fun σ H R hq => by
 obtain ⟨Z, ρ, F, ds, ρ', S, w, e, q⟩ := hq
 obtain ⟨⟨os, ρ1⟩, e1, e⟩ := oB e
 obtain ⟨ms, e2, e⟩ := oB e
 obtain ⟨ds', e3, e⟩ := oB e
 cases e
 refine zgs S w e1 e2 q fun xs H1 Z1 r h => ?_
 unfold zd4 at e3
 split at e3
 ·rename_i j
  split at e3
  ·next hl =>
   cases e3
   obtain ⟨x, rfl, h1⟩ := zfF r
   obtain rfl := h1.int
   have hj := zd3 hl
   refine ⟨_, rfl, hj.1, hj.2, h _ ?_⟩
   have k := zkB (K := X.K) (H := H1) (Z := Z1) 0 j
   rw [Int.sub_zero] at k
   exact k
  ·cases e3
 ·cases e3
theorem zlM {a b : Expr} {fa : FA} {p : Pos} (hg : Gl X "range") (hm : X.mg "range" = none) (ha : VA X [a, b] fa) (hs : starEach [a, b] X.env = [(false, eval a X.env), (false, eval b X.env)] := by rfl) (hs2 : starEach [b] X.env = [(false, eval b X.env)] := by rfl) : VI X tg (.Call (.Name "range" p) [a, b] [] pos) (zbf znR fa) := zg6 (zhW hg hm ha hs hs2) fun σ H R hq => by
 obtain ⟨Z, ρ, F, ds, ρ', S, w, e, q⟩ := hq
 obtain ⟨⟨os, ρ1⟩, e1, e⟩ := oB e
 obtain ⟨ms, e2, e⟩ := oB e
 obtain ⟨ds', e3, e⟩ := oB e
 cases e
 refine zgs S w e1 e2 q fun xs H1 Z1 r h => ?_
 unfold znR at e3
 split at e3
 ·rename_i i j
  split at e3
  ·next hl =>
   cases e3
   obtain ⟨x, y, rfl, h1, h2⟩ := znF r
   obtain rfl := h1.int; obtain rfl := h2.int
   have hi := zd3 hl.1
   have hj := zd3 hl.2
   exact ⟨_, _, rfl, ⟨hi.1, hi.2, hj.1, hj.2⟩, h _ (zkB i j)⟩
  ·cases e3
 ·cases e3
def zms : List M → Option (List PyData)
 | [.v (.tuple a), .v (.tuple b)] => some (List.zipWith (fun x y => PyData.tuple [x, y]) a b)
 | _ => none
theorem znS {a b : Expr} {fa : FA} {p tp : Pos} {es : List Expr} {k : Nat} (hg : Gl X "zip") (hm : X.mg "zip" = none) (ha : VA X [a, b] fa) (hs : starEach [a, b] X.env = [(false, eval a X.env), (false, eval b X.env)] := by rfl) (hs2 : starEach [b] X.env = [(false, eval b X.env)] := by rfl) : VI X (.Tuple es k tp) (.Call (.Name "zip" p) [a, b] [] pos) (zbf zms fa) := zg6 (zni hg hm ha hs hs2) fun σ H R hq => by
 obtain ⟨Z, ρ, F, ds, ρ', S, w, e, q⟩ := hq
 obtain ⟨⟨os, ρ1⟩, e1, e⟩ := oB e
 obtain ⟨ms, e2, e⟩ := oB e
 obtain ⟨ds', e3, e⟩ := oB e
 cases e
 refine zgs S w e1 e2 q fun xs H1 Z1 r h => ?_
 unfold zms at e3
 split at e3
 ·rename_i A B
  cases e3
  obtain ⟨x, y, rfl, h1, h2⟩ := znF r
  obtain ⟨a, xs, rfl, t1, g1⟩ := h1.tup
  obtain ⟨b, ys, rfl, t2, g2⟩ := h2.tup
  refine ⟨a, b, rfl, ⟨xs, t1⟩, ⟨ys, t2⟩, h _ ⟨fun H2 Z2 g k d hd => ?_, fun H2 Z2 g k hk => ?_⟩⟩
  ·rw [List.getElem?_zipWith] at hd
   have u1 := g.zb8.sq t1
   have u2 := g.zb8.sq t2
   have v1 := g1.mono g
   have v2 := g2.mono g
   cases ea : A[k]? with
   | none => rw [ea] at hd; cases hd
   | some da =>
    cases eb : B[k]? with
    | none => rw [ea, eb] at hd; cases hd
    | some db =>
     rw [ea, eb] at hd
     cases hd
     obtain ⟨x, x1, x2⟩ := v1.get' ea
     obtain ⟨y, y1, y2⟩ := v2.get' eb
     refine ⟨⟨xs, ys, x, y, u1, u2, x1, y1⟩, fun z H' hz => ?_⟩
     obtain ⟨p, x', y', hp, rfl, rfl, zx, zy⟩ := hz
     have s := zbw hp (.tup [x', y'])
     exact ⟨s, .tup (SqT.of zay) (.cons ((zgr u1 v1 ea zx).mono (za0.same s)) (.cons ((zgr u2 v2 eb zy).mono (za0.same s)) .nil))⟩
  ·rw [List.length_zipWith] at hk
   refine ⟨xs, ys, g.zb8.sq t1, g.zb8.sq t2, ?_⟩
   rw [g1.length, g2.length]
   omega
 ·cases e3
def zfi (fg : FG) (fb : FS) : List PyData → Ev → Option Out
 | [], ρ => some (.nx ρ)
 | d :: ds, ρ => (fg d ρ).bind fun ρ1 => (fb ρ1).bind fun o => match o with
  | .nx ρ2 => zfi fg fb ds ρ2
  | .ct ρ2 => zfi fg fb ds ρ2
  | .bk ρ2 => some (.nx ρ2)
  | .rt m ρ2 => some (.rt m ρ2)
def zgt (fi : FI) (fg : FG) (fb : FS) : FS := fun ρ => (fi ρ).bind fun p => zfi fg fb p.1 p.2
theorem zlN {fi : FI} {fg : FG} {fb : FS} {pv : Pv} {D : Ends} {σ : L2.St} {H : Hp} (hq : vS X.K pv (zgt fi fg fb) D σ H) : tFor (vI X.K fi) (vG X.K pv fg) (vS X.K pv fb) D σ H := by
 obtain ⟨Z, ρ, F, o, S, w, P, e, q⟩ := hq
 obtain ⟨⟨ds, ρ1⟩, e1, e⟩ := oB e
 refine ⟨Z, ρ, F, ds, ρ1, S, w, e1, fun J H1 Z1 F1 S1 hJ f1 => ?_⟩
 refine ⟨fun i m σ' H' => m = ds.length - i ∧ i ≤ ds.length ∧ ∃ Z' ρ' F', Owo X.K H' Z' σ' ρ' F' ∧ Wf H' Z' F' ∧ Pin pv σ' ∧ za0 H1 Z1 H' Z' ∧ ∃ out, zfi fg fb (ds.drop i) ρ' = some out ∧ zkz X.K pv D H' Z' F' out, ⟨_, rfl, Nat.zero_le _, Z1, ρ1, F1, S1, f1.wf, P, za0.refl, o, e, q.trans f1⟩, fun i m σ2 H2 hW => ?_⟩
 obtain ⟨rfl, hi, Z2, ρ2, F2, S2, w2, P2, g2, out, e2, q2⟩ := hW
 rcases Nat.lt_or_eq_of_le hi with hi | rfl
 ·right
  rw [List.drop_eq_getElem_cons hi] at e2
  have hd : ds[i]? = some ds[i] := List.getElem?_eq_getElem hi
  obtain ⟨go, yl⟩ := hJ.go H2 Z2 g2 i _ hd
  obtain ⟨ρ3, e3, e2⟩ := oB e2
  obtain ⟨o3, e4, e2⟩ := oB e2
  refine ⟨go, fun σ' H' => ∃ m', m' < ds.length - i ∧ m' = ds.length - (i + 1) ∧ i + 1 ≤ ds.length ∧ ∃ Z' ρ' F', Owo X.K H' Z' σ' ρ' F' ∧ Wf H' Z' F' ∧ Pin pv σ' ∧ za0 H1 Z1 H' Z' ∧ ∃ out, zfi fg fb (ds.drop (i + 1)) ρ' = some out ∧ zkz X.K pv D H' Z' F' out, fun σ' H' h => h, fun x H' hx => ?_⟩
  obtain ⟨s, fz⟩ := yl x H' hx
  have gs : za0 H2 Z2 H' Z2 := za0.same s
  have S2' := S2.mono gs fun a _ o e => s a o e
  have fs : Fut H2 Z2 F2 H' Z2 F2 := by
   have := (Fut.same s w2.za).news w2 S2.al
   rw [List.append_nil] at this
   exact this
  refine ⟨Z2, ρ2, F2, _, ρ3, S2', w2.nd, P2, fz, e3, fun σ3 F3 S3 n3 s3 P3 => ?_⟩
  have f3 : Fut H2 Z2 F2 H' Z2 F3 := fs.sub n3 s3
  refine ⟨Z2, ρ3, F3, o3, S3, f3.wf, P3, e4, ?_⟩
  have again : ∀ ρ4, zfi fg fb (ds.drop (i + 1)) ρ4 = some out → ∀ σ' H4 Z4 F4, Owo X.K H4 Z4 σ' ρ4 F4 → Fut H' Z2 F3 H4 Z4 F4 → Pin pv σ' → ∃ m', m' < ds.length - i ∧ m' = ds.length - (i + 1) ∧ i + 1 ≤ ds.length ∧ ∃ Z' ρ' F', Owo X.K H4 Z' σ' ρ' F' ∧ Wf H4 Z' F' ∧ Pin pv σ' ∧ za0 H1 Z1 H4 Z' ∧ ∃ out, zfi fg fb (ds.drop (i + 1)) ρ' = some out ∧ zkz X.K pv D H4 Z' F' out := fun ρ4 e5 σ' H4 Z4 F4 S4 f4 P4 =>
   ⟨_, by omega, rfl, hi, Z4, ρ4, F4, S4, f4.wf, P4, (g2.trans gs).trans (f4.grow f3.wf), out, e5, q2.trans (f3.trans f4)⟩
  cases o3 with
  | nx ρ4 => exact again ρ4 e2
  | ct ρ4 => exact again ρ4 e2
  | bk ρ4 => cases e2; exact fun σ' H4 Z4 F4 S4 f4 P4 => q2 σ' H4 Z4 F4 S4 (f3.trans f4) P4
  | rt m ρ4 => cases e2; exact fun x σ' H4 Z4 F4 G S4 O4 f4 P4 => q2 x σ' H4 Z4 F4 G S4 O4 (f3.trans f4) P4
 ·left
  rw [List.drop_length] at e2
  cases e2
  exact ⟨hJ.stop H2 Z2 g2 _ (Nat.le_refl _), q2 σ2 H2 Z2 F2 S2 (Fut.refl w2) P2⟩
theorem znT {iter : Expr} {body : List Stmt} {fi : FI} {fg : FG} {fb : FS} (hp0 : PassesOwn (model X.prog X.w) X.A X.env X.xe) (hc : X.calm = true) (hi : VI X tg iter fi) (hg : VG X pin tg fg) (hb : VSs X pin body fb)
  (hs : ∀ x, foldedSetIterable iter X.env x = pure x := by intro _; rfl) : VS X pin (.For tg iter body [] pos) (zgt fi fg fb) := fun pv hp => zds (zmQ hp0 hc hi (hg pv hp) (hb pv hp) hs) fun _ _ _ hq => zlN hq
end
end VL
end
section
namespace VL
open PySem PySem.Spec L2 PyProof.Rows
def fin : List Bool → List M → Ev → Option (List M)
 | [], [], _ => some []
 | true :: ps, _ :: ms, some m' :: ρ => (fin ps ms ρ).bind fun ms' => some (m' :: ms')
 | false :: ps, .v d :: ms, _ :: ρ => (fin ps ms ρ).bind fun ms' => some (.v d :: ms')
 | _, _, _ => none
section
variable {K : PySem.W.Frag} {H : Hp} {Z : Zs}
theorem zd5 : ∀ {ps : List Bool} {ms : List M} {ρ : Ev} {ms' : List M} {σ : L2.St} {F : List Addr} {vs : List V}, Owo K H Z σ ρ F → F.Nodup → (∀ (i : Nat) x, ps[i]? = some true → vs[i]? = some x → σ[i]? = some (some x)) →
  (∀ (i : Nat) x d, ps[i]? = some false → vs[i]? = some x → ms[i]? = some (.v d) → Fz K H Z x d) → vs.length = ms.length → fin ps ms ρ = some ms' → ∃ A, Ows K H Z vs ms' A ∧ A.Nodup ∧ ∀ a ∈ A, a ∈ F
 | [], [], ρ, _, σ, F, vs, S, nd, _, _, hl, e => by
  have e : some [] = some _ := e
  cases e
  have : vs = [] := List.length_eq_zero_iff.mp (by simpa using hl)
  subst this
  exact ⟨[], .nil, List.nodup_nil, fun a h => by simp at h⟩
 | true :: ps, _ :: ms, some m' :: ρ, _, _, _, v :: vs, .som (x := x) (G := G) (F := F) q r, nd, h1, h2, hl, e => by
  obtain ⟨ms', e1, e⟩ := oB e
  cases e
  obtain ⟨n1, n2, n3⟩ := zaC nd
  have hx := h1 0 v rfl rfl
  cases hx
  obtain ⟨A, a1, a2, a3⟩ := zd5 r n2 (fun i x p q => by simpa using h1 (i + 1) x (by simpa using p) (by simpa using q)) (fun i x d p q z => h2 (i + 1) x d (by simpa using p) (by simpa using q) (by simpa using z)) (by simpa using hl) e1
  refine ⟨G ++ A, .cons q a1, zav n1 a2 fun a h z => n3 a h (a3 a z), fun a h => ?_⟩
  rcases lM h with h | h
  ·exact lL _ h
  ·exact lR _ (a3 a h)
 | false :: ps, .v d :: ms, c :: ρ, _, σ, F, v :: vs, S, nd, h1, h2, hl, e => by
  obtain ⟨ms', e1, e⟩ := oB e
  cases e
  have key : ∀ {σ' : L2.St} {F' : List Addr}, Owo K H Z σ' ρ F' → F'.Nodup → (∀ a ∈ F', a ∈ F) → (∀ (i : Nat) x, ps[i]? = some true → vs[i]? = some x → σ'[i]? = some (some x)) → ∃ A, Ows K H Z (v :: vs) (.v d :: ms') A ∧ A.Nodup ∧ ∀ a ∈ A, a ∈ F := fun {σ' F'} S' nd' sub h1' => by
   obtain ⟨A, a1, a2, a3⟩ := zd5 S' nd' h1' (fun i x d p q z => h2 (i + 1) x d (by simpa using p) (by simpa using q) (by simpa using z)) (by simpa using hl) e1
   exact ⟨[] ++ A, .cons (.v (h2 0 v d rfl rfl rfl)) a1, by rw [List.nil_append]; exact a2, fun a h => by rw [List.nil_append] at h; exact sub a (a3 a h)⟩
  have hσ : ∀ {x : Option V} {σ' : L2.St}, σ = x :: σ' → (∀ (i : Nat) x, ps[i]? = some true → vs[i]? = some x → σ'[i]? = some (some x)) := fun {x σ'} eσ i y p q => by
   have := h1 (i + 1) y (by simpa using p) (by simpa using q)
   rw [eσ] at this
   simpa using this
  cases S with
  | non r => exact key r nd (fun _ h => h) (hσ rfl)
  | som q r => exact key r (zaC nd).2.1 (fun a h => lR _ h) (hσ rfl)
 | true :: _, _ :: _, some _ :: _, _, _, _, [], _, _, _, _, hl, _ => by simp at hl
 | false :: _, .v _ :: _, _ :: _, _, _, _, [], _, _, _, _, hl, _ => by simp at hl
 | false :: _, .lst _ :: _, _ :: _, _, _, _, _, _, _, _, _, _, e => by cases e
 | false :: _, .dic _ :: _, _ :: _, _, _, _, _, _, _, _, _, _, e => by cases e
 | false :: _, .dls _ :: _, _ :: _, _, _, _, _, _, _, _, _, _, e => by cases e
 | true :: _, _ :: _, none :: _, _, _, _, _, _, _, _, _, _, e => by cases e
 | true :: _, _ :: _, [], _, _, _, _, _, _, _, _, _, e => by cases e
 | false :: _, .v _ :: _, [], _, _, _, _, _, _, _, _, _, e => by cases e
 | false :: _, .lst _ :: _, [], _, _, _, _, _, _, _, _, _, e => by cases e
 | false :: _, .dic _ :: _, [], _, _, _, _, _, _, _, _, _, e => by cases e
 | false :: _, .dls _ :: _, [], _, _, _, _, _, _, _, _, _, e => by cases e
 | [], _ :: _, _, _, _, _, _, _, _, _, _, _, e => by cases e
 | true :: _, [], _, _, _, _, _, _, _, _, _, _, e => by cases e
 | false :: _, [], _, _, _, _, _, _, _, _, _, _, e => by cases e
theorem Owo.zg7 : ∀ {xs : List V} {ms : List M} {A : List Addr} (n : Nat), Ows K H Z xs ms A → Owo K H Z (xs.map some ++ List.replicate n none) (ms.map some ++ List.replicate n none) A
 | _, _, _, 0, .nil => .nil
 | _, _, _, n + 1, .nil => .non (Owo.zg7 n .nil)
 | _, _, _, n, .cons h r => .som h (Owo.zg7 n r)
theorem Owo.ze4 {xs : List V} {ms : List M} {A : List Addr} (h : Ows K H Z xs ms A) : ∀ n : Nat, Owo K H Z (List.replicate n none ++ xs.map some) (List.replicate n none ++ ms.map some) A
 | 0 => by have := Owo.zg7 0 h; simpa using this
 | n + 1 => .non (Owo.ze4 h n)
end
def zev (ps : List Bool) (n : Nat) (fb : FS) : FF := fun ms => if ms.length = ps.length then (fb (ms.map some ++ List.replicate (n - ms.length) none)).bind fun o => match o with
 | .rt m ρ => (fin ps ms ρ).bind fun ms' => some (m, ms')
 | .nx ρ => (fin ps ms ρ).bind fun ms' => some (.v .none, ms')
 | _ => none
 else none
def pins : List Bool → Nat → List Nat
 | [], _ => []
 | true :: ps, k => k :: pins ps (k + 1)
 | false :: ps, k => pins ps (k + 1)
theorem ze5 : ∀ {ps : List Bool} {k i : Nat}, ps[i]? = some true → k + i ∈ pins ps k
 | [], _, _, h => by simp at h
 | true :: ps, k, 0, _ => lS
 | true :: ps, k, i + 1, h => lO _ (by have := ze5 (k := k + 1) (i := i) (ps := ps) (by simpa using h); rw [show k + (i + 1) = k + 1 + i by omega]; exact this)
 | false :: ps, k, 0, h => by simp at h
 | false :: ps, k, i + 1, h => by have := ze5 (k := k + 1) (i := i) (ps := ps) (by simpa using h); rw [show k + (i + 1) = k + 1 + i by omega]; exact this
theorem Ows.get {K : PySem.W.Frag} {H : Hp} {Z : Zs} : ∀ {xs : List V} {ms : List M} {A : List Addr} {i : Nat} {x : V} {m : M}, Ows K H Z xs ms A → xs[i]? = some x → ms[i]? = some m → ∃ G, Ow K H Z x m G
 | _, _, _, _, _, _, .nil, e, _ => by simp at e
 | _, _, _, 0, _, _, .cons h r, e, e' => by cases e; cases e'; exact ⟨_, h⟩
 | _, _, _, i + 1, _, _, .cons h r, e, e' => Ows.get (i := i) r (by simpa using e) (by simpa using e')
section
variable {P : Program} {w : World} {K : PySem.W.Frag} {mg : Str → Option Value} {base : Heap}
theorem znU {x qual : Str} {st : Stmt} {f : Addr} {fd : FuncData} {N prs : List Str} {k : Nat} (ps : List Bool) {fb : FS} (Fn : Fun K x qual st f fd) (S : zaP N prs (zah st)) (hl : prs.length = ps.length)
  (hb : ∀ (cdv : Value) (A : Around) (outer : List Env) (s : Shared) (H : Hp) (E : XK), zeh k (A.deeper (envOfC qual (zah st) s.heap.objs.size f cdv)) → VSs (zkm CX0 P w K mg base N qual (zah st) f cdv A outer s H E).nox (pins ps 0) (zaF st) fb) :
  zcv P w K mg base CX0 (k + 1) f fd prs (spV K (zev ps N.length fb)) := by
 refine Fn.ok S (fun vs H Q E h => ?_) fun cdv A outer s H vs Q E hr h => ?_
 ·obtain ⟨Z, ms, A, m, ms', h1, _, e, _⟩ := h
  unfold zev at e
  split at e
  ·next he => rw [hl, ← he, h1.length]
  ·cases e
 ·obtain ⟨Z, ms, A', m, ms', h1, h2, e, q⟩ := h
  unfold zev at e
  split at e
  ·next he =>
   let pv : Pv := fun i => if ps[i]? = some true then vs[i]? else none
   have sup : Sup pv (pins ps 0) := fun j y e => by
    have e : (if ps[j]? = some true then vs[j]? else none) = some y := e
    split at e
    ·next hj => have := ze5 (k := 0) hj; rwa [Nat.zero_add] at this
    ·cases e
   refine ⟨_, hb cdv A outer s H E hr pv sup, ?_⟩
   obtain ⟨o, e1, e⟩ := oB e
   have hlen := h1.length
   have pin0 : Pin pv (L2.start N vs) := fun i y e => by
    have e : (if ps[i]? = some true then vs[i]? else none) = some y := e
    split at e
    ·unfold L2.start
     rw [List.getElem?_append_left (by rw [List.length_map]; exact (List.getElem?_eq_some_iff.mp e).1), List.getElem?_map, e]
     rfl
    ·cases e
   have S0 : Owo K H Z (L2.start N vs) (ms.map some ++ List.replicate (N.length - ms.length) none) A' := by
    have := Owo.zg7 (N.length - ms.length) h1
    rw [← hlen] at this
    unfold L2.start
    rw [← hlen]
    exact this
   have fz0 : ∀ (i : Nat) x d, ps[i]? = some false → vs[i]? = some x → ms[i]? = some (.v d) → Fz K H Z x d := fun i x d _ h h' => by
    obtain ⟨G, z⟩ := h1.get h h'
    cases z with
    | v f => exact f
   have pinR : ∀ {σ' : L2.St}, Pin pv σ' → ∀ (i : Nat) x, ps[i]? = some true → vs[i]? = some x → σ'[i]? = some (some x) := fun {σ'} P' i x h h' => P' i x (by show (if ps[i]? = some true then vs[i]? else none) = some x; rw [if_pos h]; exact h')
   refine ⟨Z, _, A', o, S0, h2, pin0, e1, ?_⟩
   cases o with
   | nx ρ =>
    obtain ⟨ms2, e2, e⟩ := oB e
    cases e
    intro σ' H' Z' F' S' f' P'
    obtain ⟨A2, a1, a2, a3⟩ := zd5 S' f'.nd (pinR P') (fun i x d h h' h'' => (fz0 i x d h h' h'').mono (f'.grow h2)) hlen e2
    exact q .non H' Z' A2 [] a1 (.v .non) (f'.sub a2 a3).nil
   | rt m2 ρ =>
    obtain ⟨ms2, e2, e⟩ := oB e
    cases e
    intro x σ' H' Z' F' G S' O' f' P'
    obtain ⟨n1, n2, n3⟩ := zaC f'.nd
    obtain ⟨A2, a1, a2, a3⟩ := zd5 S' n1 (pinR P') (fun i x d h h' h'' => (fz0 i x d h h' h'').mono (f'.grow h2)) hlen e2
    refine q x H' Z' A2 G a1 O' (f'.sub (zav a2 n2 fun a h z => n3 a (a3 a h) z) fun a h => ?_)
    rcases lM h with h | h
    ·exact lL _ (a3 a h)
    ·exact lR _ h
   | bk ρ => cases e
   | ct ρ => cases e
  ·cases e
end
end VL
end
section
namespace VL
open PySem PySem.Spec L2 PyProof.Rows
def zfK : FT := fun ρ => some (true, ρ)
abbrev VF (X : Cx) (ifs : List Expr) (f : FT) : Prop := zgR X ifs (vT X.K f)
section
variable {X : Cx} {pos : Pos}
theorem znV : VF X [] zfK := fun pins s σ H Q I hq => zng pins s σ H Q I (by
 obtain ⟨Z, ρ, F, b, ρ', S, w, e, q⟩ := hq
 cases e
 exact q H Z F S (Fut.refl w))
theorem znW {c : Expr} {f : FT} (h : VT X c f) : VF X [c] f := znh h
end
def cap (ρ : Ev) (j : Nat) : Option Opd := match at? ρ j with
 | some (.v d) => some (.t (.v d))
 | some _ => some (.p j)
 | none => none
def caps (ρ : Ev) : List Nat → Option (List Opd)
 | [] => some []
 | j :: js => (cap ρ j).bind fun o => (caps ρ js).bind fun os => some (o :: os)
def zaY (fg : FG) (ft : FT) (fe : FE) : List PyData → Ev → List PyData → Option (List PyData × Ev)
 | [], ρ, acc => some (acc, ρ)
 | d :: ds, ρ, acc => (fg d ρ).bind fun ρ1 => (ft ρ1).bind fun t => if t.1 = true then
   (fe t.2).bind fun p => (zcA p.1 p.2).bind fun q => if acc.length < lim then zaY fg ft fe ds q.2 (acc ++ [q.1]) else none
  else zaY fg ft fe ds t.2 acc
def vLC (n : Nat) (js : List Nat) (fi : FI) (fg : FG) (ft : FT) (fe : FE) : FE := fun ρ => (fi ρ).bind fun p => (caps p.2 js).bind fun os => (zbT os p.2).bind fun q =>
 (zaY fg ft fe p.1 (List.replicate n none ++ q.1.map some) []).bind fun r => (fin (List.replicate js.length true) q.1 (r.2.drop n)).bind fun ms' => some (.t (.lst r.1), zgq os ms' q.2)
def slot (σ : L2.St) (j : Nat) : Option V := match σ[j]? with
 | some v => v
 | none => none
def zew (n : Nat) (js : List Nat) (σ : L2.St) : Pv := fun k => if k < n then none else match js[k - n]? with
 | some j => slot σ j
 | none => none
section
variable {K : PySem.W.Frag} {H : Hp} {Z : Zs} {σ : L2.St} {ρ : Ev} {F : List Addr}
theorem ze6 (S : Owo K H Z σ ρ F) : ∀ {js : List Nat} {os : List Opd}, caps ρ js = some os → ∃ xs, zfY K H Z σ xs os [] ∧ xs.map some = js.map (slot σ) ∧ xs.length = js.length
 | [], _, e => by cases e; exact ⟨[], .nil, rfl, rfl⟩
 | j :: js, _, e => by
  obtain ⟨o, e1, e⟩ := oB e
  obtain ⟨os, e2, e⟩ := oB e
  cases e
  obtain ⟨xs, h1, h2, h3⟩ := ze6 S e2
  unfold cap at e1
  cases hm : at? ρ j with
  | none => rw [hm] at e1; cases e1
  | some m =>
   obtain ⟨x, G, k1, k2, k3⟩ := S.get (zas.mp hm)
   have ho : Opv K H Z σ x o [] := by
    rw [hm] at e1
    cases m with
    | v d => cases e1; cases k2 with
     | v f => exact .t (.v f)
    | lst _ => cases e1; exact .p k1
    | dic _ => cases e1; exact .p k1
    | dls _ => cases e1; exact .p k1
   refine ⟨x :: xs, .cons (G := []) ho h1, ?_, by rw [List.length_cons, List.length_cons, h3]⟩
   rw [List.map_cons, List.map_cons, h2]
   unfold slot
   rw [k1]
theorem zgu (n : Nat) (js : List Nat) (σ : L2.St) : zgQ (List.replicate n none ++ js.map some) σ = List.replicate n none ++ js.map (slot σ) := by
 unfold zgQ
 rw [List.map_append, List.map_replicate, List.map_map]
 rfl
theorem ziF (n : Nat) (js : List Nat) (σ : L2.St) : Pin (zew n js σ) (List.replicate n none ++ js.map (slot σ)) := fun k x e => by
 unfold zew at e
 split at e
 ·cases e
 ·next hk =>
  rw [List.getElem?_append_right (by rw [List.length_replicate]; omega), List.length_replicate, List.getElem?_map]
  cases hj : js[k - n]? with
  | none => rw [hj] at e; cases e
  | some j => rw [hj] at e; rw [Option.map_some]; exact congrArg some e
theorem zdu (n : Nat) (js : List Nat) (σ : L2.St) {pin : List Nat} (hp : pin = (List.range js.length).map (n + ·)) : Sup (zew n js σ) pin := fun k x e => by
 unfold zew at e
 split at e
 ·cases e
 ·next hk =>
  cases hj : js[k - n]? with
  | none => rw [hj] at e; cases e
  | some j =>
   subst hp
   have := (List.getElem?_eq_some_iff.mp hj).1
   exact List.mem_map.mpr ⟨k - n, List.mem_range.mpr this, by omega⟩
end
section
variable {X : Cx} {pos : Pos}
theorem Owo.ziG {K : PySem.W.Frag} {H : Hp} {Z : Zs} : ∀ {σ : L2.St} {ρ : Ev} {F : List Addr} (n : Nat), Owo K H Z σ ρ F → F.Nodup → ∃ F', Owo K H Z (σ.drop n) (ρ.drop n) F' ∧ F'.Nodup ∧ ∀ a ∈ F', a ∈ F
 | _, _, F, 0, h, nd => ⟨F, h, nd, fun _ h => h⟩
 | _, _, _, n + 1, .nil, nd => ⟨[], .nil, nd, fun _ h => h⟩
 | _, _, _, n + 1, .non r, nd => Owo.ziG n r nd
 | _, _, _, n + 1, .som q r, nd => by
  obtain ⟨F', h1, h2, h3⟩ := Owo.ziG n r (zaC nd).2.1
  exact ⟨F', h1, h2, fun a h => lR _ (h3 a h)⟩
theorem Fut.put {H0 H : Hp} {Z0 Z : Zs} {F0 F : List Addr} {D : Addr} {o o' : HO} (f : Fut H0 Z0 F0 H Z (F ++ [D])) (e : H D = some o) (hn : ∀ u, o ≠ .tup u) (hf : ∀ x u, o ≠ .frz x u) : Fut H0 Z0 F0 (upd H D o') Z (F ++ [D]) ∧ za0 H Z (upd H D o') Z := by
 have hD : D ∈ F ++ [D] := lR _ lS
 have nz : ¬ Z D := f.dz D hD
 have keep : ∀ a o2, a ≠ D → H a = some o2 → upd H D o' a = some o2 := fun a o2 n h => by rw [zaz n]; exact h
 have za : ∀ a, Z a → upd H D o' a ≠ none := fun a z => by
  have hne : a ≠ D := fun h => nz (h ▸ z)
  rw [zaz hne]
  exact f.za a z
 have g : za0 H Z (upd H D o') Z := ⟨zdW.put e hn hf, fun a o2 z h => keep a o2 (fun w => nz (w ▸ z)) h, fun _ z => z⟩
 refine ⟨f.trans ⟨fun a o2 n h => keep a o2 (fun w => n (w ▸ hD)) h, g.zb8, fun _ z => z, fun a z => .inl z, fun a h => .inl h, f.nd, f.dz, za⟩, g⟩
theorem zlO {n : Nat} {pv : Pv} {fg : FG} {ft : FT} {fe : FE} {J : It} {ds : List PyData} {D : Addr} {τ : L2.St} {H1 : Hp} {Z1 : Zs} {A : List Addr} {ρ0 : Ev} {r : List PyData × Ev} {Q : Hp → Prop} (hD : H1 D = none) (S : Owo X.K H1 Z1 τ ρ0 A) (w : Wf H1 Z1 A) (P : Pin pv τ) (hJ : zhE X.K J H1 Z1 ds) (e : zaY fg ft fe ds ρ0 [] = some r)
  (q : ∀ τ' H' Z' F' xs, Owo X.K H' Z' τ' r.2 F' → Pin pv τ' → H' D = some (.lst xs) → Fzs X.K H' Z' xs r.1 → Fut H1 Z1 A H' Z' (F' ++ [D]) → Q H') : zjJ (vG X.K pv fg) (vT X.K ft) (eApp D (vE X.K fe)) J τ (upd H1 D (.lst [])) Q := by
 have n0 := Fut.zmn (o := .lst []) hD w.za
 have f0 : Fut H1 Z1 A (upd H1 D (.lst [])) Z1 (A ++ [D]) := n0.news w S.al
 refine ⟨fun i m τ' H' => m = ds.length - i ∧ i ≤ ds.length ∧ ∃ Z' ρ' F' acc xs, Owo X.K H' Z' τ' ρ' F' ∧ Pin pv τ' ∧ H' D = some (.lst xs) ∧ Fzs X.K H' Z' xs acc ∧ Fut H1 Z1 A H' Z' (F' ++ [D]) ∧ zaY fg ft fe (ds.drop i) ρ' acc = some r, ⟨_, rfl, Nat.zero_le _, Z1, ρ0, A, [], [], S.news n0, P, zay, .nil, f0, e⟩, fun i m τ2 H2 hW => ?_⟩
 obtain ⟨rfl, hi, Z2, ρ2, F2, acc, xs, S2, P2, d2, z2, f2, e2⟩ := hW
 rcases Nat.lt_or_eq_of_le hi with hi | rfl
 ·right
  rw [List.drop_eq_getElem_cons hi] at e2
  have hd : ds[i]? = some ds[i] := List.getElem?_eq_getElem hi
  obtain ⟨go, yl⟩ := hJ.go H2 Z2 (f2.grow w) i _ hd
  obtain ⟨ρ3, e3, e2⟩ := oB e2
  obtain ⟨⟨b, ρ4⟩, e4, e2⟩ := oB e2
  refine ⟨go, fun τ' H' => ∃ m', m' < ds.length - i ∧ m' = ds.length - (i + 1) ∧ i + 1 ≤ ds.length ∧ ∃ Z' ρ' F' acc xs, Owo X.K H' Z' τ' ρ' F' ∧ Pin pv τ' ∧ H' D = some (.lst xs) ∧ Fzs X.K H' Z' xs acc ∧ Fut H1 Z1 A H' Z' (F' ++ [D]) ∧ zaY fg ft fe (ds.drop (i + 1)) ρ' acc = some r, fun τ' H' h => h, fun x H' hx => ?_⟩
  obtain ⟨s, fz⟩ := yl x H' hx
  have gs : za0 H2 Z2 H' Z2 := za0.same s
  have S2' := S2.mono gs fun a _ o e => s a o e
  obtain ⟨m1, m2, m3⟩ := zaC f2.nd
  have alD : ∀ a ∈ F2 ++ [D], H2 a ≠ none := fun a h e => by
   rcases lM h with h | h
   ·exact S2.al a h e
   ·rw [List.mem_singleton.mp h, d2] at e; cases e
  have fs : Fut H2 Z2 (F2 ++ [D]) H' Z2 (F2 ++ [D]) := by
   have := (Fut.same s f2.za).news f2.wf alD
   rw [List.append_nil] at this
   exact this
  refine ⟨Z2, ρ2, F2, _, ρ3, S2', m1, P2, fz, e3, fun τ3 F3 S3 n3 s3 P3 => ?_⟩
  have f3 : Fut H1 Z1 A H' Z2 (F3 ++ [D]) := (f2.trans fs).sub (zav n3 m2 fun a h z => m3 a (s3 a h) z) fun a h => by
   rcases lM h with h | h
   ·exact lL _ (s3 a h)
   ·exact lR _ h
  have d3 : H' D = some (.lst xs) := s D _ d2
  have alD3 : ∀ {Hx : Hp} {u : List V}, Hx D = some (.lst u) → ∀ a ∈ [D], Hx a ≠ none := fun {Hx u} h a ha e => by rw [List.mem_singleton.mp ha, h] at e; cases e
  refine ⟨Z2, ρ3, F3, b, ρ4, S3, f3.left.wf, e4, fun H4 Z4 F4 S4 g4 => ?_⟩
  have f4 : Fut H1 Z1 A H4 Z4 (F4 ++ [D]) := f3.trans (g4.frame f3.wf (alD3 d3))
  have d4 : H4 D = some (.lst xs) := g4.keep D _ (fun z => (zaC f3.nd).2.2 D z lS) d3
  have z4 := (z2.mono gs).mono (g4.grow f3.left.wf)
  cases b with
  | false => exact zlj ⟨_, by omega, rfl, hi, Z4, ρ4, F4, acc, xs, S4, P3, d4, z4, f4, e2⟩
  | true =>
   obtain ⟨⟨o5, ρ5⟩, e5, e2⟩ := oB e2
   obtain ⟨⟨d, ρ6⟩, e6, e2⟩ := oB e2
   split at e2
   ·next hl =>
    refine zlk ⟨Z4, ρ4, F4, o5, ρ5, S4, f4.left.wf, e5, fun y H5 Z5 F5 G5 S5 O5 g5 => ?_⟩
    have d5 : H5 D = some (.lst xs) := g5.keep D _ (fun z => (zaC f4.nd).2.2 D z lS) d4
    have f5 : Fut H1 Z1 A H5 Z5 (F5 ++ G5 ++ [D]) := f4.trans (g5.frame f4.wf (alD3 d4))
    obtain ⟨Z6, F6, S6, y6, f6, g6⟩ := freeze S5 O5 f5 e6
    have z6 := (z4.mono (g5.grow f4.left.wf)).mono g6
    obtain ⟨f7, g7⟩ := f6.put (o' := .lst (xs ++ [y])) d5 (fun _ z => nomatch z) (fun _ _ z => nomatch z)
    refine ⟨xs, d5, zdZ (Nat.le_of_lt (by rw [z6.length]; exact hl)), _, by omega, rfl, hi, Z6, ρ6, F6, acc ++ [d], xs ++ [y], S6.mono g7 fun a h o e => ?_, P3, zay, (z6.mono g7).append (.cons (y6.mono g7) .nil), f7, e2⟩
    have hne : a ≠ D := fun z => (zaC f6.nd).2.2 a h (by rw [z]; exact lS)
    rw [zaz hne]
    exact e
   ·cases e2
 ·left
  rw [List.drop_length] at e2
  cases e2
  exact ⟨hJ.stop H2 Z2 (f2.grow w) _ (Nat.le_refl _), q τ2 H2 Z2 F2 xs S2 P2 d2 z2 f2⟩
theorem zeE {n : Nat} {js : List Nat} {fi : FI} {fg : FG} {ft : FT} {fe : FE} {σ : L2.St} {H : Hp} {Q : VK} {fr : List (Option Nat)} (hfr : fr = List.replicate n none ++ js.map some) (hq : vE X.K (vLC n js fi fg ft fe) σ H Q) :
  tLC fr (vI X.K fi) (fun _ => vG X.K (zew n js σ) fg) (fun _ => vT X.K ft) (fun _ => vE X.K fe) σ H Q := by
 subst hfr
 obtain ⟨Z, ρ, F, o, ρ', S, w, e, q⟩ := hq
 obtain ⟨⟨ds, ρ1⟩, e1, e⟩ := oB e
 obtain ⟨os, e2, e⟩ := oB e
 obtain ⟨⟨ms, ρh⟩, e3, e⟩ := oB e
 obtain ⟨⟨acc, ρi⟩, e4, e⟩ := oB e
 obtain ⟨ms', e5, e⟩ := oB e
 cases e
 refine ⟨Z, ρ, F, ds, ρ1, S, w, e1, fun J H1 Z1 F1 S1 hJ f1 D hD z => ?_⟩
 obtain ⟨xs, O1, hxs, hxl⟩ := ze6 S1 e2
 obtain ⟨A, Fh, h1, h2, h3, h4⟩ := zcp S1 O1 (by rw [List.append_nil]; exact f1.nd) e3
 rw [List.append_nil] at h4
 obtain ⟨n1, n2, n3⟩ := zaC h3
 have wA : Wf H1 Z1 A := ⟨n2, fun a h => f1.dz a (h4 a (lR _ h)), f1.za⟩
 have S0 := Owo.ze4 h1 n
 rw [zgu, ← hxs]
 have P0 := ziF n js σ
 rw [← hxs] at P0
 refine zlO (n := n) hD S0 wA P0 hJ e4 fun τ' H2 Z2 F2 ys S2 P2 d2 z2 f2 => ?_
 obtain ⟨m1, m2, m3⟩ := zaC f2.nd
 obtain ⟨F3, k1, k2, k3⟩ := S2.ziG n m1
 have hml : ms.length = js.length := by rw [← h1.length, hxl]
 obtain ⟨A', a1, a2, a3⟩ := zd5 (vs := xs) k1 k2 (fun i x _ hx => by
  rw [List.getElem?_drop]
  refine P2 (n + i) x ?_
  unfold zew
  rw [if_neg (by omega), show n + i - n = i by omega]
  have hmap : (js.map (slot σ))[i]? = some (some x) := by rw [← hxs, List.getElem?_map, hx]; rfl
  rw [List.getElem?_map] at hmap
  obtain ⟨j, hj, hj'⟩ := Option.map_eq_some_iff.mp hmap
  rw [hj]
  exact hj') (fun i x d h => by
   have := List.mem_of_getElem? h
   rw [List.mem_replicate] at this
   cases this.2) h1.length e5
 have n3' : ∀ a ∈ A, a ∉ Fh := fun a h z => n3 a z h
 have Sh : Owo X.K H2 Z2 σ ρh Fh := h2.mono (f2.grow wA) fun a h o e => f2.keep a o (n3 a h) e
 have fF := f2.frame (G := Fh) ⟨zav n2 n1 n3', fun a h => by
  rcases lM h with h | h
  ·exact f1.dz a (h4 a (lR _ h))
  ·exact f1.dz a (h4 a (lL _ h)), f1.za⟩ h2.al
 obtain ⟨u1, u2, u3, u4, u5, u6⟩ := nd3 fF.nd
 obtain ⟨F4, p1, p2, p3⟩ := zcB Sh O1 a1 (zav u3 a2 fun a h z => u5 a (k3 a (a3 a z)) h) (zbV e3)
 have f4 : Fut H Z F H1 Z1 (A ++ Fh) := f1.sub (zav n2 n1 n3') fun a h => h4 a (by
  rcases lM h with h | h
  ·exact lR _ h
  ·exact lL _ h)
 refine q (.ref D) H2 Z2 F4 [D] p1 (.t (.lst d2 z2)) ((f4.trans fF).sub (zav p2 u2 fun a h z => ?_) fun a h => ?_)
 ·rcases lM (p3 a h) with y | y
  ·exact u6 a z y
  ·exact u4 a (k3 a (a3 a y)) z
 ·rcases lM h with h | h
  ·rcases lM (p3 a h) with y | y
   ·exact lR _ y
   ·exact lL _ (lL _ (k3 a (a3 a y)))
  ·exact lL _ (lR _ h)
theorem ve_lc (n : Nat) (js : List Nat) {elt target iter : Expr} {ifs : List Expr} {scope : Scope} {N : List Str} {fr : List (Option Nat)} {pin : List Nat} {fi : FI} {fg : FG} {ft : FT} {fe : FE} (hfr : fr = List.replicate n none ++ js.map some) (hpin : pin = (List.range js.length).map (n + ·)) (hc : X.calm = true) (S : zaX X scope N fr) (hi : VI X target iter fi)
  (hin : ∀ z : Bk, VG (zao X scope z.cl N z.C z.fp z.s z.H) pin target fg ∧ VF (zao X scope z.cl N z.C z.fp z.s z.H) ifs ft ∧ VE (zao X scope z.cl N z.C z.fp z.s z.H) elt fe)
  (hs : ∀ x, foldedSetIterable iter X.env x = pure x := by intro _; rfl) : VE X (.ListComp elt [⟨target, iter, ifs, 0⟩] scope pos) (vLC n js fi fg ft fe) := fun pins s σ H Q I hq =>
 zll (g := fun _ => vG X.K (zew n js σ) fg) (tt := fun _ => vT X.K ft) (te := fun _ => vE X.K fe) hc S hi (fun z => ⟨(hin z).1 _ (zdu n js σ hpin), (hin z).2.1, (hin z).2.2⟩) hs pins s σ H Q I (zeE hfr hq)
end
end VL
end
section
namespace VL
open PySem PySem.Spec L2 PyProof.Rows
section
variable {K : PySem.W.Frag} {H H0 : Hp} {Z Z0 : Zs} {F F0 : List Addr} {σ : L2.St} {ρ : Ev}
theorem zmt {i : Nat} {m : M} (S : Owo K H Z σ ρ F) (f : Fut H0 Z0 F0 H Z F) (e : at? ρ i = some m) : ∃ x G, σ[i]? = some (some x) ∧ Ow K H Z x m G ∧ ∀ a o', a ∈ G → za0 H Z (upd H a o') Z ∧ (∀ b ∈ G, b ≠ a → ∀ o, H b = some o → upd H a o' b = some o) ∧
  ∀ m' G', (∀ b ∈ G', b ∈ G) → G'.Nodup → Ow K (upd H a o') Z x m' G' → ∃ F', Owo K (upd H a o') Z σ (ρ.set i (some m')) F' ∧ Fut H0 Z0 F0 (upd H a o') Z F' := by
 obtain ⟨x, G, F1, t1, t2, t3, t4, t5⟩ := S.take f.nd (zas.mp e)
 have hl := (List.getElem?_eq_some_iff.mp (zas.mp e)).1
 obtain ⟨n1, n2, n3⟩ := zaC t4
 refine ⟨x, G, t1, t2, fun a o' ha => ?_⟩
 obtain ⟨o, ho, hmu⟩ := t2.mem a ha
 have haF : a ∈ F := t5 a (lR _ ha)
 have nz : ¬ Z a := f.dz a haF
 have ne : ∀ b, b ≠ a → upd H a o' b = H b := fun b h => zaz h
 have g : za0 H Z (upd H a o') Z := ⟨by
  rcases hmu with ⟨xs, rfl⟩ | ⟨kvs, rfl⟩
  ·exact zdW.lst ho
  ·exact zdW.dk ho, fun b o2 z h => by rw [ne b fun w => nz (w ▸ z)]; exact h, fun _ z => z⟩
 refine ⟨g, fun b _ h o2 e2 => by rw [ne b h]; exact e2, fun m' G' hs nd' h' => ?_⟩
 have S1 : Owo K (upd H a o') Z σ (ρ.set i none) F1 := t3.mono g fun b hb o2 e2 => by
  rw [ne b fun w => n3 b hb (w ▸ ha)]
  exact e2
 obtain ⟨F2, p1, p2, p3⟩ := S1.put h' (zav n1 nd' fun b hb z => n3 b hb (hs b z)) (by rw [List.getElem?_set_self hl])
 rw [List.set_set, zfI t1] at p1
 have za : ∀ b, Z b → upd H a o' b ≠ none := fun b z => by
  rw [ne b fun w => nz (w ▸ z)]
  exact f.za b z
 have f1 : Fut H Z F (upd H a o') Z F := ⟨fun b o2 n h => by rw [ne b fun w => n (w ▸ haF)]; exact h, g.zb8, fun _ z => z, fun b z => .inl z, fun b h => .inl h, f.nd, f.dz, za⟩
 refine ⟨F2, p1, (f.trans f1).sub p2 fun b hb => ?_⟩
 rcases lM (p3 b hb) with y | y
 ·exact t5 b (lL _ y)
 ·exact t5 b (lR _ (hs b y))
end
section
variable {X : Cx} {pos : Pos} {pin : List Nat}
def zhM (i : Nat) (fa : FA) : FE := fun ρ => (at? ρ i).bind fun m0 => match m0 with
 | .lst _ => (fa ρ).bind fun p => match p.1 with
  | [o] => (zcA o p.2).bind fun q => (at? q.2 i).bind fun m => match m with
   | .lst ds => if ds.length < lim then some (.t (.v .none), q.2.set i (some (.lst (ds ++ [q.1])))) else none
   | _ => none
  | _ => none
 | _ => none
theorem zlP {i : Nat} {fa : FA} {σ : L2.St} {H : Hp} {Q : VK} (hq : vE X.K (zhM i fa) σ H Q) : tBM X.K "list" zeS (zdC i) (vA X.K fa) σ H Q := by
 obtain ⟨Z, ρ, F, o, ρ', S, w, e, q⟩ := hq
 obtain ⟨m0, e0, e⟩ := oB e
 split at e
 ·rename_i ds0
  obtain ⟨x, G, h1, h2, _⟩ := S.get (zas.mp e0)
  obtain ⟨a, xs0, rfl, ha, _⟩ := (show Ro X.K H Z x (.lst ds0) from ⟨G, h2⟩).lst
  refine ⟨.ref a, h1, .inl ⟨rfl, _, SqL.of ha⟩, ?_⟩
  obtain ⟨⟨os, ρ1⟩, e1, e⟩ := oB e
  refine ⟨Z, ρ, F, os, ρ1, S, w, e1, fun xs H1 Z1 F1 G1 S1 O1 f1 => ?_⟩
  rcases os with _ | ⟨o1, _ | ⟨o2, os⟩⟩
  ·cases e
  ·obtain ⟨⟨d, ρ2⟩, e2, e⟩ := oB e
   obtain ⟨m, e3, e⟩ := oB e
   split at e
   ·rename_i ds
    split at e
    ·rename_i hl
     cases e
     cases O1 with
     | cons p1 r1 =>
      cases r1
      rw [List.append_nil] at f1
      obtain ⟨Z2, F2, S2, z2, f2, _⟩ := zdb S1 p1 f1 e2
      obtain ⟨x', G', k1, k2, k3⟩ := zmt S2 f2 e3
      rw [h1] at k1; cases k1
      cases k2 with
      | lst hb fb =>
       obtain ⟨g, _, k4⟩ := k3 a (.lst (_ ++ [_])) lS
       obtain ⟨F3, S3, f3⟩ := k4 (.lst (ds ++ [d])) [a] (fun _ h => h) (List.nodup_cons.mpr ⟨List.not_mem_nil, List.nodup_nil⟩) (.lst zay ((fb.append (.cons z2 .nil)).mono g))
       exact ⟨a, _, _, rfl, rfl, hb, zdZ (Nat.le_of_lt (by rw [fb.length]; exact hl)), q .non _ Z2 F3 [] S3 (.t (.v .non)) f3.nil⟩
    ·cases e
   ·cases e
  ·cases e
 ·cases e
theorem znX (i : Nat) {e : Expr} {es : List Expr} {fa : FA} {x : Str} {p1 p2 : Pos} (ha : VA X (e :: es) fa) (hpe : ∀ (to : TE) (t : TA), PE X (.Name x p1) to → PA X (e :: es) t → PE X (.Call (.Attribute (.Name x p1) "append" p2) (e :: es) [] pos) (tBM X.K "list" zeS to t)) (hv : PE X (.Name x p1) (zdC i)) : VE X (.Call (.Attribute (.Name x p1) "append" p2) (e :: es) [] pos) (zhM i fa) := za4 (hpe _ _ hv ha) fun _ _ _ hq => zlP hq
def vpVar (i : Nat) : Ev → Option PyData := fun ρ => (at? ρ i).bind fun m => match m with
 | .v d => some d
 | _ => none
def putD (kvs : List (Key × PyData)) (k : Key) (d : PyData) : List (Key × PyData) := if (kvs.any fun kv => decide (kv.1 = k)) = true then kvs.map (fun kv => if kv.1 = k then (kv.1, d) else kv) else kvs ++ [(k, d)]
def zmu (i : Nat) (fk fe : FE) : FS := fun ρ => (fe ρ).bind fun p => (zcA p.1 p.2).bind fun q => (at? q.2 i).bind fun m0 => match m0 with
 | .v _ => none
 | _ => (fk q.2).bind fun r => (peek r.2 r.1).bind fun mk => (at? r.2 i).bind fun m => match m, mk with
  | .dic kvs, .v kd => (zgm kd).bind fun k => if kvs.length < lim then some (.nx (r.2.set i (some (.dic (putD kvs k q.1))))) else none
  | .lst ds, .v (.int k) => (ixN ds.length k).bind fun j => some (.nx (r.2.set i (some (.lst (ds.set j q.1)))))
  | _, _ => none
theorem ziH {K : PySem.W.Frag} {H : Hp} {Z : Zs} (k : Key) : ∀ {kxs : List (Key × V)} {kvs : List (Key × PyData)}, Fzk K H Z kxs kvs → (kxs.any fun kv => decide (kv.1 = k)) = (kvs.any fun kv => decide (kv.1 = k))
 | _, _, .nil => rfl
 | _, _, .cons _ r => by rw [List.any_cons, List.any_cons, ziH k r]
theorem zgv {K : PySem.W.Frag} {H : Hp} {Z : Zs} {y : V} {d : PyData} {k : Key} (fy : Fz K H Z y d) : ∀ {kxs : List (Key × V)} {kvs : List (Key × PyData)}, Fzk K H Z kxs kvs → Fzk K H Z (kxs.map fun kv => if kv.1 = k then (kv.1, y) else kv) (kvs.map fun kv => if kv.1 = k then (kv.1, d) else kv)
 | _, _, .nil => .nil
 | _, _, .cons (k := k') h r => by
  rw [List.map_cons, List.map_cons]
  by_cases hk : k' = k
  ·simp only [hk, if_true]; exact .cons fy (zgv fy r)
  ·simp only [hk, if_false]; exact .cons h (zgv fy r)
theorem zg8 {K : PySem.W.Frag} {H : Hp} {Z : Zs} {y : V} {d : PyData} {k : Key} (fy : Fz K H Z y d) : ∀ {kxs : List (Key × V)} {kvs : List (Key × PyData)}, Fzk K H Z kxs kvs → Fzk K H Z (kxs ++ [(k, y)]) (kvs ++ [(k, d)])
 | _, _, .nil => .cons fy .nil
 | _, _, .cons h r => .cons h (zg8 fy r)
theorem Fzk.put {K : PySem.W.Frag} {H : Hp} {Z : Zs} {y : V} {d : PyData} {k : Key} (fy : Fz K H Z y d) {kxs : List (Key × V)} {kvs : List (Key × PyData)} (r : Fzk K H Z kxs kvs) : Fzk K H Z (putK kxs k y) (putD kvs k d) := by
 unfold putK putD
 rw [ziH k r]
 split
 ·exact zgv fy r
 ·exact zg8 fy r
theorem znY {st : Stmt} {t u : TS} (h : PS X st t) (h' : PS X st u) : PS X st (fun D σ H => t D σ H ∨ u D σ H) := fun pins s σ H D I q => q.elim (h pins s σ H D I) (h' pins s σ H D I)
theorem ziI {i : Nat} {fk fe : FE} {pv : Pv} {D : Ends} {σ : L2.St} {H : Hp} {Z : Zs} {ρ : Ev} {F : List Addr} {o1 o2 : Opd} {d : PyData} {ρ1 ρ2 ρ3 : Ev} {mk m m' : M} (S : Owo X.K H Z σ ρ F) (w : Wf H Z F) (P : Pin pv σ) (e1 : fe ρ = some (o1, ρ1)) (e2 : zcA o1 ρ1 = some (d, ρ2)) (e4 : fk ρ2 = some (o2, ρ3)) (e5 : peek ρ3 o2 = some mk) (e6 : at? ρ3 i = some m)
  (q : zkz X.K pv D H Z F (.nx (ρ3.set i (some m')))) {a : Addr} {m0 : M} (e3 : at? ρ2 i = some m0) (hm0 : ∀ d, m0 ≠ .v d)
  (R : V → V → V → Hp → Prop) (hR : ∀ H3 Z3 x v k, Ro X.K H3 Z3 x m → Fz X.K H3 Z3 v d → Ro X.K H3 Z3 k mk → (∀ G, Ow X.K H3 Z3 x m G → ∀ a o', a ∈ G → (za0 H3 Z3 (upd H3 a o') Z3 → Ow X.K (upd H3 a o') Z3 x m' G) → D.nx σ (upd H3 a o')) → R x v k H3) :
  vE X.K fe σ H fun v H1 => zdC i σ H1 fun x H2 => vE X.K fk σ H2 fun k H3 => R x v k H3 := by
 refine ⟨Z, ρ, F, o1, ρ1, S, w, e1, fun v H1 Z1 F1 G1 S1 O1 f1 => ?_⟩
 obtain ⟨Z2, F2, S2, z2, f2, _⟩ := zdb S1 O1 f1 e2
 obtain ⟨x, G, h1, h2, _⟩ := S2.get (zas.mp e3)
 refine ⟨x, h1, Z2, ρ2, F2, o2, ρ3, S2, f2.wf, e4, fun k H3 Z3 F3 G3 S3 O3 f3 => ?_⟩
 have f4 := f2.trans f3.left
 obtain ⟨x', G', k1, k2, k3⟩ := zmt S3 f4 e6
 rw [h1] at k1; cases k1
 refine hR H3 Z3 x v k ⟨G', k2⟩ (z2.mono (f3.grow f2.wf)) (O3.peek S3 e5) fun G2 hG a o' ha hk => ?_
 have eG : G2 = G' := by
  have : ∀ {x : V} {m : M} {A B : List Addr}, Ow X.K H3 Z3 x m A → Ow X.K H3 Z3 x m B → A = B := fun {x m A B} r r' => by
   cases r with
   | v _ => cases r'; rfl
   | lst _ _ => cases r'; rfl
   | dic _ _ => cases r'; rfl
   | dls e r =>
    cases r' with
    | dls e' r' =>
     rw [e] at e'; cases e'
     have : ∀ {kxs : List (Key × V)} {kvs : List (Key × List PyData)} {G G' : List Addr}, Owl X.K H3 Z3 kxs kvs G → Owl X.K H3 Z3 kxs kvs G' → G = G' := fun {kxs kvs G G'} r r' => by
      induction r generalizing G' with
      | nil => cases r'; rfl
      | cons _ _ _ ih => cases r' with
       | cons _ _ r2 => rw [ih r2]
     rw [this r r']
  exact this hG k2
 subst eG
 obtain ⟨g, _, k4⟩ := k3 a o' ha
 have ndG : G2.Nodup := by
  obtain ⟨x2, G3', F1', t1, t2, t3, t4, t5⟩ := S3.take f4.nd (zas.mp e6)
  rw [h1] at t1; cases t1
  have : ∀ {x : V} {m : M} {A B : List Addr}, Ow X.K H3 Z3 x m A → Ow X.K H3 Z3 x m B → A = B := fun {x m A B} r r' => by
   cases r with
   | v _ => cases r'; rfl
   | lst _ _ => cases r'; rfl
   | dic _ _ => cases r'; rfl
   | dls e r =>
    cases r' with
    | dls e' r' =>
     rw [e] at e'; cases e'
     have : ∀ {kxs : List (Key × V)} {kvs : List (Key × List PyData)} {G G' : List Addr}, Owl X.K H3 Z3 kxs kvs G → Owl X.K H3 Z3 kxs kvs G' → G = G' := fun {kxs kvs G G'} r r' => by
      induction r generalizing G' with
      | nil => cases r'; rfl
      | cons _ _ _ ih => cases r' with
       | cons _ _ r2 => rw [ih r2]
     rw [this r r']
  rw [this k2 t2]
  exact (zaC t4).2.1
 obtain ⟨F5, S5, f5⟩ := k4 m' G2 (fun _ h => h) ndG (hk g)
 exact q σ _ Z3 F5 S5 f5 P
theorem zlQ {i : Nat} {fk fe : FE} {pv : Pv} {D : Ends} {σ : L2.St} {H : Hp} (hq : vS X.K pv (zmu i fk fe) D σ H) : zlf (zdC i) (vE X.K fk) (vE X.K fe) D σ H ∨ zhT (vE X.K fe) (zmM (zdC i) (vE X.K fk) zh6) D σ H := by
 obtain ⟨Z, ρ, F, o, S, w, P, e, q⟩ := hq
 obtain ⟨⟨o1, ρ1⟩, e1, e⟩ := oB e
 obtain ⟨⟨d, ρ2⟩, e2, e⟩ := oB e
 obtain ⟨m0, e3, e⟩ := oB e
 have main : (∀ d, m0 ≠ .v d) → ((fk ρ2).bind fun r => (peek r.2 r.1).bind fun mk => (at? r.2 i).bind fun m => match m, mk with
  | .dic kvs, .v kd => (zgm kd).bind fun k => if kvs.length < lim then some (Out.nx (r.2.set i (some (.dic (putD kvs k d))))) else none
  | .lst ds, .v (.int k) => (ixN ds.length k).bind fun j => some (.nx (r.2.set i (some (.lst (ds.set j d)))))
  | _, _ => none) = some o → zlf (zdC i) (vE X.K fk) (vE X.K fe) D σ H ∨ zhT (vE X.K fe) (zmM (zdC i) (vE X.K fk) zh6) D σ H := fun hm0 e => by
  obtain ⟨⟨o2, ρ3⟩, e4, e⟩ := oB e
  obtain ⟨mk, e5, e⟩ := oB e
  obtain ⟨m, e6, e⟩ := oB e
  split at e
  ·rename_i kvs kd
   obtain ⟨k, e7, e⟩ := oB e
   split at e
   ·rename_i hl
    injection e with e
    subst e
    refine .inl (ziI (a := 0) S w P e1 e2 e4 e5 e6 q e3 hm0 _ fun H3 Z3 x v y hx hv hy fin => ?_)
    obtain ⟨G, hG⟩ := hx
    cases hG with
    | dic ha fk' =>
     obtain rfl := zdc hy.fz e7
     exact ⟨_, _, rfl, znc.k ha (zdZ (Nat.le_of_lt (by rw [fk'.length]; exact hl))), fin _ (.dic ha fk') _ _ lS fun g => .dic zay (Fzk.put (hv.mono g) (fk'.mono g))⟩
   ·cases e
  ·rename_i ds k
   obtain ⟨j, e7, e⟩ := oB e
   injection e with e
   subst e
   refine .inr (ziI (a := 0) S w P e1 e2 e4 e5 e6 q e3 hm0 _ fun H3 Z3 x v y hx hv hy fin => ?_)
   obtain ⟨G, hG⟩ := hx
   cases hG with
   | lst ha fs =>
    obtain rfl := hy.int
    exact ⟨_, _, _, j, rfl, rfl, ha, by rw [fs.length]; exact e7, fin _ (.lst ha fs) _ _ lS fun g => .lst zay ((fs.mono g).set j (hv.mono g))⟩
  ·cases e
 cases m0 with
 | v d => cases e
 | lst _ => exact main (fun _ z => nomatch z) e
 | dic _ => exact main (fun _ z => nomatch z) e
 | dls _ => exact main (fun _ z => nomatch z) e
theorem znZ (i : Nat) {o k e : Expr} {fk fe : FE} {pos' : Pos} (hu : X.A.units + 64 < cLine) (ho : PE X o (zdC i)) (hk : VE X k fk) (he : VE X e fe) (hs : swapsWith e (some (.Subscript o k pos')) pos.line X.env = pure false)
  (hps : ∀ (te : TE) (t : TG), PE X e te → PG X (.Subscript o k pos') t → PS X (.Assign [.Subscript o k pos'] e pos) (zhT te t)) (hpg : ∀ to ti : TE, PE X o to → PE X k ti → PG X (.Subscript o k pos') (zmM to ti zh6)) : VS X pin (.Assign [.Subscript o k pos'] e pos) (zmu i fk fe) := fun pv hp =>
 zds (znY (zlh (by omega) ho hk he hs) (hps _ _ he (hpg _ _ ho hk))) fun _ _ _ hq => zlQ hq
end
end VL
end
section
namespace VL
open PySem PySem.Spec L2 PyProof.Rows
section
variable {X : Cx} {pos : Pos} {pin : List Nat}
theorem zgw {i : Nat} {f : FE} {pv : Pv} {D : Ends} {σ : L2.St} {H : Hp} (hp : Sup pv pin) (hp0 : i ∉ pin) (hq : vS X.K pv (zbL i f) D σ H) : vE X.K f σ H fun x H1 => D.nx (σ.set i (some x)) H1 := by
 obtain ⟨Z, ρ, F, o, S, w, P, e, q⟩ := hq
 obtain ⟨⟨o1, ρ1⟩, e1, e⟩ := oB e
 obtain ⟨⟨m, ρ2⟩, e2, e⟩ := oB e
 obtain ⟨ρ3, e3, e⟩ := oB e
 cases e
 refine ⟨Z, ρ, F, o1, ρ1, S, w, e1, fun y H1 Z1 F1 G1 S1 O1 f1 => ?_⟩
 obtain ⟨Z2, F2, G2, h1, h2, h3⟩ := moved S1 O1 f1 e2
 obtain ⟨F3, k1, k2, k3⟩ := h1.zfJ h2 h3.nd e3
 exact q _ H1 Z2 F3 k1 (h3.sub k2 k3) (P.set hp hp0)
theorem zn0 {i : Nat} {x : Str} (n : Nat) (js : List Nat) {elt target iter : Expr} {ifs : List Expr} {scope : Scope} {N : List Str} {fr : List (Option Nat)} {pinI : List Nat} {fi : FI} {fg : FG} {ft : FT} {fe : FE} {pos' spos : Pos} (hp0 : i ∉ pin) (hN : X.N.Nodup) (hi' : X.N[i]? = some x) (hx : X.env.scope.names.lookup x = some .local)
  (hfr : fr = List.replicate n none ++ js.map some) (hpin : pinI = (List.range js.length).map (n + ·)) (hc : X.calm = true) (S : zaX X scope N fr) (hi : VI X target iter fi)
  (hin : ∀ z : Bk, VG (zao X scope z.cl N z.C z.fp z.s z.H) pinI target fg ∧ VF (zao X scope z.cl N z.C z.fp z.s z.H) ifs ft ∧ VE (zao X scope z.cl N z.C z.fp z.s z.H) elt fe)
  (hs : ∀ x, foldedSetIterable iter X.env x = pure x := by intro _; rfl) (hsw : swapsWith (.ListComp elt [⟨target, iter, ifs, 0⟩] scope pos) (some (.Name x pos')) spos.line X.env = pure true := by rfl) :
  VS X pin (.Assign [.Name x pos'] (.ListComp elt [⟨target, iter, ifs, 0⟩] scope pos) spos) (zbL i (vLC n js fi fg ft fe)) := fun pv hp pins s σ H D I hq =>
 znj (g := fun _ => vG X.K (zew n js σ) fg) (tt := fun _ => vT X.K ft) (te := fun _ => vE X.K fe) hN hi' hx hc S hi (fun z => ⟨(hin z).1 _ (zdu n js σ hpin), (hin z).2.1, (hin z).2.2⟩) hs hsw pins s σ H D I (zeE hfr (zgw hp hp0 hq))
end
end VL
end
section
namespace VL
open PySem PySem.Spec L2 PyProof.Rows
end VL
end
section
namespace VL
open PySem PySem.Spec L2 PyProof.Rows
structure WE (X : Cx) (e : Expr) (f : FE) : Prop where
 h : VE X e f
structure WA (X : Cx) (e : List Expr) (f : FA) : Prop where
 h : VA X e f
structure WT (X : Cx) (e : Expr) (f : FT) : Prop where
 h : VT X e f
structure WW (X : Cx) (e : Expr) (f : FT) : Prop where
 h : VW X e f
structure WO (X : Cx) (e : Option Expr) (f : FO) : Prop where
 h : PO X e (vO X.K f)
structure WI (X : Cx) (tg e : Expr) (f : FI) : Prop where
 h : VI X tg e f
structure WG (X : Cx) (pin : List Nat) (tg : Expr) (f : FG) : Prop where
 h : VG X pin tg f
structure WGs (X : Cx) (pin : List Nat) (tg : List Expr) (f : FGs) : Prop where
 h : VGs X pin tg f
structure WF (X : Cx) (e : List Expr) (f : FT) : Prop where
 h : VF X e f
structure WS (X : Cx) (pin : List Nat) (st : Stmt) (f : FS) : Prop where
 h : VS X pin st f
structure WSs (X : Cx) (pin : List Nat) (st : List Stmt) (f : FS) : Prop where
 h : VSs X pin st f
section
variable {X : Cx} {pos : Pos} {pin : List Nat}
theorem wv (i : Nat) {x : Str} {pos : Pos} (hN : X.N[i]? = some x := by rfl) (hv : Vis X.env.scope x := by first | exact Or.inl rfl | exact Or.inr (Or.inl rfl) | exact Or.inr (Or.inr rfl)) (hd : (x == ("__debug__" : Str)) = false := by decide)
  (hcd : (x == ("__classdict__" : Str)) = false := by decide) : WE X (.Name x pos) (zac i) := ⟨vv i hN hv hd hcd⟩
theorem zaj {i j pos} : WE X (.Constant (.int i) j pos) (vC (.int i)) := ⟨znm⟩
theorem ziJ {i j pos} : WE X (.Constant (.bool i) j pos) (vC (.bool i)) := ⟨ve_bl⟩
theorem zn1 {x j pos} : WE X (.Constant (.str x) j pos) (vC (.str x)) := ⟨znn⟩
theorem zaU {op : Operator} {a b : Expr} {g : M → M → Option M} {fa fb : FE} (ho : OpR X (binaryOp op) (rM X.K g)) (ha : WE X a fa) (hb : WE X b fb) : WE X (.BinOp a op b pos) (vB g fa fb) := ⟨ve_op rM_v ho ha.h hb.h⟩
theorem zkC {op : CmpOp} {a b : Expr} {g : M → M → Option M} {fa fb : FE} (ho : OpR X (compareOp op) (rM X.K g)) (ha : WE X a fa) (hb : WE X b fb) (hm : behindInMarks op b = false) : WE X (.Compare a [op] [b] pos) (vB g fa fb) := ⟨zno rM_v ho ha.h hb.h hm⟩
theorem zb6 {op : CmpOp} {a b : Expr} {g : M → M → Option M} {fa fb : FE} (ho : OpR X (compareOp op) (rM X.K g)) (ha : WE X a fa) (hb : WE X b fb) (hm : behindInMarks op b = false) : WT X (.Compare a [op] [b] pos) (zbk (vB g fa fb)) := ⟨znr rM_v ho ha.h hb.h hm⟩
theorem ziK {a b : Expr} {fa fb : FE} (hu : X.A.units + 64 < cLine) (ha : WE X a fa) (hb : WE X b fb) (hm : behindInMarks .In b = false := by rfl) : WE X (.Compare a [.In] [b] pos) (vB (inA false) fa fb) := ⟨ve_in hu ha.h hb.h hm⟩
theorem zhF {a b : Expr} {fa fb : FE} (hu : X.A.units + 64 < cLine) (ha : WE X a fa) (hb : WE X b fb) (hm : behindInMarks .In b = false := by rfl) : WT X (.Compare a [.In] [b] pos) (zbk (vB (inA false) fa fb)) := ⟨vt_in hu ha.h hb.h hm⟩
theorem zdK {a b : Expr} {fa fb : FE} (hu : X.A.units + 64 < cLine) (ha : WE X a fa) (hb : WE X b fb) (hm : behindInMarks .NotIn b = false := by rfl) : WT X (.Compare a [.NotIn] [b] pos) (zbk (vB (inA true) fa fb)) := ⟨zjQ hu ha.h hb.h hm⟩
theorem zg9 {e : Expr} {f : FE} (h : WE X e f) (he : ∀ whole, isTrue e X.env whole = (do let v ← whole; standAt e.pos; holding [v] (truthy v)) := by intro _; rfl) : WT X e (zf0 f) := ⟨znD h.h he⟩
theorem zfL {e : Expr} {f : FT} (h : WW X e f) : WT X e f := ⟨PW.pt h.h⟩
theorem zd6 {a : Expr} {f : FT} (h : WT X a f) : WW X (.BoolOp .And [a] pos) f := ⟨zlv h.h⟩
theorem ziL {a : Expr} {f : FT} (h : WT X a f) : WW X (.BoolOp .Or [a] pos) f := ⟨zns h.h⟩
theorem zeF {a b : Expr} {rest : List Expr} {f g : FT} (h : WT X a f) (h' : WW X (.BoolOp .And (b :: rest) pos) g) : WW X (.BoolOp .And (a :: b :: rest) pos) (zfZ f g) := ⟨znt h.h h'.h⟩
theorem zlR {a b : Expr} {rest : List Expr} {f g : FT} (h : WT X a f) (h' : WW X (.BoolOp .Or (b :: rest) pos) g) : WW X (.BoolOp .Or (a :: b :: rest) pos) (vOr f g) := ⟨vw_or h.h h'.h⟩
theorem zkD {a b : Expr} {rest : List Expr} {fa fb : FE} (ha : WE X a fa) (hb : WE X (.BoolOp .And (b :: rest) pos) fb) : WE X (.BoolOp .And (a :: b :: rest) pos) (zir fa fb) := ⟨znu ha.h hb.h⟩
theorem we_or {a b : Expr} {rest : List Expr} {fa fb : FE} (ha : WE X a fa) (hb : WE X (.BoolOp .Or (b :: rest) pos) fb) : WE X (.BoolOp .Or (a :: b :: rest) pos) (vOrV fa fb) := ⟨ve_or ha.h hb.h⟩
theorem ziM {op a} {f : FE} (h : WE X a f) : WE X (.BoolOp op [a] pos) f := ⟨znv h.h⟩
theorem zn2 {a : Expr} {fa : FE} (ha : WE X a fa) : WE X (.UnaryOp .USub a pos) (vU zmp fa) := ⟨znE ha.h⟩
theorem zcu : WA X [] zbS := ⟨znp⟩
theorem zaf {a : Expr} {fa : FE} (ha : WE X a fa) (hs : starEach [a] X.env = [(false, eval a X.env)] := by rfl) : WA X [a] (zab fa) := ⟨znq ha.h hs⟩
theorem zae {a : Expr} {as : List Expr} {fa : FE} {fr : FA} (ha : WE X a fa) (hr : WA X as fr) (hs : starEach (a :: as) X.env = (false, eval a X.env) :: starEach as X.env := by rfl) : WA X (a :: as) (zaa fa fr) := ⟨zlu ha.h hr.h hs⟩
def zha (ns : List Int) : FA := fun ρ => some (ns.map fun n => .t (.v (.int n)), ρ)
theorem zfM {K : PySem.W.Frag} {H : Hp} {Z : Zs} {σ : L2.St} : ∀ ns : List Int, zfY K H Z σ (ns.map V.int) (ns.map fun n => .t (.v (.int n))) []
 | [] => .nil
 | n :: ns => .cons (G := []) (.t (.v (.int n))) (zfM ns)
theorem zlS {es : List Expr} {ns : List Int} (h : zeU es = some ns) : WA X es (zha ns) := ⟨zgZ (zgX es ns h) fun σ H Q hq => by
 obtain ⟨Z, ρ, F, o, ρ', S, w, e, q⟩ := hq
 cases e
 exact q _ H Z F [] S (zfM ns) (Fut.refl w).nil⟩
theorem zbl {es : List Expr} {k : Nat} {fa : FA} (h : WA X es fa) : WE X (.Tuple es k pos) (zco fa) := ⟨znA h.h⟩
theorem zbr {es : List Expr} {fa : FA} (h : WA X es fa) : WE X (.List es pos) (zcF fa) := ⟨znB h.h⟩
theorem zbc {a b : Expr} {fa fb : FE} (hu : X.A.units + 64 < cLine) (ha : WE X a fa) (hb : WE X b fb) (hs : zga b) : WE X (.Subscript a b pos) (vIx fa fb) := ⟨ve_ix hu ha.h hb.h hs⟩
theorem zlT : WO X none zg3 := ⟨zlz⟩
theorem zlU {e : Expr} {f : FE} (h : WE X e f) : WO X (some e) (zg4 f) := ⟨zlA h.h⟩
theorem we_sl {e : Expr} {lo hi : Option Expr} {p2 : Pos} {fa : FE} {fl fh : FO} (ha : WE X e fa) (hl : WO X lo fl) (hh : WO X hi fh) : WE X (.Subscript e (.Slice lo hi none p2) pos) (vSl fa fl fh) := ⟨ve_sl ha.h hl.h hh.h⟩
theorem zbo {id : String} {x : Str} {p : Pos} {e : Expr} {es : List Expr} {g : List M → Option M} {fa : FA} (hc : za3 X (.builtin id) (rLM X.K g)) (hg : Gl X x) (hm : X.mg x = none) (hv : bootBuiltins x = some (.builtin id)) (ha : WA X (e :: es) fa) (hn : x ≠ "__name__" := by decide) (hdb : (x == ("__debug__" : Str)) = false := by decide)
  (he : starEach (e :: es) X.env = (false, eval e X.env) :: starEach es X.env := by rfl) (hpl : (backTo pos (starEach es X.env)).any (·.1) = false := by rfl) : WE X (.Call (.Name x p) (e :: es) [] pos) (vCB g fa) := ⟨ve_cb hc hg hm hv ha.h hn hdb he hpl⟩
theorem zde {T : String} {x : Str} {p : Pos} {e : Expr} {es : List Expr} {g : List M → Option M} {fa : FA} (hc : za3 X (.type T) (rLM X.K g)) (hg : Gl X x) (hm : X.mg x = none) (hv : bootBuiltins x = some (.type T)) (ha : WA X (e :: es) fa) (hn : x ≠ "__name__" := by decide) (hdb : (x == ("__debug__" : Str)) = false := by decide)
  (he : starEach (e :: es) X.env = (false, eval e X.env) :: starEach es X.env := by rfl) (hpl : (backTo pos (starEach es X.env)).any (·.1) = false := by rfl) : WE X (.Call (.Name x p) (e :: es) [] pos) (vCB g fa) := ⟨ve_ct hc hg hm hv ha.h hn hdb he hpl⟩
theorem za5 {x : Str} {ps : List Str} {k k' : Nat} {g : FF} {e : Expr} {es : List Expr} {fa : FA} {p : Pos} (C : zaS X.prog X.w X.K X.mg X.base x ps k (spV X.K g)) (hr : zeh k' X.A) (hg : Gl X x) (ha : WA X (e :: es) fa) (hk : k ≤ k' := by first | decide | exact Nat.le_refl _ | omega) (hdb : (x == ("__debug__" : Str)) = false := by decide)
  (he : starEach (e :: es) X.env = (false, eval e X.env) :: starEach es X.env := by rfl) (hpl : (backTo pos (starEach es X.env)).any (·.1) = false := by rfl) : WE X (.Call (.Name x p) (e :: es) [] pos) (vFn g fa) := ⟨ve_fn C hr hg ha.h hk hdb he hpl⟩
theorem zhb (i : Nat) {e : Expr} {es : List Expr} {fa : FA} {x : Str} {p1 p2 : Pos} (ha : WA X (e :: es) fa) (hpe : ∀ (to : TE) (t : TA), PE X (.Name x p1) to → PA X (e :: es) t → PE X (.Call (.Attribute (.Name x p1) "append" p2) (e :: es) [] pos) (tBM X.K "list" zeS to t)) (hv : PE X (.Name x p1) (zdC i)) : WE X (.Call (.Attribute (.Name x p1) "append" p2) (e :: es) [] pos) (zhM i fa) := ⟨znX i ha.h hpe hv⟩
theorem zjV (n : Nat) (js : List Nat) {elt target iter : Expr} {ifs : List Expr} {scope : Scope} {N : List Str} {fr : List (Option Nat)} {pin : List Nat} {fi : FI} {fg : FG} {ft : FT} {fe : FE} (hfr : fr = List.replicate n none ++ js.map some) (hpin : pin = (List.range js.length).map (n + ·)) (hc : X.calm = true) (S : zaX X scope N fr) (hi : WI X target iter fi)
  (hin : ∀ z : Bk, WG (zao X scope z.cl N z.C z.fp z.s z.H) pin target fg ∧ WF (zao X scope z.cl N z.C z.fp z.s z.H) ifs ft ∧ WE (zao X scope z.cl N z.C z.fp z.s z.H) elt fe)
  (hs : ∀ x, foldedSetIterable iter X.env x = pure x := by intro _; rfl) : WE X (.ListComp elt [⟨target, iter, ifs, 0⟩] scope pos) (vLC n js fi fg ft fe) := ⟨ve_lc n js hfr hpin hc S hi.h (fun z => ⟨(hin z).1.h, (hin z).2.1.h, (hin z).2.2.h⟩) hs⟩
theorem zhc : WF X [] zfK := ⟨znV⟩
theorem zdv {c : Expr} {f : FT} (h : WT X c f) : WF X [c] f := ⟨znW h.h⟩
theorem zcb {tg l : Expr} {f : FE} (h : WE X l f) : WI X tg l (zbE f) := ⟨znQ h.h⟩
theorem zcc {tg a : Expr} {fa : FA} {p : Pos} (hg : Gl X "range") (hm : X.mg "range" = none) (ha : WA X [a] fa) (hs : starEach [a] X.env = [(false, eval a X.env)] := by rfl) : WI X tg (.Call (.Name "range" p) [a] [] pos) (zbf zd4 fa) := ⟨zlL hg hm ha.h hs⟩
theorem zlV {tg a b : Expr} {fa : FA} {p : Pos} (hg : Gl X "range") (hm : X.mg "range" = none) (ha : WA X [a, b] fa) (hs : starEach [a, b] X.env = [(false, eval a X.env), (false, eval b X.env)] := by rfl) (hs2 : starEach [b] X.env = [(false, eval b X.env)] := by rfl) : WI X tg (.Call (.Name "range" p) [a, b] [] pos) (zbf znR fa) := ⟨zlM hg hm ha.h hs hs2⟩
theorem zn3 {a b : Expr} {fa : FA} {p tp : Pos} {es : List Expr} {k : Nat} (hg : Gl X "zip") (hm : X.mg "zip" = none) (ha : WA X [a, b] fa) (hs : starEach [a, b] X.env = [(false, eval a X.env), (false, eval b X.env)] := by rfl) (hs2 : starEach [b] X.env = [(false, eval b X.env)] := by rfl) : WI X (.Tuple es k tp) (.Call (.Name "zip" p) [a, b] [] pos) (zbf zms fa) := ⟨znS hg hm ha.h hs hs2⟩
theorem zau {i : Nat} {x : Str} (hp0 : i ∉ pin) (hN : X.N.Nodup) (hi : X.N[i]? = some x) (hx : Loc X.env.scope x) (hf : X.fn x = true ∨ X.env.scope.names.lookup x = some .local := by first | exact .inl rfl | exact .inr rfl | assumption) : WG X pin (.Name x pos) (zad i) := ⟨zlH hp0 hN hi hx hf⟩
theorem zcd : WGs X pin [] zbe := ⟨zlI⟩
theorem zaN {e : Expr} {es : List Expr} {f : FG} {g : FGs} (h1 : WG X pin e f) (h2 : WGs X pin es g) (hs : (assignEach (e :: es) X.env).map (·.2) = assign e X.env :: (assignEach es X.env).map (·.2) := by rfl) : WGs X pin (e :: es) (zam f g) := ⟨zjU h1.h h2.h hs⟩
theorem zdw {es : List Expr} {k : Nat} (n : Nat) {g : FGs} (hc : X.calm = true) (h : WGs X pin es g) (hn : (assignEach es X.env).length = n := by rfl) (hst : (assignEach es X.env).findIdx? (·.1) = none := by rfl) : WG X pin (.Tuple es k pos) (zbb n g) := ⟨znL hc h.h fun _ h => zmL hc h hn hst⟩
theorem zb1 : WSs X pin [] zbW := ⟨zlD⟩
theorem zar {st : Stmt} {f : FS} (h : WS X pin st f) : WSs X pin [st] f := ⟨zlF h.h⟩
theorem zak {st : Stmt} {rest : List Stmt} {f g : FS} (h1 : WS X pin st f) (h2 : WSs X pin rest g) : WSs X pin (st :: rest) (za2 f g) := ⟨zjS h1.h h2.h⟩
theorem ze7 {c : Expr} {a b : List Stmt} {fc : FT} {f g : FS} (hc : WT X c fc) (ha : WSs X pin a f) (hb : WSs X pin b g) : WS X pin (.If c a b pos) (ze3 fc f g) := ⟨vs_if hc.h ha.h hb.h⟩
theorem zce {e : Expr} {f : FE} (h : WE X e f) (hs : swapsWith e none pos.line X.env = pure false := by rfl) : WS X pin (.Expr e pos) (zbX f) := ⟨zlG h.h hs⟩
theorem za9 {e : Expr} {f : FE} (h : WE X e f) : WS X pin (.Return (some e) pos) (zc4 f) := ⟨znJ h.h⟩
theorem zba {i : Nat} {x : Str} {e : Expr} {f : FE} {pos' : Pos} (hp0 : i ∉ pin) (hN : X.N.Nodup) (hi : X.N[i]? = some x) (hx : Loc X.env.scope x) (he : WE X e f) (hs : swapsWith e (some (.Name x pos')) pos.line X.env = pure false := by rfl) (hf : X.fn x = true ∨ X.env.scope.names.lookup x = some .local := by first | exact .inl rfl | exact .inr rfl | assumption) :
  WS X pin (.Assign [.Name x pos'] e pos) (zbL i f) := ⟨znK hp0 hN hi hx he.h hs hf⟩
theorem zkE {i : Nat} {x : Str} (n : Nat) (js : List Nat) {elt target iter : Expr} {ifs : List Expr} {scope : Scope} {N : List Str} {fr : List (Option Nat)} {pinI : List Nat} {fi : FI} {fg : FG} {ft : FT} {fe : FE} {pos' spos : Pos} (hp0 : i ∉ pin) (hN : X.N.Nodup) (hi' : X.N[i]? = some x) (hx : X.env.scope.names.lookup x = some .local)
  (hfr : fr = List.replicate n none ++ js.map some) (hpin : pinI = (List.range js.length).map (n + ·)) (hc : X.calm = true) (S : zaX X scope N fr) (hi : WI X target iter fi)
  (hin : ∀ z : Bk, WG (zao X scope z.cl N z.C z.fp z.s z.H) pinI target fg ∧ WF (zao X scope z.cl N z.C z.fp z.s z.H) ifs ft ∧ WE (zao X scope z.cl N z.C z.fp z.s z.H) elt fe)
  (hs : ∀ x, foldedSetIterable iter X.env x = pure x := by intro _; rfl) (hsw : swapsWith (.ListComp elt [⟨target, iter, ifs, 0⟩] scope pos) (some (.Name x pos')) spos.line X.env = pure true := by rfl) :
  WS X pin (.Assign [.Name x pos'] (.ListComp elt [⟨target, iter, ifs, 0⟩] scope pos) spos) (zbL i (vLC n js fi fg ft fe)) := ⟨zn0 n js hp0 hN hi' hx hfr hpin hc S hi.h (fun z => ⟨(hin z).1.h, (hin z).2.1.h, (hin z).2.2.h⟩) hs hsw⟩
theorem ziN {tg e : Expr} {f : FE} {g : FG} (he : WE X e f) (hg : WG X pin tg g) (hs : swapsWithSole [tg] e pos.line X.env = pure false := by rfl) (hw : swappedStores [tg] e X.env = pure none := by rfl)
  (hps : ∀ (te : TE) (t : TG), PE X e te → PG X tg t → PS X (.Assign [tg] e pos) (zhT te t) := by exact fun _ _ h1 h2 => zgK h1 h2) : WS X pin (.Assign [tg] e pos) (zmr f g) := ⟨znM he.h hg.h hs hw hps⟩
theorem ziO {i j : Nat} {a b : Expr} {fa : FA} {x y : Str} {px py pt : Pos} {kt k2 pt2} (hpi : i ∉ pin) (hpj : j ∉ pin) (ha : WA X [a, b] fa) (hps : ∀ t : TA, PA X [a, b] t → PS X (.Assign [.Tuple [.Name x px, .Name y py] kt pt] (.Tuple [a, b] k2 pt2) pos) (tPar i j t)) : WS X pin (.Assign [.Tuple [.Name x px, .Name y py] kt pt] (.Tuple [a, b] k2 pt2) pos) (zlJ i j fa) := ⟨znN hpi hpj ha.h hps⟩
theorem zkF (i : Nat) {o k e : Expr} {fk fe : FE} {pos' : Pos} (hu : X.A.units + 64 < cLine) (ho : PE X o (zdC i)) (hk : WE X k fk) (he : WE X e fe) (hs : swapsWith e (some (.Subscript o k pos')) pos.line X.env = pure false)
  (hps : ∀ (te : TE) (t : TG), PE X e te → PG X (.Subscript o k pos') t → PS X (.Assign [.Subscript o k pos'] e pos) (zhT te t)) (hpg : ∀ to ti : TE, PE X o to → PE X k ti → PG X (.Subscript o k pos') (zmM to ti zh6)) : WS X pin (.Assign [.Subscript o k pos'] e pos) (zmu i fk fe) := ⟨znZ i hu ho hk.h he.h hs hps hpg⟩
theorem zcY {tg iter : Expr} {body : List Stmt} {fi : FI} {fg : FG} {fb : FS} (hp0 : PassesOwn (model X.prog X.w) X.A X.env X.xe) (hc : X.calm = true) (hi : WI X tg iter fi) (hg : WG X pin tg fg) (hb : WSs X pin body fb)
  (hs : ∀ x, foldedSetIterable iter X.env x = pure x := by intro _; rfl) : WS X pin (.For tg iter body [] pos) (zgt fi fg fb) := ⟨znT hp0 hc hi.h hg.h hb.h hs⟩
end
section
variable {P : Program} {w : World} {K : PySem.W.Frag} {mg : Str → Option Value} {base : Heap}
theorem za6 {x qual : Str} {st : Stmt} {f : Addr} {fd : FuncData} {N prs : List Str} {k : Nat} (ps : List Bool) {fb : FS} (Fn : Fun K x qual st f fd) (S : zaP N prs (zah st)) (hl : prs.length = ps.length)
  (hb : ∀ (cdv : Value) (A : Around) (outer : List Env) (s : Shared) (H : Hp) (E : XK), zeh k (A.deeper (envOfC qual (zah st) s.heap.objs.size f cdv)) → WSs (zkm CX0 P w K mg base N qual (zah st) f cdv A outer s H E).nox (pins ps 0) (zaF st) fb) :
  zcv P w K mg base CX0 (k + 1) f fd prs (spV K (zev ps N.length fb)) := znU ps Fn S hl fun cdv A outer s H E hr => (hb cdv A outer s H E hr).h
def zhd (K : PySem.W.Frag) : Sp := fun vs H Q _ => ∃ (a : Addr) (ns : List Int), vs = [.ref a] ∧ SqL K H a (ns.map V.int) ∧ ns.length ≤ 63 ∧ ∀ H', Q (.bl true) H'
theorem zn4 {k : Nat} {f : Addr} {fd : FuncData} {x : Str} {g : FF} (F : zcv P w K mg base CX0 k f fd [x] (spV K g)) (h : ∀ ns : List Int, ns.length ≤ 63 → ∃ ms, g [.v (.list (ns.map .int))] = some (.v (.bool true), ms)) : zcv P w K mg base CX0 k f fd [x] (zhd K) := by
 refine F.imp fun vs H Q E hs => ?_
 obtain ⟨a, ns, rfl, hq, hl, q⟩ := hs
 obtain ⟨ms, e⟩ := h ns hl
 rcases hq with hq | hq
 ·have hz : ∀ b, (fun b => b = a) b → H b ≠ none := fun b hb e => by
   have hb : b = a := hb
   subst hb
   rcases hq with hq | ⟨o, hq⟩ <;> rw [hq] at e <;> cases e
  refine ⟨fun b => b = a, _, [], _, ms, .cons (G := []) (.v (.lst hq rfl (Fzs.ints ns))) .nil, ⟨List.nodup_nil, fun _ h => (nomatch h), hz⟩, e, fun x H' Z' A' G _ h _ => ?_⟩
  cases h with
  | v f => obtain rfl := f.zin; exact q H'
 ·refine ⟨fun _ => False, _, [], _, ms, .cons (G := []) (.v (.lsK hq (Fzs.ints ns))) .nil, ⟨List.nodup_nil, fun _ h => (nomatch h), fun _ h => h.elim⟩, e, fun x H' Z' A' G _ h _ => ?_⟩
  cases h with
  | v f => obtain rfl := f.zin; exact q H'
end
end VL
end
section
namespace VL
open PySem PySem.Spec L2 PyProof.Rows
end VL
end
section
namespace VL
open PySem L2
section
variable {ρ : Ev} {m : M} {x : Option M} {i j : Nat}
@[simp] theorem at?_0 : at? (some m :: ρ) 0 = some m := rfl
@[simp] theorem at?_n : at? (none :: ρ) 0 = none := rfl
@[simp] theorem at?_s : at? (x :: ρ) (i + 1) = at? ρ i := rfl
@[simp] theorem peek_t : peek ρ (.t m) = some m := rfl
@[simp] theorem peek_p : peek ρ (.p i) = at? ρ i := rfl
@[simp] theorem peekS_t : zeY ρ (.t m) = some m := rfl
@[simp] theorem peekS_p : zeY ρ (.p i) = at? ρ i := rfl
@[simp] theorem zn5 : zes ρ [] = some [] := rfl
@[simp] theorem zmv {o : Opd} {os : List Opd} : zes ρ (o :: os) = (peek ρ o).bind fun m => (zes ρ os).bind fun ms => some (m :: ms) := rfl
@[simp] theorem vVar_eq : zac i ρ = match at? ρ i with
 | some (.v d) => some (.t (.v d), ρ)
 | some _ => some (.p i, ρ)
 | none => none := rfl
@[simp] theorem vC_eq {d : PyData} : vC d ρ = some (.t (.v d), ρ) := rfl
@[simp] theorem vB_eq {g : M → M → Option M} {fa fb : FE} : vB g fa fb ρ = (fa ρ).bind fun p => (fb p.2).bind fun q => (zeY q.2 p.1).bind fun m1 => (peek q.2 q.1).bind fun m2 => (g m1 m2).bind fun m => some (.t m, q.2) := rfl
@[simp] theorem vU_eq {g : M → Option M} {fa : FE} : vU g fa ρ = (fa ρ).bind fun p => (peek p.2 p.1).bind fun m1 => (g m1).bind fun m => some (.t m, p.2) := rfl
@[simp] theorem vaNil_eq : zbS ρ = some ([], ρ) := rfl
@[simp] theorem zjW {fa : FE} : zab fa ρ = (fa ρ).bind fun p => some ([p.1], p.2) := rfl
@[simp] theorem stab_t : zlq (.t m) = true := rfl
@[simp] theorem stab_p : zlq (.p i) = true := rfl
@[simp] theorem zn6 {fa : FE} {fr : FA} : zaa fa fr ρ = (fa ρ).bind fun p => (fr p.2).bind fun q => if zlq p.1 = true then some (p.1 :: q.1, q.2) else none := rfl
@[simp] theorem zn7 {ns : List Int} : zha ns ρ = some (ns.map fun n => .t (.v (.int n)), ρ) := rfl
@[simp] theorem zn8 {g : List M → Option M} {fa : FA} : vCB g fa ρ = (fa ρ).bind fun p => (zes p.2 p.1).bind fun ms => (g ms).bind fun m => some (.t m, p.2) := rfl
@[simp] theorem tr_bool {b : Bool} : tr? (.v (.bool b)) = some b := rfl
@[simp] theorem vTst_eq {f : FE} : zbk f ρ = (f ρ).bind fun p => (peek p.2 p.1).bind fun m => (tr? m).bind fun b => some (b, p.2) := rfl
@[simp] theorem vTru_eq {f : FE} : zf0 f ρ = (f ρ).bind fun p => (peek p.2 p.1).bind fun m => (zkw m).bind fun b => some (b, p.2) := rfl
@[simp] theorem tru_bool {b : Bool} : zkw (.v (.bool b)) = some b := rfl
@[simp] theorem tru_tup {ds : List PyData} : zkw (.v (.tuple ds)) = some (!ds.isEmpty) := rfl
@[simp] theorem tru_list {ds : List PyData} : zkw (.v (.list ds)) = some (!ds.isEmpty) := rfl
@[simp] theorem tru_lst {ds : List PyData} : zkw (.lst ds) = some (!ds.isEmpty) := rfl
@[simp] theorem tru_dic {ds : List (Key × PyData)} : zkw (.dic ds) = some (!ds.isEmpty) := rfl
@[simp] theorem vAnd_eq {f g : FT} : zfZ f g ρ = (f ρ).bind fun p => if p.1 = true then g p.2 else some (false, p.2) := rfl
@[simp] theorem vOr_eq {f g : FT} : vOr f g ρ = (f ρ).bind fun p => if p.1 = true then some (true, p.2) else g p.2 := rfl
@[simp] theorem vYes_eq : zfK ρ = some (true, ρ) := rfl
@[simp] theorem vAndV_eq {fa fb : FE} : zir fa fb ρ = (zbk fa ρ).bind fun p => if p.1 = true then fb p.2 else some (.t (.v (.bool false)), p.2) := rfl
@[simp] theorem vOrV_eq {fa fb : FE} : vOrV fa fb ρ = (zbk fa ρ).bind fun p => if p.1 = true then some (.t (.v (.bool true)), p.2) else fb p.2 := rfl
@[simp] theorem toD_v {d : PyData} : toD (.v d) = d := rfl
@[simp] theorem toD_lst {d : List PyData} : toD (.lst d) = .list d := rfl
@[simp] theorem frz1_t : zcA (.t m) ρ = some (toD m, ρ) := rfl
@[simp] theorem frz1_p : zcA (.p i) ρ = (at? ρ i).bind fun m => some (toD m, ρ.set i (some (.v (toD m)))) := rfl
@[simp] theorem frzs_nil : zdB [] ρ = some ([], ρ) := rfl
@[simp] theorem zn9 {o : Opd} {os : List Opd} : zdB (o :: os) ρ = (zcA o ρ).bind fun p => (zdB os p.2).bind fun q => some (p.1 :: q.1, q.2) := rfl
@[simp] theorem vTup_eq {fa : FA} : zco fa ρ = (fa ρ).bind fun p => (zdB p.1 p.2).bind fun q => if q.1.length ≤ lim then some (.t (.v (.tuple q.1)), q.2) else none := rfl
@[simp] theorem vLst_eq {fa : FA} : zcF fa ρ = (fa ρ).bind fun p => (zdB p.1 p.2).bind fun q => if q.1.length ≤ lim then some (.t (.lst q.1), q.2) else none := rfl
@[simp] theorem ixO_t {m1 m2 : M} : ixO (.t m1) m2 ρ = (getM m1 m2).bind fun m => some (.t m, ρ) := rfl
@[simp] theorem vIx_eq {fa fb : FE} : vIx fa fb ρ = (fa ρ).bind fun p => (fb p.2).bind fun q => (peek q.2 q.1).bind fun m2 => ixO p.1 m2 q.2 := rfl
@[simp] theorem ixO_p {m2 : M} : ixO (.p i) m2 ρ = (at? ρ i).bind fun m1 => match m1, m2 with
  | .dls kvs, .v k => (zgm k).bind fun k => (zdY kvs k).bind fun _ => some (.q i k, ρ)
  | m1, m2 => (getM m1 m2).bind fun m => some (.t m, ρ) := rfl
@[simp] theorem getM_tup {ds : List PyData} {k : Int} : getM (.v (.tuple ds)) (.v (.int k)) = (atI ds k).bind fun d => some (.v d) := rfl
@[simp] theorem zoa {ds : List PyData} {k : Int} : getM (.v (.list ds)) (.v (.int k)) = (atI ds k).bind fun d => some (.v d) := rfl
@[simp] theorem getM_lst {ds : List PyData} {k : Int} : getM (.lst ds) (.v (.int k)) = (atI ds k).bind fun d => some (.v d) := rfl
@[simp] theorem getM_dic {kvs : List (Key × PyData)} {k : PyData} : getM (.dic kvs) (.v k) = (zgm k).bind fun k => (zdY kvs k).bind fun d => some (.v d) := rfl
@[simp] theorem keyD_int {k : Int} : zgm (.int k) = some (.inl k) := rfl
@[simp] theorem keyD_str {k : Str} : zgm (.str k) = some (.inr k) := rfl
@[simp] theorem zob : zg3 ρ = some (none, ρ) := rfl
@[simp] theorem zoc {f : FE} : zg4 f ρ = (f ρ).bind fun p => (peek p.2 p.1).bind fun m => match m with
 | .v (.int i) => some (some i, p.2)
 | _ => none := rfl
@[simp] theorem vSl_eq {fa : FE} {fl fh : FO} : vSl fa fl fh ρ = (fa ρ).bind fun p => (fl p.2).bind fun l => (fh l.2).bind fun h => (zeY h.2 p.1).bind fun m => (slM l.1 h.1 m).bind fun m' => some (.t m', h.2) := rfl
@[simp] theorem slM_tup {lo hi : Option Int} {ds : List PyData} : slM lo hi (.v (.tuple ds)) = some (.v (.tuple (cutD ds lo hi))) := rfl
@[simp] theorem slM_lst {lo hi : Option Int} {ds : List PyData} : slM lo hi (.lst ds) = some (.lst (cutD ds lo hi)) := rfl
@[simp] theorem slM_list {lo hi : Option Int} {ds : List PyData} : slM lo hi (.v (.list ds)) = some (.lst (cutD ds lo hi)) := rfl
@[simp] theorem zod : zbT [] ρ = some ([], ρ) := rfl
@[simp] theorem takeA_t {os : List Opd} : zbT (.t m :: os) ρ = (zbT os ρ).bind fun q => some (m :: q.1, q.2) := rfl
@[simp] theorem takeA_p {os : List Opd} : zbT (.p i :: os) ρ = (at? ρ i).bind fun m => (zbT os (ρ.set i none)).bind fun q => some (m :: q.1, q.2) := rfl
@[simp] theorem putA_nil {ms : List M} : zgq [] ms ρ = ρ := by cases ms <;> rfl
@[simp] theorem putA_t {os : List Opd} {m' : M} {ms : List M} : zgq (.t m :: os) (m' :: ms) ρ = zgq os ms ρ := rfl
@[simp] theorem putA_p {os : List Opd} {m' : M} {ms : List M} : zgq (.p i :: os) (m' :: ms) ρ = zgq os ms (ρ.set i (some m')) := rfl
@[simp] theorem vFn_eq {g : FF} {fa : FA} : vFn g fa ρ = (fa ρ).bind fun p => (zbT p.1 p.2).bind fun q => (g q.1).bind fun r => some (.t r.1, zgq p.1 r.2 q.2) := rfl
@[simp] theorem vNext_eq : zbW ρ = some (.nx ρ) := rfl
@[simp] theorem ziP {f g : FS} : za2 f g ρ = (f ρ).bind fun o => match o with
 | .nx ρ1 => g ρ1
 | o => some o := rfl
@[simp] theorem vIfS_eq {c : FT} {f g : FS} : ze3 c f g ρ = (c ρ).bind fun p => if p.1 = true then f p.2 else g p.2 := rfl
@[simp] theorem zjX {f : FE} : zbX f ρ = (f ρ).bind fun p => some (.nx p.2) := rfl
@[simp] theorem movO_t : zjT (.t m) ρ = some (m, ρ) := rfl
@[simp] theorem movO_p : zjT (.p i) ρ = (at? ρ i).bind fun m => some (m, ρ.set i none) := rfl
@[simp] theorem vRet_eq {f : FE} : zc4 f ρ = (f ρ).bind fun p => (zjT p.1 p.2).bind fun q => some (.rt q.1 q.2) := rfl
@[simp] theorem setN_eq : zfJ i m ρ = if i < ρ.length then some (ρ.set i (some m)) else none := rfl
@[simp] theorem ze8 {f : FE} : zbL i f ρ = (f ρ).bind fun p => (zjT p.1 p.2).bind fun q => (zfJ i q.1 q.2).bind fun ρ' => some (.nx ρ') := rfl
@[simp] theorem zoe {d : PyData} : zad i d ρ = zfJ i (.v d) ρ := rfl
@[simp] theorem vgNil_eq : zbe [] ρ = some ρ := rfl
@[simp] theorem zof {f : FG} {g : FGs} {d : PyData} {ds : List PyData} : zam f g (d :: ds) ρ = (f d ρ).bind fun ρ1 => g ds ρ1 := rfl
@[simp] theorem vgTup_eq {n : Nat} {g : FGs} {ds : List PyData} : zbb n g (.tuple ds) ρ = if ds.length = n then g ds ρ else none := rfl
@[simp] theorem vAsg_eq {f : FE} {g : FG} : zmr f g ρ = (f ρ).bind fun p => (zcA p.1 p.2).bind fun q => (g q.1 q.2).bind fun ρ' => some (.nx ρ') := rfl
@[simp] theorem parO_eq {o1 : Opd} {m2 : M} : parO i j [o1, .t m2] ρ = (zjT o1 ρ).bind fun q1 => (zfJ i q1.1 q1.2).bind fun ρ1 => (zfJ j m2 ρ1).bind fun ρ2 => some (.nx ρ2) := rfl
@[simp] theorem vPar_eq {fa : FA} : zlJ i j fa ρ = (fa ρ).bind fun p => parO i j p.1 p.2 := rfl
@[simp] theorem itD_tup {ds : List PyData} : itD (.tuple ds) = some ds := rfl
@[simp] theorem itD_list {ds : List PyData} : itD (.list ds) = some ds := rfl
@[simp] theorem viSeq_eq {f : FE} : zbE f ρ = (f ρ).bind fun p => (zcA p.1 p.2).bind fun q => (itD q.1).bind fun ds => some (ds, q.2) := rfl
@[simp] theorem viArg_eq {g : List M → Option (List PyData)} {fa : FA} : zbf g fa ρ = (fa ρ).bind fun p => (zes p.2 p.1).bind fun ms => (g ms).bind fun ds => some (ds, p.2) := rfl
@[simp] theorem rng1_eq {k : Int} : zd4 [.v (.int k)] = if zbq k = true then some (zaK 0 k) else none := rfl
@[simp] theorem rng2_eq {a k : Int} : znR [.v (.int a), .v (.int k)] = if zbq a = true ∧ zbq k = true then some (zaK a k) else none := rfl
@[simp] theorem zcf {fi : FI} {fg : FG} {fb : FS} : zgt fi fg fb ρ = (fi ρ).bind fun p => zfi fg fb p.1 p.2 := rfl
@[simp] theorem forL_nil {fg : FG} {fb : FS} : zfi fg fb [] ρ = some (.nx ρ) := rfl
@[simp] theorem cap_eq : cap ρ j = match at? ρ j with
 | some (.v d) => some (.t (.v d))
 | some _ => some (.p j)
 | none => none := rfl
@[simp] theorem caps_nil : caps ρ [] = some [] := rfl
@[simp] theorem zog {js : List Nat} : caps ρ (j :: js) = (cap ρ j).bind fun o => (caps ρ js).bind fun os => some (o :: os) := rfl
@[simp] theorem vLC_eq {n : Nat} {js : List Nat} {fi : FI} {fg : FG} {ft : FT} {fe : FE} : vLC n js fi fg ft fe ρ = (fi ρ).bind fun p => (caps p.2 js).bind fun os => (zbT os p.2).bind fun q =>
 (zaY fg ft fe p.1 (List.replicate n none ++ q.1.map some) []).bind fun r => (fin (List.replicate js.length true) q.1 (r.2.drop n)).bind fun ms' => some (.t (.lst r.1), zgq os ms' q.2) := rfl
@[simp] theorem fin_nil : fin [] [] ρ = some [] := by cases ρ <;> rfl
@[simp] theorem fin_t {ps : List Bool} {ms : List M} {m' : M} : fin (true :: ps) (m :: ms) (some m' :: ρ) = (fin ps ms ρ).bind fun ms' => some (m' :: ms') := rfl
@[simp] theorem fin_f {ps : List Bool} {ms : List M} {d : PyData} : fin (false :: ps) (.v d :: ms) (x :: ρ) = (fin ps ms ρ).bind fun ms' => some (.v d :: ms') := rfl
@[simp] theorem vApp_eq {fa : FA} : zhM i fa ρ = (at? ρ i).bind fun m0 => match m0 with
 | .lst _ => (fa ρ).bind fun p => match p.1 with
  | [o] => (zcA o p.2).bind fun q => (at? q.2 i).bind fun m => match m with
   | .lst ds => if ds.length < lim then some (.t (.v .none), q.2.set i (some (.lst (ds ++ [q.1])))) else none
   | _ => none
  | _ => none
 | _ => none := rfl
@[simp] theorem vPut_eq {fk fe : FE} : zmu i fk fe ρ = (fe ρ).bind fun p => (zcA p.1 p.2).bind fun q => (at? q.2 i).bind fun m0 => match m0 with
 | .v _ => none
 | _ => (fk q.2).bind fun r => (peek r.2 r.1).bind fun mk => (at? r.2 i).bind fun m => match m, mk with
  | .dic kvs, .v kd => (zgm kd).bind fun k => if kvs.length < lim then some (.nx (r.2.set i (some (.dic (putD kvs k q.1))))) else none
  | .lst ds, .v (.int k) => (ixN ds.length k).bind fun j => some (.nx (r.2.set i (some (.lst (ds.set j q.1)))))
  | _, _ => none := rfl
theorem ze9 {ps : List Bool} {n : Nat} {fb : FS} {ms : List M} : zev ps n fb ms = if ms.length = ps.length then (fb (ms.map some ++ List.replicate (n - ms.length) none)).bind fun o => match o with
 | .rt m ρ => (fin ps ms ρ).bind fun ms' => some (m, ms')
 | .nx ρ => (fin ps ms ρ).bind fun ms' => some (.v .none, ms')
 | _ => none
 else none := rfl
@[simp] theorem int_eq {C : Int → Int → Bool} {g : Int → Int → PyData} {a b : Int} : zhL C g (.v (.int a)) (.v (.int b)) = if C a b = true then some (.v (g a b)) else none := rfl
@[simp] theorem sub_eq {a b : Int} : subM (.v (.int a)) (.v (.int b)) = some (.v (.int (a - b))) := rfl
@[simp] theorem add_int {a b : Int} : zet (.v (.int a)) (.v (.int b)) = some (.v (.int (a + b))) := rfl
@[simp] theorem add_tup {a b : List PyData} : zet (.v (.tuple a)) (.v (.tuple b)) = if a.length + b.length ≤ lim then some (.v (.tuple (a ++ b))) else none := rfl
@[simp] theorem add_lst {a b : List PyData} : zet (.lst a) (.lst b) = if a.length + b.length ≤ lim then some (.lst (a ++ b)) else none := rfl
@[simp] theorem mul_eq {a b : Int} : mulM (.v (.int a)) (.v (.int b)) = if decide ((-(2 ^ 64) < a ∧ a < 2 ^ 64) ∨ (-(2 ^ 64) < b ∧ b < 2 ^ 64)) = true then some (.v (.int (a * b))) else none := rfl
@[simp] theorem mod_eq {a b : Int} : zhz (.v (.int a)) (.v (.int b)) = if decide (0 < b) = true then some (.v (.int (a % b))) else none := rfl
@[simp] theorem fdiv_eq {a b : Int} : ziu (.v (.int a)) (.v (.int b)) = if decide (0 < b ∧ b < 1073741824) = true then some (.v (.int (a / b))) else none := rfl
@[simp] theorem gt_eq {a b : Int} : gtM (.v (.int a)) (.v (.int b)) = some (.v (.bool (decide (b < a)))) := rfl
@[simp] theorem lt_eq {a b : Int} : ltM (.v (.int a)) (.v (.int b)) = some (.v (.bool (decide (a < b)))) := rfl
@[simp] theorem ge_eq {a b : Int} : geM (.v (.int a)) (.v (.int b)) = some (.v (.bool (decide (b ≤ a)))) := rfl
@[simp] theorem lt_tup {a b : List PyData} : ltM (.v (.tuple a)) (.v (.tuple b)) = (zfh a).bind fun is => (zfh b).bind fun js => some (.v (.bool (HT.lexLt is js))) := rfl
@[simp] theorem ge_tup {a b : List PyData} : geM (.v (.tuple a)) (.v (.tuple b)) = (zfh a).bind fun is => (zfh b).bind fun js => some (.v (.bool (!HT.lexLt is js))) := rfl
@[simp] theorem asD_v {d : PyData} : asD (.v d) = some d := rfl
@[simp] theorem ziQ {d : List PyData} : asD (.lst d) = some (.list d) := rfl
theorem zkG {neg : Bool} {m1 m2 : M} : eqM neg m1 m2 = (asD m1).bind fun d => (asD m2).bind fun e => if zkv d e = true then some (.v (.bool (if neg then !PyData.eqv d e else PyData.eqv d e))) else none := rfl
@[simp] theorem eq_int {a b : Int} : eqM false (.v (.int a)) (.v (.int b)) = some (.v (.bool (decide (a = b)))) := by
 have h : eqM false (.v (.int a)) (.v (.int b)) = some (.v (.bool (a == b))) := rfl
 rw [h, Bool.beq_eq_decide_eq]
@[simp] theorem ne_int {a b : Int} : eqM true (.v (.int a)) (.v (.int b)) = some (.v (.bool (!decide (a = b)))) := by
 have h : eqM true (.v (.int a)) (.v (.int b)) = some (.v (.bool (!(a == b)))) := rfl
 rw [h, Bool.beq_eq_decide_eq]
@[simp] theorem eq_bool {a b : Bool} : eqM false (.v (.bool a)) (.v (.bool b)) = some (.v (.bool (a == b))) := rfl
@[simp] theorem ne_bool {a b : Bool} : eqM true (.v (.bool a)) (.v (.bool b)) = some (.v (.bool (!(a == b)))) := rfl
@[simp] theorem zgx {ds : List PyData} : zd1 [.v (.tuple ds)] = some (.v (.int ds.length)) := rfl
@[simp] theorem len_list {ds : List PyData} : zd1 [.v (.list ds)] = some (.v (.int ds.length)) := rfl
@[simp] theorem ziR {ds : List PyData} : zd1 [.lst ds] = some (.v (.int ds.length)) := rfl
@[simp] theorem len_dic {ds : List (Key × PyData)} : zd1 [.dic ds] = some (.v (.int ds.length)) := rfl
@[simp] theorem tupM_lst {ds : List PyData} : zd2 [.lst ds] = some (.v (.tuple ds)) := rfl
@[simp] theorem zoh {ds : List PyData} : zd2 [.v (.list ds)] = some (.v (.tuple ds)) := rfl
@[simp] theorem tupM_tup {ds : List PyData} : zd2 [.v (.tuple ds)] = some (.v (.tuple ds)) := rfl
@[simp] theorem lstM_tup {ds : List PyData} : zgb [.v (.tuple ds)] = some (.lst ds) := rfl
@[simp] theorem abs_eq {a : Int} : absM [.v (.int a)] = some (.v (.int (if a < 0 then -a else a))) := rfl
@[simp] theorem int1_int {a : Int} : zhD [.v (.int a)] = some (.v (.int a)) := rfl
@[simp] theorem zoi {a : Bool} : zhD [.v (.bool a)] = some (.v (.int (if a then 1 else 0))) := rfl
@[simp] theorem zlW {a b : Int} : zky [.v (.int a), .v (.int b)] = some (.v (.int (if b < a then b else a))) := rfl
@[simp] theorem zlX {a b : Int} : zgo [.v (.int a), .v (.int b)] = some (.v (.int (if b > a then b else a))) := rfl
@[simp] theorem ziS {any : Bool} {ds : List PyData} : allM any [.lst ds] = (znH ds).bind fun bs => some (.v (.bool (if any then bs.any id else bs.all id))) := rfl
end
theorem zaq {f g : FS} {ρ ρ1 : Ev} (h : f ρ = some (.nx ρ1)) : za2 f g ρ = g ρ1 := by rw [ziP, h]; rfl
theorem ziT {f g : FS} {ρ ρ1 : Ev} {m : M} (h : f ρ = some (.rt m ρ1)) : za2 f g ρ = some (.rt m ρ1) := by rw [ziP, h]; rfl
theorem zbs {ps : List Bool} {n : Nat} {fb : FS} {ms : List M} {m : M} {ρ : Ev} {ms' : List M} (hl : ms.length = ps.length) (h : fb (ms.map some ++ List.replicate (n - ms.length) none) = some (.rt m ρ)) (hf : fin ps ms ρ = some ms') : zev ps n fb ms = some (m, ms') := by
 rw [ze9, if_pos hl, h]
 show (fin ps ms ρ).bind _ = _
 rw [hf]; rfl
theorem zcC {fg : FG} {fb : FS} {P : List PyData → Ev → Prop} : ∀ (ds : List PyData) (ρ : Ev), P ds ρ → (∀ d ds ρ, P (d :: ds) ρ → ∃ ρ1 ρ2, fg d ρ = some ρ1 ∧ fb ρ1 = some (.nx ρ2) ∧ P ds ρ2) → ∃ ρ', zfi fg fb ds ρ = some (.nx ρ') ∧ P [] ρ'
 | [], ρ, h, _ => ⟨ρ, rfl, h⟩
 | d :: ds, ρ, h, step => by
  obtain ⟨ρ1, ρ2, e1, e2, h2⟩ := step d ds ρ h
  obtain ⟨ρ', e3, h3⟩ := zcC ds ρ2 h2 step
  refine ⟨ρ', ?_, h3⟩
  show (fg d ρ).bind _ = _
  rw [e1]
  show (fb ρ1).bind _ = _
  rw [e2]
  exact e3
theorem zfa {fg : FG} {fb : FS} {P : List PyData → Ev → Prop} {Q : M → Ev → Prop} : ∀ (ds : List PyData) (ρ : Ev), P ds ρ → (∀ d ds ρ, P (d :: ds) ρ → ∃ ρ1, fg d ρ = some ρ1 ∧ ((∃ ρ2, fb ρ1 = some (.nx ρ2) ∧ P ds ρ2) ∨ ∃ m ρ2, fb ρ1 = some (.rt m ρ2) ∧ Q m ρ2)) →
  (∃ ρ', zfi fg fb ds ρ = some (.nx ρ') ∧ P [] ρ') ∨ ∃ m ρ', zfi fg fb ds ρ = some (.rt m ρ') ∧ Q m ρ'
 | [], ρ, h, _ => .inl ⟨ρ, rfl, h⟩
 | d :: ds, ρ, h, step => by
  obtain ⟨ρ1, e1, h1⟩ := step d ds ρ h
  rcases h1 with ⟨ρ2, e2, h2⟩ | ⟨m, ρ2, e2, h2⟩
  ·have key : zfi fg fb (d :: ds) ρ = zfi fg fb ds ρ2 := by
    show (fg d ρ).bind _ = _
    rw [e1]
    show (fb ρ1).bind _ = _
    rw [e2]; rfl
   rw [key]
   exact zfa ds ρ2 h2 step
  ·refine .inr ⟨m, ρ2, ?_, h2⟩
   show (fg d ρ).bind _ = _
   rw [e1]
   show (fb ρ1).bind _ = _
   rw [e2]; rfl
theorem zdL {fg : FG} {ft : FT} {fe : FE} {P : List PyData → List PyData → Ev → Prop} : ∀ (ds : List PyData) (ρ : Ev) (acc : List PyData), P ds acc ρ →
  (∀ d ds acc ρ, P (d :: ds) acc ρ → acc.length < lim ∧ ∃ ρ1 b ρ2, fg d ρ = some ρ1 ∧ ft ρ1 = some (b, ρ2) ∧ ((b = false ∧ P ds acc ρ2) ∨ (b = true ∧ ∃ o ρ3 e ρ4, fe ρ2 = some (o, ρ3) ∧ zcA o ρ3 = some (e, ρ4) ∧ P ds (acc ++ [e]) ρ4))) → ∃ acc' ρ', zaY fg ft fe ds ρ acc = some (acc', ρ') ∧ P [] acc' ρ'
 | [], ρ, acc, h, _ => ⟨acc, ρ, rfl, h⟩
 | d :: ds, ρ, acc, h, step => by
  obtain ⟨hl, ρ1, b, ρ2, e1, e2, h2⟩ := step d ds acc ρ h
  rcases h2 with ⟨rfl, h2⟩ | ⟨rfl, o, ρ3, e, ρ4, e3, e4, h2⟩
  ·obtain ⟨acc', ρ', e5, h5⟩ := zdL ds ρ2 acc h2 step
   refine ⟨acc', ρ', ?_, h5⟩
   show (fg d ρ).bind _ = _
   rw [e1]
   show (ft ρ1).bind _ = _
   rw [e2]
   exact e5
  ·obtain ⟨acc', ρ', e5, h5⟩ := zdL ds ρ4 (acc ++ [e]) h2 step
   refine ⟨acc', ρ', ?_, h5⟩
   show (fg d ρ).bind _ = _
   rw [e1]
   show (ft ρ1).bind _ = _
   rw [e2]
   show (fe ρ2).bind _ = _
   rw [e3]
   show (zcA o ρ3).bind _ = _
   rw [e4]
   show (if acc.length < lim then _ else _) = _
   rw [if_pos hl]
   exact e5
end VL
end
section
namespace VL
open PySem PySem.Spec L2 PyProof.Rows
section
variable {X : Cx} {pos : Pos} {pin : List Nat}
def zkH (i : Nat) (fa : FA) : FE := fun ρ => (at? ρ i).bind fun m0 => match m0 with
 | .lst _ => (fa ρ).bind fun p => match p.1 with
  | [.t (.lst es)] => (at? p.2 i).bind fun m => match m with
   | .lst ds => if ds.length + es.length ≤ lim then some (.t (.v .none), p.2.set i (some (.lst (ds ++ es)))) else none
   | _ => none
  | _ => none
 | _ => none
theorem zlY {i : Nat} {fa : FA} {σ : L2.St} {H : Hp} {Q : VK} (hq : vE X.K (zkH i fa) σ H Q) : tBM X.K "list" zgc (zdC i) (vA X.K fa) σ H Q := by
 obtain ⟨Z, ρ, F, o, ρ', S, w, e, q⟩ := hq
 obtain ⟨m0, e0, e⟩ := oB e
 split at e
 ·rename_i ds0
  obtain ⟨x, G, h1, h2, _⟩ := S.get (zas.mp e0)
  obtain ⟨a, xs0, rfl, ha, _⟩ := (show Ro X.K H Z x (.lst ds0) from ⟨G, h2⟩).lst
  refine ⟨.ref a, h1, .inl ⟨rfl, _, SqL.of ha⟩, ?_⟩
  obtain ⟨⟨os, ρ1⟩, e1, e⟩ := oB e
  refine ⟨Z, ρ, F, os, ρ1, S, w, e1, fun xs H1 Z1 F1 G1 S1 O1 f1 => ?_⟩
  dsimp only at e
  split at e
  ·rename_i es
   obtain ⟨m, e3, e⟩ := oB e
   split at e
   ·rename_i ds
    split at e
    ·rename_i hl
     cases e
     cases O1 with
     | cons p1 r1 =>
      cases r1
      rw [List.append_nil] at f1
      cases p1 with
      | t p2 =>
       cases p2 with
       | lst hz fz =>
        have f2 := f1.sub (zaC f1.nd).1 fun b hb => lL _ hb
        obtain ⟨x', G', k1, k2, k3⟩ := zmt S1 f2 e3
        rw [h1] at k1; cases k1
        cases k2 with
        | lst hb fb =>
         obtain ⟨g, _, k4⟩ := k3 a (.lst (_ ++ _)) lS
         obtain ⟨F3, S3, f3⟩ := k4 (.lst (ds ++ es)) [a] (fun _ h => h) (List.nodup_cons.mpr ⟨List.not_mem_nil, List.nodup_nil⟩) (.lst zay ((fb.append fz).mono g))
         exact ⟨a, _, _, _, rfl, rfl, hb, hz, Nat.le_of_lt (zdZ (by rw [fb.length, fz.length]; exact hl)), q .non _ Z1 F3 [] S3 (.t (.v .non)) f3.nil⟩
    ·cases e
   ·cases e
  ·cases e
 ·cases e
theorem zkI (i : Nat) {e : Expr} {es : List Expr} {fa : FA} {x : Str} {p1 p2 : Pos} (ha : WA X (e :: es) fa) (hpe : ∀ (to : TE) (t : TA), PE X (.Name x p1) to → PA X (e :: es) t → PE X (.Call (.Attribute (.Name x p1) "extend" p2) (e :: es) [] pos) (tBM X.K "list" zgc to t)) (hv : PE X (.Name x p1) (zdC i)) : WE X (.Call (.Attribute (.Name x p1) "extend" p2) (e :: es) [] pos) (zkH i fa) := ⟨za4 (hpe _ _ hv ha.h) fun _ _ _ hq => zlY hq⟩
end
end VL
end
section
namespace VL
open PySem PySem.Spec L2 PyProof.Rows
section
variable {K : PySem.W.Frag} {H : Hp} {Z : Zs}
theorem Fzs.erase : ∀ {xs : List V} {ds : List PyData} (i : Nat), Fzs K H Z xs ds → Fzs K H Z (xs.eraseIdx i) (ds.eraseIdx i)
 | _, _, _, .nil => .nil
 | _, _, 0, .cons _ r => r
 | _, _, i + 1, .cons h r => .cons h (Fzs.erase i r)
end
section
variable {X : Cx} {pos : Pos} {pin : List Nat}
def ziU (i : Nat) (fa : FA) : FE := fun ρ => (at? ρ i).bind fun m0 => match m0 with
 | .lst _ => (fa ρ).bind fun p => match p.1 with
  | [o] => (peek p.2 o).bind fun mk => match mk with
   | .v (.int k) => (at? p.2 i).bind fun m => match m with
    | .lst ds => if k < -(2 ^ 63) ∨ 2 ^ 63 ≤ k then none else (seqIndex? k ds.length).bind fun n => (ds[n]?).bind fun d => some (.t (.v d), p.2.set i (some (.lst (ds.eraseIdx n))))
    | _ => none
   | _ => none
  | _ => none
 | _ => none
theorem zjY {i : Nat} {fa : FA} {σ : L2.St} {H : Hp} {Q : VK} (hq : vE X.K (ziU i fa) σ H Q) : tBM X.K "list" zh7 (zdC i) (vA X.K fa) σ H Q := by
 obtain ⟨Z, ρ, F, o, ρ', S, w, e, q⟩ := hq
 obtain ⟨m0, e0, e⟩ := oB e
 split at e
 ·rename_i ds0
  obtain ⟨x, G, h1, h2, _⟩ := S.get (zas.mp e0)
  obtain ⟨a, xs0, rfl, ha, _⟩ := (show Ro X.K H Z x (.lst ds0) from ⟨G, h2⟩).lst
  refine ⟨.ref a, h1, .inl ⟨rfl, _, SqL.of ha⟩, ?_⟩
  obtain ⟨⟨os, ρ1⟩, e1, e⟩ := oB e
  refine ⟨Z, ρ, F, os, ρ1, S, w, e1, fun xs H1 Z1 F1 G1 S1 O1 f1 => ?_⟩
  dsimp only at e
  split at e
  ·rename_i o1
   obtain ⟨mk, e2, e⟩ := oB e
   split at e
   ·rename_i k
    obtain ⟨m, e3, e⟩ := oB e
    split at e
    ·rename_i ds
     split at e
     ·cases e
     ·rename_i hk
      obtain ⟨n, e4, e⟩ := oB e
      obtain ⟨d, e5, e⟩ := oB e
      cases e
      cases O1 with
      | cons p1 r1 =>
       cases r1
       rw [List.append_nil] at f1
       obtain ⟨G2, p2⟩ := p1.peek S1 e2
       cases p2 with
       | v fz =>
        cases fz
        have f2 := f1.sub (zaC f1.nd).1 fun b hb => lL _ hb
        obtain ⟨x', G', k1, k2, k3⟩ := zmt S1 f2 e3
        rw [h1] at k1; cases k1
        cases k2 with
        | lst hb fb =>
         obtain ⟨y, hy, fy⟩ := fb.get' e5
         obtain ⟨g, _, k4⟩ := k3 a (.lst (_)) lS
         obtain ⟨F3, S3, f3⟩ := k4 (.lst (ds.eraseIdx n)) [a] (fun _ h => h) (List.nodup_cons.mpr ⟨List.not_mem_nil, List.nodup_nil⟩) (.lst zay ((fb.erase n).mono g))
         exact ⟨a, _, k, n, y, rfl, rfl, hb, by omega, by omega, by rw [fb.length]; exact e4, hy, q y _ Z1 F3 [] S3 (.t (.v (fy.mono g))) f3.nil⟩
    ·cases e
   ·cases e
  ·cases e
 ·cases e
theorem zlZ (i : Nat) {e : Expr} {es : List Expr} {fa : FA} {x : Str} {p1 p2 : Pos} (ha : WA X (e :: es) fa) (hpe : ∀ (to : TE) (t : TA), PE X (.Name x p1) to → PA X (e :: es) t → PE X (.Call (.Attribute (.Name x p1) "pop" p2) (e :: es) [] pos) (tBM X.K "list" zh7 to t)) (hv : PE X (.Name x p1) (zdC i)) : WE X (.Call (.Attribute (.Name x p1) "pop" p2) (e :: es) [] pos) (ziU i fa) := ⟨za4 (hpe _ _ hv ha.h) fun _ _ _ hq => zjY hq⟩
def zgy : V → List V → Hp → VK → Prop := fun x vs H Q => ∃ l xs i k y, x = .ref l ∧ vs = [.int i, y] ∧ H l = some (.lst xs) ∧ i = ((k : Nat) : Int) ∧ k ≤ xs.length ∧ xs.length < 2 ^ 62 ∧ xs.length < sizeLine ∧ Q .non (upd H l (.lst (xs.take k ++ y :: xs.drop k)))
theorem ziV : MtM X "list.insert" zgy := by
 intro pins s σ H x vs v us Q I rx rv h
 obtain ⟨l, xs, i, k, y, rfl, rfl, hH, hi, h1, h2, hz, q⟩ := h
 cases rx
 obtain ⟨ui, u, rfl, ri, ru⟩ := zaW.two rv
 obtain ⟨t, rfl⟩ := ri
 obtain ⟨z, its, n, r, hl, e⟩ := I.zgb hH
 have hf : Builtin.List.listFitsIndex i = true := fitsIndex_both (by omega) (by omega)
 have hg : ¬ (!Builtin.List.listFitsIndex i) = true := by rw [hf]; exact Bool.false_ne_true
 have hs : its.toArray.size ≤ sizeLine := by rw [List.size_toArray]; omega
 refine call_meets F.slot_list_insert ⟨_, e, rfl⟩ F.entry_list_insert (F.args_list_insert_3 _ _ _) (AutoSeq1.list_insert_list_int_val_1 l its.toArray n i t u hg hs) ⟨e, ?_⟩
 refine ⟨.non, _, I.zm8 (its' := its.take k ++ u :: its.drop k) hH e ?_ ((r.take k).append (.cons ru (r.drop k))) ?_, rfl, q⟩
 ·have hm : (if i < 0 then (i + (its.toArray.size : Int)).toNat else min i.toNat its.toArray.size) = k := by
   rw [if_neg (by omega), List.size_toArray]
   omega
  show (its.toArray.extract 0 (if i < 0 then (i + (its.toArray.size : Int)).toNat else min i.toNat its.toArray.size)).push u ++ its.toArray.extract (if i < 0 then (i + (its.toArray.size : Int)).toNat else min i.toNat its.toArray.size) = _
  rw [hm]
  apply Array.toList_inj.mp
  simp
  exact List.take_of_length_le (by rw [List.length_drop]; exact Nat.le_refl _)
 ·simp
  omega
def zoj (i : Nat) (fa : FA) : FE := fun ρ => (at? ρ i).bind fun m0 => match m0 with
 | .lst _ => (fa ρ).bind fun p => match p.1 with
  | [o, o2] => (peek p.2 o).bind fun mk => match mk with
   | .v (.int k) => (zcA o2 p.2).bind fun q => (at? q.2 i).bind fun m => match m with
    | .lst ds => if 0 ≤ k ∧ k.toNat ≤ ds.length ∧ ds.length < lim then some (.t (.v .none), q.2.set i (some (.lst (ds.take k.toNat ++ q.1 :: ds.drop k.toNat)))) else none
    | _ => none
   | _ => none
  | _ => none
 | _ => none
theorem zl0 {i : Nat} {fa : FA} {σ : L2.St} {H : Hp} {Q : VK} (hq : vE X.K (zoj i fa) σ H Q) : tBM X.K "list" zgy (zdC i) (vA X.K fa) σ H Q := by
 obtain ⟨Z, ρ, F, o, ρ', S, w, e, q⟩ := hq
 obtain ⟨m0, e0, e⟩ := oB e
 split at e
 ·rename_i ds0
  obtain ⟨x, G, h1, h2, _⟩ := S.get (zas.mp e0)
  obtain ⟨a, xs0, rfl, ha, _⟩ := (show Ro X.K H Z x (.lst ds0) from ⟨G, h2⟩).lst
  refine ⟨.ref a, h1, .inl ⟨rfl, _, SqL.of ha⟩, ?_⟩
  obtain ⟨⟨os, ρ1⟩, e1, e⟩ := oB e
  refine ⟨Z, ρ, F, os, ρ1, S, w, e1, fun xs H1 Z1 F1 G1 S1 O1 f1 => ?_⟩
  dsimp only at e
  split at e
  ·rename_i o1 o2
   obtain ⟨mk, e2, e⟩ := oB e
   split at e
   ·rename_i k
    obtain ⟨⟨d, ρ2⟩, e4, e⟩ := oB e
    obtain ⟨m, e3, e⟩ := oB e
    split at e
    ·rename_i ds
     split at e
     ·rename_i hk
      cases e
      cases O1 with
      | cons p1 r1 =>
       cases r1 with
       | cons p3 r2 =>
        cases r2
        rw [List.append_nil] at f1
        obtain ⟨G2, p2⟩ := p1.peek S1 e2
        cases p2 with
        | v fz =>
         cases fz
         have f2 := f1.sub (F' := F1 ++ _) (by
          obtain ⟨n1, n2, n3⟩ := zaC f1.nd
          exact zav n1 (zaC n2).2.1 fun b hb h => n3 b hb (lR _ h)) fun b hb => by
           rcases lM hb with h | h
           ·exact lL _ h
           ·exact lR _ (lR _ h)
         obtain ⟨Z2, F2, S2, z2, f3, _⟩ := zdb S1 p3 f2 e4
         obtain ⟨x', G', k1, k2, k3⟩ := zmt S2 f3 e3
         rw [h1] at k1; cases k1
         cases k2 with
         | lst hb fb =>
          obtain ⟨g, _, k4⟩ := k3 a (.lst (_)) lS
          obtain ⟨F3, S3, f3⟩ := k4 (.lst (ds.take k.toNat ++ d :: ds.drop k.toNat)) [a] (fun _ h => h) (List.nodup_cons.mpr ⟨List.not_mem_nil, List.nodup_nil⟩) (.lst zay (((fb.take k.toNat).append (.cons z2 (fb.drop k.toNat))).mono g))
          have hl := fb.length
          have h5 : lim < 2 ^ 62 := by decide
          exact ⟨a, _, k, k.toNat, _, rfl, rfl, hb, by omega, by omega, by omega, zdZ (by omega), q .non _ Z2 F3 [] S3 (.t (.v .non)) f3.nil⟩
     ·cases e
    ·cases e
   ·cases e
  ·cases e
 ·cases e
theorem zok (i : Nat) {e : Expr} {es : List Expr} {fa : FA} {x : Str} {p1 p2 : Pos} (ha : WA X (e :: es) fa) (hpe : ∀ (to : TE) (t : TA), PE X (.Name x p1) to → PA X (e :: es) t → PE X (.Call (.Attribute (.Name x p1) "insert" p2) (e :: es) [] pos) (tBM X.K "list" zgy to t)) (hv : PE X (.Name x p1) (zdC i)) : WE X (.Call (.Attribute (.Name x p1) "insert" p2) (e :: es) [] pos) (zoj i fa) := ⟨za4 (hpe _ _ hv ha.h) fun _ _ _ hq => zl0 hq⟩
end
end VL
end
section
namespace VL
open PySem PySem.Spec L2 PyProof.Rows
end VL
end
section
namespace VL
open PySem PySem.Spec L2 PyProof.Rows
end VL
end
section
namespace VL
open PySem PySem.Spec L2 PyProof.Rows
end VL
end
section
namespace L2
open PySem PySem.Spec PyProof.Rows
theorem zdG : typeLookup (.type "zip") "__getattr__" = pure none := by rw [typeLookup_type, builtinLookup_eq_fast]; kernel_rfl
theorem zfb : typeLookup (.type "zip") "keys" = pure none := by rw [typeLookup_type, builtinLookup_eq_fast]; kernel_rfl
theorem zb7 : entryFor table "zip.__getattribute__" = some Builtin.«object.__getattribute__» :=
 entryFor_alias (id' := "object.__getattribute__") (by kernel_rfl) (by decide +kernel) (by decide +kernel) (by kernel_rfl)
theorem zjZ (a : Addr) (xs : Array Value) (sl : Array (Option Value)) (u : Tok) :
  Meets (Builtin.«object.__getattribute__» ⟨[.ref a, .str "keys" u], []⟩) (fun A R s => s.heap.get? a = some { cls := .type "zip", dict := none, data := .fields xs, slots := sl } ∧ raisesAttr (.ref a) "keys" A R s) :=
 Meets.of_wp fun prog w A R s hs => by
  obtain ⟨hp, g, d, tk, os⟩ := s
  obtain ⟨hx, hs⟩ := hs
  have hmiss := zfb
  have hname : (["__module__", "__name__", "__qualname__", "__doc__", "__annotations__"] : List Str).contains "keys" = false := by decide
  have hT : (⟨hp, g, d, tk, os⟩ : Shared).TypeIs (.ref a) "zip" := ⟨_, hx, rfl⟩
  unfold Builtin.«object.__getattribute__»
  repeat (any_goals (first | assumption | wp_step))
  try simp only [hname, Bool.false_eq_true, if_false]
  try repeat (any_goals (first | assumption | wp_step))
  exact wpAny_raiseAttrError hs.1 hs.2 (attrMsg_fits (by decide +kernel) (by decide))
theorem zhG {prog : Program} {w : World} {A : Around} {E : Value → Shared → Prop} {s : Shared} {a : Addr} {xs : Array Value} {sl : Array (Option Value)} {Q : Option Value → Shared → Prop}
  (hx : s.heap.get? a = some { cls := .type "zip", dict := none, data := .fields xs, slots := sl }) (hA : A.handled = none)
  (h : ∀ h' tk, (∀ b o, s.heap.get? b = some o → h'.get? b = some o) → Q none { s with heap := h', toks := tk }) : wpAny (model prog w) A (getAttr? (.ref a) "keys") Q E s := by
 obtain ⟨hp, g, d, tk, os⟩ := s
 have hT : ∀ tk', (⟨hp, g, d, tk', os⟩ : Shared).TypeIs (.ref a) "zip" := fun _ => ⟨_, hx, rfl⟩
 have f1 := sub_AttributeError
 have f3 := F.slot_zip_getattribute.lookup
 have f4 := F.slot_zip_getattribute.bind (.ref a)
 have f5 := zdG
 unfold getAttr? getAttrBy? getAttrBy
 repeat (any_goals (first | assumption | exact hT _ | ((with_reducible show wpAny _ _ (call (Value.builtin "zip.__getattribute__") _ _) _ _ _); refine call_meets F.slot_zip_getattribute (hT _) zb7 (F.args_zip_getattribute_2 _ _) (zjZ a xs sl _) ⟨hx, hA, fun h' tk' e hx' => ?_⟩) | wp_step))
 obtain ⟨t', u', he⟩ := hx'.there
 show wpAny _ _ (getattributeRaised _ _ _ _ _ _ _) _ _ _
 unfold getattributeRaised
 repeat (any_goals (first | assumption | wp_step))
 exact h h' tk' hx'.keeps
end L2
end
section
namespace L2
open PySem PySem.Spec PyProof.Rows
section
variable {prog : Program} {w : World} {A : Around} {E : Value → Shared → Prop} {s : Shared}
theorem zdf {a : Addr} {Q : Option Obj → Shared → Prop} (h : Q (s.heap.get? a) s) : wpAny (model prog w) A (loadIfAlive a) Q E s := fun _ _ _ => h
abbrev IsZ2 (h : Heap) (z TI TO : Addr) (f0 f1 : Value) : Prop :=
 h.get? z = some { cls := .type "zip", dict := none, data := .fields #[f0, f1, .bool false, .ref TI, .ref TO], slots := #[] }
structure ZU (g : Heap) (z p q i j a b : Addr) (k : Nat) : Prop where
 zr : IsZip g z p q .none ∨ ∃ (T : Nat) (f1 : Bool) (o : Obj), IsZ2 g z p q (rawInt T) (.bool f1) ∧ g.get? T = some o ∧ T ∉ [z, p, q, i, j]
 ins : IsPair g p (.ref i) (.ref j)
 out : ∃ u v, IsPair g q u v
 one : g.IsTupleIter i a k
 two : g.IsTupleIter j b k
theorem ZS.zu {g : Heap} {z p q i j a b : Addr} {k : Nat} (h : ZS g z p q i j a b k) : ZU g z p q i j a b k := ⟨.inl h.zr, h.ins, h.out, h.one, h.two⟩
theorem ZU.keep {g g' : Heap} {z p q i j a b : Addr} {k : Nat} (x : ZU g z p q i j a b k) (h : ∀ c o, g.get? c = some o → g'.get? c = some o) : ZU g' z p q i j a b k :=
 ⟨by
  rcases x.zr with e | ⟨T, f, o, e1, e2, e3⟩
  ·exact .inl (h _ _ e)
  ·exact .inr ⟨T, f, o, h _ _ e1, h _ _ e2, e3⟩, h _ _ x.ins, let ⟨u, v, e⟩ := x.out; ⟨u, v, h _ _ e⟩, x.one.at fun o e => h _ o e, x.two.at fun o e => h _ o e⟩
theorem ZU.zl1 {g g' : Heap} {z p q i j a b d : Addr} {k : Nat} (x : ZU g z p q i j a b k) (hd : d ∉ [z, p, q, i, j]) (od : ∃ o, g'.get? d = some o) (h : ∀ c o, c ≠ d → g.get? c = some o → g'.get? c = some o) : ZU g' z p q i j a b k := by
 have n : ∀ c ∈ [z, p, q, i, j], c ≠ d := fun c hc e => hd (e ▸ hc)
 refine ⟨?_, h _ _ (n p (by simp)) x.ins, let ⟨u, v, e⟩ := x.out; ⟨u, v, h _ _ (n q (by simp)) e⟩, x.one.at fun o e => h _ o (n i (by simp)) e, x.two.at fun o e => h _ o (n j (by simp)) e⟩
 rcases x.zr with e | ⟨T, f, o, e1, e2, e3⟩
 ·exact .inl (h _ _ (n z (by simp)) e)
 ·by_cases ht : T = d
  ·subst ht
   obtain ⟨o', e'⟩ := od
   exact .inr ⟨T, f, o', h _ _ (n z (by simp)) e1, e', e3⟩
  ·exact .inr ⟨T, f, o, h _ _ (n z (by simp)) e1, h _ _ ht e2, e3⟩
theorem zol {z p q : Addr} {T : Nat} {f : Bool} {o : Obj} {P : Bool → Shared → Prop} (zr : IsZ2 s.heap z p q (rawInt T) (.bool f)) (et : s.heap.get? T = some o)
  (h : ∀ g1, IsZ2 g1 z p q (rawInt T) (.bool true) → Heap.SameBut z s.heap g1 → P false { s with heap := g1 }) : wpAny (model prog w) A (Builtin.SmallTypes.ownedTupleIsFree (.ref z)) P E s := by
 unfold Builtin.SmallTypes.ownedTupleIsFree
 refine wpAny_bind (wpAny_field zr rfl (x := rawInt T) rfl ?f5)
 show wpAny _ _ (loadIfAlive (Int.toNat (T : Int)) >>= _) _ _ _
 refine wpAny_bind (zdf ?f6)
 rw [Int.toNat_natCast, et]
 show wpAny _ _ (field (.ref z) 1 >>= _) _ _ _
 refine wpAny_bind (wpAny_field zr rfl (x := .bool f) rfl ?f7)
 cases f with
 | false =>
  show wpAny _ _ (setField (.ref z) 1 (.bool true) >>= _) _ _ _
  exact wpAny_bind (wpAny_setField_rec zr (by simp) fun g1 z1 s1 => wpAny_pure (h g1 z1 s1))
 | true => exact wpAny_pure (h s.heap zr ⟨rfl, fun _ _ => rfl⟩)
theorem zu_go {z p q i j a b : Addr} {k : Nat} {xs ys : Array Value} {x y : Value} {Q : Option Value → Shared → Prop} (D : ZipApart z p q i j a b) (Z : ZU s.heap z p q i j a b k) (ha : s.heap.IsTuple a xs) (hb : s.heap.IsTuple b ys) (hx : xs[k]? = some x) (hy : ys[k]? = some y)
  (h : ∀ g, ZU g z p q i j a b (k + 1) → IsPair g s.heap.objs.size x y → (∀ c o, c ∉ [z, q, i, j] → s.heap.get? c = some o → g.get? c = some o) → Q (some (.ref s.heap.objs.size)) { s with heap := g }) :
  wpAny (model prog w) A (pyNext (.ref z)) Q E s := by
 have lt : ∀ c o, s.heap.get? c = some o → c ≠ s.heap.objs.size := fun c o e => Nat.ne_of_lt (Heap.lt_size e)
 rcases id Z.zr with e | ⟨T, f, o, zr, et, tn⟩
 ·refine zko D ⟨e, Z.ins, Z.out, Z.one, Z.two⟩ ha hb hx hy fun g g1 g2 g3 g4 g5 g6 g7 => h g ⟨.inr ⟨s.heap.objs.size, false, _, g1, g6, fun hm => ?_⟩, g2, ⟨_, _, g3⟩, g4, g5⟩ g6 g7
  obtain ⟨u, v, eq⟩ := Z.out
  obtain ⟨o1, e1, _⟩ := Z.one
  obtain ⟨o2, e2, _⟩ := Z.two
  simp only [List.mem_cons, List.not_mem_nil, or_false] at hm
  rcases hm with t | t | t | t | t
  ·exact lt _ _ e t.symm
  ·exact lt _ _ Z.ins t.symm
  ·exact lt _ _ eq t.symm
  ·exact lt _ _ e1 t.symm
  ·exact lt _ _ e2 t.symm
 ·have hT : s.TypeIs (.ref z) "zip" := ⟨_, zr, rfl⟩
  have tz : (T : Nat) ≠ z := fun t => tn (by simp [t])
  have ti : (T : Nat) ≠ i := fun t => tn (by simp [t])
  have tj : (T : Nat) ≠ j := fun t => tn (by simp [t])
  unfold pyNext
  refine wpAny_bind (wpAny_attempt (wpAny_callSpecial?_slot (name := Str.ofString "__next__") hT F.slot_zip_next (wpAny_call_entry F.slot_zip_next hT F.entry_zip_next ?body (F.args_zip_next_1 _))))
  case body =>
   show wpAny _ _ (field (.ref z) 2 >>= _) _ _ _
   refine wpAny_bind (wpAny_field zr rfl (x := .bool false) rfl ?f2)
   show wpAny _ _ (field (.ref z) 3 >>= _) _ _ _
   refine wpAny_bind (wpAny_field zr rfl (x := .ref p) rfl (wpAny_bind (wpAny_seqItems Z.ins rfl ?f3)))
   show wpAny _ _ (Builtin.SmallTypes.ownedTupleIsFree (.ref z) >>= _) _ _ _
   refine wpAny_bind (zol zr et fun g1 z1 s1 => ?f4)
   simp only [Bool.false_eq_true, if_false]
   refine wpAny_bind ?f5
   rw [← Array.forIn_toList]
   simp only [List.forIn_cons, List.forIn_nil]
   refine wpAny_bind (wpAny_bind (wpAny_holding ?f6))
   show wpAny _ _ (Builtin.SmallTypes.nextOf (.ref i) >>= _) _ _ _
   refine wpAny_bind (zc8 (s := { s with heap := g1 }) (Z.one.extBut s1.extBut D.i1z) (ha.extBut s1.extBut D.l1z) hx fun g2 i2 s2 => wpAny_pure ?f7)
   refine wpAny_pure ?f8
   refine wpAny_bind (wpAny_bind (wpAny_holding ?f9))
   show wpAny _ _ (Builtin.SmallTypes.nextOf (.ref j) >>= _) _ _ _
   refine wpAny_bind (zc8 (s := { s with heap := g2 }) ((Z.two.extBut s1.extBut D.i2z).extBut s2.extBut D.i12.symm) ((hb.extBut s1.extBut D.l2z).extBut s2.extBut D.l2i1) hy fun g4 j4 s4 => wpAny_pure ?g0)
   refine wpAny_pure (wpAny_pure ?g1)
   have sz : g4.objs.size = s.heap.objs.size := by rw [s4.1, s2.1, s1.1]
   have ZZ : ZU g4 z p q i j a b (k + 1) := by
    refine ⟨.inr ⟨T, true, o, ?_, ?_, tn⟩, ?_, ?_, ?_, j4⟩
    ·exact s4.extBut _ _ D.i2z.symm (s2.extBut _ _ D.i1z.symm z1)
    ·exact s4.extBut _ _ tj (s2.extBut _ _ ti (s1.extBut _ _ tz et))
    ·exact s4.extBut _ _ D.TIi2 (s2.extBut _ _ D.TIi1 (s1.extBut _ _ D.TIz Z.ins))
    ·obtain ⟨u, v, eq⟩ := Z.out
     exact ⟨u, v, s4.extBut _ _ D.TOi2 (s2.extBut _ _ D.TOi1 (s1.extBut _ _ D.TOz eq))⟩
    ·exact i2.extBut s4.extBut D.i12
   refine wpAny_bind (wpAny_newTuple ?g2 (by show (2 : Nat) ≤ _; rw [sizeLine_eq]; omega))
   refine wpAny_pure ⟨_, rfl, wpAny_pure ?_⟩
   show Q (some (.ref g4.objs.size)) _
   rw [sz]
   refine h _ (ZZ.keep fun c o e => Heap.get?_push_of_some _ e) ?_ fun c o hc e => Heap.get?_push_of_some _ ?_
   ·rw [← sz]; exact Heap.get?_push_size _ rfl
   ·exact s4.extBut _ _ (fun t => hc (by simp [t])) (s2.extBut _ _ (fun t => hc (by simp [t])) (s1.extBut _ _ (fun t => hc (by simp [t])) e))
theorem ziW {z p q i j a b : Addr} {k : Nat} {xs ys : Array Value} {Q : Option Value → Shared → Prop} (hh : A.handled = none) (D : ZipApart z p q i j a b) (Z : ZU s.heap z p q i j a b k) (ha : s.heap.IsTuple a xs) (hb : s.heap.IsTuple b ys) (he : xs[k]? = none ∨ ys[k]? = none)
  (h : ∀ g, (∀ c o, c ∉ [z, q, i, j] → s.heap.get? c = some o → g.get? c = some o) → Q none { s with heap := g }) : wpAny (model prog w) A (pyNext (.ref z)) Q E s := by
 rcases id Z.zr with e | ⟨T, f, o, zr, et, tn⟩
 ·exact zgW hh D ⟨e, Z.ins, Z.out, Z.one, Z.two⟩ ha hb he h
 ·have hT : s.TypeIs (.ref z) "zip" := ⟨_, zr, rfl⟩
  have apart : ∀ c, c ∉ [z, q, i, j] → c ≠ z ∧ c ≠ q ∧ c ≠ i ∧ c ≠ j := fun c hc => ⟨fun t => hc (by simp [t]), fun t => hc (by simp [t]), fun t => hc (by simp [t]), fun t => hc (by simp [t])⟩
  unfold pyNext
  refine wpAny_bind (wpAny_attempt (wpAny_callSpecial?_slot (name := Str.ofString "__next__") hT F.slot_zip_next (wpAny_call_entry F.slot_zip_next hT F.entry_zip_next ?body (F.args_zip_next_1 _))))
  case body =>
   have fin : ∀ g x, (∀ c o, c ∉ [z, q, i, j] → s.heap.get? c = some o → g.get? c = some o) → (∃ o, g.get? x = some o ∧ o.cls = .type "StopIteration") → wpAny (model prog w) A (isInstance (.ref x) (.type "StopIteration")) (fun r s' => wpAny (model prog w) A (if r = true then pure none else throw (.ref x)) Q E s') E { s with heap := g } := fun g x kp hx => by
    obtain ⟨o, ho, hc⟩ := hx
    exact wpAny_isInstance (T := "StopIteration") (b := true) ⟨o, ho, hc⟩ isSubtype_stop (wpAny_pure (h g kp))
   show wpAny _ _ (field (.ref z) 2 >>= _) _ _ _
   refine wpAny_bind (wpAny_field zr rfl (x := .bool false) rfl ?f2)
   show wpAny _ _ (field (.ref z) 3 >>= _) _ _ _
   refine wpAny_bind (wpAny_field zr rfl (x := .ref p) rfl (wpAny_bind (wpAny_seqItems Z.ins rfl ?f3)))
   show wpAny _ _ (Builtin.SmallTypes.ownedTupleIsFree (.ref z) >>= _) _ _ _
   refine wpAny_bind (zol zr et fun g1 z1 s1 => ?f4)
   simp only [Bool.false_eq_true, if_false]
   refine wpAny_bind ?f5
   rw [← Array.forIn_toList]
   simp only [List.forIn_cons, List.forIn_nil]
   refine wpAny_bind (wpAny_bind (wpAny_holding ?f6))
   show wpAny _ _ (Builtin.SmallTypes.nextOf (.ref i) >>= _) _ _ _
   cases hx : xs[k]? with
   | none =>
    refine wpAny_bind (zgV (s := { s with heap := g1 }) hh (Z.one.extBut s1.extBut D.i1z) (ha.extBut s1.extBut D.l1z) hx fun g2 x s2 hx' => ?g1)
    refine wpAny_bind (fin g2 x (fun c o hc e => ?g2) hx')
    obtain ⟨c1, _, c3, _⟩ := apart c hc
    exact s2 _ _ c3 (s1.extBut _ _ c1 e)
   | some x0 =>
    have hy : ys[k]? = none := by
     rcases he with t | t
     ·rw [hx] at t; cases t
     ·exact t
    refine wpAny_bind (zc8 (s := { s with heap := g1 }) (Z.one.extBut s1.extBut D.i1z) (ha.extBut s1.extBut D.l1z) hx fun g2 i2 s2 => wpAny_pure ?g3)
    refine wpAny_pure ?g4
    refine wpAny_bind (wpAny_bind (wpAny_holding ?g5))
    show wpAny _ _ (Builtin.SmallTypes.nextOf (.ref j) >>= _) _ _ _
    refine wpAny_bind (zgV (s := { s with heap := g2 }) hh ((Z.two.extBut s1.extBut D.i2z).extBut s2.extBut D.i12.symm) ((hb.extBut s1.extBut D.l2z).extBut s2.extBut D.l2i1) hy fun g4 x s4 hx' => ?g7)
    refine wpAny_bind (fin g4 x (fun c o hc e => ?g8) hx')
    obtain ⟨c1, c2, c3, c4⟩ := apart c hc
    exact s4 _ _ c4 (s2.extBut _ _ c3 (s1.extBut _ _ c1 e))
end
end L2
end
section
namespace L2
open PySem PySem.Spec PyProof.Rows
theorem zbF : entryFor table "dict.update.loop" = some Builtin.«dict.update.loop» := entryFor_of_tree (by kernel_rfl)
theorem zaV : plainId "dict.update.loop" = true := by decide +kernel
section
variable {prog : Program} {w : World} {A : Around} {E : Value → Shared → Prop} {R : Result → Shared → Prop} {s : Shared}
theorem zl2 {z p q i j a b d : Addr} {xs ys : Array Value} (hh : A.handled = none) (D : ZipApart z p q i j a b) (hd : d ∉ [z, p, q, i, j]) (had : a ≠ d) (hbd : b ≠ d) (han : a ∉ [z, q, i, j]) (hbn : b ∉ [z, q, i, j]) (ks : List Key) (hk : ks.length = xs.size) (hks : ∀ (n : Nat) (x : Value) (k : Key), xs[n]? = some x → ks[n]? = some k → (zaE prog w).is k x = true) (hz : ks.length ≤ sizeLine) :
  ∀ (m k : Nat) (c : Int) (t : Tok) (s : Shared) (acc : List (Key × Value)), ks.length - k = m → k ≤ ks.length → k ≤ ys.size → acc.length ≤ k → ZU s.heap z p q i j a b k → s.heap.IsTuple a xs → s.heap.IsTuple b ys → s.heap.DictOf (zaE prog w) d acc →
   (∀ h' tk, (∀ c o, c ∉ [d, z, q, i, j] → s.heap.get? c = some o → h'.get? c = some o) → h'.DictOf (zaE prog w) d (((ks.drop k).zip (ys.toList.drop k)).foldl (fun a p => stored a p.1 p.2) acc) → R (.ok (.ret .none)) { s with heap := h', toks := tk }) →
   codeAny (model prog w) A (.builtin "dict.update.loop" ⟨[.ref d, .ref z, .int c t, .none], []⟩) R s := by
 have sub4 : ∀ {c : Addr}, c ∈ [z, q, i, j] → c ∈ [z, p, q, i, j] := fun {c} hc => by
  simp only [List.mem_cons, List.not_mem_nil, or_false] at hc ⊢
  rcases hc with h | h | h | h <;> simp [h]
 intro m
 induction m with
 | zero =>
  intro k c t s acc hm hle hley hacc Z ta tb hD hR
  have hkk : k = ks.length := by omega
  refine codeAny_builtin zbF ?_
  rw [Around.under_plainId zaV _]
  show wpAny _ A.in1 (pyNext (.ref z) >>= _) _ _ s
  refine wpAny_bind (ziW (by simpa using hh) D Z ta tb (.inl (by rw [Array.getElem?_eq_none]; omega)) fun g kp => ?_)
  show wpAny _ A.in1 (Builtin.Dict.addKeywords d [] >>= _) _ _ _
  refine wpAny_bind (wpAny_pure (wpAny_pure ?_))
  refine hR g s.toks (fun c o hc e => kp c o (fun h => hc (lO _ h)) e) ?_
  rw [hkk, List.drop_length, List.zip_nil_left]
  obtain ⟨o, es, ep, ho, r⟩ := hD
  exact ⟨o, es, ep, kp _ _ (fun h => hd (sub4 h)) ho, r⟩
 | succ m ih =>
  intro k c t s acc hm hle hley hacc Z ta tb hD hR
  refine codeAny_builtin zbF ?_
  rw [Around.under_plainId zaV _]
  show wpAny _ A.in1 (pyNext (.ref z) >>= _) _ _ s
  have hlt : k < ks.length := by omega
  obtain ⟨x, hx⟩ : ∃ x, xs[k]? = some x := ⟨_, Array.getElem?_eq_getElem (by omega)⟩
  have hkey := hks k x ks[k] hx (List.getElem?_eq_getElem hlt)
  cases hy : ys[k]? with
  | none =>
   refine wpAny_bind (ziW (by simpa using hh) D Z ta tb (.inr hy) fun g kp => ?_)
   show wpAny _ A.in1 (Builtin.Dict.addKeywords d [] >>= _) _ _ _
   refine wpAny_bind (wpAny_pure (wpAny_pure ?_))
   refine hR g s.toks (fun c o hc e => kp c o (fun h => hc (lO _ h)) e) ?_
   have hys : ys.toList.drop k = [] := List.drop_eq_nil_of_le (by rw [Array.length_toList]; exact Array.getElem?_eq_none_iff.mp hy)
   rw [hys, List.zip_nil_right]
   obtain ⟨o, es, ep, ho, r⟩ := hD
   exact ⟨o, es, ep, kp _ _ (fun h => hd (sub4 h)) ho, r⟩
  | some y =>
   refine wpAny_bind (zu_go D Z ta tb hx hy fun g Z' gt kp => ?_)
   have hD' : g.DictOf (zaE prog w) d acc := by
    obtain ⟨o, es, ep, ho, r⟩ := hD
    exact ⟨o, es, ep, kp _ _ (fun h => hd (sub4 h)) ho, r⟩
   have tT : Shared.TypeIs { s with heap := g } (.ref s.heap.objs.size) "tuple" := ⟨_, gt, rfl⟩
   refine wpAny_bind (wpAny_holding ?_)
   refine wpAny_bind (wpAny_tryCatch ?_)
   unfold Builtin.Dict.pairItems
   refine wpAny_bind (wpAny_typeOf tT ?_)
   show wpAny _ _ (seqItems? _ >>= _) _ _ _
   refine wpAny_bind (wpAny_seqItems gt rfl (wpAny_pure ?_))
   show wpAny _ _ (holding [x, y] (dictSet d x y)) _ _ _
   refine wpAny_holding ?_
   refine wpAny_dictSet_pairs (s := { s with heap := g }) hkey hD' (hsz := by omega) fun h' hd' hs => ?_
   refine wpAny_pure ⟨plainId_quiet zaV _, ?_⟩
   have kp' : ∀ c o, c ∉ [d, z, q, i, j] → s.heap.get? c = some o → h'.get? c = some o := fun c o hc e => hs.extBut _ _ (fun t => hc (by simp [t])) (kp c o (fun h => hc (lO _ h)) e)
   have ta' : h'.IsTuple a xs := by
    obtain ⟨o, e, r⟩ := ta
    exact ⟨o, hs.extBut _ _ had (kp _ _ han e), r⟩
   have tb' : h'.IsTuple b ys := by
    obtain ⟨o, e, r⟩ := tb
    exact ⟨o, hs.extBut _ _ hbd (kp _ _ hbn e), r⟩
   have od : ∃ o, h'.get? d = some o := let ⟨o, _, _, ho, _⟩ := hd'; ⟨o, ho⟩
   have hle' : (stored acc ks[k] y).length ≤ k + 1 := Nat.le_trans (stored_length_le _ _ _) (by omega)
   refine ih (k + 1) _ _ _ _ (by omega) hlt (Array.getElem?_eq_some_iff.mp hy).1 hle' (Z'.zl1 hd od fun c o hc e => hs.extBut _ _ hc e) ta' tb' hd' fun h'' tk k2 hd2 => ?_
   refine hR h'' tk (fun c o hc e => k2 c o hc (kp' c o hc e)) ?_
   have e1 : ks.drop k = ks[k] :: ks.drop (k + 1) := List.drop_eq_getElem_cons hlt
   have e2 : ys.toList.drop k = y :: ys.toList.drop (k + 1) := by
    obtain ⟨hl, e⟩ := Array.getElem?_eq_some_iff.mp hy
    rw [List.drop_eq_getElem_cons (by simpa using hl)]
    simp [e]
   rw [e1, e2, List.zip_cons_cons, List.foldl_cons]
   exact hd2
end
end L2
end
section
namespace L2
open PySem PySem.Spec PyProof.Rows
section
variable {prog : Program} {w : World} {A : Around} {E : Value → Shared → Prop} {s : Shared}
theorem zl3 {z p q i j a b : Addr} {xs ys : Array Value} {Q : Value → Shared → Prop} (hh : A.handled = none) (D : ZipApart z p q i j a b) (Z : ZS s.heap z p q i j a b 0) (ta : s.heap.IsTuple a xs) (tb : s.heap.IsTuple b ys) (han : a ∉ [z, q, i, j]) (hbn : b ∉ [z, q, i, j])
  (ks : List Key) (hk : ks.length = xs.size) (hks : ∀ (n : Nat) (x : Value) (k : Key), xs[n]? = some x → ks[n]? = some k → (zaE prog w).is k x = true) (hz : ks.length ≤ sizeLine)
  (h : ∀ h' tk, (∀ c o, c ∉ [z, q, i, j] → s.heap.get? c = some o → h'.get? c = some o) → h'.DictOf (zaE prog w) s.heap.objs.size ((ks.zip ys.toList).foldl (fun a p => stored a p.1 p.2) []) → Q (.ref s.heap.objs.size) { s with heap := h', toks := tk }) :
  wpAny (model prog w) A (call (.type "dict") [.ref z]) Q E s := by
 refine callType_codes (Q₁ := fun obj s₁ => obj = .ref s.heap.objs.size ∧ s₁ = { s with heap := s.heap.push { cls := .type "dict", data := .dict #[] } }) F.kt_called_dict (F.kt_typeCall_dict_1 _) F.entry_dict_init (kt_code_dict_new _ ⟨rfl, rfl⟩) ?_
 rintro obj s₁ ⟨rfl, rfl⟩
 have hnew : (s.heap.push { cls := .type "dict", data := .dict #[] }).DictOf (zaE prog w) s.heap.objs.size [] := Heap.DictOf.new s.heap
 have Z1 : ZS (s.heap.push { cls := .type "dict", data := .dict #[] }) z p q i j a b 0 := Z.keep fun c _ o e => Heap.get?_push_of_some _ e
 have lt : ∀ c o, s.heap.get? c = some o → c ≠ s.heap.objs.size := fun c o e => Nat.ne_of_lt (Heap.lt_size e)
 refine ⟨hnew.typeIs, F.args_dict_init_2 _ _, ?_⟩
 unfold Builtin.«dict.__init__»
 refine wpAny_bind ?_
 unfold Builtin.Dict.selfAndRest
 refine wpAny_bind (wpAny_notOrdered_dict hnew.typeIs ?_)
 show wpAny _ _ (pure (s.heap.objs.size, [Value.ref z])) _ _ _
 refine wpAny_pure ?_
 show wpAny _ _ (Builtin.Dict.updateFrom "dict.__init__" s.heap.objs.size (.ref z) [] .none) _ _ _
 unfold Builtin.Dict.updateFrom
 have tz : Shared.TypeIs { s with heap := s.heap.push { cls := .type "dict", data := .dict #[] } } (.ref z) "zip" := ⟨_, Z1.zr, rfl⟩
 refine wpAny_bind (wpAny_typeOf tz ?_)
 rw [if_pos (by decide)]
 refine wpAny_bind (zhG (s := { s with heap := s.heap.push { cls := .type "dict", data := .dict #[] } }) Z1.zr (by simpa using hh) fun h1 tk1 k1 => ?_)
 simp only [Option.isNone_none, if_true]
 refine wpAny_bind (wpAny_rule ?_)
 have Z2 : ZS h1 z p q i j a b 0 := Z1.keep fun c _ o e => k1 _ _ e
 refine wpAny_bind (wpAny_pyIter_zip (s := { s with heap := h1, toks := tk1 }) Z2.zr ?_)
 have ta' : h1.IsTuple a xs := by
  obtain ⟨o, e, r⟩ := ta
  exact ⟨o, k1 _ _ (Heap.get?_push_of_some _ e), r⟩
 have tb' : h1.IsTuple b ys := by
  obtain ⟨o, e, r⟩ := tb
  exact ⟨o, k1 _ _ (Heap.get?_push_of_some _ e), r⟩
 have hD1 : h1.DictOf (zaE prog w) s.heap.objs.size [] := by
  obtain ⟨o, es, ep, ho, r⟩ := hnew
  exact ⟨o, es, ep, k1 _ _ ho, r⟩
 have hd : s.heap.objs.size ∉ [z, p, q, i, j] := fun hm => by
  obtain ⟨u, v, eq⟩ := Z.out
  obtain ⟨o1, e1, _⟩ := Z.one
  obtain ⟨o2, e2, _⟩ := Z.two
  simp only [List.mem_cons, List.not_mem_nil, or_false] at hm
  rcases hm with t | t | t | t | t
  ·exact lt _ _ Z.zr t.symm
  ·exact lt _ _ Z.ins t.symm
  ·exact lt _ _ eq t.symm
  ·exact lt _ _ e1 t.symm
  ·exact lt _ _ e2 t.symm
 have hh' : A.in1.handled = none := by simpa using hh
 refine wpAny_pure ⟨plainId_quiet zaV _, zl2 (s := { s with heap := h1, toks := tk1 }) hh' D hd ?_ ?_ han hbn ks hk hks hz ks.length 0 _ _ [] rfl (Nat.zero_le _) (Nat.zero_le _) (Nat.le_refl _) Z2.zu ta' tb' hD1 fun h' tk kp hd' => ⟨rfl, h h' tk (fun c o hc e => kp c o (fun hm => ?_) (k1 _ _ (Heap.get?_push_of_some _ e))) ?_⟩⟩
 ·obtain ⟨o, e, _⟩ := ta
  exact lt _ _ e
 ·obtain ⟨o, e, _⟩ := tb
  exact lt _ _ e
 ·rcases lK hm with t | t
  ·exact lt _ _ e t
  ·exact hc t
 ·simpa using hd'
end
end L2
end
section
namespace L2
open PySem PySem.Spec PyProof.Rows
section
variable {X : Cx}
theorem KV.zfN : ∀ {ks : List Key} {ys : List V} {us : List Value} {acc : List (Key × V)} {acc' : List (Key × Value)}, zaW ys us → KV acc acc' → KV ((ks.zip ys).foldl (fun a p => putK a p.1 p.2) acc) ((ks.zip us).foldl (fun a p => stored a p.1 p.2) acc')
 | [], _, _, _, _, _, h => h
 | _ :: _, [], _, _, _, r, h => by cases r; exact h
 | k :: ks, y :: ys, _, _, _, .cons r rs, h => KV.zfN (ks := ks) rs (h.put k r)
theorem zd7 : ∀ (l : List (Key × V)) (acc : List (Key × V)), (l.foldl (fun a p => putK a p.1 p.2) acc).length ≤ acc.length + l.length
 | [], _ => Nat.le_refl _
 | p :: l, acc => by
  have h1 := zd7 l (putK acc p.1 p.2)
  have h2 := zcw acc p.1 p.2
  rw [List.foldl_cons, List.length_cons]
  omega
def tDZ (K : PySem.W.Frag) (ta : TA) : TE := fun σ H Q => ta σ H fun vs H1 => ∃ (a b : Addr) (ys : List V) (ks : List Key), vs = [.ref a, .ref b] ∧ SqT K H1 a (ks.map kV) ∧ SqT K H1 b ys ∧ ∀ l, H1 l = none → Q (.ref l) (upd H1 l (.dK ((ks.zip ys).foldl (fun acc p => putK acc p.1 p.2) [])))
theorem zl4 {a b : Expr} {ta : TA} {p1 p2 pos pos2 : Pos} (hc : X.calm = true) (hg : Gl X "dict") (hm : X.mg "dict" = none) (hg2 : Gl X "zip") (hm2 : X.mg "zip" = none) (ha : PA X [a, b] ta) (hs : starEach [a, b] X.env = [(false, eval a X.env), (false, eval b X.env)] := by rfl) (hs2 : starEach [b] X.env = [(false, eval b X.env)] := by rfl)
  (hs3 : starEach [.Call (.Name "zip" p2) [a, b] [] pos2] X.env = [(false, eval (.Call (.Name "zip" p2) [a, b] [] pos2) X.env)] := by rfl) :
  PE X (.Call (.Name "dict" p1) [.Call (.Name "zip" p2) [a, b] [] pos2] [] pos) (tDZ X.K ta) := by
 intro pins s σ H Q I h
 refine wpAny_Call_Name_kw (zdO I hg hm PyProof.Rows.boot_dict ?_)
 refine PyProof.Rows.callWith_type1 ?_ (by rw [hs3]; rfl) rfl
 rw [hs3]
 show wpAny _ _ (spliced ((false, eval (.Call (.Name "zip" p2) [a, b] [] pos2) X.env) :: [])) _ _ s
 refine Calls.spliced_cons ?_
 refine wpAny_Call_Name_kw (zdO I hg2 hm2 PyProof.Rows.boot_zip ?_)
 refine PyProof.Rows.callWith_type1 (thn (ha pos2 pins s σ H _ I h) fun us s1 ⟨vs, H1, I1, r1, q1⟩ => ?_) (by rw [hs, hs2]) (by rw [hs2]; rfl)
 obtain ⟨a', b', ys, ks, e, qa, qb, q⟩ := q1
 subst e
 obtain ⟨u, v, rfl, ru, rv⟩ := vals2 r1
 cases ru
 cases rv
 obtain ⟨ia, ra, ta', la'⟩ := I1.tuple qa
 obtain ⟨ib, rb, tb, _⟩ := I1.tuple qb
 have la : a' < s1.heap.objs.size := by obtain ⟨_, e, _⟩ := ta'; exact Heap.lt_size e
 have lb : b' < s1.heap.objs.size := by obtain ⟨_, e, _⟩ := tb; exact Heap.lt_size e
 refine zfz ta' tb fun g Z kp => Calls.spliced_nil ?_
 have tg : g.IsTuple a' ia.toArray := by obtain ⟨o, e, r⟩ := ta'; exact ⟨o, kp _ _ e, r⟩
 have tg2 : g.IsTuple b' ib.toArray := by obtain ⟨o, e, r⟩ := tb; exact ⟨o, kp _ _ e, r⟩
 have nn : ∀ c, c < s1.heap.objs.size → c ∉ [s1.heap.objs.size + 4, s1.heap.objs.size + 3, s1.heap.objs.size, s1.heap.objs.size + 1] := fun c hc hm => by
  simp only [List.mem_cons, List.not_mem_nil, or_false] at hm
  have hc' : (c : Nat) < s1.heap.objs.size := hc
  rcases hm with t | t | t | t
  ·have t' : (c : Nat) = s1.heap.objs.size + 4 := t; omega
  ·have t' : (c : Nat) = s1.heap.objs.size + 3 := t; omega
  ·have t' : (c : Nat) = s1.heap.objs.size := t; omega
  ·have t' : (c : Nat) = s1.heap.objs.size + 1 := t; omega
 have gsz : s1.heap.objs.size ≤ g.objs.size := Nat.le_of_lt (Nat.lt_of_le_of_lt (Nat.le_add_right _ _) (Heap.lt_size Z.zr))
 have hkl : ks.length = ia.toArray.size := by rw [List.size_toArray, ← ra.length, List.length_map]
 refine zl3 (s := { s1 with heap := g }) (I1.ok.hd hc) (PyProof.Rows.zipApart_new la lb) Z tg tg2 (nn _ la) (nn _ lb) ks hkl (fun n x k hx hk => ?_) (by rw [List.length_map] at la'; exact la') fun h' tk k2 hD => ?_
 ·have hx' : ia[n]? = some x := by simpa using hx
  have hv : (ks.map kV)[n]? = some (kV k) := by rw [List.getElem?_map, hk]; rfl
  obtain ⟨x', hx2, r⟩ := ra.get hv
  rw [hx'] at hx2
  cases hx2
  exact zhs r
 ·have fr : H1 g.objs.size = none := I1.hok.fresh gsz
  have keep : ∀ c o, s1.heap.get? c = some o → h'.get? c = some o := fun c o e => k2 c o (nn c (Heap.lt_size e)) (kp c o e)
  refine ⟨.ref g.objs.size, _, I1.laid (a := g.objs.size) (o := .dK ((ks.zip ys).foldl (fun acc p => putK acc p.1 p.2) [])) (t' := tk) keep gsz ?_, rfl, q _ fr⟩
  have hbig : (g.objs.size == sysModules) = false := by
   have := I1.big
   exact beq_eq_false_iff_ne.mpr fun e => absurd (Nat.lt_of_lt_of_le this gsz) (by rw [e]; exact Nat.lt_irrefl _)
  refine ⟨?_, hbig, _, KV.zfN rb .nil, by simpa using hD⟩
  have h1 := zd7 (ks.zip ys) []
  have h2 : (ks.zip ys).length ≤ ks.length := by rw [List.length_zip]; omega
  rw [List.length_map] at la'
  simp only [List.length_nil] at h1
  omega
end
end L2
end
section
namespace L2
open PySem PySem.Spec PyProof.Rows
end L2
end
section
namespace L2
open PySem PySem.Spec PyProof.Rows
section
variable {X : Cx} {pos : Pos}
theorem ziX {i j : Nat} {x y : Str} {a b : Expr} {ta : TA} {px py pt : Pos} {kt k2 pt2} (hc : X.calm = true) (hN : X.N.Nodup) (hi : X.N[i]? = some x) (hj : X.N[j]? = some y)
  (hx : Loc X.env.scope x) (hy : Loc X.env.scope y) (ha : PA X [a, b] ta)
  (hw : swappedStores [.Tuple [.Name x px, .Name y py] kt pt] (.Tuple [a, b] k2 pt2) X.env = pure none)
  (hs : swapsWithSole [.Tuple [.Name x px, .Name y py] kt pt] (.Tuple [a, b] k2 pt2) pos.line X.env = pure false := by rfl)
  (hfx : X.fn x = true ∨ X.env.scope.names.lookup x = some .local := by first | exact .inl rfl | exact .inr rfl | assumption) (hfy : X.fn y = true ∨ X.env.scope.names.lookup y = some .local := by first | exact .inl rfl | exact .inr rfl | assumption)
  (h1 : (assignEach [.Tuple [.Name x px, .Name y py] kt pt] X.env).map (·.2) = [assign (.Tuple [.Name x px, .Name y py] kt pt) X.env] := by rfl)
  (h2 : (assignEach [.Name x px, .Name y py] X.env).map (·.2) = [assign (.Name x px) X.env, assign (.Name y py) X.env] := by rfl)
  (hn : (assignEach [.Name x px, .Name y py] X.env).length = 2 := by rfl) (hst : (assignEach [.Name x px, .Name y py] X.env).findIdx? (·.1) = none := by rfl) :
  PS X (.Assign [.Tuple [.Name x px, .Name y py] kt pt] (.Tuple [a, b] k2 pt2) pos) (tPar i j ta) := by
 intro pins s σ H D I h
 refine wpAny_Assign_stores (Tuple_ (thn (ha _ pins s σ H _ I h) fun us s1 ⟨vs, H1, I1, r1, q1⟩ => ?_)) hs hw
 obtain ⟨v, w, e1, q1⟩ := q1
 subst e1
 obtain ⟨u1, u2, rfl, rv, rw'⟩ : ∃ u1 u2, us = [u1, u2] ∧ RelV v u1 ∧ RelV w u2 := by
  cases r1 with
  | cons p q =>
   cases q with
   | cons p' q' =>
    cases q'
    exact ⟨_, _, rfl, p, p'⟩
 refine wpAny_newObj_type ?_ (by show 2 ≤ sizeLine; decide)
 have I2 : Inv X pins σ H1 { s1 with heap := s1.heap.push { cls := .type "tuple", data := .seq [u1, u2].toArray } } := I1.kept (t' := s1.toks) fun b o e => Heap.get?_push_of_some _ e
 rw [h1]
 refine assign_Tuple_tuple (I.ok.hd hc) (IsTup.new s1.heap _) (by simp [hn]) hst fun h' hx' => ?_
 have I3 := I2.kept (h' := h') (t' := s1.toks) fun b o e => hx' b o (Nat.ne_of_lt (Heap.lt_size e)) e
 rw [h2]
 refine assignInOrder_cons (wpAny_assign_Name (zcl I3 hN hi hx rv (fun s2 I4 => ?_) hfx))
 refine assignInOrder_cons (wpAny_assign_Name (zcl I4 hN hj hy rw' (fun s3 I5 => assignInOrder_nil ?_) hfy))
 exact ⟨_, H1, I5, q1⟩
end
end L2
end
section
namespace VL
open PySem PySem.Spec L2 PyProof.Rows
section
variable {X : Cx} {pos : Pos}
def zfc : List PyData → Option (List Key)
 | [] => some []
 | d :: ds => (zgm d).bind fun k => (zfc ds).bind fun ks => some (k :: ks)
theorem Fzs.zfc {K : PySem.W.Frag} {H : Hp} {Z : Zs} : ∀ {ds : List PyData} {xs : List V} {ks : List Key}, Fzs K H Z xs ds → VL.zfc ds = some ks → xs = ks.map kV
 | [], _, _, .nil, e => by cases e; rfl
 | d :: ds, _, _, .cons h r, e => by
  obtain ⟨k, e1, e⟩ := oB e
  obtain ⟨ks, e2, e⟩ := oB e
  cases e
  rw [zdc h e1, Fzs.zfc r e2]
  rfl
theorem Fzk.zfN {K : PySem.W.Frag} {H : Hp} {Z : Zs} : ∀ {ks : List Key} {ys : List V} {ds : List PyData} {acc : List (Key × V)} {acc' : List (Key × PyData)}, Fzs K H Z ys ds → Fzk K H Z acc acc' → Fzk K H Z ((ks.zip ys).foldl (fun a p => putK a p.1 p.2) acc) ((ks.zip ds).foldl (fun a p => putD a p.1 p.2) acc')
 | [], _, _, _, _, _, h => h
 | _ :: _, _, _, _, _, .nil, h => h
 | k :: ks, _, _, _, _, .cons h r, a => Fzk.zfN (ks := ks) r (a.put h)
def dzD (ks : List Key) (bs : List PyData) : List (Key × PyData) := (ks.zip bs).foldl (fun acc p => putD acc p.1 p.2) []
def dzM : List M → Option M
 | [.v (.tuple as), .v (.tuple bs)] => (zfc as).bind fun ks => some (.dic (dzD ks bs))
 | _ => none
def rDZ (K : PySem.W.Frag) : List V → Hp → VK → Prop := fun vs H1 Q => ∃ (a b : Addr) (ys : List V) (ks : List Key), vs = [.ref a, .ref b] ∧ SqT K H1 a (ks.map kV) ∧ SqT K H1 b ys ∧ ∀ l, H1 l = none → Q (.ref l) (upd H1 l (.dK ((ks.zip ys).foldl (fun acc p => putK acc p.1 p.2) [])))
theorem rDZ_v {K : PySem.W.Frag} : RLv K (rDZ K) dzM := fun H Z xs ms m Q za hr e q => by
 unfold dzM at e
 split at e
 ·obtain ⟨ks, e1, e⟩ := oB e
  cases e
  obtain ⟨x, y, rfl, h1, h2⟩ := znF hr
  obtain ⟨a, xs, rfl, t1, g1⟩ := h1.tup
  obtain ⟨b, ys, rfl, t2, g2⟩ := h2.tup
  rw [g1.zfc e1] at t1
  exact ⟨a, b, ys, ks, rfl, t1, t2, fun l hl => endD q za hl (Fzk.zfN g2 .nil)⟩
 ·cases e
theorem zl5 {a b : Expr} {fa : FA} {p1 p2 pos2 : Pos} (hc : X.calm = true) (hg : Gl X "dict") (hm : X.mg "dict" = none) (hg2 : Gl X "zip") (hm2 : X.mg "zip" = none) (ha : VA X [a, b] fa) (hs : starEach [a, b] X.env = [(false, eval a X.env), (false, eval b X.env)] := by rfl) (hs2 : starEach [b] X.env = [(false, eval b X.env)] := by rfl)
  (hs3 : starEach [.Call (.Name "zip" p2) [a, b] [] pos2] X.env = [(false, eval (.Call (.Name "zip" p2) [a, b] [] pos2) X.env)] := by rfl) :
  VE X (.Call (.Name "dict" p1) [.Call (.Name "zip" p2) [a, b] [] pos2] [] pos) (vCB dzM fa) := za4 (zl4 hc hg hm hg2 hm2 ha hs hs2 hs3) fun _ _ _ hq => many rDZ_v hq
theorem zl6 {a b : Expr} {fa : FA} {p1 p2 pos2 : Pos} (hc : X.calm = true) (hg : Gl X "dict") (hm : X.mg "dict" = none) (hg2 : Gl X "zip") (hm2 : X.mg "zip" = none) (ha : WA X [a, b] fa) (hs : starEach [a, b] X.env = [(false, eval a X.env), (false, eval b X.env)] := by rfl) (hs2 : starEach [b] X.env = [(false, eval b X.env)] := by rfl)
  (hs3 : starEach [.Call (.Name "zip" p2) [a, b] [] pos2] X.env = [(false, eval (.Call (.Name "zip" p2) [a, b] [] pos2) X.env)] := by rfl) :
  WE X (.Call (.Name "dict" p1) [.Call (.Name "zip" p2) [a, b] [] pos2] [] pos) (vCB dzM fa) := ⟨zl5 hc hg hm hg2 hm2 ha.h hs hs2 hs3⟩
def isSq : PyData → Bool
 | .tuple _ => true
 | .list _ => true
 | _ => false
def ziY (d : PyData) : Bool := isSq d && d.canLay0 && d.showable && decide (d.depth ≤ 50) && decide (d.shown.length ≤ sizeLine)
def zcZ : List M → Option M
 | [m] => (asD m).bind fun d => if ziY d = true then some (.v (.str d.shown)) else none
 | _ => none
theorem zd8 (hu : X.A.units + 64 < cLine) (hg : X.A.guards = some []) : za3 X (.builtin "repr") (rLM X.K zcZ) := by
 intro pins s σ H xs us Q I rs h
 obtain ⟨Z, ms, m, za, hr, e, q⟩ := h
 unfold zcZ at e
 split at e
 ·obtain ⟨d, e1, e⟩ := oB e
  split at e
  ·next ok =>
   cases e
   unfold ziY at ok
   simp only [Bool.and_eq_true, decide_eq_true_eq] at ok
   obtain ⟨x, rfl, h1⟩ := zfF hr
   cases rs with
   | cons rx rr =>
    cases rr
    obtain ⟨as, rd⟩ := h1.reads I e1 ok.1.1.1.2 rx
    have hsm : d.hasDict = true → sysModules ∉ as := PyData.noDict_hsm (PyData.hasDict_of_canLay d ok.1.1.1.2)
    have key : ∀ {a : Addr}, Reads s.heap (.ref a) d as → wpAny (model X.prog X.w) X.A (call (.builtin "repr") [.ref a]) (EP X pins σ Q) X.xe s := fun {a} rd => by
     refine repr_of_reads' rd ok.1.1.2 hsm hg (by have := ok.1.2; omega) (fun _ _ e => e) (fun h' u tk k => ⟨.str _, H, I.kept (t' := tk) k, ⟨u, rfl⟩, zcs q za (.str _)⟩) ok.2
    cases d with
    | tuple ds => cases rd with
     | tuple a b c d => exact key (.tuple a b c d)
    | list ds => cases rd with
     | list a b c d => exact key (.list a b c d)
    | _ => exact absurd ok.1.1.1.1 (by simp [isSq])
  ·cases e
 ·cases e
def eqS (neg : Bool) : M → M → Option M
 | .v (.str x), .v (.str y) => some (.v (.bool (if neg then x != y else x == y)))
 | _, _ => none
theorem ziZ : OpR X (compareOp .NotEq) (rM X.K (eqS true)) := by
 intro pins s σ H x y v u Q I rx ry h
 obtain ⟨Z, m1, m2, m, za, h1, h2, e, q⟩ := h
 unfold eqS at e
 split at e
 ·cases e
  obtain rfl := h1.str
  obtain rfl := h2.str
  obtain ⟨t, rfl⟩ := rx
  obtain ⟨t', rfl⟩ := ry
  exact ne_str ⟨.bl _, H, I, rfl, zcs q za (.bl _)⟩
 ·cases e
def zi0 := zhL (fun i j => decide ((Builtin.Int.intBits i : Int) + Builtin.Int.intBits j ≤ 2 ^ 20)) fun i j => .int (i * j)
theorem zl7 : OpR X (binaryOp .Mult) (rI (fun i j => (Builtin.Int.intBits i : Int) + Builtin.Int.intBits j ≤ 2 ^ 20) fun i j => .int (i * j)) := opI fun i j _ _ _ _ _ hc q => mul_int q (by
 unfold IntMulOk Builtin.Int.intTooBig
 have h : ¬ ((Builtin.Int.intBits i : Int) + Builtin.Int.intBits j > bitsLine) := by
  have : (2 : Int) ^ 20 ≤ (bitsLine : Int) := by decide
  omega
 simp
 intro _ _
 omega)
theorem zgz : OpR X (binaryOp .Mult) (rM X.K zi0) := zfC zl7 (fun i j h => of_decide_eq_true h) fun _ _ _ _ => .int _
end
end VL
end
section
namespace L2
open PySem PySem.Spec PyProof.Rows
abbrev TM2 := St → Hp → (St → Hp → Prop) → Prop
def PEm2 (X : Cx) (em : Sem Unit) (t : TM2) : Prop :=
 ∀ (pins : List (Addr × Obj)) (s : Shared) (σ : St) (H : Hp) (R : St → Hp → Prop), Inv X pins σ H s → t σ H R →
  wpAny (model X.prog X.w) X.A em (fun _ s' => ∃ σ' H', Inv X pins σ' H' s' ∧ R σ' H') X.xe s
def zfO (g : TG) (tt : TT) (tem : TM2) (J : It) (τ : St) (H : Hp) (Q : St → Hp → Prop) : Prop :=
 ∃ W : Nat → Nat → St → Hp → Prop, (∃ m, W 0 m τ H) ∧ ∀ i m τ H, W i m τ H →
  (J.stop i H ∧ Q τ H) ∨ (J.go i H ∧ ∃ N : St → Hp → Prop, (∀ τ' H', N τ' H' → ∃ m', m' < m ∧ W (i + 1) m' τ' H') ∧ ∀ x H', J.yld i H x H' → g x τ H' fun τ2 H2 => tt τ2 H2 fun b H3 =>
   if b = true then tem τ2 H3 N else N τ2 H3)
section
variable {X : Cx} {e target iter : Expr} {ifs : List Expr} {g : TG} {tt : TT} {tem : TM2} {acc : Value} {em : Sem Unit}
theorem zdg {d : Nat} {pins : List (Addr × Obj)} {it : Addr} {fp : List Addr} {tn : Nat → Heap → Prop} {J : It} {τ : St} {H : Hp} {s : Shared} {Q : St → Hp → Prop} {R : Result → Shared → Prop}
  (ht : compTurn e d (.ref it) acc X.env = zdV target iter ifs em (.ref it) X.env (again (.compLoop e d (.ref it) acc X.env)))
  (hd : ∀ (Q : Fin → Shared → Prop) (E : Value → Shared → Prop) (s : Shared), wpAny (model X.prog X.w) X.A ((compTurn e d (.ref it) acc X.env).onRaise (fun x => do noteFrame x X.env; theTreesLotGoes x)) Q E s →
   wpAny (model X.prog X.w) (X.A.under (.compLoop e d (.ref it) acc X.env)) ((model X.prog X.w).den (.compLoop e d (.ref it) acc X.env)) Q E s)
  (hq : (Code.compLoop e d (.ref it) acc X.env).quiet = true)
  (hc : X.calm = true) (hx : X.xe = fun _ _ => False) (hg : PG X target g) (hi : zgR X ifs tt) (he : PEm2 X em tem) (T : Turn X.prog X.w X.K target J fp it tn)
  (I : Inv X pins τ H s) (st : tn 0 s.heap) (hf : ∀ b ∈ fp, zek X pins H b) (h : zfO g tt tem J τ H Q) (hR : ∀ τ' H' s', Inv X pins τ' H' s' → Q τ' H' → R (.ok .next) s') :
  codeAny (model X.prog X.w) X.A (.compLoop e d (.ref it) acc X.env) R s := by
 obtain ⟨W, ⟨m0, w0⟩, turn⟩ := h
 have stat : ∀ {H' : Hp}, (∀ b ∈ fp, H' b = none) → ∀ b ∈ fp, zek X pins H' b := fun hn b hb => ⟨hn b hb, (hf b hb).2⟩
 have noX : ∀ {α : Type} {t : Sem α} {Q : α → Shared → Prop} {s' : Shared} {E : Value → Shared → Prop}, wpAny (model X.prog X.w) X.A t Q X.xe s' → wpAny (model X.prog X.w) X.A t Q E s' := fun {α t Q s' E} h' =>
  wpAny_mono h' (fun _ _ q => q) fun _ _ z => by rw [hx] at z; exact z.elim
 refine codeAny_loop hq (fun n s' => ∃ i τ' H', Inv X pins τ' H' s' ∧ tn i s'.heap ∧ (∀ b ∈ fp, H' b = none) ∧ W i n τ' H') ?_ m0 ⟨0, τ, H, I, st, fun b hb => (hf b hb).1, w0⟩
 rintro n s3 ⟨i, σ3, H3, I3, st3, fr3, w3⟩
 refine hd _ _ _ (wpAny_noted ?_)
 rw [ht]
 unfold zdV
 refine wpAny_bind (wpAny_standAt (wpAny_bind ?_))
 rcases turn i n σ3 H3 w3 with ⟨stop, qn⟩ | ⟨go, Nx, hNx, step⟩
 ·refine thn (T.done X rfl rfl rfl hc i pins s3 σ3 H3 _ I3 (stat fr3) st3 stop) fun r s4 ⟨hr, I4⟩ => ?_
  subst hr
  exact wpAny_pure (hR _ _ _ I4 qn)
 ·refine thn (T.item X rfl rfl rfl hc i pins s3 σ3 H3 _ I3 (stat fr3) st3 go) fun r s4 ⟨u, hr, h4⟩ => ?_
  subst hr
  refine wpAny_bind (thn h4 fun _ s5 ⟨x, H5, I5, r5, y5, st5, fr5⟩ => ?_)
  have I5' := I5.pinned (stat fr5) (T.obj _ _ st5)
  refine wpAny_bind (noX (thn (hg _ s5 σ3 H5 x u _ I5' r5 (step x H5 y5)) fun _ s6 ⟨σ6, H6, I6, q6⟩ => ?_))
  have again' : ∀ {σ7 : St} {H7 : Hp} {s7 : Shared}, Inv X (pins ++ zey fp s5.heap) σ7 H7 s7 → (∃ m', m' < n ∧ W (i + 1) m' σ7 H7) → ∃ m, m < n ∧ ∃ i σ' H', Inv X pins σ' H' s7 ∧ tn i s7.heap ∧ (∀ b ∈ fp, H' b = none) ∧ W i m σ' H' := fun {σ7 H7 s7} I7 n7 => by
   obtain ⟨m', hm, w7⟩ := n7
   refine ⟨m', hm, i + 1, σ7, H7, I7.zcH, T.keep _ _ _ st5 fun b hb o e => (I7.pin (b, o) (lR _ (lR _ (zbz hb e)))).1, fun b hb => ?_, w7⟩
   obtain ⟨o, e, d⟩ := T.obj _ _ st5 b hb
   exact (I7.pin (b, o) (lR _ (lR _ (zbz hb e)))).2.1
  refine wpAny_bind (noX (thn (hi _ s6 σ6 H6 _ I6 q6) fun ok s7 ⟨H7, I7, q7⟩ => ?_))
  cases ok with
  | false => exact wpAny_pure ⟨rfl, again' I7 (hNx _ _ q7)⟩
  | true =>
   refine wpAny_bind (noX (thn (he _ s7 σ6 H7 _ I7 q7) fun _ s8 ⟨σ8, H8, I8, q8⟩ => ?_))
   exact wpAny_pure ⟨rfl, again' I8 (hNx _ _ q8)⟩
def zi1 (D : Addr) (te : TE) : TM2 := fun σ H R => te σ H fun y H1 => ∃ xs, H1 D = some (.lst xs) ∧ xs.length < sizeLine ∧ R σ (upd H1 D (.lst (xs ++ [y])))
theorem zl8 {elt : Expr} {te : TE} {D : Addr} (h : PE X elt te) : PEm2 X (do let _ ← call (.builtin "list.append") [.ref D, ← eval elt X.env]) (zi1 D te) := by
 intro pins s σ H R I hq
 refine wpAny_bind (thn (h pins s σ H _ I hq) fun u s1 ⟨y, H1, I1, r1, xs, hD, hz, q⟩ => ?_)
 refine wpAny_bind (thn (zbU pins s1 σ H1 (.ref D) [y] (.ref D) [u] (fun _ H' => R σ H') I1 rfl (.cons r1 .nil) ⟨D, xs, y, rfl, rfl, hD, hz, q⟩) fun _ s2 ⟨v, H2, I2, _, q2⟩ => ?_)
 exact wpAny_pure ⟨σ, H2, I2, q2⟩
def inner (e iter2 : Expr) (acc : Value) (env : Env) : Sem Unit := do
 let x ← eval iter2 env
 standAt iter2.pos
 let x ← foldedSetIterable iter2 env x
 let _ ← runOwn (.compStart e 1 (← holding [x] (pyIter x)) acc env) env
theorem zom (elt t1 i1 t2 i2 : Expr) (f1 f2 : List Expr) (scope : Scope) (pos : Pos) (it acc : Value) (env : Env) :
  compTurn (.ListComp elt [⟨t1, i1, f1, 0⟩, ⟨t2, i2, f2, 0⟩] scope pos) 0 it acc env = zdV t1 i1 f1 (inner (.ListComp elt [⟨t1, i1, f1, 0⟩, ⟨t2, i2, f2, 0⟩] scope pos) i2 acc env) it env (again (.compLoop (.ListComp elt [⟨t1, i1, f1, 0⟩, ⟨t2, i2, f2, 0⟩] scope pos) 0 it acc env)) := by
 unfold zdV inner
 simp only [bind_assoc, pure_bind]
 show (standAt i1.pos >>= _) = _
 refine congrArg _ (funext fun _ => ?_)
 show (pyNext it >>= _) = _
 refine congrArg _ (funext fun r => ?_)
 cases r with
 | none => rfl
 | some v =>
  show (letOwnedTupleGo t1 it v >>= _) = _
  refine congrArg _ (funext fun _ => ?_)
  show (assign t1 env v >>= _) = _
  refine congrArg _ (funext fun _ => ?_)
  refine congrArg _ (funext fun ok => ?_)
  cases ok with
  | false => rfl
  | true => rfl
theorem turn1 (elt t1 i1 t2 i2 : Expr) (f1 f2 : List Expr) (scope : Scope) (pos : Pos) (it acc : Value) (env : Env) :
  compTurn (.ListComp elt [⟨t1, i1, f1, 0⟩, ⟨t2, i2, f2, 0⟩] scope pos) 1 it acc env = zdV t2 i2 f2 (do let _ ← call (.builtin "list.append") [acc, ← eval elt env]) it env (again (.compLoop (.ListComp elt [⟨t1, i1, f1, 0⟩, ⟨t2, i2, f2, 0⟩] scope pos) 1 it acc env)) := by rfl
theorem zon {prog : Program} {w : World} {A : Around} {R : Result → Shared → Prop} {s : Shared} {elt t1 i1 t2 i2 : Expr} {f1 f2 : List Expr} {scope : Scope} {pos : Pos} {it acc : Value} {env : Env}
  (h0 : codeAny (model prog w) A (.compLoop (.ListComp elt [⟨t1, i1, f1, 0⟩, ⟨t2, i2, f2, 0⟩] scope pos) 1 it acc env) R s)
  (h : wpAny (model prog w) A (pyIter it) (fun it' s' => codeAny (model prog w) A (.compLoop (.ListComp elt [⟨t1, i1, f1, 0⟩, ⟨t2, i2, f2, 0⟩] scope pos) 1 it' acc env) R s')
   (notedBy (model prog w) A env fun x s' => R (.error x) s') s) :
  codeAny (model prog w) A (.compStart (.ListComp elt [⟨t1, i1, f1, 0⟩, ⟨t2, i2, f2, 0⟩] scope pos) 1 it acc env) R s := by
 refine codeAny_of_tree ?_
 show wpAny _ _ ((compStart (.ListComp elt [⟨t1, i1, f1, 0⟩, ⟨t2, i2, f2, 0⟩] scope pos) 1 it acc env).onRaise (fun x => do noteFrame x env; standAt theWindowsPlace)) _ _ s
 refine wpAny_notedAt ?_
 unfold compStart
 show wpAny _ _ (ask >>= _) _ _ s
 refine wpAny_bind (wpAny_askSetting (wpAny_ite ?_))
 split
 ·first
   | exact wpAny_bind (wpAny_pure (wpAny_pure (And.intro rfl h0)))
   | exact wpAny_pure (And.intro rfl h0)
 ·first
   | exact wpAny_bind (wpAny_rule (wpAny_bind (wpAny_standAt (wpAny_bind (wpAny_mono h (fun it' s' h' => wpAny_pure (And.intro rfl h')) fun _ _ x => x)))))
   | (refine wpAny_bind (wpAny_rule ?_); show wpAny _ _ (standAt i2.pos >>= _) _ _ s; exact wpAny_bind (wpAny_standAt (wpAny_bind (wpAny_mono h (fun it' s' h' => wpAny_pure (And.intro rfl h')) fun _ _ x => x))))
def tIn (wi : TI) (g : TG) (tt : TT) (tem : TM2) : TM2 := fun σ H R => wi σ H fun J H1 => zfO g tt tem J σ H1 R
theorem zoo {elt t1 i1 t2 i2 : Expr} {f1 f2 : List Expr} {scope : Scope} {pos : Pos} {D : Addr} {wi : TI} {g2 : TG} {tt2 : TT} {te : TE} (hc : X.calm = true) (hx : X.xe = fun _ _ => False) (hi : PI X t2 i2 wi) (hg : PG X t2 g2) (hif : zgR X f2 tt2) (hel : PE X elt te) (hs : ∀ x, foldedSetIterable i2 X.env x = pure x) :
  PEm2 X (inner (.ListComp elt [⟨t1, i1, f1, 0⟩, ⟨t2, i2, f2, 0⟩] scope pos) i2 (.ref D) X.env) (tIn wi g2 tt2 (zi1 D te)) := by
 intro pins s σ H R I hq
 unfold inner
 refine wpAny_bind (thn (hi pins s σ H _ I hq) fun v s1 h1 => ?_)
 refine wpAny_bind (wpAny_standAt ?_)
 rw [hs]
 refine wpAny_bind (wpAny_pure ?_)
 refine wpAny_bind (wpAny_holding (thn h1 fun itv s2 h2 => ?_))
 obtain ⟨it, fp, tn, J, H2, e, I2, T, st2, f2', h2⟩ := h2
 subst e
 refine wpAny_bind (wpAny_runOwn ?_)
 have loop : codeAny (model X.prog X.w) X.A (.compLoop (.ListComp elt [⟨t1, i1, f1, 0⟩, ⟨t2, i2, f2, 0⟩] scope pos) 1 (.ref it) (.ref D) X.env) (fun r s' => match r with | .ok f => wpAny (model X.prog X.w) X.A (pure ()) (fun _ s' => ∃ σ' H', Inv X pins σ' H' s' ∧ R σ' H') X.xe s' | .error e => cameBackBy (model X.prog X.w) X.A X.env X.xe e s') s2 :=
  zdg (turn1 ..) (fun _ _ _ z => z) rfl hc hx hg hif (zl8 hel) T I2 st2 f2' h2 fun τ' H' s' J' q => wpAny_pure ⟨τ', H', J', q⟩
 exact zon loop (T.self X.A 0 _ _ _ st2 loop)
end
def tLC2 (fr : List (Option Nat)) (wi : TI) (g : Bk → TG) (tt : Bk → TT) (wi2 : Bk → TI) (g2 : Bk → TG) (tt2 : Bk → TT) (te : Bk → TE) : TE := fun σ H Q => wi σ H fun J H1 => ∀ D, H1 D = none → ∀ z, zfO (g z) (tt z) (tIn (wi2 z) (g2 z) (tt2 z) (zi1 D (te z))) J (zgQ fr σ) (upd H1 D (.lst [])) fun _ H' => Q (.ref D) H'
section
variable {X : Cx}
theorem pe_lc2 {elt target iter t2 i2 : Expr} {ifs f2 : List Expr} {scope : Scope} {pos : Pos} {N : List Str} {fr : List (Option Nat)} {wi : TI} {g : Bk → TG} {tt : Bk → TT} {wi2 : Bk → TI} {g2 : Bk → TG} {tt2 : Bk → TT} {te : Bk → TE} (hc : X.calm = true) (S : zaX X scope N fr) (hi : PI X target iter wi)
  (hin : ∀ z : Bk, PG (zao X scope z.cl N z.C z.fp z.s z.H) target (g z) ∧ zgR (zao X scope z.cl N z.C z.fp z.s z.H) ifs (tt z) ∧ PI (zao X scope z.cl N z.C z.fp z.s z.H) t2 i2 (wi2 z) ∧ PG (zao X scope z.cl N z.C z.fp z.s z.H) t2 (g2 z) ∧ zgR (zao X scope z.cl N z.C z.fp z.s z.H) f2 (tt2 z) ∧ PE (zao X scope z.cl N z.C z.fp z.s z.H) elt (te z))
  (hs : ∀ x, foldedSetIterable iter X.env x = pure x := by intro _; rfl) (hs2 : ∀ (env : Env) x, foldedSetIterable i2 env x = pure x := by intro _ _; rfl) : PE X (.ListComp elt [⟨target, iter, ifs, 0⟩, ⟨t2, i2, f2, 0⟩] scope pos) (tLC2 fr wi g tt wi2 g2 tt2 te) := by
 intro pins s σ H Q I h
 rw [eval_ListComp]
 refine wpAny_comprehension_free (g := ⟨target, iter, ifs, 0⟩) (gs := [⟨t2, i2, f2, 0⟩]) (use := none) rfl hs (zaG (S.cells I)) S.kind S.locs ?_
 refine thn (hi pins s σ H _ I h) fun v s1 h1 => thn h1 fun itv s2 h2 => ?_
 obtain ⟨it, fp, tn, J, H2, e, I2, T, st2, f2', h2⟩ := h2
 subst e
 refine wpAny_newObj_type ?_
 have hD : H2 s2.heap.objs.size = none := I2.fresh
 have I3 := I2.zlb (t' := s2.toks) (ys := []) (its := []) .nil (Nat.zero_le _)
 have lt2 : ∀ b ∈ fp, b < s2.heap.objs.size := fun b hb => by
  obtain ⟨o, e, _⟩ := T.obj _ _ st2 b hb
  exact Heap.lt_size e
 have f3 : ∀ b ∈ fp, zek X pins (upd H2 s2.heap.objs.size (.lst [])) b := fun b hb => ⟨by rw [zaz (Nat.ne_of_lt (lt2 b hb))]; exact (f2' b hb).1, (f2' b hb).2⟩
 generalize hs3 : ({ s2 with heap := s2.heap.push { cls := .type "list", data := .seq ([] : List Value).toArray } } : Shared) = s3
 have I3 : Inv X pins σ (upd H2 s2.heap.objs.size (.lst [])) s3 := by rw [← hs3]; exact I3
 have sz3 : s3.heap.objs.size = s2.heap.objs.size + 1 := by rw [← hs3]; exact Heap.size_push ..
 have u23 : Un (frs X.stack) [] H2 (upd H2 s2.heap.objs.size (.lst [])) s2.heap s3.heap := by
  rw [← hs3]
  exact Un.laid (fun b o e => Heap.get?_push_of_some _ e) (Nat.le_refl _) hD
 have ho : s3.os = s2.os := by rw [← hs3]
 have st3 : tn 0 s3.heap := T.keep _ _ _ st2 fun b _ o e => by rw [← hs3]; exact Heap.get?_push_of_some _ e
 refine wpAny_newFunctionEnv S.nocell (by intro y hy; simp at hy) (fun h4 hns hsb => ?_) S.kind
 have lt3 : ∀ b ∈ fp, b < s3.heap.objs.size := fun b hb => Nat.lt_of_lt_of_le (lt2 b hb) (by rw [sz3]; exact Nat.le_succ _)
 have I4 := zdH (tk := s3.toks + ([] : List (Str × Value)).length) I3 S f3 lt3 hns hsb
 have old4 : ∀ b o, s3.heap.get? b = some o → h4.get? b = some o := fun b o e => (hsb.2 b (Nat.ne_of_lt (Heap.lt_size e))).trans (Heap.get?_push_of_some _ e)
 have st4 : tn 0 h4 := T.keep _ _ _ st3 fun b _ o e => old4 b o e
 have h2 := h2 _ hD ⟨zal X.env.cells scope.names [], s3.heap.objs.size, fp, s3, upd H2 s2.heap.objs.size (.lst [])⟩
 obtain ⟨hg, hif, hi2, hg2, hif2, hel⟩ := hin ⟨zal X.env.cells scope.names [], s3.heap.objs.size, fp, s3, upd H2 s2.heap.objs.size (.lst [])⟩
 have loop : codeAny (model X.prog X.w) X.A (.compLoop (.ListComp elt [⟨target, iter, ifs, 0⟩, ⟨t2, i2, f2, 0⟩] scope pos) 0 (.ref it) (.ref s2.heap.objs.size) (compEnvC scope (zal X.env.cells scope.names []) s3.heap.objs.size X.env))
   (compPost (model X.prog X.w) X.A X.xe none (EP X pins σ Q) (.ref s2.heap.objs.size) s3.heap.objs.size) { s3 with heap := h4, toks := s3.toks + ([] : List (Str × Value)).length } := by
  refine zdg (X := zao X scope (zal X.env.cells scope.names []) N s3.heap.objs.size fp s3 (upd H2 s2.heap.objs.size (.lst []))) (pins := [])
   (zom ..) (fun _ _ _ z => z) rfl hc rfl hg hif (zoo hc rfl hi2 hg2 hif2 hel (hs2 _)) T I4 st4 (fun b hb => ?_) h2 (fun τ' H' s' J' q => ?_)
  ·obtain ⟨f0, f1, fs, fe, fc, fp'⟩ := f3 b hb
   refine ⟨f0, Nat.ne_of_lt (lt3 b hb), fun z => ?_, .inl hb, fun x c e => fc x c (zaJ scope.names [] (fun _ _ z => by simp at z) e), fun p hp => absurd (show p ∈ ([] : List (Addr × Obj)) from hp) (by simp)⟩
   rcases lK (I3.zcr b z) with z | z
   ·exact f1 z
   ·exact fs z
  ·obtain ⟨m, hn, _⟩ := J'.loc
   exact ⟨m, hn, fun h' sb => ⟨.ref s2.heap.objs.size, H', zbZ I2 f2' u23 ho (by rw [sz3]; exact Nat.le_succ _) J' sb, rfl, q⟩⟩
 exact codeAny_compStart_list loop (T.self X.A 0 _ _ _ st4 loop)
theorem zl9 {i : Nat} {x : Str} {elt target iter t2 i2 : Expr} {ifs f2 : List Expr} {scope : Scope} {pos pos' spos : Pos} {N : List Str} {fr : List (Option Nat)} {wi : TI} {g : Bk → TG} {tt : Bk → TT} {wi2 : Bk → TI} {g2 : Bk → TG} {tt2 : Bk → TT} {te : Bk → TE} (hN : X.N.Nodup) (hi' : X.N[i]? = some x) (hx : X.env.scope.names.lookup x = some .local)
  (hc : X.calm = true) (S : zaX X scope N fr) (hi : PI X target iter wi)
  (hin : ∀ z : Bk, PG (zao X scope z.cl N z.C z.fp z.s z.H) target (g z) ∧ zgR (zao X scope z.cl N z.C z.fp z.s z.H) ifs (tt z) ∧ PI (zao X scope z.cl N z.C z.fp z.s z.H) t2 i2 (wi2 z) ∧ PG (zao X scope z.cl N z.C z.fp z.s z.H) t2 (g2 z) ∧ zgR (zao X scope z.cl N z.C z.fp z.s z.H) f2 (tt2 z) ∧ PE (zao X scope z.cl N z.C z.fp z.s z.H) elt (te z))
  (hs : ∀ x, foldedSetIterable iter X.env x = pure x := by intro _; rfl) (hs2 : ∀ (env : Env) x, foldedSetIterable i2 env x = pure x := by intro _ _; rfl) (hsw : swapsWith (.ListComp elt [⟨target, iter, ifs, 0⟩, ⟨t2, i2, f2, 0⟩] scope pos) (some (.Name x pos')) spos.line X.env = pure true := by rfl) :
  PS X (.Assign [.Name x pos'] (.ListComp elt [⟨target, iter, ifs, 0⟩, ⟨t2, i2, f2, 0⟩] scope pos) spos) (zhT (tLC2 fr wi g tt wi2 g2 tt2 te) (zhS i)) := by
 intro pins s σ H Dn I h
 rw [exec_Assign_Name_used _ _ _ _ hsw]
 refine wpAny_bind (wpAny_standAt (wpAny_bind ?_))
 show wpAny _ X.A (do let _ ← comprehension (.ListComp elt [⟨target, iter, ifs, 0⟩, ⟨t2, i2, f2, 0⟩] scope pos) scope X.env (firstIterPos [⟨target, iter, ifs, 0⟩, ⟨t2, i2, f2, 0⟩] pos) (newList []) (firstAsync [⟨target, iter, ifs, 0⟩, ⟨t2, i2, f2, 0⟩]) (firstIter [⟨target, iter, ifs, 0⟩, ⟨t2, i2, f2, 0⟩] X.env) (some (assign (.Name x pos') X.env))) _ _ s
 refine wpAny_bind (wpAny_mono (wpAny_comprehension_free (g := ⟨target, iter, ifs, 0⟩) (gs := [⟨t2, i2, f2, 0⟩]) (use := some (assign (.Name x pos') X.env)) (Q := fun _ s' => SP X pins Dn .next s') (E := X.xe) rfl hs (zaG (S.cells I)) S.kind S.locs ?_) (fun _ s' hq => wpAny_pure (wpAny_pure hq)) fun _ _ e => e)
 refine thn (hi pins s σ H _ I h) fun v s1 h1 => thn h1 fun itv s2 h2 => ?_
 obtain ⟨it, fp, tn, J, H2, e, I2, T, st2, f2', h2⟩ := h2
 subst e
 refine wpAny_newObj_type ?_
 have hD : H2 s2.heap.objs.size = none := I2.fresh
 have I3 := I2.zlb (t' := s2.toks) (ys := []) (its := []) .nil (Nat.zero_le _)
 have lt2 : ∀ b ∈ fp, b < s2.heap.objs.size := fun b hb => by
  obtain ⟨o, e, _⟩ := T.obj _ _ st2 b hb
  exact Heap.lt_size e
 have f3 : ∀ b ∈ fp, zek X pins (upd H2 s2.heap.objs.size (.lst [])) b := fun b hb => ⟨by rw [zaz (Nat.ne_of_lt (lt2 b hb))]; exact (f2' b hb).1, (f2' b hb).2⟩
 generalize hs3 : ({ s2 with heap := s2.heap.push { cls := .type "list", data := .seq ([] : List Value).toArray } } : Shared) = s3
 have I3 : Inv X pins σ (upd H2 s2.heap.objs.size (.lst [])) s3 := by rw [← hs3]; exact I3
 have sz3 : s3.heap.objs.size = s2.heap.objs.size + 1 := by rw [← hs3]; exact Heap.size_push ..
 have u23 : Un (frs X.stack) [] H2 (upd H2 s2.heap.objs.size (.lst [])) s2.heap s3.heap := by
  rw [← hs3]
  exact Un.laid (fun b o e => Heap.get?_push_of_some _ e) (Nat.le_refl _) hD
 have ho : s3.os = s2.os := by rw [← hs3]
 have st3 : tn 0 s3.heap := T.keep _ _ _ st2 fun b _ o e => by rw [← hs3]; exact Heap.get?_push_of_some _ e
 refine wpAny_newFunctionEnv S.nocell (by intro y hy; simp at hy) (fun h4 hns hsb => ?_) S.kind
 have lt3 : ∀ b ∈ fp, b < s3.heap.objs.size := fun b hb => Nat.lt_of_lt_of_le (lt2 b hb) (by rw [sz3]; exact Nat.le_succ _)
 have I4 := zdH (tk := s3.toks + ([] : List (Str × Value)).length) I3 S f3 lt3 hns hsb
 have old4 : ∀ b o, s3.heap.get? b = some o → h4.get? b = some o := fun b o e => (hsb.2 b (Nat.ne_of_lt (Heap.lt_size e))).trans (Heap.get?_push_of_some _ e)
 have st4 : tn 0 h4 := T.keep _ _ _ st3 fun b _ o e => old4 b o e
 have h2 := h2 _ hD ⟨zal X.env.cells scope.names [], s3.heap.objs.size, fp, s3, upd H2 s2.heap.objs.size (.lst [])⟩
 obtain ⟨hg, hif, hi2, hg2, hif2, hel⟩ := hin ⟨zal X.env.cells scope.names [], s3.heap.objs.size, fp, s3, upd H2 s2.heap.objs.size (.lst [])⟩
 have loop : codeAny (model X.prog X.w) X.A (.compLoop (.ListComp elt [⟨target, iter, ifs, 0⟩, ⟨t2, i2, f2, 0⟩] scope pos) 0 (.ref it) (.ref s2.heap.objs.size) (compEnvC scope (zal X.env.cells scope.names []) s3.heap.objs.size X.env))
   (compPost (model X.prog X.w) X.A X.xe (some (assign (.Name x pos') X.env)) (fun _ s' => SP X pins Dn .next s') (.ref s2.heap.objs.size) s3.heap.objs.size) { s3 with heap := h4, toks := s3.toks + ([] : List (Str × Value)).length } := by
  refine zdg (X := zao X scope (zal X.env.cells scope.names []) N s3.heap.objs.size fp s3 (upd H2 s2.heap.objs.size (.lst []))) (pins := [])
   (zom ..) (fun _ _ _ z => z) rfl hc rfl hg hif (zoo hc rfl hi2 hg2 hif2 hel (hs2 _)) T I4 st4 (fun b hb => ?_) h2 (fun τ' H' s' J' q => ?_)
  ·obtain ⟨f0, f1, fs, fe, fc, fp'⟩ := f3 b hb
   refine ⟨f0, Nat.ne_of_lt (lt3 b hb), fun z => ?_, .inl hb, fun x c e => fc x c (zaJ scope.names [] (fun _ _ z => by simp at z) e), fun p hp => absurd (show p ∈ ([] : List (Addr × Obj)) from hp) (by simp)⟩
   rcases lK (I3.zcr b z) with z | z
   ·exact f1 z
   ·exact fs z
  ·obtain ⟨m, hn, _⟩ := J'.loc
   have Io : Inv X pins σ H' s' := zbZ (h' := s'.heap) I2 f2' u23 ho (by rw [sz3]; exact Nat.le_succ _) J' (Heap.SameBut.refl ..)
   have Lne : X.env.locals ≠ s3.heap.objs.size := Nat.ne_of_lt I3.lt
   have cne : ∀ y c, X.env.cells.lookup y = some c → c ≠ s3.heap.objs.size := fun y c e => by
    obtain ⟨v, z⟩ := I3.cell y c e
    exact Nat.ne_of_lt z.lt
   show wpAny (model X.prog X.w) X.A (assign (.Name x pos') X.env (.ref s2.heap.objs.size)) _ X.xe s'
   refine wpAny_assign_Name (zcG (v := .ref s2.heap.objs.size) Io hN hi' (.inl hx) rfl (fun s5 I5 sb5 => ?_) (.inr hx))
   obtain ⟨b, sb, hb⟩ := sb5
   have hbne : s3.heap.objs.size ≠ b := by
    rcases hb with e | e
    ·rw [e]; exact Lne.symm
    ·exact (cne _ _ e).symm
   refine ⟨m, hn.sameBut sb hbne, fun h' sb' => ⟨_, H', ?_, q⟩⟩
   refine I5.zil (C := s3.heap.objs.size) J'.free Lne.symm I3.sz cne (fun p hp => ?_) sb'
   exact Nat.ne_of_lt (Heap.lt_size (I3.pin p hp).1)
 exact codeAny_compStart_list loop (T.self X.A 0 _ _ _ st4 loop)
end
end L2
end
section
namespace VL
open PySem PySem.Spec L2 PyProof.Rows
def zc0 (fg : FG) (ft : FT) (fi2 : FI) (fg2 : FG) (ft2 : FT) (fe : FE) : List PyData → Ev → List PyData → Option (List PyData × Ev)
 | [], ρ, acc => some (acc, ρ)
 | d :: ds, ρ, acc => (fg d ρ).bind fun ρ1 => (ft ρ1).bind fun t => if t.1 = true then
   (fi2 t.2).bind fun p => (zaY fg2 ft2 fe p.1 p.2 acc).bind fun q => zc0 fg ft fi2 fg2 ft2 fe ds q.2 q.1
  else zc0 fg ft fi2 fg2 ft2 fe ds t.2 acc
def vLC2 (n : Nat) (js : List Nat) (fi : FI) (fg : FG) (ft : FT) (fi2 : FI) (fg2 : FG) (ft2 : FT) (fe : FE) : FE := fun ρ => (fi ρ).bind fun p => (caps p.2 js).bind fun os => (zbT os p.2).bind fun q =>
 (zc0 fg ft fi2 fg2 ft2 fe p.1 (List.replicate n none ++ q.1.map some) []).bind fun r => (fin (List.replicate js.length true) q.1 (r.2.drop n)).bind fun ms' => some (.t (.lst r.1), zgq os ms' q.2)
section
variable {X : Cx} {pos : Pos}
theorem zj0 {pv : Pv} {fg : FG} {ft : FT} {fe : FE} {J : It} {ds : List PyData} {D : Addr} {τ : L2.St} {H1 : Hp} {Z1 : Zs} {A : List Addr} {ρ0 : Ev} {r : List PyData × Ev} {xs0 : List V} {acc0 : List PyData} {Q : L2.St → Hp → Prop} (S : Owo X.K H1 Z1 τ ρ0 A) (w : Wf H1 Z1 (A ++ [D])) (P : Pin pv τ) (d0 : H1 D = some (.lst xs0)) (z0 : Fzs X.K H1 Z1 xs0 acc0) (hJ : zhE X.K J H1 Z1 ds) (e : zaY fg ft fe ds ρ0 acc0 = some r)
  (q : ∀ τ' H' Z' F' xs, Owo X.K H' Z' τ' r.2 F' → Pin pv τ' → H' D = some (.lst xs) → Fzs X.K H' Z' xs r.1 → Fut H1 Z1 (A ++ [D]) H' Z' (F' ++ [D]) → Q τ' H') : zfO (vG X.K pv fg) (vT X.K ft) (zi1 D (vE X.K fe)) J τ H1 Q := by
 refine ⟨fun i m τ' H' => m = ds.length - i ∧ i ≤ ds.length ∧ ∃ Z' ρ' F' acc xs, Owo X.K H' Z' τ' ρ' F' ∧ Pin pv τ' ∧ H' D = some (.lst xs) ∧ Fzs X.K H' Z' xs acc ∧ Fut H1 Z1 (A ++ [D]) H' Z' (F' ++ [D]) ∧ zaY fg ft fe (ds.drop i) ρ' acc = some r, ⟨_, rfl, Nat.zero_le _, Z1, ρ0, A, acc0, xs0, S, P, d0, z0, Fut.refl w, e⟩, fun i m τ2 H2 hW => ?_⟩
 obtain ⟨rfl, hi, Z2, ρ2, F2, acc, xs, S2, P2, d2, z2, f2, e2⟩ := hW
 rcases Nat.lt_or_eq_of_le hi with hi | rfl
 ·right
  rw [List.drop_eq_getElem_cons hi] at e2
  have hd : ds[i]? = some ds[i] := List.getElem?_eq_getElem hi
  obtain ⟨go, yl⟩ := hJ.go H2 Z2 (f2.grow w) i _ hd
  obtain ⟨ρ3, e3, e2⟩ := oB e2
  obtain ⟨⟨b, ρ4⟩, e4, e2⟩ := oB e2
  refine ⟨go, fun τ' H' => ∃ m', m' < ds.length - i ∧ m' = ds.length - (i + 1) ∧ i + 1 ≤ ds.length ∧ ∃ Z' ρ' F' acc xs, Owo X.K H' Z' τ' ρ' F' ∧ Pin pv τ' ∧ H' D = some (.lst xs) ∧ Fzs X.K H' Z' xs acc ∧ Fut H1 Z1 (A ++ [D]) H' Z' (F' ++ [D]) ∧ zaY fg ft fe (ds.drop (i + 1)) ρ' acc = some r, fun τ' H' h => h, fun x H' hx => ?_⟩
  obtain ⟨s, fz⟩ := yl x H' hx
  have gs : za0 H2 Z2 H' Z2 := za0.same s
  have S2' := S2.mono gs fun a _ o e => s a o e
  obtain ⟨m1, m2, m3⟩ := zaC f2.nd
  have alD : ∀ a ∈ F2 ++ [D], H2 a ≠ none := fun a h e => by
   rcases lM h with h | h
   ·exact S2.al a h e
   ·rw [List.mem_singleton.mp h, d2] at e; cases e
  have fs : Fut H2 Z2 (F2 ++ [D]) H' Z2 (F2 ++ [D]) := by
   have := (Fut.same s f2.za).news f2.wf alD
   rw [List.append_nil] at this
   exact this
  refine ⟨Z2, ρ2, F2, _, ρ3, S2', m1, P2, fz, e3, fun τ3 F3 S3 n3 s3 P3 => ?_⟩
  have f3 : Fut H1 Z1 (A ++ [D]) H' Z2 (F3 ++ [D]) := (f2.trans fs).sub (zav n3 m2 fun a h z => m3 a (s3 a h) z) fun a h => by
   rcases lM h with h | h
   ·exact lL _ (s3 a h)
   ·exact lR _ h
  have d3 : H' D = some (.lst xs) := s D _ d2
  have alD3 : ∀ {Hx : Hp} {u : List V}, Hx D = some (.lst u) → ∀ a ∈ [D], Hx a ≠ none := fun {Hx u} h a ha e => by rw [List.mem_singleton.mp ha, h] at e; cases e
  refine ⟨Z2, ρ3, F3, b, ρ4, S3, f3.left.wf, e4, fun H4 Z4 F4 S4 g4 => ?_⟩
  have f4 : Fut H1 Z1 (A ++ [D]) H4 Z4 (F4 ++ [D]) := f3.trans (g4.frame f3.wf (alD3 d3))
  have d4 : H4 D = some (.lst xs) := g4.keep D _ (fun z => (zaC f3.nd).2.2 D z lS) d3
  have z4 := (z2.mono gs).mono (g4.grow f3.left.wf)
  cases b with
  | false => exact zlj ⟨_, by omega, rfl, hi, Z4, ρ4, F4, acc, xs, S4, P3, d4, z4, f4, e2⟩
  | true =>
   obtain ⟨⟨o5, ρ5⟩, e5, e2⟩ := oB e2
   obtain ⟨⟨d, ρ6⟩, e6, e2⟩ := oB e2
   split at e2
   ·next hl =>
    refine zlk ⟨Z4, ρ4, F4, o5, ρ5, S4, f4.left.wf, e5, fun y H5 Z5 F5 G5 S5 O5 g5 => ?_⟩
    have d5 : H5 D = some (.lst xs) := g5.keep D _ (fun z => (zaC f4.nd).2.2 D z lS) d4
    have f5 : Fut H1 Z1 (A ++ [D]) H5 Z5 (F5 ++ G5 ++ [D]) := f4.trans (g5.frame f4.wf (alD3 d4))
    obtain ⟨Z6, F6, S6, y6, f6, g6⟩ := freeze S5 O5 f5 e6
    have z6 := (z4.mono (g5.grow f4.left.wf)).mono g6
    obtain ⟨f7, g7⟩ := f6.put (o' := .lst (xs ++ [y])) d5 (fun _ z => nomatch z) (fun _ _ z => nomatch z)
    refine ⟨xs, d5, zdZ (Nat.le_of_lt (by rw [z6.length]; exact hl)), _, by omega, rfl, hi, Z6, ρ6, F6, acc ++ [d], xs ++ [y], S6.mono g7 fun a h o e => ?_, P3, zay, (z6.mono g7).append (.cons (y6.mono g7) .nil), f7, e2⟩
    have hne : a ≠ D := fun z => (zaC f6.nd).2.2 a h (by rw [z]; exact lS)
    rw [zaz hne]
    exact e
   ·cases e2
 ·left
  rw [List.drop_length] at e2
  cases e2
  exact ⟨hJ.stop H2 Z2 (f2.grow w) _ (Nat.le_refl _), q τ2 H2 Z2 F2 xs S2 P2 d2 z2 f2⟩
theorem zj1 {pv : Pv} {fg : FG} {ft : FT} {fi2 : FI} {fg2 : FG} {ft2 : FT} {fe : FE} {J : It} {ds : List PyData} {D : Addr} {τ : L2.St} {H1 : Hp} {Z1 : Zs} {A : List Addr} {ρ0 : Ev} {r : List PyData × Ev} {xs0 : List V} {acc0 : List PyData} {Q : L2.St → Hp → Prop} (S : Owo X.K H1 Z1 τ ρ0 A) (w : Wf H1 Z1 (A ++ [D])) (P : Pin pv τ) (d0 : H1 D = some (.lst xs0)) (z0 : Fzs X.K H1 Z1 xs0 acc0) (hJ : zhE X.K J H1 Z1 ds) (e : zc0 fg ft fi2 fg2 ft2 fe ds ρ0 acc0 = some r)
  (q : ∀ τ' H' Z' F' xs, Owo X.K H' Z' τ' r.2 F' → Pin pv τ' → H' D = some (.lst xs) → Fzs X.K H' Z' xs r.1 → Fut H1 Z1 (A ++ [D]) H' Z' (F' ++ [D]) → Q τ' H') : zfO (vG X.K pv fg) (vT X.K ft) (tIn (vI X.K fi2) (vG X.K pv fg2) (vT X.K ft2) (zi1 D (vE X.K fe))) J τ H1 Q := by
 refine ⟨fun i m τ' H' => m = ds.length - i ∧ i ≤ ds.length ∧ ∃ Z' ρ' F' acc xs, Owo X.K H' Z' τ' ρ' F' ∧ Pin pv τ' ∧ H' D = some (.lst xs) ∧ Fzs X.K H' Z' xs acc ∧ Fut H1 Z1 (A ++ [D]) H' Z' (F' ++ [D]) ∧ zc0 fg ft fi2 fg2 ft2 fe (ds.drop i) ρ' acc = some r, ⟨_, rfl, Nat.zero_le _, Z1, ρ0, A, acc0, xs0, S, P, d0, z0, Fut.refl w, e⟩, fun i m τ2 H2 hW => ?_⟩
 obtain ⟨rfl, hi, Z2, ρ2, F2, acc, xs, S2, P2, d2, z2, f2, e2⟩ := hW
 rcases Nat.lt_or_eq_of_le hi with hi | rfl
 ·right
  rw [List.drop_eq_getElem_cons hi] at e2
  have hd : ds[i]? = some ds[i] := List.getElem?_eq_getElem hi
  obtain ⟨go, yl⟩ := hJ.go H2 Z2 (f2.grow w) i _ hd
  obtain ⟨ρ3, e3, e2⟩ := oB e2
  obtain ⟨⟨b, ρ4⟩, e4, e2⟩ := oB e2
  refine ⟨go, fun τ' H' => ∃ m', m' < ds.length - i ∧ m' = ds.length - (i + 1) ∧ i + 1 ≤ ds.length ∧ ∃ Z' ρ' F' acc xs, Owo X.K H' Z' τ' ρ' F' ∧ Pin pv τ' ∧ H' D = some (.lst xs) ∧ Fzs X.K H' Z' xs acc ∧ Fut H1 Z1 (A ++ [D]) H' Z' (F' ++ [D]) ∧ zc0 fg ft fi2 fg2 ft2 fe (ds.drop (i + 1)) ρ' acc = some r, fun τ' H' h => h, fun x H' hx => ?_⟩
  obtain ⟨s, fz⟩ := yl x H' hx
  have gs : za0 H2 Z2 H' Z2 := za0.same s
  have S2' := S2.mono gs fun a _ o e => s a o e
  obtain ⟨m1, m2, m3⟩ := zaC f2.nd
  have alD : ∀ a ∈ F2 ++ [D], H2 a ≠ none := fun a h e => by
   rcases lM h with h | h
   ·exact S2.al a h e
   ·rw [List.mem_singleton.mp h, d2] at e; cases e
  have fs : Fut H2 Z2 (F2 ++ [D]) H' Z2 (F2 ++ [D]) := by
   have := (Fut.same s f2.za).news f2.wf alD
   rw [List.append_nil] at this
   exact this
  refine ⟨Z2, ρ2, F2, _, ρ3, S2', m1, P2, fz, e3, fun τ3 F3 S3 n3 s3 P3 => ?_⟩
  have f3 : Fut H1 Z1 (A ++ [D]) H' Z2 (F3 ++ [D]) := (f2.trans fs).sub (zav n3 m2 fun a h z => m3 a (s3 a h) z) fun a h => by
   rcases lM h with h | h
   ·exact lL _ (s3 a h)
   ·exact lR _ h
  have d3 : H' D = some (.lst xs) := s D _ d2
  have alD3 : ∀ {Hx : Hp} {u : List V}, Hx D = some (.lst u) → ∀ a ∈ [D], Hx a ≠ none := fun {Hx u} h a ha e => by rw [List.mem_singleton.mp ha, h] at e; cases e
  refine ⟨Z2, ρ3, F3, b, ρ4, S3, f3.left.wf, e4, fun H4 Z4 F4 S4 g4 => ?_⟩
  have f4 : Fut H1 Z1 (A ++ [D]) H4 Z4 (F4 ++ [D]) := f3.trans (g4.frame f3.wf (alD3 d3))
  have d4 : H4 D = some (.lst xs) := g4.keep D _ (fun z => (zaC f3.nd).2.2 D z lS) d3
  have z4 := (z2.mono gs).mono (g4.grow f3.left.wf)
  cases b with
  | false => exact zlj ⟨_, by omega, rfl, hi, Z4, ρ4, F4, acc, xs, S4, P3, d4, z4, f4, e2⟩
  | true =>
   obtain ⟨⟨ds2, ρ5⟩, e5, e2⟩ := oB e2
   obtain ⟨⟨acc6, ρ6⟩, e6, e2⟩ := oB e2
   refine zlk ⟨Z4, ρ4, F4, ds2, ρ5, S4, f4.left.wf, e5, fun J2 H5 Z5 F5 S5 hJ2 g5 => ?_⟩
   have d5 : H5 D = some (.lst xs) := g5.keep D _ (fun z => (zaC f4.nd).2.2 D z lS) d4
   have f5 : Fut H1 Z1 (A ++ [D]) H5 Z5 (F5 ++ [D]) := f4.trans (g5.frame f4.wf (alD3 d4))
   have z5 := z4.mono (g5.grow f4.left.wf)
   exact zj0 S5 f5.wf P3 d5 z5 hJ2 e6 fun τ' H' Z' F' xs' S6 P6 d6 z6 f6 => ⟨_, by omega, rfl, hi, Z', ρ6, F', acc6, xs', S6, P6, d6, z6, f5.trans f6, e2⟩
 ·left
  rw [List.drop_length] at e2
  cases e2
  exact ⟨hJ.stop H2 Z2 (f2.grow w) _ (Nat.le_refl _), q τ2 H2 Z2 F2 xs S2 P2 d2 z2 f2⟩
theorem zma {n : Nat} {js : List Nat} {fi : FI} {fg : FG} {ft : FT} {fi2 : FI} {fg2 : FG} {ft2 : FT} {fe : FE} {σ : L2.St} {H : Hp} {Q : VK} {fr : List (Option Nat)} (hfr : fr = List.replicate n none ++ js.map some) (hq : vE X.K (vLC2 n js fi fg ft fi2 fg2 ft2 fe) σ H Q) :
  tLC2 fr (vI X.K fi) (fun _ => vG X.K (zew n js σ) fg) (fun _ => vT X.K ft) (fun _ => vI X.K fi2) (fun _ => vG X.K (zew n js σ) fg2) (fun _ => vT X.K ft2) (fun _ => vE X.K fe) σ H Q := by
 subst hfr
 obtain ⟨Z, ρ, F, o, ρ', S, w, e, q⟩ := hq
 obtain ⟨⟨ds, ρ1⟩, e1, e⟩ := oB e
 obtain ⟨os, e2, e⟩ := oB e
 obtain ⟨⟨ms, ρh⟩, e3, e⟩ := oB e
 obtain ⟨⟨acc, ρi⟩, e4, e⟩ := oB e
 obtain ⟨ms', e5, e⟩ := oB e
 cases e
 refine ⟨Z, ρ, F, ds, ρ1, S, w, e1, fun J H1 Z1 F1 S1 hJ f1 D hD z => ?_⟩
 obtain ⟨xs, O1, hxs, hxl⟩ := ze6 S1 e2
 obtain ⟨A, Fh, h1, h2, h3, h4⟩ := zcp S1 O1 (by rw [List.append_nil]; exact f1.nd) e3
 rw [List.append_nil] at h4
 obtain ⟨n1, n2, n3⟩ := zaC h3
 have wA : Wf H1 Z1 A := ⟨n2, fun a h => f1.dz a (h4 a (lR _ h)), f1.za⟩
 have S0 := Owo.ze4 h1 n
 rw [zgu, ← hxs]
 have P0 := ziF n js σ
 rw [← hxs] at P0
 have n0 := Fut.zmn (o := .lst []) hD wA.za
 have f0 : Fut H1 Z1 A (upd H1 D (.lst [])) Z1 (A ++ [D]) := n0.news wA S0.al
 refine zj1 (S0.news n0) f0.wf P0 zay .nil (hJ.mono n0.zjN) e4 fun τ' H2 Z2 F2 ys S2 P2 d2 z2 f2' => ?_
 have f2 := f0.trans f2'
 obtain ⟨m1, m2, m3⟩ := zaC f2.nd
 obtain ⟨F3, k1, k2, k3⟩ := S2.ziG n m1
 have hml : ms.length = js.length := by rw [← h1.length, hxl]
 obtain ⟨A', a1, a2, a3⟩ := zd5 (vs := xs) k1 k2 (fun i x _ hx => by
  rw [List.getElem?_drop]
  refine P2 (n + i) x ?_
  unfold zew
  rw [if_neg (by omega), show n + i - n = i by omega]
  have hmap : (js.map (slot σ))[i]? = some (some x) := by rw [← hxs, List.getElem?_map, hx]; rfl
  rw [List.getElem?_map] at hmap
  obtain ⟨j, hj, hj'⟩ := Option.map_eq_some_iff.mp hmap
  rw [hj]
  exact hj') (fun i x d h => by
   have := List.mem_of_getElem? h
   rw [List.mem_replicate] at this
   cases this.2) h1.length e5
 have n3' : ∀ a ∈ A, a ∉ Fh := fun a h z => n3 a z h
 have Sh : Owo X.K H2 Z2 σ ρh Fh := h2.mono (f2.grow wA) fun a h o e => f2.keep a o (n3 a h) e
 have fF := f2.frame (G := Fh) ⟨zav n2 n1 n3', fun a h => by
  rcases lM h with h | h
  ·exact f1.dz a (h4 a (lR _ h))
  ·exact f1.dz a (h4 a (lL _ h)), f1.za⟩ h2.al
 obtain ⟨u1, u2, u3, u4, u5, u6⟩ := nd3 fF.nd
 obtain ⟨F4, p1, p2, p3⟩ := zcB Sh O1 a1 (zav u3 a2 fun a h z => u5 a (k3 a (a3 a z)) h) (zbV e3)
 have f4 : Fut H Z F H1 Z1 (A ++ Fh) := f1.sub (zav n2 n1 n3') fun a h => h4 a (by
  rcases lM h with h | h
  ·exact lR _ h
  ·exact lL _ h)
 refine q (.ref D) H2 Z2 F4 [D] p1 (.t (.lst d2 z2)) ((f4.trans fF).sub (zav p2 u2 fun a h z => ?_) fun a h => ?_)
 ·rcases lM (p3 a h) with y | y
  ·exact u6 a z y
  ·exact u4 a (k3 a (a3 a y)) z
 ·rcases lM h with h | h
  ·rcases lM (p3 a h) with y | y
   ·exact lR _ y
   ·exact lL _ (lL _ (k3 a (a3 a y)))
  ·exact lL _ (lR _ h)
end
end VL
end
section
namespace VL
open PySem PySem.Spec L2 PyProof.Rows
def zfP : List Int → Int → Option Nat
 | [], _ => none
 | m :: ms, n => if m = n then some 0 else (zfP ms n).map (· + 1)
theorem zdh : ∀ {ns : List Int} {n : Int} {j : Nat}, zfP ns n = some j → ns[j]? = some n ∧ ∀ (i : Nat) (m : Int), i < j → ns[i]? = some m → m ≠ n
 | [], _, _, e => by cases e
 | m :: ms, n, j, e => by
  unfold zfP at e
  split at e
  ·next h => cases e; exact ⟨by rw [h]; rfl, fun i _ hi => by omega⟩
  ·next h =>
   obtain ⟨k, hk, rfl⟩ := Option.map_eq_some_iff.mp e
   obtain ⟨h1, h2⟩ := zdh hk
   refine ⟨by simpa using h1, fun i m' hi hm => ?_⟩
   cases i with
   | zero => simp at hm; rw [← hm]; exact h
   | succ i => exact h2 i m' (by omega) (by simpa using hm)
section
variable {X : Cx} {pos : Pos} {pin : List Nat}
def rRem : V → List V → Hp → VK → Prop := fun x vs H Q => ∃ l ns n j, x = .ref l ∧ vs = [.int n] ∧ H l = some (.lst (ns.map V.int)) ∧ zfP ns n = some j ∧ Q .non (upd H l (.lst ((ns.map V.int).eraseIdx j)))
theorem zi2 : MtM X "list.remove" rRem := by
 intro pins s σ H x vs v us Q I rx rv h
 obtain ⟨l, ns, n, j, rfl, rfl, hH, hj, q⟩ := h
 cases rx
 obtain ⟨u, rfl, ru⟩ := rv.one
 obtain ⟨t, rfl⟩ := ru
 obtain ⟨z, its, nn, r, hl, e⟩ := I.zgb hH
 obtain ⟨h1, h2⟩ := zdh hj
 have at_ : ∀ (i : Nat) (y : Value), its[i]? = some y → ∃ m t', ns[i]? = some m ∧ y = .int m t' := fun i y hy => by
  have hi : i < ns.length := by
   have := (List.getElem?_eq_some_iff.mp hy).1
   rw [List.length_map] at hl
   omega
  have hx : (ns.map V.int)[i]? = some (.int ns[i]) := by rw [List.getElem?_map, List.getElem?_eq_getElem hi]; rfl
  obtain ⟨y', hy', ry⟩ := r.get hx
  rw [hy] at hy'
  cases hy'
  obtain ⟨t', rfl⟩ := ry
  exact ⟨_, t', List.getElem?_eq_getElem hi, rfl⟩
 let eb : Value → Bool := fun y => match y with
  | .int m _ => m == n
  | _ => false
 have hjl : j < its.length := by
  have := (List.getElem?_eq_some_iff.mp h1).1
  rw [List.length_map] at hl
  omega
 refine call_meets F.slot_list_remove ⟨_, e, rfl⟩ F.entry_list_remove (F.args_list_remove_2 _ _)
  (MeetsSeq.list_remove l its.toArray nn (.int n t) eb (fun y hy => ?_) j (by rw [List.size_toArray]; exact hjl) ?_ (fun m hm hmj => ?_) (by rw [List.size_toArray]; omega)) ⟨e, ?_⟩
 ·obtain ⟨i, hi, e'⟩ := Array.getElem_of_mem hy
  have hi' : its[i]? = some y := by
   rw [List.size_toArray] at hi
   rw [List.getElem?_eq_getElem hi, ← e']
   simp
  obtain ⟨m, t', _, rfl⟩ := at_ i y hi'
  exact MeetsSeq.EqGives.int m n t' t
 ·obtain ⟨m, t', hm, e'⟩ := at_ j its[j] (List.getElem?_eq_getElem hjl)
  show eb (its.toArray[j]) = true
  rw [show its.toArray[j]'(by rw [List.size_toArray]; exact hjl) = its[j] by simp, e']
  rw [h1] at hm
  cases hm
  exact beq_self_eq_true n
 ·have hm' : m < its.length := by rw [List.size_toArray] at hm; exact hm
  obtain ⟨k, t', hk, e'⟩ := at_ m its[m] (List.getElem?_eq_getElem hm')
  show eb (its.toArray[m]) = false
  rw [show its.toArray[m]'hm = its[m] by simp, e']
  exact beq_eq_false_iff_ne.mpr (h2 m k hmj hk)
 ·refine ⟨.non, _, I.zm8 (its' := its.eraseIdx j) hH e ?_ (r.eraseIdx j) ?_, rfl, q⟩
  ·show its.toArray.eraseIdxIfInBounds j = (its.eraseIdx j).toArray
   rw [List.eraseIdxIfInBounds_toArray]
  ·have := zdT (ns.map V.int) j
   omega
def zop (i : Nat) (fa : FA) : FE := fun ρ => (at? ρ i).bind fun m0 => match m0 with
 | .lst _ => (fa ρ).bind fun p => match p.1 with
  | [o] => (peek p.2 o).bind fun mk => match mk with
   | .v (.int k) => (at? p.2 i).bind fun m => match m with
    | .lst ds => (zfh ds).bind fun ns => (zfP ns k).bind fun n => some (.t (.v .none), p.2.set i (some (.lst (ds.eraseIdx n))))
    | _ => none
   | _ => none
  | _ => none
 | _ => none
theorem zmb {i : Nat} {fa : FA} {σ : L2.St} {H : Hp} {Q : VK} (hq : vE X.K (zop i fa) σ H Q) : tBM X.K "list" rRem (zdC i) (vA X.K fa) σ H Q := by
 obtain ⟨Z, ρ, F, o, ρ', S, w, e, q⟩ := hq
 obtain ⟨m0, e0, e⟩ := oB e
 split at e
 ·rename_i ds0
  obtain ⟨x, G, h1, h2, _⟩ := S.get (zas.mp e0)
  obtain ⟨a, xs0, rfl, ha, _⟩ := (show Ro X.K H Z x (.lst ds0) from ⟨G, h2⟩).lst
  refine ⟨.ref a, h1, .inl ⟨rfl, _, SqL.of ha⟩, ?_⟩
  obtain ⟨⟨os, ρ1⟩, e1, e⟩ := oB e
  refine ⟨Z, ρ, F, os, ρ1, S, w, e1, fun xs H1 Z1 F1 G1 S1 O1 f1 => ?_⟩
  dsimp only at e
  split at e
  ·rename_i o1
   obtain ⟨mk, e2, e⟩ := oB e
   split at e
   ·rename_i k
    obtain ⟨m, e3, e⟩ := oB e
    split at e
    ·rename_i ds
     obtain ⟨ns, e4, e⟩ := oB e
     obtain ⟨n, e5, e⟩ := oB e
     cases e
     cases O1 with
     | cons p1 r1 =>
      cases r1
      rw [List.append_nil] at f1
      obtain ⟨G2, p2⟩ := p1.peek S1 e2
      cases p2 with
      | v fz =>
       cases fz
       have f2 := f1.sub (zaC f1.nd).1 fun b hb => lL _ hb
       obtain ⟨x', G', k1, k2, k3⟩ := zmt S1 f2 e3
       rw [h1] at k1; cases k1
       cases k2 with
       | lst hb fb =>
        obtain ⟨g, _, k4⟩ := k3 a (.lst (_)) lS
        obtain ⟨F3, S3, f3⟩ := k4 (.lst (ds.eraseIdx n)) [a] (fun _ h => h) (List.nodup_cons.mpr ⟨List.not_mem_nil, List.nodup_nil⟩) (.lst zay ((fb.erase n).mono g))
        have fb' := fb
        rw [zbn e4] at fb'
        have hx := fb'.zbm
        subst hx
        exact ⟨a, ns, k, n, rfl, rfl, hb, e5, q .non _ Z1 F3 [] S3 (.t (.v .non)) f3.nil⟩
    ·cases e
   ·cases e
  ·cases e
 ·cases e
theorem zoq (i : Nat) {e : Expr} {es : List Expr} {fa : FA} {x : Str} {p1 p2 : Pos} (ha : WA X (e :: es) fa) (hpe : ∀ (to : TE) (t : TA), PE X (.Name x p1) to → PA X (e :: es) t → PE X (.Call (.Attribute (.Name x p1) "remove" p2) (e :: es) [] pos) (tBM X.K "list" rRem to t)) (hv : PE X (.Name x p1) (zdC i)) : WE X (.Call (.Attribute (.Name x p1) "remove" p2) (e :: es) [] pos) (zop i fa) := ⟨za4 (hpe _ _ hv ha.h) fun _ _ _ => zmb⟩
theorem zmc {i : Nat} {x : Str} (n : Nat) (js : List Nat) {elt target iter t2 i2 : Expr} {ifs f2 : List Expr} {scope : Scope} {N : List Str} {fr : List (Option Nat)} {pinI : List Nat} {fi : FI} {fg : FG} {ft : FT} {fi2 : FI} {fg2 : FG} {ft2 : FT} {fe : FE} {pos' spos : Pos} (hp0 : i ∉ pin) (hN : X.N.Nodup) (hi' : X.N[i]? = some x) (hx : X.env.scope.names.lookup x = some .local)
  (hfr : fr = List.replicate n none ++ js.map some) (hpin : pinI = (List.range js.length).map (n + ·)) (hc : X.calm = true) (S : zaX X scope N fr) (hi : WI X target iter fi)
  (hin : ∀ z : Bk, WG (zao X scope z.cl N z.C z.fp z.s z.H) pinI target fg ∧ WF (zao X scope z.cl N z.C z.fp z.s z.H) ifs ft ∧ WI (zao X scope z.cl N z.C z.fp z.s z.H) t2 i2 fi2 ∧ WG (zao X scope z.cl N z.C z.fp z.s z.H) pinI t2 fg2 ∧ WF (zao X scope z.cl N z.C z.fp z.s z.H) f2 ft2 ∧ WE (zao X scope z.cl N z.C z.fp z.s z.H) elt fe)
  (hs : ∀ x, foldedSetIterable iter X.env x = pure x := by intro _; rfl) (hs2 : ∀ (env : Env) x, foldedSetIterable i2 env x = pure x := by intro _ _; rfl) (hsw : swapsWith (.ListComp elt [⟨target, iter, ifs, 0⟩, ⟨t2, i2, f2, 0⟩] scope pos) (some (.Name x pos')) spos.line X.env = pure true := by rfl) :
  WS X pin (.Assign [.Name x pos'] (.ListComp elt [⟨target, iter, ifs, 0⟩, ⟨t2, i2, f2, 0⟩] scope pos) spos) (zbL i (vLC2 n js fi fg ft fi2 fg2 ft2 fe)) := ⟨fun pv hp pins s σ H D I hq =>
 zl9 (g := fun _ => vG X.K (zew n js σ) fg) (tt := fun _ => vT X.K ft) (wi2 := fun _ => vI X.K fi2) (g2 := fun _ => vG X.K (zew n js σ) fg2) (tt2 := fun _ => vT X.K ft2) (te := fun _ => vE X.K fe) hN hi' hx hc S hi.h (fun z => ⟨(hin z).1.h _ (zdu n js σ hpin), (hin z).2.1.h, (hin z).2.2.1.h, (hin z).2.2.2.1.h _ (zdu n js σ hpin), (hin z).2.2.2.2.1.h, (hin z).2.2.2.2.2.h⟩) hs hs2 hsw pins s σ H D I (zma hfr (zgw hp hp0 hq))⟩
end
end VL
end
section
namespace L2
open PySem PySem.Spec PyProof.Rows
theorem zd9 : ∀ (names : List (Str × NameKind)) (h : Heap) (acc : List (Str × Addr)) {x : Str} {c : Addr}, (cellsFrom h.objs.size names acc).lookup x = some c → acc.lookup x = some c ∨ ((x, NameKind.cell) ∈ names ∧ h.objs.size ≤ c ∧ (pushCells h names).IsCell c none)
 | [], h, acc, x, c, e => .inl e
 | (n, k) :: r, h, acc, x, c, e => by
  unfold cellsFrom at e
  unfold pushCells
  split at e
  ·next hk =>
   rw [if_pos hk]
   have hk' : k = .cell := by simpa using hk
   have e' : (cellsFrom (h.push { cls := .type "cell", data := .cell none }).objs.size r ((n, h.objs.size) :: acc)).lookup x = some c := by rw [Heap.size_push]; exact e
   rcases zd9 r _ _ e' with q | ⟨q1, q2, q3⟩
   ·rw [List.lookup_cons] at q
    by_cases hx : (x == n) = true
    ·rw [hx] at q
     cases q
     have hx' : x = n := by simpa using hx
     refine .inr ⟨by rw [hx', hk']; exact lS, Nat.le_refl _, ?_⟩
     exact ⟨_, pushCells_keeps _ _ _ _ (Heap.get?_push_size _ rfl), rfl⟩
    ·have hx' : (x == n) = false := by simpa using hx
     rw [hx'] at q
     exact .inl q
   ·rw [Heap.size_push] at q2
    exact .inr ⟨lO _ q1, Nat.le_of_succ_le q2, q3⟩
  ·next hk =>
   rw [if_neg hk]
   rcases zd9 r h acc e with q | ⟨q1, q2, q3⟩
   ·exact .inl q
   ·exact .inr ⟨lO _ q1, q2, q3⟩
theorem zc1 : ∀ (names : List (Str × NameKind)) (lo : Nat) (acc : List (Str × Addr)) {x : Str}, (acc.lookup x).isSome = true → ((cellsFrom lo names acc).lookup x).isSome = true
 | [], _, _, _, h => h
 | (n, k) :: r, lo, acc, x, h => by
  unfold cellsFrom
  split
  ·refine zc1 r _ _ ?_
   rw [List.lookup_cons]
   by_cases hx : (x == n) = true
   ·rw [hx]; rfl
   ·have hx' : (x == n) = false := by simpa using hx
    rw [hx']; exact h
  ·exact zc1 r _ _ h
theorem zhe : ∀ (names : List (Str × NameKind)) (lo : Nat) (acc : List (Str × Addr)) {x : Str}, (x, NameKind.cell) ∈ names → ((cellsFrom lo names acc).lookup x).isSome = true
 | [], _, _, _, h => by simp at h
 | (n, k) :: r, lo, acc, x, h => by
  unfold cellsFrom
  rcases lK h with e | h'
  ·cases e
   rw [if_pos (by rfl)]
   refine zc1 r _ _ ?_
   rw [List.lookup_cons, show (n == n) = true by simp]
   rfl
  ·split
   ·exact zhe r _ _ h'
   ·exact zhe r _ _ h'
theorem zfd : ∀ (names : List (Str × NameKind)) (lo : Nat) (acc : List (Str × Addr)) {x : Str}, (x, NameKind.cell) ∉ names → (cellsFrom lo names acc).lookup x = acc.lookup x
 | [], _, _, _, _ => rfl
 | (n, k) :: r, lo, acc, x, h => by
  unfold cellsFrom
  split
  ·next hk =>
   have hk' : k = .cell := by simpa using hk
   rw [zfd r _ _ fun z => h (lO _ z), List.lookup_cons]
   have hx : (x == n) = false := beq_eq_false_iff_ne.mpr fun e => h (by rw [e, hk']; exact lS)
   rw [hx]
  ·exact zfd r _ _ fun z => h (lO _ z)
theorem zhf (lo0 : Nat) : ∀ (names : List (Str × NameKind)) (lo : Nat) (acc acc' : List (Str × Addr)) {x : Str} {c : Addr}, (∀ x (c : Addr), acc.lookup x = some c → lo0 ≤ c → acc'.lookup x = some c) → (cellsFrom lo names acc).lookup x = some c → lo0 ≤ c → (cellsFrom lo names acc').lookup x = some c
 | [], _, _, _, x, c, h, e, hc => h x c e hc
 | (n, k) :: r, lo, acc, acc', x, c, h, e, hc => by
  unfold cellsFrom at e ⊢
  split at e
  ·next hk =>
   rw [if_pos hk]
   refine zhf lo0 r _ _ _ (fun y c' q hq => ?_) e hc
   rw [List.lookup_cons] at q ⊢
   by_cases hy : (y == n) = true
   ·rw [hy] at q ⊢; exact q
   ·have hy' : (y == n) = false := by simpa using hy
    rw [hy'] at q ⊢
    exact h y c' q hq
  ·next hk =>
   rw [if_neg hk]
   exact zhf lo0 r _ _ _ h e hc
theorem zkJ {names : List (Str × NameKind)} {h : Heap} {acc : List (Str × Addr)} (lt : ∀ x (c : Addr), acc.lookup x = some c → c < h.objs.size) (inj : ∀ x y c, acc.lookup x = some c → acc.lookup y = some c → x = y) {x y : Str} {c : Addr}
  (e1 : (cellsFrom h.objs.size names acc).lookup x = some c) (e2 : (cellsFrom h.objs.size names acc).lookup y = some c) : x = y := by
 have vac : ∀ x (c : Addr), acc.lookup x = some c → h.objs.size ≤ c → ([] : List (Str × Addr)).lookup x = some c := fun x c q hq => absurd (lt x c q) (Nat.not_lt.mpr hq)
 rcases zd9 names h acc e1 with q1 | ⟨_, q1, _⟩
 ·rcases zd9 names h acc e2 with q2 | ⟨_, q2, _⟩
  ·exact inj x y c q1 q2
  ·exact absurd (lt x c q1) (Nat.not_lt.mpr q2)
 ·have ok := cellsFrom_ok names h h.objs.size [] ⟨fun _ _ hm => (nomatch hm), List.Pairwise.nil⟩ (Nat.le_refl _)
  have m1 := zhf h.objs.size names _ acc [] vac e1 q1
  have m2 := zhf h.objs.size names _ acc [] vac e2 q1
  exact name_of_addr ok.apart (mem_of_lookup m1) (mem_of_lookup m2)
def zbg (X : Cx) (scope : Scope) (cl : List (Str × Addr)) (N : List Str) (C : Addr) (fp : List Addr) (s : Shared) (H : Hp) : Cx :=
 { zao X scope cl N C fp s H with fn := fun x => scope.names.lookup x == some .cell }
structure zb2 (X : Cx) (scope : Scope) (N : List Str) (fr : List (Option Nat)) : Prop where
 kind : scope.kind = .function
 uniq : ∀ y ∈ scope.names, scope.names.lookup y.1 = some y.2
 free : ∀ y ∈ scope.names, y.2 = .free → X.env.kindOf y.1 = some .cell ∨ X.env.kindOf y.1 = some .free
 len : fr.length = N.length
 fr : ∀ (i j : Nat) (x : Str), N[i]? = some x → fr[i]? = some (some j) → X.N[j]? = some x ∧ scope.names.lookup x = some .free
 nd : N.Nodup
theorem zc2 {scope : Scope} {env : Env} {x : Str} {k : NameKind} : (relabel scope env).names.lookup x = some k → (k = .cell ∨ k = .free) → scope.names.lookup x = some .free ∨ scope.names.lookup x = some .cell := by
 unfold relabel
 dsimp only
 generalize hn : scope.names = names
 clear hn
 induction names with
 | nil => intro h; simp at h
 | cons p r ih =>
  obtain ⟨n, k0⟩ := p
  intro h hk
  rw [List.map_cons, List.lookup_cons] at h
  rw [List.lookup_cons]
  by_cases hq : (k0 == NameKind.free && env.scope.kind == .function && env.kindOf n == some .cell) = true
  ·simp only [hq, if_true] at h
   have hf : k0 = .free := by
    rw [Bool.and_eq_true, Bool.and_eq_true] at hq
    simpa using hq.1.1
   by_cases hx : (x == n) = true
   ·rw [hx]; left; rw [hf]
   ·have hx' : (x == n) = false := by simpa using hx
    rw [hx'] at h ⊢
    exact ih h hk
  ·simp only [hq, if_false, Bool.false_eq_true] at h
   by_cases hx : (x == n) = true
   ·rw [hx] at h ⊢
    have h : some k0 = some k := h
    cases h
    rcases hk with e | e
    ·right; rw [e]
    ·left; rw [e]
   ·have hx' : (x == n) = false := by simpa using hx
    rw [hx'] at h ⊢
    exact ih h hk
section
variable {X : Cx} {pins : List (Addr × Obj)} {σ : St} {H : Hp} {s : Shared} {scope : Scope} {N : List Str} {fr : List (Option Nat)} {fp : List Addr}
theorem zb2.cells (S : zb2 X scope N fr) (I : Inv X pins σ H s) : ∀ x ∈ scope.names, x.2 = .free → ∃ a, X.env.cells.lookup x.1 = some a := fun x hx e => I.ok.has x.1 (S.free x hx e)
theorem zfQ {h1 : Heap} {m : Str → Option Value} {tk : Nat} {cl : List (Str × Addr)} (I : Inv X pins σ H s) (S : zb2 X scope N fr) (hf : ∀ b ∈ fp, zek X pins H b) (hs : ∀ b ∈ fp, b < s.heap.objs.size)
  (hns : h1.Ns s.heap.objs.size m) (old : ∀ b o, s.heap.get? b = some o → h1.get? b = some o)
  (a1 : ∀ x c, cl.lookup x = some c → (zal X.env.cells scope.names []).lookup x = some c ∨ (s.heap.objs.size < c ∧ h1.IsCell c none))
  (a2 : ∀ x y c, cl.lookup x = some c → cl.lookup y = some c → x = y) (a3 : ∀ x, scope.names.lookup x = some .cell ∨ scope.names.lookup x = some .free → ∃ c, cl.lookup x = some c) (a4 : ∀ x, scope.names.lookup x = some .free → cl.lookup x = (zal X.env.cells scope.names []).lookup x) :
  Inv (zbg X scope cl N s.heap.objs.size fp s H) [] (zgQ fr σ) H { s with heap := h1, toks := tk } := by
 have sub : ∀ y c, (zal X.env.cells scope.names []).lookup y = some c → X.env.cells.lookup y = some c := fun y c e => zaJ scope.names [] (fun _ _ z => by simp at z) e
 have ok : (zbg X scope cl N s.heap.objs.size fp s H).Ok := by
  refine ⟨I.ok.mod, ?_, I.ok.glob, I.ok.blt, Nat.le_refl _, fun x y c h1 h2 => a2 x y c h1 h2, fun x hx => ?_, fun x c z e => ?_, I.ok.hd, I.ok.frames, .inl rfl, fun b hb => ⟨?_, fun x c e => ?_⟩, fun b o e => I.bs b o e, ?_, fun b o e hb => ?_, fun b hb hs' => ?_, I.stack, I.zf4⟩
  ·exact S.kind
  ·have hx : (relabel scope X.env).names.lookup x = some .cell ∨ (relabel scope X.env).names.lookup x = some .free := hx
   rcases hx with z | z
   ·exact a3 x ((zc2 z (.inl rfl)).symm)
   ·exact a3 x ((zc2 z (.inr rfl)).symm)
  ·have z : (scope.names.lookup x == some .cell) = true := z
   have z' : scope.names.lookup x = some .cell := by simpa using z
   show s.heap.objs.size ≤ c
   rcases a1 x c e with q | ⟨q, _⟩
   ·exfalso
    obtain ⟨v, w⟩ := I.cell x c (sub x c q)
    have hm : ∀ (names : List (Str × NameKind)) (cs : List (Str × Addr)) {y : Str} {c : Addr}, (zal X.env.cells names cs).lookup y = some c → cs.lookup y = some c ∨ (y, NameKind.free) ∈ names := fun names => by
     induction names with
     | nil => intro cs y c h; exact .inl h
     | cons p r ih =>
      obtain ⟨n, k⟩ := p
      intro cs y c h
      unfold zal at h
      by_cases hk : (k == NameKind.free) = true
      ·rw [if_pos hk] at h
       have hk' : k = .free := by simpa using hk
       cases ha : X.env.cells.lookup n with
       | none =>
        rw [ha] at h
        rcases ih cs h with q | q
        ·exact .inl q
        ·exact .inr (lO _ q)
       | some a =>
        rw [ha] at h
        rcases ih _ h with q | q
        ·rw [List.lookup_cons] at q
         by_cases hy : (y == n) = true
         ·have : y = n := by simpa using hy
          exact .inr (by rw [this, hk']; exact lS)
         ·have hy' : (y == n) = false := by simpa using hy
          rw [hy'] at q
          exact .inl q
        ·exact .inr (lO _ q)
      ·rw [if_neg hk] at h
       rcases ih cs h with q | q
       ·exact .inl q
       ·exact .inr (lO _ q)
    rcases hm _ _ q with q' | q'
    ·simp at q'
    ·have := S.uniq _ q'
     rw [z'] at this
     cases this
   ·exact Nat.le_of_lt q
  ·exact Nat.ne_of_lt (hs b hb)
  ·rcases a1 x c e with q | ⟨q, _⟩
   ·exact (hf b hb).2.2.2.2.1 x c (sub x c q)
   ·exact Nat.ne_of_gt (Nat.lt_trans (hs b hb) q)
  ·exact Nat.le_trans I.ok.bsz I.sz
  ·have e : X.base.get? b = some o := e
   rcases (hf b hb).2.2.2.1 with z | z
   ·exact I.ok.noex b o e z
   ·exact absurd (Nat.lt_of_lt_of_le (Heap.lt_size e) (Nat.le_trans I.ok.bsz z)) (Nat.lt_irrefl _)
  ·rcases lK (I.zcr b hs') with z | z
   ·exact (hf b hb).2.1 z
   ·exact (hf b hb).2.2.1 z
 refine ⟨ok, rfl, I.bare, Un.kept old, ⟨m, hns, fun i x v h1' h2 h3 => ?_⟩, fun x c e => ?_, I.hok.fresh (Nat.le_refl _), fun x c e => ?_, fun p hp => absurd (show p ∈ ([] : List (Addr × Obj)) from hp) (by simp), I.hok.kept old, ?_⟩
 ·have h1' : N[i]? = some x := h1'
  have h2 : (zgQ fr σ)[i]? = some (some v) := h2
  unfold zgQ at h2
  rw [List.getElem?_map] at h2
  cases e : fr[i]? with
  | none => rw [e] at h2; cases h2
  | some o =>
   rw [e] at h2
   cases o with
   | none => cases h2
   | some j =>
    obtain ⟨hj, hx⟩ := S.fr i j x h1' e
    have h2 : some (match σ[j]? with | some v => v | none => none) = some (some v) := h2
    injection h2 with h2
    cases ej : σ[j]? with
    | none => rw [ej] at h2; cases h2
    | some w' =>
     rw [ej] at h2
     have h2 : w' = some v := h2
     subst h2
     have hk := S.free _ (zat hx) rfl
     obtain ⟨m0, hn0, hl⟩ := I.loc
     have vis : Vis X.env.scope x := by
      rcases hk with z | z
      ·exact .inr (.inl z)
      ·exact .inr (.inr z)
     obtain ⟨u, r, l⟩ := hl j x v hj ej vis
     refine ⟨u, r, ?_⟩
     rcases l with ⟨k, _⟩ | ⟨_, c, ec, z⟩
     ·exfalso
      rcases hk with q | q
      ·have := k.symm.trans q; cases this
      ·have := k.symm.trans q; cases this
     ·have hm := zat hx
      obtain ⟨c', ec'⟩ := Option.isSome_iff_exists.mp (zbO (cells := X.env.cells) scope.names [] hm (by rw [ec]; rfl))
      have : c' = c := by
       have q := sub x c' ec'
       rw [ec] at q
       cases q
       rfl
      subst this
      refine .inr ⟨zdp hx, c', (a4 x hx).trans ec', ?_⟩
      obtain ⟨o, ho, hd⟩ := z
      exact ⟨o, old _ o ho, hd⟩
 ·rcases a1 x c e with q | ⟨_, q⟩
  ·obtain ⟨v, o, ho, hd⟩ := I.cell x c (sub x c q)
   exact ⟨v, o, old _ o ho, hd⟩
  ·exact ⟨none, q⟩
 ·rcases a1 x c e with q | ⟨q, _⟩
  ·exact I.freeC x c (sub x c q)
  ·exact I.hok.fresh (Nat.le_of_lt q)
 ·show (zgQ fr σ).length = N.length
  unfold zgQ
  rw [List.length_map, S.len]
end
theorem zi3 {prog : Program} {w : World} {A : Around} {E : Value → Shared → Prop} {s : Shared} {scope : Scope} {globals : Addr} {closure : List (Str × Addr)} {qual : Str} {func : Option Addr} {code : Value} {outer : Env} {builtins : Addr} {Q : Env → Shared → Prop} (hk : scope.kind = .function)
  (hQ : ∀ h', h'.Ns s.heap.objs.size (fun _ => none) → (∀ b o, s.heap.get? b = some o → h'.get? b = some o) → (∀ x c, (cellsFrom (s.heap.objs.size + 1) scope.names closure).lookup x = some c → closure.lookup x = some c ∨ (s.heap.objs.size + 1 ≤ c ∧ h'.IsCell c none)) →
   Q (newEnv scope s.heap.objs.size globals (cellsFrom (s.heap.objs.size + 1) scope.names closure) qual func code (some outer) builtins) { s with heap := h' }) :
  wpAny (model prog w) A (newFunctionEnv scope globals closure [] qual func code (some outer) builtins) Q E s := by
 simp only [newFunctionEnv, Option.isSome_some, if_true]
 refine wpAny_bind (wpAny_alloc ?_)
 refine wpAny_bind (wpAny_layCells _ (fun name kind cells => by cases hkc : kind == NameKind.cell <;> simp [hkc]) _ _ _ _ ?_)
 have sz : (s.heap.push { cls := .type "dict", data := .dict #[] }).objs.size = s.heap.objs.size + 1 := Heap.size_push ..
 rw [show ({ s with heap := s.heap.push { cls := .type "dict", data := .dict #[] } } : Shared).heap.objs.size = s.heap.objs.size + 1 from sz]
 refine wpAny_bind (wpAny_pure (wpAny_pure ?_))
 refine hQ _ ((Heap.Ns.new s.heap (.type "dict")).keeps (pushCells_keeps _ _)) (fun b o e => pushCells_keeps _ _ b o (Heap.get?_push_of_some _ e)) fun x c e => ?_
 have e' : (cellsFrom (s.heap.push { cls := .type "dict", data := .dict #[] }).objs.size scope.names closure).lookup x = some c := by rw [sz]; exact e
 rcases zd9 _ _ _ e' with q | ⟨_, q1, q2⟩
 ·exact .inl q
 ·rw [sz] at q1
  exact .inr ⟨q1, q2⟩
section
variable {X : Cx}
theorem zfR {pins : List (Addr × Obj)} {σ τ : St} {H1 H3 H' : Hp} {s2 s3 s' : Shared} {fp : List Addr} {scope : Scope} {cl : List (Str × Addr)} {N : List Str} {h' : Heap}
  (I2 : Inv X pins σ H1 s2) (hf : ∀ b ∈ fp, zek X pins H1 b) (u23 : Un (frs X.stack) [] H1 H3 s2.heap s3.heap) (ho : s3.os = s2.os) (hs : s2.heap.objs.size ≤ s3.heap.objs.size)
  (J : Inv (zbg X scope cl N s3.heap.objs.size fp s3 H3) [] τ H' s') (sb : Heap.SameBut s3.heap.objs.size s'.heap h') : Inv X pins σ H' { s' with heap := h' } := by
 have hC : H' s3.heap.objs.size = none := J.free
 have hbase : Un (frs X.stack) fp H3 H' s3.heap s'.heap := J.base
 have u3 : Un (frs X.stack) fp H1 H' s2.heap s'.heap := (u23.mono (fun _ z => z) (fun _ z => nomatch z)).trans hbase
 have ne : ∀ b o, s2.heap.get? b = some o → b ≠ s3.heap.objs.size := fun b o e => Nat.ne_of_lt (Nat.lt_of_lt_of_le (Heap.lt_size e) hs)
 have u : Un (frs X.stack) fp H1 H' s2.heap h' := ⟨fun b o e n h1 h2 => (sb.2 b (ne b o e)).trans (u3.keep b o e n h1 h2), fun b o e n h1 h2 => by
   obtain ⟨sl, q⟩ := u3.slot b o e n h1 h2
   exact ⟨sl, (sb.2 b (ne b o e)).trans q⟩, u3.free, fun b o e h2 => by
   obtain ⟨o', q⟩ := u3.there b o e h2
   exact ⟨o', (sb.2 b (ne b o e)).trans q⟩, u3.zb8, u3.zdB, u3.tbls⟩
 have hok : HOk X.prog X.w H' h' := fun b ob e => by
  have q : zbK X.prog X.w H' s'.heap b ob := J.hok b ob e
  refine q.stay (fun c w' hc q => (sb.2 c ?_).trans q) (fun _ q => q) fun _ _ q => q
  intro z
  rw [z] at hc
  rcases hc with rfl | hc
  ·rw [hC] at e; cases e
  ·rw [hC] at hc; cases hc
 refine I2.zmC (s' := { s' with heap := h' }) (H' := H') (ch := fp) (J.os.trans ho) u hok J.bare fun b hb => ?_
 obtain ⟨_, f1, _, f3, f4, f5⟩ := hf b hb
 exact ⟨f3, f1, f4, f5⟩
theorem pe_lcC {elt target iter : Expr} {ifs : List Expr} {scope : Scope} {pos : Pos} {N : List Str} {fr : List (Option Nat)} {wi : TI} {g : Bk → TG} {tt : Bk → TT} {te : Bk → TE} (hc : X.calm = true) (S : zb2 X scope N fr) (hi : PI X target iter wi)
  (hin : ∀ z : Bk, PG (zbg X scope z.cl N z.C z.fp z.s z.H) target (g z) ∧ zgR (zbg X scope z.cl N z.C z.fp z.s z.H) ifs (tt z) ∧ PE (zbg X scope z.cl N z.C z.fp z.s z.H) elt (te z))
  (hs : ∀ x, foldedSetIterable iter X.env x = pure x := by intro _; rfl) : PE X (.ListComp elt [⟨target, iter, ifs, 0⟩] scope pos) (tLC fr wi g tt te) := by
 intro pins s σ H Q I h
 rw [eval_ListComp]
 refine wpAny_comprehension_free (g := ⟨target, iter, ifs, 0⟩) (gs := []) (use := none) rfl hs (zaG (S.cells I)) S.kind (fun y hy e => by rw [S.uniq y hy, e]) ?_
 refine thn (hi pins s σ H _ I h) fun v s1 h1 => thn h1 fun itv s2 h2 => ?_
 obtain ⟨it, fp, tn, J, H2, e, I2, T, st2, f2, h2⟩ := h2
 subst e
 refine wpAny_newObj_type ?_
 have hD : H2 s2.heap.objs.size = none := I2.fresh
 have I3 := I2.zlb (t' := s2.toks) (ys := []) (its := []) .nil (Nat.zero_le _)
 have lt2 : ∀ b ∈ fp, b < s2.heap.objs.size := fun b hb => by
  obtain ⟨o, e, _⟩ := T.obj _ _ st2 b hb
  exact Heap.lt_size e
 have f3 : ∀ b ∈ fp, zek X pins (upd H2 s2.heap.objs.size (.lst [])) b := fun b hb => ⟨by rw [zaz (Nat.ne_of_lt (lt2 b hb))]; exact (f2 b hb).1, (f2 b hb).2⟩
 generalize hs3 : ({ s2 with heap := s2.heap.push { cls := .type "list", data := .seq ([] : List Value).toArray } } : Shared) = s3
 have I3 : Inv X pins σ (upd H2 s2.heap.objs.size (.lst [])) s3 := by rw [← hs3]; exact I3
 have sz3 : s3.heap.objs.size = s2.heap.objs.size + 1 := by rw [← hs3]; exact Heap.size_push ..
 have u23 : Un (frs X.stack) [] H2 (upd H2 s2.heap.objs.size (.lst [])) s2.heap s3.heap := by
  rw [← hs3]
  exact Un.laid (fun b o e => Heap.get?_push_of_some _ e) (Nat.le_refl _) hD
 have ho : s3.os = s2.os := by rw [← hs3]
 have st3 : tn 0 s3.heap := T.keep _ _ _ st2 fun b _ o e => by rw [← hs3]; exact Heap.get?_push_of_some _ e
 refine zi3 S.kind fun h4 hns old4 hcl => ?_
 have lt3 : ∀ b ∈ fp, b < s3.heap.objs.size := fun b hb => Nat.lt_of_lt_of_le (lt2 b hb) (by rw [sz3]; exact Nat.le_succ _)
 have clt : ∀ x (c : Addr), (zal X.env.cells scope.names []).lookup x = some c → c < s3.heap.objs.size + 1 := fun x c e => by
  obtain ⟨v, w⟩ := I3.cell x c (zaJ scope.names [] (fun _ _ z => by simp at z) e)
  exact Nat.lt_succ_of_lt w.lt
 have I4 := zfQ (cl := (cellsFrom (s3.heap.objs.size + 1) scope.names (zal X.env.cells scope.names []))) (tk := s3.toks) I3 S f3 lt3 hns old4 (fun x c e => (hcl x c e).imp id fun q => ⟨Nat.lt_of_succ_le q.1, q.2⟩)
  (fun x y c e1 e2 => by
   have e1' : (cellsFrom (s3.heap.push { cls := .type "dict", data := .dict #[] }).objs.size scope.names (zal X.env.cells scope.names [])).lookup x = some c := by rw [Heap.size_push]; exact e1
   have e2' : (cellsFrom (s3.heap.push { cls := .type "dict", data := .dict #[] }).objs.size scope.names (zal X.env.cells scope.names [])).lookup y = some c := by rw [Heap.size_push]; exact e2
   exact zkJ (fun x c e => by rw [Heap.size_push]; exact clt x c e) (fun x y c h1 h2 => I3.ok.inj x y c (zaJ scope.names [] (fun _ _ z => by simp at z) h1) (zaJ scope.names [] (fun _ _ z => by simp at z) h2)) e1' e2')
  (fun x hx => by
   rcases hx with hx | hx
   ·exact Option.isSome_iff_exists.mp (zhe _ _ _ (zat hx))
   ·obtain ⟨a, ha⟩ := S.cells I3 _ (zat hx) rfl
    exact Option.isSome_iff_exists.mp (zc1 _ _ _ (zbO scope.names [] (zat hx) (by show (X.env.cells.lookup x).isSome = true; rw [show X.env.cells.lookup x = some a from ha]; rfl))))
  (fun x hx => zfd _ _ _ fun z => by have := S.uniq _ z; rw [hx] at this; cases this)
 have st4 : tn 0 h4 := T.keep _ _ _ st3 fun b _ o e => old4 b o e
 have h2 := h2 _ hD ⟨(cellsFrom (s3.heap.objs.size + 1) scope.names (zal X.env.cells scope.names [])), s3.heap.objs.size, fp, s3, upd H2 s2.heap.objs.size (.lst [])⟩
 obtain ⟨hg, hif, hel⟩ := hin ⟨(cellsFrom (s3.heap.objs.size + 1) scope.names (zal X.env.cells scope.names [])), s3.heap.objs.size, fp, s3, upd H2 s2.heap.objs.size (.lst [])⟩
 have loop : codeAny (model X.prog X.w) X.A (.compLoop (.ListComp elt [⟨target, iter, ifs, 0⟩] scope pos) 0 (.ref it) (.ref s2.heap.objs.size) (compEnvC scope (cellsFrom (s3.heap.objs.size + 1) scope.names (zal X.env.cells scope.names [])) s3.heap.objs.size X.env))
   (compPost (model X.prog X.w) X.A X.xe none (EP X pins σ Q) (.ref s2.heap.objs.size) s3.heap.objs.size) { s3 with heap := h4, toks := s3.toks } := by
  refine zcL (X := zbg X scope (cellsFrom (s3.heap.objs.size + 1) scope.names (zal X.env.cells scope.names [])) N s3.heap.objs.size fp s3 (upd H2 s2.heap.objs.size (.lst []))) (em := (do let _ ← call (.builtin "list.append") [.ref s2.heap.objs.size, ← eval elt (compEnvC scope (cellsFrom (s3.heap.objs.size + 1) scope.names (zal X.env.cells scope.names [])) s3.heap.objs.size X.env)]))
   (compTurn_list ..) (fun _ _ _ z => z) rfl hc rfl hg hif (zgS hel) T I4 st4 (fun b hb => ?_) h2 (fun τ' H' s' J' q => ?_)
  ·obtain ⟨f0, f1, fs, fe, fc, fp'⟩ := f3 b hb
   refine ⟨f0, Nat.ne_of_lt (lt3 b hb), fun z => ?_, .inl hb, fun x c e => (by
    rcases hcl x c e with q | q
    ·exact fc x c (zaJ scope.names [] (fun _ _ z => by simp at z) q)
    ·exact Nat.ne_of_gt (Nat.lt_of_lt_of_le (lt3 b hb) (Nat.le_of_succ_le q.1))), fun p hp => absurd (show p ∈ ([] : List (Addr × Obj)) from hp) (by simp)⟩
   rcases lK (I3.zcr b z) with z | z
   ·exact f1 z
   ·exact fs z
  ·obtain ⟨m, hn, _⟩ := J'.loc
   exact ⟨m, hn, fun h' sb => ⟨.ref s2.heap.objs.size, H', zfR I2 f2 u23 ho (by rw [sz3]; exact Nat.le_succ _) J' sb, rfl, q⟩⟩
 exact codeAny_compStart_list loop (T.self X.A 0 _ _ _ st4 loop)
theorem zi4 {i : Nat} {x : Str} {elt target iter : Expr} {ifs : List Expr} {scope : Scope} {pos pos' spos : Pos} {N : List Str} {fr : List (Option Nat)} {wi : TI} {g : Bk → TG} {tt : Bk → TT} {te : Bk → TE} (hN : X.N.Nodup) (hi' : X.N[i]? = some x) (hx : X.env.scope.names.lookup x = some .local)
  (hc : X.calm = true) (S : zb2 X scope N fr) (hi : PI X target iter wi)
  (hin : ∀ z : Bk, PG (zbg X scope z.cl N z.C z.fp z.s z.H) target (g z) ∧ zgR (zbg X scope z.cl N z.C z.fp z.s z.H) ifs (tt z) ∧ PE (zbg X scope z.cl N z.C z.fp z.s z.H) elt (te z))
  (hs : ∀ x, foldedSetIterable iter X.env x = pure x := by intro _; rfl) (hsw : swapsWith (.ListComp elt [⟨target, iter, ifs, 0⟩] scope pos) (some (.Name x pos')) spos.line X.env = pure true := by rfl) :
  PS X (.Assign [.Name x pos'] (.ListComp elt [⟨target, iter, ifs, 0⟩] scope pos) spos) (zhT (tLC fr wi g tt te) (zhS i)) := by
 intro pins s σ H Dn I h
 rw [exec_Assign_Name_used _ _ _ _ hsw]
 refine wpAny_bind (wpAny_standAt (wpAny_bind ?_))
 show wpAny _ X.A (do let _ ← comprehension (.ListComp elt [⟨target, iter, ifs, 0⟩] scope pos) scope X.env (firstIterPos [⟨target, iter, ifs, 0⟩] pos) (newList []) (firstAsync [⟨target, iter, ifs, 0⟩]) (firstIter [⟨target, iter, ifs, 0⟩] X.env) (some (assign (.Name x pos') X.env))) _ _ s
 refine wpAny_bind (wpAny_mono (wpAny_comprehension_free (g := ⟨target, iter, ifs, 0⟩) (gs := []) (use := some (assign (.Name x pos') X.env)) (Q := fun _ s' => SP X pins Dn .next s') (E := X.xe) rfl hs (zaG (S.cells I)) S.kind (fun y hy e => by rw [S.uniq y hy, e]) ?_) (fun _ s' hq => wpAny_pure (wpAny_pure hq)) fun _ _ e => e)
 refine thn (hi pins s σ H _ I h) fun v s1 h1 => thn h1 fun itv s2 h2 => ?_
 obtain ⟨it, fp, tn, J, H2, e, I2, T, st2, f2, h2⟩ := h2
 subst e
 refine wpAny_newObj_type ?_
 have hD : H2 s2.heap.objs.size = none := I2.fresh
 have I3 := I2.zlb (t' := s2.toks) (ys := []) (its := []) .nil (Nat.zero_le _)
 have lt2 : ∀ b ∈ fp, b < s2.heap.objs.size := fun b hb => by
  obtain ⟨o, e, _⟩ := T.obj _ _ st2 b hb
  exact Heap.lt_size e
 have f3 : ∀ b ∈ fp, zek X pins (upd H2 s2.heap.objs.size (.lst [])) b := fun b hb => ⟨by rw [zaz (Nat.ne_of_lt (lt2 b hb))]; exact (f2 b hb).1, (f2 b hb).2⟩
 generalize hs3 : ({ s2 with heap := s2.heap.push { cls := .type "list", data := .seq ([] : List Value).toArray } } : Shared) = s3
 have I3 : Inv X pins σ (upd H2 s2.heap.objs.size (.lst [])) s3 := by rw [← hs3]; exact I3
 have sz3 : s3.heap.objs.size = s2.heap.objs.size + 1 := by rw [← hs3]; exact Heap.size_push ..
 have u23 : Un (frs X.stack) [] H2 (upd H2 s2.heap.objs.size (.lst [])) s2.heap s3.heap := by
  rw [← hs3]
  exact Un.laid (fun b o e => Heap.get?_push_of_some _ e) (Nat.le_refl _) hD
 have ho : s3.os = s2.os := by rw [← hs3]
 have st3 : tn 0 s3.heap := T.keep _ _ _ st2 fun b _ o e => by rw [← hs3]; exact Heap.get?_push_of_some _ e
 refine zi3 S.kind fun h4 hns old4 hcl => ?_
 have lt3 : ∀ b ∈ fp, b < s3.heap.objs.size := fun b hb => Nat.lt_of_lt_of_le (lt2 b hb) (by rw [sz3]; exact Nat.le_succ _)
 have clt : ∀ x (c : Addr), (zal X.env.cells scope.names []).lookup x = some c → c < s3.heap.objs.size + 1 := fun x c e => by
  obtain ⟨v, w⟩ := I3.cell x c (zaJ scope.names [] (fun _ _ z => by simp at z) e)
  exact Nat.lt_succ_of_lt w.lt
 have I4 := zfQ (cl := (cellsFrom (s3.heap.objs.size + 1) scope.names (zal X.env.cells scope.names []))) (tk := s3.toks) I3 S f3 lt3 hns old4 (fun x c e => (hcl x c e).imp id fun q => ⟨Nat.lt_of_succ_le q.1, q.2⟩)
  (fun x y c e1 e2 => by
   have e1' : (cellsFrom (s3.heap.push { cls := .type "dict", data := .dict #[] }).objs.size scope.names (zal X.env.cells scope.names [])).lookup x = some c := by rw [Heap.size_push]; exact e1
   have e2' : (cellsFrom (s3.heap.push { cls := .type "dict", data := .dict #[] }).objs.size scope.names (zal X.env.cells scope.names [])).lookup y = some c := by rw [Heap.size_push]; exact e2
   exact zkJ (fun x c e => by rw [Heap.size_push]; exact clt x c e) (fun x y c h1 h2 => I3.ok.inj x y c (zaJ scope.names [] (fun _ _ z => by simp at z) h1) (zaJ scope.names [] (fun _ _ z => by simp at z) h2)) e1' e2')
  (fun x hx => by
   rcases hx with hx | hx
   ·exact Option.isSome_iff_exists.mp (zhe _ _ _ (zat hx))
   ·obtain ⟨a, ha⟩ := S.cells I3 _ (zat hx) rfl
    exact Option.isSome_iff_exists.mp (zc1 _ _ _ (zbO scope.names [] (zat hx) (by show (X.env.cells.lookup x).isSome = true; rw [show X.env.cells.lookup x = some a from ha]; rfl))))
  (fun x hx => zfd _ _ _ fun z => by have := S.uniq _ z; rw [hx] at this; cases this)
 have st4 : tn 0 h4 := T.keep _ _ _ st3 fun b _ o e => old4 b o e
 have h2 := h2 _ hD ⟨(cellsFrom (s3.heap.objs.size + 1) scope.names (zal X.env.cells scope.names [])), s3.heap.objs.size, fp, s3, upd H2 s2.heap.objs.size (.lst [])⟩
 obtain ⟨hg, hif, hel⟩ := hin ⟨(cellsFrom (s3.heap.objs.size + 1) scope.names (zal X.env.cells scope.names [])), s3.heap.objs.size, fp, s3, upd H2 s2.heap.objs.size (.lst [])⟩
 have loop : codeAny (model X.prog X.w) X.A (.compLoop (.ListComp elt [⟨target, iter, ifs, 0⟩] scope pos) 0 (.ref it) (.ref s2.heap.objs.size) (compEnvC scope (cellsFrom (s3.heap.objs.size + 1) scope.names (zal X.env.cells scope.names [])) s3.heap.objs.size X.env))
   (compPost (model X.prog X.w) X.A X.xe (some (assign (.Name x pos') X.env)) (fun _ s' => SP X pins Dn .next s') (.ref s2.heap.objs.size) s3.heap.objs.size) { s3 with heap := h4, toks := s3.toks } := by
  refine zcL (X := zbg X scope (cellsFrom (s3.heap.objs.size + 1) scope.names (zal X.env.cells scope.names [])) N s3.heap.objs.size fp s3 (upd H2 s2.heap.objs.size (.lst []))) (em := (do let _ ← call (.builtin "list.append") [.ref s2.heap.objs.size, ← eval elt (compEnvC scope (cellsFrom (s3.heap.objs.size + 1) scope.names (zal X.env.cells scope.names [])) s3.heap.objs.size X.env)]))
   (compTurn_list ..) (fun _ _ _ z => z) rfl hc rfl hg hif (zgS hel) T I4 st4 (fun b hb => ?_) h2 (fun τ' H' s' J' q => ?_)
  ·obtain ⟨f0, f1, fs, fe, fc, fp'⟩ := f3 b hb
   refine ⟨f0, Nat.ne_of_lt (lt3 b hb), fun z => ?_, .inl hb, fun x c e => (by
    rcases hcl x c e with q | q
    ·exact fc x c (zaJ scope.names [] (fun _ _ z => by simp at z) q)
    ·exact Nat.ne_of_gt (Nat.lt_of_lt_of_le (lt3 b hb) (Nat.le_of_succ_le q.1))), fun p hp => absurd (show p ∈ ([] : List (Addr × Obj)) from hp) (by simp)⟩
   rcases lK (I3.zcr b z) with z | z
   ·exact f1 z
   ·exact fs z
  ·obtain ⟨m, hn, _⟩ := J'.loc
   have Io : Inv X pins σ H' s' := zfR (h' := s'.heap) I2 f2 u23 ho (by rw [sz3]; exact Nat.le_succ _) J' (Heap.SameBut.refl ..)
   have Lne : X.env.locals ≠ s3.heap.objs.size := Nat.ne_of_lt I3.lt
   have cne : ∀ y c, X.env.cells.lookup y = some c → c ≠ s3.heap.objs.size := fun y c e => by
    obtain ⟨v, z⟩ := I3.cell y c e
    exact Nat.ne_of_lt z.lt
   show wpAny (model X.prog X.w) X.A (assign (.Name x pos') X.env (.ref s2.heap.objs.size)) _ X.xe s'
   refine wpAny_assign_Name (zcG (v := .ref s2.heap.objs.size) Io hN hi' (.inl hx) rfl (fun s5 I5 sb5 => ?_) (.inr hx))
   obtain ⟨b, sb, hb⟩ := sb5
   have hbne : s3.heap.objs.size ≠ b := by
    rcases hb with e | e
    ·rw [e]; exact Lne.symm
    ·exact (cne _ _ e).symm
   refine ⟨m, hn.sameBut sb hbne, fun h' sb' => ⟨_, H', ?_, q⟩⟩
   refine I5.zil (C := s3.heap.objs.size) J'.free Lne.symm I3.sz cne (fun p hp => ?_) sb'
   exact Nat.ne_of_lt (Heap.lt_size (I3.pin p hp).1)
 exact codeAny_compStart_list loop (T.self X.A 0 _ _ _ st4 loop)
end
def zi5 (sc0 : Scope) (N0 : List Str) (scope : Scope) (N : List Str) (fr : List (Option Nat)) : Bool :=
 (scope.kind == .function) && scope.names.all (fun y => scope.names.lookup y.1 == some y.2) &&
 scope.names.all (fun y => y.2 != .free || (sc0.names.lookup y.1 == some .cell || sc0.names.lookup y.1 == some .free)) && (fr.length == N.length) &&
 (N.zip fr).all (fun p => match p.2 with | none => true | some j => N0[j]? == some p.1 && scope.names.lookup p.1 == some .free) && decide N.Nodup
theorem zb2.of {X : Cx} {sc0 : Scope} {N0 : List Str} {scope : Scope} {N : List Str} {fr : List (Option Nat)} (h1 : X.env.scope = sc0) (h2 : X.N = N0) (h : zi5 sc0 N0 scope N fr = true) : zb2 X scope N fr := by
 unfold zi5 at h
 simp only [Bool.and_eq_true] at h
 obtain ⟨⟨⟨⟨⟨k1, k3⟩, k4⟩, k5⟩, k6⟩, k7⟩ := h
 rw [List.all_eq_true] at k3 k4 k6
 refine ⟨by simpa using k1, fun y hy => by simpa using k3 y hy, fun y hy e => ?_, by simpa using k5, fun i j x hi hj => ?_, of_decide_eq_true k7⟩
 ·have := k4 y hy
  rw [e] at this
  have t : sc0.names.lookup y.1 = some .cell ∨ sc0.names.lookup y.1 = some .free := by simpa using this
  show X.env.scope.names.lookup y.1 = _ ∨ X.env.scope.names.lookup y.1 = _
  rw [h1]
  exact t
 ·have hm : (x, some j) ∈ N.zip fr := by
   have hz : (N.zip fr)[i]? = some (x, some j) := by rw [List.getElem?_zip_eq_some]; exact ⟨hi, hj⟩
   exact List.mem_of_getElem? hz
  have := k6 _ hm
  simp only [Bool.and_eq_true] at this
  rw [h2]
  exact ⟨by simpa using this.1, by simpa using this.2⟩
end L2
end
section
namespace VL
open PySem PySem.Spec L2 PyProof.Rows
end VL
end
section
namespace L2
open PySem PySem.W PyProof.Rows PySem.Calls
section
variable {prog : Program} {w : World} {A : Around} {E : Value → Shared → Prop} {s : Shared}
theorem zgA {l : Addr} {vs : List Value} {lt : Nat → Nat → Bool} {Q : Value → Shared → Prop} (O : Ord lt) (hl : IsTup s.heap l vs.toArray) (h64 : vs.length < 64)
  (hk : 2 ≤ vs.length → ∀ (A' : Around), A'.units ≤ A.units + 2 → ∀ h' : Heap, (∀ b o, s.heap.get? b = some o → h'.get? b = some o) → ∃ κ, (∀ Q : SortKind → Shared → Prop, Q κ { s with heap := h' } → wpAny (model prog w) A' (keyKind' vs.toArray) Q (fun _ _ => False) { s with heap := h' }) ∧
   ∀ i j, i < vs.length → j < vs.length → ∀ C : Bool → Shared → Prop, C (lt i j) { s with heap := h' } → wpAny (model prog w) A' (keyLt' κ (vs.getD i Value.none) (vs.getD j Value.none)) C (fun _ _ => False) { s with heap := h' })
  (h : ∀ p : Array Nat, Pm vs.length p → Srt lt p vs.length → Q (.ref (s.heap.objs.size + 1)) { s with heap := sortedAll s.heap vs (zcP vs p).toArray }) :
  wpAny (model prog w) A (call (.builtin "sorted") [.ref l]) Q E s := by
 refine Calls.call_function_entry kind_sorted plain_sorted entry_sorted (args_sorted1 _) ?_
 unfold Builtin.«sorted»
 refine wpAny_bind (m := checkCount "sorted" 1 1 _) (wpAny_pure ?_)
 refine wpAny_bind (zdX hl (by rw [sizeLine_eq]; omega) ?_)
 refine wpAny_bind (wpAny_newList ?_ (by rw [sizeLine_eq]; omega))
 have hsz : ((s.heap.push (seqObj "list" #[] 0)).update s.heap.objs.size (Obj.mapSeq (· ++ vs.toArray))).objs.size = s.heap.objs.size + 1 := by
  rw [Heap.size_update, size_push']
 have hoL : (((s.heap.push (seqObj "list" #[] 0)).update s.heap.objs.size (Obj.mapSeq (· ++ vs.toArray))).push (seqObj "list" vs.toArray 0)).get? (s.heap.objs.size + 1) = some (seqObj "list" vs.toArray 0) := by
  rw [← hsz]; exact Heap.get?_push_size _ rfl
 have keep : ∀ b o, s.heap.get? b = some o → b ≠ s.heap.objs.size + 1 ∧ (((s.heap.push (seqObj "list" #[] 0)).update s.heap.objs.size (Obj.mapSeq (· ++ vs.toArray))).push (seqObj "list" vs.toArray 0)).get? b = some o := fun b o q => by
  have hlt : b < s.heap.objs.size := Heap.lt_size q
  refine ⟨Nat.ne_of_lt (Nat.lt_succ_of_lt hlt), ?_⟩
  rw [Heap.get?_push_ne _ _ _ (by rw [hsz]; exact Nat.ne_of_lt (Nat.lt_succ_of_lt hlt)), Heap.get?_update_ne _ _ _ _ (Nat.ne_of_lt hlt), Heap.get?_push_ne _ _ _ (Nat.ne_of_lt hlt)]
  exact q
 show wpAny _ _ _ _ _ { s with heap := ((s.heap.push (seqObj "list" #[] 0)).update s.heap.objs.size (Obj.mapSeq (· ++ vs.toArray))).push (seqObj "list" vs.toArray 0) }
 rw [hsz]
 refine wpAny_bind (wpAny_holding (wpAny_call_entry slot_list_sort ⟨_, hoL, rfl⟩ entry_list_sort ?body (args_list_sort _)))
 case body =>
  refine zcQ O hoL h64 (fun h2 h' kp => hk h2 _ ?_ h' fun b o e => kp b o (keep b o e).1 (keep b o e).2) fun p a1 a2 => ⟨_, rfl, wpAny_pure ⟨_, rfl, h p a1 a2⟩⟩
  show A.units + 1 + 1 ≤ A.units + 2
  omega
end
section
variable {X : Cx}
theorem zdi : za3 X (.builtin "sorted") (fun xs H Q => ∃ p ys ks, xs = [.ref p] ∧ SqT X.K H p ys ∧ TIs X.K H ys ks ∧ (∀ t ∈ ks, t ≠ []) ∧ ys.length < 64 ∧
  ∀ (zs : List (V × List Int)) l, zs.Perm (ys.zip ks) → (zs.map (·.2)).Pairwise (fun a b => HT.lexLt b a = false) → H l = none → Q (.ref l) (upd H l (.lst (zs.map (·.1))))) := by
 intro pins s σ H xs us Q I r h
 obtain ⟨p, ys, ks, rfl, hq, ht, hne, h64, q⟩ := h
 obtain ⟨u, rfl, rx⟩ := vals1 r
 cases rx
 obtain ⟨its, rv, pl, hz⟩ := I.tuple hq
 have hl := rv.length
 have hk : ys.length = ks.length := Paired.length ht
 refine zgA (lexOrd ks) pl (by omega) (fun h2 A' _ h' kp => ⟨tuples' true, fun Q' hq' => ?_, fun i j hi hj C hC => ?_⟩) fun pm hpm hsr => ?_
 ·obtain ⟨fs, h1, h2', h3⟩ := zcz I kp ht rv hne
  refine kat_kind (s := { s with heap := h' }) (T := .type "int") h1 (by omega) (fun v hv => ?_) rfl hq'
  obtain ⟨i, t, rfl⟩ := h3 v hv
  exact Looks.now
 ·have hiy : i < ys.length := by omega
  have hjy : j < ys.length := by omega
  obtain ⟨a, ea, qa⟩ := Paired.getD (d := V.non) (d' := []) ht i hiy
  obtain ⟨b, eb, qb⟩ := Paired.getD (d := V.non) (d' := []) ht j hjy
  have ra := Paired.getD (d := V.non) (d' := Value.none) rv i hiy
  have rb := Paired.getD (d := V.non) (d' := Value.none) rv j hjy
  rw [ea] at ra
  rw [eb] at rb
  have ra : its.getD i Value.none = .ref a := ra
  have rb : its.getD j Value.none = .ref b := rb
  rw [ra, rb]
  obtain ⟨ia, va, ⟨oa, ha, _, na, da⟩, _⟩ := I.tuple qa
  obtain ⟨ib, vb, ⟨ob, hb, _, nb, db⟩, _⟩ := I.tuple qb
  refine kat_lt (s := { s with heap := h' }) (kp _ _ ha) da (kp _ _ hb) db ?_
  refine zcy ia ib _ _ 0 va vb hC _ (fun _ _ => True.intro) ?_
  simp
 ·have hlen : its.length = ys.length := hl.symm
  have hzl : (ys.zip ks).length = its.length := by rw [List.length_zip]; omega
  let zs : List (V × List Int) := pm.toList.map fun i => (ys.zip ks).getD i (V.non, [])
  have hzp : zs.Perm (ys.zip ks) := zcR (β := Nat) (by rw [hzl]; exact hpm)
  have e1 : zs.map (·.1) = pm.toList.map fun i => ys.getD i V.non := by
   show List.map _ (List.map _ _) = _
   rw [List.map_map]
   exact List.map_congr_left fun i _ => by show ((ys.zip ks).getD i (V.non, [])).1 = _; rw [zcS i hk]
  have e2 : zs.map (·.2) = pm.toList.map fun i => ks.getD i [] := by
   show List.map _ (List.map _ _) = _
   rw [List.map_map]
   exact List.map_congr_left fun i _ => by show ((ys.zip ks).getD i (V.non, [])).2 = _; rw [zcS i hk]
  have hpw : (zs.map (·.2)).Pairwise (fun a b => HT.lexLt b a = false) := by
   rw [e2, List.pairwise_map, List.pairwise_iff_getElem]
   intro i j hi hj hij
   have sz : pm.toList.length = its.length := by rw [Array.length_toList]; exact hpm.size
   have z := hsr i j (by omega) (by omega)
   have gi : gD pm i = pm.toList[i] := by unfold gD; simp [Array.getD, show i < pm.size by simpa using hi]
   have gj : gD pm j = pm.toList[j] := by unfold gD; simp [Array.getD, show j < pm.size by simpa using hj]
   rw [gi, gj] at z
   exact z
  obtain ⟨e, he⟩ := sortedAll_at s.heap its (zcP its pm).toArray
  have hv : zaW (zs.map (·.1)) (zcP its pm) := by
   rw [e1]
   unfold zcP
   have hb : ∀ i ∈ pm.toList, i < ys.length := fun i hi => by
    have h1 : pm.toList.Perm (List.range its.length) := Array.perm_iff_toList_perm.mp hpm
    have := h1.mem_iff.mp hi
    have : i < its.length := by simpa using this
    omega
   clear he hpw e1 e2 hzp hsr hpm
   generalize pm.toList = ix at hb
   clear zs
   induction ix with
   | nil => exact .nil
   | cons i ix ih => exact .cons (Paired.getD (d := V.non) (d' := Value.none) rv i (hb i lS)) (ih fun j hj => hb j (lO _ hj))
  refine ⟨.ref (s.heap.objs.size + 1), _, I.laid (t' := s.toks) (a := s.heap.objs.size + 1) (o := .lst (zs.map (·.1))) (fun b u e => sortedAll_old e) (Nat.le_succ _) ?_, rfl, q zs _ hzp hpw (I.hok.fresh (Nat.le_succ _))⟩
  refine ⟨?_, zcP its pm, e, hv, he⟩
  rw [List.length_map, hzp.length_eq, hzl, sizeLine_eq]
  omega
end
end L2
end
section
namespace VL
open PySem PySem.Spec L2 PyProof.Rows
section
variable {X : Cx} {pos : Pos} {pin : List Nat}
def zmd : List M → Option M
 | [.v (.tuple ds)] => if ds.length < 64 then (zlB ds).bind fun ks => if ks.all (fun k => !k.isEmpty) = true then some (.lst ((ze0 ks).map tI)) else none else none
 | _ => none
theorem zj2 : za3 X (.builtin "sorted") (rLM X.K zmd) := by
 intro pins s σ H xs us Q I rs h
 obtain ⟨Z, ms, m, za, hr, e, q⟩ := h
 unfold zmd at e
 split at e
 ·split at e
  ·next h64 =>
   obtain ⟨ks, e3, e⟩ := oB e
   split at e
   ·next hne =>
    cases e
    obtain ⟨x, rfl, h1⟩ := zfF hr
    obtain ⟨a, xs, rfl, hx, fx⟩ := h1.tup
    rw [zdJ e3] at fx h64
    have hl : xs.length = ks.length := by rw [fx.length, List.length_map]
    have ht := fx.tis
    refine zdi pins s σ H _ us Q I rs ⟨a, xs, ks, rfl, hx, ht, fun t h z => ?_, ?_, fun zs l p w hl' => ?_⟩
    ·have := List.all_eq_true.mp hne t h
     rw [z] at this
     cases this
    ·rw [List.length_map] at h64
     omega
    ·have e : zs.map (·.2) = ze0 ks := zeD ((p.map (·.2)).trans (by rw [List.map_snd_zip (by omega)])) w
     have := Fzs.ziz (Z := Z) ht zs fun z h => p.mem_iff.mp h
     rw [e] at this
     exact zlw q za hl' this
   ·cases e
  ·cases e
 ·cases e
def zhH (ms : List M) : Option M := match zd0 ms with
 | some m => some m
 | none => zmd ms
theorem zj3 (hc : X.calm = true) : za3 X (.builtin "sorted") (rLM X.K zhH) := by
 intro pins s σ H xs us Q I rs h
 obtain ⟨Z, ms, m, za, hr, e, q⟩ := h
 unfold zhH at e
 split at e
 ·next m' em => cases e; exact zca hc pins s σ H xs us Q I rs ⟨Z, ms, m, za, hr, em, q⟩
 ·exact zj2 pins s σ H xs us Q I rs ⟨Z, ms, m, za, hr, e, q⟩
def zei (n : Nat) (js : List Nat) (i : Nat) (fg : FG) (ft : FT) (fe : FE) : FE := fun ρ => match at? ρ i with
 | some (.lst ds) => if i ∈ js then none else (caps ρ js).bind fun os => (zbT os ρ).bind fun q =>
   (zaY fg ft fe ds (List.replicate n none ++ q.1.map some) []).bind fun r => (fin (List.replicate js.length true) q.1 (r.2.drop n)).bind fun ms' => some (.t (.lst r.1), zgq os ms' q.2)
 | _ => vLC n js (zbE (zac i)) fg ft fe ρ
structure ItAt (K : PySem.W.Frag) (J : It) (H : Hp) (Z : Zs) (a : Addr) (xs : List V) (ds : List PyData) : Prop where
 go : ∀ H2 Z2, za0 H Z H2 Z2 → H2 a = some (.lst xs) → ∀ k d, ds[k]? = some d → J.go k H2 ∧ ∀ x H', J.yld k H2 x H' → zen H2 H' ∧ Fz K H' Z2 x d
 stop : ∀ H2 Z2, za0 H Z H2 Z2 → H2 a = some (.lst xs) → ∀ k, ds.length ≤ k → J.stop k H2
theorem it_at {K : PySem.W.Frag} {H : Hp} {Z : Zs} {a : Addr} {xs : List V} {ds : List PyData} (r : Fzs K H Z xs ds) : ItAt K (Itl K a) H Z a xs ds := by
 refine ⟨fun H2 Z2 g e k d hd => ?_, fun H2 Z2 g e k hk => ⟨xs, SqL.of e, by rw [r.length]; exact hk⟩⟩
 obtain ⟨x, hx, fx⟩ := (r.mono g).get' hd
 exact ⟨⟨xs, x, SqL.of e, hx⟩, fun y H' ⟨hH, hy⟩ => by
  subst hH
  have := hy xs (SqL.of e)
  rw [hx] at this
  cases this
  exact ⟨zen.refl _, fx⟩⟩
theorem zhg {ρ : Ev} : ∀ {js : List Nat} {os : List Opd}, caps ρ js = some os → ∀ j, Opd.p j ∈ os → j ∈ js
 | [], _, e, j, h => by cases e; cases h
 | k :: js, _, e, j, h => by
  obtain ⟨o, e1, e⟩ := oB e
  obtain ⟨os, e2, e⟩ := oB e
  cases e
  rcases lK h with z | z
  ·subst z
   unfold cap at e1
   split at e1
   ·cases e1
   ·cases e1; exact lS
   ·cases e1
  ·exact lO _ (zhg e2 j z)
theorem zhh {ρ : Ev} : ∀ {js : List Nat} {os : List Opd}, caps ρ js = some os → ∀ j k, Opd.q j k ∉ os
 | [], _, e, j, k, h => by cases e; cases h
 | k' :: js, _, e, j, k, h => by
  obtain ⟨o, e1, e⟩ := oB e
  obtain ⟨os, e2, e⟩ := oB e
  cases e
  rcases lK h with z | z
  ·subst z
   unfold cap at e1
   split at e1 <;> cases e1
  ·exact zhh e2 j k z
theorem zj4 {ρ : Ev} {i j : Nat} (h : i ≠ j) : at? (ρ.set j none) i = at? ρ i := by
 unfold at?
 rw [List.getElem?_set_ne (Ne.symm h)]
theorem zdj {i : Nat} : ∀ {os : List Opd} {ρ ρ' : Ev} {ms : List M}, (∀ j, Opd.p j ∈ os → i ≠ j) → (∀ j k, Opd.q j k ∉ os) → zbT os ρ = some (ms, ρ') → at? ρ' i = at? ρ i
 | [], _, _, _, _, _, e => by cases e; rfl
 | .t m :: os, ρ, _, _, h, hq, e => by
  have e : (zbT os ρ).bind _ = _ := e
  obtain ⟨⟨ms, ρ1⟩, e1, e⟩ := oB e
  cases e
  exact zdj (fun j hj => h j (lO _ hj)) (fun j k hj => hq j k (lO _ hj)) e1
 | .p k :: os, ρ, _, _, h, hq, e => by
  obtain ⟨m, e0, e⟩ := oB e
  obtain ⟨⟨ms, ρ1⟩, e1, e⟩ := oB e
  cases e
  rw [zdj (fun j hj => h j (lO _ hj)) (fun j k hj => hq j k (lO _ hj)) e1, zj4 (h k lS)]
 | .q j k :: os, _, _, _, _, hq, _ => absurd lS (hq j k)
theorem zgB {i : Nat} {js : List Nat} {os : List Opd} {ρ ρ' : Ev} {ms : List M} (hi : i ∉ js) (h1 : caps ρ js = some os) (h2 : zbT os ρ = some (ms, ρ')) : at? ρ' i = at? ρ i :=
 zdj (fun j hj e => hi (e ▸ zhg h1 j hj)) (zhh h1) h2
theorem zj5 {a0 : Addr} {xs0 : List V} {n : Nat} {pv : Pv} {fg : FG} {ft : FT} {fe : FE} {J : It} {ds : List PyData} {D : Addr} {τ : L2.St} {H1 : Hp} {Z1 : Zs} {A : List Addr} {ρ0 : Ev} {r : List PyData × Ev} {Q : Hp → Prop} (hD : H1 D = none) (S : Owo X.K H1 Z1 τ ρ0 A) (w : Wf H1 Z1 A) (P : Pin pv τ) (hJ : ItAt X.K J H1 Z1 a0 xs0 ds) (ha0 : H1 a0 = some (.lst xs0)) (haA : a0 ∉ A) (e : zaY fg ft fe ds ρ0 [] = some r)
  (q : ∀ τ' H' Z' F' xs, Owo X.K H' Z' τ' r.2 F' → Pin pv τ' → H' D = some (.lst xs) → Fzs X.K H' Z' xs r.1 → Fut H1 Z1 A H' Z' (F' ++ [D]) → Q H') : zjJ (vG X.K pv fg) (vT X.K ft) (eApp D (vE X.K fe)) J τ (upd H1 D (.lst [])) Q := by
 have n0 := Fut.zmn (o := .lst []) hD w.za
 have f0 : Fut H1 Z1 A (upd H1 D (.lst [])) Z1 (A ++ [D]) := n0.news w S.al
 refine ⟨fun i m τ' H' => m = ds.length - i ∧ i ≤ ds.length ∧ ∃ Z' ρ' F' acc xs, Owo X.K H' Z' τ' ρ' F' ∧ Pin pv τ' ∧ H' D = some (.lst xs) ∧ Fzs X.K H' Z' xs acc ∧ Fut H1 Z1 A H' Z' (F' ++ [D]) ∧ zaY fg ft fe (ds.drop i) ρ' acc = some r, ⟨_, rfl, Nat.zero_le _, Z1, ρ0, A, [], [], S.news n0, P, zay, .nil, f0, e⟩, fun i m τ2 H2 hW => ?_⟩
 obtain ⟨rfl, hi, Z2, ρ2, F2, acc, xs, S2, P2, d2, z2, f2, e2⟩ := hW
 rcases Nat.lt_or_eq_of_le hi with hi | rfl
 ·right
  rw [List.drop_eq_getElem_cons hi] at e2
  have hd : ds[i]? = some ds[i] := List.getElem?_eq_getElem hi
  obtain ⟨go, yl⟩ := hJ.go H2 Z2 (f2.grow w) (f2.keep a0 _ haA ha0) i _ hd
  obtain ⟨ρ3, e3, e2⟩ := oB e2
  obtain ⟨⟨b, ρ4⟩, e4, e2⟩ := oB e2
  refine ⟨go, fun τ' H' => ∃ m', m' < ds.length - i ∧ m' = ds.length - (i + 1) ∧ i + 1 ≤ ds.length ∧ ∃ Z' ρ' F' acc xs, Owo X.K H' Z' τ' ρ' F' ∧ Pin pv τ' ∧ H' D = some (.lst xs) ∧ Fzs X.K H' Z' xs acc ∧ Fut H1 Z1 A H' Z' (F' ++ [D]) ∧ zaY fg ft fe (ds.drop (i + 1)) ρ' acc = some r, fun τ' H' h => h, fun x H' hx => ?_⟩
  obtain ⟨s, fz⟩ := yl x H' hx
  have gs : za0 H2 Z2 H' Z2 := za0.same s
  have S2' := S2.mono gs fun a _ o e => s a o e
  obtain ⟨m1, m2, m3⟩ := zaC f2.nd
  have alD : ∀ a ∈ F2 ++ [D], H2 a ≠ none := fun a h e => by
   rcases lM h with h | h
   ·exact S2.al a h e
   ·rw [List.mem_singleton.mp h, d2] at e; cases e
  have fs : Fut H2 Z2 (F2 ++ [D]) H' Z2 (F2 ++ [D]) := by
   have := (Fut.same s f2.za).news f2.wf alD
   rw [List.append_nil] at this
   exact this
  refine ⟨Z2, ρ2, F2, _, ρ3, S2', m1, P2, fz, e3, fun τ3 F3 S3 n3 s3 P3 => ?_⟩
  have f3 : Fut H1 Z1 A H' Z2 (F3 ++ [D]) := (f2.trans fs).sub (zav n3 m2 fun a h z => m3 a (s3 a h) z) fun a h => by
   rcases lM h with h | h
   ·exact lL _ (s3 a h)
   ·exact lR _ h
  have d3 : H' D = some (.lst xs) := s D _ d2
  have alD3 : ∀ {Hx : Hp} {u : List V}, Hx D = some (.lst u) → ∀ a ∈ [D], Hx a ≠ none := fun {Hx u} h a ha e => by rw [List.mem_singleton.mp ha, h] at e; cases e
  refine ⟨Z2, ρ3, F3, b, ρ4, S3, f3.left.wf, e4, fun H4 Z4 F4 S4 g4 => ?_⟩
  have f4 : Fut H1 Z1 A H4 Z4 (F4 ++ [D]) := f3.trans (g4.frame f3.wf (alD3 d3))
  have d4 : H4 D = some (.lst xs) := g4.keep D _ (fun z => (zaC f3.nd).2.2 D z lS) d3
  have z4 := (z2.mono gs).mono (g4.grow f3.left.wf)
  cases b with
  | false => exact zlj ⟨_, by omega, rfl, hi, Z4, ρ4, F4, acc, xs, S4, P3, d4, z4, f4, e2⟩
  | true =>
   obtain ⟨⟨o5, ρ5⟩, e5, e2⟩ := oB e2
   obtain ⟨⟨d, ρ6⟩, e6, e2⟩ := oB e2
   split at e2
   ·next hl =>
    refine zlk ⟨Z4, ρ4, F4, o5, ρ5, S4, f4.left.wf, e5, fun y H5 Z5 F5 G5 S5 O5 g5 => ?_⟩
    have d5 : H5 D = some (.lst xs) := g5.keep D _ (fun z => (zaC f4.nd).2.2 D z lS) d4
    have f5 : Fut H1 Z1 A H5 Z5 (F5 ++ G5 ++ [D]) := f4.trans (g5.frame f4.wf (alD3 d4))
    obtain ⟨Z6, F6, S6, y6, f6, g6⟩ := freeze S5 O5 f5 e6
    have z6 := (z4.mono (g5.grow f4.left.wf)).mono g6
    obtain ⟨f7, g7⟩ := f6.put (o' := .lst (xs ++ [y])) d5 (fun _ z => nomatch z) (fun _ _ z => nomatch z)
    refine ⟨xs, d5, zdZ (Nat.le_of_lt (by rw [z6.length]; exact hl)), _, by omega, rfl, hi, Z6, ρ6, F6, acc ++ [d], xs ++ [y], S6.mono g7 fun a h o e => ?_, P3, zay, (z6.mono g7).append (.cons (y6.mono g7) .nil), f7, e2⟩
    have hne : a ≠ D := fun z => (zaC f6.nd).2.2 a h (by rw [z]; exact lS)
    rw [zaz hne]
    exact e
   ·cases e2
 ·left
  rw [List.drop_length] at e2
  cases e2
  exact ⟨hJ.stop H2 Z2 (f2.grow w) (f2.keep a0 _ haA ha0) _ (Nat.le_refl _), q τ2 H2 Z2 F2 xs S2 P2 d2 z2 f2⟩
theorem zme {n : Nat} {js : List Nat} {i : Nat} {fg : FG} {ft : FT} {fe : FE} {σ : L2.St} {H : Hp} {Q : VK} {fr : List (Option Nat)} {Z : Zs} {ρ : Ev} {F : List Addr} {o : Opd} {ρ' : Ev} {ds : List PyData} (hfr : fr = List.replicate n none ++ js.map some) (S : Owo X.K H Z σ ρ F) (w : Wf H Z F) (e0 : at? ρ i = some (.lst ds)) (e : zei n js i fg ft fe ρ = some (o, ρ'))
  (q : ∀ x H' Z' F' G, Owo X.K H' Z' σ ρ' F' → Opv X.K H' Z' σ x o G → Fut H Z F H' Z' (F' ++ G) → Q x H') :
  tLC fr (zkZ X.K (zdC i)) (fun _ => vG X.K (zew n js σ) fg) (fun _ => vT X.K ft) (fun _ => vE X.K fe) σ H Q := by
 subst hfr
 unfold zei at e
 rw [e0] at e
 dsimp only at e
 split at e
 ·cases e
 next hij =>
 obtain ⟨os, e2, e⟩ := oB e
 obtain ⟨⟨ms, ρh⟩, e3, e⟩ := oB e
 obtain ⟨⟨acc, ρi⟩, e4, e⟩ := oB e
 obtain ⟨ms', e5, e⟩ := oB e
 cases e
 obtain ⟨x, G, hx, hG, _⟩ := S.get (zas.mp e0)
 obtain ⟨a, xsa, rfl, hxa, fzx⟩ := (show Ro X.K H Z x (.lst ds) from ⟨G, hG⟩).lst
 refine ⟨.ref a, hx, a, rfl, ⟨xsa, SqL.of hxa⟩, fun D hD z => ?_⟩
 obtain ⟨xs, O1, hxs, hxl⟩ := ze6 S e2
 obtain ⟨A, Fh, h1, h2, h3, h4⟩ := zcp S O1 (by rw [List.append_nil]; exact w.nd) e3
 rw [List.append_nil] at h4
 obtain ⟨n1, n2, n3⟩ := zaC h3
 have wA : Wf H Z A := ⟨n2, fun a h => w.dz a (h4 a (lR _ h)), w.za⟩
 have S0 := Owo.ze4 h1 n
 rw [zgu, ← hxs]
 have P0 := ziF n js σ
 rw [← hxs] at P0
 obtain ⟨x', G', g1, g2, g3⟩ := h2.get (zas.mp ((zgB hij e2 e3).trans e0))
 rw [hx] at g1
 cases g1
 have haA : a ∉ A := fun z => by
  cases g2 with
  | lst _ _ => exact n3 a (g3 a lS) z
 refine zj5 (n := n) hD S0 wA P0 (it_at fzx) hxa haA e4 fun τ' H2 Z2 F2 ys S2 P2 d2 z2 f2 => ?_
 obtain ⟨m1, m2, m3⟩ := zaC f2.nd
 obtain ⟨F3, k1, k2, k3⟩ := S2.ziG n m1
 have hml : ms.length = js.length := by rw [← h1.length, hxl]
 obtain ⟨A', a1, a2, a3⟩ := zd5 (vs := xs) k1 k2 (fun i x _ hx => by
  rw [List.getElem?_drop]
  refine P2 (n + i) x ?_
  unfold zew
  rw [if_neg (by omega), show n + i - n = i by omega]
  have hmap : (js.map (slot σ))[i]? = some (some x) := by rw [← hxs, List.getElem?_map, hx]; rfl
  rw [List.getElem?_map] at hmap
  obtain ⟨j, hj, hj'⟩ := Option.map_eq_some_iff.mp hmap
  rw [hj]
  exact hj') (fun i x d h => by
   have := List.mem_of_getElem? h
   rw [List.mem_replicate] at this
   cases this.2) h1.length e5
 have n3' : ∀ a ∈ A, a ∉ Fh := fun a h z => n3 a z h
 have Sh : Owo X.K H2 Z2 σ ρh Fh := h2.mono (f2.grow wA) fun a h o e => f2.keep a o (n3 a h) e
 have fF := f2.frame (G := Fh) ⟨zav n2 n1 n3', fun a h => by
  rcases lM h with h | h
  ·exact w.dz a (h4 a (lR _ h))
  ·exact w.dz a (h4 a (lL _ h)), w.za⟩ h2.al
 obtain ⟨u1, u2, u3, u4, u5, u6⟩ := nd3 fF.nd
 obtain ⟨F4, p1, p2, p3⟩ := zcB Sh O1 a1 (zav u3 a2 fun a h z => u5 a (k3 a (a3 a z)) h) (zbV e3)
 have f4 : Fut H Z F H Z (A ++ Fh) := (Fut.refl w).sub (zav n2 n1 n3') fun a h => h4 a (by
  rcases lM h with h | h
  ·exact lR _ h
  ·exact lL _ h)
 refine q (.ref D) H2 Z2 F4 [D] p1 (.t (.lst d2 z2)) ((f4.trans fF).sub (zav p2 u2 fun a h z => ?_) fun a h => ?_)
 ·rcases lM (p3 a h) with y | y
  ·exact u6 a z y
  ·exact u4 a (k3 a (a3 a y)) z
 ·rcases lM h with h | h
  ·rcases lM (p3 a h) with y | y
   ·exact lR _ y
   ·exact lL _ (lL _ (k3 a (a3 a y)))
  ·exact lL _ (lR _ h)
theorem zkK {n : Nat} {js : List Nat} {i : Nat} {fg : FG} {ft : FT} {fe : FE} {σ : L2.St} {H : Hp} {Q : VK} {fr : List (Option Nat)} (hfr : fr = List.replicate n none ++ js.map some) (hq : vE X.K (zei n js i fg ft fe) σ H Q) :
  tLC fr (zkZ X.K (zdC i)) (fun _ => vG X.K (zew n js σ) fg) (fun _ => vT X.K ft) (fun _ => vE X.K fe) σ H Q ∨ tLC fr (vI X.K (zbE (zac i))) (fun _ => vG X.K (zew n js σ) fg) (fun _ => vT X.K ft) (fun _ => vE X.K fe) σ H Q := by
 obtain ⟨Z, ρ, F, o, ρ', S, w, e, q⟩ := hq
 cases e0 : at? ρ i with
 | none =>
  right
  refine zeE hfr ⟨Z, ρ, F, o, ρ', S, w, ?_, q⟩
  unfold zei at e
  rw [e0] at e
  exact e
 | some m =>
  cases m with
  | lst ds => exact .inl (zme hfr S w e0 e q)
  | v d =>
   right
   refine zeE hfr ⟨Z, ρ, F, o, ρ', S, w, ?_, q⟩
   unfold zei at e
   rw [e0] at e
   exact e
  | dic d =>
   right
   refine zeE hfr ⟨Z, ρ, F, o, ρ', S, w, ?_, q⟩
   unfold zei at e
   rw [e0] at e
   exact e
  | dls d =>
   right
   refine zeE hfr ⟨Z, ρ, F, o, ρ', S, w, ?_, q⟩
   unfold zei at e
   rw [e0] at e
   exact e
theorem zi6 (i : Nat) (n : Nat) (js : List Nat) {elt target : Expr} {ifs : List Expr} {scope : Scope} {N : List Str} {fr : List (Option Nat)} {pinI : List Nat} {fg : FG} {ft : FT} {fe : FE} {x : Str} {px : Pos} (hv : PE X (.Name x px) (zdC i)) (hfr : fr = List.replicate n none ++ js.map some) (hpin : pinI = (List.range js.length).map (n + ·)) (hc : X.calm = true) (S : zaX X scope N fr) (hi : WI X target (.Name x px) (zbE (zac i)))
  (hin : ∀ z : Bk, WG (zao X scope z.cl N z.C z.fp z.s z.H) pinI target fg ∧ WF (zao X scope z.cl N z.C z.fp z.s z.H) ifs ft ∧ WE (zao X scope z.cl N z.C z.fp z.s z.H) elt fe)
  (hs : ∀ y, foldedSetIterable (.Name x px) X.env y = pure y := by intro _; rfl) : WE X (.ListComp elt [⟨target, .Name x px, ifs, 0⟩] scope pos) (zei n js i fg ft fe) := ⟨fun pins s σ H Q I hq => by
 rcases zkK hfr hq with h | h
 ·exact zll (g := fun _ => vG X.K (zew n js σ) fg) (tt := fun _ => vT X.K ft) (te := fun _ => vE X.K fe) hc S (zf5 hv) (fun z => ⟨(hin z).1.h _ (zdu n js σ hpin), (hin z).2.1.h, (hin z).2.2.h⟩) hs pins s σ H Q I h
 ·exact zll (g := fun _ => vG X.K (zew n js σ) fg) (tt := fun _ => vT X.K ft) (te := fun _ => vE X.K fe) hc S hi.h (fun z => ⟨(hin z).1.h _ (zdu n js σ hpin), (hin z).2.1.h, (hin z).2.2.h⟩) hs pins s σ H Q I h⟩
theorem zj6 (i : Nat) {i1 : Nat} {x1 : Str} (n : Nat) (js : List Nat) {elt target : Expr} {ifs : List Expr} {scope : Scope} {N : List Str} {fr : List (Option Nat)} {pinI : List Nat} {fg : FG} {ft : FT} {fe : FE} {pos' spos : Pos} {x : Str} {px : Pos} (hv : PE X (.Name x px) (zdC i)) (hp0 : i1 ∉ pin) (hN : X.N.Nodup) (hi' : X.N[i1]? = some x1) (hx : X.env.scope.names.lookup x1 = some .local)
  (hfr : fr = List.replicate n none ++ js.map some) (hpin : pinI = (List.range js.length).map (n + ·)) (hc : X.calm = true) (S : zb2 X scope N fr) (hi : WI X target (.Name x px) (zbE (zac i)))
  (hin : ∀ z : Bk, WG (zbg X scope z.cl N z.C z.fp z.s z.H) pinI target fg ∧ WF (zbg X scope z.cl N z.C z.fp z.s z.H) ifs ft ∧ WE (zbg X scope z.cl N z.C z.fp z.s z.H) elt fe)
  (hs : ∀ y, foldedSetIterable (.Name x px) X.env y = pure y := by intro _; rfl) (hsw : swapsWith (.ListComp elt [⟨target, .Name x px, ifs, 0⟩] scope pos) (some (.Name x1 pos')) spos.line X.env = pure true := by rfl) :
  WS X pin (.Assign [.Name x1 pos'] (.ListComp elt [⟨target, .Name x px, ifs, 0⟩] scope pos) spos) (zbL i1 (zei n js i fg ft fe)) := ⟨fun pv hp pins s σ H D I hq => by
 rcases zkK hfr (zgw hp hp0 hq) with h | h
 ·exact zi4 (g := fun _ => vG X.K (zew n js σ) fg) (tt := fun _ => vT X.K ft) (te := fun _ => vE X.K fe) hN hi' hx hc S (zf5 hv) (fun z => ⟨(hin z).1.h _ (zdu n js σ hpin), (hin z).2.1.h, (hin z).2.2.h⟩) hs hsw pins s σ H D I h
 ·exact zi4 (g := fun _ => vG X.K (zew n js σ) fg) (tt := fun _ => vT X.K ft) (te := fun _ => vE X.K fe) hN hi' hx hc S hi.h (fun z => ⟨(hin z).1.h _ (zdu n js σ hpin), (hin z).2.1.h, (hin z).2.2.h⟩) hs hsw pins s σ H D I h⟩
end
end VL
end
section
open PySem L2 VL
def FF.zbh : FS := (za2 (zbL 2 (vC (.int 0)))
 (za2 (ze3 (zbk (vB ltM (zac 1) (vCB zd1 (zab (zac 0))))) (zbL 2 (vIx (zac 0) (zac 1))) zbW)
 (za2 (zbL 3 (vB mulM (vB zhz (zac 2) (vB zi0 (vB zi0 (vB zi0 (vB zg1 (vC (.int 10)) (vC (.int 60))) (vB zg1 (vC (.int 10)) (vC (.int 60)))) (vB zg1 (vC (.int 10)) (vC (.int 60)))) (vB zg1 (vC (.int 10)) (vC (.int 60))))) (vCB zhD (zab (vB geM (zac 2) (vB zg1 (vC (.int 10)) (vC (.int 18))))))))
 (zc4 (zcF (zaa (zac 3) (zaa (vB zhz (vB zet (vB zet (vB zhz (zac 2) (vC (.int 2305843009213693951))) (vB mulM (vC (.int 7919)) (zac 1))) (vC (.int 3))) (vC (.int 2305843009213693951))) (zab (vC (.int 0))))))))))
def FF.zaH : FF := zev [true, true] 4 FF.zbh
def FF.zbG : FS := (za2 (ze3 (zbk (vB gtM (vIx (zac 0) (vC (.int 0))) (vC (.int 0)))) (za2 (zbL 2 (vB zhz (vIx (zac 0) (vC (.int 0))) (zac 1)))
 (za2 (zmu 0 (vC (.int 0)) (vB ziu (vIx (zac 0) (vC (.int 0))) (zac 1)))
 (zc4 (zac 2)))) zbW)
 (za2 (zmu 0 (vC (.int 2)) (vB zet (vIx (zac 0) (vC (.int 2))) (vC (.int 1))))
 (za2 (zbL 3 (vB zhz (vB mulM (vB zet (vB zet (vIx (zac 0) (vC (.int 1))) (vB mulM (vB mulM (vC (.int 65537)) (vIx (zac 0) (vC (.int 2)))) (vIx (zac 0) (vC (.int 2))))) (vC (.int 11))) (vC (.int 48271))) (vC (.int 2305843009213693921))))
 (za2 (zbL 3 (vB zhz (vB mulM (zac 3) (vB zet (vB zhz (zac 3) (vC (.int 1000003))) (vB mulM (vC (.int 99991)) (vIx (zac 0) (vC (.int 2)))))) (vC (.int 2305843009213693907))))
 (zc4 (vB zhz (vB zet (vB ziu (zac 3) (vC (.int 97))) (vB ziu (zac 3) (vC (.int 1000033)))) (zac 1)))))))
def FF.zai : FF := zev [true, true] 4 FF.zbG
def FF.zcg : FS := (zc4 (vIx (zac 1) (vFn FF.zai (zaa (zac 0) (zab (vCB zd1 (zab (zac 1))))))))
def FF.zag : FF := zev [true, true] 2 FF.zcg
def FF.zbH : FS := (za2 (zbL 2 (zcF zbS))
 (za2 (zgt (zbE (zac 1)) (zad 3) (zbX (zoj 2 (zaa (vFn FF.zai (zaa (zac 0) (zab (vB zet (vCB zd1 (zab (zac 2))) (vC (.int 1)))))) (zab (zac 3))))))
 (zc4 (zac 2))))
def FF.zaT : FF := zev [true, true] 4 FF.zbH
def FF.zbi : FS := (za2 (zbL 2 (vFn FF.zag (zaa (zac 0) (zab (zcF (zaa (vC (.int 1)) (zaa (vC (.int 1)) (zaa (vC (.int 3)) (zab (vC (.int 4)))))))))))
 (za2 (zbL 3 (vFn FF.zag (zaa (zac 0) (zab (zcF (zaa (vC (.int 0)) (zaa (vC (.int 0)) (zaa (vC (.int 5)) (zab (vB subM (vC (.int 99)) (vB mulM (zac 2) (vCB zgo (zaa (vC (.int 0)) (zab (vB subM (zac 1) (vC (.int 1)))))))))))))))))
 (zc4 (vCB zd2 (zab (vLC 1 [3, 2] (zbf zd4 (zab (zac 1))) (zad 0) zfK (vB zet (zac 1) (vB mulM (zac 2) (zac 0)))))))))
def FF.zap : FF := zev [true, true] 4 FF.zbi
def FF.zbt : FS := (za2 (zmr (zco (zaa (vFn FF.zag (zaa (zac 0) (zab (zcF (zaa (vC (.int 2)) (zaa (vC (.int 3)) (zaa (vC (.int 5)) (zaa (vC (.int 9)) (zab (vC (.int 1))))))))))) (zab (vB (eqM false) (vFn FF.zai (zaa (zac 0) (zab (vC (.int 2))))) (vC (.int 0)))))) (zbb 2 (zam (zad 3) (zam (zad 4) zbe))))
 (za2 (zlJ 5 6 (zaa (vFn FF.zap (zaa (zac 0) (zab (zac 1)))) (zab (zcF zbS))))
 (za2 (zgt (zbf znR (zaa (vC (.int 1)) (zab (zac 1)))) (zad 7) (za2 (ze3 (zf0 (zac 4)) (zbX (zhM 6 (zab (zco (zaa (vFn FF.zai (zaa (zac 0) (zab (zac 7)))) (zab (zac 7))))))) zbW)
 (zbX (zkH 6 (zab (vLC 1 [7, 6, 0, 3] (zbf zd4 (zab (zac 7))) (zad 0) (zfZ (zbk (vB (inA true) (zco (zaa (zac 0) (zab (zac 1)))) (zac 2))) (zbk (vB (eqM false) (vFn FF.zai (zaa (zac 3) (zab (zac 4)))) (vC (.int 0))))) (zco (zaa (zac 0) (zab (zac 1))))))))))
 (za2 (zbL 6 (vCB zd0 (zab (vSl (vFn FF.zaT (zaa (zac 0) (zab (zac 6)))) zg3 (zg4 (zac 2))))))
 (zc4 (zco (zaa (zac 5) (zab (vCB zd2 (zab (vLC 2 [5] (zbE (zac 6)) (zbb 2 (zam (zad 0) (zam (zad 1) zbe))) zfK (zco (zaa (vIx (zac 2) (zac 0)) (zab (vIx (zac 2) (zac 1))))))))))))))))
def FF.zaB : FF := zev [true, true, true] 8 FF.zbt
end
section
open PySem L2 VL
def FF.zdx : FS := (za2 (zmr (zac 0) (zbb 2 (zam (zad 3) (zam (zad 4) zbe))))
 (zc4 (vOrV (zir (vB (inA false) (zac 3) (zac 1)) (vB (inA false) (zac 4) (zac 2))) (zir (vB (inA false) (zac 3) (zac 2)) (vB (inA false) (zac 4) (zac 1))))))
def FF.zbC : FF := zev [true, true, true] 5 FF.zdx
def FF.za7 : FS := (za2 (zgt (zbE (vIx (zac 0) (vC (.int 1)))) (zad 3) (ze3 (zf0 (vFn FF.zbC (zaa (zac 3) (zaa (zac 1) (zab (zac 2)))))) (zc4 (vC (.bool true))) zbW))
 (zc4 (vC (.bool false))))
def FF.zaD : FF := zev [true, true, true] 4 FF.za7
def FF.zdy : FS := (za2 (zmr (zac 1) (zbb 2 (zam (zad 3) (zam (zad 4) zbe))))
 (za2 (zbL 5 (vCB dzM (zaa (zac 3) (zab (zac 2)))))
 (za2 (zbL 6 (vLC2 2 [3, 4] (zbE (zac 3)) (zad 0) zfK (zbE (zac 2)) (zad 1) (zfZ (zbk (vB ltM (zac 0) (zac 1))) (zbk (vB (inA true) (zco (zaa (zac 0) (zab (zac 1)))) (zac 3)))) (zco (zaa (zac 0) (zab (zac 1))))))
 (zc4 (vCB zd2 (zab (zei 2 [0, 5] 6 (zbb 2 (zam (zad 0) (zam (zad 1) zbe))) (zf0 (vFn FF.zaD (zaa (zac 2) (zaa (vIx (zac 3) (zac 0)) (zab (vIx (zac 3) (zac 1))))))) (zco (zaa (zac 0) (zab (zac 1)))))))))))
def FF.zaI : FF := zev [true, true, true] 7 FF.zdy
def FF.zbI : FS := (zc4 (vB (inA false) (zco (zaa (vCB zky (zaa (zac 1) (zab (zac 2)))) (zab (vCB zgo (zaa (zac 1) (zab (zac 2))))))) (vIx (zac 0) (vC (.int 1)))))
def FF.zaL : FF := zev [true, true, true] 3 FF.zbI
def FF.zaZ : FS := (zc4 (vLC 2 [1, 2] (zbE (vIx (zac 0) (vC (.int 1)))) (zbb 2 (zam (zad 0) (zam (zad 1) zbe))) (vOr (zfZ (zbk (vB (inA false) (zac 0) (zac 2))) (zbk (vB (inA false) (zac 1) (zac 3)))) (zfZ (zbk (vB (inA false) (zac 1) (zac 2))) (zbk (vB (inA false) (zac 0) (zac 3))))) (zco (zaa (zac 0) (zab (zac 1))))))
def FF.zaA : FF := zev [true, true, true] 3 FF.zaZ
def FF.za1 : FS := (za2 (zlJ 3 4 (zaa (vCB zgb (zab (vIx (zac 1) (vC (.int 0))))) (zab (zcF zbS))))
 (za2 (zgt (zbf zd4 (zab (vCB zky (zaa (zac 2) (zab (vCB zd1 (zab (zac 3)))))))) (zad 5) (za2 (ze3 (zbk (vB (eqM false) (zac 3) (zcF zbS))) (zc4 (zac 4)) zbW)
 (za2 (zbL 6 (zcF (zab (ziU 3 (zab (vFn FF.zai (zaa (zac 0) (zab (vCB zd1 (zab (zac 3)))))))))))
 (za2 (zgt (zbf zd4 (zab (vFn FF.zag (zaa (zac 0) (zab (zcF (zaa (vC (.int 0)) (zaa (vC (.int 1)) (zaa (vC (.int 2)) (zaa (vC (.int 4)) (zab (vC (.int 9))))))))))))) (zad 7) (za2 (zbL 8 (zei 1 [1, 6] 3 (zad 0) (zf0 (vCB (allM true) (zab (zei 1 [1, 0] 2 (zad 0) zfK (vFn FF.zaL (zaa (zac 1) (zaa (zac 2) (zab (zac 0))))))))) (zac 0)))
 (ze3 (zbk (vB (eqM true) (zac 8) (zcF zbS))) (za2 (zbX (zhM 6 (zab (vFn FF.zag (zaa (zac 0) (zab (zac 8)))))))
 (zbX (zop 3 (zab (vIx (zac 6) (vU zmp (vC (.int 1)))))))) zbW)))
 (zbX (zhM 4 (zab (vCB zd2 (zab (vCB zd0 (zab (zac 6))))))))))))
 (zc4 (zac 4))))
def FF.zaw : FF := zev [true, true, true] 9 FF.za1
def FF.zbp : FS := (za2 (zlJ 3 4 (zaa (vFn FF.zap (zaa (zac 0) (zab (vCB zd1 (zab (zac 2)))))) (zab (zcF zbS))))
 (za2 (zbL 5 (vFn FF.zag (zaa (zac 0) (zab (zcF (zaa (vC (.int 1)) (zaa (vC (.int 2)) (zab (vC (.int 4))))))))))
 (za2 (zgt (zbf zd4 (zab (vCB zd1 (zab (zac 2))))) (zad 6) (za2 (zbL 7 (vLC 1 [1, 2, 6] (zbf zd4 (zab (zac 6))) (zad 0) (zbk (vB (eqM true) (vFn FF.zaA (zaa (zac 1) (zaa (vIx (zac 2) (zac 0)) (zab (vIx (zac 2) (zac 3)))))) (zcF zbS))) (zac 0)))
 (zbX (zkH 4 (zab (zei 1 [3, 6, 0, 5] 7 (zad 0) (zbk (vB (eqM false) (vFn FF.zai (zaa (zac 3) (zab (zac 4)))) (vC (.int 0)))) (zco (zaa (vIx (zac 1) (zac 0)) (zab (vIx (zac 1) (zac 2)))))))))))
 (zc4 (zco (zaa (zac 3) (zab (vCB zd2 (zab (vCB zd0 (zab (zac 4))))))))))))
def FF.zax : FF := zev [true, true, true] 8 FF.zbp
def FF.zbu : FS := (za2 (zbL 3 (zcF zbS))
 (za2 (zgt (zbE (vIx (zac 0) (vC (.int 1)))) (zbb 2 (zam (zad 4) (zam (zad 5) zbe))) (za2 (zbL 6 (vLC 2 [4, 5] (zbf zms (zaa (vIx (zac 1) (vC (.int 0))) (zab (zac 2)))) (zbb 2 (zam (zad 0) (zam (zad 1) zbe))) (vOr (zbk (vB (inA false) (zac 2) (zac 1))) (zbk (vB (inA false) (zac 3) (zac 1)))) (zac 0)))
 (ze3 (zfZ (zbk (vB (eqM false) (vCB zd1 (zab (zac 6))) (vC (.int 2)))) (zfZ (zbk (vB (inA true) (vCB zd2 (zab (zac 6))) (vIx (zac 1) (vC (.int 1))))) (zbk (vB (inA true) (vCB zd2 (zab (zac 6))) (zac 3))))) (zbX (zhM 3 (zab (vCB zd2 (zab (zac 6)))))) zbW)))
 (zc4 (vCB zd2 (zab (vCB zd0 (zab (zac 3))))))))
def FF.zan : FF := zev [true, true, true] 7 FF.zbu
def FF.zeG : FS := (za2 (zgt (zbf zd4 (zab (vCB zgo (zaa (vC (.int 1)) (zab (vCB zky (zaa (vC (.int 8)) (zab (vCB zd1 (zab (zac 0))))))))))) (zad 1) (za2 (zbL 2 (vFn FF.zaH (zaa (zac 0) (zab (zac 1)))))
 (za2 (zbL 3 (vFn FF.zaB (zaa (zac 2) (zaa (vFn FF.zag (zaa (zac 2) (zab (zcF (zha [7, 9, 12, 5, 3, 24, 1, 2, 0]))))) (zab (vC (.int 60)))))))
 (za2 (zbL 4 (vCB zd2 (zab (vFn FF.zaw (zaa (zac 2) (zaa (zac 3) (zab (vFn FF.zai (zaa (zac 2) (zab (vC (.int 10))))))))))))
 (za2 (zbL 5 (vFn FF.zax (zaa (zac 2) (zaa (zac 3) (zab (zac 4))))))
 (za2 (zbL 6 (vFn FF.zan (zaa (zac 3) (zaa (zac 5) (zab (zac 4))))))
 (za2 (zbL 7 (zco (zaa (vIx (zac 5) (vC (.int 0))) (zab (vCB zd2 (zab (vCB zhH (zab (vB zet (vIx (zac 5) (vC (.int 1))) (zac 6))))))))))
 (za2 (zgt (zbf zd4 (zab (vC (.int 2)))) (zad 8) (ze3 (vOr (zbk (vB (eqS true) (vCB zcZ (zab (vFn FF.zaI (zaa (zac 3) (zaa (zac 5) (zab (zac 4))))))) (vCB zcZ (zab (zac 6))))) (zbk (vB (eqS true) (vCB zcZ (zab (vFn FF.zaI (zaa (zac 3) (zaa (zac 7) (zab (zac 4))))))) (vC (.str "()"))))) (zc4 (vC (.bool false))) zbW))
 (ze3 (zbk (vB (eqS true) (vCB zcZ (zab (vFn FF.zaI (zaa (zac 3) (zaa (zco (zaa (vIx (zac 5) (vC (.int 0))) (zab (zco zbS)))) (zab (zac 4))))))) (vCB zcZ (zab (vFn FF.zan (zaa (zac 3) (zaa (zco (zaa (vIx (zac 5) (vC (.int 0))) (zab (zco zbS)))) (zab (zac 4))))))))) (zc4 (vC (.bool false))) zbW)))))))))
 (zc4 (vC (.bool true))))
def FF.zhi : FF := zev [true] 9 FF.zeG
end
section
namespace Lk19
open PySem L2 VL PyProof.Rows
def top (i : Nat) : Stmt := PySem.Challenge.pw_drawnweb_k19_ties_besides.main.body.getD i (.Pass ⟨0, 0, 0, 0⟩)
structure Txt (mg : Str → Option Value) : Prop where
 z_tuple : mg "tuple" = none
 z_dict : mg "dict" = none
 z_zip : mg "zip" = none
 z_int : mg "int" = none
 z_len : mg "len" = none
 z_range : mg "range" = none
 z_max : mg "max" = none
 z_sorted : mg "sorted" = none
 z_min : mg "min" = none
 z_any : mg "any" = none
 z_list : mg "list" = none
 z_repr : mg "repr" = none
section
variable {P : Program} {w : World} {K : PySem.W.Frag} {mg : Str → Option Value} {base : Heap} {f : Addr} {fd : FuncData}
abbrev s_joins : Stmt := top 1
theorem sc_joins : zaP ["tie", "some", "others", "a", "b"] ["tie", "some", "others"] (zah s_joins) := ⟨rfl, rfl, rfl, by decide +kernel, rfl, by decide +kernel, by decide +kernel⟩
theorem ok_joins (Fn : Fun K "joins" "joins" s_joins f fd) (T : Txt mg) : zcv P w K mg base CX0 1 f fd ["tie", "some", "others"] (spV K FF.zbC) :=
 za6 [true, true, true] Fn sc_joins rfl fun cdv A outer s H E hr => (by
  have hU := hr.units
  have hG := hr.gd
  exact (zak (ziN (wv 0) (zdw 2 rfl (zaN (zau (i := 3) (by decide) sc_joins.nd rfl (Or.inl rfl)) (zaN (zau (i := 4) (by decide) sc_joins.nd rfl (Or.inl rfl)) zcd))))
  (zar (za9 (we_or (zkD (ziK hU (wv 3) (wv 1)) (ziM (ziK hU (wv 4) (wv 2)))) (ziM (zkD (ziK hU (wv 3) (wv 2)) (ziM (ziK hU (wv 4) (wv 1))))))))))
abbrev s_tied_between : Stmt := top 2
theorem sc_tied_between : zaP ["web", "some", "others", "tie"] ["web", "some", "others"] (zah s_tied_between) := ⟨rfl, rfl, rfl, by decide +kernel, rfl, by decide +kernel, by decide +kernel⟩
theorem ok_tied_between (Fn : Fun K "tied_between" "tied_between" s_tied_between f fd) (T : Txt mg) (C_joins : zaS P w K mg base "joins" ["tie", "some", "others"] 1 (spV K FF.zbC)) : zcv P w K mg base CX0 2 f fd ["web", "some", "others"] (spV K FF.zaD) :=
 za6 [true, true, true] Fn sc_tied_between rfl fun cdv A outer s H E hr => (by
  have hU := hr.units
  have hG := hr.gd
  exact (zak (zcY PassesOwn.never rfl (zcb (zbc hU (wv 0) zaj (fun _ _ => rfl))) (zau (i := 3) (by decide) sc_tied_between.nd rfl (Or.inl rfl)) (zar (ze7 (zg9 (za5 C_joins hr rfl (zae (wv 3) (zae (wv 1) (zaf (wv 2)))))) (zar (za9 ziJ)) zb1)))
  (zar (za9 ziJ))))
abbrev s_extra : Stmt := top 4
theorem sc_extra : zaP ["web", "told", "lots", "places", "ties", "lot_of", "loose"] ["web", "told", "lots"] (zah s_extra) := ⟨rfl, rfl, rfl, by decide +kernel, rfl, by decide +kernel, by decide +kernel⟩
theorem ok_extra (Fn : Fun K "extra" "extra" s_extra f fd) (T : Txt mg) (C_tied_between : zaS P w K mg base "tied_between" ["web", "some", "others"] 2 (spV K FF.zaD)) : zcv P w K mg base CX0 3 f fd ["web", "told", "lots"] (spV K FF.zaI) :=
 za6 [true, true, true] Fn sc_extra rfl fun cdv A outer s H E hr => (by
  have hU := hr.units
  have hG := hr.gd
  exact (zak (ziN (wv 1) (zdw 2 rfl (zaN (zau (i := 3) (by decide) sc_extra.nd rfl (Or.inr rfl)) (zaN (zau (i := 4) (by decide) sc_extra.nd rfl (Or.inr rfl)) zcd))))
  (zak (zba (i := 5) (by decide) sc_extra.nd rfl (Or.inr rfl) (zl6 rfl rfl T.z_dict rfl T.z_zip (zae (wv 3) (zaf (wv 2)))))
  (zak (zmc (i := 6) 2 [3, 4] (by decide) sc_extra.nd rfl rfl rfl rfl rfl (zaX.of (sc0 := zah s_extra) (N0 := ["web", "told", "lots", "places", "ties", "lot_of", "loose"]) (N := ["h", "k", "places", "ties"]) (fr := [none, none, some 3, some 4]) rfl rfl (by decide +kernel)) (zcb (wv 3)) (fun _ => ⟨(zau (i := 0) (by decide) (show (["h", "k", "places", "ties"] : List Str).Nodup by decide +kernel) rfl (Or.inl rfl)), zhc, (zcb (wv 2)), (zau (i := 1) (by decide) (show (["h", "k", "places", "ties"] : List Str).Nodup by decide +kernel) rfl (Or.inl rfl)), (zdv (zfL (zeF (zb6 (zny hU) (wv 0) (wv 1) (zbN _)) (zd6 (zdK hU (zbl (zae (wv 0) (zaf (wv 1)))) (wv 3)))))), (zbl (zae (wv 0) (zaf (wv 1))))⟩))
  (zar (za9 (zde zbd rfl T.z_tuple (by decide +kernel) (zaf (zi6 6 2 [0, 5] (pv 6) rfl rfl rfl (zaX.of (sc0 := zah s_extra) (N0 := ["web", "told", "lots", "places", "ties", "lot_of", "loose"]) (N := ["h", "k", "web", "lot_of"]) (fr := [none, none, some 0, some 5]) rfl rfl (by decide +kernel)) (zcb (wv 6)) (fun _ => ⟨(zdw 2 rfl (zaN (zau (i := 0) (by decide) (show (["h", "k", "web", "lot_of"] : List Str).Nodup by decide +kernel) rfl (Or.inl rfl)) (zaN (zau (i := 1) (by decide) (show (["h", "k", "web", "lot_of"] : List Str).Nodup by decide +kernel) rfl (Or.inl rfl)) zcd))), (zdv (zg9 (za5 C_tied_between hr rfl (zae (wv 2) (zae (zbc hU (wv 3) (wv 0) (fun _ _ => rfl)) (zaf (zbc hU (wv 3) (wv 1) (fun _ _ => rfl)))))))), (zbl (zae (wv 0) (zaf (wv 1))))⟩))))))))))
abbrev s_law_hand_of : Stmt := top 6
theorem sc_law_hand_of : zaP ["_law_script", "_law_k", "_law_cell", "_law_great"] ["_law_script", "_law_k"] (zah s_law_hand_of) := ⟨rfl, rfl, rfl, by decide +kernel, rfl, by decide +kernel, by decide +kernel⟩
theorem ok_law_hand_of (Fn : Fun K "_law_hand_of" "_law_hand_of" s_law_hand_of f fd) (T : Txt mg) : zcv P w K mg base CX0 1 f fd ["_law_script", "_law_k"] (spV K FF.zaH) :=
 za6 [true, true] Fn sc_law_hand_of rfl fun cdv A outer s H E hr => (by
  have hU := hr.units
  have hG := hr.gd
  exact (zak (zba (i := 2) (by decide) sc_law_hand_of.nd rfl (Or.inl rfl) zaj)
  (zak (ze7 (zb6 (zny hU) (wv 1) (zbo zcX rfl T.z_len (by decide +kernel) (zaf (wv 0))) (zbN _)) (zar (zba (i := 2) (by decide) sc_law_hand_of.nd rfl (Or.inl rfl) (zbc hU (wv 0) (wv 1) (fun _ _ => rfl)))) zb1)
  (zak (zba (i := 3) (by decide) sc_law_hand_of.nd rfl (Or.inl rfl) (zaU zcU (zaU zdr (wv 2) (zaU zgz (zaU zgz (zaU zgz (zaU zfD zaj zaj) (zaU zfD zaj zaj)) (zaU zfD zaj zaj)) (zaU zfD zaj zaj))) (zde znG rfl T.z_int (by decide +kernel) (zaf (zkC (ov_ge hU) (wv 2) (zaU zfD zaj zaj) (zbN _))))))
  (zar (za9 (zbr (zae (wv 3) (zae (zaU zdr (zaU zct (zaU zct (zaU zdr (wv 2) zaj) (zaU zcU zaj (wv 1))) zaj) zaj) (zaf zaj))))))))))
abbrev s_law_take : Stmt := top 7
theorem sc_law_take : zaP ["_law_hand", "_law_many", "_law_digit", "_law_mixed"] ["_law_hand", "_law_many"] (zah s_law_take) := ⟨rfl, rfl, rfl, by decide +kernel, rfl, by decide +kernel, by decide +kernel⟩
theorem ok_law_take (Fn : Fun K "_law_take" "_law_take" s_law_take f fd) (T : Txt mg) : zcv P w K mg base CX0 1 f fd ["_law_hand", "_law_many"] (spV K FF.zai) :=
 za6 [true, true] Fn sc_law_take rfl fun cdv A outer s H E hr => (by
  have hU := hr.units
  have hG := hr.gd
  exact (zak (ze7 (zb6 ov_gt (zbc hU (wv 0) zaj (fun _ _ => rfl)) zaj (zbN _)) (zak (zba (i := 2) (by decide) sc_law_take.nd rfl (Or.inl rfl) (zaU zdr (zbc hU (wv 0) zaj (fun _ _ => rfl)) (wv 1)))
  (zak (zkF 0 hU (pv 0) zaj (zaU zgk (zbc hU (wv 0) zaj (fun _ _ => rfl)) (wv 1)) rfl (fun _ _ h1 h2 => zgK h1 h2) (fun _ _ h1 h2 => zkk h1 h2 set_list))
  (zar (za9 (wv 2))))) zb1)
  (zak (zkF 0 hU (pv 0) zaj (zaU zct (zbc hU (wv 0) zaj (fun _ _ => rfl)) zaj) rfl (fun _ _ h1 h2 => zgK h1 h2) (fun _ _ h1 h2 => zkk h1 h2 set_list))
  (zak (zba (i := 3) (by decide) sc_law_take.nd rfl (Or.inl rfl) (zaU zdr (zaU zcU (zaU zct (zaU zct (zbc hU (wv 0) zaj (fun _ _ => rfl)) (zaU zcU (zaU zcU zaj (zbc hU (wv 0) zaj (fun _ _ => rfl))) (zbc hU (wv 0) zaj (fun _ _ => rfl)))) zaj) zaj) zaj))
  (zak (zba (i := 3) (by decide) sc_law_take.nd rfl (Or.inl rfl) (zaU zdr (zaU zcU (wv 3) (zaU zct (zaU zdr (wv 3) zaj) (zaU zcU zaj (zbc hU (wv 0) zaj (fun _ _ => rfl))))) zaj))
  (zar (za9 (zaU zdr (zaU zct (zaU zgk (wv 3) zaj) (zaU zgk (wv 3) zaj)) (wv 1)))))))))
abbrev s_law_pick : Stmt := top 8
theorem sc_law_pick : zaP ["_law_hand", "_law_some"] ["_law_hand", "_law_some"] (zah s_law_pick) := ⟨rfl, rfl, rfl, by decide +kernel, rfl, by decide +kernel, by decide +kernel⟩
theorem ok_law_pick (Fn : Fun K "_law_pick" "_law_pick" s_law_pick f fd) (T : Txt mg) (C_law_take : zaS P w K mg base "_law_take" ["_law_hand", "_law_many"] 1 (spV K FF.zai)) : zcv P w K mg base CX0 2 f fd ["_law_hand", "_law_some"] (spV K FF.zag) :=
 za6 [true, true] Fn sc_law_pick rfl fun cdv A outer s H E hr => (by
  have hU := hr.units
  have hG := hr.gd
  exact (zar (za9 (zbc hU (wv 1) (za5 C_law_take hr rfl (zae (wv 0) (zaf (zbo zcX rfl T.z_len (by decide +kernel) (zaf (wv 1)))))) (fun _ _ => rfl)))))
abbrev s_law_shuffled : Stmt := top 9
theorem sc_law_shuffled : zaP ["_law_hand", "_law_some", "_law_found", "_law_one"] ["_law_hand", "_law_some"] (zah s_law_shuffled) := ⟨rfl, rfl, rfl, by decide +kernel, rfl, by decide +kernel, by decide +kernel⟩
theorem ok_law_shuffled (Fn : Fun K "_law_shuffled" "_law_shuffled" s_law_shuffled f fd) (T : Txt mg) (C_law_take : zaS P w K mg base "_law_take" ["_law_hand", "_law_many"] 1 (spV K FF.zai)) : zcv P w K mg base CX0 2 f fd ["_law_hand", "_law_some"] (spV K FF.zaT) :=
 za6 [true, true] Fn sc_law_shuffled rfl fun cdv A outer s H E hr => (by
  have hU := hr.units
  have hG := hr.gd
  exact (zak (zba (i := 2) (by decide) sc_law_shuffled.nd rfl (Or.inl rfl) (zbr zcu))
  (zak (zcY PassesOwn.never rfl (zcb (wv 1)) (zau (i := 3) (by decide) sc_law_shuffled.nd rfl (Or.inl rfl)) (zar (zce (zok 2 (zae (za5 C_law_take hr rfl (zae (wv 0) (zaf (zaU zct (zbo zcX rfl T.z_len (by decide +kernel) (zaf (wv 2))) zaj)))) (zaf (wv 3))) (fun _ _ h1 h2 => zeR PySem.F.plainAttrs_list PySem.F.slot_list_insert PySem.F.type_list_insert ziV h1 h2) (pv 2)))))
  (zar (za9 (wv 2))))))
abbrev s_law_places_drawn : Stmt := top 10
theorem sc_law_places_drawn : zaP ["_law_hand", "_law_many", "_law_stride", "_law_first"] ["_law_hand", "_law_many"] (zah s_law_places_drawn) := ⟨rfl, rfl, rfl, by decide +kernel, rfl, by decide +kernel, by decide +kernel⟩
theorem ok_law_places_drawn (Fn : Fun K "_law_places_drawn" "_law_places_drawn" s_law_places_drawn f fd) (T : Txt mg) (C_law_pick : zaS P w K mg base "_law_pick" ["_law_hand", "_law_some"] 2 (spV K FF.zag)) : zcv P w K mg base CX0 3 f fd ["_law_hand", "_law_many"] (spV K FF.zap) :=
 za6 [true, true] Fn sc_law_places_drawn rfl fun cdv A outer s H E hr => (by
  have hU := hr.units
  have hG := hr.gd
  exact (zak (zba (i := 2) (by decide) sc_law_places_drawn.nd rfl (Or.inr rfl) (za5 C_law_pick hr rfl (zae (wv 0) (zaf (zbr (zae zaj (zae zaj (zae zaj (zaf zaj)))))))))
  (zak (zba (i := 3) (by decide) sc_law_places_drawn.nd rfl (Or.inr rfl) (za5 C_law_pick hr rfl (zae (wv 0) (zaf (zbr (zae zaj (zae zaj (zae zaj (zaf (zaU zku zaj (zaU zcU (wv 2) (zbo (zgp rfl) rfl T.z_max (by decide +kernel) (zae zaj (zaf (zaU zku (wv 1) zaj)))))))))))))))
  (zar (za9 (zde zbd rfl T.z_tuple (by decide +kernel) (zaf (zjV 1 [3, 2] rfl rfl rfl (zaX.of (sc0 := zah s_law_places_drawn) (N0 := ["_law_hand", "_law_many", "_law_stride", "_law_first"]) (N := ["_law_k", "_law_first", "_law_stride"]) (fr := [none, some 3, some 2]) rfl rfl (by decide +kernel)) (zcc rfl T.z_range (zaf (wv 1))) (fun _ => ⟨(zau (i := 0) (by decide) (show (["_law_k", "_law_first", "_law_stride"] : List Str).Nodup by decide +kernel) rfl (Or.inl rfl)), zhc, (zaU zct (wv 1) (zaU zcU (wv 2) (wv 0)))⟩)))))))))
abbrev s_law_web_drawn : Stmt := top 11
theorem sc_law_web_drawn : zaP ["_law_hand", "_law_many", "_law_most", "_law_sparse", "_law_tree", "_law_places", "_law_ties", "_law_b"] ["_law_hand", "_law_many", "_law_most"] (zah s_law_web_drawn) := ⟨rfl, rfl, rfl, by decide +kernel, rfl, by decide +kernel, by decide +kernel⟩
theorem ok_law_web_drawn (Fn : Fun K "_law_web_drawn" "_law_web_drawn" s_law_web_drawn f fd) (T : Txt mg) (C_law_shuffled : zaS P w K mg base "_law_shuffled" ["_law_hand", "_law_some"] 2 (spV K FF.zaT)) (C_law_take : zaS P w K mg base "_law_take" ["_law_hand", "_law_many"] 1 (spV K FF.zai)) (C_law_places_drawn : zaS P w K mg base "_law_places_drawn" ["_law_hand", "_law_many"] 3 (spV K FF.zap)) (C_law_pick : zaS P w K mg base "_law_pick" ["_law_hand", "_law_some"] 2 (spV K FF.zag)) : zcv P w K mg base CX0 4 f fd ["_law_hand", "_law_many", "_law_most"] (spV K FF.zaB) :=
 za6 [true, true, true] Fn sc_law_web_drawn rfl fun cdv A outer s H E hr => (by
  have hU := hr.units
  have hG := hr.gd
  exact (zak (ziN (zbl (zae (za5 C_law_pick hr rfl (zae (wv 0) (zaf (zbr (zae zaj (zae zaj (zae zaj (zae zaj (zaf zaj))))))))) (zaf (zkC (ziv hU) (za5 C_law_take hr rfl (zae (wv 0) (zaf zaj))) zaj (zbN _))))) (zdw 2 rfl (zaN (zau (i := 3) (by decide) sc_law_web_drawn.nd rfl (Or.inr rfl)) (zaN (zau (i := 4) (by decide) sc_law_web_drawn.nd rfl (Or.inl rfl)) zcd))))
  (zak (ziO (i := 5) (j := 6) (by decide) (by decide) (zae (za5 C_law_places_drawn hr rfl (zae (wv 0) (zaf (wv 1)))) (zaf (zbr zcu))) (fun _ h => ziX (i := 5) (j := 6) rfl sc_law_web_drawn.nd rfl rfl (Or.inr rfl) (Or.inr rfl) h rfl))
  (zak (zcY PassesOwn.never rfl (zlV rfl T.z_range (zae zaj (zaf (wv 1)))) (zau (i := 7) (by decide) sc_law_web_drawn.nd rfl (Or.inr rfl)) (zak (ze7 (zg9 (wv 4)) (zar (zce (zhb 6 (zaf (zbl (zae (za5 C_law_take hr rfl (zae (wv 0) (zaf (wv 7)))) (zaf (wv 7))))) (fun _ _ h1 h2 => zeR PySem.F.plainAttrs_list PySem.F.slot_list_append PySem.F.type_list_append zbU h1 h2) (pv 6)))) zb1)
  (zar (zce (zkI 6 (zaf (zjV 1 [7, 6, 0, 3] rfl rfl rfl (zaX.of (sc0 := zah s_law_web_drawn) (N0 := ["_law_hand", "_law_many", "_law_most", "_law_sparse", "_law_tree", "_law_places", "_law_ties", "_law_b"]) (N := ["_law_a", "_law_b", "_law_ties", "_law_hand", "_law_sparse"]) (fr := [none, some 7, some 6, some 0, some 3]) rfl rfl (by decide +kernel)) (zcc rfl T.z_range (zaf (wv 7))) (fun _ => ⟨(zau (i := 0) (by decide) (show (["_law_a", "_law_b", "_law_ties", "_law_hand", "_law_sparse"] : List Str).Nodup by decide +kernel) rfl (Or.inl rfl)), (zdv (zfL (zeF (zdK hU (zbl (zae (wv 0) (zaf (wv 1)))) (wv 2)) (zd6 (zb6 (ziv hU) (za5 C_law_take hr rfl (zae (wv 3) (zaf (wv 4)))) zaj (zbN _)))))), (zbl (zae (wv 0) (zaf (wv 1))))⟩))) (fun _ _ h1 h2 => zeR PySem.F.plainAttrs_list PySem.F.slot_list_extend PySem.F.type_list_extend zfu h1 h2) (pv 6))))))
  (zak (zba (i := 6) (by decide) sc_law_web_drawn.nd rfl (Or.inr rfl) (zbo (zca rfl) rfl T.z_sorted (by decide +kernel) (zaf (we_sl (za5 C_law_shuffled hr rfl (zae (wv 0) (zaf (wv 6)))) zlT (zlU (wv 2))))))
  (zar (za9 (zbl (zae (wv 5) (zaf (zde zbd rfl T.z_tuple (by decide +kernel) (zaf (zjV 2 [5] rfl rfl rfl (zaX.of (sc0 := zah s_law_web_drawn) (N0 := ["_law_hand", "_law_many", "_law_most", "_law_sparse", "_law_tree", "_law_places", "_law_ties", "_law_b"]) (N := ["_law_a", "_law_b", "_law_places"]) (fr := [none, none, some 5]) rfl rfl (by decide +kernel)) (zcb (wv 6)) (fun _ => ⟨(zdw 2 rfl (zaN (zau (i := 0) (by decide) (show (["_law_a", "_law_b", "_law_places"] : List Str).Nodup by decide +kernel) rfl (Or.inl rfl)) (zaN (zau (i := 1) (by decide) (show (["_law_a", "_law_b", "_law_places"] : List Str).Nodup by decide +kernel) rfl (Or.inl rfl)) zcd))), zhc, (zbl (zae (zbc hU (wv 2) (wv 0) (fun _ _ => rfl)) (zaf (zbc hU (wv 2) (wv 1) (fun _ _ => rfl)))))⟩))))))))))))))
abbrev s_law_tied : Stmt := top 12
theorem sc_law_tied : zaP ["_law_web", "_law_a", "_law_b"] ["_law_web", "_law_a", "_law_b"] (zah s_law_tied) := ⟨rfl, rfl, rfl, by decide +kernel, rfl, by decide +kernel, by decide +kernel⟩
theorem ok_law_tied (Fn : Fun K "_law_tied" "_law_tied" s_law_tied f fd) (T : Txt mg) : zcv P w K mg base CX0 1 f fd ["_law_web", "_law_a", "_law_b"] (spV K FF.zaL) :=
 za6 [true, true, true] Fn sc_law_tied rfl fun cdv A outer s H E hr => (by
  have hU := hr.units
  have hG := hr.gd
  exact (zar (za9 (ziK hU (zbl (zae (zbo (ziA rfl) rfl T.z_min (by decide +kernel) (zae (wv 1) (zaf (wv 2)))) (zaf (zbo (zgp rfl) rfl T.z_max (by decide +kernel) (zae (wv 1) (zaf (wv 2))))))) (zbc hU (wv 0) zaj (fun _ _ => rfl))))))
abbrev s_law_between : Stmt := top 13
theorem sc_law_between : zaP ["_law_web", "_law_one", "_law_other"] ["_law_web", "_law_one", "_law_other"] (zah s_law_between) := ⟨rfl, rfl, rfl, by decide +kernel, rfl, by decide +kernel, by decide +kernel⟩
theorem ok_law_between (Fn : Fun K "_law_between" "_law_between" s_law_between f fd) (T : Txt mg) : zcv P w K mg base CX0 1 f fd ["_law_web", "_law_one", "_law_other"] (spV K FF.zaA) :=
 za6 [true, true, true] Fn sc_law_between rfl fun cdv A outer s H E hr => (by
  have hU := hr.units
  have hG := hr.gd
  exact (zar (za9 (zjV 2 [1, 2] rfl rfl rfl (zaX.of (sc0 := zah s_law_between) (N0 := ["_law_web", "_law_one", "_law_other"]) (N := ["_law_a", "_law_b", "_law_one", "_law_other"]) (fr := [none, none, some 1, some 2]) rfl rfl (by decide +kernel)) (zcb (zbc hU (wv 0) zaj (fun _ _ => rfl))) (fun _ => ⟨(zdw 2 rfl (zaN (zau (i := 0) (by decide) (show (["_law_a", "_law_b", "_law_one", "_law_other"] : List Str).Nodup by decide +kernel) rfl (Or.inl rfl)) (zaN (zau (i := 1) (by decide) (show (["_law_a", "_law_b", "_law_one", "_law_other"] : List Str).Nodup by decide +kernel) rfl (Or.inl rfl)) zcd))), (zdv (zfL (zlR (zfL (zeF (zhF hU (wv 0) (wv 2)) (zd6 (zhF hU (wv 1) (wv 3))))) (ziL (zfL (zeF (zhF hU (wv 1) (wv 2)) (zd6 (zhF hU (wv 0) (wv 3))))))))), (zbl (zae (wv 0) (zaf (wv 1))))⟩)))))
abbrev s_law_lots_drawn : Stmt := top 14
theorem sc_law_lots_drawn : zaP ["_law_hand", "_law_web", "_law_many", "_law_free", "_law_lots", "_law_turn", "_law_lot", "_law_more", "_law_beside_it"] ["_law_hand", "_law_web", "_law_many"] (zah s_law_lots_drawn) := ⟨rfl, rfl, rfl, by decide +kernel, rfl, by decide +kernel, by decide +kernel⟩
theorem ok_law_lots_drawn (Fn : Fun K "_law_lots_drawn" "_law_lots_drawn" s_law_lots_drawn f fd) (T : Txt mg) (C_law_pick : zaS P w K mg base "_law_pick" ["_law_hand", "_law_some"] 2 (spV K FF.zag)) (C_law_tied : zaS P w K mg base "_law_tied" ["_law_web", "_law_a", "_law_b"] 1 (spV K FF.zaL)) (C_law_take : zaS P w K mg base "_law_take" ["_law_hand", "_law_many"] 1 (spV K FF.zai)) : zcv P w K mg base CX0 3 f fd ["_law_hand", "_law_web", "_law_many"] (spV K FF.zaw) :=
 za6 [true, true, true] Fn sc_law_lots_drawn rfl fun cdv A outer s H E hr => (by
  have hU := hr.units
  have hG := hr.gd
  exact (zak (ziO (i := 3) (j := 4) (by decide) (by decide) (zae (zde zlC rfl T.z_list (by decide +kernel) (zaf (zbc hU (wv 1) zaj (fun _ _ => rfl)))) (zaf (zbr zcu))) (fun _ h => zmO (i := 3) (j := 4) rfl sc_law_lots_drawn.nd rfl rfl (by decide) rfl rfl h rfl))
  (zak (zcY PassesOwn.never rfl (zcc rfl T.z_range (zaf (zbo (ziA rfl) rfl T.z_min (by decide +kernel) (zae (wv 2) (zaf (zbo zcX rfl T.z_len (by decide +kernel) (zaf (wv 3)))))))) (zau (i := 5) (by decide) sc_law_lots_drawn.nd rfl (Or.inl rfl)) (zak (ze7 (zb6 (ziv hU) (wv 3) (zbr zcu) (zbN _)) (zar (za9 (wv 4))) zb1)
  (zak (zba (i := 6) (by decide) sc_law_lots_drawn.nd rfl (Or.inr rfl) (zbr (zaf (zlZ 3 (zaf (za5 C_law_take hr rfl (zae (wv 0) (zaf (zbo zcX rfl T.z_len (by decide +kernel) (zaf (wv 3))))))) (fun _ _ h1 h2 => zeR PySem.F.plainAttrs_list PySem.F.slot_list_pop PySem.F.type_list_pop zjH h1 h2) (pv 3)))))
  (zak (zcY PassesOwn.never rfl (zcc rfl T.z_range (zaf (za5 C_law_pick hr rfl (zae (wv 0) (zaf (zbr (zae zaj (zae zaj (zae zaj (zae zaj (zaf zaj))))))))))) (zau (i := 7) (by decide) sc_law_lots_drawn.nd rfl (Or.inl rfl)) (zak (zj6 3 (i1 := 8) 1 [1, 6] (pv 3) (by decide) sc_law_lots_drawn.nd rfl rfl rfl rfl rfl (zb2.of (sc0 := zah s_law_lots_drawn) (N0 := ["_law_hand", "_law_web", "_law_many", "_law_free", "_law_lots", "_law_turn", "_law_lot", "_law_more", "_law_beside_it"]) (N := ["_law_one", "_law_web", "_law_lot"]) (fr := [none, some 1, some 6]) rfl rfl (by decide +kernel)) (zcb (wv 3)) (fun _ => ⟨(zau (i := 0) (by decide) (show (["_law_one", "_law_web", "_law_lot"] : List Str).Nodup by decide +kernel) rfl (Or.inr rfl)), (zdv (zg9 (zbo (znI rfl) rfl T.z_any (by decide +kernel) (zaf (zi6 2 1 [1, 0] (pv 2) rfl rfl rfl (zaX.of (sc0 := _) (N0 := ["_law_one", "_law_web", "_law_lot"]) (N := ["_law_other", "_law_web", "_law_one"]) (fr := [none, some 1, some 0]) rfl rfl (by kernel_rfl)) (zcb (wv 2)) (fun _ => ⟨(zau (i := 0) (by decide) (show (["_law_other", "_law_web", "_law_one"] : List Str).Nodup by decide +kernel) rfl (Or.inl rfl)), zhc, (za5 C_law_tied hr rfl (zae (wv 1) (zae (wv 2) (zaf (wv 0)))))⟩)))))), (wv 0)⟩))
  (zar (ze7 (zb6 (znx hU) (wv 8) (zbr zcu) (zbN _)) (zak (zce (zhb 6 (zaf (za5 C_law_pick hr rfl (zae (wv 0) (zaf (wv 8))))) (fun _ _ h1 h2 => zeR PySem.F.plainAttrs_list PySem.F.slot_list_append PySem.F.type_list_append zbU h1 h2) (pv 6)))
  (zar (zce (zoq 3 (zaf (zbc hU (wv 6) (zn2 zaj) (fun _ _ => rfl))) (fun _ _ h1 h2 => zeR PySem.F.plainAttrs_list PySem.F.slot_list_remove PySem.F.type_list_remove zi2 h1 h2) (pv 3))))) zb1))))
  (zar (zce (zhb 4 (zaf (zde zbd rfl T.z_tuple (by decide +kernel) (zaf (zbo (zca rfl) rfl T.z_sorted (by decide +kernel) (zaf (wv 6)))))) (fun _ _ h1 h2 => zeR PySem.F.plainAttrs_list PySem.F.slot_list_append PySem.F.type_list_append zbU h1 h2) (pv 4))))))))
  (zar (za9 (wv 4))))))
abbrev s_law_told_drawn : Stmt := top 15
theorem sc_law_told_drawn : zaP ["_law_hand", "_law_web", "_law_lots", "_law_names", "_law_ties", "_law_often", "_law_k", "_law_some"] ["_law_hand", "_law_web", "_law_lots"] (zah s_law_told_drawn) := ⟨rfl, rfl, rfl, by decide +kernel, rfl, by decide +kernel, by decide +kernel⟩
theorem ok_law_told_drawn (Fn : Fun K "_law_told_drawn" "_law_told_drawn" s_law_told_drawn f fd) (T : Txt mg) (C_law_take : zaS P w K mg base "_law_take" ["_law_hand", "_law_many"] 1 (spV K FF.zai)) (C_law_between : zaS P w K mg base "_law_between" ["_law_web", "_law_one", "_law_other"] 1 (spV K FF.zaA)) (C_law_pick : zaS P w K mg base "_law_pick" ["_law_hand", "_law_some"] 2 (spV K FF.zag)) (C_law_places_drawn : zaS P w K mg base "_law_places_drawn" ["_law_hand", "_law_many"] 3 (spV K FF.zap)) : zcv P w K mg base CX0 4 f fd ["_law_hand", "_law_web", "_law_lots"] (spV K FF.zax) :=
 za6 [true, true, true] Fn sc_law_told_drawn rfl fun cdv A outer s H E hr => (by
  have hU := hr.units
  have hG := hr.gd
  exact (zak (ziO (i := 3) (j := 4) (by decide) (by decide) (zae (za5 C_law_places_drawn hr rfl (zae (wv 0) (zaf (zbo zcX rfl T.z_len (by decide +kernel) (zaf (wv 2)))))) (zaf (zbr zcu))) (fun _ h => ziX (i := 3) (j := 4) rfl sc_law_told_drawn.nd rfl rfl (Or.inr rfl) (Or.inl rfl) h rfl))
  (zak (zba (i := 5) (by decide) sc_law_told_drawn.nd rfl (Or.inr rfl) (za5 C_law_pick hr rfl (zae (wv 0) (zaf (zbr (zae zaj (zae zaj (zaf zaj))))))))
  (zak (zcY PassesOwn.never rfl (zcc rfl T.z_range (zaf (zbo zcX rfl T.z_len (by decide +kernel) (zaf (wv 2))))) (zau (i := 6) (by decide) sc_law_told_drawn.nd rfl (Or.inr rfl)) (zak (zkE (i := 7) 1 [1, 2, 6] (by decide) sc_law_told_drawn.nd rfl rfl rfl rfl rfl (zaX.of (sc0 := zah s_law_told_drawn) (N0 := ["_law_hand", "_law_web", "_law_lots", "_law_names", "_law_ties", "_law_often", "_law_k", "_law_some"]) (N := ["_law_h", "_law_web", "_law_lots", "_law_k"]) (fr := [none, some 1, some 2, some 6]) rfl rfl (by decide +kernel)) (zcc rfl T.z_range (zaf (wv 6))) (fun _ => ⟨(zau (i := 0) (by decide) (show (["_law_h", "_law_web", "_law_lots", "_law_k"] : List Str).Nodup by decide +kernel) rfl (Or.inl rfl)), (zdv (zb6 (znx hU) (za5 C_law_between hr rfl (zae (wv 1) (zae (zbc hU (wv 2) (wv 0) (fun _ _ => rfl)) (zaf (zbc hU (wv 2) (wv 3) (fun _ _ => rfl)))))) (zbr zcu) (zbN _))), (wv 0)⟩))
  (zar (zce (zkI 4 (zaf (zi6 7 1 [3, 6, 0, 5] (pv 7) rfl rfl rfl (zaX.of (sc0 := zah s_law_told_drawn) (N0 := ["_law_hand", "_law_web", "_law_lots", "_law_names", "_law_ties", "_law_often", "_law_k", "_law_some"]) (N := ["_law_h", "_law_names", "_law_k", "_law_hand", "_law_often"]) (fr := [none, some 3, some 6, some 0, some 5]) rfl rfl (by decide +kernel)) (zcb (wv 7)) (fun _ => ⟨(zau (i := 0) (by decide) (show (["_law_h", "_law_names", "_law_k", "_law_hand", "_law_often"] : List Str).Nodup by decide +kernel) rfl (Or.inl rfl)), (zdv (zb6 (ziv hU) (za5 C_law_take hr rfl (zae (wv 3) (zaf (wv 4)))) zaj (zbN _))), (zbl (zae (zbc hU (wv 1) (wv 0) (fun _ _ => rfl)) (zaf (zbc hU (wv 1) (wv 2) (fun _ _ => rfl)))))⟩))) (fun _ _ h1 h2 => zeR PySem.F.plainAttrs_list PySem.F.slot_list_extend PySem.F.type_list_extend zfu h1 h2) (pv 4))))))
  (zar (za9 (zbl (zae (wv 3) (zaf (zde zbd rfl T.z_tuple (by decide +kernel) (zaf (zbo (zca rfl) rfl T.z_sorted (by decide +kernel) (zaf (wv 4))))))))))))))
abbrev s_law_due_extra : Stmt := top 16
theorem sc_law_due_extra : zaP ["_law_web", "_law_told", "_law_lots", "_law_found", "_law_a", "_law_b", "_law_ends"] ["_law_web", "_law_told", "_law_lots"] (zah s_law_due_extra) := ⟨rfl, rfl, rfl, by decide +kernel, rfl, by decide +kernel, by decide +kernel⟩
theorem ok_law_due_extra (Fn : Fun K "_law_due_extra" "_law_due_extra" s_law_due_extra f fd) (T : Txt mg) : zcv P w K mg base CX0 1 f fd ["_law_web", "_law_told", "_law_lots"] (spV K FF.zan) :=
 za6 [true, true, true] Fn sc_law_due_extra rfl fun cdv A outer s H E hr => (by
  have hU := hr.units
  have hG := hr.gd
  exact (zak (zba (i := 3) (by decide) sc_law_due_extra.nd rfl (Or.inl rfl) (zbr zcu))
  (zak (zcY PassesOwn.never rfl (zcb (zbc hU (wv 0) zaj (fun _ _ => rfl))) (zdw 2 rfl (zaN (zau (i := 4) (by decide) sc_law_due_extra.nd rfl (Or.inr rfl)) (zaN (zau (i := 5) (by decide) sc_law_due_extra.nd rfl (Or.inr rfl)) zcd))) (zak (zkE (i := 6) 2 [4, 5] (by decide) sc_law_due_extra.nd rfl rfl rfl rfl rfl (zaX.of (sc0 := zah s_law_due_extra) (N0 := ["_law_web", "_law_told", "_law_lots", "_law_found", "_law_a", "_law_b", "_law_ends"]) (N := ["_law_h", "_law_lot", "_law_a", "_law_b"]) (fr := [none, none, some 4, some 5]) rfl rfl (by decide +kernel)) (zn3 rfl T.z_zip (zae (zbc hU (wv 1) zaj (fun _ _ => rfl)) (zaf (wv 2)))) (fun _ => ⟨(zdw 2 rfl (zaN (zau (i := 0) (by decide) (show (["_law_h", "_law_lot", "_law_a", "_law_b"] : List Str).Nodup by decide +kernel) rfl (Or.inl rfl)) (zaN (zau (i := 1) (by decide) (show (["_law_h", "_law_lot", "_law_a", "_law_b"] : List Str).Nodup by decide +kernel) rfl (Or.inl rfl)) zcd))), (zdv (zfL (zlR (zhF hU (wv 2) (wv 1)) (ziL (zhF hU (wv 3) (wv 1)))))), (wv 0)⟩))
  (zar (ze7 (zfL (zeF (zb6 (ziv hU) (zbo zcX rfl T.z_len (by decide +kernel) (zaf (wv 6))) zaj (zbN _)) (zeF (zdK hU (zde zbd rfl T.z_tuple (by decide +kernel) (zaf (wv 6))) (zbc hU (wv 1) zaj (fun _ _ => rfl))) (zd6 (zdK hU (zde zbd rfl T.z_tuple (by decide +kernel) (zaf (wv 6))) (wv 3)))))) (zar (zce (zhb 3 (zaf (zde zbd rfl T.z_tuple (by decide +kernel) (zaf (wv 6)))) (fun _ _ h1 h2 => zeR PySem.F.plainAttrs_list PySem.F.slot_list_append PySem.F.type_list_append zbU h1 h2) (pv 3)))) zb1))))
  (zar (za9 (zde zbd rfl T.z_tuple (by decide +kernel) (zaf (zbo (zca rfl) rfl T.z_sorted (by decide +kernel) (zaf (wv 3))))))))))
abbrev s_law : Stmt := top 17
theorem sc_law : zaP ["_law_script", "_law_k", "_law_hand", "_law_web", "_law_lots", "_law_told", "_law_due", "_law_more", "_law_again"] ["_law_script"] (zah s_law) := ⟨rfl, rfl, rfl, by decide +kernel, rfl, by decide +kernel, by decide +kernel⟩
theorem ok_law (Fn : Fun K "law" "law" s_law f fd) (T : Txt mg) (C_extra : zaS P w K mg base "extra" ["web", "told", "lots"] 3 (spV K FF.zaI)) (C_law_due_extra : zaS P w K mg base "_law_due_extra" ["_law_web", "_law_told", "_law_lots"] 1 (spV K FF.zan)) (C_law_told_drawn : zaS P w K mg base "_law_told_drawn" ["_law_hand", "_law_web", "_law_lots"] 4 (spV K FF.zax)) (C_law_lots_drawn : zaS P w K mg base "_law_lots_drawn" ["_law_hand", "_law_web", "_law_many"] 3 (spV K FF.zaw)) (C_law_take : zaS P w K mg base "_law_take" ["_law_hand", "_law_many"] 1 (spV K FF.zai)) (C_law_web_drawn : zaS P w K mg base "_law_web_drawn" ["_law_hand", "_law_many", "_law_most"] 4 (spV K FF.zaB)) (C_law_pick : zaS P w K mg base "_law_pick" ["_law_hand", "_law_some"] 2 (spV K FF.zag)) (C_law_hand_of : zaS P w K mg base "_law_hand_of" ["_law_script", "_law_k"] 1 (spV K FF.zaH)) : zcv P w K mg base CX0 5 f fd ["_law_script"] (spV K FF.zhi) :=
 za6 [true] Fn sc_law rfl fun cdv A outer s H E hr => (by
  have hU := hr.units
  have hG := hr.gd
  exact (zak (zcY PassesOwn.never rfl (zcc rfl T.z_range (zaf (zbo (zgp rfl) rfl T.z_max (by decide +kernel) (zae zaj (zaf (zbo (ziA rfl) rfl T.z_min (by decide +kernel) (zae zaj (zaf (zbo zcX rfl T.z_len (by decide +kernel) (zaf (wv 0))))))))))) (zau (i := 1) (by decide) sc_law.nd rfl (Or.inl rfl)) (zak (zba (i := 2) (by decide) sc_law.nd rfl (Or.inl rfl) (za5 C_law_hand_of hr rfl (zae (wv 0) (zaf (wv 1)))))
  (zak (zba (i := 3) (by decide) sc_law.nd rfl (Or.inl rfl) (za5 C_law_web_drawn hr rfl (zae (wv 2) (zae (za5 C_law_pick hr rfl (zae (wv 2) (zaf (zbr (zlS (ns := [7, 9, 12, 5, 3, 24, 1, 2, 0]) (by decide +kernel)))))) (zaf zaj)))))
  (zak (zba (i := 4) (by decide) sc_law.nd rfl (Or.inl rfl) (zde zbd rfl T.z_tuple (by decide +kernel) (zaf (za5 C_law_lots_drawn hr rfl (zae (wv 2) (zae (wv 3) (zaf (za5 C_law_take hr rfl (zae (wv 2) (zaf zaj))))))))))
  (zak (zba (i := 5) (by decide) sc_law.nd rfl (Or.inl rfl) (za5 C_law_told_drawn hr rfl (zae (wv 2) (zae (wv 3) (zaf (wv 4))))))
  (zak (zba (i := 6) (by decide) sc_law.nd rfl (Or.inl rfl) (za5 C_law_due_extra hr rfl (zae (wv 3) (zae (wv 5) (zaf (wv 4))))))
  (zak (zba (i := 7) (by decide) sc_law.nd rfl (Or.inl rfl) (zbl (zae (zbc hU (wv 5) zaj (fun _ _ => rfl)) (zaf (zde zbd rfl T.z_tuple (by decide +kernel) (zaf (zbo (zj3 rfl) rfl T.z_sorted (by decide +kernel) (zaf (zaU zct (zbc hU (wv 5) zaj (fun _ _ => rfl)) (wv 6))))))))))
  (zak (zcY PassesOwn.never rfl (zcc rfl T.z_range (zaf zaj)) (zau (i := 8) (by decide) sc_law.nd rfl (Or.inl rfl)) (zar (ze7 (zfL (zlR (zb6 ziZ (zbo (zd8 hU hG) rfl T.z_repr (by decide +kernel) (zaf (za5 C_extra hr rfl (zae (wv 3) (zae (wv 5) (zaf (wv 4))))))) (zbo (zd8 hU hG) rfl T.z_repr (by decide +kernel) (zaf (wv 6))) (zbN _)) (ziL (zb6 ziZ (zbo (zd8 hU hG) rfl T.z_repr (by decide +kernel) (zaf (za5 C_extra hr rfl (zae (wv 3) (zae (wv 7) (zaf (wv 4))))))) zn1 (zbN _))))) (zar (za9 ziJ)) zb1)))
  (zar (ze7 (zb6 ziZ (zbo (zd8 hU hG) rfl T.z_repr (by decide +kernel) (zaf (za5 C_extra hr rfl (zae (wv 3) (zae (zbl (zae (zbc hU (wv 5) zaj (fun _ _ => rfl)) (zaf (zbl zcu)))) (zaf (wv 4))))))) (zbo (zd8 hU hG) rfl T.z_repr (by decide +kernel) (zaf (za5 C_law_due_extra hr rfl (zae (wv 3) (zae (zbl (zae (zbc hU (wv 5) zaj (fun _ _ => rfl)) (zaf (zbl zcu)))) (zaf (wv 4))))))) (zbN _)) (zar (za9 ziJ)) zb1))))))))))
  (zar (za9 ziJ))))
end
end Lk19
end
section
open PySem L2 VL
end
section
namespace PA
open PySem L2 VL
theorem zc6 {α : Type} {xs : List α} {i : Int} (h0 : 0 ≤ i) (h1 : i < (xs.length : Int)) : ∃ x, x ∈ xs ∧ atI xs i = some x := by
 obtain ⟨k, rfl⟩ := Int.eq_ofNat_of_zero_le h0
 have hk : k < xs.length := by omega
 exact ⟨xs[k], List.getElem_mem hk, zf9 (List.getElem?_eq_getElem hk)⟩
theorem zj7 {ns : List Int} {i : Int} (h0 : 0 ≤ i) (h1 : i < (ns.length : Int)) : ∃ n, n ∈ ns ∧ atI (ns.map PyData.int) i = some (.int n) := by
 obtain ⟨d, h, e⟩ := zc6 (xs := ns.map PyData.int) h0 (by rw [List.length_map]; exact h1)
 obtain ⟨n, hn, rfl⟩ := List.mem_map.mp h
 exact ⟨n, hn, e⟩
theorem zi7 {a b : Int} (h : 0 ≤ b ∧ (Builtin.Int.intBits a : Int) * b ≤ 2 ^ 27) : zg1 (.v (.int a)) (.v (.int b)) = some (.v (.int (a ^ b.toNat))) := if_pos (decide_eq_true h)
end PA
end
section
namespace PA
open PySem L2 VL
abbrev pD (p : Int × Int) : PyData := .tuple [.int p.1, .int p.2]
abbrev tD (ts : List (Int × Int)) : PyData := .tuple (ts.map pD)
abbrev wD (ps : List Int) (ts : List (Int × Int)) : PyData := .tuple [tI ps, tD ts]
abbrev enc (t : Int × Int) : List Int := [t.1, t.2]
def dec (k : List Int) : Int × Int := (k.getD 0 0, k.getD 1 0)
def zcD (ts : List (Int × Int)) : List (Int × Int) := (ze0 (ts.map enc)).map dec
theorem zgC (ts : List (Int × Int)) : (ts.map enc).map dec = ts := by rw [List.map_map]; exact List.map_id ts
theorem zea (ts : List (Int × Int)) : ze0 (ts.map enc) = (zcD ts).map enc := by
 unfold zcD
 rw [List.map_map]
 refine (List.map_id _).symm.trans (List.map_congr_left fun k hk => ?_)
 have hk := (zbB HT.lexLt (ts.map enc)).mem_iff.mp hk
 obtain ⟨t, _, rfl⟩ := List.mem_map.mp hk
 rfl
theorem zbY (ts : List (Int × Int)) : (zcD ts).Perm ts := by
 have h := (zbB HT.lexLt (ts.map enc)).map dec
 rw [zgC] at h
 exact h
def ltP (a b : Int × Int) : Prop := a.1 < b.1 ∨ (a.1 = b.1 ∧ a.2 < b.2)
instance (a b : Int × Int) : Decidable (ltP a b) := by unfold ltP; infer_instance
theorem zi8 (a b : Int × Int) : HT.lexLt (enc a) (enc b) = decide (ltP a b) := by
 obtain ⟨x, y⟩ := a
 obtain ⟨z, t⟩ := b
 unfold enc ltP
 rw [HT.za8, HT.za8, HT.zcI]
 by_cases h1 : x = z <;> by_cases h2 : y = t <;> by_cases h3 : x < z <;> by_cases h4 : y < t <;> simp [h1, h2, h3, h4] <;> omega
theorem zdk {ts : List (Int × Int)} (nd : ts.Nodup) : (zcD ts).Pairwise ltP := by
 have h := zdI (lt := HT.lexLt) zcn zb0 (ts.map enc)
 rw [show zhA HT.lexLt (ts.map enc) = (zcD ts).map enc from zea ts, List.pairwise_map] at h
 have nd' : (zcD ts).Nodup := (zbY ts).nodup_iff.mpr nd
 refine List.Pairwise.imp₂ (fun a b h1 h2 => ?_) h nd'
 rw [zi8] at h1
 have h1 := of_decide_eq_false h1
 unfold ltP at h1 ⊢
 obtain ⟨x, y⟩ := a
 obtain ⟨z, t⟩ := b
 by_cases e : x = z
 ·by_cases e2 : y = t
  ·exact absurd (by rw [e, e2]) h2
  ·simp only at h1 ⊢; omega
 ·simp only at h1 ⊢; omega
theorem zeH (ts : List (Int × Int)) : zlB (ts.map pD) = some (ts.map enc) := by
 have h := ziy (ts.map enc)
 rw [List.map_map] at h
 exact h
theorem zeI : ∀ {ts : List (Int × Int)}, ts ≠ [] → zfh (ts.map pD) = none
 | [], h => absurd rfl h
 | t :: ts, _ => rfl
theorem zcE {ts : List (Int × Int)} (h : ts.length < 64) : zd0 [.lst (ts.map pD)] = some (.lst ((zcD ts).map pD)) := by
 show (zhC (ts.map pD)).bind _ = _
 unfold zhC
 rw [if_pos (by rw [List.length_map]; exact h)]
 by_cases e : ts = []
 ·subst e; rfl
 ·rw [zeI e, zeH]
  show (if ((ts.map enc).all fun k => !k.isEmpty) = true then some ((ze0 (ts.map enc)).map tI) else none).bind _ = _
  rw [if_pos (by rw [List.all_map]; simp), zea, List.map_map]
  rfl
theorem zhI {ns : List Int} (h : ns.length < 64) : zd0 [.lst (ns.map .int)] = some (.lst ((zeu ns).map .int)) := by
 show (zhC (ns.map .int)).bind _ = _
 unfold zhC
 rw [if_pos (by rw [List.length_map]; exact h), zcV]
 rfl
theorem zhJ (ns : List Int) : (zeu ns).Perm ns := zbB _ _
structure zmf (ps : List Int) (ts : List (Int × Int)) : Prop where
 rise : ps.Pairwise (· < ·)
 rng : ∀ p ∈ ps, 0 ≤ p ∧ p ≤ 99
 few : ps.length ≤ 24
 up : ts.Pairwise ltP
 lt : ∀ t ∈ ts, t.1 < t.2
 ends : ∀ t ∈ ts, t.1 ∈ ps ∧ t.2 ∈ ps
 len : ts.length ≤ 60
theorem zbj (n : Nat) : zaK 0 (n : Int) = (List.range n).map fun k : Nat => PyData.int (0 + (k : Int)) := by
 unfold zaK
 rw [Int.sub_zero, Int.toNat_natCast]
theorem zfS {fe : FE} {cs : Ev} {f : PyData → PyData} : ∀ (ds acc : List PyData) (x : Option M), (∀ d ∈ ds, ∃ o, fe (some (.v d) :: cs) = some (o, some (.v d) :: cs) ∧ zcA o (some (.v d) :: cs) = some (f d, some (.v d) :: cs)) → acc.length + ds.length ≤ lim →
  ∃ y, zaY (zad 0) zfK fe ds (x :: cs) acc = some (acc ++ ds.map f, y :: cs)
 | [], acc, x, _, _ => ⟨x, by rw [List.map_nil, List.append_nil]; rfl⟩
 | d :: ds, acc, x, h, hl => by
  obtain ⟨o, e1, e2⟩ := h d lS
  rw [List.length_cons] at hl
  obtain ⟨y, e3⟩ := zfS (fe := fe) (cs := cs) (f := f) ds (acc ++ [f d]) (some (.v d)) (fun d' hd => h d' (lO _ hd)) (by rw [List.length_append, List.length_singleton]; omega)
  refine ⟨y, ?_⟩
  show (zad 0 d (x :: cs)).bind _ = _
  rw [show zad 0 d (x :: cs) = some (some (.v d) :: cs) by simp]
  show (fe (some (.v d) :: cs)).bind _ = _
  rw [e1]
  show (zcA o (some (.v d) :: cs)).bind _ = _
  rw [e2]
  show (if acc.length < lim then _ else _) = _
  rw [if_pos (by omega)]
  rw [show zaY (zad 0) zfK fe ds (some (.v d) :: cs) (acc ++ [f d]) = _ from e3, List.map_cons, List.append_assoc]
  rfl
theorem zb3 {α β : Type} {f : α → β} {xs : List α} {i : Nat} {d : β} {ds : List β} (h : d :: ds = (xs.drop i).map f) : ∃ x, xs[i]? = some x ∧ d = f x ∧ ds = (xs.drop (i + 1)).map f := by
 have hi : i < xs.length := by
  rcases Nat.lt_or_ge i xs.length with h1 | h1
  ·exact h1
  ·rw [List.drop_eq_nil_of_le h1] at h; cases h
 rw [List.drop_eq_getElem_cons hi, List.map_cons] at h
 injection h with h1 h2
 exact ⟨xs[i], List.getElem?_eq_getElem hi, h1, h2⟩
end PA
end
section
namespace PQ
open PySem L2 VL PA
section
variable {ρ : Ev} {i : Nat}
@[simp] theorem zmg {fa : FA} : zkH i fa ρ = (at? ρ i).bind fun m0 => match m0 with
 | .lst _ => (fa ρ).bind fun p => match p.1 with
  | [.t (.lst es)] => (at? p.2 i).bind fun m => match m with
   | .lst ds => if ds.length + es.length ≤ lim then some (.t (.v .none), p.2.set i (some (.lst (ds ++ es)))) else none
   | _ => none
  | _ => none
 | _ => none := rfl
@[simp] theorem vPopA_eq {fa : FA} : ziU i fa ρ = (at? ρ i).bind fun m0 => match m0 with
 | .lst _ => (fa ρ).bind fun p => match p.1 with
  | [o] => (peek p.2 o).bind fun mk => match mk with
   | .v (.int k) => (at? p.2 i).bind fun m => match m with
    | .lst ds => if k < -(2 ^ 63) ∨ 2 ^ 63 ≤ k then none else (seqIndex? k ds.length).bind fun n => (ds[n]?).bind fun d => some (.t (.v d), p.2.set i (some (.lst (ds.eraseIdx n))))
    | _ => none
   | _ => none
  | _ => none
 | _ => none := rfl
@[simp] theorem vIns_eq {fa : FA} : zoj i fa ρ = (at? ρ i).bind fun m0 => match m0 with
 | .lst _ => (fa ρ).bind fun p => match p.1 with
  | [o, o2] => (peek p.2 o).bind fun mk => match mk with
   | .v (.int k) => (zcA o2 p.2).bind fun q => (at? q.2 i).bind fun m => match m with
    | .lst ds => if 0 ≤ k ∧ k.toNat ≤ ds.length ∧ ds.length < lim then some (.t (.v .none), q.2.set i (some (.lst (ds.take k.toNat ++ q.1 :: ds.drop k.toNat)))) else none
    | _ => none
   | _ => none
  | _ => none
 | _ => none := rfl
end
def Hd (B : Nat) (l : List PyData) : Prop := ∃ g q t : Int, l = [.int g, .int q, .int t] ∧ 0 ≤ g ∧ 0 ≤ t ∧ t ≤ B
theorem Hd.mono {B B' : Nat} {l : List PyData} (h : Hd B l) (hb : B ≤ B') : Hd B' l := by
 obtain ⟨g, q, t, e, h1, h2, h3⟩ := h
 exact ⟨g, q, t, e, h1, h2, by omega⟩
theorem take {B : Nat} {l : List PyData} {m : Int} (h : Hd B l) (hB : B ≤ 1000000) (hm : 0 < m) (hm2 : m < 1073741824) : ∃ (r : Int) (l' : List PyData), 0 ≤ r ∧ r < m ∧ Hd (B + 1) l' ∧ FF.zai [.lst l, .v (.int m)] = some (.v (.int r), [.lst l', .v (.int m)]) := by
 obtain ⟨g, q, t, rfl, hg, ht, hb⟩ := h
 by_cases h0 : 0 < g
 ·refine ⟨g % m, [.int (g / m), .int q, .int t], Int.emod_nonneg _ (by omega), Int.emod_lt_of_pos _ hm, ⟨_, _, _, rfl, Int.ediv_nonneg hg (Int.le_of_lt hm), ht, by omega⟩, ?_⟩
  simp [FF.zai, FF.zbG, ze9, atI, ixN, h0, hm, hm2]
 ·have hb' : -18446744073709551616 < t + 1 ∧ t + 1 < 18446744073709551616 := by omega
  generalize hx : (q + 65537 * (t + 1) * (t + 1) + 11) * 48271 % 2305843009213693921 = x
  have hx' : -18446744073709551616 < x ∧ x < 18446744073709551616 := by omega
  generalize hy : x * (x % 1000003 + 99991 * (t + 1)) % 2305843009213693907 = y
  refine ⟨(y / 97 + y / 1000033) % m, [.int g, .int q, .int (t + 1)], Int.emod_nonneg _ (by omega), Int.emod_lt_of_pos _ hm, ⟨_, _, _, rfl, hg, by omega, by omega⟩, ?_⟩
  simp [FF.zai, FF.zbG, ze9, atI, ixN, h0, hm, hm2, hx, hx', hb', hy]
theorem pick {B : Nat} {l ds : List PyData} (h : Hd B l) (hB : B ≤ 1000000) (h0 : 0 < ds.length) (h1 : ds.length < 1000000) : ∃ d l', d ∈ ds ∧ Hd (B + 1) l' ∧ FF.zag [.lst l, .lst ds] = some (.v d, [.lst l', .lst ds]) := by
 obtain ⟨r, l', r0, r1, hl, e⟩ := take (m := ds.length) h hB (by omega) (by omega)
 obtain ⟨d, hd, ed⟩ := zc6 (xs := ds) r0 r1
 refine ⟨d, l', hd, hl, ?_⟩
 simp [FF.zag, FF.zcg, ze9, e, ed]
theorem zgD {B : Nat} {l : List PyData} {ns : List Int} (h : Hd B l) (hB : B ≤ 1000000) (h0 : 0 < ns.length) (h1 : ns.length < 1000000) : ∃ n l', n ∈ ns ∧ Hd (B + 1) l' ∧ FF.zag [.lst l, .lst (ns.map .int)] = some (.v (.int n), [.lst l', .lst (ns.map .int)]) := by
 obtain ⟨d, l', hd, hl, e⟩ := pick (ds := ns.map .int) h hB (by simpa using h0) (by simpa using h1)
 obtain ⟨n, hn, rfl⟩ := List.mem_map.mp hd
 exact ⟨n, l', hn, hl, e⟩
theorem zgE {a b : Int} (h : (Builtin.Int.intBits a : Int) + Builtin.Int.intBits b ≤ 2 ^ 20) : zi0 (.v (.int a)) (.v (.int b)) = some (.v (.int (a * b))) := if_pos (decide_eq_true h)
theorem zor : ∃ A B C D C18 : Int, 0 < D ∧ zg1 (.v (.int 10)) (.v (.int 60)) = some (.v (.int A)) ∧ zi0 (.v (.int A)) (.v (.int A)) = some (.v (.int B)) ∧ zi0 (.v (.int B)) (.v (.int A)) = some (.v (.int C)) ∧ zi0 (.v (.int C)) (.v (.int A)) = some (.v (.int D)) ∧ zg1 (.v (.int 10)) (.v (.int 18)) = some (.v (.int C18)) :=
 ⟨_, _, _, _, _, by decide +kernel, zi7 ⟨by decide, by decide +kernel⟩, zgE (by decide +kernel), zgE (by decide +kernel), zgE (by decide +kernel), zi7 ⟨by decide, by decide +kernel⟩⟩
theorem hand (ns : List Int) (k : Int) (hl : ns.length ≤ 63) (hk0 : 0 ≤ k) (hk : k ≤ 100) : ∃ l, Hd 0 l ∧ FF.zaH [.v (.list (ns.map .int)), .v (.int k)] = some (.lst l, [.v (.list (ns.map .int)), .v (.int k)]) := by
 obtain ⟨A, B, C, D, C18, hD, e1, e2, e3, e4, e5⟩ := zor
 have hk' : -18446744073709551616 < k ∧ k < 18446744073709551616 := by omega
 have fin : ∀ n : Int, ∃ l, Hd 0 l ∧ za2 (zbL 3 (vB mulM (vB zhz (zac 2) (vB zi0 (vB zi0 (vB zi0 (vB zg1 (vC (.int 10)) (vC (.int 60))) (vB zg1 (vC (.int 10)) (vC (.int 60)))) (vB zg1 (vC (.int 10)) (vC (.int 60)))) (vB zg1 (vC (.int 10)) (vC (.int 60))))) (vCB zhD (zab (vB geM (zac 2) (vB zg1 (vC (.int 10)) (vC (.int 18))))))))
   (zc4 (zcF (zaa (zac 3) (zaa (vB zhz (vB zet (vB zet (vB zhz (zac 2) (vC (.int 2305843009213693951))) (vB mulM (vC (.int 7919)) (zac 1))) (vC (.int 3))) (vC (.int 2305843009213693951))) (zab (vC (.int 0))))))) [some (.v (.list (ns.map .int))), some (.v (.int k)), some (.v (.int n)), none] = some (.rt (.lst l) [some (.v (.list (ns.map .int))), some (.v (.int k)), some (.v (.int n)), some (.v (.int (n % D * (if C18 ≤ n then 1 else 0))))]) := fun n => by
  have hb : -18446744073709551616 < (if C18 ≤ n then (1 : Int) else 0) ∧ (if C18 ≤ n then (1 : Int) else 0) < 18446744073709551616 ∧ 0 ≤ (if C18 ≤ n then (1 : Int) else 0) := by split <;> omega
  refine ⟨[.int (n % D * (if C18 ≤ n then 1 else 0)), .int ((n % 2305843009213693951 + 7919 * k + 3) % 2305843009213693951), .int 0], ⟨_, _, _, rfl, Int.mul_nonneg (Int.emod_nonneg _ (by omega)) hb.2.2, Int.le_refl _, by simp⟩, ?_⟩
  refine (zaq (ρ1 := [some (.v (.list (ns.map .int))), some (.v (.int k)), some (.v (.int n)), some (.v (.int (n % D * (if C18 ≤ n then 1 else 0))))]) (by simp [e1, e2, e3, e4, e5, hD, hb.1, hb.2.1])).trans ?_
  simp [hk', lim]
 by_cases hlt : k < (ns.length : Int)
 ·obtain ⟨n, hn, en⟩ := zj7 (ns := ns) hk0 hlt
  obtain ⟨l, h1, h2⟩ := fin n
  refine ⟨l, h1, zbs (ρ := [some (.v (.list (ns.map .int))), some (.v (.int k)), some (.v (.int n)), some (.v (.int (n % D * (if C18 ≤ n then 1 else 0))))]) rfl ?_ rfl⟩
  show FF.zbh [some (.v (.list (ns.map .int))), some (.v (.int k)), none, none] = _
  refine (zaq (ρ1 := [some (.v (.list (ns.map .int))), some (.v (.int k)), some (.v (.int 0)), none]) (by simp)).trans ?_
  exact (zaq (ρ1 := [some (.v (.list (ns.map .int))), some (.v (.int k)), some (.v (.int n)), none]) (by simp [hlt, en])).trans h2
 ·obtain ⟨l, h1, h2⟩ := fin 0
  refine ⟨l, h1, zbs (ρ := [some (.v (.list (ns.map .int))), some (.v (.int k)), some (.v (.int 0)), some (.v (.int (0 % D * (if C18 ≤ 0 then 1 else 0))))]) rfl ?_ rfl⟩
  show FF.zbh [some (.v (.list (ns.map .int))), some (.v (.int k)), none, none] = _
  refine (zaq (ρ1 := [some (.v (.list (ns.map .int))), some (.v (.int k)), some (.v (.int 0)), none]) (by simp)).trans ?_
  exact (zaq (ρ1 := [some (.v (.list (ns.map .int))), some (.v (.int k)), some (.v (.int 0)), none]) (by simp [hlt])).trans h2
end PQ
end
section
namespace PQ
open PySem L2 VL PA
abbrev zmh : FS := zbX (zoj 2 (zaa (vFn FF.zai (zaa (zac 0) (zab (vB zet (vCB zd1 (zab (zac 2))) (vC (.int 1)))))) (zab (zac 3))))
theorem zi9 {B : Nat} {l ds : List PyData} (X : Option M) (h : Hd B l) (hB : B + ds.length ≤ 1000000) : ∃ l' es x3, es.Perm ds ∧ Hd (B + ds.length) l' ∧ zfi (zad 3) zmh ds [some (.lst l), X, some (.lst []), none] = some (.nx [some (.lst l'), X, some (.lst es), x3]) := by
 obtain ⟨ρ', e, done, l', es, x3, h1, h2, h3, rfl⟩ := zcC (fg := zad 3) (fb := zmh) (P := fun rest ρ => ∃ done l' es x3, done ++ rest = ds ∧ es.Perm done ∧ Hd (B + done.length) l' ∧ ρ = [some (.lst l'), X, some (.lst es), x3]) ds _ ⟨[], l, [], none, rfl, .nil, h, rfl⟩ (fun d rest ρ hP => by
  obtain ⟨done, l', es, x3, h1, h2, h3, rfl⟩ := hP
  have hlen : done.length + (rest.length + 1) = ds.length := by rw [← h1, List.length_append, List.length_cons]
  have hes := h2.length_eq
  obtain ⟨r, l2, r0, r1, hl2, e⟩ := take (m := (es.length : Int) + 1) h3 (by omega) (by omega) (by omega)
  refine ⟨[some (.lst l'), X, some (.lst es), some (.v d)], [some (.lst l2), X, some (.lst (es.take r.toNat ++ d :: es.drop r.toNat)), some (.v d)], by simp, ?_, done ++ [d], l2, _, _, by rw [List.append_assoc]; exact h1, ?_, ?_, rfl⟩
  ·have hc : r ≤ (es.length : Int) := by omega
   have hlim : es.length < 1000000 := by omega
   simp [zmh, e, r0, hc, hlim, lim]
  ·refine List.perm_middle.trans ?_
   rw [List.take_append_drop]
   exact (List.Perm.cons d h2).trans (List.perm_append_comm (l₁ := [d]) (l₂ := done))
  ·rw [List.length_append, List.length_singleton]; exact hl2)
 rw [List.append_nil] at h1
 subst h1
 exact ⟨l', es, x3, h2, h3, e⟩
theorem shufL {B : Nat} {l ds : List PyData} (h : Hd B l) (hB : B + ds.length ≤ 1000000) : ∃ l' es, es.Perm ds ∧ Hd (B + ds.length) l' ∧ FF.zaT [.lst l, .lst ds] = some (.lst es, [.lst l', .v (.list ds)]) := by
 obtain ⟨l', es, x3, h1, h2, e⟩ := zi9 (ds := ds) (some (.v (.list ds))) h hB
 refine ⟨l', es, h1, h2, zbs (ρ := [some (.lst l'), some (.v (.list ds)), none, x3]) rfl ?_ rfl⟩
 show FF.zbH [some (.lst l), some (.lst ds), none, none] = _
 refine (zaq (ρ1 := [some (.lst l), some (.lst ds), some (.lst []), none]) (by simp [lim])).trans ?_
 refine (zaq (ρ1 := [some (.lst l'), some (.v (.list ds)), some (.lst es), x3]) ?_).trans (by simp)
 simp [e]
def zmi (f s : Int) (n : Nat) : List Int := (List.range n).map fun (k : Nat) => f + s * (k : Int)
theorem zja {f s : Int} {n : Nat} (hs : 0 < s) : (zmi f s n).Pairwise (· < ·) := by
 unfold zmi
 rw [List.pairwise_map]
 refine List.Pairwise.imp (fun {a b} h => ?_) (List.pairwise_lt_range (n := n))
 have h' : (a : Int) < (b : Int) := by omega
 have := Int.mul_lt_mul_of_pos_left h' hs
 omega
theorem zj8 (f s : Int) (n : Nat) : (zmi f s n).length = n := by unfold zmi; rw [List.length_map, List.length_range]
theorem places {B : Nat} {l : List PyData} {n : Nat} (h : Hd B l) (hB : B ≤ 100000) (hn : n ≤ 24) : ∃ l' ps, ps.length = n ∧ ps.Pairwise (· < ·) ∧ (∀ p ∈ ps, 0 ≤ p ∧ p ≤ 99) ∧ Hd (B + 2) l' ∧ FF.zap [.lst l, .v (.int (n : Int))] = some (.v (tI ps), [.lst l', .v (.int (n : Int))]) := by
 obtain ⟨s, l1, hs, hl1, e1⟩ := zgD (ns := [1, 1, 3, 4]) h (by omega) (by decide) (by decide)
 have hs' : s = 1 ∨ s = 3 ∨ s = 4 := by simpa using hs
 generalize hmx : (if 1 < (n : Int) then (n : Int) - 1 else 0) = mx
 have hmx' : 0 ≤ mx ∧ mx ≤ 23 ∧ ((n : Int) ≤ mx + 1) := by rw [← hmx]; split <;> omega
 obtain ⟨f, l2, hf, hl2, e2⟩ := zgD (ns := [0, 0, 5, 99 - s * mx]) hl1 (by omega) (by simp) (by simp)
 have hf' : f = 0 ∨ f = 5 ∨ f = 99 - s * mx := by simpa using hf
 have hsm : zbq (n : Int) = true := decide_eq_true (by unfold ziE; omega)
 obtain ⟨y, ec⟩ := zfS (fe := vB zet (zac 1) (vB mulM (zac 2) (zac 0))) (cs := [some (.v (.int f)), some (.v (.int s))]) (f := fun d => match d with | .int k => .int (f + s * k) | _ => .none) (zaK 0 (n : Int)) [] none (fun d hd => by
  rw [zbj] at hd
  obtain ⟨k, hk, rfl⟩ := List.mem_map.mp hd
  refine ⟨.t (.v (.int (f + s * (0 + (k : Int))))), ?_, rfl⟩
  have hss : -18446744073709551616 < s ∧ s < 18446744073709551616 := by omega
  simp [hss]) (by rw [zbj, List.length_map, List.length_range, List.length_nil]; unfold lim; omega)
 have emap : (zaK 0 (n : Int)).map (fun d => match d with | .int k => PyData.int (f + s * k) | _ => .none) = (zmi f s n).map .int := by
  rw [zbj, List.map_map]
  unfold zmi
  rw [List.map_map]
  refine List.map_congr_left fun k _ => ?_
  simp
 rw [emap, List.nil_append] at ec
 refine ⟨l2, zmi f s n, zj8 _ _ _, zja (by omega), fun p hp => ?_, hl2, ?_⟩
 ·obtain ⟨k, hk, rfl⟩ := List.mem_map.mp hp
  have hk := List.mem_range.mp hk
  rcases hs' with rfl | rfl | rfl <;> rcases hf' with rfl | rfl | rfl <;> omega
 ·have hss : -18446744073709551616 < s ∧ s < 18446744073709551616 := by omega
  have e1 : FF.zag [.lst l, .lst [.int 1, .int 1, .int 3, .int 4]] = some (.v (.int s), [.lst l1, .lst [.int 1, .int 1, .int 3, .int 4]]) := e1
  have e2 : FF.zag [.lst l1, .lst [.int 0, .int 0, .int 5, .int (99 - s * mx)]] = some (.v (.int f), [.lst l2, .lst [.int 0, .int 0, .int 5, .int (99 - s * mx)]]) := e2
  refine zbs (ρ := [some (.lst l2), some (.v (.int (n : Int))), some (.v (.int s)), some (.v (.int f))]) rfl ?_ rfl
  show FF.zbi [some (.lst l), some (.v (.int (n : Int))), none, none] = _
  refine (zaq (ρ1 := [some (.lst l1), some (.v (.int (n : Int))), some (.v (.int s)), none]) (by simp [lim, e1])).trans ?_
  refine (zaq (ρ1 := [some (.lst l2), some (.v (.int (n : Int))), some (.v (.int s)), some (.v (.int f))]) (by simp [lim, hmx, hss, e2])).trans ?_
  simp [hsm, ec, tI]
end PQ
end
section
namespace PQ
open PySem L2 VL PA
theorem zos (a b : Int × Int) : PyData.eqv (pD a) (pD b) = decide (a = b) := by
 obtain ⟨x, y⟩ := a
 obtain ⟨z, t⟩ := b
 by_cases h1 : x = z <;> by_cases h2 : y = t <;> simp [pD, PyData.eqv, PyData.eqvAll, h1, h2]
theorem zdz (ts : List (Int × Int)) (p : Int × Int) : ((ts.map pD).any fun d => PyData.eqv d (pD p)) = decide (p ∈ ts) := by
 rw [List.any_map]
 induction ts with
 | nil => simp
 | cons t ts ih =>
  rw [List.any_cons, ih]
  show (PyData.eqv (pD t) (pD p) || _) = _
  rw [zos]
  by_cases h : t = p
  ·simp [h]
  ·simp [h, Ne.symm h]
theorem zch : ∀ ts : List (Int × Int), PyData.canLayAll0 (ts.map pD) = true
 | [] => rfl
 | t :: ts => by
  show (PyData.canLay0 (pD t) && PyData.canLayAll0 (ts.map pD)) = true
  rw [zch ts]
  rfl
theorem zdM (neg : Bool) (ts : List (Int × Int)) (p : Int × Int) : inA neg (.v (pD p)) (.lst (ts.map pD)) = some (.v (.bool (if neg then !decide (p ∈ ts) else decide (p ∈ ts)))) := by
 show (if okIn (ts.map pD) (pD p) = true then some (M.v (.bool (if neg then !((ts.map pD).any fun d => PyData.eqv d (pD p)) else (ts.map pD).any fun d => PyData.eqv d (pD p)))) else none) = _
 rw [zdz, if_pos]
 unfold okIn
 rw [zch]
 rfl
theorem zeb {n k x : Nat} (h : (List.range n)[k]? = some x) : x = k ∧ k < n := by
 obtain ⟨h1, e⟩ := List.getElem?_eq_some_iff.mp h
 rw [List.getElem_range] at e
 rw [List.length_range] at h1
 exact ⟨e.symm, h1⟩
structure Row (b : Nat) (tys : List (Int × Int)) : Prop where
 nd : tys.Nodup
 bd : ∀ t ∈ tys, 0 ≤ t.1 ∧ t.1 < t.2 ∧ t.2 < b
 ln : tys.length ≤ 30 * b
abbrev zmj : FT := zfZ (zbk (vB (inA true) (zco (zaa (zac 0) (zab (zac 1)))) (zac 2))) (zbk (vB (eqM false) (vFn FF.zai (zaa (zac 3) (zab (zac 4)))) (vC (.int 0))))
abbrev zot : FE := zco (zaa (zac 0) (zab (zac 1)))
theorem zj9 {B b : Nat} {l : List PyData} {tys : List (Int × Int)} {sp : Int} (h : Hd B l) (hB : B + b ≤ 1000000) (hb : b ≤ 1000) (hs : 0 < sp) (hs2 : sp < 1000) : ∃ (acc : List (Int × Int)) (l' : List PyData) (x0 : Option M), Hd (B + b) l' ∧ acc.Nodup ∧ (∀ t ∈ acc, t.2 = (b : Int) ∧ 0 ≤ t.1 ∧ t.1 < (b : Int) ∧ t ∉ tys) ∧ acc.length ≤ b ∧
  zaY (zad 0) zmj zot (zaK 0 (b : Int)) [none, some (.v (.int (b : Int))), some (.lst (tys.map pD)), some (.lst l), some (.v (.int sp))] [] = some (acc.map pD, [x0, some (.v (.int (b : Int))), some (.lst (tys.map pD)), some (.lst l'), some (.v (.int sp))]) := by
 obtain ⟨acc, ρ', e, k, acc', l', x0, hk, hkl, h1, h2, h3, h4, h5, rfl⟩ := zdL (fg := zad 0) (ft := zmj) (fe := zot) (P := fun rest acc ρ => ∃ (k : Nat) (acc' : List (Int × Int)) (l' : List PyData) (x0 : Option M), rest = ((List.range b).drop k).map (fun k : Nat => PyData.int (0 + (k : Int))) ∧ k ≤ b ∧ acc = acc'.map pD ∧ Hd (B + k) l' ∧ acc'.Nodup ∧ (∀ t ∈ acc', t.2 = (b : Int) ∧ 0 ≤ t.1 ∧ t.1 < (k : Int) ∧ t ∉ tys) ∧ acc'.length ≤ k ∧ ρ = [x0, some (.v (.int (b : Int))), some (.lst (tys.map pD)), some (.lst l'), some (.v (.int sp))])
  (zaK 0 (b : Int)) _ [] ⟨0, [], l, none, by rw [zbj]; rfl, Nat.zero_le _, rfl, h, List.nodup_nil, fun t ht => by simp at ht, Nat.le_refl _, rfl⟩ (fun d rest acc ρ hP => by
   obtain ⟨k, acc', l', x0, hr, hkb, rfl, hl, nd, bd, ln, rfl⟩ := hP
   obtain ⟨x, hx, rfl, hr'⟩ := zb3 hr
   obtain ⟨rfl, hkn⟩ := zeb hx
   have hin := zdM true tys (0 + (x : Int), (b : Int))
   obtain ⟨r, l2, r0, r1, hl2, et⟩ := take (m := sp) hl (by omega) hs (by omega)
   refine ⟨by rw [List.length_map]; unfold lim; omega, [some (.v (.int (0 + (x : Int)))), some (.v (.int (b : Int))), some (.lst (tys.map pD)), some (.lst l'), some (.v (.int sp))], ?_⟩
   by_cases hm : (0 + (x : Int), (b : Int)) ∈ tys
   ·refine ⟨false, [some (.v (.int (0 + (x : Int)))), some (.v (.int (b : Int))), some (.lst (tys.map pD)), some (.lst l'), some (.v (.int sp))], by simp, ?_, .inl ⟨rfl, x + 1, acc', l', _, hr', by omega, rfl, hl.mono (by omega), nd, fun t ht => ?_, by omega, rfl⟩⟩
    ·have hm' : ((x : Int), (b : Int)) ∈ tys := by simpa using hm
     have hin' : inA true (.v (.tuple [.int (x : Int), .int (b : Int)])) (.lst (tys.map pD)) = some (.v (.bool false)) := by have := zdM true tys ((x : Int), (b : Int)); simpa [hm'] using this
     simp [zmj, lim, hin']
    ·have := bd t ht
     exact ⟨this.1, this.2.1, by omega, this.2.2.2⟩
   ·have hm' : ((x : Int), (b : Int)) ∉ tys := by simpa using hm
    have hin' : inA true (.v (.tuple [.int (x : Int), .int (b : Int)])) (.lst (tys.map pD)) = some (.v (.bool true)) := by have := zdM true tys ((x : Int), (b : Int)); simpa [hm'] using this
    by_cases h0 : r = 0
    ·refine ⟨true, [some (.v (.int (0 + (x : Int)))), some (.v (.int (b : Int))), some (.lst (tys.map pD)), some (.lst l2), some (.v (.int sp))], by simp, ?_, .inr ⟨rfl, .t (.v (pD (0 + (x : Int), (b : Int)))), [some (.v (.int (0 + (x : Int)))), some (.v (.int (b : Int))), some (.lst (tys.map pD)), some (.lst l2), some (.v (.int sp))], pD (0 + (x : Int), (b : Int)), _, ?_, rfl, x + 1, acc' ++ [(0 + (x : Int), (b : Int))], l2, _, hr', by omega, by rw [List.map_append]; rfl, hl2, ?_, fun t ht => ?_, ?_, rfl⟩⟩
     ·simp [zmj, lim, hin', et, h0]
     ·simp [zot, lim]
     ·rw [List.nodup_append]
      refine ⟨nd, List.nodup_cons.mpr ⟨by simp, List.nodup_nil⟩, fun u hu v hv e => ?_⟩
      rw [List.mem_singleton] at hv
      have := bd u hu
      rw [e, hv] at this
      simp at this
     ·rcases lM ht with h | h
      ·have := bd t h
       exact ⟨this.1, this.2.1, by omega, this.2.2.2⟩
      ·rw [List.mem_singleton] at h
       subst h
       exact ⟨rfl, by simp, by simp; omega, hm⟩
     ·rw [List.length_append, List.length_singleton]; omega
    ·refine ⟨false, [some (.v (.int (0 + (x : Int)))), some (.v (.int (b : Int))), some (.lst (tys.map pD)), some (.lst l2), some (.v (.int sp))], by simp, ?_, .inl ⟨rfl, x + 1, acc', l2, _, hr', by omega, rfl, hl2, nd, fun t ht => ?_, by omega, rfl⟩⟩
     ·simp [zmj, lim, hin', et, h0]
     ·have := bd t ht
      exact ⟨this.1, this.2.1, by omega, this.2.2.2⟩)
 subst h1
 have hkb : k = b := by
  have := congrArg List.length hk
  rw [List.length_nil, List.length_map, List.length_drop, List.length_range] at this
  omega
 subst hkb
 exact ⟨acc', l', x0, h2, h3, h4, h5, e⟩
end PQ
end
section
namespace PQ
open PySem L2 VL PA
abbrev rowS : FS := za2 (ze3 (zf0 (zac 4)) (zbX (zhM 6 (zab (zco (zaa (vFn FF.zai (zaa (zac 0) (zab (zac 7)))) (zab (zac 7))))))) zbW)
 (zbX (zkH 6 (zab (vLC 1 [7, 6, 0, 3] (zbf zd4 (zab (zac 7))) (zad 0) zmj zot))))
theorem row {B b : Nat} {l : List PyData} {tys : List (Int × Int)} {sp n : Int} {tree : Bool} {P : PyData} (h : Hd B l) (hB : B + b + 1 ≤ 1000000) (hb0 : 0 < b) (hb : b ≤ 24) (hs : 0 < sp) (hs2 : sp < 1000) (hT : Row b tys) : ∃ l' tys', Hd (B + b + 1) l' ∧ Row (b + 1) tys' ∧
  rowS [some (.lst l), some (.v (.int n)), some (.v (.int 60)), some (.v (.int sp)), some (.v (.bool tree)), some (.v P), some (.lst (tys.map pD)), some (.v (.int (b : Int)))] = some (.nx [some (.lst l'), some (.v (.int n)), some (.v (.int 60)), some (.v (.int sp)), some (.v (.bool tree)), some (.v P), some (.lst (tys'.map pD)), some (.v (.int (b : Int)))]) := by
 have hsm : zbq (b : Int) = true := decide_eq_true (by unfold ziE; omega)
 have fin : ∀ (B' : Nat) (l1 : List PyData) (t1 : List (Int × Int)), B' ≤ B + 1 → Hd B' l1 → t1.Nodup → (∀ t ∈ t1, 0 ≤ t.1 ∧ t.1 < t.2 ∧ t.2 < b + 1) → t1.length ≤ 30 * b + 1 → ∃ l' tys', Hd (B + b + 1) l' ∧ Row (b + 1) tys' ∧
   zbX (zkH 6 (zab (vLC 1 [7, 6, 0, 3] (zbf zd4 (zab (zac 7))) (zad 0) zmj zot))) [some (.lst l1), some (.v (.int n)), some (.v (.int 60)), some (.v (.int sp)), some (.v (.bool tree)), some (.v P), some (.lst (t1.map pD)), some (.v (.int (b : Int)))] = some (.nx [some (.lst l'), some (.v (.int n)), some (.v (.int 60)), some (.v (.int sp)), some (.v (.bool tree)), some (.v P), some (.lst (tys'.map pD)), some (.v (.int (b : Int)))]) := fun B' l1 t1 hB' h1 nd bd ln => by
  obtain ⟨acc, l', x0, hl', nd', bd', ln', e⟩ := zj9 (tys := t1) (sp := sp) (b := b) h1 (by omega) (by omega) hs hs2
  refine ⟨l', t1 ++ acc, hl'.mono (by omega), ⟨?_, fun t ht => ?_, ?_⟩, ?_⟩
  ·rw [List.nodup_append]
   exact ⟨nd, nd', fun u hu v hv e => (bd' v hv).2.2.2 (e ▸ hu)⟩
  ·rcases lM ht with h | h
   ·have := bd t h
    exact ⟨this.1, this.2.1, by omega⟩
   ·have := bd' t h
    exact ⟨this.2.1, by omega, by omega⟩
  ·rw [List.length_append]; omega
  ·have hlim : t1.length + acc.length ≤ 1000000 := by omega
   simp [hsm, e, hlim, lim]
 cases tree with
 | false =>
  obtain ⟨l', tys', k1, k2, e⟩ := fin B l tys (by omega) h hT.nd (fun t ht => by have := hT.bd t ht; exact ⟨this.1, this.2.1, by omega⟩) (by have := hT.ln; omega)
  exact ⟨l', tys', k1, k2, (zaq (ρ1 := [some (.lst l), some (.v (.int n)), some (.v (.int 60)), some (.v (.int sp)), some (.v (.bool false)), some (.v P), some (.lst (tys.map pD)), some (.v (.int (b : Int)))]) (by simp)).trans e⟩
 | true =>
  obtain ⟨r, l1, r0, r1, hl1, et⟩ := take (m := (b : Int)) h (by omega) (by omega) (by omega)
  have hlim : tys.length < 1000000 := by have := hT.ln; omega
  obtain ⟨l', tys', k1, k2, e⟩ := fin (B + 1) l1 (tys ++ [(r, (b : Int))]) (by omega) hl1 (by
   rw [List.nodup_append]
   refine ⟨hT.nd, List.nodup_cons.mpr ⟨by simp, List.nodup_nil⟩, fun u hu v hv e => ?_⟩
   rw [List.mem_singleton] at hv
   have := hT.bd u hu
   rw [e, hv] at this
   simp at this) (fun t ht => by
   rcases lM ht with h | h
   ·have := hT.bd t h
    exact ⟨this.1, this.2.1, by omega⟩
   ·rw [List.mem_singleton] at h
    subst h
    exact ⟨r0, r1, by simp; omega⟩) (by rw [List.length_append, List.length_singleton]; have := hT.ln; omega)
  refine ⟨l', tys', k1, k2, (zaq (ρ1 := [some (.lst l1), some (.v (.int n)), some (.v (.int 60)), some (.v (.int sp)), some (.v (.bool true)), some (.v P), some (.lst ((tys ++ [(r, (b : Int))]).map pD)), some (.v (.int (b : Int)))]) ?_).trans e⟩
  simp [et, lim, hlim]
theorem rows {B n : Nat} {l : List PyData} {sp : Int} {tree : Bool} {P : PyData} (h : Hd B l) (hB : B ≤ 100000) (hn : n ≤ 24) (hs : 0 < sp) (hs2 : sp < 1000) : ∃ l' tys x7, Hd (B + 30 * n) l' ∧ Row n tys ∧
  zfi (zad 7) rowS (zaK 1 (n : Int)) [some (.lst l), some (.v (.int (n : Int))), some (.v (.int 60)), some (.v (.int sp)), some (.v (.bool tree)), some (.v P), some (.lst []), none] = some (.nx [some (.lst l'), some (.v (.int (n : Int))), some (.v (.int 60)), some (.v (.int sp)), some (.v (.bool tree)), some (.v P), some (.lst (tys.map pD)), x7]) := by
 have hr : zaK 1 (n : Int) = (List.range (n - 1)).map fun k : Nat => PyData.int (1 + (k : Int)) := by
  unfold zaK
  rw [show ((n : Int) - 1).toNat = n - 1 by omega]
 obtain ⟨ρ', e, k, l', tys, x7, hk, hkl, h1, h2, rfl⟩ := zcC (fg := zad 7) (fb := rowS) (P := fun rest ρ => ∃ (k : Nat) (l' : List PyData) (tys : List (Int × Int)) (x7 : Option M), rest = ((List.range (n - 1)).drop k).map (fun k : Nat => PyData.int (1 + (k : Int))) ∧ k ≤ n - 1 ∧ Hd (B + 30 * k) l' ∧ Row (k + 1) tys ∧ ρ = [some (.lst l'), some (.v (.int (n : Int))), some (.v (.int 60)), some (.v (.int sp)), some (.v (.bool tree)), some (.v P), some (.lst (tys.map pD)), x7])
  (zaK 1 (n : Int)) _ ⟨0, l, [], none, hr, Nat.zero_le _, h, ⟨List.nodup_nil, fun t ht => by simp at ht, Nat.zero_le _⟩, rfl⟩ (fun d rest ρ hP => by
   obtain ⟨k, l', tys, x7, hk, hkl, h1, h2, rfl⟩ := hP
   obtain ⟨x, hx, rfl, hr'⟩ := zb3 hk
   obtain ⟨rfl, hkn⟩ := zeb hx
   obtain ⟨l2, tys2, k1, k2, e⟩ := row (b := x + 1) (n := (n : Int)) (tree := tree) (P := P) h1 (by omega) (by omega) (by omega) hs hs2 h2
   refine ⟨[some (.lst l'), some (.v (.int (n : Int))), some (.v (.int 60)), some (.v (.int sp)), some (.v (.bool tree)), some (.v P), some (.lst (tys.map pD)), some (.v (.int ((x + 1 : Nat) : Int)))], _, ?_, e, x + 1, l2, tys2, _, hr', by omega, k1.mono (by omega), k2, rfl⟩
   simp
   omega)
 have hkn : k = n - 1 := by
  have := congrArg List.length hk
  rw [List.length_nil, List.length_map, List.length_drop, List.length_range] at this
  omega
 subst hkn
 refine ⟨l', tys, x7, h1.mono (by omega), ?_, e⟩
 by_cases h0 : n = 0
 ·subst h0
  have : tys = [] := by
   cases tys with
   | nil => rfl
   | cons t ts => have := h2.bd t lS; omega
  subst this
  exact ⟨List.nodup_nil, fun t ht => by simp at ht, Nat.zero_le _⟩
 ·rw [show n - 1 + 1 = n by omega] at h2
  exact h2
end PQ
end
section
namespace PQ
open PySem L2 VL PA
theorem zjb (ds : List PyData) (k : Nat) : cutD ds none (some (k : Int)) = ds.take k := by
 unfold cutD
 rw [HT.zjD, HT.zk4, Nat.sub_zero, List.drop_zero]
 by_cases h : k ≤ ds.length
 ·rw [Nat.min_eq_left h]
 ·rw [Nat.min_eq_right (by omega), List.take_length, List.take_of_length_le (by omega)]
def unp : PyData → Int × Int
 | .tuple [.int a, .int b] => (a, b)
 | _ => (0, 0)
theorem zmk (ts : List (Int × Int)) : (ts.map pD).map unp = ts := by
 rw [List.map_map]
 exact List.map_id ts
theorem zhK {es : List PyData} {ts : List (Int × Int)} (h : es.Perm (ts.map pD)) : ∃ ts' : List (Int × Int), es = ts'.map pD ∧ ts'.Perm ts := by
 refine ⟨es.map unp, ?_, ?_⟩
 ·rw [List.map_map]
  refine (List.map_id es).symm.trans (List.map_congr_left fun e he => ?_)
  obtain ⟨t, _, rfl⟩ := List.mem_map.mp (h.mem_iff.mp he)
  rfl
 ·have := h.map unp
  rw [zmk] at this
  exact this
def unI : PyData → Int
 | .int a => a
 | _ => 0
theorem zfT {fe : FE} {cs : Ev} {f : Int × Int → PyData} : ∀ (ts : List (Int × Int)) (acc : List PyData) (x y : Option M), (∀ t ∈ ts, ∃ o, fe (some (.v (.int t.1)) :: some (.v (.int t.2)) :: cs) = some (o, some (.v (.int t.1)) :: some (.v (.int t.2)) :: cs) ∧ zcA o (some (.v (.int t.1)) :: some (.v (.int t.2)) :: cs) = some (f t, some (.v (.int t.1)) :: some (.v (.int t.2)) :: cs)) → acc.length + ts.length ≤ lim →
  ∃ x' y', zaY (zbb 2 (zam (zad 0) (zam (zad 1) zbe))) zfK fe (ts.map pD) (x :: y :: cs) acc = some (acc ++ ts.map f, x' :: y' :: cs)
 | [], acc, x, y, _, _ => ⟨x, y, by rw [List.map_nil, List.map_nil, List.append_nil]; rfl⟩
 | t :: ts, acc, x, y, h, hl => by
  obtain ⟨o, e1, e2⟩ := h t lS
  rw [List.length_cons] at hl
  obtain ⟨x', y', e3⟩ := zfT (fe := fe) (cs := cs) (f := f) ts (acc ++ [f t]) (some (.v (.int t.1))) (some (.v (.int t.2))) (fun d' hd => h d' (lO _ hd)) (by rw [List.length_append, List.length_singleton]; omega)
  refine ⟨x', y', ?_⟩
  show (zbb 2 (zam (zad 0) (zam (zad 1) zbe)) (pD t) (x :: y :: cs)).bind _ = _
  rw [show zbb 2 (zam (zad 0) (zam (zad 1) zbe)) (pD t) (x :: y :: cs) = some (some (.v (.int t.1)) :: some (.v (.int t.2)) :: cs) by simp]
  show (fe (some (.v (.int t.1)) :: some (.v (.int t.2)) :: cs)).bind _ = _
  rw [e1]
  show (zcA o (some (.v (.int t.1)) :: some (.v (.int t.2)) :: cs)).bind _ = _
  rw [e2]
  show (if acc.length < lim then _ else _) = _
  rw [if_pos (by omega)]
  rw [show zaY (zbb 2 (zam (zad 0) (zam (zad 1) zbe))) zfK fe (ts.map pD) (some (.v (.int t.1)) :: some (.v (.int t.2)) :: cs) (acc ++ [f t]) = _ from e3, List.map_cons, List.append_assoc]
  rfl
def zcq (ps : List Int) (i : Int) : Int := ps.getD i.toNat 0
theorem zbP {ps : List Int} {i : Int} (h0 : 0 ≤ i) (h1 : i < ps.length) : atI (ps.map PyData.int) i = some (.int (zcq ps i)) ∧ zcq ps i ∈ ps := by
 obtain ⟨k, rfl⟩ := Int.eq_ofNat_of_zero_le h0
 have hk : k < ps.length := by omega
 have e : zcq ps (k : Int) = ps[k] := by
  unfold zcq
  rw [Int.toNat_natCast, List.getD_eq_getElem?_getD, List.getElem?_eq_getElem hk]
  rfl
 refine ⟨zf9 (by rw [List.getElem?_map, List.getElem?_eq_getElem hk, e]; rfl), by rw [e]; exact List.getElem_mem hk⟩
theorem zdl {ps : List Int} (rise : ps.Pairwise (· < ·)) {i j : Int} (h0 : 0 ≤ i) (h1 : i < j) (h2 : j < ps.length) : zcq ps i < zcq ps j := by
 obtain ⟨k, rfl⟩ := Int.eq_ofNat_of_zero_le h0
 obtain ⟨m, rfl⟩ := Int.eq_ofNat_of_zero_le (show 0 ≤ j by omega)
 have hk : k < ps.length := by omega
 have hm : m < ps.length := by omega
 unfold zcq
 rw [Int.toNat_natCast, Int.toNat_natCast, List.getD_eq_getElem?_getD, List.getD_eq_getElem?_getD, List.getElem?_eq_getElem hk, List.getElem?_eq_getElem hm]
 exact (List.pairwise_iff_getElem.mp rise) k m hk hm (by omega)
theorem web {B n : Nat} {l : List PyData} (h : Hd B l) (hB : B ≤ 900) (hn : n ≤ 24) : ∃ l' ps ts, Hd (B + 2000) l' ∧ zmf ps ts ∧ ps.length = n ∧ FF.zaB [.lst l, .v (.int (n : Int)), .v (.int 60)] = some (.v (wD ps ts), [.lst l', .v (.int (n : Int)), .v (.int 60)]) := by
 obtain ⟨sp, l1, hsp, hl1, e1⟩ := zgD (ns := [2, 3, 5, 9, 1]) h (by omega) (by decide) (by decide)
 have hsp' : 0 < sp ∧ sp < 1000 := by
  simp only [List.mem_cons, List.not_mem_nil, or_false] at hsp
  omega
 obtain ⟨tr, l2, tr0, tr1, hl2, e2⟩ := take (m := 2) hl1 (by omega) (by decide) (by decide)
 obtain ⟨l3, ps, hlen, rise, rng, hl3, e3⟩ := places (n := n) hl2 (by omega) hn
 obtain ⟨l4, tys, x7, hl4, hT, e4⟩ := rows (n := n) (sp := sp) (tree := decide (tr = 0)) (P := tI ps) hl3 (by omega) hn hsp'.1 hsp'.2
 have hln : (tys.map pD).length ≤ 720 := by rw [List.length_map]; have := hT.ln; omega
 obtain ⟨l5, es, hp, hl5, e5⟩ := shufL (ds := tys.map pD) hl4 (by omega)
 obtain ⟨tys', rfl, hp'⟩ := zhK hp
 have nd' : (tys'.take 60).Nodup := ((hp'.nodup_iff.mpr hT.nd)).sublist (List.take_sublist _ _)
 have e6 := zcE (ts := tys'.take 60) (by rw [List.length_take]; omega)
 generalize hix : zcD (tys'.take 60) = ix at e6
 have hixp : ix.Perm (tys'.take 60) := hix ▸ zbY _
 have hup : ix.Pairwise ltP := hix ▸ zdk nd'
 have hbd : ∀ t ∈ ix, 0 ≤ t.1 ∧ t.1 < t.2 ∧ t.2 < n := fun t ht => hT.bd t (hp'.mem_iff.mp (List.mem_of_mem_take (hixp.mem_iff.mp ht)))
 have hl60 : ix.length ≤ 60 := by rw [hixp.length_eq, List.length_take]; omega
 obtain ⟨z1, z2, e7⟩ := zfT (fe := zco (zaa (vIx (zac 2) (zac 0)) (zab (vIx (zac 2) (zac 1))))) (cs := [some (.v (tI ps))]) (f := fun t => pD (zcq ps t.1, zcq ps t.2)) ix [] none none (fun t ht => by
  have hb := hbd t ht
  have g1 := (zbP (ps := ps) (i := t.1) hb.1 (by omega)).1
  have g2 := (zbP (ps := ps) (i := t.2) (by omega) (by omega)).1
  refine ⟨.t (.v (pD (zcq ps t.1, zcq ps t.2))), ?_, rfl⟩
  simp [tI, g1, g2, lim]) (by rw [List.length_nil]; unfold lim; omega)
 rw [List.nil_append] at e7
 refine ⟨l5, ps, ix.map fun t => (zcq ps t.1, zcq ps t.2), hl5.mono (by omega), ⟨rise, rng, by omega, ?_, fun t ht => ?_, fun t ht => ?_, by rw [List.length_map]; exact hl60⟩, hlen, ?_⟩
 ·rw [List.pairwise_map]
  refine List.Pairwise.imp_of_mem (fun {a b} ha hb hab => ?_) hup
  have ba := hbd a ha
  have bb := hbd b hb
  rcases hab with h | ⟨h, h'⟩
  ·exact .inl (zdl rise ba.1 h (by omega))
  ·exact .inr ⟨by simp only; rw [h], zdl rise (by omega) h' (by omega)⟩
 ·obtain ⟨u, hu, rfl⟩ := List.mem_map.mp ht
  have b := hbd u hu
  exact zdl rise b.1 b.2.1 (by omega)
 ·obtain ⟨u, hu, rfl⟩ := List.mem_map.mp ht
  have b := hbd u hu
  exact ⟨(zbP b.1 (by omega)).2, (zbP (by omega) (by omega)).2⟩
 ·have e1 : FF.zag [.lst l, .lst [.int 2, .int 3, .int 5, .int 9, .int 1]] = some (.v (.int sp), [.lst l1, .lst [.int 2, .int 3, .int 5, .int 9, .int 1]]) := e1
  have hsm : zbq (n : Int) = true := decide_eq_true (by unfold ziE; omega)
  have hsm1 : zbq 1 = true := rfl
  have hcut : cutD (tys'.map pD) none (some 60) = (tys'.map pD).take 60 := by rw [show (60 : Int) = ((60 : Nat) : Int) from rfl, zjb]
  rw [List.map_take] at e6
  refine zbs (ρ := [some (.lst l5), some (.v (.int (n : Int))), some (.v (.int 60)), some (.v (.int sp)), some (.v (.bool (decide (tr = 0)))), some (.v (tI ps)), some (.v (.list (ix.map pD))), x7]) rfl ?_ rfl
  show FF.zbt [some (.lst l), some (.v (.int (n : Int))), some (.v (.int 60)), none, none, none, none, none] = _
  refine (zaq (ρ1 := [some (.lst l2), some (.v (.int (n : Int))), some (.v (.int 60)), some (.v (.int sp)), some (.v (.bool (decide (tr = 0)))), none, none, none]) (by simp [lim, e1, e2])).trans ?_
  refine (zaq (ρ1 := [some (.lst l3), some (.v (.int (n : Int))), some (.v (.int 60)), some (.v (.int sp)), some (.v (.bool (decide (tr = 0)))), some (.v (tI ps)), some (.lst []), none]) (by simp [lim, e3])).trans ?_
  refine (zaq (ρ1 := [some (.lst l4), some (.v (.int (n : Int))), some (.v (.int 60)), some (.v (.int sp)), some (.v (.bool (decide (tr = 0)))), some (.v (tI ps)), some (.lst (tys.map pD)), x7]) (by simp [hsm, hsm1]; exact e4)).trans ?_
  refine (zaq (ρ1 := [some (.lst l5), some (.v (.int (n : Int))), some (.v (.int 60)), some (.v (.int sp)), some (.v (.bool (decide (tr = 0)))), some (.v (tI ps)), some (.lst (ix.map pD)), x7]) (by simp [e5, hcut, e6])).trans ?_
  simp [e7, lim]
end PQ
end
section
namespace PQ
open PySem L2 VL PA
theorem zeJ {α : Type} {xs : List α} {k : Nat} (h : k < xs.length) : (xs[k] :: xs.eraseIdx k).Perm xs := by
 rw [List.eraseIdx_eq_take_drop_succ]
 refine List.perm_middle.symm.trans ?_
 rw [← List.drop_eq_getElem_cons h, List.take_append_drop]
theorem zci {α β : Type} (f : α → β) : ∀ (xs : List α) (k : Nat), (xs.map f).eraseIdx k = (xs.eraseIdx k).map f
 | [], _ => rfl
 | _ :: _, 0 => rfl
 | x :: xs, k + 1 => by simp [zci f xs k]
end PQ
end
section
namespace PQ
open PySem L2 VL PA
theorem zka {kvs : List (Key × PyData)} {k : Key} {d : PyData} (h : k ∉ kvs.map (·.1)) : putD kvs k d = kvs ++ [(k, d)] := by
 unfold putD
 rw [if_neg]
 intro z
 obtain ⟨kv, hm, e⟩ := List.any_eq_true.mp z
 exact h (List.mem_map.mpr ⟨kv, hm, of_decide_eq_true e⟩)
theorem zjc : ∀ (ks : List Key) (bs : List PyData) (acc : List (Key × PyData)), ks.Nodup → (∀ k ∈ ks, k ∉ acc.map (·.1)) → (ks.zip bs).foldl (fun acc p => putD acc p.1 p.2) acc = acc ++ ks.zip bs
 | [], _, acc, _, _ => by rw [List.zip_nil_left, List.append_nil]; rfl
 | _ :: _, [], acc, _, _ => by rw [List.zip_nil_right, List.append_nil]; rfl
 | k :: ks, b :: bs, acc, nd, h => by
  obtain ⟨n1, n2⟩ := List.nodup_cons.mp nd
  rw [List.zip_cons_cons, List.foldl_cons, zka (h k lS), zjc ks bs _ n2 fun j hj hm => ?_, List.append_assoc]
  ·rfl
  ·rw [List.map_append] at hm
   rcases lM hm with z | z
   ·exact h j (lO _ hj) z
   ·have : j = k := by simpa using z
    exact n1 (this ▸ hj)
theorem zou {ks : List Key} {bs : List PyData} (nd : ks.Nodup) : dzD ks bs = ks.zip bs := by
 unfold dzD
 rw [zjc ks bs [] nd fun k _ h => by simp at h]
 rfl
theorem zeK : ∀ ns : List Int, zfc (ns.map .int) = some (ns.map Sum.inl)
 | [] => rfl
 | n :: ns => by
  show (zgm (.int n)).bind _ = _
  rw [show zgm (.int n) = some (.inl n) from rfl]
  show (zfc (ns.map .int)).bind _ = _
  rw [zeK ns]
  rfl
def mn (x y : Int) : Int := if y < x then y else x
def mx (x y : Int) : Int := if y > x then y else x
end PQ
end
section
namespace PQ
open PySem L2 VL PA
def sm (n : Int) : Prop := 0 ≤ n ∧ n ≤ 99
theorem zkL {n : Int} (h : sm n) : n.natAbs.log2 < 7 := by
 unfold sm at h
 by_cases h0 : n.natAbs = 0
 ·rw [h0]; decide
 ·exact (Nat.log2_lt h0).mpr (by omega)
theorem zjd {n : Int} (h : sm n) : PyData.weight (.int n) ≤ 7 := by
 unfold PyData.weight
 have := zkL h
 split <;> omega
theorem ci : ∀ (ns : List Int), PyData.canLayAll0 (ns.map .int) = true
 | [] => rfl
 | n :: ns => by show (PyData.canLay0 (.int n) && PyData.canLayAll0 (ns.map .int)) = true; rw [ci ns]; rfl
theorem shI : ∀ (ns : List Int), (∀ n ∈ ns, sm n) → PyData.showableAll (ns.map .int) = true
 | [], _ => rfl
 | n :: ns, h => by
  show (PyData.showable (.int n) && PyData.showableAll (ns.map .int)) = true
  rw [shI ns fun m hm => h m (lO _ hm), Bool.and_true]
  have := zkL (h n lS)
  exact decide_eq_true (by omega)
theorem wtI : ∀ (ns : List Int), (∀ n ∈ ns, sm n) → PyData.weightAll (ns.map .int) ≤ 8 * ns.length
 | [], _ => Nat.le_refl _
 | n :: ns, h => by
  show PyData.weight (.int n) + 1 + PyData.weightAll (ns.map .int) ≤ _
  have h1 := zjd (h n lS)
  have h2 := wtI ns fun m hm => h m (lO _ hm)
  rw [List.length_cons]
  omega
theorem isI (ns : List Int) (h : ∀ n ∈ ns, sm n) : PyData.intsShortAll 13 (ns.map .int) = true := PyData.intsShortAll_ints ns fun n hn => by have := h n hn; unfold sm at this; omega
abbrev smP (t : Int × Int) : Prop := sm t.1 ∧ sm t.2
theorem zje {t : Int × Int} (h : smP t) : ∀ n ∈ [t.1, t.2], sm n := fun n hn => by
 simp only [List.mem_cons, List.not_mem_nil, or_false] at hn
 rcases hn with rfl | rfl
 ·exact h.1
 ·exact h.2
theorem shP : ∀ (ts : List (Int × Int)), (∀ t ∈ ts, smP t) → PyData.showableAll (ts.map pD) = true
 | [], _ => rfl
 | t :: ts, h => by
  show (PyData.showable (pD t) && PyData.showableAll (ts.map pD)) = true
  rw [shP ts fun m hm => h m (lO _ hm), Bool.and_true]
  exact shI [t.1, t.2] (zje (h t lS))
theorem dpP : ∀ (ts : List (Int × Int)), PyData.depthAll (ts.map pD) ≤ 1
 | [] => Nat.zero_le _
 | t :: ts => by
  show max (PyData.depth (pD t)) (PyData.depthAll (ts.map pD)) ≤ 1
  have h1 := dpP ts
  have h2 : PyData.depth (pD t) = 1 := rfl
  omega
theorem wtP : ∀ (ts : List (Int × Int)), (∀ t ∈ ts, smP t) → PyData.weightAll (ts.map pD) ≤ 17 * ts.length
 | [], _ => Nat.le_refl _
 | t :: ts, h => by
  show PyData.weightAll ([t.1, t.2].map .int) + 1 + PyData.weightAll (ts.map pD) ≤ _
  have h1 := wtI [t.1, t.2] (zje (h t lS))
  have h2 := wtP ts fun m hm => h m (lO _ hm)
  rw [show [t.1, t.2].length = 2 from rfl] at h1
  rw [List.length_cons]
  omega
theorem isP : ∀ (ts : List (Int × Int)), (∀ t ∈ ts, smP t) → PyData.intsShortAll 13 (ts.map pD) = true
 | [], _ => rfl
 | t :: ts, h => by
  show (PyData.intsShort 13 (pD t) && PyData.intsShortAll 13 (ts.map pD)) = true
  rw [isP ts fun m hm => h m (lO _ hm), Bool.and_true]
  exact isI [t.1, t.2] (zje (h t lS))
theorem zfe (x : Str) : eqS true (.v (.str x)) (.v (.str x)) = some (.v (.bool false)) := by
 show some (M.v (.bool (x != x))) = _
 rw [bne_self_eq_false]
end PQ
end
section
namespace PQ
open PySem L2 VL PA
section
variable {ρ : Ev} {i : Nat}
@[simp] theorem vRem_eq {fa : FA} : zop i fa ρ = (at? ρ i).bind fun m0 => match m0 with
 | .lst _ => (fa ρ).bind fun p => match p.1 with
  | [o] => (peek p.2 o).bind fun mk => match mk with
   | .v (.int k) => (at? p.2 i).bind fun m => match m with
    | .lst ds => (zfh ds).bind fun ns => (zfP ns k).bind fun n => some (.t (.v .none), p.2.set i (some (.lst (ds.eraseIdx n))))
    | _ => none
   | _ => none
  | _ => none
 | _ => none := rfl
theorem zdN {n : Nat} {js : List Nat} {fg : FG} {ft : FT} {fe : FE} {ds : List PyData} (h : at? ρ i = some (.lst ds)) (hij : i ∉ js) : zei n js i fg ft fe ρ = (caps ρ js).bind fun os => (zbT os ρ).bind fun q =>
   (zaY fg ft fe ds (List.replicate n none ++ q.1.map some) []).bind fun r => (fin (List.replicate js.length true) q.1 (r.2.drop n)).bind fun ms' => some (.t (.lst r.1), zgq os ms' q.2) := by
 unfold zei
 rw [h]
 dsimp only
 rw [if_neg hij]
end
theorem zec (neg : Bool) (ts : List (Int × Int)) (p : Int × Int) : inA neg (.v (pD p)) (.v (tD ts)) = some (.v (.bool (if neg then !decide (p ∈ ts) else decide (p ∈ ts)))) := by
 show (if okIn (ts.map pD) (pD p) = true then some (M.v (.bool (if neg then !((ts.map pD).any fun d => PyData.eqv d (pD p)) else (ts.map pD).any fun d => PyData.eqv d (pD p)))) else none) = _
 rw [zdz, if_pos]
 unfold okIn
 rw [zch]
 rfl
def zdm (ts : List (Int × Int)) (a b : Int) : Bool := decide ((mn a b, mx a b) ∈ ts)
theorem tied (ps : List Int) (ts : List (Int × Int)) (a b : Int) : FF.zaL [.v (wD ps ts), .v (.int a), .v (.int b)] = some (.v (.bool (zdm ts a b)), [.v (wD ps ts), .v (.int a), .v (.int b)]) := by
 have h := zec false ts (mn a b, mx a b)
 have e1 : zky [.v (.int a), .v (.int b)] = some (.v (.int (mn a b))) := rfl
 have e2 : zgo [.v (.int a), .v (.int b)] = some (.v (.int (mx a b))) := rfl
 have h : inA false (.v (.tuple [.int (mn a b), .int (mx a b)])) (.v (tD ts)) = some (.v (.bool (zdm ts a b))) := h
 show FF.zaL [.v (.tuple [tI ps, tD ts]), .v (.int a), .v (.int b)] = some (.v (.bool (zdm ts a b)), [.v (.tuple [tI ps, tD ts]), .v (.int a), .v (.int b)])
 generalize mn a b = x at *
 generalize mx a b = y at *
 generalize zdm ts a b = z at *
 generalize tD ts = W at *
 refine zbs (ρ := [some (.v (.tuple [tI ps, W])), some (.v (.int a)), some (.v (.int b))]) rfl ?_ rfl
 show FF.zbI [some (.v (.tuple [tI ps, W])), some (.v (.int a)), some (.v (.int b))] = _
 simp [FF.zbI, e1, e2, lim, atI, ixN, h, -zlW, -zlX]
theorem zbJ {ft : FT} {fe : FE} {cs : Ev} {p : Int → Bool} {f : Int → PyData} : ∀ (ns : List Int) (acc : List PyData) (x : Option M), (∀ n ∈ ns, ft (some (.v (.int n)) :: cs) = some (p n, some (.v (.int n)) :: cs) ∧ ∃ o, fe (some (.v (.int n)) :: cs) = some (o, some (.v (.int n)) :: cs) ∧ zcA o (some (.v (.int n)) :: cs) = some (f n, some (.v (.int n)) :: cs)) → acc.length + ns.length ≤ lim →
  ∃ y, zaY (zad 0) ft fe (ns.map .int) (x :: cs) acc = some (acc ++ (ns.filter p).map f, y :: cs)
 | [], acc, x, _, _ => ⟨x, by simp [zaY]⟩
 | n :: ns, acc, x, h, hl => by
  obtain ⟨e0, o, e1, e2⟩ := h n lS
  rw [List.length_cons] at hl
  have hg : zad 0 (.int n) (x :: cs) = some (some (.v (.int n)) :: cs) := by simp
  by_cases hp : p n = true
  ·obtain ⟨y, e3⟩ := zbJ (ft := ft) (fe := fe) (cs := cs) (p := p) (f := f) ns (acc ++ [f n]) (some (.v (.int n))) (fun d hd => h d (lO _ hd)) (by rw [List.length_append, List.length_singleton]; omega)
   refine ⟨y, ?_⟩
   rw [List.filter_cons, if_pos hp, List.map_cons]
   show (zad 0 (.int n) (x :: cs)).bind _ = _
   rw [hg]
   show (ft (some (.v (.int n)) :: cs)).bind _ = _
   rw [e0, hp]
   show (fe (some (.v (.int n)) :: cs)).bind _ = _
   rw [e1]
   show (zcA o (some (.v (.int n)) :: cs)).bind _ = _
   rw [e2]
   show (if acc.length < lim then _ else _) = _
   rw [if_pos (by omega)]
   rw [show zaY (zad 0) ft fe (ns.map .int) (some (.v (.int n)) :: cs) (acc ++ [f n]) = _ from e3, List.map_cons, List.append_assoc]
   rfl
  ·have hp' : p n = false := by simpa using hp
   obtain ⟨y, e3⟩ := zbJ (ft := ft) (fe := fe) (cs := cs) (p := p) (f := f) ns acc (some (.v (.int n))) (fun d hd => h d (lO _ hd)) (by omega)
   refine ⟨y, ?_⟩
   rw [List.filter_cons, if_neg hp]
   show (zad 0 (.int n) (x :: cs)).bind _ = _
   rw [hg]
   show (ft (some (.v (.int n)) :: cs)).bind _ = _
   rw [e0, hp']
   exact e3
abbrev zfU : FE := zei 1 [1, 0] 2 (zad 0) zfK (vFn FF.zaL (zaa (zac 1) (zaa (zac 2) (zab (zac 0)))))
theorem zjf (bs : List Bool) : allM true [.lst (bs.map .bool)] = some (.v (.bool (bs.any id))) := by
 rw [ziS]
 have : znH (bs.map .bool) = some bs := by
  induction bs with
  | nil => rfl
  | cons b bs ih => show (some b).bind _ = _; rw [Option.bind_some, ih]; rfl
 rw [this]
 rfl
theorem zjg (ps : List Int) (ts : List (Int × Int)) (lot : List Int) (one : Int) (hl : lot.length ≤ 1000) :
  zf0 (vCB (allM true) (zab zfU)) [some (.v (.int one)), some (.v (wD ps ts)), some (.lst (lot.map .int))] = some (lot.any (zdm ts one), [some (.v (.int one)), some (.v (wD ps ts)), some (.lst (lot.map .int))]) := by
 obtain ⟨y, e⟩ := zbJ (ft := zfK) (fe := vFn FF.zaL (zaa (zac 1) (zaa (zac 2) (zab (zac 0))))) (cs := [some (.v (wD ps ts)), some (.v (.int one))]) (p := fun _ => true) (f := fun n => .bool (zdm ts one n)) lot [] none (fun n _ => ⟨rfl, .t (.v (.bool (zdm ts one n))), by have := tied ps ts one n; generalize wD ps ts = W at *; simp [this], rfl⟩) (by rw [List.length_nil]; unfold lim; omega)
 rw [List.nil_append, List.filter_eq_self.mpr (fun _ _ => rfl)] at e
 have ea := zjf (lot.map (zdm ts one))
 rw [List.map_map, List.any_map] at ea
 generalize wD ps ts = W at *
 have eo : zfU [some (.v (.int one)), some (.v W), some (.lst (lot.map .int))] = some (.t (.lst (lot.map fun n => .bool (zdm ts one n))), [some (.v (.int one)), some (.v W), some (.lst (lot.map .int))]) := by
  refine (zdN rfl (by decide)).trans ?_
  simp [e]
 have ea' : allM true [.lst (lot.map fun n => .bool (zdm ts one n))] = some (.v (.bool (lot.any (zdm ts one)))) := ea
 show (vCB (allM true) (zab zfU) _).bind _ = _
 rw [zn8, zjW, eo]
 simp [ea', -ziS]
end PQ
end
section
namespace PQ
open PySem L2 VL PA
theorem eq_nil (neg : Bool) (ns : List Int) : eqM neg (.lst (ns.map .int)) (.lst []) = some (.v (.bool (if neg then !ns.isEmpty else ns.isEmpty))) := by
 rw [zkG]
 have ok : zkv (.list (ns.map .int)) (.list []) = true := by
  unfold zkv
  rw [show PyData.canLay0 (.list (ns.map .int)) = true from ci ns, show PyData.canLay0 (.list []) = true from rfl, decide_eq_true (show min (PyData.depth (.list (ns.map .int))) (PyData.depth (.list [])) ≤ 60 from Nat.le_trans (Nat.min_le_right _ _) (by decide))]
  rfl
 simp only [ziQ, Option.bind_some, ok, if_true]
 cases ns with
 | nil => rfl
 | cons n ns => rfl
theorem zfV : ∀ {ns : List Int} {n : Int}, n ∈ ns → ∃ j, zfP ns n = some j ∧ j < ns.length
 | [], _, h => by cases h
 | m :: ms, n, h => by
  unfold zfP
  by_cases e : m = n
  ·exact ⟨0, if_pos e, by simp⟩
  ·rw [if_neg e]
   have h' : n ∈ ms := by
    rcases lK h with z | z
    ·exact absurd z.symm e
    ·exact z
   obtain ⟨j, hj, hl⟩ := zfV h'
   exact ⟨j + 1, by rw [hj]; rfl, by rw [List.length_cons]; omega⟩
theorem zkb {α : Type} (xs : List α) (x : α) : atI (xs ++ [x]) (-1) = some x := by
 unfold atI ixN
 have h1 : (1 : Int) ≤ (xs.length : Int) + 1 := by omega
 have h2 : (-1 + ((xs.length : Int) + 1)).toNat = xs.length := by omega
 simp [h1, h2]
abbrev zjh : FS := za2 (zbL 8 (zei 1 [1, 6] 3 (zad 0) (zf0 (vCB (allM true) (zab zfU))) (zac 0)))
 (ze3 (zbk (vB (eqM true) (zac 8) (zcF zbS))) (za2 (zbX (zhM 6 (zab (vFn FF.zag (zaa (zac 0) (zab (zac 8)))))))
 (zbX (zop 3 (zab (vIx (zac 6) (vU zmp (vC (.int 1)))))))) zbW)
theorem grow1 {B : Nat} {l : List PyData} {ps free lot : List Int} {ts : List (Int × Int)} (many : PyData) (zhj : List PyData) (x5 x7 x8 : Option M) (h : Hd B l) (hB : B ≤ 100000) (hf : free.length ≤ 24) (hlt : lot.length ≤ 24) : ∃ (l' : List PyData) (free' lot' : List Int) (y8 : Option M), Hd (B + 1) l' ∧ (lot' ++ free').Perm (lot ++ free) ∧ lot'.length ≤ lot.length + 1 ∧
  zjh [some (.lst l), some (.v (wD ps ts)), some (.v many), some (.lst (free.map .int)), some (.lst zhj), x5, some (.lst (lot.map .int)), x7, x8] = some (.nx [some (.lst l'), some (.v (wD ps ts)), some (.v many), some (.lst (free'.map .int)), some (.lst zhj), x5, some (.lst (lot'.map .int)), x7, y8]) := by
 obtain ⟨y, e⟩ := zbJ (ft := zf0 (vCB (allM true) (zab zfU))) (fe := zac 0) (cs := [some (.v (wD ps ts)), some (.lst (lot.map .int))]) (p := fun one => lot.any (zdm ts one)) (f := .int) free [] none (fun n _ => ⟨zjg ps ts lot n (by omega), .t (.v (.int n)), rfl, rfl⟩) (by rw [List.length_nil]; unfold lim; omega)
 rw [List.nil_append] at e
 generalize hbs : free.filter (fun one => lot.any (zdm ts one)) = bs at e
 have sub : ∀ x ∈ bs, x ∈ free := fun x hx => by rw [← hbs] at hx; exact (List.mem_filter.mp hx).1
 have hbl : bs.length ≤ 24 := by rw [← hbs]; exact Nat.le_trans (List.length_filter_le _ _) hf
 generalize wD ps ts = W at *
 have e1 : zei 1 [1, 6] 3 (zad 0) (zf0 (vCB (allM true) (zab zfU))) (zac 0) [some (.lst l), some (.v W), some (.v many), some (.lst (free.map .int)), some (.lst zhj), x5, some (.lst (lot.map .int)), x7, x8] = some (.t (.lst (bs.map .int)), [some (.lst l), some (.v W), some (.v many), some (.lst (free.map .int)), some (.lst zhj), x5, some (.lst (lot.map .int)), x7, x8]) := by
  refine (zdN rfl (by decide)).trans ?_
  show (zaY (zad 0) (zf0 (vCB (allM true) (zab zfU))) (zac 0) (free.map .int) [none, some (.v W), some (.lst (lot.map .int))] []).bind _ = _
  rw [e]
  rfl
 have s1 : zbL 8 (zei 1 [1, 6] 3 (zad 0) (zf0 (vCB (allM true) (zab zfU))) (zac 0)) [some (.lst l), some (.v W), some (.v many), some (.lst (free.map .int)), some (.lst zhj), x5, some (.lst (lot.map .int)), x7, x8] = some (.nx [some (.lst l), some (.v W), some (.v many), some (.lst (free.map .int)), some (.lst zhj), x5, some (.lst (lot.map .int)), x7, some (.lst (bs.map .int))]) := by
  rw [ze8, e1]
  simp
 by_cases hb : bs = []
 ·refine ⟨l, free, lot, some (.lst (bs.map .int)), h.mono (by omega), List.Perm.refl _, by omega, (zaq s1).trans ?_⟩
  have en : eqM true (.lst []) (.lst []) = some (.v (.bool false)) := eq_nil true []
  rw [hb]
  simp [en, lim]
 ·obtain ⟨x, l2, hx, hl2, ep⟩ := zgD (ns := bs) h (by omega) (List.length_pos_iff.mpr hb) (by omega)
  obtain ⟨j, hj, hjl⟩ := zfV (sub x hx)
  have hjx : free[j] = x := by
   have := (zdh hj).1
   rw [List.getElem?_eq_getElem hjl] at this
   exact Option.some.inj this
  refine ⟨l2, free.eraseIdx j, lot ++ [x], some (.lst (bs.map .int)), hl2, ?_, by rw [List.length_append, List.length_singleton]; omega, (zaq s1).trans ?_⟩
  ·rw [List.append_assoc]
   refine List.Perm.append_left lot ?_
   have := zeJ hjl
   rw [hjx] at this
   exact this
  ·have en := eq_nil true bs
   have hbe : bs.isEmpty = false := by
    cases bs with
    | nil => exact absurd rfl hb
    | cons _ _ => rfl
   rw [hbe] at en
   have hlim : lot.length < 1000000 := by omega
   have hat : atI (lot.map PyData.int ++ [PyData.int x]) (-1) = some (.int x) := zkb _ _
   have hneg : zmp (.v (.int 1)) = some (.v (.int (-1))) := rfl
   have hfr := zcV free
   simp [en, lim, ep, hlim, hat, hneg, hfr, hj, zci]
theorem grows {B : Nat} {l : List PyData} {ps free lot : List Int} {ts : List (Int × Int)} (many : PyData) (zhj : List PyData) (x5 x7 x8 : Option M) (m : Nat) (h : Hd B l) (hB : B ≤ 90000) (hm : m ≤ 10) (hf : lot.length + free.length ≤ 24) (hlt : lot.length ≤ 1) : ∃ (l' : List PyData) (free' lot' : List Int) (y7 y8 : Option M), Hd (B + m) l' ∧ (lot' ++ free').Perm (lot ++ free) ∧ lot'.length ≤ 11 ∧
  zfi (zad 7) zjh (zaK 0 (m : Int)) [some (.lst l), some (.v (wD ps ts)), some (.v many), some (.lst (free.map .int)), some (.lst zhj), x5, some (.lst (lot.map .int)), x7, x8] = some (.nx [some (.lst l'), some (.v (wD ps ts)), some (.v many), some (.lst (free'.map .int)), some (.lst zhj), x5, some (.lst (lot'.map .int)), y7, y8]) := by
 obtain ⟨ρ', e, k, l', free', lot', y7, y8, hk, hl, hp, hln, rfl⟩ := zcC (fg := zad 7) (fb := zjh) (P := fun rest ρ => ∃ (k : Nat) (l' : List PyData) (free' lot' : List Int) (y7 y8 : Option M), rest.length + k = m ∧ Hd (B + k) l' ∧ (lot' ++ free').Perm (lot ++ free) ∧ lot'.length ≤ 1 + k ∧ ρ = [some (.lst l'), some (.v (wD ps ts)), some (.v many), some (.lst (free'.map .int)), some (.lst zhj), x5, some (.lst (lot'.map .int)), y7, y8])
  (zaK 0 (m : Int)) _ ⟨0, l, free, lot, x7, x8, by rw [zbj, List.length_map, List.length_range]; rfl, h, List.Perm.refl _, by omega, rfl⟩ (fun d rest ρ hP => by
   obtain ⟨k, l', free', lot', y7, y8, hk, hl, hp, hln, rfl⟩ := hP
   rw [List.length_cons] at hk
   have hlen : lot'.length + free'.length ≤ 24 := by rw [← List.length_append, hp.length_eq, List.length_append]; exact hf
   obtain ⟨l2, f2, t2, z8, h2, p2, n2, e2⟩ := grow1 (ps := ps) (ts := ts) (free := free') (lot := lot') many zhj x5 (some (.v d)) y8 hl (by omega) (by omega) (by omega)
   exact ⟨[some (.lst l'), some (.v (wD ps ts)), some (.v many), some (.lst (free'.map .int)), some (.lst zhj), x5, some (.lst (lot'.map .int)), some (.v d), y8], _, by simp, e2, k + 1, l2, f2, t2, _, z8, by omega, h2, p2.trans hp, by omega, rfl⟩)
 have hkm : k = m := by simpa using hk
 subst hkm
 exact ⟨l', free', lot', y7, y8, hl, hp, by omega, e⟩
end PQ
end
section
namespace PQ
open PySem L2 VL PA
abbrev lotB : FS := za2 (ze3 (zbk (vB (eqM false) (zac 3) (zcF zbS))) (zc4 (zac 4)) zbW)
 (za2 (zbL 6 (zcF (zab (ziU 3 (zab (vFn FF.zai (zaa (zac 0) (zab (vCB zd1 (zab (zac 3)))))))))))
 (za2 (zgt (zbf zd4 (zab (vFn FF.zag (zaa (zac 0) (zab (zcF (zaa (vC (.int 0)) (zaa (vC (.int 1)) (zaa (vC (.int 2)) (zaa (vC (.int 4)) (zab (vC (.int 9))))))))))))) (zad 7) zjh)
 (zbX (zhM 4 (zab (vCB zd2 (zab (vCB zd0 (zab (zac 6))))))))))
theorem lot1 {B : Nat} {l : List PyData} {ps free : List Int} {ts : List (Int × Int)} {L : List (List Int)} (many : PyData) (x5 x6 x7 x8 : Option M) (h : Hd B l) (hB : B ≤ 10000) (hf : free.length ≤ 24) (hne : free ≠ []) (hL : L.length ≤ 1000) : ∃ (l' : List PyData) (free' lot : List Int) (y6 y7 y8 : Option M), Hd (B + 12) l' ∧ (free' ++ (L ++ [lot]).flatten).Perm (free ++ L.flatten) ∧
  lotB [some (.lst l), some (.v (wD ps ts)), some (.v many), some (.lst (free.map .int)), some (.lst (L.map tI)), x5, x6, x7, x8] = some (.nx [some (.lst l'), some (.v (wD ps ts)), some (.v many), some (.lst (free'.map .int)), some (.lst ((L ++ [lot]).map tI)), x5, y6, y7, y8]) := by
 have hpos : 0 < free.length := List.length_pos_iff.mpr hne
 obtain ⟨r, l1, r0, r1, hl1, e1⟩ := take (m := (free.length : Int)) h (by omega) (by omega) (by omega)
 obtain ⟨j, rfl⟩ := Int.eq_ofNat_of_zero_le r0
 have hj : j < free.length := by omega
 obtain ⟨m, l2, hm, hl2, e2⟩ := zgD (ns := [0, 1, 2, 4, 9]) hl1 (by omega) (by decide) (by decide)
 have hm' : 0 ≤ m ∧ m ≤ 9 := by
  simp only [List.mem_cons, List.not_mem_nil, or_false] at hm
  omega
 obtain ⟨mm, rfl⟩ := Int.eq_ofNat_of_zero_le hm'.1
 have pe := zeJ hj
 have hel : (free.eraseIdx j).length + 1 = free.length := by have := pe.length_eq; rw [List.length_cons] at this; exact this
 obtain ⟨l3, f3, t3, y7, y8, hl3, p3, n3, e3⟩ := grows (ps := ps) (ts := ts) (free := free.eraseIdx j) (lot := [free[j]]) many (L.map tI) x5 x7 x8 mm hl2 (by omega) (by omega) (by rw [List.length_singleton]; omega) (by simp)
 refine ⟨l3, f3, zeu t3, some (.lst (t3.map .int)), y7, y8, hl3.mono (by omega), ?_, ?_⟩
 ·rw [List.flatten_append, List.flatten_cons, List.flatten_nil, List.append_nil]
  have q1 : (f3 ++ (L.flatten ++ zeu t3)).Perm (t3 ++ f3 ++ L.flatten) := by
   refine (List.Perm.append_left f3 (List.Perm.append_left _ (zhJ t3))).trans ?_
   refine (List.Perm.append_left f3 List.perm_append_comm).trans ?_
   rw [← List.append_assoc]
   exact List.Perm.append_right _ List.perm_append_comm
  refine q1.trans (List.Perm.append_right _ (p3.trans ?_))
  exact pe
 ·have en := eq_nil false free
  have hfe : free.isEmpty = false := by
   cases free with
   | nil => exact absurd rfl hne
   | cons _ _ => rfl
  rw [hfe] at en
  have hsi : seqIndex? (j : Int) free.length = some j := by
   unfold seqIndex?
   have h1 : ¬ (j : Int) < 0 := by omega
   simp [h1, hj]
  have hb2 : ¬ ((j : Int) < -9223372036854775808 ∨ 9223372036854775808 ≤ (j : Int)) := by omega
  have e2 : FF.zag [.lst l1, .lst [.int 0, .int 1, .int 2, .int 4, .int 9]] = some (.v (.int (mm : Int)), [.lst l2, .lst [.int 0, .int 1, .int 2, .int 4, .int 9]]) := e2
  have hsm : zbq (mm : Int) = true := decide_eq_true (by unfold ziE; omega)
  have es := zhI (ns := t3) (by omega)
  have hLl : L.length < 1000000 := by omega
  have e3 : zfi (zad 7) zjh (zaK 0 (mm : Int)) [some (.lst l2), some (.v (wD ps ts)), some (.v many), some (.lst ((free.eraseIdx j).map .int)), some (.lst (L.map tI)), x5, some (.lst [.int free[j]]), x7, x8] = _ := e3
  generalize wD ps ts = W at *
  refine (zaq (ρ1 := [some (.lst l), some (.v W), some (.v many), some (.lst (free.map .int)), some (.lst (L.map tI)), x5, x6, x7, x8]) (by simp [en, lim])).trans ?_
  refine (zaq (ρ1 := [some (.lst l1), some (.v W), some (.v many), some (.lst ((free.eraseIdx j).map .int)), some (.lst (L.map tI)), x5, some (.lst [.int free[j]]), x7, x8]) (by simp [e1, hsi, hb2, hj, lim, zci])).trans ?_
  refine (zaq (ρ1 := [some (.lst l3), some (.v W), some (.v many), some (.lst (f3.map .int)), some (.lst (L.map tI)), x5, some (.lst (t3.map .int)), y7, y8]) ?_).trans ?_
  ·rw [zcf]
   have ei : zbf zd4 (zab (vFn FF.zag (zaa (zac 0) (zab (zcF (zaa (vC (.int 0)) (zaa (vC (.int 1)) (zaa (vC (.int 2)) (zaa (vC (.int 4)) (zab (vC (.int 9)))))))))))) [some (.lst l1), some (.v W), some (.v many), some (.lst ((free.eraseIdx j).map .int)), some (.lst (L.map tI)), x5, some (.lst [.int free[j]]), x7, x8] = some (zaK 0 (mm : Int), [some (.lst l2), some (.v W), some (.v many), some (.lst ((free.eraseIdx j).map .int)), some (.lst (L.map tI)), x5, some (.lst [.int free[j]]), x7, x8]) := by simp [e2, hsm, lim]
   rw [ei]
   exact e3
  ·simp [es, hLl, lim, tI]
theorem zhj {B : Nat} {l : List PyData} {ps : List Int} {ts : List (Int × Int)} (m : Nat) (h : Hd B l) (hB : B ≤ 5000) (hm : m ≤ 9) (w : zmf ps ts) : ∃ (l' : List PyData) (L : List (List Int)) (free : List Int), Hd (B + 200) l' ∧ (free ++ L.flatten).Perm ps ∧ L.length ≤ 9 ∧
  FF.zaw [.lst l, .v (wD ps ts), .v (.int (m : Int))] = some (.lst (L.map tI), [.lst l', .v (wD ps ts), .v (.int (m : Int))]) := by
 generalize hmn : (if (ps.length : Int) < (m : Int) then (ps.length : Int) else (m : Int)) = t
 have ht : 0 ≤ t ∧ t ≤ 9 := by rw [← hmn]; split <;> omega
 obtain ⟨n, rfl⟩ := Int.eq_ofNat_of_zero_le ht.1
 have hsm : zbq (n : Int) = true := decide_eq_true (by unfold ziE; omega)
 have few := w.few
 have st0 : (zlJ 3 4 (zaa (vCB zgb (zab (vIx (zac 1) (vC (.int 0))))) (zab (zcF zbS)))) [some (.lst l), some (.v (wD ps ts)), some (.v (.int (m : Int))), none, none, none, none, none, none] = some (.nx [some (.lst l), some (.v (wD ps ts)), some (.v (.int (m : Int))), some (.lst (ps.map .int)), some (.lst []), none, none, none, none]) := by
  have : zgb [.v (tI ps)] = some (.lst (ps.map .int)) := rfl
  simp [atI, ixN, this, lim]
 have key := zfa (fg := zad 5) (fb := lotB) (P := fun rest ρ => ∃ (k : Nat) (l' : List PyData) (free : List Int) (L : List (List Int)) (y5 y6 y7 y8 : Option M), rest.length + k = n ∧ Hd (B + 12 * k) l' ∧ (free ++ L.flatten).Perm ps ∧ L.length = k ∧ ρ = [some (.lst l'), some (.v (wD ps ts)), some (.v (.int (m : Int))), some (.lst (free.map .int)), some (.lst (L.map tI)), y5, y6, y7, y8])
  (Q := fun r ρ => ∃ (k : Nat) (l' : List PyData) (free : List Int) (L : List (List Int)) (y5 y6 y7 y8 : Option M), k ≤ n ∧ Hd (B + 12 * k) l' ∧ (free ++ L.flatten).Perm ps ∧ L.length = k ∧ r = .lst (L.map tI) ∧ ρ = [some (.lst l'), some (.v (wD ps ts)), some (.v (.int (m : Int))), some (.lst (free.map .int)), none, y5, y6, y7, y8])
  (zaK 0 (n : Int)) [some (.lst l), some (.v (wD ps ts)), some (.v (.int (m : Int))), some (.lst (ps.map .int)), some (.lst []), none, none, none, none] ⟨0, l, ps, [], none, none, none, none, by rw [zbj, List.length_map, List.length_range]; rfl, h, by simp, rfl, rfl⟩ (fun d rest ρ hP => by
   obtain ⟨k, l', free, L, y5, y6, y7, y8, hk, hl, hp, hLk, rfl⟩ := hP
   rw [List.length_cons] at hk
   have hlen : free.length ≤ 24 := by
    have := hp.length_eq
    rw [List.length_append] at this
    omega
   refine ⟨[some (.lst l'), some (.v (wD ps ts)), some (.v (.int (m : Int))), some (.lst (free.map .int)), some (.lst (L.map tI)), some (.v d), y6, y7, y8], by simp, ?_⟩
   by_cases hf : free = []
   ·right
    refine ⟨.lst (L.map tI), [some (.lst l'), some (.v (wD ps ts)), some (.v (.int (m : Int))), some (.lst (free.map .int)), none, some (.v d), y6, y7, y8], ?_, k, l', free, L, _, _, _, _, by omega, hl, hp, hLk, rfl, rfl⟩
    have en : eqM false (.lst []) (.lst []) = some (.v (.bool true)) := eq_nil false []
    rw [hf]
    refine ziT ?_
    simp [en, lim]
   ·left
    obtain ⟨l2, f2, lot, z6, z7, z8, h2, p2, e2⟩ := lot1 (ps := ps) (ts := ts) (L := L) (.int (m : Int)) (some (.v d)) y6 y7 y8 hl (by omega) hlen hf (by omega)
    exact ⟨_, e2, k + 1, l2, f2, L ++ [lot], _, z6, z7, z8, by omega, h2.mono (by omega), p2.trans hp, by rw [List.length_append, List.length_singleton, hLk], rfl⟩)
 have iter : ∀ f : List PyData × Ev → Option Out, (zbf zd4 (zab (vCB zky (zaa (zac 2) (zab (vCB zd1 (zab (zac 3)))))))  [some (.lst l), some (.v (wD ps ts)), some (.v (.int (m : Int))), some (.lst (ps.map .int)), some (.lst []), none, none, none, none]).bind f = f (zaK 0 (n : Int), [some (.lst l), some (.v (wD ps ts)), some (.v (.int (m : Int))), some (.lst (ps.map .int)), some (.lst []), none, none, none, none]) := fun f => by
  generalize wD ps ts = W
  have hmn' : (if ps.length < m then (ps.length : Int) else (m : Int)) = (n : Int) := by
   rw [← hmn]
   by_cases h : ps.length < m <;> simp [h]
  simp [hmn', hsm]
 rcases key with ⟨ρ', e, k, l', free, L, y5, y6, y7, y8, hk, hl, hp, hLk, rfl⟩ | ⟨r, ρ', e, k, l', free, L, y5, y6, y7, y8, hk, hl, hp, hLk, rfl, rfl⟩
 ·have hkn : k = n := by simpa using hk
  refine ⟨l', L, free, hl.mono (by omega), hp, by omega, zbs (ρ := [some (.lst l'), some (.v (wD ps ts)), some (.v (.int (m : Int))), some (.lst (free.map .int)), none, y5, y6, y7, y8]) rfl ?_ rfl⟩
  show FF.za1 [some (.lst l), some (.v (wD ps ts)), some (.v (.int (m : Int))), none, none, none, none, none, none] = _
  refine (zaq st0).trans ?_
  refine (zaq (ρ1 := [some (.lst l'), some (.v (wD ps ts)), some (.v (.int (m : Int))), some (.lst (free.map .int)), some (.lst (L.map tI)), y5, y6, y7, y8]) ?_).trans (by simp)
  rw [zcf, iter]
  exact e
 ·refine ⟨l', L, free, hl.mono (by omega), hp, by omega, zbs (ρ := [some (.lst l'), some (.v (wD ps ts)), some (.v (.int (m : Int))), some (.lst (free.map .int)), none, y5, y6, y7, y8]) rfl ?_ rfl⟩
  show FF.za1 [some (.lst l), some (.v (wD ps ts)), some (.v (.int (m : Int))), none, none, none, none, none, none] = _
  refine (zaq st0).trans ?_
  refine ziT ?_
  rw [zcf, iter]
  exact e
end PQ
end
section
namespace PQ
open PySem L2 VL PA
theorem zbQ {ft : FT} {fe : FE} {cs : Ev} {p : Int × Int → Bool} {f : Int × Int → PyData} : ∀ (ts : List (Int × Int)) (acc : List PyData) (x y : Option M), (∀ t ∈ ts, ft (some (.v (.int t.1)) :: some (.v (.int t.2)) :: cs) = some (p t, some (.v (.int t.1)) :: some (.v (.int t.2)) :: cs) ∧ ∃ o, fe (some (.v (.int t.1)) :: some (.v (.int t.2)) :: cs) = some (o, some (.v (.int t.1)) :: some (.v (.int t.2)) :: cs) ∧ zcA o (some (.v (.int t.1)) :: some (.v (.int t.2)) :: cs) = some (f t, some (.v (.int t.1)) :: some (.v (.int t.2)) :: cs)) → acc.length + ts.length ≤ lim →
  ∃ x' y', zaY (zbb 2 (zam (zad 0) (zam (zad 1) zbe))) ft fe (ts.map pD) (x :: y :: cs) acc = some (acc ++ (ts.filter p).map f, x' :: y' :: cs)
 | [], acc, x, y, _, _ => ⟨x, y, by simp [zaY]⟩
 | t :: ts, acc, x, y, h, hl => by
  obtain ⟨e0, o, e1, e2⟩ := h t lS
  rw [List.length_cons] at hl
  have hg : zbb 2 (zam (zad 0) (zam (zad 1) zbe)) (pD t) (x :: y :: cs) = some (some (.v (.int t.1)) :: some (.v (.int t.2)) :: cs) := by simp
  by_cases hp : p t = true
  ·obtain ⟨x', y', e3⟩ := zbQ (ft := ft) (fe := fe) (cs := cs) (p := p) (f := f) ts (acc ++ [f t]) (some (.v (.int t.1))) (some (.v (.int t.2))) (fun d hd => h d (lO _ hd)) (by rw [List.length_append, List.length_singleton]; omega)
   refine ⟨x', y', ?_⟩
   rw [List.filter_cons, if_pos hp, List.map_cons]
   show (zbb 2 (zam (zad 0) (zam (zad 1) zbe)) (pD t) (x :: y :: cs)).bind _ = _
   rw [hg]
   show (ft _).bind _ = _
   rw [e0, hp]
   show (fe _).bind _ = _
   rw [e1]
   show (zcA o _).bind _ = _
   rw [e2]
   show (if acc.length < lim then _ else _) = _
   rw [if_pos (by omega)]
   rw [show zaY (zbb 2 (zam (zad 0) (zam (zad 1) zbe))) ft fe (ts.map pD) (some (.v (.int t.1)) :: some (.v (.int t.2)) :: cs) (acc ++ [f t]) = _ from e3, List.map_cons, List.append_assoc]
   rfl
  ·have hp' : p t = false := by simpa using hp
   obtain ⟨x', y', e3⟩ := zbQ (ft := ft) (fe := fe) (cs := cs) (p := p) (f := f) ts acc (some (.v (.int t.1))) (some (.v (.int t.2))) (fun d hd => h d (lO _ hd)) (by omega)
   refine ⟨x', y', ?_⟩
   rw [List.filter_cons, if_neg hp]
   show (zbb 2 (zam (zad 0) (zam (zad 1) zbe)) (pD t) (x :: y :: cs)).bind _ = _
   rw [hg]
   show (ft _).bind _ = _
   rw [e0, hp']
   exact e3
theorem zfW (ns : List Int) (a : Int) : ((ns.map PyData.int).any fun d => PyData.eqv d (.int a)) = decide (a ∈ ns) := by
 rw [List.any_map]
 induction ns with
 | nil => simp
 | cons m ns ih =>
  rw [List.any_cons, ih]
  show ((m == a) || _) = _
  by_cases h : m = a
  ·simp [h]
  ·simp [h, Ne.symm h]
theorem zex (neg : Bool) (ns : List Int) (a : Int) : inA neg (.v (.int a)) (.v (tI ns)) = some (.v (.bool (if neg then !decide (a ∈ ns) else decide (a ∈ ns)))) := by
 show (if okIn (ns.map .int) (.int a) = true then some (M.v (.bool (if neg then !((ns.map PyData.int).any fun d => PyData.eqv d (.int a)) else (ns.map PyData.int).any fun d => PyData.eqv d (.int a)))) else none) = _
 rw [zfW, if_pos]
 unfold okIn
 rw [ci]
 rfl
theorem zkM (ts : List (Int × Int)) : itD (tD ts) = some (ts.map pD) := rfl
def btw (one other : List Int) (t : Int × Int) : Bool := (decide (t.1 ∈ one) && decide (t.2 ∈ other)) || (decide (t.2 ∈ one) && decide (t.1 ∈ other))
theorem between (ps : List Int) (ts : List (Int × Int)) (one other : List Int) (hl : ts.length ≤ 1000) : FF.zaA [.v (wD ps ts), .v (tI one), .v (tI other)] = some (.lst ((ts.filter (btw one other)).map pD), [.v (wD ps ts), .v (tI one), .v (tI other)]) := by
 obtain ⟨x, y, e⟩ := zbQ (ft := vOr (zfZ (zbk (vB (inA false) (zac 0) (zac 2))) (zbk (vB (inA false) (zac 1) (zac 3)))) (zfZ (zbk (vB (inA false) (zac 1) (zac 2))) (zbk (vB (inA false) (zac 0) (zac 3))))) (fe := zco (zaa (zac 0) (zab (zac 1)))) (cs := [some (.v (tI one)), some (.v (tI other))]) (p := btw one other) (f := pD) ts [] none none (fun t _ => by
  have h1 := zex false one t.1
  have h2 := zex false other t.2
  have h3 := zex false one t.2
  have h4 := zex false other t.1
  simp only [Bool.false_eq_true, if_false] at h1 h2 h3 h4
  generalize tI one = O at *
  generalize tI other = P at *
  unfold btw
  refine ⟨?_, .t (.v (pD t)), by simp [lim], rfl⟩
  by_cases q1 : t.1 ∈ one <;> by_cases q2 : t.2 ∈ other <;> by_cases q3 : t.2 ∈ one <;> by_cases q4 : t.1 ∈ other <;> simp [h1, h2, h3, h4, q1, q2, q3, q4]) (by rw [List.length_nil]; unfold lim; omega)
 rw [List.nil_append] at e
 refine zbs (ρ := [some (.v (wD ps ts)), some (.v (tI one)), some (.v (tI other))]) rfl ?_ rfl
 show FF.zaZ [some (.v (wD ps ts)), some (.v (tI one)), some (.v (tI other))] = _
 generalize tI one = O at *
 generalize tI other = P at *
 generalize hW : tD ts = W
 have hi : itD W = some (ts.map pD) := by rw [← hW]; exact zkM ts
 show FF.zaZ [some (.v (.tuple [tI ps, tD ts])), some (.v O), some (.v P)] = some (.rt (.lst ((ts.filter (btw one other)).map pD)) [some (.v (.tuple [tI ps, tD ts])), some (.v O), some (.v P)])
 rw [hW]
 simp [FF.zaZ, atI, ixN, hi, e]
theorem zml (neg : Bool) (ts : List (Int × Int)) : eqM neg (.lst (ts.map pD)) (.lst []) = some (.v (.bool (if neg then !ts.isEmpty else ts.isEmpty))) := by
 rw [zkG]
 have ok : zkv (.list (ts.map pD)) (.list []) = true := by
  unfold zkv
  rw [show PyData.canLay0 (.list (ts.map pD)) = true from zch ts, show PyData.canLay0 (.list []) = true from rfl, decide_eq_true (show min (PyData.depth (.list (ts.map pD))) (PyData.depth (.list [])) ≤ 60 from Nat.le_trans (Nat.min_le_right _ _) (by decide))]
  rfl
 simp only [ziQ, Option.bind_some, ok, if_true]
 cases ts with
 | nil => rfl
 | cons n ns => rfl
theorem zov {L : List (List Int)} {i : Int} (h0 : 0 ≤ i) (h1 : i < L.length) : ∃ lot, lot ∈ L ∧ atI (L.map tI) i = some (tI lot) := by
 obtain ⟨k, rfl⟩ := Int.eq_ofNat_of_zero_le h0
 have hk : k < L.length := by omega
 exact ⟨L[k], List.getElem_mem hk, zf9 (by rw [List.getElem?_map, List.getElem?_eq_getElem hk]; rfl)⟩
end PQ
end
section
namespace PQ
open PySem L2 VL PA
abbrev zow : FE := vLC 1 [1, 2, 6] (zbf zd4 (zab (zac 6))) (zad 0) (zbk (vB (eqM true) (vFn FF.zaA (zaa (zac 1) (zaa (vIx (zac 2) (zac 0)) (zab (vIx (zac 2) (zac 3)))))) (zcF zbS))) (zac 0)
theorem zgF (n : Nat) : zaK 0 (n : Int) = ((List.range n).map fun k : Nat => (k : Int)).map PyData.int := by
 rw [zbj, List.map_map]
 refine List.map_congr_left fun k _ => ?_
 simp
theorem zeN (ps : List Int) (ts : List (Int × Int)) (L : List (List Int)) (k : Nat) (hk : k < L.length) (hL : L.length ≤ 100) (hl : ts.length ≤ 1000) (x0 x3 x4 x5 x7 : Option M) : ∃ hs : List Int, hs.Sublist ((List.range k).map fun k : Nat => (k : Int)) ∧
  zow [x0, some (.v (wD ps ts)), some (.v (.tuple (L.map tI))), x3, x4, x5, some (.v (.int (k : Int))), x7] = some (.t (.lst (hs.map .int)), [x0, some (.v (wD ps ts)), some (.v (.tuple (L.map tI))), x3, x4, x5, some (.v (.int (k : Int))), x7]) := by
 obtain ⟨lk, _, ek⟩ := zov (L := L) (i := (k : Int)) (by omega) (by omega)
 let p : Int → Bool := fun h => match atI (L.map tI) h with
  | some (.tuple ds) => !(ts.filter (btw (ds.map unI) lk)).isEmpty
  | _ => false
 have unI_map : ∀ ns : List Int, (ns.map PyData.int).map unI = ns := fun ns => by rw [List.map_map]; exact List.map_id ns
 obtain ⟨y, e⟩ := zbJ (ft := zbk (vB (eqM true) (vFn FF.zaA (zaa (zac 1) (zaa (vIx (zac 2) (zac 0)) (zab (vIx (zac 2) (zac 3)))))) (zcF zbS))) (fe := zac 0) (cs := [some (.v (wD ps ts)), some (.v (.tuple (L.map tI))), some (.v (.int (k : Int)))]) (p := p) (f := .int) ((List.range k).map fun k : Nat => (k : Int)) [] none (fun h hm => by
  obtain ⟨i, hi, rfl⟩ := List.mem_map.mp hm
  have hi := List.mem_range.mp hi
  obtain ⟨lh, _, eh⟩ := zov (L := L) (i := (i : Int)) (by omega) (by omega)
  have eb := between ps ts lh lk hl
  have en := zml true (ts.filter (btw lh lk))
  have hp : p (i : Int) = !(ts.filter (btw lh lk)).isEmpty := by
   show (match atI (L.map tI) (i : Int) with
    | some (.tuple ds) => !(ts.filter (btw (ds.map unI) lk)).isEmpty
    | _ => false) = _
   rw [eh]
   show (!(ts.filter (btw ((lh.map PyData.int).map unI) lk)).isEmpty) = _
   rw [unI_map]
  rw [hp]
  generalize ts.filter (btw lh lk) = tb at *
  generalize wD ps ts = W at *
  generalize L.map tI = LD at *
  refine ⟨?_, .t (.v (.int (i : Int))), rfl, rfl⟩
  simp [eh, ek, eb, en, lim]) (by rw [List.length_nil, List.length_map, List.length_range]; unfold lim; omega)
 rw [List.nil_append] at e
 refine ⟨((List.range k).map fun k : Nat => (k : Int)).filter p, List.filter_sublist, ?_⟩
 have hsm : zbq (k : Int) = true := decide_eq_true (by unfold ziE; omega)
 generalize wD ps ts = W at *
 rw [← zgF] at e
 have ei : zbf zd4 (zab (zac 6)) [x0, some (.v W), some (.v (.tuple (L.map tI))), x3, x4, x5, some (.v (.int (k : Int))), x7] = some (zaK 0 (k : Int), [x0, some (.v W), some (.v (.tuple (L.map tI))), x3, x4, x5, some (.v (.int (k : Int))), x7]) := by simp [hsm]
 show (zbf zd4 (zab (zac 6)) [x0, some (.v W), some (.v (.tuple (L.map tI))), x3, x4, x5, some (.v (.int (k : Int))), x7]).bind _ = _
 rw [ei]
 show (zaY (zad 0) (zbk (vB (eqM true) (vFn FF.zaA (zaa (zac 1) (zaa (vIx (zac 2) (zac 0)) (zab (vIx (zac 2) (zac 3)))))) (zcF zbS))) (zac 0) (zaK 0 (k : Int)) [none, some (.v W), some (.v (.tuple (L.map tI))), some (.v (.int (k : Int)))] []).bind _ = _
 rw [e]
 rfl
abbrev zmw : FT := zbk (vB (eqM false) (vFn FF.zai (zaa (zac 3) (zab (zac 4)))) (vC (.int 0)))
abbrev zmx : FE := zco (zaa (vIx (zac 1) (zac 0)) (zab (vIx (zac 1) (zac 2))))
theorem zkc {B : Nat} {l : List PyData} {nm hs : List Int} {k often : Int} (h : Hd B l) (hB : B + hs.length ≤ 100000) (ho : 0 < often) (ho2 : often < 1000) (hk : 0 ≤ k ∧ k < nm.length) (hhs : ∀ x ∈ hs, 0 ≤ x ∧ x < nm.length) : ∃ (l' : List PyData) (acc : List Int) (y : Option M), Hd (B + hs.length) l' ∧ acc.Sublist hs ∧
  zaY (zad 0) zmw zmx (hs.map .int) [none, some (.v (tI nm)), some (.v (.int k)), some (.lst l), some (.v (.int often))] [] = some (acc.map (fun x => pD (zcq nm x, zcq nm k)), [y, some (.v (tI nm)), some (.v (.int k)), some (.lst l'), some (.v (.int often))]) := by
 obtain ⟨acc, ρ', e, done, acc', l', y, rs, hr, h1, h2, ⟨h3, rfl⟩, rfl⟩ := zdL (fg := zad 0) (ft := zmw) (fe := zmx) (P := fun rest acc ρ => ∃ (done acc' : List Int) (l' : List PyData) (y : Option M), ∃ rs : List Int, rest = rs.map .int ∧ done ++ rs = hs ∧ acc'.Sublist done ∧ (Hd (B + done.length) l' ∧ acc = acc'.map (fun x => pD (zcq nm x, zcq nm k))) ∧ ρ = [y, some (.v (tI nm)), some (.v (.int k)), some (.lst l'), some (.v (.int often))])
  (hs.map .int) _ [] ⟨[], [], l, none, hs, rfl, rfl, List.Sublist.refl _, ⟨h, rfl⟩, rfl⟩ (fun d rest acc ρ hP => by
   obtain ⟨done, acc', l', y, rs, hr, h1, h2, ⟨h3, rfl⟩, rfl⟩ := hP
   cases rs with
   | nil => cases hr
   | cons r rs =>
    rw [List.map_cons] at hr
    injection hr with hd hr
    subst hd hr
    have hlen : done.length + (rs.length + 1) = hs.length := by rw [← h1, List.length_append, List.length_cons]
    have hrm : r ∈ hs := by rw [← h1]; exact lR _ lS
    obtain ⟨v, l2, v0, v1, hl2, et⟩ := take (m := often) h3 (by omega) ho (by omega)
    have g1 := (zbP (ps := nm) (i := r) (hhs r hrm).1 (hhs r hrm).2).1
    have g2 := (zbP (ps := nm) (i := k) hk.1 hk.2).1
    have g1 : getM (.v (tI nm)) (.v (.int r)) = some (.v (.int (zcq nm r))) := by show (atI (nm.map PyData.int) r).bind _ = _; rw [g1]; rfl
    have g2 : getM (.v (tI nm)) (.v (.int k)) = some (.v (.int (zcq nm k))) := by show (atI (nm.map PyData.int) k).bind _ = _; rw [g2]; rfl
    have ha : acc'.length ≤ done.length := h2.length_le
    have hl2' : Hd (B + (done ++ [r]).length) l2 := by rw [List.length_append, List.length_singleton]; exact hl2
    refine ⟨by rw [List.length_map]; unfold lim; omega, [some (.v (.int r)), some (.v (tI nm)), some (.v (.int k)), some (.lst l'), some (.v (.int often))], decide (v = 0), [some (.v (.int r)), some (.v (tI nm)), some (.v (.int k)), some (.lst l2), some (.v (.int often))], by simp, by simp [zmw, et], ?_⟩
    by_cases hv : v = 0
    ·right
     refine ⟨by simp [hv], .t (.v (pD (zcq nm r, zcq nm k))), [some (.v (.int r)), some (.v (tI nm)), some (.v (.int k)), some (.lst l2), some (.v (.int often))], pD (zcq nm r, zcq nm k), _, by simp [zmx, g1, g2, lim], rfl, done ++ [r], acc' ++ [r], l2, _, rs, rfl, by rw [List.append_assoc]; exact h1, List.Sublist.append h2 (List.Sublist.refl _), ⟨hl2', by rw [List.map_append]; rfl⟩, rfl⟩
    ·left
     exact ⟨by simp [hv], done ++ [r], acc', l2, _, rs, rfl, by rw [List.append_assoc]; exact h1, h2.trans (List.sublist_append_left _ _), ⟨hl2', rfl⟩, rfl⟩)
 have hrs : rs = [] := by
  cases rs with
  | nil => rfl
  | cons _ _ => cases hr
 subst hrs
 rw [List.append_nil] at h1
 subst h1
 exact ⟨l', acc', y, h3, h2, e⟩
end PQ
end
section
namespace PQ
open PySem L2 VL PA
def zox : List (Int × Int) := (List.range 9).flatMap fun (j : Nat) => (List.range j).map fun (i : Nat) => ((i : Int), (j : Int))
theorem zji : zox.length = 36 := by decide +kernel
theorem zjj {t : Int × Int} (h0 : 0 ≤ t.1) (h1 : t.1 < t.2) (h2 : t.2 < 9) : t ∈ zox := by
 obtain ⟨a, b⟩ := t
 simp only at h0 h1 h2
 obtain ⟨i, rfl⟩ := Int.eq_ofNat_of_zero_le h0
 obtain ⟨j, rfl⟩ := Int.eq_ofNat_of_zero_le (show 0 ≤ b by omega)
 exact List.mem_flatMap.mpr ⟨j, List.mem_range.mpr (by omega), List.mem_map.mpr ⟨i, List.mem_range.mpr (by omega), rfl⟩⟩
structure Ixs (k : Nat) (ixs : List (Int × Int)) : Prop where
 nd : ixs.Nodup
 bd : ∀ t ∈ ixs, 0 ≤ t.1 ∧ t.1 < t.2 ∧ t.2 < k
theorem Ixs.len {k : Nat} {ixs : List (Int × Int)} (h : Ixs k ixs) (hk : k ≤ 9) : ixs.length ≤ 36 := by
 rw [← zji]
 exact h.nd.length_le_of_subset fun t ht => zjj (h.bd t ht).1 (h.bd t ht).2.1 (by have := (h.bd t ht).2.2; omega)
abbrev nmT (nm : List Int) (t : Int × Int) : Int × Int := (zcq nm t.1, zcq nm t.2)
abbrev zoy : FS := za2 (zbL 7 zow) (zbX (zkH 4 (zab (zei 1 [3, 6, 0, 5] 7 (zad 0) zmw zmx))))
theorem told1 {B k : Nat} {l : List PyData} {ps nm : List Int} {ts ixs : List (Int × Int)} {L : List (List Int)} {often : Int} (h : Hd B l) (hB : B ≤ 50000) (ho : 0 < often) (ho2 : often < 1000) (hk : k < L.length) (hL : L.length ≤ 9) (hn : nm.length = L.length) (hl : ts.length ≤ 1000) (hI : Ixs k ixs) (x7 : Option M) : ∃ (l' : List PyData) (ixs' : List (Int × Int)) (y7 : Option M), Hd (B + 9) l' ∧ Ixs (k + 1) ixs' ∧
  zoy [some (.lst l), some (.v (wD ps ts)), some (.v (.tuple (L.map tI))), some (.v (tI nm)), some (.lst ((ixs.map (nmT nm)).map pD)), some (.v (.int often)), some (.v (.int (k : Int))), x7] = some (.nx [some (.lst l'), some (.v (wD ps ts)), some (.v (.tuple (L.map tI))), some (.v (tI nm)), some (.lst ((ixs'.map (nmT nm)).map pD)), some (.v (.int often)), some (.v (.int (k : Int))), y7]) := by
 obtain ⟨hs, hsub, e1⟩ := zeN ps ts L k hk (by omega) hl (some (.lst l)) (some (.v (tI nm))) (some (.lst ((ixs.map (nmT nm)).map pD))) (some (.v (.int often))) x7
 have hlen : hs.length ≤ k := by have := hsub.length_le; rw [List.length_map, List.length_range] at this; exact this
 have hmem : ∀ x ∈ hs, 0 ≤ x ∧ x < k := fun x hx => by
  obtain ⟨i, hi, rfl⟩ := List.mem_map.mp (hsub.subset hx)
  have := List.mem_range.mp hi
  omega
 have hnd : hs.Nodup := by
  refine List.Nodup.sublist hsub ?_
  unfold List.Nodup
  rw [List.pairwise_map]
  exact List.pairwise_lt_range.imp fun {a b} h => by omega
 obtain ⟨l2, acc, y, hl2, hacc, e2⟩ := zkc (nm := nm) (hs := hs) (k := (k : Int)) (often := often) h (by omega) ho ho2 ⟨by omega, by omega⟩ (fun x hx => by have := hmem x hx; omega)
 refine ⟨l2, ixs ++ acc.map (fun x => (x, (k : Int))), some (.lst (hs.map .int)), hl2.mono (by omega), ⟨?_, fun t ht => ?_⟩, ?_⟩
 ·rw [List.nodup_append]
  refine ⟨hI.nd, ?_, fun u hu v hv e => ?_⟩
  ·unfold List.Nodup
   rw [List.pairwise_map]
   exact List.Pairwise.imp (fun {a b} h e => h (congrArg Prod.fst e)) (hnd.sublist hacc)
  ·obtain ⟨x, _, rfl⟩ := List.mem_map.mp hv
   have := hI.bd u hu
   rw [e] at this
   simp at this
 ·rcases lM ht with q | q
  ·have := hI.bd t q
   exact ⟨this.1, this.2.1, by omega⟩
  ·obtain ⟨x, hx, rfl⟩ := List.mem_map.mp q
   have := hmem x (hacc.subset hx)
   exact ⟨this.1, this.2, by simp only; omega⟩
 ·have hlim : ((ixs.map (nmT nm)).map pD).length + (acc.map (fun x => pD (zcq nm x, zcq nm (k : Int)))).length ≤ lim := by
   have := hI.len (by omega)
   have := hacc.length_le
   rw [List.length_map, List.length_map, List.length_map]
   unfold lim
   omega
  have emap : ((ixs ++ acc.map (fun x => (x, (k : Int)))).map (nmT nm)).map pD = (ixs.map (nmT nm)).map pD ++ acc.map (fun x => pD (zcq nm x, zcq nm (k : Int))) := by
   rw [List.map_append, List.map_append, List.map_map (l := acc), List.map_map (l := acc)]
   rfl
  rw [emap]
  generalize ixs.map (nmT nm) = T at *
  generalize acc.map (fun x => pD (zcq nm x, zcq nm (k : Int))) = A at *
  generalize wD ps ts = W at *
  generalize L.map tI = LD at *
  generalize T.map pD = TD at *
  refine (zaq (ρ1 := [some (.lst l), some (.v W), some (.v (.tuple LD)), some (.v (tI nm)), some (.lst TD), some (.v (.int often)), some (.v (.int (k : Int))), some (.lst (hs.map .int))]) (by rw [ze8, e1]; simp)).trans ?_
  have eo : zei 1 [3, 6, 0, 5] 7 (zad 0) zmw zmx [some (.lst l), some (.v W), some (.v (.tuple LD)), some (.v (tI nm)), some (.lst TD), some (.v (.int often)), some (.v (.int (k : Int))), some (.lst (hs.map .int))] = some (.t (.lst A), [some (.lst l2), some (.v W), some (.v (.tuple LD)), some (.v (tI nm)), some (.lst TD), some (.v (.int often)), some (.v (.int (k : Int))), some (.lst (hs.map .int))]) := by
   refine (zdN rfl (by decide)).trans ?_
   show (zaY (zad 0) zmw zmx (hs.map .int) [none, some (.v (tI nm)), some (.v (.int (k : Int))), some (.lst l), some (.v (.int often))] []).bind _ = _
   rw [e2]
   rfl
  rw [zjX, zmg]
  simp [eo, hlim]
theorem told {B : Nat} {l : List PyData} {ps : List Int} {ts : List (Int × Int)} {L : List (List Int)} (h : Hd B l) (hB : B ≤ 40000) (w : zmf ps ts) (hL : L.length ≤ 9) : ∃ (l' : List PyData) (nm : List Int) (T : List (Int × Int)), Hd (B + 200) l' ∧ nm.length = L.length ∧ nm.Pairwise (· < ·) ∧ (∀ p ∈ nm, 0 ≤ p ∧ p ≤ 99) ∧ T.Pairwise ltP ∧ (∀ t ∈ T, t.1 < t.2 ∧ t.1 ∈ nm ∧ t.2 ∈ nm) ∧ T.length ≤ 36 ∧
  FF.zax [.lst l, .v (wD ps ts), .v (.tuple (L.map tI))] = some (.v (wD nm T), [.lst l', .v (wD ps ts), .v (.tuple (L.map tI))]) := by
 obtain ⟨l1, nm, hnl, rise, rng, hl1, e1⟩ := places (n := L.length) h (by omega) (by omega)
 obtain ⟨often, l2, hof, hl2, e2⟩ := zgD (ns := [1, 2, 4]) hl1 (by omega) (by decide) (by decide)
 have hof' : 0 < often ∧ often < 1000 := by
  simp only [List.mem_cons, List.not_mem_nil, or_false] at hof
  omega
 have hlen := w.len
 obtain ⟨ρ', e3, k, l3, ixs, y6, y7, hk, hkl, hl3, hI, rfl⟩ := zcC (fg := zad 6) (fb := zoy) (P := fun rest ρ => ∃ (k : Nat) (l' : List PyData) (ixs : List (Int × Int)) (y6 y7 : Option M), rest = ((List.range L.length).drop k).map (fun k : Nat => PyData.int (0 + (k : Int))) ∧ k ≤ L.length ∧ Hd (B + 3 + 9 * k) l' ∧ Ixs k ixs ∧ ρ = [some (.lst l'), some (.v (wD ps ts)), some (.v (.tuple (L.map tI))), some (.v (tI nm)), some (.lst ((ixs.map (nmT nm)).map pD)), some (.v (.int often)), y6, y7])
  (zaK 0 (L.length : Int)) [some (.lst l2), some (.v (wD ps ts)), some (.v (.tuple (L.map tI))), some (.v (tI nm)), some (.lst []), some (.v (.int often)), none, none] ⟨0, l2, [], none, none, by rw [zbj]; rfl, Nat.zero_le _, hl2, ⟨List.nodup_nil, fun t ht => by simp at ht⟩, rfl⟩ (fun d rest ρ hP => by
   obtain ⟨k, l', ixs, y6, y7, hk, hkl, hl, hI, rfl⟩ := hP
   obtain ⟨x, hx, rfl, hr'⟩ := zb3 hk
   obtain ⟨rfl, hkn⟩ := zeb hx
   obtain ⟨l3, ixs', z7, h3, hI3, e⟩ := told1 (k := x) (ps := ps) (nm := nm) (ts := ts) (ixs := ixs) (L := L) (often := often) hl (by omega) hof'.1 hof'.2 hkn hL hnl (by omega) hI y7
   refine ⟨[some (.lst l'), some (.v (wD ps ts)), some (.v (.tuple (L.map tI))), some (.v (tI nm)), some (.lst ((ixs.map (nmT nm)).map pD)), some (.v (.int often)), some (.v (.int (x : Int))), y7], _, by simp, e, x + 1, l3, ixs', _, z7, hr', by omega, h3.mono (by omega), hI3, rfl⟩)
 have hkL : k = L.length := by
  have := congrArg List.length hk
  rw [List.length_nil, List.length_map, List.length_drop, List.length_range] at this
  omega
 subst hkL
 have hT36 : (ixs.map (nmT nm)).length ≤ 36 := by rw [List.length_map]; exact hI.len hL
 have ndT : (ixs.map (nmT nm)).Nodup := by
  unfold List.Nodup
  rw [List.pairwise_map]
  refine List.Pairwise.imp_of_mem (fun {a b} ha hb hab e => ?_) hI.nd
  have ba := hI.bd a ha
  have bb := hI.bd b hb
  have inj : ∀ {i j : Int}, 0 ≤ i → i < nm.length → 0 ≤ j → j < nm.length → zcq nm i = zcq nm j → i = j := fun {i j} hi hi' hj hj' h => by
   rcases Int.lt_trichotomy i j with q | q | q
   ·have := zdl rise hi q hj'; omega
   ·exact q
   ·have := zdl rise hj q hi'; omega
  have e1 := inj ba.1 (by omega) bb.1 (by omega) (congrArg Prod.fst e)
  have e2 := inj (by omega) (by omega) (by omega) (by omega) (congrArg Prod.snd e)
  exact hab (Prod.ext e1 e2)
 have es := zcE (ts := ixs.map (nmT nm)) (by omega)
 have pm := zbY (ixs.map (nmT nm))
 refine ⟨l3, nm, zcD (ixs.map (nmT nm)), hl3.mono (by omega), hnl, rise, rng, zdk ndT, fun t ht => ?_, by rw [pm.length_eq]; exact hT36, ?_⟩
 ·obtain ⟨u, hu, rfl⟩ := List.mem_map.mp (pm.mem_iff.mp ht)
  have b := hI.bd u hu
  exact ⟨zdl rise b.1 b.2.1 (by omega), (zbP b.1 (by omega)).2, (zbP (by omega) (by omega)).2⟩
 ·have e2 : FF.zag [.lst l1, .lst [.int 1, .int 2, .int 4]] = some (.v (.int often), [.lst l2, .lst [.int 1, .int 2, .int 4]]) := e2
  have hsm : zbq (L.length : Int) = true := decide_eq_true (by unfold ziE; omega)
  have hln : zd1 [.v (.tuple (L.map tI))] = some (.v (.int (L.length : Int))) := by rw [zgx, List.length_map]
  refine zbs (ρ := [some (.lst l3), some (.v (wD ps ts)), some (.v (.tuple (L.map tI))), some (.v (tI nm)), some (.lst ((ixs.map (nmT nm)).map pD)), some (.v (.int often)), y6, y7]) rfl ?_ rfl
  show FF.zbp [some (.lst l), some (.v (wD ps ts)), some (.v (.tuple (L.map tI))), none, none, none, none, none] = _
  generalize ixs.map (nmT nm) = T at *
  generalize hn : (L.length : Int) = n at *
  generalize wD ps ts = W at *
  generalize hLD : PyData.tuple (L.map tI) = LD at *
  refine (zaq (ρ1 := [some (.lst l1), some (.v W), some (.v LD), some (.v (tI nm)), some (.lst []), none, none, none]) (by simp [hln, e1, lim, -zgx])).trans ?_
  refine (zaq (ρ1 := [some (.lst l2), some (.v W), some (.v LD), some (.v (tI nm)), some (.lst []), some (.v (.int often)), none, none]) (by simp [e2, lim])).trans ?_
  refine (zaq (ρ1 := [some (.lst l3), some (.v W), some (.v LD), some (.v (tI nm)), some (.lst (T.map pD)), some (.v (.int often)), y6, y7]) ?_).trans ?_
  ·rw [zcf]
   have ei : zbf zd4 (zab (vCB zd1 (zab (zac 2)))) [some (.lst l2), some (.v W), some (.v LD), some (.v (tI nm)), some (.lst []), some (.v (.int often)), none, none] = some (zaK 0 n, [some (.lst l2), some (.v W), some (.v LD), some (.v (tI nm)), some (.lst []), some (.v (.int often)), none, none]) := by simp [hln, hsm, -zgx]
   rw [ei]
   exact e3
  ·simp [es, lim]
end PQ
end
section
namespace PQ
open PySem L2 VL PA
theorem zcj {α : Type} {u v : α → PyData} {ft : FT} {fe : FE} {cs : Ev} {p : α → Bool} {f : α → PyData} : ∀ (ts : List α) (acc : List PyData) (x y : Option M), (∀ t ∈ ts, ft (some (.v (u t)) :: some (.v (v t)) :: cs) = some (p t, some (.v (u t)) :: some (.v (v t)) :: cs) ∧ ∃ o, fe (some (.v (u t)) :: some (.v (v t)) :: cs) = some (o, some (.v (u t)) :: some (.v (v t)) :: cs) ∧ zcA o (some (.v (u t)) :: some (.v (v t)) :: cs) = some (f t, some (.v (u t)) :: some (.v (v t)) :: cs)) → acc.length + ts.length ≤ lim →
  ∃ x' y', zaY (zbb 2 (zam (zad 0) (zam (zad 1) zbe))) ft fe (ts.map fun t => .tuple [u t, v t]) (x :: y :: cs) acc = some (acc ++ (ts.filter p).map f, x' :: y' :: cs)
 | [], acc, x, y, _, _ => ⟨x, y, by simp [zaY]⟩
 | t :: ts, acc, x, y, h, hl => by
  obtain ⟨e0, o, e1, e2⟩ := h t lS
  rw [List.length_cons] at hl
  have hg : zbb 2 (zam (zad 0) (zam (zad 1) zbe)) (.tuple [u t, v t]) (x :: y :: cs) = some (some (.v (u t)) :: some (.v (v t)) :: cs) := by simp
  by_cases hp : p t = true
  ·obtain ⟨x', y', e3⟩ := zcj (u := u) (v := v) (ft := ft) (fe := fe) (cs := cs) (p := p) (f := f) ts (acc ++ [f t]) (some (.v (u t))) (some (.v (v t))) (fun d hd => h d (lO _ hd)) (by rw [List.length_append, List.length_singleton]; omega)
   refine ⟨x', y', ?_⟩
   rw [List.filter_cons, if_pos hp, List.map_cons]
   show (zbb 2 (zam (zad 0) (zam (zad 1) zbe)) (.tuple [u t, v t]) (x :: y :: cs)).bind _ = _
   rw [hg]
   show (ft _).bind _ = _
   rw [e0, hp]
   show (fe _).bind _ = _
   rw [e1]
   show (zcA o _).bind _ = _
   rw [e2]
   show (if acc.length < lim then _ else _) = _
   rw [if_pos (by omega)]
   rw [show zaY (zbb 2 (zam (zad 0) (zam (zad 1) zbe))) ft fe (ts.map fun t => .tuple [u t, v t]) (some (.v (u t)) :: some (.v (v t)) :: cs) (acc ++ [f t]) = _ from e3, List.map_cons, List.append_assoc]
   rfl
  ·have hp' : p t = false := by simpa using hp
   obtain ⟨x', y', e3⟩ := zcj (u := u) (v := v) (ft := ft) (fe := fe) (cs := cs) (p := p) (f := f) ts acc (some (.v (u t))) (some (.v (v t))) (fun d hd => h d (lO _ hd)) (by omega)
   refine ⟨x', y', ?_⟩
   rw [List.filter_cons, if_neg hp]
   show (zbb 2 (zam (zad 0) (zam (zad 1) zbe)) (.tuple [u t, v t]) (x :: y :: cs)).bind _ = _
   rw [hg]
   show (ft _).bind _ = _
   rw [e0, hp']
   exact e3
abbrev zej := List (Int × List Int)
abbrev nms (Z : zej) : List Int := Z.map (·.1)
abbrev lts (Z : zej) : List (List Int) := Z.map (·.2)
abbrev lD (Z : zej) : PyData := .tuple ((lts Z).map tI)
theorem zkd : ∀ Z : zej, zms [.v (tI (nms Z)), .v (lD Z)] = some (Z.map fun z => .tuple [.int z.1, tI z.2]) := fun Z => by
 show some (List.zipWith (fun x y => PyData.tuple [x, y]) ((nms Z).map .int) ((lts Z).map tI)) = _
 congr 1
 induction Z with
 | nil => rfl
 | cons z Z ih =>
  show PyData.tuple [.int z.1, tI z.2] :: List.zipWith (fun x y => PyData.tuple [x, y]) ((nms Z).map .int) ((lts Z).map tI) = _
  rw [ih, List.map_cons]
def zbM : zej → Int → List Int
 | [], _ => []
 | z :: Z, h => if z.1 = h then z.2 else zbM Z h
abbrev dL (Z : zej) : List (Key × PyData) := Z.map fun z => (Sum.inl z.1, tI z.2)
theorem zed : ∀ {Z : zej} {h : Int}, h ∈ nms Z → zdY (dL Z) (.inl h) = some (tI (zbM Z h))
 | [], _, h => by simp at h
 | z :: Z, x, h => by
  unfold zdY
  show ((((Sum.inl z.1 : Key), tI z.2) :: dL Z).find? _).map _ = _
  rw [List.find?_cons]
  by_cases e : z.1 = x
  ·rw [show decide ((Sum.inl z.1 : Key) = .inl x) = true by simp [e]]
   unfold zbM
   rw [if_pos e]
   rfl
  ·rw [show decide ((Sum.inl z.1 : Key) = .inl x) = false by simp [e]]
   unfold zbM
   rw [if_neg e]
   have h' : x ∈ nms Z := by
    rcases lK h with q | q
    ·exact absurd q.symm e
    ·exact q
   exact zed (Z := Z) h'
theorem zck : ∀ {Z : zej} {z : Int × List Int}, (nms Z).Pairwise (· < ·) → z ∈ Z → zbM Z z.1 = z.2
 | [], _, _, h => by simp at h
 | y :: Z, z, r, h => by
  unfold zbM
  rcases lK h with q | q
  ·rw [q, if_pos rfl]
  ·have hlt : y.1 < z.1 := (List.pairwise_cons.mp r).1 z.1 (List.mem_map.mpr ⟨z, q, rfl⟩)
   rw [if_neg (by omega)]
   exact zck (List.pairwise_cons.mp r).2 q
theorem zmm {Z : zej} (r : (nms Z).Pairwise (· < ·)) : dzM [.v (tI (nms Z)), .v (lD Z)] = some (.dic (dL Z)) := by
 show (zfc ((nms Z).map .int)).bind _ = _
 rw [zeK, Option.bind_some, zou]
 ·congr 2
  clear r
  induction Z with
  | nil => rfl
  | cons z Z ih =>
   show ((Sum.inl z.1 : Key), tI z.2) :: ((nms Z).map Sum.inl).zip ((lts Z).map tI) = ((Sum.inl z.1 : Key), tI z.2) :: dL Z
   rw [ih]
 ·unfold List.Nodup
  rw [List.pairwise_map]
  exact r.imp fun {a b} h e => by have := Sum.inl.inj e; omega
theorem zgG {α : Type} {R : α → α → Prop} (irr : ∀ a, ¬ R a a) (tr : ∀ a b, R a b → R b a → False) : ∀ {xs ys : List α}, xs.Pairwise R → ys.Pairwise R → (∀ a, a ∈ xs ↔ a ∈ ys) → xs = ys
 | [], [], _, _, _ => rfl
 | [], y :: _, _, _, h => by have := (h y).mpr lS; simp at this
 | x :: _, [], _, _, h => by have := (h x).mp lS; simp at this
 | x :: xs, y :: ys, hx, hy, h => by
  obtain ⟨x1, x2⟩ := List.pairwise_cons.mp hx
  obtain ⟨y1, y2⟩ := List.pairwise_cons.mp hy
  have e : x = y := by
   rcases lK ((h x).mp lS) with q | q
   ·exact q
   ·rcases lK ((h y).mpr lS) with q' | q'
    ·exact q'.symm
    ·exact (tr _ _ (y1 x q) (x1 y q')).elim
  subst e
  congr 1
  refine zgG irr tr x2 y2 fun a => ?_
  have ha := h a
  rw [List.mem_cons, List.mem_cons] at ha
  constructor
  ·intro m
   rcases ha.mp (.inr m) with q | q
   ·exact (irr x (q ▸ x1 a m)).elim
   ·exact q
  ·intro m
   rcases ha.mpr (.inr m) with q | q
   ·exact (irr x (q ▸ y1 a m)).elim
   ·exact q
theorem zff (a : Int × Int) : ¬ ltP a a := by unfold ltP; omega
theorem zke (a b : Int × Int) : ltP a b → ltP b a → False := by unfold ltP; omega
def upP : List Int → List (Int × Int)
 | [] => []
 | a :: as => as.map (fun b => (a, b)) ++ upP as
theorem zjk : ∀ {nm : List Int} {p : Int × Int}, nm.Pairwise (· < ·) → p.1 ∈ nm → p.2 ∈ nm → p.1 < p.2 → p ∈ upP nm
 | [], _, _, h, _, _ => by simp at h
 | a :: as, p, r, h1, h2, hlt => by
  obtain ⟨r1, r2⟩ := List.pairwise_cons.mp r
  unfold upP
  rw [List.mem_append]
  have h2' : p.2 ∈ as := by
   rcases lK h2 with q | q
   ·exfalso
    rcases lK h1 with q' | q'
    ·omega
    ·have := r1 _ q'; omega
   ·exact q
  rcases lK h1 with q | q
  ·left
   exact List.mem_map.mpr ⟨p.2, h2', by rw [← q]⟩
  ·right
   exact zjk r2 q h2' hlt
theorem zjl : ∀ nm : List Int, 2 * (upP nm).length = nm.length * (nm.length - 1)
 | [] => rfl
 | a :: as => by
  have ih := zjl as
  unfold upP
  rw [List.length_append, List.length_map, Nat.mul_add, ih, List.length_cons]
  generalize as.length = n
  cases n with
  | zero => rfl
  | succ n => rw [Nat.add_sub_cancel, Nat.add_sub_cancel, Nat.mul_comm 2, ← Nat.mul_add, Nat.mul_comm, Nat.add_comm 2]
theorem pairs_len {nm : List Int} {ts : List (Int × Int)} (r : nm.Pairwise (· < ·)) (hl : nm.length ≤ 9) (nd : ts.Nodup) (h : ∀ t ∈ ts, t.1 < t.2 ∧ t.1 ∈ nm ∧ t.2 ∈ nm) : ts.length ≤ 36 := by
 have h1 := nd.length_le_of_subset (l₂ := upP nm) fun t ht => zjk r (h t ht).2.1 (h t ht).2.2 (h t ht).1
 have h2 := zjl nm
 have h3 : nm.length * (nm.length - 1) ≤ 9 * 8 := Nat.mul_le_mul hl (by omega)
 omega
def zbv (Z : zej) (t : Int × Int) : List Int := (Z.filter fun z => decide (t.1 ∈ z.2) || decide (t.2 ∈ z.2)).map (·.1)
def jn (A B : List Int) (t : Int × Int) : Bool := (decide (t.1 ∈ A) && decide (t.2 ∈ B)) || (decide (t.1 ∈ B) && decide (t.2 ∈ A))
structure zdA (Z : zej) : Prop where
 rise : (nms Z).Pairwise (· < ·)
 apart : Z.Pairwise fun a b => ∀ x ∈ a.2, x ∉ b.2
theorem zdA.one {Z : zej} (h : zdA Z) {y z : Int × List Int} (hy : y ∈ Z) (hz : z ∈ Z) {x : Int} (h1 : x ∈ y.2) (h2 : x ∈ z.2) : y = z := by
 obtain ⟨r, ap⟩ := h
 clear r
 induction Z with
 | nil => simp at hy
 | cons w Z ih =>
  obtain ⟨a1, a2⟩ := List.pairwise_cons.mp ap
  rcases lK hy with q | q <;> rcases lK hz with q' | q'
  ·rw [q, q']
  ·subst q; exact (a1 z q' x h1 h2).elim
  ·subst q'; exact (a1 y q x h2 h1).elim
  ·exact ih q q' a2
theorem zjm (Z : zej) (t : Int × Int) : (zbv Z t).Sublist (nms Z) := List.Sublist.map _ List.filter_sublist
theorem zc3 {Z : zej} (h : zdA Z) (t p : Int × Int) : zbv Z t = [p.1, p.2] ↔ p.1 ∈ nms Z ∧ p.2 ∈ nms Z ∧ p.1 < p.2 ∧ jn (zbM Z p.1) (zbM Z p.2) t = true := by
 constructor
 ·intro e
  have sub := zjm Z t
  rw [e] at sub
  have hlt : p.1 < p.2 := by
   have := h.rise.sublist sub
   exact (List.pairwise_cons.mp this).1 _ lS
  have m1 : p.1 ∈ nms Z := sub.subset lS
  have m2 : p.2 ∈ nms Z := sub.subset (by simp)
  refine ⟨m1, m2, hlt, ?_⟩
  have n1 : p.1 ∈ zbv Z t := by rw [e]; exact lS
  have n2 : p.2 ∈ zbv Z t := by rw [e]; simp
  obtain ⟨z1, hz1, e1⟩ := List.mem_map.mp n1
  obtain ⟨z2, hz2, e2⟩ := List.mem_map.mp n2
  obtain ⟨hz1, q1⟩ := List.mem_filter.mp hz1
  obtain ⟨hz2, q2⟩ := List.mem_filter.mp hz2
  rw [← e1, ← e2, zck h.rise hz1, zck h.rise hz2]
  have ne : z1 ≠ z2 := fun q => by rw [q] at e1; omega
  simp only [Bool.or_eq_true, decide_eq_true_eq] at q1 q2
  unfold jn
  simp only [Bool.or_eq_true, Bool.and_eq_true, decide_eq_true_eq]
  rcases q1 with q1 | q1 <;> rcases q2 with q2 | q2
  ·exact absurd (h.one hz1 hz2 q1 q2) ne
  ·exact .inl ⟨q1, q2⟩
  ·exact .inr ⟨q2, q1⟩
  ·exact absurd (h.one hz1 hz2 q1 q2) ne
 ·rintro ⟨m1, m2, hlt, hj⟩
  obtain ⟨z1, hz1, e1⟩ := List.mem_map.mp m1
  obtain ⟨z2, hz2, e2⟩ := List.mem_map.mp m2
  rw [← e1, ← e2, zck h.rise hz1, zck h.rise hz2] at hj
  unfold jn at hj
  simp only [Bool.or_eq_true, Bool.and_eq_true, decide_eq_true_eq] at hj
  refine zgG (R := fun a b : Int => a < b) (fun a => Int.lt_irrefl a) (fun a b h1 h2 => by omega) (h.rise.sublist (zjm Z t)) (by simp only [List.pairwise_cons, List.mem_singleton, forall_eq, List.not_mem_nil, false_implies, implies_true, List.Pairwise.nil, and_true]; exact hlt) fun a => ?_
  have hf : ∀ z, z ∈ Z.filter (fun z => decide (t.1 ∈ z.2) || decide (t.2 ∈ z.2)) ↔ z = z1 ∨ z = z2 := fun z => by
   rw [List.mem_filter]
   simp only [Bool.or_eq_true, decide_eq_true_eq]
   constructor
   ·rintro ⟨hz, q⟩
    rcases hj with ⟨j1, j2⟩ | ⟨j1, j2⟩ <;> rcases q with q | q
    ·exact .inl (h.one hz hz1 q j1)
    ·exact .inr (h.one hz hz2 q j2)
    ·exact .inr (h.one hz hz2 q j1)
    ·exact .inl (h.one hz hz1 q j2)
   ·rintro (rfl | rfl)
    ·exact ⟨hz1, by rcases hj with ⟨j1, j2⟩ | ⟨j1, j2⟩; exact .inl j1; exact .inr j2⟩
    ·exact ⟨hz2, by rcases hj with ⟨j1, j2⟩ | ⟨j1, j2⟩; exact .inr j2; exact .inl j1⟩
  constructor
  ·intro m
   obtain ⟨z, hz, rfl⟩ := List.mem_map.mp m
   rcases (hf z).mp hz with rfl | rfl
   ·rw [e1]; exact lS
   ·rw [e2]; simp
  ·intro m
   simp only [List.mem_cons, List.not_mem_nil, or_false] at m
   rcases m with rfl | rfl
   ·exact List.mem_map.mpr ⟨z1, (hf z1).mpr (.inl rfl), e1⟩
   ·exact List.mem_map.mpr ⟨z2, (hf z2).mpr (.inr rfl), e2⟩
end PQ
end
section
namespace PQ
open PySem L2 VL PA
abbrev dueC : FE := vLC 2 [4, 5] (zbf zms (zaa (vIx (zac 1) (vC (.int 0))) (zab (zac 2)))) (zbb 2 (zam (zad 0) (zam (zad 1) zbe))) (vOr (zbk (vB (inA false) (zac 2) (zac 1))) (zbk (vB (inA false) (zac 3) (zac 1)))) (zac 0)
abbrev dueB : FS := za2 (zbL 6 dueC)
 (ze3 (zfZ (zbk (vB (eqM false) (vCB zd1 (zab (zac 6))) (vC (.int 2)))) (zfZ (zbk (vB (inA true) (vCB zd2 (zab (zac 6))) (vIx (zac 1) (vC (.int 1))))) (zbk (vB (inA true) (vCB zd2 (zab (zac 6))) (zac 3))))) (zbX (zhM 3 (zab (vCB zd2 (zab (zac 6)))))) zbW)
theorem zkf (Z : zej) (T : List (Int × Int)) (t : Int × Int) (hZ : Z.length ≤ 100) (x0 x3 x6 : Option M) : dueC [x0, some (.v (wD (nms Z) T)), some (.v (lD Z)), x3, some (.v (.int t.1)), some (.v (.int t.2)), x6] = some (.t (.lst ((zbv Z t).map .int)), [x0, some (.v (wD (nms Z) T)), some (.v (lD Z)), x3, some (.v (.int t.1)), some (.v (.int t.2)), x6]) := by
 obtain ⟨x, y, e⟩ := zcj (u := fun z : Int × List Int => .int z.1) (v := fun z => tI z.2) (ft := vOr (zbk (vB (inA false) (zac 2) (zac 1))) (zbk (vB (inA false) (zac 3) (zac 1)))) (fe := zac 0) (cs := [some (.v (.int t.1)), some (.v (.int t.2))]) (p := fun z => decide (t.1 ∈ z.2) || decide (t.2 ∈ z.2)) (f := fun z => .int z.1) Z [] none none (fun z _ => by
  have h1 := zex false z.2 t.1
  have h2 := zex false z.2 t.2
  simp only [Bool.false_eq_true, if_false] at h1 h2
  generalize tI z.2 = O at *
  refine ⟨?_, .t (.v (.int z.1)), rfl, rfl⟩
  by_cases q1 : t.1 ∈ z.2 <;> by_cases q2 : t.2 ∈ z.2 <;> simp [h1, h2, q1, q2]) (by rw [List.length_nil]; unfold lim; omega)
 rw [List.nil_append] at e
 have hz := zkd Z
 have he : (zbv Z t).map PyData.int = (Z.filter fun z => decide (t.1 ∈ z.2) || decide (t.2 ∈ z.2)).map (fun z => PyData.int z.1) := by unfold zbv; rw [List.map_map]; rfl
 rw [he]
 generalize (Z.filter fun z => decide (t.1 ∈ z.2) || decide (t.2 ∈ z.2)).map (fun z => PyData.int z.1) = E at *
 generalize (Z.map fun z => PyData.tuple [.int z.1, tI z.2]) = ZZ at *
 have g0 : getM (.v (wD (nms Z) T)) (.v (.int 0)) = some (.v (tI (nms Z))) := rfl
 generalize wD (nms Z) T = W at *
 generalize tI (nms Z) = N at *
 generalize lD Z = LD at *
 simp [g0, hz, e]
theorem zkg (found : List (Int × Int)) (h k : Int) : found.map pD ++ [.tuple [.int h, .int k]] = (found ++ [(h, k)]).map pD := by rw [List.map_append]; rfl
theorem due1 (Z : zej) (T found : List (Int × Int)) (t : Int × Int) (hZ : Z.length ≤ 100) (hf : found.length ≤ 1000) (x0 x6 : Option M) : ∃ found' y6, (found' = found ∧ (∀ p : Int × Int, zbv Z t = [p.1, p.2] → p ∈ T ∨ p ∈ found) ∨ ∃ p : Int × Int, zbv Z t = [p.1, p.2] ∧ p ∉ T ∧ p ∉ found ∧ found' = found ++ [p]) ∧
  dueB [x0, some (.v (wD (nms Z) T)), some (.v (lD Z)), some (.lst (found.map pD)), some (.v (.int t.1)), some (.v (.int t.2)), x6] = some (.nx [x0, some (.v (wD (nms Z) T)), some (.v (lD Z)), some (.lst (found'.map pD)), some (.v (.int t.1)), some (.v (.int t.2)), y6]) := by
 have e1 := zkf Z T t hZ x0 (some (.lst (found.map pD))) x6
 have s1 : zbL 6 dueC [x0, some (.v (wD (nms Z) T)), some (.v (lD Z)), some (.lst (found.map pD)), some (.v (.int t.1)), some (.v (.int t.2)), x6] = some (.nx [x0, some (.v (wD (nms Z) T)), some (.v (lD Z)), some (.lst (found.map pD)), some (.v (.int t.1)), some (.v (.int t.2)), some (.lst ((zbv Z t).map .int))]) := by
  rw [ze8, e1]
  simp
 generalize zbv Z t = E at *
 have hlen : zd1 [.lst (E.map .int)] = some (.v (.int (E.length : Int))) := by rw [ziR, List.length_map]
 by_cases h2 : E.length = 2
 ·obtain ⟨a, b, rfl⟩ : ∃ a b, E = [a, b] := by
   match E, h2 with
   | [a, b], _ => exact ⟨a, b, rfl⟩
  have i1 := zec true T (a, b)
  have i2 := zdM true found (a, b)
  simp only [if_true] at i1 i2
  have i1 : inA true (.v (.tuple [.int a, .int b])) (.v (tD T)) = some (.v (.bool (!decide ((a, b) ∈ T)))) := i1
  have i2 : inA true (.v (.tuple [.int a, .int b])) (.lst (found.map pD)) = some (.v (.bool (!decide ((a, b) ∈ found)))) := i2
  have hap := zkg found a b
  have g1 : getM (.v (wD (nms Z) T)) (.v (.int 1)) = some (.v (tD T)) := rfl
  generalize wD (nms Z) T = W at *
  generalize lD Z = LD at *
  generalize tD T = TT at i1 g1
  have hl : found.length < 1000000 := by omega
  by_cases q1 : (a, b) ∈ T
  ·refine ⟨found, some (.lst [.int a, .int b]), .inl ⟨rfl, fun p hp => .inl ?_⟩, (zaq s1).trans ?_⟩
   ·have := List.cons.inj hp; have h3 := List.cons.inj this.2
    have : p = (a, b) := Prod.ext this.1.symm h3.1.symm
    rw [this]; exact q1
   ·simp [g1, i1, q1]
  ·by_cases q2 : (a, b) ∈ found
   ·refine ⟨found, some (.lst [.int a, .int b]), .inl ⟨rfl, fun p hp => .inr ?_⟩, (zaq s1).trans ?_⟩
    ·have := List.cons.inj hp; have h3 := List.cons.inj this.2
     have : p = (a, b) := Prod.ext this.1.symm h3.1.symm
     rw [this]; exact q2
    ·simp [g1, i1, i2, q1, q2]
   ·refine ⟨found ++ [(a, b)], some (.lst [.int a, .int b]), .inr ⟨(a, b), rfl, q1, q2, rfl⟩, (zaq s1).trans ?_⟩
    rw [← hap]
    have hl' : (found.map pD).length < 1000000 := by rw [List.length_map]; exact hl
    generalize found.map pD = FD at *
    simp [g1, i1, i2, q1, q2, lim, hl']
 ·refine ⟨found, some (.lst (E.map .int)), .inl ⟨rfl, fun p hp => absurd (by rw [hp]; rfl) h2⟩, (zaq s1).trans ?_⟩
  generalize wD (nms Z) T = W at *
  generalize lD Z = LD at *
  generalize E.map PyData.int = EE at *
  have : ¬ (E.length : Int) = 2 := by omega
  simp [hlen, this, -ziR]
theorem due {ps : List Int} {ts T : List (Int × Int)} {Z : zej} (ok : zdA Z) (hZ : Z.length ≤ 9) : ∃ found : List (Int × Int), found.Pairwise ltP ∧ (∀ p, p ∈ found ↔ (∃ t ∈ ts, zbv Z t = [p.1, p.2]) ∧ p ∉ T) ∧ found.length ≤ 36 ∧
  FF.zan [.v (wD ps ts), .v (wD (nms Z) T), .v (lD Z)] = some (.v (tD found), [.v (wD ps ts), .v (wD (nms Z) T), .v (lD Z)]) := by
 obtain ⟨ρ', e, done, rs, found, y4, y5, y6, hr, hdone, nd, hmem, rfl⟩ := zcC (fg := zbb 2 (zam (zad 4) (zam (zad 5) zbe))) (fb := dueB) (P := fun rest ρ => ∃ (done rs found : List (Int × Int)) (y4 y5 y6 : Option M), rest = rs.map pD ∧ done ++ rs = ts ∧ found.Nodup ∧ (∀ p, p ∈ found ↔ (∃ t ∈ done, zbv Z t = [p.1, p.2]) ∧ p ∉ T) ∧ ρ = [some (.v (wD ps ts)), some (.v (wD (nms Z) T)), some (.v (lD Z)), some (.lst (found.map pD)), y4, y5, y6])
  (ts.map pD) [some (.v (wD ps ts)), some (.v (wD (nms Z) T)), some (.v (lD Z)), some (.lst []), none, none, none] ⟨[], ts, [], none, none, none, rfl, rfl, List.nodup_nil, fun p => by simp, rfl⟩ (fun d rest ρ hP => by
   obtain ⟨done, rs, found, y4, y5, y6, hr, hdone, nd, hmem, rfl⟩ := hP
   cases rs with
   | nil => cases hr
   | cons t rs =>
    rw [List.map_cons] at hr
    injection hr with hd hr
    subst hd hr
    have h36 : found.length ≤ 36 := pairs_len ok.rise (by rw [List.length_map]; exact hZ) nd fun p hp => by
     obtain ⟨⟨t, _, ht⟩, _⟩ := (hmem p).mp hp
     obtain ⟨a, b, c, _⟩ := (zc3 ok t p).mp ht
     exact ⟨c, a, b⟩
    obtain ⟨found', z6, hf, e⟩ := due1 Z T found t (by omega) (by omega) (some (.v (wD ps ts))) y6
    refine ⟨[some (.v (wD ps ts)), some (.v (wD (nms Z) T)), some (.v (lD Z)), some (.lst (found.map pD)), some (.v (.int t.1)), some (.v (.int t.2)), y6], _, by simp, e, done ++ [t], rs, found', _, _, z6, rfl, by rw [List.append_assoc]; exact hdone, ?_, ?_, rfl⟩
    ·rcases hf with ⟨rfl, _⟩ | ⟨p, _, _, q, rfl⟩
     ·exact nd
     ·rw [List.nodup_append]
      exact ⟨nd, by simp, fun a ha b hb e => by rw [List.mem_singleton.mp hb] at e; exact q (e ▸ ha)⟩
    ·intro p
     rcases hf with ⟨rfl, hno⟩ | ⟨q, hq, qT, qf, rfl⟩
     ·rw [hmem]
      constructor
      ·rintro ⟨⟨t', ht', et⟩, hT⟩
       exact ⟨⟨t', lL _ ht', et⟩, hT⟩
      ·rintro ⟨⟨t', ht', et⟩, hT⟩
       rcases lM ht' with m | m
       ·exact ⟨⟨t', m, et⟩, hT⟩
       ·rw [List.mem_singleton.mp m] at et
        rcases hno p et with z | z
        ·exact absurd z hT
        ·exact (hmem p).mp z
     ·rw [List.mem_append, hmem, List.mem_singleton]
      constructor
      ·rintro (⟨⟨t', ht', et⟩, hT⟩ | rfl)
       ·exact ⟨⟨t', lL _ ht', et⟩, hT⟩
       ·exact ⟨⟨t, lR _ lS, hq⟩, qT⟩
      ·rintro ⟨⟨t', ht', et⟩, hT⟩
       rcases lM ht' with m | m
       ·exact .inl ⟨⟨t', m, et⟩, hT⟩
       ·rw [List.mem_singleton.mp m, hq] at et
        have h1 := List.cons.inj et
        have h3 := List.cons.inj h1.2
        exact .inr (Prod.ext h1.1.symm h3.1.symm))
 have hrs : rs = [] := by
  cases rs with
  | nil => rfl
  | cons _ _ => cases hr
 subst hrs
 rw [List.append_nil] at hdone
 subst hdone
 have h36 : found.length ≤ 36 := pairs_len ok.rise (by rw [List.length_map]; exact hZ) nd fun p hp => by
  obtain ⟨⟨t, _, ht⟩, _⟩ := (hmem p).mp hp
  obtain ⟨a, b, c, _⟩ := (zc3 ok t p).mp ht
  exact ⟨c, a, b⟩
 have es := zcE (ts := found) (by omega)
 have pm := zbY found
 refine ⟨zcD found, zdk nd, fun p => by rw [pm.mem_iff]; exact hmem p, by rw [pm.length_eq]; exact h36, ?_⟩
 refine zbs (ρ := [some (.v (wD ps done)), some (.v (wD (nms Z) T)), some (.v (lD Z)), some (.lst (found.map pD)), y4, y5, y6]) rfl ?_ rfl
 show FF.zbu [some (.v (wD ps done)), some (.v (wD (nms Z) T)), some (.v (lD Z)), none, none, none, none] = _
 have hi := zkM done
 generalize wD (nms Z) T = W at *
 generalize lD Z = LD at *
 refine (zaq (ρ1 := [some (.v (wD ps done)), some (.v W), some (.v LD), some (.lst []), none, none, none]) (by simp [lim])).trans ?_
 refine (zaq (ρ1 := [some (.v (wD ps done)), some (.v W), some (.v LD), some (.lst (found.map pD)), y4, y5, y6]) ?_).trans ?_
 ·rw [zcf]
  have ei : zbE (vIx (zac 0) (vC (.int 1))) [some (.v (wD ps done)), some (.v W), some (.v LD), some (.lst []), none, none, none] = some (done.map pD, [some (.v (wD ps done)), some (.v W), some (.v LD), some (.lst []), none, none, none]) := by
   simp [atI, ixN]
  rw [ei]
  exact e
 ·simp [es, lim]
end PQ
end
section
namespace PQ
open PySem L2 VL PA
theorem zkN (ns : List Int) : itD (tI ns) = some (ns.map .int) := rfl
theorem joins (t : Int × Int) (A B : List Int) : FF.zbC [.v (pD t), .v (tI A), .v (tI B)] = some (.v (.bool (jn A B t)), [.v (pD t), .v (tI A), .v (tI B)]) := by
 refine zbs (ρ := [some (.v (pD t)), some (.v (tI A)), some (.v (tI B)), some (.v (.int t.1)), some (.v (.int t.2))]) rfl ?_ rfl
 show FF.zdx [some (.v (pD t)), some (.v (tI A)), some (.v (tI B)), none, none] = _
 refine (zaq (ρ1 := [some (.v (pD t)), some (.v (tI A)), some (.v (tI B)), some (.v (.int t.1)), some (.v (.int t.2))]) (by simp)).trans ?_
 have h1 := zex false A t.1
 have h2 := zex false B t.2
 have h3 := zex false B t.1
 have h4 := zex false A t.2
 simp only [Bool.false_eq_true, if_false] at h1 h2 h3 h4
 generalize pD t = P at *
 generalize tI A = O at *
 generalize tI B = U at *
 unfold jn
 by_cases q1 : t.1 ∈ A <;> by_cases q2 : t.2 ∈ B <;> by_cases q3 : t.2 ∈ A <;> by_cases q4 : t.1 ∈ B <;> simp [h1, h2, h3, h4, q1, q2, q3, q4]
abbrev tbB : FS := ze3 (zf0 (vFn FF.zbC (zaa (zac 3) (zaa (zac 1) (zab (zac 2)))))) (zc4 (vC (.bool true))) zbW
theorem zfX (ps : List Int) (ts : List (Int × Int)) (A B : List Int) : FF.zaD [.v (wD ps ts), .v (tI A), .v (tI B)] = some (.v (.bool (ts.any (jn A B))), [.v (wD ps ts), .v (tI A), .v (tI B)]) := by
 have ei : zbE (vIx (zac 0) (vC (.int 1))) [some (.v (wD ps ts)), some (.v (tI A)), some (.v (tI B)), none] = some (ts.map pD, [some (.v (wD ps ts)), some (.v (tI A)), some (.v (tI B)), none]) := by
  generalize tI A = O at *
  generalize tI B = U at *
  simp [atI, ixN]
 have key := zfa (fg := zad 3) (fb := tbB) (P := fun rest ρ => ∃ (done rs : List (Int × Int)) (y3 : Option M), rest = rs.map pD ∧ done ++ rs = ts ∧ (∀ t ∈ done, jn A B t = false) ∧ ρ = [some (.v (wD ps ts)), some (.v (tI A)), some (.v (tI B)), y3])
  (Q := fun r ρ => ∃ (y3 : Option M), ts.any (jn A B) = true ∧ r = .v (.bool true) ∧ ρ = [some (.v (wD ps ts)), some (.v (tI A)), some (.v (tI B)), y3])
  (ts.map pD) [some (.v (wD ps ts)), some (.v (tI A)), some (.v (tI B)), none] ⟨[], ts, none, rfl, rfl, fun t h => by simp at h, rfl⟩ (fun d rest ρ hP => by
   obtain ⟨done, rs, y3, hr, h1, h2, rfl⟩ := hP
   cases rs with
   | nil => cases hr
   | cons t rs =>
    rw [List.map_cons] at hr
    injection hr with hd hr
    subst hd hr
    have hj := joins t A B
    refine ⟨[some (.v (wD ps ts)), some (.v (tI A)), some (.v (tI B)), some (.v (pD t))], by simp, ?_⟩
    by_cases q : jn A B t = true
    ·right
     refine ⟨.v (.bool true), [some (.v (wD ps ts)), some (.v (tI A)), some (.v (tI B)), some (.v (pD t))], ?_, _, ?_, rfl, rfl⟩
     ·rw [q] at hj
      generalize wD ps ts = W at *
      generalize pD t = P at *
      generalize tI A = O at *
      generalize tI B = U at *
      simp [hj]
     ·exact List.any_eq_true.mpr ⟨t, by rw [← h1]; exact lR _ lS, q⟩
    ·have q' : jn A B t = false := by simpa using q
     left
     refine ⟨[some (.v (wD ps ts)), some (.v (tI A)), some (.v (tI B)), some (.v (pD t))], ?_, done ++ [t], rs, _, rfl, by rw [List.append_assoc]; exact h1, fun u hu => ?_, rfl⟩
     ·rw [q'] at hj
      generalize wD ps ts = W at *
      generalize pD t = P at *
      generalize tI A = O at *
      generalize tI B = U at *
      simp [hj]
     ·rcases lM hu with m | m
      ·exact h2 u m
      ·rw [List.mem_singleton.mp m]; exact q')
 rcases key with ⟨ρ', e, done, rs, y3, hr, h1, h2, rfl⟩ | ⟨r, ρ', e, y3, ht, rfl, rfl⟩
 ·have hrs : rs = [] := by
   cases rs with
   | nil => rfl
   | cons _ _ => cases hr
  subst hrs
  rw [List.append_nil] at h1
  subst h1
  have hf : done.any (jn A B) = false := by
   rw [List.any_eq_false]
   intro t ht
   rw [h2 t ht]
   decide
  rw [hf]
  refine zbs (ρ := [some (.v (wD ps done)), some (.v (tI A)), some (.v (tI B)), y3]) rfl ?_ rfl
  show FF.za7 [some (.v (wD ps done)), some (.v (tI A)), some (.v (tI B)), none] = _
  refine (zaq (ρ1 := [some (.v (wD ps done)), some (.v (tI A)), some (.v (tI B)), y3]) ?_).trans (by simp)
  rw [zcf, ei]
  exact e
 ·rw [ht]
  refine zbs (ρ := [some (.v (wD ps ts)), some (.v (tI A)), some (.v (tI B)), y3]) rfl ?_ rfl
  show FF.za7 [some (.v (wD ps ts)), some (.v (tI A)), some (.v (tI B)), none] = _
  refine ziT ?_
  rw [zcf, ei]
  exact e
abbrev zkO : FT := zfZ (zbk (vB ltM (zac 0) (zac 1))) (zbk (vB (inA true) (zco (zaa (zac 0) (zab (zac 1)))) (zac 3)))
abbrev zjs : FE := zco (zaa (zac 0) (zab (zac 1)))
def zjt (T : List (Int × Int)) (a b : Int) : Bool := decide (a < b) && !decide ((a, b) ∈ T)
theorem zgH {T : List (Int × Int)} {N : PyData} (a : Int) : ∀ (bs : List Int) (acc : List PyData) (y : Option M), acc.length + bs.length ≤ lim → ∃ y', zaY (zad 1) zkO zjs (bs.map .int) [some (.v (.int a)), y, some (.v N), some (.v (tD T))] acc = some (acc ++ (bs.filter (zjt T a)).map (fun b => pD (a, b)), [some (.v (.int a)), y', some (.v N), some (.v (tD T))])
 | [], acc, y, _ => ⟨y, by simp [zaY]⟩
 | b :: bs, acc, y, hl => by
  rw [List.length_cons] at hl
  have i1 := zec true T (a, b)
  simp only [if_true] at i1
  have i1 : inA true (.v (.tuple [.int a, .int b])) (.v (tD T)) = some (.v (.bool (!decide ((a, b) ∈ T)))) := i1
  have hg : zad 1 (.int b) [some (.v (.int a)), y, some (.v N), some (.v (tD T))] = some [some (.v (.int a)), some (.v (.int b)), some (.v N), some (.v (tD T))] := by simp
  have ht : zkO [some (.v (.int a)), some (.v (.int b)), some (.v N), some (.v (tD T))] = some (zjt T a b, [some (.v (.int a)), some (.v (.int b)), some (.v N), some (.v (tD T))]) := by
   unfold zjt
   generalize tD T = TT at *
   by_cases q1 : a < b <;> by_cases q2 : (a, b) ∈ T <;> simp [zkO, i1, q1, q2, lim]
  by_cases hp : zjt T a b = true
  ·obtain ⟨y', e3⟩ := zgH (T := T) (N := N) a bs (acc ++ [pD (a, b)]) (some (.v (.int b))) (by rw [List.length_append, List.length_singleton]; omega)
   refine ⟨y', ?_⟩
   rw [List.filter_cons, if_pos hp, List.map_cons]
   show (zad 1 (.int b) _).bind _ = _
   rw [hg]
   show (zkO _).bind _ = _
   rw [ht, hp, Option.bind_some]
   dsimp only
   rw [if_pos rfl]
   rw [show zjs [some (.v (.int a)), some (.v (.int b)), some (.v N), some (.v (tD T))] = some (.t (.v (pD (a, b))), [some (.v (.int a)), some (.v (.int b)), some (.v N), some (.v (tD T))]) by simp [zjs, lim]]
   show (if acc.length < lim then _ else _) = _
   rw [if_pos (by omega)]
   refine Eq.trans e3 ?_
   rw [List.map_cons, List.append_assoc]
   rfl
  ·have hp' : zjt T a b = false := by simpa using hp
   obtain ⟨y', e3⟩ := zgH (T := T) (N := N) a bs acc (some (.v (.int b))) (by omega)
   refine ⟨y', ?_⟩
   rw [List.filter_cons, if_neg hp]
   show (zad 1 (.int b) _).bind _ = _
   rw [hg]
   show (zkO _).bind _ = _
   rw [ht, hp', Option.bind_some]
   exact e3
def loose (nm : List Int) (T : List (Int × Int)) (as : List Int) : List (Int × Int) := as.flatMap fun a => (nm.filter (zjt T a)).map fun b => (a, b)
theorem zbZ {T : List (Int × Int)} {nm : List Int} : ∀ (as : List Int) (acc : List PyData) (x y : Option M), acc.length + as.length * nm.length ≤ lim → ∃ x' y', zc0 (zad 0) zfK (zbE (zac 2)) (zad 1) zkO zjs (as.map .int) [x, y, some (.v (tI nm)), some (.v (tD T))] acc = some (acc ++ (loose nm T as).map pD, [x', y', some (.v (tI nm)), some (.v (tD T))])
 | [], acc, x, y, _ => ⟨x, y, by simp [zc0, loose]⟩
 | a :: as, acc, x, y, hl => by
  rw [List.length_cons, Nat.add_mul, Nat.one_mul] at hl
  obtain ⟨y1, e1⟩ := zgH (T := T) (N := tI nm) a nm acc y (by omega)
  obtain ⟨x2, y2, e2⟩ := zbZ (T := T) (nm := nm) as (acc ++ (nm.filter (zjt T a)).map (fun b => pD (a, b))) (some (.v (.int a))) y1 (by
   have := List.length_filter_le (zjt T a) nm
   rw [List.length_append, List.length_map]
   omega)
  refine ⟨x2, y2, ?_⟩
  have hi : zbE (zac 2) [some (.v (.int a)), y, some (.v (tI nm)), some (.v (tD T))] = some (nm.map .int, [some (.v (.int a)), y, some (.v (tI nm)), some (.v (tD T))]) := by
   have h := zkN nm
   generalize tI nm = N at *
   generalize tD T = TT at *
   simp [h]
  show (zad 0 (.int a) [x, y, some (.v (tI nm)), some (.v (tD T))]).bind _ = _
  rw [show zad 0 (.int a) [x, y, some (.v (tI nm)), some (.v (tD T))] = some [some (.v (.int a)), y, some (.v (tI nm)), some (.v (tD T))] by simp]
  rw [Option.bind_some, show zfK [some (.v (.int a)), y, some (.v (tI nm)), some (.v (tD T))] = some (true, [some (.v (.int a)), y, some (.v (tI nm)), some (.v (tD T))]) from rfl, Option.bind_some]
  dsimp only
  rw [if_pos rfl, hi, Option.bind_some]
  dsimp only
  rw [e1, Option.bind_some]
  refine Eq.trans e2 ?_
  congr 2
  unfold loose
  rw [List.flatMap_cons, List.map_append, List.append_assoc, List.map_map]
  rfl
theorem zee {nm as : List Int} {T : List (Int × Int)} {p : Int × Int} : p ∈ loose nm T as ↔ p.1 ∈ as ∧ p.2 ∈ nm ∧ p.1 < p.2 ∧ p ∉ T := by
 unfold loose
 rw [List.mem_flatMap]
 constructor
 ·rintro ⟨a, ha, hm⟩
  obtain ⟨b, hb, rfl⟩ := List.mem_map.mp hm
  obtain ⟨hb, q⟩ := List.mem_filter.mp hb
  unfold zjt at q
  simp only [Bool.and_eq_true, Bool.not_eq_true', decide_eq_true_eq, decide_eq_false_iff_not] at q
  exact ⟨ha, hb, q.1, q.2⟩
 ·rintro ⟨ha, hb, q1, q2⟩
  refine ⟨p.1, ha, List.mem_map.mpr ⟨p.2, List.mem_filter.mpr ⟨hb, ?_⟩, rfl⟩⟩
  unfold zjt
  simp only [Bool.and_eq_true, Bool.not_eq_true', decide_eq_true_eq, decide_eq_false_iff_not]
  exact ⟨q1, q2⟩
theorem zeL {nm as : List Int} {T : List (Int × Int)} (hn : nm.Pairwise (· < ·)) (ha : as.Pairwise (· < ·)) : (loose nm T as).Pairwise ltP := by
 unfold loose
 rw [List.pairwise_flatMap]
 refine ⟨fun a _ => ?_, ha.imp fun {a b} h x hx y hy => ?_⟩
 ·rw [List.pairwise_map]
  exact (hn.sublist List.filter_sublist).imp fun {b c} h => .inr ⟨rfl, h⟩
 ·obtain ⟨u, _, rfl⟩ := List.mem_map.mp hx
  obtain ⟨v, _, rfl⟩ := List.mem_map.mp hy
  exact .inl h
end PQ
end
section
namespace PQ
open PySem L2 VL PA
abbrev exT : FT := zf0 (vFn FF.zaD (zaa (zac 2) (zaa (vIx (zac 3) (zac 0)) (zab (vIx (zac 3) (zac 1))))))
def zeM (ts T : List (Int × Int)) (Z : zej) : List (Int × Int) := (loose (nms Z) T (nms Z)).filter fun p => ts.any (jn (zbM Z p.1) (zbM Z p.2))
theorem extra {ps : List Int} {ts T : List (Int × Int)} {Z : zej} (ok : zdA Z) (hZ : Z.length ≤ 9) : FF.zaI [.v (wD ps ts), .v (wD (nms Z) T), .v (lD Z)] = some (.v (tD (zeM ts T Z)), [.v (wD ps ts), .v (wD (nms Z) T), .v (lD Z)]) := by
 have hnm : (nms Z).length ≤ 9 := by rw [List.length_map]; exact hZ
 obtain ⟨x1, y1, e1⟩ := zbZ (T := T) (nm := nms Z) (nms Z) [] none none (by
  have := Nat.mul_le_mul hnm hnm
  rw [List.length_nil]
  unfold lim
  omega)
 rw [List.nil_append] at e1
 have rise := zeL (T := T) ok.rise ok.rise
 have hll : (loose (nms Z) T (nms Z)).length ≤ 36 := pairs_len ok.rise hnm (rise.imp (S := fun a b => a ≠ b) fun {a b} h e => zff b (by rw [e] at h; exact h)) fun p hp => by
  obtain ⟨a, b, c, _⟩ := zee.mp hp
  exact ⟨c, a, b⟩
 have e0 := zmm ok.rise
 obtain ⟨x2, y2, e2⟩ := zbQ (ft := exT) (fe := zjs) (cs := [some (.v (wD ps ts)), some (.dic (dL Z))]) (p := fun p => ts.any (jn (zbM Z p.1) (zbM Z p.2))) (f := pD) (loose (nms Z) T (nms Z)) [] none none (fun p hp => by
  obtain ⟨m1, m2, _, _⟩ := zee.mp hp
  have k1 := zed m1
  have k2 := zed m2
  have et := zfX ps ts (zbM Z p.1) (zbM Z p.2)
  generalize wD ps ts = W at *
  generalize tI (zbM Z p.1) = A at *
  generalize tI (zbM Z p.2) = B at *
  generalize dL Z = D at *
  generalize ts.any (jn (zbM Z p.1) (zbM Z p.2)) = b at *
  refine ⟨by simp [exT, k1, k2, et], .t (.v (pD p)), by simp [zjs, lim], rfl⟩) (by rw [List.length_nil]; unfold lim; omega)
 rw [List.nil_append] at e2
 refine zbs (ρ := [some (.v (wD ps ts)), some (.v (wD (nms Z) T)), some (.v (lD Z)), some (.v (tI (nms Z))), some (.v (tD T)), some (.dic (dL Z)), some (.lst ((loose (nms Z) T (nms Z)).map pD))]) rfl ?_ rfl
 show FF.zdy [some (.v (wD ps ts)), some (.v (wD (nms Z) T)), some (.v (lD Z)), none, none, none, none] = _
 refine (zaq (ρ1 := [some (.v (wD ps ts)), some (.v (wD (nms Z) T)), some (.v (lD Z)), some (.v (tI (nms Z))), some (.v (tD T)), none, none]) (by
  generalize wD ps ts = W at *
  generalize lD Z = LD at *
  simp)).trans ?_
 have hi := zkN (nms Z)
 have hE : (zeM ts T Z).map pD = ((loose (nms Z) T (nms Z)).filter fun p => ts.any (jn (zbM Z p.1) (zbM Z p.2))).map pD := rfl
 show za2 _ _ _ = some (.rt (.v (.tuple ((zeM ts T Z).map pD))) _)
 rw [hE]
 generalize ((loose (nms Z) T (nms Z)).filter fun p => ts.any (jn (zbM Z p.1) (zbM Z p.2))).map pD = R at *
 generalize (loose (nms Z) T (nms Z)).map pD = LO at *
 generalize wD ps ts = W at *
 generalize wD (nms Z) T = W2 at *
 generalize tI (nms Z) = N at *
 generalize lD Z = LD at *
 generalize tD T = TT at *
 generalize dL Z = D at *
 generalize (nms Z).map PyData.int = NN at *
 refine (zaq (ρ1 := [some (.v W), some (.v W2), some (.v LD), some (.v N), some (.v TT), some (.dic D), none]) (by simp [e0])).trans ?_
 refine (zaq (ρ1 := [some (.v W), some (.v W2), some (.v LD), some (.v N), some (.v TT), some (.dic D), some (.lst LO)]) ?_).trans ?_
 ·have eo : vLC2 2 [3, 4] (zbE (zac 3)) (zad 0) zfK (zbE (zac 2)) (zad 1) zkO zjs [some (.v W), some (.v W2), some (.v LD), some (.v N), some (.v TT), some (.dic D), none] = some (.t (.lst LO), [some (.v W), some (.v W2), some (.v LD), some (.v N), some (.v TT), some (.dic D), none]) := by
   show (zbE (zac 3) _).bind _ = _
   rw [show zbE (zac 3) [some (.v W), some (.v W2), some (.v LD), some (.v N), some (.v TT), some (.dic D), none] = some (NN, [some (.v W), some (.v W2), some (.v LD), some (.v N), some (.v TT), some (.dic D), none]) by simp [hi]]
   show (zc0 (zad 0) zfK (zbE (zac 2)) (zad 1) zkO zjs NN [none, none, some (.v N), some (.v TT)] []).bind _ = _
   rw [e1]
   rfl
  rw [ze8, eo]
  simp
 ·have eo : zei 2 [0, 5] 6 (zbb 2 (zam (zad 0) (zam (zad 1) zbe))) exT zjs [some (.v W), some (.v W2), some (.v LD), some (.v N), some (.v TT), some (.dic D), some (.lst LO)] = some (.t (.lst R), [some (.v W), some (.v W2), some (.v LD), some (.v N), some (.v TT), some (.dic D), some (.lst LO)]) := by
   refine (zdN rfl (by decide)).trans ?_
   show (zaY (zbb 2 (zam (zad 0) (zam (zad 1) zbe))) exT zjs LO [none, none, some (.v W), some (.dic D)] []).bind _ = _
   rw [e2]
   rfl
  simp [eo, lim]
theorem zjn {ts T : List (Int × Int)} {Z : zej} (ok : zdA Z) (p : Int × Int) : p ∈ zeM ts T Z ↔ (∃ t ∈ ts, zbv Z t = [p.1, p.2]) ∧ p ∉ T := by
 unfold zeM
 rw [List.mem_filter, zee, List.any_eq_true]
 constructor
 ·rintro ⟨⟨a, b, c, d⟩, t, ht, hj⟩
  exact ⟨⟨t, ht, (zc3 ok t p).mpr ⟨a, b, c, hj⟩⟩, d⟩
 ·rintro ⟨⟨t, ht, he⟩, d⟩
  obtain ⟨a, b, c, hj⟩ := (zc3 ok t p).mp he
  exact ⟨⟨a, b, c, d⟩, t, ht, hj⟩
theorem zef {ts T found : List (Int × Int)} {Z : zej} (ok : zdA Z) (r : found.Pairwise ltP) (h : ∀ p, p ∈ found ↔ (∃ t ∈ ts, zbv Z t = [p.1, p.2]) ∧ p ∉ T) : zeM ts T Z = found :=
 zgG zff zke ((zeL ok.rise ok.rise).sublist List.filter_sublist) r fun p => by rw [zjn ok p, h]
theorem zeg {ts : List (Int × Int)} (h2 : ∀ t ∈ ts, smP t) (l2 : ts.length ≤ 1000) : zcZ [.v (tD ts)] = some (.v (.str (tD ts).shown)) := by
 refine if_pos ?_
 have hc : PyData.canLay0 (tD ts) = true := zch ts
 have hs : PyData.showable (tD ts) = true := shP ts h2
 have hd : PyData.depth (tD ts) ≤ 3 := by
  show PyData.depthAll (ts.map pD) + 1 ≤ 3
  have := dpP ts
  omega
 have hw : PyData.weight (tD ts) ≤ 2 ^ 20 := by
  show PyData.weightAll (ts.map pD) ≤ 2 ^ 20
  have := wtP ts h2
  have : (2 : Nat) ^ 20 = 1048576 := rfl
  omega
 have hi : PyData.intsShort 13 (tD ts) = true := isP ts h2
 have hz := PyData.shown_fits_of_layable0 (B := 13) (by decide) (by decide) (d := tD ts) (by
  unfold PyData.layable0
  rw [hc, decide_eq_true (show PyData.depth (tD ts) ≤ 64 by omega), decide_eq_true hw]; rfl) hi
 unfold ziY
 rw [hc, hs, decide_eq_true (show PyData.depth (tD ts) ≤ 50 by omega), decide_eq_true hz]
 rfl
theorem zjo : zcZ [.v (.tuple [])] = some (.v (.str "()")) := by
 have := zeg (ts := []) (fun t h => by simp at h) (by decide)
 refine Eq.trans this ?_
 rfl
theorem zgI {ts : List (Int × Int)} (h : ts.length < 64) : zhH [.v (tD ts)] = some (.lst ((zcD ts).map pD)) := by
 by_cases e : ts = []
 ·subst e; rfl
 ·have h1 : zd0 [.v (tD ts)] = none := by
   show (zfh (ts.map pD)).bind _ = _
   rw [zeI e]
   rfl
  unfold zhH
  rw [h1]
  show (if (ts.map pD).length < 64 then (zlB (ts.map pD)).bind _ else none) = _
  rw [if_pos (by rw [List.length_map]; exact h), zeH]
  show (if ((ts.map enc).all fun k => !k.isEmpty) = true then some (M.lst ((ze0 (ts.map enc)).map tI)) else none) = _
  rw [if_pos (by rw [List.all_map]; simp), zea, List.map_map]
  rfl
end PQ
end
section
namespace PQ
open PySem L2 VL PA
abbrev chk1 : FS := ze3 (vOr (zbk (vB (eqS true) (vCB zcZ (zab (vFn FF.zaI (zaa (zac 3) (zaa (zac 5) (zab (zac 4))))))) (vCB zcZ (zab (zac 6))))) (zbk (vB (eqS true) (vCB zcZ (zab (vFn FF.zaI (zaa (zac 3) (zaa (zac 7) (zab (zac 4))))))) (vC (.str "()"))))) (zc4 (vC (.bool false))) zbW
abbrev lawTurn : FS := (za2 (zbL 2 (vFn FF.zaH (zaa (zac 0) (zab (zac 1)))))
 (za2 (zbL 3 (vFn FF.zaB (zaa (zac 2) (zaa (vFn FF.zag (zaa (zac 2) (zab (zcF (zha [7, 9, 12, 5, 3, 24, 1, 2, 0]))))) (zab (vC (.int 60)))))))
 (za2 (zbL 4 (vCB zd2 (zab (vFn FF.zaw (zaa (zac 2) (zaa (zac 3) (zab (vFn FF.zai (zaa (zac 2) (zab (vC (.int 10))))))))))))
 (za2 (zbL 5 (vFn FF.zax (zaa (zac 2) (zaa (zac 3) (zab (zac 4))))))
 (za2 (zbL 6 (vFn FF.zan (zaa (zac 3) (zaa (zac 5) (zab (zac 4))))))
 (za2 (zbL 7 (zco (zaa (vIx (zac 5) (vC (.int 0))) (zab (vCB zd2 (zab (vCB zhH (zab (vB zet (vIx (zac 5) (vC (.int 1))) (zac 6))))))))))
 (za2 (zgt (zbf zd4 (zab (vC (.int 2)))) (zad 8) chk1)
 (ze3 (zbk (vB (eqS true) (vCB zcZ (zab (vFn FF.zaI (zaa (zac 3) (zaa (zco (zaa (vIx (zac 5) (vC (.int 0))) (zab (zco zbS)))) (zab (zac 4))))))) (vCB zcZ (zab (vFn FF.zan (zaa (zac 3) (zaa (zco (zaa (vIx (zac 5) (vC (.int 0))) (zab (zco zbS)))) (zab (zac 4))))))))) (zc4 (vC (.bool false))) zbW))))))))
theorem turn19 (ns : List Int) (hl : ns.length ≤ 63) (k : Int) (hk0 : 0 ≤ k) (hk : k ≤ 100) (x2 x3 x4 x5 x6 x7 x8 : Option M) : ∃ y2 y3 y4 y5 y6 y7 y8, lawTurn [some (.v (.list (ns.map .int))), some (.v (.int k)), x2, x3, x4, x5, x6, x7, x8] = some (.nx [some (.v (.list (ns.map .int))), some (.v (.int k)), y2, y3, y4, y5, y6, y7, y8]) := by
 obtain ⟨l, hl0, e1⟩ := hand ns k hl hk0 hk
 obtain ⟨m, l1, hm, hl1, e2⟩ := zgD (ns := [7, 9, 12, 5, 3, 24, 1, 2, 0]) hl0 (by decide) (by decide) (by decide)
 have hm' : 0 ≤ m ∧ m ≤ 24 := by
  simp only [List.mem_cons, List.not_mem_nil, or_false] at hm
  omega
 obtain ⟨n, rfl⟩ := Int.eq_ofNat_of_zero_le hm'.1
 obtain ⟨l2, ps, ts, hl2, w, hpl, e3⟩ := web (n := n) hl1 (by omega) (by omega)
 have ndp : ps.Nodup := by
  unfold List.Nodup
  exact w.rise.imp fun {a b} h => by omega
 obtain ⟨c, l3, c0, c1, hl3, e4⟩ := take (m := 10) hl2 (by omega) (by decide) (by decide)
 obtain ⟨mm, rfl⟩ := Int.eq_ofNat_of_zero_le c0
 obtain ⟨l4, L, free, hl4, pmL, hL, e5⟩ := zhj (ts := ts) mm hl3 (by omega) (by omega) w
 obtain ⟨l5, nm, T, hl5, hnl, rise, rng, upT, memT, lenT, e6⟩ := told (L := L) hl4 (by omega) w hL
 obtain ⟨Z, hZn, hZl⟩ : ∃ Z : zej, nms Z = nm ∧ lts Z = L := ⟨nm.zip L, by unfold nms; rw [List.map_fst_zip (by omega)], by unfold lts; rw [List.map_snd_zip (by omega)]⟩
 subst hZn hZl
 have hZ : Z.length ≤ 9 := by rw [List.length_map] at hL; exact hL
 have ok : zdA Z := ⟨rise, by
  have nd1 : (free ++ (lts Z).flatten).Nodup := pmL.nodup_iff.mpr ndp
  have nd2 := (List.nodup_append.mp nd1).2.1
  unfold List.Nodup at nd2
  rw [List.pairwise_flatten] at nd2
  have := nd2.2
  rw [List.pairwise_map] at this
  exact this.imp fun {a b} h x hx hx' => h x hx x hx' rfl⟩
 obtain ⟨D1, up1, mem1, len1, e7⟩ := due (ps := ps) (ts := ts) (T := T) ok hZ
 obtain ⟨D0, up0, mem0, len0, e8⟩ := due (ps := ps) (ts := ts) (T := []) ok hZ
 have x1 := extra (ps := ps) (ts := ts) (T := T) ok hZ
 have x0 := extra (ps := ps) (ts := ts) (T := []) ok hZ
 rw [zef ok up1 mem1] at x1
 rw [zef ok up0 mem0] at x0
 have hin : ∀ {D T' : List (Int × Int)}, (∀ p, p ∈ D ↔ (∃ t ∈ ts, zbv Z t = [p.1, p.2]) ∧ p ∉ T') → ∀ p ∈ D, p.1 < p.2 ∧ p.1 ∈ nms Z ∧ p.2 ∈ nms Z := fun {D T'} h p hp => by
  obtain ⟨⟨t, _, ht⟩, _⟩ := (h p).mp hp
  obtain ⟨a, b, c, _⟩ := (zc3 ok t p).mp ht
  exact ⟨c, a, b⟩
 have sx := zgI (ts := T ++ D1) (by
  have ndF : (T ++ D1).Nodup := by
   rw [List.nodup_append]
   exact ⟨upT.imp (S := fun a b => a ≠ b) fun {a b} h e => zff b (by rw [e] at h; exact h), up1.imp (S := fun a b => a ≠ b) fun {a b} h e => zff b (by rw [e] at h; exact h), fun a ha b hb e => ((mem1 b).mp hb).2 (e ▸ ha)⟩
  have := pairs_len ok.rise (by rw [List.length_map]; exact hZ) ndF fun p hp => by
   rcases lM hp with q | q
   ·exact memT p q
   ·exact hin mem1 p q
  omega)
 have pmF := zbY (T ++ D1)
 have xF := extra (ps := ps) (ts := ts) (T := zcD (T ++ D1)) ok hZ
 rw [zef (found := []) ok List.Pairwise.nil fun p => by
  constructor
  ·intro h; simp at h
  ·rintro ⟨h1, h2⟩
   rw [pmF.mem_iff, List.mem_append] at h2
   exact absurd (.inr ((mem1 p).mpr ⟨h1, fun q => h2 (.inl q)⟩)) h2] at xF
 have r1 := zeg (ts := D1) (fun p hp => ⟨rng _ (hin mem1 p hp).2.1, rng _ (hin mem1 p hp).2.2⟩) (by omega)
 have r0 := zeg (ts := D0) (fun p hp => ⟨rng _ (hin mem0 p hp).2.1, rng _ (hin mem0 p hp).2.2⟩) (by omega)
 have n1 := zfe (tD D1).shown
 have n0 := zfe (tD D0).shown
 have nn := zfe "()"
 have ad : zet (.v (tD T)) (.v (tD D1)) = some (.v (tD (T ++ D1))) := by
  show (if (T.map pD).length + (D1.map pD).length ≤ lim then some (M.v (.tuple (T.map pD ++ D1.map pD))) else none) = _
  rw [if_pos (by rw [List.length_map, List.length_map]; unfold lim; omega), ← List.map_append]
 have e2 : FF.zag [.lst l, .lst [.int 7, .int 9, .int 12, .int 5, .int 3, .int 24, .int 1, .int 2, .int 0]] = some (.v (.int (n : Int)), [.lst l1, .lst [.int 7, .int 9, .int 12, .int 5, .int 3, .int 24, .int 1, .int 2, .int 0]]) := e2
 have e5 : FF.zaw [.lst l3, .v (wD ps ts), .v (.int (mm : Int))] = some (.lst ((lts Z).map tI), [.lst l4, .v (wD ps ts), .v (.int (mm : Int))]) := e5
 have g0 : getM (.v (wD (nms Z) T)) (.v (.int 0)) = some (.v (tI (nms Z))) := rfl
 have g1 : getM (.v (wD (nms Z) T)) (.v (.int 1)) = some (.v (tD T)) := rfl
 have x0 : FF.zaI [.v (wD ps ts), .v (.tuple [tI (nms Z), .tuple []]), .v (lD Z)] = some (.v (tD D0), [.v (wD ps ts), .v (.tuple [tI (nms Z), .tuple []]), .v (lD Z)]) := x0
 have e8 : FF.zan [.v (wD ps ts), .v (.tuple [tI (nms Z), .tuple []]), .v (lD Z)] = some (.v (tD D0), [.v (wD ps ts), .v (.tuple [tI (nms Z), .tuple []]), .v (lD Z)]) := e8
 have xF : FF.zaI [.v (wD ps ts), .v (.tuple [tI (nms Z), .tuple ((zcD (T ++ D1)).map pD)]), .v (lD Z)] = some (.v (.tuple []), [.v (wD ps ts), .v (.tuple [tI (nms Z), .tuple ((zcD (T ++ D1)).map pD)]), .v (lD Z)]) := xF
 have rn := zjo
 have e6' : FF.zax [.lst l4, .v (wD ps ts), .v (lD Z)] = some (.v (wD (nms Z) T), [.lst l5, .v (wD ps ts), .v (lD Z)]) := e6
 clear e6
 have tl : zd2 [.lst ((lts Z).map tI)] = some (.v (lD Z)) := rfl
 generalize hS : (M.v (.list (ns.map .int))) = S at e1 ⊢
 have hSv : ∃ d, S = .v d := ⟨_, hS.symm⟩
 obtain ⟨sd, rfl⟩ := hSv
 clear hS hin mem0 mem1 memT up0 up1 upT ok rng pmF rise hnl pmL w ndp len0 len1 lenT hL hZ hpl hl0 hl1 hl2 hl3 hl4 hl5 c0 c1 hm hm'
 generalize (zcD (T ++ D1)).map pD = F at *
 generalize (tD D1).shown = s1 at *
 generalize (tD D0).shown = s0 at *
 generalize wD ps ts = W at *
 generalize wD (nms Z) T = V at *
 generalize lD Z = LD at *
 generalize tI (nms Z) = N at *
 generalize (lts Z).map tI = LL at *
 generalize tD (T ++ D1) = TF at *
 generalize tD D1 = E1 at *
 generalize tD D0 = E0 at *
 generalize tD T = TT at *
 refine ⟨some (.lst l5), some (.v W), some (.v LD), some (.v V), some (.v E1), some (.v (.tuple [N, .tuple F])), some (.v (.int 1)), ?_⟩
 refine (zaq (ρ1 := [some (.v sd), some (.v (.int k)), some (.lst l), x3, x4, x5, x6, x7, x8]) (by simp [e1])).trans ?_
 refine (zaq (ρ1 := [some (.v sd), some (.v (.int k)), some (.lst l2), some (.v W), x4, x5, x6, x7, x8]) (by simp [e2, e3, lim])).trans ?_
 refine (zaq (ρ1 := [some (.v sd), some (.v (.int k)), some (.lst l4), some (.v W), some (.v LD), x5, x6, x7, x8]) (by simp [e4, e5, tl])).trans ?_
 refine (zaq (ρ1 := [some (.v sd), some (.v (.int k)), some (.lst l5), some (.v W), some (.v LD), some (.v V), x6, x7, x8]) (by simp [e6'])).trans ?_
 refine (zaq (ρ1 := [some (.v sd), some (.v (.int k)), some (.lst l5), some (.v W), some (.v LD), some (.v V), some (.v E1), x7, x8]) (by simp [e7])).trans ?_
 refine (zaq (ρ1 := [some (.v sd), some (.v (.int k)), some (.lst l5), some (.v W), some (.v LD), some (.v V), some (.v E1), some (.v (.tuple [N, .tuple F])), x8]) (by simp [g0, g1, ad, sx, lim])).trans ?_
 have ck : ∀ x, chk1 [some (.v sd), some (.v (.int k)), some (.lst l5), some (.v W), some (.v LD), some (.v V), some (.v E1), some (.v (.tuple [N, .tuple F])), x] = some (.nx [some (.v sd), some (.v (.int k)), some (.lst l5), some (.v W), some (.v LD), some (.v V), some (.v E1), some (.v (.tuple [N, .tuple F])), x]) := fun x => by
  simp [x1, xF, r1, rn, n1, nn]
 refine (zaq (ρ1 := [some (.v sd), some (.v (.int k)), some (.lst l5), some (.v W), some (.v LD), some (.v V), some (.v E1), some (.v (.tuple [N, .tuple F])), some (.v (.int 1))]) ?_).trans ?_
 ·rw [zcf]
  rw [show zbf zd4 (zab (vC (.int 2))) [some (.v sd), some (.v (.int k)), some (.lst l5), some (.v W), some (.v LD), some (.v V), some (.v E1), some (.v (.tuple [N, .tuple F])), x8] = some ([.int 0, .int 1], [some (.v sd), some (.v (.int k)), some (.lst l5), some (.v W), some (.v LD), some (.v V), some (.v E1), some (.v (.tuple [N, .tuple F])), x8]) from rfl]
  show (chk1 [some (.v sd), some (.v (.int k)), some (.lst l5), some (.v W), some (.v LD), some (.v V), some (.v E1), some (.v (.tuple [N, .tuple F])), some (.v (.int 0))]).bind _ = _
  rw [ck]
  show (chk1 [some (.v sd), some (.v (.int k)), some (.lst l5), some (.v W), some (.v LD), some (.v V), some (.v E1), some (.v (.tuple [N, .tuple F])), some (.v (.int 1))]).bind _ = _
  rw [ck]
  rfl
 ·simp [g0, x0, e8, r0, n0, lim]
theorem law_k19 (ns : List Int) (hl : ns.length ≤ 63) : ∃ ms, FF.zhi [.v (.list (ns.map .int))] = some (.v (.bool true), ms) := by
 have hmin : ∃ n : Nat, n ≤ 8 ∧ (if (if (ns.length : Int) < 8 then (ns.length : Int) else 8) > 1 then (if (ns.length : Int) < 8 then (ns.length : Int) else 8) else 1) = (n : Int) := by
  by_cases h8 : (ns.length : Int) < 8
  ·simp only [if_pos h8]
   by_cases h1 : (ns.length : Int) > 1
   ·exact ⟨ns.length, by omega, if_pos h1⟩
   ·exact ⟨1, by omega, by rw [if_neg h1]; rfl⟩
  ·simp only [if_neg h8]
   exact ⟨8, by omega, by decide⟩
 obtain ⟨n, hn, en⟩ := hmin
 have hsm : zbq (n : Int) = true := decide_eq_true (by unfold ziE; omega)
 obtain ⟨ρ', e, _, y1, y2, y3, y4, y5, y6, y7, y8, rfl⟩ := zcC (fg := zad 1) (fb := lawTurn) (P := fun ds ρ => (∀ d ∈ ds, ∃ k : Int, d = .int k ∧ 0 ≤ k ∧ k ≤ 100) ∧ ∃ y1 y2 y3 y4 y5 y6 y7 y8, ρ = [some (.v (.list (ns.map .int))), y1, y2, y3, y4, y5, y6, y7, y8]) (zaK 0 (n : Int)) [some (.v (.list (ns.map .int))), none, none, none, none, none, none, none, none] ⟨fun d hd => by
   rw [zbj] at hd
   obtain ⟨k, hk, rfl⟩ := List.mem_map.mp hd
   have := List.mem_range.mp hk
   exact ⟨_, rfl, by omega, by omega⟩, none, none, none, none, none, none, none, none, rfl⟩ (fun d ds ρ hP => by
  obtain ⟨hd, y1, y2, y3, y4, y5, y6, y7, y8, rfl⟩ := hP
  obtain ⟨k, rfl, h0, h1⟩ := hd d lS
  obtain ⟨z2, z3, z4, z5, z6, z7, z8, e⟩ := turn19 ns hl k h0 h1 y2 y3 y4 y5 y6 y7 y8
  exact ⟨_, _, rfl, e, fun d' h' => hd d' (lO _ h'), _, _, _, _, _, _, _, _, rfl⟩)
 refine ⟨_, zbs (ρ := [some (.v (.list (ns.map .int))), y1, y2, y3, y4, y5, y6, y7, y8]) rfl ?_ rfl⟩
 show FF.zeG [some (.v (.list (ns.map .int))), none, none, none, none, none, none, none, none] = _
 refine (zaq (ρ1 := [some (.v (.list (ns.map .int))), y1, y2, y3, y4, y5, y6, y7, y8]) ?_).trans ?_
 ·have e' := e
  generalize hS : (PyData.list (ns.map .int)) = S at e'
  have hlS : zd1 [.v S] = some (.v (.int (ns.length : Int))) := by rw [← hS, len_list, List.length_map]
  simp [hlS, en, hsm, e']
 ·simp
end PQ
end
section
namespace Lk19
open PySem L2 VL PyProof.Rows
theorem all_mk {l : PySem.W.OpenLaw} {w : World} {K : PySem.W.Frag} {h : Heap} {mg : Str → Option Value} {fa f1 f2 f3 f4 f5 f6 f7 f8 f9 f10 f11 f12 f13 f14 f15 : Addr} (X : K.In h) (G : h.Ns mainGlobals mg) (hfa : mg "law" = some (.ref fa))
  {od1 an1 od2 an2 od3 an3 od4 an4 od5 an5 od6 an6 od7 an7 od8 an8 od9 an9 od10 an10 od11 an11 od12 an12 od13 an13 od14 an14 od15 an15 : Option Addr} {sl1 sl2 sl3 sl4 sl5 sl6 sl7 sl8 sl9 sl10 sl11 sl12 sl13 sl14 sl15 : Array (Option Value)} {oc1 kV1 dc1 pm1 cd1 ct1 oc2 kV2 dc2 pm2 cd2 ct2 oc3 kV3 dc3 pm3 cd3 ct3 oc4 kV4 dc4 pm4 cd4 ct4 oc5 kV5 dc5 pm5 cd5 ct5 oc6 kV6 dc6 pm6 cd6 ct6 oc7 kV7 dc7 pm7 cd7 ct7 oc8 kV8 dc8 pm8 cd8 ct8 oc9 kV9 dc9 pm9 cd9 ct9 oc10 kV10 dc10 pm10 cd10 ct10 oc11 kV11 dc11 pm11 cd11 ct11 oc12 kV12 dc12 pm12 cd12 ct12 oc13 kV13 dc13 pm13 cd13 ct13 oc14 kV14 dc14 pm14 cd14 ct14 oc15 kV15 dc15 pm15 cd15 ct15 : Value}
  (a1 : PySem.W.nsIn K mainGlobals "joins" = some (some (.ref f1))) (l1 : K.lookup f1 = some ⟨oc1, od1, .func (PySem.W.fnOf "joins" "joins" (zaQ s_joins) (zaF s_joins) (zah s_joins) .none kV1 dc1 pm1 an1 cd1 ct1), sl1⟩) (c1 : PySem.W.codeIn K cd1 "joins" = true) (k1 : PySem.W.keepIn K (.ref f1) = true)
  (a2 : PySem.W.nsIn K mainGlobals "tied_between" = some (some (.ref f2))) (l2 : K.lookup f2 = some ⟨oc2, od2, .func (PySem.W.fnOf "tied_between" "tied_between" (zaQ s_tied_between) (zaF s_tied_between) (zah s_tied_between) .none kV2 dc2 pm2 an2 cd2 ct2), sl2⟩) (c2 : PySem.W.codeIn K cd2 "tied_between" = true) (k2 : PySem.W.keepIn K (.ref f2) = true)
  (a3 : PySem.W.nsIn K mainGlobals "extra" = some (some (.ref f3))) (l3 : K.lookup f3 = some ⟨oc3, od3, .func (PySem.W.fnOf "extra" "extra" (zaQ s_extra) (zaF s_extra) (zah s_extra) .none kV3 dc3 pm3 an3 cd3 ct3), sl3⟩) (c3 : PySem.W.codeIn K cd3 "extra" = true) (k3 : PySem.W.keepIn K (.ref f3) = true)
  (a4 : PySem.W.nsIn K mainGlobals "_law_hand_of" = some (some (.ref f4))) (l4 : K.lookup f4 = some ⟨oc4, od4, .func (PySem.W.fnOf "_law_hand_of" "_law_hand_of" (zaQ s_law_hand_of) (zaF s_law_hand_of) (zah s_law_hand_of) .none kV4 dc4 pm4 an4 cd4 ct4), sl4⟩) (c4 : PySem.W.codeIn K cd4 "_law_hand_of" = true) (k4 : PySem.W.keepIn K (.ref f4) = true)
  (a5 : PySem.W.nsIn K mainGlobals "_law_take" = some (some (.ref f5))) (l5 : K.lookup f5 = some ⟨oc5, od5, .func (PySem.W.fnOf "_law_take" "_law_take" (zaQ s_law_take) (zaF s_law_take) (zah s_law_take) .none kV5 dc5 pm5 an5 cd5 ct5), sl5⟩) (c5 : PySem.W.codeIn K cd5 "_law_take" = true) (k5 : PySem.W.keepIn K (.ref f5) = true)
  (a6 : PySem.W.nsIn K mainGlobals "_law_pick" = some (some (.ref f6))) (l6 : K.lookup f6 = some ⟨oc6, od6, .func (PySem.W.fnOf "_law_pick" "_law_pick" (zaQ s_law_pick) (zaF s_law_pick) (zah s_law_pick) .none kV6 dc6 pm6 an6 cd6 ct6), sl6⟩) (c6 : PySem.W.codeIn K cd6 "_law_pick" = true) (k6 : PySem.W.keepIn K (.ref f6) = true)
  (a7 : PySem.W.nsIn K mainGlobals "_law_shuffled" = some (some (.ref f7))) (l7 : K.lookup f7 = some ⟨oc7, od7, .func (PySem.W.fnOf "_law_shuffled" "_law_shuffled" (zaQ s_law_shuffled) (zaF s_law_shuffled) (zah s_law_shuffled) .none kV7 dc7 pm7 an7 cd7 ct7), sl7⟩) (c7 : PySem.W.codeIn K cd7 "_law_shuffled" = true) (k7 : PySem.W.keepIn K (.ref f7) = true)
  (a8 : PySem.W.nsIn K mainGlobals "_law_places_drawn" = some (some (.ref f8))) (l8 : K.lookup f8 = some ⟨oc8, od8, .func (PySem.W.fnOf "_law_places_drawn" "_law_places_drawn" (zaQ s_law_places_drawn) (zaF s_law_places_drawn) (zah s_law_places_drawn) .none kV8 dc8 pm8 an8 cd8 ct8), sl8⟩) (c8 : PySem.W.codeIn K cd8 "_law_places_drawn" = true) (k8 : PySem.W.keepIn K (.ref f8) = true)
  (a9 : PySem.W.nsIn K mainGlobals "_law_web_drawn" = some (some (.ref f9))) (l9 : K.lookup f9 = some ⟨oc9, od9, .func (PySem.W.fnOf "_law_web_drawn" "_law_web_drawn" (zaQ s_law_web_drawn) (zaF s_law_web_drawn) (zah s_law_web_drawn) .none kV9 dc9 pm9 an9 cd9 ct9), sl9⟩) (c9 : PySem.W.codeIn K cd9 "_law_web_drawn" = true) (k9 : PySem.W.keepIn K (.ref f9) = true)
  (a10 : PySem.W.nsIn K mainGlobals "_law_tied" = some (some (.ref f10))) (l10 : K.lookup f10 = some ⟨oc10, od10, .func (PySem.W.fnOf "_law_tied" "_law_tied" (zaQ s_law_tied) (zaF s_law_tied) (zah s_law_tied) .none kV10 dc10 pm10 an10 cd10 ct10), sl10⟩) (c10 : PySem.W.codeIn K cd10 "_law_tied" = true) (k10 : PySem.W.keepIn K (.ref f10) = true)
  (a11 : PySem.W.nsIn K mainGlobals "_law_between" = some (some (.ref f11))) (l11 : K.lookup f11 = some ⟨oc11, od11, .func (PySem.W.fnOf "_law_between" "_law_between" (zaQ s_law_between) (zaF s_law_between) (zah s_law_between) .none kV11 dc11 pm11 an11 cd11 ct11), sl11⟩) (c11 : PySem.W.codeIn K cd11 "_law_between" = true) (k11 : PySem.W.keepIn K (.ref f11) = true)
  (a12 : PySem.W.nsIn K mainGlobals "_law_lots_drawn" = some (some (.ref f12))) (l12 : K.lookup f12 = some ⟨oc12, od12, .func (PySem.W.fnOf "_law_lots_drawn" "_law_lots_drawn" (zaQ s_law_lots_drawn) (zaF s_law_lots_drawn) (zah s_law_lots_drawn) .none kV12 dc12 pm12 an12 cd12 ct12), sl12⟩) (c12 : PySem.W.codeIn K cd12 "_law_lots_drawn" = true) (k12 : PySem.W.keepIn K (.ref f12) = true)
  (a13 : PySem.W.nsIn K mainGlobals "_law_told_drawn" = some (some (.ref f13))) (l13 : K.lookup f13 = some ⟨oc13, od13, .func (PySem.W.fnOf "_law_told_drawn" "_law_told_drawn" (zaQ s_law_told_drawn) (zaF s_law_told_drawn) (zah s_law_told_drawn) .none kV13 dc13 pm13 an13 cd13 ct13), sl13⟩) (c13 : PySem.W.codeIn K cd13 "_law_told_drawn" = true) (k13 : PySem.W.keepIn K (.ref f13) = true)
  (a14 : PySem.W.nsIn K mainGlobals "_law_due_extra" = some (some (.ref f14))) (l14 : K.lookup f14 = some ⟨oc14, od14, .func (PySem.W.fnOf "_law_due_extra" "_law_due_extra" (zaQ s_law_due_extra) (zaF s_law_due_extra) (zah s_law_due_extra) .none kV14 dc14 pm14 an14 cd14 ct14), sl14⟩) (c14 : PySem.W.codeIn K cd14 "_law_due_extra" = true) (k14 : PySem.W.keepIn K (.ref f14) = true)
  (a15 : PySem.W.nsIn K mainGlobals "law" = some (some (.ref f15))) (l15 : K.lookup f15 = some ⟨oc15, od15, .func (PySem.W.fnOf "law" "law" (zaQ s_law) (zaF s_law) (zah s_law) .none kV15 dc15 pm15 an15 cd15 ct15), sl15⟩) (c15 : PySem.W.codeIn K cd15 "law" = true) (k15 : PySem.W.keepIn K (.ref f15) = true)
  (z_tuple : PySem.W.nsIn K mainGlobals "tuple" = some none)
  (z_dict : PySem.W.nsIn K mainGlobals "dict" = some none)
  (z_zip : PySem.W.nsIn K mainGlobals "zip" = some none)
  (z_int : PySem.W.nsIn K mainGlobals "int" = some none)
  (z_len : PySem.W.nsIn K mainGlobals "len" = some none)
  (z_range : PySem.W.nsIn K mainGlobals "range" = some none)
  (z_max : PySem.W.nsIn K mainGlobals "max" = some none)
  (z_sorted : PySem.W.nsIn K mainGlobals "sorted" = some none)
  (z_min : PySem.W.nsIn K mainGlobals "min" = some none)
  (z_any : PySem.W.nsIn K mainGlobals "any" = some none)
  (z_list : PySem.W.nsIn K mainGlobals "list" = some none)
  (z_repr : PySem.W.nsIn K mainGlobals "repr" = some none)
  : ∃ fd : FuncData, (∀ (s : Shared) (v : Value), BindsTo s fd ⟨[v], []⟩ [("_law_script", v)]) ∧ ∀ base : Heap, K.In base → base.Ns mainGlobals mg → zcv l.prog w K mg base CX0 5 fa fd ["_law_script"] (zhd K) := by
 have e := hfa.symm.trans (PySem.W.mg_of X G a15)
 cases e
 have F1 := zbD (st := s_joins) l1 c1 k1
 have b1 := F1.binds (ps := ["tie", "some", "others"]) fun _ _ _ _ _ _ us hl => match us, hl with | [_, _, _], _ => rfl
 have m1 := PySem.W.mg_of X G a1
 have F2 := zbD (st := s_tied_between) l2 c2 k2
 have b2 := F2.binds (ps := ["web", "some", "others"]) fun _ _ _ _ _ _ us hl => match us, hl with | [_, _, _], _ => rfl
 have m2 := PySem.W.mg_of X G a2
 have F3 := zbD (st := s_extra) l3 c3 k3
 have b3 := F3.binds (ps := ["web", "told", "lots"]) fun _ _ _ _ _ _ us hl => match us, hl with | [_, _, _], _ => rfl
 have m3 := PySem.W.mg_of X G a3
 have F4 := zbD (st := s_law_hand_of) l4 c4 k4
 have b4 := F4.binds (ps := ["_law_script", "_law_k"]) fun _ _ _ _ _ _ us hl => match us, hl with | [_, _], _ => rfl
 have m4 := PySem.W.mg_of X G a4
 have F5 := zbD (st := s_law_take) l5 c5 k5
 have b5 := F5.binds (ps := ["_law_hand", "_law_many"]) fun _ _ _ _ _ _ us hl => match us, hl with | [_, _], _ => rfl
 have m5 := PySem.W.mg_of X G a5
 have F6 := zbD (st := s_law_pick) l6 c6 k6
 have b6 := F6.binds (ps := ["_law_hand", "_law_some"]) fun _ _ _ _ _ _ us hl => match us, hl with | [_, _], _ => rfl
 have m6 := PySem.W.mg_of X G a6
 have F7 := zbD (st := s_law_shuffled) l7 c7 k7
 have b7 := F7.binds (ps := ["_law_hand", "_law_some"]) fun _ _ _ _ _ _ us hl => match us, hl with | [_, _], _ => rfl
 have m7 := PySem.W.mg_of X G a7
 have F8 := zbD (st := s_law_places_drawn) l8 c8 k8
 have b8 := F8.binds (ps := ["_law_hand", "_law_many"]) fun _ _ _ _ _ _ us hl => match us, hl with | [_, _], _ => rfl
 have m8 := PySem.W.mg_of X G a8
 have F9 := zbD (st := s_law_web_drawn) l9 c9 k9
 have b9 := F9.binds (ps := ["_law_hand", "_law_many", "_law_most"]) fun _ _ _ _ _ _ us hl => match us, hl with | [_, _, _], _ => rfl
 have m9 := PySem.W.mg_of X G a9
 have F10 := zbD (st := s_law_tied) l10 c10 k10
 have b10 := F10.binds (ps := ["_law_web", "_law_a", "_law_b"]) fun _ _ _ _ _ _ us hl => match us, hl with | [_, _, _], _ => rfl
 have m10 := PySem.W.mg_of X G a10
 have F11 := zbD (st := s_law_between) l11 c11 k11
 have b11 := F11.binds (ps := ["_law_web", "_law_one", "_law_other"]) fun _ _ _ _ _ _ us hl => match us, hl with | [_, _, _], _ => rfl
 have m11 := PySem.W.mg_of X G a11
 have F12 := zbD (st := s_law_lots_drawn) l12 c12 k12
 have b12 := F12.binds (ps := ["_law_hand", "_law_web", "_law_many"]) fun _ _ _ _ _ _ us hl => match us, hl with | [_, _, _], _ => rfl
 have m12 := PySem.W.mg_of X G a12
 have F13 := zbD (st := s_law_told_drawn) l13 c13 k13
 have b13 := F13.binds (ps := ["_law_hand", "_law_web", "_law_lots"]) fun _ _ _ _ _ _ us hl => match us, hl with | [_, _, _], _ => rfl
 have m13 := PySem.W.mg_of X G a13
 have F14 := zbD (st := s_law_due_extra) l14 c14 k14
 have b14 := F14.binds (ps := ["_law_web", "_law_told", "_law_lots"]) fun _ _ _ _ _ _ us hl => match us, hl with | [_, _, _], _ => rfl
 have m14 := PySem.W.mg_of X G a14
 have F15 := zbD (st := s_law) l15 c15 k15
 have b15 := F15.binds (ps := ["_law_script"]) fun _ _ _ _ _ _ us hl => match us, hl with | [_], _ => rfl
 have m15 := PySem.W.mg_of X G a15
 have T : Txt mg := ⟨PySem.W.mg_none_of X G z_tuple, PySem.W.mg_none_of X G z_dict, PySem.W.mg_none_of X G z_zip, PySem.W.mg_none_of X G z_int, PySem.W.mg_none_of X G z_len, PySem.W.mg_none_of X G z_range, PySem.W.mg_none_of X G z_max, PySem.W.mg_none_of X G z_sorted, PySem.W.mg_none_of X G z_min, PySem.W.mg_none_of X G z_any, PySem.W.mg_none_of X G z_list, PySem.W.mg_none_of X G z_repr⟩
 refine ⟨PySem.W.fnOf "law" "law" (zaQ s_law) (zaF s_law) (zah s_law) .none kV15 dc15 pm15 an15 cd15 ct15, fun s v => .of_eq rfl, fun base _ _ => ?_⟩
 have C_joins : zaS l.prog w K mg base "joins" ["tie", "some", "others"] 1 (spV K FF.zbC) := ⟨f1, _, ok_joins F1 T, b1, F1.kp, m1⟩
 have C_tied_between : zaS l.prog w K mg base "tied_between" ["web", "some", "others"] 2 (spV K FF.zaD) := ⟨f2, _, ok_tied_between F2 T C_joins, b2, F2.kp, m2⟩
 have C_extra : zaS l.prog w K mg base "extra" ["web", "told", "lots"] 3 (spV K FF.zaI) := ⟨f3, _, ok_extra F3 T C_tied_between, b3, F3.kp, m3⟩
 have C_law_hand_of : zaS l.prog w K mg base "_law_hand_of" ["_law_script", "_law_k"] 1 (spV K FF.zaH) := ⟨f4, _, ok_law_hand_of F4 T, b4, F4.kp, m4⟩
 have C_law_take : zaS l.prog w K mg base "_law_take" ["_law_hand", "_law_many"] 1 (spV K FF.zai) := ⟨f5, _, ok_law_take F5 T, b5, F5.kp, m5⟩
 have C_law_pick : zaS l.prog w K mg base "_law_pick" ["_law_hand", "_law_some"] 2 (spV K FF.zag) := ⟨f6, _, ok_law_pick F6 T C_law_take, b6, F6.kp, m6⟩
 have C_law_shuffled : zaS l.prog w K mg base "_law_shuffled" ["_law_hand", "_law_some"] 2 (spV K FF.zaT) := ⟨f7, _, ok_law_shuffled F7 T C_law_take, b7, F7.kp, m7⟩
 have C_law_places_drawn : zaS l.prog w K mg base "_law_places_drawn" ["_law_hand", "_law_many"] 3 (spV K FF.zap) := ⟨f8, _, ok_law_places_drawn F8 T C_law_pick, b8, F8.kp, m8⟩
 have C_law_web_drawn : zaS l.prog w K mg base "_law_web_drawn" ["_law_hand", "_law_many", "_law_most"] 4 (spV K FF.zaB) := ⟨f9, _, ok_law_web_drawn F9 T C_law_shuffled C_law_take C_law_places_drawn C_law_pick, b9, F9.kp, m9⟩
 have C_law_tied : zaS l.prog w K mg base "_law_tied" ["_law_web", "_law_a", "_law_b"] 1 (spV K FF.zaL) := ⟨f10, _, ok_law_tied F10 T, b10, F10.kp, m10⟩
 have C_law_between : zaS l.prog w K mg base "_law_between" ["_law_web", "_law_one", "_law_other"] 1 (spV K FF.zaA) := ⟨f11, _, ok_law_between F11 T, b11, F11.kp, m11⟩
 have C_law_lots_drawn : zaS l.prog w K mg base "_law_lots_drawn" ["_law_hand", "_law_web", "_law_many"] 3 (spV K FF.zaw) := ⟨f12, _, ok_law_lots_drawn F12 T C_law_pick C_law_tied C_law_take, b12, F12.kp, m12⟩
 have C_law_told_drawn : zaS l.prog w K mg base "_law_told_drawn" ["_law_hand", "_law_web", "_law_lots"] 4 (spV K FF.zax) := ⟨f13, _, ok_law_told_drawn F13 T C_law_take C_law_between C_law_pick C_law_places_drawn, b13, F13.kp, m13⟩
 have C_law_due_extra : zaS l.prog w K mg base "_law_due_extra" ["_law_web", "_law_told", "_law_lots"] 1 (spV K FF.zan) := ⟨f14, _, ok_law_due_extra F14 T, b14, F14.kp, m14⟩
 exact zn4 (ok_law F15 T C_extra C_law_due_extra C_law_told_drawn C_law_lots_drawn C_law_take C_law_web_drawn C_law_pick C_law_hand_of) PQ.law_k19
theorem walk {l : PySem.W.OpenLaw} {q : Program} {loose : List Str} {XP : (Str → Option Value) → Heap → Prop} {YP : World → Heap → Prop} {d : DefRec} {K : Params → PySem.W.Frag} (hn : l.most = some 63) (hdf : d.params.defaults = [])
  (hY : ∀ (w : World) (h : Heap), YP w h → (K w.params).In h)
  (F : ∀ (w : World) (mg : Str → Option Value) (fa : Addr) (h : Heap), (K w.params).In h → h.Ns mainGlobals mg → mg d.name = some (.ref fa) →
   ∃ fd : FuncData, (∀ (s : Shared) (u : Value), BindsTo s fd ⟨[u], []⟩ [("_law_script", u)]) ∧ ∀ base : Heap, (K w.params).In base → base.Ns mainGlobals mg → zcv l.prog w (K w.params) mg base CX0 5 fa fd ["_law_script"] (zhd (K w.params))) :
  PySem.W.WalkO q loose XP YP l.row.toRowW d [] (fun f vs => PySem.call f vs) :=
 L2.zli (n := 63) (k := 5) (x := "_law_script") (CX := fun _ => CX0) (sp := fun w => zhd (K w.params)) hn (by decide) hdf ⟨rfl, by decide, by decide, rfl⟩ hY F (fun _ _ a ns hl _ hS => ⟨a, ns, rfl, hS, hl, fun _ => rfl⟩) fun _ _ _ _ _ z => z
end Lk19
open PySem PySem.W PyProof.Rows
theorem PySem.Challenge.cw_drawnweb_k19_ties_besides_holds : PySem.Challenge.rw_drawnweb_k19_ties_besides.Holds := by
 w_on; o_law; k_head; (case hw => w_witness2)
 k_fill
 refine Lk19.walk (l := PySem.Challenge.rw_drawnweb_k19_ties_besides) rfl rfl (fun w h Y => PySem.W.kIn_of Y) ?F
 case F =>
  intro w mg fa h KX G hmg
  refine' Lk19.all_mk KX G hmg ?a1 ?l1 ?c1 ?k1 ?a2 ?l2 ?c2 ?k2 ?a3 ?l3 ?c3 ?k3 ?a4 ?l4 ?c4 ?k4 ?a5 ?l5 ?c5 ?k5 ?a6 ?l6 ?c6 ?k6 ?a7 ?l7 ?c7 ?k7 ?a8 ?l8 ?c8 ?k8 ?a9 ?l9 ?c9 ?k9 ?a10 ?l10 ?c10 ?k10 ?a11 ?l11 ?c11 ?k11 ?a12 ?l12 ?c12 ?k12 ?a13 ?l13 ?c13 ?k13 ?a14 ?l14 ?c14 ?k14 ?a15 ?l15 ?c15 ?k15 ?z_tuple ?z_dict ?z_zip ?z_int ?z_len ?z_range ?z_max ?z_sorted ?z_min ?z_any ?z_list ?z_repr
  (case a1 => k_is); (case l1 => k_is); (case c1 => k_is); (case k1 => k_is)
  (case a2 => k_is); (case l2 => k_is); (case c2 => k_is); (case k2 => k_is)
  (case a3 => k_is); (case l3 => k_is); (case c3 => k_is); (case k3 => k_is)
  (case a4 => k_is); (case l4 => k_is); (case c4 => k_is); (case k4 => k_is)
  (case a5 => k_is); (case l5 => k_is); (case c5 => k_is); (case k5 => k_is)
  (case a6 => k_is); (case l6 => k_is); (case c6 => k_is); (case k6 => k_is)
  (case a7 => k_is); (case l7 => k_is); (case c7 => k_is); (case k7 => k_is)
  (case a8 => k_is); (case l8 => k_is); (case c8 => k_is); (case k8 => k_is)
  (case a9 => k_is); (case l9 => k_is); (case c9 => k_is); (case k9 => k_is)
  (case a10 => k_is); (case l10 => k_is); (case c10 => k_is); (case k10 => k_is)
  (case a11 => k_is); (case l11 => k_is); (case c11 => k_is); (case k11 => k_is)
  (case a12 => k_is); (case l12 => k_is); (case c12 => k_is); (case k12 => k_is)
  (case a13 => k_is); (case l13 => k_is); (case c13 => k_is); (case k13 => k_is)
  (case a14 => k_is); (case l14 => k_is); (case c14 => k_is); (case k14 => k_is)
  (case a15 => k_is); (case l15 => k_is); (case c15 => k_is); (case k15 => k_is)
  (case z_tuple => k_is); (case z_dict => k_is); (case z_zip => k_is); (case z_int => k_is); (case z_len => k_is); (case z_range => k_is); (case z_max => k_is); (case z_sorted => k_is); (case z_min => k_is); (case z_any => k_is); (case z_list => k_is); (case z_repr => k_is)
end
