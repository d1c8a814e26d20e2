/-
  The wheels in memory: timers' blocks, the wheels' own block, the row of those behind the wheels.
-/
import Derived.Test.YtmmghdnlppjgbaaWhMap
import Derived.Test.YtmmghdnlppjgbaaWhHeap
import Derived.Deep.AppendLies
import Derived.WalkSmall
import Derived.OneCell
import Derived.Laws.OwnMore
import Derived.Lib.OwnKind
import Derived.RegionTactic
namespace Go.Proofs.Ytmmghdnlppjgbaa
set_option maxRecDepth 100000
open Go.RowKit
/-- Nothing has turned but what lies in O, and what is new. -/
structure Fr (O : Nat → Prop) (w w' : World) : Prop where
  os : w'.os = w.os
  tape : w'.tape = w.tape
  output : w'.output = w.output
  size : w.heap.size ≤ w'.heap.size
  block : ∀ k, k < w.heap.size → ¬ O k → w'.heap[k]? = w.heap[k]?
theorem Fr.refl (O : Nat → Prop) (w : World) : Fr O w w := ⟨rfl, rfl, rfl, Nat.le_refl _, fun _ _ _ => rfl⟩
theorem Fr.drewN (O : Nat → Prop) (w : World) (n : Nat) : Fr O w (w.drewN n) := ⟨rfl, rfl, rfl, Nat.le_refl _, fun _ _ _ => rfl⟩
theorem Fr.trans {O O' : Nat → Prop} {a b c : World} (h : Fr O a b) (k : Fr O' b c) (hs : ∀ i, i < a.heap.size → O' i → O i) : Fr O a c :=
  ⟨k.os.trans h.os, k.tape.trans h.tape, k.output.trans h.output, Nat.le_trans h.size k.size, fun i hi hn => (k.block i (Nat.lt_of_lt_of_le hi h.size) (fun e => hn (hs i hi e))).trans (h.block i hi hn)⟩
theorem Fr.trans0 {O : Nat → Prop} {a b c : World} (h : Fr O a b) (k : Fr O b c) : Fr O a c := h.trans k fun _ _ e => e
theorem Fr.mono {O O' : Nat → Prop} {a b : World} (h : Fr O a b) (hs : ∀ i, i < a.heap.size → O i → O' i) : Fr O' a b := ⟨h.os, h.tape, h.output, h.size, fun k hk hn => h.block k hk fun e => hn (hs k hk e)⟩
theorem Fr.of_below {O : Nat → Prop} {w w' : World} (h : Below w.heap.size w w') : Fr O w w' := ⟨h.os, h.tape, h.output, h.size, fun k hk _ => h.block k hk⟩
theorem Fr.of_drew {O : Nat → Prop} {w w' : World} (h : ∃ m, w' = w.drewN m) : Fr O w w' := by obtain ⟨m, rfl⟩ := h; exact Fr.drewN O w m
theorem Fr.below {O : Nat → Prop} {w w' : World} (h : Fr O w w') {B : Nat} (hB : B ≤ w.heap.size) (hO : ∀ k, k < B → ¬ O k) : Below B w w' := ⟨h.os, h.tape, h.output, h.size, fun k hk => h.block k (by omega) (hO k hk)⟩
theorem Fr.set {O : Nat → Prop} {a w : World} (h : Fr O a w) {b : Nat} (hb : O b) (i : Nat) (v : Value) : Fr O a (w.setCell ⟨b, i, none⟩ v) :=
  ⟨h.os, h.tape, h.output, by rw [World.size_setCell]; exact h.size, fun k hk hne => (Below.heap_setCell _ _ _ k (fun e => hne (by rw [show k = b from e]; exact hb))).trans (h.block k hk hne)⟩
theorem Fr.alloc {O : Nat → Prop} {a w : World} (h : Fr O a w) (o : Obj) : Fr O a (w.alloc o) :=
  h.trans (Fr.of_below ((Below.refl _ w).alloc (Nat.le_refl _) o) : Fr O w (w.alloc o)) fun _ _ e => e
theorem Fr.heap {O : Nat → Prop} {a w w' : World} (h : Fr O a w) (e0 : w'.os = w.os) (e1 : w'.tape = w.tape) (e2 : w'.output = w.output) (e3 : w'.heap = w.heap) : Fr O a w' := ⟨e0.trans h.os, e1.trans h.tape, e2.trans h.output, by rw [e3]; exact h.size, by rw [e3]; exact h.block⟩
theorem Fr.drew {O : Nat → Prop} {a w : World} (h : Fr O a w) : Fr O a w.drew := ⟨h.os, h.tape, h.output, h.size, h.block⟩
theorem Fr.turned {O : Nat → Prop} {a w w' : World} (h : Fr O a w) {m : Nat} (k : w.mapTurned w' m) (hm : O m) : Fr O a w' := by
  have g := k.grown
  exact h.trans (⟨g.os, g.tape, g.output, g.size, fun i hi hn => g.block i hi (fun e => hn (by cases e; exact hm))⟩ : Fr O w w') fun _ _ e => e
abbrev tmC (i f l p : Int) : Array Value := #[.int .i64 i, .int .i64 f, .int .i64 l, .int .i64 p]
/-- A timer that lives at block a. -/
def TmB (w : World) (a : Nat) (i f l p : Int) : Prop := w.heap[a]? = some (.cells (tmC i f l p) 68 (0, 0))
theorem TmB.cells {w : World} {a : Nat} {i f l p : Int} (h : TmB w a i f l p) : w.cell? ⟨a, 0, none⟩ = some (.int .i64 i) ∧ w.cell? ⟨a, 1, none⟩ = some (.int .i64 f) ∧ w.cell? ⟨a, 2, none⟩ = some (.int .i64 l) ∧ w.cell? ⟨a, 3, none⟩ = some (.int .i64 p) :=
  ⟨cellOf h 0, cellOf h 1, cellOf h 2, cellOf h 3⟩
theorem TmB.of {w w' : World} {a : Nat} {i f l p : Int} (h : TmB w a i f l p) (k : w'.heap[a]? = w.heap[a]?) : TmB w' a i f l p := k.trans h
theorem TmB.setLevel {w : World} {a : Nat} {i f l p : Int} (h : TmB w a i f l p) (l' : Int) : TmB (w.setCell ⟨a, 2, none⟩ (.int .i64 l')) a i f l' p := setOf h 2 (.int .i64 l')
theorem TmB.setPlace {w : World} {a : Nat} {i f l p : Int} (h : TmB w a i f l p) (p' : Int) : TmB (w.setCell ⟨a, 3, none⟩ (.int .i64 p')) a i f l p' := setOf h 3 (.int .i64 p')
theorem set_far {w : World} {a b : Nat} (hne : a ≠ b) (i : Nat) (v : Value) : (w.setCell ⟨b, i, none⟩ v).heap[a]? = w.heap[a]? := Below.heap_setCell _ _ _ a (fun e => hne e)
theorem TmB.far {w : World} {a b : Nat} {i f l p : Int} (h : TmB w a i f l p) (hne : a ≠ b) (o : Nat) (v : Value) : TmB (w.setCell ⟨b, o, none⟩ v) a i f l p := h.of (set_far hne o v)
/-- The wheels' own block. -/
def WB (w : World) (b : Nat) (n : Int) (mt : Nat) (sv : Nat → Option Nat) (v : Value) : Prop :=
  ∃ cs, w.heap[b]? = some (.cells cs 65 (0, 0)) ∧ cs.size = 259 ∧ cs[0]? = some (.int .i64 n) ∧ cs[1]? = some (.map (some mt)) ∧ (∀ k, k < 256 → cs[2 + k]? = some (.map (sv k))) ∧ cs[258]? = some v
section
variable {w : World} {b : Nat} {n : Int} {mt : Nat} {sv : Nat → Option Nat} {v : Value}
theorem WB.now (h : WB w b n mt sv v) : w.cell? ⟨b, 0, none⟩ = some (.int .i64 n) := by obtain ⟨cs, h0, _, h1, _⟩ := h; rw [cellOf h0, h1]
theorem WB.map (h : WB w b n mt sv v) : w.cell? ⟨b, 1, none⟩ = some (.map (some mt)) := by obtain ⟨cs, h0, _, _, h1, _⟩ := h; rw [cellOf h0, h1]
theorem WB.slot (h : WB w b n mt sv v) {k : Nat} (hk : k < 256) : w.cell? ⟨b, 2 + k, none⟩ = some (.map (sv k)) := by obtain ⟨cs, h0, _, _, _, h1, _⟩ := h; rw [cellOf h0, h1 k hk]
theorem WB.list (h : WB w b n mt sv v) : w.cell? ⟨b, 258, none⟩ = some v := by obtain ⟨cs, h0, _, _, _, _, h1⟩ := h; rw [cellOf h0, h1]
theorem WB.free (h : WB w b n mt sv v) (i : Nat) : w.frozen? ⟨b, i, none⟩ = false := by obtain ⟨cs, h0, _⟩ := h; exact freeOf h0 i
theorem WB.of {w' : World} (h : WB w b n mt sv v) (k : w'.heap[b]? = w.heap[b]?) : WB w' b n mt sv v := by obtain ⟨cs, h0, h1⟩ := h; exact ⟨cs, k.trans h0, h1⟩
theorem WB.lt (h : WB w b n mt sv v) : b < w.heap.size := by obtain ⟨cs, h0, _⟩ := h; exact ltOf h0
theorem WB.far (h : WB w b n mt sv v) {a : Nat} (hne : b ≠ a) (o : Nat) (u : Value) : WB (w.setCell ⟨a, o, none⟩ u) b n mt sv v := h.of (set_far hne o u)
theorem WB.setNow (h : WB w b n mt sv v) (n' : Int) : WB (w.setCell ⟨b, 0, none⟩ (.int .i64 n')) b n' mt sv v := by
  obtain ⟨cs, h0, hs, h1, h2, h3, h4⟩ := h
  refine ⟨_, setOf h0 0 _, by simpa using hs, by rw [Array.getElem?_setIfInBounds_self_of_lt (by omega)], by rw [Array.getElem?_setIfInBounds_ne (by omega)]; exact h2, fun k hk => ?_, by rw [Array.getElem?_setIfInBounds_ne (by omega)]; exact h4⟩
  rw [Array.getElem?_setIfInBounds_ne (by omega)]; exact h3 k hk
def upS (sv : Nat → Option Nat) (k : Nat) (m : Option Nat) : Nat → Option Nat := fun i => if i = k then m else sv i
theorem WB.setSlot (h : WB w b n mt sv v) {k : Nat} (hk : k < 256) (m : Option Nat) : WB (w.setCell ⟨b, 2 + k, none⟩ (.map m)) b n mt (upS sv k m) v := by
  obtain ⟨cs, h0, hs, h1, h2, h3, h4⟩ := h
  refine ⟨_, setOf h0 (2 + k) _, by simpa using hs, by rw [Array.getElem?_setIfInBounds_ne (by omega)]; exact h1, by rw [Array.getElem?_setIfInBounds_ne (by omega)]; exact h2, fun i hi => ?_, by rw [Array.getElem?_setIfInBounds_ne (by omega)]; exact h4⟩
  unfold upS
  by_cases e : i = k
  · subst e; rw [if_pos rfl, Array.getElem?_setIfInBounds_self_of_lt (by omega)]
  · rw [if_neg e, Array.getElem?_setIfInBounds_ne (by omega)]; exact h3 i hi
theorem WB.setList (h : WB w b n mt sv v) (v' : Value) : WB (w.setCell ⟨b, 258, none⟩ v') b n mt sv v' := by
  obtain ⟨cs, h0, hs, h1, h2, h3, h4⟩ := h
  refine ⟨_, setOf h0 258 _, by simpa using hs, by rw [Array.getElem?_setIfInBounds_ne (by omega)]; exact h1, by rw [Array.getElem?_setIfInBounds_ne (by omega)]; exact h2, fun i hi => ?_, by rw [Array.getElem?_setIfInBounds_self_of_lt (by omega)]⟩
  rw [Array.getElem?_setIfInBounds_ne (by omega)]; exact h3 i hi
end
/-- A timer behind the wheels. -/
structure Hd where
  a : Nat
  id : Int
  f : Int
abbrev Hd.ptr (h : Hd) : Value := ptrV h.a
def keyL (L : List Hd) (k : Nat) : Int := match L[k]? with | some h => h.f | none => 0
theorem keyL_at {L : List Hd} {k : Nat} {h : Hd} (e : L[k]? = some h) : keyL L k = h.f := by simp [keyL, e]
theorem keyL_sw {L : List Hd} {i j : Nat} (hi : i < L.length) (hj : j < L.length) : ∀ k, keyL (swL L i j) k = swK (keyL L) i j k := by
  intro k
  obtain ⟨x, hx⟩ : ∃ x, L[i]? = some x := ⟨_, List.getElem?_eq_getElem hi⟩
  obtain ⟨y, hy⟩ : ∃ y, L[j]? = some y := ⟨_, List.getElem?_eq_getElem hj⟩
  by_cases h1 : k = j
  · subst h1
    rw [keyL_at (h := x) (by rw [swL_get hx hy, if_pos rfl]), swK_r, keyL_at hx]
  · by_cases h2 : k = i
    · subst h2
      rw [keyL_at (h := y) (by rw [swL_get hx hy, if_neg h1, if_pos rfl]), swK_l, keyL_at hy]
    · rw [swK_o _ h2 h1]
      unfold keyL
      rw [swL_get hx hy, if_neg h1, if_neg h2]
/-- THE ROW BEHIND THE WHEELS: its timers, each of which knows its place. -/
structure HS (O : Nat → Prop) (b : Nat) (n : Int) (mt : Nat) (sv : Nat → Option Nat) (v : Value) (L : List Hd) (w : World) : Prop where
  wb : WB w b n mt sv v
  row : w.ownsRow 0 66 1 v L.length (L.map Hd.ptr)
  hd : ∀ (k : Nat) (h : Hd), L[k]? = some h → TmB w h.a h.id h.f 4 k
  nd : (L.map Hd.a).Nodup
  ob : O b
  ov : ∀ g, v.ownBlock = some g → O g
  ol : ∀ h ∈ L, O h.a
  few : L.length ≤ 1000000
  olt : ∀ k, O k → k < w.heap.size
theorem HS.drewN {O : Nat → Prop} {b : Nat} {n : Int} {mt : Nat} {sv : Nat → Option Nat} {v : Value} {L : List Hd} {w : World} (h : HS O b n mt sv v L w) (m : Nat) : HS O b n mt sv v L (w.drewN m) := ⟨h.wb, h.row, h.hd, h.nd, h.ob, h.ov, h.ol, h.few, h.olt⟩
theorem HS.form {O : Nat → Prop} {b : Nat} {n : Int} {mt : Nat} {sv : Nat → Option Nat} {v : Value} {L : List Hd} {w : World} (h : HS O b n mt sv v L w) (hl : 0 < L.length) : ∃ g cap, v = .slice (some ⟨g, 0, none⟩) L.length cap ∧ L.length ≤ cap ∧ cap ≤ maxLen ∧ (∀ k x, L[k]? = some x → w.cell? ⟨g, k, none⟩ = some (ptrV x.a)) ∧ (∀ k, w.frozen? ⟨g, k, none⟩ = false) ∧ O g := by
  have hr := h.row
  obtain ⟨_, h2⟩ := h.row
  rcases h2 with ⟨_, h0⟩ | ⟨g, cap, cur, hv, _, hg, h1, h3, _⟩
  · omega
  · subst hv
    refine ⟨g, cap, rfl, h1, h3, fun k x hx => ?_, fun k => freeOf hg k, h.ov g rfl⟩
    rw [hr.cellAt k (by have := (List.getElem?_eq_some_iff.1 hx).1; omega), List.getElem?_map, hx]; rfl
/-- Blocks of other kinds are none of the row's. -/
theorem own_kind {w : World} {v : Value} {m : Nat} {xs : List Value} {g : Nat} {cs : Array Value} {t : TypeId} {fz : Nat × Nat} (h : w.ownsRow 0 66 1 v m xs) (hg : w.heap[g]? = some (.cells cs t fz)) (ht : t ≠ 66) : v.ownBlock ≠ some g := by
  intro e
  rcases h.2 with ⟨rfl, _⟩ | ⟨k, cap, cur, rfl, _, hk, _⟩
  · cases e
  · simp [Value.ownBlock] at e
    subst e
    rw [hk] at hg
    injection hg with hg
    injection hg with _ h2
    exact ht h2.symm
theorem own_map {w : World} {v : Value} {m : Nat} {xs : List Value} {g : Nat} (h : w.ownsRow 0 66 1 v m xs) (o : Obj) (hg : w.heap[g]? = some o) (ho : ∀ cs t fz, o ≠ .cells cs t fz) : v.ownBlock ≠ some g := by
  intro e
  rcases h.2 with ⟨rfl, _⟩ | ⟨k, cap, cur, rfl, _, hk, _⟩
  · cases e
  · simp [Value.ownBlock] at e
    subst e
    rw [hk] at hg
    injection hg with hg
    exact ho _ _ _ hg.symm
end Go.Proofs.Ytmmghdnlppjgbaa
