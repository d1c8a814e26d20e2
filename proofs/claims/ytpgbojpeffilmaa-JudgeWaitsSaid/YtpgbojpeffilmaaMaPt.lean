/-
  PtSmall · PtBytes · PtCut, in one text.
-/
import Derived.Test.YtpgbojpeffilmaaProg
import Derived.Test.YtpgbojpeffilmaaMaBuild
import Derived.Test.YtpgbojpeffilmaaPtMath
import Derived.Test.YtpgbojpeffilmaaRows
import Derived.Lib.Strings
import Derived.WalkKit
import Derived.WalkSpells
import Derived.WalkLawsBesides
import Derived.Deep.QuietTactic
import Derived.BigQuiet
import Derived.StillTailTactics
import Derived.Lib.Hide
import Derived.Maps.AppendAt
import Derived.Deep.AppendLies
import Derived.Deep.RegionWith
import Derived.Deep.RegionHeld3
import Derived.Deep.DeepFit
import Derived.Deep.LoopGhost
import Derived.IntWalk
import Derived.Lib.IndexBytes
import Derived.Laws.BytesString
import Derived.Shelf.Strings.Search1
import Derived.Shelf.Strings.Search2
import Derived.Shelf.Strings.Search3
import Derived.Shelf.LaysM
import Derived.Shelf.Strings.Shaped
import Derived.Shelf.Strings.BuilderK
import Derived.Lib.FrozenHead2
import Derived.Deep.MidRow
import Derived.Laws.ResultCell
import Derived.Laws.StructEq
import Derived.Lib.ConvBytes
/-
  The walks of path's small functions: kinds of bytes, every, small, null, hostless, long.
-/
namespace Go.Proofs.Ytpgbojpeffilmaa.P
set_option maxRecDepth 100000
open Go.RowKit
theorem dle (a b : Nat) : decide ((a : Int) ≤ (b : Int)) = decide (a ≤ b) := by
  by_cases h : a ≤ b
  · rw [decide_eq_true h]; exact decide_eq_true (by omega)
  · rw [decide_eq_false h]; exact decide_eq_false (by omega)
theorem dle1 (a b : Nat) (m : Int) (hm : m = (a : Int)) : decide (m ≤ (b : Int)) = decide (a ≤ b) := by rw [hm]; exact dle a b
theorem dle2 (a b : Nat) (m : Int) (hm : m = (b : Int)) : decide ((a : Int) ≤ m) = decide (a ≤ b) := by rw [hm]; exact dle a b
theorem byte_beq (b : UInt8) (n : Nat) (hn : n < 256) (m : Int) (hm : m = (n : Int)) : ((b.toNat : Int) == m) = (b == UInt8.ofNat n) := by
  subst hm
  rw [Bool.eq_iff_iff, byte_eq hn, beq_iff_eq]
theorem byte_bne (b : UInt8) (n : Nat) (hn : n < 256) (m : Int) (hm : m = (n : Int)) : ((b.toNat : Int) != m) = (b != UInt8.ofNat n) := by
  rw [bne, byte_beq b n hn m hm]; rfl

/-- Where a sign stands among those of atoms. -/
theorem ib_none : ∀ (l : List UInt8) (c : UInt8), (0 ≤ Lib.indexByte l c) = (l.contains c = true)
  | [], c => by simp [Lib.indexByte]
  | b :: l, c => by
    have ih := ib_none l c
    have h1 := Lib.indexByte_ge l c
    rw [Lib.indexByte]
    split
    · rename_i h
      have : b = c := eq_of_beq h
      simp [this]
    · rename_i h
      have hne : ¬ c = b := fun e => h (by rw [e]; exact beq_self_eq_true b)
      split
      · rename_i h2
        rw [beq_iff_eq] at h2
        rw [h2] at ih
        simpa [hne] using ih
      · rename_i h2
        have h3 : Lib.indexByte l c ≠ -1 := fun e => h2 (by rw [e]; rfl)
        have : (0 ≤ Lib.indexByte l c + 1) = (0 ≤ Lib.indexByte l c) := propext ⟨fun _ => by omega, fun _ => by omega⟩
        rw [this, ih]
        simp [hne]
theorem ib_dec (c : UInt8) : decide (0 ≤ Lib.indexByte signsL c) = signsL.contains c := by
  rw [Bool.eq_iff_iff, decide_eq_true_iff, ib_none]
/-- A function value that answers of a byte whether it is of a kind. -/
def Kind (k : Nat) (p : UInt8 → Bool) : Prop := ∀ (b : UInt8) (w : World), Calls Try.prog k #[.int .u8 (b.toNat : Int)] w fun e w' => e = .returned (.bool (p b)) ∧ w = w'
theorem all_take {l : List UInt8} {p : UInt8 → Bool} {k : Nat} {x : UInt8} (hx : l[k]? = some x) (h : (l.take k).all p = true) (hp : p x = true) : (l.take (k + 1)).all p = true := by
  obtain ⟨hk, e⟩ := List.getElem?_eq_some_iff.1 hx
  rw [List.take_succ_eq_append_getElem hk, List.all_append, h, e]
  simp [hp]
theorem all_not {l : List UInt8} {p : UInt8 → Bool} {k : Nat} {x : UInt8} (hx : l[k]? = some x) (hp : p x = false) : l.all p = false := by
  rw [List.all_eq_false]
  exact ⟨x, List.mem_of_getElem? hx, by rw [hp]; exact Bool.false_ne_true⟩
end Go.Proofs.Ytpgbojpeffilmaa.P
/-
  The walks of path's small, Null, hostless and long.
-/
namespace Go.Proofs.Ytpgbojpeffilmaa.P
set_option maxRecDepth 100000
open Go.RowKit
theorem Try.eqPath (a b c d : ByteArray) (w : World) : (Op.equalIn 10000 30 (.agg #[.string a, .string b]) (.agg #[.string c, .string d])).run Try.prog w = .ok (a.toList == c.toList && b.toList == d.toList) w := by
  have u9 := Try.underlying9
  have a9 := Try.isAgg9
  have z9 := Try.sizeOf9
  have hS : Try.prog.underlying 30 = some (.struct (Try.prog.fieldsOf 30)) := by kernel_rfl
  have hp : Try.prog.stoodInHeld 30 = false := by kernel_rfl
  rw [show (10000 : Nat) = 9999 + 1 from rfl, run_equalIn_agg w 9999 30 _ _ hS hp]
  simp only [Program.fieldsOf, Try.underlying30]
  go_simp
  by_cases h1 : a.toList = c.toList <;> by_cases h2 : b.toList = d.toList <;> simp [h1, h2]
/-- Of two paths: are they one? -/
theorem eqP (p q : Pth) (w : World) : (Op.equalIn 10000 30 (.agg #[.string (mkS p.1), .string (mkS p.2)]) (.agg #[.string (mkS q.1), .string (mkS q.2)])).run Try.prog w = .ok (p.1 == q.1 && p.2 == q.2) w := by
  rw [Try.eqPath, mkS_toList, mkS_toList, mkS_toList, mkS_toList]
theorem below_box (w : World) (o : Obj) : Below w.heap.size w (w.alloc o) := (Below.refl _ w).alloc (Nat.le_refl _) _
set_option maxRecDepth 100000 in
set_option maxHeartbeats 400000 in
theorem null_x (p : Pth) (w : World) : Calls Try.prog 23 #[.agg #[.string (mkS p.1), .string (mkS p.2)]] w fun e w' => e = .returned (.bool (nullB p)) ∧ Below w.heap.size w w' := by
  have he : ∀ w, (Op.equalIn 10000 30 (.agg #[.string (mkS p.1), .string (mkS p.2)]) (.agg #[.string { data := #[] }, .string { data := #[] }])).run Try.prog w = .ok (nullB p) w := fun w => eqP p ([], []) w
  go_enter Try.func23, Try.ntmps23
  go_wp2_with fail
  go_ret
  exact ⟨rfl, below_box _ _⟩
/-- The letters ahead of place j made small. -/
def smUp (l : List UInt8) (j : Nat) : List UInt8 := smallL (l.take j) ++ l.drop j
theorem smUp_zero (l : List UInt8) : smUp l 0 = l := by simp [smUp, smallL]
theorem smUp_all (l : List UInt8) : smUp l l.length = smallL l := by simp [smUp]
theorem smUp_length (l : List UInt8) (j : Nat) : (smUp l j).length = l.length := by simp [smUp, smallL]; omega
theorem smUp_succ {l : List UInt8} {j : Nat} {x : UInt8} (h : l[j]? = some x) : (smUp l j)[j]? = some x ∧ smUp l (j + 1) = (smUp l j).set j (smallB x) := by
  obtain ⟨hj, e⟩ := List.getElem?_eq_some_iff.1 h
  have hlen : (smallL (l.take j)).length = j := by simp [smallL]; omega
  refine ⟨?_, ?_⟩
  · rw [smUp, List.getElem?_append_right (by omega), hlen, Nat.sub_self, List.getElem?_drop, Nat.add_zero, h]
  · rw [smUp, smUp, List.take_succ_eq_append_getElem hj, List.set_append_right _ _ (by omega), hlen, Nat.sub_self, List.drop_eq_getElem_cons hj, e]
    simp [smallL]
theorem small_sum : ∀ x : UInt8, capB x = true → IntKind.u8.wrap ((x.toNat : Int) + 32) = ((smallB x).toNat : Int) := by
  intro x h
  have := all_bytes (P := fun x => !capB x || (IntKind.u8.wrap ((x.toNat : Int) + 32) == ((smallB x).toNat : Int))) (by decide +kernel) x
  rw [h] at this
  simpa using this
theorem small_not {x : UInt8} (h : capB x = false) : smallB x = x := by simp [smallB, h]
/-- What holds in small's loop. -/
structure SI (W w : World) (l m : List UInt8) : Prop where
  below : Below W.heap.size W w
  blk : ∃ (cs : Array Value) (fz : Nat), w.heap[W.heap.size]? = some (.cells cs 5 (fz, fz + 1)) ∧ l.length ≤ fz ∧ ∀ (i : Nat) (x : UInt8), m[i]? = some x → cs[i]? = some (Value.int .u8 (x.toNat : Int))
theorem SI.cell {W w : World} {l m : List UInt8} (h : SI W w l m) {i : Nat} {x : UInt8} (hx : m[i]? = some x) : w.cell? ⟨W.heap.size, i, none⟩ = some (.int .u8 (x.toNat : Int)) := by
  obtain ⟨cs, fz, hb, _, hc⟩ := h.blk
  rw [cellOf hb, hc i x hx]
theorem SI.free {W w : World} {l m : List UInt8} (h : SI W w l m) {i : Nat} (hi : i < l.length) : w.frozen? ⟨W.heap.size, i, none⟩ = false := by
  obtain ⟨cs, fz, hb, hf, _⟩ := h.blk
  simp [World.frozen?, hb]
  omega
theorem SI.set {W w : World} {l m : List UInt8} (h : SI W w l m) {i : Nat} (y : UInt8) : SI W (w.setCell ⟨W.heap.size, i, none⟩ (.int .u8 (y.toNat : Int))) l (m.set i y) := by
  obtain ⟨cs, fz, hb, hf, hc⟩ := h.blk
  refine ⟨h.below.setCell (p := ⟨W.heap.size, i, none⟩) (Nat.le_refl _) _, _, fz, setOf hb i _, hf, fun k x hx => ?_⟩
  rw [List.getElem?_set] at hx
  rw [Array.getElem?_setIfInBounds]
  split at hx
  · rename_i e
    subst e
    split at hx
    · rename_i hi
      injection hx with hx
      subst hx
      have := hc i m[i] (List.getElem?_eq_getElem hi)
      obtain ⟨h2, _⟩ := Array.getElem?_eq_some_iff.1 this
      simp [h2]
    · cases hx
  · rename_i e
    simp [e, hc k x hx]
theorem SI.new (w : World) (l : List UInt8) : SI w (Lib.bytesWorld w 5 (mkS l)) l l := by
  refine ⟨⟨rfl, rfl, rfl, by rw [Lib.bytesWorld_size]; omega, fun k hk => Lib.bytesWorld_at_old w 5 _ k hk⟩, _, _, Lib.bytesWorld_at_new w 5 (mkS l), ?_, fun i x hx => ?_⟩
  · simp [Lib.bytesCells, mkS]
  · have hi := (List.getElem?_eq_some_iff.1 hx).1
    simp [Lib.bytesCells, mkS, Array.getElem?_append, hi]
    rw [List.getElem?_eq_getElem hi] at hx
    injection hx with hx
    rw [hx]
end Go.Proofs.Ytpgbojpeffilmaa.P
/-
  The walks of what path asks of strings: Cut at one sign, CutPrefix of one, Clone.
-/
namespace Go.Proofs.Ytpgbojpeffilmaa.P
set_option maxRecDepth 100000
open Go.RowKit
/-- Where a sign stands, and what stands ahead of it and behind. -/
theorem ib_cases (l : List UInt8) (c : UInt8) : (Lib.indexByte l c = -1 ∧ hasC c l = false) ∨ ∃ i : Nat, Lib.indexByte l c = i ∧ i < l.length ∧ hasC c l = true ∧ preC c l = l.take i ∧ postC c l = l.drop (i + 1) := by
  induction l with
  | nil => exact .inl ⟨rfl, rfl⟩
  | cons b t ih =>
    by_cases e : b = c
    · subst e
      exact .inr ⟨0, by simp [Lib.indexByte], by simp, by simp [hasC], by simp [preC], by simp [postC]⟩
    · have e1 : preC c (b :: t) = b :: preC c t := by simp [preC, e]
      have e2 : postC c (b :: t) = postC c t := by simp [postC, e]
      have e3 : hasC c (b :: t) = hasC c t := by simp [hasC, Ne.symm e]
      have e4 : Lib.indexByte (b :: t) c = if Lib.indexByte t c == -1 then -1 else Lib.indexByte t c + 1 := by simp [Lib.indexByte, e]
      rcases ih with ⟨h1, h2⟩ | ⟨i, h1, h2, h3, h4, h5⟩
      · exact .inl ⟨by rw [e4, h1]; rfl, by rw [e3, h2]⟩
      · refine .inr ⟨i + 1, ?_, by simp; exact h2, by rw [e3, h3], by rw [e1, h4]; simp, by rw [e2, h5]; simp⟩
        rw [e4, h1, if_neg (by rw [beq_iff_eq]; omega)]
        omega
theorem prefix_one (c : UInt8) (l : List UInt8) : Lib.hasPrefix l [c] = (cutP c l).2 ∧ Lib.trimPrefix l [c] = (cutP c l).1 := by
  cases l with
  | nil => exact ⟨rfl, rfl⟩
  | cons b t =>
    by_cases e : c = b
    · subst e; simp [Lib.trimPrefix, Lib.hasPrefix, cutP, List.isPrefixOf]
    · simp [Lib.trimPrefix, Lib.hasPrefix, cutP, List.isPrefixOf, e, Ne.symm e]
end Go.Proofs.Ytpgbojpeffilmaa.P
