/-
  The walks of path's small, Null, hostless and long.
-/
import Derived.Test.YtamjoleknjmpoaaPtSmall
import Derived.Lib.ConvBytes
namespace Go.Proofs.Ytamjoleknjmpoaa
open Go.RowKit
theorem Try.eqPath (a b c d : ByteArray) (w : World) : (Op.equalIn 10000 23 (.agg #[.string a, .string b]) (.agg #[.string c, .string d])).run Try.prog w = .ok (a.toList == c.toList && b.toList == d.toList) w := by
  have u9 := Try.underlying9
  have a9 := Try.isAgg9
  have z9 := Try.sizeOf9
  have hS : Try.prog.underlying 23 = some (.struct (Try.prog.fieldsOf 23)) := by kernel_rfl
  have hp : Try.prog.stoodInHeld 23 = false := by kernel_rfl
  rw [show (10000 : Nat) = 9999 + 1 from rfl, run_equalIn_agg w 9999 23 _ _ hS hp]
  simp only [Program.fieldsOf, Try.underlying23]
  go_simp
  by_cases h1 : a.toList = c.toList <;> by_cases h2 : b.toList = d.toList <;> simp [h1, h2]
/-- Of two paths: are they one? -/
theorem eqP (p q : Pth) (w : World) : (Op.equalIn 10000 23 (.agg #[.string (mkS p.1), .string (mkS p.2)]) (.agg #[.string (mkS q.1), .string (mkS q.2)])).run Try.prog w = .ok (p.1 == q.1 && p.2 == q.2) w := by
  rw [Try.eqPath, mkS_toList, mkS_toList, mkS_toList, mkS_toList]
theorem below_box (w : World) (o : Obj) : Below w.heap.size w (w.alloc o) := (Below.refl _ w).alloc (Nat.le_refl _) _
set_option maxHeartbeats 400000 in
theorem null_x (p : Pth) (w : World) : Calls Try.prog 17 #[.agg #[.string (mkS p.1), .string (mkS p.2)]] w fun e w' => e = .returned (.bool (nullB p)) ∧ Below w.heap.size w w' := by
  have he : ∀ w, (Op.equalIn 10000 23 (.agg #[.string (mkS p.1), .string (mkS p.2)]) (.agg #[.string { data := #[] }, .string { data := #[] }])).run Try.prog w = .ok (nullB p) w := fun w => eqP p ([], []) w
  go_enter Try.func17, Try.ntmps17
  go_wp2_with fail
  go_ret
  exact ⟨rfl, below_box _ _⟩
set_option maxHeartbeats 400000 in
theorem host_x (p : Pth) (w : World) : Calls Try.prog 20 #[.agg #[.string (mkS p.1), .string (mkS p.2)]] w fun e w' => e = .returned (.bool (hostB p)) ∧ Below w.heap.size w w' := by
  have he : ∀ w, (Op.equalIn 10000 23 (.agg #[.string (mkS p.1), .string (mkS p.2)]) (.agg #[.string { data := #[112, 111, 115, 116, 109, 97, 115, 116, 101, 114] }, .string { data := #[] }])).run Try.prog w = .ok (hostB p) w := fun w => eqP p (pmL, []) w
  go_enter Try.func20, Try.ntmps20
  go_wp2_with fail
  go_ret
  exact ⟨rfl, below_box _ _⟩
set_option maxHeartbeats 400000 in
theorem long_x (p : Pth) (w : World) : Calls Try.prog 31 #[.agg #[.string (mkS p.1), .string (mkS p.2)]] w fun e w' => e = .returned (.bool (longB p)) ∧ Below w.heap.size w w' := by
  have hm1 := mkS_size p.1
  have hm2 := mkS_size p.2
  have HV := Lib.hid (show longB p = (decide (64 < p.1.length) || decide (255 < p.2.length)) from rfl)
  by_cases h1 : 64 < p.1.length
  · have d1 : decide ((64 : Int) < (p.1.length : Int)) = true := decide_eq_true (by omega)
    go_enter Try.func31, Try.ntmps31
    go_wp2_with fail
    go_ret
    exact ⟨ret_bool (by rw [HV.out]; simp [h1]), below_box _ _⟩
  · have d1 : decide ((64 : Int) < (p.1.length : Int)) = false := decide_eq_false (by omega)
    by_cases h2 : 255 < p.2.length
    · have d2 : decide ((255 : Int) < (p.2.length : Int)) = true := decide_eq_true (by omega)
      go_enter Try.func31, Try.ntmps31
      go_wp2_with fail
      go_ret
      exact ⟨ret_bool (by rw [HV.out]; simp [h1, h2]), below_box _ _⟩
    · have d2 : decide ((255 : Int) < (p.2.length : Int)) = false := decide_eq_false (by omega)
      go_enter Try.func31, Try.ntmps31
      go_wp2_with fail
      go_ret
      exact ⟨ret_bool (by rw [HV.out]; simp [h1, h2]), below_box _ _⟩

/-- The letters ahead of place j made small. -/
def smUp (l : List UInt8) (j : Nat) : List UInt8 := smallL (l.take j) ++ l.drop j
theorem smUp_zero (l : List UInt8) : smUp l 0 = l := by simp [smUp, smallL]
theorem smUp_all (l : List UInt8) : smUp l l.length = smallL l := by simp [smUp]
theorem smUp_length (l : List UInt8) (j : Nat) : (smUp l j).length = l.length := by simp [smUp, smallL]; omega
theorem smUp_succ {l : List UInt8} {j : Nat} {x : UInt8} (h : l[j]? = some x) : (smUp l j)[j]? = some x ∧ smUp l (j + 1) = (smUp l j).set j (smallB x) := by
  obtain ⟨hj, e⟩ := List.getElem?_eq_some_iff.1 h
  have hlen : (smallL (l.take j)).length = j := by simp [smallL]; omega
  refine ⟨?_, ?_⟩
  · rw [smUp, List.getElem?_append_right (by omega), hlen, Nat.sub_self, List.getElem?_drop, Nat.add_zero, h]
  · rw [smUp, smUp, List.take_succ_eq_append_getElem hj, List.set_append_right _ _ (by omega), hlen, Nat.sub_self, List.drop_eq_getElem_cons hj, e]
    simp [smallL]
theorem small_sum : ∀ x : UInt8, capB x = true → IntKind.u8.wrap ((x.toNat : Int) + 32) = ((smallB x).toNat : Int) := by
  intro x h
  have := all_bytes (P := fun x => !capB x || (IntKind.u8.wrap ((x.toNat : Int) + 32) == ((smallB x).toNat : Int))) (by decide +kernel) x
  rw [h] at this
  simpa using this
theorem small_not {x : UInt8} (h : capB x = false) : smallB x = x := by simp [smallB, h]
/-- What holds in small's loop. -/
structure SI (W w : World) (l m : List UInt8) : Prop where
  below : Below W.heap.size W w
  blk : ∃ (cs : Array Value) (fz : Nat), w.heap[W.heap.size]? = some (.cells cs 5 (fz, fz + 1)) ∧ l.length ≤ fz ∧ ∀ (i : Nat) (x : UInt8), m[i]? = some x → cs[i]? = some (Value.int .u8 (x.toNat : Int))
theorem SI.cell {W w : World} {l m : List UInt8} (h : SI W w l m) {i : Nat} {x : UInt8} (hx : m[i]? = some x) : w.cell? ⟨W.heap.size, i, none⟩ = some (.int .u8 (x.toNat : Int)) := by
  obtain ⟨cs, fz, hb, _, hc⟩ := h.blk
  rw [cellOf hb, hc i x hx]
theorem SI.free {W w : World} {l m : List UInt8} (h : SI W w l m) {i : Nat} (hi : i < l.length) : w.frozen? ⟨W.heap.size, i, none⟩ = false := by
  obtain ⟨cs, fz, hb, hf, _⟩ := h.blk
  simp [World.frozen?, hb]
  omega
theorem SI.set {W w : World} {l m : List UInt8} (h : SI W w l m) {i : Nat} (y : UInt8) : SI W (w.setCell ⟨W.heap.size, i, none⟩ (.int .u8 (y.toNat : Int))) l (m.set i y) := by
  obtain ⟨cs, fz, hb, hf, hc⟩ := h.blk
  refine ⟨h.below.setCell (p := ⟨W.heap.size, i, none⟩) (Nat.le_refl _) _, _, fz, setOf hb i _, hf, fun k x hx => ?_⟩
  rw [List.getElem?_set] at hx
  rw [Array.getElem?_setIfInBounds]
  split at hx
  · rename_i e
    subst e
    split at hx
    · rename_i hi
      injection hx with hx
      subst hx
      have := hc i m[i] (List.getElem?_eq_getElem hi)
      obtain ⟨h2, _⟩ := Array.getElem?_eq_some_iff.1 this
      simp [h2]
    · cases hx
  · rename_i e
    simp [e, hc k x hx]
theorem SI.new (w : World) (l : List UInt8) : SI w (Lib.bytesWorld w 5 (mkS l)) l l := by
  refine ⟨⟨rfl, rfl, rfl, by rw [Lib.bytesWorld_size]; omega, fun k hk => Lib.bytesWorld_at_old w 5 _ k hk⟩, _, _, Lib.bytesWorld_at_new w 5 (mkS l), ?_, fun i x hx => ?_⟩
  · simp [Lib.bytesCells, mkS]
  · have hi := (List.getElem?_eq_some_iff.1 hx).1
    simp [Lib.bytesCells, mkS, Array.getElem?_append, hi]
    rw [List.getElem?_eq_getElem hi] at hx
    injection hx with hx
    rw [hx]
theorem SI.text {W w : World} {l m : List UInt8} (h : SI W w l m) (n cap : Nat) (hn : m.length = n) : (convert 42 9 (.slice (some ⟨W.heap.size, 0, none⟩) n cap)).run Try.prog w = .ok (.string (mkS m)) w := by
  refine conv_bytes w _ m n cap hn fun j v hj => ?_
  rw [show (⟨W.heap.size, 0, none⟩ : Addr).add j = ⟨W.heap.size, j, none⟩ by unfold Addr.add; split <;> simp_all]
  simp only [bytesV, List.getElem?_map, Option.map_eq_some_iff] at hj
  obtain ⟨x, hx, rfl⟩ := hj
  exact h.cell hx
set_option maxHeartbeats 1000000 in
theorem small_x (l : List UInt8) (w : World) (hl : l.length ≤ 1000000000000) :
    Calls Try.prog 30 #[.string (mkS l)] w fun e w' => e = .returned (.string (mkS (smallL l))) ∧ Below w.heap.size w w' := by
  have hms := mkS_size l
  have hcv := Lib.run_convert_string_bytes (P := Try.prog) w 9 42 5 (mkS l) Try.underlying9 Try.underlying42 Try.underlying5
  have HS := Lib.hid (SI.new w l)
  rw [hms] at hcv
  generalize Lib.bytesWorld w 5 (mkS l) = w1 at hcv HS
  generalize grownCap w l.length 0 5 = cap at hcv
  go_enter Try.func30, Try.ntmps30
  go_wp2_with fail
  clear hcv
  go_loopw [10, 4, 5] (fun i _ _ wr => ∃ j : Nat, j ≤ l.length ∧ i = .int .i64 j ∧ SI w wr l (smUp l j)) (fun i _ _ _ => l.length - (intOf i).toNat)
  case atStart => exact ⟨0, Nat.zero_le _, rfl, by rw [smUp_zero]; exact HS.out⟩
  case round =>
    obtain ⟨j, hj, rfl, hI⟩ := hrel
    by_cases hlt : j < l.length
    · obtain ⟨x, hX⟩ : ∃ x : UInt8, l[j]? = some x := ⟨_, List.getElem?_eq_getElem hlt⟩
      have hc := hI.cell (smUp_succ hX).1
      have hf := hI.free hlt
      have HP := Lib.hid (capital_x x wr)
      cases hp : capB x
      · rw [hp] at HP
        have HN := Lib.hid (show SI w wr l (smUp l (j + 1)) by
          rw [(smUp_succ hX).2, small_not hp]
          have : (smUp l j).set j x = smUp l j := by
            apply List.ext_getElem?
            intro i
            rw [List.getElem?_set]
            split
            · rename_i e; subst e
              split
              · exact (smUp_succ hX).1.symm
              · rename_i h; rw [smUp_length] at h; omega
            · rfl
          rw [this]; exact hI)
        clear hp hX hI
        go_wp2_with fail
        refine HP.out.mono ?_
        rintro e w1 ⟨rfl, rfl⟩
        go_wp2_with fail
        go_roundw
        case rel => exact ⟨j + 1, by omega, by go_num, HN.out⟩
        case measure => simp [intOf]; omega
      · rw [hp] at HP
        have hs := small_sum x hp
        have HN := Lib.hid (show SI w (wr.setCell ⟨w.heap.size, j, none⟩ (.int .u8 ((smallB x).toNat : Int))) l (smUp l (j + 1)) by
          rw [(smUp_succ hX).2]; exact hI.set _)
        clear hp hX hI
        go_wp2_with fail
        refine HP.out.mono ?_
        rintro e w1 ⟨rfl, rfl⟩
        go_wp2_with fail
        go_roundw
        case rel => exact ⟨j + 1, by omega, by go_num, HN.out⟩
        case measure => simp [intOf]; omega
    · obtain rfl : j = l.length := by omega
      rw [smUp_all] at hI
      have hcv := hI.text l.length cap (smallL_length l)
      have HB := Lib.hid hI.below
      clear hI
      go_wp2_with fail
      go_ret
      exact ⟨rfl, HB.out⟩
end Go.Proofs.Ytamjoleknjmpoaa
