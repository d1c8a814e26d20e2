/-
  The walk of awake.
-/
import Derived.Test.YtkkpfencnjnddaaSame
namespace Go.Proofs.Ytkkpfencnjnddaa
open Go.RowKit
theorem Only.toBelow {g B : Nat} {r r' : Option Nat} {a b : World} (h : Only g r r' a b) (hB : B ≤ a.heap.size) (hg : B ≤ g) (hr : ∀ k, r = some k → B ≤ k) : Below B a b :=
  ⟨h.os, h.tape, h.output, h.size, fun k hk => h.block k (by omega) (by omega) fun e => by have := hr k e.symm; omega⟩
/-- The state of a new cutter. -/
def st0 : St := ⟨[], 0, 0, 0⟩
theorem inv0 (most : Nat) : Inv most st0 := ⟨by simp [st0], fun h => absurd h (by decide)⟩
theorem joinB_nil : joinB [] = [] := rfl
/-- Two texts in a new block. -/
theorem strs2 (w : World) (a b : ByteArray) (c : Nat) (hc : c = w.heap.size) : Strs (w.alloc (.cells #[.string a, .string b] 9)) (some ⟨c, 0, none⟩) 2 [a, b] := by
  subst hc
  refine ⟨rfl, fun _ => ⟨_, rfl, by simp, fun j p hj => ?_⟩⟩
  match j with
  | 0 => simp at hj; subst hj; exact World.cell?_alloc_at _ _ _ _ rfl
  | 1 => simp at hj; subst hj; exact World.cell?_alloc_at _ _ _ _ rfl
  | j + 2 => simp at hj
theorem strs1 (w : World) (a : ByteArray) (c : Nat) (hc : c = w.heap.size) : Strs (w.alloc (.cells #[.string a] 9)) (some ⟨c, 0, none⟩) 1 [a] := by
  subst hc
  refine ⟨rfl, fun _ => ⟨_, rfl, by simp, fun j p hj => ?_⟩⟩
  match j with
  | 0 => simp at hj; subst hj; exact World.cell?_alloc_at _ _ _ _ rfl
  | j + 1 => simp at hj

theorem feed_awake : feed 10 st0 (joinB [{ data := #[97, 98, 13] }, { data := #[10, 99] }]) = (⟨[99], 1, 99, 1⟩, [([97, 98], 0)]) := rfl
theorem wrong_awake : wrongOf 998 [{ data := #[46, 97] }, { data := #[] }] = 0 := by decide
theorem data_awake : dataOf [{ data := #[46, 97] }, { data := #[] }] = [46, 46, 97, 13, 10, 13, 10, 46, 13, 10] := by decide
theorem und_awake : undata [46, 46, 97, 13, 10, 13, 10, 46, 13, 10, 120] = ([[46, 97], []], [120], 0) := by decide
theorem und_awake2 : undata [46] = ([], [], 12) := by decide

/-- What Feed gave in awake. -/
structure AF (w : World) (o : Value) (g : Nat) (W : World) : Prop where
  cut : ∃ v, Cut w.heap.size W g v 10 [99] 1 99 1
  row : W.ownsRow w.heap.size 49 2 o 1 (lnsV [([97, 98], 0)])
  below : Below w.heap.size w W
theorem AF.later {w W W' : World} {o : Value} {g : Nat} (h : AF w o g W) (hb : Below W.heap.size W W') : AF w o g W' :=
  ⟨by obtain ⟨v, hv⟩ := h.cut; exact ⟨v, hv.below hb⟩, own_below h.row hb, h.below.trans (hb.mono h.below.size)⟩
theorem AF.of {w W W' : World} {e : Ending} (hb : Below w.heap.size w W) (h : FeedPost w.heap.size w.heap.size 10 st0 (.slice none 0 0) (joinB [{ data := #[97, 98, 13] }, { data := #[10, 99] }]) W e W') : ∃ o, e = .returned o ∧ AF w o w.heap.size W' := by
  obtain ⟨v', o, he, hc, hr, ho⟩ := h
  rw [feed_awake] at hc hr
  exact ⟨o, he, ⟨_, hc⟩, own_mono hr hb.size, hb.trans (ho.toBelow hb.size (Nat.le_refl _) (fun k hk => by simp [Value.ownBlock] at hk))⟩
set_option maxHeartbeats 1000000 in
theorem awake_x (m : Int) (w : World) (hm : w.cell? ⟨0, 0, none⟩ = some (.int .i64 m)) (h0 : 0 < w.heap.size) :
    Calls Try.prog 8 #[] w fun e w' => e = .returned (.bool true) ∧ Below w.heap.size w w' := by
  have hn1 := new_yes 10 w (by omega) (by omega)
  have HN1 := Lib.hid hn1
  have HN2 := Lib.hid fun W => new_no 1 W (by omega)
  have HM := Lib.hid hm
  clear hn1 hm
  go_enter Try.func8, Try.ntmps8
  go_wp2_with fail
  refine HN1.out.mono ?_
  rintro e w1 ⟨rfl, rfl⟩
  go_wp2_with fail
  refine (HN2.out _).mono ?_
  rintro e w1 ⟨rfl, rfl⟩
  go_wp2_with fail
  have hb1 : Below w.heap.size w ((w.alloc (.cells #[.int .i64 10, .slice none 0 0, .int .i64 0, .int .u8 0, .int .i64 0] 53)).alloc (.cells #[.string { data := #[97, 98, 13] }, .string { data := #[10, 99] }] 9)) := ((Below.refl _ _).alloc (Nat.le_refl _) _).alloc (by simp) _
  refine (feed_x w.heap.size w.heap.size 10 2 2 st0 (.slice none 0 0) (some ⟨w.heap.size + 1, 0, none⟩) [{ data := #[97, 98, 13] }, { data := #[10, 99] }] _ ((cut_new w.heap.size w 10 (Nat.le_refl _)).below ((Below.refl _ _).alloc (Nat.le_refl _) _)) (inv0 10) (by omega) (by omega) hb1.size (by decide) (by decide) (strs2 _ _ _ _ (by simp)) (fun ad h _ => by injection h with h; subst h; exact ⟨by simp, by simp [Value.ownBlock]⟩) (by omega)).mono ?_
  intro e w3 hf
  obtain ⟨o, rfl, haf⟩ := AF.of hb1 hf
  have hp : w3.cell? ⟨w.heap.size, 2, none⟩ = some (.int .i64 1) := by obtain ⟨v, hv⟩ := haf.cut; exact cell5 hv.blk 2
  have HP := Lib.hid (pending_x w.heap.size 1 w3 hp)
  have HAF := Lib.hid haf
  have HD := Lib.hid (data_x 2 2 _ (some ⟨w3.heap.size, 0, none⟩) _ (strs2 w3 { data := #[46, 97] } { data := #[] } _ rfl) (by decide) (by omega))
  clear hf haf hp hb1
  go_wp2_with fail
  refine HP.out.mono ?_
  rintro e w4 ⟨rfl, rfl⟩
  go_wp2_with fail
  refine HD.out.mono ?_
  rintro e w4 ⟨rfl, hb4⟩
  rw [if_pos wrong_awake, wrong_awake, data_awake]
  have haf4 := HAF.out.later (((Below.refl _ _).alloc (Nat.le_refl _) _).trans (hb4.mono (by simp)))
  have HU1 := Lib.hid (undata_x [46, 46, 97, 13, 10, 13, 10, 46, 13, 10, 120] m w4 (by rw [haf4.below.cell h0]; exact HM.out) (Nat.lt_of_lt_of_le h0 haf4.below.size) (by decide))
  have HAF4 := Lib.hid haf4
  clear hb4 haf4
  go_wp2_with fail
  refine HU1.out.mono ?_
  rintro e w5 ⟨u1, rfl, hru, hb5⟩
  rw [und_awake] at hru
  rw [und_awake]
  have haf5 := HAF4.out.later hb5
  have HU2 := Lib.hid (undata_x [46] m w5 (by rw [haf5.below.cell h0]; exact HM.out) (Nat.lt_of_lt_of_le h0 haf5.below.size) (by decide))
  have HAF5 := Lib.hid haf5
  have HRU := Lib.hid hru
  clear hb5 haf5 hru
  go_wp2_with fail
  refine HU2.out.mono ?_
  rintro e w6 ⟨u2, rfl, _, hb6⟩
  rw [und_awake2]
  have haf6 := HAF5.out.later hb6
  have hru6 := own_below HRU.out hb6
  clear hb6
  obtain ⟨k1, cap1, rfl, _, _⟩ := haf6.row.form (by omega)
  obtain ⟨k2, cap2, rfl, _, _⟩ := hru6.form (by decide)
  have d0 : w6.cell? ⟨k1, 0, none⟩ = some (.string { data := #[97, 98] }) := haf6.row.cellAt 0 (by omega)
  have d1 : w6.cell? ⟨k1, 1, none⟩ = some (.int .i64 0) := haf6.row.cellAt 1 (by omega)
  have hl : w6.cell? ⟨w.heap.size, 4, none⟩ = some (.int .i64 1) := by obtain ⟨v, hv⟩ := haf6.cut; exact cell5 hv.blk 4
  have HL := Lib.hid (lines_x w.heap.size 1 w6 hl)
  have HAF6 := Lib.hid haf6
  have HRU6 := Lib.hid hru6
  clear haf6 hru6 hl
  go_wp2_with fail
  refine HL.out.mono ?_
  rintro e w7 ⟨rfl, rfl⟩
  have hal : Below w6.heap.size w6 (w6.alloc (.cells #[.string { data := #[46, 97] }, .string { data := #[] }] 9)) := (Below.refl _ _).alloc (Nat.le_refl _) _
  have HS := Lib.hid (same_x 2 cap2 2 2 _ _ _ _ _ ((own_strs HRU6.out).below hal) (strs2 w6 { data := #[46, 97] } { data := #[] } _ rfl) (by omega))
  have HAF7 := Lib.hid (HAF6.out.later hal)
  clear hal
  go_wp2_with fail
  refine HS.out.mono ?_
  rintro e w8 ⟨rfl, hb8⟩
  rw [show sameB (List.map mkS [[46, 97], []]) [{ data := #[46, 97] }, { data := #[] }] = true from decide_eq_true rfl]
  have HAF8 := Lib.hid (HAF7.out.later hb8)
  have hx : ((mkS [120]).toList == [120]) = true := by rw [mkS_toList]; rfl
  clear hb8
  go_wp2_with fail
  refine (plain_any _ _ (by decide)).mono ?_
  rintro e w9 ⟨rfl, hb9⟩
  rw [show plainB ({ data := #[97] } : ByteArray).data.toList = true from rfl]
  have HAF9 := Lib.hid (HAF8.out.later hb9)
  clear hb9
  go_wp2_with fail
  refine (plain_any _ _ (by decide)).mono ?_
  rintro e w10 ⟨rfl, hb10⟩
  rw [show plainB ({ data := #[10] } : ByteArray).data.toList = false from rfl]
  have HAF10 := Lib.hid (HAF9.out.later hb10)
  clear hb10
  go_wp2_with fail
  go_ret
  exact ⟨rfl, HAF10.out.below⟩
end Go.Proofs.Ytkkpfencnjnddaa
