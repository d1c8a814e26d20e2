/-
  The walk of the law's words.
-/
import Derived.Test.YtpdehgkkpgjpnaaGreatDoorPaOrd
import Derived.Test.YtpdehgkkpgjpnaaGreatDoorPaNames
namespace Go.Proofs.YtpdehgkkpgjpnaaGreatDoor
set_option maxRecDepth 100000
open Go.RowKit Go.Shelf
theorem take_snoc {l : Txt} {a k : Nat} {b : UInt8} (h : l[k]? = some b) (ha : a ≤ k) : (l.take (k + 1)).drop a = (l.take k).drop a ++ [b] := by
  rw [List.take_add_one, h]
  have hk : k < l.length := (List.getElem?_eq_some_iff.1 h).1
  rw [List.drop_append_of_le_length (by rw [List.length_take]; omega)]
  rfl
set_option maxHeartbeats 4000000 in
theorem words_x (s : Txt) (w : World) (hs : s.length ≤ 3000) : Calls Tryz.prog 18 #[.string (mkS s)] w fun e w' => ∃ v, e = .returned v ∧ w'.ownsRow w.heap.size 9 1 v (splitC 32 s).length (strsV (splitC 32 s)) ∧ Below w.heap.size w w' := by
  have hms := mkS_size s
  go_enter Tryz.func18, Tryz.ntmps18
  go_wp2_with fail
  go_loopw [3, 4, 5] (fun v f i wr => ∃ (k a : Nat) (L : List Txt), k ≤ s.length + 1 ∧ L.length ≤ k ∧ i = .int .i64 k ∧ f = .int .i64 a ∧ Hid ((k ≤ s.length ∧ a ≤ k ∧ splitC 32 s = L ++ splitG 32 ((s.take k).drop a) (s.drop k)) ∨ (k = s.length + 1 ∧ splitC 32 s = L)) ∧ Hid (wr.ownsRow w.heap.size 9 1 v L.length (strsV L)) ∧ Hid (Below w.heap.size w wr)) (fun _ _ i _ => s.length + 1 - (intOf i).toNat)
  case atStart => exact ⟨0, 0, [], by omega, by simp, rfl, rfl, .inl ⟨Nat.zero_le _, Nat.le_refl _, by simp [splitC]⟩, strs_nil _ _, Below.refl _ _⟩
  case round =>
    obtain ⟨k, a, L, hk, hL, rfl, rfl, HS, HO, HW⟩ := hrel
    obtain ⟨A, c, rfl⟩ := strs_slice HO.out
    by_cases hle : k ≤ s.length
    · obtain ⟨ha, hsp⟩ : a ≤ k ∧ splitC 32 s = L ++ splitG 32 ((s.take k).drop a) (s.drop k) := by
        rcases HS.out with h | h
        · exact h.2
        · omega
      clear HS
      have hex : (mkS s).extract a k = mkS ((s.take k).drop a) := mkS_extract _ _ _
      generalize hx : (s.take k).drop a = x at hex hsp
      by_cases heq : k = s.length
      · have hI : ((k : Int) == (s.length : Int)) = true := by rw [beq_iff_eq]; omega
        have hle' : (k : Int) ≤ (s.length : Int) := by omega
        have HF := Lib.hid (show splitC 32 s = L ++ [x] by rw [hsp, heq, List.drop_length]; rfl)
        have ha0 : (0 : Int) ≤ (a : Int) := by omega
        have hak : (a : Int) ≤ (k : Int) := by omega
        have HEQ := Lib.hid heq
        clear hsp hx heq
        go_wp2_with (at_builtin; refine app_strs rfl (.tmp 22) (.tmp 27) rfl w.heap.size (.slice A L.length c) L rfl (HO.out.alloc _) ⟨wr.heap.size, 0, none⟩ 1 1 [x] rfl rfl ?a1 ?a2 ?a3 ?_)
        case a1 => exact news_one wr x
        case a2 => omega
        case a3 => have := HW.out.size; simp; omega
        intro v1 w3 hown hg
        have HO3 := Lib.hid hown
        have HW3 := Lib.hid (strs_grown HW.out.size HW.out HO.out hg)
        clear hown hg
        go_wp2_with fail
        go_roundw
        case rel => exact ⟨k + 1, k + 1, L ++ [x], by omega, by rw [List.length_append]; exact Nat.succ_le_succ hL, by go_num, by go_num, .inr ⟨by rw [HEQ.out], HF.out⟩, by rw [List.length_append]; exact HO3, HW3⟩
        case measure => simp [intOf]; omega
      · have hlt : k < s.length := by omega
        have hltI : (k : Int) < (s.length : Int) := by omega
        have hneI : ((k : Int) == (s.length : Int)) = false := by rw [beq_eq_false_iff_ne]; omega
        obtain ⟨b, hb⟩ : ∃ b : UInt8, (mkS s)[k]'(by omega) = b := ⟨_, rfl⟩
        have hX : s[k]? = some b := by rw [← hb]; have := Lib.data_getElem? (mkS s) k (by omega); rwa [mkS_data] at this
        have hd : s.drop k = b :: s.drop (k + 1) := by rw [List.drop_eq_getElem_cons hlt]; congr 1
        have HT := Lib.hid (show (s.take (k + 1)).drop a = x ++ [b] by rw [take_snoc hX ha, hx])
        have HSt := Lib.hid (split_step (hd ▸ hsp))
        have ha0 : (0 : Int) ≤ (a : Int) := by omega
        have hak : (a : Int) ≤ (k : Int) := by omega
        clear hsp hx hX hd
        by_cases h32 : b = 32
        · have HD0 := Lib.hid (show (s.take (k + 1)).drop (k + 1) = [] from List.drop_eq_nil_of_le (by rw [List.length_take]; omega))
          have hbI : ((b.toNat : Int) == 32) = true := by rw [h32]; rfl
          go_wp2_with (at_builtin; refine app_strs rfl (.tmp 22) (.tmp 27) rfl w.heap.size (.slice A L.length c) L rfl (HO.out.alloc _) ⟨wr.heap.size, 0, none⟩ 1 1 [x] rfl rfl ?b1 ?b2 ?b3 ?_)
          case b1 => exact news_one wr x
          case b2 => omega
          case b3 => have := HW.out.size; simp; omega
          intro v1 w3 hown hg
          have HO3 := Lib.hid hown
          have HW3 := Lib.hid (strs_grown HW.out.size HW.out HO.out hg)
          clear hown hg
          go_wp2_with fail
          go_roundw
          case rel => exact ⟨k + 1, k + 1, L ++ [x], by omega, by rw [List.length_append]; exact Nat.succ_le_succ hL, by go_num, by go_num, .inl ⟨by omega, Nat.le_refl _, by rw [HSt.out, if_pos h32, HD0.out]⟩, by rw [List.length_append]; exact HO3, HW3⟩
          case measure => simp [intOf]; omega
        · have hbI : ((b.toNat : Int) == 32) = false := by rw [Bool.eq_false_iff]; exact fun e => h32 ((byte_eq (n := 32) (by decide)).1 e)
          go_wp2_with fail
          go_roundw
          case rel => exact ⟨k + 1, a, L, by omega, by omega, by go_num, rfl, .inl ⟨by omega, by omega, by rw [HSt.out, if_neg h32, HT.out]⟩, HO, HW⟩
          case measure => simp [intOf]; omega
    · have HF := Lib.hid (show splitC 32 s = L by
        rcases HS.out with h | h
        · omega
        · exact h.2)
      have hleI : ¬ (k : Int) ≤ (s.length : Int) := by omega
      clear HS
      go_wp2_with fail
      go_ret
      exact ⟨_, rfl, by rw [HF.out]; exact HO.out, HW.out⟩
end Go.Proofs.YtpdehgkkpgjpnaaGreatDoor
