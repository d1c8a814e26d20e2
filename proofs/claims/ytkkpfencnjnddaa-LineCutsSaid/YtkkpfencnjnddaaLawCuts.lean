/-
  The walk of the law LineCuts.
-/
import Derived.Test.YtkkpfencnjnddaaTold
import Derived.Test.YtkkpfencnjnddaaLawParts
namespace Go.Proofs.Ytkkpfencnjnddaa
open Go.RowKit
theorem FA.later {W0 : World} {B g most : Nat} {bs : List UInt8} {xv : Value} {w W : World} (h : FA W0 B g most bs xv w) (hb : Below w.heap.size w W) : FA W0 B g most bs xv W := by
  obtain ⟨v, hc, ho⟩ := h.cut
  exact ⟨⟨v, hc.below hb, ho.below hb⟩, own_below h.row hb, h.hg, h.hB⟩

set_option maxRecDepth 100000 in
set_option maxHeartbeats 1000000 in
theorem lineCuts_x (most : Int) (n c : Nat) (ps : List ByteArray) (A : Option Addr) (m : Int) (w : World) (hm : w.cell? ⟨0, 0, none⟩ = some (.int .i64 m)) (h0 : 0 < w.heap.size) (hs : Strs w A n ps) (hz : ∀ p ∈ ps, p.size ≤ 140737488355328) :
    Calls Try.prog 3 #[.int .i64 most, .slice A n c] w fun e w' => e = .returned (.bool true) ∧ Below w.heap.size w w' := by
  have HA := Lib.hid (awake_x m w hm h0)
  have HS := Lib.hid hs
  have HZ := Lib.hid hz
  clear hm hs hz
  go_enter Try.func3, Try.ntmps3
  go_wp2_with fail
  refine HA.out.mono ?_
  rintro e w1 ⟨rfl, hb1⟩
  have HB1 := Lib.hid hb1
  have HF := Lib.hid (few_x n c ps A w1 (HS.out.below hb1) HZ.out)
  clear hb1
  go_wp2_with fail
  refine HF.out.mono ?_
  rintro e w2 ⟨rfl, rfl⟩
  cases hfew : fewB ps
  · go_wp2_with fail
    go_ret
    exact ⟨rfl, HB1.out⟩
  · obtain ⟨hl1, hl2⟩ := of_decide_eq_true hfew
    have hn : n ≤ 100 := by rw [← HS.out.1]; exact hl1
    have HJ := Lib.hid hl2
    clear hfew hl1 hl2
    by_cases h2 : most < 2
    · have d2 : decide (most < 2) = true := decide_eq_true h2
      have HN := Lib.hid (new_no most w1 (.inl h2))
      go_wp2_with fail
      refine HN.out.mono ?_
      rintro e w2 ⟨rfl, rfl⟩
      go_wp2_with fail
      go_ret
      exact ⟨rfl, HB1.out⟩
    · have d2 : decide (most < 2) = false := decide_eq_false h2
      by_cases h6 : 65536 < most
      · have d6 : decide (65536 < most) = true := decide_eq_true h6
        have HN := Lib.hid (new_no most w1 (.inr h6))
        go_wp2_with fail
        refine HN.out.mono ?_
        rintro e w2 ⟨rfl, rfl⟩
        go_wp2_with fail
        go_ret
        exact ⟨rfl, HB1.out⟩
      · have d6 : decide (65536 < most) = false := decide_eq_false h6
        obtain ⟨M, rfl⟩ : ∃ M : Nat, most = (M : Int) := ⟨most.toNat, by omega⟩
        have hM2 : 2 ≤ M := by omega
        have hM6 : M ≤ 65536 := by omega
        have HN := Lib.hid (new_yes M w1 hM2 hM6)
        clear h2 h6
        go_wp2_with fail
        refine HN.out.mono ?_
        rintro e w2 ⟨rfl, hw2⟩
        have hcn := cut_new w.heap.size w1 M HB1.out.size
        have hbn : Below w.heap.size w (w1.alloc (.cells #[.int .i64 (M : Int), .slice none 0 0, .int .i64 0, .int .u8 0, .int .i64 0] 53)) := HB1.out.alloc HB1.out.size _
        rw [hw2] at hcn hbn
        have HCN := Lib.hid hcn
        have HBN := Lib.hid hbn
        have hba : w.heap.size ≤ w1.heap.size := HB1.out.size
        clear hcn hbn hw2 HN
        generalize w1.heap.size = ga at HCN hba
        go_wp2_with fail
        go_loopw [7, 8, 9] (fun al xv i wr => ∃ k : Nat, k ≤ n ∧ i = .int .i64 k ∧ al = .string (mkS (joinB (ps.take k))) ∧ FA w2 w.heap.size ga M (joinB (ps.take k)) xv wr) (fun _ _ i _ => n - (intOf i).toNat)
        case atStart => exact ⟨0, Nat.zero_le _, rfl, rfl, fa_new HCN.out HBN.out.size⟩
        case round =>
          obtain ⟨k, hk, rfl, rfl, hfa⟩ := hrel
          by_cases hlt : k < n
          · obtain ⟨ad, p, rfl, hpk, hab, hcw⟩ := HS.out.cell hlt
            have hbw := HBN.out.trans (hfa.toBelow hba)
            have hcl : wr.cell? (ad.add k) = some (.string p) := (hbw.cell (by rw [add_block]; exact hab)).trans hcw
            have hj1 := (join_le (m := 0) hpk)
            have hjm := join_mono ps k
            have hps : p.size ≤ 20000 := by have := HJ.out; omega
            have hjs : (mkS (joinB (ps.take k))).size ≤ 20000 := by have := HJ.out; rw [mkS, size_mk]; omega
            have HPK := Lib.hid hpk
            have HFA := Lib.hid hfa
            have HJT := Lib.hid (joinB_take hpk)
            have hjl : (joinB (ps.take k)).length ≤ 20000 := by have := HJ.out; omega
            clear hpk hcw hfa hj1 hjm hbw
            generalize joinB (ps.take k) = J at HFA hjs HJT hjl
            go_wp2_with fail
            refine (HFA.out.feed ((Below.refl _ _).alloc (Nat.le_refl _) _) (some ⟨wr.heap.size, 0, none⟩) 1 1 [p] (strs1 wr p _ rfl) (fun ad h _ => by injection h with h; subst h; exact .inl (Nat.le_refl _)) hM2 hM6 (by rw [joinB_one, ← Lib.size_eq]; omega) (by omega)).mono ?_
            rintro e w4 ⟨o, rfl, hfo⟩
            rw [joinB_one] at hfo
            obtain ⟨b, hout⟩ := hfo.out
            have HFO := Lib.hid hfo
            have HOUT := Lib.hid hout
            have hct := feed_count M J st0
            have hct2 := feed_count M p.data.toList (feed M st0 J).1
            have HCT := Lib.hid (show (feed M st0 J).2.length + (feed M (feed M st0 J).1 p.data.toList).2.length ≤ 1000000000 by rw [← Lib.size_eq] at hct2; omega)
            clear hfo hout hct hct2
            go_wp2_with (at_builtin
                         refine app_lines rfl (.tmp 52) (.tmp 59) rfl w2.heap.size b _ _ _ _ rfl rfl HFO.out.row HOUT.out HCT.out HFO.out.size ?_
                         intro xv' w5 hr5 hg5)
            have HFA5 := Lib.hid (HFO.out.append hr5 hg5)
            clear hr5 hg5
            have hpl : p.data.toList.length ≤ 20000 := by rw [← Lib.size_eq]; exact hps
            have HMA := Lib.hid (mkS_add J p)
            rw [HMA.out]
            have hj2 : (J ++ p.data.toList).length ≤ 40000 := by rw [List.length_append]; omega
            clear HMA HCT HOUT HFO hjs hjl hpl
            generalize J ++ p.data.toList = J2 at HFA5 hj2 HJT
            obtain ⟨hs1, hs2⟩ := feed_sc M J2
            have hfc := feed_count M J2 st0
            have HS1 := Lib.hid hs1
            have HS2 := Lib.hid hs2
            have HRL := Lib.hid (reflines_x M J2 w5 (by omega) hM6)
            refine HRL.out.mono ?_
            rintro e w6 ⟨o6, rfl, hro, hb6⟩
            rw [← HS1.out] at hro
            rw [← HS2.out]
            have hfa6 := HFA5.out.later hb6
            obtain ⟨Ao, co, rfl⟩ := own_slice hro
            obtain ⟨Ax, cx, rfl⟩ := own_slice hfa6.row
            have HTD := Lib.hid (told_x _ _ _ _ _ _ _ w6 hfa6.row hro (by omega))
            have HFA6 := Lib.hid hfa6
            clear hs1 hs2 HS1 HS2 HFA5 hro hb6 hfa6
            go_wp2_with fail
            refine HTD.out.mono ?_
            rintro e w7 ⟨rfl, hb7⟩
            have hfa7 := HFA6.out.later hb7
            obtain ⟨v7, hc7, _⟩ := hfa7.cut
            have HP7 := Lib.hid (pending_x ga _ w7 (cell5 hc7.blk 2))
            have HL7 := Lib.hid (lines_x ga _ w7 (cell5 hc7.blk 4))
            have HFA7 := Lib.hid hfa7
            clear hfa7 hc7 hb7 HFA6 HTD
            go_wp2_with fail
            refine HP7.out.mono ?_
            rintro e w8 ⟨rfl, rfl⟩
            go_wp2_with fail
            refine HL7.out.mono ?_
            rintro e w8 ⟨rfl, rfl⟩
            have hll : (((feed M st0 J2).1.lines : Int) != ((feed M st0 J2).2.length : Int)) = false := by have := hfc.2.1; rw [bne_eq_false_iff_eq]; rw [show st0.lines = 0 from rfl] at this; omega
            go_wp2_with fail
            go_roundw
            case rel => exact ⟨k + 1, by omega, by go_num, by rw [HJT.out], by rw [HJT.out]; exact HFA7.out⟩
            case measure => simp [intOf]; omega
          · go_wp2_with fail
            go_ret
            exact ⟨rfl, HBN.out.trans (hfa.toBelow hba)⟩
end Go.Proofs.Ytkkpfencnjnddaa
