/-
  The walk of the law LineDatas.
-/
import Derived.Test.YtkkpfencnjnddaaRefUnd
namespace Go.Proofs.Ytkkpfencnjnddaa
open Go.RowKit

theorem undata_len (s : List UInt8) : (undata s).1.length ≤ s.length := by
  have h1 := front_le (sc [] s).1
  have h2 := (sc_len s []).1
  rw [ru_front]
  split
  · simp
  · split
    · simp; omega
    · simp

set_option maxRecDepth 100000 in
set_option maxHeartbeats 1000000 in
theorem lineDatas_x (n c : Nat) (ps : List ByteArray) (A : Option Addr) (s : ByteArray) (m : Int) (w : World) (hm : w.cell? ⟨0, 0, none⟩ = some (.int .i64 m)) (h0 : 0 < w.heap.size) (hs : Strs w A n ps) (hz : ∀ p ∈ ps, p.size ≤ 140737488355328) (hnil : A = none → c = 0) :
    Calls Try.prog 4 #[.slice A n c, .string s] w fun e w' => e = .returned (.bool true) ∧ Below w.heap.size w w' := by
  have HA := Lib.hid (awake_x m w hm h0)
  have HS := Lib.hid hs
  have HZ := Lib.hid hz
  have HM := Lib.hid hm
  have HNIL := Lib.hid hnil
  clear hm hs hz hnil
  go_enter Try.func4, Try.ntmps4
  go_wp2_with fail
  refine HA.out.mono ?_
  rintro e w1 ⟨rfl, hb1⟩
  have HB1 := Lib.hid hb1
  have HF := Lib.hid (few_x n c ps A w1 (HS.out.below hb1) HZ.out)
  clear hb1
  go_wp2_with fail
  refine HF.out.mono ?_
  rintro e w2 ⟨rfl, rfl⟩
  cases hfew : fewB ps
  · go_wp2_with fail
    go_ret
    exact ⟨rfl, HB1.out⟩
  · by_cases h5 : s.size ≤ 20000
    · have d5 : decide ((20000 : Int) < (s.size : Int)) = false := decide_eq_false (by omega)
      obtain ⟨hl1, hl2⟩ := of_decide_eq_true hfew
      have hn : n ≤ 100 := by rw [← HS.out.1]; exact hl1
      have HJ := Lib.hid hl2
      clear hfew hl1 hl2
      have hd := fun (n c : Nat) (A : Option Addr) (w : World) (hs : Strs w A n ps) (hn : n ≤ 100) => data_x n c ps A w hs (by have := HJ.out; omega) (by omega)
      have hrd := fun (n c : Nat) (A : Option Addr) (w : World) (hs : Strs w A n ps) (hn : n ≤ 100) => rdata_x n c ps A w hs (by have := HJ.out; omega) (by omega)
      unfold DataPost at hd
      unfold RDataPost at hrd
      generalize (⟨(if wrongOf 998 ps = 0 then dataOf ps else []).toArray⟩ : ByteArray) = D at hd hrd
      generalize wrongOf 998 ps = V at hd hrd
      have hsl : s.data.toList.length ≤ 20000 := by rw [← Lib.size_eq]; exact h5
      have hu := fun (w : World) (hm : w.cell? ⟨0, 0, none⟩ = some (.int .i64 m)) (h0 : 0 < w.heap.size) => undata_x s.data.toList m w hm h0 (by omega)
      have hru := fun (w : World) => rundata_x s.data.toList w (by omega)
      rw [mkS_data] at hu hru
      unfold UndPost at hu hru
      have hul := undata_len s.data.toList
      generalize undata s.data.toList = q at hu hru hul
      obtain ⟨U, R, X⟩ := q
      simp only at hu hru hul
      have hU9 : U.length ≤ 1000000000 := by omega
      have HD := Lib.hid hd
      have HRD := Lib.hid hrd
      have HU := Lib.hid hu
      have HRU := Lib.hid hru
      clear hd hrd hu hru hsl hul
      go_wp2_with (at_builtin
                   refine app_strs rfl (.tmp 26) (.tmp 27) rfl w.heap.size (.slice (some ⟨w1.heap.size, 0, none⟩) 0 0) 0 [] rfl (World.ownsRow_lit w1 #[] 0 HB1.out.size (Nat.zero_le _) rfl) A n c ps rfl
                     ((HS.out.below HB1.out).below ((Below.refl _ _).alloc (Nat.le_refl _) _)) HNIL.out (by omega) (by have := HB1.out.size; simp; omega) ?_
                   intro v1 w2 hown hg)
      rw [Nat.zero_add, List.nil_append] at hown
      have hb2 : Below w.heap.size w w2 := (HB1.out.alloc HB1.out.size _).grown hg (by have := HB1.out.size; simp; omega) (fun k hk => by have := HB1.out.size; simp [Value.ownBlock] at hk; omega)
      obtain ⟨A1, c1, rfl⟩ := own_slice hown
      have HD2 := Lib.hid (HD.out n c1 A1 w2 (own_strsB hown) hn)
      have HB2 := Lib.hid hb2
      clear hown hg hb2
      go_wp2_with fail
      refine HD2.out.mono ?_
      rintro e w3 ⟨rfl, hb3⟩
      have HB3 := Lib.hid (HB2.out.trans (hb3.mono HB2.out.size))
      have HR3 := Lib.hid (HRD.out n c A w3 (HS.out.below HB3.out) hn)
      clear hb3 HD2 HD HRD
      go_wp2_with fail
      refine HR3.out.mono ?_
      rintro e w4 ⟨rfl, rfl⟩
      have HU3 := Lib.hid (HU.out w3 (by rw [HB3.out.cell h0]; exact HM.out) (Nat.lt_of_lt_of_le h0 HB3.out.size))
      clear HU
      go_wp2_with fail
      refine HU3.out.mono ?_
      rintro e w5 ⟨o, rfl, hro, hb5⟩
      have HRO := Lib.hid hro
      have HB5 := Lib.hid (HB3.out.trans (hb5.mono HB3.out.size))
      have HU5 := Lib.hid (HRU.out w5)
      clear hb5 hro HU3 HRU
      go_wp2_with fail
      refine HU5.out.mono ?_
      rintro e w6 ⟨o6, rfl, hro6, hb6⟩
      have hro := own_below HRO.out hb6
      have HB6 := Lib.hid (HB5.out.trans (hb6.mono HB5.out.size))
      obtain ⟨Aa, ca, rfl⟩ := own_slice hro
      obtain ⟨Ab, cb, rfl⟩ := own_slice hro6
      have HSM := Lib.hid (same_x U.length ca U.length cb (U.map mkS) (U.map mkS) Aa Ab w6 (own_strs hro) (own_strs hro6) hU9)
      clear hro hro6 hb6 HU5 HRO
      go_wp2_with fail
      refine HSM.out.mono ?_
      rintro e w7 ⟨rfl, hb7⟩
      rw [show sameB (U.map mkS) (U.map mkS) = true from decide_eq_true rfl]
      have HB7 := Lib.hid (HB6.out.trans (hb7.mono HB6.out.size))
      have HP7 := Lib.hid (plain_any s w7 (by omega))
      clear hb7 HSM
      go_wp2_with fail
      refine HP7.out.mono ?_
      rintro e w8 ⟨rfl, hb8⟩
      have HB8 := Lib.hid (HB7.out.trans (hb8.mono HB7.out.size))
      have HP8 := Lib.hid (rplain_x s w8 (by omega))
      clear hb8
      go_wp2_with fail
      refine HP8.out.mono ?_
      rintro e w9 ⟨rfl, rfl⟩
      go_wp2_with fail
      go_ret
      exact ⟨by simp, HB8.out⟩
    · have d5 : decide ((20000 : Int) < (s.size : Int)) = true := decide_eq_true (by omega)
      go_wp2_with fail
      go_ret
      exact ⟨rfl, HB1.out⟩
end Go.Proofs.Ytkkpfencnjnddaa
