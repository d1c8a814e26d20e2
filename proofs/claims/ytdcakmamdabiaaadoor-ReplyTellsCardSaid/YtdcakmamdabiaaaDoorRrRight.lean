/-
  The walk of the reference's Right.
-/
import Derived.Test.YtdcakmamdabiaaaDoorRrWord
import Derived.Test.YtdcakmamdabiaaaDoorRpRight
namespace Go.Proofs.YtdcakmamdabiaaaDoor
set_option maxRecDepth 100000
open Go.RowKit
theorem RX.drew {W w : World} {c : Int} {e : E3} {v : Value} (h : RX W c e v w) : RX W c e v w.drew := h.next (below_drewN (Below.refl _ _) 1)
/-- What the last region asks of the world. -/
def RXF (W : World) (c : Int) (e : E3) (v : Value) (A : Addr) (x : Txt) (w : World) : Prop :=
  w.cell? ⟨W.heap.size, 1, none⟩ = some (.int .i64 e.1) ∧ w.cell? ⟨W.heap.size, 2, none⟩ = some (.int .i64 e.2.1) ∧ w.cell? ⟨W.heap.size, 3, none⟩ = some (.int .i64 e.2.2) ∧ w.cell? ⟨W.heap.size, 4, none⟩ = some v ∧ w.cell? A = some (.string (mkS x)) ∧ Hid (RX W c e v w)
section
variable {W w w' : World} {c : Int} {e : E3} {v : Value} {A : Addr} {x : Txt}
theorem RX.full (h : RX W c e v w) (hA : A.block < W.heap.size) (hx : W.cell? A = some (.string (mkS x))) : RXF W c e v A x w := ⟨cellOf h.box 1, cellOf h.box 2, cellOf h.box 3, cellOf h.box 4, (h.below.cell hA).trans hx, h⟩
theorem RX.word (h : Hid (RX W c e v w)) (hA : A.block < W.heap.size) (hx : W.cell? A = some (.string (mkS x))) (hf : rpHas e = false ∨ rpIn e.1 = true ∧ rpIn e.2.1 = true ∧ rpIn e.2.2 = true) :
    Calls Tryd.prog 28 #[EV e] w fun y w' => y = .returned (.string (mkS (rpWord e))) ∧ RXF W c e v A x w' := (word_x e hf w).mono fun _ _ ⟨he, hb⟩ => ⟨he, (h.out.next hb).full hA hx⟩
end
set_option maxHeartbeats 8000000 in
theorem rright_x (r : Rp) (v : Value) (w : World) (hR : Ready w) (hT : TxtsAt w v r.text) (hn : r.text.length ≤ 1000000000000000) (hl : ∀ t ∈ r.text, t.length ≤ 1000000000000000) :
    Calls Tryd.prog 14 #[RV r.code r.e v] w fun x w' => x = .returned (.int .i64 (rpRight r)) ∧ Below w.heap.size w w' := by
  have HV := Lib.hid (right_parts r)
  have HHW := Lib.hid (fun h => head_word (c := r.code) r.e 32 h)
  rw [right_fit] at HV
  have HFI := Lib.hid (fun h => fit_in (c := r.code) (e := r.e) h)
  obtain ⟨code, e, text⟩ := r
  simp only at HV HHW HFI hT hn hl ⊢
  have HX := Lib.hid (RX.new code e v hR)
  obtain ⟨a, cap, rfl, _, _, hc⟩ := hT
  have HS := Lib.hid hc
  have HC := Lib.hid (fun w => rclass_x code w)
  have HF := Lib.hid (fun w => fits_x code e w)
  have HL := Lib.hid hl
  have hem : ((text.length : Int) == 0) = text.isEmpty := by cases text with | nil => rfl | cons => simp; omega
  have h32 : decide ((32 : Int) < (text.length : Int)) = decide (32 < text.length) := by
    by_cases h : 32 < text.length
    · rw [decide_eq_true h]; exact decide_eq_true (by omega)
    · rw [decide_eq_false h]; exact decide_eq_false (by omega)
  have HK := Lib.hid (show rpCls code = 0 ∨ rpCls code ≠ 0 from Decidable.em _)
  clear hR hc hl
  generalize hkk : rpCls code = k at HV HC HK HHW
  clear hkk
  by_cases hk0 : k = 0
  · have d1 : (k == 0) = true := beq_iff_eq.2 hk0
    have HE := Lib.hid (show rpRight ⟨code, e, text⟩ = 1 by rw [HV.out, d1]; rfl)
    clear hk0
    go_enter Tryd.func14, Tryd.ntmps14
    go_wp2_with (go_at_call 16; refine (HC.out _).mono ?_; rintro x w' ⟨rfl, rfl⟩)
    go_ret
    exact ⟨ret_i HE.out, HX.out.below⟩
  · have d1 : (k == 0) = false := beq_eq_false_iff_ne.2 hk0
    have HHL := Lib.hid (HHW.out hk0)
    rw [HHL.out] at HV
    rw [d1, Bool.false_or] at HV
    clear hk0 HHW HHL HK
    cases hfi : rpFit code e
    · have HE := Lib.hid (show rpRight ⟨code, e, text⟩ = 1 by rw [HV.out, hfi]; rfl)
      rw [hfi] at HF
      clear hfi HFI
      go_enter Tryd.func14, Tryd.ntmps14
      go_wp2_with (go_at_call 16; refine (HC.out _).mono ?_; rintro x w' ⟨rfl, rfl⟩)
      refine (HF.out _).mono ?_
      rintro x w3 ⟨rfl, hb3⟩
      have HX3 := Lib.hid (HX.out.next hb3)
      clear hb3
      go_wp2_with fail
      go_ret
      exact ⟨ret_i HE.out, HX3.out.below⟩
    · have HFI2 := Lib.hid (HFI.out hfi)
      rw [hfi] at HF HV
      clear hfi HFI
      have hwl := word_len2 HFI2.out
      obtain ⟨wl, hwq⟩ : ∃ wl, (rpWord e).length = wl := ⟨_, rfl⟩
      have hwz := mkS_size (rpWord e)
      rw [hwq] at hwl hwz HV
      have HWQ := Lib.hid hwq
      clear hwq
      have sw1 : IntKind.i64.wrap (4 + (wl : Int)) = 4 + (wl : Int) := IntWalk.i64_in _ (by omega)
      go_enter Tryd.func14, Tryd.ntmps14
      go_wp2_with (go_at_call 16; refine (HC.out _).mono ?_; rintro x w' ⟨rfl, rfl⟩)
      refine (HF.out _).mono ?_
      rintro x w3 ⟨rfl, hb3⟩
      have HX3 := Lib.hid (HX.out.next hb3)
      clear hb3 HX HC HF
      go_wp2_with fail
      go_loopw [3] (fun i wr => ∃ j : Nat, j ≤ text.length ∧ i = .int .i64 (j : Int) ∧ Hid ((text.take j).any (fun t => !t.all rpPr) = false) ∧ Hid (RX w code e (.slice a text.length cap) wr)) (fun i _ => text.length - (intOf i).toNat)
      case atStart => exact ⟨0, Nat.zero_le _, rfl, Lib.hid rfl, HX3⟩
      case round =>
        clear HX3
        obtain ⟨j, hj, rfl, HA, HXr⟩ := hrel
        by_cases hlt : j < text.length
        · obtain ⟨x, hx⟩ : ∃ x, text[j]? = some x := ⟨_, List.getElem?_eq_getElem hlt⟩
          obtain ⟨ad, rfl, hab, hcw⟩ := HS.out j x hx
          have hcl : wr.cell? (ad.add j) = some (.string (mkS x)) := (HXr.out.below.cell (by rw [add_block]; exact hab)).trans hcw
          have k4 := cellOf HXr.out.box 4
          have HXX := Lib.hid hx
          have HSh := Lib.hid (fun w => shown_x x w (HL.out x (List.mem_of_getElem? hx)))
          clear hx hcw
          cases hp : x.all rpPr
          · have HE := Lib.hid (show rpRight ⟨code, e, text⟩ = 2 by rw [HV.out, List.any_eq_true.2 ⟨x, List.mem_of_getElem? HXX.out, by rw [hp]; rfl⟩]; rfl)
            rw [hp] at HSh
            clear hp
            go_wp2_with (go_at_call 23; refine (HSh.out _).mono ?_; rintro x w' ⟨rfl, rfl⟩)
            go_ret
            exact ⟨ret_i HE.out, HXr.out.below⟩
          · have HA2 := Lib.hid (any_more (p := fun t => !t.all rpPr) HXX.out HA.out (by simp only [hp]; rfl))
            rw [hp] at HSh
            clear hp
            go_wp2_with (go_at_call 23; refine (HSh.out _).mono ?_; rintro x w' ⟨rfl, rfl⟩)
            go_roundw
            case rel => exact ⟨j + 1, by omega, by go_num, HA2, HXr⟩
            case measure => simp [intOf]; omega
        · have ha := HA.out
          rw [List.take_of_length_le (by omega)] at ha
          rw [ha] at HV
          have k4 := cellOf HXr.out.box 4
          generalize hqe : text.isEmpty = qe at HV hem
          generalize hq32 : decide (32 < text.length) = q32 at HV h32
          clear ha hqe hq32
          cases qe
          case true =>
            have HE := Lib.hid (show rpRight ⟨code, e, text⟩ = 3 by rw [HV.out]; rfl)
            go_wp2_with fail
            go_ret
            exact ⟨ret_i HE.out, HXr.out.below⟩
          case false =>
            cases q32
            case true =>
              have HE := Lib.hid (show rpRight ⟨code, e, text⟩ = 3 by rw [HV.out]; rfl)
              go_wp2_with fail
              go_ret
              exact ⟨ret_i HE.out, HXr.out.below⟩
            case false =>
              go_wp2_with fail
              clear k4 hem h32
              go_loopw [4] (fun i wr => ∃ j : Nat, j ≤ text.length ∧ i = .int .i64 (j : Int) ∧ Hid ((text.take j).any (fun t => decide (510 < 4 + wl + t.length)) = false) ∧ Hid (RX w code e (.slice a text.length cap) wr)) (fun i _ => text.length - (intOf i).toNat)
              case atStart => exact ⟨0, Nat.zero_le _, rfl, Lib.hid rfl, HXr⟩
              case round =>
                clear HXr HA
                rename_i wr2
                obtain ⟨j, hj, rfl, HA, HXr⟩ := hrel
                by_cases hlt : j < text.length
                · obtain ⟨x, hx⟩ : ∃ x, text[j]? = some x := ⟨_, List.getElem?_eq_getElem hlt⟩
                  obtain ⟨ad, rfl, hab, hcw⟩ := HS.out j x hx
                  have HXX := Lib.hid hx
                  have hxl := HL.out x (List.mem_of_getElem? hx)
                  have hxz := mkS_size x
                  have sw2 : IntKind.i64.wrap (4 + (wl : Int) + (x.length : Int)) = 4 + (wl : Int) + (x.length : Int) := IntWalk.i64_in _ (by omega)
                  have hj0 : (0 : Int) ≤ (j : Int) := by omega
                  have hj1 : (j : Int) < (text.length : Int) := by omega
                  have hab2 : (ad.add j).block < w.heap.size := by rw [add_block]; exact hab
                  have HFu := Lib.hid (fun (w' : World) (h : RX w code e (.slice (some ad) text.length cap) w') => h.full hab2 hcw)
                  have HWo := Lib.hid (fun (w' : World) (h : Hid (RX w code e (.slice (some ad) text.length cap) w')) => RX.word h hab2 hcw HFI2.out)
                  unfold RXF at HFu HWo
                  obtain ⟨c1, c2, c3, c4, c5, _⟩ := HFu.out _ HXr.out
                  clear hx hcw hab hab2
                  by_cases hp : 510 < 4 + wl + x.length
                  · have HE := Lib.hid (show rpRight ⟨code, e, text⟩ = 3 by rw [HV.out, List.any_eq_true.2 ⟨x, List.mem_of_getElem? HXX.out, decide_eq_true hp⟩]; rfl)
                    have dl : decide ((510 : Int) < 4 + (wl : Int) + (x.length : Int)) = true := decide_eq_true (by omega)
                    clear hp
                    go_wp2_with fail
                    go_region_held3 (fun wr => wr.cell? ⟨w.heap.size, 1, none⟩ = some (.int .i64 e.1) ∧ wr.cell? ⟨w.heap.size, 2, none⟩ = some (.int .i64 e.2.1) ∧ wr.cell? ⟨w.heap.size, 3, none⟩ = some (.int .i64 e.2.2) ∧ wr.cell? ⟨w.heap.size, 4, none⟩ = some (.slice (some ad) text.length cap) ∧ wr.cell? (ad.add j) = some (.string (mkS x)) ∧ Hid (RX w code e (.slice (some ad) text.length cap) wr))
                      (first | exact HFu.out _ HXr.out.drew | exact HFu.out _ HXr.out | exact ⟨by assumption, by assumption, by assumption, by assumption, by assumption, by assumption⟩)
                      (first | (go_at_call 28; (with_reducible refine (HWo.out _ ?_).mono ?_); (first | exact Lib.hid HXr.out.drew | assumption | exact HXr); rintro y w4 ⟨rfl, g1, g2, g3, g4, g5, g6⟩))
                    all_goals
                      have HB := Lib.hid g6.out.below
                      clear g1 g2 g3 g4 g5 g6
                      go_wp2_with fail
                      go_ret
                      exact ⟨ret_i HE.out, HB.out⟩
                  · have HA2 := Lib.hid (any_more (p := fun t => decide (510 < 4 + wl + t.length)) HXX.out HA.out (decide_eq_false hp))
                    have dl : decide ((510 : Int) < 4 + (wl : Int) + (x.length : Int)) = false := decide_eq_false (by omega)
                    clear hp
                    go_wp2_with fail
                    go_region_held3 (fun wr => wr.cell? ⟨w.heap.size, 1, none⟩ = some (.int .i64 e.1) ∧ wr.cell? ⟨w.heap.size, 2, none⟩ = some (.int .i64 e.2.1) ∧ wr.cell? ⟨w.heap.size, 3, none⟩ = some (.int .i64 e.2.2) ∧ wr.cell? ⟨w.heap.size, 4, none⟩ = some (.slice (some ad) text.length cap) ∧ wr.cell? (ad.add j) = some (.string (mkS x)) ∧ Hid (RX w code e (.slice (some ad) text.length cap) wr))
                      (first | exact HFu.out _ HXr.out.drew | exact HFu.out _ HXr.out | exact ⟨by assumption, by assumption, by assumption, by assumption, by assumption, by assumption⟩)
                      (first | (go_at_call 28; (with_reducible refine (HWo.out _ ?_).mono ?_); (first | exact Lib.hid HXr.out.drew | assumption | exact HXr); rintro y w4 ⟨rfl, g1, g2, g3, g4, g5, g6⟩))
                    all_goals
                      have HX4 := Lib.hid g6.out
                      clear g1 g2 g3 g4 g5 g6
                      go_wp2_with fail
                      go_roundw
                      case rel => exact ⟨j + 1, by omega, by go_num, HA2, HX4⟩
                      case measure => simp [intOf]; omega
                · have ha := HA.out
                  rw [List.take_of_length_le (by omega)] at ha
                  have HE := Lib.hid (show rpRight ⟨code, e, text⟩ = 0 by rw [HV.out, ha]; rfl)
                  have k4 := cellOf HXr.out.box 4
                  clear ha
                  go_wp2_with fail
                  go_ret
                  exact ⟨ret_i HE.out, HXr.out.below⟩
end Go.Proofs.YtdcakmamdabiaaaDoor
