/-
  The walk of the reference's Decode.
-/
import Derived.Test.YthnjofgeghpdoaaXtRef
import Derived.Test.YthnjofgeghpdoaaXtDecode
namespace Go.Proofs.Ythnjofgeghpdoaa
open Go.RowKit
/-- What holds in the reference's Decode's loop. -/
structure RR (W0 : World) (l : List UInt8) (k : Nat) (out : List UInt8) (v : Value) (w : World) : Prop where
  row : w.ownsRow W0.heap.size 5 1 v out.length (bytesV out)
  below : Below W0.heap.size W0 w
  dec : decX l = (decX (l.drop k)).map (out ++ ·)
  le : out.length ≤ k
  kl : k ≤ l.length
theorem rr_new (w : World) (l : List UInt8) : RR w l 0 [] (.slice none 0 0) w := ⟨⟨rfl, .inl ⟨rfl, rfl⟩⟩, Below.refl _ _, by simp, by simp, by simp⟩
theorem RR.more {W0 w w2 : World} {l out : List UInt8} {k j : Nat} {b : UInt8} {v v2 : Value} {o : Obj} (h : RR W0 l k out v w) (hown : w2.ownsRow W0.heap.size 5 1 v2 (out ++ [b]).length (bytesV (out ++ [b]))) (hg : (w.alloc o).grownBy w2 v.ownBlock)
    (hd : decX (l.drop k) = (decX (l.drop j)).map (b :: ·)) (hj : k < j) (hjl : j ≤ l.length) : RR W0 l j (out ++ [b]) v2 w2 := by
  refine ⟨hown, bytes_grown h.below h.row hg, ?_, ?_, hjl⟩
  · rw [h.dec, hd, Option.map_map]
    congr 1
    funext s
    simp
  · have := h.le
    simp
    omega
theorem RR.no {W0 w : World} {l out : List UInt8} {k : Nat} {v : Value} (h : RR W0 l k out v w) (hd : decX (l.drop k) = none) : DecPost l W0 (.returned (.tuple #[.string { data := #[] }, .int .i64 2])) w := by
  have e : decX l = none := by rw [h.dec, hd]; rfl
  refine ⟨?_, h.below⟩
  rw [decS, decE, e]
  rfl
theorem RR.fin {W0 w : World} {l out : List UInt8} {k : Nat} {v : Value} (h : RR W0 l k out v w) (hk : l.length ≤ k) : DecPost l W0 (.returned (.tuple #[.string (mkS out), .int .i64 0])) w := by
  have e : decX l = some out := by rw [h.dec, List.drop_of_length_le hk]; simp [decX]
  refine ⟨?_, h.below⟩
  rw [decS, decE, e]
  rfl
theorem two_no1 {l : List UInt8} {k : Nat} (h : l.length ≤ k + 2) : ¬ TwoDigs l (k + 1) := by
  rintro ⟨x, y, _, hy, _⟩
  have := (List.getElem?_eq_some_iff.1 hy).1
  omega
theorem two_no2 {l : List UInt8} {k : Nat} {y : UInt8} (hy : l[k + 1]? = some y) (vy : ¬ valX y < 16) : ¬ TwoDigs l (k + 1) := by
  rintro ⟨x, z, hx, _, vx, _⟩
  rw [hy] at hx
  injection hx with hx
  exact vy (hx ▸ vx)
theorem two_no3 {l : List UInt8} {k : Nat} {z : UInt8} (hz : l[k + 2]? = some z) (vz : ¬ valX z < 16) : ¬ TwoDigs l (k + 1) := by
  rintro ⟨x, y, _, hy, _, vy⟩
  rw [show k + 1 + 1 = k + 2 by omega, hz] at hy
  injection hy with hy
  exact vz (hy ▸ vy)
set_option maxHeartbeats 2000000 in
theorem rdecode_x (l : List UInt8) (w : World) (hs : l.length ≤ 1000000000) : Calls Try.prog 9 #[.string (mkS l)] w (DecPost l w) := by
  have hms := mkS_size l
  go_enter Try.func9, Try.ntmps9
  go_wp2_with fail
  go_loopw [4, 5] (fun v i wr => ∃ (k : Nat) (out : List UInt8), k ≤ l.length ∧ i = .int .i64 k ∧ Hid (RR w l k out v wr)) (fun _ i _ => l.length - (intOf i).toNat)
  case atStart => exact ⟨0, [], Nat.zero_le _, rfl, rr_new w l⟩
  case round =>
    obtain ⟨k, out, hk, rfl, HR⟩ := hrel
    have hol : out.length ≤ 1000000000 := by have := HR.out.le; omega
    by_cases hlt : k < l.length
    · obtain ⟨x, hx⟩ : ∃ x : UInt8, (mkS l)[k]'(by omega) = x := ⟨_, rfl⟩
      have hX : l[k]? = some x := by rw [← hx]; have := Lib.data_getElem? (mkS l) k (by omega); rwa [mkS_data] at this
      have HP := Lib.hid (rplain_x x wr)
      have HX := Lib.hid hX
      obtain ⟨A, c, rfl⟩ := own_slice HR.out.row
      clear hX
      cases hp : plainX x
      · rw [hp] at HP
        by_cases h43 : x = 43
        · have hb : ((x.toNat : Int) != 43) = false := by rw [h43]; rfl
          have HX' := Lib.hid (show l[k]? = some 43 by rw [← h43]; exact HX.out)
          clear h43 hp
          by_cases h2 : k + 2 < l.length
          · have e2 : decide ((l.length : Int) ≤ (k : Int) + 2) = false := decide_eq_false (by omega)
            obtain ⟨y, hy⟩ : ∃ y : UInt8, (mkS l)[k + 1]'(by omega) = y := ⟨_, rfl⟩
            obtain ⟨z, hz⟩ : ∃ z : UInt8, (mkS l)[k + 2]'(by omega) = z := ⟨_, rfl⟩
            have hY : l[k + 1]? = some y := by rw [← hy]; have := Lib.data_getElem? (mkS l) (k + 1) (by omega); rwa [mkS_data] at this
            have hZ : l[k + 2]? = some z := by rw [← hz]; have := Lib.data_getElem? (mkS l) (k + 2) (by omega); rwa [mkS_data] at this
            have HY := Lib.hid (digit_x y wr)
            have HZ := Lib.hid (digit_x z wr)
            by_cases vy : valX y < 16
            · have d1 : decide ((15 : Int) < (valX y : Int)) = false := decide_eq_false (by omega)
              by_cases vz : valX z < 16
              · have d2 : decide ((15 : Int) < (valX z : Int)) = false := decide_eq_false (by omega)
                have HD := Lib.hid (dec_two HX'.out hY hZ vy vz)
                have hv : ((UInt8.ofNat (16 * valX y + valX z)).toNat : Int) = 16 * (valX y : Int) + (valX z : Int) := by simp; omega
                clear hY hZ
                generalize UInt8.ofNat (16 * valX y + valX z) = v at hv HD
                have HYD := Lib.hid (digit_x y wr.drew)
                have HZD := Lib.hid (digit_x z wr.drew)
                generalize valX y = a at HY HYD hv vy d1
                generalize valX z = b at HZ HZD hv vz d2
                have C1 := Lib.hid (cells_new wr [v] _ rfl _ rfl)
                have C2 := Lib.hid (show out.length + 1 ≤ 100000000000 by omega)
                have C3 := Lib.hid (show w.heap.size ≤ wr.heap.size + 1 by have := HR.out.below.size; omega)
                go_wp2_with fail
                refine HP.out.mono ?_
                rintro e w2 ⟨rfl, rfl⟩
                go_wp2_with fail
                refine HY.out.mono ?_
                rintro e w2 ⟨rfl, rfl⟩
                go_wp2_with fail
                refine HZ.out.mono ?_
                rintro e w2 ⟨rfl, rfl⟩
                go_wp2_with fail
                have y0 : (0 : Int) ≤ (k : Int) + 1 := by omega
                have y1 : (k : Int) + 1 < (l.length : Int) := by omega
                have y2 : ((k : Int) + 1).toNat = k + 1 := by omega
                have z0 : (0 : Int) ≤ (k : Int) + 2 := by omega
                have z1 : (k : Int) + 2 < (l.length : Int) := by omega
                have z2 : ((k : Int) + 2).toNat = k + 2 := by omega
                have q1 : IntKind.i64.wrap ((k : Int) + 1) = (k : Int) + 1 := IntWalk.i64_in _ (by omega)
                have q2 : IntKind.i64.wrap ((k : Int) + 2) = (k : Int) + 2 := IntWalk.i64_in _ (by omega)
                have q3 : IntKind.i64.wrap (16 * (a : Int)) = 16 * (a : Int) := IntWalk.i64_in _ (by omega)
                have q4 : IntKind.i64.wrap (16 * (a : Int) + (b : Int)) = 16 * (a : Int) + (b : Int) := IntWalk.i64_in _ (by omega)
                have q5 : IntKind.u8.wrap (16 * (a : Int) + (b : Int)) = (v.toNat : Int) := by rw [IntWalk.u8_in _ (by omega), hv]
                clear hv
                go_region_held3 (fun _ => True) (trivial) (first
                  | (go_at_call 21; (with_reducible refine HYD.out.mono ?_); rintro e w' ⟨rfl, rfl⟩)
                  | (go_at_call 21; (with_reducible refine HZD.out.mono ?_); rintro e w' ⟨rfl, rfl⟩)
                  | (refine step_bytes rfl (.tmp 49) (.tmp 63) rfl w.heap.size (.slice A out.length c) out rfl (HR.out.row.alloc _) ⟨wr.heap.size, 0, none⟩ 1 1 [v] rfl rfl C1.out (Nat.zero_lt_succ 0) C2.out (by simp; exact C3.out) ?_; intro v1 w2 hown hg))
                all_goals
                  have HR2 := Lib.hid (HR.out.more (b := v) hown (grown_drew hg) HD.out (by omega) (by omega))
                  clear hown hg q1 q2 q3 q4 q5 y2 z2 C1 C2 C3
                  go_wp2_with fail
                  go_roundw
                  case rel => exact ⟨k + 3, _, by omega, by go_num, HR2.out⟩
                  case measure => simp [intOf]; omega
              · have d2 : decide ((15 : Int) < (valX z : Int)) = true := decide_eq_true (by omega)
                have HN := Lib.hid (HR.out.no (dec_not HX'.out (two_no3 hZ vz)))
                clear hY hZ vy vz
                go_wp2_with fail
                refine HP.out.mono ?_
                rintro e w2 ⟨rfl, rfl⟩
                go_wp2_with fail
                refine HY.out.mono ?_
                rintro e w2 ⟨rfl, rfl⟩
                go_wp2_with fail
                refine HZ.out.mono ?_
                rintro e w2 ⟨rfl, rfl⟩
                go_wp2_with fail
                go_ret2
                exact HN.out
            · have d1 : decide ((15 : Int) < (valX y : Int)) = true := decide_eq_true (by omega)
              have HN := Lib.hid (HR.out.no (dec_not HX'.out (two_no2 hY vy)))
              clear hY hZ vy
              go_wp2_with fail
              refine HP.out.mono ?_
              rintro e w2 ⟨rfl, rfl⟩
              go_wp2_with fail
              refine HY.out.mono ?_
              rintro e w2 ⟨rfl, rfl⟩
              go_wp2_with fail
              go_ret2
              exact HN.out
          · have e2 : decide ((l.length : Int) ≤ (k : Int) + 2) = true := decide_eq_true (by omega)
            have HN := Lib.hid (HR.out.no (dec_not HX'.out (two_no1 (by omega))))
            go_wp2_with fail
            refine HP.out.mono ?_
            rintro e w2 ⟨rfl, rfl⟩
            go_wp2_with fail
            go_ret2
            exact HN.out
        · have hb : ((x.toNat : Int) != 43) = true := by rw [bne_iff_ne]; exact fun e => h43 ((byte_eq (n := 43) (by decide)).1 (beq_iff_eq.2 e))
          have HN := Lib.hid (HR.out.no (by rw [drop_get HX.out]; exact decX_bad hp h43 _))
          clear h43 hp
          go_wp2_with fail
          refine HP.out.mono ?_
          rintro e w2 ⟨rfl, rfl⟩
          go_wp2_with fail
          go_ret2
          exact HN.out
      · rw [hp] at HP
        have HD := Lib.hid (show decX (l.drop k) = (decX (l.drop (k + 1))).map (x :: ·) by rw [drop_get HX.out]; exact decX_plain hp _)
        clear hp
        go_wp2_with fail
        refine HP.out.mono ?_
        rintro e w2 ⟨rfl, rfl⟩
        go_wp2_with (at_builtin
                     refine app_bytes rfl (.tmp 14) (.tmp 18) rfl w.heap.size (.slice A out.length c) out rfl (HR.out.row.alloc _) ⟨wr.heap.size, 0, none⟩ 1 1 [x] rfl rfl ?c1 ?c2 ?c3 ?_)
        case c1 => exact cells_new wr _ _ rfl _ rfl
        case c2 => omega
        case c3 => have := HR.out.below.size; simp; omega
        intro v1 w2 hown hg
        have HR2 := Lib.hid (HR.out.more (b := x) (by rw [List.length_append]; exact hown) hg HD.out (by omega) (by omega))
        clear hown hg
        go_wp2_with fail
        go_roundw
        case rel => exact ⟨k + 1, _, by omega, by go_num, HR2.out⟩
        case measure => simp [intOf]; omega
    · obtain ⟨A, c, rfl⟩ := own_slice HR.out.row
      have hcv := conv_own (h := HR.out.row)
      have HF := Lib.hid (HR.out.fin (by omega))
      go_wp2_with fail
      go_ret2
      exact HF.out
end Go.Proofs.Ythnjofgeghpdoaa
