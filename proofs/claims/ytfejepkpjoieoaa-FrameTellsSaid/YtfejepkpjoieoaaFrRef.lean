/-
  The walk of the reference's Scan.
-/
import Derived.Test.YtfejepkpjoieoaaFrScan
namespace Go.Proofs.Ytfejepkpjoieoaa
set_option maxRecDepth 100000
open Go.RowKit
theorem ref_short {m : Txt} (h : m.length < 10) : firstF m = none := by
  cases e : firstF m with
  | none => rfl
  | some r => have := first_len e; omega
theorem frameF_get0 (r t : Txt) : (frameF r ++ t)[0]? = some (UInt8.ofNat (r.length % 256)) := by simp [frameF, sealF, le2]
theorem frameF_get1 (r t : Txt) : (frameF r ++ t)[1]? = some (UInt8.ofNat (r.length / 256 % 256)) := by simp [frameF, sealF, le2]
theorem ref_len {m r : Txt} {x y : UInt8} (hx : m[0]? = some x) (hy : m[1]? = some y) (h : firstF m = some r) : r.length = x.toNat + 256 * y.toNat := by
  obtain ⟨hr, t, rfl⟩ := first_some.1 h
  rw [frameF_get0] at hx
  rw [frameF_get1] at hy
  injection hx with hx
  injection hy with hy
  subst hx hy
  simp; omega
theorem ref_rec (r t : Txt) : ((frameF r ++ t).drop 6).take r.length = r := by
  rw [frameF, List.append_assoc, List.drop_left' (by simp [sealF_len, le2]), sealF, List.append_assoc, List.take_left' rfl]
theorem ref_is {m r : Txt} {n : Nat} (h : firstF m = some r) (hn : r.length = n) : (m.drop 6).take n = r ∧ m.take (n + 10) = frameF r := by
  obtain ⟨hr, t, rfl⟩ := first_some.1 h
  subst hn
  exact ⟨ref_rec r t, List.take_left' (frameF_len r)⟩
theorem ref_yes {m r : Txt} {n : Nat} (hr : r.length = n) (hn : n ≤ 65535) (h : m.take (n + 10) = frameF r) : firstF m = some r :=
  first_some.2 ⟨by omega, m.drop (n + 10), by rw [← h, List.take_append_drop]⟩
theorem cut_eq (l : Txt) (a k : Nat) : (l.take (a + k)).drop a = (l.drop a).take k := by rw [List.drop_take]; congr 1; omega
theorem cut_rec (l : Txt) (a n : Nat) : (l.take (a + 6 + n)).drop (a + 6) = ((l.drop a).drop 6).take n := by rw [cut_eq, List.drop_drop]
def RScanPost (l : Txt) (w : World) (e : Ending) (w' : World) : Prop :=
  ∃ v, e = .returned (.tuple #[v, .int .i64 ((framesF (scanF l)).length : Int)]) ∧ TxtsAt w' v (scanF l) ∧ Below w.heap.size w w'
theorem scan_more {l : Txt} {rs : List Txt} {a : Nat} {r : Txt} (h1 : scanF l = rs ++ scanF (l.drop a)) (h2 : (framesF rs).length = a) (hf : firstF (l.drop a) = some r) :
    scanF l = (rs ++ [r]) ++ scanF (l.drop (a + r.length + 10)) ∧ (framesF (rs ++ [r])).length = a + r.length + 10 := by
  have e := scanF_some hf
  rw [List.drop_drop] at e
  refine ⟨by rw [h1, e, List.append_assoc, ← Nat.add_assoc]; rfl, ?_⟩
  rw [framesF_snoc, List.length_append, frameF_len, h2]; omega
theorem scan_done {l : Txt} {rs : List Txt} {a : Nat} (h1 : scanF l = rs ++ scanF (l.drop a)) (h2 : (framesF rs).length = a) (hf : firstF (l.drop a) = none) : rs = scanF l ∧ a = (framesF (scanF l)).length := by
  rw [scanF_none hf, List.append_nil] at h1
  exact ⟨h1.symm, by rw [h1, h2]⟩
set_option maxHeartbeats 2000000 in
theorem rscan_x (l : Txt) (w : World) (hl : l.length ≤ 1000000) :
    Calls Try.prog 13 #[.string (mkS l)] w (RScanPost l w) := by
  have hms := mkS_size l
  go_enter Try.func13, Try.ntmps13
  go_wp2_with fail
  go_loopw [4, 5] (fun v i wr => ∃ (rs : List Txt) (a : Nat), a ≤ l.length ∧ rs.length * 10 ≤ a ∧ i = .int .i64 a ∧ Hid (scanF l = rs ++ scanF (l.drop a)) ∧ Hid ((framesF rs).length = a) ∧ Hid (wr.ownsRow w.heap.size 9 1 v rs.length (strsV rs)) ∧ Hid (Below w.heap.size w wr)) (fun _ i _ => l.length - (intOf i).toNat)
  case atStart => exact ⟨[], 0, Nat.zero_le _, Nat.le_refl _, rfl, Lib.hid (by simp), Lib.hid (by simp [framesF]), Lib.hid (strs_nil _ _), Lib.hid (Below.refl _ _)⟩
  case round =>
    obtain ⟨rs, a, ha, hra, rfl, H1, H2, HO, HB⟩ := hrel
    obtain ⟨A, c, rfl⟩ := strs_slice HO.out
    by_cases h10 : l.length - a < 10
    · have d1 : decide ((10 : Int) ≤ (l.length : Int) - (a : Int)) = false := decide_eq_false (by omega)
      have HD := Lib.hid (scan_done H1.out H2.out (ref_short (by rw [List.length_drop]; exact h10)))
      clear h10
      go_wp2_with fail
      go_ret2
      exact ⟨_, by rw [← HD.out.2]; rfl, by rw [← HD.out.1]; exact own_txts HO.out, HB.out⟩
    · have d1 : decide ((10 : Int) ≤ (l.length : Int) - (a : Int)) = true := decide_eq_true (by omega)
      obtain ⟨x, hx⟩ : ∃ x, l[a]? = some x := ⟨_, List.getElem?_eq_getElem (by omega)⟩
      obtain ⟨y, hy⟩ : ∃ y, l[a + 1]? = some y := ⟨_, List.getElem?_eq_getElem (by omega)⟩
      have g0 : (mkS l)[a]'(by omega) = x := mkS_get (by omega) hx
      have g1 : (mkS l)[a + 1]'(by omega) = y := mkS_get (by omega) hy
      have HX := Lib.hid (show (l.drop a)[0]? = some x by simpa using hx)
      have HY := Lib.hid (show (l.drop a)[1]? = some y by simpa using hy)
      have hxl := x.toNat_lt
      have hyl := y.toNat_lt
      have c1 : (0 : Int) ≤ (a : Int) := by omega
      have c2 : (a : Int) < (l.length : Int) := by omega
      have c3 : (0 : Int) ≤ (a : Int) + 1 := by omega
      have c4 : (a : Int) + 1 < (l.length : Int) := by omega
      have c5 : (a : Int).toNat = a := by omega
      have c6 : ((a : Int) + 1).toNat = a + 1 := by omega
      have q1 : IntKind.i64.wrap ((a : Int) + 1) = (a : Int) + 1 := IntWalk.i64_in _ (by omega)
      have q2 : IntKind.i64.wrap (x.toNat : Int) = (x.toNat : Int) := IntWalk.i64_in _ (by omega)
      have q3 : IntKind.i64.wrap (y.toNat : Int) = (y.toNat : Int) := IntWalk.i64_in _ (by omega)
      have q4 : IntKind.i64.wrap (256 * (y.toNat : Int)) = 256 * (y.toNat : Int) := IntWalk.i64_in _ (by omega)
      obtain ⟨n, hxy⟩ : ∃ n : Nat, x.toNat + 256 * y.toNat = n := ⟨_, rfl⟩
      have q5 : IntKind.i64.wrap ((x.toNat : Int) + 256 * (y.toNat : Int)) = (n : Int) := by rw [IntWalk.i64_in _ (by omega)]; omega
      have hn : n ≤ 65535 := by omega
      have HLn := Lib.hid (show ∀ r, firstF (l.drop a) = some r → r.length = n from fun r h => hxy ▸ ref_len (r := r) HX.out HY.out h)
      clear hx hy hxy
      go_wp2_with fail
      go_quiet (fail)
      have HO2 := Lib.hid (own_below HO.out (below_drewN (Below.refl _ _) nq))
      have HB2 := Lib.hid (below_drewN HB.out nq)
      generalize wr.drewN nq = wm at HO2 HB2 ⊢
      clear q1 q2 q3 q4 q5 c1 c2 c3 c4 c5 c6 g0 g1 d1 hxl hyl HX HY HO HB
      by_cases h11 : l.length - a < n + 10
      · have d2 : decide ((l.length : Int) - (a : Int) < (n : Int) + 10) = true := decide_eq_true (by omega)
        have HD := Lib.hid (scan_done H1.out H2.out (by
          cases e : firstF (l.drop a) with
          | none => rfl
          | some r =>
            have e1 := HLn.out r e
            have e2 := first_len e
            rw [List.length_drop] at e2
            omega))
        clear h10 h11
        go_wp2_with fail
        go_ret2
        exact ⟨_, by rw [← HD.out.2]; rfl, by rw [← HD.out.1]; exact own_txts HO2.out, HB2.out⟩
      · have d2 : decide ((l.length : Int) - (a : Int) < (n : Int) + 10) = false := decide_eq_false (by omega)
        have he1 : (mkS l).extract (a + 6) (a + 6 + n) = mkS (((l.drop a).drop 6).take n) := by rw [mkS_extract, cut_rec]
        have he2 : (mkS l).extract a (a + n + 10) = mkS ((l.drop a).take (n + 10)) := by rw [mkS_extract, Nat.add_assoc, cut_eq]
        have hrl : (((l.drop a).drop 6).take n).length = n := by simp; omega
        have HI := Lib.hid (fun r (h : firstF (l.drop a) = some r) => ref_is h (HLn.out r h))
        have HYs := Lib.hid (fun (h : (l.drop a).take (n + 10) = frameF (((l.drop a).drop 6).take n)) => ref_yes hrl hn h)
        generalize ((l.drop a).drop 6).take n = r at he1 hrl HI HYs
        generalize (l.drop a).take (n + 10) = q at he2 HI HYs
        have c1 : (0 : Int) ≤ (a : Int) := by omega
        have c2 : (0 : Int) ≤ (a : Int) + 6 := by omega
        have c3 : (a : Int) + 6 ≤ (a : Int) + 6 + (n : Int) := by omega
        have c4 : (a : Int) + 6 + (n : Int) ≤ (l.length : Int) := by omega
        have c5 : ((a : Int) + 6).toNat = a + 6 := by omega
        have c6 : ((a : Int) + 6 + (n : Int)).toNat = a + 6 + n := by omega
        have c7 : (a : Int) ≤ (a : Int) + (n : Int) + 10 := by omega
        have c8 : (a : Int) + (n : Int) + 10 ≤ (l.length : Int) := by omega
        have c9 : ((a : Int) + (n : Int) + 10).toNat = a + n + 10 := by omega
        have c10 : (a : Int).toNat = a := by omega
        have q1 : IntKind.i64.wrap ((a : Int) + (n : Int)) = (a : Int) + (n : Int) := IntWalk.i64_in _ (by omega)
        have q2 : IntKind.i64.wrap ((a : Int) + (n : Int) + 10) = (a : Int) + (n : Int) + 10 := IntWalk.i64_in _ (by omega)
        have HF := Lib.hid (fun w => frame_x r w (by omega))
        have e1 := mkS_eqb q (frameF r)
        cases hq : (q == frameF r)
        · rw [hq] at e1
          have HD := Lib.hid (scan_done H1.out H2.out (by
            cases e : firstF (l.drop a) with
            | none => rfl
            | some r' =>
              obtain ⟨h1, h2⟩ := HI.out r' e
              rw [← h1] at h2
              exact absurd h2 (beq_eq_false_iff_ne.1 hq)))
          generalize frameF r = fr at e1 HF
          clear hq HI HYs h10 h11
          go_wp2_with fail
          go_region_held3 (fun _ => True) (trivial) ((go_at_call 23; (with_reducible refine (HF.out _).mono ?_); rintro y w5 ⟨rfl, hb5⟩))
          all_goals
            have HB5 := Lib.hid (below_next HB2.out (show Below wm.heap.size wm w5 from ⟨hb5.os, hb5.tape, hb5.output, hb5.size, hb5.block⟩))
            have HO5 := Lib.hid (own_below HO2.out (show Below wm.heap.size wm w5 from ⟨hb5.os, hb5.tape, hb5.output, hb5.size, hb5.block⟩))
            clear hb5 q1 q2
            go_wp2_with fail
            go_ret2
            exact ⟨_, by rw [← HD.out.2]; rfl, by rw [← HD.out.1]; exact own_txts HO5.out, HB5.out⟩
        · rw [hq] at e1
          have HM := Lib.hid (scan_more H1.out H2.out (HYs.out (eq_of_beq hq)))
          rw [hrl] at HM
          generalize frameF r = fr at e1 HF
          clear hq HI HYs h10 h11
          go_wp2_with fail
          go_region_held3 (fun _ => True) (trivial) ((go_at_call 23; (with_reducible refine (HF.out _).mono ?_); rintro y w5 ⟨rfl, hb5⟩))
          all_goals
            have HB5 := Lib.hid (below_next HB2.out (show Below wm.heap.size wm w5 from ⟨hb5.os, hb5.tape, hb5.output, hb5.size, hb5.block⟩))
            have HO5 := Lib.hid (own_below HO2.out (show Below wm.heap.size wm w5 from ⟨hb5.os, hb5.tape, hb5.output, hb5.size, hb5.block⟩))
            clear hb5 q1 q2
            go_wp2_with (at_builtin
                         refine app_strs rfl (.tmp 49) (.tmp 51) rfl w.heap.size (.slice A rs.length c) rs rfl (HO5.out.alloc _) ⟨w5.heap.size, 0, none⟩ 1 1 [r] rfl rfl ?c1 ?c2 ?c3 ?_)
            case c1 => exact news_one w5 r
            case c2 => omega
            case c3 => have := HB5.out.size; simp; omega
            intro v1 w6 hown6 hg _
            have HB6 := Lib.hid (strs_grown HB5.out.size HB5.out HO5.out hg)
            have HO6 := Lib.hid (show w6.ownsRow w.heap.size 9 1 v1 (rs ++ [r]).length (strsV (rs ++ [r])) from by rw [List.length_append]; exact hown6)
            clear hown6 hg
            obtain ⟨A6, c6', rfl⟩ := strs_slice HO6.out
            go_wp2_with fail
            go_roundw
            case rel => exact ⟨rs ++ [r], a + n + 10, by omega, by simp; omega, by go_num, Lib.hid HM.out.1, Lib.hid HM.out.2, HO6, HB6⟩
            case measure => simp [intOf]; omega
end Go.Proofs.Ytfejepkpjoieoaa
