/-
  The walk of the reference's Lines.
-/
import Derived.Test.YtkkpfencnjnddaaCutX
namespace Go.Proofs.Ytkkpfencnjnddaa
open Go.RowKit
theorem Try.info60 : (Try.prog.info? 60).map (fun i => (i.zero, i.size, i.bytes)) = some (some (.agg #[.string ⟨#[]⟩, .int .i64 0]), 2, 24) := by kernel_rfl

/-- What holds in Lines' loop: the lines of the first k texts lie in ov. -/
structure LI (W0 : World) (most : Nat) (ts : List (List UInt8)) (k : Nat) (ov : Value) (w : World) : Prop where
  row : w.ownsRow W0.heap.size 60 2 ov k (lnsV ((ts.map (badLine most)).take k))
  below : Below W0.heap.size W0 w
theorem LI.start (w : World) (most : Nat) (ts : List (List UInt8)) : LI w most ts 0 (.slice none 0 0) w := ⟨⟨rfl, .inl ⟨rfl, rfl⟩⟩, Below.refl _ _⟩
theorem LI.more {W0 w W w1 : World} {most k : Nat} {ts : List (List UInt8)} {ov v1 : Value} {t : List UInt8} (h : LI W0 most ts k ov w) (ht : ts[k]? = some t) (hb : Below w.heap.size w W) (hg : W.grownBy w1 ov.ownBlock) (u : List UInt8) (x : Int) (hu : badLine most t = (u, x))
    (ho : w1.ownsRow W0.heap.size 60 2 v1 (k + 1) (lnsV ((ts.map (badLine most)).take k) ++ [.string (mkS u), .int .i64 x])) : LI W0 most ts (k + 1) v1 w1 := by
  obtain ⟨hk, e⟩ := List.getElem?_eq_some_iff.1 ht
  refine ⟨?_, (h.below.trans (hb.mono h.below.size)).grown hg (Nat.le_trans h.below.size hb.size) (fun j hj => (h.row.lt j hj).1)⟩
  rw [← List.map_take, List.take_succ_eq_append_getElem hk, e, List.map_append, lnsV_append, List.map_take]
  simp only [List.map_cons, List.map_nil, hu]
  exact ho
def LinesPost (most : Nat) (s : List UInt8) (w : World) (e : Ending) (w' : World) : Prop :=
  ∃ o, e = .returned (.tuple #[o, .int .i64 ((sc [] s).2.length : Nat)]) ∧ w'.ownsRow w.heap.size 60 2 o ((sc [] s).1.map (badLine most)).length (lnsV ((sc [] s).1.map (badLine most))) ∧ Below w.heap.size w w'

set_option maxHeartbeats 1000000 in
theorem reflines_x (most : Nat) (s : List UInt8) (w : World) (hs : s.length ≤ 1000000000) (hm : most ≤ 65536) : Calls Try.prog 12 #[.int .i64 (most : Int), .string (mkS s)] w (LinesPost most s w) := by
  obtain ⟨i0, hi, hz0, hz1, hz2⟩ := info_parts Try.info60
  have HC := Lib.hid (cut_x s w hs)
  go_enter Try.func12, Try.ntmps12
  go_wp2_with fail
  refine HC.out.mono ?_
  rintro e wc ⟨o, rfl, hrow, hbc⟩
  clear HC
  obtain ⟨h1, h2, h3⟩ := sc_len s []
  simp only [List.length_nil, Nat.zero_add] at h2 h3
  obtain ⟨Ao, co, rfl⟩ := own_slice hrow
  generalize hq : sc [] s = q at h1 h2 h3 hrow
  obtain ⟨ts, r⟩ := q
  simp only at h1 h2 h3 hrow
  have HP := Lib.hid hq
  have hst := own_strs hrow
  have HST := Lib.hid hst
  have HB := Lib.hid hbc
  have H3 := Lib.hid h3
  have hmr : (mkS r).size = r.length := size_mk r
  clear hst hbc h3 hrow hq
  go_wp2_with fail
  go_loopw [8, 9] (fun ov i wr => ∃ k : Nat, k ≤ ts.length ∧ i = .int .i64 k ∧ LI wc most ts k ov wr) (fun _ i _ => ts.length - (intOf i).toNat)
  case atStart => exact ⟨0, Nat.zero_le _, rfl, LI.start wc most ts⟩
  case round =>
    obtain ⟨k, hk, rfl, hli⟩ := hrel
    obtain ⟨A, cp, rfl⟩ := own_slice hli.row
    by_cases hlt : k < ts.length
    · have htk : ts[k]? = some (ts[k]'hlt) := List.getElem?_eq_getElem hlt
      have htl := H3.out _ (List.mem_of_getElem? htk)
      generalize ts[k]'hlt = t at htk htl
      obtain ⟨ad, p, rfl, hpk, hab, hcl⟩ := HST.out.cell hlt
      have hp : p = mkS t := by
        rw [List.getElem?_map, htk] at hpk
        injection hpk with hpk
        exact hpk.symm
      subst hp
      have hcw : wr.cell? (ad.add k) = some (.string (mkS t)) := (hli.below.cell (by rw [add_block]; exact hab)).trans hcl
      have habw : (ad.add k).block < wr.heap.size := by rw [add_block]; exact Nat.lt_of_lt_of_le hab hli.below.size
      have hmt : (mkS t).size = t.length := size_mk t
      have HLI := Lib.hid hli
      have HTK := Lib.hid htk
      clear hpk hcl hli htk
      by_cases hlong : most < t.length + 2
      · have d1 : decide ((most : Int) < (t.length : Int) + 2) = true := decide_eq_true (by omega)
        go_wp2_with (first
          | (at_builtin
             refine wpList_append_own_at _ rfl (.tmp 43) (.tmp 45) _ rfl wc.heap.size 60 i0 (.agg #[.string ⟨#[]⟩, .int .i64 0]) 2 24 Try.underlying31 hi hz0 hz1 hz2 rfl (by decide) (.slice A k cp) k _ rfl
               (own_below HLI.out.row (((Below.refl _ _).alloc (Nat.le_refl _) _).alloc (by simp) _)) ⟨wr.heap.size + 1, 0, none⟩ 1 1 [.string ⟨#[]⟩, .int .i64 3] rfl rfl ?c1 ?c2 ?c3 ?c4 ?c5 ?_))
        case c1 =>
          intro j u hu
          match j with
          | 0 => simp at hu; subst hu; exact World.cell?_alloc_at _ _ _ _ (by simp)
          | 1 => simp at hu; subst hu; exact World.cell?_alloc_at _ _ _ _ (by simp)
          | j + 2 => simp at hu
        case c2 =>
          intro u hu
          simp at hu
          rcases hu with rfl | rfl <;> rfl
        case c3 => unfold maxLen; omega
        case c4 => omega
        case c5 => have := HLI.out.below.size; simp; omega
        intro v1 w1 hown1 hg1 _ _
        have HL1 := Lib.hid (HLI.out.more HTK.out (((Below.refl _ _).alloc (Nat.le_refl _) _).alloc (by simp) _) hg1 _ 3 (show badLine most t = ([], 3) from if_pos hlong) hown1)
        clear hown1 hg1
        go_wp2_with fail
        go_roundw
        case rel => exact ⟨k + 1, by omega, by go_num, HL1.out⟩
        case measure => simp [intOf]; omega
      · have d1 : decide ((most : Int) < (t.length : Int) + 2) = false := decide_eq_false (by omega)
        have HPL := Lib.hid (rplain_x (mkS t) (wr.alloc (.cells #[.string (mkS t), .int .i64 0] 60)) (by omega))
        have e1 : (mkS t).data.toList = t := by simp [mkS]
        rw [e1] at HPL
        clear e1
        have HLG := Lib.hid hlong
        clear hlong
        cases hpl : plainB t
        · rw [hpl] at HPL
          have HPB := Lib.hid hpl
          clear hpl
          go_wp2_with fail
          refine HPL.out.mono ?_
          rintro e w' ⟨rfl, rfl⟩
          go_wp2_with   (first
            | (at_builtin
               refine wpList_append_own_at _ rfl (.tmp 43) (.tmp 45) _ rfl wc.heap.size 60 i0 (.agg #[.string ⟨#[]⟩, .int .i64 0]) 2 24 Try.underlying31 hi hz0 hz1 hz2 rfl (by decide) (.slice A k cp) k _ rfl
                 (own_below HLI.out.row (((Below.refl _ _).alloc (Nat.le_refl _) _).alloc (by simp) _)) ⟨wr.heap.size + 1, 0, none⟩ 1 1 [.string ⟨#[]⟩, .int .i64 2] rfl rfl ?c1 ?c2 ?c3 ?c4 ?c5 ?_))
          case c1 =>
            intro j u hu
            match j with
            | 0 => simp at hu; subst hu; exact World.cell?_alloc_at _ _ _ _ (by simp)
            | 1 => simp at hu; subst hu; exact World.cell?_alloc_at _ _ _ _ (by simp)
            | j + 2 => simp at hu
          case c2 =>
            intro u hu
            simp at hu
            rcases hu with rfl | rfl <;> rfl
          case c3 => unfold maxLen; omega
          case c4 => omega
          case c5 => have := HLI.out.below.size; simp; omega
          intro v1 w1 hown1 hg1 _ _
          have HL1 := Lib.hid (HLI.out.more HTK.out (((Below.refl _ _).alloc (Nat.le_refl _) _).alloc (by simp) _) hg1 _ 2 (show badLine most t = ([], 2) by rw [badLine, if_neg HLG.out, HPB.out]; rfl) hown1)
          clear hown1 hg1
          go_wp2_with fail
          go_roundw
          case rel => exact ⟨k + 1, by omega, by go_num, HL1.out⟩
          case measure => simp [intOf]; omega
        · rw [hpl] at HPL
          have HPB := Lib.hid hpl
          clear hpl
          go_wp2_with fail
          refine HPL.out.mono ?_
          rintro e w' ⟨rfl, rfl⟩
          go_wp2_with   (first
            | (at_builtin
               refine wpList_append_own_at _ rfl (.tmp 43) (.tmp 45) _ rfl wc.heap.size 60 i0 (.agg #[.string ⟨#[]⟩, .int .i64 0]) 2 24 Try.underlying31 hi hz0 hz1 hz2 rfl (by decide) (.slice A k cp) k _ rfl
                 (own_below HLI.out.row (((Below.refl _ _).alloc (Nat.le_refl _) _).alloc (by simp) _)) ⟨wr.heap.size + 1, 0, none⟩ 1 1 [.string (mkS t), .int .i64 0] rfl rfl ?c1 ?c2 ?c3 ?c4 ?c5 ?_))
          case c1 =>
            intro j u hu
            match j with
            | 0 => simp at hu; subst hu; exact World.cell?_alloc_at _ _ _ _ (by simp)
            | 1 => simp at hu; subst hu; exact World.cell?_alloc_at _ _ _ _ (by simp)
            | j + 2 => simp at hu
          case c2 =>
            intro u hu
            simp at hu
            rcases hu with rfl | rfl <;> rfl
          case c3 => unfold maxLen; omega
          case c4 => omega
          case c5 => have := HLI.out.below.size; simp; omega
          intro v1 w1 hown1 hg1 _ _
          have HL1 := Lib.hid (HLI.out.more HTK.out (((Below.refl _ _).alloc (Nat.le_refl _) _).alloc (by simp) _) hg1 _ 0 (show badLine most t = (t, 0) by rw [badLine, if_neg HLG.out, HPB.out]; rfl) hown1)
          clear hown1 hg1
          go_wp2_with fail
          go_roundw
          case rel => exact ⟨k + 1, by omega, by go_num, HL1.out⟩
          case measure => simp [intOf]; omega
    · have HLI := Lib.hid hli
      clear hli
      go_wp2_with fail
      go_ret2
      have e : k = ts.length := by omega
      subst e
      have hr := HLI.out.row
      rw [List.take_of_length_le (by simp)] at hr
      unfold LinesPost
      rw [HP.out]
      exact ⟨_, rfl, by rw [List.length_map]; exact own_mono hr HB.out.size, HB.out.trans (HLI.out.below.mono HB.out.size)⟩
end Go.Proofs.Ytkkpfencnjnddaa
