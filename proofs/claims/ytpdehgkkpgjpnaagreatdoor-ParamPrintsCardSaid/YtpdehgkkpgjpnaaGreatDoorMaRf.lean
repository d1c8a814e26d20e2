/-
  PaRfA · PaTyped · PaRfM, in one text.
-/
import Derived.Test.YtpdehgkkpgjpnaaGreatDoorPaNames
import Derived.Test.YtpdehgkkpgjpnaaGreatDoorMaPure
import Derived.Test.YtpdehgkkpgjpnaaGreatDoorMaBuild
import Derived.Test.YtpdehgkkpgjpnaaGreatDoorPaRight
import Derived.Test.YtpdehgkkpgjpnaaGreatDoorMaDr
/-
  The walks of the reference's small functions: more, wrong, least, among, Upper, typed.
-/
namespace Go.Proofs.YtpdehgkkpgjpnaaGreatDoor
set_option maxRecDepth 100000
open Go.RowKit Go.Shelf
def moreV (s : Txt) (h : Bool) (w : Txt) : Txt := if h then (if s = [] then w else s ++ 32 :: w) else s
def wrongV (h : Bool) (n a b : Int) : Int := if h then (if decide (n < a) || decide (b < n) then 1 else 0) else (if n = 0 then 0 else 2)
theorem more_x (s : Txt) (h : Bool) (t : Txt) (w : World) (hs : s.length ≤ 1000000000000) (ht : t.length ≤ 1000000000000) : Calls Tryz.prog 26 #[.string (mkS s), .bool h, .string (mkS t)] w fun e w' => e = .returned (.string (mkS (moreV s h t))) ∧ w' = w := by
  cases h
  · go_enter Tryz.func26, Tryz.ntmps26
    go_wp2_with fail
    go_ret
    exact ⟨rfl, rfl⟩
  · have hT := mkS_toList s
    have hz1 := mkS_size s
    have hz2 := mkS_size t
    by_cases h0 : s = []
    · have he : s.isEmpty = true := by rw [h0]; rfl
      have he2 : (s == []) = true := by rw [h0]; rfl
      have HV := Lib.hid (show moreV s true t = t by rw [moreV, if_pos rfl, if_pos h0])
      clear h0
      go_enter Tryz.func26, Tryz.ntmps26
      go_wp2_with fail
      go_ret
      exact ⟨ret_str (by rw [HV.out]), rfl⟩
    · have he : s.isEmpty = false := by cases s <;> simp_all
      have he2 : (s == []) = false := beq_eq_false_iff_ne.2 h0
      have he3 : decide (s = []) = false := decide_eq_false h0
      have HV := Lib.hid (show mkS (moreV s true t) = mkS s ++ { data := #[32] } ++ mkS t by
        rw [moreV, if_pos rfl, if_neg h0, show ({ data := #[32] } : ByteArray) = mkS [32] from rfl, mkS_cat, mkS_cat]; simp)
      have q1 : ¬ 9223372036854775807 < s.length + 1 := by omega
      have q2 : ¬ 9223372036854775807 < s.length + 1 + t.length := by omega
      clear h0 hs ht
      go_enter Tryz.func26, Tryz.ntmps26
      go_wp2_with fail
      go_ret
      exact ⟨ret_str HV.out.symm, rfl⟩
theorem wrong_x (h : Bool) (n a b : Int) (w : World) : Calls Tryz.prog 52 #[.bool h, .int .i64 n, .int .i64 a, .int .i64 b] w fun e w' => e = .returned (.int .i64 (wrongV h n a b)) ∧ w' = w := by
  have HV := Lib.hid (show wrongV h n a b = if h then (if decide (n < a) || decide (b < n) then 1 else 0) else (if n = 0 then 0 else 2) from rfl)
  cases h
  · by_cases h0 : n = 0
    · subst h0
      go_enter Tryz.func52, Tryz.ntmps52
      go_wp2_with fail
      go_ret
      exact ⟨ret_int (by rw [HV.out]; simp), rfl⟩
    · have h1 : (n == 0) = false := beq_eq_false_iff_ne.2 h0
      go_enter Tryz.func52, Tryz.ntmps52
      go_wp2_with fail
      go_ret
      exact ⟨ret_int (by rw [HV.out]; simp [h0]), rfl⟩
  · by_cases h1 : n < a
    · go_enter Tryz.func52, Tryz.ntmps52
      go_wp2_with fail
      go_ret
      exact ⟨ret_int (by rw [HV.out]; simp [h1]), rfl⟩
    · by_cases h2 : b < n
      · go_enter Tryz.func52, Tryz.ntmps52
        go_wp2_with fail
        go_ret
        exact ⟨ret_int (by rw [HV.out]; simp [h2]), rfl⟩
      · go_enter Tryz.func52, Tryz.ntmps52
        go_wp2_with fail
        go_ret
        exact ⟨ret_int (by rw [HV.out]; simp [h1, h2]), rfl⟩
theorem rleast_x (s : Txt) (w : World) : Calls Tryz.prog 53 #[.string (mkS s)] w fun e w' => e = .returned (.int .i64 (leastV s)) ∧ w' = w := by
  have hms := mkS_size s
  by_cases h0 : 0 < s.length
  · have h1 : (0 : Int) < (s.length : Int) := by omega
    obtain ⟨x, hx1, hx2⟩ := get_at h0
    have HV := Lib.hid (show leastV s = if x == 82 then 1 else -999999999 by
      rw [leastV]
      cases s with
      | nil => simp at h0
      | cons b t => simp at hx1; subst hx1; simp)
    have d0 : ((x.toNat : Int) == ((82 : Nat) : Int)) = (x == 82) := by
      rw [Bool.eq_iff_iff, byte_eq (by decide), beq_iff_eq]; rfl
    have d1 : ((x.toNat : Int) == 82) = (x == 82) := d0
    clear d0
    cases hq : (x == 82)
    · rw [hq] at d1 HV
      clear hx1 hq
      go_enter Tryz.func53, Tryz.ntmps53
      go_wp2_with fail
      go_ret
      exact ⟨ret_int (by rw [HV.out]; simp), rfl⟩
    · rw [hq] at d1 HV
      clear hx1 hq
      go_enter Tryz.func53, Tryz.ntmps53
      go_wp2_with fail
      go_ret
      exact ⟨ret_int (by rw [HV.out]; simp), rfl⟩
  · have h1 : ¬ (0 : Int) < (s.length : Int) := by omega
    have HV := Lib.hid (show leastV s = -999999999 by
      cases s with
      | nil => rfl
      | cons b t => simp at h0)
    go_enter Tryz.func53, Tryz.ntmps53
    go_wp2_with fail
    go_ret
    exact ⟨ret_int (by rw [HV.out]), rfl⟩
/-- Is a text one of a row that lies in one block? -/
theorem among_x (s : Txt) (L : List Txt) (g n c : Nat) (hn : L.length = n) (w : World) (hc : ∀ (j : Nat) x, L[j]? = some x → w.cell? ⟨g, j, none⟩ = some (.string (mkS x))) (hL : n ≤ 1000000) :
    Calls Tryz.prog 54 #[.string (mkS s), .slice (some ⟨g, 0, none⟩) n c] w fun e w' => e = .returned (.bool (L.contains s)) ∧ w' = w := by
  subst hn
  have HC := Lib.hid hc
  have hT := mkS_toList s
  clear hc
  go_enter Tryz.func54, Tryz.ntmps54
  go_wp2_with fail
  go_loop [5] (fun i => ∃ k : Nat, k ≤ L.length ∧ i = .int .i64 k ∧ Hid (s ∉ L.take k)) (fun i => L.length - (intOf i).toNat)
  case atStart => exact ⟨0, Nat.zero_le _, rfl, by show s ∉ L.take 0; simp⟩
  case round =>
    obtain ⟨k, hk, rfl, HN⟩ := hrel
    by_cases hlt : k < L.length
    · obtain ⟨x, hX⟩ : ∃ x, L[k]? = some x := ⟨_, List.getElem?_eq_getElem hlt⟩
      have hcx := HC.out k x hX
      have hT2 := mkS_toList x
      have HX := Lib.hid hX
      clear hX
      cases hq : (x == s)
      · have HN2 := Lib.hid (show s ∉ L.take (k + 1) by
          rw [List.take_add_one, HX.out]
          intro h
          rcases List.mem_append.1 h with h | h
          · exact HN.out h
          · simp at h; rw [h] at hq; simp at hq)
        go_wp2_with fail
        go_round
        case rel => exact ⟨k + 1, by omega, by go_num, HN2⟩
        case measure => simp [intOf]; omega
      · have HV := Lib.hid (show L.contains s = true by
          rw [List.contains_iff_mem, ← beq_iff_eq.1 hq]; exact List.mem_of_getElem? HX.out)
        go_wp2_with fail
        go_ret
        exact ⟨ret_bool (by simpa using HV.out), rfl⟩
    · have HV := Lib.hid (show L.contains s = false by
        have := HN.out
        rw [List.take_of_length_le (by omega)] at this
        simpa using this)
      go_wp2_with fail
      go_ret
      exact ⟨ret_bool (by simpa using HV.out), rfl⟩
theorem upL_take {l : Txt} {k : Nat} {x : UInt8} (h : l[k]? = some x) : upL (l.take (k + 1)) = upL (l.take k) ++ [upB x] := by
  rw [List.take_add_one, h]; simp [upL]
set_option maxHeartbeats 1000000 in
theorem rupper_x (l : Txt) (w : World) (hs : l.length ≤ 1000000000) :
    Calls Tryz.prog 61 #[.string (mkS l)] w fun e w' => e = .returned (.string (mkS (upL l))) ∧ Below w.heap.size w w' := by
  have hms := mkS_size l
  obtain ⟨i0, hi, hz0, hz1, hz2⟩ := info_parts Tryz.infoB
  go_enter Tryz.func61, Tryz.ntmps61
  go_wp2_with fail
  go_loopw [3, 4] (fun v i wr => ∃ k : Nat, k ≤ l.length ∧ i = .int .i64 k ∧ Hid (wr.ownsRow w.heap.size 5 1 v (upL (l.take k)).length (bytesV (upL (l.take k)))) ∧ Hid (Below w.heap.size w wr)) (fun _ i _ => l.length - (intOf i).toNat)
  case atStart => exact ⟨0, Nat.zero_le _, rfl, ⟨rfl, .inl ⟨rfl, rfl⟩⟩, Below.refl _ _⟩
  case round =>
    obtain ⟨k, hk, rfl, HO, HW⟩ := hrel
    by_cases hlt : k < l.length
    · obtain ⟨x, hx, hx2⟩ := get_at hlt
      have HT := Lib.hid (upL_take hx)
      have hel : (upL (l.take k)).length ≤ 1000000000 := by rw [upL_length, List.length_take]; omega
      generalize upL (l.take k) = ek at HO HT hel
      obtain ⟨A, c, rfl⟩ := own_slice HO.out
      clear hx
      have d1 : decide ((97 : Int) ≤ (x.toNat : Int)) = decide (97 ≤ x.toNat) := dle1 97 _ 97 rfl
      have d2 : decide ((x.toNat : Int) ≤ 122) = decide (x.toNat ≤ 122) := dle2 _ 122 122 rfl
      cases hp : smlB x
      · have HE := Lib.hid (up_not hp)
        unfold smlB at hp
        by_cases h1 : 97 ≤ x.toNat
        · have h2 : ¬ x.toNat ≤ 122 := by simpa [h1] using hp
          have h1' : (97 : Int) ≤ (x.toNat : Int) := by omega
          have h2' : ¬ (x.toNat : Int) ≤ 122 := by omega
          clear hp d1 d2 h1 h2
          go_wp2_with (at_builtin
                       refine app_bytes rfl (.tmp 28) (.tmp 32) rfl w.heap.size (.slice A ek.length c) ek rfl (HO.out.alloc _) ⟨wr.heap.size, 0, none⟩ 1 1 [x] rfl rfl ?c1 ?c2 ?c3 ?_)
          case c1 => first | exact fun j u h => h | exact cells_new wr _ _ rfl _ rfl
          case c2 => omega
          case c3 => have := HW.out.size; simp; omega
          intro v1 w2 hown hg
          have HO2 := Lib.hid hown
          have HW2 := Lib.hid (bytes_grown HW.out HO.out hg)
          clear hown hg
          go_wp2_with fail
          go_roundw
          case rel => exact ⟨k + 1, by omega, by go_num, by rw [HT.out, HE.out, List.length_append]; exact HO2.out, HW2.out⟩
          case measure => simp [intOf]; omega
        · have h1' : ¬ (97 : Int) ≤ (x.toNat : Int) := by omega
          clear hp d1 d2 h1
          go_wp2_with (at_builtin
                       refine app_bytes rfl (.tmp 28) (.tmp 32) rfl w.heap.size (.slice A ek.length c) ek rfl (HO.out.alloc _) ⟨wr.heap.size, 0, none⟩ 1 1 [x] rfl rfl ?c1 ?c2 ?c3 ?_)
          case c1 => first | exact fun j u h => h | exact cells_new wr _ _ rfl _ rfl
          case c2 => omega
          case c3 => have := HW.out.size; simp; omega
          intro v1 w2 hown hg
          have HO2 := Lib.hid hown
          have HW2 := Lib.hid (bytes_grown HW.out HO.out hg)
          clear hown hg
          go_wp2_with fail
          go_roundw
          case rel => exact ⟨k + 1, by omega, by go_num, by rw [HT.out, HE.out, List.length_append]; exact HO2.out, HW2.out⟩
          case measure => simp [intOf]; omega
      · have hu := up_sum x hp
        have h1' : (97 : Int) ≤ (x.toNat : Int) := by have := (show _ ∧ _ by simpa [smlB] using hp).1; omega
        have h2' : (x.toNat : Int) ≤ 122 := by have := (show _ ∧ _ by simpa [smlB] using hp).2; omega
        have hu2 : (x.toNat : Int) - 32 = ((upB x).toNat : Int) := by rw [← hu]; exact (IntWalk.u8_in _ (by omega)).symm
        clear hp d1 d2 hu
        go_wp2_with (at_builtin
                     refine app_bytes rfl (.tmp 21) (.tmp 26) rfl w.heap.size (.slice A ek.length c) ek rfl (HO.out.alloc _) ⟨wr.heap.size, 0, none⟩ 1 1 [upB x] rfl rfl ?c1 ?c2 ?c3 ?_)
        case c1 => first | exact fun j u h => h | exact cells_new wr [upB x] _ (by first | rfl | (rw [← hu2]; rfl) | simp [bytesV, hu2]) _ rfl
        case c2 => omega
        case c3 => have := HW.out.size; simp; omega
        intro v1 w2 hown hg
        have HO2 := Lib.hid hown
        have HW2 := Lib.hid (bytes_grown HW.out HO.out hg)
        clear hown hg
        go_wp2_with fail
        go_roundw
        case rel => exact ⟨k + 1, by omega, by go_num, by rw [HT.out, List.length_append]; exact HO2.out, HW2.out⟩
        case measure => simp [intOf]; omega
    · have ho := HO.out
      rw [List.take_of_length_le (by omega)] at ho
      obtain ⟨A, c, rfl⟩ := own_slice ho
      have hcv := conv_own (h := ho)
      clear ho
      go_wp2_with fail
      go_ret
      exact ⟨rfl, HW.out⟩
end Go.Proofs.YtpdehgkkpgjpnaaGreatDoor
/-
  The walk of the reference's typed.
-/
namespace Go.Proofs.YtpdehgkkpgjpnaaGreatDoor
set_option maxRecDepth 100000
open Go.RowKit Go.Shelf
theorem aln_up : ∀ x : UInt8, alnB x = ((decide (65 ≤ (upB x).toNat) && decide ((upB x).toNat ≤ 90)) || (decide (48 ≤ (upB x).toNat) && decide ((upB x).toNat ≤ 57))) := by
  intro x
  exact X.all_bytes (p := fun x => alnB x = ((decide (65 ≤ (upB x).toNat) && decide ((upB x).toNat ≤ 90)) || (decide (48 ≤ (upB x).toNat) && decide ((upB x).toNat ≤ 57)))) (by decide +kernel) x
set_option maxHeartbeats 4000000 in
theorem typed_x (l : Txt) (w : World) : Calls Tryz.prog 60 #[.string (mkS l)] w fun e w' => e = .returned (.bool (isKind l)) ∧ Below w.heap.size w w' := by
  have hms := mkS_size l
  by_cases h0 : l.length < 1
  · have h0' : (l.length : Int) < 1 := by omega
    have HV := Lib.hid (show isKind l = false by
      have : l = [] := List.eq_nil_of_length_eq_zero (by omega)
      subst this; rfl)
    go_enter Tryz.func60, Tryz.ntmps60
    go_wp2_with fail
    go_ret
    exact ⟨ret_bool HV.out.symm, Below.refl _ _⟩
  have h0' : ¬ (l.length : Int) < 1 := by omega
  by_cases h1 : 32 < l.length
  · have h1' : (32 : Int) < (l.length : Int) := by omega
    have HV := Lib.hid (show isKind l = false by
      unfold isKind
      rw [decide_eq_false (by omega), Bool.and_false, Bool.false_and])
    go_enter Tryz.func60, Tryz.ntmps60
    go_wp2_with fail
    go_ret
    exact ⟨ret_bool HV.out.symm, Below.refl _ _⟩
  have h1' : ¬ (32 : Int) < (l.length : Int) := by omega
  have HK := Lib.hid (show isKind l = l.all alnB by
    unfold isKind
    rw [decide_eq_true (by omega), Bool.and_true, show (l != []) = true from bne_iff_ne.2 (fun e => by rw [e] at h0; simp at h0), Bool.true_and])
  have hl32 : l.length ≤ 32 := by omega
  have hl0 : 0 < l.length := by omega
  clear h0 h1
  go_enter Tryz.func60, Tryz.ntmps60
  go_wp2_with fail
  clear h0' h1'
  go_loopw [3, 4] (fun i _ wr => ∃ k : Nat, k ≤ l.length ∧ i = .int .i64 k ∧ Hid ((l.take k).all alnB = true) ∧ Hid (Below w.heap.size w wr)) (fun i _ _ => l.length - (intOf i).toNat)
  case atStart => exact ⟨0, Nat.zero_le _, rfl, by show (l.take 0).all alnB = true; simp, Below.refl _ _⟩
  case round =>
    obtain ⟨k, hk, rfl, HA, HB⟩ := hrel
    by_cases hlt : k < l.length
    · obtain ⟨x, hX⟩ : ∃ x, l[k]? = some x := ⟨_, List.getElem?_eq_getElem hlt⟩
      have HN := Lib.hid (show alnB x = true → Hid ((l.take (k + 1)).all alnB = true) from fun h => Lib.hid (by
        rw [List.take_add_one, hX, List.all_append, HA.out, Bool.true_and]; simp [h]))
      have HNo := Lib.hid (show alnB x = false → false = isKind l from fun h => by
        rw [HK.out]
        refine (Bool.eq_false_iff.2 fun hh => ?_).symm
        rw [List.all_eq_true.1 hh x (List.mem_of_getElem? hX)] at h
        cases h)
      have hex : (mkS l).extract k (k + 1) = mkS [x] := by
        rw [mkS_extract, List.take_add_one, hX, List.drop_append_of_le_length (by simp; omega)]
        rw [List.drop_of_length_le (by simp; omega)]; rfl
      have HU := Lib.hid (fun w => rupper_x [x] w (by simp))
      have HV := Lib.hid (aln_up x)
      rw [show upL [x] = [upB x] from rfl] at HU
      generalize upB x = c at HU HV
      have hg : ∀ h, (mkS [c])[0]'h = c := fun _ => rfl
      have hsz1 : (mkS [c]).size = 1 := rfl
      have hc := c.toNat_lt
      clear hX
      by_cases a1 : c.toNat < 65
      · have a1' : (c.toNat : Int) < 65 := by omega
        by_cases a3 : c.toNat < 48
        · have a3' : (c.toNat : Int) < 48 := by omega
          go_wp2_with fail
          refine (HU.out wr).mono ?_
          rintro e w1 ⟨rfl, hb⟩
          have HB1 := Lib.hid (below_next HB.out hb)
          clear hb
          go_wp2_with fail
          go_ret
          exact ⟨ret_bool (HNo.out (by rw [HV.out]; simp; omega)), HB1.out⟩
        · have a3' : ¬ (c.toNat : Int) < 48 := by omega
          by_cases a4 : 57 < c.toNat
          · have a4' : (57 : Int) < (c.toNat : Int) := by omega
            go_wp2_with fail
            refine (HU.out wr).mono ?_
            rintro e w1 ⟨rfl, hb⟩
            have HB1 := Lib.hid (below_next HB.out hb)
            clear hb
            go_wp2_with fail
            go_ret
            exact ⟨ret_bool (HNo.out (by rw [HV.out]; simp; omega)), HB1.out⟩
          · have a4' : ¬ (57 : Int) < (c.toNat : Int) := by omega
            go_wp2_with fail
            refine (HU.out wr).mono ?_
            rintro e w1 ⟨rfl, hb⟩
            have HB1 := Lib.hid (below_next HB.out hb)
            clear hb
            go_wp2_with fail
            go_roundw
            case rel => exact ⟨k + 1, by omega, by go_num, HN.out (by rw [HV.out]; simp; omega), HB1.out⟩
            case measure => simp [intOf]; omega
      · have a1' : ¬ (c.toNat : Int) < 65 := by omega
        by_cases a2 : 90 < c.toNat
        · have a2' : (90 : Int) < (c.toNat : Int) := by omega
          have a3' : ¬ (c.toNat : Int) < 48 := by omega
          have a4' : (57 : Int) < (c.toNat : Int) := by omega
          go_wp2_with fail
          refine (HU.out wr).mono ?_
          rintro e w1 ⟨rfl, hb⟩
          have HB1 := Lib.hid (below_next HB.out hb)
          clear hb
          go_wp2_with fail
          go_ret
          exact ⟨ret_bool (HNo.out (by rw [HV.out]; simp; omega)), HB1.out⟩
        · have a2' : ¬ (90 : Int) < (c.toNat : Int) := by omega
          go_wp2_with fail
          refine (HU.out wr).mono ?_
          rintro e w1 ⟨rfl, hb⟩
          have HB1 := Lib.hid (below_next HB.out hb)
          clear hb
          go_wp2_with fail
          go_roundw
          case rel => exact ⟨k + 1, by omega, by go_num, HN.out (by rw [HV.out]; simp; omega), HB1.out⟩
          case measure => simp [intOf]; omega
    · have HV := Lib.hid (show isKind l = true by
        have := HA.out
        rw [List.take_of_length_le (by omega)] at this
        rw [HK.out, this])
      go_wp2_with fail
      go_ret
      exact ⟨ret_bool HV.out.symm, HB.out⟩
end Go.Proofs.YtpdehgkkpgjpnaaGreatDoor
/-
  The reference's RightMail: what it answers, plainly; its box.
-/
namespace Go.Proofs.YtpdehgkkpgjpnaaGreatDoor
set_option maxRecDepth 100000
open Go.RowKit Go.Shelf
theorem wrong_2 {h : Bool} {n a b : Int} : wrongV h n a b = 2 ↔ h = false ∧ n ≠ 0 := by
  unfold wrongV
  cases h
  · by_cases h0 : n = 0 <;> simp [h0]
  · cases hq : (decide (n < a) || decide (b < n)) <;> simp
theorem wrong_1 {h : Bool} {n a b : Int} : wrongV h n a b = 1 ↔ h = true ∧ ¬ (a ≤ n ∧ n ≤ b) := by
  unfold wrongV
  cases h
  · by_cases h0 : n = 0 <;> simp [h0]
  · by_cases h1 : n < a
    · have h3 : ¬ (a ≤ n ∧ n ≤ b) := by omega
      simp [h1, h3]
    · by_cases h2 : b < n
      · have h3 : ¬ (a ≤ n ∧ n ≤ b) := by omega
        simp [h2, h3]
      · have h3 : a ≤ n ∧ n ≤ b := by omega
        simp [h1, h2, h3]
def wrongsL (m : ML) : List Int := [wrongV m.hs m.sz 0 999999999, wrongV m.hf m.fo 1 1048576, wrongV m.hu m.un 0 253402300799, wrongV m.hb m.by_ (leastV m.mode) 999999999, wrongV m.hp m.pr (-9) 9]
def rowB : List Txt := [[], t7B, t8B]
def rowR : List Txt := [[], tFU, tHD]
def rowM : List Txt := [[], [82], [78], [82, 84], [78, 84]]
def okR (m : ML) : Bool := rowB.contains m.body && rowR.contains m.ret && rowM.contains m.mode && ((m.mode != []) == m.hb)
def refR (l : List Int) (ok : Bool) (n : Nat) (h9 : Bool) : Int := if 2 ∈ l then 2 else if ok = false then 2 else if 1 ∈ l then 1 else if 100 < n then 3 else if h9 then 9 else 0
theorem bb (a b : Bool) (h : a = true ↔ b = true) : a = b := by cases a <;> cases b <;> simp_all
theorem un_2 (m : ML) : unB m = !decide (2 ∈ wrongsL m) := by
  refine bb _ _ ?_
  unfold unB wrongsL
  simp only [List.mem_cons, List.not_mem_nil, or_false, Bool.not_eq_true', decide_eq_false_iff_not, not_or, eq_comm (a := (2 : Int)), wrong_2, Bool.and_eq_true, Bool.or_eq_true, beq_iff_eq, not_and, Decidable.not_not]
  constructor
  · rintro ⟨⟨⟨⟨h1, h2⟩, h3⟩, h4⟩, h5⟩
    exact ⟨fun h => by simpa [h] using h1, fun h => by simpa [h] using h2, fun h => by simpa [h] using h3, fun h => by simpa [h] using h4, fun h => by simpa [h] using h5⟩
  · rintro ⟨h1, h2, h3, h4, h5⟩
    refine ⟨⟨⟨⟨?_, ?_⟩, ?_⟩, ?_⟩, ?_⟩
    · cases h : m.hs
      · exact .inr (h1 h)
      · exact .inl rfl
    · cases h : m.hf
      · exact .inr (h2 h)
      · exact .inl rfl
    · cases h : m.hu
      · exact .inr (h3 h)
      · exact .inl rfl
    · cases h : m.hb
      · exact .inr (h4 h)
      · exact .inl rfl
    · cases h : m.hp
      · exact .inr (h5 h)
      · exact .inl rfl
theorem inB_1 (h : Bool) (n a b : Int) : inB h n a b = !decide (wrongV h n a b = 1) := by
  refine bb _ _ ?_
  unfold inB
  rw [Bool.not_eq_true', decide_eq_false_iff_not, wrong_1]
  cases h <;> simp
theorem hu_1 (h : Bool) (n : Int) : (!h || printE n == 0) = !decide (wrongV h n 0 253402300799 = 1) := by
  rw [← inB_1]
  unfold inB printE
  congr 1
  show _ = timB n
  cases timB n <;> rfl
theorem rang_1 (m : ML) : rangB m = !decide (1 ∈ wrongsL m) := by
  unfold rangB
  rw [inB_1, inB_1, inB_1, inB_1, hu_1]
  unfold wrongsL
  refine bb _ _ ?_
  simp only [List.mem_cons, List.not_mem_nil, or_false, Bool.not_eq_true', decide_eq_false_iff_not, not_or, eq_comm (a := (1 : Int)), Bool.and_eq_true]
  constructor
  · rintro ⟨⟨⟨⟨h1, h2⟩, h3⟩, h4⟩, h5⟩; exact ⟨h1, h2, h3, h4, h5⟩
  · rintro ⟨h1, h2, h3, h4, h5⟩; exact ⟨⟨⟨⟨h1, h2⟩, h3⟩, h4⟩, h5⟩
theorem named_ok (m : ML) : namedB m = okR m := by
  unfold namedB okR
  have e1 : (m.body == [] || isBody m.body) = rowB.contains m.body := bb _ _ (by simp [rowB, isBody])
  have e2 : (m.ret == [] || isRet m.ret) = rowR.contains m.ret := bb _ _ (by simp [rowR, isRet])
  have e3 : rowM.contains m.mode = (m.mode == [] || isMode m.mode) := bb _ _ (by simp [rowM, isMode, or_assoc])
  rw [e1, e2, e3, Bool.and_assoc (rowB.contains m.body && rowR.contains m.ret)]
  congr 1
  cases h : m.hb
  · by_cases h0 : m.mode = []
    · rw [h0]; rfl
    · have h1 : (m.mode == []) = false := beq_eq_false_iff_ne.2 h0
      have h2 : (m.mode != []) = true := bne_iff_ne.2 h0
      rw [h1, h2]; simp
  · by_cases h0 : m.mode = []
    · rw [h0]; rfl
    · have h1 : (m.mode == []) = false := beq_eq_false_iff_ne.2 h0
      have h2 : (m.mode != []) = true := bne_iff_ne.2 h0
      rw [h1, h2]; simp
theorem right_ref (m : ML) : rightM m = refR (wrongsL m) (okR m) m.env.length (m.hf && m.hu) := by
  unfold rightM refR
  rw [un_2, rang_1, named_ok]
  by_cases h2 : 2 ∈ wrongsL m
  · simp [h2]
  · by_cases h1 : 1 ∈ wrongsL m
    · cases okR m <;> simp [h2, h1]
    · cases okR m <;> simp [h2, h1]
theorem below_new2 (w : World) (o : Obj) : Below w.heap.size w (w.alloc o) := (Below.refl _ w).alloc (Nat.le_refl _) _
/-- A message in its box, block g; nothing that lay ahead has turned. -/
structure MX (W : World) (g : Nat) (m : ML) (w : World) : Prop where
  box : w.heap[g]? = some (.cells #[.bool m.hs, .bool m.hf, .bool m.hu, .bool m.hb, .bool m.hp, .int .i64 m.sz, .int .i64 m.fo, .int .i64 m.un, .int .i64 m.by_, .int .i64 m.pr, .string (mkS m.body), .string (mkS m.ret), .string (mkS m.env), .string (mkS m.mode)] 37 (0, 0))
  below : Below W.heap.size W w
theorem MX.new (w : World) (m : ML) : MX w w.heap.size m (w.alloc (.cells #[.bool m.hs, .bool m.hf, .bool m.hu, .bool m.hb, .bool m.hp, .int .i64 m.sz, .int .i64 m.fo, .int .i64 m.un, .int .i64 m.by_, .int .i64 m.pr, .string (mkS m.body), .string (mkS m.ret), .string (mkS m.env), .string (mkS m.mode)] 37)) := ⟨newOf w _, (Below.refl _ w).alloc (Nat.le_refl _) _⟩
theorem MX.next {W w w' : World} {g : Nat} {m : ML} (h : MX W g m w) (hb : Below w.heap.size w w') : MX W g m w' := ⟨(hb.block _ (ltOf h.box)).trans h.box, below_next h.below hb⟩
theorem MX.drewN {W w : World} {g : Nat} {m : ML} (h : MX W g m w) (n : Nat) : MX W g m (w.drewN n) := ⟨h.box, below_drewN h.below n⟩
theorem MX.drew {W w : World} {g : Nat} {m : ML} (h : MX W g m w) : MX W g m w.drew := ⟨h.box, ⟨h.below.os, h.below.tape, h.below.output, h.below.size, h.below.block⟩⟩
theorem MX.c0 {W w : World} {g : Nat} {m : ML} (h : MX W g m w) : w.cell? ⟨g, 0, none⟩ = some (.bool m.hs) := cellOf h.box 0
theorem MX.c1 {W w : World} {g : Nat} {m : ML} (h : MX W g m w) : w.cell? ⟨g, 1, none⟩ = some (.bool m.hf) := cellOf h.box 1
theorem MX.c2 {W w : World} {g : Nat} {m : ML} (h : MX W g m w) : w.cell? ⟨g, 2, none⟩ = some (.bool m.hu) := cellOf h.box 2
theorem MX.c3 {W w : World} {g : Nat} {m : ML} (h : MX W g m w) : w.cell? ⟨g, 3, none⟩ = some (.bool m.hb) := cellOf h.box 3
theorem MX.c4 {W w : World} {g : Nat} {m : ML} (h : MX W g m w) : w.cell? ⟨g, 4, none⟩ = some (.bool m.hp) := cellOf h.box 4
theorem MX.c5 {W w : World} {g : Nat} {m : ML} (h : MX W g m w) : w.cell? ⟨g, 5, none⟩ = some (.int .i64 m.sz) := cellOf h.box 5
theorem MX.c6 {W w : World} {g : Nat} {m : ML} (h : MX W g m w) : w.cell? ⟨g, 6, none⟩ = some (.int .i64 m.fo) := cellOf h.box 6
theorem MX.c7 {W w : World} {g : Nat} {m : ML} (h : MX W g m w) : w.cell? ⟨g, 7, none⟩ = some (.int .i64 m.un) := cellOf h.box 7
theorem MX.c8 {W w : World} {g : Nat} {m : ML} (h : MX W g m w) : w.cell? ⟨g, 8, none⟩ = some (.int .i64 m.by_) := cellOf h.box 8
theorem MX.c9 {W w : World} {g : Nat} {m : ML} (h : MX W g m w) : w.cell? ⟨g, 9, none⟩ = some (.int .i64 m.pr) := cellOf h.box 9
theorem MX.c10 {W w : World} {g : Nat} {m : ML} (h : MX W g m w) : w.cell? ⟨g, 10, none⟩ = some (.string (mkS m.body)) := cellOf h.box 10
theorem MX.c11 {W w : World} {g : Nat} {m : ML} (h : MX W g m w) : w.cell? ⟨g, 11, none⟩ = some (.string (mkS m.ret)) := cellOf h.box 11
theorem MX.c12 {W w : World} {g : Nat} {m : ML} (h : MX W g m w) : w.cell? ⟨g, 12, none⟩ = some (.string (mkS m.env)) := cellOf h.box 12
theorem MX.c13 {W w : World} {g : Nat} {m : ML} (h : MX W g m w) : w.cell? ⟨g, 13, none⟩ = some (.string (mkS m.mode)) := cellOf h.box 13
theorem MX.eleven {W w : World} {g : Nat} {m : ML} (h : MX W g m w) : w.cell? ⟨g, 0, none⟩ = some (.bool m.hs) ∧ w.cell? ⟨g, 1, none⟩ = some (.bool m.hf) ∧ w.cell? ⟨g, 2, none⟩ = some (.bool m.hu) ∧ w.cell? ⟨g, 3, none⟩ = some (.bool m.hb) ∧ w.cell? ⟨g, 4, none⟩ = some (.bool m.hp) ∧ w.cell? ⟨g, 5, none⟩ = some (.int .i64 m.sz) ∧ w.cell? ⟨g, 6, none⟩ = some (.int .i64 m.fo) ∧ w.cell? ⟨g, 7, none⟩ = some (.int .i64 m.un) ∧ w.cell? ⟨g, 8, none⟩ = some (.int .i64 m.by_) ∧ w.cell? ⟨g, 9, none⟩ = some (.int .i64 m.pr) ∧ w.cell? ⟨g, 13, none⟩ = some (.string (mkS m.mode)) := ⟨h.c0, h.c1, h.c2, h.c3, h.c4, h.c5, h.c6, h.c7, h.c8, h.c9, h.c13⟩
/-- Five numbers in their box. -/
structure AX (g : Nat) (l : List Int) (w : World) : Prop where
  box : w.heap[g]? = some (.cells (l.map (Value.int .i64)).toArray 92 (0, 0))
theorem AX.next {w w' : World} {g : Nat} {l : List Int} (h : AX g l w) (hb : Below w.heap.size w w') : AX g l w' := ⟨(hb.block _ (ltOf h.box)).trans h.box⟩
theorem AX.cell {w : World} {g : Nat} {l : List Int} (h : AX g l w) {k : Nat} {x : Int} (hx : l[k]? = some x) : w.cell? ⟨g, k, none⟩ = some (.int .i64 x) := by
  rw [cellOf h.box k]; simp [hx]
end Go.Proofs.YtpdehgkkpgjpnaaGreatDoor
