/-
  The walks of path's quoted and unquoted.
-/
import Derived.Test.YtamjoleknjmpoaaPtParts
import Derived.Test.YtamjoleknjmpoaaBuildByte
namespace Go.Proofs.Ytamjoleknjmpoaa
open Go.RowKit
theorem quo_take {l : List UInt8} {k : Nat} {x : UInt8} (hx : l[k]? = some x) : quoL (l.take (k + 1)) = quoL (l.take k) ++ quoB x := by
  obtain ⟨hk, e⟩ := List.getElem?_eq_some_iff.1 hx
  rw [List.take_succ_eq_append_getElem hk, e]
  simp [quoL]
theorem quo_len (l : List UInt8) : (quoL l).length ≤ 2 * l.length := by
  induction l with
  | nil => simp [quoL]
  | cons b t ih =>
    have : quoL (b :: t) = quoB b ++ quoL t := by simp [quoL]
    rw [this, List.length_append, List.length_cons]
    have : (quoB b).length ≤ 2 := by unfold quoB; split <;> simp
    omega
set_option maxHeartbeats 1000000 in
theorem quoted_x (l : List UInt8) (w : World) (hl : l.length ≤ 10000000000) :
    Calls Try.prog 22 #[.string (mkS l)] w fun e w' => e = .returned (.string (mkS ([34] ++ quoL l ++ [34]))) ∧ Below w.heap.size w w' := by
  have hms := mkS_size l
  have HN := Lib.hid (bld_new w)
  have HN2 := Lib.hid (below_box w (.cells #[.pointer none, .slice none 0 0] 60))
  go_enter Try.func22, Try.ntmps22
  go_wp2_with fail
  refine (bld_byte HN.out 34 (by simp)).mono ?_
  rintro e w1 ⟨rfl, hb1, hw1⟩
  have HB1 := Lib.hid hb1
  have HW1 := Lib.hid (HN2.out.trans hw1)
  clear hb1 hw1
  go_wp2_with fail
  go_loopw [9] (fun i wr => ∃ k : Nat, k ≤ l.length ∧ i = .int .i64 k ∧ Hid (Bld w.heap.size ([34] ++ quoL (l.take k)) wr) ∧ Hid (Below w.heap.size w wr)) (fun i _ => l.length - (intOf i).toNat)
  case atStart => exact ⟨0, Nat.zero_le _, rfl, HB1.out, HW1.out⟩
  case round =>
    obtain ⟨k, hk, rfl, HB, HW⟩ := hrel
    by_cases hlt : k < l.length
    · obtain ⟨x, hx⟩ : ∃ x : UInt8, (mkS l)[k]'(by omega) = x := ⟨_, rfl⟩
      have hX : l[k]? = some x := by rw [← hx]; have := Lib.data_getElem? (mkS l) k (by omega); rwa [mkS_data] at this
      have HT := Lib.hid (quo_take hX)
      have hql : (quoL (l.take k)).length ≤ 2 * k := by have := quo_len (l.take k); rw [List.length_take, Nat.min_eq_left (by omega)] at this; exact this
      generalize quoL (l.take k) = ek at HB HT hql
      have d1 : ((x.toNat : Int) == 34) = (x == 34) := byte_beq x 34 (by decide) 34 rfl
      have d2 : ((x.toNat : Int) == 92) = (x == 92) := byte_beq x 92 (by decide) 92 rfl
      have HV := Lib.hid (show quoB x = if x == 34 || x == 92 then [92, x] else [x] from rfl)
      generalize quoB x = qb at HT HV
      clear hX
      have one : ∀ wr', Bld w.heap.size ([34] ++ ek) wr' → Below w.heap.size w wr' → ∀ y : UInt8, Calls Try.prog 36 #[.pointer (some ⟨w.heap.size, 0, none⟩), .int .u8 (y.toNat : Int)] wr' fun e w' => e = .returned .nilIface ∧ Hid (Bld w.heap.size ([34] ++ ek ++ [y]) w') ∧ Hid (Below w.heap.size w w') := fun wr' h h' y =>
        (bld_byte h y (by simp; omega)).mono fun e w' ⟨h1, h2, h3⟩ => ⟨h1, h2, h'.trans h3⟩
      have H1 := Lib.hid (one wr HB.out HW.out)
      clear one
      cases q1 : (x == 34) <;> cases q2 : (x == 92) <;> rw [q1] at d1 HV <;> rw [q2] at d2 HV <;> clear q1 q2
      · go_wp2_with fail
        refine (H1.out x).mono ?_
        rintro e w3 ⟨rfl, HB3, HW3⟩
        go_wp2_with fail
        go_roundw
        case rel => exact ⟨k + 1, by omega, by go_num, by rw [HT.out, HV.out]; have := HB3.out; rwa [List.append_assoc] at this, HW3⟩
        case measure => simp [intOf]; omega
      all_goals
        go_wp2_with fail
        refine (H1.out 92).mono ?_
        rintro e w3 ⟨rfl, HB3, HW3⟩
        go_wp2_with fail
        refine (bld_byte HB3.out x (by simp; omega)).mono ?_
        rintro e w4 ⟨rfl, hb4, hw4⟩
        have HB4 := Lib.hid hb4
        have HW4 := Lib.hid (HW3.out.trans hw4)
        clear hb4 hw4
        go_wp2_with fail
        go_roundw
        case rel => exact ⟨k + 1, by omega, by go_num, by rw [HT.out, HV.out]; have := HB4.out; rwa [List.append_assoc, List.append_assoc] at this, HW4⟩
        case measure => simp [intOf]; omega
    · have hb := HB.out
      rw [List.take_of_length_le (by omega)] at hb
      have HB' := Lib.hid hb
      have hq := quo_len l
      clear hb
      go_wp2_with fail
      refine (bld_byte HB'.out 34 (by simp; omega)).mono ?_
      rintro e w2 ⟨rfl, hb2, hw2⟩
      have HB2 := Lib.hid hb2
      have HW2 := Lib.hid (HW.out.trans hw2)
      clear hb2 hw2
      go_wp2_with fail
      refine (bld_string HB2.out).mono ?_
      rintro e w3 ⟨rfl, _, hw3⟩
      have HW3 := Lib.hid (HW2.out.trans hw3)
      clear hw3
      go_wp2_with fail
      go_ret
      exact ⟨rfl, HW3.out⟩

/-- What unquoted answers. -/
def UnqPost (l : List UInt8) (w : World) (e : Ending) (w' : World) : Prop := e = .returned (.tuple #[.string (mkS (unqV l).1), .string (mkS (unqV l).2.1), .bool (unqV l).2.2]) ∧ Below w.heap.size w w'
theorem unq_end {l a r : List UInt8} {w w' : World} (h : unqL l false [] = some (a, r)) (hb : Below w.heap.size w w') : UnqPost l w (.returned (.tuple #[.string (mkS a), .string (mkS r), .bool true])) w' :=
  ⟨by rw [unqV, h], hb⟩
theorem unq_none {l : List UInt8} {w w' : World} (h : unqL l false [] = none) (hb : Below w.heap.size w w') : UnqPost l w (.returned (.tuple #[.string { data := #[] }, .string { data := #[] }, .bool false])) w' :=
  ⟨by rw [unqV, h]; rfl, hb⟩
/-- What holds in unquoted's loop. -/
structure UI (l : List UInt8) (W : World) (k : Nat) (m : Bool) (acc : List UInt8) (w : World) : Prop where
  eq : unqL l false [] = unqL (l.drop k) m acc
  len : acc.length ≤ k
  bld : Bld W.heap.size acc w
  below : Below W.heap.size W w
theorem drop_get {l : List UInt8} {k : Nat} {x : UInt8} (h : l[k]? = some x) : l.drop k = x :: l.drop (k + 1) := by
  obtain ⟨hk, e⟩ := List.getElem?_eq_some_iff.1 h
  rw [List.drop_eq_getElem_cons hk, e]
set_option maxHeartbeats 2000000 in
theorem unquoted_x (l : List UInt8) (w : World) (hl : l.length ≤ 10000000000) :
    Calls Try.prog 47 #[.string (mkS l)] w (UnqPost l w) := by
  have hms := mkS_size l
  have HU := Lib.hid (show UI l w 0 false [] (w.alloc (.cells #[.pointer none, .slice none 0 0] 60)) from ⟨rfl, Nat.le_refl _, bld_new w, below_box w _⟩)
  go_enter Try.func47, Try.ntmps47
  go_wp2_with fail
  go_loopw [6, 11] (fun m i wr => ∃ (k : Nat) (b : Bool) (acc : List UInt8), k ≤ l.length ∧ i = .int .i64 k ∧ m = .bool b ∧ Hid (UI l w k b acc wr)) (fun _ i _ => l.length - (intOf i).toNat)
  case atStart => exact ⟨0, false, [], Nat.zero_le _, rfl, rfl, HU⟩
  case round =>
    obtain ⟨k, b, acc, hk, rfl, rfl, HI⟩ := hrel
    by_cases hlt : k < l.length
    · obtain ⟨x, hx⟩ : ∃ x : UInt8, (mkS l)[k]'(by omega) = x := ⟨_, rfl⟩
      have hX : l[k]? = some x := by rw [← hx]; have := Lib.data_getElem? (mkS l) k (by omega); rwa [mkS_data] at this
      have HE := Lib.hid (show unqL l false [] = if printB x then (if !b && x == 34 then some (acc, l.drop (k + 1)) else if !b && x == 92 then unqL (l.drop (k + 1)) true acc else unqL (l.drop (k + 1)) false (acc ++ [x])) else none by
        rw [HI.out.eq, drop_get hX, unqL])
      have HP := Lib.hid (printable_x x wr)
      have d1 : ((x.toNat : Int) == 34) = (x == 34) := byte_beq x 34 (by decide) 34 rfl
      have d2 : ((x.toNat : Int) == 92) = (x == 92) := byte_beq x 92 (by decide) 92 rfl
      have HW := Lib.hid (fun y => bld_byte HI.out.bld y (by have := HI.out.len; omega))
      generalize (x == 34) = q1 at d1 HE
      generalize (x == 92) = q2 at d2 HE
      clear hX
      cases hp : printB x <;> rw [hp] at HP HE <;> clear hp
      · go_wp2_with fail
        refine HP.out.mono ?_
        rintro e w1 ⟨rfl, rfl⟩
        go_wp2_with fail
        go_ret3
        exact unq_none (by rw [HE.out]; rfl) HI.out.below
      have more : ∀ w2 : World, (!b && q1) = false → (!b && q2) = false → Bld w.heap.size (acc ++ [x]) w2 → Below w.heap.size wr w2 → UI l w (k + 1) false (acc ++ [x]) w2 := fun w2 e1 e2 h1 h2 =>
        ⟨by rw [HE.out, if_pos rfl, e1, e2]; rfl, by rw [List.length_append]; have := HI.out.len; simp; omega, h1, HI.out.below.trans h2⟩
      have HM := Lib.hid more
      clear more
      cases b
      · cases q1
        · cases q2
          · go_wp2_with fail
            refine HP.out.mono ?_
            rintro e w1 ⟨rfl, rfl⟩
            go_wp2_with fail
            refine (HW.out x).mono ?_
            rintro e w2 ⟨rfl, hb2, hw2⟩
            have HN := Lib.hid (HM.out w2 rfl rfl hb2 hw2)
            clear hb2 hw2
            go_wp2_with fail
            go_roundw
            case rel => exact ⟨k + 1, false, _, by omega, by go_num, rfl, HN⟩
            case measure => simp [intOf]; omega
          · have HN := Lib.hid (show UI l w (k + 1) true acc wr from ⟨by rw [HE.out]; rfl, by have := HI.out.len; omega, HI.out.bld, HI.out.below⟩)
            go_wp2_with fail
            refine HP.out.mono ?_
            rintro e w1 ⟨rfl, rfl⟩
            go_wp2_with fail
            go_roundw
            case rel => exact ⟨k + 1, true, _, by omega, by go_num, rfl, HN⟩
            case measure => simp [intOf]; omega
        · have HV := Lib.hid (show unqL l false [] = some (acc, l.drop (k + 1)) by rw [HE.out]; rfl)
          have HS := Lib.hid (show Bld w.heap.size acc wr.drew from HI.out.bld.above fun _ _ _ => rfl)
          have HX := Lib.hid (show (mkS l).extract (k + 1) l.length = mkS (l.drop (k + 1)) by rw [mkS_extract, List.take_length])
          have e1 : IntKind.i64.wrap ((k : Int) + 1) = (k : Int) + 1 := IntWalk.i64_in _ (by omega)
          have e2 : (0 : Int) ≤ (k : Int) + 1 := by omega
          have e3 : ((k : Int) + 1).toNat = k + 1 := by omega
          have e4 : (k : Int) + 1 ≤ (l.length : Int) := by omega
          go_wp2_with fail
          refine HP.out.mono ?_
          rintro e w1 ⟨rfl, rfl⟩
          go_wp2_with fail
          go_region_held3 (fun _ => True) (trivial) ((go_at_call 38; (with_reducible refine (bld_string HS.out).mono ?_); rintro e w2 ⟨rfl, hbS, hwS⟩))
          all_goals
            have HF := Lib.hid (HI.out.below.trans (show Below w.heap.size wr w2 from ⟨hwS.os, hwS.tape, hwS.output, hwS.size, hwS.block⟩))
            clear hbS hwS e1 e2 e3 e4
            go_wp2_with fail
            rw [HX.out]
            go_ret3
            exact unq_end HV.out HF.out
      · cases q1 <;> cases q2
        all_goals
          go_wp2_with fail
          refine HP.out.mono ?_
          rintro e w1 ⟨rfl, rfl⟩
          go_wp2_with fail
          refine (HW.out x).mono ?_
          rintro e w2 ⟨rfl, hb2, hw2⟩
          have HN := Lib.hid (HM.out w2 rfl rfl hb2 hw2)
          clear hb2 hw2
          go_wp2_with fail
          go_roundw
          case rel => exact ⟨k + 1, false, _, by omega, by go_num, rfl, HN⟩
          case measure => simp [intOf]; omega
    · have HV := Lib.hid (show unqL l false [] = none by rw [HI.out.eq, List.drop_eq_nil_of_le (by omega)]; rfl)
      go_wp2_with fail
      go_ret3
      exact unq_none HV.out HI.out.below
end Go.Proofs.Ytamjoleknjmpoaa
