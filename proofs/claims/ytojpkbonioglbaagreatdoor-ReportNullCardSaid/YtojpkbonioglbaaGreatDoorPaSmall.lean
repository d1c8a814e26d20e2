/-
  The walks of param's small functions: kinds of bytes, every, capitals, names, ranges.
-/
import Derived.Test.YtojpkbonioglbaaGreatDoorMaPure
import Derived.Test.YtojpkbonioglbaaGreatDoorMaBuild
import Derived.Lib.ConvBytes
import Derived.Laws.StructEq
namespace Go.Proofs.YtojpkbonioglbaaGreatDoor
set_option maxRecDepth 100000
open Go.RowKit
theorem dle (a b : Nat) : decide ((a : Int) ≤ (b : Int)) = decide (a ≤ b) := by
  by_cases h : a ≤ b
  · rw [decide_eq_true h]; exact decide_eq_true (by omega)
  · rw [decide_eq_false h]; exact decide_eq_false (by omega)
theorem dle1 (a b : Nat) (m : Int) (hm : m = (a : Int)) : decide (m ≤ (b : Int)) = decide (a ≤ b) := by rw [hm]; exact dle a b
theorem dle2 (a b : Nat) (m : Int) (hm : m = (b : Int)) : decide ((a : Int) ≤ m) = decide (a ≤ b) := by rw [hm]; exact dle a b

theorem psmall_x (b : UInt8) (w : World) : Calls Tryz.prog 208 #[.int .u8 (b.toNat : Int)] w fun e w' => e = .returned (.bool (smlB b)) ∧ w = w' := by
  have hlt := b.toNat_lt
  have HV := Lib.hid (show smlB b = (decide (97 ≤ b.toNat) && decide (b.toNat ≤ 122)) from rfl)
  by_cases h1 : 97 ≤ b.toNat
  · have d1 : decide ((97 : Int) ≤ (b.toNat : Int)) = true := decide_eq_true (by omega)
    by_cases h2 : b.toNat ≤ 122
    · have d2 : decide ((b.toNat : Int) ≤ 122) = true := decide_eq_true (by omega)
      go_enter Tryz.func208, Tryz.ntmps208
      go_wp2_with fail
      go_ret
      exact ⟨ret_bool (by rw [HV.out]; simp [h1, h2]), rfl⟩
    · have d2 : decide ((b.toNat : Int) ≤ 122) = false := decide_eq_false (by omega)
      go_enter Tryz.func208, Tryz.ntmps208
      go_wp2_with fail
      go_ret
      exact ⟨ret_bool (by rw [HV.out]; simp [h1, h2]), rfl⟩
  · have d1 : decide ((97 : Int) ≤ (b.toNat : Int)) = false := decide_eq_false (by omega)
    go_enter Tryz.func208, Tryz.ntmps208
    go_wp2_with fail
    go_ret
    exact ⟨ret_bool (by rw [HV.out]; simp [h1]), rfl⟩
theorem pdigit_x (b : UInt8) (w : World) : Calls Tryz.prog 212 #[.int .u8 (b.toNat : Int)] w fun e w' => e = .returned (.bool (digB b)) ∧ w = w' := by
  have hlt := b.toNat_lt
  have HV := Lib.hid (show digB b = (decide (48 ≤ b.toNat) && decide (b.toNat ≤ 57)) from rfl)
  by_cases h1 : 48 ≤ b.toNat
  · have d1 : decide ((48 : Int) ≤ (b.toNat : Int)) = true := decide_eq_true (by omega)
    by_cases h2 : b.toNat ≤ 57
    · have d2 : decide ((b.toNat : Int) ≤ 57) = true := decide_eq_true (by omega)
      go_enter Tryz.func212, Tryz.ntmps212
      go_wp2_with fail
      go_ret
      exact ⟨ret_bool (by rw [HV.out]; simp [h1, h2]), rfl⟩
    · have d2 : decide ((b.toNat : Int) ≤ 57) = false := decide_eq_false (by omega)
      go_enter Tryz.func212, Tryz.ntmps212
      go_wp2_with fail
      go_ret
      exact ⟨ret_bool (by rw [HV.out]; simp [h1, h2]), rfl⟩
  · have d1 : decide ((48 : Int) ≤ (b.toNat : Int)) = false := decide_eq_false (by omega)
    go_enter Tryz.func212, Tryz.ntmps212
    go_wp2_with fail
    go_ret
    exact ⟨ret_bool (by rw [HV.out]; simp [h1]), rfl⟩
set_option linter.unusedSimpArgs false in
set_option maxHeartbeats 1000000 in
theorem pplain_x (b : UInt8) (w : World) : Calls Tryz.prog 207 #[.int .u8 (b.toNat : Int)] w fun e w' => e = .returned (.bool (alnB b)) ∧ w = w' := by
  have hlt := b.toNat_lt
  have HV := Lib.hid (show alnB b = ((decide (65 ≤ b.toNat) && decide (b.toNat ≤ 90)) || smlB b || digB b) from rfl)
  have HS := Lib.hid (fun w => psmall_x b w)
  have HD := Lib.hid (fun w => pdigit_x b w)
  cases hs : smlB b <;> cases hd : digB b <;> rw [hs, hd] at HV <;> rw [hs] at HS <;> rw [hd] at HD <;> clear hs hd <;>
  · by_cases h1 : 65 ≤ b.toNat <;> by_cases h2 : b.toNat ≤ 90 <;> try (exfalso; omega)
    all_goals
      have d1 : decide ((65 : Int) ≤ (b.toNat : Int)) = decide (65 ≤ b.toNat) := dle1 65 _ 65 rfl
      have d2 : decide ((b.toNat : Int) ≤ 90) = decide (b.toNat ≤ 90) := dle2 _ 90 90 rfl
      simp only [h1, h2, decide_true, decide_false, Bool.and_true, Bool.and_false, Bool.or_true, Bool.or_false, Bool.true_or, Bool.false_or, Bool.and_self, Bool.or_self] at d1 d2 HV
      clear h1 h2
      go_enter Tryz.func207, Tryz.ntmps207
      go_wp2_with (first | (go_at_call 208; refine (HS.out _).mono ?_; rintro e w' ⟨rfl, rfl⟩) | (go_at_call 212; refine (HD.out _).mono ?_; rintro e w' ⟨rfl, rfl⟩))
      go_ret
      exact ⟨ret_bool HV.out.symm, rfl⟩

/-- A function value that answers of a byte whether it is of a kind. -/
def Kind (k : Nat) (p : UInt8 → Bool) : Prop := ∀ (b : UInt8) (w : World), Calls Tryz.prog k #[.int .u8 (b.toNat : Int)] w fun e w' => e = .returned (.bool (p b)) ∧ w = w'
theorem all_take {l : List UInt8} {p : UInt8 → Bool} {k : Nat} {x : UInt8} (hx : l[k]? = some x) (h : (l.take k).all p = true) (hp : p x = true) : (l.take (k + 1)).all p = true := by
  obtain ⟨hk, e⟩ := List.getElem?_eq_some_iff.1 hx
  rw [List.take_succ_eq_append_getElem hk, List.all_append, h, e]
  simp [hp]
theorem all_not {l : List UInt8} {p : UInt8 → Bool} {k : Nat} {x : UInt8} (hx : l[k]? = some x) (hp : p x = false) : l.all p = false := by
  rw [List.all_eq_false]
  exact ⟨x, List.mem_of_getElem? hx, by rw [hp]; exact Bool.false_ne_true⟩
set_option maxHeartbeats 1000000 in
theorem pevery_x (k : Nat) (p : UInt8 → Bool) (hk : Kind k p) (ek : ∀ args w, (callFunc k args).run Tryz.prog w = .ok (.enter k args) w) (l : List UInt8) (w : World) (hl : l.length ≤ 1000000000000) :
    Calls Tryz.prog 206 #[.string (mkS l), .func (.func k) #[] #[]] w fun e w' => e = .returned (.bool (l.all p)) ∧ w = w' := by
  have hms := mkS_size l
  have HK := Lib.hid hk
  clear hk
  go_enter Tryz.func206, Tryz.ntmps206
  go_wp2_with fail
  go_loop [8] (fun i => ∃ j : Nat, j ≤ l.length ∧ i = .int .i64 j ∧ Hid ((l.take j).all p = true)) (fun i => l.length - (intOf i).toNat)
  case atStart => exact ⟨0, Nat.zero_le _, rfl, by simp [Hid]⟩
  case round =>
    obtain ⟨j, hj, rfl, HC⟩ := hrel
    by_cases hlt : j < l.length
    · obtain ⟨x, hx⟩ : ∃ x : UInt8, (mkS l)[j]'(by omega) = x := ⟨_, rfl⟩
      have hX : l[j]? = some x := by rw [← hx]; have := Lib.data_getElem? (mkS l) j (by omega); rwa [mkS_data] at this
      have HP := Lib.hid (HK.out x w)
      cases hp : p x
      · rw [hp] at HP
        have HN := Lib.hid (all_not hX hp)
        clear hp hX
        go_wp2_with fail
        refine HP.out.mono ?_
        rintro e w1 ⟨rfl, rfl⟩
        go_wp2_with fail
        go_ret
        exact ⟨ret_bool HN.out.symm, rfl⟩
      · rw [hp] at HP
        have HN := Lib.hid (all_take hX HC.out hp)
        clear hp hX
        go_wp2_with fail
        refine HP.out.mono ?_
        rintro e w1 ⟨rfl, rfl⟩
        go_wp2_with fail
        go_round
        case rel => exact ⟨j + 1, by omega, by go_num, HN⟩
        case measure => simp [intOf]; omega
    · have hc := HC.out
      rw [List.take_of_length_le (by omega)] at hc
      have HE := Lib.hid hc
      clear hc
      go_wp2_with fail
      go_ret
      exact ⟨ret_bool HE.out.symm, rfl⟩
theorem everyD_x (l : List UInt8) (w : World) (hl : l.length ≤ 1000000000000) : Calls Tryz.prog 206 #[.string (mkS l), .func (.func 212) #[] #[]] w fun e w' => e = .returned (.bool (l.all digB)) ∧ w = w' :=
  pevery_x _ _ (fun b w => pdigit_x b w) (enters_of Tryz.func212 (by kernel_rfl) rfl) l w hl
theorem everyA_x (l : List UInt8) (w : World) (hl : l.length ≤ 1000000000000) : Calls Tryz.prog 206 #[.string (mkS l), .func (.func 207) #[] #[]] w fun e w' => e = .returned (.bool (l.all alnB)) ∧ w = w' :=
  pevery_x _ _ (fun b w => pplain_x b w) (enters_of Tryz.func207 (by kernel_rfl) rfl) l w hl

/-- The letters ahead of place j made capital. -/
def upUp (l : List UInt8) (j : Nat) : List UInt8 := upL (l.take j) ++ l.drop j
theorem upUp_zero (l : List UInt8) : upUp l 0 = l := by simp [upUp, upL]
theorem upUp_all (l : List UInt8) : upUp l l.length = upL l := by simp [upUp]
theorem upUp_length (l : List UInt8) (j : Nat) : (upUp l j).length = l.length := by simp [upUp, upL]; omega
theorem upUp_succ {l : List UInt8} {j : Nat} {x : UInt8} (h : l[j]? = some x) : (upUp l j)[j]? = some x ∧ upUp l (j + 1) = (upUp l j).set j (upB x) := by
  obtain ⟨hj, e⟩ := List.getElem?_eq_some_iff.1 h
  have hlen : (upL (l.take j)).length = j := by simp [upL]; omega
  refine ⟨?_, ?_⟩
  · rw [upUp, List.getElem?_append_right (by omega), hlen, Nat.sub_self, List.getElem?_drop, Nat.add_zero, h]
  · rw [upUp, upUp, List.take_succ_eq_append_getElem hj, List.set_append_right _ _ (by omega), hlen, Nat.sub_self, List.drop_eq_getElem_cons hj, e]
    simp [upL]
theorem up_sum : ∀ x : UInt8, smlB x = true → IntKind.u8.wrap ((x.toNat : Int) - 32) = ((upB x).toNat : Int) := by
  intro x h
  exact X.all_bytes (p := fun x => smlB x = true → IntKind.u8.wrap ((x.toNat : Int) - 32) = ((upB x).toNat : Int)) (by decide +kernel) x h
theorem up_not {x : UInt8} (h : smlB x = false) : upB x = x := by simp [upB, h]
/-- What holds in capitals' loop. -/
structure SI (W w : World) (l m : List UInt8) : Prop where
  below : Below W.heap.size W w
  blk : ∃ (cs : Array Value) (fz : Nat), w.heap[W.heap.size]? = some (.cells cs 5 (fz, fz + 1)) ∧ l.length ≤ fz ∧ ∀ (i : Nat) (x : UInt8), m[i]? = some x → cs[i]? = some (Value.int .u8 (x.toNat : Int))
theorem SI.cell {W w : World} {l m : List UInt8} (h : SI W w l m) {i : Nat} {x : UInt8} (hx : m[i]? = some x) : w.cell? ⟨W.heap.size, i, none⟩ = some (.int .u8 (x.toNat : Int)) := by
  obtain ⟨cs, fz, hb, _, hc⟩ := h.blk
  rw [cellOf hb, hc i x hx]
theorem SI.free {W w : World} {l m : List UInt8} (h : SI W w l m) {i : Nat} (hi : i < l.length) : w.frozen? ⟨W.heap.size, i, none⟩ = false := by
  obtain ⟨cs, fz, hb, hf, _⟩ := h.blk
  simp [World.frozen?, hb]
  omega
theorem SI.set {W w : World} {l m : List UInt8} (h : SI W w l m) {i : Nat} (y : UInt8) : SI W (w.setCell ⟨W.heap.size, i, none⟩ (.int .u8 (y.toNat : Int))) l (m.set i y) := by
  obtain ⟨cs, fz, hb, hf, hc⟩ := h.blk
  refine ⟨h.below.setCell (p := ⟨W.heap.size, i, none⟩) (Nat.le_refl _) _, _, fz, setOf hb i _, hf, fun k x hx => ?_⟩
  rw [List.getElem?_set] at hx
  rw [Array.getElem?_setIfInBounds]
  split at hx
  · rename_i e
    subst e
    split at hx
    · rename_i hi
      injection hx with hx
      subst hx
      have := hc i m[i] (List.getElem?_eq_getElem hi)
      obtain ⟨h2, _⟩ := Array.getElem?_eq_some_iff.1 this
      simp [h2]
    · cases hx
  · rename_i e
    simp [e, hc k x hx]
theorem SI.new (w : World) (l : List UInt8) : SI w (Lib.bytesWorld w 5 (mkS l)) l l := by
  refine ⟨⟨rfl, rfl, rfl, by rw [Lib.bytesWorld_size]; omega, fun k hk => Lib.bytesWorld_at_old w 5 _ k hk⟩, _, _, Lib.bytesWorld_at_new w 5 (mkS l), ?_, fun i x hx => ?_⟩
  · simp [Lib.bytesCells, mkS]
  · have hi := (List.getElem?_eq_some_iff.1 hx).1
    simp [Lib.bytesCells, mkS, Array.getElem?_append, hi]
    rw [List.getElem?_eq_getElem hi] at hx
    injection hx with hx
    rw [hx]
theorem below_bytes (w : World) (t : ByteArray) : Below w.heap.size w (Lib.bytesWorld w 5 t) := ⟨rfl, rfl, rfl, by rw [Lib.bytesWorld_size]; omega, fun k hk => Lib.bytesWorld_at_old w 5 _ k hk⟩
theorem SI.text {W w : World} {l m : List UInt8} (h : SI W w l m) (n cap : Nat) (hn : m.length = n) : (convert 84 9 (.slice (some ⟨W.heap.size, 0, none⟩) n cap)).run Tryz.prog w = .ok (.string (mkS m)) w := by
  refine conv_bytes w _ m n cap hn fun j v hj => ?_
  rw [show (⟨W.heap.size, 0, none⟩ : Addr).add j = ⟨W.heap.size, j, none⟩ by unfold Addr.add; split <;> simp_all]
  simp only [bytesV, List.getElem?_map, Option.map_eq_some_iff] at hj
  obtain ⟨x, hx, rfl⟩ := hj
  exact h.cell hx
set_option maxHeartbeats 1000000 in
theorem cap_x (l : List UInt8) (w : World) (hl : l.length ≤ 1000000000000) :
    Calls Tryz.prog 188 #[.string (mkS l)] w fun e w' => e = .returned (.string (mkS (upL l))) ∧ Below w.heap.size w w' := by
  have hms := mkS_size l
  have hcv := Lib.run_convert_string_bytes (P := Tryz.prog) w 9 84 5 (mkS l) Tryz.underlying9 Tryz.underlying84 Tryz.underlying5
  have HS := Lib.hid (SI.new w l)
  rw [hms] at hcv
  generalize Lib.bytesWorld w 5 (mkS l) = w1 at hcv HS
  generalize grownCap w l.length 0 5 = cap at hcv
  go_enter Tryz.func188, Tryz.ntmps188
  go_wp2_with fail
  clear hcv
  go_loopw [10, 4, 5] (fun i _ _ wr => ∃ j : Nat, j ≤ l.length ∧ i = .int .i64 j ∧ SI w wr l (upUp l j)) (fun i _ _ _ => l.length - (intOf i).toNat)
  case atStart => exact ⟨0, Nat.zero_le _, rfl, by rw [upUp_zero]; exact HS.out⟩
  case round =>
    obtain ⟨j, hj, rfl, hI⟩ := hrel
    by_cases hlt : j < l.length
    · obtain ⟨x, hX⟩ : ∃ x : UInt8, l[j]? = some x := ⟨_, List.getElem?_eq_getElem hlt⟩
      have hc := hI.cell (upUp_succ hX).1
      have hf := hI.free hlt
      have HP := Lib.hid (psmall_x x wr)
      cases hp : smlB x
      · rw [hp] at HP
        have HN := Lib.hid (show SI w wr l (upUp l (j + 1)) by
          rw [(upUp_succ hX).2, up_not hp]
          have : (upUp l j).set j x = upUp l j := by
            apply List.ext_getElem?
            intro i
            rw [List.getElem?_set]
            split
            · rename_i e; subst e
              split
              · exact (upUp_succ hX).1.symm
              · rename_i h; rw [upUp_length] at h; omega
            · rfl
          rw [this]; exact hI)
        clear hp hX hI
        go_wp2_with fail
        refine HP.out.mono ?_
        rintro e w1 ⟨rfl, rfl⟩
        go_wp2_with fail
        go_roundw
        case rel => exact ⟨j + 1, by omega, by go_num, HN.out⟩
        case measure => simp [intOf]; omega
      · rw [hp] at HP
        have hs := up_sum x hp
        have HN := Lib.hid (show SI w (wr.setCell ⟨w.heap.size, j, none⟩ (.int .u8 ((upB x).toNat : Int))) l (upUp l (j + 1)) by
          rw [(upUp_succ hX).2]; exact hI.set _)
        clear hp hX hI
        go_wp2_with fail
        refine HP.out.mono ?_
        rintro e w1 ⟨rfl, rfl⟩
        go_wp2_with fail
        go_roundw
        case rel => exact ⟨j + 1, by omega, by go_num, HN.out⟩
        case measure => simp [intOf]; omega
    · obtain rfl : j = l.length := by omega
      rw [upUp_all] at hI
      have hcv := hI.text l.length cap (upL_length l)
      have HB := Lib.hid hI.below
      clear hI
      go_wp2_with fail
      go_ret
      exact ⟨rfl, HB.out⟩

/- Names. -/
set_option maxHeartbeats 400000 in
theorem isBody_x (l : List UInt8) (w : World) : Calls Tryz.prog 199 #[.string (mkS l)] w fun e w' => e = .returned (.bool (isBody l)) ∧ w = w' := by
  have hT := mkS_toList l
  have HV := Lib.hid (show isBody l = ((l == [55, 66, 73, 84]) || (l == [56, 66, 73, 84, 77, 73, 77, 69])) from rfl)
  cases h1 : (l == [55, 66, 73, 84]) <;> cases h2 : (l == [56, 66, 73, 84, 77, 73, 77, 69]) <;> rw [h1, h2] at HV <;>
  · go_enter Tryz.func199, Tryz.ntmps199
    go_wp2_with fail
    go_ret
    exact ⟨ret_bool HV.out.symm, rfl⟩
set_option maxHeartbeats 400000 in
theorem isRet_x (l : List UInt8) (w : World) : Calls Tryz.prog 200 #[.string (mkS l)] w fun e w' => e = .returned (.bool (isRet l)) ∧ w = w' := by
  have hT := mkS_toList l
  have HV := Lib.hid (show isRet l = ((l == [70, 85, 76, 76]) || (l == [72, 68, 82, 83])) from rfl)
  cases h1 : (l == [70, 85, 76, 76]) <;> cases h2 : (l == [72, 68, 82, 83]) <;> rw [h1, h2] at HV <;>
  · go_enter Tryz.func200, Tryz.ntmps200
    go_wp2_with fail
    go_ret
    exact ⟨ret_bool HV.out.symm, rfl⟩
set_option maxHeartbeats 1000000 in
theorem isMode_x (l : List UInt8) (w : World) : Calls Tryz.prog 201 #[.string (mkS l)] w fun e w' => e = .returned (.bool (isMode l)) ∧ w = w' := by
  have hT := mkS_toList l
  have HV := Lib.hid (show isMode l = ((l == [82]) || (l == [78]) || (l == [82, 84]) || (l == [78, 84])) from rfl)
  cases h1 : (l == [82]) <;> cases h2 : (l == [78]) <;> cases h3 : (l == [82, 84]) <;> cases h4 : (l == [78, 84]) <;> rw [h1, h2, h3, h4] at HV <;>
  · go_enter Tryz.func201, Tryz.ntmps201
    go_wp2_with fail
    go_ret
    exact ⟨ret_bool HV.out.symm, rfl⟩
theorem within_x (n a b : Int) (w : World) : Calls Tryz.prog 204 #[.int .i64 n, .int .i64 a, .int .i64 b] w fun e w' => e = .returned (.bool (decide (a ≤ n) && decide (n ≤ b))) ∧ w = w' := by
  cases h1 : decide (a ≤ n) <;> cases h2 : decide (n ≤ b) <;>
  · go_enter Tryz.func204, Tryz.ntmps204
    go_wp2_with fail
    go_ret
    exact ⟨rfl, rfl⟩
theorem pre82 (l : Txt) : Lib.hasPrefix l [82] = (l.head? == some 82) := by
  cases l with
  | nil => rfl
  | cons b t =>
    by_cases e : b = 82
    · subst e; simp [Lib.hasPrefix, List.isPrefixOf]
    · have e1 : ((82 : UInt8) == b) = false := beq_eq_false_iff_ne.2 (Ne.symm e)
      have e2 : (b == 82) = false := beq_eq_false_iff_ne.2 e
      simp [Lib.hasPrefix, List.isPrefixOf, e1, e2]
theorem leastBy_x (l : List UInt8) (w : World) : Calls Tryz.prog 205 #[.string (mkS l)] w fun e w' => e = .returned (.int .i64 (leastV l)) ∧ w = w' := by
  have HP := Lib.hid (fun w => Tryz.strings_HasPrefix (mkS l) ⟨#[82]⟩ w)
  have HV := Lib.hid (show leastV l = if l.head? == some 82 then 1 else -999999999 from rfl)
  rw [mkS_data, show (⟨#[82]⟩ : ByteArray).data.toList = [82] from rfl, pre82] at HP
  cases h : (l.head? == some 82) <;> rw [h] at HP HV <;> clear h <;>
  · go_enter Tryz.func205, Tryz.ntmps205
    go_wp2_with (go_at_call 76; refine (HP.out _).mono ?_; rintro e w' ⟨rfl, rfl⟩)
    go_ret
    exact ⟨ret_int HV.out.symm, rfl⟩
set_option maxHeartbeats 1000000 in
theorem isKind_x (l : List UInt8) (w : World) (hl : l.length ≤ 1000000000000) : Calls Tryz.prog 187 #[.string (mkS l)] w fun e w' => e = .returned (.bool (isKind l)) ∧ w = w' := by
  have hT := mkS_toList l
  have hms := mkS_size l
  have HE := Lib.hid (fun w => everyA_x l w hl)
  have HV := Lib.hid (show isKind l = (!(l == []) && decide (l.length ≤ 32) && l.all alnB) from rfl)
  have d1 : decide ((l.length : Int) ≤ 32) = decide (l.length ≤ 32) := dle2 _ 32 32 rfl
  have d0 : l.isEmpty = (l == []) := by cases l <;> rfl
  generalize l.all alnB = q3 at HE HV
  generalize decide (l.length ≤ 32) = q2 at d1 HV
  generalize (l == []) = q1 at d0 HV
  cases q1
  · cases q2
    · go_enter Tryz.func187, Tryz.ntmps187
      go_wp2_with fail
      go_ret
      exact ⟨ret_bool HV.out.symm, rfl⟩
    · go_enter Tryz.func187, Tryz.ntmps187
      go_wp2_with fail
      refine (HE.out _).mono ?_
      rintro e w' ⟨rfl, rfl⟩
      go_wp2_with fail
      go_ret
      exact ⟨ret_bool (by rw [HV.out]; rfl), rfl⟩
  · go_enter Tryz.func187, Tryz.ntmps187
    go_wp2_with fail
    go_ret
    exact ⟨ret_bool (by rw [HV.out]; rfl), rfl⟩
end Go.Proofs.YtojpkbonioglbaaGreatDoor
