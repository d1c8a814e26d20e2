/-
  PtSmall · PtBytes · PtCut, in one text.
-/
import Derived.Test.YtojpkbonioglbaaGreatDoorPtMath
import Derived.Test.YtojpkbonioglbaaGreatDoorMaBuild
import Derived.Laws.StructEq
import Derived.Lib.ConvBytes
/-
  The walks of path's small functions: kinds of bytes, every, small, null, hostless, long.
-/
namespace Go.Proofs.YtojpkbonioglbaaGreatDoor.P
set_option maxRecDepth 100000
open Go.RowKit
theorem dle (a b : Nat) : decide ((a : Int) ≤ (b : Int)) = decide (a ≤ b) := by
  by_cases h : a ≤ b
  · rw [decide_eq_true h]; exact decide_eq_true (by omega)
  · rw [decide_eq_false h]; exact decide_eq_false (by omega)
theorem dle1 (a b : Nat) (m : Int) (hm : m = (a : Int)) : decide (m ≤ (b : Int)) = decide (a ≤ b) := by rw [hm]; exact dle a b
theorem dle2 (a b : Nat) (m : Int) (hm : m = (b : Int)) : decide ((a : Int) ≤ m) = decide (a ≤ b) := by rw [hm]; exact dle a b
theorem byte_beq (b : UInt8) (n : Nat) (hn : n < 256) (m : Int) (hm : m = (n : Int)) : ((b.toNat : Int) == m) = (b == UInt8.ofNat n) := by
  subst hm
  rw [Bool.eq_iff_iff, byte_eq hn, beq_iff_eq]
theorem byte_bne (b : UInt8) (n : Nat) (hn : n < 256) (m : Int) (hm : m = (n : Int)) : ((b.toNat : Int) != m) = (b != UInt8.ofNat n) := by
  rw [bne, byte_beq b n hn m hm]; rfl

/-- The walk of a test of a byte, its tests settled. -/
theorem capital_x (b : UInt8) (w : World) : Calls Tryz.prog 90 #[.int .u8 (b.toNat : Int)] w fun e w' => e = .returned (.bool (capB b)) ∧ w = w' := by
  have hlt := b.toNat_lt
  have HV := Lib.hid (show capB b = (decide (65 ≤ b.toNat) && decide (b.toNat ≤ 90)) from rfl)
  by_cases h1 : 65 ≤ b.toNat
  · have d1 : decide ((65 : Int) ≤ (b.toNat : Int)) = true := decide_eq_true (by omega)
    by_cases h2 : b.toNat ≤ 90
    · have d2 : decide ((b.toNat : Int) ≤ 90) = true := decide_eq_true (by omega)
      go_enter Tryz.func90, Tryz.ntmps90
      go_wp2_with fail
      go_ret
      exact ⟨ret_bool (by rw [HV.out]; simp [h1, h2]), rfl⟩
    · have d2 : decide ((b.toNat : Int) ≤ 90) = false := decide_eq_false (by omega)
      go_enter Tryz.func90, Tryz.ntmps90
      go_wp2_with fail
      go_ret
      exact ⟨ret_bool (by rw [HV.out]; simp [h1, h2]), rfl⟩
  · have d1 : decide ((65 : Int) ≤ (b.toNat : Int)) = false := decide_eq_false (by omega)
    go_enter Tryz.func90, Tryz.ntmps90
    go_wp2_with fail
    go_ret
    exact ⟨ret_bool (by rw [HV.out]; simp [h1]), rfl⟩
theorem printable_x (b : UInt8) (w : World) : Calls Tryz.prog 159 #[.int .u8 (b.toNat : Int)] w fun e w' => e = .returned (.bool (printB b)) ∧ w = w' := by
  have hlt := b.toNat_lt
  have HV := Lib.hid (show printB b = (decide (32 ≤ b.toNat) && decide (b.toNat ≤ 126)) from rfl)
  by_cases h1 : 32 ≤ b.toNat
  · have d1 : decide ((32 : Int) ≤ (b.toNat : Int)) = true := decide_eq_true (by omega)
    by_cases h2 : b.toNat ≤ 126
    · have d2 : decide ((b.toNat : Int) ≤ 126) = true := decide_eq_true (by omega)
      go_enter Tryz.func159, Tryz.ntmps159
      go_wp2_with fail
      go_ret
      exact ⟨ret_bool (by rw [HV.out]; simp [h1, h2]), rfl⟩
    · have d2 : decide ((b.toNat : Int) ≤ 126) = false := decide_eq_false (by omega)
      go_enter Tryz.func159, Tryz.ntmps159
      go_wp2_with fail
      go_ret
      exact ⟨ret_bool (by rw [HV.out]; simp [h1, h2]), rfl⟩
  · have d1 : decide ((32 : Int) ≤ (b.toNat : Int)) = false := decide_eq_false (by omega)
    go_enter Tryz.func159, Tryz.ntmps159
    go_wp2_with fail
    go_ret
    exact ⟨ret_bool (by rw [HV.out]; simp [h1]), rfl⟩
set_option linter.unusedSimpArgs false in
set_option maxRecDepth 100000 in
set_option maxHeartbeats 1000000 in
theorem plain_x (b : UInt8) (w : World) : Calls Tryz.prog 150 #[.int .u8 (b.toNat : Int)] w fun e w' => e = .returned (.bool (plainB b)) ∧ w = w' := by
  have hlt := b.toNat_lt
  have HV := Lib.hid (show plainB b = ((decide (97 ≤ b.toNat) && decide (b.toNat ≤ 122)) || capB b || (decide (48 ≤ b.toNat) && decide (b.toNat ≤ 57))) from rfl)
  have HC := Lib.hid (fun w => capital_x b w)
  cases hc : capB b <;> rw [hc] at HC HV <;> clear hc <;>
  · by_cases h1 : 97 ≤ b.toNat <;> by_cases h2 : b.toNat ≤ 122 <;> by_cases h3 : 48 ≤ b.toNat <;> by_cases h4 : b.toNat ≤ 57 <;> try (exfalso; omega)
    all_goals
      have d1 : decide ((97 : Int) ≤ (b.toNat : Int)) = decide (97 ≤ b.toNat) := dle1 97 _ 97 rfl
      have d2 : decide ((b.toNat : Int) ≤ 122) = decide (b.toNat ≤ 122) := dle2 _ 122 122 rfl
      have d3 : decide ((48 : Int) ≤ (b.toNat : Int)) = decide (48 ≤ b.toNat) := dle1 48 _ 48 rfl
      have d4 : decide ((b.toNat : Int) ≤ 57) = decide (b.toNat ≤ 57) := dle2 _ 57 57 rfl
      simp only [h1, h2, h3, h4, decide_true, decide_false, Bool.and_true, Bool.and_false, Bool.or_true, Bool.or_false, Bool.true_or, Bool.false_or, Bool.and_self, Bool.or_self] at d1 d2 d3 d4 HV
      clear h1 h2 h3 h4
      go_enter Tryz.func150, Tryz.ntmps150
      go_wp2_with (go_at_call 90; refine (HC.out _).mono ?_; rintro e w' ⟨rfl, rfl⟩)
      go_ret
      exact ⟨ret_bool HV.out.symm, rfl⟩
theorem inLabel_x (b : UInt8) (w : World) : Calls Tryz.prog 121 #[.int .u8 (b.toNat : Int)] w fun e w' => e = .returned (.bool (labB b)) ∧ w = w' := by
  have HV := Lib.hid (show labB b = (plainB b || b == 45) from rfl)
  have HC := Lib.hid (fun w => plain_x b w)
  have d1 : ((b.toNat : Int) == 45) = (b == 45) := byte_beq b 45 (by decide) 45 rfl
  cases hc : plainB b <;> rw [hc] at HC HV <;> clear hc
  · cases hq : (b == 45) <;> rw [hq] at HV d1 <;> clear hq
    · go_enter Tryz.func121, Tryz.ntmps121
      go_wp2_with (go_at_call 150; refine (HC.out _).mono ?_; rintro e w' ⟨rfl, rfl⟩)
      go_ret
      exact ⟨ret_bool HV.out.symm, rfl⟩
    · go_enter Tryz.func121, Tryz.ntmps121
      go_wp2_with (go_at_call 150; refine (HC.out _).mono ?_; rintro e w' ⟨rfl, rfl⟩)
      go_ret
      exact ⟨ret_bool HV.out.symm, rfl⟩
  · go_enter Tryz.func121, Tryz.ntmps121
    go_wp2_with (go_at_call 150; refine (HC.out _).mono ?_; rintro e w' ⟨rfl, rfl⟩)
    go_ret
    exact ⟨ret_bool (by rw [HV.out]; rfl), rfl⟩

/-- Where a sign stands among those of atoms. -/
theorem ib_none : ∀ (l : List UInt8) (c : UInt8), (0 ≤ Lib.indexByte l c) = (l.contains c = true)
  | [], c => by simp [Lib.indexByte]
  | b :: l, c => by
    have ih := ib_none l c
    have h1 := Lib.indexByte_ge l c
    rw [Lib.indexByte]
    split
    · rename_i h
      have : b = c := eq_of_beq h
      simp [this]
    · rename_i h
      have hne : ¬ c = b := fun e => h (by rw [e]; exact beq_self_eq_true b)
      split
      · rename_i h2
        rw [beq_iff_eq] at h2
        rw [h2] at ih
        simpa [hne] using ih
      · rename_i h2
        have h3 : Lib.indexByte l c ≠ -1 := fun e => h2 (by rw [e]; rfl)
        have : (0 ≤ Lib.indexByte l c + 1) = (0 ≤ Lib.indexByte l c) := propext ⟨fun _ => by omega, fun _ => by omega⟩
        rw [this, ih]
        simp [hne]
theorem ib_dec (c : UInt8) : decide (0 ≤ Lib.indexByte signsL c) = signsL.contains c := by
  rw [Bool.eq_iff_iff, decide_eq_true_iff, ib_none]
theorem ibS_x (x : UInt8) (w : World) :
    Calls Tryz.prog 160 #[.string { data := #[33, 35, 36, 37, 38, 39, 42, 43, 45, 47, 61, 63, 94, 95, 124, 126, 96, 123, 125] }, .int .u8 (x.toNat : Int)] w fun e w' => e = .returned (.int .i64 (Lib.indexByte signsL x)) ∧ w = w' :=
  (Tryz.strings_IndexByte _ _ w).mono fun e w' ⟨he, hw⟩ => ⟨by rw [he, byte_of]; rfl, hw.symm⟩
theorem inAtom_x (b : UInt8) (w : World) : Calls Tryz.prog 137 #[.int .u8 (b.toNat : Int)] w fun e w' => e = .returned (.bool (atomB b)) ∧ w = w' := by
  have HV := Lib.hid (show atomB b = (plainB b || signsL.contains b) from rfl)
  have HC := Lib.hid (fun w => plain_x b w)
  have HI := Lib.hid (fun w => ibS_x b w)
  have d1 := ib_dec b
  cases hc : plainB b <;> rw [hc] at HC HV <;> clear hc
  · generalize signsL.contains b = q at HV d1
    generalize Lib.indexByte signsL b = i at HI d1
    go_enter Tryz.func137, Tryz.ntmps137
    go_wp2_with (first | (go_at_call 150; refine (HC.out _).mono ?_; rintro e w' ⟨rfl, rfl⟩) | (go_at_call 160; refine (HI.out _).mono ?_; rintro e w' ⟨rfl, rfl⟩))
    go_ret
    exact ⟨ret_bool (by rw [HV.out]; rfl), rfl⟩
  · go_enter Tryz.func137, Tryz.ntmps137
    go_wp2_with (go_at_call 150; refine (HC.out _).mono ?_; rintro e w' ⟨rfl, rfl⟩)
    go_ret
    exact ⟨ret_bool (by rw [HV.out]; rfl), rfl⟩

/-- A function value that answers of a byte whether it is of a kind. -/
def Kind (k : Nat) (p : UInt8 → Bool) : Prop := ∀ (b : UInt8) (w : World), Calls Tryz.prog k #[.int .u8 (b.toNat : Int)] w fun e w' => e = .returned (.bool (p b)) ∧ w = w'
theorem all_take {l : List UInt8} {p : UInt8 → Bool} {k : Nat} {x : UInt8} (hx : l[k]? = some x) (h : (l.take k).all p = true) (hp : p x = true) : (l.take (k + 1)).all p = true := by
  obtain ⟨hk, e⟩ := List.getElem?_eq_some_iff.1 hx
  rw [List.take_succ_eq_append_getElem hk, List.all_append, h, e]
  simp [hp]
theorem all_not {l : List UInt8} {p : UInt8 → Bool} {k : Nat} {x : UInt8} (hx : l[k]? = some x) (hp : p x = false) : l.all p = false := by
  rw [List.all_eq_false]
  exact ⟨x, List.mem_of_getElem? hx, by rw [hp]; exact Bool.false_ne_true⟩
set_option maxRecDepth 100000 in
set_option maxHeartbeats 1000000 in
theorem every_x (k : Nat) (p : UInt8 → Bool) (hk : Kind k p) (ek : ∀ args w, (callFunc k args).run Tryz.prog w = .ok (.enter k args) w) (l : List UInt8) (w : World) (hl : l.length ≤ 1000000000000) :
    Calls Tryz.prog 120 #[.string (mkS l), .func (.func k) #[] #[]] w fun e w' => e = .returned (.bool (l.all p)) ∧ w = w' := by
  have hms := mkS_size l
  have HK := Lib.hid hk
  clear hk
  go_enter Tryz.func120, Tryz.ntmps120
  go_wp2_with fail
  go_loop [8] (fun i => ∃ j : Nat, j ≤ l.length ∧ i = .int .i64 j ∧ Hid ((l.take j).all p = true)) (fun i => l.length - (intOf i).toNat)
  case atStart => exact ⟨0, Nat.zero_le _, rfl, by simp [Hid]⟩
  case round =>
    obtain ⟨j, hj, rfl, HC⟩ := hrel
    by_cases hlt : j < l.length
    · obtain ⟨x, hx⟩ : ∃ x : UInt8, (mkS l)[j]'(by omega) = x := ⟨_, rfl⟩
      have hX : l[j]? = some x := by rw [← hx]; have := Lib.data_getElem? (mkS l) j (by omega); rwa [mkS_data] at this
      have HP := Lib.hid (HK.out x w)
      cases hp : p x
      · rw [hp] at HP
        have HN := Lib.hid (all_not hX hp)
        clear hp hX
        go_wp2_with fail
        refine HP.out.mono ?_
        rintro e w1 ⟨rfl, rfl⟩
        go_wp2_with fail
        go_ret
        exact ⟨ret_bool HN.out.symm, rfl⟩
      · rw [hp] at HP
        have HN := Lib.hid (all_take hX HC.out hp)
        clear hp hX
        go_wp2_with fail
        refine HP.out.mono ?_
        rintro e w1 ⟨rfl, rfl⟩
        go_wp2_with fail
        go_round
        case rel => exact ⟨j + 1, by omega, by go_num, HN⟩
        case measure => simp [intOf]; omega
    · have hc := HC.out
      rw [List.take_of_length_le (by omega)] at hc
      have HE := Lib.hid hc
      clear hc
      go_wp2_with fail
      go_ret
      exact ⟨ret_bool HE.out.symm, rfl⟩
end Go.Proofs.YtojpkbonioglbaaGreatDoor.P
/-
  The walks of path's small, Null, hostless and long.
-/
namespace Go.Proofs.YtojpkbonioglbaaGreatDoor.P
set_option maxRecDepth 100000
open Go.RowKit
theorem Tryz.eqPath (a b c d : ByteArray) (w : World) : (Op.equalIn 10000 27 (.agg #[.string a, .string b]) (.agg #[.string c, .string d])).run Tryz.prog w = .ok (a.toList == c.toList && b.toList == d.toList) w := by
  have u9 := Tryz.underlying9
  have a9 := Tryz.isAgg9
  have z9 := Tryz.sizeOf9
  have hS : Tryz.prog.underlying 27 = some (.struct (Tryz.prog.fieldsOf 27)) := by kernel_rfl
  have hp : Tryz.prog.stoodInHeld 27 = false := by kernel_rfl
  rw [show (10000 : Nat) = 9999 + 1 from rfl, run_equalIn_agg w 9999 27 _ _ hS hp]
  simp only [Program.fieldsOf, Tryz.underlying27]
  go_simp
  by_cases h1 : a.toList = c.toList <;> by_cases h2 : b.toList = d.toList <;> simp [h1, h2]
/-- Of two paths: are they one? -/
theorem eqP (p q : Pth) (w : World) : (Op.equalIn 10000 27 (.agg #[.string (mkS p.1), .string (mkS p.2)]) (.agg #[.string (mkS q.1), .string (mkS q.2)])).run Tryz.prog w = .ok (p.1 == q.1 && p.2 == q.2) w := by
  rw [Tryz.eqPath, mkS_toList, mkS_toList, mkS_toList, mkS_toList]
theorem below_box (w : World) (o : Obj) : Below w.heap.size w (w.alloc o) := (Below.refl _ w).alloc (Nat.le_refl _) _
set_option maxRecDepth 100000 in
set_option maxHeartbeats 400000 in
theorem null_x (p : Pth) (w : World) : Calls Tryz.prog 12 #[.agg #[.string (mkS p.1), .string (mkS p.2)]] w fun e w' => e = .returned (.bool (nullB p)) ∧ Below w.heap.size w w' := by
  have he : ∀ w, (Op.equalIn 10000 27 (.agg #[.string (mkS p.1), .string (mkS p.2)]) (.agg #[.string { data := #[] }, .string { data := #[] }])).run Tryz.prog w = .ok (nullB p) w := fun w => eqP p ([], []) w
  go_enter Tryz.func12, Tryz.ntmps12
  go_wp2_with fail
  go_ret
  exact ⟨rfl, below_box _ _⟩
set_option maxRecDepth 100000 in
set_option maxHeartbeats 400000 in
theorem host_x (p : Pth) (w : World) : Calls Tryz.prog 103 #[.agg #[.string (mkS p.1), .string (mkS p.2)]] w fun e w' => e = .returned (.bool (hostB p)) ∧ Below w.heap.size w w' := by
  have he : ∀ w, (Op.equalIn 10000 27 (.agg #[.string (mkS p.1), .string (mkS p.2)]) (.agg #[.string { data := #[112, 111, 115, 116, 109, 97, 115, 116, 101, 114] }, .string { data := #[] }])).run Tryz.prog w = .ok (hostB p) w := fun w => eqP p (pmL, []) w
  go_enter Tryz.func103, Tryz.ntmps103
  go_wp2_with fail
  go_ret
  exact ⟨rfl, below_box _ _⟩
set_option maxRecDepth 100000 in
set_option maxHeartbeats 400000 in
theorem long_x (p : Pth) (w : World) : Calls Tryz.prog 135 #[.agg #[.string (mkS p.1), .string (mkS p.2)]] w fun e w' => e = .returned (.bool (longB p)) ∧ Below w.heap.size w w' := by
  have hm1 := mkS_size p.1
  have hm2 := mkS_size p.2
  have HV := Lib.hid (show longB p = (decide (64 < p.1.length) || decide (255 < p.2.length)) from rfl)
  by_cases h1 : 64 < p.1.length
  · have d1 : decide ((64 : Int) < (p.1.length : Int)) = true := decide_eq_true (by omega)
    go_enter Tryz.func135, Tryz.ntmps135
    go_wp2_with fail
    go_ret
    exact ⟨ret_bool (by rw [HV.out]; simp [h1]), below_box _ _⟩
  · have d1 : decide ((64 : Int) < (p.1.length : Int)) = false := decide_eq_false (by omega)
    by_cases h2 : 255 < p.2.length
    · have d2 : decide ((255 : Int) < (p.2.length : Int)) = true := decide_eq_true (by omega)
      go_enter Tryz.func135, Tryz.ntmps135
      go_wp2_with fail
      go_ret
      exact ⟨ret_bool (by rw [HV.out]; simp [h1, h2]), below_box _ _⟩
    · have d2 : decide ((255 : Int) < (p.2.length : Int)) = false := decide_eq_false (by omega)
      go_enter Tryz.func135, Tryz.ntmps135
      go_wp2_with fail
      go_ret
      exact ⟨ret_bool (by rw [HV.out]; simp [h1, h2]), below_box _ _⟩

/-- The letters ahead of place j made small. -/
def smUp (l : List UInt8) (j : Nat) : List UInt8 := smallL (l.take j) ++ l.drop j
theorem smUp_zero (l : List UInt8) : smUp l 0 = l := by simp [smUp, smallL]
theorem smUp_all (l : List UInt8) : smUp l l.length = smallL l := by simp [smUp]
theorem smUp_length (l : List UInt8) (j : Nat) : (smUp l j).length = l.length := by simp [smUp, smallL]; omega
theorem smUp_succ {l : List UInt8} {j : Nat} {x : UInt8} (h : l[j]? = some x) : (smUp l j)[j]? = some x ∧ smUp l (j + 1) = (smUp l j).set j (smallB x) := by
  obtain ⟨hj, e⟩ := List.getElem?_eq_some_iff.1 h
  have hlen : (smallL (l.take j)).length = j := by simp [smallL]; omega
  refine ⟨?_, ?_⟩
  · rw [smUp, List.getElem?_append_right (by omega), hlen, Nat.sub_self, List.getElem?_drop, Nat.add_zero, h]
  · rw [smUp, smUp, List.take_succ_eq_append_getElem hj, List.set_append_right _ _ (by omega), hlen, Nat.sub_self, List.drop_eq_getElem_cons hj, e]
    simp [smallL]
theorem small_sum : ∀ x : UInt8, capB x = true → IntKind.u8.wrap ((x.toNat : Int) + 32) = ((smallB x).toNat : Int) := by
  intro x h
  have := all_bytes (P := fun x => !capB x || (IntKind.u8.wrap ((x.toNat : Int) + 32) == ((smallB x).toNat : Int))) (by decide +kernel) x
  rw [h] at this
  simpa using this
theorem small_not {x : UInt8} (h : capB x = false) : smallB x = x := by simp [smallB, h]
/-- What holds in small's loop. -/
structure SI (W w : World) (l m : List UInt8) : Prop where
  below : Below W.heap.size W w
  blk : ∃ (cs : Array Value) (fz : Nat), w.heap[W.heap.size]? = some (.cells cs 5 (fz, fz + 1)) ∧ l.length ≤ fz ∧ ∀ (i : Nat) (x : UInt8), m[i]? = some x → cs[i]? = some (Value.int .u8 (x.toNat : Int))
theorem SI.cell {W w : World} {l m : List UInt8} (h : SI W w l m) {i : Nat} {x : UInt8} (hx : m[i]? = some x) : w.cell? ⟨W.heap.size, i, none⟩ = some (.int .u8 (x.toNat : Int)) := by
  obtain ⟨cs, fz, hb, _, hc⟩ := h.blk
  rw [cellOf hb, hc i x hx]
theorem SI.free {W w : World} {l m : List UInt8} (h : SI W w l m) {i : Nat} (hi : i < l.length) : w.frozen? ⟨W.heap.size, i, none⟩ = false := by
  obtain ⟨cs, fz, hb, hf, _⟩ := h.blk
  simp [World.frozen?, hb]
  omega
theorem SI.set {W w : World} {l m : List UInt8} (h : SI W w l m) {i : Nat} (y : UInt8) : SI W (w.setCell ⟨W.heap.size, i, none⟩ (.int .u8 (y.toNat : Int))) l (m.set i y) := by
  obtain ⟨cs, fz, hb, hf, hc⟩ := h.blk
  refine ⟨h.below.setCell (p := ⟨W.heap.size, i, none⟩) (Nat.le_refl _) _, _, fz, setOf hb i _, hf, fun k x hx => ?_⟩
  rw [List.getElem?_set] at hx
  rw [Array.getElem?_setIfInBounds]
  split at hx
  · rename_i e
    subst e
    split at hx
    · rename_i hi
      injection hx with hx
      subst hx
      have := hc i m[i] (List.getElem?_eq_getElem hi)
      obtain ⟨h2, _⟩ := Array.getElem?_eq_some_iff.1 this
      simp [h2]
    · cases hx
  · rename_i e
    simp [e, hc k x hx]
theorem SI.new (w : World) (l : List UInt8) : SI w (Lib.bytesWorld w 5 (mkS l)) l l := by
  refine ⟨⟨rfl, rfl, rfl, by rw [Lib.bytesWorld_size]; omega, fun k hk => Lib.bytesWorld_at_old w 5 _ k hk⟩, _, _, Lib.bytesWorld_at_new w 5 (mkS l), ?_, fun i x hx => ?_⟩
  · simp [Lib.bytesCells, mkS]
  · have hi := (List.getElem?_eq_some_iff.1 hx).1
    simp [Lib.bytesCells, mkS, Array.getElem?_append, hi]
    rw [List.getElem?_eq_getElem hi] at hx
    injection hx with hx
    rw [hx]
theorem SI.text {W w : World} {l m : List UInt8} (h : SI W w l m) (n cap : Nat) (hn : m.length = n) : (convert 84 9 (.slice (some ⟨W.heap.size, 0, none⟩) n cap)).run Tryz.prog w = .ok (.string (mkS m)) w := by
  refine conv_bytes w _ m n cap hn fun j v hj => ?_
  rw [show (⟨W.heap.size, 0, none⟩ : Addr).add j = ⟨W.heap.size, j, none⟩ by unfold Addr.add; split <;> simp_all]
  simp only [bytesV, List.getElem?_map, Option.map_eq_some_iff] at hj
  obtain ⟨x, hx, rfl⟩ := hj
  exact h.cell hx
set_option maxRecDepth 100000 in
set_option maxHeartbeats 1000000 in
theorem small_x (l : List UInt8) (w : World) (hl : l.length ≤ 1000000000000) :
    Calls Tryz.prog 61 #[.string (mkS l)] w fun e w' => e = .returned (.string (mkS (smallL l))) ∧ Below w.heap.size w w' := by
  have hms := mkS_size l
  have hcv := Lib.run_convert_string_bytes (P := Tryz.prog) w 9 84 5 (mkS l) Tryz.underlying9 Tryz.underlying84 Tryz.underlying5
  have HS := Lib.hid (SI.new w l)
  rw [hms] at hcv
  generalize Lib.bytesWorld w 5 (mkS l) = w1 at hcv HS
  generalize grownCap w l.length 0 5 = cap at hcv
  go_enter Tryz.func61, Tryz.ntmps61
  go_wp2_with fail
  clear hcv
  go_loopw [10, 4, 5] (fun i _ _ wr => ∃ j : Nat, j ≤ l.length ∧ i = .int .i64 j ∧ SI w wr l (smUp l j)) (fun i _ _ _ => l.length - (intOf i).toNat)
  case atStart => exact ⟨0, Nat.zero_le _, rfl, by rw [smUp_zero]; exact HS.out⟩
  case round =>
    obtain ⟨j, hj, rfl, hI⟩ := hrel
    by_cases hlt : j < l.length
    · obtain ⟨x, hX⟩ : ∃ x : UInt8, l[j]? = some x := ⟨_, List.getElem?_eq_getElem hlt⟩
      have hc := hI.cell (smUp_succ hX).1
      have hf := hI.free hlt
      have HP := Lib.hid (capital_x x wr)
      cases hp : capB x
      · rw [hp] at HP
        have HN := Lib.hid (show SI w wr l (smUp l (j + 1)) by
          rw [(smUp_succ hX).2, small_not hp]
          have : (smUp l j).set j x = smUp l j := by
            apply List.ext_getElem?
            intro i
            rw [List.getElem?_set]
            split
            · rename_i e; subst e
              split
              · exact (smUp_succ hX).1.symm
              · rename_i h; rw [smUp_length] at h; omega
            · rfl
          rw [this]; exact hI)
        clear hp hX hI
        go_wp2_with fail
        refine HP.out.mono ?_
        rintro e w1 ⟨rfl, rfl⟩
        go_wp2_with fail
        go_roundw
        case rel => exact ⟨j + 1, by omega, by go_num, HN.out⟩
        case measure => simp [intOf]; omega
      · rw [hp] at HP
        have hs := small_sum x hp
        have HN := Lib.hid (show SI w (wr.setCell ⟨w.heap.size, j, none⟩ (.int .u8 ((smallB x).toNat : Int))) l (smUp l (j + 1)) by
          rw [(smUp_succ hX).2]; exact hI.set _)
        clear hp hX hI
        go_wp2_with fail
        refine HP.out.mono ?_
        rintro e w1 ⟨rfl, rfl⟩
        go_wp2_with fail
        go_roundw
        case rel => exact ⟨j + 1, by omega, by go_num, HN.out⟩
        case measure => simp [intOf]; omega
    · obtain rfl : j = l.length := by omega
      rw [smUp_all] at hI
      have hcv := hI.text l.length cap (smallL_length l)
      have HB := Lib.hid hI.below
      clear hI
      go_wp2_with fail
      go_ret
      exact ⟨rfl, HB.out⟩
end Go.Proofs.YtojpkbonioglbaaGreatDoor.P
/-
  The walks of what path asks of strings: Cut at one sign, CutPrefix of one, Clone.
-/
namespace Go.Proofs.YtojpkbonioglbaaGreatDoor.P
set_option maxRecDepth 100000
open Go.RowKit
/-- Where a sign stands, and what stands ahead of it and behind. -/
theorem ib_cases (l : List UInt8) (c : UInt8) : (Lib.indexByte l c = -1 ∧ hasC c l = false) ∨ ∃ i : Nat, Lib.indexByte l c = i ∧ i < l.length ∧ hasC c l = true ∧ preC c l = l.take i ∧ postC c l = l.drop (i + 1) := by
  induction l with
  | nil => exact .inl ⟨rfl, rfl⟩
  | cons b t ih =>
    by_cases e : b = c
    · subst e
      exact .inr ⟨0, by simp [Lib.indexByte], by simp, by simp [hasC], by simp [preC], by simp [postC]⟩
    · have e1 : preC c (b :: t) = b :: preC c t := by simp [preC, e]
      have e2 : postC c (b :: t) = postC c t := by simp [postC, e]
      have e3 : hasC c (b :: t) = hasC c t := by simp [hasC, Ne.symm e]
      have e4 : Lib.indexByte (b :: t) c = if Lib.indexByte t c == -1 then -1 else Lib.indexByte t c + 1 := by simp [Lib.indexByte, e]
      rcases ih with ⟨h1, h2⟩ | ⟨i, h1, h2, h3, h4, h5⟩
      · exact .inl ⟨by rw [e4, h1]; rfl, by rw [e3, h2]⟩
      · refine .inr ⟨i + 1, ?_, by simp; exact h2, by rw [e3, h3], by rw [e1, h4]; simp, by rw [e2, h5]; simp⟩
        rw [e4, h1, if_neg (by rw [beq_iff_eq]; omega)]
        omega
set_option maxRecDepth 100000 in
set_option maxHeartbeats 400000 in
theorem scut_x (c : UInt8) (l : List UInt8) (w : World) (hl : l.length ≤ 1000000000000000) :
    Calls Tryz.prog 149 #[.string (mkS l), .string ⟨#[c]⟩] w fun e w' => e = .returned (.tuple #[.string (mkS (preC c l)), .string (mkS (postC c l)), .bool (hasC c l)]) ∧ ∃ n, w' = w.drewN n := by
  have hms := mkS_size l
  have hm1 : (⟨#[c]⟩ : ByteArray).size = 1 := rfl
  have HI := Lib.hid (fun w => Tryz.stringslite_Index_one (mkS l) c w)
  rw [mkS_data] at HI
  rcases ib_cases l c with ⟨h1, h2⟩ | ⟨i, h1, h2, h3, h4, h5⟩
  · obtain ⟨h6, h7⟩ := cut_no h2
    rw [h2, h6, h7]
    rw [h1] at HI
    clear h1 h2 h6 h7
    go_enter Tryz.func149, Tryz.ntmps149
    go_wp2_with (go_at_call 168; refine (HI.out _).mono ?_; rintro e w' ⟨rfl, hw⟩; rw [hw])
    go_ret3
    exact ⟨rfl, 0, rfl⟩
  · rw [h1] at HI
    have HV := Lib.hid (show Ending.returned (.tuple #[.string ((mkS l).extract 0 i), .string ((mkS l).extract (i + 1) (mkS l).size), .bool true]) = .returned (.tuple #[.string (mkS (preC c l)), .string (mkS (postC c l)), .bool (hasC c l)]) by
      rw [h3, h4, h5, mkS_extract, mkS_extract, hms, List.take_length, List.drop_zero])
    rw [hms] at HV
    have c1 : (0 : Int) ≤ (i : Int) := by omega
    have c2 : (i : Int) ≤ (l.length : Int) := by omega
    have c3 : (0 : Int) ≤ (i : Int) + 1 := by omega
    have c4 : (i : Int) + 1 ≤ (l.length : Int) := by omega
    have c5 : (i : Int).toNat = i := by omega
    have c6 : ((i : Int) + 1).toNat = i + 1 := by omega
    have c7 : IntKind.i64.wrap ((i : Int) + 1) = (i : Int) + 1 := IntWalk.i64_in _ (by omega)
    clear h1 h3 h4 h5
    go_enter Tryz.func149, Tryz.ntmps149
    go_wp2_with (go_at_call 168; refine (HI.out _).mono ?_; rintro e w' ⟨rfl, hw⟩; rw [hw])
    go_quiet (fail)
    go_wp2_with fail
    go_ret3
    exact ⟨HV.out, _, rfl⟩
theorem cut_x (c : UInt8) (l : List UInt8) (w : World) (hl : l.length ≤ 1000000000000000) :
    Calls Tryz.prog 119 #[.string (mkS l), .string ⟨#[c]⟩] w fun e w' => e = .returned (.tuple #[.string (mkS (preC c l)), .string (mkS (postC c l)), .bool (hasC c l)]) ∧ ∃ n, w' = w.drewN n := by
  have HI := Lib.hid (fun w => scut_x c l w hl)
  generalize preC c l = a at HI ⊢
  generalize postC c l = b at HI ⊢
  generalize hasC c l = q at HI ⊢
  go_enter Tryz.func119, Tryz.ntmps119
  go_wp2_with (go_at_call 149; refine (HI.out _).mono ?_; rintro e w' ⟨rfl, n, rfl⟩)
  go_ret3
  exact ⟨rfl, n, rfl⟩
theorem prefix_one (c : UInt8) (l : List UInt8) : Lib.hasPrefix l [c] = (cutP c l).2 ∧ Lib.trimPrefix l [c] = (cutP c l).1 := by
  cases l with
  | nil => exact ⟨rfl, rfl⟩
  | cons b t =>
    by_cases e : c = b
    · subst e; simp [Lib.trimPrefix, Lib.hasPrefix, cutP, List.isPrefixOf]
    · simp [Lib.trimPrefix, Lib.hasPrefix, cutP, List.isPrefixOf, e, Ne.symm e]
theorem cutp_x (c : UInt8) (l : List UInt8) (w : World) :
    Calls Tryz.prog 20 #[.string (mkS l), .string ⟨#[c]⟩] w fun e w' => e = .returned (.tuple #[.string (mkS (cutP c l).1), .bool (cutP c l).2]) ∧ w = w' :=
  (Tryz.strings_CutPrefix (mkS l) ⟨#[c]⟩ w).mono fun e w' ⟨he, hw⟩ => ⟨by rw [he, mkS_data, (prefix_one c l).1, (prefix_one c l).2]; rfl, hw.symm⟩
theorem clone_x (l : List UInt8) (w : World) (hl : l.length ≤ 1000000000000) :
    Calls Tryz.prog 27 #[.string (mkS l)] w fun e w' => e = .returned (.string (mkS l)) ∧ Below w.heap.size w w' := by
  have hms := mkS_size l
  have HI := Lib.hid (fun w => Tryz.stringslite_Clone (mkS l) w (by omega))
  go_enter Tryz.func27, Tryz.ntmps27
  go_wp2_with fail
  refine (HI.out _).mono ?_
  rintro e w' ⟨rfl, hb⟩
  go_wp2_with fail
  go_ret
  exact ⟨rfl, hb⟩
end Go.Proofs.YtojpkbonioglbaaGreatDoor.P
