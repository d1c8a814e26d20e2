/-
  XtEnc · XtDec · XtDecode, in one text.
-/
import Derived.Test.YtojpkbonioglbaaGreatDoorMaPure
import Derived.Test.YtojpkbonioglbaaGreatDoorMaBuild
/-
  The walks of xtext's plain, Count and Encode.
-/
namespace Go.Proofs.YtojpkbonioglbaaGreatDoor.X
set_option maxRecDepth 100000
open Go.RowKit
theorem plain_of {b : UInt8} (h1 : 33 ≤ b.toNat) (h2 : b.toNat ≤ 126) (h3 : b ≠ 43) (h4 : b ≠ 61) : plainX b = true := by simp [plainX, h1, h2, h3, h4]
theorem plain_no1 {b : UInt8} (h1 : ¬ 33 ≤ b.toNat) : plainX b = false := by simp [plainX, h1]
theorem plain_no2 {b : UInt8} (h1 : ¬ b.toNat ≤ 126) : plainX b = false := by simp [plainX, h1]
theorem plain_no3 {b : UInt8} (h1 : b = 43) : plainX b = false := by simp [plainX, h1]
theorem plain_no4 {b : UInt8} (h1 : b = 61) : plainX b = false := by simp [plainX, h1]
set_option maxRecDepth 100000 in
set_option maxHeartbeats 400000 in
theorem plain_x (b : UInt8) (w : World) : Calls Tryz.prog 82 #[.int .u8 (b.toNat : Int)] w fun e w' => e = .returned (.bool (plainX b)) ∧ w = w' := by
  have hlt := b.toNat_lt
  by_cases h1 : 33 ≤ b.toNat
  · have d1 : decide ((33 : Int) ≤ (b.toNat : Int)) = true := decide_eq_true (by omega)
    by_cases h2 : b.toNat ≤ 126
    · have d2 : decide ((b.toNat : Int) ≤ 126) = true := decide_eq_true (by omega)
      by_cases h3 : b = 43
      · have d3 : ((b.toNat : Int) != 43) = false := by rw [h3]; rfl
        have HP := Lib.hid (plain_no3 h3)
        clear h3
        go_enter Tryz.func82, Tryz.ntmps82
        go_wp2_with fail
        go_ret
        exact ⟨ret_bool HP.out.symm, rfl⟩
      · have d3 : ((b.toNat : Int) != 43) = true := by rw [bne_iff_ne]; exact fun e => h3 ((byte_eq (n := 43) (by decide)).1 (beq_iff_eq.2 e))
        by_cases h4 : b = 61
        · have d4 : ((b.toNat : Int) != 61) = false := by rw [h4]; rfl
          have HP := Lib.hid (plain_no4 h4)
          clear h3 h4
          go_enter Tryz.func82, Tryz.ntmps82
          go_wp2_with fail
          go_ret
          exact ⟨ret_bool HP.out.symm, rfl⟩
        · have d4 : ((b.toNat : Int) != 61) = true := by rw [bne_iff_ne]; exact fun e => h4 ((byte_eq (n := 61) (by decide)).1 (beq_iff_eq.2 e))
          have HP := Lib.hid (plain_of h1 h2 h3 h4)
          clear h3 h4
          go_enter Tryz.func82, Tryz.ntmps82
          go_wp2_with fail
          go_ret
          exact ⟨ret_bool HP.out.symm, rfl⟩
    · have d2 : decide ((b.toNat : Int) ≤ 126) = false := decide_eq_false (by omega)
      have HP := Lib.hid (plain_no2 h2)
      go_enter Tryz.func82, Tryz.ntmps82
      go_wp2_with fail
      go_ret
      exact ⟨ret_bool HP.out.symm, rfl⟩
  · have d1 : decide ((33 : Int) ≤ (b.toNat : Int)) = false := decide_eq_false (by omega)
    have HP := Lib.hid (plain_no1 h1)
    go_enter Tryz.func82, Tryz.ntmps82
    go_wp2_with fail
    go_ret
    exact ⟨ret_bool HP.out.symm, rfl⟩

/-- How many bytes a text's xtext takes. -/
def cntX (l : List UInt8) : Nat := (encX l).length
theorem cnt_take {l : List UInt8} {k : Nat} {b : UInt8} (h : l[k]? = some b) : cntX (l.take (k + 1)) = cntX (l.take k) + (if plainX b then 1 else 3) := by
  unfold cntX
  rw [encX_take h, List.length_append]
  unfold encX1
  split <;> rfl
theorem cnt_le (l : List UInt8) (k : Nat) : k ≤ l.length → k ≤ cntX (l.take k) ∧ cntX (l.take k) ≤ 3 * k := by
  intro h
  have := encX_len (l.take k)
  rw [List.length_take, Nat.min_eq_left h] at this
  exact this
set_option maxRecDepth 100000 in
set_option maxHeartbeats 1000000 in
theorem count_x (l : List UInt8) (w : World) (hs : l.length ≤ 1000000000) :
    Calls Tryz.prog 81 #[.string (mkS l)] w fun e w' => e = .returned (.int .i64 (cntX l : Int)) ∧ w = w' := by
  have hms := mkS_size l
  go_enter Tryz.func81, Tryz.ntmps81
  go_wp2_with fail
  go_loop [3, 9] (fun n i => ∃ (k c : Nat), k ≤ l.length ∧ c ≤ 3000000000 ∧ i = .int .i64 k ∧ n = .int .i64 (c : Int) ∧ Hid (c + k = l.length + cntX (l.take k))) (fun _ i => l.length - (intOf i).toNat)
  case atStart => exact ⟨0, l.length, Nat.zero_le _, by omega, rfl, rfl, by simp [Hid, cntX, encX]⟩
  case round =>
    obtain ⟨k, c, hk, hc, rfl, rfl, HC⟩ := hrel
    by_cases hlt : k < l.length
    · obtain ⟨x, hx⟩ : ∃ x : UInt8, (mkS l)[k]'(by omega) = x := ⟨_, rfl⟩
      have hX : l[k]? = some x := by rw [← hx]; have := Lib.data_getElem? (mkS l) k (by omega); rwa [mkS_data] at this
      have HT := Lib.hid (cnt_take hX)
      have HP := Lib.hid (plain_x x w)
      clear hX
      cases hp : plainX x
      · rw [hp] at HT HP
        clear hp
        go_wp2_with fail
        refine HP.out.mono ?_
        rintro e w1 ⟨rfl, rfl⟩
        go_wp2_with fail
        go_round
        case rel => exact ⟨k + 1, c + 2, by omega, by have := HC.out; have := cnt_le l k; omega, by go_num, by go_num, show _ + _ = _ by have := HC.out; have := HT.out; simp only [Bool.false_eq_true, if_false] at this; omega⟩
        case measure => simp [intOf]; omega
      · rw [hp] at HT HP
        clear hp
        go_wp2_with fail
        refine HP.out.mono ?_
        rintro e w1 ⟨rfl, rfl⟩
        go_wp2_with fail
        go_round
        case rel => exact ⟨k + 1, c, by omega, by omega, by go_num, rfl, show _ + _ = _ by have := HC.out; have := HT.out; simp only [if_true] at this; omega⟩
        case measure => simp [intOf]; omega
    · have hc := HC.out
      rw [List.take_of_length_le (by omega)] at hc
      have HE := Lib.hid (show c = cntX l by omega)
      clear hc
      go_wp2_with fail
      go_ret
      exact ⟨ret_int (by rw [HE.out]), rfl⟩

theorem digs_at {n : Nat} (h : n < 16) (h' : n < ({ data := #[48, 49, 50, 51, 52, 53, 54, 55, 56, 57, 65, 66, 67, 68, 69, 70] } : ByteArray).size) : ({ data := #[48, 49, 50, 51, 52, 53, 54, 55, 56, 57, 65, 66, 67, 68, 69, 70] } : ByteArray)[n]'h' = digX n :=
  mkS_get (l := digsX) h' (digs_get n h)
set_option maxRecDepth 100000 in
set_option maxHeartbeats 1000000 in
theorem encode_x (l : List UInt8) (w : World) (hs : l.length ≤ 1000000000) :
    Calls Tryz.prog 56 #[.string (mkS l)] w fun e w' => e = .returned (.string (mkS (encX l))) ∧ Below w.heap.size w w' := by
  have hms := mkS_size l
  have HCN := Lib.hid (count_x l (w.alloc (.cells #[.pointer none, .slice none 0 0] 105)) hs)
  have hcl : cntX l ≤ 3000000000 := by have := (encX_len l).2; unfold cntX; omega
  have HG := Lib.hid (bld_grow w (cntX l) (by omega))
  generalize cntX l = cn at HCN HG hcl
  go_enter Tryz.func56, Tryz.ntmps56
  go_wp2_with fail
  refine HCN.out.mono ?_
  rintro e w1 ⟨rfl, rfl⟩
  go_wp2_with fail
  refine HG.out.mono ?_
  rintro e w1 ⟨rfl, hb1, hw1⟩
  have HB1 := Lib.hid hb1
  have HW1 := Lib.hid hw1
  clear hb1 hw1
  go_wp2_with fail
  go_loopw [11] (fun i wr => ∃ k : Nat, k ≤ l.length ∧ i = .int .i64 k ∧ Hid (Bld w.heap.size (encX (l.take k)) wr) ∧ Hid (Below w.heap.size w wr)) (fun i _ => l.length - (intOf i).toNat)
  case atStart => exact ⟨0, Nat.zero_le _, rfl, HB1.out, HW1.out⟩
  case round =>
    obtain ⟨k, hk, rfl, HB, HW⟩ := hrel
    by_cases hlt : k < l.length
    · obtain ⟨x, hx⟩ : ∃ x : UInt8, (mkS l)[k]'(by omega) = x := ⟨_, rfl⟩
      have hX : l[k]? = some x := by rw [← hx]; have := Lib.data_getElem? (mkS l) k (by omega); rwa [mkS_data] at this
      have HT := Lib.hid (encX_take hX)
      have HP := Lib.hid (plain_x x wr)
      have hel : (encX (l.take k)).length ≤ 3000000000 := by have := (cnt_le l k (by omega)).2; unfold cntX at this; omega
      generalize encX (l.take k) = ek at HB HT hel
      clear hX
      have hx256 := x.toNat_lt
      have hq : 0 ≤ (x.toNat : Int) / 16 ∧ (x.toNat : Int) / 16 < 16 := by omega
      have hr : 0 ≤ (x.toNat : Int) % 16 ∧ (x.toNat : Int) % 16 < 16 := by omega
      cases hp : plainX x
      · have HE := Lib.hid (show encX1 x = [43, digX (x.toNat / 16), digX (x.toNat % 16)] by rw [encX1, hp]; rfl)
        rw [hp] at HP
        clear hp
        go_wp2_with fail
        refine HP.out.mono ?_
        rintro e w2 ⟨rfl, rfl⟩
        go_wp2_with fail
        refine (bld_byte HB.out 43 (by omega)).mono ?_
        rintro e w3 ⟨rfl, hb3, hw3⟩
        have HB3 := Lib.hid hb3
        have HW3 := Lib.hid hw3
        clear hb3 hw3
        go_wp2_with fail
        refine (bld_byte HB3.out _ (by rw [List.length_append]; simp; omega)).mono ?_
        rintro e w4 ⟨rfl, hb4, hw4⟩
        rw [digs_at (by omega)] at hb4
        have HB4 := Lib.hid hb4
        have HW4 := Lib.hid hw4
        clear hb4 hw4
        go_wp2_with fail
        refine (bld_byte HB4.out _ (by rw [List.length_append, List.length_append]; simp; omega)).mono ?_
        rintro e w5 ⟨rfl, hb5, hw5⟩
        rw [digs_at (by omega)] at hb5
        have HB5 := Lib.hid hb5
        have HW5 := Lib.hid (((HW.out.trans HW3.out).trans HW4.out).trans hw5)
        clear hb5 hw5
        go_wp2_with fail
        go_roundw
        case rel => exact ⟨k + 1, by omega, by go_num, by rw [HT.out, HE.out]; have := HB5.out; rwa [List.append_assoc, List.append_assoc] at this, HW5.out⟩
        case measure => simp [intOf]; omega
      · have HE := Lib.hid (show encX1 x = [x] by rw [encX1, hp]; rfl)
        rw [hp] at HP
        clear hp
        go_wp2_with fail
        refine HP.out.mono ?_
        rintro e w2 ⟨rfl, rfl⟩
        go_wp2_with fail
        refine (bld_byte HB.out x (by omega)).mono ?_
        rintro e w3 ⟨rfl, hb3, hw3⟩
        have HB3 := Lib.hid hb3
        have HW3 := Lib.hid hw3
        clear hb3 hw3
        go_wp2_with fail
        go_roundw
        case rel => exact ⟨k + 1, by omega, by go_num, by rw [HT.out, HE.out]; exact HB3.out, HW.out.trans HW3.out⟩
        case measure => simp [intOf]; omega
    · have hb := HB.out
      rw [List.take_of_length_le (by omega)] at hb
      have HB' := Lib.hid hb
      clear hb
      go_wp2_with fail
      refine (bld_string HB'.out).mono ?_
      rintro e w2 ⟨rfl, _, hw2⟩
      have HW2 := Lib.hid (HW.out.trans hw2)
      clear hw2
      go_wp2_with fail
      go_ret
      exact ⟨rfl, HW2.out⟩
end Go.Proofs.YtojpkbonioglbaaGreatDoor.X
/-
  The walks of xtext's Decode and Canon, of the closure that takes digits, and of told.
-/
namespace Go.Proofs.YtojpkbonioglbaaGreatDoor.X
set_option maxRecDepth 100000
open Go.RowKit
/-- Block p holds the number j; nothing else has turned. -/
structure Moved (p j : Nat) (w w' : World) : Prop where
  os : w'.os = w.os
  tape : w'.tape = w.tape
  output : w'.output = w.output
  size : w'.heap.size = w.heap.size
  other : ∀ k, k ≠ p → w'.heap[k]? = w.heap[k]?
  here : w'.heap[p]? = some (.cells #[.int .i64 (j : Int)] 3 (0, 0))
theorem Moved.refl {p j : Nat} {w : World} (h : w.heap[p]? = some (.cells #[.int .i64 (j : Int)] 3 (0, 0))) : Moved p j w w := ⟨rfl, rfl, rfl, rfl, fun _ _ => rfl, h⟩
theorem Moved.trans {p j k : Nat} {a b c : World} (h : Moved p j a b) (g : Moved p k b c) : Moved p k a c :=
  ⟨g.os.trans h.os, g.tape.trans h.tape, g.output.trans h.output, g.size.trans h.size, fun i hi => (g.other i hi).trans (h.other i hi), g.here⟩
theorem Moved.set {p j : Nat} {w : World} (h : w.heap[p]? = some (.cells #[.int .i64 (j : Int)] 3 (0, 0))) (k : Nat) : Moved p k w (w.setCell ⟨p, 0, none⟩ (.int .i64 (k : Int))) :=
  ⟨rfl, rfl, rfl, by simp [World.setCell], fun i hi => Below.heap_setCell w ⟨p, 0, none⟩ _ i hi, setOf h 0 _⟩
theorem Moved.below {p j B : Nat} {w w' : World} (h : Moved p j w w') (hB : B ≤ p) : Below B w w' := ⟨h.os, h.tape, h.output, Nat.le_of_eq h.size.symm, fun k hk => h.other k (by omega)⟩
theorem Moved.bld {p j b : Nat} {l : List UInt8} {w w' : World} (h : Moved p j w w') (hb : Bld b l w) (hp : p < b) : Bld b l w' := hb.above fun k hk _ => h.other k (by omega)

/-- What the closure answers of a sign. -/
def digV (x : UInt8) : Int := Lib.indexByte digsX x
theorem digV_yes {x : UInt8} (h : valX x < 16) : digV x = (valX x : Int) := by rw [digV, digs_index, if_pos h]
theorem digV_no {x : UInt8} (h : ¬ valX x < 16) : digV x = -1 := by rw [digV, digs_index, if_neg h]
theorem digV_dec (x : UInt8) : decide (0 ≤ digV x) = decide (valX x < 16) := by
  by_cases h : valX x < 16
  · rw [digV_yes h, decide_eq_true h]; exact decide_eq_true (by omega)
  · rw [digV_no h, decide_eq_false h]; decide
theorem ib_x (x : UInt8) (w : World) :
    Calls Tryz.prog 160 #[.string { data := #[48, 49, 50, 51, 52, 53, 54, 55, 56, 57, 65, 66, 67, 68, 69, 70] }, .int .u8 (x.toNat : Int)] w fun e w' => e = .returned (.int .i64 (digV x)) ∧ w = w' :=
  (Tryz.strings_IndexByte _ _ w).mono fun e w' ⟨he, hw⟩ => ⟨by rw [he, byte_of]; rfl, hw.symm⟩
theorem or_dig : ∀ a : Nat, a < 16 → ∀ b : Nat, b < 16 → bits BinOp.or IntKind.i64 ((a : Int) * 16) (b : Int) = 16 * (a : Int) + (b : Int) := by decide +kernel
theorem or_zero : ∀ a : Nat, a < 16 → bits BinOp.or IntKind.i64 0 (a : Int) = (a : Int) := by decide +kernel
/-- What holds in told's loop, of two digits. -/
def TR (p k : Nat) (vx vy : Nat) (w : World) (g : Nat) (b i : Value) (wr : World) : Prop :=
  (g = 2 ∧ i = .int .i64 0 ∧ b = .int .i64 0 ∧ wr = w) ∨ (g = 1 ∧ i = .int .i64 1 ∧ b = .int .i64 (vx : Int) ∧ Moved p (k + 1) w wr) ∨ (g = 0 ∧ i = .int .i64 2 ∧ b = .int .i64 (16 * (vx : Int) + (vy : Int)) ∧ Moved p (k + 2) w wr)
/-- No digit stands there. -/
def NoDig (l : List UInt8) (k : Nat) : Prop := ∀ x, l[k]? = some x → ¬ valX x < 16
def ToldNo (p : Nat) (w : World) (e : Ending) (w' : World) : Prop := e = .returned (.tuple #[.int .u8 0, .bool false]) ∧ ∃ j, Moved p j w w'
/-- What holds in told's loop, of one digit alone. -/
def TQ (p k : Nat) (vx : Nat) (w : World) (g : Nat) (b i : Value) (wr : World) : Prop :=
  (g = 1 ∧ i = .int .i64 0 ∧ b = .int .i64 0 ∧ wr = w) ∨ (g = 0 ∧ i = .int .i64 1 ∧ b = .int .i64 (vx : Int) ∧ Moved p (k + 1) w wr)
/-- Two digits stand there. -/
def TwoDigs (l : List UInt8) (k : Nat) : Prop := ∃ x y, l[k]? = some x ∧ l[k + 1]? = some y ∧ valX x < 16 ∧ valX y < 16
end Go.Proofs.YtojpkbonioglbaaGreatDoor.X
/-
  The walks of xtext's Decode and Canon.
-/
namespace Go.Proofs.YtojpkbonioglbaaGreatDoor.X
set_option maxRecDepth 100000
open Go.RowKit
/-- What holds in Decode's loop. -/
structure DR (W0 : World) (l : List UInt8) (k : Nat) (out : List UInt8) (w : World) : Prop where
  box : w.heap[W0.heap.size]? = some (.cells #[.string (mkS l)] 9 (0, 0))
  here : w.heap[W0.heap.size + 1]? = some (.cells #[.int .i64 (k : Int)] 3 (0, 0))
  bld : Bld (W0.heap.size + 1 + 1) out w
  below : Below W0.heap.size W0 w
  dec : decX l = (decX (l.drop k)).map (out ++ ·)
  le : out.length ≤ k
  kl : k ≤ l.length
theorem dr_new (w : World) (l : List UInt8) : DR w l 0 [] (((w.alloc (.cells #[.string (mkS l)] 9)).alloc (.cells #[.int .i64 0] 3)).alloc (.cells #[.pointer none, .slice none 0 0] 105)) := by
  have h0 := newOf w (.cells #[.string (mkS l)] 9)
  have h1 := newOf (w.alloc (.cells #[.string (mkS l)] 9)) (.cells #[.int .i64 0] 3)
  have h2 := bld_new ((w.alloc (.cells #[.string (mkS l)] 9)).alloc (.cells #[.int .i64 0] 3))
  have b0 : Below w.heap.size w (w.alloc (.cells #[.string (mkS l)] 9)) := (Below.refl _ _).alloc (Nat.le_refl _) _
  have s1 : (w.alloc (.cells #[.string (mkS l)] 9)).heap.size = w.heap.size + 1 := by simp
  have s2 : ((w.alloc (.cells #[.string (mkS l)] 9)).alloc (.cells #[.int .i64 0] 3)).heap.size = w.heap.size + 2 := by simp
  rw [s1] at h1
  rw [s2] at h2
  refine ⟨?_, ?_, h2, ?_, by simp, by simp, by simp⟩
  · rw [Below.heap_alloc _ _ _ (by omega), Below.heap_alloc _ _ _ (by omega)]; exact h0
  · rw [Below.heap_alloc _ _ _ (by omega)]; exact h1
  · exact (b0.alloc b0.size _).alloc (by omega) _
/-- One sign has been taken: the number at, the builder, have turned. -/
theorem DR.more {W0 w w1 w2 : World} {l out : List UInt8} {k j : Nat} {b : UInt8} (h : DR W0 l k out w) (hm : Moved (W0.heap.size + 1) j w w1) (hb : Bld (W0.heap.size + 1 + 1) (out ++ [b]) w2) (hbl : Below (W0.heap.size + 1 + 1) w1 w2)
    (hd : decX (l.drop k) = (decX (l.drop j)).map (b :: ·)) (hj : k < j) (hjl : j ≤ l.length) : DR W0 l j (out ++ [b]) w2 := by
  refine ⟨(hbl.block _ (by omega)).trans ((hm.other _ (by omega)).trans h.box), (hbl.block _ (by omega)).trans hm.here, hb, (h.below.trans (hm.below (by omega))).trans (hbl.mono (by omega)), ?_, ?_, hjl⟩
  · rw [h.dec, hd, Option.map_map]
    congr 1
    funext s
    simp
  · have := h.le
    simp
    omega
def DecPost (l : List UInt8) (w : World) (e : Ending) (w' : World) : Prop := e = .returned (.tuple #[.string (mkS (decS l)), .int .i64 (decE l)]) ∧ Below w.heap.size w w'
theorem DR.no {W0 w w1 : World} {l out : List UInt8} {k : Nat} (h : DR W0 l k out w) (hd : decX (l.drop k) = none) (hb : Below W0.heap.size w w1) : DecPost l W0 (.returned (.tuple #[.string { data := #[] }, .int .i64 2])) w1 := by
  have e : decX l = none := by rw [h.dec, hd]; rfl
  refine ⟨?_, h.below.trans hb⟩
  rw [decS, decE, e]
  rfl
theorem DR.fin {W0 w w1 : World} {l out : List UInt8} {k : Nat} (h : DR W0 l k out w) (hk : l.length ≤ k) (hb : Below W0.heap.size w w1) : DecPost l W0 (.returned (.tuple #[.string (mkS out), .int .i64 0])) w1 := by
  have e : decX l = some out := by rw [h.dec, List.drop_of_length_le hk]; simp [decX]
  refine ⟨?_, h.below.trans hb⟩
  rw [decS, decE, e]
  rfl
theorem drop_get {l : List UInt8} {k : Nat} {x : UInt8} (h : l[k]? = some x) : l.drop k = x :: l.drop (k + 1) := by
  obtain ⟨hk, e⟩ := List.getElem?_eq_some_iff.1 h
  rw [List.drop_eq_getElem_cons hk, e]
theorem dec_two {l : List UInt8} {k : Nat} {x y : UInt8} (h : l[k]? = some 43) (hx : l[k + 1]? = some x) (hy : l[k + 2]? = some y) (vx : valX x < 16) (vy : valX y < 16) : decX (l.drop k) = (decX (l.drop (k + 3))).map (UInt8.ofNat (16 * valX x + valX y) :: ·) := by
  rw [drop_get h, drop_get hx, drop_get hy, decX_mark, if_pos ⟨vx, vy⟩]
theorem dec_not {l : List UInt8} {k : Nat} (h : l[k]? = some 43) (hn : ¬ TwoDigs l (k + 1)) : decX (l.drop k) = none := by
  rw [drop_get h]
  cases hx : l[k + 1]? with
  | none => rw [List.drop_of_length_le (List.getElem?_eq_none_iff.1 hx)]; exact decX_mark0
  | some x =>
    rw [drop_get hx]
    cases hy : l[k + 2]? with
    | none => rw [List.drop_of_length_le (List.getElem?_eq_none_iff.1 hy)]; exact decX_mark1 x
    | some y =>
      rw [drop_get hy, decX_mark, if_neg]
      rintro ⟨vx, vy⟩
      exact hn ⟨x, y, hx, hy, vx, vy⟩
theorem two_len {l : List UInt8} {k : Nat} (h : TwoDigs l k) : k + 2 ≤ l.length := by
  obtain ⟨x, y, _, hy, _⟩ := h
  have := (List.getElem?_eq_some_iff.1 hy).1
  omega
end Go.Proofs.YtojpkbonioglbaaGreatDoor.X
