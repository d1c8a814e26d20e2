/-
  The walks of xtext's Decode and Canon, of the closure that takes digits, and of told.
-/
import Derived.Test.YthnjofgeghpdoaaXtEnc
namespace Go.Proofs.Ythnjofgeghpdoaa
open Go.RowKit
/-- Block p holds the number j; nothing else has turned. -/
structure Moved (p j : Nat) (w w' : World) : Prop where
  os : w'.os = w.os
  tape : w'.tape = w.tape
  output : w'.output = w.output
  size : w'.heap.size = w.heap.size
  other : ∀ k, k ≠ p → w'.heap[k]? = w.heap[k]?
  here : w'.heap[p]? = some (.cells #[.int .i64 (j : Int)] 3 (0, 0))
theorem Moved.refl {p j : Nat} {w : World} (h : w.heap[p]? = some (.cells #[.int .i64 (j : Int)] 3 (0, 0))) : Moved p j w w := ⟨rfl, rfl, rfl, rfl, fun _ _ => rfl, h⟩
theorem Moved.trans {p j k : Nat} {a b c : World} (h : Moved p j a b) (g : Moved p k b c) : Moved p k a c :=
  ⟨g.os.trans h.os, g.tape.trans h.tape, g.output.trans h.output, g.size.trans h.size, fun i hi => (g.other i hi).trans (h.other i hi), g.here⟩
theorem Moved.set {p j : Nat} {w : World} (h : w.heap[p]? = some (.cells #[.int .i64 (j : Int)] 3 (0, 0))) (k : Nat) : Moved p k w (w.setCell ⟨p, 0, none⟩ (.int .i64 (k : Int))) :=
  ⟨rfl, rfl, rfl, by simp [World.setCell], fun i hi => Below.heap_setCell w ⟨p, 0, none⟩ _ i hi, setOf h 0 _⟩
theorem Moved.below {p j B : Nat} {w w' : World} (h : Moved p j w w') (hB : B ≤ p) : Below B w w' := ⟨h.os, h.tape, h.output, Nat.le_of_eq h.size.symm, fun k hk => h.other k (by omega)⟩
theorem Moved.bld {p j b : Nat} {l : List UInt8} {w w' : World} (h : Moved p j w w') (hb : Bld b l w) (hp : p < b) : Bld b l w' := hb.above fun k hk _ => h.other k (by omega)

/-- What the closure answers of a sign. -/
def digV (x : UInt8) : Int := Lib.indexByte digsX x
theorem digV_yes {x : UInt8} (h : valX x < 16) : digV x = (valX x : Int) := by rw [digV, digs_index, if_pos h]
theorem digV_no {x : UInt8} (h : ¬ valX x < 16) : digV x = -1 := by rw [digV, digs_index, if_neg h]
theorem digV_dec (x : UInt8) : decide (0 ≤ digV x) = decide (valX x < 16) := by
  by_cases h : valX x < 16
  · rw [digV_yes h, decide_eq_true h]; exact decide_eq_true (by omega)
  · rw [digV_no h, decide_eq_false h]; decide
theorem ib_x (x : UInt8) (w : World) :
    Calls Try.prog 15 #[.string { data := #[48, 49, 50, 51, 52, 53, 54, 55, 56, 57, 65, 66, 67, 68, 69, 70] }, .int .u8 (x.toNat : Int)] w fun e w' => e = .returned (.int .i64 (digV x)) ∧ w = w' :=
  (Try.strings_IndexByte _ _ w).mono fun e w' ⟨he, hw⟩ => ⟨by rw [he, byte_of]; rfl, hw.symm⟩
set_option maxHeartbeats 400000 in
theorem digit_end (p q k : Nat) (l : List UInt8) (w : World) (hp : w.heap[p]? = some (.cells #[.int .i64 (k : Int)] 3 (0, 0))) (hq : w.heap[q]? = some (.cells #[.string (mkS l)] 9 (0, 0))) (hk : k = l.length) :
    Calls Try.prog 14 #[.pointer (some ⟨p, 0, none⟩), .pointer (some ⟨q, 0, none⟩)] w fun e w' => e = .returned (.tuple #[.int .i64 0, .bool false]) ∧ Moved p k w w' := by
  have HM := Lib.hid (Moved.refl hp)
  have hcp := cellOf hp 0
  have hcq := cellOf hq 0
  have hms := mkS_size l
  subst hk
  clear hp hq
  go_enter Try.func14, Try.ntmps14
  go_wp2_with fail
  go_ret2
  exact ⟨rfl, HM.out⟩
set_option maxHeartbeats 400000 in
theorem digit_some (p q k : Nat) (l : List UInt8) (x : UInt8) (w : World) (hp : w.heap[p]? = some (.cells #[.int .i64 (k : Int)] 3 (0, 0))) (hq : w.heap[q]? = some (.cells #[.string (mkS l)] 9 (0, 0))) (hpq : q ≠ p) (hx : l[k]? = some x) (hl : l.length ≤ 1000000000) :
    Calls Try.prog 14 #[.pointer (some ⟨p, 0, none⟩), .pointer (some ⟨q, 0, none⟩)] w fun e w' => e = .returned (.tuple #[.int .i64 (digV x), .bool (decide (valX x < 16))]) ∧ Moved p (k + 1) w w' := by
  have HM := Lib.hid (show Moved p (k + 1) w (w.setCell ⟨p, 0, none⟩ (.int .i64 ((k : Int) + 1))) from Moved.set hp (k + 1))
  have hlt : k < l.length := (List.getElem?_eq_some_iff.1 hx).1
  have hcp := cellOf hp 0
  have hfp := freeOf hp 0
  have hcq := cellOf hq 0
  have hms := mkS_size l
  have hxe : (mkS l)[k]'(by omega) = x := mkS_get (by omega) hx
  have hne : ((k : Int) == (l.length : Int)) = false := beq_eq_false_iff_ne.2 (by omega)
  have hcp2 : (w.setCell ⟨p, 0, none⟩ (.int .i64 ((k : Int) + 1))).cell? ⟨p, 0, none⟩ = some (.int .i64 ((k : Int) + 1)) := by
    have := cellOf (setOf hp 0 (.int .i64 ((k : Int) + 1))) 0
    simpa using this
  have hcq2 : (w.setCell ⟨p, 0, none⟩ (.int .i64 ((k : Int) + 1))).cell? ⟨q, 0, none⟩ = some (.string (mkS l)) := by
    have := cellOf ((Below.heap_setCell w ⟨p, 0, none⟩ (.int .i64 ((k : Int) + 1)) q hpq).trans hq) 0
    simpa using this
  have HD := Lib.hid (digV_dec x)
  clear hp hq hx
  go_enter Try.func14, Try.ntmps14
  go_wp2_with fail
  refine (ib_x x _).mono ?_
  rintro e w1 ⟨rfl, rfl⟩
  go_wp2_with fail
  rw [HD.out]
  go_ret2
  exact ⟨rfl, HM.out⟩

theorem or_dig : ∀ a : Nat, a < 16 → ∀ b : Nat, b < 16 → bits BinOp.or IntKind.i64 ((a : Int) * 16) (b : Int) = 16 * (a : Int) + (b : Int) := by decide +kernel
theorem or_zero : ∀ a : Nat, a < 16 → bits BinOp.or IntKind.i64 0 (a : Int) = (a : Int) := by decide +kernel
/-- What holds in told's loop, of two digits. -/
def TR (p k : Nat) (vx vy : Nat) (w : World) (g : Nat) (b i : Value) (wr : World) : Prop :=
  (g = 2 ∧ i = .int .i64 0 ∧ b = .int .i64 0 ∧ wr = w) ∨ (g = 1 ∧ i = .int .i64 1 ∧ b = .int .i64 (vx : Int) ∧ Moved p (k + 1) w wr) ∨ (g = 0 ∧ i = .int .i64 2 ∧ b = .int .i64 (16 * (vx : Int) + (vy : Int)) ∧ Moved p (k + 2) w wr)
set_option maxHeartbeats 1000000 in
theorem told_yes (p q k : Nat) (l : List UInt8) (x y : UInt8) (w : World) (hp : w.heap[p]? = some (.cells #[.int .i64 (k : Int)] 3 (0, 0))) (hq : w.heap[q]? = some (.cells #[.string (mkS l)] 9 (0, 0))) (hpq : q ≠ p) (hx : l[k]? = some x) (hy : l[k + 1]? = some y) (hl : l.length ≤ 1000000000)
    (vx : valX x < 16) (vy : valX y < 16) :
    Calls Try.prog 17 #[.func (.func 14) #[] #[.pointer (some ⟨p, 0, none⟩), .pointer (some ⟨q, 0, none⟩)]] w fun e w' => e = .returned (.tuple #[.int .u8 ((UInt8.ofNat (16 * valX x + valX y)).toNat : Int), .bool true]) ∧ Moved p (k + 2) w w' := by
  have hd1 := digit_some p q k l x w hp hq hpq hx hl
  rw [digV_yes vx, decide_eq_true vx] at hd1
  have HD1 := Lib.hid hd1
  have HD2 := Lib.hid (fun wr (hm : Moved p (k + 1) w wr) => by
    have h := digit_some p q (k + 1) l y wr hm.here ((hm.other q hpq).trans hq) hpq hy hl
    rw [digV_yes vy, decide_eq_true vy] at h
    exact h)
  have e : ((UInt8.ofNat (16 * valX x + valX y)).toNat : Int) = 16 * (valX x : Int) + (valX y : Int) := by simp; omega
  have HE := Lib.hid e
  generalize valX x = a at HD1 HE vx
  generalize valX y = b at HD2 HE vy
  clear hd1 hp hq hx hy e
  go_enter Try.func17, Try.ntmps17
  go_wp2_with fail
  go_loopg [4, 7] 2 (fun g bv i wr => TR p k a b w g bv i wr)
  case atStart => exact .inl ⟨rfl, rfl, rfl, rfl⟩
  case round =>
    rcases hrel with ⟨rfl, rfl, rfl, rfl⟩ | ⟨rfl, rfl, rfl, hm⟩ | ⟨rfl, rfl, rfl, hm⟩
    · go_wp2_with fail
      refine HD1.out.mono ?_
      rintro e w1 ⟨rfl, hm1⟩
      have HM := Lib.hid hm1
      clear hm1
      go_wp2_with fail
      go_roundg 1
      case measure => omega
      case rel => exact .inr (.inl ⟨rfl, rfl, by rw [or_zero a vx], HM.out⟩)
    · have HD := Lib.hid (HD2.out wr hm)
      have HM := Lib.hid hm
      clear hm
      go_wp2_with fail
      refine HD.out.mono ?_
      rintro e w1 ⟨rfl, hm1⟩
      have HM1 := Lib.hid (HM.out.trans hm1)
      clear hm1
      go_wp2_with fail
      go_roundg 0
      case measure => omega
      case rel => exact .inr (.inr ⟨rfl, rfl, by rw [or_dig a vx b vy], HM1.out⟩)
    · have HM := Lib.hid hm
      clear hm
      go_wp2_with fail
      go_ret2
      exact ⟨by rw [HE.out]; rfl, HM.out⟩

/-- No digit stands there. -/
def NoDig (l : List UInt8) (k : Nat) : Prop := ∀ x, l[k]? = some x → ¬ valX x < 16
theorem digit_no (p q k : Nat) (l : List UInt8) (w : World) (hp : w.heap[p]? = some (.cells #[.int .i64 (k : Int)] 3 (0, 0))) (hq : w.heap[q]? = some (.cells #[.string (mkS l)] 9 (0, 0))) (hpq : q ≠ p) (hk : k ≤ l.length) (hl : l.length ≤ 1000000000) (hn : NoDig l k) :
    ∃ (d : Int) (j : Nat), Calls Try.prog 14 #[.pointer (some ⟨p, 0, none⟩), .pointer (some ⟨q, 0, none⟩)] w fun e w' => e = .returned (.tuple #[.int .i64 d, .bool false]) ∧ Moved p j w w' := by
  rcases Nat.lt_or_ge k l.length with hlt | hge
  · have hx : l[k]? = some l[k] := List.getElem?_eq_getElem hlt
    have h := digit_some p q k l _ w hp hq hpq hx hl
    rw [decide_eq_false (hn _ hx)] at h
    exact ⟨_, _, h⟩
  · exact ⟨_, _, digit_end p q k l w hp hq (by omega)⟩
def ToldNo (p : Nat) (w : World) (e : Ending) (w' : World) : Prop := e = .returned (.tuple #[.int .u8 0, .bool false]) ∧ ∃ j, Moved p j w w'
set_option maxHeartbeats 1000000 in
theorem told_no1 (p q k : Nat) (l : List UInt8) (w : World) (hp : w.heap[p]? = some (.cells #[.int .i64 (k : Int)] 3 (0, 0))) (hq : w.heap[q]? = some (.cells #[.string (mkS l)] 9 (0, 0))) (hpq : q ≠ p) (hk : k ≤ l.length) (hl : l.length ≤ 1000000000) (hn : NoDig l k) :
    Calls Try.prog 17 #[.func (.func 14) #[] #[.pointer (some ⟨p, 0, none⟩), .pointer (some ⟨q, 0, none⟩)]] w (ToldNo p w) := by
  obtain ⟨d, j, hd⟩ := digit_no p q k l w hp hq hpq hk hl hn
  have HD := Lib.hid hd
  clear hd hp hq hn
  go_enter Try.func17, Try.ntmps17
  go_wp2_with fail
  go_loopg [4, 7] 0 (fun g bv i wr => g = 0 ∧ i = .int .i64 0 ∧ bv = .int .i64 0 ∧ wr = w)
  case atStart => exact ⟨rfl, rfl, rfl, rfl⟩
  case round =>
    obtain ⟨rfl, rfl, rfl, rfl⟩ := hrel
    go_wp2_with fail
    refine HD.out.mono ?_
    rintro e w1 ⟨rfl, hm1⟩
    have HM := Lib.hid hm1
    clear hm1
    go_wp2_with fail
    go_ret2
    exact ⟨rfl, _, HM.out⟩
/-- What holds in told's loop, of one digit alone. -/
def TQ (p k : Nat) (vx : Nat) (w : World) (g : Nat) (b i : Value) (wr : World) : Prop :=
  (g = 1 ∧ i = .int .i64 0 ∧ b = .int .i64 0 ∧ wr = w) ∨ (g = 0 ∧ i = .int .i64 1 ∧ b = .int .i64 (vx : Int) ∧ Moved p (k + 1) w wr)
set_option maxHeartbeats 1000000 in
theorem told_no2 (p q k : Nat) (l : List UInt8) (x : UInt8) (w : World) (hp : w.heap[p]? = some (.cells #[.int .i64 (k : Int)] 3 (0, 0))) (hq : w.heap[q]? = some (.cells #[.string (mkS l)] 9 (0, 0))) (hpq : q ≠ p) (hx : l[k]? = some x) (vx : valX x < 16) (hl : l.length ≤ 1000000000) (hn : NoDig l (k + 1)) :
    Calls Try.prog 17 #[.func (.func 14) #[] #[.pointer (some ⟨p, 0, none⟩), .pointer (some ⟨q, 0, none⟩)]] w (ToldNo p w) := by
  have hd1 := digit_some p q k l x w hp hq hpq hx hl
  rw [digV_yes vx, decide_eq_true vx] at hd1
  have HD1 := Lib.hid hd1
  have hlt := (List.getElem?_eq_some_iff.1 hx).1
  have HD2 := Lib.hid (fun wr (hm : Moved p (k + 1) w wr) => digit_no p q (k + 1) l wr hm.here ((hm.other q hpq).trans hq) hpq (by omega) hl hn)
  generalize valX x = a at HD1 vx
  clear hd1 hp hq hx hn
  go_enter Try.func17, Try.ntmps17
  go_wp2_with fail
  go_loopg [4, 7] 1 (fun g bv i wr => TQ p k a w g bv i wr)
  case atStart => exact .inl ⟨rfl, rfl, rfl, rfl⟩
  case round =>
    rcases hrel with ⟨rfl, rfl, rfl, rfl⟩ | ⟨rfl, rfl, rfl, hm⟩
    · go_wp2_with fail
      refine HD1.out.mono ?_
      rintro e w1 ⟨rfl, hm1⟩
      have HM := Lib.hid hm1
      clear hm1
      go_wp2_with fail
      go_roundg 0
      case measure => omega
      case rel => exact .inr ⟨rfl, rfl, by rw [or_zero a vx], HM.out⟩
    · obtain ⟨d, j, hd⟩ := HD2.out wr hm
      have HD := Lib.hid hd
      have HM := Lib.hid hm
      clear hm hd
      go_wp2_with fail
      refine HD.out.mono ?_
      rintro e w1 ⟨rfl, hm1⟩
      have HM1 := Lib.hid (HM.out.trans hm1)
      clear hm1
      go_wp2_with fail
      go_ret2
      exact ⟨rfl, _, HM1.out⟩
/-- Two digits stand there. -/
def TwoDigs (l : List UInt8) (k : Nat) : Prop := ∃ x y, l[k]? = some x ∧ l[k + 1]? = some y ∧ valX x < 16 ∧ valX y < 16
theorem told_no (p q k : Nat) (l : List UInt8) (w : World) (hp : w.heap[p]? = some (.cells #[.int .i64 (k : Int)] 3 (0, 0))) (hq : w.heap[q]? = some (.cells #[.string (mkS l)] 9 (0, 0))) (hpq : q ≠ p) (hk : k ≤ l.length) (hl : l.length ≤ 1000000000) (hn : ¬ TwoDigs l k) :
    Calls Try.prog 17 #[.func (.func 14) #[] #[.pointer (some ⟨p, 0, none⟩), .pointer (some ⟨q, 0, none⟩)]] w (ToldNo p w) := by
  by_cases h : NoDig l k
  · exact told_no1 p q k l w hp hq hpq hk hl h
  · obtain ⟨x, hx⟩ := Classical.not_forall.1 h
    obtain ⟨hx, hv⟩ := Classical.not_imp.1 hx
    have hv := Classical.not_not.1 hv
    exact told_no2 p q k l x w hp hq hpq hx hv hl fun y hy vy => hn ⟨x, y, hx, hy, hv, vy⟩
end Go.Proofs.Ythnjofgeghpdoaa
