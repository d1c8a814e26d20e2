import Derived.Test.YtojpkbonioglbaaGreatDoorMaRtP
import Derived.Test.YtojpkbonioglbaaGreatDoorRpHead
import Derived.Test.YtojpkbonioglbaaGreatDoorMaDate
import Derived.Test.YtojpkbonioglbaaGreatDoorMaPtB
import Derived.Test.YtojpkbonioglbaaGreatDoorMaPaD
namespace Go.Proofs.YtojpkbonioglbaaGreatDoor.E.T
set_option maxRecDepth 100000
open Go.RowKit Go.Shelf
set_option maxHeartbeats 1000000 in
theorem within_x (n a b : Int) (w : World) : Calls Tryz.prog 26 #[.int .i64 n, .int .i64 a, .int .i64 b] w fun e w' => e = .returned (.bool (inR n a b)) ∧ w = w' := by
 unfold inR
 rcases Bool.eq_false_or_eq_true (decide (a ≤ n)) with h | h
 all_goals
  rw [h]
  go_enter Tryz.func26, Tryz.ntmps26
  go_wp2_with fail
  go_ret
  exact ⟨rfl, rfl⟩
def clsF (s : Txt) : Option Value := (clsK s).map fun n => .int .i64 n
set_option maxHeartbeats 4000000 in
theorem classes_x (w : World) : Calls Tryz.prog 37 #[] w fun e w' => ∃ M, e = .returned (.map (some M)) ∧ Below w.heap.size w w' ∧ MapIs w' M 4 clsF := by
 have hmm := @run_makeMap Tryz.prog
 have h0 := MapIs.made w
 have hb0 : Below w.heap.size w (w.alloc (.map #[] 0)) := below_box w _
 obtain ⟨w1, r1, m1, g1⟩ := h0.put Tryz.underlying80 (by omega) (k := kDel) (by decide) (.int .i64 4)
 obtain ⟨w2, r2, m2, g2⟩ := m1.put Tryz.underlying80 (by omega) (k := kFai) (by decide) (.int .i64 5)
 obtain ⟨w3, r3, m3, g3⟩ := m2.put Tryz.underlying80 (by omega) (k := kDlv) (by decide) (.int .i64 2)
 obtain ⟨w4, r4, m4, g4⟩ := m3.put Tryz.underlying80 (by omega) (k := kRly) (by decide) (.int .i64 2)
 rw [show mkS kDel = { data := #[100, 101, 108, 97, 121, 101, 100] } from rfl] at r1
 rw [show mkS kFai = { data := #[102, 97, 105, 108, 101, 100] } from rfl] at r2
 rw [show mkS kDlv = { data := #[100, 101, 108, 105, 118, 101, 114, 101, 100] } from rfl] at r3
 rw [show mkS kRly = { data := #[114, 101, 108, 97, 121, 101, 100] } from rfl] at r4
 have HB := Lib.hid (show Below w.heap.size w w4 by
  have s0 : w.heap.size ≤ (w.alloc (.map #[] 0)).heap.size := by simp
  have s1 := g1.size; have s2 := g2.size; have s3 := g3.size
  exact (((hb0.grown g1 (by omega) (fun k e => by cases e; omega)).grown g2 (by omega) (fun k e => by cases e; omega)).grown g3 (by omega) (fun k e => by cases e; omega)).grown g4 (by omega) (fun k e => by cases e; omega))
 have HM := Lib.hid (m4.congr (g := clsF) (fun s => by
  unfold clsF clsK updF
  by_cases h1 : s = kRly
  ·rw [if_pos h1, if_pos h1]; rfl
  rw [if_neg h1, if_neg h1]
  by_cases h2 : s = kDlv
  ·rw [if_pos h2, if_pos h2]; rfl
  rw [if_neg h2, if_neg h2]
  by_cases h3 : s = kFai
  ·rw [if_pos h3, if_pos h3]; rfl
  rw [if_neg h3, if_neg h3]
  by_cases h4 : s = kDel
  ·rw [if_pos h4, if_pos h4]; rfl
  rw [if_neg h4, if_neg h4]; rfl))
 clear m1 m2 m3 m4 g1 g2 g3 g4 hb0 h0
 go_enter Tryz.func37, Tryz.ntmps37
 go_wp2_with fail
 go_ret
 exact ⟨w.heap.size, rfl, HB.out, HM.out⟩
set_option maxHeartbeats 1000000 in
theorem timed_x (t : Int) (w : World) (h0 : 0 ≤ t) (hR : Ready w) : Calls Tryz.prog 54 #[.int .i64 t] w fun e w' => e = .returned (.string (mkS (tmL t))) ∧ Below w.heap.size w w' := by
 have HP := Lib.hid (print_x (min t 253402300799) w hR)
 unfold PrintPost at HP
 have HE := Lib.hid (show printE (min t 253402300799) = 0 by unfold printE timB; rw [if_pos]; simp; omega)
 rw [HE.out] at HP
 unfold tmL
 generalize printS (min t 253402300799) = s at HP
 rcases Int.le_total t 253402300799 with h | h
 ·have e1 : min t 253402300799 = t := Int.min_eq_left h
  rw [e1] at HP
  go_enter Tryz.func54, Tryz.ntmps54
  go_wp2_with fail
  refine HP.out.mono ?_
  rintro e w' ⟨rfl, hb⟩
  go_wp2_with fail
  go_ret
  exact ⟨rfl, hb⟩
 ·have e1 : min t 253402300799 = 253402300799 := Int.min_eq_right h
  rw [e1] at HP
  go_enter Tryz.func54, Tryz.ntmps54
  go_wp2_with fail
  refine HP.out.mono ?_
  rintro e w' ⟨rfl, hb⟩
  go_wp2_with fail
  go_ret
  exact ⟨rfl, hb⟩
set_option maxHeartbeats 1000000 in
theorem printed_x (p : P.Pth) (w : World) (h : P.rightE p = 0) : Calls Tryz.prog 53 #[.agg #[.string (mkS p.1), .string (mkS p.2)]] w fun e w' => e = .returned (.string (mkS (P.textL p))) ∧ Below w.heap.size w w' := by
 have hl := (P.right_ok h).1
 unfold P.longB at hl
 simp at hl
 have HP := Lib.hid (fun w => P.print_x p w (by omega) (by omega))
 unfold P.PrPost at HP
 have HV := Lib.hid (show P.printV p = P.textL p by unfold P.printV; rw [if_pos h])
 rw [HV.out, h] at HP
 have HB := Lib.hid (below_box w (.cells #[.string (mkS p.1), .string (mkS p.2)] 27))
 generalize P.textL p = s at HP
 clear hl h HV
 go_enter Tryz.func53, Tryz.ntmps53
 go_wp2_with fail
 refine (HP.out _).mono ?_
 rintro e w' ⟨rfl, hb⟩
 have HB2 := Lib.hid (below_next HB.out hb)
 clear hb HB
 go_wp2_with fail
 go_ret
 exact ⟨rfl, HB2.out⟩
end Go.Proofs.YtojpkbonioglbaaGreatDoor.E.T
namespace Go.Proofs.YtojpkbonioglbaaGreatDoor.E.T
set_option maxRecDepth 100000
open Go.RowKit Go.Maps Go.ChangeMaps
def Nm (n : Int) : Prop := -9223372036854775808 ≤ n ∧ n ≤ 9223372036854775807
theorem nm_wf {n : Int} (h : Nm n) : (Lit.int .i64 n).wf = true := by
 obtain ⟨h1, h2⟩ := h
 show (decide (IntKind.i64.min ≤ n) && decide (n ≤ IntKind.i64.max)) = true
 have e1 : IntKind.i64.min = -9223372036854775808 := by decide
 have e2 : IntKind.i64.max = 9223372036854775807 := by decide
 rw [e1, e2, Bool.and_eq_true, decide_eq_true_eq, decide_eq_true_eq]
 exact ⟨h1, h2⟩
def SetIs (w : World) (b n : Nat) (f : Int → Option Value) : Prop :=
 ∃ D : DataW Value, w.ownsMap Tryz.prog 3 valR b n D ∧ ∀ k : Int, Maps.has D (.int .i64 k) = (f k).isSome ∧ ∀ z, D.atKey (.int .i64 k) z = match f k with | some v => .held v | none => z
def updI (f : Int → Option Value) (k : Int) (v : Value) : Int → Option Value := fun k' => if k' = k then some v else f k'
theorem lawI : Keyed Tryz.prog 3 := int_keyed Tryz.underlying3
theorem keyI {n : Int} (hn : Nm n) : keyOf Tryz.prog 3 (.int .i64 n) = some (.int .i64 n) := keyOf_int_mk Tryz.underlying3 (nm_wf hn)
theorem SetIs.made (w : World) : SetIs (w.alloc (.map #[] 0)) w.heap.size 0 fun _ => none := ⟨_, World.ownsMap_made w _ _ _, fun _ => ⟨rfl, fun _ => rfl⟩⟩
theorem SetIs.lt {w : World} {b n : Nat} {f : Int → Option Value} (h : SetIs w b n f) : b < w.heap.size := by
 obtain ⟨D, h1, _⟩ := h
 exact h1.lt
theorem SetIs.block {w w' : World} {b n : Nat} {f : Int → Option Value} (h : SetIs w b n f) (hb : w'.heap[b]? = w.heap[b]?) : SetIs w' b n f := by
 obtain ⟨D, ⟨es, clock, h0, r⟩, h2⟩ := h
 exact ⟨D, ⟨es, clock, hb.trans h0, r⟩, h2⟩
theorem SetIs.congr {w : World} {b n : Nat} {f g : Int → Option Value} (h : SetIs w b n f) (e : ∀ k, f k = g k) : SetIs w b n g := (funext e : f = g) ▸ h
theorem SetIs.isMap {w : World} {b n : Nat} {f : Int → Option Value} (h : SetIs w b n f) : ∃ es clock, w.heap[b]? = some (.map es clock) := by
 obtain ⟨D, ⟨es, clock, h0, r⟩, h2⟩ := h
 exact ⟨es, clock, h0⟩
theorem SetIs.put {w : World} {b n : Nat} {f : Int → Option Value} (h : SetIs w b n f) {t e : TypeId} (ht : Tryz.prog.underlying t = some (.map 3 e)) (hn : n ≤ 1000000000000) {k : Int} (hk : Nm k) (v : Value) :
  ∃ w', (Instr.mapUpdate t (.map (some b)) (.int .i64 k) v).run Tryz.prog w = .ok () w' ∧ SetIs w' b (n + 1) (updI f k v) ∧ w.grownBy w' (some b) := by
 obtain ⟨D, h1, h2⟩ := h
 obtain ⟨w', e1, e2, e3⟩ := h1.update lawI ht (by unfold maxLen; omega) (keyI hk) (show valR v = some (.held v, []) from rfl)
 refine ⟨w', e1, ⟨_, e2, fun k' => ?_⟩, e3⟩
 have hI := h1.isMap
 by_cases he : k' = k
 ·subst he
  have hkl : WideAt.IsKeyLit (.int .i64 k') := by simp [WideAt.IsKeyLit]
  rw [updI, if_pos rfl]
  exact ⟨has_put_same hI hkl _, fun z => atKey_put_same hI hkl _ z⟩
 ·have hne : (Lit.int .i64 k') ≠ .int .i64 k := fun e => he (by injection e)
  rw [updI, if_neg he, has_put_other hne]
  refine ⟨(h2 k').1, fun z => ?_⟩
  rw [atKey_put_other hne]
  exact (h2 k').2 z
theorem SetIs.look_ok {w : World} {b n : Nat} {f : Int → Option Value} (h : SetIs w b n f) {t e : TypeId} (ht : Tryz.prog.underlying t = some (.map 3 e)) {z : Value} (hz : (zeroValue e).run Tryz.prog w = .ok z w) {k : Int} (hk : Nm k) :
  (Instr.lookup t (.map (some b)) (.int .i64 k) true).run Tryz.prog w = .ok (.tuple #[(f k).getD z, .bool (f k).isSome]) w := by
 obtain ⟨D, h1, h2⟩ := h
 obtain ⟨v, ps, e1, e2⟩ := h1.look_ok lawI ht hz (show valR z = some (.held z, []) from rfl) (keyI hk)
 rw [e1, (h2 k).1]
 rw [(h2 k).2] at e2
 cases hf : f k <;> rw [hf] at e2 <;> simp only [valR, Option.some.injEq, Prod.mk.injEq, DataW.held.injEq] at e2
 ·rw [e2.1]; rfl
 ·rw [e2.1]; rfl
def unitV : Value := .agg #[]
def inS (S : List Nat) : Int → Option Value := fun k => if S.any (fun n => (n : Int) == k) then some unitV else none
theorem inS_more (S : List Nat) (n : Nat) (k : Int) : updI (inS S) n unitV k = inS (S ++ [n]) k := by
 unfold updI inS
 rw [List.any_append]
 by_cases h : k = n
 ·rw [if_pos h, if_pos]
  simp [h]
 ·rw [if_neg h]
  have e : ((n : Int) == k) = false := by simpa using fun e => h e.symm
  simp [e]
structure US (b m c : Nat) (S : List Nat) (w : World) : Prop where
 box : w.heap[b]? = some (.cells #[.map (some m)] 58 (0, 0))
 set : SetIs w m c (inS S)
theorem US.ne {b m c : Nat} {S : List Nat} {w : World} (h : US b m c S w) : b ≠ m := fun e => by
 obtain ⟨es, cl, hm⟩ := h.set.isMap
 rw [← e, h.box] at hm
 cases hm
set_option maxHeartbeats 2000000 in
theorem use_x (n b m c : Nat) (S : List Nat) (w : World) (h : US b m c S w) (hc : c ≤ 1000000000) (hn : n ≤ 1000000000000) : Calls Tryz.prog 19 #[.int .i64 (n : Int), .pointer (some ⟨b, 0, none⟩)] w fun e w' => e = .returned (.tuple #[]) ∧ US b m (c + 1) (S ++ [n]) w' ∧ w.grownBy w' (some m) := by
 obtain ⟨w1, r1, m1, g1⟩ := h.set.put Tryz.underlying58 (by omega) (k := (n : Int)) ⟨by omega, by omega⟩ unitV
 rw [show unitV = Value.agg #[] from rfl] at r1
 have HU := Lib.hid (show US b m (c + 1) (S ++ [n]) w1 from ⟨(g1.block _ (ltOf h.box) (fun e => h.ne (by injection e))).trans h.box, m1.congr (inS_more S n)⟩)
 have HG := Lib.hid g1
 have c0 : w.cell? ⟨b, 0, none⟩ = some (.map (some m)) := cellOf h.box 0
 clear h m1 g1
 go_enter Tryz.func19, Tryz.ntmps19
 go_wp2_with fail
 go_end0
 exact ⟨rfl, HU.out, HG.out⟩
end Go.Proofs.YtojpkbonioglbaaGreatDoor.E.T
namespace Go.Proofs.YtojpkbonioglbaaGreatDoor.E.T
set_option maxRecDepth 100000
open Go.RowKit Go.Shelf
theorem beg_no {f n : Nat} {t : Txt} {k : Nat} {b : UInt8} (hx : t[k]? = some b) (h : digB b = false ∨ (n = 0 ∧ b = 48)) : begL f n (t.drop k) = [] := by
 obtain ⟨hk, rfl⟩ := List.getElem?_eq_some_iff.1 hx
 rw [List.drop_eq_getElem_cons hk]
 cases f with
 | zero => rfl
 | succ f => rw [begL, if_pos h]
theorem beg_yes {f n : Nat} {t : Txt} {k : Nat} {b : UInt8} (hx : t[k]? = some b) (h : ¬ (digB b = false ∨ (n = 0 ∧ b = 48))) : begL (f + 1) n (t.drop k) = (n * 10 + (b.toNat - 48)) :: begL f (n * 10 + (b.toNat - 48)) (t.drop (k + 1)) := by
 obtain ⟨hk, rfl⟩ := List.getElem?_eq_some_iff.1 hx
 rw [List.drop_eq_getElem_cons hk, begL, if_neg h]
theorem dig_in (b : UInt8) : inR ((b.toNat : Int) - 48) 0 9 = digB b := by
 have := P.all_bytes (P := fun b => inR ((b.toNat : Int) - 48) 0 9 == digB b) (by decide +kernel) b
 simpa using this
theorem dig_0 (b : UInt8) : (((b.toNat : Int) - 48) == 0) = (b == 48) := by
 have := P.all_bytes (P := fun b => (((b.toNat : Int) - 48) == 0) == (b == 48)) (by decide +kernel) b
 simpa using this
theorem grown_refl (w : World) (o : Option Nat) : w.grownBy w o := ⟨rfl, rfl, rfl, Nat.le_refl _, fun _ _ _ => rfl⟩
theorem grown_trans {a b c : World} {o : Option Nat} (h : a.grownBy b o) (k : b.grownBy c o) : a.grownBy c o := ⟨k.os.trans h.os, k.tape.trans h.tape, k.output.trans h.output, Nat.le_trans h.size k.size, fun i hi hne => (k.block i (Nat.lt_of_lt_of_le hi h.size) hne).trans (h.block i hi hne)⟩
theorem beg_end {f n k : Nat} {t : Txt} (h : f = 0 ∨ k = t.length) : begL f n (t.drop k) = [] := by
 rcases h with rfl | rfl
 ·rfl
 ·rw [List.drop_of_length_le (Nat.le_refl _)]
  cases f <;> rfl
set_option maxHeartbeats 4000000 in
theorem begun_x (t : Txt) (b m c : Nat) (S : List Nat) (w : World) (h : US b m c S w) (hc : c ≤ 900000000) : Calls Tryz.prog 21 #[.string (mkS t), .func (.func 19) #[] #[.pointer (some ⟨b, 0, none⟩)]] w fun e w' => e = .returned (.tuple #[]) ∧ US b m (c + (begL 10 0 t).length) (S ++ begL 10 0 t) w' ∧ w.grownBy w' (some m) := by
 have hms := mkS_size t
 have HU := Lib.hid h
 have HW := Lib.hid within_x
 obtain ⟨L, hL⟩ : ∃ L, L = min t.length 10 := ⟨_, rfl⟩
 have e1 : min (t.length : Int) 10 = (L : Int) := by omega
 have HL := Lib.hid (show L ≤ t.length ∧ L ≤ 10 ∧ (L = t.length ∨ L = 10) by omega)
 have hL10 : L ≤ 10 := by omega
 clear hL h
 go_enter Tryz.func21, Tryz.ntmps21
 go_wp2_with fail
 go_loopw [4, 10] (fun v i wr => ∃ (k n : Nat) (D : List Nat), k ≤ L ∧ v = .int .i64 n ∧ i = .int .i64 k ∧ n < 10000000000 ∧ Hid (begL 10 0 t = D ++ begL (10 - k) n (t.drop k) ∧ D.length ≤ k ∧ n < 10 ^ k ∧ US b m (c + D.length) (S ++ D) wr ∧ w.grownBy wr (some m))) (fun _ i _ => L - (intOf i).toNat)
 case atStart => exact ⟨0, 0, [], Nat.zero_le _, rfl, rfl, by decide, Lib.hid ⟨rfl, Nat.le_refl _, by decide, by simpa using HU.out, grown_refl _ _⟩⟩
 case round =>
  obtain ⟨k, n, D, hk, rfl, rfl, hn10, HR⟩ := hrel
  by_cases hlt : k < L
  ·obtain ⟨x, hx⟩ : ∃ x, t[k]? = some x := ⟨_, List.getElem?_eq_getElem (by have := HL.out; omega)⟩
   have hks : k < (mkS t).size := by rw [hms]; have := HL.out; omega
   have hx2 : (mkS t)[k]'hks = x := mkS_get hks hx
   have HX := Lib.hid hx
   have w0 : IntKind.i64.wrap (x.toNat : Int) = (x.toNat : Int) := IntWalk.i64_in _ (by have := x.toNat_lt; omega)
   have w48 : IntKind.i64.wrap ((x.toNat : Int) - 48) = (x.toNat : Int) - 48 := IntWalk.i64_in _ (by have := x.toNat_lt; omega)
   have HD := Lib.hid (dig_in x)
   have h0 := dig_0 x
   clear hx
   cases hd : digB x
   ·have HN := Lib.hid (beg_no (f := 10 - k) (n := n) HX.out (.inl hd))
    go_wp2_with fail
    refine (HW.out _ _ _ _).mono ?_
    rintro e w' ⟨rfl, rfl⟩
    rw [HD.out, hd]
    go_wp2_with fail
    refine bodyPost_ret (results_none rfl _ _ _) rfl ?_
    have e2 := HR.out.1
    rw [HN.out, List.append_nil] at e2
    exact ⟨rfl, by rw [e2]; exact HR.out.2.2.2.1, HR.out.2.2.2.2⟩
   by_cases hz : n = 0
   ·subst hz
    cases h48 : (x == 48)
    ·have hzz : ¬ (digB x = false ∨ ((0 : Nat) = 0 ∧ x = 48)) := by
      rintro (e | ⟨_, e⟩)
      ·rw [hd] at e; cases e
      ·rw [e] at h48; cases h48
     have hb := dig_bd hd
     obtain ⟨d, hdd⟩ : ∃ d : Nat, (x.toNat : Int) - 48 = (d : Int) := ⟨x.toNat - 48, by omega⟩
     have w48b : IntKind.i64.wrap ((x.toNat : Int) - 48) = (d : Int) := w48.trans hdd
     have wd : IntKind.i64.wrap (d : Int) = (d : Int) := IntWalk.i64_in _ (by omega)
     have HD2 := HD.out
     rw [hdd] at HD2 h0
     rw [h48] at h0
     have HY := Lib.hid (show begL (9 - k + 1) 0 (t.drop k) = d :: begL (9 - k) d (t.drop (k + 1)) by
      have h1 := beg_yes (f := 9 - k) (n := 0) HX.out hzz
      rw [show 0 * 10 + (x.toNat - 48) = d by omega] at h1
      exact h1)
     have HP := Lib.hid (show d < 10 ^ (k + 1) ∧ d < 10 by
      have h1 : 10 ^ 1 ≤ 10 ^ (k + 1) := Nat.pow_le_pow_right (by decide) (by omega)
      have h2 : (10 : Nat) ^ 1 = 10 := by decide
      omega)
     have HDD := Lib.hid HD2
     clear hzz hb w48 hdd h48 HD HD2
     go_wp2_with fail
     refine (HW.out _ _ _ _).mono ?_
     rintro e w' ⟨rfl, rfl⟩
     rw [HDD.out, hd]
     go_wp2_with fail
     refine (use_x d b m (c + D.length) (S ++ D) _ HR.out.2.2.2.1 (by have := HR.out.2.1; omega) (by have := HP.out; omega)).mono ?_
     rintro e w2 ⟨rfl, hu, hg⟩
     have HU2 := Lib.hid (And.intro hu hg)
     clear hu hg wd w48b
     go_wp2_with fail
     go_roundw
     case rel => exact ⟨k + 1, d, D ++ [d], by omega, rfl, by go_num, by have := HP.out; omega, Lib.hid ⟨by rw [HR.out.1, show 10 - k = 9 - k + 1 by omega, HY.out, show 10 - (k + 1) = 9 - k by omega]; simp, by simp; have := HR.out.2.1; omega, HP.out.1, by have := HU2.out.1; simpa [Nat.add_assoc] using this, grown_trans HR.out.2.2.2.2 HU2.out.2⟩⟩
     case measure => simp [intOf]; omega
    ·have HN := Lib.hid (beg_no (f := 10 - k) (n := 0) HX.out (.inr ⟨rfl, eq_of_beq h48⟩))
     rw [h48] at h0
     go_wp2_with fail
     refine (HW.out _ _ _ _).mono ?_
     rintro e w' ⟨rfl, rfl⟩
     rw [HD.out, hd]
     go_wp2_with fail
     refine bodyPost_ret (results_none rfl _ _ _) rfl ?_
     have e2 := HR.out.1
     rw [HN.out, List.append_nil] at e2
     exact ⟨rfl, by rw [e2]; exact HR.out.2.2.2.1, HR.out.2.2.2.2⟩
   ·have hzz : ¬ (digB x = false ∨ (n = 0 ∧ x = 48)) := by
     rintro (e | ⟨e, _⟩)
     ·rw [hd] at e; cases e
     ·exact hz e
    have hn0 : ((n : Int) == 0) = false := by simpa using hz
    have hb := dig_bd hd
    clear hz
    have h6 : IntKind.i64.wrap ((n : Int) * 10) = (n : Int) * 10 := IntWalk.i64_in _ (by omega)
    have h7 : IntKind.i64.wrap ((n : Int) * 10 + ((x.toNat : Int) - 48)) = ((n * 10 + (x.toNat - 48) : Nat) : Int) := (IntWalk.i64_in _ (by omega)).trans (by omega)
    have HY := Lib.hid (beg_yes (f := 10 - (k + 1)) (n := n) HX.out hzz)
    have HP := Lib.hid (show n * 10 + (x.toNat - 48) < 10 ^ (k + 1) by have := HR.out.2.2.1; rw [Nat.pow_succ]; omega)
    have HP2 := Lib.hid (show n * 10 + (x.toNat - 48) < 10000000000 by
     have h8 := HP.out
     have h9 : 10 ^ (k + 1) ≤ 10 ^ 10 := Nat.pow_le_pow_right (by decide) (by omega)
     have h10 : (10 : Nat) ^ 10 = 10000000000 := by decide
     omega)
    generalize n * 10 + (x.toNat - 48) = n' at h7 HY HP HP2
    clear hzz hb
    go_wp2_with fail
    refine (HW.out _ _ _ _).mono ?_
    rintro e w' ⟨rfl, rfl⟩
    rw [HD.out, hd]
    go_wp2_with fail
    refine (use_x n' b m (c + D.length) (S ++ D) _ HR.out.2.2.2.1 (by have := HR.out.2.1; omega) (by have := HP2.out; omega)).mono ?_
    rintro e w2 ⟨rfl, hu, hg⟩
    have HU2 := Lib.hid (And.intro hu hg)
    clear hu hg h6 h7
    go_wp2_with fail
    go_roundw
    case rel => exact ⟨k + 1, n', D ++ [n'], by omega, rfl, by go_num, HP2.out, Lib.hid ⟨by rw [HR.out.1, show 10 - k = 10 - (k + 1) + 1 by omega, HY.out]; simp, by simp; have := HR.out.2.1; omega, HP.out, by have := HU2.out.1; simpa [Nat.add_assoc] using this, grown_trans HR.out.2.2.2.2 HU2.out.2⟩⟩
    case measure => simp [intOf]; omega
  ·have hke : k = L := by omega
   have HN := Lib.hid (beg_end (f := 10 - k) (n := n) (k := k) (t := t) (by have := HL.out; omega))
   clear hke
   go_wp2_with fail
   go_end0
   have e2 := HR.out.1
   rw [HN.out, List.append_nil] at e2
   exact ⟨rfl, by rw [e2]; exact HR.out.2.2.2.1, HR.out.2.2.2.2⟩
end Go.Proofs.YtojpkbonioglbaaGreatDoor.E.T
