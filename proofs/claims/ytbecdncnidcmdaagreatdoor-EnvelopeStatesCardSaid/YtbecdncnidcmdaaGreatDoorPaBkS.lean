/-
  What may be told is printed, and read it is the same; are the texts short?
-/
import Derived.Test.YtbecdncnidcmdaaGreatDoorPaOrd
import Derived.Test.YtbecdncnidcmdaaGreatDoorPaEq
import Derived.Test.YtbecdncnidcmdaaGreatDoorPaPM
import Derived.Test.YtbecdncnidcmdaaGreatDoorPaPR
import Derived.Test.YtbecdncnidcmdaaGreatDoorPaPrM
import Derived.Test.YtbecdncnidcmdaaGreatDoorPaPrR
namespace Go.Proofs.YtbecdncnidcmdaaGreatDoor
set_option maxRecDepth 100000
open Go.RowKit Go.Shelf
theorem wordsL_le : ∀ ws : List Wd, (wordsL ws).length ≤ ws.length
  | [] => Nat.le_refl _
  | (b, k, v) :: r => by
    have ih := wordsL_le r
    rw [wordsL]
    split <;> simp <;> omega
theorem join_le {ws : List Wd} {n : Nat} (h : ∀ t ∈ ws, t.2.1.length + 1 + t.2.2.length ≤ n) : (joinC 32 (wordsL ws)).length ≤ ws.length + ws.length * n := by
  have h1 := joinC_len 32 (wordsL ws)
  have h2 := wordsL_le ws
  have h3 := lens_le (wordsL ws) n fun x hx => by
    obtain ⟨t, ht, _, rfl⟩ := wordsL_mem hx
    have := h t ht
    simp only [List.length_append, List.length_cons, List.length_nil]
    omega
  have h4 := Nat.mul_le_mul_right n h2
  omega
theorem printM_len {m : ML} (h : rightM m = 0) : (printM m).length ≤ 1000000 := by
  have hF := fits h
  have hl1 := itoa_len hF.sz.1 hF.sz.2
  have hl2 := itoa_len hF.fo.1 hF.fo.2
  have hl3 := itoa_len hF.by_.1 hF.by_.2
  have hl4 := itoa_len hF.pr.1 hF.pr.2
  have hl5 : (X.encX m.env).length ≤ 300 := by have := (X.encX_len m.env).2; have := hF.env; omega
  have hl6 := printS_le m.un
  have hl7 := hF.body
  have hl8 := hF.ret
  have hl9 := hF.mode
  rw [printM, if_pos h]
  have := join_le (ws := wdM m) (n := 1000) (by
    unfold wdM
    simp only [List.mem_cons, List.not_mem_nil, or_false, forall_eq_or_imp, forall_eq]
    simp [kSIZE, kBODY, kRET, kENV, kHF, kHU, kBY, kPR]
    omega)
  have h8 : (wdM m).length = 8 := rfl
  rw [h8] at this
  omega
theorem printR_len {r : RL} (h : rightR r = 0) : (printR r).length ≤ 1000000 := by
  obtain ⟨hl1, hl2⟩ := rightR_len h
  have hl3 := namesV_len r.no
  have hl4 := (X.encX_len r.oc).2
  rw [printR, if_pos h]
  have := join_le (ws := wdR r) (n := 2000) (by
    unfold wdR
    simp only [List.mem_cons, List.not_mem_nil, or_false, forall_eq_or_imp, forall_eq]
    simp [kNO, kOR]
    omega)
  have h8 : (wdR r).length = 2 := rfl
  rw [h8] at this
  omega
/-- What may be told is printed, and read it is the same. -/
theorem back_m {m : ML} (h : rightM m = 0) : (∀ w, Ready w → Calls Tryz.prog 240 #[.agg #[.bool m.hs, .bool m.hf, .bool m.hu, .bool m.hb, .bool m.hp, .int .i64 m.sz, .int .i64 m.fo, .int .i64 m.un, .int .i64 m.by_, .int .i64 m.pr, .string (mkS m.body), .string (mkS m.ret), .string (mkS m.env), .string (mkS m.mode)]] w fun e w' => e = .returned (.tuple #[.string (mkS (printM m)), .int .i64 0]) ∧ Below w.heap.size w w') ∧
    (∀ w, Ready w → Calls Tryz.prog 250 #[.string (mkS (printM m))] w fun e w' => e = .returned (.tuple #[.agg #[.bool m.hs, .bool m.hf, .bool m.hu, .bool m.hb, .bool m.hp, .int .i64 m.sz, .int .i64 m.fo, .int .i64 m.un, .int .i64 m.by_, .int .i64 m.pr, .string (mkS m.body), .string (mkS m.ret), .string (mkS m.env), .string (mkS m.mode)], .int .i64 0]) ∧ Below w.heap.size w w') := by
  obtain ⟨e1, e2⟩ := print_read h
  exact ⟨fun w hw => (printM_x m w hw).mono fun _ _ ⟨he, hb⟩ => ⟨by rw [he, h], hb⟩, fun w hw => (parseM_x (printM m) w (printM_len h) hw).mono fun _ _ ⟨he, hb⟩ => ⟨by rw [he, e1, e2]; rfl, hb⟩⟩
theorem back_r {r : RL} (h : rightR r = 0) : (∀ w, NotR w → Calls Tryz.prog 243 #[.agg #[.string (mkS r.no), .string (mkS r.kind), .string (mkS r.oc)]] w fun e w' => e = .returned (.tuple #[.string (mkS (printR r)), .int .i64 0]) ∧ Below w.heap.size w w') ∧
    (∀ w, NotR w → Calls Tryz.prog 251 #[.string (mkS (printR r))] w fun e w' => e = .returned (.tuple #[.agg #[.string (mkS r.no), .string (mkS r.kind), .string (mkS r.oc)], .int .i64 0]) ∧ Below w.heap.size w w') := by
  obtain ⟨e1, e2⟩ := printR_read h
  have hl := (rightR_len h).1
  exact ⟨fun w hw => (printR_x r w hw (by omega)).mono fun _ _ ⟨he, hb⟩ => ⟨by rw [he, h], hb⟩, fun w hw => (parseR_x (printR r) w (printR_len h) hw).mono fun _ _ ⟨he, hb⟩ => ⟨by rw [he, e1, e2], hb⟩⟩
/-- Are the texts short? -/
def smallB (m : ML) (r : RL) : Bool := decide (m.body.length + m.ret.length + m.env.length + m.mode.length ≤ 2000) && decide (r.no.length + r.kind.length + r.oc.length ≤ 2000)
def ShortM (m : ML) : Prop := m.body.length ≤ 281474976710656 ∧ m.ret.length ≤ 281474976710656 ∧ m.env.length ≤ 281474976710656 ∧ m.mode.length ≤ 281474976710656
def ShortR (r : RL) : Prop := r.no.length ≤ 281474976710656 ∧ r.kind.length ≤ 281474976710656 ∧ r.oc.length ≤ 281474976710656
set_option maxHeartbeats 8000000 in
theorem small_x (m : ML) (r : RL) (w : World) (hm : ShortM m) (hr : ShortR r) : Calls Tryz.prog 99 #[.agg #[.bool m.hs, .bool m.hf, .bool m.hu, .bool m.hb, .bool m.hp, .int .i64 m.sz, .int .i64 m.fo, .int .i64 m.un, .int .i64 m.by_, .int .i64 m.pr, .string (mkS m.body), .string (mkS m.ret), .string (mkS m.env), .string (mkS m.mode)], .agg #[.string (mkS r.no), .string (mkS r.kind), .string (mkS r.oc)]] w fun e w' => e = .returned (.bool (smallB m r)) ∧ Below w.heap.size w w' := by
  obtain ⟨b1, b2, b3, b4⟩ := hm
  obtain ⟨b5, b6, b7⟩ := hr
  have z1 := mkS_size m.body
  have z2 := mkS_size m.ret
  have z3 := mkS_size m.env
  have z4 := mkS_size m.mode
  have z5 := mkS_size r.no
  have z6 := mkS_size r.kind
  have z7 := mkS_size r.oc
  have HB := Lib.hid (((Below.refl w.heap.size w).alloc (Nat.le_refl _) (.cells #[.bool m.hs, .bool m.hf, .bool m.hu, .bool m.hb, .bool m.hp, .int .i64 m.sz, .int .i64 m.fo, .int .i64 m.un, .int .i64 m.by_, .int .i64 m.pr, .string (mkS m.body), .string (mkS m.ret), .string (mkS m.env), .string (mkS m.mode)] 49)).alloc (by simp) (.cells #[.string (mkS r.no), .string (mkS r.kind), .string (mkS r.oc)] 77))
  have HV := Lib.hid (show smallB m r = (decide (m.body.length + m.ret.length + m.env.length + m.mode.length ≤ 2000) && decide (r.no.length + r.kind.length + r.oc.length ≤ 2000)) from rfl)
  have q1 : IntKind.i64.wrap ((m.body.length : Int) + m.ret.length) = m.body.length + m.ret.length := IntWalk.i64_in _ (by omega)
  have q2 : IntKind.i64.wrap ((m.body.length : Int) + m.ret.length + m.env.length) = m.body.length + m.ret.length + m.env.length := IntWalk.i64_in _ (by omega)
  have q3 : IntKind.i64.wrap ((m.body.length : Int) + m.ret.length + m.env.length + m.mode.length) = m.body.length + m.ret.length + m.env.length + m.mode.length := IntWalk.i64_in _ (by omega)
  have q4 : IntKind.i64.wrap ((r.no.length : Int) + r.kind.length) = r.no.length + r.kind.length := IntWalk.i64_in _ (by omega)
  have q5 : IntKind.i64.wrap ((r.no.length : Int) + r.kind.length + r.oc.length) = r.no.length + r.kind.length + r.oc.length := IntWalk.i64_in _ (by omega)
  clear b1 b2 b3 b4 b5 b6 b7
  by_cases h1 : m.body.length + m.ret.length + m.env.length + m.mode.length ≤ 2000
  · have h1' : (m.body.length : Int) + m.ret.length + m.env.length + m.mode.length ≤ 2000 := by omega
    by_cases h2 : r.no.length + r.kind.length + r.oc.length ≤ 2000
    · have h2' : (r.no.length : Int) + r.kind.length + r.oc.length ≤ 2000 := by omega
      rw [decide_eq_true h1, decide_eq_true h2] at HV
      clear h1 h2
      go_enter Tryz.func99, Tryz.ntmps99
      go_wp2_with fail
      go_ret
      exact ⟨ret_bool (by rw [HV.out]; rfl), HB.out⟩
    · have h2' : ¬ (r.no.length : Int) + r.kind.length + r.oc.length ≤ 2000 := by omega
      rw [decide_eq_true h1, decide_eq_false h2] at HV
      clear h1 h2
      go_enter Tryz.func99, Tryz.ntmps99
      go_wp2_with fail
      go_ret
      exact ⟨ret_bool (by rw [HV.out]; rfl), HB.out⟩
  · have h1' : ¬ (m.body.length : Int) + m.ret.length + m.env.length + m.mode.length ≤ 2000 := by omega
    rw [decide_eq_false h1] at HV
    clear h1
    go_enter Tryz.func99, Tryz.ntmps99
    go_wp2_with fail
    go_ret
    exact ⟨ret_bool (by rw [HV.out]; rfl), HB.out⟩
end Go.Proofs.YtbecdncnidcmdaaGreatDoor
