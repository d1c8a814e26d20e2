/-
  CmPrA · CmPrT, in one text.
-/
import Derived.Test.YtojpkbonioglbaaGreatDoorMaCmA
import Derived.Test.YtojpkbonioglbaaGreatDoorCmEq
import Derived.Test.YtojpkbonioglbaaGreatDoorMaPaR
import Derived.BigQuiet
/-
  What stands behind a verb, printed: the walks of command's print functions that need no path.
-/
namespace Go.Proofs.YtojpkbonioglbaaGreatDoor
set_option maxRecDepth 100000
open Go.RowKit Go.Shelf
/-- A command in its box, block B; nothing that lay ahead has turned. -/
structure KB (W : World) (B : Nat) (c : CL) (w : World) : Prop where
  box : w.heap[B]? = some (.cells (CC c) 101 (0, 0))
  below : Below W.heap.size W w
theorem KB.next {W w w' : World} {B : Nat} {c : CL} (h : KB W B c w) (hb : Below w.heap.size w w') : KB W B c w' := ⟨(hb.block _ (ltOf h.box)).trans h.box, below_next h.below hb⟩
theorem KB.drewN {W w : World} {B : Nat} {c : CL} (h : KB W B c w) (n : Nat) : KB W B c (w.drewN n) := ⟨h.box, below_drewN h.below n⟩
theorem KB.drew {W w : World} {B : Nat} {c : CL} (h : KB W B c w) : KB W B c w.drew := ⟨h.box, ⟨h.below.os, h.below.tape, h.below.output, h.below.size, h.below.block⟩⟩
theorem KB.quiet {W : World} {B : Nat} {c : CL} {Y : Type} {F : Y → World} {y : Y} (h : (∀ y, KB W B c (F y)) ∧ (∀ w', KB W B c w' → ∃ y, w' = F y)) {f : FuncId} {args : Array Value} {v : Value} (H : Calls Tryz.prog f args (F y) fun e w' => e = .returned v ∧ Below (F y).heap.size (F y) w') :
    Calls Tryz.prog f args (F y) fun e w' => e = .returned v ∧ ∃ y, w' = F y := H.mono fun _ _ ⟨he, hb⟩ => ⟨he, h.2 _ ((h.1 y).next hb)⟩
theorem KB.quietN {W : World} {B : Nat} {c : CL} {Y : Type} {F : Y → World} {y : Y} (h : (∀ y, KB W B c (F y)) ∧ (∀ w', KB W B c w' → ∃ y, w' = F y)) {f : FuncId} {args : Array Value} {v : Value} (H : Calls Tryz.prog f args (F y) fun e w' => e = .returned v ∧ ∃ n, w' = (F y).drewN n) :
    Calls Tryz.prog f args (F y) fun e w' => e = .returned v ∧ ∃ y, w' = F y := H.mono fun _ _ ⟨he, n, hn⟩ => ⟨he, h.2 _ (by rw [hn]; exact (h.1 y).drewN n)⟩
theorem KB.atp (c : CL) : ∀ j, j < (#[.string (mkS c.p.1), .string (mkS c.p.2)] : Array Value).size → (CC c)[2 + j]? = (#[.string (mkS c.p.1), .string (mkS c.p.2)] : Array Value)[j]? := fun j hj => by
  match j, hj with
  | 0, _ => rfl
  | 1, _ => rfl
theorem KB.atm (c : CL) : ∀ j, j < (#[.bool c.m.hs, .bool c.m.hf, .bool c.m.hu, .bool c.m.hb, .bool c.m.hp, .int .i64 c.m.sz, .int .i64 c.m.fo, .int .i64 c.m.un, .int .i64 c.m.by_, .int .i64 c.m.pr, .string (mkS c.m.body), .string (mkS c.m.ret), .string (mkS c.m.env), .string (mkS c.m.mode)] : Array Value).size → (CC c)[4 + j]? = (#[.bool c.m.hs, .bool c.m.hf, .bool c.m.hu, .bool c.m.hb, .bool c.m.hp, .int .i64 c.m.sz, .int .i64 c.m.fo, .int .i64 c.m.un, .int .i64 c.m.by_, .int .i64 c.m.pr, .string (mkS c.m.body), .string (mkS c.m.ret), .string (mkS c.m.env), .string (mkS c.m.mode)] : Array Value)[j]? := fun j hj => by
  match j, hj with
  | 0, _ => rfl
  | 1, _ => rfl
  | 2, _ => rfl
  | 3, _ => rfl
  | 4, _ => rfl
  | 5, _ => rfl
  | 6, _ => rfl
  | 7, _ => rfl
  | 8, _ => rfl
  | 9, _ => rfl
  | 10, _ => rfl
  | 11, _ => rfl
  | 12, _ => rfl
  | 13, _ => rfl
theorem KB.atr (c : CL) : ∀ j, j < (#[.string (mkS c.r.no), .string (mkS c.r.kind), .string (mkS c.r.oc)] : Array Value).size → (CC c)[18 + j]? = (#[.string (mkS c.r.no), .string (mkS c.r.kind), .string (mkS c.r.oc)] : Array Value)[j]? := fun j hj => by
  match j, hj with
  | 0, _ => rfl
  | 1, _ => rfl
  | 2, _ => rfl
theorem KB.lC {W w : World} {B : Nat} {c : CL} (h : KB W B c w) : (loadVar 101 ⟨B, 0, none⟩).run Tryz.prog w = .ok (.agg (CC c)) w := loadVar_blk (o := 0) (vs := CC c) h.box Tryz.underlying101 rfl size_cmd (fun j _ => by rw [Nat.zero_add])
theorem KB.lP {W w : World} {B : Nat} {c : CL} (h : KB W B c w) : (loadVar 27 ⟨B, 2, none⟩).run Tryz.prog w = .ok (.agg #[.string (mkS c.p.1), .string (mkS c.p.2)]) w := loadVar_blk (o := 2) h.box Tryz.underlying27 rfl (by kernel_rfl) (KB.atp c)
theorem KB.lM {W w : World} {B : Nat} {c : CL} (h : KB W B c w) : (loadVar 31 ⟨B, 4, none⟩).run Tryz.prog w = .ok (.agg #[.bool c.m.hs, .bool c.m.hf, .bool c.m.hu, .bool c.m.hb, .bool c.m.hp, .int .i64 c.m.sz, .int .i64 c.m.fo, .int .i64 c.m.un, .int .i64 c.m.by_, .int .i64 c.m.pr, .string (mkS c.m.body), .string (mkS c.m.ret), .string (mkS c.m.env), .string (mkS c.m.mode)]) w := loadVar_blk (o := 4) h.box Tryz.underlying31 rfl (by kernel_rfl) (KB.atm c)
theorem KB.lR {W w : World} {B : Nat} {c : CL} (h : KB W B c w) : (loadVar 47 ⟨B, 18, none⟩).run Tryz.prog w = .ok (.agg #[.string (mkS c.r.no), .string (mkS c.r.kind), .string (mkS c.r.oc)]) w := loadVar_blk (o := 18) h.box Tryz.underlying47 rfl (by kernel_rfl) (KB.atr c)
/-- A load of many cells in a region that draws its order. -/
theorem wpQuiet_load_blk {P : Program} {ops : Array Oper} {C : World → Prop} {Q : Act → Prop} {a : Act} {o : Oper} {rest : List Oper} (hw : Region.wanted o (yielded ops a.tmps) = true) (ty : TypeId) (x : Operand) (ho : o.op = .load ty x) (b off : Nat) (vs : Array Value) (hx : a.eval x = .pointer (some ⟨b, off, none⟩))
    (hC : ∀ w, C w → (loadVar ty ⟨b, off, none⟩).run P w = .ok (.agg vs) w) (h : wpQuiet P ops C Q rest (a.put o.dst (.agg vs))) : wpQuiet P ops C Q (o :: rest) a :=
  BigFrame.wpQuiet_want hw fun _ hK => ⟨_, fun w hw' => by
    unfold Oper.quietAt execOp
    simp only [ho, hx, Instr.loadAt, Instr.sureAddr, Sem.run_bind, Sem.run_pure, Result.andThen_ok, hC w hw']
    exact ⟨rfl, rfl⟩, hK _ h⟩
/-- Are the texts short enough? -/
structure Fit (c : CL) : Prop where
  verb : c.verb.length ≤ 1000000000
  arg : c.arg.length ≤ 1000000000
  p1 : c.p.1.length ≤ 1000000000
  p2 : c.p.2.length ≤ 1000000000
  kind : c.r.kind.length ≤ 1000000000
noncomputable def bW (k : Nat) (c : CL) : Txt := if bE k c = 0 then bV k c else []
/-- What a verb's function says. -/
def SaysC (g : FuncId) (k : Nat) : Prop := ∀ (w : World) (B : Nat) (c : CL), Fit c → Ready w → NotR w → w.heap[B]? = some (.cells (CC c) 101 (0, 0)) →
  Calls Tryz.prog g #[.pointer (some ⟨B, 0, none⟩)] w fun e w' => e = .returned (.tuple #[.string (mkS (bW k c)), .int .i64 (bE k c)]) ∧ Below w.heap.size w w'
theorem says_no {k : Nat} {c : CL} {w w' : World} {n : Int} (h : bE k c = n) (hn : n ≠ 0) (hb : Below w.heap.size w w') : Ending.returned (.tuple #[.string { data := #[] }, .int .i64 n]) = .returned (.tuple #[.string (mkS (bW k c)), .int .i64 (bE k c)]) ∧ Below w.heap.size w w' := by
  rw [bW, h, if_neg hn]; exact ⟨rfl, hb⟩
theorem says_yes {k : Nat} {c : CL} {w w' : World} {s : ByteArray} (h : bE k c = 0) (hs : s = mkS (bV k c)) (hb : Below w.heap.size w w') : Ending.returned (.tuple #[.string s, .int .i64 0]) = .returned (.tuple #[.string (mkS (bW k c)), .int .i64 (bE k c)]) ∧ Below w.heap.size w w' := by
  rw [bW, h, if_pos rfl, hs]; exact ⟨rfl, hb⟩
theorem bE4 (c : CL) : bE 4 c = if eqCL c (headC c.verb) = true then 0 else 2 := by
  unfold bE is4; rw [if_neg (by decide), if_neg (by decide), if_neg (by decide), if_pos rfl]
  by_cases h : c = headC c.verb
  · rw [if_pos h, if_pos (eqCL_iff.2 h)]
  · rw [if_neg h, if_neg (fun h' => h (eqCL_iff.1 h'))]
theorem bE5 (c : CL) : bE 5 c = if (eqCL c { headC c.verb with arg := c.arg } && txtB c.arg) = true then 0 else 2 := by
  unfold bE is5; rw [if_neg (by decide), if_neg (by decide), if_neg (by decide), if_neg (by decide), if_pos rfl]
  by_cases h : c = { headC c.verb with arg := c.arg } ∧ txtB c.arg = true
  · rw [if_pos h, if_pos (by rw [Bool.and_eq_true]; exact ⟨eqCL_iff.2 h.1, h.2⟩)]
  · rw [if_neg h, if_neg (fun h' => h (by rw [Bool.and_eq_true] at h'; exact ⟨eqCL_iff.1 h'.1, h'.2⟩))]
theorem bE6 (c : CL) : bE 6 c = if c.arg = [] then 2 else bE 5 c := by
  rw [bE5]
  unfold bE is5; rw [if_neg (by decide), if_neg (by decide), if_neg (by decide), if_neg (by decide), if_neg (by decide)]
  by_cases ha : c.arg = []
  · rw [if_pos ha, if_pos ha]
  · rw [if_neg ha, if_neg ha]
    by_cases h : c = { headC c.verb with arg := c.arg } ∧ txtB c.arg = true
    · rw [if_pos h, if_pos (by rw [Bool.and_eq_true]; exact ⟨eqCL_iff.2 h.1, h.2⟩)]
    · rw [if_neg h, if_neg (fun h' => h (by rw [Bool.and_eq_true] at h'; exact ⟨eqCL_iff.1 h'.1, h'.2⟩))]
theorem bE1 (c : CL) : bE 1 c = if (eqCL c { headC c.verb with arg := P.domainV c.arg } && P.domainE c.arg == 0) = true then 0 else 2 := by
  unfold bE; rw [if_pos rfl]
  by_cases h : c = { headC c.verb with arg := P.domainV c.arg } ∧ P.domainE c.arg = 0
  · rw [if_pos h, if_pos (by rw [Bool.and_eq_true, beq_iff_eq]; exact ⟨eqCL_iff.2 h.1, h.2⟩)]
  · rw [if_neg h, if_neg (fun h' => h (by rw [Bool.and_eq_true, beq_iff_eq] at h'; exact ⟨eqCL_iff.1 h'.1, h'.2⟩))]
theorem bE2 (c : CL) : bE 2 c = if (eqCL c { headC c.verb with p := c.p, m := c.m } && !hostlB c.p) = true then (if P.rightE c.p = 0 then rightM c.m else P.rightE c.p) else 2 := by
  unfold bE is2; rw [if_neg (by decide), if_pos rfl]
  by_cases h : c = { headC c.verb with p := c.p, m := c.m } ∧ hostlB c.p = false
  · rw [if_pos h]
    refine (if_pos ?_).symm
    rw [Bool.and_eq_true, h.2]
    exact ⟨eqCL_iff.2 h.1, rfl⟩
  · rw [if_neg h]
    refine (if_neg fun h' => h ?_).symm
    rw [Bool.and_eq_true] at h'
    exact ⟨eqCL_iff.1 h'.1, by simpa using h'.2⟩
theorem bE3 (c : CL) : bE 3 c = if (eqCL c { headC c.verb with p := c.p, r := c.r } && !P.nullB c.p) = true then (if P.rightE c.p = 0 then rightR c.r else P.rightE c.p) else 2 := by
  unfold bE is3; rw [if_neg (by decide), if_neg (by decide), if_pos rfl]
  by_cases h : c = { headC c.verb with p := c.p, r := c.r } ∧ P.nullB c.p = false
  · rw [if_pos h]
    refine (if_pos ?_).symm
    rw [Bool.and_eq_true, h.2]
    exact ⟨eqCL_iff.2 h.1, rfl⟩
  · rw [if_neg h]
    refine (if_neg fun h' => h ?_).symm
    rw [Bool.and_eq_true] at h'
    exact ⟨eqCL_iff.1 h'.1, by simpa using h'.2⟩
set_option maxHeartbeats 4000000 in
theorem printNothing_x : SaysC 130 4 := by
  intro w B c hFt hR hN hb
  have HV := Lib.hid (bE4 c)
  have HB := Lib.hid (show KB w B c w from ⟨hb, Below.refl _ _⟩)
  have he : ∀ w, (Op.equalIn 10000 101 (.agg (CC c)) (.agg #[.string (mkS c.verb), .string { data := #[] }, .string { data := #[] }, .string { data := #[] }, .bool false, .bool false, .bool false, .bool false, .bool false, .int .i64 0, .int .i64 0, .int .i64 0, .int .i64 0, .int .i64 0, .string { data := #[] }, .string { data := #[] }, .string { data := #[] }, .string { data := #[] }, .string { data := #[] }, .string { data := #[] }, .string { data := #[] }])).run Tryz.prog w = .ok (eqCL c (headC c.verb)) w := fun w => eqCmd c (headC c.verb) w
  generalize eqCL c (headC c.verb) = q at he HV
  clear hFt hR hN hb
  go_enter Tryz.func130, Tryz.ntmps130
  obtain ⟨Y, F, y0, hy0, hF, hS⟩ : ∃ (Y : Type) (F : Y → World) (y0 : Y), F y0 = w.drew ∧ (∀ y, KB w B c (F y)) ∧ (∀ w', KB w B c w' → ∃ y, w' = F y) :=
    ⟨{ w' // KB w B c w' }, Subtype.val, ⟨_, HB.out.drew⟩, rfl, fun y => y.2, fun w' h => ⟨⟨w', h⟩, rfl⟩⟩
  have hne : Nonempty Y := ⟨y0⟩
  have hF0 : ∀ y, (F y).cell? ⟨B, 0, none⟩ = some (.string (mkS c.verb)) := fun y => cellOf (hF y).box 0
  have hF1 : ∀ y, (F y).cell? ⟨B, 1, none⟩ = some (.string (mkS c.arg)) := fun y => cellOf (hF y).box 1
  have HLC := Lib.hid (fun w' (h : ∃ y, w' = F y) => h.elim fun y e => e ▸ (hF y).lC)
  have HLP := Lib.hid (fun w' (h : ∃ y, w' = F y) => h.elim fun y e => e ▸ (hF y).lP)
  have HLM := Lib.hid (fun w' (h : ∃ y, w' = F y) => h.elim fun y e => e ▸ (hF y).lM)
  have HLR := Lib.hid (fun w' (h : ∃ y, w' = F y) => h.elim fun y e => e ▸ (hF y).lR)
  have HFS := Lib.hid (And.intro hF hS)
  clear hF hS
  go_wp2_with fail
  refine region_in (by kernel_rfl) (by kernel_rfl) F y0 hy0 ?_
  repeat (first
    | (refine wpQuiet_load_blk rfl 101 _ rfl B 0 (CC c) rfl HLC.out ?_; simp only [Act.put, List.setIfInBounds_toArray, List.set_cons_succ, List.set_cons_zero])
    | (refine wpQuiet_load_blk rfl 27 _ rfl B 2 #[.string (mkS c.p.1), .string (mkS c.p.2)] rfl HLP.out ?_; simp only [Act.put, List.setIfInBounds_toArray, List.set_cons_succ, List.set_cons_zero])
    | (refine wpQuiet_load_blk rfl 31 _ rfl B 4 #[.bool c.m.hs, .bool c.m.hf, .bool c.m.hu, .bool c.m.hb, .bool c.m.hp, .int .i64 c.m.sz, .int .i64 c.m.fo, .int .i64 c.m.un, .int .i64 c.m.by_, .int .i64 c.m.pr, .string (mkS c.m.body), .string (mkS c.m.ret), .string (mkS c.m.env), .string (mkS c.m.mode)] rfl HLM.out ?_; simp only [Act.put, List.setIfInBounds_toArray, List.set_cons_succ, List.set_cons_zero])
    | (refine wpQuiet_load_blk rfl 47 _ rfl B 18 #[.string (mkS c.r.no), .string (mkS c.r.kind), .string (mkS c.r.oc)] rfl HLR.out ?_; simp only [Act.put, List.setIfInBounds_toArray, List.set_cons_succ, List.set_cons_zero])
    | go_big_quiet_step (first
      | fail))
  refine wpQuiet_nil ?_
  rintro _ ⟨y, rfl⟩
  have H2 := Lib.hid (HFS.out.1 y)
  clear hF0 hF1 HLC HLP HLM HLR hy0
  have H3 := Lib.hid H2.out.below
  clear H2 HFS
  cases q
  · go_wp2_with fail
    go_ret2
    exact says_no (by rw [HV.out]; rfl) (by decide) H3.out
  · go_wp2_with fail
    go_ret2
    exact says_yes (by rw [HV.out]; rfl) rfl H3.out
theorem domV_le (l : Txt) : (P.domainV l).length ≤ l.length := by
  unfold P.domainV
  split
  · simp [P.smallL]
  · exact Nat.zero_le _
set_option maxHeartbeats 4000000 in
theorem printDomain_x : SaysC 127 1 := by
  intro w B c hFt hR hN hb
  have HV := Lib.hid (bE1 c)
  have HBV := Lib.hid (show bV 1 c = 32 :: P.domainV c.arg from rfl)
  have HB := Lib.hid (show KB w B c w from ⟨hb, Below.refl _ _⟩)
  have HD := Lib.hid (fun w => P.domain_x c.arg w)
  unfold P.DomPost at HD
  have hle := domV_le c.arg
  have ha := hFt.arg
  generalize P.domainV c.arg = dv at HD HV HBV hle
  have he : ∀ w, (Op.equalIn 10000 101 (.agg (CC c)) (.agg #[.string (mkS c.verb), .string (mkS dv), .string { data := #[] }, .string { data := #[] }, .bool false, .bool false, .bool false, .bool false, .bool false, .int .i64 0, .int .i64 0, .int .i64 0, .int .i64 0, .int .i64 0, .string { data := #[] }, .string { data := #[] }, .string { data := #[] }, .string { data := #[] }, .string { data := #[] }, .string { data := #[] }, .string { data := #[] }])).run Tryz.prog w = .ok (eqCL c { headC c.verb with arg := dv }) w := fun w => eqCmd c { headC c.verb with arg := dv } w
  generalize eqCL c { headC c.verb with arg := dv } = q at he HV
  generalize P.domainE c.arg = D at HD HV
  have zd := mkS_size dv
  have hcat : ({ data := #[32] } : ByteArray) ++ mkS dv = mkS (32 :: dv) := mkS_cat [32] dv
  have y1 : ¬ 9223372036854775807 < 1 + (mkS dv).size := by omega
  have y2 : ¬ 9223372036854775807 < 1 + dv.length := by omega
  clear hFt hR hN
  have c1 : w.cell? ⟨B, 1, none⟩ = some (.string (mkS c.arg)) := cellOf hb 1
  clear hb
  go_enter Tryz.func127, Tryz.ntmps127
  go_wp2_with fail
  refine (HD.out _).mono ?_
  rintro e w1 ⟨rfl, hb⟩
  have H1 := Lib.hid (HB.out.next hb)
  clear hb c1 HB HD
  cases q
  · 
    obtain ⟨Y, F, y0, hy0, hF, hS⟩ : ∃ (Y : Type) (F : Y → World) (y0 : Y), F y0 = w1.drew ∧ (∀ y, KB w B c (F y)) ∧ (∀ w', KB w B c w' → ∃ y, w' = F y) :=
      ⟨{ w' // KB w B c w' }, Subtype.val, ⟨_, H1.out.drew⟩, rfl, fun y => y.2, fun w' h => ⟨⟨w', h⟩, rfl⟩⟩
    have hne : Nonempty Y := ⟨y0⟩
    have hF0 : ∀ y, (F y).cell? ⟨B, 0, none⟩ = some (.string (mkS c.verb)) := fun y => cellOf (hF y).box 0
    have hF1 : ∀ y, (F y).cell? ⟨B, 1, none⟩ = some (.string (mkS c.arg)) := fun y => cellOf (hF y).box 1
    have HLC := Lib.hid (fun w' (h : ∃ y, w' = F y) => h.elim fun y e => e ▸ (hF y).lC)
    have HLP := Lib.hid (fun w' (h : ∃ y, w' = F y) => h.elim fun y e => e ▸ (hF y).lP)
    have HLM := Lib.hid (fun w' (h : ∃ y, w' = F y) => h.elim fun y e => e ▸ (hF y).lM)
    have HLR := Lib.hid (fun w' (h : ∃ y, w' = F y) => h.elim fun y e => e ▸ (hF y).lR)
    have HFS := Lib.hid (And.intro hF hS)
    clear hF hS
    go_wp2_with fail
    refine region_in (by kernel_rfl) (by kernel_rfl) F y0 hy0 ?_
    repeat (first
      | (refine wpQuiet_load_blk rfl 101 _ rfl B 0 (CC c) rfl HLC.out ?_; simp only [Act.put, List.setIfInBounds_toArray, List.set_cons_succ, List.set_cons_zero])
      | (refine wpQuiet_load_blk rfl 27 _ rfl B 2 #[.string (mkS c.p.1), .string (mkS c.p.2)] rfl HLP.out ?_; simp only [Act.put, List.setIfInBounds_toArray, List.set_cons_succ, List.set_cons_zero])
      | (refine wpQuiet_load_blk rfl 31 _ rfl B 4 #[.bool c.m.hs, .bool c.m.hf, .bool c.m.hu, .bool c.m.hb, .bool c.m.hp, .int .i64 c.m.sz, .int .i64 c.m.fo, .int .i64 c.m.un, .int .i64 c.m.by_, .int .i64 c.m.pr, .string (mkS c.m.body), .string (mkS c.m.ret), .string (mkS c.m.env), .string (mkS c.m.mode)] rfl HLM.out ?_; simp only [Act.put, List.setIfInBounds_toArray, List.set_cons_succ, List.set_cons_zero])
      | (refine wpQuiet_load_blk rfl 47 _ rfl B 18 #[.string (mkS c.r.no), .string (mkS c.r.kind), .string (mkS c.r.oc)] rfl HLR.out ?_; simp only [Act.put, List.setIfInBounds_toArray, List.set_cons_succ, List.set_cons_zero])
      | go_big_quiet_step (first
        | fail))
    refine wpQuiet_nil ?_
    rintro _ ⟨y, rfl⟩
    have H2 := Lib.hid (HFS.out.1 y)
    clear hF0 hF1 HLC HLP HLM HLR hy0
    have H3 := Lib.hid H2.out.below
    clear H2 HFS
    go_wp2_with fail
    go_ret2
    exact says_no (by rw [HV.out]; rfl) (by decide) H3.out
  · by_cases hD : D = 0
    · subst hD
      obtain ⟨Y, F, y0, hy0, hF, hS⟩ : ∃ (Y : Type) (F : Y → World) (y0 : Y), F y0 = w1.drew ∧ (∀ y, KB w B c (F y)) ∧ (∀ w', KB w B c w' → ∃ y, w' = F y) :=
        ⟨{ w' // KB w B c w' }, Subtype.val, ⟨_, H1.out.drew⟩, rfl, fun y => y.2, fun w' h => ⟨⟨w', h⟩, rfl⟩⟩
      have hne : Nonempty Y := ⟨y0⟩
      have hF0 : ∀ y, (F y).cell? ⟨B, 0, none⟩ = some (.string (mkS c.verb)) := fun y => cellOf (hF y).box 0
      have hF1 : ∀ y, (F y).cell? ⟨B, 1, none⟩ = some (.string (mkS c.arg)) := fun y => cellOf (hF y).box 1
      have HLC := Lib.hid (fun w' (h : ∃ y, w' = F y) => h.elim fun y e => e ▸ (hF y).lC)
      have HLP := Lib.hid (fun w' (h : ∃ y, w' = F y) => h.elim fun y e => e ▸ (hF y).lP)
      have HLM := Lib.hid (fun w' (h : ∃ y, w' = F y) => h.elim fun y e => e ▸ (hF y).lM)
      have HLR := Lib.hid (fun w' (h : ∃ y, w' = F y) => h.elim fun y e => e ▸ (hF y).lR)
      have HFS := Lib.hid (And.intro hF hS)
      clear hF hS
      go_wp2_with fail
      refine region_in (by kernel_rfl) (by kernel_rfl) F y0 hy0 ?_
      repeat (first
        | (refine wpQuiet_load_blk rfl 101 _ rfl B 0 (CC c) rfl HLC.out ?_; simp only [Act.put, List.setIfInBounds_toArray, List.set_cons_succ, List.set_cons_zero])
        | (refine wpQuiet_load_blk rfl 27 _ rfl B 2 #[.string (mkS c.p.1), .string (mkS c.p.2)] rfl HLP.out ?_; simp only [Act.put, List.setIfInBounds_toArray, List.set_cons_succ, List.set_cons_zero])
        | (refine wpQuiet_load_blk rfl 31 _ rfl B 4 #[.bool c.m.hs, .bool c.m.hf, .bool c.m.hu, .bool c.m.hb, .bool c.m.hp, .int .i64 c.m.sz, .int .i64 c.m.fo, .int .i64 c.m.un, .int .i64 c.m.by_, .int .i64 c.m.pr, .string (mkS c.m.body), .string (mkS c.m.ret), .string (mkS c.m.env), .string (mkS c.m.mode)] rfl HLM.out ?_; simp only [Act.put, List.setIfInBounds_toArray, List.set_cons_succ, List.set_cons_zero])
        | (refine wpQuiet_load_blk rfl 47 _ rfl B 18 #[.string (mkS c.r.no), .string (mkS c.r.kind), .string (mkS c.r.oc)] rfl HLR.out ?_; simp only [Act.put, List.setIfInBounds_toArray, List.set_cons_succ, List.set_cons_zero])
        | go_big_quiet_step (first
          | fail))
      refine wpQuiet_nil ?_
      rintro _ ⟨y, rfl⟩
      have H2 := Lib.hid (HFS.out.1 y)
      clear hF0 hF1 HLC HLP HLM HLR hy0
      have H3 := Lib.hid H2.out.below
      clear H2 HFS
      go_wp2_with fail
      go_ret2
      exact says_yes (by rw [HV.out]; rfl) (by rw [HBV.out]) H3.out
    · have d9 : (D != 0) = true := bne_iff_ne.2 hD
      have HV2 := Lib.hid (show bE 1 c = 2 by rw [HV.out, if_neg]; simp [hD])
      clear hD
      obtain ⟨Y, F, y0, hy0, hF, hS⟩ : ∃ (Y : Type) (F : Y → World) (y0 : Y), F y0 = w1.drew ∧ (∀ y, KB w B c (F y)) ∧ (∀ w', KB w B c w' → ∃ y, w' = F y) :=
        ⟨{ w' // KB w B c w' }, Subtype.val, ⟨_, H1.out.drew⟩, rfl, fun y => y.2, fun w' h => ⟨⟨w', h⟩, rfl⟩⟩
      have hne : Nonempty Y := ⟨y0⟩
      have hF0 : ∀ y, (F y).cell? ⟨B, 0, none⟩ = some (.string (mkS c.verb)) := fun y => cellOf (hF y).box 0
      have hF1 : ∀ y, (F y).cell? ⟨B, 1, none⟩ = some (.string (mkS c.arg)) := fun y => cellOf (hF y).box 1
      have HLC := Lib.hid (fun w' (h : ∃ y, w' = F y) => h.elim fun y e => e ▸ (hF y).lC)
      have HLP := Lib.hid (fun w' (h : ∃ y, w' = F y) => h.elim fun y e => e ▸ (hF y).lP)
      have HLM := Lib.hid (fun w' (h : ∃ y, w' = F y) => h.elim fun y e => e ▸ (hF y).lM)
      have HLR := Lib.hid (fun w' (h : ∃ y, w' = F y) => h.elim fun y e => e ▸ (hF y).lR)
      have HFS := Lib.hid (And.intro hF hS)
      clear hF hS
      go_wp2_with fail
      refine region_in (by kernel_rfl) (by kernel_rfl) F y0 hy0 ?_
      repeat (first
        | (refine wpQuiet_load_blk rfl 101 _ rfl B 0 (CC c) rfl HLC.out ?_; simp only [Act.put, List.setIfInBounds_toArray, List.set_cons_succ, List.set_cons_zero])
        | (refine wpQuiet_load_blk rfl 27 _ rfl B 2 #[.string (mkS c.p.1), .string (mkS c.p.2)] rfl HLP.out ?_; simp only [Act.put, List.setIfInBounds_toArray, List.set_cons_succ, List.set_cons_zero])
        | (refine wpQuiet_load_blk rfl 31 _ rfl B 4 #[.bool c.m.hs, .bool c.m.hf, .bool c.m.hu, .bool c.m.hb, .bool c.m.hp, .int .i64 c.m.sz, .int .i64 c.m.fo, .int .i64 c.m.un, .int .i64 c.m.by_, .int .i64 c.m.pr, .string (mkS c.m.body), .string (mkS c.m.ret), .string (mkS c.m.env), .string (mkS c.m.mode)] rfl HLM.out ?_; simp only [Act.put, List.setIfInBounds_toArray, List.set_cons_succ, List.set_cons_zero])
        | (refine wpQuiet_load_blk rfl 47 _ rfl B 18 #[.string (mkS c.r.no), .string (mkS c.r.kind), .string (mkS c.r.oc)] rfl HLR.out ?_; simp only [Act.put, List.setIfInBounds_toArray, List.set_cons_succ, List.set_cons_zero])
        | go_big_quiet_step (first
          | fail))
      refine wpQuiet_nil ?_
      rintro _ ⟨y, rfl⟩
      have H2 := Lib.hid (HFS.out.1 y)
      clear hF0 hF1 HLC HLP HLM HLR hy0
      have H3 := Lib.hid H2.out.below
      clear H2 HFS
      go_wp2_with fail
      go_ret2
      exact says_no HV2.out (by decide) H3.out
end Go.Proofs.YtojpkbonioglbaaGreatDoor
/-
  The walks of command's printText and printSomeText.
-/
namespace Go.Proofs.YtojpkbonioglbaaGreatDoor
set_option maxRecDepth 100000
open Go.RowKit Go.Shelf
set_option maxHeartbeats 8000000 in
theorem printText_x : SaysC 131 5 := by
  intro w B c hFt hR hN hb
  have HV := Lib.hid (bE5 c)
  have HBV := Lib.hid (show bV 5 c = if c.arg = [] then [] else 32 :: c.arg from rfl)
  have HB := Lib.hid (show KB w B c w from ⟨hb, Below.refl _ _⟩)
  have ha := hFt.arg
  have HT := Lib.hid (fun w => isText_x c.arg w (by omega))
  have he : ∀ w, (Op.equalIn 10000 101 (.agg (CC c)) (.agg #[.string (mkS c.verb), .string (mkS c.arg), .string { data := #[] }, .string { data := #[] }, .bool false, .bool false, .bool false, .bool false, .bool false, .int .i64 0, .int .i64 0, .int .i64 0, .int .i64 0, .int .i64 0, .string { data := #[] }, .string { data := #[] }, .string { data := #[] }, .string { data := #[] }, .string { data := #[] }, .string { data := #[] }, .string { data := #[] }])).run Tryz.prog w = .ok (eqCL c { headC c.verb with arg := c.arg }) w := fun w => eqCmd c { headC c.verb with arg := c.arg } w
  generalize eqCL c { headC c.verb with arg := c.arg } = q at he HV
  generalize txtB c.arg = D at HT HV
  have hTx := mkS_toList c.arg
  have zd := mkS_size c.arg
  have hcat : ({ data := #[32] } : ByteArray) ++ mkS c.arg = mkS (32 :: c.arg) := mkS_cat [32] c.arg
  have y1 : ¬ 9223372036854775807 < 1 + (mkS c.arg).size := by omega
  have y2 : ¬ 9223372036854775807 < 1 + c.arg.length := by omega
  have e1 : c.arg.isEmpty = (c.arg == []) := by cases c.arg <;> rfl
  clear hFt hR hN
  cases q
  · clear hb
    go_enter Tryz.func131, Tryz.ntmps131
    obtain ⟨Y, F, y0, hy0, hF, hS⟩ : ∃ (Y : Type) (F : Y → World) (y0 : Y), F y0 = w.drew ∧ (∀ y, KB w B c (F y)) ∧ (∀ w', KB w B c w' → ∃ y, w' = F y) :=
      ⟨{ w' // KB w B c w' }, Subtype.val, ⟨_, HB.out.drew⟩, rfl, fun y => y.2, fun w' h => ⟨⟨w', h⟩, rfl⟩⟩
    have hne : Nonempty Y := ⟨y0⟩
    have hF0 : ∀ y, (F y).cell? ⟨B, 0, none⟩ = some (.string (mkS c.verb)) := fun y => cellOf (hF y).box 0
    have hF1 : ∀ y, (F y).cell? ⟨B, 1, none⟩ = some (.string (mkS c.arg)) := fun y => cellOf (hF y).box 1
    have HLC := Lib.hid (fun w' (h : ∃ y, w' = F y) => h.elim fun y e => e ▸ (hF y).lC)
    have HLP := Lib.hid (fun w' (h : ∃ y, w' = F y) => h.elim fun y e => e ▸ (hF y).lP)
    have HLM := Lib.hid (fun w' (h : ∃ y, w' = F y) => h.elim fun y e => e ▸ (hF y).lM)
    have HLR := Lib.hid (fun w' (h : ∃ y, w' = F y) => h.elim fun y e => e ▸ (hF y).lR)
    have HFS := Lib.hid (And.intro hF hS)
    clear hF hS
    go_wp2_with fail
    refine region_in (by kernel_rfl) (by kernel_rfl) F y0 hy0 ?_
    repeat (first
      | (refine wpQuiet_load_blk rfl 101 _ rfl B 0 (CC c) rfl HLC.out ?_; simp only [Act.put, List.setIfInBounds_toArray, List.set_cons_succ, List.set_cons_zero])
      | (refine wpQuiet_load_blk rfl 27 _ rfl B 2 #[.string (mkS c.p.1), .string (mkS c.p.2)] rfl HLP.out ?_; simp only [Act.put, List.setIfInBounds_toArray, List.set_cons_succ, List.set_cons_zero])
      | (refine wpQuiet_load_blk rfl 31 _ rfl B 4 #[.bool c.m.hs, .bool c.m.hf, .bool c.m.hu, .bool c.m.hb, .bool c.m.hp, .int .i64 c.m.sz, .int .i64 c.m.fo, .int .i64 c.m.un, .int .i64 c.m.by_, .int .i64 c.m.pr, .string (mkS c.m.body), .string (mkS c.m.ret), .string (mkS c.m.env), .string (mkS c.m.mode)] rfl HLM.out ?_; simp only [Act.put, List.setIfInBounds_toArray, List.set_cons_succ, List.set_cons_zero])
      | (refine wpQuiet_load_blk rfl 47 _ rfl B 18 #[.string (mkS c.r.no), .string (mkS c.r.kind), .string (mkS c.r.oc)] rfl HLR.out ?_; simp only [Act.put, List.setIfInBounds_toArray, List.set_cons_succ, List.set_cons_zero])
      | go_big_quiet_step (first
        | fail))
    refine wpQuiet_nil ?_
    rintro _ ⟨y, rfl⟩
    have H2 := Lib.hid (HFS.out.1 y)
    clear hF0 hF1 HLC HLP HLM HLR hy0
    have H3 := Lib.hid H2.out.below
    clear H2 HFS
    go_wp2_with fail
    go_ret2
    exact says_no (by rw [HV.out]; rfl) (by decide) H3.out
  · clear hb
    go_enter Tryz.func131, Tryz.ntmps131
    obtain ⟨Y, F, y0, hy0, hF, hS⟩ : ∃ (Y : Type) (F : Y → World) (y0 : Y), F y0 = w.drew ∧ (∀ y, KB w B c (F y)) ∧ (∀ w', KB w B c w' → ∃ y, w' = F y) :=
      ⟨{ w' // KB w B c w' }, Subtype.val, ⟨_, HB.out.drew⟩, rfl, fun y => y.2, fun w' h => ⟨⟨w', h⟩, rfl⟩⟩
    have hne : Nonempty Y := ⟨y0⟩
    have hF0 : ∀ y, (F y).cell? ⟨B, 0, none⟩ = some (.string (mkS c.verb)) := fun y => cellOf (hF y).box 0
    have hF1 : ∀ y, (F y).cell? ⟨B, 1, none⟩ = some (.string (mkS c.arg)) := fun y => cellOf (hF y).box 1
    have HLC := Lib.hid (fun w' (h : ∃ y, w' = F y) => h.elim fun y e => e ▸ (hF y).lC)
    have HLP := Lib.hid (fun w' (h : ∃ y, w' = F y) => h.elim fun y e => e ▸ (hF y).lP)
    have HLM := Lib.hid (fun w' (h : ∃ y, w' = F y) => h.elim fun y e => e ▸ (hF y).lM)
    have HLR := Lib.hid (fun w' (h : ∃ y, w' = F y) => h.elim fun y e => e ▸ (hF y).lR)
    have HFS := Lib.hid (And.intro hF hS)
    clear hF hS
    go_wp2_with fail
    refine region_in (by kernel_rfl) (by kernel_rfl) F y0 hy0 ?_
    repeat (first
      | (refine wpQuiet_load_blk rfl 101 _ rfl B 0 (CC c) rfl HLC.out ?_; simp only [Act.put, List.setIfInBounds_toArray, List.set_cons_succ, List.set_cons_zero])
      | (refine wpQuiet_load_blk rfl 27 _ rfl B 2 #[.string (mkS c.p.1), .string (mkS c.p.2)] rfl HLP.out ?_; simp only [Act.put, List.setIfInBounds_toArray, List.set_cons_succ, List.set_cons_zero])
      | (refine wpQuiet_load_blk rfl 31 _ rfl B 4 #[.bool c.m.hs, .bool c.m.hf, .bool c.m.hu, .bool c.m.hb, .bool c.m.hp, .int .i64 c.m.sz, .int .i64 c.m.fo, .int .i64 c.m.un, .int .i64 c.m.by_, .int .i64 c.m.pr, .string (mkS c.m.body), .string (mkS c.m.ret), .string (mkS c.m.env), .string (mkS c.m.mode)] rfl HLM.out ?_; simp only [Act.put, List.setIfInBounds_toArray, List.set_cons_succ, List.set_cons_zero])
      | (refine wpQuiet_load_blk rfl 47 _ rfl B 18 #[.string (mkS c.r.no), .string (mkS c.r.kind), .string (mkS c.r.oc)] rfl HLR.out ?_; simp only [Act.put, List.setIfInBounds_toArray, List.set_cons_succ, List.set_cons_zero])
      | go_big_quiet_step (first
        | (go_at_call 157; exact KB.quietN HFS.out (HT.out _))))
    refine wpQuiet_nil ?_
    rintro _ ⟨y, rfl⟩
    have H2 := Lib.hid (HFS.out.1 y)
    clear hF0 hF1 HLC HLP HLM HLR hy0
    have c1 : (F y).cell? ⟨B, 1, none⟩ = some (.string (mkS c.arg)) := cellOf H2.out.box 1
    have H3 := Lib.hid H2.out.below
    clear H2 HFS
    generalize F y = w2 at c1 H3 ⊢
    cases D
    · go_wp2_with fail
      go_ret2
      exact says_no (by rw [HV.out]; rfl) (by decide) H3.out
    · cases ha0 : c.arg == []
      · rw [ha0] at e1
        have HBV2 := Lib.hid (show bV 5 c = 32 :: c.arg by rw [HBV.out, if_neg]; simpa using ha0)
        clear ha0
        go_wp2_with fail
        go_ret2
        exact says_yes (by rw [HV.out]; rfl) (by rw [HBV2.out]) H3.out
      · rw [ha0] at e1
        have HBV2 := Lib.hid (show bV 5 c = [] by rw [HBV.out, if_pos]; simpa using ha0)
        clear ha0
        go_wp2_with fail
        go_ret2
        exact says_yes (by rw [HV.out]; rfl) (by rw [HBV2.out]; rfl) H3.out
theorem printSome_x : SaysC 132 6 := by
  intro w B c hFt hR hN hb
  have HX := Lib.hid (printText_x w B c hFt hR hN hb)
  have HV := Lib.hid (bE6 c)
  have HBV := Lib.hid (show bV 6 c = bV 5 c from rfl)
  have hTx := mkS_toList c.arg
  have e1 : c.arg.isEmpty = (c.arg == []) := by cases c.arg <;> rfl
  have c1 : w.cell? ⟨B, 1, none⟩ = some (.string (mkS c.arg)) := cellOf hb 1
  have HW := Lib.hid (show bW 6 c = if bE 6 c = 0 then bV 5 c else [] from rfl)
  have HW5 := Lib.hid (show bW 5 c = if bE 5 c = 0 then bV 5 c else [] from rfl)
  clear hFt hR hN hb
  cases ha0 : c.arg == []
  · rw [ha0] at e1
    have HE := Lib.hid (show bE 6 c = bE 5 c by rw [HV.out, if_neg]; simpa using ha0)
    have HW6 := Lib.hid (show bW 6 c = bW 5 c by rw [HW.out, HW5.out, HE.out])
    clear ha0 HV
    generalize bE 5 c = E at HX HE
    generalize bW 5 c = t at HX HW6
    go_enter Tryz.func132, Tryz.ntmps132
    go_wp2_with fail
    refine HX.out.mono ?_
    rintro e w1 ⟨rfl, hb⟩
    go_wp2_with fail
    go_ret2
    exact ⟨by first | (rw [HW6.out, HE.out]; done) | (rw [HW6.out, HE.out]; rfl), hb⟩
  · rw [ha0] at e1
    have HE := Lib.hid (show bE 6 c = 2 by rw [HV.out, if_pos]; simpa using ha0)
    clear ha0
    go_enter Tryz.func132, Tryz.ntmps132
    go_wp2_with fail
    go_ret2
    exact says_no HE.out (by decide) (Below.refl _ _)
end Go.Proofs.YtojpkbonioglbaaGreatDoor
