/-
  JgMsg · JgPlan, in one text.
-/
import Derived.Test.YtcedhgihebollaaGreatDoorMaJgM
import Derived.Test.YtcedhgihebollaaGreatDoorMaEvB
import Derived.Test.YtcedhgihebollaaGreatDoorMaPaD
import Derived.HandedShaped
import Derived.ProofKit
import Derived.SizedLaws
import Derived.Lib.SmallJoins
/-
  The walks of what judge asks of a message: Expires, warned, Deadline, returned; the kinds, and whether one is asked for.
-/
namespace Go.Proofs.YtcedhgihebollaaGreatDoor.E.J
set_option maxRecDepth 100000
open Go.RowKit Go.Shelf
abbrev msA (x : EM) (vr vl : Value) : Value := .agg #[.int .i64 x.id, .int .i64 x.at_, .int .i64 x.rel, .string (mkS x.fr.1), .string (mkS x.fr.2), .bool x.m.hs, .bool x.m.hf, .bool x.m.hu, .bool x.m.hb, .bool x.m.hp, .int .i64 x.m.sz, .int .i64 x.m.fo, .int .i64 x.m.un, .int .i64 x.m.by_, .int .i64 x.m.pr, .string (mkS x.m.body), .string (mkS x.m.ret), .string (mkS x.m.env), .string (mkS x.m.mode), vr, vl]
theorem jsize_mail : (Tryz.prog.info? 29).map (·.size) = some 14 := by kernel_rfl
theorem jsize_plan : (Tryz.prog.info? 23).map (·.size) = some 4 := by kernel_rfl
theorem jsize_st : (Tryz.prog.info? 41).map (·.size) = some 5 := by kernel_rfl
theorem jEC_m (x : EM) (vr vl : Value) : ∀ j, j < (#[Value.bool x.m.hs, .bool x.m.hf, .bool x.m.hu, .bool x.m.hb, .bool x.m.hp, .int .i64 x.m.sz, .int .i64 x.m.fo, .int .i64 x.m.un, .int .i64 x.m.by_, .int .i64 x.m.pr, .string (mkS x.m.body), .string (mkS x.m.ret), .string (mkS x.m.env), .string (mkS x.m.mode)] : Array Value).size → (EC x vr vl)[5 + j]? = (#[Value.bool x.m.hs, .bool x.m.hf, .bool x.m.hu, .bool x.m.hb, .bool x.m.hp, .int .i64 x.m.sz, .int .i64 x.m.fo, .int .i64 x.m.un, .int .i64 x.m.by_, .int .i64 x.m.pr, .string (mkS x.m.body), .string (mkS x.m.ret), .string (mkS x.m.env), .string (mkS x.m.mode)] : Array Value)[j]? := by
  intro j hj
  have hj' : j < 14 := hj
  match j, hj' with
  | 0, _ => rfl
  | 1, _ => rfl
  | 2, _ => rfl
  | 3, _ => rfl
  | 4, _ => rfl
  | 5, _ => rfl
  | 6, _ => rfl
  | 7, _ => rfl
  | 8, _ => rfl
  | 9, _ => rfl
  | 10, _ => rfl
  | 11, _ => rfl
  | 12, _ => rfl
  | 13, _ => rfl
  | j + 14, h => omega
/-- A plan's box, and a message's above it. -/
structure PB (W : World) (p : PJ) (x : EM) (vr vl : Value) (w : World) : Prop where
  pb : w.heap[W.heap.size]? = some (.cells #[.int .i64 p.base, .int .i64 p.most, .int .i64 p.life, .int .i64 p.warn] 23 (0, 0))
  mb : w.heap[W.heap.size + 1]? = some (.cells (EC x vr vl) 33 (0, 0))
  below : Below W.heap.size W w
theorem PB.new (w : World) (p : PJ) (x : EM) (vr vl : Value) : PB w p x vr vl ((w.alloc (.cells #[.int .i64 p.base, .int .i64 p.most, .int .i64 p.life, .int .i64 p.warn] 23)).alloc (.cells (EC x vr vl) 33)) := by
  have h1 := newOf w (.cells #[.int .i64 p.base, .int .i64 p.most, .int .i64 p.life, .int .i64 p.warn] 23)
  have b1 := below_box w (.cells #[.int .i64 p.base, .int .i64 p.most, .int .i64 p.life, .int .i64 p.warn] 23)
  have b2 := below_box (w.alloc (.cells #[.int .i64 p.base, .int .i64 p.most, .int .i64 p.life, .int .i64 p.warn] 23)) (.cells (EC x vr vl) 33)
  refine ⟨(b2.block _ (ltOf h1)).trans h1, ?_, below_next b1 b2⟩
  have := newOf (w.alloc (.cells #[.int .i64 p.base, .int .i64 p.most, .int .i64 p.life, .int .i64 p.warn] 23)) (.cells (EC x vr vl) 33)
  rwa [show (w.alloc (.cells #[.int .i64 p.base, .int .i64 p.most, .int .i64 p.life, .int .i64 p.warn] 23)).heap.size = w.heap.size + 1 by simp] at this
theorem PB.next {W w w' : World} {p : PJ} {x : EM} {vr vl : Value} (h : PB W p x vr vl w) (hb : Below w.heap.size w w') : PB W p x vr vl w' := ⟨(hb.block _ (ltOf h.pb)).trans h.pb, (hb.block _ (ltOf h.mb)).trans h.mb, below_next h.below hb⟩
set_option maxHeartbeats 4000000 in
theorem expires_x (p : PJ) (x : EM) (vr vl : Value) (w : World) (hp : okP p = true) (hx : BdJ x) : Calls Tryz.prog 14 #[plA p, msA x vr vl] w fun e w' => e = .returned (.int .i64 (expJ p x)) ∧ Below w.heap.size w w' := by
  obtain ⟨_, _, ⟨l1, l2⟩, _⟩ := okP_iff.1 hp
  obtain ⟨a1, a2⟩ := hx.at_
  have HB := Lib.hid (PB.new w p x vr vl)
  have HS := Lib.hid (fun w => jsum_x x.at_ p.life w ⟨by omega, by omega⟩ ⟨by omega, by omega⟩)
  have c1 := cellOf HB.out.mb 1
  have c2 := cellOf HB.out.pb 2
  unfold expJ plA msA
  unfold EC at HB c1 c2
  simp only [List.getElem?_toArray, List.getElem?_cons_succ, List.getElem?_cons_zero] at c1 c2
  clear hp hx l1 l2 a1 a2
  go_enter Tryz.func14, Tryz.ntmps14
  go_wp2_with fail
  refine (HS.out _).mono ?_
  rintro e w' ⟨rfl, rfl⟩
  go_wp2_with fail
  go_ret
  exact ⟨rfl, HB.out.below⟩
set_option maxHeartbeats 4000000 in
theorem warned_x (p : PJ) (x : EM) (vr vl : Value) (w : World) (hp : okP p = true) (hx : BdJ x) : Calls Tryz.prog 30 #[plA p, msA x vr vl] w fun e w' => e = .returned (.int .i64 (warJ p x)) ∧ Below w.heap.size w w' := by
  obtain ⟨_, _, _, l1, l2⟩ := okP_iff.1 hp
  obtain ⟨a1, a2⟩ := hx.at_
  have HB := Lib.hid (PB.new w p x vr vl)
  have HS := Lib.hid (fun w => jsum_x x.at_ p.warn w ⟨by omega, by omega⟩ ⟨by omega, by omega⟩)
  have c1 := cellOf HB.out.mb 1
  have c2 := cellOf HB.out.pb 3
  unfold warJ plA msA
  unfold EC at HB c1 c2
  simp only [List.getElem?_toArray, List.getElem?_cons_succ, List.getElem?_cons_zero] at c1 c2
  clear hp hx l1 l2 a1 a2
  go_enter Tryz.func30, Tryz.ntmps30
  go_wp2_with fail
  refine (HS.out _).mono ?_
  rintro e w' ⟨rfl, rfl⟩
  go_wp2_with fail
  go_ret
  exact ⟨rfl, HB.out.below⟩
/-- A message's box alone. -/
structure OB (W : World) (x : EM) (vr vl : Value) (w : World) : Prop where
  box : w.heap[W.heap.size]? = some (.cells (EC x vr vl) 33 (0, 0))
  below : Below W.heap.size W w
theorem OB.new (w : World) (x : EM) (vr vl : Value) : OB w x vr vl (w.alloc (.cells (EC x vr vl) 33)) := ⟨newOf w _, (Below.refl _ w).alloc (Nat.le_refl _) _⟩
def dlV (x : EM) : Int := if x.m.hb then dlJ x else 0
set_option maxHeartbeats 4000000 in
theorem deadline_x (x : EM) (vr vl : Value) (w : World) (hx : BdJ x) : Calls Tryz.prog 17 #[msA x vr vl] w fun e w' => e = .returned (.tuple #[.int .i64 (dlV x), .bool x.m.hb]) ∧ Below w.heap.size w w' := by
  obtain ⟨a1, a2⟩ := hx.at_
  have HB := Lib.hid (OB.new w x vr vl)
  have c1 : (w.alloc (.cells (EC x vr vl) 33)).cell? ⟨w.heap.size, 1, none⟩ = some (.int .i64 x.at_) := cellOf HB.out.box 1
  have c8 : (w.alloc (.cells (EC x vr vl) 33)).cell? ⟨w.heap.size, 8, none⟩ = some (.bool x.m.hb) := cellOf HB.out.box 8
  have c13 : (w.alloc (.cells (EC x vr vl) 33)).cell? ⟨w.heap.size, 13, none⟩ = some (.int .i64 x.m.by_) := cellOf HB.out.box 13
  unfold EC at HB c1 c8 c13
  unfold dlV msA
  cases hb : x.m.hb
  · rw [hb] at HB c8
    clear hx a1 a2 c1 c13
    go_enter Tryz.func17, Tryz.ntmps17
    go_wp2_with fail
    go_ret2
    exact ⟨rfl, HB.out.below⟩
  · obtain ⟨b1, b2⟩ := hx.by_ hb
    rw [hb] at HB c1 c8 c13
    have HS := Lib.hid (fun w => jsum_x x.at_ x.m.by_ w ⟨by omega, by omega⟩ ⟨by omega, by omega⟩)
    clear hx a1 a2 b1 b2
    unfold dlJ
    go_enter Tryz.func17, Tryz.ntmps17
    go_wp2_with fail
    refine (HS.out _).mono ?_
    rintro e w' ⟨rfl, rfl⟩
    go_wp2_with fail
    go_ret2
    exact ⟨rfl, HB.out.below⟩
abbrev mlA (m : ML) : Value := .agg #[.bool m.hs, .bool m.hf, .bool m.hu, .bool m.hb, .bool m.hp, .int .i64 m.sz, .int .i64 m.fo, .int .i64 m.un, .int .i64 m.by_, .int .i64 m.pr, .string (mkS m.body), .string (mkS m.ret), .string (mkS m.env), .string (mkS m.mode)]
set_option maxHeartbeats 4000000 in
theorem returned_x (m : ML) (w : World) : Calls Tryz.prog 29 #[mlA m] w fun e w' => e = .returned (.bool (backB m.mode)) ∧ Below w.heap.size w w' := by
  have HB := Lib.hid (below_box w (.cells #[.bool m.hs, .bool m.hf, .bool m.hu, .bool m.hb, .bool m.hp, .int .i64 m.sz, .int .i64 m.fo, .int .i64 m.un, .int .i64 m.by_, .int .i64 m.pr, .string (mkS m.body), .string (mkS m.ret), .string (mkS m.env), .string (mkS m.mode)] 29))
  have e1 : ((mkS m.mode).toList == [82]) = (m.mode == [82]) := by rw [mkS_toList]
  have e2 : ((mkS m.mode).toList == [82, 84]) = (m.mode == [82, 84]) := by rw [mkS_toList]
  unfold backB mlA
  cases h1 : m.mode == [82] <;> cases h2 : m.mode == [82, 84]
  all_goals
    rw [h1] at e1
    rw [h2] at e2
    clear h1 h2
    go_enter Tryz.func29, Tryz.ntmps29
    go_wp2_with fail
    go_ret
    exact ⟨rfl, HB.out⟩
/- The kinds. -/
abbrev kdA (k : KJ) : Value := .agg #[.int .i64 k.bit, .string ⟨#[k.c]⟩, .bool k.un]
def kdF (s : Txt) : Option Value := if s = kG.name then some (kdA kG) else if s = kS.name then some (kdA kS) else if s = kF.name then some (kdA kF) else if s = kD.name then some (kdA kD) else none
theorem kdF_of {k : KJ} (h : kindB4 k) : kdF k.name = some (kdA k) := by rcases h with rfl | rfl | rfl | rfl <;> rfl
set_option maxHeartbeats 4000000 in
theorem kinds_x (w : World) : Calls Tryz.prog 28 #[] w fun e w' => ∃ M, e = .returned (.map (some M)) ∧ Below w.heap.size w w' ∧ MapIs w' M 4 kdF := by
  have hmm := @run_makeMap Tryz.prog
  have h0 := MapIs.made w
  have hb0 : Below w.heap.size w (w.alloc (.map #[] 0)) := below_box w _
  obtain ⟨w1, r1, m1, g1⟩ := h0.put Tryz.underlying77 (by omega) (k := kD.name) (by decide) (.agg #[.int .i64 1, .string ⟨#[68]⟩, .bool true])
  obtain ⟨w2, r2, m2, g2⟩ := m1.put Tryz.underlying77 (by omega) (k := kF.name) (by decide) (.agg #[.int .i64 2, .string ⟨#[70]⟩, .bool true])
  obtain ⟨w3, r3, m3, g3⟩ := m2.put Tryz.underlying77 (by omega) (k := kS.name) (by decide) (.agg #[.int .i64 4, .string ⟨#[83]⟩, .bool false])
  obtain ⟨w4, r4, m4, g4⟩ := m3.put Tryz.underlying77 (by omega) (k := kG.name) (by decide) (.agg #[.int .i64 4, .string ⟨#[83]⟩, .bool false])
  rw [show mkS kD.name = { data := #[100, 101, 108, 97, 121, 101, 100] } from rfl] at r1
  rw [show mkS kF.name = { data := #[102, 97, 105, 108, 101, 100] } from rfl] at r2
  rw [show mkS kS.name = { data := #[100, 101, 108, 105, 118, 101, 114, 101, 100] } from rfl] at r3
  rw [show mkS kG.name = { data := #[114, 101, 108, 97, 121, 101, 100] } from rfl] at r4
  have HB := Lib.hid (show Below w.heap.size w w4 by
    have s0 : w.heap.size ≤ (w.alloc (.map #[] 0)).heap.size := by simp
    have s1 := g1.size; have s2 := g2.size; have s3 := g3.size
    exact (((hb0.grown g1 (by omega) (fun k e => by cases e; omega)).grown g2 (by omega) (fun k e => by cases e; omega)).grown g3 (by omega) (fun k e => by cases e; omega)).grown g4 (by omega) (fun k e => by cases e; omega))
  have HM := Lib.hid (m4.congr (g := kdF) (fun s => by
    unfold kdF updF
    rfl))
  clear m1 m2 m3 m4 g1 g2 g3 g4 hb0 h0
  go_enter Tryz.func28, Tryz.ntmps28
  go_wp2_with fail
  go_ret
  exact ⟨w.heap.size, rfl, HB.out, HM.out⟩
set_option maxHeartbeats 4000000 in
theorem asked_x (k : KJ) (no : Txt) (f : Bool) (w : World) : Calls Tryz.prog 37 #[kdA k, .string (mkS no), .bool f] w fun e w' => e = .returned (.bool (askJ k no f)) ∧ Below w.heap.size w w' := by
  have HB := Lib.hid (below_box w (.cells #[.int .i64 k.bit, .string ⟨#[k.c]⟩, .bool k.un] 76))
  have HC := Lib.hid (fun w => contains_x no k.c w)
  have e1 : ((mkS no).toList == [78]) = (no == [78]) := by rw [mkS_toList]
  have e2 : ((mkS no).toList == []) = (no == []) := by rw [mkS_toList]
  have e3 : (mkS no).toList.isEmpty = (no == []) := by rw [mkS_toList]; cases no <;> rfl
  have HAS := Lib.hid (show askJ k no f = (!(no == [78]) && (f || (if no == [] then k.un else no.contains k.c))) from rfl)
  generalize askJ k no f = A at HAS ⊢
  unfold kdA
  generalize no.contains k.c = ct at HC HAS
  cases h1 : no == [78]
  · cases f
    · cases h2 : no == []
      · have HE := Lib.hid (show ct = A by rw [HAS.out, h1, h2]; simp)
        rw [h1] at e1
        rw [h2] at e2 e3
        clear h1 h2 HAS
        go_enter Tryz.func37, Tryz.ntmps37
        go_wp2_with fail
        refine (HC.out _).mono ?_
        rintro e w' ⟨rfl, rfl⟩
        go_wp2_with fail
        go_ret
        exact ⟨ret_bool HE.out, HB.out⟩
      · have HE := Lib.hid (show k.un = A by rw [HAS.out, h1, h2]; simp)
        rw [h1] at e1
        rw [h2] at e2 e3
        clear h1 h2 HAS
        go_enter Tryz.func37, Tryz.ntmps37
        go_wp2_with fail
        go_ret
        exact ⟨ret_bool HE.out, HB.out⟩
    · have HE := Lib.hid (show true = A by rw [HAS.out, h1]; simp)
      rw [h1] at e1
      clear h1 e2 e3 HAS
      go_enter Tryz.func37, Tryz.ntmps37
      go_wp2_with fail
      go_ret
      exact ⟨ret_bool HE.out, HB.out⟩
  · have HE := Lib.hid (show false = A by rw [HAS.out, h1]; simp)
    rw [h1] at e1
    clear h1 e2 e3 HAS
    go_enter Tryz.func37, Tryz.ntmps37
    go_wp2_with fail
    go_ret
    exact ⟨ret_bool HE.out, HB.out⟩
end Go.Proofs.YtcedhgihebollaaGreatDoor.E.J
/-
  What a plan is, as the rows read it.
-/
namespace Go.Proofs.YtcedhgihebollaaGreatDoor.E.J
set_option maxRecDepth 100000
open Go.ChangeShapes Go.WideShapes Go.ChangeAt Go.RowKit
theorem arg_plan {H : Type} {enc : TypeId × Value → H} {W : World} {base : Nat} {v : Value} {d : DataW H} {p : List MemPlace} (hv : Value.okWide Tryz.prog W .any base 23 v) (h : DataW.Trod enc Tryz.prog W 0 (fun _ => true) true 23 v d p) :
    ∃ x : PJ, v = plA x := by
  obtain ⟨v0, v1, v2, v3, y0, y1, y2, y3, n, rfl, _, _, h0, h1, h2, h3⟩ := Joins.open_agg4 Tryz.underlying23 (by kernel_rfl) (by kernel_rfl) hv h
  obtain ⟨a, e0, _⟩ := DataW.trod_int Tryz.underlying3 h0
  obtain ⟨b, e1, _⟩ := DataW.trod_int Tryz.underlying3 h1
  obtain ⟨c, e2, _⟩ := DataW.trod_int Tryz.underlying3 h2
  obtain ⟨d, e3, _⟩ := DataW.trod_int Tryz.underlying3 h3
  injection e0 with e0
  injection e1 with e1
  injection e2 with e2
  injection e3 with e3
  subst e0 e1 e2 e3
  exact ⟨⟨a, b, c, d⟩, rfl⟩
end Go.Proofs.YtcedhgihebollaaGreatDoor.E.J
