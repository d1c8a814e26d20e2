/-
  PtParts · PtOf · PtRight · PtQuote · PtPrint, in one text.
-/
import Derived.Test.YtojpkbonioglbaaGreatDoorMaPt
import Derived.RangeFuncNested
import Derived.RangeFuncBound
import Derived.RangeFuncCalls
import Derived.RangeFuncLeaves
import Derived.RangeFuncBox
import Derived.Shelf.Abstract
import Derived.Shelf.RegionOpen
import Derived.OwnWalkIn
import Derived.TacticsInMore
import Derived.LoopNIn
import Derived.LoopIn
import Derived.Test.YtojpkbonioglbaaGreatDoorMaBuild
/-
  The walks of path's isLabel, and of parts: the range over the parts of a text.
-/
namespace Go.Proofs.YtojpkbonioglbaaGreatDoor.P
set_option maxRecDepth 100000
open Go.RowKit Go.Shelf

theorem kind_lab : Kind 121 labB := fun b w => inLabel_x b w
theorem kind_atom : Kind 137 atomB := fun b w => inAtom_x b w
theorem kind_print : Kind 159 printB := fun b w => printable_x b w
theorem everyL_x (l : List UInt8) (w : World) (hl : l.length ≤ 1000000000000) : Calls Tryz.prog 120 #[.string (mkS l), .func (.func 121) #[] #[]] w fun e w' => e = .returned (.bool (l.all labB)) ∧ w = w' :=
  every_x _ _ kind_lab (enters_of Tryz.func121 (by kernel_rfl) rfl) l w hl
theorem everyA_x (l : List UInt8) (w : World) (hl : l.length ≤ 1000000000000) : Calls Tryz.prog 120 #[.string (mkS l), .func (.func 137) #[] #[]] w fun e w' => e = .returned (.bool (l.all atomB)) ∧ w = w' :=
  every_x _ _ kind_atom (enters_of Tryz.func137 (by kernel_rfl) rfl) l w hl
theorem everyP_x (l : List UInt8) (w : World) (hl : l.length ≤ 1000000000000) : Calls Tryz.prog 120 #[.string (mkS l), .func (.func 159) #[] #[]] w fun e w' => e = .returned (.bool (l.all printB)) ∧ w = w' :=
  every_x _ _ kind_print (enters_of Tryz.func159 (by kernel_rfl) rfl) l w hl

set_option maxRecDepth 100000 in
set_option maxHeartbeats 1000000 in
theorem isLabel_x (l : List UInt8) (w : World) (hl : l.length ≤ 1000000000000) :
    Calls Tryz.prog 89 #[.string (mkS l)] w fun e w' => e = .returned (.bool (isLab l)) ∧ w = w' := by
  have hT := mkS_toList l
  have HE := Lib.hid (fun w => everyL_x l w hl)
  cases hc : l with
  | nil =>
    subst hc
    have hms := mkS_size []
    go_enter Tryz.func89, Tryz.ntmps89
    go_wp2_with fail
    go_ret
    exact ⟨rfl, rfl⟩
  | cons b t =>
    obtain ⟨m, hm⟩ : ∃ m, t.length = m := ⟨_, rfl⟩
    have hlen : l.length = m + 1 := by rw [hc, List.length_cons, hm]
    have hms : (mkS l).size = m + 1 := (mkS_size l).trans hlen
    have hne : l ≠ [] := by rw [hc]; simp
    have hx : (mkS l)[0]'(by omega) = b := mkS_get (by omega) (by rw [hc]; rfl)
    obtain ⟨y, hY⟩ : ∃ y : UInt8, l[m]? = some y := ⟨_, List.getElem?_eq_getElem (by omega)⟩
    have hy : (mkS l)[m]'(by omega) = y := mkS_get (by omega) hY
    have HV := Lib.hid (show isLab l = (decide (m + 1 ≤ 63) && b != 45 && y != 45 && l.all labB) by
      have h1 : l.head? = some b := by rw [hc]; rfl
      have h2 : l.getLast? = some y := by rw [List.getLast?_eq_getElem?, hlen, Nat.add_sub_cancel, hY]
      rw [isLab, h1, h2, hlen]
      have h3 : (l != []) = true := bne_iff_ne.2 hne
      rw [h3, Bool.true_and]
      rfl)
    have hem : (l == []) = false := beq_eq_false_iff_ne.2 hne
    have hem2 : l.isEmpty = false := by rw [hc]; rfl
    have d1 : decide ((m : Int) + 1 ≤ 63) = decide (m + 1 ≤ 63) := dle2 (m + 1) 63 63 rfl
    have d2 : ((b.toNat : Int) != 45) = (b != 45) := byte_bne b 45 (by decide) 45 rfl
    have d3 : ((y.toNat : Int) != 45) = (y != 45) := byte_bne y 45 (by decide) 45 rfl
    rw [← hc]
    generalize l.all labB = q4 at HE HV
    generalize decide (m + 1 ≤ 63) = q1 at d1 HV
    generalize (b != 45) = q2 at d2 HV
    generalize (y != 45) = q3 at d3 HV
    clear hc hY hne
    cases q1
    · go_enter Tryz.func89, Tryz.ntmps89
      go_wp2_with fail
      go_ret
      exact ⟨ret_bool (by rw [HV.out]; rfl), rfl⟩
    cases q2
    · go_enter Tryz.func89, Tryz.ntmps89
      go_wp2_with fail
      go_ret
      exact ⟨ret_bool (by rw [HV.out]; rfl), rfl⟩
    cases q3
    · go_enter Tryz.func89, Tryz.ntmps89
      go_wp2_with fail
      go_ret
      exact ⟨ret_bool (by rw [HV.out]; rfl), rfl⟩
    go_enter Tryz.func89, Tryz.ntmps89
    go_wp2_with fail
    refine (HE.out _).mono ?_
    rintro e w1 ⟨rfl, rfl⟩
    go_wp2_with fail
    go_ret
    exact ⟨ret_bool (by rw [HV.out]; rfl), rfl⟩

theorem parts_x (s : List UInt8) (w : World) :
    Calls Tryz.prog 88 #[.string (mkS s)] w fun e w' => e = .returned (.func (.func 118) #[] #[.pointer (some ⟨w.heap.size, 0, none⟩)]) ∧ w' = w.alloc (.cells #[.string (mkS s)] 9) := by
  go_enter Tryz.func88, Tryz.ntmps88
  go_wp2_with fail
  go_ret
  exact ⟨rfl, rfl⟩

/-- How much is left of the range over parts. -/
def ptMeas : Value → Value → Nat
  | .string b, .bool true => b.size + 1
  | _, _ => 0
theorem grown_drewN (w : World) (n : Nat) : w.grownBy (w.drewN n) none := ⟨rfl, rfl, rfl, Nat.le_refl _, fun _ _ _ => rfl⟩
theorem abides_drewN {β : Type} {B : Nat} {J : β → World → Prop} (h : AbidesFrom B J) {s : β} {W : World} (hs : J s W) (n : Nat) : J s (W.drewN n) := h s W _ none hs (grown_drewN W n) (fun r e => by cases e)
theorem post_len {c : UInt8} {r : List UInt8} (h : hasC c r = true) : (postC c r).length < r.length := by
  have := (cut_of h).2
  have e := congrArg List.length this
  simp at e
  omega
theorem post_le (c : UInt8) (r : List UInt8) : (postC c r).length ≤ r.length := by
  cases h : hasC c r
  · rw [(cut_no h).2]; simp
  · exact Nat.le_of_lt (post_len h)
theorem pre_le (c : UInt8) (r : List UInt8) : (preC c r).length ≤ r.length := by
  cases h : hasC c r
  · rw [(cut_no h).1]; exact Nat.le_refl _
  · have := congrArg List.length (cut_of h).2
    simp at this
    omega

/-- A text of a size that memory can hold: what a round is told of what it is handed. -/
def capL (x : List UInt8) : List UInt8 := x.take 1000000000000
theorem capL_le (x : List UInt8) : (capL x).length ≤ 1000000000000 := by simp [capL]; omega
theorem capL_id {x : List UInt8} (h : x.length ≤ 1000000000000) : capL x = x := List.take_of_length_le h
theorem split_le (s : List UInt8) : ∀ x ∈ splitD s, x.length ≤ s.length := by
  have : ∀ (l acc : List UInt8), ∀ x ∈ splitG acc l, x.length ≤ acc.length + l.length := by
    intro l
    induction l with
    | nil => intro acc x hx; simp [splitG] at hx; subst hx; simp
    | cons b t ih =>
      intro acc x hx
      rw [splitG] at hx
      split at hx
      · rcases List.mem_cons.1 hx with rfl | hx
        · simp
        · have := ih [] x hx; simp at this; simp; omega
      · have := ih (acc ++ [b]) x hx; simp at this; simp; omega
  intro x hx
  have := this s [] x hx
  simpa using this
theorem cap_all (f : List UInt8 → Bool) (s : List UInt8) (hs : s.length ≤ 1000000000000) : (splitD s).all (fun x => f (capL x)) = (splitD s).all f := by
  rw [Bool.eq_iff_iff, List.all_eq_true, List.all_eq_true]
  refine forall_congr' fun x => forall_congr' fun hx => ?_
  rw [capL_id (Nat.le_trans (split_le s x hx) hs)]

attribute [local go_sem] Oper.semAt_some
set_option maxRecDepth 100000 in
set_option maxHeartbeats 2000000 in
theorem parts1_in (n : Nat) (hn : 1 ≤ n) (l Bs n₀ B : Nat) (s : List UInt8) (hs : s.length ≤ 1000000000000) (J Jx : List (List UInt8) → World → Prop) (hJ : AbidesFrom B J)
    (hY : ∀ pre x W, J pre W → pre.length < (splitD s).length → YieldAt Fence.wide (n - 1) Tryz.prog l #[.string (mkS (capL x))] W fun e W' =>
      (e = .returned (.bool true) ∧ J (pre ++ [x]) W' ∧ Below n₀ W W') ∨ (e = .returned (.bool false) ∧ Jx (pre ++ [x]) W'))
    (W : World) (hBs : W.cell? ⟨Bs, 0, none⟩ = some (.string (mkS s))) (h0 : J [] W) :
    CallsIn Fence.wide n Tryz.prog 118 #[.func (.yield l) #[] #[], .pointer (some ⟨Bs, 0, none⟩)] W fun e W' => (∃ v, e = .returned v) ∧
      ((∃ ys, ys = splitD s ∧ J ys W') ∨ (∃ pre, pre <+: splitD s ∧ Jx pre W')) := by
  refine callsIn_of_wp Tryz.func118 rfl trivial ?_ rfl
  simp only [Tryz.ntmps118, List.size_toArray, List.length_cons, List.length_nil, Nat.reduceAdd, Nat.reduceSub, Array.replicate_succ, Array.replicate_zero, List.push_toArray, List.append_toArray, List.nil_append, List.cons_append]
  gi_wp2
  gi_loopw [3, 4] (fun rest more wr => ∃ (pre post : List (List UInt8)) (r : List UInt8), rest = .string (mkS r) ∧ splitD s = pre ++ post ∧ J pre wr ∧ r.length ≤ s.length ∧ ((more = .bool true ∧ post = splitD r) ∨ (more = .bool false ∧ post = [])))
    (fun rest more _ => ptMeas rest more)
  case atStart => exact ⟨[], splitD s, s, rfl, rfl, h0, Nat.le_refl _, .inl ⟨rfl, rfl⟩⟩
  case round =>
    obtain ⟨pre, post, r, rfl, hp, hJs, hr, ⟨rfl, rfl⟩ | ⟨rfl, rfl⟩⟩ := hrel
    · have hlen : pre.length < (splitD s).length := by
        rw [hp]
        cases hh : hasC 46 r
        · rw [splitD_no hh]; simp
        · rw [splitD_yes hh]; simp
      have hsp : (hasC 46 r = true ∧ splitD r = preC 46 r :: splitD (postC 46 r) ∧ (postC 46 r).length < r.length) ∨ (hasC 46 r = false ∧ splitD r = [preC 46 r]) := by
        cases hh : hasC 46 r
        · exact .inr ⟨rfl, by rw [splitD_no hh, (cut_no hh).1]⟩
        · exact .inl ⟨rfl, splitD_yes hh, post_len hh⟩
      have hpl := post_le 46 r
      have hxl := pre_le 46 r
      have HC := Lib.hid (fun w => cut_x 46 r w (by omega))
      generalize preC 46 r = x at hsp HC hxl
      generalize postC 46 r = r' at hsp HC hpl
      generalize hasC 46 r = q at hsp HC
      have HSP := Lib.hid hsp
      clear hsp
      gi_wp2
      refine ⟨trivial, (callsIn_wide.2 (HC.out _)).mono ?_⟩
      rintro e w1 ⟨rfl, k, rfl⟩
      have hJ1 := abides_drewN hJ hJs k
      obtain ⟨fn, tmps, assign, body, hy, hR⟩ := hY pre x (wr.drewN k) hJ1 hlen
      rw [capL_id (show x.length ≤ 1000000000000 by omega)] at hy
      gi_wp2
      refine hR.mono ?_
      rintro e W3 (⟨rfl, hJ3, hk3⟩ | ⟨rfl, hJx3⟩)
      · gi_wp2
        go_roundw
        case rel =>
          rcases HSP.out with ⟨rfl, h2, h3⟩ | ⟨rfl, h2⟩
          · exact ⟨pre ++ [x], splitD r', r', rfl, by rw [hp, h2]; simp, hJ3, by omega, .inl ⟨rfl, rfl⟩⟩
          · exact ⟨pre ++ [x], [], r', rfl, by rw [hp, h2]; simp, hJ3, by omega, .inr ⟨rfl, rfl⟩⟩
        case measure =>
          rcases HSP.out with ⟨rfl, h2, h3⟩ | ⟨rfl, h2⟩
          · simp only [ptMeas, mkS_size]; omega
          · simp only [ptMeas]; omega
      · gi_wp2
        refine bodyPost_ret (results_none rfl _ _ _) rfl ?_
        refine ⟨⟨_, rfl⟩, .inr ⟨pre ++ [x], ?_, hJx3⟩⟩
        rcases HSP.out with ⟨rfl, h2, h3⟩ | ⟨rfl, h2⟩
        · exact ⟨splitD r', by rw [hp, h2]; simp⟩
        · exact ⟨[], by rw [hp, h2]; simp⟩
    · gi_wp2
      go_end0
      exact ⟨⟨_, rfl⟩, .inl ⟨pre, by rw [hp, List.append_nil], hJs⟩⟩
theorem parts_stops (n : Nat) (hn : 1 ≤ n) (Bs n₀ : Nat) (s : List UInt8) (hs : s.length ≤ 1000000000000) (w : World) (hBs : Bs < w.heap.size) (hc : w.cell? ⟨Bs, 0, none⟩ = some (.string (mkS s))) :
    SeqStopsK Fence.wide n Tryz.prog 118 #[.pointer (some ⟨Bs, 0, none⟩)] (fun x : List UInt8 => #[Value.string (mkS (capL x))]) (Below n₀) (fun ys => ys = splitD s) (fun pre => pre <+: splitD s) (splitD s).length w := fun l J Jx W hW hJ _ hY h0 =>
  parts1_in n hn l Bs n₀ W.heap.size s hs J Jx hJ hY W ((hW.cell (p := ⟨Bs, 0, none⟩) hBs).trans hc) h0
end Go.Proofs.YtojpkbonioglbaaGreatDoor.P
/-
  The walks of path's ofLabels and ofAtoms.
-/
namespace Go.Proofs.YtojpkbonioglbaaGreatDoor.P
set_option maxRecDepth 100000
open Go.RowKit Go.Shelf
attribute [local go_sem] Oper.semAt_some
/-- A new cell, and one that lay ahead of a new block. -/
theorem one_new (w : World) (v : Value) (t : TypeId) : (w.alloc (.cells #[v] t)).cell? ⟨w.heap.size, 0, none⟩ = some v ∧ (w.alloc (.cells #[v] t)).frozen? ⟨w.heap.size, 0, none⟩ = false :=
  ⟨cellOf (newOf w _) 0, freeOf (newOf w _) 0⟩
theorem one_old {w : World} {a : Addr} {v : Value} (o : Obj) (h : w.cell? a = some v ∧ w.frozen? a = false) : (w.alloc o).cell? a = some v ∧ (w.alloc o).frozen? a = false :=
  ⟨cell_kept h.1 (World.grownBy_alloc w o none) (fun r e => by cases e), (frozen_kept h.1 (World.grownBy_alloc w o none) (fun r e => by cases e)).trans h.2⟩

set_option maxRecDepth 100000 in
set_option maxHeartbeats 2000000 in
theorem labels_x (s : List UInt8) (w : World) (hs : s.length ≤ 1000000000000) :
    Calls Tryz.prog 60 #[.string (mkS s)] w fun e w' => e = .returned (.bool (labels s)) ∧ Below w.heap.size w w' := by
  have HALL := Lib.hid (show (splitD s).all (fun x => isLab (capL x)) = labels s from cap_all isLab s hs)
  refine (callsIn_wide (n := 4)).1 ?_
  refine callsIn_of_wp_marks Tryz.func60 rfl trivial ?_ rfl
  simp only [Tryz.ntmps60, List.size_toArray, List.length_cons, List.length_nil, Nat.reduceAdd, Nat.reduceSub, Array.replicate_succ, Array.replicate_zero, List.push_toArray, List.append_toArray, List.nil_append, List.cons_append]
  gi_wp2_with (refine ⟨trivial, ?_⟩; gi_at_call 88; refine (callsIn_wide.2 (parts_x s _)).mono ?_; rintro e w' ⟨rfl, rfl⟩)
  have c1 := one_new w (.bool false) 4
  have c2 := one_new (w.alloc (.cells #[.bool false] 4)) (.string (mkS s)) 9
  simp only [World.size_alloc] at c1 c2
  have hB0 : Below w.heap.size w ((w.alloc (.cells #[.bool false] 4)).alloc (.cells #[.string (mkS s)] 9)) := ((Below.refl _ w).alloc (Nat.le_refl _) _).alloc (by simp) _
  refine wpIn_rangeFunc_ownF rfl (by omega) (gf := 118) (lb := #[.pointer (some ⟨w.heap.size + 1, 0, none⟩)]) rfl trivial (enters_of Tryz.func118 (by kernel_rfl) rfl)
    (parts_stops 3 (by omega) (w.heap.size + 1) w.heap.size s hs _ (by simp) c2.1) belowK_t (belowK_b (by simp; omega)) (Below.refl _ _) (fun _ => rfl)
    (fun pre W => (pre.all (fun x => isLab (capL x)) = true ∧ W.cell? ⟨w.heap.size, 0, none⟩ = some (.bool false) ∧ W.frozen? ⟨w.heap.size, 0, none⟩ = false) ∧ Below w.heap.size w W)
    (fun c pre W => (c = .ret ∧ pre.all (fun x => isLab (capL x)) = false ∧ W.cell? ⟨w.heap.size, 0, none⟩ = some (.bool false)) ∧ Below w.heap.size w W)
    (OwnFrom.and (Own.from (fun s A B row hs hg hr => ⟨hs.1, cell_kept hs.2.1 hg hr, (frozen_kept hs.2.1 hg hr).trans hs.2.2⟩) _) (ownFrom_below (Nat.le_refl _) (by simp; omega)))
    (fun c => OwnFrom.and (Own.from (fun s A B row hs hg hr => ⟨hs.1, hs.2.1, cell_kept hs.2.2 hg hr⟩) _) (ownFrom_below (Nat.le_refl _) (by simp; omega)))
    ⟨⟨rfl, one_old _ c1⟩, hB0⟩
    (fun x => { tmps := #[.string (mkS s), undef, .pointer (some ⟨w.heap.size, 0, none⟩), .string (mkS (capL x)), .string (mkS s), .func (.func 118) #[] #[.pointer (some ⟨w.heap.size + 1, 0, none⟩)], .string (mkS (capL x)), undef, undef, undef], defers := [] }) ?assign ?body ?done ?stop
  case assign =>
    intro l x W K hK
    gi_wp2
    exact hK
  case body =>
    rintro l pre x W ⟨⟨hp, hcr, hfr⟩, hB⟩ _
    have HP := Lib.hid hp
    have HX := Lib.hid (show (pre ++ [x]).all (fun x => isLab (capL x)) = isLab (capL x) by rw [List.all_append, hp]; simp)
    have hxl := capL_le x
    generalize capL x = y at HX hxl ⊢
    clear hp
    have HC := Lib.hid (fun w => isLabel_x y w hxl)
    generalize isLab y = q at HX HC
    cases q
    · gi_wp2_with (refine ⟨trivial, ?_⟩; gi_at_call 89; refine (CallsIn.inRound l (callsIn_wide.2 (HC.out _))).mono ?_; rintro e w' ⟨rfl, rfl⟩)
      exact ⟨KeepsOthers.setCell _ _ _, ⟨rfl, HX.out, World.cell?_setCell_same' _ _ _ (by rw [hcr]; rfl)⟩, hB.setCell (p := ⟨w.heap.size, 0, none⟩) (Nat.le_refl _) _⟩
    · gi_wp2_with (refine ⟨trivial, ?_⟩; gi_at_call 89; refine (CallsIn.inRound l (callsIn_wide.2 (HC.out _))).mono ?_; rintro e w' ⟨rfl, rfl⟩)
      exact ⟨KeepsOthers.refl _, Below.refl _ _, ⟨HX.out, hcr, hfr⟩, hB⟩
  case done =>
    rintro D ys W hD rfl ⟨⟨hall, hcr, hfr⟩, hB⟩ hK
    gi_wp2
    have hK' := (KeepsOthers.setCell W ⟨w.heap.size, 0, none⟩ (.bool true)).same D _ hK rfl
    refine ⟨by simp, .inl ⟨_, _, rfl, run_takeDeferred hK', ?_⟩⟩
    have hc5 := cell_kept (World.cell?_setCell_same' W ⟨w.heap.size, 0, none⟩ (.bool true) (by rw [hcr]; rfl)) (grownBy_putObj' _ D (.deferred none)) (fun r e => by cases e; exact ⟨_, hK', rfl⟩)
    refine ⟨.bool true, ?_, by rw [← HALL.out, hall], (hB.setCell (p := ⟨w.heap.size, 0, none⟩) (Nat.le_refl _) _).trans (belowK_b (w := w) (Nat.le_refl _) _ D _ _ (by simp at hD; omega) hK' rfl rfl)⟩
    simp [results, Tryz.f60, go_sem, hc5]
  case stop =>
    rintro D c pre W hD hpre ⟨⟨rfl, hin, hcr⟩, hB⟩ hK
    gi_wp2
    refine ⟨by simp, .inl ⟨_, _, rfl, run_takeDeferred hK, ?_⟩⟩
    have hc5 := cell_kept hcr (grownBy_putObj' _ D (.deferred none)) (fun r e => by cases e; exact ⟨_, hK, rfl⟩)
    refine ⟨.bool false, ?_, ?_, hB.trans (belowK_b (w := w) (Nat.le_refl _) W D _ _ (by simp at hD; omega) hK rfl rfl)⟩
    · simp [results, Tryz.f60, go_sem, hc5]
    · obtain ⟨post, hpost⟩ := hpre
      rw [← HALL.out, ← hpost, List.all_append, hin]
      rfl

set_option maxRecDepth 100000 in
set_option maxHeartbeats 2000000 in
theorem atoms_x (s : List UInt8) (w : World) (hs : s.length ≤ 1000000000000) :
    Calls Tryz.prog 104 #[.string (mkS s)] w fun e w' => e = .returned (.bool (atoms s)) ∧ Below w.heap.size w w' := by
  have HALL := Lib.hid (show (splitD s).all (fun x => isAtom (capL x)) = atoms s from cap_all isAtom s hs)
  refine (callsIn_wide (n := 4)).1 ?_
  refine callsIn_of_wp_marks Tryz.func104 rfl trivial ?_ rfl
  simp only [Tryz.ntmps104, List.size_toArray, List.length_cons, List.length_nil, Nat.reduceAdd, Nat.reduceSub, Array.replicate_succ, Array.replicate_zero, List.push_toArray, List.append_toArray, List.nil_append, List.cons_append]
  gi_wp2_with (refine ⟨trivial, ?_⟩; gi_at_call 88; refine (callsIn_wide.2 (parts_x s _)).mono ?_; rintro e w' ⟨rfl, rfl⟩)
  have c1 := one_new w (.bool false) 4
  have c2 := one_new (w.alloc (.cells #[.bool false] 4)) (.string (mkS s)) 9
  simp only [World.size_alloc] at c1 c2
  have hB0 : Below w.heap.size w ((w.alloc (.cells #[.bool false] 4)).alloc (.cells #[.string (mkS s)] 9)) := ((Below.refl _ w).alloc (Nat.le_refl _) _).alloc (by simp) _
  refine wpIn_rangeFunc_ownF rfl (by omega) (gf := 118) (lb := #[.pointer (some ⟨w.heap.size + 1, 0, none⟩)]) rfl trivial (enters_of Tryz.func118 (by kernel_rfl) rfl)
    (parts_stops 3 (by omega) (w.heap.size + 1) w.heap.size s hs _ (by simp) c2.1) belowK_t (belowK_b (by simp; omega)) (Below.refl _ _) (fun _ => rfl)
    (fun pre W => (pre.all (fun x => isAtom (capL x)) = true ∧ W.cell? ⟨w.heap.size, 0, none⟩ = some (.bool false) ∧ W.frozen? ⟨w.heap.size, 0, none⟩ = false) ∧ Below w.heap.size w W)
    (fun c pre W => (c = .ret ∧ pre.all (fun x => isAtom (capL x)) = false ∧ W.cell? ⟨w.heap.size, 0, none⟩ = some (.bool false)) ∧ Below w.heap.size w W)
    (OwnFrom.and (Own.from (fun s A B row hs hg hr => ⟨hs.1, cell_kept hs.2.1 hg hr, (frozen_kept hs.2.1 hg hr).trans hs.2.2⟩) _) (ownFrom_below (Nat.le_refl _) (by simp; omega)))
    (fun c => OwnFrom.and (Own.from (fun s A B row hs hg hr => ⟨hs.1, hs.2.1, cell_kept hs.2.2 hg hr⟩) _) (ownFrom_below (Nat.le_refl _) (by simp; omega)))
    ⟨⟨rfl, one_old _ c1⟩, hB0⟩
    (fun x => { tmps := #[.string (mkS s), undef, .pointer (some ⟨w.heap.size, 0, none⟩), .string (mkS (capL x)), .string (mkS s), .func (.func 118) #[] #[.pointer (some ⟨w.heap.size + 1, 0, none⟩)], .string (mkS (capL x)), undef, undef, undef, undef, undef, undef, undef], defers := [] }) ?assign ?body ?done ?stop
  case assign =>
    intro l x W K hK
    gi_wp2
    exact hK
  case body =>
    rintro l pre x W ⟨⟨hp, hcr, hfr⟩, hB⟩ _
    have HP := Lib.hid hp
    have HX := Lib.hid (show (pre ++ [x]).all (fun x => isAtom (capL x)) = isAtom (capL x) by rw [List.all_append, hp]; simp)
    have hxl := capL_le x
    generalize capL x = y at HX hxl ⊢
    clear hp
    have hT := mkS_toList y
    have HC := Lib.hid (fun w => everyA_x y w hxl)
    have HV := Lib.hid (show isAtom y = (y != [] && y.all atomB) from rfl)
    generalize isAtom y = q at HX HV
    by_cases hy : y = []
    · subst hy
      have HQ := Lib.hid (show q = false by rw [HV.out]; rfl)
      gi_wp2
      refine ⟨trivial, ?_⟩
      gi_wp2
      exact ⟨KeepsOthers.setCell _ _ _, ⟨rfl, by rw [HX.out, HQ.out], World.cell?_setCell_same' _ _ _ (by rw [hcr]; rfl)⟩, hB.setCell (p := ⟨w.heap.size, 0, none⟩) (Nat.le_refl _) _⟩
    · have hem2 : y.isEmpty = false := by cases y <;> simp_all
      have hem : (y == []) = false := beq_eq_false_iff_ne.2 hy
      have HQ := Lib.hid (show q = y.all atomB by rw [HV.out, bne, hem]; rfl)
      generalize y.all atomB = a at HC HQ
      clear hy
      cases a
      · gi_wp2_with (refine ⟨trivial, ?_⟩; gi_at_call 120; refine (CallsIn.inRound l (callsIn_wide.2 (HC.out _))).mono ?_; rintro e w' ⟨rfl, rfl⟩)
        exact ⟨KeepsOthers.setCell _ _ _, ⟨rfl, by rw [HX.out, HQ.out], World.cell?_setCell_same' _ _ _ (by rw [hcr]; rfl)⟩, hB.setCell (p := ⟨w.heap.size, 0, none⟩) (Nat.le_refl _) _⟩
      · gi_wp2_with (refine ⟨trivial, ?_⟩; gi_at_call 120; refine (CallsIn.inRound l (callsIn_wide.2 (HC.out _))).mono ?_; rintro e w' ⟨rfl, rfl⟩)
        exact ⟨KeepsOthers.refl _, Below.refl _ _, ⟨by rw [HX.out, HQ.out], hcr, hfr⟩, hB⟩
  case done =>
    rintro D ys W hD rfl ⟨⟨hall, hcr, hfr⟩, hB⟩ hK
    gi_wp2
    have hK' := (KeepsOthers.setCell W ⟨w.heap.size, 0, none⟩ (.bool true)).same D _ hK rfl
    refine ⟨by simp, .inl ⟨_, _, rfl, run_takeDeferred hK', ?_⟩⟩
    have hc5 := cell_kept (World.cell?_setCell_same' W ⟨w.heap.size, 0, none⟩ (.bool true) (by rw [hcr]; rfl)) (grownBy_putObj' _ D (.deferred none)) (fun r e => by cases e; exact ⟨_, hK', rfl⟩)
    refine ⟨.bool true, ?_, by rw [← HALL.out, hall], (hB.setCell (p := ⟨w.heap.size, 0, none⟩) (Nat.le_refl _) _).trans (belowK_b (w := w) (Nat.le_refl _) _ D _ _ (by simp at hD; omega) hK' rfl rfl)⟩
    simp [results, Tryz.f104, go_sem, hc5]
  case stop =>
    rintro D c pre W hD hpre ⟨⟨rfl, hin, hcr⟩, hB⟩ hK
    gi_wp2
    refine ⟨by simp, .inl ⟨_, _, rfl, run_takeDeferred hK, ?_⟩⟩
    have hc5 := cell_kept hcr (grownBy_putObj' _ D (.deferred none)) (fun r e => by cases e; exact ⟨_, hK, rfl⟩)
    refine ⟨.bool false, ?_, ?_, hB.trans (belowK_b (w := w) (Nat.le_refl _) W D _ _ (by simp at hD; omega) hK rfl rfl)⟩
    · simp [results, Tryz.f104, go_sem, hc5]
    · obtain ⟨post, hpost⟩ := hpre
      rw [← HALL.out, ← hpost, List.all_append, hin]
      rfl
end Go.Proofs.YtojpkbonioglbaaGreatDoor.P
/-
  The walks of path's formed, Right and Domain.
-/
namespace Go.Proofs.YtojpkbonioglbaaGreatDoor.P
set_option maxRecDepth 100000
open Go.RowKit
/-- A path in its box, block g; nothing that lay ahead has turned. -/
structure PB (W : World) (g : Nat) (p : Pth) (w : World) : Prop where
  box : w.heap[g]? = some (.cells #[.string (mkS p.1), .string (mkS p.2)] 27 (0, 0))
  below : Below W.heap.size W w
theorem pb_new {W w : World} (h : Below W.heap.size W w) (p : Pth) : PB W w.heap.size p (w.alloc (.cells #[.string (mkS p.1), .string (mkS p.2)] 27)) := ⟨newOf w _, h.alloc h.size _⟩
theorem PB.next {W w w' : World} {g : Nat} {p : Pth} (h : PB W g p w) (hb : Below w.heap.size w w') : PB W g p w' := ⟨(hb.block _ (ltOf h.box)).trans h.box, below_next h.below hb⟩
theorem PB.drewN {W w : World} {g : Nat} {p : Pth} (h : PB W g p w) (n : Nat) : PB W g p (w.drewN n) := ⟨h.box, below_drewN h.below n⟩
theorem PB.drew {W w : World} {g : Nat} {p : Pth} (h : PB W g p w) : PB W g p w.drew := ⟨h.box, ⟨h.below.os, h.below.tape, h.below.output, h.below.size, h.below.block⟩⟩
theorem PB.cells {W w : World} {g : Nat} {p : Pth} (h : PB W g p w) : w.cell? ⟨g, 0, none⟩ = some (.string (mkS p.1)) ∧ w.cell? ⟨g, 1, none⟩ = some (.string (mkS p.2)) ∧ Hid (PB W g p w) := ⟨cellOf h.box 0, cellOf h.box 1, h⟩
/-- Calls beside a path in its box. -/
theorem PB.call {W w : World} {g : Nat} {p : Pth} (h : Hid (PB W g p w)) {f : FuncId} {args : Array Value} {v : Value} (H : Calls Tryz.prog f args w fun e w' => e = .returned v ∧ Below w.heap.size w w') :
    Calls Tryz.prog f args w fun e w' => e = .returned v ∧ w'.cell? ⟨g, 0, none⟩ = some (.string (mkS p.1)) ∧ w'.cell? ⟨g, 1, none⟩ = some (.string (mkS p.2)) ∧ Hid (PB W g p w') :=
  H.mono fun _ _ ⟨he, hb⟩ => ⟨he, (h.out.next hb).cells⟩
theorem PB.same {W w : World} {g : Nat} {p : Pth} (h : Hid (PB W g p w)) {f : FuncId} {args : Array Value} {v : Value} (H : Calls Tryz.prog f args w fun e w' => e = .returned v ∧ w = w') :
    Calls Tryz.prog f args w fun e w' => e = .returned v ∧ w'.cell? ⟨g, 0, none⟩ = some (.string (mkS p.1)) ∧ w'.cell? ⟨g, 1, none⟩ = some (.string (mkS p.2)) ∧ Hid (PB W g p w') :=
  H.mono fun _ _ ⟨he, hb⟩ => by subst hb; exact ⟨he, h.out.cells⟩
/-- A region that draws its order, walked once, where all its operations and calls leave a world of a class. -/
theorem region_in {P : Program} {id : Nat} {Q : Exit → Act → World → Prop} {a : Act} {w : World} {l : List Oper} (hm : P.follows .mixedOrders = true) (hB : Region.lexB .any l.toArray = true) {Y : Type} (F : Y → World) (y0 : Y) (hy : F y0 = w.drew)
    (h : wpQuiet P l.toArray (fun w' => ∃ y, w' = F y) (fun a' => ∀ w', (∃ y, w' = F y) → Q .normal a' w') l a) : (Code.region id l.toArray true).wp P Q a w :=
  wp_region_quiet (C := fun w' => ∃ y, w' = F y) hm hB ⟨y0, hy.symm⟩ (by simpa using h)
theorem PB.quiet {W : World} {g : Nat} {p : Pth} {Y : Type} {F : Y → World} {y : Y} (h : (∀ y, PB W g p (F y)) ∧ (∀ w', PB W g p w' → ∃ y, w' = F y)) {f : FuncId} {args : Array Value} {v : Value} (H : Calls Tryz.prog f args (F y) fun e w' => e = .returned v ∧ Below (F y).heap.size (F y) w') :
    Calls Tryz.prog f args (F y) fun e w' => e = .returned v ∧ ∃ y, w' = F y := H.mono fun _ _ ⟨he, hb⟩ => ⟨he, h.2 _ ((h.1 y).next hb)⟩
theorem PB.qsame {W : World} {g : Nat} {p : Pth} {Y : Type} {F : Y → World} {y : Y} (h : (∀ y, PB W g p (F y)) ∧ (∀ w', PB W g p w' → ∃ y, w' = F y)) {f : FuncId} {args : Array Value} {v : Value} (H : Calls Tryz.prog f args (F y) fun e w' => e = .returned v ∧ F y = w') :
    Calls Tryz.prog f args (F y) fun e w' => e = .returned v ∧ ∃ y, w' = F y := H.mono fun _ _ ⟨he, hb⟩ => ⟨he, h.2 _ (by rw [← hb]; exact h.1 y)⟩
set_option maxRecDepth 100000 in
set_option maxHeartbeats 4000000 in
theorem formed_x (p : Pth) (w : World) (hl1 : p.1.length ≤ 1000000000000) (hl2 : p.2.length ≤ 1000000000000) :
    Calls Tryz.prog 136 #[.agg #[.string (mkS p.1), .string (mkS p.2)]] w fun e w' => e = .returned (.bool (formB p)) ∧ Below w.heap.size w w' := by
  have HV := Lib.hid (show formB p = ((nullB p || hostB p) || (p.1 != [] && p.1.all printB && labels p.2 && smallL p.2 == p.2)) from rfl)
  have HN := Lib.hid (fun w => null_x p w)
  have HH := Lib.hid (fun w => host_x p w)
  have HP := Lib.hid (pb_new (Below.refl w.heap.size w) p)
  have HE := Lib.hid (fun w => everyP_x p.1 w hl1)
  have HL := Lib.hid (fun w => labels_x p.2 w hl2)
  have HS := Lib.hid (fun w => small_x p.2 w hl2)
  have hT1 := mkS_toList p.1
  have hT2 := mkS_toList p.2
  have hT3 := mkS_toList (smallL p.2)
  have hem : p.1.isEmpty = (p.1 == []) := by cases p.1 <;> rfl
  have hem2 : decide (p.1 = []) = (p.1 == []) := by cases p.1 <;> rfl
  have HQ1 := Lib.hid (show (p.1 != []) = !(p.1 == []) from rfl)
  rw [HQ1.out] at HV
  clear HQ1
  generalize hq1 : (p.1 == []) = q1 at hem hem2 HV
  generalize p.1.all printB = q2 at HE HV
  generalize labels p.2 = q3 at HL HV
  generalize hq4 : (smallL p.2 == p.2) = q4 at HV
  go_enter Tryz.func136, Tryz.ntmps136
  go_wp2_with fail
  refine (HN.out _).mono ?_
  rintro e w1 ⟨rfl, hb1⟩
  have P1 := Lib.hid (HP.out.next hb1)
  clear hb1
  obtain ⟨hc0, hc1, _⟩ := P1.out.cells
  generalize nullB p = qn at HV ⊢
  cases qn
  · go_wp2_with fail
    refine (HH.out _).mono ?_
    rintro e w2 ⟨rfl, hb2⟩
    have P2 := Lib.hid (P1.out.next hb2)
    clear hb2 hc0 hc1
    obtain ⟨hc0, hc1, _⟩ := P2.out.cells
    generalize hostB p = qh at HV ⊢
    cases qh
    · obtain ⟨Y, F, y0, hy0, hF, hS⟩ : ∃ (Y : Type) (F : Y → World) (y0 : Y), F y0 = w2.drew ∧ (∀ y, PB w w.heap.size p (F y)) ∧ (∀ w', PB w w.heap.size p w' → ∃ y, w' = F y) :=
        ⟨{ w' // PB w w.heap.size p w' }, Subtype.val, ⟨_, P2.out.drew⟩, rfl, fun y => y.2, fun w' h => ⟨⟨w', h⟩, rfl⟩⟩
      have hne : Nonempty Y := ⟨y0⟩
      have hF0 := fun y => cellOf (hF y).box 0
      have hF1 := fun y => cellOf (hF y).box 1
      have HFS := Lib.hid (And.intro hF hS)
      clear hF hS
      cases q1
      · cases q2
        · go_wp2_with fail
          refine region_in (by kernel_rfl) (by kernel_rfl) F y0 hy0 ?_
          repeat (go_big_quiet_step (first
            | (go_at_call 120; exact PB.qsame HFS.out (HE.out _))
            | (go_at_call 60; exact PB.quiet HFS.out (HL.out _))
            | (go_at_call 61; exact PB.quiet HFS.out (HS.out _))))
          refine wpQuiet_nil ?_
          rintro _ ⟨y, rfl⟩
          have HF := Lib.hid (HFS.out.1 y).below
          clear hF0 hF1 hy0
          go_wp2_with fail
          go_ret
          exact ⟨ret_bool (by rw [HV.out]; rfl), HF.out⟩
        · cases q3
          · go_wp2_with fail
            refine region_in (by kernel_rfl) (by kernel_rfl) F y0 hy0 ?_
            repeat (go_big_quiet_step (first
              | (go_at_call 120; exact PB.qsame HFS.out (HE.out _))
              | (go_at_call 60; exact PB.quiet HFS.out (HL.out _))
              | (go_at_call 61; exact PB.quiet HFS.out (HS.out _))))
            refine wpQuiet_nil ?_
            rintro _ ⟨y, rfl⟩
            have HF := Lib.hid (HFS.out.1 y).below
            clear hF0 hF1 hy0
            go_wp2_with fail
            go_ret
            exact ⟨ret_bool (by rw [HV.out]; rfl), HF.out⟩
          · cases q4
            · go_wp2_with fail
              refine region_in (by kernel_rfl) (by kernel_rfl) F y0 hy0 ?_
              repeat (go_big_quiet_step (first
                | (go_at_call 120; exact PB.qsame HFS.out (HE.out _))
                | (go_at_call 60; exact PB.quiet HFS.out (HL.out _))
                | (go_at_call 61; exact PB.quiet HFS.out (HS.out _))))
              refine wpQuiet_nil ?_
              rintro _ ⟨y, rfl⟩
              have HF := Lib.hid (HFS.out.1 y).below
              clear hF0 hF1 hy0
              go_wp2_with fail
              go_ret
              exact ⟨ret_bool (by rw [HV.out]; rfl), HF.out⟩
            · go_wp2_with fail
              refine region_in (by kernel_rfl) (by kernel_rfl) F y0 hy0 ?_
              repeat (go_big_quiet_step (first
                | (go_at_call 120; exact PB.qsame HFS.out (HE.out _))
                | (go_at_call 60; exact PB.quiet HFS.out (HL.out _))
                | (go_at_call 61; exact PB.quiet HFS.out (HS.out _))))
              refine wpQuiet_nil ?_
              rintro _ ⟨y, rfl⟩
              have HF := Lib.hid (HFS.out.1 y).below
              clear hF0 hF1 hy0
              go_wp2_with fail
              go_ret
              exact ⟨ret_bool (by rw [HV.out]; rfl), HF.out⟩
      · have HF := Lib.hid P2.out.below
        go_wp2_with fail
        go_quiet (fail)
        go_wp2_with fail
        go_ret
        exact ⟨ret_bool (by rw [HV.out]; rfl), below_drewN HF.out _⟩
    · have HF := Lib.hid P2.out.below
      go_wp2_with fail
      go_ret
      exact ⟨ret_bool (by rw [HV.out]; rfl), HF.out⟩
  · have HF := Lib.hid P1.out.below
    go_wp2_with fail
    go_ret
    exact ⟨ret_bool (by rw [HV.out]; rfl), HF.out⟩
set_option maxRecDepth 100000 in
set_option maxHeartbeats 1000000 in
theorem right_x (p : Pth) (w : World) (hl1 : p.1.length ≤ 1000000000000) (hl2 : p.2.length ≤ 1000000000000) :
    Calls Tryz.prog 102 #[.agg #[.string (mkS p.1), .string (mkS p.2)]] w fun e w' => e = .returned (.int .i64 (rightE p)) ∧ Below w.heap.size w w' := by
  have HV := Lib.hid (show rightE p = if longB p then 3 else if formB p then 0 else 2 from rfl)
  have HL := Lib.hid (fun w => long_x p w)
  have HF := Lib.hid (fun w => formed_x p w hl1 hl2)
  have HP := Lib.hid (pb_new (Below.refl w.heap.size w) p)
  generalize longB p = q1 at HV HL
  generalize formB p = q2 at HV HF
  go_enter Tryz.func102, Tryz.ntmps102
  go_wp2_with fail
  refine (HL.out _).mono ?_
  rintro e w1 ⟨rfl, hb1⟩
  have P1 := Lib.hid (HP.out.next hb1)
  clear hb1
  obtain ⟨hc0, hc1, _⟩ := P1.out.cells
  cases q1
  · go_wp2_with fail
    refine (HF.out _).mono ?_
    rintro e w2 ⟨rfl, hb2⟩
    have P2 := Lib.hid (P1.out.next hb2)
    clear hb2 hc0 hc1
    cases q2
    · go_wp2_with fail
      go_ret
      exact ⟨ret_int (by rw [HV.out]; rfl), P2.out.below⟩
    · go_wp2_with fail
      go_ret
      exact ⟨ret_int (by rw [HV.out]; rfl), P2.out.below⟩
  · go_wp2_with fail
    go_ret
    exact ⟨ret_int (by rw [HV.out]; rfl), P1.out.below⟩
/-- What Domain answers. -/
def DomPost (s : List UInt8) (w : World) (e : Ending) (w' : World) : Prop := e = .returned (.tuple #[.string (mkS (domainV s)), .int .i64 (domainE s)]) ∧ Below w.heap.size w w'
theorem dom_no {s : List UInt8} {w w' : World} {n : Int} (h : domainE s = n) (hn : n ≠ 0) (hb : Below w.heap.size w w') : DomPost s w (.returned (.tuple #[.string { data := #[] }, .int .i64 n])) w' :=
  ⟨by rw [domainV, h, if_neg hn]; rfl, hb⟩
theorem dom_yes {s : List UInt8} {w w' : World} (h : domainE s = 0) (hb : Below w.heap.size w w') : DomPost s w (.returned (.tuple #[.string (mkS (smallL s)), .int .i64 0])) w' :=
  ⟨by rw [domainV, h, if_pos rfl], hb⟩
set_option maxRecDepth 100000 in
set_option maxHeartbeats 1000000 in
theorem domain_x (s : List UInt8) (w : World) : Calls Tryz.prog 38 #[.string (mkS s)] w (DomPost s w) := by
  have hms := mkS_size s
  have HV := Lib.hid (show domainE s = if 255 < s.length then 3 else if labels s then 0 else 2 from rfl)
  by_cases h1 : 255 < s.length
  · have d1 : decide ((255 : Int) < (s.length : Int)) = true := decide_eq_true (by omega)
    have HD := Lib.hid (show domainE s = 3 by rw [HV.out, if_pos h1])
    clear h1
    go_enter Tryz.func38, Tryz.ntmps38
    go_wp2_with fail
    go_ret2
    exact dom_no HD.out (by decide) (Below.refl _ _)
  · have d1 : decide ((255 : Int) < (s.length : Int)) = false := decide_eq_false (by omega)
    have HL := Lib.hid (fun w => labels_x s w (by omega))
    have HS := Lib.hid (fun w => small_x s w (by omega))
    rw [if_neg h1] at HV
    generalize labels s = q at HL HV
    clear h1
    go_enter Tryz.func38, Tryz.ntmps38
    go_wp2_with fail
    refine (HL.out _).mono ?_
    rintro e w1 ⟨rfl, hb1⟩
    have HB1 := Lib.hid hb1
    clear hb1
    cases q
    · go_wp2_with fail
      go_ret2
      exact dom_no (by rw [HV.out]; rfl) (by decide) HB1.out
    · go_wp2_with fail
      refine (HS.out _).mono ?_
      rintro e w2 ⟨rfl, hb2⟩
      have HB2 := Lib.hid (below_next HB1.out hb2)
      clear hb2
      go_wp2_with fail
      go_ret2
      exact dom_yes (by rw [HV.out]; rfl) HB2.out
end Go.Proofs.YtojpkbonioglbaaGreatDoor.P
/-
  The walks of path's quoted and unquoted.
-/
namespace Go.Proofs.YtojpkbonioglbaaGreatDoor.P
set_option maxRecDepth 100000
open Go.RowKit
theorem quo_take {l : List UInt8} {k : Nat} {x : UInt8} (hx : l[k]? = some x) : quoL (l.take (k + 1)) = quoL (l.take k) ++ quoB x := by
  obtain ⟨hk, e⟩ := List.getElem?_eq_some_iff.1 hx
  rw [List.take_succ_eq_append_getElem hk, e]
  simp [quoL]
theorem quo_len (l : List UInt8) : (quoL l).length ≤ 2 * l.length := by
  induction l with
  | nil => simp [quoL]
  | cons b t ih =>
    have : quoL (b :: t) = quoB b ++ quoL t := by simp [quoL]
    rw [this, List.length_append, List.length_cons]
    have : (quoB b).length ≤ 2 := by unfold quoB; split <;> simp
    omega
set_option maxRecDepth 100000 in
set_option maxHeartbeats 1000000 in
theorem quoted_x (l : List UInt8) (w : World) (hl : l.length ≤ 10000000000) :
    Calls Tryz.prog 105 #[.string (mkS l)] w fun e w' => e = .returned (.string (mkS ([34] ++ quoL l ++ [34]))) ∧ Below w.heap.size w w' := by
  have hms := mkS_size l
  have HN := Lib.hid (bld_new w)
  have HN2 := Lib.hid (below_box w (.cells #[.pointer none, .slice none 0 0] 105))
  go_enter Tryz.func105, Tryz.ntmps105
  go_wp2_with fail
  refine (bld_byte HN.out 34 (by simp)).mono ?_
  rintro e w1 ⟨rfl, hb1, hw1⟩
  have HB1 := Lib.hid hb1
  have HW1 := Lib.hid (HN2.out.trans hw1)
  clear hb1 hw1
  go_wp2_with fail
  go_loopw [9] (fun i wr => ∃ k : Nat, k ≤ l.length ∧ i = .int .i64 k ∧ Hid (Bld w.heap.size ([34] ++ quoL (l.take k)) wr) ∧ Hid (Below w.heap.size w wr)) (fun i _ => l.length - (intOf i).toNat)
  case atStart => exact ⟨0, Nat.zero_le _, rfl, HB1.out, HW1.out⟩
  case round =>
    obtain ⟨k, hk, rfl, HB, HW⟩ := hrel
    by_cases hlt : k < l.length
    · obtain ⟨x, hx⟩ : ∃ x : UInt8, (mkS l)[k]'(by omega) = x := ⟨_, rfl⟩
      have hX : l[k]? = some x := by rw [← hx]; have := Lib.data_getElem? (mkS l) k (by omega); rwa [mkS_data] at this
      have HT := Lib.hid (quo_take hX)
      have hql : (quoL (l.take k)).length ≤ 2 * k := by have := quo_len (l.take k); rw [List.length_take, Nat.min_eq_left (by omega)] at this; exact this
      generalize quoL (l.take k) = ek at HB HT hql
      have d1 : ((x.toNat : Int) == 34) = (x == 34) := byte_beq x 34 (by decide) 34 rfl
      have d2 : ((x.toNat : Int) == 92) = (x == 92) := byte_beq x 92 (by decide) 92 rfl
      have HV := Lib.hid (show quoB x = if x == 34 || x == 92 then [92, x] else [x] from rfl)
      generalize quoB x = qb at HT HV
      clear hX
      have one : ∀ wr', Bld w.heap.size ([34] ++ ek) wr' → Below w.heap.size w wr' → ∀ y : UInt8, Calls Tryz.prog 83 #[.pointer (some ⟨w.heap.size, 0, none⟩), .int .u8 (y.toNat : Int)] wr' fun e w' => e = .returned .nilIface ∧ Hid (Bld w.heap.size ([34] ++ ek ++ [y]) w') ∧ Hid (Below w.heap.size w w') := fun wr' h h' y =>
        (bld_byte h y (by simp; omega)).mono fun e w' ⟨h1, h2, h3⟩ => ⟨h1, h2, h'.trans h3⟩
      have H1 := Lib.hid (one wr HB.out HW.out)
      clear one
      cases q1 : (x == 34) <;> cases q2 : (x == 92) <;> rw [q1] at d1 HV <;> rw [q2] at d2 HV <;> clear q1 q2
      · go_wp2_with fail
        refine (H1.out x).mono ?_
        rintro e w3 ⟨rfl, HB3, HW3⟩
        go_wp2_with fail
        go_roundw
        case rel => exact ⟨k + 1, by omega, by go_num, by rw [HT.out, HV.out]; have := HB3.out; rwa [List.append_assoc] at this, HW3⟩
        case measure => simp [intOf]; omega
      all_goals
        go_wp2_with fail
        refine (H1.out 92).mono ?_
        rintro e w3 ⟨rfl, HB3, HW3⟩
        go_wp2_with fail
        refine (bld_byte HB3.out x (by simp; omega)).mono ?_
        rintro e w4 ⟨rfl, hb4, hw4⟩
        have HB4 := Lib.hid hb4
        have HW4 := Lib.hid (HW3.out.trans hw4)
        clear hb4 hw4
        go_wp2_with fail
        go_roundw
        case rel => exact ⟨k + 1, by omega, by go_num, by rw [HT.out, HV.out]; have := HB4.out; rwa [List.append_assoc, List.append_assoc] at this, HW4⟩
        case measure => simp [intOf]; omega
    · have hb := HB.out
      rw [List.take_of_length_le (by omega)] at hb
      have HB' := Lib.hid hb
      have hq := quo_len l
      clear hb
      go_wp2_with fail
      refine (bld_byte HB'.out 34 (by simp; omega)).mono ?_
      rintro e w2 ⟨rfl, hb2, hw2⟩
      have HB2 := Lib.hid hb2
      have HW2 := Lib.hid (HW.out.trans hw2)
      clear hb2 hw2
      go_wp2_with fail
      refine (bld_string HB2.out).mono ?_
      rintro e w3 ⟨rfl, _, hw3⟩
      have HW3 := Lib.hid (HW2.out.trans hw3)
      clear hw3
      go_wp2_with fail
      go_ret
      exact ⟨rfl, HW3.out⟩

/-- What unquoted answers. -/
def UnqPost (l : List UInt8) (w : World) (e : Ending) (w' : World) : Prop := e = .returned (.tuple #[.string (mkS (unqV l).1), .string (mkS (unqV l).2.1), .bool (unqV l).2.2]) ∧ Below w.heap.size w w'
theorem unq_end {l a r : List UInt8} {w w' : World} (h : unqL l false [] = some (a, r)) (hb : Below w.heap.size w w') : UnqPost l w (.returned (.tuple #[.string (mkS a), .string (mkS r), .bool true])) w' :=
  ⟨by rw [unqV, h], hb⟩
theorem unq_none {l : List UInt8} {w w' : World} (h : unqL l false [] = none) (hb : Below w.heap.size w w') : UnqPost l w (.returned (.tuple #[.string { data := #[] }, .string { data := #[] }, .bool false])) w' :=
  ⟨by rw [unqV, h]; rfl, hb⟩
/-- What holds in unquoted's loop. -/
structure UI (l : List UInt8) (W : World) (k : Nat) (m : Bool) (acc : List UInt8) (w : World) : Prop where
  eq : unqL l false [] = unqL (l.drop k) m acc
  len : acc.length ≤ k
  bld : Bld W.heap.size acc w
  below : Below W.heap.size W w
theorem drop_get {l : List UInt8} {k : Nat} {x : UInt8} (h : l[k]? = some x) : l.drop k = x :: l.drop (k + 1) := by
  obtain ⟨hk, e⟩ := List.getElem?_eq_some_iff.1 h
  rw [List.drop_eq_getElem_cons hk, e]
end Go.Proofs.YtojpkbonioglbaaGreatDoor.P
/-
  The walk of path's Print.
-/
namespace Go.Proofs.YtojpkbonioglbaaGreatDoor.P
set_option maxRecDepth 100000
open Go.RowKit
/-- What Print answers. -/
def PrPost (p : Pth) (w : World) (e : Ending) (w' : World) : Prop := e = .returned (.tuple #[.string (mkS (printV p)), .int .i64 (rightE p)]) ∧ Below w.heap.size w w'
theorem pr_no {p : Pth} {w w' : World} (h : rightE p ≠ 0) (hb : Below w.heap.size w w') : PrPost p w (.returned (.tuple #[.string { data := #[] }, .int .i64 (rightE p)])) w' :=
  ⟨by rw [print_no h]; rfl, hb⟩
theorem pr_yes {p : Pth} {w w' : World} {s : ByteArray} (h : rightE p = 0) (hs : s = mkS (textL p)) (hb : Below w.heap.size w w') : PrPost p w (.returned (.tuple #[.string s, .int .i64 0])) w' :=
  ⟨by rw [print_yes h, h, hs], hb⟩
theorem c60 : ({ data := #[60] } : ByteArray) = mkS [60] := rfl
theorem c62 : ({ data := #[62] } : ByteArray) = mkS [62] := rfl
theorem c64 : ({ data := #[64] } : ByteArray) = mkS [64] := rfl
theorem text_short {p : Pth} {q : ByteArray} (h : (nullB p || hostB p) = true) (hq : q = { data := #[60] } ++ mkS p.1 ++ { data := #[62] }) : q = mkS (textL p) := by
  rw [hq, c60, c62, mkS_cat, mkS_cat, textL, if_pos h]
theorem text_long {p : Pth} {q : ByteArray} (h : (nullB p || hostB p) = false) (hq : q = { data := #[60] } ++ mkS (locL p.1) ++ { data := #[64] } ++ mkS p.2 ++ { data := #[62] }) : q = mkS (textL p) := by
  rw [hq, c60, c62, c64, mkS_cat, mkS_cat, mkS_cat, mkS_cat, textL, if_neg (by rw [h]; exact Bool.false_ne_true)]
set_option maxRecDepth 100000 in
set_option maxHeartbeats 4000000 in
theorem print_x (p : Pth) (w : World) (hl1 : p.1.length ≤ 1000000000000) (hl2 : p.2.length ≤ 1000000000000) :
    Calls Tryz.prog 78 #[.agg #[.string (mkS p.1), .string (mkS p.2)]] w (PrPost p w) := by
  have HR := Lib.hid (fun w => right_x p w hl1 hl2)
  have HP := Lib.hid (pb_new (Below.refl w.heap.size w) p)
  by_cases h0 : rightE p = 0
  · have H0 := Lib.hid h0
    rw [h0] at HR
    have hlong := (right_ok h0).1
    simp only [longB, Bool.or_eq_false_iff, decide_eq_false_iff_not] at hlong
    have HN := Lib.hid (fun w => null_x p w)
    have HH := Lib.hid (fun w => host_x p w)
    have HA := Lib.hid (fun w => atoms_x p.1 w hl1)
    have HQ := Lib.hid (fun w => quoted_x p.1 w (by omega))
    have hz1 := mkS_size p.1
    have hz2 := mkS_size p.2
    have hql := quo_len p.1
    have hz3 : (mkS ([34] ++ quoL p.1 ++ [34])).size = (quoL p.1).length + 2 := by rw [mkS_size]; simp
    have HT1 := Lib.hid (fun q => text_short (p := p) (q := q))
    have HT2 := Lib.hid (fun q => text_long (p := p) (q := q))
    have HL := Lib.hid (show locL p.1 = if atoms p.1 then p.1 else [34] ++ quoL p.1 ++ [34] from rfl)
    generalize nullB p = qn at HN HT1 HT2
    generalize hostB p = qh at HH HT1 HT2
    generalize atoms p.1 = qa at HA HL
    generalize [34] ++ quoL p.1 ++ [34] = u at HQ HL hz3
    generalize (quoL p.1).length = ql at hql hz3
    generalize locL p.1 = v at HL HT2
    clear h0
    go_enter Tryz.func78, Tryz.ntmps78
    go_wp2_with fail
    refine (HR.out _).mono ?_
    rintro e w1 ⟨rfl, hb1⟩
    have P1 := Lib.hid (HP.out.next hb1)
    clear hb1
    obtain ⟨hc0, hc1, _⟩ := P1.out.cells
    go_wp2_with fail
    refine (HN.out _).mono ?_
    rintro e w2 ⟨rfl, hb2⟩
    have P2 := Lib.hid (P1.out.next hb2)
    clear hb2 hc0 hc1
    obtain ⟨hc0, hc1, _⟩ := P2.out.cells
    cases qn
    · go_wp2_with fail
      refine (HH.out _).mono ?_
      rintro e w3 ⟨rfl, hb3⟩
      have P3 := Lib.hid (P2.out.next hb3)
      clear hb3 hc0 hc1
      obtain ⟨hc0, hc1, _⟩ := P3.out.cells
      cases qh
      · go_wp2_with fail
        refine (HA.out _).mono ?_
        rintro e w4 ⟨rfl, hb4⟩
        have P4 := Lib.hid (P3.out.next hb4)
        clear hb4 hc0 hc1
        obtain ⟨hc0, hc1, _⟩ := P4.out.cells
        cases qa
        · go_wp2_with fail
          refine (HQ.out _).mono ?_
          rintro e w5 ⟨rfl, hb5⟩
          have P5 := Lib.hid (P4.out.next hb5)
          clear hb5 hc0 hc1
          obtain ⟨hc0, hc1, _⟩ := P5.out.cells
          go_wp2_with fail
          go_ret2
          exact pr_yes H0.out (HT2.out _ rfl (by rw [HL.out]; rfl)) P5.out.below
        · go_wp2_with fail
          go_ret2
          exact pr_yes H0.out (HT2.out _ rfl (by rw [HL.out]; rfl)) P4.out.below
      · go_wp2_with fail
        go_ret2
        exact pr_yes H0.out (HT1.out _ rfl rfl) P3.out.below
    · go_wp2_with fail
      go_ret2
      exact pr_yes H0.out (HT1.out _ rfl rfl) P2.out.below
  · have HV := Lib.hid (fun (w' : World) (hb : Below w.heap.size w w') => pr_no (p := p) h0 hb)
    have d1 : (rightE p != 0) = true := bne_iff_ne.2 h0
    generalize rightE p = n at HR HV d1
    clear h0
    go_enter Tryz.func78, Tryz.ntmps78
    go_wp2_with fail
    refine (HR.out _).mono ?_
    rintro e w1 ⟨rfl, hb1⟩
    have P1 := Lib.hid (HP.out.next hb1)
    clear hb1
    go_wp2_with fail
    go_ret2
    exact HV.out _ P1.out.below
end Go.Proofs.YtojpkbonioglbaaGreatDoor.P
