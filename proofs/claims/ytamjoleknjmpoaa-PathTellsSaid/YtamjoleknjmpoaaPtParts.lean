/-
  The walks of path's isLabel, and of parts: the range over the parts of a text.
-/
import Derived.Test.YtamjoleknjmpoaaPtCut
import Derived.RangeFuncNested
import Derived.RangeFuncBound
import Derived.RangeFuncCalls
import Derived.RangeFuncLeaves
import Derived.RangeFuncBox
import Derived.Shelf.Abstract
import Derived.Shelf.RegionOpen
import Derived.OwnWalkIn
import Derived.TacticsInMore
import Derived.LoopNIn
import Derived.LoopIn
namespace Go.Proofs.Ytamjoleknjmpoaa
open Go.RowKit Go.Shelf

theorem kind_lab : Kind 59 labB := fun b w => inLabel_x b w
theorem kind_atom : Kind 44 atomB := fun b w => inAtom_x b w
theorem kind_print : Kind 52 printB := fun b w => printable_x b w
theorem everyL_x (l : List UInt8) (w : World) (hl : l.length ≤ 1000000000000) : Calls Try.prog 43 #[.string (mkS l), .func (.func 59) #[] #[]] w fun e w' => e = .returned (.bool (l.all labB)) ∧ w = w' :=
  every_x _ _ kind_lab (enters_of Try.func59 (by kernel_rfl) rfl) l w hl
theorem everyA_x (l : List UInt8) (w : World) (hl : l.length ≤ 1000000000000) : Calls Try.prog 43 #[.string (mkS l), .func (.func 44) #[] #[]] w fun e w' => e = .returned (.bool (l.all atomB)) ∧ w = w' :=
  every_x _ _ kind_atom (enters_of Try.func44 (by kernel_rfl) rfl) l w hl
theorem everyP_x (l : List UInt8) (w : World) (hl : l.length ≤ 1000000000000) : Calls Try.prog 43 #[.string (mkS l), .func (.func 52) #[] #[]] w fun e w' => e = .returned (.bool (l.all printB)) ∧ w = w' :=
  every_x _ _ kind_print (enters_of Try.func52 (by kernel_rfl) rfl) l w hl

set_option maxHeartbeats 1000000 in
theorem isLabel_x (l : List UInt8) (w : World) (hl : l.length ≤ 1000000000000) :
    Calls Try.prog 49 #[.string (mkS l)] w fun e w' => e = .returned (.bool (isLab l)) ∧ w = w' := by
  have hT := mkS_toList l
  have HE := Lib.hid (fun w => everyL_x l w hl)
  cases hc : l with
  | nil =>
    subst hc
    have hms := mkS_size []
    go_enter Try.func49, Try.ntmps49
    go_wp2_with fail
    go_ret
    exact ⟨rfl, rfl⟩
  | cons b t =>
    obtain ⟨m, hm⟩ : ∃ m, t.length = m := ⟨_, rfl⟩
    have hlen : l.length = m + 1 := by rw [hc, List.length_cons, hm]
    have hms : (mkS l).size = m + 1 := (mkS_size l).trans hlen
    have hne : l ≠ [] := by rw [hc]; simp
    have hx : (mkS l)[0]'(by omega) = b := mkS_get (by omega) (by rw [hc]; rfl)
    obtain ⟨y, hY⟩ : ∃ y : UInt8, l[m]? = some y := ⟨_, List.getElem?_eq_getElem (by omega)⟩
    have hy : (mkS l)[m]'(by omega) = y := mkS_get (by omega) hY
    have HV := Lib.hid (show isLab l = (decide (m + 1 ≤ 63) && b != 45 && y != 45 && l.all labB) by
      have h1 : l.head? = some b := by rw [hc]; rfl
      have h2 : l.getLast? = some y := by rw [List.getLast?_eq_getElem?, hlen, Nat.add_sub_cancel, hY]
      rw [isLab, h1, h2, hlen]
      have h3 : (l != []) = true := bne_iff_ne.2 hne
      rw [h3, Bool.true_and]
      rfl)
    have hem : (l == []) = false := beq_eq_false_iff_ne.2 hne
    have hem2 : l.isEmpty = false := by rw [hc]; rfl
    have d1 : decide ((m : Int) + 1 ≤ 63) = decide (m + 1 ≤ 63) := dle2 (m + 1) 63 63 rfl
    have d2 : ((b.toNat : Int) != 45) = (b != 45) := byte_bne b 45 (by decide) 45 rfl
    have d3 : ((y.toNat : Int) != 45) = (y != 45) := byte_bne y 45 (by decide) 45 rfl
    rw [← hc]
    generalize l.all labB = q4 at HE HV
    generalize decide (m + 1 ≤ 63) = q1 at d1 HV
    generalize (b != 45) = q2 at d2 HV
    generalize (y != 45) = q3 at d3 HV
    clear hc hY hne
    cases q1
    · go_enter Try.func49, Try.ntmps49
      go_wp2_with fail
      go_ret
      exact ⟨ret_bool (by rw [HV.out]; rfl), rfl⟩
    cases q2
    · go_enter Try.func49, Try.ntmps49
      go_wp2_with fail
      go_ret
      exact ⟨ret_bool (by rw [HV.out]; rfl), rfl⟩
    cases q3
    · go_enter Try.func49, Try.ntmps49
      go_wp2_with fail
      go_ret
      exact ⟨ret_bool (by rw [HV.out]; rfl), rfl⟩
    go_enter Try.func49, Try.ntmps49
    go_wp2_with fail
    refine (HE.out _).mono ?_
    rintro e w1 ⟨rfl, rfl⟩
    go_wp2_with fail
    go_ret
    exact ⟨ret_bool (by rw [HV.out]; rfl), rfl⟩

theorem parts_x (s : List UInt8) (w : World) :
    Calls Try.prog 42 #[.string (mkS s)] w fun e w' => e = .returned (.func (.func 54) #[] #[.pointer (some ⟨w.heap.size, 0, none⟩)]) ∧ w' = w.alloc (.cells #[.string (mkS s)] 9) := by
  go_enter Try.func42, Try.ntmps42
  go_wp2_with fail
  go_ret
  exact ⟨rfl, rfl⟩

/-- How much is left of the range over parts. -/
def ptMeas : Value → Value → Nat
  | .string b, .bool true => b.size + 1
  | _, _ => 0
theorem grown_drewN (w : World) (n : Nat) : w.grownBy (w.drewN n) none := ⟨rfl, rfl, rfl, Nat.le_refl _, fun _ _ _ => rfl⟩
theorem abides_drewN {β : Type} {B : Nat} {J : β → World → Prop} (h : AbidesFrom B J) {s : β} {W : World} (hs : J s W) (n : Nat) : J s (W.drewN n) := h s W _ none hs (grown_drewN W n) (fun r e => by cases e)
theorem post_len {c : UInt8} {r : List UInt8} (h : hasC c r = true) : (postC c r).length < r.length := by
  have := (cut_of h).2
  have e := congrArg List.length this
  simp at e
  omega
theorem post_le (c : UInt8) (r : List UInt8) : (postC c r).length ≤ r.length := by
  cases h : hasC c r
  · rw [(cut_no h).2]; simp
  · exact Nat.le_of_lt (post_len h)
theorem pre_le (c : UInt8) (r : List UInt8) : (preC c r).length ≤ r.length := by
  cases h : hasC c r
  · rw [(cut_no h).1]; exact Nat.le_refl _
  · have := congrArg List.length (cut_of h).2
    simp at this
    omega

/-- A text of a size that memory can hold: what a round is told of what it is handed. -/
def capL (x : List UInt8) : List UInt8 := x.take 1000000000000
theorem capL_le (x : List UInt8) : (capL x).length ≤ 1000000000000 := by simp [capL]; omega
theorem capL_id {x : List UInt8} (h : x.length ≤ 1000000000000) : capL x = x := List.take_of_length_le h
theorem split_le (s : List UInt8) : ∀ x ∈ splitD s, x.length ≤ s.length := by
  have : ∀ (l acc : List UInt8), ∀ x ∈ splitG acc l, x.length ≤ acc.length + l.length := by
    intro l
    induction l with
    | nil => intro acc x hx; simp [splitG] at hx; subst hx; simp
    | cons b t ih =>
      intro acc x hx
      rw [splitG] at hx
      split at hx
      · rcases List.mem_cons.1 hx with rfl | hx
        · simp
        · have := ih [] x hx; simp at this; simp; omega
      · have := ih (acc ++ [b]) x hx; simp at this; simp; omega
  intro x hx
  have := this s [] x hx
  simpa using this
theorem cap_all (f : List UInt8 → Bool) (s : List UInt8) (hs : s.length ≤ 1000000000000) : (splitD s).all (fun x => f (capL x)) = (splitD s).all f := by
  rw [Bool.eq_iff_iff, List.all_eq_true, List.all_eq_true]
  refine forall_congr' fun x => forall_congr' fun hx => ?_
  rw [capL_id (Nat.le_trans (split_le s x hx) hs)]

attribute [local go_sem] Oper.semAt_some
set_option maxRecDepth 100000 in
set_option maxHeartbeats 2000000 in
theorem parts1_in (n : Nat) (hn : 1 ≤ n) (l Bs n₀ B : Nat) (s : List UInt8) (hs : s.length ≤ 1000000000000) (J Jx : List (List UInt8) → World → Prop) (hJ : AbidesFrom B J)
    (hY : ∀ pre x W, J pre W → pre.length < (splitD s).length → YieldAt Fence.wide (n - 1) Try.prog l #[.string (mkS (capL x))] W fun e W' =>
      (e = .returned (.bool true) ∧ J (pre ++ [x]) W' ∧ Below n₀ W W') ∨ (e = .returned (.bool false) ∧ Jx (pre ++ [x]) W'))
    (W : World) (hBs : W.cell? ⟨Bs, 0, none⟩ = some (.string (mkS s))) (h0 : J [] W) :
    CallsIn Fence.wide n Try.prog 54 #[.func (.yield l) #[] #[], .pointer (some ⟨Bs, 0, none⟩)] W fun e W' => (∃ v, e = .returned v) ∧
      ((∃ ys, ys = splitD s ∧ J ys W') ∨ (∃ pre, pre <+: splitD s ∧ Jx pre W')) := by
  refine callsIn_of_wp Try.func54 rfl trivial ?_ rfl
  simp only [Try.ntmps54, List.size_toArray, List.length_cons, List.length_nil, Nat.reduceAdd, Nat.reduceSub, Array.replicate_succ, Array.replicate_zero, List.push_toArray, List.append_toArray, List.nil_append, List.cons_append]
  gi_wp2
  gi_loopw [3, 4] (fun rest more wr => ∃ (pre post : List (List UInt8)) (r : List UInt8), rest = .string (mkS r) ∧ splitD s = pre ++ post ∧ J pre wr ∧ r.length ≤ s.length ∧ ((more = .bool true ∧ post = splitD r) ∨ (more = .bool false ∧ post = [])))
    (fun rest more _ => ptMeas rest more)
  case atStart => exact ⟨[], splitD s, s, rfl, rfl, h0, Nat.le_refl _, .inl ⟨rfl, rfl⟩⟩
  case round =>
    obtain ⟨pre, post, r, rfl, hp, hJs, hr, ⟨rfl, rfl⟩ | ⟨rfl, rfl⟩⟩ := hrel
    · have hlen : pre.length < (splitD s).length := by
        rw [hp]
        cases hh : hasC 46 r
        · rw [splitD_no hh]; simp
        · rw [splitD_yes hh]; simp
      have hsp : (hasC 46 r = true ∧ splitD r = preC 46 r :: splitD (postC 46 r) ∧ (postC 46 r).length < r.length) ∨ (hasC 46 r = false ∧ splitD r = [preC 46 r]) := by
        cases hh : hasC 46 r
        · exact .inr ⟨rfl, by rw [splitD_no hh, (cut_no hh).1]⟩
        · exact .inl ⟨rfl, splitD_yes hh, post_len hh⟩
      have hpl := post_le 46 r
      have hxl := pre_le 46 r
      have HC := Lib.hid (fun w => cut_x 46 r w (by omega))
      generalize preC 46 r = x at hsp HC hxl
      generalize postC 46 r = r' at hsp HC hpl
      generalize hasC 46 r = q at hsp HC
      have HSP := Lib.hid hsp
      clear hsp
      gi_wp2
      refine ⟨trivial, (callsIn_wide.2 (HC.out _)).mono ?_⟩
      rintro e w1 ⟨rfl, k, rfl⟩
      have hJ1 := abides_drewN hJ hJs k
      obtain ⟨fn, tmps, assign, body, hy, hR⟩ := hY pre x (wr.drewN k) hJ1 hlen
      rw [capL_id (show x.length ≤ 1000000000000 by omega)] at hy
      gi_wp2
      refine hR.mono ?_
      rintro e W3 (⟨rfl, hJ3, hk3⟩ | ⟨rfl, hJx3⟩)
      · gi_wp2
        go_roundw
        case rel =>
          rcases HSP.out with ⟨rfl, h2, h3⟩ | ⟨rfl, h2⟩
          · exact ⟨pre ++ [x], splitD r', r', rfl, by rw [hp, h2]; simp, hJ3, by omega, .inl ⟨rfl, rfl⟩⟩
          · exact ⟨pre ++ [x], [], r', rfl, by rw [hp, h2]; simp, hJ3, by omega, .inr ⟨rfl, rfl⟩⟩
        case measure =>
          rcases HSP.out with ⟨rfl, h2, h3⟩ | ⟨rfl, h2⟩
          · simp only [ptMeas, mkS_size]; omega
          · simp only [ptMeas]; omega
      · gi_wp2
        refine bodyPost_ret (results_none rfl _ _ _) rfl ?_
        refine ⟨⟨_, rfl⟩, .inr ⟨pre ++ [x], ?_, hJx3⟩⟩
        rcases HSP.out with ⟨rfl, h2, h3⟩ | ⟨rfl, h2⟩
        · exact ⟨splitD r', by rw [hp, h2]; simp⟩
        · exact ⟨[], by rw [hp, h2]; simp⟩
    · gi_wp2
      go_end0
      exact ⟨⟨_, rfl⟩, .inl ⟨pre, by rw [hp, List.append_nil], hJs⟩⟩
theorem parts_stops (n : Nat) (hn : 1 ≤ n) (Bs n₀ : Nat) (s : List UInt8) (hs : s.length ≤ 1000000000000) (w : World) (hBs : Bs < w.heap.size) (hc : w.cell? ⟨Bs, 0, none⟩ = some (.string (mkS s))) :
    SeqStopsK Fence.wide n Try.prog 54 #[.pointer (some ⟨Bs, 0, none⟩)] (fun x : List UInt8 => #[Value.string (mkS (capL x))]) (Below n₀) (fun ys => ys = splitD s) (fun pre => pre <+: splitD s) (splitD s).length w := fun l J Jx W hW hJ _ hY h0 =>
  parts1_in n hn l Bs n₀ W.heap.size s hs J Jx hJ hY W ((hW.cell (p := ⟨Bs, 0, none⟩) hBs).trans hc) h0
end Go.Proofs.Ytamjoleknjmpoaa
