/-
  The walk of fits: whatever it answers; true of short messages, and of numbers in their ranges, alone.
-/
import Derived.Test.YtcedhgihebollaaGreatDoorMaEvD
import Derived.Test.YtcedhgihebollaaGreatDoorMaJgF
namespace Go.Proofs.YtcedhgihebollaaGreatDoor.E.J
set_option maxRecDepth 100000
open Go.RowKit Go.Shelf
set_option linter.unusedSimpArgs false
/-- What fits asks beyond Small. -/
structure Fi (x : EM) (t : ST) : Prop where
  sm : Sm x
  st : t.st.length ≤ 100
  at_ : 0 ≤ x.at_ ∧ x.at_ ≤ 1099511627776
  by_ : -999999999 ≤ x.m.by_ ∧ x.m.by_ ≤ 999999999
  tr : 0 ≤ t.tr ∧ t.tr ≤ 1000
  told : 0 ≤ t.told ∧ t.told ≤ 7
  ne : 0 ≤ t.ne ∧ t.ne ≤ 2199023255552
theorem Fi.bd {x : EM} {t : ST} (h : Fi x t) : BdJ x := ⟨h.at_, fun _ => h.by_⟩
structure FB (W : World) (x : EM) (vr vl : Value) (t : ST) (w : World) : Prop where
  mb : w.heap[W.heap.size]? = some (.cells (EC x vr vl) 33 (0, 0))
  tb : w.heap[W.heap.size + 1]? = some (.cells (TC t) 41 (0, 0))
  below : Below W.heap.size W w
theorem FB.next {W w w' : World} {x : EM} {vr vl : Value} {t : ST} (h : FB W x vr vl t w) (hb : Below w.heap.size w w') : FB W x vr vl t w' := ⟨(hb.block _ (ltOf h.mb)).trans h.mb, (hb.block _ (ltOf h.tb)).trans h.tb, below_next h.below hb⟩
theorem FB.new (w : World) (x : EM) (vr vl : Value) (t : ST) : FB w x vr vl t ((w.alloc (.cells (EC x vr vl) 33)).alloc (.cells (TC t) 41)) := by
  refine ⟨?_, ?_, below_next (below_box w _) (below_box _ _)⟩
  · exact ((below_box (w.alloc (.cells (EC x vr vl) 33)) _).block w.heap.size (by simp)).trans (newOf w _)
  · have h := newOf (w.alloc (.cells (EC x vr vl) 33)) (.cells (TC t) 41)
    rwa [show (w.alloc (.cells (EC x vr vl) 33)).heap.size = w.heap.size + 1 by simp] at h
def FiPost (x : EM) (t : ST) (w : World) (e : Ending) (w' : World) : Prop := ∃ q, e = .returned (.bool q) ∧ (q = true → Fi x t) ∧ Below w.heap.size w w'
theorem fi_no {x : EM} {t : ST} {w w' : World} (hb : Below w.heap.size w w') : FiPost x t w (.returned (.bool false)) w' := ⟨false, rfl, fun h => (by cases h), hb⟩
set_option maxHeartbeats 16000000 in
theorem fits_x (x : EM) (vr vl : Value) (t : ST) (w : World) (hE : EAt w x vr vl) (hS : ShE x) : Calls Tryz.prog 15 #[msA x vr vl, .agg #[.int .i64 t.pl, .string (mkS t.st), .int .i64 t.tr, .int .i64 t.ne, .int .i64 t.told]] w (FiPost x t w) := by
  have H0 := Lib.hid (FB.new w x vr vl t)
  have HE := Lib.hid hE
  have HS := Lib.hid hS
  clear hE hS
  go_enter Tryz.func15, Tryz.ntmps15
  go_wp2_with (((with_reducible refine jis_load (ty := 33) (x := .tmp 2) rfl ?_); refine jload ?_ 33 (.tmp 2) rfl (w.heap.size) 0 33 (EC x vr vl) (EC x vr vl) _ rfl H0.out.mb Tryz.underlying33 rfl size_msg (fun j _ => by rw [Nat.zero_add]) ?_; (focus (first | rfl | (go_simp; done)))))
  refine (msmall_x x vr vl _ (HE.out.below H0.out.below) HS.out).mono ?_
  rintro r w1 ⟨q, rfl, hq, hb⟩
  have H1 := Lib.hid (H0.out.next hb)
  have HQ := Lib.hid hq
  clear hb H0 HE HS hq
  cases q with
  | false =>
    go_wp2_with fail
    go_ret
    exact fi_no H1.out.below
  | true =>
  have c1 : w1.cell? ⟨w.heap.size + 1, 1, none⟩ = some (.string (mkS t.st)) := cellOf H1.out.tb 1
  have c2 : w1.cell? ⟨w.heap.size + 1, 2, none⟩ = some (.int .i64 t.tr) := cellOf H1.out.tb 2
  have c3 : w1.cell? ⟨w.heap.size + 1, 3, none⟩ = some (.int .i64 t.ne) := cellOf H1.out.tb 3
  have c4 : w1.cell? ⟨w.heap.size + 1, 4, none⟩ = some (.int .i64 t.told) := cellOf H1.out.tb 4
  have m1 : w1.cell? ⟨w.heap.size, 1, none⟩ = some (.int .i64 x.at_) := cellOf H1.out.mb 1
  have m13 : w1.cell? ⟨w.heap.size, 13, none⟩ = some (.int .i64 x.m.by_) := cellOf H1.out.mb 13
  rcases Bool.eq_false_or_eq_true (decide ((((mkS t.st).size : Nat) : Int) ≤ 100)) with dh1 | dh1
  rotate_left
  · go_wp2_with fail
    go_ret
    exact fi_no H1.out.below
  rcases Bool.eq_false_or_eq_true (decide (0 ≤ x.at_)) with dh2 | dh2
  rotate_left
  · go_wp2_with fail
    go_ret
    exact fi_no H1.out.below
  rcases Bool.eq_false_or_eq_true (decide (x.at_ ≤ 1099511627776)) with dh3 | dh3
  rotate_left
  · go_wp2_with fail
    go_ret
    exact fi_no H1.out.below
  rcases Bool.eq_false_or_eq_true (decide (-999999999 ≤ x.m.by_)) with dh4 | dh4
  rotate_left
  · go_wp2_with fail
    go_ret
    exact fi_no H1.out.below
  rcases Bool.eq_false_or_eq_true (decide (x.m.by_ ≤ 999999999)) with dh5 | dh5
  rotate_left
  · go_wp2_with fail
    go_ret
    exact fi_no H1.out.below
  rcases Bool.eq_false_or_eq_true (decide (0 ≤ t.tr)) with dh6 | dh6
  rotate_left
  · go_wp2_with fail
    go_ret
    exact fi_no H1.out.below
  rcases Bool.eq_false_or_eq_true (decide (t.tr ≤ 1000)) with dh7 | dh7
  rotate_left
  · go_wp2_with fail
    go_ret
    exact fi_no H1.out.below
  rcases Bool.eq_false_or_eq_true (decide (0 ≤ t.told)) with dh8 | dh8
  rotate_left
  · go_wp2_with fail
    go_ret
    exact fi_no H1.out.below
  rcases Bool.eq_false_or_eq_true (decide (t.told ≤ 7)) with dh9 | dh9
  rotate_left
  · go_wp2_with fail
    go_ret
    exact fi_no H1.out.below
  rcases Bool.eq_false_or_eq_true (decide (0 ≤ t.ne)) with dha | dha
  rotate_left
  · go_wp2_with fail
    go_ret
    exact fi_no H1.out.below
  rcases Bool.eq_false_or_eq_true (decide (t.ne ≤ 2199023255552)) with dhb | dhb
  rotate_left
  · go_wp2_with fail
    go_ret
    exact fi_no H1.out.below
  go_wp2_with fail
  go_ret
  have hl : (mkS t.st).size = t.st.length := mkS_size _
  have h1 := of_decide_eq_true dh1
  have h2 := of_decide_eq_true dh2
  have h3 := of_decide_eq_true dh3
  have h4 := of_decide_eq_true dh4
  have h5 := of_decide_eq_true dh5
  have h6 := of_decide_eq_true dh6
  have h7 := of_decide_eq_true dh7
  have h8 := of_decide_eq_true dh8
  have h9 := of_decide_eq_true dh9
  have ha := of_decide_eq_true dha
  have hb := of_decide_eq_true dhb
  rw [hl] at h1
  exact ⟨true, rfl, fun _ => ⟨HQ.out trivial, by omega, ⟨h2, h3⟩, ⟨h4, h5⟩, ⟨h6, h7⟩, ⟨h8, h9⟩, ⟨ha, hb⟩⟩, H1.out.below⟩
end Go.Proofs.YtcedhgihebollaaGreatDoor.E.J
