/-
  The operations of ofMail's region that draws its order, one by one.
-/
import Derived.Test.YtbecdncnidcmdaaGreatDoorPaOrder
namespace Go.Proofs.YtbecdncnidcmdaaGreatDoor
set_option maxRecDepth 100000
open Go.RowKit
def regOps (id : Nat) : Code → Array Oper
  | .region i ops _ => if i == id then ops else #[]
  | .seq a b => if (regOps id a).isEmpty then regOps id b else regOps id a
  | .block _ c => regOps id c
  | _ => #[]
noncomputable def opsM : Array Oper := match Tryz.f277.body with
  | some c => regOps 3 c
  | none => #[]
theorem ex_load_num {X : Nat → Value} {t b : Nat} {v : Value} {w : World} {o : Oper} (ht : t < 47) (hX : X t = .pointer (some ⟨b, 0, none⟩)) (hc : w.cell? ⟨b, 0, none⟩ = some v) (hop : o.op = .load 331 (.tmp t)) :
    (execOp (actX 47 X).eval o).run Tryz.prog w = .ok (.value v) w := by
  have he := eval_X X ht
  simp only [execOp, hop, he, hX]
  go_simp
theorem ex_load_mail {X : Nat → Value} {t b : Nat} {v : Value} {w : World} {o : Oper} (ht : t < 47) (hX : X t = .pointer (some ⟨b, 0, none⟩)) (hc : w.cell? ⟨b, 0, none⟩ = some v) (hop : o.op = .load 303 (.tmp t)) :
    (execOp (actX 47 X).eval o).run Tryz.prog w = .ok (.value v) w := by
  have he := eval_X X ht
  simp only [execOp, hop, he, hX]
  go_simp
theorem ex_nil {X : Nat → Value} {t : Nat} {p : Addr} {w : World} {o : Oper} (ht : t < 47) (hX : X t = .pointer (some p)) (hop : o.op = .nilCheck (.tmp t)) :
    (execOp (actX 47 X).eval o).run Tryz.prog w = .ok (.value (.pointer (some p))) w := by
  have he := eval_X X ht
  simp only [execOp, hop, he, hX]
  go_simp
theorem ex_fld {X : Nat → Value} {t k c : Nat} {b : Nat} {w : World} {o : Oper} (ht : t < 47) (hX : X t = .pointer (some ⟨b, 0, none⟩)) (hk : (k, c) ∈ [(0, 0), (1, 5), (2, 6), (5, 9), (6, 10), (7, 11)]) (hop : o.op = .fieldAddr 49 (.tmp t) k) :
    (execOp (actX 47 X).eval o).run Tryz.prog w = .ok (.value (.pointer (some ⟨b, c, none⟩))) w := by
  have he := eval_X X ht
  simp only [List.mem_cons, List.not_mem_nil, or_false, Prod.mk.injEq] at hk
  rcases hk with ⟨rfl, rfl⟩ | ⟨rfl, rfl⟩ | ⟨rfl, rfl⟩ | ⟨rfl, rfl⟩ | ⟨rfl, rfl⟩ | ⟨rfl, rfl⟩
  all_goals
    simp only [execOp, hop, he, hX]
    go_simp
theorem ex_has {X : Nat → Value} {t k : Nat} {b : Nat} {w : World} {o : Oper} (ht : t < 47) (hX : X t = .pointer (some ⟨b, 0, none⟩)) (hk : k ∈ [0, 1, 4]) (hop : o.op = .fieldAddr 47 (.tmp t) k) :
    (execOp (actX 47 X).eval o).run Tryz.prog w = .ok (.value (.pointer (some ⟨b, k, none⟩))) w := by
  have he := eval_X X ht
  simp only [List.mem_cons, List.not_mem_nil, or_false] at hk
  rcases hk with rfl | rfl | rfl
  all_goals
    simp only [execOp, hop, he, hX]
    go_simp
theorem ex_move {X : Nat → Value} {t : Nat} {w : World} {o : Oper} (ht : t < 47) (hop : o.op = .move (.tmp t)) :
    (execOp (actX 47 X).eval o).run Tryz.prog w = .ok (.value (X t)) w := by
  have he := eval_X X ht
  simp only [execOp, hop, he]
  go_simp
theorem ex_assign {X : Nat → Value} {t : Nat} {w : World} {o : Oper} (ht : t < 47) (hop : o.op = .assign (.tmp t)) :
    (execOp (actX 47 X).eval o).run Tryz.prog w = .ok (.value (X t)) w := by
  have he := eval_X X ht
  simp only [execOp, hop, he]
  go_simp
theorem get_X {n t : Nat} (X : Nat → Value) (ht : t < n) : (actX n X).tmps[t]?.getD undef = X t := by simp [actX, ht]
theorem ex_fn1 {X : Nat → Value} {g t : Nat} {w : World} {o : Oper} (ht : t < 47) (hop : o.op = .makeFunc (.func g) #[] #[.tmp t]) :
    (execOp (actX 47 X).eval o).run Tryz.prog w = .ok (.value (.func (.func g) #[] #[X t])) w := by
  simp only [execOp, hop]
  go_simp
  exact get_X X ht
theorem ex_fn2 {X : Nat → Value} {g t u : Nat} {w : World} {o : Oper} (ht : t < 47) (hu : u < 47) (hop : o.op = .makeFunc (.func g) #[] #[.tmp t, .tmp u]) :
    (execOp (actX 47 X).eval o).run Tryz.prog w = .ok (.value (.func (.func g) #[] #[X t, X u])) w := by
  simp only [execOp, hop]
  go_simp
  exact ⟨get_X X ht, get_X X hu⟩
theorem ex_map {X : Nat → Value} {w : World} {o : Oper} (hop : o.op = .makeMap 301 none) :
    (execOp (actX 47 X).eval o).run Tryz.prog w = .ok (.value (.map (some w.heap.size))) (w.alloc (.map #[] 0)) := by
  have hmm := @run_makeMap Tryz.prog
  simp only [execOp, hop]
  go_simp
theorem size_M : opsM.size = 51 := by kernel_rfl
theorem guard_M : opsM.all (fun o => o.guard.isNone) = true := by kernel_rfl
theorem binds_M : opsM.all (fun o => o.after.all (Region.binds .any)) = true := by kernel_rfl
theorem ex_num {X : Nat → Value} {t u v k : Nat} {n m : Int} {w : World} {o : Oper} (ht : t < 47) (hu : u < 47) (hv : v < 47) (hX : X t = .func (.func 312) #[] #[])
    (hop : o.op = .call { callee := .value (.tmp t), args := #[.tmp u, .tmp v, .func k, .const (.int .i64 n), .const (.int .i64 m)], argTypes := #[237, 328, 329, 3, 3] }) :
    (execOp (actX 47 X).eval o).run Tryz.prog w = .ok (.enter 312 #[X u, X v, .func (.func k) #[] #[], .int .i64 n, .int .i64 m]) w := by
  have he := eval_X X ht
  have ek := enters_of Tryz.func312 (by kernel_rfl) rfl
  simp only [execOp, hop]
  simp only [resolve, he, hX]
  go_simp
  exact ⟨get_X X hu, get_X X hv⟩
theorem ex_nam {X : Nat → Value} {t u k : Nat} {w : World} {o : Oper} (ht : t < 47) (hu : u < 47) (hX : X t = .func (.func 315) #[] #[])
    (hop : o.op = .call { callee := .value (.tmp t), args := #[.tmp u, .func k], argTypes := #[94, 87] }) :
    (execOp (actX 47 X).eval o).run Tryz.prog w = .ok (.enter 315 #[X u, .func (.func k) #[] #[]]) w := by
  have he := eval_X X ht
  have ek := enters_of Tryz.func315 (by kernel_rfl) rfl
  simp only [execOp, hop]
  simp only [resolve, he, hX]
  go_simp
  exact get_X X hu
end Go.Proofs.YtbecdncnidcmdaaGreatDoor
