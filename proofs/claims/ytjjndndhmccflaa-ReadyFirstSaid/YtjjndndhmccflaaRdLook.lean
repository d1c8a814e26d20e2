/-
  What the map of who is in flight tells.
-/
import Derived.Test.YtjjndndhmccflaaRdPub
namespace Go.Proofs.Ytjjndndhmccflaa
set_option maxRecDepth 100000
open Go.RowKit
theorem zeroE_eq : zeroE = agE ⟨0, [], 0, 0⟩ := rfl
theorem fly_mem {F : List Et} {e : Et} (h : e ∈ F) : (e.id, agE e) ∈ flyL F := List.mem_map.2 ⟨e, h, rfl⟩
/-- The look-up of a number, in every world that bears the map. -/
theorem fly_look {w : World} {fm : Nat} {F : List Et} (h : JAt w fm (flyL F)) {i : Int} (hi : Nm i) : ∃ y t, (∀ w', w'.heap[fm]? = w.heap[fm]? → (Instr.lookup 60 (.map (some fm)) (.int .i64 i) true).run Try.prog w' = .ok (.tuple #[agE y, .bool t]) w') ∧ t = (F.any fun x => x.id == i) ∧ ((t = true ∧ y ∈ F ∧ y.id = i) ∨ (t = false ∧ y = ⟨0, [], 0, 0⟩)) := by
  cases hf : F.find? (fun x => x.id == i) with
  | some y =>
    have hy := List.mem_of_find?_eq_some hf
    have he : y.id = i := by have := List.find?_some hf; simpa using this
    refine ⟨y, true, fun w' hw => ?_, ?_, .inl ⟨rfl, hy, he⟩⟩
    · have := (h.block hw).look_yesE (n := y.id) (a := agE y) (fly_mem hy) (he ▸ hi)
      rwa [he] at this
    · exact (List.any_eq_true.2 ⟨y, hy, by simpa using he⟩).symm
  | none =>
    have hn : ∀ x ∈ F, x.id ≠ i := fun x hx e => by have := List.find?_eq_none.1 hf x hx; simp [e] at this
    refine ⟨⟨0, [], 0, 0⟩, false, fun w' hw => ?_, ?_, .inr ⟨rfl, rfl⟩⟩
    · refine (h.block hw).look_noE (n := i) (fun p hp => ?_) hi
      obtain ⟨e, he, rfl⟩ := List.mem_map.1 hp
      exact hn e he
    · symm; rw [List.any_eq_false]; intro x hx e; exact hn x hx (by simpa using e)
abbrev ecs (x : Et) : Array Value := #[.int .i64 x.id, .string (mkS x.dest), .int .i64 x.pri, .int .i64 x.at_]
theorem ecs_one (x : Et) : (ecs x).all (·.oneCell') = true := by simp [Value.oneCell']
theorem ecs_whole (y x : Et) : ecs x = ((ecs y).toList.take 0 ++ (ecs x).toList ++ (ecs y).toList.drop (0 + (ecs x).size)).toArray := by simp
theorem size_entry : (Try.prog.info? 34).map (·.size) = some 4 := by kernel_rfl
theorem size_waiting : (Try.prog.info? 70).map (·.size) = some 5 := by kernel_rfl
end Go.Proofs.Ytjjndndhmccflaa
