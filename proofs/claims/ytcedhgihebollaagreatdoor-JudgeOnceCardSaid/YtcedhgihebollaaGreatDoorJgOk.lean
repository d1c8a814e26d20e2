/-
  What envelope.Right's yes says of a message's numbers: they may be added.
-/
import Derived.Test.YtcedhgihebollaaGreatDoorMaJgM
namespace Go.Proofs.YtcedhgihebollaaGreatDoor.E.J
set_option maxRecDepth 100000
open Go.RowKit Go.Shelf
theorem ok_mail {x : EM} (h : OkE x) : rightM x.m = 0 := by
  have h1 := h.say (cmdM x) (by unfold cmds; simp)
  unfold prE at h1
  rw [show kindV (cmdM x).verb = 2 from rfl, if_neg (by decide)] at h1
  by_cases hb : bE 2 (cmdM x) = 0
  · unfold bE at hb
    rw [if_neg (by decide), if_pos rfl] at hb
    split at hb
    · split at hb
      · exact hb
      · contradiction
    · exact absurd hb (by decide)
  · rw [if_neg hb] at h1
    exact absurd h1 hb
theorem ok_bd {x : EM} (h : OkE x) : BdJ x := by
  refine ⟨h.at_, fun hb => ?_⟩
  have h1 := ok_mail h
  unfold rightM at h1
  split at h1
  · exact absurd h1 (by decide)
  · split at h1
    · exact absurd h1 (by decide)
    · rename_i _ hr
      have hr' : rangB x.m = true := by simpa using hr
      simp only [rangB, inB, hb, Bool.and_eq_true] at hr'
      have := hr'.1.2
      unfold leastV at this
      split at this <;> simp at this <;> omega
end Go.Proofs.YtcedhgihebollaaGreatDoor.E.J
