/-
  Small letters made in place, as lists; what the law of small letters makes of a printed command.
-/
import Derived.Test.YtgkjbminokgddaaGreatDoorCmMath
namespace Go.Proofs.YtgkjbminokgddaaGreatDoor
set_option maxRecDepth 100000
/-- The first j of m in small letters. -/
def loF (pre m post : Txt) (j : Nat) : Txt := pre ++ (lowL (m.take j) ++ m.drop j) ++ post
theorem lowL_len (l : Txt) : (lowL l).length = l.length := by simp [lowL]
theorem loF_zero (pre m post : Txt) : loF pre m post 0 = pre ++ m ++ post := by simp [loF, lowL]
theorem loF_all {pre m post : Txt} {j : Nat} (h : m.length ≤ j) : loF pre m post j = pre ++ lowL m ++ post := by
  rw [loF, List.take_of_length_le h, List.drop_of_length_le h, List.append_nil]
theorem loF_len (pre m post : Txt) (j : Nat) : (loF pre m post j).length = pre.length + m.length + post.length := by
  simp [loF, lowL_len]; omega
theorem loF_get {pre m post : Txt} {j : Nat} {x : UInt8} (h : m[j]? = some x) : (loF pre m post j)[pre.length + j]? = some x := by
  obtain ⟨hj, e⟩ := List.getElem?_eq_some_iff.1 h
  have hl : (lowL (m.take j)).length = j := by rw [lowL_len, List.length_take]; omega
  rw [loF, List.append_assoc, List.getElem?_append_right (by omega), show pre.length + j - pre.length = j by omega, List.append_assoc, List.getElem?_append_right (by omega), hl, Nat.sub_self, List.getElem?_append_left (by rw [List.length_drop]; omega), List.getElem?_drop, Nat.add_zero, h]
theorem loF_post {pre m post : Txt} : (loF pre m post m.length)[pre.length + m.length]? = post[0]? := by
  rw [loF_all (Nat.le_refl _), List.getElem?_append_right (by rw [List.length_append, lowL_len]; omega), List.length_append, lowL_len, Nat.sub_self]
theorem loF_set {pre m post : Txt} {j : Nat} {x : UInt8} (h : m[j]? = some x) : (loF pre m post j).set (pre.length + j) (lowB x) = loF pre m post (j + 1) := by
  obtain ⟨hj, e⟩ := List.getElem?_eq_some_iff.1 h
  have hl : (lowL (m.take j)).length = j := by rw [lowL_len, List.length_take]; omega
  rw [loF, loF, List.append_assoc, List.set_append_right _ _ (by omega), show pre.length + j - pre.length = j by omega, List.append_assoc, List.set_append_right _ _ (by omega), hl, Nat.sub_self, List.drop_eq_getElem_cons hj, List.take_succ_eq_append_getElem hj, e]
  simp [lowL]
theorem low_sum (x : UInt8) : ((lowB x).toNat : Int) = ((x.toNat : Int) + 32) % 256 := by
  show ((x + 32).toNat : Int) = _
  rw [UInt8.toNat_add]
  simp
/-- A message's, or a recipient's, line. -/
theorem let_two {c : CL} (h : prE c = 0) (hk : c.verb = vMAIL ∨ c.verb = vRCPT) : ∃ mid tail : Txt, prV c = c.verb ++ (32 :: (mid ++ 58 :: tail)) ∧ letV c = lowL c.verb ++ (32 :: (lowL mid ++ 58 :: tail)) ∧ 58 ∉ mid ∧ mid.length ≤ 4 := by
  have hp : prV c = c.verb ++ bV (kindV c.verb) c := if_pos h
  rcases hk with hv | hv
  · have e2 : kindV c.verb = 2 := by rw [hv]; decide
    refine ⟨[70, 82, 79, 77], (bV 2 c).drop 6, ?_, ?_, by decide, by decide⟩
    · rw [hp, e2]
      show _ ++ wdsV hFROM c.p (printM c.m) = _ ++ (32 :: ([70, 82, 79, 77] ++ 58 :: (wdsV hFROM c.p (printM c.m)).drop 6))
      simp [wdsV, hFROM]
    · rw [letV, e2]
      rfl
  · have e2 : kindV c.verb = 3 := by rw [hv]; decide
    refine ⟨[84, 79], (bV 3 c).drop 4, ?_, ?_, by decide, by decide⟩
    · rw [hp, e2]
      show _ ++ wdsV hTO c.p (printR c.r) = _ ++ (32 :: ([84, 79] ++ 58 :: (wdsV hTO c.p (printR c.r)).drop 4))
      simp [wdsV, hTO]
    · rw [letV, e2]
      rfl
theorem let_else {c : CL} (h : prE c = 0) (h2 : c.verb ≠ vMAIL) (h3 : c.verb ≠ vRCPT) : ∃ rest : Txt, prV c = c.verb ++ rest ∧ letV c = lowL c.verb ++ rest := by
  have hp : prV c = c.verb ++ bV (kindV c.verb) c := if_pos h
  refine ⟨bV (kindV c.verb) c, hp, ?_⟩
  have hk := (prE_zero h).1
  have hm := kind_cases hk
  simp only [List.mem_cons, List.not_mem_nil, or_false] at hm
  have e : kindV c.verb ≠ 2 ∧ kindV c.verb ≠ 3 := by
    rcases hm with e | e | e | e | e | e | e | e | e | e
    · rw [e]; decide
    · rw [e]; decide
    · exact absurd e h2
    · exact absurd e h3
    all_goals rw [e]; decide
  rw [letV, swapH, if_neg e.1, if_neg e.2]
end Go.Proofs.YtgkjbminokgddaaGreatDoor
