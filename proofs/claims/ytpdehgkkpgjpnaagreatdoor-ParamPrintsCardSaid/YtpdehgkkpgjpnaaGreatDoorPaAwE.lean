/-
  What the law's awake asks, reckoned.
-/
import Derived.Test.YtpdehgkkpgjpnaaGreatDoorMaPure
namespace Go.Proofs.YtpdehgkkpgjpnaaGreatDoor
set_option maxRecDepth 100000
deriving instance DecidableEq for ML
deriving instance DecidableEq for RL
def awS : Txt := [115, 105, 122, 101, 61, 49, 48, 32, 98, 121, 61, 54, 48, 59, 114, 116]
def awM : ML := ⟨true, false, false, true, false, 10, 0, 0, 60, 0, [], [], [], [82, 84]⟩
theorem aw1 : peM awS = 0 ∧ pvM awS = awM := by decide +kernel
def awG : Txt := [72, 79, 76, 68, 70, 79, 82, 61, 49, 32, 72, 79, 76, 68, 85, 78, 84, 73, 76, 61, 50, 48, 48, 48, 45, 48, 49, 45, 48, 49, 84, 48, 48, 58, 48, 48, 58, 48, 48, 90]
theorem aw2 : peM awG = 9 ∧ pvM awG = zeroM := by decide +kernel
def awX : Txt := [88, 61, 49]
theorem aw3 : peM awX = 10 ∧ pvM awX = zeroM := by decide +kernel
def awT : Txt := [83, 73, 90, 69, 61, 49, 32, 83, 73, 90, 69, 61, 49]
theorem aw4 : peM awT = 11 ∧ pvM awT = zeroM := by decide +kernel
theorem aw5 : rightM awM = 0 := by decide +kernel
theorem aw6 : printM awM = [83, 73, 90, 69, 61, 49, 48, 32, 66, 89, 61, 54, 48, 59, 82, 84] := by
  have e1 : Lib.itoa 10 = [49, 48] := by simp [Lib.itoa, Lib.decDigits]
  have e2 : Lib.itoa 60 = [54, 48] := by simp [Lib.itoa, Lib.decDigits]
  rw [printM, if_pos aw5]
  simp only [wdM, awM, wordsL, e1, e2]
  decide +kernel
def awR : Txt := [78, 79, 84, 73, 70, 89, 61, 100, 101, 108, 97, 121, 44, 115, 117, 99, 99, 101, 115, 115, 32, 79, 82, 67, 80, 84, 61, 114, 102, 99, 56, 50, 50, 59, 97, 43, 50, 48, 98]
def awQ : RL := ⟨[83, 68], [82, 70, 67, 56, 50, 50], [97, 32, 98]⟩
theorem aw7 : peR awR = 0 ∧ pvR awR = awQ := by decide +kernel
theorem aw8 : rightR awQ = 0 ∧ printR awQ = [78, 79, 84, 73, 70, 89, 61, 83, 85, 67, 67, 69, 83, 83, 44, 68, 69, 76, 65, 89, 32, 79, 82, 67, 80, 84, 61, 82, 70, 67, 56, 50, 50, 59, 97, 43, 50, 48, 98] := by decide +kernel
def awN : Txt := [78, 79, 84, 73, 70, 89, 61, 78, 69, 86, 69, 82, 44, 68, 69, 76, 65, 89]
theorem aw9 : peR awN = 2 ∧ pvR awN = zeroR := by decide +kernel
end Go.Proofs.YtpdehgkkpgjpnaaGreatDoor
