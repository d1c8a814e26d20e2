/-
  A time's text as a list of bytes.
-/
import Derived.Test.YtdcakmamdabiaaaDoorTxMath
import Derived.Lib.ItoaNum
namespace Go.Proofs.YtdcakmamdabiaaaDoor
set_option maxRecDepth 100000
/-- The sign of a digit's number. -/
def dg (n : Nat) : UInt8 := UInt8.ofNat (48 + n)
def b2 (n : Nat) : List UInt8 := [dg (n / 10), dg (n % 10)]
def b4 (n : Nat) : List UInt8 := [dg (n / 1000), dg (n / 100 % 10), dg (n / 10 % 10), dg (n % 10)]
theorem dg_nat {n : Nat} (h : n < 10) : (dg n).toNat = 48 + n := by simp [dg]; omega
theorem dg_dig {n : Nat} (h : n < 10) : digB (dg n) = true := by simp [digB, dg_nat h]; omega
theorem dec_1 {n : Nat} (h : n < 10) : Lib.decDigits n = [dg n] := by rw [Lib.decDigits, dif_pos h]; rfl
theorem dec_s {n : Nat} (h : ¬ n < 10) : Lib.decDigits n = Lib.decDigits (n / 10) ++ [dg (n % 10)] := by rw [Lib.decDigits, dif_neg h]; rfl
theorem dec_2 {n : Nat} (h1 : ¬ n < 10) (h2 : n < 100) : Lib.decDigits n = b2 n := by rw [dec_s h1, dec_1 (by omega)]; rfl
theorem dec_b2 {n : Nat} (h1 : n < 10) : [48] ++ Lib.decDigits n = b2 n := by
  rw [dec_1 h1, b2, show n / 10 = 0 by omega, show n % 10 = n by omega]
  rfl
theorem dec_4 {n : Nat} (h1 : 1000 ≤ n) (h2 : n < 10000) : Lib.decDigits n = b4 n := by
  rw [dec_s (by omega), dec_s (by omega), dec_s (by omega), dec_1 (by omega), b4, show n / 10 / 10 / 10 = n / 1000 by omega, show n / 10 / 10 % 10 = n / 100 % 10 by omega]
  rfl
/-- The text of a date and a clock. -/
def textX (y m d h i s : Nat) : List UInt8 := b4 y ++ [45] ++ b2 m ++ [45] ++ b2 d ++ [84] ++ b2 h ++ [58] ++ b2 i ++ [58] ++ b2 s ++ [90]
noncomputable def printX (t : Int) : List UInt8 :=
  textX (ofD (t / 86400)).1.toNat (ofD (t / 86400)).2.1.toNat (ofD (t / 86400)).2.2.toNat (t % 86400 / 3600).toNat (t % 3600 / 60).toNat (t % 60).toNat
/-- What Print answers. -/
noncomputable def printS (t : Int) : List UInt8 := if timB t then printX t else []
def printE (t : Int) : Int := if timB t then 0 else 1
end Go.Proofs.YtdcakmamdabiaaaDoor
