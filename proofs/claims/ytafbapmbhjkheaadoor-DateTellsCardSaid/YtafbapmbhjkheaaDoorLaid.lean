/-
  What a row that lists the four tables gives: the tables as the walks ask for them; a world for the witness; a date as an argument.
-/
import Derived.Test.YtafbapmbhjkheaaDoorDtSmall
import Derived.Test.YtafbapmbhjkheaaDoorOpen
import Derived.Test.YtafbapmbhjkheaaDoorCards
import Derived.Test.YtafbapmbhjkheaaDoorTie
import Derived.Deep.DeepHandedRow
import Derived.Lib.SmallJoins
import Derived.Stop.LaidErr
namespace Go.Proofs.YtafbapmbhjkheaaDoor
open Go.ChangeShapes Go.WideShapes Go.ChangeAt Go.RowKit
theorem gPow : Tryd.prog.globalNamed "internal/strconv.uint64pow10" = some 1 := by kernel_rfl
theorem gLenType : (Tryd.prog.globals[0]?).map (·.type) = some 67 := by kernel_rfl
theorem gPowType : (Tryd.prog.globals[1]?).map (·.type) = some 89 := by kernel_rfl
theorem cellsLen : Tryd.prog.cellsOf 67 = 12 := by kernel_rfl
theorem cellsPow : Tryd.prog.cellsOf 89 = 20 := by kernel_rfl
theorem cells3 : Tryd.prog.cellsOf 3 = 1 := by kernel_rfl
theorem cellsU64 : Tryd.prog.cellsOf 79 = 1 := by kernel_rfl
/-- The tables in the rows' list. -/
def tabs : List (String × DataW Unit) := [("math/bits.deBruijn32tab", Rows.laid_math_bits_deBruijn32tab), ("math/bits.deBruijn64tab", Rows.laid_math_bits_deBruijn64tab), ("internal/strconv.uint64pow10", Rows.laid_internal_strconv_uint64pow10), ("duepost/date.lengths", Rows.laid_duepost_date_lengths)]
theorem ready_of {W : World} (h : laidMetH Tryd.prog tabs W) : Ready W := by
  have h0 : laidMet Tryd.prog tabs W := h
  have h3 : laidMet Tryd.prog [("internal/strconv.uint64pow10", Lib.tabData .u64 Lib.pow10Tab), ("duepost/date.lengths", Lib.tabData .i64 tabD)] W   := laidMet.tail (laidMet.tail h0)
  exact ⟨Lib.tabIs_of_head (rest := []) gLen gLenType Tryd.underlying67 Tryd.underlying3 cells3 cellsLen (laidMet.tail h3), Lib.tabIs_of_head gPow gPowType Tryd.underlying89 Tryd.underlying79 cellsU64 cellsPow h3⟩
def tab32 : List Int := [0, 1, 28, 2, 29, 14, 24, 3, 30, 22, 20, 15, 25, 17, 4, 8, 31, 27, 13, 23, 21, 19, 16, 7, 26, 12, 18, 6, 11, 5, 10, 9]
def tab64 : List Int := [0, 1, 56, 2, 57, 49, 28, 3, 61, 58, 42, 50, 38, 29, 17, 4, 62, 47, 59, 36, 45, 43, 51, 22, 53, 39, 33, 30, 24, 18, 12, 5, 63, 55, 48, 27, 60, 41, 37, 16, 46, 35, 44, 21, 52, 32, 23, 11, 54, 26, 40, 15, 34, 20, 31, 10, 25, 14, 19, 9, 13, 8, 7, 6]
def cellsAt (k : IntKind) (zs : List Int) : Obj → Obj
  | .cells _ t frozen => .cells (zs.map (Value.int k)).toArray t frozen
  | o => o
noncomputable def laidWorld (os : Os) : World :=
  { World.holding Tryd.prog os ⟨#[], #[], []⟩ with heap := ((((World.holding Tryd.prog os ⟨#[], #[], []⟩).heap.modify 0 (cellsAt .i64 tabD)).modify 1 (cellsAt .u64 Lib.pow10Tab)).modify 3 (cellsAt .u8 tab32)).modify 4 (cellsAt .u8 tab64) }
theorem laid_met (os : Os) (args : Array Value) : laidMet Tryd.prog tabs ((laidWorld os).forCall (fun _ _ => 0) ⟨#[], args, []⟩).memory :=
  laidMet_of_run' 8 (by kernel_rfl) (by kernel_rfl)
theorem arg_date {H : Type} {enc : TypeId × Value → H} {W : World} {base : Nat} {v : Value} {d : DataW H} {p : List MemPlace} (hv : Value.okWide Tryd.prog W .any base 23 v) (h : DataW.Trod enc Tryd.prog W 0 (fun _ => true) true 23 v d p) :
    ∃ y m d : Int, v = .agg #[.int .i64 y, .int .i64 m, .int .i64 d] := by
  obtain ⟨v0, v1, v2, y0, y1, y2, n, rfl, _, _, h0, h1, h2⟩ := Joins.open_agg3 Tryd.underlying23 (by kernel_rfl) (by kernel_rfl) hv h
  obtain ⟨a, e0, _⟩ := DataW.trod_int Tryd.underlying3 h0
  obtain ⟨b, e1, _⟩ := DataW.trod_int Tryd.underlying3 h1
  obtain ⟨c, e2, _⟩ := DataW.trod_int Tryd.underlying3 h2
  injection e0 with e0
  injection e1 with e1
  injection e2 with e2
  subst e0 e1 e2
  exact ⟨a, b, c, rfl⟩
end Go.Proofs.YtafbapmbhjkheaaDoor
