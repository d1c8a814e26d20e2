import Derived.Test.YtojpkbonioglbaaGreatDoorMaEvD
import Derived.Test.YtojpkbonioglbaaGreatDoorMaRtP
import Derived.Lay
import Derived.Test.YtojpkbonioglbaaGreatDoorMaRtW
namespace Go.Proofs.YtojpkbonioglbaaGreatDoor.E.T
set_option maxRecDepth 100000
open Go.ChangeShapes Go.WideShapes Go.ChangeAt Go.RowKit
def tabs : List (String × DataW Unit) := [("math/bits.deBruijn32tab", Rows.laid_math_bits_deBruijn32tab), ("math/bits.deBruijn64tab", Rows.laid_math_bits_deBruijn64tab), ("internal/strconv.uint64pow10", Rows.laid_internal_strconv_uint64pow10), ("unicode/utf8.acceptRanges", Rows.laid_unicode_utf8_acceptRanges), ("duepost/date.lengths", Rows.laid_duepost_date_lengths), ("duepost/param.notices", Rows.laid_duepost_param_notices), ("unicode.CaseRanges", Rows.laid_unicode_CaseRanges), ("unicode/utf8.first", Rows.laid_unicode_utf8_first)]
theorem ready_of {W : World} (h : laidMetH Tryz.prog tabs W) : Ready W ∧ NotR W := by
 have h0 : laidMet Tryz.prog tabs W := h
 have h1 : laidMet Tryz.prog (("internal/strconv.uint64pow10", Lib.tabData .u64 Lib.pow10Tab) :: tabs.drop 3) W := laidMet.tail (laidMet.tail h0)
 have h2 : laidMet Tryz.prog (("duepost/date.lengths", Lib.tabData .i64 tabD) :: tabs.drop 5) W := laidMet.tail (laidMet.tail h1)
 have h3 : laidMet Tryz.prog (tabs.drop 5) W := laidMet.tail h2
 refine ⟨⟨Lib.tabIs_of_head gLen gLenType Tryz.underlying179 Tryz.underlying3 cells3 cellsLen h2, Lib.tabIs_of_head gPow gPowType Tryz.underlying157 Tryz.underlying129 cellsU64 cellsPow h1⟩, ?_⟩
 obtain ⟨ps, ⟨g', t', cs, fuel, p, q, hg', ht', hvar, hd, _, _⟩, _⟩ := h3
 obtain rfl := Option.some.inj (gNot.symm.trans hg')
 obtain rfl := Option.some.inj (gNotType.symm.trans ht')
 have hcs := cells_of_strs (zs := [tSU, tFA, tDE]) Tryz.underlying207 Tryz.underlying9 Tryz.cells9 cellsNot hd
 have hc := fun i => World.var?_cell gNot hvar i
 have e0 := hc 0
 have e1 := hc 1
 have e2 := hc 2
 rw [← Array.getElem?_toList, hcs] at e0 e1 e2
 exact ⟨e0, e1, e2⟩
theorem rdy_of {W : World} (h : laidMetH Tryz.prog tabs W) (hs : W.ShapedOpen Tryz.prog) : Rdy W := by
 obtain ⟨hR, hN⟩ := ready_of h
 exact ⟨hR, hN, mx_cell hs⟩
noncomputable def laidWorld (os : Os) : World := World.laidAll Tryz.prog os tabs
theorem laid_met (os : Os) (args : Array Value) : laidMet Tryz.prog tabs ((laidWorld os).forCall (fun _ _ => 0) ⟨#[], args, []⟩).memory := laidMet_laidAll _ (by kernel_rfl) (by kernel_rfl)
theorem laid_os (os : Os) : (laidWorld os).os = os := World.laidAll_os _ _ _
theorem witness_s {H : Type} {enc : TypeId × Value → H} {C : Checked} {os : Os} {f : FuncId} {fn : Func} {s : OpenSpec} {conds : List PathCond} {apart : Bool} {laid : List (String × DataW Unit)} (modest : Bool) (w0 : World) (args : Array Value) (hos : w0.os = os)
  (hsh : (w0.forCall (fun _ _ => 0) ⟨#[], args, []⟩).Shaped C.prog)
  (hok : Input.okWideB C.prog (w0.forCall (fun _ _ => 0) ⟨#[], args, []⟩) f ⟨#[], args, []⟩ = true)
  (hrow : s.preRow enc C.prog fn conds apart laid (w0.forCall (fun _ _ => 0) ⟨#[], args, []⟩).memory args) :
  ∃ (w : World) (tape : Tape) (i : Input), w.os = os ∧ (w.forCall tape i).Shaped C.prog ∧ i.vars = [] ∧ Input.okWide C.prog (w.forCall tape i) .any w.heap.size f i ∧
   s.preRow enc C.prog fn conds apart laid (w.forCall tape i).memory i.args ∧ ({ modest := modest } : Assume).holds C.prog (lone (Frame.enter C.prog f i.args .normal) [] (w.forCall tape i)) :=
 ⟨w0, fun _ _ => 0, ⟨#[], args, []⟩, hos, hsh, (Input.okWide_of_okWideB (base := 0) hok).1, (Input.okWide_of_okWideB hok).2, hrow, by
  simp only [Assume.holds]
  exact ⟨by simp, by simp, fun _ => Modest.zero, by simp, by simp⟩⟩
end Go.Proofs.YtojpkbonioglbaaGreatDoor.E.T
namespace Go.Proofs.YtojpkbonioglbaaGreatDoor.E.T
set_option maxRecDepth 100000
open Go.ChangeShapes Go.WideShapes Go.ChangeAt Go.RowKit
open Go.ChangeMaps (open_string shut_string)
section
variable {H : Type} {enc : TypeId × Value → H} {W : World}
theorem arg_rtx {base : Nat} {v : Value} {d : DataW H} {p : List MemPlace} {ts : List TypeId} {ds : List (DataW H)} {j : Nat} (hv : Value.okWide Tryz.prog W .any base 22 v) (h : DataW.Trod enc Tryz.prog W 0 (fun _ => true) true 22 v d p)
  (hsz : (DataW.weightsEach Tryz.prog ts ds).all (· ≤ reachBytes) = true) (ht : ts[j]? = some 22) (hd : ds[j]? = some d) : ∃ l : List Txt, TxtsAt W v l ∧ ∀ t ∈ l, t.length ≤ 281474976710656 := by
 have hw := wt_arg hsz ht hd
 obtain ⟨a0, len, cap, rfl⟩ := okWide_slice Tryz.underlying22 hv
 obtain ⟨fuel, hf⟩ := h
 exact rd_txts (x := (d, p)) (by simpa [Value.cells] using hf) hw
end
end Go.Proofs.YtojpkbonioglbaaGreatDoor.E.T
