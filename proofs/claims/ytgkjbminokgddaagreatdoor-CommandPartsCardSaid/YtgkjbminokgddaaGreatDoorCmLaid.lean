/-
  What a row that lists the nine variables gives: the tables as the walks ask for them; a world for the witness; a message and a recipient as arguments.
-/
import Derived.Test.YtgkjbminokgddaaGreatDoorMaDate
import Derived.Test.YtgkjbminokgddaaGreatDoorPaNote
import Derived.Test.YtgkjbminokgddaaGreatDoorMaPure
import Derived.Test.YtgkjbminokgddaaGreatDoorCards
import Derived.Test.YtgkjbminokgddaaGreatDoorTie
import Derived.HandedShaped
import Derived.ProofKit
import Derived.SizedLaws
import Derived.Deep.DeepHandedRow
import Derived.Lib.SmallJoins
import Derived.Stop.LaidErr
namespace Go.Proofs.YtgkjbminokgddaaGreatDoor
set_option maxRecDepth 100000
open Go.ChangeShapes Go.WideShapes Go.ChangeAt Go.RowKit
open Go.ChangeMaps (open_string shut_string)
theorem Tryz.own : ownKnob Tryz.prog.godebug = none := by kernel_rfl
theorem Tryz.laidOut : laidOutB Tryz.prog = true := by kernel_rfl
theorem Tryz.cells9 : Tryz.prog.cellsOf 9 = 1 := by kernel_rfl
theorem gPow : Tryz.prog.globalNamed "internal/strconv.uint64pow10" = some 7 := by kernel_rfl
theorem gNot : Tryz.prog.globalNamed "duepost/param.notices" = some 1 := by kernel_rfl
theorem gLenType : (Tryz.prog.globals[2]?).map (·.type) = some 171 := by kernel_rfl
theorem gPowType : (Tryz.prog.globals[7]?).map (·.type) = some 202 := by kernel_rfl
theorem gNotType : (Tryz.prog.globals[1]?).map (·.type) = some 150 := by kernel_rfl
theorem cellsLen : Tryz.prog.cellsOf 171 = 12 := by kernel_rfl
theorem cellsPow : Tryz.prog.cellsOf 202 = 20 := by kernel_rfl
theorem cellsNot : Tryz.prog.cellsOf 150 = 3 := by kernel_rfl
theorem cells3 : Tryz.prog.cellsOf 3 = 1 := by kernel_rfl
theorem cellsU64 : Tryz.prog.cellsOf 182 = 1 := by kernel_rfl
/-- The variables in the rows' list. -/
def tabs : List (String × DataW Unit) := [("math/bits.deBruijn32tab", Rows.laid_math_bits_deBruijn32tab), ("math/bits.deBruijn64tab", Rows.laid_math_bits_deBruijn64tab), ("internal/strconv.uint64pow10", Rows.laid_internal_strconv_uint64pow10), ("unicode/utf8.acceptRanges", Rows.laid_unicode_utf8_acceptRanges), ("strconv.ErrRange", Rows.laid_strconv_ErrRange), ("strconv.ErrSyntax", Rows.laid_strconv_ErrSyntax), ("duepost/date.lengths", Rows.laid_duepost_date_lengths), ("duepost/param.notices", Rows.laid_duepost_param_notices), ("unicode/utf8.first", Rows.laid_unicode_utf8_first)]
/-- An array of texts that reads as a table holds the table's texts, cell for cell. -/
theorem cells_of_strs {H : Type} {enc : TypeId × Value → H} {P : Program} {w : World} {base : Nat} {sp : Nat → Bool} {held : Bool} {fuel : Nat} {t e : TypeId} {n : Nat} {cs : List Value} {zs : List (List UInt8)} {p : List MemPlace}
    (ht : P.underlying t = some (.array n e)) (he : P.underlying e = some .string) (hce : P.cellsOf e = 1) (hct : P.cellsOf t = n)
    (h : DataW.trod enc P w base sp held fuel t cs = some (.agg (zs.map fun z => .lit (.string z)), p)) : cs = zs.map fun z => Value.string (mkS z) := by
  cases fuel with
  | zero => simp [DataW.trod] at h
  | succ fuel =>
    simp only [DataW.trod, ht, hce, hct, Nat.mul_one] at h
    split at h
    · rename_i hl
      obtain ⟨xs, hm, hx⟩ := Option.map_eq_some_iff.1 h
      have hxs : xs.map (·.1) = zs.map fun z => (DataW.lit (.string z) : DataW H) := by
        have := congrArg Prod.fst hx
        simpa using this
      have hxl : xs.length = n := by simpa using Lib.mapM_length hm
      have hzl : zs.length = n := by
        have := congrArg List.length hxs
        simp at this
        omega
      apply List.ext_getElem?
      intro i
      by_cases hi : i < n
      · obtain ⟨b, hb, hf⟩ := Lib.mapM_at hm i i (by simp [hi])
        obtain ⟨z, hc, rfl, _⟩ := DataW.trod_string he hf
        have h1 : cs[i]? = some (.string z) := by
          have := congrArg (·[0]?) hc
          simpa [List.getElem?_take, List.getElem?_drop] using this
        have h2 : (xs.map (·.1))[i]? = some (DataW.lit (.string z.data.toList) : DataW H) := by simp [hb]
        rw [hxs] at h2
        simp only [List.getElem?_map, Option.map_eq_some_iff, DataW.lit.injEq, Lit.string.injEq] at h2
        obtain ⟨z', hz', hzz⟩ := h2
        obtain ⟨l, rfl⟩ := mkS_of z
        rw [mkS_data] at hzz
        subst hzz
        simp [h1, hz']
      · rw [List.getElem?_eq_none (by omega), List.getElem?_eq_none (by simp; omega)]
    · cases h
theorem ready_of {W : World} (h : laidMetH Tryz.prog tabs W) : Ready W ∧ NotR W := by
  have h0 : laidMet Tryz.prog tabs W := h
  have h1 : laidMet Tryz.prog (("internal/strconv.uint64pow10", Lib.tabData .u64 Lib.pow10Tab) :: tabs.drop 3) W := laidMet.tail (laidMet.tail h0)
  have h2 : laidMet Tryz.prog (("duepost/date.lengths", Lib.tabData .i64 tabD) :: tabs.drop 7) W := laidMet.tail (laidMet.tail (laidMet.tail (laidMet.tail h1)))
  have h3 : laidMet Tryz.prog (tabs.drop 7) W := laidMet.tail h2
  refine ⟨⟨Lib.tabIs_of_head gLen gLenType Tryz.underlying171 Tryz.underlying3 cells3 cellsLen h2, Lib.tabIs_of_head gPow gPowType Tryz.underlying202 Tryz.underlying182 cellsU64 cellsPow h1⟩, ?_⟩
  obtain ⟨ps, ⟨g', t', cs, fuel, p, q, hg', ht', hvar, hd, _, _⟩, _⟩ := h3
  obtain rfl := Option.some.inj (gNot.symm.trans hg')
  obtain rfl := Option.some.inj (gNotType.symm.trans ht')
  have hcs := cells_of_strs (zs := [tSU, tFA, tDE]) Tryz.underlying150 Tryz.underlying9 Tryz.cells9 cellsNot hd
  have hc := fun i => World.var?_cell gNot hvar i
  have e0 := hc 0
  have e1 := hc 1
  have e2 := hc 2
  rw [← Array.getElem?_toList, hcs] at e0 e1 e2
  exact ⟨e0, e1, e2⟩
def tab32 : List Int := [0, 1, 28, 2, 29, 14, 24, 3, 30, 22, 20, 15, 25, 17, 4, 8, 31, 27, 13, 23, 21, 19, 16, 7, 26, 12, 18, 6, 11, 5, 10, 9]
def tab64 : List Int := [0, 1, 56, 2, 57, 49, 28, 3, 61, 58, 42, 50, 38, 29, 17, 4, 62, 47, 59, 36, 45, 43, 51, 22, 53, 39, 33, 30, 24, 18, 12, 5, 63, 55, 48, 27, 60, 41, 37, 16, 46, 35, 44, 21, 52, 32, 23, 11, 54, 26, 40, 15, 34, 20, 31, 10, 25, 14, 19, 9, 13, 8, 7, 6]
def ranges : List Int := [128, 191, 160, 191, 128, 159, 144, 191, 128, 143] ++ List.replicate 22 0
def cellsAt (cs : List Value) : Obj → Obj
  | .cells _ t frozen => .cells cs.toArray t frozen
  | o => o
noncomputable def low : Nat := (World.holding Tryz.prog default ⟨#[], #[], []⟩).heap.size
noncomputable def laidWorld (os : Os) : World :=
  let w0 := World.holding Tryz.prog os ⟨#[.cells #[.string { data := #[118, 97, 108, 117, 101, 32, 111, 117, 116, 32, 111, 102, 32, 114, 97, 110, 103, 101] }] 200, .cells #[.string { data := #[105, 110, 118, 97, 108, 105, 100, 32, 115, 121, 110, 116, 97, 120] }] 200], #[], []⟩
  { w0 with heap := ((((((((w0.heap.modify 2 (cellsAt (tabD.map (Value.int .i64)))).modify 7 (cellsAt (Lib.pow10Tab.map (Value.int .u64)))).modify 8 (cellsAt (tab32.map (Value.int .u8)))).modify 9 (cellsAt (tab64.map (Value.int .u8)))).modify 1 (cellsAt [.string (mkS tSU), .string (mkS tFA), .string (mkS tDE)])).modify 6 (cellsAt [.iface 198 (.pointer (some ⟨low, 0, none⟩))])).modify 5 (cellsAt [.iface 198 (.pointer (some ⟨low + 1, 0, none⟩))])).modify 4 (cellsAt (ranges.map (Value.int .u8)))).modify 3 (cellsAt (Pinned.utf8FirstZ.map fun n : Nat => Value.int .u8 (n : Int))) }
theorem laid_met (os : Os) (args : Array Value) : laidMet Tryz.prog tabs ((laidWorld os).forCall (fun _ _ => 0) ⟨#[], args, []⟩).memory :=
  laidMet_of_run' 8 (by kernel_rfl) (by kernel_rfl)
theorem arg_str {H : Type} {enc : TypeId × Value → H} {W : World} {base : Nat} {v : Value} {d : DataW H} {p : List MemPlace} {ts : List TypeId} {ds : List (DataW H)} {j : Nat} (hv : Value.okWide Tryz.prog W .any base 9 v) (h : DataW.Trod enc Tryz.prog W 0 (fun _ => true) true 9 v d p)
    (hsz : (DataW.weightsEach Tryz.prog ts ds).all (· ≤ reachBytes) = true) (ht : ts[j]? = some 9) (hd : ds[j]? = some d) : ∃ l : List UInt8, v = .string (mkS l) ∧ l.length ≤ 140737488355328 := by
  obtain ⟨s, rfl, rfl, _, _⟩ := open_string Tryz.underlying9 hv h
  have h2 := sized_string hsz ht hd
  have h3 := reachBytes_lt
  obtain ⟨l, rfl⟩ := mkS_of s
  exact ⟨l, rfl, by rw [← mkS_size, Lib.size_eq]; omega⟩
theorem arg_int {H : Type} {enc : TypeId × Value → H} {W : World} {base : Nat} {v : Value} {d : DataW H} {p : List MemPlace} {t : TypeId} {k : IntKind} (ht : Tryz.prog.underlying t = some (.int k)) (hv : Value.okWide Tryz.prog W .any base t v) (h : DataW.Trod enc Tryz.prog W 0 (fun _ => true) true t v d p) :
    ∃ n, v = .int k n ∧ k.min ≤ n ∧ n ≤ k.max := by
  obtain ⟨n, rfl, _, _, wa⟩ := open_int ht hv h
  rw [Lit.wf, Bool.and_eq_true, decide_eq_true_eq, decide_eq_true_eq] at wa
  exact ⟨n, rfl, wa⟩
end Go.Proofs.YtgkjbminokgddaaGreatDoor
