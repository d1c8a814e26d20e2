/-
  What a row that lists the five variables gives: the table of powers as the walks ask for it; a world for the witness; texts, rows of texts and replies as arguments.
-/
import Derived.Test.YtdcakmamdabiaaaDoorRpHead
import Derived.Test.YtdcakmamdabiaaaDoorRpRow
import Derived.Test.YtdcakmamdabiaaaDoorCards
import Derived.Test.YtdcakmamdabiaaaDoorTie
import Derived.HandedShaped
import Derived.ProofKit
import Derived.SizedLaws
import Derived.SliceStrings
import Derived.Deep.DeepHandedRow
import Derived.Lib.SmallJoins
import Derived.Stop.LaidErr
namespace Go.Proofs.YtdcakmamdabiaaaDoor
set_option maxRecDepth 100000
open Go.ChangeShapes Go.WideShapes Go.ChangeAt Go.RowKit
open Go.ChangeMaps (open_string shut_string)
theorem Tryd.own : ownKnob Tryd.prog.godebug = none := by kernel_rfl
theorem Tryd.laidOut : laidOutB Tryd.prog = true := by kernel_rfl
theorem Tryd.cells9 : Tryd.prog.cellsOf 9 = 1 := by kernel_rfl
theorem gPowType : (Tryd.prog.globals[1]?).map (·.type) = some 93 := by kernel_rfl
theorem cellsPow : Tryd.prog.cellsOf 93 = 20 := by kernel_rfl
theorem cells3 : Tryd.prog.cellsOf 3 = 1 := by kernel_rfl
theorem cellsU64 : Tryd.prog.cellsOf 83 = 1 := by kernel_rfl
/-- The variables in the rows' list. -/
def tabs : List (String × DataW Unit) := [("math/bits.deBruijn32tab", Rows.laid_math_bits_deBruijn32tab), ("math/bits.deBruijn64tab", Rows.laid_math_bits_deBruijn64tab), ("internal/strconv.uint64pow10", Rows.laid_internal_strconv_uint64pow10), ("unicode/utf8.acceptRanges", Rows.laid_unicode_utf8_acceptRanges), ("unicode/utf8.first", Rows.laid_unicode_utf8_first)]
theorem ready_of {W : World} (h : laidMetH Tryd.prog tabs W) : Ready W := by
  have h0 : laidMet Tryd.prog tabs W := h
  have h1 : laidMet Tryd.prog (("internal/strconv.uint64pow10", Lib.tabData .u64 Lib.pow10Tab) :: tabs.drop 3) W := laidMet.tail (laidMet.tail h0)
  exact Lib.tabIs_of_head gPow10 gPowType Tryd.underlying93 Tryd.underlying83 cellsU64 cellsPow h1
def tab32 : List Int := [0, 1, 28, 2, 29, 14, 24, 3, 30, 22, 20, 15, 25, 17, 4, 8, 31, 27, 13, 23, 21, 19, 16, 7, 26, 12, 18, 6, 11, 5, 10, 9]
def tab64 : List Int := [0, 1, 56, 2, 57, 49, 28, 3, 61, 58, 42, 50, 38, 29, 17, 4, 62, 47, 59, 36, 45, 43, 51, 22, 53, 39, 33, 30, 24, 18, 12, 5, 63, 55, 48, 27, 60, 41, 37, 16, 46, 35, 44, 21, 52, 32, 23, 11, 54, 26, 40, 15, 34, 20, 31, 10, 25, 14, 19, 9, 13, 8, 7, 6]
def ranges : List Int := [128, 191, 160, 191, 128, 159, 144, 191, 128, 143] ++ List.replicate 22 0
def cellsAt (cs : List Value) : Obj → Obj
  | .cells _ t frozen => .cells cs.toArray t frozen
  | o => o
noncomputable def laidWorld (os : Os) : World :=
  let w0 := World.holding Tryd.prog os ⟨#[], #[], []⟩
  { w0 with heap := ((((w0.heap.modify 1 (cellsAt (Lib.pow10Tab.map (Value.int .u64)))).modify 4 (cellsAt (tab32.map (Value.int .u8)))).modify 5 (cellsAt (tab64.map (Value.int .u8)))).modify 3 (cellsAt (ranges.map (Value.int .u8)))).modify 2 (cellsAt (Pinned.utf8FirstZ.map fun n : Nat => Value.int .u8 (n : Int))) }
theorem laid_met (os : Os) (args : Array Value) : laidMet Tryd.prog tabs ((laidWorld os).forCall (fun _ _ => 0) ⟨#[], args, []⟩).memory :=
  laidMet_of_run' 8 (by kernel_rfl) (by kernel_rfl)
theorem cell_lt {W : World} {a : Addr} {v : Value} (h : W.cell? a = some v) : a.block < W.heap.size := by
  rcases Nat.lt_or_ge a.block W.heap.size with h' | h'
  · exact h'
  · simp [World.cell?, Array.getElem?_eq_none h'] at h
theorem arg_str {H : Type} {enc : TypeId × Value → H} {W : World} {base : Nat} {v : Value} {d : DataW H} {p : List MemPlace} {ts : List TypeId} {ds : List (DataW H)} {j : Nat} (hv : Value.okWide Tryd.prog W .any base 9 v) (h : DataW.Trod enc Tryd.prog W 0 (fun _ => true) true 9 v d p)
    (hsz : (DataW.weightsEach Tryd.prog ts ds).all (· ≤ reachBytes) = true) (ht : ts[j]? = some 9) (hd : ds[j]? = some d) : ∃ l : List UInt8, v = .string (mkS l) ∧ l.length ≤ 140737488355328 := by
  obtain ⟨s, rfl, rfl, _, _⟩ := open_string Tryd.underlying9 hv h
  have h2 := sized_string hsz ht hd
  have h3 := reachBytes_lt
  obtain ⟨l, rfl⟩ := mkS_of s
  exact ⟨l, rfl, by rw [← mkS_size, Lib.size_eq]; omega⟩
theorem arg_int {H : Type} {enc : TypeId × Value → H} {W : World} {base : Nat} {v : Value} {d : DataW H} {p : List MemPlace} {t : TypeId} {k : IntKind} (ht : Tryd.prog.underlying t = some (.int k)) (hv : Value.okWide Tryd.prog W .any base t v) (h : DataW.Trod enc Tryd.prog W 0 (fun _ => true) true t v d p) :
    ∃ n, v = .int k n ∧ k.min ≤ n ∧ n ≤ k.max := by
  obtain ⟨n, rfl, _, _, wa⟩ := open_int ht hv h
  rw [Lit.wf, Bool.and_eq_true, decide_eq_true_eq, decide_eq_true_eq] at wa
  exact ⟨n, rfl, wa⟩
/-- A slice of texts, as it is trod. -/
theorem trod_txts {H : Type} {enc : TypeId × Value → H} {W : World} {n : Nat} {c : Value} {x : DataW H × List MemPlace} (h : DataW.trod enc Tryd.prog W 0 (fun _ => true) true n 22 [c] = some x) : ∃ l : List Txt, TxtsAt W c l := by
  rcases open_strings Tryd.underlying22 Tryd.underlying9 Tryd.cells9 h with ⟨hcs, _⟩ | ⟨a, len, cap, ss, hcs, _, hl, _, hz, _, hcell, _⟩
  · injection hcs with hcs
    subst hcs
    exact ⟨[], txts_nil W⟩
  · injection hcs with hcs
    subst hcs
    simp only [if_true] at hz
    have hlen : ((ss.take len).map fun b => b.data.toList).length = len := by rw [List.length_map, List.length_take]; omega
    refine ⟨(ss.take len).map fun b => b.data.toList, some a, cap, by rw [hlen], by rw [hlen]; exact hl, fun e => by (cases e), fun i t hi => ?_⟩
    rw [List.getElem?_map, Option.map_eq_some_iff] at hi
    obtain ⟨q, hq, rfl⟩ := hi
    have hil : i < (ss.take len).length := (List.getElem?_eq_some_iff.1 hq).1
    rw [List.length_take] at hil
    rw [List.getElem?_take, if_pos (by omega)] at hq
    have hc := hcell i (by omega)
    have hb := cell_lt hc
    rw [add_block] at hb
    refine ⟨a, rfl, hb, ?_⟩
    rw [hc, List.getD, hq]
    show some (Value.string q) = some (Value.string (mkS q.data.toList))
    obtain ⟨l, rfl⟩ := mkS_of q
    rw [mkS_data]
theorem arg_txts {H : Type} {enc : TypeId × Value → H} {W : World} {base : Nat} {v : Value} {d : DataW H} {p : List MemPlace} (hv : Value.okWide Tryd.prog W .any base 22 v) (h : DataW.Trod enc Tryd.prog W 0 (fun _ => true) true 22 v d p) : ∃ l : List Txt, TxtsAt W v l := by
  obtain ⟨a0, len, cap, rfl⟩ := okWide_slice Tryd.underlying22 hv
  obtain ⟨fuel, hf⟩ := h
  exact trod_txts (by simpa [Value.cells] using hf)
theorem fld_int {H : Type} {enc : TypeId × Value → H} {W : World} {n : Nat} {c : Value} {x : DataW H × List MemPlace} (h : DataW.trod enc Tryd.prog W 0 (fun _ => true) true n 3 [c] = some x) : ∃ b, c = .int .i64 b ∧ I64 b := by
  obtain ⟨b, e, _, hw⟩ := DataW.trod_int Tryd.underlying3 h
  injection e with e
  rw [Lit.wf, Bool.and_eq_true, decide_eq_true_eq, decide_eq_true_eq] at hw
  exact ⟨b, e, hw⟩
/-- An array of three ints, as it is trod. -/
theorem trod_arr {H : Type} {enc : TypeId × Value → H} {W : World} {n : Nat} {c0 c1 c2 : Value} {x : DataW H × List MemPlace} (h : DataW.trod enc Tryd.prog W 0 (fun _ => true) true n 23 [c0, c1, c2] = some x) : ∃ a b c : Int, c0 = .int .i64 a ∧ c1 = .int .i64 b ∧ c2 = .int .i64 c ∧ I64 a ∧ I64 b ∧ I64 c := by
  cases n with
  | zero => simp [DataW.trod] at h
  | succ n =>
    simp only [DataW.trod, Tryd.underlying23, cells3, Nat.mul_one] at h
    split at h
    · obtain ⟨xs, hm, _⟩ := Option.map_eq_some_iff.1 h
      have key : ∀ i, i < 3 → ∃ b, DataW.trod enc Tryd.prog W 0 (fun _ => true) true n 3 (([c0, c1, c2].drop i).take 1) = some b := fun i hi => by
        obtain ⟨b, _, hf⟩ := Lib.mapM_at hm i i (by simp [hi])
        exact ⟨b, hf⟩
      obtain ⟨_, h0⟩ := key 0 (by decide)
      obtain ⟨_, h1⟩ := key 1 (by decide)
      obtain ⟨_, h2⟩ := key 2 (by decide)
      obtain ⟨a, ea, ia⟩ := fld_int (c := c0) h0
      obtain ⟨b, eb, ib⟩ := fld_int (c := c1) h1
      obtain ⟨c, ec, ic⟩ := fld_int (c := c2) h2
      exact ⟨a, b, c, ea, eb, ec, ia, ib, ic⟩
    · cases h
theorem list5 {α : Type} {cs : Array α} (h : cs.size = 5) : ∃ c0 c1 c2 c3 c4, cs = #[c0, c1, c2, c3, c4] := by
  obtain ⟨l⟩ := cs
  match l, h with
  | [c0, c1, c2, c3, c4], _ => exact ⟨c0, c1, c2, c3, c4, rfl⟩
theorem arg_reply {H : Type} {enc : TypeId × Value → H} {W : World} {base : Nat} {v : Value} {d : DataW H} {p : List MemPlace} (hv : Value.okWide Tryd.prog W .any base 25 v) (h : DataW.Trod enc Tryd.prog W 0 (fun _ => true) true 25 v d p) :
    ∃ (r : Rp) (u : Value), v = RV r.code r.e u ∧ RI r.code r.e ∧ TxtsAt W u r.text := by
  obtain ⟨cs, rfl, hcsz⟩ := okWide_struct Tryd.underlying25 hv
  have hC : Tryd.prog.cellsOf 25 = 5 := by kernel_rfl
  have k23 : Tryd.prog.cellsOf 23 = 3 := by kernel_rfl
  have k22 : Tryd.prog.cellsOf 22 = 1 := by kernel_rfl
  obtain ⟨c0, c1, c2, c3, c4, rfl⟩ := list5 (hcsz.trans hC)
  obtain ⟨fuel, hf⟩ := h
  obtain ⟨xs, n, _, hx, _, hlen, hfs⟩ := DataW.trod_struct Tryd.underlying25 hf
  have hlen' : xs.length = 3 := hlen
  have hsm : ∀ i, i < 3 → ∃ y, xs[i]? = some y := fun i hi => ⟨_, List.getElem?_eq_getElem (by omega)⟩
  obtain ⟨y0, e0⟩ := hsm 0 (by decide)
  obtain ⟨y1, e1⟩ := hsm 1 (by decide)
  obtain ⟨y2, e2⟩ := hsm 2 (by decide)
  have g0 : DataW.trod enc Tryd.prog W 0 (fun _ => true) true n 3 (([c0, c1, c2, c3, c4].drop 0).take (Tryd.prog.cellsOf 3)) = xs[0]? := hfs 0 _ rfl
  have g1 : DataW.trod enc Tryd.prog W 0 (fun _ => true) true n 23 (([c0, c1, c2, c3, c4].drop 1).take (Tryd.prog.cellsOf 23)) = xs[1]? := hfs 1 _ rfl
  have g2 : DataW.trod enc Tryd.prog W 0 (fun _ => true) true n 22 (([c0, c1, c2, c3, c4].drop 4).take (Tryd.prog.cellsOf 22)) = xs[2]? := hfs 2 _ rfl
  rw [cells3, e0] at g0
  rw [k23, e1] at g1
  rw [k22, e2] at g2
  obtain ⟨code, rfl, hi⟩ := fld_int (c := c0) g0
  obtain ⟨a, b, c, rfl, rfl, rfl, ia, ib, ic⟩ := trod_arr (c0 := c1) (c1 := c2) (c2 := c3) g1
  obtain ⟨l, hl⟩ := trod_txts (c := c4) g2
  exact ⟨⟨code, (a, b, c), l⟩, c4, rfl, ⟨hi, ia, ib, ic⟩, hl⟩
end Go.Proofs.YtdcakmamdabiaaaDoor
