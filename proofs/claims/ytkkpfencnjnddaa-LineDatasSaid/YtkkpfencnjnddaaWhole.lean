/-
  The walk of whole: the line that has come whole, and the next one begun.
-/
import Derived.Test.YtkkpfencnjnddaaTake
import Derived.Test.YtkkpfencnjnddaaPlain
import Derived.Laws.BytesString
namespace Go.Proofs.Ytkkpfencnjnddaa
open Go.RowKit

theorem push_fold : ∀ (l : List UInt8) (s : ByteArray), (l.map fun b => (b.toNat : Int)).foldl (fun r n => r.push (UInt8.ofNat n.toNat)) s = ⟨(s.data.toList ++ l).toArray⟩
  | [], s => by simp
  | b :: l, s => by
    rw [List.map_cons, List.foldl_cons, push_fold l]
    simp [ByteArray.push]
/-- Bytes in memory, as a text. -/
theorem conv_bytes (w : World) (a : Addr) (l : List UInt8) (n cap : Nat) (hn : l.length = n) (h : ∀ j v, (bytesV l)[j]? = some v → w.cell? (a.add j) = some v) :
    (convert 51 9 (.slice (some a) n cap)).run Try.prog w = .ok (.string ⟨l.toArray⟩) w := by
  rw [run_convert_bytes_string w 51 9 5 (some a) n cap Try.underlying51 Try.underlying5 Try.underlying9]
  have hl := run_loadCells_list (P := Try.prog) w a (bytesV l) h
  rw [bytesV_length, hn] at hl
  rw [run_bytesToString w a n cap (l.map fun b => (b.toNat : Int)) (by rw [hl]; simp [bytesV]), push_fold]
  rfl
theorem size_mk (l : List UInt8) : (⟨l.toArray⟩ : ByteArray).size = l.length := by simp [ByteArray.size]
theorem bytesV_take (l : List UInt8) (n : Nat) : bytesV (l.take n) = (bytesV l).take n := by simp [bytesV]

/-- What a whole line tells: its text, or what is wrong. -/
def lineOf (most pend : Nat) (kept : List UInt8) : List UInt8 × Int :=
  if most < pend then ([], 3) else if plainB (kept.take (kept.length - 2)) then (kept.take (kept.length - 2), 0) else ([], 2)

/-- What whole leaves. -/
def WholePost (B g most pend lines : Nat) (kept : List UInt8) (last : UInt8) (v : Value) (w : World) (e : Ending) (w' : World) : Prop :=
  e = .returned (.agg #[.string ⟨(lineOf most pend kept).1.toArray⟩, .int .i64 (lineOf most pend kept).2]) ∧ ∃ v', Cut B w' g v' most [] 0 last lines ∧ Only g v.ownBlock v'.ownBlock w w'

/-- Behind the two stores. -/
structure Mid (B g most lines k cap n : Nat) (kept : List UInt8) (last : UInt8) (w W : World) : Prop where
  res : W.heap[w.heap.size]? = some (.cells #[.string ⟨#[]⟩, .int .i64 0] 49 (0, 0))
  cut : Cut B W g (.slice (some ⟨k, 0, none⟩) 0 cap) most [] 0 last lines
  only : Only g (some k) (some k) w W
  own : W.ownsRow B 5 1 (.slice (some ⟨k, 0, none⟩) (n + 2) cap) (n + 2) (bytesV kept)

theorem mid_of {B g most pend lines k cap n : Nat} {kept : List UInt8} {last : UInt8} {w : World} (hc : Cut B w g (.slice (some ⟨k, 0, none⟩) (n + 2) cap) most kept pend last lines) (hn : kept.length = n + 2) (q : Nat) :
    Mid B g most lines k cap n kept last w ((((w.alloc (Obj.cells #[Value.string ⟨#[]⟩, .int .i64 0] 49)).drewN q).setCell ⟨g, 2, none⟩ (.int .i64 0)).setCell ⟨g, 1, none⟩ (.slice (some ⟨k, 0, none⟩) 0 cap)) := by
  have hlt := lt5 hc.blk
  have ho := hc.own
  rw [hn] at ho
  have hne : (Value.slice (some ⟨k, 0, none⟩) (n + 2) cap).ownBlock ≠ some g := row_ne ho hc.blk (by decide)
  have ho' : ((((w.alloc (Obj.cells #[Value.string ⟨#[]⟩, .int .i64 0] 49)).drewN q).setCell ⟨g, 2, none⟩ (.int .i64 0)).setCell ⟨g, 1, none⟩ (.slice (some ⟨k, 0, none⟩) 0 cap)).ownsRow B 5 1 (.slice (some ⟨k, 0, none⟩) (n + 2) cap) (n + 2) (bytesV kept) :=
    ownsRow_setCell_other (ownsRow_setCell_other (ho.alloc _) hne _) hne _
  refine ⟨?_, ⟨?_, ?_, hc.ge⟩, ?_, ho'⟩
  · refine (Below.heap_setCell _ _ _ _ (by simp; omega)).trans ((Below.heap_setCell _ _ _ _ (by simp; omega)).trans ?_)
    exact heap_alloc_new w _
  · exact set5 (set5 ((Below.heap_alloc w _ g hlt).trans hc.blk) 2 _) 1 _
  · rcases ho'.2 with ⟨h, _⟩ | ⟨g', cap', cur, hv, hb, hg, _, hm, hs, _⟩
    · cases h
    · injection hv with h1 h2 h3
      injection h1 with h1
      injection h1 with h1
      subst h1; subst h3
      exact ⟨rfl, .inr ⟨k, cap, cur, rfl, hb, hg, Nat.zero_le _, hm, hs, by simp [bytesV]⟩⟩
  · exact ((((Only.refl g (some k) w).alloc _).drewN q).setG 2 _).setG 1 _

theorem Only.below {g : Nat} {r r' : Option Nat} {a b c : World} (h : Only g r r' a b) (k : Below b.heap.size b c) : Only g r r' a c :=
  ⟨k.os.trans h.os, k.tape.trans h.tape, k.output.trans h.output, Nat.le_trans h.size k.size, fun i hi hg hr => (k.block i (Nat.lt_of_lt_of_le hi h.size)).trans (h.block i hi hg hr), h.row⟩
theorem Only.setNew {g : Nat} {r r' : Option Nat} {a b : World} (h : Only g r r' a b) {p : Addr} (hp : a.heap.size ≤ p.block) (v : Value) : Only g r r' a (b.setCell p v) :=
  ⟨h.os, h.tape, h.output, by simpa [World.setCell] using h.size, fun i hi hg hr => (Below.heap_setCell b p v i (by omega)).trans (h.block i hi hg hr), h.row⟩
theorem own_below {w w' : World} {B : Nat} {e : TypeId} {size n : Nat} {v : Value} {xs : List Value} (h : w.ownsRow B e size v n xs) (hb : Below w.heap.size w w') : w'.ownsRow B e size v n xs := by
  refine ⟨h.1, ?_⟩
  rcases h.2 with h0 | ⟨k, cap, cur, hv, hB, hk, h1, h2, h3, h4⟩
  · exact .inl h0
  · exact .inr ⟨k, cap, cur, hv, hB, (hb.block k (lt5 hk)).trans hk, h1, h2, h3, h4⟩
theorem Cut.below {B g most pend lines : Nat} {kept : List UInt8} {last : UInt8} {v : Value} {w w' : World} (h : Cut B w g v most kept pend last lines) (hb : Below w.heap.size w w') : Cut B w' g v most kept pend last lines :=
  ⟨(hb.block g (lt5 h.blk)).trans h.blk, own_below h.own hb, h.ge⟩
theorem Cut.setNew {B g most pend lines : Nat} {kept : List UInt8} {last : UInt8} {v : Value} {w : World} (h : Cut B w g v most kept pend last lines) {p : Addr} (hp : p.block ≠ g) (hv : v.ownBlock ≠ some p.block) (u : Value) : Cut B (w.setCell p u) g v most kept pend last lines :=
  ⟨(Below.heap_setCell w p u g (Ne.symm hp)).trans h.blk, ownsRow_setCell_other h.own hv u, h.ge⟩

/-- The line's two cells are stored; the rest is as it was. -/
theorem whole_end {B g most pend lines k cap n : Nat} {kept : List UInt8} {last : UInt8} {w W W2 : World} (hm : Mid B g most lines k cap n kept last w W) (hb : Below W.heap.size W W2) (t : ByteArray) (x : Int)
    (hl : Ending.returned (.agg #[.string t, .int .i64 x]) = .returned (.agg #[.string ⟨(lineOf most pend kept).1.toArray⟩, .int .i64 (lineOf most pend kept).2])) :
    WholePost B g most pend lines kept last (.slice (some ⟨k, 0, none⟩) (n + 2) cap) w (.returned (.agg #[.string t, .int .i64 x])) ((W2.setCell ⟨w.heap.size, 0, none⟩ (.string t)).setCell ⟨w.heap.size, 1, none⟩ (.int .i64 x)) := by
  have hk : (Value.slice (some ⟨k, 0, none⟩) 0 cap).ownBlock ≠ some w.heap.size := row_ne hm.cut.own hm.res (by decide)
  have hg : w.heap.size ≠ g := fun e => by have h1 := hm.cut.blk; have h2 := hm.res; rw [e, h1] at h2; simp at h2
  refine ⟨hl, _, ((hm.cut.below hb).setNew (p := ⟨w.heap.size, 0, none⟩) hg hk _).setNew (p := ⟨w.heap.size, 1, none⟩) hg hk _, ?_⟩
  exact ((hm.only.below hb).setNew (p := ⟨w.heap.size, 0, none⟩) (Nat.le_refl _) _).setNew (p := ⟨w.heap.size, 1, none⟩) (Nat.le_refl _) _

set_option maxHeartbeats 1000000 in
theorem whole_x (B g most pend lines k cap n : Nat) (kept : List UInt8) (last : UInt8) (w : World) (hc : Cut B w g (.slice (some ⟨k, 0, none⟩) (n + 2) cap) most kept pend last lines) (hn : Hid (kept.length = n + 2)) (hcap : n + 2 ≤ cap) (hk : kept.length ≤ pend) (hk2 : kept.length ≤ 65536) :
    Calls Try.prog 25 #[.pointer (some ⟨g, 0, none⟩)] w (WholePost B g most pend lines kept last (.slice (some ⟨k, 0, none⟩) (n + 2) cap) w) := by
  have c0 := cell5 hc.blk 0
  have c1 := cell5 hc.blk 1
  have c2 := cell5 hc.blk 2
  have f1 := free5 hc.blk 1
  have f2 := free5 hc.blk 2
  have hlt := lt5 hc.blk
  have HM := Lib.hid fun q => mid_of hc hn.out q
  have hk1 := hn.out
  have hnp : n + 2 ≤ pend := by omega
  have hn6 : n + 2 ≤ 65536 := by omega
  clear hc hk hk1 hk2
  go_enter Try.func25, Try.ntmps25
  go_wp2_with fail
  by_cases hm : pend ≤ most
  · have hd : decide ((most : Int) < (pend : Int)) = false := decide_eq_false (by omega)
    go_quiet (fail)
    go_wp2_with fail
    go_region
    go_wp2_with fail
    have hW := HM.out (nq + 1)
    generalize ((((w.alloc (Obj.cells #[Value.string ⟨#[]⟩, .int .i64 0] 49)).drewN (nq + 1)).setCell ⟨g, 2, none⟩ (.int .i64 0)).setCell ⟨g, 1, none⟩ (.slice (some ⟨k, 0, none⟩) 0 cap)) = W at hW
    rw [conv_bytes W ⟨k, 0, none⟩ (kept.take n) n cap (by rw [List.length_take, hn.out]; omega) (fun j v hj => hW.own.cells (g := k) rfl j v (by rw [bytesV_take] at hj; rw [List.getElem?_take] at hj; split at hj; exact hj; cases hj))]
    simp only [Result.andThen]
    rw [Oper.upon_value]
    have HW := Lib.hid hW
    clear hW c0 c1 c2 f1 f2
    generalize htx : kept.take n = tx
    have HT := Lib.hid htx
    have hts : tx.length ≤ 65536 := by rw [← htx, List.length_take]; omega
    clear htx
    have HP := Lib.hid (plain_any ⟨tx.toArray⟩ W (by rw [size_mk]; omega))
    cases hpl : plainB tx
    all_goals
      have HPL := Lib.hid hpl
      rw [hpl] at HP
      clear hpl
      go_wp2_with fail
      refine HP.out.mono ?_
      rintro e W2 ⟨rfl, hb⟩
      have hres := (hb.block _ (lt5 HW.out.res)).trans HW.out.res
      have d0 : W2.cell? ⟨w.heap.size, 0, none⟩ = some (.string ⟨#[]⟩) := cell5 hres 0
      have d1 : W2.cell? ⟨w.heap.size, 1, none⟩ = some (.int .i64 0) := cell5 hres 1
      have e0 := free5 hres 0
      have e1 := free5 hres 1
      have HB := Lib.hid hb
      clear hb hres
      go_wp2_with fail
    · refine bodyPost_ret (v := .agg #[.string ⟨#[]⟩, .int .i64 2]) (by simp [results, Try.results25, go_sem, d0, d1]) rfl (whole_end HW.out HB.out _ _ ?_)
      rw [lineOf, if_neg (by omega), hn.out, Nat.add_sub_cancel, HT.out, HPL.out]; rfl
    · refine bodyPost_ret (v := .agg #[.string ⟨tx.toArray⟩, .int .i64 0]) (by simp [results, Try.results25, go_sem, d0, d1]) rfl (whole_end HW.out HB.out _ _ ?_)
      rw [lineOf, if_neg (by omega), hn.out, Nat.add_sub_cancel, HT.out, HPL.out]; rfl
  · have hd : decide ((most : Int) < (pend : Int)) = true := decide_eq_true (by omega)
    go_quiet (fail)
    go_wp2_with fail
    go_region
    have hW := HM.out (nq + 1)
    generalize ((((w.alloc (Obj.cells #[Value.string ⟨#[]⟩, .int .i64 0] 49)).drewN (nq + 1)).setCell ⟨g, 2, none⟩ (.int .i64 0)).setCell ⟨g, 1, none⟩ (.slice (some ⟨k, 0, none⟩) 0 cap)) = W at hW
    have d0 : W.cell? ⟨w.heap.size, 0, none⟩ = some (.string ⟨#[]⟩) := cell5 hW.res 0
    have d1 : W.cell? ⟨w.heap.size, 1, none⟩ = some (.int .i64 0) := cell5 hW.res 1
    have e0 := free5 hW.res 0
    have e1 := free5 hW.res 1
    have HW := Lib.hid hW
    clear hW c0 c1 c2 f1 f2
    go_wp2_with fail
    refine bodyPost_ret (v := .agg #[.string ⟨#[]⟩, .int .i64 3]) (by simp [results, Try.results25, go_sem, d0, d1]) rfl (whole_end HW.out (Below.refl _ _) _ _ ?_)
    rw [lineOf, if_pos (by omega)]
end Go.Proofs.Ytkkpfencnjnddaa
