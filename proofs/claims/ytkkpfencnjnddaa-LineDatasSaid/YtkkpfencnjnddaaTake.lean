/-
  The walk of take.
-/
import Derived.Test.YtkkpfencnjnddaaBase
namespace Go.Proofs.Ytkkpfencnjnddaa
open Go.RowKit
theorem Try.info5 : (Try.prog.info? 5).map (fun i => (i.zero, i.size, i.bytes)) = some (some (.int .u8 0), 1, 1) := by kernel_rfl

/-- What take leaves. -/
def TakePost (B g most pend lines : Nat) (kept : List UInt8) (last b : UInt8) (v : Value) (w : World) (e : Ending) (w' : World) : Prop :=
  ∃ v', e = .returned (.bool (last == 13 && b == 10)) ∧ Cut B w' g v' most (if pend + 1 ≤ most then kept ++ [b] else kept) (pend + 1) b lines ∧ Only g v.ownBlock v'.ownBlock w w'

theorem take_mid {B g most pend lines : Nat} {kept : List UInt8} {last b : UInt8} {v : Value} {w : World} (hc : Cut B w g v most kept pend last lines) (nq : Nat) {v1 : Value} {w1 : World}
    (hg1 : ((((w.setCell ⟨g, 2, none⟩ (.int .i64 ((pend : Int) + 1))).drewN nq).alloc (.cells #[.int .u8 (b.toNat : Int)] 5)).grownBy w1 v.ownBlock))
    (hat : v1.ownBlock = v.ownBlock ∨ v1.ownBlock = some (((w.setCell ⟨g, 2, none⟩ (.int .i64 ((pend : Int) + 1))).drewN nq).alloc (.cells #[.int .u8 (b.toNat : Int)] 5)).heap.size) :
    w1.heap[g]? = some (.cells #[.int .i64 (most : Int), v, .int .i64 ((pend : Int) + 1), .int .u8 (last.toNat : Int), .int .i64 (lines : Int)] 53 (0, 0)) ∧ Only g v.ownBlock v1.ownBlock w w1 := by
  constructor
  · refine heap_grown ?_ hg1 (fun e => row_ne hc.own hc.blk (by decide) e.symm)
    exact (Below.heap_alloc _ _ _ (by simpa [World.setCell] using lt5 hc.blk)).trans (set5 hc.blk 2 _)
  · refine ((((Only.refl g v.ownBlock w).setG 2 _).drewN nq).alloc _).grown hg1 ?_
    rcases hat with e | e
    · exact .inl e
    · exact .inr ⟨_, e, by simp [World.setCell]⟩

theorem ret_bool {a b : Bool} (h : a = b) : Ending.returned (.bool a) = .returned (.bool b) := by rw [h]
theorem b10 (b : UInt8) : ((b.toNat : Int) == 10) = (((13 : UInt8) == 13) && (b == 10)) := by
  rw [Bool.eq_iff_iff]
  simp only [beq_self_eq_true, Bool.true_and, beq_iff_eq]
  constructor
  · intro h; exact UInt8.toNat_inj.1 (Int.ofNat.inj h)
  · rintro rfl; rfl
theorem take_end {B g most pend lines : Nat} {kept : List UInt8} {last b : UInt8} {v v1 : Value} {w w1 : World} (hc : Cut B w g v most kept pend last lines)
    (hb : w1.heap[g]? = some (.cells #[.int .i64 (most : Int), v, .int .i64 ((pend : Int) + 1), .int .u8 (last.toNat : Int), .int .i64 (lines : Int)] 53 (0, 0)))
    (ho : w1.ownsRow B 5 1 v1 (kept.length + 1) (bytesV kept ++ [.int .u8 (b.toNat : Int)])) (h : Only g v.ownBlock v1.ownBlock w w1) (hm : pend + 1 ≤ most) (n : Nat) {e : Ending} (he : e = .returned (.bool (last == 13 && b == 10))) :
    TakePost B g most pend lines kept last b v w e (((w1.setCell ⟨g, 1, none⟩ v1).setCell ⟨g, 3, none⟩ (.int .u8 (b.toNat : Int))).drewN n) := by
  have hn : v1.ownBlock ≠ some g := row_ne ho hb (by decide)
  refine ⟨v1, he, ⟨?_, ?_, hc.ge⟩, ((h.setG 1 _).setG 3 _).drewN n⟩
  · exact (set5 (set5 hb 1 v1) 3 _)
  · rw [if_pos hm]
    have e1 : (kept ++ [b]).length = kept.length + 1 := by simp
    have e2 : bytesV (kept ++ [b]) = bytesV kept ++ [.int .u8 (b.toNat : Int)] := bytesV_append _ _
    rw [e1, e2]
    exact ownsRow_setCell_other (ownsRow_setCell_other ho hn _) hn _
theorem take_end' {B g most pend lines : Nat} {kept : List UInt8} {last b : UInt8} {v : Value} {w : World} (hc : Cut B w g v most kept pend last lines) (hm : ¬ pend + 1 ≤ most) (n : Nat) {e : Ending} (he : e = .returned (.bool (last == 13 && b == 10))) :
    TakePost B g most pend lines kept last b v w e (((w.setCell ⟨g, 2, none⟩ (.int .i64 ((pend : Int) + 1))).setCell ⟨g, 3, none⟩ (.int .u8 (b.toNat : Int))).drewN n) := by
  have hn : v.ownBlock ≠ some g := row_ne hc.own hc.blk (by decide)
  refine ⟨v, he, ⟨?_, ?_, hc.ge⟩, (((Only.refl g v.ownBlock w).setG 2 _).setG 3 _).drewN n⟩
  · exact (set5 (set5 hc.blk 2 _) 3 _)
  · rw [if_neg hm]
    exact ownsRow_setCell_other (ownsRow_setCell_other hc.own hn _) hn _

set_option maxHeartbeats 400000 in
theorem take_x (B g most pend lines : Nat) (kept : List UInt8) (last b : UInt8) (v : Value) (w : World) (hc : Cut B w g v most kept pend last lines) (hB : B ≤ w.heap.size) (hp : pend ≤ 1000000000000) (hk : kept.length ≤ pend) :
    Calls Try.prog 24 #[.pointer (some ⟨g, 0, none⟩), .int .u8 (b.toNat : Int)] w (TakePost B g most pend lines kept last b v w) := by
  have c0 := cell5 hc.blk 0
  have c1 := cell5 hc.blk 1
  have c2 := cell5 hc.blk 2
  have c3 := cell5 hc.blk 3
  have f1 := free5 hc.blk 1
  have f2 := free5 hc.blk 2
  have f3 := free5 hc.blk 3
  have hown := hc.own
  have hne : v.ownBlock ≠ some g := row_ne hc.own hc.blk (by decide)
  have HN := Lib.hid hne
  have HC := Lib.hid hc
  have HO := Lib.hid hown
  clear hc hne hown
  obtain ⟨i0, hi, hz0, hz1, hz2⟩ := info_parts Try.info5
  go_enter Try.func24, Try.ntmps24
  go_wp2_with fail
  by_cases hm : pend + 1 ≤ most
  · have hd : decide ((pend : Int) + 1 ≤ (most : Int)) = true := decide_eq_true (by omega)
    go_quiet (fail)
    go_wp2_with (first
      | (at_builtin
         refine wpList_append_own_at _ rfl (.tmp 26) (.tmp 28) _ rfl B 5 i0 (.int .u8 0) 1 1 Try.underlying51 hi hz0 hz1 hz2 rfl (by decide) v kept.length (bytesV kept) rfl
           ((ownsRow_setCell_other HO.out HN.out _).alloc _) ⟨w.heap.size, 0, none⟩ 1 1 [.int .u8 (b.toNat : Int)] rfl rfl ?c1 ?c2 ?c3 ?c4 ?c5 ?_))
    case c1 => intro j u hu; cases j with
      | zero => simp at hu; subst hu; exact World.cell?_alloc_at _ _ _ _ (by simp [World.setCell])
      | succ j => simp at hu
    case c2 => intro u hu; simp at hu; subst hu; rfl
    case c3 => unfold maxLen; omega
    case c4 => omega
    case c5 => simp [World.setCell]; omega
    intro v1 w1 hown1 hg1 _ hat1
    obtain ⟨k1, cap1, rfl, _, _⟩ := hown1.form (by omega)
    have HO1 := Lib.hid hown1
    obtain ⟨hb1, hon1⟩ := take_mid HC.out nq hg1 (by simpa using hat1)
    have d1 := cell5 hb1 1
    have d3 := cell5 hb1 3
    have e1 := free5 hb1 1
    have e3 := free5 hb1 3
    have HB1 := Lib.hid hb1
    have HON := Lib.hid hon1
    clear hown1 hg1 hat1 hb1 hon1 c0 c1 c2 c3 f1 f2 f3
    go_wp2_with fail
    by_cases hl : last = 13
    · have hlb : ((last.toNat : Int) == ((({ data := #[13, 10] } : ByteArray)[0]'(by decide)).toNat : Int)) = true := by rw [hl]; rfl
      have HL := Lib.hid hl
      clear hl
      go_quiet (fail)
      go_wp2_with fail
      go_ret
      exact take_end HC.out HB1.out HO1.out HON.out hm _ (ret_bool (by rw [HL.out]; exact b10 b))
    · have hlb : ((last.toNat : Int) == ((({ data := #[13, 10] } : ByteArray)[0]'(by decide)).toNat : Int)) = false := beq_eq_false_iff_ne.2 fun h => hl (UInt8.toNat_inj.1 (Int.ofNat.inj h))
      have hlc : (last == 13) = false := beq_eq_false_iff_ne.2 hl
      have HL := Lib.hid hlc
      clear hl hlc
      go_quiet (fail)
      go_wp2_with fail
      go_ret
      exact take_end HC.out HB1.out HO1.out HON.out hm _ (ret_bool (by rw [HL.out]; rfl))
  · have hd : decide ((pend : Int) + 1 ≤ (most : Int)) = false := decide_eq_false (by omega)
    go_quiet (fail)
    go_wp2_with fail
    by_cases hl : last = 13
    · have hlb : ((last.toNat : Int) == ((({ data := #[13, 10] } : ByteArray)[0]'(by decide)).toNat : Int)) = true := by rw [hl]; rfl
      have HL := Lib.hid hl
      clear hl
      go_quiet (fail)
      go_wp2_with fail
      go_ret
      exact take_end' HC.out hm _ (ret_bool (by rw [HL.out]; exact b10 b))
    · have hlb : ((last.toNat : Int) == ((({ data := #[13, 10] } : ByteArray)[0]'(by decide)).toNat : Int)) = false := beq_eq_false_iff_ne.2 fun h => hl (UInt8.toNat_inj.1 (Int.ofNat.inj h))
      have hlc : (last == 13) = false := beq_eq_false_iff_ne.2 hl
      have HL := Lib.hid hlc
      clear hl hlc
      go_quiet (fail)
      go_wp2_with fail
      go_ret
      exact take_end' HC.out hm _ (ret_bool (by rw [HL.out]; rfl))
end Go.Proofs.Ytkkpfencnjnddaa
