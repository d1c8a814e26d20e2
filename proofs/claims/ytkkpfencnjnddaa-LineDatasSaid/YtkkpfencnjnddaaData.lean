/-
  The walk of Data.
-/
import Derived.Test.YtkkpfencnjnddaaWrong
import Derived.Test.YtkkpfencnjnddaaBuilder
namespace Go.Proofs.Ytkkpfencnjnddaa
open Go.RowKit

/-- A line as it is laid: with a . more, if it begins with one, and its end. -/
def laidOf (p : List UInt8) : List UInt8 := (if Lib.hasPrefix p [46] then [46] else []) ++ (p ++ [13, 10])
def bodyOf (ps : List ByteArray) : List UInt8 := ps.flatMap fun p => laidOf p.data.toList
def dataOf (ps : List ByteArray) : List UInt8 := bodyOf ps ++ [46, 13, 10]
theorem laidOf_yes {p : ByteArray} (h : Lib.hasPrefix p.data.toList [46] = true) : laidOf p.data.toList = [46] ++ (p.data.toList ++ [13, 10]) := by rw [laidOf, h, if_pos rfl]
theorem laidOf_no {p : ByteArray} (h : Lib.hasPrefix p.data.toList [46] = false) : laidOf p.data.toList = p.data.toList ++ [13, 10] := by rw [laidOf, h, if_neg (by decide)]; rfl
theorem bodyOf_take {ps : List ByteArray} {i : Nat} {p : ByteArray} (h : ps[i]? = some p) : bodyOf (ps.take (i + 1)) = bodyOf (ps.take i) ++ laidOf p.data.toList := by
  obtain ⟨hi, rfl⟩ := List.getElem?_eq_some_iff.1 h
  rw [List.take_succ_eq_append_getElem hi, bodyOf, List.flatMap_append]
  simp [bodyOf]
theorem laidOf_len (p : List UInt8) : (laidOf p).length ≤ p.length + 3 := by
  unfold laidOf
  split <;> simp
theorem bodyOf_len (ps : List ByteArray) : (bodyOf ps).length ≤ (joinB ps).length + 3 * ps.length := by
  induction ps with
  | nil => simp [bodyOf, joinB]
  | cons p ps ih =>
    have h := laidOf_len p.data.toList
    simp only [bodyOf, joinB, List.flatMap_cons, List.length_append, List.length_cons] at ih ⊢
    omega
theorem bodyOf_le (ps : List ByteArray) (k : Nat) : (bodyOf (ps.take k)).length ≤ (bodyOf ps).length := by
  have e : bodyOf ps = bodyOf (ps.take k) ++ bodyOf (ps.drop k) := by
    rw [bodyOf, bodyOf, bodyOf, ← List.flatMap_append, List.take_append_drop]
  rw [e, List.length_append]
  omega
theorem byteCells_str (l : List UInt8) (s : ByteArray) : Lib.byteCells l ++ Lib.strCells s = Lib.byteCells (l ++ s.data.toList) := by simp [Lib.byteCells, Lib.strCells]
theorem byteCells_len (l : List UInt8) : (Lib.byteCells l).length = l.length := by simp [Lib.byteCells]

/-- A builder of the call's own holds these bytes; nothing older has turned. -/
def Bld (W0 : World) (b : Nat) (l : List UInt8) (w : World) : Prop := Lib.IsBuilderF 64 5 W0.heap.size b (Lib.byteCells l) w ∧ Below W0.heap.size W0 w
theorem bld_write {W0 : World} {b : Nat} {l : List UInt8} {w : World} (h : Bld W0 b l w) (s : ByteArray) (hl : l.length + s.size ≤ 100000000000) :
    Calls Try.prog 29 #[.pointer (some ⟨b, 0, none⟩), .string s] w fun e w' => e = .returned (.tuple #[.int .i64 s.size, .nilIface]) ∧ Bld W0 b (l ++ s.data.toList) w' :=
  (ws_any W0.heap.size b (Lib.byteCells l) s w h.1 (by rw [byteCells_len]; omega) h.2.size).mono fun e w' ⟨he, hb, hbl⟩ => ⟨he, .inr (by rw [← byteCells_str]; exact hb), h.2.trans hbl⟩
theorem bld_dot {W0 : World} {b : Nat} {l : List UInt8} {w : World} (h : Bld W0 b l w) (hl : l.length ≤ 90000000000) :
    Calls Try.prog 29 #[.pointer (some ⟨b, 0, none⟩), .string { data := #[46] }] w fun e w' => e = .returned (.tuple #[.int .i64 1, .nilIface]) ∧ Bld W0 b (l ++ [46]) w' :=
  bld_write h { data := #[46] } (Nat.le_trans (Nat.add_le_add_left (show _ ≤ 1 from Nat.le_refl 1) _) (by omega))
theorem bld_end {W0 : World} {b : Nat} {l : List UInt8} {w : World} (h : Bld W0 b l w) (hl : l.length ≤ 90000000000) :
    Calls Try.prog 29 #[.pointer (some ⟨b, 0, none⟩), .string { data := #[13, 10] }] w fun e w' => e = .returned (.tuple #[.int .i64 2, .nilIface]) ∧ Bld W0 b (l ++ [13, 10]) w' :=
  bld_write h { data := #[13, 10] } (Nat.le_trans (Nat.add_le_add_left (show _ ≤ 2 from Nat.le_refl 2) _) (by omega))
theorem bld_new (W0 w : World) (h : Below W0.heap.size W0 w) : Bld W0 w.heap.size [] (w.alloc (.cells #[.pointer none, .slice none 0 0] 64)) :=
  ⟨.inl ⟨h.size, .slice none 0 0, heap_alloc_new w _, ⟨rfl, .inl ⟨rfl, rfl⟩⟩, by simp [Value.ownBlock]⟩, h.alloc h.size _⟩

def DataPost (ps : List ByteArray) (w : World) (e : Ending) (w' : World) : Prop :=
  e = .returned (.tuple #[.string ⟨(if wrongOf 998 ps = 0 then dataOf ps else []).toArray⟩, .int .i64 (wrongOf 998 ps)]) ∧ Below w.heap.size w w'

set_option maxHeartbeats 1000000 in
theorem data_x (n c : Nat) (ps : List ByteArray) (A : Option Addr) (w : World) (hs : Strs w A n ps) (hz : (joinB ps).length ≤ 1000000000) (hn : n ≤ 1000000000) :
    Calls Try.prog 16 #[.slice A n c] w (DataPost ps w) := by
  have hzz : ∀ p ∈ ps, p.size ≤ 1000000000 := fun p hp => by
    obtain ⟨k, hk⟩ := List.getElem?_of_mem hp
    have := (join_le (m := 0) hk).2
    omega
  have hbl := bodyOf_len ps
  rw [hs.1] at hbl
  have HW := Lib.hid (wrong_x 998 n c ps A w hs (fun p hp => by have := hzz p hp; omega) hn)
  have HS := Lib.hid hs
  have HZ := Lib.hid hzz
  have HBL := Lib.hid hbl
  clear hs hzz hbl
  go_enter Try.func16, Try.ntmps16
  go_wp2_with fail
  refine HW.out.mono ?_
  rintro e w1 ⟨rfl, hb1⟩
  have HB1 := Lib.hid hb1
  clear hb1
  by_cases hw0 : wrongOf 998 ps = 0
  · have H0 := Lib.hid hw0
    rw [hw0]
    clear hw0
    go_wp2_with fail
    have hnew := Lib.hid (bld_new w w1 HB1.out)
    go_loopw [15] (fun i wr => ∃ k : Nat, k ≤ n ∧ i = .int .i64 k ∧ Bld w w1.heap.size (bodyOf (ps.take k)) wr) (fun i _ => n - (intOf i).toNat)
    case atStart => exact ⟨0, Nat.zero_le _, rfl, hnew.out⟩
    case round =>
      obtain ⟨k, hk, rfl, hb⟩ := hrel
      by_cases hlt : k < n
      · obtain ⟨ad, p, rfl, hpk, hab, hcw⟩ := HS.out.cell hlt
        have hcl : wr.cell? (ad.add k) = some (.string p) := (hb.2.cell (by rw [add_block]; exact hab)).trans hcw
        have hps := HZ.out p (List.mem_of_getElem? hpk)
        have HPK := Lib.hid hpk
        have HB := Lib.hid hb
        have hlen : (bodyOf (ps.take k)).length ≤ 4000000000 := by have := bodyOf_le ps k; have := HBL.out; omega
        clear hpk hcw hb
        generalize hbo : bodyOf (ps.take k) = bo at HB hlen
        have HBO := Lib.hid hbo
        clear hbo
        have HP := Lib.hid (Try.strings_HasPrefix p { data := #[46] } wr)
        cases hpf : Lib.hasPrefix p.data.toList [46]
        · have HPF := Lib.hid hpf
          clear hpf
          go_wp2_with fail
          refine HP.out.mono ?_
          rintro e w2 ⟨rfl, rfl⟩
          rw [show Lib.hasPrefix p.data.toList ({ data := #[46] } : ByteArray).data.toList = false from HPF.out]
          go_wp2_with fail
          refine (bld_write HB.out p (by omega)).mono ?_
          rintro e w3 ⟨rfl, h3⟩
          have HB3 := Lib.hid h3
          clear h3
          go_wp2_with fail
          refine (bld_end HB3.out (by rw [List.length_append, ← Lib.size_eq]; omega)).mono ?_
          rintro e w4 ⟨rfl, h4⟩
          have HB4 := Lib.hid h4
          clear h4
          go_wp2_with fail
          go_roundw
          case rel => exact ⟨k + 1, by omega, by go_num, by rw [bodyOf_take HPK.out, HBO.out, laidOf_no HPF.out, ← List.append_assoc]; exact HB4.out⟩
          case measure => simp [intOf]; omega
        · have HPF := Lib.hid hpf
          clear hpf
          go_wp2_with fail
          refine HP.out.mono ?_
          rintro e w2 ⟨rfl, rfl⟩
          rw [show Lib.hasPrefix p.data.toList ({ data := #[46] } : ByteArray).data.toList = true from HPF.out]
          go_wp2_with fail
          refine (bld_dot HB.out (by omega)).mono ?_
          rintro e w5 ⟨rfl, h5⟩
          have HB5 := Lib.hid h5
          clear h5
          go_wp2_with fail
          refine (bld_write HB5.out p (by rw [List.length_append]; simp; omega)).mono ?_
          rintro e w3 ⟨rfl, h3⟩
          have HB3 := Lib.hid h3
          clear h3
          go_wp2_with fail
          refine (bld_end HB3.out (by rw [List.length_append, List.length_append, ← Lib.size_eq]; simp; omega)).mono ?_
          rintro e w4 ⟨rfl, h4⟩
          have HB4 := Lib.hid h4
          clear h4
          go_wp2_with fail
          go_roundw
          case rel => exact ⟨k + 1, by omega, by go_num, by rw [bodyOf_take HPK.out, HBO.out, laidOf_yes HPF.out, ← List.append_assoc, ← List.append_assoc]; exact HB4.out⟩
          case measure => simp [intOf]; omega
      · rw [List.take_of_length_le (by rw [HS.out.1]; omega)] at hb
        have HB := Lib.hid hb
        have hlen := HBL.out
        clear hb
        go_wp2_with fail
        refine (bld_dot HB.out (by omega)).mono ?_
        rintro e w2 ⟨rfl, h2⟩
        have HB2 := Lib.hid h2
        clear h2
        go_wp2_with fail
        refine (bld_end HB2.out (by rw [List.length_append]; simp; omega)).mono ?_
        rintro e w3 ⟨rfl, h3⟩
        have HB3 := Lib.hid h3
        clear h3
        go_wp2_with fail
        refine (Try.Builder_String_any_k w.heap.size w1.heap.size _ w3 HB3.out.1 HB3.out.2.size).mono ?_
        rintro e w4 ⟨rfl, _, hb4, _⟩
        have HB4 := Lib.hid hb4
        clear hb4
        generalize hd : bodyOf ps ++ [46] ++ [13, 10] = d
        have HD := Lib.hid hd
        clear hd
        go_wp2_with fail
        go_ret2
        exact ⟨by rw [H0.out, if_pos rfl, ← HD.out, dataOf, List.append_assoc]; rfl, HB3.out.2.trans HB4.out⟩
  · have hne : (wrongOf 998 ps != 0) = true := by rw [bne_iff_ne]; exact hw0
    have H0 := Lib.hid hw0
    clear hw0
    go_wp2_with fail
    go_ret2
    exact ⟨by rw [if_neg H0.out]; rfl, HB1.out⟩
end Go.Proofs.Ytkkpfencnjnddaa
