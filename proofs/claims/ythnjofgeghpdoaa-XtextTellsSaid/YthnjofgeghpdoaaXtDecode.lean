/-
  The walks of xtext's Decode and Canon.
-/
import Derived.Test.YthnjofgeghpdoaaXtDec
namespace Go.Proofs.Ythnjofgeghpdoaa
open Go.RowKit
/-- What holds in Decode's loop. -/
structure DR (W0 : World) (l : List UInt8) (k : Nat) (out : List UInt8) (w : World) : Prop where
  box : w.heap[W0.heap.size]? = some (.cells #[.string (mkS l)] 9 (0, 0))
  here : w.heap[W0.heap.size + 1]? = some (.cells #[.int .i64 (k : Int)] 3 (0, 0))
  bld : Bld (W0.heap.size + 1 + 1) out w
  below : Below W0.heap.size W0 w
  dec : decX l = (decX (l.drop k)).map (out ++ ·)
  le : out.length ≤ k
  kl : k ≤ l.length
theorem dr_new (w : World) (l : List UInt8) : DR w l 0 [] (((w.alloc (.cells #[.string (mkS l)] 9)).alloc (.cells #[.int .i64 0] 3)).alloc (.cells #[.pointer none, .slice none 0 0] 37)) := by
  have h0 := newOf w (.cells #[.string (mkS l)] 9)
  have h1 := newOf (w.alloc (.cells #[.string (mkS l)] 9)) (.cells #[.int .i64 0] 3)
  have h2 := bld_new ((w.alloc (.cells #[.string (mkS l)] 9)).alloc (.cells #[.int .i64 0] 3))
  have b0 : Below w.heap.size w (w.alloc (.cells #[.string (mkS l)] 9)) := (Below.refl _ _).alloc (Nat.le_refl _) _
  have s1 : (w.alloc (.cells #[.string (mkS l)] 9)).heap.size = w.heap.size + 1 := by simp
  have s2 : ((w.alloc (.cells #[.string (mkS l)] 9)).alloc (.cells #[.int .i64 0] 3)).heap.size = w.heap.size + 2 := by simp
  rw [s1] at h1
  rw [s2] at h2
  refine ⟨?_, ?_, h2, ?_, by simp, by simp, by simp⟩
  · rw [Below.heap_alloc _ _ _ (by omega), Below.heap_alloc _ _ _ (by omega)]; exact h0
  · rw [Below.heap_alloc _ _ _ (by omega)]; exact h1
  · exact (b0.alloc b0.size _).alloc (by omega) _
/-- One sign has been taken: the number at, the builder, have turned. -/
theorem DR.more {W0 w w1 w2 : World} {l out : List UInt8} {k j : Nat} {b : UInt8} (h : DR W0 l k out w) (hm : Moved (W0.heap.size + 1) j w w1) (hb : Bld (W0.heap.size + 1 + 1) (out ++ [b]) w2) (hbl : Below (W0.heap.size + 1 + 1) w1 w2)
    (hd : decX (l.drop k) = (decX (l.drop j)).map (b :: ·)) (hj : k < j) (hjl : j ≤ l.length) : DR W0 l j (out ++ [b]) w2 := by
  refine ⟨(hbl.block _ (by omega)).trans ((hm.other _ (by omega)).trans h.box), (hbl.block _ (by omega)).trans hm.here, hb, (h.below.trans (hm.below (by omega))).trans (hbl.mono (by omega)), ?_, ?_, hjl⟩
  · rw [h.dec, hd, Option.map_map]
    congr 1
    funext s
    simp
  · have := h.le
    simp
    omega
def DecPost (l : List UInt8) (w : World) (e : Ending) (w' : World) : Prop := e = .returned (.tuple #[.string (mkS (decS l)), .int .i64 (decE l)]) ∧ Below w.heap.size w w'
theorem DR.no {W0 w w1 : World} {l out : List UInt8} {k : Nat} (h : DR W0 l k out w) (hd : decX (l.drop k) = none) (hb : Below W0.heap.size w w1) : DecPost l W0 (.returned (.tuple #[.string { data := #[] }, .int .i64 2])) w1 := by
  have e : decX l = none := by rw [h.dec, hd]; rfl
  refine ⟨?_, h.below.trans hb⟩
  rw [decS, decE, e]
  rfl
theorem DR.fin {W0 w w1 : World} {l out : List UInt8} {k : Nat} (h : DR W0 l k out w) (hk : l.length ≤ k) (hb : Below W0.heap.size w w1) : DecPost l W0 (.returned (.tuple #[.string (mkS out), .int .i64 0])) w1 := by
  have e : decX l = some out := by rw [h.dec, List.drop_of_length_le hk]; simp [decX]
  refine ⟨?_, h.below.trans hb⟩
  rw [decS, decE, e]
  rfl
theorem drop_get {l : List UInt8} {k : Nat} {x : UInt8} (h : l[k]? = some x) : l.drop k = x :: l.drop (k + 1) := by
  obtain ⟨hk, e⟩ := List.getElem?_eq_some_iff.1 h
  rw [List.drop_eq_getElem_cons hk, e]
theorem dec_two {l : List UInt8} {k : Nat} {x y : UInt8} (h : l[k]? = some 43) (hx : l[k + 1]? = some x) (hy : l[k + 2]? = some y) (vx : valX x < 16) (vy : valX y < 16) : decX (l.drop k) = (decX (l.drop (k + 3))).map (UInt8.ofNat (16 * valX x + valX y) :: ·) := by
  rw [drop_get h, drop_get hx, drop_get hy, decX_mark, if_pos ⟨vx, vy⟩]
theorem dec_not {l : List UInt8} {k : Nat} (h : l[k]? = some 43) (hn : ¬ TwoDigs l (k + 1)) : decX (l.drop k) = none := by
  rw [drop_get h]
  cases hx : l[k + 1]? with
  | none => rw [List.drop_of_length_le (List.getElem?_eq_none_iff.1 hx)]; exact decX_mark0
  | some x =>
    rw [drop_get hx]
    cases hy : l[k + 2]? with
    | none => rw [List.drop_of_length_le (List.getElem?_eq_none_iff.1 hy)]; exact decX_mark1 x
    | some y =>
      rw [drop_get hy, decX_mark, if_neg]
      rintro ⟨vx, vy⟩
      exact hn ⟨x, y, hx, hy, vx, vy⟩
theorem two_len {l : List UInt8} {k : Nat} (h : TwoDigs l k) : k + 2 ≤ l.length := by
  obtain ⟨x, y, _, hy, _⟩ := h
  have := (List.getElem?_eq_some_iff.1 hy).1
  omega
set_option maxHeartbeats 2000000 in
theorem decode_x (l : List UInt8) (w : World) (hl : l.length ≤ 1000000000) : Calls Try.prog 8 #[.string (mkS l)] w (DecPost l w) := by
  have hms := mkS_size l
  have hmf : ∀ (fn : Fn) (first cap : Array Value) (w : World), (Instr.makeFunc fn first cap).run Try.prog w = .ok (.func fn first cap) w := fun _ _ _ _ => rfl
  go_enter Try.func8, Try.ntmps8
  go_wp2_with fail
  go_loopg [7, 8] l.length (fun g _ _ wr => ∃ (k : Nat) (out : List UInt8), k + g = l.length ∧ Hid (DR w l k out wr))
  case atStart => exact ⟨0, [], by omega, dr_new w l⟩
  case round =>
    obtain ⟨k, out, hkg, HD⟩ := hrel
    have hc0 := cellOf HD.out.box 0
    have hc1 := cellOf HD.out.here 0
    have hf1 := freeOf HD.out.here 0
    cases gk with
    | zero =>
      have hlt : ¬ k < l.length := by omega
      go_wp2_with fail
      refine (bld_string HD.out.bld).mono ?_
      rintro e w1 ⟨rfl, _, hb⟩
      have HF := Lib.hid (HD.out.fin (by omega) (hb.mono (by omega)))
      clear hb
      go_wp2_with fail
      go_ret2
      exact HF.out
    | succ g =>
      have hlt : k < l.length := by omega
      obtain ⟨x, hx⟩ : ∃ x : UInt8, (mkS l)[k]'(by omega) = x := ⟨_, rfl⟩
      have hX : l[k]? = some x := by rw [← hx]; have := Lib.data_getElem? (mkS l) k (by omega); rwa [mkS_data] at this
      have hm : Moved (w.heap.size + 1) (k + 1) wr (wr.setCell ⟨w.heap.size + 1, 0, none⟩ (.int .i64 ((k : Int) + 1))) := Moved.set HD.out.here (k + 1)
      have HP := Lib.hid (plain_x x (wr.setCell ⟨w.heap.size + 1, 0, none⟩ (.int .i64 ((k : Int) + 1))))
      have hol : out.length ≤ 1000000000 := by have := HD.out.le; omega
      have HM := Lib.hid hm
      have HX := Lib.hid hX
      clear hm hX
      by_cases h43 : x = 43
      · have hb : ((x.toNat : Int) == 43) = true := by rw [h43]; rfl
        have hpf : plainX x = false := by rw [h43]; exact plain43
        rw [hpf] at HP
        have HX' := Lib.hid (show l[k]? = some 43 by rw [← h43]; exact HX.out)
        have HM' := Lib.hid (show (wr.setCell ⟨w.heap.size + 1, 0, none⟩ (.int .i64 ((k : Int) + 1))).heap[w.heap.size]? = some (.cells #[.string (mkS l)] 9 (0, 0)) from (HM.out.other _ (by omega)).trans HD.out.box)
        clear h43 hpf
        by_cases h2 : TwoDigs l (k + 1)
        · have hk2 := two_len h2
          obtain ⟨y, z, hy, hz, vy, vz⟩ := h2
          have HT := Lib.hid (told_yes (w.heap.size + 1) w.heap.size (k + 1) l y z _ HM.out.here HM'.out (by omega) hy hz hl vy vz)
          have HW := Lib.hid (dec_two HX'.out hy hz vy vz)
          generalize UInt8.ofNat (16 * valX y + valX z) = v at HT HW
          clear hy hz vy vz
          go_wp2_with fail
          refine HP.out.mono ?_
          rintro e w1 ⟨rfl, rfl⟩
          go_wp2_with fail
          refine HT.out.mono ?_
          rintro e w1 ⟨rfl, hm1⟩
          have HM1 := Lib.hid (HM.out.trans hm1)
          clear hm1
          go_wp2_with fail
          refine (bld_byte (HM1.out.bld HD.out.bld (by omega)) v (by omega)).mono ?_
          rintro e w2 ⟨rfl, hb2, hw2⟩
          have HN := Lib.hid (HD.out.more HM1.out hb2 hw2 HW.out (by omega) (by omega))
          clear hb2 hw2
          go_wp2_with fail
          go_roundg (l.length - (k + 3))
          case measure => omega
          case rel => exact ⟨k + 3, out ++ [v], by omega, HN.out⟩
        · have HT := Lib.hid (told_no (w.heap.size + 1) w.heap.size (k + 1) l _ HM.out.here HM'.out (by omega) (by omega) hl h2)
          have HN := Lib.hid (dec_not HX'.out h2)
          clear h2
          go_wp2_with fail
          refine HP.out.mono ?_
          rintro e w1 ⟨rfl, rfl⟩
          go_wp2_with fail
          refine HT.out.mono ?_
          rintro e w1 ⟨rfl, j, hm1⟩
          have HF := Lib.hid (HD.out.no HN.out ((HM.out.trans hm1).below (by omega)))
          clear hm1
          go_wp2_with fail
          go_ret2
          exact HF.out
      · have hb : ((x.toNat : Int) == 43) = false := Bool.eq_false_iff.2 fun e => h43 ((byte_eq (n := 43) (by decide)).1 e)
        have H43 := Lib.hid h43
        clear h43
        cases hp : plainX x
        · rw [hp] at HP
          have HB := Lib.hid (decX_bad hp H43.out (l.drop (k + 1)))
          clear hp
          go_wp2_with fail
          refine HP.out.mono ?_
          rintro e w1 ⟨rfl, rfl⟩
          have HF := Lib.hid (HD.out.no (by rw [drop_get HX.out]; exact HB.out) (HM.out.below (by omega)))
          go_wp2_with fail
          go_ret2
          exact HF.out
        · rw [hp] at HP
          have HB := Lib.hid (decX_plain hp (l.drop (k + 1)))
          clear hp
          go_wp2_with fail
          refine HP.out.mono ?_
          rintro e w1 ⟨rfl, rfl⟩
          go_wp2_with fail
          refine (bld_byte (HM.out.bld HD.out.bld (by omega)) x (by omega)).mono ?_
          rintro e w2 ⟨rfl, hb2, hw2⟩
          have HN := Lib.hid (HD.out.more HM.out hb2 hw2 (by rw [drop_get HX.out]; exact HB.out) (by omega) (by omega))
          clear hb2 hw2
          go_wp2_with fail
          go_roundg g
          case measure => omega
          case rel => exact ⟨k + 1, out ++ [x], by omega, HN.out⟩
/-- What Canon answers. -/
def canS (l : List UInt8) : List UInt8 := if (decX l).isSome then encX (decS l) else []
def CanPost (l : List UInt8) (w : World) (e : Ending) (w' : World) : Prop := e = .returned (.tuple #[.string (mkS (canS l)), .int .i64 (decE l)]) ∧ Below w.heap.size w w'
set_option maxHeartbeats 1000000 in
theorem canon_x (l : List UInt8) (w : World) (hl : l.length ≤ 1000000000) : Calls Try.prog 10 #[.string (mkS l)] w (CanPost l w) := by
  have HD := Lib.hid (decode_x l w hl)
  have hsl := decS_len l
  cases hd : decX l with
  | none =>
    have HE := Lib.hid hd
    clear hd
    go_enter Try.func10, Try.ntmps10
    go_wp2_with fail
    refine HD.out.mono ?_
    rintro e w1 ⟨rfl, hb⟩
    have HB := Lib.hid hb
    clear hb
    rw [show decE l = 2 by rw [decE, HE.out]; rfl]
    go_wp2_with fail
    go_ret2
    exact ⟨by rw [canS, decE, HE.out]; rfl, HB.out⟩
  | some s =>
    have HE := Lib.hid hd
    clear hd
    go_enter Try.func10, Try.ntmps10
    go_wp2_with fail
    refine HD.out.mono ?_
    rintro e w1 ⟨rfl, hb⟩
    have HB := Lib.hid hb
    clear hb
    rw [show decE l = 0 by rw [decE, HE.out]; rfl]
    go_wp2_with fail
    refine (encode_x (decS l) _ (by omega)).mono ?_
    rintro e w2 ⟨rfl, hb2⟩
    have HB2 := Lib.hid (HB.out.trans (hb2.mono HB.out.size))
    clear hb2
    go_wp2_with fail
    go_ret2
    exact ⟨by rw [canS, decE, HE.out]; rfl, HB2.out⟩
end Go.Proofs.Ythnjofgeghpdoaa
