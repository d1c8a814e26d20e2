/-
  The walks of right (with ContainsFunc, IndexFunc), ready and find.
-/
import Derived.Test.YtdjgjmbgcjhnpaaDkBox
import Derived.Lib.OthersKept
import Derived.Deep.LoopGhost
import Derived.Shelf.Abstract
namespace Go.Proofs.Ytdjgjmbgcjhnpaa
set_option maxRecDepth 100000
open Go.RowKit Go.Shelf
def badR (x : Int) : Bool := decide (x < 33) || decide (126 < x)
set_option maxHeartbeats 1000000 in
theorem right1_x (x : Int) (w : World) : Calls Try.prog 53 #[.int .i32 x] w fun e w' => e = .returned (.bool (badR x)) ∧ w = w' := by
  have HB := Lib.hid (show badR x = (decide (x < 33) || decide (126 < x)) from rfl)
  by_cases h1 : x < 33
  · have d1 : decide (x < 33) = true := decide_eq_true h1
    have HE := Lib.hid (show true = badR x by rw [HB.out, d1]; rfl)
    clear HB
    go_enter Try.func53, Try.ntmps53
    go_wp2_with fail
    go_ret
    exact ⟨ret_bool HE.out, rfl⟩
  · have d1 : decide (x < 33) = false := decide_eq_false h1
    have HE := Lib.hid (show decide (126 < x) = badR x by rw [HB.out, d1]; rfl)
    clear HB h1
    go_enter Try.func53, Try.ntmps53
    go_wp2_with fail
    go_ret
    exact ⟨ret_bool HE.out, rfl⟩
theorem ent_right1 : ∀ args w, (callFunc 53 args).run Try.prog w = .ok (.enter 53 args) w := enters_of Try.func53 (by kernel_rfl) rfl
theorem take_all {l : Txt} {k : Nat} {x : UInt8} (hx : l[k]? = some x) (h : (l.take k).all okC = true) (hp : okC x = true) : (l.take (k + 1)).all okC = true := by
  obtain ⟨hk, e⟩ := List.getElem?_eq_some_iff.1 hx
  rw [List.take_succ_eq_append_getElem hk, List.all_append, h, e]
  simp [hp]
theorem not_all {l : Txt} {k : Nat} {x : UInt8} (hx : l[k]? = some x) (hp : okC x = false) : l.all okC = false := by
  rw [List.all_eq_false]
  exact ⟨x, List.mem_of_getElem? hx, by rw [hp]; exact Bool.false_ne_true⟩
/-- What a decoder hands out at a byte: bad if the byte is; else the byte, of width one. -/
theorem dec_at (l : Txt) (p : Nat) (x : UInt8) (hx : l[p]? = some x) (hp : p < (mkS l).size) :
    (okC x = true → Utf8.decode (mkS l) p = (x.toNat, 1) ∧ badR (x.toNat : Int) = false) ∧ (okC x = false → badR ((Utf8.decode (mkS l) p).1 : Int) = true) := by
  have hg := mkS_get hp hx
  have hb := x.toNat_lt
  by_cases h : x.toNat < 128
  · have hd := decode_ascii (mkS l) p hp (by rw [hg]; exact h)
    rw [hg] at hd
    rw [hd]
    constructor
    · intro ho
      simp only [okC, Bool.and_eq_true, decide_eq_true_eq] at ho
      refine ⟨rfl, ?_⟩
      rw [badR, decide_eq_false (by omega), decide_eq_false (by omega)]; rfl
    · intro ho
      rw [okC, Bool.and_eq_false_iff, decide_eq_false_iff_not, decide_eq_false_iff_not] at ho
      rw [badR, Bool.or_eq_true, decide_eq_true_eq, decide_eq_true_eq]
      simp only
      omega
  · have hd := decode_high (mkS l) p hp (by rw [hg]; omega)
    refine ⟨fun ho => ?_, fun _ => ?_⟩
    · simp only [okC, Bool.and_eq_true, decide_eq_true_eq] at ho
      omega
    · rw [badR, Bool.or_eq_true, decide_eq_true_eq, decide_eq_true_eq]
      omega
set_option maxHeartbeats 2000000 in
theorem idxf_x (l : Txt) (w : World) : Calls Try.prog 62 #[.string (mkS l), .func (.func 53) #[] #[], .bool true] w fun e w' =>
    (∃ i : Int, e = .returned (.int .i64 i) ∧ decide (0 ≤ i) = !l.all okC) ∧ Below w.heap.size w w' := by
  have hms := mkS_size l
  have HR := Lib.hid right1_x
  go_enter Try.func62, Try.ntmps62
  go_wp2_with fail
  go_loopg [] l.length (fun gf wx => ∃ pos : Nat, wx.heap[w.heap.size]? = some (.stringIter (mkS l) pos) ∧ Below w.heap.size w wx ∧ Hid ((l.take pos).all okC = true) ∧ l.length ≤ pos + gf)
  case atStart => exact ⟨0, World.iter_heap w (mkS l) 0, (Below.refl _ w).alloc (Nat.le_refl _) _, Lib.hid rfl, by omega⟩
  case round =>
    obtain ⟨pos, hit, hbw, HC, hfu⟩ := hrel
    by_cases hps : pos < (mkS l).size
    · obtain ⟨x, hx⟩ : ∃ x, l[pos]? = some x := ⟨_, List.getElem?_eq_getElem (by omega)⟩
      obtain ⟨g', rfl⟩ : ∃ g', gk = g' + 1 := ⟨gk - 1, by omega⟩
      have hnx : ∀ ty, (Instr.next (.pointer (some ⟨w.heap.size, 0, none⟩)) true ty).run Try.prog wr = _ := fun ty => Lib.run_next_any_at wr w.heap.size (mkS l) pos ty hit hps
      obtain ⟨hy, hn⟩ := dec_at l pos x hx hps
      have hit2 := Lib.iterAt_heap wr w.heap.size (mkS l) pos (pos + (Utf8.decode (mkS l) pos).2) hit
      have hbw2 := Lib.below_iterAt hbw (k := w.heap.size) (Nat.le_refl _) (mkS l) (pos + (Utf8.decode (mkS l) pos).2)
      obtain ⟨W, hWd⟩ : ∃ W, wr.iterAt w.heap.size (mkS l) (pos + (Utf8.decode (mkS l) pos).2) = W := ⟨_, rfl⟩
      rw [hWd] at hnx hit2 hbw2
      clear hWd
      cases hok : okC x
      · have hbad := hn hok
        have HF := Lib.hid (not_all hx hok)
        have HBW := Lib.hid hbw2
        have HX := Lib.hid (HR.out ((Utf8.decode (mkS l) pos).1 : Int) W)
        rw [hbad] at HX
        clear hy hn hbad hok hit2 hbw2
        generalize (Utf8.decode (mkS l) pos).1 = R at hnx HX
        go_wp2_with (go_at_call 53; refine (HX.out).mono ?_; rintro e W' ⟨rfl, rfl⟩)
        go_ret
        exact ⟨⟨_, rfl, by rw [HF.out]; simp⟩, HBW.out⟩
      · obtain ⟨hd, hgd⟩ := hy hok
        have HC2 := Lib.hid (take_all hx HC.out hok)
        rw [hd] at hnx hit2
        have HIT := Lib.hid hit2
        have HBW := Lib.hid hbw2
        have HX := Lib.hid (HR.out (x.toNat : Int) W)
        rw [hgd] at HX
        clear hn hok hgd hd hit2 hbw2 hx hy
        go_wp2_with (go_at_call 53; refine (HX.out).mono ?_; rintro e W' ⟨rfl, rfl⟩)
        go_roundg g'
        case measure => omega
        case rel => exact ⟨pos + 1, HIT.out, HBW.out, HC2, by omega⟩
    · have hnx : ∀ ty, (Instr.next (.pointer (some ⟨w.heap.size, 0, none⟩)) true ty).run Try.prog wr = _ := fun ty => Lib.run_next_end_at wr w.heap.size (mkS l) pos ty hit hps
      have hc := HC.out
      rw [List.take_of_length_le (by omega)] at hc
      have HE := Lib.hid hc
      clear hc
      go_wp2_with fail
      go_ret
      exact ⟨⟨_, rfl, by rw [HE.out]; simp⟩, hbw⟩
set_option maxHeartbeats 1000000 in
theorem cont_x (l : Txt) (w : World) : Calls Try.prog 52 #[.string (mkS l), .func (.func 53) #[] #[]] w fun e w' =>
    e = .returned (.bool (!l.all okC)) ∧ Below w.heap.size w w' := by
  have HI := Lib.hid (fun w => idxf_x l w)
  have h1 : ∀ w, Calls Try.prog 60 #[.string (mkS l), .func (.func 53) #[] #[]] w fun e w' => (∃ i : Int, e = .returned (.int .i64 i) ∧ decide (0 ≤ i) = !l.all okC) ∧ Below w.heap.size w w' := by
    intro w
    go_enter Try.func60, Try.ntmps60
    go_wp2_with (go_at_call 62; refine (HI.out _).mono ?_; rintro e w1 ⟨⟨i, rfl, hi⟩, hb⟩)
    have H1 := Lib.hid hi
    have H2 := Lib.hid hb
    clear hi hb
    go_wp2_with fail
    go_ret
    exact ⟨⟨i, rfl, H1.out⟩, H2.out⟩
  have HJ := Lib.hid h1
  clear h1
  go_enter Try.func52, Try.ntmps52
  go_wp2_with (go_at_call 60; refine (HJ.out _).mono ?_; rintro e w1 ⟨⟨i, rfl, hi⟩, hb⟩)
  have H1 := Lib.hid hi
  have H2 := Lib.hid hb
  clear hi hb
  go_wp2_with fail
  go_ret
  first | exact ⟨ret_bool H1.out, H2.out⟩ | exact ⟨rfl, H2.out⟩
set_option maxHeartbeats 1000000 in
theorem dright_x (l : Txt) (w : World) (hl : l.length ≤ 140737488355328) : Calls Try.prog 40 #[.string (mkS l)] w fun e w' => e = .returned (.bool (okN l)) ∧ Below w.heap.size w w' := by
  have hms := mkS_size l
  have HV := Lib.hid (show okN l = (decide (1 ≤ l.length) && decide (l.length ≤ 32) && l.all okC) from rfl)
  have HC := Lib.hid (fun w => cont_x l w)
  by_cases h1 : l.length < 1
  · have d1 : decide ((l.length : Int) < 1) = true := decide_eq_true (by omega)
    have HE := Lib.hid (show false = okN l by rw [HV.out, decide_eq_false (by omega)]; rfl)
    clear h1
    go_enter Try.func40, Try.ntmps40
    go_wp2_with fail
    go_ret
    exact ⟨ret_bool HE.out, Below.refl _ _⟩
  · have d1 : decide ((l.length : Int) < 1) = false := decide_eq_false (by omega)
    by_cases h2 : 32 < l.length
    · have d2 : decide ((32 : Int) < (l.length : Int)) = true := decide_eq_true (by omega)
      have HE := Lib.hid (show false = okN l by rw [HV.out, decide_eq_false (p := l.length ≤ 32) (by omega), Bool.and_false]; rfl)
      clear h1 h2
      go_enter Try.func40, Try.ntmps40
      go_wp2_with fail
      go_ret
      exact ⟨ret_bool HE.out, Below.refl _ _⟩
    · have d2 : decide ((32 : Int) < (l.length : Int)) = false := decide_eq_false (by omega)
      have HE := Lib.hid (show (!!l.all okC) = okN l by rw [HV.out, decide_eq_true (by omega), decide_eq_true (by omega), Bool.not_not]; rfl)
      clear h1 h2 HV
      generalize l.all okC = q at HC HE
      go_enter Try.func40, Try.ntmps40
      go_wp2_with (go_at_call 52; refine (HC.out _).mono ?_; rintro e w1 ⟨rfl, hb⟩)
      have H2 := Lib.hid hb
      clear hb
      go_wp2_with fail
      go_ret
      exact ⟨ret_bool (by have := HE.out; rwa [Bool.not_not] at this), H2.out⟩
end Go.Proofs.Ytdjgjmbgcjhnpaa
