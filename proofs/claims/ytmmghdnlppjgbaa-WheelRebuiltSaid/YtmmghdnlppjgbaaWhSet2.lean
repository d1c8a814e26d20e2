/-
  The walks of Due, Len, Set, New.
-/
import Derived.Test.YtmmghdnlppjgbaaWhSet
namespace Go.Proofs.Ytmmghdnlppjgbaa
set_option maxRecDepth 100000
open Go.RowKit
/-- When a timer fires, if it is there. -/
def dueE (M : List En) (i : Int) : Option Int := (M.find? fun p => p.2 == i).map Prod.fst
theorem due_some {S : List Tm} {M : List En} {n : Int} (h : Set_ n S M) {t : Tm} (ht : t ∈ S) : dueE M t.id = some t.f := by
  unfold dueE
  have hm : t.en ∈ M := h.perm.mem_iff.2 (List.mem_map.2 ⟨t, ht, rfl⟩)
  cases e : M.find? (fun p => p.2 == t.id) with
  | none => have := List.find?_eq_none.1 e t.en hm; simp at this
  | some p =>
    have h1 := List.find?_some e
    have h2 := List.mem_of_find?_eq_some e
    obtain ⟨s, hs, rfl⟩ := List.mem_map.1 (h.perm.mem_iff.1 h2)
    have h3 : s.id = t.id := by simpa using h1
    have : s = t := by
      obtain ⟨i, hi, rfl⟩ := List.getElem_of_mem hs
      obtain ⟨j, hj, rfl⟩ := List.getElem_of_mem ht
      have := (List.getElem?_inj (l := S.map Tm.id) (by rw [List.length_map]; exact hi) h.ids (j := j)).1 (by simp [hi, hj, h3])
      subst this
      rfl
    rw [this]
    rfl
theorem due_none {S : List Tm} {M : List En} {n i : Int} (h : Set_ n S M) (hi : ∀ t ∈ S, t.id ≠ i) : dueE M i = none := by
  unfold dueE
  rw [List.find?_eq_none.2]
  · rfl
  · intro p hp
    obtain ⟨t, ht, rfl⟩ := List.mem_map.1 (h.perm.mem_iff.1 hp)
    simpa using hi t ht
section
variable {O : Nat → Prop} {b : Nat} {M : List En} {n : Int} {w : World}
theorem due_x (h : PW O b n M w) (i : Int) (hi : Nm i) :
    Calls Try.prog 21 #[.pointer (some ⟨b, 0, none⟩), .int .i64 i] w fun e w' => e = .returned (.tuple #[.int .i64 ((dueE M i).getD 0), .bool (dueE M i).isSome]) ∧ w' = w := by
  obtain ⟨S, mt, sv, v, L, h1, h2⟩ := h
  have cm := h1.hs.wb.map
  by_cases hex : ∃ t ∈ S, t.id = i
  · obtain ⟨t, ht, rfl⟩ := hex
    rw [due_some h2 ht]
    have hlook := h1.mp.look_yes (n := t.id) (a := ptrV t.a) (List.mem_map.2 ⟨t, ht, rfl⟩) hi
    obtain ⟨p, tp⟩ := h1.tm ht
    obtain ⟨_, t1, _⟩ := tp.cells
    clear h1 h2 tp
    go_enter Try.func21, Try.ntmps21
    go_wp2_with fail
    go_ret2
    exact ⟨rfl, rfl⟩
  · have hno : ∀ t ∈ S, t.id ≠ i := fun t ht e => hex ⟨t, ht, e⟩
    rw [due_none h2 hno]
    have hlook := h1.mp.look_no (n := i) (fun p hp => by obtain ⟨t, ht, rfl⟩ := List.mem_map.1 hp; exact hno t ht) hi
    clear h1 h2 hno hex
    go_enter Try.func21, Try.ntmps21
    go_wp2_with fail
    go_ret2
    exact ⟨rfl, rfl⟩
theorem wlen_x (h : PW O b n M w) : Calls Try.prog 19 #[.pointer (some ⟨b, 0, none⟩)] w fun e w' => e = .returned (.int .i64 (M.length : Int)) ∧ w' = w := by
  obtain ⟨S, mt, sv, v, L, h1, h2⟩ := h
  have cm := h1.hs.wb.map
  have hlen := h1.mp.len 3
  rw [List.length_map, PW.len h2] at hlen
  clear h1 h2
  go_enter Try.func19, Try.ntmps19
  go_wp2_with fail
  go_ret
  exact ⟨rfl, rfl⟩
theorem wnow_x (h : PW O b n M w) : Calls Try.prog 18 #[.pointer (some ⟨b, 0, none⟩)] w fun e w' => e = .returned (.int .i64 n) ∧ w' = w := by
  obtain ⟨S, mt, sv, v, L, h1, _⟩ := h
  exact now_x h1.hs.wb
theorem Set_.add {S' : List Tm} {M : List En} {n i f : Int} {a : Nat} (h : Set_ n S' M) (hi : ∀ t ∈ S', t.id ≠ i) (hf : n < f) (hf2 : f ≤ 2199023255552) (hi0 : 0 ≤ i ∧ i ≤ 9223372036854775807) : Set_ n (⟨a, i, f, lvOf n f⟩ :: S') (insE (f, i) M) := by
  refine ⟨fun t ht => ?_, (insE_perm _ _).trans (List.Perm.cons _ h.perm), insE_srt h.srt fun y hy e => ?_, ?_, h.n0, h.n1, fun t ht => ?_, fun t ht => ?_⟩
  · rcases List.mem_cons.1 ht with rfl | ht
    · exact laid_stand hf a i
    · exact h.stand t ht
  · obtain ⟨t, ht, rfl⟩ := List.mem_map.1 (h.perm.mem_iff.1 hy)
    exact hi t ht (congrArg Prod.snd e)
  · rw [List.map_cons, List.nodup_cons]
    refine ⟨fun hm => ?_, h.ids⟩
    obtain ⟨t, ht, e⟩ := List.mem_map.1 hm
    exact hi t ht e
  · rcases List.mem_cons.1 ht with rfl | ht
    · exact hi0
    · exact h.id0 t ht
  · rcases List.mem_cons.1 ht with rfl | ht
    · exact hf2
    · exact h.f1 t ht
theorem set_no (b : Nat) (w : World) (i d : Int) (h : ¬ (0 ≤ i ∧ 0 ≤ d ∧ d ≤ 2199023255552)) : Calls Try.prog 11 #[.pointer (some ⟨b, 0, none⟩), .int .i64 i, .int .i64 d] w fun e w' => e = .returned (.int .i64 1) ∧ w' = w := by
  have H := Lib.hid h
  clear h
  by_cases h1 : i < 0
  · have d1 : decide (i < 0) = true := decide_eq_true h1
    go_enter Try.func11, Try.ntmps11
    go_wp2_with fail
    go_ret
    exact ⟨rfl, rfl⟩
  have d1 : decide (i < 0) = false := decide_eq_false h1
  by_cases h2 : d < 0
  · have d2 : decide (d < 0) = true := decide_eq_true h2
    go_enter Try.func11, Try.ntmps11
    go_wp2_with fail
    go_ret
    exact ⟨rfl, rfl⟩
  have d2 : decide (d < 0) = false := decide_eq_false h2
  have d3 : decide ((2199023255552 : Int) < d) = true := decide_eq_true (by have := H.out; omega)
  go_enter Try.func11, Try.ntmps11
  go_wp2_with fail
  go_ret
  exact ⟨rfl, rfl⟩
set_option maxHeartbeats 4000000 in
theorem set_x (h : PW O b n M w) (i d : Int) (hi : 0 ≤ i ∧ i ≤ 9223372036854775807) (hd : 0 ≤ d ∧ d ≤ 2199023255552) (few : M.length ≤ 1000) :
    Calls Try.prog 11 #[.pointer (some ⟨b, 0, none⟩), .int .i64 i, .int .i64 d] w fun e w' => e = .returned (.int .i64 0) ∧ PD O b n (setE M i (max d (n + 1))) w w' := by
  have d1 : decide (i < 0) = false := decide_eq_false (by omega)
  have d2 : decide (d < 0) = false := decide_eq_false (by omega)
  have d3 : decide ((2199023255552 : Int) < d) = false := decide_eq_false (by omega)
  have hn : Nm i := ⟨by omega, by omega⟩
  have HC := Lib.hid (cancel_x h i hn)
  have HF := Lib.hid few
  clear h few
  go_enter Try.func11, Try.ntmps11
  go_wp2_with fail
  refine HC.out.mono ?_
  rintro e w1 ⟨rfl, ⟨⟨O1, ⟨S1, mt, sv, v, L, h1, h2⟩, s1⟩, f1⟩⟩
  have c0 := h1.hs.wb.now
  have H1 := Lib.hid (And.intro h1 (And.intro h2 (And.intro s1 f1)))
  have hn0 := h2.n0
  have hn1 := h2.n1
  have cm := h1.hs.wb.map
  have hbl := h1.hs.wb.lt
  have hno : ∀ t ∈ S1, t.id ≠ i := fun t ht e => by
    have := h2.perm.mem_iff.2 (List.mem_map.2 ⟨t, ht, rfl⟩)
    exact (delE_mem.1 this).2 e
  obtain ⟨f, hf⟩ : ∃ f, f = max d (n + 1) := ⟨_, rfl⟩
  have hfn : n < f := by omega
  have hf2 : f ≤ 2199023255552 := by omega
  have hp := h1.newP i f
  obtain ⟨w3, hrun, j3, t3⟩ := hp.mp.put (ptrV w1.heap.size) hn (by rw [List.length_map, PW.len h2]; have := delE_length M i; have := HF.out; omega)
  have HFr := Lib.hid (((Fr.refl O1 w1).alloc (.cells (tmC i f 0 0) 68)).trans ((Fr.refl (fun j => O1 j ∨ j = w1.heap.size) _).turned t3 hp.om) fun k hk e => e.elim id fun e => by omega)
  rw [same_filter (fun p hp => by obtain ⟨t, ht, rfl⟩ := List.mem_map.1 hp; exact hno t ht)] at j3
  have hlay := lay_x (hp.setM j3 t3) (by show n ≤ f; omega) hn0 (by show f ≤ 4398046511104; omega) hno hn (by rw [PW.len h2]; have := delE_length M i; have := HF.out; omega)
  have HLay := Lib.hid hlay
  have HAdd := Lib.hid (h2.add (a := w1.heap.size) hno hfn hf2 hi)
  clear h1 h2 s1 f1 hp j3 t3 hlay hno
  rw [hf] at hrun
  go_wp2_with fail
  refine HLay.out.mono ?_
  rintro e w4 ⟨rfl, hd4⟩
  have HD := Lib.hid hd4
  clear hd4
  go_wp2_with fail
  go_ret
  obtain ⟨⟨O2, sv2, v2, L2, g1, g2⟩, g3⟩ := HD.out
  obtain ⟨_, _, s1, f1⟩ := H1.out
  have e5 : setE M i (max d (n + 1)) = insE (f, i) (delE M i) := by rw [setE, hf]
  rw [e5]
  refine ⟨rfl, ⟨⟨O2, ⟨⟨w1.heap.size, i, f, lvOf n f⟩ :: S1, mt, sv2, v2, L2, g1, HAdd.out⟩, fun k hk => ?_⟩, ?_⟩⟩
  · have := f1.size
    have := HFr.out.size
    rcases g2 k hk with (e | e) | e
    · exact s1 k e
    · exact .inr (by omega)
    · exact .inr (by omega)
  · have := f1.size
    have := HFr.out.size
    exact (f1.trans (HFr.out.trans g3 fun k hk e => e.elim id fun e => by omega) fun k hk e => (s1 k e).elim id fun e => by omega)
end
end Go.Proofs.Ytmmghdnlppjgbaa
