/-
  The walks of path's readAlone, readLocal and of the closure that answers none.
-/
import Derived.Test.YtamjoleknjmpoaaPtPrint
namespace Go.Proofs.Ytamjoleknjmpoaa
open Go.RowKit
theorem noneP_x (n : Int) (w : World) : Calls Try.prog 23 #[.int .i64 n] w fun e w' => e = .returned (.tuple #[.agg #[.string { data := #[] }, .string { data := #[] }], .string { data := #[] }, .int .i64 n]) ∧ Below w.heap.size w w' := by
  go_enter Try.func23, Try.ntmps23
  go_wp2_with fail
  refine bodyPost_ret (v := .tuple #[.agg #[.string { data := #[] }, .string { data := #[] }], .string { data := #[] }, .int .i64 n]) (by simp [results, Try.results23, go_sem]) rfl ⟨rfl, ?_⟩
  first | exact below_box _ _ | exact (below_box _ _).setCell (Nat.le_refl _) _ | exact ((below_box _ _).setCell (Nat.le_refl _) _).setCell (Nat.le_refl _) _

/-- What readAlone answers. -/
def alV (s : List UInt8) : Pth × List UInt8 × Bool := match aloneV s with | some (p, r) => (p, r, true) | none => (([], []), [], false)
def AlPost (s : List UInt8) (w : World) (e : Ending) (w' : World) : Prop := e = .returned (.tuple #[.agg #[.string (mkS (alV s).1.1), .string (mkS (alV s).1.2)], .string (mkS (alV s).2.1), .bool (alV s).2.2]) ∧ Below w.heap.size w w'
theorem al_null {s : List UInt8} {w w' : World} (h1 : hasC 62 s = true) (h2 : preC 62 s = []) (hb : Below w.heap.size w w') :
    AlPost s w (.returned (.tuple #[.agg #[.string { data := #[] }, .string { data := #[] }], .string (mkS (postC 62 s)), .bool true])) w' := by
  have e : alV s = (([], []), postC 62 s, true) := by rw [alV, aloneV, if_pos h1, if_pos (by rw [h2]; rfl)]
  exact ⟨by rw [e]; rfl, hb⟩
theorem al_pm {s : List UInt8} {w w' : World} (h1 : hasC 62 s = true) (h2 : preC 62 s ≠ []) (h3 : (smallL (preC 62 s) == pmL) = true) (hb : Below w.heap.size w w') :
    AlPost s w (.returned (.tuple #[.agg #[.string { data := #[112, 111, 115, 116, 109, 97, 115, 116, 101, 114] }, .string { data := #[] }], .string (mkS (postC 62 s)), .bool true])) w' := by
  have e : alV s = ((pmL, []), postC 62 s, true) := by rw [alV, aloneV, if_pos h1, if_neg (by simpa using h2), if_pos h3]
  exact ⟨by rw [e]; rfl, hb⟩
theorem al_none {s : List UInt8} {w w' : World} (h : hasC 62 s = true → preC 62 s ≠ [] ∧ (smallL (preC 62 s) == pmL) = false) (hb : Below w.heap.size w w') :
    AlPost s w (.returned (.tuple #[.agg #[.string { data := #[] }, .string { data := #[] }], .string { data := #[] }, .bool false])) w' := by
  have e : alV s = (([], []), [], false) := by
    rw [alV, aloneV]
    split
    · rename_i heq
      split at heq
      · rename_i h1
        rw [if_neg (by simpa using (h h1).1), if_neg (by rw [(h h1).2]; exact Bool.false_ne_true)] at heq
        cases heq
      · cases heq
    · rfl
  exact ⟨by rw [e]; rfl, hb⟩
set_option maxHeartbeats 4000000 in
theorem alone_x (l : List UInt8) (w : World) (hl : l.length ≤ 1000000000000) : Calls Try.prog 25 #[.string (mkS l)] w (AlPost l w) := by
  have HC := Lib.hid (fun w => cut_x 62 l w (by omega))
  have HN := Lib.hid (fun w' h1 h2 hb => al_null (s := l) (w := w) (w' := w') h1 h2 hb)
  have HP := Lib.hid (fun w' h1 h2 h3 hb => al_pm (s := l) (w := w) (w' := w') h1 h2 h3 hb)
  have HX := Lib.hid (fun w' h hb => al_none (s := l) (w := w) (w' := w') h hb)
  have hpl := pre_le 62 l
  have HS := Lib.hid (fun w => small_x (preC 62 l) w (by omega))
  generalize preC 62 l = a at HC HN HP HX hpl HS
  generalize postC 62 l = b at HC HN HP
  generalize hasC 62 l = q at HC HN HP HX
  have hT1 := mkS_toList a
  have hT2 := mkS_toList (smallL a)
  have hr : ∀ n : Nat, ((w.alloc (.cells #[.string { data := #[] }, .string { data := #[] }] 23)).drewN n).heap[w.heap.size]? = some (.cells #[.string { data := #[] }, .string { data := #[] }] 23 (0, 0)) := fun n => newOf w _
  have hb0 : ∀ n : Nat, Below w.heap.size w ((w.alloc (.cells #[.string { data := #[] }, .string { data := #[] }] 23)).drewN n) := fun n => below_drewN (below_box w _) n
  have HR := Lib.hid (And.intro hr hb0)
  clear hr hb0
  go_enter Try.func25, Try.ntmps25
  go_wp2_with fail
  refine (HC.out _).mono ?_
  rintro e w1 ⟨rfl, n, rfl⟩
  obtain ⟨W1, hW1⟩ : ∃ W1, (w.alloc (.cells #[.string { data := #[] }, .string { data := #[] }] 23)).drewN n = W1 := ⟨_, rfl⟩
  have hr := HR.out.1 n
  have hb := HR.out.2 n
  rw [hW1] at hr hb ⊢
  have HB := Lib.hid hb
  have HRR := Lib.hid hr
  have d0 := cellOf hr 0
  have d1 := cellOf hr 1
  have f0 := freeOf hr 0
  have f1 := freeOf hr 1
  clear hr hb hW1
  cases q
  · go_wp2_with fail
    refine bodyPost_ret (v := .tuple #[.agg #[.string { data := #[] }, .string { data := #[] }], .string { data := #[] }, .bool false]) (by simp [results, Try.results25, go_sem, d0, d1]) rfl ?_
    exact HX.out _ (fun h => by cases h) ((HB.out.setCell (p := ⟨w.heap.size, 0, none⟩) (Nat.le_refl _) _).setCell (p := ⟨w.heap.size, 1, none⟩) (Nat.le_refl _) _)
  · by_cases ha : a = []
    · subst ha
      go_wp2_with fail
      refine bodyPost_ret (v := .tuple #[.agg #[.string { data := #[] }, .string { data := #[] }], .string (mkS b), .bool true]) (by simp [results, Try.results25, go_sem, d0, d1]) rfl ?_
      exact HN.out _ (by simp) (by simp) ((HB.out.setCell (p := ⟨w.heap.size, 0, none⟩) (Nat.le_refl _) _).setCell (p := ⟨w.heap.size, 1, none⟩) (Nat.le_refl _) _)
    · have hem : a.isEmpty = false := by cases a <;> simp_all
      have hem2 : (a == []) = false := beq_eq_false_iff_ne.2 ha
      have HA := Lib.hid ha
      have hpm : (smallL a == [112, 111, 115, 116, 109, 97, 115, 116, 101, 114]) = (smallL a == pmL) := rfl
      generalize hqm : (smallL a == pmL) = qm at hpm
      have HQM := Lib.hid hqm
      clear hqm ha
      go_wp2_with fail
      refine (HS.out _).mono ?_
      rintro e w2 ⟨rfl, hb2⟩
      have hrr := (hb2.block _ (ltOf HRR.out)).trans HRR.out
      have HB2 := Lib.hid (below_next HB.out hb2)
      clear d0 d1 f0 f1 hb2
      have d0 := cellOf hrr 0
      have d1 := cellOf hrr 1
      have f0 := freeOf hrr 0
      have f1 := freeOf hrr 1
      clear hrr
      cases qm
      · go_wp2_with fail
        refine bodyPost_ret (v := .tuple #[.agg #[.string { data := #[] }, .string { data := #[] }], .string { data := #[] }, .bool false]) (by simp [results, Try.results25, go_sem, d0, d1]) rfl ?_
        exact HX.out _ (fun _ => ⟨HA.out, HQM.out⟩) ((HB2.out.setCell (p := ⟨w.heap.size, 0, none⟩) (Nat.le_refl _) _).setCell (p := ⟨w.heap.size, 1, none⟩) (Nat.le_refl _) _)
      · go_wp2_with fail
        refine bodyPost_ret (v := .tuple #[.agg #[.string { data := #[112, 111, 115, 116, 109, 97, 115, 116, 101, 114] }, .string { data := #[] }], .string (mkS b), .bool true]) (by simp [results, Try.results25, go_sem, d0, d1]) rfl ?_
        exact HP.out _ (by simp) HA.out HQM.out ((HB2.out.setCell (p := ⟨w.heap.size, 0, none⟩) (Nat.le_refl _) _).setCell (p := ⟨w.heap.size, 1, none⟩) (Nat.le_refl _) _)

/-- What readLocal answers. -/
def LocPost (s : List UInt8) (w : World) (e : Ending) (w' : World) : Prop := e = .returned (.tuple #[.string (mkS (localV s).1), .string (mkS (localV s).2.1), .bool (localV s).2.2]) ∧ Below w.heap.size w w'
theorem unqV_le (s : List UInt8) : (unqV s).1.length ≤ s.length ∧ (unqV s).2.1.length ≤ s.length := by
  have key : ∀ (l : List UInt8) (m : Bool) (acc a r : List UInt8), unqL l m acc = some (a, r) → a.length ≤ acc.length + l.length ∧ r.length ≤ l.length := by
    intro l
    induction l with
    | nil => intro m acc a r h; simp [unqL] at h
    | cons b t ih =>
      intro m acc a r h
      rw [unqL] at h
      split at h
      · split at h
        · injection h with h
          injection h with h1 h2
          subst h1; subst h2
          simp
        · split at h
          · have := ih true acc a r h; simp; omega
          · have := ih false (acc ++ [b]) a r h; simp at this; simp; omega
      · cases h
  unfold unqV
  split
  · simp
  · rename_i a r h
    have := key s false [] a r h
    simpa using this
theorem localV_le (s : List UInt8) : (localV s).1.length ≤ s.length ∧ (localV s).2.1.length ≤ s.length := by
  unfold localV
  split
  · have h := unqV_le (s.drop 1)
    have h1 : (cutP 64 (unqV (s.drop 1)).2.1).1.length ≤ (unqV (s.drop 1)).2.1.length := by unfold cutP; split <;> simp
    rw [List.length_drop] at h
    exact ⟨by show (unqV (s.drop 1)).1.length ≤ _; omega, by show (cutP 64 _).1.length ≤ _; omega⟩
  · exact ⟨pre_le 64 s, post_le 64 s⟩
theorem loc_q {s a r : List UInt8} {o : Bool} {w w' : World} (h : (s.head? == some 34) = true) (hu : unqV (s.drop 1) = (a, r, o)) (q : Bool) (hq : q = (o && (cutP 64 r).2 && a != [])) (hb : Below w.heap.size w w') :
    LocPost s w (.returned (.tuple #[.string (mkS a), .string (mkS (cutP 64 r).1), .bool q])) w' :=
  ⟨by rw [localV, if_pos h, hu, hq], hb⟩
theorem loc_a {s : List UInt8} {w w' : World} (h : (s.head? == some 34) = false) (q : Bool) (hq : q = (hasC 64 s && atoms (preC 64 s))) (hb : Below w.heap.size w w') :
    LocPost s w (.returned (.tuple #[.string (mkS (preC 64 s)), .string (mkS (postC 64 s)), .bool q])) w' :=
  ⟨by rw [localV, if_neg (by rw [h]; exact Bool.false_ne_true), hq], hb⟩
set_option maxHeartbeats 4000000 in
theorem local_x (l : List UInt8) (w : World) (hl : l.length ≤ 1000000000) : Calls Try.prog 27 #[.string (mkS l)] w (LocPost l w) := by
  by_cases h34 : l.head? = some 34
  · obtain ⟨t, rfl⟩ : ∃ t, l = 34 :: t := by
      cases l with
      | nil => simp at h34
      | cons b t => simp at h34; exact ⟨t, by rw [h34]⟩
    have hms : (mkS (34 :: t)).size = t.length + 1 := by rw [mkS_size]; rfl
    have hT := mkS_toList (34 :: t)
    have hx : (mkS (34 :: t))[0]'(by omega) = 34 := mkS_get (by omega) rfl
    have HX := Lib.hid (show (mkS (34 :: t)).extract 1 (t.length + 1) = mkS t by rw [mkS_extract]; simp)
    have HU := Lib.hid (fun w => unquoted_x t w (by simp at hl; omega))
    unfold UnqPost at HU
    have HF := Lib.hid (fun w' q hq hb => loc_q (s := 34 :: t) (w := w) (w' := w') (a := (unqV t).1) (r := (unqV t).2.1) (o := (unqV t).2.2) (by simp) (by simp) q hq hb)
    generalize (unqV t).1 = a at HU HF
    generalize (unqV t).2.1 = r at HU HF
    generalize (unqV t).2.2 = o at HU HF
    have HC := Lib.hid (fun w => cutp_x 64 r w)
    generalize (cutP 64 r).1 = b at HC HF
    generalize (cutP 64 r).2 = o2 at HC HF
    have hT2 := mkS_toList a
    have hae : a.isEmpty = (a == []) := by cases a <;> rfl
    have HAE := Lib.hid (show (a != []) = !(a == []) from rfl)
    rw [HAE.out] at HF
    generalize (a == []) = o3 at hae HF
    go_enter Try.func27, Try.ntmps27
    go_wp2_with fail
    rw [HX.out]
    refine (HU.out _).mono ?_
    rintro e w1 ⟨rfl, hb1⟩
    have HB1 := Lib.hid hb1
    clear hb1
    go_wp2_with fail
    refine (HC.out _).mono ?_
    rintro e w2 ⟨rfl, rfl⟩
    cases o <;> cases o2 <;> cases o3
    all_goals
      go_wp2_with fail
      go_ret3
      exact HF.out _ _ rfl HB1.out
  · have H34 := Lib.hid (show (l.head? == some 34) = false from beq_eq_false_iff_ne.2 h34)
    have hms := mkS_size l
    have hT := mkS_toList l
    have hpl := pre_le 64 l
    have HC := Lib.hid (fun w => cut_x 64 l w (by omega))
    have HA := Lib.hid (fun w => atoms_x (preC 64 l) w (by omega))
    have HF := Lib.hid (fun w' q hq hb => loc_a (s := l) (w := w) (w' := w') H34.out q hq hb)
    generalize preC 64 l = a at HC HA HF
    generalize postC 64 l = b at HC HF
    generalize hasC 64 l = o at HC HF
    generalize atoms a = qa at HA HF
    have back : ∀ n : Nat, Below w.heap.size w (w.drewN n) := fun n => below_drewN (Below.refl _ _) n
    have HBK := Lib.hid back
    clear back h34
    cases hc : l with
    | nil =>
      subst hc
      go_enter Try.func27, Try.ntmps27
      go_wp2_with fail
      refine (HC.out _).mono ?_
      rintro e w1 ⟨rfl, n, rfl⟩
      have HB := Lib.hid (HBK.out n)
      cases o
      · go_wp2_with fail
        go_ret3
        exact HF.out _ _ rfl HB.out
      · go_wp2_with fail
        refine (HA.out _).mono ?_
        rintro e w2 ⟨rfl, hb2⟩
        have HB2 := Lib.hid (below_next HB.out hb2)
        clear hb2
        go_wp2_with fail
        go_ret3
        exact HF.out _ _ rfl HB2.out
    | cons x t =>
      have hlen : l.length = t.length + 1 := by rw [hc]; rfl
      rw [hlen] at hms
      have hx : (mkS l)[0]'(by omega) = x := mkS_get (by omega) (by rw [hc]; rfl)
      have hx34 : ((x.toNat : Int) == 34) = false := by
        rw [byte_beq x 34 (by decide) 34 rfl]
        have := H34.out
        rw [hc] at this
        simpa using this
      have hem : l.isEmpty = false := by rw [hc]; rfl
      have hem2 : (l == []) = false := by rw [hc]; rfl
      rw [← hc]
      clear hc
      go_enter Try.func27, Try.ntmps27
      go_wp2_with fail
      refine (HC.out _).mono ?_
      rintro e w1 ⟨rfl, n, rfl⟩
      have HB := Lib.hid (HBK.out n)
      cases o
      · go_wp2_with fail
        go_ret3
        exact HF.out _ _ rfl HB.out
      · go_wp2_with fail
        refine (HA.out _).mono ?_
        rintro e w2 ⟨rfl, hb2⟩
        have HB2 := Lib.hid (below_next HB.out hb2)
        clear hb2
        go_wp2_with fail
        go_ret3
        exact HF.out _ _ rfl HB2.out
end Go.Proofs.Ytamjoleknjmpoaa
