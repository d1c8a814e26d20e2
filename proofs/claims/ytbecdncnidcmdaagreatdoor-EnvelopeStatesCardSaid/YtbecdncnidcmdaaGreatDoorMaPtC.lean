/-
  PtRead · PtParse, in one text.
-/
import Derived.Test.YtbecdncnidcmdaaGreatDoorMaPtB
/-
  The walks of path's readAlone, readLocal and of the closure that answers none.
-/
namespace Go.Proofs.YtbecdncnidcmdaaGreatDoor.P
set_option maxRecDepth 100000
open Go.RowKit
theorem noneP_x (n : Int) (w : World) : Calls Tryz.prog 307 #[.int .i64 n] w fun e w' => e = .returned (.tuple #[.agg #[.string { data := #[] }, .string { data := #[] }], .string { data := #[] }, .int .i64 n]) ∧ Below w.heap.size w w' := by
  go_enter Tryz.func307, Tryz.ntmps307
  go_wp2_with fail
  refine bodyPost_ret (v := .tuple #[.agg #[.string { data := #[] }, .string { data := #[] }], .string { data := #[] }, .int .i64 n]) (by simp [results, Tryz.results307, go_sem]) rfl ⟨rfl, ?_⟩
  first | exact below_box _ _ | exact (below_box _ _).setCell (Nat.le_refl _) _ | exact ((below_box _ _).setCell (Nat.le_refl _) _).setCell (Nat.le_refl _) _

/-- What readAlone answers. -/
def alV (s : List UInt8) : Pth × List UInt8 × Bool := match aloneV s with | some (p, r) => (p, r, true) | none => (([], []), [], false)
def AlPost (s : List UInt8) (w : World) (e : Ending) (w' : World) : Prop := e = .returned (.tuple #[.agg #[.string (mkS (alV s).1.1), .string (mkS (alV s).1.2)], .string (mkS (alV s).2.1), .bool (alV s).2.2]) ∧ Below w.heap.size w w'
theorem al_null {s : List UInt8} {w w' : World} (h1 : hasC 62 s = true) (h2 : preC 62 s = []) (hb : Below w.heap.size w w') :
    AlPost s w (.returned (.tuple #[.agg #[.string { data := #[] }, .string { data := #[] }], .string (mkS (postC 62 s)), .bool true])) w' := by
  have e : alV s = (([], []), postC 62 s, true) := by rw [alV, aloneV, if_pos h1, if_pos (by rw [h2]; rfl)]
  exact ⟨by rw [e]; rfl, hb⟩
theorem al_pm {s : List UInt8} {w w' : World} (h1 : hasC 62 s = true) (h2 : preC 62 s ≠ []) (h3 : (smallL (preC 62 s) == pmL) = true) (hb : Below w.heap.size w w') :
    AlPost s w (.returned (.tuple #[.agg #[.string { data := #[112, 111, 115, 116, 109, 97, 115, 116, 101, 114] }, .string { data := #[] }], .string (mkS (postC 62 s)), .bool true])) w' := by
  have e : alV s = ((pmL, []), postC 62 s, true) := by rw [alV, aloneV, if_pos h1, if_neg (by simpa using h2), if_pos h3]
  exact ⟨by rw [e]; rfl, hb⟩
theorem al_none {s : List UInt8} {w w' : World} (h : hasC 62 s = true → preC 62 s ≠ [] ∧ (smallL (preC 62 s) == pmL) = false) (hb : Below w.heap.size w w') :
    AlPost s w (.returned (.tuple #[.agg #[.string { data := #[] }, .string { data := #[] }], .string { data := #[] }, .bool false])) w' := by
  have e : alV s = (([], []), [], false) := by
    rw [alV, aloneV]
    split
    · rename_i heq
      split at heq
      · rename_i h1
        rw [if_neg (by simpa using (h h1).1), if_neg (by rw [(h h1).2]; exact Bool.false_ne_true)] at heq
        cases heq
      · cases heq
    · rfl
  exact ⟨by rw [e]; rfl, hb⟩
set_option maxRecDepth 100000 in
set_option maxHeartbeats 4000000 in
theorem alone_x (l : List UInt8) (w : World) (hl : l.length ≤ 1000000000000) : Calls Tryz.prog 308 #[.string (mkS l)] w (AlPost l w) := by
  have HC := Lib.hid (fun w => cut_x 62 l w (by omega))
  have HN := Lib.hid (fun w' h1 h2 hb => al_null (s := l) (w := w) (w' := w') h1 h2 hb)
  have HP := Lib.hid (fun w' h1 h2 h3 hb => al_pm (s := l) (w := w) (w' := w') h1 h2 h3 hb)
  have HX := Lib.hid (fun w' h hb => al_none (s := l) (w := w) (w' := w') h hb)
  have hpl := pre_le 62 l
  have HS := Lib.hid (fun w => small_x (preC 62 l) w (by omega))
  generalize preC 62 l = a at HC HN HP HX hpl HS
  generalize postC 62 l = b at HC HN HP
  generalize hasC 62 l = q at HC HN HP HX
  have hT1 := mkS_toList a
  have hT2 := mkS_toList (smallL a)
  have hr : ∀ n : Nat, ((w.alloc (.cells #[.string { data := #[] }, .string { data := #[] }] 45)).drewN n).heap[w.heap.size]? = some (.cells #[.string { data := #[] }, .string { data := #[] }] 45 (0, 0)) := fun n => newOf w _
  have hb0 : ∀ n : Nat, Below w.heap.size w ((w.alloc (.cells #[.string { data := #[] }, .string { data := #[] }] 45)).drewN n) := fun n => below_drewN (below_box w _) n
  have HR := Lib.hid (And.intro hr hb0)
  clear hr hb0
  go_enter Tryz.func308, Tryz.ntmps308
  go_wp2_with fail
  refine (HC.out _).mono ?_
  rintro e w1 ⟨rfl, n, rfl⟩
  obtain ⟨W1, hW1⟩ : ∃ W1, (w.alloc (.cells #[.string { data := #[] }, .string { data := #[] }] 45)).drewN n = W1 := ⟨_, rfl⟩
  have hr := HR.out.1 n
  have hb := HR.out.2 n
  rw [hW1] at hr hb ⊢
  have HB := Lib.hid hb
  have HRR := Lib.hid hr
  have d0 := cellOf hr 0
  have d1 := cellOf hr 1
  have f0 := freeOf hr 0
  have f1 := freeOf hr 1
  clear hr hb hW1
  cases q
  · go_wp2_with fail
    refine bodyPost_ret (v := .tuple #[.agg #[.string { data := #[] }, .string { data := #[] }], .string { data := #[] }, .bool false]) (by simp [results, Tryz.results308, go_sem, d0, d1]) rfl ?_
    exact HX.out _ (fun h => by cases h) ((HB.out.setCell (p := ⟨w.heap.size, 0, none⟩) (Nat.le_refl _) _).setCell (p := ⟨w.heap.size, 1, none⟩) (Nat.le_refl _) _)
  · by_cases ha : a = []
    · subst ha
      go_wp2_with fail
      refine bodyPost_ret (v := .tuple #[.agg #[.string { data := #[] }, .string { data := #[] }], .string (mkS b), .bool true]) (by simp [results, Tryz.results308, go_sem, d0, d1]) rfl ?_
      exact HN.out _ (by simp) (by simp) ((HB.out.setCell (p := ⟨w.heap.size, 0, none⟩) (Nat.le_refl _) _).setCell (p := ⟨w.heap.size, 1, none⟩) (Nat.le_refl _) _)
    · have hem : a.isEmpty = false := by cases a <;> simp_all
      have hem2 : (a == []) = false := beq_eq_false_iff_ne.2 ha
      have HA := Lib.hid ha
      have hpm : (smallL a == [112, 111, 115, 116, 109, 97, 115, 116, 101, 114]) = (smallL a == pmL) := rfl
      generalize hqm : (smallL a == pmL) = qm at hpm
      have HQM := Lib.hid hqm
      clear hqm ha
      go_wp2_with fail
      refine (HS.out _).mono ?_
      rintro e w2 ⟨rfl, hb2⟩
      have hrr := (hb2.block _ (ltOf HRR.out)).trans HRR.out
      have HB2 := Lib.hid (below_next HB.out hb2)
      clear d0 d1 f0 f1 hb2
      have d0 := cellOf hrr 0
      have d1 := cellOf hrr 1
      have f0 := freeOf hrr 0
      have f1 := freeOf hrr 1
      clear hrr
      cases qm
      · go_wp2_with fail
        refine bodyPost_ret (v := .tuple #[.agg #[.string { data := #[] }, .string { data := #[] }], .string { data := #[] }, .bool false]) (by simp [results, Tryz.results308, go_sem, d0, d1]) rfl ?_
        exact HX.out _ (fun _ => ⟨HA.out, HQM.out⟩) ((HB2.out.setCell (p := ⟨w.heap.size, 0, none⟩) (Nat.le_refl _) _).setCell (p := ⟨w.heap.size, 1, none⟩) (Nat.le_refl _) _)
      · go_wp2_with fail
        refine bodyPost_ret (v := .tuple #[.agg #[.string { data := #[112, 111, 115, 116, 109, 97, 115, 116, 101, 114] }, .string { data := #[] }], .string (mkS b), .bool true]) (by simp [results, Tryz.results308, go_sem, d0, d1]) rfl ?_
        exact HP.out _ (by simp) HA.out HQM.out ((HB2.out.setCell (p := ⟨w.heap.size, 0, none⟩) (Nat.le_refl _) _).setCell (p := ⟨w.heap.size, 1, none⟩) (Nat.le_refl _) _)

/-- What readLocal answers. -/
def LocPost (s : List UInt8) (w : World) (e : Ending) (w' : World) : Prop := e = .returned (.tuple #[.string (mkS (localV s).1), .string (mkS (localV s).2.1), .bool (localV s).2.2]) ∧ Below w.heap.size w w'
theorem unqV_le (s : List UInt8) : (unqV s).1.length ≤ s.length ∧ (unqV s).2.1.length ≤ s.length := by
  have key : ∀ (l : List UInt8) (m : Bool) (acc a r : List UInt8), unqL l m acc = some (a, r) → a.length ≤ acc.length + l.length ∧ r.length ≤ l.length := by
    intro l
    induction l with
    | nil => intro m acc a r h; simp [unqL] at h
    | cons b t ih =>
      intro m acc a r h
      rw [unqL] at h
      split at h
      · split at h
        · injection h with h
          injection h with h1 h2
          subst h1; subst h2
          simp
        · split at h
          · have := ih true acc a r h; simp; omega
          · have := ih false (acc ++ [b]) a r h; simp at this; simp; omega
      · cases h
  unfold unqV
  split
  · simp
  · rename_i a r h
    have := key s false [] a r h
    simpa using this
theorem localV_le (s : List UInt8) : (localV s).1.length ≤ s.length ∧ (localV s).2.1.length ≤ s.length := by
  unfold localV
  split
  · have h := unqV_le (s.drop 1)
    have h1 : (cutP 64 (unqV (s.drop 1)).2.1).1.length ≤ (unqV (s.drop 1)).2.1.length := by unfold cutP; split <;> simp
    rw [List.length_drop] at h
    exact ⟨by show (unqV (s.drop 1)).1.length ≤ _; omega, by show (cutP 64 _).1.length ≤ _; omega⟩
  · exact ⟨pre_le 64 s, post_le 64 s⟩
theorem loc_q {s a r : List UInt8} {o : Bool} {w w' : World} (h : (s.head? == some 34) = true) (hu : unqV (s.drop 1) = (a, r, o)) (q : Bool) (hq : q = (o && (cutP 64 r).2 && a != [])) (hb : Below w.heap.size w w') :
    LocPost s w (.returned (.tuple #[.string (mkS a), .string (mkS (cutP 64 r).1), .bool q])) w' :=
  ⟨by rw [localV, if_pos h, hu, hq], hb⟩
theorem loc_a {s : List UInt8} {w w' : World} (h : (s.head? == some 34) = false) (q : Bool) (hq : q = (hasC 64 s && atoms (preC 64 s))) (hb : Below w.heap.size w w') :
    LocPost s w (.returned (.tuple #[.string (mkS (preC 64 s)), .string (mkS (postC 64 s)), .bool q])) w' :=
  ⟨by rw [localV, if_neg (by rw [h]; exact Bool.false_ne_true), hq], hb⟩
set_option maxRecDepth 100000 in
set_option maxHeartbeats 4000000 in
theorem local_x (l : List UInt8) (w : World) (hl : l.length ≤ 1000000000) : Calls Tryz.prog 309 #[.string (mkS l)] w (LocPost l w) := by
  by_cases h34 : l.head? = some 34
  · obtain ⟨t, rfl⟩ : ∃ t, l = 34 :: t := by
      cases l with
      | nil => simp at h34
      | cons b t => simp at h34; exact ⟨t, by rw [h34]⟩
    have hms : (mkS (34 :: t)).size = t.length + 1 := by rw [mkS_size]; rfl
    have hT := mkS_toList (34 :: t)
    have hx : (mkS (34 :: t))[0]'(by omega) = 34 := mkS_get (by omega) rfl
    have HX := Lib.hid (show (mkS (34 :: t)).extract 1 (t.length + 1) = mkS t by rw [mkS_extract]; simp)
    have HU := Lib.hid (fun w => unquoted_x t w (by simp at hl; omega))
    unfold UnqPost at HU
    have HF := Lib.hid (fun w' q hq hb => loc_q (s := 34 :: t) (w := w) (w' := w') (a := (unqV t).1) (r := (unqV t).2.1) (o := (unqV t).2.2) (by simp) (by simp) q hq hb)
    generalize (unqV t).1 = a at HU HF
    generalize (unqV t).2.1 = r at HU HF
    generalize (unqV t).2.2 = o at HU HF
    have HC := Lib.hid (fun w => cutp_x 64 r w)
    generalize (cutP 64 r).1 = b at HC HF
    generalize (cutP 64 r).2 = o2 at HC HF
    have hT2 := mkS_toList a
    have hae : a.isEmpty = (a == []) := by cases a <;> rfl
    have HAE := Lib.hid (show (a != []) = !(a == []) from rfl)
    rw [HAE.out] at HF
    generalize (a == []) = o3 at hae HF
    go_enter Tryz.func309, Tryz.ntmps309
    go_wp2_with fail
    rw [HX.out]
    refine (HU.out _).mono ?_
    rintro e w1 ⟨rfl, hb1⟩
    have HB1 := Lib.hid hb1
    clear hb1
    go_wp2_with fail
    refine (HC.out _).mono ?_
    rintro e w2 ⟨rfl, rfl⟩
    cases o <;> cases o2 <;> cases o3
    all_goals
      go_wp2_with fail
      go_ret3
      exact HF.out _ _ rfl HB1.out
  · have H34 := Lib.hid (show (l.head? == some 34) = false from beq_eq_false_iff_ne.2 h34)
    have hms := mkS_size l
    have hT := mkS_toList l
    have hpl := pre_le 64 l
    have HC := Lib.hid (fun w => cut_x 64 l w (by omega))
    have HA := Lib.hid (fun w => atoms_x (preC 64 l) w (by omega))
    have HF := Lib.hid (fun w' q hq hb => loc_a (s := l) (w := w) (w' := w') H34.out q hq hb)
    generalize preC 64 l = a at HC HA HF
    generalize postC 64 l = b at HC HF
    generalize hasC 64 l = o at HC HF
    generalize atoms a = qa at HA HF
    have back : ∀ n : Nat, Below w.heap.size w (w.drewN n) := fun n => below_drewN (Below.refl _ _) n
    have HBK := Lib.hid back
    clear back h34
    cases hc : l with
    | nil =>
      subst hc
      go_enter Tryz.func309, Tryz.ntmps309
      go_wp2_with fail
      refine (HC.out _).mono ?_
      rintro e w1 ⟨rfl, n, rfl⟩
      have HB := Lib.hid (HBK.out n)
      cases o
      · go_wp2_with fail
        go_ret3
        exact HF.out _ _ rfl HB.out
      · go_wp2_with fail
        refine (HA.out _).mono ?_
        rintro e w2 ⟨rfl, hb2⟩
        have HB2 := Lib.hid (below_next HB.out hb2)
        clear hb2
        go_wp2_with fail
        go_ret3
        exact HF.out _ _ rfl HB2.out
    | cons x t =>
      have hlen : l.length = t.length + 1 := by rw [hc]; rfl
      rw [hlen] at hms
      have hx : (mkS l)[0]'(by omega) = x := mkS_get (by omega) (by rw [hc]; rfl)
      have hx34 : ((x.toNat : Int) == 34) = false := by
        rw [byte_beq x 34 (by decide) 34 rfl]
        have := H34.out
        rw [hc] at this
        simpa using this
      have hem : l.isEmpty = false := by rw [hc]; rfl
      have hem2 : (l == []) = false := by rw [hc]; rfl
      rw [← hc]
      clear hc
      go_enter Tryz.func309, Tryz.ntmps309
      go_wp2_with fail
      refine (HC.out _).mono ?_
      rintro e w1 ⟨rfl, n, rfl⟩
      have HB := Lib.hid (HBK.out n)
      cases o
      · go_wp2_with fail
        go_ret3
        exact HF.out _ _ rfl HB.out
      · go_wp2_with fail
        refine (HA.out _).mono ?_
        rintro e w2 ⟨rfl, hb2⟩
        have HB2 := Lib.hid (below_next HB.out hb2)
        clear hb2
        go_wp2_with fail
        go_ret3
        exact HF.out _ _ rfl HB2.out
end Go.Proofs.YtbecdncnidcmdaaGreatDoor.P
/-
  The walk of path's Parse.
-/
namespace Go.Proofs.YtbecdncnidcmdaaGreatDoor.P
set_option maxRecDepth 100000
open Go.RowKit
/-- What Parse answers. -/
def PaPost (s : List UInt8) (w : World) (e : Ending) (w' : World) : Prop := e = .returned (.tuple #[.agg #[.string (mkS (parseV s).1.1), .string (mkS (parseV s).1.2)], .string (mkS (parseV s).2.1), .int .i64 (parseV s).2.2]) ∧ Below w.heap.size w w'
theorem pa_no {s : List UInt8} {w w' : World} {n : Int} (h : parseV s = (([], []), [], n)) (hb : Below w.heap.size w w') :
    PaPost s w (.returned (.tuple #[.agg #[.string { data := #[] }, .string { data := #[] }], .string { data := #[] }, .int .i64 n])) w' := ⟨by rw [h]; rfl, hb⟩
theorem pa_yes {s : List UInt8} {w w' : World} {p : Pth} {r : List UInt8} (h : parseV s = (p, r, 0)) (hb : Below w.heap.size w w') :
    PaPost s w (.returned (.tuple #[.agg #[.string (mkS p.1), .string (mkS p.2)], .string (mkS r), .int .i64 0])) w' := ⟨by rw [h], hb⟩
theorem parse_alone {t : List UInt8} (h : (alV t).2.2 = true) : parseV (60 :: t) = ((alV t).1, (alV t).2.1, 0) := by
  unfold alV at h ⊢
  rw [parseV, if_pos (by simp), List.drop_succ_cons, List.drop_zero]
  split
  · rename_i p r he
    rw [he]
  · rename_i he
    rw [he] at h
    cases h
theorem parse_more {t : List UInt8} (h : (alV t).2.2 = false) : parseV (60 :: t) = endV (localV t).1 (localV t).2.1 (localV t).2.2 := by
  unfold alV at h
  rw [parseV, if_pos (by simp), List.drop_succ_cons, List.drop_zero]
  split
  · rename_i p r he
    rw [he] at h
    cases h
  · rfl
/-- A path in its box, and the box of what is answered. -/
structure TB (W : World) (g : Nat) (p : Pth) (w : World) : Prop where
  res : w.heap[W.heap.size]? = some (.cells #[.string { data := #[] }, .string { data := #[] }] 45 (0, 0))
  box : w.heap[g]? = some (.cells #[.string (mkS p.1), .string (mkS p.2)] 45 (0, 0))
  below : Below W.heap.size W w
theorem TB.next {W w w' : World} {g : Nat} {p : Pth} (h : TB W g p w) (hb : Below w.heap.size w w') : TB W g p w' := ⟨(hb.block _ (ltOf h.res)).trans h.res, (hb.block _ (ltOf h.box)).trans h.box, below_next h.below hb⟩
theorem TB.drew {W w : World} {g : Nat} {p : Pth} (h : TB W g p w) : TB W g p w.drew := ⟨h.res, h.box, ⟨h.below.os, h.below.tape, h.below.output, h.below.size, h.below.block⟩⟩
/-- The cells of both. -/
def TC (W : World) (g : Nat) (p : Pth) (w : World) : Prop :=
  w.cell? ⟨g, 0, none⟩ = some (.string (mkS p.1)) ∧ w.cell? ⟨g, 1, none⟩ = some (.string (mkS p.2)) ∧ w.cell? ⟨W.heap.size, 0, none⟩ = some (.string { data := #[] }) ∧ w.cell? ⟨W.heap.size, 1, none⟩ = some (.string { data := #[] }) ∧ w.frozen? ⟨W.heap.size, 0, none⟩ = false ∧ w.frozen? ⟨W.heap.size, 1, none⟩ = false ∧ Hid (TB W g p w)
theorem TB.cells {W w : World} {g : Nat} {p : Pth} (h : TB W g p w) : TC W g p w := ⟨cellOf h.box 0, cellOf h.box 1, cellOf h.res 0, cellOf h.res 1, freeOf h.res 0, freeOf h.res 1, h⟩
theorem TB.call {W w : World} {g : Nat} {p : Pth} (h : Hid (TB W g p w)) {f : FuncId} {args : Array Value} {v : Value} (H : Calls Tryz.prog f args w fun e w' => e = .returned v ∧ Below w.heap.size w w') :
    Calls Tryz.prog f args w fun e w' => e = .returned v ∧ TC W g p w' := H.mono fun _ _ ⟨he, hb⟩ => ⟨he, (h.out.next hb).cells⟩
/-- The box of what is answered alone. -/
structure RB (W w : World) : Prop where
  res : w.heap[W.heap.size]? = some (.cells #[.string { data := #[] }, .string { data := #[] }] 45 (0, 0))
  below : Below W.heap.size W w
theorem RB.next {W w w' : World} (h : RB W w) (hb : Below w.heap.size w w') : RB W w' := ⟨(hb.block _ (ltOf h.res)).trans h.res, below_next h.below hb⟩
theorem RB.drewN {W w : World} (h : RB W w) (n : Nat) : RB W (w.drewN n) := ⟨h.res, below_drewN h.below n⟩
theorem RB.new (w : World) : RB w (w.alloc (.cells #[.string { data := #[] }, .string { data := #[] }] 45)) := ⟨newOf w _, below_box w _⟩
theorem RB.tb {W w : World} (h : RB W w) (p : Pth) : TB W w.heap.size p (w.alloc (.cells #[.string (mkS p.1), .string (mkS p.2)] 45)) :=
  ⟨(((below_box w _).block _ (ltOf h.res)).trans h.res), newOf w _, h.below.alloc h.below.size _⟩
theorem RB.set {W w : World} (h : RB W w) (u v : Value) : Below W.heap.size W ((w.setCell ⟨W.heap.size, 0, none⟩ u).setCell ⟨W.heap.size, 1, none⟩ v) :=
  (h.below.setCell (p := ⟨W.heap.size, 0, none⟩) (Nat.le_refl _) _).setCell (p := ⟨W.heap.size, 1, none⟩) (Nat.le_refl _) _
theorem TB.set {W w : World} {g : Nat} {p : Pth} (h : TB W g p w) (u v : Value) : Below W.heap.size W ((w.setCell ⟨W.heap.size, 0, none⟩ u).setCell ⟨W.heap.size, 1, none⟩ v) :=
  (h.below.setCell (p := ⟨W.heap.size, 0, none⟩) (Nat.le_refl _) _).setCell (p := ⟨W.heap.size, 1, none⟩) (Nat.le_refl _) _
theorem keep1 {W w : World} {g : Nat} {p : Pth} (h : TB W g p w) : w.cell? ⟨g, 0, none⟩ = some (.string (mkS p.1)) ∧ w.cell? ⟨g, 1, none⟩ = some (.string (mkS p.2)) := ⟨cellOf h.box 0, cellOf h.box 1⟩
theorem keep2 {w : World} {r g : Nat} {a b : Value} (hne : g ≠ r) (u v : Value) (c0 : w.cell? ⟨g, 0, none⟩ = some a) (c1 : w.cell? ⟨g, 1, none⟩ = some b) :
    ((w.setCell ⟨r, 0, none⟩ u).setCell ⟨r, 1, none⟩ v).cell? ⟨g, 0, none⟩ = some a ∧ ((w.setCell ⟨r, 0, none⟩ u).setCell ⟨r, 1, none⟩ v).cell? ⟨g, 1, none⟩ = some b := by
  have e : ((w.setCell ⟨r, 0, none⟩ u).setCell ⟨r, 1, none⟩ v).heap[g]? = w.heap[g]? := (Below.heap_setCell _ ⟨r, 1, none⟩ v g hne).trans (Below.heap_setCell w ⟨r, 0, none⟩ u g hne)
  simp only [World.cell?] at c0 c1 ⊢
  rw [e]
  exact ⟨c0, c1⟩
theorem keep3 {w : World} {g : Nat} {p : Pth} {a b : List UInt8} (h1 : p.1 = a) (h2 : p.2 = b) (h : w.cell? ⟨g, 0, none⟩ = some (.string (mkS p.1)) ∧ w.cell? ⟨g, 1, none⟩ = some (.string (mkS p.2))) : w.cell? ⟨g, 0, none⟩ = some (.string (mkS a)) ∧ w.cell? ⟨g, 1, none⟩ = some (.string (mkS b)) := by
  rw [← h1, ← h2]; exact h
set_option maxRecDepth 100000 in
set_option maxHeartbeats 4000000 in
theorem parse_no (l : List UInt8) (w : World) (h : l.head? ≠ some 60) : Calls Tryz.prog 275 #[.string (mkS l)] w (PaPost l w) := by
  have HC := Lib.hid (fun w => cutp_x 60 l w)
  rw [show cutP 60 l = (l, false) by rw [cutP, if_neg (by simpa using h)]] at HC
  have HV := Lib.hid (show parseV l = (([], []), [], 2) by rw [parseV, if_neg (by simpa using h)])
  have HN := Lib.hid (fun n w => noneP_x n w)
  have HR := Lib.hid (RB.new w)
  clear h
  go_enter Tryz.func275, Tryz.ntmps275
  go_wp2_with fail
  refine (HC.out _).mono ?_
  rintro e w1 ⟨rfl, rfl⟩
  go_wp2_with fail
  refine (HN.out _ _).mono ?_
  rintro e w2 ⟨rfl, hb⟩
  have HR2 := Lib.hid (HR.out.next hb)
  clear hb
  have d0 := cellOf HR2.out.res 0
  have d1 := cellOf HR2.out.res 1
  have f0 := freeOf HR2.out.res 0
  have f1 := freeOf HR2.out.res 1
  go_wp2_with fail
  refine bodyPost_ret (v := .tuple #[.agg #[.string { data := #[] }, .string { data := #[] }], .string { data := #[] }, .int .i64 2]) (by simp [results, Tryz.results275, go_sem, d0, d1]) rfl ?_
  exact pa_no HV.out (HR2.out.set _ _)
set_option maxRecDepth 100000 in
set_option maxHeartbeats 4000000 in
theorem parse_al (t : List UInt8) (w : World) (hl : t.length ≤ 100000000) (h : (alV t).2.2 = true) : Calls Tryz.prog 275 #[.string (mkS (60 :: t))] w (PaPost (60 :: t) w) := by
  have HC := Lib.hid (fun w => cutp_x 60 (60 :: t) w)
  rw [show cutP 60 (60 :: t) = (t, true) by simp [cutP]] at HC
  have hal : (alV t).2.1.length ≤ t.length := by
    unfold alV aloneV
    have := post_le 62 t
    split
    · rename_i p r he
      split at he
      · split at he
        · injection he with he; injection he with _ he; subst he; exact this
        · split at he
          · injection he with he; injection he with _ he; subst he; exact this
          · cases he
      · cases he
    · simp
  have HA := Lib.hid (fun w => alone_x t w (by omega))
  have HV := Lib.hid (parse_alone h)
  unfold AlPost at HA
  rw [h] at HA
  have HL := Lib.hid (fun w => clone_x (alV t).2.1 w (by omega))
  generalize (alV t).1 = p at HA HV
  generalize (alV t).2.1 = r at HA HV HL
  have HR := Lib.hid (RB.new w)
  clear h hal
  go_enter Tryz.func275, Tryz.ntmps275
  go_wp2_with fail
  refine (HC.out _).mono ?_
  rintro e w1 ⟨rfl, rfl⟩
  go_wp2_with fail
  refine (HA.out _).mono ?_
  rintro e w2 ⟨rfl, hb⟩
  have HT := Lib.hid ((HR.out.next hb).tb p)
  have HNE := Lib.hid (show w2.heap.size ≠ w.heap.size by have := (HR.out.next hb).res; have := ltOf this; omega)
  clear hb
  go_wp2_with fail
  first | (go_region_held3 (fun wr => wr.cell? ⟨w2.heap.size, 0, none⟩ = some (.string (mkS p.1)) ∧ wr.cell? ⟨w2.heap.size, 1, none⟩ = some (.string (mkS p.2)))
    (first | exact keep1 HT.out.drew | exact keep1 HT.out | exact ⟨by assumption, by assumption⟩ | exact keep2 HNE.out _ _ (by assumption) (by assumption))
    (first
      | (go_at_call 45; (with_reducible refine (TB.call (W := w) (g := w2.heap.size) (p := p) ?_ (HL.out _)).mono ?_); (first | exact Lib.hid HT.out.drew | exact HT); rintro e w3 ⟨rfl, g0, g1, g2, g3, g4, g5, g6⟩)))
  all_goals
    have HF := Lib.hid (g6.out.set (.string (mkS p.1)) (.string (mkS p.2)))
    clear g0 g1 g4 g5 g6
    go_wp2_with fail
    refine bodyPost_ret (v := .tuple #[.agg #[.string (mkS p.1), .string (mkS p.2)], .string (mkS r), .int .i64 0]) (by simp [results, Tryz.results275, go_sem, g2, g3]) rfl ?_
    exact pa_yes HV.out HF.out
set_option maxRecDepth 100000 in
set_option maxHeartbeats 8000000 in
theorem parse_mo (t : List UInt8) (w : World) (hl : t.length ≤ 100000000) (h : (alV t).2.2 = false) : Calls Tryz.prog 275 #[.string (mkS (60 :: t))] w (PaPost (60 :: t) w) := by
  have HC := Lib.hid (fun w => cutp_x 60 (60 :: t) w)
  rw [show cutP 60 (60 :: t) = (t, true) by simp [cutP]] at HC
  have HA := Lib.hid (fun w => alone_x t w (by omega))
  have HV := Lib.hid (parse_more h)
  unfold AlPost at HA
  rw [h] at HA
  have HLO := Lib.hid (fun w => local_x t w (by omega))
  unfold LocPost at HLO
  obtain ⟨hl1, hl2⟩ := localV_le t
  generalize (localV t).1 = loc at HLO HV hl1
  generalize (localV t).2.1 = beh at HLO HV hl2
  generalize (localV t).2.2 = isl at HLO HV
  have HK := Lib.hid (fun w => cut_x 62 beh w (by omega))
  have hd1 := pre_le 62 beh
  have hd2 := post_le 62 beh
  have HE := Lib.hid (show endV loc beh isl = if isl && hasC 62 beh && labels (preC 62 beh) then (if longB (loc, smallL (preC 62 beh)) then (([], []), [], 3) else ((loc, smallL (preC 62 beh)), postC 62 beh, 0)) else (([], []), [], 2) from rfl)
  have HLB := Lib.hid (fun w => labels_x (preC 62 beh) w (by omega))
  have HCL := Lib.hid (fun w => clone_x loc w (by omega))
  have HSM := Lib.hid (fun w => small_x (preC 62 beh) w (by omega))
  have HLG := Lib.hid (fun w => long_x (loc, smallL (preC 62 beh)) w)
  have HCR := Lib.hid (fun w => clone_x (postC 62 beh) w (by omega))
  generalize preC 62 beh = dom at HK HE HLB HSM HLG
  generalize postC 62 beh = rest at HK HE HCR
  generalize hasC 62 beh = q2 at HK HE
  generalize labels dom = q3 at HE HLB
  generalize smallL dom = sm at HE HSM HLG
  obtain ⟨p, hp⟩ : ∃ p, (loc, sm) = p := ⟨_, rfl⟩
  have HP1 := Lib.hid (show p.1 = loc by rw [← hp])
  have HP2 := Lib.hid (show p.2 = sm by rw [← hp])
  rw [hp] at HE HLG
  rw [HP1.out, HP2.out] at HLG
  generalize longB p = q4 at HE HLG
  have HN := Lib.hid (fun n w => noneP_x n w)
  have HR := Lib.hid (RB.new w)
  clear h hl1 hl2 hd1 hd2 hp
  go_enter Tryz.func275, Tryz.ntmps275
  go_wp2_with fail
  refine (HC.out _).mono ?_
  rintro e w1 ⟨rfl, rfl⟩
  go_wp2_with fail
  refine (HA.out _).mono ?_
  rintro e w2 ⟨rfl, hb⟩
  have HR2 := Lib.hid ((HR.out.next hb).next (below_box _ (.cells #[.string (mkS (alV t).1.1), .string (mkS (alV t).1.2)] 45)))
  clear hb
  generalize mkS (alV t).1.1 = u1 at HR2 ⊢
  generalize mkS (alV t).1.2 = u2 at HR2 ⊢
  go_wp2_with fail
  refine (HLO.out _).mono ?_
  rintro e w3 ⟨rfl, hb⟩
  have HR3 := Lib.hid (HR2.out.next hb)
  clear hb
  go_wp2_with fail
  refine (HK.out _).mono ?_
  rintro e w4 ⟨rfl, n, rfl⟩
  have HR4 := Lib.hid (HR3.out.drewN n)
  have d0 := cellOf HR4.out.res 0
  have d1 := cellOf HR4.out.res 1
  have f0 := freeOf HR4.out.res 0
  have f1 := freeOf HR4.out.res 1
  cases isl
  · go_wp2_with fail
    refine (HN.out _ _).mono ?_
    rintro e w5 ⟨rfl, hb⟩
    have HR5 := Lib.hid (HR4.out.next hb)
    clear hb d0 d1 f0 f1
    have d0 := cellOf HR5.out.res 0
    have d1 := cellOf HR5.out.res 1
    have f0 := freeOf HR5.out.res 0
    have f1 := freeOf HR5.out.res 1
    go_wp2_with fail
    refine bodyPost_ret (v := .tuple #[.agg #[.string { data := #[] }, .string { data := #[] }], .string { data := #[] }, .int .i64 2]) (by simp [results, Tryz.results275, go_sem, d0, d1]) rfl ?_
    exact pa_no (by rw [HV.out, HE.out]; rfl) (HR5.out.set _ _)
  cases q2
  · go_wp2_with fail
    refine (HN.out _ _).mono ?_
    rintro e w5 ⟨rfl, hb⟩
    have HR5 := Lib.hid (HR4.out.next hb)
    clear hb d0 d1 f0 f1
    have d0 := cellOf HR5.out.res 0
    have d1 := cellOf HR5.out.res 1
    have f0 := freeOf HR5.out.res 0
    have f1 := freeOf HR5.out.res 1
    go_wp2_with fail
    refine bodyPost_ret (v := .tuple #[.agg #[.string { data := #[] }, .string { data := #[] }], .string { data := #[] }, .int .i64 2]) (by simp [results, Tryz.results275, go_sem, d0, d1]) rfl ?_
    exact pa_no (by rw [HV.out, HE.out]; rfl) (HR5.out.set _ _)
  go_wp2_with fail
  refine (HLB.out _).mono ?_
  rintro e w6 ⟨rfl, hb⟩
  have HR6 := Lib.hid (HR4.out.next hb)
  clear hb d0 d1 f0 f1
  have d0 := cellOf HR6.out.res 0
  have d1 := cellOf HR6.out.res 1
  have f0 := freeOf HR6.out.res 0
  have f1 := freeOf HR6.out.res 1
  cases q3
  · go_wp2_with fail
    refine (HN.out _ _).mono ?_
    rintro e w5 ⟨rfl, hb⟩
    have HR5 := Lib.hid (HR6.out.next hb)
    clear hb d0 d1 f0 f1
    have d0 := cellOf HR5.out.res 0
    have d1 := cellOf HR5.out.res 1
    have f0 := freeOf HR5.out.res 0
    have f1 := freeOf HR5.out.res 1
    go_wp2_with fail
    refine bodyPost_ret (v := .tuple #[.agg #[.string { data := #[] }, .string { data := #[] }], .string { data := #[] }, .int .i64 2]) (by simp [results, Tryz.results275, go_sem, d0, d1]) rfl ?_
    exact pa_no (by rw [HV.out, HE.out]; rfl) (HR5.out.set _ _)
  go_wp2_with fail
  refine (HCL.out _).mono ?_
  rintro e w7 ⟨rfl, hb⟩
  have HR7 := Lib.hid (HR6.out.next hb)
  clear hb d0 d1 f0 f1
  go_wp2_with fail
  refine (HSM.out _).mono ?_
  rintro e w8 ⟨rfl, hb⟩
  have HR8 := Lib.hid (HR7.out.next hb)
  clear hb
  have ht := HR8.out.tb p
  have HNE := Lib.hid (show w8.heap.size ≠ w.heap.size by have := ltOf HR8.out.res; omega)
  rw [HP1.out, HP2.out] at ht
  have HT := Lib.hid ht
  clear ht
  go_wp2_with fail
  refine (HLG.out _).mono ?_
  rintro e w9 ⟨rfl, hb⟩
  have HT9 := Lib.hid (HT.out.next hb)
  have HR9 := Lib.hid (show RB w w9 from ⟨HT9.out.res, HT9.out.below⟩)
  clear hb
  have d0 := cellOf HR9.out.res 0
  have d1 := cellOf HR9.out.res 1
  have f0 := freeOf HR9.out.res 0
  have f1 := freeOf HR9.out.res 1
  cases q4
  · have k0 := (keep1 HT9.out).1
    have k1 := (keep1 HT9.out).2
    rw [HP1.out] at k0
    rw [HP2.out] at k1
    go_wp2_with fail
    first | (go_region_held3 (fun wr => wr.cell? ⟨w8.heap.size, 0, none⟩ = some (.string (mkS loc)) ∧ wr.cell? ⟨w8.heap.size, 1, none⟩ = some (.string (mkS sm)))
      (first | exact keep3 HP1.out HP2.out (keep1 HT9.out.drew) | exact keep3 HP1.out HP2.out (keep1 HT9.out) | exact ⟨by assumption, by assumption⟩ | exact keep2 HNE.out _ _ (by assumption) (by assumption))
      (first
        | (go_at_call 45; (with_reducible refine (TB.call (W := w) (g := w8.heap.size) (p := p) ?_ (HCR.out _)).mono ?_); (first | exact Lib.hid HT9.out.drew | exact HT9); rintro e wA ⟨rfl, g0, g1, g2, g3, g4, g5, g6⟩; rw [HP1.out] at g0; rw [HP2.out] at g1)))
    all_goals
      have HF := Lib.hid (g6.out.set (.string (mkS loc)) (.string (mkS sm)))
      clear g0 g1 g4 g5 g6 d0 d1 f0 f1 k0 k1
      go_wp2_with fail
      refine bodyPost_ret (v := .tuple #[.agg #[.string (mkS loc), .string (mkS sm)], .string (mkS rest), .int .i64 0]) (by simp [results, Tryz.results275, go_sem, g2, g3]) rfl ?_
      rw [← HP1.out, ← HP2.out]
      exact pa_yes (by rw [HV.out, HE.out]; rfl) (by rw [HP1.out, HP2.out]; exact HF.out)
  · go_wp2_with fail
    refine (HN.out _ _).mono ?_
    rintro e w5 ⟨rfl, hb⟩
    have HR5 := Lib.hid (HR9.out.next hb)
    clear hb d0 d1 f0 f1
    have d0 := cellOf HR5.out.res 0
    have d1 := cellOf HR5.out.res 1
    have f0 := freeOf HR5.out.res 0
    have f1 := freeOf HR5.out.res 1
    go_wp2_with fail
    refine bodyPost_ret (v := .tuple #[.agg #[.string { data := #[] }, .string { data := #[] }], .string { data := #[] }, .int .i64 3]) (by simp [results, Tryz.results275, go_sem, d0, d1]) rfl ?_
    exact pa_no (by rw [HV.out, HE.out]; rfl) (HR5.out.set _ _)
theorem parse_x (l : List UInt8) (w : World) (hl : l.length ≤ 100000000) : Calls Tryz.prog 275 #[.string (mkS l)] w (PaPost l w) := by
  by_cases h : l.head? = some 60
  · obtain ⟨t, rfl⟩ : ∃ t, l = 60 :: t := by
      cases l with
      | nil => simp at h
      | cons b t => simp at h; exact ⟨t, by rw [h]⟩
    have hlt : t.length ≤ 100000000 := by simp at hl; omega
    cases ha : (alV t).2.2
    · exact parse_mo t w hlt ha
    · exact parse_al t w hlt ha
  · exact parse_no l w h
end Go.Proofs.YtbecdncnidcmdaaGreatDoor.P
