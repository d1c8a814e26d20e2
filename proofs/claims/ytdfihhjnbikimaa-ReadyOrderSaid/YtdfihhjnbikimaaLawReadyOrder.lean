/-
  The walk of the law ReadyOrder.
-/
import Derived.Test.YtdfihhjnbikimaaRdTaken
import Derived.RegionTactic
namespace Go.Proofs.Ytdfihhjnbikimaa
set_option maxRecDepth 100000
open Go.RowKit
/-- Who is there, each with the place of the row that brought it. -/
structure OT (T : List (Wt × Int)) (k : Nat) (g : Int) (S : Rq) : Prop where
  age : S.age = g
  lim : S.lim = 64
  n : S.n ≤ k
  F : S.F = []
  L : S.L = T.map Prod.fst
  up : T.Pairwise fun a b => a.2 < b.2
  lt : ∀ t ∈ T, t.2 < k
def byL (T : List (Wt × Int)) : List (Int × Value) := T.map fun t => (t.1.1.id, agE t.1.1)
def atL (T : List (Wt × Int)) : List (Int × Value) := T.map fun t => (t.1.1.id, Value.int .i64 t.2)
theorem OT.next {T : List (Wt × Int)} {k : Nat} {g : Int} {S : Rq} (h : OT T k g S) : OT T (k + 1) g S :=
  ⟨h.age, h.lim, by have := h.n; omega, h.F, h.L, h.up, fun t ht => by have := h.lt t ht; omega⟩
theorem OT.put {T : List (Wt × Int)} {k : Nat} {g : Int} {S : Rq} (h : OT T k g S) {x : Et} (hp : putE S x = 0) : OT (T ++ [((x, S.n + 1), (k : Int))]) (k + 1) g (putQ S x) := by
  unfold putQ
  rw [if_pos hp]
  refine ⟨h.age, h.lim, by have := h.n; show S.n + 1 ≤ _; omega, h.F, ?_, ?_, fun t ht => ?_⟩
  · show S.L ++ [(x, S.n + 1)] = _
    rw [h.L, List.map_append]; rfl
  · refine List.pairwise_append.2 ⟨h.up, by simp, fun a ha b hb => ?_⟩
    rw [List.mem_singleton.1 hb]
    exact h.lt a ha
  · rcases List.mem_append.1 ht with ht | ht
    · have := h.lt t ht; omega
    · rw [List.mem_singleton.1 ht]; show (k : Int) < _; omega
theorem OT.start (g : Int) : OT [] 0 g (newS g 64 4096) := ⟨rfl, rfl, Int.le_refl _, rfl, rfl, List.Pairwise.nil, fun _ ht => (List.not_mem_nil ht).elim⟩
/-- No number of who is there is that of one who was put just now. -/
theorem put_new {S : Rq} {x : Et} (h : putE S x = 0) : ∀ y ∈ S.L, y.1.id ≠ x.id := fun y hy e => by
  unfold putE at h
  split at h
  · omega
  · split at h
    · omega
    · rename_i k
      rw [Bool.or_eq_true, not_or] at k
      exact k.2 (List.any_eq_true.2 ⟨y, hy, by simpa using e⟩)
theorem filt_new {T : List (Wt × Int)} {S : Rq} {k : Nat} {g : Int} (h : OT T k g S) {x : Et} (hp : putE S x = 0) (f : Wt × Int → Value) : ((T.map fun t => (t.1.1.id, f t)).filter fun p => p.1 != x.id) = T.map fun t => (t.1.1.id, f t) := by
  rw [List.filter_eq_self]
  intro p hp'
  obtain ⟨t, ht, rfl⟩ := List.mem_map.1 hp'
  have := put_new hp t.1 (by rw [h.L]; exact List.mem_map.2 ⟨t, ht, rfl⟩)
  simpa using this
theorem app_perm {T : List (Wt × Int)} (t : Wt × Int) (f : Wt × Int → Int × Value) : (f t :: T.map f).Perm ((T ++ [t]).map f) := by
  rw [List.map_append]
  exact (List.perm_append_singleton (f t) (T.map f)).symm
/-- A queue and the law's two maps. -/
structure OL (W : World) (O : Nat → Prop) (b m1 m2 : Nat) (T : List (Wt × Int)) (k : Nat) (g : Int) (S : Rq) (w : World) : Prop where
  q : HQ W O b S w
  by_ : JAt w m1 (byL T)
  at_ : JAt w m2 (atL T)
  n1 : ¬ O m1
  n2 : ¬ O m2
  ne : m1 ≠ m2
  g1 : W.heap.size ≤ m1
  g2 : W.heap.size ≤ m2
  ot : OT T k g S
section
variable {W : World} {O O' : Nat → Prop} {b m1 m2 : Nat} {T : List (Wt × Int)} {k : Nat} {g : Int} {S S' : Rq} {w w' : World}
theorem OL.step {k' : Nat} (h : OL W O b m1 m2 T k g S w) (q' : HQ W O' b S' w') (s : St O O' w w') (ot' : OT T k' g S') : OL W O' b m1 m2 T k' g S' w' :=
  ⟨q', (h.by_.st s h.n1).1, (h.at_.st s h.n2).1, (h.by_.st s h.n1).2, (h.at_.st s h.n2).2, h.ne, h.g1, h.g2, ot'⟩
theorem OL.below (h : OL W O b m1 m2 T k g S w) (s : Below w.heap.size w w') : OL W O b m1 m2 T k g S w' := h.step (h.q.next s) (St.of_below s) h.ot
theorem OL.nmT (h : OL W O b m1 m2 T k g S w) : ∀ t ∈ T, Nm t.1.1.id ∧ okE t.1.1 = true := fun t ht => by
  have := h.q.ok.okL t.1 (by rw [h.ot.L]; exact List.mem_map.2 ⟨t, ht, rfl⟩)
  exact ⟨⟨by have := (okE_iff.1 this.1).1; omega, this.2⟩, this.1⟩
theorem OL.len (h : OL W O b m1 m2 T k g S w) (hk : k ≤ 1000) : T.length ≤ 1000 := by
  have := h.q.ok.len; have := h.ot.n; have h3 : S.L.length = T.length := by rw [h.ot.L, List.length_map]
  omega
end
theorem row_head {w : World} {B : Nat} {A : Option Addr} {k c : Nat} {xs : List Value} (h : w.ownsRow B 3 1 (.slice A k c) k xs) (hk : 0 < k) : ∃ g, A = some ⟨g, 0, none⟩ := by
  rcases h.2 with ⟨_, e⟩ | ⟨g, cap, cur, hv, _⟩
  · omega
  · injection hv with hv; exact ⟨g, hv⟩
theorem row_get {w : World} {B g k c : Nat} {l : List Int} (h : w.ownsRow B 3 1 (.slice (some ⟨g, 0, none⟩) k c) k (intsR l)) {i : Nat} {x : Int} (hi : l[i]? = some x) : w.cell? ⟨g, i, none⟩ = some (.int .i64 x) := by
  have hl : l.length = k * 1 := by have := h.1; rwa [show (intsR l).length = l.length by simp [intsR]] at this
  rw [h.cellAt i (by have := (List.getElem?_eq_some_iff.1 hi).1; omega)]
  simp only [intsR, List.getElem?_map, hi, Option.map_some]
theorem own_st {O O' : Nat → Prop} {w w' : World} {B k : Nat} {v : Value} {xs : List Value} (h : w.ownsRow B 3 1 v k xs) (s : St O O' w w') (hn : ∀ g, v.ownBlock = some g → ¬ O g) : w'.ownsRow B 3 1 v k xs ∧ ∀ g, v.ownBlock = some g → ¬ O' g := by
  rcases h.2 with ⟨rfl, h0⟩ | ⟨g, cap, cur, rfl, hB, hk, hr⟩
  · exact ⟨⟨h.1, .inl ⟨rfl, h0⟩⟩, fun g e => by cases e⟩
  · refine ⟨⟨h.1, .inr ⟨g, cap, cur, rfl, hB, (s.at (ltOf hk) (hn g rfl)).trans hk, hr⟩⟩, fun g' e => ?_⟩
    simp only [Value.ownBlock, Option.some.injEq] at e
    subst e
    exact s.not (ltOf hk) (hn g rfl)
/-- The second loop: who is taken still, the maps, the row of numbers. -/
structure OM (W : World) (O : Nat → Prop) (b m1 m2 : Nat) (T : List (Wt × Int)) (g n : Int) (Q : List Wt) (v : Value) (i : Nat) (S : Rq) (w : World) : Prop where
  q : HQ W O b S w
  by_ : JAt w m1 (byL T)
  at_ : JAt w m2 (atL T)
  n1 : ¬ O m1
  n2 : ¬ O m2
  row : w.ownsRow 0 3 1 v Q.length (intsR (Q.map fun x => x.1.id))
  nv : ∀ k, v.ownBlock = some k → ¬ O k
  F : S.F = []
  age : S.age = g
  lim : S.lim = 64
  s : srt g n S.L = Q.drop i
section
variable {W : World} {O O' : Nat → Prop} {b m1 m2 : Nat} {T : List (Wt × Int)} {g n : Int} {Q : List Wt} {v : Value} {i i' : Nat} {S S' : Rq} {w w' : World}
theorem OM.step (h : OM W O b m1 m2 T g n Q v i S w) (q' : HQ W O' b S' w') (s : St O O' w w') (hF : S'.F = []) (ha : S'.age = g) (hl : S'.lim = 64) (hs : srt g n S'.L = Q.drop i') : OM W O' b m1 m2 T g n Q v i' S' w' :=
  ⟨q', (h.by_.st s h.n1).1, (h.at_.st s h.n2).1, (h.by_.st s h.n1).2, (h.at_.st s h.n2).2, (own_st h.row s h.nv).1, (own_st h.row s h.nv).2, hF, ha, hl, hs⟩
theorem OM.below (h : OM W O b m1 m2 T g n Q v i S w) (s : Below w.heap.size w w') : OM W O b m1 m2 T g n Q v i S w' := h.step (h.q.next s) (St.of_below s) h.F h.age h.lim h.s
end
theorem byL_mem {T : List (Wt × Int)} {x : Wt} (h : x ∈ T.map Prod.fst) : (x.1.id, agE x.1) ∈ byL T := by
  obtain ⟨t, ht, rfl⟩ := List.mem_map.1 h
  exact List.mem_map.2 ⟨t, ht, rfl⟩
theorem atL_mem {T : List (Wt × Int)} {x : Wt} (h : x ∈ T.map Prod.fst) : ∃ p, (x, p) ∈ T ∧ (x.1.id, Value.int .i64 p) ∈ atL T := by
  obtain ⟨⟨y, p⟩, ht, rfl⟩ := List.mem_map.1 h
  exact ⟨p, ht, List.mem_map.2 ⟨_, ht, rfl⟩⟩
/-- Who was put ahead stands ahead in the row that came. -/
theorem at_up {T : List (Wt × Int)} (hu : T.Pairwise fun a b => a.2 < b.2) (hp : (T.map Prod.fst).Pairwise (fun a b => a.2 < b.2)) {x y : Wt} {p q : Int} (hx : (x, p) ∈ T) (hy : (y, q) ∈ T) (h : x.2 < y.2) : p < q := by
  induction T with
  | nil => simp at hx
  | cons t r ih =>
    obtain ⟨u1, u2⟩ := List.pairwise_cons.1 hu
    rw [List.map_cons] at hp
    obtain ⟨p1, p2⟩ := List.pairwise_cons.1 hp
    rcases List.mem_cons.1 hx with rfl | hx' <;> rcases List.mem_cons.1 hy with e | hy'
    · cases e; omega
    · exact u1 _ hy'
    · subst e
      have := p1 x (List.mem_map.2 ⟨_, hx', rfl⟩)
      have : y.2 < x.2 := this
      omega
    · exact ih u2 p2 hx' hy'
def rangeO (g n l : Int) : Bool := decide (g < 1) || decide (1048576 < g) || decide (n < 0) || decide (1099511627776 < n) || decide (60 < l)
theorem rangeO_no {g n l : Int} (h : rangeO g n l = false) : 1 ≤ g ∧ g ≤ 1048576 ∧ 0 ≤ n ∧ n ≤ 1099511627776 ∧ l ≤ 60 := by
  unfold rangeO at h
  simp only [Bool.or_eq_false_iff, decide_eq_false_iff_not] at h
  omega
set_option maxHeartbeats 16000000 in
theorem readyOrder_no (g n : Int) (v : Value) (l : List Et) (w : World) (hv : EtsAt w v l) (h : rangeO g n l.length = true) :
    Calls Try.prog 7 #[.int .i64 g, .int .i64 n, v] w fun e w' => e = .returned (.bool true) ∧ Below w.heap.size w w' := by
  have HA := Lib.hid awake_x
  have H := Lib.hid h
  obtain ⟨a0, cap, rfl, hcap, _⟩ := hv
  clear h
  go_enter Try.func7, Try.ntmps7
  go_wp2_with fail
  refine (HA.out _).mono ?_
  rintro e w1 ⟨rfl, hb1⟩
  have HB1 := Lib.hid hb1
  clear hb1 HA
  go_wp2_with fail
  all_goals first
    | (go_ret; exact ⟨rfl, HB1.out⟩)
    | (exfalso; have := H.out; unfold rangeO at this; simp_all; done)
    | (exfalso; have := H.out; unfold rangeO at this; simp_all; omega)
set_option maxHeartbeats 16000000 in
theorem readyOrder_yes (g n : Int) (v : Value) (l : List Et) (w : World) (hv : EtsAt w v l) (h : rangeO g n l.length = false) :
    Calls Try.prog 7 #[.int .i64 g, .int .i64 n, v] w fun e w' => e = .returned (.bool true) ∧ Below w.heap.size w w' := by
  obtain ⟨h1, h2, h3, h4, h5⟩ := rangeO_no h
  have HA := Lib.hid awake_x
  have d1 : decide (g < 1) = false := decide_eq_false (by omega)
  have d2 : decide (1048576 < g) = false := decide_eq_false (by omega)
  have d3 : decide (n < 0) = false := decide_eq_false (by omega)
  have d4 : decide (1099511627776 < n) = false := decide_eq_false (by omega)
  have d5 : decide (60 < (l.length : Int)) = false := decide_eq_false (by omega)
  have hN := rightN_iff.2 ⟨h1, h2, (by omega : (1 : Int) ≤ 64), (by omega : (64 : Int) ≤ 64), (by omega : (1 : Int) ≤ 4096), (by omega : (4096 : Int) ≤ 4096)⟩
  have hnow : NowOk n g := ⟨by omega, by omega, h1, h2⟩
  obtain ⟨a0, cap, rfl, hcap, hat⟩ := hv
  have HW := Lib.hid (And.intro hN (And.intro hat (And.intro hnow h5)))
  clear h h1 h2 h3 h4 h5 hN hat hnow
  go_enter Try.func7, Try.ntmps7
  go_wp2_with fail
  refine (HA.out _).mono ?_
  rintro e wa ⟨rfl, hba⟩
  have HBa := Lib.hid hba
  clear hba HA
  go_wp2_with fail
  refine (new_h HBa.out g 64 4096 HW.out.1).mono ?_
  rintro e wb ⟨b, O, rfl, hq, hbb, _⟩
  have HQb := Lib.hid hq
  have mE := make_E wb
  have mI := make_I (wb.alloc (.map #[] 0))
  obtain ⟨w1, hw1⟩ : ∃ w1, w1 = wb.alloc (.map #[] 0) := ⟨_, rfl⟩
  obtain ⟨w2, hw2⟩ : ∃ w2, w2 = w1.alloc (.map #[] 0) := ⟨_, rfl⟩
  obtain ⟨m1, hm1⟩ : ∃ m1, m1 = wb.heap.size := ⟨_, rfl⟩
  have s1 : w1.heap.size = m1 + 1 := by rw [hw1, hm1]; simp
  have HL0 := Lib.hid (show OL w O b m1 (m1 + 1) [] 0 g (newS g 64 4096) w2 from ⟨by
      rw [hw2]; exact (hw1 ▸ hq.next (below_box wb _) : HQ w O b _ w1).next (below_box w1 _), by
      rw [hw2]; exact JAt.block (by rw [hw1, hm1]; exact JAt.made wb : JAt w1 m1 []) ((below_box w1 _).block m1 (by omega)), by
      rw [hw2, ← s1]; exact JAt.made w1, fun e => by have := hq.olt _ e; omega, fun e => by have := hq.olt _ e; omega, by omega, by have := hq.below.size; omega, by have := hq.below.size; omega, OT.start g⟩)
  have HW2 := Lib.hid (And.intro hw1 (And.intro hw2 hm1))
  clear hq hbb hw1 hw2 hm1 s1
  go_wp2_with fail
  clear mE mI
  rw [← HW2.out.2.2, ← HW2.out.1, ← HW2.out.2.1]
  go_loopw [11] (fun i wr => ∃ k : Nat, k ≤ l.length ∧ i = .int .i64 k ∧ Hid (∃ O S T, OL w O b m1 (m1 + 1) T k g S wr)) (fun i _ => l.length - (intOf i).toNat)
  case atStart => exact ⟨0, Nat.zero_le _, rfl, Lib.hid ⟨O, _, [], HL0.out⟩⟩
  case round =>
    obtain ⟨k, hk, rfl, HI⟩ := hrel
    have hl60 : l.length ≤ 60 := by have := HW.out.2.2.2; omega
    by_cases hlt : k < l.length
    · have HLT := Lib.hid hlt
      obtain ⟨O2, S2, T2, hL⟩ := HI.out
      obtain ⟨x, hx⟩ : ∃ x, l[k]? = some x := ⟨_, List.getElem?_eq_getElem hlt⟩
      obtain ⟨A, rfl, hAl, hxa0⟩ := HW.out.2.1 k x hx
      have hxa := hxa0.below hL.q.below hxa0.lt
      have HI2 := Lib.hid (And.intro hL (And.intro hxa0 hxa))
      have c0 := hxa.c0
      have c1 := hxa.c1
      have c2 := hxa.c2
      have c3 := hxa.c3
      have hsx := mkS_size x.dest
      have hkl : (k : Int) < (l.length : Int) := by omega
      clear hL hxa hxa0 hx
      by_cases hd300 : 300 < x.dest.length
      · have hdb : decide (300 < (x.dest.length : Int)) = true := decide_eq_true (by omega)
        clear hd300
        go_wp2_with fail
        go_ret
        exact ⟨rfl, HI2.out.1.q.below⟩
      · have hdb : decide (300 < (x.dest.length : Int)) = false := decide_eq_false (by omega)
        have HD300 := Lib.hid hd300
        clear hd300
        obtain ⟨code, hcode⟩ : ∃ c, putE S2 x = c := ⟨_, rfl⟩
        have HC := Lib.hid hcode
        have HP := Lib.hid (put_h HI2.out.1.q x (by have := HI2.out.1.ot.n; omega) HI2.out.2.2.idr (by have := HD300.out; omega))
        rw [hcode] at HP
        clear hcode
        go_wp2_with fail
        refine HP.out.mono ?_
        rintro e wc ⟨rfl, O3, hq3, hs3⟩
        by_cases hc0 : code = 0
        · have hcb : (code == 0) = true := beq_iff_eq.2 hc0
          have hp0 : putE S2 x = 0 := HC.out.trans hc0
          have hT := HI2.out.1.ot
          have hlen : T2.length ≤ 1000 := HI2.out.1.len (by omega)
          have nm : Nm x.id := HI2.out.2.2.idr
          have h1 := HI2.out.1.by_.st hs3 HI2.out.1.n1
          have h2 := HI2.out.1.at_.st hs3 HI2.out.1.n2
          obtain ⟨w5, run5, j5, t5⟩ := JAt.putE (w := wc.drew) (h1.1.block (w' := wc.drew) rfl) (n := x.id) (agE x) nm (by unfold byL; rw [List.length_map]; omega)
          have h25 : JAt w5 (m1 + 1) (atL T2) := h2.1.block (t5.grown.block (m1 + 1) h2.1.lt (fun e => by cases e))
          obtain ⟨w6, run6, j6, t6⟩ := h25.putI (n := x.id) (.int .i64 (k : Int)) nm (by unfold atL; rw [List.length_map]; omega)
          have hxc := HI2.out.2.1.below hq3.below HI2.out.2.1.lt
          have nA1 : (A.add (k * 4)).block ≠ m1 := fun e => by have := HI2.out.2.1.lt; have := HI2.out.1.g1; omega
          have k5 : ∀ o, w5.cell? ⟨(A.add (k * 4)).block, o, none⟩ = wc.cell? ⟨(A.add (k * 4)).block, o, none⟩ := fun o => by
            show (match w5.heap[(A.add (k * 4)).block]? with | _ => _) = _
            unfold World.cell?
            rw [t5.grown.block (A.add (k * 4)).block hxc.lt (fun e => nA1 (by cases e; rfl))]
            rfl
          have hx5 : EtAt w5 (A.add (k * 4)) x := ⟨Nat.lt_of_lt_of_le hxc.lt t5.grown.size, by
              have : w5.cell? (A.add (k * 4)) = wc.cell? (A.add (k * 4)) := by
                unfold World.cell?
                rw [t5.grown.block (A.add (k * 4)).block hxc.lt (fun e => nA1 (by cases e; rfl))]
                rfl
              rw [this]; exact hxc.c0, (k5 _).trans hxc.c1, (k5 _).trans hxc.c2, (k5 _).trans hxc.c3, hxc.idr⟩
          have HTd := Lib.hid (show (∀ wx : World, wx = wc.drew → wx.cell? (A.add (k * 4)) = some (.int .i64 x.id) ∧ wx.cell? ⟨(A.add (k * 4)).block, (A.add (k * 4)).off + 1, none⟩ = some (.string (mkS x.dest)) ∧ wx.cell? ⟨(A.add (k * 4)).block, (A.add (k * 4)).off + 2, none⟩ = some (.int .i64 x.pri) ∧ wx.cell? ⟨(A.add (k * 4)).block, (A.add (k * 4)).off + 3, none⟩ = some (.int .i64 x.at_)) from fun wx e => by rw [e]; exact ⟨hxc.c0, hxc.c1, hxc.c2, hxc.c3⟩)
          have HT0 := Lib.hid (HTd.out _ rfl)
          have HT5 := Lib.hid (show (∀ wx : World, wx = w5 → wx.cell? (A.add (k * 4)) = some (.int .i64 x.id) ∧ wx.cell? ⟨(A.add (k * 4)).block, (A.add (k * 4)).off + 1, none⟩ = some (.string (mkS x.dest)) ∧ wx.cell? ⟨(A.add (k * 4)).block, (A.add (k * 4)).off + 2, none⟩ = some (.int .i64 x.pri) ∧ wx.cell? ⟨(A.add (k * 4)).block, (A.add (k * 4)).off + 3, none⟩ = some (.int .i64 x.at_)) from fun wx e => by rw [e]; exact ⟨hx5.c0, hx5.c1, hx5.c2, hx5.c3⟩)
          have HT1 := Lib.hid (HT5.out _ rfl)
          have e0 := hx5.c0
          have q5 : HQ w O3 b (putQ S2 x) w5 := HQ.turned (w := wc.drew) (hq3.drewN 1) t5 h1.2 HI2.out.1.g1
          have q6 : HQ w O3 b (putQ S2 x) w6 := q5.turned t6 h2.2 HI2.out.1.g2
          have j56 : JAt w6 m1 ((x.id, agE x) :: (byL T2).filter fun p => p.1 != x.id) := j5.block (t6.grown.block m1 j5.lt (fun e => by cases e))
          rw [show (byL T2).filter (fun p => p.1 != x.id) = byL T2 from filt_new hT hp0 _] at j56
          rw [show (atL T2).filter (fun p => p.1 != x.id) = atL T2 from filt_new hT hp0 _] at j6
          have HL6 := Lib.hid (show OL w O3 b m1 (m1 + 1) (T2 ++ [((x, S2.n + 1), (k : Int))]) (k + 1) g (putQ S2 x) w6 from ⟨q6, j56.perm (app_perm ((x, S2.n + 1), (k : Int)) fun t => (t.1.1.id, agE t.1.1)), j6.perm (app_perm ((x, S2.n + 1), (k : Int)) fun t => (t.1.1.id, Value.int .i64 t.2)), h1.2, h2.2, HI2.out.1.ne, HI2.out.1.g1, HI2.out.1.g2, hT.put hp0⟩)
          clear hc0 hp0 hT hlen nm h1 h2 j5 t5 h25 j6 t6 hxc nA1 k5 hx5 q5 q6 j56 hq3 hs3 c0 c1 c2 c3
          go_wp2_with fail
          go_region_held3 (fun wx => wx.cell? (A.add (k * 4)) = some (.int .i64 x.id) ∧ wx.cell? ⟨(A.add (k * 4)).block, (A.add (k * 4)).off + 1, none⟩ = some (.string (mkS x.dest)) ∧ wx.cell? ⟨(A.add (k * 4)).block, (A.add (k * 4)).off + 2, none⟩ = some (.int .i64 x.pri) ∧ wx.cell? ⟨(A.add (k * 4)).block, (A.add (k * 4)).off + 3, none⟩ = some (.int .i64 x.at_))
            (first | (with_reducible exact HT0.out) | (with_reducible exact HT1.out))
            (fail)
          go_wp2_with fail
          go_roundw
          case rel => exact ⟨k + 1, by have := HLT.out; omega, by go_num, Lib.hid ⟨O3, _, _, HL6.out⟩⟩
          case measure => have := HLT.out; simp [intOf]; omega
        · have hcb : (code == 0) = false := beq_eq_false_iff_ne.2 hc0
          have hsame : putQ S2 x = S2 := by unfold putQ; rw [if_neg (by rw [HC.out]; exact hc0)]
          rw [hsame] at hq3
          have HL6 := Lib.hid (HI2.out.1.step hq3 hs3 HI2.out.1.ot.next)
          clear hc0 hsame hq3 hs3 c0 c1 c2 c3
          go_wp2_with fail
          go_roundw
          case rel => exact ⟨k + 1, by have := HLT.out; omega, by go_num, Lib.hid ⟨O3, _, _, HL6.out⟩⟩
          case measure => have := HLT.out; simp [intOf]; omega
    · obtain rfl : k = l.length := by omega
      obtain ⟨O2, S2, T2, hL⟩ := HI.out
      have hnow := HW.out.2.2.1
      rw [← hL.ot.age] at hnow
      obtain ⟨Q, hQ⟩ : ∃ Q, Q = srt g n S2.L := ⟨_, rfl⟩
      obtain ⟨N, hN⟩ : ∃ N, N = Q.length := ⟨_, rfl⟩
      have hord : ordQ S2 n = Q.map fun x => x.1.id := by rw [hQ, ← hL.ot.age]; rfl
      have hNl : S2.L.length = N := by rw [hN, hQ]; exact (srt_perm g n S2.L).length_eq.symm
      have hNT : (byL T2).length = N := by rw [← hNl, hL.ot.L, byL, List.length_map, List.length_map]
      have ho := order_h hL.q n hnow
      rw [hord, List.length_map, ← hN] at ho
      have HO := Lib.hid ho
      have HLL := Lib.hid (And.intro hL (And.intro hQ (And.intro hN hNl)))
      have hN60 : N ≤ 60 := by have := hL.q.ok.len; have := hL.ot.n; omega
      have HNT := Lib.hid hNT
      clear hL hQ hN hord ho hnow hNl hNT
      go_wp2_with fail
      refine HO.out.mono ?_
      rintro e w3 ⟨Ao, co, rfl, hrow, hq3, hs3⟩
      have hM := (show OM w O2 b m1 (m1 + 1) T2 g n Q (.slice Ao N co) 0 S2 w3 from ⟨hq3, (HLL.out.1.by_.st hs3 HLL.out.1.n1).1, (HLL.out.1.at_.st hs3 HLL.out.1.n2).1, (HLL.out.1.by_.st hs3 HLL.out.1.n1).2, (HLL.out.1.at_.st hs3 HLL.out.1.n2).2, by rw [← HLL.out.2.2.1]; exact own_mono hrow (Nat.zero_le _), fun gk hk e => by
          rcases hrow.2 with ⟨hv, _⟩ | ⟨g', cap', cur, hv, hB, _⟩
          · rw [hv] at hk; cases hk
          · rw [hv] at hk
            simp only [Value.ownBlock, Option.some.injEq] at hk
            subst hk
            have := HLL.out.1.q.olt _ e
            omega, HLL.out.1.ot.F, HLL.out.1.ot.age, HLL.out.1.ot.lim, by rw [List.drop_zero]; exact HLL.out.2.1.symm⟩)
      have hlenE := fun ty => hM.by_.lenE ty
      rw [HNT.out] at hlenE
      have HLn := Lib.hid (len_h hM.q)
      rw [HLL.out.2.2.2] at HLn
      have HM := Lib.hid hM
      clear hM hrow hq3 hs3 HO
      go_wp2_with fail
      refine HLn.out.mono ?_
      rintro e w3' ⟨rfl, rfl⟩
      clear HLn
      go_wp2_with fail
      clear hlenE
      go_loopw [13] (fun si wx => ∃ i : Nat, i ≤ N ∧ si = .int .i64 i ∧ Hid (∃ S, OM w O2 b m1 (m1 + 1) T2 g n Q (.slice Ao N co) i S wx)) (fun si _ => N - (intOf si).toNat)
      case atStart => exact ⟨0, Nat.zero_le _, rfl, Lib.hid ⟨_, HM.out⟩⟩
      case round =>
        obtain ⟨i, hi, rfl, HI3⟩ := hrel
        by_cases hiN : i < N
        · have HIN := Lib.hid hiN
          obtain ⟨S, hM⟩ := HI3.out
          have hNQ := HLL.out.2.2.1
          obtain ⟨x, hx⟩ : ∃ x, Q[i]? = some x := ⟨_, List.getElem?_eq_getElem (by omega)⟩
          have hdr : Q.drop i = x :: Q.drop (i + 1) := by
            obtain ⟨h1, h2⟩ := List.getElem?_eq_some_iff.1 hx
            rw [List.drop_eq_getElem_cons h1, h2]
          have hs := hM.s
          rw [hdr] at hs
          have hrow := hM.row
          rw [← hNQ] at hrow
          obtain ⟨gB, rfl⟩ := row_head hrow (by omega)
          have hperm : Q.Perm (T2.map Prod.fst) := by rw [HLL.out.2.1, ← HLL.out.1.ot.L]; exact srt_perm g n _
          have hxT : x ∈ T2.map Prod.fst := hperm.mem_iff.1 (List.mem_of_getElem? hx)
          have hnm : ∀ z ∈ T2.map Prod.fst, Nm z.1.id ∧ okE z.1 = true := fun z hz => by
            obtain ⟨t, ht, rfl⟩ := List.mem_map.1 hz
            exact HLL.out.1.nmT t ht
          have HS := Lib.hid (And.intro hM (And.intro hx (And.intro hs (And.intro hrow (And.intro hperm (And.intro hxT hnm))))))
          have x0 : wr.cell? ⟨gB, i, none⟩ = some (.int .i64 x.1.id) := row_get hrow (by rw [List.getElem?_map, hx]; rfl)
          clear hM hdr hs hrow hperm hnm hx hNQ
          have hxi := HS.out.2.1
          have HT0 := Lib.hid (fun (wz : World) (hz : OM w O2 b m1 (m1 + 1) T2 g n Q (.slice (some ⟨gB, 0, none⟩) N co) i S wz) => show Calls Try.prog 15 #[.pointer (some ⟨b, 0, none⟩), .int .i64 n] wz fun e w' => e = .returned (.tuple #[agE x.1, .bool true]) ∧ HQ w O2 b (takeQ S n) w' ∧ St O2 O2 wz w' from by
            have h1 : srt S.age n S.L = x :: Q.drop (i + 1) := by rw [hz.age]; exact HS.out.2.2.1
            have h2 := take_first hz.F hz.q.ok.lim1 h1
            have h3 : tkE S n = x.1 := by unfold tkE; rw [h2]
            have h4 : tkB S n = true := by unfold tkB; rw [h2]; rfl
            have := take_h hz.q n (by rw [hz.age]; exact HW.out.2.2.1)
            rw [h3, h4] at this
            exact this)
          clear hxi
          by_cases hi0 : i = 0
          · have hip : decide ((0 : Int) < (i : Int)) = false := decide_eq_false (by omega)
            have hip2 : decide (0 < i) = false := decide_eq_false (by omega)
            have HZ := Lib.hid HS.out.1
            have HI0 := Lib.hid hi0
            clear hi0
            go_wp2_with fail
            refine (HT0.out _ HZ.out).mono ?_
            rintro e w4 ⟨rfl, hq4, hs4⟩
            obtain ⟨X, hX⟩ : ∃ X, X = w4.heap.size := ⟨_, rfl⟩
            obtain ⟨w5, hw5⟩ : ∃ w5, w5 = w4.alloc (.cells (ecs x.1) 34) := ⟨_, rfl⟩
            have hs5 : St O2 O2 w4 w5 := by rw [hw5]; exact St.of_below (below_box w4 _)
            have hq5 : HQ w O2 b (takeQ S n) w5 := by rw [hw5]; exact hq4.next (below_box w4 _)
            have nX : ¬ O2 X := fun e => by have := hq4.olt _ e; omega
            have hx5 : w5.heap[X]? = some (.cells (ecs x.1) 34 (0, 0)) := by rw [hw5, hX]; exact newOf w4 _
            have hzz := HZ.out
            have hs45 := hs4.trans hs5
            have nxm := HS.out.2.2.2.2.2.2 x hxT
            have hgn : ¬ O2 gB := hzz.nv gB rfl
            have row5 := own_st hzz.row hs45 hzz.nv
            rw [← HLL.out.2.2.1] at row5
            have c5 : w5.cell? ⟨gB, i, none⟩ = some (.int .i64 x.1.id) := row_get row5.1 (by rw [List.getElem?_map, HS.out.2.1]; rfl)
            have hgl : gB < w5.heap.size := cellLt c5
            have by5 := hzz.by_.st hs45 hzz.n1
            have HKp := Lib.hid (show ∀ wx : World, (∀ k, k < w5.heap.size → ¬ O2 k → wx.heap[k]? = w5.heap[k]?) → wx.cell? ⟨X, 0, none⟩ = some (.int .i64 x.1.id) ∧ wx.cell? ⟨X, 1, none⟩ = some (.string (mkS x.1.dest)) ∧ wx.cell? ⟨X, 2, none⟩ = some (.int .i64 x.1.pri) ∧ wx.cell? ⟨X, 3, none⟩ = some (.int .i64 x.1.at_) ∧ wx.cell? ⟨gB, i, none⟩ = some (.int .i64 x.1.id) ∧ (Instr.lookup 62 (.map (some m1)) (.int .i64 x.1.id) false).run Try.prog wx = .ok (agE x.1) wx from fun wx hk => by
              have hX' := (hk X (ltOf hx5) nX).trans hx5
              refine ⟨cellOf hX' 0, cellOf hX' 1, cellOf hX' 2, cellOf hX' 3, ?_, (by5.1.block (w' := wx) (hk m1 by5.1.lt by5.2)).get_yesE (byL_mem hxT) nxm.1⟩
              have : wx.cell? ⟨gB, i, none⟩ = w5.cell? ⟨gB, i, none⟩ := by unfold World.cell?; rw [hk gB hgl hgn]
              rw [this]; exact c5)
            have htd := take_done (n := n) hzz.q.ok hzz.F (by rw [hzz.age]; exact HS.out.2.2.1)
            have HD := Lib.hid (show Calls Try.prog 17 #[.pointer (some ⟨b, 0, none⟩), .int .i64 x.1.id] w5.drew fun e wx => e = .returned (.bool true) ∧ (wx.cell? ⟨X, 0, none⟩ = some (.int .i64 x.1.id) ∧ wx.cell? ⟨X, 1, none⟩ = some (.string (mkS x.1.dest)) ∧ wx.cell? ⟨X, 2, none⟩ = some (.int .i64 x.1.pri) ∧ wx.cell? ⟨X, 3, none⟩ = some (.int .i64 x.1.at_) ∧ wx.cell? ⟨gB, i, none⟩ = some (.int .i64 x.1.id) ∧ (Instr.lookup 62 (.map (some m1)) (.int .i64 x.1.id) false).run Try.prog wx = .ok (agE x.1) wx) ∧ Hid (OM w O2 b m1 (m1 + 1) T2 g n Q (.slice (some ⟨gB, 0, none⟩) N co) (i + 1) (doneQ (takeQ S n) x.1.id) wx) from by
              refine (done_h (hq5.drewN 1) x.1.id nxm.1).mono ?_
              rintro e w7 ⟨rfl, hq7, hs7⟩
              have hs57 : St O2 O2 w5 w7 := (St.of_fr (Fr.drewN O2 w5 1)).trans hs7
              exact ⟨by rw [htd.2.2.2.2], HKp.out w7 fun k hk hn => hs57.at hk hn, hzz.step hq7 (hs45.trans hs57) htd.1 (htd.2.2.1.trans hzz.age) (htd.2.2.2.1.trans hzz.lim) (by have := htd.2.1; rwa [htd.2.2.1, hzz.age] at this)⟩)
            have HTd := Lib.hid (HKp.out w5.drew fun k _ _ => rfl)
            have hEq : ∀ w, (Op.equalIn 10000 34 (.agg #[.int .i64 x.1.id, .string (mkS x.1.dest), .int .i64 x.1.pri, .int .i64 x.1.at_]) (.agg #[.int .i64 x.1.id, .string (mkS x.1.dest), .int .i64 x.1.pri, .int .i64 x.1.at_])).run Try.prog w = .ok true w := fun w => by
              have := eqEt x.1 x.1 w
              rwa [eqE_iff.2 rfl] at this
            have HW5 := Lib.hid (And.intro hw5 hX)
            have hil2 : ((i : Nat) : Int) < (N : Int) := by have := HIN.out; omega
            have hnn : (x.1.id != x.1.id) = false := by simp
            clear hq4 hs4 hs5 hq5 nX hx5 hzz hs45 nxm hgn row5 c5 hgl by5 htd hw5 hX hxT
            go_wp2_with fail
            rw [← HW5.out.1, ← HW5.out.2]
            go_region_held3 (fun wx => wx.cell? ⟨X, 0, none⟩ = some (.int .i64 x.1.id) ∧ wx.cell? ⟨X, 1, none⟩ = some (.string (mkS x.1.dest)) ∧ wx.cell? ⟨X, 2, none⟩ = some (.int .i64 x.1.pri) ∧ wx.cell? ⟨X, 3, none⟩ = some (.int .i64 x.1.at_) ∧ wx.cell? ⟨gB, i, none⟩ = some (.int .i64 x.1.id) ∧ (Instr.lookup 62 (.map (some m1)) (.int .i64 x.1.id) false).run Try.prog wx = .ok (agE x.1) wx)
              (first | (with_reducible exact HTd.out) | (with_reducible exact ⟨by assumption, by assumption, by assumption, by assumption, by assumption, by assumption⟩))
              (first | (go_at_call 17; (with_reducible refine HD.out.mono ?_); rintro e w7 ⟨rfl, ⟨g0, g1, g2, g3, g4, g5⟩, gH⟩))
            clear g0 g1 g2 g3 g4 g5 hEq
            go_wp2_with fail
            go_roundw
            case rel => exact ⟨i + 1, by have := HIN.out; omega, by go_num, Lib.hid ⟨_, gH.out⟩⟩
            case measure => have := HIN.out; simp [intOf]; omega
          · obtain ⟨j, rfl⟩ : ∃ j, i = j + 1 := ⟨i - 1, by omega⟩
            have hip : decide ((0 : Int) < ((j + 1 : Nat) : Int)) = true := decide_eq_true (by omega)
            have hip2 : decide (0 < j + 1) = true := decide_eq_true (by omega)
            have hpos : (0 : Int) < ((j + 1 : Nat) : Int) := by omega
            obtain ⟨y, hy⟩ : ∃ y, Q[j]? = some y := ⟨_, List.getElem?_eq_getElem (by have := HIN.out; have := HLL.out.2.2.1; omega)⟩
            have hyT : y ∈ T2.map Prod.fst := HS.out.2.2.2.2.1.mem_iff.1 (List.mem_of_getElem? hy)
            have y0 : wr.cell? ⟨gB, j, none⟩ = some (.int .i64 y.1.id) := row_get HS.out.2.2.2.1 (by rw [List.getElem?_map, hy]; rfl)
            have nmx := HS.out.2.2.2.2.2.2 x hxT
            have nmy := HS.out.2.2.2.2.2.2 y hyT
            have lx := HS.out.1.by_.get_yesE (byL_mem hxT) nmx.1
            have ly := HS.out.1.by_.get_yesE (byL_mem hyT) nmy.1
            obtain ⟨px, hpx, apx⟩ := atL_mem hxT
            obtain ⟨py, hpy, apy⟩ := atL_mem hyT
            have kx := HS.out.1.at_.get_yesI apx nmx.1
            have ky := HS.out.1.at_.get_yesI apy nmy.1
            have hbet : bet g n y x = true := by
              have hpw := srt_pw (g := g) (n := n) HLL.out.1.q.ok.ne
              rw [← HLL.out.2.1, List.pairwise_iff_getElem] at hpw
              obtain ⟨a1, a2⟩ := List.getElem?_eq_some_iff.1 hy
              obtain ⟨b1, b2⟩ := List.getElem?_eq_some_iff.1 HS.out.2.1
              have := hpw j (j + 1) a1 b1 (by omega)
              rwa [a2, b2] at this
            have hord := at_up HLL.out.1.ot.up (by rw [← HLL.out.1.ot.L]; exact HLL.out.1.q.ok.puts) hpy hpx
            obtain ⟨p, hp⟩ : ∃ p, rkW g n y = p := ⟨_, rfl⟩
            obtain ⟨q, hq⟩ : ∃ q, rkW g n x = q := ⟨_, rfl⟩
            rw [bet_iff, hp, hq] at hbet
            have hnw := HW.out.2.2.1
            have Kx := fun w => rankB x.1 n g nmx.2 hnw hq w
            have Ky := fun w => rankB y.1 n g nmy.2 hnw hp w
            obtain ⟨YT, F, f0, hf0, hF1, hF2⟩ := cls wr
            have : Nonempty YT := ⟨f0⟩
            have hlg : gB < wr.heap.size := cellLt x0
            have X0 : ∀ y', (F y').cell? ⟨gB, j + 1, none⟩ = some (.int .i64 x.1.id) := fun y' => ((hF1 y').cell (p := ⟨gB, j + 1, none⟩) hlg).trans x0
            have Y0 : ∀ y', (F y').cell? ⟨gB, j, none⟩ = some (.int .i64 y.1.id) := fun y' => ((hF1 y').cell (p := ⟨gB, j, none⟩) hlg).trans y0
            have LX : ∀ y', (Instr.lookup 62 (.map (some m1)) (.int .i64 x.1.id) false).run Try.prog (F y') = .ok (agE x.1) (F y') := fun y' => (HS.out.1.by_.block (w' := F y') ((hF1 y').block m1 HS.out.1.by_.lt)).get_yesE (byL_mem hxT) nmx.1
            have LY : ∀ y', (Instr.lookup 62 (.map (some m1)) (.int .i64 y.1.id) false).run Try.prog (F y') = .ok (agE y.1) (F y') := fun y' => (HS.out.1.by_.block (w' := F y') ((hF1 y').block m1 HS.out.1.by_.lt)).get_yesE (byL_mem hyT) nmy.1
            have Cx := Lib.hid (in_cls hF1 hF2 fun w' _ => Kx w')
            have Cy := Lib.hid (in_cls hF1 hF2 fun w' _ => Ky w')
            have H1 := Lib.hid hF1
            have HBT := Lib.hid (And.intro hbet hord)
            have HAT := Lib.hid (And.intro apx (And.intro apy (And.intro nmx.1 nmy.1)))
            have hsub : IntKind.i64.wrap (((j + 1 : Nat) : Int) - 1) = (j : Int) := by have := HIN.out; simp [IntKind.wrap, IntKind.bits, IntKind.signed]; omega
            have hjl : (j : Int) < (N : Int) := by have := HIN.out; omega
            have hil : ((j + 1 : Nat) : Int) < (N : Int) := by have := HIN.out; omega
            clear hF1 hF2 Kx Ky lx ly kx ky hpx hpy hbet hord hnw apx apy nmx nmy hyT hy hp hq hlg
            go_wp2_with fail
            refine region_in (by kernel_rfl) (by kernel_rfl) F f0 hf0 ?_
            repeat (go_big_quiet_step ((go_at_call 26; first | (with_reducible exact Cx.out _) | (with_reducible exact Cy.out _))))
            refine wpQuiet_nil ?_
            rintro _ ⟨z, rfl⟩
            have HZ0 := Lib.hid (HS.out.1.below (H1.out z))
            have z0 := X0 z
            have z1 := Y0 z
            have lx : ∀ m, (Instr.lookup 63 (.map (some (m1 + 1))) (.int .i64 x.1.id) false).run Try.prog ((F z).drewN m) = .ok (.int .i64 px) ((F z).drewN m) := fun m => (HZ0.out.at_.block (w' := (F z).drewN m) rfl).get_yesI HAT.out.1 HAT.out.2.2.1
            have ly : ∀ m, (Instr.lookup 63 (.map (some (m1 + 1))) (.int .i64 y.1.id) false).run Try.prog ((F z).drewN m) = .ok (.int .i64 py) ((F z).drewN m) := fun m => (HZ0.out.at_.block (w' := (F z).drewN m) rfl).get_yesI HAT.out.2.1 HAT.out.2.2.2
            clear X0 Y0 LX LY hf0 x0 y0
            generalize F z = wz at *
            have hpq : decide (p < q) = false := decide_eq_false (by have := HBT.out.1; omega)
            rcases Int.lt_or_le q p with hlt2 | hle2
            · have hpe : (p == q) = false := beq_eq_false_iff_ne.2 (by omega)
              clear hlt2
              go_wp2_with fail
              go_quiet (fail)
              have HZ := Lib.hid (HZ0.out.below (below_drewN (Below.refl _ _) nq))
              clear lx ly z0 z1
              go_wp2_with fail
              refine (HT0.out _ HZ.out).mono ?_
              rintro e w4 ⟨rfl, hq4, hs4⟩
              obtain ⟨X, hX⟩ : ∃ X, X = w4.heap.size := ⟨_, rfl⟩
              obtain ⟨w5, hw5⟩ : ∃ w5, w5 = w4.alloc (.cells (ecs x.1) 34) := ⟨_, rfl⟩
              have hs5 : St O2 O2 w4 w5 := by rw [hw5]; exact St.of_below (below_box w4 _)
              have hq5 : HQ w O2 b (takeQ S n) w5 := by rw [hw5]; exact hq4.next (below_box w4 _)
              have nX : ¬ O2 X := fun e => by have := hq4.olt _ e; omega
              have hx5 : w5.heap[X]? = some (.cells (ecs x.1) 34 (0, 0)) := by rw [hw5, hX]; exact newOf w4 _
              have hzz := HZ.out
              have hs45 := hs4.trans hs5
              have nxm := HS.out.2.2.2.2.2.2 x hxT
              have hgn : ¬ O2 gB := hzz.nv gB rfl
              have row5 := own_st hzz.row hs45 hzz.nv
              rw [← HLL.out.2.2.1] at row5
              have c5 : w5.cell? ⟨gB, j + 1, none⟩ = some (.int .i64 x.1.id) := row_get row5.1 (by rw [List.getElem?_map, HS.out.2.1]; rfl)
              have hgl : gB < w5.heap.size := cellLt c5
              have by5 := hzz.by_.st hs45 hzz.n1
              have HKp := Lib.hid (show ∀ wx : World, (∀ k, k < w5.heap.size → ¬ O2 k → wx.heap[k]? = w5.heap[k]?) → wx.cell? ⟨X, 0, none⟩ = some (.int .i64 x.1.id) ∧ wx.cell? ⟨X, 1, none⟩ = some (.string (mkS x.1.dest)) ∧ wx.cell? ⟨X, 2, none⟩ = some (.int .i64 x.1.pri) ∧ wx.cell? ⟨X, 3, none⟩ = some (.int .i64 x.1.at_) ∧ wx.cell? ⟨gB, j + 1, none⟩ = some (.int .i64 x.1.id) ∧ (Instr.lookup 62 (.map (some m1)) (.int .i64 x.1.id) false).run Try.prog wx = .ok (agE x.1) wx from fun wx hk => by
                have hX' := (hk X (ltOf hx5) nX).trans hx5
                refine ⟨cellOf hX' 0, cellOf hX' 1, cellOf hX' 2, cellOf hX' 3, ?_, (by5.1.block (w' := wx) (hk m1 by5.1.lt by5.2)).get_yesE (byL_mem hxT) nxm.1⟩
                have : wx.cell? ⟨gB, j + 1, none⟩ = w5.cell? ⟨gB, j + 1, none⟩ := by unfold World.cell?; rw [hk gB hgl hgn]
                rw [this]; exact c5)
              have htd := take_done (n := n) hzz.q.ok hzz.F (by rw [hzz.age]; exact HS.out.2.2.1)
              have HD := Lib.hid (show Calls Try.prog 17 #[.pointer (some ⟨b, 0, none⟩), .int .i64 x.1.id] w5.drew fun e wx => e = .returned (.bool true) ∧ (wx.cell? ⟨X, 0, none⟩ = some (.int .i64 x.1.id) ∧ wx.cell? ⟨X, 1, none⟩ = some (.string (mkS x.1.dest)) ∧ wx.cell? ⟨X, 2, none⟩ = some (.int .i64 x.1.pri) ∧ wx.cell? ⟨X, 3, none⟩ = some (.int .i64 x.1.at_) ∧ wx.cell? ⟨gB, j + 1, none⟩ = some (.int .i64 x.1.id) ∧ (Instr.lookup 62 (.map (some m1)) (.int .i64 x.1.id) false).run Try.prog wx = .ok (agE x.1) wx) ∧ Hid (OM w O2 b m1 (m1 + 1) T2 g n Q (.slice (some ⟨gB, 0, none⟩) N co) (j + 1 + 1) (doneQ (takeQ S n) x.1.id) wx) from by
                refine (done_h (hq5.drewN 1) x.1.id nxm.1).mono ?_
                rintro e w7 ⟨rfl, hq7, hs7⟩
                have hs57 : St O2 O2 w5 w7 := (St.of_fr (Fr.drewN O2 w5 1)).trans hs7
                exact ⟨by rw [htd.2.2.2.2], HKp.out w7 fun k hk hn => hs57.at hk hn, hzz.step hq7 (hs45.trans hs57) htd.1 (htd.2.2.1.trans hzz.age) (htd.2.2.2.1.trans hzz.lim) (by have := htd.2.1; rwa [htd.2.2.1, hzz.age] at this)⟩)
              have HTd := Lib.hid (HKp.out w5.drew fun k _ _ => rfl)
              have hEq : ∀ w, (Op.equalIn 10000 34 (.agg #[.int .i64 x.1.id, .string (mkS x.1.dest), .int .i64 x.1.pri, .int .i64 x.1.at_]) (.agg #[.int .i64 x.1.id, .string (mkS x.1.dest), .int .i64 x.1.pri, .int .i64 x.1.at_])).run Try.prog w = .ok true w := fun w => by
                have := eqEt x.1 x.1 w
                rwa [eqE_iff.2 rfl] at this
              have HW5 := Lib.hid (And.intro hw5 hX)
              have hil2 : ((j + 1 : Nat) : Int) < (N : Int) := by have := HIN.out; omega
              have hil3 : (j : Int) + 1 < (N : Int) := by have := HIN.out; omega
              have hil4 : (0 : Int) ≤ (j : Int) + 1 := by omega
              have hnn : (x.1.id != x.1.id) = false := by simp
              clear hq4 hs4 hs5 hq5 nX hx5 hzz hs45 nxm hgn row5 c5 hgl by5 htd hw5 hX hxT
              go_wp2_with fail
              rw [← HW5.out.1, ← HW5.out.2]
              go_region_held3 (fun wx => wx.cell? ⟨X, 0, none⟩ = some (.int .i64 x.1.id) ∧ wx.cell? ⟨X, 1, none⟩ = some (.string (mkS x.1.dest)) ∧ wx.cell? ⟨X, 2, none⟩ = some (.int .i64 x.1.pri) ∧ wx.cell? ⟨X, 3, none⟩ = some (.int .i64 x.1.at_) ∧ wx.cell? ⟨gB, j + 1, none⟩ = some (.int .i64 x.1.id) ∧ (Instr.lookup 62 (.map (some m1)) (.int .i64 x.1.id) false).run Try.prog wx = .ok (agE x.1) wx)
                (first | (with_reducible exact HTd.out) | (with_reducible exact ⟨by assumption, by assumption, by assumption, by assumption, by assumption, by assumption⟩))
                (first | (go_at_call 17; (with_reducible refine HD.out.mono ?_); rintro e w7 ⟨rfl, ⟨g0, g1, g2, g3, g4, g5⟩, gH⟩))
              clear g0 g1 g2 g3 g4 g5 hEq
              go_wp2_with fail
              go_roundw
              case rel => exact ⟨j + 1 + 1, by have := HIN.out; omega, by go_num, Lib.hid ⟨_, gH.out⟩⟩
              case measure => have := HIN.out; simp [intOf]; omega
            · have hpe : (p == q) = true := beq_iff_eq.2 (by have := HBT.out.1; omega)
              have hat2 : decide (px < py) = false := decide_eq_false (by have := HBT.out.1; have := HBT.out.2 (by omega); omega)
              clear hle2
              go_wp2_with fail
              go_quiet (fail)
              have HZ := Lib.hid (HZ0.out.below (below_drewN (Below.refl _ _) nq))
              clear lx ly z0 z1
              go_wp2_with fail
              refine (HT0.out _ HZ.out).mono ?_
              rintro e w4 ⟨rfl, hq4, hs4⟩
              obtain ⟨X, hX⟩ : ∃ X, X = w4.heap.size := ⟨_, rfl⟩
              obtain ⟨w5, hw5⟩ : ∃ w5, w5 = w4.alloc (.cells (ecs x.1) 34) := ⟨_, rfl⟩
              have hs5 : St O2 O2 w4 w5 := by rw [hw5]; exact St.of_below (below_box w4 _)
              have hq5 : HQ w O2 b (takeQ S n) w5 := by rw [hw5]; exact hq4.next (below_box w4 _)
              have nX : ¬ O2 X := fun e => by have := hq4.olt _ e; omega
              have hx5 : w5.heap[X]? = some (.cells (ecs x.1) 34 (0, 0)) := by rw [hw5, hX]; exact newOf w4 _
              have hzz := HZ.out
              have hs45 := hs4.trans hs5
              have nxm := HS.out.2.2.2.2.2.2 x hxT
              have hgn : ¬ O2 gB := hzz.nv gB rfl
              have row5 := own_st hzz.row hs45 hzz.nv
              rw [← HLL.out.2.2.1] at row5
              have c5 : w5.cell? ⟨gB, j + 1, none⟩ = some (.int .i64 x.1.id) := row_get row5.1 (by rw [List.getElem?_map, HS.out.2.1]; rfl)
              have hgl : gB < w5.heap.size := cellLt c5
              have by5 := hzz.by_.st hs45 hzz.n1
              have HKp := Lib.hid (show ∀ wx : World, (∀ k, k < w5.heap.size → ¬ O2 k → wx.heap[k]? = w5.heap[k]?) → wx.cell? ⟨X, 0, none⟩ = some (.int .i64 x.1.id) ∧ wx.cell? ⟨X, 1, none⟩ = some (.string (mkS x.1.dest)) ∧ wx.cell? ⟨X, 2, none⟩ = some (.int .i64 x.1.pri) ∧ wx.cell? ⟨X, 3, none⟩ = some (.int .i64 x.1.at_) ∧ wx.cell? ⟨gB, j + 1, none⟩ = some (.int .i64 x.1.id) ∧ (Instr.lookup 62 (.map (some m1)) (.int .i64 x.1.id) false).run Try.prog wx = .ok (agE x.1) wx from fun wx hk => by
                have hX' := (hk X (ltOf hx5) nX).trans hx5
                refine ⟨cellOf hX' 0, cellOf hX' 1, cellOf hX' 2, cellOf hX' 3, ?_, (by5.1.block (w' := wx) (hk m1 by5.1.lt by5.2)).get_yesE (byL_mem hxT) nxm.1⟩
                have : wx.cell? ⟨gB, j + 1, none⟩ = w5.cell? ⟨gB, j + 1, none⟩ := by unfold World.cell?; rw [hk gB hgl hgn]
                rw [this]; exact c5)
              have htd := take_done (n := n) hzz.q.ok hzz.F (by rw [hzz.age]; exact HS.out.2.2.1)
              have HD := Lib.hid (show Calls Try.prog 17 #[.pointer (some ⟨b, 0, none⟩), .int .i64 x.1.id] w5.drew fun e wx => e = .returned (.bool true) ∧ (wx.cell? ⟨X, 0, none⟩ = some (.int .i64 x.1.id) ∧ wx.cell? ⟨X, 1, none⟩ = some (.string (mkS x.1.dest)) ∧ wx.cell? ⟨X, 2, none⟩ = some (.int .i64 x.1.pri) ∧ wx.cell? ⟨X, 3, none⟩ = some (.int .i64 x.1.at_) ∧ wx.cell? ⟨gB, j + 1, none⟩ = some (.int .i64 x.1.id) ∧ (Instr.lookup 62 (.map (some m1)) (.int .i64 x.1.id) false).run Try.prog wx = .ok (agE x.1) wx) ∧ Hid (OM w O2 b m1 (m1 + 1) T2 g n Q (.slice (some ⟨gB, 0, none⟩) N co) (j + 1 + 1) (doneQ (takeQ S n) x.1.id) wx) from by
                refine (done_h (hq5.drewN 1) x.1.id nxm.1).mono ?_
                rintro e w7 ⟨rfl, hq7, hs7⟩
                have hs57 : St O2 O2 w5 w7 := (St.of_fr (Fr.drewN O2 w5 1)).trans hs7
                exact ⟨by rw [htd.2.2.2.2], HKp.out w7 fun k hk hn => hs57.at hk hn, hzz.step hq7 (hs45.trans hs57) htd.1 (htd.2.2.1.trans hzz.age) (htd.2.2.2.1.trans hzz.lim) (by have := htd.2.1; rwa [htd.2.2.1, hzz.age] at this)⟩)
              have HTd := Lib.hid (HKp.out w5.drew fun k _ _ => rfl)
              have hEq : ∀ w, (Op.equalIn 10000 34 (.agg #[.int .i64 x.1.id, .string (mkS x.1.dest), .int .i64 x.1.pri, .int .i64 x.1.at_]) (.agg #[.int .i64 x.1.id, .string (mkS x.1.dest), .int .i64 x.1.pri, .int .i64 x.1.at_])).run Try.prog w = .ok true w := fun w => by
                have := eqEt x.1 x.1 w
                rwa [eqE_iff.2 rfl] at this
              have HW5 := Lib.hid (And.intro hw5 hX)
              have hil2 : ((j + 1 : Nat) : Int) < (N : Int) := by have := HIN.out; omega
              have hil3 : (j : Int) + 1 < (N : Int) := by have := HIN.out; omega
              have hil4 : (0 : Int) ≤ (j : Int) + 1 := by omega
              have hnn : (x.1.id != x.1.id) = false := by simp
              clear hq4 hs4 hs5 hq5 nX hx5 hzz hs45 nxm hgn row5 c5 hgl by5 htd hw5 hX hxT
              go_wp2_with fail
              rw [← HW5.out.1, ← HW5.out.2]
              go_region_held3 (fun wx => wx.cell? ⟨X, 0, none⟩ = some (.int .i64 x.1.id) ∧ wx.cell? ⟨X, 1, none⟩ = some (.string (mkS x.1.dest)) ∧ wx.cell? ⟨X, 2, none⟩ = some (.int .i64 x.1.pri) ∧ wx.cell? ⟨X, 3, none⟩ = some (.int .i64 x.1.at_) ∧ wx.cell? ⟨gB, j + 1, none⟩ = some (.int .i64 x.1.id) ∧ (Instr.lookup 62 (.map (some m1)) (.int .i64 x.1.id) false).run Try.prog wx = .ok (agE x.1) wx)
                (first | (with_reducible exact HTd.out) | (with_reducible exact ⟨by assumption, by assumption, by assumption, by assumption, by assumption, by assumption⟩))
                (first | (go_at_call 17; (with_reducible refine HD.out.mono ?_); rintro e w7 ⟨rfl, ⟨g0, g1, g2, g3, g4, g5⟩, gH⟩))
              clear g0 g1 g2 g3 g4 g5 hEq
              go_wp2_with fail
              go_roundw
              case rel => exact ⟨j + 1 + 1, by have := HIN.out; omega, by go_num, Lib.hid ⟨_, gH.out⟩⟩
              case measure => have := HIN.out; simp [intOf]; omega
        · obtain rfl : i = N := by omega
          obtain ⟨S, hM⟩ := HI3.out
          have hs := hM.s
          rw [HLL.out.2.2.1, List.drop_length] at hs
          have hs2 : srt S.age n S.L = [] := by rw [hM.age]; exact hs
          have hno := take_none hs2
          have hL0 := srt_nil hs2
          have h3 : tkE S n = zEt := by unfold tkE; rw [hno]
          have h4 : tkB S n = false := by unfold tkB; rw [hno]; rfl
          have h5 : takeQ S n = S := by unfold takeQ; rw [hno]
          have ht := take_h hM.q n (by rw [hM.age]; exact HW.out.2.2.1)
          rw [h3, h4, h5] at ht
          have HT := Lib.hid ht
          have HZ0 := Lib.hid hL0
          clear hM hs hs2 hno hL0 h3 h4 h5 ht
          go_wp2_with fail
          refine HT.out.mono ?_
          rintro e w4 ⟨rfl, hq4, _⟩
          have HQ5 := Lib.hid (hq4.next (below_box w4 (.cells (ecs zEt) 34)))
          clear hq4
          go_wp2_with fail
          have hl := len_h HQ5.out
          rw [HZ0.out] at hl
          refine hl.mono ?_
          rintro e w5 ⟨rfl, rfl⟩
          clear hl
          go_wp2_with fail
          go_ret
          exact ⟨rfl, HQ5.out.below⟩
theorem readyOrder_row (g n : Int) (v : Value) (l : List Et) (w : World) (_ : IntKind.i64.min ≤ g) (_ : g ≤ IntKind.i64.max) (_ : IntKind.i64.min ≤ n) (_ : n ≤ IntKind.i64.max) (hv : EtsAt w v l) :
    Calls Try.prog 7 #[.int .i64 g, .int .i64 n, v] w fun e w' => e = .returned (.bool true) ∧ Below w.heap.size w w' := by
  cases h : rangeO g n l.length with
  | false => exact readyOrder_yes g n v l w hv h
  | true => exact readyOrder_no g n v l w hv h
end Go.Proofs.Ytdfihhjnbikimaa
