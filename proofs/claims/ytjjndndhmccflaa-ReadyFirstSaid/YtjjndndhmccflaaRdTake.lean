/-
  The walk of Take.
-/
import Derived.Test.YtjjndndhmccflaaRdPut
namespace Go.Proofs.Ytjjndndhmccflaa
set_option maxRecDepth 100000
open Go.RowKit
theorem answer_e {fn : Func} {p u : Tmp} (hf : fn.results = #[.cell p 34, .tmp u]) {tmps : Array Value} {w : World} {b : Nat} {y : Et} {t : Bool} (hp : tmps.getD p undef = .pointer (some ⟨b, 0, none⟩)) (hu : tmps.getD u undef = .bool t)
    (hb : w.heap[b]? = some (.cells (ecs y) 34 (0, 0))) : (results fn tmps).run Try.prog w = .ok (.tuple #[agE y, .bool t]) w := by
  rw [results_cell_tmp hf, hp, hu]
  have hl := loadVar_blk (P := Try.prog) (ty := 34) (o := 0) (vs := ecs y) hb Try.underlying34 rfl size_entry (fun j _ => by rw [Nat.zero_add])
  simp [asAddr, Result.andThen, hl]
abbrev zEt : Et := ⟨0, [], 0, 0⟩
/-- What a taking leaves. -/
def TakePost (O : Nat → Prop) (b : Nat) (S : Rq) (n : Int) (w : World) (e : Ending) (w' : World) : Prop :=
  ((takeE S n = none ∧ e = .returned (.tuple #[agE zEt, .bool false])) ∨ ∃ x, takeE S n = some x ∧ e = .returned (.tuple #[agE x.1, .bool true])) ∧ RA O b (takeQ S n) w' ∧ Fr O w w'
theorem cnt_cons (x : Et) (F : List Et) (d : Txt) : cnt (x :: F) d = cnt F d + if d = x.dest then 1 else 0 := by
  unfold cnt
  rw [List.countP_cons]
  by_cases h : d = x.dest
  · subst h; simp
  · have : (x.dest == d) = false := by simp; exact fun e => h e.symm
    rw [this, if_neg h]; simp
theorem cnt_le (F : List Et) (d : Txt) : 0 ≤ cnt F d ∧ cnt F d ≤ F.length := by
  unfold cnt
  have := List.countP_le_length (p := fun e : Et => e.dest == d) (l := F)
  omega
/-- The queue behind one that flies: the two maps. -/
theorem RB.flew {O : Nat → Prop} {b : Nat} {v : Value} {fm gm : Nat} {P : List Wt} {G : List (Txt × Int)} {S : Rq} {w w1 w2 w3 : World} {x : Wt} (h : RB O b v fm gm P G (removeQ S x.1.id) w) (hx : x ∈ S.L) (hok : OkQ S) (hG : (G.length : Int) + S.L.length ≤ S.n)
    (e1 : ∃ m, w1 = w.drewN m) (j1 : JAt w2 fm ((x.1.id, agE x.1) :: (flyL S.F).filter fun p => p.1 != x.1.id)) (t1 : w1.mapTurned w2 fm)
    (e2 : ∃ m, w3 = w2.drewN m) {w4 : World} (j2 : MapAt w4 gm ((x.1.dest, getG G x.1.dest + 1) :: G.filter fun p => p.1 != x.1.dest)) (t2 : w3.mapTurned w4 gm) :
    RB O b v fm gm P ((x.1.dest, getG G x.1.dest + 1) :: G.filter fun p => p.1 != x.1.dest) { S with L := S.L.filter (fun y => y.1.id != x.1.id), F := x.1 :: S.F } w4 ∧ Fr O w w4 := by
  have f1 : Fr O w w1 := Fr.of_drew e1
  have f2 : Fr O w w2 := f1.turned t1 h.ofm
  have f3 : Fr O w w3 := f2.trans0 (Fr.of_drew e2)
  have f4 : Fr O w w4 := f3.turned t2 h.ogm
  have keep : ∀ k, k < w.heap.size → k ≠ fm → k ≠ gm → w4.heap[k]? = w.heap[k]? := fun k hk n1 n2 => by
    obtain ⟨m1, rfl⟩ := e1
    obtain ⟨m2, rfl⟩ := e2
    have g1 := t1.grown
    have g2 := t2.grown
    exact (g2.block k (by have := g1.size; exact Nat.lt_of_lt_of_le hk this) (fun e => n2 (by cases e; rfl))).trans (g1.block k hk (fun e => n1 (by cases e; rfl)))
  have keepF : w4.heap[fm]? = w2.heap[fm]? := by
    obtain ⟨m2, rfl⟩ := e2
    exact t2.grown.block fm j1.lt (fun e => h.ne (by cases e; rfl))
  have hfil : (flyL S.F).filter (fun p => p.1 != x.1.id) = flyL S.F := List.filter_eq_self.2 fun p hp => by
    obtain ⟨e, he, rfl⟩ := List.mem_map.1 hp
    have := hok.apart hx he
    simpa using fun e => this e.symm
  rw [hfil] at j1
  have hbne := h.bne
  have hlt : (S.L.filter (fun y => y.1.id != x.1.id)).length < S.L.length := filter_len_lt hx (by simp)
  have hgl : (G.filter fun p => p.1 != x.1.dest).length ≤ G.length := List.length_filter_le _ _
  refine ⟨⟨(keep b h.blt hbne.1 hbne.2).trans h.box, ⟨h.row.1, ?_⟩, h.perm, j1.block keepF, j2, fun d => ?_, ?_, h.ob, h.ofm, h.ogm, h.ov, h.ne, ?_, fun k hk => Nat.lt_of_lt_of_le (h.olt k hk) f4.size⟩, f4⟩
  · rcases h.row.2 with h0 | ⟨g', cap', cur, hv, hB', hk, hr⟩
    · exact .inl h0
    · have hn := h.gne (g := g') (by rw [hv]; rfl)
      exact .inr ⟨g', cap', cur, hv, hB', (keep g' (ltOf hk) hn.2.1 hn.2.2).trans hk, hr⟩
  · rw [getG_put, cnt_cons]
    have hc : ∀ d, getG G d = Go.Proofs.Ytjjndndhmccflaa.cnt S.F d := h.cnt
    by_cases e : d = x.1.dest
    · subst e; rw [if_pos rfl, if_pos rfl, hc]
    · rw [if_neg e, if_neg e, hc, Int.add_zero]
  · rw [List.length_cons]
    show (((G.filter fun p => p.1 != x.1.dest).length + 1 : Nat) : Int) + (S.L.filter (fun y => y.1.id != x.1.id)).length ≤ S.n
    omega
  · have h0 := h.ok
    refine ⟨hok.age1, hok.age2, hok.lim1, hok.lim2, hok.room1, hok.room2, hok.n0, hok.n1, h0.okL, fun y hy => ?_, ?_, h0.puts, h0.putn, ?_⟩
    · rcases List.mem_cons.1 hy with rfl | hy
      · exact hok.okL x hx
      · exact hok.okF y hy
    · show ((S.L.filter (fun y => y.1.id != x.1.id)).map (fun x => x.1.id) ++ (x.1 :: S.F).map Et.id).Nodup
      rw [List.map_cons]
      refine List.perm_middle.nodup_iff.2 (List.nodup_cons.2 ⟨fun hm => ?_, h0.ids⟩)
      rcases List.mem_append.1 hm with hm | hm
      · obtain ⟨y, hy, e⟩ := List.mem_map.1 hm
        have := (List.mem_filter.1 hy).2
        simp [e] at this
      · obtain ⟨y, hy, e⟩ := List.mem_map.1 hm
        exact hok.apart hx hy e.symm
    · have := hok.len
      show ((S.L.filter (fun y => y.1.id != x.1.id)).length : Int) + (x.1 :: S.F).length ≤ S.n
      rw [List.length_cons]; omega
theorem Fr.far {O : Nat → Prop} {a w w' : World} {B : Nat} (h : Fr O a w) (k : Apart B w.heap.size w w') (hB : a.heap.size ≤ B) : Fr O a w' :=
  ⟨k.os.trans h.os, k.tape.trans h.tape, k.output.trans h.output, Nat.le_trans h.size k.size, fun i hi hn => (k.block i (Nat.lt_of_lt_of_le hi h.size) (by omega)).trans (h.block i hi hn)⟩
theorem RB.far {O : Nat → Prop} {b : Nat} {v : Value} {fm gm : Nat} {P : List Wt} {G : List (Txt × Int)} {S : Rq} {w w' : World} {B : Nat} (h : RB O b v fm gm P G S w) (k : Apart B w.heap.size w w') (hB : ¬ O B) : RB O b v fm gm P G S w' :=
  h.of (fun i hi => k.block i (h.olt i hi) (fun e => hB (e ▸ hi))) k.size
/-- One who was taken, on its way: the boxes. -/
structure TK (O : Nat → Prop) (R X : Nat) (b : Nat) (x : Et) (w wr : World) : Prop where
  fr : Fr O w wr
  r : wr.heap[R]? = some (.cells #[.pointer (some ⟨b, 0, none⟩)] 25 (0, 0))
  e : wr.heap[R + 1]? = some (.cells (ecs zEt) 34 (0, 0))
  x : wr.heap[X]? = some (.cells (ecs x) 34 (0, 0))
set_option maxHeartbeats 8000000 in
theorem take_x {O : Nat → Prop} {b : Nat} {S : Rq} {w : World} (h : RA O b S w) (n : Int) (hn : NowOk n S.age) :
    Calls Try.prog 12 #[.pointer (some ⟨b, 0, none⟩), .int .i64 n] w (TakePost O b S n w) := by
  obtain ⟨v, fm, gm, P, G, h⟩ := h
  obtain ⟨R, hR⟩ : ∃ R, R = w.heap.size := ⟨_, rfl⟩
  obtain ⟨W1, hW1⟩ : ∃ W1, W1 = w.alloc (.cells #[.pointer (some ⟨b, 0, none⟩)] 25) := ⟨_, rfl⟩
  obtain ⟨W2, hW2⟩ : ∃ W2, W2 = W1.alloc (.cells (ecs zEt) 34) := ⟨_, rfl⟩
  have s1 : W1.heap.size = R + 1 := by rw [hW1, hR]; simp
  have b1 : Below w.heap.size w W2 := by rw [hW2]; exact below_next (by rw [hW1]; exact below_box w _) (below_box W1 _)
  have r2 : W2.heap[R]? = some (.cells #[.pointer (some ⟨b, 0, none⟩)] 25 (0, 0)) := by rw [hW2]; exact ((below_box W1 _).block R (by omega)).trans (by rw [hW1, hR]; exact newOf w _)
  have e2 : W2.heap[R + 1]? = some (.cells (ecs zEt) 34 (0, 0)) := by rw [hW2, ← s1]; exact newOf W1 _
  have h2 := h.below b1
  have HS := Lib.hid (sort_x h2 n hn)
  have HW := Lib.hid (show W2 = (w.alloc (.cells #[.pointer (some ⟨b, 0, none⟩)] 25)).alloc (.cells #[.int .i64 0, .string { data := #[] }, .int .i64 0, .int .i64 0] 34) from by rw [hW2, hW1]; rfl)
  have HR := Lib.hid hR
  have HH := Lib.hid (And.intro h (And.intro h2 (And.intro b1 (And.intro r2 e2))))
  have cR2 := cellOf r2 0
  clear hR hW1 hW2 s1 b1 r2 e2 h2 h hn
  go_enter Try.func12, Try.ntmps12
  go_wp2_with fail
  rw [← HW.out, ← HR.out]
  refine HS.out.mono ?_
  rintro e w3 ⟨rfl, h3, f3⟩
  have r3 : w3.heap[R]? = some (.cells #[.pointer (some ⟨b, 0, none⟩)] 25 (0, 0)) := (f3.block R (ltOf HH.out.2.2.2.1) (fun e => by have := HH.out.1.olt R e; have := HR.out; omega)).trans HH.out.2.2.2.1
  have e3 : w3.heap[R + 1]? = some (.cells (ecs zEt) 34 (0, 0)) := (f3.block (R + 1) (ltOf HH.out.2.2.2.2) (fun e => by have := HH.out.1.olt (R + 1) e; have := HR.out; omega)).trans HH.out.2.2.2.2
  have eg : ∀ args w, (callFunc 31 args).run Try.prog w = .ok (.enter 31 args) w := enters_of Try.func31 (by kernel_rfl) rfl
  have hcon := idx_x h3 31 #[.pointer (some ⟨R, 0, none⟩)] (fun x => free S (nrmW x)) eg (fun W x hb => by
    have hg : MapAt W gm G := h3.go.block (hb.block gm h3.go.lt)
    have k := may_x (nrmW x) R b gm S.lim G W (by have := (okE_iff.1 (nrm_ok x.1)).2.2.1; show (nrm x.1).dest.length ≤ _; omega) ((hb.cell (p := ⟨R, 0, none⟩) (ltOf r3)).trans (cellOf r3 0)) ((hb.cell (p := ⟨b, 1, none⟩) h3.blt).trans h3.c1) ((hb.cell (p := ⟨b, 6, none⟩) h3.blt).trans h3.c6) hg
    refine k.mono ?_
    rintro e w' ⟨rfl, hb'⟩
    exact ⟨by rw [h3.cnt]; rfl, below_next hb hb'⟩)
  have HE := Lib.hid (show ∀ r, Idx (fun x => free S (nrmW x)) (srt S.age n S.L) r → Idx (free S) (srt S.age n S.L) r from fun r hr => by
    have hok := h3.okP
    have e : ∀ Q : List Wt, (∀ x ∈ Q, okE x.1 = true ∧ x.1.id ≤ 9223372036854775807) → Q.find? (fun x => free S (nrmW x)) = Q.find? (free S) := by
      intro Q hQ
      induction Q with
      | nil => rfl
      | cons y r ih =>
        have e1 : nrmW y = y := by unfold nrmW; rw [nrm_of (hQ y (List.mem_cons_self ..)).1]
        rw [List.find?_cons, List.find?_cons, e1, ih fun x hx => hQ x (List.mem_cons_of_mem _ hx)]
    unfold Idx at hr ⊢
    rw [e _ hok] at hr
    exact hr)
  have HC := Lib.hid hcon
  have H3 := Lib.hid (And.intro h3 (And.intro ((Fr.of_below HH.out.2.2.1 : Fr O w W2).trans0 f3) (And.intro r3 e3)))
  have c4 := h3.c4
  have cR := cellOf r3 0
  obtain ⟨A, c, hv⟩ := h3.slice
  have HV := Lib.hid hv
  subst hv
  clear hcon eg h3 f3 r3 e3 cR2 HS
  go_wp2_with fail
  refine HC.out.mono ?_
  rintro e w4 ⟨⟨r, rfl, hr⟩, hb4⟩
  have hr := HE.out r hr
  have H4 := Lib.hid (And.intro (H3.out.1.below hb4) (And.intro (H3.out.2.1.trans0 (Fr.of_below hb4)) (And.intro ((hb4.block R (ltOf H3.out.2.2.1)).trans H3.out.2.2.1) ((hb4.block (R + 1) (ltOf H3.out.2.2.2)).trans H3.out.2.2.2))))
  clear hb4 HC HE c4 cR H3
  rcases hr with ⟨rfl, hnone⟩ | ⟨k, x, rfl, hx, hf⟩
  · have HN := Lib.hid hnone
    clear hnone
    go_wp2_with (refine wpList_store_blk rfl 34 _ _ rfl (R + 1) 0 34 (ecs zEt) (ecs zEt) (ecs zEt) rfl rfl H4.out.2.2.2 size_entry (ecs_one _) (Nat.le_of_eq rfl) (ecs_whole zEt zEt) ?_; intro w5 hB5 hA5)
    have hRO : ¬ O (R + 1) := fun e => by have := HH.out.1.olt _ e; have := HR.out; omega
    have et : takeQ S n = S := by unfold takeQ; rw [show takeE S n = none from HN.out]
    refine bodyPost_ret (v := .tuple #[agE zEt, .bool false]) (answer_e rfl rfl rfl hB5) rfl ⟨.inl ⟨HN.out, rfl⟩, ?_, H4.out.2.1.far hA5 (by have := HR.out; omega)⟩
    rw [et]
    exact ⟨_, _, _, _, _, H4.out.1.far hA5 hRO⟩
  · obtain ⟨g, cap, cur, hv, hg, hc1, hc2, hc3, hc4, hO⟩ := H4.out.1.form (by have := (List.getElem?_eq_some_iff.1 hx).1; omega)
    have hlt := (List.getElem?_eq_some_iff.1 hx).1
    have few := H4.out.1.few
    injection hv with hv1 _ hv3
    subst hv1
    subst hv3
    obtain ⟨X, hX⟩ : ∃ X, X = w4.heap.size := ⟨_, rfl⟩
    obtain ⟨W6, hW6⟩ : ∃ W6, W6 = w4.alloc (.cells (ecs x.1) 34) := ⟨_, rfl⟩
    have b6 : Below w4.heap.size w4 W6 := by rw [hW6]; exact below_box w4 _
    have x6 : W6.heap[X]? = some (.cells (ecs x.1) 34 (0, 0)) := by rw [hW6, hX]; exact newOf w4 _
    have HTK := Lib.hid (show TK O R X b x.1 w W6 from ⟨H4.out.2.1.trans0 (Fr.of_below b6), (b6.block R (ltOf H4.out.2.2.1)).trans H4.out.2.2.1, (b6.block (R + 1) (ltOf H4.out.2.2.2)).trans H4.out.2.2.2, x6⟩)
    have H6 := Lib.hid (H4.out.1.below b6)
    have g6 := (b6.block g (ltOf hg)).trans hg
    have HD := Lib.hid (del_x (w := W6.drew) g6 hlt hc1 hc3 hc4)
    have q0 : w4.cell? ⟨g, k * 5, none⟩ = some (.int .i64 x.1.id) := H4.out.1.get (c := 0) rfl hx (by omega)
    have q1 : w4.cell? ⟨g, k * 5 + 1, none⟩ = some (.string (mkS x.1.dest)) := H4.out.1.get (c := 1) rfl hx (by omega)
    have q2 : w4.cell? ⟨g, k * 5 + 2, none⟩ = some (.int .i64 x.1.pri) := H4.out.1.get (c := 2) rfl hx (by omega)
    have q3 : w4.cell? ⟨g, k * 5 + 3, none⟩ = some (.int .i64 x.1.at_) := H4.out.1.get (c := 3) rfl hx (by omega)
    have HXS := Lib.hid (And.intro hx (And.intro hf (And.intro hc1 hc2)))
    have HW6 := Lib.hid hW6
    have HXz := Lib.hid hX
    have wk : IntKind.i64.wrap ((k : Int) + 1) = (k : Int) + 1 := by simp [IntKind.wrap, IntKind.bits, IntKind.signed]; omega
    have hk0 : decide ((k : Int) < 0) = false := decide_eq_false (by omega)
    have hkl : (k : Int) < ((srt S.age n S.L).length : Int) := by omega
    have c4 := H4.out.1.c4
    have cR := cellOf H4.out.2.2.1 0
    generalize hL : (srt S.age n S.L).length = l at *
    clear hx hf hc1 hc2 hc3 hc4 hg hO b6 x6 g6 hX hW6
    go_wp2_with fail
    rw [← HW6.out, ← HXz.out]
    have c4 := H6.out.c4
    have cR := cellOf HTK.out.r 0
    have HFIN := Lib.hid (show ∀ w7, DelPost g c (srt S.age n S.L) k W6.drew (.returned (.slice (some ⟨g, 0, none⟩) (l - 1) c)) w7 → (w7.cell? ⟨R, 0, none⟩ = some (.pointer (some ⟨b, 0, none⟩)) ∧ w7.cell? ⟨b, 4, none⟩ = some (.slice (some ⟨g, 0, none⟩) l c) ∧ w7.frozen? ⟨b, 4, none⟩ = false) ∧
        RB O b (.slice (some ⟨g, 0, none⟩) (l - 1) c) fm gm ((srt S.age n S.L).eraseIdx k) G (removeQ S x.1.id) (w7.setCell ⟨b, 4, none⟩ (.slice (some ⟨g, 0, none⟩) (l - 1) c)) ∧ TK O R X b x.1 w (w7.setCell ⟨b, 4, none⟩ (.slice (some ⟨g, 0, none⟩) (l - 1) c)) from fun w7 hd => by
      have hgO := H6.out.ov g rfl
      have lo := H6.out.olt
      have hwR : R = w.heap.size := HR.out
      have old := HH.out.1.olt
      have gR : R ≠ g := fun e => by have := old g hgO; omega
      have gE : R + 1 ≠ g := fun e => by have := old g hgO; omega
      have hs4 := H4.out.2.1.size
      have gX : X ≠ g := fun e => by have := old g hgO; have := HXz.out; omega
      have gb := (H6.out.gne (g := g) rfl).1
      have bR : R ≠ b := fun e => by have := HH.out.1.blt; omega
      have bE : R + 1 ≠ b := fun e => by have := HH.out.1.blt; omega
      have bX : X ≠ b := fun e => by have := HH.out.1.blt; have := HXz.out; omega
      have f7 := hd.2.2
      have hb7 : w7.heap[b]? = W6.heap[b]? := f7.block b H6.out.blt (Ne.symm gb)
      have hR7 : w7.heap[R]? = W6.heap[R]? := f7.block R (ltOf HTK.out.r) gR
      have hE7 : w7.heap[R + 1]? = W6.heap[R + 1]? := f7.block (R + 1) (ltOf HTK.out.e) gE
      have hX7 : w7.heap[X]? = W6.heap[X]? := f7.block X (ltOf HTK.out.x) gX
      have hgone := RB.gone (w := W6.drew) (g := g) (cap := c) (k := k) (x := x) H6.out.drew (by rw [hL]) (by rw [hL]; exact HXS.out.2.2) HXS.out.1 (by rw [hL]; exact hd)
      rw [hL] at hgone
      refine ⟨⟨(cellOf (hR7.trans HTK.out.r) 0), (cellOf (hb7.trans H6.out.box) 4), freeOf (hb7.trans H6.out.box) 4⟩, hgone.1, ⟨HTK.out.fr.trans0 (show Fr O W6 _ from ((Fr.drewN O W6 1).trans0 hgone.2)), ?_, ?_, ?_⟩⟩
      · rw [set_far bR]; exact hR7.trans HTK.out.r
      · rw [set_far bE]; exact hE7.trans HTK.out.e
      · rw [set_far bX]; exact hX7.trans HTK.out.x)
    clear q0 q1 q2 q3 hk0
    go_cut [] from 41 (fun wc => Hid (RB O b (.slice (some ⟨g, 0, none⟩) (l - 1) c) fm gm ((srt S.age n S.L).eraseIdx k) G (removeQ S x.1.id) wc ∧ TK O R X b x.1 w wc))
    case first =>
      have HD2 := HD.out
      unfold DelPost at HD2
      rw [hL] at HD2
      have HD2 := Lib.hid HD2
      go_region_with (first | (go_at_call 33; (with_reducible refine HD2.out.mono ?_); rintro e w7 ⟨rfl, hd1, hd2⟩; obtain ⟨⟨z1, z2, z3⟩, z4⟩ := HFIN.out w7 ⟨by rw [hL], by rw [hL]; exact hd1, hd2⟩; have HZ := Lib.hid z4; clear z4 hd1 hd2))
      all_goals
        go_wp2_with fail
        go_meet
        case rel => exact HZ
    case rest =>
      have HQ := hcut
      have hxL : x ∈ S.L := (srt_perm S.age n S.L).mem_iff.1 (List.mem_of_getElem? HXS.out.1)
      have okx := HH.out.1.ok.okL x hxL
      have nmx : Nm x.1.id := ⟨by have := (okE_iff.1 okx.1).1; omega, okx.2⟩
      have dx : x.1.dest.length ≤ 255 := (okE_iff.1 okx.1).2.2.1
      have hFl : (flyL S.F).length ≤ 1000000 := by
        rw [flyL, List.length_map]
        have := HH.out.1.ok.len; have := HH.out.1.ok.n1; omega
      obtain ⟨w8, run8, j8, t8⟩ := JAt.putE (w := wc.drew) (HQ.out.1.fly.block (w' := wc.drew) rfl) (n := x.1.id) (agE x.1) nmx hFl
      have hS8 : ∀ k, k < wc.heap.size → k ≠ fm → w8.heap[k]? = wc.heap[k]? := fun k hk hne => t8.grown.block k hk (fun e => hne (by cases e; rfl))
      have nO : ∀ k, w.heap.size ≤ k → ¬ O k := fun k hk e => by have := HH.out.1.olt k e; omega
      have hwR : R = w.heap.size := HR.out
      have hwX : w.heap.size ≤ X := by have := H4.out.2.1.size; have := HXz.out; omega
      have nRf : R ≠ fm := fun e => nO R (by omega) (e ▸ HQ.out.1.ofm)
      have nEf : R + 1 ≠ fm := fun e => nO (R + 1) (by omega) (e ▸ HQ.out.1.ofm)
      have nXf : X ≠ fm := fun e => nO X hwX (e ▸ HQ.out.1.ofm)
      have nRg : R ≠ gm := fun e => nO R (by omega) (e ▸ HQ.out.1.ogm)
      have nEg : R + 1 ≠ gm := fun e => nO (R + 1) (by omega) (e ▸ HQ.out.1.ogm)
      have nXg : X ≠ gm := fun e => nO X hwX (e ▸ HQ.out.1.ogm)
      have nEX : R + 1 ≠ X := fun e => by have := HXz.out; have := ltOf H4.out.2.2.2; omega
      have hbne := HQ.out.1.bne
      have hbS : ∀ wr : World, wr.heap[R]? = wc.heap[R]? → wr.heap[b]? = wc.heap[b]? → wr.heap[X]? = wc.heap[X]? → wr.cell? ⟨R, 0, none⟩ = some (.pointer (some ⟨b, 0, none⟩)) ∧ wr.cell? ⟨b, 5, none⟩ = some (.map (some fm)) ∧ wr.cell? ⟨X, 0, none⟩ = some (.int .i64 x.1.id) ∧ wr.cell? ⟨X, 1, none⟩ = some (.string (mkS x.1.dest)) ∧ wr.cell? ⟨X, 2, none⟩ = some (.int .i64 x.1.pri) ∧ wr.cell? ⟨X, 3, none⟩ = some (.int .i64 x.1.at_) := fun wr h1 h2 h3 => ⟨cellOf (h1.trans HQ.out.2.r) 0, cellOf (h2.trans HQ.out.1.box) 5, cellOf (h3.trans HQ.out.2.x) 0, cellOf (h3.trans HQ.out.2.x) 1, cellOf (h3.trans HQ.out.2.x) 2, cellOf (h3.trans HQ.out.2.x) 3⟩
      have HT := Lib.hid (hbS wc.drew rfl rfl rfl)
      have HT8 := Lib.hid (hbS w8 (hS8 R (ltOf HQ.out.2.r) nRf) (hS8 b HQ.out.1.blt hbne.1) (hS8 X (ltOf HQ.out.2.x) nXf))
      have R8 := (hS8 R (ltOf HQ.out.2.r) nRf).trans HQ.out.2.r
      have E8 := (hS8 (R + 1) (ltOf HQ.out.2.e) nEf).trans HQ.out.2.e
      have X8 := (hS8 X (ltOf HQ.out.2.x) nXf).trans HQ.out.2.x
      have B8 := (hS8 b HQ.out.1.blt hbne.1).trans HQ.out.1.box
      have g8 : MapAt w8.drew gm G := (HQ.out.1.go.block (w' := w8) (hS8 gm HQ.out.1.go.lt (Ne.symm HQ.out.1.ne))).block rfl
      have hlook := MapAt.get g8 (n := x.1.dest) (by omega)
      have hGl : G.length ≤ 1000000 := by have := HH.out.1.glen; have := HH.out.1.ok.n1; omega
      obtain ⟨w9, run9, j9, t9⟩ := g8.put (n := x.1.dest) (getG G x.1.dest + 1) (by omega) hGl
      have hq : getG G x.1.dest = cnt S.F x.1.dest := HH.out.1.cnt _
      have hq2 := cnt_le S.F x.1.dest
      have hwr : IntKind.i64.wrap (getG G x.1.dest + 1) = getG G x.1.dest + 1 := by
        have := HH.out.1.ok.len; have := HH.out.1.ok.n1
        rw [hq]; simp [IntKind.wrap, IntKind.bits, IntKind.signed]; omega
      have hS9 : ∀ k, k < w8.heap.size → k ≠ gm → w9.heap[k]? = w8.heap[k]? := fun k hk hne => t9.grown.block k hk (fun e => hne (by cases e; rfl))
      have E9 := (hS9 (R + 1) (ltOf E8) nEg).trans E8
      have X9 := (hS9 X (ltOf X8) nXg).trans X8
      have HFL := Lib.hid (RB.flew (x := x) HQ.out.1 hxL HH.out.1.ok HH.out.1.glen ⟨1, rfl⟩ j8 t8 ⟨1, rfl⟩ j9 t9)
      have HE9 := Lib.hid (And.intro E9 (And.intro X9 (nO (R + 1) (by omega))))
      have c81 := cellOf R8 0
      have c82 := cellOf B8 6
      have c83 := cellOf X8 1
      have q90 := cellOf X9 0
      have q91 := cellOf X9 1
      have q92 := cellOf X9 2
      have q93 := cellOf X9 3
      have s90 : w8.heap.size = w8.heap.size := rfl
      have HFr := Lib.hid (HQ.out.2.fr.trans0 HFL.out.2)
      clear hS8 hS9 hbS j8 t8 j9 t9 g8 R8 E8 X8 B8 E9 X9 hq hq2 okx nmx hFl hGl hbne nRf nEf nXf nRg nEg nXg hcut s90 dx hwR hwX nO
      generalize getG G x.1.dest = q at *
      go_wp2_with fail
      go_region_held3 (fun wr => wr.cell? ⟨R, 0, none⟩ = some (.pointer (some ⟨b, 0, none⟩)) ∧ wr.cell? ⟨b, 5, none⟩ = some (.map (some fm)) ∧ wr.cell? ⟨X, 0, none⟩ = some (.int .i64 x.1.id) ∧ wr.cell? ⟨X, 1, none⟩ = some (.string (mkS x.1.dest)) ∧ wr.cell? ⟨X, 2, none⟩ = some (.int .i64 x.1.pri) ∧ wr.cell? ⟨X, 3, none⟩ = some (.int .i64 x.1.at_))
        (first | (with_reducible exact HT.out) | (with_reducible exact HT8.out))
        (fail)
      go_wp2_with fail
      go_region
      all_goals
        go_wp2_with (refine wpList_store_blk rfl 34 _ _ rfl (R + 1) 0 34 (ecs zEt) (ecs x.1) (ecs x.1) rfl rfl HE9.out.1 size_entry (ecs_one _) (Nat.le_of_eq rfl) (ecs_whole zEt x.1) ?_; intro w10 hB10 hA10)
        refine bodyPost_ret (v := .tuple #[agE x.1, .bool true]) (answer_e rfl rfl rfl hB10) rfl ⟨.inr ⟨x, HXS.out.2.1, rfl⟩, ?_, HFr.out.far hA10 (by have := HR.out; omega)⟩
        have et : takeQ S n = { S with L := S.L.filter (fun y => y.1.id != x.1.id), F := x.1 :: S.F } := by unfold takeQ; rw [show takeE S n = some x from HXS.out.2.1]
        rw [et]
        exact ⟨_, _, _, _, _, HFL.out.1.far hA10 HE9.out.2.2⟩
end Go.Proofs.Ytjjndndhmccflaa
