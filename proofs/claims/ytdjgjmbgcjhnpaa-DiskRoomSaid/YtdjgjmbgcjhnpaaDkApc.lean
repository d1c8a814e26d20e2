/-
  The walk of Append's closure.
-/
import Derived.Test.YtdjgjmbgcjhnpaaDkApp
import Derived.Deep.RegionLaw
namespace Go.Proofs.Ytdjgjmbgcjhnpaa
set_option maxRecDepth 100000
open Go.RowKit Go.Shelf Go.ChangeMaps Go.MapKept
/-- Append's five boxes. -/
structure AX (w : World) (lim b : Nat) (th : Bool) (fv : Value) (n s : Txt) (t f x y z : Nat) : Prop where
  there : w.heap[t]? = some (.cells #[.bool th] 4 (0, 0))
  file : w.heap[f]? = some (.cells #[fv] 54 (0, 0))
  disk : w.heap[x]? = some (.cells #[.pointer (some ⟨b, 0, none⟩)] 25 (0, 0))
  name : w.heap[y]? = some (.cells #[.string (mkS n)] 9 (0, 0))
  text : w.heap[z]? = some (.cells #[.string (mkS s)] 9 (0, 0))
  low : lim ≤ t ∧ lim ≤ f ∧ lim ≤ x ∧ lim ≤ y ∧ lim ≤ z
theorem AX.kept {w w' : World} {lim b : Nat} {th : Bool} {fv : Value} {n s : Txt} {t f x y z : Nat} (h : AX w lim b th fv n s t f x y z) (hk : ∀ k, lim ≤ k → k < w.heap.size → w'.heap[k]? = w.heap[k]?) : AX w' lim b th fv n s t f x y z :=
  ⟨(hk _ h.low.1 (ltOf h.there)).trans h.there, (hk _ h.low.2.1 (ltOf h.file)).trans h.file, (hk _ h.low.2.2.1 (ltOf h.disk)).trans h.disk, (hk _ h.low.2.2.2.1 (ltOf h.name)).trans h.name, (hk _ h.low.2.2.2.2 (ltOf h.text)).trans h.text, h.low⟩
theorem tail_keep {W w' : World} {f z ad : Nat} {v : Value} {s : Txt} (hf : W.cell? ⟨f, 0, none⟩ = some (ptrV ad)) (hz : W.cell? ⟨z, 0, none⟩ = some (.string (mkS s))) (ha : W.cell? ⟨ad, 0, none⟩ = some v) (hn : ∀ k, v.ownBlock = some k → f ≠ k ∧ z ≠ k ∧ ad ≠ k) (h : W.grownBy w' v.ownBlock) :
    w'.cell? ⟨f, 0, none⟩ = some (ptrV ad) ∧ w'.cell? ⟨z, 0, none⟩ = some (.string (mkS s)) ∧ w'.cell? ⟨ad, 0, none⟩ = some v := by
  have cl : ∀ k i, (∀ j, v.ownBlock = some j → k ≠ j) → k < W.heap.size → w'.cell? ⟨k, i, none⟩ = W.cell? ⟨k, i, none⟩ := fun k i hk hl => by simp only [World.cell?, h.block k hl (fun e => hk k e.symm rfl)]
  exact ⟨(cl f 0 (fun j hj => (hn j hj).1) (World.block_lt_of_cell? W _ hf)).trans hf, (cl z 0 (fun j hj => (hn j hj).2.1) (World.block_lt_of_cell? W _ hz)).trans hz, (cl ad 0 (fun j hj => (hn j hj).2.2) (World.block_lt_of_cell? W _ ha)).trans ha⟩
/-- What a block's first cell holds. -/
def cellV (w : World) (a : Nat) : Value := (w.cell? ⟨a, 0, none⟩).getD undef
theorem cellV_of {w : World} {a : Nat} {v : Value} (h : w.cell? ⟨a, 0, none⟩ = some v) : w.cell? ⟨a, 0, none⟩ = some (cellV w a) := by rw [cellV, h]; rfl
theorem cellV_eq {w : World} {a : Nat} {v : Value} (h : w.cell? ⟨a, 0, none⟩ = some v) : cellV w a = v := by rw [cellV, h]; rfl
theorem cell_far (w : World) {a k : Nat} (hne : k ≠ a) (u : Value) : (w.setCell ⟨a, 0, none⟩ u).cell? ⟨k, 0, none⟩ = w.cell? ⟨k, 0, none⟩ := by simp only [World.cell?, set_other w a 0 u k hne]
theorem HB0 {w w' : World} {B lim b m : Nat} {S : Dk} {F : List Gd} (h : DA w B lim b m S F) (hb : Below w.heap.size w w') : Below B w w' := h.base hb
/-- As 'Left', and these blocks stay. -/
def LeftK (Kp : Nat → Prop) (B b m : Nat) (S : Dk) (w w' : World) : Prop := ∃ F, DA w' B w'.heap.size b m S F ∧ Below B w w' ∧ Kept Kp w w' b F
theorem LeftK.next {Kp : Nat → Prop} {B b m : Nat} {S : Dk} {w w1 w' : World} (h : LeftK Kp B b m S w1 w') (hb : Below B w w1) (hk : ∀ k, Kp k → w1.heap[k]? = w.heap[k]?) : LeftK Kp B b m S w w' := by
  obtain ⟨F, h1, h2, h3⟩ := h
  exact ⟨F, h1, hb.trans h2, fun k hkp => ⟨(h3 k hkp).1.trans (hk k hkp), (h3 k hkp).2⟩⟩
/-- What the last region of the closure needs: a file, in two boxes' words. -/
structure TF (Kp : Nat → Prop) (w : World) (B b m : Nat) (S : Dk) (g : Gd) (f z : Nat) (s : Txt) : Prop where
  base : B ≤ w.drew.heap.size
  own : w.drew.ownsRow B 5 1 (cellV w.drew g.adr) g.byt.length (bytesV g.byt)
  start : w.drew.cell? ⟨f, 0, none⟩ = some (ptrV g.adr) ∧ w.drew.cell? ⟨z, 0, none⟩ = some (.string (mkS s)) ∧ w.drew.cell? ⟨g.adr, 0, none⟩ = some (cellV w.drew g.adr)
  grown : ∀ w', w.drew.grownBy w' (cellV w.drew g.adr).ownBlock → (w'.cell? ⟨f, 0, none⟩ = some (ptrV g.adr) ∧ w'.cell? ⟨z, 0, none⟩ = some (.string (mkS s)) ∧ w'.cell? ⟨g.adr, 0, none⟩ = some (cellV w' g.adr)) ∧ w'.frozen? ⟨g.adr, 0, none⟩ = false
  stored : ∀ w' u, w.drew.grownBy w' (cellV w.drew g.adr).ownBlock → (w'.setCell ⟨g.adr, 0, none⟩ u).cell? ⟨f, 0, none⟩ = some (ptrV g.adr) ∧ (w'.setCell ⟨g.adr, 0, none⟩ u).cell? ⟨z, 0, none⟩ = some (.string (mkS s)) ∧ (w'.setCell ⟨g.adr, 0, none⟩ u).cell? ⟨g.adr, 0, none⟩ = some (cellV (w'.setCell ⟨g.adr, 0, none⟩ u) g.adr)
  left : ∀ A c w', w'.ownsRow B 5 1 (.slice A (g.byt ++ s).length c) (g.byt ++ s).length (bytesV (g.byt ++ s)) → w.drew.grownBy w' (cellV w.drew g.adr).ownBlock → (∀ k, (Value.slice A (g.byt ++ s).length c).ownBlock = some k → (cellV w.drew g.adr).ownBlock = some k ∨ w.drew.heap.size ≤ k) →
    LeftK Kp B b m (putD S (S.fs.map (fun f => if f.name == g.name then ⟨f.name, f.byt ++ s, f.syn⟩ else f))) w (w'.setCell ⟨g.adr, 0, none⟩ (.slice A (g.byt.length + s.length) c))
theorem tail_facts {w : World} {B lim b m : Nat} {S : Dk} {g : Gd} {R : List Gd} (h : DA w B lim b m S (g :: R)) (s : Txt) (f z : Nat) (cF : w.cell? ⟨f, 0, none⟩ = some (ptrV g.adr)) (cZ : w.cell? ⟨z, 0, none⟩ = some (.string (mkS s))) (hz : ∀ k, (k = f ∨ k = z) → k ≠ g.adr ∧ ∀ j, g.v.ownBlock = some j → k ≠ j)
    (Kp : Nat → Prop) (hKp : ∀ k, Kp k → k < w.heap.size ∧ k ≠ b ∧ g.v.ownBlock ≠ some k ∧ ∀ x ∈ g :: R, k ≠ x.adr) : TF Kp w B b m S g f z s := by
  have hg := h.gs g (by simp)
  have cV : w.drew.cell? ⟨g.adr, 0, none⟩ = some g.v := hg.cells.1
  have hN : ∀ k, g.v.ownBlock = some k → f ≠ k ∧ z ≠ k ∧ g.adr ≠ k := fun k hk => ⟨(hz f (.inl rfl)).2 k hk, (hz z (.inr rfl)).2 k hk, hg.adr_row hg hk⟩
  have hb : B ≤ w.drew.heap.size := by have := h.low; have := h.lt; have := h.lim; show B ≤ w.heap.size; omega
  have hv := cellV_eq cV
  have hK : ∀ w', w.drew.grownBy w' (cellV w.drew g.adr).ownBlock → w'.cell? ⟨f, 0, none⟩ = some (ptrV g.adr) ∧ w'.cell? ⟨z, 0, none⟩ = some (.string (mkS s)) ∧ w'.cell? ⟨g.adr, 0, none⟩ = some (cellV w' g.adr) := fun w' k => by
    rw [hv] at k
    obtain ⟨q1, q2, q3⟩ := tail_keep (W := w.drew) cF cZ cV hN k
    exact ⟨q1, q2, cellV_of q3⟩
  have hA : ∀ w', w.drew.grownBy w' (cellV w.drew g.adr).ownBlock → w'.heap[g.adr]? = some (.cells #[g.v, .int .i64 (g.syn : Int)] 58 (0, 0)) := fun w' k => by
    rw [hv] at k
    exact (k.block _ (ltOf hg.blk) (fun e => hg.adr_row hg e.symm rfl)).trans hg.blk
  refine ⟨hb, by rw [hv]; exact hg.own, ⟨cF, cZ, cellV_of cV⟩, fun w' k => ⟨hK w' k, freeOf (hA w' k) 0⟩, fun w' u k => ?_, fun A c w' k1 k2 k3 => ?_⟩
  · obtain ⟨q1, q2, q3⟩ := hK w' k
    exact ⟨(cell_far _ (hz f (.inl rfl)).1 _).trans q1, (cell_far _ (hz z (.inr rfl)).1 _).trans q2, cellV_of (v := u) (by rw [cellOf (setOf (hA w' k) 0 u)]; rfl)⟩
  · rw [hv] at k2 k3
    rw [← List.length_append]
    refine ⟨_, (app_at h.drew s k1 k2 k3).raise (by simp [World.setCell]) (Nat.le_refl _), (((Below.refl B w).drew).grown k2 hb (fun k hk => hg.rlow hk)).setCell (p := ⟨g.adr, 0, none⟩) hg.low _, fun k hk => ?_⟩
    obtain ⟨p1, p2, p3, p4⟩ := hKp k hk
    refine ⟨(set_other _ _ _ _ _ (p4 g (by simp))).trans (k2.block k p1 (fun e => p3 e.symm)), ?_, p2, fun x hx => ?_⟩
    · rw [World.size_setCell]
      exact Nat.lt_of_lt_of_le p1 k2.size
    · rcases List.mem_cons.1 hx with rfl | hx
      · exact p4 g (by simp)
      · exact p4 x (by simp [hx])
set_option maxHeartbeats 4000000 in
/-- The file is there. -/
theorem append1_yes {w : World} {B lim b m : Nat} {S : Dk} {g : Gd} {R : List Gd} (h : DA w B lim b m S (g :: R)) (n s : Txt) (t f x y z : Nat) (ax : AX w lim b true (ptrV g.adr) n s t f x y z) (hl : g.byt.length + s.length ≤ 100000000000) (Kp : Nat → Prop) (hKp : ∀ k, Kp k → lim ≤ k ∧ k < w.heap.size) :
    Calls Try.prog 28 #[.pointer (some ⟨t, 0, none⟩), .pointer (some ⟨f, 0, none⟩), .pointer (some ⟨x, 0, none⟩), .pointer (some ⟨y, 0, none⟩), .pointer (some ⟨z, 0, none⟩)] w fun e w' => e = .returned (.tuple #[]) ∧ LeftK Kp B b m (putD S (S.fs.map (fun f => if f.name == g.name then ⟨f.name, f.byt ++ s, f.syn⟩ else f))) w w' := by
  have hg := h.gs g (by simp)
  have cT : w.cell? ⟨t, 0, none⟩ = some (.bool true) := cellOf ax.there 0
  have HTF := Lib.hid (tail_facts h s f z (cellOf ax.file 0) (cellOf ax.text 0) (fun k hk => ⟨by have := hg.lt; have := ax.low; omega, fun j hj => by have := hg.rowlt j hj; have := ax.low; omega⟩) Kp (fun k hk => ⟨(hKp k hk).2, by have := h.lt; have := (hKp k hk).1; omega, fun e => by have := hg.rowlt k e; have := (hKp k hk).1; omega, fun x hx => by have := (h.gs x hx).lt; have := (hKp k hk).1; omega⟩))
  have HL := Lib.hid hl
  clear h ax hl hg
  go_enter Try.func28, Try.ntmps28
  go_wp2_with fail
  obtain ⟨j1, j2, j3⟩ := HTF.out.start
  go_region_law ((refine step_app rfl (.tmp 20) (.tmp 21) rfl rfl HTF.out.own HTF.out.base s rfl HL.out ?_; intro A c w2 k1 k2 k3; have K1 := Lib.hid k1; have K2 := Lib.hid k2; have K3 := Lib.hid k3; clear k1 k2 k3; obtain ⟨⟨q1, q2, q3⟩, f2⟩ := HTF.out.grown w2 K2.out))
  all_goals
    have HX := Lib.hid (HTF.out.left A c w2 K1.out K2.out K3.out)
    clear K1 K2 K3 q1 q2 q3 f2 j1 j2 j3
    go_wp2_with fail
    go_end0
    exact ⟨rfl, HX.out⟩
set_option maxHeartbeats 4000000 in
/-- A new file. -/
theorem append1_no {w : World} {B lim b m : Nat} {S : Dk} {F : List Gd} (h : DA w B lim b m S F) (n s : Txt) (hno : hasF S.fs n = false) (t f x y z : Nat) (ax : AX w lim b false (.pointer none) n s t f x y z) (hd1 : f ≠ t ∧ f ≠ x ∧ f ≠ y ∧ f ≠ z) (hl : s.length ≤ 1000000000) (hn : n.length ≤ 1000000000000) (hF : F.length ≤ 1000000) (Kp : Nat → Prop) (hKp : ∀ k, Kp k → lim ≤ k ∧ k < w.heap.size ∧ k ≠ f) :
    Calls Try.prog 28 #[.pointer (some ⟨t, 0, none⟩), .pointer (some ⟨f, 0, none⟩), .pointer (some ⟨x, 0, none⟩), .pointer (some ⟨y, 0, none⟩), .pointer (some ⟨z, 0, none⟩)] w fun e w' => e = .returned (.tuple #[]) ∧ LeftK Kp B b m (putD S (⟨n, s, 0⟩ :: S.fs)) w w' := by
  have cT : w.cell? ⟨t, 0, none⟩ = some (.bool false) := cellOf ax.there 0
  have hb0 := below_box w (.cells #[.slice none 0 0, .int .i64 0] 58)
  have hf0 := (hb0.block _ (ltOf ax.file)).trans ax.file
  have cF0 : (w.alloc (.cells #[.slice none 0 0, .int .i64 0] 58)).cell? ⟨f, 0, none⟩ = some (.pointer none) := cellOf hf0 0
  have fF0 : (w.alloc (.cells #[.slice none 0 0, .int .i64 0] 58)).frozen? ⟨f, 0, none⟩ = false := freeOf hf0 0
  obtain ⟨W1, hW1⟩ : ∃ W1, (w.alloc (.cells #[.slice none 0 0, .int .i64 0] 58)).setCell ⟨f, 0, none⟩ (ptrV w.heap.size) = W1 := ⟨_, rfl⟩
  have hw : W1.heap.size = w.heap.size + 1 := by rw [← hW1, World.size_setCell]; simp
  have hfl := ltOf ax.file
  have hot : ∀ k, k ≠ f → k < w.heap.size → W1.heap[k]? = w.heap[k]? := fun k hk hkl => by rw [← hW1]; exact (set_other _ _ _ _ k hk).trans (hb0.block k hkl)
  have HN1 := Lib.hid (show W1.heap[w.heap.size]? = some (.cells #[.slice none 0 0, .int .i64 0] 58 (0, 0)) by rw [← hW1]; exact (set_other _ _ _ _ _ (by omega)).trans (newOf w _))
  have HB1 := Lib.hid (show Below B w W1 by rw [← hW1]; exact (HB0 h hb0).setCell (p := ⟨f, 0, none⟩) (by have := h.low; have := h.lt; have := ax.low; show B ≤ f; omega) _)
  have HD1 := Lib.hid (show DA W1 B lim b m S F from h.block (fun k _ hkl => hot k (by have := ax.low; omega) (Nat.lt_of_lt_of_le hkl h.lim)) (by omega))
  have cF1 : W1.cell? ⟨f, 0, none⟩ = some (ptrV w.heap.size) := by rw [← hW1, cellOf (setOf hf0 0 _)]; rfl
  have cX1 : W1.cell? ⟨x, 0, none⟩ = some (.pointer (some ⟨b, 0, none⟩)) := cellOf ((hot x hd1.2.1.symm (ltOf ax.disk)).trans ax.disk) 0
  have cY1 : W1.cell? ⟨y, 0, none⟩ = some (.string (mkS n)) := cellOf ((hot y hd1.2.2.1.symm (ltOf ax.name)).trans ax.name) 0
  have cZ1 : W1.cell? ⟨z, 0, none⟩ = some (.string (mkS s)) := cellOf ((hot z hd1.2.2.2.symm (ltOf ax.text)).trans ax.text) 0
  have cB1 : W1.cell? ⟨b, 1, none⟩ = some (.map (some m)) := HD1.out.cells.2.1
  have HLX := Lib.hid ax.low
  have HL := Lib.hid hl
  have HNn := Lib.hid (show n.length ≤ 140737488355328 by omega)
  have HNm := Lib.hid hn
  have HFl := Lib.hid (show (F.map Gd.ent).length ≤ 1000000 by rw [List.length_map]; exact hF)
  have HNO := Lib.hid hno
  have HW := Lib.hid hw
  have HFL := Lib.hid hfl
  have HLM := Lib.hid h.lim
  have HZL := Lib.hid (ltOf ax.text)
  have HKP := Lib.hid hKp
  have HKW := Lib.hid (fun k (hk : Kp k) => (hot k (hKp k hk).2.2 (hKp k hk).2.1 : W1.heap[k]? = w.heap[k]?))
  have HFa := Lib.hid (fun x (hx : x ∈ F) => (h.gs x hx).lt)
  clear hb0 hf0 hot hno hl hn hF ax h hd1 hw hfl hKp
  have HK := Lib.hid (fun w2 (hb : Below W1.heap.size W1 w2) => ren_keep cX1 cB1 cY1 cF1 hb)
  have HZk := Lib.hid (fun w2 (hb : Below W1.heap.size W1 w2) => (hb.cell (p := ⟨z, 0, none⟩) (World.block_lt_of_cell? W1 _ cZ1)).trans cZ1)
  have HCl : Hid (∀ w2, Hid (Below W1.heap.size W1 w2) → Calls Try.prog 25 #[.string (mkS n)] w2 fun e w3 => e = .returned (.string (mkS n)) ∧ (w3.cell? ⟨x, 0, none⟩ = some (.pointer (some ⟨b, 0, none⟩)) ∧ w3.cell? ⟨b, 1, none⟩ = some (.map (some m)) ∧ w3.cell? ⟨y, 0, none⟩ = some (.string (mkS n)) ∧ w3.cell? ⟨f, 0, none⟩ = some (ptrV w.heap.size)) ∧
      ∃ w4, (Instr.mapUpdate 49 (.map (some m)) (.string (mkS n)) (ptrV w.heap.size)).run Try.prog w3 = .ok () w4 ∧ Hid (MapAt w4 m ((n, w.heap.size) :: (F.map Gd.ent).filter fun p => p.1 != n)) ∧ Hid (Below W1.heap.size W1 w3 ∧ w3.mapTurned w4 m) ∧ w4.cell? ⟨x, 0, none⟩ = some (.pointer (some ⟨b, 0, none⟩)) ∧ w4.cell? ⟨b, 1, none⟩ = some (.map (some m)) ∧ w4.cell? ⟨y, 0, none⟩ = some (.string (mkS n)) ∧ w4.cell? ⟨f, 0, none⟩ = some (ptrV w.heap.size)) :=
    Lib.hid fun w2 hb => (clone_x n w2 HNm.out).mono fun e w3 ⟨h1, h2⟩ => by
      have hb3 := below_next hb.out h2
      obtain ⟨w4, q1, q2, q3⟩ := (HD1.out.map.block (hb3.block m HD1.out.map.lt)).put (n := n) w.heap.size HNn.out HFl.out
      obtain ⟨j1, j2, j3, j4, _⟩ := HK.out w3 hb3
      have cl : ∀ k i, k ≠ m → w4.cell? ⟨k, i, none⟩ = w3.cell? ⟨k, i, none⟩ := fun k i hk => by simp only [World.cell?, (turned_other q3).1 k hk]
      have hm := HD1.out.mlt
      have hx := HLX.out
      exact ⟨h1, ⟨j1, j2, j3, j4⟩, w4, q1, Lib.hid q2, Lib.hid ⟨hb3, q3⟩, (cl x 0 (by omega)).trans j1, (cl b 1 HD1.out.ne_map).trans j2, (cl y 0 (by omega)).trans j3, (cl f 0 (by omega)).trans j4⟩
  obtain ⟨j1, j2, j3, j4, _⟩ := HK.out _ (Below.refl _ W1).drew
  have HT := Lib.hid (And.intro j1 (And.intro j2 (And.intro j3 j4)))
  clear j1 j2 j3 j4 cF1 cX1 cY1 cZ1 cB1
  go_enter Try.func28, Try.ntmps28
  go_wp2_with fail
  go_region_held3 (fun wr => wr.cell? ⟨x, 0, none⟩ = some (.pointer (some ⟨b, 0, none⟩)) ∧ wr.cell? ⟨b, 1, none⟩ = some (.map (some m)) ∧ wr.cell? ⟨y, 0, none⟩ = some (.string (mkS n)) ∧ wr.cell? ⟨f, 0, none⟩ = some (ptrV w.heap.size))
    (first | (with_reducible exact ⟨by assumption, by assumption, by assumption, by assumption⟩) | exact HT.out)
    ((go_at_call 25; (with_reducible refine (HCl.out _ (Lib.hid (Below.refl _ W1).drew)).mono ?_); rintro u w2 ⟨rfl, ⟨g1, g2, g3, g4⟩, w3, q1, q2, q3, g5, g6, g7, g8⟩))
  all_goals
    have hd2 := HD1.out.next q3.out.1
    have hx2 := (q3.out.1.block _ (ltOf HN1.out)).trans HN1.out
    have hd3 := add_at hd2 n HNO.out w.heap.size hx2 HLM.out q2.out q3.out.2
    have hz2 := HZk.out w2 q3.out.1
    have hzm : z ≠ m := by have := HLX.out; have := HD1.out.mlt; omega
    have hz3 : w3.cell? ⟨z, 0, none⟩ = some (.string (mkS s)) := by
      have : w3.cell? ⟨z, 0, none⟩ = w2.cell? ⟨z, 0, none⟩ := by simp only [World.cell?, (turned_other q3.out.2).1 z hzm]
      exact this.trans hz2
    obtain ⟨l, hlz⟩ : ∃ l : Txt, [] = l := ⟨_, rfl⟩
    have hd3' : DA w3 B w3.heap.size b m (putD S (⟨n, [], 0⟩ :: S.fs)) (⟨n, w.heap.size, .slice none 0 0, l, 0⟩ :: F) := by rw [← hlz]; exact hd3
    have HTF := Lib.hid (tail_facts hd3' s f z g8 hz3 (fun k hk => ⟨by have := HFL.out; have := HZL.out; show k ≠ w.heap.size; omega, fun j hj => (by cases hj)⟩) Kp (fun k hk => ⟨by have h1 := (HKP.out k hk).2.1; have h2 := HW.out; have h3 := q3.out.1.size; have h4 := (turned_other q3.out.2).2.1; omega, by have h1 := (HKP.out k hk).1; have h2 := HD1.out.lt; omega, fun e => (by cases e), fun x hx => by
      rcases List.mem_cons.1 hx with rfl | hx
      · have h1 := (HKP.out k hk).2.1; show k ≠ w.heap.size; omega
      · have h1 := (HKP.out k hk).1; have h2 := HFa.out x hx; omega⟩))
    have HK3 := Lib.hid (fun k (hk : Kp k) => (((turned_other q3.out.2).1 k (by have h1 := (HKP.out k hk).1; have h2 := HD1.out.mlt; omega)).trans ((q3.out.1.block k (by have h1 := (HKP.out k hk).2.1; have h2 := HW.out; omega)).trans (HKW.out k hk)) : w3.heap[k]? = w.heap[k]?))
    have HBW := Lib.hid (show Below B w w3 from turned_below q3.out.2 (HB1.out.trans (q3.out.1.mono (by have := HD1.out.low; have := HD1.out.lt; have := HD1.out.lim; omega))) HD1.out.mlow)
    have HLL := Lib.hid (show l.length + s.length ≤ 100000000000 by rw [← hlz]; have := HL.out; simp; omega)
    have HLZ := Lib.hid hlz
    clear hd2 hx2 hd3 hz2 hz3 hd3' hlz g1 g2 g3 g4 g5 g6 g7 g8 q1 q2 q3 hzm
    go_wp2_with fail
    obtain ⟨j1, j2, j3⟩ := HTF.out.start
    go_region_law ((refine step_app rfl (.tmp 20) (.tmp 21) rfl rfl HTF.out.own HTF.out.base s rfl HLL.out ?_; intro A c w5 k1 k2 k3; have K1 := Lib.hid k1; have K2 := Lib.hid k2; have K3 := Lib.hid k3; clear k1 k2 k3; obtain ⟨⟨q1, q2, q3⟩, f2⟩ := HTF.out.grown w5 K2.out))
    all_goals
      have HX : Hid (LeftK Kp B b m (putD S (⟨n, s, 0⟩ :: S.fs)) w (w5.setCell ⟨w.heap.size, 0, none⟩ (.slice A (l.length + s.length) c))) := Lib.hid (by
        have hx := (HTF.out.left A c w5 K1.out K2.out K3.out).next HBW.out HK3.out
        have he : ((⟨n, [], 0⟩ :: S.fs : List Fl).map (fun f => if f.name == n then (⟨f.name, f.byt ++ s, f.syn⟩ : Fl) else f)) = ⟨n, s, 0⟩ :: S.fs := by
          rw [List.map_cons]
          congr 1
          · simp
          · have : ∀ f ∈ S.fs, (if f.name == n then (⟨f.name, f.byt ++ s, f.syn⟩ : Fl) else f) = f := by
              intro f hf
              have := HNO.out
              rw [hasF, List.any_eq_false] at this
              rw [if_neg (this f hf)]
            rw [List.map_congr_left this]
            simp
        exact he ▸ hx)
      clear K1 K2 K3 q1 q2 q3 f2 j1 j2 j3
      go_wp2_with fail
      go_end0
      exact ⟨rfl, HX.out⟩
end Go.Proofs.Ytdjgjmbgcjhnpaa
