/-
  The walk of sort: the row in order.
-/
import Derived.Test.YtjjndndhmccflaaRdCmp
import Derived.Shelf.SlSortCmp.NoneTotal
namespace Go.Proofs.Ytjjndndhmccflaa
set_option maxRecDepth 100000
open Go.RowKit Go.Sort
def nrmW (x : Wt) : Wt := (nrm x.1, x.2)
def cfN (n g : Int) (x y : Wt) : Int := cfR n g (nrmW x) (nrmW y)
theorem lt_bet (n g : Int) (x y : Wt) : _root_.Go.Proofs.ltOf (cfN n g) x y = bet g n (nrmW x) (nrmW y) := by
  rw [Bool.eq_iff_iff, bet_iff]
  unfold _root_.Go.Proofs.ltOf cfN cfR orI Lib.compareInt
  rw [decide_eq_true_eq]
  generalize rkW g n (nrmW y) = p
  generalize rkW g n (nrmW x) = q
  generalize (nrmW x).2 = c
  generalize (nrmW y).2 = d
  by_cases h1 : p < q
  · simp [h1]
  · by_cases h2 : q < p
    · simp [h1, h2]; omega
    · have : p = q := by omega
      subst this
      by_cases h3 : c < d
      · simp [h3]
      · by_cases h4 : d < c <;> simp [h3, h4]
theorem swo_cf (n g : Int) : SWO (_root_.Go.Proofs.ltOf (cfN n g)) where
  irrefl x := by rw [lt_bet, bet_not]; omega
  trans x y z h1 h2 := by rw [lt_bet] at *; exact bet_trans h1 h2
  ntrans x y z h1 h2 := by rw [lt_bet, bet_not] at *; omega
theorem sw_old (W : World) (g m : Nat) (dk : Array Wt) (os : Array Obj) {a : Addr} {v : Value} (hne : a.block ≠ g) (h : W.cell? a = some v) : (sortWorldK encN 5 W g 0 m dk os).cell? a = some v := by
  unfold sortWorldK
  rw [cell?_grow _ _ _ (by rw [size_putRowK]; exact cellLt h), cell?_putRowK_other _ _ _ _ _ _ _ hne]
  exact h
theorem sw_heap (W : World) (g m : Nat) (dk : Array Wt) (os : Array Obj) {k : Nat} (hk : k < W.heap.size) (hne : k ≠ g) : (sortWorldK encN 5 W g 0 m dk os).heap[k]? = W.heap[k]? := by
  unfold sortWorldK grow putRowK putRow mapBlock
  have hs : k < (W.heap.modify g (onCells (putCells id 0 (flatK encN 5 dk)))).size := by simpa using hk
  show ((W.heap.modify g (onCells (putCells id 0 (flatK encN 5 dk)))) ++ os)[k]? = _
  rw [Array.getElem?_append_left hs, Array.getElem?_modify, if_neg (Ne.symm hne)]
theorem sw_row (W : World) (g m : Nat) (dk : Array Wt) (os : Array Obj) {cur : Array Value} {t : TypeId} {fz : Nat × Nat} (h : W.heap[g]? = some (.cells cur t fz)) : (sortWorldK encN 5 W g 0 m dk os).heap[g]? = some (.cells (putCells id 0 (flatK encN 5 dk) cur) t fz) := by
  unfold sortWorldK grow putRowK putRow mapBlock
  have hs : g < (W.heap.modify g (onCells (putCells id 0 (flatK encN 5 dk)))).size := by simpa using ltOf h
  show ((W.heap.modify g (onCells (putCells id 0 (flatK encN 5 dk)))) ++ os)[g]? = _
  rw [Array.getElem?_append_left hs, Array.getElem?_modify, if_pos rfl, h]
  rfl
theorem sw_size (W : World) (g m : Nat) (dk : Array Wt) (os : Array Obj) : W.heap.size ≤ (sortWorldK encN 5 W g 0 m dk os).heap.size := size_sortWorldK_c encN 5 W g 0 m dk os
theorem put_take (cur : Array Value) (F : Array Value) (hs : F.size ≤ cur.size) : (putCells id 0 F cur).toList.take F.size = F.toList := by
  apply List.ext_getElem?
  intro i
  rw [List.getElem?_take]
  split
  · rename_i hi
    unfold putCells
    rw [Array.getElem?_toList, Array.getElem?_mapIdx, Array.getElem?_eq_getElem (by omega : i < cur.size), Option.map_some, if_pos ⟨Nat.zero_le _, by omega⟩, Array.getElem?_toList, Array.getElem?_eq_getElem hi]
    show some (F[i - 0]!) = _
    rw [Nat.sub_zero, getElem!_pos F i hi]
  · rw [List.getElem?_eq_none (by rw [Array.length_toList]; omega)]
section
variable {O : Nat → Prop} {b : Nat} {v : Value} {fm gm : Nat} {P : List Wt} {G : List (Txt × Int)} {S : Rq} {w w' : World}
theorem RB.eN (h : RB O b v fm gm P G S w) : P.flatMap encN = P.flatMap encR := flat_congr fun x hx => encN_of (h.okP x hx).1
theorem RB.holds (h : RB O b v fm gm P G S w) {g cap : Nat} (hv : v = .slice (some ⟨g, 0, none⟩) P.length cap) {cur : Array Value} (hg : w.heap[g]? = some (.cells cur 70 (0, 0))) : HoldsK encN 5 w g 0 P.toArray := by
  intro j hj
  have hr := h.row
  rw [hv] at hr
  rw [size_flatK, List.size_toArray] at hj
  have e := hr.cellAt j hj
  rw [Nat.zero_add]
  refine ⟨?_, freeOf hg j⟩
  rw [e, ← h.eN]
  have hs : j < (flatK encN 5 P.toArray).size := by rw [size_flatK, List.size_toArray]; exact hj
  rw [getElem!_pos (flatK encN 5 P.toArray) j hs, ← flatK_list encN 5 encN_len P.toArray, Array.getElem?_toList, Array.getElem?_eq_getElem hs]
  rfl
/-- The row turned to another order of the same. -/
theorem RB.turned (h : RB O b v fm gm P G S w) {g cap : Nat} {cur : Array Value} (hv : v = .slice (some ⟨g, 0, none⟩) P.length cap) (hg : w.heap[g]? = some (.cells cur 70 (0, 0))) (hc : P.length ≤ cap ∧ cap ≤ maxLen ∧ cur.size = cap * 5)
    (d : Array Wt) (hd : d.toList.Perm P) (m : Nat) (os : Array Obj) : RB O b v fm gm d.toList G S (sortWorldK encN 5 w g 0 m d os) ∧ Fr O w (sortWorldK encN 5 w g 0 m d os) := by
  obtain ⟨n1, n2, n3⟩ := h.gne (g := g) (by rw [hv]; rfl)
  have hl := hd.length_eq
  have ok' : ∀ x ∈ d.toList, okE x.1 = true := fun x hx => (h.okP x (hd.mem_iff.1 hx)).1
  have olt := sw_size w g m d os
  refine ⟨⟨(sw_heap w g m d os h.blt (Ne.symm n1)).trans h.box, ⟨flat_len encR 5 encR_len _, .inr ⟨g, cap, putCells id 0 (flatK encN 5 d) cur, ?_, Nat.zero_le _, sw_row w g m d os hg, ?_, hc.2.1, ?_, ?_⟩⟩, hd.trans h.perm, h.fly.block (sw_heap w g m d os h.fly.lt (Ne.symm n2)), h.go.block (sw_heap w g m d os h.go.lt (Ne.symm n3)), h.cnt, h.glen, h.ob, h.ofm, h.ogm, h.ov, h.ne, h.ok, fun k hk => Nat.lt_of_lt_of_le (h.olt k hk) olt⟩, rfl, rfl, rfl, olt, fun k hk hn => sw_heap w g m d os hk fun e => hn (e ▸ h.ov g (by rw [hv]; rfl))⟩
  · rw [hv, hl]
  · rw [hl]; exact hc.1
  · unfold putCells; rw [Array.size_mapIdx]; exact hc.2.2
  · have e : (flatK encN 5 d).size = d.toList.length * 5 := by rw [size_flatK, Array.length_toList]
    rw [← e, put_take cur _ (by rw [e, hl, hc.2.2]; omega), flatK_list encN 5 encN_len]
    exact flat_congr fun x hx => encN_of (ok' x hx)
end
set_option maxHeartbeats 4000000 in
theorem sort_x {O : Nat → Prop} {b : Nat} {v : Value} {fm gm : Nat} {P : List Wt} {G : List (Txt × Int)} {S : Rq} {w : World} (h : RB O b v fm gm P G S w) (n : Int) (hn : NowOk n S.age) :
    Calls Try.prog 30 #[.pointer (some ⟨b, 0, none⟩), .int .i64 n] w fun e w' => e = .returned (.tuple #[]) ∧ RB O b v fm gm (srt S.age n S.L) G S w' ∧ Fr O w w' := by
  obtain ⟨W2, hW2⟩ : ∃ W2, W2 = (w.alloc (.cells #[.pointer (some ⟨b, 0, none⟩)] 25)).alloc (.cells #[.int .i64 n] 3) := ⟨_, rfl⟩
  have b1 : Below w.heap.size w W2 := by rw [hW2]; exact below_next (below_box w _) (below_box _ _)
  have h2 := h.below b1
  have cr : W2.cell? ⟨w.heap.size, 0, none⟩ = some (.pointer (some ⟨b, 0, none⟩)) := by rw [hW2]; exact Lib.cell?_alloc_some _ (cellOf (newOf _ _) 0)
  have cn : W2.cell? ⟨w.heap.size + 1, 0, none⟩ = some (.int .i64 n) := by rw [hW2, show w.heap.size + 1 = (w.alloc (.cells #[.pointer (some ⟨b, 0, none⟩)] 25)).heap.size by simp]; exact cellOf (newOf _ _) 0
  have hcon : Calls Try.prog 37 #[v, .func (.func 38) #[] #[.pointer (some ⟨w.heap.size + 1, 0, none⟩), .pointer (some ⟨w.heap.size, 0, none⟩)]] W2 fun e w' => e = .returned (.tuple #[]) ∧ RB O b v fm gm (srt S.age n S.L) G S w' ∧ Fr O W2 w' := by
    rcases Nat.eq_zero_or_pos P.length with h0 | h0
    · have hP : P = [] := List.length_eq_zero_iff.1 h0
      obtain ⟨A, c, rfl⟩ := h2.nil hP
      refine (show Calls Try.prog 37 _ W2 _ from AnyF.slices_SortFunc_none Try.sortW A c _ W2).mono ?_
      rintro e w' ⟨rfl, rfl⟩
      have hL : S.L = [] := by have := h.perm.length_eq; rw [h0] at this; exact List.length_eq_zero_iff.1 this.symm
      refine ⟨rfl, ?_, Fr.refl _ _⟩
      rw [hL]
      show RB O b _ fm gm [] G S _
      rw [← hP]; exact h2
    · obtain ⟨g, cap, cur, hv, hg, hc1, hc2, hc3, hc4, hO⟩ := h2.form h0
      have hgne := h2.gne (g := g) (by rw [hv]; rfl)
      have hglt := ltOf hg
      have nr : w.heap.size ≠ g := by have := h.olt g (h.ov g (by rw [hv]; rfl)); omega
      have nn : w.heap.size + 1 ≠ g := by have := h.olt g (h.ov g (by rw [hv]; rfl)); omega
      have eg : ∀ args w, (callFunc 38 args).run Try.prog w = .ok (.enter 38 args) w := enters_of Try.func38 (by kernel_rfl) rfl
      have hcmp : CmpLays Try.prog 38 #[.pointer (some ⟨w.heap.size + 1, 0, none⟩), .pointer (some ⟨w.heap.size, 0, none⟩)] encN 5 (cfN n S.age) g 0 P.toArray.size W2 := fun m os dk _ x y =>
        clos_x (nrmW x) (nrmW y) n S.age (w.heap.size + 1) w.heap.size b _ hn (nrm_ok _) (nrm_ok _) (sw_old W2 g m dk os nn cn) (sw_old W2 g m dk os nr cr) (sw_old W2 g m dk os (Ne.symm hgne.1) h2.c0)
      have hcon := AnyQ.slices_SortFunc Try.sortW 5 Try.isAgg70 Try.sizeOf70 encN encN_len encN_one (cfN n S.age) (swo_cf n S.age) 38 #[.pointer (some ⟨w.heap.size + 1, 0, none⟩), .pointer (some ⟨w.heap.size, 0, none⟩)] g 0 cap P.toArray W2 eg hcmp (h2.holds hv hg) hglt (by rw [List.size_toArray]; have := h.few; omega)
      change Calls Try.prog 37 _ _ _ at hcon
      rw [hv]
      rw [List.size_toArray] at hcon
      refine hcon.mono ?_
      rintro e w' ⟨rfl, d, m, os, hp, hs, rfl⟩
      obtain ⟨p1, _, p3⟩ := hp
      have q : d.size = P.length := by simpa using p1
      have hperm : d.toList.Perm P := by
        have e1 : d.extract 0 P.length = d := by rw [← q, Array.extract_size]
        have e2 : P.toArray.extract 0 P.length = P.toArray := by rw [show P.length = P.toArray.size from (List.size_toArray ..).symm, Array.extract_size]
        rw [e1, e2] at p3
        exact p3
      have hok : ∀ x ∈ d.toList, nrmW x = x := fun x hx => by
        have := (h.okP x (hperm.mem_iff.1 hx)).1
        unfold nrmW; rw [nrm_of this]
      have hsrt : d.toList = srt S.age n S.L := by
        refine srt_of (hperm.trans h.perm) h.ok.ne ?_
        rw [List.pairwise_iff_getElem]
        intro i j hi hj hij
        rw [Array.length_toList] at hi hj
        have := hs i j (Nat.zero_le _) hij (by omega)
        rw [lt_bet, getElem!_pos d j hj, getElem!_pos d i hi, hok _ (Array.getElem_mem_toList hj), hok _ (Array.getElem_mem_toList hi)] at this
        simpa using this
      have ht := h2.turned hv hg ⟨hc1, hc2, hc3⟩ d hperm m os
      rw [← hsrt]
      rw [← hv]
      exact ⟨rfl, ht⟩
  have HR := Lib.hid (show ∀ w', RB O b v fm gm (srt S.age n S.L) G S w' ∧ Fr O W2 w' → RB O b v fm gm (srt S.age n S.L) G S w' ∧ Fr O w w' from fun w' k => ⟨k.1, (Fr.of_below b1 : Fr O w W2).trans0 k.2⟩)
  have HCON := Lib.hid hcon
  have c4 := h.c4
  have hb := h.blt
  have hb1 : b ≠ w.heap.size := by omega
  have hb2 : b ≠ w.heap.size + 1 := by omega
  have HW2 := Lib.hid hW2
  obtain ⟨A, c, rfl⟩ := h.slice
  clear hcon h h2 hn b1 hW2
  go_enter Try.func30, Try.ntmps30
  go_wp2_with fail
  rw [← HW2.out]
  refine HCON.out.mono ?_
  rintro e w' ⟨rfl, hk⟩
  go_wp2_with fail
  go_end0
  exact ⟨rfl, HR.out _ hk⟩
end Go.Proofs.Ytjjndndhmccflaa
