/-
  The walks of Print's closure and of Print.
-/
import Derived.Test.YtdcakmamdabiaaaDoorRpStrs
import Derived.Test.YtdcakmamdabiaaaDoorRpRight
import Derived.Test.YtdcakmamdabiaaaDoorRpBack
import Derived.Laws.MakeOwn
namespace Go.Proofs.YtdcakmamdabiaaaDoor
set_option maxRecDepth 100000
open Go.RowKit
/-- A reply in its box; a row of texts of the call's own, and the cell, block g, that tells it. -/
structure PS (W : World) (c : Int) (e : E3) (rv : Value) (g : Nat) (u v : Value) (L : List Txt) (w : World) : Prop where
  rx : RX W c e rv w
  r0 : Ready W
  cell : w.heap[g]? = some (.cells #[u] 22 (0, 0))
  row : w.ownsRow (W.heap.size + 1) 9 1 v L.length (strsV L)
  gW : W.heap.size < g
section
variable {W w w' : World} {c : Int} {e : E3} {rv : Value} {g : Nat} {u v : Value} {L : List Txt}
theorem PS.size (h : PS W c e rv g u v L w) : g < w.heap.size := ltOf h.cell
theorem PS.next (h : PS W c e rv g u v L w) (hb : Below w.heap.size w w') : PS W c e rv g u v L w' := ⟨h.rx.next hb, h.r0, (hb.block _ (ltOf h.cell)).trans h.cell, own_below h.row hb, h.gW⟩
theorem PS.own (h : PS W c e rv g u v L w) : v.ownBlock ≠ some g := own_not h.row h.cell (by decide)
theorem PS.app {v' : Value} {L' : List Txt} {o : Obj} (h : PS W c e rv g u v L w) (hown : w'.ownsRow (W.heap.size + 1) 9 1 v' L'.length (strsV L')) (hg : (w.alloc o).grownBy w' v.ownBlock) : PS W c e rv g u v' L' w' := by
  have hl := h.size
  have hgW := h.gW
  have hb : Below W.heap.size W w' := (h.rx.below.alloc h.rx.below.size o).grown hg (by have := h.rx.below.size; simp; omega) (fun k hk => by have := (h.row.lt k hk).1; omega)
  refine ⟨⟨?_, hb, ready_below h.r0 hb⟩, h.r0, ?_, hown, hgW⟩
  · exact (hg.block W.heap.size (by simp; omega) (fun e => by have := (h.row.lt _ e.symm).1; omega)).trans ((Below.heap_alloc w o _ (by omega)).trans h.rx.box)
  · exact (hg.block g (by simp; omega) (fun e => h.own e.symm)).trans ((Below.heap_alloc w o g (by omega)).trans h.cell)
theorem PS.set (h : PS W c e rv g u v L w) (x : Value) : PS W c e rv g x v L (w.setCell ⟨g, 0, none⟩ x) := by
  have hgW := h.gW
  have hb := h.rx.below.setCell (p := ⟨g, 0, none⟩) (by show W.heap.size ≤ g; omega) x
  refine ⟨⟨(Below.heap_setCell w ⟨g, 0, none⟩ x _ (by show W.heap.size ≠ g; omega)).trans h.rx.box, hb, ready_below h.r0 hb⟩, h.r0, ?_, ?_, hgW⟩
  · have := setOf h.cell 0 x
    exact this
  · exact own_of h.row fun k hk => Below.heap_setCell w ⟨g, 0, none⟩ x k (by show k ≠ g; rintro rfl; exact h.own hk)
theorem PS.cc (h : PS W c e rv g u v L w) : w.cell? ⟨g, 0, none⟩ = some u := cellOf h.cell 0
theorem PS.cf (h : PS W c e rv g u v L w) : w.frozen? ⟨g, 0, none⟩ = false := freeOf h.cell 0
end
/-- Texts that lie apart from a row and its cell. -/
structure Src (w0 : World) (A : Option Addr) (g : Nat) (v : Value) (w : World) : Prop where
  at_ : ∀ ad, A = some ad → ad.block < w0.heap.size → w.heap[ad.block]? = w0.heap[ad.block]? ∧ ad.block ≠ g ∧ v.ownBlock ≠ some ad.block
  size : w0.heap.size ≤ w.heap.size
theorem Src.app {w0 w w' : World} {A : Option Addr} {g : Nat} {v v' : Value} {o : Obj} (h : Src w0 A g v w) (hg : (w.alloc o).grownBy w' v.ownBlock) (ho : v'.ownBlock = v.ownBlock ∨ v'.ownBlock = some (w.alloc o).heap.size) (x : Value) : Src w0 A g v' (w'.setCell ⟨g, 0, none⟩ x) := by
  refine ⟨fun ad hA hlt => ?_, ?_⟩
  · obtain ⟨h1, h2, h3⟩ := h.at_ ad hA hlt
    have hs := h.size
    refine ⟨?_, h2, ?_⟩
    · refine (Below.heap_setCell w' ⟨g, 0, none⟩ x ad.block h2).trans ?_
      exact (hg.block ad.block (by simp; omega) (fun e => h3 e.symm)).trans ((Below.heap_alloc w o _ (by omega)).trans h1)
    · rcases ho with e | e
      · rw [e]; exact h3
      · rw [e]; intro e'; injection e' with e'; simp at e'; omega
  · rw [World.size_setCell]
    have h1 := h.size
    have h2 := hg.size
    simp at h2
    omega
set_option maxHeartbeats 4000000 in
theorem say_x {W : World} {c : Int} {e : E3} {rv : Value} {g : Nat} {v : Value} {L : List Txt} {w : World} (hRI : RI c e) (h : PS W c e rv g v v L w) (s : UInt8) (A : Option Addr) (cap : Nat) (texts : List Txt)
    (hc : ∀ (i : Nat) (t : Txt), texts[i]? = some t → ∃ ad, A = some ad ∧ ad.block < w.heap.size ∧ w.cell? (ad.add i) = some (.string (mkS t))) (hap : ∀ ad, A = some ad → ad.block ≠ g ∧ v.ownBlock ≠ some ad.block)
    (hn : texts.length ≤ 1000) (hL : L.length ≤ 1000) (hz : ∀ t ∈ texts, t.length ≤ 1000) :
    Calls Tryd.prog 25 #[.string (mkS [s]), .slice A texts.length cap, .pointer (some ⟨W.heap.size, 0, none⟩), .pointer (some ⟨g, 0, none⟩)] w fun x w' => x = .returned (.tuple #[]) ∧ ∃ v', PS W c e rv g v' v' (L ++ texts.map (rpHead c e s ++ ·)) w' := by
  have HH := Lib.hid (fun (w : World) (hR : Ready w) => head_x c e rv s hRI w hR)
  have HHL := Lib.hid (head_len (c := c) (e := e) s hRI)
  have HP := Lib.hid h
  have HC := Lib.hid hc
  have HZ := Lib.hid hz
  have HAP := Lib.hid hap
  have k0 := cellOf h.rx.box 0
  have k1 := cellOf h.rx.box 1
  have k2 := cellOf h.rx.box 2
  have k3 := cellOf h.rx.box 3
  have k4 := cellOf h.rx.box 4
  clear hc hz hRI h hap
  generalize rpHead c e s = hd at HH HHL ⊢
  go_enter Tryd.func25, Tryd.ntmps25
  go_wp2_with fail
  refine (HH.out _ HP.out.rx.ready).mono ?_
  rintro x w1 ⟨rfl, hb1⟩
  have HP1 := Lib.hid (HP.out.next hb1)
  have HS1 := Lib.hid (show Src w A g v w1 from ⟨fun ad hA hlt => ⟨hb1.block _ hlt, HAP.out ad hA⟩, hb1.size⟩)
  clear k0 k1 k2 k3 k4 hb1
  go_wp2_with fail
  go_loopw [14] (fun i wr => ∃ k : Nat, k ≤ texts.length ∧ i = .int .i64 k ∧ ∃ v' : Value, Hid (PS W c e rv g v' v' (L ++ (texts.take k).map (hd ++ ·)) wr) ∧ Hid (Src w A g v' wr)) (fun i _ => texts.length - (intOf i).toNat)
  case atStart => exact ⟨0, Nat.zero_le _, rfl, v, by simpa [Hid] using HP1.out, HS1⟩
  case round =>
    obtain ⟨k, hk, rfl, v', HPk, HSk⟩ := hrel
    by_cases hlt : k < texts.length
    · obtain ⟨t, ht⟩ : ∃ t, texts[k]? = some t := ⟨_, List.getElem?_eq_getElem hlt⟩
      obtain ⟨ad, rfl, hab, hcw⟩ := HC.out k t ht
      have hcl : wr.cell? (ad.add k) = some (.string (mkS t)) := by
        have e1 := (HSk.out.at_ ad rfl hab).1
        rw [← hcw]
        simp only [World.cell?, add_block, e1]
      have HT := Lib.hid (show (texts.take (k + 1)).map (hd ++ ·) = (texts.take k).map (hd ++ ·) ++ [hd ++ t] by
        obtain ⟨h1, h2⟩ := List.getElem?_eq_some_iff.1 ht
        rw [List.take_succ_eq_append_getElem h1, h2]; simp)
      have htl := HZ.out t (List.mem_of_getElem? ht)
      have hLk : (L ++ (texts.take k).map (hd ++ ·)).length ≤ 2000 := by simp; omega
      have hhl := HHL.out
      have z1 := mkS_size hd
      have z2 := mkS_size t
      have hcat := mkS_cat hd t
      have c0 := HPk.out.cc
      obtain ⟨A1, cp, rfl⟩ := strs_slice HPk.out.row
      generalize hLK : L ++ (texts.take k).map (hd ++ ·) = Lk at HPk HSk hLk c0
      have HLK := Lib.hid hLK
      clear hLK
      clear ht hcw hab
      go_wp2_with (at_builtin; refine app_strs rfl (.tmp 18) (.tmp 22) rfl (W.heap.size + 1) (.slice A1 Lk.length cp) Lk rfl (HPk.out.row.alloc _) ⟨wr.heap.size, 0, none⟩ 1 1 [hd ++ t] rfl rfl (news_one wr (hd ++ t)) (by omega) (by have := HPk.out.size; have := HPk.out.gW; simp; omega) ?_; intro v1 w3 hown hg ho; have H3 := Lib.hid (PS.app (L' := Lk ++ [hd ++ t]) HPk.out hown hg); have HS3 := Lib.hid (fun x => HSk.out.app hg ho x); clear hown hg ho c0; have c0 := H3.out.cc; have f0 := H3.out.cf; obtain ⟨A2, cp2, hv2⟩ := strs_slice H3.out.row; subst hv2)
      go_roundw
      case rel => exact ⟨k + 1, by omega, by go_num, .slice A2 (Lk.length + 1) cp2, Lib.hid (by rw [HT.out, ← List.append_assoc, HLK.out]; have h3 := H3.out; rw [show (Lk ++ [hd ++ t]).length = Lk.length + 1 by simp] at h3; exact h3.set _), Lib.hid (by have h3 := HS3.out; rw [show (Lk ++ [hd ++ t]).length = Lk.length + 1 by simp] at h3; exact h3 _)⟩
      case measure => simp [intOf]; omega
    · have hke : k = texts.length := by omega
      subst hke
      have H := HPk.out
      rw [List.take_length] at H
      have HF := Lib.hid H
      clear H
      go_wp2_with fail
      go_end0
      exact ⟨rfl, v', HF.out⟩
/-- What Print answers. -/
def PrintPost (r : Rp) (w : World) (x : Ending) (w' : World) : Prop := ∃ lv, x = .returned (.tuple #[lv, .int .i64 (rpRight r)]) ∧ TxtsAt w' lv (rpPrintL r) ∧ Below w.heap.size w w'
theorem print_no {r : Rp} {w w' : World} {n : Int} (h : rpRight r = n) (hn : n ≠ 0) (hb : Below w.heap.size w w') : PrintPost r w (.returned (.tuple #[.slice none 0 0, .int .i64 n])) w' :=
  ⟨_, by rw [h], by rw [rpPrintL, if_neg (by rw [h]; exact hn)]; exact txts_nil w', hb⟩
theorem print_yes {r : Rp} {w w' : World} {lv : Value} (h : rpRight r = 0) (hT : TxtsAt w' lv (rpLines r)) (hb : Below w.heap.size w w') : PrintPost r w (.returned (.tuple #[lv, .int .i64 0])) w' :=
  ⟨_, by rw [h], by rw [rpPrintL, if_pos h]; exact hT, hb⟩
theorem PS.start {W w1 w2 : World} {c : Int} {e : E3} {rv : Value} {n : Nat} (h : RX W c e rv w1) (h0 : Ready W) (hown : w2.ownsRow (W.heap.size + 1) 9 1 (.slice (some ⟨w1.heap.size, 0, none⟩) 0 n) 0 []) (hg : w1.grownBy w2 none) :
    PS W c e rv w2.heap.size (.slice (some ⟨w1.heap.size, 0, none⟩) 0 n) (.slice (some ⟨w1.heap.size, 0, none⟩) 0 n) [] (w2.alloc (.cells #[.slice (some ⟨w1.heap.size, 0, none⟩) 0 n] 22)) := by
  have hb : Below w1.heap.size w1 w2 := ⟨hg.os, hg.tape, hg.output, hg.size, fun k hk => hg.block k hk (fun e => by cases e)⟩
  have hx := (h.next hb).alloc (.cells #[.slice (some ⟨w1.heap.size, 0, none⟩) 0 n] 22)
  refine ⟨hx, h0, newOf _ _, own_below hown (below_box _ _), ?_⟩
  have h1 := ltOf h.box
  have h2 := hg.size
  omega
theorem split_last {l : List Txt} (h : l ≠ []) : ∃ a t, l = a ++ [t] := ⟨l.dropLast, l.getLast h, (List.dropLast_concat_getLast h).symm⟩
set_option maxHeartbeats 4000000 in
theorem print_x (r : Rp) (v : Value) (hRI : RI r.code r.e) (w : World) (hR : Ready w) (hT : TxtsAt w v r.text) (hn : r.text.length ≤ 1000000000000000) (hl : ∀ t ∈ r.text, t.length ≤ 1000000000000000) :
    Calls Tryd.prog 8 #[RV r.code r.e v] w (PrintPost r w) := by
  have HRT := Lib.hid (fun (w' : World) (hb : Below w.heap.size w w') => right_x r v hRI w' (ready_below hR hb) (hT.below hb) hn hl)
  by_cases h0 : rpRight r = 0
  · have hok := right_ok.1 h0
    obtain ⟨init, t, hit⟩ := split_last hok.ne
    have hlen : r.text.length = init.length + 1 := by rw [hit]; simp
    obtain ⟨a, cap, hv, hcap, _, hc⟩ := id hT
    rw [hlen] at hv hcap
    have hm := hok.many
    have HIT := Lib.hid hit
    obtain ⟨ad, rfl, had, hct⟩ := hc init.length t (by rw [hit]; simp)
    have HC := Lib.hid (show ∀ (w' : World), Below w.heap.size w w' → ∀ (i : Nat) (x : Txt), (init ++ [t])[i]? = some x → ∃ A, some ad = some A ∧ A.block < w'.heap.size ∧ w'.cell? (A.add i) = some (.string (mkS x)) from fun w' hb i x hx => by
      obtain ⟨A, hA, h1, h2⟩ := hc i x (by rw [hit]; exact hx)
      exact ⟨A, hA, Nat.lt_of_lt_of_le h1 hb.size, (hb.cell (by rw [add_block]; exact h1)).trans h2⟩)
    clear hct
    have hi31 : init.length ≤ 31 := by omega
    have HZ := Lib.hid (show ∀ x ∈ r.text, x.length ≤ 1000 from fun x hx => by have := hok.len x hx; omega)
    have HX := Lib.hid (RX.new r.code r.e v hR)
    have H0 := Lib.hid h0
    have HR := Lib.hid hR
    have HRI := Lib.hid hRI
    rw [h0] at HRT
    have hcap2 : (init.length : Int) ≤ (cap : Int) := by omega
    subst hv
    clear h0 hok hit hT hn hl hR hRI hc hlen hm
    have k0 := cellOf HX.out.box 0
    have k1 := cellOf HX.out.box 1
    have k2 := cellOf HX.out.box 2
    have k3 := cellOf HX.out.box 3
    have k4 := cellOf HX.out.box 4
    go_enter Tryd.func8, Tryd.ntmps8
    go_wp2_with fail
    refine (HRT.out _ HX.out.below).mono ?_
    rintro x w1 ⟨rfl, hb1⟩
    have HX1 := Lib.hid (HX.out.next hb1)
    obtain ⟨i0, hi, hz0, hz1, hz2⟩ := info_parts Tryd.infoT
    obtain ⟨w2, hmk, hown, hgr⟩ := run_make_own (P := Tryd.prog) w1 (w.heap.size + 1) 22 9 i0 (.string { data := #[] }) 1 Tryd.underlying22 hi hz0 hz1 .i64 .i64 (init.length + 1) (by rw [hz2]; omega) (by unfold maxLen; omega) (ltOf HX1.out.box)
    rw [show ((init.length + 1 : Nat) : Int) = (init.length : Int) + 1 by omega] at hmk
    have HP2 := Lib.hid (PS.start HX1.out HR.out hown hgr)
    clear k0 k1 k2 k3 k4 hb1 hown hgr hi hz0 hz1 hz2
    have k4 := cellOf HX1.out.box 4
    have j4 := cellOf HP2.out.rx.box 4
    go_wp2_with fail
    refine (say_x HRI.out HP2.out 45 (some ad) cap init (fun i x hx => HC.out _ HP2.out.rx.below i x (by rw [List.getElem?_append_left (List.getElem?_eq_some_iff.1 hx).1]; exact hx)) ?ap (by omega) (by simp) (fun x hx => HZ.out x (by rw [HIT.out]; simp [hx]))).mono ?_
    case ap =>
      intro A hA
      injection hA with hA
      subst hA
      have h1 := HX1.out.below.size
      have h2 := HP2.out.gW
      exact ⟨by omega, by simp [Value.ownBlock]; omega⟩
    rintro x w3 ⟨rfl, v3, hp3⟩
    have HP3 := Lib.hid hp3
    have j4 := cellOf hp3.rx.box 4
    obtain ⟨A', hA', _, ct⟩ := HC.out w3 hp3.rx.below init.length t (by simp)
    injection hA' with hA'
    subst hA'
    have HP4 := Lib.hid (hp3.next (below_box w3 (.cells #[.string (mkS t)] 9)))
    clear hp3 k4
    go_wp2_with fail
    refine (say_x HRI.out HP4.out 32 (some ⟨w3.heap.size, 0, none⟩) 1 [t] (fun i x hx => ?c2) ?ap2 (by simp) (by simp; omega) (fun x hx => HZ.out x (by rw [HIT.out]; simp at hx; simp [hx]))).mono ?_
    case c2 =>
      match i with
      | 0 => simp at hx; subst hx; exact ⟨_, rfl, by simp, World.cell?_alloc_at _ _ _ _ rfl⟩
      | i + 1 => simp at hx
    case ap2 =>
      intro A hA
      injection hA with hA
      subst hA
      have h1 := HP3.out.size
      refine ⟨by show w3.heap.size ≠ w2.heap.size; omega, fun e => ?_⟩
      have h2 : w3.heap.size < w3.heap.size := (HP3.out.row.lt w3.heap.size e).2
      omega
    rintro x w5 ⟨rfl, v5, hp5⟩
    have HP5 := Lib.hid hp5
    have j5 := hp5.cc
    clear hp5 j4 ct
    go_wp2_with fail
    go_ret2
    refine print_yes H0.out ?_ HP5.out.rx.below
    have h5 := own_txts HP5.out.row
    have e : [] ++ init.map (rpHead r.code r.e 45 ++ ·) ++ [t].map (rpHead r.code r.e 32 ++ ·) = rpLines r := by
      rw [rpLines, HIT.out]
      simp
    rw [e] at h5
    exact h5
  · have HE := Lib.hid h0
    have HX := Lib.hid (RX.new r.code r.e v hR)
    obtain ⟨a, cap, rfl, hcp⟩ := id hT
    have d1 : (rpRight r != 0) = true := bne_iff_ne.2 h0
    have HV := Lib.hid (fun n (h : rpRight r = n) (hn : n ≠ 0) w' hb => print_no (w := w) (w' := w') h hn hb)
    generalize hq : rpRight r = q at HRT HE d1
    have HQ := Lib.hid hq
    clear hq h0 hcp hT hn hl hR hRI
    have k0 := cellOf HX.out.box 0
    have k1 := cellOf HX.out.box 1
    have k2 := cellOf HX.out.box 2
    have k3 := cellOf HX.out.box 3
    have k4 := cellOf HX.out.box 4
    go_enter Tryd.func8, Tryd.ntmps8
    go_wp2_with fail
    refine (HRT.out _ HX.out.below).mono ?_
    rintro x w1 ⟨rfl, hb1⟩
    have HB1 := Lib.hid (HX.out.next hb1).below
    clear k0 k1 k2 k3 k4 hb1
    go_wp2_with fail
    go_ret2
    exact HV.out q HQ.out HE.out _ HB1.out
end Go.Proofs.YtdcakmamdabiaaaDoor
