/-
  The walk of the law ReadyWaits.
-/
import Derived.Test.YtdfihhjnbikimaaRdEq
namespace Go.Proofs.Ytdfihhjnbikimaa
set_option maxRecDepth 100000
open Go.RowKit
theorem srt_head {g n : Int} {l : List Wt} {x : Wt} (hd : l.Pairwise (fun a b => a.2 ≠ b.2)) (hx : x ∈ l) (hb : ∀ y ∈ l, y.2 ≠ x.2 → bet g n x y = true) : ∃ r, srt g n l = x :: r := by
  have hp := srt_perm g n l
  have hw := srt_pw (g := g) (n := n) hd
  cases hs : srt g n l with
  | nil => rw [hs] at hp; exact absurd (hp.mem_iff.2 hx) List.not_mem_nil
  | cons y r =>
    rw [hs] at hp hw
    obtain ⟨h1, h2⟩ := List.pairwise_cons.1 hw
    rcases List.mem_cons.1 (hp.mem_iff.2 hx) with e | hxr
    · exact ⟨r, by rw [e]⟩
    · have hyx := h1 x hxr
      have hyl := hp.mem_iff.1 (List.mem_cons_self ..)
      have hdl : (y :: r).Pairwise (fun a b => a.2 ≠ b.2) := (hp.pairwise_iff (fun {_ _} hne => Ne.symm hne)).2 hd
      have hne : y.2 ≠ x.2 := (List.pairwise_cons.1 hdl).1 x hxr
      have hxy := hb y hyl hne
      rw [bet_asymm hxy] at hyx; cases hyx
/-- Who came first, and k at most behind. -/
structure GW (x : Et) (g : Int) (k : Nat) (S : Rq) : Prop where
  age : S.age = g
  lim : S.lim = 64
  n : S.n ≤ k + 1
  F : S.F = []
  L : ∃ R, S.L = (x, 1) :: R ∧ ∀ y ∈ R, 1 < y.2
theorem GW.put {x : Et} {g : Int} {k : Nat} {S : Rq} (h : GW x g k S) (y : Et) (hS : OkQ S) : GW x g (k + 1) (putQ S y) := by
  unfold putQ
  split
  · obtain ⟨R, hR, hy⟩ := h.L
    have h1 : 1 ≤ S.n := hS.putn (x, 1) (by rw [hR]; exact List.mem_cons_self ..)
    refine ⟨h.age, h.lim, by have := h.n; show S.n + 1 ≤ _; omega, h.F, R ++ [(y, S.n + 1)], by rw [hR]; rfl, fun z hz => ?_⟩
    rcases List.mem_append.1 hz with hz | hz
    · exact hy z hz
    · rw [List.mem_singleton.1 hz]; show 1 < S.n + 1; omega
  · exact ⟨h.age, h.lim, by have := h.n; omega, h.F, h.L⟩
theorem GW.next {x : Et} {g : Int} {k : Nat} {S : Rq} (h : GW x g k S) : GW x g (k + 1) S := ⟨h.age, h.lim, by have := h.n; omega, h.F, h.L⟩
theorem GW.start {x : Et} {g : Int} (h : putE (newS g 64 4096) x = 0) : GW x g 0 (putQ (newS g 64 4096) x) := by
  unfold putQ
  rw [if_pos h]
  exact ⟨rfl, rfl, Int.le_refl _, rfl, [], rfl, fun y hy => (List.not_mem_nil hy).elim⟩
theorem GW.first {x : Et} {g : Int} {k : Nat} {S : Rq} (h : GW x g k S) (hS : OkQ S) : takeE S (x.at_ + 18 * g) = some (x, 1) := by
  obtain ⟨R, hR, hy⟩ := h.L
  have hx : (x, (1 : Int)) ∈ S.L := by rw [hR]; exact List.mem_cons_self ..
  have hokx := (okE_iff.1 (hS.okL _ hx).1)
  have hg : 1 ≤ g := by have := hS.age1; rw [h.age] at this; exact this
  have r9 : rkW S.age (x.at_ + 18 * g) (x, 1) = 9 := by
    unfold rkW
    rw [h.age]
    unfold rk
    have h0 : 0 < 18 * g := by omega
    have : -9 ≤ x.pri := hokx.2.2.2.1
    rw [if_neg (by show ¬ x.at_ + 18 * g ≤ x.at_; omega)]
    show min 9 (x.pri + (x.at_ + 18 * g - x.at_) / g) = 9
    rw [show x.at_ + 18 * g - x.at_ = 18 * g by omega, Int.mul_ediv_cancel _ (by omega)]
    omega
  obtain ⟨r, hr⟩ := srt_head (g := S.age) (n := x.at_ + 18 * g) hS.ne hx fun y hyL hne => by
    rw [bet_iff, r9]
    have hp := (okE_iff.1 (hS.okL y hyL).1)
    have h9 : rkW S.age (x.at_ + 18 * g) y ≤ 9 := by
      unfold rkW rk
      have : y.1.pri ≤ 9 := hp.2.2.2.2.1
      split <;> omega
    rw [hR] at hyL
    rcases List.mem_cons.1 hyL with rfl | hyR
    · exact absurd rfl hne
    · have : 1 < y.2 := hy y hyR
      have e : ((x, (1 : Int)) : Wt).2 = 1 := rfl
      omega
  unfold takeE
  rw [hr, List.find?_cons_of_pos (by unfold free cnt; rw [h.F, h.lim]; simp)]
def rangeW (g n d : Int) : Bool := decide (g < 1) || decide (65536 < g) || decide (60 < n) || decide (300 < d)
theorem rangeW_no {g n d : Int} (h : rangeW g n d = false) : 1 ≤ g ∧ g ≤ 65536 ∧ n ≤ 60 ∧ d ≤ 300 := by
  unfold rangeW at h
  simp only [Bool.or_eq_false_iff, decide_eq_false_iff_not] at h
  omega
set_option maxHeartbeats 16000000 in
theorem readyWaits_no (g : Int) (x : Et) (v : Value) (l : List Et) (w : World) (hv : EtsAt w v l) (h : rangeW g l.length x.dest.length = true) :
    Calls Try.prog 6 #[.int .i64 g, agE x, v] w fun e w' => e = .returned (.bool true) ∧ Below w.heap.size w w' := by
  have HA := Lib.hid awake_x
  have H := Lib.hid h
  obtain ⟨a0, cap, rfl, hcap, _⟩ := hv
  obtain ⟨i, d, p, a⟩ := x
  dsimp only at H
  have hs := mkS_size d
  clear h
  go_enter Try.func6, Try.ntmps6
  go_wp2_with fail
  refine (HA.out _).mono ?_
  rintro e w1 ⟨rfl, hb1⟩
  have HB1 := Lib.hid (below_fresh (Below.refl w.heap.size w) hb1)
  have hx1 := (hb1.block w.heap.size (by simp)).trans (newOf w _)
  have x0 := cellOf hx1 1
  clear hb1 hx1 HA
  go_wp2_with fail
  all_goals first
    | (go_ret; exact ⟨rfl, HB1.out⟩)
    | (exfalso; have := H.out; unfold rangeW at this; simp_all; done)
    | (exfalso; have := H.out; unfold rangeW at this; simp_all; omega)
set_option maxHeartbeats 16000000 in
theorem readyWaits_yes (g : Int) (x : Et) (v : Value) (l : List Et) (w : World) (hv : EtsAt w v l) (hi : Nm x.id) (h : rangeW g l.length x.dest.length = false) :
    Calls Try.prog 6 #[.int .i64 g, agE x, v] w fun e w' => e = .returned (.bool true) ∧ Below w.heap.size w w' := by
  obtain ⟨h1, h2, h3, h4⟩ := rangeW_no h
  have HA := Lib.hid awake_x
  have d1 : decide (g < 1) = false := decide_eq_false (by omega)
  have d2 : decide (65536 < g) = false := decide_eq_false (by omega)
  have d3 : decide (60 < (l.length : Int)) = false := decide_eq_false (by omega)
  have d4 : decide (300 < (x.dest.length : Int)) = false := decide_eq_false (by omega)
  have hs := mkS_size x.dest
  obtain ⟨W1, hW1⟩ : ∃ W1, W1 = w.alloc (.cells (ecs x) 34) := ⟨_, rfl⟩
  obtain ⟨B, hB⟩ : ∃ B, B = w.heap.size := ⟨_, rfl⟩
  have b1 : Below w.heap.size w W1 := by rw [hW1]; exact below_box w _
  have x1 : W1.heap[B]? = some (.cells (ecs x) 34 (0, 0)) := by rw [hW1, hB]; exact newOf w _
  have hN := rightN_iff.2 ⟨h1, (by omega : g ≤ 1048576), (by omega : (1 : Int) ≤ 64), (by omega : (64 : Int) ≤ 64), (by omega : (1 : Int) ≤ 4096), (by omega : (4096 : Int) ≤ 4096)⟩
  have hv1 := hv.below b1
  obtain ⟨a0, cap, rfl, hcap, hat⟩ := hv1
  have HW := Lib.hid (And.intro hW1 (And.intro hB (And.intro b1 (And.intro x1 (And.intro hN (And.intro hat (And.intro hi (And.intro h1 (And.intro h2 (And.intro h3 h4))))))))))
  clear h h1 h2 h3 h4 hW1 hB b1 x1 hN hat hv hi
  go_enter Try.func6, Try.ntmps6
  go_wp2_with fail
  rw [← HW.out.1, ← HW.out.2.1]
  refine (HA.out _).mono ?_
  rintro e wa ⟨rfl, hba⟩
  have HBa := Lib.hid hba
  have c1 := cellOf ((hba.block B (ltOf HW.out.2.2.2.1)).trans HW.out.2.2.2.1) 1
  clear hba HA
  go_wp2_with fail
  refine (new_h HBa.out g 64 4096 HW.out.2.2.2.2.1).mono ?_
  rintro e wb ⟨b, O, rfl, hq, hbb, _⟩
  have HQb := Lib.hid hq
  have xb : wb.heap[B]? = some (.cells (ecs x) 34 (0, 0)) := (hq.below.block B (ltOf HW.out.2.2.2.1)).trans HW.out.2.2.2.1
  have c0 := cellOf xb 0
  have c2 := cellOf xb 2
  have c3 := cellOf xb 3
  have c1 := cellOf xb 1
  clear hq hbb
  go_wp2_with fail
  refine (put_h HQb.out x (by show (0 : Int) < 1000000; omega) HW.out.2.2.2.2.2.2.1 (by have := HW.out.2.2.2.2.2.2.2.2.2.2; omega)).mono ?_
  rintro e wc ⟨rfl, O1, hq1, hst⟩
  have HQc := Lib.hid hq1
  have xc : wc.heap[B]? = some (.cells (ecs x) 34 (0, 0)) := (hq1.below.block B (ltOf HW.out.2.2.2.1)).trans HW.out.2.2.2.1
  have HXc := Lib.hid xc
  have e3 := cellOf xc 3
  obtain ⟨code, hcode⟩ : ∃ c, putE (newS g 64 4096) x = c := ⟨_, rfl⟩
  rw [hcode]
  have HC := Lib.hid hcode
  clear hq1 xc hst c0 c1 c2 c3 xb hcode
  by_cases hc0 : code = 0
  · have hcb : (code != 0) = false := by rw [hc0]; rfl
    have HC0 := Lib.hid hc0
    clear hc0
    by_cases hat : 549755813888 < x.at_
    · have hatb : decide (549755813888 < x.at_) = true := decide_eq_true hat
      clear hat
      go_wp2_with fail
      go_ret
      exact ⟨rfl, HW.out.2.2.1.trans (HQc.out.below.mono (by have := HW.out.2.2.1.size; omega))⟩
    · have hatb : decide (549755813888 < x.at_) = false := decide_eq_false hat
      have HAT := Lib.hid hat
      clear hat
      have HG0 := Lib.hid (GW.start (by rw [HC.out]; exact HC0.out : putE (newS g 64 4096) x = 0))
      have hxat0 : 0 ≤ x.at_ := by
        have hz : putE (newS g 64 4096) x = 0 := by rw [HC.out]; exact HC0.out
        unfold putE at hz
        split at hz
        · omega
        · rename_i hk
          exact (okE_iff.1 (by simpa using hk)).2.2.2.2.2.1
      have HX0 := Lib.hid hxat0
      clear hxat0
      go_wp2_with fail
      go_loopw [9] (fun i wr => ∃ k : Nat, k ≤ l.length ∧ i = .int .i64 k ∧ Hid (∃ O S, HQ W1 O b S wr ∧ GW x g k S)) (fun i _ => l.length - (intOf i).toNat)
      case atStart => exact ⟨0, Nat.zero_le _, rfl, _, _, HQc.out, HG0.out⟩
      case round =>
        obtain ⟨k, hk, rfl, HI⟩ := hrel
        clear e3
        by_cases hlt : k < l.length
        · have HLT := Lib.hid hlt
          have hl60 : l.length ≤ 60 := by have := HW.out.2.2.2.2.2.2.2.2.2.1; omega
          obtain ⟨O2, S2, hq2, hg2⟩ := HI.out
          obtain ⟨y, hy⟩ : ∃ y, l[k]? = some y := ⟨_, List.getElem?_eq_getElem hlt⟩
          obtain ⟨A, rfl, hAl, hya⟩ := HW.out.2.2.2.2.2.1 k y hy
          have hya := hya.below hq2.below hya.lt
          have xr := (hq2.below.block B (ltOf HW.out.2.2.2.1)).trans HW.out.2.2.2.1
          have HI2 := Lib.hid (And.intro hq2 (And.intro hg2 (And.intro hya xr)))
          have c0 := hya.c0
          have c1 := hya.c1
          have c2 := hya.c2
          have c3 := hya.c3
          have hlA := hya.lt
          have x0 := cellOf xr 0
          have x3 := cellOf xr 3
          have hBl := ltOf xr
          have nB : B ≠ wr.heap.size := by omega
          have nA : (A.add (k * 4)).block ≠ wr.heap.size := by omega
          have hsy := mkS_size y.dest
          have hkl : (k : Int) < (l.length : Int) := by omega
          have hwr : IntKind.i64.wrap (x.at_ + (k : Int)) = x.at_ + (k : Int) := by
            have := HX0.out; have := HAT.out; have := HW.out.2.2.2.2.2.2.2.2.2.1
            simp [IntKind.wrap, IntKind.bits, IntKind.signed]; omega
          clear hq2 hg2 hya xr hy
          by_cases hd300 : 300 < y.dest.length
          · have hdb : decide (300 < (y.dest.length : Int)) = true := decide_eq_true (by omega)
            clear hd300
            go_wp2_with fail
            go_ret
            exact ⟨rfl, HW.out.2.2.1.trans (HI2.out.1.below.mono (by have := HW.out.2.2.1.size; omega))⟩
          · have hdb : decide (300 < (y.dest.length : Int)) = false := decide_eq_false (by omega)
            have HD300 := Lib.hid hd300
            clear hd300
            by_cases hid : y.id = x.id
            · have hidb : (y.id != x.id) = false := by rw [hid]; simp
              clear hid
              go_wp2_with fail
              go_roundw
              case rel => exact ⟨k + 1, by have := HLT.out; omega, by go_num, Lib.hid ⟨O2, S2, HI2.out.1.next (below_box wr _), HI2.out.2.1.next⟩⟩
              case measure => have := HLT.out; simp [intOf]; omega
            · have hidb : (y.id != x.id) = true := bne_iff_ne.2 hid
              clear hid
              obtain ⟨w5, hw5⟩ : ∃ w5, w5 = wr.alloc (.cells #[.int .i64 y.id, .string (mkS y.dest), .int .i64 y.pri, .int .i64 (x.at_ + (k : Int))] 34) := ⟨_, rfl⟩
              have HQ5 := Lib.hid (show HQ W1 O2 b S2 w5 by rw [hw5]; exact HI2.out.1.next (below_box wr _))
              have HW5 := Lib.hid hw5
              clear hw5
              go_wp2_with fail
              rw [← HW5.out]
              refine (put_h HQ5.out ⟨y.id, y.dest, y.pri, x.at_ + (k : Int)⟩ (by have := HI2.out.2.1.n; have := HW.out.2.2.2.2.2.2.2.2.2.1; omega) HI2.out.2.2.1.idr (by have := HD300.out; show y.dest.length ≤ _; omega)).mono ?_
              rintro e w6 ⟨rfl, O3, hq3, _⟩
              have HQ6 := Lib.hid hq3
              clear hq3 c0 c1 c2 c3 x0 x3
              go_wp2_with fail
              go_roundw
              case rel => exact ⟨k + 1, by have := HLT.out; omega, by go_num, Lib.hid ⟨O3, _, HQ6.out, HI2.out.2.1.put _ HI2.out.1.ok⟩⟩
              case measure => have := HLT.out; simp [intOf]; omega
        · obtain rfl : k = l.length := by omega
          obtain ⟨O2, S2, hq2, hg2⟩ := HI.out
          have xr := (hq2.below.block B (ltOf HW.out.2.2.2.1)).trans HW.out.2.2.2.1
          have hfi := hg2.first hq2.ok
          have hsi : S2.age = g := hg2.age
          have htE : tkE S2 (x.at_ + 18 * g) = x := by unfold tkE; rw [hfi]
          have htB : tkB S2 (x.at_ + 18 * g) = true := by unfold tkB; rw [hfi]; rfl
          have hg1 := HW.out.2.2.2.2.2.2.2.1
          have hg2' := HW.out.2.2.2.2.2.2.2.2.1
          have hnow : NowOk (x.at_ + 18 * g) S2.age := by
            have := HX0.out; have := HAT.out
            rw [hsi]; unfold NowOk; omega
          have w1 : IntKind.i64.wrap (18 * g) = 18 * g := by simp [IntKind.wrap, IntKind.bits, IntKind.signed]; omega
          have w2 : IntKind.i64.wrap (x.at_ + 18 * g) = x.at_ + 18 * g := by
            have := HX0.out; have := HAT.out
            simp [IntKind.wrap, IntKind.bits, IntKind.signed]; omega
          have HTK := Lib.hid (show Calls Try.prog 15 #[.pointer (some ⟨b, 0, none⟩), .int .i64 (x.at_ + 18 * g)] wr fun e w' => e = .returned (.tuple #[agE x, .bool true]) ∧ HQ W1 O2 b (takeQ S2 (x.at_ + 18 * g)) w' from (take_h hq2 (x.at_ + 18 * g) hnow).mono fun e w' ⟨he, h2, _⟩ => ⟨by rw [he, htE, htB], h2⟩)
          have x3 := cellOf xr 3
          have HXR := Lib.hid xr
          clear hq2 hg2 xr hfi hsi htE htB hnow hg1 hg2'
          go_wp2_with fail
          refine HTK.out.mono ?_
          rintro e w7 ⟨rfl, hq7⟩
          have x7 := (hq7.below.block B (ltOf HW.out.2.2.2.1)).trans HW.out.2.2.2.1
          have HB7 := Lib.hid hq7.below
          have y0 := cellOf x7 0
          have y1 := cellOf x7 1
          have y2 := cellOf x7 2
          have y3 := cellOf x7 3
          have hl7 := ltOf x7
          have n7 : B ≠ w7.heap.size := by omega
          have hEq : ∀ w, (Op.equalIn 10000 34 (.agg #[.int .i64 x.id, .string (mkS x.dest), .int .i64 x.pri, .int .i64 x.at_]) (.agg #[.int .i64 x.id, .string (mkS x.dest), .int .i64 x.pri, .int .i64 x.at_])).run Try.prog w = .ok true w := fun w => by
            have := eqEt x x w
            rwa [eqE_iff.2 rfl] at this
          clear hq7 x7 x3
          go_wp2_with fail
          go_ret
          exact ⟨rfl, below_next (HW.out.2.2.1.trans (HB7.out.mono (by have := HW.out.2.2.1.size; omega))) (below_box w7 _)⟩
  · have hcb : (code != 0) = true := bne_iff_ne.2 hc0
    go_wp2_with fail
    go_ret
    exact ⟨rfl, HW.out.2.2.1.trans (HQc.out.below.mono (by have := HW.out.2.2.1.size; omega))⟩
theorem readyWaits_row (g : Int) (x : Et) (v : Value) (l : List Et) (w : World) (_ : IntKind.i64.min ≤ g) (_ : g ≤ IntKind.i64.max) (hi : Nm x.id) (_ : x.dest.length ≤ 140737488355328) (hv : EtsAt w v l) :
    Calls Try.prog 6 #[.int .i64 g, agE x, v] w fun e w' => e = .returned (.bool true) ∧ Below w.heap.size w w' := by
  cases h : rangeW g l.length x.dest.length with
  | false => exact readyWaits_yes g x v l w hv hi h
  | true => exact readyWaits_no g x v l w hv h
end Go.Proofs.Ytdfihhjnbikimaa
