import Derived.Test.YtojpkbonioglbaaGreatDoorMaRtZ
import Derived.Test.YtojpkbonioglbaaGreatDoorMaEvD
namespace Go.Proofs.YtojpkbonioglbaaGreatDoor.E.T
set_option maxRecDepth 100000
set_option linter.unusedSimpArgs false
open Go.RowKit Go.Shelf
structure TSm (r : RT) : Prop where
 x : Sm r.x
 k : r.kind.length ≤ 100
 h : r.host.length ≤ 300
 tn : r.rp.text.length ≤ 40
 tl : ∀ t ∈ r.rp.text, t.length ≤ 1000
structure RA0 (w : World) (r : RT) (vr vl vt : Value) : Prop where
 at_ : RAt w r vr vl vt
 sh : ShE r.x
 k : r.kind.length ≤ 281474976710656
 h : r.host.length ≤ 281474976710656
 tl : ∀ t ∈ r.rp.text, t.length ≤ 281474976710656
 ri : R.RI r.rp.code r.rp.e
theorem rp_of {w : World} {r : RT} {vr vl vt : Value} (h : RAt w r vr vl vt) (hs : TSm r) (hi : R.RI r.rp.code r.rp.e) (hR : Rdy w) : RP w r vr vl vt :=
 ⟨h, hs.x.fit, hR, hi, by have := hs.tn; omega, fun t ht => by have := hs.tl t ht; omega, by have := hs.k; omega, by have := hs.x.rn; omega⟩
def SlPost (r : RT) (w : World) (e : Ending) (w' : World) : Prop := ∃ q, e = .returned (.bool q) ∧ (q = true → TSm r) ∧ Below w.heap.size w w'
theorem sl_no {r : RT} {w w' : World} (hb : Below w.heap.size w w') : SlPost r w (.returned (.bool false)) w' := ⟨false, rfl, fun h => (by cases h), hb⟩
set_option maxHeartbeats 8000000 in
theorem rsmall_x (r : RT) (vr vl vt : Value) (w : World) (hA : RA0 w r vr vl vt) : Calls Tryz.prog 9 #[rtA r vr vl vt] w (SlPost r w) := by
 have HB := Lib.hid (RB.new w r vr vl vt)
 have HA := Lib.hid hA
 obtain ⟨ra, rcap, rfl, _, _, _⟩ := hA.at_.e.rc
 obtain ⟨la, lc, rfl⟩ := txts_slice hA.at_.e.ls
 obtain ⟨ta, tc, rfl⟩ := txts_slice hA.at_.t
 have s1 := mkS_size r.kind
 have s2 := mkS_size r.host
 have hk := hA.k
 have hh := hA.h
 clear hA
 generalize hN : r.rp.text.length = N at *
 have HN := Lib.hid hN
 clear hN
 go_enter Tryz.func9, Tryz.ntmps9
 go_upto_region 1 with fail
 change Code.wp _ _ _ _ (w.alloc (.cells (RE r (.slice ra r.x.rc.length rcap) (.slice la r.x.ls.length lc) (.slice ta N tc)) 39))
 generalize w.alloc (.cells (RE r (.slice ra r.x.rc.length rcap) (.slice la r.x.ls.length lc) (.slice ta N tc)) 39) = w1 at *
 have c0 : w1.cell? ⟨w.heap.size, 0, none⟩ = some (.string (mkS r.kind)) := cellOf HB.out.box 0
 have c25 : w1.cell? ⟨w.heap.size, 25, none⟩ = some (.string (mkS r.host)) := cellOf HB.out.box 25
 have c30 : w1.cell? ⟨w.heap.size, 30, none⟩ = some (.slice ta N tc) := cellOf HB.out.box 30
 by_cases h1 : 100 < r.kind.length
 ·go_wp2_with fail
  go_ret
  exact sl_no HB.out.below
 by_cases h2 : 300 < r.host.length
 ·go_wp2_with fail
  go_ret
  exact sl_no HB.out.below
 by_cases h3 : 40 < N
 ·go_wp2_with fail
  go_ret
  exact sl_no HB.out.below
 go_wp2_with (first | ((with_reducible refine tis_load (ty := 34) (x := .tmp 22) rfl ?_); refine tload ?_ 34 (.tmp 22) rfl w.heap.size 1 39 (RE r (.slice ra r.x.rc.length rcap) (.slice la r.x.ls.length lc) (.slice ta N tc)) (EC r.x (.slice ra r.x.rc.length rcap) (.slice la r.x.ls.length lc)) _ rfl HB.out.box Tryz.underlying34 rfl size_msg (jE_msg r (.slice ra r.x.rc.length rcap) (.slice la r.x.ls.length lc) (.slice ta N tc)) ?_; (focus (first | rfl | (go_simp; done)))))
 refine (msmall_x r.x _ _ _ (HA.out.at_.e.below HB.out.below) HA.out.sh).mono ?_
 rintro e w2 ⟨q, rfl, hq, hb⟩
 have HB2 := Lib.hid (HB.out.next hb)
 clear hb HB c0 c25 c30
 cases q
 ·go_wp2_with fail
  go_ret
  exact sl_no HB2.out.below
 have HQ := Lib.hid (hq rfl)
 have H1 := Lib.hid h1
 have H2 := Lib.hid h2
 have H3 := Lib.hid h3
 clear hq h1 h2
 go_wp2_with fail
 have HTX := Lib.hid (HA.out.at_.t.below HB2.out.below)
 go_loopw [3] (fun i wr => ∃ k : Nat, k ≤ N ∧ i = .int .i64 k ∧ wr = w2 ∧ Hid (∀ t ∈ r.rp.text.take k, t.length ≤ 1000)) (fun i _ => N - (intOf i).toNat)
 case atStart => exact ⟨0, Nat.zero_le _, rfl, rfl, Lib.hid (fun t ht => by cases ht)⟩
 case round =>
  obtain ⟨k, hkN, rfl, rfl, HK⟩ := hrel
  have c30 : wr.cell? ⟨w.heap.size, 30, none⟩ = some (.slice ta N tc) := cellOf HB2.out.box 30
  by_cases hlt : k < N
  ·obtain ⟨t, ht⟩ : ∃ t, r.rp.text[k]? = some t := ⟨_, List.getElem?_eq_getElem (by have := HN.out; omega)⟩
   obtain ⟨a', c', hv, _, _, hx⟩ := HTX.out
   injection hv with e1 _ _
   subst e1
   obtain ⟨ad, rfl, hab, hat⟩ := hx k t ht
   have hms := mkS_size t
   have htl := HA.out.tl t (List.mem_of_getElem? ht)
   have HT := Lib.hid ht
   clear ht hx hab
   by_cases hlen : 1000 < t.length
   ·go_wp2_with fail
    go_ret
    exact sl_no HB2.out.below
   ·have HLE := Lib.hid hlen
    go_wp2_with fail
    go_roundw
    case rel =>
     refine ⟨k + 1, by omega, by go_num, trivial, Lib.hid fun u hu => ?_⟩
     obtain ⟨h1, h2⟩ := List.getElem?_eq_some_iff.1 HT.out
     rw [List.take_succ_eq_append_getElem h1, List.mem_append, List.mem_singleton] at hu
     rcases hu with hu | rfl
     ·exact HK.out u hu
     ·rw [h2]; have := HLE.out; omega
    case measure => simp [intOf]; omega
  ·obtain rfl : k = N := by omega
   go_wp2_with fail
   go_ret
   refine ⟨true, rfl, fun _ => ⟨HQ.out, Nat.le_of_not_lt H1.out, Nat.le_of_not_lt H2.out, by have := HN.out; have := H3.out; omega, ?_⟩, HB2.out.below⟩
   have h := HK.out
   rwa [← HN.out, List.take_length] at h
end Go.Proofs.YtojpkbonioglbaaGreatDoor.E.T
