/-
  The walk of Undata's closure and of Undata.
-/
import Derived.Test.YtkkpfencnjnddaaData
namespace Go.Proofs.Ytkkpfencnjnddaa
open Go.RowKit
theorem Try.info9 : (Try.prog.info? 9).map (fun i => (i.zero, i.size, i.bytes)) = some (some (.string ⟨#[]⟩), 1, 16) := by kernel_rfl

def mkS (t : List UInt8) : ByteArray := ⟨t.toArray⟩
def strsV (l : List (List UInt8)) : List Value := l.map fun t => .string (mkS t)
def cutE (r : List UInt8) : List UInt8 × List UInt8 × Bool := Lib.cut r [13, 10]
def und : Nat → List (List UInt8) → List UInt8 → Option (List (List UInt8) × List UInt8)
  | 0, _, _ => none
  | f + 1, acc, r => if (cutE r).2.2 = true then (if (cutE r).1 = [46] then some (acc, (cutE r).2.1) else und f (acc ++ [(cutE r).1]) (cutE r).2.1) else none
theorem cutE_len (r : List UInt8) (h : (cutE r).2.2 = true) : (cutE r).1.length + 2 + (cutE r).2.1.length = r.length := by
  unfold cutE Lib.cut at *
  split at h
  · rename_i h0
    have := Lib.index_room r [13, 10] h0
    simp only [if_pos h0, List.length_take, List.length_drop, List.length_cons, List.length_nil] at this ⊢
    omega
  · cases h

def NextPost (rb : Nat) (t r' : List UInt8) (ok : Bool) (w : World) (e : Ending) (w' : World) : Prop :=
  e = .returned (.tuple #[.string (mkS t), .bool ok]) ∧ w'.heap[rb]? = some (.cells #[.string (mkS r')] 9 (0, 0)) ∧ w.grownBy w' (some rb)
set_option maxHeartbeats 1000000 in
theorem next_x (rb : Nat) (r : List UInt8) (m : Int) (w : World) (hr : w.heap[rb]? = some (.cells #[.string (mkS r)] 9 (0, 0))) (hm : w.cell? ⟨0, 0, none⟩ = some (.int .i64 m)) (hs : r.length < 4294967281) :
    Calls Try.prog 31 #[.pointer (some ⟨rb, 0, none⟩)] w (NextPost rb (cutE r).1 (cutE r).2.1 (cutE r).2.2 w) := by
  have c0 : w.cell? ⟨rb, 0, none⟩ = some (.string (mkS r)) := cell5 hr 0
  have f0 := free5 hr 0
  have HC := Lib.hid (Try.strings_Cut (mkS r) { data := #[13, 10] } m w (by rw [mkS, size_mk]; exact hs) hm)
  have e1 : Lib.cut (mkS r).data.toList ({ data := #[13, 10] } : ByteArray).data.toList = cutE r := by simp [mkS, cutE]
  rw [e1] at HC
  have HR := Lib.hid hr
  clear e1 hm hr
  go_enter Try.func31, Try.ntmps31
  go_wp2_with fail
  refine HC.out.mono ?_
  rintro e w1 ⟨rfl, n, rfl⟩
  go_wp2_with fail
  go_ret2
  exact ⟨rfl, set5 (w := w.drewN n) HR.out 0 _, ⟨rfl, rfl, rfl, by simp [World.setCell, World.drewN], fun k _ hk => Below.heap_setCell (w.drewN n) ⟨rb, 0, none⟩ _ k (fun e => hk (by rw [e]))⟩⟩

/-- What holds in Undata's first loop. -/
structure US (W0 : World) (acc : List (List UInt8)) (r : List UInt8) (lv : Value) (w : World) : Prop where
  rest : w.heap[W0.heap.size]? = some (.cells #[.string (mkS r)] 9 (0, 0))
  row : w.ownsRow (W0.heap.size + 1) 9 1 lv acc.length (strsV acc)
  below : Below W0.heap.size W0 w
theorem US.next {W0 w w' : World} {acc : List (List UInt8)} {r r' : List UInt8} {lv : Value} (h : US W0 acc r lv w) (hr : w'.heap[W0.heap.size]? = some (.cells #[.string (mkS r')] 9 (0, 0))) (hg : w.grownBy w' (some W0.heap.size)) : US W0 acc r' lv w' := by
  refine ⟨hr, own_of h.row fun k hk => ?_, h.below.grown hg h.below.size (fun k hk => by injection hk with hk; omega)⟩
  have := h.row.lt k hk
  exact hg.block k this.2 (fun e => by injection e with e; omega)
theorem US.more {W0 w W w1 : World} {acc : List (List UInt8)} {r t : List UInt8} {lv v1 : Value} (h : US W0 acc r lv w) (hb : Below w.heap.size w W) (hg : W.grownBy w1 lv.ownBlock) (ho : w1.ownsRow (W0.heap.size + 1) 9 1 v1 (acc.length + 1) (strsV acc ++ [.string (mkS t)])) : US W0 (acc ++ [t]) r v1 w1 := by
  have hlt := lt5 h.rest
  have hne : ∀ k, lv.ownBlock = some k → W0.heap.size + 1 ≤ k := fun k hk => (h.row.lt k hk).1
  refine ⟨?_, ?_, ?_⟩
  · refine (hg.block _ (Nat.lt_of_lt_of_le hlt hb.size) (fun e => ?_)).trans ((hb.block _ hlt).trans h.rest)
    have := hne _ e.symm
    omega
  · have e1 : (acc ++ [t]).length = acc.length + 1 := by simp
    have e2 : strsV (acc ++ [t]) = strsV acc ++ [.string (mkS t)] := by simp [strsV]
    rw [e1, e2]
    exact ho
  · exact (h.below.trans (hb.mono h.below.size)).grown hg (Nat.le_trans h.below.size hb.size) (fun k hk => by have := hne k hk; omega)
theorem US.later {W0 w w' : World} {acc : List (List UInt8)} {r : List UInt8} {lv : Value} (h : US W0 acc r lv w) (hb : Below w.heap.size w w') : US W0 acc r lv w' :=
  ⟨(hb.block _ (lt5 h.rest)).trans h.rest, own_below h.row hb, h.below.trans (hb.mono h.below.size)⟩
theorem own_slice {w : World} {B : Nat} {e : TypeId} {size n : Nat} {v : Value} {xs : List Value} (h : w.ownsRow B e size v n xs) : ∃ A c, v = .slice A n c := by
  rcases h.2 with ⟨rfl, rfl⟩ | ⟨g, cap, cur, rfl, _⟩
  · exact ⟨_, _, rfl⟩
  · exact ⟨_, _, rfl⟩
theorem own_strs {w : World} {B c : Nat} {A : Option Addr} {l : List (List UInt8)} (h : w.ownsRow B 9 1 (.slice A l.length c) l.length (strsV l)) : Strs w A l.length (l.map mkS) := by
  refine ⟨by simp, fun hn => ?_⟩
  obtain ⟨g, cap, hv, _, hlt⟩ := h.form hn
  injection hv with h1 h2 h3
  subst h1
  refine ⟨_, rfl, hlt, fun j p hj => ?_⟩
  refine h.cells rfl j (.string p) ?_
  rw [List.getElem?_map] at hj
  rw [strsV, List.getElem?_map]
  cases hlj : l[j]? with
  | none => rw [hlj] at hj; cases hj
  | some t => rw [hlj] at hj; injection hj with hj; rw [← hj]; rfl

theorem mkS_toList (t : List UInt8) : (mkS t).toList = t := by rw [Lib.toList_data]; simp [mkS]
/-- What Undata answers: the texts, the rest, what is wrong. -/
def undata (s : List UInt8) : List (List UInt8) × List UInt8 × Int :=
  match und (s.length + 1) [] s with
  | none => ([], [], 12)
  | some (l, rest) => if wrongOf 999 (l.map mkS) = 0 then (l.map (fun t => Lib.trimPrefix t [46]), rest, 0) else ([], [], wrongOf 999 (l.map mkS))
def UndPost (s : List UInt8) (w : World) (e : Ending) (w' : World) : Prop :=
  ∃ o, e = .returned (.tuple #[o, .string (mkS (undata s).2.1), .int .i64 (undata s).2.2]) ∧ w'.ownsRow w.heap.size 9 1 o (undata s).1.length (strsV (undata s).1) ∧ Below w.heap.size w w'

theorem more_le {acc : List (List UInt8)} {t : List UInt8} {N : Nat} (h : ∀ u ∈ acc, u.length ≤ N) (ht : t.length ≤ N) : Hid (∀ u ∈ acc ++ [t], u.length ≤ N) := by
  intro u hu
  rcases List.mem_append.1 hu with hu | hu
  · exact h u hu
  · rw [List.mem_singleton.1 hu]; exact ht
set_option maxHeartbeats 1000000 in
theorem clone_x (s : ByteArray) (w : World) (hs : s.size ≤ 281474976710656) : Calls Try.prog 33 #[.string s] w fun e w' => e = .returned (.string s) ∧ Below w.heap.size w w' := by
  go_enter Try.func33, Try.ntmps33
  go_wp2_with (go_at_call 42; refine (Try.stringslite_Clone s w hs).mono ?_; rintro e w' ⟨rfl, hw⟩)
  go_ret
  exact ⟨rfl, hw⟩
theorem trim_x (t : List UInt8) (w : World) : Calls Try.prog 34 #[.string (mkS t), .string { data := #[46] }] w fun e w' => e = .returned (.string (mkS (Lib.trimPrefix t [46]))) ∧ w = w' :=
  (Try.strings_TrimPrefix (mkS t) { data := #[46] } w).mono fun e w' ⟨he, hw⟩ => ⟨by rw [he]; simp [mkS], hw.symm⟩
theorem trim_len (t : List UInt8) : (Lib.trimPrefix t [46]).length ≤ t.length := by
  unfold Lib.trimPrefix
  split
  · simp
  · exact Nat.le_refl _

/-- The texts, the first k of them trimmed. -/
def rowAt (l : List (List UInt8)) (k : Nat) : List (List UInt8) := (l.take k).map (fun t => Lib.trimPrefix t [46]) ++ l.drop k
theorem rowAt_zero (l : List (List UInt8)) : rowAt l 0 = l := by simp [rowAt]
theorem rowAt_all {l : List (List UInt8)} {k : Nat} (h : l.length ≤ k) : rowAt l k = l.map (fun t => Lib.trimPrefix t [46]) := by
  rw [rowAt, List.take_of_length_le h, List.drop_of_length_le h, List.append_nil]
theorem rowAt_get {l : List (List UInt8)} {k : Nat} {t : List UInt8} (h : l[k]? = some t) : (rowAt l k)[k]? = some t := by
  obtain ⟨hk, _⟩ := List.getElem?_eq_some_iff.1 h
  have e : ((l.take k).map (fun t => Lib.trimPrefix t [46])).length = k := by rw [List.length_map, List.length_take]; omega
  rw [rowAt, List.getElem?_append_right (by omega), e, Nat.sub_self, List.getElem?_drop]
  exact h
theorem rowAt_set {l : List (List UInt8)} {k : Nat} {t : List UInt8} (h : l[k]? = some t) : (strsV (rowAt l k)).set k (.string (mkS (Lib.trimPrefix t [46]))) = strsV (rowAt l (k + 1)) := by
  obtain ⟨hk, ht⟩ := List.getElem?_eq_some_iff.1 h
  have e : ((l.take k).map (fun t => Lib.trimPrefix t [46])).length = k := by rw [List.length_map, List.length_take]; omega
  have e2 : rowAt l (k + 1) = (rowAt l k).set k (Lib.trimPrefix t [46]) := by
    rw [rowAt, rowAt, List.set_append, if_neg (by omega), e, Nat.sub_self, List.take_succ_eq_append_getElem hk, List.drop_eq_getElem_cons hk, ht, List.set_cons_zero]
    simp
  rw [e2, strsV, strsV, List.map_set]
theorem rowAt_length (l : List (List UInt8)) (k : Nat) : (rowAt l k).length = l.length := by
  rw [rowAt, List.length_append, List.length_map, List.length_take, List.length_drop]; omega

/-- What holds in Undata's second loop. -/
structure UT (W0 : World) (acc : List (List UInt8)) (k : Nat) (r : List UInt8) (lv : Value) (w : World) : Prop where
  rest : w.heap[W0.heap.size]? = some (.cells #[.string (mkS r)] 9 (0, 0))
  row : w.ownsRow (W0.heap.size + 1) 9 1 lv acc.length (strsV (rowAt acc k))
  below : Below W0.heap.size W0 w
theorem UT.start {W0 w : World} {acc : List (List UInt8)} {r : List UInt8} {lv : Value} (h : US W0 acc r lv w) : UT W0 acc 0 r lv w := ⟨h.rest, by rw [rowAt_zero]; exact h.row, h.below⟩
theorem UT.later {W0 w w' : World} {acc : List (List UInt8)} {k : Nat} {r : List UInt8} {lv : Value} (h : UT W0 acc k r lv w) (hb : Below w.heap.size w w') : UT W0 acc k r lv w' :=
  ⟨(hb.block _ (lt5 h.rest)).trans h.rest, own_below h.row hb, h.below.trans (hb.mono h.below.size)⟩
theorem UT.store {W0 w : World} {acc : List (List UInt8)} {k g c : Nat} {r t : List UInt8} (h : UT W0 acc k r (.slice (some ⟨g, 0, none⟩) acc.length c) w) (ht : acc[k]? = some t) :
    UT W0 acc (k + 1) r (.slice (some ⟨g, 0, none⟩) acc.length c) (w.setCell ⟨g, k, none⟩ (.string (mkS (Lib.trimPrefix t [46])))) := by
  have hg := (h.row.lt g rfl).1
  have hs := (h.row.stored k (.string (mkS (Lib.trimPrefix t [46])))).1
  rw [rowAt_set ht] at hs
  exact ⟨(Below.heap_setCell _ _ _ _ (by show W0.heap.size ≠ g; omega)).trans h.rest, hs, h.below.setCell (p := ⟨g, k, none⟩) (by show W0.heap.size ≤ g; omega) _⟩
theorem und_none {s : List UInt8} {w w' : World} (hb : Below w.heap.size w w') (h : und (s.length + 1) [] s = none) : UndPost s w (.returned (.tuple #[.slice none 0 0, .string ⟨#[]⟩, .int .i64 12])) w' := by
  have e : undata s = ([], [], 12) := by rw [undata, h]
  unfold UndPost
  rw [e]
  exact ⟨_, rfl, ⟨rfl, .inl ⟨rfl, rfl⟩⟩, hb⟩
theorem own_mono {w : World} {B B' : Nat} {e : TypeId} {size n : Nat} {v : Value} {xs : List Value} (h : w.ownsRow B e size v n xs) (hB : B' ≤ B) : w.ownsRow B' e size v n xs := by
  refine ⟨h.1, ?_⟩
  rcases h.2 with h0 | ⟨g, cap, cur, hv, hb, h1⟩
  · exact .inl h0
  · exact .inr ⟨g, cap, cur, hv, Nat.le_trans hB hb, h1⟩
theorem und_wrong {s r : List UInt8} {l : List (List UInt8)} {w w' : World} (hb : Below w.heap.size w w') (h : und (s.length + 1) [] s = some (l, r)) (h0 : wrongOf 999 (l.map mkS) ≠ 0) : UndPost s w (.returned (.tuple #[.slice none 0 0, .string ⟨#[]⟩, .int .i64 (wrongOf 999 (l.map mkS))])) w' := by
  have e : undata s = ([], [], wrongOf 999 (l.map mkS)) := by rw [undata, h]; simp only [if_neg h0]
  unfold UndPost
  rw [e]
  exact ⟨_, rfl, ⟨rfl, .inl ⟨rfl, rfl⟩⟩, hb⟩
theorem und_some {s r : List UInt8} {l : List (List UInt8)} {k c : Nat} {A : Option Addr} {w w' : World} (hb : UT w l k r (.slice A l.length c) w') (hk : l.length ≤ k) (h : und (s.length + 1) [] s = some (l, r)) (h0 : wrongOf 999 (l.map mkS) = 0) : UndPost s w (.returned (.tuple #[.slice A l.length c, .string (mkS r), .int .i64 0])) w' := by
  have e : undata s = (l.map (fun t => Lib.trimPrefix t [46]), r, 0) := by rw [undata, h]; simp only [if_pos h0]
  have hr := hb.row
  rw [rowAt_all hk] at hr
  unfold UndPost
  rw [e]
  exact ⟨_, rfl, by rw [List.length_map]; exact own_mono hr (by omega), hb.below⟩
set_option maxHeartbeats 1000000 in
theorem undata_x (s : List UInt8) (m : Int) (w : World) (hm : w.cell? ⟨0, 0, none⟩ = some (.int .i64 m)) (h0 : 0 < w.heap.size) (hs : s.length ≤ 1000000000) :
    Calls Try.prog 18 #[.string (mkS s)] w (UndPost s w) := by
  obtain ⟨i0, hi, hz0, hz1, hz2⟩ := info_parts Try.info9
  have hst : US w [] s (.slice none 0 0) (w.alloc (.cells #[.string (mkS s)] 9)) := ⟨heap_alloc_new w _, ⟨rfl, .inl ⟨rfl, rfl⟩⟩, (Below.refl _ _).alloc (Nat.le_refl _) _⟩
  have HST := Lib.hid hst
  have HM := Lib.hid hm
  clear hm hst
  go_enter Try.func18, Try.ntmps18
  go_wp2_with fail
  go_step3
  go_wp2_with fail
  go_step3
  go_wp2_with fail
  go_loopg [7] (s.length + 1) (fun gg lv wr => ∃ acc r, US w acc r lv wr ∧ und gg acc r = und (s.length + 1) [] s ∧ r.length < gg ∧ acc.length + r.length ≤ s.length ∧ Hid (∀ t ∈ acc, t.length ≤ s.length))
  case atStart => exact ⟨[], s, HST.out, rfl, by omega, by simp, show ∀ t ∈ ([] : List (List UInt8)), t.length ≤ s.length from by simp⟩
  case round =>
    obtain ⟨acc, r, hus, hu, hrg, hal, HTS⟩ := hrel
    obtain ⟨A, cp, rfl⟩ := own_slice hus.row
    cases gk with
    | zero => omega
    | succ gg =>
      have HU := Lib.hid hu
      have HNX := Lib.hid (next_x w.heap.size r m wr hus.rest (by rw [hus.below.cell h0]; exact HM.out) (by omega))
      have HUS := Lib.hid hus
      have hcl := cutE_len r
      clear hu hus
      have hund : und (gg + 1) acc r = if (cutE r).2.2 = true then (if (cutE r).1 = [46] then some (acc, (cutE r).2.1) else und gg (acc ++ [(cutE r).1]) (cutE r).2.1) else none := rfl
      generalize cutE r = q at HNX hcl hund
      obtain ⟨t, r', ok⟩ := q
      simp only at HNX hcl hund
      have HUND := Lib.hid hund
      clear hund
      cases ok
      · clear hcl
        go_wp2_with fail
        refine HNX.out.mono ?_
        rintro e w1 ⟨rfl, hr1, hg1⟩
        have HUS1 := Lib.hid (HUS.out.next hr1 hg1)
        clear hr1 hg1
        go_wp2_with fail
        simp only [Exit.noGoto_ret]
        go_ret3
        have e1 : und (s.length + 1) [] s = none := HU.out.symm.trans HUND.out
        exact und_none HUS1.out.below e1
      · have hlen := hcl rfl
        clear hcl
        by_cases ht : t = [46]
        · have htb : ((mkS t).toList == [46]) = true := by rw [mkS_toList, ht]; rfl
          have HT := Lib.hid ht
          clear ht
          go_wp2_with fail
          refine HNX.out.mono ?_
          rintro e w1 ⟨rfl, hr1, hg1⟩
          have hus1 := HUS.out.next hr1 hg1
          have HUS1 := Lib.hid hus1
          have hsts := own_strs hus1.row
          clear hr1 hg1 hus1
          have hall : ∀ p ∈ acc.map mkS, p.size < 4294967281 := by
            intro p hp
            obtain ⟨u, hu, rfl⟩ := List.mem_map.1 hp
            have := HTS.out u hu
            rw [mkS, size_mk]
            omega
          have HW := Lib.hid (wrong_x 999 acc.length cp (acc.map mkS) A w1 hsts hall (by omega))
          clear hsts hall
          go_wp2_with fail
          refine HW.out.mono ?_
          rintro e w2 ⟨rfl, hb2⟩
          have HUS2 := Lib.hid (HUS1.out.later hb2)
          clear hb2
          by_cases hw0 : wrongOf 999 (acc.map mkS) = 0
          · have H0 := Lib.hid hw0
            rw [hw0]
            clear hw0
            go_wp2_with fail
            have hut := Lib.hid (UT.start HUS2.out)
            go_loopw [37] (fun i wr => ∃ k : Nat, k ≤ acc.length ∧ i = .int .i64 k ∧ UT w acc k r' (.slice A acc.length cp) wr) (fun i _ => acc.length - (intOf i).toNat)
            case atStart => exact ⟨0, Nat.zero_le _, rfl, hut.out⟩
            case round =>
              obtain ⟨k, hk, rfl, hr⟩ := hrel
              by_cases hlt : k < acc.length
              · obtain ⟨g, cap, hv, _, _⟩ := hr.row.form (by omega)
                injection hv with hv1 hv2 hv3
                subst hv1
                clear hv2 hv3
                have htk : acc[k]? = some (acc[k]'hlt) := List.getElem?_eq_getElem hlt
                have htl := HTS.out _ (List.mem_of_getElem? htk)
                generalize acc[k]'hlt = u at htk htl
                have hgt : (strsV (rowAt acc k))[k]? = some (.string (mkS u)) := by rw [strsV, List.getElem?_map, rowAt_get htk]; rfl
                have hcl : wr.cell? ⟨g, k, none⟩ = some (.string (mkS u)) := (hr.row.cellAt k (by omega)).trans hgt
                have hct := Lib.hid (trim_x u wr)
                have hcn := Lib.hid (clone_x (mkS (Lib.trimPrefix u [46])) wr (by have := trim_len u; rw [mkS, size_mk]; omega))
                have HR := Lib.hid hr
                have HTK := Lib.hid htk
                have HGT := Lib.hid hgt
                clear hr htk hgt
                go_wp2_with fail
                refine hct.out.mono ?_
                rintro e w3 ⟨rfl, rfl⟩
                go_wp2_with fail
                refine hcn.out.mono ?_
                rintro e w4 ⟨rfl, hb4⟩
                have hr4 := HR.out.later hb4
                have hc4 : w4.cell? ⟨g, k, none⟩ = some (.string (mkS u)) := (hr4.row.cellAt k (by omega)).trans HGT.out
                have hf4 : w4.frozen? ⟨g, k, none⟩ = false := hr4.row.frozenAt k
                have HR4 := Lib.hid hr4
                clear hb4 hr4
                go_wp2_with fail
                go_roundw
                case rel => exact ⟨k + 1, by omega, by go_num, HR4.out.store HTK.out⟩
                case measure => simp [intOf]; omega
              · have hrb : wr.cell? ⟨w.heap.size, 0, none⟩ = some (.string (mkS r')) := cell5 hr.rest 0
                have hcn := Lib.hid (clone_x (mkS r') wr (by rw [mkS, size_mk]; omega))
                have HR := Lib.hid hr
                clear hr
                go_wp2_with fail
                refine hcn.out.mono ?_
                rintro e w3 ⟨rfl, hb3⟩
                have HR3 := Lib.hid (HR.out.later hb3)
                clear hb3
                go_wp2_with fail
                simp only [Exit.noGoto_ret]
                go_ret3
                have e1 : und (s.length + 1) [] s = some (acc, r') := HU.out.symm.trans (HUND.out.trans (by simp only [HT.out, if_true]))
                exact und_some HR3.out (by omega) e1 H0.out
          · have hne : (wrongOf 999 (acc.map mkS) != 0) = true := by rw [bne_iff_ne]; exact hw0
            have H0 := Lib.hid hw0
            clear hw0
            go_wp2_with fail
            simp only [Exit.noGoto_ret]
            go_ret3
            have e1 : und (s.length + 1) [] s = some (acc, r') := HU.out.symm.trans (HUND.out.trans (by simp only [HT.out, if_true]))
            exact und_wrong HUS2.out.below e1 H0.out
        · have htb : ((mkS t).toList == [46]) = false := by rw [mkS_toList]; exact beq_eq_false_iff_ne.2 ht
          have HT := Lib.hid ht
          clear ht
          go_wp2_with fail
          refine HNX.out.mono ?_
          rintro e w1 ⟨rfl, hr1, hg1⟩
          have hus1 := HUS.out.next hr1 hg1
          have HUS1 := Lib.hid hus1
          clear hr1 hg1 hus1
          go_wp2_with (first
            | (at_builtin
               refine wpList_append_own_at _ rfl (.tmp 26) (.tmp 28) _ rfl (w.heap.size + 1) 9 i0 (.string ⟨#[]⟩) 1 16 Try.underlying22 hi hz0 hz1 hz2 rfl (by decide) (.slice A acc.length cp) acc.length (strsV acc) rfl
                 (HUS1.out.row.alloc _) ⟨w1.heap.size, 0, none⟩ 1 1 [.string (mkS t)] rfl rfl ?c1 ?c2 ?c3 ?c4 ?c5 ?_))
          case c1 =>
            intro j u hu
            match j with
            | 0 => simp at hu; subst hu; exact World.cell?_alloc_at _ _ _ _ rfl
            | j + 1 => simp at hu
          case c2 => intro u hu; simp at hu; subst hu; rfl
          case c3 => unfold maxLen; omega
          case c4 => omega
          case c5 => have := lt5 HUS1.out.rest; simp; omega
          intro v1 w2 hown2 hg2 _ _
          have HUS2 := Lib.hid (HUS1.out.more ((Below.refl _ _).alloc (Nat.le_refl _) _) hg2 hown2)
          clear hown2 hg2
          go_wp2_with fail
          go_roundg gg
          case measure => omega
          case rel => exact ⟨acc ++ [t], r', HUS2.out, by rw [← HU.out, HUND.out]; simp only [if_neg HT.out, if_true], by omega, by simp; omega, more_le HTS.out (by omega)⟩
end Go.Proofs.Ytkkpfencnjnddaa
