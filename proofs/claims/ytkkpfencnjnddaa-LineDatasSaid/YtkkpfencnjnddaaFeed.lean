/-
  The walk of Feed.
-/
import Derived.Test.YtkkpfencnjnddaaGive
import Derived.Test.YtkkpfencnjnddaaNew
namespace Go.Proofs.Ytkkpfencnjnddaa
open Go.RowKit

/-- A slice of strings, as it lies in memory: nil too. -/
def Strs (w : World) (A : Option Addr) (n : Nat) (ps : List ByteArray) : Prop :=
  ps.length = n ∧ (0 < n → ∃ ad, A = some ad ∧ ad.block < w.heap.size ∧ ∀ j p, ps[j]? = some p → w.cell? (ad.add j) = some (.string p))
def joinB (ps : List ByteArray) : List UInt8 := ps.flatMap fun p => p.data.toList
theorem joinB_append (a b : List ByteArray) : joinB (a ++ b) = joinB a ++ joinB b := by simp [joinB]
theorem joinB_take {ps : List ByteArray} {i : Nat} {p : ByteArray} (h : ps[i]? = some p) : joinB (ps.take (i + 1)) = joinB (ps.take i) ++ p.data.toList := by
  obtain ⟨hi, rfl⟩ := List.getElem?_eq_some_iff.1 h
  rw [List.take_succ_eq_append_getElem hi, joinB_append]
  simp [joinB]

theorem FS.turn {W0 : World} {B g cb bb most pend pend' lines lines' : Nat} {r0 : Option Nat} {kept kept' : List UInt8} {last last' : UInt8} {v v' cv : Value} {L : List (List UInt8 × Int)} {w w1 : World} (h : FS W0 B g cb bb most r0 v kept pend last lines cv L w)
    (hc : Cut B w1 g v' most kept' pend' last' lines') (ho : Only g v.ownBlock v'.ownBlock w w1) : FS W0 B g cb bb most r0 v' kept' pend' last' lines' cv L w1 := by
  have hh : ∀ k o, w.heap[k]? = some o → k ≠ g → v.ownBlock ≠ some k → w1.heap[k]? = some o := fun k o hk hg hv => (ho.block k (lt5 hk) hg (fun e => hv e.symm)).trans hk
  have h1 := h.hg
  have h2 := h.hcb
  have h3 := h.hbb
  refine ⟨hc, hh _ _ h.came (by omega) (row_ne h.cut.own h.came (by decide)), hh _ _ h.box (by omega) (row_ne h.cut.own h.box (by decide)), own_of h.row fun k hk => ?_, h.only.trans ho, h2, h3, h1⟩
  have hlt := h.row.lt k hk
  exact ho.block k hlt.2 (by omega) fun e => rows_ne h.row h.cut.own (by decide) k hk e.symm

theorem FS.drew {W0 : World} {B g cb bb most pend lines : Nat} {r0 : Option Nat} {kept : List UInt8} {last : UInt8} {v cv : Value} {L : List (List UInt8 × Int)} {w : World} (h : FS W0 B g cb bb most r0 v kept pend last lines cv L w) : FS W0 B g cb bb most r0 v kept pend last lines cv L w.drew :=
  ⟨⟨h.cut.blk, h.cut.own, h.cut.ge⟩, h.came, h.box, h.row, h.only.drew, h.hcb, h.hbb, h.hg⟩
/-- What holds in Feed's loops, behind so many bytes. -/
def RelB (W0 : World) (B g cb bb most : Nat) (s : St) (r0 : Option Nat) (bs : List UInt8) (w : World) : Prop :=
  ∃ v cv, FS W0 B g cb bb most r0 v (feed most s bs).1.kept (feed most s bs).1.pend (feed most s bs).1.last (feed most s bs).1.lines cv (feed most s bs).2 w

def FeedPost (B g most : Nat) (s : St) (v : Value) (bs : List UInt8) (w : World) (e : Ending) (w' : World) : Prop :=
  ∃ v' o, e = .returned o ∧ Cut B w' g v' most (feed most s bs).1.kept (feed most s bs).1.pend (feed most s bs).1.last (feed most s bs).1.lines ∧ w'.ownsRow w.heap.size 49 2 o (feed most s bs).2.length (lnsV (feed most s bs).2) ∧ Only g v.ownBlock v'.ownBlock w w'

theorem relB_start {B g most : Nat} {s : St} {v : Value} {w : World} (hc : Cut B w g v most s.kept s.pend s.last s.lines) :
    RelB w B g (w.heap.size + 1) w.heap.size most s v.ownBlock [] ((w.alloc (Obj.cells #[.pointer (some ⟨g, 0, none⟩)] 25)).alloc (Obj.cells #[.slice none 0 0] 29)) := by
  have hb : Below w.heap.size w ((w.alloc (Obj.cells #[.pointer (some ⟨g, 0, none⟩)] 25)).alloc (Obj.cells #[.slice none 0 0] 29)) := ((Below.refl _ _).alloc (Nat.le_refl _) _).alloc (by simp) _
  refine ⟨v, .slice none 0 0, hc.below hb, ?_, ?_, ⟨rfl, .inl ⟨rfl, rfl⟩⟩, ((Only.refl g v.ownBlock w).alloc _).alloc _, by omega, Nat.le_refl _, lt5 hc.blk⟩
  · have := heap_alloc_new (w.alloc (Obj.cells #[.pointer (some ⟨g, 0, none⟩)] 25)) (Obj.cells #[.slice none 0 0] 29)
    simpa using this
  · exact (Below.heap_alloc _ _ _ (by simp)).trans (heap_alloc_new w _)
theorem Only.cell {g : Nat} {r r' : Option Nat} {a b : World} (h : Only g r r' a b) {p : Addr} (hp : p.block < a.heap.size) (hg : p.block ≠ g) (hr : r ≠ some p.block) : b.cell? p = a.cell? p :=
  World.cell?_of_block (h.block p.block hp hg fun e => hr e.symm)
theorem add_block (a : Addr) (n : Nat) : (a.add n).block = a.block := by unfold Addr.add; split <;> rfl

theorem relB_no {W0 : World} {B g cb bb most : Nat} {s S : St} {L : List (List UInt8 × Int)} {r0 : Option Nat} {bs : List UInt8} {x : UInt8} {v cv : Value} {w : World} (hS : (feed most s bs).1 = S) (hL : (feed most s bs).2 = L) (he : (S.last == 13 && x == 10) = false)
    (h : FS W0 B g cb bb most r0 v (keepB most S x) (S.pend + 1) x S.lines cv L w) : RelB W0 B g cb bb most s r0 (bs ++ [x]) w := by
  refine ⟨v, cv, ?_⟩
  rw [feed_snoc, hS, hL]
  unfold step
  rw [he, if_neg (by decide)]
  simpa using h
theorem relB_yes {W0 : World} {B g cb bb most : Nat} {s S : St} {L : List (List UInt8 × Int)} {r0 : Option Nat} {bs : List UInt8} {x : UInt8} {v cv : Value} {w : World} (hS : (feed most s bs).1 = S) (hL : (feed most s bs).2 = L) (he : (S.last == 13 && x == 10) = true)
    (h : FS W0 B g cb bb most r0 v [] 0 x (S.lines + 1) cv (L ++ [lineOf most (S.pend + 1) (keepB most S x)]) w) : RelB W0 B g cb bb most s r0 (bs ++ [x]) w := by
  refine ⟨v, cv, ?_⟩
  rw [feed_snoc, hS, hL]
  unfold step
  rw [he, if_pos rfl]
  exact h
theorem take_whole {p : ByteArray} {m : Nat} (h : p.size ≤ m) : p.data.toList.take m = p.data.toList := List.take_of_length_le (by rw [← Lib.size_eq]; exact h)
theorem take_bytes {p : ByteArray} {m : Nat} (h : m < p.size) {x : UInt8} (hx : p[m]'h = x) : p.data.toList.take (m + 1) = p.data.toList.take m ++ [x] := by
  rw [List.take_succ_eq_append_getElem (by simpa using h)]
  subst hx
  rfl
theorem whole_of {B g most pend lines : Nat} {kept : List UInt8} {last : UInt8} {v : Value} {w : World} (hc : Cut B w g v most kept pend last lines) (h2 : 2 ≤ kept.length) (hk : kept.length ≤ pend) (h6 : kept.length ≤ 65536) :
    Calls Try.prog 25 #[.pointer (some ⟨g, 0, none⟩)] w (WholePost B g most pend lines kept last v w) := by
  obtain ⟨k, cap, rfl, _, _⟩ := hc.own.form (by omega)
  obtain ⟨n, hn⟩ : ∃ n, kept.length = n + 2 := ⟨kept.length - 2, by omega⟩
  have hcap : kept.length ≤ cap := by
    rcases hc.own.2 with ⟨h, _⟩ | ⟨_, _, _, hv, _, _, hle, _⟩
    · cases h
    · injection hv with _ _ h3; subst h3; exact hle
  rw [hn] at hc hcap
  exact whole_x B g most pend lines k cap n kept last w hc hn hcap hk h6
theorem feed_bounds {most : Nat} {s : St} {bs all : List UInt8} (hle : bs.length ≤ all.length) (hp : s.pend + all.length ≤ 1000000000) (hl : s.lines + all.length ≤ 1000000000) : (feed most s bs).1.pend ≤ 1000000000 ∧ (feed most s bs).1.lines ≤ 1000000000 ∧ (feed most s bs).2.length ≤ 1000000000 := by
  obtain ⟨h1, h2, h3⟩ := feed_count most bs s
  omega
theorem join_le {ps : List ByteArray} {k m : Nat} {p : ByteArray} (h : ps[k]? = some p) : (joinB (ps.take k) ++ p.data.toList.take m).length ≤ (joinB ps).length ∧ p.size ≤ (joinB ps).length := by
  have e : joinB ps = joinB (ps.take k) ++ (p.data.toList ++ joinB (ps.drop (k + 1))) := by
    rw [← List.append_assoc, ← joinB_take h, ← joinB_append, List.take_append_drop]
  have e2 : p.data.toList.length = p.size := (Lib.size_eq p).symm
  rw [e]
  simp only [List.length_append, List.length_take]
  omega

set_option maxHeartbeats 1000000 in
theorem feed_x (B g most n c : Nat) (s : St) (v : Value) (A : Option Addr) (ps : List ByteArray) (w : World) (hc : Cut B w g v most s.kept s.pend s.last s.lines) (hi : Inv most s) (hm2 : 2 ≤ most) (hm6 : most ≤ 65536) (hB : B ≤ w.heap.size)
    (hp : s.pend + (joinB ps).length ≤ 1000000000) (hl : s.lines + (joinB ps).length ≤ 1000000000) (hps : Strs w A n ps) (hav : ∀ ad, A = some ad → 0 < n → ad.block ≠ g ∧ v.ownBlock ≠ some ad.block) (hn : n ≤ 1000000000) :
    Calls Try.prog 11 #[.pointer (some ⟨g, 0, none⟩), .slice A n c] w (FeedPost B g most s v (joinB ps) w) := by
  have hst := Lib.hid (relB_start hc)
  have HPS := Lib.hid hps
  have HAV := Lib.hid hav
  have HI := Lib.hid hi
  have HB := Lib.hid (And.intro hp hl)
  clear hc hps hav hi hp hl
  go_enter Try.func11, Try.ntmps11
  go_wp2_with fail
  go_loopw [13] (fun i wr => ∃ k : Nat, k ≤ n ∧ i = .int .i64 k ∧ RelB w B g (w.heap.size + 1) w.heap.size most s v.ownBlock (joinB (ps.take k)) wr) (fun i _ => n - (intOf i).toNat)
  case atStart => exact ⟨0, Nat.zero_le _, rfl, hst.out⟩
  case round =>
    obtain ⟨k, hk, rfl, hr⟩ := hrel
    by_cases hlt : k < n
    · obtain ⟨hlen, hrd⟩ := HPS.out
      obtain ⟨ad, rfl, hab, hcell⟩ := hrd (by omega)
      obtain ⟨hag, hav⟩ := HAV.out ad rfl (by omega)
      have hpk : ps[k]? = some (ps[k]'(by omega)) := List.getElem?_eq_getElem (by omega)
      generalize ps[k]'(by omega) = p at hpk
      have hcl : wr.cell? (ad.add k) = some (.string p) := by
        obtain ⟨v1, cv, h⟩ := hr
        rw [h.only.cell (by rw [add_block]; exact hab) (by rw [add_block]; exact hag) (by rw [add_block]; exact hav)]
        exact hcell k p hpk
      have HR := Lib.hid hr
      have HPK := Lib.hid hpk
      have HLEN := Lib.hid hlen
      clear hr hpk hcell hrd hlen hag hav
      have hps9 : p.size ≤ 1000000000 := by have := (join_le (m := 0) HPK.out).2; have := HB.out.1; omega
      go_wp2_with fail
      obtain ⟨wo, rfl⟩ : ∃ wo : World, wo = wr := ⟨_, rfl⟩
      go_loopw [19] (fun j wx => ∃ m : Nat, m ≤ p.size ∧ j = .int .i64 m ∧ RelB w B g (w.heap.size + 1) w.heap.size most s v.ownBlock (joinB (ps.take k) ++ p.data.toList.take m) wx) (fun j _ => p.size - (intOf j).toNat)
      case atStart => exact ⟨0, Nat.zero_le _, rfl, by simpa using HR.out⟩
      case round =>
        obtain ⟨m, hm, rfl, hr2⟩ := hrel
        by_cases hlt2 : m < p.size
        · have hbd := feed_bounds (most := most) (join_le (m := m) HPK.out).1 HB.out.1 HB.out.2
          have hinv := HI.out.feed (joinB (ps.take k) ++ p.data.toList.take m)
          obtain ⟨v1, cv, h⟩ := hr2
          generalize hS : (feed most s (joinB (ps.take k) ++ p.data.toList.take m)).1 = S at h hbd hinv
          generalize hL : (feed most s (joinB (ps.take k) ++ p.data.toList.take m)).2 = L at h hbd
          obtain ⟨x, hx⟩ : ∃ x : UInt8, p[m]'hlt2 = x := ⟨_, rfl⟩
          have HX := Lib.hid (take_bytes hlt2 hx)
          have HS := Lib.hid hS
          have HL := Lib.hid hL
          have hbx : wr.cell? ⟨w.heap.size, 0, none⟩ = some (.pointer (some ⟨g, 0, none⟩)) := cell5 h.box 0
          have hkl := keepB_len hinv x
          have htk := Lib.hid (take_x B g most S.pend S.lines S.kept S.last x v1 wr.drew h.drew.cut (Nat.le_trans hB h.only.size) (by omega) (by have := hinv.len; omega))
          have HF := Lib.hid h
          have HKL := Lib.hid hkl
          have HBD := Lib.hid hbd
          have HINV := Lib.hid hinv
          clear hS hL h hkl hbd hinv
          cases he : (S.last == 13 && x == 10)
          · go_wp2_with fail
            go_still_tail 4, (by kernel_rfl)
            go_wp2_with fail
            refine htk.out.mono ?_
            rintro e w1 ⟨v2, rfl, hc1, ho1⟩
            rw [he]
            have HF1 := Lib.hid (HF.out.drew.turn hc1 ho1)
            clear hc1 ho1 hbx
            go_wp2_with fail
            go_roundw
            case rel => exact ⟨m + 1, by omega, by go_num, by rw [HX.out, ← List.append_assoc]; exact relB_no HS.out HL.out he HF1.out⟩
            case measure => simp [intOf]; omega
          · have hlast : S.last = 13 := by
              simp only [Bool.and_eq_true, beq_iff_eq] at he
              exact he.1
            have hl2 : 2 ≤ (keepB most S x).length := by have := HKL.out; have := HINV.out.cr hlast; omega
            clear hlast
            go_wp2_with fail
            go_still_tail 4, (by kernel_rfl)
            go_wp2_with fail
            refine htk.out.mono ?_
            rintro e w1 ⟨v2, rfl, hc1, ho1⟩
            rw [he]
            obtain ⟨KP, hKP⟩ : ∃ KP, keepB most S x = KP := ⟨_, rfl⟩
            have hc1' : Cut B w1 g v2 most (keepB most S x) (S.pend + 1) x S.lines := hc1
            have hkpl := HKL.out
            rw [hKP] at hc1' hl2 hkpl
            have hf1 := HF.out.drew.turn hc1' ho1
            have HW := Lib.hid (whole_of hf1.cut hl2 (by omega) (by omega))
            have HKP := Lib.hid hKP
            clear hKP hkpl hc1'
            have hbx1 : w1.cell? ⟨w.heap.size, 0, none⟩ = some (.pointer (some ⟨g, 0, none⟩)) := cell5 hf1.box 0
            have HF1 := Lib.hid hf1
            clear hc1 ho1 hbx hf1 hl2
            go_wp2_with fail
            refine HW.out.mono ?_
            rintro e w2 ⟨rfl, v3, hc2, ho2⟩
            have hf2 := HF1.out.turn hc2 ho2
            have HG := Lib.hid (give_x _ _ _ _ _ _ _ _ _ _ _ _ _ _ _ (lineOf most (S.pend + 1) KP).1 (lineOf most (S.pend + 1) KP).2 hf2 (by have := HBD.out; omega) (by have := HBD.out; omega))
            clear hc2 ho2 hf2 hbx1
            go_wp2_with fail
            refine HG.out.mono ?_
            rintro e w3 ⟨rfl, cv', hf3⟩
            have HF3 := Lib.hid hf3
            clear hf3
            go_wp2_with fail
            go_roundw
            case rel => exact ⟨m + 1, by omega, by go_num, by rw [HX.out, ← List.append_assoc]; exact relB_yes HS.out HL.out he (by rw [HKP.out]; exact HF3.out)⟩
            case measure => simp [intOf]; omega
        · go_wp2_with fail
          go_roundw
          case rel => exact ⟨k + 1, by omega, by go_num, by rw [joinB_take HPK.out]; rw [take_whole (show p.size ≤ m by omega)] at hr2; exact hr2⟩
          case measure => simp [intOf]; omega
    · obtain ⟨v1, cv, h⟩ := hr
      rw [List.take_of_length_le (by rw [HPS.out.1]; omega)] at h
      have hcm : wr.cell? ⟨w.heap.size + 1, 0, none⟩ = some cv := cell5 h.came 0
      have HF := Lib.hid h
      clear h
      go_wp2_with fail
      go_ret
      exact ⟨v1, cv, rfl, HF.out.cut, HF.out.row, HF.out.only⟩
end Go.Proofs.Ytkkpfencnjnddaa
